import PyProof.Rows.All
import Wide.All
import OpenK.AllK
import Wide.FinOn
import Lean
import PyProof.EqAt
import PyProof.EqKinds
import PyProof.TupleCall
import PySem.Challenge.RW_duelground_k20_whole_again
set_option Elab.async false
set_option linter.all false
set_option maxRecDepth 100000
namespace L2
open PySem PySem.Spec PyProof.Rows
abbrev Key := Sum Int Str
def keyIs : Key → Value → Bool
  | .inl k, v => Value.isInt k v
  | .inr x, v => Value.isStrOf x v
def keyH (w : World) : Key → Int
  | .inl k => hashInt k
  | .inr x => hashStr w x
theorem keyIs_shape : ∀ {k : Key} {v : Value}, keyIs k v = true → (∃ i t, k = Sum.inl i ∧ v = Value.int i t) ∨ (∃ x t, k = Sum.inr x ∧ v = Value.str x t)
  | .inl i, v, h => by
    obtain ⟨t, e⟩ := Value.isInt_shape (k := i) (v := v) h
    exact .inl ⟨i, t, rfl, e⟩
  | .inr x, v, h => by
    obtain ⟨t, e⟩ := Value.isStrOf_shape (x := x) (v := v) h
    exact .inr ⟨x, t, rfl, e⟩
theorem keyIs_int (i : Int) (t : Tok) : keyIs (.inl i) (.int i t) = true := by simp [keyIs, Value.isInt]
theorem keyIs_str (x : Str) (t : Tok) : keyIs (.inr x) (.str x t) = true := by simp [keyIs, Value.isStrOf]
theorem key_ll (a b : Int) : decide ((Sum.inl a : Key) = Sum.inl b) = (a == b) := by
  by_cases e : a = b
  · subst e; simp
  · have h : ¬ (Sum.inl a : Key) = Sum.inl b := fun q => e (Sum.inl.inj q)
    rw [decide_eq_false h]
    exact (beq_eq_false_iff_ne.mpr e).symm
theorem key_rr (a b : Str) : decide ((Sum.inr a : Key) = Sum.inr b) = decide (a = b) := by
  by_cases e : a = b
  · subst e; simp
  · have h : ¬ (Sum.inr a : Key) = Sum.inr b := fun q => e (Sum.inr.inj q)
    rw [decide_eq_false h, decide_eq_false e]
theorem key_lr (a : Int) (b : Str) : decide ((Sum.inl a : Key) = Sum.inr b) = false := decide_eq_false (fun q => nomatch q)
theorem key_rl (a : Str) (b : Int) : decide ((Sum.inr a : Key) = Sum.inl b) = false := decide_eq_false (fun q => nomatch q)
def mixKind (prog : Program) (w : World) : PySem.KeyKind prog w Key where
  is := keyIs
  hash := keyH w
  inj := fun v a b ha hb => by
    rcases keyIs_shape ha with ⟨i, t, rfl, rfl⟩ | ⟨x, t, rfl, rfl⟩
    · rcases keyIs_shape hb with ⟨j, u, rfl, e⟩ | ⟨y, u, rfl, e⟩
      · injection e with e1 _; rw [e1]
      · exact nomatch e
    · rcases keyIs_shape hb with ⟨j, u, rfl, e⟩ | ⟨y, u, rfl, e⟩
      · exact nomatch e
      · injection e with e1 _; rw [e1]
  byValue := fun k v h => by
    rcases keyIs_shape h with ⟨i, t, rfl, rfl⟩ | ⟨x, t, rfl, rfl⟩ <;> rfl
  pyHash := fun hv h => by
    rcases keyIs_shape hv with ⟨i, t, rfl, rfl⟩ | ⟨x, t, rfl, rfl⟩
    · exact wpAny_pyHash_int h
    · exact wpAny_pyHash_str h
  eqBool := fun hu hv h => by
    rcases keyIs_shape hu with ⟨i, t, rfl, rfl⟩ | ⟨x, t, rfl, rfl⟩
    · rcases keyIs_shape hv with ⟨j, u, rfl, rfl⟩ | ⟨y, u, rfl, rfl⟩
      · rw [key_ll] at h; exact wpAny_eqBool_int h
      · rw [key_lr] at h; exact SeqAt.EqAt.int_str i t y u _ _ _ _ h
    · rcases keyIs_shape hv with ⟨j, u, rfl, rfl⟩ | ⟨y, u, rfl, rfl⟩
      · rw [key_rl] at h; exact SeqAt.EqAt.str_int x t j u _ _ _ _ h
      · rw [key_rr] at h; exact wpAny_eqBool_str h
  «strs» := fun k x t v h => by
    rcases keyIs_shape h with ⟨i, u, rfl, e⟩ | ⟨y, u, rfl, e⟩
    · exact nomatch e
    · injection e with e1 _
      subst e1
      cases v <;> rfl
theorem mixKind_int (prog : Program) (w : World) (i : Int) (t : Tok) : (mixKind prog w).is (.inl i) (.int i t) = true := keyIs_int i t
theorem mixKind_str (prog : Program) (w : World) (x : Str) (t : Tok) : (mixKind prog w).is (.inr x) (.str x t) = true := keyIs_str x t
end L2
namespace L2
open PySem PySem.Spec PyProof.Rows
inductive V where
  | non | bl (b : Bool) | int (i : Int) | str (x : Str) | byt (b : Array UInt8) | flt (b : UInt64) | ref (a : Addr) | ty (n : String)
  deriving DecidableEq
def RelV : V → Value → Prop
  | .non, u => u = Value.none
  | .bl b, u => u = Value.bool b
  | .int i, u => ∃ t, u = Value.int i t
  | .str x, u => ∃ t, u = Value.str x t
  | .byt b, u => ∃ t, u = Value.bytes b t
  | .flt b, u => ∃ t, u = Value.float b t
  | .ref a, u => u = Value.ref a
  | .ty n, u => u = Value.type n
abbrev Vals : List V → List Value → Prop := Paired RelV
theorem Vals.length {xs : List V} {us : List Value} (r : Vals xs us) : xs.length = us.length := Paired.length r
theorem Vals.get : ∀ {xs : List V} {us : List Value} {i : Nat} {x : V}, Vals xs us → xs[i]? = some x → ∃ u, us[i]? = some u ∧ RelV x u
  | _, _, _, _, .nil, e => by simp at e
  | _, _, 0, _, .cons r _, e => by simp at e; subst e; exact ⟨_, rfl, r⟩
  | _, _, i + 1, x, .cons _ t, e => by
    obtain ⟨u, h1, h2⟩ := Vals.get (i := i) (x := x) t (by simpa using e)
    exact ⟨u, by simpa using h1, h2⟩
theorem Vals.set {x : V} {u : Value} (r : RelV x u) : ∀ {xs : List V} {us : List Value} (i : Nat), Vals xs us → Vals (xs.set i x) (us.set i u)
  | _, _, _, .nil => .nil
  | _, _, 0, .cons _ t => .cons r t
  | _, _, i + 1, .cons q t => .cons q (Vals.set r i t)
theorem Vals.append : ∀ {xs ys : List V} {us ws : List Value}, Vals xs us → Vals ys ws → Vals (xs ++ ys) (us ++ ws)
  | _, _, _, _, .nil, s => s
  | _, _, _, _, .cons r t, s => .cons r (Vals.append t s)
theorem Vals.take : ∀ {xs : List V} {us : List Value} (n : Nat), Vals xs us → Vals (xs.take n) (us.take n)
  | _, _, 0, _ => .nil
  | _, _, _ + 1, .nil => .nil
  | _, _, n + 1, .cons r t => .cons r (Vals.take n t)
theorem Vals.drop : ∀ {xs : List V} {us : List Value} (n : Nat), Vals xs us → Vals (xs.drop n) (us.drop n)
  | _, _, 0, r => r
  | _, _, _ + 1, .nil => .nil
  | _, _, n + 1, .cons _ t => Vals.drop n t
def RelO : Option V → Option Value → Prop
  | some v, some u => RelV v u
  | none, none => True
  | _, _ => False
def KV {κ : Type} : List (κ × V) → List (κ × Value) → Prop := Paired fun (p : κ × V) (q : κ × Value) => p.1 = q.1 ∧ RelV p.2 q.2
def kV : Key → V
  | .inl i => .int i
  | .inr x => .str x
inductive HO where
  /-- a list -/
  | lst (xs : List V)
  /-- a tuple (never changes) -/
  | tup (xs : List V)
  /-- a dict whose keys are ints and texts; one whose keys are tuples of ints and texts (the empty one is both) -/
  | dK (kvs : List (Key × V)) | dT (kvs : List (List Key × V))
  /-- a set of ints: its members, its size -/
  | set (S : Int → Bool) (n : Nat)
  /-- an instance of the class at C, its dict at dx, its attributes -/
  | ins (C dx : Addr) (fs : List (Str × V))
  /-- the dict of the instance at x -/
  | own (x : Addr)
  /-- the dict of an exception -/
  | xd (fs : List (Str × V))
  /-- a bound method, f of x -/
  | met (f x : Addr)
  /-- a range object lo, lo + 1, .. below hi -/
  | rng (lo hi : Int)
  /-- a thing that is known to the object (the script; a dict while a loop walks it): read, never written while it is so -/
  | frz (o : Obj) (u : HO)
  /-- a code object's table -/
  | tbl (ps : Array Value)
  /-- any other thing, by what is true of its one object (a def of one's own: SetO a S n := HO.ext fun h => ..) -/
  | ext (φ : Heap → Prop)
abbrev Hp := Addr → Option HO
def upd (H : Hp) (a : Addr) (o : HO) : Hp := fun b => if b = a then some o else H b
theorem upd_same {H : Hp} {a : Addr} {o : HO} : upd H a o a = some o := by unfold upd; rw [if_pos rfl]
theorem upd_ne {H : Hp} {a b : Addr} {o : HO} (h : b ≠ a) : upd H a o b = H b := by unfold upd; rw [if_neg h]
theorem ne_of {H : Hp} {a b : Addr} {o u : HO} (h : H a = some o) (h' : H b = some u) (d : o ≠ u) : a ≠ b := by
  intro e; subst e; rw [h] at h'; exact d (Option.some.inj h')
theorem ne_of_none {H : Hp} {a b : Addr} {o : HO} (h : H a = some o) (h' : H b = none) : a ≠ b := by
  intro e; subst e; rw [h] at h'; cases h'
section
variable (P : Program) (w : World)
def ObjOk (H : Hp) (h : Heap) (a : Addr) : HO → Prop
  | .lst xs => xs.length ≤ sizeLine ∧ ∃ (its : List Value) (n : Nat), Vals xs its ∧ h.get? a = some { cls := .type "list", data := .seq its.toArray n }
  | .tup xs => xs.length ≤ sizeLine ∧ ∃ its : List Value, Vals xs its ∧ IsTup h a its.toArray
  | .dK kvs => kvs.length ≤ sizeLine ∧ (a == sysModules) = false ∧ ∃ vs, KV kvs vs ∧ h.DictOf (mixKind P w) a vs
  | .dT kvs => kvs.length ≤ sizeLine ∧ (a == sysModules) = false ∧ ∃ xs : List (List Key × Addr × Value),
      Paired (fun (p : List Key × V) (q : List Key × Addr × Value) => p.1 = q.1 ∧ H q.2.1 = some (.tup (p.1.map kV)) ∧ RelV p.2 q.2.2) kvs xs ∧
      ∃ o es ep, h.get? a = some o ∧ o.ExactDict ∧ o.data = .dict es ep ∧ es.toList = xs.map (entryOfKey (tupleKind (mixKind P w))) ∧ (xs.map (·.1)).Nodup
  | .set S n => h.SetOf (intKind P w) a S n
  | .ins C dx fs => H dx = some (.own a) ∧ fs.length ≤ 1000 ∧ dx ≠ a ∧ h.get? a = some (PySem.W.instObj C dx) ∧
      ∃ mA, h.Ns1 dx mA ∧ (∀ f, RelO (fs.lookup f) (mA f)) ∧ PySem.Within mA (fs.map (·.1))
  | .own _ => ∃ o, h.get? a = some o
  | .xd fs => ∃ mA, h.Ns1 a mA ∧ ∀ f, RelO (fs.lookup f) (mA f)
  | .rng lo hi => ∃ t u v, h.get? a = some { cls := .type "range", data := .fields #[.int lo t, .int hi u, .int 1 v] }
  | .frz o u => h.get? a = some o ∧ ObjOk H h a u
  | .tbl ps => h.get? a = some { cls := .none, data := .fields ps }
  | .met f x => h.get? a = some (PySem.W.methodObj (.ref f) (.ref x))
  | .ext φ => φ h ∧ (∃ o, h.get? a = some o) ∧ ∀ h1 h2 : Heap, φ h1 → (∀ o, h1.get? a = some o → h2.get? a = some o) → φ h2
def HOk (H : Hp) (h : Heap) : Prop := ∀ a o, H a = some o → ObjOk P w H h a o
end
section
variable {P : Program} {w : World} {H H' : Hp} {h h' : Heap} {a : Addr} {o : HO}
theorem ObjOk.lt (x : ObjOk P w H h a o) : a < h.objs.size := by
  cases o with
  | lst xs => obtain ⟨_, _, _, _, e⟩ := x; exact Heap.lt_size e
  | tup xs => obtain ⟨_, _, _, p⟩ := x; exact p.lt
  | dK kvs => obtain ⟨_, _, _, _, o, _, _, e, _⟩ := x; exact Heap.lt_size e
  | dT kvs => obtain ⟨_, _, _, _, o, _, _, e, _⟩ := x; exact Heap.lt_size e
  | set S n => obtain ⟨o, _, _, _, e, _⟩ := x; exact Heap.lt_size e
  | ins C dx fs => obtain ⟨_, _, _, e, _⟩ := x; exact Heap.lt_size e
  | own y => obtain ⟨_, e⟩ := x; exact Heap.lt_size e
  | xd fs => obtain ⟨_, ⟨_, _, _, e, _⟩, _⟩ := x; exact Heap.lt_size e
  | rng lo hi => obtain ⟨_, _, _, e⟩ := x; exact Heap.lt_size e
  | frz ob u => obtain ⟨e, _⟩ := x; exact Heap.lt_size e
  | tbl ps => exact Heap.lt_size (show h.get? a = some _ from x)
  | met f y => exact Heap.lt_size (show h.get? a = some _ from x)
  | ext φ => obtain ⟨_, ⟨_, e⟩, _⟩ := x; exact Heap.lt_size e
theorem Paired.mapP {α β : Type} {F G : α → β → Prop} : ∀ {l₁ : List α} {l₂ : List β}, Paired F l₁ l₂ → (∀ a b, F a b → G a b) → Paired G l₁ l₂
  | _, _, .nil, _ => .nil
  | _, _, .cons r t, f => .cons (f _ _ r) (Paired.mapP t f)
theorem ObjOk.stay (x : ObjOk P w H h a o) (k : ∀ b u, (b = a ∨ H b = some (.own a)) → h.get? b = some u → h'.get? b = some u)
    (ho : ∀ b, H b = some (.own a) → H' b = some (.own a)) (ht : ∀ b xs, H b = some (.tup xs) → H' b = some (.tup xs)) : ObjOk P w H' h' a o := by
  induction o with
  | lst xs => obtain ⟨z, its, n, r, e⟩ := x; exact ⟨z, its, n, r, k _ _ (.inl rfl) e⟩
  | tup xs => obtain ⟨z, its, r, ob, e, c⟩ := x; exact ⟨z, its, r, ob, k _ _ (.inl rfl) e, c⟩
  | dK kvs => obtain ⟨z, y, vs, r, ob, es, ep, e, c⟩ := x; exact ⟨z, y, vs, r, ob, es, ep, k _ _ (.inl rfl) e, c⟩
  | dT kvs =>
    obtain ⟨z, y, xs, r, ob, es, ep, e, c⟩ := x
    exact ⟨z, y, xs, Paired.mapP r fun p q z => ⟨z.1, ht _ _ z.2.1, z.2.2⟩, ob, es, ep, k _ _ (.inl rfl) e, c⟩
  | set S n => obtain ⟨ob, es, ep, t, e, c⟩ := x; exact ⟨ob, es, ep, t, k _ _ (.inl rfl) e, c⟩
  | ins C dx fs =>
    obtain ⟨d, z, ne, e, mA, ⟨od, es, ep, e2, c⟩, r⟩ := x
    exact ⟨ho _ d, z, ne, k _ _ (.inl rfl) e, mA, ⟨od, es, ep, k _ _ (.inr d) e2, c⟩, r⟩
  | own y => obtain ⟨ob, e⟩ := x; exact ⟨ob, k _ _ (.inl rfl) e⟩
  | xd fs => obtain ⟨mA, ⟨od, es, ep, e, c⟩, r⟩ := x; exact ⟨mA, ⟨od, es, ep, k _ _ (.inl rfl) e, c⟩, r⟩
  | rng lo hi => obtain ⟨t, u, v, e⟩ := x; exact ⟨t, u, v, k _ _ (.inl rfl) e⟩
  | frz ob u ih => obtain ⟨e, q⟩ := x; exact ⟨k _ _ (.inl rfl) e, ih q⟩
  | tbl ps =>
    have e : h.get? a = some { cls := .none, data := .fields ps } := x
    show h'.get? a = some { cls := .none, data := .fields ps }
    exact k a _ (.inl rfl) e
  | met f y =>
    have e : h.get? a = some (PySem.W.methodObj (.ref f) (.ref y)) := x
    show h'.get? a = some (PySem.W.methodObj (.ref f) (.ref y))
    exact k a _ (.inl rfl) e
  | ext φ => obtain ⟨p, ⟨o, e⟩, st⟩ := x; exact ⟨st _ _ p fun o q => k _ _ (.inl rfl) q, ⟨o, k _ _ (.inl rfl) e⟩, st⟩
theorem HOk.lt (x : HOk P w H h) (e : H a = some o) : a < h.objs.size := (x a o e).lt
theorem HOk.fresh (x : HOk P w H h) (e : h.objs.size ≤ a) : H a = none := by
  cases q : H a with
  | none => rfl
  | some u => exact absurd (Nat.lt_of_lt_of_le (x.lt q) e) (Nat.lt_irrefl _)
theorem HOk.kept (x : HOk P w H h) (k : ∀ b u, h.get? b = some u → h'.get? b = some u) : HOk P w H h' := fun a o e =>
  (x a o e).stay (fun b u _ q => k b u q) (fun _ q => q) fun _ _ q => q
theorem HOk.laid (x : HOk P w H h) (k : ∀ b u, h.get? b = some u → h'.get? b = some u) (hp : h.objs.size ≤ a) (new : ObjOk P w (upd H a o) h' a o) : HOk P w (upd H a o) h' := fun b u e => by
  have hn := x.fresh hp
  by_cases hb : b = a
  · subst hb; rw [upd_same] at e; cases e; exact new
  · rw [upd_ne hb] at e
    exact (x b u e).stay (fun c v _ q => k c v q) (fun c q => by rw [upd_ne (ne_of_none q hn)]; exact q) fun c xs q => by rw [upd_ne (ne_of_none q hn)]; exact q
end
def Rd (H : Hp) (a : Addr) (u : HO) : Prop := H a = some u ∨ ∃ o, H a = some (.frz o u)
theorem Rd.ok {P : Program} {w : World} {H : Hp} {h : Heap} {a : Addr} {u : HO} (r : Rd H a u) (x : HOk P w H h) : ObjOk P w H h a u := by
  rcases r with r | ⟨o, r⟩
  · exact x a u r
  · obtain ⟨_, q⟩ := x a _ r
    exact q
def Mut : Option HO → Prop
  | some (.lst _) => True
  | some (.dK _) => True
  | some (.dT _) => True
  | some (.set _ _) => True
  | some (.ins _ _ _) => True
  | some (.ext _) => True
  | _ => False
section
variable {P : Program} {w : World} {H : Hp} {h h' : Heap} {x e : Addr} {o' : HO}
theorem HOk.write (ok : HOk P w H h) (mu : Mut (H x)) (he : e = x ∨ H e = some (.own x)) (k : ∀ b u, b ≠ e → h.get? b = some u → h'.get? b = some u) (heo : ∃ u, h'.get? e = some u)
    (new : ObjOk P w (upd H x o') h' x o') : HOk P w (upd H x o') h' := fun b u q => by
  have nown : ∀ c y, H c = some (.own y) → c ≠ x := fun c y r z => by subst z; rw [r] at mu; exact mu
  have ntup : ∀ c xs, H c = some (.tup xs) → c ≠ x := fun c xs r z => by subst z; rw [r] at mu; exact mu
  by_cases hb : b = x
  · subst hb; rw [upd_same] at q; cases q; exact new
  · rw [upd_ne hb] at q
    by_cases hbe : b = e
    · have q' : H b = some (.own x) := by
        rcases he with z | z
        · exact absurd (hbe.trans z) hb
        · rw [hbe]; exact z
      rw [q] at q'; cases q'
      obtain ⟨v, hv⟩ := heo
      exact ⟨v, by rw [hbe]; exact hv⟩
    · refine (ok b u q).stay (fun c v hc r => k c v ?_ r) (fun c r => by rw [upd_ne (nown c b r)]; exact r) fun c xs r => by rw [upd_ne (ntup c xs r)]; exact r
      rcases hc with rfl | hc
      · exact hbe
      · rintro rfl
        rcases he with z | z
        · exact nown c b hc z
        · rw [hc] at z; cases z; exact hb rfl
end
structure Un (fs ex : List Addr) (H H' : Hp) (h h' : Heap) : Prop where
  keep : ∀ b o, h.get? b = some o → H b = none → b ∉ fs → b ∉ ex → h'.get? b = some o
  slot : ∀ b o, h.get? b = some o → H b = none → b ∈ fs → b ∉ ex → ∃ sl, h'.get? b = some { o with slots := sl }
  free : ∀ b o, h.get? b = some o → H b = none → b ∉ ex → H' b = none
  there : ∀ b o, h.get? b = some o → b ∉ ex → ∃ o', h'.get? b = some o'
  tups : ∀ b xs, H b = some (.tup xs) → H' b = some (.tup xs)
  frzs : ∀ b o u, H b = some (.frz o u) → H' b = some (.frz o u)
  tbls : ∀ b ps, H b = some (.tbl ps) → ∃ more, H' b = some (.tbl (ps ++ more))
section
variable {fs fs' ex ex' : List Addr} {H H1 H2 : Hp} {h h1 h2 h' : Heap} {a x e : Addr} {o : HO}
theorem Un.any (u : Un fs ex H H1 h h1) {b : Addr} {ob : Obj} (q : h.get? b = some ob) (n : H b = none) (hx : b ∉ ex) : ∃ sl, h1.get? b = some { ob with slots := sl } := by
  by_cases hb : b ∈ fs
  · exact u.slot b ob q n hb hx
  · exact ⟨ob.slots, u.keep b ob q n hb hx⟩
theorem Un.kept (k : ∀ b u, h.get? b = some u → h'.get? b = some u) : Un fs ex H H h h' :=
  ⟨fun b ob q _ _ _ => k b ob q, fun b ob q _ _ _ => ⟨ob.slots, k b ob q⟩, fun _ _ _ n _ => n, fun b ob q _ => ⟨ob, k b ob q⟩, fun _ _ q => q, fun _ _ _ q => q, fun _ ps q => ⟨#[], by rw [q]; simp⟩⟩
theorem Un.refl : Un fs ex H H h h := Un.kept fun _ _ q => q
theorem Un.laid (k : ∀ b u, h.get? b = some u → h'.get? b = some u) (hp : h.objs.size ≤ a) (hn : H a = none) : Un fs ex H (upd H a o) h h' where
  keep := fun b u q _ _ _ => k b u q
  slot := fun b u q _ _ _ => ⟨u.slots, k b u q⟩
  free := fun b u q n _ => by rw [upd_ne (Nat.ne_of_lt (Nat.lt_of_lt_of_le (Heap.lt_size q) hp))]; exact n
  there := fun b u q _ => ⟨u, k b u q⟩
  tups := fun b xs q => by rw [upd_ne (ne_of_none q hn)]; exact q
  frzs := fun b u xs q => by rw [upd_ne (ne_of_none q hn)]; exact q
  tbls := fun b ps q => ⟨#[], by rw [upd_ne (ne_of_none q hn), q]; simp⟩
theorem Un.write (mu : Mut (H x)) (he : e = x ∨ H e = some (.own x)) (k : ∀ b u, b ≠ e → h.get? b = some u → h'.get? b = some u) (heo : ∃ u, h'.get? e = some u) : Un fs ex H (upd H x o) h h' := by
  have hx : ∀ b, H b = none → b ≠ x := fun b n z => by subst z; rw [n] at mu; exact mu
  have hb : ∀ b, H b = none → b ≠ e := fun b n z => by
    subst z
    rcases he with r | r
    · exact hx b n r
    · rw [n] at r; cases r
  have hm : ∀ b u, H b = some u → ¬ Mut (some u) → b ≠ x := fun b u q nm z => by subst z; rw [q] at mu; exact nm mu
  refine ⟨fun b u q n _ _ => k b u (hb b n) q, fun b u q n _ _ => ⟨u.slots, k b u (hb b n) q⟩, fun b u q n _ => by rw [upd_ne (hx b n)]; exact n, fun b u q _ => ?_,
    fun b xs q => by rw [upd_ne (hm b _ q fun z => z)]; exact q, fun b u xs q => by rw [upd_ne (hm b _ q fun z => z)]; exact q, fun b ps q => ⟨#[], by rw [upd_ne (hm b _ q fun z => z), q]; simp⟩⟩
  by_cases hbe : b = e
  · subst hbe; exact heo
  · exact ⟨u, k b u hbe q⟩
end
def trk (h : Heap) (H : Hp) : List Addr := (List.range h.objs.size).filter fun a => (H a).isSome
def hidT (h : Heap) (H : Hp) : Heap := PySem.W.hideAll h (trk h H)
theorem hidT_size (h : Heap) (H : Hp) : (hidT h H).objs.size = h.objs.size := PySem.W.hideAll_size _ _
theorem hidT_get {h : Heap} {H : Hp} {b : Addr} {o : Obj} (e : h.get? b = some o) (n : H b = none) : (hidT h H).get? b = some o :=
  PySem.W.hideAll_get _ e fun hm => by
    have q : (H b).isSome = true := (List.mem_filter.mp hm).2
    rw [n] at q; simp at q
theorem of_hidT {h : Heap} {H : Hp} {b : Addr} {o : Obj} (e : (hidT h H).get? b = some o) : h.get? b = some o ∧ H b = none := by
  have e' : h.get? b = some o := PySem.W.of_hideAll (trk h H) e
  refine ⟨e', ?_⟩
  cases q : H b with
  | none => rfl
  | some x =>
    have hm : b ∈ trk h H := List.mem_filter.mpr ⟨List.mem_range.mpr (Heap.lt_size e'), by simp [q]⟩
    have z : (hidT h H).get? b = none := PySem.W.hideAll_none (trk h H) hm
    rw [z] at e; cases e
def allNews (g h : Heap) (L : Addr) : List (Addr × Obj) := (List.range h.objs.size).filterMap fun a => if a = L ∨ (g.get? a).isSome = true then none else (h.get? a).map fun o => (a, o)
def rest (g h : Heap) (L d : Addr) : List (Addr × Obj) := (allNews g h L).filter fun p => decide (p.1 ≠ d)
end L2
namespace L2
open PySem PySem.Spec PyProof.Rows
structure Mod (K : PySem.W.Frag) (mg : Str → Option Value) (base : Heap) : Prop where
  kin : K.In base
  glob : base.Ns mainGlobals mg
  blt : ∃ mb, base.Ns builtinsNs mb ∧ ∀ x : Str, x ≠ "__name__" → mb x = bootBuiltins x
  nolimit : base.NoLimit
structure Cx where
  prog : Program
  w : World
  K : PySem.W.Frag
  mg : Str → Option Value
  base : Heap
  A : Around
  N : List Str
  s₀ : Shared
  H₀ : Hp
  env : Env
  outer : List Env
  stack : List Env
  ex : List Addr
  fn : Str → Bool
  calm : Bool
  pn : List (Addr × Obj)
  xe : Value → Shared → Prop
def frs (l : List Env) : List Addr := l.filterMap (·.frame)
abbrev Cx.fs (X : Cx) : List Addr := frs X.outer
def Vis (sc : Scope) (x : Str) : Prop := sc.names.lookup x = some .local ∨ sc.names.lookup x = some .cell ∨ sc.names.lookup x = some .free
def Loc (sc : Scope) (x : Str) : Prop := sc.names.lookup x = some .local ∨ sc.names.lookup x = some .cell
def Look (env : Env) (h : Heap) (m : Str → Option Value) (x : Str) (u : Value) : Prop :=
  (env.kindOf x = some .local ∧ m x = some u) ∨ ((env.kindOf x = some .cell ∨ env.kindOf x = some .free) ∧ ∃ c, env.cells.lookup x = some c ∧ h.IsCell c (some u))
structure Cx.Ok (X : Cx) : Prop where
  mod : Mod X.K X.mg X.base
  kind : X.env.scope.kind = .function
  glob : X.env.globals = mainGlobals
  blt : X.env.builtins = builtinsNs
  above : X.s₀.heap.objs.size ≤ X.env.locals
  inj : ∀ x y c, X.env.cells.lookup x = some c → X.env.cells.lookup y = some c → x = y
  has : ∀ x, (X.env.kindOf x = some .cell ∨ X.env.kindOf x = some .free) → ∃ c, X.env.cells.lookup x = some c
  cab : ∀ x c, X.fn x = true → X.env.cells.lookup x = some c → X.s₀.heap.objs.size ≤ c
  hd : X.calm = true → X.A.handled = none
  frames : X.A.frames = some X.stack
  stk : X.stack = X.outer ∨ (X.stack = X.env :: X.outer ∧ X.env.frame = some X.env.locals)
  exf : ∀ b ∈ X.ex, b ≠ X.env.locals ∧ ∀ x c, X.env.cells.lookup x = some c → c ≠ b
  bs : ∀ b o, X.base.get? b = some o → X.s₀.heap.get? b = some o ∧ X.H₀ b = none
  bsz : X.base.objs.size ≤ X.s₀.heap.objs.size
  noex : ∀ b o, X.base.get? b = some o → b ∉ X.ex
  exfs : ∀ b ∈ X.ex, b ∉ X.fs
  funs : X.s₀.heap.FunFrames X.base X.outer
  frf : ∀ b ∈ X.fs, X.H₀ b = none
structure Inv (X : Cx) (pins : List (Addr × Obj)) (σ : List (Option V)) (H : Hp) (s : Shared) : Prop where
  ok : X.Ok
  os : s.os = X.s₀.os
  bare : AllBare s.gens
  base : Un X.fs X.ex X.H₀ H X.s₀.heap s.heap
  loc : ∃ m, s.heap.Ns X.env.locals m ∧ ∀ (i : Nat) (x : Str) (v : V), X.N[i]? = some x → σ[i]? = some (some v) → Vis X.env.scope x → ∃ u, RelV v u ∧ Look X.env s.heap m x u
  cell : ∀ x c, X.env.cells.lookup x = some c → ∃ v, s.heap.IsCell c v
  free : H X.env.locals = none
  freeC : ∀ x c, X.env.cells.lookup x = some c → H c = none
  pin : ∀ p ∈ X.pn ++ pins, s.heap.get? p.1 = some p.2 ∧ H p.1 = none ∧ p.1 ≠ X.env.locals ∧ p.1 ∉ X.fs ∧ ∀ v, p.2.data ≠ .cell v
  hok : HOk X.prog X.w H s.heap
  len : σ.length = X.N.length
section
variable {X : Cx} {pins : List (Addr × Obj)} {σ : List (Option V)} {H H' : Hp} {s : Shared} {h' : Heap}
theorem Cx.Ok.nofr (ok : X.Ok) {b : Addr} {o : Obj} (e : X.base.get? b = some o) : b ∉ X.fs := fun hb => by
  have := (ok.funs.mem hb).1
  rw [e] at this; cases this
theorem Inv.bs (I : Inv X pins σ H s) : ∀ b o, X.base.get? b = some o → s.heap.get? b = some o ∧ H b = none := fun b o e =>
  ⟨I.base.keep b o (I.ok.bs b o e).1 (I.ok.bs b o e).2 (I.ok.nofr e) (I.ok.noex b o e), I.base.free b o (I.ok.bs b o e).1 (I.ok.bs b o e).2 (I.ok.noex b o e)⟩
theorem Inv.bk (I : Inv X pins σ H s) : ∀ b o, X.base.get? b = some o → s.heap.get? b = some o := fun b o e => (I.bs b o e).1
theorem Inv.mod (I : Inv X pins σ H s) : Mod X.K X.mg X.base := I.ok.mod
theorem Inv.kIn (I : Inv X pins σ H s) : X.K.In s.heap := I.ok.mod.kin.keeps I.bk
theorem Inv.lt (I : Inv X pins σ H s) : X.env.locals < s.heap.objs.size := let ⟨_, hn, _⟩ := I.loc; hn.lt
theorem Inv.sz (I : Inv X pins σ H s) : X.s₀.heap.objs.size ≤ s.heap.objs.size := Nat.le_trans I.ok.above (Nat.le_of_lt I.lt)
theorem Inv.nofs (I : Inv X pins σ H s) {a : Addr} (h : s.heap.objs.size ≤ a) : a ∉ X.fs := fun hb => by
  obtain ⟨_, o, ho, _⟩ := I.ok.funs.mem hb
  exact absurd (Nat.lt_of_lt_of_le (Heap.lt_size ho) (Nat.le_trans I.sz h)) (Nat.lt_irrefl _)
theorem Inv.cne (I : Inv X pins σ H s) : ∀ x c, X.env.cells.lookup x = some c → c ≠ X.env.locals := fun x c e z => by
  obtain ⟨v, o, ho, hd⟩ := I.cell x c e
  obtain ⟨m, ⟨o', es, ep, ho', hd', _⟩, _⟩ := I.loc
  rw [z, ho'] at ho; cases ho; rw [hd'] at hd; cases hd
theorem Inv.funs (I : Inv X pins σ H s) : s.heap.FunFrames X.base X.outer := by
  have all : ∀ (l : List Env), (∀ b ∈ frs l, b ∈ X.fs) → X.s₀.heap.FunFrames X.base l → s.heap.FunFrames X.base l := by
    intro l
    induction l with
    | nil => intro _ _; trivial
    | cons env r ih =>
      intro hs hl
      obtain ⟨hk, ⟨L, o, hf, hn, ho, hd⟩, hr⟩ := hl
      have hL : L ∈ X.fs := hs L (by unfold frs; rw [List.filterMap_cons, hf]; exact List.mem_cons_self)
      obtain ⟨sl, e⟩ := I.base.slot L o ho (I.ok.frf L hL) hL fun z => I.ok.exfs L z hL
      exact ⟨hk, ⟨L, _, hf, hn, e, hd⟩, ih (fun b hb => hs b (by unfold frs; rw [List.filterMap_cons, hf]; exact List.mem_cons_of_mem _ hb)) hr⟩
  exact all X.outer (fun _ hb => hb) I.ok.funs
theorem Inv.stack (I : Inv X pins σ H s) : s.heap.FunFrames X.base X.stack := by
  rcases I.ok.stk with e | ⟨e, hf⟩
  · rw [e]; exact I.funs
  · rw [e]
    obtain ⟨m, hn, _⟩ := I.loc
    refine .cons (by rw [I.ok.kind]; decide) hf hn ?_ I.funs
    exact Heap.get?_none_of_le (Nat.le_trans I.ok.bsz I.ok.above)
theorem Inv.stkSub (I : Inv X pins σ H s) : ∀ b ∈ frs X.stack, b ∈ X.env.locals :: X.fs := fun b hb => by
  rcases I.ok.stk with e | ⟨e, hf⟩
  · rw [e] at hb; exact List.mem_cons_of_mem _ hb
  · rw [e] at hb
    unfold frs at hb
    rw [List.filterMap_cons, hf] at hb
    exact hb
theorem Inv.stkFree (I : Inv X pins σ H s) : ∀ b ∈ frs X.stack, H b = none := fun b hb => by
  rcases List.mem_cons.mp (I.stkSub b hb) with e | hb
  · rw [e]; exact I.free
  · obtain ⟨_, o, ho, _⟩ := I.ok.funs.mem hb
    exact I.base.free b o ho (I.ok.frf b hb) fun z => I.ok.exfs b z hb
theorem Inv.step {g' : Array GenState} {t' : Nat} {d' : Drawn} {ch : List Addr} (I : Inv X pins σ H s)
    (hch : ∀ b ∈ ch, (b ∈ X.ex ∨ X.s₀.heap.objs.size ≤ b) ∧ b ≠ X.env.locals ∧ (∀ x c, X.env.cells.lookup x = some c → c ≠ b) ∧ ∀ p ∈ X.pn ++ pins, p.1 ≠ b)
    (keep : ∀ b o, b ≠ X.env.locals → b ∉ X.fs → b ∉ ch → s.heap.get? b = some o → H b = none → h'.get? b = some o)
    (slot : ∀ b o, b ≠ X.env.locals → b ∈ X.fs → b ∉ ch → s.heap.get? b = some o → H b = none → ∃ sl, h'.get? b = some { o with slots := sl }) (free : ∀ b o, b ∉ ch → s.heap.get? b = some o → H b = none → H' b = none)
    (there : ∀ b o, b ∉ ch → s.heap.get? b = some o → ∃ o', h'.get? b = some o')
    (tups : ∀ b xs, H b = some (.tup xs) → H' b = some (.tup xs)) (frzs : ∀ b o u, H b = some (.frz o u) → H' b = some (.frz o u)) (tbls : ∀ b ps, H b = some (.tbl ps) → ∃ more, H' b = some (.tbl (ps ++ more)))
    (ns : ∀ m, s.heap.Ns X.env.locals m → h'.Ns X.env.locals m) (hok : HOk X.prog X.w H' h') (hg : AllBare g') :
    Inv X pins σ H' { s with heap := h', gens := g', drawn := d', toks := t' } := by
  have neL : ∀ b o, X.s₀.heap.get? b = some o → b ≠ X.env.locals := fun b o e => Nat.ne_of_lt (Nat.lt_of_lt_of_le (Heap.lt_size e) I.ok.above)
  have neC : ∀ b o, X.s₀.heap.get? b = some o → b ∉ X.ex → b ∉ ch := fun b o e hx hb => by
    rcases (hch b hb).1 with z | z
    · exact hx z
    · exact absurd (Nat.lt_of_lt_of_le (Heap.lt_size e) z) (Nat.lt_irrefl _)
  have cellK : ∀ x c, X.env.cells.lookup x = some c → ∀ v, s.heap.IsCell c v → h'.IsCell c v := fun x c e v ⟨o, ho, hd⟩ => by
    have nch : c ∉ ch := fun z => (hch c z).2.2.1 x c e rfl
    by_cases hc : c ∈ X.fs
    · obtain ⟨sl, q⟩ := slot c o (I.cne x c e) hc nch ho (I.freeC x c e)
      exact ⟨_, q, hd⟩
    · exact ⟨o, keep c o (I.cne x c e) hc nch ho (I.freeC x c e), hd⟩
  refine ⟨I.ok, I.os, hg, ⟨fun b o e n hb hx => ?_, fun b o e n hb hx => ?_, fun b o e n hx => ?_, fun b o e hx => ?_, fun b xs e => tups b xs (I.base.tups b xs e), fun b o xs e => frzs b o xs (I.base.frzs b o xs e), fun b ps e => ?_⟩, ?_, fun x c e => ?_, ?_, fun x c e => ?_, fun p hp => ?_, hok, I.len⟩
  · exact keep b o (neL b o e) hb (neC b o e hx) (I.base.keep b o e n hb hx) (I.base.free b o e n hx)
  · obtain ⟨sl, e1⟩ := I.base.slot b o e n hb hx
    obtain ⟨sl', e2⟩ := slot b _ (neL b o e) hb (neC b o e hx) e1 (I.base.free b o e n hx)
    exact ⟨sl', e2⟩
  · obtain ⟨o', e1⟩ := I.base.there b o e hx
    exact free b o' (neC b o e hx) e1 (I.base.free b o e n hx)
  · obtain ⟨o', e1⟩ := I.base.there b o e hx
    exact there b o' (neC b o e hx) e1
  · obtain ⟨m1, e1⟩ := I.base.tbls b ps e
    obtain ⟨m2, e2⟩ := tbls b _ e1
    exact ⟨m1 ++ m2, by rw [e2, Array.append_assoc]⟩
  · obtain ⟨m, hn, hl⟩ := I.loc
    refine ⟨m, ns m hn, fun i x v e1 e2 e3 => ?_⟩
    obtain ⟨u, r, l⟩ := hl i x v e1 e2 e3
    refine ⟨u, r, ?_⟩
    rcases l with l | ⟨k, c, e, z⟩
    · exact .inl l
    · exact .inr ⟨k, c, e, cellK x c e _ z⟩
  · obtain ⟨v, z⟩ := I.cell x c e
    exact ⟨v, cellK x c e v z⟩
  · obtain ⟨m, ⟨o, _, _, ho, _⟩, _⟩ := I.loc
    exact free _ o (fun z => (hch _ z).2.1 rfl) ho I.free
  · obtain ⟨v, o, ho, hd⟩ := I.cell x c e
    exact free c o (fun z => (hch c z).2.2.1 x c e rfl) ho (I.freeC x c e)
  · obtain ⟨e, n, ne, nf, d⟩ := I.pin p hp
    have nch : p.1 ∉ ch := fun z => (hch p.1 z).2.2.2 p hp rfl
    exact ⟨keep p.1 p.2 ne nf nch e n, free p.1 p.2 nch e n, ne, nf, d⟩
theorem Inv.un {t' : Nat} (I : Inv X pins σ H s) (u : Un X.fs [] H H' s.heap h') (hok : HOk X.prog X.w H' h') : Inv X pins σ H' { s with heap := h', toks := t' } := by
  obtain ⟨m, ⟨o, es, ep, ho, r⟩, _⟩ := id I.loc
  obtain ⟨sl, hL⟩ := u.any ho I.free (by simp)
  exact I.step (g' := s.gens) (d' := s.drawn) (ch := []) (fun _ z => nomatch z) (fun b o _ hb _ e n => u.keep b o e n hb (by simp)) (fun b o _ hb _ e n => u.slot b o e n hb (by simp)) (fun b o _ e n => u.free b o e n (by simp)) (fun b o _ e => u.there b o e (by simp)) u.tups u.frzs u.tbls (fun m' hm => by
    obtain ⟨o', es', ep', ho', r'⟩ := hm
    rw [ho] at ho'; cases ho'
    exact ⟨_, es', ep', hL, r'⟩) hok I.bare
theorem Inv.call {g' : Array GenState} {t' : Nat} {d' : Drawn} {ch : List Addr} (I : Inv X pins σ H s) (u : Un (frs X.stack) ch H H' s.heap h') (hok : HOk X.prog X.w H' h') (hg : AllBare g')
    (hch : ∀ b ∈ ch, (b ∈ X.ex ∨ X.s₀.heap.objs.size ≤ b) ∧ b ≠ X.env.locals ∧ (∀ x c, X.env.cells.lookup x = some c → c ≠ b) ∧ ∀ p ∈ X.pn ++ pins, p.1 ≠ b) :
    Inv X pins σ H' { s with heap := h', gens := g', drawn := d', toks := t' } := by
  obtain ⟨m, ⟨o, es, ep, ho, r⟩, _⟩ := id I.loc
  obtain ⟨sl, hL⟩ := u.any ho I.free fun z => (hch _ z).2.1 rfl
  exact I.step (ch := ch) hch (fun b o hL hb hc e n => u.keep b o e n (fun z => (List.mem_cons.mp (I.stkSub b z)).elim hL hb) hc) (fun b o _ _ hc e n => u.any e n hc) (fun b o hc e n => u.free b o e n hc) (fun b o hc e => u.there b o e hc) u.tups u.frzs u.tbls (fun m' hm => by
    obtain ⟨o', es', ep', ho', r'⟩ := hm
    rw [ho] at ho'; cases ho'
    exact ⟨_, es', ep', hL, r'⟩) hok hg
theorem Inv.turned {t' : Nat} {it : Addr} (I : Inv X pins σ H s) (k : ∀ b o, b ≠ it → s.heap.get? b = some o → h'.get? b = some o) (hn : H it = none) (hL : it ≠ X.env.locals)
    (h1 : it ∈ X.ex ∨ X.s₀.heap.objs.size ≤ it) (h2 : ∀ x c, X.env.cells.lookup x = some c → c ≠ it) (h3 : ∀ p ∈ X.pn ++ pins, p.1 ≠ it) : Inv X pins σ H { s with heap := h', toks := t' } := by
  have nit : ∀ b u, H b = some u → b ≠ it := fun b u e z => by rw [z, hn] at e; cases e
  refine I.step (g' := s.gens) (d' := s.drawn) (ch := [it]) (fun b hb => ?_) (fun b o _ _ hc e _ => k b o (fun z => hc (by simp [z])) e) (fun b o _ _ hc e _ => ⟨o.slots, k b o (fun z => hc (by simp [z])) e⟩) (fun _ _ _ _ n => n)
    (fun b o hc e => ⟨o, k b o (fun z => hc (by simp [z])) e⟩) (fun _ _ e => e) (fun _ _ _ e => e) (fun b ps e => ⟨#[], by rw [e]; simp⟩) (fun m hm => ?_) (fun b u e => ?_) I.bare
  · have e : b = it := by simpa using hb
    subst e
    exact ⟨h1, hL, h2, h3⟩
  · obtain ⟨o, es, ep, ho, r⟩ := hm
    exact ⟨o, es, ep, k _ o (Ne.symm hL) ho, r⟩
  · refine (I.hok b u e).stay (fun c v hc q => k c v ?_ q) (fun _ q => q) fun _ _ q => q
    rcases hc with z | z
    · rw [z]; exact nit b u e
    · exact nit c _ z
theorem Inv.tok (I : Inv X pins σ H s) (t : Nat) : Inv X pins σ H { s with toks := t } := I.un (h' := s.heap) (t' := t) Un.refl I.hok
theorem Inv.kept {t' : Nat} (I : Inv X pins σ H s) (k : ∀ b u, s.heap.get? b = some u → h'.get? b = some u) : Inv X pins σ H { s with heap := h', toks := t' } := I.un (Un.kept k) (I.hok.kept k)
theorem Inv.laid {a : Addr} {o : HO} {t' : Nat} (I : Inv X pins σ H s) (k : ∀ b u, s.heap.get? b = some u → h'.get? b = some u) (hp : s.heap.objs.size ≤ a) (new : ObjOk X.prog X.w (upd H a o) h' a o) :
    Inv X pins σ (upd H a o) { s with heap := h', toks := t' } := I.un (Un.laid k hp (I.hok.fresh hp)) (I.hok.laid k hp new)
theorem Inv.write {x e : Addr} {o : HO} {t' : Nat} (I : Inv X pins σ H s) (mu : Mut (H x)) (he : e = x ∨ H e = some (.own x)) (k : ∀ b u, b ≠ e → s.heap.get? b = some u → h'.get? b = some u) (heo : ∃ u, h'.get? e = some u)
    (new : ObjOk X.prog X.w (upd H x o) h' x o) : Inv X pins σ (upd H x o) { s with heap := h', toks := t' } := I.un (Un.write mu he k heo) (I.hok.write mu he k heo new)
theorem Inv.pins_of {pins' : List (Addr × Obj)} (I : Inv X pins σ H s) (h : ∀ p ∈ pins', s.heap.get? p.1 = some p.2 ∧ H p.1 = none ∧ p.1 ≠ X.env.locals ∧ p.1 ∉ X.fs ∧ ∀ v, p.2.data ≠ .cell v) : Inv X pins' σ H s :=
  ⟨I.ok, I.os, I.bare, I.base, I.loc, I.cell, I.free, I.freeC, fun p hp => (List.mem_append.mp hp).elim (fun z => I.pin p (List.mem_append_left _ z)) (h p), I.hok, I.len⟩
theorem nodup_ix {N : List Str} (hN : N.Nodup) {i j : Nat} {x : Str} (a : N[i]? = some x) (b : N[j]? = some x) : i = j := by
  obtain ⟨h1, e1⟩ := List.getElem?_eq_some_iff.mp a
  obtain ⟨h2, e2⟩ := List.getElem?_eq_some_iff.mp b
  exact (List.getElem_inj hN).mp (e1.trans e2.symm)
theorem store_ok2 {M : Model} {A : Around} {E : Value → Shared → Prop} {i : Nat} {x : Str} {v : V} {u : Value} {Q : Unit → Shared → Prop} (I : Inv X pins σ H s) (hN : X.N.Nodup) (hi : X.N[i]? = some x) (hx : Loc X.env.scope x) (r : RelV v u)
    (h : ∀ s', Inv X pins (σ.set i (some v)) H s' → (∃ a, Heap.SameBut a s.heap s'.heap ∧ (a = X.env.locals ∨ X.env.cells.lookup x = some a)) → Q () s') (hf : X.fn x = true ∨ X.env.scope.names.lookup x = some .local := by first | exact .inl rfl | exact .inr rfl | assumption) : wpAny M A (storeName X.env x u) Q E s := by
  obtain ⟨m, hn, hl⟩ := id I.loc
  have hcls : (X.env.scope.kind == .class || (X.env.scope.kind == .module && X.env.locals != X.env.globals)) = false := by rw [I.ok.kind]; rfl
  have hiσ : i < σ.length := by rw [I.len]; exact (List.getElem?_eq_some_iff.mp hi).1
  have cne := I.cne
  have tracked : ∀ {a : Addr} {h' : Heap}, (∃ o, s.heap.get? a = some o ∧ H a = none) → Heap.SameBut a s.heap h' → HOk X.prog X.w H h' := fun {a h'} ha hs b ob e => by
    obtain ⟨_, _, hfree⟩ := ha
    refine (I.hok b ob e).stay (fun c w' hc q => (hs.2 c ?_).trans q) (fun _ q => q) fun _ _ q => q
    rintro rfl
    rcases hc with rfl | hc
    · rw [hfree] at e; cases e
    · rw [hfree] at hc; cases hc
  rcases hx with hk | hk
  · refine wpAny_storeName_local hk hn (fun h' hn' hs => ?_) hcls
    obtain ⟨oL, _, _, hoL, _⟩ := id hn
    refine h _ ⟨I.ok, I.os, I.bare, ⟨fun b o e n hb hx => ?_, fun b o e n hb hx => ?_, I.base.free, fun b o e hx => ?_, I.base.tups, I.base.frzs, I.base.tbls⟩, ⟨_, hn', fun j y v' e1 e2 e3 => ?_⟩, fun y c e => ?_, I.free, I.freeC, fun p hp => ?_, tracked ⟨oL, hoL, I.free⟩ hs, by simpa using I.len⟩ ⟨_, hs, .inl rfl⟩
    · exact (hs.2 b (Nat.ne_of_lt (Nat.lt_of_lt_of_le (Heap.lt_size e) I.ok.above))).trans (I.base.keep b o e n hb hx)
    · obtain ⟨sl, e1⟩ := I.base.slot b o e n hb hx
      exact ⟨sl, (hs.2 b (Nat.ne_of_lt (Nat.lt_of_lt_of_le (Heap.lt_size e) I.ok.above))).trans e1⟩
    · obtain ⟨o', e1⟩ := I.base.there b o e hx
      exact ⟨o', (hs.2 b (Nat.ne_of_lt (Nat.lt_of_lt_of_le (Heap.lt_size e) I.ok.above))).trans e1⟩
    · by_cases hj : j = i
      · subst hj
        rw [hi] at e1; cases e1
        rw [List.getElem?_set_self hiσ] at e2
        cases e2
        exact ⟨u, r, .inl ⟨hk, by simp⟩⟩
      · rw [List.getElem?_set_ne (Ne.symm hj)] at e2
        obtain ⟨u', r', q⟩ := hl j y v' e1 e2 e3
        refine ⟨u', r', ?_⟩
        rcases q with ⟨k, e⟩ | ⟨k, c, e, z⟩
        · refine .inl ⟨k, ?_⟩
          have : y ≠ x := fun e => hj (nodup_ix hN e1 (e ▸ hi))
          simp [this, e]
        · exact .inr ⟨k, c, e, z.sameBut hs (cne y c e)⟩
    · obtain ⟨w', z⟩ := I.cell y c e
      exact ⟨w', z.sameBut hs (cne y c e)⟩
    · obtain ⟨e, n, ne, nf, d⟩ := I.pin p hp
      exact ⟨(hs.2 p.1 ne).trans e, n, ne, nf, d⟩
  · have hfn : X.fn x = true := by
      rcases hf with z | z
      · exact z
      · rw [z] at hk; cases hk
    obtain ⟨c, hc⟩ := I.ok.has x (.inl hk)
    obtain ⟨w', z⟩ := I.cell x c hc
    refine wpAny_storeName_cell I.ok.kind hk hc z (fun h' hc' hs => ?_)
    obtain ⟨oc, hoc, hocd⟩ := id z
    refine h { s with heap := h' } ⟨I.ok, I.os, I.bare, ⟨fun b o e n hb hx => ?_, fun b o e n hb hx => ?_, I.base.free, fun b o e hx => ?_, I.base.tups, I.base.frzs, I.base.tbls⟩, ⟨m, hn.sameBut hs (Ne.symm (cne x c hc)), fun j y v' e1 e2 e3 => ?_⟩, fun y c' e => ?_, I.free, I.freeC, fun p hp => ?_, tracked ⟨oc, hoc, I.freeC x c hc⟩ hs, by simpa using I.len⟩ ⟨c, hs, .inr hc⟩
    · exact (hs.2 b (Nat.ne_of_lt (Nat.lt_of_lt_of_le (Heap.lt_size e) (I.ok.cab x c hfn hc)))).trans (I.base.keep b o e n hb hx)
    · obtain ⟨sl, e1⟩ := I.base.slot b o e n hb hx
      exact ⟨sl, (hs.2 b (Nat.ne_of_lt (Nat.lt_of_lt_of_le (Heap.lt_size e) (I.ok.cab x c hfn hc)))).trans e1⟩
    · obtain ⟨o', e1⟩ := I.base.there b o e hx
      exact ⟨o', (hs.2 b (Nat.ne_of_lt (Nat.lt_of_lt_of_le (Heap.lt_size e) (I.ok.cab x c hfn hc)))).trans e1⟩
    · by_cases hj : j = i
      · subst hj
        rw [hi] at e1; cases e1
        rw [List.getElem?_set_self hiσ] at e2
        cases e2
        exact ⟨u, r, .inr ⟨.inl hk, c, hc, hc'⟩⟩
      · rw [List.getElem?_set_ne (Ne.symm hj)] at e2
        obtain ⟨u', r', q⟩ := hl j y v' e1 e2 e3
        refine ⟨u', r', ?_⟩
        rcases q with q | ⟨k, c', e, z'⟩
        · exact .inl q
        · refine .inr ⟨k, c', e, z'.sameBut hs ?_⟩
          rintro rfl
          exact hj (nodup_ix hN e1 (I.ok.inj _ _ _ e hc ▸ hi))
    · by_cases hcc : c' = c
      · subst hcc; exact ⟨_, hc'⟩
      · obtain ⟨w2, z2⟩ := I.cell y c' e
        exact ⟨w2, z2.sameBut hs hcc⟩
    · obtain ⟨e, n, ne, nf, d⟩ := I.pin p hp
      refine ⟨(hs.2 p.1 ?_).trans e, n, ne, nf, d⟩
      intro q
      rw [q, hoc] at e
      have q' : oc = p.2 := Option.some.inj e
      exact d w' (by rw [← q']; exact hocd)
theorem store_ok {M : Model} {A : Around} {E : Value → Shared → Prop} {i : Nat} {x : Str} {v : V} {u : Value} {Q : Unit → Shared → Prop} (I : Inv X pins σ H s) (hN : X.N.Nodup) (hi : X.N[i]? = some x) (hx : Loc X.env.scope x) (r : RelV v u)
    (h : ∀ s', Inv X pins (σ.set i (some v)) H s' → Q () s') (hf : X.fn x = true ∨ X.env.scope.names.lookup x = some .local := by first | exact .inl rfl | exact .inr rfl | assumption) : wpAny M A (storeName X.env x u) Q E s :=
  store_ok2 I hN hi hx r (fun s' I' _ => h s' I') hf
theorem Inv.call' {s' : Shared} {ch : List Addr} (I : Inv X pins σ H s) (ho : s'.os = s.os) (u : Un (frs X.stack) ch H H' s.heap s'.heap) (hok : HOk X.prog X.w H' s'.heap) (hg : AllBare s'.gens)
    (hch : ∀ b ∈ ch, (b ∈ X.ex ∨ X.s₀.heap.objs.size ≤ b) ∧ b ≠ X.env.locals ∧ (∀ x c, X.env.cells.lookup x = some c → c ≠ b) ∧ ∀ p ∈ X.pn ++ pins, p.1 ≠ b) : Inv X pins σ H' s' := by
  obtain ⟨h', g', d', t', o'⟩ := s'
  have e : o' = s.os := ho
  subst e
  exact I.call (g' := g') (t' := t') (d' := d') u hok hg hch
end
abbrev XK := Value → Option Addr → Hp → Prop
abbrev St := List (Option V)
abbrev VK := V → Hp → Prop
abbrev TE := St → Hp → VK → Prop
abbrev TT := St → Hp → (Bool → Hp → Prop) → Prop
abbrev TA := St → Hp → (List V → Hp → Prop) → Prop
structure Ends where
  nx : St → Hp → Prop
  rt : VK
  bk : St → Hp → Prop := fun _ _ => False
  ct : St → Hp → Prop := fun _ _ => False
abbrev TS := Ends → St → Hp → Prop
def EP (X : Cx) (pins : List (Addr × Obj)) (σ : St) (Q : VK) (u : Value) (s' : Shared) : Prop := ∃ v H', Inv X pins σ H' s' ∧ RelV v u ∧ Q v H'
def TP (X : Cx) (pins : List (Addr × Obj)) (σ : St) (Q : Bool → Hp → Prop) (b : Bool) (s' : Shared) : Prop := ∃ H', Inv X pins σ H' s' ∧ Q b H'
def AP (X : Cx) (pins : List (Addr × Obj)) (σ : St) (Q : List V → Hp → Prop) (us : List Value) (s' : Shared) : Prop := ∃ vs H', Inv X pins σ H' s' ∧ Vals vs us ∧ Q vs H'
def SP (X : Cx) (pins : List (Addr × Obj)) (D : Ends) (f : Flow) (s' : Shared) : Prop :=
  match f with
  | .next => ∃ σ' H', Inv X pins σ' H' s' ∧ D.nx σ' H'
  | .brk => ∃ σ' H', Inv X pins σ' H' s' ∧ D.bk σ' H'
  | .cont => ∃ σ' H', Inv X pins σ' H' s' ∧ D.ct σ' H'
  | .ret u => ∃ v σ' H', Inv X pins σ' H' s' ∧ RelV v u ∧ D.rt v H'
def PE (X : Cx) (e : Expr) (t : TE) : Prop :=
  ∀ (pins : List (Addr × Obj)) (s : Shared) (σ : St) (H : Hp) (Q : VK), Inv X pins σ H s → t σ H Q → wpAny (model X.prog X.w) X.A (eval e X.env) (EP X pins σ Q) X.xe s
def PT (X : Cx) (e : Expr) (t : TT) : Prop :=
  ∀ (pins : List (Addr × Obj)) (s : Shared) (σ : St) (H : Hp) (Q : Bool → Hp → Prop), Inv X pins σ H s → t σ H Q → wpAny (model X.prog X.w) X.A (isTrue e X.env (eval e X.env)) (TP X pins σ Q) X.xe s
def PW (X : Cx) (e : Expr) (t : TT) : Prop :=
  ∀ (whole : Sem Value) (pins : List (Addr × Obj)) (s : Shared) (σ : St) (H : Hp) (Q : Bool → Hp → Prop), Inv X pins σ H s → t σ H Q → wpAny (model X.prog X.w) X.A (isTrue e X.env whole) (TP X pins σ Q) X.xe s
theorem PW.pt {X : Cx} {e : Expr} {t : TT} (h : PW X e t) : PT X e t := h _
def PA (X : Cx) (es : List Expr) (t : TA) : Prop :=
  ∀ (pos : Pos) (pins : List (Addr × Obj)) (s : Shared) (σ : St) (H : Hp) (Q : List V → Hp → Prop), Inv X pins σ H s → t σ H Q → wpAny (model X.prog X.w) X.A (spliced (backTo pos (starEach es X.env))) (AP X pins σ Q) X.xe s
def PS (X : Cx) (st : Stmt) (t : TS) : Prop :=
  ∀ (pins : List (Addr × Obj)) (s : Shared) (σ : St) (H : Hp) (D : Ends), Inv X pins σ H s → t D σ H → wpAny (model X.prog X.w) X.A (exec st X.env) (SP X pins D) X.xe s
def PSs (X : Cx) (st : List Stmt) (t : TS) : Prop :=
  ∀ (pins : List (Addr × Obj)) (s : Shared) (σ : St) (H : Hp) (D : Ends), Inv X pins σ H s → t D σ H → wpAny (model X.prog X.w) X.A (execs st X.env) (SP X pins D) X.xe s
theorem thn {α : Type} {t : Sem α} {Q Q' : α → Shared → Prop} {M : Model} {A : Around} {E : Value → Shared → Prop} {s : Shared} (h : wpAny M A t Q E s) (hQ : ∀ a s, Q a s → Q' a s) : wpAny M A t Q' E s := wpAny_mono h hQ fun _ _ x => x
end L2
namespace L2
open PySem PySem.Spec PyProof.Rows
section
variable {X : Cx}
theorem bin {a b : Expr} {ta tb : TE} (ha : PE X a ta) (hb : PE X b tb) {pins : List (Addr × Obj)} {s : Shared} {σ : St} {H : Hp} {R : V → V → Hp → Prop} (I : Inv X pins σ H s) (h : ta σ H fun x H1 => tb σ H1 fun y H2 => R x y H2)
    {α : Type} {Q : α → Shared → Prop} {f : Value → Value → Sem α}
    (hf : ∀ v u s2 x y H2, Inv X pins σ H2 s2 → RelV x v → RelV y u → R x y H2 → wpAny (model X.prog X.w) X.A (f v u) Q X.xe s2) :
    wpAny (model X.prog X.w) X.A (eval a X.env) (fun v s₁ => wpAny (model X.prog X.w) X.A (eval b X.env) (fun u s₂ => wpAny (model X.prog X.w) X.A (f v u) Q X.xe s₂) X.xe s₁) X.xe s := by
  refine thn (ha pins s σ H _ I h) fun v s1 ⟨x, H1, I1, r1, q1⟩ => ?_
  refine thn (hb pins s1 σ H1 _ I1 q1) fun u s2 ⟨y, H2, I2, r2, q2⟩ => ?_
  exact hf v u s2 x y H2 I2 r1 r2 q2
def tVar (i : Nat) : TE := fun σ H Q => ∃ v, σ[i]? = some (some v) ∧ Q v H
def tC (v : V) : TE := fun _ H Q => Q v H
theorem pe_var {i : Nat} {x : Str} {pos : Pos} (hN : X.N[i]? = some x) (hv : Vis X.env.scope x) (hd : (x == ("__debug__" : Str)) = false := by decide) (hcd : (x == ("__classdict__" : Str)) = false := by decide) : PE X (.Name x pos) (tVar i) := by
  intro pins s σ H Q I h
  obtain ⟨v, e, h⟩ := h
  obtain ⟨m, hn, hl⟩ := I.loc
  obtain ⟨u, r, l⟩ := hl i x v hN e hv
  have fin : EP X pins σ Q u s := ⟨v, H, I, r, h⟩
  rcases l with ⟨hk, hm⟩ | ⟨hk, c, hc, hcell⟩
  · exact wpAny_Name (wpAny_loadName_local I.ok.kind hk hn hm fin) hd
  · rcases hk with hk | hk
    · exact wpAny_Name (wpAny_loadName_cell I.ok.kind hk hc hcell fin) hd
    · exact wpAny_Name (wpAny_loadName_free I.ok.kind hk hc hcell fin hcd) hd
theorem pe_int {i j pos} : PE X (.Constant (.int i) j pos) (tC (.int i)) := fun _ _ _ H _ I h => wpAny_Constant_int ⟨.int i, H, I.tok _, ⟨_, rfl⟩, h⟩
theorem pe_bl {b j pos} : PE X (.Constant (.bool b) j pos) (tC (.bl b)) := fun _ _ _ H _ I h => Constant_bool ⟨.bl b, H, I, rfl, h⟩
theorem pe_non {j pos} : PE X (.Constant .none j pos) (tC .non) := fun _ _ _ H _ I h => Constant_none ⟨.non, H, I, rfl, h⟩
theorem pe_str {x j pos} : PE X (.Constant (.str x) j pos) (tC (.str x)) := fun _ _ _ H _ I h => Calls.Constant_str ⟨.str x, H, I.tok _, ⟨_, rfl⟩, h⟩
def Gl (X : Cx) (x : Str) : Prop := X.env.kindOf x = some .globalImplicit
theorem ld_glob {E : Value → Shared → Prop} {pins : List (Addr × Obj)} {s : Shared} {σ : St} {H : Hp} {x : Str} {u : Value} {pos : Pos} {Q : Value → Shared → Prop} (I : Inv X pins σ H s) (hg : Gl X x) (hm : X.mg x = some u) (h : Q u s)
    (hd : (x == ("__debug__" : Str)) = false := by decide) : wpAny (model X.prog X.w) X.A (eval (.Name x pos) X.env) Q E s :=
  Calls.Name_function_global I.ok.kind hg (Calls.loadGlobal_global (by rw [I.ok.glob]; exact I.mod.glob.keeps I.bk) hm h) hd
theorem ld_blt {E : Value → Shared → Prop} {pins : List (Addr × Obj)} {s : Shared} {σ : St} {H : Hp} {x : Str} {u : Value} {pos : Pos} {Q : Value → Shared → Prop} (I : Inv X pins σ H s) (hg : Gl X x) (hm : X.mg x = none) (hv : bootBuiltins x = some u) (h : Q u s)
    (hn : x ≠ "__name__" := by decide) (hd : (x == ("__debug__" : Str)) = false := by decide) : wpAny (model X.prog X.w) X.A (eval (.Name x pos) X.env) Q E s := by
  obtain ⟨mb, h1, h2⟩ := I.mod.blt
  exact Calls.Name_function_global I.ok.kind hg (Calls.loadGlobal_builtin (by rw [I.ok.glob]; exact I.mod.glob.keeps I.bk) hm (by rw [I.ok.blt]; exact h1.keeps I.bk) ((h2 x hn).trans hv) h) hd
theorem pe_glob {x : Str} {v : V} {u : Value} {pos : Pos} (hg : Gl X x) (hm : X.mg x = some u) (r : RelV v u) (hd : (x == ("__debug__" : Str)) = false := by decide) : PE X (.Name x pos) (tC v) :=
  fun _ _ _ H _ I h => ld_glob I hg hm ⟨v, H, I, r, h⟩ hd
theorem pe_bltn {x : Str} {v : V} {u : Value} {pos : Pos} (hg : Gl X x) (hm : X.mg x = none) (hv : bootBuiltins x = some u) (r : RelV v u) (hn : x ≠ "__name__" := by decide) (hd : (x == ("__debug__" : Str)) = false := by decide) : PE X (.Name x pos) (tC v) :=
  fun _ _ _ H _ I h => ld_blt I hg hm hv ⟨v, H, I, r, h⟩ hn hd
variable {a b : Expr} {ta tb : TE} {pos : Pos}
def PC (X : Cx) (op : CmpOp) (a b : Expr) (t : TE) : Prop :=
  ∀ (pins : List (Addr × Obj)) (s : Shared) (σ : St) (H : Hp) (Q : VK), Inv X pins σ H s → t σ H Q →
    wpAny (model X.prog X.w) X.A (eval a X.env) (fun v s₁ => wpAny (model X.prog X.w) X.A (eval b X.env) (fun u s₂ => wpAny (model X.prog X.w) X.A (compareOp op v u) (EP X pins σ Q) X.xe s₂) X.xe s₁) X.xe s
theorem nobehind (b : Expr) {op : CmpOp} (h : op ≠ .In) (h2 : op ≠ .NotIn) : behindInMarks op b = false := by
  have e1 : (op == CmpOp.In) = false := by cases op <;> first | rfl | exact absurd rfl h
  have e2 : (op == CmpOp.NotIn) = false := by cases op <;> first | rfl | exact absurd rfl h2
  cases b <;> simp [behindInMarks, e1, e2]
def tB (t : TE) : TT := fun σ H Q => t σ H fun x H1 => ∃ c, x = .bl c ∧ Q c H1
theorem pt_cmp {op : CmpOp} {t : TE} (h : PC X op a b t) (h1 : behindInMarks op b = false := by first | exact nobehind _ (by decide) (by decide) | rfl) : PT X (.Compare a [op] [b] pos) (tB t) := by
  intro pins s σ H Q I hw
  refine wpAny_isTrue_Compare1 (thn (h pins s σ H _ I hw) fun v s1 h1 => thn h1 fun u s2 h2 => thn h2 fun c s3 ⟨x, H1, I1, r1, q1⟩ => ?_) h1
  obtain ⟨d, rfl, q⟩ := q1
  cases r1
  exact wpAny_truthy_bool ⟨H1, I1, q⟩
theorem pt_val {e : Expr} {t : TE} (h : PE X e t) (he : ∀ whole, isTrue e X.env whole = (do let v ← whole; standAt e.pos; holding [v] (truthy v)) := by intro _; rfl) : PT X e (tB t) := by
  intro pins s σ H Q I hw
  refine isTrue_plain (thn (h pins s σ H _ I hw) fun v s1 ⟨x, H1, I1, r1, q1⟩ => ?_) (he _)
  obtain ⟨d, rfl, q⟩ := q1
  cases r1
  exact wpAny_truthy_bool ⟨H1, I1, q⟩
variable {tA tB' : TT} {rest : List Expr}
def tAnd (t u : TT) : TT := fun σ H Q => t σ H fun c H1 => if c = true then u σ H1 Q else Q false H1
def tOr (t u : TT) : TT := fun σ H Q => t σ H fun c H1 => if c = true then Q true H1 else u σ H1 Q
def tNot (t : TT) : TT := fun σ H Q => t σ H fun c H1 => Q (!c) H1
theorem pw_and1 (ha : PT X a tA) : PW X (.BoolOp .And [a] pos) tA := by
  intro wh pins s σ H Q I h
  refine isTrue_and (thn (ha pins s σ H Q I h) fun c s1 e => ?_)
  cases c with
  | true => exact isTrue_and_nil e
  | false => exact e
theorem pw_or1 (ha : PT X a tA) : PW X (.BoolOp .Or [a] pos) tA := by
  intro wh pins s σ H Q I h
  refine isTrue_or (thn (ha pins s σ H Q I h) fun c s1 e => ?_)
  cases c with
  | false => exact isTrue_or_nil e
  | true => exact e
theorem pw_and (ha : PT X a tA) (hb : PW X (.BoolOp .And (b :: rest) pos) tB') : PW X (.BoolOp .And (a :: b :: rest) pos) (tAnd tA tB') := by
  intro wh pins s σ H Q I h
  refine isTrue_and (thn (ha pins s σ H _ I h) fun c s1 ⟨H1, I1, q1⟩ => ?_)
  cases c with
  | true => exact hb wh pins s1 σ H1 Q I1 q1
  | false => exact ⟨H1, I1, q1⟩
theorem pw_or (ha : PT X a tA) (hb : PW X (.BoolOp .Or (b :: rest) pos) tB') : PW X (.BoolOp .Or (a :: b :: rest) pos) (tOr tA tB') := by
  intro wh pins s σ H Q I h
  refine isTrue_or (thn (ha pins s σ H _ I h) fun c s1 ⟨H1, I1, q1⟩ => ?_)
  cases c with
  | true => exact ⟨H1, I1, q1⟩
  | false => exact hb wh pins s1 σ H1 Q I1 q1
theorem pt_not (ha : PT X a tA) : PT X (.UnaryOp .Not a pos) (tNot tA) := by
  intro pins s σ H Q I h
  exact isTrue_not (ha pins s σ H (fun c H1 => Q (!c) H1) I h)
def tAndV (ta tb : TE) : TE := fun σ H Q => ta σ H fun x H1 => ∃ c, x = .bl c ∧ if c = true then tb σ H1 Q else Q (.bl false) H1
def tNotV (ta : TE) : TE := fun σ H Q => ta σ H fun x H1 => ∃ c, x = .bl c ∧ Q (.bl (!c)) H1
theorem pe_one {op} {t : TE} (h : PE X a t) : PE X (.BoolOp op [a] pos) t := fun pins s σ H Q I hw => BoolOp_one (h pins s σ H Q I hw)
theorem pe_and (ha : PE X a ta) (hb : PE X (.BoolOp .And (b :: rest) pos) tb) : PE X (.BoolOp .And (a :: b :: rest) pos) (tAndV ta tb) := by
  intro pins s σ H Q I h
  refine BoolOp_and (thn (ha pins s σ H _ I h) fun v s1 ⟨x, H1, I1, r1, q1⟩ => ?_)
  obtain ⟨c, rfl, q1⟩ := q1
  cases r1
  refine wpAny_truthy_bool ?_
  cases c with
  | true => exact hb pins s1 σ H1 Q I1 q1
  | false => exact ⟨.bl false, H1, I1, rfl, q1⟩
theorem pe_not (ha : PE X a ta) : PE X (.UnaryOp .Not a pos) (tNotV ta) := by
  intro pins s σ H Q I h
  refine UnaryOp_ (thn (ha pins s σ H _ I h) fun v s1 ⟨x, H1, I1, r1, q1⟩ => ?_)
  obtain ⟨c, rfl, q1⟩ := q1
  cases r1
  exact not_of (wpAny_truthy_bool ⟨.bl (!c), H1, I1, rfl, q1⟩)
def tIf (t : TT) (ta tb : TE) : TE := fun σ H Q => t σ H fun c H1 => if c = true then ta σ H1 Q else tb σ H1 Q
theorem pe_ifExp {c : Expr} (hc : PT X c tA) (ha : PE X a ta) (hb : PE X b tb) : PE X (.IfExp c a b pos) (tIf tA ta tb) := by
  intro pins s σ H Q I h
  refine wpAny_IfExp (thn (hc pins s σ H _ I h) fun d s1 ⟨H1, I1, q1⟩ => ?_)
  cases d with
  | true => exact ha pins s1 σ H1 Q I1 q1
  | false => exact hb pins s1 σ H1 Q I1 q1
end
end L2
namespace L2
open PySem PySem.Spec PyProof.Rows
def SqL (K : PySem.W.Frag) (H : Hp) (a : Addr) (xs : List V) : Prop :=
  Rd H a (.lst xs) ∨
    ∃ (o : Obj) (its : Array Value) (n : Nat), K.lookup a = some o ∧ o.cls = .type "list" ∧ o.dict = none ∧ o.data = .seq its n ∧ its.size ≤ sizeLine ∧ Vals xs its.toList
def SqT (K : PySem.W.Frag) (H : Hp) (a : Addr) (xs : List V) : Prop :=
  Rd H a (.tup xs) ∨
    ∃ (o : Obj) (its : Array Value) (n : Nat), K.lookup a = some o ∧ o.cls = .type "tuple" ∧ o.data = .seq its n ∧ its.size ≤ sizeLine ∧ Vals xs its.toList
def absV : Value → Option V
  | .none => some .non
  | .bool b => some (.bl b)
  | .int i _ => some (.int i)
  | .str x _ => some (.str x)
  | .bytes b _ => some (.byt b)
  | .float b _ => some (.flt b)
  | .ref a => some (.ref a)
  | .type n => some (.ty n)
  | _ => none
theorem RelV.abs {x : V} {u : Value} (r : RelV x u) : absV u = some x := by
  cases x with
  | non => cases r; rfl
  | bl _ => cases r; rfl
  | int _ => obtain ⟨t, rfl⟩ := r; rfl
  | str _ => obtain ⟨t, rfl⟩ := r; rfl
  | byt _ => obtain ⟨t, rfl⟩ := r; rfl
  | flt _ => obtain ⟨t, rfl⟩ := r; rfl
  | ref _ => cases r; rfl
  | ty _ => cases r; rfl
theorem RelV.inj {x y : V} {u : Value} (r : RelV x u) (q : RelV y u) : x = y := Option.some.inj (r.abs.symm.trans q.abs)
theorem Vals.inj : ∀ {xs ys : List V} {us : List Value}, Vals xs us → Vals ys us → xs = ys
  | _, _, _, .nil, .nil => rfl
  | _, _, _, .cons r t, .cons r' t' => by rw [r.inj r', Vals.inj t t']
section
variable {X : Cx} {pins : List (Addr × Obj)} {σ : St} {H : Hp} {s : Shared} {a : Addr} {xs ys : List V}
theorem SqL.of {K : PySem.W.Frag} (h : H a = some (.lst xs)) : SqL K H a xs := .inl (.inl h)
theorem SqT.of {K : PySem.W.Frag} (h : H a = some (.tup xs)) : SqT K H a xs := .inl (.inl h)
theorem Inv.list (I : Inv X pins σ H s) (h : SqL X.K H a xs) : ∃ its : List Value, Vals xs its ∧ PlainL s.heap a its.toArray ∧ xs.length ≤ sizeLine := by
  rcases h with h | ⟨o, its, n, hk, hc, hd, hs, hz, r⟩
  · obtain ⟨z, its, n, r, e⟩ := h.ok I.hok
    exact ⟨its, r, ⟨_, n, e, rfl, rfl, rfl⟩, z⟩
  · refine ⟨its.toList, r, ⟨o, n, I.kIn a o hk, hc, hd, by simpa using hs⟩, ?_⟩
    have e := r.length
    simp only [Array.length_toList] at e
    omega
theorem Inv.tuple (I : Inv X pins σ H s) (h : SqT X.K H a xs) : ∃ its : List Value, Vals xs its ∧ IsTup s.heap a its.toArray ∧ xs.length ≤ sizeLine := by
  rcases h with h | ⟨o, its, n, hk, hc, hs, hz, r⟩
  · obtain ⟨z, its, r, p⟩ := h.ok I.hok
    exact ⟨its, r, p, z⟩
  · refine ⟨its.toList, r, ⟨o, I.kIn a o hk, hc, n, by simpa using hs⟩, ?_⟩
    have e := r.length
    simp only [Array.length_toList] at e
    omega
theorem Inv.list_inj (I : Inv X pins σ H s) (h : SqL X.K H a xs) (h' : SqL X.K H a ys) : xs = ys := by
  obtain ⟨its, r, ⟨o, n, e, _, _, d⟩, _⟩ := I.list h
  obtain ⟨its', r', ⟨o', n', e', _, _, d'⟩, _⟩ := I.list h'
  rw [e] at e'; cases e'
  rw [d] at d'
  injection d' with d1 _
  have : its = its' := by simpa using congrArg Array.toList d1
  subst this
  exact r.inj r'
theorem Inv.tuple_inj (I : Inv X pins σ H s) (h : SqT X.K H a xs) (h' : SqT X.K H a ys) : xs = ys := by
  obtain ⟨its, r, ⟨o, e, _, n, d⟩, _⟩ := I.tuple h
  obtain ⟨its', r', ⟨o', e', _, n', d'⟩, _⟩ := I.tuple h'
  rw [e] at e'; cases e'
  rw [d] at d'
  injection d' with d1 _
  have : its = its' := by simpa using congrArg Array.toList d1
  subst this
  exact r.inj r'
end
abbrev Cx.wish (X : Cx) (E : Value → Shared → Prop) : Cx := { X with xe := E }
abbrev Cx.nox (X : Cx) : Cx := X.wish fun _ _ => False
theorem Cx.Ok.wish {X : Cx} (ok : X.Ok) (E : Value → Shared → Prop) : (X.wish E).Ok :=
  ⟨ok.mod, ok.kind, ok.glob, ok.blt, ok.above, ok.inj, ok.has, ok.cab, ok.hd, ok.frames, ok.stk, ok.exf, ok.bs, ok.bsz, ok.noex, ok.exfs, ok.funs, ok.frf⟩
theorem Cx.Ok.unwish {X : Cx} {E : Value → Shared → Prop} (ok : (X.wish E).Ok) : X.Ok :=
  ⟨ok.mod, ok.kind, ok.glob, ok.blt, ok.above, ok.inj, ok.has, ok.cab, ok.hd, ok.frames, ok.stk, ok.exf, ok.bs, ok.bsz, ok.noex, ok.exfs, ok.funs, ok.frf⟩
section
variable {X : Cx} {pins : List (Addr × Obj)} {σ : St} {H : Hp} {s : Shared} {E : Value → Shared → Prop}
theorem Inv.wish (I : Inv X pins σ H s) (E : Value → Shared → Prop) : Inv (X.wish E) pins σ H s := ⟨I.ok.wish E, I.os, I.bare, I.base, I.loc, I.cell, I.free, I.freeC, I.pin, I.hok, I.len⟩
theorem Inv.unwish (I : Inv (X.wish E) pins σ H s) : Inv X pins σ H s := ⟨I.ok.unwish, I.os, I.bare, I.base, I.loc, I.cell, I.free, I.freeC, I.pin, I.hok, I.len⟩
theorem SP.unwish {D : Ends} {f : Flow} {s' : Shared} (h : SP (X.wish E) pins D f s') : SP X pins D f s' := by
  cases f with
  | next => obtain ⟨σ', H', I, q⟩ := h; exact ⟨σ', H', I.unwish, q⟩
  | brk => obtain ⟨σ', H', I, q⟩ := h; exact ⟨σ', H', I.unwish, q⟩
  | cont => obtain ⟨σ', H', I, q⟩ := h; exact ⟨σ', H', I.unwish, q⟩
  | ret u => obtain ⟨v, σ', H', I, r, q⟩ := h; exact ⟨v, σ', H', I.unwish, r, q⟩
theorem PE.nox {e : Expr} {t : TE} (h : PE X.nox e t) : PE X e t := fun pins s σ H Q I hw =>
  wpAny_mono (h pins s σ H Q (I.wish _) hw) (fun _ _ ⟨v, H', I', r, q⟩ => ⟨v, H', I'.unwish, r, q⟩) fun _ _ z => False.elim z
theorem PT.nox {e : Expr} {t : TT} (h : PT X.nox e t) : PT X e t := fun pins s σ H Q I hw =>
  wpAny_mono (h pins s σ H Q (I.wish _) hw) (fun _ _ ⟨H', I', q⟩ => ⟨H', I'.unwish, q⟩) fun _ _ z => False.elim z
theorem PSs.nox {st : List Stmt} {t : TS} (h : PSs X.nox st t) : PSs X st t := fun pins s σ H D I hw =>
  wpAny_mono (h pins s σ H D (I.wish _) hw) (fun _ _ q => q.unwish) fun _ _ z => False.elim z
end
section
variable {X : Cx} {st : Stmt} {rest : List Stmt} {t u : TS} {e : Expr} {te : TE} {pos : Pos}
def tNext : TS := fun D σ H => D.nx σ H
def tSeq (t u : TS) : TS := fun D σ H => t { D with nx := u D } σ H
theorem pss_nil : PSs X [] tNext := fun _ _ σ H _ I h => wpAny_execs_nil ⟨σ, H, I, h⟩
theorem pss_cons (h1 : PS X st t) (h2 : PSs X rest u) : PSs X (st :: rest) (tSeq t u) := by
  intro pins s σ H D I h
  refine wpAny_execs_cons (thn (h1 pins s σ H { D with nx := u D } I h) fun f s1 q => ?_)
  cases f with
  | next =>
    obtain ⟨σ', H', I', q⟩ := q
    exact h2 pins s1 σ' H' D I' q
  | ret v => exact q
  | brk => exact q
  | cont => exact q
theorem pss_one (h1 : PS X st t) : PSs X [st] t := by
  intro pins s σ H D I h
  refine wpAny_execs_cons (thn (h1 pins s σ H D I h) fun f s1 q => ?_)
  cases f with
  | next => exact wpAny_execs_nil q
  | ret v => exact q
  | brk => exact q
  | cont => exact q
theorem Inv.quiet {pins : List (Addr × Obj)} {σ : St} {H : Hp} {s : Shared} (I : Inv X pins σ H s) : interactive X.env = false := by simp [interactive, I.ok.kind]
def tDrop (te : TE) : TS := fun D σ H => te σ H fun _ H1 => D.nx σ H1
theorem ps_expr (he : PE X e te) (hs : swapsWith e none pos.line X.env = pure false := by rfl) : PS X (.Expr e pos) (tDrop te) := by
  intro pins s σ H D I h
  exact wpAny_Expr_any (thn (he pins s σ H _ I h) fun v s1 ⟨x, H1, I1, r1, q1⟩ => ⟨σ, H1, I1, q1⟩) I.quiet hs
def tRet (te : TE) : TS := fun D σ H => te σ H D.rt
theorem ps_ret (he : PE X e te) : PS X (.Return (some e) pos) (tRet te) := by
  intro pins s σ H D I h
  exact wpAny_Return_some (thn (he pins s σ H _ I h) fun v s1 ⟨x, H1, I1, r1, q1⟩ => ⟨x, σ, H1, I1, r1, q1⟩)
def tIfS (c : TT) (t u : TS) : TS := fun D σ H => c σ H fun b H1 => if b = true then t D σ H1 else u D σ H1
theorem ps_if {c : Expr} {a b : List Stmt} {tc : TT} (hc : PT X c tc) (ha : PSs X a t) (hb : PSs X b u) : PS X (.If c a b pos) (tIfS tc t u) := by
  intro pins s σ H D I h
  refine wpAny_If (thn (hc pins s σ H _ I h) fun d s1 ⟨H1, I1, q1⟩ => ?_)
  cases d with
  | true => exact ha pins s1 σ H1 D I1 q1
  | false => exact hb pins s1 σ H1 D I1 q1
end
abbrev TG := V → St → Hp → (St → Hp → Prop) → Prop
abbrev TGs := List V → St → Hp → (St → Hp → Prop) → Prop
def PG (X : Cx) (target : Expr) (t : TG) : Prop :=
  ∀ (pins : List (Addr × Obj)) (s : Shared) (σ : St) (H : Hp) (v : V) (u : Value) (Q : St → Hp → Prop), Inv X pins σ H s → RelV v u → t v σ H Q →
    wpAny (model X.prog X.w) X.A (assign target X.env u) (fun _ s' => ∃ σ' H', Inv X pins σ' H' s' ∧ Q σ' H') X.xe s
def PGs (X : Cx) (ts : List Expr) (t : TGs) : Prop :=
  ∀ (pins : List (Addr × Obj)) (s : Shared) (σ : St) (H : Hp) (vs : List V) (us : List Value) (Q : St → Hp → Prop), Inv X pins σ H s → Vals vs us → t vs σ H Q →
    wpAny (model X.prog X.w) X.A (assignInOrder ((assignEach ts X.env).map (·.2)) us) (fun _ s' => ∃ σ' H', Inv X pins σ' H' s' ∧ Q σ' H') X.xe s
abbrev TSet := V → V → V → Hp → (Hp → Prop) → Prop
def PSet (X : Cx) (t : TSet) : Prop :=
  ∀ (pins : List (Addr × Obj)) (s : Shared) (σ : St) (H : Hp) (o i v : V) (ov iv u : Value) (Q : Hp → Prop), Inv X pins σ H s → RelV o ov → RelV i iv → RelV v u → t o i v H Q →
    wpAny (model X.prog X.w) X.A (setItem ov iv u) (fun _ s' => ∃ H', Inv X pins σ H' s' ∧ Q H') X.xe s
abbrev TIp := V → V → Hp → VK → Prop
def PIp (X : Cx) (op : Operator) (t : TIp) : Prop :=
  ∀ (pins : List (Addr × Obj)) (s : Shared) (σ : St) (H : Hp) (x y : V) (v u : Value) (Q : VK), Inv X pins σ H s → RelV x v → RelV y u → t x y H Q →
    wpAny (model X.prog X.w) X.A (inplaceOp op v u) (EP X pins σ Q) X.xe s
section
variable {X : Cx} {pos : Pos}
def gName (i : Nat) : TG := fun v σ H Q => Q (σ.set i (some v)) H
theorem pg_name {i : Nat} {x : Str} (hN : X.N.Nodup) (hi : X.N[i]? = some x) (hx : Loc X.env.scope x) (hf : X.fn x = true ∨ X.env.scope.names.lookup x = some .local := by first | exact .inl rfl | exact .inr rfl | assumption) : PG X (.Name x pos) (gName i) := by
  intro pins s σ H v u Q I r h
  exact wpAny_assign_Name (store_ok I hN hi hx r (fun s' I' => ⟨_, H, I', h⟩) hf)
def gNil : TGs := fun vs σ H Q => vs = [] ∧ Q σ H
def gCons (t : TG) (u : TGs) : TGs := fun vs σ H Q => ∃ v r, vs = v :: r ∧ t v σ H fun σ' H' => u r σ' H' Q
theorem pgs_nil : PGs X [] gNil := by
  intro pins s σ H vs us Q I r h
  obtain ⟨e, h⟩ := h
  subst e
  cases r
  exact assignInOrder_nil ⟨σ, H, I, h⟩
theorem pgs_cons {e : Expr} {es : List Expr} {t : TG} {u : TGs} (h1 : PG X e t) (h2 : PGs X es u)
    (hs : (assignEach (e :: es) X.env).map (·.2) = assign e X.env :: (assignEach es X.env).map (·.2) := by rfl) : PGs X (e :: es) (gCons t u) := by
  intro pins s σ H vs us Q I r h
  obtain ⟨v, vr, e1, h⟩ := h
  subst e1
  cases r with
  | cons r rr =>
    rw [hs]
    refine assignInOrder_cons (thn (h1 pins s σ H _ _ _ I r h) fun _ s1 ⟨σ1, H1, I1, q1⟩ => ?_)
    exact h2 pins s1 σ1 H1 _ _ Q I1 rr q1
def gTup (K : PySem.W.Frag) (n : Nat) (t : TGs) : TG := fun v σ H Q => ∃ a xs, v = .ref a ∧ SqT K H a xs ∧ xs.length = n ∧ t xs σ H Q
theorem pg_tup {es : List Expr} {k : Nat} {t : TGs} {n : Nat} (hc : X.calm = true) (h : PGs X es t)
    (hn : (assignEach es X.env).length = n := by rfl) (hst : (assignEach es X.env).findIdx? (·.1) = none := by rfl) : PG X (.Tuple es k pos) (gTup X.K n t) := by
  intro pins s σ H v u Q I r hw
  obtain ⟨a, xs, e1, hq, hl, hw⟩ := hw
  subst e1
  cases r
  obtain ⟨its, rv, ht, hz⟩ := I.tuple hq
  refine assign_Tuple_tuple (I.ok.hd hc) ht (by simp [hn, ← hl, rv.length]) hst fun h' hx => ?_
  have I1 : Inv X pins σ H { s with heap := h' } := I.kept (t' := s.toks) fun b o e => hx b o (Nat.ne_of_lt (Heap.lt_size e)) e
  exact h pins _ σ H xs _ Q I1 (by simpa using rv) hw
def gSub (to ti : TE) (t : TSet) : TG := fun v σ H Q => to σ H fun o H1 => ti σ H1 fun i H2 => t o i v H2 fun H3 => Q σ H3
theorem pg_sub {o i : Expr} {to ti : TE} {t : TSet} (ho : PE X o to) (hi : PE X i ti) (hs : PSet X t)
    (ha : ∀ v, assign (.Subscript o i pos) X.env v = (do
      let ov ← holding [v] (eval o X.env)
      let iv ← holding [v, ov] (eval i X.env)
      standAt pos
      holding [v, ov, iv] (setItem ov iv v)
      release [v, ov, iv] []) := by intro _; rfl) : PG X (.Subscript o i pos) (gSub to ti t) := by
  intro pins s σ H v u Q I r h
  rw [ha]
  refine wpAny_bind (wpAny_holding (thn (ho pins s σ H _ I h) fun ov s1 ⟨x, H1, I1, r1, q1⟩ => ?_))
  refine wpAny_bind (wpAny_holding (thn (hi pins s1 σ H1 _ I1 q1) fun iv s2 ⟨y, H2, I2, r2, q2⟩ => ?_))
  refine wpAny_bind (wpAny_standAt (wpAny_bind (wpAny_holding (thn (hs pins s2 σ H2 x y v ov iv u _ I2 r1 r2 r q2) fun _ s3 ⟨H3, I3, q3⟩ => ?_))))
  exact wpAny_release ⟨σ, H3, I3, q3⟩
def tAsg (te : TE) (g : TG) : TS := fun D σ H => te σ H fun x H1 => g x σ H1 D.nx
theorem ps_asg {tg e : Expr} {te : TE} {g : TG} (he : PE X e te) (hg : PG X tg g) (hs : swapsWithSole [tg] e pos.line X.env = pure false := by rfl) (hw : swappedStores [tg] e X.env = pure none := by rfl)
    (h1 : (assignEach [tg] X.env).map (·.2) = [assign tg X.env] := by rfl) : PS X (.Assign [tg] e pos) (tAsg te g) := by
  intro pins s σ H D I h
  refine wpAny_Assign_stores (thn (he pins s σ H _ I h) fun v s1 ⟨x, H1, I1, r1, q1⟩ => ?_) hs hw
  rw [h1]
  exact thn (hg pins s1 σ H1 x v _ I1 r1 q1) fun _ s2 q => q
theorem ps_set {i : Nat} {x : Str} {e : Expr} {te : TE} {pos' : Pos} (hN : X.N.Nodup) (hi : X.N[i]? = some x) (hx : Loc X.env.scope x) (he : PE X e te) (hs : swapsWith e (some (.Name x pos')) pos.line X.env = pure false := by rfl) (hf : X.fn x = true ∨ X.env.scope.names.lookup x = some .local := by first | exact .inl rfl | exact .inr rfl | assumption) :
    PS X (.Assign [.Name x pos'] e pos) (tAsg te (gName i)) := by
  intro pins s σ H D I h
  refine wpAny_Assign_Name (thn (he pins s σ H _ I h) fun v s1 ⟨y, H1, I1, r1, q1⟩ => ?_) hs
  exact store_ok I1 hN hi hx r1 (fun s2 I2 => ⟨_, H1, I2, q1⟩) hf
def tAug (i : Nat) (te : TE) (ti : TIp) : TS := fun D σ H => ∃ x, σ[i]? = some (some x) ∧ te σ H fun y H1 => ti x y H1 fun z H2 => D.nx (σ.set i (some z)) H2
theorem ps_aug {i : Nat} {x : Str} {e : Expr} {te : TE} {op : Operator} {ti : TIp} {pos' : Pos} (hN : X.N.Nodup) (hi : X.N[i]? = some x) (hx : Loc X.env.scope x) (he : PE X e te) (ho : PIp X op ti) (hf : X.fn x = true ∨ X.env.scope.names.lookup x = some .local := by first | exact .inl rfl | exact .inr rfl | assumption) :
    PS X (.AugAssign (.Name x pos') op e pos) (tAug i te ti) := by
  intro pins s σ H D I h
  obtain ⟨v, e1, h⟩ := h
  obtain ⟨m, hn, hl⟩ := I.loc
  have vis : Vis X.env.scope x := by rcases hx with k | k; exact .inl k; exact .inr (.inl k)
  obtain ⟨u, r, l⟩ := hl i x v hi e1 vis
  refine wpAny_AugAssign_Name ?_
  have go : wpAny (model X.prog X.w) X.A (eval e X.env) (fun w s₂ => wpAny (model X.prog X.w) X.A (inplaceOp op u w) (fun r s₃ => wpAny (model X.prog X.w) X.A (storeName X.env x r) (fun _ => SP X pins D .next) X.xe s₃) X.xe s₂) X.xe s := by
    refine thn (he pins s σ H _ I h) fun w s1 ⟨y, H1, I1, r1, q1⟩ => ?_
    refine thn (ho pins s1 σ H1 v y u w _ I1 r r1 q1) fun z s2 ⟨zv, H2, I2, r2, q2⟩ => ?_
    exact store_ok I2 hN hi hx r2 (fun s3 I3 => ⟨_, H2, I3, q2⟩) hf
  rcases l with ⟨hk, hm⟩ | ⟨hk, c, hc, hcell⟩
  · exact wpAny_loadName_local I.ok.kind hk hn hm go
  · rcases hk with hk | hk
    · exact wpAny_loadName_cell I.ok.kind hk hc hcell go
    · rcases hx with k | k
      · have : X.env.scope.names.lookup x = some .free := hk
        rw [k] at this; cases this
      · have : X.env.scope.names.lookup x = some .free := hk
        rw [k] at this; cases this
def ipI (f : Int → Int → Int) : TIp := fun x y H Q => ∃ i j, x = .int i ∧ y = .int j ∧ Q (.int (f i j)) H
theorem ip_add : PIp X .Add (ipI fun i j => i + j) := by
  intro pins s σ H x y v u Q I r1 r2 h
  obtain ⟨i, j, e1, e2, q⟩ := h
  subst e1; subst e2
  obtain ⟨t, rfl⟩ := r1
  obtain ⟨t', rfl⟩ := r2
  exact iadd_int ⟨.int _, H, I.tok _, ⟨_, rfl⟩, q⟩
end
section
variable {X : Cx} {pos : Pos}
def tWhile (c : TT) (tb : TS) : TS := fun D σ H => ∃ W : Nat → St → Hp → Prop, (∃ m, W m σ H) ∧ ∀ m σ H, W m σ H →
  c σ H fun b H1 => if b = true then ∃ N : St → Hp → Prop, (∀ σ' H', N σ' H' → ∃ m', m' < m ∧ W m' σ' H') ∧ tb { D with nx := N, ct := N, bk := D.nx } σ H1 else D.nx σ H1
theorem ps_while {c : Expr} {body : List Stmt} {tc : TT} {tb : TS} (hp : PassesOwn (model X.prog X.w) X.A X.env X.xe) (hc : PT X c tc) (hb : PSs X body tb) : PS X (.While c body [] pos) (tWhile tc tb) := by
  intro pins s σ H D I h
  obtain ⟨W, ⟨m0, w0⟩, turn⟩ := h
  refine wpAny_While (codeAny_whileLoop (fun n s' => ∃ σ' H', Inv X pins σ' H' s' ∧ W n σ' H') ?_ m0 ⟨σ, H, I, w0⟩)
  rintro n s1 ⟨σ1, H1, I1, w1⟩
  refine wpAny_passesOwn hp (thn (hc pins s1 σ1 H1 _ I1 (turn n σ1 H1 w1)) fun b s2 ⟨H2, I2, q2⟩ => ?_)
  cases b with
  | true =>
    obtain ⟨N, hN, q2⟩ := q2
    rw [if_pos rfl]
    refine wpAny_passesOwn hp (thn (hb pins s2 σ1 H2 _ I2 q2) fun f s3 q3 => ?_)
    cases f with
    | next =>
      obtain ⟨σ3, H3, I3, n3⟩ := q3
      obtain ⟨m', hm, w3⟩ := hN σ3 H3 n3
      exact ⟨m', hm, σ3, H3, I3, w3⟩
    | cont =>
      obtain ⟨σ3, H3, I3, n3⟩ := q3
      obtain ⟨m', hm, w3⟩ := hN σ3 H3 n3
      exact ⟨m', hm, σ3, H3, I3, w3⟩
    | brk => exact q3
    | ret v => exact q3
  | false =>
    rw [if_neg Bool.false_ne_true]
    exact wpAny_execs_nil ⟨σ1, H2, I2, q2⟩
end
structure It where
  go : Nat → Hp → Prop
  yld : Nat → Hp → V → Hp → Prop
  stop : Nat → Hp → Prop
def FpOk (X : Cx) (pins : List (Addr × Obj)) (H : Hp) (b : Addr) : Prop :=
  H b = none ∧ b ≠ X.env.locals ∧ b ∉ X.fs ∧ (b ∈ X.ex ∨ X.s₀.heap.objs.size ≤ b) ∧ (∀ x c, X.env.cells.lookup x = some c → c ≠ b) ∧ ∀ p ∈ X.pn ++ pins, p.1 ≠ b
theorem Inv.fpOk {X : Cx} {pins : List (Addr × Obj)} {σ : St} {H H' : Hp} {s : Shared} {b : Addr} (I : Inv X pins σ H s) (hb : s.heap.objs.size ≤ b) (hn : H' b = none) : FpOk X pins H' b := by
  refine ⟨hn, Nat.ne_of_gt (Nat.lt_of_lt_of_le I.lt hb), I.nofs hb, .inr (Nat.le_trans I.sz hb), fun x c e z => ?_, fun p hp z => ?_⟩
  · obtain ⟨v, q⟩ := I.cell x c e
    exact absurd (Nat.lt_of_lt_of_le q.lt (by rw [z]; exact hb)) (Nat.lt_irrefl _)
  · exact absurd (Nat.lt_of_lt_of_le (Heap.lt_size (I.pin p hp).1) (by rw [z]; exact hb)) (Nat.lt_irrefl _)
structure Turn (P : Program) (w : World) (K : PySem.W.Frag) (tg : Expr) (J : It) (fp : List Addr) (it : Addr) (tn : Nat → Heap → Prop) : Prop where
  mem : it ∈ fp
  obj : ∀ i h, tn i h → ∀ b ∈ fp, ∃ o, h.get? b = some o ∧ ∀ v, o.data ≠ .cell v
  keep : ∀ i h h', tn i h → (∀ b ∈ fp, ∀ o, h.get? b = some o → h'.get? b = some o) → tn i h'
  item : ∀ (X : Cx), X.prog = P → X.w = w → X.K = K → X.calm = true → ∀ (i : Nat) (pins : List (Addr × Obj)) (s : Shared) (σ : St) (H : Hp) (E : Value → Shared → Prop), Inv X pins σ H s → (∀ b ∈ fp, FpOk X pins H b) → tn i s.heap → J.go i H →
    wpAny (model P w) X.A (pyNext (.ref it)) (fun r s1 => ∃ u, r = some u ∧
      wpAny (model P w) X.A (letOwnedTupleGo tg (.ref it) u) (fun _ s2 => ∃ x H', Inv X pins σ H' s2 ∧ RelV x u ∧ J.yld i H x H' ∧ tn (i + 1) s2.heap ∧ ∀ b ∈ fp, H' b = none) E s1) E s
  done : ∀ (X : Cx), X.prog = P → X.w = w → X.K = K → X.calm = true → ∀ (i : Nat) (pins : List (Addr × Obj)) (s : Shared) (σ : St) (H : Hp) (E : Value → Shared → Prop), Inv X pins σ H s → (∀ b ∈ fp, FpOk X pins H b) → tn i s.heap → J.stop i H →
    wpAny (model P w) X.A (pyNext (.ref it)) (fun r s1 => r = none ∧ Inv X pins σ H s1) E s
  self : ∀ (A : Around) (i : Nat) (s : Shared) (Q : Value → Shared → Prop) (E : Value → Shared → Prop), tn i s.heap → Q (.ref it) s → wpAny (model P w) A (pyIter (.ref it)) Q E s
abbrev TI := St → Hp → (It → Hp → Prop) → Prop
def PIE (X : Cx) (pins : List (Addr × Obj)) (σ : St) (tg : Expr) (R : It → Hp → Prop) (itv : Value) (s2 : Shared) : Prop :=
  ∃ (it : Addr) (fp : List Addr) (tn : Nat → Heap → Prop) (J : It) (H' : Hp), itv = .ref it ∧ Inv X pins σ H' s2 ∧ Turn X.prog X.w X.K tg J fp it tn ∧ tn 0 s2.heap ∧ (∀ b ∈ fp, FpOk X pins H' b) ∧ R J H'
def PI (X : Cx) (tg iter : Expr) (wi : TI) : Prop :=
  ∀ (pins : List (Addr × Obj)) (s : Shared) (σ : St) (H : Hp) (R : It → Hp → Prop), Inv X pins σ H s → wi σ H R →
    wpAny (model X.prog X.w) X.A (eval iter X.env) (fun v s1 => wpAny (model X.prog X.w) X.A (pyIter v) (PIE X pins σ tg R) X.xe s1) X.xe s
theorem go_of {M : Model} {A : Around} {E : Value → Shared → Prop} {s : Shared} {tg : Expr} {it : Addr} {u : Value} {o : Obj} {n : String} {vs : Array Value} {Q : Unit → Shared → Prop} (ho : s.heap.get? it = some o) (hc : o.cls = .type n) (hd : o.data = .fields vs)
    (hn : ["enumerate", "zip", "dict_itemiterator", "dict_reverseitemiterator", "odict_iterator", "itertools.zip_longest", "itertools.pairwise"].contains n = false) (hQ : Q () s) : wpAny M A (letOwnedTupleGo tg (.ref it) u) Q E s := by
  unfold letOwnedTupleGo
  cases tg <;> first
    | exact wpAny_pure hQ
    | (cases u <;> first
        | exact wpAny_pure hQ
        | (refine wpAny_bind (wpAny_load ho ?_)
           rw [hc, hd]
           show wpAny M A (if (["enumerate", "zip", "dict_itemiterator", "dict_reverseitemiterator", "odict_iterator", "itertools.zip_longest", "itertools.pairwise"].contains n && vs[0]? == some (rawInt _)) = true then _ else _) Q E s
           rw [if_neg (by intro h; rw [hn, Bool.false_and] at h; cases h)]
           exact wpAny_pure hQ))
def Itl (K : PySem.W.Frag) (a : Addr) : It :=
  ⟨fun i H => ∃ xs x, SqL K H a xs ∧ xs[i]? = some x, fun i H x H' => H' = H ∧ ∀ xs, SqL K H a xs → xs[i]? = some x, fun i H => ∃ xs, SqL K H a xs ∧ xs.length ≤ i⟩
def Itt (K : PySem.W.Frag) (a : Addr) : It :=
  ⟨fun i H => ∃ xs x, SqT K H a xs ∧ xs[i]? = some x, fun i H x H' => H' = H ∧ ∀ xs, SqT K H a xs → xs[i]? = some x, fun i H => ∃ xs, SqT K H a xs ∧ xs.length ≤ i⟩
def Itr (lo : Int) (n : Nat) : It := ⟨fun i _ => i < n, fun i H x H' => H' = H ∧ x = .int (lo + i), fun i _ => n ≤ i⟩
theorem turn_list {P : Program} {w : World} {K : PySem.W.Frag} {tg : Expr} (a it : Addr) : Turn P w K tg (Itl K a) [it] it (fun i h => h.IsListIter it a i) where
  mem := by simp
  obj := fun i h st b hb => by
    have e : b = it := by simpa using hb
    subst e
    obtain ⟨o, e, c, d⟩ := st
    exact ⟨o, e, fun v z => by rw [d] at z; cases z⟩
  keep := fun i h h' st k => st.at fun o e => k it (by simp) o e
  item := by
    intro X hP hw hK hc i pins s σ H E I hf st hg
    subst hP hw hK
    obtain ⟨xs, x, hq, hx⟩ := hg
    obtain ⟨its, rv, p, hz⟩ := I.list hq
    obtain ⟨u, hu, ru⟩ := rv.get hx
    obtain ⟨f0, f1, f2, f3, f4, f5⟩ := hf it (by simp)
    refine wpAny_pyNext_list_item st p.isList (x := u) (by simpa using hu) fun h' st' sb => ?_
    have I1 : Inv X pins σ H { s with heap := h' } := I.turned (t' := s.toks) (fun b o hb e => (sb.2 b hb).trans e) f0 f1 f3 f4 f5
    obtain ⟨o, e, c, d⟩ := id st'
    exact ⟨u, rfl, go_of (s := { s with heap := h' }) e c d (by decide) ⟨x, H, I1, ru, ⟨rfl, fun ys hy => by rw [I.list_inj hy hq]; exact hx⟩, st', fun b hb => (hf b hb).1⟩⟩
  done := by
    intro X hP hw hK hc i pins s σ H E I hf st hg
    subst hP hw hK
    obtain ⟨xs, hq, hx⟩ := hg
    obtain ⟨its, rv, p, hz⟩ := I.list hq
    obtain ⟨f0, f1, f2, f3, f4, f5⟩ := hf it (by simp)
    have hl := rv.length
    exact wpAny_pyNext_list_end (I.ok.hd hc) st p.isList (by simp; omega) fun h' eb => ⟨rfl, I.turned (t' := s.toks) (fun b o hb e => eb b o hb e) f0 f1 f3 f4 f5⟩
  self := fun _ _ _ _ _ st h => wpAny_pyIter_listiter st h
theorem turn_tuple {P : Program} {w : World} {K : PySem.W.Frag} {tg : Expr} (a it : Addr) : Turn P w K tg (Itt K a) [it] it (fun i h => h.IsTupleIter it a i) where
  mem := by simp
  obj := fun i h st b hb => by
    have e : b = it := by simpa using hb
    subst e
    obtain ⟨o, e, c, d⟩ := st
    exact ⟨o, e, fun v z => by rw [d] at z; cases z⟩
  keep := fun i h h' st k => st.at fun o e => k it (by simp) o e
  item := by
    intro X hP hw hK hc i pins s σ H E I hf st hg
    subst hP hw hK
    obtain ⟨xs, x, hq, hx⟩ := hg
    obtain ⟨its, rv, p, hz⟩ := I.tuple hq
    obtain ⟨u, hu, ru⟩ := rv.get hx
    obtain ⟨f0, f1, f2, f3, f4, f5⟩ := hf it (by simp)
    refine wpAny_pyNext_tuple_item st (show s.heap.IsTuple a its.toArray from p) (x := u) (by simpa using hu) fun h' st' sb => ?_
    have I1 : Inv X pins σ H { s with heap := h' } := I.turned (t' := s.toks) (fun b o hb e => (sb.2 b hb).trans e) f0 f1 f3 f4 f5
    obtain ⟨o, e, c, d⟩ := id st'
    exact ⟨u, rfl, go_of (s := { s with heap := h' }) e c d (by decide) ⟨x, H, I1, ru, ⟨rfl, fun ys hy => by rw [I.tuple_inj hy hq]; exact hx⟩, st', fun b hb => (hf b hb).1⟩⟩
  done := by
    intro X hP hw hK hc i pins s σ H E I hf st hg
    subst hP hw hK
    obtain ⟨xs, hq, hx⟩ := hg
    obtain ⟨its, rv, p, hz⟩ := I.tuple hq
    obtain ⟨f0, f1, f2, f3, f4, f5⟩ := hf it (by simp)
    have hl := rv.length
    exact wpAny_pyNext_tuple_end (I.ok.hd hc) st (show s.heap.IsTuple a its.toArray from p) (by simp; omega) fun h' eb => ⟨rfl, I.turned (t' := s.toks) (fun b o hb e => eb b o hb e) f0 f1 f3 f4 f5⟩
  self := fun _ _ _ _ _ st h => wpAny_pyIter_tupleiter st h
theorem turn_range {P : Program} {w : World} {K : PySem.W.Frag} {tg : Expr} (it : Addr) (lo : Int) (n : Nat) : Turn P w K tg (Itr lo n) [it] it (fun i h => IsRangeIter h it (lo + (i : Nat) * 1) ((n : Int) - (i : Nat)) 1) where
  mem := by simp
  obj := fun i h st b hb => by
    have e : b = it := by simpa using hb
    subst e
    exact ⟨_, st, fun v z => by
      have z' : Data.fields _ = Data.cell v := z
      cases z'⟩
  keep := fun i h h' st k => k it (by simp) _ st
  item := by
    intro X hP hw hK hc i pins s σ H E I hf st hg
    subst hP hw hK
    obtain ⟨f0, f1, f2, f3, f4, f5⟩ := hf it (by simp)
    have W := Walks.range (prog := X.prog) (w := X.w) (I.ok.hd hc) it lo 1 n
    refine W.item i s _ _ hg st fun v h' tk hv st' kk => ?_
    obtain ⟨t, rfl⟩ := hv
    have I1 : Inv X pins σ H { s with heap := h', toks := tk } := I.turned (fun b o hb e => kk b o (by simpa using hb) e) f0 f1 f3 f4 f5
    refine ⟨_, rfl, go_of (s := { s with heap := h', toks := tk }) (n := "range_iterator") st' rfl rfl (by decide) ⟨.int (lo + i), H, I1, ⟨t, ?_⟩, ⟨rfl, rfl⟩, st', fun b hb => (hf b hb).1⟩⟩
    rw [Int.mul_one]
  done := by
    intro X hP hw hK hc i pins s σ H E I hf st hg
    subst hP hw hK
    obtain ⟨f0, f1, f2, f3, f4, f5⟩ := hf it (by simp)
    exact wpAny_pyNext_range_end (I.ok.hd hc) st (by have : n ≤ i := hg; omega) fun h' eb => ⟨rfl, I.turned (t' := s.toks) (fun b o hb e => eb b o hb e) f0 f1 f3 f4 f5⟩
  self := fun _ _ _ _ _ st h => wpAny_pyIter_rangeiter st h
end L2
namespace L2
open PySem PySem.Spec PyProof.Rows
section
variable {X : Cx} {tg : Expr}
theorem range_it {pins : List (Addr × Obj)} {σ : St} {H : Hp} {s : Shared} {R : It → Hp → Prop} {E : Value → Shared → Prop} {lo hi : Int} {t u v : Tok} {tk : Nat} (I : Inv X pins σ H s) (h1 : -(2 ^ 62) ≤ lo) (h2 : lo < 2 ^ 62) (h3 : -(2 ^ 62) ≤ hi) (h4 : hi < 2 ^ 62)
    (q : R (Itr lo (hi - lo).toNat) H) : wpAny (model X.prog X.w) X.A (pyIter (.ref s.heap.objs.size)) (PIE X pins σ tg R) E { s with heap := s.heap.push { cls := .type "range", data := .fields #[.int lo t, .int hi u, .int 1 v] }, toks := tk } := by
  refine wpAny_pyIter_range (IsRange.new ..) (small_one h1 h2 h3 h4) ?_
  have I1 : Inv X pins σ H { s with heap := s.heap.push { cls := .type "range", data := .fields #[.int lo t, .int hi u, .int 1 v] }, toks := tk } := I.kept fun b o e => Heap.get?_push_of_some _ e
  refine ⟨(s.heap.push { cls := .type "range", data := .fields #[.int lo t, .int hi u, .int 1 v] }).objs.size, [(s.heap.push { cls := .type "range", data := .fields #[.int lo t, .int hi u, .int 1 v] }).objs.size], _, _, H, rfl,
    I1.kept (t' := tk) fun b o e => Heap.get?_push_of_some _ e, turn_range _ lo (hi - lo).toNat, ?_, fun b hb => ?_, q⟩
  · have e1 : lo + ((0 : Nat) : Int) * 1 = lo := by simp
    have e2 : (((hi - lo).toNat : Nat) : Int) - ((0 : Nat) : Int) = Builtin.Range.rangeSize lo hi 1 := by rw [rangeSize_one]; split <;> omega
    show IsRangeIter _ _ (lo + ((0 : Nat) : Int) * 1) ((((hi - lo).toNat : Nat) : Int) - ((0 : Nat) : Int)) 1
    rw [e1, e2]
    exact Heap.get?_push_size _ rfl
  · have e : b = (s.heap.push { cls := .type "range", data := .fields #[.int lo t, .int hi u, .int 1 v] }).objs.size := by simpa using hb
    subst e
    exact I1.fpOk (Nat.le_refl _) (I1.hok.fresh (Nat.le_refl _))
def iRng1 (ta : TA) : TI := fun σ H R => ta σ H fun vs H1 => ∃ j : Int, vs = [.int j] ∧ -(2 ^ 62) ≤ j ∧ j < 2 ^ 62 ∧ R (Itr 0 j.toNat) H1
theorem pi_range1 {a : Expr} {ta : TA} {p pos : Pos} (hg : Gl X "range") (hm : X.mg "range" = none) (ha : PA X [a] ta) (hs : starEach [a] X.env = [(false, eval a X.env)] := by rfl) : PI X tg (.Call (.Name "range" p) [a] [] pos) (iRng1 ta) := by
  intro pins s σ H R I h
  refine Call_ (ld_blt I hg hm boot_range (PyProof.Rows.callWith_type1 (thn (ha pos pins s σ H _ I h) fun us s1 ⟨vs, H1, I1, r1, q1⟩ => ?_) hs rfl))
  obtain ⟨j, e, q1, q2, q⟩ := q1
  subst e
  cases r1 with
  | cons r rr =>
    cases rr
    obtain ⟨t, rfl⟩ := r
    exact call_range_1 (range_it I1 (by omega) (by omega) q1 q2 (by simpa using q))
def tFor (wi : TI) (g : TG) (tb : TS) : TS := fun D σ H => wi σ H fun J H1 => ∃ W : Nat → Nat → St → Hp → Prop, (∃ m, W 0 m σ H1) ∧ ∀ i m σ H, W i m σ H →
  (J.stop i H ∧ D.nx σ H) ∨ (J.go i H ∧ ∃ N : St → Hp → Prop, (∀ σ' H', N σ' H' → ∃ m', m' < m ∧ W (i + 1) m' σ' H') ∧ ∀ x H', J.yld i H x H' → g x σ H' fun σ2 H2 => tb { D with nx := N, ct := N, bk := D.nx } σ2 H2)
def pinsAt (fp : List Addr) (h : Heap) : List (Addr × Obj) := fp.filterMap fun b => (h.get? b).map fun o => (b, o)
theorem mem_pinsAt {fp : List Addr} {h : Heap} {b : Addr} {o : Obj} (hb : b ∈ fp) (e : h.get? b = some o) : (b, o) ∈ pinsAt fp h := List.mem_filterMap.mpr ⟨b, hb, by rw [e]; rfl⟩
theorem of_pinsAt {fp : List Addr} {h : Heap} {p : Addr × Obj} (hp : p ∈ pinsAt fp h) : p.1 ∈ fp ∧ h.get? p.1 = some p.2 := by
  obtain ⟨b, hb, e⟩ := List.mem_filterMap.mp hp
  cases q : h.get? b with
  | none => rw [q] at e; cases e
  | some o =>
    rw [q] at e
    have e' : (b, o) = p := Option.some.inj e
    subst e'
    exact ⟨hb, q⟩
theorem Inv.pinned {pins : List (Addr × Obj)} {σ : St} {H : Hp} {s : Shared} {fp : List Addr} (I : Inv X pins σ H s) (hf : ∀ b ∈ fp, FpOk X pins H b) (ho : ∀ b ∈ fp, ∃ o, s.heap.get? b = some o ∧ ∀ v, o.data ≠ .cell v) : Inv X (pins ++ pinsAt fp s.heap) σ H s :=
  I.pins_of fun p hp => (List.mem_append.mp hp).elim (fun z => I.pin p (List.mem_append_right _ z)) fun z => by
    obtain ⟨hb, e⟩ := of_pinsAt z
    obtain ⟨f0, f1, f2, _⟩ := hf p.1 hb
    obtain ⟨o, e', d⟩ := ho p.1 hb
    rw [e] at e'; cases e'
    exact ⟨e, f0, f1, f2, d⟩
theorem Inv.unpinned {pins pl : List (Addr × Obj)} {σ : St} {H : Hp} {s : Shared} (I : Inv X (pins ++ pl) σ H s) : Inv X pins σ H s := I.pins_of fun p hp => I.pin p (List.mem_append_right _ (List.mem_append_left _ hp))
theorem ps_for {iter : Expr} {body : List Stmt} {wi : TI} {g : TG} {tb : TS} {pos : Pos} (hp : PassesOwn (model X.prog X.w) X.A X.env X.xe) (hc : X.calm = true) (hi : PI X tg iter wi) (hg : PG X tg g) (hb : PSs X body tb)
    (hs : ∀ x, foldedSetIterable iter X.env x = pure x := by intro _; rfl) : PS X (.For tg iter body [] pos) (tFor wi g tb) := by
  intro pins s σ H D I h
  refine wpAny_For (thn (hi pins s σ H _ I h) fun v s1 h1 => thn h1 fun itv s2 h2 => ?_) hs
  obtain ⟨it, fp, tn, J, H2, e, I2, T, st2, f2, W, ⟨m0, w0⟩, turn⟩ := h2
  subst e
  -- what stays true of the iterator's objects through the loop
  have stat : ∀ {H' : Hp}, (∀ b ∈ fp, H' b = none) → ∀ b ∈ fp, FpOk X pins H' b := fun hn b hb => ⟨hn b hb, (f2 b hb).2⟩
  refine codeAny_forLoop_any (fun n s' => ∃ i σ' H', Inv X pins σ' H' s' ∧ tn i s'.heap ∧ (∀ b ∈ fp, H' b = none) ∧ W i n σ' H') ?_ m0 ⟨0, σ, H2, I2, st2, fun b hb => (f2 b hb).1, w0⟩
  rintro n s3 ⟨i, σ3, H3, I3, st3, fr3, w3⟩
  rcases turn i n σ3 H3 w3 with ⟨stop, qn⟩ | ⟨go, N, hN, step⟩
  · refine wpAny_passesOwn hp (thn (T.done X rfl rfl rfl hc i pins s3 σ3 H3 X.xe I3 (stat fr3) st3 stop) fun r s4 ⟨hr, I4⟩ => ?_)
    subst hr
    exact wpAny_execs_nil ⟨σ3, H3, I4, qn⟩
  · refine wpAny_passesOwn hp (thn (T.item X rfl rfl rfl hc i pins s3 σ3 H3 X.xe I3 (stat fr3) st3 go) fun r s4 ⟨u, hr, h4⟩ => ?_)
    subst hr
    refine wpAny_passesOwn hp (thn h4 fun _ s5 ⟨x, H5, I5, r5, y5, st5, fr5⟩ => ?_)
    have I5' := I5.pinned (stat fr5) (T.obj _ _ st5)
    refine wpAny_passesOwn hp (thn (hg _ s5 σ3 H5 x u _ I5' r5 (step x H5 y5)) fun _ s6 ⟨σ6, H6, I6, q6⟩ => ?_)
    refine wpAny_passesOwn hp (thn (hb _ s6 σ6 H6 _ I6 q6) fun f s7 q7 => ?_)
    have again : ∀ {σ7 : St} {H7 : Hp}, Inv X (pins ++ pinsAt fp s5.heap) σ7 H7 s7 → N σ7 H7 → ∃ m, m < n ∧ ∃ i σ' H', Inv X pins σ' H' s7 ∧ tn i s7.heap ∧ (∀ b ∈ fp, H' b = none) ∧ W i m σ' H' := fun {σ7 H7} I7 n7 => by
      obtain ⟨m', hm, w7⟩ := hN σ7 H7 n7
      refine ⟨m', hm, i + 1, σ7, H7, I7.unpinned, T.keep _ _ _ st5 fun b hb o e => (I7.pin (b, o) (List.mem_append_right _ (List.mem_append_right _ (mem_pinsAt hb e)))).1, fun b hb => ?_, w7⟩
      obtain ⟨o, e, d⟩ := T.obj _ _ st5 b hb
      exact (I7.pin (b, o) (List.mem_append_right _ (List.mem_append_right _ (mem_pinsAt hb e)))).2.1
    cases f with
    | next => obtain ⟨σ7, H7, I7, n7⟩ := q7; exact again I7 n7
    | cont => obtain ⟨σ7, H7, I7, n7⟩ := q7; exact again I7 n7
    | brk => obtain ⟨σ7, H7, I7, q7⟩ := q7; exact ⟨σ7, H7, I7.unpinned, q7⟩
    | ret v => obtain ⟨x7, σ7, H7, I7, r7, q7⟩ := q7; exact ⟨x7, σ7, H7, I7.unpinned, r7, q7⟩
end
end L2
namespace L2
open PySem PySem.Spec PyProof.Rows
abbrev R2 := V → V → Hp → VK → Prop
def OpR (X : Cx) (f : Value → Value → Sem Value) (r : R2) : Prop :=
  ∀ (pins : List (Addr × Obj)) (s : Shared) (σ : St) (H : Hp) (x y : V) (v u : Value) (Q : VK), Inv X pins σ H s → RelV x v → RelV y u → r x y H Q →
    wpAny (model X.prog X.w) X.A (f v u) (EP X pins σ Q) X.xe s
def UnR (X : Cx) (f : Value → Sem Value) (r : V → Hp → VK → Prop) : Prop :=
  ∀ (pins : List (Addr × Obj)) (s : Shared) (σ : St) (H : Hp) (x : V) (v : Value) (Q : VK), Inv X pins σ H s → RelV x v → r x H Q →
    wpAny (model X.prog X.w) X.A (f v) (EP X pins σ Q) X.xe s
def CallR (X : Cx) (f : Value) (r : List V → Hp → VK → Prop) : Prop :=
  ∀ (pins : List (Addr × Obj)) (s : Shared) (σ : St) (H : Hp) (xs : List V) (us : List Value) (Q : VK), Inv X pins σ H s → Vals xs us → r xs H Q →
    wpAny (model X.prog X.w) X.A (call f us) (EP X pins σ Q) X.xe s
def tOp (r : R2) (ta tb : TE) : TE := fun σ H Q => ta σ H fun x H1 => tb σ H1 fun y H2 => r x y H2 Q
def tUn (r : V → Hp → VK → Prop) (ta : TE) : TE := fun σ H Q => ta σ H fun x H1 => r x H1 Q
def rI (C : Int → Int → Prop) (g : Int → Int → V) : R2 := fun x y H Q => ∃ i j, x = .int i ∧ y = .int j ∧ C i j ∧ Q (g i j) H
def rI0 (g : Int → Int → V) : R2 := fun x y H Q => ∃ i j, x = .int i ∧ y = .int j ∧ Q (g i j) H
def rU (g : Int → V) : V → Hp → VK → Prop := fun x H Q => ∃ i, x = .int i ∧ Q (g i) H
section
variable {X : Cx} {a b c : Expr} {ta tb tc : TE} {pos : Pos}
theorem binT (ha : PE X a ta) (hb : PE X b tb) {pins : List (Addr × Obj)} {s : Shared} {σ : St} {H : Hp} {R : V → V → Hp → Prop} (I : Inv X pins σ H s)
    (h : ta σ H fun x H1 => tb σ H1 fun y H2 => R x y H2) {Q : Value → Shared → Prop} {f : Value → Value → Sem Value}
    (hf : ∀ v u s2 x y H2, Inv X pins σ H2 s2 → RelV x v → RelV y u → R x y H2 → wpAny (model X.prog X.w) X.A (f v u) Q X.xe s2) :
    wpAny (model X.prog X.w) X.A (eval a X.env) (fun v s₁ => wpAny (model X.prog X.w) X.A (eval b X.env) (fun u s₂ => wpAny (model X.prog X.w) X.A (f v u) Q X.xe s₂) X.xe s₁) X.xe s := by
  refine thn (ha pins s σ H _ I h) fun v s1 ⟨x, H1, I1, r1, q1⟩ => ?_
  refine thn (hb pins s1 σ H1 _ I1 q1) fun u s2 ⟨y, H2, I2, r2, q2⟩ => ?_
  exact hf v u s2 x y H2 I2 r1 r2 q2
theorem pe_op {op : Operator} {r : R2} (ho : OpR X (binaryOp op) r) (ha : PE X a ta) (hb : PE X b tb) : PE X (.BinOp a op b pos) (tOp r ta tb) := by
  intro pins s σ H Q I h
  exact wpAny_BinOp (binT ha hb I h fun v u s2 x y H2 I2 rx ry q => ho pins s2 σ H2 x y v u Q I2 rx ry q)
theorem pe_un {op : UnaryOp} {r : V → Hp → VK → Prop} (ho : UnR X (unaryOp op) r) (ha : PE X a ta) : PE X (.UnaryOp op a pos) (tUn r ta) := by
  intro pins s σ H Q I h
  exact UnaryOp_ (thn (ha pins s σ H _ I h) fun v s1 ⟨x, H1, I1, r1, q1⟩ => ho pins s1 σ H1 x v Q I1 r1 q1)
theorem opI {f : Value → Value → Sem Value} {C : Int → Int → Prop} {g : Int → Int → Int}
    (rule : ∀ (i j : Int) (t u : Tok) (s : Shared) (Q : Value → Shared → Prop) (E : Value → Shared → Prop), C i j → Q (.int (g i j) s.toks) { s with toks := s.toks + 1 } → wpAny (model X.prog X.w) X.A (f (.int i t) (.int j u)) Q E s) :
    OpR X f (rI C fun i j => .int (g i j)) := by
  intro pins s σ H x y v u Q I rx ry h
  obtain ⟨i, j, rfl, rfl, hc, q⟩ := h
  obtain ⟨t, rfl⟩ := rx
  obtain ⟨t', rfl⟩ := ry
  exact rule i j t t' s _ _ hc ⟨.int (g i j), H, I.tok _, ⟨_, rfl⟩, q⟩
theorem opI0 {f : Value → Value → Sem Value} {g : Int → Int → Int}
    (rule : ∀ (i j : Int) (t u : Tok) (s : Shared) (Q : Value → Shared → Prop) (E : Value → Shared → Prop), Q (.int (g i j) s.toks) { s with toks := s.toks + 1 } → wpAny (model X.prog X.w) X.A (f (.int i t) (.int j u)) Q E s) :
    OpR X f (rI0 fun i j => .int (g i j)) := by
  intro pins s σ H x y v u Q I rx ry h
  obtain ⟨i, j, rfl, rfl, q⟩ := h
  obtain ⟨t, rfl⟩ := rx
  obtain ⟨t', rfl⟩ := ry
  exact rule i j t t' s _ _ ⟨.int (g i j), H, I.tok _, ⟨_, rfl⟩, q⟩
theorem opB0 {f : Value → Value → Sem Value} {g : Int → Int → Bool}
    (rule : ∀ (i j : Int) (t u : Tok) (s : Shared) (Q : Value → Shared → Prop) (E : Value → Shared → Prop), Q (.bool (g i j)) s → wpAny (model X.prog X.w) X.A (f (.int i t) (.int j u)) Q E s) :
    OpR X f (rI0 fun i j => .bl (g i j)) := by
  intro pins s σ H x y v u Q I rx ry h
  obtain ⟨i, j, rfl, rfl, q⟩ := h
  obtain ⟨t, rfl⟩ := rx
  obtain ⟨t', rfl⟩ := ry
  exact rule i j t t' s _ _ ⟨.bl (g i j), H, I, rfl, q⟩
def CDiv (i j : Int) : Prop := 0 < j ∧ j < 1073741824
def CMul (i j : Int) : Prop := (-(2 ^ 64) < i ∧ i < 2 ^ 64) ∨ (-(2 ^ 64) < j ∧ j < 2 ^ 64)
theorem CMul.ok {i j : Int} (h : CMul i j) : IntMulOk i j := by
  rcases h with ⟨h1, h2⟩ | ⟨h1, h2⟩
  · exact .of_left (intBits_le_64 h1 h2)
  · exact .of_right (intBits_le_64 h1 h2)
theorem op_add : OpR X (binaryOp .Add) (rI0 fun i j => .int (i + j)) := opI0 fun _ _ _ _ _ _ _ q => add_int q
theorem op_sub : OpR X (binaryOp .Sub) (rI0 fun i j => .int (i - j)) := opI0 fun _ _ _ _ _ _ _ q => sub_int q
theorem op_mul : OpR X (binaryOp .Mult) (rI CMul fun i j => .int (i * j)) := opI fun _ _ _ _ _ _ _ hc q => mul_int q hc.ok
theorem op_fdiv : OpR X (binaryOp .FloorDiv) (rI CDiv fun i j => .int (i / j)) := opI fun i j _ _ _ _ _ hc q => by
  have h1 : (0 : Int) < j := hc.1
  have h2 : j < 1073741824 := hc.2
  exact floordiv_int (by omega) (by rw [Int.fdiv_eq_ediv_of_nonneg i (by omega)]; exact q) (.inl (PyProof.noPylong_small (by omega)))
theorem op_mod : OpR X (binaryOp .Mod) (rI (fun _ j => 0 < j) fun i j => .int (i % j)) := opI fun i j _ _ _ _ _ hc q => by
  have h1 : (0 : Int) < j := hc
  exact mod_int' (by omega) (by rw [Int.fmod_eq_emod_of_nonneg i (by omega)]; exact q)
theorem unI {f : Value → Sem Value} {g : Int → Int}
    (rule : ∀ (i : Int) (t : Tok) (s : Shared) (Q : Value → Shared → Prop) (E : Value → Shared → Prop), Q (.int (g i) s.toks) { s with toks := s.toks + 1 } → wpAny (model X.prog X.w) X.A (f (.int i t)) Q E s) :
    UnR X f (rU fun i => .int (g i)) := by
  intro pins s σ H x v Q I rx h
  obtain ⟨i, rfl, q⟩ := h
  obtain ⟨t, rfl⟩ := rx
  exact rule i t s _ _ ⟨.int (g i), H, I.tok _, ⟨_, rfl⟩, q⟩
theorem un_neg : UnR X (unaryOp .USub) (rU fun i => .int (-i)) := unI fun _ _ _ _ _ q => neg_int q
end
section
variable {X : Cx} {a b c : Expr} {ta tb tc : TE} {pos : Pos}
theorem fin_bl {pins : List (Addr × Obj)} {σ : St} {H : Hp} {s : Shared} {Q : VK} {k k' : Bool} (I : Inv X pins σ H s) (q : Q (.bl k) H) (e : k = k') : EP X pins σ Q (.bool k') s := by
  subst e
  exact ⟨.bl k, H, I, rfl, q⟩
theorem op_lt : OpR X (compareOp .Lt) (rI0 fun i j => .bl (decide (i < j))) := opB0 fun _ _ _ _ _ _ _ q => lt_int q
theorem op_le : OpR X (compareOp .LtE) (rI0 fun i j => .bl (decide (i ≤ j))) := opB0 fun _ _ _ _ _ _ _ q => le_int q
theorem op_gt : OpR X (compareOp .Gt) (rI0 fun i j => .bl (decide (j < i))) := opB0 fun _ _ _ _ _ _ _ q => gt_int q
theorem op_isN : OpR X (compareOp .Is) (fun x y H Q => y = .non ∧ Q (.bl (decide (x = .non))) H) := by
  intro pins s σ H x y v u Q I rx ry h
  obtain ⟨rfl, q⟩ := h
  cases ry
  refine is_none_gen (fin_bl I q ?_)
  cases x <;> first
    | (cases rx; rfl)
    | (obtain ⟨t, rfl⟩ := rx; rfl)
theorem op_notN : OpR X (compareOp .IsNot) (fun x y H Q => y = .non ∧ Q (.bl (!decide (x = .non))) H) := by
  intro pins s σ H x y v u Q I rx ry h
  obtain ⟨rfl, q⟩ := h
  cases ry
  refine isnot_none_gen (fin_bl I q ?_)
  cases x <;> first
    | (cases rx; rfl)
    | (obtain ⟨t, rfl⟩ := rx; rfl)
theorem OpR.or {f : Value → Value → Sem Value} {r r' : R2} (h : OpR X f r) (h' : OpR X f r') : OpR X f (fun x y H Q => r x y H Q ∨ r' x y H Q) := by
  intro pins s σ H x y v u Q I rx ry q
  rcases q with q | q
  · exact h pins s σ H x y v u Q I rx ry q
  · exact h' pins s σ H x y v u Q I rx ry q
theorem nomark (b : Expr) {op : CmpOp} (h : op ≠ .In := by decide) (h2 : op ≠ .NotIn := by decide) : behindInMarks op b = false := by
  have e1 : (op == CmpOp.In) = false := by cases op <;> first | rfl | exact absurd rfl h
  have e2 : (op == CmpOp.NotIn) = false := by cases op <;> first | rfl | exact absurd rfl h2
  cases b <;> simp [behindInMarks, e1, e2]
theorem pe_cmpR {op : CmpOp} {r : R2} (ho : OpR X (compareOp op) r) (ha : PE X a ta) (hb : PE X b tb) (hm : behindInMarks op b = false) : PE X (.Compare a [op] [b] pos) (tOp r ta tb) := by
  intro pins s σ H Q I h
  exact wpAny_Compare1 (binT ha hb I h fun v u s2 x y H2 I2 rx ry q => ho pins s2 σ H2 x y v u Q I2 rx ry q) hm
def tTest (t : TE) : TT := fun σ H Q => t σ H fun x H' => ∃ k, x = .bl k ∧ Q k H'
theorem pt_cmpR {op : CmpOp} {r : R2} (ho : OpR X (compareOp op) r) (ha : PE X a ta) (hb : PE X b tb) (hm : behindInMarks op b = false) : PT X (.Compare a [op] [b] pos) (tTest (tOp r ta tb)) := by
  intro pins s σ H Q I h
  refine wpAny_isTrue_Compare1 (thn (ha pins s σ H _ I h) fun v s1 ⟨x, H1, I1, r1, q1⟩ => thn (hb pins s1 σ H1 _ I1 q1) fun u s2 ⟨y, H2, I2, r2, q2⟩ =>
    thn (ho pins s2 σ H2 x y v u _ I2 r1 r2 q2) fun c s3 ⟨z, H3, I3, r3, k, e, q3⟩ => ?_) hm
  subst e
  cases r3
  exact wpAny_truthy_bool ⟨H3, I3, q3⟩
def tChain (r r' : R2) (ta tb tc : TE) : TE := fun σ H Q => ta σ H fun x H1 => tb σ H1 fun y H2 => r x y H2 fun z H3 => ∃ k, z = .bl k ∧
  (if k = true then tc σ H3 fun w' H4 => r' y w' H4 Q else Q (.bl false) H3)
theorem pe_chain {op op' : CmpOp} {r r' : R2} (ho : OpR X (compareOp op) r) (ho' : OpR X (compareOp op') r') (ha : PE X a ta) (hb : PE X b tb) (hc : PE X c tc)
    (hm : lastMarks [op, op'] [b, c] = false := by with_unfolding_all rfl) : PE X (.Compare a [op, op'] [b, c] pos) (tChain r r' ta tb tc) := by
  intro pins s σ H Q I h
  refine Compare_chain (thn (ha pins s σ H _ I h) fun v s1 ⟨x, H1, I1, r1, q1⟩ => chain_link (thn (hb pins s1 σ H1 _ I1 q1) fun u s2 ⟨y, H2, I2, r2, q2⟩ =>
    thn (ho pins s2 σ H2 x y v u _ I2 r1 r2 q2) fun d s3 ⟨z, H3, I3, r3, k, e, q3⟩ => ?_)) hm
  subst e
  cases r3
  refine wpAny_truthy_bool ?_
  cases k with
  | false => exact ite_ff ⟨.bl false, H3, I3, rfl, q3⟩
  | true => exact ite_tt (chain_last (thn (hc pins s3 σ H3 _ I3 q3) fun w' s4 ⟨z', H4, I4, r4, q4⟩ => ho' pins s4 σ H4 y z' u w' Q I4 r2 r4 q4))
theorem line63 : (sizeLine : Nat) < 2 ^ 63 := by rw [sizeLine_eq]; decide
theorem vals1 {x : V} {us : List Value} (r : Vals [x] us) : ∃ u, us = [u] ∧ RelV x u := by
  cases r with
  | cons r1 r2 => cases r2; exact ⟨_, rfl, r1⟩
theorem vals2 {x y : V} {us : List Value} (r : Vals [x, y] us) : ∃ u w', us = [u, w'] ∧ RelV x u ∧ RelV y w' := by
  cases r with
  | cons r1 r2 =>
    cases r2 with
    | cons r3 r4 => cases r4; exact ⟨_, _, rfl, r1, r3⟩
theorem call_max2 (hc : X.calm = true) : CallR X (.builtin "max") (fun xs H Q => ∃ i j, xs = [.int i, .int j] ∧ Q (.int (if j > i then j else i)) H) := by
  intro pins s σ H xs us Q I r h
  obtain ⟨i, j, rfl, q⟩ := h
  obtain ⟨u, w', rfl, ⟨t, rfl⟩, ⟨t', rfl⟩⟩ := vals2 r
  refine max_two_ints (I.ok.hd hc) fun h' tk k => ⟨_, H, I.kept k, ?_, q⟩
  by_cases hj : j > i
  · rw [if_pos hj, if_pos hj]; exact ⟨_, rfl⟩
  · rw [if_neg hj, if_neg hj]; exact ⟨_, rfl⟩
theorem call_min2 (hc : X.calm = true) : CallR X (.builtin "min") (fun xs H Q => ∃ i j, xs = [.int i, .int j] ∧ Q (.int (if j < i then j else i)) H) := by
  intro pins s σ H xs us Q I r h
  obtain ⟨i, j, rfl, q⟩ := h
  obtain ⟨u, w', rfl, ⟨t, rfl⟩, ⟨t', rfl⟩⟩ := vals2 r
  refine min_two_ints (I.ok.hd hc) fun h' tk k => ⟨_, H, I.kept k, ?_, q⟩
  by_cases hj : j < i
  · rw [if_pos hj, if_pos hj]; exact ⟨_, rfl⟩
  · rw [if_neg hj, if_neg hj]; exact ⟨_, rfl⟩
theorem call_int1 : CallR X (.type "int") (fun xs H Q => (∃ i, xs = [.int i] ∧ Q (.int i) H) ∨ ∃ k, xs = [.bl k] ∧ Q (.int (if k then 1 else 0)) H) := by
  intro pins s σ H xs us Q I r h
  rcases h with ⟨i, rfl, q⟩ | ⟨k, rfl, q⟩
  · obtain ⟨u, rfl, t, rfl⟩ := vals1 r
    exact call_int_int ⟨.int i, H, I, ⟨_, rfl⟩, q⟩
  · obtain ⟨u, rfl, r1⟩ := vals1 r
    cases r1
    exact call_int_bool ⟨.int (if k then 1 else 0), H, I.tok _, ⟨_, rfl⟩, q⟩
end
end L2
namespace L2
open PySem PySem.Spec PyProof.Rows
structure ObjM (h : Heap) (x dx C : Addr) (mA : Str → Option Value) : Prop where
  obj : h.get? x = some (PySem.W.instObj C dx)
  ns : h.Ns1 dx mA
  ne : dx ≠ x
theorem lookIn_ns {h : Heap} {dx : Addr} {mA : Str → Option Value} (n : h.Ns1 dx mA) : ∃ od, h.get? dx = some od ∧ ∀ name, PySem.W.lookIn name od = some (mA name) := by
  obtain ⟨o, es, ep, ho, hd, hk, _, hm⟩ := n
  refine ⟨o, ho, fun name => ?_⟩
  have e := hm name
  unfold nsFind findBy at e
  rw [← Array.find?_toList] at e
  unfold PySem.W.lookIn
  rw [hd]
  dsimp only
  split
  · rename_i y q
    rw [q] at e
    exact congrArg some e
  · rename_i q
    rw [q] at e
    have a : es.toList.any (·.refKey) = false := by
      rw [List.any_eq_false]
      intro y hy
      obtain ⟨z, t, hkey⟩ := hk y (Array.mem_toList_iff.mp hy)
      simp [DictEntry.refKey, hkey]
    have a' : ¬ es.toList.any (·.refKey) = true := by rw [a]; exact Bool.false_ne_true
    rw [if_neg a']
    exact congrArg some e
theorem ObjM.look {h : Heap} {x dx C : Addr} {mA : Str → Option Value} (I : ObjM h x dx C mA) : ∃ od, PySem.W.InstAt h x (PySem.W.instObj C dx) C (some od) ∧ ∀ name, PySem.W.lookIn name od = some (mA name) :=
  let ⟨od, ho, hl⟩ := lookIn_ns I.ns
  ⟨od, ⟨I.obj, rfl, rfl, ho⟩, hl⟩
section
variable {prog : Program} {w : World} {A : Around} {E : Value → Shared → Prop} {s : Shared} {K : PySem.W.Frag} {x dx C f : Addr} {mA : Str → Option Value} {name : Str} {v : Value}
theorem get_map {expr : Bool} {Q : Value → Shared → Prop} (X : K.In s.heap) (I : ObjM s.heap x dx C mA) (hg : PySem.W.plainGet K C name = true) (hh : PySem.W.hasDictIn K C = true)
    (ha : PySem.W.findIn K (.ref C) name = some none) (hv : mA name = some v) (hv' : PySem.W.handedIn v = true) (h : Q v { s with toks := s.toks + 1 }) :
    wpAny (model prog w) A (getAttr (.ref x) name expr) Q E s := by
  obtain ⟨od, J, hl⟩ := I.look
  exact PySem.W.get_value X J (PySem.W.plainGet_of hg).1 (PySem.W.findObj_own hh ha rfl (by rw [hl, hv])) hv' h
theorem set_map {ns : List Str} {Q : Unit → Shared → Prop} (X : K.In s.heap) (I : ObjM s.heap x dx C mA)
    (hs : PySem.W.findIn K (.ref C) "__setattr__" = some (some (.builtin "object.__setattr__"))) (hp : PySem.W.plainOver K C = true) (ht : PySem.W.takerIn K C name = some none) (hh : PySem.W.hasDictIn K C = true)
    (hw : PySem.Within mA ns) (hsz : ns.length ≤ sizeLine)
    (h : ∀ h', ObjM h' x dx C (fun y => if y = name then some v else mA y) → Heap.SameBut dx s.heap h' → Q () { s with heap := h', toks := s.toks + 2 }) :
    wpAny (model prog w) A (setAttr (.ref x) name v) Q E s := by
  obtain ⟨od, J, hl⟩ := I.look
  refine PySem.W.set_plain X J hs (PySem.W.osa_open (s := { s with toks := s.toks + 1 }) (r := none) X J hp ht fun b => ?_)
  obtain ⟨cd, hc, hd'⟩ := PySem.W.any_some hh
  have hx : s.heap.get? x = some ⟨.ref C, some dx, .plain, #[]⟩ := I.obj
  refine wpAny_bind (wpAny_pure (wpAny_bind (wpAny_bind (wpAny_loadPart hx (wpAny_bind (PySem.W.Looks.here (s := { s with toks := s.toks + 1 }) (PySem.W.looks_clsIn X hc) ?_))))))
  rw [hd']
  refine wpAny_pure (a := some dx) (wpAny_bind (wpAny_pure (wpAny_bind ?_)))
  refine wpAny_nsSet1 (s := { s with toks := s.toks + 1 }) I.ns fun h' hn2 hs2 => ?_
  obtain ⟨oD, esD, epD, hoD, hdD, hcD⟩ := hn2.count (PySem.Within.cons name v hw)
  refine wpAny_bind (wpAny_lookBehind hoD (by rw [hdD]; exact pastItsLine_dict (Nat.le_trans hcD (by rw [List.length_cons]; omega))) ?_)
  exact wpAny_pure (h _ ⟨(hs2.2 _ (Ne.symm I.ne)).trans I.obj, hn2, I.ne⟩ hs2)
theorem make_map {R : Result → Shared → Prop} {vs : List Value} {kw : List (Str × Value)} (X : K.In s.heap) (hm : PySem.W.makesIn K C = true)
    (hi : PySem.W.findIn K (.ref C) "__init__" = some (some (.ref f))) (hf : PySem.W.typeIn K (.ref f) = some (.type "function"))
    (h : codeAny (model prog w) (A.under (.builtin "type.__call__" ⟨.ref C :: vs, kw⟩)) (.call (.ref f) ⟨.ref (s.heap.objs.size + 1) :: vs, kw⟩) (PySem.W.InitBack (s.heap.objs.size + 1) R)
      { s with heap := (s.heap.push PySem.W.emptyDict).push (PySem.W.instObj C s.heap.objs.size) }) :
    codeAny (model prog w) A (.call (.ref C) ⟨vs, kw⟩) R s := by
  obtain ⟨hh, g, d, t, os⟩ := s
  exact PySem.W.make_core (PySem.W.makes_of X hm) (PySem.W.looks_findIn X hi) (fun self => PySem.W.bind_fn X self hf) (.inl rfl) h
end
def putF (f : Str) (v : V) : List (Str × V) → List (Str × V)
  | [] => [(f, v)]
  | (g, x) :: r => if g = f then (g, v) :: r else (g, x) :: putF f v r
theorem lookup_putF (f g : Str) (v : V) : ∀ fs : List (Str × V), (putF f v fs).lookup g = if g = f then some v else fs.lookup g
  | [] => by
    show List.lookup g [(f, v)] = _
    by_cases h : g = f
    · have hb : (g == f) = true := beq_iff_eq.mpr h
      simp only [List.lookup, hb, if_pos h]
    · have hb : (g == f) = false := beq_eq_false_iff_ne.mpr h
      simp only [List.lookup, hb, if_neg h]
  | (k, x) :: r => by
    have ih := lookup_putF f g v r
    rw [show putF f v ((k, x) :: r) = (if k = f then (k, v) :: r else (k, x) :: putF f v r) from rfl]
    by_cases hk : k = f
    · rw [if_pos hk]
      by_cases h : g = k
      · have hb : (g == k) = true := beq_iff_eq.mpr h
        simp only [List.lookup, hb, if_pos (h.trans hk)]
      · have hb : (g == k) = false := beq_eq_false_iff_ne.mpr h
        simp only [List.lookup, hb, if_neg (fun e : g = f => h (e.trans hk.symm))]
    · rw [if_neg hk]
      by_cases h : g = k
      · have hb : (g == k) = true := beq_iff_eq.mpr h
        simp only [List.lookup, hb, if_neg (fun e : g = f => hk (h.symm.trans e))]
      · have hb : (g == k) = false := beq_eq_false_iff_ne.mpr h
        simp only [List.lookup, hb]
        exact ih
theorem keys_putF (f : Str) (v : V) : ∀ fs : List (Str × V), f ∈ (putF f v fs).map (·.1) ∧ ∀ g, g ∈ fs.map (·.1) → g ∈ (putF f v fs).map (·.1)
  | [] => ⟨by simp [putF], fun g h => by simp at h⟩
  | (k, x) :: r => by
    obtain ⟨i1, i2⟩ := keys_putF f v r
    rw [show putF f v ((k, x) :: r) = (if k = f then (k, v) :: r else (k, x) :: putF f v r) from rfl]
    by_cases hk : k = f
    · rw [if_pos hk]
      subst hk
      exact ⟨by simp, fun g h => by simpa using h⟩
    · rw [if_neg hk]
      refine ⟨?_, fun g h => ?_⟩
      · rw [List.map_cons]
        exact List.mem_cons_of_mem _ i1
      · rw [List.map_cons] at h ⊢
        rcases List.mem_cons.mp h with e | e
        · exact List.mem_cons.mpr (.inl e)
        · exact List.mem_cons_of_mem _ (i2 g e)
theorem length_putF (f : Str) (v : V) : ∀ fs : List (Str × V), (putF f v fs).length ≤ fs.length + 1
  | [] => by simp [putF]
  | (k, x) :: r => by
    have ih := length_putF f v r
    rw [show putF f v ((k, x) :: r) = (if k = f then (k, v) :: r else (k, x) :: putF f v r) from rfl]
    by_cases hk : k = f
    · rw [if_pos hk, List.length_cons, List.length_cons]; omega
    · rw [if_neg hk, List.length_cons, List.length_cons]; omega
theorem RelO.some_of {v : V} {o : Option Value} (r : RelO (some v) o) : ∃ u, o = some u ∧ RelV v u := by
  cases o with
  | none => exact (show False from r).elim
  | some u => exact ⟨u, rfl, r⟩
theorem handed_of {v : V} {u : Value} (r : RelV v u) : PySem.W.handedIn u = true := by
  cases v with
  | non => cases (show u = Value.none from r); rfl
  | bl b => cases (show u = Value.bool b from r); rfl
  | int i => obtain ⟨t, e⟩ := (show ∃ t, u = Value.int i t from r); cases e; rfl
  | str x => obtain ⟨t, e⟩ := (show ∃ t, u = Value.str x t from r); cases e; rfl
  | byt b => obtain ⟨t, e⟩ := (show ∃ t, u = Value.bytes b t from r); cases e; rfl
  | flt b => obtain ⟨t, e⟩ := (show ∃ t, u = Value.float b t from r); cases e; rfl
  | ref a => cases (show u = Value.ref a from r); rfl
  | ty n => cases (show u = Value.type n from r); rfl
section
variable {P : Program} {w : World} {H H' : Hp} {h h' : Heap} {a C dx : Addr} {fs fs' : List (Str × V)}
theorem ins_get (hok : HOk P w H h) (e : H a = some (.ins C dx fs)) : ∃ mA, ObjM h a dx C mA ∧ (∀ f, RelO (fs.lookup f) (mA f)) ∧ PySem.Within mA (fs.map (·.1)) ∧ fs.length ≤ 1000 ∧ H dx = some (.own a) := by
  obtain ⟨d, z, ne, ob, mA, n, r, q⟩ := (show ObjOk P w H h a (.ins C dx fs) from hok a _ e)
  exact ⟨mA, ⟨ob, n, ne⟩, r, q, z, d⟩
end
structure Cls (K : PySem.W.Frag) (C : Addr) : Prop where
  pg : PySem.W.plainGet K C Str.empty = true
  hd : PySem.W.hasDictIn K C = true
  po : PySem.W.plainOver K C = true
  sa : PySem.W.findIn K (.ref C) "__setattr__" = some (some (.builtin "object.__setattr__"))
theorem Cls.get {K : PySem.W.Frag} {C : Addr} (c : Cls K C) (f : Str) : PySem.W.plainGet K C f = true := c.pg
def NoAttr (K : PySem.W.Frag) (C : Addr) (f : Str) : Prop := PySem.W.findIn K (.ref C) f = some none
theorem NoAttr.taker {K : PySem.W.Frag} {C : Addr} {f : Str} (n : NoAttr K C f) : PySem.W.takerIn K C f = some none := by
  unfold PySem.W.takerIn
  rw [show PySem.W.findIn K (.ref C) f = some none from n]
  rfl
section
variable {X : Cx} {pins : List (Addr × Obj)} {σ : St} {H : Hp} {s : Shared} {a C dx : Addr} {fs : List (Str × V)} {f : Str} {v : V} {A : Around} {E : Value → Shared → Prop}
theorem setattr_ok {y : V} {u : Value} {Q : Unit → Shared → Prop} (I : Inv X pins σ H s) (e : H a = some (.ins C dx fs)) (c : Cls X.K C) (n : NoAttr X.K C f) (hl : fs.length < 1000) (ry : RelV y u)
    (h : ∀ s', Inv X pins σ (upd H a (.ins C dx (putF f y fs))) s' → Q () s') : wpAny (model X.prog X.w) A (setAttr (.ref a) f u) Q E s := by
  obtain ⟨mA, O, r, wi, _, ho⟩ := ins_get I.hok e
  have hz : (fs.map (·.1)).length ≤ sizeLine := by rw [List.length_map, sizeLine_eq]; omega
  refine set_map I.kIn O c.sa c.po n.taker c.hd wi hz fun h' O' sb => h _ ?_
  have hd : ∃ o, h'.get? dx = some o := let ⟨o, _, _, e', _⟩ := O'.ns; ⟨o, e'⟩
  refine I.write (x := a) (e := dx) (by rw [e]; exact True.intro) (.inr ho) (fun b q hb z => (sb.2 b hb).trans z) hd ?_
  refine ⟨by rw [upd_ne O.ne]; exact ho, ?_, O.ne, O'.obj, _, O'.ns, fun g => ?_, fun g hg => ?_⟩
  · have := length_putF f y fs; omega
  · show RelO ((putF f y fs).lookup g) (if g = f then some u else mA g)
    rw [lookup_putF]
    by_cases q : g = f
    · rw [if_pos q, if_pos q]; exact ry
    · rw [if_neg q, if_neg q]; exact r g
  · by_cases q : g = f
    · rw [q]; exact (keys_putF f y fs).1
    · refine (keys_putF f y fs).2 g (wi g fun z => hg ?_)
      show (if g = f then some u else mA g) = none
      rw [if_neg q]; exact z
theorem Inv.made (I : Inv X pins σ H s) : Inv X pins σ (upd (upd H s.heap.objs.size (.own (s.heap.objs.size + 1))) (s.heap.objs.size + 1) (.ins C s.heap.objs.size []))
    { s with heap := (s.heap.push PySem.W.emptyDict).push (PySem.W.instObj C s.heap.objs.size) } := by
  have e1 : (s.heap.push PySem.W.emptyDict).get? s.heap.objs.size = some PySem.W.emptyDict := Heap.get?_push_size s.heap rfl
  have e2 : ((s.heap.push PySem.W.emptyDict).push (PySem.W.instObj C s.heap.objs.size)).get? (s.heap.objs.size + 1) = some (PySem.W.instObj C s.heap.objs.size) := by
    have := Heap.get?_push_size (s.heap.push PySem.W.emptyDict) (o := PySem.W.instObj C s.heap.objs.size) rfl
    rwa [Heap.size_push] at this
  have e3 : (s.heap.push PySem.W.emptyDict).Ns s.heap.objs.size (fun _ => none) := ⟨PySem.W.emptyDict, #[], _, e1, rfl, (fun e he => absurd he (by simp)), fun _ => rfl⟩
  have I1 := I.laid (a := s.heap.objs.size) (o := .own (s.heap.objs.size + 1)) (h' := s.heap.push PySem.W.emptyDict) (t' := s.toks) (fun b u q => Heap.get?_push_of_some _ q) (Nat.le_refl _) ⟨_, e1⟩
  refine I1.laid (a := s.heap.objs.size + 1) (o := .ins C s.heap.objs.size []) (t' := s.toks) (fun b u q => Heap.get?_push_of_some _ q) (Nat.le_of_eq (Heap.size_push _ _)) ?_
  have ne : s.heap.objs.size ≠ s.heap.objs.size + 1 := Nat.ne_of_lt (Nat.lt_succ_self _)
  refine ⟨by rw [upd_ne ne, upd_same], Nat.zero_le _, ne, e2, fun _ => none, (Heap.Ns1.of_empty e3).at fun o q => Heap.get?_push_of_some _ q, fun _ => True.intro, fun y hy => absurd rfl hy⟩
theorem attr_of {prog : Program} {w : World} {env : Env} {e : Expr} {f : Str} {pos : Pos} {s : Shared} {Q : Value → Shared → Prop} (hb : attributeBase e f env (eval e env) = eval e env)
    (h : wpAny (model prog w) A (eval e env) (fun o s₁ => wpAny (model prog w) A (getAttr o f true) Q E s₁) E s) : wpAny (model prog w) A (eval (.Attribute e f pos) env) Q E s :=
  Attribute_any_ h (by rw [arm_eval_Attribute, hb])
end
def sFld (K : PySem.W.Frag) (ta tv : TE) (f : Str) : TS := fun D σ H => tv σ H fun y H1 => ta σ H1 fun x H2 => ∃ a C dx fs, x = .ref a ∧ H2 a = some (.ins C dx fs) ∧ Cls K C ∧ NoAttr K C f ∧ fs.length < 1000 ∧
  D.nx σ (upd H2 a (.ins C dx (putF f y fs)))
section
variable {X : Cx} {o e value : Expr} {f : Str} {pos pos' tpos : Pos} {ta tv : TE}
theorem ps_fld (ha : PE X o ta) (hv : PE X value tv) (hs : swapsWith value (some (.Attribute o f pos')) pos.line X.env = pure false) : PS X (.Assign [.Attribute o f pos'] value pos) (sFld X.K ta tv f) := by
  intro pins s σ H D I h
  refine plainObj_wpAny_Assign_Attribute (thn (hv pins s σ H _ I h) fun u s1 ⟨y, H1, I1, ry, q⟩ => thn (ha pins s1 σ H1 _ I1 q) fun ov s2 ⟨x, H2, I2, rx, a, C, dx, fs, ex, ea, c, n, l, q2⟩ => ?_) hs
  subst ex
  obtain rfl : ov = Value.ref a := rx
  exact setattr_ok I2 ea c n l ry fun s3 I3 => ⟨σ, _, I3, q2⟩
end
section
variable {X : Cx} {pins : List (Addr × Obj)} {σ : St} {H : Hp} {s : Shared} {A : Around} {E : Value → Shared → Prop} {Q : Value → Shared → Prop} {c : Value} {b : Bool}
inductive TyOf (K : PySem.W.Frag) (H : Hp) : V → Value → Prop where
  | non : TyOf K H .non (.type "NoneType")
  | bl (x : Bool) : TyOf K H (.bl x) (.type "bool")
  | int (i : Int) : TyOf K H (.int i) (.type "int")
  | str (x : Str) : TyOf K H (.str x) (.type "str")
  | flt (x : UInt64) : TyOf K H (.flt x) (.type "float")
  | lst {a : Addr} {xs : List V} (e : H a = some (.lst xs)) : TyOf K H (.ref a) (.type "list")
  | frz {a : Addr} {o : Obj} {xs : List V} (e : H a = some (.frz o (.lst xs))) : TyOf K H (.ref a) (.type "list")
  | tup {a : Addr} {xs : List V} (e : H a = some (.tup xs)) : TyOf K H (.ref a) (.type "tuple")
  | dK {a : Addr} {kvs : List (Key × V)} (e : H a = some (.dK kvs)) : TyOf K H (.ref a) (.type "dict")
  | dT {a : Addr} {kvs : List (List Key × V)} (e : H a = some (.dT kvs)) : TyOf K H (.ref a) (.type "dict")
  | ins {a C dx : Addr} {fs : List (Str × V)} (e : H a = some (.ins C dx fs)) (cl : Cls K C) (ha : PySem.W.findIn K (.ref C) "__class__" = some (some (.builtin "object.__class__")))
      (hn : PySem.W.specialIn K (.builtin "object.__class__") "__get__" = some (some (.builtin "getset_descriptor.__get__"))) (htk : PySem.W.takesIn K (.builtin "object.__class__") = some true)
      (hm : PySem.W.mroIn K C (.type "object") = some true) : TyOf K H (.ref a) (.ref C)
theorem isinst_ok {x : V} {u t : Value} (I : Inv X pins σ H s) (rx : RelV x u) (ty : TyOf X.K H x t) (e : PySem.W.kitOne X.K t c = some b) (h : ∀ tk, Q (.bool b) { s with toks := tk }) :
    wpAny (model X.prog X.w) A (call (.builtin "isinstance") [u, c]) Q E s := by
  cases ty with
  | non => cases (show u = Value.none from rx); exact PySem.W.kia_one PySem.W.kitx_none I.kIn True.intro e (fun z => nomatch z) h
  | bl y => cases (show u = Value.bool y from rx); exact PySem.W.kia_one PySem.W.kitx_bool I.kIn True.intro e (fun z => nomatch z) h
  | int i => obtain ⟨t, q⟩ := (show ∃ t, u = Value.int i t from rx); cases q; exact PySem.W.kia_one PySem.W.kitx_int I.kIn True.intro e (fun z => nomatch z) h
  | str y => obtain ⟨t, q⟩ := (show ∃ t, u = Value.str y t from rx); cases q; exact PySem.W.kia_one PySem.W.kitx_str I.kIn True.intro e (fun z => nomatch z) h
  | flt y => obtain ⟨t, q⟩ := (show ∃ t, u = Value.float y t from rx); cases q; exact PySem.W.kia_one PySem.W.kitx_float I.kIn True.intro e (fun z => nomatch z) h
  | @lst a xs ea =>
    cases (show u = Value.ref a from rx)
    obtain ⟨_, _, n, _, h1⟩ := (show ObjOk X.prog X.w H s.heap a (.lst xs) from I.hok a _ ea)
    exact PySem.W.kia_one PySem.W.kitx_list I.kIn ⟨_, h1, rfl⟩ e (fun z => nomatch z) h
  | @frz a ob xs ea =>
    cases (show u = Value.ref a from rx)
    obtain ⟨_, _, _, n, _, h1⟩ := (show ObjOk X.prog X.w H s.heap a (.frz ob (.lst xs)) from I.hok a _ ea)
    exact PySem.W.kia_one PySem.W.kitx_list I.kIn ⟨_, h1, rfl⟩ e (fun z => nomatch z) h
  | @tup a xs ea =>
    cases (show u = Value.ref a from rx)
    obtain ⟨_, _, _, p⟩ := (show ObjOk X.prog X.w H s.heap a (.tup xs) from I.hok a _ ea)
    obtain ⟨o, h1, h2, _⟩ := p
    exact PySem.W.kia_one PySem.W.kitx_tuple I.kIn ⟨o, h1, h2⟩ e (fun z => nomatch z) h
  | @dK a kvs ea =>
    cases (show u = Value.ref a from rx)
    obtain ⟨_, _, vs, _, p⟩ := (show ObjOk X.prog X.w H s.heap a (.dK kvs) from I.hok a _ ea)
    obtain ⟨o, es, ep, h1, h2, _⟩ := p
    exact PySem.W.kia_one PySem.W.kitx_dict I.kIn ⟨o, h1, h2.1⟩ e (fun z => nomatch z) h
  | @dT a kvs ea =>
    cases (show u = Value.ref a from rx)
    obtain ⟨_, _, xs, _, o, es, ep, h1, h2, _⟩ := (show ObjOk X.prog X.w H s.heap a (.dT kvs) from I.hok a _ ea)
    exact PySem.W.kia_one PySem.W.kitx_dict I.kIn ⟨o, h1, h2.1⟩ e (fun z => nomatch z) h
  | @ins a C dx fs ea cl ha hn htk hm =>
    cases (show u = Value.ref a from rx)
    obtain ⟨mA, O, _⟩ := ins_get I.hok ea
    obtain ⟨od, J, _⟩ := O.look
    exact PySem.W.kia_one (PySem.W.kitx_own (cl.get _) cl.hd ha hn htk hm) I.kIn J e (fun z => nomatch z) h
end
end L2
namespace L2
open PySem PySem.Spec PyProof.Rows
structure Room (k : Nat) (A : Around) : Prop where
  hd : A.handled = none
  dp : A.depth + 3 * k + 5 < recursionLimit
  un : A.units + 16 * k + 200 < cLine
theorem Room.mono {j k : Nat} {A : Around} (r : Room k A) (h : j ≤ k) : Room j A := ⟨r.hd, by have := r.dp; omega, by have := r.un; omega⟩
theorem Room.deeper {k : Nat} {A : Around} (r : Room (k + 1) A) (env : Env) : Room k (A.deeper env) :=
  ⟨r.hd, by have := r.dp; show A.depth + 1 + 3 * k + 5 < _; omega, by have := r.un; show A.units + 3 + 16 * k + 200 < _; omega⟩
theorem make_depth {A : Around} {C : Addr} {us : List Value} {kw : List (Str × Value)} : (A.under (.builtin "type.__call__" ⟨.ref C :: us, kw⟩)).depth = A.depth + 1 := by
  first | rfl | simp [Around.under, Code.weight, Code.isCreation, Code.isGuard, Code.isCaller, Code.frames, Code.isFrame, guardIds]
theorem make_units {A : Around} {C : Addr} {us : List Value} {kw : List (Str × Value)} : (A.under (.builtin "type.__call__" ⟨.ref C :: us, kw⟩)).units = A.units + 1 := by
  first | rfl | simp [Around.under, Code.cUnits, Code.frames, Code.isFrame]
theorem Room.make {k : Nat} {A : Around} (r : Room (k + 1) A) (C : Addr) (us : List Value) (kw : List (Str × Value)) : Room k (A.under (.builtin "type.__call__" ⟨.ref C :: us, kw⟩)) :=
  ⟨r.hd, by have := r.dp; rw [make_depth]; omega, by have := r.un; rw [make_units]; omega⟩
theorem Room.depth {k : Nat} {A : Around} (r : Room k A) : A.depth < recursionLimit := by have := r.dp; omega
theorem Room.units {k : Nat} {A : Around} (r : Room k A) : A.units + 64 < cLine := by have := r.un; omega
def tNil : TA := fun _ H Q => Q [] H
def tCons (ta : TE) (tr : TA) : TA := fun σ H Q => ta σ H fun x H1 => tr σ H1 fun xs H2 => Q (x :: xs) H2
section
variable {X : Cx} {e : Expr} {es : List Expr} {te : TE} {t : TA} {pos : Pos}
theorem pa_nil : PA X [] tNil := fun _ _ _ _ H Q I h => Calls.spliced_nil ⟨[], H, I, .nil, h⟩
theorem pa_cons (ha : PE X e te) (hr : PA X es t) (hs : starEach (e :: es) X.env = (false, eval e X.env) :: starEach es X.env := by rfl) : PA X (e :: es) (tCons te t) := by
  intro pos pins s σ H Q I h
  rw [hs]
  show wpAny _ _ (spliced ((false, eval e X.env) :: backTo pos (starEach es X.env))) _ _ s
  refine Calls.spliced_cons (thn (ha pins s σ H _ I h) fun u s1 ⟨x, H1, I1, r1, q1⟩ => ?_)
  exact thn (hr pos pins s1 σ H1 _ I1 q1) fun us s2 ⟨xs, H2, I2, r2, q2⟩ => ⟨x :: xs, H2, I2, .cons r1 r2, q2⟩
def tTup (t : TA) : TE := fun σ H Q => t σ H fun xs H1 => xs.length ≤ sizeLine ∧ ∀ p, H1 p = none → Q (.ref p) (upd H1 p (.tup xs))
def tLst (t : TA) : TE := fun σ H Q => t σ H fun xs H1 => xs.length ≤ sizeLine ∧ ∀ p, H1 p = none → Q (.ref p) (upd H1 p (.lst xs))
theorem pe_tup {x1} (h : PA X es t) : PE X (.Tuple es x1 pos) (tTup t) := by
  intro pins s σ H Q I hq
  refine wpAny_Tuple_spliced (thn (h pos pins s σ H _ I hq) fun us s1 ⟨xs, H1, I1, r, z, q⟩ => ⟨by rw [← r.length]; exact z, ?_⟩)
  have hf : H1 s1.heap.objs.size = none := I1.hok.fresh (Nat.le_refl _)
  refine ⟨.ref s1.heap.objs.size, upd H1 s1.heap.objs.size (.tup xs), I1.laid (t' := s1.toks) (fun b u e => Heap.get?_push_of_some _ e) (Nat.le_refl _) ?_, rfl, q _ hf⟩
  exact ⟨z, us, r, ⟨_, Heap.get?_push_size _ rfl, rfl, _, rfl⟩⟩
theorem pe_lst (h : PA X es t) : PE X (.List es pos) (tLst t) := by
  intro pins s σ H Q I hq
  refine wpAny_List_spliced (thn (h pos pins s σ H _ I hq) fun us s1 ⟨xs, H1, I1, r, z, q⟩ => ⟨by rw [← r.length]; exact z, ?_⟩)
  have hf : H1 s1.heap.objs.size = none := I1.hok.fresh (Nat.le_refl _)
  refine ⟨.ref s1.heap.objs.size, upd H1 s1.heap.objs.size (.lst xs), I1.laid (t' := s1.toks) (fun b u e => Heap.get?_push_of_some _ e) (Nat.le_refl _) ?_, rfl, q _ hf⟩
  exact ⟨z, us, 0, r, Heap.get?_push_size _ rfl⟩
end
abbrev Sp := List V → Hp → VK → XK → Prop
abbrev CXT := List Env → Hp → Shared → XK → Value → Shared → Prop
structure Env0 (P : Program) (w : World) (K : PySem.W.Frag) (mg : Str → Option Value) (base : Heap) (A : Around) (outer : List Env) (s : Shared) (H : Hp) : Prop where
  frames : A.frames = some outer
  mod : Mod K mg base
  bs : ∀ b o, base.get? b = some o → s.heap.get? b = some o ∧ H b = none
  bsz : base.objs.size ≤ s.heap.objs.size
  funs : s.heap.FunFrames base outer
  frf : ∀ b ∈ frs outer, H b = none
  hok : HOk P w H s.heap
  bare : AllBare s.gens
def CE (outer : List Env) (P : Program) (w : World) (H : Hp) (s : Shared) (Q : VK) (u : Value) (s' : Shared) : Prop :=
  ∃ v H', s'.os = s.os ∧ AllBare s'.gens ∧ Un (frs outer) [] H H' s.heap s'.heap ∧ HOk P w H' s'.heap ∧ RelV v u ∧ Q v H'
def CR (CX : CXT) (outer : List Env) (P : Program) (w : World) (H : Hp) (s : Shared) (Q : VK) (E : XK) (r : Result) (s' : Shared) : Prop :=
  match r with
  | .ok (.ret u) => CE outer P w H s Q u s'
  | .ok _ => False
  | .error e => CX outer H s E e s'
structure FnOk (P : Program) (w : World) (K : PySem.W.Frag) (mg : Str → Option Value) (base : Heap) (CX : CXT) (k : Nat) (f : Addr) (fd : FuncData) (ps : List Str) (sp : Sp) : Prop where
  len : ∀ vs H Q E, sp vs H Q E → vs.length = ps.length
  run : ∀ (A : Around) (outer : List Env) (s : Shared) (H : Hp) (args : Args) (us : List Value) (vs : List V) (Q : VK) (E : XK), Room k A → Env0 P w K mg base A outer s H → BindsTo s fd args (ps.zip us) → Vals vs us → sp vs H Q E →
    codeAny (model P w) A (.call (.ref f) args) (CR CX outer P w H s Q E) s
theorem FnOk.mono {P : Program} {w : World} {K : PySem.W.Frag} {mg : Str → Option Value} {base : Heap} {CX : CXT} {j k : Nat} {f : Addr} {fd : FuncData} {ps : List Str} {sp : Sp} (F : FnOk P w K mg base CX j f fd ps sp) (h : j ≤ k) :
    FnOk P w K mg base CX k f fd ps sp := ⟨F.len, fun A outer s H args us vs Q E hr => F.run A outer s H args us vs Q E (hr.mono h)⟩
theorem FnOk.imp {P : Program} {w : World} {K : PySem.W.Frag} {mg : Str → Option Value} {base : Heap} {CX : CXT} {k : Nat} {f : Addr} {fd : FuncData} {ps : List Str} {sp sp' : Sp} (F : FnOk P w K mg base CX k f fd ps sp)
    (h : ∀ vs H Q E, sp' vs H Q E → sp vs H Q E) : FnOk P w K mg base CX k f fd ps sp' :=
  ⟨fun vs H Q E q => F.len vs H Q E (h _ _ _ _ q), fun A outer s H args us vs Q E hr he hb hv hs => F.run A outer s H args us vs Q E hr he hb hv (h _ _ _ _ hs)⟩
theorem Env0.make {P : Program} {w : World} {K : PySem.W.Frag} {mg : Str → Option Value} {base : Heap} {A : Around} {outer : List Env} {s : Shared} {H : Hp} (e : Env0 P w K mg base A outer s H) (C : Addr) (us : List Value) (kw : List (Str × Value)) :
    Env0 P w K mg base (A.under (.builtin "type.__call__" ⟨.ref C :: us, kw⟩)) outer s H := ⟨by first | exact e.frames | (simpa [Around.under, Code.envs, Code.isFrame, pushEnvs] using e.frames), e.mod, e.bs, e.bsz, e.funs, e.frf, e.hok, e.bare⟩
section
variable {X : Cx} {pins : List (Addr × Obj)} {σ : St} {H : Hp} {s s' : Shared}
theorem Inv.env0 (I : Inv X pins σ H s) : Env0 X.prog X.w X.K X.mg X.base X.A X.stack s H :=
  ⟨I.ok.frames, I.ok.mod, I.bs, Nat.le_trans I.ok.bsz I.sz, I.stack, I.stkFree, I.hok, I.bare⟩
theorem Inv.after {Q : VK} {u : Value} (I : Inv X pins σ H s) (h : CE X.stack X.prog X.w H s Q u s') : EP X pins σ Q u s' := by
  obtain ⟨v, H', os, bare, un, hok, r, q⟩ := h
  obtain ⟨hh, g, d, t, os'⟩ := s'
  obtain rfl : os' = s.os := os
  exact ⟨v, H', I.call (h' := hh) (g' := g) (d' := d) (t' := t) (ch := []) un hok bare (fun b z => absurd z (by simp)), r, q⟩
end
def tCall (sp : Sp) (dvs : List V) (E : XK) (t : TA) : TE := fun σ H Q => t σ H fun vs H1 => sp (vs ++ dvs) H1 Q E
def tMake (C : Addr) (sp : Sp) (dvs : List V) (E : XK) (t : TA) : TE := fun σ H Q => t σ H fun vs H1 => ∀ x dx, H1 x = none → H1 dx = none → dx ≠ x →
  sp (.ref x :: (vs ++ dvs)) (upd (upd H1 dx (.own x)) x (.ins C dx [])) (fun v H2 => v = .non ∧ Q (.ref x) H2) E
def Binds (K : PySem.W.Frag) (fd : FuncData) (ps : List Str) (ds : List Value) : Prop :=
  ∀ (s : Shared) (us : List Value), K.In s.heap → (us ++ ds).length = ps.length → BindsTo s fd ⟨us, []⟩ (ps.zip (us ++ ds))
theorem Binds.all {K : PySem.W.Frag} {fd : FuncData} {ps : List Str} (h : ∀ us : List Value, us.length = ps.length → bindArgs fd ⟨us, []⟩ = pure (ps.zip us)) : Binds K fd ps [] := fun s us _ hl => by
  rw [List.append_nil] at hl ⊢
  exact .of_eq (h us hl)
def Passes (CX : CXT) (X : Cx) (E : XK) : Prop := ∀ (pins : List (Addr × Obj)) (σ : St) (H : Hp) (s : Shared) (e : Value) (s' : Shared), Inv X pins σ H s → CX X.stack H s E e s' → X.xe e s'
section
variable {X : Cx} {CX : CXT} {k : Nat} {f C : Addr} {fd : FuncData} {ps : List Str} {sp : Sp} {dvs : List V} {ds : List Value} {E : XK} {x m : Str} {p pos apos : Pos} {e o : Expr} {es : List Expr} {ta : TE} {t : TA}
theorem run_fn {pins : List (Addr × Obj)} {σ : St} {H : Hp} {s : Shared} {Q : VK} {us : List Value} {vs : List V} (F : FnOk X.prog X.w X.K X.mg X.base CX k f fd ps sp) (hr : Room k X.A) (hb : Binds X.K fd ps ds) (hd : Vals dvs ds) (hx : Passes CX X E)
    (I : Inv X pins σ H s) (r : Vals vs us) (h : sp (vs ++ dvs) H Q E) : wpAny (model X.prog X.w) X.A (call (.ref f) us) (EP X pins σ Q) X.xe s := by
  have r2 : Vals (vs ++ dvs) (us ++ ds) := r.append hd
  have hl : (us ++ ds).length = ps.length := by rw [← r2.length]; exact F.len _ _ _ _ h
  refine wpAny_call (codeAny_mono (F.run X.A X.stack s H ⟨us, []⟩ (us ++ ds) (vs ++ dvs) Q E hr I.env0 (hb s us I.kIn hl) r2 h) fun r s' hq => ?_)
  cases r with
  | error e => exact hx pins σ H s e s' I hq
  | ok fl =>
    cases fl with
    | ret u => exact I.after hq
    | next => exact False.elim hq
    | brk => exact False.elim hq
    | cont => exact False.elim hq
theorem pe_call (F : FnOk X.prog X.w X.K X.mg X.base CX k f fd ps sp) (hr : Room k X.A) (hg : Gl X x) (hm : X.mg x = some (.ref f)) (hk : PySem.W.keepIn X.K (.ref f) = true) (hb : Binds X.K fd ps ds) (hd : Vals dvs ds) (hx : Passes CX X E)
    (ha : PA X (e :: es) t) (hdb : (x == ("__debug__" : Str)) = false := by decide) (he : starEach (e :: es) X.env = (false, eval e X.env) :: starEach es X.env := by rfl) (hpl : (backTo pos (starEach es X.env)).any (·.1) = false := by rfl) :
    PE X (.Call (.Name x p) (e :: es) [] pos) (tCall sp dvs E t) := by
  intro pins s σ H Q I h
  refine wpAny_Call_Name_kw (ld_glob I hg hm ?_ hdb)
  refine PySem.W.callWith_K (h₀ := X.base) I.ok.mod.kin hk (thn (ha pos pins s σ H _ I h) fun us s1 ⟨vs, H1, I1, r, q⟩ => ⟨I1.kIn, ?_⟩) he hpl
  exact run_fn F hr hb hd hx I1 r q
structure Mk (K : PySem.W.Frag) (C f : Addr) : Prop where
  makes : PySem.W.makesIn K C = true
  init : PySem.W.findIn K (.ref C) "__init__" = some (some (.ref f))
  fn : PySem.W.isFn K (.ref f) = true
  kp : PySem.W.keepIn K (.ref C) = true
theorem run_make {pins : List (Addr × Obj)} {σ : St} {H : Hp} {s : Shared} {Q : VK} {us : List Value} {vs : List V} (M : Mk X.K C f) (F : FnOk X.prog X.w X.K X.mg X.base CX k f fd ps sp) (hr : Room (k + 1) X.A) (hb : Binds X.K fd ps ds) (hd : Vals dvs ds)
    (hx : Passes CX X E) (I : Inv X pins σ H s) (r : Vals vs us)
    (h : ∀ x dx, H x = none → H dx = none → dx ≠ x → sp (.ref x :: (vs ++ dvs)) (upd (upd H dx (.own x)) x (.ins C dx [])) (fun v H2 => v = .non ∧ Q (.ref x) H2) E) :
    wpAny (model X.prog X.w) X.A (call (.ref C) us) (EP X pins σ Q) X.xe s := by
  have hq := h (s.heap.objs.size + 1) s.heap.objs.size (I.hok.fresh (Nat.le_succ _)) (I.hok.fresh (Nat.le_refl _)) (Nat.ne_of_lt (Nat.lt_succ_self _))
  have I2 := Inv.made (C := C) I
  have r2 : Vals (V.ref (s.heap.objs.size + 1) :: (vs ++ dvs)) (Value.ref (s.heap.objs.size + 1) :: (us ++ ds)) := .cons rfl (r.append hd)
  have hl : (Value.ref (s.heap.objs.size + 1) :: us ++ ds).length = ps.length := by
    have e := r2.length
    rw [F.len _ _ _ _ hq] at e
    exact e.symm
  refine wpAny_call (make_map (f := f) I.kIn M.makes M.init (beq_iff_eq.mp M.fn) (codeAny_mono (F.run _ X.stack _ _ ⟨Value.ref (s.heap.objs.size + 1) :: us, []⟩ (Value.ref (s.heap.objs.size + 1) :: (us ++ ds)) _ _ E (hr.make C us [])
    (I2.env0.make C us []) (hb _ (Value.ref (s.heap.objs.size + 1) :: us) I2.kIn hl) r2 hq) fun r s' hq' => ?_))
  cases r with
  | error e => exact hx pins σ _ _ e s' I2 hq'
  | ok fl =>
    cases fl with
    | ret u =>
      obtain ⟨v, H', I3, rv, ev, q3⟩ := I2.after hq'
      subst ev
      exact ⟨rv, ⟨V.ref (s.heap.objs.size + 1), H', I3, rfl, q3⟩⟩
    | next => exact False.elim hq'
    | brk => exact False.elim hq'
    | cont => exact False.elim hq'
theorem pe_make (M : Mk X.K C f) (F : FnOk X.prog X.w X.K X.mg X.base CX k f fd ps sp) (hr : Room (k + 1) X.A) (hg : Gl X x) (hm : X.mg x = some (.ref C)) (hb : Binds X.K fd ps ds) (hd : Vals dvs ds) (hx : Passes CX X E)
    (ha : PA X (e :: es) t) (hdb : (x == ("__debug__" : Str)) = false := by decide) (he : starEach (e :: es) X.env = (false, eval e X.env) :: starEach es X.env := by rfl) (hpl : (backTo pos (starEach es X.env)).any (·.1) = false := by rfl) :
    PE X (.Call (.Name x p) (e :: es) [] pos) (tMake C sp dvs E t) := by
  intro pins s σ H Q I h
  refine wpAny_Call_Name_kw (ld_glob I hg hm ?_ hdb)
  refine PySem.W.callWith_K (h₀ := X.base) I.ok.mod.kin M.kp (thn (ha pos pins s σ H _ I h) fun us s1 ⟨vs, H1, I1, r, q⟩ => ⟨I1.kIn, ?_⟩) he hpl
  exact run_make M F hr hb hd hx I1 r q
end
structure FnScope (N P : List Str) (sc : Scope) : Prop where
  kind : sc.kind = .function
  co : sc.isCoroutine = false
  gen : sc.isGenerator = false
  nd : N.Nodup
  pre : N.take P.length = P
  par : ∀ x ∈ P, sc.names.lookup x = some .local ∨ sc.names.lookup x = some .cell
  nofree : ∀ y ∈ sc.names, y.2 ≠ .free
theorem bindL_out {kindOf : Str → Option NameKind} {x : Str} : ∀ {binds : List (Str × Value)} {m : Str → Option Value}, (∀ v, (x, v) ∉ binds) → bindL kindOf binds m x = m x
  | [], _, _ => rfl
  | (n, v) :: r, m, h => by
    unfold bindL
    rw [bindL_out fun w hw => h w (List.mem_cons_of_mem _ hw)]
    split
    · have : x ≠ n := by rintro rfl; exact h v List.mem_cons_self
      simp [this]
    · rfl
theorem bindC_out {kindOf : Str → Option NameKind} {x : Str} : ∀ {binds : List (Str × Value)} {m : Str → Option Value}, (∀ v, (x, v) ∉ binds) → bindC kindOf binds m x = m x
  | [], _, _ => rfl
  | (n, v) :: r, m, h => by
    unfold bindC
    rw [bindC_out fun w hw => h w (List.mem_cons_of_mem _ hw)]
    split
    · rfl
    · have : x ≠ n := by rintro rfl; exact h v List.mem_cons_self
      simp [this]
theorem bindL_get {kindOf : Str → Option NameKind} {x : Str} {v : Value} : ∀ {P : List Str} {vs : List Value} {i : Nat} {m : Str → Option Value}, P.Nodup → P[i]? = some x → vs[i]? = some v → kindOf x = some .local →
    bindL kindOf (P.zip vs) m x = some v
  | [], _, _, _, _, h, _, _ => by simp at h
  | _ :: _, [], _, _, _, _, h, _ => by simp at h
  | p :: P, w :: vs, 0, m, nd, h1, h2, hk => by
    simp at h1 h2; subst h1; subst h2
    show bindL kindOf ((p, w) :: P.zip vs) m p = _
    unfold bindL
    rw [bindL_out fun v hv => (List.nodup_cons.mp nd).1 (List.of_mem_zip hv).1, if_pos hk]
    simp
  | p :: P, w :: vs, i + 1, m, nd, h1, h2, hk => by
    show bindL kindOf ((p, w) :: P.zip vs) m x = _
    unfold bindL
    exact bindL_get (i := i) (List.nodup_cons.mp nd).2 (by simpa using h1) (by simpa using h2) hk
theorem bindC_get {kindOf : Str → Option NameKind} {x : Str} {v : Value} : ∀ {P : List Str} {vs : List Value} {i : Nat} {m : Str → Option Value}, P.Nodup → P[i]? = some x → vs[i]? = some v → kindOf x ≠ some .local →
    bindC kindOf (P.zip vs) m x = some v
  | [], _, _, _, _, h, _, _ => by simp at h
  | _ :: _, [], _, _, _, _, h, _ => by simp at h
  | p :: P, w :: vs, 0, m, nd, h1, h2, hk => by
    simp at h1 h2; subst h1; subst h2
    show bindC kindOf ((p, w) :: P.zip vs) m p = _
    unfold bindC
    rw [bindC_out fun v hv => (List.nodup_cons.mp nd).1 (List.of_mem_zip hv).1, if_neg hk]
    simp
  | p :: P, w :: vs, i + 1, m, nd, h1, h2, hk => by
    show bindC kindOf ((p, w) :: P.zip vs) m x = _
    unfold bindC
    exact bindC_get (i := i) (List.nodup_cons.mp nd).2 (by simpa using h1) (by simpa using h2) hk
def start (N : List Str) (vs : List V) : St := vs.map some ++ List.replicate (N.length - vs.length) none
def cxOf (CX : CXT) (P : Program) (w : World) (K : PySem.W.Frag) (mg : Str → Option Value) (base : Heap) (N : List Str) (qual : Str) (scope : Scope) (f : Addr) (cd : Value) (A : Around) (outer : List Env) (s : Shared) (H : Hp) (E : XK) : Cx where
  prog := P
  w := w
  K := K
  mg := mg
  base := base
  A := A.deeper (envOfC qual scope s.heap.objs.size f cd)
  N := N
  s₀ := s
  H₀ := H
  env := envOfC qual scope s.heap.objs.size f cd
  outer := outer
  stack := envOfC qual scope s.heap.objs.size f cd :: outer
  ex := []
  calm := true
  fn := fun _ => true
  pn := []
  xe := fun e s' => wpAny (model P w) (A.deeper (envOfC qual scope s.heap.objs.size f cd)) (leaving (envOfC qual scope s.heap.objs.size f cd) e) (fun _ s'' => CX outer H s E e s'') (fun e' s'' => CX outer H s E e' s'') s'
theorem cell_has {sc : Scope} {n : Nat} {x : Str} (h : sc.names.lookup x = some .cell) : ∃ c, (cellsFrom n sc.names []).lookup x = some c := by
  have q := PySem.W.cellsFrom_some sc.names n [] (.inl h)
  exact Option.isSome_iff_exists.mp q
theorem inv_start {CX : CXT} {P : Program} {w : World} {K : PySem.W.Frag} {mg : Str → Option Value} {base : Heap} {N ps : List Str} {qual : Str} {scope : Scope} {f : Addr} {cd : Value} {A : Around} {outer : List Env} {s s1 : Shared} {H : Hp} {E : XK} {us : List Value} {vs : List V}
    (S : FnScope N ps scope) (hd : A.handled = none) (e0 : Env0 P w K mg base A outer s H) (hl : vs.length = ps.length) (r : Vals vs us)
    (x : InCallC s s.heap.objs.size (bindL (envOfC qual scope s.heap.objs.size f cd).kindOf (ps.zip us) fun _ => none) (cellsFrom (s.heap.objs.size + 1) scope.names []) (bindC (envOfC qual scope s.heap.objs.size f cd).kindOf (ps.zip us) fun _ => none) s1) :
    Inv (cxOf CX P w K mg base N qual scope f cd A outer s H E) [] (start N vs) H s1 := by
  have hpl : ps.length ≤ N.length := by have := congrArg List.length S.pre; rw [List.length_take] at this; omega
  obtain ⟨h1, tk, rfl, hk⟩ := x.done
  have noA : ∀ b : Addr, b ∉ (cxOf CX P w K mg base N qual scope f cd A outer s H E).ex := fun b z => absurd (show b ∈ ([] : List Addr) from z) (by simp)
  refine ⟨⟨e0.mod, S.kind, rfl, rfl, Nat.le_refl _, fun y z c h1 h2 => ?_, fun y hy => ?_, fun y c _ h => ?_, fun _ => hd, Around.frames_deeper e0.frames, .inr ⟨rfl, rfl⟩, fun b z => absurd z (noA b), e0.bs, e0.bsz, fun b _ _ => noA b, fun b z => absurd z (noA b), e0.funs, e0.frf⟩,
    rfl, e0.bare, Un.kept hk, ⟨_, x.toInCall.ns, fun i y v h1 h2 h3 => ?_⟩, fun y c h => ⟨_, x.cell y c h⟩, e0.hok.fresh (Nat.le_refl _), fun y c h => ?_, fun p hp => absurd (show p ∈ ([] : List (Addr × Obj)) from hp) (by simp), e0.hok.kept hk, ?_⟩
  · exact name_of_addr x.apart (PySem.mem_of_lookup h1) (PySem.mem_of_lookup h2)
  · have hy : scope.names.lookup y = some .cell ∨ scope.names.lookup y = some .free := hy
    rcases hy with hy | hy
    · exact cell_has hy
    · exact absurd rfl (S.nofree _ (PySem.mem_of_lookup hy))
  · exact Nat.le_of_lt (x.above y c (PySem.mem_of_lookup h))
  · have hi : i < vs.length := by
      unfold start at h2
      by_cases hi : i < vs.length
      · exact hi
      · rw [List.getElem?_append_right (by simpa using hi)] at h2
        rw [List.getElem?_replicate] at h2
        split at h2 <;> cases h2
    have ha : vs[i]? = some v := by
      unfold start at h2
      rw [List.getElem?_append_left (by simpa using hi), List.getElem?_map] at h2
      cases e : vs[i]? with
      | none => rw [e] at h2; cases h2
      | some a => rw [e] at h2; cases h2; rfl
    obtain ⟨u, hu, rv⟩ := r.get ha
    have hp : ps[i]? = some y := by
      rw [← S.pre, List.getElem?_take_of_lt (by omega)]; exact h1
    have ndP : ps.Nodup := by rw [← S.pre]; exact S.nd.sublist (List.take_sublist _ _)
    refine ⟨u, rv, ?_⟩
    rcases S.par y (List.mem_of_getElem? hp) with k | k
    · exact .inl ⟨k, bindL_get ndP hp hu k⟩
    · obtain ⟨c, e⟩ := cell_has (n := s.heap.objs.size + 1) k
      refine .inr ⟨.inl k, c, e, ?_⟩
      have q := x.cell y c e
      rw [bindC_get ndP hp hu (by show scope.names.lookup y ≠ _; rw [k]; decide)] at q
      exact q
  · exact e0.hok.fresh (Nat.le_of_lt (x.above y c (PySem.mem_of_lookup h)))
  · unfold start
    show _ = N.length
    rw [List.length_append, List.length_map, List.length_replicate]
    omega
theorem fn_of {CX : CXT} {P : Program} {w : World} {K : PySem.W.Frag} {mg : Str → Option Value} {base : Heap} {k : Nat} {f : Addr} {name qual : Str} {params : Arguments} {body : List Stmt} {scope : Scope} {dV kV doc pm cdv ct oc : Value} {an od : Option Addr}
    {osl : Array (Option Value)} {N ps : List Str} {sp : Sp} (lk : K.lookup f = some ⟨oc, od, .func (PySem.W.fnOf name qual params body scope dV kV doc pm an cdv ct), osl⟩) (hcd : PySem.W.codeIn K cdv qual = true) (S : FnScope N ps scope)
    (len : ∀ vs H Q E, sp vs H Q E → vs.length = ps.length)
    (hbody : ∀ (A : Around) (outer : List Env) (s : Shared) (H : Hp) (vs : List V) (Q : VK) (E : XK), Room k (A.deeper (envOfC qual scope s.heap.objs.size f cdv)) → sp vs H Q E →
      ∃ t, PSs (cxOf CX P w K mg base N qual scope f cdv A outer s H E) body t ∧ t { nx := fun _ H' => Q .non H', rt := Q } (start N vs) H) :
    FnOk P w K mg base CX (k + 1) f (PySem.W.fnOf name qual params body scope dV kV doc pm an cdv ct) ps sp := by
  refine ⟨len, fun A outer s H args us vs Q E hr e0 hb r hsp => ?_⟩
  have hl := len _ _ _ _ hsp
  have KX : K.In s.heap := e0.mod.kin.keeps fun b o e => (e0.bs b o e).1
  have lim : s.heap.NoLimit := e0.mod.nolimit.keeps fun b o e => (e0.bs b o e).1
  have hkind : ∀ y ∈ ps.zip us, scope.names.lookup y.1 = some .local ∨ (scope.names.lookup y.1 = some .cell ∧ ((cellsFrom (s.heap.objs.size + 1) scope.names []).lookup y.1).isSome = true) := fun ⟨n, v⟩ hy => by
    rcases S.par n (List.of_mem_zip hy).1 with q | q
    · exact .inl q
    · exact .inr ⟨q, PySem.W.cellsFrom_some _ _ _ (.inl q)⟩
  refine codeAny_call_function hr.depth (KX _ _ lk) rfl S.co S.gen rfl (PySem.W.codeRec_of KX hcd) (hb _ _ _ _ ?_)
  refine wpAny_newFunctionEnv_cells S.kind hkind fun env he s1 x => ?_
  subst he
  refine ⟨lim.keeps x.toInCall.keep, codeAny_func ?_⟩
  obtain ⟨t, ht, hq⟩ := hbody A outer s H vs Q E (hr.deeper _) hsp
  have I : Inv (cxOf CX P w K mg base N qual scope f cdv A outer s H E) [] (start N vs) H s1 := inv_start S hr.hd e0 hl r x
  refine wpAny_mono (ht [] s1 (start N vs) H _ I hq) (fun fl s' hs => ?_) fun e s' hs => hs
  have fin : ∀ {σ' : St} {H' : Hp} {v : V} {u : Value}, Inv (cxOf CX P w K mg base N qual scope f cdv A outer s H E) [] σ' H' s' → RelV v u → Q v H' → CE outer P w H s Q u s' :=
    fun {σ' H' v u} J rv q => ⟨v, H', J.os, J.bare, J.base, J.hok, rv, q⟩
  cases fl with
  | ret u =>
    obtain ⟨v, σ', H', J, rv, q⟩ := hs
    exact fin J rv q
  | next =>
    obtain ⟨σ', H', J, q⟩ := hs
    exact fin (v := V.non) (u := Value.none) J rfl q
  | brk =>
    obtain ⟨_, _, _, q⟩ := hs
    exact False.elim q
  | cont =>
    obtain ⟨_, _, _, q⟩ := hs
    exact False.elim q
end L2
namespace L2
open PySem PySem.Spec PyProof.Rows
section
variable {X : Cx} {x : Str} {p pos : Pos} {e : Expr} {es : List Expr} {t : TA} {id T : String} {r : List V → Hp → VK → Prop}
def tCB (r : List V → Hp → VK → Prop) (t : TA) : TE := fun σ H Q => t σ H fun vs H1 => r vs H1 Q
theorem pe_callB (hc : CallR X (.builtin id) r) (hg : Gl X x) (hm : X.mg x = none) (hv : bootBuiltins x = some (.builtin id)) (ha : PA X (e :: es) t) (hn : x ≠ "__name__" := by decide) (hdb : (x == ("__debug__" : Str)) = false := by decide)
    (he : starEach (e :: es) X.env = (false, eval e X.env) :: starEach es X.env := by rfl) (hpl : (backTo pos (starEach es X.env)).any (·.1) = false := by rfl) : PE X (.Call (.Name x p) (e :: es) [] pos) (tCB r t) := by
  intro pins s σ H Q I h
  refine wpAny_Call_Name_kw (ld_blt I hg hm hv ?_ hn hdb)
  exact PyProof.Rows.callWith_builtin1 (thn (ha pos pins s σ H _ I h) fun us s1 ⟨vs, H1, I1, r1, q1⟩ => hc pins s1 σ H1 vs us Q I1 r1 q1) he hpl
theorem pe_callTy (hc : CallR X (.type T) r) (hg : Gl X x) (hm : X.mg x = none) (hv : bootBuiltins x = some (.type T)) (ha : PA X (e :: es) t) (hn : x ≠ "__name__" := by decide) (hdb : (x == ("__debug__" : Str)) = false := by decide)
    (he : starEach (e :: es) X.env = (false, eval e X.env) :: starEach es X.env := by rfl) (hpl : (backTo pos (starEach es X.env)).any (·.1) = false := by rfl) : PE X (.Call (.Name x p) (e :: es) [] pos) (tCB r t) := by
  intro pins s σ H Q I h
  refine wpAny_Call_Name_kw (ld_blt I hg hm hv ?_ hn hdb)
  exact PyProof.Rows.callWith_type1 (thn (ha pos pins s σ H _ I h) fun us s1 ⟨vs, H1, I1, r1, q1⟩ => hc pins s1 σ H1 vs us Q I1 r1 q1) he hpl
end
end L2
namespace HT
open PySem PyProof.Rows
section
open PySem.SeqAt
open PySem.AutoSeq1 (wpAny_loadPart')
open PySem.MeetsSeq PySem.MeetsSeq2 PySem.MeetsSeq3
end
section
variable {prog : Program} {w : World} {A : Around} {E : Value → Shared → Prop} {s : Shared}
theorem cat_tup {t b : Addr} {vs ws : List Value} {Q : Value → Shared → Prop} (ht : IsTup s.heap t vs.toArray) (hb : IsTup s.heap b ws.toArray) (hv : vs ≠ [])
    (h1 : ws = [] → Q (.ref t) s) (h2 : ws ≠ [] → Q (.ref s.heap.objs.size) { s with heap := s.heap.push { cls := .type "tuple", data := .seq (vs ++ ws).toArray } })
    (hsz : vs.length + ws.length ≤ sizeLine) : wpAny (model prog w) A (binaryOp .Add (.ref t) (.ref b)) Q E s := by
  obtain ⟨⟨cls, dd, data, sl⟩, ho, hc, n, hd⟩ := id ht
  obtain ⟨⟨cls2, dd2, data2, sl2⟩, ho2, hc2, n2, hd2⟩ := id hb
  simp only at hc hd hc2 hd2
  subst hc hd hc2 hd2
  have e : vs.toArray ++ ws.toArray = (vs ++ ws).toArray := by simp
  by_cases hw : ws = []
  · exact concat_meets ⟨_, ho, rfl⟩ ⟨_, ho2, rfl⟩ noFill_tuple_add seq_tuple_add PySem.F.slot_tuple_add PySem.F.entry_tuple_add (PySem.F.args_tuple_add_2 _ _)
      (tuple_addW1 t b vs.toArray ws.toArray n n2 dd dd2 sl sl2 (by simpa using hv) (by simp [hw])) ⟨ho, ho2, h1 hw⟩
  · refine concat_meets ⟨_, ho, rfl⟩ ⟨_, ho2, rfl⟩ noFill_tuple_add seq_tuple_add PySem.F.slot_tuple_add PySem.F.entry_tuple_add (PySem.F.args_tuple_add_2 _ _)
      (tuple_addW2 t b vs.toArray ws.toArray n n2 dd dd2 sl sl2 (by simpa using hv) (by simpa using hw) (by rw [List.size_toArray, List.size_toArray]; exact hsz)) ⟨ho, ho2, ?_⟩
    rw [e]
    exact h2 hw
def sIx (n d : Nat) : Option Int → Nat
  | none => d
  | some v => if v < 0 then (v + (n : Int)).toNat else min v.toNat n
theorem sIx_le (n d : Nat) (hd : d ≤ n) (o : Option Int) : sIx n d o ≤ n := by
  cases o with
  | none => exact hd
  | some v =>
    show (if v < 0 then (v + (n : Int)).toNat else min v.toNat n) ≤ n
    by_cases hv : v < 0
    · rw [if_pos hv]; omega
    · rw [if_neg hv]; exact Nat.min_le_right _ _
theorem clip_eq (v : Int) (n d : Nat) : (if v < 0 then max (v + (n : Int)) 0 else min v (n : Int)) = ((sIx n d (some v) : Nat) : Int) := by
  show (if v < 0 then max (v + (n : Int)) 0 else min v (n : Int)) = (((if v < 0 then (v + (n : Int)).toNat else min v.toNat n) : Nat) : Int)
  by_cases hv : v < 0
  · simp only [if_pos hv]; omega
  · simp only [if_neg hv]; omega
theorem adjust_gen (lo hi : Option Int) (n : Nat) : Builtin.Slice.sliceAdjust lo hi 1 (n : Int) = (((sIx n 0 lo : Nat) : Int), ((sIx n n hi : Nat) : Int)) := by
  have h1 : ¬ ((1 : Int) < 0) := by omega
  unfold Builtin.Slice.sliceAdjust
  simp only [h1, if_false]
  refine Prod.ext ?_ ?_
  · cases lo with
    | none => rfl
    | some v => exact clip_eq v n 0
  · cases hi with
    | none => rfl
    | some v => exact clip_eq v n n
theorem places_gen (i j : Nat) : Builtin.Slice.slicePlaces (i : Int) (j : Int) 1 = j - i := by
  unfold Builtin.Slice.slicePlaces
  have h1 : (1 : Int) > 0 := by omega
  simp only [h1, if_true, Int.ediv_one]
  split <;> omega
theorem slicePart_ {v : Value} {o : Option Int} {Q : Option Int → Shared → Prop} (p : IsPart v o) (h : Q o s) : wpAny (model prog w) A (Builtin.Slice.slicePartIndex v) Q E s := by
  cases p with
  | none => exact slicePart_none h
  | int i t => exact slicePart_int h
theorem sliceApplied_gen {sl : Addr} {vl vu : Value} {lo hi : Option Int} {n : Nat} {Q : Int × Int × Nat → Shared → Prop} (hs : s.heap.IsSliceOf sl vl vu .none) (pl : IsPart vl lo) (pu : IsPart vu hi)
    (h : Q (((sIx n 0 lo : Nat) : Int), 1, sIx n n hi - sIx n 0 lo) s) : wpAny (model prog w) A (Builtin.Slice.sliceApplied (.ref sl) (pure (n : Int))) Q E s := by
  obtain ⟨os, hos, hcs, hds⟩ := id hs
  unfold Builtin.Slice.sliceApplied Builtin.Slice.sliceFields
  refine wpAny_bind (wpAny_bind (wpAny_field hos hds (x := vl) rfl (wpAny_bind (wpAny_field hos hds (x := vu) rfl (wpAny_bind (wpAny_field hos hds (x := .none) rfl (wpAny_pure ?_)))))))
  refine wpAny_bind (slicePart_none ?_)
  show wpAny _ _ (if ((1 : Int) == 0) = true then _ else _) _ _ s
  rw [if_neg (by decide)]
  refine wpAny_bind (slicePart_ pl (wpAny_bind (slicePart_ pu (wpAny_bind (wpAny_pure ?_)))))
  show wpAny _ _ (match Builtin.Slice.sliceAdjust lo hi 1 (n : Int) with | (lo, hi) => pure (lo, (1 : Int), Builtin.Slice.slicePlaces lo hi 1)) _ _ s
  rw [adjust_gen lo hi n]
  show wpAny _ _ (pure (((sIx n 0 lo : Nat) : Int), (1 : Int), Builtin.Slice.slicePlaces ((sIx n 0 lo : Nat) : Int) ((sIx n n hi : Nat) : Int) 1)) _ _ s
  rw [places_gen]
  exact wpAny_pure h
theorem pick_gen (xs : Array Value) (i k : Nat) : ((List.range k).filterMap fun (m : Nat) => xs[((i : Int) + (m : Int) * 1).toNat]?).toArray = ((xs.toList.drop i).take k).toArray := by
  have e : (fun (m : Nat) => xs[((i : Int) + (m : Int) * 1).toNat]?) = fun m => xs[i + m]? := by
    funext m
    have : ((i : Int) + (m : Int) * 1).toNat = i + m := by omega
    rw [this]
  rw [e]
  have := pick_run xs i k
  rw [List.filterMap_map] at this
  have e2 : ((fun x => xs[x]?) ∘ fun x => i + x) = fun m => xs[i + m]? := rfl
  rw [e2] at this
  rw [this]
theorem getItem_tuple_cut {t sl : Addr} {items : Array Value} {vl vu : Value} {lo hi : Option Int} {Q : Value → Shared → Prop} (ht : IsTup s.heap t items) (hs : s.heap.IsSliceOf sl vl vu .none) (pl : IsPart vl lo) (pu : IsPart vu hi)
    (hw : ¬ (sIx items.size 0 lo = 0 ∧ sIx items.size items.size hi = items.size))
    (h : Q (.ref s.heap.objs.size) { s with heap := s.heap.push { cls := .type "tuple", data := .seq ((items.toList.drop (sIx items.size 0 lo)).take (sIx items.size items.size hi - sIx items.size 0 lo)).toArray } })
    (hsz : items.size ≤ sizeLine) : wpAny (model prog w) A (getItem (.ref t) (.ref sl)) Q E s := by
  have htake : sizeOk (.seq ((items.toList.drop (sIx items.size 0 lo)).take (sIx items.size items.size hi - sIx items.size 0 lo)).toArray) := by
    show ((items.toList.drop (sIx items.size 0 lo)).take (sIx items.size items.size hi - sIx items.size 0 lo)).toArray.size ≤ sizeLine
    rw [List.size_toArray, List.length_take, List.length_drop, Array.length_toList]
    omega
  have hj : sIx items.size items.size hi ≤ items.size := sIx_le _ _ (Nat.le_refl _) hi
  obtain ⟨os, hos, hcs, hds⟩ := id hs
  have hTs : s.TypeIs (.ref sl) "slice" := ⟨os, hos, hcs⟩
  unfold getItem
  try with_reducible refine wpAny_holding ?_
  first | refine wpAny_bind (wpAny_pure ?_) | skip
  refine wpAny_bind (wpAny_sequenceKey ht.typeIs (by decide) ?_)
  refine wpAny_bind (wpAny_callSpecial?_slot (name := Str.ofString "__getitem__") ht.typeIs PyProof.Rows.slot_tuple_getitem
    (wpAny_call_entry PyProof.Rows.slot_tuple_getitem ht.typeIs entry_tuple_getitem ?_ (args_tuple_getitem _ _)))
  show wpAny _ _ (Builtin.Tuple.tupleItemsOf (.ref t) >>= _) _ _ s
  refine wpAny_bind (tupleItemsOf_ ht ?_)
  refine wpAny_bind (wpAny_typeOf hTs ?_)
  rw [if_pos (by decide)]
  refine wpAny_bind (sliceApplied_gen hs pl pu ?_)
  have hno : ¬ ((((sIx items.size 0 lo : Nat) : Int) == 0 && (1 : Int) == 1 && (sIx items.size items.size hi - sIx items.size 0 lo) == items.size) = true) := by
    intro q
    rw [Bool.and_eq_true, Bool.and_eq_true] at q
    have q1 : ((sIx items.size 0 lo : Nat) : Int) = 0 := eq_of_beq q.1.1
    have q2 : sIx items.size items.size hi - sIx items.size 0 lo = items.size := eq_of_beq q.2
    exact hw ⟨by omega, by omega⟩
  show wpAny _ _ (if (((sIx items.size 0 lo : Nat) : Int) == 0 && (1 : Int) == 1 && (sIx items.size items.size hi - sIx items.size 0 lo) == items.size) = true then _ else _) _ _ s
  rw [if_neg hno, pick_gen]
  first
    | exact wpAny_bind (m := Builtin.Tuple.tupleExact _) (wpAny_newObj_type (wpAny_pure ⟨_, rfl, wpAny_pure h⟩) htake)
    | exact wpAny_bind (m := Builtin.Tuple.tupleExact _) (wpAny_newObj_type (wpAny_bind (wpAny_pure (wpAny_pure ⟨_, rfl, wpAny_pure h⟩))) htake)
    | exact wpAny_bind (wpAny_bind (m := Builtin.Tuple.tupleExact _) (wpAny_newObj_type (wpAny_pure (wpAny_pure ⟨_, rfl, wpAny_pure h⟩)) htake))
    | exact wpAny_bind (wpAny_bind (m := Builtin.Tuple.tupleExact _) (wpAny_newObj_type (wpAny_pure ⟨_, rfl, wpAny_pure h⟩) htake))
end
end HT
namespace L2
open PySem PySem.Spec PyProof.Rows
abbrev TO := St → Hp → (Option Int → Hp → Prop) → Prop
def PO (X : Cx) (e : Option Expr) (t : TO) : Prop :=
  ∀ (pins : List (Addr × Obj)) (s : Shared) (σ : St) (H : Hp) (Q : Option Int → Hp → Prop), Inv X pins σ H s → t σ H Q →
    wpAny (model X.prog X.w) X.A (evalPart e X.env) (fun u s' => ∃ o H', Inv X pins σ H' s' ∧ IsPart u o ∧ Q o H') X.xe s
def tNoPart : TO := fun _ H Q => Q none H
def tPart (t : TE) : TO := fun σ H Q => t σ H fun x H1 => ∃ i, x = .int i ∧ Q (some i) H1
theorem intsAre_of {ns : List Int} : ∀ {us : List Value}, Vals (ns.map V.int) us → IntsAre us ns := by
  induction ns with
  | nil => intro us r; rw [List.map_nil] at r; cases r; exact .nil
  | cons n ns ih =>
    intro us r
    rw [List.map_cons] at r
    cases r with
    | cons r1 r2 =>
      obtain ⟨t, e⟩ := r1
      subst e
      exact .cons n t (ih r2)
section
variable {X : Cx} {e : Expr} {te : TE} {lo hi : Option Expr} {tl th : TO} {pos p2 : Pos}
theorem po_none : PO X none tNoPart := by
  intro pins s σ H Q I h
  rw [evalPart_none]
  exact wpAny_pure ⟨none, H, I, .none, h⟩
theorem po_some (h : PE X e te) : PO X (some e) (tPart te) := by
  intro pins s σ H Q I hw
  rw [evalPart_some]
  refine thn (h pins s σ H _ I hw) fun u s1 ⟨x, H1, I1, r1, q1⟩ => ?_
  obtain ⟨i, rfl, q⟩ := q1
  obtain ⟨t, rfl⟩ := r1
  exact ⟨some i, H1, I1, .int i t, q⟩
def SlR (X : Cx) (r : V → Option Int → Option Int → Hp → VK → Prop) : Prop :=
  ∀ (pins : List (Addr × Obj)) (s : Shared) (σ : St) (H : Hp) (x : V) (v vl vu : Value) (lo hi : Option Int) (sl : Addr) (Q : VK), Inv X pins σ H s → RelV x v → s.heap.IsSliceOf sl vl vu .none → IsPart vl lo → IsPart vu hi → r x lo hi H Q →
    ∃ T id, typeLookup (.type T) "__getitem__" = pure (some (.builtin id)) ∧ s.TypeIs v T ∧ wpAny (model X.prog X.w) X.A (getItem v (.ref sl)) (EP X pins σ Q) X.xe s
theorem SlR.or {r r' : V → Option Int → Option Int → Hp → VK → Prop} (h : SlR X r) (h' : SlR X r') : SlR X (fun x lo hi H Q => r x lo hi H Q ∨ r' x lo hi H Q) := by
  intro pins s σ H x v vl vu lo hi sl Q I rx hs pl pu q
  rcases q with q | q
  · exact h pins s σ H x v vl vu lo hi sl Q I rx hs pl pu q
  · exact h' pins s σ H x v vl vu lo hi sl Q I rx hs pl pu q
def tSl (r : V → Option Int → Option Int → Hp → VK → Prop) (te : TE) (tl th : TO) : TE := fun σ H Q => te σ H fun x H1 => tl σ H1 fun l H2 => th σ H2 fun u H3 => r x l u H3 Q
theorem pe_slice {r : V → Option Int → Option Int → Hp → VK → Prop} (hr : SlR X r) (he : PE X e te) (hl : PO X lo tl) (hu : PO X hi th) : PE X (.Subscript e (.Slice lo hi none p2) pos) (tSl r te tl th) := by
  intro pins s σ H Q I h
  refine Subscript_ (thn (he pins s σ H _ I h) fun v s1 ⟨x, H1, I1, r1, q1⟩ => ?_)
  refine wpAny_Slice (thn (hl pins s1 σ H1 _ I1 q1) fun vl s2 ⟨l, H2, I2, pl, q2⟩ => thn (hu pins s2 σ H2 _ I2 q2) fun vu s3 ⟨u, H3, I3, pu, q3⟩ => ?_)
  rw [evalPart_none]
  refine wpAny_pure ?_
  have I4 : Inv X pins σ H3 { s3 with heap := s3.heap.push { cls := .type "slice", data := .fields #[vl, vu, .none] } } := I3.kept (t' := s3.toks) fun b ob q => Heap.get?_push_of_some _ q
  obtain ⟨T, id, hT, ht, hg⟩ := hr pins { s3 with heap := s3.heap.push { cls := .type "slice", data := .fields #[vl, vu, .none] } } σ H3 x v vl vu l u s3.heap.objs.size Q I4 r1 (Heap.IsSliceOf.new ..) pl pu q3
  show wpAny (model X.prog X.w) X.A (subscriptTail e (.Slice lo hi none p2) v (.ref s3.heap.objs.size)) (EP X pins σ Q) X.xe { s3 with heap := s3.heap.push { cls := .type "slice", data := .fields #[vl, vu, .none] } }
  exact tail_any (ops := [.ref s3.heap.objs.size, v]) ht hT hg (by with_unfolding_all rfl)
def cutV (xs : List V) (lo hi : Option Int) : List V := (xs.drop (HT.sIx xs.length 0 lo)).take (HT.sIx xs.length xs.length hi - HT.sIx xs.length 0 lo)
theorem cutV_length (xs : List V) (lo hi : Option Int) : (cutV xs lo hi).length ≤ xs.length := by
  unfold cutV
  rw [List.length_take, List.length_drop]
  omega
def rSlT (K : PySem.W.Frag) : V → Option Int → Option Int → Hp → VK → Prop := fun x lo hi H Q => ∃ a xs, x = .ref a ∧ SqT K H a xs ∧
  ¬ (HT.sIx xs.length 0 lo = 0 ∧ HT.sIx xs.length xs.length hi = xs.length) ∧ ∀ p, H p = none → Q (.ref p) (upd H p (.tup (cutV xs lo hi)))
theorem sl_tup : SlR X (rSlT X.K) := by
  intro pins s σ H x v vl vu lo hi sl Q I rx hs pl pu h
  obtain ⟨a, xs, rfl, hx, hw, q⟩ := h
  cases rx
  obtain ⟨its, r, ht, hz⟩ := I.tuple hx
  have hlen : its.toArray.size = xs.length := by rw [List.size_toArray]; exact r.length.symm
  refine ⟨"tuple", _, PyProof.Rows.slot_tuple_getitem.lookup, ht.typeIs, ?_⟩
  refine HT.getItem_tuple_cut ht hs pl pu (by rw [hlen]; exact hw) ?_ (by rw [hlen]; exact hz)
  rw [hlen]
  refine ⟨.ref s.heap.objs.size, _, I.laid (t' := s.toks) (o := .tup (cutV xs lo hi)) (fun b ob q => Heap.get?_push_of_some _ q) (Nat.le_refl _) ?_, rfl, q _ (I.hok.fresh (Nat.le_refl _))⟩
  exact ⟨Nat.le_trans (cutV_length xs lo hi) hz, _, (r.drop (HT.sIx xs.length 0 lo)).take (HT.sIx xs.length xs.length hi - HT.sIx xs.length 0 lo), IsTup.new _ _⟩
def rCatT (K : PySem.W.Frag) : R2 := fun x y H Q => ∃ a b xs ys, x = .ref a ∧ y = .ref b ∧ SqT K H a xs ∧ SqT K H b ys ∧ xs ≠ [] ∧ xs.length + ys.length ≤ sizeLine ∧
  (ys = [] → Q (.ref a) H) ∧ (ys ≠ [] → ∀ p, H p = none → Q (.ref p) (upd H p (.tup (xs ++ ys))))
theorem Vals.nil_iff {xs : List V} {us : List Value} (r : Vals xs us) : us = [] ↔ xs = [] := by
  cases r with
  | nil => simp
  | cons _ _ => simp
theorem op_catT : OpR X (binaryOp .Add) (rCatT X.K) := by
  intro pins s σ H x y v u Q I rx ry h
  obtain ⟨a, b, xs, ys, rfl, rfl, ha, hb, hx, hz, q1, q2⟩ := h
  cases rx
  cases ry
  obtain ⟨its, r1, p1, _⟩ := I.tuple ha
  obtain ⟨its2, r2, p2, _⟩ := I.tuple hb
  refine HT.cat_tup p1 p2 (fun z => hx (r1.nil_iff.mp z)) (fun z => ⟨.ref a, H, I, rfl, q1 (r2.nil_iff.mp z)⟩) (fun z => ?_) (by rw [← r1.length, ← r2.length]; exact hz)
  refine ⟨.ref s.heap.objs.size, _, I.laid (t' := s.toks) (o := .tup (xs ++ ys)) (fun b ob q => Heap.get?_push_of_some _ q) (Nat.le_refl _) ?_, rfl, q2 (fun w => z (r2.nil_iff.mpr w)) _ (I.hok.fresh (Nat.le_refl _))⟩
  exact ⟨by rw [List.length_append]; exact hz, _, r1.append r2, IsTup.new _ _⟩
end
end L2
namespace L2
open PySem PySem.Spec PyProof.Rows
def ixN (n : Nat) (i : Int) : Option Nat := if 0 ≤ i then (if i < n then some i.toNat else none) else if -(n : Int) ≤ i then some (i + n).toNat else none
def atI {α : Type} (xs : List α) (i : Int) : Option α := (ixN xs.length i).bind fun j => xs[j]?
theorem ixN_seq {n : Nat} {i : Int} {j : Nat} (h : ixN n i = some j) : seqIndex? i n = some j ∧ j < n ∧ -(n : Int) ≤ i ∧ i < n := by
  unfold ixN at h
  by_cases h0 : 0 ≤ i
  · rw [if_pos h0] at h
    by_cases h1 : i < n
    · rw [if_pos h1] at h
      have e : i.toNat = j := Option.some.inj h
      exact ⟨by rw [seqIndex_of h0 h1, e], by omega, by omega, h1⟩
    · rw [if_neg h1] at h; cases h
  · rw [if_neg h0] at h
    by_cases h1 : -(n : Int) ≤ i
    · rw [if_pos h1] at h
      have e : (i + n).toNat = j := Option.some.inj h
      exact ⟨by rw [seqIndex_neg (by omega) h1, e], by omega, h1, by omega⟩
    · rw [if_neg h1] at h; cases h
theorem atI_get {α : Type} {xs : List α} {i : Int} {v : α} (h : atI xs i = some v) : ∃ j, seqIndex? i xs.length = some j ∧ xs[j]? = some v ∧ j < xs.length ∧ -(xs.length : Int) ≤ i ∧ i < xs.length := by
  unfold atI at h
  cases e : ixN xs.length i with
  | none => rw [e] at h; cases h
  | some j =>
    rw [e] at h
    obtain ⟨h1, h2, h3, h4⟩ := ixN_seq e
    exact ⟨j, h1, h, h2, h3, h4⟩
theorem atI_nat {α : Type} {xs : List α} {j : Nat} {v : α} (h : xs[j]? = some v) : atI xs (j : Int) = some v := by
  have hj : j < xs.length := (List.getElem?_eq_some_iff.mp h).1
  have e : ixN xs.length (j : Int) = some j := by
    unfold ixN
    rw [if_pos (by omega), if_pos (by omega)]; simp
  unfold atI; rw [e]; exact h
def PlainIx (b : Expr) : Prop := ∀ o i, subscripted b false o i = operate [o, i] (getItem o i)
def IxR (X : Cx) (r : R2) : Prop :=
  ∀ (value slice : Expr) (pins : List (Addr × Obj)) (s : Shared) (σ : St) (H : Hp) (x y : V) (v u : Value) (Q : VK), Inv X pins σ H s → RelV x v → RelV y u → r x y H Q →
    subscripted slice false v u = operate [v, u] (getItem v u) → wpAny (model X.prog X.w) X.A (subscriptTail value slice v u) (EP X pins σ Q) X.xe s
def MtR (X : Cx) (id : String) (r : V → List V → Hp → VK → Prop) : Prop :=
  ∀ (pins : List (Addr × Obj)) (s : Shared) (σ : St) (H : Hp) (x : V) (xs : List V) (v : Value) (us : List Value) (Q : VK), Inv X pins σ H s → RelV x v → Vals xs us → r x xs H Q →
    wpAny (model X.prog X.w) X.A (call (.builtin id) (v :: us)) (EP X pins σ Q) X.xe s
section
variable {X : Cx} {a b : Expr} {ta tb : TE} {pos : Pos}
theorem IxR.or {r r' : R2} (h : IxR X r) (h' : IxR X r') : IxR X (fun x y H Q => r x y H Q ∨ r' x y H Q) := by
  intro value slice pins s σ H x y v u Q I rx ry q hs
  rcases q with q | q
  · exact h value slice pins s σ H x y v u Q I rx ry q hs
  · exact h' value slice pins s σ H x y v u Q I rx ry q hs
theorem pe_ix {r : R2} (hr : IxR X r) (ha : PE X a ta) (hb : PE X b tb) (hs : PlainIx b) : PE X (.Subscript a b pos) (tOp r ta tb) := by
  intro pins s σ H Q I h
  exact Subscript_ (binT ha hb I h fun v u s2 x y H2 I2 rx ry q => hr a b pins s2 σ H2 x y v u Q I2 rx ry q (hs _ _))
def rIxL (K : PySem.W.Frag) : R2 := fun x y H Q => ∃ p xs i v, x = .ref p ∧ y = .int i ∧ SqL K H p xs ∧ atI xs i = some v ∧ Q v H
def rIxT (K : PySem.W.Frag) : R2 := fun x y H Q => ∃ p xs i v, x = .ref p ∧ y = .int i ∧ SqT K H p xs ∧ atI xs i = some v ∧ Q v H
def rIxS : R2 := fun x y H Q => ∃ z i c, x = .str z ∧ y = .int i ∧ z.length ≤ sizeLine ∧ atI z.cps.toList i = some c ∧ Q (.str ⟨#[c]⟩) H
theorem ix_list : IxR X (rIxL X.K) := by
  intro value slice pins s σ H x y v u Q I rx ry h hs
  obtain ⟨p, xs, i, z, rfl, rfl, hq, he, q⟩ := h
  cases rx
  obtain ⟨t, rfl⟩ := ry
  obtain ⟨its, r, pl, hz⟩ := I.list hq
  obtain ⟨j, h1, h2, h3, h4, h5⟩ := atI_get he
  obtain ⟨w, ew, rw'⟩ := r.get h2
  have hl := r.length
  have hn := line63
  have fin : EP X pins σ Q w s := ⟨z, H, I, rw', q⟩
  by_cases h0 : 0 ≤ i
  · have hj : i.toNat = j := by
      rw [seqIndex_of h0 h5] at h1
      exact Option.some.inj h1
    exact item_listR pl.isList h0 (by omega) (by rw [hj]; simpa using ew) fin hs
  · have hj : (i + (its.toArray.size : Int)).toNat = j := by
      rw [seqIndex_neg (by omega) h4] at h1
      rw [List.size_toArray, ← hl]
      exact Option.some.inj h1
    exact subscriptTail_builtinR (x := w) pl.isList.typeIs slot_list_getitem.lookup
      (wpAny_getItem_list_neg (Q := fun r s' => r = w ∧ EP X pins σ Q r s') pl.isList (by omega) (by rw [List.size_toArray] <;> omega) (by omega) (by rw [hj]; simpa using ew) ⟨rfl, fin⟩) hs
theorem ix_tup : IxR X (rIxT X.K) := by
  intro value slice pins s σ H x y v u Q I rx ry h hs
  obtain ⟨p, xs, i, z, rfl, rfl, hq, he, q⟩ := h
  cases rx
  obtain ⟨t, rfl⟩ := ry
  obtain ⟨its, r, pl, hz⟩ := I.tuple hq
  obtain ⟨j, h1, h2, h3, h4, h5⟩ := atI_get he
  obtain ⟨w, ew, rw'⟩ := r.get h2
  have hl := r.length
  have hn := line63
  have fin : EP X pins σ Q w s := ⟨z, H, I, rw', q⟩
  exact subscriptTail_builtinR (x := w) pl.typeIs slot_tuple_getitem.lookup
    (getItem_tuple (j := j) (Q := fun r s' => r = w ∧ EP X pins σ Q r s') pl (by omega) (by omega) (by rw [List.size_toArray, ← hl]; exact h1) (by simpa using ew) ⟨rfl, fin⟩) hs
theorem ix_str : IxR X rIxS := by
  intro value slice pins s σ H x y v u Q I rx ry h hs
  obtain ⟨z, i, c, rfl, rfl, hz, he, q⟩ := h
  obtain ⟨t, rfl⟩ := rx
  obtain ⟨t', rfl⟩ := ry
  obtain ⟨j, h1, h2, h3, h4, h5⟩ := atI_get he
  have hl : z.cps.toList.length = z.length := by simp [Str.length]
  rw [hl] at h1 h4 h5
  have hn := line63
  exact tail_any (typeIs_str s z t) slot_str_getitem.lookup (getItem_str (c := c) (by
    have e1 : decide (i < -(2 ^ 63 : Int)) = false := decide_eq_false (by omega)
    have e2 : decide (i ≥ 2 ^ 63) = false := decide_eq_false (by omega)
    rw [e1, e2, Bool.or_false]) (by rw [h1]; simpa using h2) ⟨.str ⟨#[c]⟩, H, I.tok _, ⟨_, rfl⟩, q⟩) hs
theorem mapSeq_set (its : List Value) (n j : Nat) (u : Value) : Obj.mapSeq (·.setIfInBounds j u) { cls := .type "list", data := .seq its.toArray n } = { cls := .type "list", data := .seq (its.set j u).toArray n } := by
  simp [Obj.mapSeq]
theorem Inv.lst {pins : List (Addr × Obj)} {σ : St} {H : Hp} {s : Shared} {p : Addr} {xs : List V} (I : Inv X pins σ H s) (h : H p = some (.lst xs)) :
    ∃ (its : List Value) (n : Nat), Vals xs its ∧ s.heap.get? p = some { cls := .type "list", data := .seq its.toArray n } ∧ xs.length ≤ sizeLine := by
  obtain ⟨z, its, n, r, e⟩ := I.hok p _ h
  exact ⟨its, n, r, e, z⟩
theorem Inv.lstUpd {pins : List (Addr × Obj)} {σ : St} {H : Hp} {s : Shared} {p : Addr} {xs ys : List V} {its its' : List Value} {n n' : Nat} {f : Obj → Obj} (I : Inv X pins σ H s) (h : H p = some (.lst xs))
    (ho : s.heap.get? p = some { cls := .type "list", data := .seq its.toArray n }) (hf : f { cls := .type "list", data := .seq its.toArray n } = { cls := .type "list", data := .seq its'.toArray n' }) (r : Vals ys its') (hz : ys.length ≤ sizeLine) (t : Nat) :
    Inv X pins σ (upd H p (.lst ys)) { s with heap := s.heap.update p f, toks := t } := by
  have e : (s.heap.update p f).get? p = some { cls := .type "list", data := .seq its'.toArray n' } := by
    rw [Heap.get?_update_self f ho (by rw [hf] <;> rfl), hf]
  refine I.write (x := p) (e := p) (by rw [h]; trivial) (.inl rfl) (fun b u hb q => (Heap.get?_update_other _ _ (Ne.symm hb)).trans q) ⟨_, e⟩ ?_
  exact ⟨hz, its', n', r, e⟩
def rSetL : V → V → V → Hp → (Hp → Prop) → Prop := fun o i v H Q => ∃ p xs k j, o = .ref p ∧ i = .int k ∧ H p = some (.lst xs) ∧ ixN xs.length k = some j ∧ Q (upd H p (.lst (xs.set j v)))
theorem set_list : PSet X rSetL := by
  intro pins s σ H o i v ov iv u Q I ro ri rv h
  obtain ⟨p, xs, k, j, rfl, rfl, hp, hj, q⟩ := h
  cases ro
  obtain ⟨t, rfl⟩ := ri
  obtain ⟨its, n, r, ho, hz⟩ := I.lst hp
  obtain ⟨h1, h2, h3, h4⟩ := ixN_seq hj
  have hl := r.length
  have hn := line63
  have I' : Inv X pins σ (upd H p (.lst (xs.set j v))) { s with heap := s.heap.update p (Obj.mapSeq (·.setIfInBounds j u)) } :=
    I.lstUpd hp ho (mapSeq_set its n j u) (r.set rv j) (by rw [List.length_set]; exact hz) s.toks
  by_cases h0 : 0 ≤ k
  · have hk : k.toNat = j := by
      rw [seqIndex_of h0 h4] at h1
      exact Option.some.inj h1
    exact PySem.W.ki_setAt ho h0 (by omega) (by rw [List.size_toArray, ← hl]; exact h4) (by rw [hk]; exact ⟨_, I', q⟩)
  · have hk : (k + (its.toArray.size : Int)).toNat = j := by
      rw [seqIndex_neg (by omega) h3] at h1
      rw [List.size_toArray, ← hl]
      exact Option.some.inj h1
    exact PySem.W.ki_setBack ho (by omega) (by rw [List.size_toArray, ← hl]; exact h3) (by omega) (by rw [hk]; exact ⟨_, I', q⟩)
theorem slice_bounds (lo hi : Option Int) (n : Nat) : (sliceBounds lo hi none n).1 = ((HT.sIx n 0 lo : Nat) : Int) ∧ (sliceBounds lo hi none n).2.1 = ((HT.sIx n n hi : Nat) : Int) ∧ (sliceBounds lo hi none n).2.2 = 1 := by
  refine ⟨?_, ?_, rfl⟩
  · cases lo with
    | none => simp [sliceBounds, HT.sIx]
    | some i =>
      simp only [sliceBounds, HT.sIx, Option.getD_none, show (1 : Int) > 0 by decide, if_true]
      by_cases h : i < 0
      · simp only [h, if_true] <;> omega
      · simp only [h, if_false] <;> omega
  · cases hi with
    | none => simp [sliceBounds, HT.sIx]
    | some i =>
      simp only [sliceBounds, HT.sIx, Option.getD_none, show (1 : Int) > 0 by decide, if_true]
      by_cases h : i < 0
      · simp only [h, if_true] <;> omega
      · simp only [h, if_false] <;> omega
theorem slicePick_cut (its : List Value) (lo hi : Option Int) : slicePick its.toArray lo hi none = ((its.drop (HT.sIx its.length 0 lo)).take (HT.sIx its.length its.length hi - HT.sIx its.length 0 lo)).toArray := by
  obtain ⟨h1, h2, h3⟩ := slice_bounds lo hi its.toArray.size
  unfold slicePick
  rw [h1, h2, h3]
  simp only [sliceRange_one, pick_run, List.size_toArray] <;> rfl
def rSlL (K : PySem.W.Frag) : V → Option Int → Option Int → Hp → VK → Prop := fun x lo hi H Q => ∃ a xs, x = .ref a ∧ SqL K H a xs ∧ ∀ p, H p = none → Q (.ref p) (upd H p (.lst (cutV xs lo hi)))
theorem sl_list : SlR X (rSlL X.K) := by
  intro pins s σ H x v vl vu lo hi sl Q I rx hs pl pu h
  obtain ⟨a, xs, rfl, hx, q⟩ := h
  cases rx
  obtain ⟨its, r, ht, hz⟩ := I.list hx
  have hlen := r.length
  refine ⟨"list", _, slot_list_getitem.lookup, ht.isList.typeIs, ?_⟩
  refine wpAny_getItem_list_slice ht.isList hs pl pu .none (by simp) ?_ (by rw [List.size_toArray] <;> omega)
  rw [slicePick_cut, ← hlen]
  refine ⟨.ref s.heap.objs.size, _, I.laid (t' := s.toks) (o := .lst (cutV xs lo hi)) (fun b ob q => Heap.get?_push_of_some _ q) (Nat.le_refl _) ?_, rfl, q _ (I.hok.fresh (Nat.le_refl _))⟩
  exact ⟨Nat.le_trans (cutV_length xs lo hi) hz, _, 0, (r.drop (HT.sIx xs.length 0 lo)).take (HT.sIx xs.length xs.length hi - HT.sIx xs.length 0 lo), Heap.get?_push_size _ rfl⟩
theorem call_len_seq : CallR X (.builtin "len") (fun xs H Q => ∃ p ys, xs = [.ref p] ∧ (SqL X.K H p ys ∨ SqT X.K H p ys) ∧ Q (.int ys.length) H) := by
  intro pins s σ H xs us Q I r h
  obtain ⟨p, ys, rfl, hq, q⟩ := h
  obtain ⟨u, rfl, rx⟩ := vals1 r
  cases rx
  have hn := line63
  rcases hq with hq | hq
  · obtain ⟨its, r', pl, hz⟩ := I.list hq
    have hlen := r'.length
    exact Calls.call_len_list pl.isList (by simp only [List.size_toArray] <;> omega) ⟨.int ys.length, H, I.tok _, ⟨s.toks + 1, by rw [List.size_toArray, hlen]⟩, q⟩
  · obtain ⟨its, r', pl, hz⟩ := I.tuple hq
    have hlen := r'.length
    exact len_tuple pl (by simp only [List.size_toArray] <;> omega) ⟨.int ys.length, H, I.tok _, ⟨s.toks + 1, by rw [List.size_toArray, hlen]⟩, q⟩
theorem call_len_str : CallR X (.builtin "len") (fun xs H Q => ∃ z, xs = [.str z] ∧ z.length ≤ sizeLine ∧ Q (.int z.length) H) := by
  intro pins s σ H xs us Q I r h
  obtain ⟨z, rfl, hz, q⟩ := h
  obtain ⟨u, rfl, t, rfl⟩ := vals1 r
  have hn := line63
  exact len_str (by omega) ⟨.int z.length, H, I.tok _, ⟨_, rfl⟩, q⟩
theorem CallR.or {f : Value} {r r' : List V → Hp → VK → Prop} (h : CallR X f r) (h' : CallR X f r') : CallR X f (fun xs H Q => r xs H Q ∨ r' xs H Q) := by
  intro pins s σ H xs us Q I rs q
  rcases q with q | q
  · exact h pins s σ H xs us Q I rs q
  · exact h' pins s σ H xs us Q I rs q
theorem call_list_of : CallR X (.type "list") (fun xs H Q => ∃ p ys, xs = [.ref p] ∧ (SqL X.K H p ys ∨ SqT X.K H p ys) ∧ ∀ l, H l = none → Q (.ref l) (upd H l (.lst ys))) := by
  intro pins s σ H xs us Q I r h
  obtain ⟨p, ys, rfl, hq, q⟩ := h
  obtain ⟨u, rfl, rx⟩ := vals1 r
  cases rx
  have fin : ∀ (its : List Value), Vals ys its → ys.length ≤ sizeLine → ∀ (h' : Heap) (c' : Nat), (∀ b o', s.heap.get? b = some o' → h'.get? b = some o') →
      h'.get? s.heap.objs.size = some { cls := .type "list", dict := none, data := .seq its.toArray c', slots := #[] } → EP X pins σ Q (.ref s.heap.objs.size) { s with heap := h' } := fun its r' hz h' c' kp e =>
    ⟨.ref s.heap.objs.size, _, I.laid (t' := s.toks) kp (Nat.le_refl _) (show ObjOk X.prog X.w _ h' _ (.lst ys) from ⟨hz, its, c', r', e⟩), rfl, q _ (I.hok.fresh (Nat.le_refl _))⟩
  rcases hq with hq | hq
  · obtain ⟨its, r', pl, hz⟩ := I.list hq
    have hlen := r'.length
    obtain ⟨o, ho, hc, n, hd⟩ := pl.isList
    exact call_list_seq p (.inl rfl) ho hc hd (fun h' c' kp e => fin its r' hz h' c' kp e) (by simp only [List.size_toArray] <;> omega)
  · obtain ⟨its, r', pl, hz⟩ := I.tuple hq
    have hlen := r'.length
    obtain ⟨o, ho, hc, n, hd⟩ := pl
    exact call_list_seq p (.inr rfl) ho hc hd (fun h' c' kp e => fin its r' hz h' c' kp e) (by simp only [List.size_toArray] <;> omega)
theorem call_tuple_of : CallR X (.type "tuple") (fun xs H Q => ∃ p ys, xs = [.ref p] ∧ ((SqL X.K H p ys ∧ ∀ l, H l = none → Q (.ref l) (upd H l (.tup ys))) ∨ (SqT X.K H p ys ∧ Q (.ref p) H))) := by
  intro pins s σ H xs us Q I r h
  obtain ⟨p, ys, rfl, h⟩ := h
  obtain ⟨u, rfl, rx⟩ := vals1 r
  cases rx
  rcases h with ⟨hq, q⟩ | ⟨hq, q⟩
  · obtain ⟨its, r', pl, hz⟩ := I.list hq
    have hlen := r'.length
    refine call_tuple_list pl.isList (fun h' kp => ?_) (by simp only [List.size_toArray] <;> omega)
    have I1 : Inv X pins σ H { s with heap := h' } := I.kept (t' := s.toks) kp
    have I2 : Inv X pins σ (upd H h'.objs.size (.tup ys)) { s with heap := h'.push { cls := .type "tuple", data := .seq its.toArray } } :=
      I1.laid (t' := s.toks) (fun b o e => Heap.get?_push_of_some _ e) (Nat.le_refl _) (show ObjOk X.prog X.w _ _ _ (.tup ys) from ⟨hz, its, r', IsTup.new _ _⟩)
    exact ⟨.ref h'.objs.size, _, I2, rfl, q _ (I1.hok.fresh (Nat.le_refl _))⟩
  · obtain ⟨its, r', pl, hz⟩ := I.tuple hq
    exact call_tuple_same pl ⟨.ref p, H, I, rfl, q⟩
def tyV (K : PySem.W.Frag) (T : String) (x : V) (H : Hp) : Prop := match x with
  | .str _ => T = "str"
  | .int _ => T = "int"
  | .ref p => (T = "list" ∧ ∃ xs, SqL K H p xs) ∨ (T = "tuple" ∧ ∃ o, K.lookup p = some o ∧ o.cls = .type "tuple" ∧ o.dict = none) ∨
      (T = "dict" ∧ ((∃ kvs, H p = some (.dK kvs)) ∨ ∃ kvs, H p = some (.dT kvs))) ∨ (T = "set" ∧ ∃ S n, H p = some (.set S n))
  | _ => False
theorem tyV_is {pins : List (Addr × Obj)} {σ : St} {H : Hp} {s : Shared} {T : String} {x : V} {v : Value} (I : Inv X pins σ H s) (r : RelV x v) (ty : tyV X.K T x H) :
    s.TypeIs v T ∧ ∀ a, v = .ref a → ∃ ob, s.heap.get? a = some ob ∧ ob.dict = none := by
  cases x with
  | str z =>
    obtain ⟨t, rfl⟩ := r
    cases (show T = "str" from ty)
    exact ⟨typeIs_str s z t, fun _ e => nomatch e⟩
  | int i =>
    obtain ⟨t, rfl⟩ := r
    cases (show T = "int" from ty)
    exact ⟨typeIs_int s i t, fun _ e => nomatch e⟩
  | ref p =>
    cases r
    rcases ty with ⟨rfl, xs, hq⟩ | ⟨rfl, o, hk, hc, hd⟩ | ⟨rfl, hk⟩ | ⟨rfl, S, n, hk⟩
    · obtain ⟨its, _, pl, _⟩ := I.list hq
      refine ⟨pl.isList.typeIs, fun a e => ?_⟩
      cases e
      obtain ⟨o, n, e, c, hd, _⟩ := pl
      exact ⟨o, e, hd⟩
    · refine ⟨⟨o, I.kIn p o hk, hc⟩, fun a e => ?_⟩
      cases e
      exact ⟨o, I.kIn _ o hk, hd⟩
    · have z : ∃ o, s.heap.get? p = some o ∧ o.ExactDict := by
        rcases hk with ⟨kvs, hk⟩ | ⟨kvs, hk⟩
        · obtain ⟨_, _, _, _, o, _, _, e, ex, _⟩ := I.hok p _ hk
          exact ⟨o, e, ex⟩
        · obtain ⟨_, _, _, _, o, _, _, e, ex, _⟩ := I.hok p _ hk
          exact ⟨o, e, ex⟩
      obtain ⟨o, e, ex⟩ := z
      refine ⟨⟨o, e, ex.1⟩, fun a e2 => ?_⟩
      cases e2
      exact ⟨o, e, ex.2.1⟩
    · obtain ⟨o, _, _, _, e, ex, _⟩ := I.hok p _ hk
      refine ⟨⟨o, e, ex.1⟩, fun a e2 => ?_⟩
      cases e2
      exact ⟨o, e, ex.2.1⟩
  | _ => exact False.elim ty
def tBM (K : PySem.W.Frag) (T : String) (r : V → List V → Hp → VK → Prop) (to : TE) (t : TA) : TE := fun σ H Q => to σ H fun x H1 => tyV K T x H1 ∧ t σ H1 fun xs H2 => r x xs H2 Q
variable {o e : Expr} {es : List Expr} {to : TE} {t : TA} {name : Str} {apos cpos : Pos} {T id : String} {r : V → List V → Hp → VK → Prop}
theorem pe_bm (pa : PlainAttrs T) (slot : Slot T name id) (hty : typeOf (.builtin id) = pure (.type "method_descriptor")) (hm : MtR X id r) (ho : PE X o to) (ha : PA X (e :: es) t)
    (hbase : attributeBase o name X.env (eval o X.env) = eval o X.env := by rfl)
    (hfew : ((backTo cpos (starEach (e :: es) X.env)).all (fun x => !x.1) && (backToKw cpos (keywordEach [] X.env)).all (fun x => x.1.isSome)
      && decide ((e :: es).length + ([] : List Keyword).length + (if ([] : List Keyword).isEmpty then 0 else 1) < 30)) = true := by rfl)
    (hline : (apos.endLine == cpos.line) = true := by rfl) (hs : starEach (e :: es) X.env = (false, eval e X.env) :: starEach es X.env := by rfl) (hplain : (backTo cpos (starEach es X.env)).any (·.1) = false := by rfl) :
    PE X (.Call (.Attribute o name apos) (e :: es) [] cpos) (tBM X.K T r to t) := by
  intro pins s σ H Q I h
  refine wpAny_Call_method_late hbase hfew hline rfl (thn (ho pins s σ H _ I h) fun v s1 ⟨x, H1, I1, r1, ty, q1⟩ => ?_)
  obtain ⟨h1, h2⟩ := tyV_is I1 r1 ty
  refine ⟨T, id, pa, slot, hty, h1, h2, ?_⟩
  have hA := ha cpos pins s1 σ H1 _ I1 q1
  rw [hs] at hA ⊢
  refine Calls.callWith_builtin (by show (false || (backTo cpos (starEach es X.env)).any (·.1)) = false; rw [hplain] <;> rfl) (Calls.evalArgs_plain ?_)
  exact thn hA fun us s2 ⟨vs, H2, I2, r2, q2⟩ => hm pins s2 σ H2 x vs v us Q I2 r1 r2 q2
end
end L2
namespace L2
open PySem PySem.Spec PyProof.Rows
def MtM (X : Cx) (id : String) (r : V → List V → Hp → VK → Prop) : Prop :=
  ∀ (pins : List (Addr × Obj)) (s : Shared) (σ : St) (H : Hp) (x : V) (xs : List V) (v : Value) (us : List Value) (Q : VK), Inv X pins σ H s → RelV x v → Vals xs us → r x xs H Q →
    wpAny (model X.prog X.w) X.A (call (.builtin id) (v :: us)) (EP X pins σ Q) X.xe s
theorem Vals.one : ∀ {x : V} {us : List Value}, Vals [x] us → ∃ u, us = [u] ∧ RelV x u
  | _, _, .cons r .nil => ⟨_, rfl, r⟩
theorem Vals.rep {xs : List V} {us : List Value} (h : Vals xs us) : ∀ k : Nat, Vals (List.replicate k xs).flatten (List.replicate k us).flatten
  | 0 => .nil
  | k + 1 => by
    rw [List.replicate_succ, List.replicate_succ, List.flatten_cons, List.flatten_cons]
    exact Vals.append h (Vals.rep h k)
theorem foldl_rep (its : List Value) : ∀ (k : Nat) (acc : List Value),
    List.foldl (fun x1 x2 => x1 ++ x2) acc.toArray (List.replicate k its.toArray) = (acc ++ (List.replicate k its).flatten).toArray
  | 0, acc => by simp
  | k + 1, acc => by
    have e : acc.toArray ++ its.toArray = (acc ++ its).toArray := by simp
    have e2 : (acc ++ its) ++ (List.replicate k its).flatten = acc ++ (List.replicate (k + 1) its).flatten := by
      rw [List.replicate_succ, List.flatten_cons, List.append_assoc]
    rw [← e2, ← foldl_rep its k (acc ++ its), ← e, List.replicate_succ, List.foldl_cons]
section
variable {X : Cx} {pins : List (Addr × Obj)} {σ : St} {H : Hp} {s : Shared} {l b : Addr} {xs ys zs : List V}
theorem Inv.lset {its its' : List Value} {n : Nat} {f : Array Value → Array Value} {t' : Nat} (I : Inv X pins σ H s) (hH : H l = some (.lst xs))
    (e : s.heap.get? l = some { cls := .type "list", data := .seq its.toArray n }) (hf : f its.toArray = its'.toArray) (hv : Vals ys its') (hz : ys.length ≤ sizeLine) :
    Inv X pins σ (upd H l (.lst ys)) { s with heap := s.heap.update l (Obj.mapSeq f), toks := t' } := by
  have q := PySem.IsL.update e f
  rw [hf] at q
  refine I.write (x := l) (e := l) (by rw [hH]; exact trivial) (.inl rfl) (fun b' u hb hu => (Heap.get?_update_other s.heap (Obj.mapSeq f) (Ne.symm hb)).trans hu) ⟨_, q⟩ ?_
  exact ⟨hz, its', _, hv, q⟩
theorem Inv.lnew {its : List Value} {t' : Nat} (I : Inv X pins σ H s) (hv : Vals ys its) (hz : ys.length ≤ sizeLine) :
    Inv X pins σ (upd H s.heap.objs.size (.lst ys)) { s with heap := s.heap.push { cls := .type "list", data := .seq its.toArray }, toks := t' } :=
  I.laid (fun _ _ q => Heap.get?_push_of_some _ q) (Nat.le_refl _) ⟨hz, its, 0, hv, Heap.get?_push_size _ rfl⟩
theorem Inv.fresh (I : Inv X pins σ H s) : H s.heap.objs.size = none := I.hok.fresh (Nat.le_refl _)
theorem Inv.lstM (I : Inv X pins σ H s) (hH : H l = some (.lst xs)) : xs.length ≤ sizeLine ∧ ∃ (its : List Value) (n : Nat), Vals xs its ∧ xs.length = its.length ∧ s.heap.get? l = some { cls := .type "list", data := .seq its.toArray n } := by
  obtain ⟨z, its, n, r, e⟩ := I.hok l _ hH
  exact ⟨z, its, n, r, r.length, e⟩
end
section
variable {X : Cx}
def rAppend : V → List V → Hp → VK → Prop := fun x vs H Q => ∃ l xs y, x = .ref l ∧ vs = [y] ∧ H l = some (.lst xs) ∧ xs.length < sizeLine ∧ Q .non (upd H l (.lst (xs ++ [y])))
theorem mt_append : MtM X "list.append" rAppend := by
  intro pins s σ H x vs v us Q I rx rv h
  obtain ⟨l, xs, y, rfl, rfl, hH, hz, q⟩ := h
  cases rx
  obtain ⟨u, rfl, ru⟩ := rv.one
  obtain ⟨z, its, n, r, hl, e⟩ := I.lstM hH
  refine call_meets F.slot_list_append ⟨_, e, rfl⟩ F.entry_list_append (F.args_list_append_2 _ _) (PySem.list_append l its.toArray n u (by rw [List.size_toArray]; omega)) ⟨e, ?_⟩
  refine ⟨.non, _, I.lset (its' := its ++ [u]) hH e (by simp) (r.append (.cons ru .nil)) ?_, rfl, q⟩
  rw [List.length_append, List.length_singleton]
  omega
theorem len_rep {α : Type} (xs : List α) (k : Nat) : (List.replicate k xs).flatten.length = k * xs.length := by
  induction k with
  | zero => simp
  | succ k ih => rw [List.replicate_succ, List.flatten_cons, List.length_append, ih, Nat.succ_mul, Nat.add_comm]
end
end L2
namespace Att
open PySem PySem.W PySem.Calls PyProof.Rows
theorem ints_of_wellAll {P : Params} {h : Heap} : ∀ (ns : List Int) (vs : List Value), WellAll P h vs (ns.map WData.int) → IntsAre vs ns := by
  intro ns
  induction ns with
  | nil =>
    intro vs w
    rw [List.map_nil] at w
    cases w
    exact .nil
  | cons n ns ih =>
    intro vs w
    rw [List.map_cons] at w
    cases w with
    | cons a b =>
      cases a
      exact .cons _ _ (ih _ b)
theorem script_of {l : OpenLaw} {n : Nat} (hn : l.most = some n) {P : Params} {h : Heap} {args : List WData} {vals : List Value}
    (hpre : l.row.toRowW.claim.pre args = true) (hwl : WellAll P h vals args) :
    ∃ a vs ns, vals = [Value.ref a] ∧ args = [WData.list (ns.map WData.int)] ∧ h.get? a = some { cls := .type "list", data := .seq vs.toArray } ∧ IntsAre vs ns ∧ ns.length ≤ n := by
  have hsh : WShape.hasAll [] args [.list .int] = true := (pre_splitW hpre).1
  have hc : l.pre.holds [] { args := args } = true := (pre_splitW hpre).2
  obtain ⟨d, r, rfl, h1, h2⟩ := hasAllW_cons hsh
  obtain rfl := hasAllW_nil h2
  obtain ⟨xs, rfl, h3⟩ := hasW_list h1
  obtain ⟨ns, rfl⟩ := items_int h3
  have hlen : ns.length ≤ n := by
    unfold OpenLaw.pre at hc
    have h4 : (WTm.not (.lt (.lit (.int (n : Int))) (.len (.arg 0)))).holds [] { args := [.list (ns.map .int)] } = true := by
      have h4 := (holds_andW hc).1
      rw [hn] at h4
      exact h4
    have h5 := condW_of h4 (w_not (w_lt w_lit (w_len_list (w_arg rfl))))
    rw [List.length_map] at h5
    refine Nat.le_of_not_lt fun q => ?_
    have q' : (n : Int) < ((ns.length : Nat) : Int) := by omega
    first
      | (rw [decide_eq_true q'] at h5; exact absurd h5 (by decide))
      | (simp at h5; omega)
  cases hwl with
  | cons w1 w2 =>
    cases w2
    cases w1 with
    | list ho hall => exact ⟨_, _, ns, rfl, rfl, ho, ints_of_wellAll ns _ hall, hlen⟩
theorem post_true (l : OpenLaw) (args : List WData) : l.row.toRowW.claim.post args (.bool true) args = true :=
  postW_of (r := l.row.toRowW) (X := (true == true))
    (show WShape.has [] (.bool true) .bool = true by first | rfl | decide | simp [WShape.has, WShape.arms, WShape.armsAll])
    (show (WTm.eq .res (.lit (.bool true))).value [] { args := args, res := some (.bool true), after := args } = some (.bool (true == true)) from w_eq_bool (w_res rfl) w_lit) rfl
theorem attach_call {l : OpenLaw} {n : Nat} {q : Program} {loose : List Str} {XP : (Str → Option Value) → Heap → Prop} {YP : World → Heap → Prop} {d : DefRec}
    (hn : l.most = some n) (hdf : d.params.defaults = [])
    (call : ∀ (w : World) (s₀ s₁ : Shared) (mg mb : Str → Option Value) (fa : Addr) (o : Obj) (pm cd doc : Value) (a : Addr) (vs : List Value) (ns : List Int),
      Ground q loose [] XP w s₀ mg mb s₁.heap → YP w s₁.heap →
      s₁.heap.get? fa = some o → o.data = .func (docDef d.name d.params d.body d.scope pm cd doc) → s₁.heap.CodeRec cd d.name → mg d.name = some (.ref fa) →
      s₁.heap.get? a = some { cls := .type "list", data := .seq vs.toArray } → IntsAre vs ns → ns.length ≤ n → s₁.gens = #[] →
      codeAny (model l.prog w) callerA (.call (.ref fa) ⟨[.ref a], []⟩) (fun r s' => r = .ok (.ret (.bool true)) ∧ OldK s₁.heap s'.heap ∧ s'.os = s₁.os ∧ AllBare s'.gens) s₁) :
    WalkO q loose XP YP l.row.toRowW d [] (fun f vs => PySem.call f vs) := by
  intro w s₀ s₁ mg mb G Y fa o pm cd doc dV kV ho hd hcd hD hmg hg args vals as hpre hlay hrd hwl hlo
  obtain rfl : dV = .none := Dflts.none hD hdf
  obtain rfl : kV = .none := Dflts.noKw hD
  obtain ⟨a, vs, ns, rfl, rfl, hobj, hints, hlen⟩ := script_of hn hpre hwl
  refine enter_call (codeAny_mono (call w s₀ s₁ mg mb fa o pm cd doc a vs ns G Y ho (fd_plain hd) hcd hmg hobj hints hlen hg) fun r s' hq => ?_)
  obtain ⟨rfl, h2, h3, h4⟩ := hq
  exact ⟨.inl ⟨.bool true, .bool true, [], rfl, fun _ => rfl, .bool true, post_true l _, fun _ => ⟨List.Pairwise.nil, fun _ hm => (nomatch hm)⟩⟩, h2, h3, h4⟩
end Att
namespace L2
open PySem PySem.Spec PyProof.Rows
theorem vals_ints : ∀ {vs : List Value} {ns : List Int}, IntsAre vs ns → Vals (ns.map V.int) vs
  | _, _, .nil => .nil
  | _, _, .cons n t h => .cons ⟨t, rfl⟩ (vals_ints h)
def Only (H : Hp) : Prop := ∀ b, H b = none ∨ ∃ o xs, H b = some (.frz o (.lst xs))
theorem law_call {P : Program} {w : World} {K : PySem.W.Frag} {mg mb : Str → Option Value} {CX : CXT} {k : Nat} {fa a : Addr} {fd : FuncData} {x : Str} {sp : Sp} {s₁ : Shared} {vs : List Value} {ns : List Int}
    (KX : K.In s₁.heap) (hns : s₁.heap.Ns mainGlobals mg) (hb : s₁.heap.Ns builtinsNs mb) (hbb : ∀ x : Str, x ≠ "__name__" → mb x = bootBuiltins x) (hlim : s₁.heap.NoLimit) (hg : s₁.gens = #[])
    (ha : s₁.heap.get? a = some { cls := .type "list", data := .seq vs.toArray }) (hi : IntsAre vs ns) (hl : ns.length ≤ sizeLine) (hr : Room k callerA)
    (F : ∀ base : Heap, K.In base → base.Ns mainGlobals mg → FnOk P w K mg base CX k fa fd [x] sp) (hbind : ∀ (s : Shared) (u : Value), BindsTo s fd ⟨[u], []⟩ [(x, u)])
    (hsp : ∀ H : Hp, Only H → SqL K H a (ns.map V.int) → sp [.ref a] H (fun v _ => v = .bl true) fun _ _ _ => False)
    (hCX : ∀ H e s', CX [] H s₁ (fun _ _ _ => False) e s' → False) :
    codeAny (model P w) callerA (.call (.ref fa) ⟨[.ref a], []⟩) (fun r s' => r = .ok (.ret (.bool true)) ∧ OldK s₁.heap s'.heap ∧ s'.os = s₁.os ∧ AllBare s'.gens) s₁ := by
  have rv := vals_ints hi
  have lenV := hi.length
  -- from an abstract heap in which nothing but the script may be tracked
  have core : ∀ H : Hp, Only H → SqL K H a (ns.map V.int) → HOk P w H s₁.heap → (∀ b, H b ≠ none → b = a) → (H a ≠ none → K.lookup a = none) →
      codeAny (model P w) callerA (.call (.ref fa) ⟨[.ref a], []⟩) (fun r s' => r = .ok (.ret (.bool true)) ∧ OldK s₁.heap s'.heap ∧ s'.os = s₁.os ∧ AllBare s'.gens) s₁ := by
    intro H hO hS hok hA hK
    have base_of : ∀ {b : Addr} {o : Obj}, s₁.heap.get? b = some o → H b = none → (hidT s₁.heap H).get? b = some o := fun e n => hidT_get e n
    have noA : ∀ {b : Addr} {o : Obj} {es : Array DictEntry} {ep : Nat}, s₁.heap.get? b = some o → o.data = .dict es ep → H b = none := fun {b o es ep} e d => by
      cases q : H b with
      | none => rfl
      | some u =>
        have e' : b = a := hA b (by rw [q]; simp)
        subst e'
        rw [ha] at e; cases e
        have d' : Data.seq vs.toArray _ = Data.dict es ep := d
        cases d'
    have nsK : ∀ {b : Addr} {m : Str → Option Value}, s₁.heap.Ns b m → (hidT s₁.heap H).Ns b m := fun {b m} ⟨o, es, ep, e, d, r⟩ => ⟨o, es, ep, base_of e (noA e d), d, r⟩
    have hKb : K.In (hidT s₁.heap H) := fun b o e => base_of (KX b o e) (by
      cases q : H b with
      | none => rfl
      | some u =>
        have e' : b = a := hA b (by rw [q]; simp)
        subst e'
        rw [hK (by rw [q]; simp)] at e; cases e)
    have hM : Mod K mg (hidT s₁.heap H) := ⟨hKb, nsK hns, ⟨mb, nsK hb, hbb⟩, let ⟨mc, h1, h2⟩ := hlim; ⟨mc, nsK h1, h2⟩⟩
    have e0 : Env0 P w K mg (hidT s₁.heap H) callerA [] s₁ H := ⟨rfl, hM, fun b o e => of_hidT e, Nat.le_of_eq (hidT_size _ _), trivial, fun b hb => absurd (show b ∈ ([] : List Addr) from hb) (by simp), hok, .of_eq hg⟩
    refine codeAny_mono ((F _ hKb (nsK hns)).run callerA [] s₁ H ⟨[.ref a], []⟩ [.ref a] [.ref a] _ _ hr e0 (hbind s₁ (.ref a)) (.cons rfl .nil) (hsp H hO hS)) fun r s' h => ?_
    cases r with
    | error e => exact (hCX H e s' h).elim
    | ok fl =>
      cases fl with
      | next => exact False.elim h
      | brk => exact False.elim h
      | cont => exact False.elim h
      | ret u =>
        obtain ⟨v, H', os, bare, un, hok', r', q⟩ := h
        have q' : v = .bl true := q
        subst q'
        obtain rfl : u = Value.bool true := r'
        refine ⟨rfl, OldK.of_keep fun b o e => ?_, os, bare⟩
        cases q : H b with
        | none => exact un.keep b o e q (by intro z; exact absurd (show b ∈ ([] : List Addr) from z) (by simp)) (by simp)
        | some u =>
          rcases hO b with z | ⟨ob, xs, z⟩
          · rw [q] at z; cases z
          · have z2 := un.frzs b ob _ z
            obtain ⟨e1, _⟩ := hok b _ z
            obtain ⟨e2, _⟩ := hok' b _ z2
            rw [e] at e1; cases e1
            exact e2
  cases hk : K.lookup a with
  | some o =>
    -- the script is one of the module's own objects
    have e := KX a o hk
    rw [ha] at e
    cases e
    refine core (fun _ => none) (fun _ => .inl rfl) (.inr ⟨_, vs.toArray, _, hk, rfl, rfl, rfl, by rw [List.size_toArray, lenV]; exact hl, by simpa using rv⟩) (fun b u z => by have z' : (none : Option HO) = some u := z; cases z') (fun b z => absurd rfl z) fun z => absurd rfl z
  | none =>
    refine core (fun b => if b = a then some (.frz { cls := .type "list", data := .seq vs.toArray } (.lst (ns.map V.int))) else none) (fun b => ?_) (.inl (.inr ⟨{ cls := .type "list", data := .seq vs.toArray }, if_pos rfl⟩)) (fun b u z => ?_) (fun b z => ?_) fun _ => hk
    · by_cases hb : b = a
      · exact .inr ⟨_, _, if_pos hb⟩
      · exact .inl (if_neg hb)
    · by_cases hb : b = a
      · have z' := (if_pos hb).symm.trans z
        cases z'
        subst hb
        exact ⟨ha, by rw [List.length_map]; exact hl, vs, _, rv, ha⟩
      · have z' := (if_neg hb).symm.trans z
        cases z'
    · by_cases hb : b = a
      · exact hb
      · exact absurd (if_neg hb) z
end L2
namespace L2
open PySem PySem.Spec PyProof.Rows
end L2
namespace L2
open PySem PySem.Spec PyProof.Rows
def inClass (s : Stmt) (j : Nat) : Stmt := match s with
  | .ClassDef _ _ _ body _ _ _ _ _ _ _ => body.getD j (.Pass ⟨0, 0, 0, 0⟩)
  | _ => .Pass ⟨0, 0, 0, 0⟩
def defArgs (s : Stmt) : Arguments := match s with
  | .FunctionDef _ a _ _ _ _ _ _ _ _ => a
  | _ => { posonlyargs := [], args := [], vararg := none, kwonlyargs := [], kw_defaults := [], kwarg := none, defaults := [] }
def defBody (s : Stmt) : List Stmt := match s with
  | .FunctionDef _ _ b _ _ _ _ _ _ _ => b
  | _ => []
def defScope (s : Stmt) : Scope := match s with
  | .FunctionDef _ _ _ _ _ _ sc _ _ _ => sc
  | _ => { kind := .function, names := [], isGenerator := false, isCoroutine := false }
abbrev CX0 : CXT := fun _ _ _ _ _ _ => False
structure Fun (K : PySem.W.Frag) (x qual : Str) (st : Stmt) (f : Addr) (fd : FuncData) : Prop where
  ex : ∃ (oc : Value) (od : Option Addr) (kV doc pm : Value) (an : Option Addr) (cdv ct : Value) (osl : Array (Option Value)),
    fd = PySem.W.fnOf x qual (defArgs st) (defBody st) (defScope st) .none kV doc pm an cdv ct ∧ K.lookup f = some ⟨oc, od, .func fd, osl⟩ ∧ PySem.W.codeIn K cdv qual = true
  kp : PySem.W.keepIn K (.ref f) = true
section
variable {P : Program} {w : World} {K : PySem.W.Frag} {mg : Str → Option Value} {base : Heap}
theorem Fun.ok {x qual : Str} {st : Stmt} {f : Addr} {fd : FuncData} {N ps : List Str} {k : Nat} {sp : Sp} (F : Fun K x qual st f fd) (S : FnScope N ps (defScope st)) (len : ∀ vs H Q E, sp vs H Q E → vs.length = ps.length)
    (hbody : ∀ (cdv : Value) (A : Around) (outer : List Env) (s : Shared) (H : Hp) (vs : List V) (Q : VK) (E : XK), Room k (A.deeper (envOfC qual (defScope st) s.heap.objs.size f cdv)) → sp vs H Q E →
      ∃ t, PSs (cxOf CX0 P w K mg base N qual (defScope st) f cdv A outer s H E).nox (defBody st) t ∧ t { nx := fun _ H' => Q .non H', rt := Q } (start N vs) H) : FnOk P w K mg base CX0 (k + 1) f fd ps sp := by
  obtain ⟨oc, od, kV, doc, pm, an, cdv, ct, osl, rfl, lk, hcd⟩ := F.ex
  refine fn_of lk hcd S len fun A outer s H vs Q E hr hsp => ?_
  obtain ⟨t, h, q⟩ := hbody cdv A outer s H vs Q E hr hsp
  exact ⟨t, h.nox, q⟩
theorem Fun.binds {x qual : Str} {st : Stmt} {f : Addr} {fd : FuncData} {ps : List Str} (F : Fun K x qual st f fd)
    (h : ∀ (kV doc pm : Value) (an : Option Addr) (cdv ct : Value) (us : List Value), us.length = ps.length → bindArgs (PySem.W.fnOf x qual (defArgs st) (defBody st) (defScope st) .none kV doc pm an cdv ct) ⟨us, []⟩ = pure (ps.zip us)) : Binds K fd ps [] := by
  obtain ⟨oc, od, kV, doc, pm, an, cdv, ct, osl, rfl, lk, hcd⟩ := F.ex
  exact .all (h kV doc pm an cdv ct)
theorem fun_mk {x qual : Str} {st : Stmt} {f : Addr} {oc : Value} {od an : Option Addr} {osl : Array (Option Value)} {kV doc pm cdv ct : Value} (l : K.lookup f = some ⟨oc, od, .func (PySem.W.fnOf x qual (defArgs st) (defBody st) (defScope st) .none kV doc pm an cdv ct), osl⟩)
    (c : PySem.W.codeIn K cdv qual = true) (k : PySem.W.keepIn K (.ref f) = true) : Fun K x qual st f (PySem.W.fnOf x qual (defArgs st) (defBody st) (defScope st) .none kV doc pm an cdv ct) := ⟨⟨oc, od, kV, doc, pm, an, cdv, ct, osl, rfl, l, c⟩, k⟩
end
section
variable {X : Cx}
theorem pv (i : Nat) {x : Str} {pos : Pos} (hN : X.N[i]? = some x := by rfl) (hv : Vis X.env.scope x := by first | exact Or.inl rfl | exact Or.inr (Or.inl rfl) | exact Or.inr (Or.inr rfl)) (hd : (x == ("__debug__" : Str)) = false := by decide)
    (hcd : (x == ("__classdict__" : Str)) = false := by decide) : PE X (.Name x pos) (tVar i) := pe_var hN hv hd hcd
end
def Same (H H' : Hp) : Prop := ∀ b o, H b = some o → H' b = some o
theorem Same.refl (H : Hp) : Same H H := fun _ _ h => h
theorem Same.trans {H H1 H2 : Hp} (a : Same H H1) (b : Same H1 H2) : Same H H2 := fun c o h => b c o (a c o h)
theorem Same.free {H H' : Hp} (e : Same H H') {l : Addr} (h : H' l = Option.none) : H l = Option.none := by
  cases q : H l with
  | none => rfl
  | some o =>
    rw [e l o q] at h
    cases h
end L2
set_option Elab.async false
set_option linter.all false
set_option maxRecDepth 100000
namespace L2
open PySem PySem.Spec PyProof.Rows
section
variable {κ : Type} [DecidableEq κ]
def valV (kvs : List (κ × V)) (k : κ) : Option V := (kvs.find? fun kv => decide (kv.1 = k)).map (·.2)
def putK (kvs : List (κ × V)) (k : κ) (v : V) : List (κ × V) :=
  if (kvs.any fun kv => decide (kv.1 = k)) = true then kvs.map (fun kv => if kv.1 = k then (kv.1, v) else kv) else kvs ++ [(k, v)]
theorem valV_pos {p : κ × V} {r : List (κ × V)} {k : κ} (e : p.1 = k) : valV (p :: r) k = some p.2 := by simp [valV, List.find?_cons, e]
theorem valV_neg {p : κ × V} {r : List (κ × V)} {k : κ} (e : ¬ p.1 = k) : valV (p :: r) k = valV r k := by simp [valV, List.find?_cons, e]
theorem valV_any (k : κ) : ∀ kvs : List (κ × V), (kvs.any fun kv => decide (kv.1 = k)) = (valV kvs k).isSome
  | [] => rfl
  | p :: r => by
    rw [List.any_cons]
    by_cases e : p.1 = k
    · simp only [valV_pos e, decide_eq_true e, Bool.true_or, Option.isSome_some]
    · rw [valV_neg e, decide_eq_false e, Bool.false_or]; exact valV_any k r
theorem length_putK (kvs : List (κ × V)) (k : κ) (v : V) : (putK kvs k v).length ≤ kvs.length + 1 := by
  unfold putK
  split
  · rw [List.length_map]; omega
  · rw [List.length_append, List.length_cons, List.length_nil]; omega
theorem RelO.isSome_eq {o : Option V} {u : Option Value} (r : RelO o u) : o.isSome = u.isSome := by
  cases o with
  | none => cases u with
    | none => rfl
    | some _ => exact (show False from r).elim
  | some _ => cases u with
    | none => exact (show False from r).elim
    | some _ => rfl
theorem KV.val {kvs : List (κ × V)} {vs : List (κ × Value)} (r : KV kvs vs) (k : κ) : RelO (valV kvs k) (valueAt vs k) := by
  unfold KV at r
  induction r with
  | nil => exact True.intro
  | @cons p q ps qs h t ih =>
    obtain ⟨h1, h2⟩ := h
    by_cases e : p.1 = k
    · have e' : q.1 = k := h1.symm.trans e
      have b : valueAt (q :: qs) k = some q.2 := by simp [valueAt, List.find?_cons, e']
      rw [valV_pos e, b]; exact h2
    · have e' : ¬ q.1 = k := fun z => e (h1.trans z)
      have b : valueAt (q :: qs) k = valueAt qs k := by simp [valueAt, List.find?_cons, e']
      rw [valV_neg e, b]; exact ih
theorem KV.any {kvs : List (κ × V)} {vs : List (κ × Value)} (r : KV kvs vs) (k : κ) : (kvs.any fun kv => decide (kv.1 = k)) = vs.any fun kv => decide (kv.1 = k) := by
  unfold KV at r
  induction r with
  | nil => rfl
  | cons h t ih => rw [List.any_cons, List.any_cons, ih, h.1]
theorem KV.repl {kvs : List (κ × V)} {vs : List (κ × Value)} (r : KV kvs vs) (k : κ) {y : V} {u : Value} (ry : RelV y u) :
    KV (kvs.map fun kv => if kv.1 = k then (kv.1, y) else kv) (vs.map fun kv => if kv.1 = k then (kv.1, u) else kv) := by
  unfold KV at r ⊢
  induction r with
  | nil => exact .nil
  | @cons p q ps qs h t ih =>
    rw [List.map_cons, List.map_cons]
    refine .cons ?_ ih
    obtain ⟨h1, h2⟩ := h
    by_cases e : p.1 = k
    · rw [if_pos e, if_pos (h1.symm.trans e)]; exact ⟨h1, ry⟩
    · rw [if_neg e, if_neg (fun z => e (h1.trans z))]; exact ⟨h1, h2⟩
theorem KV.put {kvs : List (κ × V)} {vs : List (κ × Value)} (r : KV kvs vs) (k : κ) {y : V} {u : Value} (ry : RelV y u) : KV (putK kvs k y) (stored vs k u) := by
  unfold putK stored
  rw [r.any k]
  by_cases e : (vs.any fun kv => decide (kv.1 = k)) = true
  · rw [if_pos e, if_pos e]; exact r.repl k ry
  · rw [if_neg e, if_neg e]; exact Paired.snoc r ⟨rfl, ry⟩
theorem KV.keys {kvs : List (κ × V)} {vs : List (κ × Value)} (r : KV kvs vs) : kvs.map (·.1) = vs.map (·.1) := by
  unfold KV at r
  induction r with
  | nil => rfl
  | cons h t ih => rw [List.map_cons, List.map_cons, ih, h.1]
theorem KV.length {kvs : List (κ × V)} {vs : List (κ × Value)} (r : KV kvs vs) : kvs.length = vs.length := Paired.length r
end
theorem kV_is {P : Program} {w : World} {k : Key} {u : Value} (r : RelV (kV k) u) : (mixKind P w).is k u = true := by
  cases k with
  | inl i => obtain ⟨t, e⟩ := (show ∃ t, u = Value.int i t from r); subst e; exact mixKind_int P w i t
  | inr x => obtain ⟨t, e⟩ := (show ∃ t, u = Value.str x t from r); subst e; exact mixKind_str P w x t
theorem items_are {P : Program} {w : World} : ∀ {ks : List Key} {us : List Value}, Vals (ks.map kV) us → ItemsAre (mixKind P w) ks us
  | [], _, r => by rw [List.map_nil] at r; cases r; exact .nil
  | k :: ks, _, r => by
    rw [List.map_cons] at r
    cases r with
    | cons h t => exact .cons (kV_is h) (items_are t)
abbrev KT (H : Hp) : List (List Key × V) → List (List Key × Addr × Value) → Prop := Paired fun p q => p.1 = q.1 ∧ H q.2.1 = some (.tup (p.1.map kV)) ∧ RelV p.2 q.2.2
theorem KT.val {H : Hp} {kvs : List (List Key × V)} {xs : List (List Key × Addr × Value)} (r : KT H kvs xs) (k : List Key) : RelO (valV kvs k) ((atKey xs k).map (·.2)) := by
  induction r with
  | nil => exact True.intro
  | @cons p q ps qs h t ih =>
    obtain ⟨h1, _, h2⟩ := h
    by_cases e : p.1 = k
    · have e' : q.1 = k := h1.symm.trans e
      have b : atKey (q :: qs) k = some q.2 := by simp [atKey, List.find?_cons, e']
      rw [valV_pos e, b]; exact h2
    · have e' : ¬ q.1 = k := fun z => e (h1.trans z)
      have b : atKey (q :: qs) k = atKey qs k := by simp [atKey, List.find?_cons, e']
      rw [valV_neg e, b]; exact ih
theorem KT.repl {H : Hp} {kvs : List (List Key × V)} {xs : List (List Key × Addr × Value)} (r : KT H kvs xs) (k : List Key) {y : V} {u : Value} (ry : RelV y u) :
    KT H (kvs.map fun kv => if kv.1 = k then (kv.1, y) else kv) (xs.map (putAt k u)) := by
  induction r with
  | nil => exact .nil
  | @cons p q ps qs h t ih =>
    rw [List.map_cons, List.map_cons]
    refine .cons ?_ ih
    obtain ⟨h1, h2, h3⟩ := h
    unfold putAt
    by_cases e : p.1 = k
    · rw [if_pos e, if_pos (h1.symm.trans e)]; exact ⟨h1, h2, ry⟩
    · rw [if_neg e, if_neg (fun z => e (h1.trans z))]; exact ⟨h1, h2, h3⟩
theorem KT.put {H : Hp} {kvs : List (List Key × V)} {xs : List (List Key × Addr × Value)} (r : KT H kvs xs) (k : List Key) {b : Addr} {y : V} {u : Value} (hb : H b = some (.tup (k.map kV))) (ry : RelV y u) :
    KT H (putK kvs k y) (storedH xs k b u) := by
  have e : (kvs.any fun kv => decide (kv.1 = k)) = (atKey xs k).isSome := by
    rw [valV_any, (r.val k).isSome_eq, Option.isSome_map]
  unfold putK storedH
  rw [e]
  by_cases q : (atKey xs k).isSome = true
  · rw [if_pos q, if_pos q]; exact r.repl k ry
  · rw [if_neg q, if_neg q]; exact Paired.snoc r ⟨rfl, hb, ry⟩
theorem KT.keeps {H H' : Hp} {kvs : List (List Key × V)} {xs : List (List Key × Addr × Value)} (r : KT H kvs xs) (ht : ∀ b ys, H b = some (.tup ys) → H' b = some (.tup ys)) : KT H' kvs xs :=
  Paired.mapP r fun _ _ z => ⟨z.1, ht _ _ z.2.1, z.2.2⟩
section
variable {P : Program} {w : World} {H : Hp} {h : Heap} {a : Addr}
theorem rd_of {u : HO} (ok : HOk P w H h) (e : Rd H a u) : ObjOk P w H h a u := e.ok ok
theorem dk_rd {kvs : List (Key × V)} (ok : HOk P w H h) (e : Rd H a (.dK kvs)) : kvs.length ≤ sizeLine ∧ (a == sysModules) = false ∧ ∃ vs, KV kvs vs ∧ h.DictOf (mixKind P w) a vs :=
  show ObjOk P w H h a (.dK kvs) from rd_of ok e
theorem dk_of {kvs : List (Key × V)} (ok : HOk P w H h) (e : H a = some (.dK kvs)) : kvs.length ≤ sizeLine ∧ (a == sysModules) = false ∧ ∃ vs, KV kvs vs ∧ h.DictOf (mixKind P w) a vs := dk_rd ok (.inl e)
theorem key_of {ks : List Key} (ok : HOk P w H h) (e : H a = some (.tup (ks.map kV))) : (tupleKind (mixKind P w)).is h ks a := by
  obtain ⟨_, its, r, o, h1, h2, n, h3⟩ := (show ObjOk P w H h a (.tup (ks.map kV)) from ok a _ e)
  exact ⟨o, its.toArray, n, h1, h2, h3, by simpa using items_are r⟩
theorem dt_rd {kvs : List (List Key × V)} (ok : HOk P w H h) (e : Rd H a (.dT kvs)) : kvs.length ≤ sizeLine ∧ (a == sysModules) = false ∧
    ∃ xs, KT H kvs xs ∧ h.DictOfH (tupleKind (mixKind P w)) a xs := by
  obtain ⟨z, y, xs, r, o, es, ep, h1, h2, h3, h4, h5⟩ := (show ObjOk P w H h a (.dT kvs) from rd_of ok e)
  refine ⟨z, y, xs, r, o, es, ep, h1, h2, h3, h4, fun x hx => ?_, h5⟩
  have all : ∀ {l : List (List Key × V)} {m : List (List Key × Addr × Value)}, KT H l m → ∀ x ∈ m, (tupleKind (mixKind P w)).is h x.1 x.2.1 := by
    intro l m q
    induction q with
    | nil => intro x hx; exact nomatch hx
    | @cons p q ps qs hq t ih =>
      intro x hx
      rcases List.mem_cons.mp hx with e | hx
      · subst e
        exact key_of ok (by rw [← hq.1]; exact hq.2.1)
      · exact ih x hx
  exact all r x hx
theorem dt_of {kvs : List (List Key × V)} (ok : HOk P w H h) (e : H a = some (.dT kvs)) : kvs.length ≤ sizeLine ∧ (a == sysModules) = false ∧
    ∃ xs, KT H kvs xs ∧ h.DictOfH (tupleKind (mixKind P w)) a xs := dt_rd ok (.inl e)
end
def DGet (H : Hp) (a : Addr) (y : V) (r : Option V) : Prop :=
  (∃ kvs k, Rd H a (.dK kvs) ∧ y = kV k ∧ r = valV kvs k) ∨ ∃ kvs k b, Rd H a (.dT kvs) ∧ y = .ref b ∧ H b = some (.tup (k.map kV)) ∧ r = valV kvs k
def DPut (H : Hp) (a : Addr) (y v : V) (H' : Hp) : Prop :=
  (∃ kvs k, H a = some (.dK kvs) ∧ y = kV k ∧ kvs.length < sizeLine ∧ H' = upd H a (.dK (putK kvs k v))) ∨
  ∃ kvs k b, H a = some (.dT kvs) ∧ y = .ref b ∧ H b = some (.tup (k.map kV)) ∧ kvs.length < sizeLine ∧ H' = upd H a (.dT (putK kvs k v))
theorem DGet.k {H : Hp} {a : Addr} {kvs : List (Key × V)} {k : Key} (e : H a = some (.dK kvs)) : DGet H a (kV k) (valV kvs k) := .inl ⟨kvs, k, .inl e, rfl, rfl⟩
theorem DGet.t {H : Hp} {a b : Addr} {kvs : List (List Key × V)} {k : List Key} (e : H a = some (.dT kvs)) (eb : H b = some (.tup (k.map kV))) : DGet H a (.ref b) (valV kvs k) := .inr ⟨kvs, k, b, .inl e, rfl, eb, rfl⟩
theorem DPut.k {H : Hp} {a : Addr} {kvs : List (Key × V)} {k : Key} {v : V} (e : H a = some (.dK kvs)) (hl : kvs.length < sizeLine) : DPut H a (kV k) v (upd H a (.dK (putK kvs k v))) := .inl ⟨kvs, k, e, rfl, hl, rfl⟩
theorem DPut.t {H : Hp} {a b : Addr} {kvs : List (List Key × V)} {k : List Key} {v : V} (e : H a = some (.dT kvs)) (eb : H b = some (.tup (k.map kV))) (hl : kvs.length < sizeLine) :
    DPut H a (.ref b) v (upd H a (.dT (putK kvs k v))) := .inr ⟨kvs, k, b, e, rfl, eb, hl, rfl⟩
section
variable {X : Cx} {pins : List (Addr × Obj)} {σ : St} {H : Hp} {s : Shared} {a : Addr} {y v : V} {u r : Value} {o : Option V} {A : Around} {E : Value → Shared → Prop}
theorem Inv.big (I : Inv X pins σ H s) : sysModules < s.heap.objs.size := by
  have h : mainGlobals < s.heap.objs.size := (I.mod.glob.keeps I.bk).lt
  exact Nat.lt_trans (by decide) h
theorem d_getItem {Q : Value → Shared → Prop} (hu : A.units + 1 < cLine) (I : Inv X pins σ H s) (g : DGet H a y (some v)) (ry : RelV y u) (h : ∀ w' s', Inv X pins σ H s' → RelV v w' → Q w' s') :
    wpAny (model X.prog X.w) A (getItem (.ref a) u) Q E s := by
  rcases g with ⟨kvs, k, e, ey, l⟩ | ⟨kvs, k, b, e, ey, eb, l⟩
  · subst ey
    obtain ⟨z, hd, vs, rel, dd⟩ := dk_rd I.hok e
    obtain ⟨w', hw, rw'⟩ := RelO.some_of (v := v) (o := valueAt vs k) (by rw [l]; exact rel.val k)
    exact wpAny_getItem_of (kV_is ry) dd.mapOf hw (h w' _ (I.tok _) rw')
  · subst ey
    cases (show u = Value.ref b from ry)
    obtain ⟨z, hd, xs, rel, dd⟩ := dt_rd I.hok e
    obtain ⟨w', hw, rw'⟩ := RelO.some_of (v := v) (o := (atKey xs k).map (·.2)) (by rw [l]; exact rel.val k)
    obtain ⟨p, hp, hp2⟩ := Option.map_eq_some_iff.mp hw
    refine wpAny_getItem_heap (tupleKind_room_in1 hu) (key_of I.hok eb) dd hp ?_
    rw [hp2]
    exact h w' _ (I.tok _) rw'
theorem d_in {Q : Value → Shared → Prop} (hu : A.units + 1 < cLine) (I : Inv X pins σ H s) (g : DGet H a y o) (ry : RelV y u) (h : ∀ s', Inv X pins σ H s' → Q (.bool o.isSome) s') :
    wpAny (model X.prog X.w) A (compareOp .In u (.ref a)) Q E s := by
  rcases g with ⟨kvs, k, e, ey, l⟩ | ⟨kvs, k, b, e, ey, eb, l⟩
  · subst ey
    obtain ⟨z, hd, vs, rel, dd⟩ := dk_rd I.hok e
    refine wpAny_in_of (kV_is ry) hd dd.mapOf ?_
    rw [← (rel.val k).isSome_eq, ← l]
    exact h _ (I.tok _)
  · subst ey
    cases (show u = Value.ref b from ry)
    obtain ⟨z, hd, xs, rel, dd⟩ := dt_rd I.hok e
    refine wpAny_in_heap (tupleKind_room_in1 hu) (key_of I.hok eb) hd dd ?_
    have q := (rel.val k).isSome_eq
    rw [Option.isSome_map] at q
    rw [← q, ← l]
    exact h _ (I.tok _)
theorem d_notIn {Q : Value → Shared → Prop} (hu : A.units + 1 < cLine) (I : Inv X pins σ H s) (g : DGet H a y o) (ry : RelV y u) (h : ∀ s', Inv X pins σ H s' → Q (.bool (!o.isSome)) s') :
    wpAny (model X.prog X.w) A (compareOp .NotIn u (.ref a)) Q E s := by
  rcases g with ⟨kvs, k, e, ey, l⟩ | ⟨kvs, k, b, e, ey, eb, l⟩
  · subst ey
    obtain ⟨z, hd, vs, rel, dd⟩ := dk_rd I.hok e
    refine wpAny_notIn_of (kV_is ry) hd dd.mapOf ?_
    rw [← (rel.val k).isSome_eq, ← l]
    exact h _ (I.tok _)
  · subst ey
    cases (show u = Value.ref b from ry)
    obtain ⟨z, hd, xs, rel, dd⟩ := dt_rd I.hok e
    refine wpAny_notIn_heap (tupleKind_room_in1 hu) (key_of I.hok eb) hd dd ?_
    have q := (rel.val k).isSome_eq
    rw [Option.isSome_map] at q
    rw [← q, ← l]
    exact h _ (I.tok _)
theorem d_write {h' : Heap} {t' : Nat} {ob : HO} (I : Inv X pins σ H s) (mu : Mut (H a)) (hs : Heap.SameBut a s.heap h') (he : ∃ q, h'.get? a = some q) (new : ObjOk X.prog X.w (upd H a ob) h' a ob) :
    Inv X pins σ (upd H a ob) { s with heap := h', toks := t' } :=
  I.write (x := a) (e := a) mu (.inl rfl) (fun b q hb z => (hs.2 b hb).trans z) he new
theorem dk_new {P : Program} {w : World} {H' : Hp} {h' : Heap} {kvs : List (Key × V)} {vs : List (Key × Value)} (z : kvs.length ≤ sizeLine) (hd : (a == sysModules) = false) (rel : KV kvs vs) (dd : h'.DictOf (mixKind P w) a vs) :
    ObjOk P w H' h' a (.dK kvs) := ⟨z, hd, vs, rel, dd⟩
theorem d_setItem {H' : Hp} {Q : Unit → Shared → Prop} (hu : A.units + 1 < cLine) (I : Inv X pins σ H s) (g : DPut H a y v H') (ry : RelV y u) (rv : RelV v r) (h : ∀ s', Inv X pins σ H' s' → Q () s') :
    wpAny (model X.prog X.w) A (setItem (.ref a) u r) Q E s := by
  rcases g with ⟨kvs, k, e, ey, l, eH⟩ | ⟨kvs, k, b, e, ey, eb, l, eH⟩
  · subst ey eH
    obtain ⟨z, hd, vs, rel, dd⟩ := dk_of I.hok e
    have hz : vs.length ≤ sizeLine := by rw [← rel.length]; exact z
    have hl : (putK kvs k v).length ≤ sizeLine := by have := length_putK kvs k v; omega
    refine wpAny_setItem_pairs (hsz := hz) (kV_is ry) dd fun h' dd' hs => h _ ?_
    have he : ∃ q, h'.get? a = some q := let ⟨q, _, _, hq, _⟩ := dd'; ⟨q, hq⟩
    exact d_write I (by rw [e]; exact True.intro) hs he (dk_new hl hd (rel.put k rv) dd')
  · subst ey eH
    cases (show u = Value.ref b from ry)
    obtain ⟨z, hd, xs, rel, dd⟩ := dt_of I.hok e
    have hz : xs.length ≤ sizeLine := by rw [← Paired.length rel]; exact z
    have hl : (putK kvs k v).length ≤ sizeLine := by have := length_putK kvs k v; omega
    refine wpAny_setItem_heap (hsz := hz) (tupleKind_room_in1 hu) (key_of I.hok eb) dd fun h' dd' hs => h _ ?_
    obtain ⟨q, es, ep, hq, h2, h3, h4, _, h5⟩ := dd'
    refine d_write I (by rw [e]; exact True.intro) hs ⟨q, hq⟩ ⟨hl, hd, _, (rel.put k eb rv).keeps fun c ys ec => ?_, q, es, ep, hq, h2, h3, h4, h5⟩
    rw [upd_ne (ne_of ec e (fun z => nomatch z))]
    exact ec
end
section
variable {X : Cx} {pins : List (Addr × Obj)} {σ : St} {H : Hp} {s : Shared} {a : Addr} {kvs : List (Key × V)} {k : Key} {u : Value} {A : Around} {E : Value → Shared → Prop}
theorem d_len {Q : Value → Shared → Prop} (I : Inv X pins σ H s) (e : Rd H a (.dK kvs)) (h : ∀ t s', Inv X pins σ H s' → Q (.int kvs.length t) s') : wpAny (model X.prog X.w) A (call (.builtin "len") [.ref a]) Q E s := by
  obtain ⟨z, hd, vs, rel, dd⟩ := dk_rd I.hok e
  refine call_len_dict hd dd (by rw [← rel.length]; rw [sizeLine_eq] at z; omega) ?_
  rw [← rel.length]
  exact h _ _ (I.tok _)
end
theorem dict_typeIs {X : Cx} {pins : List (Addr × Obj)} {σ : St} {H : Hp} {s : Shared} {a : Addr} {y : V} {o : Option V} (I : Inv X pins σ H s) (g : DGet H a y o) : s.TypeIs (.ref a) "dict" := by
  rcases g with ⟨kvs, k, e, _, _⟩ | ⟨kvs, k, b, e, _, _, _⟩
  · obtain ⟨_, _, vs, _, dd⟩ := dk_rd I.hok e
    exact dd.typeIs
  · obtain ⟨_, _, xs, _, dd⟩ := dt_rd I.hok e
    exact dd.typeIs
def sDPut (td ty tv : TE) : TS := fun D σ H => tv σ H fun v H1 => td σ H1 fun x H2 => ty σ H2 fun y H3 => ∃ a H4, x = .ref a ∧ DPut H3 a y v H4 ∧ D.nx σ H4
section
variable {X : Cx} {o i e value : Expr} {pos pos' tpos : Pos} {td ty tv : TE}
theorem ps_dput (hu : X.A.units + 1 < cLine) (ho : PE X o td) (hi : PE X i ty) (hv : PE X value tv) (hs : swapsWith value (some (.Subscript o i pos')) pos.line X.env = pure false) :
    PS X (.Assign [.Subscript o i pos'] value pos) (sDPut td ty tv) := by
  intro pins s σ H D I h
  refine wpAny_Assign_Subscript (thn (hv pins s σ H _ I h) fun r s1 ⟨v, H1, I1, rv, q1⟩ => thn (ho pins s1 σ H1 _ I1 q1) fun u s2 ⟨x, H2, I2, rx, q2⟩ => thn (hi pins s2 σ H2 _ I2 q2) fun iv s3 ⟨y, H3, I3, ry, a, H4, ex, g, q3⟩ => ?_) hs
  subst ex
  obtain rfl : u = Value.ref a := rx
  exact d_setItem hu I3 g ry rv fun s4 I4 => ⟨σ, H4, I4, q3⟩
end
theorem dk_empty {P : Program} {w : World} {H : Hp} (h : Heap) (hb : sysModules < h.objs.size) : ObjOk P w H (h.push { cls := .type "dict", data := .dict #[] }) h.objs.size (.dK []) :=
  ⟨Nat.zero_le _, beq_eq_false_iff_ne.mpr (Ne.symm (Nat.ne_of_lt hb)), [], .nil, Heap.DictOf.new h⟩
def tDNewK : TE := fun _ H Q => ∀ p, H p = none → Q (.ref p) (upd H p (.dK []))
section
variable {X : Cx} {pos : Pos}
theorem pe_dnewK : PE X (.Dict [] [] pos) tDNewK := fun pins s σ H Q I h =>
  wpAny_Dict_empty ⟨.ref s.heap.objs.size, _, I.laid (a := s.heap.objs.size) (o := .dK []) (t' := s.toks) (fun _ _ q => Heap.get?_push_of_some _ q) (Nat.le_refl _) (dk_empty s.heap I.big), rfl, h _ (I.hok.fresh (Nat.le_refl _))⟩
end
end L2
set_option Elab.async false
set_option linter.all false
set_option maxRecDepth 100000
set_option maxHeartbeats 4000000
namespace D2
open PySem PySem.Spec PyProof.Rows L2
abbrev St := L2.St
abbrev Inv := @L2.Inv
def keyD : Key → PyData
  | .inl i => .int i
  | .inr x => .str x
mutual
def Rp (H : Hp) : PyData → V → Prop
  | .none, v => v = .non
  | .bool b, v => v = .bl b
  | .int i, v => v = .int i
  | .str x, v => v = .str x
  | .tuple ds, v => ∃ a vs, v = .ref a ∧ H a = some (.tup vs) ∧ RpA H ds vs
  | .list ds, v => ∃ a o vs, v = .ref a ∧ H a = some (.frz o (.lst vs)) ∧ RpA H ds vs
  | .dict kvs, v => (∃ a o ks, v = .ref a ∧ H a = some (.frz o (.dK ks)) ∧ RpK H kvs ks) ∨ ∃ a o C dx fs, v = .ref a ∧ H a = some (.frz o (.ins C dx fs)) ∧ RpI H C fs kvs
def RpA (H : Hp) : List PyData → List V → Prop
  | [], vs => vs = []
  | d :: ds, vs => ∃ v r, vs = v :: r ∧ Rp H d v ∧ RpA H ds r
def RpK (H : Hp) : List (PyData × PyData) → List (Key × V) → Prop
  | [], ks => ks = []
  | kd :: kvs, ks => ∃ x v r, ks = (x, v) :: r ∧ RpP H kd x v ∧ RpK H kvs r
def RpP (H : Hp) : PyData × PyData → Key → V → Prop
  | (k, d), x, v => k = keyD x ∧ Rp H d v
def RpI (H : Hp) (C : Addr) (fs : List (Str × V)) : List (PyData × PyData) → Prop
  | [] => False
  | kd :: kvs => kd = (.none, .int C) ∧ RpF H kvs fs
def RpF (H : Hp) : List (PyData × PyData) → List (Str × V) → Prop
  | [], fs => fs = []
  | kd :: kvs, fs => ∃ x v r, fs = (x, v) :: r ∧ RpQ H kd x v ∧ RpF H kvs r
def RpQ (H : Hp) : PyData × PyData → Str → V → Prop
  | (k, d), x, v => k = .str x ∧ Rp H d v
end
def isIns : List (PyData × PyData) → Bool
  | (.none, _) :: _ => true
  | _ => false
def Kp (H H' : Hp) : Prop := (∀ b xs, H b = some (.tup xs) → H' b = some (.tup xs)) ∧ ∀ b o u, H b = some (.frz o u) → H' b = some (.frz o u)
theorem Kp.trans {H H1 H2 : Hp} (a : Kp H H1) (b : Kp H1 H2) : Kp H H2 := ⟨fun c xs h => b.1 c xs (a.1 c xs h), fun c o u h => b.2 c o u (a.2 c o u h)⟩
theorem Kp.of {H H' : Hp} (s : Same H H') : Kp H H' := ⟨fun b xs h => s b _ h, fun b o u h => s b _ h⟩
mutual
theorem Rp.kp {H H' : Hp} (k : Kp H H') : ∀ (d : PyData) (v : V), Rp H d v → Rp H' d v
  | .none, v, h => by simpa only [Rp] using h
  | .bool b, v, h => by simpa only [Rp] using h
  | .int i, v, h => by simpa only [Rp] using h
  | .str x, v, h => by simpa only [Rp] using h
  | .tuple ds, v, h => by
    simp only [Rp] at h ⊢
    obtain ⟨a, vs, e, ha, r⟩ := h
    exact ⟨a, vs, e, k.1 _ _ ha, RpA.kp k ds vs r⟩
  | .list ds, v, h => by
    simp only [Rp] at h ⊢
    obtain ⟨a, o, vs, e, ha, r⟩ := h
    exact ⟨a, o, vs, e, k.2 _ _ _ ha, RpA.kp k ds vs r⟩
  | .dict kvs, v, h => by
    simp only [Rp] at h ⊢
    rcases h with ⟨a, o, ks, e, ha, r⟩ | ⟨a, o, C, dx, fs, e, ha, r⟩
    · exact .inl ⟨a, o, ks, e, k.2 _ _ _ ha, RpK.kp k kvs ks r⟩
    · exact .inr ⟨a, o, C, dx, fs, e, k.2 _ _ _ ha, RpI.kp k C fs kvs r⟩
theorem RpA.kp {H H' : Hp} (k : Kp H H') : ∀ (ds : List PyData) (vs : List V), RpA H ds vs → RpA H' ds vs
  | [], vs, h => by simpa only [RpA] using h
  | d :: ds, vs, h => by
    simp only [RpA] at h ⊢
    obtain ⟨v, r, e, h1, h2⟩ := h
    exact ⟨v, r, e, Rp.kp k d v h1, RpA.kp k ds r h2⟩
theorem RpK.kp {H H' : Hp} (k : Kp H H') : ∀ (kvs : List (PyData × PyData)) (ks : List (Key × V)), RpK H kvs ks → RpK H' kvs ks
  | [], ks, h => by simpa only [RpK] using h
  | kd :: kvs, ks, h => by
    simp only [RpK] at h ⊢
    obtain ⟨x, v, r, e, h1, h2⟩ := h
    exact ⟨x, v, r, e, RpP.kp k kd x v h1, RpK.kp k kvs r h2⟩
theorem RpP.kp {H H' : Hp} (k : Kp H H') : ∀ (kd : PyData × PyData) (x : Key) (v : V), RpP H kd x v → RpP H' kd x v
  | (c, d), x, v, h => by
    simp only [RpP] at h ⊢
    exact ⟨h.1, Rp.kp k d v h.2⟩
theorem RpI.kp {H H' : Hp} (k : Kp H H') (C : Addr) (fs : List (Str × V)) : ∀ (kvs : List (PyData × PyData)), RpI H C fs kvs → RpI H' C fs kvs
  | [], h => by simpa only [RpI] using h
  | kd :: kvs, h => by
    simp only [RpI] at h ⊢
    exact ⟨h.1, RpF.kp k kvs fs h.2⟩
theorem RpF.kp {H H' : Hp} (k : Kp H H') : ∀ (kvs : List (PyData × PyData)) (fs : List (Str × V)), RpF H kvs fs → RpF H' kvs fs
  | [], fs, h => by simpa only [RpF] using h
  | kd :: kvs, fs, h => by
    simp only [RpF] at h ⊢
    obtain ⟨x, v, r, e, h1, h2⟩ := h
    exact ⟨x, v, r, e, RpQ.kp k kd x v h1, RpF.kp k kvs r h2⟩
theorem RpQ.kp {H H' : Hp} (k : Kp H H') : ∀ (kd : PyData × PyData) (x : Str) (v : V), RpQ H kd x v → RpQ H' kd x v
  | (c, d), x, v, h => by
    simp only [RpQ] at h ⊢
    exact ⟨h.1, Rp.kp k d v h.2⟩
end
theorem Rp.mono {H H' : Hp} {d : PyData} {v : V} (h : Rp H d v) (s : Same H H') : Rp H' d v := Rp.kp (Kp.of s) d v h
theorem RpA.mono {H H' : Hp} {ds : List PyData} {vs : List V} (h : RpA H ds vs) (s : Same H H') : RpA H' ds vs := RpA.kp (Kp.of s) ds vs h
def ORp (H : Hp) : PyData → V → Prop
  | .list ds, v => ∃ a vs, v = .ref a ∧ H a = some (.lst vs) ∧ RpA H ds vs
  | .dict kvs, v => ∃ a ks, v = .ref a ∧ H a = some (.dK ks) ∧ RpK H kvs ks
  | _, _ => False
theorem ORp.mono {H H' : Hp} {d : PyData} {v : V} (h : ORp H d v) (s : Same H H') : ORp H' d v := by
  cases d <;> simp only [ORp] at h ⊢
  · obtain ⟨a, vs, e, ha, r⟩ := h
    exact ⟨a, vs, e, s _ _ ha, RpA.mono r s⟩
  · obtain ⟨a, vs, e, ha, r⟩ := h
    exact ⟨a, vs, e, s _ _ ha, RpK.kp (Kp.of s) _ _ r⟩
def BRp (H : Hp) (d : PyData) (v : V) : Prop := Rp H d v ∨ ORp H d v
theorem BRp.mono {H H' : Hp} {d : PyData} {v : V} (h : BRp H d v) (s : Same H H') : BRp H' d v := h.elim (fun h => .inl (h.mono s)) fun h => .inr (h.mono s)
def NRp (H H' : Hp) (d : PyData) (v : V) : Prop := ORp H' d v ∧ ∃ a, v = .ref a ∧ H a = none
inductive Cell where
  | non
  | val (d : PyData)
  | own (d : PyData)
  | exc (p : Addr)
abbrev Rho := List Cell
def CellOk (H : Hp) : Cell → Option V → Prop
  | .non, _ => True
  | .val d, o => ∃ v, o = some v ∧ Rp H d v
  | .own d, o => ∃ v, o = some v ∧ ORp H d v
  | .exc p, o => o = some (.ref p)
def Sl (H : Hp) (σ : St) (ρ : Rho) : Prop := σ.length = ρ.length ∧ ∀ (i : Nat) (c : Cell) (o : Option V), ρ[i]? = some c → σ[i]? = some o → CellOk H c o
theorem CellOk.mono {H H' : Hp} {c : Cell} {o : Option V} (h : CellOk H c o) (s : Same H H') : CellOk H' c o := by
  cases c <;> simp only [CellOk] at h ⊢
  · obtain ⟨v, e, h⟩ := h; exact ⟨v, e, h.mono s⟩
  · obtain ⟨v, e, h⟩ := h; exact ⟨v, e, h.mono s⟩
  · exact h
theorem Sl.mono {H H' : Hp} {σ : St} {ρ : Rho} (h : Sl H σ ρ) (s : Same H H') : Sl H' σ ρ := ⟨h.1, fun i c o h1 h2 => (h.2 i c o h1 h2).mono s⟩
inductive R (α : Type) where
  | ok (a : α)
  | ex (c : Str)
  | no
def R.bind {α β : Type} : R α → (α → R β) → R β
  | .ok a, f => f a
  | .ex c, _ => .ex c
  | .no, _ => .no
instance : Monad R where
  pure := .ok
  bind := R.bind
@[simp] theorem R.ok_bind {α β : Type} (a : α) (f : α → R β) : (R.ok a >>= f) = f a := (rfl)
structure Fly (P : Program) (w : World) (outer : List Env) (H : Hp) (s : Shared) (C : Addr) (H' : Hp) (e : Value) (s' : Shared) : Prop where
  os : s'.os = s.os
  bare : AllBare s'.gens
  same : Same H H'
  ex : ∃ (p : Addr) (a0 : Value) (B : Heap), e = .ref p ∧ Heap.FlyingW B outer p (.ref C) a0 s'.heap ∧ HOk P w H' B ∧ H' p = none ∧ ∀ b o, s.heap.get? b = some o → H b = none → b ∉ frs outer → B.get? b = some o ∧ H' b = none
  slot : ∀ b o, s.heap.get? b = some o → H b = none → b ∈ frs outer → (∃ sl, s'.heap.get? b = some { o with slots := sl }) ∧ H' b = none
def CXD (P : Program) (w : World) (mg : Str → Option Value) : CXT := fun outer H s E e s' => ∃ n C H', mg n = some (.ref C) ∧ Fly P w outer H s C H' e s' ∧ E (.str n 0) none H'
def EX (X : Cx) : XK := fun v _ H' => ∀ (n : Str) (C : Addr), v = .str n 0 → X.mg n = some (.ref C) → ∀ (pins : List (Addr × Obj)) (σ : St) (H : Hp) (s : Shared) (e : Value) (s' : Shared), Inv X pins σ H s → Fly X.prog X.w X.stack H s C H' e s' → X.xe e s'
theorem passesD {X : Cx} : Passes (CXD X.prog X.w X.mg) X (EX X) := fun pins σ H s e s' I ⟨n, C, H', hm, f, q⟩ => q n C rfl hm pins σ H s e s' I f
def Xw (X : Cx) (c : Str) (H : Hp) : Prop := ∀ H1, Same H H1 → EX X (.str c 0) none H1
theorem Xw.mono {X : Cx} {c : Str} {H H' : Hp} (h : Xw X c H) (s : Same H H') : Xw X c H' := fun H1 s1 => h H1 (s.trans s1)
def XwM (X : Cx) (c : Str) (Fm : Hp) : Prop := ∀ C, X.mg c = some (.ref C) → ∀ (pins : List (Addr × Obj)) (σ : St) (H : Hp) (s : Shared), Same Fm H → Inv X pins σ H s → ∀ (h' : Heap) (p : Addr) (vs : List Value), Heap.MadeExcOf s.heap h' p (.ref C) vs → X.xe (.ref p) { s with heap := h' }
theorem XwM.mono {X : Cx} {c : Str} {H H' : Hp} (h : XwM X c H) (s : Same H H') : XwM X c H' := fun C hm pins σ H1 s1 e => h C hm pins σ H1 s1 (s.trans e)
def rdR (X : Cx) (P : Hp → Hp → PyData → V → Prop) (r : R PyData) (H : Hp) (Q : VK) : Prop :=
  match r with
  | .ok d => ∀ v H', Same H H' → P H H' d v → Q v H'
  | .ex c => Xw X c H
  | .no => False
abbrev PRp : Hp → Hp → PyData → V → Prop := fun _ H' d v => Rp H' d v
abbrev PBp : Hp → Hp → PyData → V → Prop := fun _ H' d v => BRp H' d v
abbrev PFp : Hp → Hp → PyData → V → Prop := fun H H' d v => Rp H' d v ∨ NRp H H' d v
abbrev Fe := Rho → R PyData
def rdE (X : Cx) (P : Hp → Hp → PyData → V → Prop) (f : Fe) : TE := fun σ H Q => ∃ ρ, Sl H σ ρ ∧ rdR X P (f ρ) H Q
def EvE (X : Cx) (e : Expr) (f : Fe) : Prop := PE X e (rdE X PRp f)
structure Z.EvE (X : Cx) (e : Expr) (f : Fe) : Prop where
  un : D2.EvE X e f
def EvB (X : Cx) (e : Expr) (f : Fe) : Prop := PE X e (rdE X PBp f)
structure Z.EvB (X : Cx) (e : Expr) (f : Fe) : Prop where
  un : D2.EvB X e f
def EvF (X : Cx) (e : Expr) (f : Fe) : Prop := PE X e (rdE X PFp f)
structure Z.EvF (X : Cx) (e : Expr) (f : Fe) : Prop where
  un : D2.EvF X e f
def EvN (X : Cx) (e : Expr) (f : Fe) : Prop := PE X e (rdE X NRp f)
structure Z.EvN (X : Cx) (e : Expr) (f : Fe) : Prop where
  un : D2.EvN X e f
def RA (I : Hp → PyData → V → Prop) (H : Hp) : List PyData → List V → Prop
  | [], vs => vs = []
  | d :: ds, vs => ∃ v r, vs = v :: r ∧ I H d v ∧ RA I H ds r
theorem ra_iff {H : Hp} : ∀ {ds : List PyData} {vs : List V}, RA Rp H ds vs ↔ RpA H ds vs
  | [], vs => by simp only [RA, RpA]
  | d :: ds, vs => by simp only [RA, RpA, ra_iff (ds := ds)]
def rdA (X : Cx) (I : Hp → PyData → V → Prop) (f : Rho → R (List PyData)) : TA := fun σ H Q => ∃ ρ, Sl H σ ρ ∧ match f ρ with
  | .ok ds => ∀ vs H', Same H H' → RA I H' ds vs → Q vs H'
  | .ex c => Xw X c H
  | .no => False
def EvA (X : Cx) (es : List Expr) (f : Rho → R (List PyData)) : Prop := PA X es (rdA X Rp f)
structure Z.EvA (X : Cx) (es : List Expr) (f : Rho → R (List PyData)) : Prop where
  un : D2.EvA X es f
def EvAB (X : Cx) (es : List Expr) (f : Rho → R (List PyData)) : Prop := PA X es (rdA X BRp f)
def rdT (X : Cx) (f : Rho → R Bool) : TT := fun σ H Q => ∃ ρ, Sl H σ ρ ∧ match f ρ with
  | .ok b => ∀ H', Same H H' → Q b H'
  | .ex c => Xw X c H
  | .no => False
def EvT (X : Cx) (e : Expr) (f : Rho → R Bool) : Prop := PT X e (rdT X f)
structure Z.EvT (X : Cx) (e : Expr) (f : Rho → R Bool) : Prop where
  un : D2.EvT X e f
def EvW (X : Cx) (e : Expr) (f : Rho → R Bool) : Prop := PW X e (rdT X f)
structure Z.EvW (X : Cx) (e : Expr) (f : Rho → R Bool) : Prop where
  un : D2.EvW X e f
theorem PE.imp {X : Cx} {e : Expr} {t t' : TE} (h : PE X e t) (i : ∀ σ H Q, t' σ H Q → t σ H Q) : PE X e t' := fun pins s σ H Q I q => h pins s σ H Q I (i σ H Q q)
theorem PT.imp {X : Cx} {e : Expr} {t t' : TT} (h : PT X e t) (i : ∀ σ H Q, t' σ H Q → t σ H Q) : PT X e t' := fun pins s σ H Q I q => h pins s σ H Q I (i σ H Q q)
theorem PW.imp {X : Cx} {e : Expr} {t t' : TT} (h : PW X e t) (i : ∀ σ H Q, t' σ H Q → t σ H Q) : PW X e t' := fun wh pins s σ H Q I q => h wh pins s σ H Q I (i σ H Q q)
theorem PA.imp {X : Cx} {e : List Expr} {t t' : TA} (h : PA X e t) (i : ∀ σ H Q, t' σ H Q → t σ H Q) : PA X e t' := fun pos pins s σ H Q I q => h pos pins s σ H Q I (i σ H Q q)
theorem rdE.post {X : Cx} {P : Hp → Hp → PyData → V → Prop} {f : Fe} {σ : St} {H : Hp} {Q Q' : VK} (h : rdE X P f σ H Q) (i : ∀ v H', Q v H' → Q' v H') : rdE X P f σ H Q' := by
  obtain ⟨ρ, sl, q⟩ := h
  refine ⟨ρ, sl, ?_⟩
  cases e : f ρ with
  | ok d => rw [e] at q; exact fun v H' s p => i _ _ (q v H' s p)
  | ex c => rw [e] at q; exact q
  | no => rw [e] at q; exact q
theorem rdT.post {X : Cx} {f : Rho → R Bool} {σ : St} {H : Hp} {Q Q' : Bool → Hp → Prop} (h : rdT X f σ H Q) (i : ∀ b H', Q b H' → Q' b H') : rdT X f σ H Q' := by
  obtain ⟨ρ, sl, q⟩ := h
  refine ⟨ρ, sl, ?_⟩
  cases e : f ρ with
  | ok d => rw [e] at q; exact fun H' s => i _ _ (q H' s)
  | ex c => rw [e] at q; exact q
  | no => rw [e] at q; exact q
theorem rdA.post {X : Cx} {I : Hp → PyData → V → Prop} {f : Rho → R (List PyData)} {σ : St} {H : Hp} {Q Q' : List V → Hp → Prop} (h : rdA X I f σ H Q) (i : ∀ vs H', Q vs H' → Q' vs H') : rdA X I f σ H Q' := by
  obtain ⟨ρ, sl, q⟩ := h
  refine ⟨ρ, sl, ?_⟩
  cases e : f ρ with
  | ok d => rw [e] at q; exact fun vs H' s p => i _ _ (q vs H' s p)
  | ex c => rw [e] at q; exact q
  | no => rw [e] at q; exact q
theorem rdE.weaken {X : Cx} {P P' : Hp → Hp → PyData → V → Prop} {f : Fe} (h : ∀ H H' d v, P H H' d v → P' H H' d v) (σ : St) (H : Hp) (Q : VK) (q : rdE X P' f σ H Q) : rdE X P f σ H Q := by
  obtain ⟨ρ, sl, q⟩ := q
  refine ⟨ρ, sl, ?_⟩
  cases e : f ρ with
  | ok d => rw [e] at q; exact fun v H' s p => q v H' s (h _ _ _ _ p)
  | ex c => rw [e] at q; exact q
  | no => rw [e] at q; exact q
section
variable {X : Cx} {e : Expr} {f : Fe}
theorem EvE.b (h : EvE X e f) : EvB X e f := PE.imp h (rdE.weaken fun _ _ _ _ p => Or.inl p)
theorem Z.EvE.b (h : Z.EvE X e f) : Z.EvB X e f :=
  ⟨D2.EvE.b h.un⟩
theorem EvN.b (h : EvN X e f) : EvB X e f := PE.imp h (rdE.weaken fun _ _ _ _ p => Or.inr p.1)
theorem Z.EvN.b (h : Z.EvN X e f) : Z.EvB X e f :=
  ⟨D2.EvN.b h.un⟩
theorem EvN.toF (h : EvN X e f) : EvF X e f := PE.imp h (rdE.weaken fun _ _ _ _ p => Or.inr p)
end
section
variable {X : Cx} {pins : List (Addr × Obj)} {σ : St} {H : Hp} {s : Shared} {a : Addr} {u : HO}
theorem inv_freeze (I : Inv X pins σ H s) (h : H a = some u) (hm : (∃ xs, u = .lst xs) ∨ ∃ ks, u = .dK ks) : ∃ o, Inv X pins σ (upd H a (.frz o u)) s := by
  have ob := I.hok a u h
  have hg : ∃ o, s.heap.get? a = some o := by
    rcases hm with ⟨xs, rfl⟩ | ⟨ks, rfl⟩
    · obtain ⟨_, _, _, _, e⟩ := ob; exact ⟨_, e⟩
    · obtain ⟨_, _, _, _, o, _, _, e, _⟩ := ob; exact ⟨_, e⟩
  obtain ⟨o, hg⟩ := hg
  have nt : ∀ b xs, H b = some (.tup xs) → b ≠ a := fun b xs q z => by subst z; rw [h] at q; rcases hm with ⟨_, rfl⟩ | ⟨_, rfl⟩ <;> cases q
  have nf : ∀ b o' u', H b = some (.frz o' u') → b ≠ a := fun b o' u' q z => by subst z; rw [h] at q; rcases hm with ⟨_, rfl⟩ | ⟨_, rfl⟩ <;> cases q
  have nb : ∀ b ps, H b = some (.tbl ps) → b ≠ a := fun b ps q z => by subst z; rw [h] at q; rcases hm with ⟨_, rfl⟩ | ⟨_, rfl⟩ <;> cases q
  have nw : ∀ b y, H b = some (.own y) → b ≠ a := fun b y q z => by subst z; rw [h] at q; rcases hm with ⟨_, rfl⟩ | ⟨_, rfl⟩ <;> cases q
  have nn : ∀ b, H b = none → b ≠ a := fun b q z => by subst z; rw [h] at q; cases q
  have st : ∀ b x, ObjOk X.prog X.w H s.heap b x → ObjOk X.prog X.w (upd H a (.frz o u)) s.heap b x := fun b x q =>
    q.stay (fun c v _ e => e) (fun c e => by rw [upd_ne (nw _ _ e)]; exact e) fun c xs e => by rw [upd_ne (nt _ _ e)]; exact e
  refine ⟨o, ⟨I.ok, I.os, I.bare, ⟨I.base.keep, I.base.slot, fun b ob' e n hx => ?_, I.base.there, fun b xs e => ?_, fun b ob' v e => ?_, fun b ps e => ?_⟩, I.loc, I.cell, ?_, fun x c e => ?_, fun p hp => ?_, fun b x e => ?_, I.len⟩⟩
  · have := I.base.free b ob' e n hx
    rw [upd_ne (nn _ this)]; exact this
  · have := I.base.tups b xs e
    rw [upd_ne (nt _ _ this)]; exact this
  · have := I.base.frzs b ob' v e
    rw [upd_ne (nf _ _ _ this)]; exact this
  · obtain ⟨m, q⟩ := I.base.tbls b ps e
    exact ⟨m, by rw [upd_ne (nb _ _ q)]; exact q⟩
  · rw [upd_ne (nn _ I.free)]; exact I.free
  · rw [upd_ne (nn _ (I.freeC x c e))]; exact I.freeC x c e
  · obtain ⟨p1, p2, p3⟩ := I.pin p hp
    exact ⟨p1, by rw [upd_ne (nn _ p2)]; exact p2, p3⟩
  · by_cases hb : b = a
    · subst hb
      rw [upd_same] at e; cases e
      exact ⟨hg, st b u ob⟩
    · rw [upd_ne hb] at e
      exact st b x (I.hok b x e)
theorem kp_upd {o' : HO} (h : H a = some u) (hm : (∃ xs, u = .lst xs) ∨ ∃ ks, u = .dK ks) : Kp H (upd H a o') := by
  refine ⟨fun b xs e => ?_, fun b o v e => ?_⟩
  · rw [upd_ne]; exact e
    rintro rfl; rw [h] at e; rcases hm with ⟨_, rfl⟩ | ⟨_, rfl⟩ <;> cases e
  · rw [upd_ne]; exact e
    rintro rfl; rw [h] at e; rcases hm with ⟨_, rfl⟩ | ⟨_, rfl⟩ <;> cases e
theorem inv_fz {H0 : Hp} {d : PyData} {v : V} (I : Inv X pins σ H s) (hs : Same H0 H) (n : NRp H0 H d v) : ∃ H', Inv X pins σ H' s ∧ Same H0 H' ∧ Rp H' d v := by
  obtain ⟨n, a, rfl, h0⟩ := n
  have go : ∀ u : HO, H a = some u → ((∃ xs, u = .lst xs) ∨ ∃ ks, u = .dK ks) → ∃ o, Inv X pins σ (upd H a (.frz o u)) s ∧ Same H0 (upd H a (.frz o u)) ∧ Kp H (upd H a (.frz o u)) := fun u hu hm => by
    obtain ⟨o, J⟩ := inv_freeze I hu hm
    refine ⟨o, J, fun b x e => ?_, kp_upd hu hm⟩
    rw [upd_ne (ne_of_none e h0)]; exact hs b x e
  cases d <;> simp only [ORp] at n
  · obtain ⟨a', vs, e, ha, r⟩ := n
    cases e
    obtain ⟨o, J, S, K⟩ := go _ ha (.inl ⟨_, rfl⟩)
    refine ⟨_, J, S, ?_⟩
    simp only [Rp]
    exact ⟨a, o, vs, rfl, upd_same, RpA.kp K _ _ r⟩
  · obtain ⟨a', vs, e, ha, r⟩ := n
    cases e
    obtain ⟨o, J, S, K⟩ := go _ ha (.inr ⟨_, rfl⟩)
    refine ⟨_, J, S, ?_⟩
    simp only [Rp]
    exact .inl ⟨a, o, vs, rfl, upd_same, RpK.kp K _ _ r⟩
end
theorem EvF.e {X : Cx} {e : Expr} {f : Fe} (h : EvF X e f) : EvE X e f := by
  intro pins s σ H Q I q
  obtain ⟨ρ, sl, q⟩ := q
  cases ef : f ρ with
  | ok d =>
    rw [ef] at q
    refine thn (h pins s σ H (fun v H' => Same H H' ∧ PFp H H' d v) I ⟨ρ, sl, by rw [ef]; exact fun v H' hs p => ⟨hs, p⟩⟩) fun u s' ⟨v, H', I', r, hs, p⟩ => ?_
    rcases p with p | p
    · exact ⟨v, H', I', r, q v H' hs p⟩
    · obtain ⟨H2, I2, S2, p2⟩ := inv_fz I' hs p
      exact ⟨v, H2, I2, r, q v H2 S2 p2⟩
  | ex c => rw [ef] at q; exact thn (h pins s σ H (fun _ _ => False) I ⟨ρ, sl, by rw [ef]; exact q⟩) fun u s' ⟨v, H', I', r, z⟩ => z.elim
  | no => rw [ef] at q; exact q.elim
theorem Z.EvF.e {X : Cx} {e : Expr} {f : Fe} (h : Z.EvF X e f) : Z.EvE X e f :=
  ⟨D2.EvF.e h.un⟩
theorem EvN.e {X : Cx} {e : Expr} {f : Fe} (h : EvN X e f) : EvE X e f := (EvN.toF h).e
theorem Z.EvN.e {X : Cx} {e : Expr} {f : Fe} (h : Z.EvN X e f) : Z.EvE X e f :=
  ⟨D2.EvN.e h.un⟩
end D2
set_option Elab.async false
set_option linter.all false
set_option maxRecDepth 100000
set_option maxHeartbeats 4000000
namespace D2
open PySem PySem.Spec PyProof.Rows L2
structure Tgt {β : Type} (X : Cx) (T : R β → Hp → Prop) : Prop where
  mono : ∀ r H H', T r H → Same H H' → T r H'
  ex : ∀ c H, T (.ex c) H → Xw X c H
  no : ∀ H, ¬ T .no H
def Dn (P : Hp → Hp → PyData → V → Prop) : Prop := ∀ H H1 H' d v, Same H H1 → P H1 H' d v → P H H' d v
theorem dn_r : Dn PRp := fun _ _ _ _ _ _ p => p
theorem dn_n : Dn NRp := fun _ _ _ _ _ s p => ⟨p.1, let ⟨a, e, h⟩ := p.2; ⟨a, e, s.free h⟩⟩
theorem dn_f : Dn PFp := fun _ _ _ _ _ s p => p.elim .inl fun p => .inr (dn_n _ _ _ _ _ s p)
section
variable {X : Cx} {σ : St} {H : Hp}
theorem tgt_r {P : Hp → Hp → PyData → V → Prop} (hP : Dn P) (Q : VK) : Tgt X (fun r H => rdR X P r H Q) where
  mono := fun r H H' h s => by
    cases r with
    | ok d => exact fun v H2 s2 p => h v H2 (s.trans s2) (hP _ _ _ _ _ s p)
    | ex c => exact Xw.mono h s
    | no => exact h
  ex := fun c H h => h
  no := fun H h => h
theorem tgt_t (Q : Bool → Hp → Prop) : Tgt X (fun (r : R Bool) H => match r with | .ok b => ∀ H', Same H H' → Q b H' | .ex c => Xw X c H | .no => False) where
  mono := fun r H H' h s => by
    cases r with
    | ok d => exact fun H2 s2 => h H2 (s.trans s2)
    | ex c => exact Xw.mono h s
    | no => exact h
  ex := fun c H h => h
  no := fun H h => h
theorem tgt_a (I : Hp → PyData → V → Prop) (Q : List V → Hp → Prop) : Tgt X (fun (r : R (List PyData)) H => match r with | .ok ds => ∀ vs H', Same H H' → RA I H' ds vs → Q vs H' | .ex c => Xw X c H | .no => False) where
  mono := fun r H H' h s => by
    cases r with
    | ok d => exact fun vs H2 s2 => h vs H2 (s.trans s2)
    | ex c => exact Xw.mono h s
    | no => exact h
  ex := fun c H h => h
  no := fun H h => h
theorem bind_e {β : Type} {T : R β → Hp → Prop} (t : Tgt X T) {P : Hp → Hp → PyData → V → Prop} {f : Fe} {k : Rho → PyData → R β} (h : ∃ ρ, Sl H σ ρ ∧ T (f ρ >>= k ρ) H) :
    rdE X P f σ H (fun v H1 => ∃ ρ d, Sl H1 σ ρ ∧ Same H H1 ∧ P H H1 d v ∧ T (k ρ d) H1) := by
  obtain ⟨ρ, sl, q⟩ := h
  refine ⟨ρ, sl, ?_⟩
  cases e : f ρ with
  | ok d => rw [e] at q; exact fun v H1 s p => ⟨ρ, d, sl.mono s, s, p, t.mono _ _ _ q s⟩
  | ex c => rw [e] at q; exact t.ex _ _ q
  | no => rw [e] at q; exact (t.no _ q).elim
theorem bind_t {β : Type} {T : R β → Hp → Prop} (t : Tgt X T) {f : Rho → R Bool} {k : Rho → Bool → R β} (h : ∃ ρ, Sl H σ ρ ∧ T (f ρ >>= k ρ) H) :
    rdT X f σ H (fun b H1 => ∃ ρ, Sl H1 σ ρ ∧ Same H H1 ∧ T (k ρ b) H1) := by
  obtain ⟨ρ, sl, q⟩ := h
  refine ⟨ρ, sl, ?_⟩
  cases e : f ρ with
  | ok d => rw [e] at q; exact fun H1 s => ⟨ρ, sl.mono s, s, t.mono _ _ _ q s⟩
  | ex c => rw [e] at q; exact t.ex _ _ q
  | no => rw [e] at q; exact (t.no _ q).elim
theorem bind_a {β : Type} {T : R β → Hp → Prop} (t : Tgt X T) {I : Hp → PyData → V → Prop} {f : Rho → R (List PyData)} {k : Rho → List PyData → R β} (h : ∃ ρ, Sl H σ ρ ∧ T (f ρ >>= k ρ) H) :
    rdA X I f σ H (fun vs H1 => ∃ ρ ds, Sl H1 σ ρ ∧ Same H H1 ∧ RA I H1 ds vs ∧ T (k ρ ds) H1) := by
  obtain ⟨ρ, sl, q⟩ := h
  refine ⟨ρ, sl, ?_⟩
  cases e : f ρ with
  | ok d => rw [e] at q; exact fun vs H1 s p => ⟨ρ, d, sl.mono s, s, p, t.mono _ _ _ q s⟩
  | ex c => rw [e] at q; exact t.ex _ _ q
  | no => rw [e] at q; exact (t.no _ q).elim
end
def eVar (i : Nat) : Fe := fun ρ => match ρ[i]? with
  | some (.val d) => .ok d
  | _ => .no
def eVarB (i : Nat) : Fe := fun ρ => match ρ[i]? with
  | some (.val d) => .ok d
  | some (.own d) => .ok d
  | _ => .no
def eC (d : PyData) : Fe := fun _ => .ok d
structure Tb (X : Cx) (nl : Nat) (G : List Str) : Prop where
  hu : X.A.units + 64 < cLine
  calm : X.calm = true
  nd : X.N.Nodup
  vis : ∀ x ∈ X.N, Vis X.env.scope x ∧ (x == ("__debug__" : Str)) = false ∧ (x == ("__classdict__" : Str)) = false
  loc : ∀ x ∈ X.N.take nl, Loc X.env.scope x ∧ (X.fn x = true ∨ X.env.scope.names.lookup x = some .local)
  gl : ∀ x ∈ G, Gl X x ∧ (x == ("__debug__" : Str)) = false ∧ x ≠ ("__name__" : Str)
section
variable {X : Cx} {nl : Nat} {G : List Str} {x : Str} {pos : Pos}
theorem Sl.at {H : Hp} {σ : St} {ρ : Rho} {i : Nat} {c : Cell} (h : Sl H σ ρ) (e : ρ[i]? = some c) : ∃ o, σ[i]? = some o ∧ CellOk H c o := by
  have hi : i < σ.length := by rw [h.1]; exact (List.getElem?_eq_some_iff.mp e).1
  exact ⟨σ[i], List.getElem?_eq_getElem hi, h.2 i c _ e (List.getElem?_eq_getElem hi)⟩
theorem ev_name (T : Tb X nl G) (i : Nat) (hN : X.N[i]? = some x) : EvE X (.Name x pos) (eVar i) := by
  have hm := T.vis x (List.mem_of_getElem? hN)
  refine PE.imp (pe_var hN hm.1 hm.2.1 hm.2.2) fun σ H Q ⟨ρ, sl, q⟩ => ?_
  unfold eVar at q
  split at q
  · rename_i d e
    obtain ⟨o, h1, v, rfl, h2⟩ := sl.at e
    exact ⟨v, h1, q v H (Same.refl H) h2⟩
  · exact q.elim
theorem Z.ev_name (T : Tb X nl G) (i : Nat) (hN : X.N[i]? = some x) : Z.EvE X (.Name x pos) (eVar i) :=
  ⟨D2.ev_name T i hN⟩
theorem evb_name (T : Tb X nl G) (i : Nat) (hN : X.N[i]? = some x) : EvB X (.Name x pos) (eVarB i) := by
  have hm := T.vis x (List.mem_of_getElem? hN)
  refine PE.imp (pe_var hN hm.1 hm.2.1 hm.2.2) fun σ H Q ⟨ρ, sl, q⟩ => ?_
  unfold eVarB at q
  split at q
  · rename_i d e
    obtain ⟨o, h1, v, rfl, h2⟩ := sl.at e
    exact ⟨v, h1, q v H (Same.refl H) (.inl h2)⟩
  · rename_i d e
    obtain ⟨o, h1, v, rfl, h2⟩ := sl.at e
    exact ⟨v, h1, q v H (Same.refl H) (.inr h2)⟩
  · exact q.elim
theorem Z.evb_name (T : Tb X nl G) (i : Nat) (hN : X.N[i]? = some x) : Z.EvB X (.Name x pos) (eVarB i) :=
  ⟨D2.evb_name T i hN⟩
theorem ev_con {e : Expr} {d : PyData} {v : V} (h : PE X e (tC v)) (r : ∀ H, Rp H d v) : EvE X e (eC d) :=
  PE.imp h fun σ H Q ⟨ρ, sl, q⟩ => q v H (Same.refl H) (r H)
theorem ev_int {i j} : EvE X (.Constant (.int i) j pos) (eC (.int i)) := ev_con pe_int fun H => by simp only [Rp]
theorem Z.ev_int {i j} : Z.EvE X (.Constant (.int i) j pos) (eC (.int i)) :=
  ⟨D2.ev_int⟩
theorem ev_bool {b j} : EvE X (.Constant (.bool b) j pos) (eC (.bool b)) := ev_con pe_bl fun H => by simp only [Rp]
theorem Z.ev_bool {b j} : Z.EvE X (.Constant (.bool b) j pos) (eC (.bool b)) :=
  ⟨D2.ev_bool⟩
theorem ev_none {j} : EvE X (.Constant .none j pos) (eC .none) := ev_con pe_non fun H => by simp only [Rp]
theorem Z.ev_none {j} : Z.EvE X (.Constant .none j pos) (eC .none) :=
  ⟨D2.ev_none⟩
theorem ev_str {y j} : EvE X (.Constant (.str y) j pos) (eC (.str y)) := ev_con pe_str fun H => by simp only [Rp]
theorem Z.ev_str {y j} : Z.EvE X (.Constant (.str y) j pos) (eC (.str y)) :=
  ⟨D2.ev_str⟩
theorem ev_gint {i : Int} {t : Tok} (T : Tb X nl G) (j : Nat) (hG : G[j]? = some x) (hm : X.mg x = some (.int i t)) : EvE X (.Name x pos) (eC (.int i)) := by
  have g := T.gl x (List.mem_of_getElem? hG)
  exact ev_con (pe_glob g.1 hm (v := .int i) ⟨t, rfl⟩ g.2.1) fun H => by simp only [Rp]
theorem Z.ev_gint {i : Int} {t : Tok} (T : Tb X nl G) (j : Nat) (hG : G[j]? = some x) (hm : X.mg x = some (.int i t)) : Z.EvE X (.Name x pos) (eC (.int i)) :=
  ⟨D2.ev_gint T j hG hm⟩
end
section
variable {X : Cx} {a b c : Expr} {fa fb fc : Fe} {pos : Pos}
def e2 (g : PyData → PyData → R PyData) (fa fb : Fe) : Fe := fun ρ => fa ρ >>= fun x => fb ρ >>= fun y => g x y
def e1 (g : PyData → R PyData) (fa : Fe) : Fe := fun ρ => fa ρ >>= fun x => g x
def Serves2 (X : Cx) (P : Hp → Hp → PyData → V → Prop) (r : R2) (g : PyData → PyData → R PyData) : Prop :=
  ∀ H x y dx dy Q, BRp H dx x → BRp H dy y → rdR X P (g dx dy) H Q → r x y H Q
theorem two {P : Hp → Hp → PyData → V → Prop} {r : R2} {g : PyData → PyData → R PyData} (hP : Dn P) (hg : Serves2 X P r g) (σ : St) (H : Hp) (Q : VK) (h : rdE X P (e2 g fa fb) σ H Q) :
    tOp r (rdE X PBp fa) (rdE X PBp fb) σ H Q :=
  (bind_e (P := PBp) (tgt_r (X := X) hP Q) h).post fun v H1 ⟨ρ1, d1, sl1, _, p1, q1⟩ =>
    (bind_e (P := PBp) (f := fb) (k := fun _ y => g d1 y) (tgt_r (X := X) hP Q) ⟨ρ1, sl1, q1⟩).post fun u H2 ⟨_, d2, _, s2, p2, q2⟩ => hg H2 v u d1 d2 Q (BRp.mono p1 s2) p2 q2
theorem ev_bin {op : Operator} {P : Hp → Hp → PyData → V → Prop} {r : R2} {g : PyData → PyData → R PyData} (hP : Dn P) (ho : OpR X (binaryOp op) r) (hg : Serves2 X P r g) (ha : EvB X a fa) (hb : EvB X b fb) :
    PE X (.BinOp a op b pos) (rdE X P (e2 g fa fb)) := PE.imp (pe_op ho ha hb) (two hP hg)
theorem ev_cmp {op : CmpOp} {r : R2} {g : PyData → PyData → R PyData} (ho : OpR X (compareOp op) r) (hg : Serves2 X PRp r g) (ha : EvB X a fa) (hb : EvB X b fb) (hm : behindInMarks op b = false) :
    EvE X (.Compare a [op] [b] pos) (e2 g fa fb) := PE.imp (pe_cmpR ho ha hb hm) (two dn_r hg)
end
def asB : PyData → R Bool
  | .bool b => .ok b
  | _ => .no
def tE (f : Fe) : Rho → R Bool := fun ρ => f ρ >>= asB
theorem rd_test {X : Cx} {f : Fe} {σ : St} {H : Hp} {Q : Bool → Hp → Prop} (h : rdT X (tE f) σ H Q) : rdE X PRp f σ H (fun x H' => ∃ k, x = .bl k ∧ Q k H') :=
  (bind_e (P := PRp) (f := f) (k := fun _ => asB) (tgt_t (X := X) Q) h).post fun v H1 ⟨ρ1, d1, _, _, p1, q1⟩ => by
    cases d1 with
    | bool b =>
      have p2 : v = .bl b := by simpa only [Rp] using p1
      exact ⟨b, p2, q1 H1 (Same.refl _)⟩
    | _ => exact q1.elim
section
variable {X : Cx} {a b c : Expr} {fa fb fc : Fe} {pos : Pos}
theorem evt_cmp {op : CmpOp} {r : R2} {g : PyData → PyData → R PyData} (ho : OpR X (compareOp op) r) (hg : Serves2 X PRp r g) (ha : EvB X a fa) (hb : EvB X b fb) (hm : behindInMarks op b = false) :
    EvT X (.Compare a [op] [b] pos) (tE (e2 g fa fb)) :=
  PT.imp (pt_cmpR ho ha hb hm) fun σ H Q h => two dn_r hg σ H _ (rd_test h)
theorem evt_val {e : Expr} {f : Fe} (h : EvE X e f) (he : ∀ whole, isTrue e X.env whole = (do let v ← whole; standAt e.pos; holding [v] (truthy v)) := by intro _; rfl) : EvT X e (tE f) :=
  PT.imp (pt_val h he) fun σ H Q h => rd_test h
theorem Z.evt_val {e : Expr} {f : Fe} (h : Z.EvE X e f) (he : ∀ whole, isTrue e X.env whole = (do let v ← whole; standAt e.pos; holding [v] (truthy v)) := by intro _; rfl) : Z.EvT X e (tE f) :=
  ⟨D2.evt_val h.un he⟩
def tAndR (f g : Rho → R Bool) : Rho → R Bool := fun ρ => f ρ >>= fun b => if b = true then g ρ else .ok false
def tOrR (f g : Rho → R Bool) : Rho → R Bool := fun ρ => f ρ >>= fun b => if b = true then .ok true else g ρ
def tNotR (f : Rho → R Bool) : Rho → R Bool := fun ρ => f ρ >>= fun b => .ok (!b)
variable {ga gb : Rho → R Bool} {rest : List Expr}
theorem evw_and1 (ha : EvT X a ga) : EvW X (.BoolOp .And [a] pos) ga := pw_and1 ha
theorem Z.evw_and1 (ha : Z.EvT X a ga) : Z.EvW X (.BoolOp .And [a] pos) ga :=
  ⟨D2.evw_and1 ha.un⟩
theorem evw_or1 (ha : EvT X a ga) : EvW X (.BoolOp .Or [a] pos) ga := pw_or1 ha
theorem Z.evw_or1 (ha : Z.EvT X a ga) : Z.EvW X (.BoolOp .Or [a] pos) ga :=
  ⟨D2.evw_or1 ha.un⟩
theorem evw_and (ha : EvT X a ga) (hb : EvW X (.BoolOp .And (b :: rest) pos) gb) : EvW X (.BoolOp .And (a :: b :: rest) pos) (tAndR ga gb) :=
  PW.imp (pw_and ha hb) fun σ H Q h => (bind_t (f := ga) (k := fun ρ b => if b = true then gb ρ else .ok false) (tgt_t (X := X) Q) h).post fun d H1 ⟨ρ1, sl1, _, q1⟩ => by
    cases d with
    | true => exact ⟨ρ1, sl1, q1⟩
    | false => exact q1 H1 (Same.refl _)
theorem Z.evw_and (ha : Z.EvT X a ga) (hb : Z.EvW X (.BoolOp .And (b :: rest) pos) gb) : Z.EvW X (.BoolOp .And (a :: b :: rest) pos) (tAndR ga gb) :=
  ⟨D2.evw_and ha.un hb.un⟩
theorem evw_or (ha : EvT X a ga) (hb : EvW X (.BoolOp .Or (b :: rest) pos) gb) : EvW X (.BoolOp .Or (a :: b :: rest) pos) (tOrR ga gb) :=
  PW.imp (pw_or ha hb) fun σ H Q h => (bind_t (f := ga) (k := fun ρ b => if b = true then .ok true else gb ρ) (tgt_t (X := X) Q) h).post fun d H1 ⟨ρ1, sl1, _, q1⟩ => by
    cases d with
    | false => exact ⟨ρ1, sl1, q1⟩
    | true => exact q1 H1 (Same.refl _)
theorem Z.evw_or (ha : Z.EvT X a ga) (hb : Z.EvW X (.BoolOp .Or (b :: rest) pos) gb) : Z.EvW X (.BoolOp .Or (a :: b :: rest) pos) (tOrR ga gb) :=
  ⟨D2.evw_or ha.un hb.un⟩
theorem EvW.t {e : Expr} (h : EvW X e ga) : EvT X e ga := PW.pt h
theorem Z.EvW.t {e : Expr} (h : Z.EvW X e ga) : Z.EvT X e ga :=
  ⟨D2.EvW.t h.un⟩
theorem evt_not (ha : EvT X a ga) : EvT X (.UnaryOp .Not a pos) (tNotR ga) :=
  PT.imp (pt_not ha) fun σ H Q h => (bind_t (f := ga) (k := fun _ b => .ok (!b)) (tgt_t (X := X) Q) h).post fun d H1 ⟨ρ1, sl1, _, q1⟩ => q1 H1 (Same.refl _)
theorem Z.evt_not (ha : Z.EvT X a ga) : Z.EvT X (.UnaryOp .Not a pos) (tNotR ga) :=
  ⟨D2.evt_not ha.un⟩
def eAnd (f g : Fe) : Fe := fun ρ => f ρ >>= fun d => asB d >>= fun b => if b = true then g ρ else .ok (.bool false)
def eNot (f : Fe) : Fe := fun ρ => f ρ >>= fun d => asB d >>= fun b => .ok (.bool (!b))
theorem rd_bool {k : Rho → Bool → R PyData} {f : Fe} {σ : St} {H : Hp} {Q : VK} (h : rdE X PRp (fun ρ => f ρ >>= fun d => asB d >>= fun b => k ρ b) σ H Q) :
    rdE X PRp f σ H (fun x H' => ∃ c, x = .bl c ∧ rdE X PRp (fun ρ => k ρ c) σ H' Q) :=
  (bind_e (P := PRp) (f := f) (k := fun ρ d => asB d >>= fun b => k ρ b) (tgt_r (X := X) dn_r Q) h).post fun v H1 ⟨ρ1, d1, sl1, _, p1, q1⟩ => by
    cases d1 with
    | bool b =>
      have p2 : v = .bl b := by simpa only [Rp] using p1
      exact ⟨b, p2, ρ1, sl1, q1⟩
    | _ => exact q1.elim
theorem ev_one {op} (h : EvE X a fa) : EvE X (.BoolOp op [a] pos) fa := pe_one h
theorem Z.ev_one {op} (h : Z.EvE X a fa) : Z.EvE X (.BoolOp op [a] pos) fa :=
  ⟨D2.ev_one h.un⟩
theorem ev_and (ha : EvE X a fa) (hb : EvE X (.BoolOp .And (b :: rest) pos) fb) : EvE X (.BoolOp .And (a :: b :: rest) pos) (eAnd fa fb) :=
  PE.imp (pe_and ha hb) fun σ H Q h => (rd_bool (k := fun ρ b => if b = true then fb ρ else .ok (.bool false)) h).post fun v H1 ⟨c, e1, q1⟩ => by
    refine ⟨c, e1, ?_⟩
    cases c with
    | true => exact q1
    | false =>
      obtain ⟨_, _, q2⟩ := q1
      exact q2 _ H1 (Same.refl _) (by simp only [Rp])
theorem Z.ev_and (ha : Z.EvE X a fa) (hb : Z.EvE X (.BoolOp .And (b :: rest) pos) fb) : Z.EvE X (.BoolOp .And (a :: b :: rest) pos) (eAnd fa fb) :=
  ⟨D2.ev_and ha.un hb.un⟩
theorem ev_not (ha : EvE X a fa) : EvE X (.UnaryOp .Not a pos) (eNot fa) :=
  PE.imp (pe_not ha) fun σ H Q h => (rd_bool (k := fun ρ b => .ok (.bool (!b))) h).post fun v H1 ⟨c, e1, _, _, q2⟩ => ⟨c, e1, q2 _ H1 (Same.refl _) (by simp only [Rp])⟩
theorem Z.ev_not (ha : Z.EvE X a fa) : Z.EvE X (.UnaryOp .Not a pos) (eNot fa) :=
  ⟨D2.ev_not ha.un⟩
def eIf (t : Rho → R Bool) (f g : Fe) : Fe := fun ρ => t ρ >>= fun b => if b = true then f ρ else g ρ
theorem ev_ifExp {e : Expr} (hc : EvT X e ga) (ha : EvE X a fa) (hb : EvE X b fb) : EvE X (.IfExp e a b pos) (eIf ga fa fb) :=
  PE.imp (pe_ifExp hc ha hb) fun σ H Q h => (bind_t (f := ga) (k := fun ρ b => if b = true then fa ρ else fb ρ) (tgt_r (X := X) dn_r Q) h).post fun d H1 ⟨ρ1, sl1, _, q1⟩ => by
    cases d with
    | true => exact ⟨ρ1, sl1, q1⟩
    | false => exact ⟨ρ1, sl1, q1⟩
theorem Z.ev_ifExp {e : Expr} (hc : Z.EvT X e ga) (ha : Z.EvE X a fa) (hb : Z.EvE X b fb) : Z.EvE X (.IfExp e a b pos) (eIf ga fa fb) :=
  ⟨D2.ev_ifExp hc.un ha.un hb.un⟩
end
def notStar : Expr → Bool
  | .Starred .. => false
  | _ => true
theorem star_cons {e : Expr} {es : List Expr} {env : Env} (h : notStar e = true) : starEach (e :: es) env = (false, eval e env) :: starEach es env := by
  cases e <;> first | rfl | (cases h)
theorem star_any {es : List Expr} {env : Env} {pos : Pos} (h : es.all notStar = true) : (backTo pos (starEach es env)).any (·.1) = false := by
  induction es with
  | nil => rfl
  | cons e es ih =>
    rw [List.all_cons, Bool.and_eq_true] at h
    rw [star_cons h.1]
    have := ih h.2
    simpa [backTo] using this
def aNil : Rho → R (List PyData) := fun _ => .ok []
def aCons (f : Fe) (g : Rho → R (List PyData)) : Rho → R (List PyData) := fun ρ => f ρ >>= fun d => g ρ >>= fun ds => .ok (d :: ds)
section
variable {X : Cx} {e : Expr} {es : List Expr} {f : Fe} {g : Rho → R (List PyData)}
theorem ea_nilG {I : Hp → PyData → V → Prop} : PA X [] (rdA X I aNil) := PA.imp pa_nil fun σ H Q ⟨ρ, sl, q⟩ => q [] H (Same.refl _) (by simp only [RA])
theorem ea_nil : EvA X [] aNil := ea_nilG
theorem Z.ea_nil  : Z.EvA X [] aNil :=
  ⟨D2.ea_nil⟩
theorem eb_nil : EvAB X [] aNil := ea_nilG
theorem ea_consG {I : Hp → PyData → V → Prop} (hI : ∀ H H' d v, I H d v → Same H H' → I H' d v) (ha : PE X e (rdE X (fun _ H' d v => I H' d v) f)) (hr : PA X es (rdA X I g))
    (hs : starEach (e :: es) X.env = (false, eval e X.env) :: starEach es X.env := by rfl) : PA X (e :: es) (rdA X I (aCons f g)) :=
  PA.imp (pa_cons ha hr hs) fun σ H Q h =>
    (bind_e (P := fun _ H' d v => I H' d v) (f := f) (k := fun ρ d => g ρ >>= fun ds => .ok (d :: ds)) (tgt_a (X := X) I Q) h).post fun v H1 ⟨ρ1, d1, sl1, _, p1, q1⟩ =>
      (bind_a (I := I) (f := g) (k := fun _ ds => .ok (d1 :: ds)) (tgt_a (X := X) I Q) ⟨ρ1, sl1, q1⟩).post fun vs H2 ⟨_, ds1, _, s2, p3, q3⟩ =>
        q3 (v :: vs) H2 (Same.refl _) (by simp only [RA]; exact ⟨v, vs, rfl, hI _ _ _ _ p1 s2, p3⟩)
theorem ea_cons (ha : EvE X e f) (hr : EvA X es g) (hs : notStar e = true := by rfl) : EvA X (e :: es) (aCons f g) := ea_consG (fun _ _ _ _ h s => h.mono s) ha hr (star_cons hs)
theorem Z.ea_cons (ha : Z.EvE X e f) (hr : Z.EvA X es g) (hs : notStar e = true := by rfl) : Z.EvA X (e :: es) (aCons f g) :=
  ⟨D2.ea_cons ha.un hr.un hs⟩
theorem eb_cons (ha : EvB X e f) (hr : EvAB X es g) (hs : notStar e = true := by rfl) : EvAB X (e :: es) (aCons f g) := ea_consG (fun _ _ _ _ h s => h.mono s) ha hr (star_cons hs)
end
end D2
set_option Elab.async false
set_option linter.all false
set_option maxRecDepth 100000
set_option maxHeartbeats 4000000
namespace D2
open PySem PySem.Spec PyProof.Rows L2
section
variable {K : PySem.W.Frag} {H : Hp} {x : V}
theorem brp_none (h : BRp H .none x) : x = .non := by
  rcases h with h | h
  · simpa only [Rp] using h
  · simp only [ORp] at h
theorem brp_bool {b : Bool} (h : BRp H (.bool b) x) : x = .bl b := by
  rcases h with h | h
  · simpa only [Rp] using h
  · simp only [ORp] at h
theorem brp_int {i : Int} (h : BRp H (.int i) x) : x = .int i := by
  rcases h with h | h
  · simpa only [Rp] using h
  · simp only [ORp] at h
theorem brp_str {y : Str} (h : BRp H (.str y) x) : x = .str y := by
  rcases h with h | h
  · simpa only [Rp] using h
  · simp only [ORp] at h
theorem brp_tuple {ds : List PyData} (h : BRp H (.tuple ds) x) : ∃ a vs, x = .ref a ∧ H a = some (.tup vs) ∧ RpA H ds vs := by
  rcases h with h | h
  · simpa only [Rp] using h
  · simp only [ORp] at h
theorem brp_list {ds : List PyData} (h : BRp H (.list ds) x) : ∃ a vs, x = .ref a ∧ SqL K H a vs ∧ RpA H ds vs := by
  rcases h with h | h
  · simp only [Rp] at h
    obtain ⟨a, o, vs, e, ha, r⟩ := h
    exact ⟨a, vs, e, .inl (.inr ⟨o, ha⟩), r⟩
  · simp only [ORp] at h
    obtain ⟨a, vs, e, ha, r⟩ := h
    exact ⟨a, vs, e, .inl (.inl ha), r⟩
theorem rpI_ins {C : Addr} {fs : List (Str × V)} {kvs : List (PyData × PyData)} (h : RpI H C fs kvs) : isIns kvs = true := by
  cases kvs with
  | nil => simp only [RpI] at h
  | cons kd kvs => simp only [RpI] at h; rw [h.1]; rfl
theorem brp_dref {kvs : List (PyData × PyData)} (h : BRp H (.dict kvs) x) : ∃ a, x = .ref a := by
  rcases h with h | h
  · simp only [Rp] at h
    rcases h with ⟨a, o, vs, e, _⟩ | ⟨a, o, C, dx, fs, e, _⟩
    · exact ⟨a, e⟩
    · exact ⟨a, e⟩
  · simp only [ORp] at h
    obtain ⟨a, vs, e, _⟩ := h
    exact ⟨a, e⟩
theorem brp_dict {kvs : List (PyData × PyData)} (hi : isIns kvs = false) (h : BRp H (.dict kvs) x) : ∃ a ks, x = .ref a ∧ Rd H a (.dK ks) ∧ RpK H kvs ks := by
  rcases h with h | h
  · simp only [Rp] at h
    rcases h with ⟨a, o, vs, e, ha, r⟩ | ⟨a, o, C, dx, fs, e, ha, r⟩
    · exact ⟨a, vs, e, .inr ⟨o, ha⟩, r⟩
    · rw [rpI_ins r] at hi; cases hi
  · simp only [ORp] at h
    obtain ⟨a, vs, e, ha, r⟩ := h
    exact ⟨a, vs, e, .inl ha, r⟩
end
theorem RpA.nil {H : Hp} : RpA H [] [] := by simp only [RpA]
theorem RpA.cons {H : Hp} {d : PyData} {ds : List PyData} {v : V} {vs : List V} (h : Rp H d v) (t : RpA H ds vs) : RpA H (d :: ds) (v :: vs) := by simp only [RpA]; exact ⟨v, vs, rfl, h, t⟩
theorem RpA.nil_inv {H : Hp} {vs : List V} (h : RpA H [] vs) : vs = [] := by simpa only [RpA] using h
theorem RpA.cons_inv {H : Hp} {d : PyData} {ds : List PyData} {vs : List V} (h : RpA H (d :: ds) vs) : ∃ v r, vs = v :: r ∧ Rp H d v ∧ RpA H ds r := by simpa only [RpA] using h
theorem RpA.length {H : Hp} : ∀ {ds : List PyData} {vs : List V}, RpA H ds vs → vs.length = ds.length
  | [], vs, h => by rw [h.nil_inv]; rfl
  | d :: ds, vs, h => by
    obtain ⟨v, r, rfl, _, t⟩ := h.cons_inv
    rw [List.length_cons, List.length_cons, RpA.length t]
theorem RpA.get {H : Hp} : ∀ {ds : List PyData} {vs : List V} {i : Nat} {d : PyData}, RpA H ds vs → ds[i]? = some d → ∃ v, vs[i]? = some v ∧ Rp H d v
  | [], vs, i, d, h, e => by simp at e
  | d0 :: ds, vs, 0, d, h, e => by
    obtain ⟨v, r, rfl, p, _⟩ := h.cons_inv
    simp at e; subst e
    exact ⟨v, rfl, p⟩
  | d0 :: ds, vs, i + 1, d, h, e => by
    obtain ⟨v, r, rfl, _, t⟩ := h.cons_inv
    obtain ⟨u, e1, p⟩ := RpA.get (i := i) t (by simpa using e)
    exact ⟨u, by simpa using e1, p⟩
theorem RpA.append {H : Hp} : ∀ {ds es : List PyData} {vs us : List V}, RpA H ds vs → RpA H es us → RpA H (ds ++ es) (vs ++ us)
  | [], es, vs, us, h, g => by rw [h.nil_inv]; exact g
  | d :: ds, es, vs, us, h, g => by
    obtain ⟨v, r, rfl, p, t⟩ := h.cons_inv
    exact RpA.cons p (RpA.append t g)
theorem RpA.take {H : Hp} : ∀ {ds : List PyData} {vs : List V} (n : Nat), RpA H ds vs → RpA H (ds.take n) (vs.take n)
  | ds, vs, 0, h => by simp only [List.take_zero]; exact RpA.nil
  | [], vs, n + 1, h => by rw [h.nil_inv]; exact RpA.nil
  | d :: ds, vs, n + 1, h => by
    obtain ⟨v, r, rfl, p, t⟩ := h.cons_inv
    exact RpA.cons p (RpA.take n t)
theorem RpA.drop {H : Hp} : ∀ {ds : List PyData} {vs : List V} (n : Nat), RpA H ds vs → RpA H (ds.drop n) (vs.drop n)
  | ds, vs, 0, h => h
  | [], vs, n + 1, h => by rw [h.nil_inv]; exact RpA.nil
  | d :: ds, vs, n + 1, h => by
    obtain ⟨v, r, rfl, p, t⟩ := h.cons_inv
    exact RpA.drop n t
theorem RpA.rep {H : Hp} {ds : List PyData} {vs : List V} (h : RpA H ds vs) : ∀ k : Nat, RpA H (List.replicate k ds).flatten (List.replicate k vs).flatten
  | 0 => RpA.nil
  | k + 1 => by rw [List.replicate_succ, List.replicate_succ, List.flatten_cons, List.flatten_cons]; exact RpA.append h (RpA.rep h k)
theorem RpA.ints {H : Hp} : ∀ ns : List Int, RpA H (ns.map PyData.int) (ns.map V.int)
  | [] => RpA.nil
  | n :: ns => RpA.cons (by simp only [Rp]) (RpA.ints ns)
theorem same_up {H : Hp} {p : Addr} (h : H p = none) (o : HO) : Same H (upd H p o) := fun b u q => by rw [upd_ne (ne_of_none q h)]; exact q
theorem rp_new_tup {H : Hp} {p : Addr} {ds : List PyData} {vs : List V} (h : H p = none) (r : RpA H ds vs) : Rp (upd H p (.tup vs)) (.tuple ds) (.ref p) := by
  simp only [Rp]; exact ⟨p, vs, rfl, upd_same, r.mono (same_up h _)⟩
theorem nrp_new_lst {H : Hp} {p : Addr} {ds : List PyData} {vs : List V} (h : H p = none) (r : RpA H ds vs) : NRp H (upd H p (.lst vs)) (.list ds) (.ref p) := by
  refine ⟨?_, p, rfl, h⟩
  simp only [ORp]; exact ⟨p, vs, rfl, upd_same, r.mono (same_up h _)⟩
section
variable {P : Program} {w : World} {H : Hp} {h : Heap}
mutual
theorem reads_of (ok : HOk P w H h) : ∀ (d : PyData) (v : V) (u : Value), d.canLay0 = true → Rp H d v → RelV v u → ∃ as, Reads h u d as
  | .none, v, u, _, r, e => by simp only [Rp] at r; subst r; cases e; exact ⟨_, .none⟩
  | .bool b, v, u, _, r, e => by simp only [Rp] at r; subst r; cases e; exact ⟨_, .bool b⟩
  | .int i, v, u, _, r, e => by simp only [Rp] at r; subst r; obtain ⟨t, rfl⟩ := e; exact ⟨_, .int i t⟩
  | .str x, v, u, _, r, e => by simp only [Rp] at r; subst r; obtain ⟨t, rfl⟩ := e; exact ⟨_, .str x t⟩
  | .tuple ds, v, u, c, r, e => by
    simp only [Rp] at r
    obtain ⟨a, vs, rfl, ha, r⟩ := r
    cases e
    obtain ⟨_, its, rv, o, h1, h2, n, h3⟩ := (show ObjOk P w H h a (.tup vs) from ok a _ ha)
    obtain ⟨as, q⟩ := readsAll_of ok ds vs its (by simpa only [PyData.canLay0] using c) r rv
    exact ⟨as, .tuple h1 h2 h3 (by simpa using q)⟩
  | .list ds, v, u, c, r, e => by
    simp only [Rp] at r
    obtain ⟨a, ob, vs, rfl, ha, r⟩ := r
    cases e
    obtain ⟨_, _, its, n, rv, h1⟩ := (show ObjOk P w H h a (.frz ob (.lst vs)) from ok a _ ha)
    obtain ⟨as, q⟩ := readsAll_of ok ds vs its (by simpa only [PyData.canLay0] using c) r rv
    exact ⟨a :: as, .list h1 rfl rfl (by simpa using q)⟩
  | .dict kvs, v, u, c, r, e => by simp [PyData.canLay0] at c
theorem readsAll_of (ok : HOk P w H h) : ∀ (ds : List PyData) (vs : List V) (us : List Value), PyData.canLayAll0 ds = true → RpA H ds vs → Vals vs us → ∃ as, ReadsAll h us ds as
  | [], vs, us, _, r, e => by rw [r.nil_inv] at e; cases e; exact ⟨_, .nil⟩
  | d :: ds, vs, us, c, r, e => by
    obtain ⟨v, r', rfl, p, t⟩ := r.cons_inv
    have c' : d.canLay0 = true ∧ PyData.canLayAll0 ds = true := by simpa [PyData.canLayAll0] using c
    cases e with
    | cons e1 e2 =>
      obtain ⟨as, q1⟩ := reads_of ok d v _ c'.1 p e1
      obtain ⟨bs, q2⟩ := readsAll_of ok ds r' _ c'.2 t e2
      exact ⟨as ++ bs, .cons q1 q2⟩
end
theorem reads_ofB (ok : HOk P w H h) {d : PyData} {v : V} {u : Value} (c : d.canLay0 = true) (r : BRp H d v) (e : RelV v u) : ∃ as, Reads h u d as := by
  rcases r with r | r
  · exact reads_of ok d v u c r e
  · cases d <;> simp only [ORp] at r
    · rename_i ds
      obtain ⟨a, vs, rfl, ha, r⟩ := r
      cases e
      obtain ⟨_, its, n, rv, h1⟩ := (show ObjOk P w H h a (.lst vs) from ok a _ ha)
      obtain ⟨as, q⟩ := readsAll_of ok ds vs its (by simpa only [PyData.canLay0] using c) r rv
      exact ⟨a :: as, .list h1 rfl rfl (by simpa using q)⟩
    · simp [PyData.canLay0] at c
end
def keyOf : PyData → Option Key
  | .int i => some (.inl i)
  | .str y => some (.inr y)
  | _ => none
def keyEq : PyData → PyData → Bool
  | .int i, .int j => decide (i = j)
  | .str i, .str j => decide (i = j)
  | _, _ => false
def putD (kvs : List (PyData × PyData)) (k v : PyData) : List (PyData × PyData) :=
  if (kvs.any fun kv => keyEq kv.1 k) = true then kvs.map (fun kv => if keyEq kv.1 k = true then (kv.1, v) else kv) else kvs ++ [(k, v)]
theorem keyEq_key (κ κ' : Key) : keyEq (keyD κ) (keyD κ') = decide (κ = κ') := by
  cases κ with
  | inl i =>
    cases κ' with
    | inl j => simp [keyD, keyEq]
    | inr j => simp [keyD, keyEq]
  | inr i =>
    cases κ' with
    | inl j => simp [keyD, keyEq]
    | inr j => simp [keyD, keyEq]
theorem RpK.cons {H : Hp} {k d : PyData} {kvs : List (PyData × PyData)} {κ : Key} {v : V} {ks : List (Key × V)} (e : k = keyD κ) (h : Rp H d v) (t : RpK H kvs ks) : RpK H ((k, d) :: kvs) ((κ, v) :: ks) := by
  simp only [RpK, RpP]; exact ⟨κ, v, ks, rfl, ⟨e, h⟩, t⟩
theorem RpK.cons_inv {H : Hp} {k d : PyData} {kvs : List (PyData × PyData)} {ks : List (Key × V)} (h : RpK H ((k, d) :: kvs) ks) : ∃ κ v r, ks = (κ, v) :: r ∧ k = keyD κ ∧ Rp H d v ∧ RpK H kvs r := by
  simp only [RpK, RpP] at h
  obtain ⟨κ, v, r, e, ⟨e1, p⟩, t⟩ := h
  exact ⟨κ, v, r, e, e1, p, t⟩
theorem RpK.nil_inv {H : Hp} {ks : List (Key × V)} (h : RpK H [] ks) : ks = [] := by simpa only [RpK] using h
theorem RpK.any {H : Hp} (κ : Key) : ∀ {kvs : List (PyData × PyData)} {ks : List (Key × V)}, RpK H kvs ks → (kvs.any fun kv => keyEq kv.1 (keyD κ)) = ks.any fun kv => decide (kv.1 = κ)
  | [], ks, h => by rw [h.nil_inv]; rfl
  | (k, d) :: kvs, ks, h => by
    obtain ⟨κ', v, r, rfl, rfl, p, t⟩ := h.cons_inv
    rw [List.any_cons, List.any_cons, RpK.any κ t, keyEq_key]
theorem RpK.repl {H : Hp} (κ : Key) {d : PyData} {v : V} (hv : Rp H d v) : ∀ {kvs : List (PyData × PyData)} {ks : List (Key × V)}, RpK H kvs ks →
    RpK H (kvs.map fun kv => if keyEq kv.1 (keyD κ) = true then (kv.1, d) else kv) (ks.map fun kv => if kv.1 = κ then (kv.1, v) else kv)
  | [], ks, h => by rw [h.nil_inv]; simp only [List.map_nil, RpK]
  | (k, d') :: kvs, ks, h => by
    obtain ⟨κ', v', r, rfl, rfl, p, t⟩ := h.cons_inv
    rw [List.map_cons, List.map_cons]
    dsimp only
    rw [keyEq_key]
    by_cases e : κ' = κ
    · rw [if_pos (decide_eq_true e), if_pos e]; exact RpK.cons rfl hv (RpK.repl κ hv t)
    · rw [if_neg (by rw [decide_eq_false e]; exact Bool.false_ne_true), if_neg e]; exact RpK.cons rfl p (RpK.repl κ hv t)
theorem RpK.snoc {H : Hp} {κ : Key} {d : PyData} {v : V} (hv : Rp H d v) : ∀ {kvs : List (PyData × PyData)} {ks : List (Key × V)}, RpK H kvs ks → RpK H (kvs ++ [(keyD κ, d)]) (ks ++ [(κ, v)])
  | [], ks, h => by rw [h.nil_inv]; exact RpK.cons rfl hv (by simp only [RpK])
  | (k, d') :: kvs, ks, h => by
    obtain ⟨κ', v', r, rfl, rfl, p, t⟩ := h.cons_inv
    exact RpK.cons rfl p (RpK.snoc hv t)
theorem RpK.put {H : Hp} (κ : Key) {d : PyData} {v : V} (hv : Rp H d v) {kvs : List (PyData × PyData)} {ks : List (Key × V)} (h : RpK H kvs ks) : RpK H (putD kvs (keyD κ) d) (putK ks κ v) := by
  unfold putD putK
  rw [h.any κ]
  split
  · exact h.repl κ hv
  · exact h.snoc hv
def lookD (kvs : List (PyData × PyData)) (k : PyData) : Option PyData := (kvs.find? fun kv => keyEq kv.1 k).map (·.2)
theorem RpK.look {H : Hp} (κ : Key) : ∀ {kvs : List (PyData × PyData)} {ks : List (Key × V)}, RpK H kvs ks → (lookD kvs (keyD κ) = none ∧ valV ks κ = none) ∨ ∃ d v, lookD kvs (keyD κ) = some d ∧ valV ks κ = some v ∧ Rp H d v
  | [], ks, h => .inl (by rw [h.nil_inv]; exact ⟨rfl, rfl⟩)
  | (k, d) :: kvs, ks, h => by
    obtain ⟨κ', v, r, rfl, rfl, p, t⟩ := h.cons_inv
    unfold lookD valV
    by_cases e : κ' = κ
    · rw [List.find?_cons_of_pos (by rw [keyEq_key]; exact decide_eq_true e), List.find?_cons_of_pos (by exact decide_eq_true e)]
      exact .inr ⟨d, v, rfl, rfl, p⟩
    · rw [List.find?_cons_of_neg (by rw [keyEq_key, decide_eq_false e]; exact Bool.false_ne_true), List.find?_cons_of_neg (by rw [decide_eq_false e]; exact Bool.false_ne_true)]
      exact RpK.look κ t
theorem keyOf_eq {d : PyData} {κ : Key} (h : keyOf d = some κ) : d = keyD κ := by
  cases d <;> simp only [keyOf] at h <;> cases h <;> rfl
theorem brp_key {H : Hp} {d : PyData} {x : V} {κ : Key} (h : BRp H d x) (e : keyOf d = some κ) : x = kV κ := by
  cases d <;> simp only [keyOf] at e <;> cases e
  · exact brp_int h
  · exact brp_str h
theorem dget_of {H : Hp} {a : Addr} {kvs : List (PyData × PyData)} {ks : List (Key × V)} {κ : Key} (h : Rd H a (.dK ks)) (r : RpK H kvs ks) : ∃ o, DGet H a (kV κ) o ∧ o.isSome = (lookD kvs (keyD κ)).isSome ∧ ∀ d, lookD kvs (keyD κ) = some d → ∃ v, o = some v ∧ Rp H d v := by
  refine ⟨valV ks κ, .inl ⟨ks, κ, h, rfl, rfl⟩, ?_⟩
  rcases r.look κ with ⟨e1, e2⟩ | ⟨d, v, e1, e2, p⟩
  · rw [e1, e2]; exact ⟨rfl, fun d z => by cases z⟩
  · rw [e1, e2]; exact ⟨rfl, fun d z => by cases z; exact ⟨v, rfl, p⟩⟩
def dSub : PyData → PyData → R PyData
  | .int i, .int j => .ok (.int (i - j))
  | _, _ => .no
def dMod : PyData → PyData → R PyData
  | .int i, .int j => if 0 < j then .ok (.int (i % j)) else .no
  | _, _ => .no
def dDiv : PyData → PyData → R PyData
  | .int i, .int j => if 0 < j ∧ j < 1073741824 then .ok (.int (i / j)) else .no
  | _, _ => .no
def dCmp (p : Int → Int → Bool) : PyData → PyData → R PyData
  | .int i, .int j => .ok (.bool (p i j))
  | _, _ => .no
def eqOk (x y : PyData) : Bool := x.canLay0 && y.canLay0 && decide (min x.depth y.depth ≤ 60)
def dEq (x y : PyData) : R PyData := if eqOk x y = true then .ok (.bool (PyData.eqv x y)) else .no
def dNe (x y : PyData) : R PyData := if eqOk x y = true then .ok (.bool (!PyData.eqv x y)) else .no
def isNoneD : PyData → Bool
  | .none => true
  | _ => false
def dIsN (x y : PyData) : R PyData := if isNoneD y = true then .ok (.bool (isNoneD x)) else .no
def dNotN (x y : PyData) : R PyData := if isNoneD y = true then .ok (.bool (!isNoneD x)) else .no
def inOk (xs : List PyData) (d : PyData) : Bool := PyData.canLayAll0 xs && d.canLay0 && decide (min (PyData.depthAll xs) d.depth ≤ 60)
def dIn (neg : Bool) (d : PyData) : PyData → R PyData
  | .list xs => if inOk xs d = true then .ok (.bool (if neg then !(xs.any fun y => PyData.eqv y d) else xs.any fun y => PyData.eqv y d)) else .no
  | .tuple xs => if inOk xs d = true then .ok (.bool (if neg then !(xs.any fun y => PyData.eqv y d) else xs.any fun y => PyData.eqv y d)) else .no
  | .dict kvs => if isIns kvs = true then .no else match keyOf d with
    | some _ => .ok (.bool (if neg then !(lookD kvs d).isSome else (lookD kvs d).isSome))
    | none => .no
  | _ => .no
section
variable {X : Cx} {a b c : Expr} {fa fb fc : Fe} {pos : Pos}
theorem rp_int {H : Hp} {i : Int} : Rp H (.int i) (.int i) := by simp only [Rp]
theorem rp_bool {H : Hp} {i : Bool} : Rp H (.bool i) (.bl i) := by simp only [Rp]
theorem rp_str {H : Hp} {i : Str} : Rp H (.str i) (.str i) := by simp only [Rp]
theorem sv_sub : Serves2 X PRp (rI0 fun i j => .int (i - j)) dSub := fun H x y dx dy Q hx hy q => by
  unfold dSub at q
  split at q
  · exact ⟨_, _, brp_int hx, brp_int hy, q _ H (Same.refl _) rp_int⟩
  · exact q.elim
theorem sv_mod : Serves2 X PRp (rI (fun _ j => 0 < j) fun i j => .int (i % j)) dMod := fun H x y dx dy Q hx hy q => by
  unfold dMod at q
  split at q
  · split at q
    · rename_i h; exact ⟨_, _, brp_int hx, brp_int hy, h, q _ H (Same.refl _) rp_int⟩
    · exact q.elim
  · exact q.elim
theorem sv_div : Serves2 X PRp (rI CDiv fun i j => .int (i / j)) dDiv := fun H x y dx dy Q hx hy q => by
  unfold dDiv at q
  split at q
  · split at q
    · rename_i h; exact ⟨_, _, brp_int hx, brp_int hy, h, q _ H (Same.refl _) rp_int⟩
    · exact q.elim
  · exact q.elim
theorem sv_cmp {p : Int → Int → Bool} : Serves2 X PRp (rI0 fun i j => .bl (p i j)) (dCmp p) := fun H x y dx dy Q hx hy q => by
  unfold dCmp at q
  split at q
  · exact ⟨_, _, brp_int hx, brp_int hy, q _ H (Same.refl _) rp_bool⟩
  · exact q.elim
theorem ev_sub (ha : EvB X a fa) (hb : EvB X b fb) : EvE X (.BinOp a .Sub b pos) (e2 dSub fa fb) := ev_bin dn_r op_sub sv_sub ha hb
theorem Z.ev_sub (ha : Z.EvB X a fa) (hb : Z.EvB X b fb) : Z.EvE X (.BinOp a .Sub b pos) (e2 dSub fa fb) :=
  ⟨D2.ev_sub ha.un hb.un⟩
theorem ev_mod (ha : EvB X a fa) (hb : EvB X b fb) : EvE X (.BinOp a .Mod b pos) (e2 dMod fa fb) := ev_bin dn_r op_mod sv_mod ha hb
theorem Z.ev_mod (ha : Z.EvB X a fa) (hb : Z.EvB X b fb) : Z.EvE X (.BinOp a .Mod b pos) (e2 dMod fa fb) :=
  ⟨D2.ev_mod ha.un hb.un⟩
theorem ev_div (ha : EvB X a fa) (hb : EvB X b fb) : EvE X (.BinOp a .FloorDiv b pos) (e2 dDiv fa fb) := ev_bin dn_r op_fdiv sv_div ha hb
theorem Z.ev_div (ha : Z.EvB X a fa) (hb : Z.EvB X b fb) : Z.EvE X (.BinOp a .FloorDiv b pos) (e2 dDiv fa fb) :=
  ⟨D2.ev_div ha.un hb.un⟩
abbrev pLt : Int → Int → Bool := fun i j => decide (i < j)
abbrev pLe : Int → Int → Bool := fun i j => decide (i ≤ j)
abbrev pGt : Int → Int → Bool := fun i j => decide (j < i)
theorem ev_gt (ha : EvB X a fa) (hb : EvB X b fb) : EvE X (.Compare a [.Gt] [b] pos) (e2 (dCmp pGt) fa fb) := ev_cmp op_gt sv_cmp ha hb (nomark _)
theorem Z.ev_gt (ha : Z.EvB X a fa) (hb : Z.EvB X b fb) : Z.EvE X (.Compare a [.Gt] [b] pos) (e2 (dCmp pGt) fa fb) :=
  ⟨D2.ev_gt ha.un hb.un⟩
theorem evt_lt (ha : EvB X a fa) (hb : EvB X b fb) : EvT X (.Compare a [.Lt] [b] pos) (tE (e2 (dCmp pLt) fa fb)) := evt_cmp op_lt sv_cmp ha hb (nomark _)
theorem Z.evt_lt (ha : Z.EvB X a fa) (hb : Z.EvB X b fb) : Z.EvT X (.Compare a [.Lt] [b] pos) (tE (e2 (dCmp pLt) fa fb)) :=
  ⟨D2.evt_lt ha.un hb.un⟩
theorem evt_gt (ha : EvB X a fa) (hb : EvB X b fb) : EvT X (.Compare a [.Gt] [b] pos) (tE (e2 (dCmp pGt) fa fb)) := evt_cmp op_gt sv_cmp ha hb (nomark _)
theorem Z.evt_gt (ha : Z.EvB X a fa) (hb : Z.EvB X b fb) : Z.EvT X (.Compare a [.Gt] [b] pos) (tE (e2 (dCmp pGt) fa fb)) :=
  ⟨D2.evt_gt ha.un hb.un⟩
def rEqD (X : Cx) (neg : Bool) : R2 := fun x y H Q => ∃ dx dy, BRp H dx x ∧ BRp H dy y ∧ eqOk dx dy = true ∧ Q (.bl (if neg then !PyData.eqv dx dy else PyData.eqv dx dy)) H
theorem eqOk_parts {x y : PyData} (h : eqOk x y = true) : x.canLay0 = true ∧ y.canLay0 = true ∧ min x.depth y.depth ≤ 60 := by
  unfold eqOk at h
  rw [Bool.and_eq_true, Bool.and_eq_true, decide_eq_true_eq] at h
  exact ⟨h.1.1, h.1.2, h.2⟩
theorem op_eqD (hu : X.A.units + 64 < cLine) : OpR X (compareOp .Eq) (rEqD X false) := by
  intro pins s σ H x y v u Q I rx ry h
  obtain ⟨dx, dy, hx, hy, ho, q⟩ := h
  obtain ⟨c1, c2, c3⟩ := eqOk_parts ho
  obtain ⟨as, r1⟩ := reads_ofB I.hok c1 hx rx
  obtain ⟨bs, r2⟩ := reads_ofB I.hok c2 hy ry
  exact PySem.SeqAt.compareEq_reads r1 r2 c1 c2 (by omega) ⟨.bl _, H, I, rfl, q⟩
theorem op_neD (hu : X.A.units + 64 < cLine) : OpR X (compareOp .NotEq) (rEqD X true) := by
  intro pins s σ H x y v u Q I rx ry h
  obtain ⟨dx, dy, hx, hy, ho, q⟩ := h
  obtain ⟨c1, c2, c3⟩ := eqOk_parts ho
  obtain ⟨as, r1⟩ := reads_ofB I.hok c1 hx rx
  obtain ⟨bs, r2⟩ := reads_ofB I.hok c2 hy ry
  exact PySem.SeqAt.compareNe_reads r1 r2 c1 c2 (by omega) ⟨.bl _, H, I, rfl, q⟩
theorem sv_eq : Serves2 X PRp (rEqD X false) dEq := fun H x y dx dy Q hx hy q => by
  unfold dEq at q
  split at q
  · rename_i h; exact ⟨dx, dy, hx, hy, h, q _ H (Same.refl _) rp_bool⟩
  · exact q.elim
theorem sv_ne : Serves2 X PRp (rEqD X true) dNe := fun H x y dx dy Q hx hy q => by
  unfold dNe at q
  split at q
  · rename_i h; exact ⟨dx, dy, hx, hy, h, q _ H (Same.refl _) rp_bool⟩
  · exact q.elim
theorem ev_eq (hu : X.A.units + 64 < cLine) (ha : EvB X a fa) (hb : EvB X b fb) : EvE X (.Compare a [.Eq] [b] pos) (e2 dEq fa fb) := ev_cmp (op_eqD hu) sv_eq ha hb (nomark _)
theorem Z.ev_eq (hu : X.A.units + 64 < cLine) (ha : Z.EvB X a fa) (hb : Z.EvB X b fb) : Z.EvE X (.Compare a [.Eq] [b] pos) (e2 dEq fa fb) :=
  ⟨D2.ev_eq hu ha.un hb.un⟩
theorem ev_ne (hu : X.A.units + 64 < cLine) (ha : EvB X a fa) (hb : EvB X b fb) : EvE X (.Compare a [.NotEq] [b] pos) (e2 dNe fa fb) := ev_cmp (op_neD hu) sv_ne ha hb (nomark _)
theorem Z.ev_ne (hu : X.A.units + 64 < cLine) (ha : Z.EvB X a fa) (hb : Z.EvB X b fb) : Z.EvE X (.Compare a [.NotEq] [b] pos) (e2 dNe fa fb) :=
  ⟨D2.ev_ne hu ha.un hb.un⟩
theorem evt_eq (hu : X.A.units + 64 < cLine) (ha : EvB X a fa) (hb : EvB X b fb) : EvT X (.Compare a [.Eq] [b] pos) (tE (e2 dEq fa fb)) := evt_cmp (op_eqD hu) sv_eq ha hb (nomark _)
theorem Z.evt_eq (hu : X.A.units + 64 < cLine) (ha : Z.EvB X a fa) (hb : Z.EvB X b fb) : Z.EvT X (.Compare a [.Eq] [b] pos) (tE (e2 dEq fa fb)) :=
  ⟨D2.evt_eq hu ha.un hb.un⟩
theorem evt_ne (hu : X.A.units + 64 < cLine) (ha : EvB X a fa) (hb : EvB X b fb) : EvT X (.Compare a [.NotEq] [b] pos) (tE (e2 dNe fa fb)) := evt_cmp (op_neD hu) sv_ne ha hb (nomark _)
theorem Z.evt_ne (hu : X.A.units + 64 < cLine) (ha : Z.EvB X a fa) (hb : Z.EvB X b fb) : Z.EvT X (.Compare a [.NotEq] [b] pos) (tE (e2 dNe fa fb)) :=
  ⟨D2.evt_ne hu ha.un hb.un⟩
theorem non_iff {H : Hp} {d : PyData} {x : V} (h : BRp H d x) : decide (x = .non) = isNoneD d := by
  cases d with
  | none => rw [brp_none h]; rfl
  | bool b => rw [brp_bool h]; rfl
  | int i => rw [brp_int h]; rfl
  | str y => rw [brp_str h]; rfl
  | tuple ds => obtain ⟨a, vs, rfl, _⟩ := brp_tuple h; rfl
  | list ds => obtain ⟨a, vs, rfl, _⟩ := brp_list (K := default) h; rfl
  | dict kvs => obtain ⟨a, rfl⟩ := brp_dref h; rfl
theorem sv_isN : Serves2 X PRp (fun x y H Q => y = .non ∧ Q (.bl (decide (x = .non))) H) dIsN := fun H x y dx dy Q hx hy q => by
  unfold dIsN at q
  split at q
  · rename_i h
    cases dy <;> simp only [isNoneD, Bool.false_eq_true] at h
    exact ⟨brp_none hy, by rw [non_iff hx]; exact q _ H (Same.refl _) rp_bool⟩
  · exact q.elim
theorem sv_notN : Serves2 X PRp (fun x y H Q => y = .non ∧ Q (.bl (!decide (x = .non))) H) dNotN := fun H x y dx dy Q hx hy q => by
  unfold dNotN at q
  split at q
  · rename_i h
    cases dy <;> simp only [isNoneD, Bool.false_eq_true] at h
    exact ⟨brp_none hy, by rw [non_iff hx]; exact q _ H (Same.refl _) rp_bool⟩
  · exact q.elim
theorem ev_isN (ha : EvB X a fa) (hb : EvB X b fb) : EvE X (.Compare a [.Is] [b] pos) (e2 dIsN fa fb) := ev_cmp op_isN sv_isN ha hb (nomark _)
theorem Z.ev_isN (ha : Z.EvB X a fa) (hb : Z.EvB X b fb) : Z.EvE X (.Compare a [.Is] [b] pos) (e2 dIsN fa fb) :=
  ⟨D2.ev_isN ha.un hb.un⟩
theorem evt_isN (ha : EvB X a fa) (hb : EvB X b fb) : EvT X (.Compare a [.Is] [b] pos) (tE (e2 dIsN fa fb)) := evt_cmp op_isN sv_isN ha hb (nomark _)
theorem Z.evt_isN (ha : Z.EvB X a fa) (hb : Z.EvB X b fb) : Z.EvT X (.Compare a [.Is] [b] pos) (tE (e2 dIsN fa fb)) :=
  ⟨D2.evt_isN ha.un hb.un⟩
theorem evt_notN (ha : EvB X a fa) (hb : EvB X b fb) : EvT X (.Compare a [.IsNot] [b] pos) (tE (e2 dNotN fa fb)) := evt_cmp op_notN sv_notN ha hb (nomark _)
theorem Z.evt_notN (ha : Z.EvB X a fa) (hb : Z.EvB X b fb) : Z.EvT X (.Compare a [.IsNot] [b] pos) (tE (e2 dNotN fa fb)) :=
  ⟨D2.evt_notN ha.un hb.un⟩
def rInS (X : Cx) (neg : Bool) : R2 := fun x y H Q => ∃ d xs, BRp H d x ∧ (BRp H (.list xs) y ∨ BRp H (.tuple xs) y) ∧ inOk xs d = true ∧ Q (.bl (if neg then !(xs.any fun z => PyData.eqv z d) else xs.any fun z => PyData.eqv z d)) H
def rInD (X : Cx) (neg : Bool) : R2 := fun x y H Q => rInS X neg x y H Q ∨ ∃ a o, y = .ref a ∧ DGet H a x o ∧ Q (.bl (if neg then !o.isSome else o.isSome)) H
theorem inOk_parts {xs : List PyData} {d : PyData} (h : inOk xs d = true) : PyData.canLayAll0 xs = true ∧ d.canLay0 = true ∧ min (PyData.depthAll xs) d.depth ≤ 60 := by
  unfold inOk at h
  rw [Bool.and_eq_true, Bool.and_eq_true, decide_eq_true_eq] at h
  exact ⟨h.1.1, h.1.2, h.2⟩
theorem op_inD (hu : X.A.units + 64 < cLine) : OpR X (compareOp .In) (rInD X false) := by
  intro pins s σ H x y v u Q I rx ry h
  rcases h with h | ⟨a, o, rfl, g, q⟩
  case inr =>
    cases ry
    exact d_in (by omega) I g rx fun s' I' => ⟨.bl _, H, I', rfl, q⟩
  obtain ⟨d, xs, hx, hy, ho, q⟩ := h
  obtain ⟨c1, c2, c3⟩ := inOk_parts ho
  obtain ⟨as, r1⟩ := reads_ofB I.hok c2 hx rx
  rcases hy with hy | hy
  · obtain ⟨bs, r2⟩ := reads_ofB I.hok (d := .list xs) (by simpa only [PyData.canLay0] using c1) hy ry
    exact PySem.SeqAt.in_list_reads r2 r1 c1 c2 (by omega) ⟨.bl _, H, I, rfl, q⟩
  · obtain ⟨bs, r2⟩ := reads_ofB I.hok (d := .tuple xs) (by simpa only [PyData.canLay0] using c1) hy ry
    exact PySem.SeqAt.in_tuple_reads r2 r1 c1 c2 (by omega) ⟨.bl _, H, I, rfl, q⟩
theorem op_notInD (hu : X.A.units + 64 < cLine) : OpR X (compareOp .NotIn) (rInD X true) := by
  intro pins s σ H x y v u Q I rx ry h
  rcases h with h | ⟨a, o, rfl, g, q⟩
  case inr =>
    cases ry
    exact d_notIn (by omega) I g rx fun s' I' => ⟨.bl _, H, I', rfl, q⟩
  obtain ⟨d, xs, hx, hy, ho, q⟩ := h
  obtain ⟨c1, c2, c3⟩ := inOk_parts ho
  obtain ⟨as, r1⟩ := reads_ofB I.hok c2 hx rx
  rcases hy with hy | hy
  · obtain ⟨bs, r2⟩ := reads_ofB I.hok (d := .list xs) (by simpa only [PyData.canLay0] using c1) hy ry
    exact PySem.SeqAt.notIn_list_reads r2 r1 c1 c2 (by omega) ⟨.bl _, H, I, rfl, q⟩
  · obtain ⟨bs, r2⟩ := reads_ofB I.hok (d := .tuple xs) (by simpa only [PyData.canLay0] using c1) hy ry
    exact PySem.SeqAt.notIn_tuple_reads r2 r1 c1 c2 (by omega) ⟨.bl _, H, I, rfl, q⟩
theorem sv_in {neg : Bool} : Serves2 X PRp (rInD X neg) (dIn neg) := fun H x y dx dy Q hx hy q => by
  unfold dIn at q
  split at q
  · split at q
    · rename_i h; exact .inl ⟨dx, _, hx, .inl hy, h, q _ H (Same.refl _) rp_bool⟩
    · exact q.elim
  · split at q
    · rename_i h; exact .inl ⟨dx, _, hx, .inr hy, h, q _ H (Same.refl _) rp_bool⟩
    · exact q.elim
  · split at q
    · exact q.elim
    rename_i hi
    split at q
    · rename_i κ e
      obtain ⟨a, ks, rfl, h, r⟩ := brp_dict (Bool.not_eq_true _ ▸ hi) hy
      obtain ⟨o, g, e1, _⟩ := dget_of (κ := κ) h r
      rw [← brp_key hx e] at g
      rw [← keyOf_eq e] at e1
      exact .inr ⟨a, o, rfl, g, by rw [e1]; exact q _ H (Same.refl _) rp_bool⟩
    · exact q.elim
  · exact q.elim
theorem evt_in (hu : X.A.units + 64 < cLine) (ha : EvB X a fa) (hb : EvB X b fb) (hm : behindInMarks .In b = false) : EvT X (.Compare a [.In] [b] pos) (tE (e2 (dIn false) fa fb)) := evt_cmp (op_inD hu) sv_in ha hb hm
theorem Z.evt_in (hu : X.A.units + 64 < cLine) (ha : Z.EvB X a fa) (hb : Z.EvB X b fb) (hm : behindInMarks .In b = false) : Z.EvT X (.Compare a [.In] [b] pos) (tE (e2 (dIn false) fa fb)) :=
  ⟨D2.evt_in hu ha.un hb.un hm⟩
theorem evt_notIn (hu : X.A.units + 64 < cLine) (ha : EvB X a fa) (hb : EvB X b fb) (hm : behindInMarks .NotIn b = false) : EvT X (.Compare a [.NotIn] [b] pos) (tE (e2 (dIn true) fa fb)) := evt_cmp (op_notInD hu) sv_in ha hb hm
theorem Z.evt_notIn (hu : X.A.units + 64 < cLine) (ha : Z.EvB X a fa) (hb : Z.EvB X b fb) (hm : behindInMarks .NotIn b = false) : Z.EvT X (.Compare a [.NotIn] [b] pos) (tE (e2 (dIn true) fa fb)) :=
  ⟨D2.evt_notIn hu ha.un hb.un hm⟩
end
end D2
set_option Elab.async false
set_option linter.all false
set_option maxRecDepth 100000
set_option maxHeartbeats 4000000
namespace D2
open PySem PySem.Spec PyProof.Rows L2
inductive Out where
  | nx (ρ : Rho)
  | rt (d : PyData)
  | bk (ρ : Rho)
  | ct (ρ : Rho)
abbrev Fs := Rho → R Out
structure SlS (Fm H : Hp) (σ : St) (ρ : Rho) : Prop where
  fm : Same Fm H
  sl : Sl H σ ρ
  own : ∀ (i : Nat) (d : PyData) (a : Addr), ρ[i]? = some (.own d) → σ[i]? = some (some (.ref a)) → Fm a = none
  apart : ∀ (i j : Nat) (d e : PyData) (a : Addr), ρ[i]? = some (.own d) → ρ[j]? = some (.own e) → σ[i]? = some (some (.ref a)) → σ[j]? = some (some (.ref a)) → i = j
theorem SlS.mono {Fm H H' : Hp} {σ : St} {ρ : Rho} (h : SlS Fm H σ ρ) (s : Same H H') : SlS Fm H' σ ρ := ⟨h.fm.trans s, h.sl.mono s, h.own, h.apart⟩
def rdO (X : Cx) (Fm : Hp) (r : R Out) (D : Ends) : Prop :=
  match r with
  | .ok (.nx ρ) => ∀ σ H, SlS Fm H σ ρ → D.nx σ H
  | .ok (.rt d) => ∀ v H, Same Fm H → Rp H d v → D.rt v H
  | .ok (.bk ρ) => ∀ σ H, SlS Fm H σ ρ → D.bk σ H
  | .ok (.ct ρ) => ∀ σ H, SlS Fm H σ ρ → D.ct σ H
  | .ex c => Xw X c Fm ∧ XwM X c Fm
  | .no => False
def rdS (X : Cx) (Fm : Hp) (g : Fs) : TS := fun D σ H => ∃ ρ, SlS Fm H σ ρ ∧ rdO X Fm (g ρ) D
def EvS (X : Cx) (st : Stmt) (g : Fs) : Prop := ∀ Fm, PS X st (rdS X Fm g)
structure Z.EvS (X : Cx) (st : Stmt) (g : Fs) : Prop where
  un : D2.EvS X st g
def EvSs (X : Cx) (st : List Stmt) (g : Fs) : Prop := ∀ Fm, PSs X st (rdS X Fm g)
structure Z.EvSs (X : Cx) (st : List Stmt) (g : Fs) : Prop where
  un : D2.EvSs X st g
theorem PS.imp {X : Cx} {e : Stmt} {t t' : TS} (h : PS X e t) (i : ∀ D σ H, t' D σ H → t D σ H) : PS X e t' := fun pins s σ H D I q => h pins s σ H D I (i D σ H q)
theorem PSs.imp {X : Cx} {e : List Stmt} {t t' : TS} (h : PSs X e t) (i : ∀ D σ H, t' D σ H → t D σ H) : PSs X e t' := fun pins s σ H D I q => h pins s σ H D I (i D σ H q)
section
variable {X : Cx} {Fm : Hp} {σ : St} {H : Hp} {D : Ends}
theorem bind_s {P : Hp → Hp → PyData → V → Prop} {f : Fe} {k : Rho → PyData → R Out} (h : rdS X Fm (fun ρ => f ρ >>= k ρ) D σ H) :
    rdE X P f σ H (fun v H1 => ∃ ρ d, SlS Fm H1 σ ρ ∧ Same H H1 ∧ P H H1 d v ∧ rdO X Fm (k ρ d) D) := by
  obtain ⟨ρ, sl, q⟩ := h
  refine ⟨ρ, sl.sl, ?_⟩
  dsimp only at q
  cases e : f ρ with
  | ok d => rw [e] at q; exact fun v H1 s p => ⟨ρ, d, sl.mono s, s, p, q⟩
  | ex c => rw [e] at q; exact q.1.mono sl.fm
  | no => rw [e] at q; exact q
theorem bind_st {f : Rho → R Bool} {k : Rho → Bool → R Out} (h : rdS X Fm (fun ρ => f ρ >>= k ρ) D σ H) : rdT X f σ H (fun b H1 => ∃ ρ, SlS Fm H1 σ ρ ∧ Same H H1 ∧ rdO X Fm (k ρ b) D) := by
  obtain ⟨ρ, sl, q⟩ := h
  refine ⟨ρ, sl.sl, ?_⟩
  dsimp only at q
  cases e : f ρ with
  | ok d => rw [e] at q; exact fun H1 s => ⟨ρ, sl.mono s, s, q⟩
  | ex c => rw [e] at q; exact q.1.mono sl.fm
  | no => rw [e] at q; exact q
end
def sSkip : Fs := fun ρ => .ok (.nx ρ)
def thenO (h : Fs) : Out → R Out
  | .nx ρ => h ρ
  | o => .ok o
def sSeq (g h : Fs) : Fs := fun ρ => g ρ >>= thenO h
def sIf (t : Rho → R Bool) (g h : Fs) : Fs := fun ρ => t ρ >>= fun b => if b = true then g ρ else h ρ
def sRet (f : Fe) : Fs := fun ρ => f ρ >>= fun d => .ok (.rt d)
def sSet (i : Nat) (f : Fe) : Fs := fun ρ => f ρ >>= fun d => .ok (.nx (ρ.set i (.val d)))
def sOwn (i : Nat) (f : Fe) : Fs := fun ρ => f ρ >>= fun d => .ok (.nx (ρ.set i (.own d)))
section
variable {X : Cx} {nl : Nat} {G : List Str} {st : Stmt} {sts : List Stmt} {g h : Fs} {f : Fe} {e : Expr} {pos pos' : Pos} {x : Str}
theorem es_nil : EvSs X [] sSkip := fun Fm => PSs.imp pss_nil fun D σ H ⟨ρ, sl, q⟩ => q σ H sl
theorem Z.es_nil  : Z.EvSs X [] sSkip :=
  ⟨D2.es_nil⟩
theorem es_cons (h1 : EvS X st g) (h2 : EvSs X sts h) : EvSs X (st :: sts) (sSeq g h) := fun Fm => by
  refine PSs.imp (pss_cons (h1 Fm) (h2 Fm)) fun D σ H ⟨ρ, sl, q⟩ => ⟨ρ, sl, ?_⟩
  unfold sSeq at q
  cases e : g ρ with
  | ex c => rw [e] at q; exact q
  | no => rw [e] at q; exact q
  | ok o =>
    rw [e] at q
    cases o with
    | nx ρ' => exact fun σ' H' s' => ⟨ρ', s', q⟩
    | rt d => exact q
    | bk ρ' => exact q
    | ct ρ' => exact q
theorem Z.es_cons (h1 : Z.EvS X st g) (h2 : Z.EvSs X sts h) : Z.EvSs X (st :: sts) (sSeq g h) :=
  ⟨D2.es_cons h1.un h2.un⟩
theorem es_one (h1 : EvS X st g) : EvSs X [st] g := fun Fm => pss_one (h1 Fm)
theorem Z.es_one (h1 : Z.EvS X st g) : Z.EvSs X [st] g :=
  ⟨D2.es_one h1.un⟩
theorem es_ret (he : EvE X e f) : EvS X (.Return (some e) pos) (sRet f) := fun Fm =>
  PS.imp (ps_ret he) fun D σ H h => (bind_s (P := PRp) (f := f) (k := fun _ d => .ok (.rt d)) h).post fun v H1 ⟨ρ, d, sl, _, p, q⟩ => q v H1 sl.fm p
theorem Z.es_ret (he : Z.EvE X e f) : Z.EvS X (.Return (some e) pos) (sRet f) :=
  ⟨D2.es_ret he.un⟩
theorem es_if {c : Expr} {a b : List Stmt} {t : Rho → R Bool} (hc : EvT X c t) (ha : EvSs X a g) (hb : EvSs X b h) : EvS X (.If c a b pos) (sIf t g h) := fun Fm =>
  PS.imp (ps_if hc (ha Fm) (hb Fm)) fun D σ H q => (bind_st (f := t) (k := fun ρ b => if b = true then g ρ else h ρ) q).post fun b H1 ⟨ρ, sl, _, q⟩ => by
    cases b with
    | true => exact ⟨ρ, sl, q⟩
    | false => exact ⟨ρ, sl, q⟩
theorem Z.es_if {c : Expr} {a b : List Stmt} {t : Rho → R Bool} (hc : Z.EvT X c t) (ha : Z.EvSs X a g) (hb : Z.EvSs X b h) : Z.EvS X (.If c a b pos) (sIf t g h) :=
  ⟨D2.es_if hc.un ha.un hb.un⟩
theorem Sl.set {H : Hp} {σ : St} {ρ : Rho} {c : Cell} {o : Option V} (h : Sl H σ ρ) (i : Nat) (hc : CellOk H c o) : Sl H (σ.set i o) (ρ.set i c) := by
  refine ⟨by rw [List.length_set, List.length_set]; exact h.1, fun j c' o' h1 h2 => ?_⟩
  rw [List.getElem?_set] at h1 h2
  by_cases hij : i = j
  · rw [if_pos hij] at h1 h2
    by_cases hi : i < ρ.length
    · rw [if_pos hi] at h1
      rw [if_pos (by rw [h.1]; exact hi)] at h2
      cases h1; cases h2; exact hc
    · rw [if_neg hi] at h1; cases h1
  · rw [if_neg hij] at h1 h2
    exact h.2 j c' o' h1 h2
theorem get_set_own {ρ : Rho} {i j : Nat} {c : Cell} {d : PyData} (hc : ∀ e, c ≠ .own e) (h : (ρ.set i c)[j]? = some (.own d)) : i ≠ j ∧ ρ[j]? = some (.own d) := by
  rw [List.getElem?_set] at h
  by_cases hij : i = j
  · rw [if_pos hij] at h
    split at h
    · exact absurd (Option.some.inj h) (hc d)
    · cases h
  · rw [if_neg hij] at h; exact ⟨hij, h⟩
theorem SlS.set {Fm H : Hp} {σ : St} {ρ : Rho} {c : Cell} {o : Option V} (h : SlS Fm H σ ρ) (i : Nat) (hn : ∀ e, c ≠ .own e) (hc : CellOk H c o) : SlS Fm H (σ.set i o) (ρ.set i c) := by
  refine ⟨h.fm, h.sl.set i hc, fun j d a h1 h2 => ?_, fun j k d e a h1 h2 h3 h4 => ?_⟩
  · obtain ⟨ne, h1⟩ := get_set_own hn h1
    rw [List.getElem?_set, if_neg ne] at h2
    exact h.own j d a h1 h2
  · obtain ⟨ne, h1⟩ := get_set_own hn h1
    obtain ⟨ne', h2⟩ := get_set_own hn h2
    rw [List.getElem?_set, if_neg ne] at h3
    rw [List.getElem?_set, if_neg ne'] at h4
    exact h.apart j k d e a h1 h2 h3 h4
theorem orp_ref {H : Hp} {d : PyData} {v : V} (h : ORp H d v) : ∃ a o, v = .ref a ∧ H a = some o := by
  cases d <;> simp only [ORp] at h
  · obtain ⟨a, vs, e, ha, _⟩ := h; exact ⟨a, _, e, ha⟩
  · obtain ⟨a, vs, e, ha, _⟩ := h; exact ⟨a, _, e, ha⟩
theorem SlS.setOwn {Fm H0 H : Hp} {σ : St} {ρ : Rho} {d : PyData} {v : V} (h0 : SlS Fm H0 σ ρ) (h : SlS Fm H σ ρ) (hs : Same H0 H) (i : Nat) (hn : NRp H0 H d v) : SlS Fm H (σ.set i (some v)) (ρ.set i (.own d)) := by
  obtain ⟨p, a, rfl, ha⟩ := hn
  have old : ∀ (j : Nat) (e : PyData) (b : Addr), i ≠ j → (ρ.set i (.own d))[j]? = some (.own e) → (σ.set i (some (.ref a)))[j]? = some (some (.ref b)) → ρ[j]? = some (.own e) ∧ σ[j]? = some (some (.ref b)) := fun j e b ne h1 h2 => by
    rw [List.getElem?_set, if_neg ne] at h1 h2
    exact ⟨h1, h2⟩
  have notA : ∀ (j : Nat) (e : PyData), ρ[j]? = some (.own e) → σ[j]? = some (some (.ref a)) → False := fun j e h1 h2 => by
    obtain ⟨u, e1, q⟩ := h0.sl.2 j _ _ h1 h2
    cases e1
    obtain ⟨b, o, e2, hb⟩ := orp_ref q
    cases e2
    rw [ha] at hb; cases hb
  have here : ∀ (b : Addr), (σ.set i (some (.ref a)))[i]? = some (some (.ref b)) → b = a := fun b h2 => by
    rw [List.getElem?_set, if_pos rfl] at h2
    split at h2
    · cases h2; rfl
    · cases h2
  refine ⟨h.fm, h.sl.set i ⟨_, rfl, p⟩, fun j e b h1 h2 => ?_, fun j k e f b h1 h2 h3 h4 => ?_⟩
  · by_cases hij : i = j
    · subst hij
      rw [here b h2]
      exact (h0.fm).free ha
    · obtain ⟨h1, h2⟩ := old j e b hij h1 h2
      exact h.own j e b h1 h2
  · by_cases hij : i = j
    · subst hij
      have eb := here b h3
      by_cases hik : i = k
      · exact hik
      · obtain ⟨h2, h4⟩ := old k f b hik h2 h4
        rw [eb] at h4
        exact (notA k f h2 h4).elim
    · obtain ⟨h1, h3⟩ := old j e b hij h1 h3
      by_cases hik : i = k
      · subst hik
        have eb := here b h4
        rw [eb] at h3
        exact (notA j e h1 h3).elim
      · obtain ⟨h2, h4⟩ := old k f b hik h2 h4
        exact h.apart j k e f b h1 h2 h3 h4
theorem es_set (T : Tb X nl G) (i : Nat) (hN : (X.N.take nl)[i]? = some x) (he : EvE X e f) (hs : swapsWith e (some (.Name x pos')) pos.line X.env = pure false := by rfl) : EvS X (.Assign [.Name x pos'] e pos) (sSet i f) := fun Fm => by
  have hm := T.loc x (List.mem_of_getElem? hN)
  have hi : X.N[i]? = some x := by
    rw [List.getElem?_take] at hN
    split at hN
    · exact hN
    · cases hN
  exact PS.imp (ps_set T.nd hi hm.1 he hs hm.2) fun D σ H h => (bind_s (P := PRp) (f := f) (k := fun ρ d => .ok (.nx (ρ.set i (.val d)))) h).post fun v H1 ⟨ρ, d, sl, _, p, q⟩ =>
    q _ H1 (sl.set i (fun e z => by cases z) ⟨v, rfl, p⟩)
theorem Z.es_set (T : Tb X nl G) (i : Nat) (hN : (X.N.take nl)[i]? = some x) (he : Z.EvE X e f) (hs : swapsWith e (some (.Name x pos')) pos.line X.env = pure false := by rfl) : Z.EvS X (.Assign [.Name x pos'] e pos) (sSet i f) :=
  ⟨D2.es_set T i hN he.un hs⟩
theorem es_own (T : Tb X nl G) (i : Nat) (hN : (X.N.take nl)[i]? = some x) (he : EvN X e f) (hs : swapsWith e (some (.Name x pos')) pos.line X.env = pure false := by rfl) : EvS X (.Assign [.Name x pos'] e pos) (sOwn i f) := fun Fm => by
  have hm := T.loc x (List.mem_of_getElem? hN)
  have hi : X.N[i]? = some x := by
    rw [List.getElem?_take] at hN
    split at hN
    · exact hN
    · cases hN
  refine PS.imp (ps_set T.nd hi hm.1 he hs hm.2) fun D σ H h => ?_
  obtain ⟨ρ0, sl0, q0⟩ := h
  refine ⟨ρ0, sl0.sl, ?_⟩
  unfold sOwn at q0
  cases ef : f ρ0 with
  | ex c => rw [ef] at q0; exact q0.1.mono sl0.fm
  | no => rw [ef] at q0; exact q0
  | ok d =>
    rw [ef] at q0
    exact fun v H1 s p => q0 _ H1 (SlS.setOwn sl0 (sl0.mono s) s i p)
theorem Z.es_own (T : Tb X nl G) (i : Nat) (hN : (X.N.take nl)[i]? = some x) (he : Z.EvN X e f) (hs : swapsWith e (some (.Name x pos')) pos.line X.env = pure false := by rfl) : Z.EvS X (.Assign [.Name x pos'] e pos) (sOwn i f) :=
  ⟨D2.es_own T i hN he.un hs⟩
end
structure ItD (J : It) (Gd : Hp → Prop) (ds : List PyData) : Prop where
  go : ∀ i H, Gd H → i < ds.length → J.go i H
  yld : ∀ i H x H' d, Gd H → ds[i]? = some d → J.yld i H x H' → Same H H' ∧ Rp H' d x
  stop : ∀ i H, Gd H → ds.length ≤ i → J.stop i H
def Sta (H0 : Hp) (B : Addr → Prop) (Gd : Hp → Prop) : Prop := ∀ H, Kp H0 H → (∀ b o, B b → H0 b = some o → H b = some o) → Gd H
def rdI (X : Cx) (f : Rho → R (List PyData)) : TI := fun σ H Rk => ∃ ρ, Sl H σ ρ ∧ match f ρ with
  | .ok ds => ∀ J H', Same H H' → (∃ Gd, ItD J Gd ds ∧ Sta H' (fun _ => False) Gd) → Rk J H'
  | .ex c => Xw X c H
  | .no => False
def EvI (X : Cx) (tg iter : Expr) (f : Rho → R (List PyData)) : Prop := PI X tg iter (rdI X f)
structure Z.EvI (X : Cx) (tg iter : Expr) (f : Rho → R (List PyData)) : Prop where
  un : D2.EvI X tg iter f
def rdG (X : Cx) (b : PyData → Rho → Option Rho) : TG := fun v σ H Q => ∃ ρ d, Sl H σ ρ ∧ Rp H d v ∧ match b d ρ with
  | some ρ' => ∀ σ', Sl H σ' ρ' → (∀ (i : Nat) (e : PyData), ρ'[i]? = some (.own e) → ρ[i]? = some (.own e) ∧ σ'[i]? = σ[i]?) → Q σ' H
  | none => False
def EvG (X : Cx) (tg : Expr) (b : PyData → Rho → Option Rho) : Prop := PG X tg (rdG X b)
structure Z.EvG (X : Cx) (tg : Expr) (b : PyData → Rho → Option Rho) : Prop where
  un : D2.EvG X tg b
def bName (i : Nat) : PyData → Rho → Option Rho := fun d ρ => some (ρ.set i (.val d))
theorem PG.imp {X : Cx} {e : Expr} {t t' : TG} (h : PG X e t) (i : ∀ v σ H Q, t' v σ H Q → t v σ H Q) : PG X e t' := fun pins s σ H v u Q I r q => h pins s σ H v u Q I r (i v σ H Q q)
theorem PI.imp {X : Cx} {tg e : Expr} {t t' : TI} (h : PI X tg e t) (i : ∀ σ H Q, t' σ H Q → t σ H Q) : PI X tg e t' := fun pins s σ H Q I q => h pins s σ H Q I (i σ H Q q)
section
variable {X : Cx} {nl : Nat} {G : List Str} {x : Str} {pos : Pos}
theorem Tb.nm (T : Tb X nl G) {i : Nat} (hN : (X.N.take nl)[i]? = some x) : X.N[i]? = some x ∧ Loc X.env.scope x ∧ (X.fn x = true ∨ X.env.scope.names.lookup x = some .local) := by
  have hm := T.loc x (List.mem_of_getElem? hN)
  have hi : X.N[i]? = some x := by
    rw [List.getElem?_take] at hN
    split at hN
    · exact hN
    · cases hN
  exact ⟨hi, hm⟩
theorem eg_name (T : Tb X nl G) (i : Nat) (hN : (X.N.take nl)[i]? = some x) : EvG X (.Name x pos) (bName i) := by
  obtain ⟨hi, h1, h2⟩ := T.nm hN
  refine PG.imp (pg_name T.nd hi h1 h2) fun v σ H Q ⟨ρ, d, sl, p, q⟩ => ?_
  refine q _ (sl.set i ⟨v, rfl, p⟩) fun j e h => ?_
  obtain ⟨ne, h⟩ := get_set_own (fun e z => by cases z) h
  exact ⟨h, by rw [List.getElem?_set, if_neg ne]⟩
theorem Z.eg_name (T : Tb X nl G) (i : Nat) (hN : (X.N.take nl)[i]? = some x) : Z.EvG X (.Name x pos) (bName i) :=
  ⟨D2.eg_name T i hN⟩
end
def forR (b : PyData → Rho → Option Rho) (g : Fs) : List PyData → Fs
  | [], ρ => .ok (.nx ρ)
  | d :: ds, ρ => match b d ρ with
    | none => .no
    | some ρ1 => g ρ1 >>= fun o => match o with
      | .nx ρ2 => forR b g ds ρ2
      | .ct ρ2 => forR b g ds ρ2
      | .bk ρ2 => .ok (.nx ρ2)
      | .rt r => .ok (.rt r)
def sFor (it : Rho → R (List PyData)) (b : PyData → Rho → Option Rho) (g : Fs) : Fs := fun ρ => it ρ >>= fun ds => forR b g ds ρ
def stab (Fm H : Hp) : Hp := fun b => match H b with
  | some (.tup xs) => some (.tup xs)
  | some (.frz o u) => some (.frz o u)
  | _ => Fm b
theorem stab_same {Fm H : Hp} (h : Same Fm H) : Same (stab Fm H) H := fun b o e => by
  unfold stab at e
  split at e
  · rename_i q; rw [q]; exact e
  · rename_i q; rw [q]; exact e
  · exact h b o e
theorem stab_kp {Fm H : Hp} : Kp H (stab Fm H) := ⟨fun b xs e => by unfold stab; rw [e], fun b o u e => by unfold stab; rw [e]⟩
theorem stab_fm {Fm H : Hp} (h : Same Fm H) : Same Fm (stab Fm H) := fun b o e => by
  have := h b o e
  unfold stab
  split
  · rename_i q; rw [this] at q; exact q.symm
  · rename_i q; rw [this] at q; exact q.symm
  · exact e
theorem SlS.stab {Fm H : Hp} {σ : St} {ρ : Rho} (h : SlS Fm H σ ρ) : SlS (stab Fm H) H σ ρ := by
  refine ⟨stab_same h.fm, h.sl, fun i d a h1 h2 => ?_, h.apart⟩
  have f := h.own i d a h1 h2
  obtain ⟨u, e1, q⟩ := h.sl.2 i _ _ h1 h2
  cases e1
  unfold D2.stab
  cases d <;> simp only [ORp] at q
  · obtain ⟨b, vs, e, hb, _⟩ := q; cases e; rw [hb]; exact f
  · obtain ⟨b, vs, e, hb, _⟩ := q; cases e; rw [hb]; exact f
theorem SlS.unstab {Fm F H : Hp} {σ : St} {ρ : Rho} (hF : Same Fm F) (h : SlS F H σ ρ) : SlS Fm H σ ρ := ⟨hF.trans h.fm, h.sl, fun i d a h1 h2 => hF.free (h.own i d a h1 h2), h.apart⟩
theorem es_for {X : Cx} {tg iter : Expr} {body : List Stmt} {it : Rho → R (List PyData)} {b : PyData → Rho → Option Rho} {g : Fs} {pos : Pos} (hp : PassesOwn (model X.prog X.w) X.A X.env X.xe) (hc : X.calm = true) (hi : EvI X tg iter it) (hg : EvG X tg b)
    (hb : EvSs X body g) (hs : ∀ x, foldedSetIterable iter X.env x = pure x := by intro _; rfl) : EvS X (.For tg iter body [] pos) (sFor it b g) := fun Fm => by
  intro pins s σ H D I h
  obtain ⟨ρ, sl, q⟩ := h
  unfold sFor at q
  -- the frame: what is stable at the loop's start is only known behind the iterator's making: the body is taken at every frame
  refine ps_for (wi := rdI X it) (g := rdG X b) (tb := fun D' σ' H' => ∃ F, rdS X F g D' σ' H') hp hc hi hg (fun pins' s' σ' H' D' I' ⟨F, q'⟩ => hb F pins' s' σ' H' D' I' q') hs pins s σ H D I ?_
  refine ⟨ρ, sl.sl, ?_⟩
  cases ei : it ρ with
  | ex c => rw [ei] at q; exact q.1.mono sl.fm
  | no => rw [ei] at q; exact q
  | ok ds =>
    rw [ei] at q
    intro J H1 s1 ⟨Gd, idt, sta⟩
    have sl1 := sl.mono s1
    let F := stab Fm H1
    have hF : Same Fm F := stab_fm sl1.fm
    -- the word: so many items are taken, and the rest gives what the whole gives
    refine ⟨fun i m σ' H' => m = ds.length - i ∧ i ≤ ds.length ∧ ∃ ρ', SlS F H' σ' ρ' ∧ rdO X Fm (forR b g (ds.drop i) ρ') D, ⟨ds.length, by simp, Nat.zero_le _, ρ, sl1.stab, by simpa using q⟩, ?_⟩
    rintro i m σ2 H2 ⟨rfl, hi', ρ2, sl2, q2⟩
    have gd : Gd H2 := sta H2 (Kp.trans stab_kp (Kp.of sl2.fm)) fun _ _ z => z.elim
    by_cases hlt : i < ds.length
    · refine .inr ⟨idt.go i H2 gd hlt, fun σ' H' => i + 1 ≤ ds.length ∧ ∃ ρ', SlS F H' σ' ρ' ∧ rdO X Fm (forR b g (ds.drop (i + 1)) ρ') D, fun σ' H' ⟨z, p⟩ => ⟨ds.length - (i + 1), by omega, rfl, z, p⟩, fun x H3 y => ?_⟩
      obtain ⟨d, hd⟩ : ∃ d, ds[i]? = some d := ⟨ds[i], List.getElem?_eq_getElem hlt⟩
      obtain ⟨s3, p3⟩ := idt.yld i H2 x H3 d gd hd y
      have hdrop : ds.drop i = d :: ds.drop (i + 1) := by
        rw [List.drop_eq_getElem_cons hlt]
        congr 1
        exact Option.some.inj ((List.getElem?_eq_getElem hlt).symm.trans hd)
      rw [hdrop] at q2
      unfold forR at q2
      have sl3 := sl2.mono s3
      refine ⟨ρ2, d, sl3.sl, p3, ?_⟩
      cases eb : b d ρ2 with
      | none => rw [eb] at q2; exact q2
      | some ρ3 =>
        rw [eb] at q2
        intro σ4 sl4 hown
        refine ⟨F, ρ3, ⟨sl3.fm, sl4, fun j e a h1 h2 => ?_, fun j k e f a h1 h2 h3 h4 => ?_⟩, ?_⟩
        · obtain ⟨z1, z2⟩ := hown j e h1
          exact sl3.own j e a z1 (by rw [← z2]; exact h2)
        · obtain ⟨z1, z2⟩ := hown j e h1
          obtain ⟨z3, z4⟩ := hown k f h2
          exact sl3.apart j k e f a z1 z3 (by rw [← z2]; exact h3) (by rw [← z4]; exact h4)
        · have q3 : rdO X Fm (g ρ3 >>= fun o => match o with
            | .nx ρ2 => forR b g (ds.drop (i + 1)) ρ2
            | .ct ρ2 => forR b g (ds.drop (i + 1)) ρ2
            | .bk ρ2 => .ok (.nx ρ2)
            | .rt r => .ok (.rt r)) D := q2
          cases eg : g ρ3 with
          | ex c => rw [eg] at q3; exact ⟨q3.1.mono hF, q3.2.mono hF⟩
          | no => rw [eg] at q3; exact q3
          | ok o =>
            rw [eg] at q3
            cases o with
            | nx ρ4 => exact fun σ' H' s' => ⟨hlt, ρ4, s', q3⟩
            | ct ρ4 => exact fun σ' H' s' => ⟨hlt, ρ4, s', q3⟩
            | bk ρ4 => exact fun σ' H' s' => q3 σ' H' (s'.unstab hF)
            | rt r => exact fun v H' s' p' => q3 v H' (hF.trans s') p'
    · have e : i = ds.length := by omega
      subst e
      refine .inl ⟨idt.stop _ H2 gd (Nat.le_refl _), ?_⟩
      rw [List.drop_length] at q2
      exact q2 σ2 H2 (sl2.unstab hF)
theorem Z.es_for {X : Cx} {tg iter : Expr} {body : List Stmt} {it : Rho → R (List PyData)} {b : PyData → Rho → Option Rho} {g : Fs} {pos : Pos} (hp : PassesOwn (model X.prog X.w) X.A X.env X.xe) (hc : X.calm = true) (hi : Z.EvI X tg iter it) (hg : Z.EvG X tg b) (hb : Z.EvSs X body g) (hs : ∀ x, foldedSetIterable iter X.env x = pure x := by intro _; rfl) : Z.EvS X (.For tg iter body [] pos) (sFor it b g) :=
  ⟨D2.es_for hp hc hi.un hg.un hb.un hs⟩
def fnR (n : Nat) (g : Fs) : List PyData → R PyData := fun ds => g (ds.map Cell.val ++ List.replicate (n - ds.length) .non) >>= fun o => match o with
  | .rt d => .ok d
  | .nx _ => .ok .none
  | _ => .no
def spD (F : List PyData → R PyData) (n : Nat) : Sp := fun vs H Q E => ∃ ds, RpA H ds vs ∧ ds.length = n ∧ match F ds with
  | .ok d => ∀ v H', Same H H' → Rp H' d v → Q v H'
  | .ex c => ∀ H', Same H H' → E (.str c 0) none H'
  | .no => False
theorem start_sl {H : Hp} {N : List Str} : ∀ {ds : List PyData} {vs : List V}, RpA H ds vs → Sl H (L2.start N vs) (ds.map Cell.val ++ List.replicate (N.length - ds.length) .non) := fun {ds vs} r => by
  have hl := r.length
  refine ⟨by unfold L2.start; rw [List.length_append, List.length_append, List.length_map, List.length_map, List.length_replicate, List.length_replicate, hl], fun i c o h1 h2 => ?_⟩
  by_cases hi : i < ds.length
  · rw [List.getElem?_append_left (by simpa using hi), List.getElem?_map] at h1
    cases e : ds[i]? with
    | none => rw [e] at h1; cases h1
    | some d =>
      rw [e] at h1
      cases h1
      obtain ⟨v, e1, p⟩ := r.get e
      unfold L2.start at h2
      rw [List.getElem?_append_left (by rw [List.length_map, hl]; exact hi), List.getElem?_map, e1] at h2
      cases h2
      exact ⟨v, rfl, p⟩
  · rw [List.getElem?_append_right (by simpa using hi), List.getElem?_replicate] at h1
    split at h1
    · cases h1; exact True.intro
    · cases h1
section
variable {P : Program} {w : World} {H : Hp} {h : Heap} {a : Addr}
theorem objGet : ∀ {o : HO}, ObjOk P w H h a o → ∃ u, h.get? a = some u
  | .lst xs, x => by obtain ⟨_, _, _, _, e⟩ := x; exact ⟨_, e⟩
  | .tup xs, x => by obtain ⟨_, _, _, o, e, _⟩ := x; exact ⟨_, e⟩
  | .dK kvs, x => by obtain ⟨_, _, _, _, o, _, _, e, _⟩ := x; exact ⟨_, e⟩
  | .dT kvs, x => by obtain ⟨_, _, _, _, o, _, _, e, _⟩ := x; exact ⟨_, e⟩
  | .set S n, x => by obtain ⟨o, _, _, _, e, _⟩ := x; exact ⟨_, e⟩
  | .ins C dx fs, x => by obtain ⟨_, _, _, e, _⟩ := x; exact ⟨_, e⟩
  | .own y, x => by obtain ⟨_, e⟩ := x; exact ⟨_, e⟩
  | .xd fs, x => by obtain ⟨_, ⟨_, _, _, e, _⟩, _⟩ := x; exact ⟨_, e⟩
  | .rng lo hi, x => by obtain ⟨_, _, _, e⟩ := x; exact ⟨_, e⟩
  | .frz ob u, x => by obtain ⟨e, _⟩ := x; exact ⟨_, e⟩
  | .tbl ps, x => ⟨_, (show h.get? a = some _ from x)⟩
  | .met f y, x => ⟨_, (show h.get? a = some _ from x)⟩
  | .ext φ, x => by obtain ⟨_, ⟨_, e⟩, _⟩ := x; exact ⟨_, e⟩
end
theorem Fly.un {P : Program} {w : World} {outer : List Env} {H H' : Hp} {s s' : Shared} {C : Addr} {e : Value} (f : Fly P w outer H s C H' e s') : Un (frs outer) [] H H' s.heap s'.heap := by
  obtain ⟨p, a0, B, _, fl, ok, _, cov⟩ := f.ex
  refine ⟨fun b o q n hb _ => fl.1 _ _ (cov b o q n hb).1, fun b o q n hb _ => (f.slot b o q n hb).1, fun b o q n _ => ?_, fun b o q _ => ?_, fun b xs q => f.same _ _ q, fun b o u q => f.same _ _ q, fun b ps q => ⟨#[], by rw [f.same _ _ q]; simp⟩⟩
  · by_cases hb : b ∈ frs outer
    · exact (f.slot b o q n hb).2
    · exact (cov b o q n hb).2
  · cases n : H b with
    | none =>
      by_cases hb : b ∈ frs outer
      · obtain ⟨sl, z⟩ := (f.slot b o q n hb).1; exact ⟨_, z⟩
      · exact ⟨o, fl.1 _ _ (cov b o q n hb).1⟩
    | some u =>
      obtain ⟨o', z⟩ := objGet (ok b u (f.same _ _ n))
      exact ⟨o', fl.1 _ _ z⟩
theorem Fly.hok {P : Program} {w : World} {outer : List Env} {H H' : Hp} {s s' : Shared} {C : Addr} {e : Value} (f : Fly P w outer H s C H' e s') : HOk P w H' s'.heap := by
  obtain ⟨p, a0, B, _, fl, ok, _, _⟩ := f.ex
  exact ok.kept fun b u q => fl.1 b u q
section
variable {P : Program} {w : World} {K : PySem.W.Frag} {mg : Str → Option Value} {base : Heap} {N : List Str} {qual : Str} {sc : Scope} {f : Addr} {cdv : Value} {A : Around} {outer : List Env} {s : Shared} {H : Hp} {E : XK} {c : Str}
theorem xw_def (h : ∀ H', Same H H' → E (.str c 0) none H') : Xw (cxOf (CXD P w mg) P w K mg base N qual sc f cdv A outer s H E) c H := by
  intro H1 s1 n C en hm pins σ Hc sc' e s' I fl
  have en' : c = n := by injection en
  subst en'
  obtain ⟨p, a0, B, rfl, fly, okB, hp, cov⟩ := fl.ex
  have old : ∀ b o, s.heap.get? b = some o → b ≠ s.heap.objs.size := fun b o q => Nat.ne_of_lt (Heap.lt_size q)
  refine wpAny_leaves_onW I.ok.frames rfl fly fun h' fl' up => ⟨c, C, H1, hm, ⟨fl.os.trans I.os, fl.bare, s1, ⟨p, a0, B, rfl, fl', okB, hp, fun b o q n hb => ?_⟩, fun b o q n hb => ?_⟩, h H1 s1⟩
  · have q1 := I.base.keep b o q n hb (by simp [cxOf])
    have n1 := I.base.free b o q n (by simp [cxOf])
    refine cov b o q1 n1 fun z => ?_
    have z' : b ∈ (s.heap.objs.size :: frs outer) := z
    rcases List.mem_cons.mp z' with z2 | z2
    · exact old b o q z2
    · exact hb z2
  · obtain ⟨sl, q1⟩ := I.base.slot b o q n hb (by simp [cxOf])
    have n1 := I.base.free b o q n (by simp [cxOf])
    have hb' : b ∈ frs (cxOf (CXD P w mg) P w K mg base N qual sc f cdv A outer s H E).stack := List.mem_cons_of_mem _ hb
    obtain ⟨⟨sl', q2⟩, n2⟩ := fl.slot b _ q1 n1 hb'
    obtain ⟨_, o3, q3, nf⟩ := fly.2.2.1.mem hb'
    rw [q2] at q3
    cases q3
    obtain ⟨sl3, q4⟩ := up b _ q2 nf
    exact ⟨⟨sl3, q4⟩, n2⟩
theorem xwM_def (h : ∀ H', Same H H' → E (.str c 0) none H') : XwM (cxOf (CXD P w mg) P w K mg base N qual sc f cdv A outer s H E) c H := by
  intro C hm pins σ Hm sm sH I h' p vs hx
  have hin : ∀ env ∈ (cxOf (CXD P w mg) P w K mg base N qual sc f cdv A outer s H E).stack, ∀ b, env.frame = some b → b ∈ frs (cxOf (CXD P w mg) P w K mg base N qual sc f cdv A outer s H E).stack := fun env he b hb => List.mem_filterMap.mpr ⟨env, he, hb⟩
  have old : ∀ b o, s.heap.get? b = some o → b ≠ s.heap.objs.size := fun b o q => Nat.ne_of_lt (Heap.lt_size q)
  refine wpAny_leaves_madeW (s := { sm with heap := h' }) (base := PySem.W.hideAll sm.heap (frs (cxOf (CXD P w mg) P w K mg base N qual sc f cdv A outer s H E).stack)) I.ok.frames rfl (fun b o q => PySem.W.of_hideAll _ q) (PySem.W.funFrames_hide I.stack hin) hx fun h'' t fl' _ _ up =>
    ⟨c, C, Hm, hm, ⟨I.os, I.bare, sH, ⟨p, .ref t, _, rfl, fl', fun b u q => ?_, ?_, fun b o q n hb => ?_⟩, fun b o q n hb => ?_⟩, h Hm sH⟩
  · refine (I.hok b u q).stay (fun c' v hc z => PySem.W.hideAll_get _ z fun m => ?_) (fun _ z => z) fun _ _ z => z
    have hn := I.stkFree c' m
    rcases hc with rfl | hc
    · rw [hn] at q; cases q
    · rw [hn] at hc; cases hc
  · cases q : Hm p with
    | none => rfl
    | some u =>
      obtain ⟨o', z⟩ := objGet (I.hok p u q)
      rw [hx.new] at z; cases z
  · have q1 := I.base.keep b o q n hb (by simp [cxOf])
    have n1 := I.base.free b o q n (by simp [cxOf])
    refine ⟨PySem.W.hideAll_get _ q1 fun z => ?_, n1⟩
    have z' : b ∈ (s.heap.objs.size :: frs outer) := z
    rcases List.mem_cons.mp z' with z2 | z2
    · exact old b o q z2
    · exact hb z2
  · obtain ⟨sl, q1⟩ := I.base.slot b o q n hb (by simp [cxOf])
    have n1 := I.base.free b o q n (by simp [cxOf])
    have hb' : b ∈ frs (cxOf (CXD P w mg) P w K mg base N qual sc f cdv A outer s H E).stack := List.mem_cons_of_mem _ hb
    obtain ⟨_, o3, q3, nf⟩ := I.stack.mem hb'
    rw [q1] at q3
    cases q3
    obtain ⟨sl3, q4⟩ := up b _ (hx.keeps _ _ q1) nf
    exact ⟨⟨sl3, q4⟩, n1⟩
end
theorem fn_data {P : Program} {w : World} {K : PySem.W.Frag} {mg : Str → Option Value} {base : Heap} {x qual : Str} {st : Stmt} {f : Addr} {fd : FuncData} {N ps : List Str} {k : Nat} {g : Fs} (F : Fun K x qual st f fd) (S : FnScope N ps (defScope st))
    (body : ∀ (cdv : Value) (A : Around) (outer : List Env) (s : Shared) (H : Hp) (E : XK), Room k (A.deeper (envOfC qual (defScope st) s.heap.objs.size f cdv)) →
      EvSs (cxOf (CXD P w mg) P w K mg base N qual (defScope st) f cdv A outer s H E) (defBody st) g) : FnOk P w K mg base (CXD P w mg) (k + 1) f fd ps (spD (fnR N.length g) ps.length) := by
  obtain ⟨oc, od, kV, doc, pm, an, cdv, ct, osl, rfl, lk, hcd⟩ := F.ex
  refine fn_of lk hcd S (fun vs H Q E ⟨ds, r, hl, _⟩ => by rw [r.length]; exact hl) fun A outer s H vs Q E hr h => ?_
  obtain ⟨ds, r, hl, q⟩ := h
  have noOwn : ∀ (i : Nat) (d : PyData), (ds.map Cell.val ++ List.replicate (N.length - ds.length) Cell.non)[i]? = some (.own d) → False := fun i d h1 => by
    by_cases hi : i < ds.length
    · rw [List.getElem?_append_left (by simpa using hi), List.getElem?_map] at h1
      cases e : ds[i]? with
      | none => rw [e] at h1; cases h1
      | some d => rw [e] at h1; cases h1
    · rw [List.getElem?_append_right (by simpa using hi), List.getElem?_replicate] at h1
      split at h1
      · cases h1
      · cases h1
  refine ⟨_, body cdv A outer s H E hr H, _, ⟨Same.refl _, start_sl r, fun i d a h1 h2 => (noOwn i d h1).elim, fun i j d e a h1 h2 h3 h4 => (noOwn i d h1).elim⟩, ?_⟩
  unfold fnR at q
  cases eg : g (ds.map Cell.val ++ List.replicate (N.length - ds.length) .non) with
  | ex c => rw [eg] at q; exact ⟨xw_def q, xwM_def q⟩
  | no => rw [eg] at q; exact q.elim
  | ok o =>
    rw [eg] at q
    cases o with
    | rt d => exact fun v H' s' p => q v H' s' p
    | nx ρ => exact fun σ' H' s' => q .non H' s'.fm (by simp only [Rp])
    | bk ρ => exact q.elim
    | ct ρ => exact q.elim
def eCall (F : List PyData → R PyData) (fs : Rho → R (List PyData)) : Fe := fun ρ => fs ρ >>= F
theorem ev_call {X : Cx} {k n : Nat} {f : Addr} {fd : FuncData} {ps : List Str} {F : List PyData → R PyData} {x : Str} {p pos : Pos} {e : Expr} {es : List Expr} {fs : Rho → R (List PyData)} {nl : Nat} {G : List Str}
    (C : FnOk X.prog X.w X.K X.mg X.base (CXD X.prog X.w X.mg) k f fd ps (spD F n)) (hr : Room k X.A) (T : Tb X nl G) (j : Nat) (hG : G[j]? = some x) (hm : X.mg x = some (.ref f)) (hk : PySem.W.keepIn X.K (.ref f) = true) (hb : Binds X.K fd ps []) (ha : EvA X (e :: es) fs)
    (hlen : (e :: es).length = n) (hfs : ∀ ρ ds, fs ρ = .ok ds → ds.length = n)
    (he : (e :: es).all notStar = true := by rfl) : EvE X (.Call (.Name x p) (e :: es) [] pos) (eCall F fs) := by
  rw [List.all_cons, Bool.and_eq_true] at he
  have g := T.gl x (List.mem_of_getElem? hG)
  refine PE.imp (pe_call C hr g.1 hm hk hb .nil passesD ha g.2.1 (star_cons he.1) (star_any he.2)) fun σ H Q ⟨ρ, sl, q⟩ => ?_
  refine ⟨ρ, sl, ?_⟩
  unfold eCall at q
  cases e1 : fs ρ with
  | ex c => rw [e1] at q; exact q
  | no => rw [e1] at q; exact q
  | ok ds =>
    rw [e1] at q
    intro vs H1 s1 r1
    rw [List.append_nil]
    refine ⟨ds, ra_iff.mp r1, hfs ρ ds e1, ?_⟩
    have q' : rdR X PRp (F ds) H Q := q
    cases e2 : F ds with
    | ok d => rw [e2] at q'; exact fun v H' s' p' => q' v H' (s1.trans s') p'
    | ex c => rw [e2] at q'; exact fun H' s' => q' H' (s1.trans s')
    | no => rw [e2] at q'; exact q'
theorem Z.ev_call {X : Cx} {k n : Nat} {f : Addr} {fd : FuncData} {ps : List Str} {F : List PyData → R PyData} {x : Str} {p pos : Pos} {e : Expr} {es : List Expr} {fs : Rho → R (List PyData)} {nl : Nat} {G : List Str} (C : FnOk X.prog X.w X.K X.mg X.base (CXD X.prog X.w X.mg) k f fd ps (spD F n)) (hr : Room k X.A) (T : Tb X nl G) (j : Nat) (hG : G[j]? = some x) (hm : X.mg x = some (.ref f)) (hk : PySem.W.keepIn X.K (.ref f) = true) (hb : Binds X.K fd ps []) (ha : Z.EvA X (e :: es) fs) (hlen : (e :: es).length = n) (hfs : ∀ ρ ds, fs ρ = .ok ds → ds.length = n) (he : (e :: es).all notStar = true := by rfl) : Z.EvE X (.Call (.Name x p) (e :: es) [] pos) (eCall F fs) :=
  ⟨D2.ev_call C hr T j hG hm hk hb ha.un hlen hfs he⟩
theorem aNil_len : ∀ ρ ds, aNil ρ = .ok ds → ds.length = 0 := fun ρ ds e => by cases e; rfl
theorem aCons_len {f : Fe} {g : Rho → R (List PyData)} {n : Nat} (h : ∀ ρ ds, g ρ = .ok ds → ds.length = n) : ∀ ρ ds, aCons f g ρ = .ok ds → ds.length = n + 1 := fun ρ ds e => by
  unfold aCons at e
  cases e1 : f ρ with
  | ex c => rw [e1] at e; cases e
  | no => rw [e1] at e; cases e
  | ok d =>
    rw [e1] at e
    cases e2 : g ρ with
    | ex c => rw [e2] at e; cases e
    | no => rw [e2] at e; cases e
    | ok ds' => rw [e2] at e; cases e; rw [List.length_cons, h ρ ds' e2]
end D2
set_option Elab.async false
set_option linter.all false
set_option maxRecDepth 100000
set_option maxHeartbeats 4000000
namespace D2
open PySem PySem.Spec PyProof.Rows L2
theorem closure_of {scope : Scope} {env : Env} (h : ∀ x ∈ scope.names, x.2 = .free → ∃ c, env.cells.lookup x.1 = some c) :
    ∃ cl, closureFor scope env = pure cl ∧ (∀ x c, cl.lookup x = some c → env.cells.lookup x = some c) ∧ ∀ x ∈ scope.names, x.2 = .free → ∃ c, cl.lookup x.1 = some c := by
  suffices gen : ∀ (names : List (Str × NameKind)) (acc : List (Str × Addr)), (∀ x ∈ names, x.2 = .free → ∃ c, env.cells.lookup x.1 = some c) → (∀ x c, acc.lookup x = some c → env.cells.lookup x = some c) →
      ∃ cl, (forIn names acc fun x r => if (x.snd == NameKind.free) = true then do let a ← cellOf env x.fst; pure (ForInStep.yield ((x.fst, a) :: r)) else pure (ForInStep.yield r) : Sem (List (Str × Addr))) = pure cl ∧
        (∀ x c, cl.lookup x = some c → env.cells.lookup x = some c) ∧ (∀ x c, acc.lookup x = some c → ∃ c', cl.lookup x = some c') ∧ ∀ x ∈ names, x.2 = .free → ∃ c, cl.lookup x.1 = some c by
    obtain ⟨cl, h1, h2, _, h4⟩ := gen scope.names [] h fun x c e => by simp at e
    refine ⟨cl, ?_, h2, h4⟩
    simp only [closureFor]
    rw [h1]
    rfl
  intro names
  induction names with
  | nil => intro acc _ ha; exact ⟨acc, rfl, ha, fun x c e => ⟨c, e⟩, fun x hx => by cases hx⟩
  | cons y r ih =>
    intro acc hn ha
    obtain ⟨n, k⟩ := y
    by_cases hk : k = .free
    · subst hk
      obtain ⟨c, hc⟩ := hn (n, .free) List.mem_cons_self rfl
      obtain ⟨cl, e1, e2, e3, e4⟩ := ih ((n, c) :: acc) (fun x hx => hn x (List.mem_cons_of_mem _ hx)) (fun x c' e => by
        rw [List.lookup_cons] at e
        split at e
        · rename_i q
          have : x = n := by simpa using q
          subst this; cases e; exact hc
        · exact ha x c' e)
      refine ⟨cl, ?_, e2, fun x c' e => ?_, fun x hx hf => ?_⟩
      · rw [List.forIn_cons]
        have : cellOf env n = pure c := by unfold cellOf; rw [hc]
        simp only [beq_self_eq_true, if_true, this, pure_bind]
        exact e1
      · by_cases hx : x = n
        · subst hx; exact e3 x c (by rw [List.lookup_cons]; simp)
        · have hb : (x == n) = false := by simpa using hx
          exact e3 x c' (by rw [List.lookup_cons, hb]; exact e)
      · rcases List.mem_cons.mp hx with rfl | hx
        · exact e3 n c (by rw [List.lookup_cons]; simp)
        · exact e4 x hx hf
    · obtain ⟨cl, e1, e2, e3, e4⟩ := ih acc (fun x hx => hn x (List.mem_cons_of_mem _ hx)) ha
      refine ⟨cl, ?_, e2, e3, fun x hx hf => ?_⟩
      · rw [List.forIn_cons]
        have : (k == NameKind.free) = false := by simpa using hk
        simp only [this, Bool.false_eq_true, if_false, pure_bind]
        exact e1
      · rcases List.mem_cons.mp hx with rfl | hx
        · exact absurd hf hk
        · exact e4 x hx hf
def reK (env : Env) (p : Str × NameKind) : NameKind := if (p.2 == .free && env.scope.kind == .function && env.kindOf p.1 == some .cell) = true then .cell else p.2
theorem relabel_names (scope : Scope) (env : Env) : (relabel scope env).names = scope.names.map fun p => (p.1, reK env p) := by
  unfold relabel
  refine List.map_congr_left fun p _ => ?_
  obtain ⟨n, k⟩ := p
  unfold reK
  dsimp only
  split <;> rfl
theorem lookup_mapv (g : Str × NameKind → NameKind) (x : Str) : ∀ l : List (Str × NameKind), (l.map fun p => (p.1, g p)).lookup x = (l.lookup x).map fun k => g (x, k)
  | [] => rfl
  | (n, k) :: r => by
    rw [List.map_cons]
    cases hx : x == n with
    | true =>
      have e : x = n := by simpa using hx
      subst e
      simp
    | false =>
      have ne : ¬ x = n := by simpa using hx
      simp only [List.lookup_cons, hx]
      exact lookup_mapv g x r
theorem relabel_at (scope : Scope) (env : Env) (x : Str) : (relabel scope env).names.lookup x = (scope.names.lookup x).map fun k => reK env (x, k) := by
  rw [relabel_names]; exact lookup_mapv _ _ _
theorem relabel_lookup {scope : Scope} {env : Env} {x : Str} {k : NameKind} (h : scope.names.lookup x = some k) (hk : k ≠ .free) : (relabel scope env).names.lookup x = some k := by
  rw [relabel_at, h]
  have : (k == NameKind.free) = false := by simpa using hk
  simp only [reK, this, Bool.false_and, Bool.false_eq_true, if_false, Option.map_some]
theorem relabel_free {scope : Scope} {env : Env} {x : Str} (h : scope.names.lookup x = some .free) : (relabel scope env).names.lookup x = some .free ∨ (relabel scope env).names.lookup x = some .cell := by
  rw [relabel_at, h]
  unfold reK
  dsimp only [Option.map_some]
  split
  · exact .inr rfl
  · exact .inl rfl
theorem relabel_inv {scope : Scope} {env : Env} {x : Str} (hc : ∀ y ∈ scope.names, y.2 ≠ .cell) (h : (relabel scope env).names.lookup x = some .free ∨ (relabel scope env).names.lookup x = some .cell) : (x, NameKind.free) ∈ scope.names := by
  cases e : scope.names.lookup x with
  | none =>
    rw [relabel_at, e] at h
    rcases h with h | h <;> cases h
  | some k =>
    by_cases hk : k = .free
    · subst hk; exact PySem.mem_of_lookup e
    · exfalso
      have := relabel_lookup (env := env) e hk
      rw [this] at h
      rcases h with h | h
      · cases h; exact hk rfl
      · cases h; exact hc _ (PySem.mem_of_lookup e) rfl
def cxComp (X : Cx) (N : List Str) (scope : Scope) (cl : List (Str × Addr)) (C : Addr) (s : Shared) (H : Hp) (fp : List Addr) : Cx :=
  { X with N := N, s₀ := s, H₀ := H, env := compEnvC scope cl C X.env, outer := X.stack, stack := X.stack, ex := fp, fn := fun _ => false, pn := [], xe := fun _ _ => False }
def CompCk (sc : Scope) (N : List Str) (own : Nat) (G : List Str) (oN : List Str) (fr : List Nat) : Prop :=
  sc.kind = .function ∧ (∀ y ∈ sc.names, y.2 ≠ .cell) ∧ (∀ y ∈ sc.names, y.2 = .local → sc.names.lookup y.1 = some .local) ∧ N.Nodup ∧ (∀ x ∈ N.take own, sc.names.lookup x = some .local) ∧ (∀ x ∈ N.drop own, sc.names.lookup x = some .free) ∧
  (∀ x ∈ N, (x == ("__debug__" : Str)) = false ∧ (x == ("__classdict__" : Str)) = false) ∧ (∀ x ∈ G, sc.names.lookup x = some .globalImplicit ∧ (x == ("__debug__" : Str)) = false ∧ x ≠ ("__name__" : Str)) ∧
  own ≤ N.length ∧ (N.drop own).map some = fr.map fun i => oN[i]?
instance {sc : Scope} {N : List Str} {own : Nat} {G oN : List Str} {fr : List Nat} : Decidable (CompCk sc N own G oN fr) := by unfold CompCk; infer_instance
theorem comp_tb {X : Cx} {nl : Nat} {G0 : List Str} (T : Tb X nl G0) {sc : Scope} {N : List Str} {own : Nat} {G oN : List Str} {fr : List Nat} (ck : CompCk sc N own G oN fr) (cl : List (Str × Addr)) (C : Addr) (s : Shared) (H : Hp) (fp : List Addr) :
    Tb (cxComp X N sc cl C s H fp) own G := by
  obtain ⟨_, _, _, nd, l, f, db, g, _, _⟩ := ck
  refine ⟨T.hu, T.calm, nd, fun x hx => ?_, fun x hx => ?_, fun x hx => ?_⟩
  · refine ⟨?_, db x hx⟩
    have hx' : x ∈ N.take own ++ N.drop own := by rw [List.take_append_drop]; exact hx
    rcases List.mem_append.mp hx' with z | z
    · exact .inl (relabel_lookup (l x z) (by decide))
    · rcases relabel_free (env := X.env) (f x z) with q | q
      · exact .inr (.inr q)
      · exact .inr (.inl q)
  · have q := relabel_lookup (env := X.env) (l x hx) (by decide)
    exact ⟨.inl q, .inr q⟩
  · obtain ⟨g1, g2, g3⟩ := g x hx
    exact ⟨relabel_lookup (env := X.env) g1 (by decide), g2, g3⟩
def PCT (X : Cx) (ifs : List Expr) (t : TT) : Prop :=
  ∀ (pins : List (Addr × Obj)) (s : Shared) (σ : St) (H : Hp) (Q : Bool → Hp → Prop), Inv X pins σ H s → t σ H Q → wpAny (model X.prog X.w) X.A (forIn ifs true fun c r => if r = true then do let ok ← isTrue c X.env (eval c X.env); pure (ForInStep.yield ok) else pure (ForInStep.yield r))
    (TP X pins σ Q) X.xe s
def EvC (X : Cx) (ifs : List Expr) (t : Rho → R Bool) : Prop := PCT X ifs (rdT X t)
structure Z.EvC (X : Cx) (ifs : List Expr) (t : Rho → R Bool) : Prop where
  un : D2.EvC X ifs t
theorem ec_nil {X : Cx} : EvC X [] (fun _ => .ok true) := fun pins s σ H Q I ⟨ρ, sl, q⟩ => wpAny_tests_nil ⟨H, I, q H (Same.refl _)⟩
theorem Z.ec_nil {X : Cx} : Z.EvC X [] (fun _ => .ok true) :=
  ⟨D2.ec_nil⟩
theorem ec_one {X : Cx} {c : Expr} {t : Rho → R Bool} (h : EvT X c t) : EvC X [c] t := fun pins s σ H Q I q => wpAny_tests_one (h pins s σ H Q I q)
theorem Z.ec_one {X : Cx} {c : Expr} {t : Rho → R Bool} (h : Z.EvT X c t) : Z.EvC X [c] t :=
  ⟨D2.ec_one h.un⟩
def compR (b : PyData → Rho → Option Rho) (t : Rho → R Bool) (f : Fe) (ρ : Rho) : List PyData → R (List PyData)
  | [] => .ok []
  | d :: ds => match b d ρ with
    | none => .no
    | some ρ1 => t ρ1 >>= fun k => if k = true then f ρ1 >>= fun x => compR b t f ρ ds >>= fun xs => .ok (x :: xs) else compR b t f ρ ds
def compRho (own : Nat) (fr : List Nat) (ρ : Rho) : Rho := List.replicate own .non ++ fr.map fun i => ρ.getD i .non
def noX {α : Type} : R α → R α
  | .ex _ => .no
  | r => r
def eComp (it : Rho → R (List PyData)) (own : Nat) (fr : List Nat) (b : PyData → Rho → Option Rho) (t : Rho → R Bool) (f : Fe) : Fe := fun ρ =>
  noX (it ρ) >>= fun ds => if ds.length ≤ sizeLine then match compR b t f (compRho own fr ρ) ds with
    | .ok xs => .ok (.list xs)
    | _ => .no
  else .no
def compSt (own : Nat) (fr : List Nat) (σ : St) : St := List.replicate own none ++ fr.map fun i => (σ[i]?).join
theorem comp_sl {H : Hp} {σ : St} {ρ : Rho} (h : Sl H σ ρ) (own : Nat) (fr : List Nat) (hin : ∀ i ∈ fr, i < ρ.length) : Sl H (compSt own fr σ) (compRho own fr ρ) := by
  refine ⟨by simp [compSt, compRho], fun i c o h1 h2 => ?_⟩
  unfold compRho at h1
  unfold compSt at h2
  by_cases hi : i < own
  · rw [List.getElem?_append_left (by simpa using hi), List.getElem?_replicate, if_pos hi] at h1
    cases h1; exact True.intro
  · rw [List.getElem?_append_right (by simpa using hi), List.getElem?_map, List.length_replicate] at h1 h2
    cases e : fr[i - own]? with
    | none => rw [e] at h1; cases h1
    | some j =>
      rw [e] at h1 h2
      have hj := hin j (List.mem_of_getElem? e)
      have hj' : j < σ.length := by rw [h.1]; exact hj
      cases h1; cases h2
      refine h.2 j _ _ ?_ ?_
      · show ρ[j]? = some (ρ.getD j .non)
        rw [List.getD_eq_getElem?_getD, List.getElem?_eq_getElem hj]; rfl
      · show σ[j]? = some ((σ[j]?).join)
        rw [List.getElem?_eq_getElem hj']; rfl
section
variable {X : Cx} {pins : List (Addr × Obj)} {σ : St} {H : Hp} {s : Shared} {nl : Nat} {G0 : List Str} {sc : Scope} {N : List Str} {own : Nat} {G : List Str} {fr : List Nat} {cl : List (Str × Addr)} {fp : List Addr} {a C : Addr} {h4 : Heap} {t4 : Nat} {m : Str → Option Value}
theorem inv_comp (I : Inv X pins σ H s) (ck : CompCk sc N own G X.N fr) (hf : ∀ b ∈ fp, FpOk X pins H b) (hob : ∀ b ∈ fp, b < s.heap.objs.size) (hcl1 : ∀ x c, cl.lookup x = some c → X.env.cells.lookup x = some c) (hcl2 : ∀ x ∈ sc.names, x.2 = .free → ∃ c, cl.lookup x.1 = some c)
    (vis : ∀ x ∈ X.N, Vis X.env.scope x) (hout : ∀ y ∈ sc.names, y.2 = .free → X.env.kindOf y.1 = some .cell ∨ X.env.kindOf y.1 = some .free)
    (ha : s.heap.objs.size ≤ a) (hC : s.heap.objs.size ≤ C) (hac : a ≠ C) (keep : ∀ b o, s.heap.get? b = some o → h4.get? b = some o) (hl : h4.get? a = some { cls := .type "list", data := .seq #[] 0 }) (hn : h4.Ns C m) :
    Inv (cxComp X N sc cl C s H fp) [] (compSt own fr σ) (upd H a (.lst [])) { s with heap := h4, toks := t4 } := by
  obtain ⟨ck1, ck2, ck3, nd, l, f, db, g, ol, ofr⟩ := ck
  have hHa : H a = none := I.hok.fresh ha
  have hHC : H C = none := I.hok.fresh hC
  have lt : ∀ {b : Addr} {o : Obj}, s.heap.get? b = some o → b < s.heap.objs.size := fun e => Heap.lt_size e
  have cellLt : ∀ x c, cl.lookup x = some c → c < s.heap.objs.size := fun x c e => by
    obtain ⟨v, q⟩ := I.cell x c (hcl1 x c e)
    exact q.lt
  refine ⟨⟨I.ok.mod, ck1, I.ok.glob, I.ok.blt, hC, fun x y c h1 h2 => I.ok.inj x y c (hcl1 x c h1) (hcl1 y c h2), fun x hx => ?_, fun x c hx => (Bool.false_ne_true hx).elim, I.ok.hd, I.ok.frames, .inl rfl, fun b hb => ⟨?_, fun x c e => ?_⟩, I.bs, Nat.le_trans I.ok.bsz I.sz, fun b o e hb => ?_, fun b hb hs => ?_, I.stack, I.stkFree⟩,
    rfl, I.bare, Un.laid keep ha hHa, ⟨m, hn, fun i x v h1 h2 h3 => ?_⟩, fun x c e => ?_, ?_, fun x c e => ?_, fun p hp => ?_, ?_, ?_⟩
  · have q := relabel_inv (env := X.env) ck2 (show (relabel sc X.env).names.lookup x = some .free ∨ (relabel sc X.env).names.lookup x = some .cell from hx.elim .inr .inl)
    exact hcl2 _ q rfl
  · exact Nat.ne_of_lt (Nat.lt_of_lt_of_le (hob b hb) hC)
  · exact (hf b hb).2.2.2.2.1 x c (hcl1 x c e)
  · rcases (hf b hb).2.2.2.1 with z | z
    · exact I.ok.noex b o e z
    · exact absurd (Nat.lt_of_lt_of_le (Heap.lt_size e) I.ok.bsz) (Nat.not_lt.mpr z)
  · rcases List.mem_cons.mp (I.stkSub b hs) with z | z
    · exact (hf b hb).2.1 z
    · exact (hf b hb).2.2.1 z
  · -- a captured name
    have hi : ¬ i < own := fun hi => by
      unfold compSt at h2
      rw [List.getElem?_append_left (by simpa using hi), List.getElem?_replicate, if_pos hi] at h2
      cases h2
    unfold compSt at h2
    rw [List.getElem?_append_right (by simpa using hi), List.getElem?_map, List.length_replicate] at h2
    cases e : fr[i - own]? with
    | none => rw [e] at h2; cases h2
    | some j =>
      rw [e] at h2
      have h2' : (σ[j]?).join = some v := Option.some.inj h2
      have hσ : σ[j]? = some (some v) := by
        cases q : σ[j]? with
        | none => rw [q] at h2'; cases h2'
        | some o => rw [q] at h2'; exact congrArg some h2'
      have hx : (N.drop own)[i - own]? = some x := by
        rw [List.getElem?_drop]
        have : own + (i - own) = i := by omega
        rw [this]; exact h1
      have hj : X.N[j]? = some x := by
        have q := congrArg (fun l => l[i - own]?) ofr
        simp only [List.getElem?_map, hx, e, Option.map_some] at q
        exact (Option.some.inj q).symm
      have hfree := f x (List.mem_of_getElem? hx)
      obtain ⟨c, hc⟩ := hcl2 _ (PySem.mem_of_lookup hfree) rfl
      have hXc := hcl1 x c hc
      obtain ⟨m0, hn0, hl0⟩ := I.loc
      obtain ⟨u, ru, lk⟩ := hl0 j x v hj hσ (vis x (List.mem_of_getElem? hj))
      have ko := hout _ (PySem.mem_of_lookup hfree) rfl
      refine ⟨u, ru, .inr ⟨(relabel_free (env := X.env) hfree).symm, c, hc, ?_⟩⟩
      rcases lk with ⟨k1, _⟩ | ⟨_, c', e1, ob, q1, q2⟩
      · exfalso
        rcases ko with k | k <;> (rw [k] at k1; cases k1)
      · rw [hXc] at e1
        cases e1
        exact ⟨ob, keep _ _ q1, q2⟩
  · obtain ⟨v, o, q, d⟩ := I.cell x c (hcl1 x c e)
    exact ⟨v, o, keep _ _ q, d⟩
  · show upd H a (.lst []) C = none
    rw [upd_ne (Ne.symm hac)]; exact hHC
  · have q := I.freeC x c (hcl1 x c e)
    show upd H a (.lst []) c = none
    rw [upd_ne (Nat.ne_of_lt (Nat.lt_of_lt_of_le (cellLt x c e) ha))]; exact q
  · exact absurd (show p ∈ ([] : List (Addr × Obj)) from hp) (by simp)
  · exact I.hok.laid keep ha ⟨Nat.zero_le _, [], 0, .nil, hl⟩
  · show (compSt own fr σ).length = N.length
    have q := congrArg List.length ofr
    rw [List.length_map, List.length_map, List.length_drop] at q
    unfold compSt
    rw [List.length_append, List.length_replicate, List.length_map]
    omega
end
def Fits (ρ0 ρ1 : Rho) : Prop := ρ1.length = ρ0.length ∧ ∀ (i : Nat) (c : Cell), ρ0[i]? = some c → c = .non ∨ ρ1[i]? = some c
theorem Sl.unfit {H : Hp} {σ : St} {ρ0 ρ1 : Rho} (h : Sl H σ ρ1) (f : Fits ρ0 ρ1) : Sl H σ ρ0 := by
  refine ⟨h.1.trans f.1, fun i c o h1 h2 => ?_⟩
  rcases f.2 i c h1 with rfl | q
  · exact True.intro
  · exact h.2 i c o q h2
def OwnIn (H0 : Hp) (σ : St) (ρ : Rho) : Prop := ∀ (i : Nat) (e : PyData), ρ[i]? = some (.own e) → ∃ v, σ[i]? = some (some v) ∧ ORp H0 e v
theorem comp_loop {X : Cx} {J : It} {tn : Nat → Heap → Prop} {it a : Addr} {fp : List Addr} {tg iter elt : Expr} {ifs : List Expr} {scope : Scope} {pos : Pos} {b : PyData → Rho → Option Rho} {t : Rho → R Bool} {f : Fe} {ds xs : List PyData} {Gd : Hp → Prop} {H0 : Hp} {ρ0 : Rho}
    {Rk : Result → Shared → Prop} (T : Turn X.prog X.w X.K tg J fp it tn) (calm : X.calm = true) (hfp : ∀ H : Hp, (∀ b ∈ fp, H b = none) → ∀ b ∈ fp, FpOk X [] H b) (hxe : X.xe = fun _ _ => False) (hg : EvG X tg b) (ht : EvC X ifs t) (hf : EvE X elt f)
    (idt : ItD J Gd ds) (sta : Sta H0 (fun _ => False) Gd) (hsz : ds.length ≤ sizeLine) (ha0 : H0 a = none) (hb0 : ∀ d ρ1, b d ρ0 = some ρ1 → Fits ρ0 ρ1)
    (fin : ∀ s' σ' H' vs, Inv X [] σ' H' s' → Same H0 H' → H' a = some (.lst vs) → RpA H' xs vs → Rk (.ok .next) s') :
    ∀ {s : Shared} {σ : St} {H : Hp} {rest : List PyData}, Inv X [] σ H s → tn 0 s.heap → (∀ b ∈ fp, H b = none) → Same H0 H → H a = some (.lst []) → compR b t f ρ0 ds = .ok xs → Sl H σ ρ0 → OwnIn H0 σ ρ0 →
      codeAny (model X.prog X.w) X.A (.compLoop (.ListComp elt [⟨tg, iter, ifs, 0⟩] scope pos) 0 (.ref it) (.ref a) X.env) Rk s := by
  intro s σ H rest I st fr s0 hla hc sl ow
  refine codeAny_loop rfl (fun n s => ∃ i acc rest σ H vs, n = ds.length - i ∧ i ≤ ds.length ∧ acc.length ≤ i ∧ Inv X [] σ H s ∧ tn i s.heap ∧ (∀ b ∈ fp, H b = none) ∧ Same H0 H ∧ H a = some (.lst vs) ∧ RpA H acc vs ∧ compR b t f ρ0 (ds.drop i) = .ok rest ∧
    acc ++ rest = xs ∧ Sl H σ ρ0 ∧ OwnIn H0 σ ρ0) (fun n s hI => ?_) ds.length ⟨0, [], xs, σ, H, [], by simp, Nat.zero_le _, Nat.le_refl _, I, st, fr, s0, hla, RpA.nil, by simpa using hc, by simp, sl, ow⟩
  clear I st fr s0 hla hc sl ow
  obtain ⟨i, acc, rest, σ, H, vs, rfl, hi, hal, I, st, fr, s0, hla, ra, hc, hxs, sl, ow⟩ := hI
  show wpAny _ X.A ((compTurn (.ListComp elt [⟨tg, iter, ifs, 0⟩] scope pos) 0 (.ref it) (.ref a) X.env).onRaise (fun x => do noteFrame x X.env; theTreesLotGoes x)) _ _ s
  refine wpAny_noted ?_
  rw [compTurn_list]
  have gd : Gd H := sta H (Kp.of s0) fun _ _ z => z.elim
  have noex : ∀ {α : Type} {m : Sem α} {Q Q' : α → Shared → Prop} {E : Value → Shared → Prop} {s : Shared}, wpAny (model X.prog X.w) X.A m Q X.xe s → (∀ v s, Q v s → Q' v s) → wpAny (model X.prog X.w) X.A m Q' E s := fun h k => by
    rw [hxe] at h
    exact wpAny_mono h k fun _ _ z => z.elim
  by_cases hlt : i < ds.length
  · obtain ⟨d, hd⟩ : ∃ d, ds[i]? = some d := ⟨ds[i], List.getElem?_eq_getElem hlt⟩
    have hdrop : ds.drop i = d :: ds.drop (i + 1) := by
      rw [List.drop_eq_getElem_cons hlt]
      congr 1
      exact Option.some.inj ((List.getElem?_eq_getElem hlt).symm.trans hd)
    rw [hdrop] at hc
    unfold compR at hc
    refine wpAny_bind (wpAny_standAt (wpAny_bind (thn (T.item X rfl rfl rfl calm i [] s σ H _ I (hfp H fr) st (idt.go i H gd hlt)) fun r s1 ⟨u, hr, h1⟩ => ?_)))
    subst hr
    refine wpAny_bind (thn h1 fun _ s2 ⟨x, H2, I2, r2, y2, st2, fr2⟩ => ?_)
    obtain ⟨s02, p2⟩ := idt.yld i H x H2 d gd hd y2
    have I2' := I2.pinned (hfp H2 fr2) (T.obj _ _ st2)
    have back : ∀ {σ' : St} {H' : Hp} {s' : Shared}, Inv X ([] ++ pinsAt fp s2.heap) σ' H' s' → Inv X [] σ' H' s' ∧ tn (i + 1) s'.heap ∧ ∀ b ∈ fp, H' b = none := fun {σ' H' s'} J' =>
      ⟨J'.unpinned, T.keep _ _ _ st2 fun b hb o e => (J'.pin (b, o) (List.mem_append_right _ (List.mem_append_right _ (mem_pinsAt hb e)))).1, fun b hb => by
        obtain ⟨o, e, _⟩ := T.obj _ _ st2 b hb
        exact (J'.pin (b, o) (List.mem_append_right _ (List.mem_append_right _ (mem_pinsAt hb e)))).2.1⟩
    cases eb : b d ρ0 with
    | none => rw [eb] at hc; cases hc
    | some ρ1 =>
      rw [eb] at hc
      dsimp only at hc
      have hfit := hb0 d ρ1 eb
      refine wpAny_bind (noex (hg _ s2 σ H2 x u (fun σ' H' => H' = H2 ∧ Sl H2 σ' ρ1 ∧ ∀ (i : Nat) (e : PyData), ρ1[i]? = some (.own e) → ρ0[i]? = some (.own e) ∧ σ'[i]? = σ[i]?) I2' r2 ⟨ρ0, d, sl.mono s02, p2, by rw [eb]; exact fun σ' sl' w' => ⟨rfl, sl', w'⟩⟩) fun _ s3 ⟨σ3, H3, I3, e3, sl3, w3⟩ => ?_)
      subst e3
      have ow3 : OwnIn H0 σ3 ρ0 := fun j e h => by
        obtain ⟨v, z1, z2⟩ := ow j e h
        rcases hfit.2 j _ h with z | z
        · cases z
        · exact ⟨v, by rw [(w3 j e z).2]; exact z1, z2⟩
      cases et : t ρ1 with
      | ex c => rw [et] at hc; cases hc
      | no => rw [et] at hc; cases hc
      | ok k =>
        rw [et] at hc
        refine wpAny_bind (noex (ht _ s3 σ3 H3 (fun b' H' => b' = k ∧ Same H3 H') I3 ⟨ρ1, sl3, by rw [et]; exact fun H' s' => ⟨rfl, s'⟩⟩) fun ok s4 ⟨H4, I4, e4, s34⟩ => ?_)
        subst e4
        have s04 := (s0.trans s02).trans s34
        have hla4 : H4 a = some (.lst vs) := s34 _ _ (s02 _ _ hla)
        have ra4 : RpA H4 acc vs := (ra.mono s02).mono s34
        cases ok with
        | false =>
          obtain ⟨J1, J2, J3⟩ := back I4
          have hc' : compR b t f ρ0 (ds.drop (i + 1)) = .ok rest := hc
          exact wpAny_pure ⟨rfl, ds.length - (i + 1), by omega, i + 1, acc, rest, σ3, H4, vs, rfl, hlt, by omega, J1, J2, J3, s04, hla4, ra4, hc', hxs, (sl3.unfit hfit).mono s34, ow3⟩
        | true =>
          have hc' : (f ρ1 >>= fun x => compR b t f ρ0 (ds.drop (i + 1)) >>= fun xs => .ok (x :: xs)) = .ok rest := hc
          cases ef : f ρ1 with
          | ex c => rw [ef] at hc'; cases hc'
          | no => rw [ef] at hc'; cases hc'
          | ok y =>
            rw [ef] at hc'
            cases er : compR b t f ρ0 (ds.drop (i + 1)) with
            | ex c => rw [R.ok_bind, er] at hc'; cases hc'
            | no => rw [R.ok_bind, er] at hc'; cases hc'
            | ok rest' =>
              rw [R.ok_bind, er] at hc'
              have hr : y :: rest' = rest := by cases hc'; rfl
              refine wpAny_bind (wpAny_bind (noex (hf _ s4 σ3 H4 (fun v H' => Same H4 H' ∧ Rp H' y v) I4 ⟨ρ1, sl3.mono s34, by rw [ef]; exact fun v H' s' p' => ⟨s', p'⟩⟩) fun yv s5 ⟨v5, H5, I5, r5, s45, p5⟩ => ?_))
              have hla5 : H5 a = some (.lst vs) := s45 _ _ hla4
              have hlen : vs.length < sizeLine := by
                rw [ra.length]; omega
              refine wpAny_bind (noex (mt_append _ s5 σ3 H5 (.ref a) [v5] (.ref a) [yv] (fun _ H' => H' = upd H5 a (.lst (vs ++ [v5]))) I5 rfl (.cons r5 .nil) ⟨a, vs, v5, rfl, rfl, hla5, hlen, rfl⟩) fun _ s6 ⟨v6, H6, I6, r6, e6⟩ => ?_)
              subst e6
              obtain ⟨J1, J2, J3⟩ := back I6
              have kp : Kp H5 (upd H5 a (.lst (vs ++ [v5]))) := kp_upd hla5 (.inl ⟨_, rfl⟩)
              have s06 : Same H0 (upd H5 a (.lst (vs ++ [v5]))) := fun b o e => by
                rw [upd_ne (ne_of_none e ha0)]; exact (s04.trans s45) b o e
              refine wpAny_pure (wpAny_pure ⟨rfl, ds.length - (i + 1), by omega, i + 1, acc ++ [y], rest', σ3, _, vs ++ [v5], rfl, hlt, by rw [List.length_append, List.length_singleton]; omega, J1, J2, J3, s06, upd_same, ?_, er, by rw [List.append_assoc, List.singleton_append, hr]; exact hxs, ?_, ow3⟩)
              · exact RpA.append (RpA.kp kp _ _ (ra4.mono s45)) (RpA.cons (Rp.kp kp _ _ p5) RpA.nil)
              · have sl5 : Sl H5 σ3 ρ0 := ((sl3.unfit hfit).mono s34).mono s45
                refine ⟨sl5.1, fun j c o h1 h2 => ?_⟩
                cases c with
                | exc p => exact sl5.2 j _ o h1 h2
                | non => exact True.intro
                | val d' =>
                  obtain ⟨v', z1, z2⟩ := sl5.2 j _ o h1 h2
                  exact ⟨v', z1, Rp.kp kp _ _ z2⟩
                | own e' =>
                  obtain ⟨v', z1, z2⟩ := ow3 j e' h1
                  rw [z1] at h2
                  cases h2
                  exact ⟨v', rfl, z2.mono s06⟩
  · have e : i = ds.length := by omega
    subst e
    rw [List.drop_length] at hc
    have hr : rest = [] := by cases hc; rfl
    subst hr
    rw [List.append_nil] at hxs
    subst hxs
    refine wpAny_bind (wpAny_standAt (wpAny_bind (thn (T.done X rfl rfl rfl calm _ [] s σ H _ I (hfp H fr) st (idt.stop _ H gd (Nat.le_refl _))) fun r s1 ⟨hr, I1⟩ => ?_)))
    subst hr
    exact wpAny_pure (fin s1 σ H vs I1 s0 hla ra)
theorem comp_gen {X : Cx} {tg iter elt : Expr} {ifs : List Expr} {sc : Scope} {pos pos' : Pos} {it : Rho → R (List PyData)} {b : PyData → Rho → Option Rho} {t : Rho → R Bool} {f : Fe} {N : List Str} {own : Nat} {G G0 : List Str} {fr : List Nat} {nl : Nat}
    (T : Tb X nl G0) (ck : CompCk sc N own G X.N fr) (hout : ∀ y ∈ sc.names, y.2 = .free → X.env.kindOf y.1 = some .cell ∨ X.env.kindOf y.1 = some .free) (hi : EvI X tg iter it)
    (hb0 : ∀ ρ d ρ1, b d (compRho own fr ρ) = some ρ1 → Fits (compRho own fr ρ) ρ1)
    (hbody : ∀ cl C s H fp, Tb (cxComp X N sc cl C s H fp) own G → EvG (cxComp X N sc cl C s H fp) tg b ∧ EvC (cxComp X N sc cl C s H fp) ifs t ∧ EvE (cxComp X N sc cl C s H fp) elt f)
    (hs : ∀ x, foldedSetIterable iter X.env x = pure x) {use : Option (Value → Sem Unit)} {Qc : Value → Shared → Prop} {pins : List (Addr × Obj)} {s : Shared} {σ : St} {H : Hp} (I : Inv X pins σ H s) {ρ : Rho} {ds xs : List PyData} (sl : Sl H σ ρ) (ei : it ρ = .ok ds)
    (hsz : ds.length ≤ sizeLine) (ec : compR b t f (compRho own fr ρ) ds = .ok xs)
    (fin : ∀ (a C : Addr) (H' : Hp) (s' : Shared) (m : Str → Option Value) (vs : List V), Inv X pins σ H' s' → FpOk X pins H' C → s'.heap.Ns C m → Same H H' → H a = none → H' a = some (.lst vs) → RpA H' xs vs → compPost (model X.prog X.w) X.A X.xe use Qc (.ref a) C (.ok .next) s') :
    wpAny (model X.prog X.w) X.A (comprehension (.ListComp elt [⟨tg, iter, ifs, 0⟩] sc pos) sc X.env pos' (newList []) false (eval iter X.env) use) Qc X.xe s := by
  obtain ⟨cl, hcl, hcl1, hcl2⟩ := closure_of (scope := sc) (env := X.env) fun x hx hf => I.ok.has _ (hout x hx hf)
  have ck' := ck
  obtain ⟨ck1, ck2, ck3, _, _, _, _, _, _, ofr⟩ := ck'
  have hin : ∀ i ∈ fr, i < ρ.length := fun i hi => by
    have e1 : ρ.length = X.N.length := by rw [← sl.1]; exact I.len
    rw [e1]
    obtain ⟨k, hk⟩ := List.getElem?_of_mem hi
    have q := congrArg (fun l => l[k]?) ofr
    simp only [List.getElem?_map, hk, Option.map_some] at q
    cases z : (N.drop own)[k]? with
    | none => rw [z] at q; cases q
    | some y =>
      rw [z] at q
      have q' : some y = X.N[i]? := Option.some.inj q
      exact (List.getElem?_eq_some_iff.mp q'.symm).1
  refine wpAny_comprehension_free (use := use) rfl hs hcl ck1 ck3 ?_
  refine thn (hi pins s σ H (fun J H1 => Same H H1 ∧ ∃ Gd, ItD J Gd ds ∧ Sta H1 (fun _ => False) Gd) I ⟨ρ, sl, by rw [ei]; exact fun J H1 s1 z => ⟨s1, z⟩⟩) fun xv s1 h1 => thn h1 fun itv s2 h2 => ?_
  obtain ⟨itA, fp, tn, J, H2, e, I2, T2, st2, f2, s02, Gd, idt, sta⟩ := h2
  subst e
  refine wpAny_newObj_type (wpAny_newFunctionEnv ck2 (by intro y hy; simp at hy) (fun h₁ hns₁ hsb₁ => ?_) ck1)
  dsimp only at hns₁ hsb₁ ⊢
  generalize hHp : s2.heap.push { cls := .type "list", dict := none, data := .seq ([] : List Value).toArray } = Hp2 at hns₁ hsb₁ ⊢
  have hC : Hp2.objs.size = s2.heap.objs.size + 1 := by rw [← hHp, Heap.size_push]
  have hDC : s2.heap.objs.size ≠ Hp2.objs.size := by rw [hC]; exact Nat.ne_of_lt (Nat.lt_succ_self _)
  have hCle : s2.heap.objs.size ≤ Hp2.objs.size := by rw [hC]; exact Nat.le_succ _
  have below : ∀ b, b < s2.heap.objs.size → b ≠ Hp2.objs.size := fun b hb => by rw [hC]; exact Nat.ne_of_lt (Nat.lt_succ_of_lt hb)
  have old : ∀ b o, s2.heap.get? b = some o → h₁.get? b = some o := fun b o e => hsb₁.extBut b o (below b (Heap.lt_size e)) (Heap.get?_push_of_some _ (hHp ▸ Heap.get?_push_of_some _ e))
  have hacc : h₁.get? s2.heap.objs.size = some { cls := .type "list", dict := none, data := .seq ([] : List Value).toArray } := hsb₁.extBut _ _ hDC (Heap.get?_push_of_some _ (hHp ▸ Heap.get?_push_size _ rfl))
  have hob : ∀ b ∈ fp, b < s2.heap.objs.size := fun b hb => by
    obtain ⟨o, e, _⟩ := T2.obj _ _ st2 b hb
    exact Heap.lt_size e
  have sl2 : Sl H2 σ ρ := sl.mono s02
  have IC : Inv (cxComp X N sc cl Hp2.objs.size s2 H2 fp) [] (compSt own fr σ) (upd H2 s2.heap.objs.size (.lst [])) { s2 with heap := h₁, toks := s2.toks + ([] : List (Str × Value)).length } :=
    inv_comp I2 ck f2 hob hcl1 hcl2 (fun x hx => (T.vis x hx).1) hout (Nat.le_refl _) hCle hDC old hacc hns₁
  obtain ⟨hg, ht, hf⟩ := hbody cl Hp2.objs.size s2 H2 fp (comp_tb T ck cl Hp2.objs.size s2 H2 fp)
  have ha0 : H2 s2.heap.objs.size = none := I2.hok.fresh (Nat.le_refl _)
  have hfp : ∀ H' : Hp, (∀ b ∈ fp, H' b = none) → ∀ b ∈ fp, FpOk (cxComp X N sc cl Hp2.objs.size s2 H2 fp) [] H' b := fun H' hn b hb =>
    ⟨hn b hb, below b (hob b hb), fun z => by
      rcases List.mem_cons.mp (I2.stkSub b z) with y | y
      · exact (f2 b hb).2.1 y
      · exact (f2 b hb).2.2.1 y, .inl hb, fun x c e => (f2 b hb).2.2.2.2.1 x c (hcl1 x c e), fun p hp => absurd (show p ∈ ([] : List (Addr × Obj)) from hp) (by simp)⟩
  have st3 : tn 0 h₁ := T2.keep _ _ _ st2 fun b _ o e => old b o e
  have slC : Sl H2 (compSt own fr σ) (compRho own fr ρ) := comp_sl sl2 own fr hin
  have fin' : ∀ s' σ' H' vs, Inv (cxComp X N sc cl Hp2.objs.size s2 H2 fp) [] σ' H' s' → Same H2 H' → H' s2.heap.objs.size = some (.lst vs) → RpA H' xs vs →
      compPost (model X.prog X.w) X.A X.xe use Qc (.ref s2.heap.objs.size) Hp2.objs.size (.ok .next) s' := fun s' σ' H' vs J' s2' hv rv => by
    obtain ⟨m, hn, _⟩ := J'.loc
    exact fin _ _ H' s' m vs (I2.call' (s' := s') (ch := fp) J'.os J'.base J'.hok J'.bare (fun b hb => ⟨(f2 b hb).2.2.2.1, (f2 b hb).2.1, (f2 b hb).2.2.2.2.1, (f2 b hb).2.2.2.2.2⟩)) (I2.fpOk hCle J'.free) hn (s02.trans s2') (s02.free ha0) hv rv
  have loop := comp_loop (X := cxComp X N sc cl Hp2.objs.size s2 H2 fp) (iter := iter) (scope := sc) (pos := pos) (rest := []) T2 T.calm hfp rfl hg ht hf idt sta hsz ha0 (fun d ρ1 e => hb0 ρ d ρ1 e) fin' IC st3 (fun b hb => by
      show upd H2 s2.heap.objs.size (.lst []) b = none
      rw [upd_ne (Nat.ne_of_lt (hob b hb))]; exact (f2 b hb).1) (same_up ha0 _) upd_same ec (slC.mono (same_up ha0 _)) (fun i e h => by
      obtain ⟨o, z1, v, rfl, z2⟩ := slC.at h
      exact ⟨v, z1, z2⟩)
  exact codeAny_compStart_list loop (T2.self _ 0 _ _ _ st3 loop)
theorem evn_comp {X : Cx} {tg iter elt : Expr} {ifs : List Expr} {sc : Scope} {pos : Pos} {it : Rho → R (List PyData)} {b : PyData → Rho → Option Rho} {t : Rho → R Bool} {f : Fe} {N : List Str} {own : Nat} {G G0 : List Str} {fr : List Nat} {nl : Nat}
    (T : Tb X nl G0) (ck : CompCk sc N own G X.N fr) (hout : ∀ y ∈ sc.names, y.2 = .free → X.env.kindOf y.1 = some .cell ∨ X.env.kindOf y.1 = some .free) (hi : EvI X tg iter it)
    (hb0 : ∀ ρ d ρ1, b d (compRho own fr ρ) = some ρ1 → Fits (compRho own fr ρ) ρ1)
    (hbody : ∀ cl C s H fp, Tb (cxComp X N sc cl C s H fp) own G → EvG (cxComp X N sc cl C s H fp) tg b ∧ EvC (cxComp X N sc cl C s H fp) ifs t ∧ EvE (cxComp X N sc cl C s H fp) elt f)
    (hs : ∀ x, foldedSetIterable iter X.env x = pure x := by intro _; rfl) : EvN X (.ListComp elt [⟨tg, iter, ifs, 0⟩] sc pos) (eComp it own fr b t f) := by
  intro pins s σ H Q I h
  obtain ⟨ρ, sl, q⟩ := h
  unfold eComp at q
  rw [eval_ListComp]
  cases ei : it ρ with
  | ex c => rw [ei] at q; exact q.elim
  | no => rw [ei] at q; exact q.elim
  | ok ds =>
    rw [ei] at q
    simp only [noX, R.ok_bind] at q
    split at q
    · rename_i hsz
      cases ec : compR b t f (compRho own fr ρ) ds with
      | ex c => rw [ec] at q; exact q.elim
      | no => rw [ec] at q; exact q.elim
      | ok xs =>
        rw [ec] at q
        refine comp_gen (use := none) T ck hout hi hb0 hbody hs I sl ei hsz ec fun a C H' s' m vs I' fC hn s2' ha hv rv => ?_
        obtain ⟨f0, f1, f2, f3, f4, f5⟩ := fC
        refine ⟨m, hn, fun h' sb => ⟨.ref a, H', I'.turned (t' := s'.toks) (fun b o hb e => sb.extBut b o hb e) f0 f1 f3 f4 f5, rfl, ?_⟩⟩
        refine q _ H' s2' ⟨?_, _, rfl, ha⟩
        simp only [ORp]
        exact ⟨_, vs, rfl, hv, rv⟩
    · exact q.elim
theorem Z.evn_comp {X : Cx} {tg iter elt : Expr} {ifs : List Expr} {sc : Scope} {pos : Pos} {it : Rho → R (List PyData)} {b : PyData → Rho → Option Rho} {t : Rho → R Bool} {f : Fe} {N : List Str} {own : Nat} {G G0 : List Str} {fr : List Nat} {nl : Nat} (T : Tb X nl G0) (ck : CompCk sc N own G X.N fr) (hout : ∀ y ∈ sc.names, y.2 = .free → X.env.kindOf y.1 = some .cell ∨ X.env.kindOf y.1 = some .free) (hi : Z.EvI X tg iter it) (hb0 : ∀ ρ d ρ1, b d (compRho own fr ρ) = some ρ1 → Fits (compRho own fr ρ) ρ1) (hbody : ∀ cl C s H fp, Tb (cxComp X N sc cl C s H fp) own G → Z.EvG (cxComp X N sc cl C s H fp) tg b ∧ Z.EvC (cxComp X N sc cl C s H fp) ifs t ∧ Z.EvE (cxComp X N sc cl C s H fp) elt f) (hs : ∀ x, foldedSetIterable iter X.env x = pure x := by intro _; rfl) : Z.EvN X (.ListComp elt [⟨tg, iter, ifs, 0⟩] sc pos) (eComp it own fr b t f) :=
  ⟨D2.evn_comp T ck hout hi.un hb0 (fun cl C s H fp T => let ⟨q1, q2, q3⟩ := hbody cl C s H fp T; ⟨q1.un, q2.un, q3.un⟩) hs⟩
theorem es_comp {X : Cx} {tg iter elt : Expr} {ifs : List Expr} {sc : Scope} {pos py spos : Pos} {it : Rho → R (List PyData)} {b : PyData → Rho → Option Rho} {t : Rho → R Bool} {f : Fe} {N : List Str} {own : Nat} {G G0 : List Str} {fr : List Nat} {nl : Nat} {y : Str} {i : Nat}
    (T : Tb X nl G0) (ck : CompCk sc N own G X.N fr) (hout : ∀ y ∈ sc.names, y.2 = .free → X.env.kindOf y.1 = some .cell ∨ X.env.kindOf y.1 = some .free) (hi : EvI X tg iter it)
    (hb0 : ∀ ρ d ρ1, b d (compRho own fr ρ) = some ρ1 → Fits (compRho own fr ρ) ρ1)
    (hbody : ∀ cl C s H fp, Tb (cxComp X N sc cl C s H fp) own G → EvG (cxComp X N sc cl C s H fp) tg b ∧ EvC (cxComp X N sc cl C s H fp) ifs t ∧ EvE (cxComp X N sc cl C s H fp) elt f)
    (hN : (X.N.take nl)[i]? = some y) (hsw : swapsWith (.ListComp elt [⟨tg, iter, ifs, 0⟩] sc pos) (some (.Name y py)) spos.line X.env = pure true)
    (hs : ∀ x, foldedSetIterable iter X.env x = pure x := by intro _; rfl) : EvS X (.Assign [.Name y py] (.ListComp elt [⟨tg, iter, ifs, 0⟩] sc pos) spos) (sOwn i (eComp it own fr b t f)) := fun Fm => by
  intro pins s σ H D I h
  obtain ⟨ρ, sl, q⟩ := h
  unfold sOwn eComp at q
  obtain ⟨hNi, hl, hf⟩ := T.nm hN
  cases ei : it ρ with
  | ex c => rw [ei] at q; exact q.elim
  | no => rw [ei] at q; exact q.elim
  | ok ds =>
    rw [ei] at q
    simp only [noX, R.ok_bind] at q
    by_cases hsz : ds.length ≤ sizeLine
    · rw [if_pos hsz] at q
      cases ec : compR b t f (compRho own fr ρ) ds with
      | ex c => rw [ec] at q; exact q.elim
      | no => rw [ec] at q; exact q.elim
      | ok xs =>
        rw [ec] at q
        rw [exec_Assign_Name_used _ _ _ _ hsw]
        refine wpAny_bind (wpAny_standAt (wpAny_bind ?_))
        show wpAny _ X.A (do let _ ← comprehension (.ListComp elt [⟨tg, iter, ifs, 0⟩] sc pos) sc X.env _ (newList []) false (eval iter X.env) (some (assign (.Name y py) X.env))) _ _ s
        refine wpAny_bind (thn (comp_gen (use := some (assign (.Name y py) X.env)) (Qc := fun _ s' => SP X pins D .next s') T ck hout hi hb0 hbody hs I sl.sl ei hsz ec fun a C H' s' m vs I' fC hn s2' ha hv rv => ?_) fun _ s' hq => wpAny_pure (wpAny_pure hq))
        obtain ⟨f0, f1, f2, f3, f4, f5⟩ := fC
        show wpAny _ X.A (assign (.Name y py) X.env (.ref a)) _ _ _
        refine wpAny_assign_Name (store_ok2 I' T.nd hNi hl (v := .ref a) rfl (fun s'' I'' k => ?_) hf)
        have sls : SlS Fm H' (σ.set i (some (.ref a))) (ρ.set i (.own (.list xs))) := SlS.setOwn sl (sl.mono s2') s2' i ⟨by simp only [ORp]; exact ⟨a, vs, rfl, hv, rv⟩, a, rfl, ha⟩
        refine ⟨m, ?_, fun h' sb => ⟨_, H', I''.turned (t' := s''.toks) (fun b o hb e => sb.extBut b o hb e) f0 f1 f3 f4 f5, q _ H' sls⟩⟩
        obtain ⟨a', sb', ha'⟩ := k
        refine hn.sameBut sb' ?_
        rcases ha' with rfl | ha'
        · exact f1
        · exact Ne.symm (f4 y a' ha')
    · rw [if_neg hsz] at q; exact q.elim
theorem SlS.freeze {Fm H : Hp} {σ : St} {ρ : Rho} {i : Nat} {d : PyData} {a : Addr} {u : HO} {o : Obj} (h : SlS Fm H σ ρ) (h1 : ρ[i]? = some (.own d)) (h2 : σ[i]? = some (some (.ref a))) (hu : H a = some u) (hm : (∃ xs, u = .lst xs) ∨ ∃ ks, u = .dK ks)
    (hr : Rp (upd H a (.frz o u)) d (.ref a)) : SlS Fm (upd H a (.frz o u)) σ (ρ.set i (.val d)) := by
  have hFa := h.own i d a h1 h2
  have kp : Kp H (upd H a (.frz o u)) := kp_upd hu hm
  refine ⟨fun b x e => ?_, ⟨by rw [List.length_set]; exact h.sl.1, fun j c w' e1 e2 => ?_⟩, fun j e b e1 e2 => ?_, fun j k e f b e1 e2 e3 e4 => ?_⟩
  · rw [upd_ne (ne_of_none e hFa)]; exact h.fm b x e
  · rw [List.getElem?_set] at e1
    by_cases hij : i = j
    · subst hij
      rw [if_pos rfl] at e1
      split at e1
      · cases e1
        rw [h2] at e2
        cases e2
        exact ⟨_, rfl, hr⟩
      · cases e1
    · rw [if_neg hij] at e1
      have q := h.sl.2 j c w' e1 e2
      cases c with
      | exc p => exact q
      | non => exact True.intro
      | val d' => obtain ⟨v, z1, z2⟩ := q; exact ⟨v, z1, Rp.kp kp _ _ z2⟩
      | own d' =>
        obtain ⟨v, z1, z2⟩ := q
        subst z1
        obtain ⟨b, ob, rfl, hb⟩ := orp_ref z2
        have nb : b ≠ a := fun z => hij (by subst z; exact h.apart i j d d' b h1 e1 h2 e2)
        refine ⟨_, rfl, ?_⟩
        cases d' <;> simp only [ORp] at z2 ⊢
        · obtain ⟨b', vs, e, hb', r⟩ := z2
          cases e
          exact ⟨b, vs, rfl, by rw [upd_ne nb]; exact hb', RpA.kp kp _ _ r⟩
        · obtain ⟨b', vs, e, hb', r⟩ := z2
          cases e
          exact ⟨b, vs, rfl, by rw [upd_ne nb]; exact hb', RpK.kp kp _ _ r⟩
  · obtain ⟨ne, e1⟩ := get_set_own (fun e z => by cases z) e1
    exact h.own j e b e1 e2
  · obtain ⟨ne, e1⟩ := get_set_own (fun e z => by cases z) e1
    obtain ⟨ne', e2⟩ := get_set_own (fun e z => by cases z) e2
    exact h.apart j k e f b e1 e2 e3 e4
theorem fz_at {X : Cx} {pins : List (Addr × Obj)} {s : Shared} {Fm H : Hp} {σ : St} {ρ : Rho} {i : Nat} {d : PyData} (I : Inv X pins σ H s) (h : SlS Fm H σ ρ) (h1 : ρ[i]? = some (.own d)) :
    ∃ H' v, Inv X pins σ H' s ∧ SlS Fm H' σ (ρ.set i (.val d)) ∧ σ[i]? = some (some v) ∧ Rp H' d v := by
  obtain ⟨w', h2, v, rfl, q⟩ := h.sl.at h1
  cases d <;> simp only [ORp] at q
  · rename_i ds
    obtain ⟨a, vs, rfl, ha, r⟩ := q
    obtain ⟨o, J⟩ := inv_freeze I ha (.inl ⟨_, rfl⟩)
    have hr : Rp (upd H a (.frz o (.lst vs))) (.list ds) (.ref a) := by
      simp only [Rp]
      exact ⟨a, o, vs, rfl, upd_same, RpA.kp (kp_upd ha (.inl ⟨_, rfl⟩)) _ _ r⟩
    exact ⟨_, _, J, h.freeze h1 h2 ha (.inl ⟨_, rfl⟩) hr, h2, hr⟩
  · rename_i ds
    obtain ⟨a, vs, rfl, ha, r⟩ := q
    obtain ⟨o, J⟩ := inv_freeze I ha (.inr ⟨_, rfl⟩)
    have hr : Rp (upd H a (.frz o (.dK vs))) (.dict ds) (.ref a) := by
      simp only [Rp]
      exact .inl ⟨a, o, vs, rfl, upd_same, RpK.kp (kp_upd ha (.inr ⟨_, rfl⟩)) _ _ r⟩
    exact ⟨_, _, J, h.freeze h1 h2 ha (.inr ⟨_, rfl⟩) hr, h2, hr⟩
theorem EvS.fz {X : Cx} {st : Stmt} {i : Nat} {f : Fe} (h : EvS X st (sOwn i f)) (hi : i < X.N.length) : EvS X st (sSet i f) := fun Fm => by
  intro pins s σ H D I ⟨ρ, sl, q⟩
  unfold sSet at q
  cases ef : f ρ with
  | ex c => rw [ef] at q; exact h Fm pins s σ H D I ⟨ρ, sl, by unfold sOwn; rw [ef]; exact q⟩
  | no => rw [ef] at q; exact q.elim
  | ok d =>
    rw [ef] at q
    have hr : rdS X Fm (sOwn i f) { nx := fun σ' H' => SlS Fm H' σ' (ρ.set i (.own d)), rt := fun _ _ => False } σ H := ⟨ρ, sl, by unfold sOwn; rw [ef]; exact fun σ' H' s' => s'⟩
    refine thn (h Fm pins s σ H _ I hr) fun fl s' z => ?_
    cases fl with
    | next =>
      obtain ⟨σ', H', I', sls⟩ := z
      have hi' : i < ρ.length := by rw [← sl.sl.1, I.len]; exact hi
      obtain ⟨H2, v, I2, sl2, _, _⟩ := fz_at I' sls (i := i) (d := d) (by rw [List.getElem?_set, if_pos rfl, if_pos hi'])
      rw [List.set_set] at sl2
      exact ⟨σ', H2, I2, q σ' H2 sl2⟩
    | brk => obtain ⟨_, _, _, z⟩ := z; exact z.elim
    | cont => obtain ⟨_, _, _, z⟩ := z; exact z.elim
    | ret u => obtain ⟨_, _, _, _, _, z⟩ := z; exact z.elim
theorem Z.EvS.fz {X : Cx} {st : Stmt} {i : Nat} {f : Fe} (h : Z.EvS X st (sOwn i f)) (hi : i < X.N.length) : Z.EvS X st (sSet i f) :=
  ⟨D2.EvS.fz h.un hi⟩
def sRetO (i : Nat) : Fs := fun ρ => match ρ[i]? with
  | some (.own d) => .ok (.rt d)
  | some (.val d) => .ok (.rt d)
  | _ => .no
theorem es_retO {X : Cx} {nl : Nat} {G : List Str} {x : Str} {p pos : Pos} (T : Tb X nl G) (i : Nat) (hN : X.N[i]? = some x) : EvS X (.Return (some (.Name x p)) pos) (sRetO i) := fun Fm => by
  intro pins s σ H D I ⟨ρ, sl, q⟩
  have hm := T.vis x (List.mem_of_getElem? hN)
  unfold sRetO at q
  split at q
  · rename_i d e
    obtain ⟨H2, v, I2, sl2, h2, r⟩ := fz_at I sl e
    exact ps_ret (pe_var hN hm.1 hm.2.1 hm.2.2) pins s σ H2 D I2 ⟨v, h2, q v H2 sl2.fm r⟩
  · rename_i d e
    obtain ⟨o, h1, v, rfl, h2⟩ := sl.sl.at e
    exact ps_ret (pe_var hN hm.1 hm.2.1 hm.2.2) pins s σ H D I ⟨v, h1, q v H sl.fm h2⟩
  · exact q.elim
theorem Z.es_retO {X : Cx} {nl : Nat} {G : List Str} {x : Str} {p pos : Pos} (T : Tb X nl G) (i : Nat) (hN : X.N[i]? = some x) : Z.EvS X (.Return (some (.Name x p)) pos) (sRetO i) :=
  ⟨D2.es_retO T i hN⟩
theorem evn_compD {X : Cx} {tg iter elt : Expr} {ifs : List Expr} {sc : Scope} {pos : Pos} {it : Rho → R (List PyData)} {b : PyData → Rho → Option Rho} {t : Rho → R Bool} {f : Fe} {N : List Str} {own : Nat} {G G0 : List Str} {fr : List Nat} {nl : Nat}
    (T : Tb X nl G0) {oN : List Str} {on : List (Str × NameKind)} (hoN : X.N = oN) (hon : X.env.scope.names = on)
    (ck : CompCk sc N own G oN fr ∧ ∀ y ∈ sc.names, y.2 = .free → on.lookup y.1 = some .cell ∨ on.lookup y.1 = some .free) (hi : EvI X tg iter it)
    (hb0 : ∀ ρ d ρ1, b d (compRho own fr ρ) = some ρ1 → Fits (compRho own fr ρ) ρ1)
    (hbody : ∀ cl C s H fp, Tb (cxComp X N sc cl C s H fp) own G → EvG (cxComp X N sc cl C s H fp) tg b ∧ EvC (cxComp X N sc cl C s H fp) ifs t ∧ EvE (cxComp X N sc cl C s H fp) elt f)
    (hs : ∀ x, foldedSetIterable iter X.env x = pure x := by intro _; rfl) : EvN X (.ListComp elt [⟨tg, iter, ifs, 0⟩] sc pos) (eComp it own fr b t f) :=
  evn_comp T (by rw [hoN]; exact ck.1) (fun y hy hf => by unfold Env.kindOf; rw [hon]; exact ck.2 y hy hf) hi hb0 hbody hs
theorem Z.evn_compD {X : Cx} {tg iter elt : Expr} {ifs : List Expr} {sc : Scope} {pos : Pos} {it : Rho → R (List PyData)} {b : PyData → Rho → Option Rho} {t : Rho → R Bool} {f : Fe} {N : List Str} {own : Nat} {G G0 : List Str} {fr : List Nat} {nl : Nat} (T : Tb X nl G0) {oN : List Str} {on : List (Str × NameKind)} (hoN : X.N = oN) (hon : X.env.scope.names = on) (ck : CompCk sc N own G oN fr ∧ ∀ y ∈ sc.names, y.2 = .free → on.lookup y.1 = some .cell ∨ on.lookup y.1 = some .free) (hi : Z.EvI X tg iter it) (hb0 : ∀ ρ d ρ1, b d (compRho own fr ρ) = some ρ1 → Fits (compRho own fr ρ) ρ1) (hbody : ∀ cl C s H fp, Tb (cxComp X N sc cl C s H fp) own G → Z.EvG (cxComp X N sc cl C s H fp) tg b ∧ Z.EvC (cxComp X N sc cl C s H fp) ifs t ∧ Z.EvE (cxComp X N sc cl C s H fp) elt f) (hs : ∀ x, foldedSetIterable iter X.env x = pure x := by intro _; rfl) : Z.EvN X (.ListComp elt [⟨tg, iter, ifs, 0⟩] sc pos) (eComp it own fr b t f) :=
  ⟨D2.evn_compD T hoN hon ck hi.un hb0 (fun cl C s H fp T => let ⟨q1, q2, q3⟩ := hbody cl C s H fp T; ⟨q1.un, q2.un, q3.un⟩) hs⟩
theorem es_ownC {X : Cx} {tg iter elt : Expr} {ifs : List Expr} {sc : Scope} {pos py spos : Pos} {it : Rho → R (List PyData)} {b : PyData → Rho → Option Rho} {t : Rho → R Bool} {f : Fe} {N : List Str} {own : Nat} {G G0 : List Str} {fr : List Nat} {nl : Nat} {y : Str} (i : Nat)
    (hN : (X.N.take nl)[i]? = some y) (T : Tb X nl G0) {oN : List Str} {on : List (Str × NameKind)} (hoN : X.N = oN) (hon : X.env.scope.names = on)
    (ck : CompCk sc N own G oN fr ∧ ∀ y ∈ sc.names, y.2 = .free → on.lookup y.1 = some .cell ∨ on.lookup y.1 = some .free) (hi : EvI X tg iter it)
    (hb0 : ∀ ρ d ρ1, b d (compRho own fr ρ) = some ρ1 → Fits (compRho own fr ρ) ρ1)
    (hbody : ∀ cl C s H fp, Tb (cxComp X N sc cl C s H fp) own G → EvG (cxComp X N sc cl C s H fp) tg b ∧ EvC (cxComp X N sc cl C s H fp) ifs t ∧ EvE (cxComp X N sc cl C s H fp) elt f)
    (hsw : swapsWith (.ListComp elt [⟨tg, iter, ifs, 0⟩] sc pos) (some (.Name y py)) spos.line X.env = pure true := by rfl)
    (hs : ∀ x, foldedSetIterable iter X.env x = pure x := by intro _; rfl) : EvS X (.Assign [.Name y py] (.ListComp elt [⟨tg, iter, ifs, 0⟩] sc pos) spos) (sOwn i (eComp it own fr b t f)) :=
  es_comp T (by rw [hoN]; exact ck.1) (fun y hy hf => by unfold Env.kindOf; rw [hon]; exact ck.2 y hy hf) hi hb0 hbody hN hsw hs
theorem Z.es_ownC {X : Cx} {tg iter elt : Expr} {ifs : List Expr} {sc : Scope} {pos py spos : Pos} {it : Rho → R (List PyData)} {b : PyData → Rho → Option Rho} {t : Rho → R Bool} {f : Fe} {N : List Str} {own : Nat} {G G0 : List Str} {fr : List Nat} {nl : Nat} {y : Str} (i : Nat) (hN : (X.N.take nl)[i]? = some y) (T : Tb X nl G0) {oN : List Str} {on : List (Str × NameKind)} (hoN : X.N = oN) (hon : X.env.scope.names = on) (ck : CompCk sc N own G oN fr ∧ ∀ y ∈ sc.names, y.2 = .free → on.lookup y.1 = some .cell ∨ on.lookup y.1 = some .free) (hi : Z.EvI X tg iter it) (hb0 : ∀ ρ d ρ1, b d (compRho own fr ρ) = some ρ1 → Fits (compRho own fr ρ) ρ1) (hbody : ∀ cl C s H fp, Tb (cxComp X N sc cl C s H fp) own G → Z.EvG (cxComp X N sc cl C s H fp) tg b ∧ Z.EvC (cxComp X N sc cl C s H fp) ifs t ∧ Z.EvE (cxComp X N sc cl C s H fp) elt f) (hsw : swapsWith (.ListComp elt [⟨tg, iter, ifs, 0⟩] sc pos) (some (.Name y py)) spos.line X.env = pure true := by rfl) (hs : ∀ x, foldedSetIterable iter X.env x = pure x := by intro _; rfl) : Z.EvS X (.Assign [.Name y py] (.ListComp elt [⟨tg, iter, ifs, 0⟩] sc pos) spos) (sOwn i (eComp it own fr b t f)) :=
  ⟨D2.es_ownC i hN T hoN hon ck hi.un hb0 (fun cl C s H fp T => let ⟨q1, q2, q3⟩ := hbody cl C s H fp T; ⟨q1.un, q2.un, q3.un⟩) hsw hs⟩
theorem fits_name {own : Nat} {fr : List Nat} {i : Nat} (h : i < own) : ∀ ρ d ρ1, bName i d (compRho own fr ρ) = some ρ1 → Fits (compRho own fr ρ) ρ1 := fun ρ d ρ1 e => by
  have e' : ρ1 = (compRho own fr ρ).set i (.val d) := (Option.some.inj e).symm
  subst e'
  refine ⟨by rw [List.length_set], fun j c hj => ?_⟩
  by_cases hij : i = j
  · subst hij
    left
    unfold compRho at hj
    rw [List.getElem?_append_left (by simpa using h), List.getElem?_replicate, if_pos h] at hj
    exact (Option.some.inj hj).symm
  · right
    rw [List.getElem?_set, if_neg hij]; exact hj
def DefCk (sc : Scope) (N G : List Str) : Prop :=
  N.Nodup ∧ (∀ x ∈ N, (sc.names.lookup x = some .local ∨ sc.names.lookup x = some .cell) ∧ (x == ("__debug__" : Str)) = false ∧ (x == ("__classdict__" : Str)) = false) ∧ ∀ x ∈ G, sc.names.lookup x = some .globalImplicit ∧ (x == ("__debug__" : Str)) = false ∧ x ≠ ("__name__" : Str)
instance {sc : Scope} {N G : List Str} : Decidable (DefCk sc N G) := by unfold DefCk; infer_instance
theorem def_tb {P : Program} {w : World} {K : PySem.W.Frag} {mg : Str → Option Value} {base : Heap} {N : List Str} {qual : Str} {sc : Scope} {f : Addr} {cdv : Value} {A : Around} {outer : List Env} {s : Shared} {H : Hp} {E : XK} {G : List Str} {k : Nat}
    (hr : Room k (A.deeper (envOfC qual sc s.heap.objs.size f cdv))) (ck : DefCk sc N G) : Tb (cxOf (CXD P w mg) P w K mg base N qual sc f cdv A outer s H E) N.length G := by
  obtain ⟨nd, l, g⟩ := ck
  refine ⟨hr.units, rfl, nd, fun x hx => ⟨?_, (l x hx).2⟩, fun x hx => ⟨?_, .inl rfl⟩, fun x hx => ?_⟩
  · rcases (l x hx).1 with q | q
    · exact .inl q
    · exact .inr (.inl q)
  · exact (l x (List.mem_of_mem_take hx)).1
  · exact g x hx
end D2
set_option Elab.async false
set_option linter.all false
set_option maxRecDepth 100000
set_option maxHeartbeats 4000000
namespace D2
open PySem PySem.Spec PyProof.Rows L2
section
variable {X : Cx} {a b c : Expr} {fa fb fc : Fe} {pos : Pos}
def Serves1 (X : Cx) (P : Hp → Hp → PyData → V → Prop) (r : V → Hp → VK → Prop) (g : PyData → R PyData) : Prop := ∀ H x dx Q, BRp H dx x → rdR X P (g dx) H Q → r x H Q
theorem one1 {P : Hp → Hp → PyData → V → Prop} {r : V → Hp → VK → Prop} {g : PyData → R PyData} (hP : Dn P) (hg : Serves1 X P r g) (σ : St) (H : Hp) (Q : VK) (h : rdE X P (e1 g fa) σ H Q) : tUn r (rdE X PBp fa) σ H Q :=
  (bind_e (P := PBp) (k := fun _ x => g x) (tgt_r (X := X) hP Q) h).post fun v H1 ⟨_, d1, _, _, p1, q1⟩ => hg H1 v d1 Q p1 q1
def dNeg : PyData → R PyData
  | .int i => .ok (.int (-i))
  | _ => .no
theorem sv_neg : Serves1 X PRp (rU fun i => .int (-i)) dNeg := fun H x dx Q hx q => by
  unfold dNeg at q
  split at q
  · exact ⟨_, brp_int hx, q _ H (Same.refl _) rp_int⟩
  · exact q.elim
theorem ev_neg (ha : EvB X a fa) : EvE X (.UnaryOp .USub a pos) (e1 dNeg fa) := PE.imp (pe_un un_neg ha) (one1 dn_r sv_neg)
theorem Z.ev_neg (ha : Z.EvB X a fa) : Z.EvE X (.UnaryOp .USub a pos) (e1 dNeg fa) :=
  ⟨D2.ev_neg ha.un⟩
def eChain (g g' : PyData → PyData → R PyData) (fa fb fc : Fe) : Fe := fun ρ => fa ρ >>= fun x => fb ρ >>= fun y => g x y >>= fun d => asB d >>= fun k => if k = true then fc ρ >>= fun z => g' y z else .ok (.bool false)
theorem chain_rd {r r' : R2} {g g' : PyData → PyData → R PyData} (hg : Serves2 X PRp r g) (hg' : Serves2 X PRp r' g') (σ : St) (H : Hp) (Q : VK) (h : rdE X PRp (eChain g g' fa fb fc) σ H Q) :
    tChain r r' (rdE X PBp fa) (rdE X PBp fb) (rdE X PBp fc) σ H Q :=
  (bind_e (P := PBp) (k := fun ρ x => fb ρ >>= fun y => g x y >>= fun d => asB d >>= fun k => if k = true then fc ρ >>= fun z => g' y z else .ok (.bool false)) (tgt_r (X := X) dn_r Q) h).post fun v H1 ⟨ρ1, d1, sl1, _, p1, q1⟩ =>
    (bind_e (P := PBp) (f := fb) (k := fun ρ y => g d1 y >>= fun d => asB d >>= fun k => if k = true then fc ρ >>= fun z => g' y z else .ok (.bool false)) (tgt_r (X := X) dn_r Q) ⟨ρ1, sl1, q1⟩).post fun u H2 ⟨ρ2, d2, sl2, s2, p2, q2⟩ => by
      refine hg H2 v u d1 d2 _ (BRp.mono p1 s2) p2 ?_
      cases e : g d1 d2 with
      | ex c => rw [e] at q2; exact q2
      | no => rw [e] at q2; exact q2
      | ok d =>
        rw [e] at q2
        intro w' H3 s3 p3
        have q3 : rdR X PRp (asB d >>= fun k => if k = true then fc ρ2 >>= fun z => g' d2 z else .ok (.bool false)) H2 Q := q2
        cases d with
        | bool k =>
          have e3 : w' = .bl k := by simpa only [Rp] using p3
          refine ⟨k, e3, ?_⟩
          cases k with
          | false => exact q3 _ H3 s3 rp_bool
          | true =>
            have q4 : rdR X PRp (fc ρ2 >>= fun z => g' d2 z) H2 Q := q3
            exact (bind_e (P := PBp) (f := fc) (k := fun _ z => g' d2 z) (tgt_r (X := X) dn_r Q) ⟨ρ2, sl2.mono s3, (tgt_r (X := X) dn_r Q).mono _ _ _ q4 s3⟩).post fun z H4 ⟨_, d4, _, s4, p4, q5⟩ => hg' H4 u z d2 d4 Q (BRp.mono p2 (s3.trans s4)) p4 q5
        | none => exact q3.elim
        | int i => exact q3.elim
        | str i => exact q3.elim
        | list i => exact q3.elim
        | tuple i => exact q3.elim
        | dict i => exact q3.elim
theorem ev_chain {op op' : CmpOp} {r r' : R2} {g g' : PyData → PyData → R PyData} (ho : OpR X (compareOp op) r) (hg : Serves2 X PRp r g) (ho' : OpR X (compareOp op') r') (hg' : Serves2 X PRp r' g') (ha : EvB X a fa) (hb : EvB X b fb) (hc : EvB X c fc)
    (hm : lastMarks [op, op'] [b, c] = false := by with_unfolding_all rfl) : EvE X (.Compare a [op, op'] [b, c] pos) (eChain g g' fa fb fc) := PE.imp (pe_chain ho ho' ha hb hc hm) (chain_rd hg hg')
theorem Z.ev_chain {op op' : CmpOp} {r r' : R2} {g g' : PyData → PyData → R PyData} (ho : OpR X (compareOp op) r) (hg : Serves2 X PRp r g) (ho' : OpR X (compareOp op') r') (hg' : Serves2 X PRp r' g') (ha : Z.EvB X a fa) (hb : Z.EvB X b fb) (hc : Z.EvB X c fc) (hm : lastMarks [op, op'] [b, c] = false := by with_unfolding_all rfl) : Z.EvE X (.Compare a [op, op'] [b, c] pos) (eChain g g' fa fb fc) :=
  ⟨D2.ev_chain ho hg ho' hg' ha.un hb.un hc.un hm⟩
variable {es : List Expr} {fs : Rho → R (List PyData)}
def eTup (fs : Rho → R (List PyData)) : Fe := fun ρ => fs ρ >>= fun ds => if ds.length ≤ sizeLine then .ok (.tuple ds) else .no
def eLst (fs : Rho → R (List PyData)) : Fe := fun ρ => fs ρ >>= fun ds => if ds.length ≤ sizeLine then .ok (.list ds) else .no
theorem ev_tup {x1} (h : EvA X es fs) : EvE X (.Tuple es x1 pos) (eTup fs) :=
  PE.imp (pe_tup h) fun σ H Q q => (bind_a (I := Rp) (f := fs) (k := fun _ ds => if ds.length ≤ sizeLine then .ok (.tuple ds) else .no) (tgt_r (X := X) dn_r Q) q).post fun vs H1 ⟨_, ds, _, _, p, q1⟩ => by
    have p := ra_iff.mp p
    split at q1
    · rename_i hz
      exact ⟨by rw [p.length]; exact hz, fun a ha => q1 _ _ (same_up ha _) (rp_new_tup ha p)⟩
    · exact q1.elim
theorem Z.ev_tup {x1} (h : Z.EvA X es fs) : Z.EvE X (.Tuple es x1 pos) (eTup fs) :=
  ⟨D2.ev_tup h.un⟩
theorem evn_lst (h : EvA X es fs) : EvN X (.List es pos) (eLst fs) :=
  PE.imp (pe_lst h) fun σ H Q q => (bind_a (I := Rp) (f := fs) (k := fun _ ds => if ds.length ≤ sizeLine then .ok (.list ds) else .no) (tgt_r (X := X) dn_n Q) q).post fun vs H1 ⟨_, ds, _, _, p, q1⟩ => by
    have p := ra_iff.mp p
    split at q1
    · rename_i hz
      exact ⟨by rw [p.length]; exact hz, fun a ha => q1 _ _ (same_up ha _) (nrp_new_lst ha p)⟩
    · exact q1.elim
theorem Z.evn_lst (h : Z.EvA X es fs) : Z.EvN X (.List es pos) (eLst fs) :=
  ⟨D2.evn_lst h.un⟩
theorem evn_dict0 : EvN X (.Dict [] [] pos) (eC (.dict [])) :=
  PE.imp pe_dnewK fun σ H Q ⟨ρ, sl, q⟩ p hp => q _ _ (same_up hp _) ⟨by simp only [ORp]; exact ⟨p, [], rfl, upd_same, by simp only [RpK]⟩, p, rfl, hp⟩
theorem Z.evn_dict0  : Z.EvN X (.Dict [] [] pos) (eC (.dict [])) :=
  ⟨D2.evn_dict0⟩
def dIx : PyData → PyData → R PyData
  | .list ds, .int i => match atI ds i with
    | some d => .ok d
    | none => .no
  | .tuple ds, .int i => match atI ds i with
    | some d => .ok d
    | none => .no
  | .str z, .int i => if z.length ≤ sizeLine then match atI z.cps.toList i with
    | some c => .ok (.str ⟨#[c]⟩)
    | none => .no else .no
  | .dict kvs, k => if isIns kvs = true then .no else match keyOf k with
    | some _ => match lookD kvs k with
      | some d => .ok d
      | none => .no
    | none => .no
  | _, _ => .no
theorem RpA.atI {H : Hp} {ds : List PyData} {vs : List V} {i : Int} {d : PyData} (r : RpA H ds vs) (e : L2.atI ds i = some d) : ∃ v, L2.atI vs i = some v ∧ Rp H d v := by
  unfold L2.atI at e ⊢
  rw [r.length]
  cases h : ixN ds.length i with
  | none => rw [h] at e; cases e
  | some j =>
    rw [h] at e
    obtain ⟨v, e1, p⟩ := r.get (show ds[j]? = some d from e)
    exact ⟨v, e1, p⟩
def rIxD : R2 := fun x y H Q => ∃ a v, x = .ref a ∧ DGet H a y (some v) ∧ Q v H
theorem ix_dict (hu : X.A.units + 1 < cLine) : IxR X rIxD := by
  intro value slice pins s σ H x y v u Q I rx ry h hs
  obtain ⟨a, z, rfl, g, q⟩ := h
  cases rx
  exact tail_any (dict_typeIs I g) PySem.F.slot_dict_getitem.lookup (d_getItem hu I g ry fun w' s3 I3 rw' => ⟨z, H, I3, rw', q⟩) hs
theorem sv_ix : Serves2 X PRp (fun x y H Q => rIxL X.K x y H Q ∨ rIxT X.K x y H Q ∨ rIxS x y H Q ∨ rIxD x y H Q) dIx := fun H x y dx dy Q hx hy q => by
  unfold dIx at q
  split at q
  · rename_i ds i
    split at q
    · rename_i d e
      obtain ⟨a, vs, rfl, hq, r⟩ := brp_list (K := X.K) hx
      obtain ⟨v, e1, p⟩ := r.atI e
      exact .inl ⟨a, vs, i, v, rfl, brp_int hy, hq, e1, q v H (Same.refl _) p⟩
    · exact q.elim
  · rename_i ds i
    split at q
    · rename_i d e
      obtain ⟨a, vs, rfl, hq, r⟩ := brp_tuple hx
      obtain ⟨v, e1, p⟩ := r.atI e
      exact .inr (.inl ⟨a, vs, i, v, rfl, brp_int hy, SqT.of hq, e1, q v H (Same.refl _) p⟩)
    · exact q.elim
  · rename_i z i
    split at q
    · rename_i hz
      split at q
      · rename_i c e
        exact .inr (.inr (.inl ⟨z, i, c, brp_str hx, brp_int hy, hz, e, q _ H (Same.refl _) rp_str⟩))
      · exact q.elim
    · exact q.elim
  · rename_i kvs k
    split at q
    · exact q.elim
    rename_i hi
    split at q
    · rename_i κ e
      split at q
      · rename_i d e1
        obtain ⟨a, ks, rfl, h, r⟩ := brp_dict (Bool.not_eq_true _ ▸ hi) hx
        obtain ⟨o, g, _, e2⟩ := dget_of (κ := κ) h r
        rw [keyOf_eq e] at e1
        obtain ⟨v, rfl, p⟩ := e2 d e1
        rw [← brp_key hy e] at g
        exact .inr (.inr (.inr ⟨a, v, rfl, g, q v H (Same.refl _) p⟩))
      · exact q.elim
    · exact q.elim
  · exact q.elim
theorem ev_ix (hu : X.A.units + 64 < cLine) (ha : EvB X a fa) (hb : EvB X b fb) (hs : PlainIx b) : EvE X (.Subscript a b pos) (e2 dIx fa fb) := PE.imp (pe_ix (ix_list.or (ix_tup.or (ix_str.or (ix_dict (by omega))))) ha hb hs) (two dn_r sv_ix)
theorem Z.ev_ix (hu : X.A.units + 64 < cLine) (ha : Z.EvB X a fa) (hb : Z.EvB X b fb) (hs : PlainIx b) : Z.EvE X (.Subscript a b pos) (e2 dIx fa fb) :=
  ⟨D2.ev_ix hu ha.un hb.un hs⟩
variable {nl : Nat} {G : List Str} {x : Str} {p : Pos}
def ServesN (X : Cx) (P : Hp → Hp → PyData → V → Prop) (r : List V → Hp → VK → Prop) (g : List PyData → R PyData) : Prop := ∀ H xs ds Q, RA BRp H ds xs → rdR X P (g ds) H Q → r xs H Q
theorem callN {P : Hp → Hp → PyData → V → Prop} {r : List V → Hp → VK → Prop} {g : List PyData → R PyData} (hP : Dn P) (hg : ServesN X P r g) (σ : St) (H : Hp) (Q : VK) (h : rdE X P (fun ρ => fs ρ >>= g) σ H Q) : tCB r (rdA X BRp fs) σ H Q :=
  (bind_a (I := BRp) (k := fun _ => g) (tgt_r (X := X) hP Q) h).post fun vs H1 ⟨_, ds, _, _, p1, q1⟩ => hg H1 vs ds Q p1 q1
def one (g : PyData → R PyData) : List PyData → R PyData
  | [d] => g d
  | _ => .no
def two2 (g : PyData → PyData → R PyData) : List PyData → R PyData
  | [d, e] => g d e
  | _ => .no
theorem one_eq (g : PyData → R PyData) (fa : Fe) : (fun ρ => aCons fa aNil ρ >>= one g) = e1 g fa := by
  funext ρ
  unfold aCons aNil e1
  cases fa ρ <;> rfl
theorem two_eq (g : PyData → PyData → R PyData) (fa fb : Fe) : (fun ρ => aCons fa (aCons fb aNil) ρ >>= two2 g) = e2 g fa fb := by
  funext ρ
  unfold aCons aNil e2
  cases fa ρ with
  | ok a => cases fb ρ <;> rfl
  | ex c => rfl
  | no => rfl
theorem sv_one {P : Hp → Hp → PyData → V → Prop} {r : List V → Hp → VK → Prop} {g : PyData → R PyData} (h : ∀ H x d Q, BRp H d x → rdR X P (g d) H Q → r [x] H Q) : ServesN X P r (one g) := fun H xs ds Q ra q => by
  unfold one at q
  split at q
  · rename_i d
    simp only [RA] at ra
    obtain ⟨v, r', e, p, e2⟩ := ra
    subst e2; subst e
    exact h H v d Q p q
  · exact q.elim
theorem sv_two {P : Hp → Hp → PyData → V → Prop} {r : List V → Hp → VK → Prop} {g : PyData → PyData → R PyData} (h : ∀ H x y d e Q, BRp H d x → BRp H e y → rdR X P (g d e) H Q → r [x, y] H Q) : ServesN X P r (two2 g) := fun H xs ds Q ra q => by
  unfold two2 at q
  split at q
  · rename_i d e
    simp only [RA] at ra
    obtain ⟨v, r', e1, p, v', r'', e2, p', e3⟩ := ra
    subst e3; subst e2; subst e1
    exact h H v v' d e Q p p' q
  · exact q.elim
section
variable {P : Hp → Hp → PyData → V → Prop} {r : List V → Hp → VK → Prop} {g : PyData → R PyData} {g2 : PyData → PyData → R PyData} {id ty : String}
theorem blt1 (T : Tb X nl G) (j : Nat) (hG : G[j]? = some x) (hm : X.mg x = none) (hP : Dn P) (hv : bootBuiltins x = some (.builtin id)) (hc : CallR X (.builtin id) r) (hg : ∀ H x d Q, BRp H d x → rdR X P (g d) H Q → r [x] H Q) (ha : EvB X a fa)
    (he : notStar a = true := by rfl) : PE X (.Call (.Name x p) [a] [] pos) (rdE X P (e1 g fa)) := by
  have q := T.gl x (List.mem_of_getElem? hG)
  rw [← one_eq]
  exact PE.imp (pe_callB hc q.1 hm hv (eb_cons ha eb_nil he) q.2.2 q.2.1 (star_cons he)) (callN hP (sv_one hg))
theorem typ1 (T : Tb X nl G) (j : Nat) (hG : G[j]? = some x) (hm : X.mg x = none) (hP : Dn P) (hv : bootBuiltins x = some (.type ty)) (hc : CallR X (.type ty) r) (hg : ∀ H x d Q, BRp H d x → rdR X P (g d) H Q → r [x] H Q) (ha : EvB X a fa)
    (he : notStar a = true := by rfl) : PE X (.Call (.Name x p) [a] [] pos) (rdE X P (e1 g fa)) := by
  have q := T.gl x (List.mem_of_getElem? hG)
  rw [← one_eq]
  exact PE.imp (pe_callTy hc q.1 hm hv (eb_cons ha eb_nil he) q.2.2 q.2.1 (star_cons he)) (callN hP (sv_one hg))
theorem blt2 (T : Tb X nl G) (j : Nat) (hG : G[j]? = some x) (hm : X.mg x = none) (hP : Dn P) (hv : bootBuiltins x = some (.builtin id)) (hc : CallR X (.builtin id) r) (hg : ∀ H x y d e Q, BRp H d x → BRp H e y → rdR X P (g2 d e) H Q → r [x, y] H Q) (ha : EvB X a fa) (hb : EvB X b fb)
    (he : notStar a = true := by rfl) (he2 : notStar b = true := by rfl) : PE X (.Call (.Name x p) [a, b] [] pos) (rdE X P (e2 g2 fa fb)) := by
  have q := T.gl x (List.mem_of_getElem? hG)
  rw [← two_eq]
  exact PE.imp (pe_callB hc q.1 hm hv (eb_cons ha (eb_cons hb eb_nil he2) he) q.2.2 q.2.1 (star_cons he) (star_any (by rw [List.all_cons, he2]; rfl))) (callN hP (sv_two hg))
end
end
end D2
set_option Elab.async false
set_option linter.all false
set_option maxRecDepth 100000
set_option maxHeartbeats 4000000
namespace D2
open PySem PySem.Spec PyProof.Rows L2
theorem noFill_tuple_mul : fillsNumberSlot (.type "tuple") "mul" = pure false :=
  PySem.fillsNumberSlot_seq (id := "tuple.__mul__") (r := some (.builtin "tuple.__rmul__")) F.slot_tuple_mul.lookup (by decide +kernel) F.slot_tuple_rmul.lookup (by decide +kernel)
theorem repeat_tuple : seqRepeat? (.type "tuple") = pure (some (.builtin "tuple.__mul__")) := by
  unfold seqRepeat?
  rw [PySem.seqSlot_of (T := "tuple") (name := "__mul__") (id := "tuple.__mul__") F.slot_tuple_mul.lookup (by decide +kernel), PySem.seqSlot_of (T := "tuple") (name := "__rmul__") (id := "tuple.__rmul__") F.slot_tuple_rmul.lookup (by decide +kernel)]
  rfl
theorem int_rmul_tuple (a : Int) (t : Tok) (l : Addr) (items : Array Value) (n : Nat) (dd : Option Addr) (sl : Array (Option Value)) :
    Meets (Builtin.«int.__rmul__» ⟨[.int a t, .ref l], []⟩) (fun _ R s => s.heap.get? l = some { cls := .type "tuple", dict := dd, data := .seq items n, slots := sl } ∧ R (.ok (.ret Value.notImplemented)) s) :=
  .of_wp fun prog w A R s h => by obtain ⟨hp, g, d, tk, os⟩ := s; obtain ⟨hl, h⟩ := h; wp_walk; exact ⟨_, rfl, h⟩
theorem tuple_mulW (l : Addr) (items : Array Value) (n : Nat) (dd : Option Addr) (sl : Array (Option Value)) (x : Int) (u : Tok) (h1 : 2 ≤ x) (h2 : x < 2 ^ 63) (h0 : ¬ items.isEmpty = true) (hc1 : ¬ (items.size : Int) * x > (2 ^ 63 - 1) / 8) (hbig : Builtin.Tuple.tupleTooMany ((items.size : Int) * x) = false) (hsz : ¬ (List.foldl (fun x1 x2 => x1 ++ x2) #[] (List.replicate x.toNat items)).size > sizeLine) :
    Meets (Builtin.«tuple.__mul__» ⟨[.ref l, .int x u], []⟩) (fun _ R s => s.heap.get? l = some { cls := .type "tuple", dict := dd, data := .seq items n, slots := sl } ∧ R (.ok (.ret (Value.ref s.heap.objs.size))) { s with heap := s.heap.push { cls := Value.type "tuple", data := Data.seq (List.foldl (fun x1 x2 => x1 ++ x2) #[] (List.replicate x.toNat items)) }, toks := s.toks }) :=
  .of_wp fun prog w A R s h => by
    obtain ⟨hp, g, d, tk, os⟩ := s; obtain ⟨hl, h⟩ := h
    have f1 := AutoSeq1.idx_int; have f2 := AutoSeq1.sub_tuple_tuple; have f3 := AutoSeq1.sub_list_list; have f4 := AutoSeq1.sub_tuple_list; have f5 := AutoSeq1.sub_list_tuple
    have e0 : (decide (x < -2 ^ 63) || decide (x ≥ 2 ^ 63)) = false := by
      rw [decide_eq_false (by omega), decide_eq_false (by omega)]; rfl
    have e1 : (items.isEmpty || x == 1) = false := by
      have : (x == 1) = false := by simp; omega
      rw [this, Bool.or_false]; exact Bool.eq_false_iff.mpr h0
    have e2 : (decide (x ≤ 0) || items.isEmpty) = false := by
      rw [decide_eq_false (by omega), Bool.false_or]; exact Bool.eq_false_iff.mpr h0
    have e3 : decide ((items.size : Int) * x > (2 ^ 63 - 1) / 8) = false := decide_eq_false hc1
    have e4 : Builtin.Tuple.tupleTooMany ((items.size : Int) * x) = false := hbig
    wp_walk using wpAny_loadPart' hl
    refine wpAny_ite_false (decide_eq_false (by rw [e0]; exact Bool.false_ne_true)) ?_
    wp_walk using wpAny_loadPart' hl
    refine wpAny_ite_false (decide_eq_false (by rw [e1]; exact Bool.false_ne_true)) ?_
    wp_walk using wpAny_loadPart' hl
    refine wpAny_ite_false (decide_eq_false (by rw [e2]; exact Bool.false_ne_true)) ?_
    wp_walk using wpAny_loadPart' hl
    refine wpAny_ite_false e3 ?_
    wp_walk using wpAny_loadPart' hl
    exact ⟨_, rfl, h⟩
section
variable {X : Cx} {a b c : Expr} {fa fb fc : Fe} {pos : Pos} {nl : Nat} {G : List Str} {x : Str} {p : Pos}
def rRepT (K : PySem.W.Frag) : R2 := fun x y H Q => ∃ l k xs, x = .ref l ∧ y = .int k ∧ SqT K H l xs ∧ xs ≠ [] ∧ 2 ≤ k ∧ k < 2 ^ 63 ∧ xs.length * k.toNat ≤ sizeLine ∧ ∀ p, H p = none → Q (.ref p) (upd H p (.tup (List.replicate k.toNat xs).flatten))
theorem op_repT : OpR X (binaryOp .Mult) (rRepT X.K) := by
  intro pins s σ H x y v u Q I rx ry h
  obtain ⟨l, k, xs, rfl, rfl, hH, hne, h1, h2, hz, q⟩ := h
  cases rx
  obtain ⟨t, rfl⟩ := ry
  obtain ⟨its, r, pl, hz0⟩ := I.tuple hH
  obtain ⟨⟨cls, dd, data, sl⟩, e, hc, n, hd⟩ := id pl
  simp only at hc hd
  subst hc hd
  have hl := r.length
  have hnew : List.foldl (fun x1 x2 => x1 ++ x2) #[] (List.replicate k.toNat its.toArray) = (List.replicate k.toNat its).flatten.toArray := by
    have := foldl_rep its k.toNat []
    rw [List.nil_append] at this
    exact this
  have hlen : (List.replicate k.toNat its).flatten.length ≤ sizeLine := by rw [len_rep, ← hl, Nat.mul_comm]; exact hz
  have hprod : (its.length : Int) * k ≤ (sizeLine : Int) := by
    have h3 : ((its.length * k.toNat : Nat) : Int) ≤ (sizeLine : Int) := by rw [← hl]; exact Int.ofNat_le.mpr hz
    have h4 : ((k.toNat : Nat) : Int) = k := Int.toNat_of_nonneg (by omega)
    rw [Int.natCast_mul, h4] at h3
    exact h3
  have hcap : ¬ (its.toArray.size : Int) * k > (2 ^ 63 - 1) / 8 := by
    rw [List.size_toArray]
    have hs : sizeLine = 16777216 := sizeLine_eq
    omega
  have hbig : Builtin.Tuple.tupleTooMany ((its.toArray.size : Int) * k) = false := by
    unfold Builtin.Tuple.tupleTooMany
    rw [List.size_toArray]
    exact decide_eq_false (by omega)
  refine wpAny_binaryOp_repeat_ref (T := "tuple") (U := "int") (by decide) ⟨_, e, rfl⟩ (fun s' => typeIs_int s' k t) noFill_tuple_mul F.fills_int_mul F.slot_int_rmul repeat_tuple F.slot_int_index.lookup
    (call_meets F.slot_int_rmul (typeIs_int s k t) F.entry_int_rmul (F.args_int_rmul_2 _ _) (int_rmul_tuple k t l its.toArray n dd sl)
      ⟨e, rfl, ⟨_, e, rfl⟩, call_meets F.slot_tuple_mul ⟨_, e, rfl⟩ F.entry_tuple_mul (F.args_tuple_mul_2 _ _) (tuple_mulW l its.toArray n dd sl k t h1 h2 (by
        intro z
        apply hne
        have : its = [] := by simpa using z
        rw [this] at hl
        exact List.length_eq_zero_iff.mp hl) hcap hbig (by rw [hnew, List.size_toArray]; omega)) ⟨e, ?_⟩⟩)
  rw [hnew]
  refine ⟨.ref s.heap.objs.size, _, I.laid (t' := s.toks) (o := .tup (List.replicate k.toNat xs).flatten) (fun b ob q => Heap.get?_push_of_some _ q) (Nat.le_refl _) ?_, rfl, q _ (I.hok.fresh (Nat.le_refl _))⟩
  exact ⟨by rw [len_rep, Nat.mul_comm]; exact hz, _, r.rep k.toNat, IsTup.new _ _⟩
def dMul : PyData → PyData → R PyData
  | .int i, .int j => if (-(2 ^ 64) < i ∧ i < 2 ^ 64) ∨ (-(2 ^ 64) < j ∧ j < 2 ^ 64) then .ok (.int (i * j)) else .no
  | .tuple xs, .int k => if xs ≠ [] ∧ 2 ≤ k ∧ k < 2 ^ 63 ∧ xs.length * k.toNat ≤ sizeLine then .ok (.tuple (List.replicate k.toNat xs).flatten) else .no
  | _, _ => .no
theorem sv_mul : Serves2 X PRp (fun x y H Q => rI CMul (fun i j => .int (i * j)) x y H Q ∨ rRepT X.K x y H Q) dMul := fun H x y dx dy Q hx hy q => by
  cases dx with
  | int i =>
    cases dy with
    | int j =>
      simp only [dMul] at q
      split at q
      · rename_i h; exact .inl ⟨_, _, brp_int hx, brp_int hy, h, q _ H (Same.refl _) rp_int⟩
      · exact q.elim
    | _ => exact q.elim
  | tuple xs =>
    cases dy with
    | int k =>
      simp only [dMul] at q
      split at q
      · rename_i h
        obtain ⟨a, vs, rfl, ha, r⟩ := brp_tuple hx
        have hl := r.length
        refine .inr ⟨a, k, vs, rfl, brp_int hy, SqT.of ha, fun z => h.1 ?_, h.2.1, h.2.2.1, by rw [hl]; exact h.2.2.2, fun p hp => q _ _ (same_up hp _) (rp_new_tup hp (r.rep _))⟩
        rw [z] at hl
        exact List.length_eq_zero_iff.mp hl.symm
      · exact q.elim
    | _ => exact q.elim
  | _ => exact q.elim
theorem ev_mul (ha : EvB X a fa) (hb : EvB X b fb) : EvE X (.BinOp a .Mult b pos) (e2 dMul fa fb) := ev_bin dn_r (op_mul.or op_repT) sv_mul ha hb
theorem Z.ev_mul (ha : Z.EvB X a fa) (hb : Z.EvB X b fb) : Z.EvE X (.BinOp a .Mult b pos) (e2 dMul fa fb) :=
  ⟨D2.ev_mul ha.un hb.un⟩
theorem op_addS : OpR X (binaryOp .Add) (fun x y H Q => ∃ i j, x = .str i ∧ y = .str j ∧ i.length + j.length ≤ sizeLine ∧ Q (.str (i ++ j)) H) := by
  intro pins s σ H x y v u Q I rx ry h
  obtain ⟨i, j, rfl, rfl, hz, q⟩ := h
  obtain ⟨t, rfl⟩ := rx
  obtain ⟨t', rfl⟩ := ry
  exact PyProof.Rows.add_str (fun t' tk => ⟨.str (i ++ j), H, I.tok _, ⟨_, rfl⟩, q⟩) hz
def rCatT0 (K : PySem.W.Frag) : R2 := fun x y H Q => ∃ a b ys, x = .ref a ∧ y = .ref b ∧ SqT K H a [] ∧ SqT K H b ys ∧ Q (.ref b) H
theorem op_catT0 : OpR X (binaryOp .Add) (rCatT0 X.K) := by
  intro pins s σ H x y v u Q I rx ry h
  obtain ⟨a, b, ys, rfl, rfl, ha, hb, q⟩ := h
  cases rx
  cases ry
  obtain ⟨its, r1, p1, _⟩ := I.tuple ha
  obtain ⟨its2, r2, p2, _⟩ := I.tuple hb
  cases r1
  obtain ⟨⟨cls, dd, data, sl⟩, ho, hc, n, hd⟩ := id p1
  obtain ⟨⟨cls2, dd2, data2, sl2⟩, ho2, hc2, n2, hd2⟩ := id p2
  simp only at hc hd hc2 hd2
  subst hc hd hc2 hd2
  exact concat_meets ⟨_, ho, rfl⟩ ⟨_, ho2, rfl⟩ noFill_tuple_add seq_tuple_add PySem.F.slot_tuple_add PySem.F.entry_tuple_add (PySem.F.args_tuple_add_2 _ _)
    (tuple_addW0 a b _ its2.toArray n n2 dd dd2 sl sl2 (by rfl)) ⟨ho, ho2, ⟨.ref b, H, I, rfl, q⟩⟩
def rCatL (K : PySem.W.Frag) : R2 := fun x y H Q => ∃ l b xs zs, x = .ref l ∧ y = .ref b ∧ Rd H l (.lst xs) ∧ Rd H b (.lst zs) ∧ xs.length + zs.length ≤ sizeLine ∧ ∀ p, H p = none → Q (.ref p) (upd H p (.lst (xs ++ zs)))
theorem op_catL : OpR X (binaryOp .Add) (rCatL X.K) := by
  intro pins s σ H x y v u Q I rx ry h
  obtain ⟨l, b, xs, zs, rfl, rfl, hH, hB, hz, q⟩ := h
  cases rx
  cases ry
  obtain ⟨z, its, n, r, e⟩ := hH.ok I.hok
  obtain ⟨z2, its2, n2, r2, e2⟩ := hB.ok I.hok
  have hl := r.length
  have hl2 := r2.length
  refine PySem.P.add_list e e2 ?_ (by rw [List.size_toArray, List.size_toArray]; omega)
  have ea : its.toArray ++ its2.toArray = (its ++ its2).toArray := by simp
  rw [ea]
  exact ⟨.ref _, _, I.lnew (t' := s.toks) (r.append r2) (by rw [List.length_append]; omega), rfl, q _ I.fresh⟩
def dAdd : PyData → PyData → R PyData
  | .int i, .int j => .ok (.int (i + j))
  | .str x, .str y => if x.length + y.length ≤ sizeLine then .ok (.str (x ++ y)) else .no
  | .tuple xs, .tuple ys => if xs.length + ys.length ≤ sizeLine then .ok (.tuple (xs ++ ys)) else .no
  | .list xs, .list ys => if xs.length + ys.length ≤ sizeLine then .ok (.list (xs ++ ys)) else .no
  | _, _ => .no
theorem brp_lst {H : Hp} {ds : List PyData} {x : V} (h : BRp H (.list ds) x) : ∃ a vs, x = .ref a ∧ Rd H a (.lst vs) ∧ RpA H ds vs := by
  rcases h with h | h
  · simp only [Rp] at h
    obtain ⟨a, o, vs, e, ha, r⟩ := h
    exact ⟨a, vs, e, .inr ⟨o, ha⟩, r⟩
  · simp only [ORp] at h
    obtain ⟨a, vs, e, ha, r⟩ := h
    exact ⟨a, vs, e, .inl ha, r⟩
theorem sv_add : Serves2 X PFp (fun x y H Q => rI0 (fun i j => .int (i + j)) x y H Q ∨ (∃ i j, x = .str i ∧ y = .str j ∧ i.length + j.length ≤ sizeLine ∧ Q (.str (i ++ j)) H) ∨ rCatT X.K x y H Q ∨ rCatT0 X.K x y H Q ∨ rCatL X.K x y H Q) dAdd := fun H x y dx dy Q hx hy q => by
  cases dx with
  | int i =>
    cases dy with
    | int j => exact .inl ⟨_, _, brp_int hx, brp_int hy, q _ H (Same.refl _) (.inl rp_int)⟩
    | _ => exact q.elim
  | str i =>
    cases dy with
    | str j =>
      simp only [dAdd] at q
      split at q
      · rename_i h; exact .inr (.inl ⟨_, _, brp_str hx, brp_str hy, h, q _ H (Same.refl _) (.inl rp_str)⟩)
      · exact q.elim
    | _ => exact q.elim
  | tuple xs =>
    cases dy with
    | tuple ys =>
      simp only [dAdd] at q
      split at q
      · rename_i h
        have hx' := hx
        obtain ⟨a, vs, rfl, ha, r⟩ := brp_tuple hx
        obtain ⟨b, us, rfl, hb, r2⟩ := brp_tuple hy
        cases xs with
        | nil =>
          have := r.nil_inv
          subst this
          refine .inr (.inr (.inr (.inl ⟨a, b, us, rfl, rfl, SqT.of ha, SqT.of hb, q _ H (Same.refl _) (.inl ?_)⟩)))
          simp only [Rp, List.nil_append]
          exact ⟨b, us, rfl, hb, r2⟩
        | cons d ds =>
          refine .inr (.inr (.inl ⟨a, b, vs, us, rfl, rfl, SqT.of ha, SqT.of hb, fun z => ?_, by rw [r.length, r2.length]; exact h, fun z => ?_, fun _ p hp => q _ _ (same_up hp _) (.inl (rp_new_tup hp (r.append r2)))⟩))
          · rw [z] at r
            obtain ⟨_, _, e, _⟩ := r.cons_inv
            cases e
          · have hy0 : ys = [] := by
              have := r2.length
              rw [z] at this
              exact List.length_eq_zero_iff.mp this.symm
            refine q _ H (Same.refl _) (.inl ?_)
            rw [hy0, List.append_nil]
            simp only [Rp]
            exact ⟨a, vs, rfl, ha, r⟩
      · exact q.elim
    | _ => exact q.elim
  | list xs =>
    cases dy with
    | list ys =>
      simp only [dAdd] at q
      split at q
      · rename_i h
        obtain ⟨a, vs, rfl, ha, r⟩ := brp_lst hx
        obtain ⟨b, us, rfl, hb, r2⟩ := brp_lst hy
        exact .inr (.inr (.inr (.inr ⟨a, b, vs, us, rfl, rfl, ha, hb, by rw [r.length, r2.length]; exact h, fun p hp => q _ _ (same_up hp _) (.inr (nrp_new_lst hp (r.append r2)))⟩)))
      · exact q.elim
    | _ => exact q.elim
  | _ => exact q.elim
theorem ev_add (ha : EvB X a fa) (hb : EvB X b fb) : EvE X (.BinOp a .Add b pos) (e2 dAdd fa fb) :=
  EvF.e (ev_bin dn_f (op_add.or (op_addS.or (op_catT.or (op_catT0.or op_catL)))) sv_add ha hb)
theorem Z.ev_add (ha : Z.EvB X a fa) (hb : Z.EvB X b fb) : Z.EvE X (.BinOp a .Add b pos) (e2 dAdd fa fb) :=
  ⟨D2.ev_add ha.un hb.un⟩
end
end D2
set_option Elab.async false
set_option linter.all false
set_option maxRecDepth 100000
set_option maxHeartbeats 4000000
namespace D2
open PySem PySem.Spec PyProof.Rows L2
section
variable {prog : Program} {w : World} {A : Around} {E : Value → Shared → Prop} {s : Shared}
theorem getItem_tuple_whole {t sl : Addr} {items : Array Value} {vl vu : Value} {lo hi : Option Int} {Q : Value → Shared → Prop} (ht : IsTup s.heap t items) (hs : s.heap.IsSliceOf sl vl vu .none) (pl : IsPart vl lo) (pu : IsPart vu hi)
    (hw : HT.sIx items.size 0 lo = 0 ∧ HT.sIx items.size items.size hi = items.size) (h : Q (.ref t) s) : wpAny (model prog w) A (getItem (.ref t) (.ref sl)) Q E s := by
  obtain ⟨os, hos, hcs, hds⟩ := id hs
  have hTs : s.TypeIs (.ref sl) "slice" := ⟨os, hos, hcs⟩
  unfold getItem
  try with_reducible refine wpAny_holding ?_
  first | refine wpAny_bind (wpAny_pure ?_) | skip
  refine wpAny_bind (wpAny_sequenceKey ht.typeIs (by decide) ?_)
  refine wpAny_bind (wpAny_callSpecial?_slot (name := Str.ofString "__getitem__") ht.typeIs PyProof.Rows.slot_tuple_getitem
    (wpAny_call_entry PyProof.Rows.slot_tuple_getitem ht.typeIs entry_tuple_getitem ?_ (args_tuple_getitem _ _)))
  show wpAny _ _ (Builtin.Tuple.tupleItemsOf (.ref t) >>= _) _ _ s
  refine wpAny_bind (tupleItemsOf_ ht ?_)
  refine wpAny_bind (wpAny_typeOf hTs ?_)
  rw [if_pos (by decide)]
  refine wpAny_bind (HT.sliceApplied_gen hs pl pu ?_)
  have hyes : (((HT.sIx items.size 0 lo : Nat) : Int) == 0 && (1 : Int) == 1 && (HT.sIx items.size items.size hi - HT.sIx items.size 0 lo) == items.size) = true := by
    rw [hw.1, hw.2]; simp
  show wpAny _ _ (if (((HT.sIx items.size 0 lo : Nat) : Int) == 0 && (1 : Int) == 1 && (HT.sIx items.size items.size hi - HT.sIx items.size 0 lo) == items.size) = true then _ else _) _ _ s
  rw [if_pos hyes]
  refine wpAny_bind (m := Builtin.Tuple.tupleIsExact _) ?_
  unfold Builtin.Tuple.tupleIsExact
  refine wpAny_bind (wpAny_typeOf ht.typeIs (wpAny_pure ?_))
  show wpAny _ _ (if (Value.type "tuple" == Value.type "tuple") = true then _ else _) _ _ s
  rw [if_pos (by decide)]
  refine wpAny_bind (wpAny_rule ?_)
  first
    | exact wpAny_pure ⟨_, rfl, wpAny_pure h⟩
    | exact wpAny_bind (wpAny_pure (wpAny_pure ⟨_, rfl, wpAny_pure h⟩))
end
section
variable {X : Cx} {a b c : Expr} {fa fb fc : Fe} {pos p2 : Pos} {nl : Nat} {G : List Str} {x : Str} {p : Pos}
def cutD (xs : List PyData) (lo hi : Option Int) : List PyData := (xs.drop (HT.sIx xs.length 0 lo)).take (HT.sIx xs.length xs.length hi - HT.sIx xs.length 0 lo)
theorem RpA.cut {H : Hp} {ds : List PyData} {vs : List V} (r : RpA H ds vs) (lo hi : Option Int) : RpA H (cutD ds lo hi) (cutV vs lo hi) := by
  unfold cutD cutV
  rw [r.length]
  exact (r.drop _).take _
def rSlW (K : PySem.W.Frag) : V → Option Int → Option Int → Hp → VK → Prop := fun x lo hi H Q => ∃ a xs, x = .ref a ∧ SqT K H a xs ∧ (HT.sIx xs.length 0 lo = 0 ∧ HT.sIx xs.length xs.length hi = xs.length) ∧ Q (.ref a) H
theorem sl_whole : SlR X (rSlW X.K) := by
  intro pins s σ H x v vl vu lo hi sl Q I rx hs pl pu h
  obtain ⟨a, xs, rfl, hx, hw, q⟩ := h
  cases rx
  obtain ⟨its, r, ht, hz⟩ := I.tuple hx
  have hlen : its.toArray.size = xs.length := by rw [List.size_toArray]; exact r.length.symm
  refine ⟨"tuple", _, PyProof.Rows.slot_tuple_getitem.lookup, ht.typeIs, ?_⟩
  exact getItem_tuple_whole ht hs pl pu (by rw [hlen]; exact hw) ⟨.ref a, H, I, rfl, q⟩
def dSl : PyData → Option Int → Option Int → R PyData
  | .tuple xs, lo, hi => .ok (.tuple (cutD xs lo hi))
  | .list xs, lo, hi => .ok (.list (cutD xs lo hi))
  | _, _, _ => .no
abbrev Fo := Rho → R (Option Int)
def oNone : Fo := fun _ => .ok none
def asI : PyData → R Int
  | .int i => .ok i
  | _ => .no
def oSome (f : Fe) : Fo := fun ρ => f ρ >>= fun d => asI d >>= fun i => .ok (some i)
def rdPO (X : Cx) (f : Fo) : TO := fun σ H Q => ∃ ρ, Sl H σ ρ ∧ match f ρ with
  | .ok o => ∀ H', Same H H' → Q o H'
  | .ex c => Xw X c H
  | .no => False
def EvO (X : Cx) (e : Option Expr) (f : Fo) : Prop := PO X e (rdPO X f)
structure Z.EvO (X : Cx) (e : Option Expr) (f : Fo) : Prop where
  un : D2.EvO X e f
theorem eo_none : EvO X none oNone := fun pins s σ H Q I ⟨ρ, sl, q⟩ => po_none pins s σ H Q I (q H (Same.refl _))
theorem Z.eo_none  : Z.EvO X none oNone :=
  ⟨D2.eo_none⟩
theorem tgt_o (Q : Option Int → Hp → Prop) : Tgt X (fun (r : R (Option Int)) H => match r with | .ok b => ∀ H', Same H H' → Q b H' | .ex c => Xw X c H | .no => False) where
  mono := fun r H H' h s => by
    cases r with
    | ok d => exact fun H2 s2 => h H2 (s.trans s2)
    | ex c => exact Xw.mono h s
    | no => exact h
  ex := fun c H h => h
  no := fun H h => h
theorem eo_some {e : Expr} {f : Fe} (h : EvE X e f) : EvO X (some e) (oSome f) := fun pins s σ H Q I q =>
  po_some h pins s σ H Q I ((bind_e (P := PRp) (f := f) (k := fun _ d => asI d >>= fun i => .ok (some i)) (tgt_o (X := X) Q) q).post fun v H1 ⟨_, d, _, _, p, q1⟩ => by
    cases d with
    | int i =>
      have e1 : v = .int i := by simpa only [Rp] using p
      exact ⟨i, e1, q1 H1 (Same.refl _)⟩
    | _ => exact q1.elim)
theorem Z.eo_some {e : Expr} {f : Fe} (h : Z.EvE X e f) : Z.EvO X (some e) (oSome f) :=
  ⟨D2.eo_some h.un⟩
def eSl (f : Fe) (lo hi : Fo) : Fe := fun ρ => f ρ >>= fun d => lo ρ >>= fun l => hi ρ >>= fun u => dSl d l u
theorem bind_o {β : Type} {Tg : R β → Hp → Prop} {σ : St} {H : Hp} (t : Tgt X Tg) {f : Fo} {k : Rho → Option Int → R β} (h : ∃ ρ, Sl H σ ρ ∧ Tg (f ρ >>= k ρ) H) : rdPO X f σ H (fun o H1 => ∃ ρ, Sl H1 σ ρ ∧ Same H H1 ∧ Tg (k ρ o) H1) := by
  obtain ⟨ρ, sl, q⟩ := h
  refine ⟨ρ, sl, ?_⟩
  cases e : f ρ with
  | ok d => rw [e] at q; exact fun H1 s => ⟨ρ, sl.mono s, s, t.mono _ _ _ q s⟩
  | ex c => rw [e] at q; exact t.ex _ _ q
  | no => rw [e] at q; exact (t.no _ q).elim
theorem rdPO.post {f : Fo} {σ : St} {H : Hp} {Q Q' : Option Int → Hp → Prop} (h : rdPO X f σ H Q) (i : ∀ b H', Q b H' → Q' b H') : rdPO X f σ H Q' := by
  obtain ⟨ρ, sl, q⟩ := h
  refine ⟨ρ, sl, ?_⟩
  cases e : f ρ with
  | ok d => rw [e] at q; exact fun H' s => i _ _ (q H' s)
  | ex c => rw [e] at q; exact q
  | no => rw [e] at q; exact q
theorem ev_slice {lo hi : Option Expr} {fl fh : Fo} (ha : EvB X a fa) (hl : EvO X lo fl) (hu : EvO X hi fh) : EvE X (.Subscript a (.Slice lo hi none p2) pos) (eSl fa fl fh) := by
  refine EvF.e (PE.imp (pe_slice (sl_whole.or (sl_tup.or sl_list)) ha hl hu) fun σ H Q h => ?_)
  refine (bind_e (P := PBp) (f := fa) (k := fun ρ d => fl ρ >>= fun l => fh ρ >>= fun u => dSl d l u) (tgt_r (X := X) dn_f Q) h).post fun v H1 ⟨ρ1, d1, sl1, _, p1, q1⟩ => ?_
  refine (bind_o (f := fl) (k := fun ρ l => fh ρ >>= fun u => dSl d1 l u) (tgt_r (X := X) dn_f Q) ⟨ρ1, sl1, q1⟩).post fun l H2 ⟨ρ2, sl2, s2, q2⟩ => ?_
  refine (bind_o (f := fh) (k := fun ρ u => dSl d1 l u) (tgt_r (X := X) dn_f Q) ⟨ρ2, sl2, q2⟩).post fun u H3 ⟨ρ3, sl3, s3, q3⟩ => ?_
  have p3 : BRp H3 d1 v := BRp.mono (BRp.mono p1 s2) s3
  cases d1 with
  | tuple xs =>
    obtain ⟨a', vs, rfl, ha', r⟩ := brp_tuple p3
    have hlen := r.length
    by_cases hw : HT.sIx vs.length 0 l = 0 ∧ HT.sIx vs.length vs.length u = vs.length
    · refine .inl ⟨a', vs, rfl, SqT.of ha', hw, q3 _ H3 (Same.refl _) (.inl ?_)⟩
      have e : cutD xs l u = xs := by
        unfold cutD
        rw [← hlen, hw.1, hw.2]
        simp [hlen]
      rw [e]
      simp only [Rp]
      exact ⟨a', vs, rfl, ha', r⟩
    · exact .inr (.inl ⟨a', vs, rfl, SqT.of ha', hw, fun p hp => q3 _ _ (same_up hp _) (.inl (rp_new_tup hp (r.cut l u)))⟩)
  | list xs =>
    obtain ⟨a', vs, rfl, ha', r⟩ := brp_list (K := X.K) p3
    exact .inr (.inr ⟨a', vs, rfl, ha', fun p hp => q3 _ _ (same_up hp _) (.inr (nrp_new_lst hp (r.cut l u)))⟩)
  | _ => exact q3.elim
theorem Z.ev_slice {lo hi : Option Expr} {fl fh : Fo} (ha : Z.EvB X a fa) (hl : Z.EvO X lo fl) (hu : Z.EvO X hi fh) : Z.EvE X (.Subscript a (.Slice lo hi none p2) pos) (eSl fa fl fh) :=
  ⟨D2.ev_slice ha.un hl.un hu.un⟩
end
end D2
set_option Elab.async false
set_option linter.all false
set_option maxRecDepth 100000
set_option maxHeartbeats 4000000
namespace D2
open PySem PySem.Spec PyProof.Rows L2
section
variable {X : Cx} {a b c : Expr} {fa fb fc : Fe} {pos p2 : Pos} {nl : Nat} {G : List Str} {x : Str} {p : Pos}
theorem call_lenR : CallR X (.builtin "len") (fun xs H Q => ∃ a kvs, xs = [V.ref a] ∧ Rd H a (.dK kvs) ∧ Q (.int kvs.length) H) := by
  intro pins s σ H xs us Q I r h
  obtain ⟨a, kvs, rfl, ha, q⟩ := h
  obtain ⟨u, rfl, ru⟩ := vals1 r
  cases ru
  exact d_len I ha fun t s' I' => ⟨.int kvs.length, H, I', ⟨t, rfl⟩, q⟩
theorem RpK.length {H : Hp} : ∀ {kvs : List (PyData × PyData)} {ks : List (Key × V)}, RpK H kvs ks → ks.length = kvs.length
  | [], ks, h => by simp only [RpK] at h; rw [h]; rfl
  | kd :: kvs, ks, h => by
    simp only [RpK] at h
    obtain ⟨x, v, r, rfl, _, t⟩ := h
    rw [List.length_cons, List.length_cons, RpK.length t]
def dLen : PyData → R PyData
  | .list ds => .ok (.int ds.length)
  | .tuple ds => .ok (.int ds.length)
  | .dict kvs => if isIns kvs = true then .no else .ok (.int kvs.length)
  | .str y => if y.length ≤ sizeLine then .ok (.int y.length) else .no
  | _ => .no
theorem ev_len (T : Tb X nl G) (j : Nat) (hG : G[j]? = some ("len" : Str)) (hm : X.mg "len" = none) (ha : EvB X a fa) (he : notStar a = true := by rfl) : EvE X (.Call (.Name "len" p) [a] [] pos) (e1 dLen fa) := by
  refine blt1 T j hG hm dn_r PySem.boot_len (call_len_seq.or (call_len_str.or call_lenR)) (fun H x d Q hx q => ?_) ha he
  cases d with
  | list ds =>
    obtain ⟨a', vs, rfl, h, r⟩ := brp_list (K := X.K) hx
    exact .inl ⟨a', vs, rfl, .inl h, by rw [r.length]; exact q _ H (Same.refl _) rp_int⟩
  | tuple ds =>
    obtain ⟨a', vs, rfl, h, r⟩ := brp_tuple hx
    exact .inl ⟨a', vs, rfl, .inr (SqT.of h), by rw [r.length]; exact q _ H (Same.refl _) rp_int⟩
  | dict kvs =>
    simp only [dLen] at q
    split at q
    · exact q.elim
    rename_i hi
    obtain ⟨a', vs, rfl, h, r⟩ := brp_dict (Bool.not_eq_true _ ▸ hi) hx
    exact .inr (.inr ⟨a', vs, rfl, h, by rw [r.length]; exact q _ H (Same.refl _) rp_int⟩)
  | str y =>
    simp only [dLen] at q
    split at q
    · rename_i hz; exact .inr (.inl ⟨y, by rw [brp_str hx], hz, q _ H (Same.refl _) rp_int⟩)
    · exact q.elim
  | _ => exact q.elim
theorem Z.ev_len (T : Tb X nl G) (j : Nat) (hG : G[j]? = some ("len" : Str)) (hm : X.mg "len" = none) (ha : Z.EvB X a fa) (he : notStar a = true := by rfl) : Z.EvE X (.Call (.Name "len" p) [a] [] pos) (e1 dLen fa) :=
  ⟨D2.ev_len T j hG hm ha.un he⟩
def dInt : PyData → R PyData
  | .int i => .ok (.int i)
  | .bool k => .ok (.int (if k then 1 else 0))
  | _ => .no
theorem ev_int1 (T : Tb X nl G) (j : Nat) (hG : G[j]? = some ("int" : Str)) (hm : X.mg "int" = none) (ha : EvB X a fa) (he : notStar a = true := by rfl) : EvE X (.Call (.Name "int" p) [a] [] pos) (e1 dInt fa) := by
  refine typ1 T j hG hm dn_r PyProof.Rows.boot_int call_int1 (fun H x d Q hx q => ?_) ha he
  cases d with
  | int i => exact .inl ⟨i, by rw [brp_int hx], q _ H (Same.refl _) rp_int⟩
  | bool k => exact .inr ⟨k, by rw [brp_bool hx], q _ H (Same.refl _) rp_int⟩
  | _ => exact q.elim
theorem Z.ev_int1 (T : Tb X nl G) (j : Nat) (hG : G[j]? = some ("int" : Str)) (hm : X.mg "int" = none) (ha : Z.EvB X a fa) (he : notStar a = true := by rfl) : Z.EvE X (.Call (.Name "int" p) [a] [] pos) (e1 dInt fa) :=
  ⟨D2.ev_int1 T j hG hm ha.un he⟩
def dStr : PyData → R PyData
  | .int i => if i.natAbs.log2 < 1920 then .ok (.str (toString i)) else .no
  | _ => .no
def dMin : PyData → PyData → R PyData
  | .int i, .int j => .ok (.int (if j < i then j else i))
  | _, _ => .no
def dMax : PyData → PyData → R PyData
  | .int i, .int j => .ok (.int (if j > i then j else i))
  | _, _ => .no
theorem ev_min (T : Tb X nl G) (j : Nat) (hG : G[j]? = some ("min" : Str)) (hm : X.mg "min" = none) (ha : EvB X a fa) (hb : EvB X b fb) (he : notStar a = true := by rfl) (he2 : notStar b = true := by rfl) :
    EvE X (.Call (.Name "min" p) [a, b] [] pos) (e2 dMin fa fb) := by
  refine blt2 T j hG hm dn_r PyProof.Rows.boot_min (call_min2 T.calm) (fun H x y d e Q hx hy q => ?_) ha hb he he2
  cases d with
  | int i =>
    cases e with
    | int j => exact ⟨i, j, by rw [brp_int hx, brp_int hy], q _ H (Same.refl _) rp_int⟩
    | _ => exact q.elim
  | _ => exact q.elim
theorem Z.ev_min (T : Tb X nl G) (j : Nat) (hG : G[j]? = some ("min" : Str)) (hm : X.mg "min" = none) (ha : Z.EvB X a fa) (hb : Z.EvB X b fb) (he : notStar a = true := by rfl) (he2 : notStar b = true := by rfl) : Z.EvE X (.Call (.Name "min" p) [a, b] [] pos) (e2 dMin fa fb) :=
  ⟨D2.ev_min T j hG hm ha.un hb.un he he2⟩
theorem ev_max (T : Tb X nl G) (j : Nat) (hG : G[j]? = some ("max" : Str)) (hm : X.mg "max" = none) (ha : EvB X a fa) (hb : EvB X b fb) (he : notStar a = true := by rfl) (he2 : notStar b = true := by rfl) :
    EvE X (.Call (.Name "max" p) [a, b] [] pos) (e2 dMax fa fb) := by
  refine blt2 T j hG hm dn_r PyProof.Rows.boot_max (call_max2 T.calm) (fun H x y d e Q hx hy q => ?_) ha hb he he2
  cases d with
  | int i =>
    cases e with
    | int j => exact ⟨i, j, by rw [brp_int hx, brp_int hy], q _ H (Same.refl _) rp_int⟩
    | _ => exact q.elim
  | _ => exact q.elim
theorem Z.ev_max (T : Tb X nl G) (j : Nat) (hG : G[j]? = some ("max" : Str)) (hm : X.mg "max" = none) (ha : Z.EvB X a fa) (hb : Z.EvB X b fb) (he : notStar a = true := by rfl) (he2 : notStar b = true := by rfl) : Z.EvE X (.Call (.Name "max" p) [a, b] [] pos) (e2 dMax fa fb) :=
  ⟨D2.ev_max T j hG hm ha.un hb.un he he2⟩
def dTuple : PyData → R PyData
  | .list ds => .ok (.tuple ds)
  | .tuple ds => .ok (.tuple ds)
  | _ => .no
theorem ev_tuple (T : Tb X nl G) (j : Nat) (hG : G[j]? = some ("tuple" : Str)) (hm : X.mg "tuple" = none) (ha : EvB X a fa) (he : notStar a = true := by rfl) : EvE X (.Call (.Name "tuple" p) [a] [] pos) (e1 dTuple fa) := by
  refine typ1 T j hG hm dn_r PyProof.Rows.boot_tuple call_tuple_of (fun H x d Q hx q => ?_) ha he
  cases d with
  | list ds =>
    obtain ⟨a', vs, rfl, h, r⟩ := brp_list (K := X.K) hx
    exact ⟨a', vs, rfl, .inl ⟨h, fun l hl => q _ _ (same_up hl _) (rp_new_tup hl r)⟩⟩
  | tuple ds =>
    obtain ⟨a', vs, rfl, h, r⟩ := brp_tuple hx
    exact ⟨a', vs, rfl, .inr ⟨SqT.of h, q _ H (Same.refl _) (by simp only [Rp]; exact ⟨a', vs, rfl, h, r⟩)⟩⟩
  | _ => exact q.elim
theorem Z.ev_tuple (T : Tb X nl G) (j : Nat) (hG : G[j]? = some ("tuple" : Str)) (hm : X.mg "tuple" = none) (ha : Z.EvB X a fa) (he : notStar a = true := by rfl) : Z.EvE X (.Call (.Name "tuple" p) [a] [] pos) (e1 dTuple fa) :=
  ⟨D2.ev_tuple T j hG hm ha.un he⟩
def dList : PyData → R PyData
  | .list ds => .ok (.list ds)
  | .tuple ds => .ok (.list ds)
  | _ => .no
theorem evn_list (T : Tb X nl G) (j : Nat) (hG : G[j]? = some ("list" : Str)) (hm : X.mg "list" = none) (ha : EvB X a fa) (he : notStar a = true := by rfl) : EvN X (.Call (.Name "list" p) [a] [] pos) (e1 dList fa) := by
  refine typ1 T j hG hm dn_n PyProof.Rows.boot_list call_list_of (fun H x d Q hx q => ?_) ha he
  cases d with
  | list ds =>
    obtain ⟨a', vs, rfl, h, r⟩ := brp_list (K := X.K) hx
    exact ⟨a', vs, rfl, .inl h, fun l hl => q _ _ (same_up hl _) (nrp_new_lst hl r)⟩
  | tuple ds =>
    obtain ⟨a', vs, rfl, h, r⟩ := brp_tuple hx
    exact ⟨a', vs, rfl, .inr (SqT.of h), fun l hl => q _ _ (same_up hl _) (nrp_new_lst hl r)⟩
  | _ => exact q.elim
theorem Z.evn_list (T : Tb X nl G) (j : Nat) (hG : G[j]? = some ("list" : Str)) (hm : X.mg "list" = none) (ha : Z.EvB X a fa) (he : notStar a = true := by rfl) : Z.EvN X (.Call (.Name "list" p) [a] [] pos) (e1 dList fa) :=
  ⟨D2.evn_list T j hG hm ha.un he⟩
inductive Ty where
  | int | bool | str | list | tuple
def Ty.nm : Ty → String
  | .int => "int"
  | .bool => "bool"
  | .str => "str"
  | .list => "list"
  | .tuple => "tuple"
def isi : Ty → PyData → Bool
  | .int, .int _ => true
  | .int, .bool _ => true
  | .bool, .bool _ => true
  | .str, .str _ => true
  | .list, .list _ => true
  | .tuple, .tuple _ => true
  | _, _ => false
def dIsi (T : Ty) : PyData → R PyData
  | .dict _ => .no
  | d => .ok (.bool (isi T d))
theorem call_isi : CallR X (.builtin "isinstance") (fun xs H Q => ∃ x t T k, xs = [x, .ty T] ∧ TyOf X.K H x t ∧ PySem.W.kitOne X.K t (.type T) = some k ∧ Q (.bl k) H) := by
  intro pins s σ H xs us Q I r h
  obtain ⟨x, t, T, k, rfl, ty, e, q⟩ := h
  obtain ⟨u, w', rfl, rx, ry⟩ := vals2 r
  cases ry
  exact isinst_ok I rx ty e fun tk => ⟨.bl k, H, I.tok tk, rfl, q⟩
theorem ty_of {K : PySem.W.Frag} {H : Hp} {d : PyData} {v : V} (h : BRp H d v) : (∃ kvs, d = .dict kvs) ∨ ∃ t, TyOf K H v t ∧ ∀ T : Ty, PySem.W.kitOne K t (.type T.nm) = some (isi T d) := by
  cases d with
  | none => rw [brp_none h]; exact .inr ⟨_, .non, fun T => by cases T <;> rfl⟩
  | bool k => rw [brp_bool h]; exact .inr ⟨_, .bl k, fun T => by cases T <;> rfl⟩
  | int i => rw [brp_int h]; exact .inr ⟨_, .int i, fun T => by cases T <;> rfl⟩
  | str y => rw [brp_str h]; exact .inr ⟨_, .str y, fun T => by cases T <;> rfl⟩
  | tuple ds => obtain ⟨a, vs, rfl, ha, _⟩ := brp_tuple h; exact .inr ⟨_, .tup ha, fun T => by cases T <;> rfl⟩
  | list ds =>
    obtain ⟨a, vs, rfl, ha, _⟩ := brp_lst h
    rcases ha with ha | ⟨o, ha⟩
    · exact .inr ⟨_, .lst ha, fun T => by cases T <;> rfl⟩
    · exact .inr ⟨_, .frz ha, fun T => by cases T <;> rfl⟩
  | dict kvs => exact .inl ⟨kvs, rfl⟩
theorem ev_isi (ty : Ty) {y : Str} {py : Pos} (T : Tb X nl G) (j : Nat) (hG : G[j]? = some ("isinstance" : Str)) (hm : X.mg "isinstance" = none) (hy : bootBuiltins y = some (.type ty.nm)) (T' : Tb X nl G) (j' : Nat) (hG' : G[j']? = some y) (hm' : X.mg y = none) (ha : EvB X a fa)
    (he : notStar a = true := by rfl) : EvE X (.Call (.Name "isinstance" p) [a, .Name y py] [] pos) (e1 (dIsi ty) fa) := by
  have g := T.gl _ (List.mem_of_getElem? hG)
  have g' := T.gl _ (List.mem_of_getElem? hG')
  have hp : PE X (.Name y py) (tC (.ty ty.nm)) := pe_bltn g'.1 hm' hy rfl g'.2.2 g'.2.1
  refine PE.imp (pe_callB call_isi g.1 hm PyProof.Rows.boot_isinstance (pa_cons ha (pa_cons hp pa_nil) (star_cons he)) g.2.2 g.2.1 (star_cons he)) fun σ H Q h => ?_
  refine (bind_e (P := PBp) (f := fa) (k := fun _ d => dIsi ty d) (tgt_r (X := X) dn_r Q) h).post fun v H1 ⟨_, d, _, _, p1, q1⟩ => ?_
  show ∃ x t T k, _ ∧ _ ∧ _ ∧ _
  rcases ty_of (K := X.K) p1 with ⟨kvs, rfl⟩ | ⟨t, ht, hk⟩
  · exact q1.elim
  · refine ⟨v, t, ty.nm, isi ty d, rfl, ht, hk ty, ?_⟩
    cases d with
    | dict kvs => exact q1.elim
    | _ => exact q1 _ H1 (Same.refl _) rp_bool
theorem ev_isi_int {py : Pos} (T : Tb X nl G) (j : Nat) (hG : G[j]? = some ("isinstance" : Str)) (hm : X.mg "isinstance" = none) (T' : Tb X nl G) (j' : Nat) (hG' : G[j']? = some ("int" : Str)) (hm' : X.mg "int" = none) (ha : EvB X a fa)
    (he : notStar a = true := by rfl) : EvE X (.Call (.Name "isinstance" p) [a, .Name "int" py] [] pos) (e1 (dIsi .int) fa) := ev_isi .int T j hG hm PyProof.Rows.boot_int T' j' hG' hm' ha he
theorem Z.ev_isi_int {py : Pos} (T : Tb X nl G) (j : Nat) (hG : G[j]? = some ("isinstance" : Str)) (hm : X.mg "isinstance" = none) (T' : Tb X nl G) (j' : Nat) (hG' : G[j']? = some ("int" : Str)) (hm' : X.mg "int" = none) (ha : Z.EvB X a fa) (he : notStar a = true := by rfl) : Z.EvE X (.Call (.Name "isinstance" p) [a, .Name "int" py] [] pos) (e1 (dIsi .int) fa) :=
  ⟨D2.ev_isi_int T j hG hm T' j' hG' hm' ha.un he⟩
theorem ev_isi_bool {py : Pos} (T : Tb X nl G) (j : Nat) (hG : G[j]? = some ("isinstance" : Str)) (hm : X.mg "isinstance" = none) (T' : Tb X nl G) (j' : Nat) (hG' : G[j']? = some ("bool" : Str)) (hm' : X.mg "bool" = none) (ha : EvB X a fa)
    (he : notStar a = true := by rfl) : EvE X (.Call (.Name "isinstance" p) [a, .Name "bool" py] [] pos) (e1 (dIsi .bool) fa) := ev_isi .bool T j hG hm PyProof.Rows.boot_bool T' j' hG' hm' ha he
theorem Z.ev_isi_bool {py : Pos} (T : Tb X nl G) (j : Nat) (hG : G[j]? = some ("isinstance" : Str)) (hm : X.mg "isinstance" = none) (T' : Tb X nl G) (j' : Nat) (hG' : G[j']? = some ("bool" : Str)) (hm' : X.mg "bool" = none) (ha : Z.EvB X a fa) (he : notStar a = true := by rfl) : Z.EvE X (.Call (.Name "isinstance" p) [a, .Name "bool" py] [] pos) (e1 (dIsi .bool) fa) :=
  ⟨D2.ev_isi_bool T j hG hm T' j' hG' hm' ha.un he⟩
theorem ev_isi_tuple {py : Pos} (T : Tb X nl G) (j : Nat) (hG : G[j]? = some ("isinstance" : Str)) (hm : X.mg "isinstance" = none) (T' : Tb X nl G) (j' : Nat) (hG' : G[j']? = some ("tuple" : Str)) (hm' : X.mg "tuple" = none) (ha : EvB X a fa)
    (he : notStar a = true := by rfl) : EvE X (.Call (.Name "isinstance" p) [a, .Name "tuple" py] [] pos) (e1 (dIsi .tuple) fa) := ev_isi .tuple T j hG hm PyProof.Rows.boot_tuple T' j' hG' hm' ha he
theorem Z.ev_isi_tuple {py : Pos} (T : Tb X nl G) (j : Nat) (hG : G[j]? = some ("isinstance" : Str)) (hm : X.mg "isinstance" = none) (T' : Tb X nl G) (j' : Nat) (hG' : G[j']? = some ("tuple" : Str)) (hm' : X.mg "tuple" = none) (ha : Z.EvB X a fa) (he : notStar a = true := by rfl) : Z.EvE X (.Call (.Name "isinstance" p) [a, .Name "tuple" py] [] pos) (e1 (dIsi .tuple) fa) :=
  ⟨D2.ev_isi_tuple T j hG hm T' j' hG' hm' ha.un he⟩
end
section
variable {X : Cx} {tg a b c : Expr} {fa fb fc : Fe} {pos p2 : Pos} {nl : Nat} {G : List Str} {x : Str} {p : Pos} {fs : Rho → R (List PyData)} {es : List Expr}
def seqD : PyData → R (List PyData)
  | .list ds => .ok ds
  | .tuple ds => .ok ds
  | _ => .no
def iSeq (f : Fe) : Rho → R (List PyData) := fun ρ => f ρ >>= seqD
theorem itd_list {K : PySem.W.Frag} {a : Addr} {ds : List PyData} : ItD (Itl K a) (fun H => ∃ o vs, H a = some (.frz o (.lst vs)) ∧ RpA H ds vs) ds where
  go := fun i H ⟨o, vs, h, r⟩ hi => by
    have hl := r.length
    exact ⟨vs, vs[i], .inl (.inr ⟨o, h⟩), List.getElem?_eq_getElem (by omega)⟩
  yld := fun i H x H' d ⟨o, vs, h, r⟩ hd ⟨e, y⟩ => by
    subst e
    obtain ⟨v, e1, p⟩ := r.get hd
    have := y vs (.inl (.inr ⟨o, h⟩))
    rw [e1] at this
    cases this
    exact ⟨Same.refl _, p⟩
  stop := fun i H ⟨o, vs, h, r⟩ hi => ⟨vs, .inl (.inr ⟨o, h⟩), by rw [r.length]; exact hi⟩
theorem itd_tup {K : PySem.W.Frag} {a : Addr} {ds : List PyData} : ItD (Itt K a) (fun H => ∃ vs, H a = some (.tup vs) ∧ RpA H ds vs) ds where
  go := fun i H ⟨vs, h, r⟩ hi => by
    have hl := r.length
    exact ⟨vs, vs[i], SqT.of h, List.getElem?_eq_getElem (by omega)⟩
  yld := fun i H x H' d ⟨vs, h, r⟩ hd ⟨e, y⟩ => by
    subst e
    obtain ⟨v, e1, p⟩ := r.get hd
    have := y vs (SqT.of h)
    rw [e1] at this
    cases this
    exact ⟨Same.refl _, p⟩
  stop := fun i H ⟨vs, h, r⟩ hi => ⟨vs, SqT.of h, by rw [r.length]; exact hi⟩
def iSq (K : PySem.W.Frag) (tl : TE) : TI := fun σ H R => tl σ H fun x H1 => ∃ a, x = .ref a ∧ ((∃ xs, SqL K H1 a xs ∧ R (Itl K a) H1) ∨ ∃ xs, SqT K H1 a xs ∧ R (Itt K a) H1)
theorem pi_sq {l : Expr} {tl : TE} (hl : PE X l tl) : PI X tg l (iSq X.K tl) := by
  intro pins s σ H R I h
  refine thn (hl pins s σ H _ I h) fun v s1 ⟨x, H1, I1, r1, q1⟩ => ?_
  obtain ⟨a, e, q⟩ := q1
  subst e
  cases r1
  rcases q with ⟨xs, hq, q⟩ | ⟨xs, hq, q⟩
  · obtain ⟨its, rv, p, hz⟩ := I1.list hq
    refine wpAny_pyIter_list p.isList ?_
    refine ⟨s1.heap.objs.size, [s1.heap.objs.size], _, _, H1, rfl, I1.kept (t' := s1.toks) fun b o e => Heap.get?_push_of_some _ e, turn_list a _, ⟨_, Heap.get?_push_size _ rfl, rfl, rfl⟩, fun b hb => ?_, q⟩
    have e : b = s1.heap.objs.size := by simpa using hb
    subst e
    exact I1.fpOk (Nat.le_refl _) (I1.hok.fresh (Nat.le_refl _))
  · obtain ⟨its, rv, p, hz⟩ := I1.tuple hq
    refine wpAny_pyIter_tuple (show s1.heap.IsTuple a its.toArray from p) ?_
    refine ⟨s1.heap.objs.size, [s1.heap.objs.size], _, _, H1, rfl, I1.kept (t' := s1.toks) fun b o e => Heap.get?_push_of_some _ e, turn_tuple a _, ⟨_, Heap.get?_push_size _ rfl, rfl, rfl⟩, fun b hb => ?_, q⟩
    have e : b = s1.heap.objs.size := by simpa using hb
    subst e
    exact I1.fpOk (Nat.le_refl _) (I1.hok.fresh (Nat.le_refl _))
theorem tgt_i (Rk : It → Hp → Prop) : Tgt X (fun (r : R (List PyData)) H => match r with | .ok ds => ∀ J H', Same H H' → (∃ Gd, ItD J Gd ds ∧ Sta H' (fun _ => False) Gd) → Rk J H' | .ex c => Xw X c H | .no => False) where
  mono := fun r H H' h s => by
    cases r with
    | ok d => exact fun J H2 s2 => h J H2 (s.trans s2)
    | ex c => exact Xw.mono h s
    | no => exact h
  ex := fun c H h => h
  no := fun H h => h
theorem ei_seq (ha : EvE X a fa) : EvI X tg a (iSeq fa) :=
  PI.imp (pi_sq ha) fun σ H Rk h => (bind_e (P := PRp) (f := fa) (k := fun _ => seqD) (tgt_i (X := X) Rk) h).post fun v H1 ⟨_, d, _, _, p1, q1⟩ => by
    cases d with
    | list ds =>
      simp only [Rp] at p1
      obtain ⟨a', o, vs, rfl, h, r⟩ := p1
      exact ⟨a', rfl, .inl ⟨vs, .inl (.inr ⟨o, h⟩), q1 _ H1 (Same.refl _) ⟨_, itd_list, fun H2 k _ => ⟨o, vs, k.2 _ _ _ h, RpA.kp k _ _ r⟩⟩⟩⟩
    | tuple ds =>
      simp only [Rp] at p1
      obtain ⟨a', vs, rfl, h, r⟩ := p1
      exact ⟨a', rfl, .inr ⟨vs, SqT.of h, q1 _ H1 (Same.refl _) ⟨_, itd_tup, fun H2 k _ => ⟨vs, k.1 _ _ h, RpA.kp k _ _ r⟩⟩⟩⟩
    | _ => exact q1.elim
theorem Z.ei_seq (ha : Z.EvE X a fa) : Z.EvI X tg a (iSeq fa) :=
  ⟨D2.ei_seq ha.un⟩
def rangeI (lo : Int) (n : Nat) : List PyData := (List.range n).map fun (k : Nat) => .int (lo + k)
def rngD : List PyData → R (List PyData)
  | [.int j] => if -(2 ^ 62) ≤ j ∧ j < 2 ^ 62 then .ok (rangeI 0 j.toNat) else .no
  | [.int i, .int j] => if -(2 ^ 62) ≤ i ∧ i < 2 ^ 62 ∧ -(2 ^ 62) ≤ j ∧ j < 2 ^ 62 then .ok (rangeI i (j - i).toNat) else .no
  | _ => .no
def iRange (fs : Rho → R (List PyData)) : Rho → R (List PyData) := fun ρ => fs ρ >>= rngD
theorem itd_range {lo : Int} {n : Nat} : ItD (Itr lo n) (fun _ => True) (rangeI lo n) where
  go := fun i H _ hi => by
    show i < n
    simpa [rangeI] using hi
  yld := fun i H x H' d _ hd ⟨e, y⟩ => by
    subst e
    subst y
    refine ⟨Same.refl _, ?_⟩
    unfold rangeI at hd
    rw [List.getElem?_map] at hd
    cases h : (List.range n)[i]? with
    | none => rw [h] at hd; cases hd
    | some k =>
      rw [h] at hd
      have hk : k = i := by
        rw [List.getElem?_range] at h
        · exact (Option.some.inj h).symm
        · have := (List.getElem?_eq_some_iff.mp h).1
          simpa using this
      subst hk
      cases hd
      exact rp_int
  stop := fun i H _ hi => by
    show n ≤ i
    simpa [rangeI] using hi
theorem ei_range1 (T : Tb X nl G) (j : Nat) (hG : G[j]? = some ("range" : Str)) (hm : X.mg "range" = none) (ha : EvA X [a] fs) (hl : ∀ ρ ds, fs ρ = .ok ds → ds.length = 1) (hs : notStar a = true := by rfl) : EvI X tg (.Call (.Name "range" p) [a] [] pos) (iRange fs) :=
  PI.imp (pi_range1 (T.gl _ (List.mem_of_getElem? hG)).1 hm ha (star_cons hs)) fun σ H Rk ⟨ρ, sl, q⟩ => by
    refine ⟨ρ, sl, ?_⟩
    dsimp only [iRange] at q
    cases e : fs ρ with
    | ex c => rw [e] at q; exact q
    | no => rw [e] at q; exact q
    | ok ds =>
      rw [e] at q
      have hlen := hl ρ ds e
      intro vs H1 s1 r1
      match ds, hlen with
      | [d], _ =>
        simp only [RA] at r1
        obtain ⟨v, r', rfl, p1, rfl⟩ := r1
        cases d with
        | int j =>
          have ev : v = .int j := by simpa only [Rp] using p1
          subst ev
          by_cases hz : -(2 ^ 62) ≤ j ∧ j < 2 ^ 62
          · have e2 : rngD [.int j] = .ok (rangeI 0 j.toNat) := if_pos hz
            rw [R.ok_bind, e2] at q
            exact ⟨j, rfl, hz.1, hz.2, q _ H1 s1 ⟨_, itd_range, fun _ _ _ => True.intro⟩⟩
          · have e2 : rngD [.int j] = .no := if_neg hz
            rw [R.ok_bind, e2] at q
            exact q.elim
        | _ => exact q.elim
theorem Z.ei_range1 (T : Tb X nl G) (j : Nat) (hG : G[j]? = some ("range" : Str)) (hm : X.mg "range" = none) (ha : Z.EvA X [a] fs) (hl : ∀ ρ ds, fs ρ = .ok ds → ds.length = 1) (hs : notStar a = true := by rfl) : Z.EvI X tg (.Call (.Name "range" p) [a] [] pos) (iRange fs) :=
  ⟨D2.ei_range1 T j hG hm ha.un hl hs⟩
end
end D2
set_option Elab.async false
set_option linter.all false
set_option maxRecDepth 100000
set_option maxHeartbeats 4000000
namespace D2
open PySem PySem.Spec PyProof.Rows L2
def insI (x : Int) : List Int → List Int
  | [] => [x]
  | y :: r => if x ≤ y then x :: y :: r else y :: insI x r
def sortI : List Int → List Int
  | [] => []
  | x :: r => insI x (sortI r)
theorem insI_perm (x : Int) : ∀ l, (insI x l).Perm (x :: l)
  | [] => List.Perm.refl _
  | y :: r => by
    unfold insI
    split
    · exact List.Perm.refl _
    · exact ((insI_perm x r).cons y).trans (List.Perm.swap x y r)
theorem sortI_perm : ∀ l, (sortI l).Perm l
  | [] => List.Perm.refl _
  | x :: r => (insI_perm x (sortI r)).trans ((sortI_perm r).cons x)
theorem insI_sorted (x : Int) : ∀ l, l.Pairwise (· ≤ ·) → (insI x l).Pairwise (· ≤ ·)
  | [], _ => by unfold insI; exact List.pairwise_singleton _ _
  | y :: r, h => by
    have h' := List.pairwise_cons.mp h
    unfold insI
    split
    · rename_i hxy
      refine List.pairwise_cons.mpr ⟨fun z hz => ?_, h⟩
      rcases List.mem_cons.mp hz with rfl | hz
      · exact hxy
      · exact Int.le_trans hxy (h'.1 z hz)
    · rename_i hxy
      refine List.pairwise_cons.mpr ⟨fun z hz => ?_, insI_sorted x r h'.2⟩
      rcases List.mem_cons.mp ((insI_perm x r).mem_iff.mp hz) with rfl | hz
      · omega
      · exact h'.1 z hz
theorem sortI_sorted : ∀ l, (sortI l).Pairwise (· ≤ ·)
  | [] => List.Pairwise.nil
  | x :: r => insI_sorted x _ (sortI_sorted r)
theorem sortI_of {a b : List Int} (hp : a.Perm b) (hs : a.Pairwise (· ≤ ·)) : a = sortI b := PySem.W.ksm_same (hp.trans (sortI_perm b).symm) hs (sortI_sorted b)
section
variable {prog : Program} {w : World} {A : Around} {E : Value → Shared → Prop} {s : Shared}
theorem sorted_dict {d : Addr} {kvs : List (Key × Value)} {ns : List Int} {Q : Value → Shared → Prop} (hh : A.handled = none) (lo : (d == sysModules) = false) (hd : s.heap.DictOf (mixKind prog w) d kvs) (hk : kvs.map (·.1) = ns.map Sum.inl) (h64 : ns.length < 64)
    (h : ∀ (D : Addr) (h' : Heap) (tk : Nat) (vs : List Value) (e : Nat), s.heap.get? D = none → (∀ b o, s.heap.get? b = some o → h'.get? b = some o) → h'.get? D = some (seqObj "list" vs.toArray e) → IntsAre vs (sortI ns) → Q (.ref D) { s with heap := h', toks := tk }) :
    wpAny (model prog w) A (call (.builtin "sorted") [.ref d]) Q E s := by
  obtain ⟨ep, hat⟩ := hd.dictAt
  have hlen : kvs.length = ns.length := by have := congrArg List.length hk; simpa using this
  have hn : kvs.length ≤ sizeLine := by rw [sizeLine_eq]; omega
  refine Calls.call_function_entry kind_sorted plain_sorted entry_sorted (args_sorted1 _) ?_
  unfold Builtin.«sorted»
  refine wpAny_bind (m := checkCount "sorted" 1 1 _) (wpAny_pure ?_)
  refine wpAny_bind (PySem.W.kdu_collect (A := A.in1) (PySem.W.kdl_dict (knd := mixKind prog w) (kvs := kvs) (ep := ep) lo) hh hat hn fun h1 tk acc hk1 hacc => ?_)
  have hl : acc.toList.length = kvs.length := by rw [Array.length_toList]; exact hacc.1
  have hI : IntsAre acc.toList ns := by
    have key : ∀ (l : List Value) (ms : List Int) (k : Nat), l.length = ms.length → (∀ (j : Nat) (v : Value), l[j]? = some v → ∃ n : Int, ms[j]? = some n ∧ ∃ t, v = Value.int n t) → IntsAre l ms := by
      intro l
      induction l with
      | nil => intro ms k e _; have : ms = [] := List.length_eq_zero_iff.mp e.symm; subst this; exact .nil
      | cons v r ih =>
        intro ms k e hv
        cases ms with
        | nil => cases e
        | cons n ms =>
          obtain ⟨n', e1, t, rfl⟩ := hv 0 v rfl
          have : n = n' := Option.some.inj e1
          subst this
          exact .cons n t (ih ms (k + 1) (by simpa using e) fun j u hu => hv (j + 1) u (by simpa using hu))
    refine key acc.toList ns 0 (by rw [hl, hlen]) fun j v hv => ?_
    obtain ⟨κ, x, hx, his⟩ := hacc.2 j v (by rw [← Array.getElem?_toList]; exact hv)
    have e1 : (kvs.map (·.1))[j]? = some κ := by rw [List.getElem?_map, hx]; rfl
    rw [hk, List.getElem?_map] at e1
    cases e2 : ns[j]? with
    | none => rw [e2] at e1; cases e1
    | some n =>
      rw [e2] at e1
      have e3 : Sum.inl n = κ := Option.some.inj e1
      subst e3
      rcases keyIs_shape (show keyIs (Sum.inl n) v = true from his) with ⟨i, t, e4, e5⟩ | ⟨y, t, e4, _⟩
      · cases e4; exact ⟨n, rfl, t, e5⟩
      · cases e4
  refine wpAny_bind (wpAny_newList ?_ (by rw [hl]; exact hn))
  have hoL : (h1.push (seqObj "list" acc.toList.toArray 0)).get? h1.objs.size = some (seqObj "list" acc.toList.toArray 0) := Heap.get?_push_size _ rfl
  show wpAny _ _ _ _ _ { s with heap := h1.push (seqObj "list" acc.toList.toArray 0), toks := tk }
  refine wpAny_bind (wpAny_holding (wpAny_call_entry slot_list_sort ⟨_, hoL, rfl⟩ entry_list_sort (list_sort_tree hoL hI (by rw [hl, hlen]; exact h64) fun out ns' a1 a2 a3 => ⟨_, rfl, ?_⟩) (args_list_sort _)))
  refine wpAny_pure ⟨_, rfl, ?_⟩
  obtain ⟨e, he⟩ := sortedHeap_at (out := out) hoL
  have hsz : s.heap.get? h1.objs.size = none := by
    cases q : s.heap.get? h1.objs.size with
    | none => rfl
    | some o => exact absurd (Heap.lt_size (hk1 _ _ q)) (Nat.lt_irrefl _)
  refine h h1.objs.size _ tk out.toList e hsz (fun b o q => ?_) he (by rw [sortI_of a2 a3] at a1; exact a1)
  have q1 := hk1 b o q
  have hlt : b < h1.objs.size := Heap.lt_size q1
  show (sortedHeap (h1.push (seqObj "list" acc.toList.toArray 0)) h1.objs.size acc.toList out).get? b = some o
  rw [sortedHeap_old (Nat.ne_of_lt hlt) (by rw [size_push']; exact Nat.lt_succ_of_lt hlt)]
  exact Heap.get?_push_of_some _ q1
end
theorem un_laid {fs ex : List Addr} {H : Hp} {h h' : Heap} {a : Addr} {o : HO} (k : ∀ b u, h.get? b = some u → h'.get? b = some u) (hg : h.get? a = none) (hn : H a = none) : Un fs ex H (upd H a o) h h' := by
  have ne : ∀ {b : Addr} {u : Obj}, h.get? b = some u → b ≠ a := fun e z => by subst z; rw [hg] at e; cases e
  exact ⟨fun b u q _ _ _ => k b u q, fun b u q _ _ _ => ⟨u.slots, k b u q⟩, fun b u q n _ => by rw [upd_ne (ne q)]; exact n, fun b u q _ => ⟨u, k b u q⟩, fun b xs q => by rw [upd_ne (ne_of_none q hn)]; exact q, fun b u xs q => by rw [upd_ne (ne_of_none q hn)]; exact q,
    fun b ps q => ⟨#[], by rw [upd_ne (ne_of_none q hn), q]; simp⟩⟩
theorem inv_laid {X : Cx} {pins : List (Addr × Obj)} {σ : St} {H : Hp} {s : Shared} {h' : Heap} {a : Addr} {o : HO} {t' : Nat} (I : Inv X pins σ H s) (k : ∀ b u, s.heap.get? b = some u → h'.get? b = some u) (hg : s.heap.get? a = none) (hn : H a = none)
    (new : ObjOk X.prog X.w (upd H a o) h' a o) : Inv X pins σ (upd H a o) { s with heap := h', toks := t' } := by
  refine I.un (un_laid k hg hn) fun b u e => ?_
  by_cases hb : b = a
  · subst hb; rw [upd_same] at e; cases e; exact new
  · rw [upd_ne hb] at e
    exact (I.hok b u e).stay (fun c v _ q => k c v q) (fun c q => by rw [upd_ne (ne_of_none q hn)]; exact q) fun c xs q => by rw [upd_ne (ne_of_none q hn)]; exact q
theorem inv_none {X : Cx} {pins : List (Addr × Obj)} {σ : St} {H : Hp} {s : Shared} {a : Addr} (I : Inv X pins σ H s) (hg : s.heap.get? a = none) : H a = none := by
  cases q : H a with
  | none => rfl
  | some o => obtain ⟨u, e⟩ := objGet (I.hok a o q); rw [hg] at e; cases e
section
variable {X : Cx} {a b c : Expr} {fa fb fc : Fe} {pos p2 : Pos} {nl : Nat} {G : List Str} {x : Str} {p : Pos}
def intsOf : List PyData → Option (List Int)
  | [] => some []
  | .int i :: ds => (intsOf ds).map fun r => i :: r
  | _ => none
theorem intsOf_map : ∀ {ds : List PyData} {ns : List Int}, intsOf ds = some ns → ds = ns.map PyData.int
  | [], ns, h => by cases h; rfl
  | d :: ds, ns, h => by
    cases d with
    | int i =>
      simp only [intsOf] at h
      cases e : intsOf ds with
      | none => rw [e] at h; cases h
      | some r =>
        rw [e] at h
        cases h
        rw [List.map_cons, intsOf_map e]
    | _ => cases h
theorem intsOf_ints : ∀ ns : List Int, intsOf (ns.map PyData.int) = some ns
  | [] => rfl
  | n :: ns => by simp only [List.map_cons, intsOf, intsOf_ints ns, Option.map_some]
def dSorted : PyData → R PyData
  | .list ds => match intsOf ds with
    | some ns => if ns.length < 64 then .ok (.list ((sortI ns).map PyData.int)) else .no
    | none => .no
  | .dict kvs => match intsOf (kvs.map (·.1)) with
    | some ns => if ns.length < 64 then .ok (.list ((sortI ns).map PyData.int)) else .no
    | none => .no
  | _ => .no
def rSortL (K : PySem.W.Frag) : List V → Hp → VK → Prop := fun xs H Q => ∃ p ns, xs = [.ref p] ∧ SqL K H p (ns.map V.int) ∧ ns.length < 64 ∧ ∀ l, H l = none → Q (.ref l) (upd H l (.lst ((sortI ns).map V.int)))
def rSortD : List V → Hp → VK → Prop := fun xs H Q => ∃ p ks ns, xs = [.ref p] ∧ Rd H p (.dK ks) ∧ ks.map (·.1) = ns.map Sum.inl ∧ ns.length < 64 ∧ ∀ l, H l = none → Q (.ref l) (upd H l (.lst ((sortI ns).map V.int)))
theorem sortI_len (ns : List Int) : (sortI ns).length = ns.length := (sortI_perm ns).length_eq
theorem call_sortL : CallR X (.builtin "sorted") (rSortL X.K) := by
  intro pins s σ H xs us Q I r h
  obtain ⟨p, ns, rfl, hq, h64, q⟩ := h
  obtain ⟨u, rfl, rx⟩ := vals1 r
  cases rx
  obtain ⟨its, rv, pl, hz⟩ := I.list hq
  have hI : IntsAre its ns := intsAre_of rv
  have hl := IntsAre.length hI
  refine sorted_ints pl.isList hI (by omega) fun out ns' a1 a2 a3 => ?_
  rw [sortI_of a2 a3] at a1
  obtain ⟨e, he⟩ := sortedAll_at s.heap its out
  refine ⟨.ref (s.heap.objs.size + 1), _, I.laid (t' := s.toks) (o := .lst ((sortI ns).map V.int)) (fun b o e => sortedAll_old e) (Nat.le_succ _) ⟨?_, out.toList, e, vals_ints a1, by simpa [seqObj] using he⟩, rfl, q _ (I.hok.fresh (Nat.le_succ _))⟩
  rw [List.length_map, sortI_len, sizeLine_eq]; omega
theorem call_sortD (hc : X.calm = true) : CallR X (.builtin "sorted") rSortD := by
  intro pins s σ H xs us Q I r h
  obtain ⟨p, ks, ns, rfl, hq, hk, h64, q⟩ := h
  obtain ⟨u, rfl, rx⟩ := vals1 r
  cases rx
  obtain ⟨hz, hlo, vs, kv, hd⟩ := dk_rd I.hok hq
  refine sorted_dict (I.ok.hd hc) hlo hd (by rw [← kv.keys]; exact hk) h64 fun D h' tk vs' e hg kp hD hI => ?_
  have hn := inv_none I hg
  refine ⟨.ref D, _, inv_laid (t' := tk) (o := .lst ((sortI ns).map V.int)) I kp hg hn ⟨?_, vs', e, vals_ints hI, by simpa [seqObj] using hD⟩, rfl, q _ hn⟩
  rw [List.length_map, sortI_len, sizeLine_eq]; omega
theorem rpA_ints : ∀ {H : Hp} {ns : List Int} {vs : List V}, RpA H (ns.map PyData.int) vs → vs = ns.map V.int
  | H, [], vs, r => by rw [List.map_nil] at r; rw [r.nil_inv]; rfl
  | H, n :: ns, vs, r => by
    rw [List.map_cons] at r
    obtain ⟨v, r', rfl, p, t⟩ := r.cons_inv
    have : v = .int n := by simpa only [Rp] using p
    rw [this, rpA_ints t]; rfl
theorem rpK_keys : ∀ {H : Hp} {kvs : List (PyData × PyData)} {ks : List (Key × V)}, RpK H kvs ks → kvs.map (·.1) = ks.map fun k => keyD k.1
  | H, [], ks, r => by simp only [RpK] at r; rw [r]; rfl
  | H, (k, d) :: kvs, ks, r => by
    simp only [RpK, RpP] at r
    obtain ⟨x, v, r', rfl, ⟨e, _⟩, t⟩ := r
    rw [List.map_cons, List.map_cons, rpK_keys t, e]
theorem keys_ints : ∀ {ks : List (Key × V)} {ns : List Int}, (ks.map fun k => keyD k.1) = ns.map PyData.int → ks.map (·.1) = ns.map Sum.inl
  | [], [], _ => rfl
  | [], _ :: _, h => by cases h
  | _ :: _, [], h => by cases h
  | (k, v) :: ks, n :: ns, h => by
    rw [List.map_cons, List.map_cons] at h
    injection h with h1 h2
    rw [List.map_cons, List.map_cons, keys_ints h2]
    cases k with
    | inl i => simp only [keyD] at h1; cases h1; rfl
    | inr y => simp only [keyD] at h1; cases h1
theorem evn_sorted (T : Tb X nl G) (j : Nat) (hG : G[j]? = some ("sorted" : Str)) (hm : X.mg "sorted" = none) (ha : EvB X a fa) (he : notStar a = true := by rfl) : EvN X (.Call (.Name "sorted" p) [a] [] pos) (e1 dSorted fa) := by
  refine blt1 T j hG hm dn_n PyProof.Rows.boot_sorted (call_sortL.or (call_sortD T.calm)) (fun H x d Q hx q => ?_) ha he
  cases d with
  | list ds =>
    simp only [dSorted] at q
    cases ei : intsOf ds with
    | none => rw [ei] at q; exact q.elim
    | some ns =>
      rw [ei] at q
      dsimp only at q
      by_cases h64 : ns.length < 64
      · rw [if_pos h64] at q
        obtain ⟨a', vs, rfl, h, r⟩ := brp_list (K := X.K) hx
        rw [intsOf_map ei] at r
        rw [rpA_ints r] at h
        exact .inl ⟨a', ns, rfl, h, h64, fun l hl => q _ _ (same_up hl _) (nrp_new_lst hl (RpA.ints _))⟩
      · rw [if_neg h64] at q; exact q.elim
  | dict kvs =>
    simp only [dSorted] at q
    cases ei : intsOf (kvs.map (·.1)) with
    | none => rw [ei] at q; exact q.elim
    | some ns =>
      rw [ei] at q
      dsimp only at q
      by_cases h64 : ns.length < 64
      · rw [if_pos h64] at q
        have hi : isIns kvs = false := by
          cases kvs with
          | nil => rfl
          | cons kd kvs =>
            obtain ⟨k, d⟩ := kd
            cases k <;> first | rfl | (simp [intsOf] at ei)
        obtain ⟨a', ks, rfl, h, r⟩ := brp_dict hi hx
        have hk := keys_ints ((rpK_keys r).symm.trans (intsOf_map ei))
        exact .inr ⟨a', ks, ns, rfl, h, hk, h64, fun l hl => q _ _ (same_up hl _) (nrp_new_lst hl (RpA.ints _))⟩
      · rw [if_neg h64] at q; exact q.elim
  | _ => exact q.elim
theorem Z.evn_sorted (T : Tb X nl G) (j : Nat) (hG : G[j]? = some ("sorted" : Str)) (hm : X.mg "sorted" = none) (ha : Z.EvB X a fa) (he : notStar a = true := by rfl) : Z.EvN X (.Call (.Name "sorted" p) [a] [] pos) (e1 dSorted fa) :=
  ⟨D2.evn_sorted T j hG hm ha.un he⟩
end
section
variable {X : Cx} {a b c : Expr} {fa fb fc : Fe} {pos p2 : Pos} {nl : Nat} {G : List Str} {x : Str} {p : Pos}
theorem SlS.change {Fm H : Hp} {σ : St} {ρ : Rho} {i : Nat} {d d' : PyData} {a : Addr} {u u' : HO} (h : SlS Fm H σ ρ) (h1 : ρ[i]? = some (.own d)) (h2 : σ[i]? = some (some (.ref a))) (hu : H a = some u) (hm : (∃ xs, u = .lst xs) ∨ ∃ ks, u = .dK ks)
    (hr : ORp (upd H a u') d' (.ref a)) : SlS Fm (upd H a u') σ (ρ.set i (.own d')) := by
  have hFa := h.own i d a h1 h2
  have kp : Kp H (upd H a u') := kp_upd hu hm
  have at_i : ∀ (j : Nat) (e : PyData), (ρ.set i (.own d'))[j]? = some (.own e) → ∃ e0, ρ[j]? = some (.own e0) := fun j e q => by
    rw [List.getElem?_set] at q
    by_cases hij : i = j
    · subst hij; exact ⟨d, h1⟩
    · rw [if_neg hij] at q; exact ⟨e, q⟩
  refine ⟨fun b x e => ?_, ⟨by rw [List.length_set]; exact h.sl.1, fun j c w' e1 e2 => ?_⟩, fun j e b e1 e2 => ?_, fun j k e f b e1 e2 e3 e4 => ?_⟩
  · rw [upd_ne (ne_of_none e hFa)]; exact h.fm b x e
  · rw [List.getElem?_set] at e1
    by_cases hij : i = j
    · subst hij
      rw [if_pos rfl] at e1
      split at e1
      · cases e1
        rw [h2] at e2
        cases e2
        exact ⟨_, rfl, hr⟩
      · cases e1
    · rw [if_neg hij] at e1
      have q := h.sl.2 j c w' e1 e2
      cases c with
      | exc p => exact q
      | non => exact True.intro
      | val d1 => obtain ⟨v, z1, z2⟩ := q; exact ⟨v, z1, Rp.kp kp _ _ z2⟩
      | own d1 =>
        obtain ⟨v, z1, z2⟩ := q
        subst z1
        obtain ⟨b, ob, rfl, hb⟩ := orp_ref z2
        have nb : b ≠ a := fun z => hij (by subst z; exact h.apart i j d d1 b h1 e1 h2 e2)
        refine ⟨_, rfl, ?_⟩
        cases d1 <;> simp only [ORp] at z2 ⊢
        · obtain ⟨b', vs, e, hb', r⟩ := z2
          cases e
          exact ⟨b, vs, rfl, by rw [upd_ne nb]; exact hb', RpA.kp kp _ _ r⟩
        · obtain ⟨b', vs, e, hb', r⟩ := z2
          cases e
          exact ⟨b, vs, rfl, by rw [upd_ne nb]; exact hb', RpK.kp kp _ _ r⟩
  · obtain ⟨e0, q⟩ := at_i j e e1
    exact h.own j e0 b q e2
  · obtain ⟨e0, q⟩ := at_i j e e1
    obtain ⟨f0, q'⟩ := at_i k f e2
    exact h.apart j k e0 f0 b q q' e3 e4
def sPut (i : Nat) (fk fv : Fe) : Fs := fun ρ => fv ρ >>= fun v => noX (fk ρ) >>= fun k => match ρ[i]? with
  | some (.own (.dict kvs)) => match keyOf k with
    | some _ => if kvs.length < sizeLine then .ok (.nx (ρ.set i (.own (.dict (putD kvs k v))))) else .no
    | none => .no
  | _ => .no
theorem keyOf_key {k : PyData} {κ : Key} (h : keyOf k = some κ) : k = keyD κ := by
  cases k <;> simp only [keyOf] at h <;> cases h <;> rfl
theorem rp_key {H : Hp} {κ : Key} {y : V} (h : Rp H (keyD κ) y) : y = kV κ := by
  cases κ <;> simp only [keyD, Rp] at h <;> exact h
theorem es_put {k v : Expr} {fk fv : Fe} {q1 q2 q3 : Pos} (T : Tb X nl G) (n : Nat) (hN : X.N[n]? = some x) (hk : EvE X k fk) (hv : EvE X v fv) (hs : swapsWith v (some (.Subscript (.Name x q1) k q2)) q3.line X.env = pure false := by rfl) :
    EvS X (.Assign [.Subscript (.Name x q1) k q2] v q3) (sPut n fk fv) := fun Fm => by
  have hm := T.vis x (List.mem_of_getElem? hN)
  refine PS.imp (ps_dput (by have := T.hu; omega) (pe_var hN hm.1 hm.2.1 hm.2.2) hk hv hs) fun D σ H h => ?_
  refine (bind_s (P := PRp) (f := fv) (k := fun ρ v => noX (fk ρ) >>= fun k => match ρ[n]? with
    | some (.own (.dict kvs)) => match keyOf k with
      | some _ => if kvs.length < sizeLine then .ok (.nx (ρ.set n (.own (.dict (putD kvs k v))))) else .no
      | none => .no
    | _ => .no) h).post fun vv H1 ⟨ρ1, dv, sl1, _, p1, q1⟩ => ?_
  have sl0 : rdS X Fm (fun ρ => noX (fk ρ) >>= fun k => match ρ[n]? with
    | some (.own (.dict kvs)) => match keyOf k with
      | some _ => if kvs.length < sizeLine then .ok (.nx (ρ.set n (.own (.dict (putD kvs k dv))))) else .no
      | none => .no
    | _ => .no) D σ H1 := ⟨ρ1, sl1, q1⟩
  cases e : ρ1[n]? with
  | none =>
    exfalso
    rw [e] at q1
    cases e2 : fk ρ1 with
    | ok _ => rw [e2] at q1; exact q1
    | ex _ => rw [e2] at q1; exact q1
    | no => rw [e2] at q1; exact q1
  | some c =>
    rw [e] at q1
    cases c with
    | own d =>
      cases d with
      | dict kvs =>
        obtain ⟨o, h2, w', rfl, p2⟩ := sl1.sl.at e
        simp only [ORp] at p2
        obtain ⟨a', ks, rfl, ha, r⟩ := p2
        refine ⟨.ref a', h2, ?_⟩
        refine ⟨ρ1, sl1.sl, ?_⟩
        cases e2 : fk ρ1 with
        | ex _ => rw [e2] at q1; exact q1.elim
        | no => rw [e2] at q1; exact q1
        | ok kd =>
          rw [e2] at q1
          simp only [noX, R.ok_bind] at q1
          intro yv H3 s3 p3
          cases e3 : keyOf kd with
          | none => rw [e3] at q1; exact q1.elim
          | some κ =>
            rw [e3] at q1
            dsimp only at q1
            by_cases hz : kvs.length < sizeLine
            · rw [if_pos hz] at q1
              have ek := keyOf_key e3
              subst ek
              have ey := rp_key p3
              subst ey
              have ha3 := s3 _ _ ha
              have r3 : RpK H3 kvs ks := RpK.kp (Kp.of s3) _ _ r
              refine ⟨a', _, rfl, DPut.k ha3 (by rw [r3.length]; exact hz), q1 _ _ ((sl1.mono s3).change e h2 ha3 (.inr ⟨_, rfl⟩) ?_)⟩
              simp only [ORp]
              exact ⟨a', _, rfl, upd_same, RpK.kp (kp_upd ha3 (.inr ⟨_, rfl⟩)) _ _ (RpK.put κ (p1.mono s3) r3)⟩
            · rw [if_neg hz] at q1; exact q1.elim
      | _ =>
        exfalso
        cases e2 : fk ρ1 with
        | ok _ => rw [e2] at q1; exact q1
        | ex _ => rw [e2] at q1; exact q1
        | no => rw [e2] at q1; exact q1
    | _ =>
      exfalso
      cases e2 : fk ρ1 with
      | ok _ => rw [e2] at q1; exact q1
      | ex _ => rw [e2] at q1; exact q1
      | no => rw [e2] at q1; exact q1
theorem Z.es_put {k v : Expr} {fk fv : Fe} {q1 q2 q3 : Pos} (T : Tb X nl G) (n : Nat) (hN : X.N[n]? = some x) (hk : Z.EvE X k fk) (hv : Z.EvE X v fv) (hs : swapsWith v (some (.Subscript (.Name x q1) k q2)) q3.line X.env = pure false := by rfl) : Z.EvS X (.Assign [.Subscript (.Name x q1) k q2] v q3) (sPut n fk fv) :=
  ⟨D2.es_put T n hN hk.un hv.un hs⟩
def sAppend (i : Nat) (f : Fe) : Fs := fun ρ => noX (f ρ) >>= fun d => match ρ[i]? with
  | some (.own (.list ds)) => if ds.length < sizeLine then .ok (.nx (ρ.set i (.own (.list (ds ++ [d]))))) else .no
  | _ => .no
end
end D2
set_option Elab.async false
set_option linter.all false
set_option maxRecDepth 100000
set_option maxHeartbeats 4000000
namespace D2
open PySem PySem.Spec PyProof.Rows L2
section
variable {prog : Program} {w : World} {A : Around} {E : Value → Shared → Prop} {s : Shared}
theorem nextOf_tup {it t : Addr} {i : Nat} {items : Array Value} {x : Value} {Q : Value → Shared → Prop} (hit : s.heap.IsTupleIter it t i) (ht : s.heap.IsTuple t items) (hx : items[i]? = some x)
    (hQ : ∀ h', h'.IsTupleIter it t (i + 1) → Heap.SameBut it s.heap h' → Q x { s with heap := h' }) : wpAny (model prog w) A (Builtin.SmallTypes.nextOf (.ref it)) Q E s := by
  obtain ⟨ob, hob, hcl, hdt⟩ := id hit
  obtain ⟨ot, hot, _, nt, hdtt⟩ := ht
  unfold Builtin.SmallTypes.nextOf
  refine wpAny_bind (wpAny_callSpecial?_slot (name := Str.ofString "__next__") hit.typeIs F.slot_tuple_iterator_next (wpAny_call_entry F.slot_tuple_iterator_next hit.typeIs F.entry_tuple_iterator_next ?_ (F.args_tuple_iterator_next_1 _)))
  show wpAny _ _ (field (Value.ref it) 0 >>= _) _ _ s
  refine wpAny_bind (wpAny_field hob hdt (x := Value.ref t) rfl ?_)
  show wpAny _ _ (if (Value.ref t == Value.none) = true then _ else _) _ _ s
  rw [if_neg (by intro z; cases z)]
  show wpAny _ _ (field (Value.ref it) 1 >>= _) _ _ s
  refine wpAny_bind (wpAny_field hob hdt (x := Value.int i 0) rfl ?_)
  show wpAny _ _ (seqItems? (Value.ref t) >>= _) _ _ s
  refine wpAny_bind (wpAny_seqItems hot hdtt ?_)
  simp only [hx, Int.toNat_natCast]
  refine wpAny_bind (wpAny_setField hob hdt (by simp) (wpAny_pure ⟨x, rfl, wpAny_pure (hQ _ ⟨_, Heap.get?_update_self _ hob (Obj.isFreed_of_fields (Obj.data_mapFields hdt _)), (Obj.cls_mapFields ..).trans hcl, ?_⟩ (Heap.SameBut.update ..))⟩))
  rw [Obj.data_mapFields hdt]
  simp [rawInt]
theorem nextOf_tup_end {it t : Addr} {i : Nat} {items : Array Value} {Q : Value → Shared → Prop} (hh : A.handled = none) (hit : s.heap.IsTupleIter it t i) (ht : s.heap.IsTuple t items) (hx : items[i]? = none)
    (hE : ∀ h' e, Heap.ExtBut it s.heap h' → (∃ o, h'.get? e = some o ∧ o.cls = .type "StopIteration") → E (.ref e) { s with heap := h' }) : wpAny (model prog w) A (Builtin.SmallTypes.nextOf (.ref it)) Q E s := by
  obtain ⟨ob, hob, hcl, hdt⟩ := id hit
  obtain ⟨ot, hot, _, nt, hdtt⟩ := ht
  unfold Builtin.SmallTypes.nextOf
  refine wpAny_bind (wpAny_callSpecial?_slot (name := Str.ofString "__next__") hit.typeIs F.slot_tuple_iterator_next (wpAny_call_entry F.slot_tuple_iterator_next hit.typeIs F.entry_tuple_iterator_next ?_ (F.args_tuple_iterator_next_1 _)))
  show wpAny _ _ (field (Value.ref it) 0 >>= _) _ _ s
  refine wpAny_bind (wpAny_field hob hdt (x := Value.ref t) rfl ?_)
  show wpAny _ _ (if (Value.ref t == Value.none) = true then _ else _) _ _ s
  rw [if_neg (by intro z; cases z)]
  show wpAny _ _ (field (Value.ref it) 1 >>= _) _ _ s
  refine wpAny_bind (wpAny_field hob hdt (x := Value.int i 0) rfl ?_)
  show wpAny _ _ (seqItems? (Value.ref t) >>= _) _ _ s
  refine wpAny_bind (wpAny_seqItems hot hdtt ?_)
  simp only [hx, Int.toNat_natCast]
  refine wpAny_bind (wpAny_rule (wpAny_bind (wpAny_setField hob hdt (by simp) ?_)))
  show wpAny _ _ (newExc (Value.type "StopIteration") [] >>= _) _ _ _
  refine wpAny_bind ?_
  simp only [newTuple, newExc]
  refine wpAny_bind (wpAny_newObj_type ?_ (by size_fits))
  refine wpAny_bind (m := firstArgMember _ _) (wpAny_of_eq (a := Value.none) (by first | rfl | (simp only [firstArgMember]; rfl)) ?_)
  refine wpAny_newObj_type ?_ (by size_fits)
  simp only [raiseNew]
  refine wpAny_bind (wpAny_handled ?_)
  first | rw [show A.in1.handled = none from hh] | rw [hh]
  exact wpAny_bind (wpAny_pure (wpAny_throw (hE _ _ (((Heap.SameBut.update ..).extBut.push _).push _) ⟨_, Heap.get?_push_size _ rfl, rfl⟩)))
end
def ItS (h : Heap) (i l : Addr) (k : Nat) (xs : Array Value) : Prop := (h.IsListIter i l k ∧ h.IsList l xs) ∨ (h.IsTupleIter i l k ∧ h.IsTuple l xs)
section
variable {h h' : Heap} {i l : Addr} {k : Nat} {xs : Array Value}
theorem ItS.keep (x : ItS h i l k xs) (hi : ∀ o, h.get? i = some o → h'.get? i = some o) (hl : ∀ o, h.get? l = some o → h'.get? l = some o) : ItS h' i l k xs := by
  rcases x with ⟨⟨o, e, r⟩, ⟨o', e', r'⟩⟩ | ⟨⟨o, e, r⟩, ⟨o', e', r'⟩⟩
  · exact .inl ⟨⟨o, hi _ e, r⟩, ⟨o', hl _ e', r'⟩⟩
  · exact .inr ⟨⟨o, hi _ e, r⟩, ⟨o', hl _ e', r'⟩⟩
end
section
variable {prog : Program} {w : World} {A : Around} {E : Value → Shared → Prop} {s : Shared} {i l : Addr} {k : Nat} {xs : Array Value}
theorem nextS {x : Value} {Q : Value → Shared → Prop} (it : ItS s.heap i l k xs) (hne : l ≠ i) (hx : xs[k]? = some x) (hQ : ∀ h', ItS h' i l (k + 1) xs → Heap.SameBut i s.heap h' → Q x { s with heap := h' }) :
    wpAny (model prog w) A (Builtin.SmallTypes.nextOf (.ref i)) Q E s := by
  rcases it with ⟨h1, h2⟩ | ⟨h1, h2⟩
  · exact wpAny_nextOf_list_item h1 h2 hx fun h' a b => hQ h' (.inl ⟨a, h2.extBut b.extBut hne⟩) b
  · exact nextOf_tup h1 h2 hx fun h' a b => hQ h' (.inr ⟨a, h2.extBut b.extBut hne⟩) b
theorem nextS_end {Q : Value → Shared → Prop} (hh : A.handled = none) (it : ItS s.heap i l k xs) (hx : xs[k]? = none)
    (hE : ∀ h' e, Heap.ExtBut i s.heap h' → (∃ o, h'.get? e = some o ∧ o.cls = .type "StopIteration") → E (.ref e) { s with heap := h' }) : wpAny (model prog w) A (Builtin.SmallTypes.nextOf (.ref i)) Q E s := by
  rcases it with ⟨h1, h2⟩ | ⟨h1, h2⟩
  · exact wpAny_nextOf_list_end hh h1 h2 hx hE
  · exact nextOf_tup_end hh h1 h2 hx hE
def SqAt (h : Heap) (l : Addr) (xs : Array Value) : Prop := h.IsList l xs ∨ h.IsTuple l xs
end
end D2
set_option Elab.async false
set_option linter.all false
set_option maxRecDepth 100000
set_option maxHeartbeats 4000000
namespace D2
open PySem PySem.Spec PyProof.Rows L2
structure ZA (z p q i j l m : Addr) : Prop where
  pz : p ≠ z
  qz : q ≠ z
  iz : i ≠ z
  jz : j ≠ z
  pq : p ≠ q
  pi : p ≠ i
  pj : p ≠ j
  qi : q ≠ i
  qj : q ≠ j
  ij : i ≠ j
  lz : l ≠ z
  lq : l ≠ q
  li : l ≠ i
  lj : l ≠ j
  mz : m ≠ z
  mq : m ≠ q
  mi : m ≠ i
  mj : m ≠ j
structure ZSt (h : Heap) (z p q i j l m : Addr) (f0 : Value) (k : Nat) (xs ys : Array Value) : Prop where
  zz : IsZip h z p q f0
  pp : IsPair h p (.ref i) (.ref j)
  qq : ∃ a b, IsPair h q a b
  ii : ItS h i l k xs
  jj : ItS h j m k ys
section
variable {prog : Program} {w : World} {A : Around} {E : Value → Shared → Prop} {s : Shared} {z p q i j l m : Addr} {k : Nat} {xs ys : Array Value}
theorem zip_item {x y : Value} {Q : Value → Shared → Prop} (D : ZA z p q i j l m) (S : ZSt s.heap z p q i j l m .none k xs ys) (hx : xs[k]? = some x) (hy : ys[k]? = some y)
    (hQ : ∀ h', ZSt h' z p q i j l m (rawInt s.heap.objs.size) (k + 1) xs ys → IsPair h' s.heap.objs.size x y → (∀ c o, c ≠ z → c ≠ q → c ≠ i → c ≠ j → s.heap.get? c = some o → h'.get? c = some o) → Q (.ref s.heap.objs.size) { s with heap := h' }) :
    wpAny (model prog w) A (Builtin.«zip.__next__» ⟨[.ref z], []⟩) (fun fin s' => ∃ v, fin = .done (.ret v) ∧ Q v s') E s := by
  obtain ⟨hz, hp, ⟨a, b, hq⟩, hi, hj⟩ := S
  show wpAny _ _ (field (Value.ref z) 2 >>= _) _ _ _
  refine wpAny_bind (wpAny_field hz rfl (x := Value.bool false) rfl ?_)
  show wpAny _ _ (field (Value.ref z) 3 >>= _) _ _ _
  refine wpAny_bind (wpAny_field hz rfl (x := Value.ref p) rfl ?_)
  refine wpAny_bind (wpAny_seqItems hp rfl ?_)
  show wpAny _ _ (Builtin.SmallTypes.ownedTupleIsFree (Value.ref z) >>= _) _ _ _
  refine wpAny_bind ?_
  unfold Builtin.SmallTypes.ownedTupleIsFree
  refine wpAny_bind (wpAny_field hz rfl (x := Value.none) rfl (wpAny_pure ?_))
  simp only [if_true]
  refine wpAny_bind (wpAny_rule ?_)
  refine wpAny_bind (wpAny_field hz rfl (x := Value.ref q) rfl ?_)
  refine wpAny_bind (wpAny_setField_rec hz (by simp) fun g1 z1 s1 => ?_)
  replace z1 : IsZip g1 z p q .ellipsis := z1
  refine wpAny_bind ?_
  simp only [List.zipIdx_cons, List.zipIdx_nil, List.forIn_cons, List.forIn_nil]
  refine wpAny_bind (wpAny_bind (wpAny_onRaise ?_))
  show wpAny _ _ (Builtin.SmallTypes.nextOf (Value.ref i) >>= _) _ _ _
  have hi1 : ItS g1 i l k xs := hi.keep (fun o e => s1.extBut _ _ D.iz e) fun o e => s1.extBut _ _ D.lz e
  refine wpAny_bind (nextS hi1 D.li hx fun g2 i2 s2 => wpAny_pure ?_)
  have q2 : IsPair g2 q a b := s2.extBut _ _ D.qi (s1.extBut _ _ D.qz hq)
  refine wpAny_bind (wpAny_seqItems q2 rfl ?_)
  refine wpAny_bind (wpAny_updateSeq_pair q2 fun g3 q3 s3 => ?_)
  replace q3 : IsPair g3 q x b := q3
  refine wpAny_bind (wpAny_letGo (wpAny_pure ?_))
  refine wpAny_bind (wpAny_bind (wpAny_onRaise ?_))
  show wpAny _ _ (Builtin.SmallTypes.nextOf (Value.ref j) >>= _) _ _ _
  have hj3 : ItS g3 j m k ys := hj.keep (fun o e => s3.extBut _ _ D.qj.symm (s2.extBut _ _ D.ij.symm (s1.extBut _ _ D.jz e))) fun o e => s3.extBut _ _ D.mq (s2.extBut _ _ D.mi (s1.extBut _ _ D.mz e))
  refine wpAny_bind (nextS hj3 D.mj hy fun g4 j4 s4 => wpAny_pure ?_)
  have q4 : IsPair g4 q x b := s4.extBut _ _ D.qj q3
  refine wpAny_bind (wpAny_seqItems q4 rfl ?_)
  refine wpAny_bind (wpAny_updateSeq_pair q4 fun g5 q5 s5 => ?_)
  replace q5 : IsPair g5 q x y := q5
  refine wpAny_bind (wpAny_letGo (wpAny_pure (wpAny_pure ?_)))
  refine wpAny_bind (wpAny_seqItems q5 rfl ?_)
  refine wpAny_bind (wpAny_newTuple ?_)
  have hsz : g5.objs.size = s.heap.objs.size := by rw [s5.1, s4.1, s3.1, s2.1, s1.1]
  have z5 : IsZip g5 z p q .ellipsis := s5.extBut _ _ D.qz.symm (s4.extBut _ _ D.jz.symm (s3.extBut _ _ D.qz.symm (s2.extBut _ _ D.iz.symm z1)))
  have k5 : ∀ c o, c ≠ z → c ≠ q → c ≠ i → c ≠ j → s.heap.get? c = some o → g5.get? c = some o := fun c o c1 c2 c3 c4 e => s5.extBut _ _ c2 (s4.extBut _ _ c4 (s3.extBut _ _ c2 (s2.extBut _ _ c3 (s1.extBut _ _ c1 e))))
  have i5 : ItS g5 i l (k + 1) xs := i2.keep (fun o e => s5.extBut _ _ D.qi.symm (s4.extBut _ _ D.ij (s3.extBut _ _ D.qi.symm e))) fun o e => s5.extBut _ _ D.lq (s4.extBut _ _ D.lj (s3.extBut _ _ D.lq e))
  have j5 : ItS g5 j m (k + 1) ys := j4.keep (fun o e => s5.extBut _ _ D.qj.symm e) fun o e => s5.extBut _ _ D.mq e
  have zlt : z < g5.objs.size := Heap.lt_size z5
  show wpAny _ _ (Builtin.SmallTypes.ownedTupleHandOut (Value.ref z) (Value.ref g5.objs.size) >>= _) _ _ _
  refine wpAny_bind ?_
  unfold Builtin.SmallTypes.ownedTupleHandOut
  have z6 : IsZip (g5.push { cls := .type "tuple", data := .seq #[x, y] }) z p q .ellipsis := Heap.get?_push_of_some _ z5
  refine wpAny_bind (wpAny_setField_rec z6 (by simp) fun g7 z7 s7 => ?_)
  replace z7 : IsZip g7 z p q (rawInt g5.objs.size) := z7
  refine wpAny_setField_rec z7 (by simp) fun g8 z8 s8 => ?_
  replace z8 : IsZip g8 z p q (rawInt g5.objs.size) := z8
  have up : ∀ c o, c ≠ z → g5.get? c = some o → g8.get? c = some o := fun c o c1 e => s8.extBut _ _ c1 (s7.extBut _ _ c1 (Heap.get?_push_of_some _ e))
  have t8 : IsPair g8 g5.objs.size x y := s8.extBut _ _ (Nat.ne_of_gt zlt) (s7.extBut _ _ (Nat.ne_of_gt zlt) (Heap.get?_push_size _ rfl))
  rw [hsz] at z8 t8
  refine wpAny_pure ⟨_, rfl, ?_⟩
  show Q (.ref g5.objs.size) _
  rw [hsz]
  exact hQ g8 ⟨z8, up _ _ D.pz (k5 _ _ D.pz D.pq D.pi D.pj hp), ⟨x, y, up _ _ D.qz q5⟩, i5.keep (fun o e => up _ _ D.iz e) fun o e => up _ _ D.lz e, j5.keep (fun o e => up _ _ D.jz e) fun o e => up _ _ D.mz e⟩ t8 fun c o c1 c2 c3 c4 e => up c o c1 (k5 c o c1 c2 c3 c4 e)
theorem zip_end {Q : PySem.Fin → Shared → Prop} (hh : A.handled = none) (D : ZA z p q i j l m) (S : ZSt s.heap z p q i j l m .none k xs ys) (hend : xs[k]? = none ∨ ys[k]? = none)
    (hE : ∀ h' e, (∀ c o, c ≠ z → c ≠ q → c ≠ i → c ≠ j → s.heap.get? c = some o → h'.get? c = some o) → (∃ o, h'.get? e = some o ∧ o.cls = .type "StopIteration") → E (.ref e) { s with heap := h' }) :
    wpAny (model prog w) A (Builtin.«zip.__next__» ⟨[.ref z], []⟩) Q E s := by
  obtain ⟨hz, hp, ⟨a, b, hq⟩, hi, hj⟩ := S
  show wpAny _ _ (field (Value.ref z) 2 >>= _) _ _ _
  refine wpAny_bind (wpAny_field hz rfl (x := Value.bool false) rfl ?_)
  show wpAny _ _ (field (Value.ref z) 3 >>= _) _ _ _
  refine wpAny_bind (wpAny_field hz rfl (x := Value.ref p) rfl ?_)
  refine wpAny_bind (wpAny_seqItems hp rfl ?_)
  show wpAny _ _ (Builtin.SmallTypes.ownedTupleIsFree (Value.ref z) >>= _) _ _ _
  refine wpAny_bind ?_
  unfold Builtin.SmallTypes.ownedTupleIsFree
  refine wpAny_bind (wpAny_field hz rfl (x := Value.none) rfl (wpAny_pure ?_))
  simp only [if_true]
  refine wpAny_bind (wpAny_rule ?_)
  refine wpAny_bind (wpAny_field hz rfl (x := Value.ref q) rfl ?_)
  refine wpAny_bind (wpAny_setField_rec hz (by simp) fun g1 z1 s1 => ?_)
  replace z1 : IsZip g1 z p q .ellipsis := z1
  refine wpAny_bind ?_
  simp only [List.zipIdx_cons, List.zipIdx_nil, List.forIn_cons, List.forIn_nil]
  refine wpAny_bind (wpAny_bind (wpAny_onRaise ?_))
  show wpAny _ _ (Builtin.SmallTypes.nextOf (Value.ref i) >>= _) _ _ _
  have hi1 : ItS g1 i l k xs := hi.keep (fun o e => s1.extBut _ _ D.iz e) fun o e => s1.extBut _ _ D.lz e
  cases hx : xs[k]? with
  | none =>
    refine wpAny_bind (nextS_end hh hi1 hx fun g2 e s2 he => ?_)
    obtain ⟨oe, hoe, hce⟩ := he
    have z2 : IsZip g2 z p q .ellipsis := s2 _ _ D.iz.symm z1
    have hez : e ≠ z := fun t => by subst t; rw [z2] at hoe; cases hoe; simp at hce
    exact wpAny_setField_rec z2 (by simp) fun g3 _ s3 => hE g3 e (fun c o c1 _ c3 _ t => s3.extBut _ _ c1 (s2 _ _ c3 (s1.extBut _ _ c1 t))) ⟨oe, s3.extBut _ _ hez hoe, hce⟩
  | some x =>
    have hy : ys[k]? = none := by rcases hend with t | t; rw [hx] at t; cases t; exact t
    refine wpAny_bind (nextS hi1 D.li hx fun g2 i2 s2 => wpAny_pure ?_)
    have q2 : IsPair g2 q a b := s2.extBut _ _ D.qi (s1.extBut _ _ D.qz hq)
    refine wpAny_bind (wpAny_seqItems q2 rfl ?_)
    refine wpAny_bind (wpAny_updateSeq_pair q2 fun g3 q3 s3 => ?_)
    refine wpAny_bind (wpAny_letGo (wpAny_pure ?_))
    refine wpAny_bind (wpAny_bind (wpAny_onRaise ?_))
    show wpAny _ _ (Builtin.SmallTypes.nextOf (Value.ref j) >>= _) _ _ _
    have hj3 : ItS g3 j m k ys := hj.keep (fun o e => s3.extBut _ _ D.qj.symm (s2.extBut _ _ D.ij.symm (s1.extBut _ _ D.jz e))) fun o e => s3.extBut _ _ D.mq (s2.extBut _ _ D.mi (s1.extBut _ _ D.mz e))
    refine wpAny_bind (nextS_end hh hj3 hy fun g4 e s4 he => ?_)
    obtain ⟨oe, hoe, hce⟩ := he
    have z4 : IsZip g4 z p q .ellipsis := s4 _ _ D.jz.symm (s3.extBut _ _ D.qz.symm (s2.extBut _ _ D.iz.symm z1))
    have hez : e ≠ z := fun t => by subst t; rw [z4] at hoe; cases hoe; simp at hce
    exact wpAny_setField_rec z4 (by simp) fun g5 _ s5 => hE g5 e (fun c o c1 c2 c3 c4 t => s5.extBut _ _ c1 (s4 _ _ c4 (s3.extBut _ _ c2 (s2.extBut _ _ c3 (s1.extBut _ _ c1 t))))) ⟨oe, s5.extBut _ _ hez hoe, hce⟩
theorem zip_pyNext {x y : Value} {Q : Option Value → Shared → Prop} (D : ZA z p q i j l m) (S : ZSt s.heap z p q i j l m .none k xs ys) (hx : xs[k]? = some x) (hy : ys[k]? = some y)
    (hQ : ∀ h', ZSt h' z p q i j l m (rawInt s.heap.objs.size) (k + 1) xs ys → IsPair h' s.heap.objs.size x y → (∀ c o, c ≠ z → c ≠ q → c ≠ i → c ≠ j → s.heap.get? c = some o → h'.get? c = some o) → Q (some (.ref s.heap.objs.size)) { s with heap := h' }) :
    wpAny (model prog w) A (pyNext (.ref z)) Q E s := by
  have hT : s.TypeIs (.ref z) "zip" := ⟨_, S.zz, rfl⟩
  unfold pyNext
  exact wpAny_bind (wpAny_attempt (wpAny_callSpecial?_slot (name := Str.ofString "__next__") hT F.slot_zip_next (wpAny_call_entry F.slot_zip_next hT F.entry_zip_next (zip_item D S hx hy fun h' a b c => wpAny_pure (hQ h' a b c)) (F.args_zip_next_1 _))))
theorem zip_pyEnd {Q : Option Value → Shared → Prop} (hh : A.handled = none) (D : ZA z p q i j l m) (S : ZSt s.heap z p q i j l m .none k xs ys) (hend : xs[k]? = none ∨ ys[k]? = none)
    (hQ : ∀ h', (∀ c o, c ≠ z → c ≠ q → c ≠ i → c ≠ j → s.heap.get? c = some o → h'.get? c = some o) → Q none { s with heap := h' }) : wpAny (model prog w) A (pyNext (.ref z)) Q E s := by
  have hT : s.TypeIs (.ref z) "zip" := ⟨_, S.zz, rfl⟩
  unfold pyNext
  refine wpAny_bind (wpAny_attempt (wpAny_callSpecial?_slot (name := Str.ofString "__next__") hT F.slot_zip_next (wpAny_call_entry F.slot_zip_next hT F.entry_zip_next (zip_end hh D S hend fun h' e hk he => ?_) (F.args_zip_next_1 _))))
  obtain ⟨o, ho, hc⟩ := he
  exact wpAny_bind (wpAny_isInstance (T := "StopIteration") (b := true) ⟨o, ho, hc⟩ isSubtype_stop (wpAny_pure (hQ _ hk)))
theorem zip_new (l m : Addr) (xs ys : Array Value) : Meets (Builtin.«zip.__new__» ⟨[.type "zip", .ref l, .ref m], []⟩) (fun _ R s => SqAt s.heap l xs ∧ SqAt s.heap m ys ∧
    ∀ h', h'.objs.size = s.heap.objs.size + 5 → ZSt h' (s.heap.objs.size + 4) (s.heap.objs.size + 2) (s.heap.objs.size + 3) s.heap.objs.size (s.heap.objs.size + 1) l m .none 0 xs ys → (∀ c o, s.heap.get? c = some o → h'.get? c = some o) →
      R (.ok (.ret (.ref (s.heap.objs.size + 4)))) { s with heap := h' }) :=
  .of_wp fun prog w A R s h => by
    obtain ⟨hp, g, d, tk, os⟩ := s; obtain ⟨h1, h2, h⟩ := h
    have hsub := sub_zip
    have fin : ∀ (oi oj : Obj), ItS (hp.push oi) hp.objs.size l 0 xs → ItS ((hp.push oi).push oj) (hp.push oi).objs.size m 0 ys →
        R (.ok (.ret (.ref ((((hp.push oi).push oj).push { cls := .type "tuple", data := .seq #[.ref hp.objs.size, .ref (hp.push oi).objs.size] }).push { cls := .type "tuple", data := .seq #[.none, .none] }).objs.size)))
          ⟨((((hp.push oi).push oj).push { cls := .type "tuple", data := .seq #[.ref hp.objs.size, .ref (hp.push oi).objs.size] }).push { cls := .type "tuple", data := .seq #[.none, .none] }).push { cls := .type "zip", data := .fields #[.none, .bool false, .bool false, .ref ((hp.push oi).push oj).objs.size, .ref (((hp.push oi).push oj).push { cls := .type "tuple", data := .seq #[.ref hp.objs.size, .ref (hp.push oi).objs.size] }).objs.size] }, g, d, tk, os⟩ := fun oi oj hi hj => by
      have e1 : (hp.push oi).objs.size = hp.objs.size + 1 := Heap.size_push ..
      have e2 : ((hp.push oi).push oj).objs.size = hp.objs.size + 2 := by rw [Heap.size_push, e1]
      have e3 : (((hp.push oi).push oj).push { cls := .type "tuple", data := .seq #[.ref hp.objs.size, .ref (hp.push oi).objs.size] }).objs.size = hp.objs.size + 3 := by rw [Heap.size_push, e2]
      have e4 : ((((hp.push oi).push oj).push { cls := .type "tuple", data := .seq #[.ref hp.objs.size, .ref (hp.push oi).objs.size] }).push { cls := .type "tuple", data := .seq #[.none, .none] }).objs.size = hp.objs.size + 4 := by rw [Heap.size_push, e3]
      rw [e4, e3, e2]
      rw [e1] at hj ⊢
      have kk : ∀ (c : Addr) (o a b c' : Obj), ((hp.push oi).push oj).get? c = some o → (((((hp.push oi).push oj).push a).push b).push c').get? c = some o := fun c o a b c' e => Heap.get?_push_of_some _ (Heap.get?_push_of_some _ (Heap.get?_push_of_some _ e))
      refine h _ (by rw [Heap.size_push, Heap.size_push, Heap.size_push, e2]) ⟨?_, ?_, ⟨.none, .none, ?_⟩, ?_, ?_⟩ fun c o e => kk _ _ _ _ _ (Heap.get?_push_of_some _ (Heap.get?_push_of_some _ e))
      · have : hp.objs.size + 4 = ((((hp.push oi).push oj).push { cls := .type "tuple", data := .seq #[.ref hp.objs.size, .ref (hp.objs.size + 1)] }).push { cls := .type "tuple", data := .seq #[.none, .none] }).objs.size := by rw [Heap.size_push, Heap.size_push, e2]
        show Heap.get? _ (hp.objs.size + 4) = _
        rw [this]
        exact Heap.get?_push_size _ rfl
      · refine Heap.get?_push_of_some _ (Heap.get?_push_of_some _ ?_)
        show Heap.get? _ (hp.objs.size + 2) = _
        rw [← e2]
        exact Heap.get?_push_size _ rfl
      · refine Heap.get?_push_of_some _ ?_
        have : hp.objs.size + 3 = (((hp.push oi).push oj).push { cls := .type "tuple", data := .seq #[.ref hp.objs.size, .ref (hp.objs.size + 1)] }).objs.size := by rw [Heap.size_push, e2]
        show Heap.get? _ (hp.objs.size + 3) = _
        rw [this]
        exact Heap.get?_push_size _ rfl
      · exact hi.keep (fun o e => kk _ _ _ _ _ (Heap.get?_push_of_some _ e)) fun o e => kk _ _ _ _ _ (Heap.get?_push_of_some _ e)
      · exact hj.keep (fun o e => kk _ _ _ _ _ e) fun o e => kk _ _ _ _ _ e
    rcases h1 with h1 | h1 <;> rcases h2 with h2 | h2
    · have l1 : Heap.IsList (Shared.heap ⟨hp, g, d, tk, os⟩) l xs := h1
      have l2 : Heap.IsList (Shared.heap ⟨hp.push { cls := .type "list_iterator", data := .fields #[.ref l, .int 0 0] }, g, d, tk, os⟩) m ys := Heap.IsList.push h2 _
      wp_walk using wpAny_pyIter_list l1, wpAny_pyIter_list l2
      exact ⟨_, rfl, fin _ _ (.inl ⟨⟨_, Heap.get?_push_size _ rfl, rfl, rfl⟩, Heap.IsList.push h1 _⟩) (.inl ⟨⟨_, Heap.get?_push_size _ rfl, rfl, rfl⟩, Heap.IsList.push l2 _⟩)⟩
    · have l1 : Heap.IsList (Shared.heap ⟨hp, g, d, tk, os⟩) l xs := h1
      have l2 : Heap.IsTuple (Shared.heap ⟨hp.push { cls := .type "list_iterator", data := .fields #[.ref l, .int 0 0] }, g, d, tk, os⟩) m ys := Heap.IsTuple.push h2 _
      wp_walk using wpAny_pyIter_list l1, wpAny_pyIter_tuple l2
      exact ⟨_, rfl, fin _ _ (.inl ⟨⟨_, Heap.get?_push_size _ rfl, rfl, rfl⟩, Heap.IsList.push h1 _⟩) (.inr ⟨⟨_, Heap.get?_push_size _ rfl, rfl, rfl⟩, Heap.IsTuple.push l2 _⟩)⟩
    · have l1 : Heap.IsTuple (Shared.heap ⟨hp, g, d, tk, os⟩) l xs := h1
      have l2 : Heap.IsList (Shared.heap ⟨hp.push { cls := .type "tuple_iterator", data := .fields #[.ref l, .int 0 0] }, g, d, tk, os⟩) m ys := Heap.IsList.push h2 _
      wp_walk using wpAny_pyIter_tuple l1, wpAny_pyIter_list l2
      exact ⟨_, rfl, fin _ _ (.inr ⟨⟨_, Heap.get?_push_size _ rfl, rfl, rfl⟩, Heap.IsTuple.push h1 _⟩) (.inl ⟨⟨_, Heap.get?_push_size _ rfl, rfl, rfl⟩, Heap.IsList.push l2 _⟩)⟩
    · have l1 : Heap.IsTuple (Shared.heap ⟨hp, g, d, tk, os⟩) l xs := h1
      have l2 : Heap.IsTuple (Shared.heap ⟨hp.push { cls := .type "tuple_iterator", data := .fields #[.ref l, .int 0 0] }, g, d, tk, os⟩) m ys := Heap.IsTuple.push h2 _
      wp_walk using wpAny_pyIter_tuple l1, wpAny_pyIter_tuple l2
      exact ⟨_, rfl, fin _ _ (.inr ⟨⟨_, Heap.get?_push_size _ rfl, rfl, rfl⟩, Heap.IsTuple.push h1 _⟩) (.inr ⟨⟨_, Heap.get?_push_size _ rfl, rfl, rfl⟩, Heap.IsTuple.push l2 _⟩)⟩
theorem call_zip {Q : Value → Shared → Prop} {l m : Addr} (h1 : SqAt s.heap l xs) (h2 : SqAt s.heap m ys)
    (h : ∀ h', h'.objs.size = s.heap.objs.size + 5 → ZSt h' (s.heap.objs.size + 4) (s.heap.objs.size + 2) (s.heap.objs.size + 3) s.heap.objs.size (s.heap.objs.size + 1) l m .none 0 xs ys → (∀ c o, s.heap.get? c = some o → h'.get? c = some o) →
      Q (.ref (s.heap.objs.size + 4)) { s with heap := h' }) : wpAny (model prog w) A (call (.type "zip") [.ref l, .ref m]) Q E s := by
  refine callType_new F.called_zip (by decide) (F.typeCall_zip_2 _ _) (F.newCall_zip_2 _ _) (fun obj => F.args_object_init_3 obj _ _) F.entry_zip_new (zip_new l m xs ys) ⟨h1, h2, fun h' e S k => ?_⟩
  exact ⟨⟨_, S.zz, rfl⟩, h h' e S k⟩
end
end D2
set_option Elab.async false
set_option linter.all false
set_option maxRecDepth 100000
set_option maxHeartbeats 4000000
namespace D2
open PySem PySem.Spec PyProof.Rows L2
section
variable {X : Cx} {pins : List (Addr × Obj)} {σ : St} {H : Hp} {s : Shared} {h' : Heap}
theorem inv_turnedS {t' : Nat} {fp : List Addr} (I : Inv X pins σ H s) (k : ∀ b o, b ∉ fp → s.heap.get? b = some o → h'.get? b = some o) (hf : ∀ b ∈ fp, FpOk X pins H b) : Inv X pins σ H { s with heap := h', toks := t' } := by
  have away : ∀ b u, H b = some u → b ∉ fp := fun b u e z => by rw [(hf b z).1] at e; cases e
  have frame : X.env.locals ∉ fp := fun z => (hf _ z).2.1 rfl
  refine I.step (g' := s.gens) (d' := s.drawn) (ch := fp) (fun b hb => ⟨(hf b hb).2.2.2.1, (hf b hb).2.1, (hf b hb).2.2.2.2.1, (hf b hb).2.2.2.2.2⟩) (fun b o _ _ hc e _ => k b o hc e) (fun b o _ _ hc e _ => ⟨o.slots, k b o hc e⟩) (fun _ _ _ _ n => n)
    (fun b o hc e => ⟨o, k b o hc e⟩) (fun _ _ e => e) (fun _ _ _ e => e) (fun b ps e => ⟨#[], by rw [e]; simp⟩) (fun m ⟨o, es, ep, ho, r⟩ => ⟨o, es, ep, k _ o frame ho, r⟩) (fun b u e => ?_) I.bare
  refine (I.hok b u e).stay (fun c v hc q => k c v ?_ q) (fun _ q => q) fun _ _ q => q
  rcases hc with z | z
  · rw [z]; exact away b u e
  · exact away c _ z
theorem push_old {h : Heap} {o o' : Obj} {b : Addr} (hb : b ≠ h.objs.size) (e : (h.push o).get? b = some o') : h.get? b = some o' := by
  unfold Heap.get? Heap.push at e
  unfold Heap.get?
  simp only [Array.getElem?_push] at e
  rw [if_neg hb] at e
  exact e
theorem inv_out {t' : Nat} {fp : List Addr} {u1 u2 : Value} {v1 v2 : V} (I : Inv X pins σ H s) (hf : ∀ b ∈ fp, FpOk X pins H b) (hob : ∀ b ∈ fp, b < s.heap.objs.size) (ht : IsPair h' s.heap.objs.size u1 u2) (k : ∀ b o, b ∉ fp → s.heap.get? b = some o → h'.get? b = some o)
    (r1 : RelV v1 u1) (r2 : RelV v2 u2) : Inv X pins σ (upd H s.heap.objs.size (.tup [v1, v2])) { s with heap := h', toks := t' } := by
  have I1 : Inv X pins σ (upd H s.heap.objs.size (.tup [v1, v2])) { s with heap := s.heap.push { cls := .type "tuple", data := .seq #[u1, u2] }, toks := s.toks } :=
    I.laid (fun b u e => Heap.get?_push_of_some _ e) (Nat.le_refl _) ⟨by show 2 ≤ sizeLine; decide, [u1, u2], .cons r1 (.cons r2 .nil), _, Heap.get?_push_size _ rfl, rfl, _, rfl⟩
  refine inv_turnedS (fp := fp) (s := { s with heap := s.heap.push { cls := .type "tuple", data := .seq #[u1, u2] }, toks := s.toks }) I1 (fun b o hb e => ?_) fun b hb => ?_
  · by_cases hz : b = s.heap.objs.size
    · subst hz
      have e' : (s.heap.push { cls := .type "tuple", data := .seq #[u1, u2] }).get? s.heap.objs.size = some o := e
      rw [Heap.get?_push_size _ rfl] at e'
      cases e'
      exact ht
    · exact k b o hb (push_old hz e)
  · obtain ⟨f0, f1, f2, f3, f4, f5⟩ := hf b hb
    exact ⟨by rw [upd_ne (Nat.ne_of_lt (hob b hb))]; exact f0, f1, f2, f3, f4, f5⟩
end
def SqB (K : PySem.W.Frag) (H : Hp) (a : Addr) (xs : List V) : Bool → Prop
  | true => SqT K H a xs
  | false => SqL K H a xs
def IterB (h : Heap) (i l : Addr) (k : Nat) : Bool → Prop
  | true => h.IsTupleIter i l k
  | false => h.IsListIter i l k
theorem IterB.keep {h h' : Heap} {i l : Addr} {k : Nat} {b : Bool} (x : IterB h i l k b) (hi : ∀ o, h.get? i = some o → h'.get? i = some o) : IterB h' i l k b := by
  cases b
  · obtain ⟨o, e, r⟩ := x; exact ⟨o, hi _ e, r⟩
  · obtain ⟨o, e, r⟩ := x; exact ⟨o, hi _ e, r⟩
theorem IterB.there {h : Heap} {i l : Addr} {k : Nat} {b : Bool} (x : IterB h i l k b) : ∃ o, h.get? i = some o ∧ ∀ v, o.data ≠ .cell v := by
  cases b
  · obtain ⟨o, e, c, d⟩ := x; exact ⟨o, e, fun v z => by rw [d] at z; cases z⟩
  · obtain ⟨o, e, c, d⟩ := x; exact ⟨o, e, fun v z => by rw [d] at z; cases z⟩
section
variable {X : Cx} {pins : List (Addr × Obj)} {σ : St} {H : Hp} {s : Shared}
theorem inv_sq {a : Addr} {xs : List V} {b : Bool} (I : Inv X pins σ H s) (h : SqB X.K H a xs b) : ∃ its : List Value, Vals xs its ∧ SqAt s.heap a its.toArray ∧ ∀ (i : Addr) (k : Nat), IterB s.heap i a k b → ItS s.heap i a k its.toArray := by
  cases b
  · obtain ⟨its, rv, p, _⟩ := I.list h
    exact ⟨its, rv, .inl p.isList, fun i k z => .inl ⟨z, p.isList⟩⟩
  · obtain ⟨its, rv, p, _⟩ := I.tuple h
    exact ⟨its, rv, .inr p, fun i k z => .inr ⟨z, p⟩⟩
theorem inv_sq_inj {a : Addr} {xs ys : List V} {b : Bool} (I : Inv X pins σ H s) (h : SqB X.K H a xs b) (h' : SqB X.K H a ys b) : ys = xs := by
  cases b
  · exact I.list_inj h' h
  · exact I.tuple_inj h' h
theorem ItS.toB {h : Heap} {i l : Addr} {k : Nat} {xs : Array Value} {b : Bool} (hl : ∀ ys, (b = true → ¬ h.IsList l ys) ∧ (b = false → ¬ h.IsTuple l ys)) (x : ItS h i l k xs) : IterB h i l k b := by
  cases b
  · rcases x with ⟨z, w⟩ | ⟨z, w⟩
    · exact z
    · exact absurd w ((hl xs).2 rfl)
  · rcases x with ⟨z, w⟩ | ⟨z, w⟩
    · exact absurd w ((hl xs).1 rfl)
    · exact z
theorem list_tuple {h : Heap} {l : Addr} {xs ys : Array Value} (a : h.IsList l xs) (b : h.IsTuple l ys) : False := by
  obtain ⟨o, e, c, _⟩ := a
  obtain ⟨o', e', c', _⟩ := b
  rw [e] at e'; cases e'
  rw [c] at c'
  injection c' with z
  exact absurd z (by decide)
theorem inv_kind {a : Addr} {xs : List V} {b : Bool} (I : Inv X pins σ H s) (h : SqB X.K H a xs b) {h' : Heap} (kp : ∀ c o, s.heap.get? c = some o → h'.get? c = some o) : ∀ ys, (b = true → ¬ h'.IsList a ys) ∧ (b = false → ¬ h'.IsTuple a ys) := fun ys => by
  cases b
  · obtain ⟨its, rv, p, _⟩ := I.list h
    refine ⟨fun z => (by cases z), fun _ w => ?_⟩
    obtain ⟨o, e, r⟩ := p.isList
    exact list_tuple (h := h') (xs := its.toArray) ⟨o, kp _ _ e, r⟩ w
  · obtain ⟨its, rv, p, _⟩ := I.tuple h
    refine ⟨fun _ w => ?_, fun z => by cases z⟩
    obtain ⟨o, e, r⟩ := p
    exact list_tuple (h := h') w ⟨o, kp _ _ e, r⟩
end
def ItZ (K : PySem.W.Frag) (l m : Addr) (b c : Bool) : It :=
  ⟨fun i H => ∃ xs ys x y, SqB K H l xs b ∧ SqB K H m ys c ∧ xs[i]? = some x ∧ ys[i]? = some y,
   fun i H v H' => ∃ a x y, H a = none ∧ v = .ref a ∧ H' = upd H a (.tup [x, y]) ∧ (∀ xs, SqB K H l xs b → xs[i]? = some x) ∧ ∀ ys, SqB K H m ys c → ys[i]? = some y,
   fun i H => ∃ xs ys, SqB K H l xs b ∧ SqB K H m ys c ∧ (xs.length ≤ i ∨ ys.length ≤ i)⟩
structure ZTn (z p q i j l m : Addr) (b c : Bool) (k : Nat) (h : Heap) : Prop where
  zz : IsZip h z p q .none
  pp : IsPair h p (.ref i) (.ref j)
  qq : ∃ a b, IsPair h q a b
  ii : IterB h i l k b
  jj : IterB h j m k c
theorem turn_zip {P : Program} {w : World} {K : PySem.W.Frag} {elts : List Expr} {x1} {pos : Pos} {z p q i j l m : Addr} {b c : Bool} (D : ZA z p q i j l m) : Turn P w K (.Tuple elts x1 pos) (ItZ K l m b c) [z, p, q, i, j] z (ZTn z p q i j l m b c) where
  mem := by simp
  obj := fun k h st a ha => by
    simp only [List.mem_cons, List.not_mem_nil, or_false] at ha
    rcases ha with rfl | rfl | rfl | rfl | rfl
    · exact ⟨_, st.zz, fun v e => by cases e⟩
    · exact ⟨_, st.pp, fun v e => by cases e⟩
    · obtain ⟨_, _, e⟩ := st.qq; exact ⟨_, e, fun v e => by cases e⟩
    · exact st.ii.there
    · exact st.jj.there
  keep := fun k h h' st kp => ⟨kp z (by simp) _ st.zz, kp p (by simp) _ st.pp, let ⟨a, b, e⟩ := st.qq; ⟨a, b, kp q (by simp) _ e⟩, st.ii.keep fun o e => kp i (by simp) o e, st.jj.keep fun o e => kp j (by simp) o e⟩
  item := by
    intro X hP hw hK hc k pins s σ H E I hf st hg
    subst hP hw hK
    obtain ⟨xs, ys, x, y, h1, h2, hx, hy⟩ := hg
    obtain ⟨its, rv, _, p1⟩ := inv_sq I h1
    obtain ⟨jts, rw', _, p2⟩ := inv_sq I h2
    obtain ⟨u, hu, ru⟩ := rv.get hx
    obtain ⟨v, hv, ry⟩ := rw'.get hy
    have S : ZSt s.heap z p q i j l m .none k its.toArray jts.toArray := ⟨st.zz, st.pp, st.qq, p1 _ _ st.ii, p2 _ _ st.jj⟩
    refine zip_pyNext D S (x := u) (y := v) (by simpa using hu) (by simpa using hv) fun h' S' hp kp => ⟨_, rfl, ?_⟩
    have zlt : z < s.heap.objs.size := Heap.lt_size st.zz
    refine wpAny_letOwnedTupleGo_zip (s := { s with heap := h' }) S'.zz fun h2' hz2 sb => ?_
    have up : ∀ a o, a ≠ z → h'.get? a = some o → h2'.get? a = some o := fun a o ha e => sb.extBut a o ha e
    have hob : ∀ a ∈ [z, p, q, i, j], a < s.heap.objs.size := fun a ha => by
      simp only [List.mem_cons, List.not_mem_nil, or_false] at ha
      rcases ha with rfl | rfl | rfl | rfl | rfl
      · exact Heap.lt_size st.zz
      · exact Heap.lt_size st.pp
      · obtain ⟨_, _, e⟩ := st.qq; exact Heap.lt_size e
      · obtain ⟨o, e, _⟩ := st.ii.there; exact Heap.lt_size e
      · obtain ⟨o, e, _⟩ := st.jj.there; exact Heap.lt_size e
    have hn : H s.heap.objs.size = none := I.hok.fresh (Nat.le_refl _)
    refine ⟨.ref s.heap.objs.size, _, inv_out (s := s) (t' := s.toks) (fp := [z, p, q, i, j]) (h' := h2') (u1 := u) (u2 := v) (v1 := x) (v2 := y) I hf hob (up _ _ (Nat.ne_of_gt zlt) hp) (fun a o ha e => ?_) ru ry, rfl, ⟨_, x, y, hn, rfl, rfl, fun zs hz => by rw [inv_sq_inj I h1 hz]; exact hx, fun zs hz => by rw [inv_sq_inj I h2 hz]; exact hy⟩, ?_, fun a ha => ?_⟩
    · simp only [List.mem_cons, List.not_mem_nil, or_false, not_or] at ha
      exact up a o ha.1 (kp a o ha.1 ha.2.2.1 ha.2.2.2.1 ha.2.2.2.2 e)
    · have i2 : IterB h' i l (k + 1) b := by
        refine S'.ii.toB fun ys => ?_
        cases hb : b
        · subst hb
          refine ⟨fun z => (by cases z), fun _ w => ?_⟩
          obtain ⟨_, _, pl, _⟩ := I.list h1
          obtain ⟨o, e, r⟩ := pl.isList
          exact list_tuple (h := h') (xs := _) ⟨o, kp _ _ D.lz D.lq D.li D.lj e, r⟩ w
        · subst hb
          refine ⟨fun _ w => ?_, fun z => by cases z⟩
          obtain ⟨_, _, pl, _⟩ := I.tuple h1
          obtain ⟨o, e, r⟩ := pl
          exact list_tuple (h := h') w ⟨o, kp _ _ D.lz D.lq D.li D.lj e, r⟩
      have j2 : IterB h' j m (k + 1) c := by
        refine S'.jj.toB fun ys => ?_
        cases hb : c
        · subst hb
          refine ⟨fun z => (by cases z), fun _ w => ?_⟩
          obtain ⟨_, _, pl, _⟩ := I.list h2
          obtain ⟨o, e, r⟩ := pl.isList
          exact list_tuple (h := h') (xs := _) ⟨o, kp _ _ D.mz D.mq D.mi D.mj e, r⟩ w
        · subst hb
          refine ⟨fun _ w => ?_, fun z => by cases z⟩
          obtain ⟨_, _, pl, _⟩ := I.tuple h2
          obtain ⟨o, e, r⟩ := pl
          exact list_tuple (h := h') w ⟨o, kp _ _ D.mz D.mq D.mi D.mj e, r⟩
      exact ⟨hz2, up _ _ D.pz S'.pp, let ⟨a, b, e⟩ := S'.qq; ⟨a, b, up _ _ D.qz e⟩, i2.keep fun o e => up _ _ D.iz e, j2.keep fun o e => up _ _ D.jz e⟩
    · rw [upd_ne (Nat.ne_of_lt (hob a ha))]; exact (hf a ha).1
  done := by
    intro X hP hw hK hc k pins s σ H E I hf st hg
    subst hP hw hK
    obtain ⟨xs, ys, h1, h2, hl⟩ := hg
    obtain ⟨its, rv, _, p1⟩ := inv_sq I h1
    obtain ⟨jts, rw', _, p2⟩ := inv_sq I h2
    have S : ZSt s.heap z p q i j l m .none k its.toArray jts.toArray := ⟨st.zz, st.pp, st.qq, p1 _ _ st.ii, p2 _ _ st.jj⟩
    have e1 := rv.length
    have e2 := rw'.length
    refine zip_pyEnd (I.ok.hd hc) D S ?_ fun h' kp => ⟨rfl, inv_turnedS (t' := s.toks) (fp := [z, p, q, i, j]) I (fun a o ha e => ?_) hf⟩
    · rcases hl with hl | hl
      · left; simp; omega
      · right; simp; omega
    · simp only [List.mem_cons, List.not_mem_nil, or_false, not_or] at ha
      exact kp a o ha.1 ha.2.2.1 ha.2.2.2.1 ha.2.2.2.2 e
  self := fun _ _ _ _ _ st h => wpAny_pyIter_zip st.zz h
end D2
set_option Elab.async false
set_option linter.all false
set_option maxRecDepth 100000
set_option maxHeartbeats 4000000
namespace D2
open PySem PySem.Spec PyProof.Rows L2
def SqD (H : Hp) (a : Addr) (ds : List PyData) : Bool → Prop
  | true => ∃ vs, H a = some (.tup vs) ∧ RpA H ds vs
  | false => ∃ o vs, H a = some (.frz o (.lst vs)) ∧ RpA H ds vs
theorem SqD.sq {K : PySem.W.Frag} {H : Hp} {a : Addr} {ds : List PyData} {b : Bool} (h : SqD H a ds b) : ∃ vs, SqB K H a vs b ∧ RpA H ds vs := by
  cases b
  · obtain ⟨o, vs, e, r⟩ := h; exact ⟨vs, .inl (.inr ⟨o, e⟩), r⟩
  · obtain ⟨vs, e, r⟩ := h; exact ⟨vs, SqT.of e, r⟩
theorem SqD.kp {H H' : Hp} {a : Addr} {ds : List PyData} {b : Bool} (h : SqD H a ds b) (k : Kp H H') : SqD H' a ds b := by
  cases b
  · obtain ⟨o, vs, e, r⟩ := h; exact ⟨o, vs, k.2 _ _ _ e, RpA.kp k _ _ r⟩
  · obtain ⟨vs, e, r⟩ := h; exact ⟨vs, k.1 _ _ e, RpA.kp k _ _ r⟩
def pairD (p : PyData × PyData) : PyData := .tuple [p.1, p.2]
def zipD (xs ys : List PyData) : List PyData := (xs.zip ys).map pairD
theorem zipD_get {xs ys : List PyData} {i : Nat} {d : PyData} (h : (zipD xs ys)[i]? = some d) : ∃ x y, xs[i]? = some x ∧ ys[i]? = some y ∧ d = .tuple [x, y] := by
  unfold zipD at h
  rw [List.getElem?_map] at h
  cases e : (xs.zip ys)[i]? with
  | none => rw [e] at h; cases h
  | some p =>
    rw [e] at h
    obtain ⟨h1, h2⟩ := List.getElem?_zip_eq_some.mp e
    exact ⟨p.1, p.2, h1, h2, (Option.some.inj h).symm⟩
theorem zipD_len (xs ys : List PyData) : (zipD xs ys).length = min xs.length ys.length := by unfold zipD; simp
theorem itd_zip {K : PySem.W.Frag} {l m : Addr} {b c : Bool} {xs ys : List PyData} : ItD (ItZ K l m b c) (fun H => SqD H l xs b ∧ SqD H m ys c) (zipD xs ys) where
  go := fun i H ⟨h1, h2⟩ hi => by
    rw [zipD_len] at hi
    obtain ⟨vs, s1, r1⟩ := h1.sq (K := K)
    obtain ⟨us, s2, r2⟩ := h2.sq (K := K)
    obtain ⟨x, hx, _⟩ := r1.get (List.getElem?_eq_getElem (show i < xs.length by omega))
    obtain ⟨y, hy, _⟩ := r2.get (List.getElem?_eq_getElem (show i < ys.length by omega))
    exact ⟨vs, us, x, y, s1, s2, hx, hy⟩
  yld := fun i H v H' d ⟨h1, h2⟩ hd h => by
    obtain ⟨a, x, y, ha, rfl, rfl, k1, k2⟩ := h
    obtain ⟨vs, s1, r1⟩ := h1.sq (K := K)
    obtain ⟨us, s2, r2⟩ := h2.sq (K := K)
    obtain ⟨dx, dy, e1, e2, rfl⟩ := zipD_get hd
    obtain ⟨x', hx, px⟩ := r1.get e1
    obtain ⟨y', hy, py⟩ := r2.get e2
    have q1 := k1 vs s1
    have q2 := k2 us s2
    rw [hx] at q1; rw [hy] at q2
    cases q1; cases q2
    exact ⟨same_up ha _, rp_new_tup ha (RpA.cons px (RpA.cons py RpA.nil))⟩
  stop := fun i H ⟨h1, h2⟩ hi => by
    rw [zipD_len] at hi
    obtain ⟨vs, s1, r1⟩ := h1.sq (K := K)
    obtain ⟨us, s2, r2⟩ := h2.sq (K := K)
    have l1 := r1.length
    have l2 := r2.length
    exact ⟨vs, us, s1, s2, by omega⟩
theorem za_new {n l m : Nat} (hl : l < n) (hm : m < n) : ZA (n + 4) (n + 2) (n + 3) n (n + 1) l m := by
  refine ⟨?_, ?_, ?_, ?_, ?_, ?_, ?_, ?_, ?_, ?_, ?_, ?_, ?_, ?_, ?_, ?_, ?_, ?_⟩ <;> (intro z; have z' : (_ : Nat) = _ := z; omega)
section
variable {X : Cx} {elts : List Expr} {x1 : Nat} {tp : Pos} {a b : Expr} {fa fb : Fe} {pos p : Pos} {nl : Nat} {G : List Str} {fs : Rho → R (List PyData)}
def iZp (K : PySem.W.Frag) (ta : TA) : TI := fun σ H R => ta σ H fun vs H1 => ∃ l m xs ys b c, vs = [.ref l, .ref m] ∧ SqB K H1 l xs b ∧ SqB K H1 m ys c ∧ R (ItZ K l m b c) H1
theorem pi_zip {ta : TA} (hg : Gl X "zip") (hm : X.mg "zip" = none) (ha : PA X [a, b] ta) (hs : starEach [a, b] X.env = [(false, eval a X.env), (false, eval b X.env)]) (hs2 : starEach [b] X.env = [(false, eval b X.env)]) :
    PI X (.Tuple elts x1 tp) (.Call (.Name "zip" p) [a, b] [] pos) (iZp X.K ta) := by
  intro pins s σ H R I h
  refine Call_ (ld_blt I hg hm boot_zip (PyProof.Rows.callWith_type1 (thn (ha pos pins s σ H _ I h) fun us s1 ⟨vs, H1, I1, r1, q1⟩ => ?_) (by rw [hs, hs2]) (by rw [hs2]; rfl)))
  obtain ⟨l, m, xs, ys, b, c, e, h1, h2, q⟩ := q1
  subst e
  obtain ⟨u, v, rfl, ru, rv⟩ := vals2 r1
  cases ru
  cases rv
  obtain ⟨its, w1, p1, g1⟩ := inv_sq I1 h1
  obtain ⟨jts, w2, p2, g2⟩ := inv_sq I1 h2
  have ll : l < s1.heap.objs.size := by rcases p1 with ⟨o, e, _⟩ | ⟨o, e, _⟩ <;> exact Heap.lt_size e
  have lm : m < s1.heap.objs.size := by rcases p2 with ⟨o, e, _⟩ | ⟨o, e, _⟩ <;> exact Heap.lt_size e
  refine call_zip p1 p2 fun h' hz S kp => wpAny_pyIter_zip S.zz ?_
  have D := za_new ll lm
  have I2 : Inv X pins σ H1 { s1 with heap := h' } := I1.kept (t' := s1.toks) kp
  have i2 : IterB h' s1.heap.objs.size l 0 b := S.ii.toB (inv_kind I1 h1 kp)
  have j2 : IterB h' (s1.heap.objs.size + 1) m 0 c := S.jj.toB (inv_kind I1 h2 kp)
  refine ⟨_, [s1.heap.objs.size + 4, s1.heap.objs.size + 2, s1.heap.objs.size + 3, s1.heap.objs.size, s1.heap.objs.size + 1], _, _, H1, rfl, I2, turn_zip (b := b) (c := c) D, ⟨S.zz, S.pp, S.qq, i2, j2⟩, fun a ha => ?_, q⟩
  have hle : s1.heap.objs.size ≤ a := by
    simp only [List.mem_cons, List.not_mem_nil, or_false] at ha
    rcases ha with rfl | rfl | rfl | rfl | rfl
    · exact Nat.le_add_right _ 4
    · exact Nat.le_add_right _ 2
    · exact Nat.le_add_right _ 3
    · exact Nat.le_refl _
    · exact Nat.le_add_right _ 1
  exact I1.fpOk hle (I1.hok.fresh hle)
def iZip (fa fb : Fe) : Rho → R (List PyData) := fun ρ => fa ρ >>= fun x => fb ρ >>= fun y => seqD x >>= fun xs => seqD y >>= fun ys => .ok (zipD xs ys)
theorem rp_seq {H : Hp} {d : PyData} {v : V} {ds : List PyData} (h : Rp H d v) (e : seqD d = .ok ds) : ∃ a b, v = .ref a ∧ SqD H a ds b := by
  cases d with
  | list xs =>
    cases e
    simp only [Rp] at h
    obtain ⟨a, o, vs, rfl, h, r⟩ := h
    exact ⟨a, false, rfl, o, vs, h, r⟩
  | tuple xs =>
    cases e
    simp only [Rp] at h
    obtain ⟨a, vs, rfl, h, r⟩ := h
    exact ⟨a, true, rfl, vs, h, r⟩
  | _ => cases e
theorem ei_zip (T : Tb X nl G) (j : Nat) (hG : G[j]? = some ("zip" : Str)) (hm : X.mg "zip" = none) (ha : EvE X a fa) (hb : EvE X b fb) (h1 : notStar a = true := by rfl) (h2 : notStar b = true := by rfl) :
    EvI X (.Tuple elts x1 tp) (.Call (.Name "zip" p) [a, b] [] pos) (iZip fa fb) := by
  have g := T.gl _ (List.mem_of_getElem? hG)
  refine PI.imp (pi_zip g.1 hm (ea_cons ha (ea_cons hb ea_nil h2) h1) (by rw [star_cons h1, star_cons h2]; rfl) (by rw [star_cons h2]; rfl)) fun σ H Rk h => ?_
  obtain ⟨ρ, sl, q⟩ := h
  unfold iZip at q
  refine ⟨ρ, sl, ?_⟩
  unfold aCons aNil
  cases e1 : fa ρ with
  | ex c => rw [e1] at q; exact q
  | no => rw [e1] at q; exact q
  | ok x =>
    rw [e1] at q
    simp only [R.ok_bind] at q ⊢
    cases e2 : fb ρ with
    | ex c => rw [e2] at q; exact q
    | no => rw [e2] at q; exact q
    | ok y =>
      rw [e2] at q
      simp only [R.ok_bind] at q ⊢
      cases e3 : seqD x with
      | ex c => exact absurd e3 (by cases x <;> simp [seqD])
      | no => rw [e3] at q; exact q.elim
      | ok xs =>
        rw [e3] at q
        simp only [R.ok_bind] at q
        cases e4 : seqD y with
        | ex c => exact absurd e4 (by cases y <;> simp [seqD])
        | no => rw [e4] at q; exact q.elim
        | ok ys =>
          rw [e4] at q
          simp only [R.ok_bind] at q
          intro vs H1 s1 ra
          simp only [RA] at ra
          obtain ⟨v, r', rfl, p1, v', r'', rfl, p2, rfl⟩ := ra
          obtain ⟨l, b1, rfl, d1⟩ := rp_seq p1 e3
          obtain ⟨m, b2, rfl, d2⟩ := rp_seq p2 e4
          obtain ⟨us, u1, _⟩ := d1.sq (K := X.K)
          obtain ⟨ws, u2, _⟩ := d2.sq (K := X.K)
          exact ⟨l, m, us, ws, b1, b2, rfl, u1, u2, q _ H1 s1 ⟨_, itd_zip, fun H2 k _ => ⟨d1.kp k, d2.kp k⟩⟩⟩
theorem Z.ei_zip (T : Tb X nl G) (j : Nat) (hG : G[j]? = some ("zip" : Str)) (hm : X.mg "zip" = none) (ha : Z.EvE X a fa) (hb : Z.EvE X b fb) (h1 : notStar a = true := by rfl) (h2 : notStar b = true := by rfl) : Z.EvI X (.Tuple elts x1 tp) (.Call (.Name "zip" p) [a, b] [] pos) (iZip fa fb) :=
  ⟨D2.ei_zip T j hG hm ha.un hb.un h1 h2⟩
end
def bPair (i j : Nat) : PyData → Rho → Option Rho
  | .tuple [x, y], ρ => some ((ρ.set i (.val x)).set j (.val y))
  | _, _ => none
section
variable {X : Cx} {nl : Nat} {G : List Str} {x y : Str} {k : Nat} {p1 p2 pos : Pos}
theorem eg_pair (T : Tb X nl G) (i j : Nat) (hi : (X.N.take nl)[i]? = some x) (hj : (X.N.take nl)[j]? = some y) : EvG X (.Tuple [.Name x p1, .Name y p2] k pos) (bPair i j) := by
  obtain ⟨i1, i2, i3⟩ := T.nm hi
  obtain ⟨j1, j2, j3⟩ := T.nm hj
  refine PG.imp (pg_tup T.calm (pgs_cons (pg_name T.nd i1 i2 i3) (pgs_cons (pg_name T.nd j1 j2 j3) pgs_nil))) fun v σ H Q ⟨ρ, d, sl, p, q⟩ => ?_
  unfold bPair at q
  split at q
  · rename_i e
    split at e
    · rename_i ρ0 dx dy
      cases e
      simp only [Rp] at p
      obtain ⟨a, vs, rfl, ha, r⟩ := p
      obtain ⟨u, r1, rfl, pu, r⟩ := r.cons_inv
      obtain ⟨w, r2, rfl, pw, r⟩ := r.cons_inv
      rw [r.nil_inv] at ha
      refine ⟨a, [u, w], rfl, SqT.of ha, rfl, u, [w], rfl, w, [], rfl, rfl, ?_⟩
      refine q _ (Sl.set (c := .val dy) (o := some w) (Sl.set (c := .val dx) (o := some u) sl i ⟨u, rfl, pu⟩) j ⟨w, rfl, pw⟩) fun n e h => ?_
      obtain ⟨n1, h⟩ := get_set_own (fun e z => by cases z) h
      obtain ⟨n2, h⟩ := get_set_own (fun e z => by cases z) h
      exact ⟨h, by rw [List.getElem?_set, if_neg n1, List.getElem?_set, if_neg n2]⟩
    · cases e
  · exact q.elim
theorem Z.eg_pair (T : Tb X nl G) (i j : Nat) (hi : (X.N.take nl)[i]? = some x) (hj : (X.N.take nl)[j]? = some y) : Z.EvG X (.Tuple [.Name x p1, .Name y p2] k pos) (bPair i j) :=
  ⟨D2.eg_pair T i j hi hj⟩
end
theorem fits_pair {own : Nat} {fr : List Nat} {i j : Nat} (hi : i < own) (hj : j < own) : ∀ ρ d ρ1, bPair i j d (compRho own fr ρ) = some ρ1 → Fits (compRho own fr ρ) ρ1 := fun ρ d ρ1 e => by
  unfold bPair at e
  split at e
  · rename_i x y _
    cases e
    refine ⟨by rw [List.length_set, List.length_set], fun n c hn => ?_⟩
    have at_own : n < own → c = .non := fun h => by
      unfold compRho at hn
      rw [List.getElem?_append_left (by simpa using h), List.getElem?_replicate, if_pos h] at hn
      exact (Option.some.inj hn).symm
    by_cases h1 : j = n
    · exact .inl (at_own (by omega))
    · by_cases h2 : i = n
      · exact .inl (at_own (by omega))
      · exact .inr (by rw [List.getElem?_set, if_neg h1, List.getElem?_set, if_neg h2]; exact hn)
  · cases e
end D2
set_option Elab.async false
set_option linter.all false
set_option maxRecDepth 100000
set_option maxHeartbeats 4000000
namespace D2
open PySem PySem.Spec PyProof.Rows L2
open AutoSeq1 (wpAny_loadPart')
abbrev IsEn (h : Heap) (e i : Addr) (k : Int) (f0 old : Value) : Prop := h.get? e = some { cls := .type "enumerate", dict := none, data := .fields #[f0, .bool false, .ref i, rawInt k, .none, old], slots := #[] }
section
variable {prog : Program} {w : World} {A : Around} {E : Value → Shared → Prop} {s : Shared} {e i l : Addr} {k : Nat} {xs : Array Value}
theorem enum_item {x old : Value} {Q : Value → Shared → Prop} (he : IsEn s.heap e i k .none old) (it : ItS s.heap i l k xs) (hli : l ≠ i) (hle : l ≠ e) (hei : e ≠ i) (hx : xs[k]? = some x)
    (hQ : ∀ h' old', IsEn h' e i ((k : Int) + 1) (rawInt s.heap.objs.size) old' → ItS h' i l (k + 1) xs → IsPair h' s.heap.objs.size (.int k s.toks) x → (∀ c o, c ≠ e → c ≠ i → s.heap.get? c = some o → h'.get? c = some o) → Q (.ref s.heap.objs.size) { s with heap := h', toks := s.toks + 1 }) :
    wpAny (model prog w) A (Builtin.«enumerate.__next__» ⟨[.ref e], []⟩) (fun fin s' => ∃ v, fin = .done (.ret v) ∧ Q v s') E s := by
  obtain ⟨hp, g, d, tk, os⟩ := s
  show wpAny _ _ (field (Value.ref e) 2 >>= _) _ _ _
  refine wpAny_bind (wpAny_field he rfl (x := Value.ref i) rfl ?_)
  refine wpAny_bind (nextS it hli hx fun g1 i1 s1 => ?_)
  replace s1 : Heap.SameBut i hp g1 := s1
  have e1 : IsEn g1 e i k .none old := (s1.2 e hei).trans he
  show wpAny _ _ (field (Value.ref e) 3 >>= _) _ _ (Shared.mk g1 g d tk os)
  refine wpAny_bind (wpAny_field e1 rfl (x := rawInt (k : Int)) rfl ?_)
  show wpAny _ _ (field (Value.ref e) 4 >>= _) _ _ (Shared.mk g1 g d tk os)
  refine wpAny_bind (wpAny_field e1 rfl (x := Value.none) rfl ?_)
  show wpAny _ _ (mkInt (k : Int) >>= _) _ _ (Shared.mk g1 g d tk os)
  refine wpAny_bind (wpAny_mkInt ?_)
  show wpAny _ _ (setField (Value.ref e) 3 (rawInt ((k : Int) + 1)) >>= _) _ _ (Shared.mk g1 g d (tk + 1) os)
  refine wpAny_bind (wpAny_setField_rec e1 (by simp) fun g2 e2 s2 => ?_)
  replace s2 : Heap.SameBut e g1 g2 := s2
  replace e2 : IsEn g2 e i ((k : Int) + 1) .none old := e2
  show wpAny _ _ (setField (Value.ref e) 4 Value.none >>= _) _ _ (Shared.mk g2 g d (tk + 1) os)
  refine wpAny_bind (wpAny_setField_rec e2 (by simp) fun g3 e3 s3 => ?_)
  replace s3 : Heap.SameBut e g2 g3 := s3
  replace e3 : IsEn g3 e i ((k : Int) + 1) .none old := e3
  show wpAny _ _ (newTuple [Value.int k tk, x] >>= _) _ _ (Shared.mk g3 g d (tk + 1) os)
  refine wpAny_bind (wpAny_newTuple ?_)
  have hsz : g3.objs.size = hp.objs.size := by rw [s3.1, s2.1, s1.1]
  have elt : e < g3.objs.size := Heap.lt_size e3
  have e4 : IsEn (g3.push { cls := .type "tuple", data := .seq #[.int k tk, x] }) e i ((k : Int) + 1) .none old := Heap.get?_push_of_some _ e3
  have t4 : IsPair (g3.push { cls := .type "tuple", data := .seq #[.int k tk, x] }) g3.objs.size (.int k tk) x := Heap.get?_push_size _ rfl
  have i3 : ItS g3 i l (k + 1) xs := i1.keep (fun o q => s3.extBut _ _ hei.symm (s2.extBut _ _ hei.symm q)) fun o q => s3.extBut _ _ hle (s2.extBut _ _ hle q)
  have k3 : ∀ c o, c ≠ e → c ≠ i → hp.get? c = some o → g3.get? c = some o := fun c o c1 c2 q => s3.extBut _ _ c1 (s2.extBut _ _ c1 (s1.extBut _ _ c2 q))
  show wpAny _ _ (Builtin.SmallTypes.ownedTupleIsFree (Value.ref e) >>= _) _ _ (Shared.mk (g3.push { cls := .type "tuple", data := .seq #[.int k tk, x] }) g d (tk + 1) os)
  refine wpAny_bind ?_
  unfold Builtin.SmallTypes.ownedTupleIsFree
  refine wpAny_bind (wpAny_field e4 rfl (x := Value.none) rfl (wpAny_pure ?_))
  simp only [if_true]
  refine wpAny_bind (wpAny_rule ?_)
  refine wpAny_bind (wpAny_field e4 rfl (x := old) rfl ?_)
  refine wpAny_bind (wpAny_setField_rec e4 (by simp) fun g5 e5 s5 => ?_)
  replace s5 : Heap.SameBut e (g3.push { cls := .type "tuple", data := .seq #[.int k tk, x] }) g5 := s5
  replace e5 : IsEn g5 e i ((k : Int) + 1) .none x := e5
  show wpAny _ _ (Builtin.SmallTypes.ownedTupleHandOut (Value.ref e) (Value.ref g3.objs.size) >>= _) _ _ (Shared.mk g5 g d (tk + 1) os)
  refine wpAny_bind ?_
  unfold Builtin.SmallTypes.ownedTupleHandOut
  refine wpAny_bind (wpAny_setField_rec e5 (by simp) fun g6 e6 s6 => ?_)
  replace s6 : Heap.SameBut e g5 g6 := s6
  replace e6 : IsEn g6 e i ((k : Int) + 1) (rawInt g3.objs.size) x := e6
  refine wpAny_setField_rec e6 (by simp) fun g7 e7 s7 => ?_
  replace s7 : Heap.SameBut e g6 g7 := s7
  replace e7 : IsEn g7 e i ((k : Int) + 1) (rawInt g3.objs.size) x := e7
  have up : ∀ c o, c ≠ e → g3.get? c = some o → g7.get? c = some o := fun c o c1 q => s7.extBut _ _ c1 (s6.extBut _ _ c1 (s5.extBut _ _ c1 (Heap.get?_push_of_some _ q)))
  have t7 : IsPair g7 g3.objs.size (.int k tk) x := s7.extBut _ _ (Nat.ne_of_gt elt) (s6.extBut _ _ (Nat.ne_of_gt elt) (s5.extBut _ _ (Nat.ne_of_gt elt) t4))
  rw [hsz] at e7 t7
  refine wpAny_bind (wpAny_letGo (wpAny_pure ⟨_, rfl, ?_⟩))
  show Q (.ref g3.objs.size) _
  rw [hsz]
  exact hQ g7 x e7 (i3.keep (fun o q => up _ _ hei.symm q) fun o q => up _ _ hle q) t7 fun c o c1 c2 q => up c o c1 (k3 c o c1 c2 q)
theorem enum_next {x old : Value} {Q : Option Value → Shared → Prop} (he : IsEn s.heap e i k .none old) (it : ItS s.heap i l k xs) (hli : l ≠ i) (hle : l ≠ e) (hei : e ≠ i) (hx : xs[k]? = some x)
    (hQ : ∀ h' old', IsEn h' e i ((k : Int) + 1) (rawInt s.heap.objs.size) old' → ItS h' i l (k + 1) xs → IsPair h' s.heap.objs.size (.int k s.toks) x → (∀ c o, c ≠ e → c ≠ i → s.heap.get? c = some o → h'.get? c = some o) → Q (some (.ref s.heap.objs.size)) { s with heap := h', toks := s.toks + 1 }) :
    wpAny (model prog w) A (pyNext (.ref e)) Q E s := by
  have hT : s.TypeIs (.ref e) "enumerate" := ⟨_, he, rfl⟩
  unfold pyNext
  exact wpAny_bind (wpAny_attempt (wpAny_callSpecial?_slot (name := Str.ofString "__next__") hT F.slot_enumerate_next (wpAny_call_entry F.slot_enumerate_next hT F.entry_enumerate_next (enum_item he it hli hle hei hx fun h' o a b c d => wpAny_pure (hQ h' o a b c d)) (F.args_enumerate_next_1 _))))
theorem enum_end {old : Value} {Q : Option Value → Shared → Prop} (hh : A.handled = none) (he : IsEn s.heap e i k .none old) (it : ItS s.heap i l k xs) (hx : xs[k]? = none) (hQ : ∀ h', (∀ c o, c ≠ i → s.heap.get? c = some o → h'.get? c = some o) → Q none { s with heap := h' }) :
    wpAny (model prog w) A (pyNext (.ref e)) Q E s := by
  have hT : s.TypeIs (.ref e) "enumerate" := ⟨_, he, rfl⟩
  unfold pyNext
  refine wpAny_bind (wpAny_attempt (wpAny_callSpecial?_slot (name := Str.ofString "__next__") hT F.slot_enumerate_next (wpAny_call_entry F.slot_enumerate_next hT F.entry_enumerate_next ?_ (F.args_enumerate_next_1 _))))
  show wpAny _ _ (field (Value.ref e) 2 >>= _) _ _ _
  refine wpAny_bind (wpAny_field he rfl (x := Value.ref i) rfl ?_)
  refine wpAny_bind (nextS_end hh it hx fun h' x k1 ⟨o, ho, hc⟩ => ?_)
  exact wpAny_bind (wpAny_isInstance (T := "StopIteration") (b := true) ⟨o, ho, hc⟩ isSubtype_stop (wpAny_pure (hQ _ fun c o c1 q => k1 c o c1 q)))
theorem enum_new (l : Addr) (xs : Array Value) : Meets (Builtin.«enumerate.__new__» ⟨[.type "enumerate", .ref l], []⟩) (fun _ R s => SqAt s.heap l xs ∧
    ∀ h', IsEn h' (s.heap.objs.size + 1) s.heap.objs.size 0 .none .none → ItS h' s.heap.objs.size l 0 xs → (∀ c o, s.heap.get? c = some o → h'.get? c = some o) → R (.ok (.ret (.ref (s.heap.objs.size + 1)))) { s with heap := h' }) :=
  .of_wp fun prog w A R s h => by
    obtain ⟨hp, g, d, tk, os⟩ := s
    obtain ⟨h1, h⟩ := h
    have hsub := sub_enumerate
    have fin : ∀ oi : Obj, ItS (hp.push oi) hp.objs.size l 0 xs → R (.ok (.ret (.ref (hp.push oi).objs.size))) ⟨(hp.push oi).push { cls := .type "enumerate", data := .fields #[.none, .bool false, .ref hp.objs.size, rawInt 0, .none, .none] }, g, d, tk, os⟩ := fun oi hi => by
      have e1 : (hp.push oi).objs.size = hp.objs.size + 1 := Heap.size_push ..
      rw [e1]
      refine h _ ?_ (hi.keep (fun o q => Heap.get?_push_of_some _ q) fun o q => Heap.get?_push_of_some _ q) fun c o q => Heap.get?_push_of_some _ (Heap.get?_push_of_some _ q)
      show Heap.get? _ (hp.objs.size + 1) = _
      rw [← e1]
      exact Heap.get?_push_size _ rfl
    rcases h1 with h1 | h1
    · have l1 : Heap.IsList (Shared.heap ⟨hp, g, d, tk, os⟩) l xs := h1
      obtain ⟨o, ho, _, _, _⟩ := id h1
      have ho' : (Shared.heap ⟨hp, g, d, tk, os⟩).get? l = some o := ho
      wp_walk using wpAny_loadPart' ho'
      refine wpAny_stack_any fun st => wpAny_pure ?_
      split
      · rename_i c _ _ _ _ _
        cases (c == Value.type "enumerate")
        · wp_walk using wpAny_loadPart' ho', wpAny_pyIter_list l1
          exact ⟨_, rfl, fin _ (.inl ⟨⟨_, Heap.get?_push_size _ rfl, rfl, rfl⟩, Heap.IsList.push h1 _⟩)⟩
        · wp_walk using wpAny_loadPart' ho', wpAny_pyIter_list l1
          exact ⟨_, rfl, fin _ (.inl ⟨⟨_, Heap.get?_push_size _ rfl, rfl, rfl⟩, Heap.IsList.push h1 _⟩)⟩
      · wp_walk using wpAny_loadPart' ho', wpAny_pyIter_list l1
        exact ⟨_, rfl, fin _ (.inl ⟨⟨_, Heap.get?_push_size _ rfl, rfl, rfl⟩, Heap.IsList.push h1 _⟩)⟩
    · have l1 : Heap.IsTuple (Shared.heap ⟨hp, g, d, tk, os⟩) l xs := h1
      obtain ⟨o, ho, _, _, _⟩ := id h1
      have ho' : (Shared.heap ⟨hp, g, d, tk, os⟩).get? l = some o := ho
      wp_walk using wpAny_loadPart' ho'
      refine wpAny_stack_any fun st => wpAny_pure ?_
      split
      · rename_i c _ _ _ _ _
        cases (c == Value.type "enumerate")
        · wp_walk using wpAny_loadPart' ho', wpAny_pyIter_tuple l1
          exact ⟨_, rfl, fin _ (.inr ⟨⟨_, Heap.get?_push_size _ rfl, rfl, rfl⟩, Heap.IsTuple.push h1 _⟩)⟩
        · wp_walk using wpAny_loadPart' ho', wpAny_pyIter_tuple l1
          exact ⟨_, rfl, fin _ (.inr ⟨⟨_, Heap.get?_push_size _ rfl, rfl, rfl⟩, Heap.IsTuple.push h1 _⟩)⟩
      · wp_walk using wpAny_loadPart' ho', wpAny_pyIter_tuple l1
        exact ⟨_, rfl, fin _ (.inr ⟨⟨_, Heap.get?_push_size _ rfl, rfl, rfl⟩, Heap.IsTuple.push h1 _⟩)⟩
theorem call_enum {Q : Value → Shared → Prop} {l : Addr} (h1 : SqAt s.heap l xs)
    (h : ∀ h', IsEn h' (s.heap.objs.size + 1) s.heap.objs.size 0 .none .none → ItS h' s.heap.objs.size l 0 xs → (∀ c o, s.heap.get? c = some o → h'.get? c = some o) → Q (.ref (s.heap.objs.size + 1)) { s with heap := h' }) :
    wpAny (model prog w) A (call (.type "enumerate") [.ref l]) Q E s := by
  refine callType_new F.called_enumerate (by decide) (F.typeCall_enumerate_1 _) (F.newCall_enumerate_1 _) (fun obj => F.args_object_init_2 obj _) F.entry_enumerate_new (enum_new l xs) ⟨h1, fun h' e S k => ?_⟩
  exact ⟨⟨_, e, rfl⟩, h h' e S k⟩
end
end D2
set_option Elab.async false
set_option linter.all false
set_option maxRecDepth 100000
set_option maxHeartbeats 4000000
namespace D2
open PySem PySem.Spec PyProof.Rows L2
def ItE (K : PySem.W.Frag) (l : Addr) (b : Bool) : It :=
  ⟨fun i H => ∃ xs x, SqB K H l xs b ∧ xs[i]? = some x, fun i H v H' => ∃ a x, H a = none ∧ v = .ref a ∧ H' = upd H a (.tup [.int i, x]) ∧ ∀ xs, SqB K H l xs b → xs[i]? = some x, fun i H => ∃ xs, SqB K H l xs b ∧ xs.length ≤ i⟩
structure ETn (e i l : Addr) (b : Bool) (k : Nat) (h : Heap) : Prop where
  ee : ∃ old, IsEn h e i k .none old
  ii : IterB h i l k b
theorem turn_enum {P : Program} {w : World} {K : PySem.W.Frag} {elts : List Expr} {x1} {pos : Pos} {e i l : Addr} {b : Bool} (hei : e ≠ i) (hle : l ≠ e) (hli : l ≠ i) : Turn P w K (.Tuple elts x1 pos) (ItE K l b) [e, i] e (ETn e i l b) where
  mem := by simp
  obj := fun k h st a ha => by
    simp only [List.mem_cons, List.not_mem_nil, or_false] at ha
    rcases ha with rfl | rfl
    · obtain ⟨_, q⟩ := st.ee; exact ⟨_, q, fun v e => by cases e⟩
    · exact st.ii.there
  keep := fun k h h' st kp => ⟨let ⟨o, q⟩ := st.ee; ⟨o, kp e (by simp) _ q⟩, st.ii.keep fun o q => kp i (by simp) o q⟩
  item := by
    intro X hP hw hK hc k pins s σ H E I hf st hg
    subst hP hw hK
    obtain ⟨xs, x, h1, hx⟩ := hg
    obtain ⟨its, rv, _, p1⟩ := inv_sq I h1
    obtain ⟨u, hu, ru⟩ := rv.get hx
    obtain ⟨old, he⟩ := st.ee
    refine enum_next he (p1 _ _ st.ii) hli hle hei (x := u) (by simpa using hu) fun h' old' e' i' hp kp => ⟨_, rfl, ?_⟩
    have elt : e < s.heap.objs.size := Heap.lt_size he
    have hob : ∀ a ∈ [e, i], a < s.heap.objs.size := fun a ha => by
      simp only [List.mem_cons, List.not_mem_nil, or_false] at ha
      rcases ha with rfl | rfl
      · exact elt
      · obtain ⟨o, q, _⟩ := st.ii.there; exact Heap.lt_size q
    have hn : H s.heap.objs.size = none := I.hok.fresh (Nat.le_refl _)
    refine wpAny_letOwnedTupleGo_enum (s := { s with heap := h', toks := s.toks + 1 }) e' fun h2' e2 sb => ?_
    have up : ∀ a o, a ≠ e → h'.get? a = some o → h2'.get? a = some o := fun a o ha q => sb.extBut a o ha q
    refine ⟨.ref s.heap.objs.size, _, inv_out (s := s) (t' := s.toks + 1) (fp := [e, i]) (h' := h2') (u1 := .int k s.toks) (u2 := u) (v1 := .int k) (v2 := x) I hf hob (up _ _ (Nat.ne_of_gt elt) hp) (fun a o ha q => ?_) ⟨_, rfl⟩ ru, rfl, ⟨_, x, hn, rfl, rfl, fun zs hz => by rw [inv_sq_inj I h1 hz]; exact hx⟩, ?_, fun a ha => ?_⟩
    · simp only [List.mem_cons, List.not_mem_nil, or_false, not_or] at ha
      exact up a o ha.1 (kp a o ha.1 ha.2 q)
    · have i2 : IterB h' i l (k + 1) b := by
        refine i'.toB fun ys => ?_
        cases hb : b
        · subst hb
          refine ⟨fun z => (by cases z), fun _ w => ?_⟩
          obtain ⟨_, _, pl, _⟩ := I.list h1
          obtain ⟨o, q, r⟩ := pl.isList
          exact list_tuple (h := h') (xs := _) ⟨o, kp _ _ hle hli q, r⟩ w
        · subst hb
          refine ⟨fun _ w => ?_, fun z => by cases z⟩
          obtain ⟨_, _, pl, _⟩ := I.tuple h1
          obtain ⟨o, q, r⟩ := pl
          exact list_tuple (h := h') w ⟨o, kp _ _ hle hli q, r⟩
      exact ⟨⟨_, by have q : IsEn h2' e i ((k : Int) + 1) .none old' := e2; simpa using q⟩, i2.keep fun o q => up _ _ hei.symm q⟩
    · rw [upd_ne (Nat.ne_of_lt (hob a ha))]; exact (hf a ha).1
  done := by
    intro X hP hw hK hc k pins s σ H E I hf st hg
    subst hP hw hK
    obtain ⟨xs, h1, hl⟩ := hg
    obtain ⟨its, rv, _, p1⟩ := inv_sq I h1
    obtain ⟨old, he⟩ := st.ee
    have e1 := rv.length
    refine enum_end (I.ok.hd hc) he (p1 _ _ st.ii) (by simp; omega) fun h' kp => ⟨rfl, inv_turnedS (t' := s.toks) (fp := [e, i]) I (fun a o ha q => ?_) hf⟩
    simp only [List.mem_cons, List.not_mem_nil, or_false, not_or] at ha
    exact kp a o ha.2 q
  self := fun _ _ _ _ _ st h => let ⟨_, q⟩ := st.ee; wpAny_pyIter_enum q h
def enumD : Nat → List PyData → List PyData
  | _, [] => []
  | k, d :: ds => .tuple [.int k, d] :: enumD (k + 1) ds
theorem enumD_len : ∀ (k : Nat) (ds : List PyData), (enumD k ds).length = ds.length
  | _, [] => rfl
  | k, d :: ds => by unfold enumD; rw [List.length_cons, List.length_cons, enumD_len]
theorem enumD_get : ∀ {k : Nat} {ds : List PyData} {i : Nat} {d : PyData}, (enumD k ds)[i]? = some d → ∃ x, ds[i]? = some x ∧ d = .tuple [.int ((k + i : Nat) : Int), x]
  | k, [], i, d, h => by unfold enumD at h; simp at h
  | k, x :: ds, 0, d, h => by
    unfold enumD at h
    simp at h
    exact ⟨x, rfl, by rw [← h]; simp⟩
  | k, x :: ds, i + 1, d, h => by
    unfold enumD at h
    rw [List.getElem?_cons_succ] at h
    obtain ⟨y, h1, h2⟩ := enumD_get h
    refine ⟨y, by simpa using h1, ?_⟩
    rw [h2]
    have : k + 1 + i = k + (i + 1) := by omega
    rw [this]
theorem itd_enum {K : PySem.W.Frag} {l : Addr} {b : Bool} {xs : List PyData} : ItD (ItE K l b) (fun H => SqD H l xs b) (enumD 0 xs) where
  go := fun i H h1 hi => by
    rw [enumD_len] at hi
    obtain ⟨vs, s1, r1⟩ := h1.sq (K := K)
    obtain ⟨x, hx, _⟩ := r1.get (List.getElem?_eq_getElem hi)
    exact ⟨vs, x, s1, hx⟩
  yld := fun i H v H' d h1 hd h => by
    obtain ⟨a, x, ha, rfl, rfl, k1⟩ := h
    obtain ⟨vs, s1, r1⟩ := h1.sq (K := K)
    obtain ⟨dx, e1, rfl⟩ := enumD_get hd
    obtain ⟨x', hx, px⟩ := r1.get e1
    have q1 := k1 vs s1
    rw [hx] at q1
    cases q1
    refine ⟨same_up ha _, rp_new_tup ha (RpA.cons ?_ (RpA.cons px RpA.nil))⟩
    rw [Nat.zero_add]
    exact rp_int
  stop := fun i H h1 hi => by
    rw [enumD_len] at hi
    obtain ⟨vs, s1, r1⟩ := h1.sq (K := K)
    have l1 := r1.length
    exact ⟨vs, s1, by omega⟩
section
variable {X : Cx} {elts : List Expr} {x1 : Nat} {tp : Pos} {a b : Expr} {fa fb : Fe} {pos p : Pos} {nl : Nat} {G : List Str} {fs : Rho → R (List PyData)}
def iEn (K : PySem.W.Frag) (ta : TA) : TI := fun σ H R => ta σ H fun vs H1 => ∃ l xs b, vs = [.ref l] ∧ SqB K H1 l xs b ∧ R (ItE K l b) H1
theorem pi_enum {ta : TA} (hg : Gl X "enumerate") (hm : X.mg "enumerate" = none) (ha : PA X [a] ta) (hs : starEach [a] X.env = [(false, eval a X.env)]) : PI X (.Tuple elts x1 tp) (.Call (.Name "enumerate" p) [a] [] pos) (iEn X.K ta) := by
  intro pins s σ H R I h
  refine Call_ (ld_blt I hg hm boot_enumerate (PyProof.Rows.callWith_type1 (thn (ha pos pins s σ H _ I h) fun us s1 ⟨vs, H1, I1, r1, q1⟩ => ?_) hs rfl))
  obtain ⟨l, xs, b, e, h1, q⟩ := q1
  subst e
  obtain ⟨u, rfl, ru⟩ := vals1 r1
  cases ru
  obtain ⟨its, w1, p1, g1⟩ := inv_sq I1 h1
  have ll : l < s1.heap.objs.size := by rcases p1 with ⟨o, e, _⟩ | ⟨o, e, _⟩ <;> exact Heap.lt_size e
  refine call_enum p1 fun h' hz S kp => wpAny_pyIter_enum hz ?_
  have I2 : Inv X pins σ H1 { s1 with heap := h' } := I1.kept (t' := s1.toks) kp
  have i2 : IterB h' s1.heap.objs.size l 0 b := S.toB (inv_kind I1 h1 kp)
  refine ⟨_, [s1.heap.objs.size + 1, s1.heap.objs.size], _, _, H1, rfl, I2, turn_enum (b := b) (Nat.ne_of_gt (Nat.lt_succ_self _)) (Nat.ne_of_lt (Nat.lt_succ_of_lt ll)) (Nat.ne_of_lt ll), ⟨⟨_, hz⟩, i2⟩, fun a ha => ?_, q⟩
  have hle : s1.heap.objs.size ≤ a := by
    simp only [List.mem_cons, List.not_mem_nil, or_false] at ha
    rcases ha with rfl | rfl
    · exact Nat.le_add_right _ 1
    · exact Nat.le_refl _
  exact I1.fpOk hle (I1.hok.fresh hle)
def iEnum (fa : Fe) : Rho → R (List PyData) := fun ρ => fa ρ >>= fun x => seqD x >>= fun xs => .ok (enumD 0 xs)
theorem ei_enum (T : Tb X nl G) (j : Nat) (hG : G[j]? = some ("enumerate" : Str)) (hm : X.mg "enumerate" = none) (ha : EvE X a fa) (h1 : notStar a = true := by rfl) : EvI X (.Tuple elts x1 tp) (.Call (.Name "enumerate" p) [a] [] pos) (iEnum fa) := by
  have g := T.gl _ (List.mem_of_getElem? hG)
  refine PI.imp (pi_enum g.1 hm (ea_cons ha ea_nil h1) (by rw [star_cons h1]; rfl)) fun σ H Rk h => ?_
  obtain ⟨ρ, sl, q⟩ := h
  unfold iEnum at q
  refine ⟨ρ, sl, ?_⟩
  unfold aCons aNil
  cases e1 : fa ρ with
  | ex c => rw [e1] at q; exact q
  | no => rw [e1] at q; exact q
  | ok x =>
    rw [e1] at q
    simp only [R.ok_bind] at q ⊢
    cases e3 : seqD x with
    | ex c => exact absurd e3 (by cases x <;> simp [seqD])
    | no => rw [e3] at q; exact q.elim
    | ok xs =>
      rw [e3] at q
      simp only [R.ok_bind] at q
      intro vs H1 s1 ra
      simp only [RA] at ra
      obtain ⟨v, r', rfl, p1, rfl⟩ := ra
      obtain ⟨l, b1, rfl, d1⟩ := rp_seq p1 e3
      obtain ⟨us, u1, _⟩ := d1.sq (K := X.K)
      exact ⟨l, us, b1, rfl, u1, q _ H1 s1 ⟨_, itd_enum, fun H2 k _ => d1.kp k⟩⟩
theorem Z.ei_enum (T : Tb X nl G) (j : Nat) (hG : G[j]? = some ("enumerate" : Str)) (hm : X.mg "enumerate" = none) (ha : Z.EvE X a fa) (h1 : notStar a = true := by rfl) : Z.EvI X (.Tuple elts x1 tp) (.Call (.Name "enumerate" p) [a] [] pos) (iEnum fa) :=
  ⟨D2.ei_enum T j hG hm ha.un h1⟩
end
end D2
set_option Elab.async false
set_option linter.all false
set_option maxRecDepth 100000
set_option maxHeartbeats 4000000
namespace D2
open PySem PySem.Spec PyProof.Rows L2
abbrev IsTri (h : Heap) (T : Addr) (a b c : Value) : Prop := h.get? T = some { cls := .type "tuple", data := .seq #[a, b, c] }
structure Z3 (h : Heap) (N l m o : Nat) (f0 : Value) (k : Nat) (xs ys zs : Array Value) : Prop where
  zz : IsZip h (N + 5) (N + 3) (N + 4) f0
  pp : IsTri h (N + 3) (.ref N) (.ref (N + 1)) (.ref (N + 2))
  qq : ∃ a b c, IsTri h (N + 4) a b c
  ii : ItS h N l k xs
  jj : ItS h (N + 1) m k ys
  kk : ItS h (N + 2) o k zs
theorem typeCall_zip_3 (a b c : Value) : checkTypeCall "zip" ⟨[a, b, c], []⟩ = pure () := by kernel_rfl
theorem newCall_zip_3 (a b c : Value) : checkBuiltinCall "zip.__new__" ⟨[.type "zip", a, b, c], []⟩ = pure () := by kernel_rfl
theorem args_object_init_4 (a b c d : Value) : argsOk "object.__init__" ⟨[a, b, c, d], []⟩ := by unfold argsOk; kernel_rfl
section
variable {prog : Program} {w : World} {A : Around} {E : Value → Shared → Prop} {s : Shared} {N l m o : Nat} {k : Nat} {xs ys zs : Array Value}
theorem updateSeq_tri {T : Addr} {a b c x : Value} {k : Nat} {Q : Unit → Shared → Prop} (hT : IsTri s.heap T a b c)
    (h : ∀ h', h'.get? T = some { cls := .type "tuple", data := .seq ((#[a, b, c] : Array Value).setIfInBounds k x) } → Heap.SameBut T s.heap h' → Q () { s with heap := h' }) :
    wpAny (model prog w) A (updateSeq T (·.setIfInBounds k x)) Q E s := by
  refine wpAny_updateSeq hT rfl (h _ ?_ (Heap.SameBut.update ..))
  rw [Heap.get?_update_self _ hT rfl]
  simp [Obj.mapSeq]
theorem zip3_item {x y v : Value} {Q : Value → Shared → Prop} (hl : l < N) (hm : m < N) (ho : o < N) (S : Z3 s.heap N l m o .none k xs ys zs) (hx : xs[k]? = some x) (hy : ys[k]? = some y) (hv : zs[k]? = some v)
    (hQ : ∀ h', Z3 h' N l m o (rawInt s.heap.objs.size) (k + 1) xs ys zs → IsTri h' s.heap.objs.size x y v → (∀ (c : Nat) o, c ≠ N + 5 → c ≠ N + 4 → c ≠ N → c ≠ N + 1 → c ≠ N + 2 → s.heap.get? c = some o → h'.get? c = some o) → Q (.ref s.heap.objs.size) { s with heap := h' }) :
    wpAny (model prog w) A (Builtin.«zip.__next__» ⟨[.ref (N + 5)], []⟩) (fun fin s' => ∃ v, fin = .done (.ret v) ∧ Q v s') E s := by
  obtain ⟨hz, hp, ⟨a, b, c, hq⟩, hi, hj, hk⟩ := S
  have n1 : ∀ {a b : Nat}, a ≠ b → (show Addr from a) ≠ (show Addr from b) := fun h => h
  show wpAny _ _ (field (Value.ref (N + 5)) 2 >>= _) _ _ _
  refine wpAny_bind (wpAny_field hz rfl (x := Value.bool false) rfl ?_)
  show wpAny _ _ (field (Value.ref (N + 5)) 3 >>= _) _ _ _
  refine wpAny_bind (wpAny_field hz rfl (x := Value.ref (N + 3)) rfl ?_)
  refine wpAny_bind (wpAny_seqItems hp rfl ?_)
  show wpAny _ _ (Builtin.SmallTypes.ownedTupleIsFree (Value.ref (N + 5)) >>= _) _ _ _
  refine wpAny_bind ?_
  unfold Builtin.SmallTypes.ownedTupleIsFree
  refine wpAny_bind (wpAny_field hz rfl (x := Value.none) rfl (wpAny_pure ?_))
  simp only [if_true]
  refine wpAny_bind (wpAny_rule ?_)
  refine wpAny_bind (wpAny_field hz rfl (x := Value.ref (N + 4)) rfl ?_)
  refine wpAny_bind (wpAny_setField_rec hz (by simp) fun g1 z1 s1 => ?_)
  replace z1 : IsZip g1 (N + 5) (N + 3) (N + 4) .ellipsis := z1
  refine wpAny_bind ?_
  simp only [List.zipIdx_cons, List.zipIdx_nil, List.forIn_cons, List.forIn_nil]
  refine wpAny_bind (wpAny_bind (wpAny_onRaise ?_))
  show wpAny _ _ (Builtin.SmallTypes.nextOf (Value.ref N) >>= _) _ _ _
  have hi1 : ItS g1 N l k xs := hi.keep (fun o e => s1.extBut _ _ (n1 (by omega)) e) fun o e => s1.extBut _ _ (n1 (by omega)) e
  refine wpAny_bind (nextS hi1 (n1 (by omega)) hx fun g2 i2 s2 => wpAny_pure ?_)
  have q2 : IsTri g2 (N + 4) a b c := s2.extBut _ _ (n1 (by omega)) (s1.extBut _ _ (n1 (by omega)) hq)
  refine wpAny_bind (wpAny_seqItems q2 rfl ?_)
  refine wpAny_bind (updateSeq_tri q2 fun g3 q3 s3 => ?_)
  replace q3 : IsTri g3 (N + 4) x b c := q3
  refine wpAny_bind (wpAny_letGo (wpAny_pure ?_))
  refine wpAny_bind (wpAny_bind (wpAny_onRaise ?_))
  show wpAny _ _ (Builtin.SmallTypes.nextOf (Value.ref (N + 1)) >>= _) _ _ _
  have hj3 : ItS g3 (N + 1) m k ys := hj.keep (fun o e => s3.extBut _ _ (n1 (by omega)) (s2.extBut _ _ (n1 (by omega)) (s1.extBut _ _ (n1 (by omega)) e))) fun o e => s3.extBut _ _ (n1 (by omega)) (s2.extBut _ _ (n1 (by omega)) (s1.extBut _ _ (n1 (by omega)) e))
  refine wpAny_bind (nextS hj3 (n1 (by omega)) hy fun g4 j4 s4 => wpAny_pure ?_)
  have q4 : IsTri g4 (N + 4) x b c := s4.extBut _ _ (n1 (by omega)) q3
  refine wpAny_bind (wpAny_seqItems q4 rfl ?_)
  refine wpAny_bind (updateSeq_tri q4 fun g5 q5 s5 => ?_)
  replace q5 : IsTri g5 (N + 4) x y c := q5
  refine wpAny_bind (wpAny_letGo (wpAny_pure ?_))
  refine wpAny_bind (wpAny_bind (wpAny_onRaise ?_))
  show wpAny _ _ (Builtin.SmallTypes.nextOf (Value.ref (N + 2)) >>= _) _ _ _
  have hk5 : ItS g5 (N + 2) o k zs := hk.keep (fun o e => s5.extBut _ _ (n1 (by omega)) (s4.extBut _ _ (n1 (by omega)) (s3.extBut _ _ (n1 (by omega)) (s2.extBut _ _ (n1 (by omega)) (s1.extBut _ _ (n1 (by omega)) e))))) fun o e => s5.extBut _ _ (n1 (by omega)) (s4.extBut _ _ (n1 (by omega)) (s3.extBut _ _ (n1 (by omega)) (s2.extBut _ _ (n1 (by omega)) (s1.extBut _ _ (n1 (by omega)) e))))
  refine wpAny_bind (nextS hk5 (n1 (by omega)) hv fun g6 k6 s6 => wpAny_pure ?_)
  have q6 : IsTri g6 (N + 4) x y c := s6.extBut _ _ (n1 (by omega)) q5
  refine wpAny_bind (wpAny_seqItems q6 rfl ?_)
  refine wpAny_bind (updateSeq_tri q6 fun g7 q7 s7 => ?_)
  replace q7 : IsTri g7 (N + 4) x y v := q7
  refine wpAny_bind (wpAny_letGo (wpAny_pure (wpAny_pure ?_)))
  refine wpAny_bind (wpAny_seqItems q7 rfl ?_)
  refine wpAny_bind (wpAny_newTuple ?_)
  have hsz : g7.objs.size = s.heap.objs.size := by rw [s7.1, s6.1, s5.1, s4.1, s3.1, s2.1, s1.1]
  have z7 : IsZip g7 (N + 5) (N + 3) (N + 4) .ellipsis := s7.extBut _ _ (n1 (by omega)) (s6.extBut _ _ (n1 (by omega)) (s5.extBut _ _ (n1 (by omega)) (s4.extBut _ _ (n1 (by omega)) (s3.extBut _ _ (n1 (by omega)) (s2.extBut _ _ (n1 (by omega)) z1)))))
  have k7 : ∀ (c : Nat) o, c ≠ N + 5 → c ≠ N + 4 → c ≠ N → c ≠ N + 1 → c ≠ N + 2 → s.heap.get? c = some o → g7.get? c = some o := fun c o c1 c2 c3 c4 c5 e => s7.extBut _ _ (n1 c2) (s6.extBut _ _ (n1 c5) (s5.extBut _ _ (n1 c2) (s4.extBut _ _ (n1 c4) (s3.extBut _ _ (n1 c2) (s2.extBut _ _ (n1 c3) (s1.extBut _ _ (n1 c1) e))))))
  have i7 : ItS g7 N l (k + 1) xs := i2.keep (fun o e => s7.extBut _ _ (n1 (by omega)) (s6.extBut _ _ (n1 (by omega)) (s5.extBut _ _ (n1 (by omega)) (s4.extBut _ _ (n1 (by omega)) (s3.extBut _ _ (n1 (by omega)) e))))) fun o e => s7.extBut _ _ (n1 (by omega)) (s6.extBut _ _ (n1 (by omega)) (s5.extBut _ _ (n1 (by omega)) (s4.extBut _ _ (n1 (by omega)) (s3.extBut _ _ (n1 (by omega)) e))))
  have j7 : ItS g7 (N + 1) m (k + 1) ys := j4.keep (fun o e => s7.extBut _ _ (n1 (by omega)) (s6.extBut _ _ (n1 (by omega)) (s5.extBut _ _ (n1 (by omega)) e))) fun o e => s7.extBut _ _ (n1 (by omega)) (s6.extBut _ _ (n1 (by omega)) (s5.extBut _ _ (n1 (by omega)) e))
  have l7 : ItS g7 (N + 2) o (k + 1) zs := k6.keep (fun o e => s7.extBut _ _ (n1 (by omega)) e) fun o e => s7.extBut _ _ (n1 (by omega)) e
  have zlt : N + 5 < g7.objs.size := Heap.lt_size z7
  show wpAny _ _ (Builtin.SmallTypes.ownedTupleHandOut (Value.ref (N + 5)) (Value.ref g7.objs.size) >>= _) _ _ _
  refine wpAny_bind ?_
  unfold Builtin.SmallTypes.ownedTupleHandOut
  have z8 : IsZip (g7.push { cls := .type "tuple", data := .seq #[x, y, v] }) (N + 5) (N + 3) (N + 4) .ellipsis := Heap.get?_push_of_some _ z7
  refine wpAny_bind (wpAny_setField_rec z8 (by simp) fun g9 z9 s9 => ?_)
  replace z9 : IsZip g9 (N + 5) (N + 3) (N + 4) (rawInt g7.objs.size) := z9
  refine wpAny_setField_rec z9 (by simp) fun g10 z10 s10 => ?_
  replace z10 : IsZip g10 (N + 5) (N + 3) (N + 4) (rawInt g7.objs.size) := z10
  have up : ∀ (c : Nat) o, c ≠ N + 5 → g7.get? c = some o → g10.get? c = some o := fun c o c1 e => s10.extBut _ _ (n1 c1) (s9.extBut _ _ (n1 c1) (Heap.get?_push_of_some _ e))
  have t10 : IsTri g10 g7.objs.size x y v := s10.extBut _ _ (Nat.ne_of_gt zlt) (s9.extBut _ _ (Nat.ne_of_gt zlt) (Heap.get?_push_size _ rfl))
  rw [hsz] at z10 t10
  refine wpAny_pure ⟨_, rfl, ?_⟩
  show Q (.ref g7.objs.size) _
  rw [hsz]
  exact hQ g10 ⟨z10, up _ _ (by omega) (k7 _ _ (by omega) (by omega) (by omega) (by omega) (by omega) hp), ⟨x, y, v, up _ _ (by omega) q7⟩, i7.keep (fun o e => up _ _ (by omega) e) fun o e => up _ _ (by omega) e, j7.keep (fun o e => up _ _ (by omega) e) fun o e => up _ _ (by omega) e,
    l7.keep (fun o e => up _ _ (by omega) e) fun o e => up _ _ (by omega) e⟩ t10 fun c o c1 c2 c3 c4 c5 e => up c o c1 (k7 c o c1 c2 c3 c4 c5 e)
theorem zip3_end {Q : PySem.Fin → Shared → Prop} (hh : A.handled = none) (hl : l < N) (hm : m < N) (ho : o < N) (S : Z3 s.heap N l m o .none k xs ys zs) (hend : xs[k]? = none ∨ ys[k]? = none ∨ zs[k]? = none)
    (hE : ∀ h' e, (∀ (c : Nat) o, c ≠ N + 5 → c ≠ N + 4 → c ≠ N → c ≠ N + 1 → c ≠ N + 2 → s.heap.get? c = some o → h'.get? c = some o) → (∃ o, h'.get? e = some o ∧ o.cls = .type "StopIteration") → E (.ref e) { s with heap := h' }) :
    wpAny (model prog w) A (Builtin.«zip.__next__» ⟨[.ref (N + 5)], []⟩) Q E s := by
  obtain ⟨hz, hp, ⟨a, b, c, hq⟩, hi, hj, hk⟩ := S
  have n1 : ∀ {a b : Nat}, a ≠ b → (show Addr from a) ≠ (show Addr from b) := fun h => h
  show wpAny _ _ (field (Value.ref (N + 5)) 2 >>= _) _ _ _
  refine wpAny_bind (wpAny_field hz rfl (x := Value.bool false) rfl ?_)
  show wpAny _ _ (field (Value.ref (N + 5)) 3 >>= _) _ _ _
  refine wpAny_bind (wpAny_field hz rfl (x := Value.ref (N + 3)) rfl ?_)
  refine wpAny_bind (wpAny_seqItems hp rfl ?_)
  show wpAny _ _ (Builtin.SmallTypes.ownedTupleIsFree (Value.ref (N + 5)) >>= _) _ _ _
  refine wpAny_bind ?_
  unfold Builtin.SmallTypes.ownedTupleIsFree
  refine wpAny_bind (wpAny_field hz rfl (x := Value.none) rfl (wpAny_pure ?_))
  simp only [if_true]
  refine wpAny_bind (wpAny_rule ?_)
  refine wpAny_bind (wpAny_field hz rfl (x := Value.ref (N + 4)) rfl ?_)
  refine wpAny_bind (wpAny_setField_rec hz (by simp) fun g1 z1 s1 => ?_)
  replace z1 : IsZip g1 (N + 5) (N + 3) (N + 4) .ellipsis := z1
  refine wpAny_bind ?_
  simp only [List.zipIdx_cons, List.zipIdx_nil, List.forIn_cons, List.forIn_nil]
  refine wpAny_bind (wpAny_bind (wpAny_onRaise ?_))
  show wpAny _ _ (Builtin.SmallTypes.nextOf (Value.ref N) >>= _) _ _ _
  have hi1 : ItS g1 N l k xs := hi.keep (fun o e => s1.extBut _ _ (n1 (by omega)) e) fun o e => s1.extBut _ _ (n1 (by omega)) e
  cases hx : xs[k]? with
  | none =>
    refine wpAny_bind (nextS_end hh hi1 hx fun g2 e s2 he => ?_)
    obtain ⟨oe, hoe, hce⟩ := he
    have z2 : IsZip g2 (N + 5) (N + 3) (N + 4) .ellipsis := s2 _ _ (n1 (by omega)) z1
    have hez : e ≠ (N + 5 : Nat) := fun t => by subst t; rw [z2] at hoe; cases hoe; simp at hce
    exact wpAny_setField_rec z2 (by simp) fun g3 _ s3 => hE g3 e (fun c o c1 _ c3 _ _ t => s3.extBut _ _ (n1 c1) (s2 _ _ (n1 c3) (s1.extBut _ _ (n1 c1) t))) ⟨oe, s3.extBut _ _ hez hoe, hce⟩
  | some x =>
    refine wpAny_bind (nextS hi1 (n1 (by omega)) hx fun g2 i2 s2 => wpAny_pure ?_)
    have q2 : IsTri g2 (N + 4) a b c := s2.extBut _ _ (n1 (by omega)) (s1.extBut _ _ (n1 (by omega)) hq)
    refine wpAny_bind (wpAny_seqItems q2 rfl ?_)
    refine wpAny_bind (updateSeq_tri q2 fun g3 q3 s3 => ?_)
    replace q3 : IsTri g3 (N + 4) x b c := q3
    refine wpAny_bind (wpAny_letGo (wpAny_pure ?_))
    refine wpAny_bind (wpAny_bind (wpAny_onRaise ?_))
    show wpAny _ _ (Builtin.SmallTypes.nextOf (Value.ref (N + 1)) >>= _) _ _ _
    have hj3 : ItS g3 (N + 1) m k ys := hj.keep (fun o e => s3.extBut _ _ (n1 (by omega)) (s2.extBut _ _ (n1 (by omega)) (s1.extBut _ _ (n1 (by omega)) e))) fun o e => s3.extBut _ _ (n1 (by omega)) (s2.extBut _ _ (n1 (by omega)) (s1.extBut _ _ (n1 (by omega)) e))
    have z3 : IsZip g3 (N + 5) (N + 3) (N + 4) .ellipsis := s3.extBut _ _ (n1 (by omega)) (s2.extBut _ _ (n1 (by omega)) z1)
    have k3 : ∀ (c : Nat) o, c ≠ N + 5 → c ≠ N + 4 → c ≠ N → s.heap.get? c = some o → g3.get? c = some o := fun c o c1 c2 c3 t => s3.extBut _ _ (n1 c2) (s2.extBut _ _ (n1 c3) (s1.extBut _ _ (n1 c1) t))
    cases hy : ys[k]? with
    | none =>
      refine wpAny_bind (nextS_end hh hj3 hy fun g4 e s4 he => ?_)
      obtain ⟨oe, hoe, hce⟩ := he
      have z4 : IsZip g4 (N + 5) (N + 3) (N + 4) .ellipsis := s4 _ _ (n1 (by omega)) z3
      have hez : e ≠ (N + 5 : Nat) := fun t => by subst t; rw [z4] at hoe; cases hoe; simp at hce
      exact wpAny_setField_rec z4 (by simp) fun g5 _ s5 => hE g5 e (fun c o c1 c2 c3 c4 _ t => s5.extBut _ _ (n1 c1) (s4 _ _ (n1 c4) (k3 c o c1 c2 c3 t))) ⟨oe, s5.extBut _ _ hez hoe, hce⟩
    | some y =>
      have hv : zs[k]? = none := by
        rcases hend with t | t | t
        · rw [hx] at t; cases t
        · rw [hy] at t; cases t
        · exact t
      refine wpAny_bind (nextS hj3 (n1 (by omega)) hy fun g4 j4 s4 => wpAny_pure ?_)
      have q4 : IsTri g4 (N + 4) x b c := s4.extBut _ _ (n1 (by omega)) q3
      refine wpAny_bind (wpAny_seqItems q4 rfl ?_)
      refine wpAny_bind (updateSeq_tri q4 fun g5 q5 s5 => ?_)
      refine wpAny_bind (wpAny_letGo (wpAny_pure ?_))
      refine wpAny_bind (wpAny_bind (wpAny_onRaise ?_))
      show wpAny _ _ (Builtin.SmallTypes.nextOf (Value.ref (N + 2)) >>= _) _ _ _
      have hk5 : ItS g5 (N + 2) o k zs := hk.keep (fun o e => s5.extBut _ _ (n1 (by omega)) (s4.extBut _ _ (n1 (by omega)) (k3 _ o (by omega) (by omega) (by omega) e))) fun o e => s5.extBut _ _ (n1 (by omega)) (s4.extBut _ _ (n1 (by omega)) (k3 _ o (by omega) (by omega) (by omega) e))
      refine wpAny_bind (nextS_end hh hk5 hv fun g6 e s6 he => ?_)
      obtain ⟨oe, hoe, hce⟩ := he
      have z6 : IsZip g6 (N + 5) (N + 3) (N + 4) .ellipsis := s6 _ _ (n1 (by omega)) (s5.extBut _ _ (n1 (by omega)) (s4.extBut _ _ (n1 (by omega)) z3))
      have hez : e ≠ (N + 5 : Nat) := fun t => by subst t; rw [z6] at hoe; cases hoe; simp at hce
      exact wpAny_setField_rec z6 (by simp) fun g7 _ s7 => hE g7 e (fun c o c1 c2 c3 c4 c5 t => s7.extBut _ _ (n1 c1) (s6 _ _ (n1 c5) (s5.extBut _ _ (n1 c2) (s4.extBut _ _ (n1 c4) (k3 c o c1 c2 c3 t))))) ⟨oe, s7.extBut _ _ hez hoe, hce⟩
theorem zip3_pyNext {x y v : Value} {Q : Option Value → Shared → Prop} (hl : l < N) (hm : m < N) (ho : o < N) (S : Z3 s.heap N l m o .none k xs ys zs) (hx : xs[k]? = some x) (hy : ys[k]? = some y) (hv : zs[k]? = some v)
    (hQ : ∀ h', Z3 h' N l m o (rawInt s.heap.objs.size) (k + 1) xs ys zs → IsTri h' s.heap.objs.size x y v → (∀ (c : Nat) o, c ≠ N + 5 → c ≠ N + 4 → c ≠ N → c ≠ N + 1 → c ≠ N + 2 → s.heap.get? c = some o → h'.get? c = some o) → Q (some (.ref s.heap.objs.size)) { s with heap := h' }) :
    wpAny (model prog w) A (pyNext (.ref (N + 5))) Q E s := by
  have hT : s.TypeIs (.ref (N + 5)) "zip" := ⟨_, S.zz, rfl⟩
  unfold pyNext
  exact wpAny_bind (wpAny_attempt (wpAny_callSpecial?_slot (name := Str.ofString "__next__") hT F.slot_zip_next (wpAny_call_entry F.slot_zip_next hT F.entry_zip_next (zip3_item hl hm ho S hx hy hv fun h' a b c => wpAny_pure (hQ h' a b c)) (F.args_zip_next_1 _))))
theorem zip3_pyEnd {Q : Option Value → Shared → Prop} (hh : A.handled = none) (hl : l < N) (hm : m < N) (ho : o < N) (S : Z3 s.heap N l m o .none k xs ys zs) (hend : xs[k]? = none ∨ ys[k]? = none ∨ zs[k]? = none)
    (hQ : ∀ h', (∀ (c : Nat) o, c ≠ N + 5 → c ≠ N + 4 → c ≠ N → c ≠ N + 1 → c ≠ N + 2 → s.heap.get? c = some o → h'.get? c = some o) → Q none { s with heap := h' }) : wpAny (model prog w) A (pyNext (.ref (N + 5))) Q E s := by
  have hT : s.TypeIs (.ref (N + 5)) "zip" := ⟨_, S.zz, rfl⟩
  unfold pyNext
  refine wpAny_bind (wpAny_attempt (wpAny_callSpecial?_slot (name := Str.ofString "__next__") hT F.slot_zip_next (wpAny_call_entry F.slot_zip_next hT F.entry_zip_next (zip3_end hh hl hm ho S hend fun h' e hk he => ?_) (F.args_zip_next_1 _))))
  obtain ⟨o, ho, hc⟩ := he
  exact wpAny_bind (wpAny_isInstance (T := "StopIteration") (b := true) ⟨o, ho, hc⟩ isSubtype_stop (wpAny_pure (hQ _ hk)))
theorem zip3_new (l m o : Addr) (xs ys zs : Array Value) : Meets (Builtin.«zip.__new__» ⟨[.type "zip", .ref l, .ref m, .ref o], []⟩) (fun _ R s => s.heap.IsTuple l xs ∧ s.heap.IsTuple m ys ∧ s.heap.IsTuple o zs ∧
    ∀ h', h'.objs.size = s.heap.objs.size + 6 → Z3 h' s.heap.objs.size l m o .none 0 xs ys zs → (∀ c o, s.heap.get? c = some o → h'.get? c = some o) →
      R (.ok (.ret (.ref (s.heap.objs.size + 5)))) { s with heap := h' }) :=
  .of_wp fun prog w A R s h => by
    obtain ⟨hp, g, d, tk, os⟩ := s; obtain ⟨h1, h2, h3, h⟩ := h
    have hsub := sub_zip
    have l1 : Heap.IsTuple (Shared.heap ⟨hp, g, d, tk, os⟩) l xs := h1
    have l2 : Heap.IsTuple (Shared.heap ⟨hp.push { cls := .type "tuple_iterator", data := .fields #[.ref l, .int 0 0] }, g, d, tk, os⟩) m ys := Heap.IsTuple.push h2 _
    have l3 : Heap.IsTuple (Shared.heap ⟨(hp.push { cls := .type "tuple_iterator", data := .fields #[.ref l, .int 0 0] }).push { cls := .type "tuple_iterator", data := .fields #[.ref m, .int 0 0] }, g, d, tk, os⟩) o zs := Heap.IsTuple.push (Heap.IsTuple.push h3 _) _
    have fin : ∀ (oi oj ok : Obj), ItS (hp.push oi) hp.objs.size l 0 xs → ItS ((hp.push oi).push oj) (hp.push oi).objs.size m 0 ys → ItS (((hp.push oi).push oj).push ok) ((hp.push oi).push oj).objs.size o 0 zs →
        R (.ok (.ret (.ref (((((hp.push oi).push oj).push ok).push { cls := .type "tuple", data := .seq #[.ref hp.objs.size, .ref (hp.push oi).objs.size, .ref ((hp.push oi).push oj).objs.size] }).push { cls := .type "tuple", data := .seq #[.none, .none, .none] }).objs.size)))
          ⟨(((((hp.push oi).push oj).push ok).push { cls := .type "tuple", data := .seq #[.ref hp.objs.size, .ref (hp.push oi).objs.size, .ref ((hp.push oi).push oj).objs.size] }).push { cls := .type "tuple", data := .seq #[.none, .none, .none] }).push { cls := .type "zip", data := .fields #[.none, .bool false, .bool false, .ref (((hp.push oi).push oj).push ok).objs.size, .ref ((((hp.push oi).push oj).push ok).push { cls := .type "tuple", data := .seq #[.ref hp.objs.size, .ref (hp.push oi).objs.size, .ref ((hp.push oi).push oj).objs.size] }).objs.size] }, g, d, tk, os⟩ := fun oi oj ok hi hj hk => by
      have e1 : (hp.push oi).objs.size = hp.objs.size + 1 := Heap.size_push ..
      have e2 : ((hp.push oi).push oj).objs.size = hp.objs.size + 2 := by rw [Heap.size_push, e1]
      rw [e2] at hk ⊢
      rw [e1] at hj ⊢
      generalize hT : ({ cls := .type "tuple", data := .seq #[.ref hp.objs.size, .ref (hp.objs.size + 1), .ref (hp.objs.size + 2)] } : Obj) = T
      have e3 : (((hp.push oi).push oj).push ok).objs.size = hp.objs.size + 3 := by rw [Heap.size_push, e2]
      have e4 : ((((hp.push oi).push oj).push ok).push T).objs.size = hp.objs.size + 4 := by rw [Heap.size_push, e3]
      have e5 : (((((hp.push oi).push oj).push ok).push T).push { cls := .type "tuple", data := .seq #[.none, .none, .none] }).objs.size = hp.objs.size + 5 := by rw [Heap.size_push, e4]
      rw [e5, e4, e3]
      have kk : ∀ (c : Addr) (o' a b c' : Obj), (((hp.push oi).push oj).push ok).get? c = some o' → ((((((hp.push oi).push oj).push ok).push a).push b).push c').get? c = some o' := fun c o' a b c' e => Heap.get?_push_of_some _ (Heap.get?_push_of_some _ (Heap.get?_push_of_some _ e))
      refine h _ (by rw [Heap.size_push, e5]) ⟨?_, ?_, ⟨.none, .none, .none, ?_⟩, ?_, ?_, ?_⟩ fun c o' e => kk _ _ _ _ _ (Heap.get?_push_of_some _ (Heap.get?_push_of_some _ (Heap.get?_push_of_some _ e)))
      · show Heap.get? _ (hp.objs.size + 5) = _
        rw [← e5]
        exact Heap.get?_push_size _ rfl
      · refine Heap.get?_push_of_some _ (Heap.get?_push_of_some _ ?_)
        show Heap.get? _ (hp.objs.size + 3) = _
        rw [← e3, hT]
        exact Heap.get?_push_size _ (by rw [← hT]; rfl)
      · refine Heap.get?_push_of_some _ ?_
        show Heap.get? _ (hp.objs.size + 4) = _
        rw [← e4]
        exact Heap.get?_push_size _ rfl
      · exact hi.keep (fun o' e => kk _ _ _ _ _ (Heap.get?_push_of_some _ (Heap.get?_push_of_some _ e))) fun o' e => kk _ _ _ _ _ (Heap.get?_push_of_some _ (Heap.get?_push_of_some _ e))
      · exact hj.keep (fun o' e => kk _ _ _ _ _ (Heap.get?_push_of_some _ e)) fun o' e => kk _ _ _ _ _ (Heap.get?_push_of_some _ e)
      · exact hk.keep (fun o' e => kk _ _ _ _ _ e) fun o' e => kk _ _ _ _ _ e
    wp_walk using wpAny_pyIter_tuple l1, wpAny_pyIter_tuple l2, wpAny_pyIter_tuple l3
    exact ⟨_, rfl, fin _ _ _ (.inr ⟨⟨_, Heap.get?_push_size _ rfl, rfl, rfl⟩, Heap.IsTuple.push h1 _⟩) (.inr ⟨⟨_, Heap.get?_push_size _ rfl, rfl, rfl⟩, Heap.IsTuple.push l2 _⟩) (.inr ⟨⟨_, Heap.get?_push_size _ rfl, rfl, rfl⟩, Heap.IsTuple.push l3 _⟩)⟩
theorem call_zip3 {Q : Value → Shared → Prop} {l m o : Addr} (h1 : s.heap.IsTuple l xs) (h2 : s.heap.IsTuple m ys) (h3 : s.heap.IsTuple o zs)
    (h : ∀ h', h'.objs.size = s.heap.objs.size + 6 → Z3 h' s.heap.objs.size l m o .none 0 xs ys zs → (∀ c o, s.heap.get? c = some o → h'.get? c = some o) → Q (.ref (s.heap.objs.size + 5)) { s with heap := h' }) : wpAny (model prog w) A (call (.type "zip") [.ref l, .ref m, .ref o]) Q E s := by
  refine callType_new F.called_zip (by decide) (typeCall_zip_3 _ _ _) (newCall_zip_3 _ _ _) (fun obj => args_object_init_4 obj _ _ _) F.entry_zip_new (zip3_new l m o xs ys zs) ⟨h1, h2, h3, fun h' e S k => ?_⟩
  exact ⟨⟨_, S.zz, rfl⟩, h h' e S k⟩
end
end D2
set_option Elab.async false
set_option linter.all false
set_option maxRecDepth 100000
set_option maxHeartbeats 4000000
namespace D2
open PySem PySem.Spec PyProof.Rows L2
section
variable {X : Cx} {pins : List (Addr × Obj)} {σ : St} {H : Hp} {s : Shared} {h' : Heap}
theorem inv_out3 {t' : Nat} {fp : List Addr} {u1 u2 u3 : Value} {v1 v2 v3 : V} (I : Inv X pins σ H s) (hf : ∀ b ∈ fp, FpOk X pins H b) (hob : ∀ b ∈ fp, b < s.heap.objs.size) (ht : IsTri h' s.heap.objs.size u1 u2 u3) (k : ∀ b o, b ∉ fp → s.heap.get? b = some o → h'.get? b = some o)
    (r1 : RelV v1 u1) (r2 : RelV v2 u2) (r3 : RelV v3 u3) : Inv X pins σ (upd H s.heap.objs.size (.tup [v1, v2, v3])) { s with heap := h', toks := t' } := by
  have I1 : Inv X pins σ (upd H s.heap.objs.size (.tup [v1, v2, v3])) { s with heap := s.heap.push { cls := .type "tuple", data := .seq #[u1, u2, u3] }, toks := s.toks } :=
    I.laid (fun b u e => Heap.get?_push_of_some _ e) (Nat.le_refl _) ⟨by show 3 ≤ sizeLine; decide, [u1, u2, u3], .cons r1 (.cons r2 (.cons r3 .nil)), _, Heap.get?_push_size _ rfl, rfl, _, rfl⟩
  refine inv_turnedS (fp := fp) (s := { s with heap := s.heap.push { cls := .type "tuple", data := .seq #[u1, u2, u3] }, toks := s.toks }) I1 (fun b o hb e => ?_) fun b hb => ?_
  · by_cases hz : b = s.heap.objs.size
    · subst hz
      have e' : (s.heap.push { cls := .type "tuple", data := .seq #[u1, u2, u3] }).get? s.heap.objs.size = some o := e
      rw [Heap.get?_push_size _ rfl] at e'
      cases e'
      exact ht
    · exact k b o hb (push_old hz e)
  · obtain ⟨f0, f1, f2, f3, f4, f5⟩ := hf b hb
    exact ⟨by rw [upd_ne (Nat.ne_of_lt (hob b hb))]; exact f0, f1, f2, f3, f4, f5⟩
end
def ItZ3 (K : PySem.W.Frag) (l m o : Addr) : It :=
  ⟨fun i H => ∃ xs ys zs x y z, SqT K H l xs ∧ SqT K H m ys ∧ SqT K H o zs ∧ xs[i]? = some x ∧ ys[i]? = some y ∧ zs[i]? = some z,
   fun i H v H' => ∃ a x y z, H a = none ∧ v = .ref a ∧ H' = upd H a (.tup [x, y, z]) ∧ (∀ xs, SqT K H l xs → xs[i]? = some x) ∧ (∀ ys, SqT K H m ys → ys[i]? = some y) ∧ ∀ zs, SqT K H o zs → zs[i]? = some z,
   fun i H => ∃ xs ys zs, SqT K H l xs ∧ SqT K H m ys ∧ SqT K H o zs ∧ (xs.length ≤ i ∨ ys.length ≤ i ∨ zs.length ≤ i)⟩
structure Z3Tn (N l m o : Nat) (k : Nat) (h : Heap) : Prop where
  zz : IsZip h (N + 5) (N + 3) (N + 4) .none
  pp : IsTri h (N + 3) (.ref N) (.ref (N + 1)) (.ref (N + 2))
  qq : ∃ a b c, IsTri h (N + 4) a b c
  ii : h.IsTupleIter N l k
  jj : h.IsTupleIter (N + 1) m k
  kk : h.IsTupleIter (N + 2) o k
theorem tupIter_of {h : Heap} {i l : Addr} {k : Nat} {xs ys : Array Value} (x : ItS h i l k xs) (t : h.IsTuple l ys) : h.IsTupleIter i l k := by
  rcases x with ⟨z, w⟩ | ⟨z, w⟩
  · exact (list_tuple w t).elim
  · exact z
theorem tupIter_keep {h h' : Heap} {i l : Addr} {k : Nat} (x : h.IsTupleIter i l k) (hi : ∀ o, h.get? i = some o → h'.get? i = some o) : h'.IsTupleIter i l k := by
  obtain ⟨o, e, r⟩ := x; exact ⟨o, hi _ e, r⟩
theorem tupIter_there {h : Heap} {i l : Addr} {k : Nat} (x : h.IsTupleIter i l k) : ∃ o, h.get? i = some o ∧ ∀ v, o.data ≠ .cell v := by
  obtain ⟨o, e, c, d⟩ := x; exact ⟨o, e, fun v z => by rw [d] at z; cases z⟩
abbrev fp3 (N : Nat) : List Addr := [N + 5, N + 3, N + 4, N, N + 1, N + 2]
theorem turn_zip3 {P : Program} {w : World} {K : PySem.W.Frag} {elts : List Expr} {x1} {pos : Pos} {N l m o : Nat} (hl : l < N) (hm : m < N) (ho : o < N) : Turn P w K (.Tuple elts x1 pos) (ItZ3 K l m o) (fp3 N) (N + 5) (Z3Tn N l m o) where
  mem := by simp
  obj := fun k h st a ha => by
    simp only [fp3, List.mem_cons, List.not_mem_nil, or_false] at ha
    rcases ha with rfl | rfl | rfl | rfl | rfl | rfl
    · exact ⟨_, st.zz, fun v e => by cases e⟩
    · exact ⟨_, st.pp, fun v e => by cases e⟩
    · obtain ⟨_, _, _, e⟩ := st.qq; exact ⟨_, e, fun v e => by cases e⟩
    · exact tupIter_there st.ii
    · exact tupIter_there st.jj
    · exact tupIter_there st.kk
  keep := fun k h h' st kp => ⟨kp (N + 5) (by simp) _ st.zz, kp (N + 3) (by simp) _ st.pp, let ⟨a, b, c, e⟩ := st.qq; ⟨a, b, c, kp (N + 4) (by simp) _ e⟩, tupIter_keep st.ii fun o e => kp N (by simp) o e, tupIter_keep st.jj fun o e => kp (N + 1) (by simp) o e, tupIter_keep st.kk fun o e => kp (N + 2) (by simp) o e⟩
  item := by
    intro X hP hw hK hc k pins s σ H E I hf st hg
    subst hP hw hK
    obtain ⟨xs, ys, zs, x, y, z, h1, h2, h3, hx, hy, hz⟩ := hg
    obtain ⟨its, rv, t1, _⟩ := I.tuple h1
    obtain ⟨jts, rw', t2, _⟩ := I.tuple h2
    obtain ⟨kts, rz', t3, _⟩ := I.tuple h3
    obtain ⟨u, hu, ru⟩ := rv.get hx
    obtain ⟨v, hv, ry⟩ := rw'.get hy
    obtain ⟨q, hq, rq⟩ := rz'.get hz
    have S : Z3 s.heap N l m o .none k its.toArray jts.toArray kts.toArray := ⟨st.zz, st.pp, st.qq, .inr ⟨st.ii, t1⟩, .inr ⟨st.jj, t2⟩, .inr ⟨st.kk, t3⟩⟩
    refine zip3_pyNext hl hm ho S (x := u) (y := v) (v := q) (by simpa using hu) (by simpa using hv) (by simpa using hq) fun h' S' hp kp => ⟨_, rfl, ?_⟩
    have zlt : N + 5 < s.heap.objs.size := Heap.lt_size st.zz
    refine wpAny_letOwnedTupleGo_zip (s := { s with heap := h' }) S'.zz fun h2' hz2 sb => ?_
    have up : ∀ (a : Nat) o, a ≠ N + 5 → h'.get? a = some o → h2'.get? a = some o := fun a o ha e => sb.extBut a o ha e
    have hob : ∀ a ∈ fp3 N, a < s.heap.objs.size := fun a ha => by
      have : ∃ j : Nat, a = N + j ∧ j ≤ 5 := by
        simp only [fp3, List.mem_cons, List.not_mem_nil, or_false] at ha
        rcases ha with rfl | rfl | rfl | rfl | rfl | rfl
        · exact ⟨5, rfl, by omega⟩
        · exact ⟨3, rfl, by omega⟩
        · exact ⟨4, rfl, by omega⟩
        · exact ⟨0, rfl, by omega⟩
        · exact ⟨1, rfl, by omega⟩
        · exact ⟨2, rfl, by omega⟩
      obtain ⟨j, rfl, hj⟩ := this
      exact Nat.lt_of_le_of_lt (Nat.add_le_add_left hj N) zlt
    have hn : H s.heap.objs.size = none := I.hok.fresh (Nat.le_refl _)
    have kq : ∀ (a : Nat) o, a < N → s.heap.get? a = some o → h'.get? a = some o := fun a o ha e => kp a o (by omega) (by omega) (by omega) (by omega) (by omega) e
    refine ⟨.ref s.heap.objs.size, _, inv_out3 (s := s) (t' := s.toks) (fp := fp3 N) (h' := h2') (u1 := u) (u2 := v) (u3 := q) (v1 := x) (v2 := y) (v3 := z) I hf hob (up _ _ (Nat.ne_of_gt zlt) hp) (fun a o ha e => ?_) ru ry rq, rfl, ⟨_, x, y, z, hn, rfl, rfl, fun zs hz => by rw [I.tuple_inj hz h1]; exact hx, fun zs hz => by rw [I.tuple_inj hz h2]; exact hy, fun zs hz' => by rw [I.tuple_inj hz' h3]; exact hz⟩, ?_, fun a ha => ?_⟩
    · simp only [fp3, List.mem_cons, List.not_mem_nil, or_false, not_or] at ha
      exact up a o ha.1 (kp a o ha.1 ha.2.2.1 ha.2.2.2.1 ha.2.2.2.2.1 ha.2.2.2.2.2 e)
    · have i2 : h'.IsTupleIter N l (k + 1) := tupIter_of S'.ii (ys := its.toArray) (by obtain ⟨o, e, r⟩ := t1; exact ⟨o, kq _ _ hl e, r⟩)
      have j2 : h'.IsTupleIter (N + 1) m (k + 1) := tupIter_of S'.jj (ys := jts.toArray) (by obtain ⟨o, e, r⟩ := t2; exact ⟨o, kq _ _ hm e, r⟩)
      have k2 : h'.IsTupleIter (N + 2) o (k + 1) := tupIter_of S'.kk (ys := kts.toArray) (by obtain ⟨o, e, r⟩ := t3; exact ⟨o, kq _ _ ho e, r⟩)
      exact ⟨hz2, up _ _ (by omega) S'.pp, let ⟨a, b, c, e⟩ := S'.qq; ⟨a, b, c, up _ _ (by omega) e⟩, tupIter_keep i2 fun o e => up _ _ (by omega) e, tupIter_keep j2 fun o e => up _ _ (by omega) e, tupIter_keep k2 fun o e => up _ _ (by omega) e⟩
    · rw [upd_ne (Nat.ne_of_lt (hob a ha))]; exact (hf a ha).1
  done := by
    intro X hP hw hK hc k pins s σ H E I hf st hg
    subst hP hw hK
    obtain ⟨xs, ys, zs, h1, h2, h3, hle⟩ := hg
    obtain ⟨its, rv, t1, _⟩ := I.tuple h1
    obtain ⟨jts, rw', t2, _⟩ := I.tuple h2
    obtain ⟨kts, rz', t3, _⟩ := I.tuple h3
    have S : Z3 s.heap N l m o .none k its.toArray jts.toArray kts.toArray := ⟨st.zz, st.pp, st.qq, .inr ⟨st.ii, t1⟩, .inr ⟨st.jj, t2⟩, .inr ⟨st.kk, t3⟩⟩
    have e1 := rv.length
    have e2 := rw'.length
    have e3 := rz'.length
    refine zip3_pyEnd (I.ok.hd hc) hl hm ho S ?_ fun h' kp => ⟨rfl, inv_turnedS (t' := s.toks) (fp := fp3 N) I (fun a o ha e => ?_) hf⟩
    · rcases hle with z | z | z
      · left; simp; omega
      · right; left; simp; omega
      · right; right; simp; omega
    · simp only [fp3, List.mem_cons, List.not_mem_nil, or_false, not_or] at ha
      exact kp a o ha.1 ha.2.2.1 ha.2.2.2.1 ha.2.2.2.2.1 ha.2.2.2.2.2 e
  self := fun _ _ _ _ _ st h => wpAny_pyIter_zip st.zz h
def zip3D : List PyData → List PyData → List PyData → List PyData
  | x :: xs, y :: ys, z :: zs => .tuple [x, y, z] :: zip3D xs ys zs
  | _, _, _ => []
theorem zip3D_get : ∀ {xs ys zs : List PyData} {i : Nat} {d : PyData}, (zip3D xs ys zs)[i]? = some d → ∃ x y z, xs[i]? = some x ∧ ys[i]? = some y ∧ zs[i]? = some z ∧ d = .tuple [x, y, z]
  | x :: xs, y :: ys, z :: zs, 0, d, h => by
    simp only [zip3D, List.getElem?_cons_zero] at h
    cases h
    exact ⟨x, y, z, rfl, rfl, rfl, rfl⟩
  | x :: xs, y :: ys, z :: zs, i + 1, d, h => by
    simp only [zip3D, List.getElem?_cons_succ] at h
    obtain ⟨a, b, c, h1, h2, h3, h4⟩ := zip3D_get h
    exact ⟨a, b, c, by simpa using h1, by simpa using h2, by simpa using h3, h4⟩
  | [], _, _, i, d, h => by simp [zip3D] at h
  | _ :: _, [], _, i, d, h => by simp [zip3D] at h
  | _ :: _, _ :: _, [], i, d, h => by simp [zip3D] at h
theorem zip3D_len : ∀ (xs ys zs : List PyData), (zip3D xs ys zs).length = min xs.length (min ys.length zs.length)
  | x :: xs, y :: ys, z :: zs => by simp only [zip3D, List.length_cons, zip3D_len xs ys zs]; omega
  | [], _, _ => by simp [zip3D]
  | _ :: _, [], _ => by simp [zip3D]
  | _ :: _, _ :: _, [] => by simp [zip3D]
def TupD (H : Hp) (a : Addr) (ds : List PyData) : Prop := ∃ vs, H a = some (.tup vs) ∧ RpA H ds vs
theorem TupD.kp {H H' : Hp} {a : Addr} {ds : List PyData} (h : TupD H a ds) (k : Kp H H') : TupD H' a ds := by
  obtain ⟨vs, e, r⟩ := h; exact ⟨vs, k.1 _ _ e, RpA.kp k _ _ r⟩
theorem itd_zip3 {K : PySem.W.Frag} {l m o : Addr} {xs ys zs : List PyData} : ItD (ItZ3 K l m o) (fun H => TupD H l xs ∧ TupD H m ys ∧ TupD H o zs) (zip3D xs ys zs) where
  go := fun i H ⟨⟨vs, e1, r1⟩, ⟨us, e2, r2⟩, ⟨ws, e3, r3⟩⟩ hi => by
    rw [zip3D_len] at hi
    obtain ⟨x, hx, _⟩ := r1.get (List.getElem?_eq_getElem (show i < xs.length by omega))
    obtain ⟨y, hy, _⟩ := r2.get (List.getElem?_eq_getElem (show i < ys.length by omega))
    obtain ⟨z, hz, _⟩ := r3.get (List.getElem?_eq_getElem (show i < zs.length by omega))
    exact ⟨vs, us, ws, x, y, z, SqT.of e1, SqT.of e2, SqT.of e3, hx, hy, hz⟩
  yld := fun i H v H' d ⟨⟨vs, e1, r1⟩, ⟨us, e2, r2⟩, ⟨ws, e3, r3⟩⟩ hd h => by
    obtain ⟨a, x, y, z, ha, rfl, rfl, k1, k2, k3⟩ := h
    obtain ⟨dx, dy, dz, g1, g2, g3, rfl⟩ := zip3D_get hd
    obtain ⟨x', hx, px⟩ := r1.get g1
    obtain ⟨y', hy, py⟩ := r2.get g2
    obtain ⟨z', hz, pz⟩ := r3.get g3
    have q1 := k1 vs (SqT.of e1)
    have q2 := k2 us (SqT.of e2)
    have q3 := k3 ws (SqT.of e3)
    rw [hx] at q1; rw [hy] at q2; rw [hz] at q3
    cases q1; cases q2; cases q3
    exact ⟨same_up ha _, rp_new_tup ha (RpA.cons px (RpA.cons py (RpA.cons pz RpA.nil)))⟩
  stop := fun i H ⟨⟨vs, e1, r1⟩, ⟨us, e2, r2⟩, ⟨ws, e3, r3⟩⟩ hi => by
    rw [zip3D_len] at hi
    have l1 := r1.length
    have l2 := r2.length
    have l3 := r3.length
    exact ⟨vs, us, ws, SqT.of e1, SqT.of e2, SqT.of e3, by omega⟩
theorem vals3' {a b c : V} {us : List Value} (r : Vals [a, b, c] us) : ∃ u v w, us = [u, v, w] ∧ RelV a u ∧ RelV b v ∧ RelV c w := by
  cases r with
  | cons r1 r =>
    cases r with
    | cons r2 r =>
      cases r with
      | cons r3 r =>
        cases r
        exact ⟨_, _, _, rfl, r1, r2, r3⟩
section
variable {X : Cx} {elts : List Expr} {x1 : Nat} {tp : Pos} {a b c : Expr} {fa fb fc : Fe} {pos p : Pos} {nl : Nat} {G : List Str} {fs : Rho → R (List PyData)}
def iZp3 (K : PySem.W.Frag) (ta : TA) : TI := fun σ H R => ta σ H fun vs H1 => ∃ l m o xs ys zs, vs = [.ref l, .ref m, .ref o] ∧ SqT K H1 l xs ∧ SqT K H1 m ys ∧ SqT K H1 o zs ∧ R (ItZ3 K l m o) H1
theorem pi_zip3 {ta : TA} (hg : Gl X "zip") (hm : X.mg "zip" = none) (ha : PA X [a, b, c] ta) (hs : starEach [a, b, c] X.env = (false, eval a X.env) :: starEach [b, c] X.env) (hs2 : (backTo pos (starEach [b, c] X.env)).any (·.1) = false) :
    PI X (.Tuple elts x1 tp) (.Call (.Name "zip" p) [a, b, c] [] pos) (iZp3 X.K ta) := by
  intro pins s σ H R I h
  refine Call_ (ld_blt I hg hm boot_zip (PyProof.Rows.callWith_type1 (thn (ha pos pins s σ H _ I h) fun us s1 ⟨vs, H1, I1, r1, q1⟩ => ?_) hs hs2))
  obtain ⟨l, m, o, xs, ys, zs, e, h1, h2, h3, q⟩ := q1
  subst e
  obtain ⟨u, v, w, rfl, ru, rv, rw'⟩ := vals3' r1
  cases ru
  cases rv
  cases rw'
  obtain ⟨its, w1, p1, g1⟩ := I1.tuple h1
  obtain ⟨jts, w2, p2, g2⟩ := I1.tuple h2
  obtain ⟨kts, w3, p3, g3⟩ := I1.tuple h3
  have ll : l < s1.heap.objs.size := by obtain ⟨o, e, _⟩ := p1; exact Heap.lt_size e
  have lm : m < s1.heap.objs.size := by obtain ⟨o, e, _⟩ := p2; exact Heap.lt_size e
  have lo : o < s1.heap.objs.size := by obtain ⟨o, e, _⟩ := p3; exact Heap.lt_size e
  refine call_zip3 p1 p2 p3 fun h' hz S kp => wpAny_pyIter_zip S.zz ?_
  have I2 : Inv X pins σ H1 { s1 with heap := h' } := I1.kept (t' := s1.toks) kp
  have kt : ∀ {l : Addr} {xs : Array Value}, s1.heap.IsTuple l xs → h'.IsTuple l xs := fun ⟨o, e, r⟩ => ⟨o, kp _ _ e, r⟩
  refine ⟨_, fp3 s1.heap.objs.size, _, _, H1, rfl, I2, turn_zip3 ll lm lo, ⟨S.zz, S.pp, S.qq, tupIter_of S.ii (kt p1), tupIter_of S.jj (kt p2), tupIter_of S.kk (kt p3)⟩, fun a ha => ?_, q⟩
  have hle : s1.heap.objs.size ≤ a := by
    simp only [fp3, List.mem_cons, List.not_mem_nil, or_false] at ha
    rcases ha with rfl | rfl | rfl | rfl | rfl | rfl
    · exact Nat.le_add_right _ 5
    · exact Nat.le_add_right _ 3
    · exact Nat.le_add_right _ 4
    · exact Nat.le_refl _
    · exact Nat.le_add_right _ 1
    · exact Nat.le_add_right _ 2
  exact I1.fpOk hle (I1.hok.fresh hle)
def tupD : PyData → R (List PyData)
  | .tuple ds => .ok ds
  | _ => .no
def iZip3 (fa fb fc : Fe) : Rho → R (List PyData) := fun ρ => fa ρ >>= fun x => fb ρ >>= fun y => fc ρ >>= fun z => tupD x >>= fun xs => tupD y >>= fun ys => tupD z >>= fun zs => .ok (zip3D xs ys zs)
theorem rp_tupD {H : Hp} {d : PyData} {v : V} {ds : List PyData} (h : Rp H d v) (e : tupD d = .ok ds) : ∃ a, v = .ref a ∧ TupD H a ds := by
  cases d with
  | tuple xs =>
    cases e
    simp only [Rp] at h
    obtain ⟨a, vs, rfl, h, r⟩ := h
    exact ⟨a, rfl, vs, h, r⟩
  | _ => cases e
theorem tupD_ex {d : PyData} {c : Str} (e : tupD d = .ex c) : False := by cases d <;> cases e
theorem ei_zip3 (T : Tb X nl G) (j : Nat) (hG : G[j]? = some ("zip" : Str)) (hm : X.mg "zip" = none) (ha : EvE X a fa) (hb : EvE X b fb) (hc : EvE X c fc) (h1 : notStar a = true := by rfl) (h2 : notStar b = true := by rfl) (h3 : notStar c = true := by rfl) :
    EvI X (.Tuple elts x1 tp) (.Call (.Name "zip" p) [a, b, c] [] pos) (iZip3 fa fb fc) := by
  have g := T.gl _ (List.mem_of_getElem? hG)
  refine PI.imp (pi_zip3 g.1 hm (ea_cons ha (ea_cons hb (ea_cons hc ea_nil h3) h2) h1) (star_cons h1) (by rw [star_cons h2, star_cons h3]; rfl)) fun σ H Rk h => ?_
  obtain ⟨ρ, sl, q⟩ := h
  unfold iZip3 at q
  refine ⟨ρ, sl, ?_⟩
  unfold aCons aNil
  cases e1 : fa ρ with
  | ex c => rw [e1] at q; exact q
  | no => rw [e1] at q; exact q
  | ok x =>
    rw [e1] at q
    simp only [R.ok_bind] at q ⊢
    cases e2 : fb ρ with
    | ex c => rw [e2] at q; exact q
    | no => rw [e2] at q; exact q
    | ok y =>
      rw [e2] at q
      simp only [R.ok_bind] at q ⊢
      cases e3 : fc ρ with
      | ex c => rw [e3] at q; exact q
      | no => rw [e3] at q; exact q
      | ok z =>
        rw [e3] at q
        simp only [R.ok_bind] at q ⊢
        cases g1 : tupD x with
        | ex c => exact (tupD_ex g1).elim
        | no => rw [g1] at q; exact q.elim
        | ok xs =>
          rw [g1] at q
          simp only [R.ok_bind] at q
          cases g2 : tupD y with
          | ex c => exact (tupD_ex g2).elim
          | no => rw [g2] at q; exact q.elim
          | ok ys =>
            rw [g2] at q
            simp only [R.ok_bind] at q
            cases g3 : tupD z with
            | ex c => exact (tupD_ex g3).elim
            | no => rw [g3] at q; exact q.elim
            | ok zs =>
              rw [g3] at q
              simp only [R.ok_bind] at q
              intro vs H1 s1 ra
              simp only [RA] at ra
              obtain ⟨v, r', rfl, p1, v', r'', rfl, p2, v'', r3, rfl, p3, rfl⟩ := ra
              obtain ⟨l, rfl, d1⟩ := rp_tupD p1 g1
              obtain ⟨m, rfl, d2⟩ := rp_tupD p2 g2
              obtain ⟨o, rfl, d3⟩ := rp_tupD p3 g3
              obtain ⟨us, u1, _⟩ := id d1
              obtain ⟨ws, u2, _⟩ := id d2
              obtain ⟨ts, u3, _⟩ := id d3
              exact ⟨l, m, o, us, ws, ts, rfl, SqT.of u1, SqT.of u2, SqT.of u3, q _ H1 s1 ⟨_, itd_zip3, fun H2 k _ => ⟨d1.kp k, d2.kp k, d3.kp k⟩⟩⟩
theorem Z.ei_zip3 (T : Tb X nl G) (j : Nat) (hG : G[j]? = some ("zip" : Str)) (hm : X.mg "zip" = none) (ha : Z.EvE X a fa) (hb : Z.EvE X b fb) (hc : Z.EvE X c fc) (h1 : notStar a = true := by rfl) (h2 : notStar b = true := by rfl) (h3 : notStar c = true := by rfl) : Z.EvI X (.Tuple elts x1 tp) (.Call (.Name "zip" p) [a, b, c] [] pos) (iZip3 fa fb fc) :=
  ⟨D2.ei_zip3 T j hG hm ha.un hb.un hc.un h1 h2 h3⟩
end
def bTri (i j k : Nat) : PyData → Rho → Option Rho
  | .tuple [x, y, z], ρ => some (((ρ.set i (.val x)).set j (.val y)).set k (.val z))
  | _, _ => none
section
variable {X : Cx} {nl : Nat} {G : List Str} {x y z : Str} {kx : Nat} {p1 p2 p3 pos : Pos}
theorem eg_tri (T : Tb X nl G) (i j k : Nat) (hi : (X.N.take nl)[i]? = some x) (hj : (X.N.take nl)[j]? = some y) (hk : (X.N.take nl)[k]? = some z) : EvG X (.Tuple [.Name x p1, .Name y p2, .Name z p3] kx pos) (bTri i j k) := by
  obtain ⟨i1, i2, i3⟩ := T.nm hi
  obtain ⟨j1, j2, j3⟩ := T.nm hj
  obtain ⟨k1, k2, k3⟩ := T.nm hk
  refine PG.imp (pg_tup T.calm (pgs_cons (pg_name T.nd i1 i2 i3) (pgs_cons (pg_name T.nd j1 j2 j3) (pgs_cons (pg_name T.nd k1 k2 k3) pgs_nil)))) fun v σ H Q ⟨ρ, d, sl, p, q⟩ => ?_
  unfold bTri at q
  split at q
  · rename_i e
    split at e
    · rename_i ρ0 dx dy dz
      cases e
      simp only [Rp] at p
      obtain ⟨a, vs, rfl, ha, r⟩ := p
      obtain ⟨u, r1, rfl, pu, r⟩ := r.cons_inv
      obtain ⟨w, r2, rfl, pw, r⟩ := r.cons_inv
      obtain ⟨t, r3, rfl, pt, r⟩ := r.cons_inv
      rw [r.nil_inv] at ha
      refine ⟨a, [u, w, t], rfl, SqT.of ha, rfl, u, [w, t], rfl, w, [t], rfl, t, [], rfl, rfl, ?_⟩
      refine q _ (Sl.set (c := .val dz) (o := some t) (Sl.set (c := .val dy) (o := some w) (Sl.set (c := .val dx) (o := some u) sl i ⟨u, rfl, pu⟩) j ⟨w, rfl, pw⟩) k ⟨t, rfl, pt⟩) fun n e h => ?_
      obtain ⟨n1, h⟩ := get_set_own (fun e z => by cases z) h
      obtain ⟨n2, h⟩ := get_set_own (fun e z => by cases z) h
      obtain ⟨n3, h⟩ := get_set_own (fun e z => by cases z) h
      exact ⟨h, by rw [List.getElem?_set, if_neg n1, List.getElem?_set, if_neg n2, List.getElem?_set, if_neg n3]⟩
    · cases e
  · exact q.elim
theorem Z.eg_tri (T : Tb X nl G) (i j k : Nat) (hi : (X.N.take nl)[i]? = some x) (hj : (X.N.take nl)[j]? = some y) (hk : (X.N.take nl)[k]? = some z) : Z.EvG X (.Tuple [.Name x p1, .Name y p2, .Name z p3] kx pos) (bTri i j k) :=
  ⟨D2.eg_tri T i j k hi hj hk⟩
end
end D2
set_option Elab.async false
set_option linter.all false
set_option maxRecDepth 100000
set_option maxHeartbeats 4000000
namespace D2
open PySem PySem.Spec PyProof.Rows L2
section
variable {X : Cx} {nl : Nat} {G : List Str} {x : Str} {e : Expr} {f : Fe} {q1 q2 q3 q4 : Pos}
theorem es_append (T : Tb X nl G) (n : Nat) (hN : X.N[n]? = some x) (he : EvE X e f) (hst : notStar e = true := by rfl) (hline : (q2.endLine == q3.line) = true := by rfl)
    (hs : swapsWith (.Call (.Attribute (.Name x q1) "append" q2) [e] [] q3) none q4.line X.env = pure false := by rfl)
    (hbase : attributeBase (.Name x q1) "append" X.env (eval (.Name x q1) X.env) = eval (.Name x q1) X.env := by rfl) : EvS X (.Expr (.Call (.Attribute (.Name x q1) "append" q2) [e] [] q3) q4) (sAppend n f) := fun Fm => by
  have hm := T.vis x (List.mem_of_getElem? hN)
  have sc : starEach [e] X.env = (false, eval e X.env) :: starEach [] X.env := star_cons hst
  refine PS.imp (ps_expr (pe_bm PySem.F.plainAttrs_list PySem.F.slot_list_append PySem.F.type_list_append mt_append (pe_var hN hm.1 hm.2.1 hm.2.2) (ea_cons he ea_nil hst) hbase (by rw [sc]; rfl) hline sc rfl) hs) fun D σ H h => ?_
  obtain ⟨ρ, sl, q⟩ := h
  unfold sAppend at q
  cases ef : f ρ with
  | ex c => rw [ef] at q; exact q.elim
  | no => rw [ef] at q; exact q.elim
  | ok d =>
    rw [ef] at q
    simp only [noX, R.ok_bind] at q
    cases er : ρ[n]? with
    | none => rw [er] at q; exact q.elim
    | some c =>
      rw [er] at q
      cases c with
      | non => exact q.elim
      | exc p => exact q.elim
      | val d' => exact q.elim
      | own d' =>
        cases d' with
        | list ds =>
          dsimp only at q
          by_cases hz : ds.length < sizeLine
          · rw [if_pos hz] at q
            obtain ⟨o, h2, w', rfl, p2⟩ := sl.sl.at er
            simp only [ORp] at p2
            obtain ⟨a', vs, rfl, ha, r⟩ := p2
            refine ⟨.ref a', h2, .inl ⟨rfl, _, SqL.of ha⟩, ρ, sl.sl, ?_⟩
            unfold aCons aNil
            rw [ef]
            intro us H1 s1 ra
            simp only [RA] at ra
            obtain ⟨v, r', rfl, p1, rfl⟩ := ra
            have ha1 := s1 _ _ ha
            refine ⟨a', vs, v, rfl, rfl, ha1, by rw [r.length]; exact hz, q _ _ ((sl.mono s1).change er h2 ha1 (.inl ⟨_, rfl⟩) ?_)⟩
            simp only [ORp]
            exact ⟨a', _, rfl, upd_same, RpA.kp (kp_upd ha1 (.inl ⟨_, rfl⟩)) _ _ (RpA.append (r.mono s1) (RpA.cons p1 RpA.nil))⟩
          · rw [if_neg hz] at q; exact q.elim
        | _ => exact q.elim
theorem Z.es_append (T : Tb X nl G) (n : Nat) (hN : X.N[n]? = some x) (he : Z.EvE X e f) (hst : notStar e = true := by rfl) (hline : (q2.endLine == q3.line) = true := by rfl) (hs : swapsWith (.Call (.Attribute (.Name x q1) "append" q2) [e] [] q3) none q4.line X.env = pure false := by rfl) (hbase : attributeBase (.Name x q1) "append" X.env (eval (.Name x q1) X.env) = eval (.Name x q1) X.env := by rfl) : Z.EvS X (.Expr (.Call (.Attribute (.Name x q1) "append" q2) [e] [] q3) q4) (sAppend n f) :=
  ⟨D2.es_append T n hN he.un hst hline hs hbase⟩
end
end D2
set_option Elab.async false
set_option linter.all false
set_option maxRecDepth 100000
set_option maxHeartbeats 4000000
namespace D2
open PySem PySem.Spec PyProof.Rows L2
def sNox (g : Fs) : Fs := fun ρ => noX (g ρ)
theorem Tb.nox {X : Cx} {nl : Nat} {G : List Str} (T : Tb X nl G) : Tb X.nox nl G := ⟨T.hu, T.calm, T.nd, T.vis, T.loc, T.gl⟩
section
variable {X : Cx} {nl : Nat} {G : List Str} {st : Stmt} {g : Fs} {pos : Pos}
theorem es_noxR (h : EvS X.nox st g) : EvS X st (sNox g) := fun Fm => by
  intro pins s σ H D I ⟨ρ, sl, q⟩
  refine wpAny_mono (h Fm pins s σ H D (I.wish _) ⟨ρ, sl, ?_⟩) (fun _ _ q => q.unwish) fun _ _ z => False.elim z
  unfold sNox at q
  cases e : g ρ with
  | ok o =>
    rw [e] at q
    cases o <;> exact q
  | ex c => rw [e] at q; exact q.elim
  | no => rw [e] at q; exact q.elim
theorem Z.es_noxR (h : Z.EvS X.nox st g) : Z.EvS X st (sNox g) :=
  ⟨D2.es_noxR h.un⟩
def whileR (t : Rho → R Bool) (g : Fs) : Nat → Fs
  | 0, _ => .no
  | n + 1, ρ => t ρ >>= fun b => if b = true then g ρ >>= fun o => (match o with
      | .nx ρ2 => whileR t g n ρ2
      | .ct ρ2 => whileR t g n ρ2
      | .bk ρ2 => .ok (.nx ρ2)
      | .rt r => .ok (.rt r)) else .ok (.nx ρ)
def sWhile (n : Nat) (t : Rho → R Bool) (g : Fs) : Fs := whileR t g n
theorem es_while {c : Expr} {body : List Stmt} {t : Rho → R Bool} (n : Nat) (hp : PassesOwn (model X.prog X.w) X.A X.env X.xe) (ht : EvT X c t) (hb : EvSs X body g) : EvS X (.While c body [] pos) (sWhile n t g) := fun Fm => by
  refine PS.imp (ps_while hp ht (hb Fm)) fun D σ H ⟨ρ, sl, q⟩ => ⟨fun m σ' H' => ∃ ρ', SlS Fm H' σ' ρ' ∧ rdO X Fm (whileR t g m ρ') D, ⟨n, ρ, sl, q⟩, fun m σ1 H1 ⟨ρ1, sl1, q1⟩ => ?_⟩
  cases m with
  | zero => exact q1.elim
  | succ k =>
    have q2 : rdS X Fm (fun ρ => t ρ >>= fun b => if b = true then g ρ >>= fun o => (match o with
      | .nx ρ2 => whileR t g k ρ2
      | .ct ρ2 => whileR t g k ρ2
      | .bk ρ2 => .ok (.nx ρ2)
      | .rt r => .ok (.rt r)) else .ok (.nx ρ)) D σ1 H1 := ⟨ρ1, sl1, q1⟩
    refine (bind_st (f := t) (k := fun ρ b => if b = true then g ρ >>= fun o => (match o with
      | .nx ρ2 => whileR t g k ρ2
      | .ct ρ2 => whileR t g k ρ2
      | .bk ρ2 => .ok (.nx ρ2)
      | .rt r => .ok (.rt r)) else .ok (.nx ρ)) q2).post fun b H2 ⟨ρ2, sl2, _, q3⟩ => ?_
    cases b with
    | false => exact q3 σ1 H2 sl2
    | true =>
      have q4 : rdO X Fm (g ρ2 >>= fun o => (match o with
      | .nx ρ2 => whileR t g k ρ2
      | .ct ρ2 => whileR t g k ρ2
      | .bk ρ2 => .ok (.nx ρ2)
      | .rt r => .ok (.rt r))) D := q3
      show if true = true then _ else _
      rw [if_pos rfl]
      refine ⟨fun σ' H' => ∃ ρ', SlS Fm H' σ' ρ' ∧ rdO X Fm (whileR t g k ρ') D, fun σ' H' z => ⟨k, Nat.lt_succ_self k, z⟩, ρ2, sl2, ?_⟩
      cases eg : g ρ2 with
      | ex c => rw [eg] at q4; exact q4
      | no => rw [eg] at q4; exact q4
      | ok o =>
        rw [eg] at q4
        cases o with
        | nx ρ4 => exact fun σ' H' s' => ⟨ρ4, s', q4⟩
        | ct ρ4 => exact fun σ' H' s' => ⟨ρ4, s', q4⟩
        | bk ρ4 => exact q4
        | rt r => exact q4
theorem Z.es_while {c : Expr} {body : List Stmt} {t : Rho → R Bool} (n : Nat) (hp : PassesOwn (model X.prog X.w) X.A X.env X.xe) (ht : Z.EvT X c t) (hb : Z.EvSs X body g) : Z.EvS X (.While c body [] pos) (sWhile n t g) :=
  ⟨D2.es_while n hp ht.un hb.un⟩
end
abbrev bmV : List Value := [.type "ValueError", .type "Exception", .type "BaseException", .type "object"]
abbrev idV : String := "ValueError.__new__"
section
variable {K : PySem.W.Frag} {h : Heap} {C : Addr}
def ClsAt (h : Heap) (C : Addr) (bm : List Value) : Prop := ∃ N nm q bs hdct sn sub ab col dd k0 k1 k2 k3 k5 mN, h.get? C = some (excClassObj nm q C N bs bm hdct sn sub ab col dd k0 k1 k2 k3 k5 idV) ∧ h.Ns N mN ∧ mN "__init__" = none ∧ OwnTail h bmV bm
theorem ClsAt.keep {h' : Heap} {bm : List Value} (c : ClsAt h C bm) (k : ∀ b o, h.get? b = some o → h'.get? b = some o) : ClsAt h' C bm :=
  let ⟨N, nm, q, bs, hdct, sn, sub, ab, col, dd, k0, k1, k2, k3, k5, mN, hC, hN, hni, T⟩ := c
  ⟨N, nm, q, bs, hdct, sn, sub, ab, col, dd, k0, k1, k2, k3, k5, mN, k _ _ hC, hN.keeps k, hni, T.keeps k⟩
def clsMro (K : PySem.W.Frag) (C : Addr) : List Value := match K.lookup C with
  | some ⟨_, _, .cls cd, _⟩ => cd.mro.drop 1
  | _ => []
theorem clsAt_of (X : K.In h) (q : PySem.W.excIn K C bmV idV = true) : ClsAt h C (clsMro K C) := by
  unfold PySem.W.excIn at q
  unfold clsMro
  cases hk : K.lookup C with
  | none => rw [hk] at q; cases q
  | some ob =>
    rw [hk] at q
    split at q
    · rename_i dd cd sl ho
      cases ho
      split at q
      · rename_i C' bm k0 k1 k2 k3 n k5 hm hs
        simp only [Bool.not_eq_true', beq_iff_eq, Bool.and_eq_true] at q
        obtain ⟨⟨⟨⟨⟨e1, e2⟩, hdel⟩, ht⟩, hok⟩, hni⟩ := q
        subst e1; subst e2
        obtain ⟨nm, bs, mro, ns, qn, hd, sn, sub, ab, col, del⟩ := cd
        dsimp only at hm hdel hok hni ⊢
        subst hm; subst hdel
        have hsl : sl = #[k0, k1, k2, k3, some (.builtin idV), k5] := by
          obtain ⟨l⟩ := sl
          simp only at hs
          rw [hs]
        subst hsl
        exact ⟨ns, nm, qn, bs, hd, sn, sub, ab, col, dd, k0, k1, k2, k3, k5, _, X _ _ hk, .of_isNs (PySem.W.isNs_of_in X hok), PySem.W.nsMap_none_of_in X hok hni, PySem.W.tail_of_in X ht⟩
      · cases q
    · cases q
end
def sRaise (x : Str) (f : Fe) : Fs := fun ρ => noX (f ρ) >>= fun _ => .ex x
section
variable {X : Cx} {nl : Nat} {G : List Str} {x : Str} {e : Expr} {f : Fe} {np cp pos : Pos} {C : Addr}
theorem es_raise (T : Tb X nl G) (j : Nat) (hG : G[j]? = some x) (hm : X.mg x = some (.ref C)) (hq : PySem.W.excIn X.K C bmV idV = true) (he : EvE X.nox e f) (hst : notStar e = true := by rfl) : EvS X (.Raise (some (.Call (.Name x np) [e] [] cp)) none pos) (sRaise x f) := fun Fm => by
  intro pins s σ H D I ⟨ρ, sl, q⟩
  have hg := T.gl x (List.mem_of_getElem? hG)
  have sc : starEach [e] X.env = (false, eval e X.env) :: starEach [] X.env := star_cons hst
  obtain ⟨N, nm, qn, bs, hdct, sn, sub, ab, col, dd, k0, k1, k2, k3, k5, mN, hC, hN, hni, TL⟩ := clsAt_of (I.ok.mod.kin) hq
  unfold sRaise at q
  cases ef : f ρ with
  | ex c => rw [ef] at q; exact q.elim
  | no => rw [ef] at q; exact q.elim
  | ok d =>
    rw [ef] at q
    simp only [noX, R.ok_bind] at q
    refine wpAny_Raise_call_subT (C := C) (nm := nm) (q := qn) (N := N) (bs := bs) (bm := clsMro X.K C) (hdct := hdct) (sn := sn) (sub := sub) (ab := ab) (col := col) (dd := dd) (k0 := k0) (k1 := k1) (k2 := k2) (k3 := k3) (k5 := k5) PySem.F.excBase_ValueError (mN := mN) (TL.hasType rfl) (I.ok.hd T.calm) (by rw [sc]; rfl) hni (ld_glob I hg.1 hm ⟨rfl, ?_⟩ hg.2.1)
    rw [sc]
    refine Calls.evalArgs_plain (wpAny_mono ?_ (fun vs s2 z => ⟨rfl, z⟩) fun _ _ y => y)
    have ha : PA X.nox [e] (rdA X.nox Rp (aCons f aNil)) := ea_cons he ea_nil hst
    have hw := ha cp pins s σ H (fun vs H' => vs.length = 1 ∧ Same H H') (I.wish _) ⟨ρ, sl.sl, by
      unfold aCons aNil
      rw [ef]
      intro vs H' s' ra
      simp only [RA] at ra
      obtain ⟨v, r, rfl, _, rfl⟩ := ra
      exact ⟨rfl, s'⟩⟩
    rw [show (X.nox.env) = X.env from rfl, sc] at hw
    refine wpAny_mono hw (fun us s2 ⟨vs, H2, I2, r2, hl, s12⟩ => ?_) fun _ _ z => False.elim z
    have I2 := I2.unwish
    have hlen : us.length = 1 := by rw [← r2.length]; exact hl
    exact ⟨by rw [hlen]; decide, I2.bk _ _ hC, hN.keeps I2.bk, TL.keeps I2.bk, fun h' p mk => q.2 C hm pins σ H2 s2 (sl.fm.trans s12) I2 h' p us mk⟩
theorem Z.es_raise (T : Tb X nl G) (j : Nat) (hG : G[j]? = some x) (hm : X.mg x = some (.ref C)) (hq : PySem.W.excIn X.K C bmV idV = true) (he : Z.EvE X.nox e f) (hst : notStar e = true := by rfl) : Z.EvS X (.Raise (some (.Call (.Name x np) [e] [] cp)) none pos) (sRaise x f) :=
  ⟨D2.es_raise T j hG hm hq he.un hst⟩
end
end D2
set_option Elab.async false
set_option linter.all false
set_option maxRecDepth 100000
set_option maxHeartbeats 4000000
namespace D2
open PySem PySem.Spec PyProof.Rows L2
section
variable {P : Program} {w : World} {l : List Env} {H H' : Hp} {s s' : Shared} {C p : Addr} {e : Value}
theorem Fly.again {a0 : Value} {B h' : Heap} (f : Fly P w l H s C H' e s') (fly : Heap.FlyingW B l p (.ref C) a0 s'.heap) (fly' : Heap.FlyingW B l p (.ref C) a0 h') (up : s'.heap.UpToSlots h') (okB : HOk P w H' B) (hp : H' p = none)
    (cov : ∀ b o, s.heap.get? b = some o → H b = none → b ∉ frs l → B.get? b = some o ∧ H' b = none) : Fly P w l H s C H' (.ref p) { s' with heap := h' } := by
  refine ⟨f.os, f.bare, f.same, ⟨p, a0, B, rfl, fly', okB, hp, cov⟩, fun b o q n hb => ?_⟩
  obtain ⟨⟨sl, q2⟩, n2⟩ := f.slot b o q n hb
  obtain ⟨_, o3, q3, nf⟩ := fly.2.2.1.mem hb
  rw [q2] at q3
  cases q3
  obtain ⟨sl3, q4⟩ := up b _ q2 nf
  exact ⟨⟨sl3, q4⟩, n2⟩
theorem Fly.land {M : Model} {A : Around} {E : Value → Shared → Prop} {Q : Unit → Shared → Prop} (f : Fly P w l H s C H' (.ref p) s') (k : ∀ h', Fly P w l H s C H' (.ref p) { s' with heap := h' } → Q () { s' with heap := h' }) : wpAny M A (setFlight (.ref p) none) Q E s' := by
  obtain ⟨p', a0, B, ep, fly, okB, hp, cov⟩ := f.ex
  cases ep
  exact lands_againW fly fun h' fly' up => k h' (f.again fly fly' up okB hp cov)
theorem Fly.look {M : Model} {A : Around} {E : Value → Shared → Prop} {Q : Unit → Shared → Prop} {env : Env} {outer : List Env} {L : Addr} (f : Fly P w (env :: outer) H s C H' e s') (hfr : A.frames = some (env :: outer)) (hf : env.frame = some L)
    (k : ∀ p h', e = .ref p → Fly P w (env :: outer) H s C H' (.ref p) { s' with heap := h' } → Q () { s' with heap := h' }) : wpAny M A (noteFrame e env) (fun _ s2 => wpAny M A (setFlight e none) Q E s2) E s' := by
  obtain ⟨p, a0, B, rfl, fly, okB, hp, cov⟩ := f.ex
  refine wpAny_looks_onW hfr hf fly fun h4 held up4 => ?_
  exact wpAny_landsW (s := { s' with heap := h4 }) held fun h5 fly5 up5 => k p h5 rfl (f.again fly fly5 (up4.trans up5) okB hp cov)
theorem Fly.obj (f : Fly P w l H s C H' (.ref p) s') : ∃ ob vs, s'.heap.get? p = some ob ∧ ob.cls = .ref C ∧ ob.data = .fields vs ∧ H' p = none ∧ p ∉ frs l := by
  obtain ⟨p', a0, B, ep, fly, okB, hp, cov⟩ := f.ex
  cases ep
  obtain ⟨oe, ws, h1, h2, h3, _⟩ := fly.first
  refine ⟨oe, ws, h1, h2, h3, hp, fun hm => ?_⟩
  obtain ⟨_, o, ho, hnf⟩ := fly.2.2.1.mem hm
  rw [h1] at ho
  cases ho
  exact hnf ws h3
end
theorem Fly.inv {X : Cx} {pins : List (Addr × Obj)} {σ : St} {Hc H1 : Hp} {sc s' : Shared} {C : Addr} {e : Value} (f : Fly X.prog X.w X.stack Hc sc C H1 e s') (I : Inv X pins σ Hc sc) : Inv X pins σ H1 s' :=
  I.call' f.os f.un f.hok f.bare fun b z => absurd z (by simp)
def Xh (X : Cx) (p : Addr) (ob : Obj) : Cx := { X with A := X.A.mark (some (.ref p)), calm := false, xe := fun _ _ => False, pn := (p, ob) :: X.pn }
section
variable {X : Cx} {pins : List (Addr × Obj)} {σ : St} {H : Hp} {s : Shared} {p : Addr} {ob : Obj}
theorem inv_mark (I : Inv X pins σ H s) (hp : s.heap.get? p = some ob) (hn : H p = none) (hl : p ≠ X.env.locals) (hf : p ∉ X.fs) (hc : ∀ v, ob.data ≠ .cell v) : Inv (Xh X p ob) pins σ H s := by
  refine ⟨⟨I.ok.mod, I.ok.kind, I.ok.glob, I.ok.blt, I.ok.above, I.ok.inj, I.ok.has, I.ok.cab, fun z => (by cases z), I.ok.frames, I.ok.stk, I.ok.exf, I.ok.bs, I.ok.bsz, I.ok.noex, I.ok.exfs, I.ok.funs, I.ok.frf⟩, I.os, I.bare, I.base, I.loc, I.cell, I.free, I.freeC, fun q hq => ?_, I.hok, I.len⟩
  have hq' : q ∈ (p, ob) :: (X.pn ++ pins) := hq
  rcases List.mem_cons.mp hq' with rfl | z
  · exact ⟨hp, hn, hl, hf, hc⟩
  · exact I.pin q z
theorem inv_unmark (ok : X.Ok) (I : Inv (Xh X p ob) pins σ H s) : Inv X pins σ H s :=
  ⟨ok, I.os, I.bare, I.base, I.loc, I.cell, I.free, I.freeC, fun q hq => I.pin q (List.mem_cons_of_mem _ hq), I.hok, I.len⟩
end
structure Tb0 (X : Cx) (nl : Nat) (G : List Str) : Prop where
  hu : X.A.units + 64 < cLine
  nd : X.N.Nodup
  vis : ∀ x ∈ X.N, Vis X.env.scope x ∧ (x == ("__debug__" : Str)) = false ∧ (x == ("__classdict__" : Str)) = false
  loc : ∀ x ∈ X.N.take nl, Loc X.env.scope x ∧ (X.fn x = true ∨ X.env.scope.names.lookup x = some .local)
  gl : ∀ x ∈ G, Gl X x ∧ (x == ("__debug__" : Str)) = false ∧ x ≠ ("__name__" : Str)
theorem Tb.h {X : Cx} {nl : Nat} {G : List Str} (T : Tb X nl G) (p : Addr) (ob : Obj) : Tb0 (Xh X p ob) nl G := ⟨T.hu, T.nd, T.vis, T.loc, T.gl⟩
section
variable {M : Model} {A : Around} {E : Value → Shared → Prop} {s : Shared} {C C2 p : Addr} {bm bm2 : List Value} {ob : Obj} {Q : Bool → Shared → Prop}
theorem exc_match (hC : ClsAt s.heap C bm) (hC2 : ClsAt s.heap C2 bm2) (he : s.heap.get? p = some ob) (hc : ob.cls = .ref C) (h : Q ((Value.ref C :: bm).contains (.ref C2)) s) : wpAny M A (excMatches (.ref p) (.ref C2)) Q E s := by
  obtain ⟨N, nm, qn, bs, hdct, sn, sub, ab, col, dd, k0, k1, k2, k3, k5, mN, hC, hN, hni, TL⟩ := hC
  obtain ⟨N', nm', qn', bs', hdct', sn', sub', ab', col', dd', k0', k1', k2', k3', k5', mN', hC2, hN', hni', TL'⟩ := hC2
  obtain ⟨hp, g, d, tk, os⟩ := s
  have hb2 : (Value.ref C2 :: bm2).contains (.type "BaseException") = true := by rw [List.contains_cons, show bm2.contains (.type "BaseException") = true from TL'.hasType (by decide), Bool.or_true]
  have f := tc_notTuple
  unfold excMatches
  repeat (first | (with_reducible refine wpAny_loadPart_at he ?_; rw [hc]) | with_reducible refine wpAny_loadPart_at hC2 ?_ | (with_reducible refine wpAny_isSubtype_exc hC2 ?_; rw [hb2]) | with_reducible refine wpAny_isSubtype_exc hC ?_ | wp_step)
  cases hb : (Value.ref C :: bm).contains (.ref C2) with
  | true => rw [hb] at h; wp_walk; exact h
  | false => rw [hb] at h; wp_walk; exact h
end
section
variable {K : PySem.W.Frag} {x t : Value} {Hh : Heap → Prop}
theorem isi_yes {c : Value} (ty : ∀ (M : Model) (h : Heap), K.In h → Hh h → PySem.W.Looks M h (typeOf x) t) (e : PySem.W.kitOne K t c = some true) : Answers (fun s => K.In s.heap ∧ Hh s.heap) x c true := by
  intro dep tk prog w A R s hs
  obtain ⟨h0, g, d, tt, os⟩ := s
  obtain ⟨⟨X, p⟩, hq⟩ := hs
  have look := ty (model prog w) h0 X p
  unfold PySem.W.kitOne at e
  unfold Builtin.«isinstance.nested»
  refine wpAny_bind (look.at ?_)
  by_cases q : (t == c) = true
  · rw [if_pos q]
    exact wpAny_bind (wpAny_rule (wpAny_pure (hq tt)))
  · rw [if_neg q] at e
    rw [if_neg q]
    obtain ⟨hty, his, hsub⟩ := PySem.W.kit_cls (M := model prog w) X e
    have both : PySem.W.Looks (model prog w) h0 (isInstance x c) true := look.andThen hsub
    refine wpAny_bind (hty.at ?_)
    rw [if_pos (by decide)]
    k_delta "plainIsInstance"
    refine wpAny_bind (wpAny_bind (his.at ?_))
    simp only [if_false, Bool.false_eq_true, Bool.not_true]
    refine wpAny_bind (both.at ?_)
    first | exact wpAny_pure (wpAny_pure (hq tt)) | (simp only [if_true]; exact wpAny_pure (wpAny_pure (hq tt))) | (simp only [if_true]; exact wpAny_pure (hq tt)) | exact wpAny_bind (wpAny_pure (wpAny_pure (hq tt)))
end
end D2
set_option Elab.async false
set_option linter.all false
set_option maxRecDepth 100000
set_option maxHeartbeats 4000000
namespace D2
open PySem PySem.Spec PyProof.Rows L2
def eIsx (i : Nat) (p : Addr) : Fe := fun ρ => match ρ[i]? with
  | some (.exc q) => if q = p then .ok (.bool true) else .no
  | _ => .no
section
variable {X : Cx} {nl : Nat} {G : List Str} {p C C2 : Addr} {ob : Obj} {n cx : Str} {pi pe pc pos : Pos}
theorem call_isx (hp : (p, ob) ∈ X.pn) (hc : ob.cls = .ref C) : CallR X (.builtin "isinstance") (fun xs H Q => ∃ cv, xs = [.ref p, cv] ∧ (∀ u, RelV cv u → PySem.W.kitOne X.K (.ref C) u = some true) ∧ Q (.bl true) H) := by
  intro pins s σ H xs us Q I r h
  obtain ⟨cv, rfl, hk, q⟩ := h
  obtain ⟨u, v, rfl, rx, ry⟩ := vals2 r
  cases rx
  have pin := (I.pin (p, ob) (List.mem_append_left _ hp)).1
  refine call_isinstance (S := fun _ R s => (X.K.In s.heap ∧ s.heap.get? p = some ob) ∧ ∀ tk, R (.ok (.ret (.bool true))) { s with toks := tk })
    (fun prog w A R s hs => isinstance_outer (isi_yes (K := X.K) (x := .ref p) (t := .ref C) (Hh := fun h => h.get? p = some ob) (fun M h _ hp => hc ▸ (PySem.W.Looks.ld hp).andThen .now) (hk _ ry) 0 _ prog w A R s hs) (fun z => nomatch z)) ⟨⟨I.kIn, pin⟩, fun tk => ⟨.bl true, H, I.tok tk, rfl, q⟩⟩
theorem isx_rd {i : Nat} {σ : St} {H : Hp} {Q : VK} (h : rdE X PRp (eIsx i p) σ H Q) : σ[i]? = some (some (.ref p)) ∧ Q (.bl true) H := by
  obtain ⟨ρ, sl, q⟩ := h
  unfold eIsx at q
  split at q
  · rename_i q' e
    split at q
    · rename_i e'
      subst e'
      obtain ⟨o, h1, h2⟩ := sl.at e
      have h2' : o = some (.ref q') := h2
      subst h2'
      exact ⟨h1, q _ H (Same.refl _) rp_bool⟩
    · exact q.elim
  · exact q.elim
theorem ev_isx (T : Tb0 X nl G) (hp : (p, ob) ∈ X.pn) (hc : ob.cls = .ref C) (i : Nat) (hN : X.N[i]? = some n) (j : Nat) (hG : G[j]? = some ("isinstance" : Str)) (hm : X.mg "isinstance" = none) (j' : Nat) (hG' : G[j']? = some cx) (hm' : X.mg cx = some (.ref C2))
    (hk : PySem.W.kitOne X.K (.ref C) (.ref C2) = some true) : EvE X (.Call (.Name "isinstance" pi) [.Name n pe, .Name cx pc] [] pos) (eIsx i p) := by
  have g := T.gl _ (List.mem_of_getElem? hG)
  have g' := T.gl _ (List.mem_of_getElem? hG')
  have v := T.vis n (List.mem_of_getElem? hN)
  have h1 : PE X (.Name n pe) (tVar i) := pe_var hN v.1 v.2.1 v.2.2
  have h2 : PE X (.Name cx pc) (tC (.ref C2)) := pe_glob g'.1 hm' rfl g'.2.1
  refine PE.imp (pe_callB (call_isx hp hc) g.1 hm PyProof.Rows.boot_isinstance (pa_cons h1 (pa_cons h2 pa_nil)) g.2.2 g.2.1) fun σ H Q h => ?_
  obtain ⟨a, b⟩ := isx_rd h
  exact ⟨_, a, .ref C2, rfl, fun u r => by cases r; exact hk, b⟩
theorem Z.ev_isx (T : Tb0 X nl G) (hp : (p, ob) ∈ X.pn) (hc : ob.cls = .ref C) (i : Nat) (hN : X.N[i]? = some n) (j : Nat) (hG : G[j]? = some ("isinstance" : Str)) (hm : X.mg "isinstance" = none) (j' : Nat) (hG' : G[j']? = some cx) (hm' : X.mg cx = some (.ref C2)) (hk : PySem.W.kitOne X.K (.ref C) (.ref C2) = some true) : Z.EvE X (.Call (.Name "isinstance" pi) [.Name n pe, .Name cx pc] [] pos) (eIsx i p) :=
  ⟨D2.ev_isx T hp hc i hN j hG hm j' hG' hm' hk⟩
end
def EvH (X : Cx) (C : Addr) (hs : List ExceptHandler) (F : Addr → Rho → R PyData) : Prop :=
  ∀ (pins : List (Addr × Obj)) (σ : St) (Hc H : Hp) (sc s : Shared) (p : Addr) (Fm : Hp) (ρ : Rho) (D : Ends), Inv X pins σ Hc sc → Fly X.prog X.w X.stack Hc sc C H (.ref p) s → SlS Fm H σ ρ →
    (match F p ρ with
      | .ok d => ∀ v H', Same Fm H' → Rp H' d v → D.rt v H'
      | _ => False) → wpAny (model X.prog X.w) X.A (handleBy (.ref p) X.env hs) (SP X pins D) X.xe s
section
variable {X : Cx} {nl : Nat} {G : List Str} {C C2 : Addr} {n cx : Str} {np rp hp : Pos} {e : Expr} {rest : List ExceptHandler} {F : Addr → Rho → R PyData} {f : Addr → Fe} {name : Option Str} {body : List Stmt}
theorem clause {pins : List (Addr × Obj)} {σ : St} {Hc H : Hp} {sc s : Shared} {p : Addr} {Q : Flow → Shared → Prop} {E : Value → Shared → Prop} (T : Tb X nl G) (j : Nat) (hG : G[j]? = some cx) (hm : X.mg cx = some (.ref C2)) (hq : PySem.W.excIn X.K C bmV idV = true) (hq2 : PySem.W.excIn X.K C2 bmV idV = true)
    (I : Inv X pins σ Hc sc) (fl : Fly X.prog X.w X.stack Hc sc C H (.ref p) s)
    (h : if (Value.ref C :: clsMro X.K C).contains (.ref C2) = true then codeAny (model X.prog X.w) (X.A.mark (some (.ref p))) (.handlers (.ref p) [.ExceptHandler none name body hp] X.env) (fun r s₂ => match r with
          | .ok f => (match name with
            | none => Q f s₂
            | some n => wpAny (model X.prog X.w) X.A (do bindName X.env n .none; unbindBehindTheSuite X.env n hp) (fun _ s₃ => Q f s₃) E s₂)
          | .error x => cameBackBy (model X.prog X.w) X.A X.env E x s₂) s
      else wpAny (model X.prog X.w) X.A (handleBy (.ref p) X.env rest) Q E s) :
    wpAny (model X.prog X.w) X.A (handleBy (.ref p) X.env (.ExceptHandler (some (.Name cx np)) name body hp :: rest)) Q E s := by
  have I1 := fl.inv I
  obtain ⟨ob, vs, ho, hcls, hd, hn, hfr⟩ := fl.obj
  have g := T.gl cx (List.mem_of_getElem? hG)
  have hl : X.A.frames = some X.stack := I.ok.frames
  refine wpAny_handleBy_cons (codeAny_handlers_test ?_) (by intro z; cases z)
  refine Calls.Name_function_global I1.ok.kind g.1 (Calls.loadGlobal_global (by rw [I1.ok.glob]; exact I1.mod.glob.keeps I1.bk) hm ?_) g.2.1
  refine exc_match ((clsAt_of I1.ok.mod.kin hq).keep I1.bk) ((clsAt_of I1.ok.mod.kin hq2).keep I1.bk) ho hcls ?_
  cases hb : (Value.ref C :: clsMro X.K C).contains (.ref C2) with
  | true => rw [hb] at h; exact h
  | false => rw [hb] at h; exact h
end
theorem del_ok {X : Cx} {pins : List (Addr × Obj)} {σ : St} {H : Hp} {s : Shared} {M : Model} {A : Around} {E : Value → Shared → Prop} {i : Nat} {x : Str} {v : V} {Q : Unit → Shared → Prop} (I : Inv X pins σ H s) (hN : X.N.Nodup) (hi : X.N[i]? = some x) (hk : X.env.scope.names.lookup x = some .local)
    (hv : σ[i]? = some (some v)) (h : ∀ s', Inv X pins (σ.set i none) H s' → Q () s') : wpAny M A (unbindName X.env x) Q E s := by
  obtain ⟨m, hn, hl⟩ := id I.loc
  obtain ⟨u, ru, lk⟩ := hl i x v hi hv (.inl hk)
  have hm : m x = some u := by
    rcases lk with ⟨_, z⟩ | ⟨k, _⟩
    · exact z
    · rcases k with k | k <;> (have k' : X.env.scope.names.lookup x = _ := k; rw [hk] at k'; cases k')
  have plain : (X.env.scope.kind == .class || (X.env.scope.kind == .module && X.env.locals != X.env.globals)) = false := by rw [I.ok.kind]; rfl
  refine wpAny_unbindName_local hk hn hm plain fun h' w' hn' sb => h _ ?_
  obtain ⟨oL, _, _, hoL, _⟩ := id hn
  have young : ∀ b o, X.s₀.heap.get? b = some o → b ≠ X.env.locals := fun b o q => Nat.ne_of_lt (Nat.lt_of_lt_of_le (Heap.lt_size q) I.ok.above)
  refine ⟨I.ok, I.os, I.bare, ⟨fun b o q n hb hx => (sb.2 b (young b o q)).trans (I.base.keep b o q n hb hx), fun b o q n hb hx => ?_, I.base.free, fun b o q hx => ?_, I.base.tups, I.base.frzs, I.base.tbls⟩, ⟨_, hn', fun j y v' q1 q2 q3 => ?_⟩, fun y c q => ?_, I.free, I.freeC, fun p hp => ?_, fun b ob q => ?_, by simpa using I.len⟩
  · obtain ⟨sl, q1⟩ := I.base.slot b o q n hb hx
    exact ⟨sl, (sb.2 b (young b o q)).trans q1⟩
  · obtain ⟨o', q1⟩ := I.base.there b o q hx
    exact ⟨o', (sb.2 b (young b o q)).trans q1⟩
  · by_cases hj : i = j
    · subst hj
      rw [List.getElem?_set, if_pos rfl] at q2
      split at q2 <;> cases q2
    · rw [List.getElem?_set, if_neg hj] at q2
      obtain ⟨u', r', z⟩ := hl j y v' q1 q2 q3
      refine ⟨u', r', ?_⟩
      rcases z with ⟨k, z⟩ | ⟨k, c, z1, z2⟩
      · refine .inl ⟨k, ?_⟩
        have ne : y ≠ x := fun t => hj (nodup_ix hN hi (t ▸ q1))
        simp [ne, z]
      · exact .inr ⟨k, c, z1, z2.sameBut sb (I.cne y c z1)⟩
  · obtain ⟨w2, z⟩ := I.cell y c q
    exact ⟨w2, z.sameBut sb (I.cne y c q)⟩
  · obtain ⟨q, n, ne, nf, d⟩ := I.pin p hp
    exact ⟨(sb.2 p.1 ne).trans q, n, ne, nf, d⟩
  · refine (I.hok b ob q).stay (fun c w2 hc z => (sb.2 c ?_).trans z) (fun _ z => z) fun _ _ z => z
    rintro rfl
    rcases hc with rfl | hc
    · rw [I.free] at q; cases q
    · rw [I.free] at hc; cases hc
section
variable {X : Cx} {nl : Nat} {G : List Str} {C C2 : Addr} {n cx : Str} {np rp hp : Pos} {e : Expr} {rest : List ExceptHandler} {f : Addr → Fe}
theorem fly_apart {pins : List (Addr × Obj)} {σ : St} {Hc H : Hp} {sc s : Shared} {p : Addr} (I : Inv X pins σ Hc sc) (fl : Fly X.prog X.w X.stack Hc sc C H (.ref p) s) : ∃ ob, s.heap.get? p = some ob ∧ ob.cls = .ref C ∧ Inv (Xh X p ob) pins σ H s := by
  have I1 := fl.inv I
  obtain ⟨ob, vs, ho, hcls, hd, hn, hfr⟩ := fl.obj
  refine ⟨ob, ho, hcls, inv_mark I1 ho hn (fun z => ?_) (fun z => ?_) (fun v z => by rw [hd] at z; cases z)⟩
  · obtain ⟨m, ⟨o, es, ep, q1, q2, _⟩, _⟩ := I1.loc
    rw [← z, ho] at q1
    cases q1
    rw [hd] at q2
    cases q2
  · apply hfr
    rcases I.ok.stk with e | ⟨e, _⟩
    · rw [e]; exact z
    · rw [e]
      obtain ⟨env, he, hf⟩ := List.mem_filterMap.mp (show p ∈ X.outer.filterMap (·.frame) from z)
      exact List.mem_filterMap.mpr ⟨env, List.mem_cons_of_mem _ he, hf⟩
theorem eh_retAs (T : Tb X nl G) (j : Nat) (hG : G[j]? = some cx) (hm : X.mg cx = some (.ref C2)) (hq : PySem.W.excIn X.K C bmV idV = true) (hq2 : PySem.W.excIn X.K C2 bmV idV = true) (hb : (Value.ref C :: clsMro X.K C).contains (.ref C2) = true)
    (i : Nat) (hN : (X.N.take nl)[i]? = some n) (hk : X.env.scope.names.lookup n = some .local)
    (he : ∀ p ob, ob.cls = .ref C → Tb0 (Xh X p ob) nl G → EvE (Xh X p ob) e (f p)) : EvH X C (.ExceptHandler (some (.Name cx np)) (some n) [.Return (some e) rp] hp :: rest) (fun p ρ => f p (ρ.set i (.exc p))) := fun pins σ Hc H sc s p Fm ρ D I fl sl q => by
  obtain ⟨hi, hl, hf⟩ := T.nm hN
  refine clause T j hG hm hq hq2 I fl ?_
  rw [hb]
  refine codeAny_handlers_suite_as (fl.land fun h' fl' => ?_)
  obtain ⟨ob, ho, hcls, Ih⟩ := fly_apart I fl'
  refine store_ok (X := Xh X p ob) (v := .ref p) Ih T.nd hi hl rfl (fun s2 I2 => ?_) hf
  dsimp only at q
  have hi' : i < σ.length := by rw [I.len]; exact (List.getElem?_eq_some_iff.mp hi).1
  cases ef : f p (ρ.set i (.exc p)) with
  | ex c => rw [ef] at q; exact q.elim
  | no => rw [ef] at q; exact q.elim
  | ok d =>
    rw [ef] at q
    have sl2 : Sl H (σ.set i (some (.ref p))) (ρ.set i (.exc p)) := Sl.set (c := .exc p) (o := some (.ref p)) sl.sl i rfl
    have hw := he p ob hcls (T.h p ob) pins _ (σ.set i (some (.ref p))) H (fun v H' => Same H H' ∧ Rp H' d v) I2 ⟨_, sl2, by rw [ef]; exact fun v H' s' r => ⟨s', r⟩⟩
    refine wpAny_execs_cons (wpAny_Return_some (wpAny_mono hw (fun u s3 ⟨v, H3, I3, r3, s13, rp⟩ => ?_) fun _ _ z => False.elim z))
    have I4 := inv_unmark I.ok I3
    show wpAny _ X.A (do bindName X.env n .none; unbindBehindTheSuite X.env n hp) _ _ s3
    refine wpAny_bind (wpAny_bindName (store_ok (v := .non) I4 T.nd hi hl rfl (fun s5 I5 => ?_) hf))
    unfold unbindBehindTheSuite
    refine wpAny_onRaise (del_ok (v := .non) I5 T.nd hi hk (by rw [List.getElem?_set, if_pos rfl, if_pos (by simpa using hi')]) fun s6 I6 => ?_)
    exact ⟨v, _, H3, I6, r3, q v H3 (sl.fm.trans s13) rp⟩
end
end D2
set_option Elab.async false
set_option linter.all false
set_option maxRecDepth 100000
set_option maxHeartbeats 4000000
namespace D2
open PySem PySem.Spec PyProof.Rows L2
open Classical in
noncomputable def pick (F : Addr → R PyData) : R PyData := if h : ∃ r, ∀ p, F p = r then h.choose else .no
theorem pick_const (r : R PyData) : pick (fun _ => r) = r := by
  have h : ∃ r', ∀ p : Addr, (fun _ => r) p = r' := ⟨r, fun _ => rfl⟩
  unfold pick
  rw [dif_pos h]
  exact (h.choose_spec 0).symm
theorem pick_ok {F : Addr → R PyData} {d : PyData} (h : pick F = .ok d) (p : Addr) : F p = .ok d := by
  unfold pick at h
  split at h
  · rename_i q
    rw [q.choose_spec p]
    exact h
  · cases h
abbrev Hs := List (Str × (Addr → Rho → R PyData))
noncomputable def tryR (hs : Hs) (ρ : Rho) (k : PyData → Out) : R PyData → R Out
  | .ok d => .ok (k d)
  | .no => .no
  | .ex c => match hs.lookup c with
    | some h => noX (pick (fun p => h p ρ)) >>= fun d => .ok (.rt d)
    | none => .no
inductive HsOk (X : Cx) (src : List ExceptHandler) : Hs → Prop
  | nil : HsOk X src []
  | cons {c : Str} {C : Addr} {h : Addr → Rho → R PyData} {hs : Hs} (hm : X.mg c = some (.ref C)) (he : EvH X C src h) (r : HsOk X src hs) : HsOk X src ((c, h) :: hs)
theorem HsOk.at {X : Cx} {src : List ExceptHandler} {c : Str} {h : Addr → Rho → R PyData} : ∀ {hs : Hs}, HsOk X src hs → hs.lookup c = some h → ∃ C, X.mg c = some (.ref C) ∧ EvH X C src h
  | _, .nil, e => by cases e
  | _, .cons (c := c') hm he r, e => by
    rw [List.lookup_cons] at e
    split at e
    · rename_i q
      have : c = c' := by simpa using q
      subst this
      cases e
      exact ⟨_, hm, he⟩
    · exact HsOk.at r e
section
variable {X : Cx} {k n : Nat} {f : Addr} {fd : FuncData} {ps : List Str} {F : List PyData → R PyData} {x : Str} {p pos sp tp : Pos} {e : Expr} {es : List Expr} {fs : Rho → R (List PyData)} {nl : Nat} {G : List Str}
theorem try_call {pins : List (Addr × Obj)} {σ : St} {H : Hp} {s : Shared} {ρ : Rho} {ds : List PyData} {Qv : Value → Shared → Prop} {Ev : Value → Shared → Prop}
    (C : FnOk X.prog X.w X.K X.mg X.base (CXD X.prog X.w X.mg) k f fd ps (spD F n)) (hr : Room k X.A) (T : Tb X nl G) (j : Nat) (hG : G[j]? = some x) (hm : X.mg x = some (.ref f)) (hk : PySem.W.keepIn X.K (.ref f) = true) (hb : Binds X.K fd ps []) (ha : EvA X.nox (e :: es) fs)
    (hfs : ∀ ρ ds, fs ρ = .ok ds → ds.length = n) (he : (e :: es).all notStar = true) (I : Inv X pins σ H s) (sl : Sl H σ ρ) (efs : fs ρ = .ok ds) (hno : F ds ≠ .no)
    (hok : ∀ d, F ds = .ok d → ∀ v u H' s', Inv X pins σ H' s' → Same H H' → Rp H' d v → RelV v u → Qv u s')
    (hex : ∀ c, F ds = .ex c → ∀ C Hc sc H1 e s', X.mg c = some (.ref C) → Inv X pins σ Hc sc → Same H Hc → Fly X.prog X.w X.stack Hc sc C H1 e s' → Ev e s') :
    wpAny (model X.prog X.w) X.A (eval (.Call (.Name x p) (e :: es) [] pos) X.env) Qv Ev s := by
  rw [List.all_cons, Bool.and_eq_true] at he
  have g := T.gl x (List.mem_of_getElem? hG)
  refine wpAny_Call_Name_kw (ld_glob I g.1 hm ?_ g.2.1)
  have hw := ha pos pins s σ H (fun vs H' => Same H H' ∧ RA Rp H' ds vs) (I.wish _) ⟨ρ, sl, by rw [efs]; exact fun vs H' s' r => ⟨s', r⟩⟩
  refine PySem.W.callWith_K (h₀ := X.base) I.ok.mod.kin hk (wpAny_mono hw (fun us s1 ⟨vs, H1, I1, r, s1', ra⟩ => ⟨I1.unwish.kIn, ?_⟩) fun _ _ z => False.elim z) (star_cons he.1) (star_any he.2)
  have I1 := I1.unwish
  have ra' := ra_iff.mp ra
  have hsp : spD F n vs H1 (fun v H' => Same H1 H' ∧ ∃ d, F ds = .ok d ∧ Rp H' d v) (fun v _ H' => ∃ c, F ds = .ex c ∧ v = .str c 0) := by
    refine ⟨ds, ra', hfs ρ ds efs, ?_⟩
    cases ef : F ds with
    | ok d => exact fun v H' s' r => ⟨s', d, rfl, r⟩
    | ex c => exact fun H' s' => ⟨c, rfl, rfl⟩
    | no => exact absurd ef hno
  have hl : (us ++ []).length = ps.length := by rw [List.append_nil, ← r.length]; exact C.len _ _ _ _ hsp
  refine wpAny_call (codeAny_mono (C.run X.A X.stack s1 H1 ⟨us, []⟩ (us ++ []) vs _ _ hr I1.env0 (hb s1 us I1.kIn hl) (by rw [List.append_nil]; exact r) hsp) fun r' s' hq => ?_)
  cases r' with
  | error e' =>
    obtain ⟨c', C', H', hm', fl, c, ef, ev⟩ := hq
    have : c' = c := by injection ev
    subst this
    exact hex c' ef C' H1 s1 H' e' s' hm' I1 s1' fl
  | ok fl =>
    cases fl with
    | ret u =>
      obtain ⟨v, H', I', rv, s2, d, ef, rp⟩ := I1.after hq
      exact hok d ef v u H' s' I' (s1'.trans s2) rp rv
    | next => exact False.elim hq
    | brk => exact False.elim hq
    | cont => exact False.elim hq
theorem try_caught {pins : List (Addr × Obj)} {σ : St} {H Fm : Hp} {ρ : Rho} {D : Ends} {h0 : ExceptHandler} {src : List ExceptHandler} {hs : Hs} {kk : PyData → Out} {c : Str} {r : R PyData} (hstk : X.stack = X.env :: X.outer ∧ X.env.frame = some X.env.locals) (hH : HsOk X (h0 :: src) hs) (ec : r = .ex c) (sl : SlS Fm H σ ρ) (q : rdO X Fm (tryR hs ρ kk r) D)
    {C : Addr} {Hc H1 : Hp} {sc s' : Shared} {ev : Value} (hm : X.mg c = some (.ref C)) (I : Inv X pins σ Hc sc) (sH : Same H Hc) (fl : Fly X.prog X.w X.stack Hc sc C H1 ev s') :
    wpAny (model X.prog X.w) X.A (noteFrame ev X.env) (fun _ s₂ => wpAny (model X.prog X.w) X.A (setFlight ev none) (fun _ s₃ => wpAny (model X.prog X.w) X.A (handleBy ev X.env (h0 :: src)) (SP X pins D) X.xe s₃) X.xe s₂) X.xe s' := by
  subst ec
  simp only [tryR] at q
  cases el : hs.lookup c with
  | none => rw [el] at q; exact q.elim
  | some h =>
    rw [el] at q
    dsimp only at q
    obtain ⟨C', hm', hE⟩ := hH.at el
    rw [hm] at hm'
    cases hm'
    have fl' := fl
    rw [hstk.1] at fl'
    refine fl'.look (by rw [I.ok.frames, hstk.1]) hstk.2 fun p h' ep fl2 => ?_
    subst ep
    rw [← hstk.1] at fl2
    have sl1 : SlS Fm H1 σ ρ := sl.mono (sH.trans fl.same)
    refine hE pins σ Hc H1 sc _ p Fm ρ D I fl2 sl1 ?_
    cases ep : pick (fun p => h p ρ) with
    | ex c => rw [ep] at q; exact q.elim
    | no => rw [ep] at q; exact q.elim
    | ok d =>
      rw [ep] at q
      rw [pick_ok ep p]
      exact q
noncomputable def sTryE (F : List PyData → R PyData) (fs : Rho → R (List PyData)) (hs : Hs) : Fs := fun ρ => noX (fs ρ) >>= fun ds => tryR hs ρ (fun _ => .nx ρ) (F ds)
variable {h0 : ExceptHandler} {src : List ExceptHandler} {hs : Hs}
theorem es_tryE (C : FnOk X.prog X.w X.K X.mg X.base (CXD X.prog X.w X.mg) k f fd ps (spD F n)) (hr : Room k X.A) (T : Tb X nl G) (hstk : X.stack = X.env :: X.outer ∧ X.env.frame = some X.env.locals) (j : Nat) (hG : G[j]? = some x) (hm : X.mg x = some (.ref f)) (hk : PySem.W.keepIn X.K (.ref f) = true) (hb : Binds X.K fd ps [])
    (ha : EvA X.nox (e :: es) fs) (hfs : ∀ ρ ds, fs ρ = .ok ds → ds.length = n) (hH : HsOk X (h0 :: src) hs) (he : (e :: es).all notStar = true := by rfl) (hsw : swapsWith (.Call (.Name x p) (e :: es) [] pos) none sp.line X.env = pure false := by rfl) :
    EvS X (.Try [.Expr (.Call (.Name x p) (e :: es) [] pos) sp] (h0 :: src) [] [] tp) (sTryE F fs hs) := fun Fm => by
  intro pins s σ H D I ⟨ρ, sl, q⟩
  unfold sTryE at q
  cases efs : fs ρ with
  | ex c => rw [efs] at q; exact q.elim
  | no => rw [efs] at q; exact q.elim
  | ok ds =>
    rw [efs] at q
    simp only [noX, R.ok_bind] at q
    refine wpAny_Try_except (wpAny_execs_cons (wpAny_Expr_any (try_call C hr T j hG hm hk hb ha hfs he I sl.sl efs (fun z => by rw [z] at q; exact q) (fun d ed v u H' s' I' sH rp rv => ?_) fun c ec C' Hc sc H1 ev s' hm' I' sH fl => try_caught hstk hH ec sl q hm' I' sH fl) I.quiet hsw))
    rw [ed] at q
    exact wpAny_execs_nil (wpAny_execs_nil ⟨σ, H', I', q σ H' (sl.mono sH)⟩)
theorem Z.es_tryE (C : FnOk X.prog X.w X.K X.mg X.base (CXD X.prog X.w X.mg) k f fd ps (spD F n)) (hr : Room k X.A) (T : Tb X nl G) (hstk : X.stack = X.env :: X.outer ∧ X.env.frame = some X.env.locals) (j : Nat) (hG : G[j]? = some x) (hm : X.mg x = some (.ref f)) (hk : PySem.W.keepIn X.K (.ref f) = true) (hb : Binds X.K fd ps []) (ha : Z.EvA X.nox (e :: es) fs) (hfs : ∀ ρ ds, fs ρ = .ok ds → ds.length = n) (hH : HsOk X (h0 :: src) hs) (he : (e :: es).all notStar = true := by rfl) (hsw : swapsWith (.Call (.Name x p) (e :: es) [] pos) none sp.line X.env = pure false := by rfl) : Z.EvS X (.Try [.Expr (.Call (.Name x p) (e :: es) [] pos) sp] (h0 :: src) [] [] tp) (sTryE F fs hs) :=
  ⟨D2.es_tryE C hr T hstk j hG hm hk hb ha.un hfs hH he hsw⟩
end
end D2
set_option Elab.async false
set_option linter.all false
set_option maxRecDepth 100000
set_option maxHeartbeats 4000000
namespace D2
open PySem PySem.Spec PyProof.Rows L2
end D2
set_option Elab.async false
set_option linter.all false
set_option maxRecDepth 100000
set_option maxHeartbeats 4000000
namespace D2
open PySem PySem.Spec PyProof.Rows L2
section
variable {X : Cx} {a b c : Expr} {fa fb fc : Fe} {pos p2 : Pos} {nl : Nat} {G : List Str} {x : Str} {p : Pos}
theorem vals_of : ∀ {xs : List V} {vs : List Value}, vs.length = xs.length → (∀ (j : Nat) (v : Value), vs[j]? = some v → ∃ x, xs[j]? = some x ∧ RelV x v) → Vals xs vs
  | [], [], _, _ => .nil
  | [], _ :: _, e, _ => by cases e
  | _ :: _, [], e, _ => by cases e
  | x :: xs, v :: vs, e, h => by
    obtain ⟨y, e1, r⟩ := h 0 v rfl
    cases e1
    exact .cons r (vals_of (by simpa using e) fun j u hu => by
      obtain ⟨z, e2, r2⟩ := h (j + 1) u (by simpa using hu)
      exact ⟨z, by simpa using e2, r2⟩)
end
end D2
set_option Elab.async false
set_option linter.all false
set_option maxRecDepth 100000
set_option maxHeartbeats 4000000
namespace D2
open PySem PySem.Spec PyProof.Rows L2
section
variable {prog : Program} {w : World} {A : Around} {E : Value → Shared → Prop} {s : Shared}
theorem collect_range {R : List Value → Shared → Prop} {r : Addr} {a b c : Int} {t u v : Tok} {n : Nat} (hh : A.handled = none) (hr : IsRange s.heap r a b c t u v) (hsmall : Builtin.Range.small a b c = true)
    (hn : Builtin.Range.rangeSize a b c = n) (hlen : n ≤ 2 ^ 24)
    (h : ∀ (h' : Heap) (tk : Nat) (acc : Array Value), (∀ b o, s.heap.get? b = some o → h'.get? b = some o) → ItemsOf (fun i v => ∃ t, v = .int (a + i * c) t) acc n → R acc.toList { s with heap := h', toks := tk }) :
    wpAny (model prog w) A (collect (.ref r)) R E s := by
  unfold collect
  refine wpAny_bind (wpAny_runValue (codeAny_builtin F.entry_proto_collect ?_))
  rw [Around.under_plainId PySem.F.plain_proto_collect _]
  show wpAny _ A.in1 (newList [] >>= fun l => again (.builtin "list.__iadd__" ⟨[l, .ref r], []⟩)) _ _ s
  refine wpAny_bind (wpAny_newObj_type ?_)
  refine wpAny_pure ⟨plainId_quiet PySem.F.plain_list_iadd _, codeAny_builtin F.entry_list_iadd ?_⟩
  rw [Around.under_plainId PySem.F.plain_list_iadd _]
  have hS₁ : (s.heap.push { cls := .type "list", data := .seq ([] : List Value).toArray }).get? s.heap.objs.size = some { cls := .type "list", data := .seq #[] } := Heap.get?_push_size _ rfl
  show wpAny _ A.in1 (Builtin.List.listExtendWith (.ref s.heap.objs.size) (.ref r) (.ref s.heap.objs.size)) _ _ _
  have key := wpAny_extend_range (prog := prog) (w := w) (A := A) (s := { s with heap := s.heap.push { cls := .type "list", data := .seq ([] : List Value).toArray } })
    (R := fun (q : Result) (s' : Shared) => ∃ (h' : Heap) (tk : Nat) (acc' : Array Value) (c' : Nat), q = .ok (.ret (.ref s.heap.objs.size)) ∧ s' = { s with heap := h', toks := tk } ∧
      (∀ b o, s.heap.get? b = some o → h'.get? b = some o) ∧ h'.get? s.heap.objs.size = some { cls := .type "list", dict := none, data := .seq acc' c', slots := #[] } ∧ ItemsOf (fun i v => ∃ t, v = .int (a + i * c) t) acc' n)
    hh (Heap.get?_push_of_some _ hr) hsmall hn hlen s.heap.objs.size (.ref s.heap.objs.size) 0 hS₁
    (fun h' tk acc' c' hk hS' hacc => ⟨h', tk, acc', c', rfl, rfl, fun b o e => hk b o (Nat.ne_of_lt (Heap.lt_size e)) (Heap.get?_push_of_some _ e), hS', hacc⟩)
  refine wpAny_mono key (fun fin s' x => ?_) fun e s' x => ?_
  · cases fin with
    | done f =>
      obtain ⟨h', tk, acc', c', e, rfl, hk, hS', hacc⟩ := x
      cases e
      show wpAny _ A (load s.heap.objs.size >>= _) _ _ _
      refine wpAny_bind (wpAny_load hS' ?_)
      exact wpAny_pure (h h' tk acc' hk hacc)
    | again c' =>
      obtain ⟨hq, hc⟩ := x
      refine ⟨hq, codeAny_mono hc fun q s' ⟨h', tk, acc', c', e, e2, hk, hS', hacc⟩ => ?_⟩
      subst e e2
      show wpAny _ A (load s.heap.objs.size >>= _) _ _ _
      refine wpAny_bind (wpAny_load hS' ?_)
      exact wpAny_pure (h h' tk acc' hk hacc)
  · obtain ⟨h', tk, acc', c', e, _⟩ := x
    cases e
theorem tuple_new_range (r : Addr) (a b c : Int) (t u v : Tok) (n : Nat) (hsmall : Builtin.Range.small a b c = true) (hn : Builtin.Range.rangeSize a b c = n) (hlen : n ≤ 2 ^ 24) : Meets (Builtin.«tuple.__new__» ⟨[.type "tuple", .ref r], []⟩)
      (fun A R s => A.handled = none ∧ IsRange s.heap r a b c t u v ∧ ∀ (h' : Heap) (tk : Nat) (acc : Array Value), (∀ b o, s.heap.get? b = some o → h'.get? b = some o) → ItemsOf (fun i v => ∃ t, v = .int (a + i * c) t) acc n →
        R (.ok (.ret (.ref h'.objs.size))) { s with heap := h'.push { cls := .type "tuple", data := .seq acc }, toks := tk }) :=
  .of_wp fun prog w A R s h => by
    obtain ⟨hh, hr, h⟩ := h
    have hsub := sub_tuple_self
    have hinit := init_tuple_lookup
    have hmh := madeHere_tuple
    have hT : s.TypeIs (.ref r) "range" := ⟨_, hr, rfl⟩
    have hh1 : A.in1.handled = none := hh
    wp_walk using wpAny_typeOf hT, collect_range hh1 hr hsmall hn hlen
    intro h' tk acc hk hacc
    show wpAny _ _ (Builtin.Tuple.tupleExact acc.toList.toArray >>= fun v => ret v) _ _ _
    unfold Builtin.Tuple.tupleExact
    refine wpAny_bind (wpAny_newObj_type ?_ (show acc.toList.toArray.size ≤ sizeLine by simp only [Array.toArray_toList]; rw [hacc.1, sizeLine_eq]; omega))
    refine wpAny_pure ⟨_, rfl, ?_⟩
    have e : acc.toList.toArray = acc := by simp
    rw [e]
    exact h h' tk acc hk hacc
theorem call_tuple_range {Q : Value → Shared → Prop} {r : Addr} {a b c : Int} {t u v : Tok} {n : Nat} (hh : A.handled = none) (hr : IsRange s.heap r a b c t u v) (hsmall : Builtin.Range.small a b c = true) (hn : Builtin.Range.rangeSize a b c = n) (hlen : n ≤ 2 ^ 24)
    (h : ∀ (h' : Heap) (tk : Nat) (acc : Array Value), (∀ b o, s.heap.get? b = some o → h'.get? b = some o) → ItemsOf (fun i v => ∃ t, v = .int (a + i * c) t) acc n → Q (.ref h'.objs.size) { s with heap := h'.push { cls := .type "tuple", data := .seq acc }, toks := tk }) :
    wpAny (model prog w) A (call (.type "tuple") [.ref r]) Q E s := by
  refine callType_new F.called_tuple (by decide) (F.typeCall_tuple_1 _) (F.newCall_tuple_1 _) (fun obj => F.args_object_init_2 obj _) F.entry_tuple_new
    (tuple_new_range r a b c t u v n hsmall hn hlen) ⟨hh, hr, fun h' tk acc hk hacc => ⟨⟨_, Heap.get?_push_size _ rfl, rfl⟩, h h' tk acc hk hacc⟩⟩
end
section
variable {X : Cx} {a b c : Expr} {fa fb fc : Fe} {pos p2 : Pos} {nl : Nat} {G : List Str} {x : Str} {p : Pos} {fs : Rho → R (List PyData)} {pos2 : Pos}
def rangeV (lo : Int) (n : Nat) : List V := (List.range n).map fun (k : Nat) => .int (lo + k)
theorem rpA_range {H : Hp} (lo : Int) (n : Nat) : RpA H (rangeI lo n) (rangeV lo n) := by
  have key : ∀ l : List Nat, RpA H (l.map fun (k : Nat) => PyData.int (lo + k)) (l.map fun (k : Nat) => V.int (lo + k)) := by
    intro l
    induction l with
    | nil => exact RpA.nil
    | cons k l ih => exact RpA.cons rp_int ih
  exact key _
theorem vals_range {lo : Int} {n : Nat} {acc : Array Value} (h : ItemsOf (fun i v => ∃ t, v = .int (lo + (i : Int) * 1) t) acc n) : Vals (rangeV lo n) acc.toList := by
  refine vals_of (by rw [Array.length_toList, h.1]; simp [rangeV]) fun j v hj => ?_
  obtain ⟨t, e⟩ := h.2 j v (by rw [← Array.getElem?_toList]; exact hj)
  have hjn : j < n := by
    have := (List.getElem?_eq_some_iff.mp hj).1
    rw [Array.length_toList, h.1] at this
    exact this
  refine ⟨.int (lo + j), ?_, t, by rw [e]; simp⟩
  unfold rangeV
  rw [List.getElem?_map, List.getElem?_range hjn]
  rfl
theorem rangeV_len (lo : Int) (n : Nat) : (rangeV lo n).length = n := by simp [rangeV]
def tRg1 (mk : List V → HO) (ta : TA) : TE := fun σ H Q => ta σ H fun vs H1 => ∃ j : Int, vs = [.int j] ∧ j ≤ 16777216 ∧ -(2 ^ 62) ≤ j ∧ ∀ l, H1 l = none → Q (.ref l) (upd H1 l (mk (rangeV 0 j.toNat)))
theorem pe_tupR1 {ta : TA} (T : Tb X nl G) (i : Nat) (hGi : G[i]? = some ("tuple" : Str)) (hmi : X.mg "tuple" = none) (j : Nat) (hG : G[j]? = some ("range" : Str)) (hm : X.mg "range" = none) (ha : PA X [a] ta) (hs : notStar a = true := by rfl) :
    PE X (.Call (.Name "tuple" p) [.Call (.Name "range" p2) [a] [] pos2] [] pos) (tRg1 .tup ta) := by
  intro pins s σ H Q I h
  have g1 := T.gl _ (List.mem_of_getElem? hGi)
  have g2 := T.gl _ (List.mem_of_getElem? hG)
  have sc : starEach [Expr.Call (.Name "range" p2) [a] [] pos2] X.env = (false, eval (Expr.Call (.Name "range" p2) [a] [] pos2) X.env) :: starEach [] X.env := star_cons (by rfl)
  refine Call_ (ld_blt I g1.1 hmi PyProof.Rows.boot_tuple (PyProof.Rows.callWith_type1 ?_ sc rfl))
  rw [sc]
  refine Calls.spliced_cons ?_
  refine Call_ (ld_blt I g2.1 hm boot_range (PyProof.Rows.callWith_type1 (thn (ha pos2 pins s σ H _ I h) fun us s1 ⟨vs, H1, I1, r1, q1⟩ => ?_) (star_cons hs) rfl))
  obtain ⟨n, e, h1, h2, q⟩ := q1
  subst e
  obtain ⟨u, rfl, t, rfl⟩ := vals1 r1
  refine call_range_1 (Calls.spliced_nil ?_)
  have hsz : Builtin.Range.rangeSize 0 n 1 = n.toNat := by rw [rangeSize_one]; split <;> omega
  refine call_tuple_range (n := n.toNat) (I1.ok.hd T.calm) (IsRange.new ..) (small_one (by omega) (by omega) (by omega) (by omega)) hsz (by omega) fun h' tk acc kp hacc => ?_
  have kp' : ∀ b o, s1.heap.get? b = some o → h'.get? b = some o := fun b o e => kp b o (Heap.get?_push_of_some _ e)
  have hg : s1.heap.get? h'.objs.size = none := by
    cases e : s1.heap.get? h'.objs.size with
    | none => rfl
    | some o => exact absurd (Heap.lt_size (kp' _ _ e)) (Nat.lt_irrefl _)
  have hn := inv_none I1 hg
  refine ⟨.ref h'.objs.size, _, inv_laid (s := s1) (t' := tk) (o := .tup (rangeV 0 n.toNat)) I1 (fun b o e => Heap.get?_push_of_some _ (kp' b o e)) hg hn ⟨by rw [rangeV_len, sizeLine_eq]; omega, acc.toList, vals_range hacc, _, Heap.get?_push_size _ rfl, rfl, _, by simp; rfl⟩, rfl, q _ hn⟩
def rgD (mk : List PyData → PyData) : List PyData → R PyData
  | [.int j] => if j ≤ 16777216 ∧ -(2 ^ 62) ≤ j then .ok (mk (rangeI 0 j.toNat)) else .no
  | _ => .no
def eTupR (fs : Rho → R (List PyData)) : Fe := fun ρ => fs ρ >>= rgD .tuple
theorem ev_tupR (T : Tb X nl G) (i : Nat) (hGi : G[i]? = some ("tuple" : Str)) (hmi : X.mg "tuple" = none) (j : Nat) (hG : G[j]? = some ("range" : Str)) (hm : X.mg "range" = none) (ha : EvA X [a] fs) (hs : notStar a = true := by rfl) :
    EvE X (.Call (.Name "tuple" p) [.Call (.Name "range" p2) [a] [] pos2] [] pos) (eTupR fs) :=
  PE.imp (pe_tupR1 T i hGi hmi j hG hm ha hs) fun σ H Q h => (bind_a (I := Rp) (f := fs) (k := fun _ => rgD .tuple) (tgt_r (X := X) dn_r Q) h).post fun vs H1 ⟨_, ds, _, _, p1, q1⟩ => by
    unfold rgD at q1
    split at q1
    · rename_i n
      split at q1
      · rename_i hz
        simp only [RA] at p1
        obtain ⟨v, r', rfl, p, rfl⟩ := p1
        have ev : v = .int n := by simpa only [Rp] using p
        subst ev
        exact ⟨n, rfl, hz.1, hz.2, fun l hl => q1 _ _ (same_up hl _) (rp_new_tup hl (rpA_range 0 n.toNat))⟩
      · exact q1.elim
    · exact q1.elim
theorem Z.ev_tupR (T : Tb X nl G) (i : Nat) (hGi : G[i]? = some ("tuple" : Str)) (hmi : X.mg "tuple" = none) (j : Nat) (hG : G[j]? = some ("range" : Str)) (hm : X.mg "range" = none) (ha : Z.EvA X [a] fs) (hs : notStar a = true := by rfl) : Z.EvE X (.Call (.Name "tuple" p) [.Call (.Name "range" p2) [a] [] pos2] [] pos) (eTupR fs) :=
  ⟨D2.ev_tupR T i hGi hmi j hG hm ha.un hs⟩
end
end D2
set_option Elab.async false
set_option linter.all false
set_option maxRecDepth 100000
set_option maxHeartbeats 4000000
namespace D2
open PySem PySem.Spec PyProof.Rows L2
end D2
set_option Elab.async false
set_option linter.all false
set_option maxRecDepth 100000
set_option maxHeartbeats 4000000
namespace D2
open PySem PySem.Spec PyProof.Rows L2
end D2
set_option Elab.async false
set_option linter.all false
set_option maxRecDepth 100000
set_option maxHeartbeats 4000000
namespace D2
open PySem PySem.Spec PyProof.Rows L2
section
variable {X : Cx} {a b : Expr} {fa fb : Fe} {pos p2 : Pos}
def dMulL : PyData → PyData → R PyData
  | .list xs, .int k => if -(2 ^ 63) ≤ k ∧ k < 2 ^ 63 ∧ xs.length * k.toNat ≤ sizeLine then .ok (.list (List.replicate k.toNat xs).flatten) else .no
  | _, _ => .no
end
theorem RpA.set {H : Hp} {d : PyData} {v : V} (p : Rp H d v) : ∀ {ds : List PyData} {vs : List V} (j : Nat), RpA H ds vs → RpA H (ds.set j d) (vs.set j v)
  | [], vs, j, r => by rw [r.nil_inv]; exact RpA.nil
  | d' :: ds, vs, j, r => by
    obtain ⟨v', r', rfl, p', t⟩ := r.cons_inv
    cases j with
    | zero => exact RpA.cons p t
    | succ j => exact RpA.cons p' (RpA.set p j t)
def sPutL (i : Nat) (fk fv : Fe) : Fs := fun ρ => fv ρ >>= fun v => noX (fk ρ) >>= fun k => match ρ[i]?, k with
  | some (.own (.list ds)), .int n => match ixN ds.length n with
    | some j => .ok (.nx (ρ.set i (.own (.list (ds.set j v)))))
    | none => .no
  | _, _ => .no
section
variable {X : Cx} {nl : Nat} {G : List Str} {x : Str} {f : Fe} {e : Expr}
theorem es_putL {k v : Expr} {fk fv : Fe} {q1 q2 q3 : Pos} (T : Tb X nl G) (n : Nat) (hN : X.N[n]? = some x) (hk : EvE X.nox k fk) (hv : EvE X v fv) (hs : swapsWithSole [.Subscript (.Name x q1) k q2] v q3.line X.env = pure false := by rfl) (hw : swappedStores [.Subscript (.Name x q1) k q2] v X.env = pure none := by rfl)
    (h1 : (assignEach [.Subscript (.Name x q1) k q2] X.env).map (·.2) = [assign (.Subscript (.Name x q1) k q2) X.env] := by rfl)
    (ha : ∀ v, assign (.Subscript (.Name x q1) k q2) X.env v = (do
      let ov ← holding [v] (eval (.Name x q1) X.env)
      let iv ← holding [v, ov] (eval k X.env)
      standAt q2
      holding [v, ov, iv] (setItem ov iv v)
      release [v, ov, iv] []) := by intro _; rfl) :
    EvS X (.Assign [.Subscript (.Name x q1) k q2] v q3) (sPutL n fk fv) := fun Fm => by
  have hm := T.vis x (List.mem_of_getElem? hN)
  have hkX : PE X k (fun σ H Q => rdE X.nox PRp fk σ H Q) := fun pins s σ H Q I h => wpAny_mono (hk pins s σ H Q (I.wish _) h) (fun v s' ⟨y, H', I', r, q⟩ => ⟨y, H', I'.unwish, r, q⟩) fun _ _ z => False.elim z
  refine PS.imp (ps_asg hv (pg_sub (pe_var hN hm.1 hm.2.1 hm.2.2) hkX set_list ha) hs hw h1) fun D σ H h => ?_
  refine (bind_s (P := PRp) (f := fv) (k := fun ρ v => noX (fk ρ) >>= fun k => match ρ[n]?, k with
    | some (.own (.list ds)), .int m => match ixN ds.length m with
      | some j => .ok (.nx (ρ.set n (.own (.list (ds.set j v)))))
      | none => .no
    | _, _ => .no) h).post fun vv H1 ⟨ρ1, dv, sl1, _, p1, q1⟩ => ?_
  cases ef : fk ρ1 with
  | ex c => rw [ef] at q1; exact q1.elim
  | no => rw [ef] at q1; exact q1.elim
  | ok kd =>
    rw [ef] at q1
    simp only [noX, R.ok_bind] at q1
    cases er : ρ1[n]? with
    | none => rw [er] at q1; exact q1.elim
    | some c =>
      rw [er] at q1
      cases c with
      | non => exact q1.elim
      | exc p => exact q1.elim
      | val d' => exact q1.elim
      | own d' =>
        cases d' with
        | list ds =>
          cases kd with
          | int m =>
            dsimp only at q1
            cases ei : ixN ds.length m with
            | none => rw [ei] at q1; exact q1.elim
            | some j =>
              rw [ei] at q1
              obtain ⟨o, h2, w', rfl, p2⟩ := sl1.sl.at er
              simp only [ORp] at p2
              obtain ⟨a', vs, rfl, ha', r⟩ := p2
              refine ⟨.ref a', h2, ρ1, sl1.sl, ?_⟩
              rw [ef]
              intro yv H3 s3 p3
              have ev : yv = .int m := by simpa only [Rp] using p3
              have ha3 := s3 _ _ ha'
              have r3 := r.mono s3
              refine ⟨a', vs, m, j, rfl, ev, ha3, by rw [r.length]; exact ei, q1 _ _ ((sl1.mono s3).change er h2 ha3 (.inl ⟨_, rfl⟩) ?_)⟩
              simp only [ORp]
              exact ⟨a', _, rfl, upd_same, RpA.kp (kp_upd ha3 (.inl ⟨_, rfl⟩)) _ _ (RpA.set (p1.mono s3) j r3)⟩
          | _ => exact q1.elim
        | _ => exact q1.elim
theorem Z.es_putL {k v : Expr} {fk fv : Fe} {q1 q2 q3 : Pos} (T : Tb X nl G) (n : Nat) (hN : X.N[n]? = some x) (hk : Z.EvE X.nox k fk) (hv : Z.EvE X v fv) (hs : swapsWithSole [.Subscript (.Name x q1) k q2] v q3.line X.env = pure false := by rfl) (hw : swappedStores [.Subscript (.Name x q1) k q2] v X.env = pure none := by rfl) (h1 : (assignEach [.Subscript (.Name x q1) k q2] X.env).map (·.2) = [assign (.Subscript (.Name x q1) k q2) X.env] := by rfl) (ha : ∀ v, assign (.Subscript (.Name x q1) k q2) X.env v = (do
      let ov ← holding [v] (eval (.Name x q1) X.env)
      let iv ← holding [v, ov] (eval k X.env)
      standAt q2
      holding [v, ov, iv] (setItem ov iv v)
      release [v, ov, iv] []) := by intro _; rfl) : Z.EvS X (.Assign [.Subscript (.Name x q1) k q2] v q3) (sPutL n fk fv) :=
  ⟨D2.es_putL T n hN hk.un hv.un hs hw h1 ha⟩
def dIp (g : Int → Int → Int) : PyData → PyData → R PyData
  | .int i, .int j => .ok (.int (g i j))
  | _, _ => .no
def sAug (i : Nat) (g : Int → Int → Int) (f : Fe) : Fs := fun ρ => eVar i ρ >>= fun x => f ρ >>= fun y => dIp g x y >>= fun z => .ok (.nx (ρ.set i (.val z)))
theorem es_augG {op : Operator} {g : Int → Int → Int} {pos pos' : Pos} (ho : PIp X op (ipI g)) (T : Tb X nl G) (i : Nat) (hN : (X.N.take nl)[i]? = some x) (he : EvE X e f) : EvS X (.AugAssign (.Name x pos') op e pos) (sAug i g f) := fun Fm => by
  obtain ⟨n1, n2, n3⟩ := T.nm hN
  refine PS.imp (ps_aug T.nd n1 n2 he ho n3) fun D σ H h => ?_
  obtain ⟨ρ, sl, q⟩ := h
  unfold sAug at q
  cases ev : eVar i ρ with
  | ex c => exact absurd ev (by unfold eVar; split <;> simp)
  | no => rw [ev] at q; exact q.elim
  | ok dx =>
    rw [ev] at q
    simp only [R.ok_bind] at q
    have hc : ρ[i]? = some (.val dx) := by
      unfold eVar at ev
      split at ev
      · rename_i d hd; cases ev; exact hd
      · cases ev
    obtain ⟨o, h2, w', rfl, p2⟩ := sl.sl.at hc
    refine ⟨w', h2, ?_⟩
    refine (bind_s (P := PRp) (f := f) (k := fun ρ y => dIp g dx y >>= fun z => .ok (.nx (ρ.set i (.val z)))) ⟨ρ, sl, q⟩).post fun v H1 ⟨ρ1, d, sl1, s1, p, q1⟩ => ?_
    cases dx with
    | int a =>
      cases d with
      | int b =>
        have e1 : w' = .int a := by simpa only [Rp] using p2
        have e2 : v = .int b := by simpa only [Rp] using p
        subst e1
        subst e2
        exact ⟨a, b, rfl, rfl, q1 _ H1 (sl1.set i (fun e z => by cases z) ⟨.int (g a b), rfl, rp_int⟩)⟩
      | _ => exact q1.elim
    | _ => exact q1.elim
theorem es_augA {pos pos' : Pos} (T : Tb X nl G) (i : Nat) (hN : (X.N.take nl)[i]? = some x) (he : EvE X e f) : EvS X (.AugAssign (.Name x pos') .Add e pos) (sAug i (fun a b => a + b) f) := es_augG ip_add T i hN he
theorem Z.es_augA {pos pos' : Pos} (T : Tb X nl G) (i : Nat) (hN : (X.N.take nl)[i]? = some x) (he : Z.EvE X e f) : Z.EvS X (.AugAssign (.Name x pos') .Add e pos) (sAug i (fun a b => a + b) f) :=
  ⟨D2.es_augA T i hN he.un⟩
end
end D2
set_option Elab.async false
set_option linter.all false
set_option maxRecDepth 100000
set_option maxHeartbeats 4000000
namespace D2
open PySem PySem.Spec PyProof.Rows L2
end D2
set_option Elab.async false
set_option linter.all false
set_option maxRecDepth 100000
set_option maxHeartbeats 4000000
namespace D2
open PySem PySem.Spec PyProof.Rows L2
end D2
set_option Elab.async false
set_option linter.all false
set_option maxRecDepth 100000
set_option maxHeartbeats 4000000
namespace D2
open PySem PySem.Spec PyProof.Rows L2
end D2
set_option Elab.async false
set_option linter.all false
set_option maxRecDepth 100000
set_option maxHeartbeats 4000000
namespace D2
open PySem PySem.Spec PyProof.Rows L2
def lendC : Cell → Cell
  | .own _ => .non
  | c => c
def lendRho (i : Nat) (d : PyData) (ρ : Rho) : Rho := (ρ.map lendC).set i (.val d)
def atomD : PyData → R PyData
  | .none => .ok .none
  | .bool b => .ok (.bool b)
  | .int k => .ok (.int k)
  | .str x => .ok (.str x)
  | _ => .no
def eLent (i : Nat) (f : Fe) : Fe := fun ρ => match ρ[i]? with
  | some (.own d) => noX (f (lendRho i d ρ)) >>= atomD
  | _ => f ρ
section
variable {X : Cx} {pins : List (Addr × Obj)} {σ : St} {H H1 : Hp} {s s' : Shared} {a : Addr} {u : HO} {o : Obj}
theorem same_thaw (h : H a = some u) (S : Same (upd H a (.frz o u)) H1) : Same H (upd H1 a u) := fun b x e => by
  by_cases hb : b = a
  · subst hb; rw [upd_same]; rw [h] at e; exact e
  · rw [upd_ne hb]; exact S b x (by rw [upd_ne hb]; exact e)
theorem inv_thaw (I : Inv X pins σ H s) (h : H a = some u) (hm : (∃ xs, u = .lst xs) ∨ ∃ ks, u = .dK ks) (S : Same (upd H a (.frz o u)) H1) (J : Inv X pins σ H1 s') : Inv X pins σ (upd H1 a u) s' := by
  have ha : H1 a = some (.frz o u) := S a _ upd_same
  have nt : ∀ b xs, H1 b = some (.tup xs) → b ≠ a := fun b xs q z => by subst z; rw [ha] at q; cases q
  have nb : ∀ b ps, H1 b = some (.tbl ps) → b ≠ a := fun b ps q z => by subst z; rw [ha] at q; cases q
  have nw : ∀ b y, H1 b = some (.own y) → b ≠ a := fun b y q z => by subst z; rw [ha] at q; cases q
  have nn : ∀ b, H1 b = none → b ≠ a := fun b q z => by subst z; rw [ha] at q; cases q
  have st : ∀ b x, ObjOk X.prog X.w H1 s'.heap b x → ObjOk X.prog X.w (upd H1 a u) s'.heap b x := fun b x q =>
    q.stay (fun c v _ e => e) (fun c e => by rw [upd_ne (nw _ _ e)]; exact e) fun c xs e => by rw [upd_ne (nt _ _ e)]; exact e
  refine ⟨J.ok, J.os, J.bare, ⟨J.base.keep, J.base.slot, fun b ob' e n hx => ?_, J.base.there, fun b xs e => ?_, fun b ob' v e => ?_, fun b ps e => ?_⟩, J.loc, J.cell, ?_, fun x c e => ?_, fun p hp => ?_, fun b x e => ?_, J.len⟩
  · have := J.base.free b ob' e n hx
    rw [upd_ne (nn _ this)]; exact this
  · have := J.base.tups b xs e
    rw [upd_ne (nt _ _ this)]; exact this
  · have q := I.base.frzs b ob' v e
    have hb : b ≠ a := fun z => by subst z; rw [h] at q; rcases hm with ⟨_, rfl⟩ | ⟨_, rfl⟩ <;> cases q
    rw [upd_ne hb]; exact J.base.frzs b ob' v e
  · obtain ⟨m, q⟩ := J.base.tbls b ps e
    exact ⟨m, by rw [upd_ne (nb _ _ q)]; exact q⟩
  · rw [upd_ne (nn _ J.free)]; exact J.free
  · rw [upd_ne (nn _ (J.freeC x c e))]; exact J.freeC x c e
  · obtain ⟨p1, p2, p3⟩ := J.pin p hp
    exact ⟨p1, by rw [upd_ne (nn _ p2)]; exact p2, p3⟩
  · by_cases hb : b = a
    · subst hb
      rw [upd_same] at e; cases e
      obtain ⟨_, q⟩ := (show ObjOk X.prog X.w H1 s'.heap b (.frz o u) from J.hok b _ ha)
      exact st b u q
    · rw [upd_ne hb] at e
      exact st b x (J.hok b x e)
theorem lend_sl {ρ : Rho} {i : Nat} {d : PyData} {v : V} (sl : Sl H σ ρ) (k : Kp H H1) (hv : σ[i]? = some (some v)) (hr : Rp H1 d v) : Sl H1 σ (lendRho i d ρ) := by
  unfold lendRho
  refine ⟨by rw [List.length_set, List.length_map]; exact sl.1, fun j c w' e1 e2 => ?_⟩
  rw [List.getElem?_set] at e1
  by_cases hij : i = j
  · subst hij
    rw [if_pos rfl] at e1
    split at e1
    · cases e1
      rw [hv] at e2
      cases e2
      exact ⟨_, rfl, hr⟩
    · cases e1
  · rw [if_neg hij, List.getElem?_map] at e1
    cases ec : ρ[j]? with
    | none => rw [ec] at e1; cases e1
    | some c' =>
      rw [ec] at e1
      have e1' : lendC c' = c := Option.some.inj e1
      subst e1'
      have q := sl.2 j c' w' ec e2
      cases c' with
      | exc p => exact q
      | non => exact True.intro
      | val d' => obtain ⟨v, z1, z2⟩ := q; exact ⟨v, z1, Rp.kp k _ _ z2⟩
      | own d' => exact True.intro
end
theorem atom_rp {H H' : Hp} {d d' : PyData} {v : V} (h : atomD d = .ok d') (r : Rp H d v) : Rp H' d' v := by
  cases d <;> first | (cases h; simp only [Rp] at r ⊢; exact r) | cases h
theorem EvE.lent {X : Cx} {e : Expr} {f : Fe} (i : Nat) (h : EvE X e f) : EvE X e (eLent i f) := by
  intro pins s σ H Q I q
  obtain ⟨ρ, sl, q⟩ := q
  by_cases ho : ∃ d, ρ[i]? = some (.own d)
  · obtain ⟨d, ho⟩ := ho
    have el : eLent i f ρ = (noX (f (lendRho i d ρ)) >>= atomD) := by unfold eLent; rw [ho]
    rw [el] at q
    have go : ∀ (a : Addr) (u : HO) (hu : H a = some u) (hm : (∃ xs, u = .lst xs) ∨ ∃ ks, u = .dK ks) (o : Obj) (J : Inv X pins σ (upd H a (.frz o u)) s) (sl1 : Sl (upd H a (.frz o u)) σ (lendRho i d ρ)), wpAny (model X.prog X.w) X.A (eval e X.env) (EP X pins σ Q) X.xe s := fun a u hu hm o J sl1 => by
      cases ef : f (lendRho i d ρ) with
      | no => rw [ef] at q; exact q.elim
      | ex c => rw [ef] at q; exact q.elim
      | ok d1 =>
        rw [ef] at q
        change rdR X PRp (atomD d1) H Q at q
        cases ea : atomD d1 with
        | no => rw [ea] at q; exact q.elim
        | ex c => rw [ea] at q; cases d1 <;> cases ea
        | ok d2 =>
          rw [ea] at q
          refine thn (h pins s σ (upd H a (.frz o u)) (fun v H' => Same (upd H a (.frz o u)) H' ∧ Rp H' d1 v) J ⟨lendRho i d ρ, sl1, by rw [ef]; exact fun v H' hs p => ⟨hs, p⟩⟩) fun w s' ⟨v, H', J', r, hs, p⟩ => ?_
          exact ⟨v, upd H' a u, inv_thaw I hu hm hs J', r, q v _ (same_thaw hu hs) (atom_rp ea p)⟩
    obtain ⟨w', h2, v, rfl, qo⟩ := sl.at ho
    cases d <;> simp only [ORp] at qo
    · rename_i ds
      obtain ⟨a, vs, rfl, ha, r⟩ := qo
      obtain ⟨o, J⟩ := inv_freeze I ha (.inl ⟨_, rfl⟩)
      have kp := kp_upd (o' := .frz o (.lst vs)) ha (.inl ⟨_, rfl⟩)
      have hr : Rp (upd H a (.frz o (.lst vs))) (.list ds) (.ref a) := by
        simp only [Rp]
        exact ⟨a, o, vs, rfl, upd_same, RpA.kp kp _ _ r⟩
      exact go a _ ha (.inl ⟨_, rfl⟩) o J (lend_sl sl kp h2 hr)
    · rename_i ds
      obtain ⟨a, vs, rfl, ha, r⟩ := qo
      obtain ⟨o, J⟩ := inv_freeze I ha (.inr ⟨_, rfl⟩)
      have kp := kp_upd (o' := .frz o (.dK vs)) ha (.inr ⟨_, rfl⟩)
      have hr : Rp (upd H a (.frz o (.dK vs))) (.dict ds) (.ref a) := by
        simp only [Rp]
        exact .inl ⟨a, o, vs, rfl, upd_same, RpK.kp kp _ _ r⟩
      exact go a _ ha (.inr ⟨_, rfl⟩) o J (lend_sl sl kp h2 hr)
  · have el : eLent i f ρ = f ρ := by
      unfold eLent
      split
      · rename_i d e1; exact (ho ⟨d, e1⟩).elim
      · rfl
    rw [el] at q
    exact h pins s σ H Q I ⟨ρ, sl, q⟩
theorem Z.EvE.lent {X : Cx} {e : Expr} {f : Fe} (i : Nat) (h : Z.EvE X e f) : Z.EvE X e (eLent i f) :=
  ⟨D2.EvE.lent i h.un⟩
end D2
set_option Elab.async false
set_option linter.all false
set_option maxRecDepth 100000
set_option maxHeartbeats 4000000
namespace D2
open PySem PySem.Spec PyProof.Rows L2
def insD (C : Addr) (names : List Str) (ds : List PyData) : PyData := .dict ((.none, .int C) :: (names.zip ds).map fun p => (.str p.1, p.2))
def fldL (f : Str) : List (PyData × PyData) → R PyData
  | [] => .no
  | (.str x, d) :: r => if x = f then .ok d else fldL f r
  | _ :: _ => .no
def fldD (C : Addr) (f : Str) : PyData → R PyData
  | .dict ((.none, .int c) :: kvs) => if c = (C : Int) then fldL f kvs else .no
  | _ => .no
def eNew (C : Addr) (names : List Str) (fs : Rho → R (List PyData)) : Fe := fun ρ => fs ρ >>= fun ds => .ok (insD C names ds)
def spI (C : Addr) (names : List Str) : Sp := fun vs H Q _ => ∃ x dx ws, vs = .ref x :: ws ∧ H x = some (.ins C dx []) ∧ ws.length = names.length ∧ ∀ H', H' x = some (.ins C dx (names.zip ws)) → (∀ b, b ≠ x → H' b = H b) → Q .non H'
section
variable {X : Cx} {pins : List (Addr × Obj)} {σ : St} {H : Hp} {s : Shared} {a C dx : Addr} {fs : List (Str × V)}
theorem inv_freezeI (I : Inv X pins σ H s) (h : H a = some (.ins C dx fs)) : ∃ o, Inv X pins σ (upd H a (.frz o (.ins C dx fs))) s := by
  have ob := I.hok a _ h
  obtain ⟨o, hg⟩ := objGet ob
  have nt : ∀ b xs, H b = some (.tup xs) → b ≠ a := fun b xs q z => by subst z; rw [h] at q; cases q
  have nf : ∀ b o' u', H b = some (.frz o' u') → b ≠ a := fun b o' u' q z => by subst z; rw [h] at q; cases q
  have nb : ∀ b ps, H b = some (.tbl ps) → b ≠ a := fun b ps q z => by subst z; rw [h] at q; cases q
  have nw : ∀ b y, H b = some (.own y) → b ≠ a := fun b y q z => by subst z; rw [h] at q; cases q
  have nn : ∀ b, H b = none → b ≠ a := fun b q z => by subst z; rw [h] at q; cases q
  have st : ∀ b x, ObjOk X.prog X.w H s.heap b x → ObjOk X.prog X.w (upd H a (.frz o (.ins C dx fs))) s.heap b x := fun b x q =>
    q.stay (fun c v _ e => e) (fun c e => by rw [upd_ne (nw _ _ e)]; exact e) fun c xs e => by rw [upd_ne (nt _ _ e)]; exact e
  refine ⟨o, ⟨I.ok, I.os, I.bare, ⟨I.base.keep, I.base.slot, fun b ob' e n hx => ?_, I.base.there, fun b xs e => ?_, fun b ob' v e => ?_, fun b ps e => ?_⟩, I.loc, I.cell, ?_, fun x c e => ?_, fun p hp => ?_, fun b x e => ?_, I.len⟩⟩
  · have := I.base.free b ob' e n hx
    rw [upd_ne (nn _ this)]; exact this
  · have := I.base.tups b xs e
    rw [upd_ne (nt _ _ this)]; exact this
  · have := I.base.frzs b ob' v e
    rw [upd_ne (nf _ _ _ this)]; exact this
  · obtain ⟨m, q⟩ := I.base.tbls b ps e
    exact ⟨m, by rw [upd_ne (nb _ _ q)]; exact q⟩
  · rw [upd_ne (nn _ I.free)]; exact I.free
  · rw [upd_ne (nn _ (I.freeC x c e))]; exact I.freeC x c e
  · obtain ⟨p1, p2, p3⟩ := I.pin p hp
    exact ⟨p1, by rw [upd_ne (nn _ p2)]; exact p2, p3⟩
  · by_cases hb : b = a
    · subst hb
      rw [upd_same] at e; cases e
      exact ⟨hg, st b _ ob⟩
    · rw [upd_ne hb] at e
      exact st b x (I.hok b x e)
theorem kp_updI {o' : HO} (h : H a = some (.ins C dx fs)) : Kp H (upd H a o') := by
  refine ⟨fun b xs e => ?_, fun b o v e => ?_⟩
  · rw [upd_ne]; exact e
    rintro rfl; rw [h] at e; cases e
  · rw [upd_ne]; exact e
    rintro rfl; rw [h] at e; cases e
end
theorem rpF_zip {H : Hp} : ∀ {names : List Str} {ds : List PyData} {vs : List V}, RpA H ds vs → RpF H ((names.zip ds).map fun p => (.str p.1, p.2)) (names.zip vs)
  | [], ds, vs, _ => by simp only [List.zip_nil_left, List.map_nil, RpF]
  | n :: names, [], vs, r => by
    simp only [RpA] at r
    subst r
    simp only [List.zip_nil_right, List.map_nil, RpF]
  | n :: names, d :: ds, vs, r => by
    simp only [RpA] at r
    obtain ⟨v, t, rfl, p, q⟩ := r
    simp only [List.zip_cons_cons, List.map_cons, RpF, RpQ]
    exact ⟨n, v, _, rfl, ⟨rfl, p⟩, rpF_zip q⟩
theorem fldL_rp {H : Hp} {f : Str} {d : PyData} : ∀ {kvs : List (PyData × PyData)} {fs : List (Str × V)}, RpF H kvs fs → fldL f kvs = .ok d → ∃ v, fs.lookup f = some v ∧ Rp H d v
  | [], fs, _, e => by cases e
  | (k, d') :: kvs, fs, r, e => by
    simp only [RpF, RpQ] at r
    obtain ⟨x, v, t, rfl, ⟨rfl, p⟩, q⟩ := r
    simp only [fldL] at e
    by_cases h : x = f
    · rw [if_pos h] at e
      cases e
      subst h
      exact ⟨v, by rw [List.lookup_cons_self], p⟩
    · rw [if_neg h] at e
      obtain ⟨w, w1, w2⟩ := fldL_rp q e
      refine ⟨w, ?_, w2⟩
      rw [List.lookup_cons]
      have : (f == x) = false := by
        cases z : f == x with
        | false => rfl
        | true => exact (h (eq_of_beq z).symm).elim
      rw [this]
      exact w1
theorem fldL_ex {f : Str} {c : Str} : ∀ {kvs : List (PyData × PyData)}, fldL f kvs ≠ .ex c
  | [], e => by cases e
  | (k, d) :: kvs, e => by
    cases k <;> simp only [fldL] at e <;> try cases e
    split at e
    · cases e
    · exact fldL_ex e
section
variable {X : Cx} {e : Expr} {es : List Expr} {fe : Fe} {pos p : Pos} {nl : Nat} {G : List Str} {x : Str}
theorem ev_new {k : Nat} {C f : Addr} {fd : FuncData} {ps names : List Str} {fs : Rho → R (List PyData)} (M : Mk X.K C f) (F : FnOk X.prog X.w X.K X.mg X.base (CXD X.prog X.w X.mg) k f fd ps (spI C names)) (hr : Room (k + 1) X.A) (T : Tb X nl G) (j : Nat) (hG : G[j]? = some x) (hm : X.mg x = some (.ref C)) (hb : Binds X.K fd ps []) (ha : EvA X (e :: es) fs)
    (hfs : ∀ ρ ds, fs ρ = .ok ds → ds.length = names.length) (he : (e :: es).all notStar = true := by rfl) : EvE X (.Call (.Name x p) (e :: es) [] pos) (eNew C names fs) := by
  rw [List.all_cons, Bool.and_eq_true] at he
  have g := T.gl x (List.mem_of_getElem? hG)
  intro pins s σ H Q I ⟨ρ, sl, q⟩
  unfold eNew at q
  have base := pe_make (p := p) (pos := pos) M F hr g.1 hm hb .nil passesD ha g.2.1 (star_cons he.1) (star_any he.2)
  cases e1 : fs ρ with
  | ex c => rw [e1] at q; exact thn (base pins s σ H (fun _ _ => False) I ⟨ρ, sl, by rw [e1]; exact q⟩) fun u s' ⟨v, H', I', r, z⟩ => z.elim
  | no => rw [e1] at q; exact q.elim
  | ok ds =>
    rw [e1] at q
    have q' : rdR X PRp (.ok (insD C names ds)) H Q := q
    refine thn (base pins s σ H (fun v H' => ∃ a dx vs, v = .ref a ∧ H a = none ∧ H' a = some (.ins C dx (names.zip vs)) ∧ RpA H' ds vs ∧ Same H H') I ⟨ρ, sl, ?_⟩) fun u s' ⟨v, H', I', r, a, dx, vs, ev, hn, ha', rp, sm⟩ => ?_
    · rw [e1]
      intro vs H1 s1 r1 y dy hy hdy hne
      rw [List.append_nil]
      have r2 := ra_iff.mp r1
      refine ⟨y, dy, vs, rfl, upd_same, by rw [r2.length]; exact hfs ρ ds e1, fun H' h1 h2 => ⟨rfl, y, dy, vs, rfl, s1.free hy, h1, ?_, ?_⟩⟩
      · have sm : Same H1 H' := fun b o eb => by
          rw [h2 b (ne_of_none eb hy), upd_ne (ne_of_none eb hy), upd_ne (ne_of_none eb hdy)]; exact eb
        exact r2.mono sm
      · intro b o eb
        have eb1 := s1 b o eb
        rw [h2 b (ne_of_none eb1 hy), upd_ne (ne_of_none eb1 hy), upd_ne (ne_of_none eb1 hdy)]; exact eb1
    · subst ev
      obtain ⟨o, J⟩ := inv_freezeI I' ha'
      have kp := kp_updI (o' := .frz o (.ins C dx (names.zip vs))) ha'
      refine ⟨.ref a, _, J, r, q' _ _ (fun b x eb => by rw [upd_ne (ne_of_none eb hn)]; exact sm b x eb) ?_⟩
      show Rp _ (insD C names ds) _
      unfold insD
      simp only [Rp]
      refine .inr ⟨a, o, C, dx, _, rfl, upd_same, ?_⟩
      simp only [RpI]
      exact ⟨True.intro, RpF.kp kp _ _ (rpF_zip rp)⟩
theorem Z.ev_new {k : Nat} {C f : Addr} {fd : FuncData} {ps names : List Str} {fs : Rho → R (List PyData)} (M : Mk X.K C f) (F : FnOk X.prog X.w X.K X.mg X.base (CXD X.prog X.w X.mg) k f fd ps (spI C names)) (hr : Room (k + 1) X.A) (T : Tb X nl G) (j : Nat) (hG : G[j]? = some x) (hm : X.mg x = some (.ref C)) (hb : Binds X.K fd ps []) (ha : Z.EvA X (e :: es) fs) (hfs : ∀ ρ ds, fs ρ = .ok ds → ds.length = names.length) (he : (e :: es).all notStar = true := by rfl) : Z.EvE X (.Call (.Name x p) (e :: es) [] pos) (eNew C names fs) :=
  ⟨D2.ev_new M F hr T j hG hm hb ha.un hfs he⟩
def tFldZ (K : PySem.W.Frag) (ta : TE) (f : Str) : TE := fun σ H Q => ta σ H fun x H1 => ∃ a o C dx fs v, x = .ref a ∧ H1 a = some (.frz o (.ins C dx fs)) ∧ Cls K C ∧ NoAttr K C f ∧ fs.lookup f = some v ∧ Q v H1
theorem pe_fldZ {f : Str} {ta : TE} (he : PE X e ta) (hb : attributeBase e f X.env (eval e X.env) = eval e X.env) : PE X (.Attribute e f pos) (tFldZ X.K ta f) := by
  intro pins s σ H Q I h
  refine attr_of hb (thn (he pins s σ H _ I h) fun u s1 ⟨x, H1, I1, rx, a, o, C, dx, fs, v, ex, ea, c, n, l, q⟩ => ?_)
  subst ex
  obtain rfl : u = Value.ref a := rx
  obtain ⟨_, d, z, ne, ob, mA, nn, r, qq⟩ := (show ObjOk X.prog X.w H1 s1.heap a (.frz o (.ins C dx fs)) from I1.hok a _ ea)
  obtain ⟨u', hu, ru⟩ := RelO.some_of (v := v) (o := mA f) (by rw [← l]; exact r f)
  exact get_map I1.kIn ⟨ob, nn, ne⟩ (c.get f) c.hd n hu (handed_of ru) ⟨v, H1, I1.tok _, ru, q⟩
theorem ev_fld {C : Addr} {f : Str} (cl : Cls X.K C) (na : NoAttr X.K C f) (he : EvE X e fe) (hb : attributeBase e f X.env (eval e X.env) = eval e X.env := by rfl) : EvE X (.Attribute e f pos) (e1 (fldD C f) fe) := by
  refine PE.imp (pe_fldZ he hb) fun σ H Q h => ?_
  refine (bind_e (P := PRp) (f := fe) (k := fun _ x => fldD C f x) (tgt_r (X := X) dn_r Q) h).post fun v H1 ⟨_, d1, _, _, p1, q1⟩ => ?_
  unfold fldD at q1
  split at q1
  · rename_i c kvs
    split at q1
    · rename_i hc
      cases ef : fldL f kvs with
      | no => rw [ef] at q1; exact q1.elim
      | ex c => exact (fldL_ex ef).elim
      | ok d =>
        rw [ef] at q1
        have p2 : Rp H1 (.dict ((.none, .int c) :: kvs)) v := p1
        simp only [Rp] at p2
        rcases p2 with ⟨a, o, ks, rfl, ha, r⟩ | ⟨a, o, C', dx, fs, rfl, ha, r⟩
        · simp only [RpK, RpP] at r
          obtain ⟨κ, _, _, _, ⟨r1, _⟩, _⟩ := r
          cases κ <;> cases r1
        · simp only [RpI] at r
          obtain ⟨r1, r2⟩ := r
          have hC : c = (C' : Int) := by injection r1 with _ r3; injection r3
          have hCC : C' = C := by
            have : (C' : Int) = (C : Int) := hC.symm.trans hc
            exact Int.ofNat.inj this
          subst hCC
          obtain ⟨w, w1, w2⟩ := fldL_rp r2 ef
          exact ⟨a, o, C', dx, fs, w, rfl, ha, cl, na, w1, q1 w H1 (Same.refl _) w2⟩
    · exact q1.elim
  · exact q1.elim
theorem Z.ev_fld {C : Addr} {f : Str} (cl : Cls X.K C) (na : NoAttr X.K C f) (he : Z.EvE X e fe) (hb : attributeBase e f X.env (eval e X.env) = eval e X.env := by rfl) : Z.EvE X (.Attribute e f pos) (e1 (fldD C f) fe) :=
  ⟨D2.ev_fld cl na he.un hb⟩
end
theorem putF3 {a b c : Str} {x y z : V} (h1 : ¬ a = b) (h2 : ¬ a = c) (h3 : ¬ b = c) : putF c z (putF b y (putF a x [])) = [(a, x), (b, y), (c, z)] := by
  simp only [putF, if_neg h1, if_neg h2, if_neg h3]
def sFz (i : Nat) (g : Fs) : Fs := fun ρ => match ρ[i]? with
  | some (.own d) => g (ρ.set i (.val d))
  | _ => g ρ
theorem es_fz {X : Cx} {st : Stmt} {g : Fs} (i : Nat) (h : EvS X st g) : EvS X st (sFz i g) := fun Fm => by
  intro pins s σ H D I ⟨ρ, sl, q⟩
  unfold sFz at q
  split at q
  · rename_i d e
    obtain ⟨H2, v, I2, sl2, _, _⟩ := fz_at I sl e
    exact h Fm pins s σ H2 D I2 ⟨_, sl2, q⟩
  · exact h Fm pins s σ H D I ⟨ρ, sl, q⟩
theorem Z.es_fz {X : Cx} {st : Stmt} {g : Fs} (i : Nat) (h : Z.EvS X st g) : Z.EvS X st (sFz i g) :=
  ⟨D2.es_fz i h.un⟩
end D2
set_option Elab.async false
set_option linter.all false
set_option maxRecDepth 100000
set_option maxHeartbeats 4000000
namespace D2
open PySem PySem.Spec PyProof.Rows L2
theorem Z.fn_data {P : Program} {w : World} {K : PySem.W.Frag} {mg : Str → Option Value} {base : Heap} {x qual : Str} {st : Stmt} {f : Addr} {fd : FuncData} {N ps : List Str} {k : Nat} {g : Fs} (F : Fun K x qual st f fd) (S : FnScope N ps (defScope st))
    (body : ∀ (cdv : Value) (A : Around) (outer : List Env) (s : Shared) (H : Hp) (E : XK), Room k (A.deeper (envOfC qual (defScope st) s.heap.objs.size f cdv)) →
      Z.EvSs (cxOf (CXD P w mg) P w K mg base N qual (defScope st) f cdv A outer s H E) (defBody st) g) : FnOk P w K mg base (CXD P w mg) (k + 1) f fd ps (spD (fnR N.length g) ps.length) :=
  D2.fn_data F S fun cdv A outer s H E hr => (body cdv A outer s H E hr).un
def noLists (K : PySem.W.Frag) : Bool := K.all fun p => match p.2.cls with
  | .type n => !(n == "list")
  | _ => true
theorem lookup_mem {α β : Type} [BEq α] {a : α} {o : β} : ∀ {K : List (α × β)}, K.lookup a = some o → ∃ p ∈ K, p.2 = o
  | [], e => by cases e
  | (b, x) :: r, e => by
    rw [List.lookup_cons] at e
    split at e
    · cases e; exact ⟨_, List.mem_cons_self, rfl⟩
    · obtain ⟨p, h1, h2⟩ := lookup_mem e
      exact ⟨p, List.mem_cons_of_mem _ h1, h2⟩
theorem noLists_at {K : PySem.W.Frag} (h : noLists K = true) {a : Addr} {o : Obj} (e : K.lookup a = some o) (c : o.cls = .type "list") : False := by
  obtain ⟨p, m, rfl⟩ := lookup_mem e
  have q := List.all_eq_true.mp h _ m
  simp only [c] at q
  simp at q
def lawOk (F : List PyData → R PyData) : Prop := ∀ ns : List Int, ns.length ≤ 63 → F [.list (ns.map .int)] = .ok (.bool true)
theorem walk {l : PySem.W.OpenLaw} {q : Program} {loose : List Str} {XP : (Str → Option Value) → Heap → Prop} {YP : World → Heap → Prop} {d : DefRec} {K : Params → PySem.W.Frag} {k : Nat} {x : Str} {F : List PyData → R PyData} (hn : l.most = some 63) (hdf : d.params.defaults = [])
    (hr : Room k callerA) (hY : ∀ (w : World) (h : Heap), YP w h → (K w.params).In h) (hF : lawOk F)
    (G : ∀ (w : World) (mg : Str → Option Value) (fa : Addr) (h : Heap), (K w.params).In h → h.Ns mainGlobals mg → mg d.name = some (.ref fa) →
      noLists (K w.params) = true ∧ ∃ fd : FuncData, (∀ (s : Shared) (u : Value), BindsTo s fd ⟨[u], []⟩ [(x, u)]) ∧ ∀ base : Heap, (K w.params).In base → base.Ns mainGlobals mg → FnOk l.prog w (K w.params) mg base (CXD l.prog w mg) k fa fd [x] (spD F 1)) :
    PySem.W.WalkO q loose XP YP l.row.toRowW d [] (fun f vs => PySem.call f vs) := by
  refine Att.attach_call hn hdf fun w s₀ s₁ mg mb fa o pm cd doc a vs ns G0 Y ho hd hcd hmg hobj hints hlen hg => ?_
  have KX := hY w _ Y
  obtain ⟨nl, fd, hb, hG⟩ := G w mg fa _ KX G0.T.g hmg
  refine L2.law_call (sp := spD F 1) KX G0.T.g G0.T.b G0.T.builtins G0.T.nolimit hg hobj hints (Nat.le_trans hlen (by decide)) hr hG hb (fun H hO hS => ?_) fun H e s' ⟨_, _, _, _, _, z⟩ => z
  refine ⟨[.list (ns.map .int)], RpA.cons ?_ RpA.nil, rfl, ?_⟩
  · rcases hS with (h | ⟨o, h⟩) | ⟨o, its, n, h, c, _⟩
    · rcases hO a with z | ⟨o, xs, z⟩
      · rw [z] at h; cases h
      · rw [z] at h; cases h
    · simp only [Rp]
      exact ⟨a, o, _, rfl, h, RpA.ints ns⟩
    · exact (noLists_at nl h c).elim
  · rw [hF ns hlen]
    intro v H' _ r
    simpa only [Rp] using r
end D2
set_option Elab.async false
set_option linter.all false
set_option maxRecDepth 100000
set_option maxHeartbeats 4000000
namespace D2
open PySem PySem.Spec PyProof.Rows L2
@[simp] theorem noX_ok {α : Type} (a : α) : noX (R.ok a) = .ok a := (rfl)
def retR : Out → R PyData
  | .rt d => .ok d
  | .nx _ => .ok .none
  | _ => .no
theorem fnR_eq (n : Nat) (g : Fs) (ds : List PyData) : fnR n g ds = (g (ds.map Cell.val ++ List.replicate (n - ds.length) .non) >>= retR) := by
  unfold fnR
  congr 1
@[simp] theorem retR_rt (d : PyData) : retR (.rt d) = .ok d := (rfl)
section
variable (f g h : Fe) (ρ : Rho) (i j : Nat) (t u : Rho → R Bool) (a b : Fs) (fs : Rho → R (List PyData)) (F : List PyData → R PyData) (d e : PyData)
@[simp] theorem eC_eq : eC d ρ = .ok d := (rfl)
@[simp] theorem eVar_0 : eVar 0 (.val d :: ρ) = .ok d := (rfl)
@[simp] theorem eVar_s (c : Cell) : eVar (i + 1) (c :: ρ) = eVar i ρ := (rfl)
@[simp] theorem eVarB_o : eVarB 0 (.own d :: ρ) = .ok d := (rfl)
@[simp] theorem eVarB_s (c : Cell) : eVarB (i + 1) (c :: ρ) = eVarB i ρ := (rfl)
@[simp] theorem e1_eq (k : PyData → R PyData) : e1 k f ρ = (f ρ >>= fun x => k x) := (rfl)
@[simp] theorem e2_eq (k : PyData → PyData → R PyData) : e2 k f g ρ = (f ρ >>= fun x => g ρ >>= fun y => k x y) := (rfl)
@[simp] theorem tE_eq : tE f ρ = (f ρ >>= asB) := (rfl)
@[simp] theorem asB_b (k : Bool) : asB (.bool k) = .ok k := (rfl)
@[simp] theorem tAndR_eq : tAndR t u ρ = (t ρ >>= fun k => if k = true then u ρ else .ok false) := (rfl)
@[simp] theorem tOrR_eq : tOrR t u ρ = (t ρ >>= fun k => if k = true then .ok true else u ρ) := (rfl)
@[simp] theorem tNotR_eq : tNotR t ρ = (t ρ >>= fun k => .ok (!k)) := (rfl)
@[simp] theorem eAnd_eq : eAnd f g ρ = (f ρ >>= fun d => asB d >>= fun k => if k = true then g ρ else .ok (.bool false)) := (rfl)
@[simp] theorem eIf_eq : eIf t f g ρ = (t ρ >>= fun k => if k = true then f ρ else g ρ) := (rfl)
@[simp] theorem aNil_eq : aNil ρ = .ok [] := (rfl)
@[simp] theorem aCons_eq : aCons f fs ρ = (f ρ >>= fun d => fs ρ >>= fun ds => .ok (d :: ds)) := (rfl)
@[simp] theorem eCall_eq : eCall F fs ρ = (fs ρ >>= F) := (rfl)
@[simp] theorem eChain_eq (p q : PyData → PyData → R PyData) : eChain p q f g h ρ = (f ρ >>= fun x => g ρ >>= fun y => p x y >>= fun d => asB d >>= fun k => if k = true then h ρ >>= fun z => q y z else .ok (.bool false)) := (rfl)
@[simp] theorem eTup_eq : eTup fs ρ = (fs ρ >>= fun ds => if ds.length ≤ sizeLine then .ok (.tuple ds) else .no) := (rfl)
@[simp] theorem eLst_eq : eLst fs ρ = (fs ρ >>= fun ds => if ds.length ≤ sizeLine then .ok (.list ds) else .no) := (rfl)
@[simp] theorem oNone_eq : oNone ρ = .ok none := (rfl)
@[simp] theorem oSome_eq : oSome f ρ = (f ρ >>= fun d => asI d >>= fun i => .ok (some i)) := (rfl)
@[simp] theorem asI_i (k : Int) : asI (.int k) = .ok k := (rfl)
@[simp] theorem eSl_eq (lo hi : Fo) : eSl f lo hi ρ = (f ρ >>= fun d => lo ρ >>= fun l => hi ρ >>= fun u => dSl d l u) := (rfl)
@[simp] theorem sSkip_eq : sSkip ρ = .ok (.nx ρ) := (rfl)
@[simp] theorem sSeq_eq : sSeq a b ρ = (a ρ >>= thenO b) := (rfl)
@[simp] theorem thenO_nx : thenO b (.nx ρ) = b ρ := (rfl)
@[simp] theorem thenO_rt : thenO b (.rt d) = .ok (.rt d) := (rfl)
@[simp] theorem sIf_eq : sIf t a b ρ = (t ρ >>= fun k => if k = true then a ρ else b ρ) := (rfl)
@[simp] theorem sRet_eq : sRet f ρ = (f ρ >>= fun d => .ok (.rt d)) := (rfl)
@[simp] theorem sSet_eq : sSet i f ρ = (f ρ >>= fun d => .ok (.nx (ρ.set i (.val d)))) := (rfl)
@[simp] theorem sOwn_eq : sOwn i f ρ = (f ρ >>= fun d => .ok (.nx (ρ.set i (.own d)))) := (rfl)
@[simp] theorem iSeq_eq : iSeq f ρ = (f ρ >>= seqD) := (rfl)
@[simp] theorem iRange_eq : iRange fs ρ = (fs ρ >>= rngD) := (rfl)
@[simp] theorem seqD_t (ds : List PyData) : seqD (.tuple ds) = .ok ds := (rfl)
@[simp] theorem seqD_l (ds : List PyData) : seqD (.list ds) = .ok ds := (rfl)
@[simp] theorem sNox_eq : sNox a ρ = noX (a ρ) := (rfl)
theorem sFor_eq (it : Rho → R (List PyData)) (bb : PyData → Rho → Option Rho) : sFor it bb a ρ = (it ρ >>= fun ds => forR bb a ds ρ) := rfl
@[simp] theorem forR_nil (bb : PyData → Rho → Option Rho) : forR bb a [] ρ = .ok (.nx ρ) := by unfold forR; rfl
def turnO (k : Rho → R Out) : Out → R Out
  | .nx ρ => k ρ
  | .ct ρ => k ρ
  | .bk ρ => .ok (.nx ρ)
  | .rt r => .ok (.rt r)
@[simp] theorem turnO_nx (k : Rho → R Out) : turnO k (.nx ρ) = k ρ := (rfl)
@[simp] theorem turnO_rt (k : Rho → R Out) : turnO k (.rt d) = .ok (.rt d) := (rfl)
theorem forR_cons (i : Nat) (ds : List PyData) : forR (bName i) a (d :: ds) ρ = (a (ρ.set i (.val d)) >>= turnO (forR (bName i) a ds)) := by
  rw [forR]
  show (a (ρ.set i (.val d)) >>= _) = _
  congr 1
theorem forR_pair (i j : Nat) (x y : PyData) (ds : List PyData) : forR (bPair i j) a (.tuple [x, y] :: ds) ρ = (a ((ρ.set i (.val x)).set j (.val y)) >>= turnO (forR (bPair i j) a ds)) := by
  rw [forR]
  show (a ((ρ.set i (.val x)).set j (.val y)) >>= _) = _
  congr 1
theorem seq_nx {a b : Fs} {ρ ρ' : Rho} (h : a ρ = .ok (.nx ρ')) : sSeq a b ρ = b ρ' := by rw [sSeq_eq, h]; rfl
theorem seq_rt {a b : Fs} {ρ : Rho} {d : PyData} (h : a ρ = .ok (.rt d)) : sSeq a b ρ = .ok (.rt d) := by rw [sSeq_eq, h]; rfl
theorem fn_rt {n : Nat} {g : Fs} {ds : List PyData} {d : PyData} (h : g (ds.map Cell.val ++ List.replicate (n - ds.length) .non) = .ok (.rt d)) : fnR n g ds = .ok d := by rw [fnR_eq, h]; rfl
theorem compR_nil (bb : PyData → Rho → Option Rho) : compR bb t f ρ [] = .ok [] := by unfold compR; rfl
theorem compR_cons (i : Nat) (ds : List PyData) : compR (bName i) t f ρ (d :: ds) = (t (ρ.set i (.val d)) >>= fun k => if k = true then f (ρ.set i (.val d)) >>= fun x => compR (bName i) t f ρ ds >>= fun xs => .ok (x :: xs) else compR (bName i) t f ρ ds) := by
  rw [compR]; rfl
theorem compR_pair (i j : Nat) (x y : PyData) (ds : List PyData) : compR (bPair i j) t f ρ (.tuple [x, y] :: ds) = (t ((ρ.set i (.val x)).set j (.val y)) >>= fun k => if k = true then f ((ρ.set i (.val x)).set j (.val y)) >>= fun x => compR (bPair i j) t f ρ ds >>= fun xs => .ok (x :: xs) else compR (bPair i j) t f ρ ds) := by
  rw [compR]; rfl
theorem forR_tri (i j k : Nat) (x y z : PyData) (ds : List PyData) : forR (bTri i j k) a (.tuple [x, y, z] :: ds) ρ = (a (((ρ.set i (.val x)).set j (.val y)).set k (.val z)) >>= turnO (forR (bTri i j k) a ds)) := by
  rw [forR]
  show (a (((ρ.set i (.val x)).set j (.val y)).set k (.val z)) >>= _) = _
  congr 1
@[simp] theorem iZip3_eq : iZip3 f g h ρ = (f ρ >>= fun x => g ρ >>= fun y => h ρ >>= fun z => tupD x >>= fun xs => tupD y >>= fun ys => tupD z >>= fun zs => .ok (zip3D xs ys zs)) := (rfl)
@[simp] theorem tupD_t (ds : List PyData) : tupD (.tuple ds) = .ok ds := (rfl)
@[simp] theorem eTupR_eq : eTupR fs ρ = (fs ρ >>= rgD .tuple) := (rfl)
theorem rgD_i {mk : List PyData → PyData} {n : Int} (h0 : 0 ≤ n) (h1 : n ≤ 1000000) : rgD mk [.int n] = .ok (mk (rangeI 0 n.toNat)) := by
  show (if n ≤ 16777216 ∧ -(2 ^ 62) ≤ n then R.ok (mk (rangeI 0 n.toNat)) else .no) = _
  rw [if_pos (by omega)]
@[simp] theorem sAug_eq (op : Int → Int → Int) : sAug i op f ρ = (eVar i ρ >>= fun x => f ρ >>= fun y => dIp op x y >>= fun z => .ok (.nx (ρ.set i (.val z)))) := (rfl)
@[simp] theorem dIp_i (op : Int → Int → Int) (m n : Int) : dIp op (.int m) (.int n) = .ok (.int (op m n)) := (rfl)
theorem sPutL_o {ρ : Rho} {i : Nat} {ds : List PyData} {fk fv : Fe} {n : Int} {v : PyData} (h : ρ[i]? = some (.own (.list ds))) (hk : fk ρ = .ok (.int n)) (hv : fv ρ = .ok v) (h0 : 0 ≤ n) (h1 : n < ds.length) : sPutL i fk fv ρ = .ok (.nx (ρ.set i (.own (.list (ds.set n.toNat v))))) := by
  unfold sPutL
  rw [hv, hk, h]
  simp only [noX, R.ok_bind]
  have : L2.ixN ds.length n = some n.toNat := by unfold L2.ixN; rw [if_pos h0, if_pos h1]
  rw [this]
@[simp] theorem iZip_eq : iZip f g ρ = (f ρ >>= fun x => g ρ >>= fun y => seqD x >>= fun xs => seqD y >>= fun ys => .ok (zipD xs ys)) := (rfl)
@[simp] theorem iEnum_eq : iEnum f ρ = (f ρ >>= fun x => seqD x >>= fun xs => .ok (enumD 0 xs)) := (rfl)
theorem sAppend_o {ρ : Rho} {i : Nat} {ds : List PyData} (f : Fe) (h : ρ[i]? = some (.own (.list ds))) (hz : ds.length < sizeLine) : sAppend i f ρ = (noX (f ρ) >>= fun d => .ok (.nx (ρ.set i (.own (.list (ds ++ [d])))))) := by
  unfold sAppend
  congr 1
  funext d
  rw [h]
  exact if_pos hz
def lstR : R (List PyData) → R PyData
  | .ok xs => .ok (.list xs)
  | _ => .no
@[simp] theorem lstR_ok (xs : List PyData) : lstR (.ok xs) = .ok (.list xs) := (rfl)
theorem eComp_eq (it : Rho → R (List PyData)) (own : Nat) (fr : List Nat) (bb : PyData → Rho → Option Rho) : eComp it own fr bb t f ρ = (noX (it ρ) >>= fun ds => if ds.length ≤ sizeLine then lstR (compR bb t f (compRho own fr ρ) ds) else .no) := by
  unfold eComp
  congr 1
theorem compR_map (i : Nat) (G : PyData → PyData) : ∀ (ds : List PyData), (∀ d ∈ ds, f (ρ.set i (.val d)) = .ok (G d)) → compR (bName i) (fun _ => .ok true) f ρ ds = .ok (ds.map G)
  | [], _ => compR_nil ..
  | d :: ds, hh => by
    rw [compR_cons, hh d List.mem_cons_self, compR_map i G ds fun x hx => hh x (List.mem_cons_of_mem _ hx)]
    rfl
end
section
variable (i j : Int) (xs ys : List PyData)
@[simp] theorem dNeg_i : dNeg (.int i) = .ok (.int (-i)) := (rfl)
@[simp] theorem dAdd_i : dAdd (.int i) (.int j) = .ok (.int (i + j)) := (rfl)
@[simp] theorem dAdd_t : dAdd (.tuple xs) (.tuple ys) = if xs.length + ys.length ≤ sizeLine then .ok (.tuple (xs ++ ys)) else .no := (rfl)
@[simp] theorem dSub_i : dSub (.int i) (.int j) = .ok (.int (i - j)) := (rfl)
@[simp] theorem dMod_i : dMod (.int i) (.int j) = if 0 < j then .ok (.int (i % j)) else .no := (rfl)
@[simp] theorem dDiv_i : dDiv (.int i) (.int j) = if 0 < j ∧ j < 1073741824 then .ok (.int (i / j)) else .no := (rfl)
theorem dMul_i : dMul (.int i) (.int j) = if (-(2 ^ 64) < i ∧ i < 2 ^ 64) ∨ (-(2 ^ 64) < j ∧ j < 2 ^ 64) then .ok (.int (i * j)) else .no := rfl
@[simp] theorem dCmp_i (p : Int → Int → Bool) : dCmp p (.int i) (.int j) = .ok (.bool (p i j)) := (rfl)
@[simp] theorem dMin_i : dMin (.int i) (.int j) = .ok (.int (if j < i then j else i)) := (rfl)
@[simp] theorem dMax_i : dMax (.int i) (.int j) = .ok (.int (if j > i then j else i)) := (rfl)
@[simp] theorem dLen_t : dLen (.tuple xs) = .ok (.int xs.length) := (rfl)
@[simp] theorem dLen_l : dLen (.list xs) = .ok (.int xs.length) := (rfl)
@[simp] theorem dTuple_l : dTuple (.list xs) = .ok (.tuple xs) := (rfl)
@[simp] theorem dList_t : dList (.tuple xs) = .ok (.list xs) := (rfl)
@[simp] theorem dInt_b (k : Bool) : dInt (.bool k) = .ok (.int (if k then 1 else 0)) := (rfl)
theorem atI_nat {α : Type} {xs : List α} {i : Int} (h0 : 0 ≤ i) (h1 : i < xs.length) : L2.atI xs i = some (xs[i.toNat]'(by omega)) := by
  unfold L2.atI ixN
  rw [if_pos h0, if_pos h1]
  exact List.getElem?_eq_getElem (by omega)
theorem dIx_t {xs : List PyData} {i : Int} (h0 : 0 ≤ i) (h1 : i < xs.length) : dIx (.tuple xs) (.int i) = .ok (xs[i.toNat]'(by omega)) := by
  show (match L2.atI xs i with | some d => R.ok d | none => .no) = _
  rw [atI_nat h0 h1]
theorem dIx_l {xs : List PyData} {i : Int} (h0 : 0 ≤ i) (h1 : i < xs.length) : dIx (.list xs) (.int i) = .ok (xs[i.toNat]'(by omega)) := by
  show (match L2.atI xs i with | some d => R.ok d | none => .no) = _
  rw [atI_nat h0 h1]
theorem eqv_int : PyData.eqv (.int i) (.int j) = decide (i = j) := by
  simp only [PyData.eqv]
  by_cases h : i = j
  · subst h; simp
  · simp [h]
theorem dEq_i : dEq (.int i) (.int j) = .ok (.bool (decide (i = j))) := by
  unfold dEq
  rw [if_pos (by rfl), eqv_int]
theorem dNe_i : dNe (.int i) (.int j) = .ok (.bool (!decide (i = j))) := by
  unfold dNe
  rw [if_pos (by rfl), eqv_int]
end
end D2
set_option Elab.async false
set_option linter.all false
set_option maxRecDepth 100000
set_option maxHeartbeats 4000000
namespace G
open PySem PySem.Spec PyProof.Rows L2 D2
def isI : PyData → Bool
  | .int _ => true
  | _ => false
def noD : PyData → Prop
  | .dict _ => False
  | _ => True
def btw (d : PyData) (lo hi : Int) : Bool := match d with
  | .int i => decide (lo ≤ i) && decide (i ≤ hi)
  | _ => false
def rise (c : Int) : Int → List PyData → Bool
  | _, [] => true
  | l, d :: r => match d with
    | .int i => (decide (l ≤ i) && decide (i < c)) && rise c (i + 1) r
    | _ => false
@[simp] def someB (c : Int) : PyData → Bool
  | .tuple ds => rise c 0 ds
  | _ => false
abbrev Good (d : PyData) : Prop := d.canLay0 = true
theorem Good.noD {d : PyData} (h : Good d) : noD d := by
  cases d <;> first | trivial | (simp [Good, PyData.canLay0] at h)
theorem goodAll : ∀ {ds : List PyData}, PyData.canLayAll0 ds = true → ∀ x ∈ ds, Good x
  | [], _, x, hx => by cases hx
  | d :: ds, h, x, hx => by
    have h' : d.canLay0 = true ∧ PyData.canLayAll0 ds = true := by simpa [PyData.canLayAll0] using h
    rcases List.mem_cons.mp hx with rfl | hx
    · exact h'.1
    · exact goodAll h'.2 x hx
theorem all_good : ∀ {ds : List PyData}, (∀ x ∈ ds, Good x) → PyData.canLayAll0 ds = true
  | [], _ => by simp [PyData.canLayAll0]
  | d :: ds, h => by
    have h1 := h d List.mem_cons_self
    have h2 := all_good fun x hx => h x (List.mem_cons_of_mem _ hx)
    simp only [PyData.canLayAll0, Bool.and_eq_true]
    exact ⟨h1, h2⟩
theorem good_tuple {ds : List PyData} : Good (.tuple ds) ↔ ∀ x ∈ ds, Good x := by
  constructor
  · intro h; exact goodAll (by simpa [Good, PyData.canLay0] using h)
  · intro h; simp only [Good, PyData.canLay0]; exact all_good h
theorem good_list {ds : List PyData} : Good (.list ds) ↔ ∀ x ∈ ds, Good x := by
  constructor
  · intro h; exact goodAll (by simpa [Good, PyData.canLay0] using h)
  · intro h; simp only [Good, PyData.canLay0]; exact all_good h
theorem good_int (i : Int) : Good (.int i) := by simp [Good, PyData.canLay0]
theorem good_none : Good .none := by simp [Good, PyData.canLay0]
theorem good_bool (b : Bool) : Good (.bool b) := by simp [Good, PyData.canLay0]
theorem small25 {n : Nat} (h : n ≤ 1000) : n ≤ sizeLine := Nat.le_trans h (by decide)
abbrev scr (ns : List Int) : PyData := .list (ns.map .int)
theorem dMul_c {i j : Int} (h : (-(2 ^ 64) < i ∧ i < 2 ^ 64) ∨ (-(2 ^ 64) < j ∧ j < 2 ^ 64)) : dMul (.int i) (.int j) = .ok (.int (i * j)) := by rw [dMul_i, if_pos h]
structure Keys (c : Int) (n : Nat) (kvs : List (PyData × PyData)) : Prop where
  ex : ∃ ns : List Int, kvs.map (·.1) = ns.map PyData.int ∧ (∀ x ∈ ns, 0 ≤ x ∧ x < c) ∧ ns.length ≤ n ∧ (n = 0 ∨ ns ≠ []) ∧ ns.Nodup
theorem Keys.put {c : Int} {n : Nat} {kvs : List (PyData × PyData)} (h : Keys c n kvs) {k : Int} (h0 : 0 ≤ k) (h1 : k < c) (v : PyData) : Keys c (n + 1) (putD kvs (.int k) v) := by
  obtain ⟨ns, e, hb, hl, hn, nd⟩ := h.ex
  have hany : (kvs.any fun kv => keyEq kv.1 (.int k)) = ns.any fun i => decide (i = k) := by
    have : (kvs.any fun kv => keyEq kv.1 (.int k)) = (kvs.map (·.1)).any fun d => keyEq d (.int k) := by rw [List.any_map]; rfl
    rw [this, e, List.any_map]; rfl
  unfold putD
  rw [hany]
  by_cases hm : k ∈ ns
  · have ha : (ns.any fun i => decide (i = k)) = true := by simp; exact hm
    rw [if_pos ha]
    refine ⟨ns, ?_, hb, by omega, .inr (by intro z; rw [z] at hm; cases hm), nd⟩
    rw [← e, List.map_map]
    apply List.map_congr_left
    intro kv _
    show (if keyEq kv.1 (.int k) = true then (kv.1, v) else kv).1 = kv.1
    split <;> rfl
  · have ha : ¬ (ns.any fun i => decide (i = k)) = true := by simp; exact hm
    rw [if_neg ha]
    refine ⟨ns ++ [k], by rw [List.map_append, List.map_append, e]; rfl, fun x hx => ?_, by simp; omega, .inr (by simp), ?_⟩
    · rcases List.mem_append.mp hx with z | z
      · exact hb x z
      · simp at z; subst z; exact ⟨h0, h1⟩
    · rw [List.nodup_append]
      refine ⟨nd, by simp, fun a hma b hb' => ?_⟩
      simp at hb'
      subst hb'
      rintro rfl
      exact hm hma
theorem Keys.len {c : Int} {n : Nat} {kvs : List (PyData × PyData)} (h : Keys c n kvs) : kvs.length ≤ n := by
  obtain ⟨ns, e, _, hl, _⟩ := h.ex
  have := congrArg List.length e
  simp at this
  omega
theorem rangeI_ints (lo : Int) (n : Nat) : ∀ d ∈ rangeI lo n, ∃ k, d = .int k := fun d hd => by
  unfold rangeI at hd
  obtain ⟨k, _, rfl⟩ := List.mem_map.mp hd
  exact ⟨_, rfl⟩
theorem rangeI_len (lo : Int) (n : Nat) : (rangeI lo n).length = n := by unfold rangeI; simp
theorem dIx_mem {xs : List PyData} {i : Int} (h0 : 0 ≤ i) (h1 : i < xs.length) : ∃ x ∈ xs, dIx (.list xs) (.int i) = .ok x := ⟨_, List.getElem_mem _, dIx_l h0 h1⟩
structure P4 where
  w : Int
  m : Int
  g : Int
  ns : List Int
def P4.d (p : P4) : PyData := .tuple [.int p.w, .int p.m, .int p.g, .tuple (p.ns.map .int)]
structure Pl (c hi : Int) (p : P4) : Prop where
  w0 : 0 ≤ p.w
  w1 : p.w ≤ 1
  m0 : 0 ≤ p.m
  m1 : p.m ≤ hi
  g0 : -20 ≤ p.g
  g1 : p.g ≤ 20
  ne : p.ns ≠ []
  so : p.ns.Pairwise (· < ·)
  inn : ∀ x ∈ p.ns, 0 ≤ x ∧ x < c
theorem rising_len : ∀ (ns : List Int) (l c : Int), ns.Pairwise (· < ·) → (∀ x ∈ ns, l ≤ x ∧ x < c) → ns = [] ∨ l + (ns.length : Int) ≤ c
  | [], _, _, _, _ => .inl rfl
  | x :: r, l, c, hp, hb => by
    right
    obtain ⟨h1, h2⟩ := List.pairwise_cons.mp hp
    have hx := hb x List.mem_cons_self
    rcases rising_len r (x + 1) c h2 (fun y hy => ⟨by have := h1 y hy; omega, (hb y (List.mem_cons_of_mem _ hy)).2⟩) with rfl | z
    · simp; omega
    · rw [List.length_cons]; omega
theorem Pl.len {c hi : Int} {p : P4} (h : Pl c hi p) : (p.ns.length : Int) ≤ c := by
  rcases rising_len p.ns 0 c h.so h.inn with z | z
  · exact absurd z h.ne
  · omega
abbrev gD (ps : List P4) : PyData := .tuple (ps.map P4.d)
theorem strict_of {ns : List Int} (h : ns.Pairwise (· ≤ ·)) (nd : ns.Nodup) : ns.Pairwise (· < ·) := by
  have := h.and nd
  exact this.imp fun ⟨a, b⟩ => by omega
theorem rise_of (c : Int) : ∀ (ns : List Int) (l : Int), ns.Pairwise (· < ·) → (∀ x ∈ ns, l ≤ x ∧ x < c) → rise c l (ns.map .int) = true
  | [], _, _, _ => rfl
  | x :: r, l, hp, hb => by
    obtain ⟨h1, h2⟩ := List.pairwise_cons.mp hp
    have hx := hb x List.mem_cons_self
    simp only [List.map_cons, rise, Bool.and_eq_true, decide_eq_true_eq]
    exact ⟨⟨hx.1, hx.2⟩, rise_of c r (x + 1) h2 fun y hy => ⟨by have := h1 y hy; omega, (hb y (List.mem_cons_of_mem _ hy)).2⟩⟩
end G
set_option Elab.async false
set_option linter.all false
set_option maxRecDepth 100000
set_option maxHeartbeats 4000000
noncomputable section
namespace G
open PySem PySem.Spec PyProof.Rows L2 D2
def M_law_cell_at : Fs :=
  (sSeq (sIf (tE (e2 (dCmp pLt) (eVar 1) (e1 dLen (eVar 0)))) (sRet (e2 dIx (eVar 0) (eVar 1))) sSkip) (sRet (eC (.int 0))))
def F_law_cell_at : List PyData → R PyData := fnR 2 (M_law_cell_at)
def M_law_mixed (F_law_cell_at : List PyData → R PyData) : Fs :=
  (sSeq (sSet 2 (e2 dMod (e2 dMul (e2 dAdd (e2 dAdd (eCall F_law_cell_at (aCons (eVar 0) (aCons (eVar 1) aNil))) (e2 dMul (eC (.int 7919)) (eVar 1))) (eC (.int 1))) (eC (.int 48271))) (eC (.int 2147483647)))) (sRet (e2 dMod (e2 dAdd (e2 dAdd (e2 dMul (eVar 2) (eVar 2)) (e2 dMul (eC (.int 7)) (eVar 2))) (eVar 1)) (eC (.int 2147483629)))))
def F_law_mixed : List PyData → R PyData := fnR 3 (M_law_mixed F_law_cell_at)
def M_law_drawn : Fs :=
  (sSeq (sSet 2 (e2 dMod (e2 dMul (e2 dAdd (e2 dAdd (eVar 0) (e2 dMul (eC (.int 104729)) (eVar 1))) (eC (.int 17))) (eC (.int 69621))) (eC (.int 2147483647)))) (sRet (e2 dMod (e2 dAdd (e2 dAdd (e2 dMul (eVar 2) (eVar 2)) (e2 dMul (eC (.int 3)) (eVar 2))) (eVar 1)) (eC (.int 2147483629)))))
def F_law_drawn : List PyData → R PyData := fnR 3 (M_law_drawn)
def M_law_goals (F_law_drawn : List PyData → R PyData) : Fs :=
  (sSeq (sOwn 2 (eC (.dict []))) (sSeq (sNox (sFor (iRange (aCons (e2 dAdd (e2 dAdd (eC (.int 1)) (e2 dMod (eVar 0) (eC (.int 3)))) (e2 dMul (eC (.int 20)) (e1 dInt (e2 (dEq) (e2 dMod (e2 dDiv (eVar 0) (eC (.int 3))) (eC (.int 29))) (eC (.int 7)))))) aNil)) (bName 3) (sPut 2 (e2 dMod (eCall F_law_drawn (aCons (eVar 0) (aCons (eVar 3) aNil))) (eVar 1)) (eC (.bool true))))) (sRet (e1 dTuple (e1 dSorted (eVarB 2))))))
def F_law_goals : List PyData → R PyData := fnR 4 (M_law_goals F_law_drawn)
def M_law_place (F_law_drawn : List PyData → R PyData) (F_law_goals : List PyData → R PyData) : Fs :=
  (sSeq (sSet 3 (e2 dSub (e2 dMod (e2 dDiv (eVar 0) (eC (.int 26))) (eC (.int 9))) (eC (.int 4)))) (sSeq (sIf (tE (e2 (dEq) (e2 dMod (e2 dDiv (eVar 0) (eC (.int 234))) (eC (.int 11))) (eC (.int 3)))) (sSet 3 (e2 dSub (e2 dMod (e2 dDiv (eVar 0) (eC (.int 26))) (eC (.int 41))) (eC (.int 20)))) sSkip) (sRet (eTup (aCons (e2 dMod (eVar 0) (eC (.int 2))) (aCons (e2 dMod (e2 dDiv (eVar 0) (eC (.int 2))) (e2 dAdd (eVar 2) (eC (.int 1)))) (aCons (eVar 3) (aCons (eCall F_law_goals (aCons (eCall F_law_drawn (aCons (eVar 0) (aCons (eC (.int 9)) aNil))) (aCons (eVar 1) aNil))) aNil))))))))
def F_law_place : List PyData → R PyData := fnR 4 (M_law_place F_law_drawn F_law_goals)
def M_law_ground (F_law_mixed : List PyData → R PyData) (F_law_place : List PyData → R PyData) : Fs :=
  (sSeq (sSet 2 (eCall F_law_mixed (aCons (eVar 0) (aCons (eC (.int 0)) aNil)))) (sSeq (sSet 3 (e2 dAdd (eC (.int 1)) (e2 dMod (eVar 2) (e2 dMin (eVar 1) (e2 dMax (eC (.int 4)) (e1 dLen (eVar 0))))))) (sSeq (sSet 4 (e2 dIx (eLst (aCons (eC (.int 1)) (aCons (eC (.int 2)) (aCons (eC (.int 3)) (aCons (eC (.int 5)) (aCons (eC (.int 12)) (aCons (eC (.int 12)) aNil))))))) (e2 dMod (e2 dDiv (eVar 2) (eC (.int 24))) (eC (.int 6))))) (sRet (e1 dTuple (eComp (iRange (aCons (eVar 3) aNil)) 1 [0, 3, 4] (bName 0) (fun _ => .ok true) (eCall F_law_place (aCons (eCall F_law_mixed (aCons (eVar 1) (aCons (e2 dAdd (eC (.int 3)) (eVar 0)) aNil))) (aCons (eVar 2) (aCons (eVar 3) aNil))))))))))
def F_law_ground : List PyData → R PyData := fnR 5 (M_law_ground F_law_mixed F_law_place)
def M_law_ways : Fs :=
  (sSeq (sIf (tE (e2 (dEq) (e2 dIx (e2 dIx (eVar 0) (eVar 3)) (eC (.int 0))) (eVar 1))) (sRet (eComp (iSeq (eLst (aCons (e2 dIx (eVar 2) (eVar 3)) aNil))) 1 [] (bName 0) (tE (e2 (dNotN) (eVar 0) (eC .none))) (eVar 0))) sSkip) (sRet (e1 dList (e2 dIx (e2 dIx (eVar 0) (eVar 3)) (eC (.int 3))))))
def F_law_ways : List PyData → R PyData := fnR 4 (M_law_ways)
def M_law_inside (F_law_ways : List PyData → R PyData) : Fs :=
  (sSeq (sNox (sFor (iSeq (eVar 3)) (bName 4) (sSeq (sSet 5 (eCall F_law_ways (aCons (eVar 0) (aCons (eVar 1) (aCons (eVar 2) (aCons (eVar 4) aNil)))))) (sIf (tOrR (tE (e2 (dEq) (eVar 5) (eLst aNil))) (tE (e2 (dNe) (eComp (iSeq (eVar 5)) 1 [3] (bName 0) (tE (e2 (dIn true) (eVar 0) (eVar 1))) (eVar 0)) (eLst aNil)))) (sRet (eC (.bool false))) sSkip)))) (sRet (eC (.bool true))))
def F_law_inside : List PyData → R PyData := fnR 6 (M_law_inside F_law_ways)
def M_law_reached (F_law_ways : List PyData → R PyData) : Fs :=
  (sSeq (sOwn 5 (eLst aNil)) (sSeq (sSet 6 (eCall F_law_ways (aCons (eVar 0) (aCons (eVar 1) (aCons (eVar 2) (aCons (eVar 3) aNil)))))) (sSeq (sNox (sWhile 1000000 (tE (e2 (dNe) (eVar 6) (eLst aNil))) (sSeq (sSet 7 (e2 dIx (eVar 6) (eC (.int 0)))) (sSeq (sSet 6 (eSl (eVar 6) (oSome (eC (.int 1))) oNone)) (sIf (tAndR (tE (e2 (dIn false) (eVar 7) (eVar 4))) (tE (e2 (dIn true) (eVar 7) (eVarB 5)))) (sSeq (sAppend 5 (eVar 7)) (sSet 6 (e2 dAdd (eVar 6) (eCall F_law_ways (aCons (eVar 0) (aCons (eVar 1) (aCons (eVar 2) (aCons (eVar 7) aNil)))))))) sSkip))))) (sRetO 5))))
def F_law_reached : List PyData → R PyData := fnR 8 (M_law_reached F_law_ways)
def M_all_places : Fs :=
  (sRet (eTupR (aCons (e1 dLen (eVar 0)) aNil)))
def F_all_places : List PyData → R PyData := fnR 1 (M_all_places)
def M_is_whole : Fs :=
  (sRet (eAnd (e1 (dIsi .int) (eVar 0)) (eNot (e1 (dIsi .bool) (eVar 0)))))
def F_is_whole : List PyData → R PyData := fnR 1 (M_is_whole)
def M_is_between (F_is_whole : List PyData → R PyData) : Fs :=
  (sRet (eAnd (eCall F_is_whole (aCons (eVar 0) aNil)) (eChain (dCmp pLe) (dCmp pLe) (eVar 1) (eVar 0) (eVar 2))))
def F_is_between : List PyData → R PyData := fnR 3 (M_is_between F_is_whole)
def M_are_some (F_is_between : List PyData → R PyData) : Fs :=
  (sSeq (sIf (tNotR (tE (e1 (dIsi .tuple) (eVar 0)))) (sRet (eC (.bool false))) sSkip) (sSeq (sSet 2 (eC (.int 0))) (sSeq (sNox (sFor (iSeq (eVar 0)) (bName 3) (sSeq (sIf (tNotR (tE (eCall F_is_between (aCons (eVar 3) (aCons (eVar 2) (aCons (e2 dSub (eVar 1) (eC (.int 1))) aNil)))))) (sRet (eC (.bool false))) sSkip) (sSet 2 (e2 dAdd (eVar 3) (eC (.int 1))))))) (sRet (eC (.bool true))))))
def F_are_some : List PyData → R PyData := fnR 4 (M_are_some F_is_between)
def M_common : Fs :=
  (sRet (e1 dTuple (eComp (iSeq (eVar 0)) 1 [1] (bName 0) (tE (e2 (dIn false) (eVar 0) (eVar 1))) (eVar 0))))
def F_common : List PyData → R PyData := fnR 2 (M_common)
def M_moves_of_both : Fs :=
  (sRet (e1 dTuple (eComp (iZip (eVar 0) (eVar 1)) 2 [] (bPair 0 1) (fun _ => .ok true) (eIf (tE (e2 (dIsN) (eVar 0) (eC .none))) (eVar 1) (eVar 0)))))
def F_moves_of_both : List PyData → R PyData := fnR 2 (M_moves_of_both)
def M_ranked : Fs :=
  (sRet (e1 dTuple (eComp (iEnum (eVar 0)) 2 [] (bPair 0 1) (tE (e2 (dNotN) (eVar 1) (eC .none))) (eVar 0))))
def F_ranked : List PyData → R PyData := fnR 1 (M_ranked)
def M_pulling_moves (F_ranked : List PyData → R PyData) : Fs :=
  (sSeq (sOwn 3 (eComp (iSeq (eVar 2)) 1 [] (bName 0) (fun _ => .ok true) (eC .none))) (sSeq (sNox (sFor (iSeq (eCall F_ranked (aCons (eVar 2) aNil))) (bName 4) (sIf (tAndR (tE (e2 (dEq) (e2 dIx (e2 dIx (eVar 0) (eVar 4)) (eC (.int 0))) (eVar 1))) (tE (e2 (dCmp pGt) (e2 dIx (eVar 2) (eVar 4)) (eC (.int 0))))) (sPutL 3 (eVar 4) (e2 dIx (eComp (iSeq (e2 dIx (e2 dIx (eVar 0) (eVar 4)) (eC (.int 3)))) 1 [2, 4] (bName 0) (tE (e2 (dEq) (e2 dIx (eVar 1) (eVar 0)) (e2 dSub (e2 dIx (eVar 1) (eVar 2)) (eC (.int 1))))) (eVar 0)) (eC (.int 0)))) sSkip))) (sRet (e1 dTuple (eVarB 3)))))
def F_pulling_moves : List PyData → R PyData := fnR 5 (M_pulling_moves F_ranked)
def M_is_forced : Fs :=
  (sSeq (sSet 4 (eComp (iSeq (eVar 1)) 1 [3] (bName 0) (tE (e2 (dNotN) (e2 dIx (eVar 1) (eVar 0)) (eC .none))) (eVar 0))) (sSeq (sIf (tE (e2 (dEq) (e2 dIx (eVar 0) (eC (.int 0))) (eVar 2))) (sRet (e2 (dCmp pGt) (e1 dLen (eVar 4)) (eC (.int 0)))) sSkip) (sRet (e2 (dEq) (e1 dLen (eVar 4)) (e1 dLen (eVar 1))))))
def F_is_forced : List PyData → R PyData := fnR 5 (M_is_forced)
def M_ranks_to (F_common : List PyData → R PyData) (F_is_forced : List PyData → R PyData) : Fs :=
  (sSeq (sSet 4 (eComp (iSeq (eVar 0)) 1 [1] (bName 0) (fun _ => .ok true) (eCall F_common (aCons (e2 dIx (eVar 0) (eC (.int 3))) (aCons (eVar 1) aNil))))) (sSeq (sOwn 5 (eComp (iRange (aCons (e1 dLen (eVar 0)) aNil)) 1 [3] (bName 0) (fun _ => .ok true) (eIf (tE (e2 (dIn false) (eVar 0) (eVar 1))) (eC (.int 0)) (eC .none)))) (sSeq (sSet 6 (eC (.int 0))) (sSeq (sSet 7 (e1 dList (eVar 3))) (sSeq (sNox (sWhile 1000000 (tE (e2 (dCmp pGt) (e1 dLen (eVar 7)) (eC (.int 0)))) (sSeq (sAug 6 (fun a b => a + b) (eC (.int 1))) (sSeq (sSet 8 (eComp (iSeq (eVar 1)) 1 [5] (bName 0) (tE (e2 (dIsN) (e2 dIx (eVarB 1) (eVar 0)) (eC .none))) (eVar 0))) (sSeq (sSet 7 (eComp (iSeq (eVar 8)) 1 [0, 4, 2, 5] (bName 0) (tE (eLent 4 (eCall F_is_forced (aCons (e2 dIx (eVar 1) (eVar 0)) (aCons (e2 dIx (eVar 2) (eVar 0)) (aCons (eVar 3) (aCons (eVar 4) aNil))))))) (eVar 0))) (sNox (sFor (iSeq (eVar 7)) (bName 9) (sPutL 5 (eVar 9) (eVar 6))))))))) (sRet (e1 dTuple (eVarB 5))))))))
def F_ranks_to : List PyData → R PyData := fnR 10 (M_ranks_to F_common F_is_forced)
def M_no_moves : Fs :=
  (sRet (e1 dTuple (eComp (iSeq (eVar 0)) 1 [] (bName 0) (fun _ => .ok true) (eC .none))))
def F_no_moves : List PyData → R PyData := fnR 1 (M_no_moves)
def M_staying_moves (F_common : List PyData → R PyData) (F_no_moves : List PyData → R PyData) : Fs :=
  (sSeq (sOwn 3 (e1 dList (eCall F_no_moves (aCons (eVar 0) aNil)))) (sSeq (sNox (sFor (iSeq (eVar 2)) (bName 4) (sIf (tE (e2 (dEq) (e2 dIx (e2 dIx (eVar 0) (eVar 4)) (eC (.int 0))) (eVar 1))) (sPutL 3 (eVar 4) (e2 dIx (eCall F_common (aCons (e2 dIx (e2 dIx (eVar 0) (eVar 4)) (eC (.int 3))) (aCons (eVar 2) aNil))) (eC (.int 0)))) sSkip))) (sRet (e1 dTuple (eVarB 3)))))
def F_staying_moves : List PyData → R PyData := fnR 5 (M_staying_moves F_common F_no_moves)
def M_without : Fs :=
  (sRet (e1 dTuple (eComp (iSeq (eVar 0)) 1 [1] (bName 0) (tE (e2 (dIn true) (eVar 0) (eVar 1))) (eVar 0))))
def F_without : List PyData → R PyData := fnR 2 (M_without)
def M_share_by_coming (F_common : List PyData → R PyData) (F_moves_of_both : List PyData → R PyData) (F_pulling_moves : List PyData → R PyData) (F_ranked : List PyData → R PyData) (F_ranks_to : List PyData → R PyData) (F_staying_moves : List PyData → R PyData) (F_without : List PyData → R PyData) (c_Share : Addr) : Fs :=
  (sSeq (sSet 4 (eCall F_ranks_to (aCons (eVar 0) (aCons (eVar 1) (aCons (eVar 2) (aCons (eCall F_common (aCons (eVar 3) (aCons (eVar 1) aNil))) aNil)))))) (sSeq (sSet 5 (eCall F_without (aCons (eVar 1) (aCons (eCall F_ranked (aCons (eVar 4) aNil)) aNil)))) (sSeq (sIf (tE (e2 (dEq) (e1 dLen (eVar 5)) (eC (.int 0)))) (sSeq (sSet 6 (eCall F_moves_of_both (aCons (eCall F_pulling_moves (aCons (eVar 0) (aCons (eVar 2) (aCons (eVar 4) aNil)))) (aCons (eCall F_staying_moves (aCons (eVar 0) (aCons (eVar 2) (aCons (eVar 1) aNil)))) aNil)))) (sRet (eNew c_Share ["who", "places", "moves"] (aCons (eVar 2) (aCons (eVar 1) (aCons (eVar 6) aNil)))))) sSkip) (sSeq (sSet 7 (e2 dSub (eC (.int 1)) (eVar 2))) (sSeq (sSet 4 (eCall F_ranks_to (aCons (eVar 0) (aCons (eVar 1) (aCons (eVar 7) (aCons (eVar 5) aNil)))))) (sSeq (sSet 6 (eCall F_moves_of_both (aCons (eCall F_pulling_moves (aCons (eVar 0) (aCons (eVar 7) (aCons (eVar 4) aNil)))) (aCons (eCall F_staying_moves (aCons (eVar 0) (aCons (eVar 7) (aCons (eVar 5) aNil)))) aNil)))) (sRet (eNew c_Share ["who", "places", "moves"] (aCons (eVar 7) (aCons (eCall F_ranked (aCons (eVar 4) aNil)) (aCons (eVar 6) aNil)))))))))))
def F_share_by_coming (c_Share : Addr) : List PyData → R PyData := fnR 8 (M_share_by_coming F_common F_moves_of_both F_pulling_moves F_ranked F_ranks_to F_staying_moves F_without c_Share)
def M_winners_and_moves (F_moves_of_both : List PyData → R PyData) (F_no_moves : List PyData → R PyData) (c_Share : Addr) : Fs :=
  (sSeq (sOwn 2 (eComp (iSeq (eVar 0)) 1 [] (bName 0) (fun _ => .ok true) (eC .none))) (sSeq (sSet 3 (eCall F_no_moves (aCons (eVar 0) aNil))) (sSeq (sNox (sFor (iSeq (eVar 1)) (bName 4) (sSeq (sNox (sFor (iSeq (e1 (fldD c_Share "places") (eVar 4))) (bName 5) (sPutL 2 (eVar 5) (e1 (fldD c_Share "who") (eVar 4))))) (sSet 3 (eCall F_moves_of_both (aCons (eVar 3) (aCons (e1 (fldD c_Share "moves") (eVar 4)) aNil))))))) (sRet (eTup (aCons (e1 dTuple (eVarB 2)) (aCons (eVar 3) aNil)))))))
def F_winners_and_moves (c_Share : Addr) : List PyData → R PyData := fnR 6 (M_winners_and_moves F_moves_of_both F_no_moves c_Share)
def M_again (F_all_places : List PyData → R PyData) (F_are_some : List PyData → R PyData) (F_share_by_coming : List PyData → R PyData) (F_winners_and_moves : List PyData → R PyData) (F_without : List PyData → R PyData) (c_Share : Addr) : Fs :=
  (sSeq (sIf (tNotR (tE (eCall F_are_some (aCons (eVar 2) (aCons (e1 dLen (eVar 0)) aNil))))) (sRaise (PySem.Str.ofString "NoPart") (eC (.str (PySem.Str.ofString "goals are not some places")))) sSkip) (sSeq (sOwn 3 (eLst aNil)) (sSeq (sSet 4 (eCall F_all_places (aCons (eVar 0) aNil))) (sSeq (sNox (sWhile 1000000 (tE (e2 (dCmp pGt) (e1 dLen (eVar 4)) (eC (.int 0)))) (sSeq (sSet 5 (eCall F_share_by_coming (aCons (eVar 0) (aCons (eVar 4) (aCons (eVar 1) (aCons (eVar 2) aNil)))))) (sSeq (sAppend 3 (eVar 5)) (sSet 4 (eCall F_without (aCons (eVar 4) (aCons (e1 (fldD c_Share "places") (eVar 5)) aNil)))))))) (sFz 3 (sRet (eCall F_winners_and_moves (aCons (eVar 0) (aCons (eVar 3) aNil)))))))))
def F_again (c_Share : Addr) : List PyData → R PyData := fnR 6 (M_again F_all_places F_are_some (F_share_by_coming c_Share) (F_winners_and_moves c_Share) F_without c_Share)
def M_law_refused (F_again : List PyData → R PyData) : Fs :=
  (sSeq (sTryE F_again (aCons (eVar 0) (aCons (eVar 1) (aCons (eVar 2) aNil))) ((PySem.Str.ofString "NoPart", (fun p ρ => (eIsx 3 p) (ρ.set 3 (.exc p)))) :: [])) (sRet (eC (.bool false))))
def F_law_refused (c_Share : Addr) : List PyData → R PyData := fnR 4 (M_law_refused (F_again c_Share))
def M_law_some (F_law_drawn : List PyData → R PyData) : Fs :=
  (sSeq (sSet 2 (e2 dMod (eVar 0) (eC (.int 5)))) (sRet (e1 dTuple (eComp (iRange (aCons (eVar 1) aNil)) 1 [2, 0] (bName 0) (tOrR (tE (e2 (dEq) (eVar 1) (eC (.int 4)))) (tE (e2 (dCmp pLt) (e2 dMod (eCall F_law_drawn (aCons (eVar 2) (aCons (eVar 0) aNil))) (eC (.int 4))) (eVar 1)))) (eVar 0)))))
def F_law_some : List PyData → R PyData := fnR 3 (M_law_some F_law_drawn)
def M_law_moves_good : Fs :=
  (sSeq (sIf (tOrR (tNotR (tE (e1 (dIsi .tuple) (eVar 0)))) (tE (e2 (dNe) (e1 dLen (eVar 0)) (e1 dLen (eVar 1))))) (sRet (eC (.bool false))) sSkip) (sSeq (sNox (sFor (iZip (eVar 0) (eVar 1)) (bPair 2 3) (sSeq (sIf (tOrR (tE (e1 (dIsi .bool) (eVar 2))) (tAndR (tE (e2 (dNotN) (eVar 2) (eC .none))) (tNotR (tE (e1 (dIsi .int) (eVar 2)))))) (sRet (eC (.bool false))) sSkip) (sIf (tAndR (tE (e2 (dNotN) (eVar 2) (eC .none))) (tE (e2 (dIn true) (eVar 2) (e2 dIx (eVar 3) (eC (.int 3)))))) (sRet (eC (.bool false))) sSkip)))) (sRet (eC (.bool true)))))
def F_law_moves_good : List PyData → R PyData := fnR 4 (M_law_moves_good)
def M_law_told_well (F_law_moves_good : List PyData → R PyData) : Fs :=
  (sSeq (sIf (tOrR (tNotR (tE (e1 (dIsi .tuple) (eVar 0)))) (tOrR (tE (e2 (dNe) (e1 dLen (eVar 0)) (eC (.int 2)))) (tNotR (tE (e1 (dIsi .tuple) (e2 dIx (eVar 0) (eC (.int 0)))))))) (sRet (eC (.bool false))) sSkip) (sSeq (sIf (tOrR (tE (e2 (dNe) (e1 dLen (e2 dIx (eVar 0) (eC (.int 0)))) (e1 dLen (eVar 1)))) (tNotR (tE (eCall F_law_moves_good (aCons (e2 dIx (eVar 0) (eC (.int 1))) (aCons (eVar 1) aNil)))))) (sRet (eC (.bool false))) sSkip) (sSeq (sNox (sFor (iZip3 (eVar 1) (e2 dIx (eVar 0) (eC (.int 0))) (e2 dIx (eVar 0) (eC (.int 1)))) (bTri 2 3 4) (sSeq (sIf (tOrR (tNotR (tE (e1 (dIsi .int) (eVar 3)))) (tOrR (tE (e1 (dIsi .bool) (eVar 3))) (tE (e2 (dIn true) (eVar 3) (eTup (aCons (eC (.int 0)) (aCons (eC (.int 1)) aNil))))))) (sRet (eC (.bool false))) sSkip) (sIf (tE (e2 (dNe) (e2 (dIsN) (eVar 4) (eC .none)) (e2 (dNe) (e2 dIx (eVar 2) (eC (.int 0))) (eVar 3)))) (sRet (eC (.bool false))) sSkip)))) (sRet (eC (.bool true))))))
def F_law_told_well : List PyData → R PyData := fnR 5 (M_law_told_well F_law_moves_good)
def M_law (F_law_ground : List PyData → R PyData) (F_law_inside : List PyData → R PyData) (F_law_mixed : List PyData → R PyData) (F_law_reached : List PyData → R PyData) (F_law_refused : List PyData → R PyData) (F_law_some : List PyData → R PyData) (F_law_told_well : List PyData → R PyData) (F_again : List PyData → R PyData) : Fs :=
  (sSeq (sSet 1 (eCall F_law_ground (aCons (eVar 0) (aCons (eC (.int 24)) aNil)))) (sSeq (sSet 2 (eCall F_law_some (aCons (eCall F_law_mixed (aCons (eVar 0) (aCons (eC (.int 2)) aNil))) (aCons (e1 dLen (eVar 1)) aNil)))) (sSeq (sSet 3 (e2 dMod (e2 dDiv (eCall F_law_mixed (aCons (eVar 0) (aCons (eC (.int 2)) aNil))) (eC (.int 5))) (eC (.int 2)))) (sSeq (sIf (tE (e2 (dEq) (e2 dMod (eCall F_law_mixed (aCons (eVar 0) (aCons (eC (.int 1)) aNil))) (eC (.int 6))) (eC (.int 1)))) (sSeq (sSet 4 (e2 dIx (eLst (aCons (eTup (aCons (e1 dLen (eVar 1)) aNil)) (aCons (e2 dAdd (eVar 2) (e2 dMul (eTup (aCons (eC (.int 0)) aNil)) (eC (.int 2)))) (aCons (eLst (aCons (eC (.int 0)) aNil)) (aCons (eTup (aCons (e1 dNeg (eC (.int 1))) aNil)) (aCons (eTup (aCons (eC (.bool true)) aNil)) (aCons (eC .none) (aCons (eTup (aCons (eC (.int 0)) (aCons (eC (.int 0)) aNil))) aNil)))))))) (e2 dMod (e2 dDiv (eCall F_law_mixed (aCons (eVar 0) (aCons (eC (.int 1)) aNil))) (eC (.int 6))) (eC (.int 7))))) (sIf (tNotR (tE (eCall F_law_refused (aCons (eVar 1) (aCons (eVar 3) (aCons (eVar 4) aNil)))))) (sRet (eC (.bool false))) sSkip)) sSkip) (sSeq (sSet 5 (eCall F_again (aCons (eVar 1) (aCons (eVar 3) (aCons (eVar 2) aNil))))) (sSeq (sIf (tOrR (tNotR (tE (eCall F_law_told_well (aCons (eVar 5) (aCons (eVar 1) aNil))))) (tE (e2 (dNe) (eCall F_again (aCons (eVar 1) (aCons (eVar 3) (aCons (eVar 2) aNil)))) (eVar 5)))) (sRet (eC (.bool false))) sSkip) (sSeq (sSet 6 (eComp (iRange (aCons (e1 dLen (eVar 1)) aNil)) 1 [5, 3] (bName 0) (tE (e2 (dEq) (e2 dIx (e2 dIx (eVar 1) (eC (.int 0))) (eVar 0)) (eVar 2))) (eVar 0))) (sSeq (sSet 7 (eComp (iRange (aCons (e1 dLen (eVar 1)) aNil)) 1 [5, 3] (bName 0) (tE (e2 (dNe) (e2 dIx (e2 dIx (eVar 1) (eC (.int 0))) (eVar 0)) (eVar 2))) (eVar 0))) (sSeq (sIf (tOrR (tNotR (tE (eCall F_law_inside (aCons (eVar 1) (aCons (eVar 3) (aCons (e2 dIx (eVar 5) (eC (.int 1))) (aCons (eVar 6) aNil))))))) (tNotR (tE (eCall F_law_inside (aCons (eVar 1) (aCons (e2 dSub (eC (.int 1)) (eVar 3)) (aCons (e2 dIx (eVar 5) (eC (.int 1))) (aCons (eVar 7) aNil)))))))) (sRet (eC (.bool false))) sSkip) (sSeq (sSet 8 (eComp (iSeq (eVar 6)) 1 [2] (bName 0) (tE (e2 (dIn true) (eVar 0) (eVar 1))) (eVar 0))) (sSeq (sNox (sFor (iSeq (eVar 8)) (bName 9) (sIf (tE (e2 (dIn false) (eVar 9) (eCall F_law_reached (aCons (eVar 1) (aCons (eVar 3) (aCons (e2 dIx (eVar 5) (eC (.int 1))) (aCons (eVar 9) (aCons (eVar 8) aNil)))))))) (sRet (eC (.bool false))) sSkip))) (sSeq (sNox (sFor (iSeq (eVar 7)) (bName 9) (sSeq (sSet 10 (eCall F_law_reached (aCons (eVar 1) (aCons (e2 dSub (eC (.int 1)) (eVar 3)) (aCons (e2 dIx (eVar 5) (eC (.int 1))) (aCons (eVar 9) (aCons (eVar 7) aNil))))))) (sIf (tAndR (tE (e2 (dIn false) (eVar 9) (eVar 2))) (tE (e2 (dIn false) (eVar 9) (eVar 10)))) (sRet (eC (.bool false))) sSkip)))) (sRet (eC (.bool true)))))))))))))))
def F_law (c_Share : Addr) : List PyData → R PyData := fnR 11 (M_law F_law_ground F_law_inside F_law_mixed F_law_reached (F_law_refused c_Share) F_law_some F_law_told_well (F_again c_Share))
end G
end
set_option Elab.async false
set_option linter.all false
set_option maxRecDepth 100000
set_option maxHeartbeats 4000000
namespace G
open PySem PySem.Spec PyProof.Rows L2 D2
theorem cell_eq (ns : List Int) {k : Int} (hk : 0 ≤ k) : ∃ v, F_law_cell_at [scr ns, .int k] = .ok (.int v) := by
  unfold F_law_cell_at M_law_cell_at
  by_cases h : k < ns.length
  · refine ⟨ns[k.toNat]'(by omega), ?_⟩
    have hx := dIx_l (xs := ns.map PyData.int) (i := k) hk (by simpa using h)
    rw [fnR_eq]
    simp [h, hx]
  · refine ⟨0, ?_⟩
    rw [fnR_eq]
    simp [h]
theorem mixed_eq (ns : List Int) {k : Int} (hk : 0 ≤ k) : ∃ v, F_law_mixed [scr ns, .int k] = .ok (.int v) ∧ 0 ≤ v ∧ v < 2147483629 := by
  obtain ⟨c, hc⟩ := cell_eq ns hk
  unfold F_law_mixed M_law_mixed
  have m1 : dMul (.int 7919) (.int k) = .ok (.int (7919 * k)) := dMul_c (.inl (by omega))
  have m2 : dMul (.int (c + 7919 * k + 1)) (.int 48271) = .ok (.int ((c + 7919 * k + 1) * 48271)) := dMul_c (.inr (by omega))
  generalize hd : (c + 7919 * k + 1) * 48271 % 2147483647 = d
  have hd0 : 0 ≤ d := by omega
  have hd1 : d < 2147483647 := by omega
  have m3 : dMul (.int d) (.int d) = .ok (.int (d * d)) := dMul_c (.inl (by omega))
  have m4 : dMul (.int 7) (.int d) = .ok (.int (7 * d)) := dMul_c (.inl (by omega))
  refine ⟨(d * d + 7 * d + k) % 2147483629, ?_, by omega, by omega⟩
  rw [fnR_eq]
  simp [hc, m1, m2, hd, m3, m4, List.replicate]
theorem drawn_eq (n k : Int) : ∃ v, F_law_drawn [.int n, .int k] = .ok (.int v) ∧ 0 ≤ v ∧ v < 2147483629 := by
  unfold F_law_drawn M_law_drawn
  have m1 : dMul (.int 104729) (.int k) = .ok (.int (104729 * k)) := dMul_c (.inl (by omega))
  have m2 : dMul (.int (n + 104729 * k + 17)) (.int 69621) = .ok (.int ((n + 104729 * k + 17) * 69621)) := dMul_c (.inr (by omega))
  generalize hd : (n + 104729 * k + 17) * 69621 % 2147483647 = d
  have hd0 : 0 ≤ d := by omega
  have hd1 : d < 2147483647 := by omega
  have m3 : dMul (.int d) (.int d) = .ok (.int (d * d)) := dMul_c (.inl (by omega))
  have m4 : dMul (.int 3) (.int d) = .ok (.int (3 * d)) := dMul_c (.inl (by omega))
  refine ⟨(d * d + 3 * d + k) % 2147483629, ?_, by omega, by omega⟩
  rw [fnR_eq]
  simp [m1, m2, hd, m3, m4, List.replicate]
theorem goals_loop (n c : Int) (hc : 1 ≤ c) : ∀ (ds : List PyData) (m : Nat) (kvs : List (PyData × PyData)) (x : Cell), Keys c m kvs → (∀ d ∈ ds, ∃ k, d = .int k) → m + ds.length ≤ 1000 →
    ∃ kvs' x', Keys c (m + ds.length) kvs' ∧ forR (bName 3) (sPut 2 (e2 dMod (eCall F_law_drawn (aCons (eVar 0) (aCons (eVar 3) aNil))) (eVar 1)) (eC (.bool true))) ds [.val (.int n), .val (.int c), .own (.dict kvs), x]
      = .ok (.nx [.val (.int n), .val (.int c), .own (.dict kvs'), x'])
  | [], m, kvs, x, hk, _, _ => ⟨kvs, x, hk, by rw [forR_nil]⟩
  | d :: ds, m, kvs, x, hk, hi, hl => by
    obtain ⟨k, rfl⟩ := hi d List.mem_cons_self
    obtain ⟨v, hv, v0, v1⟩ := drawn_eq n k
    have hk' := hk.put (k := v % c) (Int.emod_nonneg _ (by omega)) (Int.emod_lt_of_pos _ (by omega)) (.bool true)
    obtain ⟨kvs', x', h1, h2⟩ := goals_loop n c hc ds (m + 1) _ (.val (.int k)) hk' (fun d hd => hi d (List.mem_cons_of_mem _ hd)) (by simp at hl; omega)
    refine ⟨kvs', x', by rw [List.length_cons]; simpa [Nat.add_comm, Nat.add_left_comm, Nat.add_assoc] using h1, ?_⟩
    have hlen := hk.len
    have hsz : kvs.length < sizeLine := Nat.lt_of_le_of_lt (show kvs.length ≤ 1000 by simp at hl; omega) (by decide)
    have hc' : 0 < c := by omega
    rw [forR_cons, ← h2]
    simp [sPut, hv, hc', keyOf, hsz]
theorem lgoals_eq {n c : Int} (hn : 0 ≤ n) (hc : 1 ≤ c) : ∃ ns : List Int, F_law_goals [.int n, .int c] = .ok (.tuple (ns.map .int)) ∧ (∀ x ∈ ns, 0 ≤ x ∧ x < c) ∧ ns ≠ [] ∧ ns.Pairwise (· < ·) := by
  unfold F_law_goals M_law_goals
  have m1 : ∀ k : Int, dMul (.int 20) (.int k) = .ok (.int (20 * k)) := fun k => dMul_c (.inl (by omega))
  generalize hN : (1 + n % 3 + 20 * (if n / 3 % 29 = 7 then 1 else 0) : Int) = N
  have hN0 : 1 ≤ N := by split at hN <;> omega
  have hN1 : N ≤ 23 := by split at hN <;> omega
  obtain ⟨kvs, x, hk, hf⟩ := goals_loop n c hc (rangeI 0 N.toNat) 0 [] .non ⟨[], rfl, by simp, by simp, .inl rfl, by simp⟩ (rangeI_ints _ _) (by rw [rangeI_len]; omega)
  obtain ⟨ns, e, hb, hl, hz, nd⟩ := hk.ex
  rw [rangeI_len] at hl hz
  have hi : intsOf (kvs.map (·.1)) = some ns := by rw [e, intsOf_ints]
  have hs : dSorted (.dict kvs) = .ok (.list ((sortI ns).map PyData.int)) := by
    show (match intsOf (kvs.map (·.1)) with | some ns => if ns.length < 64 then R.ok (PyData.list ((sortI ns).map PyData.int)) else .no | none => .no) = _
    rw [hi]
    exact if_pos (by omega)
  have hr : -(2 ^ 62) ≤ N ∧ N < 2 ^ 62 := by omega
  refine ⟨sortI ns, ?_, fun x hx => hb x ((sortI_perm ns).mem_iff.mp hx), ?_, strict_of (sortI_sorted ns) ((sortI_perm ns).nodup_iff.mpr nd)⟩
  · rw [fnR_eq]
    have hg : rngD [.int N] = .ok (rangeI 0 N.toNat) := by
      show (if -(2 ^ 62) ≤ N ∧ N < 2 ^ 62 then R.ok (rangeI 0 N.toNat) else .no) = _
      rw [if_pos hr]
    simp [sFor_eq, dEq_i, m1, List.replicate, hN, hg, hf, hs]
  · intro z
    have := (sortI_perm ns).length_eq
    rw [z] at this
    rcases hz with q | q
    · omega
    · exact q (List.eq_nil_of_length_eq_zero this.symm)
theorem lplace_mk {n c h : Int} (hn : 0 ≤ n) (hc : 1 ≤ c) (h0 : 0 ≤ h) : ∃ p : P4, F_law_place [.int n, .int c, .int h] = .ok p.d ∧ Pl c h p := by
  obtain ⟨v, hv, v0, v1⟩ := drawn_eq n 9
  obtain ⟨ns, hg, hb, hne, hso⟩ := lgoals_eq (n := v) (c := c) v0 hc
  unfold F_law_place M_law_place
  have hh : 0 < h + 1 := by omega
  have s4 : 4 ≤ sizeLine := by decide
  have a1 := Int.emod_nonneg (n / 2) (show h + 1 ≠ 0 by omega)
  have a2 := Int.emod_lt_of_pos (n / 2) hh
  by_cases hq : n / 234 % 11 = 3
  · refine ⟨⟨n % 2, n / 2 % (h + 1), n / 26 % 41 - 20, ns⟩, ?_, ⟨by dsimp only; omega, by dsimp only; omega, a1, by dsimp only; omega, by dsimp only; omega, by dsimp only; omega, hne, hso, hb⟩⟩
    rw [fnR_eq]
    simp [hh, dEq_i, hq, hv, hg, s4, P4.d]
  · refine ⟨⟨n % 2, n / 2 % (h + 1), n / 26 % 9 - 4, ns⟩, ?_, ⟨by dsimp only; omega, by dsimp only; omega, a1, by dsimp only; omega, by dsimp only; omega, by dsimp only; omega, hne, hso, hb⟩⟩
    rw [fnR_eq]
    simp [hh, dEq_i, hq, hv, hg, s4, P4.d]
theorem compR_ps (f : Fe) (ρ : Rho) (i : Nat) (P : P4 → Prop) : ∀ ds : List PyData, (∀ d ∈ ds, ∃ p : P4, f (ρ.set i (.val d)) = .ok p.d ∧ P p) → ∃ ps : List P4, compR (bName i) (fun _ => .ok true) f ρ ds = .ok (ps.map P4.d) ∧ ps.length = ds.length ∧ ∀ p ∈ ps, P p
  | [], _ => ⟨[], compR_nil .., rfl, by simp⟩
  | d :: ds, h => by
    obtain ⟨x, h1, h2⟩ := h d List.mem_cons_self
    obtain ⟨xs, h3, h4, h5⟩ := compR_ps f ρ i P ds fun d hd => h d (List.mem_cons_of_mem _ hd)
    refine ⟨x :: xs, ?_, by simp [h4], fun y hy => ?_⟩
    · rw [compR_cons, h1, h3]; rfl
    · rcases List.mem_cons.mp hy with rfl | hy
      · exact h2
      · exact h5 y hy
theorem lground_mk (ns : List Int) {most : Int} (hm0 : 1 ≤ most) (hm1 : most ≤ 24) : ∃ (ps : List P4) (hi : Int), F_law_ground [scr ns, .int most] = .ok (gD ps) ∧ (∀ p ∈ ps, Pl ps.length hi p) ∧ 1 ≤ ps.length ∧ (ps.length : Int) ≤ most ∧ 0 ≤ hi ∧ hi ≤ 12 := by
  obtain ⟨v, hv, v0, v1⟩ := mixed_eq ns (k := 0) (by omega)
  unfold F_law_ground M_law_ground
  generalize hm : (if (if (ns.length : Int) > 4 then (ns.length : Int) else 4) < most then (if (ns.length : Int) > 4 then (ns.length : Int) else 4) else most) = m
  have m0 : 0 < m := by split at hm <;> split at hm <;> omega
  have m1 : m ≤ most := by split at hm <;> split at hm <;> omega
  generalize hc : 1 + v % m = c
  have c0 : 1 ≤ c := by have := Int.emod_nonneg v (show m ≠ 0 by omega); omega
  have c1 : c ≤ most := by have := Int.emod_lt_of_pos v m0; omega
  have hix : ∃ h, dIx (.list [.int 1, .int 2, .int 3, .int 5, .int 12, .int 12]) (.int (v / 24 % 6)) = .ok (.int h) ∧ 0 ≤ h ∧ h ≤ 12 := by
    obtain ⟨x, hx, e⟩ := dIx_mem (xs := [.int 1, .int 2, .int 3, .int 5, .int 12, .int 12]) (i := v / 24 % 6) (by omega) (by simp; omega)
    rw [e]
    simp at hx
    rcases hx with rfl | rfl | rfl | rfl | rfl <;> exact ⟨_, rfl, by decide, by decide⟩
  obtain ⟨h, hh, h0, h1⟩ := hix
  have s6 : 6 ≤ sizeLine := by decide
  have hr : rngD [.int c] = .ok (rangeI 0 c.toNat) := by
    show (if -(2 ^ 62) ≤ c ∧ c < 2 ^ 62 then R.ok (rangeI 0 c.toNat) else .no) = _
    rw [if_pos (by omega)]
  obtain ⟨xs, e1, e2, e3⟩ := compR_ps (eCall F_law_place (aCons (eCall F_law_mixed (aCons (eVar 1) (aCons (e2 dAdd (eC (.int 3)) (eVar 0)) aNil))) (aCons (eVar 2) (aCons (eVar 3) aNil)))) (compRho 1 [0, 3, 4] [.val (scr ns), .val (.int most), .val (.int v), .val (.int c), .val (.int h)]) 0 (Pl c h) (rangeI 0 c.toNat) fun d hd => by
    unfold rangeI at hd
    obtain ⟨k, _, rfl⟩ := List.mem_map.mp hd
    obtain ⟨w, hw, w0, w1⟩ := mixed_eq ns (k := 3 + (0 + (k : Int))) (by omega)
    obtain ⟨d, hd1, hd2⟩ := lplace_mk (n := w) (c := c) (h := h) w0 c0 h0
    refine ⟨d, ?_, hd2⟩
    simp at hw
    simp [compRho, List.replicate, hw, hd1]
  rw [rangeI_len] at e2
  have ec : (xs.length : Int) = c := by omega
  refine ⟨xs, h, ?_, by rw [ec]; exact e3, by omega, by omega, h0, h1⟩
  rw [fnR_eq]
  simp [hv, hm, m0, hc, s6, hh, List.replicate, eComp_eq, hr, rangeI_len, small25 (show c.toNat ≤ 1000 by omega), e1]
end G
set_option Elab.async false
set_option linter.all false
set_option maxRecDepth 100000
set_option maxHeartbeats 4000000
namespace G
open PySem PySem.Spec PyProof.Rows L2 D2
def memB (ns : List Int) (i : Int) : Bool := ns.any fun j => decide (j = i)
theorem memB_iff {ns : List Int} {i : Int} : memB ns i = true ↔ i ∈ ns := by
  unfold memB
  rw [List.any_eq_true]
  constructor
  · rintro ⟨j, hj, e⟩
    have := of_decide_eq_true e
    exact this ▸ hj
  · exact fun h => ⟨i, h, decide_eq_true rfl⟩
theorem depth_ints' : ∀ ns : List Int, PyData.depthAll (ns.map .int) = 0
  | [] => by simp [PyData.depthAll]
  | n :: ns => by simp [PyData.depthAll, PyData.depth, depth_ints' ns]
theorem good_ints' (ns : List Int) : PyData.canLayAll0 (ns.map .int) = true := all_good fun x hx => by
  obtain ⟨i, _, rfl⟩ := List.mem_map.mp hx
  exact good_int i
theorem inOk_ints (ns : List Int) (i : Int) : inOk (ns.map .int) (.int i) = true := by
  unfold inOk
  rw [good_ints', depth_ints']
  simp [PyData.canLay0]
theorem any_ints (ns : List Int) (i : Int) : ((ns.map PyData.int).any fun y => PyData.eqv y (.int i)) = memB ns i := by
  rw [List.any_map]
  congr 1
theorem in_t (ns : List Int) (i : Int) (neg : Bool) : dIn neg (.int i) (.tuple (ns.map .int)) = .ok (.bool (if neg then !memB ns i else memB ns i)) := by
  show (if inOk (ns.map .int) (.int i) = true then R.ok (PyData.bool _) else .no) = _
  rw [if_pos (inOk_ints ns i), any_ints]
theorem in_l (ns : List Int) (i : Int) (neg : Bool) : dIn neg (.int i) (.list (ns.map .int)) = .ok (.bool (if neg then !memB ns i else memB ns i)) := by
  show (if inOk (ns.map .int) (.int i) = true then R.ok (PyData.bool _) else .no) = _
  rw [if_pos (inOk_ints ns i), any_ints]
theorem eqv_ints : ∀ ns ms : List Int, PyData.eqvAll (ns.map .int) (ms.map .int) = decide (ns = ms)
  | [], [] => by simp [PyData.eqvAll]
  | [], _ :: _ => by simp [PyData.eqvAll]
  | _ :: _, [] => by simp [PyData.eqvAll]
  | n :: ns, m :: ms => by
    simp only [List.map_cons, PyData.eqvAll, eqv_ints ns ms, eqv_int]
    by_cases h : n = m <;> by_cases h2 : ns = ms <;> simp [h, h2]
theorem eqOk_ll (ns ms : List Int) : eqOk (.list (ns.map .int)) (.list (ms.map .int)) = true := by
  unfold eqOk
  simp [PyData.canLay0, good_ints', PyData.depth, depth_ints']
theorem ne_ll (ns ms : List Int) : dNe (.list (ns.map .int)) (.list (ms.map .int)) = .ok (.bool (!decide (ns = ms))) := by
  unfold dNe
  rw [if_pos (eqOk_ll ns ms)]
  simp only [PyData.eqv, eqv_ints]
theorem eq_ll (ns ms : List Int) : dEq (.list (ns.map .int)) (.list (ms.map .int)) = .ok (.bool (decide (ns = ms))) := by
  unfold dEq
  rw [if_pos (eqOk_ll ns ms)]
  simp only [PyData.eqv, eqv_ints]
theorem ints_filter {t : Rho → R Bool} {ρ : Rho} {p : Int → Bool} : ∀ ns : List Int, (∀ x ∈ ns, t ((Cell.non :: ρ).set 0 (.val (.int x))) = .ok (p x)) → compR (bName 0) t (eVar 0) (.non :: ρ) (ns.map .int) = .ok ((ns.filter p).map .int)
  | [], _ => compR_nil ..
  | x :: ns, h => by
    rw [List.map_cons, compR_cons, h x List.mem_cons_self, ints_filter ns fun y hy => h y (List.mem_cons_of_mem _ hy)]
    cases hp : p x with
    | true => rw [List.filter_cons_of_pos hp]; rfl
    | false => rw [List.filter_cons_of_neg (by rw [hp]; simp)]; rfl
theorem rangeI_map (c : Nat) : rangeI 0 c = ((List.range c).map fun (k : Nat) => (k : Int)).map .int := by
  unfold rangeI
  rw [List.map_map]
  apply List.map_congr_left
  intro k _
  simp
def goalsOf (ps : List P4) (i : Int) : List Int := (ps[i.toNat]?.map (·.ns)).getD []
theorem ix_gD {ps : List P4} {i : Int} (h0 : 0 ≤ i) (h1 : i < ps.length) : dIx (gD ps) (.int i) = .ok (ps[i.toNat]'(by omega)).d := by
  rw [dIx_t h0 (by simpa using h1)]
  simp
theorem goalsOf_eq {ps : List P4} {i : Int} (h0 : 0 ≤ i) (h1 : i < ps.length) : goalsOf ps i = (ps[i.toNat]'(by omega)).ns := by
  unfold goalsOf
  rw [List.getElem?_eq_getElem (by omega)]
  rfl
theorem p4_ix3 (p : P4) : dIx p.d (.int 3) = .ok (.tuple (p.ns.map .int)) := rfl
theorem p4_ix0 (p : P4) : dIx p.d (.int 0) = .ok (.int p.w) := rfl
end G
set_option Elab.async false
set_option linter.all false
set_option maxRecDepth 100000
set_option maxHeartbeats 4000000
namespace G
open PySem PySem.Spec PyProof.Rows L2 D2
theorem some_eq {n c : Int} (hc0 : 0 ≤ c) (hc1 : c ≤ 24) : ∃ ns : List Int, F_law_some [.int n, .int c] = .ok (.tuple (ns.map .int)) ∧ ns.Pairwise (· < ·) ∧ ∀ x ∈ ns, 0 ≤ x ∧ x < c := by
  have hr : rngD [.int c] = .ok (rangeI 0 c.toNat) := by
    show (if -(2 ^ 62) ≤ c ∧ c < 2 ^ 62 then R.ok (rangeI 0 c.toNat) else .no) = _
    rw [if_pos (by omega)]
  have hx : ∀ k : Int, ∃ v, F_law_drawn [.int n, .int k] = .ok (.int v) := fun k => let ⟨v, h, _⟩ := drawn_eq n k; ⟨v, h⟩
  obtain ⟨dr, hdr⟩ : ∃ dr : Int → Int, ∀ k, F_law_drawn [.int n, .int k] = .ok (.int (dr k)) := ⟨fun k => (hx k).choose, fun k => (hx k).choose_spec⟩
  have hcmp := ints_filter (t := tOrR (tE (e2 (dEq) (eVar 1) (eC (.int 4)))) (tE (e2 (dCmp pLt) (e2 dMod (eCall F_law_drawn (aCons (eVar 2) (aCons (eVar 0) aNil))) (eC (.int 4))) (eVar 1)))) (ρ := [.val (.int (n % 5)), .val (.int n)])
    (p := fun k => decide (n % 5 = 4) || decide (dr k % 4 < n % 5)) ((List.range c.toNat).map fun (k : Nat) => (k : Int)) fun k hk => by
      by_cases h4 : n % 5 = 4 <;> simp [dEq_i, hdr, h4]
  rw [← rangeI_map] at hcmp
  refine ⟨((List.range c.toNat).map fun (k : Nat) => (k : Int)).filter fun k => decide (n % 5 = 4) || decide (dr k % 4 < n % 5), ?_, ?_, ?_⟩
  · unfold F_law_some M_law_some
    rw [fnR_eq]
    have e : compRho 1 [2, 0] [.val (.int n), .val (.int c), .val (.int (n % 5))] = [.non, .val (.int (n % 5)), .val (.int n)] := rfl
    simp [List.replicate, eComp_eq, hr, rangeI_len, small25 (show c.toNat ≤ 1000 by omega), e, hcmp]
  · refine List.Pairwise.filter _ ?_
    rw [List.pairwise_map]
    exact (List.pairwise_lt_range).imp fun h => by omega
  · intro x hx
    have := (List.mem_filter.mp hx).1
    obtain ⟨k, hk, rfl⟩ := List.mem_map.mp this
    have := List.mem_range.mp hk
    omega
end G
set_option Elab.async false
set_option linter.all false
set_option maxRecDepth 100000
set_option maxHeartbeats 4000000
namespace G
open PySem PySem.Spec PyProof.Rows L2 D2
def ownerOf (ps : List P4) (i : Int) : Int := (ps[i.toNat]?.map (·.w)).getD 0
theorem ownerOf_eq {ps : List P4} {i : Int} (h0 : 0 ≤ i) (h1 : i < ps.length) : ownerOf ps i = (ps[i.toNat]'(by omega)).w := by
  unfold ownerOf
  rw [List.getElem?_eq_getElem (by omega)]
  rfl
def waysK (ps : List P4) (js : List Int) (i : Int) : List Int := (goalsOf ps i).filter (memB js)
def goodK (ps : List P4) (js kn : List Int) (i : Int) : List Int := (waysK ps js i).filter (memB kn)
def condK (ps : List P4) (js : List Int) (who : Int) (kn : List Int) (i : Int) : Bool :=
  !memB kn i && (decide (0 < (goodK ps js kn i).length) && (decide (ownerOf ps i = who) || decide ((goodK ps js kn i).length = (waysK ps js i).length)))
def newK (ps : List P4) (js : List Int) (who : Int) (kn is : List Int) : List Int := is.filter (condK ps js who kn)
def roundK (ps : List P4) (js : List Int) (who r : Int) (kvs : List (Int × Int)) : List (Int × Int) := kvs ++ (newK ps js who (kvs.map (·.1)) js).map fun i => (i, r)
def roundsK (ps : List P4) (js : List Int) (who : Int) : Int → Nat → List (Int × Int) → List (Int × Int)
  | _, 0, kvs => kvs
  | r, n + 1, kvs => roundsK ps js who (r + 1) n (roundK ps js who r kvs)
theorem nodup_len : ∀ {l m : List Int}, l.Nodup → (∀ x ∈ l, x ∈ m) → l.length ≤ m.length
  | [], m, _, _ => Nat.zero_le _
  | x :: l, m, nd, h => by
    obtain ⟨n1, n2⟩ := List.nodup_cons.mp nd
    have hx := h x List.mem_cons_self
    have := nodup_len (m := m.erase x) n2 fun y hy => (List.mem_erase_of_ne (by rintro rfl; exact n1 hy)).mpr (h y (List.mem_cons_of_mem _ hy))
    rw [List.length_erase_of_mem hx] at this
    have hp := List.length_pos_of_mem hx
    rw [List.length_cons]
    omega
structure KeysIn (js : List Int) (kvs : List (Int × Int)) : Prop where
  nd : (kvs.map (·.1)).Nodup
  sub : ∀ x ∈ kvs.map (·.1), x ∈ js
theorem KeysIn.len {js : List Int} {kvs : List (Int × Int)} (h : KeysIn js kvs) (nj : js.Nodup) : kvs.length ≤ js.length := by
  have := nodup_len h.nd h.sub
  simpa using this
theorem keys_round (ps : List P4) (js : List Int) (who r : Int) (kvs : List (Int × Int)) : (roundK ps js who r kvs).map (·.1) = kvs.map (·.1) ++ newK ps js who (kvs.map (·.1)) js := by
  unfold roundK
  rw [List.map_append, List.map_map]
  congr 1
  exact List.map_id _
theorem newK_not {ps : List P4} {js : List Int} {who : Int} {kn is : List Int} {x : Int} (h : x ∈ newK ps js who kn is) : x ∈ is ∧ x ∉ kn := by
  obtain ⟨h1, h2⟩ := List.mem_filter.mp h
  refine ⟨h1, fun z => ?_⟩
  unfold condK at h2
  rw [memB_iff.mpr z] at h2
  simp at h2
theorem KeysIn.round {ps : List P4} {js : List Int} {who r : Int} {kvs : List (Int × Int)} (h : KeysIn js kvs) (nj : js.Nodup) : KeysIn js (roundK ps js who r kvs) := by
  refine ⟨?_, fun x hx => ?_⟩
  · rw [keys_round, List.nodup_append]
    refine ⟨h.nd, List.Pairwise.filter _ nj, fun a ha b hb e => ?_⟩
    subst e
    exact (newK_not hb).2 ha
  · rw [keys_round, List.mem_append] at hx
    rcases hx with z | z
    · exact h.sub x z
    · exact (newK_not z).1
end G
set_option Elab.async false
set_option linter.all false
set_option maxRecDepth 100000
set_option maxHeartbeats 4000000
namespace G
open PySem PySem.Spec PyProof.Rows L2 D2
theorem whole_eq {d : PyData} (h : noD d) : F_is_whole [d] = .ok (.bool (isI d)) := by
  cases d <;> first | rfl | cases h
theorem between_eq {d : PyData} (h : noD d) (lo hi : Int) : F_is_between [d, .int lo, .int hi] = .ok (.bool (btw d lo hi)) := by
  unfold F_is_between M_is_between
  rw [fnR_eq]
  cases d with
  | int i =>
    by_cases h1 : lo ≤ i <;> by_cases h2 : i ≤ hi <;> simp [whole_eq h, isI, h1, h2, btw]
  | dict k => cases h
  | _ => simp [whole_eq h, isI, btw]
theorem some_loop (t : PyData) (c : Int) : ∀ (ds : List PyData) (l : Int) (x : Cell), (∀ d ∈ ds, noD d) →
    ∃ ρ, forR (bName 3) (sSeq (sIf (tNotR (tE (eCall F_is_between (aCons (eVar 3) (aCons (eVar 2) (aCons (e2 dSub (eVar 1) (eC (.int 1))) aNil)))))) (sRet (eC (.bool false))) sSkip) (sSet 2 (e2 dAdd (eVar 3) (eC (.int 1))))) ds
      [.val t, .val (.int c), .val (.int l), x] = if rise c l ds = true then .ok (.nx ρ) else .ok (.rt (.bool false))
  | [], l, x, _ => ⟨_, by rw [forR_nil]; rfl⟩
  | d :: ds, l, x, h => by
    have hd := h d List.mem_cons_self
    cases hb : btw d l (c - 1) with
    | false =>
      refine ⟨[], ?_⟩
      have hr : rise c l (d :: ds) = false := by
        cases d with
        | int i =>
          simp only [btw] at hb
          simp only [rise]
          rcases (Bool.and_eq_false_iff.mp hb) with z | z
          · rw [z]; rfl
          · have : decide (i < c) = false := by simp at z ⊢; omega
            rw [this]; simp
        | _ => rfl
      rw [forR_cons, hr]
      simp [between_eq hd, hb]
    | true =>
      cases d with
      | int i =>
        simp only [btw, Bool.and_eq_true, decide_eq_true_eq] at hb
        obtain ⟨ρ, e⟩ := some_loop t c ds (i + 1) (.val (.int i)) fun d hd => h d (List.mem_cons_of_mem _ hd)
        refine ⟨ρ, ?_⟩
        have hr : rise c l (.int i :: ds) = rise c (i + 1) ds := by
          simp only [rise]
          rw [decide_eq_true hb.1, decide_eq_true (show i < c by omega)]; simp
        have hb' : btw (.int i) l (c - 1) = true := by simp [btw]; omega
        rw [forR_cons, hr, ← e]
        simp [between_eq hd, hb']
      | _ => cases hb
theorem are_some_eq {d : PyData} (c : Int) (h : ∀ ds, d = .tuple ds → ∀ x ∈ ds, noD x) (hd : noD d) : F_are_some [d, .int c] = .ok (.bool (someB c d)) := by
  unfold F_are_some M_are_some
  rw [fnR_eq]
  cases d with
  | tuple ds =>
    obtain ⟨ρ, e⟩ := some_loop (.tuple ds) c ds 0 .non (h ds rfl)
    simp [dIsi, isi, sFor_eq, List.replicate]
    rw [e]
    cases rise c 0 ds <;> simp
  | dict k => cases hd
  | _ => simp [dIsi, isi, List.replicate]
end G
set_option Elab.async false
set_option linter.all false
set_option maxRecDepth 100000
set_option maxHeartbeats 4000000
namespace G
open PySem PySem.Spec PyProof.Rows L2 D2
theorem roundsK_succ (ps : List P4) (js : List Int) (who : Int) : ∀ (n : Nat) (r : Int) (kvs : List (Int × Int)), roundsK ps js who r (n + 1) kvs = roundK ps js who (r + n) (roundsK ps js who r n kvs)
  | 0, r, kvs => by
    show roundK ps js who r kvs = roundK ps js who (r + ((0 : Nat) : Int)) kvs
    simp
  | n + 1, r, kvs => by
    show roundsK ps js who (r + 1) (n + 1) (roundK ps js who r kvs) = _
    rw [roundsK_succ ps js who n (r + 1)]
    show roundK ps js who (r + 1 + n) _ = roundK ps js who (r + ((n + 1 : Nat) : Int)) _
    rw [show r + 1 + (n : Int) = r + ((n + 1 : Nat) : Int) by omega]
    rfl
def aK (ps : List P4) (js : List Int) (who : Int) (gs : List Int) : Nat → List Int
  | 0 => gs
  | m + 1 => aK ps js who gs m ++ newK ps js who (aK ps js who gs m) js
def stK (ps : List P4) (js : List Int) (who : Int) (gs : List Int) (m : Nat) : List (Int × Int) := roundsK ps js who 1 m (gs.map fun i => (i, 0))
theorem stK_succ (ps : List P4) (js : List Int) (who : Int) (gs : List Int) (m : Nat) : stK ps js who gs (m + 1) = roundK ps js who (m + 1) (stK ps js who gs m) := by
  unfold stK
  rw [roundsK_succ]
  congr 1
  omega
theorem stK_keys (ps : List P4) (js : List Int) (who : Int) (gs : List Int) : ∀ m, (stK ps js who gs m).map (·.1) = aK ps js who gs m
  | 0 => by
    show (gs.map fun i => ((i, 0) : Int × Int)).map (·.1) = gs
    rw [List.map_map]
    exact List.map_id _
  | m + 1 => by
    rw [stK_succ, keys_round, stK_keys ps js who gs m]
    rfl
def look (kvs : List (Int × Int)) (i : Int) : Option Int := (kvs.find? fun q => decide (q.1 = i)).map (·.2)
theorem look_append (a b : List (Int × Int)) (i : Int) : look (a ++ b) i = (look a i).or (look b i) := by
  unfold look
  rw [List.find?_append]
  cases a.find? _ <;> rfl
theorem look_none {kvs : List (Int × Int)} {i : Int} : look kvs i = none ↔ i ∉ kvs.map (·.1) := by
  unfold look
  rw [Option.map_eq_none_iff, List.find?_eq_none]
  constructor
  · intro h z
    obtain ⟨q, hq, e⟩ := List.mem_map.mp z
    exact h q hq (decide_eq_true e)
  · intro h q hq e
    exact h (List.mem_map.mpr ⟨q, hq, of_decide_eq_true e⟩)
theorem look_const (r : Int) (i : Int) : ∀ l : List Int, look (l.map fun j => (j, r)) i = if i ∈ l then some r else none
  | [] => rfl
  | j :: l => by
    have ih := look_const r i l
    unfold look at ih ⊢
    by_cases h : j = i
    · subst h
      rw [List.map_cons, List.find?_cons_of_pos (by simp)]
      simp
    · rw [List.map_cons, List.find?_cons_of_neg (by simpa using h), ih]
      by_cases h2 : i ∈ l
      · simp [h2]
      · have : ¬ (i = j) := fun z => h z.symm
        simp [h2, this]
section
variable {ps : List P4} {js : List Int} {who : Int} {gs : List Int}
theorem aK_mono {i : Int} {k : Nat} (h : i ∈ aK ps js who gs k) : ∀ {m : Nat}, k ≤ m → i ∈ aK ps js who gs m
  | 0, hm => by have : k = 0 := by omega
                subst this; exact h
  | m + 1, hm => by
    by_cases e : k = m + 1
    · subst e; exact h
    · show i ∈ aK ps js who gs m ++ _
      exact List.mem_append_left _ (aK_mono h (by omega))
theorem look_st {i : Int} : ∀ {m : Nat} {q : Int}, look (stK ps js who gs m) i = some q ↔ ∃ k : Nat, q = k ∧ k ≤ m ∧ i ∈ aK ps js who gs k ∧ (k = 0 ∨ i ∉ aK ps js who gs (k - 1))
  | 0, q => by
    show look (gs.map fun j => (j, 0)) i = some q ↔ _
    rw [look_const]
    constructor
    · intro h
      split at h
      · rename_i hi
        cases h
        exact ⟨0, rfl, Nat.le_refl _, hi, .inl rfl⟩
      · cases h
    · rintro ⟨k, rfl, hk, hi, _⟩
      have : k = 0 := by omega
      subst this
      rw [if_pos (show i ∈ gs from hi)]
      rfl
  | m + 1, q => by
    have ih := fun q => look_st (i := i) (m := m) (q := q)
    have e : stK ps js who gs (m + 1) = stK ps js who gs m ++ (newK ps js who (aK ps js who gs m) js).map fun j => (j, ((m + 1 : Nat) : Int)) := by
      rw [stK_succ]
      unfold roundK
      rw [stK_keys]
      rfl
    rw [e, look_append, look_const]
    by_cases hi : i ∈ aK ps js who gs m
    · cases h0 : look (stK ps js who gs m) i with
      | none => rw [look_none, stK_keys] at h0; exact (h0 hi).elim
      | some q0 =>
        rw [Option.some_or, ← h0, ih q]
        constructor
        · rintro ⟨k, a, b, c, d⟩
          exact ⟨k, a, by omega, c, d⟩
        · rintro ⟨k, a, b, c, d⟩
          refine ⟨k, a, ?_, c, d⟩
          by_cases hk : k = m + 1
          · subst hk
            rcases d with d | d
            · omega
            · exact (d hi).elim
          · omega
    · have h0 : look (stK ps js who gs m) i = none := by rw [look_none, stK_keys]; exact hi
      rw [h0, Option.none_or]
      constructor
      · intro h
        split at h
        · rename_i hn
          cases h
          exact ⟨m + 1, rfl, Nat.le_refl _, List.mem_append_right _ hn, .inr hi⟩
        · cases h
      · rintro ⟨k, rfl, b, c, d⟩
        have hk : k = m + 1 := by
          by_cases hk : k = m + 1
          · exact hk
          · exact (hi (aK_mono c (by omega))).elim
        subst hk
        have c' : i ∈ aK ps js who gs m ++ newK ps js who (aK ps js who gs m) js := c
        rw [if_pos ((List.mem_append.mp c').elim (fun z => (hi z).elim) id)]
theorem aK_stop {k : Nat} (h : newK ps js who (aK ps js who gs k) js = []) : ∀ d, aK ps js who gs (k + d) = aK ps js who gs k
  | 0 => rfl
  | d + 1 => by
    show aK ps js who gs (k + d) ++ newK ps js who (aK ps js who gs (k + d)) js = _
    rw [aK_stop h d, h, List.append_nil]
theorem aK_keys (ng : gs.Nodup) (hg : ∀ x ∈ gs, x ∈ js) (nj : js.Nodup) : ∀ m, KeysIn js (stK ps js who gs m)
  | 0 => ⟨by rw [stK_keys]; exact ng, fun x hx => by rw [stK_keys] at hx; exact hg x hx⟩
  | m + 1 => by rw [stK_succ]; exact (aK_keys ng hg nj m).round nj
theorem aK_sub (ng : gs.Nodup) (hg : ∀ x ∈ gs, x ∈ js) (nj : js.Nodup) {m : Nat} {i : Int} (h : i ∈ aK ps js who gs m) : i ∈ js := by
  have := (aK_keys (ps := ps) (who := who) ng hg nj m).sub
  rw [stK_keys] at this
  exact this i h
theorem aK_len (ng : gs.Nodup) (hg : ∀ x ∈ gs, x ∈ js) (nj : js.Nodup) (m : Nat) : (aK ps js who gs m).length ≤ js.length := by
  have := (aK_keys (ps := ps) (who := who) ng hg nj m).len nj
  rw [← stK_keys, List.length_map]
  exact this
theorem aK_grow : ∀ m, (∀ k, k < m → newK ps js who (aK ps js who gs k) js ≠ []) → m + gs.length ≤ (aK ps js who gs m).length
  | 0, _ => by show 0 + gs.length ≤ gs.length; omega
  | m + 1, h => by
    have := aK_grow m fun k hk => h k (by omega)
    have h1 := h m (by omega)
    have h2 := List.length_pos_iff.mpr h1
    show _ ≤ (aK ps js who gs m ++ newK ps js who (aK ps js who gs m) js).length
    rw [List.length_append]
    omega
theorem aK_fix (ng : gs.Nodup) (hg : ∀ x ∈ gs, x ∈ js) (nj : js.Nodup) {n : Nat} (hn : js.length ≤ n) : newK ps js who (aK ps js who gs n) js = [] := by
  by_cases h : newK ps js who (aK ps js who gs n) js = []
  · exact h
  · have := aK_grow (ps := ps) (js := js) (who := who) (gs := gs) (n + 1) fun k hk e => h (by
      have s := aK_stop e (n - k)
      rw [show k + (n - k) = n by omega] at s
      rw [s]; exact e)
    have := aK_len (ps := ps) (who := who) ng hg nj (n + 1)
    omega
theorem len_filter_eq {α : Type} (p : α → Bool) : ∀ l : List α, (l.filter p).length = l.length ↔ ∀ x ∈ l, p x = true
  | [] => by simp
  | x :: l => by
    have ih := len_filter_eq p l
    have le := List.length_filter_le p l
    cases h : p x with
    | true => rw [List.filter_cons_of_pos h]; simp [ih, h]
    | false => rw [List.filter_cons_of_neg (by rw [h]; simp)]; simp [h]; omega
theorem len_filter_pos {α : Type} (p : α → Bool) (l : List α) : 0 < (l.filter p).length ↔ ∃ x ∈ l, p x = true := by
  rw [List.length_pos_iff_exists_mem]
  simp [List.mem_filter]
theorem cond_iff {kn : List Int} {i : Int} : condK ps js who kn i = true ↔ i ∉ kn ∧ (∃ g ∈ waysK ps js i, g ∈ kn) ∧ (ownerOf ps i = who ∨ ∀ g ∈ waysK ps js i, g ∈ kn) := by
  unfold condK goodK
  rw [Bool.and_eq_true, Bool.and_eq_true, Bool.or_eq_true, decide_eq_true_iff, decide_eq_true_iff, decide_eq_true_iff, len_filter_pos, len_filter_eq, Bool.not_eq_true', ← Bool.not_eq_true, memB_iff]
  simp only [memB_iff]
def rK (ps : List P4) (js : List Int) (who : Int) (gs : List Int) (i : Int) : Option Int := look (stK ps js who gs ps.length) i
structure Attr (ps : List P4) (js : List Int) (who : Int) (gs : List Int) (rk : Int → Option Int) : Prop where
  nneg : ∀ i q, rk i = some q → 0 ≤ q
  sub : ∀ i q, rk i = some q → i ∈ js
  zero : ∀ i, rk i = some 0 ↔ i ∈ gs
  own : ∀ i q, rk i = some q → 0 < q → ownerOf ps i = who → ∃ g ∈ waysK ps js i, rk g = some (q - 1)
  low : ∀ i q g t, rk i = some q → 0 < q → ownerOf ps i = who → g ∈ waysK ps js i → rk g = some t → q - 1 ≤ t
  oth : ∀ i q, rk i = some q → 0 < q → ownerOf ps i ≠ who → (∃ g, g ∈ waysK ps js i) ∧ ∀ g ∈ waysK ps js i, ∃ t, rk g = some t ∧ t < q
  outO : ∀ i, i ∈ js → rk i = none → ownerOf ps i = who → ∀ g ∈ waysK ps js i, rk g = none
  outX : ∀ i, i ∈ js → rk i = none → ownerOf ps i ≠ who → (∃ g, g ∈ waysK ps js i) → ∃ g ∈ waysK ps js i, rk g = none
theorem rK_le (hn : js.length ≤ ps.length) {i q : Int} (h : rK ps js who gs i = some q) : q ≤ ps.length := by
  obtain ⟨k, rfl, b, _⟩ := look_st.mp h
  omega
theorem attr_rK (ng : gs.Nodup) (hg : ∀ x ∈ gs, x ∈ js) (nj : js.Nodup) (hn : js.length ≤ ps.length) : Attr ps js who gs (rK ps js who gs) := by
  have ex : ∀ {i k}, i ∈ aK ps js who gs k → k ≤ ps.length → ∃ t : Nat, t ≤ k ∧ rK ps js who gs i = some (t : Int) := fun {i} => by
    intro k
    induction k with
    | zero => exact fun h _ => ⟨0, Nat.le_refl _, look_st.mpr ⟨0, rfl, by omega, h, .inl rfl⟩⟩
    | succ k ih =>
      intro h hk
      by_cases h1 : i ∈ aK ps js who gs k
      · obtain ⟨t, a, b⟩ := ih h1 (by omega)
        exact ⟨t, by omega, b⟩
      · exact ⟨k + 1, Nat.le_refl _, look_st.mpr ⟨k + 1, rfl, hk, h, .inr h1⟩⟩
  have nm : ∀ {i}, rK ps js who gs i = none ↔ i ∉ aK ps js who gs ps.length := fun {i} => by
    unfold rK; rw [look_none, stK_keys]
  have fix := aK_fix (ps := ps) (who := who) ng hg nj hn
  have new : ∀ {i k}, i ∈ aK ps js who gs (k + 1) → i ∉ aK ps js who gs k → condK ps js who (aK ps js who gs k) i = true := fun {i k} h1 h2 => by
    have h1' : i ∈ aK ps js who gs k ++ newK ps js who (aK ps js who gs k) js := h1
    rcases List.mem_append.mp h1' with z | z
    · exact (h2 z).elim
    · exact (List.mem_filter.mp z).2
  have not : ∀ {i k}, i ∈ js → i ∉ aK ps js who gs (k + 1) → ¬ condK ps js who (aK ps js who gs k) i = true := fun {i k} h1 h2 h3 =>
    h2 (show i ∈ aK ps js who gs k ++ newK ps js who (aK ps js who gs k) js from List.mem_append_right _ (List.mem_filter.mpr ⟨h1, h3⟩))
  have pos : ∀ {i q}, rK ps js who gs i = some q → 0 < q → ∃ k : Nat, q = ((k + 1 : Nat) : Int) ∧ k + 1 ≤ ps.length ∧ i ∈ aK ps js who gs (k + 1) ∧ i ∉ aK ps js who gs k := fun {i q} h hq => by
    obtain ⟨k, rfl, b, c, d⟩ := look_st.mp h
    cases k with
    | zero => omega
    | succ k =>
      rcases d with d | d
      · omega
      · exact ⟨k, rfl, b, c, d⟩
  refine ⟨fun i q h => ?_, fun i q h => ?_, fun i => ?_, fun i q h hq ho => ?_, fun i q g t h hq ho hg' ht => ?_, fun i q h hq ho => ?_, fun i hi h ho g hg' => ?_, fun i hi h ho hw => ?_⟩
  · obtain ⟨k, rfl, _⟩ := look_st.mp h; omega
  · obtain ⟨k, rfl, _, c, _⟩ := look_st.mp h; exact aK_sub ng hg nj c
  · constructor
    · intro h
      obtain ⟨k, e, _, c, _⟩ := look_st.mp h
      have : k = 0 := by omega
      subst this
      exact c
    · exact fun h => look_st.mpr ⟨0, rfl, by omega, h, .inl rfl⟩
  · obtain ⟨k, rfl, b, c, d⟩ := pos h hq
    obtain ⟨_, ⟨g, hg1, hg2⟩, _⟩ := cond_iff.mp (new c d)
    obtain ⟨t, ht, hr⟩ := ex hg2 (by omega)
    refine ⟨g, hg1, ?_⟩
    by_cases e : t = k
    · subst e; rw [hr]; congr 1; omega
    · exfalso
      cases k with
      | zero => omega
      | succ k =>
        obtain ⟨t', e', _, c', _⟩ := look_st.mp hr
        have e'' : t = t' := by omega
        subst e''
        exact not (aK_sub ng hg nj c) d (cond_iff.mpr ⟨fun z => d (aK_mono z (by omega)), ⟨g, hg1, aK_mono c' (by omega)⟩, .inl ho⟩)
  · obtain ⟨k, rfl, b, c, d⟩ := pos h hq
    obtain ⟨t', rfl, _, c', _⟩ := look_st.mp ht
    by_cases e : k ≤ t'
    · omega
    · exfalso
      cases k with
      | zero => omega
      | succ k => exact not (aK_sub ng hg nj c) d (cond_iff.mpr ⟨fun z => d (aK_mono z (by omega)), ⟨g, hg', aK_mono c' (by omega)⟩, .inl ho⟩)
  · obtain ⟨k, rfl, b, c, d⟩ := pos h hq
    obtain ⟨_, ⟨g, hg1, _⟩, o⟩ := cond_iff.mp (new c d)
    refine ⟨⟨g, hg1⟩, fun g' hg' => ?_⟩
    obtain ⟨t, ht, hr⟩ := ex ((o.resolve_left ho) g' hg') (by omega)
    exact ⟨t, hr, by omega⟩
  · rw [nm] at h ⊢
    intro hz
    have : i ∈ newK ps js who (aK ps js who gs ps.length) js := List.mem_filter.mpr ⟨hi, cond_iff.mpr ⟨h, ⟨g, hg', hz⟩, .inl ho⟩⟩
    rw [fix] at this
    cases this
  · rw [nm] at h
    by_cases hz : ∃ g ∈ waysK ps js i, rK ps js who gs g = none
    · exact hz
    · exfalso
      have all : ∀ g ∈ waysK ps js i, g ∈ aK ps js who gs ps.length := fun g hg' => by
        by_cases z : g ∈ aK ps js who gs ps.length
        · exact z
        · exact (hz ⟨g, hg', nm.mpr z⟩).elim
      obtain ⟨g, hg'⟩ := hw
      have : i ∈ newK ps js who (aK ps js who gs ps.length) js := List.mem_filter.mpr ⟨hi, cond_iff.mpr ⟨h, ⟨g, hg', all g hg'⟩, .inr all⟩⟩
      rw [fix] at this
      cases this
end
end G
set_option Elab.async false
set_option linter.all false
set_option maxRecDepth 100000
set_option maxHeartbeats 4000000
namespace G
open PySem PySem.Spec PyProof.Rows L2 D2
abbrev ids (n : Nat) : List Int := (List.range n).map fun (k : Nat) => (k : Int)
theorem mem_ids {n : Nat} {i : Int} : i ∈ ids n ↔ 0 ≤ i ∧ i < n := by
  constructor
  · intro h
    obtain ⟨k, hk, rfl⟩ := List.mem_map.mp h
    have := List.mem_range.mp hk
    omega
  · rintro ⟨h0, h1⟩
    exact List.mem_map.mpr ⟨i.toNat, List.mem_range.mpr (by omega), by omega⟩
theorem ids_len (n : Nat) : (ids n).length = n := by simp
theorem ids_get {n k : Nat} (h : k < n) : (ids n)[k]? = some (k : Int) := by
  rw [List.getElem?_map, List.getElem?_range h]; rfl
theorem ids_lt (n : Nat) : (ids n).Pairwise (· < ·) := by
  rw [List.pairwise_map]
  exact (List.pairwise_lt_range).imp fun h => by omega
theorem nodup_lt {l : List Int} (h : l.Pairwise (· < ·)) : l.Nodup := h.imp fun h => by omega
def tab (f : Int → PyData) (n : Nat) : List PyData := (ids n).map f
theorem tab_len (f : Int → PyData) (n : Nat) : (tab f n).length = n := by unfold tab; rw [List.length_map, ids_len]
theorem tab_get {f : Int → PyData} {n : Nat} {i : Int} (h0 : 0 ≤ i) (h1 : i < n) : (tab f n)[i.toNat]'(by rw [tab_len]; omega) = f i := by
  have h := ids_get (n := n) (k := i.toNat) (by omega)
  have : (tab f n)[i.toNat]? = some (f i) := by
    unfold tab
    rw [List.getElem?_map, h, Option.map_some]
    congr 2
    omega
  exact Option.some.inj ((List.getElem?_eq_getElem _).symm.trans this)
theorem tab_t {f : Int → PyData} {n : Nat} {i : Int} (h0 : 0 ≤ i) (h1 : i < n) : dIx (.tuple (tab f n)) (.int i) = .ok (f i) := by
  rw [dIx_t h0 (by rw [tab_len]; exact h1), tab_get h0 h1]
theorem tab_l {f : Int → PyData} {n : Nat} {i : Int} (h0 : 0 ≤ i) (h1 : i < n) : dIx (.list (tab f n)) (.int i) = .ok (f i) := by
  rw [dIx_l h0 (by rw [tab_len]; exact h1), tab_get h0 h1]
theorem tab_congr {f g : Int → PyData} {n : Nat} (h : ∀ i : Int, 0 ≤ i → i < n → f i = g i) : tab f n = tab g n :=
  List.map_congr_left fun i hi => h i (mem_ids.mp hi).1 (mem_ids.mp hi).2
theorem tab_set {f : Int → PyData} {n : Nat} {i : Int} {v : PyData} (h0 : 0 ≤ i) (h1 : i < n) : (tab f n).set i.toNat v = tab (fun j => if j = i then v else f j) n := by
  refine List.ext_getElem (by rw [List.length_set, tab_len, tab_len]) fun k hk1 hk2 => ?_
  rw [tab_len] at hk2
  have e := tab_get (f := fun j => if j = i then v else f j) (n := n) (i := (k : Int)) (by omega) (by omega)
  have e2 := tab_get (f := f) (n := n) (i := (k : Int)) (by omega) (by omega)
  simp only [Int.toNat_natCast] at e e2
  rw [e, List.getElem_set]
  by_cases h : i.toNat = k
  · rw [if_pos h, if_pos (by omega)]
  · rw [if_neg h, if_neg (by omega), e2]
theorem rangeI_tab (f : Int → PyData) (ρ : Rho) (g : Fe) (n : Nat) (h : ∀ i : Int, 0 ≤ i → i < n → g (ρ.set 0 (.val (.int i))) = .ok (f i)) : compR (bName 0) (fun _ => .ok true) g ρ (rangeI 0 n) = .ok (tab f n) := by
  have := compR_map g ρ 0 (fun d => match d with | .int i => f i | d => d) (rangeI 0 n) fun d hd => by
    unfold rangeI at hd
    obtain ⟨k, hk, rfl⟩ := List.mem_map.mp hd
    have := List.mem_range.mp hk
    exact h _ (by omega) (by omega)
  rw [this]
  unfold tab
  rw [rangeI_map, List.map_map]
  rfl
def oD : Option Int → PyData
  | none => .none
  | some k => .int k
theorem notN_oD (o : Option Int) : dNotN (oD o) .none = .ok (.bool o.isSome) := by cases o <;> rfl
theorem isN_oD (o : Option Int) : dIsN (oD o) .none = .ok (.bool o.isNone) := by cases o <;> rfl
def idF (k m : Nat) : List Int := (List.range m).map fun (j : Nat) => ((k + j : Nat) : Int)
theorem idF_succ (k m : Nat) : idF k (m + 1) = (k : Int) :: idF (k + 1) m := by
  unfold idF
  rw [List.range_succ_eq_map, List.map_cons, List.map_map]
  congr 1
  apply List.map_congr_left
  intro j _
  show ((k + (j + 1) : Nat) : Int) = ((k + 1 + j : Nat) : Int)
  omega
theorem idF_ids (n : Nat) : idF 0 n = ids n := by
  unfold idF
  apply List.map_congr_left
  intro j _
  simp
theorem enum_filter {t : Rho → R Bool} {ρ : Rho} {p : Int → Bool} {g : Int → PyData} : ∀ (m k : Nat), (∀ j : Nat, k ≤ j → j < k + m → t (.val (.int j) :: .val (g j) :: ρ) = .ok (p j)) →
    compR (bPair 0 1) t (eVar 0) (.non :: .non :: ρ) (enumD k ((idF k m).map g)) = .ok (((idF k m).filter p).map .int)
  | 0, k, _ => by unfold idF; simp [enumD, compR_nil]
  | m + 1, k, h => by
    rw [idF_succ, List.map_cons]
    have e : enumD k (g k :: (idF (k + 1) m).map g) = .tuple [.int k, g k] :: enumD (k + 1) ((idF (k + 1) m).map g) := rfl
    rw [e, compR_pair, enum_filter m (k + 1) fun j h1 h2 => h j (by omega) (by omega)]
    have hk := h k (Nat.le_refl _) (by omega)
    simp only [List.set_cons_zero, List.set_cons_succ, hk, R.ok_bind, eVar_0]
    cases hp : p k with
    | true => rw [List.filter_cons_of_pos hp]; rfl
    | false => rw [List.filter_cons_of_neg (by rw [hp]; simp)]; rfl
theorem whileR_s (t : Rho → R Bool) (g : Fs) (n : Nat) (ρ : Rho) : whileR t g (n + 1) ρ = (t ρ >>= fun b => if b = true then g ρ >>= turnO (whileR t g n) else .ok (.nx ρ)) := by
  rw [whileR]
  congr 1
def Seq (s : PyData) (js : List Int) : Prop := s = .tuple (js.map .int) ∨ s = .list (js.map .int)
theorem Seq.inn {s : PyData} {js : List Int} (h : Seq s js) (neg : Bool) (k : Int) : dIn neg (.int k) s = .ok (.bool (if neg then !memB js k else memB js k)) := by
  rcases h with rfl | rfl
  · exact in_t ..
  · exact in_l ..
theorem Seq.seq {s : PyData} {js : List Int} (h : Seq s js) : seqD s = .ok (js.map .int) := by
  rcases h with rfl | rfl <;> rfl
theorem Seq.len {s : PyData} {js : List Int} (h : Seq s js) : dLen s = .ok (.int js.length) := by
  rcases h with rfl | rfl <;> simp
theorem common_eq {s t : PyData} {ns js : List Int} (hs : Seq s ns) (ht : Seq t js) (hl : ns.length ≤ 1000) : F_common [s, t] = .ok (.tuple ((ns.filter (memB js)).map .int)) := by
  have hcmp := ints_filter (t := tE (e2 (dIn false) (eVar 0) (eVar 1))) (ρ := [.val t]) (p := memB js) ns fun k hk => by simp [ht.inn]
  unfold F_common M_common
  refine fn_rt ?_
  rw [show ([s, t].map Cell.val ++ List.replicate (2 - [s, t].length) Cell.non) = [.val s, .val t] from rfl]
  rw [sRet_eq, e1_eq, eComp_eq, show compRho 1 [1] [.val s, .val t] = [.non, .val t] from rfl]
  simp only [iSeq_eq, eVar_0, R.ok_bind, hs.seq, noX_ok]
  rw [if_pos (by rw [List.length_map]; exact small25 hl), hcmp]
  rfl
theorem without_eq {s t : PyData} {ns js : List Int} (hs : Seq s ns) (ht : Seq t js) (hl : ns.length ≤ 1000) : F_without [s, t] = .ok (.tuple ((ns.filter fun i => !memB js i).map .int)) := by
  have hcmp := ints_filter (t := tE (e2 (dIn true) (eVar 0) (eVar 1))) (ρ := [.val t]) (p := fun i => !memB js i) ns fun k hk => by simp [ht.inn]
  unfold F_without M_without
  refine fn_rt ?_
  rw [show ([s, t].map Cell.val ++ List.replicate (2 - [s, t].length) Cell.non) = [.val s, .val t] from rfl]
  rw [sRet_eq, e1_eq, eComp_eq, show compRho 1 [1] [.val s, .val t] = [.non, .val t] from rfl]
  simp only [iSeq_eq, eVar_0, R.ok_bind, hs.seq, noX_ok]
  rw [if_pos (by rw [List.length_map]; exact small25 hl), hcmp]
  rfl
structure Part (n : Nat) (js : List Int) : Prop where
  lt : js.Pairwise (· < ·)
  inn : ∀ x ∈ js, 0 ≤ x ∧ x < n
theorem Part.nd {n : Nat} {js : List Int} (h : Part n js) : js.Nodup := nodup_lt h.lt
theorem Part.len {n : Nat} {js : List Int} (h : Part n js) : js.length ≤ n := by
  have := rising_len js 0 n h.lt h.inn
  rcases this with z | z
  · rw [z]; simp
  · omega
theorem Part.filter {n : Nat} {js : List Int} (h : Part n js) (p : Int → Bool) : Part n (js.filter p) := ⟨h.lt.filter _, fun x hx => h.inn x (List.mem_filter.mp hx).1⟩
theorem Part.ids (n : Nat) : Part n (ids n) := ⟨ids_lt n, fun x hx => mem_ids.mp hx⟩
def Whole (ps : List P4) (js : List Int) : Prop := ∀ i ∈ js, ∃ g, g ∈ waysK ps js i
theorem is_forced_eq {p : P4} {ws : List Int} {who : Int} {f : Int → Option Int} {n : Nat} (hw : ∀ g ∈ ws, 0 ≤ g ∧ g < n) (hl : ws.length ≤ 1000) :
    F_is_forced [p.d, .tuple (ws.map .int), .int who, .list (tab (fun i => oD (f i)) n)] = .ok (.bool (if p.w = who then decide (0 < (ws.filter fun g => (f g).isSome).length) else decide ((ws.filter fun g => (f g).isSome).length = ws.length))) := by
  have hcmp := ints_filter (t := tE (e2 (dNotN) (e2 dIx (eVar 1) (eVar 0)) (eC .none))) (ρ := [.val (.list (tab (fun i => oD (f i)) n))]) (p := fun g => (f g).isSome) ws fun k hk => by
    simp only [List.set_cons_zero, tE_eq, e2_eq, eVar_0, eVar_s, eC_eq, R.ok_bind, tab_l (hw k hk).1 (hw k hk).2, notN_oD, asB_b]
  unfold F_is_forced M_is_forced
  refine fn_rt ?_
  rw [show ([p.d, .tuple (ws.map .int), .int who, .list (tab (fun i => oD (f i)) n)].map Cell.val ++ List.replicate (5 - [p.d, .tuple (ws.map .int), .int who, .list (tab (fun i => oD (f i)) n)].length) Cell.non) = [.val p.d, .val (.tuple (ws.map .int)), .val (.int who), .val (.list (tab (fun i => oD (f i)) n)), .non] from rfl]
  rw [seq_nx (ρ' := [.val p.d, .val (.tuple (ws.map .int)), .val (.int who), .val (.list (tab (fun i => oD (f i)) n)), .val (.list ((ws.filter fun g => (f g).isSome).map .int))]) (by
    rw [sSet_eq, eComp_eq, show compRho 1 [3] [.val p.d, .val (.tuple (ws.map .int)), .val (.int who), .val (.list (tab (fun i => oD (f i)) n)), .non] = [.non, .val (.list (tab (fun i => oD (f i)) n))] from rfl]
    simp only [iSeq_eq, eVar_0, eVar_s, R.ok_bind, seqD_t, noX_ok]
    rw [if_pos (by rw [List.length_map]; exact small25 hl), hcmp]
    rfl)]
  by_cases h : p.w = who
  · rw [if_pos h]
    refine seq_rt ?_
    simp only [sIf_eq, tE_eq, e2_eq, e1_eq, eVar_0, eVar_s, eC_eq, R.ok_bind, p4_ix0, dEq_i, asB_b, h, decide_true, if_true, sRet_eq, dLen_l, dCmp_i, List.length_map]
    congr 3
    simp
  · rw [if_neg h, seq_nx (ρ' := [.val p.d, .val (.tuple (ws.map .int)), .val (.int who), .val (.list (tab (fun i => oD (f i)) n)), .val (.list ((ws.filter fun g => (f g).isSome).map .int))]) (by
      simp only [sIf_eq, tE_eq, e2_eq, e1_eq, eVar_0, eVar_s, eC_eq, R.ok_bind, p4_ix0, dEq_i, asB_b, h, decide_false]; rfl)]
    simp only [sRet_eq, e2_eq, e1_eq, eVar_0, eVar_s, R.ok_bind, dLen_l, dLen_t, dEq_i, List.length_map]
    congr 3
    exact decide_eq_decide.mpr (by omega)
end G
set_option Elab.async false
set_option linter.all false
set_option maxRecDepth 100000
set_option maxHeartbeats 4000000
namespace G
open PySem PySem.Spec PyProof.Rows L2 D2
theorem Part.some {n : Nat} {js : List Int} (h : Part n js) : F_are_some [.tuple (js.map .int), .int n] = .ok (.bool true) := by
  rw [are_some_eq (d := .tuple (js.map .int)) n (fun ds e x hx => by
    cases e
    obtain ⟨i, _, rfl⟩ := List.mem_map.mp hx
    exact True.intro) True.intro]
  show R.ok (PyData.bool (rise n 0 (js.map .int))) = _
  rw [rise_of n js 0 h.lt fun x hx => h.inn x hx]
end G
set_option Elab.async false
set_option linter.all false
set_option maxRecDepth 100000
set_option maxHeartbeats 4000000
namespace G
open PySem PySem.Spec PyProof.Rows L2 D2
theorem rngD1 {c : Int} (h0 : 0 ≤ c) (h1 : c ≤ 1000) : rngD [.int c] = .ok (rangeI 0 c.toNat) := by
  show (if -(2 ^ 62) ≤ c ∧ c < 2 ^ 62 then R.ok (rangeI 0 c.toNat) else .no) = _
  rw [if_pos (by omega)]
def tBody : Fs := (sSeq (sAug 6 (fun a b => a + b) (eC (.int 1))) (sSeq (sSet 8 (eComp (iSeq (eVar 1)) 1 [5] (bName 0) (tE (e2 (dIsN) (e2 dIx (eVarB 1) (eVar 0)) (eC .none))) (eVar 0))) (sSeq (sSet 7 (eComp (iSeq (eVar 8)) 1 [0, 4, 2, 5] (bName 0) (tE (eLent 4 (eCall F_is_forced (aCons (e2 dIx (eVar 1) (eVar 0)) (aCons (e2 dIx (eVar 2) (eVar 0)) (aCons (eVar 3) (aCons (eVar 4) aNil))))))) (eVar 0))) (sNox (sFor (iSeq (eVar 7)) (bName 9) (sPutL 5 (eVar 9) (eVar 6)))))))
abbrev waysD (ps : List P4) (js : List Int) : PyData := .list (tab (fun i => .tuple ((waysK ps js i).map .int)) ps.length)
abbrev rkD (kvs : List (Int × Int)) (n : Nat) : List PyData := tab (fun i => oD (look kvs i)) n
abbrev tR (ps : List P4) (s : PyData) (js : List Int) (who : Int) (g : PyData) (kvs : List (Int × Int)) (r : Int) (fs : List Int) (c8 c9 : Cell) : Rho :=
  [.val (gD ps), .val s, .val (.int who), .val g, .val (waysD ps js), .own (.list (rkD kvs ps.length)), .val (.int r), .val (.list (fs.map .int)), c8, c9]
theorem look_put {kvs : List (Int × Int)} {i r : Int} (h : i ∉ kvs.map (·.1)) (j : Int) : look (kvs ++ [(i, r)]) j = if j = i then some r else look kvs j := by
  rw [look_append]
  by_cases e : j = i
  · subst e
    rw [if_pos rfl, look_none.mpr h, Option.none_or]
    unfold look
    simp
  · rw [if_neg e]
    have : look [(i, r)] j = none := by
      unfold look
      have : ¬ i = j := fun z => e z.symm
      simp [this]
    rw [this, Option.or_none]
theorem tSets {ps : List P4} {s : PyData} {js : List Int} {who : Int} {g : PyData} {r : Int} {fs0 : List Int} {c8 : Cell} : ∀ (fs : List Int) (kvs : List (Int × Int)) (c9 : Cell), fs.Nodup → (∀ x ∈ fs, x ∉ kvs.map (·.1)) → (∀ x ∈ fs, 0 ≤ x ∧ x < ps.length) →
    ∃ c9', forR (bName 9) (sPutL 5 (eVar 9) (eVar 6)) (fs.map .int) (tR ps s js who g kvs r fs0 c8 c9) = .ok (.nx (tR ps s js who g (kvs ++ fs.map fun i => (i, r)) r fs0 c8 c9'))
  | [], kvs, c9, _, _, _ => ⟨c9, by rw [List.map_nil, forR_nil]; simp⟩
  | i :: fs, kvs, c9, nd, hn, hb => by
    obtain ⟨n1, n2⟩ := List.nodup_cons.mp nd
    have hi := hb i List.mem_cons_self
    obtain ⟨c9', e⟩ := tSets (ps := ps) (s := s) (js := js) (who := who) (g := g) (r := r) (fs0 := fs0) (c8 := c8) fs (kvs ++ [(i, r)]) (.val (.int i)) n2 (fun x hx => by
      rw [List.map_append, List.mem_append]
      rintro (z | z)
      · exact hn x (List.mem_cons_of_mem _ hx) z
      · simp at z
        subst z
        exact n1 hx) fun x hx => hb x (List.mem_cons_of_mem _ hx)
    refine ⟨c9', ?_⟩
    rw [List.map_cons, forR_cons]
    rw [show ((tR ps s js who g kvs r fs0 c8 c9).set 9 (.val (.int i))) = tR ps s js who g kvs r fs0 c8 (.val (.int i)) from rfl]
    rw [sPutL_o (ds := rkD kvs ps.length) (n := i) (v := .int r) rfl rfl rfl hi.1 (by rw [tab_len]; exact hi.2), R.ok_bind, turnO_nx, tab_set hi.1 hi.2]
    rw [tab_congr (g := fun j => oD (look (kvs ++ [(i, r)]) j)) fun j _ _ => by
      rw [look_put (hn i List.mem_cons_self)]
      split <;> rfl]
    refine Eq.trans ?_ (e.trans (by simp))
    rfl
theorem isNone_mem {kvs : List (Int × Int)} {i : Int} : (look kvs i).isNone = !memB (kvs.map (·.1)) i := by
  cases h : memB (kvs.map (·.1)) i with
  | true =>
    cases h2 : look kvs i with
    | none => exact (look_none.mp h2 (memB_iff.mp h)).elim
    | some q => rfl
  | false =>
    rw [look_none.mpr fun z => by rw [memB_iff.mpr z] at h; cases h]
    rfl
theorem isSome_mem {kvs : List (Int × Int)} {i : Int} : (look kvs i).isSome = memB (kvs.map (·.1)) i := by
  have := isNone_mem (kvs := kvs) (i := i)
  cases h : look kvs i <;> rw [h] at this <;> cases h2 : memB (kvs.map (·.1)) i <;> rw [h2] at this <;> simp_all
theorem forced_cond {ps : List P4} {js : List Int} {who : Int} {kn : List Int} {i : Int} (hw : ∃ g, g ∈ waysK ps js i) :
    (!memB kn i && (if ownerOf ps i = who then decide (0 < (goodK ps js kn i).length) else decide ((goodK ps js kn i).length = (waysK ps js i).length))) = condK ps js who kn i := by
  obtain ⟨g, hg⟩ := hw
  have hp := List.length_pos_of_mem hg
  unfold condK
  by_cases ho : ownerOf ps i = who
  · simp [ho]
  · by_cases he : (goodK ps js kn i).length = (waysK ps js i).length
    · simp [ho, he, hp]
    · simp [ho, he]
theorem tBody_eq {ps : List P4} (hl : ∀ p ∈ ps, p.ns.length ≤ 100) (hgo : ∀ p ∈ ps, ∀ x ∈ p.ns, 0 ≤ x ∧ x < ps.length) (hp : ps.length ≤ 24) {s : PyData} {js : List Int} (hs : Seq s js) (hj : Part ps.length js) (hw : Whole ps js) {who : Int} {g : PyData} {kvs : List (Int × Int)} {r : Int} {fs : List Int} (c8 c9 : Cell) :
    ∃ c8' c9', tBody (tR ps s js who g kvs r fs c8 c9) = .ok (.nx (tR ps s js who g (roundK ps js who (r + 1) kvs) (r + 1) (newK ps js who (kvs.map (·.1)) js) c8' c9')) := by
  have hlen := hj.len
  have h1 := ints_filter (t := tE (e2 (dIsN) (e2 dIx (eVarB 1) (eVar 0)) (eC .none))) (ρ := [.own (.list (rkD kvs ps.length))]) (p := fun i => !memB (kvs.map (·.1)) i) js fun k hk => by
    simp only [List.set_cons_zero, tE_eq, e2_eq, eVar_0, eVarB_s, eVarB_o, eC_eq, R.ok_bind, tab_l (hj.inn k hk).1 (hj.inn k hk).2, isN_oD, asB_b, isNone_mem]
  have h2 := ints_filter (t := tE (eLent 4 (eCall F_is_forced (aCons (e2 dIx (eVar 1) (eVar 0)) (aCons (e2 dIx (eVar 2) (eVar 0)) (aCons (eVar 3) (aCons (eVar 4) aNil))))))) (ρ := [.val (gD ps), .val (waysD ps js), .val (.int who), .own (.list (rkD kvs ps.length))])
    (p := condK ps js who (kvs.map (·.1))) (js.filter fun i => !memB (kvs.map (·.1)) i) fun k hk => by
    obtain ⟨hkj, hkn⟩ := List.mem_filter.mp hk
    have hb := hj.inn k hkj
    have hg := goalsOf_eq hb.1 hb.2
    have hwl : (waysK ps js k).length ≤ 1000 := by
      refine Nat.le_trans (List.length_filter_le ..) ?_
      rw [hg]
      have := hl _ (List.getElem_mem (show k.toNat < ps.length by omega))
      omega
    have hwb : ∀ x ∈ waysK ps js k, 0 ≤ x ∧ x < ps.length := fun x hx => by
      have := (List.mem_filter.mp hx).1
      rw [hg] at this
      exact hgo _ (List.getElem_mem _) x this
    have hf := is_forced_eq (p := ps[k.toNat]'(by omega)) (who := who) (f := look kvs) hwb hwl
    have ho := ownerOf_eq hb.1 hb.2
    have hgk : ((waysK ps js k).filter fun g => (look kvs g).isSome) = goodK ps js (kvs.map (·.1)) k := by
      unfold goodK
      congr 1
      funext g
      exact isSome_mem
    rw [hgk, ← ho] at hf
    have e4 : eLent 4 (eCall F_is_forced (aCons (e2 dIx (eVar 1) (eVar 0)) (aCons (e2 dIx (eVar 2) (eVar 0)) (aCons (eVar 3) (aCons (eVar 4) aNil))))) [.val (.int k), .val (gD ps), .val (waysD ps js), .val (.int who), .own (.list (rkD kvs ps.length))]
      = (noX (eCall F_is_forced (aCons (e2 dIx (eVar 1) (eVar 0)) (aCons (e2 dIx (eVar 2) (eVar 0)) (aCons (eVar 3) (aCons (eVar 4) aNil)))) [.val (.int k), .val (gD ps), .val (waysD ps js), .val (.int who), .val (.list (rkD kvs ps.length))]) >>= atomD) := rfl
    have hc := forced_cond (who := who) (kn := kvs.map (·.1)) (hw k hkj)
    rw [hkn, Bool.true_and] at hc
    rw [List.set_cons_zero, tE_eq, e4, eCall_eq]
    simp only [aCons_eq, aNil_eq, e2_eq, eVar_0, eVar_s, R.ok_bind, ix_gD hb.1 hb.2, tab_l hb.1 hb.2]
    rw [hf, hc]
    rfl
  have hfil : (js.filter fun i => !memB (kvs.map (·.1)) i).filter (condK ps js who (kvs.map (·.1))) = newK ps js who (kvs.map (·.1)) js := by
    unfold newK
    rw [List.filter_filter]
    apply List.filter_congr
    intro x _
    unfold condK
    cases memB (kvs.map (·.1)) x <;> simp
  rw [hfil] at h2
  have hnew : Part ps.length (newK ps js who (kvs.map (·.1)) js) := hj.filter _
  obtain ⟨c9', e⟩ := tSets (ps := ps) (s := s) (js := js) (who := who) (g := g) (r := r + 1) (fs0 := newK ps js who (kvs.map (·.1)) js) (c8 := .val (.list ((js.filter fun i => !memB (kvs.map (·.1)) i).map .int))) (newK ps js who (kvs.map (·.1)) js) kvs c9 hnew.nd (fun x hx => (newK_not hx).2) hnew.inn
  refine ⟨.val (.list ((js.filter fun i => !memB (kvs.map (·.1)) i).map .int)), c9', ?_⟩
  unfold tBody
  rw [seq_nx (ρ' := tR ps s js who g kvs (r + 1) fs c8 c9) (by simp only [sAug_eq, eVar_s, eVar_0, eC_eq, R.ok_bind, dIp_i]; rfl)]
  rw [seq_nx (ρ' := tR ps s js who g kvs (r + 1) fs (.val (.list ((js.filter fun i => !memB (kvs.map (·.1)) i).map .int))) c9) (by
    rw [sSet_eq, eComp_eq, show compRho 1 [5] (tR ps s js who g kvs (r + 1) fs c8 c9) = [.non, .own (.list (rkD kvs ps.length))] from rfl]
    simp only [iSeq_eq, eVar_s, eVar_0, R.ok_bind, hs.seq, noX_ok]
    rw [if_pos (by rw [List.length_map]; exact small25 (by omega)), h1]
    rfl)]
  rw [seq_nx (ρ' := tR ps s js who g kvs (r + 1) (newK ps js who (kvs.map (·.1)) js) (.val (.list ((js.filter fun i => !memB (kvs.map (·.1)) i).map .int))) c9) (by
    rw [sSet_eq, eComp_eq, show compRho 1 [0, 4, 2, 5] (tR ps s js who g kvs (r + 1) fs (.val (.list ((js.filter fun i => !memB (kvs.map (·.1)) i).map .int))) c9) = [.non, .val (gD ps), .val (waysD ps js), .val (.int who), .own (.list (rkD kvs ps.length))] from rfl]
    simp only [iSeq_eq, eVar_s, eVar_0, R.ok_bind, seqD_l, noX_ok]
    rw [if_pos (by rw [List.length_map]; exact small25 (Nat.le_trans (List.length_filter_le ..) (by omega))), h2]
    rfl)]
  rw [sNox_eq, sFor_eq, iSeq_eq, eVar_s, eVar_s, eVar_s, eVar_s, eVar_s, eVar_s, eVar_s, eVar_0, R.ok_bind, seqD_l, R.ok_bind, e]
  rfl
theorem roundsK_stop {ps : List P4} {js : List Int} {who : Int} {kvs : List (Int × Int)} (h : newK ps js who (kvs.map (·.1)) js = []) : ∀ (n : Nat) (r : Int), roundsK ps js who r n kvs = kvs
  | 0, r => rfl
  | n + 1, r => by
    show roundsK ps js who (r + 1) n (roundK ps js who r kvs) = kvs
    have : roundK ps js who r kvs = kvs := by unfold roundK; rw [h]; simp
    rw [this, roundsK_stop h n]
theorem tLoop {ps : List P4} (hl : ∀ p ∈ ps, p.ns.length ≤ 100) (hgo : ∀ p ∈ ps, ∀ x ∈ p.ns, 0 ≤ x ∧ x < ps.length) (hp : ps.length ≤ 24) {s : PyData} {js : List Int} (hs : Seq s js) (hj : Part ps.length js) (hw : Whole ps js) {who : Int} {g : PyData} :
    ∀ (k n : Nat) (kvs : List (Int × Int)) (r : Int) (fs : List Int) (c8 c9 : Cell), KeysIn js kvs → js.length - kvs.length ≤ k → (fs = [] → newK ps js who (kvs.map (·.1)) js = []) → k + 3 ≤ n →
    ∃ K r' fs' c8' c9', whileR (tE (e2 (dCmp pGt) (e1 dLen (eVar 7)) (eC (.int 0)))) tBody n (tR ps s js who g kvs r fs c8 c9) = .ok (.nx (tR ps s js who g K r' fs' c8' c9')) ∧ ∀ N, k + 1 ≤ N → roundsK ps js who (r + 1) N kvs = K
  | k, 0, kvs, r, fs, c8, c9, _, _, _, h => by omega
  | k, n + 1, kvs, r, fs, c8, c9, hk, hm, hf, hn => by
    rw [whileR_s]
    have ht : tE (e2 (dCmp pGt) (e1 dLen (eVar 7)) (eC (.int 0))) (tR ps s js who g kvs r fs c8 c9) = .ok (decide (0 < fs.length)) := by
      simp only [tE_eq, e2_eq, e1_eq, eVar_s, eVar_0, eC_eq, R.ok_bind, dLen_l, dCmp_i, asB_b, List.length_map]
      congr 1
      simp
    rw [ht, R.ok_bind]
    by_cases h0 : fs = []
    · have hs0 := hf h0
      subst h0
      exact ⟨kvs, r, [], c8, c9, rfl, fun N _ => roundsK_stop hs0 N _⟩
    · rw [if_pos (decide_eq_true (List.length_pos_iff.mpr h0))]
      obtain ⟨c8', c9', e⟩ := tBody_eq hl hgo hp hs hj hw (who := who) (g := g) (kvs := kvs) (r := r) (fs := fs) c8 c9
      rw [e, R.ok_bind, turnO_nx]
      by_cases h1 : newK ps js who (kvs.map (·.1)) js = []
      · have w1 : roundK ps js who (r + 1) kvs = kvs := by unfold roundK; rw [h1]; simp
        rw [h1, w1]
        refine ⟨kvs, r + 1, [], c8', c9', ?_, fun N _ => roundsK_stop h1 N _⟩
        cases n with
        | zero => omega
        | succ n =>
          rw [whileR_s]
          have ht2 : tE (e2 (dCmp pGt) (e1 dLen (eVar 7)) (eC (.int 0))) (tR ps s js who g kvs (r + 1) [] c8' c9') = .ok false := rfl
          rw [ht2, R.ok_bind]
          rfl
      · have hk' := hk.round (ps := ps) (who := who) (r := r + 1) hj.nd
        have hkl := hk'.len hj.nd
        have hgrow : kvs.length + 1 ≤ (roundK ps js who (r + 1) kvs).length := by
          unfold roundK
          rw [List.length_append, List.length_map]
          have := List.length_pos_iff.mpr h1
          omega
        obtain ⟨K, r', fs', d8, d9, w2, w3⟩ := tLoop hl hgo hp hs hj hw (who := who) (g := g) (k - 1) n (roundK ps js who (r + 1) kvs) (r + 1) (newK ps js who (kvs.map (·.1)) js) c8' c9' hk' (by omega) (fun z => (h1 z).elim) (by omega)
        refine ⟨K, r', fs', d8, d9, w2, fun N hN => ?_⟩
        cases N with
        | zero => omega
        | succ N => exact w3 N (by omega)
theorem ranks_to_eq {ps : List P4} (hl : ∀ p ∈ ps, p.ns.length ≤ 100) (hgo : ∀ p ∈ ps, ∀ x ∈ p.ns, 0 ≤ x ∧ x < ps.length) (hp : ps.length ≤ 24) {s g : PyData} {js gs : List Int} (hs : Seq s js) (hsg : Seq g gs) (hj : Part ps.length js) (hg : Part ps.length gs) (hsub : ∀ x ∈ gs, x ∈ js) (hw : Whole ps js) {who : Int} :
    F_ranks_to [gD ps, s, .int who, g] = .ok (.tuple (tab (fun i => oD (rK ps js who gs i)) ps.length)) := by
  have hlen := hj.len
  have hglen := hg.len
  have hgj : gs.length ≤ js.length := nodup_len hg.nd hsub
  have hk0 : KeysIn js (gs.map fun i => ((i, 0) : Int × Int)) := by
    have e : (gs.map fun i => ((i, 0) : Int × Int)).map (·.1) = gs := by rw [List.map_map]; exact List.map_id _
    exact ⟨by rw [e]; exact hg.nd, by rw [e]; exact hsub⟩
  have hk0e : (gs.map fun i => ((i, 0) : Int × Int)).map (·.1) = gs := by rw [List.map_map]; exact List.map_id _
  obtain ⟨K, r', fs', d8, d9, w2, w3⟩ := tLoop hl hgo hp hs hj hw (who := who) (g := g) (js.length - gs.length) 1000000 (gs.map fun i => (i, 0)) 0 gs .non .non hk0 (by rw [List.length_map]; exact Nat.le_refl _) (fun z => by
    rw [hk0e, z]
    unfold newK
    rw [List.filter_eq_nil_iff]
    intro i _
    rw [cond_iff]
    rintro ⟨_, ⟨g, _, hz⟩, _⟩
    cases hz) (by omega)
  have hK : K = stK ps js who gs ps.length := by
    by_cases h0 : gs = []
    · subst h0
      have hz : newK ps js who (([] : List (Int × Int)).map (·.1)) js = [] := by
        unfold newK
        rw [List.filter_eq_nil_iff]
        intro i _
        rw [cond_iff]
        rintro ⟨_, ⟨g, _, hz⟩, _⟩
        cases hz
      have e4 := w3 (js.length - 0 + 1) (Nat.le_refl _)
      rw [List.map_nil, roundsK_stop hz] at e4
      rw [← e4]
      unfold stK
      rw [List.map_nil, roundsK_stop hz]
    · have := List.length_pos_iff.mpr h0
      have e4 := w3 ps.length (by omega)
      rw [← e4]
      rfl
  have hways : compR (bName 0) (fun _ => .ok true) (eCall F_common (aCons (e2 dIx (eVar 0) (eC (.int 3))) (aCons (eVar 1) aNil))) [.non, .val s] (ps.map P4.d) = .ok (tab (fun i => .tuple ((waysK ps js i).map .int)) ps.length) := by
    have go : ∀ qs : List P4, (∀ p ∈ qs, p.ns.length ≤ 100) → compR (bName 0) (fun _ => .ok true) (eCall F_common (aCons (e2 dIx (eVar 0) (eC (.int 3))) (aCons (eVar 1) aNil))) [.non, .val s] (qs.map P4.d) = .ok (qs.map fun p => .tuple ((p.ns.filter (memB js)).map .int)) := by
      intro qs
      induction qs with
      | nil => exact fun _ => compR_nil ..
      | cons p qs ih =>
        intro h
        have hc := common_eq (s := .tuple (p.ns.map .int)) (ns := p.ns) (.inl rfl) hs (by have := h p List.mem_cons_self; omega)
        rw [List.map_cons, compR_cons, ih fun q hq => h q (List.mem_cons_of_mem _ hq)]
        simp only [R.ok_bind, if_true, List.set_cons_zero, eCall_eq, aCons_eq, aNil_eq, e2_eq, eVar_0, eVar_s, eC_eq, p4_ix3, hc]
        rfl
    rw [go ps hl]
    congr 1
    refine List.ext_getElem (by rw [List.length_map, tab_len]) fun k h1 h2 => ?_
    rw [tab_len] at h2
    have e := tab_get (f := fun i => .tuple ((waysK ps js i).map .int)) (n := ps.length) (i := (k : Int)) (by omega) (by omega)
    simp only [Int.toNat_natCast] at e
    rw [e, List.getElem_map]
    unfold waysK
    rw [goalsOf_eq (by omega) (by omega)]
    simp
  have hinit : compR (bName 0) (fun _ => .ok true) (eIf (tE (e2 (dIn false) (eVar 0) (eVar 1))) (eC (.int 0)) (eC .none)) [.non, .val g] (rangeI 0 ps.length) = .ok (rkD (gs.map fun i => (i, 0)) ps.length) :=
    rangeI_tab _ _ _ _ fun i h0 h1 => by
      simp only [List.set_cons_zero, eIf_eq, tE_eq, e2_eq, eVar_0, eVar_s, eC_eq, R.ok_bind, hsg.inn, asB_b, look_const]
      cases hm : memB gs i with
      | true => rw [if_pos (memB_iff.mp hm)]; rfl
      | false => rw [if_neg (show ¬ i ∈ gs from fun z => by rw [memB_iff.mpr z] at hm; cases hm)]; rfl
  have hr : rngD [.int (ps.length : Int)] = .ok (rangeI 0 ps.length) := by
    rw [rngD1 (by omega) (by omega), Int.toNat_natCast]
  have hlst : dList g = .ok (.list (gs.map .int)) := by rcases hsg with rfl | rfl <;> rfl
  unfold F_ranks_to M_ranks_to
  refine fn_rt ?_
  rw [show ([gD ps, s, .int who, g].map Cell.val ++ List.replicate (10 - [gD ps, s, .int who, g].length) Cell.non) = [.val (gD ps), .val s, .val (.int who), .val g, .non, .non, .non, .non, .non, .non] from rfl]
  rw [seq_nx (ρ' := [.val (gD ps), .val s, .val (.int who), .val g, .val (waysD ps js), .non, .non, .non, .non, .non]) (by
    rw [sSet_eq, eComp_eq, show compRho 1 [1] [.val (gD ps), .val s, .val (.int who), .val g, .non, .non, .non, .non, .non, .non] = [.non, .val s] from rfl]
    simp only [iSeq_eq, eVar_0, R.ok_bind, seqD_t, noX_ok]
    rw [if_pos (by rw [List.length_map]; exact small25 (by omega)), hways]
    rfl)]
  rw [seq_nx (ρ' := [.val (gD ps), .val s, .val (.int who), .val g, .val (waysD ps js), .own (.list (rkD (gs.map fun i => (i, 0)) ps.length)), .non, .non, .non, .non]) (by
    rw [sOwn_eq, eComp_eq, show compRho 1 [3] [.val (gD ps), .val s, .val (.int who), .val g, .val (waysD ps js), .non, .non, .non, .non, .non] = [.non, .val g] from rfl]
    simp only [iRange_eq, aCons_eq, aNil_eq, e1_eq, eVar_0, R.ok_bind, dLen_t, List.length_map, hr, noX_ok]
    rw [if_pos (by rw [rangeI_len]; exact small25 (by omega)), hinit]
    rfl)]
  rw [seq_nx (ρ' := [.val (gD ps), .val s, .val (.int who), .val g, .val (waysD ps js), .own (.list (rkD (gs.map fun i => (i, 0)) ps.length)), .val (.int 0), .non, .non, .non]) (by rfl)]
  rw [seq_nx (ρ' := tR ps s js who g (gs.map fun i => (i, 0)) 0 gs .non .non) (by
    simp only [sSet_eq, e1_eq, eVar_s, eVar_0, R.ok_bind, hlst]
    rfl)]
  rw [seq_nx (ρ' := tR ps s js who g K r' fs' d8 d9) (by
    rw [sNox_eq]
    show noX (whileR (tE (e2 (dCmp pGt) (e1 dLen (eVar 7)) (eC (.int 0)))) tBody 1000000 _) = _
    rw [w2]
    rfl)]
  rw [hK]
  rfl
end G
set_option Elab.async false
set_option linter.all false
set_option maxRecDepth 100000
set_option maxHeartbeats 4000000
namespace G
open PySem PySem.Spec PyProof.Rows L2 D2
def somes (f : Int → Option Int) (n : Nat) : List Int := (ids n).filter fun i => (f i).isSome
theorem somes_part (f : Int → Option Int) (n : Nat) : Part n (somes f n) := (Part.ids n).filter _
theorem mem_somes {f : Int → Option Int} {n : Nat} {i : Int} : i ∈ somes f n ↔ (0 ≤ i ∧ i < n) ∧ ∃ q, f i = some q := by
  unfold somes
  rw [List.mem_filter, mem_ids, Option.isSome_iff_exists]
abbrev oT (f : Int → Option Int) (n : Nat) : PyData := .tuple (tab (fun i => oD (f i)) n)
theorem ranked_eq {f : Int → Option Int} {n : Nat} (hn : n ≤ 1000) : F_ranked [oT f n] = .ok (.tuple ((somes f n).map .int)) := by
  have hc := enum_filter (t := tE (e2 (dNotN) (eVar 1) (eC .none))) (ρ := []) (p := fun i => (f i).isSome) (g := fun i => oD (f i)) n 0 fun j _ _ => by
    simp only [tE_eq, e2_eq, eVar_s, eVar_0, eC_eq, R.ok_bind, notN_oD, asB_b]
  rw [idF_ids] at hc
  unfold F_ranked M_ranked
  refine fn_rt ?_
  rw [show ([oT f n].map Cell.val ++ List.replicate (1 - [oT f n].length) Cell.non) = [.val (oT f n)] from rfl]
  rw [sRet_eq, e1_eq, eComp_eq, show compRho 2 [] [.val (oT f n)] = [.non, .non] from rfl]
  simp only [iEnum_eq, eVar_0, R.ok_bind, seqD_t, noX_ok]
  rw [if_pos (by rw [enumD_len, tab_len]; exact small25 hn)]
  rw [show enumD 0 (tab (fun i => oD (f i)) n) = enumD 0 ((ids n).map fun i => oD (f i)) from rfl, hc]
  rfl
theorem eq_oD_i (o : Option Int) (k : Int) : dEq (oD o) (.int k) = .ok (.bool (decide (o = some k))) := by
  cases o with
  | none => rfl
  | some q =>
    show dEq (.int q) (.int k) = _
    rw [dEq_i]
    congr 2
    simp
def mvK (ps : List P4) (who : Int) (f : Int → Option Int) (i : Int) : Option Int := match f i with
  | some q => if ownerOf ps i = who ∧ 0 < q then ((goalsOf ps i).filter fun g => decide (f g = some (q - 1))).head? else none
  | none => none
def pBody : Fs := (sIf (tAndR (tE (e2 (dEq) (e2 dIx (e2 dIx (eVar 0) (eVar 4)) (eC (.int 0))) (eVar 1))) (tE (e2 (dCmp pGt) (e2 dIx (eVar 2) (eVar 4)) (eC (.int 0))))) (sPutL 3 (eVar 4) (e2 dIx (eComp (iSeq (e2 dIx (e2 dIx (eVar 0) (eVar 4)) (eC (.int 3)))) 1 [2, 4] (bName 0) (tE (e2 (dEq) (e2 dIx (eVar 1) (eVar 0)) (e2 dSub (e2 dIx (eVar 1) (eVar 2)) (eC (.int 1))))) (eVar 0)) (eC (.int 0)))) sSkip)
structure Gr (ps : List P4) : Prop where
  hl : ∀ p ∈ ps, p.ns.length ≤ 100
  hgo : ∀ p ∈ ps, ∀ x ∈ p.ns, 0 ≤ x ∧ x < ps.length
  hp : ps.length ≤ 24
  lt : ∀ p ∈ ps, p.ns.Pairwise (· < ·)
  ne : ∀ p ∈ ps, p.ns ≠ []
theorem Gr.goals {ps : List P4} (G : Gr ps) {i x : Int} (h : x ∈ goalsOf ps i) : 0 ≤ x ∧ x < ps.length := by
  unfold goalsOf at h
  cases e : ps[i.toNat]? with
  | none => rw [e] at h; cases h
  | some p => rw [e] at h; exact G.hgo p (List.mem_of_getElem? e) x h
theorem Gr.glen {ps : List P4} (G : Gr ps) (i : Int) : (goalsOf ps i).length ≤ 100 := by
  unfold goalsOf
  cases e : ps[i.toNat]? with
  | none => simp
  | some p => exact G.hl p (List.mem_of_getElem? e)
theorem pTurns {ps : List P4} (G : Gr ps) {who : Int} {f : Int → Option Int} (hne : ∀ i q, f i = some q → 0 < q → ownerOf ps i = who → ∃ g ∈ goalsOf ps i, f g = some (q - 1)) : ∀ (is : List Int) (h : Int → PyData) (c4 : Cell), is.Nodup → (∀ x ∈ is, (0 ≤ x ∧ x < ps.length) ∧ (∃ q, f x = some q) ∧ h x = .none) →
    ∃ c4', forR (bName 4) pBody (is.map .int) [.val (gD ps), .val (.int who), .val (oT f ps.length), .own (.list (tab h ps.length)), c4] = .ok (.nx [.val (gD ps), .val (.int who), .val (oT f ps.length), .own (.list (tab (fun j => if j ∈ is then oD (mvK ps who f j) else h j) ps.length)), c4'])
  | [], h, c4, _, _ => ⟨c4, by rw [List.map_nil, forR_nil]; simp⟩
  | i :: is, h, c4, nd, hb => by
    obtain ⟨n1, n2⟩ := List.nodup_cons.mp nd
    obtain ⟨hi, ⟨q, hq⟩, hh⟩ := hb i List.mem_cons_self
    have ho := ownerOf_eq hi.1 hi.2
    have hg := goalsOf_eq hi.1 hi.2
    obtain ⟨c4', e⟩ := pTurns G hne is (fun j => if j = i then oD (mvK ps who f i) else h j) (.val (.int i)) n2 (fun x hx => ⟨(hb x (List.mem_cons_of_mem _ hx)).1, (hb x (List.mem_cons_of_mem _ hx)).2.1, by
      have : x ≠ i := by rintro rfl; exact n1 hx
      show (if x = i then _ else h x) = _
      rw [if_neg this]
      exact (hb x (List.mem_cons_of_mem _ hx)).2.2⟩)
    refine ⟨c4', ?_⟩
    have fin : tab (fun j => if j ∈ is then oD (mvK ps who f j) else (fun j => if j = i then oD (mvK ps who f i) else h j) j) ps.length = tab (fun j => if j ∈ i :: is then oD (mvK ps who f j) else h j) ps.length := tab_congr fun j _ _ => by
      by_cases h1 : j = i
      · subst h1
        simp [n1]
      · by_cases h2 : j ∈ is <;> simp [h1, h2]
    rw [fin] at e
    rw [← e, List.map_cons, forR_cons, show (([.val (gD ps), .val (.int who), .val (oT f ps.length), .own (.list (tab h ps.length)), c4] : Rho).set 4 (.val (.int i))) = [.val (gD ps), .val (.int who), .val (oT f ps.length), .own (.list (tab h ps.length)), .val (.int i)] from rfl]
    have ht : (tAndR (tE (e2 (dEq) (e2 dIx (e2 dIx (eVar 0) (eVar 4)) (eC (.int 0))) (eVar 1))) (tE (e2 (dCmp pGt) (e2 dIx (eVar 2) (eVar 4)) (eC (.int 0))))) [.val (gD ps), .val (.int who), .val (oT f ps.length), .own (.list (tab h ps.length)), .val (.int i)] = .ok (decide (ownerOf ps i = who ∧ 0 < q)) := by
      have hrk : dIx (oT f ps.length) (.int i) = .ok (.int q) := by rw [tab_t hi.1 hi.2, hq]; rfl
      simp only [tAndR_eq, tE_eq, e2_eq, eVar_0, eVar_s, eC_eq, R.ok_bind, ix_gD hi.1 hi.2, p4_ix0, dEq_i, asB_b, hrk, dCmp_i]
      rw [← ho]
      by_cases h1 : ownerOf ps i = who
      · by_cases h2 : 0 < q <;> simp [h1, h2]
      · simp [h1]
    have hb1 : pBody [.val (gD ps), .val (.int who), .val (oT f ps.length), .own (.list (tab h ps.length)), .val (.int i)] = .ok (.nx [.val (gD ps), .val (.int who), .val (oT f ps.length), .own (.list (tab (fun j => if j = i then oD (mvK ps who f i) else h j) ps.length)), .val (.int i)]) := by
      unfold pBody
      rw [sIf_eq, ht, R.ok_bind]
      by_cases hc : ownerOf ps i = who ∧ 0 < q
      · rw [if_pos (decide_eq_true hc)]
        have hcmp := ints_filter (t := tE (e2 (dEq) (e2 dIx (eVar 1) (eVar 0)) (e2 dSub (e2 dIx (eVar 1) (eVar 2)) (eC (.int 1))))) (ρ := [.val (oT f ps.length), .val (.int i)]) (p := fun g => decide (f g = some (q - 1))) (goalsOf ps i) fun k hk => by
          have hkb := G.goals hk
          have hrk : dIx (oT f ps.length) (.int i) = .ok (.int q) := by rw [tab_t hi.1 hi.2, hq]; rfl
          simp only [List.set_cons_zero, tE_eq, e2_eq, eVar_0, eVar_s, eC_eq, R.ok_bind, tab_t hkb.1 hkb.2, hrk, dSub_i, eq_oD_i, asB_b]
        obtain ⟨g, hg1, hg2⟩ := hne i q hq hc.2 hc.1
        have hm : mvK ps who f i = ((goalsOf ps i).filter fun g => decide (f g = some (q - 1))).head? := by
          unfold mvK
          rw [hq]
          exact if_pos hc
        have hmem : g ∈ (goalsOf ps i).filter fun g => decide (f g = some (q - 1)) := List.mem_filter.mpr ⟨hg1, decide_eq_true hg2⟩
        cases hL : (goalsOf ps i).filter fun g => decide (f g = some (q - 1)) with
        | nil => rw [hL] at hmem; cases hmem
        | cons v r =>
          rw [hL] at hm hcmp
          rw [sPutL_o (ds := tab h ps.length) (n := i) (v := .int v) rfl rfl ?_ hi.1 (by rw [tab_len]; exact hi.2), tab_set hi.1 hi.2, hm]
          · rfl
          · rw [e2_eq, eComp_eq, show compRho 1 [2, 4] [.val (gD ps), .val (.int who), .val (oT f ps.length), .own (.list (tab h ps.length)), .val (.int i)] = [.non, .val (oT f ps.length), .val (.int i)] from rfl]
            simp only [iSeq_eq, e2_eq, eVar_0, eVar_s, eC_eq, R.ok_bind, ix_gD hi.1 hi.2, p4_ix3, seqD_t, noX_ok]
            rw [← hg, if_pos (by rw [List.length_map]; exact small25 (by have := G.glen i; omega)), hcmp, lstR_ok, R.ok_bind, dIx_l (by omega) (by simp)]
            rfl
      · rw [if_neg (by rw [decide_eq_true_iff]; exact hc)]
        have hm : mvK ps who f i = none := by
          unfold mvK
          rw [hq]
          exact if_neg hc
        rw [sSkip_eq, hm]
        congr 3
        rw [tab_congr fun j _ _ => ?_]
        by_cases h1 : j = i
        · subst h1; rw [if_pos rfl, hh]; rfl
        · rw [if_neg h1]
    rw [hb1, R.ok_bind, turnO_nx]
theorem pulling_moves_eq {ps : List P4} (G : Gr ps) {who : Int} {f : Int → Option Int} (hne : ∀ i q, f i = some q → 0 < q → ownerOf ps i = who → ∃ g ∈ goalsOf ps i, f g = some (q - 1)) :
    F_pulling_moves [gD ps, .int who, oT f ps.length] = .ok (oT (mvK ps who f) ps.length) := by
  have hp := G.hp
  have h0 : compR (bName 0) (fun _ => .ok true) (eC .none) [.non] (tab (fun i => oD (f i)) ps.length) = .ok (tab (fun _ => .none) ps.length) := by
    have := compR_map (eC .none) [.non] 0 (fun _ => .none) (tab (fun i => oD (f i)) ps.length) fun d _ => rfl
    rw [this]
    unfold tab
    rw [List.map_map]
    rfl
  obtain ⟨c4, e⟩ := pTurns G hne (somes f ps.length) (fun _ => .none) .non (somes_part f ps.length).nd fun x hx => ⟨(mem_somes.mp hx).1, (mem_somes.mp hx).2, rfl⟩
  have fin : tab (fun j => if j ∈ somes f ps.length then oD (mvK ps who f j) else .none) ps.length = tab (fun j => oD (mvK ps who f j)) ps.length := tab_congr fun j h1 h2 => by
    by_cases h : j ∈ somes f ps.length
    · rw [if_pos h]
    · rw [if_neg h]
      have : f j = none := by
        cases hf : f j with
        | none => rfl
        | some q => exact (h (mem_somes.mpr ⟨⟨h1, h2⟩, q, hf⟩)).elim
      unfold mvK
      rw [this]
      rfl
  rw [fin] at e
  unfold F_pulling_moves M_pulling_moves
  refine fn_rt ?_
  rw [show ([gD ps, .int who, oT f ps.length].map Cell.val ++ List.replicate (5 - [gD ps, .int who, oT f ps.length].length) Cell.non) = [.val (gD ps), .val (.int who), .val (oT f ps.length), .non, .non] from rfl]
  rw [seq_nx (ρ' := [.val (gD ps), .val (.int who), .val (oT f ps.length), .own (.list (tab (fun _ => .none) ps.length)), .non]) (by
    rw [sOwn_eq, eComp_eq, show compRho 1 [] [.val (gD ps), .val (.int who), .val (oT f ps.length), .non, .non] = [.non] from rfl]
    simp only [iSeq_eq, eVar_0, eVar_s, R.ok_bind, seqD_t, noX_ok]
    rw [if_pos (by rw [tab_len]; exact small25 (by omega)), h0]
    rfl)]
  rw [seq_nx (ρ' := [.val (gD ps), .val (.int who), .val (oT f ps.length), .own (.list (tab (fun j => oD (mvK ps who f j)) ps.length)), c4]) (by
    rw [sNox_eq, sFor_eq, iSeq_eq]
    simp only [eCall_eq, aCons_eq, aNil_eq, eVar_0, eVar_s, R.ok_bind, ranked_eq (show ps.length ≤ 1000 by omega), seqD_t]
    unfold pBody at e
    rw [e]
    rfl)]
  rfl
theorem attr_goals {ps : List P4} {js : List Int} {who : Int} {gs : List Int} {rk : Int → Option Int} (A : Attr ps js who gs rk) : ∀ i q, rk i = some q → 0 < q → ownerOf ps i = who → ∃ g ∈ goalsOf ps i, rk g = some (q - 1) := fun i q h1 h2 h3 => by
  obtain ⟨g, hg, e⟩ := A.own i q h1 h2 h3
  exact ⟨g, (List.mem_filter.mp hg).1, e⟩
end G
set_option Elab.async false
set_option linter.all false
set_option maxRecDepth 100000
set_option maxHeartbeats 4000000
namespace G
open PySem PySem.Spec PyProof.Rows L2 D2
theorem dNe_same {d : PyData} (hg : Good d) (hd : d.depth ≤ 60) : dNe d d = .ok (.bool false) := by
  unfold dNe
  rw [if_pos (by unfold eqOk; rw [hg]; simp; exact hd), PySem.SeqAt.eqv_refl d hg]
  rfl
def Flat : List PyData → Prop := fun ds => ∀ x ∈ ds, Good x ∧ x.depth = 0
theorem Flat.dep : ∀ {ds : List PyData}, Flat ds → PyData.depthAll ds = 0
  | [], _ => by simp [PyData.depthAll]
  | d :: ds, h => by simp [PyData.depthAll, (h d List.mem_cons_self).2, Flat.dep fun x hx => h x (List.mem_cons_of_mem _ hx)]
theorem Flat.good {ds : List PyData} (h : Flat ds) : Good (.tuple ds) := good_tuple.mpr fun x hx => (h x hx).1
theorem oD_flat (o : Option Int) : Good (oD o) ∧ (oD o).depth = 0 := by
  cases o
  · exact ⟨good_none, by simp [oD, PyData.depth]⟩
  · exact ⟨good_int _, by simp [oD, PyData.depth]⟩
theorem flat_tab (f : Int → Option Int) (n : Nat) : Flat (tab (fun i => oD (f i)) n) := fun x hx => by
  obtain ⟨i, _, rfl⟩ := List.mem_map.mp hx
  exact oD_flat _
theorem flat_ints (ns : List Int) : Flat (ns.map .int) := fun x hx => by
  obtain ⟨i, _, rfl⟩ := List.mem_map.mp hx
  exact oD_flat (some i)
theorem oT_good (f : Int → Option Int) (n : Nat) : Good (oT f n) := (flat_tab f n).good
theorem tI_good (ns : List Int) : Good (.tuple (ns.map .int)) := (flat_ints ns).good
end G
set_option Elab.async false
set_option linter.all false
set_option maxRecDepth 100000
set_option maxHeartbeats 4000000
namespace G
open PySem PySem.Spec PyProof.Rows L2 D2
theorem gr_of {ps : List P4} {hi : Int} (hp : ∀ p ∈ ps, Pl ps.length hi p) (h24 : (ps.length : Int) ≤ 24) : Gr ps :=
  ⟨fun p h => by have := (hp p h).len; omega, fun p h => (hp p h).inn, by omega, fun p h => (hp p h).so, fun p h => (hp p h).ne⟩
theorem Gr.gne {ps : List P4} (G : Gr ps) {i : Int} (h0 : 0 ≤ i) (h1 : i < ps.length) : ∃ g, g ∈ goalsOf ps i := by
  have := G.ne _ (List.getElem_mem (show i.toNat < ps.length by omega))
  rw [← goalsOf_eq h0 h1] at this
  exact List.exists_mem_of_ne_nil _ this
theorem whole_ids {ps : List P4} (G : Gr ps) : Whole ps (ids ps.length) := fun i hi => by
  obtain ⟨h0, h1⟩ := mem_ids.mp hi
  obtain ⟨g, hg⟩ := G.gne h0 h1
  exact ⟨g, List.mem_filter.mpr ⟨hg, memB_iff.mpr (mem_ids.mpr (G.goals hg))⟩⟩
theorem range_tuple {n : Nat} (h : n ≤ 1000) : rgD .tuple [.int (n : Int)] = .ok (.tuple ((ids n).map .int)) := by
  rw [rgD_i (by omega) (by omega), rangeI_map]
  rfl
end G
set_option Elab.async false
set_option linter.all false
set_option maxRecDepth 100000
set_option maxHeartbeats 4000000
namespace G
open PySem PySem.Spec PyProof.Rows L2 D2
def restK (js : List Int) (some : List Int) : List Int := js.filter fun i => !memB some i
theorem mem_restK {js some : List Int} {i : Int} : i ∈ restK js some ↔ i ∈ js ∧ i ∉ some := by
  unfold restK
  rw [List.mem_filter, Bool.not_eq_true', ← Bool.not_eq_true, memB_iff]
theorem no_moves_eq {ps : List P4} (hp : ps.length ≤ 1000) : F_no_moves [gD ps] = .ok (.tuple (tab (fun _ => .none) ps.length)) := by
  have h0 : compR (bName 0) (fun _ => .ok true) (eC .none) [.non] (ps.map P4.d) = .ok (tab (fun _ => .none) ps.length) := by
    have := compR_map (eC .none) [.non] 0 (fun _ => .none) (ps.map P4.d) fun d _ => rfl
    rw [this]
    congr 1
    refine List.ext_getElem (by rw [List.length_map, List.length_map, tab_len]) fun k h1 h2 => ?_
    rw [tab_len] at h2
    have e := tab_get (f := fun _ => .none) (n := ps.length) (i := (k : Int)) (by omega) (by omega)
    simp only [Int.toNat_natCast] at e
    rw [e, List.getElem_map]
  unfold F_no_moves M_no_moves
  refine fn_rt ?_
  rw [show ([gD ps].map Cell.val ++ List.replicate (1 - [gD ps].length) Cell.non) = [.val (gD ps)] from rfl]
  rw [sRet_eq, e1_eq, eComp_eq, show compRho 1 [] [.val (gD ps)] = [.non] from rfl]
  simp only [iSeq_eq, eVar_0, R.ok_bind, seqD_t, noX_ok]
  rw [if_pos (by rw [List.length_map]; exact small25 hp), h0]
  rfl
def stayK (ps : List P4) (who : Int) (part : List Int) (i : Int) : Option Int := if i ∈ part ∧ ownerOf ps i = who then (waysK ps part i).head? else none
def vBody : Fs := (sIf (tE (e2 (dEq) (e2 dIx (e2 dIx (eVar 0) (eVar 4)) (eC (.int 0))) (eVar 1))) (sPutL 3 (eVar 4) (e2 dIx (eCall F_common (aCons (e2 dIx (e2 dIx (eVar 0) (eVar 4)) (eC (.int 3))) (aCons (eVar 2) aNil))) (eC (.int 0)))) sSkip)
theorem vTurns {ps : List P4} (G : Gr ps) {who : Int} {s : PyData} {part : List Int} (hs : Seq s part) (hj : Part ps.length part) (hne : ∀ i ∈ part, ownerOf ps i = who → ∃ g, g ∈ waysK ps part i) : ∀ (is : List Int) (h : Int → PyData) (c4 : Cell), is.Nodup → (∀ x ∈ is, x ∈ part ∧ h x = .none) →
    ∃ c4', forR (bName 4) vBody (is.map .int) [.val (gD ps), .val (.int who), .val s, .own (.list (tab h ps.length)), c4] = .ok (.nx [.val (gD ps), .val (.int who), .val s, .own (.list (tab (fun j => if j ∈ is then oD (stayK ps who part j) else h j) ps.length)), c4'])
  | [], h, c4, _, _ => ⟨c4, by rw [List.map_nil, forR_nil]; simp⟩
  | i :: is, h, c4, nd, hb => by
    obtain ⟨n1, n2⟩ := List.nodup_cons.mp nd
    obtain ⟨hip, hh⟩ := hb i List.mem_cons_self
    have hi := hj.inn i hip
    have ho := ownerOf_eq hi.1 hi.2
    have hg := goalsOf_eq hi.1 hi.2
    obtain ⟨c4', e⟩ := vTurns G hs hj hne is (fun j => if j = i then oD (stayK ps who part i) else h j) (.val (.int i)) n2 (fun x hx => ⟨(hb x (List.mem_cons_of_mem _ hx)).1, by
      have : x ≠ i := by rintro rfl; exact n1 hx
      show (if x = i then _ else h x) = _
      rw [if_neg this]
      exact (hb x (List.mem_cons_of_mem _ hx)).2⟩)
    refine ⟨c4', ?_⟩
    have fin : tab (fun j => if j ∈ is then oD (stayK ps who part j) else (fun j => if j = i then oD (stayK ps who part i) else h j) j) ps.length = tab (fun j => if j ∈ i :: is then oD (stayK ps who part j) else h j) ps.length := tab_congr fun j _ _ => by
      by_cases h1 : j = i
      · subst h1
        simp [n1]
      · by_cases h2 : j ∈ is <;> simp [h1, h2]
    rw [fin] at e
    rw [← e, List.map_cons, forR_cons, show (([.val (gD ps), .val (.int who), .val s, .own (.list (tab h ps.length)), c4] : Rho).set 4 (.val (.int i))) = [.val (gD ps), .val (.int who), .val s, .own (.list (tab h ps.length)), .val (.int i)] from rfl]
    have ht : (tE (e2 (dEq) (e2 dIx (e2 dIx (eVar 0) (eVar 4)) (eC (.int 0))) (eVar 1))) [.val (gD ps), .val (.int who), .val s, .own (.list (tab h ps.length)), .val (.int i)] = .ok (decide (ownerOf ps i = who)) := by
      simp only [tE_eq, e2_eq, eVar_0, eVar_s, eC_eq, R.ok_bind, ix_gD hi.1 hi.2, p4_ix0, dEq_i, asB_b]
      rw [← ho]
    have hb1 : vBody [.val (gD ps), .val (.int who), .val s, .own (.list (tab h ps.length)), .val (.int i)] = .ok (.nx [.val (gD ps), .val (.int who), .val s, .own (.list (tab (fun j => if j = i then oD (stayK ps who part i) else h j) ps.length)), .val (.int i)]) := by
      unfold vBody
      rw [sIf_eq, ht, R.ok_bind]
      by_cases hc : ownerOf ps i = who
      · rw [if_pos (decide_eq_true hc)]
        have hcm := common_eq (s := .tuple ((goalsOf ps i).map .int)) (ns := goalsOf ps i) (.inl rfl) hs (by have := G.glen i; omega)
        obtain ⟨g, hg1⟩ := hne i hip hc
        have hm : stayK ps who part i = (waysK ps part i).head? := if_pos ⟨hip, hc⟩
        have hw : (goalsOf ps i).filter (memB part) = waysK ps part i := rfl
        rw [hw] at hcm
        cases hL : waysK ps part i with
        | nil => rw [hL] at hg1; cases hg1
        | cons v r =>
          rw [hL] at hm hcm
          rw [sPutL_o (ds := tab h ps.length) (n := i) (v := .int v) rfl rfl ?_ hi.1 (by rw [tab_len]; exact hi.2), tab_set hi.1 hi.2, hm]
          · rfl
          · simp only [e2_eq, eCall_eq, aCons_eq, aNil_eq, eVar_0, eVar_s, eC_eq, R.ok_bind, ix_gD hi.1 hi.2, p4_ix3]
            rw [← hg, hcm, R.ok_bind, dIx_t (by omega) (by simp)]
            rfl
      · rw [if_neg (by rw [decide_eq_true_iff]; exact hc)]
        have hm : stayK ps who part i = none := if_neg fun z => hc z.2
        rw [sSkip_eq, hm]
        congr 3
        rw [tab_congr fun j _ _ => ?_]
        by_cases h1 : j = i
        · subst h1; rw [if_pos rfl, hh]; rfl
        · rw [if_neg h1]
    rw [hb1, R.ok_bind, turnO_nx]
theorem staying_moves_eq {ps : List P4} (G : Gr ps) {who : Int} {s : PyData} {part : List Int} (hs : Seq s part) (hj : Part ps.length part) (hne : ∀ i ∈ part, ownerOf ps i = who → ∃ g, g ∈ waysK ps part i) :
    F_staying_moves [gD ps, .int who, s] = .ok (oT (stayK ps who part) ps.length) := by
  have hp := G.hp
  have hn := no_moves_eq (ps := ps) (by omega)
  obtain ⟨c4, e⟩ := vTurns G hs hj hne part (fun _ => .none) .non hj.nd fun x hx => ⟨hx, rfl⟩
  have fin : tab (fun j => if j ∈ part then oD (stayK ps who part j) else .none) ps.length = tab (fun j => oD (stayK ps who part j)) ps.length := tab_congr fun j h1 h2 => by
    by_cases h : j ∈ part
    · rw [if_pos h]
    · rw [if_neg h]
      have : stayK ps who part j = none := if_neg fun z => h z.1
      rw [this]
      rfl
  rw [fin] at e
  unfold F_staying_moves M_staying_moves
  refine fn_rt ?_
  rw [show ([gD ps, .int who, s].map Cell.val ++ List.replicate (5 - [gD ps, .int who, s].length) Cell.non) = [.val (gD ps), .val (.int who), .val s, .non, .non] from rfl]
  rw [seq_nx (ρ' := [.val (gD ps), .val (.int who), .val s, .own (.list (tab (fun _ => .none) ps.length)), .non]) (by
    simp only [sOwn_eq, e1_eq, eCall_eq, aCons_eq, aNil_eq, eVar_0, R.ok_bind, hn, dList_t]
    rfl)]
  rw [seq_nx (ρ' := [.val (gD ps), .val (.int who), .val s, .own (.list (tab (fun j => oD (stayK ps who part j)) ps.length)), c4]) (by
    rw [sNox_eq, sFor_eq, iSeq_eq]
    simp only [eVar_0, eVar_s, R.ok_bind, hs.seq]
    unfold vBody at e
    rw [e]
    rfl)]
  rfl
end G
set_option Elab.async false
set_option linter.all false
set_option maxRecDepth 100000
set_option maxHeartbeats 4000000
namespace G
open PySem PySem.Spec PyProof.Rows L2 D2
theorem in_t' (ns : List Int) (i : Int) (neg : Bool) : dIn neg (.int i) (.tuple (ns.map .int)) = .ok (.bool (if neg then !(ns.any fun j => decide (j = i)) else ns.any fun j => decide (j = i))) := in_t ns i neg
def mvB (ns : List Int) : PyData → Bool
  | .none => true
  | .int i => ns.any fun j => decide (j = i)
  | _ => false
def movesB (ps : List P4) : PyData → Bool
  | .tuple ds => decide (ds.length = ps.length) && (ds.zip ps).all fun q => mvB q.2.ns q.1
  | _ => false
theorem movesB_oT {ps : List P4} {f : Int → Option Int} (h : ∀ i g, f i = some g → g ∈ goalsOf ps i) : movesB ps (oT f ps.length) = true := by
  show (decide _ && _) = true
  rw [decide_eq_true (tab_len ..), Bool.true_and, List.all_eq_true]
  intro q hq
  obtain ⟨k, hk, e⟩ := List.mem_iff_getElem.mp hq
  rw [List.length_zip, tab_len, Nat.min_self] at hk
  rw [List.getElem_zip] at e
  have e2 := tab_get (f := fun i => oD (f i)) (n := ps.length) (i := (k : Int)) (by omega) (by omega)
  simp only [Int.toNat_natCast] at e2
  rw [e2] at e
  subst e
  cases hf : f (k : Int) with
  | none => rfl
  | some g =>
    have := h _ _ hf
    rw [goalsOf_eq (by omega) (by omega)] at this
    simp only [Int.toNat_natCast] at this
    exact memB_iff.mpr this
theorem good_loop (s t : PyData) : ∀ (ds : List PyData) (ps : List P4) (x y : Cell), (∀ d ∈ ds, Good d) → ∃ ρ,
    forR (bPair 2 3) (sSeq (sIf (tOrR (tE (e1 (dIsi .bool) (eVar 2))) (tAndR (tE (e2 (dNotN) (eVar 2) (eC .none))) (tNotR (tE (e1 (dIsi .int) (eVar 2)))))) (sRet (eC (.bool false))) sSkip) (sIf (tAndR (tE (e2 (dNotN) (eVar 2) (eC .none))) (tE (e2 (dIn true) (eVar 2) (e2 dIx (eVar 3) (eC (.int 3)))))) (sRet (eC (.bool false))) sSkip)) (zipD ds (ps.map P4.d)) [.val s, .val t, x, y]
      = if ((ds.zip ps).all fun q => mvB q.2.ns q.1) = true then .ok (.nx ρ) else .ok (.rt (.bool false))
  | [], ps, x, y, _ => ⟨[.val s, .val t, x, y], by unfold zipD; simp⟩
  | d :: ds, [], x, y, _ => ⟨[.val s, .val t, x, y], by unfold zipD; simp⟩
  | d :: ds, p :: ps, x, y, h => by
    have hg := h d List.mem_cons_self
    obtain ⟨ρ, e1⟩ := good_loop s t ds ps (.val d) (.val p.d) fun z hz => h z (List.mem_cons_of_mem _ hz)
    refine ⟨ρ, ?_⟩
    have e : zipD (d :: ds) ((p :: ps).map P4.d) = .tuple [d, p.d] :: zipD ds (ps.map P4.d) := rfl
    rw [e, forR_pair, List.zip_cons_cons, List.all_cons]
    cases d with
    | none =>
      rw [show mvB p.ns .none = true from rfl, Bool.true_and, ← e1]
      simp [dIsi, isi, dNotN, isNoneD]
    | int i =>
      cases hm : (p.ns.any fun j => decide (j = i)) with
      | true =>
        rw [show mvB p.ns (.int i) = true from hm, Bool.true_and, ← e1]
        simp [dIsi, isi, dNotN, isNoneD, p4_ix3, in_t', hm]
      | false =>
        rw [show mvB p.ns (.int i) = false from hm, Bool.false_and]
        simp [dIsi, isi, dNotN, isNoneD, p4_ix3, in_t', hm]
    | dict k => exact hg.noD.elim
    | _ =>
      rw [show mvB p.ns _ = false from rfl, Bool.false_and]
      simp [dIsi, isi, dNotN, isNoneD]
theorem moves_good_eq {d : PyData} (hg : Good d) {ps : List P4} : F_law_moves_good [d, gD ps] = .ok (.bool (movesB ps d)) := by
  unfold F_law_moves_good M_law_moves_good
  rw [fnR_eq]
  cases d with
  | tuple ds =>
    have h := good_tuple.mp hg
    by_cases hq : ds.length = ps.length
    · obtain ⟨ρ, e⟩ := good_loop (.tuple ds) (gD ps) ds ps .non .non h
      simp [dIsi, isi, dNe_i, hq, sFor_eq, List.replicate]
      rw [e]
      cases hb : ((ds.zip ps).all fun q => mvB q.2.ns q.1) <;> simp [movesB, hq, hb]
    · have hq' : ¬ ((ds.length : Int) = (ps.length : Int)) := by omega
      simp [dIsi, isi, dNe_i, hq', hq, movesB]
  | dict k => exact hg.noD.elim
  | _ => simp [dIsi, isi, movesB]
end G
set_option Elab.async false
set_option linter.all false
set_option maxRecDepth 100000
set_option maxHeartbeats 4000000
namespace G
open PySem PySem.Spec PyProof.Rows L2 D2
def optD : Option Int → PyData
  | some i => .int i
  | none => .none
abbrev mD (mv : List (Option Int)) : PyData := .tuple (mv.map optD)
def moveOf (mv : List (Option Int)) (i : Int) : Option Int := (mv[i.toNat]?).getD none
theorem ix_mD {mv : List (Option Int)} {i : Int} (h0 : 0 ≤ i) (h1 : i < mv.length) : dIx (mD mv) (.int i) = .ok (optD (moveOf mv i)) := by
  rw [dIx_t h0 (by simpa using h1)]
  unfold moveOf
  rw [List.getElem?_eq_getElem (by omega)]
  simp
def waysM (ps : List P4) (who : Int) (mv : List (Option Int)) (i : Int) : List Int := if ownerOf ps i = who then (moveOf mv i).toList else goalsOf ps i
theorem ways_eq {ps : List P4} {mv : List (Option Int)} {who i : Int} (h0 : 0 ≤ i) (h1 : i < ps.length) (hm : mv.length = ps.length) : F_law_ways [gD ps, .int who, mD mv, .int i] = .ok (.list ((waysM ps who mv i).map .int)) := by
  have ho := ownerOf_eq h0 h1
  have hg := goalsOf_eq h0 h1
  have hix := ix_gD h0 h1
  have hmx := ix_mD (mv := mv) h0 (by omega)
  unfold F_law_ways M_law_ways
  refine fn_rt ?_
  rw [show ([gD ps, .int who, mD mv, .int i].map Cell.val ++ List.replicate (4 - [gD ps, .int who, mD mv, .int i].length) Cell.non) = [.val (gD ps), .val (.int who), .val (mD mv), .val (.int i)] from rfl]
  unfold waysM
  have s1 : (1 : Nat) ≤ sizeLine := by decide
  by_cases hw : ownerOf ps i = who
  · rw [if_pos hw]
    refine seq_rt ?_
    rw [sIf_eq]
    simp only [tE_eq, e2_eq, eVar_0, eVar_s, eC_eq, R.ok_bind, hix, p4_ix0, dEq_i, asB_b]
    rw [← ho, if_pos (decide_eq_true hw), sRet_eq, eComp_eq]
    simp only [iSeq_eq, eLst_eq, aCons_eq, aNil_eq, e2_eq, eVar_0, eVar_s, R.ok_bind, hmx, List.length_cons, List.length_nil]
    rw [if_pos s1]
    simp only [R.ok_bind, seqD_l, noX_ok, List.length_cons, List.length_nil]
    rw [if_pos s1, compR_cons, compR_nil]
    cases hq : moveOf mv i with
    | none => rfl
    | some j => rfl
  · rw [if_neg hw]
    rw [seq_nx (ρ' := [.val (gD ps), .val (.int who), .val (mD mv), .val (.int i)]) (by
      rw [sIf_eq]
      simp only [tE_eq, e2_eq, eVar_0, eVar_s, eC_eq, R.ok_bind, hix, p4_ix0, dEq_i, asB_b]
      rw [← ho, if_neg (by simpa using hw)]
      rfl)]
    simp only [sRet_eq, e1_eq, e2_eq, eVar_0, eVar_s, eC_eq, R.ok_bind, hix, p4_ix3, hg]
    rfl
def keepB (ps : List P4) (who : Int) (mv : List (Option Int)) (qs : List Int) (i : Int) : Bool := !decide (waysM ps who mv i = []) && decide ((waysM ps who mv i).filter (fun j => !memB qs j) = [])
def iBody : Fs := (sSeq (sSet 5 (eCall F_law_ways (aCons (eVar 0) (aCons (eVar 1) (aCons (eVar 2) (aCons (eVar 4) aNil)))))) (sIf (tOrR (tE (e2 (dEq) (eVar 5) (eLst aNil))) (tE (e2 (dNe) (eComp (iSeq (eVar 5)) 1 [3] (bName 0) (tE (e2 (dIn true) (eVar 0) (eVar 1))) (eVar 0)) (eLst aNil)))) (sRet (eC (.bool false))) sSkip))
theorem waysM_len {ps : List P4} (hl : ∀ p ∈ ps, p.ns.length ≤ 100) {mv : List (Option Int)} {who i : Int} (h0 : 0 ≤ i) (h1 : i < ps.length) : (waysM ps who mv i).length ≤ 100 := by
  unfold waysM
  split
  · cases moveOf mv i <;> simp
  · rw [goalsOf_eq h0 h1]; exact hl _ (List.getElem_mem _)
theorem iBody_eq {ps : List P4} (hl : ∀ p ∈ ps, p.ns.length ≤ 100) {mv : List (Option Int)} {who i : Int} (h0 : 0 ≤ i) (h1 : i < ps.length) (hm : mv.length = ps.length) {qs : List Int} (c5 : Cell) :
    iBody [.val (gD ps), .val (.int who), .val (mD mv), .val (.list (qs.map .int)), .val (.int i), c5] = if keepB ps who mv qs i = true then .ok (.nx [.val (gD ps), .val (.int who), .val (mD mv), .val (.list (qs.map .int)), .val (.int i), .val (.list ((waysM ps who mv i).map .int))]) else .ok (.rt (.bool false)) := by
  have hw := ways_eq (who := who) h0 h1 hm
  have hwl := waysM_len hl (mv := mv) (who := who) h0 h1
  have hcmp := ints_filter (t := tE (e2 (dIn true) (eVar 0) (eVar 1))) (ρ := [.val (.list (qs.map .int))]) (p := fun j => !memB qs j) (waysM ps who mv i) fun k hk => by simp [in_l]
  have n0 := eq_ll (waysM ps who mv i) []
  have n1 := ne_ll ((waysM ps who mv i).filter fun j => !memB qs j) []
  simp only [List.map_nil] at n0 n1
  have s0 : ([] : List PyData).length ≤ sizeLine := Nat.zero_le _
  unfold iBody
  rw [seq_nx (ρ' := [.val (gD ps), .val (.int who), .val (mD mv), .val (.list (qs.map .int)), .val (.int i), .val (.list ((waysM ps who mv i).map .int))]) (by simp [hw])]
  have ec : eComp (iSeq (eVar 5)) 1 [3] (bName 0) (tE (e2 (dIn true) (eVar 0) (eVar 1))) (eVar 0) [.val (gD ps), .val (.int who), .val (mD mv), .val (.list (qs.map .int)), .val (.int i), .val (.list ((waysM ps who mv i).map .int))] = .ok (.list (((waysM ps who mv i).filter fun j => !memB qs j).map .int)) := by
    rw [eComp_eq]
    simp only [iSeq_eq, eVar_s, eVar_0, R.ok_bind, seqD_l, noX_ok]
    rw [if_pos (by rw [List.length_map]; exact small25 (by omega))]
    rw [show compRho 1 [3] [.val (gD ps), .val (.int who), .val (mD mv), .val (.list (qs.map .int)), .val (.int i), .val (.list ((waysM ps who mv i).map .int))] = [.non, .val (.list (qs.map .int))] from rfl, hcmp]
    rfl
  rw [sIf_eq, tOrR_eq]
  simp only [tE_eq, e2_eq, eVar_s, eVar_0, eLst_eq, aNil_eq, R.ok_bind, ec, List.length_nil]
  rw [if_pos (Nat.zero_le _)]
  simp only [R.ok_bind, n0, n1, asB_b]
  unfold keepB
  by_cases ha : waysM ps who mv i = []
  · rw [decide_eq_true ha]; rfl
  · rw [decide_eq_false ha]
    by_cases hb : ((waysM ps who mv i).filter fun j => !memB qs j) = []
    · rw [decide_eq_true hb]; rfl
    · rw [decide_eq_false hb]; rfl
theorem iTurns {ps : List P4} (hl : ∀ p ∈ ps, p.ns.length ≤ 100) {mv : List (Option Int)} {who : Int} (hm : mv.length = ps.length) {qs : List Int} : ∀ (is : List Int) (c4 c5 : Cell), (∀ x ∈ is, 0 ≤ x ∧ x < ps.length) →
    ∃ ρ, forR (bName 4) iBody (is.map .int) [.val (gD ps), .val (.int who), .val (mD mv), .val (.list (qs.map .int)), c4, c5] = if is.all (keepB ps who mv qs) = true then .ok (.nx ρ) else .ok (.rt (.bool false))
  | [], c4, c5, _ => ⟨_, by rw [List.map_nil, forR_nil]; rfl⟩
  | i :: is, c4, c5, hb => by
    have hi := hb i List.mem_cons_self
    obtain ⟨ρ, e⟩ := iTurns hl hm (who := who) (qs := qs) is (.val (.int i)) (.val (.list ((waysM ps who mv i).map .int))) fun x hx => hb x (List.mem_cons_of_mem _ hx)
    refine ⟨ρ, ?_⟩
    rw [List.map_cons, forR_cons]
    rw [show (([.val (gD ps), .val (.int who), .val (mD mv), .val (.list (qs.map .int)), c4, c5] : Rho).set 4 (.val (.int i))) = [.val (gD ps), .val (.int who), .val (mD mv), .val (.list (qs.map .int)), .val (.int i), c5] from rfl, iBody_eq hl hi.1 hi.2 hm]
    rw [List.all_cons]
    cases hk : keepB ps who mv qs i with
    | true =>
      rw [if_pos rfl, R.ok_bind, turnO_nx, e]
      rfl
    | false => rfl
theorem inside_eq {ps : List P4} (hl : ∀ p ∈ ps, p.ns.length ≤ 100) {mv : List (Option Int)} {who : Int} (hm : mv.length = ps.length) {qs : List Int} (hq : ∀ x ∈ qs, 0 ≤ x ∧ x < ps.length) : F_law_inside [gD ps, .int who, mD mv, .list (qs.map .int)] = .ok (.bool (qs.all (keepB ps who mv qs))) := by
  obtain ⟨ρ, e⟩ := iTurns hl hm (who := who) (qs := qs) qs .non .non hq
  unfold F_law_inside M_law_inside
  refine fn_rt ?_
  rw [show ([gD ps, .int who, mD mv, .list (qs.map .int)].map Cell.val ++ List.replicate (6 - [gD ps, .int who, mD mv, .list (qs.map .int)].length) Cell.non) = [.val (gD ps), .val (.int who), .val (mD mv), .val (.list (qs.map .int)), .non, .non] from rfl]
  unfold iBody at e
  have e' : (sNox (sFor (iSeq (eVar 3)) (bName 4) (sSeq (sSet 5 (eCall F_law_ways (aCons (eVar 0) (aCons (eVar 1) (aCons (eVar 2) (aCons (eVar 4) aNil)))))) (sIf (tOrR (tE (e2 (dEq) (eVar 5) (eLst aNil))) (tE (e2 (dNe) (eComp (iSeq (eVar 5)) 1 [3] (bName 0) (tE (e2 (dIn true) (eVar 0) (eVar 1))) (eVar 0)) (eLst aNil)))) (sRet (eC (.bool false))) sSkip)))) [.val (gD ps), .val (.int who), .val (mD mv), .val (.list (qs.map .int)), .non, .non] = if qs.all (keepB ps who mv qs) = true then .ok (.nx ρ) else .ok (.rt (.bool false)) := by
    rw [sNox_eq, sFor_eq, iSeq_eq, eVar_s, eVar_s, eVar_s, eVar_0, R.ok_bind, seqD_l, R.ok_bind, e]
    split <;> rfl
  cases hk : qs.all (keepB ps who mv qs) with
  | true =>
    rw [hk, if_pos rfl] at e'
    rw [seq_nx e']
    rfl
  | false =>
    rw [hk, if_neg (by simp)] at e'
    exact seq_rt e'
theorem optD_oD (o : Option Int) : optD o = oD o := by cases o <;> rfl
abbrev mvL (f : Int → Option Int) (n : Nat) : List (Option Int) := (ids n).map f
theorem oT_mD (f : Int → Option Int) (n : Nat) : oT f n = mD (mvL f n) := by
  show PyData.tuple _ = PyData.tuple _
  congr 1
  unfold tab mvL
  rw [List.map_map (f := f)]
  apply List.map_congr_left
  intro i _
  exact (optD_oD _).symm
theorem mvL_len (f : Int → Option Int) (n : Nat) : (mvL f n).length = n := by simp
theorem moveOf_mvL {f : Int → Option Int} {n : Nat} {i : Int} (h0 : 0 ≤ i) (h1 : i < n) : moveOf (mvL f n) i = f i := by
  unfold moveOf
  rw [List.getElem?_map, ids_get (show i.toNat < n by omega)]
  show f _ = f i
  congr 1
  omega
theorem waysM_mvL {ps : List P4} {who : Int} {f : Int → Option Int} {i : Int} (h0 : 0 ≤ i) (h1 : i < ps.length) : waysM ps who (mvL f ps.length) i = if ownerOf ps i = who then (f i).toList else goalsOf ps i := by
  unfold waysM
  rw [moveOf_mvL h0 h1]
end G
set_option Elab.async false
set_option linter.all false
set_option maxRecDepth 100000
set_option maxHeartbeats 4000000
namespace G
open PySem PySem.Spec PyProof.Rows L2 D2
theorem sl_tail (x : PyData) (xs : List PyData) : dSl (.list (x :: xs)) (some 1) none = .ok (.list xs) := by
  show R.ok (PyData.list (D2.cutD (x :: xs) (some 1) none)) = _
  unfold D2.cutD
  have h1 : HT.sIx (x :: xs).length 0 (some 1) = 1 := by
    unfold HT.sIx
    simp
  have h2 : HT.sIx (x :: xs).length (x :: xs).length none = (x :: xs).length := by
    unfold HT.sIx
    simp
  rw [h1, h2]
  simp
inductive Rch (W : Int → List Int) (al : List Int) (s : Int) : Int → Prop
  | one {x : Int} : x ∈ W s → x ∈ al → Rch W al s x
  | more {x y : Int} : Rch W al s x → y ∈ W x → y ∈ al → Rch W al s y
def mBody : Fs := (sSeq (sSet 7 (e2 dIx (eVar 6) (eC (.int 0)))) (sSeq (sSet 6 (eSl (eVar 6) (oSome (eC (.int 1))) oNone)) (sIf (tAndR (tE (e2 (dIn false) (eVar 7) (eVar 4))) (tE (e2 (dIn true) (eVar 7) (eVarB 5)))) (sSeq (sAppend 5 (eVar 7)) (sSet 6 (e2 dAdd (eVar 6) (eCall F_law_ways (aCons (eVar 0) (aCons (eVar 1) (aCons (eVar 2) (aCons (eVar 7) aNil)))))))) sSkip)))
abbrev mR (ps : List P4) (who : Int) (mv : List (Option Int)) (st : Int) (al found todo : List Int) (c7 : Cell) : Rho :=
  [.val (gD ps), .val (.int who), .val (mD mv), .val (.int st), .val (.list (al.map .int)), .own (.list (found.map .int)), .val (.list (todo.map .int)), c7]
theorem ix_head (x : Int) (xs : List Int) : dIx (.list ((x :: xs).map .int)) (.int 0) = .ok (.int x) := by
  rw [dIx_l (by omega) (by simp)]
  rfl
theorem mBody_eq {ps : List P4} (hl : ∀ p ∈ ps, p.ns.length ≤ 100) {mv : List (Option Int)} {who : Int} (hm : mv.length = ps.length) {st : Int} {al found todo : List Int} {x : Int} (h0 : x ∈ al → 0 ≤ x ∧ x < ps.length) (hf : found.length ≤ 1000) (ht : todo.length ≤ 1000000) (c7 : Cell) :
    mBody (mR ps who mv st al found (x :: todo) c7) = .ok (.nx (if x ∈ al ∧ x ∉ found then mR ps who mv st al (found ++ [x]) (todo ++ waysM ps who mv x) (.val (.int x)) else mR ps who mv st al found todo (.val (.int x)))) := by
  unfold mBody
  rw [seq_nx (ρ' := mR ps who mv st al found (x :: todo) (.val (.int x))) (by
    rw [sSet_eq, e2_eq, eVar_s, eVar_s, eVar_s, eVar_s, eVar_s, eVar_s, eVar_0, R.ok_bind, eC_eq, R.ok_bind, ix_head]
    rfl)]
  rw [seq_nx (ρ' := mR ps who mv st al found todo (.val (.int x))) (by
    rw [sSet_eq, eSl_eq, eVar_s, eVar_s, eVar_s, eVar_s, eVar_s, eVar_s, eVar_0, R.ok_bind, oSome_eq, eC_eq, R.ok_bind, asI_i, R.ok_bind, R.ok_bind, oNone_eq, R.ok_bind, List.map_cons, sl_tail]
    rfl)]
  have htest : (tAndR (tE (e2 (dIn false) (eVar 7) (eVar 4))) (tE (e2 (dIn true) (eVar 7) (eVarB 5)))) (mR ps who mv st al found todo (.val (.int x))) = .ok (memB al x && !memB found x) := by
    simp only [tAndR_eq, tE_eq, e2_eq, eVar_s, eVar_0, eVarB_s, eVarB_o, R.ok_bind, in_l, asB_b]
    cases memB al x <;> rfl
  rw [sIf_eq, htest, R.ok_bind]
  by_cases hx : x ∈ al ∧ x ∉ found
  · have hb : (memB al x && !memB found x) = true := by
      rw [memB_iff.mpr hx.1]
      cases hq : memB found x with
      | true => exact absurd (memB_iff.mp hq) hx.2
      | false => rfl
    obtain ⟨b0, b1⟩ := h0 hx.1
    have hwl := waysM_len hl (mv := mv) (who := who) b0 b1
    rw [hb, if_pos rfl, if_pos hx]
    rw [seq_nx (ρ' := mR ps who mv st al (found ++ [x]) todo (.val (.int x))) (by
      rw [sAppend_o (ds := found.map .int) _ rfl (by rw [List.length_map]; exact Nat.lt_of_le_of_lt hf (by decide))]
      rw [eVar_s, eVar_s, eVar_s, eVar_s, eVar_s, eVar_s, eVar_s, eVar_0, noX_ok, R.ok_bind]
      rw [show found.map PyData.int ++ [.int x] = (found ++ [x]).map .int by simp]
      rfl)]
    have hadd : dAdd (.list (todo.map .int)) (.list ((waysM ps who mv x).map .int)) = .ok (.list ((todo ++ waysM ps who mv x).map .int)) := by
      show (if (todo.map PyData.int).length + ((waysM ps who mv x).map PyData.int).length ≤ sizeLine then R.ok (PyData.list _) else .no) = _
      rw [if_pos (by rw [List.length_map, List.length_map]; exact Nat.le_trans (show _ ≤ 1000100 by omega) (by decide)), List.map_append]
    rw [sSet_eq, e2_eq, eCall_eq]
    simp only [aCons_eq, aNil_eq, eVar_s, eVar_0, R.ok_bind, ways_eq b0 b1 hm, hadd]
    rfl
  · have hb : (memB al x && !memB found x) = false := by
      cases hq : memB al x with
      | false => rfl
      | true =>
        cases hr : memB found x with
        | true => rfl
        | false => exact absurd ⟨memB_iff.mp hq, fun z => by rw [memB_iff.mpr z] at hr; cases hr⟩ hx
    rw [hb, if_neg hx]
    rfl
structure MInv (W : Int → List Int) (al : List Int) (st : Int) (found todo : List Int) : Prop where
  nd : found.Nodup
  sub : ∀ x ∈ found, x ∈ al
  rch : ∀ x ∈ found, Rch W al st x
  cand : ∀ x ∈ todo, x ∈ al → Rch W al st x
  first : ∀ y ∈ W st, y ∈ al → y ∈ found ∨ y ∈ todo
  closed : ∀ x ∈ found, ∀ y ∈ W x, y ∈ al → y ∈ found ∨ y ∈ todo
theorem MInv.skip {W : Int → List Int} {al : List Int} {st : Int} {found todo : List Int} {x : Int} (h : MInv W al st found (x :: todo)) (hx : ¬ (x ∈ al ∧ x ∉ found)) : MInv W al st found todo := by
  have drop : ∀ y, y ∈ al → (y ∈ found ∨ y ∈ x :: todo) → y ∈ found ∨ y ∈ todo := fun y hy hq => by
    rcases hq with z | z
    · exact .inl z
    · rcases List.mem_cons.mp z with rfl | z
      · left
        exact Classical.byContradiction fun w => hx ⟨hy, w⟩
      · exact .inr z
  exact ⟨h.nd, h.sub, h.rch, fun y hy => h.cand y (List.mem_cons_of_mem _ hy), fun y h1 h2 => drop y h2 (h.first y h1 h2), fun z hz y h1 h2 => drop y h2 (h.closed z hz y h1 h2)⟩
theorem MInv.take {W : Int → List Int} {al : List Int} {st : Int} {found todo : List Int} {x : Int} (h : MInv W al st found (x :: todo)) (hx : x ∈ al ∧ x ∉ found) : MInv W al st (found ++ [x]) (todo ++ W x) := by
  have hr : Rch W al st x := h.cand x List.mem_cons_self hx.1
  have up : ∀ y, (y ∈ found ∨ y ∈ x :: todo) → y ∈ found ++ [x] ∨ y ∈ todo ++ W x := fun y hq => by
    rcases hq with z | z
    · exact .inl (List.mem_append_left _ z)
    · rcases List.mem_cons.mp z with rfl | z
      · exact .inl (List.mem_append_right _ List.mem_cons_self)
      · exact .inr (List.mem_append_left _ z)
  refine ⟨?_, fun y hy => ?_, fun y hy => ?_, fun y hy ha => ?_, fun y h1 h2 => up y (h.first y h1 h2), fun z hz y h1 h2 => ?_⟩
  · rw [List.nodup_append]
    refine ⟨h.nd, by simp, fun a ha b hb e => ?_⟩
    simp at hb
    subst hb
    subst e
    exact hx.2 ha
  · rcases List.mem_append.mp hy with z | z
    · exact h.sub y z
    · simp at z; subst z; exact hx.1
  · rcases List.mem_append.mp hy with z | z
    · exact h.rch y z
    · simp at z; subst z; exact hr
  · rcases List.mem_append.mp hy with z | z
    · exact h.cand y (List.mem_cons_of_mem _ z) ha
    · exact .more hr z ha
  · rcases List.mem_append.mp hz with w | w
    · exact up y (h.closed z w y h1 h2)
    · simp at w
      subst w
      exact .inr (List.mem_append_right _ h1)
theorem MInv.done {W : Int → List Int} {al : List Int} {st : Int} {found : List Int} (h : MInv W al st found []) (x : Int) : x ∈ found ↔ Rch W al st x := by
  refine ⟨h.rch x, fun hr => ?_⟩
  induction hr with
  | one h1 h2 =>
    rcases h.first _ h1 h2 with z | z
    · exact z
    · cases z
  | more _ h1 h2 ih =>
    rcases h.closed _ ih _ h1 h2 with z | z
    · exact z
    · cases z
theorem nodup_len' : ∀ {l m : List Int}, l.Nodup → (∀ x ∈ l, x ∈ m) → l.length ≤ m.length
  | [], m, _, _ => Nat.zero_le _
  | x :: l, m, nd, h => by
    obtain ⟨n1, n2⟩ := List.nodup_cons.mp nd
    have hx := h x List.mem_cons_self
    have := nodup_len' (m := m.erase x) n2 fun y hy => (List.mem_erase_of_ne (by rintro rfl; exact n1 hy)).mpr (h y (List.mem_cons_of_mem _ hy))
    rw [List.length_erase_of_mem hx] at this
    have hp := List.length_pos_of_mem hx
    rw [List.length_cons]
    omega
theorem whileM_succ (t : Rho → R Bool) (g : Fs) (n : Nat) (ρ : Rho) : whileR t g (n + 1) ρ = (t ρ >>= fun b => if b = true then g ρ >>= turnO (whileR t g n) else .ok (.nx ρ)) := by
  rw [whileR]
  congr 1
theorem mLoop {ps : List P4} (hl : ∀ p ∈ ps, p.ns.length ≤ 100) {mv : List (Option Int)} {who : Int} (hm : mv.length = ps.length) {st : Int} {al : List Int} (ha : ∀ x ∈ al, 0 ≤ x ∧ x < ps.length) (hal : al.length ≤ 100) : ∀ (n : Nat) (found todo : List Int) (c7 : Cell), MInv (waysM ps who mv) al st found todo → todo.length + (al.length - found.length) * 101 + 1 ≤ n → n ≤ 1000000 →
    ∃ (rs : List Int) (c7' : Cell), (∀ x, x ∈ rs ↔ Rch (waysM ps who mv) al st x) ∧ whileR (tE (e2 (dNe) (eVar 6) (eLst aNil))) mBody n (mR ps who mv st al found todo c7) = .ok (.nx (mR ps who mv st al rs [] c7'))
  | 0, found, todo, c7, _, h, _ => by omega
  | n + 1, found, [], c7, I, h, hn => by
    refine ⟨found, c7, fun x => I.done x, ?_⟩
    rw [whileM_succ]
    have n0 := ne_ll ([] : List Int) []
    simp only [List.map_nil] at n0
    simp [n0]
  | n + 1, found, x :: todo, c7, I, h, hn => by
    have hfl := nodup_len' I.nd I.sub
    rw [List.length_cons] at h
    have n0 := ne_ll (x :: todo) []
    simp only [List.map_nil] at n0
    have htest : tE (e2 (dNe) (eVar 6) (eLst aNil)) (mR ps who mv st al found (x :: todo) c7) = .ok true := by
      simp only [tE_eq, e2_eq, eVar_s, eVar_0, eLst_eq, aNil_eq, R.ok_bind, List.length_nil]
      rw [if_pos (Nat.zero_le _), R.ok_bind, n0, R.ok_bind]
      rfl
    rw [whileM_succ, htest, R.ok_bind, if_pos rfl, mBody_eq hl hm (ha x) (by omega) (by omega), R.ok_bind, turnO_nx]
    by_cases hx : x ∈ al ∧ x ∉ found
    · rw [if_pos hx]
      have hwl := waysM_len hl (mv := mv) (who := who) (ha x hx.1).1 (ha x hx.1).2
      have I' := I.take hx
      have hfl' := nodup_len' I'.nd I'.sub
      rw [List.length_append] at hfl'
      simp only [List.length_cons, List.length_nil] at hfl'
      exact mLoop hl hm ha hal n (found ++ [x]) (todo ++ waysM ps who mv x) (.val (.int x)) I' (by
        rw [List.length_append, List.length_append]
        simp only [List.length_cons, List.length_nil]
        have e : (al.length - found.length) = (al.length - (found.length + 1)) + 1 := by omega
        rw [e, Nat.add_mul] at h
        simp only [Nat.zero_add]
        omega) (by omega)
    · rw [if_neg hx]
      exact mLoop hl hm ha hal n found todo (.val (.int x)) (I.skip hx) (by omega) (by omega)
theorem reached_eq {ps : List P4} (hl : ∀ p ∈ ps, p.ns.length ≤ 100) {mv : List (Option Int)} {who : Int} (hm : mv.length = ps.length) {st : Int} (s0 : 0 ≤ st) (s1 : st < ps.length) {al : List Int} (ha : ∀ x ∈ al, 0 ≤ x ∧ x < ps.length) (hal : al.length ≤ 100) :
    ∃ rs : List Int, F_law_reached [gD ps, .int who, mD mv, .int st, .list (al.map .int)] = .ok (.list (rs.map .int)) ∧ ∀ x, x ∈ rs ↔ Rch (waysM ps who mv) al st x := by
  have hwl := waysM_len hl (mv := mv) (who := who) s0 s1
  obtain ⟨rs, c7, h1, h2⟩ := mLoop hl hm (who := who) (st := st) ha hal 1000000 [] (waysM ps who mv st) .non ⟨by simp, by simp, by simp, fun x hx hy => .one hx hy, fun y hy _ => .inr hy, by simp⟩ (by simp; omega) (Nat.le_refl _)
  refine ⟨rs, ?_, h1⟩
  unfold F_law_reached M_law_reached
  refine fn_rt ?_
  rw [show ([gD ps, .int who, mD mv, .int st, .list (al.map .int)].map Cell.val ++ List.replicate (8 - [gD ps, .int who, mD mv, .int st, .list (al.map .int)].length) Cell.non) = [.val (gD ps), .val (.int who), .val (mD mv), .val (.int st), .val (.list (al.map .int)), .non, .non, .non] from rfl]
  rw [seq_nx (ρ' := [.val (gD ps), .val (.int who), .val (mD mv), .val (.int st), .val (.list (al.map .int)), .own (.list []), .non, .non]) (by
    rw [sOwn_eq, eLst_eq, aNil_eq, R.ok_bind, if_pos (show ([] : List PyData).length ≤ sizeLine from Nat.zero_le _)]
    rfl)]
  rw [seq_nx (ρ' := mR ps who mv st al [] (waysM ps who mv st) .non) (by
    rw [sSet_eq, eCall_eq]
    simp only [aCons_eq, aNil_eq, eVar_s, eVar_0, R.ok_bind, ways_eq s0 s1 hm]
    rfl)]
  rw [seq_nx (ρ' := mR ps who mv st al rs [] c7) (by
    rw [sNox_eq]
    unfold mBody at h2
    show noX (whileR _ _ 1000000 _) = _
    rw [h2]
    rfl)]
  rfl
end G
set_option Elab.async false
set_option linter.all false
set_option maxRecDepth 100000
set_option maxHeartbeats 4000000
namespace G
open PySem PySem.Spec PyProof.Rows L2 D2
structure Sh where
  w : Int
  pl : List Int
  mv : Int → Option Int
abbrev shNames : List Str := ["who", "places", "moves"]
def shD (c : Addr) (n : Nat) (s : Sh) : PyData := insD c shNames [.int s.w, .tuple (s.pl.map .int), oT s.mv n]
theorem shD_eq (c : Addr) (n : Nat) (s : Sh) : shD c n s = .dict [(.none, .int c), (.str "who", .int s.w), (.str "places", .tuple (s.pl.map .int)), (.str "moves", oT s.mv n)] := rfl
theorem fld_who (c : Addr) (n : Nat) (s : Sh) : fldD c "who" (shD c n s) = .ok (.int s.w) := by
  rw [shD_eq]
  show (if (c : Int) = (c : Int) then (if ("who" : Str) = "who" then R.ok _ else _) else .no) = _
  rw [if_pos rfl, if_pos rfl]
theorem fld_places (c : Addr) (n : Nat) (s : Sh) : fldD c "places" (shD c n s) = .ok (.tuple (s.pl.map .int)) := by
  rw [shD_eq]
  show (if (c : Int) = (c : Int) then (if ("who" : Str) = "places" then _ else if ("places" : Str) = "places" then R.ok _ else _) else .no) = _
  rw [if_pos rfl, if_neg (by decide +kernel), if_pos rfl]
theorem fld_moves (c : Addr) (n : Nat) (s : Sh) : fldD c "moves" (shD c n s) = .ok (oT s.mv n) := by
  rw [shD_eq]
  show (if (c : Int) = (c : Int) then (if ("who" : Str) = "moves" then _ else if ("places" : Str) = "moves" then _ else if ("moves" : Str) = "moves" then R.ok _ else _) else .no) = _
  rw [if_pos rfl, if_neg (by decide +kernel), if_neg (by decide +kernel), if_pos rfl]
theorem tab_zip {f g h : Int → PyData} {n : Nat} {fe : Fe} {ρ : Rho} (hh : ∀ i : Int, 0 ≤ i → i < n → fe (.val (f i) :: .val (g i) :: ρ) = .ok (h i)) : compR (bPair 0 1) (fun _ => .ok true) fe (.non :: .non :: ρ) (zipD (tab f n) (tab g n)) = .ok (tab h n) := by
  have go : ∀ is : List Int, (∀ i ∈ is, 0 ≤ i ∧ i < n) → compR (bPair 0 1) (fun _ => .ok true) fe (.non :: .non :: ρ) (zipD (is.map f) (is.map g)) = .ok (is.map h) := by
    intro is
    induction is with
    | nil => intro _; unfold zipD; simp [compR_nil]
    | cons i is ih =>
      intro hb
      have e : zipD ((i :: is).map f) ((i :: is).map g) = .tuple [f i, g i] :: zipD (is.map f) (is.map g) := rfl
      rw [e, compR_pair, ih fun x hx => hb x (List.mem_cons_of_mem _ hx)]
      have := hh i (hb i List.mem_cons_self).1 (hb i List.mem_cons_self).2
      simp only [R.ok_bind, if_true, List.set_cons_zero, List.set_cons_succ, this]
      rfl
  exact go (ids n) fun i hi => mem_ids.mp hi
def bothK (f g : Int → Option Int) (i : Int) : Option Int := (f i).or (g i)
theorem both_eq {f g : Int → Option Int} {n : Nat} (hn : n ≤ 1000) : F_moves_of_both [oT f n, oT g n] = .ok (oT (bothK f g) n) := by
  have hc := tab_zip (f := fun i => oD (f i)) (g := fun i => oD (g i)) (h := fun i => oD (bothK f g i)) (n := n) (ρ := []) (fe := eIf (tE (e2 (dIsN) (eVar 0) (eC .none))) (eVar 1) (eVar 0)) fun i _ _ => by
    simp only [eIf_eq, tE_eq, e2_eq, eVar_0, eVar_s, eC_eq, R.ok_bind, isN_oD, asB_b]
    unfold bothK
    cases f i <;> rfl
  unfold F_moves_of_both M_moves_of_both
  refine fn_rt ?_
  rw [show ([oT f n, oT g n].map Cell.val ++ List.replicate (2 - [oT f n, oT g n].length) Cell.non) = [.val (oT f n), .val (oT g n)] from rfl]
  rw [sRet_eq, e1_eq, eComp_eq, show compRho 2 [] [.val (oT f n), .val (oT g n)] = [.non, .non] from rfl]
  simp only [iZip_eq, eVar_0, eVar_s, R.ok_bind, seqD_t, noX_ok]
  rw [if_pos (by rw [zipD_len, tab_len, tab_len, Nat.min_self]; exact small25 hn), hc]
  rfl
theorem all_places_eq {ps : List P4} (hp : ps.length ≤ 1000) : F_all_places [gD ps] = .ok (.tuple ((ids ps.length).map .int)) := by
  have hrt := range_tuple (n := ps.length) hp
  have hlen : dLen (gD ps) = .ok (.int ps.length) := by simp
  unfold F_all_places M_all_places
  refine fn_rt ?_
  rw [show ([gD ps].map Cell.val ++ List.replicate (1 - [gD ps].length) Cell.non) = [.val (gD ps)] from rfl]
  simp only [sRet_eq, eTupR_eq, aCons_eq, aNil_eq, e1_eq, eVar_0, R.ok_bind, hlen, hrt]
def winF (s : Sh) (f : Int → Option Int) (i : Int) : Option Int := if i ∈ s.pl then some s.w else f i
def winsF : (Int → Option Int) → List Sh → Int → Option Int
  | f, [] => f
  | f, s :: l => winsF (winF s f) l
def mvsF : (Int → Option Int) → List Sh → Int → Option Int
  | f, [] => f
  | f, s :: l => mvsF (bothK f s.mv) l
theorem wTurns {c : Addr} {n : Nat} {a b m : PyData} {s : Sh} : ∀ (is : List Int) (f : Int → Option Int) (c5 : Cell), (∀ x ∈ is, 0 ≤ x ∧ x < n) →
    ∃ c5', forR (bName 5) (sPutL 2 (eVar 5) (e1 (fldD c "who") (eVar 4))) (is.map .int) [.val a, .val b, .own (.list (tab (fun i => oD (f i)) n)), .val m, .val (shD c n s), c5] = .ok (.nx [.val a, .val b, .own (.list (tab (fun i => oD (if i ∈ is then some s.w else f i)) n)), .val m, .val (shD c n s), c5'])
  | [], f, c5, _ => ⟨c5, by rw [List.map_nil, forR_nil]; simp⟩
  | i :: is, f, c5, hb => by
    obtain ⟨h0, h1⟩ := hb i List.mem_cons_self
    obtain ⟨c5', e⟩ := wTurns (c := c) (n := n) (a := a) (b := b) (m := m) (s := s) is (fun j => if j = i then some s.w else f j) (.val (.int i)) fun x hx => hb x (List.mem_cons_of_mem _ hx)
    refine ⟨c5', ?_⟩
    rw [List.map_cons, forR_cons]
    rw [show (([.val a, .val b, .own (.list (tab (fun i => oD (f i)) n)), .val m, .val (shD c n s), c5] : Rho).set 5 (.val (.int i))) = [.val a, .val b, .own (.list (tab (fun i => oD (f i)) n)), .val m, .val (shD c n s), .val (.int i)] from rfl]
    rw [sPutL_o (ds := tab (fun i => oD (f i)) n) (n := i) (v := .int s.w) rfl rfl (by simp only [e1_eq, eVar_s, eVar_0, R.ok_bind, fld_who]) h0 (by rw [tab_len]; exact h1), R.ok_bind, turnO_nx, tab_set h0 h1]
    have ht : tab (fun j => if j = i then PyData.int s.w else oD (f j)) n = tab (fun j => oD (if j = i then some s.w else f j)) n := tab_congr fun j _ _ => by split <;> rfl
    have ht2 : tab (fun j => oD (if j ∈ is then some s.w else if j = i then some s.w else f j)) n = tab (fun j => oD (if j ∈ i :: is then some s.w else f j)) n := tab_congr fun j _ _ => by
      by_cases z1 : j ∈ is
      · simp [z1]
      · by_cases z2 : j = i <;> simp [z1, z2]
    rw [ht, ← ht2]
    exact e
def shBody (c : Addr) : Fs := (sSeq (sNox (sFor (iSeq (e1 (fldD c "places") (eVar 4))) (bName 5) (sPutL 2 (eVar 5) (e1 (fldD c "who") (eVar 4))))) (sSet 3 (eCall F_moves_of_both (aCons (eVar 3) (aCons (e1 (fldD c "moves") (eVar 4)) aNil)))))
theorem shTurns {c : Addr} {n : Nat} (hn : n ≤ 1000) {a b : PyData} : ∀ (l : List Sh) (f m : Int → Option Int) (c4 c5 : Cell), (∀ s ∈ l, ∀ x ∈ s.pl, 0 ≤ x ∧ x < n) →
    ∃ c4' c5', forR (bName 4) (shBody c) (l.map (shD c n)) [.val a, .val b, .own (.list (tab (fun i => oD (f i)) n)), .val (oT m n), c4, c5] = .ok (.nx [.val a, .val b, .own (.list (tab (fun i => oD (winsF f l i)) n)), .val (oT (mvsF m l) n), c4', c5'])
  | [], f, m, c4, c5, _ => ⟨c4, c5, by rw [List.map_nil, forR_nil]; rfl⟩
  | s :: l, f, m, c4, c5, hb => by
    obtain ⟨d5, e1⟩ := wTurns (c := c) (n := n) (a := a) (b := b) (m := oT m n) (s := s) s.pl f c5 (hb s List.mem_cons_self)
    obtain ⟨c4', c5', e⟩ := shTurns (c := c) hn (a := a) (b := b) l (winF s f) (bothK m s.mv) (.val (shD c n s)) d5 fun t ht => hb t (List.mem_cons_of_mem _ ht)
    refine ⟨c4', c5', ?_⟩
    rw [List.map_cons, forR_cons]
    rw [show (([.val a, .val b, .own (.list (tab (fun i => oD (f i)) n)), .val (oT m n), c4, c5] : Rho).set 4 (.val (shD c n s))) = [.val a, .val b, .own (.list (tab (fun i => oD (f i)) n)), .val (oT m n), .val (shD c n s), c5] from rfl]
    have hb1 : shBody c [.val a, .val b, .own (.list (tab (fun i => oD (f i)) n)), .val (oT m n), .val (shD c n s), c5] = .ok (.nx [.val a, .val b, .own (.list (tab (fun i => oD (winF s f i)) n)), .val (oT (bothK m s.mv) n), .val (shD c n s), d5]) := by
      unfold shBody
      rw [seq_nx (ρ' := [.val a, .val b, .own (.list (tab (fun i => oD (winF s f i)) n)), .val (oT m n), .val (shD c n s), d5]) (by
        rw [sNox_eq, sFor_eq, iSeq_eq, e1_eq]
        simp only [eVar_s, eVar_0, R.ok_bind, fld_places, seqD_t]
        rw [e1]
        rfl)]
      simp only [sSet_eq, eCall_eq, aCons_eq, aNil_eq, e1_eq, eVar_s, eVar_0, R.ok_bind, fld_moves, both_eq hn]
      rfl
    rw [hb1, R.ok_bind, turnO_nx, e]
    rfl
theorem wm_eq {ps : List P4} (hp : ps.length ≤ 1000) {c : Addr} {l : List Sh} (hb : ∀ s ∈ l, ∀ x ∈ s.pl, 0 ≤ x ∧ x < ps.length) :
    F_winners_and_moves c [gD ps, .list (l.map (shD c ps.length))] = .ok (.tuple [oT (winsF (fun _ => none) l) ps.length, oT (mvsF (fun _ => none) l) ps.length]) := by
  obtain ⟨c4, c5, e⟩ := shTurns (c := c) hp (a := gD ps) (b := .list (l.map (shD c ps.length))) l (fun _ => none) (fun _ => none) .non .non hb
  have h0 : compR (bName 0) (fun _ => .ok true) (eC .none) [.non] (ps.map P4.d) = .ok (tab (fun _ => oD none) ps.length) := by
    have := compR_map (eC .none) [.non] 0 (fun _ => .none) (ps.map P4.d) fun d _ => rfl
    rw [this]
    congr 1
    refine List.ext_getElem (by rw [List.length_map, List.length_map, tab_len]) fun k h1 h2 => ?_
    rw [tab_len] at h2
    have e := tab_get (f := fun _ => oD none) (n := ps.length) (i := (k : Int)) (by omega) (by omega)
    simp only [Int.toNat_natCast] at e
    rw [e, List.getElem_map]
    rfl
  have hn := no_moves_eq (ps := ps) hp
  unfold F_winners_and_moves M_winners_and_moves
  refine fn_rt ?_
  rw [show ([gD ps, .list (l.map (shD c ps.length))].map Cell.val ++ List.replicate (6 - [gD ps, .list (l.map (shD c ps.length))].length) Cell.non) = [.val (gD ps), .val (.list (l.map (shD c ps.length))), .non, .non, .non, .non] from rfl]
  rw [seq_nx (ρ' := [.val (gD ps), .val (.list (l.map (shD c ps.length))), .own (.list (tab (fun _ => oD none) ps.length)), .non, .non, .non]) (by
    rw [sOwn_eq, eComp_eq, show compRho 1 [] [.val (gD ps), .val (.list (l.map (shD c ps.length))), .non, .non, .non, .non] = [.non] from rfl]
    simp only [iSeq_eq, eVar_0, R.ok_bind, seqD_t, noX_ok]
    rw [if_pos (by rw [List.length_map]; exact small25 hp), h0]
    rfl)]
  rw [seq_nx (ρ' := [.val (gD ps), .val (.list (l.map (shD c ps.length))), .own (.list (tab (fun _ => oD none) ps.length)), .val (oT (fun _ => none) ps.length), .non, .non]) (by
    simp only [sSet_eq, eCall_eq, aCons_eq, aNil_eq, eVar_0, R.ok_bind, hn]
    rfl)]
  rw [seq_nx (ρ' := [.val (gD ps), .val (.list (l.map (shD c ps.length))), .own (.list (tab (fun i => oD (winsF (fun _ => none) l i)) ps.length)), .val (oT (mvsF (fun _ => none) l) ps.length), c4, c5]) (by
    rw [sNox_eq, sFor_eq, iSeq_eq]
    simp only [eVar_s, eVar_0, R.ok_bind, seqD_l]
    unfold shBody at e
    rw [e]
    rfl)]
  simp only [sRet_eq, eTup_eq, aCons_eq, aNil_eq, e1_eq, eVarB_s, eVarB_o, eVar_s, eVar_0, R.ok_bind, dTuple_l]
  rfl
end G
set_option Elab.async false
set_option linter.all false
set_option maxRecDepth 100000
set_option maxHeartbeats 4000000
namespace G
open PySem PySem.Spec PyProof.Rows L2 D2
def goalsIn (gs js : List Int) : List Int := gs.filter (memB js)
def awayK (ps : List P4) (js : List Int) (who : Int) (gs : List Int) : List Int := restK js (somes (rK ps js who (goalsIn gs js)) ps.length)
def comingS (ps : List P4) (js : List Int) (who : Int) (gs : List Int) : Sh :=
  if awayK ps js who gs = [] then ⟨who, js, bothK (mvK ps who (rK ps js who (goalsIn gs js))) (stayK ps who js)⟩
  else ⟨1 - who, somes (rK ps js (1 - who) (awayK ps js who gs)) ps.length, bothK (mvK ps (1 - who) (rK ps js (1 - who) (awayK ps js who gs))) (stayK ps (1 - who) (awayK ps js who gs))⟩
section
variable {ps : List P4} (G : Gr ps) {js gs : List Int} (hj : Part ps.length js) (hg : Part ps.length gs) (hw : Whole ps js) {who : Int}
include hg in
theorem gin_part : Part ps.length (goalsIn gs js) := hg.filter _
theorem gin_sub : ∀ x ∈ goalsIn gs js, x ∈ js := fun x hx => memB_iff.mp (List.mem_filter.mp hx).2
include hj in
theorem away_part : Part ps.length (awayK ps js who gs) := hj.filter _
theorem away_sub : ∀ x ∈ awayK ps js who gs, x ∈ js := fun x hx => (mem_restK.mp hx).1
include hj in
theorem mem_away {i : Int} : i ∈ awayK ps js who gs ↔ i ∈ js ∧ rK ps js who (goalsIn gs js) i = none := by
  unfold awayK
  rw [mem_restK, mem_somes]
  constructor
  · rintro ⟨h1, h2⟩
    refine ⟨h1, ?_⟩
    cases h : rK ps js who (goalsIn gs js) i with
    | none => rfl
    | some q => exact (h2 ⟨hj.inn i h1, q, h⟩).elim
  · rintro ⟨h1, h2⟩
    refine ⟨h1, ?_⟩
    rintro ⟨_, q, hq⟩
    rw [h2] at hq
    cases hq
include hj hg in
theorem attr_in : Attr ps js who (goalsIn gs js) (rK ps js who (goalsIn gs js)) := attr_rK (gin_part hg).nd gin_sub hj.nd hj.len
include hj in
theorem attr_away : Attr ps js (1 - who) (awayK ps js who gs) (rK ps js (1 - who) (awayK ps js who gs)) := attr_rK (away_part hj).nd away_sub hj.nd hj.len
include hj hg hw in
theorem away_ways {i : Int} (hi : i ∈ awayK ps js who gs) (ho : ownerOf ps i ≠ who) : ∃ g, g ∈ waysK ps (awayK ps js who gs) i := by
  obtain ⟨h1, h2⟩ := (mem_away hj).mp hi
  obtain ⟨g, g1, g2⟩ := (attr_in hj hg).outX i h1 h2 ho (hw i h1)
  obtain ⟨g3, g4⟩ := List.mem_filter.mp g1
  exact ⟨g, List.mem_filter.mpr ⟨g3, memB_iff.mpr ((mem_away hj).mpr ⟨memB_iff.mp g4, g2⟩)⟩⟩
include G hj hg hw in
theorem coming_eq {c : Addr} : F_share_by_coming c [gD ps, .tuple (js.map .int), .int who, .tuple (gs.map .int)] = .ok (shD c ps.length (comingS ps js who gs)) := by
  have hp := G.hp
  have hjl := hj.len
  have hgl := hg.len
  have h0 := common_eq (s := .tuple (gs.map .int)) (t := .tuple (js.map .int)) (.inl rfl) (.inl rfl) (by omega)
  have h1 := ranks_to_eq G.hl G.hgo G.hp (s := .tuple (js.map .int)) (g := .tuple ((goalsIn gs js).map .int)) (.inl rfl) (.inl rfl) hj (gin_part hg) gin_sub hw (who := who)
  have h2 := ranked_eq (f := rK ps js who (goalsIn gs js)) (n := ps.length) (by omega)
  have h3 := without_eq (s := .tuple (js.map .int)) (t := .tuple ((somes (rK ps js who (goalsIn gs js)) ps.length).map .int)) (.inl rfl) (.inl rfl) (by omega)
  have h4 := pulling_moves_eq G (attr_goals (attr_in (who := who) hj hg))
  unfold F_share_by_coming M_share_by_coming
  refine fn_rt ?_
  rw [show ([gD ps, .tuple (js.map .int), .int who, .tuple (gs.map .int)].map Cell.val ++ List.replicate (8 - [gD ps, .tuple (js.map .int), .int who, .tuple (gs.map .int)].length) Cell.non) = [.val (gD ps), .val (.tuple (js.map .int)), .val (.int who), .val (.tuple (gs.map .int)), .non, .non, .non, .non] from rfl]
  rw [seq_nx (ρ' := [.val (gD ps), .val (.tuple (js.map .int)), .val (.int who), .val (.tuple (gs.map .int)), .val (oT (rK ps js who (goalsIn gs js)) ps.length), .non, .non, .non]) (by
    simp only [sSet_eq, eCall_eq, aCons_eq, aNil_eq, eVar_0, eVar_s, R.ok_bind, h0]
    rw [show gs.filter (memB js) = goalsIn gs js from rfl, h1]
    rfl)]
  rw [seq_nx (ρ' := [.val (gD ps), .val (.tuple (js.map .int)), .val (.int who), .val (.tuple (gs.map .int)), .val (oT (rK ps js who (goalsIn gs js)) ps.length), .val (.tuple ((awayK ps js who gs).map .int)), .non, .non]) (by
    simp only [sSet_eq, eCall_eq, aCons_eq, aNil_eq, eVar_0, eVar_s, R.ok_bind, h2, h3]
    rfl)]
  by_cases ha : awayK ps js who gs = []
  · have h5 := staying_moves_eq G (who := who) (s := .tuple (js.map .int)) (.inl rfl) hj fun i hi _ => hw i hi
    rw [show comingS ps js who gs = ⟨who, js, bothK (mvK ps who (rK ps js who (goalsIn gs js))) (stayK ps who js)⟩ from if_pos ha]
    refine seq_rt ?_
    rw [sIf_eq, tE_eq, e2_eq, e1_eq]
    simp only [eVar_0, eVar_s, eC_eq, R.ok_bind, ha, List.map_nil, dLen_t, List.length_nil, dEq_i, asB_b]
    rw [if_pos (by decide)]
    rw [seq_nx (ρ' := [.val (gD ps), .val (.tuple (js.map .int)), .val (.int who), .val (.tuple (gs.map .int)), .val (oT (rK ps js who (goalsIn gs js)) ps.length), .val (.tuple []), .val (oT (bothK (mvK ps who (rK ps js who (goalsIn gs js))) (stayK ps who js)) ps.length), .non]) (by
      simp only [sSet_eq, eCall_eq, aCons_eq, aNil_eq, eVar_0, eVar_s, R.ok_bind, h4, h5, both_eq (show ps.length ≤ 1000 by omega)]
      rfl)]
    rfl
  · have h5 := ranks_to_eq G.hl G.hgo G.hp (s := .tuple (js.map .int)) (g := .tuple ((awayK ps js who gs).map .int)) (.inl rfl) (.inl rfl) hj (away_part hj) away_sub hw (who := 1 - who)
    have h6 := ranked_eq (f := rK ps js (1 - who) (awayK ps js who gs)) (n := ps.length) (by omega)
    have h7 := pulling_moves_eq G (attr_goals (attr_away (gs := gs) (who := who) hj))
    have h8 := staying_moves_eq G (who := 1 - who) (s := .tuple ((awayK ps js who gs).map .int)) (.inl rfl) (away_part hj) fun i hi ho => away_ways hj hg hw hi (by omega)
    rw [show comingS ps js who gs = ⟨1 - who, somes (rK ps js (1 - who) (awayK ps js who gs)) ps.length, bothK (mvK ps (1 - who) (rK ps js (1 - who) (awayK ps js who gs))) (stayK ps (1 - who) (awayK ps js who gs))⟩ from if_neg ha]
    have hlen : ¬ ((awayK ps js who gs).length : Int) = 0 := by
      have := List.length_pos_iff.mpr ha
      omega
    rw [seq_nx (ρ' := [.val (gD ps), .val (.tuple (js.map .int)), .val (.int who), .val (.tuple (gs.map .int)), .val (oT (rK ps js who (goalsIn gs js)) ps.length), .val (.tuple ((awayK ps js who gs).map .int)), .non, .non]) (by
      rw [sIf_eq, tE_eq, e2_eq, e1_eq]
      simp only [eVar_0, eVar_s, eC_eq, R.ok_bind, dLen_t, List.length_map, dEq_i, asB_b, decide_eq_false hlen]
      rfl)]
    rw [seq_nx (ρ' := [.val (gD ps), .val (.tuple (js.map .int)), .val (.int who), .val (.tuple (gs.map .int)), .val (oT (rK ps js who (goalsIn gs js)) ps.length), .val (.tuple ((awayK ps js who gs).map .int)), .non, .val (.int (1 - who))]) (by
      simp only [sSet_eq, e2_eq, eVar_0, eVar_s, eC_eq, R.ok_bind, dSub_i]
      rfl)]
    rw [seq_nx (ρ' := [.val (gD ps), .val (.tuple (js.map .int)), .val (.int who), .val (.tuple (gs.map .int)), .val (oT (rK ps js (1 - who) (awayK ps js who gs)) ps.length), .val (.tuple ((awayK ps js who gs).map .int)), .non, .val (.int (1 - who))]) (by
      simp only [sSet_eq, eCall_eq, aCons_eq, aNil_eq, eVar_0, eVar_s, R.ok_bind, h5]
      rfl)]
    rw [seq_nx (ρ' := [.val (gD ps), .val (.tuple (js.map .int)), .val (.int who), .val (.tuple (gs.map .int)), .val (oT (rK ps js (1 - who) (awayK ps js who gs)) ps.length), .val (.tuple ((awayK ps js who gs).map .int)), .val (oT (bothK (mvK ps (1 - who) (rK ps js (1 - who) (awayK ps js who gs))) (stayK ps (1 - who) (awayK ps js who gs))) ps.length), .val (.int (1 - who))]) (by
      simp only [sSet_eq, eCall_eq, aCons_eq, aNil_eq, eVar_0, eVar_s, R.ok_bind, h7, h8, both_eq (show ps.length ≤ 1000 by omega)]
      rfl)]
    unfold eNew
    simp only [sRet_eq, eCall_eq, aCons_eq, aNil_eq, eVar_0, eVar_s, R.ok_bind, h6]
    rfl
end
def againS (ps : List P4) (who : Int) (gs : List Int) : Nat → List Int → List Sh
  | 0, _ => []
  | k + 1, js => if js = [] then [] else comingS ps js who gs :: againS ps who gs k (restK js (comingS ps js who gs).pl)
theorem rest_whole {ps : List P4} {js gs : List Int} {who : Int} {rk : Int → Option Int} (hj : Part ps.length js) (hw : Whole ps js) (A : Attr ps js who gs rk) : Whole ps (restK js (somes rk ps.length)) := by
  intro i hi
  obtain ⟨h1, h2⟩ := mem_restK.mp hi
  have hn : rk i = none := by
    cases h : rk i with
    | none => rfl
    | some q => exact (h2 (mem_somes.mpr ⟨hj.inn i h1, q, h⟩)).elim
  have fin : ∀ g, g ∈ waysK ps js i → rk g = none → ∃ g, g ∈ waysK ps (restK js (somes rk ps.length)) i := fun g g1 g2 => by
    obtain ⟨g3, g4⟩ := List.mem_filter.mp g1
    refine ⟨g, List.mem_filter.mpr ⟨g3, memB_iff.mpr (mem_restK.mpr ⟨memB_iff.mp g4, fun z => ?_⟩)⟩⟩
    obtain ⟨_, q, hq⟩ := mem_somes.mp z
    rw [g2] at hq
    cases hq
  by_cases ho : ownerOf ps i = who
  · obtain ⟨g, hg⟩ := hw i h1
    exact fin g hg (A.outO i h1 hn ho g hg)
  · obtain ⟨g, g1, g2⟩ := A.outX i h1 hn ho (hw i h1)
    exact fin g g1 g2
theorem restK_self (js : List Int) : restK js js = [] := by
  unfold restK
  rw [List.filter_eq_nil_iff]
  intro x hx
  rw [memB_iff.mpr hx]
  simp
theorem coming_rest {ps : List P4} {js gs : List Int} {who : Int} (hj : Part ps.length js) (hw : Whole ps js) : Whole ps (restK js (comingS ps js who gs).pl) := by
  unfold comingS
  split
  · rw [restK_self]; intro i hi; cases hi
  · exact rest_whole hj hw (attr_away hj)
theorem coming_in {ps : List P4} {js gs : List Int} {who : Int} (hj : Part ps.length js) : Part ps.length (comingS ps js who gs).pl := by
  unfold comingS
  split
  · exact hj
  · exact somes_part _ _
theorem coming_less {ps : List P4} {js gs : List Int} {who : Int} (hj : Part ps.length js) (hne : js ≠ []) : (restK js (comingS ps js who gs).pl).length < js.length := by
  have ex : ∃ i ∈ js, i ∈ (comingS ps js who gs).pl := by
    unfold comingS
    split
    · exact let ⟨i, hi⟩ := List.exists_mem_of_ne_nil _ hne; ⟨i, hi, hi⟩
    · rename_i ha
      obtain ⟨i, hi⟩ := List.exists_mem_of_ne_nil _ ha
      exact ⟨i, away_sub i hi, mem_somes.mpr ⟨(away_part hj).inn i hi, 0, ((attr_away hj).zero i).mpr hi⟩⟩
  obtain ⟨i, h1, h2⟩ := ex
  refine Nat.lt_of_le_of_ne (List.length_filter_le ..) fun z => ?_
  have := (len_filter_eq _ js).mp z i h1
  rw [memB_iff.mpr h2] at this
  cases this
def gBody (c : Addr) : Fs := (sSeq (sSet 5 (eCall (F_share_by_coming c) (aCons (eVar 0) (aCons (eVar 4) (aCons (eVar 1) (aCons (eVar 2) aNil)))))) (sSeq (sAppend 3 (eVar 5)) (sSet 4 (eCall F_without (aCons (eVar 4) (aCons (e1 (fldD c "places") (eVar 5)) aNil))))))
abbrev gR (ps : List P4) (c : Addr) (who : Int) (gs : List Int) (acc : List Sh) (js : List Int) (c5 : Cell) : Rho :=
  [.val (gD ps), .val (.int who), .val (.tuple (gs.map .int)), .own (.list (acc.map (shD c ps.length))), .val (.tuple (js.map .int)), c5]
theorem gLoop {ps : List P4} (G : Gr ps) {gs : List Int} (hg : Part ps.length gs) {who : Int} {c : Addr} : ∀ (k n : Nat) (js : List Int) (acc : List Sh) (c5 : Cell), Part ps.length js → Whole ps js → js.length ≤ k → k + 1 ≤ n → acc.length + k ≤ 1000 →
    ∃ c5', whileR (tE (e2 (dCmp pGt) (e1 dLen (eVar 4)) (eC (.int 0)))) (gBody c) n (gR ps c who gs acc js c5) = .ok (.nx (gR ps c who gs (acc ++ againS ps who gs k js) [] c5'))
  | k, 0, js, acc, c5, _, _, _, h, _ => by omega
  | k, n + 1, js, acc, c5, hj, hw, hk, hn, hz => by
    have hp := G.hp
    rw [whileR_s]
    have ht : tE (e2 (dCmp pGt) (e1 dLen (eVar 4)) (eC (.int 0))) (gR ps c who gs acc js c5) = .ok (decide (0 < js.length)) := by
      simp only [tE_eq, e2_eq, e1_eq, eVar_s, eVar_0, eC_eq, R.ok_bind, dLen_t, dCmp_i, asB_b, List.length_map]
      congr 1
      simp
    rw [ht, R.ok_bind]
    by_cases h0 : js = []
    · subst h0
      refine ⟨c5, ?_⟩
      have : againS ps who gs k [] = [] := by cases k <;> rfl
      rw [this, List.append_nil]
      rfl
    · have hpos := List.length_pos_iff.mpr h0
      rw [if_pos (decide_eq_true hpos)]
      cases k with
      | zero => omega
      | succ k =>
        have hl := coming_less (gs := gs) (who := who) hj h0
        obtain ⟨c5', e⟩ := gLoop G hg (who := who) (c := c) k n (restK js (comingS ps js who gs).pl) (acc ++ [comingS ps js who gs]) (.val (shD c ps.length (comingS ps js who gs))) (hj.filter _) (coming_rest hj hw) (by omega) (by omega) (by simp; omega)
        refine ⟨c5', ?_⟩
        have h1 := coming_eq G hj hg hw (who := who) (c := c)
        have h2 := without_eq (s := .tuple (js.map .int)) (t := .tuple ((comingS ps js who gs).pl.map .int)) (.inl rfl) (.inl rfl) (by have := hj.len; omega)
        have hb : gBody c (gR ps c who gs acc js c5) = .ok (.nx (gR ps c who gs (acc ++ [comingS ps js who gs]) (restK js (comingS ps js who gs).pl) (.val (shD c ps.length (comingS ps js who gs))))) := by
          unfold gBody
          rw [seq_nx (ρ' := gR ps c who gs acc js (.val (shD c ps.length (comingS ps js who gs)))) (by
            simp only [sSet_eq, eCall_eq, aCons_eq, aNil_eq, eVar_0, eVar_s, R.ok_bind, h1]
            rfl)]
          rw [seq_nx (ρ' := gR ps c who gs (acc ++ [comingS ps js who gs]) js (.val (shD c ps.length (comingS ps js who gs)))) (by
            rw [sAppend_o (ds := acc.map (shD c ps.length)) (eVar 5) rfl (Nat.lt_of_lt_of_le (show _ < 1001 by rw [List.length_map]; omega) (by decide))]
            simp only [eVar_0, eVar_s, noX_ok, R.ok_bind]
            rw [show acc.map (shD c ps.length) ++ [shD c ps.length (comingS ps js who gs)] = (acc ++ [comingS ps js who gs]).map (shD c ps.length) by simp]
            rfl)]
          simp only [sSet_eq, eCall_eq, aCons_eq, aNil_eq, e1_eq, eVar_0, eVar_s, R.ok_bind, fld_places, h2]
          rfl
        rw [hb, R.ok_bind, turnO_nx, e]
        rw [show againS ps who gs (k + 1) js = comingS ps js who gs :: againS ps who gs k (restK js (comingS ps js who gs).pl) from if_neg h0]
        simp
theorem again_in {ps : List P4} {gs : List Int} {who : Int} : ∀ (k : Nat) (js : List Int), Part ps.length js → ∀ s ∈ againS ps who gs k js, ∀ x ∈ s.pl, 0 ≤ x ∧ x < ps.length
  | 0, js, _, s, hs => by cases hs
  | k + 1, js, hj, s, hs => by
    unfold againS at hs
    split at hs
    · cases hs
    · rcases List.mem_cons.mp hs with rfl | z
      · exact (coming_in hj).inn
      · exact again_in k _ (hj.filter _) s z
theorem again_eq {ps : List P4} (G : Gr ps) {gs : List Int} (hg : Part ps.length gs) (hw : Whole ps (ids ps.length)) {who : Int} {c : Addr} :
    F_again c [gD ps, .int who, .tuple (gs.map .int)] = .ok (.tuple [oT (winsF (fun _ => none) (againS ps who gs ps.length (ids ps.length))) ps.length, oT (mvsF (fun _ => none) (againS ps who gs ps.length (ids ps.length))) ps.length]) := by
  have hp := G.hp
  obtain ⟨c5, e⟩ := gLoop G hg (who := who) (c := c) ps.length 1000000 (ids ps.length) [] .non (Part.ids _) hw (by rw [ids_len]; exact Nat.le_refl _) (by omega) (by simp; omega)
  rw [List.nil_append] at e
  have h1 := hg.some
  have h2 := all_places_eq (ps := ps) (by omega)
  have h3 := wm_eq (ps := ps) (by omega) (c := c) (again_in (gs := gs) (who := who) ps.length (ids ps.length) (Part.ids _))
  have hlen : dLen (gD ps) = .ok (.int ps.length) := by simp
  unfold F_again M_again
  refine fn_rt ?_
  rw [show ([gD ps, .int who, .tuple (gs.map .int)].map Cell.val ++ List.replicate (6 - [gD ps, .int who, .tuple (gs.map .int)].length) Cell.non) = [.val (gD ps), .val (.int who), .val (.tuple (gs.map .int)), .non, .non, .non] from rfl]
  rw [seq_nx (ρ' := [.val (gD ps), .val (.int who), .val (.tuple (gs.map .int)), .non, .non, .non]) (by
    simp only [sIf_eq, tNotR_eq, tE_eq, eCall_eq, aCons_eq, aNil_eq, e1_eq, eVar_0, eVar_s, R.ok_bind, hlen, h1, asB_b]; rfl)]
  rw [seq_nx (ρ' := [.val (gD ps), .val (.int who), .val (.tuple (gs.map .int)), .own (.list []), .non, .non]) (by rfl)]
  rw [seq_nx (ρ' := gR ps c who gs [] (ids ps.length) .non) (by
    simp only [sSet_eq, eCall_eq, aCons_eq, aNil_eq, eVar_0, R.ok_bind, h2]; rfl)]
  rw [seq_nx (ρ' := gR ps c who gs (againS ps who gs ps.length (ids ps.length)) [] c5) (by
    rw [sNox_eq]
    show noX (whileR (tE (e2 (dCmp pGt) (e1 dLen (eVar 4)) (eC (.int 0)))) (gBody c) 1000000 _) = _
    rw [e]
    rfl)]
  unfold sFz
  show sRet _ (((gR ps c who gs (againS ps who gs ps.length (ids ps.length)) [] c5)).set 3 (.val (.list ((againS ps who gs ps.length (ids ps.length)).map (shD c ps.length))))) = _
  simp only [List.set_cons_succ, List.set_cons_zero, sRet_eq, eCall_eq, aCons_eq, aNil_eq, eVar_0, eVar_s, R.ok_bind, h3]
end G
set_option Elab.async false
set_option linter.all false
set_option maxRecDepth 100000
set_option maxHeartbeats 4000000
namespace G
open PySem PySem.Spec PyProof.Rows L2 D2
def Wy (ps : List P4) (js : List Int) (w : Int) (mv : Int → Option Int) (i g : Int) : Prop := (ownerOf ps i = w ∧ mv i = some g) ∨ (ownerOf ps i ≠ w ∧ g ∈ waysK ps js i)
theorem ways_sub {ps : List P4} {js : List Int} {i g : Int} (h : g ∈ waysK ps js i) : g ∈ js := memB_iff.mp (List.mem_filter.mp h).2
theorem ways_goal {ps : List P4} {js : List Int} {i g : Int} (h : g ∈ waysK ps js i) : g ∈ goalsOf ps i := (List.mem_filter.mp h).1
theorem ways_mk {ps : List P4} {js : List Int} {i g : Int} (h : g ∈ goalsOf ps i) (h2 : g ∈ js) : g ∈ waysK ps js i := List.mem_filter.mpr ⟨h, memB_iff.mpr h2⟩
theorem mvK_own {ps : List P4} {js gs : List Int} {who : Int} {rk : Int → Option Int} (A : Attr ps js who gs rk) {i q : Int} (h : rk i = some q) (hq : 0 < q) (ho : ownerOf ps i = who) : ∃ g, mvK ps who rk i = some g ∧ g ∈ waysK ps js i ∧ rk g = some (q - 1) := by
  obtain ⟨g, g1, g2⟩ := attr_goals A i q h hq ho
  have hm : mvK ps who rk i = ((goalsOf ps i).filter fun g => decide (rk g = some (q - 1))).head? := by
    unfold mvK
    rw [h]
    exact if_pos ⟨ho, hq⟩
  have hmem : g ∈ (goalsOf ps i).filter fun g => decide (rk g = some (q - 1)) := List.mem_filter.mpr ⟨g1, decide_eq_true g2⟩
  cases hL : (goalsOf ps i).filter fun g => decide (rk g = some (q - 1)) with
  | nil => rw [hL] at hmem; cases hmem
  | cons v r =>
    rw [hL] at hm
    have hv : v ∈ (goalsOf ps i).filter fun g => decide (rk g = some (q - 1)) := by rw [hL]; exact List.mem_cons_self
    have h2 := of_decide_eq_true (List.mem_filter.mp hv).2
    exact ⟨v, hm, ways_mk (List.mem_filter.mp hv).1 (A.sub v _ h2), h2⟩
theorem mvK_none {ps : List P4} {who : Int} {rk : Int → Option Int} {i : Int} (h : ownerOf ps i ≠ who ∨ rk i = none ∨ rk i = some 0) : mvK ps who rk i = none := by
  unfold mvK
  rcases h with h | h | h
  · cases rk i with
    | none => rfl
    | some q => exact if_neg fun z => h z.1
  · rw [h]
  · rw [h]
    exact if_neg fun z => by omega
theorem stayK_own {ps : List P4} {who : Int} {part : List Int} {i : Int} (hi : i ∈ part) (ho : ownerOf ps i = who) (hw : ∃ g, g ∈ waysK ps part i) : ∃ g, stayK ps who part i = some g ∧ g ∈ waysK ps part i := by
  have hm : stayK ps who part i = (waysK ps part i).head? := if_pos ⟨hi, ho⟩
  obtain ⟨g, hg⟩ := hw
  cases hL : waysK ps part i with
  | nil => rw [hL] at hg; cases hg
  | cons v r =>
    rw [hL] at hm
    exact ⟨v, hm, List.mem_cons_self⟩
theorem stayK_none {ps : List P4} {who : Int} {part : List Int} {i : Int} (h : i ∉ part ∨ ownerOf ps i ≠ who) : stayK ps who part i = none := if_neg fun z => h.elim (fun y => y z.1) fun y => y z.2
theorem both_own {ps : List P4} {js gs : List Int} {who : Int} {rk : Int → Option Int} (A : Attr ps js who gs rk) {part : List Int} {i q : Int} (h : rk i = some q) (ho : ownerOf ps i = who) (h0 : q = 0 → i ∈ part ∧ ∃ g, g ∈ waysK ps part i) :
    ∃ g, bothK (mvK ps who rk) (stayK ps who part) i = some g ∧ g ∈ goalsOf ps i ∧ ((0 < q ∧ g ∈ js ∧ rk g = some (q - 1)) ∨ (q = 0 ∧ g ∈ part)) := by
  unfold bothK
  by_cases hq : 0 < q
  · obtain ⟨g, g1, g2, g3⟩ := mvK_own A h hq ho
    exact ⟨g, by rw [g1]; rfl, ways_goal g2, .inl ⟨hq, ways_sub g2, g3⟩⟩
  · have hq0 : q = 0 := by have := A.nneg i q h; omega
    obtain ⟨p1, p2⟩ := h0 hq0
    obtain ⟨g, g1, g2⟩ := stayK_own p1 ho p2
    exact ⟨g, by rw [mvK_none (.inr (.inr (by rw [h, hq0]))), g1]; rfl, ways_goal g2, .inr ⟨hq0, ways_sub g2⟩⟩
structure AgainOk (ps : List P4) (who : Int) (gs js : List Int) (l : List Sh) (win : Int → Int) (mv : Int → Option Int) (φ ψ : Int → Int) : Prop where
  wins : ∀ f i, winsF f l i = if i ∈ js then some (win i) else f i
  mvs : ∀ m i, (i ∈ js → m i = none) → mvsF m l i = if i ∈ js then mv i else m i
  two : ∀ i ∈ js, win i = who ∨ win i = 1 - who
  has : ∀ i ∈ js, ownerOf ps i = win i → ∃ g, mv i = some g ∧ g ∈ goalsOf ps i
  non : ∀ i ∈ js, ownerOf ps i ≠ win i → mv i = none
  stay : ∀ i ∈ js, ∀ g, Wy ps js (win i) mv i g → g ∈ js ∧ win g = win i
  mine : ∀ i ∈ js, win i = who → i ∉ gs → ∀ g, Wy ps js who mv i g → φ g < φ i
  nn : ∀ i ∈ js, win i = 1 - who → 0 ≤ ψ i
  oth : ∀ i ∈ js, win i = 1 - who → ∀ g, Wy ps js (1 - who) mv i g → ψ g ≤ ψ i ∧ (i ∈ gs → ψ g < ψ i)
theorem again_ok {ps : List P4} {who : Int} (h01 : who = 0 ∨ who = 1) {gs : List Int} (hg : Part ps.length gs) : ∀ (k : Nat) (js : List Int), Part ps.length js → Whole ps js → js.length ≤ k → (∀ i ∈ js, ownerOf ps i = 0 ∨ ownerOf ps i = 1) →
    ∃ win mv φ ψ, AgainOk ps who gs js (againS ps who gs k js) win mv φ ψ
  | k, [], _, _, _, _ => by
    have : againS ps who gs k [] = [] := by cases k <;> rfl
    rw [this]
    refine ⟨fun _ => 0, fun _ => none, fun _ => 0, fun _ => 0, ⟨fun f i => by simp [winsF], fun m i _ => by simp [mvsF], ?_, ?_, ?_, ?_, ?_, ?_, ?_⟩⟩ <;> intro i hi <;> cases hi
  | 0, j :: js, _, _, hk, _ => by simp at hk
  | k + 1, j0 :: js0, hj, hw, hk, hown => by
    obtain ⟨js, ejs⟩ : ∃ js, js = j0 :: js0 := ⟨_, rfl⟩
    have hne : js ≠ [] := by rw [ejs]; simp
    rw [← ejs] at hj hw hk hown ⊢
    rw [show againS ps who gs (k + 1) js = comingS ps js who gs :: againS ps who gs k (restK js (comingS ps js who gs).pl) from if_neg hne]
    have A := attr_in (who := who) hj hg
    by_cases ha : awayK ps js who gs = []
    · have hs : comingS ps js who gs = ⟨who, js, bothK (mvK ps who (rK ps js who (goalsIn gs js))) (stayK ps who js)⟩ := if_pos ha
      have hr : restK js (comingS ps js who gs).pl = [] := by rw [hs]; exact restK_self js
      have hl : againS ps who gs k [] = [] := by cases k <;> rfl
      rw [hr, hl, hs]
      have hrk : ∀ i ∈ js, ∃ q, rK ps js who (goalsIn gs js) i = some q := fun i hi => by
        cases h : rK ps js who (goalsIn gs js) i with
        | some q => exact ⟨q, rfl⟩
        | none =>
          have := (mem_away (gs := gs) (who := who) hj).mpr ⟨hi, h⟩
          rw [ha] at this
          cases this
      have own : ∀ i ∈ js, ownerOf ps i = who → ∃ q g, rK ps js who (goalsIn gs js) i = some q ∧ bothK (mvK ps who (rK ps js who (goalsIn gs js))) (stayK ps who js) i = some g ∧ g ∈ goalsOf ps i ∧ ((0 < q ∧ g ∈ js ∧ rK ps js who (goalsIn gs js) g = some (q - 1)) ∨ (q = 0 ∧ g ∈ js)) := fun i hi ho => by
        obtain ⟨q, hq⟩ := hrk i hi
        obtain ⟨g, g1, g2, g3⟩ := both_own A (part := js) hq ho fun _ => ⟨hi, hw i hi⟩
        exact ⟨q, g, hq, g1, g2, g3⟩
      have nom : ∀ i, (i ∉ js ∨ ownerOf ps i ≠ who) → bothK (mvK ps who (rK ps js who (goalsIn gs js))) (stayK ps who js) i = none := fun i hi => by
        unfold bothK
        rw [stayK_none hi, mvK_none]
        · rfl
        · rcases hi with hi | hi
          · right; left
            cases h : rK ps js who (goalsIn gs js) i with
            | none => rfl
            | some q => exact (hi (A.sub i q h)).elim
          · exact .inl hi
      refine ⟨fun _ => who, bothK (mvK ps who (rK ps js who (goalsIn gs js))) (stayK ps who js), fun i => (rK ps js who (goalsIn gs js) i).getD 0, fun _ => 0, ⟨fun f i => rfl, fun m i hm => ?_, fun i _ => .inl rfl, fun i hi ho => ?_, fun i _ ho => nom i (.inr ho), fun i hi g hgw => ⟨?_, rfl⟩, fun i hi _ hgs g hgw => ?_, fun i _ _ => by simp, fun i _ h => by omega⟩⟩
      · show bothK m (bothK (mvK ps who (rK ps js who (goalsIn gs js))) (stayK ps who js)) i = _
        by_cases hi : i ∈ js
        · rw [if_pos hi]
          show (m i).or _ = _
          rw [hm hi, Option.none_or]
        · rw [if_neg hi]
          show (m i).or _ = _
          rw [nom i (.inl hi), Option.or_none]
      · obtain ⟨q, g, _, g1, g2, _⟩ := own i hi ho
        exact ⟨g, g1, g2⟩
      · rcases hgw with ⟨ho, hm⟩ | ⟨_, hm⟩
        · obtain ⟨q, g', _, g1, _, g3⟩ := own i hi ho
          rw [g1] at hm
          cases hm
          rcases g3 with ⟨_, z, _⟩ | ⟨_, z⟩ <;> exact z
        · exact ways_sub hm
      · have hpos : ∀ q, rK ps js who (goalsIn gs js) i = some q → 0 < q := fun q hq => by
          have h0 := A.nneg i q hq
          by_cases z : q = 0
          · subst z
            exact (hgs (List.mem_filter.mp ((A.zero i).mp hq)).1).elim
          · omega
        rcases hgw with ⟨ho, hm⟩ | ⟨ho, hm⟩
        · obtain ⟨q, g', hq, g1, _, g3⟩ := own i hi ho
          rw [g1] at hm
          cases hm
          have := hpos q hq
          rcases g3 with ⟨_, _, z⟩ | ⟨z, _⟩
          · show (rK ps js who (goalsIn gs js) g).getD 0 < (rK ps js who (goalsIn gs js) i).getD 0
            rw [hq, z]
            show q - 1 < q
            omega
          · omega
        · obtain ⟨q, hq⟩ := hrk i hi
          obtain ⟨t, t1, t2⟩ := (A.oth i q hq (hpos q hq) ho).2 g hm
          show (rK ps js who (goalsIn gs js) g).getD 0 < (rK ps js who (goalsIn gs js) i).getD 0
          rw [hq, t1]
          exact t2
    · -- the other one's share
      have hs : comingS ps js who gs = ⟨1 - who, somes (rK ps js (1 - who) (awayK ps js who gs)) ps.length, bothK (mvK ps (1 - who) (rK ps js (1 - who) (awayK ps js who gs))) (stayK ps (1 - who) (awayK ps js who gs))⟩ := if_neg ha
      have hless := coming_less (gs := gs) (who := who) hj hne
      have hrw := coming_rest (gs := gs) (who := who) hj hw
      rw [hs] at hless hrw ⊢
      have B := attr_away (gs := gs) (who := who) hj
      obtain ⟨rk, erk⟩ : ∃ rk, rk = rK ps js (1 - who) (awayK ps js who gs) := ⟨_, rfl⟩
      obtain ⟨aw, eaw⟩ : ∃ aw, aw = awayK ps js who gs := ⟨_, rfl⟩
      have maw : ∀ i, i ∈ aw ↔ i ∈ js ∧ rK ps js who (goalsIn gs js) i = none := fun i => by rw [eaw]; exact mem_away hj
      have waw : ∀ i ∈ aw, ownerOf ps i ≠ who → ∃ g, g ∈ waysK ps aw i := fun i hi ho => by rw [eaw] at hi ⊢; exact away_ways hj hg hw hi ho
      rw [← eaw] at B hless hrw erk ⊢
      rw [← erk] at B hless hrw ⊢
      have hle : ∀ i q, rk i = some q → q ≤ ps.length := fun i q h => by rw [erk] at h; exact rK_le hj.len h
      have memP : ∀ i, i ∈ somes rk ps.length ↔ ∃ q, rk i = some q := fun i => by
        rw [mem_somes]
        exact ⟨fun h => h.2, fun ⟨q, hq⟩ => ⟨hj.inn i (B.sub i q hq), q, hq⟩⟩
      obtain ⟨js', ejs'⟩ : ∃ js', js' = restK js (somes rk ps.length) := ⟨_, rfl⟩
      have mem' : ∀ i, i ∈ js' ↔ i ∈ js ∧ rk i = none := fun i => by
        rw [ejs', mem_restK, memP]
        constructor
        · rintro ⟨h1, h2⟩
          refine ⟨h1, ?_⟩
          cases h : rk i with
          | none => rfl
          | some q => exact (h2 ⟨q, h⟩).elim
        · rintro ⟨h1, h2⟩
          exact ⟨h1, fun ⟨q, hq⟩ => by rw [h2] at hq; cases hq⟩
      have hless' : js'.length < js.length := by rw [ejs']; exact hless
      obtain ⟨win, mv, φ, ψ, I⟩ := again_ok h01 hg k js' (by rw [ejs']; exact hj.filter _) (by rw [ejs']; exact hrw) (by omega) fun i hi => hown i ((mem' i).mp hi).1
      rw [ejs'] at I
      rw [← ejs'] at I
      have nom : ∀ i, rk i = none → bothK (mvK ps (1 - who) rk) (stayK ps (1 - who) aw) i = none := fun i hi => by
        unfold bothK
        rw [mvK_none (.inr (.inl hi)), stayK_none]
        · rfl
        · left
          intro z
          have := (B.zero i).mpr z
          rw [hi] at this
          cases this
      have awP : ∀ i ∈ aw, rk i = some 0 := fun i hi => (B.zero i).mpr hi
      have own : ∀ i q, rk i = some q → ownerOf ps i = 1 - who → ∃ g, bothK (mvK ps (1 - who) rk) (stayK ps (1 - who) aw) i = some g ∧ g ∈ goalsOf ps i ∧ ((0 < q ∧ g ∈ js ∧ rk g = some (q - 1)) ∨ (q = 0 ∧ g ∈ aw)) := fun i q hq ho =>
        both_own B (part := aw) hq ho fun h0 => by
          have hi : i ∈ aw := (B.zero i).mp (by rw [hq, h0])
          exact ⟨hi, waw i hi (by omega)⟩
      -- from a place of the share
      have goP : ∀ i q g, rk i = some q → Wy ps js (1 - who) (bothK (mvK ps (1 - who) rk) (stayK ps (1 - who) aw)) i g → ∃ t, rk g = some t ∧ t ≤ q ∧ (i ∈ gs → t < q) := fun i q g hq hgw => by
        have hi := B.sub i q hq
        have hgs0 : q = 0 → i ∉ gs := fun h0 z => by
          have hi' : i ∈ aw := (B.zero i).mp (by rw [hq, h0])
          have h1 := ((maw i).mp hi').2
          have := (A.zero i).mpr (List.mem_filter.mpr ⟨z, memB_iff.mpr hi⟩)
          rw [h1] at this
          cases this
        have hq0 := B.nneg i q hq
        rcases hgw with ⟨ho, hm⟩ | ⟨ho, hm⟩
        · obtain ⟨g', g1, _, g3⟩ := own i q hq ho
          rw [g1] at hm
          cases hm
          rcases g3 with ⟨z1, _, z2⟩ | ⟨z1, z2⟩
          · exact ⟨q - 1, z2, by omega, fun _ => by omega⟩
          · exact ⟨0, awP g z2, by omega, fun z => (hgs0 z1 z).elim⟩
        · by_cases hp : 0 < q
          · obtain ⟨t, t1, t2⟩ := (B.oth i q hq hp ho).2 g hm
            exact ⟨t, t1, by omega, fun _ => t2⟩
          · have h0 : q = 0 := by omega
            have hi' : i ∈ aw := (B.zero i).mp (by rw [hq, h0])
            have how : ownerOf ps i = who := by have := hown i hi; omega
            have := A.outO i hi ((maw i).mp hi').2 how g hm
            exact ⟨0, awP g ((maw g).mpr ⟨ways_sub hm, this⟩), by omega, fun z => (hgs0 h0 z).elim⟩
      have hPs : ∀ {i q}, rk i = some q → i ∈ js ∧ i ∉ js' := fun {i q} hq => ⟨B.sub i q hq, fun z => by have := ((mem' i).mp z).2; rw [hq] at this; cases this⟩
      -- from a place that is left
      have goR : ∀ i g, i ∈ js' → Wy ps js (win i) mv i g → (g ∈ js' ∧ Wy ps js' (win i) mv i g) ∨ (win i = 1 - who ∧ ∃ t, rk g = some t) := fun i g hi hgw => by
        obtain ⟨hi1, hi2⟩ := (mem' i).mp hi
        rcases hgw with ⟨ho, hm⟩ | ⟨ho, hm⟩
        · have w : Wy ps js' (win i) mv i g := .inl ⟨ho, hm⟩
          exact .inl ⟨(I.stay i hi g w).1, w⟩
        · cases hr : rk g with
          | none =>
            have hg' : g ∈ js' := (mem' g).mpr ⟨ways_sub hm, hr⟩
            exact .inl ⟨hg', .inr ⟨ho, ways_mk (ways_goal hm) hg'⟩⟩
          | some t =>
            right
            refine ⟨?_, t, rfl⟩
            rcases I.two i hi with z | z
            · have how : ownerOf ps i = 1 - who := by have := hown i hi1; omega
              have := B.outO i hi1 hi2 how g hm
              rw [hr] at this
              cases this
            · exact z
      have wcongr : ∀ {i g} {m1 m2 : Int → Option Int} {w : Int} {K : List Int}, m1 i = m2 i → Wy ps K w m1 i g → Wy ps K w m2 i g := fun e h => by
        rcases h with ⟨a, b⟩ | h
        · exact .inl ⟨a, by rw [← e]; exact b⟩
        · exact .inr h
      refine ⟨fun i => if (rk i).isSome then 1 - who else win i, fun i => if (rk i).isSome then bothK (mvK ps (1 - who) rk) (stayK ps (1 - who) aw) i else mv i, φ, fun i => match rk i with | some q => q | none => ψ i + (ps.length + 1), ?_⟩
      have atP : ∀ {i q}, rk i = some q → (if (rk i).isSome then (1 - who : Int) else win i) = 1 - who := fun h => by rw [h]; rfl
      have atR : ∀ {i}, rk i = none → (if (rk i).isSome then (1 - who : Int) else win i) = win i := fun h => by rw [h]; rfl
      have mtP : ∀ {i q}, rk i = some q → (if (rk i).isSome then bothK (mvK ps (1 - who) rk) (stayK ps (1 - who) aw) i else mv i) = bothK (mvK ps (1 - who) rk) (stayK ps (1 - who) aw) i := fun h => by rw [h]; rfl
      have mtR : ∀ {i}, rk i = none → (if (rk i).isSome then bothK (mvK ps (1 - who) rk) (stayK ps (1 - who) aw) i else mv i) = mv i := fun h => by rw [h]; rfl
      refine ⟨fun f i => ?_, fun m i hm => ?_, fun i hi => ?_, fun i hi ho => ?_, fun i hi ho => ?_, fun i hi g hgw => ?_, fun i hi hwi hgs g hgw => ?_, fun i hi hwi => ?_, fun i hi hwi g hgw => ?_⟩
      · show winsF (winF ⟨1 - who, somes rk ps.length, bothK (mvK ps (1 - who) rk) (stayK ps (1 - who) aw)⟩ f) (againS ps who gs k (restK js (somes rk ps.length))) i = _
        rw [← ejs', I.wins]
        cases hr : rk i with
        | some q =>
          rw [if_neg (hPs hr).2, if_pos (hPs hr).1]
          show (if i ∈ somes rk ps.length then some (1 - who) else f i) = _
          rw [if_pos ((memP i).mpr ⟨q, hr⟩)]
          rfl
        | none =>
          by_cases hi : i ∈ js
          · rw [if_pos ((mem' i).mpr ⟨hi, hr⟩), if_pos hi]
            rfl
          · rw [if_neg fun z => hi ((mem' i).mp z).1, if_neg hi]
            show (if i ∈ somes rk ps.length then some (1 - who) else f i) = _
            rw [if_neg fun z => by obtain ⟨q, hq⟩ := (memP i).mp z; rw [hr] at hq; cases hq]
      · show mvsF (bothK m (bothK (mvK ps (1 - who) rk) (stayK ps (1 - who) aw))) (againS ps who gs k (restK js (somes rk ps.length))) i = _
        rw [← ejs', I.mvs (bothK m (bothK (mvK ps (1 - who) rk) (stayK ps (1 - who) aw))) i fun z => by
          obtain ⟨z1, z2⟩ := (mem' i).mp z
          show (m i).or _ = none
          rw [hm z1, Option.none_or, nom i z2]]
        cases hr : rk i with
        | some q =>
          rw [if_neg (hPs hr).2, if_pos (hPs hr).1]
          show (m i).or _ = _
          rw [hm (hPs hr).1, Option.none_or]
          rfl
        | none =>
          by_cases hi : i ∈ js
          · rw [if_pos ((mem' i).mpr ⟨hi, hr⟩), if_pos hi]
            rfl
          · rw [if_neg fun z => hi ((mem' i).mp z).1, if_neg hi]
            show (m i).or _ = _
            rw [nom i hr, Option.or_none]
      · cases hr : rk i with
        | some q => exact .inr rfl
        | none => exact I.two i ((mem' i).mpr ⟨hi, hr⟩)
      · cases hr : rk i with
        | some q =>
          have ho' : ownerOf ps i = 1 - who := ho.trans (atP hr)
          obtain ⟨g, g1, g2, _⟩ := own i q hr ho'
          exact ⟨g, g1, g2⟩
        | none => exact I.has i ((mem' i).mpr ⟨hi, hr⟩) (ho.trans (atR hr))
      · cases hr : rk i with
        | some q =>
          have ho' : ownerOf ps i ≠ 1 - who := fun z => ho (z.trans (atP hr).symm)
          show bothK _ _ i = none
          unfold bothK
          rw [mvK_none (.inl ho'), stayK_none (.inr ho')]
          rfl
        | none => exact I.non i ((mem' i).mpr ⟨hi, hr⟩) fun z => ho (z.trans (atR hr).symm)
      · cases hr : rk i with
        | some q =>
          rw [atP hr] at hgw
          obtain ⟨t, t1, _⟩ := goP i q g hr (wcongr (mtP hr) hgw)
          refine ⟨(hPs t1).1, ?_⟩
          rw [atP t1]
          rfl
        | none =>
          have hi' := (mem' i).mpr ⟨hi, hr⟩
          rw [atR hr] at hgw
          rcases goR i g hi' (wcongr (mtR hr) hgw) with ⟨z1, z2⟩ | ⟨z1, t, z2⟩
          · obtain ⟨y1, y2⟩ := (mem' g).mp z1
            refine ⟨y1, ?_⟩
            rw [atR y2]
            exact (I.stay i hi' g z2).2
          · refine ⟨(hPs z2).1, ?_⟩
            rw [atP z2]
            exact z1.symm
      · cases hr : rk i with
        | some q => rw [atP hr] at hwi; omega
        | none =>
          have hi' := (mem' i).mpr ⟨hi, hr⟩
          rw [atR hr] at hwi
          rcases goR i g hi' (by rw [hwi]; exact wcongr (mtR hr) hgw) with ⟨z1, z2⟩ | ⟨z1, _⟩
          · rw [hwi] at z2
            exact I.mine i hi' hwi hgs g z2
          · omega
      · cases hr : rk i with
        | some q => exact B.nneg i q hr
        | none =>
          have := I.nn i ((mem' i).mpr ⟨hi, hr⟩) ((atR hr).symm.trans hwi)
          show 0 ≤ ψ i + _
          omega
      · cases hr : rk i with
        | some q =>
          obtain ⟨t, t1, t2, t3⟩ := goP i q g hr (wcongr (mtP hr) hgw)
          show (match rk g with | some q => q | none => _) ≤ q ∧ (i ∈ gs → (match rk g with | some q => q | none => _) < q)
          rw [t1]
          exact ⟨t2, t3⟩
        | none =>
          have hi' := (mem' i).mpr ⟨hi, hr⟩
          rw [atR hr] at hwi
          show (match rk g with | some q => q | none => ψ g + (ps.length + 1)) ≤ ψ i + (ps.length + 1) ∧ (i ∈ gs → (match rk g with | some q => q | none => ψ g + (ps.length + 1)) < ψ i + (ps.length + 1))
          rcases goR i g hi' (by rw [hwi]; exact wcongr (mtR hr) hgw) with ⟨z1, z2⟩ | ⟨_, t, z2⟩
          · rw [hwi] at z2
            obtain ⟨y1, y2⟩ := I.oth i hi' hwi g z2
            rw [((mem' g).mp z1).2]
            exact ⟨by show ψ g + _ ≤ _; omega, fun z => by have := y2 z; show ψ g + _ < _; omega⟩
          · rw [z2]
            have h1 := hle g t z2
            have h2 := I.nn i hi' hwi
            exact ⟨by show t ≤ _; omega, fun _ => by show t < _; omega⟩
end G
set_option Elab.async false
set_option linter.all false
set_option maxRecDepth 100000
set_option maxHeartbeats 4000000
namespace G
open PySem PySem.Spec PyProof.Rows L2 D2
def pDt (ps : List P4) (i : Int) : PyData := (ps[i.toNat]?.map P4.d).getD .none
theorem gD_tab (ps : List P4) : ps.map P4.d = tab (pDt ps) ps.length := by
  refine List.ext_getElem (by rw [List.length_map, tab_len]) fun k h1 h2 => ?_
  rw [tab_len] at h2
  have e := tab_get (f := pDt ps) (n := ps.length) (i := (k : Int)) (by omega) (by omega)
  simp only [Int.toNat_natCast] at e
  rw [e, List.getElem_map]
  unfold pDt
  rw [List.getElem?_eq_getElem (by omega)]
  simp
theorem pDt_0 {ps : List P4} {i : Int} (h0 : 0 ≤ i) (h1 : i < ps.length) : dIx (pDt ps i) (.int 0) = .ok (.int (ownerOf ps i)) := by
  unfold pDt
  rw [List.getElem?_eq_getElem (show i.toNat < ps.length by omega), ownerOf_eq h0 h1]
  rfl
theorem zip3_tab (f g h : Int → PyData) : ∀ is : List Int, zip3D (is.map f) (is.map g) (is.map h) = is.map fun i => .tuple [f i, g i, h i]
  | [] => rfl
  | i :: is => by rw [List.map_cons, List.map_cons, List.map_cons, List.map_cons, ← zip3_tab f g h is]; rfl
theorem ne_bb (a b : Bool) : dNe (.bool a) (.bool b) = .ok (.bool (a != b)) := by
  unfold dNe
  rw [if_pos (by unfold eqOk; simp [PyData.canLay0, PyData.depth])]
  cases a <;> cases b <;> rfl
def toldBody : Fs := (sSeq (sIf (tOrR (tNotR (tE (e1 (dIsi .int) (eVar 3)))) (tOrR (tE (e1 (dIsi .bool) (eVar 3))) (tE (e2 (dIn true) (eVar 3) (eTup (aCons (eC (.int 0)) (aCons (eC (.int 1)) aNil))))))) (sRet (eC (.bool false))) sSkip) (sIf (tE (e2 (dNe) (e2 (dIsN) (eVar 4) (eC .none)) (e2 (dNe) (e2 dIx (eVar 2) (eC (.int 0))) (eVar 3)))) (sRet (eC (.bool false))) sSkip))
theorem toldTurns {a b : PyData} {ps : List P4} {win : Int → Int} {mv : Int → Option Int} (h01 : ∀ i : Int, 0 ≤ i → i < ps.length → win i = 0 ∨ win i = 1) (hn : ∀ i : Int, 0 ≤ i → i < ps.length → (mv i = none ↔ ownerOf ps i ≠ win i)) : ∀ (is : List Int) (c2 c3 c4 : Cell), (∀ x ∈ is, 0 ≤ x ∧ x < ps.length) →
    ∃ ρ, forR (bTri 2 3 4) toldBody (is.map fun i => .tuple [pDt ps i, .int (win i), oD (mv i)]) [.val a, .val b, c2, c3, c4] = .ok (.nx ρ)
  | [], c2, c3, c4, _ => ⟨_, by rw [List.map_nil, forR_nil]⟩
  | i :: is, c2, c3, c4, hb => by
    obtain ⟨h0, h1⟩ := hb i List.mem_cons_self
    obtain ⟨ρ, e⟩ := toldTurns (a := a) (b := b) h01 hn is (.val (pDt ps i)) (.val (.int (win i))) (.val (oD (mv i))) fun x hx => hb x (List.mem_cons_of_mem _ hx)
    refine ⟨ρ, ?_⟩
    rw [List.map_cons, forR_tri]
    rw [show ((([.val a, .val b, c2, c3, c4] : Rho).set 2 (.val (pDt ps i))).set 3 (.val (.int (win i)))).set 4 (.val (oD (mv i))) = [.val a, .val b, .val (pDt ps i), .val (.int (win i)), .val (oD (mv i))] from rfl]
    have hb1 : toldBody [.val a, .val b, .val (pDt ps i), .val (.int (win i)), .val (oD (mv i))] = .ok (.nx [.val a, .val b, .val (pDt ps i), .val (.int (win i)), .val (oD (mv i))]) := by
      have hin := in_t [0, 1] (win i) true
      have hm : memB [0, 1] (win i) = true := memB_iff.mpr (by rcases h01 i h0 h1 with z | z <;> simp [z])
      rw [hm] at hin
      simp only [List.map_cons, List.map_nil] at hin
      unfold toldBody
      rw [seq_nx (ρ' := [.val a, .val b, .val (pDt ps i), .val (.int (win i)), .val (oD (mv i))]) (by
        simp only [sIf_eq, tOrR_eq, tNotR_eq, tE_eq, e1_eq, e2_eq, eTup_eq, aCons_eq, aNil_eq, eVar_s, eVar_0, eC_eq, R.ok_bind, show dIsi .int (.int (win i)) = .ok (.bool true) from rfl, show dIsi .bool (.int (win i)) = .ok (.bool false) from rfl, asB_b]
        rw [if_neg (by simp), if_neg (by simp), if_pos (by show 2 ≤ _; decide), R.ok_bind, hin]
        rfl)]
      simp only [sIf_eq, tE_eq, e2_eq, eVar_s, eVar_0, eC_eq, R.ok_bind, isN_oD, pDt_0 h0 h1, dNe_i, ne_bb, asB_b]
      have : ((mv i).isNone != !decide (ownerOf ps i = win i)) = false := by
        have := hn i h0 h1
        cases hm : mv i with
        | none =>
          rw [hm] at this
          have := this.mp rfl
          simp [this]
        | some g =>
          rw [hm] at this
          have : ownerOf ps i = win i := by
            by_cases z : ownerOf ps i = win i
            · exact z
            · cases this.mpr z
          simp [this]
      rw [this]
      rfl
    rw [hb1, R.ok_bind, turnO_nx, e]
theorem told_eq {ps : List P4} {win : Int → Int} {mv : Int → Option Int} (h01 : ∀ i : Int, 0 ≤ i → i < ps.length → win i = 0 ∨ win i = 1) (hn : ∀ i : Int, 0 ≤ i → i < ps.length → (mv i = none ↔ ownerOf ps i ≠ win i)) (hg : ∀ i g, mv i = some g → g ∈ goalsOf ps i) {f : PyData} (hf : f = .tuple [oT (fun i => some (win i)) ps.length, oT mv ps.length]) :
    F_law_told_well [f, gD ps] = .ok (.bool true) := by
  have hmg := moves_good_eq (d := oT mv ps.length) (oT_good _ _) (ps := ps)
  rw [movesB_oT hg] at hmg
  obtain ⟨ρ, e⟩ := toldTurns (a := f) (b := gD ps) h01 hn (ids ps.length) .non .non .non fun x hx => mem_ids.mp hx
  have hf0 : dIx f (.int 0) = .ok (oT (fun i => some (win i)) ps.length) := by rw [hf]; rfl
  have hf1 : dIx f (.int 1) = .ok (oT mv ps.length) := by rw [hf]; rfl
  have hfl : dLen f = .ok (.int 2) := by rw [hf]; rfl
  have hfi : dIsi .tuple f = .ok (.bool true) := by rw [hf]; rfl
  have hlen : dLen (gD ps) = .ok (.int ps.length) := by simp
  have hz : zip3D (ps.map P4.d) (tab (fun i => oD (some (win i))) ps.length) (tab (fun i => oD (mv i)) ps.length) = (ids ps.length).map fun i => .tuple [pDt ps i, .int (win i), oD (mv i)] := by
    rw [gD_tab]
    exact zip3_tab _ _ _ _
  unfold F_law_told_well M_law_told_well
  refine fn_rt ?_
  rw [show ([f, gD ps].map Cell.val ++ List.replicate (5 - [f, gD ps].length) Cell.non) = [.val f, .val (gD ps), .non, .non, .non] from rfl]
  rw [seq_nx (ρ' := [.val f, .val (gD ps), .non, .non, .non]) (by
    simp only [sIf_eq, tOrR_eq, tNotR_eq, tE_eq, e1_eq, e2_eq, eVar_s, eVar_0, eC_eq, R.ok_bind, hfi, hfl, hf0, asB_b, dNe_i, show dIsi .tuple (oT (fun i => some (win i)) ps.length) = .ok (.bool true) from rfl]
    rfl)]
  rw [seq_nx (ρ' := [.val f, .val (gD ps), .non, .non, .non]) (by
    simp only [sIf_eq, tOrR_eq, tNotR_eq, tE_eq, e1_eq, e2_eq, eCall_eq, aCons_eq, aNil_eq, eVar_s, eVar_0, eC_eq, R.ok_bind, hf0, hf1, hlen, hmg, dLen_t, tab_len, asB_b, dNe_i, decide_true]
    rfl)]
  rw [seq_nx (ρ' := ρ) (by
    rw [sNox_eq, sFor_eq, iZip3_eq]
    simp only [e2_eq, eVar_s, eVar_0, eC_eq, R.ok_bind, hf0, hf1, tupD_t, hz]
    unfold toldBody at e
    rw [e]
    rfl)]
  rfl
theorem pair_same {f g : Int → Option Int} {n : Nat} : dNe (.tuple [oT f n, oT g n]) (.tuple [oT f n, oT g n]) = .ok (.bool false) := by
  refine dNe_same (good_tuple.mpr fun x hx => ?_) ?_
  · simp at hx
    rcases hx with rfl | rfl
    · exact oT_good _ _
    · exact oT_good _ _
  · simp [PyData.depth, PyData.depthAll, (flat_tab _ _).dep]
end G
set_option Elab.async false
set_option linter.all false
set_option maxRecDepth 100000
set_option maxHeartbeats 4000000
namespace G
open PySem PySem.Spec PyProof.Rows L2 D2
theorem ways_wy {ps : List P4} (G : Gr ps) {w : Int} {mv : Int → Option Int} {i g : Int} (h0 : 0 ≤ i) (h1 : i < ps.length) : g ∈ waysM ps w (mvL mv ps.length) i ↔ Wy ps (ids ps.length) w mv i g := by
  rw [waysM_mvL h0 h1]
  unfold Wy
  by_cases ho : ownerOf ps i = w
  · rw [if_pos ho]
    simp [ho, Option.mem_toList]
  · rw [if_neg ho]
    constructor
    · exact fun h => .inr ⟨ho, ways_mk h (mem_ids.mpr (G.goals h))⟩
    · rintro (⟨z, _⟩ | ⟨_, z⟩)
      · exact (ho z).elim
      · exact ways_goal z
theorem keep_all {ps : List P4} (G : Gr ps) {w : Int} {mv : Int → Option Int} {qs : List Int} (hq : ∀ x ∈ qs, 0 ≤ x ∧ x < ps.length) (hs : ∀ i ∈ qs, ∀ g, Wy ps (ids ps.length) w mv i g → g ∈ qs) (hx : ∀ i ∈ qs, ownerOf ps i = w → ∃ g, mv i = some g) : qs.all (keepB ps w (mvL mv ps.length) qs) = true := by
  rw [List.all_eq_true]
  intro i hi
  obtain ⟨h0, h1⟩ := hq i hi
  unfold keepB
  rw [Bool.and_eq_true]
  constructor
  · rw [Bool.not_eq_true', decide_eq_false_iff_not]
    intro z
    by_cases ho : ownerOf ps i = w
    · obtain ⟨g, hg⟩ := hx i hi ho
      have := (ways_wy G h0 h1).mpr (show Wy ps (ids ps.length) w mv i g from .inl ⟨ho, hg⟩)
      rw [z] at this
      cases this
    · obtain ⟨g, hg⟩ := G.gne h0 h1
      have := (ways_wy G h0 h1).mpr (show Wy ps (ids ps.length) w mv i g from .inr ⟨ho, ways_mk hg (mem_ids.mpr (G.goals hg))⟩)
      rw [z] at this
      cases this
  · rw [decide_eq_true_iff, List.filter_eq_nil_iff]
    intro g hg
    rw [memB_iff.mpr (hs i hi g ((ways_wy G h0 h1).mp hg))]
    simp
theorem rch_al {W : Int → List Int} {al : List Int} {s x : Int} (h : Rch W al s x) : x ∈ al := by cases h <;> assumption
theorem rch_less {W : Int → List Int} {al : List Int} {s x : Int} {φ : Int → Int} (h1 : ∀ y ∈ W s, y ∈ al → φ y < φ s) (h2 : ∀ x ∈ al, ∀ y ∈ W x, y ∈ al → φ y ≤ φ x) (h : Rch W al s x) : φ x < φ s := by
  induction h with
  | one a b => exact h1 _ a b
  | more r a b ih =>
    have := h2 _ (rch_al r) _ a b
    omega
end G
set_option Elab.async false
set_option linter.all false
set_option maxRecDepth 100000
set_option maxHeartbeats 4000000
namespace G
open PySem PySem.Spec PyProof.Rows L2 D2
abbrev xPart : Str := PySem.Str.ofString "NoPart"
theorem again_bad {ps : List P4} {c : Addr} {who : Int} {d : PyData} (hg : Good d) (h : someB ps.length d = false) : F_again c [gD ps, .int who, d] = .ex xPart := by
  have hlen : dLen (gD ps) = .ok (.int ps.length) := by simp
  have sb : F_are_some [d, .int ps.length] = .ok (.bool (someB ps.length d)) := are_some_eq _ (fun ds e x hx => by subst e; exact (good_tuple.mp hg x hx).noD) hg.noD
  rw [h] at sb
  unfold F_again M_again
  rw [fnR_eq, show ([gD ps, .int who, d].map Cell.val ++ List.replicate (6 - [gD ps, .int who, d].length) Cell.non) = [.val (gD ps), .val (.int who), .val d, .non, .non, .non] from rfl]
  rw [sSeq_eq, sIf_eq]
  simp only [tNotR_eq, tE_eq, eCall_eq, aCons_eq, aNil_eq, e1_eq, eVar_0, eVar_s, R.ok_bind, hlen, sb, asB_b]
  rfl
theorem refused_eq {ps : List P4} {c : Addr} {who : Int} {d : PyData} (hg : Good d) (h : someB ps.length d = false) : F_law_refused c [gD ps, .int who, d] = .ok (.bool true) := by
  have h1 := again_bad (c := c) (who := who) hg h
  unfold F_law_refused M_law_refused
  refine fn_rt ?_
  rw [show ([gD ps, .int who, d].map Cell.val ++ List.replicate (4 - [gD ps, .int who, d].length) Cell.non) = [.val (gD ps), .val (.int who), .val d, .non] from rfl]
  refine seq_rt ?_
  have hx : ∀ p, (fun p (ρ : Rho) => (eIsx 3 p) (ρ.set 3 (.exc p))) p ([.val (gD ps), .val (.int who), .val d, .non] : Rho) = .ok (.bool true) := fun p => by
    show eIsx 3 p _ = _
    unfold eIsx
    simp
  unfold sTryE
  simp only [aCons_eq, aNil_eq, eVar_0, eVar_s, R.ok_bind, noX_ok, h1, tryR, List.lookup_cons, beq_self_eq_true]
  rw [show (fun p => eIsx 3 p (([.val (gD ps), .val (.int who), .val d, .non] : Rho).set 3 (.exc p))) = fun _ => R.ok (PyData.bool true) from funext hx, pick_const]
  rfl
theorem dMul_rep {xs : List PyData} {k : Int} (h : xs ≠ [] ∧ 2 ≤ k ∧ k < 2 ^ 63 ∧ xs.length * k.toNat ≤ sizeLine) : dMul (.tuple xs) (.int k) = .ok (.tuple (List.replicate k.toNat xs).flatten) := by
  have : dMul (.tuple xs) (.int k) = if xs ≠ [] ∧ 2 ≤ k ∧ k < 2 ^ 63 ∧ xs.length * k.toNat ≤ sizeLine then .ok (.tuple (List.replicate k.toNat xs).flatten) else .no := by simp only [dMul]
  rw [this, if_pos h]
theorem rise_00 (c : Int) : ∀ (xs : List Int) (l : Int), 0 ≤ l → rise c l (xs.map .int ++ [.int 0, .int 0]) = false
  | [], l, _ => by simp [rise]
  | x :: xs, l, hl => by
    show ((decide (l ≤ x) && decide (x < c)) && rise c (x + 1) (xs.map .int ++ [.int 0, .int 0])) = false
    by_cases h : l ≤ x
    · rw [rise_00 c xs (x + 1) (by omega), Bool.and_false]
    · rw [decide_eq_false h]; rfl
def aBody : Fs := (sIf (tE (e2 (dIn false) (eVar 9) (eCall F_law_reached (aCons (eVar 1) (aCons (eVar 3) (aCons (e2 dIx (eVar 5) (eC (.int 1))) (aCons (eVar 9) (aCons (eVar 8) aNil)))))))) (sRet (eC (.bool false))) sSkip)
def bBody : Fs := (sSeq (sSet 10 (eCall F_law_reached (aCons (eVar 1) (aCons (e2 dSub (eC (.int 1)) (eVar 3)) (aCons (e2 dIx (eVar 5) (eC (.int 1))) (aCons (eVar 9) (aCons (eVar 7) aNil))))))) (sIf (tAndR (tE (e2 (dIn false) (eVar 9) (eVar 2))) (tE (e2 (dIn false) (eVar 9) (eVar 10)))) (sRet (eC (.bool false))) sSkip))
abbrev zR (a : PyData) (ps : List P4) (gs : List Int) (who : Int) (c4 : Cell) (f : PyData) (mi ot fr : List Int) (c9 c10 : Cell) : Rho :=
  [.val a, .val (gD ps), .val (.tuple (gs.map .int)), .val (.int who), c4, .val f, .val (.list (mi.map .int)), .val (.list (ot.map .int)), .val (.list (fr.map .int)), c9, c10]
section
variable {a : PyData} {ps : List P4} (G : Gr ps) {gs : List Int} {who : Int} {c4 : Cell} {f : PyData} {mv : Int → Option Int} (hf1 : dIx f (.int 1) = .ok (oT mv ps.length)) {mi ot fr : List Int}
include G hf1
theorem aTurns (hfr : Part ps.length fr) {φ : Int → Int} (hd : ∀ i ∈ fr, ∀ g, Wy ps (ids ps.length) who mv i g → φ g < φ i) : ∀ (is : List Int) (c9 : Cell), (∀ x ∈ is, x ∈ fr) →
    ∃ c9', forR (bName 9) aBody (is.map .int) (zR a ps gs who c4 f mi ot fr c9 .non) = .ok (.nx (zR a ps gs who c4 f mi ot fr c9' .non))
  | [], c9, _ => ⟨c9, by rw [List.map_nil, forR_nil]⟩
  | i :: is, c9, hb => by
    have hi := hb i List.mem_cons_self
    obtain ⟨h0, h1⟩ := hfr.inn i hi
    have hp := G.hp
    obtain ⟨rs, e1, e2⟩ := reached_eq G.hl (who := who) (mv := mvL mv ps.length) (mvL_len _ _) h0 h1 (al := fr) hfr.inn (by have := hfr.len; omega)
    rw [← oT_mD] at e1
    have hm : memB rs i = false := by
      cases h : memB rs i with
      | false => rfl
      | true =>
        have hr := (e2 i).mp (memB_iff.mp h)
        have := rch_less (φ := φ) (fun y hy hy' => hd i hi y ((ways_wy G h0 h1).mp hy)) (fun x hx y hy _ => by
          obtain ⟨x0, x1⟩ := hfr.inn x hx
          have := hd x hx y ((ways_wy G x0 x1).mp hy)
          omega) hr
        omega
    obtain ⟨c9', e⟩ := aTurns hfr hd is (.val (.int i)) fun x hx => hb x (List.mem_cons_of_mem _ hx)
    refine ⟨c9', ?_⟩
    rw [List.map_cons, forR_cons]
    rw [show ((zR a ps gs who c4 f mi ot fr c9 .non).set 9 (.val (.int i))) = zR a ps gs who c4 f mi ot fr (.val (.int i)) .non from rfl]
    have hb1 : aBody (zR a ps gs who c4 f mi ot fr (.val (.int i)) .non) = .ok (.nx (zR a ps gs who c4 f mi ot fr (.val (.int i)) .non)) := by
      unfold aBody
      simp only [sIf_eq, tE_eq, e2_eq, eCall_eq, aCons_eq, aNil_eq, eVar_s, eVar_0, eC_eq, R.ok_bind, hf1, e1, in_l, hm, asB_b]
      rfl
    rw [hb1, R.ok_bind, turnO_nx, e]
theorem bTurns (hot : Part ps.length ot) {ψ : Int → Int} (hd : ∀ i ∈ ot, ∀ g, Wy ps (ids ps.length) (1 - who) mv i g → ψ g ≤ ψ i ∧ (i ∈ gs → ψ g < ψ i)) : ∀ (is : List Int) (c9 c10 : Cell), (∀ x ∈ is, x ∈ ot) →
    ∃ c9' c10', forR (bName 9) bBody (is.map .int) (zR a ps gs who c4 f mi ot fr c9 c10) = .ok (.nx (zR a ps gs who c4 f mi ot fr c9' c10'))
  | [], c9, c10, _ => ⟨c9, c10, by rw [List.map_nil, forR_nil]⟩
  | i :: is, c9, c10, hb => by
    have hi := hb i List.mem_cons_self
    obtain ⟨h0, h1⟩ := hot.inn i hi
    have hp := G.hp
    obtain ⟨rs, e1, e2⟩ := reached_eq G.hl (who := 1 - who) (mv := mvL mv ps.length) (mvL_len _ _) h0 h1 (al := ot) hot.inn (by have := hot.len; omega)
    rw [← oT_mD] at e1
    have hm : i ∈ gs → memB rs i = false := fun hgi => by
      cases h : memB rs i with
      | false => rfl
      | true =>
        have hr := (e2 i).mp (memB_iff.mp h)
        have := rch_less (φ := ψ) (fun y hy hy' => (hd i hi y ((ways_wy G h0 h1).mp hy)).2 hgi) (fun x hx y hy _ => by
          obtain ⟨x0, x1⟩ := hot.inn x hx
          exact (hd x hx y ((ways_wy G x0 x1).mp hy)).1) hr
        omega
    obtain ⟨c9', c10', e⟩ := bTurns hot hd is (.val (.int i)) (.val (.list (rs.map .int))) fun x hx => hb x (List.mem_cons_of_mem _ hx)
    refine ⟨c9', c10', ?_⟩
    rw [List.map_cons, forR_cons]
    rw [show ((zR a ps gs who c4 f mi ot fr c9 c10).set 9 (.val (.int i))) = zR a ps gs who c4 f mi ot fr (.val (.int i)) c10 from rfl]
    have hb1 : bBody (zR a ps gs who c4 f mi ot fr (.val (.int i)) c10) = .ok (.nx (zR a ps gs who c4 f mi ot fr (.val (.int i)) (.val (.list (rs.map .int))))) := by
      unfold bBody
      rw [seq_nx (ρ' := zR a ps gs who c4 f mi ot fr (.val (.int i)) (.val (.list (rs.map .int)))) (by
        simp only [sSet_eq, eCall_eq, aCons_eq, aNil_eq, e2_eq, eVar_s, eVar_0, eC_eq, R.ok_bind, dSub_i, hf1, e1]
        rfl)]
      simp only [sIf_eq, tAndR_eq, tE_eq, e2_eq, eVar_s, eVar_0, R.ok_bind, in_t, in_l, asB_b]
      cases hg : memB gs i with
      | false => rfl
      | true => rw [hm (memB_iff.mp hg)]; rfl
    rw [hb1, R.ok_bind, turnO_nx, e]
end
theorem law_true (c : Addr) : lawOk (F_law c) := by
  intro ns hns
  obtain ⟨ps, hi, hgr, hpl, hp1, hp24, hi0, hi12⟩ := lground_mk ns (most := 24) (by omega) (by omega)
  have G : Gr ps := gr_of hpl hp24
  have hp := G.hp
  obtain ⟨v1, hv1, v10, v11⟩ := mixed_eq ns (k := 1) (by omega)
  obtain ⟨v2, hv2, v20, v21⟩ := mixed_eq ns (k := 2) (by omega)
  obtain ⟨gs, hs2, s2lt, s2in⟩ := some_eq (n := v2) (c := ps.length) (by omega) (by omega)
  have hg : Part ps.length gs := ⟨s2lt, s2in⟩
  have hlen : dLen (gD ps) = .ok (.int ps.length) := by simp
  have hw := whole_ids G
  obtain ⟨who, hwho⟩ : ∃ who, who = v2 / 5 % 2 := ⟨_, rfl⟩
  have hw01 : who = 0 ∨ who = 1 := by omega
  have ho01 : ∀ i : Int, i ∈ ids ps.length → ownerOf ps i = 0 ∨ ownerOf ps i = 1 := fun i hi' => by
    obtain ⟨h0, h1⟩ := mem_ids.mp hi'
    have P := hpl _ (List.getElem_mem (show i.toNat < ps.length by omega))
    rw [ownerOf_eq h0 h1]
    have := P.w0
    have := P.w1
    omega
  have hag := again_eq G hg hw (who := who) (c := c)
  obtain ⟨win, mv, φ, ψ, A⟩ := again_ok hw01 hg ps.length (ids ps.length) (Part.ids _) hw (by rw [ids_len]; exact Nat.le_refl _) ho01
  have eq1 : oT (winsF (fun _ => none) (againS ps who gs ps.length (ids ps.length))) ps.length = oT (fun i => some (win i)) ps.length := by
    exact congrArg PyData.tuple (tab_congr fun i h0 h1 => by rw [A.wins, if_pos (mem_ids.mpr ⟨h0, h1⟩)])
  obtain ⟨mv', emv'⟩ : ∃ mv' : Int → Option Int, mv' = fun i => if i ∈ ids ps.length then mv i else none := ⟨_, rfl⟩
  have eq2 : oT (mvsF (fun _ => none) (againS ps who gs ps.length (ids ps.length))) ps.length = oT mv' ps.length := by
    exact congrArg PyData.tuple (tab_congr fun i h0 h1 => by rw [A.mvs _ i fun _ => rfl, emv'])
  rw [eq1, eq2] at hag
  have hmv : ∀ i ∈ ids ps.length, mv' i = mv i := fun i hi' => by rw [emv']; exact if_pos hi'
  have wy : ∀ {w i g}, i ∈ ids ps.length → Wy ps (ids ps.length) w mv' i g → Wy ps (ids ps.length) w mv i g := fun hi' h => by
    rcases h with ⟨a, b⟩ | h
    · exact .inl ⟨a, by rw [← hmv _ hi']; exact b⟩
    · exact .inr h
  have w01 : ∀ i : Int, 0 ≤ i → i < ps.length → win i = 0 ∨ win i = 1 := fun i h0 h1 => by
    have := A.two i (mem_ids.mpr ⟨h0, h1⟩)
    omega
  obtain ⟨f, hf⟩ : ∃ f, f = PyData.tuple [oT (fun i => some (win i)) ps.length, oT mv' ps.length] := ⟨_, rfl⟩
  have htold := told_eq (ps := ps) (win := win) (mv := mv') w01 (fun i h0 h1 => by
    have hi' := mem_ids.mpr ⟨h0, h1⟩
    rw [hmv i hi']
    constructor
    · intro z ho
      obtain ⟨g, hg', _⟩ := A.has i hi' ho
      rw [z] at hg'
      cases hg'
    · exact A.non i hi') (fun i g h => by
    rw [emv'] at h
    dsimp only at h
    split at h
    · rename_i hi'
      by_cases ho : ownerOf ps i = win i
      · obtain ⟨g', h1, h2⟩ := A.has i hi' ho
        rw [h1] at h
        cases h
        exact h2
      · rw [A.non i hi' ho] at h
        cases h
    · cases h) hf
  have hsame : dNe f f = .ok (.bool false) := by rw [hf]; exact pair_same
  rw [← hf] at hag
  have hf0 : dIx f (.int 0) = .ok (oT (fun i => some (win i)) ps.length) := by rw [hf]; rfl
  have hf1 : dIx f (.int 1) = .ok (oT mv' ps.length) := by rw [hf]; rfl
  have hr1 : rngD [.int (ps.length : Int)] = .ok (rangeI 0 ps.length) := by rw [rngD1 (by omega) (by omega), Int.toNat_natCast]
  have hrm : rangeI 0 ps.length = (ids ps.length).map .int := rangeI_map _
  -- mine, the other one's
  have hmi := ints_filter (t := tE (e2 (dEq) (e2 dIx (e2 dIx (eVar 1) (eC (.int 0))) (eVar 0)) (eVar 2))) (ρ := [.val f, .val (.int who)]) (p := fun i => decide (win i = who)) (ids ps.length) fun i hi' => by
    obtain ⟨h0, h1⟩ := mem_ids.mp hi'
    simp only [List.set_cons_zero, tE_eq, e2_eq, eVar_0, eVar_s, eC_eq, R.ok_bind, hf0, tab_t h0 h1, oD, dEq_i, asB_b]
  have hot := ints_filter (t := tE (e2 (dNe) (e2 dIx (e2 dIx (eVar 1) (eC (.int 0))) (eVar 0)) (eVar 2))) (ρ := [.val f, .val (.int who)]) (p := fun i => !decide (win i = who)) (ids ps.length) fun i hi' => by
    obtain ⟨h0, h1⟩ := mem_ids.mp hi'
    simp only [List.set_cons_zero, tE_eq, e2_eq, eVar_0, eVar_s, eC_eq, R.ok_bind, hf0, tab_t h0 h1, oD, dNe_i, asB_b]
  obtain ⟨mi, emi⟩ : ∃ mi, mi = (ids ps.length).filter fun i => decide (win i = who) := ⟨_, rfl⟩
  obtain ⟨ot, eot⟩ : ∃ ot, ot = (ids ps.length).filter fun i => !decide (win i = who) := ⟨_, rfl⟩
  rw [← emi] at hmi
  rw [← eot] at hot
  have mmi : ∀ i, i ∈ mi ↔ i ∈ ids ps.length ∧ win i = who := fun i => by rw [emi, List.mem_filter, decide_eq_true_iff]
  have mot : ∀ i, i ∈ ot ↔ i ∈ ids ps.length ∧ win i ≠ who := fun i => by rw [eot, List.mem_filter, Bool.not_eq_true', decide_eq_false_iff_not]
  have pmi : Part ps.length mi := by rw [emi]; exact (Part.ids _).filter _
  have pot : Part ps.length ot := by rw [eot]; exact (Part.ids _).filter _
  have wot : ∀ i ∈ ot, i ∈ ids ps.length ∧ win i = 1 - who := fun i hi' => by
    obtain ⟨a, b⟩ := (mot i).mp hi'
    exact ⟨a, (A.two i a).resolve_left b⟩
  have hin1 := inside_eq G.hl (mv := mvL mv' ps.length) (who := who) (mvL_len _ _) (qs := mi) pmi.inn
  rw [keep_all G pmi.inn (fun i hi' g hg' => by
    obtain ⟨a, b⟩ := (mmi i).mp hi'
    obtain ⟨s1, s2⟩ := A.stay i a g (by rw [b]; exact wy a hg')
    exact (mmi g).mpr ⟨s1, s2.trans b⟩) (fun i hi' ho => by
    obtain ⟨a, b⟩ := (mmi i).mp hi'
    obtain ⟨g, g1, _⟩ := A.has i a (ho.trans b.symm)
    exact ⟨g, by rw [hmv i a]; exact g1⟩), ← oT_mD] at hin1
  have hin2 := inside_eq G.hl (mv := mvL mv' ps.length) (who := 1 - who) (mvL_len _ _) (qs := ot) pot.inn
  rw [keep_all G pot.inn (fun i hi' g hg' => by
    obtain ⟨a, b⟩ := wot i hi'
    obtain ⟨s1, s2⟩ := A.stay i a g (by rw [b]; exact wy a hg')
    exact (mot g).mpr ⟨s1, by rw [s2, b]; omega⟩) (fun i hi' ho => by
    obtain ⟨a, b⟩ := wot i hi'
    obtain ⟨g, g1, _⟩ := A.has i a (ho.trans b.symm)
    exact ⟨g, by rw [hmv i a]; exact g1⟩), ← oT_mD] at hin2
  have hfr := ints_filter (t := tE (e2 (dIn true) (eVar 0) (eVar 1))) (ρ := [.val (.tuple (gs.map .int))]) (p := fun i => !memB gs i) mi fun k _ => by simp [in_t]
  obtain ⟨fr, efr⟩ : ∃ fr, fr = restK mi gs := ⟨_, rfl⟩
  have pfr : Part ps.length fr := by rw [efr]; exact pmi.filter _
  rw [show (mi.filter fun i => !memB gs i) = fr from efr.symm] at hfr
  have mfr : ∀ i, i ∈ fr ↔ i ∈ mi ∧ i ∉ gs := fun i => by rw [efr]; exact mem_restK
  have da : ∀ i ∈ fr, ∀ g, Wy ps (ids ps.length) who mv' i g → φ g < φ i := fun i hi' g hg' => by
    obtain ⟨a, b⟩ := (mfr i).mp hi'
    obtain ⟨a1, a2⟩ := (mmi i).mp a
    exact A.mine i a1 a2 b g (wy a1 hg')
  have db : ∀ i ∈ ot, ∀ g, Wy ps (ids ps.length) (1 - who) mv' i g → ψ g ≤ ψ i ∧ (i ∈ gs → ψ g < ψ i) := fun i hi' g hg' => by
    obtain ⟨a, b⟩ := wot i hi'
    exact A.oth i a b g (wy a hg')
  have hmil := pmi.len
  have hotl := pot.len
  -- the odd goals
  obtain ⟨c4, hodd⟩ : ∃ c4, (sIf (tE (e2 (dEq) (e2 dMod (eCall F_law_mixed (aCons (eVar 0) (aCons (eC (.int 1)) aNil))) (eC (.int 6))) (eC (.int 1)))) (sSeq (sSet 4 (e2 dIx (eLst (aCons (eTup (aCons (e1 dLen (eVar 1)) aNil)) (aCons (e2 dAdd (eVar 2) (e2 dMul (eTup (aCons (eC (.int 0)) aNil)) (eC (.int 2)))) (aCons (eLst (aCons (eC (.int 0)) aNil)) (aCons (eTup (aCons (e1 dNeg (eC (.int 1))) aNil)) (aCons (eTup (aCons (eC (.bool true)) aNil)) (aCons (eC .none) (aCons (eTup (aCons (eC (.int 0)) (aCons (eC (.int 0)) aNil))) aNil)))))))) (e2 dMod (e2 dDiv (eCall F_law_mixed (aCons (eVar 0) (aCons (eC (.int 1)) aNil))) (eC (.int 6))) (eC (.int 7))))) (sIf (tNotR (tE (eCall (F_law_refused c) (aCons (eVar 1) (aCons (eVar 3) (aCons (eVar 4) aNil)))))) (sRet (eC (.bool false))) sSkip)) sSkip)
      [.val (scr ns), .val (gD ps), .val (.tuple (gs.map .int)), .val (.int who), .non, .non, .non, .non, .non, .non, .non] = .ok (.nx [.val (scr ns), .val (gD ps), .val (.tuple (gs.map .int)), .val (.int who), c4, .non, .non, .non, .non, .non, .non]) := by
    have ht : (tE (e2 (dEq) (e2 dMod (eCall F_law_mixed (aCons (eVar 0) (aCons (eC (.int 1)) aNil))) (eC (.int 6))) (eC (.int 1)))) [.val (scr ns), .val (gD ps), .val (.tuple (gs.map .int)), .val (.int who), .non, .non, .non, .non, .non, .non, .non] = .ok (decide (v1 % 6 = 1)) := by
      simp only [tE_eq, e2_eq, eCall_eq, aCons_eq, aNil_eq, eVar_0, eC_eq, R.ok_bind, hv1, dMod_i]
      rw [if_pos (by decide), R.ok_bind, dEq_i, R.ok_bind, asB_b]
    by_cases h6 : v1 % 6 = 1
    · obtain ⟨L, hL⟩ : ∃ L : List PyData, L = [.tuple [.int ps.length], .tuple (gs.map .int ++ [.int 0, .int 0]), .list [.int 0], .tuple [.int (-1)], .tuple [.bool true], .none, .tuple [.int 0, .int 0]] := ⟨_, rfl⟩
      have a0 : 0 ≤ v1 / 6 % 7 := by omega
      have a1 : v1 / 6 % 7 < L.length := by rw [hL]; show v1 / 6 % 7 < 7; omega
      have hmem : L[(v1 / 6 % 7).toNat]'(by omega) ∈ L := List.getElem_mem _
      obtain ⟨d, ed⟩ : ∃ d, d = L[(v1 / 6 % 7).toNat]'(by omega) := ⟨_, rfl⟩
      have hdx : dIx (.list L) (.int (v1 / 6 % 7)) = .ok d := by rw [dIx_l a0 a1, ed]
      rw [← ed] at hmem
      have hbad : Good d ∧ someB ps.length d = false := by
        rw [hL] at hmem
        simp only [List.mem_cons, List.not_mem_nil, or_false] at hmem
        rcases hmem with rfl | rfl | rfl | rfl | rfl | rfl | rfl
        · exact ⟨tI_good [(ps.length : Int)], by simp [rise]⟩
        · refine ⟨?_, rise_00 _ gs 0 (by omega)⟩
          have := tI_good (gs ++ [0, 0])
          rwa [List.map_append] at this
        · exact ⟨good_list.mpr fun x hx => by simp at hx; subst hx; exact good_int _, rfl⟩
        · exact ⟨tI_good [-1], by simp [rise]⟩
        · exact ⟨good_tuple.mpr fun x hx => by simp at hx; subst hx; exact good_bool _, by simp [rise]⟩
        · exact ⟨good_none, rfl⟩
        · exact ⟨tI_good [0, 0], by simp [rise]⟩
      have href := refused_eq (c := c) (who := who) hbad.1 hbad.2
      refine ⟨.val d, ?_⟩
      rw [sIf_eq, ht, R.ok_bind, if_pos (decide_eq_true h6)]
      have hlst : (eLst (aCons (eTup (aCons (e1 dLen (eVar 1)) aNil)) (aCons (e2 dAdd (eVar 2) (e2 dMul (eTup (aCons (eC (.int 0)) aNil)) (eC (.int 2)))) (aCons (eLst (aCons (eC (.int 0)) aNil)) (aCons (eTup (aCons (e1 dNeg (eC (.int 1))) aNil)) (aCons (eTup (aCons (eC (.bool true)) aNil)) (aCons (eC .none) (aCons (eTup (aCons (eC (.int 0)) (aCons (eC (.int 0)) aNil))) aNil)))))))) [.val (scr ns), .val (gD ps), .val (.tuple (gs.map .int)), .val (.int who), .non, .non, .non, .non, .non, .non, .non] = .ok (.list L) := by
        have s7 : (7 : Nat) ≤ sizeLine := by decide
        have s2 : (2 : Nat) ≤ sizeLine := by decide
        have s1 : (1 : Nat) ≤ sizeLine := by decide
        have hm : dMul (.tuple [.int 0]) (.int 2) = .ok (.tuple [.int 0, .int 0]) := by
          exact dMul_rep ⟨by simp, by decide, by decide, s2⟩
        have hgl := hg.len
        simp only [eLst_eq, eTup_eq, aCons_eq, aNil_eq, e1_eq, e2_eq, eVar_0, eVar_s, eC_eq, R.ok_bind, hlen, List.length_cons, List.length_nil, Nat.zero_add, s1, if_true, hm, dAdd_t, dNeg_i]
        rw [if_pos (by rw [List.length_map]; exact small25 (by omega)), R.ok_bind]
        simp only [R.ok_bind, Nat.reduceAdd, s2, if_true]
        rw [← hL, if_pos (by rw [hL]; exact s7)]
      rw [seq_nx (ρ' := [.val (scr ns), .val (gD ps), .val (.tuple (gs.map .int)), .val (.int who), .val d, .non, .non, .non, .non, .non, .non]) (by
        rw [sSet_eq, e2_eq, hlst, R.ok_bind]
        simp only [e2_eq, eCall_eq, aCons_eq, aNil_eq, eVar_0, eC_eq, R.ok_bind, hv1, dDiv_i]
        rw [if_pos (by decide), R.ok_bind, dMod_i, if_pos (by decide), R.ok_bind, hdx]
        rfl)]
      simp only [sIf_eq, tNotR_eq, tE_eq, eCall_eq, aCons_eq, aNil_eq, eVar_0, eVar_s, R.ok_bind, href, asB_b]
      rfl
    · exact ⟨.non, by rw [sIf_eq, ht, R.ok_bind, if_neg (by rw [decide_eq_true_iff]; exact h6)]; rfl⟩
  obtain ⟨c9, hloopA⟩ := aTurns (a := scr ns) (gs := gs) (who := who) (c4 := c4) (f := f) (mi := mi) (ot := ot) G hf1 pfr da fr .non fun x hx => hx
  obtain ⟨d9, d10, hloopB⟩ := bTurns (a := scr ns) (gs := gs) (who := who) (c4 := c4) (f := f) (mi := mi) (fr := fr) G hf1 pot db ot c9 .non fun x hx => hx
  unfold F_law M_law
  refine fn_rt ?_
  rw [show ([scr ns].map Cell.val ++ List.replicate (11 - [scr ns].length) Cell.non) = [.val (scr ns), .non, .non, .non, .non, .non, .non, .non, .non, .non, .non] from rfl]
  rw [seq_nx (ρ' := [.val (scr ns), .val (gD ps), .non, .non, .non, .non, .non, .non, .non, .non, .non]) (by
    simp only [sSet_eq, eCall_eq, aCons_eq, aNil_eq, eVar_0, eC_eq, R.ok_bind, hgr]; rfl)]
  rw [seq_nx (ρ' := [.val (scr ns), .val (gD ps), .val (.tuple (gs.map .int)), .non, .non, .non, .non, .non, .non, .non, .non]) (by
    simp only [sSet_eq, eCall_eq, aCons_eq, aNil_eq, e1_eq, eVar_0, eVar_s, eC_eq, R.ok_bind, hv2, hlen, hs2]; rfl)]
  rw [seq_nx (ρ' := [.val (scr ns), .val (gD ps), .val (.tuple (gs.map .int)), .val (.int who), .non, .non, .non, .non, .non, .non, .non]) (by
    simp only [sSet_eq, e2_eq, eCall_eq, aCons_eq, aNil_eq, eVar_0, eC_eq, R.ok_bind, hv2, dDiv_i, dMod_i]
    rw [if_pos (by decide), R.ok_bind, dMod_i, if_pos (by decide), hwho]; rfl)]
  rw [seq_nx hodd]
  rw [seq_nx (ρ' := [.val (scr ns), .val (gD ps), .val (.tuple (gs.map .int)), .val (.int who), c4, .val f, .non, .non, .non, .non, .non]) (by
    simp only [sSet_eq, eCall_eq, aCons_eq, aNil_eq, eVar_0, eVar_s, R.ok_bind, hag]; rfl)]
  rw [seq_nx (ρ' := [.val (scr ns), .val (gD ps), .val (.tuple (gs.map .int)), .val (.int who), c4, .val f, .non, .non, .non, .non, .non]) (by
    simp only [sIf_eq, tOrR_eq, tNotR_eq, tE_eq, e2_eq, eCall_eq, aCons_eq, aNil_eq, eVar_0, eVar_s, R.ok_bind, htold, hag, hsame, asB_b]; rfl)]
  rw [seq_nx (ρ' := [.val (scr ns), .val (gD ps), .val (.tuple (gs.map .int)), .val (.int who), c4, .val f, .val (.list (mi.map .int)), .non, .non, .non, .non]) (by
    rw [sSet_eq, eComp_eq, show compRho 1 [5, 3] [.val (scr ns), .val (gD ps), .val (.tuple (gs.map .int)), .val (.int who), c4, .val f, .non, .non, .non, .non, .non] = [.non, .val f, .val (.int who)] from rfl]
    simp only [iRange_eq, aCons_eq, aNil_eq, e1_eq, eVar_0, eVar_s, R.ok_bind, hlen, hr1, noX_ok]
    rw [if_pos (by rw [rangeI_len]; exact small25 (by omega)), hrm, hmi]
    rfl)]
  rw [seq_nx (ρ' := [.val (scr ns), .val (gD ps), .val (.tuple (gs.map .int)), .val (.int who), c4, .val f, .val (.list (mi.map .int)), .val (.list (ot.map .int)), .non, .non, .non]) (by
    rw [sSet_eq, eComp_eq, show compRho 1 [5, 3] [.val (scr ns), .val (gD ps), .val (.tuple (gs.map .int)), .val (.int who), c4, .val f, .val (.list (mi.map .int)), .non, .non, .non, .non] = [.non, .val f, .val (.int who)] from rfl]
    simp only [iRange_eq, aCons_eq, aNil_eq, e1_eq, eVar_0, eVar_s, R.ok_bind, hlen, hr1, noX_ok]
    rw [if_pos (by rw [rangeI_len]; exact small25 (by omega)), hrm, hot]
    rfl)]
  rw [seq_nx (ρ' := [.val (scr ns), .val (gD ps), .val (.tuple (gs.map .int)), .val (.int who), c4, .val f, .val (.list (mi.map .int)), .val (.list (ot.map .int)), .non, .non, .non]) (by
    simp only [sIf_eq, tOrR_eq, tNotR_eq, tE_eq, e2_eq, eCall_eq, aCons_eq, aNil_eq, eVar_0, eVar_s, eC_eq, R.ok_bind, hf1, dSub_i, hin1, hin2, asB_b]; rfl)]
  rw [seq_nx (ρ' := zR (scr ns) ps gs who c4 f mi ot fr .non .non) (by
    rw [sSet_eq, eComp_eq, show compRho 1 [2] [.val (scr ns), .val (gD ps), .val (.tuple (gs.map .int)), .val (.int who), c4, .val f, .val (.list (mi.map .int)), .val (.list (ot.map .int)), .non, .non, .non] = [.non, .val (.tuple (gs.map .int))] from rfl]
    simp only [iSeq_eq, eVar_0, eVar_s, R.ok_bind, seqD_l, noX_ok]
    rw [if_pos (by rw [List.length_map]; exact small25 (by omega)), hfr]
    rfl)]
  rw [seq_nx (ρ' := zR (scr ns) ps gs who c4 f mi ot fr c9 .non) (by
    rw [sNox_eq, sFor_eq, iSeq_eq]
    simp only [eVar_0, eVar_s, R.ok_bind, seqD_l]
    unfold aBody at hloopA
    rw [hloopA]
    rfl)]
  rw [seq_nx (ρ' := zR (scr ns) ps gs who c4 f mi ot fr d9 d10) (by
    rw [sNox_eq, sFor_eq, iSeq_eq]
    simp only [eVar_0, eVar_s, R.ok_bind, seqD_l]
    unfold bBody at hloopB
    rw [hloopB]
    rfl)]
  rfl
end G
set_option Elab.async false
set_option linter.all false
set_option maxRecDepth 100000
set_option maxHeartbeats 4000000
namespace G
open PySem PySem.Spec PyProof.Rows L2 D2
def bodyL : List Stmt := PySem.Challenge.pw_duelground_k20_whole_again.main.body
abbrev top (i : Nat) : Stmt := bodyL.getD i (.Pass ⟨0, 0, 0, 0⟩)
abbrev s_law_cell_at : Stmt := top 27
abbrev s_law_mixed : Stmt := top 28
abbrev s_law_drawn : Stmt := top 29
abbrev s_law_goals : Stmt := top 30
abbrev s_law_place : Stmt := top 31
abbrev s_law_ground : Stmt := top 32
abbrev s_law_ways : Stmt := top 35
abbrev s_law_inside : Stmt := top 37
abbrev s_law_reached : Stmt := top 36
abbrev s_all_places : Stmt := top 11
abbrev s_is_whole : Stmt := top 6
abbrev s_is_between : Stmt := top 7
abbrev s_are_some : Stmt := top 8
abbrev s_common : Stmt := top 12
abbrev s_moves_of_both : Stmt := top 15
abbrev s_ranked : Stmt := top 21
abbrev s_pulling_moves : Stmt := top 22
abbrev s_is_forced : Stmt := top 19
abbrev s_ranks_to : Stmt := top 20
abbrev s_no_moves : Stmt := top 14
abbrev s_staying_moves : Stmt := top 16
abbrev s_without : Stmt := top 13
abbrev s_share_by_coming : Stmt := top 24
abbrev s_winners_and_moves : Stmt := top 17
abbrev s_again : Stmt := top 25
abbrev s_law_refused : Stmt := top 39
abbrev s_law_some : Stmt := top 33
abbrev s_law_moves_good : Stmt := top 34
abbrev s_law_told_well : Stmt := top 38
abbrev s_law : Stmt := top 40
abbrev s_Share : Stmt := inClass (top 10) 0
theorem S_Share : FnScope ["self", "who", "places", "moves"] ["self", "who", "places", "moves"] (defScope s_Share) := ⟨rfl, rfl, rfl, by decide +kernel, rfl, by decide +kernel, by decide +kernel⟩
theorem D_Share {P : Program} {w : World} {K : PySem.W.Frag} {mg : Str → Option Value} {base : Heap} {f C : Addr} {fd : FuncData} (F : Fun K "__init__" "Share.__init__" s_Share f fd) (cl : Cls K C) (n0 : NoAttr K C "who") (n1 : NoAttr K C "places") (n2 : NoAttr K C "moves") :
    FnOk P w K mg base (CXD P w mg) 1 f fd ["self", "who", "places", "moves"] (spI C ["who", "places", "moves"]) := by
  obtain ⟨oc, od, kV, doc, pm, an, cdv, ct, osl, rfl, lk, hcd⟩ := F.ex
  refine fn_of (k := 0) lk hcd S_Share (fun vs H Q E h => ?_) fun A outer s H vs Q E hr h => ?_
  · obtain ⟨x, dx, ws, rfl, _, hl, _⟩ := h
    rw [List.length_cons, hl]
    rfl
  · obtain ⟨x, dx, ws, rfl, hx, hl, k⟩ := h
    match ws, hl with
    | [w1, w2, w3], _ =>
      refine ⟨_, pss_cons (ps_fld (pv 0) (pv 1) rfl) (pss_cons (ps_fld (pv 0) (pv 2) rfl) (pss_one (ps_fld (pv 0) (pv 3) rfl))), ?_⟩
      refine ⟨_, rfl, _, rfl, x, C, dx, [], rfl, hx, cl, n0, (by show 0 < 1000; decide), _, rfl, _, rfl, x, C, dx, _, rfl, upd_same, cl, n1, (by show 1 < 1000; decide), _, rfl, _, rfl, x, C, dx, _, rfl, upd_same, cl, n2, (by refine Nat.lt_of_le_of_lt (length_putF _ _ _) ?_; exact Nat.lt_of_le_of_lt (Nat.succ_le_succ (length_putF _ _ _)) (by show 2 < 1000; decide)), ?_⟩
      refine k _ (by rw [upd_same, putF3 (by decide +kernel) (by decide +kernel) (by decide +kernel)]; rfl) fun b hb => ?_
      rw [upd_ne hb, upd_ne hb, upd_ne hb]
theorem S_law_cell_at : FnScope ["_law_script", "_law_k"] ["_law_script", "_law_k"] (defScope s_law_cell_at) := ⟨rfl, rfl, rfl, by decide +kernel, rfl, by decide +kernel, by decide +kernel⟩
theorem D_law_cell_at {P : Program} {w : World} {K : PySem.W.Frag} {mg : Str → Option Value} {base : Heap} {f : Addr} {fd : FuncData} {k : Nat} (W_law_cell_at : Fun K "_law_cell_at" "_law_cell_at" s_law_cell_at f fd) (b_len : mg "len" = none) :
    FnOk P w K mg base (CXD P w mg) (k + 1) f fd ["_law_script", "_law_k"] (spD (fnR 2 (M_law_cell_at)) 2) := by
  refine Z.fn_data W_law_cell_at S_law_cell_at fun cdv A outer s H E hr => ?_
  have T := def_tb (cdv := cdv) (f := f) (P := P) (w := w) (K := K) (mg := mg) (base := base) (A := A) (outer := outer) (s := s) (H := H) (E := E) (qual := "_law_cell_at") (sc := defScope s_law_cell_at) (N := ["_law_script", "_law_k"]) (G := ["len"]) hr (by decide +kernel)
  exact (Z.es_cons (Z.es_if (Z.evt_lt (Z.EvE.b (Z.ev_name T 1 rfl)) (Z.EvE.b (Z.ev_len T 0 rfl b_len (Z.EvE.b (Z.ev_name T 0 rfl))))) (Z.es_one (Z.es_ret (Z.ev_ix T.hu (Z.EvE.b (Z.ev_name T 0 rfl)) (Z.EvE.b (Z.ev_name T 1 rfl)) (fun _ _ => rfl)))) Z.es_nil)
      (Z.es_one (Z.es_ret Z.ev_int)))
theorem S_law_mixed : FnScope ["_law_script", "_law_k", "_law_drawn_here"] ["_law_script", "_law_k"] (defScope s_law_mixed) := ⟨rfl, rfl, rfl, by decide +kernel, rfl, by decide +kernel, by decide +kernel⟩
theorem D_law_mixed {P : Program} {w : World} {K : PySem.W.Frag} {mg : Str → Option Value} {base : Heap} {f : Addr} {fd : FuncData} {k : Nat} (W_law_mixed : Fun K "_law_mixed" "_law_mixed" s_law_mixed f fd) {f_law_cell_at : Addr} {d_law_cell_at : FuncData} {F_law_cell_at : List PyData → R PyData} (C_law_cell_at : FnOk P w K mg base (CXD P w mg) k f_law_cell_at d_law_cell_at ["_law_script", "_law_k"] (spD F_law_cell_at 2)) (m_law_cell_at : mg "_law_cell_at" = some (.ref f_law_cell_at)) (K_law_cell_at : PySem.W.keepIn K (.ref f_law_cell_at) = true) (B_law_cell_at : Binds K d_law_cell_at ["_law_script", "_law_k"] []) :
    FnOk P w K mg base (CXD P w mg) (k + 1) f fd ["_law_script", "_law_k"] (spD (fnR 3 (M_law_mixed F_law_cell_at)) 2) := by
  refine Z.fn_data W_law_mixed S_law_mixed fun cdv A outer s H E hr => ?_
  have T := def_tb (cdv := cdv) (f := f) (P := P) (w := w) (K := K) (mg := mg) (base := base) (A := A) (outer := outer) (s := s) (H := H) (E := E) (qual := "_law_mixed") (sc := defScope s_law_mixed) (N := ["_law_script", "_law_k", "_law_drawn_here"]) (G := ["_law_cell_at"]) hr (by decide +kernel)
  have hr_law_cell_at := hr
  exact (Z.es_cons (Z.es_set T 2 rfl (Z.ev_mod (Z.EvE.b (Z.ev_mul (Z.EvE.b (Z.ev_add (Z.EvE.b (Z.ev_add (Z.EvE.b (Z.ev_call C_law_cell_at hr_law_cell_at T 0 rfl m_law_cell_at K_law_cell_at B_law_cell_at (Z.ea_cons (Z.ev_name T 0 rfl) (Z.ea_cons (Z.ev_name T 1 rfl) Z.ea_nil)) rfl (aCons_len (aCons_len aNil_len)))) (Z.EvE.b (Z.ev_mul (Z.EvE.b Z.ev_int) (Z.EvE.b (Z.ev_name T 1 rfl)))))) (Z.EvE.b Z.ev_int))) (Z.EvE.b Z.ev_int))) (Z.EvE.b Z.ev_int)))
      (Z.es_one (Z.es_ret (Z.ev_mod (Z.EvE.b (Z.ev_add (Z.EvE.b (Z.ev_add (Z.EvE.b (Z.ev_mul (Z.EvE.b (Z.ev_name T 2 rfl)) (Z.EvE.b (Z.ev_name T 2 rfl)))) (Z.EvE.b (Z.ev_mul (Z.EvE.b Z.ev_int) (Z.EvE.b (Z.ev_name T 2 rfl)))))) (Z.EvE.b (Z.ev_name T 1 rfl)))) (Z.EvE.b Z.ev_int)))))
theorem S_law_drawn : FnScope ["_law_number", "_law_k", "_law_drawn_here"] ["_law_number", "_law_k"] (defScope s_law_drawn) := ⟨rfl, rfl, rfl, by decide +kernel, rfl, by decide +kernel, by decide +kernel⟩
theorem D_law_drawn {P : Program} {w : World} {K : PySem.W.Frag} {mg : Str → Option Value} {base : Heap} {f : Addr} {fd : FuncData} {k : Nat} (W_law_drawn : Fun K "_law_drawn" "_law_drawn" s_law_drawn f fd) :
    FnOk P w K mg base (CXD P w mg) (k + 1) f fd ["_law_number", "_law_k"] (spD (fnR 3 (M_law_drawn)) 2) := by
  refine Z.fn_data W_law_drawn S_law_drawn fun cdv A outer s H E hr => ?_
  have T := def_tb (cdv := cdv) (f := f) (P := P) (w := w) (K := K) (mg := mg) (base := base) (A := A) (outer := outer) (s := s) (H := H) (E := E) (qual := "_law_drawn") (sc := defScope s_law_drawn) (N := ["_law_number", "_law_k", "_law_drawn_here"]) (G := []) hr (by decide +kernel)
  exact (Z.es_cons (Z.es_set T 2 rfl (Z.ev_mod (Z.EvE.b (Z.ev_mul (Z.EvE.b (Z.ev_add (Z.EvE.b (Z.ev_add (Z.EvE.b (Z.ev_name T 0 rfl)) (Z.EvE.b (Z.ev_mul (Z.EvE.b Z.ev_int) (Z.EvE.b (Z.ev_name T 1 rfl)))))) (Z.EvE.b Z.ev_int))) (Z.EvE.b Z.ev_int))) (Z.EvE.b Z.ev_int)))
      (Z.es_one (Z.es_ret (Z.ev_mod (Z.EvE.b (Z.ev_add (Z.EvE.b (Z.ev_add (Z.EvE.b (Z.ev_mul (Z.EvE.b (Z.ev_name T 2 rfl)) (Z.EvE.b (Z.ev_name T 2 rfl)))) (Z.EvE.b (Z.ev_mul (Z.EvE.b Z.ev_int) (Z.EvE.b (Z.ev_name T 2 rfl)))))) (Z.EvE.b (Z.ev_name T 1 rfl)))) (Z.EvE.b Z.ev_int)))))
theorem S_law_goals : FnScope ["_law_number", "_law_count", "_law_found", "_law_k"] ["_law_number", "_law_count"] (defScope s_law_goals) := ⟨rfl, rfl, rfl, by decide +kernel, rfl, by decide +kernel, by decide +kernel⟩
theorem D_law_goals {P : Program} {w : World} {K : PySem.W.Frag} {mg : Str → Option Value} {base : Heap} {f : Addr} {fd : FuncData} {k : Nat} (W_law_goals : Fun K "_law_goals" "_law_goals" s_law_goals f fd) {f_law_drawn : Addr} {d_law_drawn : FuncData} {F_law_drawn : List PyData → R PyData} (C_law_drawn : FnOk P w K mg base (CXD P w mg) k f_law_drawn d_law_drawn ["_law_number", "_law_k"] (spD F_law_drawn 2)) (m_law_drawn : mg "_law_drawn" = some (.ref f_law_drawn)) (K_law_drawn : PySem.W.keepIn K (.ref f_law_drawn) = true) (B_law_drawn : Binds K d_law_drawn ["_law_number", "_law_k"] []) (b_int : mg "int" = none) (b_range : mg "range" = none) (b_sorted : mg "sorted" = none) (b_tuple : mg "tuple" = none) :
    FnOk P w K mg base (CXD P w mg) (k + 1) f fd ["_law_number", "_law_count"] (spD (fnR 4 (M_law_goals F_law_drawn)) 2) := by
  refine Z.fn_data W_law_goals S_law_goals fun cdv A outer s H E hr => ?_
  have T := def_tb (cdv := cdv) (f := f) (P := P) (w := w) (K := K) (mg := mg) (base := base) (A := A) (outer := outer) (s := s) (H := H) (E := E) (qual := "_law_goals") (sc := defScope s_law_goals) (N := ["_law_number", "_law_count", "_law_found", "_law_k"]) (G := ["range", "int", "_law_drawn", "tuple", "sorted"]) hr (by decide +kernel)
  have hr_law_drawn := hr
  exact (Z.es_cons (Z.es_own T 2 rfl Z.evn_dict0)
      (Z.es_cons (Z.es_noxR (have T := T.nox; Z.es_for PassesOwn.never T.calm (Z.ei_range1 T 0 rfl b_range (Z.ea_cons (Z.ev_add (Z.EvE.b (Z.ev_add (Z.EvE.b Z.ev_int) (Z.EvE.b (Z.ev_mod (Z.EvE.b (Z.ev_name T 0 rfl)) (Z.EvE.b Z.ev_int))))) (Z.EvE.b (Z.ev_mul (Z.EvE.b Z.ev_int) (Z.EvE.b (Z.ev_int1 T 1 rfl b_int (Z.EvE.b (Z.ev_eq T.hu (Z.EvE.b (Z.ev_mod (Z.EvE.b (Z.ev_div (Z.EvE.b (Z.ev_name T 0 rfl)) (Z.EvE.b Z.ev_int))) (Z.EvE.b Z.ev_int))) (Z.EvE.b Z.ev_int)))))))) Z.ea_nil) (aCons_len aNil_len)) (Z.eg_name T 3 rfl) (Z.es_one (Z.es_put T 2 rfl (Z.ev_mod (Z.EvE.b (Z.ev_call C_law_drawn hr_law_drawn T 2 rfl m_law_drawn K_law_drawn B_law_drawn (Z.ea_cons (Z.ev_name T 0 rfl) (Z.ea_cons (Z.ev_name T 3 rfl) Z.ea_nil)) rfl (aCons_len (aCons_len aNil_len)))) (Z.EvE.b (Z.ev_name T 1 rfl))) Z.ev_bool))))
      (Z.es_one (Z.es_ret (Z.ev_tuple T 3 rfl b_tuple (Z.EvN.b (Z.evn_sorted T 4 rfl b_sorted (Z.evb_name T 2 rfl))))))))
theorem S_law_place : FnScope ["_law_number", "_law_count", "_law_high", "_law_gain"] ["_law_number", "_law_count", "_law_high"] (defScope s_law_place) := ⟨rfl, rfl, rfl, by decide +kernel, rfl, by decide +kernel, by decide +kernel⟩
theorem D_law_place {P : Program} {w : World} {K : PySem.W.Frag} {mg : Str → Option Value} {base : Heap} {f : Addr} {fd : FuncData} {k : Nat} (W_law_place : Fun K "_law_place" "_law_place" s_law_place f fd) {f_law_drawn : Addr} {d_law_drawn : FuncData} {F_law_drawn : List PyData → R PyData} (C_law_drawn : FnOk P w K mg base (CXD P w mg) k f_law_drawn d_law_drawn ["_law_number", "_law_k"] (spD F_law_drawn 2)) (m_law_drawn : mg "_law_drawn" = some (.ref f_law_drawn)) (K_law_drawn : PySem.W.keepIn K (.ref f_law_drawn) = true) (B_law_drawn : Binds K d_law_drawn ["_law_number", "_law_k"] []) {f_law_goals : Addr} {d_law_goals : FuncData} {F_law_goals : List PyData → R PyData} (C_law_goals : FnOk P w K mg base (CXD P w mg) k f_law_goals d_law_goals ["_law_number", "_law_count"] (spD F_law_goals 2)) (m_law_goals : mg "_law_goals" = some (.ref f_law_goals)) (K_law_goals : PySem.W.keepIn K (.ref f_law_goals) = true) (B_law_goals : Binds K d_law_goals ["_law_number", "_law_count"] []) :
    FnOk P w K mg base (CXD P w mg) (k + 1) f fd ["_law_number", "_law_count", "_law_high"] (spD (fnR 4 (M_law_place F_law_drawn F_law_goals)) 3) := by
  refine Z.fn_data W_law_place S_law_place fun cdv A outer s H E hr => ?_
  have T := def_tb (cdv := cdv) (f := f) (P := P) (w := w) (K := K) (mg := mg) (base := base) (A := A) (outer := outer) (s := s) (H := H) (E := E) (qual := "_law_place") (sc := defScope s_law_place) (N := ["_law_number", "_law_count", "_law_high", "_law_gain"]) (G := ["_law_goals", "_law_drawn"]) hr (by decide +kernel)
  have hr_law_drawn := hr
  have hr_law_goals := hr
  exact (Z.es_cons (Z.es_set T 3 rfl (Z.ev_sub (Z.EvE.b (Z.ev_mod (Z.EvE.b (Z.ev_div (Z.EvE.b (Z.ev_name T 0 rfl)) (Z.EvE.b Z.ev_int))) (Z.EvE.b Z.ev_int))) (Z.EvE.b Z.ev_int)))
      (Z.es_cons (Z.es_if (Z.evt_eq T.hu (Z.EvE.b (Z.ev_mod (Z.EvE.b (Z.ev_div (Z.EvE.b (Z.ev_name T 0 rfl)) (Z.EvE.b Z.ev_int))) (Z.EvE.b Z.ev_int))) (Z.EvE.b Z.ev_int)) (Z.es_one (Z.es_set T 3 rfl (Z.ev_sub (Z.EvE.b (Z.ev_mod (Z.EvE.b (Z.ev_div (Z.EvE.b (Z.ev_name T 0 rfl)) (Z.EvE.b Z.ev_int))) (Z.EvE.b Z.ev_int))) (Z.EvE.b Z.ev_int)))) Z.es_nil)
      (Z.es_one (Z.es_ret (Z.ev_tup (Z.ea_cons (Z.ev_mod (Z.EvE.b (Z.ev_name T 0 rfl)) (Z.EvE.b Z.ev_int)) (Z.ea_cons (Z.ev_mod (Z.EvE.b (Z.ev_div (Z.EvE.b (Z.ev_name T 0 rfl)) (Z.EvE.b Z.ev_int))) (Z.EvE.b (Z.ev_add (Z.EvE.b (Z.ev_name T 2 rfl)) (Z.EvE.b Z.ev_int)))) (Z.ea_cons (Z.ev_name T 3 rfl) (Z.ea_cons (Z.ev_call C_law_goals hr_law_goals T 0 rfl m_law_goals K_law_goals B_law_goals (Z.ea_cons (Z.ev_call C_law_drawn hr_law_drawn T 1 rfl m_law_drawn K_law_drawn B_law_drawn (Z.ea_cons (Z.ev_name T 0 rfl) (Z.ea_cons Z.ev_int Z.ea_nil)) rfl (aCons_len (aCons_len aNil_len))) (Z.ea_cons (Z.ev_name T 1 rfl) Z.ea_nil)) rfl (aCons_len (aCons_len aNil_len))) Z.ea_nil)))))))))
theorem S_law_ground : FnScope ["_law_script", "_law_most", "_law_number", "_law_count", "_law_high"] ["_law_script", "_law_most"] (defScope s_law_ground) := ⟨rfl, rfl, rfl, by decide +kernel, rfl, by decide +kernel, by decide +kernel⟩
theorem D_law_ground {P : Program} {w : World} {K : PySem.W.Frag} {mg : Str → Option Value} {base : Heap} {f : Addr} {fd : FuncData} {k : Nat} (W_law_ground : Fun K "_law_ground" "_law_ground" s_law_ground f fd) {f_law_mixed : Addr} {d_law_mixed : FuncData} {F_law_mixed : List PyData → R PyData} (C_law_mixed : FnOk P w K mg base (CXD P w mg) k f_law_mixed d_law_mixed ["_law_script", "_law_k"] (spD F_law_mixed 2)) (m_law_mixed : mg "_law_mixed" = some (.ref f_law_mixed)) (K_law_mixed : PySem.W.keepIn K (.ref f_law_mixed) = true) (B_law_mixed : Binds K d_law_mixed ["_law_script", "_law_k"] []) {f_law_place : Addr} {d_law_place : FuncData} {F_law_place : List PyData → R PyData} (C_law_place : FnOk P w K mg base (CXD P w mg) k f_law_place d_law_place ["_law_number", "_law_count", "_law_high"] (spD F_law_place 3)) (m_law_place : mg "_law_place" = some (.ref f_law_place)) (K_law_place : PySem.W.keepIn K (.ref f_law_place) = true) (B_law_place : Binds K d_law_place ["_law_number", "_law_count", "_law_high"] []) (b_len : mg "len" = none) (b_max : mg "max" = none) (b_min : mg "min" = none) (b_range : mg "range" = none) (b_tuple : mg "tuple" = none) :
    FnOk P w K mg base (CXD P w mg) (k + 1) f fd ["_law_script", "_law_most"] (spD (fnR 5 (M_law_ground F_law_mixed F_law_place)) 2) := by
  refine Z.fn_data W_law_ground S_law_ground fun cdv A outer s H E hr => ?_
  have T := def_tb (cdv := cdv) (f := f) (P := P) (w := w) (K := K) (mg := mg) (base := base) (A := A) (outer := outer) (s := s) (H := H) (E := E) (qual := "_law_ground") (sc := defScope s_law_ground) (N := ["_law_script", "_law_most", "_law_number", "_law_count", "_law_high"]) (G := ["_law_mixed", "min", "max", "len", "tuple", "range"]) hr (by decide +kernel)
  have hr_law_mixed := hr
  have hr_law_place := hr
  exact (Z.es_cons (Z.es_set T 2 rfl (Z.ev_call C_law_mixed hr_law_mixed T 0 rfl m_law_mixed K_law_mixed B_law_mixed (Z.ea_cons (Z.ev_name T 0 rfl) (Z.ea_cons Z.ev_int Z.ea_nil)) rfl (aCons_len (aCons_len aNil_len))))
      (Z.es_cons (Z.es_set T 3 rfl (Z.ev_add (Z.EvE.b Z.ev_int) (Z.EvE.b (Z.ev_mod (Z.EvE.b (Z.ev_name T 2 rfl)) (Z.EvE.b (Z.ev_min T 1 rfl b_min (Z.EvE.b (Z.ev_name T 1 rfl)) (Z.EvE.b (Z.ev_max T 2 rfl b_max (Z.EvE.b Z.ev_int) (Z.EvE.b (Z.ev_len T 3 rfl b_len (Z.EvE.b (Z.ev_name T 0 rfl))))))))))))
      (Z.es_cons (Z.es_set T 4 rfl (Z.ev_ix T.hu (Z.EvN.b (Z.evn_lst (Z.ea_cons Z.ev_int (Z.ea_cons Z.ev_int (Z.ea_cons Z.ev_int (Z.ea_cons Z.ev_int (Z.ea_cons Z.ev_int (Z.ea_cons Z.ev_int Z.ea_nil)))))))) (Z.EvE.b (Z.ev_mod (Z.EvE.b (Z.ev_div (Z.EvE.b (Z.ev_name T 2 rfl)) (Z.EvE.b Z.ev_int))) (Z.EvE.b Z.ev_int))) (fun _ _ => rfl)))
      (Z.es_one (Z.es_ret (Z.ev_tuple T 4 rfl b_tuple (Z.EvN.b (Z.evn_compD (N := ["_law_k", "_law_script", "_law_count", "_law_high"]) (own := 1) (G := ["_law_place", "_law_mixed"]) (fr := [0, 3, 4]) T rfl rfl (oN := ["_law_script", "_law_most", "_law_number", "_law_count", "_law_high"]) (on := (defScope s_law_ground).names) (by decide +kernel) (Z.ei_range1 T 5 rfl b_range (Z.ea_cons (Z.ev_name T 3 rfl) Z.ea_nil) (aCons_len aNil_len)) (fits_name (by decide)) (fun cl C s' H' fp T => ⟨(Z.eg_name T 0 rfl), Z.ec_nil, (Z.ev_call C_law_place hr_law_place T 0 rfl m_law_place K_law_place B_law_place (Z.ea_cons (Z.ev_call C_law_mixed hr_law_mixed T 1 rfl m_law_mixed K_law_mixed B_law_mixed (Z.ea_cons (Z.ev_name T 1 rfl) (Z.ea_cons (Z.ev_add (Z.EvE.b Z.ev_int) (Z.EvE.b (Z.ev_name T 0 rfl))) Z.ea_nil)) rfl (aCons_len (aCons_len aNil_len))) (Z.ea_cons (Z.ev_name T 2 rfl) (Z.ea_cons (Z.ev_name T 3 rfl) Z.ea_nil))) rfl (aCons_len (aCons_len (aCons_len aNil_len))))⟩)))))))))
theorem S_law_ways : FnScope ["_law_ground_here", "_law_who", "_law_moves", "_law_place_here"] ["_law_ground_here", "_law_who", "_law_moves", "_law_place_here"] (defScope s_law_ways) := ⟨rfl, rfl, rfl, by decide +kernel, rfl, by decide +kernel, by decide +kernel⟩
theorem D_law_ways {P : Program} {w : World} {K : PySem.W.Frag} {mg : Str → Option Value} {base : Heap} {f : Addr} {fd : FuncData} {k : Nat} (W_law_ways : Fun K "_law_ways" "_law_ways" s_law_ways f fd) (b_list : mg "list" = none) :
    FnOk P w K mg base (CXD P w mg) (k + 1) f fd ["_law_ground_here", "_law_who", "_law_moves", "_law_place_here"] (spD (fnR 4 (M_law_ways)) 4) := by
  refine Z.fn_data W_law_ways S_law_ways fun cdv A outer s H E hr => ?_
  have T := def_tb (cdv := cdv) (f := f) (P := P) (w := w) (K := K) (mg := mg) (base := base) (A := A) (outer := outer) (s := s) (H := H) (E := E) (qual := "_law_ways") (sc := defScope s_law_ways) (N := ["_law_ground_here", "_law_who", "_law_moves", "_law_place_here"]) (G := ["list"]) hr (by decide +kernel)
  exact (Z.es_cons (Z.es_if (Z.evt_eq T.hu (Z.EvE.b (Z.ev_ix T.hu (Z.EvE.b (Z.ev_ix T.hu (Z.EvE.b (Z.ev_name T 0 rfl)) (Z.EvE.b (Z.ev_name T 3 rfl)) (fun _ _ => rfl))) (Z.EvE.b Z.ev_int) (fun _ _ => rfl))) (Z.EvE.b (Z.ev_name T 1 rfl))) (Z.es_one (Z.es_ret (Z.EvN.e (Z.evn_compD (N := ["_law_move"]) (own := 1) (G := []) (fr := []) T rfl rfl (oN := ["_law_ground_here", "_law_who", "_law_moves", "_law_place_here"]) (on := (defScope s_law_ways).names) (by decide +kernel) (Z.ei_seq (Z.EvN.e (Z.evn_lst (Z.ea_cons (Z.ev_ix T.hu (Z.EvE.b (Z.ev_name T 2 rfl)) (Z.EvE.b (Z.ev_name T 3 rfl)) (fun _ _ => rfl)) Z.ea_nil)))) (fits_name (by decide)) (fun cl C s' H' fp T => ⟨(Z.eg_name T 0 rfl), (Z.ec_one (Z.evt_notN (Z.EvE.b (Z.ev_name T 0 rfl)) (Z.EvE.b Z.ev_none))), (Z.ev_name T 0 rfl)⟩))))) Z.es_nil)
      (Z.es_one (Z.es_ret (Z.EvN.e (Z.evn_list T 0 rfl b_list (Z.EvE.b (Z.ev_ix T.hu (Z.EvE.b (Z.ev_ix T.hu (Z.EvE.b (Z.ev_name T 0 rfl)) (Z.EvE.b (Z.ev_name T 3 rfl)) (fun _ _ => rfl))) (Z.EvE.b Z.ev_int) (fun _ _ => rfl))))))))
theorem S_law_inside : FnScope ["_law_ground_here", "_law_who", "_law_moves", "_law_places", "_law_place_here", "_law_ways_here"] ["_law_ground_here", "_law_who", "_law_moves", "_law_places"] (defScope s_law_inside) := ⟨rfl, rfl, rfl, by decide +kernel, rfl, by decide +kernel, by decide +kernel⟩
theorem D_law_inside {P : Program} {w : World} {K : PySem.W.Frag} {mg : Str → Option Value} {base : Heap} {f : Addr} {fd : FuncData} {k : Nat} (W_law_inside : Fun K "_law_inside" "_law_inside" s_law_inside f fd) {f_law_ways : Addr} {d_law_ways : FuncData} {F_law_ways : List PyData → R PyData} (C_law_ways : FnOk P w K mg base (CXD P w mg) k f_law_ways d_law_ways ["_law_ground_here", "_law_who", "_law_moves", "_law_place_here"] (spD F_law_ways 4)) (m_law_ways : mg "_law_ways" = some (.ref f_law_ways)) (K_law_ways : PySem.W.keepIn K (.ref f_law_ways) = true) (B_law_ways : Binds K d_law_ways ["_law_ground_here", "_law_who", "_law_moves", "_law_place_here"] []) :
    FnOk P w K mg base (CXD P w mg) (k + 1) f fd ["_law_ground_here", "_law_who", "_law_moves", "_law_places"] (spD (fnR 6 (M_law_inside F_law_ways)) 4) := by
  refine Z.fn_data W_law_inside S_law_inside fun cdv A outer s H E hr => ?_
  have T := def_tb (cdv := cdv) (f := f) (P := P) (w := w) (K := K) (mg := mg) (base := base) (A := A) (outer := outer) (s := s) (H := H) (E := E) (qual := "_law_inside") (sc := defScope s_law_inside) (N := ["_law_ground_here", "_law_who", "_law_moves", "_law_places", "_law_place_here", "_law_ways_here"]) (G := ["_law_ways"]) hr (by decide +kernel)
  have hr_law_ways := hr
  exact (Z.es_cons (Z.es_noxR (have T := T.nox; Z.es_for PassesOwn.never T.calm (Z.ei_seq (Z.ev_name T 3 rfl)) (Z.eg_name T 4 rfl) (Z.es_cons (Z.es_set T 5 rfl (Z.ev_call C_law_ways hr_law_ways T 0 rfl m_law_ways K_law_ways B_law_ways (Z.ea_cons (Z.ev_name T 0 rfl) (Z.ea_cons (Z.ev_name T 1 rfl) (Z.ea_cons (Z.ev_name T 2 rfl) (Z.ea_cons (Z.ev_name T 4 rfl) Z.ea_nil)))) rfl (aCons_len (aCons_len (aCons_len (aCons_len aNil_len))))))
      (Z.es_one (Z.es_if (Z.EvW.t (Z.evw_or (Z.evt_eq T.hu (Z.EvE.b (Z.ev_name T 5 rfl)) (Z.EvN.b (Z.evn_lst Z.ea_nil))) (Z.evw_or1 (Z.evt_ne T.hu (Z.EvN.b (Z.evn_compD (N := ["_law_way", "_law_places"]) (own := 1) (G := []) (fr := [3]) T rfl rfl (oN := ["_law_ground_here", "_law_who", "_law_moves", "_law_places", "_law_place_here", "_law_ways_here"]) (on := (defScope s_law_inside).names) (by decide +kernel) (Z.ei_seq (Z.ev_name T 5 rfl)) (fits_name (by decide)) (fun cl C s' H' fp T => ⟨(Z.eg_name T 0 rfl), (Z.ec_one (Z.evt_notIn T.hu (Z.EvE.b (Z.ev_name T 0 rfl)) (Z.EvE.b (Z.ev_name T 1 rfl)) (by with_unfolding_all rfl))), (Z.ev_name T 0 rfl)⟩))) (Z.EvN.b (Z.evn_lst Z.ea_nil)))))) (Z.es_one (Z.es_ret Z.ev_bool)) Z.es_nil)))))
      (Z.es_one (Z.es_ret Z.ev_bool)))
theorem S_law_reached : FnScope ["_law_ground_here", "_law_who", "_law_moves", "_law_start", "_law_allowed", "_law_found", "_law_todo", "_law_place_here"] ["_law_ground_here", "_law_who", "_law_moves", "_law_start", "_law_allowed"] (defScope s_law_reached) := ⟨rfl, rfl, rfl, by decide +kernel, rfl, by decide +kernel, by decide +kernel⟩
theorem D_law_reached {P : Program} {w : World} {K : PySem.W.Frag} {mg : Str → Option Value} {base : Heap} {f : Addr} {fd : FuncData} {k : Nat} (W_law_reached : Fun K "_law_reached" "_law_reached" s_law_reached f fd) {f_law_ways : Addr} {d_law_ways : FuncData} {F_law_ways : List PyData → R PyData} (C_law_ways : FnOk P w K mg base (CXD P w mg) k f_law_ways d_law_ways ["_law_ground_here", "_law_who", "_law_moves", "_law_place_here"] (spD F_law_ways 4)) (m_law_ways : mg "_law_ways" = some (.ref f_law_ways)) (K_law_ways : PySem.W.keepIn K (.ref f_law_ways) = true) (B_law_ways : Binds K d_law_ways ["_law_ground_here", "_law_who", "_law_moves", "_law_place_here"] []) :
    FnOk P w K mg base (CXD P w mg) (k + 1) f fd ["_law_ground_here", "_law_who", "_law_moves", "_law_start", "_law_allowed"] (spD (fnR 8 (M_law_reached F_law_ways)) 5) := by
  refine Z.fn_data W_law_reached S_law_reached fun cdv A outer s H E hr => ?_
  have T := def_tb (cdv := cdv) (f := f) (P := P) (w := w) (K := K) (mg := mg) (base := base) (A := A) (outer := outer) (s := s) (H := H) (E := E) (qual := "_law_reached") (sc := defScope s_law_reached) (N := ["_law_ground_here", "_law_who", "_law_moves", "_law_start", "_law_allowed", "_law_found", "_law_todo", "_law_place_here"]) (G := ["_law_ways"]) hr (by decide +kernel)
  have hr_law_ways := hr
  exact (Z.es_cons (Z.es_own T 5 rfl (Z.evn_lst Z.ea_nil))
      (Z.es_cons (Z.es_set T 6 rfl (Z.ev_call C_law_ways hr_law_ways T 0 rfl m_law_ways K_law_ways B_law_ways (Z.ea_cons (Z.ev_name T 0 rfl) (Z.ea_cons (Z.ev_name T 1 rfl) (Z.ea_cons (Z.ev_name T 2 rfl) (Z.ea_cons (Z.ev_name T 3 rfl) Z.ea_nil)))) rfl (aCons_len (aCons_len (aCons_len (aCons_len aNil_len))))))
      (Z.es_cons (Z.es_noxR (have T := T.nox; Z.es_while 1000000 PassesOwn.never (Z.evt_ne T.hu (Z.EvE.b (Z.ev_name T 6 rfl)) (Z.EvN.b (Z.evn_lst Z.ea_nil))) (Z.es_cons (Z.es_set T 7 rfl (Z.ev_ix T.hu (Z.EvE.b (Z.ev_name T 6 rfl)) (Z.EvE.b Z.ev_int) (fun _ _ => rfl)))
      (Z.es_cons (Z.es_set T 6 rfl (Z.ev_slice (Z.EvE.b (Z.ev_name T 6 rfl)) (Z.eo_some Z.ev_int) Z.eo_none))
      (Z.es_one (Z.es_if (Z.EvW.t (Z.evw_and (Z.evt_in T.hu (Z.EvE.b (Z.ev_name T 7 rfl)) (Z.EvE.b (Z.ev_name T 4 rfl)) (by with_unfolding_all rfl)) (Z.evw_and1 (Z.evt_notIn T.hu (Z.EvE.b (Z.ev_name T 7 rfl)) (Z.evb_name T 5 rfl) (by with_unfolding_all rfl))))) (Z.es_cons (Z.es_append T 5 rfl (Z.ev_name T 7 rfl))
      (Z.es_one (Z.es_set T 6 rfl (Z.ev_add (Z.EvE.b (Z.ev_name T 6 rfl)) (Z.EvE.b (Z.ev_call C_law_ways hr_law_ways T 0 rfl m_law_ways K_law_ways B_law_ways (Z.ea_cons (Z.ev_name T 0 rfl) (Z.ea_cons (Z.ev_name T 1 rfl) (Z.ea_cons (Z.ev_name T 2 rfl) (Z.ea_cons (Z.ev_name T 7 rfl) Z.ea_nil)))) rfl (aCons_len (aCons_len (aCons_len (aCons_len aNil_len)))))))))) Z.es_nil))))))
      (Z.es_one (Z.es_retO T 5 rfl)))))
theorem S_all_places : FnScope ["ground"] ["ground"] (defScope s_all_places) := ⟨rfl, rfl, rfl, by decide +kernel, rfl, by decide +kernel, by decide +kernel⟩
theorem D_all_places {P : Program} {w : World} {K : PySem.W.Frag} {mg : Str → Option Value} {base : Heap} {f : Addr} {fd : FuncData} {k : Nat} (W_all_places : Fun K "all_places" "all_places" s_all_places f fd) (b_len : mg "len" = none) (b_range : mg "range" = none) (b_tuple : mg "tuple" = none) :
    FnOk P w K mg base (CXD P w mg) (k + 1) f fd ["ground"] (spD (fnR 1 (M_all_places)) 1) := by
  refine Z.fn_data W_all_places S_all_places fun cdv A outer s H E hr => ?_
  have T := def_tb (cdv := cdv) (f := f) (P := P) (w := w) (K := K) (mg := mg) (base := base) (A := A) (outer := outer) (s := s) (H := H) (E := E) (qual := "all_places") (sc := defScope s_all_places) (N := ["ground"]) (G := ["tuple", "range", "len"]) hr (by decide +kernel)
  exact (Z.es_one (Z.es_ret (Z.ev_tupR T 0 rfl b_tuple 1 rfl b_range (Z.ea_cons (Z.ev_len T 2 rfl b_len (Z.EvE.b (Z.ev_name T 0 rfl))) Z.ea_nil))))
theorem S_is_whole : FnScope ["thing"] ["thing"] (defScope s_is_whole) := ⟨rfl, rfl, rfl, by decide +kernel, rfl, by decide +kernel, by decide +kernel⟩
theorem D_is_whole {P : Program} {w : World} {K : PySem.W.Frag} {mg : Str → Option Value} {base : Heap} {f : Addr} {fd : FuncData} {k : Nat} (W_is_whole : Fun K "is_whole" "is_whole" s_is_whole f fd) (b_bool : mg "bool" = none) (b_int : mg "int" = none) (b_isinstance : mg "isinstance" = none) :
    FnOk P w K mg base (CXD P w mg) (k + 1) f fd ["thing"] (spD (fnR 1 (M_is_whole)) 1) := by
  refine Z.fn_data W_is_whole S_is_whole fun cdv A outer s H E hr => ?_
  have T := def_tb (cdv := cdv) (f := f) (P := P) (w := w) (K := K) (mg := mg) (base := base) (A := A) (outer := outer) (s := s) (H := H) (E := E) (qual := "is_whole") (sc := defScope s_is_whole) (N := ["thing"]) (G := ["isinstance", "int", "bool"]) hr (by decide +kernel)
  exact (Z.es_one (Z.es_ret (Z.ev_and (Z.ev_isi_int T 0 rfl b_isinstance T 1 rfl b_int (Z.EvE.b (Z.ev_name T 0 rfl))) (Z.ev_one (Z.ev_not (Z.ev_isi_bool T 0 rfl b_isinstance T 2 rfl b_bool (Z.EvE.b (Z.ev_name T 0 rfl))))))))
theorem S_is_between : FnScope ["thing", "low", "high"] ["thing", "low", "high"] (defScope s_is_between) := ⟨rfl, rfl, rfl, by decide +kernel, rfl, by decide +kernel, by decide +kernel⟩
theorem D_is_between {P : Program} {w : World} {K : PySem.W.Frag} {mg : Str → Option Value} {base : Heap} {f : Addr} {fd : FuncData} {k : Nat} (W_is_between : Fun K "is_between" "is_between" s_is_between f fd) {f_is_whole : Addr} {d_is_whole : FuncData} {F_is_whole : List PyData → R PyData} (C_is_whole : FnOk P w K mg base (CXD P w mg) k f_is_whole d_is_whole ["thing"] (spD F_is_whole 1)) (m_is_whole : mg "is_whole" = some (.ref f_is_whole)) (K_is_whole : PySem.W.keepIn K (.ref f_is_whole) = true) (B_is_whole : Binds K d_is_whole ["thing"] []) :
    FnOk P w K mg base (CXD P w mg) (k + 1) f fd ["thing", "low", "high"] (spD (fnR 3 (M_is_between F_is_whole)) 3) := by
  refine Z.fn_data W_is_between S_is_between fun cdv A outer s H E hr => ?_
  have T := def_tb (cdv := cdv) (f := f) (P := P) (w := w) (K := K) (mg := mg) (base := base) (A := A) (outer := outer) (s := s) (H := H) (E := E) (qual := "is_between") (sc := defScope s_is_between) (N := ["thing", "low", "high"]) (G := ["is_whole"]) hr (by decide +kernel)
  have hr_is_whole := hr
  exact (Z.es_one (Z.es_ret (Z.ev_and (Z.ev_call C_is_whole hr_is_whole T 0 rfl m_is_whole K_is_whole B_is_whole (Z.ea_cons (Z.ev_name T 0 rfl) Z.ea_nil) rfl (aCons_len aNil_len)) (Z.ev_one (Z.ev_chain op_le sv_cmp op_le sv_cmp (Z.EvE.b (Z.ev_name T 1 rfl)) (Z.EvE.b (Z.ev_name T 0 rfl)) (Z.EvE.b (Z.ev_name T 2 rfl)))))))
theorem S_are_some : FnScope ["thing", "count", "least", "number"] ["thing", "count"] (defScope s_are_some) := ⟨rfl, rfl, rfl, by decide +kernel, rfl, by decide +kernel, by decide +kernel⟩
theorem D_are_some {P : Program} {w : World} {K : PySem.W.Frag} {mg : Str → Option Value} {base : Heap} {f : Addr} {fd : FuncData} {k : Nat} (W_are_some : Fun K "are_some" "are_some" s_are_some f fd) {f_is_between : Addr} {d_is_between : FuncData} {F_is_between : List PyData → R PyData} (C_is_between : FnOk P w K mg base (CXD P w mg) k f_is_between d_is_between ["thing", "low", "high"] (spD F_is_between 3)) (m_is_between : mg "is_between" = some (.ref f_is_between)) (K_is_between : PySem.W.keepIn K (.ref f_is_between) = true) (B_is_between : Binds K d_is_between ["thing", "low", "high"] []) (b_isinstance : mg "isinstance" = none) (b_tuple : mg "tuple" = none) :
    FnOk P w K mg base (CXD P w mg) (k + 1) f fd ["thing", "count"] (spD (fnR 4 (M_are_some F_is_between)) 2) := by
  refine Z.fn_data W_are_some S_are_some fun cdv A outer s H E hr => ?_
  have T := def_tb (cdv := cdv) (f := f) (P := P) (w := w) (K := K) (mg := mg) (base := base) (A := A) (outer := outer) (s := s) (H := H) (E := E) (qual := "are_some") (sc := defScope s_are_some) (N := ["thing", "count", "least", "number"]) (G := ["isinstance", "tuple", "is_between"]) hr (by decide +kernel)
  have hr_is_between := hr
  exact (Z.es_cons (Z.es_if (Z.evt_not (Z.evt_val (Z.ev_isi_tuple T 0 rfl b_isinstance T 1 rfl b_tuple (Z.EvE.b (Z.ev_name T 0 rfl))))) (Z.es_one (Z.es_ret Z.ev_bool)) Z.es_nil)
      (Z.es_cons (Z.es_set T 2 rfl Z.ev_int)
      (Z.es_cons (Z.es_noxR (have T := T.nox; Z.es_for PassesOwn.never T.calm (Z.ei_seq (Z.ev_name T 0 rfl)) (Z.eg_name T 3 rfl) (Z.es_cons (Z.es_if (Z.evt_not (Z.evt_val (Z.ev_call C_is_between hr_is_between T 2 rfl m_is_between K_is_between B_is_between (Z.ea_cons (Z.ev_name T 3 rfl) (Z.ea_cons (Z.ev_name T 2 rfl) (Z.ea_cons (Z.ev_sub (Z.EvE.b (Z.ev_name T 1 rfl)) (Z.EvE.b Z.ev_int)) Z.ea_nil))) rfl (aCons_len (aCons_len (aCons_len aNil_len)))))) (Z.es_one (Z.es_ret Z.ev_bool)) Z.es_nil)
      (Z.es_one (Z.es_set T 2 rfl (Z.ev_add (Z.EvE.b (Z.ev_name T 3 rfl)) (Z.EvE.b Z.ev_int)))))))
      (Z.es_one (Z.es_ret Z.ev_bool)))))
theorem S_common : FnScope ["some", "others"] ["some", "others"] (defScope s_common) := ⟨rfl, rfl, rfl, by decide +kernel, rfl, by decide +kernel, by decide +kernel⟩
theorem D_common {P : Program} {w : World} {K : PySem.W.Frag} {mg : Str → Option Value} {base : Heap} {f : Addr} {fd : FuncData} {k : Nat} (W_common : Fun K "common" "common" s_common f fd) (b_tuple : mg "tuple" = none) :
    FnOk P w K mg base (CXD P w mg) (k + 1) f fd ["some", "others"] (spD (fnR 2 (M_common)) 2) := by
  refine Z.fn_data W_common S_common fun cdv A outer s H E hr => ?_
  have T := def_tb (cdv := cdv) (f := f) (P := P) (w := w) (K := K) (mg := mg) (base := base) (A := A) (outer := outer) (s := s) (H := H) (E := E) (qual := "common") (sc := defScope s_common) (N := ["some", "others"]) (G := ["tuple"]) hr (by decide +kernel)
  exact (Z.es_one (Z.es_ret (Z.ev_tuple T 0 rfl b_tuple (Z.EvN.b (Z.evn_compD (N := ["number", "others"]) (own := 1) (G := []) (fr := [1]) T rfl rfl (oN := ["some", "others"]) (on := (defScope s_common).names) (by decide +kernel) (Z.ei_seq (Z.ev_name T 0 rfl)) (fits_name (by decide)) (fun cl C s' H' fp T => ⟨(Z.eg_name T 0 rfl), (Z.ec_one (Z.evt_in T.hu (Z.EvE.b (Z.ev_name T 0 rfl)) (Z.EvE.b (Z.ev_name T 1 rfl)) (by with_unfolding_all rfl))), (Z.ev_name T 0 rfl)⟩))))))
theorem S_moves_of_both : FnScope ["moves", "others"] ["moves", "others"] (defScope s_moves_of_both) := ⟨rfl, rfl, rfl, by decide +kernel, rfl, by decide +kernel, by decide +kernel⟩
theorem D_moves_of_both {P : Program} {w : World} {K : PySem.W.Frag} {mg : Str → Option Value} {base : Heap} {f : Addr} {fd : FuncData} {k : Nat} (W_moves_of_both : Fun K "moves_of_both" "moves_of_both" s_moves_of_both f fd) (b_tuple : mg "tuple" = none) (b_zip : mg "zip" = none) :
    FnOk P w K mg base (CXD P w mg) (k + 1) f fd ["moves", "others"] (spD (fnR 2 (M_moves_of_both)) 2) := by
  refine Z.fn_data W_moves_of_both S_moves_of_both fun cdv A outer s H E hr => ?_
  have T := def_tb (cdv := cdv) (f := f) (P := P) (w := w) (K := K) (mg := mg) (base := base) (A := A) (outer := outer) (s := s) (H := H) (E := E) (qual := "moves_of_both") (sc := defScope s_moves_of_both) (N := ["moves", "others"]) (G := ["tuple", "zip"]) hr (by decide +kernel)
  exact (Z.es_one (Z.es_ret (Z.ev_tuple T 0 rfl b_tuple (Z.EvN.b (Z.evn_compD (N := ["move", "other"]) (own := 2) (G := []) (fr := []) T rfl rfl (oN := ["moves", "others"]) (on := (defScope s_moves_of_both).names) (by decide +kernel) (Z.ei_zip T 1 rfl b_zip (Z.ev_name T 0 rfl) (Z.ev_name T 1 rfl)) (fits_pair (by decide) (by decide)) (fun cl C s' H' fp T => ⟨(Z.eg_pair T 0 1 rfl rfl), Z.ec_nil, (Z.ev_ifExp (Z.evt_isN (Z.EvE.b (Z.ev_name T 0 rfl)) (Z.EvE.b Z.ev_none)) (Z.ev_name T 1 rfl) (Z.ev_name T 0 rfl))⟩))))))
theorem S_ranked : FnScope ["ranks"] ["ranks"] (defScope s_ranked) := ⟨rfl, rfl, rfl, by decide +kernel, rfl, by decide +kernel, by decide +kernel⟩
theorem D_ranked {P : Program} {w : World} {K : PySem.W.Frag} {mg : Str → Option Value} {base : Heap} {f : Addr} {fd : FuncData} {k : Nat} (W_ranked : Fun K "ranked" "ranked" s_ranked f fd) (b_enumerate : mg "enumerate" = none) (b_tuple : mg "tuple" = none) :
    FnOk P w K mg base (CXD P w mg) (k + 1) f fd ["ranks"] (spD (fnR 1 (M_ranked)) 1) := by
  refine Z.fn_data W_ranked S_ranked fun cdv A outer s H E hr => ?_
  have T := def_tb (cdv := cdv) (f := f) (P := P) (w := w) (K := K) (mg := mg) (base := base) (A := A) (outer := outer) (s := s) (H := H) (E := E) (qual := "ranked") (sc := defScope s_ranked) (N := ["ranks"]) (G := ["tuple", "enumerate"]) hr (by decide +kernel)
  exact (Z.es_one (Z.es_ret (Z.ev_tuple T 0 rfl b_tuple (Z.EvN.b (Z.evn_compD (N := ["number", "rank"]) (own := 2) (G := []) (fr := []) T rfl rfl (oN := ["ranks"]) (on := (defScope s_ranked).names) (by decide +kernel) (Z.ei_enum T 1 rfl b_enumerate (Z.ev_name T 0 rfl)) (fits_pair (by decide) (by decide)) (fun cl C s' H' fp T => ⟨(Z.eg_pair T 0 1 rfl rfl), (Z.ec_one (Z.evt_notN (Z.EvE.b (Z.ev_name T 1 rfl)) (Z.EvE.b Z.ev_none))), (Z.ev_name T 0 rfl)⟩))))))
theorem S_pulling_moves : FnScope ["ground", "who", "ranks", "moves", "number"] ["ground", "who", "ranks"] (defScope s_pulling_moves) := ⟨rfl, rfl, rfl, by decide +kernel, rfl, by decide +kernel, by decide +kernel⟩
theorem D_pulling_moves {P : Program} {w : World} {K : PySem.W.Frag} {mg : Str → Option Value} {base : Heap} {f : Addr} {fd : FuncData} {k : Nat} (W_pulling_moves : Fun K "pulling_moves" "pulling_moves" s_pulling_moves f fd) {f_ranked : Addr} {d_ranked : FuncData} {F_ranked : List PyData → R PyData} (C_ranked : FnOk P w K mg base (CXD P w mg) k f_ranked d_ranked ["ranks"] (spD F_ranked 1)) (m_ranked : mg "ranked" = some (.ref f_ranked)) (K_ranked : PySem.W.keepIn K (.ref f_ranked) = true) (B_ranked : Binds K d_ranked ["ranks"] []) {t_GOALS : Tok} (g_GOALS : mg "GOALS" = some (.int 3 t_GOALS)) {t_WHO : Tok} (g_WHO : mg "WHO" = some (.int 0 t_WHO)) (b_tuple : mg "tuple" = none) :
    FnOk P w K mg base (CXD P w mg) (k + 1) f fd ["ground", "who", "ranks"] (spD (fnR 5 (M_pulling_moves F_ranked)) 3) := by
  refine Z.fn_data W_pulling_moves S_pulling_moves fun cdv A outer s H E hr => ?_
  have T := def_tb (cdv := cdv) (f := f) (P := P) (w := w) (K := K) (mg := mg) (base := base) (A := A) (outer := outer) (s := s) (H := H) (E := E) (qual := "pulling_moves") (sc := defScope s_pulling_moves) (N := ["ground", "who", "ranks", "moves", "number"]) (G := ["ranked", "WHO", "GOALS", "tuple"]) hr (by decide +kernel)
  have hr_ranked := hr
  exact (Z.es_cons (Z.es_ownC 3 rfl (N := ["rank"]) (own := 1) (G := []) (fr := []) T rfl rfl (oN := ["ground", "who", "ranks", "moves", "number"]) (on := (defScope s_pulling_moves).names) (by decide +kernel) (Z.ei_seq (Z.ev_name T 2 rfl)) (fits_name (by decide)) (fun cl C s' H' fp T => ⟨(Z.eg_name T 0 rfl), Z.ec_nil, Z.ev_none⟩))
      (Z.es_cons (Z.es_noxR (have T := T.nox; Z.es_for PassesOwn.never T.calm (Z.ei_seq (Z.ev_call C_ranked hr_ranked T 0 rfl m_ranked K_ranked B_ranked (Z.ea_cons (Z.ev_name T 2 rfl) Z.ea_nil) rfl (aCons_len aNil_len))) (Z.eg_name T 4 rfl) (Z.es_one (Z.es_if (Z.EvW.t (Z.evw_and (Z.evt_eq T.hu (Z.EvE.b (Z.ev_ix T.hu (Z.EvE.b (Z.ev_ix T.hu (Z.EvE.b (Z.ev_name T 0 rfl)) (Z.EvE.b (Z.ev_name T 4 rfl)) (fun _ _ => rfl))) (Z.EvE.b (Z.ev_gint T 1 rfl g_WHO)) (fun _ _ => rfl))) (Z.EvE.b (Z.ev_name T 1 rfl))) (Z.evw_and1 (Z.evt_gt (Z.EvE.b (Z.ev_ix T.hu (Z.EvE.b (Z.ev_name T 2 rfl)) (Z.EvE.b (Z.ev_name T 4 rfl)) (fun _ _ => rfl))) (Z.EvE.b Z.ev_int))))) (Z.es_one (Z.es_putL T 3 rfl (have T := T.nox; (Z.ev_name T 4 rfl)) (Z.ev_ix T.hu (Z.EvN.b (Z.evn_compD (N := ["goal", "ranks", "number"]) (own := 1) (G := []) (fr := [2, 4]) T rfl rfl (oN := ["ground", "who", "ranks", "moves", "number"]) (on := (defScope s_pulling_moves).names) (by decide +kernel) (Z.ei_seq (Z.ev_ix T.hu (Z.EvE.b (Z.ev_ix T.hu (Z.EvE.b (Z.ev_name T 0 rfl)) (Z.EvE.b (Z.ev_name T 4 rfl)) (fun _ _ => rfl))) (Z.EvE.b (Z.ev_gint T 2 rfl g_GOALS)) (fun _ _ => rfl))) (fits_name (by decide)) (fun cl C s' H' fp T => ⟨(Z.eg_name T 0 rfl), (Z.ec_one (Z.evt_eq T.hu (Z.EvE.b (Z.ev_ix T.hu (Z.EvE.b (Z.ev_name T 1 rfl)) (Z.EvE.b (Z.ev_name T 0 rfl)) (fun _ _ => rfl))) (Z.EvE.b (Z.ev_sub (Z.EvE.b (Z.ev_ix T.hu (Z.EvE.b (Z.ev_name T 1 rfl)) (Z.EvE.b (Z.ev_name T 2 rfl)) (fun _ _ => rfl))) (Z.EvE.b Z.ev_int))))), (Z.ev_name T 0 rfl)⟩))) (Z.EvE.b Z.ev_int) (fun _ _ => rfl)))) Z.es_nil))))
      (Z.es_one (Z.es_ret (Z.ev_tuple T 3 rfl b_tuple (Z.evb_name T 3 rfl))))))
theorem S_is_forced : FnScope ["place", "ways", "who", "ranks", "known"] ["place", "ways", "who", "ranks"] (defScope s_is_forced) := ⟨rfl, rfl, rfl, by decide +kernel, rfl, by decide +kernel, by decide +kernel⟩
theorem D_is_forced {P : Program} {w : World} {K : PySem.W.Frag} {mg : Str → Option Value} {base : Heap} {f : Addr} {fd : FuncData} {k : Nat} (W_is_forced : Fun K "is_forced" "is_forced" s_is_forced f fd) {t_WHO : Tok} (g_WHO : mg "WHO" = some (.int 0 t_WHO)) (b_len : mg "len" = none) :
    FnOk P w K mg base (CXD P w mg) (k + 1) f fd ["place", "ways", "who", "ranks"] (spD (fnR 5 (M_is_forced)) 4) := by
  refine Z.fn_data W_is_forced S_is_forced fun cdv A outer s H E hr => ?_
  have T := def_tb (cdv := cdv) (f := f) (P := P) (w := w) (K := K) (mg := mg) (base := base) (A := A) (outer := outer) (s := s) (H := H) (E := E) (qual := "is_forced") (sc := defScope s_is_forced) (N := ["place", "ways", "who", "ranks", "known"]) (G := ["WHO", "len"]) hr (by decide +kernel)
  exact (Z.es_cons (Z.EvS.fz (Z.es_ownC 4 rfl (N := ["goal", "ranks"]) (own := 1) (G := []) (fr := [3]) T rfl rfl (oN := ["place", "ways", "who", "ranks", "known"]) (on := (defScope s_is_forced).names) (by decide +kernel) (Z.ei_seq (Z.ev_name T 1 rfl)) (fits_name (by decide)) (fun cl C s' H' fp T => ⟨(Z.eg_name T 0 rfl), (Z.ec_one (Z.evt_notN (Z.EvE.b (Z.ev_ix T.hu (Z.EvE.b (Z.ev_name T 1 rfl)) (Z.EvE.b (Z.ev_name T 0 rfl)) (fun _ _ => rfl))) (Z.EvE.b Z.ev_none))), (Z.ev_name T 0 rfl)⟩)) (show 4 < 5 by decide))
      (Z.es_cons (Z.es_if (Z.evt_eq T.hu (Z.EvE.b (Z.ev_ix T.hu (Z.EvE.b (Z.ev_name T 0 rfl)) (Z.EvE.b (Z.ev_gint T 0 rfl g_WHO)) (fun _ _ => rfl))) (Z.EvE.b (Z.ev_name T 2 rfl))) (Z.es_one (Z.es_ret (Z.ev_gt (Z.EvE.b (Z.ev_len T 1 rfl b_len (Z.EvE.b (Z.ev_name T 4 rfl)))) (Z.EvE.b Z.ev_int)))) Z.es_nil)
      (Z.es_one (Z.es_ret (Z.ev_eq T.hu (Z.EvE.b (Z.ev_len T 1 rfl b_len (Z.EvE.b (Z.ev_name T 4 rfl)))) (Z.EvE.b (Z.ev_len T 1 rfl b_len (Z.EvE.b (Z.ev_name T 1 rfl)))))))))
theorem S_ranks_to : FnScope ["ground", "inside", "who", "goals", "ways", "ranks", "rank", "found", "unranked", "number"] ["ground", "inside", "who", "goals"] (defScope s_ranks_to) := ⟨rfl, rfl, rfl, by decide +kernel, rfl, by decide +kernel, by decide +kernel⟩
theorem D_ranks_to {P : Program} {w : World} {K : PySem.W.Frag} {mg : Str → Option Value} {base : Heap} {f : Addr} {fd : FuncData} {k : Nat} (W_ranks_to : Fun K "ranks_to" "ranks_to" s_ranks_to f fd) {f_common : Addr} {d_common : FuncData} {F_common : List PyData → R PyData} (C_common : FnOk P w K mg base (CXD P w mg) k f_common d_common ["some", "others"] (spD F_common 2)) (m_common : mg "common" = some (.ref f_common)) (K_common : PySem.W.keepIn K (.ref f_common) = true) (B_common : Binds K d_common ["some", "others"] []) {f_is_forced : Addr} {d_is_forced : FuncData} {F_is_forced : List PyData → R PyData} (C_is_forced : FnOk P w K mg base (CXD P w mg) k f_is_forced d_is_forced ["place", "ways", "who", "ranks"] (spD F_is_forced 4)) (m_is_forced : mg "is_forced" = some (.ref f_is_forced)) (K_is_forced : PySem.W.keepIn K (.ref f_is_forced) = true) (B_is_forced : Binds K d_is_forced ["place", "ways", "who", "ranks"] []) {t_GOALS : Tok} (g_GOALS : mg "GOALS" = some (.int 3 t_GOALS)) (b_len : mg "len" = none) (b_list : mg "list" = none) (b_range : mg "range" = none) (b_tuple : mg "tuple" = none) :
    FnOk P w K mg base (CXD P w mg) (k + 1) f fd ["ground", "inside", "who", "goals"] (spD (fnR 10 (M_ranks_to F_common F_is_forced)) 4) := by
  refine Z.fn_data W_ranks_to S_ranks_to fun cdv A outer s H E hr => ?_
  have T := def_tb (cdv := cdv) (f := f) (P := P) (w := w) (K := K) (mg := mg) (base := base) (A := A) (outer := outer) (s := s) (H := H) (E := E) (qual := "ranks_to") (sc := defScope s_ranks_to) (N := ["ground", "inside", "who", "goals", "ways", "ranks", "rank", "found", "unranked", "number"]) (G := ["range", "len", "list", "tuple"]) hr (by decide +kernel)
  have hr_common := hr
  have hr_is_forced := hr
  exact (Z.es_cons (Z.es_set T 4 rfl (Z.EvN.e (Z.evn_compD (N := ["place", "inside"]) (own := 1) (G := ["common", "GOALS"]) (fr := [1]) T rfl rfl (oN := ["ground", "inside", "who", "goals", "ways", "ranks", "rank", "found", "unranked", "number"]) (on := (defScope s_ranks_to).names) (by decide +kernel) (Z.ei_seq (Z.ev_name T 0 rfl)) (fits_name (by decide)) (fun cl C s' H' fp T => ⟨(Z.eg_name T 0 rfl), Z.ec_nil, (Z.ev_call C_common hr_common T 0 rfl m_common K_common B_common (Z.ea_cons (Z.ev_ix T.hu (Z.EvE.b (Z.ev_name T 0 rfl)) (Z.EvE.b (Z.ev_gint T 1 rfl g_GOALS)) (fun _ _ => rfl)) (Z.ea_cons (Z.ev_name T 1 rfl) Z.ea_nil)) rfl (aCons_len (aCons_len aNil_len)))⟩))))
      (Z.es_cons (Z.es_own T 5 rfl (Z.evn_compD (N := ["number", "goals"]) (own := 1) (G := []) (fr := [3]) T rfl rfl (oN := ["ground", "inside", "who", "goals", "ways", "ranks", "rank", "found", "unranked", "number"]) (on := (defScope s_ranks_to).names) (by decide +kernel) (Z.ei_range1 T 0 rfl b_range (Z.ea_cons (Z.ev_len T 1 rfl b_len (Z.EvE.b (Z.ev_name T 0 rfl))) Z.ea_nil) (aCons_len aNil_len)) (fits_name (by decide)) (fun cl C s' H' fp T => ⟨(Z.eg_name T 0 rfl), Z.ec_nil, (Z.ev_ifExp (Z.evt_in T.hu (Z.EvE.b (Z.ev_name T 0 rfl)) (Z.EvE.b (Z.ev_name T 1 rfl)) (by with_unfolding_all rfl)) Z.ev_int Z.ev_none)⟩)))
      (Z.es_cons (Z.es_set T 6 rfl Z.ev_int)
      (Z.es_cons (Z.es_set T 7 rfl (Z.EvN.e (Z.evn_list T 2 rfl b_list (Z.EvE.b (Z.ev_name T 3 rfl)))))
      (Z.es_cons (Z.es_noxR (have T := T.nox; Z.es_while 1000000 PassesOwn.never (Z.evt_gt (Z.EvE.b (Z.ev_len T 1 rfl b_len (Z.EvE.b (Z.ev_name T 7 rfl)))) (Z.EvE.b Z.ev_int)) (Z.es_cons (Z.es_augA T 6 rfl Z.ev_int)
      (Z.es_cons (Z.EvS.fz (Z.es_ownC 8 rfl (N := ["number", "ranks"]) (own := 1) (G := []) (fr := [5]) T rfl rfl (oN := ["ground", "inside", "who", "goals", "ways", "ranks", "rank", "found", "unranked", "number"]) (on := (defScope s_ranks_to).names) (by decide +kernel) (Z.ei_seq (Z.ev_name T 1 rfl)) (fits_name (by decide)) (fun cl C s' H' fp T => ⟨(Z.eg_name T 0 rfl), (Z.ec_one (Z.evt_isN (Z.EvE.b (Z.ev_ix T.hu (Z.evb_name T 1 rfl) (Z.EvE.b (Z.ev_name T 0 rfl)) (fun _ _ => rfl))) (Z.EvE.b Z.ev_none))), (Z.ev_name T 0 rfl)⟩)) (show 8 < 10 by decide))
      (Z.es_cons (Z.EvS.fz (Z.es_ownC 7 rfl (N := ["number", "ground", "ways", "who", "ranks"]) (own := 1) (G := ["is_forced"]) (fr := [0, 4, 2, 5]) T rfl rfl (oN := ["ground", "inside", "who", "goals", "ways", "ranks", "rank", "found", "unranked", "number"]) (on := (defScope s_ranks_to).names) (by decide +kernel) (Z.ei_seq (Z.ev_name T 8 rfl)) (fits_name (by decide)) (fun cl C s' H' fp T => ⟨(Z.eg_name T 0 rfl), (Z.ec_one (Z.evt_val (Z.EvE.lent 4 (Z.ev_call C_is_forced hr_is_forced T 0 rfl m_is_forced K_is_forced B_is_forced (Z.ea_cons (Z.ev_ix T.hu (Z.EvE.b (Z.ev_name T 1 rfl)) (Z.EvE.b (Z.ev_name T 0 rfl)) (fun _ _ => rfl)) (Z.ea_cons (Z.ev_ix T.hu (Z.EvE.b (Z.ev_name T 2 rfl)) (Z.EvE.b (Z.ev_name T 0 rfl)) (fun _ _ => rfl)) (Z.ea_cons (Z.ev_name T 3 rfl) (Z.ea_cons (Z.ev_name T 4 rfl) Z.ea_nil)))) rfl (aCons_len (aCons_len (aCons_len (aCons_len aNil_len)))))))), (Z.ev_name T 0 rfl)⟩)) (show 7 < 10 by decide))
      (Z.es_one (Z.es_noxR (have T := T.nox; Z.es_for PassesOwn.never T.calm (Z.ei_seq (Z.ev_name T 7 rfl)) (Z.eg_name T 9 rfl) (Z.es_one (Z.es_putL T 5 rfl (have T := T.nox; (Z.ev_name T 9 rfl)) (Z.ev_name T 6 rfl)))))))))))
      (Z.es_one (Z.es_ret (Z.ev_tuple T 3 rfl b_tuple (Z.evb_name T 5 rfl)))))))))
theorem S_no_moves : FnScope ["ground"] ["ground"] (defScope s_no_moves) := ⟨rfl, rfl, rfl, by decide +kernel, rfl, by decide +kernel, by decide +kernel⟩
theorem D_no_moves {P : Program} {w : World} {K : PySem.W.Frag} {mg : Str → Option Value} {base : Heap} {f : Addr} {fd : FuncData} {k : Nat} (W_no_moves : Fun K "no_moves" "no_moves" s_no_moves f fd) (b_tuple : mg "tuple" = none) :
    FnOk P w K mg base (CXD P w mg) (k + 1) f fd ["ground"] (spD (fnR 1 (M_no_moves)) 1) := by
  refine Z.fn_data W_no_moves S_no_moves fun cdv A outer s H E hr => ?_
  have T := def_tb (cdv := cdv) (f := f) (P := P) (w := w) (K := K) (mg := mg) (base := base) (A := A) (outer := outer) (s := s) (H := H) (E := E) (qual := "no_moves") (sc := defScope s_no_moves) (N := ["ground"]) (G := ["tuple"]) hr (by decide +kernel)
  exact (Z.es_one (Z.es_ret (Z.ev_tuple T 0 rfl b_tuple (Z.EvN.b (Z.evn_compD (N := ["place"]) (own := 1) (G := []) (fr := []) T rfl rfl (oN := ["ground"]) (on := (defScope s_no_moves).names) (by decide +kernel) (Z.ei_seq (Z.ev_name T 0 rfl)) (fits_name (by decide)) (fun cl C s' H' fp T => ⟨(Z.eg_name T 0 rfl), Z.ec_nil, Z.ev_none⟩))))))
theorem S_staying_moves : FnScope ["ground", "who", "part", "moves", "number"] ["ground", "who", "part"] (defScope s_staying_moves) := ⟨rfl, rfl, rfl, by decide +kernel, rfl, by decide +kernel, by decide +kernel⟩
theorem D_staying_moves {P : Program} {w : World} {K : PySem.W.Frag} {mg : Str → Option Value} {base : Heap} {f : Addr} {fd : FuncData} {k : Nat} (W_staying_moves : Fun K "staying_moves" "staying_moves" s_staying_moves f fd) {f_common : Addr} {d_common : FuncData} {F_common : List PyData → R PyData} (C_common : FnOk P w K mg base (CXD P w mg) k f_common d_common ["some", "others"] (spD F_common 2)) (m_common : mg "common" = some (.ref f_common)) (K_common : PySem.W.keepIn K (.ref f_common) = true) (B_common : Binds K d_common ["some", "others"] []) {f_no_moves : Addr} {d_no_moves : FuncData} {F_no_moves : List PyData → R PyData} (C_no_moves : FnOk P w K mg base (CXD P w mg) k f_no_moves d_no_moves ["ground"] (spD F_no_moves 1)) (m_no_moves : mg "no_moves" = some (.ref f_no_moves)) (K_no_moves : PySem.W.keepIn K (.ref f_no_moves) = true) (B_no_moves : Binds K d_no_moves ["ground"] []) {t_GOALS : Tok} (g_GOALS : mg "GOALS" = some (.int 3 t_GOALS)) {t_WHO : Tok} (g_WHO : mg "WHO" = some (.int 0 t_WHO)) (b_list : mg "list" = none) (b_tuple : mg "tuple" = none) :
    FnOk P w K mg base (CXD P w mg) (k + 1) f fd ["ground", "who", "part"] (spD (fnR 5 (M_staying_moves F_common F_no_moves)) 3) := by
  refine Z.fn_data W_staying_moves S_staying_moves fun cdv A outer s H E hr => ?_
  have T := def_tb (cdv := cdv) (f := f) (P := P) (w := w) (K := K) (mg := mg) (base := base) (A := A) (outer := outer) (s := s) (H := H) (E := E) (qual := "staying_moves") (sc := defScope s_staying_moves) (N := ["ground", "who", "part", "moves", "number"]) (G := ["list", "no_moves", "WHO", "common", "GOALS", "tuple"]) hr (by decide +kernel)
  have hr_common := hr
  have hr_no_moves := hr
  exact (Z.es_cons (Z.es_own T 3 rfl (Z.evn_list T 0 rfl b_list (Z.EvE.b (Z.ev_call C_no_moves hr_no_moves T 1 rfl m_no_moves K_no_moves B_no_moves (Z.ea_cons (Z.ev_name T 0 rfl) Z.ea_nil) rfl (aCons_len aNil_len)))))
      (Z.es_cons (Z.es_noxR (have T := T.nox; Z.es_for PassesOwn.never T.calm (Z.ei_seq (Z.ev_name T 2 rfl)) (Z.eg_name T 4 rfl) (Z.es_one (Z.es_if (Z.evt_eq T.hu (Z.EvE.b (Z.ev_ix T.hu (Z.EvE.b (Z.ev_ix T.hu (Z.EvE.b (Z.ev_name T 0 rfl)) (Z.EvE.b (Z.ev_name T 4 rfl)) (fun _ _ => rfl))) (Z.EvE.b (Z.ev_gint T 2 rfl g_WHO)) (fun _ _ => rfl))) (Z.EvE.b (Z.ev_name T 1 rfl))) (Z.es_one (Z.es_putL T 3 rfl (have T := T.nox; (Z.ev_name T 4 rfl)) (Z.ev_ix T.hu (Z.EvE.b (Z.ev_call C_common hr_common T 3 rfl m_common K_common B_common (Z.ea_cons (Z.ev_ix T.hu (Z.EvE.b (Z.ev_ix T.hu (Z.EvE.b (Z.ev_name T 0 rfl)) (Z.EvE.b (Z.ev_name T 4 rfl)) (fun _ _ => rfl))) (Z.EvE.b (Z.ev_gint T 4 rfl g_GOALS)) (fun _ _ => rfl)) (Z.ea_cons (Z.ev_name T 2 rfl) Z.ea_nil)) rfl (aCons_len (aCons_len aNil_len)))) (Z.EvE.b Z.ev_int) (fun _ _ => rfl)))) Z.es_nil))))
      (Z.es_one (Z.es_ret (Z.ev_tuple T 5 rfl b_tuple (Z.evb_name T 3 rfl))))))
theorem S_without : FnScope ["some", "others"] ["some", "others"] (defScope s_without) := ⟨rfl, rfl, rfl, by decide +kernel, rfl, by decide +kernel, by decide +kernel⟩
theorem D_without {P : Program} {w : World} {K : PySem.W.Frag} {mg : Str → Option Value} {base : Heap} {f : Addr} {fd : FuncData} {k : Nat} (W_without : Fun K "without" "without" s_without f fd) (b_tuple : mg "tuple" = none) :
    FnOk P w K mg base (CXD P w mg) (k + 1) f fd ["some", "others"] (spD (fnR 2 (M_without)) 2) := by
  refine Z.fn_data W_without S_without fun cdv A outer s H E hr => ?_
  have T := def_tb (cdv := cdv) (f := f) (P := P) (w := w) (K := K) (mg := mg) (base := base) (A := A) (outer := outer) (s := s) (H := H) (E := E) (qual := "without") (sc := defScope s_without) (N := ["some", "others"]) (G := ["tuple"]) hr (by decide +kernel)
  exact (Z.es_one (Z.es_ret (Z.ev_tuple T 0 rfl b_tuple (Z.EvN.b (Z.evn_compD (N := ["number", "others"]) (own := 1) (G := []) (fr := [1]) T rfl rfl (oN := ["some", "others"]) (on := (defScope s_without).names) (by decide +kernel) (Z.ei_seq (Z.ev_name T 0 rfl)) (fits_name (by decide)) (fun cl C s' H' fp T => ⟨(Z.eg_name T 0 rfl), (Z.ec_one (Z.evt_notIn T.hu (Z.EvE.b (Z.ev_name T 0 rfl)) (Z.EvE.b (Z.ev_name T 1 rfl)) (by with_unfolding_all rfl))), (Z.ev_name T 0 rfl)⟩))))))
theorem S_share_by_coming : FnScope ["ground", "inside", "who", "goals", "ranks", "away", "moves", "other"] ["ground", "inside", "who", "goals"] (defScope s_share_by_coming) := ⟨rfl, rfl, rfl, by decide +kernel, rfl, by decide +kernel, by decide +kernel⟩
theorem D_share_by_coming {P : Program} {w : World} {K : PySem.W.Frag} {mg : Str → Option Value} {base : Heap} {f : Addr} {fd : FuncData} {k : Nat} (W_share_by_coming : Fun K "share_by_coming" "share_by_coming" s_share_by_coming f fd) {f_common : Addr} {d_common : FuncData} {F_common : List PyData → R PyData} (C_common : FnOk P w K mg base (CXD P w mg) k f_common d_common ["some", "others"] (spD F_common 2)) (m_common : mg "common" = some (.ref f_common)) (K_common : PySem.W.keepIn K (.ref f_common) = true) (B_common : Binds K d_common ["some", "others"] []) {f_moves_of_both : Addr} {d_moves_of_both : FuncData} {F_moves_of_both : List PyData → R PyData} (C_moves_of_both : FnOk P w K mg base (CXD P w mg) k f_moves_of_both d_moves_of_both ["moves", "others"] (spD F_moves_of_both 2)) (m_moves_of_both : mg "moves_of_both" = some (.ref f_moves_of_both)) (K_moves_of_both : PySem.W.keepIn K (.ref f_moves_of_both) = true) (B_moves_of_both : Binds K d_moves_of_both ["moves", "others"] []) {f_pulling_moves : Addr} {d_pulling_moves : FuncData} {F_pulling_moves : List PyData → R PyData} (C_pulling_moves : FnOk P w K mg base (CXD P w mg) k f_pulling_moves d_pulling_moves ["ground", "who", "ranks"] (spD F_pulling_moves 3)) (m_pulling_moves : mg "pulling_moves" = some (.ref f_pulling_moves)) (K_pulling_moves : PySem.W.keepIn K (.ref f_pulling_moves) = true) (B_pulling_moves : Binds K d_pulling_moves ["ground", "who", "ranks"] []) {f_ranked : Addr} {d_ranked : FuncData} {F_ranked : List PyData → R PyData} (C_ranked : FnOk P w K mg base (CXD P w mg) k f_ranked d_ranked ["ranks"] (spD F_ranked 1)) (m_ranked : mg "ranked" = some (.ref f_ranked)) (K_ranked : PySem.W.keepIn K (.ref f_ranked) = true) (B_ranked : Binds K d_ranked ["ranks"] []) {f_ranks_to : Addr} {d_ranks_to : FuncData} {F_ranks_to : List PyData → R PyData} (C_ranks_to : FnOk P w K mg base (CXD P w mg) k f_ranks_to d_ranks_to ["ground", "inside", "who", "goals"] (spD F_ranks_to 4)) (m_ranks_to : mg "ranks_to" = some (.ref f_ranks_to)) (K_ranks_to : PySem.W.keepIn K (.ref f_ranks_to) = true) (B_ranks_to : Binds K d_ranks_to ["ground", "inside", "who", "goals"] []) {f_staying_moves : Addr} {d_staying_moves : FuncData} {F_staying_moves : List PyData → R PyData} (C_staying_moves : FnOk P w K mg base (CXD P w mg) k f_staying_moves d_staying_moves ["ground", "who", "part"] (spD F_staying_moves 3)) (m_staying_moves : mg "staying_moves" = some (.ref f_staying_moves)) (K_staying_moves : PySem.W.keepIn K (.ref f_staying_moves) = true) (B_staying_moves : Binds K d_staying_moves ["ground", "who", "part"] []) {f_without : Addr} {d_without : FuncData} {F_without : List PyData → R PyData} (C_without : FnOk P w K mg base (CXD P w mg) k f_without d_without ["some", "others"] (spD F_without 2)) (m_without : mg "without" = some (.ref f_without)) (K_without : PySem.W.keepIn K (.ref f_without) = true) (B_without : Binds K d_without ["some", "others"] []) (b_len : mg "len" = none) {c_Share : Addr} (cl_Share : Cls K c_Share) (n_Share_moves : NoAttr K c_Share "moves") (n_Share_places : NoAttr K c_Share "places") (n_Share_who : NoAttr K c_Share "who") (m_Share : mg "Share" = some (.ref c_Share)) {fi_Share : Addr} {di_Share : FuncData} (MK_Share : Mk K c_Share fi_Share) (I_Share : FnOk P w K mg base (CXD P w mg) 1 fi_Share di_Share ["self", "who", "places", "moves"] (spI c_Share ["who", "places", "moves"])) (B_Share : Binds K di_Share ["self", "who", "places", "moves"] []) (hk : 2 ≤ k) :
    FnOk P w K mg base (CXD P w mg) (k + 1) f fd ["ground", "inside", "who", "goals"] (spD (fnR 8 (M_share_by_coming F_common F_moves_of_both F_pulling_moves F_ranked F_ranks_to F_staying_moves F_without c_Share)) 4) := by
  refine Z.fn_data W_share_by_coming S_share_by_coming fun cdv A outer s H E hr => ?_
  have T := def_tb (cdv := cdv) (f := f) (P := P) (w := w) (K := K) (mg := mg) (base := base) (A := A) (outer := outer) (s := s) (H := H) (E := E) (qual := "share_by_coming") (sc := defScope s_share_by_coming) (N := ["ground", "inside", "who", "goals", "ranks", "away", "moves", "other"]) (G := ["ranks_to", "common", "without", "ranked", "len", "moves_of_both", "pulling_moves", "staying_moves", "Share"]) hr (by decide +kernel)
  have hr_common := hr
  have hr_moves_of_both := hr
  have hr_pulling_moves := hr
  have hr_ranked := hr
  have hr_ranks_to := hr
  have hr_staying_moves := hr
  have hr_without := hr
  exact (Z.es_cons (Z.es_set T 4 rfl (Z.ev_call C_ranks_to hr_ranks_to T 0 rfl m_ranks_to K_ranks_to B_ranks_to (Z.ea_cons (Z.ev_name T 0 rfl) (Z.ea_cons (Z.ev_name T 1 rfl) (Z.ea_cons (Z.ev_name T 2 rfl) (Z.ea_cons (Z.ev_call C_common hr_common T 1 rfl m_common K_common B_common (Z.ea_cons (Z.ev_name T 3 rfl) (Z.ea_cons (Z.ev_name T 1 rfl) Z.ea_nil)) rfl (aCons_len (aCons_len aNil_len))) Z.ea_nil)))) rfl (aCons_len (aCons_len (aCons_len (aCons_len aNil_len))))))
      (Z.es_cons (Z.es_set T 5 rfl (Z.ev_call C_without hr_without T 2 rfl m_without K_without B_without (Z.ea_cons (Z.ev_name T 1 rfl) (Z.ea_cons (Z.ev_call C_ranked hr_ranked T 3 rfl m_ranked K_ranked B_ranked (Z.ea_cons (Z.ev_name T 4 rfl) Z.ea_nil) rfl (aCons_len aNil_len)) Z.ea_nil)) rfl (aCons_len (aCons_len aNil_len))))
      (Z.es_cons (Z.es_if (Z.evt_eq T.hu (Z.EvE.b (Z.ev_len T 4 rfl b_len (Z.EvE.b (Z.ev_name T 5 rfl)))) (Z.EvE.b Z.ev_int)) (Z.es_cons (Z.es_set T 6 rfl (Z.ev_call C_moves_of_both hr_moves_of_both T 5 rfl m_moves_of_both K_moves_of_both B_moves_of_both (Z.ea_cons (Z.ev_call C_pulling_moves hr_pulling_moves T 6 rfl m_pulling_moves K_pulling_moves B_pulling_moves (Z.ea_cons (Z.ev_name T 0 rfl) (Z.ea_cons (Z.ev_name T 2 rfl) (Z.ea_cons (Z.ev_name T 4 rfl) Z.ea_nil))) rfl (aCons_len (aCons_len (aCons_len aNil_len)))) (Z.ea_cons (Z.ev_call C_staying_moves hr_staying_moves T 7 rfl m_staying_moves K_staying_moves B_staying_moves (Z.ea_cons (Z.ev_name T 0 rfl) (Z.ea_cons (Z.ev_name T 2 rfl) (Z.ea_cons (Z.ev_name T 1 rfl) Z.ea_nil))) rfl (aCons_len (aCons_len (aCons_len aNil_len)))) Z.ea_nil)) rfl (aCons_len (aCons_len aNil_len))))
      (Z.es_one (Z.es_ret (Z.ev_new MK_Share I_Share (hr.mono hk) T 8 rfl m_Share B_Share (Z.ea_cons (Z.ev_name T 2 rfl) (Z.ea_cons (Z.ev_name T 1 rfl) (Z.ea_cons (Z.ev_name T 6 rfl) Z.ea_nil))) (aCons_len (aCons_len (aCons_len aNil_len))))))) Z.es_nil)
      (Z.es_cons (Z.es_set T 7 rfl (Z.ev_sub (Z.EvE.b Z.ev_int) (Z.EvE.b (Z.ev_name T 2 rfl))))
      (Z.es_cons (Z.es_set T 4 rfl (Z.ev_call C_ranks_to hr_ranks_to T 0 rfl m_ranks_to K_ranks_to B_ranks_to (Z.ea_cons (Z.ev_name T 0 rfl) (Z.ea_cons (Z.ev_name T 1 rfl) (Z.ea_cons (Z.ev_name T 7 rfl) (Z.ea_cons (Z.ev_name T 5 rfl) Z.ea_nil)))) rfl (aCons_len (aCons_len (aCons_len (aCons_len aNil_len))))))
      (Z.es_cons (Z.es_set T 6 rfl (Z.ev_call C_moves_of_both hr_moves_of_both T 5 rfl m_moves_of_both K_moves_of_both B_moves_of_both (Z.ea_cons (Z.ev_call C_pulling_moves hr_pulling_moves T 6 rfl m_pulling_moves K_pulling_moves B_pulling_moves (Z.ea_cons (Z.ev_name T 0 rfl) (Z.ea_cons (Z.ev_name T 7 rfl) (Z.ea_cons (Z.ev_name T 4 rfl) Z.ea_nil))) rfl (aCons_len (aCons_len (aCons_len aNil_len)))) (Z.ea_cons (Z.ev_call C_staying_moves hr_staying_moves T 7 rfl m_staying_moves K_staying_moves B_staying_moves (Z.ea_cons (Z.ev_name T 0 rfl) (Z.ea_cons (Z.ev_name T 7 rfl) (Z.ea_cons (Z.ev_name T 5 rfl) Z.ea_nil))) rfl (aCons_len (aCons_len (aCons_len aNil_len)))) Z.ea_nil)) rfl (aCons_len (aCons_len aNil_len))))
      (Z.es_one (Z.es_ret (Z.ev_new MK_Share I_Share (hr.mono hk) T 8 rfl m_Share B_Share (Z.ea_cons (Z.ev_name T 7 rfl) (Z.ea_cons (Z.ev_call C_ranked hr_ranked T 3 rfl m_ranked K_ranked B_ranked (Z.ea_cons (Z.ev_name T 4 rfl) Z.ea_nil) rfl (aCons_len aNil_len)) (Z.ea_cons (Z.ev_name T 6 rfl) Z.ea_nil))) (aCons_len (aCons_len (aCons_len aNil_len))))))))))))
theorem S_winners_and_moves : FnScope ["ground", "shares", "winners", "moves", "share", "number"] ["ground", "shares"] (defScope s_winners_and_moves) := ⟨rfl, rfl, rfl, by decide +kernel, rfl, by decide +kernel, by decide +kernel⟩
theorem D_winners_and_moves {P : Program} {w : World} {K : PySem.W.Frag} {mg : Str → Option Value} {base : Heap} {f : Addr} {fd : FuncData} {k : Nat} (W_winners_and_moves : Fun K "winners_and_moves" "winners_and_moves" s_winners_and_moves f fd) {f_moves_of_both : Addr} {d_moves_of_both : FuncData} {F_moves_of_both : List PyData → R PyData} (C_moves_of_both : FnOk P w K mg base (CXD P w mg) k f_moves_of_both d_moves_of_both ["moves", "others"] (spD F_moves_of_both 2)) (m_moves_of_both : mg "moves_of_both" = some (.ref f_moves_of_both)) (K_moves_of_both : PySem.W.keepIn K (.ref f_moves_of_both) = true) (B_moves_of_both : Binds K d_moves_of_both ["moves", "others"] []) {f_no_moves : Addr} {d_no_moves : FuncData} {F_no_moves : List PyData → R PyData} (C_no_moves : FnOk P w K mg base (CXD P w mg) k f_no_moves d_no_moves ["ground"] (spD F_no_moves 1)) (m_no_moves : mg "no_moves" = some (.ref f_no_moves)) (K_no_moves : PySem.W.keepIn K (.ref f_no_moves) = true) (B_no_moves : Binds K d_no_moves ["ground"] []) (b_tuple : mg "tuple" = none) {c_Share : Addr} (cl_Share : Cls K c_Share) (n_Share_moves : NoAttr K c_Share "moves") (n_Share_places : NoAttr K c_Share "places") (n_Share_who : NoAttr K c_Share "who") :
    FnOk P w K mg base (CXD P w mg) (k + 1) f fd ["ground", "shares"] (spD (fnR 6 (M_winners_and_moves F_moves_of_both F_no_moves c_Share)) 2) := by
  refine Z.fn_data W_winners_and_moves S_winners_and_moves fun cdv A outer s H E hr => ?_
  have T := def_tb (cdv := cdv) (f := f) (P := P) (w := w) (K := K) (mg := mg) (base := base) (A := A) (outer := outer) (s := s) (H := H) (E := E) (qual := "winners_and_moves") (sc := defScope s_winners_and_moves) (N := ["ground", "shares", "winners", "moves", "share", "number"]) (G := ["no_moves", "moves_of_both", "tuple"]) hr (by decide +kernel)
  have hr_moves_of_both := hr
  have hr_no_moves := hr
  exact (Z.es_cons (Z.es_ownC 2 rfl (N := ["place"]) (own := 1) (G := []) (fr := []) T rfl rfl (oN := ["ground", "shares", "winners", "moves", "share", "number"]) (on := (defScope s_winners_and_moves).names) (by decide +kernel) (Z.ei_seq (Z.ev_name T 0 rfl)) (fits_name (by decide)) (fun cl C s' H' fp T => ⟨(Z.eg_name T 0 rfl), Z.ec_nil, Z.ev_none⟩))
      (Z.es_cons (Z.es_set T 3 rfl (Z.ev_call C_no_moves hr_no_moves T 0 rfl m_no_moves K_no_moves B_no_moves (Z.ea_cons (Z.ev_name T 0 rfl) Z.ea_nil) rfl (aCons_len aNil_len)))
      (Z.es_cons (Z.es_noxR (have T := T.nox; Z.es_for PassesOwn.never T.calm (Z.ei_seq (Z.ev_name T 1 rfl)) (Z.eg_name T 4 rfl) (Z.es_cons (Z.es_noxR (have T := T.nox; Z.es_for PassesOwn.never T.calm (Z.ei_seq (Z.ev_fld cl_Share n_Share_places (Z.ev_name T 4 rfl))) (Z.eg_name T 5 rfl) (Z.es_one (Z.es_putL T 2 rfl (have T := T.nox; (Z.ev_name T 5 rfl)) (Z.ev_fld cl_Share n_Share_who (Z.ev_name T 4 rfl))))))
      (Z.es_one (Z.es_set T 3 rfl (Z.ev_call C_moves_of_both hr_moves_of_both T 1 rfl m_moves_of_both K_moves_of_both B_moves_of_both (Z.ea_cons (Z.ev_name T 3 rfl) (Z.ea_cons (Z.ev_fld cl_Share n_Share_moves (Z.ev_name T 4 rfl)) Z.ea_nil)) rfl (aCons_len (aCons_len aNil_len))))))))
      (Z.es_one (Z.es_ret (Z.ev_tup (Z.ea_cons (Z.ev_tuple T 2 rfl b_tuple (Z.evb_name T 2 rfl)) (Z.ea_cons (Z.ev_name T 3 rfl) Z.ea_nil))))))))
theorem S_again : FnScope ["ground", "who", "goals", "shares", "inside", "share"] ["ground", "who", "goals"] (defScope s_again) := ⟨rfl, rfl, rfl, by decide +kernel, rfl, by decide +kernel, by decide +kernel⟩
theorem D_again {P : Program} {w : World} {K : PySem.W.Frag} {mg : Str → Option Value} {base : Heap} {f : Addr} {fd : FuncData} {k : Nat} (W_again : Fun K "again" "again" s_again f fd) {f_all_places : Addr} {d_all_places : FuncData} {F_all_places : List PyData → R PyData} (C_all_places : FnOk P w K mg base (CXD P w mg) k f_all_places d_all_places ["ground"] (spD F_all_places 1)) (m_all_places : mg "all_places" = some (.ref f_all_places)) (K_all_places : PySem.W.keepIn K (.ref f_all_places) = true) (B_all_places : Binds K d_all_places ["ground"] []) {f_are_some : Addr} {d_are_some : FuncData} {F_are_some : List PyData → R PyData} (C_are_some : FnOk P w K mg base (CXD P w mg) k f_are_some d_are_some ["thing", "count"] (spD F_are_some 2)) (m_are_some : mg "are_some" = some (.ref f_are_some)) (K_are_some : PySem.W.keepIn K (.ref f_are_some) = true) (B_are_some : Binds K d_are_some ["thing", "count"] []) {f_share_by_coming : Addr} {d_share_by_coming : FuncData} {F_share_by_coming : List PyData → R PyData} (C_share_by_coming : FnOk P w K mg base (CXD P w mg) k f_share_by_coming d_share_by_coming ["ground", "inside", "who", "goals"] (spD F_share_by_coming 4)) (m_share_by_coming : mg "share_by_coming" = some (.ref f_share_by_coming)) (K_share_by_coming : PySem.W.keepIn K (.ref f_share_by_coming) = true) (B_share_by_coming : Binds K d_share_by_coming ["ground", "inside", "who", "goals"] []) {f_winners_and_moves : Addr} {d_winners_and_moves : FuncData} {F_winners_and_moves : List PyData → R PyData} (C_winners_and_moves : FnOk P w K mg base (CXD P w mg) k f_winners_and_moves d_winners_and_moves ["ground", "shares"] (spD F_winners_and_moves 2)) (m_winners_and_moves : mg "winners_and_moves" = some (.ref f_winners_and_moves)) (K_winners_and_moves : PySem.W.keepIn K (.ref f_winners_and_moves) = true) (B_winners_and_moves : Binds K d_winners_and_moves ["ground", "shares"] []) {f_without : Addr} {d_without : FuncData} {F_without : List PyData → R PyData} (C_without : FnOk P w K mg base (CXD P w mg) k f_without d_without ["some", "others"] (spD F_without 2)) (m_without : mg "without" = some (.ref f_without)) (K_without : PySem.W.keepIn K (.ref f_without) = true) (B_without : Binds K d_without ["some", "others"] []) (b_len : mg "len" = none) {c_NoPart : Addr} (m_NoPart : mg "NoPart" = some (.ref c_NoPart)) (q_NoPart : PySem.W.excIn K c_NoPart bmV idV = true) {c_Share : Addr} (cl_Share : Cls K c_Share) (n_Share_places : NoAttr K c_Share "places") :
    FnOk P w K mg base (CXD P w mg) (k + 1) f fd ["ground", "who", "goals"] (spD (fnR 6 (M_again F_all_places F_are_some F_share_by_coming F_winners_and_moves F_without c_Share)) 3) := by
  refine Z.fn_data W_again S_again fun cdv A outer s H E hr => ?_
  have T := def_tb (cdv := cdv) (f := f) (P := P) (w := w) (K := K) (mg := mg) (base := base) (A := A) (outer := outer) (s := s) (H := H) (E := E) (qual := "again") (sc := defScope s_again) (N := ["ground", "who", "goals", "shares", "inside", "share"]) (G := ["are_some", "len", "NoPart", "all_places", "share_by_coming", "without", "winners_and_moves"]) hr (by decide +kernel)
  have hr_all_places := hr
  have hr_are_some := hr
  have hr_share_by_coming := hr
  have hr_winners_and_moves := hr
  have hr_without := hr
  exact (Z.es_cons (Z.es_if (Z.evt_not (Z.evt_val (Z.ev_call C_are_some hr_are_some T 0 rfl m_are_some K_are_some B_are_some (Z.ea_cons (Z.ev_name T 2 rfl) (Z.ea_cons (Z.ev_len T 1 rfl b_len (Z.EvE.b (Z.ev_name T 0 rfl))) Z.ea_nil)) rfl (aCons_len (aCons_len aNil_len))))) (Z.es_one (Z.es_raise T 2 rfl m_NoPart q_NoPart (have T := T.nox; Z.ev_str))) Z.es_nil)
      (Z.es_cons (Z.es_own T 3 rfl (Z.evn_lst Z.ea_nil))
      (Z.es_cons (Z.es_set T 4 rfl (Z.ev_call C_all_places hr_all_places T 3 rfl m_all_places K_all_places B_all_places (Z.ea_cons (Z.ev_name T 0 rfl) Z.ea_nil) rfl (aCons_len aNil_len)))
      (Z.es_cons (Z.es_noxR (have T := T.nox; Z.es_while 1000000 PassesOwn.never (Z.evt_gt (Z.EvE.b (Z.ev_len T 1 rfl b_len (Z.EvE.b (Z.ev_name T 4 rfl)))) (Z.EvE.b Z.ev_int)) (Z.es_cons (Z.es_set T 5 rfl (Z.ev_call C_share_by_coming hr_share_by_coming T 4 rfl m_share_by_coming K_share_by_coming B_share_by_coming (Z.ea_cons (Z.ev_name T 0 rfl) (Z.ea_cons (Z.ev_name T 4 rfl) (Z.ea_cons (Z.ev_name T 1 rfl) (Z.ea_cons (Z.ev_name T 2 rfl) Z.ea_nil)))) rfl (aCons_len (aCons_len (aCons_len (aCons_len aNil_len))))))
      (Z.es_cons (Z.es_append T 3 rfl (Z.ev_name T 5 rfl))
      (Z.es_one (Z.es_set T 4 rfl (Z.ev_call C_without hr_without T 5 rfl m_without K_without B_without (Z.ea_cons (Z.ev_name T 4 rfl) (Z.ea_cons (Z.ev_fld cl_Share n_Share_places (Z.ev_name T 5 rfl)) Z.ea_nil)) rfl (aCons_len (aCons_len aNil_len)))))))))
      (Z.es_one (Z.es_fz 3 (Z.es_ret (Z.ev_call C_winners_and_moves hr_winners_and_moves T 6 rfl m_winners_and_moves K_winners_and_moves B_winners_and_moves (Z.ea_cons (Z.ev_name T 0 rfl) (Z.ea_cons (Z.ev_name T 3 rfl) Z.ea_nil)) rfl (aCons_len (aCons_len aNil_len))))))))))
theorem S_law_refused : FnScope ["_law_ground_here", "_law_who", "_law_goals_here", "e"] ["_law_ground_here", "_law_who", "_law_goals_here"] (defScope s_law_refused) := ⟨rfl, rfl, rfl, by decide +kernel, rfl, by decide +kernel, by decide +kernel⟩
theorem D_law_refused {P : Program} {w : World} {K : PySem.W.Frag} {mg : Str → Option Value} {base : Heap} {f : Addr} {fd : FuncData} {k : Nat} (W_law_refused : Fun K "_law_refused" "_law_refused" s_law_refused f fd) {f_again : Addr} {d_again : FuncData} {F_again : List PyData → R PyData} (C_again : FnOk P w K mg base (CXD P w mg) k f_again d_again ["ground", "who", "goals"] (spD F_again 3)) (m_again : mg "again" = some (.ref f_again)) (K_again : PySem.W.keepIn K (.ref f_again) = true) (B_again : Binds K d_again ["ground", "who", "goals"] []) (b_isinstance : mg "isinstance" = none) {c_GroundError : Addr} (m_GroundError : mg "GroundError" = some (.ref c_GroundError)) (q_GroundError : PySem.W.excIn K c_GroundError bmV idV = true) {c_NoPart : Addr} (m_NoPart : mg "NoPart" = some (.ref c_NoPart)) (q_NoPart : PySem.W.excIn K c_NoPart bmV idV = true) (b_NoPart_NoPart : (Value.ref c_NoPart :: clsMro K c_NoPart).contains (.ref c_NoPart) = true) (k_NoPart_GroundError : PySem.W.kitOne K (.ref c_NoPart) (.ref c_GroundError) = some true) :
    FnOk P w K mg base (CXD P w mg) (k + 1) f fd ["_law_ground_here", "_law_who", "_law_goals_here"] (spD (fnR 4 (M_law_refused F_again)) 3) := by
  refine Z.fn_data W_law_refused S_law_refused fun cdv A outer s H E hr => ?_
  have T := def_tb (cdv := cdv) (f := f) (P := P) (w := w) (K := K) (mg := mg) (base := base) (A := A) (outer := outer) (s := s) (H := H) (E := E) (qual := "_law_refused") (sc := defScope s_law_refused) (N := ["_law_ground_here", "_law_who", "_law_goals_here", "e"]) (G := ["again", "NoPart", "isinstance", "GroundError"]) hr (by decide +kernel)
  have hr_again := hr
  exact (Z.es_cons (Z.es_tryE C_again hr_again T ⟨rfl, rfl⟩ 0 rfl m_again K_again B_again (have T := T.nox; (Z.ea_cons (Z.ev_name T 0 rfl) (Z.ea_cons (Z.ev_name T 1 rfl) (Z.ea_cons (Z.ev_name T 2 rfl) Z.ea_nil)))) (aCons_len (aCons_len (aCons_len aNil_len))) (HsOk.cons m_NoPart (eh_retAs T 1 rfl m_NoPart q_NoPart q_NoPart b_NoPart_NoPart 3 rfl rfl (f := fun p => (eIsx 3 p)) (fun p ob hc T => ((Z.ev_isx T List.mem_cons_self hc 3 rfl 2 rfl b_isinstance 3 rfl m_GroundError k_NoPart_GroundError)).un)) HsOk.nil))
      (Z.es_one (Z.es_ret Z.ev_bool)))
theorem S_law_some : FnScope ["_law_number", "_law_count", "_law_kind"] ["_law_number", "_law_count"] (defScope s_law_some) := ⟨rfl, rfl, rfl, by decide +kernel, rfl, by decide +kernel, by decide +kernel⟩
theorem D_law_some {P : Program} {w : World} {K : PySem.W.Frag} {mg : Str → Option Value} {base : Heap} {f : Addr} {fd : FuncData} {k : Nat} (W_law_some : Fun K "_law_some" "_law_some" s_law_some f fd) {f_law_drawn : Addr} {d_law_drawn : FuncData} {F_law_drawn : List PyData → R PyData} (C_law_drawn : FnOk P w K mg base (CXD P w mg) k f_law_drawn d_law_drawn ["_law_number", "_law_k"] (spD F_law_drawn 2)) (m_law_drawn : mg "_law_drawn" = some (.ref f_law_drawn)) (K_law_drawn : PySem.W.keepIn K (.ref f_law_drawn) = true) (B_law_drawn : Binds K d_law_drawn ["_law_number", "_law_k"] []) (b_range : mg "range" = none) (b_tuple : mg "tuple" = none) :
    FnOk P w K mg base (CXD P w mg) (k + 1) f fd ["_law_number", "_law_count"] (spD (fnR 3 (M_law_some F_law_drawn)) 2) := by
  refine Z.fn_data W_law_some S_law_some fun cdv A outer s H E hr => ?_
  have T := def_tb (cdv := cdv) (f := f) (P := P) (w := w) (K := K) (mg := mg) (base := base) (A := A) (outer := outer) (s := s) (H := H) (E := E) (qual := "_law_some") (sc := defScope s_law_some) (N := ["_law_number", "_law_count", "_law_kind"]) (G := ["tuple", "range"]) hr (by decide +kernel)
  have hr_law_drawn := hr
  exact (Z.es_cons (Z.es_set T 2 rfl (Z.ev_mod (Z.EvE.b (Z.ev_name T 0 rfl)) (Z.EvE.b Z.ev_int)))
      (Z.es_one (Z.es_ret (Z.ev_tuple T 0 rfl b_tuple (Z.EvN.b (Z.evn_compD (N := ["_law_k", "_law_kind", "_law_number"]) (own := 1) (G := ["_law_drawn"]) (fr := [2, 0]) T rfl rfl (oN := ["_law_number", "_law_count", "_law_kind"]) (on := (defScope s_law_some).names) (by decide +kernel) (Z.ei_range1 T 1 rfl b_range (Z.ea_cons (Z.ev_name T 1 rfl) Z.ea_nil) (aCons_len aNil_len)) (fits_name (by decide)) (fun cl C s' H' fp T => ⟨(Z.eg_name T 0 rfl), (Z.ec_one (Z.EvW.t (Z.evw_or (Z.evt_eq T.hu (Z.EvE.b (Z.ev_name T 1 rfl)) (Z.EvE.b Z.ev_int)) (Z.evw_or1 (Z.evt_lt (Z.EvE.b (Z.ev_mod (Z.EvE.b (Z.ev_call C_law_drawn hr_law_drawn T 0 rfl m_law_drawn K_law_drawn B_law_drawn (Z.ea_cons (Z.ev_name T 2 rfl) (Z.ea_cons (Z.ev_name T 0 rfl) Z.ea_nil)) rfl (aCons_len (aCons_len aNil_len)))) (Z.EvE.b Z.ev_int))) (Z.EvE.b (Z.ev_name T 1 rfl))))))), (Z.ev_name T 0 rfl)⟩)))))))
theorem S_law_moves_good : FnScope ["_law_moves", "_law_ground_here", "_law_move", "_law_place_here"] ["_law_moves", "_law_ground_here"] (defScope s_law_moves_good) := ⟨rfl, rfl, rfl, by decide +kernel, rfl, by decide +kernel, by decide +kernel⟩
theorem D_law_moves_good {P : Program} {w : World} {K : PySem.W.Frag} {mg : Str → Option Value} {base : Heap} {f : Addr} {fd : FuncData} {k : Nat} (W_law_moves_good : Fun K "_law_moves_good" "_law_moves_good" s_law_moves_good f fd) (b_bool : mg "bool" = none) (b_int : mg "int" = none) (b_isinstance : mg "isinstance" = none) (b_len : mg "len" = none) (b_tuple : mg "tuple" = none) (b_zip : mg "zip" = none) :
    FnOk P w K mg base (CXD P w mg) (k + 1) f fd ["_law_moves", "_law_ground_here"] (spD (fnR 4 (M_law_moves_good)) 2) := by
  refine Z.fn_data W_law_moves_good S_law_moves_good fun cdv A outer s H E hr => ?_
  have T := def_tb (cdv := cdv) (f := f) (P := P) (w := w) (K := K) (mg := mg) (base := base) (A := A) (outer := outer) (s := s) (H := H) (E := E) (qual := "_law_moves_good") (sc := defScope s_law_moves_good) (N := ["_law_moves", "_law_ground_here", "_law_move", "_law_place_here"]) (G := ["isinstance", "tuple", "len", "zip", "bool", "int"]) hr (by decide +kernel)
  exact (Z.es_cons (Z.es_if (Z.EvW.t (Z.evw_or (Z.evt_not (Z.evt_val (Z.ev_isi_tuple T 0 rfl b_isinstance T 1 rfl b_tuple (Z.EvE.b (Z.ev_name T 0 rfl))))) (Z.evw_or1 (Z.evt_ne T.hu (Z.EvE.b (Z.ev_len T 2 rfl b_len (Z.EvE.b (Z.ev_name T 0 rfl)))) (Z.EvE.b (Z.ev_len T 2 rfl b_len (Z.EvE.b (Z.ev_name T 1 rfl)))))))) (Z.es_one (Z.es_ret Z.ev_bool)) Z.es_nil)
      (Z.es_cons (Z.es_noxR (have T := T.nox; Z.es_for PassesOwn.never T.calm (Z.ei_zip T 3 rfl b_zip (Z.ev_name T 0 rfl) (Z.ev_name T 1 rfl)) (Z.eg_pair T 2 3 rfl rfl) (Z.es_cons (Z.es_if (Z.EvW.t (Z.evw_or (Z.evt_val (Z.ev_isi_bool T 0 rfl b_isinstance T 4 rfl b_bool (Z.EvE.b (Z.ev_name T 2 rfl)))) (Z.evw_or1 (Z.EvW.t (Z.evw_and (Z.evt_notN (Z.EvE.b (Z.ev_name T 2 rfl)) (Z.EvE.b Z.ev_none)) (Z.evw_and1 (Z.evt_not (Z.evt_val (Z.ev_isi_int T 0 rfl b_isinstance T 5 rfl b_int (Z.EvE.b (Z.ev_name T 2 rfl))))))))))) (Z.es_one (Z.es_ret Z.ev_bool)) Z.es_nil)
      (Z.es_one (Z.es_if (Z.EvW.t (Z.evw_and (Z.evt_notN (Z.EvE.b (Z.ev_name T 2 rfl)) (Z.EvE.b Z.ev_none)) (Z.evw_and1 (Z.evt_notIn T.hu (Z.EvE.b (Z.ev_name T 2 rfl)) (Z.EvE.b (Z.ev_ix T.hu (Z.EvE.b (Z.ev_name T 3 rfl)) (Z.EvE.b Z.ev_int) (fun _ _ => rfl))) (by with_unfolding_all rfl))))) (Z.es_one (Z.es_ret Z.ev_bool)) Z.es_nil)))))
      (Z.es_one (Z.es_ret Z.ev_bool))))
theorem S_law_told_well : FnScope ["_law_found", "_law_ground_here", "_law_place_here", "_law_winner", "_law_move"] ["_law_found", "_law_ground_here"] (defScope s_law_told_well) := ⟨rfl, rfl, rfl, by decide +kernel, rfl, by decide +kernel, by decide +kernel⟩
theorem D_law_told_well {P : Program} {w : World} {K : PySem.W.Frag} {mg : Str → Option Value} {base : Heap} {f : Addr} {fd : FuncData} {k : Nat} (W_law_told_well : Fun K "_law_told_well" "_law_told_well" s_law_told_well f fd) {f_law_moves_good : Addr} {d_law_moves_good : FuncData} {F_law_moves_good : List PyData → R PyData} (C_law_moves_good : FnOk P w K mg base (CXD P w mg) k f_law_moves_good d_law_moves_good ["_law_moves", "_law_ground_here"] (spD F_law_moves_good 2)) (m_law_moves_good : mg "_law_moves_good" = some (.ref f_law_moves_good)) (K_law_moves_good : PySem.W.keepIn K (.ref f_law_moves_good) = true) (B_law_moves_good : Binds K d_law_moves_good ["_law_moves", "_law_ground_here"] []) (b_bool : mg "bool" = none) (b_int : mg "int" = none) (b_isinstance : mg "isinstance" = none) (b_len : mg "len" = none) (b_tuple : mg "tuple" = none) (b_zip : mg "zip" = none) :
    FnOk P w K mg base (CXD P w mg) (k + 1) f fd ["_law_found", "_law_ground_here"] (spD (fnR 5 (M_law_told_well F_law_moves_good)) 2) := by
  refine Z.fn_data W_law_told_well S_law_told_well fun cdv A outer s H E hr => ?_
  have T := def_tb (cdv := cdv) (f := f) (P := P) (w := w) (K := K) (mg := mg) (base := base) (A := A) (outer := outer) (s := s) (H := H) (E := E) (qual := "_law_told_well") (sc := defScope s_law_told_well) (N := ["_law_found", "_law_ground_here", "_law_place_here", "_law_winner", "_law_move"]) (G := ["isinstance", "tuple", "len", "_law_moves_good", "zip", "int", "bool"]) hr (by decide +kernel)
  have hr_law_moves_good := hr
  exact (Z.es_cons (Z.es_if (Z.EvW.t (Z.evw_or (Z.evt_not (Z.evt_val (Z.ev_isi_tuple T 0 rfl b_isinstance T 1 rfl b_tuple (Z.EvE.b (Z.ev_name T 0 rfl))))) (Z.evw_or (Z.evt_ne T.hu (Z.EvE.b (Z.ev_len T 2 rfl b_len (Z.EvE.b (Z.ev_name T 0 rfl)))) (Z.EvE.b Z.ev_int)) (Z.evw_or1 (Z.evt_not (Z.evt_val (Z.ev_isi_tuple T 0 rfl b_isinstance T 1 rfl b_tuple (Z.EvE.b (Z.ev_ix T.hu (Z.EvE.b (Z.ev_name T 0 rfl)) (Z.EvE.b Z.ev_int) (fun _ _ => rfl)))))))))) (Z.es_one (Z.es_ret Z.ev_bool)) Z.es_nil)
      (Z.es_cons (Z.es_if (Z.EvW.t (Z.evw_or (Z.evt_ne T.hu (Z.EvE.b (Z.ev_len T 2 rfl b_len (Z.EvE.b (Z.ev_ix T.hu (Z.EvE.b (Z.ev_name T 0 rfl)) (Z.EvE.b Z.ev_int) (fun _ _ => rfl))))) (Z.EvE.b (Z.ev_len T 2 rfl b_len (Z.EvE.b (Z.ev_name T 1 rfl))))) (Z.evw_or1 (Z.evt_not (Z.evt_val (Z.ev_call C_law_moves_good hr_law_moves_good T 3 rfl m_law_moves_good K_law_moves_good B_law_moves_good (Z.ea_cons (Z.ev_ix T.hu (Z.EvE.b (Z.ev_name T 0 rfl)) (Z.EvE.b Z.ev_int) (fun _ _ => rfl)) (Z.ea_cons (Z.ev_name T 1 rfl) Z.ea_nil)) rfl (aCons_len (aCons_len aNil_len)))))))) (Z.es_one (Z.es_ret Z.ev_bool)) Z.es_nil)
      (Z.es_cons (Z.es_noxR (have T := T.nox; Z.es_for PassesOwn.never T.calm (Z.ei_zip3 T 4 rfl b_zip (Z.ev_name T 1 rfl) (Z.ev_ix T.hu (Z.EvE.b (Z.ev_name T 0 rfl)) (Z.EvE.b Z.ev_int) (fun _ _ => rfl)) (Z.ev_ix T.hu (Z.EvE.b (Z.ev_name T 0 rfl)) (Z.EvE.b Z.ev_int) (fun _ _ => rfl))) (Z.eg_tri T 2 3 4 rfl rfl rfl) (Z.es_cons (Z.es_if (Z.EvW.t (Z.evw_or (Z.evt_not (Z.evt_val (Z.ev_isi_int T 0 rfl b_isinstance T 5 rfl b_int (Z.EvE.b (Z.ev_name T 3 rfl))))) (Z.evw_or (Z.evt_val (Z.ev_isi_bool T 0 rfl b_isinstance T 6 rfl b_bool (Z.EvE.b (Z.ev_name T 3 rfl)))) (Z.evw_or1 (Z.evt_notIn T.hu (Z.EvE.b (Z.ev_name T 3 rfl)) (Z.EvE.b (Z.ev_tup (Z.ea_cons Z.ev_int (Z.ea_cons Z.ev_int Z.ea_nil)))) (by with_unfolding_all rfl)))))) (Z.es_one (Z.es_ret Z.ev_bool)) Z.es_nil)
      (Z.es_one (Z.es_if (Z.evt_ne T.hu (Z.EvE.b (Z.ev_isN (Z.EvE.b (Z.ev_name T 4 rfl)) (Z.EvE.b Z.ev_none))) (Z.EvE.b (Z.ev_ne T.hu (Z.EvE.b (Z.ev_ix T.hu (Z.EvE.b (Z.ev_name T 2 rfl)) (Z.EvE.b Z.ev_int) (fun _ _ => rfl))) (Z.EvE.b (Z.ev_name T 3 rfl))))) (Z.es_one (Z.es_ret Z.ev_bool)) Z.es_nil)))))
      (Z.es_one (Z.es_ret Z.ev_bool)))))
theorem S_law : FnScope ["_law_script", "_law_ground_here", "_law_goals_here", "_law_who", "_law_odd", "_law_found", "_law_mine", "_law_others", "_law_free", "_law_place_here", "_law_back"] ["_law_script"] (defScope s_law) := ⟨rfl, rfl, rfl, by decide +kernel, rfl, by decide +kernel, by decide +kernel⟩
theorem D_law {P : Program} {w : World} {K : PySem.W.Frag} {mg : Str → Option Value} {base : Heap} {f : Addr} {fd : FuncData} {k : Nat} (W_law : Fun K "law" "law" s_law f fd) {f_law_ground : Addr} {d_law_ground : FuncData} {F_law_ground : List PyData → R PyData} (C_law_ground : FnOk P w K mg base (CXD P w mg) k f_law_ground d_law_ground ["_law_script", "_law_most"] (spD F_law_ground 2)) (m_law_ground : mg "_law_ground" = some (.ref f_law_ground)) (K_law_ground : PySem.W.keepIn K (.ref f_law_ground) = true) (B_law_ground : Binds K d_law_ground ["_law_script", "_law_most"] []) {f_law_inside : Addr} {d_law_inside : FuncData} {F_law_inside : List PyData → R PyData} (C_law_inside : FnOk P w K mg base (CXD P w mg) k f_law_inside d_law_inside ["_law_ground_here", "_law_who", "_law_moves", "_law_places"] (spD F_law_inside 4)) (m_law_inside : mg "_law_inside" = some (.ref f_law_inside)) (K_law_inside : PySem.W.keepIn K (.ref f_law_inside) = true) (B_law_inside : Binds K d_law_inside ["_law_ground_here", "_law_who", "_law_moves", "_law_places"] []) {f_law_mixed : Addr} {d_law_mixed : FuncData} {F_law_mixed : List PyData → R PyData} (C_law_mixed : FnOk P w K mg base (CXD P w mg) k f_law_mixed d_law_mixed ["_law_script", "_law_k"] (spD F_law_mixed 2)) (m_law_mixed : mg "_law_mixed" = some (.ref f_law_mixed)) (K_law_mixed : PySem.W.keepIn K (.ref f_law_mixed) = true) (B_law_mixed : Binds K d_law_mixed ["_law_script", "_law_k"] []) {f_law_reached : Addr} {d_law_reached : FuncData} {F_law_reached : List PyData → R PyData} (C_law_reached : FnOk P w K mg base (CXD P w mg) k f_law_reached d_law_reached ["_law_ground_here", "_law_who", "_law_moves", "_law_start", "_law_allowed"] (spD F_law_reached 5)) (m_law_reached : mg "_law_reached" = some (.ref f_law_reached)) (K_law_reached : PySem.W.keepIn K (.ref f_law_reached) = true) (B_law_reached : Binds K d_law_reached ["_law_ground_here", "_law_who", "_law_moves", "_law_start", "_law_allowed"] []) {f_law_refused : Addr} {d_law_refused : FuncData} {F_law_refused : List PyData → R PyData} (C_law_refused : FnOk P w K mg base (CXD P w mg) k f_law_refused d_law_refused ["_law_ground_here", "_law_who", "_law_goals_here"] (spD F_law_refused 3)) (m_law_refused : mg "_law_refused" = some (.ref f_law_refused)) (K_law_refused : PySem.W.keepIn K (.ref f_law_refused) = true) (B_law_refused : Binds K d_law_refused ["_law_ground_here", "_law_who", "_law_goals_here"] []) {f_law_some : Addr} {d_law_some : FuncData} {F_law_some : List PyData → R PyData} (C_law_some : FnOk P w K mg base (CXD P w mg) k f_law_some d_law_some ["_law_number", "_law_count"] (spD F_law_some 2)) (m_law_some : mg "_law_some" = some (.ref f_law_some)) (K_law_some : PySem.W.keepIn K (.ref f_law_some) = true) (B_law_some : Binds K d_law_some ["_law_number", "_law_count"] []) {f_law_told_well : Addr} {d_law_told_well : FuncData} {F_law_told_well : List PyData → R PyData} (C_law_told_well : FnOk P w K mg base (CXD P w mg) k f_law_told_well d_law_told_well ["_law_found", "_law_ground_here"] (spD F_law_told_well 2)) (m_law_told_well : mg "_law_told_well" = some (.ref f_law_told_well)) (K_law_told_well : PySem.W.keepIn K (.ref f_law_told_well) = true) (B_law_told_well : Binds K d_law_told_well ["_law_found", "_law_ground_here"] []) {f_again : Addr} {d_again : FuncData} {F_again : List PyData → R PyData} (C_again : FnOk P w K mg base (CXD P w mg) k f_again d_again ["ground", "who", "goals"] (spD F_again 3)) (m_again : mg "again" = some (.ref f_again)) (K_again : PySem.W.keepIn K (.ref f_again) = true) (B_again : Binds K d_again ["ground", "who", "goals"] []) (b_len : mg "len" = none) (b_range : mg "range" = none) :
    FnOk P w K mg base (CXD P w mg) (k + 1) f fd ["_law_script"] (spD (fnR 11 (M_law F_law_ground F_law_inside F_law_mixed F_law_reached F_law_refused F_law_some F_law_told_well F_again)) 1) := by
  refine Z.fn_data W_law S_law fun cdv A outer s H E hr => ?_
  have T := def_tb (cdv := cdv) (f := f) (P := P) (w := w) (K := K) (mg := mg) (base := base) (A := A) (outer := outer) (s := s) (H := H) (E := E) (qual := "law") (sc := defScope s_law) (N := ["_law_script", "_law_ground_here", "_law_goals_here", "_law_who", "_law_odd", "_law_found", "_law_mine", "_law_others", "_law_free", "_law_place_here", "_law_back"]) (G := ["_law_ground", "_law_some", "_law_mixed", "len", "_law_refused", "again", "_law_told_well", "range", "_law_inside", "_law_reached"]) hr (by decide +kernel)
  have hr_law_ground := hr
  have hr_law_inside := hr
  have hr_law_mixed := hr
  have hr_law_reached := hr
  have hr_law_refused := hr
  have hr_law_some := hr
  have hr_law_told_well := hr
  have hr_again := hr
  exact (Z.es_cons (Z.es_set T 1 rfl (Z.ev_call C_law_ground hr_law_ground T 0 rfl m_law_ground K_law_ground B_law_ground (Z.ea_cons (Z.ev_name T 0 rfl) (Z.ea_cons Z.ev_int Z.ea_nil)) rfl (aCons_len (aCons_len aNil_len))))
      (Z.es_cons (Z.es_set T 2 rfl (Z.ev_call C_law_some hr_law_some T 1 rfl m_law_some K_law_some B_law_some (Z.ea_cons (Z.ev_call C_law_mixed hr_law_mixed T 2 rfl m_law_mixed K_law_mixed B_law_mixed (Z.ea_cons (Z.ev_name T 0 rfl) (Z.ea_cons Z.ev_int Z.ea_nil)) rfl (aCons_len (aCons_len aNil_len))) (Z.ea_cons (Z.ev_len T 3 rfl b_len (Z.EvE.b (Z.ev_name T 1 rfl))) Z.ea_nil)) rfl (aCons_len (aCons_len aNil_len))))
      (Z.es_cons (Z.es_set T 3 rfl (Z.ev_mod (Z.EvE.b (Z.ev_div (Z.EvE.b (Z.ev_call C_law_mixed hr_law_mixed T 2 rfl m_law_mixed K_law_mixed B_law_mixed (Z.ea_cons (Z.ev_name T 0 rfl) (Z.ea_cons Z.ev_int Z.ea_nil)) rfl (aCons_len (aCons_len aNil_len)))) (Z.EvE.b Z.ev_int))) (Z.EvE.b Z.ev_int)))
      (Z.es_cons (Z.es_if (Z.evt_eq T.hu (Z.EvE.b (Z.ev_mod (Z.EvE.b (Z.ev_call C_law_mixed hr_law_mixed T 2 rfl m_law_mixed K_law_mixed B_law_mixed (Z.ea_cons (Z.ev_name T 0 rfl) (Z.ea_cons Z.ev_int Z.ea_nil)) rfl (aCons_len (aCons_len aNil_len)))) (Z.EvE.b Z.ev_int))) (Z.EvE.b Z.ev_int)) (Z.es_cons (Z.es_set T 4 rfl (Z.ev_ix T.hu (Z.EvN.b (Z.evn_lst (Z.ea_cons (Z.ev_tup (Z.ea_cons (Z.ev_len T 3 rfl b_len (Z.EvE.b (Z.ev_name T 1 rfl))) Z.ea_nil)) (Z.ea_cons (Z.ev_add (Z.EvE.b (Z.ev_name T 2 rfl)) (Z.EvE.b (Z.ev_mul (Z.EvE.b (Z.ev_tup (Z.ea_cons Z.ev_int Z.ea_nil))) (Z.EvE.b Z.ev_int)))) (Z.ea_cons (Z.EvN.e (Z.evn_lst (Z.ea_cons Z.ev_int Z.ea_nil))) (Z.ea_cons (Z.ev_tup (Z.ea_cons (Z.ev_neg (Z.EvE.b Z.ev_int)) Z.ea_nil)) (Z.ea_cons (Z.ev_tup (Z.ea_cons Z.ev_bool Z.ea_nil)) (Z.ea_cons Z.ev_none (Z.ea_cons (Z.ev_tup (Z.ea_cons Z.ev_int (Z.ea_cons Z.ev_int Z.ea_nil))) Z.ea_nil))))))))) (Z.EvE.b (Z.ev_mod (Z.EvE.b (Z.ev_div (Z.EvE.b (Z.ev_call C_law_mixed hr_law_mixed T 2 rfl m_law_mixed K_law_mixed B_law_mixed (Z.ea_cons (Z.ev_name T 0 rfl) (Z.ea_cons Z.ev_int Z.ea_nil)) rfl (aCons_len (aCons_len aNil_len)))) (Z.EvE.b Z.ev_int))) (Z.EvE.b Z.ev_int))) (fun _ _ => rfl)))
      (Z.es_one (Z.es_if (Z.evt_not (Z.evt_val (Z.ev_call C_law_refused hr_law_refused T 4 rfl m_law_refused K_law_refused B_law_refused (Z.ea_cons (Z.ev_name T 1 rfl) (Z.ea_cons (Z.ev_name T 3 rfl) (Z.ea_cons (Z.ev_name T 4 rfl) Z.ea_nil))) rfl (aCons_len (aCons_len (aCons_len aNil_len)))))) (Z.es_one (Z.es_ret Z.ev_bool)) Z.es_nil))) Z.es_nil)
      (Z.es_cons (Z.es_set T 5 rfl (Z.ev_call C_again hr_again T 5 rfl m_again K_again B_again (Z.ea_cons (Z.ev_name T 1 rfl) (Z.ea_cons (Z.ev_name T 3 rfl) (Z.ea_cons (Z.ev_name T 2 rfl) Z.ea_nil))) rfl (aCons_len (aCons_len (aCons_len aNil_len)))))
      (Z.es_cons (Z.es_if (Z.EvW.t (Z.evw_or (Z.evt_not (Z.evt_val (Z.ev_call C_law_told_well hr_law_told_well T 6 rfl m_law_told_well K_law_told_well B_law_told_well (Z.ea_cons (Z.ev_name T 5 rfl) (Z.ea_cons (Z.ev_name T 1 rfl) Z.ea_nil)) rfl (aCons_len (aCons_len aNil_len))))) (Z.evw_or1 (Z.evt_ne T.hu (Z.EvE.b (Z.ev_call C_again hr_again T 5 rfl m_again K_again B_again (Z.ea_cons (Z.ev_name T 1 rfl) (Z.ea_cons (Z.ev_name T 3 rfl) (Z.ea_cons (Z.ev_name T 2 rfl) Z.ea_nil))) rfl (aCons_len (aCons_len (aCons_len aNil_len))))) (Z.EvE.b (Z.ev_name T 5 rfl)))))) (Z.es_one (Z.es_ret Z.ev_bool)) Z.es_nil)
      (Z.es_cons (Z.EvS.fz (Z.es_ownC 6 rfl (N := ["_law_place_here", "_law_found", "_law_who"]) (own := 1) (G := []) (fr := [5, 3]) T rfl rfl (oN := ["_law_script", "_law_ground_here", "_law_goals_here", "_law_who", "_law_odd", "_law_found", "_law_mine", "_law_others", "_law_free", "_law_place_here", "_law_back"]) (on := (defScope s_law).names) (by decide +kernel) (Z.ei_range1 T 7 rfl b_range (Z.ea_cons (Z.ev_len T 3 rfl b_len (Z.EvE.b (Z.ev_name T 1 rfl))) Z.ea_nil) (aCons_len aNil_len)) (fits_name (by decide)) (fun cl C s' H' fp T => ⟨(Z.eg_name T 0 rfl), (Z.ec_one (Z.evt_eq T.hu (Z.EvE.b (Z.ev_ix T.hu (Z.EvE.b (Z.ev_ix T.hu (Z.EvE.b (Z.ev_name T 1 rfl)) (Z.EvE.b Z.ev_int) (fun _ _ => rfl))) (Z.EvE.b (Z.ev_name T 0 rfl)) (fun _ _ => rfl))) (Z.EvE.b (Z.ev_name T 2 rfl)))), (Z.ev_name T 0 rfl)⟩)) (show 6 < 11 by decide))
      (Z.es_cons (Z.EvS.fz (Z.es_ownC 7 rfl (N := ["_law_place_here", "_law_found", "_law_who"]) (own := 1) (G := []) (fr := [5, 3]) T rfl rfl (oN := ["_law_script", "_law_ground_here", "_law_goals_here", "_law_who", "_law_odd", "_law_found", "_law_mine", "_law_others", "_law_free", "_law_place_here", "_law_back"]) (on := (defScope s_law).names) (by decide +kernel) (Z.ei_range1 T 7 rfl b_range (Z.ea_cons (Z.ev_len T 3 rfl b_len (Z.EvE.b (Z.ev_name T 1 rfl))) Z.ea_nil) (aCons_len aNil_len)) (fits_name (by decide)) (fun cl C s' H' fp T => ⟨(Z.eg_name T 0 rfl), (Z.ec_one (Z.evt_ne T.hu (Z.EvE.b (Z.ev_ix T.hu (Z.EvE.b (Z.ev_ix T.hu (Z.EvE.b (Z.ev_name T 1 rfl)) (Z.EvE.b Z.ev_int) (fun _ _ => rfl))) (Z.EvE.b (Z.ev_name T 0 rfl)) (fun _ _ => rfl))) (Z.EvE.b (Z.ev_name T 2 rfl)))), (Z.ev_name T 0 rfl)⟩)) (show 7 < 11 by decide))
      (Z.es_cons (Z.es_if (Z.EvW.t (Z.evw_or (Z.evt_not (Z.evt_val (Z.ev_call C_law_inside hr_law_inside T 8 rfl m_law_inside K_law_inside B_law_inside (Z.ea_cons (Z.ev_name T 1 rfl) (Z.ea_cons (Z.ev_name T 3 rfl) (Z.ea_cons (Z.ev_ix T.hu (Z.EvE.b (Z.ev_name T 5 rfl)) (Z.EvE.b Z.ev_int) (fun _ _ => rfl)) (Z.ea_cons (Z.ev_name T 6 rfl) Z.ea_nil)))) rfl (aCons_len (aCons_len (aCons_len (aCons_len aNil_len))))))) (Z.evw_or1 (Z.evt_not (Z.evt_val (Z.ev_call C_law_inside hr_law_inside T 8 rfl m_law_inside K_law_inside B_law_inside (Z.ea_cons (Z.ev_name T 1 rfl) (Z.ea_cons (Z.ev_sub (Z.EvE.b Z.ev_int) (Z.EvE.b (Z.ev_name T 3 rfl))) (Z.ea_cons (Z.ev_ix T.hu (Z.EvE.b (Z.ev_name T 5 rfl)) (Z.EvE.b Z.ev_int) (fun _ _ => rfl)) (Z.ea_cons (Z.ev_name T 7 rfl) Z.ea_nil)))) rfl (aCons_len (aCons_len (aCons_len (aCons_len aNil_len)))))))))) (Z.es_one (Z.es_ret Z.ev_bool)) Z.es_nil)
      (Z.es_cons (Z.EvS.fz (Z.es_ownC 8 rfl (N := ["_law_place_here", "_law_goals_here"]) (own := 1) (G := []) (fr := [2]) T rfl rfl (oN := ["_law_script", "_law_ground_here", "_law_goals_here", "_law_who", "_law_odd", "_law_found", "_law_mine", "_law_others", "_law_free", "_law_place_here", "_law_back"]) (on := (defScope s_law).names) (by decide +kernel) (Z.ei_seq (Z.ev_name T 6 rfl)) (fits_name (by decide)) (fun cl C s' H' fp T => ⟨(Z.eg_name T 0 rfl), (Z.ec_one (Z.evt_notIn T.hu (Z.EvE.b (Z.ev_name T 0 rfl)) (Z.EvE.b (Z.ev_name T 1 rfl)) (by with_unfolding_all rfl))), (Z.ev_name T 0 rfl)⟩)) (show 8 < 11 by decide))
      (Z.es_cons (Z.es_noxR (have T := T.nox; Z.es_for PassesOwn.never T.calm (Z.ei_seq (Z.ev_name T 8 rfl)) (Z.eg_name T 9 rfl) (Z.es_one (Z.es_if (Z.evt_in T.hu (Z.EvE.b (Z.ev_name T 9 rfl)) (Z.EvE.b (Z.ev_call C_law_reached hr_law_reached T 9 rfl m_law_reached K_law_reached B_law_reached (Z.ea_cons (Z.ev_name T 1 rfl) (Z.ea_cons (Z.ev_name T 3 rfl) (Z.ea_cons (Z.ev_ix T.hu (Z.EvE.b (Z.ev_name T 5 rfl)) (Z.EvE.b Z.ev_int) (fun _ _ => rfl)) (Z.ea_cons (Z.ev_name T 9 rfl) (Z.ea_cons (Z.ev_name T 8 rfl) Z.ea_nil))))) rfl (aCons_len (aCons_len (aCons_len (aCons_len (aCons_len aNil_len))))))) (by with_unfolding_all rfl)) (Z.es_one (Z.es_ret Z.ev_bool)) Z.es_nil))))
      (Z.es_cons (Z.es_noxR (have T := T.nox; Z.es_for PassesOwn.never T.calm (Z.ei_seq (Z.ev_name T 7 rfl)) (Z.eg_name T 9 rfl) (Z.es_cons (Z.es_set T 10 rfl (Z.ev_call C_law_reached hr_law_reached T 9 rfl m_law_reached K_law_reached B_law_reached (Z.ea_cons (Z.ev_name T 1 rfl) (Z.ea_cons (Z.ev_sub (Z.EvE.b Z.ev_int) (Z.EvE.b (Z.ev_name T 3 rfl))) (Z.ea_cons (Z.ev_ix T.hu (Z.EvE.b (Z.ev_name T 5 rfl)) (Z.EvE.b Z.ev_int) (fun _ _ => rfl)) (Z.ea_cons (Z.ev_name T 9 rfl) (Z.ea_cons (Z.ev_name T 7 rfl) Z.ea_nil))))) rfl (aCons_len (aCons_len (aCons_len (aCons_len (aCons_len aNil_len)))))))
      (Z.es_one (Z.es_if (Z.EvW.t (Z.evw_and (Z.evt_in T.hu (Z.EvE.b (Z.ev_name T 9 rfl)) (Z.EvE.b (Z.ev_name T 2 rfl)) (by with_unfolding_all rfl)) (Z.evw_and1 (Z.evt_in T.hu (Z.EvE.b (Z.ev_name T 9 rfl)) (Z.EvE.b (Z.ev_name T 10 rfl)) (by with_unfolding_all rfl))))) (Z.es_one (Z.es_ret Z.ev_bool)) Z.es_nil)))))
      (Z.es_one (Z.es_ret Z.ev_bool))))))))))))))
end G
set_option Elab.async false
set_option linter.all false
set_option maxRecDepth 100000
set_option maxHeartbeats 4000000
namespace G
open PySem PySem.Spec PyProof.Rows L2 D2
noncomputable def F0 : List PyData → R PyData := fun ds => open Classical in if ∃ ns : List Int, ns.length ≤ 63 ∧ ds = [.list (ns.map .int)] then .ok (.bool true) else .no
theorem F0_true : lawOk F0 := fun ns h => if_pos ⟨ns, h, rfl⟩
theorem F0_sp {c_Share : Addr} (vs : List V) (H : Hp) (Q : VK) (E : XK) (h : spD F0 1 vs H Q E) : spD (F_law c_Share) 1 vs H Q E := by
  obtain ⟨ds, r, hl, q⟩ := h
  refine ⟨ds, r, hl, ?_⟩
  by_cases hd : ∃ ns : List Int, ns.length ≤ 63 ∧ ds = [.list (ns.map .int)]
  · obtain ⟨ns, h1, rfl⟩ := hd
    rw [F0_true ns h1] at q
    rw [law_true c_Share ns h1]
    exact q
  · unfold F0 at q
    rw [if_neg hd] at q
    exact q.elim
theorem all_mk {l : PySem.W.OpenLaw} {w : World} {K : PySem.W.Frag} {h : Heap} {mg : Str → Option Value} {fa : Addr} (X : K.In h) (G : h.Ns mainGlobals mg) (hfa : mg "law" = some (.ref fa))
    {f0 : Addr} {od0 an0 : Option Addr} {sl0 : Array (Option Value)} {oc0 kV0 dc0 pm0 cd0 ct0 : Value}
    {f1 : Addr} {od1 an1 : Option Addr} {sl1 : Array (Option Value)} {oc1 kV1 dc1 pm1 cd1 ct1 : Value}
    {f2 : Addr} {od2 an2 : Option Addr} {sl2 : Array (Option Value)} {oc2 kV2 dc2 pm2 cd2 ct2 : Value}
    {f3 : Addr} {od3 an3 : Option Addr} {sl3 : Array (Option Value)} {oc3 kV3 dc3 pm3 cd3 ct3 : Value}
    {f4 : Addr} {od4 an4 : Option Addr} {sl4 : Array (Option Value)} {oc4 kV4 dc4 pm4 cd4 ct4 : Value}
    {f5 : Addr} {od5 an5 : Option Addr} {sl5 : Array (Option Value)} {oc5 kV5 dc5 pm5 cd5 ct5 : Value}
    {f6 : Addr} {od6 an6 : Option Addr} {sl6 : Array (Option Value)} {oc6 kV6 dc6 pm6 cd6 ct6 : Value}
    {f7 : Addr} {od7 an7 : Option Addr} {sl7 : Array (Option Value)} {oc7 kV7 dc7 pm7 cd7 ct7 : Value}
    {f8 : Addr} {od8 an8 : Option Addr} {sl8 : Array (Option Value)} {oc8 kV8 dc8 pm8 cd8 ct8 : Value}
    {f9 : Addr} {od9 an9 : Option Addr} {sl9 : Array (Option Value)} {oc9 kV9 dc9 pm9 cd9 ct9 : Value}
    {f10 : Addr} {od10 an10 : Option Addr} {sl10 : Array (Option Value)} {oc10 kV10 dc10 pm10 cd10 ct10 : Value}
    {f11 : Addr} {od11 an11 : Option Addr} {sl11 : Array (Option Value)} {oc11 kV11 dc11 pm11 cd11 ct11 : Value}
    {f12 : Addr} {od12 an12 : Option Addr} {sl12 : Array (Option Value)} {oc12 kV12 dc12 pm12 cd12 ct12 : Value}
    {f13 : Addr} {od13 an13 : Option Addr} {sl13 : Array (Option Value)} {oc13 kV13 dc13 pm13 cd13 ct13 : Value}
    {f14 : Addr} {od14 an14 : Option Addr} {sl14 : Array (Option Value)} {oc14 kV14 dc14 pm14 cd14 ct14 : Value}
    {f15 : Addr} {od15 an15 : Option Addr} {sl15 : Array (Option Value)} {oc15 kV15 dc15 pm15 cd15 ct15 : Value}
    {f16 : Addr} {od16 an16 : Option Addr} {sl16 : Array (Option Value)} {oc16 kV16 dc16 pm16 cd16 ct16 : Value}
    {f17 : Addr} {od17 an17 : Option Addr} {sl17 : Array (Option Value)} {oc17 kV17 dc17 pm17 cd17 ct17 : Value}
    {f18 : Addr} {od18 an18 : Option Addr} {sl18 : Array (Option Value)} {oc18 kV18 dc18 pm18 cd18 ct18 : Value}
    {f19 : Addr} {od19 an19 : Option Addr} {sl19 : Array (Option Value)} {oc19 kV19 dc19 pm19 cd19 ct19 : Value}
    {f20 : Addr} {od20 an20 : Option Addr} {sl20 : Array (Option Value)} {oc20 kV20 dc20 pm20 cd20 ct20 : Value}
    {f21 : Addr} {od21 an21 : Option Addr} {sl21 : Array (Option Value)} {oc21 kV21 dc21 pm21 cd21 ct21 : Value}
    {f22 : Addr} {od22 an22 : Option Addr} {sl22 : Array (Option Value)} {oc22 kV22 dc22 pm22 cd22 ct22 : Value}
    {f23 : Addr} {od23 an23 : Option Addr} {sl23 : Array (Option Value)} {oc23 kV23 dc23 pm23 cd23 ct23 : Value}
    {f24 : Addr} {od24 an24 : Option Addr} {sl24 : Array (Option Value)} {oc24 kV24 dc24 pm24 cd24 ct24 : Value}
    {f25 : Addr} {od25 an25 : Option Addr} {sl25 : Array (Option Value)} {oc25 kV25 dc25 pm25 cd25 ct25 : Value}
    {f26 : Addr} {od26 an26 : Option Addr} {sl26 : Array (Option Value)} {oc26 kV26 dc26 pm26 cd26 ct26 : Value}
    {f27 : Addr} {od27 an27 : Option Addr} {sl27 : Array (Option Value)} {oc27 kV27 dc27 pm27 cd27 ct27 : Value}
    {f28 : Addr} {od28 an28 : Option Addr} {sl28 : Array (Option Value)} {oc28 kV28 dc28 pm28 cd28 ct28 : Value}
    {f29 : Addr} {od29 an29 : Option Addr} {sl29 : Array (Option Value)} {oc29 kV29 dc29 pm29 cd29 ct29 : Value}
    (a0 : PySem.W.nsIn K mainGlobals "_law_cell_at" = some (some (.ref f0))) (l0 : K.lookup f0 = some ⟨oc0, od0, .func (PySem.W.fnOf "_law_cell_at" "_law_cell_at" (defArgs s_law_cell_at) (defBody s_law_cell_at) (defScope s_law_cell_at) .none kV0 dc0 pm0 an0 cd0 ct0), sl0⟩) (c0 : PySem.W.codeIn K cd0 "_law_cell_at" = true) (k0 : PySem.W.keepIn K (.ref f0) = true)
    (a1 : PySem.W.nsIn K mainGlobals "_law_mixed" = some (some (.ref f1))) (l1 : K.lookup f1 = some ⟨oc1, od1, .func (PySem.W.fnOf "_law_mixed" "_law_mixed" (defArgs s_law_mixed) (defBody s_law_mixed) (defScope s_law_mixed) .none kV1 dc1 pm1 an1 cd1 ct1), sl1⟩) (c1 : PySem.W.codeIn K cd1 "_law_mixed" = true) (k1 : PySem.W.keepIn K (.ref f1) = true)
    (a2 : PySem.W.nsIn K mainGlobals "_law_drawn" = some (some (.ref f2))) (l2 : K.lookup f2 = some ⟨oc2, od2, .func (PySem.W.fnOf "_law_drawn" "_law_drawn" (defArgs s_law_drawn) (defBody s_law_drawn) (defScope s_law_drawn) .none kV2 dc2 pm2 an2 cd2 ct2), sl2⟩) (c2 : PySem.W.codeIn K cd2 "_law_drawn" = true) (k2 : PySem.W.keepIn K (.ref f2) = true)
    (a3 : PySem.W.nsIn K mainGlobals "_law_goals" = some (some (.ref f3))) (l3 : K.lookup f3 = some ⟨oc3, od3, .func (PySem.W.fnOf "_law_goals" "_law_goals" (defArgs s_law_goals) (defBody s_law_goals) (defScope s_law_goals) .none kV3 dc3 pm3 an3 cd3 ct3), sl3⟩) (c3 : PySem.W.codeIn K cd3 "_law_goals" = true) (k3 : PySem.W.keepIn K (.ref f3) = true)
    (a4 : PySem.W.nsIn K mainGlobals "_law_place" = some (some (.ref f4))) (l4 : K.lookup f4 = some ⟨oc4, od4, .func (PySem.W.fnOf "_law_place" "_law_place" (defArgs s_law_place) (defBody s_law_place) (defScope s_law_place) .none kV4 dc4 pm4 an4 cd4 ct4), sl4⟩) (c4 : PySem.W.codeIn K cd4 "_law_place" = true) (k4 : PySem.W.keepIn K (.ref f4) = true)
    (a5 : PySem.W.nsIn K mainGlobals "_law_ground" = some (some (.ref f5))) (l5 : K.lookup f5 = some ⟨oc5, od5, .func (PySem.W.fnOf "_law_ground" "_law_ground" (defArgs s_law_ground) (defBody s_law_ground) (defScope s_law_ground) .none kV5 dc5 pm5 an5 cd5 ct5), sl5⟩) (c5 : PySem.W.codeIn K cd5 "_law_ground" = true) (k5 : PySem.W.keepIn K (.ref f5) = true)
    (a6 : PySem.W.nsIn K mainGlobals "_law_ways" = some (some (.ref f6))) (l6 : K.lookup f6 = some ⟨oc6, od6, .func (PySem.W.fnOf "_law_ways" "_law_ways" (defArgs s_law_ways) (defBody s_law_ways) (defScope s_law_ways) .none kV6 dc6 pm6 an6 cd6 ct6), sl6⟩) (c6 : PySem.W.codeIn K cd6 "_law_ways" = true) (k6 : PySem.W.keepIn K (.ref f6) = true)
    (a7 : PySem.W.nsIn K mainGlobals "_law_inside" = some (some (.ref f7))) (l7 : K.lookup f7 = some ⟨oc7, od7, .func (PySem.W.fnOf "_law_inside" "_law_inside" (defArgs s_law_inside) (defBody s_law_inside) (defScope s_law_inside) .none kV7 dc7 pm7 an7 cd7 ct7), sl7⟩) (c7 : PySem.W.codeIn K cd7 "_law_inside" = true) (k7 : PySem.W.keepIn K (.ref f7) = true)
    (a8 : PySem.W.nsIn K mainGlobals "_law_reached" = some (some (.ref f8))) (l8 : K.lookup f8 = some ⟨oc8, od8, .func (PySem.W.fnOf "_law_reached" "_law_reached" (defArgs s_law_reached) (defBody s_law_reached) (defScope s_law_reached) .none kV8 dc8 pm8 an8 cd8 ct8), sl8⟩) (c8 : PySem.W.codeIn K cd8 "_law_reached" = true) (k8 : PySem.W.keepIn K (.ref f8) = true)
    (a9 : PySem.W.nsIn K mainGlobals "all_places" = some (some (.ref f9))) (l9 : K.lookup f9 = some ⟨oc9, od9, .func (PySem.W.fnOf "all_places" "all_places" (defArgs s_all_places) (defBody s_all_places) (defScope s_all_places) .none kV9 dc9 pm9 an9 cd9 ct9), sl9⟩) (c9 : PySem.W.codeIn K cd9 "all_places" = true) (k9 : PySem.W.keepIn K (.ref f9) = true)
    (a10 : PySem.W.nsIn K mainGlobals "is_whole" = some (some (.ref f10))) (l10 : K.lookup f10 = some ⟨oc10, od10, .func (PySem.W.fnOf "is_whole" "is_whole" (defArgs s_is_whole) (defBody s_is_whole) (defScope s_is_whole) .none kV10 dc10 pm10 an10 cd10 ct10), sl10⟩) (c10 : PySem.W.codeIn K cd10 "is_whole" = true) (k10 : PySem.W.keepIn K (.ref f10) = true)
    (a11 : PySem.W.nsIn K mainGlobals "is_between" = some (some (.ref f11))) (l11 : K.lookup f11 = some ⟨oc11, od11, .func (PySem.W.fnOf "is_between" "is_between" (defArgs s_is_between) (defBody s_is_between) (defScope s_is_between) .none kV11 dc11 pm11 an11 cd11 ct11), sl11⟩) (c11 : PySem.W.codeIn K cd11 "is_between" = true) (k11 : PySem.W.keepIn K (.ref f11) = true)
    (a12 : PySem.W.nsIn K mainGlobals "are_some" = some (some (.ref f12))) (l12 : K.lookup f12 = some ⟨oc12, od12, .func (PySem.W.fnOf "are_some" "are_some" (defArgs s_are_some) (defBody s_are_some) (defScope s_are_some) .none kV12 dc12 pm12 an12 cd12 ct12), sl12⟩) (c12 : PySem.W.codeIn K cd12 "are_some" = true) (k12 : PySem.W.keepIn K (.ref f12) = true)
    (a13 : PySem.W.nsIn K mainGlobals "common" = some (some (.ref f13))) (l13 : K.lookup f13 = some ⟨oc13, od13, .func (PySem.W.fnOf "common" "common" (defArgs s_common) (defBody s_common) (defScope s_common) .none kV13 dc13 pm13 an13 cd13 ct13), sl13⟩) (c13 : PySem.W.codeIn K cd13 "common" = true) (k13 : PySem.W.keepIn K (.ref f13) = true)
    (a14 : PySem.W.nsIn K mainGlobals "moves_of_both" = some (some (.ref f14))) (l14 : K.lookup f14 = some ⟨oc14, od14, .func (PySem.W.fnOf "moves_of_both" "moves_of_both" (defArgs s_moves_of_both) (defBody s_moves_of_both) (defScope s_moves_of_both) .none kV14 dc14 pm14 an14 cd14 ct14), sl14⟩) (c14 : PySem.W.codeIn K cd14 "moves_of_both" = true) (k14 : PySem.W.keepIn K (.ref f14) = true)
    (a15 : PySem.W.nsIn K mainGlobals "ranked" = some (some (.ref f15))) (l15 : K.lookup f15 = some ⟨oc15, od15, .func (PySem.W.fnOf "ranked" "ranked" (defArgs s_ranked) (defBody s_ranked) (defScope s_ranked) .none kV15 dc15 pm15 an15 cd15 ct15), sl15⟩) (c15 : PySem.W.codeIn K cd15 "ranked" = true) (k15 : PySem.W.keepIn K (.ref f15) = true)
    (a16 : PySem.W.nsIn K mainGlobals "pulling_moves" = some (some (.ref f16))) (l16 : K.lookup f16 = some ⟨oc16, od16, .func (PySem.W.fnOf "pulling_moves" "pulling_moves" (defArgs s_pulling_moves) (defBody s_pulling_moves) (defScope s_pulling_moves) .none kV16 dc16 pm16 an16 cd16 ct16), sl16⟩) (c16 : PySem.W.codeIn K cd16 "pulling_moves" = true) (k16 : PySem.W.keepIn K (.ref f16) = true)
    (a17 : PySem.W.nsIn K mainGlobals "is_forced" = some (some (.ref f17))) (l17 : K.lookup f17 = some ⟨oc17, od17, .func (PySem.W.fnOf "is_forced" "is_forced" (defArgs s_is_forced) (defBody s_is_forced) (defScope s_is_forced) .none kV17 dc17 pm17 an17 cd17 ct17), sl17⟩) (c17 : PySem.W.codeIn K cd17 "is_forced" = true) (k17 : PySem.W.keepIn K (.ref f17) = true)
    (a18 : PySem.W.nsIn K mainGlobals "ranks_to" = some (some (.ref f18))) (l18 : K.lookup f18 = some ⟨oc18, od18, .func (PySem.W.fnOf "ranks_to" "ranks_to" (defArgs s_ranks_to) (defBody s_ranks_to) (defScope s_ranks_to) .none kV18 dc18 pm18 an18 cd18 ct18), sl18⟩) (c18 : PySem.W.codeIn K cd18 "ranks_to" = true) (k18 : PySem.W.keepIn K (.ref f18) = true)
    (a19 : PySem.W.nsIn K mainGlobals "no_moves" = some (some (.ref f19))) (l19 : K.lookup f19 = some ⟨oc19, od19, .func (PySem.W.fnOf "no_moves" "no_moves" (defArgs s_no_moves) (defBody s_no_moves) (defScope s_no_moves) .none kV19 dc19 pm19 an19 cd19 ct19), sl19⟩) (c19 : PySem.W.codeIn K cd19 "no_moves" = true) (k19 : PySem.W.keepIn K (.ref f19) = true)
    (a20 : PySem.W.nsIn K mainGlobals "staying_moves" = some (some (.ref f20))) (l20 : K.lookup f20 = some ⟨oc20, od20, .func (PySem.W.fnOf "staying_moves" "staying_moves" (defArgs s_staying_moves) (defBody s_staying_moves) (defScope s_staying_moves) .none kV20 dc20 pm20 an20 cd20 ct20), sl20⟩) (c20 : PySem.W.codeIn K cd20 "staying_moves" = true) (k20 : PySem.W.keepIn K (.ref f20) = true)
    (a21 : PySem.W.nsIn K mainGlobals "without" = some (some (.ref f21))) (l21 : K.lookup f21 = some ⟨oc21, od21, .func (PySem.W.fnOf "without" "without" (defArgs s_without) (defBody s_without) (defScope s_without) .none kV21 dc21 pm21 an21 cd21 ct21), sl21⟩) (c21 : PySem.W.codeIn K cd21 "without" = true) (k21 : PySem.W.keepIn K (.ref f21) = true)
    (a22 : PySem.W.nsIn K mainGlobals "share_by_coming" = some (some (.ref f22))) (l22 : K.lookup f22 = some ⟨oc22, od22, .func (PySem.W.fnOf "share_by_coming" "share_by_coming" (defArgs s_share_by_coming) (defBody s_share_by_coming) (defScope s_share_by_coming) .none kV22 dc22 pm22 an22 cd22 ct22), sl22⟩) (c22 : PySem.W.codeIn K cd22 "share_by_coming" = true) (k22 : PySem.W.keepIn K (.ref f22) = true)
    (a23 : PySem.W.nsIn K mainGlobals "winners_and_moves" = some (some (.ref f23))) (l23 : K.lookup f23 = some ⟨oc23, od23, .func (PySem.W.fnOf "winners_and_moves" "winners_and_moves" (defArgs s_winners_and_moves) (defBody s_winners_and_moves) (defScope s_winners_and_moves) .none kV23 dc23 pm23 an23 cd23 ct23), sl23⟩) (c23 : PySem.W.codeIn K cd23 "winners_and_moves" = true) (k23 : PySem.W.keepIn K (.ref f23) = true)
    (a24 : PySem.W.nsIn K mainGlobals "again" = some (some (.ref f24))) (l24 : K.lookup f24 = some ⟨oc24, od24, .func (PySem.W.fnOf "again" "again" (defArgs s_again) (defBody s_again) (defScope s_again) .none kV24 dc24 pm24 an24 cd24 ct24), sl24⟩) (c24 : PySem.W.codeIn K cd24 "again" = true) (k24 : PySem.W.keepIn K (.ref f24) = true)
    (a25 : PySem.W.nsIn K mainGlobals "_law_refused" = some (some (.ref f25))) (l25 : K.lookup f25 = some ⟨oc25, od25, .func (PySem.W.fnOf "_law_refused" "_law_refused" (defArgs s_law_refused) (defBody s_law_refused) (defScope s_law_refused) .none kV25 dc25 pm25 an25 cd25 ct25), sl25⟩) (c25 : PySem.W.codeIn K cd25 "_law_refused" = true) (k25 : PySem.W.keepIn K (.ref f25) = true)
    (a26 : PySem.W.nsIn K mainGlobals "_law_some" = some (some (.ref f26))) (l26 : K.lookup f26 = some ⟨oc26, od26, .func (PySem.W.fnOf "_law_some" "_law_some" (defArgs s_law_some) (defBody s_law_some) (defScope s_law_some) .none kV26 dc26 pm26 an26 cd26 ct26), sl26⟩) (c26 : PySem.W.codeIn K cd26 "_law_some" = true) (k26 : PySem.W.keepIn K (.ref f26) = true)
    (a27 : PySem.W.nsIn K mainGlobals "_law_moves_good" = some (some (.ref f27))) (l27 : K.lookup f27 = some ⟨oc27, od27, .func (PySem.W.fnOf "_law_moves_good" "_law_moves_good" (defArgs s_law_moves_good) (defBody s_law_moves_good) (defScope s_law_moves_good) .none kV27 dc27 pm27 an27 cd27 ct27), sl27⟩) (c27 : PySem.W.codeIn K cd27 "_law_moves_good" = true) (k27 : PySem.W.keepIn K (.ref f27) = true)
    (a28 : PySem.W.nsIn K mainGlobals "_law_told_well" = some (some (.ref f28))) (l28 : K.lookup f28 = some ⟨oc28, od28, .func (PySem.W.fnOf "_law_told_well" "_law_told_well" (defArgs s_law_told_well) (defBody s_law_told_well) (defScope s_law_told_well) .none kV28 dc28 pm28 an28 cd28 ct28), sl28⟩) (c28 : PySem.W.codeIn K cd28 "_law_told_well" = true) (k28 : PySem.W.keepIn K (.ref f28) = true)
    (a29 : PySem.W.nsIn K mainGlobals "law" = some (some (.ref f29))) (l29 : K.lookup f29 = some ⟨oc29, od29, .func (PySem.W.fnOf "law" "law" (defArgs s_law) (defBody s_law) (defScope s_law) .none kV29 dc29 pm29 an29 cd29 ct29), sl29⟩) (c29 : PySem.W.codeIn K cd29 "law" = true) (k29 : PySem.W.keepIn K (.ref f29) = true)
    {t0 : Tok} (qg0 : PySem.W.nsIn K mainGlobals "GOALS" = some (some (.int 3 t0)))
    {t1 : Tok} (qg1 : PySem.W.nsIn K mainGlobals "WHO" = some (some (.int 0 t1)))
    (qz0 : PySem.W.nsIn K mainGlobals "bool" = some none)
    (qz1 : PySem.W.nsIn K mainGlobals "enumerate" = some none)
    (qz2 : PySem.W.nsIn K mainGlobals "int" = some none)
    (qz3 : PySem.W.nsIn K mainGlobals "isinstance" = some none)
    (qz4 : PySem.W.nsIn K mainGlobals "len" = some none)
    (qz5 : PySem.W.nsIn K mainGlobals "list" = some none)
    (qz6 : PySem.W.nsIn K mainGlobals "max" = some none)
    (qz7 : PySem.W.nsIn K mainGlobals "min" = some none)
    (qz8 : PySem.W.nsIn K mainGlobals "range" = some none)
    (qz9 : PySem.W.nsIn K mainGlobals "sorted" = some none)
    (qz10 : PySem.W.nsIn K mainGlobals "tuple" = some none)
    (qz11 : PySem.W.nsIn K mainGlobals "zip" = some none)
    {cc0 : Addr} (qm0 : PySem.W.nsIn K mainGlobals "GroundError" = some (some (.ref cc0))) (qq0 : PySem.W.excIn K cc0 bmV idV = true)
    {cc1 : Addr} (qm1 : PySem.W.nsIn K mainGlobals "NoPart" = some (some (.ref cc1))) (qq1 : PySem.W.excIn K cc1 bmV idV = true)
    (qs0 : (Value.ref cc1 :: clsMro K cc1).contains (.ref cc1) = true)
    (qk0 : PySem.W.kitOne K (.ref cc1) (.ref cc0) = some true)
    {c_Share fi_Share : Addr} {od_Share an_Share : Option Addr} {sl_Share : Array (Option Value)} {oc_Share kV_Share dc_Share pm_Share cd_Share ct_Share : Value}
    (qa_Share : PySem.W.nsIn K mainGlobals "Share" = some (some (.ref c_Share)))
    (qi_Share : PySem.W.findIn K (.ref c_Share) "__init__" = some (some (.ref fi_Share))) (qf_Share : PySem.W.isFn K (.ref fi_Share) = true)
    (ql_Share : K.lookup fi_Share = some ⟨oc_Share, od_Share, .func (PySem.W.fnOf "__init__" "Share.__init__" (defArgs s_Share) (defBody s_Share) (defScope s_Share) .none kV_Share dc_Share pm_Share an_Share cd_Share ct_Share), sl_Share⟩)
    (qc_Share : PySem.W.codeIn K cd_Share "Share.__init__" = true) (qk_Share : PySem.W.keepIn K (.ref fi_Share) = true)
    (qpg_Share : PySem.W.plainGet K c_Share Str.empty = true) (qhd_Share : PySem.W.hasDictIn K c_Share = true) (qpo_Share : PySem.W.plainOver K c_Share = true) (qsa_Share : PySem.W.findIn K (.ref c_Share) "__setattr__" = some (some (.builtin "object.__setattr__"))) (qmk_Share : PySem.W.makesIn K c_Share = true) (qkc_Share : PySem.W.keepIn K (.ref c_Share) = true)
    (qn_Share_who : PySem.W.findIn K (.ref c_Share) "who" = some none)
    (qn_Share_places : PySem.W.findIn K (.ref c_Share) "places" = some none)
    (qn_Share_moves : PySem.W.findIn K (.ref c_Share) "moves" = some none)
    (nl : noLists K = true) :
    noLists K = true ∧ ∃ fd : FuncData, (∀ (s : Shared) (v : Value), BindsTo s fd ⟨[v], []⟩ [("_law_script", v)]) ∧ ∀ base : Heap, K.In base → base.Ns mainGlobals mg → FnOk l.prog w K mg base (CXD l.prog w mg) 6 fa fd ["_law_script"] (spD F0 1) := by
  have e := hfa.symm.trans (PySem.W.mg_of X G a29)
  cases e
  have F0 := fun_mk (st := s_law_cell_at) l0 c0 k0
  have b0 := F0.binds (ps := ["_law_script", "_law_k"]) fun _ _ _ _ _ _ us hl => match us, hl with | [_, _], _ => rfl
  have m0 := PySem.W.mg_of X G a0
  have F1 := fun_mk (st := s_law_mixed) l1 c1 k1
  have b1 := F1.binds (ps := ["_law_script", "_law_k"]) fun _ _ _ _ _ _ us hl => match us, hl with | [_, _], _ => rfl
  have m1 := PySem.W.mg_of X G a1
  have F2 := fun_mk (st := s_law_drawn) l2 c2 k2
  have b2 := F2.binds (ps := ["_law_number", "_law_k"]) fun _ _ _ _ _ _ us hl => match us, hl with | [_, _], _ => rfl
  have m2 := PySem.W.mg_of X G a2
  have F3 := fun_mk (st := s_law_goals) l3 c3 k3
  have b3 := F3.binds (ps := ["_law_number", "_law_count"]) fun _ _ _ _ _ _ us hl => match us, hl with | [_, _], _ => rfl
  have m3 := PySem.W.mg_of X G a3
  have F4 := fun_mk (st := s_law_place) l4 c4 k4
  have b4 := F4.binds (ps := ["_law_number", "_law_count", "_law_high"]) fun _ _ _ _ _ _ us hl => match us, hl with | [_, _, _], _ => rfl
  have m4 := PySem.W.mg_of X G a4
  have F5 := fun_mk (st := s_law_ground) l5 c5 k5
  have b5 := F5.binds (ps := ["_law_script", "_law_most"]) fun _ _ _ _ _ _ us hl => match us, hl with | [_, _], _ => rfl
  have m5 := PySem.W.mg_of X G a5
  have F6 := fun_mk (st := s_law_ways) l6 c6 k6
  have b6 := F6.binds (ps := ["_law_ground_here", "_law_who", "_law_moves", "_law_place_here"]) fun _ _ _ _ _ _ us hl => match us, hl with | [_, _, _, _], _ => rfl
  have m6 := PySem.W.mg_of X G a6
  have F7 := fun_mk (st := s_law_inside) l7 c7 k7
  have b7 := F7.binds (ps := ["_law_ground_here", "_law_who", "_law_moves", "_law_places"]) fun _ _ _ _ _ _ us hl => match us, hl with | [_, _, _, _], _ => rfl
  have m7 := PySem.W.mg_of X G a7
  have F8 := fun_mk (st := s_law_reached) l8 c8 k8
  have b8 := F8.binds (ps := ["_law_ground_here", "_law_who", "_law_moves", "_law_start", "_law_allowed"]) fun _ _ _ _ _ _ us hl => match us, hl with | [_, _, _, _, _], _ => rfl
  have m8 := PySem.W.mg_of X G a8
  have F9 := fun_mk (st := s_all_places) l9 c9 k9
  have b9 := F9.binds (ps := ["ground"]) fun _ _ _ _ _ _ us hl => match us, hl with | [_], _ => rfl
  have m9 := PySem.W.mg_of X G a9
  have F10 := fun_mk (st := s_is_whole) l10 c10 k10
  have b10 := F10.binds (ps := ["thing"]) fun _ _ _ _ _ _ us hl => match us, hl with | [_], _ => rfl
  have m10 := PySem.W.mg_of X G a10
  have F11 := fun_mk (st := s_is_between) l11 c11 k11
  have b11 := F11.binds (ps := ["thing", "low", "high"]) fun _ _ _ _ _ _ us hl => match us, hl with | [_, _, _], _ => rfl
  have m11 := PySem.W.mg_of X G a11
  have F12 := fun_mk (st := s_are_some) l12 c12 k12
  have b12 := F12.binds (ps := ["thing", "count"]) fun _ _ _ _ _ _ us hl => match us, hl with | [_, _], _ => rfl
  have m12 := PySem.W.mg_of X G a12
  have F13 := fun_mk (st := s_common) l13 c13 k13
  have b13 := F13.binds (ps := ["some", "others"]) fun _ _ _ _ _ _ us hl => match us, hl with | [_, _], _ => rfl
  have m13 := PySem.W.mg_of X G a13
  have F14 := fun_mk (st := s_moves_of_both) l14 c14 k14
  have b14 := F14.binds (ps := ["moves", "others"]) fun _ _ _ _ _ _ us hl => match us, hl with | [_, _], _ => rfl
  have m14 := PySem.W.mg_of X G a14
  have F15 := fun_mk (st := s_ranked) l15 c15 k15
  have b15 := F15.binds (ps := ["ranks"]) fun _ _ _ _ _ _ us hl => match us, hl with | [_], _ => rfl
  have m15 := PySem.W.mg_of X G a15
  have F16 := fun_mk (st := s_pulling_moves) l16 c16 k16
  have b16 := F16.binds (ps := ["ground", "who", "ranks"]) fun _ _ _ _ _ _ us hl => match us, hl with | [_, _, _], _ => rfl
  have m16 := PySem.W.mg_of X G a16
  have F17 := fun_mk (st := s_is_forced) l17 c17 k17
  have b17 := F17.binds (ps := ["place", "ways", "who", "ranks"]) fun _ _ _ _ _ _ us hl => match us, hl with | [_, _, _, _], _ => rfl
  have m17 := PySem.W.mg_of X G a17
  have F18 := fun_mk (st := s_ranks_to) l18 c18 k18
  have b18 := F18.binds (ps := ["ground", "inside", "who", "goals"]) fun _ _ _ _ _ _ us hl => match us, hl with | [_, _, _, _], _ => rfl
  have m18 := PySem.W.mg_of X G a18
  have F19 := fun_mk (st := s_no_moves) l19 c19 k19
  have b19 := F19.binds (ps := ["ground"]) fun _ _ _ _ _ _ us hl => match us, hl with | [_], _ => rfl
  have m19 := PySem.W.mg_of X G a19
  have F20 := fun_mk (st := s_staying_moves) l20 c20 k20
  have b20 := F20.binds (ps := ["ground", "who", "part"]) fun _ _ _ _ _ _ us hl => match us, hl with | [_, _, _], _ => rfl
  have m20 := PySem.W.mg_of X G a20
  have F21 := fun_mk (st := s_without) l21 c21 k21
  have b21 := F21.binds (ps := ["some", "others"]) fun _ _ _ _ _ _ us hl => match us, hl with | [_, _], _ => rfl
  have m21 := PySem.W.mg_of X G a21
  have F22 := fun_mk (st := s_share_by_coming) l22 c22 k22
  have b22 := F22.binds (ps := ["ground", "inside", "who", "goals"]) fun _ _ _ _ _ _ us hl => match us, hl with | [_, _, _, _], _ => rfl
  have m22 := PySem.W.mg_of X G a22
  have F23 := fun_mk (st := s_winners_and_moves) l23 c23 k23
  have b23 := F23.binds (ps := ["ground", "shares"]) fun _ _ _ _ _ _ us hl => match us, hl with | [_, _], _ => rfl
  have m23 := PySem.W.mg_of X G a23
  have F24 := fun_mk (st := s_again) l24 c24 k24
  have b24 := F24.binds (ps := ["ground", "who", "goals"]) fun _ _ _ _ _ _ us hl => match us, hl with | [_, _, _], _ => rfl
  have m24 := PySem.W.mg_of X G a24
  have F25 := fun_mk (st := s_law_refused) l25 c25 k25
  have b25 := F25.binds (ps := ["_law_ground_here", "_law_who", "_law_goals_here"]) fun _ _ _ _ _ _ us hl => match us, hl with | [_, _, _], _ => rfl
  have m25 := PySem.W.mg_of X G a25
  have F26 := fun_mk (st := s_law_some) l26 c26 k26
  have b26 := F26.binds (ps := ["_law_number", "_law_count"]) fun _ _ _ _ _ _ us hl => match us, hl with | [_, _], _ => rfl
  have m26 := PySem.W.mg_of X G a26
  have F27 := fun_mk (st := s_law_moves_good) l27 c27 k27
  have b27 := F27.binds (ps := ["_law_moves", "_law_ground_here"]) fun _ _ _ _ _ _ us hl => match us, hl with | [_, _], _ => rfl
  have m27 := PySem.W.mg_of X G a27
  have F28 := fun_mk (st := s_law_told_well) l28 c28 k28
  have b28 := F28.binds (ps := ["_law_found", "_law_ground_here"]) fun _ _ _ _ _ _ us hl => match us, hl with | [_, _], _ => rfl
  have m28 := PySem.W.mg_of X G a28
  have F29 := fun_mk (st := s_law) l29 c29 k29
  have m29 := PySem.W.mg_of X G a29
  have FF_Share := fun_mk (st := s_Share) ql_Share qc_Share qk_Share
  have bb_Share := FF_Share.binds (ps := ["self", "who", "places", "moves"]) fun _ _ _ _ _ _ us hl => match us, hl with | [_, _, _, _], _ => rfl
  have mm_Share := PySem.W.mg_of X G qa_Share
  have ccl_Share : Cls K c_Share := ⟨qpg_Share, qhd_Share, qpo_Share, qsa_Share⟩
  have h0 := PySem.W.mg_of X G qg0
  have h1 := PySem.W.mg_of X G qg1
  have n0 := PySem.W.mg_of X G qm0
  have n1 := PySem.W.mg_of X G qm1
  have y0 := PySem.W.mg_none_of X G qz0
  have y1 := PySem.W.mg_none_of X G qz1
  have y2 := PySem.W.mg_none_of X G qz2
  have y3 := PySem.W.mg_none_of X G qz3
  have y4 := PySem.W.mg_none_of X G qz4
  have y5 := PySem.W.mg_none_of X G qz5
  have y6 := PySem.W.mg_none_of X G qz6
  have y7 := PySem.W.mg_none_of X G qz7
  have y8 := PySem.W.mg_none_of X G qz8
  have y9 := PySem.W.mg_none_of X G qz9
  have y10 := PySem.W.mg_none_of X G qz10
  have y11 := PySem.W.mg_none_of X G qz11
  refine ⟨nl, PySem.W.fnOf "law" "law" (defArgs s_law) (defBody s_law) (defScope s_law) .none kV29 dc29 pm29 an29 cd29 ct29, fun s v => .of_eq rfl, fun base _ _ => ?_⟩
  have QI_Share : FnOk l.prog w K mg base (CXD l.prog w mg) 1 fi_Share _ ["self", "who", "places", "moves"] (spI c_Share ["who", "places", "moves"]) := D_Share FF_Share ccl_Share qn_Share_who qn_Share_places qn_Share_moves
  have Q0 : FnOk l.prog w K mg base (CXD l.prog w mg) 1 f0 _ ["_law_script", "_law_k"] (spD F_law_cell_at 2) := D_law_cell_at (k := 0) (W_law_cell_at := F0) (b_len := y4)
  have Q1 : FnOk l.prog w K mg base (CXD l.prog w mg) 2 f1 _ ["_law_script", "_law_k"] (spD F_law_mixed 2) := D_law_mixed (k := 1) (W_law_mixed := F1) (C_law_cell_at := Q0.mono (by decide)) (m_law_cell_at := m0) (K_law_cell_at := k0) (B_law_cell_at := b0)
  have Q2 : FnOk l.prog w K mg base (CXD l.prog w mg) 1 f2 _ ["_law_number", "_law_k"] (spD F_law_drawn 2) := D_law_drawn (k := 0) (W_law_drawn := F2)
  have Q3 : FnOk l.prog w K mg base (CXD l.prog w mg) 2 f3 _ ["_law_number", "_law_count"] (spD F_law_goals 2) := D_law_goals (k := 1) (W_law_goals := F3) (C_law_drawn := Q2.mono (by decide)) (m_law_drawn := m2) (K_law_drawn := k2) (B_law_drawn := b2) (b_int := y2) (b_range := y8) (b_sorted := y9) (b_tuple := y10)
  have Q4 : FnOk l.prog w K mg base (CXD l.prog w mg) 3 f4 _ ["_law_number", "_law_count", "_law_high"] (spD F_law_place 3) := D_law_place (k := 2) (W_law_place := F4) (C_law_drawn := Q2.mono (by decide)) (m_law_drawn := m2) (K_law_drawn := k2) (B_law_drawn := b2) (C_law_goals := Q3.mono (by decide)) (m_law_goals := m3) (K_law_goals := k3) (B_law_goals := b3)
  have Q5 : FnOk l.prog w K mg base (CXD l.prog w mg) 4 f5 _ ["_law_script", "_law_most"] (spD F_law_ground 2) := D_law_ground (k := 3) (W_law_ground := F5) (C_law_mixed := Q1.mono (by decide)) (m_law_mixed := m1) (K_law_mixed := k1) (B_law_mixed := b1) (C_law_place := Q4.mono (by decide)) (m_law_place := m4) (K_law_place := k4) (B_law_place := b4) (b_len := y4) (b_max := y6) (b_min := y7) (b_range := y8) (b_tuple := y10)
  have Q6 : FnOk l.prog w K mg base (CXD l.prog w mg) 1 f6 _ ["_law_ground_here", "_law_who", "_law_moves", "_law_place_here"] (spD F_law_ways 4) := D_law_ways (k := 0) (W_law_ways := F6) (b_list := y5)
  have Q7 : FnOk l.prog w K mg base (CXD l.prog w mg) 2 f7 _ ["_law_ground_here", "_law_who", "_law_moves", "_law_places"] (spD F_law_inside 4) := D_law_inside (k := 1) (W_law_inside := F7) (C_law_ways := Q6.mono (by decide)) (m_law_ways := m6) (K_law_ways := k6) (B_law_ways := b6)
  have Q8 : FnOk l.prog w K mg base (CXD l.prog w mg) 2 f8 _ ["_law_ground_here", "_law_who", "_law_moves", "_law_start", "_law_allowed"] (spD F_law_reached 5) := D_law_reached (k := 1) (W_law_reached := F8) (C_law_ways := Q6.mono (by decide)) (m_law_ways := m6) (K_law_ways := k6) (B_law_ways := b6)
  have Q9 : FnOk l.prog w K mg base (CXD l.prog w mg) 1 f9 _ ["ground"] (spD F_all_places 1) := D_all_places (k := 0) (W_all_places := F9) (b_len := y4) (b_range := y8) (b_tuple := y10)
  have Q10 : FnOk l.prog w K mg base (CXD l.prog w mg) 1 f10 _ ["thing"] (spD F_is_whole 1) := D_is_whole (k := 0) (W_is_whole := F10) (b_bool := y0) (b_int := y2) (b_isinstance := y3)
  have Q11 : FnOk l.prog w K mg base (CXD l.prog w mg) 2 f11 _ ["thing", "low", "high"] (spD F_is_between 3) := D_is_between (k := 1) (W_is_between := F11) (C_is_whole := Q10.mono (by decide)) (m_is_whole := m10) (K_is_whole := k10) (B_is_whole := b10)
  have Q12 : FnOk l.prog w K mg base (CXD l.prog w mg) 3 f12 _ ["thing", "count"] (spD F_are_some 2) := D_are_some (k := 2) (W_are_some := F12) (C_is_between := Q11.mono (by decide)) (m_is_between := m11) (K_is_between := k11) (B_is_between := b11) (b_isinstance := y3) (b_tuple := y10)
  have Q13 : FnOk l.prog w K mg base (CXD l.prog w mg) 1 f13 _ ["some", "others"] (spD F_common 2) := D_common (k := 0) (W_common := F13) (b_tuple := y10)
  have Q14 : FnOk l.prog w K mg base (CXD l.prog w mg) 1 f14 _ ["moves", "others"] (spD F_moves_of_both 2) := D_moves_of_both (k := 0) (W_moves_of_both := F14) (b_tuple := y10) (b_zip := y11)
  have Q15 : FnOk l.prog w K mg base (CXD l.prog w mg) 1 f15 _ ["ranks"] (spD F_ranked 1) := D_ranked (k := 0) (W_ranked := F15) (b_enumerate := y1) (b_tuple := y10)
  have Q16 : FnOk l.prog w K mg base (CXD l.prog w mg) 2 f16 _ ["ground", "who", "ranks"] (spD F_pulling_moves 3) := D_pulling_moves (k := 1) (W_pulling_moves := F16) (C_ranked := Q15.mono (by decide)) (m_ranked := m15) (K_ranked := k15) (B_ranked := b15) (g_GOALS := h0) (g_WHO := h1) (b_tuple := y10)
  have Q17 : FnOk l.prog w K mg base (CXD l.prog w mg) 1 f17 _ ["place", "ways", "who", "ranks"] (spD F_is_forced 4) := D_is_forced (k := 0) (W_is_forced := F17) (g_WHO := h1) (b_len := y4)
  have Q18 : FnOk l.prog w K mg base (CXD l.prog w mg) 2 f18 _ ["ground", "inside", "who", "goals"] (spD F_ranks_to 4) := D_ranks_to (k := 1) (W_ranks_to := F18) (C_common := Q13.mono (by decide)) (m_common := m13) (K_common := k13) (B_common := b13) (C_is_forced := Q17.mono (by decide)) (m_is_forced := m17) (K_is_forced := k17) (B_is_forced := b17) (g_GOALS := h0) (b_len := y4) (b_list := y5) (b_range := y8) (b_tuple := y10)
  have Q19 : FnOk l.prog w K mg base (CXD l.prog w mg) 1 f19 _ ["ground"] (spD F_no_moves 1) := D_no_moves (k := 0) (W_no_moves := F19) (b_tuple := y10)
  have Q20 : FnOk l.prog w K mg base (CXD l.prog w mg) 2 f20 _ ["ground", "who", "part"] (spD F_staying_moves 3) := D_staying_moves (k := 1) (W_staying_moves := F20) (C_common := Q13.mono (by decide)) (m_common := m13) (K_common := k13) (B_common := b13) (C_no_moves := Q19.mono (by decide)) (m_no_moves := m19) (K_no_moves := k19) (B_no_moves := b19) (g_GOALS := h0) (g_WHO := h1) (b_list := y5) (b_tuple := y10)
  have Q21 : FnOk l.prog w K mg base (CXD l.prog w mg) 1 f21 _ ["some", "others"] (spD F_without 2) := D_without (k := 0) (W_without := F21) (b_tuple := y10)
  have Q22 : FnOk l.prog w K mg base (CXD l.prog w mg) 3 f22 _ ["ground", "inside", "who", "goals"] (spD (F_share_by_coming c_Share) 4) := D_share_by_coming (k := 2) (W_share_by_coming := F22) (C_common := Q13.mono (by decide)) (m_common := m13) (K_common := k13) (B_common := b13) (C_moves_of_both := Q14.mono (by decide)) (m_moves_of_both := m14) (K_moves_of_both := k14) (B_moves_of_both := b14) (C_pulling_moves := Q16.mono (by decide)) (m_pulling_moves := m16) (K_pulling_moves := k16) (B_pulling_moves := b16) (C_ranked := Q15.mono (by decide)) (m_ranked := m15) (K_ranked := k15) (B_ranked := b15) (C_ranks_to := Q18.mono (by decide)) (m_ranks_to := m18) (K_ranks_to := k18) (B_ranks_to := b18) (C_staying_moves := Q20.mono (by decide)) (m_staying_moves := m20) (K_staying_moves := k20) (B_staying_moves := b20) (C_without := Q21.mono (by decide)) (m_without := m21) (K_without := k21) (B_without := b21) (b_len := y4) (cl_Share := ccl_Share) (n_Share_moves := qn_Share_moves) (n_Share_places := qn_Share_places) (n_Share_who := qn_Share_who) (m_Share := mm_Share) (MK_Share := ⟨qmk_Share, qi_Share, qf_Share, qkc_Share⟩) (I_Share := QI_Share) (B_Share := bb_Share) (hk := by decide)
  have Q23 : FnOk l.prog w K mg base (CXD l.prog w mg) 2 f23 _ ["ground", "shares"] (spD (F_winners_and_moves c_Share) 2) := D_winners_and_moves (k := 1) (W_winners_and_moves := F23) (C_moves_of_both := Q14.mono (by decide)) (m_moves_of_both := m14) (K_moves_of_both := k14) (B_moves_of_both := b14) (C_no_moves := Q19.mono (by decide)) (m_no_moves := m19) (K_no_moves := k19) (B_no_moves := b19) (b_tuple := y10) (cl_Share := ccl_Share) (n_Share_moves := qn_Share_moves) (n_Share_places := qn_Share_places) (n_Share_who := qn_Share_who)
  have Q24 : FnOk l.prog w K mg base (CXD l.prog w mg) 4 f24 _ ["ground", "who", "goals"] (spD (F_again c_Share) 3) := D_again (k := 3) (W_again := F24) (C_all_places := Q9.mono (by decide)) (m_all_places := m9) (K_all_places := k9) (B_all_places := b9) (C_are_some := Q12.mono (by decide)) (m_are_some := m12) (K_are_some := k12) (B_are_some := b12) (C_share_by_coming := Q22.mono (by decide)) (m_share_by_coming := m22) (K_share_by_coming := k22) (B_share_by_coming := b22) (C_winners_and_moves := Q23.mono (by decide)) (m_winners_and_moves := m23) (K_winners_and_moves := k23) (B_winners_and_moves := b23) (C_without := Q21.mono (by decide)) (m_without := m21) (K_without := k21) (B_without := b21) (b_len := y4) (m_NoPart := n1) (q_NoPart := qq1) (cl_Share := ccl_Share) (n_Share_places := qn_Share_places)
  have Q25 : FnOk l.prog w K mg base (CXD l.prog w mg) 5 f25 _ ["_law_ground_here", "_law_who", "_law_goals_here"] (spD (F_law_refused c_Share) 3) := D_law_refused (k := 4) (W_law_refused := F25) (C_again := Q24.mono (by decide)) (m_again := m24) (K_again := k24) (B_again := b24) (b_isinstance := y3) (m_GroundError := n0) (q_GroundError := qq0) (m_NoPart := n1) (q_NoPart := qq1) (b_NoPart_NoPart := qs0) (k_NoPart_GroundError := qk0)
  have Q26 : FnOk l.prog w K mg base (CXD l.prog w mg) 2 f26 _ ["_law_number", "_law_count"] (spD F_law_some 2) := D_law_some (k := 1) (W_law_some := F26) (C_law_drawn := Q2.mono (by decide)) (m_law_drawn := m2) (K_law_drawn := k2) (B_law_drawn := b2) (b_range := y8) (b_tuple := y10)
  have Q27 : FnOk l.prog w K mg base (CXD l.prog w mg) 1 f27 _ ["_law_moves", "_law_ground_here"] (spD F_law_moves_good 2) := D_law_moves_good (k := 0) (W_law_moves_good := F27) (b_bool := y0) (b_int := y2) (b_isinstance := y3) (b_len := y4) (b_tuple := y10) (b_zip := y11)
  have Q28 : FnOk l.prog w K mg base (CXD l.prog w mg) 2 f28 _ ["_law_found", "_law_ground_here"] (spD F_law_told_well 2) := D_law_told_well (k := 1) (W_law_told_well := F28) (C_law_moves_good := Q27.mono (by decide)) (m_law_moves_good := m27) (K_law_moves_good := k27) (B_law_moves_good := b27) (b_bool := y0) (b_int := y2) (b_isinstance := y3) (b_len := y4) (b_tuple := y10) (b_zip := y11)
  have Q29 : FnOk l.prog w K mg base (CXD l.prog w mg) 6 fa _ ["_law_script"] (spD (F_law c_Share) 1) := D_law (k := 5) (W_law := F29) (C_law_ground := Q5.mono (by decide)) (m_law_ground := m5) (K_law_ground := k5) (B_law_ground := b5) (C_law_inside := Q7.mono (by decide)) (m_law_inside := m7) (K_law_inside := k7) (B_law_inside := b7) (C_law_mixed := Q1.mono (by decide)) (m_law_mixed := m1) (K_law_mixed := k1) (B_law_mixed := b1) (C_law_reached := Q8.mono (by decide)) (m_law_reached := m8) (K_law_reached := k8) (B_law_reached := b8) (C_law_refused := Q25.mono (by decide)) (m_law_refused := m25) (K_law_refused := k25) (B_law_refused := b25) (C_law_some := Q26.mono (by decide)) (m_law_some := m26) (K_law_some := k26) (B_law_some := b26) (C_law_told_well := Q28.mono (by decide)) (m_law_told_well := m28) (K_law_told_well := k28) (B_law_told_well := b28) (C_again := Q24.mono (by decide)) (m_again := m24) (K_again := k24) (B_again := b24) (b_len := y4) (b_range := y8)
  exact Q29.imp F0_sp
end G
set_option Elab.async false
set_option linter.all false
set_option maxRecDepth 100000
set_option maxHeartbeats 4000000
open PySem PySem.W PyProof.Rows
set_option maxRecDepth 100000 in
set_option maxHeartbeats 0 in
theorem PySem.Challenge.cw_duelground_k20_whole_again_holds : PySem.Challenge.rw_duelground_k20_whole_again.Holds := by
  w_on; o_law; k_head; (case hw => w_witness2)
  k_fill
  refine D2.walk (l := PySem.Challenge.rw_duelground_k20_whole_again) (k := 6) (x := "_law_script") (F := G.F0) rfl rfl ⟨rfl, by decide, by decide⟩ (fun w h Y => PySem.W.kIn_of Y) G.F0_true ?F
  case F =>
    intro w mg fa h KX GG hmg
    refine' G.all_mk KX GG hmg ?a0 ?l0 ?c0 ?k0 ?a1 ?l1 ?c1 ?k1 ?a2 ?l2 ?c2 ?k2 ?a3 ?l3 ?c3 ?k3 ?a4 ?l4 ?c4 ?k4 ?a5 ?l5 ?c5 ?k5 ?a6 ?l6 ?c6 ?k6 ?a7 ?l7 ?c7 ?k7 ?a8 ?l8 ?c8 ?k8 ?a9 ?l9 ?c9 ?k9 ?a10 ?l10 ?c10 ?k10 ?a11 ?l11 ?c11 ?k11 ?a12 ?l12 ?c12 ?k12 ?a13 ?l13 ?c13 ?k13 ?a14 ?l14 ?c14 ?k14 ?a15 ?l15 ?c15 ?k15 ?a16 ?l16 ?c16 ?k16 ?a17 ?l17 ?c17 ?k17 ?a18 ?l18 ?c18 ?k18 ?a19 ?l19 ?c19 ?k19 ?a20 ?l20 ?c20 ?k20 ?a21 ?l21 ?c21 ?k21 ?a22 ?l22 ?c22 ?k22 ?a23 ?l23 ?c23 ?k23 ?a24 ?l24 ?c24 ?k24 ?a25 ?l25 ?c25 ?k25 ?a26 ?l26 ?c26 ?k26 ?a27 ?l27 ?c27 ?k27 ?a28 ?l28 ?c28 ?k28 ?a29 ?l29 ?c29 ?k29 ?qg0 ?qg1 ?qz0 ?qz1 ?qz2 ?qz3 ?qz4 ?qz5 ?qz6 ?qz7 ?qz8 ?qz9 ?qz10 ?qz11 ?qm0 ?qq0 ?qm1 ?qq1 ?qs0 ?qk0 ?qa_Share ?qi_Share ?qf_Share ?ql_Share ?qc_Share ?qk_Share ?qpg_Share ?qhd_Share ?qpo_Share ?qsa_Share ?qmk_Share ?qkc_Share ?qn_Share_who ?qn_Share_places ?qn_Share_moves ?nl
    (case a0 => k_is)
    (case l0 => k_is)
    (case c0 => k_is)
    (case k0 => k_is)
    (case a1 => k_is)
    (case l1 => k_is)
    (case c1 => k_is)
    (case k1 => k_is)
    (case a2 => k_is)
    (case l2 => k_is)
    (case c2 => k_is)
    (case k2 => k_is)
    (case a3 => k_is)
    (case l3 => k_is)
    (case c3 => k_is)
    (case k3 => k_is)
    (case a4 => k_is)
    (case l4 => k_is)
    (case c4 => k_is)
    (case k4 => k_is)
    (case a5 => k_is)
    (case l5 => k_is)
    (case c5 => k_is)
    (case k5 => k_is)
    (case a6 => k_is)
    (case l6 => k_is)
    (case c6 => k_is)
    (case k6 => k_is)
    (case a7 => k_is)
    (case l7 => k_is)
    (case c7 => k_is)
    (case k7 => k_is)
    (case a8 => k_is)
    (case l8 => k_is)
    (case c8 => k_is)
    (case k8 => k_is)
    (case a9 => k_is)
    (case l9 => k_is)
    (case c9 => k_is)
    (case k9 => k_is)
    (case a10 => k_is)
    (case l10 => k_is)
    (case c10 => k_is)
    (case k10 => k_is)
    (case a11 => k_is)
    (case l11 => k_is)
    (case c11 => k_is)
    (case k11 => k_is)
    (case a12 => k_is)
    (case l12 => k_is)
    (case c12 => k_is)
    (case k12 => k_is)
    (case a13 => k_is)
    (case l13 => k_is)
    (case c13 => k_is)
    (case k13 => k_is)
    (case a14 => k_is)
    (case l14 => k_is)
    (case c14 => k_is)
    (case k14 => k_is)
    (case a15 => k_is)
    (case l15 => k_is)
    (case c15 => k_is)
    (case k15 => k_is)
    (case a16 => k_is)
    (case l16 => k_is)
    (case c16 => k_is)
    (case k16 => k_is)
    (case a17 => k_is)
    (case l17 => k_is)
    (case c17 => k_is)
    (case k17 => k_is)
    (case a18 => k_is)
    (case l18 => k_is)
    (case c18 => k_is)
    (case k18 => k_is)
    (case a19 => k_is)
    (case l19 => k_is)
    (case c19 => k_is)
    (case k19 => k_is)
    (case a20 => k_is)
    (case l20 => k_is)
    (case c20 => k_is)
    (case k20 => k_is)
    (case a21 => k_is)
    (case l21 => k_is)
    (case c21 => k_is)
    (case k21 => k_is)
    (case a22 => k_is)
    (case l22 => k_is)
    (case c22 => k_is)
    (case k22 => k_is)
    (case a23 => k_is)
    (case l23 => k_is)
    (case c23 => k_is)
    (case k23 => k_is)
    (case a24 => k_is)
    (case l24 => k_is)
    (case c24 => k_is)
    (case k24 => k_is)
    (case a25 => k_is)
    (case l25 => k_is)
    (case c25 => k_is)
    (case k25 => k_is)
    (case a26 => k_is)
    (case l26 => k_is)
    (case c26 => k_is)
    (case k26 => k_is)
    (case a27 => k_is)
    (case l27 => k_is)
    (case c27 => k_is)
    (case k27 => k_is)
    (case a28 => k_is)
    (case l28 => k_is)
    (case c28 => k_is)
    (case k28 => k_is)
    (case a29 => k_is)
    (case l29 => k_is)
    (case c29 => k_is)
    (case k29 => k_is)
    (case qg0 => k_is)
    (case qg1 => k_is)
    (case qz0 => k_is)
    (case qz1 => k_is)
    (case qz2 => k_is)
    (case qz3 => k_is)
    (case qz4 => k_is)
    (case qz5 => k_is)
    (case qz6 => k_is)
    (case qz7 => k_is)
    (case qz8 => k_is)
    (case qz9 => k_is)
    (case qz10 => k_is)
    (case qz11 => k_is)
    (case qm0 => k_is)
    (case qq0 => k_exc)
    (case qm1 => k_is)
    (case qq1 => k_exc)
    (case qs0 => first | rfl | k_is | decide)
    (case qk0 => first | rfl | k_is | decide)
    (case qa_Share => k_is)
    (case qi_Share => k_is)
    (case qf_Share => k_is)
    (case ql_Share => k_is)
    (case qc_Share => k_is)
    (case qk_Share => k_is)
    (case qpg_Share => k_is)
    (case qhd_Share => k_is)
    (case qpo_Share => k_is)
    (case qsa_Share => k_is)
    (case qmk_Share => k_is)
    (case qkc_Share => k_is)
    (case qn_Share_who => k_is)
    (case qn_Share_places => k_is)
    (case qn_Share_moves => k_is)
    (case nl => first | rfl | k_is | decide)

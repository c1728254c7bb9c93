import PyProof.Rows.All
import Wide.All
import OpenK.AllK
import Wide.FinOn
import Lean
import PyProof.EqAt
import PyProof.EqKinds
import PyProof.TupleCall
import PySem.Challenge.RW_duelground_k51_whole_plays
set_option Elab.async false
set_option linter.all false
set_option maxRecDepth 100000
namespace L2
open PySem PySem.Spec PyProof.Rows
abbrev cS := Sum Int Str
def oA : cS -> Value -> Bool
  | .inl k, v => Value.isInt k v
  | .inr x, v => Value.isStrOf x v
def Ff (w : World) : cS -> Int
  | .inl k => hashInt k
  | .inr x => hashStr w x
theorem cx : ∀ {k : cS} {v : Value}, oA k v = true -> (∃ i t, k = Sum.inl i /\ v = Value.int i t) \/ (∃ x t, k = Sum.inr x /\ v = Value.str x t)
  | .inl i, v, h => by
    obtain ⟨t, e⟩ := Value.isInt_shape (k := i) (v := v) h;exact .inl ⟨i, t, rfl, e⟩
  | .inr x, v, h => by
    obtain ⟨t, e⟩ := Value.isStrOf_shape (x := x) (v := v) h;exact .inr ⟨x, t, rfl, e⟩
theorem wZ (i : Int) (t : Tok) : oA (.inl i) (.int i t) = true := by simp [oA, Value.isInt]
theorem xh (x : Str) (t : Tok) : oA (.inr x) (.str x t) = true := by simp [oA, Value.isStrOf]
theorem B9 (a b : Int) : decide ((Sum.inl a : cS) = Sum.inl b) = (a == b) := by
  by_cases e : a = b
  · subst e; simp
  · have h : ¬ (Sum.inl a : cS) = Sum.inl b := fun q => e (Sum.inl.inj q)
    rw [decide_eq_false h];exact (beq_eq_false_iff_ne.mpr e).symm
theorem Bz (a b : Str) : decide ((Sum.inr a : cS) = Sum.inr b) = decide (a = b) := by
  by_cases e : a = b
  · subst e; simp
  · have h : ¬ (Sum.inr a : cS) = Sum.inr b := fun q => e (Sum.inr.inj q)
    rw [decide_eq_false h, decide_eq_false e]
theorem BL (a : Int) (b : Str) : decide ((Sum.inl a : cS) = Sum.inr b) = false := decide_eq_false (fun q => nomatch q)
theorem Cl (a : Str) (b : Int) : decide ((Sum.inr a : cS) = Sum.inl b) = false := decide_eq_false (fun q => nomatch q)
def dc (prog : Program) (w : World) : PySem.KeyKind prog w cS where
  is := oA
  hash := Ff w
  inj := fun v a b ha hb => by
    rcases cx ha with ⟨i, t, rfl, rfl⟩ | ⟨x, t, rfl, rfl⟩
    · rcases cx hb with ⟨j, u, rfl, e⟩ | ⟨y, u, rfl, e⟩
      · injection e with e1 _; rw [e1]
      · exact nomatch e
    · rcases cx hb with ⟨j, u, rfl, e⟩ | ⟨y, u, rfl, e⟩
      · exact nomatch e
      · injection e with e1 _; rw [e1]
  byValue := fun k v h => by
    rcases cx h with ⟨i, t, rfl, rfl⟩ | ⟨x, t, rfl, rfl⟩ <;> rfl
  pyHash := fun hv h => by
    rcases cx hv with ⟨i, t, rfl, rfl⟩ | ⟨x, t, rfl, rfl⟩
    · exact wpAny_pyHash_int h
    · exact wpAny_pyHash_str h
  eqBool := fun hu hv h => by
    rcases cx hu with ⟨i, t, rfl, rfl⟩ | ⟨x, t, rfl, rfl⟩
    · rcases cx hv with ⟨j, u, rfl, rfl⟩ | ⟨y, u, rfl, rfl⟩
      · rw [B9] at h; exact wpAny_eqBool_int h
      · rw [BL] at h; exact SeqAt.EqAt.int_str i t y u _ _ _ _ h
    · rcases cx hv with ⟨j, u, rfl, rfl⟩ | ⟨y, u, rfl, rfl⟩
      · rw [Cl] at h; exact SeqAt.EqAt.str_int x t j u _ _ _ _ h
      · rw [Bz] at h; exact wpAny_eqBool_str h
  «strs» := fun k x t v h => by
    rcases cx h with ⟨i, u, rfl, e⟩ | ⟨y, u, rfl, e⟩
    · exact nomatch e
    · injection e with e1 _
      subst e1;cases v <;> rfl
theorem sU (prog : Program) (w : World) (i : Int) (t : Tok) : (dc prog w).is (.inl i) (.int i t) = true := wZ i t
theorem sK (prog : Program) (w : World) (x : Str) (t : Tok) : (dc prog w).is (.inr x) (.str x t) = true := xh x t
inductive V where
  | non | bl (b : Bool) | int (i : Int) | str (x : Str) | byt (b : Array UInt8) | flt (b : UInt64) | ref (a : Addr) | ty (n : String)
  deriving DecidableEq
def bA : V -> Value -> Prop
  | .non, u => u = Value.none
  | .bl b, u => u = Value.bool b
  | .int i, u => ∃ t, u = Value.int i t
  | .str x, u => ∃ t, u = Value.str x t
  | .byt b, u => ∃ t, u = Value.bytes b t
  | .flt b, u => ∃ t, u = Value.float b t
  | .ref a, u => u = Value.ref a
  | .ty n, u => u = Value.type n
abbrev br : List V -> List Value -> Prop := Paired bA
theorem br.length {xs : List V} {us : List Value} (r : br xs us) : xs.length = us.length := Paired.length r
theorem br.get : ∀ {xs : List V} {us : List Value} {i : Nat} {x : V}, br xs us -> xs[i]? = some x -> ∃ u, us[i]? = some u /\ bA x u
  | _, _, _, _, .nil, e => by simp at e
  | _, _, 0, _, .cons r _, e => by simp at e; subst e; exact ⟨_, rfl, r⟩
  | _, _, i + 1, x, .cons _ t, e => by
    obtain ⟨u, h1, h2⟩ := br.get (i := i) (x := x) t (by simpa using e);exact ⟨u, by simpa using h1, h2⟩
theorem br.set {x : V} {u : Value} (r : bA x u) : ∀ {xs : List V} {us : List Value} (i : Nat), br xs us -> br (xs.set i x) (us.set i u)
  | _, _, _, .nil => .nil
  | _, _, 0, .cons _ t => .cons r t
  | _, _, i + 1, .cons q t => .cons q (br.set r i t)
theorem br.append : ∀ {xs ys : List V} {us ws : List Value}, br xs us -> br ys ws -> br (xs ++ ys) (us ++ ws)
  | _, _, _, _, .nil, s => s
  | _, _, _, _, .cons r t, s => .cons r (br.append t s)
theorem br.take : ∀ {xs : List V} {us : List Value} (n : Nat), br xs us -> br (xs.take n) (us.take n)
  | _, _, 0, _ => .nil
  | _, _, _ + 1, .nil => .nil
  | _, _, n + 1, .cons r t => .cons r (br.take n t)
theorem br.drop : ∀ {xs : List V} {us : List Value} (n : Nat), br xs us -> br (xs.drop n) (us.drop n)
  | _, _, 0, r => r
  | _, _, _ + 1, .nil => .nil
  | _, _, n + 1, .cons _ t => br.drop n t
def mr : Option V -> Option Value -> Prop
  | some v, some u => bA v u
  | none, none => True
  | _, _ => False
def KV {κ : Type} : List (κ × V) -> List (κ × Value) -> Prop := Paired fun (p : κ × V) (q : κ × Value) => p.1 = q.1 /\ bA p.2 q.2
def kV : cS -> V
  | .inl i => .int i
  | .inr x => .str x
inductive HO where
  /-- a list -/
  | lst (xs : List V)
  /-- a tuple (never changes) -/
  | tup (xs : List V)
  /-- a dict whose keys are ints and texts; one whose keys are tuples of ints and texts (the empty one is both) -/
  | dK (kvs : List (cS × V)) | dT (kvs : List (List cS × V))
  /-- a set of ints: its members, its size -/
  | set (S : Int -> Bool) (n : Nat)
  /-- an instance of the class at C, its dict at dx, its attributes -/
  | ins (C dx : Addr) (fs : List (Str × V))
  /-- the dict of the instance at x -/
  | own (x : Addr)
  /-- the dict of an exception -/
  | xd (fs : List (Str × V))
  /-- a bound method, f of x -/
  | met (f x : Addr)
  /-- a range object lo, lo + 1, .. below hi -/
  | rng (lo hi : Int)
  /-- a thing that is known to the object (the script; a dict while a loop walks it): read, never written while it is so -/
  | frz (o : Obj) (u : HO)
  /-- a code object's table -/
  | tbl (ps : Array Value)
  /-- any other thing, by what is true of its one object (a def of one's own: SetO a S n := HO.ext fun h => ..) -/
  | ext (φ : Heap -> Prop)
abbrev Hp := Addr -> Option HO
def cm (H : Hp) (a : Addr) (o : HO) : Hp := fun b => if b = a then some o else H b
theorem bd {H : Hp} {a : Addr} {o : HO} : cm H a o a = some o := by unfold cm; rw [if_pos rfl]
theorem au {H : Hp} {a b : Addr} {o : HO} (h : b ≠ a) : cm H a o b = H b := by unfold cm; rw [if_neg h]
theorem Df {H : Hp} {a b : Addr} {o u : HO} (h : H a = some o) (h' : H b = some u) (d : o ≠ u) : a ≠ b := by
  intro e; subst e; rw [h] at h'; exact d (Option.some.inj h')
theorem aQ {H : Hp} {a b : Addr} {o : HO} (h : H a = some o) (h' : H b = none) : a ≠ b := by
  intro e; subst e; rw [h] at h'; cases h'
section
variable (P : Program) (w : World)
def bR (H : Hp) (h : Heap) (a : Addr) : HO -> Prop
  | .lst xs => xs.length <= sizeLine /\ ∃ (its : List Value) (n : Nat), br xs its /\ h.get? a = some { cls := .type "list", data := .seq its.toArray n }
  | .tup xs => xs.length <= sizeLine /\ ∃ its : List Value, br xs its /\ IsTup h a its.toArray
  | .dK kvs => kvs.length <= sizeLine /\ (a == sysModules) = false /\ ∃ vs, KV kvs vs /\ h.DictOf (dc P w) a vs
  | .dT kvs => kvs.length <= sizeLine /\ (a == sysModules) = false /\ ∃ xs : List (List cS × Addr × Value),
      Paired (fun (p : List cS × V) (q : List cS × Addr × Value) => p.1 = q.1 /\ H q.2.1 = some (.tup (p.1.map kV)) /\ bA p.2 q.2.2) kvs xs /\
      ∃ o es ep, h.get? a = some o /\ o.ExactDict /\ o.data = .dict es ep /\ es.toList = xs.map (entryOfKey (tupleKind (dc P w))) /\ (xs.map (·.1)).Nodup
  | .set S n => h.SetOf (intKind P w) a S n
  | .ins C dx fs => H dx = some (.own a) /\ fs.length <= 1000 /\ dx ≠ a /\ h.get? a = some (PySem.W.instObj C dx) /\
      ∃ mA, h.Ns1 dx mA /\ (∀ f, mr (fs.lookup f) (mA f)) /\ PySem.Within mA (fs.map (·.1))
  | .own _ => ∃ o, h.get? a = some o
  | .xd fs => ∃ mA, h.Ns1 a mA /\ ∀ f, mr (fs.lookup f) (mA f)
  | .rng lo hi => ∃ t u v, h.get? a = some { cls := .type "range", data := .fields #[.int lo t, .int hi u, .int 1 v] }
  | .frz o u => h.get? a = some o /\ bR H h a u
  | .tbl ps => h.get? a = some { cls := .none, data := .fields ps }
  | .met f x => h.get? a = some (PySem.W.methodObj (.ref f) (.ref x))
  | .ext φ => φ h /\ (∃ o, h.get? a = some o) /\ ∀ h1 h2 : Heap, φ h1 -> (∀ o, h1.get? a = some o -> h2.get? a = some o) -> φ h2
def ir (H : Hp) (h : Heap) : Prop := ∀ a o, H a = some o -> bR P w H h a o
end
section
variable {P : Program} {w : World} {H H' : Hp} {h h' : Heap} {a : Addr} {o : HO}
theorem bR.lt (x : bR P w H h a o) : a < h.objs.size := by
  cases o with
  | lst xs => obtain ⟨_, _, _, _, e⟩ := x; exact Heap.lt_size e
  | tup xs => obtain ⟨_, _, _, p⟩ := x; exact p.lt
  | dK kvs => obtain ⟨_, _, _, _, o, _, _, e, _⟩ := x; exact Heap.lt_size e
  | dT kvs => obtain ⟨_, _, _, _, o, _, _, e, _⟩ := x; exact Heap.lt_size e
  | set S n => obtain ⟨o, _, _, _, e, _⟩ := x; exact Heap.lt_size e
  | ins C dx fs => obtain ⟨_, _, _, e, _⟩ := x; exact Heap.lt_size e
  | own y => obtain ⟨_, e⟩ := x; exact Heap.lt_size e
  | xd fs => obtain ⟨_, ⟨_, _, _, e, _⟩, _⟩ := x; exact Heap.lt_size e
  | rng lo hi => obtain ⟨_, _, _, e⟩ := x; exact Heap.lt_size e
  | frz ob u => obtain ⟨e, _⟩ := x; exact Heap.lt_size e
  | tbl ps => exact Heap.lt_size (show h.get? a = some _ from x)
  | met f y => exact Heap.lt_size (show h.get? a = some _ from x)
  | ext φ => obtain ⟨_, ⟨_, e⟩, _⟩ := x; exact Heap.lt_size e
theorem Paired.mapP {α β : Type} {F G : α -> β -> Prop} : ∀ {l₁ : List α} {l₂ : List β}, Paired F l₁ l₂ -> (∀ a b, F a b -> G a b) -> Paired G l₁ l₂
  | _, _, .nil, _ => .nil
  | _, _, .cons r t, f => .cons (f _ _ r) (Paired.mapP t f)
theorem bR.stay (x : bR P w H h a o) (k : ∀ b u, (b = a \/ H b = some (.own a)) -> h.get? b = some u -> h'.get? b = some u)
    (ho : ∀ b, H b = some (.own a) -> H' b = some (.own a)) (ht : ∀ b xs, H b = some (.tup xs) -> H' b = some (.tup xs)) : bR P w H' h' a o := by
  induction o with
  | lst xs => obtain ⟨z, its, n, r, e⟩ := x; exact ⟨z, its, n, r, k _ _ (.inl rfl) e⟩
  | tup xs => obtain ⟨z, its, r, ob, e, c⟩ := x; exact ⟨z, its, r, ob, k _ _ (.inl rfl) e, c⟩
  | dK kvs => obtain ⟨z, y, vs, r, ob, es, ep, e, c⟩ := x; exact ⟨z, y, vs, r, ob, es, ep, k _ _ (.inl rfl) e, c⟩
  | dT kvs =>
    obtain ⟨z, y, xs, r, ob, es, ep, e, c⟩ := x;exact ⟨z, y, xs, Paired.mapP r fun p q z => ⟨z.1, ht _ _ z.2.1, z.2.2⟩, ob, es, ep, k _ _ (.inl rfl) e, c⟩
  | set S n => obtain ⟨ob, es, ep, t, e, c⟩ := x; exact ⟨ob, es, ep, t, k _ _ (.inl rfl) e, c⟩
  | ins C dx fs =>
    obtain ⟨d, z, ne, e, mA, ⟨od, es, ep, e2, c⟩, r⟩ := x;exact ⟨ho _ d, z, ne, k _ _ (.inl rfl) e, mA, ⟨od, es, ep, k _ _ (.inr d) e2, c⟩, r⟩
  | own y => obtain ⟨ob, e⟩ := x; exact ⟨ob, k _ _ (.inl rfl) e⟩
  | xd fs => obtain ⟨mA, ⟨od, es, ep, e, c⟩, r⟩ := x; exact ⟨mA, ⟨od, es, ep, k _ _ (.inl rfl) e, c⟩, r⟩
  | rng lo hi => obtain ⟨t, u, v, e⟩ := x; exact ⟨t, u, v, k _ _ (.inl rfl) e⟩
  | frz ob u ih => obtain ⟨e, q⟩ := x; exact ⟨k _ _ (.inl rfl) e, ih q⟩
  | tbl ps =>
    have e : h.get? a = some { cls := .none, data := .fields ps } := x;show h'.get? a = some { cls := .none, data := .fields ps };exact k a _ (.inl rfl) e
  | met f y =>
    have e : h.get? a = some (PySem.W.methodObj (.ref f) (.ref y)) := x;show h'.get? a = some (PySem.W.methodObj (.ref f) (.ref y));exact k a _ (.inl rfl) e
  | ext φ => obtain ⟨p, ⟨o, e⟩, st⟩ := x; exact ⟨st _ _ p fun o q => k _ _ (.inl rfl) q, ⟨o, k _ _ (.inl rfl) e⟩, st⟩
theorem ir.lt (x : ir P w H h) (e : H a = some o) : a < h.objs.size := (x a o e).lt
theorem ir.fresh (x : ir P w H h) (e : h.objs.size <= a) : H a = none := by
  cases q : H a with
  | none => rfl
  | some u => exact absurd (Nat.lt_of_lt_of_le (x.lt q) e) (Nat.lt_irrefl _)
theorem ir.kept (x : ir P w H h) (k : ∀ b u, h.get? b = some u -> h'.get? b = some u) : ir P w H h' := fun a o e =>
  (x a o e).stay (fun b u _ q => k b u q) (fun _ q => q) fun _ _ q => q
theorem ir.laid (x : ir P w H h) (k : ∀ b u, h.get? b = some u -> h'.get? b = some u) (hp : h.objs.size <= a) (new : bR P w (cm H a o) h' a o) : ir P w (cm H a o) h' := fun b u e => by
  have hn := x.fresh hp;by_cases hb : b = a
  · subst hb; rw [bd] at e; cases e; exact new
  · rw [au hb] at e;exact (x b u e).stay (fun c v _ q => k c v q) (fun c q => by rw [au (aQ q hn)]; exact q) fun c xs q => by rw [au (aQ q hn)]; exact q
end
def Rd (H : Hp) (a : Addr) (u : HO) : Prop := H a = some u \/ ∃ o, H a = some (.frz o u)
theorem Rd.ok {P : Program} {w : World} {H : Hp} {h : Heap} {a : Addr} {u : HO} (r : Rd H a u) (x : ir P w H h) : bR P w H h a u := by
  rcases r with r | ⟨o, r⟩
  · exact x a u r
  · obtain ⟨_, q⟩ := x a _ r;exact q
def Ef : Option HO -> Prop
  | some (.lst _) => True
  | some (.dK _) => True
  | some (.dT _) => True
  | some (.set _ _) => True
  | some (.ins _ _ _) => True
  | some (.ext _) => True
  | _ => False
section
variable {P : Program} {w : World} {H : Hp} {h h' : Heap} {x e : Addr} {o' : HO}
theorem ir.write (ok : ir P w H h) (mu : Ef (H x)) (he : e = x \/ H e = some (.own x)) (k : ∀ b u, b ≠ e -> h.get? b = some u -> h'.get? b = some u) (heo : ∃ u, h'.get? e = some u)
    (new : bR P w (cm H x o') h' x o') : ir P w (cm H x o') h' := fun b u q => by
  have nown : ∀ c y, H c = some (.own y) -> c ≠ x := fun c y r z => by subst z; rw [r] at mu; exact mu
  have ntup : ∀ c xs, H c = some (.tup xs) -> c ≠ x := fun c xs r z => by subst z; rw [r] at mu; exact mu
  by_cases hb : b = x
  · subst hb; rw [bd] at q; cases q; exact new
  · rw [au hb] at q;by_cases hbe : b = e
    · have q' : H b = some (.own x) := by
        rcases he with z | z
        · exact absurd (hbe.trans z) hb
        · rw [hbe]; exact z
      rw [q] at q'; cases q';obtain ⟨v, hv⟩ := heo;exact ⟨v, by rw [hbe]; exact hv⟩
    · refine (ok b u q).stay (fun c v hc r => k c v ?_ r) (fun c r => by rw [au (nown c b r)]; exact r) fun c xs r => by rw [au (ntup c xs r)]; exact r
      rcases hc with rfl | hc
      · exact hbe
      · rintro rfl;rcases he with z | z
        · exact nown c b hc z
        · rw [hc] at z; cases z; exact hb rfl
end
structure Un (fs ex : List Addr) (H H' : Hp) (h h' : Heap) : Prop where
  keep : ∀ b o, h.get? b = some o -> H b = none -> b ∉ fs -> b ∉ ex -> h'.get? b = some o
  slot : ∀ b o, h.get? b = some o -> H b = none -> b ∈ fs -> b ∉ ex -> ∃ sl, h'.get? b = some { o with slots := sl }
  free : ∀ b o, h.get? b = some o -> H b = none -> b ∉ ex -> H' b = none
  there : ∀ b o, h.get? b = some o -> b ∉ ex -> ∃ o', h'.get? b = some o'
  tups : ∀ b xs, H b = some (.tup xs) -> H' b = some (.tup xs)
  frzs : ∀ b o u, H b = some (.frz o u) -> H' b = some (.frz o u)
  tbls : ∀ b ps, H b = some (.tbl ps) -> ∃ more, H' b = some (.tbl (ps ++ more))
section
variable {fs fs' ex ex' : List Addr} {H H1 H2 : Hp} {h h1 h2 h' : Heap} {a x e : Addr} {o : HO}
theorem Un.any (u : Un fs ex H H1 h h1) {b : Addr} {ob : Obj} (q : h.get? b = some ob) (n : H b = none) (hx : b ∉ ex) : ∃ sl, h1.get? b = some { ob with slots := sl } := by
  by_cases hb : b ∈ fs
  · exact u.slot b ob q n hb hx
  · exact ⟨ob.slots, u.keep b ob q n hb hx⟩
theorem Un.kept (k : ∀ b u, h.get? b = some u -> h'.get? b = some u) : Un fs ex H H h h' :=
  ⟨fun b ob q _ _ _ => k b ob q, fun b ob q _ _ _ => ⟨ob.slots, k b ob q⟩, fun _ _ _ n _ => n, fun b ob q _ => ⟨ob, k b ob q⟩, fun _ _ q => q, fun _ _ _ q => q, fun _ ps q => ⟨#[], by rw [q]; simp⟩⟩
theorem Un.refl : Un fs ex H H h h := Un.kept fun _ _ q => q
theorem Un.laid (k : ∀ b u, h.get? b = some u -> h'.get? b = some u) (hp : h.objs.size <= a) (hn : H a = none) : Un fs ex H (cm H a o) h h' where
  keep := fun b u q _ _ _ => k b u q
  slot := fun b u q _ _ _ => ⟨u.slots, k b u q⟩
  free := fun b u q n _ => by rw [au (Nat.ne_of_lt (Nat.lt_of_lt_of_le (Heap.lt_size q) hp))]; exact n
  there := fun b u q _ => ⟨u, k b u q⟩
  tups := fun b xs q => by rw [au (aQ q hn)]; exact q
  frzs := fun b u xs q => by rw [au (aQ q hn)]; exact q
  tbls := fun b ps q => ⟨#[], by rw [au (aQ q hn), q]; simp⟩
theorem Un.write (mu : Ef (H x)) (he : e = x \/ H e = some (.own x)) (k : ∀ b u, b ≠ e -> h.get? b = some u -> h'.get? b = some u) (heo : ∃ u, h'.get? e = some u) : Un fs ex H (cm H x o) h h' := by
  have hx : ∀ b, H b = none -> b ≠ x := fun b n z => by subst z; rw [n] at mu; exact mu
  have hb : ∀ b, H b = none -> b ≠ e := fun b n z => by
    subst z;rcases he with r | r
    · exact hx b n r
    · rw [n] at r; cases r
  have hm : ∀ b u, H b = some u -> ¬ Ef (some u) -> b ≠ x := fun b u q nm z => by subst z; rw [q] at mu; exact nm mu
  refine ⟨fun b u q n _ _ => k b u (hb b n) q, fun b u q n _ _ => ⟨u.slots, k b u (hb b n) q⟩, fun b u q n _ => by rw [au (hx b n)]; exact n, fun b u q _ => ?_,
    fun b xs q => by rw [au (hm b _ q fun z => z)]; exact q, fun b u xs q => by rw [au (hm b _ q fun z => z)]; exact q, fun b ps q => ⟨#[], by rw [au (hm b _ q fun z => z), q]; simp⟩⟩
  by_cases hbe : b = e
  · subst hbe; exact heo
  · exact ⟨u, k b u hbe q⟩
end
def Er (h : Heap) (H : Hp) : List Addr := (List.range h.objs.size).filter fun a => (H a).isSome
def qF (h : Heap) (H : Hp) : Heap := PySem.W.hideAll h (Er h H)
theorem wV (h : Heap) (H : Hp) : (qF h H).objs.size = h.objs.size := PySem.W.hideAll_size _ _
theorem xO {h : Heap} {H : Hp} {b : Addr} {o : Obj} (e : h.get? b = some o) (n : H b = none) : (qF h H).get? b = some o :=
  PySem.W.hideAll_get _ e fun hm => by
    have q : (H b).isSome = true := (List.mem_filter.mp hm).2;rw [n] at q; simp at q
theorem AM {h : Heap} {H : Hp} {b : Addr} {o : Obj} (e : (qF h H).get? b = some o) : h.get? b = some o /\ H b = none := by
  have e' : h.get? b = some o := PySem.W.of_hideAll (Er h H) e;refine ⟨e', ?_⟩;cases q : H b with
  | none => rfl
  | some x =>
    have hm : b ∈ Er h H := List.mem_filter.mpr ⟨List.mem_range.mpr (Heap.lt_size e'), by simp [q]⟩;have z : (qF h H).get? b = none := PySem.W.hideAll_none (Er h H) hm;rw [z] at e; cases e
def zI (g h : Heap) (L : Addr) : List (Addr × Obj) := (List.range h.objs.size).filterMap fun a => if a = L \/ (g.get? a).isSome = true then none else (h.get? a).map fun o => (a, o)
def dg (g h : Heap) (L d : Addr) : List (Addr × Obj) := (zI g h L).filter fun p => decide (p.1 ≠ d)
structure Mod (K : PySem.W.Frag) (mg : Str -> Option Value) (base : Heap) : Prop where
  kin : K.In base
  glob : base.Ns mainGlobals mg
  blt : ∃ mb, base.Ns builtinsNs mb /\ ∀ x : Str, x ≠ "__name__" -> mb x = bootBuiltins x
  nolimit : base.NoLimit
structure Cx where
  prog : Program
  w : World
  K : PySem.W.Frag
  mg : Str -> Option Value
  base : Heap
  A : Around
  N : List Str
  s₀ : Shared
  H₀ : Hp
  env : Env
  outer : List Env
  stack : List Env
  ex : List Addr
  fn : Str -> Bool
  calm : Bool
  pn : List (Addr × Obj)
  xe : Value -> Shared -> Prop
def lJ (l : List Env) : List Addr := l.filterMap (·.frame)
abbrev Cx.fs (X : Cx) : List Addr := lJ X.outer
def CK (sc : Scope) (x : Str) : Prop := sc.names.lookup x = some .local \/ sc.names.lookup x = some .cell \/ sc.names.lookup x = some .free
def Bc (sc : Scope) (x : Str) : Prop := sc.names.lookup x = some .local \/ sc.names.lookup x = some .cell
def EB (env : Env) (h : Heap) (m : Str -> Option Value) (x : Str) (u : Value) : Prop :=
  (env.kindOf x = some .local /\ m x = some u) \/ ((env.kindOf x = some .cell \/ env.kindOf x = some .free) /\ ∃ c, env.cells.lookup x = some c /\ h.IsCell c (some u))
structure Cx.Ok (X : Cx) : Prop where
  mod : Mod X.K X.mg X.base
  kind : X.env.scope.kind = .function
  glob : X.env.globals = mainGlobals
  blt : X.env.builtins = builtinsNs
  above : X.s₀.heap.objs.size <= X.env.locals
  inj : ∀ x y c, X.env.cells.lookup x = some c -> X.env.cells.lookup y = some c -> x = y
  has : ∀ x, (X.env.kindOf x = some .cell \/ X.env.kindOf x = some .free) -> ∃ c, X.env.cells.lookup x = some c
  cab : ∀ x c, X.fn x = true -> X.env.cells.lookup x = some c -> X.s₀.heap.objs.size <= c
  hd : X.calm = true -> X.A.handled = none
  frames : X.A.frames = some X.stack
  stk : X.stack = X.outer \/ (X.stack = X.env :: X.outer /\ X.env.frame = some X.env.locals)
  exf : ∀ b ∈ X.ex, b ≠ X.env.locals /\ ∀ x c, X.env.cells.lookup x = some c -> c ≠ b
  bs : ∀ b o, X.base.get? b = some o -> X.s₀.heap.get? b = some o /\ X.H₀ b = none
  bsz : X.base.objs.size <= X.s₀.heap.objs.size
  noex : ∀ b o, X.base.get? b = some o -> b ∉ X.ex
  exfs : ∀ b ∈ X.ex, b ∉ X.fs
  funs : X.s₀.heap.FunFrames X.base X.outer
  frf : ∀ b ∈ X.fs, X.H₀ b = none
structure aM (X : Cx) (pins : List (Addr × Obj)) (σ : List (Option V)) (H : Hp) (s : Shared) : Prop where
  ok : X.Ok
  os : s.os = X.s₀.os
  bare : AllBare s.gens
  base : Un X.fs X.ex X.H₀ H X.s₀.heap s.heap
  loc : ∃ m, s.heap.Ns X.env.locals m /\ ∀ (i : Nat) (x : Str) (v : V), X.N[i]? = some x -> σ[i]? = some (some v) -> CK X.env.scope x -> ∃ u, bA v u /\ EB X.env s.heap m x u
  cell : ∀ x c, X.env.cells.lookup x = some c -> ∃ v, s.heap.IsCell c v
  free : H X.env.locals = none
  freeC : ∀ x c, X.env.cells.lookup x = some c -> H c = none
  pin : ∀ p ∈ X.pn ++ pins, s.heap.get? p.1 = some p.2 /\ H p.1 = none /\ p.1 ≠ X.env.locals /\ p.1 ∉ X.fs /\ ∀ v, p.2.data ≠ .cell v
  hok : ir X.prog X.w H s.heap
  len : σ.length = X.N.length
section
variable {X : Cx} {pins : List (Addr × Obj)} {σ : List (Option V)} {H H' : Hp} {s : Shared} {h' : Heap}
theorem Cx.Ok.nofr (ok : X.Ok) {b : Addr} {o : Obj} (e : X.base.get? b = some o) : b ∉ X.fs := fun hb => by
  have := (ok.funs.mem hb).1;rw [e] at this; cases this
theorem aM.bs (I : aM X pins σ H s) : ∀ b o, X.base.get? b = some o -> s.heap.get? b = some o /\ H b = none := fun b o e =>
  ⟨I.base.keep b o (I.ok.bs b o e).1 (I.ok.bs b o e).2 (I.ok.nofr e) (I.ok.noex b o e), I.base.free b o (I.ok.bs b o e).1 (I.ok.bs b o e).2 (I.ok.noex b o e)⟩
theorem aM.bk (I : aM X pins σ H s) : ∀ b o, X.base.get? b = some o -> s.heap.get? b = some o := fun b o e => (I.bs b o e).1
theorem aM.mod (I : aM X pins σ H s) : Mod X.K X.mg X.base := I.ok.mod
theorem aM.kIn (I : aM X pins σ H s) : X.K.In s.heap := I.ok.mod.kin.keeps I.bk
theorem aM.lt (I : aM X pins σ H s) : X.env.locals < s.heap.objs.size := let ⟨_, hn, _⟩ := I.loc; hn.lt
theorem aM.sz (I : aM X pins σ H s) : X.s₀.heap.objs.size <= s.heap.objs.size := Nat.le_trans I.ok.above (Nat.le_of_lt I.lt)
theorem aM.nofs (I : aM X pins σ H s) {a : Addr} (h : s.heap.objs.size <= a) : a ∉ X.fs := fun hb => by
  obtain ⟨_, o, ho, _⟩ := I.ok.funs.mem hb;exact absurd (Nat.lt_of_lt_of_le (Heap.lt_size ho) (Nat.le_trans I.sz h)) (Nat.lt_irrefl _)
theorem aM.cne (I : aM X pins σ H s) : ∀ x c, X.env.cells.lookup x = some c -> c ≠ X.env.locals := fun x c e z => by
  obtain ⟨v, o, ho, hd⟩ := I.cell x c e;obtain ⟨m, ⟨o', es, ep, ho', hd', _⟩, _⟩ := I.loc;rw [z, ho'] at ho; cases ho; rw [hd'] at hd; cases hd
theorem aM.funs (I : aM X pins σ H s) : s.heap.FunFrames X.base X.outer := by
  have all : ∀ (l : List Env), (∀ b ∈ lJ l, b ∈ X.fs) -> X.s₀.heap.FunFrames X.base l -> s.heap.FunFrames X.base l := by
    intro l;induction l with
    | nil => intro _ _; trivial
    | cons env r ih =>
      intro hs hl;obtain ⟨hk, ⟨L, o, hf, hn, ho, hd⟩, hr⟩ := hl;have hL : L ∈ X.fs := hs L (by unfold lJ; rw [List.filterMap_cons, hf]; exact List.mem_cons_self);obtain ⟨sl, e⟩ := I.base.slot L o ho (I.ok.frf L hL) hL fun z => I.ok.exfs L z hL
      exact ⟨hk, ⟨L, _, hf, hn, e, hd⟩, ih (fun b hb => hs b (by unfold lJ; rw [List.filterMap_cons, hf]; exact List.mem_cons_of_mem _ hb)) hr⟩
  exact all X.outer (fun _ hb => hb) I.ok.funs
theorem aM.stack (I : aM X pins σ H s) : s.heap.FunFrames X.base X.stack := by
  rcases I.ok.stk with e | ⟨e, hf⟩
  · rw [e]; exact I.funs
  · rw [e];obtain ⟨m, hn, _⟩ := I.loc;refine .cons (by rw [I.ok.kind]; decide) hf hn ?_ I.funs;exact Heap.get?_none_of_le (Nat.le_trans I.ok.bsz I.ok.above)
theorem aM.stkSub (I : aM X pins σ H s) : ∀ b ∈ lJ X.stack, b ∈ X.env.locals :: X.fs := fun b hb => by
  rcases I.ok.stk with e | ⟨e, hf⟩
  · rw [e] at hb; exact List.mem_cons_of_mem _ hb
  · rw [e] at hb;unfold lJ at hb;rw [List.filterMap_cons, hf] at hb;exact hb
theorem aM.stkFree (I : aM X pins σ H s) : ∀ b ∈ lJ X.stack, H b = none := fun b hb => by
  rcases List.mem_cons.mp (I.stkSub b hb) with e | hb
  · rw [e]; exact I.free
  · obtain ⟨_, o, ho, _⟩ := I.ok.funs.mem hb;exact I.base.free b o ho (I.ok.frf b hb) fun z => I.ok.exfs b z hb
theorem aM.step {g' : Array GenState} {t' : Nat} {d' : Drawn} {ch : List Addr} (I : aM X pins σ H s)
    (hch : ∀ b ∈ ch, (b ∈ X.ex \/ X.s₀.heap.objs.size <= b) /\ b ≠ X.env.locals /\ (∀ x c, X.env.cells.lookup x = some c -> c ≠ b) /\ ∀ p ∈ X.pn ++ pins, p.1 ≠ b)
    (keep : ∀ b o, b ≠ X.env.locals -> b ∉ X.fs -> b ∉ ch -> s.heap.get? b = some o -> H b = none -> h'.get? b = some o)
    (slot : ∀ b o, b ≠ X.env.locals -> b ∈ X.fs -> b ∉ ch -> s.heap.get? b = some o -> H b = none -> ∃ sl, h'.get? b = some { o with slots := sl }) (free : ∀ b o, b ∉ ch -> s.heap.get? b = some o -> H b = none -> H' b = none)
    (there : ∀ b o, b ∉ ch -> s.heap.get? b = some o -> ∃ o', h'.get? b = some o')
    (tups : ∀ b xs, H b = some (.tup xs) -> H' b = some (.tup xs)) (frzs : ∀ b o u, H b = some (.frz o u) -> H' b = some (.frz o u)) (tbls : ∀ b ps, H b = some (.tbl ps) -> ∃ more, H' b = some (.tbl (ps ++ more)))
    (ns : ∀ m, s.heap.Ns X.env.locals m -> h'.Ns X.env.locals m) (hok : ir X.prog X.w H' h') (hg : AllBare g') :
    aM X pins σ H' { s with heap := h', gens := g', drawn := d', toks := t' } := by
  have neL : ∀ b o, X.s₀.heap.get? b = some o -> b ≠ X.env.locals := fun b o e => Nat.ne_of_lt (Nat.lt_of_lt_of_le (Heap.lt_size e) I.ok.above)
  have neC : ∀ b o, X.s₀.heap.get? b = some o -> b ∉ X.ex -> b ∉ ch := fun b o e hx hb => by
    rcases (hch b hb).1 with z | z
    · exact hx z
    · exact absurd (Nat.lt_of_lt_of_le (Heap.lt_size e) z) (Nat.lt_irrefl _)
  have cellK : ∀ x c, X.env.cells.lookup x = some c -> ∀ v, s.heap.IsCell c v -> h'.IsCell c v := fun x c e v ⟨o, ho, hd⟩ => by
    have nch : c ∉ ch := fun z => (hch c z).2.2.1 x c e rfl
    by_cases hc : c ∈ X.fs
    · obtain ⟨sl, q⟩ := slot c o (I.cne x c e) hc nch ho (I.freeC x c e);exact ⟨_, q, hd⟩
    · exact ⟨o, keep c o (I.cne x c e) hc nch ho (I.freeC x c e), hd⟩
  refine ⟨I.ok, I.os, hg, ⟨fun b o e n hb hx => ?_, fun b o e n hb hx => ?_, fun b o e n hx => ?_, fun b o e hx => ?_, fun b xs e => tups b xs (I.base.tups b xs e), fun b o xs e => frzs b o xs (I.base.frzs b o xs e), fun b ps e => ?_⟩, ?_, fun x c e => ?_, ?_, fun x c e => ?_, fun p hp => ?_, hok, I.len⟩
  · exact keep b o (neL b o e) hb (neC b o e hx) (I.base.keep b o e n hb hx) (I.base.free b o e n hx)
  · obtain ⟨sl, e1⟩ := I.base.slot b o e n hb hx;obtain ⟨sl', e2⟩ := slot b _ (neL b o e) hb (neC b o e hx) e1 (I.base.free b o e n hx);exact ⟨sl', e2⟩
  · obtain ⟨o', e1⟩ := I.base.there b o e hx;exact free b o' (neC b o e hx) e1 (I.base.free b o e n hx)
  · obtain ⟨o', e1⟩ := I.base.there b o e hx;exact there b o' (neC b o e hx) e1
  · obtain ⟨m1, e1⟩ := I.base.tbls b ps e;obtain ⟨m2, e2⟩ := tbls b _ e1;exact ⟨m1 ++ m2, by rw [e2, Array.append_assoc]⟩
  · obtain ⟨m, hn, hl⟩ := I.loc;refine ⟨m, ns m hn, fun i x v e1 e2 e3 => ?_⟩;obtain ⟨u, r, l⟩ := hl i x v e1 e2 e3;refine ⟨u, r, ?_⟩;rcases l with l | ⟨k, c, e, z⟩
    · exact .inl l
    · exact .inr ⟨k, c, e, cellK x c e _ z⟩
  · obtain ⟨v, z⟩ := I.cell x c e;exact ⟨v, cellK x c e v z⟩
  · obtain ⟨m, ⟨o, _, _, ho, _⟩, _⟩ := I.loc;exact free _ o (fun z => (hch _ z).2.1 rfl) ho I.free
  · obtain ⟨v, o, ho, hd⟩ := I.cell x c e;exact free c o (fun z => (hch c z).2.2.1 x c e rfl) ho (I.freeC x c e)
  · obtain ⟨e, n, ne, nf, d⟩ := I.pin p hp;have nch : p.1 ∉ ch := fun z => (hch p.1 z).2.2.2 p hp rfl
    exact ⟨keep p.1 p.2 ne nf nch e n, free p.1 p.2 nch e n, ne, nf, d⟩
theorem aM.un {t' : Nat} (I : aM X pins σ H s) (u : Un X.fs [] H H' s.heap h') (hok : ir X.prog X.w H' h') : aM X pins σ H' { s with heap := h', toks := t' } := by
  obtain ⟨m, ⟨o, es, ep, ho, r⟩, _⟩ := id I.loc;obtain ⟨sl, hL⟩ := u.any ho I.free (by simp);exact I.step (g' := s.gens) (d' := s.drawn) (ch := []) (fun _ z => nomatch z) (fun b o _ hb _ e n => u.keep b o e n hb (by simp)) (fun b o _ hb _ e n => u.slot b o e n hb (by simp)) (fun b o _ e n => u.free b o e n (by simp)) (fun b o _ e => u.there b o e (by simp)) u.tups u.frzs u.tbls (fun m' hm => by
    obtain ⟨o', es', ep', ho', r'⟩ := hm;rw [ho] at ho'; cases ho';exact ⟨_, es', ep', hL, r'⟩) hok I.bare
theorem aM.call {g' : Array GenState} {t' : Nat} {d' : Drawn} {ch : List Addr} (I : aM X pins σ H s) (u : Un (lJ X.stack) ch H H' s.heap h') (hok : ir X.prog X.w H' h') (hg : AllBare g')
    (hch : ∀ b ∈ ch, (b ∈ X.ex \/ X.s₀.heap.objs.size <= b) /\ b ≠ X.env.locals /\ (∀ x c, X.env.cells.lookup x = some c -> c ≠ b) /\ ∀ p ∈ X.pn ++ pins, p.1 ≠ b) :
    aM X pins σ H' { s with heap := h', gens := g', drawn := d', toks := t' } := by
  obtain ⟨m, ⟨o, es, ep, ho, r⟩, _⟩ := id I.loc;obtain ⟨sl, hL⟩ := u.any ho I.free fun z => (hch _ z).2.1 rfl
  exact I.step (ch := ch) hch (fun b o hL hb hc e n => u.keep b o e n (fun z => (List.mem_cons.mp (I.stkSub b z)).elim hL hb) hc) (fun b o _ _ hc e n => u.any e n hc) (fun b o hc e n => u.free b o e n hc) (fun b o hc e => u.there b o e hc) u.tups u.frzs u.tbls (fun m' hm => by
    obtain ⟨o', es', ep', ho', r'⟩ := hm;rw [ho] at ho'; cases ho';exact ⟨_, es', ep', hL, r'⟩) hok hg
theorem aM.turned {t' : Nat} {it : Addr} (I : aM X pins σ H s) (k : ∀ b o, b ≠ it -> s.heap.get? b = some o -> h'.get? b = some o) (hn : H it = none) (hL : it ≠ X.env.locals)
    (h1 : it ∈ X.ex \/ X.s₀.heap.objs.size <= it) (h2 : ∀ x c, X.env.cells.lookup x = some c -> c ≠ it) (h3 : ∀ p ∈ X.pn ++ pins, p.1 ≠ it) : aM X pins σ H { s with heap := h', toks := t' } := by
  have nit : ∀ b u, H b = some u -> b ≠ it := fun b u e z => by rw [z, hn] at e; cases e
  refine I.step (g' := s.gens) (d' := s.drawn) (ch := [it]) (fun b hb => ?_) (fun b o _ _ hc e _ => k b o (fun z => hc (by simp [z])) e) (fun b o _ _ hc e _ => ⟨o.slots, k b o (fun z => hc (by simp [z])) e⟩) (fun _ _ _ _ n => n)
    (fun b o hc e => ⟨o, k b o (fun z => hc (by simp [z])) e⟩) (fun _ _ e => e) (fun _ _ _ e => e) (fun b ps e => ⟨#[], by rw [e]; simp⟩) (fun m hm => ?_) (fun b u e => ?_) I.bare
  · have e : b = it := by simpa using hb
    subst e;exact ⟨h1, hL, h2, h3⟩
  · obtain ⟨o, es, ep, ho, r⟩ := hm;exact ⟨o, es, ep, k _ o (Ne.symm hL) ho, r⟩
  · refine (I.hok b u e).stay (fun c v hc q => k c v ?_ q) (fun _ q => q) fun _ _ q => q
    rcases hc with z | z
    · rw [z]; exact nit b u e
    · exact nit c _ z
theorem aM.tok (I : aM X pins σ H s) (t : Nat) : aM X pins σ H { s with toks := t } := I.un (h' := s.heap) (t' := t) Un.refl I.hok
theorem aM.kept {t' : Nat} (I : aM X pins σ H s) (k : ∀ b u, s.heap.get? b = some u -> h'.get? b = some u) : aM X pins σ H { s with heap := h', toks := t' } := I.un (Un.kept k) (I.hok.kept k)
theorem aM.laid {a : Addr} {o : HO} {t' : Nat} (I : aM X pins σ H s) (k : ∀ b u, s.heap.get? b = some u -> h'.get? b = some u) (hp : s.heap.objs.size <= a) (new : bR X.prog X.w (cm H a o) h' a o) :
    aM X pins σ (cm H a o) { s with heap := h', toks := t' } := I.un (Un.laid k hp (I.hok.fresh hp)) (I.hok.laid k hp new)
theorem aM.write {x e : Addr} {o : HO} {t' : Nat} (I : aM X pins σ H s) (mu : Ef (H x)) (he : e = x \/ H e = some (.own x)) (k : ∀ b u, b ≠ e -> s.heap.get? b = some u -> h'.get? b = some u) (heo : ∃ u, h'.get? e = some u)
    (new : bR X.prog X.w (cm H x o) h' x o) : aM X pins σ (cm H x o) { s with heap := h', toks := t' } := I.un (Un.write mu he k heo) (I.hok.write mu he k heo new)
theorem aM.pins_of {pins' : List (Addr × Obj)} (I : aM X pins σ H s) (h : ∀ p ∈ pins', s.heap.get? p.1 = some p.2 /\ H p.1 = none /\ p.1 ≠ X.env.locals /\ p.1 ∉ X.fs /\ ∀ v, p.2.data ≠ .cell v) : aM X pins' σ H s :=
  ⟨I.ok, I.os, I.bare, I.base, I.loc, I.cell, I.free, I.freeC, fun p hp => (List.mem_append.mp hp).elim (fun z => I.pin p (List.mem_append_left _ z)) (h p), I.hok, I.len⟩
theorem sy {N : List Str} (hN : N.Nodup) {i j : Nat} {x : Str} (a : N[i]? = some x) (b : N[j]? = some x) : i = j := by
  obtain ⟨h1, e1⟩ := List.getElem?_eq_some_iff.mp a;obtain ⟨h2, e2⟩ := List.getElem?_eq_some_iff.mp b;exact (List.getElem_inj hN).mp (e1.trans e2.symm)
theorem pV {M : Model} {A : Around} {E : Value -> Shared -> Prop} {i : Nat} {x : Str} {v : V} {u : Value} {Q : Unit -> Shared -> Prop} (I : aM X pins σ H s) (hN : X.N.Nodup) (hi : X.N[i]? = some x) (hx : Bc X.env.scope x) (r : bA v u)
    (h : ∀ s', aM X pins (σ.set i (some v)) H s' -> (∃ a, Heap.SameBut a s.heap s'.heap /\ (a = X.env.locals \/ X.env.cells.lookup x = some a)) -> Q () s') (hf : X.fn x = true \/ X.env.scope.names.lookup x = some .local := by first | exact .inl rfl | exact .inr rfl | assumption) : wpAny M A (storeName X.env x u) Q E s := by
  obtain ⟨m, hn, hl⟩ := id I.loc;have hcls : (X.env.scope.kind == .class || (X.env.scope.kind == .module && X.env.locals != X.env.globals)) = false := by rw [I.ok.kind]; rfl
  have hiσ : i < σ.length := by rw [I.len]; exact (List.getElem?_eq_some_iff.mp hi).1
  have cne := I.cne;have tracked : ∀ {a : Addr} {h' : Heap}, (∃ o, s.heap.get? a = some o /\ H a = none) -> Heap.SameBut a s.heap h' -> ir X.prog X.w H h' := fun {a h'} ha hs b ob e => by
    obtain ⟨_, _, hfree⟩ := ha;refine (I.hok b ob e).stay (fun c w' hc q => (hs.2 c ?_).trans q) (fun _ q => q) fun _ _ q => q
    rintro rfl;rcases hc with rfl | hc
    · rw [hfree] at e; cases e
    · rw [hfree] at hc; cases hc
  rcases hx with hk | hk
  · refine wpAny_storeName_local hk hn (fun h' hn' hs => ?_) hcls;obtain ⟨oL, _, _, hoL, _⟩ := id hn;refine h _ ⟨I.ok, I.os, I.bare, ⟨fun b o e n hb hx => ?_, fun b o e n hb hx => ?_, I.base.free, fun b o e hx => ?_, I.base.tups, I.base.frzs, I.base.tbls⟩, ⟨_, hn', fun j y v' e1 e2 e3 => ?_⟩, fun y c e => ?_, I.free, I.freeC, fun p hp => ?_, tracked ⟨oL, hoL, I.free⟩ hs, by simpa using I.len⟩ ⟨_, hs, .inl rfl⟩
    · exact (hs.2 b (Nat.ne_of_lt (Nat.lt_of_lt_of_le (Heap.lt_size e) I.ok.above))).trans (I.base.keep b o e n hb hx)
    · obtain ⟨sl, e1⟩ := I.base.slot b o e n hb hx;exact ⟨sl, (hs.2 b (Nat.ne_of_lt (Nat.lt_of_lt_of_le (Heap.lt_size e) I.ok.above))).trans e1⟩
    · obtain ⟨o', e1⟩ := I.base.there b o e hx;exact ⟨o', (hs.2 b (Nat.ne_of_lt (Nat.lt_of_lt_of_le (Heap.lt_size e) I.ok.above))).trans e1⟩
    · by_cases hj : j = i
      · subst hj;rw [hi] at e1; cases e1;rw [List.getElem?_set_self hiσ] at e2;cases e2;exact ⟨u, r, .inl ⟨hk, by simp⟩⟩
      · rw [List.getElem?_set_ne (Ne.symm hj)] at e2;obtain ⟨u', r', q⟩ := hl j y v' e1 e2 e3;refine ⟨u', r', ?_⟩;rcases q with ⟨k, e⟩ | ⟨k, c, e, z⟩
        · refine .inl ⟨k, ?_⟩;have : y ≠ x := fun e => hj (sy hN e1 (e ▸ hi))
          simp [this, e]
        · exact .inr ⟨k, c, e, z.sameBut hs (cne y c e)⟩
    · obtain ⟨w', z⟩ := I.cell y c e;exact ⟨w', z.sameBut hs (cne y c e)⟩
    · obtain ⟨e, n, ne, nf, d⟩ := I.pin p hp;exact ⟨(hs.2 p.1 ne).trans e, n, ne, nf, d⟩
  · have hfn : X.fn x = true := by
      rcases hf with z | z
      · exact z
      · rw [z] at hk; cases hk
    obtain ⟨c, hc⟩ := I.ok.has x (.inl hk);obtain ⟨w', z⟩ := I.cell x c hc;refine wpAny_storeName_cell I.ok.kind hk hc z (fun h' hc' hs => ?_);obtain ⟨oc, hoc, hocd⟩ := id z;refine h { s with heap := h' } ⟨I.ok, I.os, I.bare, ⟨fun b o e n hb hx => ?_, fun b o e n hb hx => ?_, I.base.free, fun b o e hx => ?_, I.base.tups, I.base.frzs, I.base.tbls⟩, ⟨m, hn.sameBut hs (Ne.symm (cne x c hc)), fun j y v' e1 e2 e3 => ?_⟩, fun y c' e => ?_, I.free, I.freeC, fun p hp => ?_, tracked ⟨oc, hoc, I.freeC x c hc⟩ hs, by simpa using I.len⟩ ⟨c, hs, .inr hc⟩
    · exact (hs.2 b (Nat.ne_of_lt (Nat.lt_of_lt_of_le (Heap.lt_size e) (I.ok.cab x c hfn hc)))).trans (I.base.keep b o e n hb hx)
    · obtain ⟨sl, e1⟩ := I.base.slot b o e n hb hx;exact ⟨sl, (hs.2 b (Nat.ne_of_lt (Nat.lt_of_lt_of_le (Heap.lt_size e) (I.ok.cab x c hfn hc)))).trans e1⟩
    · obtain ⟨o', e1⟩ := I.base.there b o e hx;exact ⟨o', (hs.2 b (Nat.ne_of_lt (Nat.lt_of_lt_of_le (Heap.lt_size e) (I.ok.cab x c hfn hc)))).trans e1⟩
    · by_cases hj : j = i
      · subst hj;rw [hi] at e1; cases e1;rw [List.getElem?_set_self hiσ] at e2;cases e2;exact ⟨u, r, .inr ⟨.inl hk, c, hc, hc'⟩⟩
      · rw [List.getElem?_set_ne (Ne.symm hj)] at e2;obtain ⟨u', r', q⟩ := hl j y v' e1 e2 e3;refine ⟨u', r', ?_⟩;rcases q with q | ⟨k, c', e, z'⟩
        · exact .inl q
        · refine .inr ⟨k, c', e, z'.sameBut hs ?_⟩;rintro rfl;exact hj (sy hN e1 (I.ok.inj _ _ _ e hc ▸ hi))
    · by_cases hcc : c' = c
      · subst hcc; exact ⟨_, hc'⟩
      · obtain ⟨w2, z2⟩ := I.cell y c' e;exact ⟨w2, z2.sameBut hs hcc⟩
    · obtain ⟨e, n, ne, nf, d⟩ := I.pin p hp;refine ⟨(hs.2 p.1 ?_).trans e, n, ne, nf, d⟩;intro q;rw [q, hoc] at e;have q' : oc = p.2 := Option.some.inj e;exact d w' (by rw [<- q']; exact hocd)
theorem oE {M : Model} {A : Around} {E : Value -> Shared -> Prop} {i : Nat} {x : Str} {v : V} {u : Value} {Q : Unit -> Shared -> Prop} (I : aM X pins σ H s) (hN : X.N.Nodup) (hi : X.N[i]? = some x) (hx : Bc X.env.scope x) (r : bA v u)
    (h : ∀ s', aM X pins (σ.set i (some v)) H s' -> Q () s') (hf : X.fn x = true \/ X.env.scope.names.lookup x = some .local := by first | exact .inl rfl | exact .inr rfl | assumption) : wpAny M A (storeName X.env x u) Q E s :=
  pV I hN hi hx r (fun s' I' _ => h s' I') hf
theorem aM.call' {s' : Shared} {ch : List Addr} (I : aM X pins σ H s) (ho : s'.os = s.os) (u : Un (lJ X.stack) ch H H' s.heap s'.heap) (hok : ir X.prog X.w H' s'.heap) (hg : AllBare s'.gens)
    (hch : ∀ b ∈ ch, (b ∈ X.ex \/ X.s₀.heap.objs.size <= b) /\ b ≠ X.env.locals /\ (∀ x c, X.env.cells.lookup x = some c -> c ≠ b) /\ ∀ p ∈ X.pn ++ pins, p.1 ≠ b) : aM X pins σ H' s' := by
  obtain ⟨h', g', d', t', o'⟩ := s';have e : o' = s.os := ho;subst e;exact I.call (g' := g') (t' := t') (d' := d') u hok hg hch
end
abbrev XK := Value -> Option Addr -> Hp -> Prop
abbrev St := List (Option V)
abbrev VK := V -> Hp -> Prop
abbrev TE := St -> Hp -> VK -> Prop
abbrev TT := St -> Hp -> (Bool -> Hp -> Prop) -> Prop
abbrev TA := St -> Hp -> (List V -> Hp -> Prop) -> Prop
structure rW where
  nx : St -> Hp -> Prop
  rt : VK
  bk : St -> Hp -> Prop := fun _ _ => False
  ct : St -> Hp -> Prop := fun _ _ => False
abbrev TS := rW -> St -> Hp -> Prop
def EP (X : Cx) (pins : List (Addr × Obj)) (σ : St) (Q : VK) (u : Value) (s' : Shared) : Prop := ∃ v H', aM X pins σ H' s' /\ bA v u /\ Q v H'
def TP (X : Cx) (pins : List (Addr × Obj)) (σ : St) (Q : Bool -> Hp -> Prop) (b : Bool) (s' : Shared) : Prop := ∃ H', aM X pins σ H' s' /\ Q b H'
def AP (X : Cx) (pins : List (Addr × Obj)) (σ : St) (Q : List V -> Hp -> Prop) (us : List Value) (s' : Shared) : Prop := ∃ vs H', aM X pins σ H' s' /\ br vs us /\ Q vs H'
def SP (X : Cx) (pins : List (Addr × Obj)) (D : rW) (f : Flow) (s' : Shared) : Prop :=
  match f with
  | .next => ∃ σ' H', aM X pins σ' H' s' /\ D.nx σ' H'
  | .brk => ∃ σ' H', aM X pins σ' H' s' /\ D.bk σ' H'
  | .cont => ∃ σ' H', aM X pins σ' H' s' /\ D.ct σ' H'
  | .ret u => ∃ v σ' H', aM X pins σ' H' s' /\ bA v u /\ D.rt v H'
def PE (X : Cx) (e : Expr) (t : TE) : Prop :=
  ∀ (pins : List (Addr × Obj)) (s : Shared) (σ : St) (H : Hp) (Q : VK), aM X pins σ H s -> t σ H Q -> wpAny (model X.prog X.w) X.A (eval e X.env) (EP X pins σ Q) X.xe s
def PT (X : Cx) (e : Expr) (t : TT) : Prop :=
  ∀ (pins : List (Addr × Obj)) (s : Shared) (σ : St) (H : Hp) (Q : Bool -> Hp -> Prop), aM X pins σ H s -> t σ H Q -> wpAny (model X.prog X.w) X.A (isTrue e X.env (eval e X.env)) (TP X pins σ Q) X.xe s
def PW (X : Cx) (e : Expr) (t : TT) : Prop :=
  ∀ (whole : Sem Value) (pins : List (Addr × Obj)) (s : Shared) (σ : St) (H : Hp) (Q : Bool -> Hp -> Prop), aM X pins σ H s -> t σ H Q -> wpAny (model X.prog X.w) X.A (isTrue e X.env whole) (TP X pins σ Q) X.xe s
theorem PW.pt {X : Cx} {e : Expr} {t : TT} (h : PW X e t) : PT X e t := h _
def PA (X : Cx) (es : List Expr) (t : TA) : Prop :=
  ∀ (pos : Pos) (pins : List (Addr × Obj)) (s : Shared) (σ : St) (H : Hp) (Q : List V -> Hp -> Prop), aM X pins σ H s -> t σ H Q -> wpAny (model X.prog X.w) X.A (spliced (backTo pos (starEach es X.env))) (AP X pins σ Q) X.xe s
def PS (X : Cx) (st : Stmt) (t : TS) : Prop :=
  ∀ (pins : List (Addr × Obj)) (s : Shared) (σ : St) (H : Hp) (D : rW), aM X pins σ H s -> t D σ H -> wpAny (model X.prog X.w) X.A (exec st X.env) (SP X pins D) X.xe s
def qX (X : Cx) (st : List Stmt) (t : TS) : Prop :=
  ∀ (pins : List (Addr × Obj)) (s : Shared) (σ : St) (H : Hp) (D : rW), aM X pins σ H s -> t D σ H -> wpAny (model X.prog X.w) X.A (execs st X.env) (SP X pins D) X.xe s
theorem cQ {α : Type} {t : Sem α} {Q Q' : α -> Shared -> Prop} {M : Model} {A : Around} {E : Value -> Shared -> Prop} {s : Shared} (h : wpAny M A t Q E s) (hQ : ∀ a s, Q a s -> Q' a s) : wpAny M A t Q' E s := wpAny_mono h hQ fun _ _ x => x
section
variable {X : Cx}
theorem FL {a b : Expr} {ta tb : TE} (ha : PE X a ta) (hb : PE X b tb) {pins : List (Addr × Obj)} {s : Shared} {σ : St} {H : Hp} {R : V -> V -> Hp -> Prop} (I : aM X pins σ H s) (h : ta σ H fun x H1 => tb σ H1 fun y H2 => R x y H2)
    {α : Type} {Q : α -> Shared -> Prop} {f : Value -> Value -> Sem α}
    (hf : ∀ v u s2 x y H2, aM X pins σ H2 s2 -> bA x v -> bA y u -> R x y H2 -> wpAny (model X.prog X.w) X.A (f v u) Q X.xe s2) :
    wpAny (model X.prog X.w) X.A (eval a X.env) (fun v s₁ => wpAny (model X.prog X.w) X.A (eval b X.env) (fun u s₂ => wpAny (model X.prog X.w) X.A (f v u) Q X.xe s₂) X.xe s₁) X.xe s := by
  refine cQ (ha pins s σ H _ I h) fun v s1 ⟨x, H1, I1, r1, q1⟩ => ?_
  refine cQ (hb pins s1 σ H1 _ I1 q1) fun u s2 ⟨y, H2, I2, r2, q2⟩ => ?_
  exact hf v u s2 x y H2 I2 r1 r2 q2
def DI (i : Nat) : TE := fun σ H Q => ∃ v, σ[i]? = some (some v) /\ Q v H
def tC (v : V) : TE := fun _ H Q => Q v H
theorem mt {i : Nat} {x : Str} {pos : Pos} (hN : X.N[i]? = some x) (hv : CK X.env.scope x) (hd : (x == ("__debug__" : Str)) = false := by decide) (hcd : (x == ("__classdict__" : Str)) = false := by decide) : PE X (.Name x pos) (DI i) := by
  intro pins s σ H Q I h;obtain ⟨v, e, h⟩ := h;obtain ⟨m, hn, hl⟩ := I.loc;obtain ⟨u, r, l⟩ := hl i x v hN e hv;have fin : EP X pins σ Q u s := ⟨v, H, I, r, h⟩
  rcases l with ⟨hk, hm⟩ | ⟨hk, c, hc, hcell⟩
  · exact wpAny_Name (wpAny_loadName_local I.ok.kind hk hn hm fin) hd
  · rcases hk with hk | hk
    · exact wpAny_Name (wpAny_loadName_cell I.ok.kind hk hc hcell fin) hd
    · exact wpAny_Name (wpAny_loadName_free I.ok.kind hk hc hcell fin hcd) hd
theorem CD {i j pos} : PE X (.Constant (.int i) j pos) (tC (.int i)) := fun _ _ _ H _ I h => wpAny_Constant_int ⟨.int i, H, I.tok _, ⟨_, rfl⟩, h⟩
theorem DW {b j pos} : PE X (.Constant (.bool b) j pos) (tC (.bl b)) := fun _ _ _ H _ I h => Constant_bool ⟨.bl b, H, I, rfl, h⟩
theorem BM {j pos} : PE X (.Constant .none j pos) (tC .non) := fun _ _ _ H _ I h => Constant_none ⟨.non, H, I, rfl, h⟩
theorem CN {x j pos} : PE X (.Constant (.str x) j pos) (tC (.str x)) := fun _ _ _ H _ I h => Calls.Constant_str ⟨.str x, H, I.tok _, ⟨_, rfl⟩, h⟩
def Gl (X : Cx) (x : Str) : Prop := X.env.kindOf x = some .globalImplicit
theorem nI {E : Value -> Shared -> Prop} {pins : List (Addr × Obj)} {s : Shared} {σ : St} {H : Hp} {x : Str} {u : Value} {pos : Pos} {Q : Value -> Shared -> Prop} (I : aM X pins σ H s) (hg : Gl X x) (hm : X.mg x = some u) (h : Q u s)
    (hd : (x == ("__debug__" : Str)) = false := by decide) : wpAny (model X.prog X.w) X.A (eval (.Name x pos) X.env) Q E s :=
  Calls.Name_function_global I.ok.kind hg (Calls.loadGlobal_global (by rw [I.ok.glob]; exact I.mod.glob.keeps I.bk) hm h) hd
theorem iL {E : Value -> Shared -> Prop} {pins : List (Addr × Obj)} {s : Shared} {σ : St} {H : Hp} {x : Str} {u : Value} {pos : Pos} {Q : Value -> Shared -> Prop} (I : aM X pins σ H s) (hg : Gl X x) (hm : X.mg x = none) (hv : bootBuiltins x = some u) (h : Q u s)
    (hn : x ≠ "__name__" := by decide) (hd : (x == ("__debug__" : Str)) = false := by decide) : wpAny (model X.prog X.w) X.A (eval (.Name x pos) X.env) Q E s := by
  obtain ⟨mb, h1, h2⟩ := I.mod.blt;exact Calls.Name_function_global I.ok.kind hg (Calls.loadGlobal_builtin (by rw [I.ok.glob]; exact I.mod.glob.keeps I.bk) hm (by rw [I.ok.blt]; exact h1.keeps I.bk) ((h2 x hn).trans hv) h) hd
theorem AK {x : Str} {v : V} {u : Value} {pos : Pos} (hg : Gl X x) (hm : X.mg x = some u) (r : bA v u) (hd : (x == ("__debug__" : Str)) = false := by decide) : PE X (.Name x pos) (tC v) :=
  fun _ _ _ H _ I h => nI I hg hm ⟨v, H, I, r, h⟩ hd
theorem AF {x : Str} {v : V} {u : Value} {pos : Pos} (hg : Gl X x) (hm : X.mg x = none) (hv : bootBuiltins x = some u) (r : bA v u) (hn : x ≠ "__name__" := by decide) (hd : (x == ("__debug__" : Str)) = false := by decide) : PE X (.Name x pos) (tC v) :=
  fun _ _ _ H _ I h => iL I hg hm hv ⟨v, H, I, r, h⟩ hn hd
variable {a b : Expr} {ta tb : TE} {pos : Pos}
def PC (X : Cx) (op : CmpOp) (a b : Expr) (t : TE) : Prop :=
  ∀ (pins : List (Addr × Obj)) (s : Shared) (σ : St) (H : Hp) (Q : VK), aM X pins σ H s -> t σ H Q ->
    wpAny (model X.prog X.w) X.A (eval a X.env) (fun v s₁ => wpAny (model X.prog X.w) X.A (eval b X.env) (fun u s₂ => wpAny (model X.prog X.w) X.A (compareOp op v u) (EP X pins σ Q) X.xe s₂) X.xe s₁) X.xe s
theorem yX (b : Expr) {op : CmpOp} (h : op ≠ .In) (h2 : op ≠ .NotIn) : behindInMarks op b = false := by
  have e1 : (op == CmpOp.In) = false := by cases op <;> first | rfl | exact absurd rfl h
  have e2 : (op == CmpOp.NotIn) = false := by cases op <;> first | rfl | exact absurd rfl h2
  cases b <;> simp [behindInMarks, e1, e2]
def tB (t : TE) : TT := fun σ H Q => t σ H fun x H1 => ∃ c, x = .bl c /\ Q c H1
theorem EG {op : CmpOp} {t : TE} (h : PC X op a b t) (h1 : behindInMarks op b = false := by first | exact yX _ (by decide) (by decide) | rfl) : PT X (.Compare a [op] [b] pos) (tB t) := by
  intro pins s σ H Q I hw;refine wpAny_isTrue_Compare1 (cQ (h pins s σ H _ I hw) fun v s1 h1 => cQ h1 fun u s2 h2 => cQ h2 fun c s3 ⟨x, H1, I1, r1, q1⟩ => ?_) h1;obtain ⟨d, rfl, q⟩ := q1;cases r1;exact wpAny_truthy_bool ⟨H1, I1, q⟩
theorem CA {e : Expr} {t : TE} (h : PE X e t) (he : ∀ whole, isTrue e X.env whole = (do let v <- whole; standAt e.pos; holding [v] (truthy v)) := by intro _; rfl) : PT X e (tB t) := by
  intro pins s σ H Q I hw;refine isTrue_plain (cQ (h pins s σ H _ I hw) fun v s1 ⟨x, H1, I1, r1, q1⟩ => ?_) (he _);obtain ⟨d, rfl, q⟩ := q1;cases r1;exact wpAny_truthy_bool ⟨H1, I1, q⟩
variable {tA tB' : TT} {dg : List Expr}
def Fc (t u : TT) : TT := fun σ H Q => t σ H fun c H1 => if c = true then u σ H1 Q else Q false H1
def FA (t u : TT) : TT := fun σ H Q => t σ H fun c H1 => if c = true then Q true H1 else u σ H1 Q
def EH (t : TT) : TT := fun σ H Q => t σ H fun c H1 => Q (!c) H1
theorem pw_and1 (ha : PT X a tA) : PW X (.BoolOp .And [a] pos) tA := by
  intro wh pins s σ H Q I h;refine isTrue_and (cQ (ha pins s σ H Q I h) fun c s1 e => ?_);cases c with
  | true => exact isTrue_and_nil e
  | false => exact e
theorem pw_or1 (ha : PT X a tA) : PW X (.BoolOp .Or [a] pos) tA := by
  intro wh pins s σ H Q I h;refine isTrue_or (cQ (ha pins s σ H Q I h) fun c s1 e => ?_);cases c with
  | false => exact isTrue_or_nil e
  | true => exact e
theorem pw_and (ha : PT X a tA) (hb : PW X (.BoolOp .And (b :: dg) pos) tB') : PW X (.BoolOp .And (a :: b :: dg) pos) (Fc tA tB') := by
  intro wh pins s σ H Q I h;refine isTrue_and (cQ (ha pins s σ H _ I h) fun c s1 ⟨H1, I1, q1⟩ => ?_);cases c with
  | true => exact hb wh pins s1 σ H1 Q I1 q1
  | false => exact ⟨H1, I1, q1⟩
theorem pw_or (ha : PT X a tA) (hb : PW X (.BoolOp .Or (b :: dg) pos) tB') : PW X (.BoolOp .Or (a :: b :: dg) pos) (FA tA tB') := by
  intro wh pins s σ H Q I h;refine isTrue_or (cQ (ha pins s σ H _ I h) fun c s1 ⟨H1, I1, q1⟩ => ?_);cases c with
  | true => exact ⟨H1, I1, q1⟩
  | false => exact hb wh pins s1 σ H1 Q I1 q1
theorem BU (ha : PT X a tA) : PT X (.UnaryOp .Not a pos) (EH tA) := by
  intro pins s σ H Q I h;exact isTrue_not (ha pins s σ H (fun c H1 => Q (!c) H1) I h)
def DG (ta tb : TE) : TE := fun σ H Q => ta σ H fun x H1 => ∃ c, x = .bl c /\ if c = true then tb σ H1 Q else Q (.bl false) H1
def EU (ta tb : TE) : TE := fun σ H Q => ta σ H fun x H1 => ∃ c, x = .bl c /\ if c = true then Q (.bl true) H1 else tb σ H1 Q
def D0 (ta : TE) : TE := fun σ H Q => ta σ H fun x H1 => ∃ c, x = .bl c /\ Q (.bl (!c)) H1
theorem By {op} {t : TE} (h : PE X a t) : PE X (.BoolOp op [a] pos) t := fun pins s σ H Q I hw => BoolOp_one (h pins s σ H Q I hw)
theorem BW (ha : PE X a ta) (hb : PE X (.BoolOp .And (b :: dg) pos) tb) : PE X (.BoolOp .And (a :: b :: dg) pos) (DG ta tb) := by
  intro pins s σ H Q I h;refine BoolOp_and (cQ (ha pins s σ H _ I h) fun v s1 ⟨x, H1, I1, r1, q1⟩ => ?_);obtain ⟨c, rfl, q1⟩ := q1;cases r1;refine wpAny_truthy_bool ?_;cases c with
  | true => exact hb pins s1 σ H1 Q I1 q1
  | false => exact ⟨.bl false, H1, I1, rfl, q1⟩
theorem Dp (ha : PE X a ta) (hb : PE X (.BoolOp .Or (b :: dg) pos) tb) : PE X (.BoolOp .Or (a :: b :: dg) pos) (EU ta tb) := by
  intro pins s σ H Q I h;refine BoolOp_or (cQ (ha pins s σ H _ I h) fun v s1 ⟨x, H1, I1, r1, q1⟩ => ?_);obtain ⟨c, rfl, q1⟩ := q1;cases r1;refine wpAny_truthy_bool ?_;cases c with
  | false => exact hb pins s1 σ H1 Q I1 q1
  | true => exact ⟨.bl true, H1, I1, rfl, q1⟩
theorem Cb (ha : PE X a ta) : PE X (.UnaryOp .Not a pos) (D0 ta) := by
  intro pins s σ H Q I h;refine UnaryOp_ (cQ (ha pins s σ H _ I h) fun v s1 ⟨x, H1, I1, r1, q1⟩ => ?_);obtain ⟨c, rfl, q1⟩ := q1;cases r1;exact not_of (wpAny_truthy_bool ⟨.bl (!c), H1, I1, rfl, q1⟩)
def FK (t : TT) (ta tb : TE) : TE := fun σ H Q => t σ H fun c H1 => if c = true then ta σ H1 Q else tb σ H1 Q
theorem xQ {c : Expr} (hc : PT X c tA) (ha : PE X a ta) (hb : PE X b tb) : PE X (.IfExp c a b pos) (FK tA ta tb) := by
  intro pins s σ H Q I h;refine wpAny_IfExp (cQ (hc pins s σ H _ I h) fun d s1 ⟨H1, I1, q1⟩ => ?_);cases d with
  | true => exact ha pins s1 σ H1 Q I1 q1
  | false => exact hb pins s1 σ H1 Q I1 q1
end
def ni (K : PySem.W.Frag) (H : Hp) (a : Addr) (xs : List V) : Prop :=
  Rd H a (.lst xs) \/
    ∃ (o : Obj) (its : Array Value) (n : Nat), K.lookup a = some o /\ o.cls = .type "list" /\ o.dict = none /\ o.data = .seq its n /\ its.size <= sizeLine /\ br xs its.toList
def eE (K : PySem.W.Frag) (H : Hp) (a : Addr) (xs : List V) : Prop :=
  Rd H a (.tup xs) \/
    ∃ (o : Obj) (its : Array Value) (n : Nat), K.lookup a = some o /\ o.cls = .type "tuple" /\ o.data = .seq its n /\ its.size <= sizeLine /\ br xs its.toList
def E3 : Value -> Option V
  | .none => some .non
  | .bool b => some (.bl b)
  | .int i _ => some (.int i)
  | .str x _ => some (.str x)
  | .bytes b _ => some (.byt b)
  | .float b _ => some (.flt b)
  | .ref a => some (.ref a)
  | .type n => some (.ty n)
  | _ => none
theorem bA.abs {x : V} {u : Value} (r : bA x u) : E3 u = some x := by
  cases x with
  | non => cases r; rfl
  | bl _ => cases r; rfl
  | int _ => obtain ⟨t, rfl⟩ := r; rfl
  | str _ => obtain ⟨t, rfl⟩ := r; rfl
  | byt _ => obtain ⟨t, rfl⟩ := r; rfl
  | flt _ => obtain ⟨t, rfl⟩ := r; rfl
  | ref _ => cases r; rfl
  | ty _ => cases r; rfl
theorem bA.inj {x y : V} {u : Value} (r : bA x u) (q : bA y u) : x = y := Option.some.inj (r.abs.symm.trans q.abs)
theorem br.inj : ∀ {xs ys : List V} {us : List Value}, br xs us -> br ys us -> xs = ys
  | _, _, _, .nil, .nil => rfl
  | _, _, _, .cons r t, .cons r' t' => by rw [r.inj r', br.inj t t']
section
variable {X : Cx} {pins : List (Addr × Obj)} {σ : St} {H : Hp} {s : Shared} {a : Addr} {xs ys : List V}
theorem ni.of {K : PySem.W.Frag} (h : H a = some (.lst xs)) : ni K H a xs := .inl (.inl h)
theorem eE.of {K : PySem.W.Frag} (h : H a = some (.tup xs)) : eE K H a xs := .inl (.inl h)
theorem aM.list (I : aM X pins σ H s) (h : ni X.K H a xs) : ∃ its : List Value, br xs its /\ PlainL s.heap a its.toArray /\ xs.length <= sizeLine := by
  rcases h with h | ⟨o, its, n, hk, hc, hd, hs, hz, r⟩
  · obtain ⟨z, its, n, r, e⟩ := h.ok I.hok;exact ⟨its, r, ⟨_, n, e, rfl, rfl, rfl⟩, z⟩
  · refine ⟨its.toList, r, ⟨o, n, I.kIn a o hk, hc, hd, by simpa using hs⟩, ?_⟩;have e := r.length;simp only [Array.length_toList] at e;omega
theorem aM.tuple (I : aM X pins σ H s) (h : eE X.K H a xs) : ∃ its : List Value, br xs its /\ IsTup s.heap a its.toArray /\ xs.length <= sizeLine := by
  rcases h with h | ⟨o, its, n, hk, hc, hs, hz, r⟩
  · obtain ⟨z, its, r, p⟩ := h.ok I.hok;exact ⟨its, r, p, z⟩
  · refine ⟨its.toList, r, ⟨o, I.kIn a o hk, hc, n, by simpa using hs⟩, ?_⟩;have e := r.length;simp only [Array.length_toList] at e;omega
theorem aM.list_inj (I : aM X pins σ H s) (h : ni X.K H a xs) (h' : ni X.K H a ys) : xs = ys := by
  obtain ⟨its, r, ⟨o, n, e, _, _, d⟩, _⟩ := I.list h;obtain ⟨its', r', ⟨o', n', e', _, _, d'⟩, _⟩ := I.list h';rw [e] at e'; cases e';rw [d] at d';injection d' with d1 _
  have : its = its' := by simpa using congrArg Array.toList d1
  subst this;exact r.inj r'
theorem aM.tuple_inj (I : aM X pins σ H s) (h : eE X.K H a xs) (h' : eE X.K H a ys) : xs = ys := by
  obtain ⟨its, r, ⟨o, e, _, n, d⟩, _⟩ := I.tuple h;obtain ⟨its', r', ⟨o', e', _, n', d'⟩, _⟩ := I.tuple h';rw [e] at e'; cases e';rw [d] at d';injection d' with d1 _
  have : its = its' := by simpa using congrArg Array.toList d1
  subst this;exact r.inj r'
end
abbrev Cx.wish (X : Cx) (E : Value -> Shared -> Prop) : Cx := { X with xe := E }
abbrev Cx.nox (X : Cx) : Cx := X.wish fun _ _ => False
theorem Cx.Ok.wish {X : Cx} (ok : X.Ok) (E : Value -> Shared -> Prop) : (X.wish E).Ok :=
  ⟨ok.mod, ok.kind, ok.glob, ok.blt, ok.above, ok.inj, ok.has, ok.cab, ok.hd, ok.frames, ok.stk, ok.exf, ok.bs, ok.bsz, ok.noex, ok.exfs, ok.funs, ok.frf⟩
theorem Cx.Ok.unwish {X : Cx} {E : Value -> Shared -> Prop} (ok : (X.wish E).Ok) : X.Ok :=
  ⟨ok.mod, ok.kind, ok.glob, ok.blt, ok.above, ok.inj, ok.has, ok.cab, ok.hd, ok.frames, ok.stk, ok.exf, ok.bs, ok.bsz, ok.noex, ok.exfs, ok.funs, ok.frf⟩
section
variable {X : Cx} {pins : List (Addr × Obj)} {σ : St} {H : Hp} {s : Shared} {E : Value -> Shared -> Prop}
theorem aM.wish (I : aM X pins σ H s) (E : Value -> Shared -> Prop) : aM (X.wish E) pins σ H s := ⟨I.ok.wish E, I.os, I.bare, I.base, I.loc, I.cell, I.free, I.freeC, I.pin, I.hok, I.len⟩
theorem aM.unwish (I : aM (X.wish E) pins σ H s) : aM X pins σ H s := ⟨I.ok.unwish, I.os, I.bare, I.base, I.loc, I.cell, I.free, I.freeC, I.pin, I.hok, I.len⟩
theorem SP.unwish {D : rW} {f : Flow} {s' : Shared} (h : SP (X.wish E) pins D f s') : SP X pins D f s' := by
  cases f with
  | next => obtain ⟨σ', H', I, q⟩ := h; exact ⟨σ', H', I.unwish, q⟩
  | brk => obtain ⟨σ', H', I, q⟩ := h; exact ⟨σ', H', I.unwish, q⟩
  | cont => obtain ⟨σ', H', I, q⟩ := h; exact ⟨σ', H', I.unwish, q⟩
  | ret u => obtain ⟨v, σ', H', I, r, q⟩ := h; exact ⟨v, σ', H', I.unwish, r, q⟩
theorem PE.nox {e : Expr} {t : TE} (h : PE X.nox e t) : PE X e t := fun pins s σ H Q I hw =>
  wpAny_mono (h pins s σ H Q (I.wish _) hw) (fun _ _ ⟨v, H', I', r, q⟩ => ⟨v, H', I'.unwish, r, q⟩) fun _ _ z => False.elim z
theorem PT.nox {e : Expr} {t : TT} (h : PT X.nox e t) : PT X e t := fun pins s σ H Q I hw =>
  wpAny_mono (h pins s σ H Q (I.wish _) hw) (fun _ _ ⟨H', I', q⟩ => ⟨H', I'.unwish, q⟩) fun _ _ z => False.elim z
theorem qX.nox {st : List Stmt} {t : TS} (h : qX X.nox st t) : qX X st t := fun pins s σ H D I hw =>
  wpAny_mono (h pins s σ H D (I.wish _) hw) (fun _ _ q => q.unwish) fun _ _ z => False.elim z
end
section
variable {X : Cx} {st : Stmt} {dg : List Stmt} {t u : TS} {e : Expr} {te : TE} {pos : Pos}
def Db : TS := fun D σ H => D.nx σ H
def Ez (t u : TS) : TS := fun D σ H => t { D with nx := u D } σ H
theorem AA : qX X [] Db := fun _ _ σ H _ I h => wpAny_execs_nil ⟨σ, H, I, h⟩
theorem nQ (h1 : PS X st t) (h2 : qX X dg u) : qX X (st :: dg) (Ez t u) := by
  intro pins s σ H D I h;refine wpAny_execs_cons (cQ (h1 pins s σ H { D with nx := u D } I h) fun f s1 q => ?_);cases f with
  | next =>
    obtain ⟨σ', H', I', q⟩ := q;exact h2 pins s1 σ' H' D I' q
  | ret v => exact q
  | brk => exact q
  | cont => exact q
theorem vK (h1 : PS X st t) : qX X [st] t := by
  intro pins s σ H D I h;refine wpAny_execs_cons (cQ (h1 pins s σ H D I h) fun f s1 q => ?_);cases f with
  | next => exact wpAny_execs_nil q
  | ret v => exact q
  | brk => exact q
  | cont => exact q
theorem aM.quiet {pins : List (Addr × Obj)} {σ : St} {H : Hp} {s : Shared} (I : aM X pins σ H s) : interactive X.env = false := by simp [interactive, I.ok.kind]
def Da (te : TE) : TS := fun D σ H => te σ H fun _ H1 => D.nx σ H1
theorem zS (he : PE X e te) (hs : swapsWith e none pos.line X.env = pure false := by rfl) : PS X (.Expr e pos) (Da te) := by
  intro pins s σ H D I h;exact wpAny_Expr_any (cQ (he pins s σ H _ I h) fun v s1 ⟨x, H1, I1, r1, q1⟩ => ⟨σ, H1, I1, q1⟩) I.quiet hs
def EV (te : TE) : TS := fun D σ H => te σ H D.rt
theorem CJ (he : PE X e te) : PS X (.Return (some e) pos) (EV te) := by
  intro pins s σ H D I h;exact wpAny_Return_some (cQ (he pins s σ H _ I h) fun v s1 ⟨x, H1, I1, r1, q1⟩ => ⟨x, σ, H1, I1, r1, q1⟩)
def EN (c : TT) (t u : TS) : TS := fun D σ H => c σ H fun b H1 => if b = true then t D σ H1 else u D σ H1
theorem D5 {c : Expr} {a b : List Stmt} {tc : TT} (hc : PT X c tc) (ha : qX X a t) (hb : qX X b u) : PS X (.If c a b pos) (EN tc t u) := by
  intro pins s σ H D I h;refine wpAny_If (cQ (hc pins s σ H _ I h) fun d s1 ⟨H1, I1, q1⟩ => ?_);cases d with
  | true => exact ha pins s1 σ H1 D I1 q1
  | false => exact hb pins s1 σ H1 D I1 q1
end
abbrev TG := V -> St -> Hp -> (St -> Hp -> Prop) -> Prop
abbrev Cg := List V -> St -> Hp -> (St -> Hp -> Prop) -> Prop
def PG (X : Cx) (target : Expr) (t : TG) : Prop :=
  ∀ (pins : List (Addr × Obj)) (s : Shared) (σ : St) (H : Hp) (v : V) (u : Value) (Q : St -> Hp -> Prop), aM X pins σ H s -> bA v u -> t v σ H Q ->
    wpAny (model X.prog X.w) X.A (assign target X.env u) (fun _ s' => ∃ σ' H', aM X pins σ' H' s' /\ Q σ' H') X.xe s
def Es (X : Cx) (ts : List Expr) (t : Cg) : Prop :=
  ∀ (pins : List (Addr × Obj)) (s : Shared) (σ : St) (H : Hp) (vs : List V) (us : List Value) (Q : St -> Hp -> Prop), aM X pins σ H s -> br vs us -> t vs σ H Q ->
    wpAny (model X.prog X.w) X.A (assignInOrder ((assignEach ts X.env).map (·.2)) us) (fun _ s' => ∃ σ' H', aM X pins σ' H' s' /\ Q σ' H') X.xe s
abbrev BP := V -> V -> V -> Hp -> (Hp -> Prop) -> Prop
def DP (X : Cx) (t : BP) : Prop :=
  ∀ (pins : List (Addr × Obj)) (s : Shared) (σ : St) (H : Hp) (o i v : V) (ov iv u : Value) (Q : Hp -> Prop), aM X pins σ H s -> bA o ov -> bA i iv -> bA v u -> t o i v H Q ->
    wpAny (model X.prog X.w) X.A (setItem ov iv u) (fun _ s' => ∃ H', aM X pins σ H' s' /\ Q H') X.xe s
abbrev Ey := V -> V -> Hp -> VK -> Prop
def EJ (X : Cx) (op : Operator) (t : Ey) : Prop :=
  ∀ (pins : List (Addr × Obj)) (s : Shared) (σ : St) (H : Hp) (x y : V) (v u : Value) (Q : VK), aM X pins σ H s -> bA x v -> bA y u -> t x y H Q ->
    wpAny (model X.prog X.w) X.A (inplaceOp op v u) (EP X pins σ Q) X.xe s
section
variable {X : Cx} {pos : Pos}
def Bo (i : Nat) : TG := fun v σ H Q => Q (σ.set i (some v)) H
theorem j6 {i : Nat} {x : Str} (hN : X.N.Nodup) (hi : X.N[i]? = some x) (hx : Bc X.env.scope x) (hf : X.fn x = true \/ X.env.scope.names.lookup x = some .local := by first | exact .inl rfl | exact .inr rfl | assumption) : PG X (.Name x pos) (Bo i) := by
  intro pins s σ H v u Q I r h;exact wpAny_assign_Name (oE I hN hi hx r (fun s' I' => ⟨_, H, I', h⟩) hf)
def EE : Cg := fun vs σ H Q => vs = [] /\ Q σ H
def DY (t : TG) (u : Cg) : Cg := fun vs σ H Q => ∃ v r, vs = v :: r /\ t v σ H fun σ' H' => u r σ' H' Q
theorem vM : Es X [] EE := by
  intro pins s σ H vs us Q I r h;obtain ⟨e, h⟩ := h;subst e;cases r;exact assignInOrder_nil ⟨σ, H, I, h⟩
theorem jm {e : Expr} {es : List Expr} {t : TG} {u : Cg} (h1 : PG X e t) (h2 : Es X es u)
    (hs : (assignEach (e :: es) X.env).map (·.2) = assign e X.env :: (assignEach es X.env).map (·.2) := by rfl) : Es X (e :: es) (DY t u) := by
  intro pins s σ H vs us Q I r h;obtain ⟨v, vr, e1, h⟩ := h;subst e1;cases r with
  | cons r rr =>
    rw [hs];refine assignInOrder_cons (cQ (h1 pins s σ H _ _ _ I r h) fun _ s1 ⟨σ1, H1, I1, q1⟩ => ?_);exact h2 pins s1 σ1 H1 _ _ Q I1 rr q1
def ET (K : PySem.W.Frag) (n : Nat) (t : Cg) : TG := fun v σ H Q => ∃ a xs, v = .ref a /\ eE K H a xs /\ xs.length = n /\ t xs σ H Q
theorem xp {es : List Expr} {k : Nat} {t : Cg} {n : Nat} (hc : X.calm = true) (h : Es X es t)
    (hn : (assignEach es X.env).length = n := by rfl) (hst : (assignEach es X.env).findIdx? (·.1) = none := by rfl) : PG X (.Tuple es k pos) (ET X.K n t) := by
  intro pins s σ H v u Q I r hw;obtain ⟨a, xs, e1, hq, hl, hw⟩ := hw;subst e1;cases r;obtain ⟨its, rv, ht, hz⟩ := I.tuple hq;refine assign_Tuple_tuple (I.ok.hd hc) ht (by simp [hn, <- hl, rv.length]) hst fun h' hx => ?_
  have I1 : aM X pins σ H { s with heap := h' } := I.kept (t' := s.toks) fun b o e => hx b o (Nat.ne_of_lt (Heap.lt_size e)) e
  exact h pins _ σ H xs _ Q I1 (by simpa using rv) hw
def EY (to ti : TE) (t : BP) : TG := fun v σ H Q => to σ H fun o H1 => ti σ H1 fun i H2 => t o i v H2 fun H3 => Q σ H3
theorem Co {o i : Expr} {to ti : TE} {t : BP} (ho : PE X o to) (hi : PE X i ti) (hs : DP X t)
    (ha : ∀ v, assign (.Subscript o i pos) X.env v = (do
      let ov <- holding [v] (eval o X.env)
      let iv <- holding [v, ov] (eval i X.env)
      standAt pos
      holding [v, ov, iv] (setItem ov iv v)
      release [v, ov, iv] []) := by intro _; rfl) : PG X (.Subscript o i pos) (EY to ti t) := by
  intro pins s σ H v u Q I r h;rw [ha];refine wpAny_bind (wpAny_holding (cQ (ho pins s σ H _ I h) fun ov s1 ⟨x, H1, I1, r1, q1⟩ => ?_));refine wpAny_bind (wpAny_holding (cQ (hi pins s1 σ H1 _ I1 q1) fun iv s2 ⟨y, H2, I2, r2, q2⟩ => ?_));refine wpAny_bind (wpAny_standAt (wpAny_bind (wpAny_holding (cQ (hs pins s2 σ H2 x y v ov iv u _ I2 r1 r2 r q2) fun _ s3 ⟨H3, I3, q3⟩ => ?_))));exact wpAny_release ⟨σ, H3, I3, q3⟩
def Ei (te : TE) (g : TG) : TS := fun D σ H => te σ H fun x H1 => g x σ H1 D.nx
theorem x5 {tg e : Expr} {te : TE} {g : TG} (he : PE X e te) (hg : PG X tg g) (hs : swapsWithSole [tg] e pos.line X.env = pure false := by rfl) (hw : swappedStores [tg] e X.env = pure none := by rfl)
    (h1 : (assignEach [tg] X.env).map (·.2) = [assign tg X.env] := by rfl) : PS X (.Assign [tg] e pos) (Ei te g) := by
  intro pins s σ H D I h;refine wpAny_Assign_stores (cQ (he pins s σ H _ I h) fun v s1 ⟨x, H1, I1, r1, q1⟩ => ?_) hs hw;rw [h1];exact cQ (hg pins s1 σ H1 x v _ I1 r1 q1) fun _ s2 q => q
theorem zf {i : Nat} {x : Str} {e : Expr} {te : TE} {pos' : Pos} (hN : X.N.Nodup) (hi : X.N[i]? = some x) (hx : Bc X.env.scope x) (he : PE X e te) (hs : swapsWith e (some (.Name x pos')) pos.line X.env = pure false := by rfl) (hf : X.fn x = true \/ X.env.scope.names.lookup x = some .local := by first | exact .inl rfl | exact .inr rfl | assumption) :
    PS X (.Assign [.Name x pos'] e pos) (Ei te (Bo i)) := by
  intro pins s σ H D I h;refine wpAny_Assign_Name (cQ (he pins s σ H _ I h) fun v s1 ⟨y, H1, I1, r1, q1⟩ => ?_) hs;exact oE I1 hN hi hx r1 (fun s2 I2 => ⟨_, H1, I2, q1⟩) hf
def EQ (i : Nat) (te : TE) (ti : Ey) : TS := fun D σ H => ∃ x, σ[i]? = some (some x) /\ te σ H fun y H1 => ti x y H1 fun z H2 => D.nx (σ.set i (some z)) H2
theorem BN {i : Nat} {x : Str} {e : Expr} {te : TE} {op : Operator} {ti : Ey} {pos' : Pos} (hN : X.N.Nodup) (hi : X.N[i]? = some x) (hx : Bc X.env.scope x) (he : PE X e te) (ho : EJ X op ti) (hf : X.fn x = true \/ X.env.scope.names.lookup x = some .local := by first | exact .inl rfl | exact .inr rfl | assumption) :
    PS X (.AugAssign (.Name x pos') op e pos) (EQ i te ti) := by
  intro pins s σ H D I h;obtain ⟨v, e1, h⟩ := h;obtain ⟨m, hn, hl⟩ := I.loc;have vis : CK X.env.scope x := by rcases hx with k | k; exact .inl k; exact .inr (.inl k)
  obtain ⟨u, r, l⟩ := hl i x v hi e1 vis;refine wpAny_AugAssign_Name ?_;have go : wpAny (model X.prog X.w) X.A (eval e X.env) (fun w s₂ => wpAny (model X.prog X.w) X.A (inplaceOp op u w) (fun r s₃ => wpAny (model X.prog X.w) X.A (storeName X.env x r) (fun _ => SP X pins D .next) X.xe s₃) X.xe s₂) X.xe s := by
    refine cQ (he pins s σ H _ I h) fun w s1 ⟨y, H1, I1, r1, q1⟩ => ?_
    refine cQ (ho pins s1 σ H1 v y u w _ I1 r r1 q1) fun z s2 ⟨zv, H2, I2, r2, q2⟩ => ?_
    exact oE I2 hN hi hx r2 (fun s3 I3 => ⟨_, H2, I3, q2⟩) hf
  rcases l with ⟨hk, hm⟩ | ⟨hk, c, hc, hcell⟩
  · exact wpAny_loadName_local I.ok.kind hk hn hm go
  · rcases hk with hk | hk
    · exact wpAny_loadName_cell I.ok.kind hk hc hcell go
    · rcases hx with k | k
      · have : X.env.scope.names.lookup x = some .free := hk;rw [k] at this; cases this
      · have : X.env.scope.names.lookup x = some .free := hk;rw [k] at this; cases this
def Fj (f : Int -> Int -> Int) : Ey := fun x y H Q => ∃ i j, x = .int i /\ y = .int j /\ Q (.int (f i j)) H
theorem Cc : EJ X .Add (Fj fun i j => i + j) := by
  intro pins s σ H x y v u Q I r1 r2 h;obtain ⟨i, j, e1, e2, q⟩ := h;subst e1; subst e2;obtain ⟨t, rfl⟩ := r1;obtain ⟨t', rfl⟩ := r2;exact iadd_int ⟨.int _, H, I.tok _, ⟨_, rfl⟩, q⟩
end
section
variable {X : Cx} {pos : Pos}
def B5 (c : TT) (tb : TS) : TS := fun D σ H => ∃ W : Nat -> St -> Hp -> Prop, (∃ m, W m σ H) /\ ∀ m σ H, W m σ H ->
  c σ H fun b H1 => if b = true then ∃ N : St -> Hp -> Prop, (∀ σ' H', N σ' H' -> ∃ m', m' < m /\ W m' σ' H') /\ tb { D with nx := N, ct := N, bk := D.nx } σ H1 else D.nx σ H1
theorem zb {c : Expr} {body : List Stmt} {tc : TT} {tb : TS} (hp : PassesOwn (model X.prog X.w) X.A X.env X.xe) (hc : PT X c tc) (hb : qX X body tb) : PS X (.While c body [] pos) (B5 tc tb) := by
  intro pins s σ H D I h;obtain ⟨W, ⟨m0, w0⟩, turn⟩ := h;refine wpAny_While (codeAny_whileLoop (fun n s' => ∃ σ' H', aM X pins σ' H' s' /\ W n σ' H') ?_ m0 ⟨σ, H, I, w0⟩);rintro n s1 ⟨σ1, H1, I1, w1⟩;refine wpAny_passesOwn hp (cQ (hc pins s1 σ1 H1 _ I1 (turn n σ1 H1 w1)) fun b s2 ⟨H2, I2, q2⟩ => ?_);cases b with
  | true =>
    obtain ⟨N, hN, q2⟩ := q2;rw [if_pos rfl];refine wpAny_passesOwn hp (cQ (hb pins s2 σ1 H2 _ I2 q2) fun f s3 q3 => ?_);cases f with
    | next =>
      obtain ⟨σ3, H3, I3, n3⟩ := q3;obtain ⟨m', hm, w3⟩ := hN σ3 H3 n3;exact ⟨m', hm, σ3, H3, I3, w3⟩
    | cont =>
      obtain ⟨σ3, H3, I3, n3⟩ := q3;obtain ⟨m', hm, w3⟩ := hN σ3 H3 n3;exact ⟨m', hm, σ3, H3, I3, w3⟩
    | brk => exact q3
    | ret v => exact q3
  | false =>
    rw [if_neg Bool.false_ne_true];exact wpAny_execs_nil ⟨σ1, H2, I2, q2⟩
end
structure It where
  go : Nat -> Hp -> Prop
  yld : Nat -> Hp -> V -> Hp -> Prop
  stop : Nat -> Hp -> Prop
def lV (X : Cx) (pins : List (Addr × Obj)) (H : Hp) (b : Addr) : Prop :=
  H b = none /\ b ≠ X.env.locals /\ b ∉ X.fs /\ (b ∈ X.ex \/ X.s₀.heap.objs.size <= b) /\ (∀ x c, X.env.cells.lookup x = some c -> c ≠ b) /\ ∀ p ∈ X.pn ++ pins, p.1 ≠ b
theorem aM.fpOk {X : Cx} {pins : List (Addr × Obj)} {σ : St} {H H' : Hp} {s : Shared} {b : Addr} (I : aM X pins σ H s) (hb : s.heap.objs.size <= b) (hn : H' b = none) : lV X pins H' b := by
  refine ⟨hn, Nat.ne_of_gt (Nat.lt_of_lt_of_le I.lt hb), I.nofs hb, .inr (Nat.le_trans I.sz hb), fun x c e z => ?_, fun p hp z => ?_⟩
  · obtain ⟨v, q⟩ := I.cell x c e;exact absurd (Nat.lt_of_lt_of_le q.lt (by rw [z]; exact hb)) (Nat.lt_irrefl _)
  · exact absurd (Nat.lt_of_lt_of_le (Heap.lt_size (I.pin p hp).1) (by rw [z]; exact hb)) (Nat.lt_irrefl _)
structure rP (P : Program) (w : World) (K : PySem.W.Frag) (tg : Expr) (J : It) (fp : List Addr) (it : Addr) (tn : Nat -> Heap -> Prop) : Prop where
  mem : it ∈ fp
  obj : ∀ i h, tn i h -> ∀ b ∈ fp, ∃ o, h.get? b = some o /\ ∀ v, o.data ≠ .cell v
  keep : ∀ i h h', tn i h -> (∀ b ∈ fp, ∀ o, h.get? b = some o -> h'.get? b = some o) -> tn i h'
  item : ∀ (X : Cx), X.prog = P -> X.w = w -> X.K = K -> X.calm = true -> ∀ (i : Nat) (pins : List (Addr × Obj)) (s : Shared) (σ : St) (H : Hp) (E : Value -> Shared -> Prop), aM X pins σ H s -> (∀ b ∈ fp, lV X pins H b) -> tn i s.heap -> J.go i H ->
    wpAny (model P w) X.A (pyNext (.ref it)) (fun r s1 => ∃ u, r = some u /\
      wpAny (model P w) X.A (letOwnedTupleGo tg (.ref it) u) (fun _ s2 => ∃ x H', aM X pins σ H' s2 /\ bA x u /\ J.yld i H x H' /\ tn (i + 1) s2.heap /\ ∀ b ∈ fp, H' b = none) E s1) E s
  done : ∀ (X : Cx), X.prog = P -> X.w = w -> X.K = K -> X.calm = true -> ∀ (i : Nat) (pins : List (Addr × Obj)) (s : Shared) (σ : St) (H : Hp) (E : Value -> Shared -> Prop), aM X pins σ H s -> (∀ b ∈ fp, lV X pins H b) -> tn i s.heap -> J.stop i H ->
    wpAny (model P w) X.A (pyNext (.ref it)) (fun r s1 => r = none /\ aM X pins σ H s1) E s
  self : ∀ (A : Around) (i : Nat) (s : Shared) (Q : Value -> Shared -> Prop) (E : Value -> Shared -> Prop), tn i s.heap -> Q (.ref it) s -> wpAny (model P w) A (pyIter (.ref it)) Q E s
abbrev TI := St -> Hp -> (It -> Hp -> Prop) -> Prop
def Fi (X : Cx) (pins : List (Addr × Obj)) (σ : St) (tg : Expr) (R : It -> Hp -> Prop) (itv : Value) (s2 : Shared) : Prop :=
  ∃ (it : Addr) (fp : List Addr) (tn : Nat -> Heap -> Prop) (J : It) (H' : Hp), itv = .ref it /\ aM X pins σ H' s2 /\ rP X.prog X.w X.K tg J fp it tn /\ tn 0 s2.heap /\ (∀ b ∈ fp, lV X pins H' b) /\ R J H'
def PI (X : Cx) (tg iter : Expr) (wi : TI) : Prop :=
  ∀ (pins : List (Addr × Obj)) (s : Shared) (σ : St) (H : Hp) (R : It -> Hp -> Prop), aM X pins σ H s -> wi σ H R ->
    wpAny (model X.prog X.w) X.A (eval iter X.env) (fun v s1 => wpAny (model X.prog X.w) X.A (pyIter v) (Fi X pins σ tg R) X.xe s1) X.xe s
theorem yj {M : Model} {A : Around} {E : Value -> Shared -> Prop} {s : Shared} {tg : Expr} {it : Addr} {u : Value} {o : Obj} {n : String} {vs : Array Value} {Q : Unit -> Shared -> Prop} (ho : s.heap.get? it = some o) (hc : o.cls = .type n) (hd : o.data = .fields vs)
    (hn : ["enumerate", "zip", "dict_itemiterator", "dict_reverseitemiterator", "odict_iterator", "itertools.zip_longest", "itertools.pairwise"].contains n = false) (hQ : Q () s) : wpAny M A (letOwnedTupleGo tg (.ref it) u) Q E s := by
  unfold letOwnedTupleGo;cases tg <;> first
    | exact wpAny_pure hQ
    | (cases u <;> first
        | exact wpAny_pure hQ
        | (refine wpAny_bind (wpAny_load ho ?_)
           rw [hc, hd];show wpAny M A (if (["enumerate", "zip", "dict_itemiterator", "dict_reverseitemiterator", "odict_iterator", "itertools.zip_longest", "itertools.pairwise"].contains n && vs[0]? == some (rawInt _)) = true then _ else _) Q E s;rw [if_neg (by intro h; rw [hn, Bool.false_and] at h; cases h)];exact wpAny_pure hQ))
def E8 (K : PySem.W.Frag) (a : Addr) : It :=
  ⟨fun i H => ∃ xs x, ni K H a xs /\ xs[i]? = some x, fun i H x H' => H' = H /\ ∀ xs, ni K H a xs -> xs[i]? = some x, fun i H => ∃ xs, ni K H a xs /\ xs.length <= i⟩
def EO (K : PySem.W.Frag) (a : Addr) : It :=
  ⟨fun i H => ∃ xs x, eE K H a xs /\ xs[i]? = some x, fun i H x H' => H' = H /\ ∀ xs, eE K H a xs -> xs[i]? = some x, fun i H => ∃ xs, eE K H a xs /\ xs.length <= i⟩
def Ew (lo : Int) (n : Nat) : It := ⟨fun i _ => i < n, fun i H x H' => H' = H /\ x = .int (lo + i), fun i _ => n <= i⟩
theorem wC {P : Program} {w : World} {K : PySem.W.Frag} {tg : Expr} (a it : Addr) : rP P w K tg (E8 K a) [it] it (fun i h => h.IsListIter it a i) where
  mem := by simp
  obj := fun i h st b hb => by
    have e : b = it := by simpa using hb
    subst e;obtain ⟨o, e, c, d⟩ := st;exact ⟨o, e, fun v z => by rw [d] at z; cases z⟩
  keep := fun i h h' st k => st.at fun o e => k it (by simp) o e
  item := by
    intro X hP hw hK hc i pins s σ H E I hf st hg;subst hP hw hK;obtain ⟨xs, x, hq, hx⟩ := hg;obtain ⟨its, rv, p, hz⟩ := I.list hq;obtain ⟨u, hu, ru⟩ := rv.get hx;obtain ⟨f0, f1, f2, f3, f4, f5⟩ := hf it (by simp);refine wpAny_pyNext_list_item st p.isList (x := u) (by simpa using hu) fun h' st' sb => ?_
    have I1 : aM X pins σ H { s with heap := h' } := I.turned (t' := s.toks) (fun b o hb e => (sb.2 b hb).trans e) f0 f1 f3 f4 f5;obtain ⟨o, e, c, d⟩ := id st';exact ⟨u, rfl, yj (s := { s with heap := h' }) e c d (by decide) ⟨x, H, I1, ru, ⟨rfl, fun ys hy => by rw [I.list_inj hy hq]; exact hx⟩, st', fun b hb => (hf b hb).1⟩⟩
  done := by
    intro X hP hw hK hc i pins s σ H E I hf st hg;subst hP hw hK;obtain ⟨xs, hq, hx⟩ := hg;obtain ⟨its, rv, p, hz⟩ := I.list hq;obtain ⟨f0, f1, f2, f3, f4, f5⟩ := hf it (by simp);have hl := rv.length;exact wpAny_pyNext_list_end (I.ok.hd hc) st p.isList (by simp; omega) fun h' eb => ⟨rfl, I.turned (t' := s.toks) (fun b o hb e => eb b o hb e) f0 f1 f3 f4 f5⟩
  self := fun _ _ _ _ _ st h => wpAny_pyIter_listiter st h
theorem uC {P : Program} {w : World} {K : PySem.W.Frag} {tg : Expr} (a it : Addr) : rP P w K tg (EO K a) [it] it (fun i h => h.IsTupleIter it a i) where
  mem := by simp
  obj := fun i h st b hb => by
    have e : b = it := by simpa using hb
    subst e;obtain ⟨o, e, c, d⟩ := st;exact ⟨o, e, fun v z => by rw [d] at z; cases z⟩
  keep := fun i h h' st k => st.at fun o e => k it (by simp) o e
  item := by
    intro X hP hw hK hc i pins s σ H E I hf st hg;subst hP hw hK;obtain ⟨xs, x, hq, hx⟩ := hg;obtain ⟨its, rv, p, hz⟩ := I.tuple hq;obtain ⟨u, hu, ru⟩ := rv.get hx;obtain ⟨f0, f1, f2, f3, f4, f5⟩ := hf it (by simp);refine wpAny_pyNext_tuple_item st (show s.heap.IsTuple a its.toArray from p) (x := u) (by simpa using hu) fun h' st' sb => ?_
    have I1 : aM X pins σ H { s with heap := h' } := I.turned (t' := s.toks) (fun b o hb e => (sb.2 b hb).trans e) f0 f1 f3 f4 f5;obtain ⟨o, e, c, d⟩ := id st';exact ⟨u, rfl, yj (s := { s with heap := h' }) e c d (by decide) ⟨x, H, I1, ru, ⟨rfl, fun ys hy => by rw [I.tuple_inj hy hq]; exact hx⟩, st', fun b hb => (hf b hb).1⟩⟩
  done := by
    intro X hP hw hK hc i pins s σ H E I hf st hg;subst hP hw hK;obtain ⟨xs, hq, hx⟩ := hg;obtain ⟨its, rv, p, hz⟩ := I.tuple hq;obtain ⟨f0, f1, f2, f3, f4, f5⟩ := hf it (by simp);have hl := rv.length;exact wpAny_pyNext_tuple_end (I.ok.hd hc) st (show s.heap.IsTuple a its.toArray from p) (by simp; omega) fun h' eb => ⟨rfl, I.turned (t' := s.toks) (fun b o hb e => eb b o hb e) f0 f1 f3 f4 f5⟩
  self := fun _ _ _ _ _ st h => wpAny_pyIter_tupleiter st h
theorem tV {P : Program} {w : World} {K : PySem.W.Frag} {tg : Expr} (it : Addr) (lo : Int) (n : Nat) : rP P w K tg (Ew lo n) [it] it (fun i h => IsRangeIter h it (lo + (i : Nat) * 1) ((n : Int) - (i : Nat)) 1) where
  mem := by simp
  obj := fun i h st b hb => by
    have e : b = it := by simpa using hb
    subst e;exact ⟨_, st, fun v z => by
      have z' : Data.fields _ = Data.cell v := z;cases z'⟩
  keep := fun i h h' st k => k it (by simp) _ st
  item := by
    intro X hP hw hK hc i pins s σ H E I hf st hg;subst hP hw hK;obtain ⟨f0, f1, f2, f3, f4, f5⟩ := hf it (by simp);have W := Walks.range (prog := X.prog) (w := X.w) (I.ok.hd hc) it lo 1 n;refine W.item i s _ _ hg st fun v h' tk hv st' kk => ?_
    obtain ⟨t, rfl⟩ := hv;have I1 : aM X pins σ H { s with heap := h', toks := tk } := I.turned (fun b o hb e => kk b o (by simpa using hb) e) f0 f1 f3 f4 f5;refine ⟨_, rfl, yj (s := { s with heap := h', toks := tk }) (n := "range_iterator") st' rfl rfl (by decide) ⟨.int (lo + i), H, I1, ⟨t, ?_⟩, ⟨rfl, rfl⟩, st', fun b hb => (hf b hb).1⟩⟩;rw [Int.mul_one]
  done := by
    intro X hP hw hK hc i pins s σ H E I hf st hg;subst hP hw hK;obtain ⟨f0, f1, f2, f3, f4, f5⟩ := hf it (by simp);exact wpAny_pyNext_range_end (I.ok.hd hc) st (by have : n <= i := hg; omega) fun h' eb => ⟨rfl, I.turned (t' := s.toks) (fun b o hb e => eb b o hb e) f0 f1 f3 f4 f5⟩
  self := fun _ _ _ _ _ st h => wpAny_pyIter_rangeiter st h
section
variable {X : Cx} {tg : Expr}
theorem yi {pins : List (Addr × Obj)} {σ : St} {H : Hp} {s : Shared} {R : It -> Hp -> Prop} {E : Value -> Shared -> Prop} {lo hi : Int} {t u v : Tok} {tk : Nat} (I : aM X pins σ H s) (h1 : -(2 ^ 62) <= lo) (h2 : lo < 2 ^ 62) (h3 : -(2 ^ 62) <= hi) (h4 : hi < 2 ^ 62)
    (q : R (Ew lo (hi - lo).toNat) H) : wpAny (model X.prog X.w) X.A (pyIter (.ref s.heap.objs.size)) (Fi X pins σ tg R) E { s with heap := s.heap.push { cls := .type "range", data := .fields #[.int lo t, .int hi u, .int 1 v] }, toks := tk } := by
  refine wpAny_pyIter_range (IsRange.new ..) (small_one h1 h2 h3 h4) ?_;have I1 : aM X pins σ H { s with heap := s.heap.push { cls := .type "range", data := .fields #[.int lo t, .int hi u, .int 1 v] }, toks := tk } := I.kept fun b o e => Heap.get?_push_of_some _ e
  refine ⟨(s.heap.push { cls := .type "range", data := .fields #[.int lo t, .int hi u, .int 1 v] }).objs.size, [(s.heap.push { cls := .type "range", data := .fields #[.int lo t, .int hi u, .int 1 v] }).objs.size], _, _, H, rfl,
    I1.kept (t' := tk) fun b o e => Heap.get?_push_of_some _ e, tV _ lo (hi - lo).toNat, ?_, fun b hb => ?_, q⟩
  · have e1 : lo + ((0 : Nat) : Int) * 1 = lo := by simp
    have e2 : (((hi - lo).toNat : Nat) : Int) - ((0 : Nat) : Int) = Builtin.Range.rangeSize lo hi 1 := by rw [rangeSize_one]; split <;> omega
    show IsRangeIter _ _ (lo + ((0 : Nat) : Int) * 1) ((((hi - lo).toNat : Nat) : Int) - ((0 : Nat) : Int)) 1;rw [e1, e2];exact Heap.get?_push_size _ rfl
  · have e : b = (s.heap.push { cls := .type "range", data := .fields #[.int lo t, .int hi u, .int 1 v] }).objs.size := by simpa using hb
    subst e;exact I1.fpOk (Nat.le_refl _) (I1.hok.fresh (Nat.le_refl _))
def DE (ta : TA) : TI := fun σ H R => ta σ H fun vs H1 => ∃ j : Int, vs = [.int j] /\ -(2 ^ 62) <= j /\ j < 2 ^ 62 /\ R (Ew 0 j.toNat) H1
theorem v9 {a : Expr} {ta : TA} {p pos : Pos} (hg : Gl X "range") (hm : X.mg "range" = none) (ha : PA X [a] ta) (hs : starEach [a] X.env = [(false, eval a X.env)] := by rfl) : PI X tg (.Call (.Name "range" p) [a] [] pos) (DE ta) := by
  intro pins s σ H R I h;refine Call_ (iL I hg hm boot_range (PyProof.Rows.callWith_type1 (cQ (ha pos pins s σ H _ I h) fun us s1 ⟨vs, H1, I1, r1, q1⟩ => ?_) hs rfl));obtain ⟨j, e, q1, q2, q⟩ := q1;subst e;cases r1 with
  | cons r rr =>
    cases rr;obtain ⟨t, rfl⟩ := r;exact call_range_1 (yi I1 (by omega) (by omega) q1 q2 (by simpa using q))
def Fb (wi : TI) (g : TG) (tb : TS) : TS := fun D σ H => wi σ H fun J H1 => ∃ W : Nat -> Nat -> St -> Hp -> Prop, (∃ m, W 0 m σ H1) /\ ∀ i m σ H, W i m σ H ->
  (J.stop i H /\ D.nx σ H) \/ (J.go i H /\ ∃ N : St -> Hp -> Prop, (∀ σ' H', N σ' H' -> ∃ m', m' < m /\ W (i + 1) m' σ' H') /\ ∀ x H', J.yld i H x H' -> g x σ H' fun σ2 H2 => tb { D with nx := N, ct := N, bk := D.nx } σ2 H2)
def nW (fp : List Addr) (h : Heap) : List (Addr × Obj) := fp.filterMap fun b => (h.get? b).map fun o => (b, o)
theorem iC {fp : List Addr} {h : Heap} {b : Addr} {o : Obj} (hb : b ∈ fp) (e : h.get? b = some o) : (b, o) ∈ nW fp h := List.mem_filterMap.mpr ⟨b, hb, by rw [e]; rfl⟩
theorem xg {fp : List Addr} {h : Heap} {p : Addr × Obj} (hp : p ∈ nW fp h) : p.1 ∈ fp /\ h.get? p.1 = some p.2 := by
  obtain ⟨b, hb, e⟩ := List.mem_filterMap.mp hp;cases q : h.get? b with
  | none => rw [q] at e; cases e
  | some o =>
    rw [q] at e;have e' : (b, o) = p := Option.some.inj e;subst e';exact ⟨hb, q⟩
theorem aM.pinned {pins : List (Addr × Obj)} {σ : St} {H : Hp} {s : Shared} {fp : List Addr} (I : aM X pins σ H s) (hf : ∀ b ∈ fp, lV X pins H b) (ho : ∀ b ∈ fp, ∃ o, s.heap.get? b = some o /\ ∀ v, o.data ≠ .cell v) : aM X (pins ++ nW fp s.heap) σ H s :=
  I.pins_of fun p hp => (List.mem_append.mp hp).elim (fun z => I.pin p (List.mem_append_right _ z)) fun z => by
    obtain ⟨hb, e⟩ := xg z;obtain ⟨f0, f1, f2, _⟩ := hf p.1 hb;obtain ⟨o, e', d⟩ := ho p.1 hb;rw [e] at e'; cases e';exact ⟨e, f0, f1, f2, d⟩
theorem aM.unpinned {pins pl : List (Addr × Obj)} {σ : St} {H : Hp} {s : Shared} (I : aM X (pins ++ pl) σ H s) : aM X pins σ H s := I.pins_of fun p hp => I.pin p (List.mem_append_right _ (List.mem_append_left _ hp))
theorem B6 {iter : Expr} {body : List Stmt} {wi : TI} {g : TG} {tb : TS} {pos : Pos} (hp : PassesOwn (model X.prog X.w) X.A X.env X.xe) (hc : X.calm = true) (hi : PI X tg iter wi) (hg : PG X tg g) (hb : qX X body tb)
    (hs : ∀ x, foldedSetIterable iter X.env x = pure x := by intro _; rfl) : PS X (.For tg iter body [] pos) (Fb wi g tb) := by
  intro pins s σ H D I h;refine wpAny_For (cQ (hi pins s σ H _ I h) fun v s1 h1 => cQ h1 fun itv s2 h2 => ?_) hs;obtain ⟨it, fp, tn, J, H2, e, I2, T, st2, f2, W, ⟨m0, w0⟩, turn⟩ := h2;subst e
  -- what stays true of the iterator's objects through the loop
  have stat : ∀ {H' : Hp}, (∀ b ∈ fp, H' b = none) -> ∀ b ∈ fp, lV X pins H' b := fun hn b hb => ⟨hn b hb, (f2 b hb).2⟩
  refine codeAny_forLoop_any (fun n s' => ∃ i σ' H', aM X pins σ' H' s' /\ tn i s'.heap /\ (∀ b ∈ fp, H' b = none) /\ W i n σ' H') ?_ m0 ⟨0, σ, H2, I2, st2, fun b hb => (f2 b hb).1, w0⟩;rintro n s3 ⟨i, σ3, H3, I3, st3, fr3, w3⟩;rcases turn i n σ3 H3 w3 with ⟨stop, qn⟩ | ⟨go, N, hN, step⟩
  · refine wpAny_passesOwn hp (cQ (T.done X rfl rfl rfl hc i pins s3 σ3 H3 X.xe I3 (stat fr3) st3 stop) fun r s4 ⟨hr, I4⟩ => ?_);subst hr;exact wpAny_execs_nil ⟨σ3, H3, I4, qn⟩
  · refine wpAny_passesOwn hp (cQ (T.item X rfl rfl rfl hc i pins s3 σ3 H3 X.xe I3 (stat fr3) st3 go) fun r s4 ⟨u, hr, h4⟩ => ?_);subst hr;refine wpAny_passesOwn hp (cQ h4 fun _ s5 ⟨x, H5, I5, r5, y5, st5, fr5⟩ => ?_);have I5' := I5.pinned (stat fr5) (T.obj _ _ st5);refine wpAny_passesOwn hp (cQ (hg _ s5 σ3 H5 x u _ I5' r5 (step x H5 y5)) fun _ s6 ⟨σ6, H6, I6, q6⟩ => ?_);refine wpAny_passesOwn hp (cQ (hb _ s6 σ6 H6 _ I6 q6) fun f s7 q7 => ?_);have again : ∀ {σ7 : St} {H7 : Hp}, aM X (pins ++ nW fp s5.heap) σ7 H7 s7 -> N σ7 H7 -> ∃ m, m < n /\ ∃ i σ' H', aM X pins σ' H' s7 /\ tn i s7.heap /\ (∀ b ∈ fp, H' b = none) /\ W i m σ' H' := fun {σ7 H7} I7 n7 => by
      obtain ⟨m', hm, w7⟩ := hN σ7 H7 n7;refine ⟨m', hm, i + 1, σ7, H7, I7.unpinned, T.keep _ _ _ st5 fun b hb o e => (I7.pin (b, o) (List.mem_append_right _ (List.mem_append_right _ (iC hb e)))).1, fun b hb => ?_, w7⟩;obtain ⟨o, e, d⟩ := T.obj _ _ st5 b hb;exact (I7.pin (b, o) (List.mem_append_right _ (List.mem_append_right _ (iC hb e)))).2.1
    cases f with
    | next => obtain ⟨σ7, H7, I7, n7⟩ := q7; exact again I7 n7
    | cont => obtain ⟨σ7, H7, I7, n7⟩ := q7; exact again I7 n7
    | brk => obtain ⟨σ7, H7, I7, q7⟩ := q7; exact ⟨σ7, H7, I7.unpinned, q7⟩
    | ret v => obtain ⟨x7, σ7, H7, I7, r7, q7⟩ := q7; exact ⟨x7, σ7, H7, I7.unpinned, r7, q7⟩
end
abbrev R2 := V -> V -> Hp -> VK -> Prop
def iZ (X : Cx) (f : Value -> Value -> Sem Value) (r : R2) : Prop :=
  ∀ (pins : List (Addr × Obj)) (s : Shared) (σ : St) (H : Hp) (x y : V) (v u : Value) (Q : VK), aM X pins σ H s -> bA x v -> bA y u -> r x y H Q ->
    wpAny (model X.prog X.w) X.A (f v u) (EP X pins σ Q) X.xe s
def dN (X : Cx) (f : Value) (r : List V -> Hp -> VK -> Prop) : Prop :=
  ∀ (pins : List (Addr × Obj)) (s : Shared) (σ : St) (H : Hp) (xs : List V) (us : List Value) (Q : VK), aM X pins σ H s -> br xs us -> r xs H Q ->
    wpAny (model X.prog X.w) X.A (call f us) (EP X pins σ Q) X.xe s
def De (r : R2) (ta tb : TE) : TE := fun σ H Q => ta σ H fun x H1 => tb σ H1 fun y H2 => r x y H2 Q
def rI (C : Int -> Int -> Prop) (g : Int -> Int -> V) : R2 := fun x y H Q => ∃ i j, x = .int i /\ y = .int j /\ C i j /\ Q (g i j) H
def zx (g : Int -> Int -> V) : R2 := fun x y H Q => ∃ i j, x = .int i /\ y = .int j /\ Q (g i j) H
section
variable {X : Cx} {a b c : Expr} {ta tb tc : TE} {pos : Pos}
theorem BZ (ha : PE X a ta) (hb : PE X b tb) {pins : List (Addr × Obj)} {s : Shared} {σ : St} {H : Hp} {R : V -> V -> Hp -> Prop} (I : aM X pins σ H s)
    (h : ta σ H fun x H1 => tb σ H1 fun y H2 => R x y H2) {Q : Value -> Shared -> Prop} {f : Value -> Value -> Sem Value}
    (hf : ∀ v u s2 x y H2, aM X pins σ H2 s2 -> bA x v -> bA y u -> R x y H2 -> wpAny (model X.prog X.w) X.A (f v u) Q X.xe s2) :
    wpAny (model X.prog X.w) X.A (eval a X.env) (fun v s₁ => wpAny (model X.prog X.w) X.A (eval b X.env) (fun u s₂ => wpAny (model X.prog X.w) X.A (f v u) Q X.xe s₂) X.xe s₁) X.xe s := by
  refine cQ (ha pins s σ H _ I h) fun v s1 ⟨x, H1, I1, r1, q1⟩ => ?_
  refine cQ (hb pins s1 σ H1 _ I1 q1) fun u s2 ⟨y, H2, I2, r2, q2⟩ => ?_
  exact hf v u s2 x y H2 I2 r1 r2 q2
theorem CW {op : Operator} {r : R2} (ho : iZ X (binaryOp op) r) (ha : PE X a ta) (hb : PE X b tb) : PE X (.BinOp a op b pos) (De r ta tb) := by
  intro pins s σ H Q I h;exact wpAny_BinOp (BZ ha hb I h fun v u s2 x y H2 I2 rx ry q => ho pins s2 σ H2 x y v u Q I2 rx ry q)
theorem ER {f : Value -> Value -> Sem Value} {C : Int -> Int -> Prop} {g : Int -> Int -> Int}
    (rule : ∀ (i j : Int) (t u : Tok) (s : Shared) (Q : Value -> Shared -> Prop) (E : Value -> Shared -> Prop), C i j -> Q (.int (g i j) s.toks) { s with toks := s.toks + 1 } -> wpAny (model X.prog X.w) X.A (f (.int i t) (.int j u)) Q E s) :
    iZ X f (rI C fun i j => .int (g i j)) := by
  intro pins s σ H x y v u Q I rx ry h;obtain ⟨i, j, rfl, rfl, hc, q⟩ := h;obtain ⟨t, rfl⟩ := rx;obtain ⟨t', rfl⟩ := ry;exact rule i j t t' s _ _ hc ⟨.int (g i j), H, I.tok _, ⟨_, rfl⟩, q⟩
theorem Dq {f : Value -> Value -> Sem Value} {g : Int -> Int -> Int}
    (rule : ∀ (i j : Int) (t u : Tok) (s : Shared) (Q : Value -> Shared -> Prop) (E : Value -> Shared -> Prop), Q (.int (g i j) s.toks) { s with toks := s.toks + 1 } -> wpAny (model X.prog X.w) X.A (f (.int i t) (.int j u)) Q E s) :
    iZ X f (zx fun i j => .int (g i j)) := by
  intro pins s σ H x y v u Q I rx ry h;obtain ⟨i, j, rfl, rfl, q⟩ := h;obtain ⟨t, rfl⟩ := rx;obtain ⟨t', rfl⟩ := ry;exact rule i j t t' s _ _ ⟨.int (g i j), H, I.tok _, ⟨_, rfl⟩, q⟩
theorem BH {f : Value -> Value -> Sem Value} {g : Int -> Int -> Bool}
    (rule : ∀ (i j : Int) (t u : Tok) (s : Shared) (Q : Value -> Shared -> Prop) (E : Value -> Shared -> Prop), Q (.bool (g i j)) s -> wpAny (model X.prog X.w) X.A (f (.int i t) (.int j u)) Q E s) :
    iZ X f (zx fun i j => .bl (g i j)) := by
  intro pins s σ H x y v u Q I rx ry h;obtain ⟨i, j, rfl, rfl, q⟩ := h;obtain ⟨t, rfl⟩ := rx;obtain ⟨t', rfl⟩ := ry;exact rule i j t t' s _ _ ⟨.bl (g i j), H, I, rfl, q⟩
def D4 (i j : Int) : Prop := 0 < j /\ j < 1073741824
def zV (i j : Int) : Prop := (-(2 ^ 64) < i /\ i < 2 ^ 64) \/ (-(2 ^ 64) < j /\ j < 2 ^ 64)
theorem zV.ok {i j : Int} (h : zV i j) : IntMulOk i j := by
  rcases h with ⟨h1, h2⟩ | ⟨h1, h2⟩
  · exact .of_left (intBits_le_64 h1 h2)
  · exact .of_right (intBits_le_64 h1 h2)
theorem BX : iZ X (binaryOp .Add) (zx fun i j => .int (i + j)) := Dq fun _ _ _ _ _ _ _ q => add_int q
theorem Cp : iZ X (binaryOp .Sub) (zx fun i j => .int (i - j)) := Dq fun _ _ _ _ _ _ _ q => sub_int q
theorem B3 : iZ X (binaryOp .Mult) (rI zV fun i j => .int (i * j)) := ER fun _ _ _ _ _ _ _ hc q => mul_int q hc.ok
theorem z0 : iZ X (binaryOp .FloorDiv) (rI D4 fun i j => .int (i / j)) := ER fun i j _ _ _ _ _ hc q => by
  have h1 : (0 : Int) < j := hc.1;have h2 : j < 1073741824 := hc.2;exact floordiv_int (by omega) (by rw [Int.fdiv_eq_ediv_of_nonneg i (by omega)]; exact q) (.inl (PyProof.noPylong_small (by omega)))
theorem Cm : iZ X (binaryOp .Mod) (rI (fun _ j => 0 < j) fun i j => .int (i % j)) := ER fun i j _ _ _ _ _ hc q => by
  have h1 : (0 : Int) < j := hc;exact mod_int' (by omega) (by rw [Int.fmod_eq_emod_of_nonneg i (by omega)]; exact q)
end
section
variable {X : Cx} {a b c : Expr} {ta tb tc : TE} {pos : Pos}
theorem xW {pins : List (Addr × Obj)} {σ : St} {H : Hp} {s : Shared} {Q : VK} {k k' : Bool} (I : aM X pins σ H s) (q : Q (.bl k) H) (e : k = k') : EP X pins σ Q (.bool k') s := by
  subst e;exact ⟨.bl k, H, I, rfl, q⟩
theorem Ea : iZ X (compareOp .Lt) (zx fun i j => .bl (decide (i < j))) := BH fun _ _ _ _ _ _ _ q => lt_int q
theorem Bl : iZ X (compareOp .LtE) (zx fun i j => .bl (decide (i <= j))) := BH fun _ _ _ _ _ _ _ q => le_int q
theorem Ba : iZ X (compareOp .Gt) (zx fun i j => .bl (decide (j < i))) := BH fun _ _ _ _ _ _ _ q => gt_int q
theorem ye : iZ X (compareOp .Is) (fun x y H Q => y = .non /\ Q (.bl (decide (x = .non))) H) := by
  intro pins s σ H x y v u Q I rx ry h;obtain ⟨rfl, q⟩ := h;cases ry;refine is_none_gen (xW I q ?_);cases x <;> first
    | (cases rx; rfl)
    | (obtain ⟨t, rfl⟩ := rx; rfl)
theorem AD : iZ X (compareOp .IsNot) (fun x y H Q => y = .non /\ Q (.bl (!decide (x = .non))) H) := by
  intro pins s σ H x y v u Q I rx ry h;obtain ⟨rfl, q⟩ := h;cases ry;refine isnot_none_gen (xW I q ?_);cases x <;> first
    | (cases rx; rfl)
    | (obtain ⟨t, rfl⟩ := rx; rfl)
theorem iZ.or {f : Value -> Value -> Sem Value} {r r' : R2} (h : iZ X f r) (h' : iZ X f r') : iZ X f (fun x y H Q => r x y H Q \/ r' x y H Q) := by
  intro pins s σ H x y v u Q I rx ry q;rcases q with q | q
  · exact h pins s σ H x y v u Q I rx ry q
  · exact h' pins s σ H x y v u Q I rx ry q
theorem iA (b : Expr) {op : CmpOp} (h : op ≠ .In := by decide) (h2 : op ≠ .NotIn := by decide) : behindInMarks op b = false := by
  have e1 : (op == CmpOp.In) = false := by cases op <;> first | rfl | exact absurd rfl h
  have e2 : (op == CmpOp.NotIn) = false := by cases op <;> first | rfl | exact absurd rfl h2
  cases b <;> simp [behindInMarks, e1, e2]
theorem Am {op : CmpOp} {r : R2} (ho : iZ X (compareOp op) r) (ha : PE X a ta) (hb : PE X b tb) (hm : behindInMarks op b = false) : PE X (.Compare a [op] [b] pos) (De r ta tb) := by
  intro pins s σ H Q I h;exact wpAny_Compare1 (BZ ha hb I h fun v u s2 x y H2 I2 rx ry q => ho pins s2 σ H2 x y v u Q I2 rx ry q) hm
def Ej (t : TE) : TT := fun σ H Q => t σ H fun x H' => ∃ k, x = .bl k /\ Q k H'
theorem A6 {op : CmpOp} {r : R2} (ho : iZ X (compareOp op) r) (ha : PE X a ta) (hb : PE X b tb) (hm : behindInMarks op b = false) : PT X (.Compare a [op] [b] pos) (Ej (De r ta tb)) := by
  intro pins s σ H Q I h;refine wpAny_isTrue_Compare1 (cQ (ha pins s σ H _ I h) fun v s1 ⟨x, H1, I1, r1, q1⟩ => cQ (hb pins s1 σ H1 _ I1 q1) fun u s2 ⟨y, H2, I2, r2, q2⟩ =>
    cQ (ho pins s2 σ H2 x y v u _ I2 r1 r2 q2) fun c s3 ⟨z, H3, I3, r3, k, e, q3⟩ => ?_) hm
  subst e;cases r3;exact wpAny_truthy_bool ⟨H3, I3, q3⟩
def xS (r r' : R2) (ta tb tc : TE) : TE := fun σ H Q => ta σ H fun x H1 => tb σ H1 fun y H2 => r x y H2 fun z H3 => ∃ k, z = .bl k /\
  (if k = true then tc σ H3 fun w' H4 => r' y w' H4 Q else Q (.bl false) H3)
theorem zm {op op' : CmpOp} {r r' : R2} (ho : iZ X (compareOp op) r) (ho' : iZ X (compareOp op') r') (ha : PE X a ta) (hb : PE X b tb) (hc : PE X c tc)
    (hm : lastMarks [op, op'] [b, c] = false := by with_unfolding_all rfl) : PE X (.Compare a [op, op'] [b, c] pos) (xS r r' ta tb tc) := by
  intro pins s σ H Q I h;refine Compare_chain (cQ (ha pins s σ H _ I h) fun v s1 ⟨x, H1, I1, r1, q1⟩ => chain_link (cQ (hb pins s1 σ H1 _ I1 q1) fun u s2 ⟨y, H2, I2, r2, q2⟩ =>
    cQ (ho pins s2 σ H2 x y v u _ I2 r1 r2 q2) fun d s3 ⟨z, H3, I3, r3, k, e, q3⟩ => ?_)) hm
  subst e;cases r3;refine wpAny_truthy_bool ?_;cases k with
  | false => exact ite_ff ⟨.bl false, H3, I3, rfl, q3⟩
  | true => exact ite_tt (chain_last (cQ (hc pins s3 σ H3 _ I3 q3) fun w' s4 ⟨z', H4, I4, r4, q4⟩ => ho' pins s4 σ H4 y z' u w' Q I4 r2 r4 q4))
theorem my : (sizeLine : Nat) < 2 ^ 63 := by rw [sizeLine_eq]; decide
theorem gx {x : V} {us : List Value} (r : br [x] us) : ∃ u, us = [u] /\ bA x u := by
  cases r with
  | cons r1 r2 => cases r2; exact ⟨_, rfl, r1⟩
theorem vN {x y : V} {us : List Value} (r : br [x, y] us) : ∃ u w', us = [u, w'] /\ bA x u /\ bA y w' := by
  cases r with
  | cons r1 r2 =>
    cases r2 with
    | cons r3 r4 => cases r4; exact ⟨_, _, rfl, r1, r3⟩
theorem wf (hc : X.calm = true) : dN X (.builtin "max") (fun xs H Q => ∃ i j, xs = [.int i, .int j] /\ Q (.int (if j > i then j else i)) H) := by
  intro pins s σ H xs us Q I r h;obtain ⟨i, j, rfl, q⟩ := h;obtain ⟨u, w', rfl, ⟨t, rfl⟩, ⟨t', rfl⟩⟩ := vN r;refine max_two_ints (I.ok.hd hc) fun h' tk k => ⟨_, H, I.kept k, ?_, q⟩
  by_cases hj : j > i
  · rw [if_pos hj, if_pos hj]; exact ⟨_, rfl⟩
  · rw [if_neg hj, if_neg hj]; exact ⟨_, rfl⟩
theorem wm (hc : X.calm = true) : dN X (.builtin "min") (fun xs H Q => ∃ i j, xs = [.int i, .int j] /\ Q (.int (if j < i then j else i)) H) := by
  intro pins s σ H xs us Q I r h;obtain ⟨i, j, rfl, q⟩ := h;obtain ⟨u, w', rfl, ⟨t, rfl⟩, ⟨t', rfl⟩⟩ := vN r;refine min_two_ints (I.ok.hd hc) fun h' tk k => ⟨_, H, I.kept k, ?_, q⟩
  by_cases hj : j < i
  · rw [if_pos hj, if_pos hj]; exact ⟨_, rfl⟩
  · rw [if_neg hj, if_neg hj]; exact ⟨_, rfl⟩
theorem xa : dN X (.type "int") (fun xs H Q => (∃ i, xs = [.int i] /\ Q (.int i) H) \/ ∃ k, xs = [.bl k] /\ Q (.int (if k then 1 else 0)) H) := by
  intro pins s σ H xs us Q I r h;rcases h with ⟨i, rfl, q⟩ | ⟨k, rfl, q⟩
  · obtain ⟨u, rfl, t, rfl⟩ := gx r;exact call_int_int ⟨.int i, H, I, ⟨_, rfl⟩, q⟩
  · obtain ⟨u, rfl, r1⟩ := gx r;cases r1;exact call_int_bool ⟨.int (if k then 1 else 0), H, I.tok _, ⟨_, rfl⟩, q⟩
end
structure wv (h : Heap) (x dx C : Addr) (mA : Str -> Option Value) : Prop where
  obj : h.get? x = some (PySem.W.instObj C dx)
  ns : h.Ns1 dx mA
  ne : dx ≠ x
theorem wn {h : Heap} {dx : Addr} {mA : Str -> Option Value} (n : h.Ns1 dx mA) : ∃ od, h.get? dx = some od /\ ∀ name, PySem.W.lookIn name od = some (mA name) := by
  obtain ⟨o, es, ep, ho, hd, hk, _, hm⟩ := n;refine ⟨o, ho, fun name => ?_⟩;have e := hm name;unfold nsFind findBy at e;rw [<- Array.find?_toList] at e;unfold PySem.W.lookIn;rw [hd];dsimp only;split
  · rename_i y q;rw [q] at e;exact congrArg some e
  · rename_i q;rw [q] at e;have a : es.toList.any (·.refKey) = false := by
      rw [List.any_eq_false];intro y hy;obtain ⟨z, t, hkey⟩ := hk y (Array.mem_toList_iff.mp hy);simp [DictEntry.refKey, hkey]
    have a' : ¬ es.toList.any (·.refKey) = true := by rw [a]; exact Bool.false_ne_true
    rw [if_neg a'];exact congrArg some e
theorem wv.look {h : Heap} {x dx C : Addr} {mA : Str -> Option Value} (I : wv h x dx C mA) : ∃ od, PySem.W.InstAt h x (PySem.W.instObj C dx) C (some od) /\ ∀ name, PySem.W.lookIn name od = some (mA name) :=
  let ⟨od, ho, hl⟩ := wn I.ns
  ⟨od, ⟨I.obj, rfl, rfl, ho⟩, hl⟩
section
variable {prog : Program} {w : World} {A : Around} {E : Value -> Shared -> Prop} {s : Shared} {K : PySem.W.Frag} {x dx C f : Addr} {mA : Str -> Option Value} {name : Str} {v : Value}
theorem Ag {expr : Bool} {Q : Value -> Shared -> Prop} (X : K.In s.heap) (I : wv s.heap x dx C mA) (hg : PySem.W.plainGet K C name = true) (hh : PySem.W.hasDictIn K C = true)
    (ha : PySem.W.findIn K (.ref C) name = some none) (hv : mA name = some v) (hv' : PySem.W.handedIn v = true) (h : Q v { s with toks := s.toks + 1 }) :
    wpAny (model prog w) A (getAttr (.ref x) name expr) Q E s := by
  obtain ⟨od, J, hl⟩ := I.look;exact PySem.W.get_value X J (PySem.W.plainGet_of hg).1 (PySem.W.findObj_own hh ha rfl (by rw [hl, hv])) hv' h
theorem Aw {ns : List Str} {Q : Unit -> Shared -> Prop} (X : K.In s.heap) (I : wv s.heap x dx C mA)
    (hs : PySem.W.findIn K (.ref C) "__setattr__" = some (some (.builtin "object.__setattr__"))) (hp : PySem.W.plainOver K C = true) (ht : PySem.W.takerIn K C name = some none) (hh : PySem.W.hasDictIn K C = true)
    (hw : PySem.Within mA ns) (hsz : ns.length <= sizeLine)
    (h : ∀ h', wv h' x dx C (fun y => if y = name then some v else mA y) -> Heap.SameBut dx s.heap h' -> Q () { s with heap := h', toks := s.toks + 2 }) :
    wpAny (model prog w) A (setAttr (.ref x) name v) Q E s := by
  obtain ⟨od, J, hl⟩ := I.look;refine PySem.W.set_plain X J hs (PySem.W.osa_open (s := { s with toks := s.toks + 1 }) (r := none) X J hp ht fun b => ?_);obtain ⟨cd, hc, hd'⟩ := PySem.W.any_some hh;have hx : s.heap.get? x = some ⟨.ref C, some dx, .plain, #[]⟩ := I.obj;refine wpAny_bind (wpAny_pure (wpAny_bind (wpAny_bind (wpAny_loadPart hx (wpAny_bind (PySem.W.Looks.here (s := { s with toks := s.toks + 1 }) (PySem.W.looks_clsIn X hc) ?_))))));rw [hd'];refine wpAny_pure (a := some dx) (wpAny_bind (wpAny_pure (wpAny_bind ?_)));refine wpAny_nsSet1 (s := { s with toks := s.toks + 1 }) I.ns fun h' hn2 hs2 => ?_
  obtain ⟨oD, esD, epD, hoD, hdD, hcD⟩ := hn2.count (PySem.Within.cons name v hw);refine wpAny_bind (wpAny_lookBehind hoD (by rw [hdD]; exact pastItsLine_dict (Nat.le_trans hcD (by rw [List.length_cons]; omega))) ?_);exact wpAny_pure (h _ ⟨(hs2.2 _ (Ne.symm I.ne)).trans I.obj, hn2, I.ne⟩ hs2)
theorem yA {R : Result -> Shared -> Prop} {vs : List Value} {kw : List (Str × Value)} (X : K.In s.heap) (hm : PySem.W.makesIn K C = true)
    (hi : PySem.W.findIn K (.ref C) "__init__" = some (some (.ref f))) (hf : PySem.W.typeIn K (.ref f) = some (.type "function"))
    (h : codeAny (model prog w) (A.under (.builtin "type.__call__" ⟨.ref C :: vs, kw⟩)) (.call (.ref f) ⟨.ref (s.heap.objs.size + 1) :: vs, kw⟩) (PySem.W.InitBack (s.heap.objs.size + 1) R)
      { s with heap := (s.heap.push PySem.W.emptyDict).push (PySem.W.instObj C s.heap.objs.size) }) :
    codeAny (model prog w) A (.call (.ref C) ⟨vs, kw⟩) R s := by
  obtain ⟨hh, g, d, t, os⟩ := s;exact PySem.W.make_core (PySem.W.makes_of X hm) (PySem.W.looks_findIn X hi) (fun self => PySem.W.bind_fn X self hf) (.inl rfl) h
end
def im (f : Str) (v : V) : List (Str × V) -> List (Str × V)
  | [] => [(f, v)]
  | (g, x) :: r => if g = f then (g, v) :: r else (g, x) :: im f v r
theorem mI (f g : Str) (v : V) : ∀ fs : List (Str × V), (im f v fs).lookup g = if g = f then some v else fs.lookup g
  | [] => by
    show List.lookup g [(f, v)] = _;by_cases h : g = f
    · have hb : (g == f) = true := beq_iff_eq.mpr h;simp only [List.lookup, hb, if_pos h]
    · have hb : (g == f) = false := beq_eq_false_iff_ne.mpr h;simp only [List.lookup, hb, if_neg h]
  | (k, x) :: r => by
    have ih := mI f g v r;rw [show im f v ((k, x) :: r) = (if k = f then (k, v) :: r else (k, x) :: im f v r) from rfl];by_cases hk : k = f
    · rw [if_pos hk];by_cases h : g = k
      · have hb : (g == k) = true := beq_iff_eq.mpr h;simp only [List.lookup, hb, if_pos (h.trans hk)]
      · have hb : (g == k) = false := beq_eq_false_iff_ne.mpr h;simp only [List.lookup, hb, if_neg (fun e : g = f => h (e.trans hk.symm))]
    · rw [if_neg hk];by_cases h : g = k
      · have hb : (g == k) = true := beq_iff_eq.mpr h;simp only [List.lookup, hb, if_neg (fun e : g = f => hk (h.symm.trans e))]
      · have hb : (g == k) = false := beq_eq_false_iff_ne.mpr h;simp only [List.lookup, hb];exact ih
theorem lZ (f : Str) (v : V) : ∀ fs : List (Str × V), f ∈ (im f v fs).map (·.1) /\ ∀ g, g ∈ fs.map (·.1) -> g ∈ (im f v fs).map (·.1)
  | [] => ⟨by simp [im], fun g h => by simp at h⟩
  | (k, x) :: r => by
    obtain ⟨i1, i2⟩ := lZ f v r;rw [show im f v ((k, x) :: r) = (if k = f then (k, v) :: r else (k, x) :: im f v r) from rfl];by_cases hk : k = f
    · rw [if_pos hk];subst hk;exact ⟨by simp, fun g h => by simpa using h⟩
    · rw [if_neg hk];refine ⟨?_, fun g h => ?_⟩
      · rw [List.map_cons];exact List.mem_cons_of_mem _ i1
      · rw [List.map_cons] at h ⊢;rcases List.mem_cons.mp h with e | e
        · exact List.mem_cons.mpr (.inl e)
        · exact List.mem_cons_of_mem _ (i2 g e)
theorem hJ (f : Str) (v : V) : ∀ fs : List (Str × V), (im f v fs).length <= fs.length + 1
  | [] => by simp [im]
  | (k, x) :: r => by
    have ih := hJ f v r;rw [show im f v ((k, x) :: r) = (if k = f then (k, v) :: r else (k, x) :: im f v r) from rfl];by_cases hk : k = f
    · rw [if_pos hk, List.length_cons, List.length_cons]; omega
    · rw [if_neg hk, List.length_cons, List.length_cons]; omega
theorem mr.some_of {v : V} {o : Option Value} (r : mr (some v) o) : ∃ u, o = some u /\ bA v u := by
  cases o with
  | none => exact (show False from r).elim
  | some u => exact ⟨u, rfl, r⟩
theorem wb {v : V} {u : Value} (r : bA v u) : PySem.W.handedIn u = true := by
  cases v with
  | non => cases (show u = Value.none from r); rfl
  | bl b => cases (show u = Value.bool b from r); rfl
  | int i => obtain ⟨t, e⟩ := (show ∃ t, u = Value.int i t from r); cases e; rfl
  | str x => obtain ⟨t, e⟩ := (show ∃ t, u = Value.str x t from r); cases e; rfl
  | byt b => obtain ⟨t, e⟩ := (show ∃ t, u = Value.bytes b t from r); cases e; rfl
  | flt b => obtain ⟨t, e⟩ := (show ∃ t, u = Value.float b t from r); cases e; rfl
  | ref a => cases (show u = Value.ref a from r); rfl
  | ty n => cases (show u = Value.type n from r); rfl
section
variable {P : Program} {w : World} {H H' : Hp} {h h' : Heap} {a C dx : Addr} {fs fs' : List (Str × V)}
theorem vx (hok : ir P w H h) (e : H a = some (.ins C dx fs)) : ∃ mA, wv h a dx C mA /\ (∀ f, mr (fs.lookup f) (mA f)) /\ PySem.Within mA (fs.map (·.1)) /\ fs.length <= 1000 /\ H dx = some (.own a) := by
  obtain ⟨d, z, ne, ob, mA, n, r, q⟩ := (show bR P w H h a (.ins C dx fs) from hok a _ e)
  exact ⟨mA, ⟨ob, n, ne⟩, r, q, z, d⟩
end
structure v8 (K : PySem.W.Frag) (C : Addr) : Prop where
  pg : PySem.W.plainGet K C Str.empty = true
  hd : PySem.W.hasDictIn K C = true
  po : PySem.W.plainOver K C = true
  sa : PySem.W.findIn K (.ref C) "__setattr__" = some (some (.builtin "object.__setattr__"))
theorem v8.get {K : PySem.W.Frag} {C : Addr} (c : v8 K C) (f : Str) : PySem.W.plainGet K C f = true := c.pg
def dG (K : PySem.W.Frag) (C : Addr) (f : Str) : Prop := PySem.W.findIn K (.ref C) f = some none
theorem dG.taker {K : PySem.W.Frag} {C : Addr} {f : Str} (n : dG K C f) : PySem.W.takerIn K C f = some none := by
  unfold PySem.W.takerIn;rw [show PySem.W.findIn K (.ref C) f = some none from n];rfl
section
variable {X : Cx} {pins : List (Addr × Obj)} {σ : St} {H : Hp} {s : Shared} {a C dx : Addr} {fs : List (Str × V)} {f : Str} {v : V} {A : Around} {E : Value -> Shared -> Prop}
theorem tF {y : V} {u : Value} {Q : Unit -> Shared -> Prop} (I : aM X pins σ H s) (e : H a = some (.ins C dx fs)) (c : v8 X.K C) (n : dG X.K C f) (hl : fs.length < 1000) (ry : bA y u)
    (h : ∀ s', aM X pins σ (cm H a (.ins C dx (im f y fs))) s' -> Q () s') : wpAny (model X.prog X.w) A (setAttr (.ref a) f u) Q E s := by
  obtain ⟨mA, O, r, wi, _, ho⟩ := vx I.hok e;have hz : (fs.map (·.1)).length <= sizeLine := by rw [List.length_map, sizeLine_eq]; omega
  refine Aw I.kIn O c.sa c.po n.taker c.hd wi hz fun h' O' sb => h _ ?_
  have hd : ∃ o, h'.get? dx = some o := let ⟨o, _, _, e', _⟩ := O'.ns; ⟨o, e'⟩
  refine I.write (x := a) (e := dx) (by rw [e]; exact True.intro) (.inr ho) (fun b q hb z => (sb.2 b hb).trans z) hd ?_;refine ⟨by rw [au O.ne]; exact ho, ?_, O.ne, O'.obj, _, O'.ns, fun g => ?_, fun g hg => ?_⟩
  · have := hJ f y fs; omega
  · show mr ((im f y fs).lookup g) (if g = f then some u else mA g);rw [mI];by_cases q : g = f
    · rw [if_pos q, if_pos q]; exact ry
    · rw [if_neg q, if_neg q]; exact r g
  · by_cases q : g = f
    · rw [q]; exact (lZ f y fs).1
    · refine (lZ f y fs).2 g (wi g fun z => hg ?_);show (if g = f then some u else mA g) = none;rw [if_neg q]; exact z
theorem aM.made (I : aM X pins σ H s) : aM X pins σ (cm (cm H s.heap.objs.size (.own (s.heap.objs.size + 1))) (s.heap.objs.size + 1) (.ins C s.heap.objs.size []))
    { s with heap := (s.heap.push PySem.W.emptyDict).push (PySem.W.instObj C s.heap.objs.size) } := by
  have e1 : (s.heap.push PySem.W.emptyDict).get? s.heap.objs.size = some PySem.W.emptyDict := Heap.get?_push_size s.heap rfl;have e2 : ((s.heap.push PySem.W.emptyDict).push (PySem.W.instObj C s.heap.objs.size)).get? (s.heap.objs.size + 1) = some (PySem.W.instObj C s.heap.objs.size) := by
    have := Heap.get?_push_size (s.heap.push PySem.W.emptyDict) (o := PySem.W.instObj C s.heap.objs.size) rfl
    rwa [Heap.size_push] at this
  have e3 : (s.heap.push PySem.W.emptyDict).Ns s.heap.objs.size (fun _ => none) := ⟨PySem.W.emptyDict, #[], _, e1, rfl, (fun e he => absurd he (by simp)), fun _ => rfl⟩
  have I1 := I.laid (a := s.heap.objs.size) (o := .own (s.heap.objs.size + 1)) (h' := s.heap.push PySem.W.emptyDict) (t' := s.toks) (fun b u q => Heap.get?_push_of_some _ q) (Nat.le_refl _) ⟨_, e1⟩;refine I1.laid (a := s.heap.objs.size + 1) (o := .ins C s.heap.objs.size []) (t' := s.toks) (fun b u q => Heap.get?_push_of_some _ q) (Nat.le_of_eq (Heap.size_push _ _)) ?_;have ne : s.heap.objs.size ≠ s.heap.objs.size + 1 := Nat.ne_of_lt (Nat.lt_succ_self _);refine ⟨by rw [au ne, bd], Nat.zero_le _, ne, e2, fun _ => none, (Heap.Ns1.of_empty e3).at fun o q => Heap.get?_push_of_some _ q, fun _ => True.intro, fun y hy => absurd rfl hy⟩
theorem zG {prog : Program} {w : World} {env : Env} {e : Expr} {f : Str} {pos : Pos} {s : Shared} {Q : Value -> Shared -> Prop} (hb : attributeBase e f env (eval e env) = eval e env)
    (h : wpAny (model prog w) A (eval e env) (fun o s₁ => wpAny (model prog w) A (getAttr o f true) Q E s₁) E s) : wpAny (model prog w) A (eval (.Attribute e f pos) env) Q E s :=
  Attribute_any_ h (by rw [arm_eval_Attribute, hb])
end
def Fd (K : PySem.W.Frag) (ta tv : TE) (f : Str) : TS := fun D σ H => tv σ H fun y H1 => ta σ H1 fun x H2 => ∃ a C dx fs, x = .ref a /\ H2 a = some (.ins C dx fs) /\ v8 K C /\ dG K C f /\ fs.length < 1000 /\
  D.nx σ (cm H2 a (.ins C dx (im f y fs)))
section
variable {X : Cx} {o e value : Expr} {f : Str} {pos pos' tpos : Pos} {ta tv : TE}
theorem tY (ha : PE X o ta) (hv : PE X value tv) (hs : swapsWith value (some (.Attribute o f pos')) pos.line X.env = pure false) : PS X (.Assign [.Attribute o f pos'] value pos) (Fd X.K ta tv f) := by
  intro pins s σ H D I h;refine plainObj_wpAny_Assign_Attribute (cQ (hv pins s σ H _ I h) fun u s1 ⟨y, H1, I1, ry, q⟩ => cQ (ha pins s1 σ H1 _ I1 q) fun ov s2 ⟨x, H2, I2, rx, a, C, dx, fs, ex, ea, c, n, l, q2⟩ => ?_) hs;subst ex;obtain rfl : ov = Value.ref a := rx;exact tF I2 ea c n l ry fun s3 I3 => ⟨σ, _, I3, q2⟩
end
section
variable {X : Cx} {pins : List (Addr × Obj)} {σ : St} {H : Hp} {s : Shared} {A : Around} {E : Value -> Shared -> Prop} {Q : Value -> Shared -> Prop} {c : Value} {b : Bool}
inductive lG (K : PySem.W.Frag) (H : Hp) : V -> Value -> Prop where
  | non : lG K H .non (.type "NoneType")
  | bl (x : Bool) : lG K H (.bl x) (.type "bool")
  | int (i : Int) : lG K H (.int i) (.type "int")
  | str (x : Str) : lG K H (.str x) (.type "str")
  | flt (x : UInt64) : lG K H (.flt x) (.type "float")
  | lst {a : Addr} {xs : List V} (e : H a = some (.lst xs)) : lG K H (.ref a) (.type "list")
  | frz {a : Addr} {o : Obj} {xs : List V} (e : H a = some (.frz o (.lst xs))) : lG K H (.ref a) (.type "list")
  | tup {a : Addr} {xs : List V} (e : H a = some (.tup xs)) : lG K H (.ref a) (.type "tuple")
  | dK {a : Addr} {kvs : List (cS × V)} (e : H a = some (.dK kvs)) : lG K H (.ref a) (.type "dict")
  | dT {a : Addr} {kvs : List (List cS × V)} (e : H a = some (.dT kvs)) : lG K H (.ref a) (.type "dict")
  | ins {a C dx : Addr} {fs : List (Str × V)} (e : H a = some (.ins C dx fs)) (cl : v8 K C) (ha : PySem.W.findIn K (.ref C) "__class__" = some (some (.builtin "object.__class__")))
      (hn : PySem.W.specialIn K (.builtin "object.__class__") "__get__" = some (some (.builtin "getset_descriptor.__get__"))) (htk : PySem.W.takesIn K (.builtin "object.__class__") = some true)
      (hm : PySem.W.mroIn K C (.type "object") = some true) : lG K H (.ref a) (.ref C)
theorem wj {x : V} {u t : Value} (I : aM X pins σ H s) (rx : bA x u) (ty : lG X.K H x t) (e : PySem.W.kitOne X.K t c = some b) (h : ∀ tk, Q (.bool b) { s with toks := tk }) :
    wpAny (model X.prog X.w) A (call (.builtin "isinstance") [u, c]) Q E s := by
  cases ty with
  | non => cases (show u = Value.none from rx); exact PySem.W.kia_one PySem.W.kitx_none I.kIn True.intro e (fun z => nomatch z) h
  | bl y => cases (show u = Value.bool y from rx); exact PySem.W.kia_one PySem.W.kitx_bool I.kIn True.intro e (fun z => nomatch z) h
  | int i => obtain ⟨t, q⟩ := (show ∃ t, u = Value.int i t from rx); cases q; exact PySem.W.kia_one PySem.W.kitx_int I.kIn True.intro e (fun z => nomatch z) h
  | str y => obtain ⟨t, q⟩ := (show ∃ t, u = Value.str y t from rx); cases q; exact PySem.W.kia_one PySem.W.kitx_str I.kIn True.intro e (fun z => nomatch z) h
  | flt y => obtain ⟨t, q⟩ := (show ∃ t, u = Value.float y t from rx); cases q; exact PySem.W.kia_one PySem.W.kitx_float I.kIn True.intro e (fun z => nomatch z) h
  | @lst a xs ea =>
    cases (show u = Value.ref a from rx);obtain ⟨_, _, n, _, h1⟩ := (show bR X.prog X.w H s.heap a (.lst xs) from I.hok a _ ea)
    exact PySem.W.kia_one PySem.W.kitx_list I.kIn ⟨_, h1, rfl⟩ e (fun z => nomatch z) h
  | @frz a ob xs ea =>
    cases (show u = Value.ref a from rx);obtain ⟨_, _, _, n, _, h1⟩ := (show bR X.prog X.w H s.heap a (.frz ob (.lst xs)) from I.hok a _ ea)
    exact PySem.W.kia_one PySem.W.kitx_list I.kIn ⟨_, h1, rfl⟩ e (fun z => nomatch z) h
  | @tup a xs ea =>
    cases (show u = Value.ref a from rx);obtain ⟨_, _, _, p⟩ := (show bR X.prog X.w H s.heap a (.tup xs) from I.hok a _ ea)
    obtain ⟨o, h1, h2, _⟩ := p;exact PySem.W.kia_one PySem.W.kitx_tuple I.kIn ⟨o, h1, h2⟩ e (fun z => nomatch z) h
  | @dK a kvs ea =>
    cases (show u = Value.ref a from rx);obtain ⟨_, _, vs, _, p⟩ := (show bR X.prog X.w H s.heap a (.dK kvs) from I.hok a _ ea)
    obtain ⟨o, es, ep, h1, h2, _⟩ := p;exact PySem.W.kia_one PySem.W.kitx_dict I.kIn ⟨o, h1, h2.1⟩ e (fun z => nomatch z) h
  | @dT a kvs ea =>
    cases (show u = Value.ref a from rx);obtain ⟨_, _, xs, _, o, es, ep, h1, h2, _⟩ := (show bR X.prog X.w H s.heap a (.dT kvs) from I.hok a _ ea)
    exact PySem.W.kia_one PySem.W.kitx_dict I.kIn ⟨o, h1, h2.1⟩ e (fun z => nomatch z) h
  | @ins a C dx fs ea cl ha hn htk hm =>
    cases (show u = Value.ref a from rx);obtain ⟨mA, O, _⟩ := vx I.hok ea;obtain ⟨od, J, _⟩ := O.look;exact PySem.W.kia_one (PySem.W.kitx_own (cl.get _) cl.hd ha hn htk hm) I.kIn J e (fun z => nomatch z) h
end
structure eK (k : Nat) (A : Around) : Prop where
  hd : A.handled = none
  dp : A.depth + 3 * k + 5 < recursionLimit
  un : A.units + 16 * k + 200 < cLine
theorem eK.mono {j k : Nat} {A : Around} (r : eK k A) (h : j <= k) : eK j A := ⟨r.hd, by have := r.dp; omega, by have := r.un; omega⟩
theorem eK.deeper {k : Nat} {A : Around} (r : eK (k + 1) A) (env : Env) : eK k (A.deeper env) :=
  ⟨r.hd, by have := r.dp; show A.depth + 1 + 3 * k + 5 < _; omega, by have := r.un; show A.units + 3 + 16 * k + 200 < _; omega⟩
theorem t5 {A : Around} {C : Addr} {us : List Value} {kw : List (Str × Value)} : (A.under (.builtin "type.__call__" ⟨.ref C :: us, kw⟩)).depth = A.depth + 1 := by
  first | rfl | simp [Around.under, Code.weight, Code.isCreation, Code.isGuard, Code.isCaller, Code.frames, Code.isFrame, guardIds]
theorem tu {A : Around} {C : Addr} {us : List Value} {kw : List (Str × Value)} : (A.under (.builtin "type.__call__" ⟨.ref C :: us, kw⟩)).units = A.units + 1 := by
  first | rfl | simp [Around.under, Code.cUnits, Code.frames, Code.isFrame]
theorem eK.make {k : Nat} {A : Around} (r : eK (k + 1) A) (C : Addr) (us : List Value) (kw : List (Str × Value)) : eK k (A.under (.builtin "type.__call__" ⟨.ref C :: us, kw⟩)) :=
  ⟨r.hd, by have := r.dp; rw [t5]; omega, by have := r.un; rw [tu]; omega⟩
theorem eK.depth {k : Nat} {A : Around} (r : eK k A) : A.depth < recursionLimit := by have := r.dp; omega
theorem eK.units {k : Nat} {A : Around} (r : eK k A) : A.units + 64 < cLine := by have := r.un; omega
def ED : TA := fun _ H Q => Q [] H
def DH (ta : TE) (tr : TA) : TA := fun σ H Q => ta σ H fun x H1 => tr σ H1 fun xs H2 => Q (x :: xs) H2
section
variable {X : Cx} {e : Expr} {es : List Expr} {te : TE} {t : TA} {pos : Pos}
theorem yq : PA X [] ED := fun _ _ _ _ H Q I h => Calls.spliced_nil ⟨[], H, I, .nil, h⟩
theorem qu (ha : PE X e te) (hr : PA X es t) (hs : starEach (e :: es) X.env = (false, eval e X.env) :: starEach es X.env := by rfl) : PA X (e :: es) (DH te t) := by
  intro pos pins s σ H Q I h;rw [hs];show wpAny _ _ (spliced ((false, eval e X.env) :: backTo pos (starEach es X.env))) _ _ s;refine Calls.spliced_cons (cQ (ha pins s σ H _ I h) fun u s1 ⟨x, H1, I1, r1, q1⟩ => ?_);exact cQ (hr pos pins s1 σ H1 _ I1 q1) fun us s2 ⟨xs, H2, I2, r2, q2⟩ => ⟨x :: xs, H2, I2, .cons r1 r2, q2⟩
def E7 (t : TA) : TE := fun σ H Q => t σ H fun xs H1 => xs.length <= sizeLine /\ ∀ p, H1 p = none -> Q (.ref p) (cm H1 p (.tup xs))
def EL (t : TA) : TE := fun σ H Q => t σ H fun xs H1 => xs.length <= sizeLine /\ ∀ p, H1 p = none -> Q (.ref p) (cm H1 p (.lst xs))
theorem BJ {x1} (h : PA X es t) : PE X (.Tuple es x1 pos) (E7 t) := by
  intro pins s σ H Q I hq;refine wpAny_Tuple_spliced (cQ (h pos pins s σ H _ I hq) fun us s1 ⟨xs, H1, I1, r, z, q⟩ => ⟨by rw [<- r.length]; exact z, ?_⟩);have hf : H1 s1.heap.objs.size = none := I1.hok.fresh (Nat.le_refl _);refine ⟨.ref s1.heap.objs.size, cm H1 s1.heap.objs.size (.tup xs), I1.laid (t' := s1.toks) (fun b u e => Heap.get?_push_of_some _ e) (Nat.le_refl _) ?_, rfl, q _ hf⟩;exact ⟨z, us, r, ⟨_, Heap.get?_push_size _ rfl, rfl, _, rfl⟩⟩
theorem Ct (h : PA X es t) : PE X (.List es pos) (EL t) := by
  intro pins s σ H Q I hq;refine wpAny_List_spliced (cQ (h pos pins s σ H _ I hq) fun us s1 ⟨xs, H1, I1, r, z, q⟩ => ⟨by rw [<- r.length]; exact z, ?_⟩);have hf : H1 s1.heap.objs.size = none := I1.hok.fresh (Nat.le_refl _);refine ⟨.ref s1.heap.objs.size, cm H1 s1.heap.objs.size (.lst xs), I1.laid (t' := s1.toks) (fun b u e => Heap.get?_push_of_some _ e) (Nat.le_refl _) ?_, rfl, q _ hf⟩;exact ⟨z, us, 0, r, Heap.get?_push_size _ rfl⟩
end
abbrev Sp := List V -> Hp -> VK -> XK -> Prop
abbrev xj := List Env -> Hp -> Shared -> XK -> Value -> Shared -> Prop
structure ux (P : Program) (w : World) (K : PySem.W.Frag) (mg : Str -> Option Value) (base : Heap) (A : Around) (outer : List Env) (s : Shared) (H : Hp) : Prop where
  frames : A.frames = some outer
  mod : Mod K mg base
  bs : ∀ b o, base.get? b = some o -> s.heap.get? b = some o /\ H b = none
  bsz : base.objs.size <= s.heap.objs.size
  funs : s.heap.FunFrames base outer
  frf : ∀ b ∈ lJ outer, H b = none
  hok : ir P w H s.heap
  bare : AllBare s.gens
def CE (outer : List Env) (P : Program) (w : World) (H : Hp) (s : Shared) (Q : VK) (u : Value) (s' : Shared) : Prop :=
  ∃ v H', s'.os = s.os /\ AllBare s'.gens /\ Un (lJ outer) [] H H' s.heap s'.heap /\ ir P w H' s'.heap /\ bA v u /\ Q v H'
def CR (CX : xj) (outer : List Env) (P : Program) (w : World) (H : Hp) (s : Shared) (Q : VK) (E : XK) (r : Result) (s' : Shared) : Prop :=
  match r with
  | .ok (.ret u) => CE outer P w H s Q u s'
  | .ok _ => False
  | .error e => CX outer H s E e s'
structure aY (P : Program) (w : World) (K : PySem.W.Frag) (mg : Str -> Option Value) (base : Heap) (CX : xj) (k : Nat) (f : Addr) (fd : FuncData) (ps : List Str) (sp : Sp) : Prop where
  len : ∀ vs H Q E, sp vs H Q E -> vs.length = ps.length
  run : ∀ (A : Around) (outer : List Env) (s : Shared) (H : Hp) (args : Args) (us : List Value) (vs : List V) (Q : VK) (E : XK), eK k A -> ux P w K mg base A outer s H -> BindsTo s fd args (ps.zip us) -> br vs us -> sp vs H Q E ->
    codeAny (model P w) A (.call (.ref f) args) (CR CX outer P w H s Q E) s
theorem aY.mono {P : Program} {w : World} {K : PySem.W.Frag} {mg : Str -> Option Value} {base : Heap} {CX : xj} {j k : Nat} {f : Addr} {fd : FuncData} {ps : List Str} {sp : Sp} (F : aY P w K mg base CX j f fd ps sp) (h : j <= k) :
    aY P w K mg base CX k f fd ps sp := ⟨F.len, fun A outer s H args us vs Q E hr => F.run A outer s H args us vs Q E (hr.mono h)⟩
theorem aY.imp {P : Program} {w : World} {K : PySem.W.Frag} {mg : Str -> Option Value} {base : Heap} {CX : xj} {k : Nat} {f : Addr} {fd : FuncData} {ps : List Str} {sp sp' : Sp} (F : aY P w K mg base CX k f fd ps sp)
    (h : ∀ vs H Q E, sp' vs H Q E -> sp vs H Q E) : aY P w K mg base CX k f fd ps sp' :=
  ⟨fun vs H Q E q => F.len vs H Q E (h _ _ _ _ q), fun A outer s H args us vs Q E hr he hb hv hs => F.run A outer s H args us vs Q E hr he hb hv (h _ _ _ _ hs)⟩
theorem ux.make {P : Program} {w : World} {K : PySem.W.Frag} {mg : Str -> Option Value} {base : Heap} {A : Around} {outer : List Env} {s : Shared} {H : Hp} (e : ux P w K mg base A outer s H) (C : Addr) (us : List Value) (kw : List (Str × Value)) :
    ux P w K mg base (A.under (.builtin "type.__call__" ⟨.ref C :: us, kw⟩)) outer s H := ⟨by first | exact e.frames | (simpa [Around.under, Code.envs, Code.isFrame, pushEnvs] using e.frames), e.mod, e.bs, e.bsz, e.funs, e.frf, e.hok, e.bare⟩
section
variable {X : Cx} {pins : List (Addr × Obj)} {σ : St} {H : Hp} {s s' : Shared}
theorem aM.env0 (I : aM X pins σ H s) : ux X.prog X.w X.K X.mg X.base X.A X.stack s H :=
  ⟨I.ok.frames, I.ok.mod, I.bs, Nat.le_trans I.ok.bsz I.sz, I.stack, I.stkFree, I.hok, I.bare⟩
theorem aM.after {Q : VK} {u : Value} (I : aM X pins σ H s) (h : CE X.stack X.prog X.w H s Q u s') : EP X pins σ Q u s' := by
  obtain ⟨v, H', os, bare, un, hok, r, q⟩ := h;obtain ⟨hh, g, d, t, os'⟩ := s';obtain rfl : os' = s.os := os;exact ⟨v, H', I.call (h' := hh) (g' := g) (d' := d) (t' := t) (ch := []) un hok bare (fun b z => absurd z (by simp)), r, q⟩
end
def Eh (sp : Sp) (dvs : List V) (E : XK) (t : TA) : TE := fun σ H Q => t σ H fun vs H1 => sp (vs ++ dvs) H1 Q E
def DM (C : Addr) (sp : Sp) (dvs : List V) (E : XK) (t : TA) : TE := fun σ H Q => t σ H fun vs H1 => ∀ x dx, H1 x = none -> H1 dx = none -> dx ≠ x ->
  sp (.ref x :: (vs ++ dvs)) (cm (cm H1 dx (.own x)) x (.ins C dx [])) (fun v H2 => v = .non /\ Q (.ref x) H2) E
def i4 (K : PySem.W.Frag) (fd : FuncData) (ps : List Str) (ds : List Value) : Prop :=
  ∀ (s : Shared) (us : List Value), K.In s.heap -> (us ++ ds).length = ps.length -> BindsTo s fd ⟨us, []⟩ (ps.zip (us ++ ds))
theorem i4.all {K : PySem.W.Frag} {fd : FuncData} {ps : List Str} (h : ∀ us : List Value, us.length = ps.length -> bindArgs fd ⟨us, []⟩ = pure (ps.zip us)) : i4 K fd ps [] := fun s us _ hl => by
  rw [List.append_nil] at hl ⊢;exact .of_eq (h us hl)
def pb (CX : xj) (X : Cx) (E : XK) : Prop := ∀ (pins : List (Addr × Obj)) (σ : St) (H : Hp) (s : Shared) (e : Value) (s' : Shared), aM X pins σ H s -> CX X.stack H s E e s' -> X.xe e s'
section
variable {X : Cx} {CX : xj} {k : Nat} {f C : Addr} {fd : FuncData} {ps : List Str} {sp : Sp} {dvs : List V} {ds : List Value} {E : XK} {x m : Str} {p pos apos : Pos} {e o : Expr} {es : List Expr} {ta : TE} {t : TA}
theorem BK {pins : List (Addr × Obj)} {σ : St} {H : Hp} {s : Shared} {Q : VK} {us : List Value} {vs : List V} (F : aY X.prog X.w X.K X.mg X.base CX k f fd ps sp) (hr : eK k X.A) (hb : i4 X.K fd ps ds) (hd : br dvs ds) (hx : pb CX X E)
    (I : aM X pins σ H s) (r : br vs us) (h : sp (vs ++ dvs) H Q E) : wpAny (model X.prog X.w) X.A (call (.ref f) us) (EP X pins σ Q) X.xe s := by
  have r2 : br (vs ++ dvs) (us ++ ds) := r.append hd;have hl : (us ++ ds).length = ps.length := by rw [<- r2.length]; exact F.len _ _ _ _ h
  refine wpAny_call (codeAny_mono (F.run X.A X.stack s H ⟨us, []⟩ (us ++ ds) (vs ++ dvs) Q E hr I.env0 (hb s us I.kIn hl) r2 h) fun r s' hq => ?_);cases r with
  | error e => exact hx pins σ H s e s' I hq
  | ok fl =>
    cases fl with
    | ret u => exact I.after hq
    | next => exact False.elim hq
    | brk => exact False.elim hq
    | cont => exact False.elim hq
theorem As (F : aY X.prog X.w X.K X.mg X.base CX k f fd ps sp) (hr : eK k X.A) (hg : Gl X x) (hm : X.mg x = some (.ref f)) (hk : PySem.W.keepIn X.K (.ref f) = true) (hb : i4 X.K fd ps ds) (hd : br dvs ds) (hx : pb CX X E)
    (ha : PA X (e :: es) t) (hdb : (x == ("__debug__" : Str)) = false := by decide) (he : starEach (e :: es) X.env = (false, eval e X.env) :: starEach es X.env := by rfl) (hpl : (backTo pos (starEach es X.env)).any (·.1) = false := by rfl) :
    PE X (.Call (.Name x p) (e :: es) [] pos) (Eh sp dvs E t) := by
  intro pins s σ H Q I h;refine wpAny_Call_Name_kw (nI I hg hm ?_ hdb);refine PySem.W.callWith_K (h₀ := X.base) I.ok.mod.kin hk (cQ (ha pos pins s σ H _ I h) fun us s1 ⟨vs, H1, I1, r, q⟩ => ⟨I1.kIn, ?_⟩) he hpl;exact BK F hr hb hd hx I1 r q
structure Mk (K : PySem.W.Frag) (C f : Addr) : Prop where
  makes : PySem.W.makesIn K C = true
  init : PySem.W.findIn K (.ref C) "__init__" = some (some (.ref f))
  fn : PySem.W.isFn K (.ref f) = true
  kp : PySem.W.keepIn K (.ref C) = true
theorem zq {pins : List (Addr × Obj)} {σ : St} {H : Hp} {s : Shared} {Q : VK} {us : List Value} {vs : List V} (M : Mk X.K C f) (F : aY X.prog X.w X.K X.mg X.base CX k f fd ps sp) (hr : eK (k + 1) X.A) (hb : i4 X.K fd ps ds) (hd : br dvs ds)
    (hx : pb CX X E) (I : aM X pins σ H s) (r : br vs us)
    (h : ∀ x dx, H x = none -> H dx = none -> dx ≠ x -> sp (.ref x :: (vs ++ dvs)) (cm (cm H dx (.own x)) x (.ins C dx [])) (fun v H2 => v = .non /\ Q (.ref x) H2) E) :
    wpAny (model X.prog X.w) X.A (call (.ref C) us) (EP X pins σ Q) X.xe s := by
  have hq := h (s.heap.objs.size + 1) s.heap.objs.size (I.hok.fresh (Nat.le_succ _)) (I.hok.fresh (Nat.le_refl _)) (Nat.ne_of_lt (Nat.lt_succ_self _));have I2 := aM.made (C := C) I;have r2 : br (V.ref (s.heap.objs.size + 1) :: (vs ++ dvs)) (Value.ref (s.heap.objs.size + 1) :: (us ++ ds)) := .cons rfl (r.append hd);have hl : (Value.ref (s.heap.objs.size + 1) :: us ++ ds).length = ps.length := by
    have e := r2.length;rw [F.len _ _ _ _ hq] at e;exact e.symm
  refine wpAny_call (yA (f := f) I.kIn M.makes M.init (beq_iff_eq.mp M.fn) (codeAny_mono (F.run _ X.stack _ _ ⟨Value.ref (s.heap.objs.size + 1) :: us, []⟩ (Value.ref (s.heap.objs.size + 1) :: (us ++ ds)) _ _ E (hr.make C us [])
    (I2.env0.make C us []) (hb _ (Value.ref (s.heap.objs.size + 1) :: us) I2.kIn hl) r2 hq) fun r s' hq' => ?_))
  cases r with
  | error e => exact hx pins σ _ _ e s' I2 hq'
  | ok fl =>
    cases fl with
    | ret u =>
      obtain ⟨v, H', I3, rv, ev, q3⟩ := I2.after hq';subst ev;exact ⟨rv, ⟨V.ref (s.heap.objs.size + 1), H', I3, rfl, q3⟩⟩
    | next => exact False.elim hq'
    | brk => exact False.elim hq'
    | cont => exact False.elim hq'
theorem Al (M : Mk X.K C f) (F : aY X.prog X.w X.K X.mg X.base CX k f fd ps sp) (hr : eK (k + 1) X.A) (hg : Gl X x) (hm : X.mg x = some (.ref C)) (hb : i4 X.K fd ps ds) (hd : br dvs ds) (hx : pb CX X E)
    (ha : PA X (e :: es) t) (hdb : (x == ("__debug__" : Str)) = false := by decide) (he : starEach (e :: es) X.env = (false, eval e X.env) :: starEach es X.env := by rfl) (hpl : (backTo pos (starEach es X.env)).any (·.1) = false := by rfl) :
    PE X (.Call (.Name x p) (e :: es) [] pos) (DM C sp dvs E t) := by
  intro pins s σ H Q I h;refine wpAny_Call_Name_kw (nI I hg hm ?_ hdb);refine PySem.W.callWith_K (h₀ := X.base) I.ok.mod.kin M.kp (cQ (ha pos pins s σ H _ I h) fun us s1 ⟨vs, H1, I1, r, q⟩ => ⟨I1.kIn, ?_⟩) he hpl;exact zq M F hr hb hd hx I1 r q
end
structure aR (N P : List Str) (sc : Scope) : Prop where
  kind : sc.kind = .function
  co : sc.isCoroutine = false
  gen : sc.isGenerator = false
  nd : N.Nodup
  pre : N.take P.length = P
  par : ∀ x ∈ P, sc.names.lookup x = some .local \/ sc.names.lookup x = some .cell
  nofree : ∀ y ∈ sc.names, y.2 ≠ .free
theorem pJ {kindOf : Str -> Option NameKind} {x : Str} : ∀ {binds : List (Str × Value)} {m : Str -> Option Value}, (∀ v, (x, v) ∉ binds) -> bindL kindOf binds m x = m x
  | [], _, _ => rfl
  | (n, v) :: r, m, h => by
    unfold bindL;rw [pJ fun w hw => h w (List.mem_cons_of_mem _ hw)];split
    · have : x ≠ n := by rintro rfl; exact h v List.mem_cons_self
      simp [this]
    · rfl
theorem pW {kindOf : Str -> Option NameKind} {x : Str} : ∀ {binds : List (Str × Value)} {m : Str -> Option Value}, (∀ v, (x, v) ∉ binds) -> bindC kindOf binds m x = m x
  | [], _, _ => rfl
  | (n, v) :: r, m, h => by
    unfold bindC;rw [pW fun w hw => h w (List.mem_cons_of_mem _ hw)];split
    · rfl
    · have : x ≠ n := by rintro rfl; exact h v List.mem_cons_self
      simp [this]
theorem pQ {kindOf : Str -> Option NameKind} {x : Str} {v : Value} : ∀ {P : List Str} {vs : List Value} {i : Nat} {m : Str -> Option Value}, P.Nodup -> P[i]? = some x -> vs[i]? = some v -> kindOf x = some .local ->
    bindL kindOf (P.zip vs) m x = some v
  | [], _, _, _, _, h, _, _ => by simp at h
  | _ :: _, [], _, _, _, _, h, _ => by simp at h
  | p :: P, w :: vs, 0, m, nd, h1, h2, hk => by
    simp at h1 h2; subst h1; subst h2;show bindL kindOf ((p, w) :: P.zip vs) m p = _;unfold bindL;rw [pJ fun v hv => (List.nodup_cons.mp nd).1 (List.of_mem_zip hv).1, if_pos hk];simp
  | p :: P, w :: vs, i + 1, m, nd, h1, h2, hk => by
    show bindL kindOf ((p, w) :: P.zip vs) m x = _;unfold bindL;exact pQ (i := i) (List.nodup_cons.mp nd).2 (by simpa using h1) (by simpa using h2) hk
theorem qb {kindOf : Str -> Option NameKind} {x : Str} {v : Value} : ∀ {P : List Str} {vs : List Value} {i : Nat} {m : Str -> Option Value}, P.Nodup -> P[i]? = some x -> vs[i]? = some v -> kindOf x ≠ some .local ->
    bindC kindOf (P.zip vs) m x = some v
  | [], _, _, _, _, h, _, _ => by simp at h
  | _ :: _, [], _, _, _, _, h, _ => by simp at h
  | p :: P, w :: vs, 0, m, nd, h1, h2, hk => by
    simp at h1 h2; subst h1; subst h2;show bindC kindOf ((p, w) :: P.zip vs) m p = _;unfold bindC;rw [pW fun v hv => (List.nodup_cons.mp nd).1 (List.of_mem_zip hv).1, if_neg hk];simp
  | p :: P, w :: vs, i + 1, m, nd, h1, h2, hk => by
    show bindC kindOf ((p, w) :: P.zip vs) m x = _;unfold bindC;exact qb (i := i) (List.nodup_cons.mp nd).2 (by simpa using h1) (by simpa using h2) hk
def i8 (N : List Str) (vs : List V) : St := vs.map some ++ List.replicate (N.length - vs.length) none
def fU (CX : xj) (P : Program) (w : World) (K : PySem.W.Frag) (mg : Str -> Option Value) (base : Heap) (N : List Str) (qual : Str) (scope : Scope) (f : Addr) (cd : Value) (A : Around) (outer : List Env) (s : Shared) (H : Hp) (E : XK) : Cx where
  prog := P
  w := w
  K := K
  mg := mg
  base := base
  A := A.deeper (envOfC qual scope s.heap.objs.size f cd)
  N := N
  s₀ := s
  H₀ := H
  env := envOfC qual scope s.heap.objs.size f cd
  outer := outer
  stack := envOfC qual scope s.heap.objs.size f cd :: outer
  ex := []
  calm := true
  fn := fun _ => true
  pn := []
  xe := fun e s' => wpAny (model P w) (A.deeper (envOfC qual scope s.heap.objs.size f cd)) (leaving (envOfC qual scope s.heap.objs.size f cd) e) (fun _ s'' => CX outer H s E e s'') (fun e' s'' => CX outer H s E e' s'') s'
theorem rz {sc : Scope} {n : Nat} {x : Str} (h : sc.names.lookup x = some .cell) : ∃ c, (cellsFrom n sc.names []).lookup x = some c := by
  have q := PySem.W.cellsFrom_some sc.names n [] (.inl h);exact Option.isSome_iff_exists.mp q
theorem xb {CX : xj} {P : Program} {w : World} {K : PySem.W.Frag} {mg : Str -> Option Value} {base : Heap} {N ps : List Str} {qual : Str} {scope : Scope} {f : Addr} {cd : Value} {A : Around} {outer : List Env} {s s1 : Shared} {H : Hp} {E : XK} {us : List Value} {vs : List V}
    (S : aR N ps scope) (hd : A.handled = none) (e0 : ux P w K mg base A outer s H) (hl : vs.length = ps.length) (r : br vs us)
    (x : InCallC s s.heap.objs.size (bindL (envOfC qual scope s.heap.objs.size f cd).kindOf (ps.zip us) fun _ => none) (cellsFrom (s.heap.objs.size + 1) scope.names []) (bindC (envOfC qual scope s.heap.objs.size f cd).kindOf (ps.zip us) fun _ => none) s1) :
    aM (fU CX P w K mg base N qual scope f cd A outer s H E) [] (i8 N vs) H s1 := by
  have hpl : ps.length <= N.length := by have := congrArg List.length S.pre; rw [List.length_take] at this; omega
  obtain ⟨h1, tk, rfl, hk⟩ := x.done;have noA : ∀ b : Addr, b ∉ (fU CX P w K mg base N qual scope f cd A outer s H E).ex := fun b z => absurd (show b ∈ ([] : List Addr) from z) (by simp)
  refine ⟨⟨e0.mod, S.kind, rfl, rfl, Nat.le_refl _, fun y z c h1 h2 => ?_, fun y hy => ?_, fun y c _ h => ?_, fun _ => hd, Around.frames_deeper e0.frames, .inr ⟨rfl, rfl⟩, fun b z => absurd z (noA b), e0.bs, e0.bsz, fun b _ _ => noA b, fun b z => absurd z (noA b), e0.funs, e0.frf⟩,
    rfl, e0.bare, Un.kept hk, ⟨_, x.toInCall.ns, fun i y v h1 h2 h3 => ?_⟩, fun y c h => ⟨_, x.cell y c h⟩, e0.hok.fresh (Nat.le_refl _), fun y c h => ?_, fun p hp => absurd (show p ∈ ([] : List (Addr × Obj)) from hp) (by simp), e0.hok.kept hk, ?_⟩
  · exact name_of_addr x.apart (PySem.mem_of_lookup h1) (PySem.mem_of_lookup h2)
  · have hy : scope.names.lookup y = some .cell \/ scope.names.lookup y = some .free := hy;rcases hy with hy | hy
    · exact rz hy
    · exact absurd rfl (S.nofree _ (PySem.mem_of_lookup hy))
  · exact Nat.le_of_lt (x.above y c (PySem.mem_of_lookup h))
  · have hi : i < vs.length := by
      unfold i8 at h2;by_cases hi : i < vs.length
      · exact hi
      · rw [List.getElem?_append_right (by simpa using hi)] at h2;rw [List.getElem?_replicate] at h2;split at h2 <;> cases h2
    have ha : vs[i]? = some v := by
      unfold i8 at h2;rw [List.getElem?_append_left (by simpa using hi), List.getElem?_map] at h2;cases e : vs[i]? with
      | none => rw [e] at h2; cases h2
      | some a => rw [e] at h2; cases h2; rfl
    obtain ⟨u, hu, rv⟩ := r.get ha;have hp : ps[i]? = some y := by
      rw [<- S.pre, List.getElem?_take_of_lt (by omega)]; exact h1
    have ndP : ps.Nodup := by rw [<- S.pre]; exact S.nd.sublist (List.take_sublist _ _)
    refine ⟨u, rv, ?_⟩;rcases S.par y (List.mem_of_getElem? hp) with k | k
    · exact .inl ⟨k, pQ ndP hp hu k⟩
    · obtain ⟨c, e⟩ := rz (n := s.heap.objs.size + 1) k;refine .inr ⟨.inl k, c, e, ?_⟩;have q := x.cell y c e;rw [qb ndP hp hu (by show scope.names.lookup y ≠ _; rw [k]; decide)] at q;exact q
  · exact e0.hok.fresh (Nat.le_of_lt (x.above y c (PySem.mem_of_lookup h)))
  · unfold i8;show _ = N.length;rw [List.length_append, List.length_map, List.length_replicate];omega
theorem xR {CX : xj} {P : Program} {w : World} {K : PySem.W.Frag} {mg : Str -> Option Value} {base : Heap} {k : Nat} {f : Addr} {name qual : Str} {params : Arguments} {body : List Stmt} {scope : Scope} {dV kV doc pm cdv ct oc : Value} {an od : Option Addr}
    {osl : Array (Option Value)} {N ps : List Str} {sp : Sp} (lk : K.lookup f = some ⟨oc, od, .func (PySem.W.fnOf name qual params body scope dV kV doc pm an cdv ct), osl⟩) (hcd : PySem.W.codeIn K cdv qual = true) (S : aR N ps scope)
    (len : ∀ vs H Q E, sp vs H Q E -> vs.length = ps.length)
    (hbody : ∀ (A : Around) (outer : List Env) (s : Shared) (H : Hp) (vs : List V) (Q : VK) (E : XK), eK k (A.deeper (envOfC qual scope s.heap.objs.size f cdv)) -> sp vs H Q E ->
      ∃ t, qX (fU CX P w K mg base N qual scope f cdv A outer s H E) body t /\ t { nx := fun _ H' => Q .non H', rt := Q } (i8 N vs) H) :
    aY P w K mg base CX (k + 1) f (PySem.W.fnOf name qual params body scope dV kV doc pm an cdv ct) ps sp := by
  refine ⟨len, fun A outer s H args us vs Q E hr e0 hb r hsp => ?_⟩;have hl := len _ _ _ _ hsp;have KX : K.In s.heap := e0.mod.kin.keeps fun b o e => (e0.bs b o e).1
  have lim : s.heap.NoLimit := e0.mod.nolimit.keeps fun b o e => (e0.bs b o e).1
  have hkind : ∀ y ∈ ps.zip us, scope.names.lookup y.1 = some .local \/ (scope.names.lookup y.1 = some .cell /\ ((cellsFrom (s.heap.objs.size + 1) scope.names []).lookup y.1).isSome = true) := fun ⟨n, v⟩ hy => by
    rcases S.par n (List.of_mem_zip hy).1 with q | q
    · exact .inl q
    · exact .inr ⟨q, PySem.W.cellsFrom_some _ _ _ (.inl q)⟩
  refine codeAny_call_function hr.depth (KX _ _ lk) rfl S.co S.gen rfl (PySem.W.codeRec_of KX hcd) (hb _ _ _ _ ?_);refine wpAny_newFunctionEnv_cells S.kind hkind fun env he s1 x => ?_
  subst he;refine ⟨lim.keeps x.toInCall.keep, codeAny_func ?_⟩;obtain ⟨t, ht, hq⟩ := hbody A outer s H vs Q E (hr.deeper _) hsp;have I : aM (fU CX P w K mg base N qual scope f cdv A outer s H E) [] (i8 N vs) H s1 := xb S hr.hd e0 hl r x;refine wpAny_mono (ht [] s1 (i8 N vs) H _ I hq) (fun fl s' hs => ?_) fun e s' hs => hs
  have fin : ∀ {σ' : St} {H' : Hp} {v : V} {u : Value}, aM (fU CX P w K mg base N qual scope f cdv A outer s H E) [] σ' H' s' -> bA v u -> Q v H' -> CE outer P w H s Q u s' :=
    fun {σ' H' v u} J rv q => ⟨v, H', J.os, J.bare, J.base, J.hok, rv, q⟩
  cases fl with
  | ret u =>
    obtain ⟨v, σ', H', J, rv, q⟩ := hs;exact fin J rv q
  | next =>
    obtain ⟨σ', H', J, q⟩ := hs;exact fin (v := V.non) (u := Value.none) J rfl q
  | brk =>
    obtain ⟨_, _, _, q⟩ := hs;exact False.elim q
  | cont =>
    obtain ⟨_, _, _, q⟩ := hs;exact False.elim q
section
variable {X : Cx} {x : Str} {p pos : Pos} {e : Expr} {es : List Expr} {t : TA} {id T : String} {r : List V -> Hp -> VK -> Prop}
def E5 (r : List V -> Hp -> VK -> Prop) (t : TA) : TE := fun σ H Q => t σ H fun vs H1 => r vs H1 Q
theorem o5 (hc : dN X (.builtin id) r) (hg : Gl X x) (hm : X.mg x = none) (hv : bootBuiltins x = some (.builtin id)) (ha : PA X (e :: es) t) (hn : x ≠ "__name__" := by decide) (hdb : (x == ("__debug__" : Str)) = false := by decide)
    (he : starEach (e :: es) X.env = (false, eval e X.env) :: starEach es X.env := by rfl) (hpl : (backTo pos (starEach es X.env)).any (·.1) = false := by rfl) : PE X (.Call (.Name x p) (e :: es) [] pos) (E5 r t) := by
  intro pins s σ H Q I h;refine wpAny_Call_Name_kw (iL I hg hm hv ?_ hn hdb);exact PyProof.Rows.callWith_builtin1 (cQ (ha pos pins s σ H _ I h) fun us s1 ⟨vs, H1, I1, r1, q1⟩ => hc pins s1 σ H1 vs us Q I1 r1 q1) he hpl
theorem wc (hc : dN X (.type T) r) (hg : Gl X x) (hm : X.mg x = none) (hv : bootBuiltins x = some (.type T)) (ha : PA X (e :: es) t) (hn : x ≠ "__name__" := by decide) (hdb : (x == ("__debug__" : Str)) = false := by decide)
    (he : starEach (e :: es) X.env = (false, eval e X.env) :: starEach es X.env := by rfl) (hpl : (backTo pos (starEach es X.env)).any (·.1) = false := by rfl) : PE X (.Call (.Name x p) (e :: es) [] pos) (E5 r t) := by
  intro pins s σ H Q I h;refine wpAny_Call_Name_kw (iL I hg hm hv ?_ hn hdb);exact PyProof.Rows.callWith_type1 (cQ (ha pos pins s σ H _ I h) fun us s1 ⟨vs, H1, I1, r1, q1⟩ => hc pins s1 σ H1 vs us Q I1 r1 q1) he hpl
end
end L2
namespace HT
open PySem PyProof.Rows
section
open PySem.SeqAt
open PySem.AutoSeq1 (wpAny_loadPart')
open PySem.MeetsSeq PySem.MeetsSeq2 PySem.MeetsSeq3
end
section
variable {prog : Program} {w : World} {A : Around} {E : Value -> Shared -> Prop} {s : Shared}
theorem cat_tup {t b : Addr} {vs ws : List Value} {Q : Value -> Shared -> Prop} (ht : IsTup s.heap t vs.toArray) (hb : IsTup s.heap b ws.toArray) (hv : vs ≠ [])
    (h1 : ws = [] -> Q (.ref t) s) (h2 : ws ≠ [] -> Q (.ref s.heap.objs.size) { s with heap := s.heap.push { cls := .type "tuple", data := .seq (vs ++ ws).toArray } })
    (hsz : vs.length + ws.length <= sizeLine) : wpAny (model prog w) A (binaryOp .Add (.ref t) (.ref b)) Q E s := by
  obtain ⟨⟨cls, dd, data, sl⟩, ho, hc, n, hd⟩ := id ht;obtain ⟨⟨cls2, dd2, data2, sl2⟩, ho2, hc2, n2, hd2⟩ := id hb;simp only at hc hd hc2 hd2;subst hc hd hc2 hd2;have e : vs.toArray ++ ws.toArray = (vs ++ ws).toArray := by simp
  by_cases hw : ws = []
  · exact concat_meets ⟨_, ho, rfl⟩ ⟨_, ho2, rfl⟩ noFill_tuple_add seq_tuple_add PySem.F.slot_tuple_add PySem.F.entry_tuple_add (PySem.F.args_tuple_add_2 _ _)
      (tuple_addW1 t b vs.toArray ws.toArray n n2 dd dd2 sl sl2 (by simpa using hv) (by simp [hw])) ⟨ho, ho2, h1 hw⟩
  · refine concat_meets ⟨_, ho, rfl⟩ ⟨_, ho2, rfl⟩ noFill_tuple_add seq_tuple_add PySem.F.slot_tuple_add PySem.F.entry_tuple_add (PySem.F.args_tuple_add_2 _ _)
      (tuple_addW2 t b vs.toArray ws.toArray n n2 dd dd2 sl sl2 (by simpa using hv) (by simpa using hw) (by rw [List.size_toArray, List.size_toArray]; exact hsz)) ⟨ho, ho2, ?_⟩
    rw [e];exact h2 hw
def sIx (n d : Nat) : Option Int -> Nat
  | none => d
  | some v => if v < 0 then (v + (n : Int)).toNat else min v.toNat n
theorem o4 (n d : Nat) : sIx n d none = d := rfl
theorem qG (n d k : Nat) : sIx n d (some (k : Int)) = min k n := by
  show (if (k : Int) < 0 then ((k : Int) + (n : Int)).toNat else min (k : Int).toNat n) = min k n;rw [if_neg (by omega), Int.toNat_natCast]
theorem BA (n d : Nat) (hd : d <= n) (o : Option Int) : sIx n d o <= n := by
  cases o with
  | none => exact hd
  | some v =>
    show (if v < 0 then (v + (n : Int)).toNat else min v.toNat n) <= n;by_cases hv : v < 0
    · rw [if_pos hv]; omega
    · rw [if_neg hv]; exact Nat.min_le_right _ _
theorem vf (v : Int) (n d : Nat) : (if v < 0 then max (v + (n : Int)) 0 else min v (n : Int)) = ((sIx n d (some v) : Nat) : Int) := by
  show (if v < 0 then max (v + (n : Int)) 0 else min v (n : Int)) = (((if v < 0 then (v + (n : Int)).toNat else min v.toNat n) : Nat) : Int)
  by_cases hv : v < 0
  · simp only [if_pos hv]; omega
  · simp only [if_neg hv]; omega
theorem uT (lo hi : Option Int) (n : Nat) : Builtin.Slice.sliceAdjust lo hi 1 (n : Int) = (((sIx n 0 lo : Nat) : Int), ((sIx n n hi : Nat) : Int)) := by
  have h1 : ¬ ((1 : Int) < 0) := by omega
  unfold Builtin.Slice.sliceAdjust;simp only [h1, if_false];refine Prod.ext ?_ ?_
  · cases lo with
    | none => rfl
    | some v => exact vf v n 0
  · cases hi with
    | none => rfl
    | some v => exact vf v n n
theorem tO (i j : Nat) : Builtin.Slice.slicePlaces (i : Int) (j : Int) 1 = j - i := by
  unfold Builtin.Slice.slicePlaces;have h1 : (1 : Int) > 0 := by omega
  simp only [h1, if_true, Int.ediv_one];split <;> omega
theorem om {v : Value} {o : Option Int} {Q : Option Int -> Shared -> Prop} (p : IsPart v o) (h : Q o s) : wpAny (model prog w) A (Builtin.Slice.slicePartIndex v) Q E s := by
  cases p with
  | none => exact slicePart_none h
  | int i t => exact slicePart_int h
theorem sliceApplied_gen {sl : Addr} {vl vu : Value} {lo hi : Option Int} {n : Nat} {Q : Int × Int × Nat -> Shared -> Prop} (hs : s.heap.IsSliceOf sl vl vu .none) (pl : IsPart vl lo) (pu : IsPart vu hi)
    (h : Q (((sIx n 0 lo : Nat) : Int), 1, sIx n n hi - sIx n 0 lo) s) : wpAny (model prog w) A (Builtin.Slice.sliceApplied (.ref sl) (pure (n : Int))) Q E s := by
  obtain ⟨os, hos, hcs, hds⟩ := id hs;unfold Builtin.Slice.sliceApplied Builtin.Slice.sliceFields;refine wpAny_bind (wpAny_bind (wpAny_field hos hds (x := vl) rfl (wpAny_bind (wpAny_field hos hds (x := vu) rfl (wpAny_bind (wpAny_field hos hds (x := .none) rfl (wpAny_pure ?_)))))));refine wpAny_bind (slicePart_none ?_);show wpAny _ _ (if ((1 : Int) == 0) = true then _ else _) _ _ s;rw [if_neg (by decide)];refine wpAny_bind (om pl (wpAny_bind (om pu (wpAny_bind (wpAny_pure ?_)))));show wpAny _ _ (match Builtin.Slice.sliceAdjust lo hi 1 (n : Int) with | (lo, hi) => pure (lo, (1 : Int), Builtin.Slice.slicePlaces lo hi 1)) _ _ s;rw [uT lo hi n];show wpAny _ _ (pure (((sIx n 0 lo : Nat) : Int), (1 : Int), Builtin.Slice.slicePlaces ((sIx n 0 lo : Nat) : Int) ((sIx n n hi : Nat) : Int) 1)) _ _ s;rw [tO];exact wpAny_pure h
theorem ze (xs : Array Value) (i k : Nat) : ((List.range k).filterMap fun (m : Nat) => xs[((i : Int) + (m : Int) * 1).toNat]?).toArray = ((xs.toList.drop i).take k).toArray := by
  have e : (fun (m : Nat) => xs[((i : Int) + (m : Int) * 1).toNat]?) = fun m => xs[i + m]? := by
    funext m;have : ((i : Int) + (m : Int) * 1).toNat = i + m := by omega
    rw [this]
  rw [e];have := pick_run xs i k;rw [List.filterMap_map] at this;have e2 : ((fun x => xs[x]?) ∘ fun x => i + x) = fun m => xs[i + m]? := rfl
  rw [e2] at this;rw [this]
theorem getItem_tuple_cut {t sl : Addr} {items : Array Value} {vl vu : Value} {lo hi : Option Int} {Q : Value -> Shared -> Prop} (ht : IsTup s.heap t items) (hs : s.heap.IsSliceOf sl vl vu .none) (pl : IsPart vl lo) (pu : IsPart vu hi)
    (hw : ¬ (sIx items.size 0 lo = 0 /\ sIx items.size items.size hi = items.size))
    (h : Q (.ref s.heap.objs.size) { s with heap := s.heap.push { cls := .type "tuple", data := .seq ((items.toList.drop (sIx items.size 0 lo)).take (sIx items.size items.size hi - sIx items.size 0 lo)).toArray } })
    (hsz : items.size <= sizeLine) : wpAny (model prog w) A (getItem (.ref t) (.ref sl)) Q E s := by
  have htake : sizeOk (.seq ((items.toList.drop (sIx items.size 0 lo)).take (sIx items.size items.size hi - sIx items.size 0 lo)).toArray) := by
    show ((items.toList.drop (sIx items.size 0 lo)).take (sIx items.size items.size hi - sIx items.size 0 lo)).toArray.size <= sizeLine;rw [List.size_toArray, List.length_take, List.length_drop, Array.length_toList];omega
  have hj : sIx items.size items.size hi <= items.size := BA _ _ (Nat.le_refl _) hi;obtain ⟨os, hos, hcs, hds⟩ := id hs;have hTs : s.TypeIs (.ref sl) "slice" := ⟨os, hos, hcs⟩
  unfold getItem
  try with_reducible refine wpAny_holding ?_
  first | refine wpAny_bind (wpAny_pure ?_) | skip
  refine wpAny_bind (wpAny_sequenceKey ht.typeIs (by decide) ?_);refine wpAny_bind (wpAny_callSpecial?_slot (name := Str.ofString "__getitem__") ht.typeIs PyProof.Rows.slot_tuple_getitem
    (wpAny_call_entry PyProof.Rows.slot_tuple_getitem ht.typeIs entry_tuple_getitem ?_ (args_tuple_getitem _ _)))
  show wpAny _ _ (Builtin.Tuple.tupleItemsOf (.ref t) >>= _) _ _ s;refine wpAny_bind (tupleItemsOf_ ht ?_);refine wpAny_bind (wpAny_typeOf hTs ?_);rw [if_pos (by decide)];refine wpAny_bind (sliceApplied_gen hs pl pu ?_);have hno : ¬ ((((sIx items.size 0 lo : Nat) : Int) == 0 && (1 : Int) == 1 && (sIx items.size items.size hi - sIx items.size 0 lo) == items.size) = true) := by
    intro q;rw [Bool.and_eq_true, Bool.and_eq_true] at q;have q1 : ((sIx items.size 0 lo : Nat) : Int) = 0 := eq_of_beq q.1.1;have q2 : sIx items.size items.size hi - sIx items.size 0 lo = items.size := eq_of_beq q.2;exact hw ⟨by omega, by omega⟩
  show wpAny _ _ (if (((sIx items.size 0 lo : Nat) : Int) == 0 && (1 : Int) == 1 && (sIx items.size items.size hi - sIx items.size 0 lo) == items.size) = true then _ else _) _ _ s;rw [if_neg hno, ze]
  first
    | exact wpAny_bind (m := Builtin.Tuple.tupleExact _) (wpAny_newObj_type (wpAny_pure ⟨_, rfl, wpAny_pure h⟩) htake)
    | exact wpAny_bind (m := Builtin.Tuple.tupleExact _) (wpAny_newObj_type (wpAny_bind (wpAny_pure (wpAny_pure ⟨_, rfl, wpAny_pure h⟩))) htake)
    | exact wpAny_bind (wpAny_bind (m := Builtin.Tuple.tupleExact _) (wpAny_newObj_type (wpAny_pure (wpAny_pure ⟨_, rfl, wpAny_pure h⟩)) htake))
    | exact wpAny_bind (wpAny_bind (m := Builtin.Tuple.tupleExact _) (wpAny_newObj_type (wpAny_pure ⟨_, rfl, wpAny_pure h⟩) htake))
end
end HT
namespace L2
open PySem PySem.Spec PyProof.Rows
abbrev TO := St -> Hp -> (Option Int -> Hp -> Prop) -> Prop
def PO (X : Cx) (e : Option Expr) (t : TO) : Prop :=
  ∀ (pins : List (Addr × Obj)) (s : Shared) (σ : St) (H : Hp) (Q : Option Int -> Hp -> Prop), aM X pins σ H s -> t σ H Q ->
    wpAny (model X.prog X.w) X.A (evalPart e X.env) (fun u s' => ∃ o H', aM X pins σ H' s' /\ IsPart u o /\ Q o H') X.xe s
def Ax : TO := fun _ H Q => Q none H
def Eb (t : TE) : TO := fun σ H Q => t σ H fun x H1 => ∃ i, x = .int i /\ Q (some i) H1
theorem iQ {ns : List Int} : ∀ {us : List Value}, br (ns.map V.int) us -> IntsAre us ns := by
  induction ns with
  | nil => intro us r; rw [List.map_nil] at r; cases r; exact .nil
  | cons n ns ih =>
    intro us r;rw [List.map_cons] at r;cases r with
    | cons r1 r2 =>
      obtain ⟨t, e⟩ := r1;subst e;exact .cons n t (ih r2)
section
variable {X : Cx} {e : Expr} {te : TE} {lo hi : Option Expr} {tl th : TO} {pos p2 : Pos}
theorem zZ : PO X none Ax := by
  intro pins s σ H Q I h;rw [evalPart_none];exact wpAny_pure ⟨none, H, I, .none, h⟩
theorem AL (h : PE X e te) : PO X (some e) (Eb te) := by
  intro pins s σ H Q I hw;rw [evalPart_some];refine cQ (h pins s σ H _ I hw) fun u s1 ⟨x, H1, I1, r1, q1⟩ => ?_
  obtain ⟨i, rfl, q⟩ := q1;obtain ⟨t, rfl⟩ := r1;exact ⟨some i, H1, I1, .int i t, q⟩
def zO (X : Cx) (r : V -> Option Int -> Option Int -> Hp -> VK -> Prop) : Prop :=
  ∀ (pins : List (Addr × Obj)) (s : Shared) (σ : St) (H : Hp) (x : V) (v vl vu : Value) (lo hi : Option Int) (sl : Addr) (Q : VK), aM X pins σ H s -> bA x v -> s.heap.IsSliceOf sl vl vu .none -> IsPart vl lo -> IsPart vu hi -> r x lo hi H Q ->
    ∃ T id, typeLookup (.type T) "__getitem__" = pure (some (.builtin id)) /\ s.TypeIs v T /\ wpAny (model X.prog X.w) X.A (getItem v (.ref sl)) (EP X pins σ Q) X.xe s
theorem zO.or {r r' : V -> Option Int -> Option Int -> Hp -> VK -> Prop} (h : zO X r) (h' : zO X r') : zO X (fun x lo hi H Q => r x lo hi H Q \/ r' x lo hi H Q) := by
  intro pins s σ H x v vl vu lo hi sl Q I rx hs pl pu q;rcases q with q | q
  · exact h pins s σ H x v vl vu lo hi sl Q I rx hs pl pu q
  · exact h' pins s σ H x v vl vu lo hi sl Q I rx hs pl pu q
def FC (r : V -> Option Int -> Option Int -> Hp -> VK -> Prop) (te : TE) (tl th : TO) : TE := fun σ H Q => te σ H fun x H1 => tl σ H1 fun l H2 => th σ H2 fun u H3 => r x l u H3 Q
theorem xC {r : V -> Option Int -> Option Int -> Hp -> VK -> Prop} (hr : zO X r) (he : PE X e te) (hl : PO X lo tl) (hu : PO X hi th) : PE X (.Subscript e (.Slice lo hi none p2) pos) (FC r te tl th) := by
  intro pins s σ H Q I h;refine Subscript_ (cQ (he pins s σ H _ I h) fun v s1 ⟨x, H1, I1, r1, q1⟩ => ?_);refine wpAny_Slice (cQ (hl pins s1 σ H1 _ I1 q1) fun vl s2 ⟨l, H2, I2, pl, q2⟩ => cQ (hu pins s2 σ H2 _ I2 q2) fun vu s3 ⟨u, H3, I3, pu, q3⟩ => ?_);rw [evalPart_none];refine wpAny_pure ?_;have I4 : aM X pins σ H3 { s3 with heap := s3.heap.push { cls := .type "slice", data := .fields #[vl, vu, .none] } } := I3.kept (t' := s3.toks) fun b ob q => Heap.get?_push_of_some _ q
  obtain ⟨T, id, hT, ht, hg⟩ := hr pins { s3 with heap := s3.heap.push { cls := .type "slice", data := .fields #[vl, vu, .none] } } σ H3 x v vl vu l u s3.heap.objs.size Q I4 r1 (Heap.IsSliceOf.new ..) pl pu q3;show wpAny (model X.prog X.w) X.A (subscriptTail e (.Slice lo hi none p2) v (.ref s3.heap.objs.size)) (EP X pins σ Q) X.xe { s3 with heap := s3.heap.push { cls := .type "slice", data := .fields #[vl, vu, .none] } };exact tail_any (ops := [.ref s3.heap.objs.size, v]) ht hT hg (by with_unfolding_all rfl)
def rU (xs : List V) (lo hi : Option Int) : List V := (xs.drop (HT.sIx xs.length 0 lo)).take (HT.sIx xs.length xs.length hi - HT.sIx xs.length 0 lo)
theorem mL (xs : List V) (lo hi : Option Int) : (rU xs lo hi).length <= xs.length := by
  unfold rU;rw [List.length_take, List.length_drop];omega
def EW (K : PySem.W.Frag) : V -> Option Int -> Option Int -> Hp -> VK -> Prop := fun x lo hi H Q => ∃ a xs, x = .ref a /\ eE K H a xs /\
  ¬ (HT.sIx xs.length 0 lo = 0 /\ HT.sIx xs.length xs.length hi = xs.length) /\ ∀ p, H p = none -> Q (.ref p) (cm H p (.tup (rU xs lo hi)))
theorem BR : zO X (EW X.K) := by
  intro pins s σ H x v vl vu lo hi sl Q I rx hs pl pu h;obtain ⟨a, xs, rfl, hx, hw, q⟩ := h;cases rx;obtain ⟨its, r, ht, hz⟩ := I.tuple hx;have hlen : its.toArray.size = xs.length := by rw [List.size_toArray]; exact r.length.symm
  refine ⟨"tuple", _, PyProof.Rows.slot_tuple_getitem.lookup, ht.typeIs, ?_⟩;refine HT.getItem_tuple_cut ht hs pl pu (by rw [hlen]; exact hw) ?_ (by rw [hlen]; exact hz);rw [hlen];refine ⟨.ref s.heap.objs.size, _, I.laid (t' := s.toks) (o := .tup (rU xs lo hi)) (fun b ob q => Heap.get?_push_of_some _ q) (Nat.le_refl _) ?_, rfl, q _ (I.hok.fresh (Nat.le_refl _))⟩;exact ⟨Nat.le_trans (mL xs lo hi) hz, _, (r.drop (HT.sIx xs.length 0 lo)).take (HT.sIx xs.length xs.length hi - HT.sIx xs.length 0 lo), IsTup.new _ _⟩
def Bf (K : PySem.W.Frag) : R2 := fun x y H Q => ∃ a b xs ys, x = .ref a /\ y = .ref b /\ eE K H a xs /\ eE K H b ys /\ xs ≠ [] /\ xs.length + ys.length <= sizeLine /\
  (ys = [] -> Q (.ref a) H) /\ (ys ≠ [] -> ∀ p, H p = none -> Q (.ref p) (cm H p (.tup (xs ++ ys))))
theorem br.nil_iff {xs : List V} {us : List Value} (r : br xs us) : us = [] <-> xs = [] := by
  cases r with
  | nil => simp
  | cons _ _ => simp
theorem Ab : iZ X (binaryOp .Add) (Bf X.K) := by
  intro pins s σ H x y v u Q I rx ry h;obtain ⟨a, b, xs, ys, rfl, rfl, ha, hb, hx, hz, q1, q2⟩ := h;cases rx;cases ry;obtain ⟨its, r1, p1, _⟩ := I.tuple ha;obtain ⟨its2, r2, p2, _⟩ := I.tuple hb;refine HT.cat_tup p1 p2 (fun z => hx (r1.nil_iff.mp z)) (fun z => ⟨.ref a, H, I, rfl, q1 (r2.nil_iff.mp z)⟩) (fun z => ?_) (by rw [<- r1.length, <- r2.length]; exact hz);refine ⟨.ref s.heap.objs.size, _, I.laid (t' := s.toks) (o := .tup (xs ++ ys)) (fun b ob q => Heap.get?_push_of_some _ q) (Nat.le_refl _) ?_, rfl, q2 (fun w => z (r2.nil_iff.mpr w)) _ (I.hok.fresh (Nat.le_refl _))⟩;exact ⟨by rw [List.length_append]; exact hz, _, r1.append r2, IsTup.new _ _⟩
end
def ve (n : Nat) (i : Int) : Option Nat := if 0 <= i then (if i < n then some i.toNat else none) else if -(n : Int) <= i then some (i + n).toNat else none
def atI {α : Type} (xs : List α) (i : Int) : Option α := (ve xs.length i).bind fun j => xs[j]?
theorem vz {n : Nat} {i : Int} {j : Nat} (h : ve n i = some j) : seqIndex? i n = some j /\ j < n /\ -(n : Int) <= i /\ i < n := by
  unfold ve at h;by_cases h0 : 0 <= i
  · rw [if_pos h0] at h;by_cases h1 : i < n
    · rw [if_pos h1] at h;have e : i.toNat = j := Option.some.inj h;exact ⟨by rw [seqIndex_of h0 h1, e], by omega, by omega, h1⟩
    · rw [if_neg h1] at h; cases h
  · rw [if_neg h0] at h;by_cases h1 : -(n : Int) <= i
    · rw [if_pos h1] at h;have e : (i + n).toNat = j := Option.some.inj h;exact ⟨by rw [seqIndex_neg (by omega) h1, e], by omega, h1, by omega⟩
    · rw [if_neg h1] at h; cases h
theorem qP {α : Type} {xs : List α} {i : Int} {v : α} (h : atI xs i = some v) : ∃ j, seqIndex? i xs.length = some j /\ xs[j]? = some v /\ j < xs.length /\ -(xs.length : Int) <= i /\ i < xs.length := by
  unfold atI at h;cases e : ve xs.length i with
  | none => rw [e] at h; cases h
  | some j =>
    rw [e] at h;obtain ⟨h1, h2, h3, h4⟩ := vz e;exact ⟨j, h1, h, h2, h3, h4⟩
theorem qY {α : Type} {xs : List α} {j : Nat} {v : α} (h : xs[j]? = some v) : atI xs (j : Int) = some v := by
  have hj : j < xs.length := (List.getElem?_eq_some_iff.mp h).1;have e : ve xs.length (j : Int) = some j := by
    unfold ve;rw [if_pos (by omega), if_pos (by omega)]; simp
  unfold atI; rw [e]; exact h
def rh (b : Expr) : Prop := ∀ o i, subscripted b false o i = operate [o, i] (getItem o i)
def Ak (X : Cx) (r : R2) : Prop :=
  ∀ (value slice : Expr) (pins : List (Addr × Obj)) (s : Shared) (σ : St) (H : Hp) (x y : V) (v u : Value) (Q : VK), aM X pins σ H s -> bA x v -> bA y u -> r x y H Q ->
    subscripted slice false v u = operate [v, u] (getItem v u) -> wpAny (model X.prog X.w) X.A (subscriptTail value slice v u) (EP X pins σ Q) X.xe s
def Fv (X : Cx) (id : String) (r : V -> List V -> Hp -> VK -> Prop) : Prop :=
  ∀ (pins : List (Addr × Obj)) (s : Shared) (σ : St) (H : Hp) (x : V) (xs : List V) (v : Value) (us : List Value) (Q : VK), aM X pins σ H s -> bA x v -> br xs us -> r x xs H Q ->
    wpAny (model X.prog X.w) X.A (call (.builtin id) (v :: us)) (EP X pins σ Q) X.xe s
section
variable {X : Cx} {a b : Expr} {ta tb : TE} {pos : Pos}
theorem Ak.or {r r' : R2} (h : Ak X r) (h' : Ak X r') : Ak X (fun x y H Q => r x y H Q \/ r' x y H Q) := by
  intro value slice pins s σ H x y v u Q I rx ry q hs;rcases q with q | q
  · exact h value slice pins s σ H x y v u Q I rx ry q hs
  · exact h' value slice pins s σ H x y v u Q I rx ry q hs
theorem Eg {r : R2} (hr : Ak X r) (ha : PE X a ta) (hb : PE X b tb) (hs : rh b) : PE X (.Subscript a b pos) (De r ta tb) := by
  intro pins s σ H Q I h;exact Subscript_ (BZ ha hb I h fun v u s2 x y H2 I2 rx ry q => hr a b pins s2 σ H2 x y v u Q I2 rx ry q (hs _ _))
def Dz (K : PySem.W.Frag) : R2 := fun x y H Q => ∃ p xs i v, x = .ref p /\ y = .int i /\ ni K H p xs /\ atI xs i = some v /\ Q v H
def DK (K : PySem.W.Frag) : R2 := fun x y H Q => ∃ p xs i v, x = .ref p /\ y = .int i /\ eE K H p xs /\ atI xs i = some v /\ Q v H
def Ds : R2 := fun x y H Q => ∃ z i c, x = .str z /\ y = .int i /\ z.length <= sizeLine /\ atI z.cps.toList i = some c /\ Q (.str ⟨#[c]⟩) H
theorem Ai : Ak X (Dz X.K) := by
  intro value slice pins s σ H x y v u Q I rx ry h hs;obtain ⟨p, xs, i, z, rfl, rfl, hq, he, q⟩ := h;cases rx;obtain ⟨t, rfl⟩ := ry;obtain ⟨its, r, pl, hz⟩ := I.list hq;obtain ⟨j, h1, h2, h3, h4, h5⟩ := qP he;obtain ⟨w, ew, rw'⟩ := r.get h2;have hl := r.length;have hn := my;have fin : EP X pins σ Q w s := ⟨z, H, I, rw', q⟩
  by_cases h0 : 0 <= i
  · have hj : i.toNat = j := by
      rw [seqIndex_of h0 h5] at h1;exact Option.some.inj h1
    exact item_listR pl.isList h0 (by omega) (by rw [hj]; simpa using ew) fin hs
  · have hj : (i + (its.toArray.size : Int)).toNat = j := by
      rw [seqIndex_neg (by omega) h4] at h1;rw [List.size_toArray, <- hl];exact Option.some.inj h1
    exact subscriptTail_builtinR (x := w) pl.isList.typeIs slot_list_getitem.lookup
      (wpAny_getItem_list_neg (Q := fun r s' => r = w /\ EP X pins σ Q r s') pl.isList (by omega) (by rw [List.size_toArray] <;> omega) (by omega) (by rw [hj]; simpa using ew) ⟨rfl, fin⟩) hs
theorem B4 : Ak X (DK X.K) := by
  intro value slice pins s σ H x y v u Q I rx ry h hs;obtain ⟨p, xs, i, z, rfl, rfl, hq, he, q⟩ := h;cases rx;obtain ⟨t, rfl⟩ := ry;obtain ⟨its, r, pl, hz⟩ := I.tuple hq;obtain ⟨j, h1, h2, h3, h4, h5⟩ := qP he;obtain ⟨w, ew, rw'⟩ := r.get h2;have hl := r.length;have hn := my;have fin : EP X pins σ Q w s := ⟨z, H, I, rw', q⟩
  exact subscriptTail_builtinR (x := w) pl.typeIs slot_tuple_getitem.lookup
    (getItem_tuple (j := j) (Q := fun r s' => r = w /\ EP X pins σ Q r s') pl (by omega) (by omega) (by rw [List.size_toArray, <- hl]; exact h1) (by simpa using ew) ⟨rfl, fin⟩) hs
theorem CL : Ak X Ds := by
  intro value slice pins s σ H x y v u Q I rx ry h hs;obtain ⟨z, i, c, rfl, rfl, hz, he, q⟩ := h;obtain ⟨t, rfl⟩ := rx;obtain ⟨t', rfl⟩ := ry;obtain ⟨j, h1, h2, h3, h4, h5⟩ := qP he;have hl : z.cps.toList.length = z.length := by simp [Str.length]
  rw [hl] at h1 h4 h5;have hn := my;exact tail_any (typeIs_str s z t) slot_str_getitem.lookup (getItem_str (c := c) (by
    have e1 : decide (i < -(2 ^ 63 : Int)) = false := decide_eq_false (by omega);have e2 : decide (i >= 2 ^ 63) = false := decide_eq_false (by omega);rw [e1, e2, Bool.or_false]) (by rw [h1]; simpa using h2) ⟨.str ⟨#[c]⟩, H, I.tok _, ⟨_, rfl⟩, q⟩) hs
theorem uh (its : List Value) (n j : Nat) (u : Value) : Obj.mapSeq (·.setIfInBounds j u) { cls := .type "list", data := .seq its.toArray n } = { cls := .type "list", data := .seq (its.set j u).toArray n } := by
  simp [Obj.mapSeq]
theorem aM.lst {pins : List (Addr × Obj)} {σ : St} {H : Hp} {s : Shared} {p : Addr} {xs : List V} (I : aM X pins σ H s) (h : H p = some (.lst xs)) :
    ∃ (its : List Value) (n : Nat), br xs its /\ s.heap.get? p = some { cls := .type "list", data := .seq its.toArray n } /\ xs.length <= sizeLine := by
  obtain ⟨z, its, n, r, e⟩ := I.hok p _ h;exact ⟨its, n, r, e, z⟩
theorem aM.lstUpd {pins : List (Addr × Obj)} {σ : St} {H : Hp} {s : Shared} {p : Addr} {xs ys : List V} {its its' : List Value} {n n' : Nat} {f : Obj -> Obj} (I : aM X pins σ H s) (h : H p = some (.lst xs))
    (ho : s.heap.get? p = some { cls := .type "list", data := .seq its.toArray n }) (hf : f { cls := .type "list", data := .seq its.toArray n } = { cls := .type "list", data := .seq its'.toArray n' }) (r : br ys its') (hz : ys.length <= sizeLine) (t : Nat) :
    aM X pins σ (cm H p (.lst ys)) { s with heap := s.heap.update p f, toks := t } := by
  have e : (s.heap.update p f).get? p = some { cls := .type "list", data := .seq its'.toArray n' } := by
    rw [Heap.get?_update_self f ho (by rw [hf] <;> rfl), hf]
  refine I.write (x := p) (e := p) (by rw [h]; trivial) (.inl rfl) (fun b u hb q => (Heap.get?_update_other _ _ (Ne.symm hb)).trans q) ⟨_, e⟩ ?_;exact ⟨hz, its', n', r, e⟩
def DJ : V -> V -> V -> Hp -> (Hp -> Prop) -> Prop := fun o i v H Q => ∃ p xs k j, o = .ref p /\ i = .int k /\ H p = some (.lst xs) /\ ve xs.length k = some j /\ Q (cm H p (.lst (xs.set j v)))
theorem xr : DP X DJ := by
  intro pins s σ H o i v ov iv u Q I ro ri rv h;obtain ⟨p, xs, k, j, rfl, rfl, hp, hj, q⟩ := h;cases ro;obtain ⟨t, rfl⟩ := ri;obtain ⟨its, n, r, ho, hz⟩ := I.lst hp;obtain ⟨h1, h2, h3, h4⟩ := vz hj;have hl := r.length;have hn := my;have I' : aM X pins σ (cm H p (.lst (xs.set j v))) { s with heap := s.heap.update p (Obj.mapSeq (·.setIfInBounds j u)) } :=
    I.lstUpd hp ho (uh its n j u) (r.set rv j) (by rw [List.length_set]; exact hz) s.toks
  by_cases h0 : 0 <= k
  · have hk : k.toNat = j := by
      rw [seqIndex_of h0 h4] at h1;exact Option.some.inj h1
    exact PySem.W.ki_setAt ho h0 (by omega) (by rw [List.size_toArray, <- hl]; exact h4) (by rw [hk]; exact ⟨_, I', q⟩)
  · have hk : (k + (its.toArray.size : Int)).toNat = j := by
      rw [seqIndex_neg (by omega) h3] at h1;rw [List.size_toArray, <- hl];exact Option.some.inj h1
    exact PySem.W.ki_setBack ho (by omega) (by rw [List.size_toArray, <- hl]; exact h3) (by omega) (by rw [hk]; exact ⟨_, I', q⟩)
theorem qT (lo hi : Option Int) (n : Nat) : (sliceBounds lo hi none n).1 = ((HT.sIx n 0 lo : Nat) : Int) /\ (sliceBounds lo hi none n).2.1 = ((HT.sIx n n hi : Nat) : Int) /\ (sliceBounds lo hi none n).2.2 = 1 := by
  refine ⟨?_, ?_, rfl⟩
  · cases lo with
    | none => simp [sliceBounds, HT.sIx]
    | some i =>
      simp only [sliceBounds, HT.sIx, Option.getD_none, show (1 : Int) > 0 by decide, if_true];by_cases h : i < 0
      · simp only [h, if_true] <;> omega
      · simp only [h, if_false] <;> omega
  · cases hi with
    | none => simp [sliceBounds, HT.sIx]
    | some i =>
      simp only [sliceBounds, HT.sIx, Option.getD_none, show (1 : Int) > 0 by decide, if_true];by_cases h : i < 0
      · simp only [h, if_true] <;> omega
      · simp only [h, if_false] <;> omega
theorem pE (its : List Value) (lo hi : Option Int) : slicePick its.toArray lo hi none = ((its.drop (HT.sIx its.length 0 lo)).take (HT.sIx its.length its.length hi - HT.sIx its.length 0 lo)).toArray := by
  obtain ⟨h1, h2, h3⟩ := qT lo hi its.toArray.size;unfold slicePick;rw [h1, h2, h3];simp only [sliceRange_one, pick_run, List.size_toArray] <;> rfl
def ES (K : PySem.W.Frag) : V -> Option Int -> Option Int -> Hp -> VK -> Prop := fun x lo hi H Q => ∃ a xs, x = .ref a /\ ni K H a xs /\ ∀ p, H p = none -> Q (.ref p) (cm H p (.lst (rU xs lo hi)))
theorem AI : zO X (ES X.K) := by
  intro pins s σ H x v vl vu lo hi sl Q I rx hs pl pu h;obtain ⟨a, xs, rfl, hx, q⟩ := h;cases rx;obtain ⟨its, r, ht, hz⟩ := I.list hx;have hlen := r.length;refine ⟨"list", _, slot_list_getitem.lookup, ht.isList.typeIs, ?_⟩;refine wpAny_getItem_list_slice ht.isList hs pl pu .none (by simp) ?_ (by rw [List.size_toArray] <;> omega);rw [pE, <- hlen];refine ⟨.ref s.heap.objs.size, _, I.laid (t' := s.toks) (o := .lst (rU xs lo hi)) (fun b ob q => Heap.get?_push_of_some _ q) (Nat.le_refl _) ?_, rfl, q _ (I.hok.fresh (Nat.le_refl _))⟩;exact ⟨Nat.le_trans (mL xs lo hi) hz, _, 0, (r.drop (HT.sIx xs.length 0 lo)).take (HT.sIx xs.length xs.length hi - HT.sIx xs.length 0 lo), Heap.get?_push_size _ rfl⟩
theorem qZ : dN X (.builtin "len") (fun xs H Q => ∃ p ys, xs = [.ref p] /\ (ni X.K H p ys \/ eE X.K H p ys) /\ Q (.int ys.length) H) := by
  intro pins s σ H xs us Q I r h;obtain ⟨p, ys, rfl, hq, q⟩ := h;obtain ⟨u, rfl, rx⟩ := gx r;cases rx;have hn := my;rcases hq with hq | hq
  · obtain ⟨its, r', pl, hz⟩ := I.list hq;have hlen := r'.length;exact Calls.call_len_list pl.isList (by simp only [List.size_toArray] <;> omega) ⟨.int ys.length, H, I.tok _, ⟨s.toks + 1, by rw [List.size_toArray, hlen]⟩, q⟩
  · obtain ⟨its, r', pl, hz⟩ := I.tuple hq;have hlen := r'.length;exact len_tuple pl (by simp only [List.size_toArray] <;> omega) ⟨.int ys.length, H, I.tok _, ⟨s.toks + 1, by rw [List.size_toArray, hlen]⟩, q⟩
theorem qE : dN X (.builtin "len") (fun xs H Q => ∃ z, xs = [.str z] /\ z.length <= sizeLine /\ Q (.int z.length) H) := by
  intro pins s σ H xs us Q I r h;obtain ⟨z, rfl, hz, q⟩ := h;obtain ⟨u, rfl, t, rfl⟩ := gx r;have hn := my;exact len_str (by omega) ⟨.int z.length, H, I.tok _, ⟨_, rfl⟩, q⟩
theorem dN.or {f : Value} {r r' : List V -> Hp -> VK -> Prop} (h : dN X f r) (h' : dN X f r') : dN X f (fun xs H Q => r xs H Q \/ r' xs H Q) := by
  intro pins s σ H xs us Q I rs q;rcases q with q | q
  · exact h pins s σ H xs us Q I rs q
  · exact h' pins s σ H xs us Q I rs q
theorem qH : dN X (.type "list") (fun xs H Q => ∃ p ys, xs = [.ref p] /\ (ni X.K H p ys \/ eE X.K H p ys) /\ ∀ l, H l = none -> Q (.ref l) (cm H l (.lst ys))) := by
  intro pins s σ H xs us Q I r h;obtain ⟨p, ys, rfl, hq, q⟩ := h;obtain ⟨u, rfl, rx⟩ := gx r;cases rx;have fin : ∀ (its : List Value), br ys its -> ys.length <= sizeLine -> ∀ (h' : Heap) (c' : Nat), (∀ b o', s.heap.get? b = some o' -> h'.get? b = some o') ->
      h'.get? s.heap.objs.size = some { cls := .type "list", dict := none, data := .seq its.toArray c', slots := #[] } -> EP X pins σ Q (.ref s.heap.objs.size) { s with heap := h' } := fun its r' hz h' c' kp e =>
    ⟨.ref s.heap.objs.size, _, I.laid (t' := s.toks) kp (Nat.le_refl _) (show bR X.prog X.w _ h' _ (.lst ys) from ⟨hz, its, c', r', e⟩), rfl, q _ (I.hok.fresh (Nat.le_refl _))⟩
  rcases hq with hq | hq
  · obtain ⟨its, r', pl, hz⟩ := I.list hq;have hlen := r'.length;obtain ⟨o, ho, hc, n, hd⟩ := pl.isList;exact call_list_seq p (.inl rfl) ho hc hd (fun h' c' kp e => fin its r' hz h' c' kp e) (by simp only [List.size_toArray] <;> omega)
  · obtain ⟨its, r', pl, hz⟩ := I.tuple hq;have hlen := r'.length;obtain ⟨o, ho, hc, n, hd⟩ := pl;exact call_list_seq p (.inr rfl) ho hc hd (fun h' c' kp e => fin its r' hz h' c' kp e) (by simp only [List.size_toArray] <;> omega)
theorem pA : dN X (.type "tuple") (fun xs H Q => ∃ p ys, xs = [.ref p] /\ ((ni X.K H p ys /\ ∀ l, H l = none -> Q (.ref l) (cm H l (.tup ys))) \/ (eE X.K H p ys /\ Q (.ref p) H))) := by
  intro pins s σ H xs us Q I r h;obtain ⟨p, ys, rfl, h⟩ := h;obtain ⟨u, rfl, rx⟩ := gx r;cases rx;rcases h with ⟨hq, q⟩ | ⟨hq, q⟩
  · obtain ⟨its, r', pl, hz⟩ := I.list hq;have hlen := r'.length;refine call_tuple_list pl.isList (fun h' kp => ?_) (by simp only [List.size_toArray] <;> omega);have I1 : aM X pins σ H { s with heap := h' } := I.kept (t' := s.toks) kp;have I2 : aM X pins σ (cm H h'.objs.size (.tup ys)) { s with heap := h'.push { cls := .type "tuple", data := .seq its.toArray } } :=
      I1.laid (t' := s.toks) (fun b o e => Heap.get?_push_of_some _ e) (Nat.le_refl _) (show bR X.prog X.w _ _ _ (.tup ys) from ⟨hz, its, r', IsTup.new _ _⟩)
    exact ⟨.ref h'.objs.size, _, I2, rfl, q _ (I1.hok.fresh (Nat.le_refl _))⟩
  · obtain ⟨its, r', pl, hz⟩ := I.tuple hq;exact call_tuple_same pl ⟨.ref p, H, I, rfl, q⟩
def Fn (K : PySem.W.Frag) (T : String) (x : V) (H : Hp) : Prop := match x with
  | .str _ => T = "str"
  | .int _ => T = "int"
  | .ref p => (T = "list" /\ ∃ xs, ni K H p xs) \/ (T = "tuple" /\ ∃ o, K.lookup p = some o /\ o.cls = .type "tuple" /\ o.dict = none) \/
      (T = "dict" /\ ((∃ kvs, H p = some (.dK kvs)) \/ ∃ kvs, H p = some (.dT kvs))) \/ (T = "set" /\ ∃ S n, H p = some (.set S n))
  | _ => False
theorem Cj {pins : List (Addr × Obj)} {σ : St} {H : Hp} {s : Shared} {T : String} {x : V} {v : Value} (I : aM X pins σ H s) (r : bA x v) (ty : Fn X.K T x H) :
    s.TypeIs v T /\ ∀ a, v = .ref a -> ∃ ob, s.heap.get? a = some ob /\ ob.dict = none := by
  cases x with
  | str z =>
    obtain ⟨t, rfl⟩ := r;cases (show T = "str" from ty);exact ⟨typeIs_str s z t, fun _ e => nomatch e⟩
  | int i =>
    obtain ⟨t, rfl⟩ := r;cases (show T = "int" from ty);exact ⟨typeIs_int s i t, fun _ e => nomatch e⟩
  | ref p =>
    cases r;rcases ty with ⟨rfl, xs, hq⟩ | ⟨rfl, o, hk, hc, hd⟩ | ⟨rfl, hk⟩ | ⟨rfl, S, n, hk⟩
    · obtain ⟨its, _, pl, _⟩ := I.list hq;refine ⟨pl.isList.typeIs, fun a e => ?_⟩;cases e;obtain ⟨o, n, e, c, hd, _⟩ := pl;exact ⟨o, e, hd⟩
    · refine ⟨⟨o, I.kIn p o hk, hc⟩, fun a e => ?_⟩;cases e;exact ⟨o, I.kIn _ o hk, hd⟩
    · have z : ∃ o, s.heap.get? p = some o /\ o.ExactDict := by
        rcases hk with ⟨kvs, hk⟩ | ⟨kvs, hk⟩
        · obtain ⟨_, _, _, _, o, _, _, e, ex, _⟩ := I.hok p _ hk;exact ⟨o, e, ex⟩
        · obtain ⟨_, _, _, _, o, _, _, e, ex, _⟩ := I.hok p _ hk;exact ⟨o, e, ex⟩
      obtain ⟨o, e, ex⟩ := z;refine ⟨⟨o, e, ex.1⟩, fun a e2 => ?_⟩;cases e2;exact ⟨o, e, ex.2.1⟩
    · obtain ⟨o, _, _, _, e, ex, _⟩ := I.hok p _ hk;refine ⟨⟨o, e, ex.1⟩, fun a e2 => ?_⟩;cases e2;exact ⟨o, e, ex.2.1⟩
  | _ => exact False.elim ty
def FI (K : PySem.W.Frag) (T : String) (r : V -> List V -> Hp -> VK -> Prop) (to : TE) (t : TA) : TE := fun σ H Q => to σ H fun x H1 => Fn K T x H1 /\ t σ H1 fun xs H2 => r x xs H2 Q
variable {o e : Expr} {es : List Expr} {to : TE} {t : TA} {name : Str} {apos cpos : Pos} {T id : String} {r : V -> List V -> Hp -> VK -> Prop}
theorem Bm (pa : PlainAttrs T) (slot : Slot T name id) (hty : typeOf (.builtin id) = pure (.type "method_descriptor")) (hm : Fv X id r) (ho : PE X o to) (ha : PA X (e :: es) t)
    (hbase : attributeBase o name X.env (eval o X.env) = eval o X.env := by rfl)
    (hfew : ((backTo cpos (starEach (e :: es) X.env)).all (fun x => !x.1) && (backToKw cpos (keywordEach [] X.env)).all (fun x => x.1.isSome)
      && decide ((e :: es).length + ([] : List Keyword).length + (if ([] : List Keyword).isEmpty then 0 else 1) < 30)) = true := by rfl)
    (hline : (apos.endLine == cpos.line) = true := by rfl) (hs : starEach (e :: es) X.env = (false, eval e X.env) :: starEach es X.env := by rfl) (hplain : (backTo cpos (starEach es X.env)).any (·.1) = false := by rfl) :
    PE X (.Call (.Attribute o name apos) (e :: es) [] cpos) (FI X.K T r to t) := by
  intro pins s σ H Q I h;refine wpAny_Call_method_late hbase hfew hline rfl (cQ (ho pins s σ H _ I h) fun v s1 ⟨x, H1, I1, r1, ty, q1⟩ => ?_);obtain ⟨h1, h2⟩ := Cj I1 r1 ty;refine ⟨T, id, pa, slot, hty, h1, h2, ?_⟩;have hA := ha cpos pins s1 σ H1 _ I1 q1;rw [hs] at hA ⊢;refine Calls.callWith_builtin (by show (false || (backTo cpos (starEach es X.env)).any (·.1)) = false; rw [hplain] <;> rfl) (Calls.evalArgs_plain ?_);exact cQ hA fun us s2 ⟨vs, H2, I2, r2, q2⟩ => hm pins s2 σ H2 x vs v us Q I2 r1 r2 q2
end
def FJ (X : Cx) (id : String) (r : V -> List V -> Hp -> VK -> Prop) : Prop :=
  ∀ (pins : List (Addr × Obj)) (s : Shared) (σ : St) (H : Hp) (x : V) (xs : List V) (v : Value) (us : List Value) (Q : VK), aM X pins σ H s -> bA x v -> br xs us -> r x xs H Q ->
    wpAny (model X.prog X.w) X.A (call (.builtin id) (v :: us)) (EP X pins σ Q) X.xe s
theorem br.one : ∀ {x : V} {us : List Value}, br [x] us -> ∃ u, us = [u] /\ bA x u
  | _, _, .cons r .nil => ⟨_, rfl, r⟩
theorem br.rep {xs : List V} {us : List Value} (h : br xs us) : ∀ k : Nat, br (List.replicate k xs).flatten (List.replicate k us).flatten
  | 0 => .nil
  | k + 1 => by
    rw [List.replicate_succ, List.replicate_succ, List.flatten_cons, List.flatten_cons];exact br.append h (br.rep h k)
theorem qd (its : List Value) : ∀ (k : Nat) (acc : List Value),
    List.foldl (fun x1 x2 => x1 ++ x2) acc.toArray (List.replicate k its.toArray) = (acc ++ (List.replicate k its).flatten).toArray
  | 0, acc => by simp
  | k + 1, acc => by
    have e : acc.toArray ++ its.toArray = (acc ++ its).toArray := by simp
    have e2 : (acc ++ its) ++ (List.replicate k its).flatten = acc ++ (List.replicate (k + 1) its).flatten := by
      rw [List.replicate_succ, List.flatten_cons, List.append_assoc]
    rw [<- e2, <- qd its k (acc ++ its), <- e, List.replicate_succ, List.foldl_cons]
section
variable {X : Cx} {pins : List (Addr × Obj)} {σ : St} {H : Hp} {s : Shared} {l b : Addr} {xs ys zs : List V}
theorem aM.lset {its its' : List Value} {n : Nat} {f : Array Value -> Array Value} {t' : Nat} (I : aM X pins σ H s) (hH : H l = some (.lst xs))
    (e : s.heap.get? l = some { cls := .type "list", data := .seq its.toArray n }) (hf : f its.toArray = its'.toArray) (hv : br ys its') (hz : ys.length <= sizeLine) :
    aM X pins σ (cm H l (.lst ys)) { s with heap := s.heap.update l (Obj.mapSeq f), toks := t' } := by
  have q := PySem.IsL.update e f;rw [hf] at q;refine I.write (x := l) (e := l) (by rw [hH]; exact trivial) (.inl rfl) (fun b' u hb hu => (Heap.get?_update_other s.heap (Obj.mapSeq f) (Ne.symm hb)).trans hu) ⟨_, q⟩ ?_;exact ⟨hz, its', _, hv, q⟩
theorem aM.lnew {its : List Value} {t' : Nat} (I : aM X pins σ H s) (hv : br ys its) (hz : ys.length <= sizeLine) :
    aM X pins σ (cm H s.heap.objs.size (.lst ys)) { s with heap := s.heap.push { cls := .type "list", data := .seq its.toArray }, toks := t' } :=
  I.laid (fun _ _ q => Heap.get?_push_of_some _ q) (Nat.le_refl _) ⟨hz, its, 0, hv, Heap.get?_push_size _ rfl⟩
theorem aM.fresh (I : aM X pins σ H s) : H s.heap.objs.size = none := I.hok.fresh (Nat.le_refl _)
theorem aM.lstM (I : aM X pins σ H s) (hH : H l = some (.lst xs)) : xs.length <= sizeLine /\ ∃ (its : List Value) (n : Nat), br xs its /\ xs.length = its.length /\ s.heap.get? l = some { cls := .type "list", data := .seq its.toArray n } := by
  obtain ⟨z, its, n, r, e⟩ := I.hok l _ hH;exact ⟨z, its, n, r, r.length, e⟩
end
section
variable {X : Cx}
def AO : V -> List V -> Hp -> VK -> Prop := fun x vs H Q => ∃ l xs y, x = .ref l /\ vs = [y] /\ H l = some (.lst xs) /\ xs.length < sizeLine /\ Q .non (cm H l (.lst (xs ++ [y])))
theorem qe : FJ X "list.append" AO := by
  intro pins s σ H x vs v us Q I rx rv h;obtain ⟨l, xs, y, rfl, rfl, hH, hz, q⟩ := h;cases rx;obtain ⟨u, rfl, ru⟩ := rv.one;obtain ⟨z, its, n, r, hl, e⟩ := I.lstM hH;refine call_meets F.slot_list_append ⟨_, e, rfl⟩ F.entry_list_append (F.args_list_append_2 _ _) (PySem.list_append l its.toArray n u (by rw [List.size_toArray]; omega)) ⟨e, ?_⟩;refine ⟨.non, _, I.lset (its' := its ++ [u]) hH e (by simp) (r.append (.cons ru .nil)) ?_, rfl, q⟩;rw [List.length_append, List.length_singleton];omega
theorem vT {α : Type} (xs : List α) (k : Nat) : (List.replicate k xs).flatten.length = k * xs.length := by
  induction k with
  | zero => simp
  | succ k ih => rw [List.replicate_succ, List.flatten_cons, List.length_append, ih, Nat.succ_mul, Nat.add_comm]
end
end L2
namespace Att
open PySem PySem.W PySem.Calls PyProof.Rows
theorem nq {P : Params} {h : Heap} : ∀ (ns : List Int) (vs : List Value), WellAll P h vs (ns.map WData.int) -> IntsAre vs ns := by
  intro ns;induction ns with
  | nil =>
    intro vs w;rw [List.map_nil] at w;cases w;exact .nil
  | cons n ns ih =>
    intro vs w;rw [List.map_cons] at w;cases w with
    | cons a b =>
      cases a;exact .cons _ _ (ih _ b)
theorem wr {l : OpenLaw} {n : Nat} (hn : l.most = some n) {P : Params} {h : Heap} {args : List WData} {vals : List Value}
    (hpre : l.row.toRowW.claim.pre args = true) (hwl : WellAll P h vals args) :
    ∃ a vs ns, vals = [Value.ref a] /\ args = [WData.list (ns.map WData.int)] /\ h.get? a = some { cls := .type "list", data := .seq vs.toArray } /\ IntsAre vs ns /\ ns.length <= n := by
  have hsh : WShape.hasAll [] args [.list .int] = true := (pre_splitW hpre).1;have hc : l.pre.holds [] { args := args } = true := (pre_splitW hpre).2;obtain ⟨d, r, rfl, h1, h2⟩ := hasAllW_cons hsh;obtain rfl := hasAllW_nil h2;obtain ⟨xs, rfl, h3⟩ := hasW_list h1;obtain ⟨ns, rfl⟩ := items_int h3;have hlen : ns.length <= n := by
    unfold OpenLaw.pre at hc;have h4 : (WTm.not (.lt (.lit (.int (n : Int))) (.len (.arg 0)))).holds [] { args := [.list (ns.map .int)] } = true := by
      have h4 := (holds_andW hc).1;rw [hn] at h4;exact h4
    have h5 := condW_of h4 (w_not (w_lt w_lit (w_len_list (w_arg rfl))));rw [List.length_map] at h5;refine Nat.le_of_not_lt fun q => ?_
    have q' : (n : Int) < ((ns.length : Nat) : Int) := by omega
    first
      | (rw [decide_eq_true q'] at h5; exact absurd h5 (by decide))
      | (simp at h5; omega)
  cases hwl with
  | cons w1 w2 =>
    cases w2;cases w1 with
    | list ho hall => exact ⟨_, _, ns, rfl, rfl, ho, nq ns _ hall, hlen⟩
theorem wT (l : OpenLaw) (args : List WData) : l.row.toRowW.claim.post args (.bool true) args = true :=
  postW_of (r := l.row.toRowW) (X := (true == true))
    (show WShape.has [] (.bool true) .bool = true by first | rfl | decide | simp [WShape.has, WShape.arms, WShape.armsAll])
    (show (WTm.eq .res (.lit (.bool true))).value [] { args := args, res := some (.bool true), after := args } = some (.bool (true == true)) from w_eq_bool (w_res rfl) w_lit) rfl
theorem attach_call {l : OpenLaw} {n : Nat} {q : Program} {loose : List Str} {XP : (Str -> Option Value) -> Heap -> Prop} {YP : World -> Heap -> Prop} {d : DefRec}
    (hn : l.most = some n) (hdf : d.params.defaults = [])
    (call : ∀ (w : World) (s₀ s₁ : Shared) (mg mb : Str -> Option Value) (fa : Addr) (o : Obj) (pm cd doc : Value) (a : Addr) (vs : List Value) (ns : List Int),
      Ground q loose [] XP w s₀ mg mb s₁.heap -> YP w s₁.heap ->
      s₁.heap.get? fa = some o -> o.data = .func (docDef d.name d.params d.body d.scope pm cd doc) -> s₁.heap.CodeRec cd d.name -> mg d.name = some (.ref fa) ->
      s₁.heap.get? a = some { cls := .type "list", data := .seq vs.toArray } -> IntsAre vs ns -> ns.length <= n -> s₁.gens = #[] ->
      codeAny (model l.prog w) callerA (.call (.ref fa) ⟨[.ref a], []⟩) (fun r s' => r = .ok (.ret (.bool true)) /\ OldK s₁.heap s'.heap /\ s'.os = s₁.os /\ AllBare s'.gens) s₁) :
    WalkO q loose XP YP l.row.toRowW d [] (fun f vs => PySem.call f vs) := by
  intro w s₀ s₁ mg mb G Y fa o pm cd doc dV kV ho hd hcd hD hmg hg args vals as hpre hlay hrd hwl hlo;obtain rfl : dV = .none := Dflts.none hD hdf;obtain rfl : kV = .none := Dflts.noKw hD;obtain ⟨a, vs, ns, rfl, rfl, hobj, hints, hlen⟩ := wr hn hpre hwl;refine enter_call (codeAny_mono (call w s₀ s₁ mg mb fa o pm cd doc a vs ns G Y ho (fd_plain hd) hcd hmg hobj hints hlen hg) fun r s' hq => ?_);obtain ⟨rfl, h2, h3, h4⟩ := hq;exact ⟨.inl ⟨.bool true, .bool true, [], rfl, fun _ => rfl, .bool true, wT l _, fun _ => ⟨List.Pairwise.nil, fun _ hm => (nomatch hm)⟩⟩, h2, h3, h4⟩
end Att
namespace L2
open PySem PySem.Spec PyProof.Rows
theorem j9 : ∀ {vs : List Value} {ns : List Int}, IntsAre vs ns -> br (ns.map V.int) vs
  | _, _, .nil => .nil
  | _, _, .cons n t h => .cons ⟨t, rfl⟩ (j9 h)
def DO (H : Hp) : Prop := ∀ b, H b = none \/ ∃ o xs, H b = some (.frz o (.lst xs))
theorem zc {P : Program} {w : World} {K : PySem.W.Frag} {mg mb : Str -> Option Value} {CX : xj} {k : Nat} {fa a : Addr} {fd : FuncData} {x : Str} {sp : Sp} {s₁ : Shared} {vs : List Value} {ns : List Int}
    (KX : K.In s₁.heap) (hns : s₁.heap.Ns mainGlobals mg) (hb : s₁.heap.Ns builtinsNs mb) (hbb : ∀ x : Str, x ≠ "__name__" -> mb x = bootBuiltins x) (hlim : s₁.heap.NoLimit) (hg : s₁.gens = #[])
    (ha : s₁.heap.get? a = some { cls := .type "list", data := .seq vs.toArray }) (hi : IntsAre vs ns) (hl : ns.length <= sizeLine) (hr : eK k callerA)
    (F : ∀ base : Heap, K.In base -> base.Ns mainGlobals mg -> aY P w K mg base CX k fa fd [x] sp) (hbind : ∀ (s : Shared) (u : Value), BindsTo s fd ⟨[u], []⟩ [(x, u)])
    (hsp : ∀ H : Hp, DO H -> ni K H a (ns.map V.int) -> sp [.ref a] H (fun v _ => v = .bl true) fun _ _ _ => False)
    (hCX : ∀ H e s', CX [] H s₁ (fun _ _ _ => False) e s' -> False) :
    codeAny (model P w) callerA (.call (.ref fa) ⟨[.ref a], []⟩) (fun r s' => r = .ok (.ret (.bool true)) /\ OldK s₁.heap s'.heap /\ s'.os = s₁.os /\ AllBare s'.gens) s₁ := by
  have rv := j9 hi;have lenV := hi.length
  -- from an abstract heap in which nothing but the script may be tracked
  have core : ∀ H : Hp, DO H -> ni K H a (ns.map V.int) -> ir P w H s₁.heap -> (∀ b, H b ≠ none -> b = a) -> (H a ≠ none -> K.lookup a = none) ->
      codeAny (model P w) callerA (.call (.ref fa) ⟨[.ref a], []⟩) (fun r s' => r = .ok (.ret (.bool true)) /\ OldK s₁.heap s'.heap /\ s'.os = s₁.os /\ AllBare s'.gens) s₁ := by
    intro H hO hS hok hA hK;have base_of : ∀ {b : Addr} {o : Obj}, s₁.heap.get? b = some o -> H b = none -> (qF s₁.heap H).get? b = some o := fun e n => xO e n
    have noA : ∀ {b : Addr} {o : Obj} {es : Array DictEntry} {ep : Nat}, s₁.heap.get? b = some o -> o.data = .dict es ep -> H b = none := fun {b o es ep} e d => by
      cases q : H b with
      | none => rfl
      | some u =>
        have e' : b = a := hA b (by rw [q]; simp);subst e';rw [ha] at e; cases e;have d' : Data.seq vs.toArray _ = Data.dict es ep := d;cases d'
    have nsK : ∀ {b : Addr} {m : Str -> Option Value}, s₁.heap.Ns b m -> (qF s₁.heap H).Ns b m := fun {b m} ⟨o, es, ep, e, d, r⟩ => ⟨o, es, ep, base_of e (noA e d), d, r⟩
    have hKb : K.In (qF s₁.heap H) := fun b o e => base_of (KX b o e) (by
      cases q : H b with
      | none => rfl
      | some u =>
        have e' : b = a := hA b (by rw [q]; simp);subst e';rw [hK (by rw [q]; simp)] at e; cases e)
    have hM : Mod K mg (qF s₁.heap H) := ⟨hKb, nsK hns, ⟨mb, nsK hb, hbb⟩, let ⟨mc, h1, h2⟩ := hlim; ⟨mc, nsK h1, h2⟩⟩
    have e0 : ux P w K mg (qF s₁.heap H) callerA [] s₁ H := ⟨rfl, hM, fun b o e => AM e, Nat.le_of_eq (wV _ _), trivial, fun b hb => absurd (show b ∈ ([] : List Addr) from hb) (by simp), hok, .of_eq hg⟩
    refine codeAny_mono ((F _ hKb (nsK hns)).run callerA [] s₁ H ⟨[.ref a], []⟩ [.ref a] [.ref a] _ _ hr e0 (hbind s₁ (.ref a)) (.cons rfl .nil) (hsp H hO hS)) fun r s' h => ?_
    cases r with
    | error e => exact (hCX H e s' h).elim
    | ok fl =>
      cases fl with
      | next => exact False.elim h
      | brk => exact False.elim h
      | cont => exact False.elim h
      | ret u =>
        obtain ⟨v, H', os, bare, un, hok', r', q⟩ := h;have q' : v = .bl true := q;subst q';obtain rfl : u = Value.bool true := r';refine ⟨rfl, OldK.of_keep fun b o e => ?_, os, bare⟩;cases q : H b with
        | none => exact un.keep b o e q (by intro z; exact absurd (show b ∈ ([] : List Addr) from z) (by simp)) (by simp)
        | some u =>
          rcases hO b with z | ⟨ob, xs, z⟩
          · rw [q] at z; cases z
          · have z2 := un.frzs b ob _ z;obtain ⟨e1, _⟩ := hok b _ z;obtain ⟨e2, _⟩ := hok' b _ z2;rw [e] at e1; cases e1;exact e2
  cases hk : K.lookup a with
  | some o =>
    -- the script is one of the module's own objects
    have e := KX a o hk;rw [ha] at e;cases e;refine core (fun _ => none) (fun _ => .inl rfl) (.inr ⟨_, vs.toArray, _, hk, rfl, rfl, rfl, by rw [List.size_toArray, lenV]; exact hl, by simpa using rv⟩) (fun b u z => by have z' : (none : Option HO) = some u := z; cases z') (fun b z => absurd rfl z) fun z => absurd rfl z
  | none =>
    refine core (fun b => if b = a then some (.frz { cls := .type "list", data := .seq vs.toArray } (.lst (ns.map V.int))) else none) (fun b => ?_) (.inl (.inr ⟨{ cls := .type "list", data := .seq vs.toArray }, if_pos rfl⟩)) (fun b u z => ?_) (fun b z => ?_) fun _ => hk
    · by_cases hb : b = a
      · exact .inr ⟨_, _, if_pos hb⟩
      · exact .inl (if_neg hb)
    · by_cases hb : b = a
      · have z' := (if_pos hb).symm.trans z;cases z';subst hb;exact ⟨ha, by rw [List.length_map]; exact hl, vs, _, rv, ha⟩
      · have z' := (if_neg hb).symm.trans z;cases z'
    · by_cases hb : b = a
      · exact hb
      · exact absurd (if_neg hb) z
def At (s : Stmt) (j : Nat) : Stmt := match s with
  | .ClassDef _ _ _ body _ _ _ _ _ _ _ => body.getD j (.Pass ⟨0, 0, 0, 0⟩)
  | _ => .Pass ⟨0, 0, 0, 0⟩
def gp (s : Stmt) : Arguments := match s with
  | .FunctionDef _ a _ _ _ _ _ _ _ _ => a
  | _ => { posonlyargs := [], args := [], vararg := none, kwonlyargs := [], kw_defaults := [], kwarg := none, defaults := [] }
def dS (s : Stmt) : List Stmt := match s with
  | .FunctionDef _ _ b _ _ _ _ _ _ _ => b
  | _ => []
def ah (s : Stmt) : Scope := match s with
  | .FunctionDef _ _ _ _ _ _ sc _ _ _ => sc
  | _ => { kind := .function, names := [], isGenerator := false, isCoroutine := false }
abbrev Fr : xj := fun _ _ _ _ _ _ => False
structure ie (K : PySem.W.Frag) (x qual : Str) (st : Stmt) (f : Addr) (fd : FuncData) : Prop where
  ex : ∃ (oc : Value) (od : Option Addr) (kV doc pm : Value) (an : Option Addr) (cdv ct : Value) (osl : Array (Option Value)),
    fd = PySem.W.fnOf x qual (gp st) (dS st) (ah st) .none kV doc pm an cdv ct /\ K.lookup f = some ⟨oc, od, .func fd, osl⟩ /\ PySem.W.codeIn K cdv qual = true
  kp : PySem.W.keepIn K (.ref f) = true
section
variable {P : Program} {w : World} {K : PySem.W.Frag} {mg : Str -> Option Value} {base : Heap}
theorem ie.ok {x qual : Str} {st : Stmt} {f : Addr} {fd : FuncData} {N ps : List Str} {k : Nat} {sp : Sp} (F : ie K x qual st f fd) (S : aR N ps (ah st)) (len : ∀ vs H Q E, sp vs H Q E -> vs.length = ps.length)
    (hbody : ∀ (cdv : Value) (A : Around) (outer : List Env) (s : Shared) (H : Hp) (vs : List V) (Q : VK) (E : XK), eK k (A.deeper (envOfC qual (ah st) s.heap.objs.size f cdv)) -> sp vs H Q E ->
      ∃ t, qX (fU Fr P w K mg base N qual (ah st) f cdv A outer s H E).nox (dS st) t /\ t { nx := fun _ H' => Q .non H', rt := Q } (i8 N vs) H) : aY P w K mg base Fr (k + 1) f fd ps sp := by
  obtain ⟨oc, od, kV, doc, pm, an, cdv, ct, osl, rfl, lk, hcd⟩ := F.ex;refine xR lk hcd S len fun A outer s H vs Q E hr hsp => ?_
  obtain ⟨t, h, q⟩ := hbody cdv A outer s H vs Q E hr hsp;exact ⟨t, h.nox, q⟩
theorem ie.binds {x qual : Str} {st : Stmt} {f : Addr} {fd : FuncData} {ps : List Str} (F : ie K x qual st f fd)
    (h : ∀ (kV doc pm : Value) (an : Option Addr) (cdv ct : Value) (us : List Value), us.length = ps.length -> bindArgs (PySem.W.fnOf x qual (gp st) (dS st) (ah st) .none kV doc pm an cdv ct) ⟨us, []⟩ = pure (ps.zip us)) : i4 K fd ps [] := by
  obtain ⟨oc, od, kV, doc, pm, an, cdv, ct, osl, rfl, lk, hcd⟩ := F.ex;exact .all (h kV doc pm an cdv ct)
theorem uf {x qual : Str} {st : Stmt} {f : Addr} {oc : Value} {od an : Option Addr} {osl : Array (Option Value)} {kV doc pm cdv ct : Value} (l : K.lookup f = some ⟨oc, od, .func (PySem.W.fnOf x qual (gp st) (dS st) (ah st) .none kV doc pm an cdv ct), osl⟩)
    (c : PySem.W.codeIn K cdv qual = true) (k : PySem.W.keepIn K (.ref f) = true) : ie K x qual st f (PySem.W.fnOf x qual (gp st) (dS st) (ah st) .none kV doc pm an cdv ct) := ⟨⟨oc, od, kV, doc, pm, an, cdv, ct, osl, rfl, l, c⟩, k⟩
end
section
variable {X : Cx}
theorem pv (i : Nat) {x : Str} {pos : Pos} (hN : X.N[i]? = some x := by rfl) (hv : CK X.env.scope x := by first | exact Or.inl rfl | exact Or.inr (Or.inl rfl) | exact Or.inr (Or.inr rfl)) (hd : (x == ("__debug__" : Str)) = false := by decide)
    (hcd : (x == ("__classdict__" : Str)) = false := by decide) : PE X (.Name x pos) (DI i) := mt hN hv hd hcd
end
def aE (H H' : Hp) : Prop := ∀ b o, H b = some o -> H' b = some o
theorem aE.refl (H : Hp) : aE H H := fun _ _ h => h
theorem aE.trans {H H1 H2 : Hp} (a : aE H H1) (b : aE H1 H2) : aE H H2 := fun c o h => b c o (a c o h)
theorem aE.free {H H' : Hp} (e : aE H H') {l : Addr} (h : H' l = Option.none) : H l = Option.none := by
  cases q : H l with
  | none => rfl
  | some o =>
    rw [e l o q] at h;cases h
section
variable {κ : Type} [DecidableEq κ]
def kh (kvs : List (κ × V)) (k : κ) : Option V := (kvs.find? fun kv => decide (kv.1 = k)).map (·.2)
def kW (kvs : List (κ × V)) (k : κ) (v : V) : List (κ × V) :=
  if (kvs.any fun kv => decide (kv.1 = k)) = true then kvs.map (fun kv => if kv.1 = k then (kv.1, v) else kv) else kvs ++ [(k, v)]
theorem oM {p : κ × V} {r : List (κ × V)} {k : κ} (e : p.1 = k) : kh (p :: r) k = some p.2 := by simp [kh, List.find?_cons, e]
theorem oU {p : κ × V} {r : List (κ × V)} {k : κ} (e : ¬ p.1 = k) : kh (p :: r) k = kh r k := by simp [kh, List.find?_cons, e]
theorem sI (k : κ) : ∀ kvs : List (κ × V), (kvs.any fun kv => decide (kv.1 = k)) = (kh kvs k).isSome
  | [] => rfl
  | p :: r => by
    rw [List.any_cons];by_cases e : p.1 = k
    · simp only [oM e, decide_eq_true e, Bool.true_or, Option.isSome_some]
    · rw [oU e, decide_eq_false e, Bool.false_or]; exact sI k r
theorem mS (kvs : List (κ × V)) (k : κ) (v : V) : (kW kvs k v).length <= kvs.length + 1 := by
  unfold kW;split
  · rw [List.length_map]; omega
  · rw [List.length_append, List.length_cons, List.length_nil]; omega
theorem mr.isSome_eq {o : Option V} {u : Option Value} (r : mr o u) : o.isSome = u.isSome := by
  cases o with
  | none => cases u with
    | none => rfl
    | some _ => exact (show False from r).elim
  | some _ => cases u with
    | none => exact (show False from r).elim
    | some _ => rfl
theorem KV.val {kvs : List (κ × V)} {vs : List (κ × Value)} (r : KV kvs vs) (k : κ) : mr (kh kvs k) (valueAt vs k) := by
  unfold KV at r;induction r with
  | nil => exact True.intro
  | @cons p q ps qs h t ih =>
    obtain ⟨h1, h2⟩ := h;by_cases e : p.1 = k
    · have e' : q.1 = k := h1.symm.trans e;have b : valueAt (q :: qs) k = some q.2 := by simp [valueAt, List.find?_cons, e']
      rw [oM e, b]; exact h2
    · have e' : ¬ q.1 = k := fun z => e (h1.trans z)
      have b : valueAt (q :: qs) k = valueAt qs k := by simp [valueAt, List.find?_cons, e']
      rw [oU e, b]; exact ih
theorem KV.any {kvs : List (κ × V)} {vs : List (κ × Value)} (r : KV kvs vs) (k : κ) : (kvs.any fun kv => decide (kv.1 = k)) = vs.any fun kv => decide (kv.1 = k) := by
  unfold KV at r;induction r with
  | nil => rfl
  | cons h t ih => rw [List.any_cons, List.any_cons, ih, h.1]
theorem KV.repl {kvs : List (κ × V)} {vs : List (κ × Value)} (r : KV kvs vs) (k : κ) {y : V} {u : Value} (ry : bA y u) :
    KV (kvs.map fun kv => if kv.1 = k then (kv.1, y) else kv) (vs.map fun kv => if kv.1 = k then (kv.1, u) else kv) := by
  unfold KV at r ⊢;induction r with
  | nil => exact .nil
  | @cons p q ps qs h t ih =>
    rw [List.map_cons, List.map_cons];refine .cons ?_ ih;obtain ⟨h1, h2⟩ := h;by_cases e : p.1 = k
    · rw [if_pos e, if_pos (h1.symm.trans e)]; exact ⟨h1, ry⟩
    · rw [if_neg e, if_neg (fun z => e (h1.trans z))]; exact ⟨h1, h2⟩
theorem KV.put {kvs : List (κ × V)} {vs : List (κ × Value)} (r : KV kvs vs) (k : κ) {y : V} {u : Value} (ry : bA y u) : KV (kW kvs k y) (stored vs k u) := by
  unfold kW stored;rw [r.any k];by_cases e : (vs.any fun kv => decide (kv.1 = k)) = true
  · rw [if_pos e, if_pos e]; exact r.repl k ry
  · rw [if_neg e, if_neg e]; exact Paired.snoc r ⟨rfl, ry⟩
theorem KV.keys {kvs : List (κ × V)} {vs : List (κ × Value)} (r : KV kvs vs) : kvs.map (·.1) = vs.map (·.1) := by
  unfold KV at r;induction r with
  | nil => rfl
  | cons h t ih => rw [List.map_cons, List.map_cons, ih, h.1]
theorem KV.length {kvs : List (κ × V)} {vs : List (κ × Value)} (r : KV kvs vs) : kvs.length = vs.length := Paired.length r
end
theorem sQ {P : Program} {w : World} {k : cS} {u : Value} (r : bA (kV k) u) : (dc P w).is k u = true := by
  cases k with
  | inl i => obtain ⟨t, e⟩ := (show ∃ t, u = Value.int i t from r); subst e; exact sU P w i t
  | inr x => obtain ⟨t, e⟩ := (show ∃ t, u = Value.str x t from r); subst e; exact sK P w x t
theorem pO {P : Program} {w : World} : ∀ {ks : List cS} {us : List Value}, br (ks.map kV) us -> ItemsAre (dc P w) ks us
  | [], _, r => by rw [List.map_nil] at r; cases r; exact .nil
  | k :: ks, _, r => by
    rw [List.map_cons] at r;cases r with
    | cons h t => exact .cons (sQ h) (pO t)
abbrev KT (H : Hp) : List (List cS × V) -> List (List cS × Addr × Value) -> Prop := Paired fun p q => p.1 = q.1 /\ H q.2.1 = some (.tup (p.1.map kV)) /\ bA p.2 q.2.2
theorem KT.val {H : Hp} {kvs : List (List cS × V)} {xs : List (List cS × Addr × Value)} (r : KT H kvs xs) (k : List cS) : mr (kh kvs k) ((atKey xs k).map (·.2)) := by
  induction r with
  | nil => exact True.intro
  | @cons p q ps qs h t ih =>
    obtain ⟨h1, _, h2⟩ := h;by_cases e : p.1 = k
    · have e' : q.1 = k := h1.symm.trans e;have b : atKey (q :: qs) k = some q.2 := by simp [atKey, List.find?_cons, e']
      rw [oM e, b]; exact h2
    · have e' : ¬ q.1 = k := fun z => e (h1.trans z)
      have b : atKey (q :: qs) k = atKey qs k := by simp [atKey, List.find?_cons, e']
      rw [oU e, b]; exact ih
theorem KT.repl {H : Hp} {kvs : List (List cS × V)} {xs : List (List cS × Addr × Value)} (r : KT H kvs xs) (k : List cS) {y : V} {u : Value} (ry : bA y u) :
    KT H (kvs.map fun kv => if kv.1 = k then (kv.1, y) else kv) (xs.map (putAt k u)) := by
  induction r with
  | nil => exact .nil
  | @cons p q ps qs h t ih =>
    rw [List.map_cons, List.map_cons];refine .cons ?_ ih;obtain ⟨h1, h2, h3⟩ := h;unfold putAt;by_cases e : p.1 = k
    · rw [if_pos e, if_pos (h1.symm.trans e)]; exact ⟨h1, h2, ry⟩
    · rw [if_neg e, if_neg (fun z => e (h1.trans z))]; exact ⟨h1, h2, h3⟩
theorem KT.put {H : Hp} {kvs : List (List cS × V)} {xs : List (List cS × Addr × Value)} (r : KT H kvs xs) (k : List cS) {b : Addr} {y : V} {u : Value} (hb : H b = some (.tup (k.map kV))) (ry : bA y u) :
    KT H (kW kvs k y) (storedH xs k b u) := by
  have e : (kvs.any fun kv => decide (kv.1 = k)) = (atKey xs k).isSome := by
    rw [sI, (r.val k).isSome_eq, Option.isSome_map]
  unfold kW storedH;rw [e];by_cases q : (atKey xs k).isSome = true
  · rw [if_pos q, if_pos q]; exact r.repl k ry
  · rw [if_neg q, if_neg q]; exact Paired.snoc r ⟨rfl, hb, ry⟩
theorem KT.keeps {H H' : Hp} {kvs : List (List cS × V)} {xs : List (List cS × Addr × Value)} (r : KT H kvs xs) (ht : ∀ b ys, H b = some (.tup ys) -> H' b = some (.tup ys)) : KT H' kvs xs :=
  Paired.mapP r fun _ _ z => ⟨z.1, ht _ _ z.2.1, z.2.2⟩
section
variable {P : Program} {w : World} {H : Hp} {h : Heap} {a : Addr}
theorem Bh {u : HO} (ok : ir P w H h) (e : Rd H a u) : bR P w H h a u := e.ok ok
theorem n6 {kvs : List (cS × V)} (ok : ir P w H h) (e : Rd H a (.dK kvs)) : kvs.length <= sizeLine /\ (a == sysModules) = false /\ ∃ vs, KV kvs vs /\ h.DictOf (dc P w) a vs :=
  show bR P w H h a (.dK kvs) from Bh ok e
theorem Dj {kvs : List (cS × V)} (ok : ir P w H h) (e : H a = some (.dK kvs)) : kvs.length <= sizeLine /\ (a == sysModules) = false /\ ∃ vs, KV kvs vs /\ h.DictOf (dc P w) a vs := n6 ok (.inl e)
theorem oG {ks : List cS} (ok : ir P w H h) (e : H a = some (.tup (ks.map kV))) : (tupleKind (dc P w)).is h ks a := by
  obtain ⟨_, its, r, o, h1, h2, n, h3⟩ := (show bR P w H h a (.tup (ks.map kV)) from ok a _ e)
  exact ⟨o, its.toArray, n, h1, h2, h3, by simpa using pO r⟩
theorem sL {kvs : List (List cS × V)} (ok : ir P w H h) (e : Rd H a (.dT kvs)) : kvs.length <= sizeLine /\ (a == sysModules) = false /\
    ∃ xs, KT H kvs xs /\ h.DictOfH (tupleKind (dc P w)) a xs := by
  obtain ⟨z, y, xs, r, o, es, ep, h1, h2, h3, h4, h5⟩ := (show bR P w H h a (.dT kvs) from Bh ok e)
  refine ⟨z, y, xs, r, o, es, ep, h1, h2, h3, h4, fun x hx => ?_, h5⟩;have all : ∀ {l : List (List cS × V)} {m : List (List cS × Addr × Value)}, KT H l m -> ∀ x ∈ m, (tupleKind (dc P w)).is h x.1 x.2.1 := by
    intro l m q;induction q with
    | nil => intro x hx; exact nomatch hx
    | @cons p q ps qs hq t ih =>
      intro x hx;rcases List.mem_cons.mp hx with e | hx
      · subst e;exact oG ok (by rw [<- hq.1]; exact hq.2.1)
      · exact ih x hx
  exact all r x hx
theorem Dw {kvs : List (List cS × V)} (ok : ir P w H h) (e : H a = some (.dT kvs)) : kvs.length <= sizeLine /\ (a == sysModules) = false /\
    ∃ xs, KT H kvs xs /\ h.DictOfH (tupleKind (dc P w)) a xs := sL ok (.inl e)
end
def nY (H : Hp) (a : Addr) (y : V) (r : Option V) : Prop :=
  (∃ kvs k, Rd H a (.dK kvs) /\ y = kV k /\ r = kh kvs k) \/ ∃ kvs k b, Rd H a (.dT kvs) /\ y = .ref b /\ H b = some (.tup (k.map kV)) /\ r = kh kvs k
def ua (H : Hp) (a : Addr) (y v : V) (H' : Hp) : Prop :=
  (∃ kvs k, H a = some (.dK kvs) /\ y = kV k /\ kvs.length < sizeLine /\ H' = cm H a (.dK (kW kvs k v))) \/
  ∃ kvs k b, H a = some (.dT kvs) /\ y = .ref b /\ H b = some (.tup (k.map kV)) /\ kvs.length < sizeLine /\ H' = cm H a (.dT (kW kvs k v))
theorem nY.k {H : Hp} {a : Addr} {kvs : List (cS × V)} {k : cS} (e : H a = some (.dK kvs)) : nY H a (kV k) (kh kvs k) := .inl ⟨kvs, k, .inl e, rfl, rfl⟩
theorem nY.t {H : Hp} {a b : Addr} {kvs : List (List cS × V)} {k : List cS} (e : H a = some (.dT kvs)) (eb : H b = some (.tup (k.map kV))) : nY H a (.ref b) (kh kvs k) := .inr ⟨kvs, k, b, .inl e, rfl, eb, rfl⟩
theorem ua.k {H : Hp} {a : Addr} {kvs : List (cS × V)} {k : cS} {v : V} (e : H a = some (.dK kvs)) (hl : kvs.length < sizeLine) : ua H a (kV k) v (cm H a (.dK (kW kvs k v))) := .inl ⟨kvs, k, e, rfl, hl, rfl⟩
theorem ua.t {H : Hp} {a b : Addr} {kvs : List (List cS × V)} {k : List cS} {v : V} (e : H a = some (.dT kvs)) (eb : H b = some (.tup (k.map kV))) (hl : kvs.length < sizeLine) :
    ua H a (.ref b) v (cm H a (.dT (kW kvs k v))) := .inr ⟨kvs, k, b, e, rfl, eb, hl, rfl⟩
section
variable {X : Cx} {pins : List (Addr × Obj)} {σ : St} {H : Hp} {s : Shared} {a : Addr} {y v : V} {u r : Value} {o : Option V} {A : Around} {E : Value -> Shared -> Prop}
theorem aM.big (I : aM X pins σ H s) : sysModules < s.heap.objs.size := by
  have h : mainGlobals < s.heap.objs.size := (I.mod.glob.keeps I.bk).lt;exact Nat.lt_trans (by decide) h
theorem wX {Q : Value -> Shared -> Prop} (hu : A.units + 1 < cLine) (I : aM X pins σ H s) (g : nY H a y (some v)) (ry : bA y u) (h : ∀ w' s', aM X pins σ H s' -> bA v w' -> Q w' s') :
    wpAny (model X.prog X.w) A (getItem (.ref a) u) Q E s := by
  rcases g with ⟨kvs, k, e, ey, l⟩ | ⟨kvs, k, b, e, ey, eb, l⟩
  · subst ey;obtain ⟨z, hd, vs, rel, dd⟩ := n6 I.hok e;obtain ⟨w', hw, rw'⟩ := mr.some_of (v := v) (o := valueAt vs k) (by rw [l]; exact rel.val k);exact wpAny_getItem_of (sQ ry) dd.mapOf hw (h w' _ (I.tok _) rw')
  · subst ey;cases (show u = Value.ref b from ry);obtain ⟨z, hd, xs, rel, dd⟩ := sL I.hok e;obtain ⟨w', hw, rw'⟩ := mr.some_of (v := v) (o := (atKey xs k).map (·.2)) (by rw [l]; exact rel.val k);obtain ⟨p, hp, hp2⟩ := Option.map_eq_some_iff.mp hw;refine wpAny_getItem_heap (tupleKind_room_in1 hu) (oG I.hok eb) dd hp ?_;rw [hp2];exact h w' _ (I.tok _) rw'
theorem Fg {Q : Value -> Shared -> Prop} (hu : A.units + 1 < cLine) (I : aM X pins σ H s) (g : nY H a y o) (ry : bA y u) (h : ∀ s', aM X pins σ H s' -> Q (.bool o.isSome) s') :
    wpAny (model X.prog X.w) A (compareOp .In u (.ref a)) Q E s := by
  rcases g with ⟨kvs, k, e, ey, l⟩ | ⟨kvs, k, b, e, ey, eb, l⟩
  · subst ey;obtain ⟨z, hd, vs, rel, dd⟩ := n6 I.hok e;refine wpAny_in_of (sQ ry) hd dd.mapOf ?_;rw [<- (rel.val k).isSome_eq, <- l];exact h _ (I.tok _)
  · subst ey;cases (show u = Value.ref b from ry);obtain ⟨z, hd, xs, rel, dd⟩ := sL I.hok e;refine wpAny_in_heap (tupleKind_room_in1 hu) (oG I.hok eb) hd dd ?_;have q := (rel.val k).isSome_eq;rw [Option.isSome_map] at q;rw [<- q, <- l];exact h _ (I.tok _)
theorem Ao {Q : Value -> Shared -> Prop} (hu : A.units + 1 < cLine) (I : aM X pins σ H s) (g : nY H a y o) (ry : bA y u) (h : ∀ s', aM X pins σ H s' -> Q (.bool (!o.isSome)) s') :
    wpAny (model X.prog X.w) A (compareOp .NotIn u (.ref a)) Q E s := by
  rcases g with ⟨kvs, k, e, ey, l⟩ | ⟨kvs, k, b, e, ey, eb, l⟩
  · subst ey;obtain ⟨z, hd, vs, rel, dd⟩ := n6 I.hok e;refine wpAny_notIn_of (sQ ry) hd dd.mapOf ?_;rw [<- (rel.val k).isSome_eq, <- l];exact h _ (I.tok _)
  · subst ey;cases (show u = Value.ref b from ry);obtain ⟨z, hd, xs, rel, dd⟩ := sL I.hok e;refine wpAny_notIn_heap (tupleKind_room_in1 hu) (oG I.hok eb) hd dd ?_;have q := (rel.val k).isSome_eq;rw [Option.isSome_map] at q;rw [<- q, <- l];exact h _ (I.tok _)
theorem vb {h' : Heap} {t' : Nat} {ob : HO} (I : aM X pins σ H s) (mu : Ef (H a)) (hs : Heap.SameBut a s.heap h') (he : ∃ q, h'.get? a = some q) (new : bR X.prog X.w (cm H a ob) h' a ob) :
    aM X pins σ (cm H a ob) { s with heap := h', toks := t' } :=
  I.write (x := a) (e := a) mu (.inl rfl) (fun b q hb z => (hs.2 b hb).trans z) he new
theorem B0 {P : Program} {w : World} {H' : Hp} {h' : Heap} {kvs : List (cS × V)} {vs : List (cS × Value)} (z : kvs.length <= sizeLine) (hd : (a == sysModules) = false) (rel : KV kvs vs) (dd : h'.DictOf (dc P w) a vs) :
    bR P w H' h' a (.dK kvs) := ⟨z, hd, vs, rel, dd⟩
theorem vV {H' : Hp} {Q : Unit -> Shared -> Prop} (hu : A.units + 1 < cLine) (I : aM X pins σ H s) (g : ua H a y v H') (ry : bA y u) (rv : bA v r) (h : ∀ s', aM X pins σ H' s' -> Q () s') :
    wpAny (model X.prog X.w) A (setItem (.ref a) u r) Q E s := by
  rcases g with ⟨kvs, k, e, ey, l, eH⟩ | ⟨kvs, k, b, e, ey, eb, l, eH⟩
  · subst ey eH;obtain ⟨z, hd, vs, rel, dd⟩ := Dj I.hok e;have hz : vs.length <= sizeLine := by rw [<- rel.length]; exact z
    have hl : (kW kvs k v).length <= sizeLine := by have := mS kvs k v; omega
    refine wpAny_setItem_pairs (hsz := hz) (sQ ry) dd fun h' dd' hs => h _ ?_
    have he : ∃ q, h'.get? a = some q := let ⟨q, _, _, hq, _⟩ := dd'; ⟨q, hq⟩
    exact vb I (by rw [e]; exact True.intro) hs he (B0 hl hd (rel.put k rv) dd')
  · subst ey eH;cases (show u = Value.ref b from ry);obtain ⟨z, hd, xs, rel, dd⟩ := Dw I.hok e;have hz : xs.length <= sizeLine := by rw [<- Paired.length rel]; exact z
    have hl : (kW kvs k v).length <= sizeLine := by have := mS kvs k v; omega
    refine wpAny_setItem_heap (hsz := hz) (tupleKind_room_in1 hu) (oG I.hok eb) dd fun h' dd' hs => h _ ?_
    obtain ⟨q, es, ep, hq, h2, h3, h4, _, h5⟩ := dd';refine vb I (by rw [e]; exact True.intro) hs ⟨q, hq⟩ ⟨hl, hd, _, (rel.put k eb rv).keeps fun c ys ec => ?_, q, es, ep, hq, h2, h3, h4, h5⟩;rw [au (Df ec e (fun z => nomatch z))];exact ec
end
section
variable {X : Cx} {pins : List (Addr × Obj)} {σ : St} {H : Hp} {s : Shared} {a : Addr} {kvs : List (cS × V)} {k : cS} {u : Value} {A : Around} {E : Value -> Shared -> Prop}
theorem Du {Q : Value -> Shared -> Prop} (I : aM X pins σ H s) (e : Rd H a (.dK kvs)) (h : ∀ t s', aM X pins σ H s' -> Q (.int kvs.length t) s') : wpAny (model X.prog X.w) A (call (.builtin "len") [.ref a]) Q E s := by
  obtain ⟨z, hd, vs, rel, dd⟩ := n6 I.hok e;refine call_len_dict hd dd (by rw [<- rel.length]; rw [sizeLine_eq] at z; omega) ?_;rw [<- rel.length];exact h _ _ (I.tok _)
end
theorem sA {X : Cx} {pins : List (Addr × Obj)} {σ : St} {H : Hp} {s : Shared} {a : Addr} {y : V} {o : Option V} (I : aM X pins σ H s) (g : nY H a y o) : s.TypeIs (.ref a) "dict" := by
  rcases g with ⟨kvs, k, e, _, _⟩ | ⟨kvs, k, b, e, _, _, _⟩
  · obtain ⟨_, _, vs, _, dd⟩ := n6 I.hok e;exact dd.typeIs
  · obtain ⟨_, _, xs, _, dd⟩ := sL I.hok e;exact dd.typeIs
def Do (td ty tv : TE) : TS := fun D σ H => tv σ H fun v H1 => td σ H1 fun x H2 => ty σ H2 fun y H3 => ∃ a H4, x = .ref a /\ ua H3 a y v H4 /\ D.nx σ H4
section
variable {X : Cx} {o i e value : Expr} {pos pos' tpos : Pos} {td ty tv : TE}
theorem AG (hu : X.A.units + 1 < cLine) (ho : PE X o td) (hi : PE X i ty) (hv : PE X value tv) (hs : swapsWith value (some (.Subscript o i pos')) pos.line X.env = pure false) :
    PS X (.Assign [.Subscript o i pos'] value pos) (Do td ty tv) := by
  intro pins s σ H D I h;refine wpAny_Assign_Subscript (cQ (hv pins s σ H _ I h) fun r s1 ⟨v, H1, I1, rv, q1⟩ => cQ (ho pins s1 σ H1 _ I1 q1) fun u s2 ⟨x, H2, I2, rx, q2⟩ => cQ (hi pins s2 σ H2 _ I2 q2) fun iv s3 ⟨y, H3, I3, ry, a, H4, ex, g, q3⟩ => ?_) hs;subst ex;obtain rfl : u = Value.ref a := rx;exact vV hu I3 g ry rv fun s4 I4 => ⟨σ, H4, I4, q3⟩
end
theorem xK {P : Program} {w : World} {H : Hp} (h : Heap) (hb : sysModules < h.objs.size) : bR P w H (h.push { cls := .type "dict", data := .dict #[] }) h.objs.size (.dK []) :=
  ⟨Nat.zero_le _, beq_eq_false_iff_ne.mpr (Ne.symm (Nat.ne_of_lt hb)), [], .nil, Heap.DictOf.new h⟩
def BY : TE := fun _ H Q => ∀ p, H p = none -> Q (.ref p) (cm H p (.dK []))
section
variable {X : Cx} {pos : Pos}
theorem yG : PE X (.Dict [] [] pos) BY := fun pins s σ H Q I h =>
  wpAny_Dict_empty ⟨.ref s.heap.objs.size, _, I.laid (a := s.heap.objs.size) (o := .dK []) (t' := s.toks) (fun _ _ q => Heap.get?_push_of_some _ q) (Nat.le_refl _) (xK s.heap I.big), rfl, h _ (I.hok.fresh (Nat.le_refl _))⟩
end
end L2
set_option maxHeartbeats 4000000
namespace D2
open PySem PySem.Spec PyProof.Rows L2
def sk (base : Heap) (l : List Env) (e : Addr) (cls a0 : Value) (h : Heap) : Prop := base.StaysIn h /\ base.get? e = none /\ h.FunFrames base l /\ ∃ fl, h.TracedAtW base e cls a0 fl
theorem sk.of {base h : Heap} {l : List Env} {e : Addr} {cls a0 : Value} (x : Heap.FlyingW base l e cls a0 h) : sk base l e cls a0 h := ⟨x.1, x.2.1, x.2.2.1, .none, x.2.2.2⟩
section
variable {M : Model} {A : Around} {E : Value -> Shared -> Prop} {s : Shared} {base : Heap} {l : List Env} {env : Env} {outer : List Env} {L e : Addr} {cls a0 : Value} {Q : Unit -> Shared -> Prop}
theorem AC {h : Heap} : h.UpToSlots h := fun b o hb _ => ⟨o.slots, hb⟩
theorem sg (hfr : A.frames = some (env :: outer)) (hf : env.frame = some L) (t : sk base (env :: outer) e cls a0 s.heap)
    (hQ : ∀ h', sk base (env :: outer) e cls a0 h' -> s.heap.UpToSlots h' -> Q () { s with heap := h' }) : wpAny M A (noteFrame (.ref e) env) Q E s := by
  have t' := t;obtain ⟨hkb, hen, hl, fl, oe, vs, T, oT, ts, he, ⟨hcls, h0⟩, hd, h1, hnT, hTe, hT, hdT, h3⟩ := t;subst hcls;unfold noteFrame;simp only [hf];refine wpAny_bind (wpAny_field he hd h1 ?_);rw [if_pos (show (Value.ref T != Value.none) = true from by simp)];refine wpAny_bind (wpAny_field hT hdT h3 ?_);by_cases hfl : (fl == rawInt L) = true
  · rw [if_pos hfl];exact wpAny_pure (hQ s.heap t' AC)
  · rw [if_neg hfl];refine wpAny_bind (wpAny_setField hT hdT (Array.getElem?_eq_some_iff.mp h3).1 ?_);have other : ∀ b, b ≠ T -> (s.heap.update T (Obj.mapFields (·.setIfInBounds 3 Value.none))).get? b = s.heap.get? b := fun b hb => Heap.get?_update_other _ _ (Ne.symm hb)
    have noRecord : ∀ b o, s.heap.get? b = some o -> (∀ vs, o.data ≠ .fields vs) -> b ≠ T := fun b o hb hnf q => by
      rw [q, hT] at hb; injection hb with hb; subst hb; exact hnf ts hdT
    refine wpAny_entryW hfr (hl.of_keeps fun b o hb hnf => ⟨o, (other b (noRecord b o hb hnf)).trans hb, rfl⟩) hf ((other e (Ne.symm hTe)).trans he)
      (fun b o hbo => (other b fun q => by rw [q, hnT] at hbo; cases hbo).trans (hkb b o hbo)) hen hd (Array.getElem?_eq_some_iff.mp h1).1 h0
      fun h' ⟨x1, x2, x3, x4⟩ => hQ h' ⟨x1, hen, x2, _, x3⟩ fun b o hb hnf => x4 b o ((other b (noRecord b o hb hnf)).trans hb) hnf
theorem tx (f : Option Addr) (t : sk base l e cls a0 s.heap) (hQ : ∀ h', sk base l e cls a0 h' -> s.heap.UpToSlots h' -> Q () { s with heap := h' }) : wpAny M A (setFlight (.ref e) f) Q E s := by
  obtain ⟨hkb, hen, hl, fl, oe, vs, T, oT, ts, he, hcls, hd, h1, hnT, hTe, hT, hdT, h3⟩ := t;have hsz3 : 3 < ts.size := (Array.getElem?_eq_some_iff.mp h3).1;have other : ∀ b, b ≠ T -> (s.heap.update T (Obj.mapFields (·.setIfInBounds 3 (f.elim Value.none fun f => rawInt f)))).get? b = s.heap.get? b :=
    fun b hb => Heap.get?_update_other _ _ (Ne.symm hb)
  have noRecord : ∀ b o, s.heap.get? b = some o -> (∀ vs, o.data ≠ .fields vs) -> b ≠ T := fun b o hb hnf q => by
    rw [q, hT] at hb; injection hb with hb; subst hb; exact hnf ts hdT
  unfold setFlight;refine wpAny_bind (wpAny_field he hd h1 ?_);rw [if_pos (show (Value.ref T != Value.none) = true from by simp)];refine wpAny_setField hT hdT hsz3 (hQ _ ⟨fun b o hbo => (other b fun q => by rw [q, hnT] at hbo; cases hbo).trans (hkb b o hbo), hen,
    hl.of_keeps fun b o hb hnf => ⟨o, (other b (noRecord b o hb hnf)).trans hb, rfl⟩, (f.elim Value.none fun f => rawInt f), ?_⟩ fun b o hb hnf => ⟨o.slots, (other b (noRecord b o hb hnf)).trans hb⟩)
  exact ⟨oe, vs, T, _, _, (other e (Ne.symm hTe)).trans he, hcls, hd, h1, hnT, hTe, Heap.get?_update_self _ hT (Obj.isFreed_of_fields (Obj.data_mapFields hdT _)), Obj.data_mapFields hdT _, by simp [hsz3]⟩
theorem xu (t : sk base l e cls a0 s.heap) (hQ : ∀ h', Heap.FlyingW base l e cls a0 h' -> s.heap.UpToSlots h' -> Q () { s with heap := h' }) : wpAny M A (setFlight (.ref e) none) Q E s := by
  obtain ⟨hkb, hen, hl, fl, ht⟩ := t;exact wpAny_setFlight_noneW hkb hl ht fun h' k1 k2 k3 k4 => hQ h' ⟨k1, hen, k2, k3⟩ fun b o hb hn => ⟨o.slots, k4 b o hb hn⟩
theorem vW (hfr : A.frames = some (env :: outer)) (hf : env.frame = some L) (t : sk base (env :: outer) e cls a0 s.heap)
    (hQ : ∀ h', Heap.FlyingW base outer e cls a0 h' -> s.heap.UpToSlots h' -> Q () { s with heap := h' }) : wpAny M A (leaving env (.ref e)) Q E s := by
  unfold leaving;refine wpAny_bind (sg hfr hf t fun h1 t1 u1 => ?_);refine xu (s := { s with heap := h1 }) t1 fun h2 t2 u2 => ?_
  obtain ⟨k1, k2, ⟨_, _, k3⟩, k4⟩ := t2;exact hQ h2 ⟨k1, k2, k3, k4⟩ (u1.trans u2)
theorem yw {α : Type} {k : Value -> Sem α} {Q : α -> Shared -> Prop} (t : sk base l e cls a0 s.heap) (hQ : ∀ T, wpAny M A (k (.ref T)) Q E s) : wpAny M A (field (.ref e) 1 >>= k) Q E s := by
  obtain ⟨hkb, hen, hl, fl, oe, vs, T, oT, ts, he, hcls, hd, h1, r⟩ := t;exact wpAny_bind (wpAny_field he hd h1 (hQ T))
theorem yU {α : Type} {what : String} {Q : α -> Shared -> Prop} (t : sk base l e cls a0 s.heap) (hQ : ∀ h', sk base l e cls a0 h' -> s.heap.UpToSlots h' -> E (.ref e) { s with heap := h' }) : wpAny M A (PySem.passOn what (.ref e) env : Sem α) Q E s := by
  unfold PySem.passOn;refine yw t fun T => ?_
  rw [if_neg (show ¬ ((Value.ref T == Value.none) = true) from by simp)];refine wpAny_bind (tx _ t fun h' t' u => ?_);exact wpAny_throw (hQ h' t' u)
theorem sk.first {h : Heap} (x : sk base l e cls a0 h) : ∃ oe vs, h.get? e = some oe /\ oe.cls = cls /\ oe.data = .fields vs /\ vs[0]? = some a0 :=
  let ⟨_, _, _, _, oe, vs, _, _, _, he, hc, hd, _⟩ := x; ⟨oe, vs, he, hc.1, hd, hc.2⟩
end
abbrev St := L2.St
abbrev aM := @L2.aM
def fW : cS -> PyData
  | .inl i => .int i
  | .inr x => .str x
mutual
def Rp (H : Hp) : PyData -> V -> Prop
  | .none, v => v = .non
  | .bool b, v => v = .bl b
  | .int i, v => v = .int i
  | .str x, v => v = .str x
  | .tuple ds, v => ∃ a vs, v = .ref a /\ H a = some (.tup vs) /\ bu H ds vs
  | .list ds, v => ∃ a o vs, v = .ref a /\ H a = some (.frz o (.lst vs)) /\ bu H ds vs
  | .dict kvs, v => (∃ a o ks, v = .ref a /\ H a = some (.frz o (.dK ks)) /\ eh H kvs ks) \/ ∃ a o C dx fs, v = .ref a /\ H a = some (.frz o (.ins C dx fs)) /\ xl H C fs kvs
def bu (H : Hp) : List PyData -> List V -> Prop
  | [], vs => vs = []
  | d :: ds, vs => ∃ v r, vs = v :: r /\ Rp H d v /\ bu H ds r
def eh (H : Hp) : List (PyData × PyData) -> List (cS × V) -> Prop
  | [], ks => ks = []
  | kd :: kvs, ks => ∃ x v r, ks = (x, v) :: r /\ zu H kd x v /\ eh H kvs r
def zu (H : Hp) : PyData × PyData -> cS -> V -> Prop
  | (k, d), x, v => k = fW x /\ Rp H d v
def xl (H : Hp) (C : Addr) (fs : List (Str × V)) : List (PyData × PyData) -> Prop
  | [] => False
  | kd :: kvs => kd = (.none, .int C) /\ sX H kvs fs
def sX (H : Hp) : List (PyData × PyData) -> List (Str × V) -> Prop
  | [], fs => fs = []
  | kd :: kvs, fs => ∃ x v r, fs = (x, v) :: r /\ Bn H kd x v /\ sX H kvs r
def Bn (H : Hp) : PyData × PyData -> Str -> V -> Prop
  | (k, d), x, v => k = .str x /\ Rp H d v
end
def pP : List (PyData × PyData) -> Bool
  | (.none, _) :: _ => true
  | _ => false
def Kp (H H' : Hp) : Prop := (∀ b xs, H b = some (.tup xs) -> H' b = some (.tup xs)) /\ ∀ b o u, H b = some (.frz o u) -> H' b = some (.frz o u)
theorem Kp.trans {H H1 H2 : Hp} (a : Kp H H1) (b : Kp H1 H2) : Kp H H2 := ⟨fun c xs h => b.1 c xs (a.1 c xs h), fun c o u h => b.2 c o u (a.2 c o u h)⟩
theorem Kp.of {H H' : Hp} (s : aE H H') : Kp H H' := ⟨fun b xs h => s b _ h, fun b o u h => s b _ h⟩
mutual
theorem Rp.kp {H H' : Hp} (k : Kp H H') : ∀ (d : PyData) (v : V), Rp H d v -> Rp H' d v
  | .none, v, h => by simpa only [Rp] using h
  | .bool b, v, h => by simpa only [Rp] using h
  | .int i, v, h => by simpa only [Rp] using h
  | .str x, v, h => by simpa only [Rp] using h
  | .tuple ds, v, h => by
    simp only [Rp] at h ⊢;obtain ⟨a, vs, e, ha, r⟩ := h;exact ⟨a, vs, e, k.1 _ _ ha, bu.kp k ds vs r⟩
  | .list ds, v, h => by
    simp only [Rp] at h ⊢;obtain ⟨a, o, vs, e, ha, r⟩ := h;exact ⟨a, o, vs, e, k.2 _ _ _ ha, bu.kp k ds vs r⟩
  | .dict kvs, v, h => by
    simp only [Rp] at h ⊢;rcases h with ⟨a, o, ks, e, ha, r⟩ | ⟨a, o, C, dx, fs, e, ha, r⟩
    · exact .inl ⟨a, o, ks, e, k.2 _ _ _ ha, eh.kp k kvs ks r⟩
    · exact .inr ⟨a, o, C, dx, fs, e, k.2 _ _ _ ha, xl.kp k C fs kvs r⟩
theorem bu.kp {H H' : Hp} (k : Kp H H') : ∀ (ds : List PyData) (vs : List V), bu H ds vs -> bu H' ds vs
  | [], vs, h => by simpa only [bu] using h
  | d :: ds, vs, h => by
    simp only [bu] at h ⊢;obtain ⟨v, r, e, h1, h2⟩ := h;exact ⟨v, r, e, Rp.kp k d v h1, bu.kp k ds r h2⟩
theorem eh.kp {H H' : Hp} (k : Kp H H') : ∀ (kvs : List (PyData × PyData)) (ks : List (cS × V)), eh H kvs ks -> eh H' kvs ks
  | [], ks, h => by simpa only [eh] using h
  | kd :: kvs, ks, h => by
    simp only [eh] at h ⊢;obtain ⟨x, v, r, e, h1, h2⟩ := h;exact ⟨x, v, r, e, zu.kp k kd x v h1, eh.kp k kvs r h2⟩
theorem zu.kp {H H' : Hp} (k : Kp H H') : ∀ (kd : PyData × PyData) (x : cS) (v : V), zu H kd x v -> zu H' kd x v
  | (c, d), x, v, h => by
    simp only [zu] at h ⊢;exact ⟨h.1, Rp.kp k d v h.2⟩
theorem xl.kp {H H' : Hp} (k : Kp H H') (C : Addr) (fs : List (Str × V)) : ∀ (kvs : List (PyData × PyData)), xl H C fs kvs -> xl H' C fs kvs
  | [], h => by simpa only [xl] using h
  | kd :: kvs, h => by
    simp only [xl] at h ⊢;exact ⟨h.1, sX.kp k kvs fs h.2⟩
theorem sX.kp {H H' : Hp} (k : Kp H H') : ∀ (kvs : List (PyData × PyData)) (fs : List (Str × V)), sX H kvs fs -> sX H' kvs fs
  | [], fs, h => by simpa only [sX] using h
  | kd :: kvs, fs, h => by
    simp only [sX] at h ⊢;obtain ⟨x, v, r, e, h1, h2⟩ := h;exact ⟨x, v, r, e, Bn.kp k kd x v h1, sX.kp k kvs r h2⟩
theorem Bn.kp {H H' : Hp} (k : Kp H H') : ∀ (kd : PyData × PyData) (x : Str) (v : V), Bn H kd x v -> Bn H' kd x v
  | (c, d), x, v, h => by
    simp only [Bn] at h ⊢;exact ⟨h.1, Rp.kp k d v h.2⟩
end
theorem Rp.mono {H H' : Hp} {d : PyData} {v : V} (h : Rp H d v) (s : aE H H') : Rp H' d v := Rp.kp (Kp.of s) d v h
theorem bu.mono {H H' : Hp} {ds : List PyData} {vs : List V} (h : bu H ds vs) (s : aE H H') : bu H' ds vs := bu.kp (Kp.of s) ds vs h
def ja (H : Hp) : PyData -> V -> Prop
  | .list ds, v => ∃ a vs, v = .ref a /\ H a = some (.lst vs) /\ bu H ds vs
  | .dict kvs, v => ∃ a ks, v = .ref a /\ H a = some (.dK ks) /\ eh H kvs ks
  | _, _ => False
theorem ja.mono {H H' : Hp} {d : PyData} {v : V} (h : ja H d v) (s : aE H H') : ja H' d v := by
  cases d <;> simp only [ja] at h ⊢
  · obtain ⟨a, vs, e, ha, r⟩ := h;exact ⟨a, vs, e, s _ _ ha, bu.mono r s⟩
  · obtain ⟨a, vs, e, ha, r⟩ := h;exact ⟨a, vs, e, s _ _ ha, eh.kp (Kp.of s) _ _ r⟩
def ig (H : Hp) (d : PyData) (v : V) : Prop := Rp H d v \/ ja H d v
theorem ig.mono {H H' : Hp} {d : PyData} {v : V} (h : ig H d v) (s : aE H H') : ig H' d v := h.elim (fun h => .inl (h.mono s)) fun h => .inr (h.mono s)
def CU (H H' : Hp) (d : PyData) (v : V) : Prop := ja H' d v /\ ∃ a, v = .ref a /\ H a = none
inductive ba where
  | non
  | val (d : PyData)
  | own (d : PyData)
  | exc (p : Addr)
abbrev aN := List ba
def jr (H : Hp) : ba -> Option V -> Prop
  | .non, _ => True
  | .val d, o => ∃ v, o = some v /\ Rp H d v
  | .own d, o => ∃ v, o = some v /\ ja H d v
  | .exc p, o => o = some (.ref p)
def Sl (H : Hp) (σ : St) (ρ : aN) : Prop := σ.length = ρ.length /\ ∀ (i : Nat) (c : ba) (o : Option V), ρ[i]? = some c -> σ[i]? = some o -> jr H c o
theorem jr.mono {H H' : Hp} {c : ba} {o : Option V} (h : jr H c o) (s : aE H H') : jr H' c o := by
  cases c <;> simp only [jr] at h ⊢
  · obtain ⟨v, e, h⟩ := h; exact ⟨v, e, h.mono s⟩
  · obtain ⟨v, e, h⟩ := h; exact ⟨v, e, h.mono s⟩
  · exact h
theorem Sl.mono {H H' : Hp} {σ : St} {ρ : aN} (h : Sl H σ ρ) (s : aE H H') : Sl H' σ ρ := ⟨h.1, fun i c o h1 h2 => (h.2 i c o h1 h2).mono s⟩
inductive R (α : Type) where
  | ok (a : α)
  | ex (c : Str)
  | no
def R.bind {α β : Type} : R α -> (α -> R β) -> R β
  | .ok a, f => f a
  | .ex c, _ => .ex c
  | .no, _ => .no
instance : Monad R where
  pure := .ok
  bind := R.bind
@[simp] theorem R.ok_bind {α β : Type} (a : α) (f : α -> R β) : (R.ok a >>= f) = f a := (rfl)
structure CM (P : Program) (w : World) (outer : List Env) (H : Hp) (s : Shared) (C : Addr) (H' : Hp) (e : Value) (s' : Shared) : Prop where
  os : s'.os = s.os
  bare : AllBare s'.gens
  same : aE H H'
  ex : ∃ (p : Addr) (a0 : Value) (B : Heap), e = .ref p /\ Heap.FlyingW B outer p (.ref C) a0 s'.heap /\ ir P w H' B /\ H' p = none /\ ∀ b o, s.heap.get? b = some o -> H b = none -> b ∉ lJ outer -> B.get? b = some o /\ H' b = none
  slot : ∀ b o, s.heap.get? b = some o -> H b = none -> b ∈ lJ outer -> (∃ sl, s'.heap.get? b = some { o with slots := sl }) /\ H' b = none
structure qh (P : Program) (w : World) (outer : List Env) (H : Hp) (s : Shared) (C : Addr) (H' : Hp) (e : Value) (s' : Shared) : Prop where
  os : s'.os = s.os
  bare : AllBare s'.gens
  same : aE H H'
  ex : ∃ (p : Addr) (a0 : Value) (B : Heap), e = .ref p /\ sk B outer p (.ref C) a0 s'.heap /\ ir P w H' B /\ H' p = none /\ ∀ b o, s.heap.get? b = some o -> H b = none -> b ∉ lJ outer -> B.get? b = some o /\ H' b = none
  slot : ∀ b o, s.heap.get? b = some o -> H b = none -> b ∈ lJ outer -> (∃ sl, s'.heap.get? b = some { o with slots := sl }) /\ H' b = none
theorem CM.hld {P : Program} {w : World} {outer : List Env} {H : Hp} {s : Shared} {C : Addr} {H' : Hp} {e : Value} {s' : Shared} (f : CM P w outer H s C H' e s') : qh P w outer H s C H' e s' :=
  ⟨f.os, f.bare, f.same, let ⟨p, a0, B, h1, h2, h3⟩ := f.ex; ⟨p, a0, B, h1, sk.of h2, h3⟩, f.slot⟩
def cI (P : Program) (w : World) (mg : Str -> Option Value) : xj := fun outer H s E e s' => ∃ n C H', mg n = some (.ref C) /\ CM P w outer H s C H' e s' /\ E (.str n 0) none H'
def EX (X : Cx) : XK := fun v _ H' => ∀ (n : Str) (C : Addr), v = .str n 0 -> X.mg n = some (.ref C) -> ∀ (pins : List (Addr × Obj)) (σ : St) (H : Hp) (s : Shared) (e : Value) (s' : Shared), aM X pins σ H s -> CM X.prog X.w X.stack H s C H' e s' -> X.xe e s'
theorem vJ {X : Cx} : pb (cI X.prog X.w X.mg) X (EX X) := fun pins σ H s e s' I ⟨n, C, H', hm, f, q⟩ => q n C rfl hm pins σ H s e s' I f
def Xw (X : Cx) (c : Str) (H : Hp) : Prop := ∀ H1, aE H H1 -> ∀ (C : Addr), X.mg c = some (.ref C) -> ∀ (pins : List (Addr × Obj)) (σ : St) (Hc : Hp) (s : Shared) (e : Value) (s' : Shared), aM X pins σ Hc s -> qh X.prog X.w X.stack Hc s C H1 e s' -> X.xe e s'
theorem Xw.mono {X : Cx} {c : Str} {H H' : Hp} (h : Xw X c H) (s : aE H H') : Xw X c H' := fun H1 s1 => h H1 (s.trans s1)
theorem Xw.ex {X : Cx} {c : Str} {H : Hp} (h : Xw X c H) : ∀ H1, aE H H1 -> EX X (.str c 0) none H1 := fun H1 s1 n C en hm pins σ Hc s e s' I f => by
  have en' : c = n := by injection en
  subst en';exact h H1 s1 C hm pins σ Hc s e s' I f.hld
def DF (X : Cx) (c : Str) (Fm : Hp) : Prop := ∀ C, X.mg c = some (.ref C) -> ∀ (pins : List (Addr × Obj)) (σ : St) (H : Hp) (s : Shared), aE Fm H -> aM X pins σ H s -> ∀ (h' : Heap) (p : Addr) (vs : List Value), Heap.MadeExcOf s.heap h' p (.ref C) vs -> X.xe (.ref p) { s with heap := h' }
theorem DF.mono {X : Cx} {c : Str} {H H' : Hp} (h : DF X c H) (s : aE H H') : DF X c H' := fun C hm pins σ H1 s1 e => h C hm pins σ H1 s1 (s.trans e)
def tP (X : Cx) (P : Hp -> Hp -> PyData -> V -> Prop) (r : R PyData) (H : Hp) (Q : VK) : Prop :=
  match r with
  | .ok d => ∀ v H', aE H H' -> P H H' d v -> Q v H'
  | .ex c => Xw X c H
  | .no => False
abbrev gQ : Hp -> Hp -> PyData -> V -> Prop := fun _ H' d v => Rp H' d v
abbrev vU : Hp -> Hp -> PyData -> V -> Prop := fun _ H' d v => ig H' d v
abbrev El : Hp -> Hp -> PyData -> V -> Prop := fun H H' d v => Rp H' d v \/ CU H H' d v
abbrev Fe := aN -> R PyData
def ki (X : Cx) (P : Hp -> Hp -> PyData -> V -> Prop) (f : Fe) : TE := fun σ H Q => ∃ ρ, Sl H σ ρ /\ tP X P (f ρ) H Q
def ai (X : Cx) (e : Expr) (f : Fe) : Prop := PE X e (ki X gQ f)
structure Z.ai (X : Cx) (e : Expr) (f : Fe) : Prop where
  un : D2.ai X e f
def bK (X : Cx) (e : Expr) (f : Fe) : Prop := PE X e (ki X vU f)
structure Z.bK (X : Cx) (e : Expr) (f : Fe) : Prop where
  un : D2.bK X e f
def zA (X : Cx) (e : Expr) (f : Fe) : Prop := PE X e (ki X El f)
structure Z.zA (X : Cx) (e : Expr) (f : Fe) : Prop where
  un : D2.zA X e f
def gg (X : Cx) (e : Expr) (f : Fe) : Prop := PE X e (ki X CU f)
structure Z.gg (X : Cx) (e : Expr) (f : Fe) : Prop where
  un : D2.gg X e f
def RA (I : Hp -> PyData -> V -> Prop) (H : Hp) : List PyData -> List V -> Prop
  | [], vs => vs = []
  | d :: ds, vs => ∃ v r, vs = v :: r /\ I H d v /\ RA I H ds r
theorem o7 {H : Hp} : ∀ {ds : List PyData} {vs : List V}, RA Rp H ds vs <-> bu H ds vs
  | [], vs => by simp only [RA, bu]
  | d :: ds, vs => by simp only [RA, bu, o7 (ds := ds)]
def x9 (X : Cx) (I : Hp -> PyData -> V -> Prop) (f : aN -> R (List PyData)) : TA := fun σ H Q => ∃ ρ, Sl H σ ρ /\ match f ρ with
  | .ok ds => ∀ vs H', aE H H' -> RA I H' ds vs -> Q vs H'
  | .ex c => Xw X c H
  | .no => False
def pk (X : Cx) (es : List Expr) (f : aN -> R (List PyData)) : Prop := PA X es (x9 X Rp f)
structure Z.pk (X : Cx) (es : List Expr) (f : aN -> R (List PyData)) : Prop where
  un : D2.pk X es f
def Cz (X : Cx) (es : List Expr) (f : aN -> R (List PyData)) : Prop := PA X es (x9 X ig f)
def zM (X : Cx) (f : aN -> R Bool) : TT := fun σ H Q => ∃ ρ, Sl H σ ρ /\ match f ρ with
  | .ok b => ∀ H', aE H H' -> Q b H'
  | .ex c => Xw X c H
  | .no => False
def hZ (X : Cx) (e : Expr) (f : aN -> R Bool) : Prop := PT X e (zM X f)
structure Z.hZ (X : Cx) (e : Expr) (f : aN -> R Bool) : Prop where
  un : D2.hZ X e f
def l9 (X : Cx) (e : Expr) (f : aN -> R Bool) : Prop := PW X e (zM X f)
structure Z.l9 (X : Cx) (e : Expr) (f : aN -> R Bool) : Prop where
  un : D2.l9 X e f
theorem PE.imp {X : Cx} {e : Expr} {t t' : TE} (h : PE X e t) (i : ∀ σ H Q, t' σ H Q -> t σ H Q) : PE X e t' := fun pins s σ H Q I q => h pins s σ H Q I (i σ H Q q)
theorem PT.imp {X : Cx} {e : Expr} {t t' : TT} (h : PT X e t) (i : ∀ σ H Q, t' σ H Q -> t σ H Q) : PT X e t' := fun pins s σ H Q I q => h pins s σ H Q I (i σ H Q q)
theorem PW.imp {X : Cx} {e : Expr} {t t' : TT} (h : PW X e t) (i : ∀ σ H Q, t' σ H Q -> t σ H Q) : PW X e t' := fun wh pins s σ H Q I q => h wh pins s σ H Q I (i σ H Q q)
theorem PA.imp {X : Cx} {e : List Expr} {t t' : TA} (h : PA X e t) (i : ∀ σ H Q, t' σ H Q -> t σ H Q) : PA X e t' := fun pos pins s σ H Q I q => h pos pins s σ H Q I (i σ H Q q)
theorem ki.post {X : Cx} {P : Hp -> Hp -> PyData -> V -> Prop} {f : Fe} {σ : St} {H : Hp} {Q Q' : VK} (h : ki X P f σ H Q) (i : ∀ v H', Q v H' -> Q' v H') : ki X P f σ H Q' := by
  obtain ⟨ρ, sl, q⟩ := h;refine ⟨ρ, sl, ?_⟩;cases e : f ρ with
  | ok d => rw [e] at q; exact fun v H' s p => i _ _ (q v H' s p)
  | ex c => rw [e] at q; exact q
  | no => rw [e] at q; exact q
theorem zM.post {X : Cx} {f : aN -> R Bool} {σ : St} {H : Hp} {Q Q' : Bool -> Hp -> Prop} (h : zM X f σ H Q) (i : ∀ b H', Q b H' -> Q' b H') : zM X f σ H Q' := by
  obtain ⟨ρ, sl, q⟩ := h;refine ⟨ρ, sl, ?_⟩;cases e : f ρ with
  | ok d => rw [e] at q; exact fun H' s => i _ _ (q H' s)
  | ex c => rw [e] at q; exact q
  | no => rw [e] at q; exact q
theorem x9.post {X : Cx} {I : Hp -> PyData -> V -> Prop} {f : aN -> R (List PyData)} {σ : St} {H : Hp} {Q Q' : List V -> Hp -> Prop} (h : x9 X I f σ H Q) (i : ∀ vs H', Q vs H' -> Q' vs H') : x9 X I f σ H Q' := by
  obtain ⟨ρ, sl, q⟩ := h;refine ⟨ρ, sl, ?_⟩;cases e : f ρ with
  | ok d => rw [e] at q; exact fun vs H' s p => i _ _ (q vs H' s p)
  | ex c => rw [e] at q; exact q
  | no => rw [e] at q; exact q
theorem ki.weaken {X : Cx} {P P' : Hp -> Hp -> PyData -> V -> Prop} {f : Fe} (h : ∀ H H' d v, P H H' d v -> P' H H' d v) (σ : St) (H : Hp) (Q : VK) (q : ki X P' f σ H Q) : ki X P f σ H Q := by
  obtain ⟨ρ, sl, q⟩ := q;refine ⟨ρ, sl, ?_⟩;cases e : f ρ with
  | ok d => rw [e] at q; exact fun v H' s p => q v H' s (h _ _ _ _ p)
  | ex c => rw [e] at q; exact q
  | no => rw [e] at q; exact q
section
variable {X : Cx} {e : Expr} {f : Fe}
theorem ai.b (h : ai X e f) : bK X e f := PE.imp h (ki.weaken fun _ _ _ _ p => Or.inl p)
theorem Z.ai.b (h : Z.ai X e f) : Z.bK X e f :=
  ⟨D2.ai.b h.un⟩
theorem gg.b (h : gg X e f) : bK X e f := PE.imp h (ki.weaken fun _ _ _ _ p => Or.inr p.1)
theorem Z.gg.b (h : Z.gg X e f) : Z.bK X e f :=
  ⟨D2.gg.b h.un⟩
theorem gg.toF (h : gg X e f) : zA X e f := PE.imp h (ki.weaken fun _ _ _ _ p => Or.inr p)
end
section
variable {X : Cx} {pins : List (Addr × Obj)} {σ : St} {H : Hp} {s : Shared} {a : Addr} {u : HO}
theorem gz (I : aM X pins σ H s) (h : H a = some u) (hm : (∃ xs, u = .lst xs) \/ ∃ ks, u = .dK ks) : ∃ o, aM X pins σ (cm H a (.frz o u)) s := by
  have ob := I.hok a u h;have hg : ∃ o, s.heap.get? a = some o := by
    rcases hm with ⟨xs, rfl⟩ | ⟨ks, rfl⟩
    · obtain ⟨_, _, _, _, e⟩ := ob; exact ⟨_, e⟩
    · obtain ⟨_, _, _, _, o, _, _, e, _⟩ := ob; exact ⟨_, e⟩
  obtain ⟨o, hg⟩ := hg;have nt : ∀ b xs, H b = some (.tup xs) -> b ≠ a := fun b xs q z => by subst z; rw [h] at q; rcases hm with ⟨_, rfl⟩ | ⟨_, rfl⟩ <;> cases q
  have nf : ∀ b o' u', H b = some (.frz o' u') -> b ≠ a := fun b o' u' q z => by subst z; rw [h] at q; rcases hm with ⟨_, rfl⟩ | ⟨_, rfl⟩ <;> cases q
  have nb : ∀ b ps, H b = some (.tbl ps) -> b ≠ a := fun b ps q z => by subst z; rw [h] at q; rcases hm with ⟨_, rfl⟩ | ⟨_, rfl⟩ <;> cases q
  have nw : ∀ b y, H b = some (.own y) -> b ≠ a := fun b y q z => by subst z; rw [h] at q; rcases hm with ⟨_, rfl⟩ | ⟨_, rfl⟩ <;> cases q
  have nn : ∀ b, H b = none -> b ≠ a := fun b q z => by subst z; rw [h] at q; cases q
  have st : ∀ b x, bR X.prog X.w H s.heap b x -> bR X.prog X.w (cm H a (.frz o u)) s.heap b x := fun b x q =>
    q.stay (fun c v _ e => e) (fun c e => by rw [au (nw _ _ e)]; exact e) fun c xs e => by rw [au (nt _ _ e)]; exact e
  refine ⟨o, ⟨I.ok, I.os, I.bare, ⟨I.base.keep, I.base.slot, fun b ob' e n hx => ?_, I.base.there, fun b xs e => ?_, fun b ob' v e => ?_, fun b ps e => ?_⟩, I.loc, I.cell, ?_, fun x c e => ?_, fun p hp => ?_, fun b x e => ?_, I.len⟩⟩
  · have := I.base.free b ob' e n hx;rw [au (nn _ this)]; exact this
  · have := I.base.tups b xs e;rw [au (nt _ _ this)]; exact this
  · have := I.base.frzs b ob' v e;rw [au (nf _ _ _ this)]; exact this
  · obtain ⟨m, q⟩ := I.base.tbls b ps e;exact ⟨m, by rw [au (nb _ _ q)]; exact q⟩
  · rw [au (nn _ I.free)]; exact I.free
  · rw [au (nn _ (I.freeC x c e))]; exact I.freeC x c e
  · obtain ⟨p1, p2, p3⟩ := I.pin p hp;exact ⟨p1, by rw [au (nn _ p2)]; exact p2, p3⟩
  · by_cases hb : b = a
    · subst hb;rw [bd] at e; cases e;exact ⟨hg, st b u ob⟩
    · rw [au hb] at e;exact st b x (I.hok b x e)
theorem gG {o' : HO} (h : H a = some u) (hm : (∃ xs, u = .lst xs) \/ ∃ ks, u = .dK ks) : Kp H (cm H a o') := by
  refine ⟨fun b xs e => ?_, fun b o v e => ?_⟩
  · rw [au]; exact e;rintro rfl; rw [h] at e; rcases hm with ⟨_, rfl⟩ | ⟨_, rfl⟩ <;> cases e
  · rw [au]; exact e;rintro rfl; rw [h] at e; rcases hm with ⟨_, rfl⟩ | ⟨_, rfl⟩ <;> cases e
theorem Ca {H0 : Hp} {d : PyData} {v : V} (I : aM X pins σ H s) (hs : aE H0 H) (n : CU H0 H d v) : ∃ H', aM X pins σ H' s /\ aE H0 H' /\ Rp H' d v := by
  obtain ⟨n, a, rfl, h0⟩ := n;have go : ∀ u : HO, H a = some u -> ((∃ xs, u = .lst xs) \/ ∃ ks, u = .dK ks) -> ∃ o, aM X pins σ (cm H a (.frz o u)) s /\ aE H0 (cm H a (.frz o u)) /\ Kp H (cm H a (.frz o u)) := fun u hu hm => by
    obtain ⟨o, J⟩ := gz I hu hm;refine ⟨o, J, fun b x e => ?_, gG hu hm⟩;rw [au (aQ e h0)]; exact hs b x e
  cases d <;> simp only [ja] at n
  · obtain ⟨a', vs, e, ha, r⟩ := n;cases e;obtain ⟨o, J, S, K⟩ := go _ ha (.inl ⟨_, rfl⟩);refine ⟨_, J, S, ?_⟩;simp only [Rp];exact ⟨a, o, vs, rfl, bd, bu.kp K _ _ r⟩
  · obtain ⟨a', vs, e, ha, r⟩ := n;cases e;obtain ⟨o, J, S, K⟩ := go _ ha (.inr ⟨_, rfl⟩);refine ⟨_, J, S, ?_⟩;simp only [Rp];exact .inl ⟨a, o, vs, rfl, bd, eh.kp K _ _ r⟩
end
theorem zA.e {X : Cx} {e : Expr} {f : Fe} (h : zA X e f) : ai X e f := by
  intro pins s σ H Q I q;obtain ⟨ρ, sl, q⟩ := q;cases ef : f ρ with
  | ok d =>
    rw [ef] at q;refine cQ (h pins s σ H (fun v H' => aE H H' /\ El H H' d v) I ⟨ρ, sl, by rw [ef]; exact fun v H' hs p => ⟨hs, p⟩⟩) fun u s' ⟨v, H', I', r, hs, p⟩ => ?_
    rcases p with p | p
    · exact ⟨v, H', I', r, q v H' hs p⟩
    · obtain ⟨H2, I2, S2, p2⟩ := Ca I' hs p;exact ⟨v, H2, I2, r, q v H2 S2 p2⟩
  | ex c => rw [ef] at q; exact cQ (h pins s σ H (fun _ _ => False) I ⟨ρ, sl, by rw [ef]; exact q⟩) fun u s' ⟨v, H', I', r, z⟩ => z.elim
  | no => rw [ef] at q; exact q.elim
theorem Z.zA.e {X : Cx} {e : Expr} {f : Fe} (h : Z.zA X e f) : Z.ai X e f :=
  ⟨D2.zA.e h.un⟩
theorem gg.e {X : Cx} {e : Expr} {f : Fe} (h : gg X e f) : ai X e f := (gg.toF h).e
theorem Z.gg.e {X : Cx} {e : Expr} {f : Fe} (h : Z.gg X e f) : Z.ai X e f :=
  ⟨D2.gg.e h.un⟩
structure An {β : Type} (X : Cx) (T : R β -> Hp -> Prop) : Prop where
  mono : ∀ r H H', T r H -> aE H H' -> T r H'
  ex : ∀ c H, T (.ex c) H -> Xw X c H
  no : ∀ H, ¬ T .no H
def Dn (P : Hp -> Hp -> PyData -> V -> Prop) : Prop := ∀ H H1 H' d v, aE H H1 -> P H1 H' d v -> P H H' d v
theorem fR : Dn gQ := fun _ _ _ _ _ _ p => p
theorem zH : Dn CU := fun _ _ _ _ _ s p => ⟨p.1, let ⟨a, e, h⟩ := p.2; ⟨a, e, s.free h⟩⟩
theorem Ae : Dn El := fun _ _ _ _ _ s p => p.elim .inl fun p => .inr (zH _ _ _ _ _ s p)
section
variable {X : Cx} {σ : St} {H : Hp}
theorem eX {P : Hp -> Hp -> PyData -> V -> Prop} (hP : Dn P) (Q : VK) : An X (fun r H => tP X P r H Q) where
  mono := fun r H H' h s => by
    cases r with
    | ok d => exact fun v H2 s2 p => h v H2 (s.trans s2) (hP _ _ _ _ _ s p)
    | ex c => exact Xw.mono h s
    | no => exact h
  ex := fun c H h => h
  no := fun H h => h
theorem vC (Q : Bool -> Hp -> Prop) : An X (fun (r : R Bool) H => match r with | .ok b => ∀ H', aE H H' -> Q b H' | .ex c => Xw X c H | .no => False) where
  mono := fun r H H' h s => by
    cases r with
    | ok d => exact fun H2 s2 => h H2 (s.trans s2)
    | ex c => exact Xw.mono h s
    | no => exact h
  ex := fun c H h => h
  no := fun H h => h
theorem Br (I : Hp -> PyData -> V -> Prop) (Q : List V -> Hp -> Prop) : An X (fun (r : R (List PyData)) H => match r with | .ok ds => ∀ vs H', aE H H' -> RA I H' ds vs -> Q vs H' | .ex c => Xw X c H | .no => False) where
  mono := fun r H H' h s => by
    cases r with
    | ok d => exact fun vs H2 s2 => h vs H2 (s.trans s2)
    | ex c => exact Xw.mono h s
    | no => exact h
  ex := fun c H h => h
  no := fun H h => h
theorem eT {β : Type} {T : R β -> Hp -> Prop} (t : An X T) {P : Hp -> Hp -> PyData -> V -> Prop} {f : Fe} {k : aN -> PyData -> R β} (h : ∃ ρ, Sl H σ ρ /\ T (f ρ >>= k ρ) H) :
    ki X P f σ H (fun v H1 => ∃ ρ d, Sl H1 σ ρ /\ aE H H1 /\ P H H1 d v /\ T (k ρ d) H1) := by
  obtain ⟨ρ, sl, q⟩ := h;refine ⟨ρ, sl, ?_⟩;cases e : f ρ with
  | ok d => rw [e] at q; exact fun v H1 s p => ⟨ρ, d, sl.mono s, s, p, t.mono _ _ _ q s⟩
  | ex c => rw [e] at q; exact t.ex _ _ q
  | no => rw [e] at q; exact (t.no _ q).elim
theorem qr {β : Type} {T : R β -> Hp -> Prop} (t : An X T) {f : aN -> R Bool} {k : aN -> Bool -> R β} (h : ∃ ρ, Sl H σ ρ /\ T (f ρ >>= k ρ) H) :
    zM X f σ H (fun b H1 => ∃ ρ, Sl H1 σ ρ /\ aE H H1 /\ T (k ρ b) H1) := by
  obtain ⟨ρ, sl, q⟩ := h;refine ⟨ρ, sl, ?_⟩;cases e : f ρ with
  | ok d => rw [e] at q; exact fun H1 s => ⟨ρ, sl.mono s, s, t.mono _ _ _ q s⟩
  | ex c => rw [e] at q; exact t.ex _ _ q
  | no => rw [e] at q; exact (t.no _ q).elim
theorem ml {β : Type} {T : R β -> Hp -> Prop} (t : An X T) {I : Hp -> PyData -> V -> Prop} {f : aN -> R (List PyData)} {k : aN -> List PyData -> R β} (h : ∃ ρ, Sl H σ ρ /\ T (f ρ >>= k ρ) H) :
    x9 X I f σ H (fun vs H1 => ∃ ρ ds, Sl H1 σ ρ /\ aE H H1 /\ RA I H1 ds vs /\ T (k ρ ds) H1) := by
  obtain ⟨ρ, sl, q⟩ := h;refine ⟨ρ, sl, ?_⟩;cases e : f ρ with
  | ok d => rw [e] at q; exact fun vs H1 s p => ⟨ρ, d, sl.mono s, s, p, t.mono _ _ _ q s⟩
  | ex c => rw [e] at q; exact t.ex _ _ q
  | no => rw [e] at q; exact (t.no _ q).elim
end
def ad (i : Nat) : Fe := fun ρ => match ρ[i]? with
  | some (.val d) => .ok d
  | _ => .no
def cW (i : Nat) : Fe := fun ρ => match ρ[i]? with
  | some (.val d) => .ok d
  | some (.own d) => .ok d
  | _ => .no
def eC (d : PyData) : Fe := fun _ => .ok d
structure Tb (X : Cx) (nl : Nat) (G : List Str) : Prop where
  hu : X.A.units + 64 < cLine
  calm : X.calm = true
  nd : X.N.Nodup
  vis : ∀ x ∈ X.N, CK X.env.scope x /\ (x == ("__debug__" : Str)) = false /\ (x == ("__classdict__" : Str)) = false
  loc : ∀ x ∈ X.N.take nl, Bc X.env.scope x /\ (X.fn x = true \/ X.env.scope.names.lookup x = some .local)
  gl : ∀ x ∈ G, Gl X x /\ (x == ("__debug__" : Str)) = false /\ x ≠ ("__name__" : Str)
section
variable {X : Cx} {nl : Nat} {G : List Str} {x : Str} {pos : Pos}
theorem Sl.at {H : Hp} {σ : St} {ρ : aN} {i : Nat} {c : ba} (h : Sl H σ ρ) (e : ρ[i]? = some c) : ∃ o, σ[i]? = some o /\ jr H c o := by
  have hi : i < σ.length := by rw [h.1]; exact (List.getElem?_eq_some_iff.mp e).1
  exact ⟨σ[i], List.getElem?_eq_getElem hi, h.2 i c _ e (List.getElem?_eq_getElem hi)⟩
theorem aa (T : Tb X nl G) (i : Nat) (hN : X.N[i]? = some x) : ai X (.Name x pos) (ad i) := by
  have hm := T.vis x (List.mem_of_getElem? hN);refine PE.imp (mt hN hm.1 hm.2.1 hm.2.2) fun σ H Q ⟨ρ, sl, q⟩ => ?_
  unfold ad at q;split at q
  · rename_i d e;obtain ⟨o, h1, v, rfl, h2⟩ := sl.at e;exact ⟨v, h1, q v H (aE.refl H) h2⟩
  · exact q.elim
theorem Z.aa (T : Tb X nl G) (i : Nat) (hN : X.N[i]? = some x) : Z.ai X (.Name x pos) (ad i) :=
  ⟨D2.aa T i hN⟩
theorem cC (T : Tb X nl G) (i : Nat) (hN : X.N[i]? = some x) : bK X (.Name x pos) (cW i) := by
  have hm := T.vis x (List.mem_of_getElem? hN);refine PE.imp (mt hN hm.1 hm.2.1 hm.2.2) fun σ H Q ⟨ρ, sl, q⟩ => ?_
  unfold cW at q;split at q
  · rename_i d e;obtain ⟨o, h1, v, rfl, h2⟩ := sl.at e;exact ⟨v, h1, q v H (aE.refl H) (.inl h2)⟩
  · rename_i d e;obtain ⟨o, h1, v, rfl, h2⟩ := sl.at e;exact ⟨v, h1, q v H (aE.refl H) (.inr h2)⟩
  · exact q.elim
theorem Z.cC (T : Tb X nl G) (i : Nat) (hN : X.N[i]? = some x) : Z.bK X (.Name x pos) (cW i) :=
  ⟨D2.cC T i hN⟩
theorem oS {e : Expr} {d : PyData} {v : V} (h : PE X e (tC v)) (r : ∀ H, Rp H d v) : ai X e (eC d) :=
  PE.imp h fun σ H Q ⟨ρ, sl, q⟩ => q v H (aE.refl H) (r H)
theorem ar {i j} : ai X (.Constant (.int i) j pos) (eC (.int i)) := oS CD fun H => by simp only [Rp]
theorem Z.ar {i j} : Z.ai X (.Constant (.int i) j pos) (eC (.int i)) :=
  ⟨D2.ar⟩
theorem hR {b j} : ai X (.Constant (.bool b) j pos) (eC (.bool b)) := oS DW fun H => by simp only [Rp]
theorem Z.hR {b j} : Z.ai X (.Constant (.bool b) j pos) (eC (.bool b)) :=
  ⟨D2.hR⟩
theorem da {j} : ai X (.Constant .none j pos) (eC .none) := oS BM fun H => by simp only [Rp]
theorem Z.da {j} : Z.ai X (.Constant .none j pos) (eC .none) :=
  ⟨D2.da⟩
theorem mw {y j} : ai X (.Constant (.str y) j pos) (eC (.str y)) := oS CN fun H => by simp only [Rp]
theorem Z.mw {y j} : Z.ai X (.Constant (.str y) j pos) (eC (.str y)) :=
  ⟨D2.mw⟩
theorem dA {i : Int} {t : Tok} (T : Tb X nl G) (j : Nat) (hG : G[j]? = some x) (hm : X.mg x = some (.int i t)) : ai X (.Name x pos) (eC (.int i)) := by
  have g := T.gl x (List.mem_of_getElem? hG);exact oS (AK g.1 hm (v := .int i) ⟨t, rfl⟩ g.2.1) fun H => by simp only [Rp]
theorem Z.dA {i : Int} {t : Tok} (T : Tb X nl G) (j : Nat) (hG : G[j]? = some x) (hm : X.mg x = some (.int i t)) : Z.ai X (.Name x pos) (eC (.int i)) :=
  ⟨D2.dA T j hG hm⟩
end
section
variable {X : Cx} {a b c : Expr} {fa fb fc : Fe} {pos : Pos}
def e2 (g : PyData -> PyData -> R PyData) (fa fb : Fe) : Fe := fun ρ => fa ρ >>= fun x => fb ρ >>= fun y => g x y
def e1 (g : PyData -> R PyData) (fa : Fe) : Fe := fun ρ => fa ρ >>= fun x => g x
def bX (X : Cx) (P : Hp -> Hp -> PyData -> V -> Prop) (r : R2) (g : PyData -> PyData -> R PyData) : Prop :=
  ∀ H x y dx dy Q, ig H dx x -> ig H dy y -> tP X P (g dx dy) H Q -> r x y H Q
theorem two {P : Hp -> Hp -> PyData -> V -> Prop} {r : R2} {g : PyData -> PyData -> R PyData} (hP : Dn P) (hg : bX X P r g) (σ : St) (H : Hp) (Q : VK) (h : ki X P (e2 g fa fb) σ H Q) :
    De r (ki X vU fa) (ki X vU fb) σ H Q :=
  (eT (P := vU) (eX (X := X) hP Q) h).post fun v H1 ⟨ρ1, d1, sl1, _, p1, q1⟩ =>
    (eT (P := vU) (f := fb) (k := fun _ y => g d1 y) (eX (X := X) hP Q) ⟨ρ1, sl1, q1⟩).post fun u H2 ⟨_, d2, _, s2, p2, q2⟩ => hg H2 v u d1 d2 Q (ig.mono p1 s2) p2 q2
theorem oo {op : Operator} {P : Hp -> Hp -> PyData -> V -> Prop} {r : R2} {g : PyData -> PyData -> R PyData} (hP : Dn P) (ho : iZ X (binaryOp op) r) (hg : bX X P r g) (ha : bK X a fa) (hb : bK X b fb) :
    PE X (.BinOp a op b pos) (ki X P (e2 g fa fb)) := PE.imp (CW ho ha hb) (two hP hg)
theorem qN {op : CmpOp} {r : R2} {g : PyData -> PyData -> R PyData} (ho : iZ X (compareOp op) r) (hg : bX X gQ r g) (ha : bK X a fa) (hb : bK X b fb) (hm : behindInMarks op b = false) :
    ai X (.Compare a [op] [b] pos) (e2 g fa fb) := PE.imp (Am ho ha hb hm) (two fR hg)
end
def sY : PyData -> R Bool
  | .bool b => .ok b
  | _ => .no
def tE (f : Fe) : aN -> R Bool := fun ρ => f ρ >>= sY
theorem vq {X : Cx} {f : Fe} {σ : St} {H : Hp} {Q : Bool -> Hp -> Prop} (h : zM X (tE f) σ H Q) : ki X gQ f σ H (fun x H' => ∃ k, x = .bl k /\ Q k H') :=
  (eT (P := gQ) (f := f) (k := fun _ => sY) (vC (X := X) Q) h).post fun v H1 ⟨ρ1, d1, _, _, p1, q1⟩ => by
    cases d1 with
    | bool b =>
      have p2 : v = .bl b := by simpa only [Rp] using p1
      exact ⟨b, p2, q1 H1 (aE.refl _)⟩
    | _ => exact q1.elim
section
variable {X : Cx} {a b c : Expr} {fa fb fc : Fe} {pos : Pos}
theorem gK {op : CmpOp} {r : R2} {g : PyData -> PyData -> R PyData} (ho : iZ X (compareOp op) r) (hg : bX X gQ r g) (ha : bK X a fa) (hb : bK X b fb) (hm : behindInMarks op b = false) :
    hZ X (.Compare a [op] [b] pos) (tE (e2 g fa fb)) :=
  PT.imp (A6 ho ha hb hm) fun σ H Q h => two fR hg σ H _ (vq h)
theorem e8 {e : Expr} {f : Fe} (h : ai X e f) (he : ∀ whole, isTrue e X.env whole = (do let v <- whole; standAt e.pos; holding [v] (truthy v)) := by intro _; rfl) : hZ X e (tE f) :=
  PT.imp (CA h he) fun σ H Q h => vq h
theorem Z.e8 {e : Expr} {f : Fe} (h : Z.ai X e f) (he : ∀ whole, isTrue e X.env whole = (do let v <- whole; standAt e.pos; holding [v] (truthy v)) := by intro _; rfl) : Z.hZ X e (tE f) :=
  ⟨D2.e8 h.un he⟩
def mE (f g : aN -> R Bool) : aN -> R Bool := fun ρ => f ρ >>= fun b => if b = true then g ρ else .ok false
def nz (f g : aN -> R Bool) : aN -> R Bool := fun ρ => f ρ >>= fun b => if b = true then .ok true else g ρ
def ip (f : aN -> R Bool) : aN -> R Bool := fun ρ => f ρ >>= fun b => .ok (!b)
variable {ga gb : aN -> R Bool} {dg : List Expr}
theorem lu (ha : hZ X a ga) : l9 X (.BoolOp .And [a] pos) ga := pw_and1 ha
theorem Z.lu (ha : Z.hZ X a ga) : Z.l9 X (.BoolOp .And [a] pos) ga :=
  ⟨D2.lu ha.un⟩
theorem gR (ha : hZ X a ga) : l9 X (.BoolOp .Or [a] pos) ga := pw_or1 ha
theorem Z.gR (ha : Z.hZ X a ga) : Z.l9 X (.BoolOp .Or [a] pos) ga :=
  ⟨D2.gR ha.un⟩
theorem nJ (ha : hZ X a ga) (hb : l9 X (.BoolOp .And (b :: dg) pos) gb) : l9 X (.BoolOp .And (a :: b :: dg) pos) (mE ga gb) :=
  PW.imp (pw_and ha hb) fun σ H Q h => (qr (f := ga) (k := fun ρ b => if b = true then gb ρ else .ok false) (vC (X := X) Q) h).post fun d H1 ⟨ρ1, sl1, _, q1⟩ => by
    cases d with
    | true => exact ⟨ρ1, sl1, q1⟩
    | false => exact q1 H1 (aE.refl _)
theorem Z.nJ (ha : Z.hZ X a ga) (hb : Z.l9 X (.BoolOp .And (b :: dg) pos) gb) : Z.l9 X (.BoolOp .And (a :: b :: dg) pos) (mE ga gb) :=
  ⟨D2.nJ ha.un hb.un⟩
theorem je (ha : hZ X a ga) (hb : l9 X (.BoolOp .Or (b :: dg) pos) gb) : l9 X (.BoolOp .Or (a :: b :: dg) pos) (nz ga gb) :=
  PW.imp (pw_or ha hb) fun σ H Q h => (qr (f := ga) (k := fun ρ b => if b = true then .ok true else gb ρ) (vC (X := X) Q) h).post fun d H1 ⟨ρ1, sl1, _, q1⟩ => by
    cases d with
    | false => exact ⟨ρ1, sl1, q1⟩
    | true => exact q1 H1 (aE.refl _)
theorem Z.je (ha : Z.hZ X a ga) (hb : Z.l9 X (.BoolOp .Or (b :: dg) pos) gb) : Z.l9 X (.BoolOp .Or (a :: b :: dg) pos) (nz ga gb) :=
  ⟨D2.je ha.un hb.un⟩
theorem l9.t {e : Expr} (h : l9 X e ga) : hZ X e ga := PW.pt h
theorem Z.l9.t {e : Expr} (h : Z.l9 X e ga) : Z.hZ X e ga :=
  ⟨D2.l9.t h.un⟩
theorem fK (ha : hZ X a ga) : hZ X (.UnaryOp .Not a pos) (ip ga) :=
  PT.imp (BU ha) fun σ H Q h => (qr (f := ga) (k := fun _ b => .ok (!b)) (vC (X := X) Q) h).post fun d H1 ⟨ρ1, sl1, _, q1⟩ => q1 H1 (aE.refl _)
theorem Z.fK (ha : Z.hZ X a ga) : Z.hZ X (.UnaryOp .Not a pos) (ip ga) :=
  ⟨D2.fK ha.un⟩
def wp (f g : Fe) : Fe := fun ρ => f ρ >>= fun d => sY d >>= fun b => if b = true then g ρ else .ok (.bool false)
def Eo (f g : Fe) : Fe := fun ρ => f ρ >>= fun d => sY d >>= fun b => if b = true then .ok (.bool true) else g ρ
def Cd (f : Fe) : Fe := fun ρ => f ρ >>= fun d => sY d >>= fun b => .ok (.bool (!b))
theorem qC {k : aN -> Bool -> R PyData} {f : Fe} {σ : St} {H : Hp} {Q : VK} (h : ki X gQ (fun ρ => f ρ >>= fun d => sY d >>= fun b => k ρ b) σ H Q) :
    ki X gQ f σ H (fun x H' => ∃ c, x = .bl c /\ ki X gQ (fun ρ => k ρ c) σ H' Q) :=
  (eT (P := gQ) (f := f) (k := fun ρ d => sY d >>= fun b => k ρ b) (eX (X := X) fR Q) h).post fun v H1 ⟨ρ1, d1, sl1, _, p1, q1⟩ => by
    cases d1 with
    | bool b =>
      have p2 : v = .bl b := by simpa only [Rp] using p1
      exact ⟨b, p2, ρ1, sl1, q1⟩
    | _ => exact q1.elim
theorem me {op} (h : ai X a fa) : ai X (.BoolOp op [a] pos) fa := By h
theorem Z.me {op} (h : Z.ai X a fa) : Z.ai X (.BoolOp op [a] pos) fa :=
  ⟨D2.me h.un⟩
theorem nV (ha : ai X a fa) (hb : ai X (.BoolOp .And (b :: dg) pos) fb) : ai X (.BoolOp .And (a :: b :: dg) pos) (wp fa fb) :=
  PE.imp (BW ha hb) fun σ H Q h => (qC (k := fun ρ b => if b = true then fb ρ else .ok (.bool false)) h).post fun v H1 ⟨c, e1, q1⟩ => by
    refine ⟨c, e1, ?_⟩;cases c with
    | true => exact q1
    | false =>
      obtain ⟨_, _, q2⟩ := q1;exact q2 _ H1 (aE.refl _) (by simp only [Rp])
theorem Z.nV (ha : Z.ai X a fa) (hb : Z.ai X (.BoolOp .And (b :: dg) pos) fb) : Z.ai X (.BoolOp .And (a :: b :: dg) pos) (wp fa fb) :=
  ⟨D2.nV ha.un hb.un⟩
theorem yF (ha : ai X a fa) (hb : ai X (.BoolOp .Or (b :: dg) pos) fb) : ai X (.BoolOp .Or (a :: b :: dg) pos) (Eo fa fb) :=
  PE.imp (Dp ha hb) fun σ H Q h => (qC (k := fun ρ b => if b = true then .ok (.bool true) else fb ρ) h).post fun v H1 ⟨c, e1, q1⟩ => by
    refine ⟨c, e1, ?_⟩;cases c with
    | false => exact q1
    | true =>
      obtain ⟨_, _, q2⟩ := q1;exact q2 _ H1 (aE.refl _) (by simp only [Rp])
theorem Z.yF (ha : Z.ai X a fa) (hb : Z.ai X (.BoolOp .Or (b :: dg) pos) fb) : Z.ai X (.BoolOp .Or (a :: b :: dg) pos) (Eo fa fb) :=
  ⟨D2.yF ha.un hb.un⟩
theorem uG (ha : ai X a fa) : ai X (.UnaryOp .Not a pos) (Cd fa) :=
  PE.imp (Cb ha) fun σ H Q h => (qC (k := fun ρ b => .ok (.bool (!b))) h).post fun v H1 ⟨c, e1, _, _, q2⟩ => ⟨c, e1, q2 _ H1 (aE.refl _) (by simp only [Rp])⟩
theorem Z.uG (ha : Z.ai X a fa) : Z.ai X (.UnaryOp .Not a pos) (Cd fa) :=
  ⟨D2.uG ha.un⟩
def AB (t : aN -> R Bool) (f g : Fe) : Fe := fun ρ => t ρ >>= fun b => if b = true then f ρ else g ρ
theorem jH {e : Expr} (hc : hZ X e ga) (ha : ai X a fa) (hb : ai X b fb) : ai X (.IfExp e a b pos) (AB ga fa fb) :=
  PE.imp (xQ hc ha hb) fun σ H Q h => (qr (f := ga) (k := fun ρ b => if b = true then fa ρ else fb ρ) (eX (X := X) fR Q) h).post fun d H1 ⟨ρ1, sl1, _, q1⟩ => by
    cases d with
    | true => exact ⟨ρ1, sl1, q1⟩
    | false => exact ⟨ρ1, sl1, q1⟩
theorem Z.jH {e : Expr} (hc : Z.hZ X e ga) (ha : Z.ai X a fa) (hb : Z.ai X b fb) : Z.ai X (.IfExp e a b pos) (AB ga fa fb) :=
  ⟨D2.jH hc.un ha.un hb.un⟩
end
def av : Expr -> Bool
  | .Starred .. => false
  | _ => true
theorem bh {e : Expr} {es : List Expr} {env : Env} (h : av e = true) : starEach (e :: es) env = (false, eval e env) :: starEach es env := by
  cases e <;> first | rfl | (cases h)
theorem oY {es : List Expr} {env : Env} {pos : Pos} (h : es.all av = true) : (backTo pos (starEach es env)).any (·.1) = false := by
  induction es with
  | nil => rfl
  | cons e es ih =>
    rw [List.all_cons, Bool.and_eq_true] at h;rw [bh h.1];have := ih h.2;simpa [backTo] using this
def aI : aN -> R (List PyData) := fun _ => .ok []
def af (f : Fe) (g : aN -> R (List PyData)) : aN -> R (List PyData) := fun ρ => f ρ >>= fun d => g ρ >>= fun ds => .ok (d :: ds)
section
variable {X : Cx} {e : Expr} {es : List Expr} {f : Fe} {g : aN -> R (List PyData)}
theorem vS {I : Hp -> PyData -> V -> Prop} : PA X [] (x9 X I aI) := PA.imp yq fun σ H Q ⟨ρ, sl, q⟩ => q [] H (aE.refl _) (by simp only [RA])
theorem ay : pk X [] aI := vS
theorem Z.ay  : Z.pk X [] aI :=
  ⟨D2.ay⟩
theorem t9 : Cz X [] aI := vS
theorem rJ {I : Hp -> PyData -> V -> Prop} (hI : ∀ H H' d v, I H d v -> aE H H' -> I H' d v) (ha : PE X e (ki X (fun _ H' d v => I H' d v) f)) (hr : PA X es (x9 X I g))
    (hs : starEach (e :: es) X.env = (false, eval e X.env) :: starEach es X.env := by rfl) : PA X (e :: es) (x9 X I (af f g)) :=
  PA.imp (qu ha hr hs) fun σ H Q h =>
    (eT (P := fun _ H' d v => I H' d v) (f := f) (k := fun ρ d => g ρ >>= fun ds => .ok (d :: ds)) (Br (X := X) I Q) h).post fun v H1 ⟨ρ1, d1, sl1, _, p1, q1⟩ =>
      (ml (I := I) (f := g) (k := fun _ ds => .ok (d1 :: ds)) (Br (X := X) I Q) ⟨ρ1, sl1, q1⟩).post fun vs H2 ⟨_, ds1, _, s2, p3, q3⟩ =>
        q3 (v :: vs) H2 (aE.refl _) (by simp only [RA]; exact ⟨v, vs, rfl, hI _ _ _ _ p1 s2, p3⟩)
theorem ag (ha : ai X e f) (hr : pk X es g) (hs : av e = true := by rfl) : pk X (e :: es) (af f g) := rJ (fun _ _ _ _ h s => h.mono s) ha hr (bh hs)
theorem Z.ag (ha : Z.ai X e f) (hr : Z.pk X es g) (hs : av e = true := by rfl) : Z.pk X (e :: es) (af f g) :=
  ⟨D2.ag ha.un hr.un hs⟩
theorem nB (ha : bK X e f) (hr : Cz X es g) (hs : av e = true := by rfl) : Cz X (e :: es) (af f g) := rJ (fun _ _ _ _ h s => h.mono s) ha hr (bh hs)
end
section
variable {K : PySem.W.Frag} {H : Hp} {x : V}
theorem lw (h : ig H .none x) : x = .non := by
  rcases h with h | h
  · simpa only [Rp] using h
  · simp only [ja] at h
theorem o9 {b : Bool} (h : ig H (.bool b) x) : x = .bl b := by
  rcases h with h | h
  · simpa only [Rp] using h
  · simp only [ja] at h
theorem bP {i : Int} (h : ig H (.int i) x) : x = .int i := by
  rcases h with h | h
  · simpa only [Rp] using h
  · simp only [ja] at h
theorem gY {y : Str} (h : ig H (.str y) x) : x = .str y := by
  rcases h with h | h
  · simpa only [Rp] using h
  · simp only [ja] at h
theorem dl {ds : List PyData} (h : ig H (.tuple ds) x) : ∃ a vs, x = .ref a /\ H a = some (.tup vs) /\ bu H ds vs := by
  rcases h with h | h
  · simpa only [Rp] using h
  · simp only [ja] at h
theorem dJ {ds : List PyData} (h : ig H (.list ds) x) : ∃ a vs, x = .ref a /\ ni K H a vs /\ bu H ds vs := by
  rcases h with h | h
  · simp only [Rp] at h;obtain ⟨a, o, vs, e, ha, r⟩ := h;exact ⟨a, vs, e, .inl (.inr ⟨o, ha⟩), r⟩
  · simp only [ja] at h;obtain ⟨a, vs, e, ha, r⟩ := h;exact ⟨a, vs, e, .inl (.inl ha), r⟩
theorem Au {C : Addr} {fs : List (Str × V)} {kvs : List (PyData × PyData)} (h : xl H C fs kvs) : pP kvs = true := by
  cases kvs with
  | nil => simp only [xl] at h
  | cons kd kvs => simp only [xl] at h; rw [h.1]; rfl
theorem x8 {kvs : List (PyData × PyData)} (h : ig H (.dict kvs) x) : ∃ a, x = .ref a := by
  rcases h with h | h
  · simp only [Rp] at h;rcases h with ⟨a, o, vs, e, _⟩ | ⟨a, o, C, dx, fs, e, _⟩
    · exact ⟨a, e⟩
    · exact ⟨a, e⟩
  · simp only [ja] at h;obtain ⟨a, vs, e, _⟩ := h;exact ⟨a, e⟩
theorem lf {kvs : List (PyData × PyData)} (hi : pP kvs = false) (h : ig H (.dict kvs) x) : ∃ a ks, x = .ref a /\ Rd H a (.dK ks) /\ eh H kvs ks := by
  rcases h with h | h
  · simp only [Rp] at h;rcases h with ⟨a, o, vs, e, ha, r⟩ | ⟨a, o, C, dx, fs, e, ha, r⟩
    · exact ⟨a, vs, e, .inr ⟨o, ha⟩, r⟩
    · rw [Au r] at hi; cases hi
  · simp only [ja] at h;obtain ⟨a, vs, e, ha, r⟩ := h;exact ⟨a, vs, e, .inl ha, r⟩
end
theorem bu.nil {H : Hp} : bu H [] [] := by simp only [bu]
theorem bu.cons {H : Hp} {d : PyData} {ds : List PyData} {v : V} {vs : List V} (h : Rp H d v) (t : bu H ds vs) : bu H (d :: ds) (v :: vs) := by simp only [bu]; exact ⟨v, vs, rfl, h, t⟩
theorem bu.nil_inv {H : Hp} {vs : List V} (h : bu H [] vs) : vs = [] := by simpa only [bu] using h
theorem bu.cons_inv {H : Hp} {d : PyData} {ds : List PyData} {vs : List V} (h : bu H (d :: ds) vs) : ∃ v r, vs = v :: r /\ Rp H d v /\ bu H ds r := by simpa only [bu] using h
theorem bu.length {H : Hp} : ∀ {ds : List PyData} {vs : List V}, bu H ds vs -> vs.length = ds.length
  | [], vs, h => by rw [h.nil_inv]; rfl
  | d :: ds, vs, h => by
    obtain ⟨v, r, rfl, _, t⟩ := h.cons_inv;rw [List.length_cons, List.length_cons, bu.length t]
theorem bu.get {H : Hp} : ∀ {ds : List PyData} {vs : List V} {i : Nat} {d : PyData}, bu H ds vs -> ds[i]? = some d -> ∃ v, vs[i]? = some v /\ Rp H d v
  | [], vs, i, d, h, e => by simp at e
  | d0 :: ds, vs, 0, d, h, e => by
    obtain ⟨v, r, rfl, p, _⟩ := h.cons_inv;simp at e; subst e;exact ⟨v, rfl, p⟩
  | d0 :: ds, vs, i + 1, d, h, e => by
    obtain ⟨v, r, rfl, _, t⟩ := h.cons_inv;obtain ⟨u, e1, p⟩ := bu.get (i := i) t (by simpa using e);exact ⟨u, by simpa using e1, p⟩
theorem bu.append {H : Hp} : ∀ {ds es : List PyData} {vs us : List V}, bu H ds vs -> bu H es us -> bu H (ds ++ es) (vs ++ us)
  | [], es, vs, us, h, g => by rw [h.nil_inv]; exact g
  | d :: ds, es, vs, us, h, g => by
    obtain ⟨v, r, rfl, p, t⟩ := h.cons_inv;exact bu.cons p (bu.append t g)
theorem bu.take {H : Hp} : ∀ {ds : List PyData} {vs : List V} (n : Nat), bu H ds vs -> bu H (ds.take n) (vs.take n)
  | ds, vs, 0, h => by simp only [List.take_zero]; exact bu.nil
  | [], vs, n + 1, h => by rw [h.nil_inv]; exact bu.nil
  | d :: ds, vs, n + 1, h => by
    obtain ⟨v, r, rfl, p, t⟩ := h.cons_inv;exact bu.cons p (bu.take n t)
theorem bu.drop {H : Hp} : ∀ {ds : List PyData} {vs : List V} (n : Nat), bu H ds vs -> bu H (ds.drop n) (vs.drop n)
  | ds, vs, 0, h => h
  | [], vs, n + 1, h => by rw [h.nil_inv]; exact bu.nil
  | d :: ds, vs, n + 1, h => by
    obtain ⟨v, r, rfl, p, t⟩ := h.cons_inv;exact bu.drop n t
theorem bu.rep {H : Hp} {ds : List PyData} {vs : List V} (h : bu H ds vs) : ∀ k : Nat, bu H (List.replicate k ds).flatten (List.replicate k vs).flatten
  | 0 => bu.nil
  | k + 1 => by rw [List.replicate_succ, List.replicate_succ, List.flatten_cons, List.flatten_cons]; exact bu.append h (bu.rep h k)
theorem bu.ints {H : Hp} : ∀ ns : List Int, bu H (ns.map PyData.int) (ns.map V.int)
  | [] => bu.nil
  | n :: ns => bu.cons (by simp only [Rp]) (bu.ints ns)
theorem cb {H : Hp} {p : Addr} (h : H p = none) (o : HO) : aE H (cm H p o) := fun b u q => by rw [au (aQ q h)]; exact q
theorem df {H : Hp} {p : Addr} {ds : List PyData} {vs : List V} (h : H p = none) (r : bu H ds vs) : Rp (cm H p (.tup vs)) (.tuple ds) (.ref p) := by
  simp only [Rp]; exact ⟨p, vs, rfl, bd, r.mono (cb h _)⟩
theorem dM {H : Hp} {p : Addr} {ds : List PyData} {vs : List V} (h : H p = none) (r : bu H ds vs) : CU H (cm H p (.lst vs)) (.list ds) (.ref p) := by
  refine ⟨?_, p, rfl, h⟩;simp only [ja]; exact ⟨p, vs, rfl, bd, r.mono (cb h _)⟩
section
variable {P : Program} {w : World} {H : Hp} {h : Heap}
mutual
theorem rZ (ok : ir P w H h) : ∀ (d : PyData) (v : V) (u : Value), d.canLay0 = true -> Rp H d v -> bA v u -> ∃ as, Reads h u d as
  | .none, v, u, _, r, e => by simp only [Rp] at r; subst r; cases e; exact ⟨_, .none⟩
  | .bool b, v, u, _, r, e => by simp only [Rp] at r; subst r; cases e; exact ⟨_, .bool b⟩
  | .int i, v, u, _, r, e => by simp only [Rp] at r; subst r; obtain ⟨t, rfl⟩ := e; exact ⟨_, .int i t⟩
  | .str x, v, u, _, r, e => by simp only [Rp] at r; subst r; obtain ⟨t, rfl⟩ := e; exact ⟨_, .str x t⟩
  | .tuple ds, v, u, c, r, e => by
    simp only [Rp] at r;obtain ⟨a, vs, rfl, ha, r⟩ := r;cases e;obtain ⟨_, its, rv, o, h1, h2, n, h3⟩ := (show bR P w H h a (.tup vs) from ok a _ ha)
    obtain ⟨as, q⟩ := gN ok ds vs its (by simpa only [PyData.canLay0] using c) r rv;exact ⟨as, .tuple h1 h2 h3 (by simpa using q)⟩
  | .list ds, v, u, c, r, e => by
    simp only [Rp] at r;obtain ⟨a, ob, vs, rfl, ha, r⟩ := r;cases e;obtain ⟨_, _, its, n, rv, h1⟩ := (show bR P w H h a (.frz ob (.lst vs)) from ok a _ ha)
    obtain ⟨as, q⟩ := gN ok ds vs its (by simpa only [PyData.canLay0] using c) r rv;exact ⟨a :: as, .list h1 rfl rfl (by simpa using q)⟩
  | .dict kvs, v, u, c, r, e => by simp [PyData.canLay0] at c
theorem gN (ok : ir P w H h) : ∀ (ds : List PyData) (vs : List V) (us : List Value), PyData.canLayAll0 ds = true -> bu H ds vs -> br vs us -> ∃ as, ReadsAll h us ds as
  | [], vs, us, _, r, e => by rw [r.nil_inv] at e; cases e; exact ⟨_, .nil⟩
  | d :: ds, vs, us, c, r, e => by
    obtain ⟨v, r', rfl, p, t⟩ := r.cons_inv;have c' : d.canLay0 = true /\ PyData.canLayAll0 ds = true := by simpa [PyData.canLayAll0] using c
    cases e with
    | cons e1 e2 =>
      obtain ⟨as, q1⟩ := rZ ok d v _ c'.1 p e1;obtain ⟨bs, q2⟩ := gN ok ds r' _ c'.2 t e2;exact ⟨as ++ bs, .cons q1 q2⟩
end
theorem dk (ok : ir P w H h) {d : PyData} {v : V} {u : Value} (c : d.canLay0 = true) (r : ig H d v) (e : bA v u) : ∃ as, Reads h u d as := by
  rcases r with r | r
  · exact rZ ok d v u c r e
  · cases d <;> simp only [ja] at r
    · rename_i ds;obtain ⟨a, vs, rfl, ha, r⟩ := r;cases e;obtain ⟨_, its, n, rv, h1⟩ := (show bR P w H h a (.lst vs) from ok a _ ha)
      obtain ⟨as, q⟩ := gN ok ds vs its (by simpa only [PyData.canLay0] using c) r rv;exact ⟨a :: as, .list h1 rfl rfl (by simpa using q)⟩
    · simp [PyData.canLay0] at c
end
def iq : PyData -> Option cS
  | .int i => some (.inl i)
  | .str y => some (.inr y)
  | _ => none
def gV : PyData -> PyData -> Bool
  | .int i, .int j => decide (i = j)
  | .str i, .str j => decide (i = j)
  | _, _ => false
def tZ (kvs : List (PyData × PyData)) (k v : PyData) : List (PyData × PyData) :=
  if (kvs.any fun kv => gV kv.1 k) = true then kvs.map (fun kv => if gV kv.1 k = true then (kv.1, v) else kv) else kvs ++ [(k, v)]
theorem jR (κ κ' : cS) : gV (fW κ) (fW κ') = decide (κ = κ') := by
  cases κ with
  | inl i =>
    cases κ' with
    | inl j => simp [fW, gV]
    | inr j => simp [fW, gV]
  | inr i =>
    cases κ' with
    | inl j => simp [fW, gV]
    | inr j => simp [fW, gV]
theorem eh.cons {H : Hp} {k d : PyData} {kvs : List (PyData × PyData)} {κ : cS} {v : V} {ks : List (cS × V)} (e : k = fW κ) (h : Rp H d v) (t : eh H kvs ks) : eh H ((k, d) :: kvs) ((κ, v) :: ks) := by
  simp only [eh, zu]; exact ⟨κ, v, ks, rfl, ⟨e, h⟩, t⟩
theorem eh.cons_inv {H : Hp} {k d : PyData} {kvs : List (PyData × PyData)} {ks : List (cS × V)} (h : eh H ((k, d) :: kvs) ks) : ∃ κ v r, ks = (κ, v) :: r /\ k = fW κ /\ Rp H d v /\ eh H kvs r := by
  simp only [eh, zu] at h;obtain ⟨κ, v, r, e, ⟨e1, p⟩, t⟩ := h;exact ⟨κ, v, r, e, e1, p, t⟩
theorem eh.nil_inv {H : Hp} {ks : List (cS × V)} (h : eh H [] ks) : ks = [] := by simpa only [eh] using h
theorem eh.any {H : Hp} (κ : cS) : ∀ {kvs : List (PyData × PyData)} {ks : List (cS × V)}, eh H kvs ks -> (kvs.any fun kv => gV kv.1 (fW κ)) = ks.any fun kv => decide (kv.1 = κ)
  | [], ks, h => by rw [h.nil_inv]; rfl
  | (k, d) :: kvs, ks, h => by
    obtain ⟨κ', v, r, rfl, rfl, p, t⟩ := h.cons_inv;rw [List.any_cons, List.any_cons, eh.any κ t, jR]
theorem eh.repl {H : Hp} (κ : cS) {d : PyData} {v : V} (hv : Rp H d v) : ∀ {kvs : List (PyData × PyData)} {ks : List (cS × V)}, eh H kvs ks ->
    eh H (kvs.map fun kv => if gV kv.1 (fW κ) = true then (kv.1, d) else kv) (ks.map fun kv => if kv.1 = κ then (kv.1, v) else kv)
  | [], ks, h => by rw [h.nil_inv]; simp only [List.map_nil, eh]
  | (k, d') :: kvs, ks, h => by
    obtain ⟨κ', v', r, rfl, rfl, p, t⟩ := h.cons_inv;rw [List.map_cons, List.map_cons];dsimp only;rw [jR];by_cases e : κ' = κ
    · rw [if_pos (decide_eq_true e), if_pos e]; exact eh.cons rfl hv (eh.repl κ hv t)
    · rw [if_neg (by rw [decide_eq_false e]; exact Bool.false_ne_true), if_neg e]; exact eh.cons rfl p (eh.repl κ hv t)
theorem eh.snoc {H : Hp} {κ : cS} {d : PyData} {v : V} (hv : Rp H d v) : ∀ {kvs : List (PyData × PyData)} {ks : List (cS × V)}, eh H kvs ks -> eh H (kvs ++ [(fW κ, d)]) (ks ++ [(κ, v)])
  | [], ks, h => by rw [h.nil_inv]; exact eh.cons rfl hv (by simp only [eh])
  | (k, d') :: kvs, ks, h => by
    obtain ⟨κ', v', r, rfl, rfl, p, t⟩ := h.cons_inv;exact eh.cons rfl p (eh.snoc hv t)
theorem eh.put {H : Hp} (κ : cS) {d : PyData} {v : V} (hv : Rp H d v) {kvs : List (PyData × PyData)} {ks : List (cS × V)} (h : eh H kvs ks) : eh H (tZ kvs (fW κ) d) (kW ks κ v) := by
  unfold tZ kW;rw [h.any κ];split
  · exact h.repl κ hv
  · exact h.snoc hv
def mU (kvs : List (PyData × PyData)) (k : PyData) : Option PyData := (kvs.find? fun kv => gV kv.1 k).map (·.2)
theorem eh.look {H : Hp} (κ : cS) : ∀ {kvs : List (PyData × PyData)} {ks : List (cS × V)}, eh H kvs ks -> (mU kvs (fW κ) = none /\ kh ks κ = none) \/ ∃ d v, mU kvs (fW κ) = some d /\ kh ks κ = some v /\ Rp H d v
  | [], ks, h => .inl (by rw [h.nil_inv]; exact ⟨rfl, rfl⟩)
  | (k, d) :: kvs, ks, h => by
    obtain ⟨κ', v, r, rfl, rfl, p, t⟩ := h.cons_inv;unfold mU kh;by_cases e : κ' = κ
    · rw [List.find?_cons_of_pos (by rw [jR]; exact decide_eq_true e), List.find?_cons_of_pos (by exact decide_eq_true e)];exact .inr ⟨d, v, rfl, rfl, p⟩
    · rw [List.find?_cons_of_neg (by rw [jR, decide_eq_false e]; exact Bool.false_ne_true), List.find?_cons_of_neg (by rw [decide_eq_false e]; exact Bool.false_ne_true)];exact eh.look κ t
theorem rN {d : PyData} {κ : cS} (h : iq d = some κ) : d = fW κ := by
  cases d <;> simp only [iq] at h <;> cases h <;> rfl
theorem vn {H : Hp} {d : PyData} {x : V} {κ : cS} (h : ig H d x) (e : iq d = some κ) : x = kV κ := by
  cases d <;> simp only [iq] at e <;> cases e
  · exact bP h
  · exact gY h
theorem u8 {H : Hp} {a : Addr} {kvs : List (PyData × PyData)} {ks : List (cS × V)} {κ : cS} (h : Rd H a (.dK ks)) (r : eh H kvs ks) : ∃ o, nY H a (kV κ) o /\ o.isSome = (mU kvs (fW κ)).isSome /\ ∀ d, mU kvs (fW κ) = some d -> ∃ v, o = some v /\ Rp H d v := by
  refine ⟨kh ks κ, .inl ⟨ks, κ, h, rfl, rfl⟩, ?_⟩;rcases r.look κ with ⟨e1, e2⟩ | ⟨d, v, e1, e2, p⟩
  · rw [e1, e2]; exact ⟨rfl, fun d z => by cases z⟩
  · rw [e1, e2]; exact ⟨rfl, fun d z => by cases z; exact ⟨v, rfl, p⟩⟩
def ny : PyData -> PyData -> R PyData
  | .int i, .int j => .ok (.int (i - j))
  | _, _ => .no
def fD : PyData -> PyData -> R PyData
  | .int i, .int j => if 0 < j then .ok (.int (i % j)) else .no
  | _, _ => .no
def lF : PyData -> PyData -> R PyData
  | .int i, .int j => if 0 < j /\ j < 1073741824 then .ok (.int (i / j)) else .no
  | _, _ => .no
def fu (p : Int -> Int -> Bool) : PyData -> PyData -> R PyData
  | .int i, .int j => .ok (.bool (p i j))
  | _, _ => .no
def xo (x y : PyData) : Bool := x.canLay0 && y.canLay0 && decide (min x.depth y.depth <= 60)
def iX (x y : PyData) : R PyData := if xo x y = true then .ok (.bool (PyData.eqv x y)) else .no
def wx (x y : PyData) : R PyData := if xo x y = true then .ok (.bool (!PyData.eqv x y)) else .no
def fJ : PyData -> Bool
  | .none => true
  | _ => false
def jb (x y : PyData) : R PyData := if fJ y = true then .ok (.bool (fJ x)) else .no
def kR (x y : PyData) : R PyData := if fJ y = true then .ok (.bool (!fJ x)) else .no
def nr (xs : List PyData) (d : PyData) : Bool := PyData.canLayAll0 xs && d.canLay0 && decide (min (PyData.depthAll xs) d.depth <= 60)
def lI (neg : Bool) (d : PyData) : PyData -> R PyData
  | .list xs => if nr xs d = true then .ok (.bool (if neg then !(xs.any fun y => PyData.eqv y d) else xs.any fun y => PyData.eqv y d)) else .no
  | .tuple xs => if nr xs d = true then .ok (.bool (if neg then !(xs.any fun y => PyData.eqv y d) else xs.any fun y => PyData.eqv y d)) else .no
  | .dict kvs => if pP kvs = true then .no else match iq d with
    | some _ => .ok (.bool (if neg then !(mU kvs d).isSome else (mU kvs d).isSome))
    | none => .no
  | _ => .no
section
variable {X : Cx} {a b c : Expr} {fa fb fc : Fe} {pos : Pos}
theorem cX {H : Hp} {i : Int} : Rp H (.int i) (.int i) := by simp only [Rp]
theorem eY {H : Hp} {i : Bool} : Rp H (.bool i) (.bl i) := by simp only [Rp]
theorem yy {H : Hp} {i : Str} : Rp H (.str i) (.str i) := by simp only [Rp]
theorem Bx : bX X gQ (zx fun i j => .int (i - j)) ny := fun H x y dx dy Q hx hy q => by
  unfold ny at q;split at q
  · exact ⟨_, _, bP hx, bP hy, q _ H (aE.refl _) cX⟩
  · exact q.elim
theorem Cs : bX X gQ (rI (fun _ j => 0 < j) fun i j => .int (i % j)) fD := fun H x y dx dy Q hx hy q => by
  unfold fD at q;split at q
  · split at q
    · rename_i h; exact ⟨_, _, bP hx, bP hy, h, q _ H (aE.refl _) cX⟩
    · exact q.elim
  · exact q.elim
theorem BF : bX X gQ (rI D4 fun i j => .int (i / j)) lF := fun H x y dx dy Q hx hy q => by
  unfold lF at q;split at q
  · split at q
    · rename_i h; exact ⟨_, _, bP hx, bP hy, h, q _ H (aE.refl _) cX⟩
    · exact q.elim
  · exact q.elim
theorem ox {p : Int -> Int -> Bool} : bX X gQ (zx fun i j => .bl (p i j)) (fu p) := fun H x y dx dy Q hx hy q => by
  unfold fu at q;split at q
  · exact ⟨_, _, bP hx, bP hy, q _ H (aE.refl _) eY⟩
  · exact q.elim
theorem kz (ha : bK X a fa) (hb : bK X b fb) : ai X (.BinOp a .Sub b pos) (e2 ny fa fb) := oo fR Cp Bx ha hb
theorem Z.kz (ha : Z.bK X a fa) (hb : Z.bK X b fb) : Z.ai X (.BinOp a .Sub b pos) (e2 ny fa fb) :=
  ⟨D2.kz ha.un hb.un⟩
theorem cU (ha : bK X a fa) (hb : bK X b fb) : ai X (.BinOp a .Mod b pos) (e2 fD fa fb) := oo fR Cm Cs ha hb
theorem Z.cU (ha : Z.bK X a fa) (hb : Z.bK X b fb) : Z.ai X (.BinOp a .Mod b pos) (e2 fD fa fb) :=
  ⟨D2.cU ha.un hb.un⟩
theorem iM (ha : bK X a fa) (hb : bK X b fb) : ai X (.BinOp a .FloorDiv b pos) (e2 lF fa fb) := oo fR z0 BF ha hb
theorem Z.iM (ha : Z.bK X a fa) (hb : Z.bK X b fb) : Z.ai X (.BinOp a .FloorDiv b pos) (e2 lF fa fb) :=
  ⟨D2.iM ha.un hb.un⟩
abbrev EK : Int -> Int -> Bool := fun i j => decide (i < j)
abbrev Ft : Int -> Int -> Bool := fun i j => decide (i <= j)
abbrev pr : Int -> Int -> Bool := fun i j => decide (j < i)
theorem xV (ha : bK X a fa) (hb : bK X b fb) : ai X (.Compare a [.Gt] [b] pos) (e2 (fu pr) fa fb) := qN Ba ox ha hb (iA _)
theorem Z.xV (ha : Z.bK X a fa) (hb : Z.bK X b fb) : Z.ai X (.Compare a [.Gt] [b] pos) (e2 (fu pr) fa fb) :=
  ⟨D2.xV ha.un hb.un⟩
theorem tS (ha : bK X a fa) (hb : bK X b fb) : hZ X (.Compare a [.Lt] [b] pos) (tE (e2 (fu EK) fa fb)) := gK Ea ox ha hb (iA _)
theorem Z.tS (ha : Z.bK X a fa) (hb : Z.bK X b fb) : Z.hZ X (.Compare a [.Lt] [b] pos) (tE (e2 (fu EK) fa fb)) :=
  ⟨D2.tS ha.un hb.un⟩
theorem l8 (ha : bK X a fa) (hb : bK X b fb) : hZ X (.Compare a [.Gt] [b] pos) (tE (e2 (fu pr) fa fb)) := gK Ba ox ha hb (iA _)
theorem Z.l8 (ha : Z.bK X a fa) (hb : Z.bK X b fb) : Z.hZ X (.Compare a [.Gt] [b] pos) (tE (e2 (fu pr) fa fb)) :=
  ⟨D2.l8 ha.un hb.un⟩
def Ay (X : Cx) (neg : Bool) : R2 := fun x y H Q => ∃ dx dy, ig H dx x /\ ig H dy y /\ xo dx dy = true /\ Q (.bl (if neg then !PyData.eqv dx dy else PyData.eqv dx dy)) H
theorem o0 {x y : PyData} (h : xo x y = true) : x.canLay0 = true /\ y.canLay0 = true /\ min x.depth y.depth <= 60 := by
  unfold xo at h;rw [Bool.and_eq_true, Bool.and_eq_true, decide_eq_true_eq] at h;exact ⟨h.1.1, h.1.2, h.2⟩
theorem xn (hu : X.A.units + 64 < cLine) : iZ X (compareOp .Eq) (Ay X false) := by
  intro pins s σ H x y v u Q I rx ry h;obtain ⟨dx, dy, hx, hy, ho, q⟩ := h;obtain ⟨c1, c2, c3⟩ := o0 ho;obtain ⟨as, r1⟩ := dk I.hok c1 hx rx;obtain ⟨bs, r2⟩ := dk I.hok c2 hy ry;exact PySem.SeqAt.compareEq_reads r1 r2 c1 c2 (by omega) ⟨.bl _, H, I, rfl, q⟩
theorem B1 (hu : X.A.units + 64 < cLine) : iZ X (compareOp .NotEq) (Ay X true) := by
  intro pins s σ H x y v u Q I rx ry h;obtain ⟨dx, dy, hx, hy, ho, q⟩ := h;obtain ⟨c1, c2, c3⟩ := o0 ho;obtain ⟨as, r1⟩ := dk I.hok c1 hx rx;obtain ⟨bs, r2⟩ := dk I.hok c2 hy ry;exact PySem.SeqAt.compareNe_reads r1 r2 c1 c2 (by omega) ⟨.bl _, H, I, rfl, q⟩
theorem Bj : bX X gQ (Ay X false) iX := fun H x y dx dy Q hx hy q => by
  unfold iX at q;split at q
  · rename_i h; exact ⟨dx, dy, hx, hy, h, q _ H (aE.refl _) eY⟩
  · exact q.elim
theorem D3 : bX X gQ (Ay X true) wx := fun H x y dx dy Q hx hy q => by
  unfold wx at q;split at q
  · rename_i h; exact ⟨dx, dy, hx, hy, h, q _ H (aE.refl _) eY⟩
  · exact q.elim
theorem su (hu : X.A.units + 64 < cLine) (ha : bK X a fa) (hb : bK X b fb) : ai X (.Compare a [.Eq] [b] pos) (e2 iX fa fb) := qN (xn hu) Bj ha hb (iA _)
theorem Z.su (hu : X.A.units + 64 < cLine) (ha : Z.bK X a fa) (hb : Z.bK X b fb) : Z.ai X (.Compare a [.Eq] [b] pos) (e2 iX fa fb) :=
  ⟨D2.su hu ha.un hb.un⟩
theorem fi (hu : X.A.units + 64 < cLine) (ha : bK X a fa) (hb : bK X b fb) : hZ X (.Compare a [.Eq] [b] pos) (tE (e2 iX fa fb)) := gK (xn hu) Bj ha hb (iA _)
theorem Z.fi (hu : X.A.units + 64 < cLine) (ha : Z.bK X a fa) (hb : Z.bK X b fb) : Z.hZ X (.Compare a [.Eq] [b] pos) (tE (e2 iX fa fb)) :=
  ⟨D2.fi hu ha.un hb.un⟩
theorem md (hu : X.A.units + 64 < cLine) (ha : bK X a fa) (hb : bK X b fb) : hZ X (.Compare a [.NotEq] [b] pos) (tE (e2 wx fa fb)) := gK (B1 hu) D3 ha hb (iA _)
theorem Z.md (hu : X.A.units + 64 < cLine) (ha : Z.bK X a fa) (hb : Z.bK X b fb) : Z.hZ X (.Compare a [.NotEq] [b] pos) (tE (e2 wx fa fb)) :=
  ⟨D2.md hu ha.un hb.un⟩
theorem vo {H : Hp} {d : PyData} {x : V} (h : ig H d x) : decide (x = .non) = fJ d := by
  cases d with
  | none => rw [lw h]; rfl
  | bool b => rw [o9 h]; rfl
  | int i => rw [bP h]; rfl
  | str y => rw [gY h]; rfl
  | tuple ds => obtain ⟨a, vs, rfl, _⟩ := dl h; rfl
  | list ds => obtain ⟨a, vs, rfl, _⟩ := dJ (K := default) h; rfl
  | dict kvs => obtain ⟨a, rfl⟩ := x8 h; rfl
theorem xM : bX X gQ (fun x y H Q => y = .non /\ Q (.bl (decide (x = .non))) H) jb := fun H x y dx dy Q hx hy q => by
  unfold jb at q;split at q
  · rename_i h;cases dy <;> simp only [fJ, Bool.false_eq_true] at h;exact ⟨lw hy, by rw [vo hx]; exact q _ H (aE.refl _) eY⟩
  · exact q.elim
theorem AZ : bX X gQ (fun x y H Q => y = .non /\ Q (.bl (!decide (x = .non))) H) kR := fun H x y dx dy Q hx hy q => by
  unfold kR at q;split at q
  · rename_i h;cases dy <;> simp only [fJ, Bool.false_eq_true] at h;exact ⟨lw hy, by rw [vo hx]; exact q _ H (aE.refl _) eY⟩
  · exact q.elim
theorem ut (ha : bK X a fa) (hb : bK X b fb) : ai X (.Compare a [.Is] [b] pos) (e2 jb fa fb) := qN ye xM ha hb (iA _)
theorem Z.ut (ha : Z.bK X a fa) (hb : Z.bK X b fb) : Z.ai X (.Compare a [.Is] [b] pos) (e2 jb fa fb) :=
  ⟨D2.ut ha.un hb.un⟩
theorem lr (ha : bK X a fa) (hb : bK X b fb) : hZ X (.Compare a [.Is] [b] pos) (tE (e2 jb fa fb)) := gK ye xM ha hb (iA _)
theorem Z.lr (ha : Z.bK X a fa) (hb : Z.bK X b fb) : Z.hZ X (.Compare a [.Is] [b] pos) (tE (e2 jb fa fb)) :=
  ⟨D2.lr ha.un hb.un⟩
theorem lB (ha : bK X a fa) (hb : bK X b fb) : hZ X (.Compare a [.IsNot] [b] pos) (tE (e2 kR fa fb)) := gK AD AZ ha hb (iA _)
theorem Z.lB (ha : Z.bK X a fa) (hb : Z.bK X b fb) : Z.hZ X (.Compare a [.IsNot] [b] pos) (tE (e2 kR fa fb)) :=
  ⟨D2.lB ha.un hb.un⟩
def EA (X : Cx) (neg : Bool) : R2 := fun x y H Q => ∃ d xs, ig H d x /\ (ig H (.list xs) y \/ ig H (.tuple xs) y) /\ nr xs d = true /\ Q (.bl (if neg then !(xs.any fun z => PyData.eqv z d) else xs.any fun z => PyData.eqv z d)) H
def Cy (X : Cx) (neg : Bool) : R2 := fun x y H Q => EA X neg x y H Q \/ ∃ a o, y = .ref a /\ nY H a x o /\ Q (.bl (if neg then !o.isSome else o.isSome)) H
theorem nU {xs : List PyData} {d : PyData} (h : nr xs d = true) : PyData.canLayAll0 xs = true /\ d.canLay0 = true /\ min (PyData.depthAll xs) d.depth <= 60 := by
  unfold nr at h;rw [Bool.and_eq_true, Bool.and_eq_true, decide_eq_true_eq] at h;exact ⟨h.1.1, h.1.2, h.2⟩
theorem xy (hu : X.A.units + 64 < cLine) : iZ X (compareOp .In) (Cy X false) := by
  intro pins s σ H x y v u Q I rx ry h;rcases h with h | ⟨a, o, rfl, g, q⟩
  case inr =>
    cases ry;exact Fg (by omega) I g rx fun s' I' => ⟨.bl _, H, I', rfl, q⟩
  obtain ⟨d, xs, hx, hy, ho, q⟩ := h;obtain ⟨c1, c2, c3⟩ := nU ho;obtain ⟨as, r1⟩ := dk I.hok c2 hx rx;rcases hy with hy | hy
  · obtain ⟨bs, r2⟩ := dk I.hok (d := .list xs) (by simpa only [PyData.canLay0] using c1) hy ry;exact PySem.SeqAt.in_list_reads r2 r1 c1 c2 (by omega) ⟨.bl _, H, I, rfl, q⟩
  · obtain ⟨bs, r2⟩ := dk I.hok (d := .tuple xs) (by simpa only [PyData.canLay0] using c1) hy ry;exact PySem.SeqAt.in_tuple_reads r2 r1 c1 c2 (by omega) ⟨.bl _, H, I, rfl, q⟩
theorem v7 (hu : X.A.units + 64 < cLine) : iZ X (compareOp .NotIn) (Cy X true) := by
  intro pins s σ H x y v u Q I rx ry h;rcases h with h | ⟨a, o, rfl, g, q⟩
  case inr =>
    cases ry;exact Ao (by omega) I g rx fun s' I' => ⟨.bl _, H, I', rfl, q⟩
  obtain ⟨d, xs, hx, hy, ho, q⟩ := h;obtain ⟨c1, c2, c3⟩ := nU ho;obtain ⟨as, r1⟩ := dk I.hok c2 hx rx;rcases hy with hy | hy
  · obtain ⟨bs, r2⟩ := dk I.hok (d := .list xs) (by simpa only [PyData.canLay0] using c1) hy ry;exact PySem.SeqAt.notIn_list_reads r2 r1 c1 c2 (by omega) ⟨.bl _, H, I, rfl, q⟩
  · obtain ⟨bs, r2⟩ := dk I.hok (d := .tuple xs) (by simpa only [PyData.canLay0] using c1) hy ry;exact PySem.SeqAt.notIn_tuple_reads r2 r1 c1 c2 (by omega) ⟨.bl _, H, I, rfl, q⟩
theorem xI {neg : Bool} : bX X gQ (Cy X neg) (lI neg) := fun H x y dx dy Q hx hy q => by
  unfold lI at q;split at q
  · split at q
    · rename_i h; exact .inl ⟨dx, _, hx, .inl hy, h, q _ H (aE.refl _) eY⟩
    · exact q.elim
  · split at q
    · rename_i h; exact .inl ⟨dx, _, hx, .inr hy, h, q _ H (aE.refl _) eY⟩
    · exact q.elim
  · split at q
    · exact q.elim
    rename_i hi;split at q
    · rename_i κ e;obtain ⟨a, ks, rfl, h, r⟩ := lf (Bool.not_eq_true _ ▸ hi) hy;obtain ⟨o, g, e1, _⟩ := u8 (κ := κ) h r;rw [<- vn hx e] at g;rw [<- rN e] at e1;exact .inr ⟨a, o, rfl, g, by rw [e1]; exact q _ H (aE.refl _) eY⟩
    · exact q.elim
  · exact q.elim
theorem vG (hu : X.A.units + 64 < cLine) (ha : bK X a fa) (hb : bK X b fb) (hm : behindInMarks .In b = false) : ai X (.Compare a [.In] [b] pos) (e2 (lI false) fa fb) := qN (xy hu) xI ha hb hm
theorem Z.vG (hu : X.A.units + 64 < cLine) (ha : Z.bK X a fa) (hb : Z.bK X b fb) (hm : behindInMarks .In b = false) : Z.ai X (.Compare a [.In] [b] pos) (e2 (lI false) fa fb) :=
  ⟨D2.vG hu ha.un hb.un hm⟩
theorem lP (hu : X.A.units + 64 < cLine) (ha : bK X a fa) (hb : bK X b fb) (hm : behindInMarks .In b = false) : hZ X (.Compare a [.In] [b] pos) (tE (e2 (lI false) fa fb)) := gK (xy hu) xI ha hb hm
theorem Z.lP (hu : X.A.units + 64 < cLine) (ha : Z.bK X a fa) (hb : Z.bK X b fb) (hm : behindInMarks .In b = false) : Z.hZ X (.Compare a [.In] [b] pos) (tE (e2 (lI false) fa fb)) :=
  ⟨D2.lP hu ha.un hb.un hm⟩
theorem jV (hu : X.A.units + 64 < cLine) (ha : bK X a fa) (hb : bK X b fb) (hm : behindInMarks .NotIn b = false) : hZ X (.Compare a [.NotIn] [b] pos) (tE (e2 (lI true) fa fb)) := gK (v7 hu) xI ha hb hm
theorem Z.jV (hu : X.A.units + 64 < cLine) (ha : Z.bK X a fa) (hb : Z.bK X b fb) (hm : behindInMarks .NotIn b = false) : Z.hZ X (.Compare a [.NotIn] [b] pos) (tE (e2 (lI true) fa fb)) :=
  ⟨D2.jV hu ha.un hb.un hm⟩
end
inductive xk where
  | nx (ρ : aN)
  | rt (d : PyData)
  | bk (ρ : aN)
  | ct (ρ : aN)
abbrev Fs := aN -> R xk
structure iB (Fm H : Hp) (σ : St) (ρ : aN) : Prop where
  fm : aE Fm H
  sl : Sl H σ ρ
  own : ∀ (i : Nat) (d : PyData) (a : Addr), ρ[i]? = some (.own d) -> σ[i]? = some (some (.ref a)) -> Fm a = none
  apart : ∀ (i j : Nat) (d e : PyData) (a : Addr), ρ[i]? = some (.own d) -> ρ[j]? = some (.own e) -> σ[i]? = some (some (.ref a)) -> σ[j]? = some (some (.ref a)) -> i = j
theorem iB.mono {Fm H H' : Hp} {σ : St} {ρ : aN} (h : iB Fm H σ ρ) (s : aE H H') : iB Fm H' σ ρ := ⟨h.fm.trans s, h.sl.mono s, h.own, h.apart⟩
def zY (X : Cx) (Fm : Hp) (r : R xk) (D : rW) : Prop :=
  match r with
  | .ok (.nx ρ) => ∀ σ H, iB Fm H σ ρ -> D.nx σ H
  | .ok (.rt d) => ∀ v H, aE Fm H -> Rp H d v -> D.rt v H
  | .ok (.bk ρ) => ∀ σ H, iB Fm H σ ρ -> D.bk σ H
  | .ok (.ct ρ) => ∀ σ H, iB Fm H σ ρ -> D.ct σ H
  | .ex c => Xw X c Fm /\ DF X c Fm
  | .no => False
def Bs (X : Cx) (Fm : Hp) (g : Fs) : TS := fun D σ H => ∃ ρ, iB Fm H σ ρ /\ zY X Fm (g ρ) D
def fA (X : Cx) (st : Stmt) (g : Fs) : Prop := ∀ Fm, PS X st (Bs X Fm g)
structure Z.fA (X : Cx) (st : Stmt) (g : Fs) : Prop where
  un : D2.fA X st g
def h7 (X : Cx) (st : List Stmt) (g : Fs) : Prop := ∀ Fm, qX X st (Bs X Fm g)
structure Z.h7 (X : Cx) (st : List Stmt) (g : Fs) : Prop where
  un : D2.h7 X st g
theorem PS.imp {X : Cx} {e : Stmt} {t t' : TS} (h : PS X e t) (i : ∀ D σ H, t' D σ H -> t D σ H) : PS X e t' := fun pins s σ H D I q => h pins s σ H D I (i D σ H q)
theorem qX.imp {X : Cx} {e : List Stmt} {t t' : TS} (h : qX X e t) (i : ∀ D σ H, t' D σ H -> t D σ H) : qX X e t' := fun pins s σ H D I q => h pins s σ H D I (i D σ H q)
section
variable {X : Cx} {Fm : Hp} {σ : St} {H : Hp} {D : rW}
theorem mf {P : Hp -> Hp -> PyData -> V -> Prop} {f : Fe} {k : aN -> PyData -> R xk} (h : Bs X Fm (fun ρ => f ρ >>= k ρ) D σ H) :
    ki X P f σ H (fun v H1 => ∃ ρ d, iB Fm H1 σ ρ /\ aE H H1 /\ P H H1 d v /\ zY X Fm (k ρ d) D) := by
  obtain ⟨ρ, sl, q⟩ := h;refine ⟨ρ, sl.sl, ?_⟩;dsimp only at q;cases e : f ρ with
  | ok d => rw [e] at q; exact fun v H1 s p => ⟨ρ, d, sl.mono s, s, p, q⟩
  | ex c => rw [e] at q; exact q.1.mono sl.fm
  | no => rw [e] at q; exact q
theorem u7 {f : aN -> R Bool} {k : aN -> Bool -> R xk} (h : Bs X Fm (fun ρ => f ρ >>= k ρ) D σ H) : zM X f σ H (fun b H1 => ∃ ρ, iB Fm H1 σ ρ /\ aE H H1 /\ zY X Fm (k ρ b) D) := by
  obtain ⟨ρ, sl, q⟩ := h;refine ⟨ρ, sl.sl, ?_⟩;dsimp only at q;cases e : f ρ with
  | ok d => rw [e] at q; exact fun H1 s => ⟨ρ, sl.mono s, s, q⟩
  | ex c => rw [e] at q; exact q.1.mono sl.fm
  | no => rw [e] at q; exact q
end
def dC : Fs := fun ρ => .ok (.nx ρ)
def u6 (h : Fs) : xk -> R xk
  | .nx ρ => h ρ
  | o => .ok o
def aU (g h : Fs) : Fs := fun ρ => g ρ >>= u6 h
def lH (t : aN -> R Bool) (g h : Fs) : Fs := fun ρ => t ρ >>= fun b => if b = true then g ρ else h ρ
def cF (f : Fe) : Fs := fun ρ => f ρ >>= fun d => .ok (.rt d)
def bQ (i : Nat) (f : Fe) : Fs := fun ρ => f ρ >>= fun d => .ok (.nx (ρ.set i (.val d)))
def gw (i : Nat) (f : Fe) : Fs := fun ρ => f ρ >>= fun d => .ok (.nx (ρ.set i (.own d)))
section
variable {X : Cx} {nl : Nat} {G : List Str} {st : Stmt} {sts : List Stmt} {g h : Fs} {f : Fe} {e : Expr} {pos pos' : Pos} {x : Str}
theorem dI : h7 X [] dC := fun Fm => qX.imp AA fun D σ H ⟨ρ, sl, q⟩ => q σ H sl
theorem Z.dI  : Z.h7 X [] dC :=
  ⟨D2.dI⟩
theorem ao (h1 : fA X st g) (h2 : h7 X sts h) : h7 X (st :: sts) (aU g h) := fun Fm => by
  refine qX.imp (nQ (h1 Fm) (h2 Fm)) fun D σ H ⟨ρ, sl, q⟩ => ⟨ρ, sl, ?_⟩
  unfold aU at q;cases e : g ρ with
  | ex c => rw [e] at q; exact q
  | no => rw [e] at q; exact q
  | ok o =>
    rw [e] at q;cases o with
    | nx ρ' => exact fun σ' H' s' => ⟨ρ', s', q⟩
    | rt d => exact q
    | bk ρ' => exact q
    | ct ρ' => exact q
theorem Z.ao (h1 : Z.fA X st g) (h2 : Z.h7 X sts h) : Z.h7 X (st :: sts) (aU g h) :=
  ⟨D2.ao h1.un h2.un⟩
theorem aF (h1 : fA X st g) : h7 X [st] g := fun Fm => vK (h1 Fm)
theorem Z.aF (h1 : Z.fA X st g) : Z.h7 X [st] g :=
  ⟨D2.aF h1.un⟩
theorem bg (he : ai X e f) : fA X (.Return (some e) pos) (cF f) := fun Fm =>
  PS.imp (CJ he) fun D σ H h => (mf (P := gQ) (f := f) (k := fun _ d => .ok (.rt d)) h).post fun v H1 ⟨ρ, d, sl, _, p, q⟩ => q v H1 sl.fm p
theorem Z.bg (he : Z.ai X e f) : Z.fA X (.Return (some e) pos) (cF f) :=
  ⟨D2.bg he.un⟩
theorem eV {c : Expr} {a b : List Stmt} {t : aN -> R Bool} (hc : hZ X c t) (ha : h7 X a g) (hb : h7 X b h) : fA X (.If c a b pos) (lH t g h) := fun Fm =>
  PS.imp (D5 hc (ha Fm) (hb Fm)) fun D σ H q => (u7 (f := t) (k := fun ρ b => if b = true then g ρ else h ρ) q).post fun b H1 ⟨ρ, sl, _, q⟩ => by
    cases b with
    | true => exact ⟨ρ, sl, q⟩
    | false => exact ⟨ρ, sl, q⟩
theorem Z.eV {c : Expr} {a b : List Stmt} {t : aN -> R Bool} (hc : Z.hZ X c t) (ha : Z.h7 X a g) (hb : Z.h7 X b h) : Z.fA X (.If c a b pos) (lH t g h) :=
  ⟨D2.eV hc.un ha.un hb.un⟩
theorem Sl.set {H : Hp} {σ : St} {ρ : aN} {c : ba} {o : Option V} (h : Sl H σ ρ) (i : Nat) (hc : jr H c o) : Sl H (σ.set i o) (ρ.set i c) := by
  refine ⟨by rw [List.length_set, List.length_set]; exact h.1, fun j c' o' h1 h2 => ?_⟩;rw [List.getElem?_set] at h1 h2;by_cases hij : i = j
  · rw [if_pos hij] at h1 h2;by_cases hi : i < ρ.length
    · rw [if_pos hi] at h1;rw [if_pos (by rw [h.1]; exact hi)] at h2;cases h1; cases h2; exact hc
    · rw [if_neg hi] at h1; cases h1
  · rw [if_neg hij] at h1 h2;exact h.2 j c' o' h1 h2
theorem bV {ρ : aN} {i j : Nat} {c : ba} {d : PyData} (hc : ∀ e, c ≠ .own e) (h : (ρ.set i c)[j]? = some (.own d)) : i ≠ j /\ ρ[j]? = some (.own d) := by
  rw [List.getElem?_set] at h;by_cases hij : i = j
  · rw [if_pos hij] at h;split at h
    · exact absurd (Option.some.inj h) (hc d)
    · cases h
  · rw [if_neg hij] at h; exact ⟨hij, h⟩
theorem iB.set {Fm H : Hp} {σ : St} {ρ : aN} {c : ba} {o : Option V} (h : iB Fm H σ ρ) (i : Nat) (hn : ∀ e, c ≠ .own e) (hc : jr H c o) : iB Fm H (σ.set i o) (ρ.set i c) := by
  refine ⟨h.fm, h.sl.set i hc, fun j d a h1 h2 => ?_, fun j k d e a h1 h2 h3 h4 => ?_⟩
  · obtain ⟨ne, h1⟩ := bV hn h1;rw [List.getElem?_set, if_neg ne] at h2;exact h.own j d a h1 h2
  · obtain ⟨ne, h1⟩ := bV hn h1;obtain ⟨ne', h2⟩ := bV hn h2;rw [List.getElem?_set, if_neg ne] at h3;rw [List.getElem?_set, if_neg ne'] at h4;exact h.apart j k d e a h1 h2 h3 h4
theorem qS {H : Hp} {d : PyData} {v : V} (h : ja H d v) : ∃ a o, v = .ref a /\ H a = some o := by
  cases d <;> simp only [ja] at h
  · obtain ⟨a, vs, e, ha, _⟩ := h; exact ⟨a, _, e, ha⟩
  · obtain ⟨a, vs, e, ha, _⟩ := h; exact ⟨a, _, e, ha⟩
theorem iB.setOwn {Fm H0 H : Hp} {σ : St} {ρ : aN} {d : PyData} {v : V} (h0 : iB Fm H0 σ ρ) (h : iB Fm H σ ρ) (hs : aE H0 H) (i : Nat) (hn : CU H0 H d v) : iB Fm H (σ.set i (some v)) (ρ.set i (.own d)) := by
  obtain ⟨p, a, rfl, ha⟩ := hn;have old : ∀ (j : Nat) (e : PyData) (b : Addr), i ≠ j -> (ρ.set i (.own d))[j]? = some (.own e) -> (σ.set i (some (.ref a)))[j]? = some (some (.ref b)) -> ρ[j]? = some (.own e) /\ σ[j]? = some (some (.ref b)) := fun j e b ne h1 h2 => by
    rw [List.getElem?_set, if_neg ne] at h1 h2;exact ⟨h1, h2⟩
  have notA : ∀ (j : Nat) (e : PyData), ρ[j]? = some (.own e) -> σ[j]? = some (some (.ref a)) -> False := fun j e h1 h2 => by
    obtain ⟨u, e1, q⟩ := h0.sl.2 j _ _ h1 h2;cases e1;obtain ⟨b, o, e2, hb⟩ := qS q;cases e2;rw [ha] at hb; cases hb
  have here : ∀ (b : Addr), (σ.set i (some (.ref a)))[i]? = some (some (.ref b)) -> b = a := fun b h2 => by
    rw [List.getElem?_set, if_pos rfl] at h2;split at h2
    · cases h2; rfl
    · cases h2
  refine ⟨h.fm, h.sl.set i ⟨_, rfl, p⟩, fun j e b h1 h2 => ?_, fun j k e f b h1 h2 h3 h4 => ?_⟩
  · by_cases hij : i = j
    · subst hij;rw [here b h2];exact (h0.fm).free ha
    · obtain ⟨h1, h2⟩ := old j e b hij h1 h2;exact h.own j e b h1 h2
  · by_cases hij : i = j
    · subst hij;have eb := here b h3;by_cases hik : i = k
      · exact hik
      · obtain ⟨h2, h4⟩ := old k f b hik h2 h4;rw [eb] at h4;exact (notA k f h2 h4).elim
    · obtain ⟨h1, h3⟩ := old j e b hij h1 h3;by_cases hik : i = k
      · subst hik;have eb := here b h4;rw [eb] at h3;exact (notA j e h1 h3).elim
      · obtain ⟨h2, h4⟩ := old k f b hik h2 h4;exact h.apart j k e f b h1 h2 h3 h4
theorem bt (T : Tb X nl G) (i : Nat) (hN : (X.N.take nl)[i]? = some x) (he : ai X e f) (hs : swapsWith e (some (.Name x pos')) pos.line X.env = pure false := by rfl) : fA X (.Assign [.Name x pos'] e pos) (bQ i f) := fun Fm => by
  have hm := T.loc x (List.mem_of_getElem? hN);have hi : X.N[i]? = some x := by
    rw [List.getElem?_take] at hN;split at hN
    · exact hN
    · cases hN
  exact PS.imp (zf T.nd hi hm.1 he hs hm.2) fun D σ H h => (mf (P := gQ) (f := f) (k := fun ρ d => .ok (.nx (ρ.set i (.val d)))) h).post fun v H1 ⟨ρ, d, sl, _, p, q⟩ =>
    q _ H1 (sl.set i (fun e z => by cases z) ⟨v, rfl, p⟩)
theorem Z.bt (T : Tb X nl G) (i : Nat) (hN : (X.N.take nl)[i]? = some x) (he : Z.ai X e f) (hs : swapsWith e (some (.Name x pos')) pos.line X.env = pure false := by rfl) : Z.fA X (.Assign [.Name x pos'] e pos) (bQ i f) :=
  ⟨D2.bt T i hN he.un hs⟩
theorem iW (T : Tb X nl G) (i : Nat) (hN : (X.N.take nl)[i]? = some x) (he : gg X e f) (hs : swapsWith e (some (.Name x pos')) pos.line X.env = pure false := by rfl) : fA X (.Assign [.Name x pos'] e pos) (gw i f) := fun Fm => by
  have hm := T.loc x (List.mem_of_getElem? hN);have hi : X.N[i]? = some x := by
    rw [List.getElem?_take] at hN;split at hN
    · exact hN
    · cases hN
  refine PS.imp (zf T.nd hi hm.1 he hs hm.2) fun D σ H h => ?_
  obtain ⟨ρ0, sl0, q0⟩ := h;refine ⟨ρ0, sl0.sl, ?_⟩;unfold gw at q0;cases ef : f ρ0 with
  | ex c => rw [ef] at q0; exact q0.1.mono sl0.fm
  | no => rw [ef] at q0; exact q0
  | ok d =>
    rw [ef] at q0;exact fun v H1 s p => q0 _ H1 (iB.setOwn sl0 (sl0.mono s) s i p)
theorem Z.iW (T : Tb X nl G) (i : Nat) (hN : (X.N.take nl)[i]? = some x) (he : Z.gg X e f) (hs : swapsWith e (some (.Name x pos')) pos.line X.env = pure false := by rfl) : Z.fA X (.Assign [.Name x pos'] e pos) (gw i f) :=
  ⟨D2.iW T i hN he.un hs⟩
end
structure zt (J : It) (Gd : Hp -> Prop) (ds : List PyData) : Prop where
  go : ∀ i H, Gd H -> i < ds.length -> J.go i H
  yld : ∀ i H x H' d, Gd H -> ds[i]? = some d -> J.yld i H x H' -> aE H H' /\ Rp H' d x
  stop : ∀ i H, Gd H -> ds.length <= i -> J.stop i H
def Ev (H0 : Hp) (B : Addr -> Prop) (Gd : Hp -> Prop) : Prop := ∀ H, Kp H0 H -> (∀ b o, B b -> H0 b = some o -> H b = some o) -> Gd H
def Fk (X : Cx) (f : aN -> R (List PyData)) : TI := fun σ H Rk => ∃ ρ, Sl H σ ρ /\ match f ρ with
  | .ok ds => ∀ J H', aE H H' -> (∃ Gd, zt J Gd ds /\ Ev H' (fun _ => False) Gd) -> Rk J H'
  | .ex c => Xw X c H
  | .no => False
def pc (X : Cx) (tg iter : Expr) (f : aN -> R (List PyData)) : Prop := PI X tg iter (Fk X f)
structure Z.pc (X : Cx) (tg iter : Expr) (f : aN -> R (List PyData)) : Prop where
  un : D2.pc X tg iter f
def Fp (X : Cx) (b : PyData -> aN -> Option aN) : TG := fun v σ H Q => ∃ ρ d, Sl H σ ρ /\ Rp H d v /\ match b d ρ with
  | some ρ' => ∀ σ', Sl H σ' ρ' -> (∀ (i : Nat) (e : PyData), ρ'[i]? = some (.own e) -> ρ[i]? = some (.own e) /\ σ'[i]? = σ[i]?) -> Q σ' H
  | none => False
def pf (X : Cx) (tg : Expr) (b : PyData -> aN -> Option aN) : Prop := PG X tg (Fp X b)
structure Z.pf (X : Cx) (tg : Expr) (b : PyData -> aN -> Option aN) : Prop where
  un : D2.pf X tg b
def aS (i : Nat) : PyData -> aN -> Option aN := fun d ρ => some (ρ.set i (.val d))
theorem PG.imp {X : Cx} {e : Expr} {t t' : TG} (h : PG X e t) (i : ∀ v σ H Q, t' v σ H Q -> t v σ H Q) : PG X e t' := fun pins s σ H v u Q I r q => h pins s σ H v u Q I r (i v σ H Q q)
theorem PI.imp {X : Cx} {tg e : Expr} {t t' : TI} (h : PI X tg e t) (i : ∀ σ H Q, t' σ H Q -> t σ H Q) : PI X tg e t' := fun pins s σ H Q I q => h pins s σ H Q I (i σ H Q q)
section
variable {X : Cx} {nl : Nat} {G : List Str} {x : Str} {pos : Pos}
theorem Tb.nm (T : Tb X nl G) {i : Nat} (hN : (X.N.take nl)[i]? = some x) : X.N[i]? = some x /\ Bc X.env.scope x /\ (X.fn x = true \/ X.env.scope.names.lookup x = some .local) := by
  have hm := T.loc x (List.mem_of_getElem? hN);have hi : X.N[i]? = some x := by
    rw [List.getElem?_take] at hN;split at hN
    · exact hN
    · cases hN
  exact ⟨hi, hm⟩
theorem bz (T : Tb X nl G) (i : Nat) (hN : (X.N.take nl)[i]? = some x) : pf X (.Name x pos) (aS i) := by
  obtain ⟨hi, h1, h2⟩ := T.nm hN;refine PG.imp (j6 T.nd hi h1 h2) fun v σ H Q ⟨ρ, d, sl, p, q⟩ => ?_
  refine q _ (sl.set i ⟨v, rfl, p⟩) fun j e h => ?_
  obtain ⟨ne, h⟩ := bV (fun e z => by cases z) h;exact ⟨h, by rw [List.getElem?_set, if_neg ne]⟩
theorem Z.bz (T : Tb X nl G) (i : Nat) (hN : (X.N.take nl)[i]? = some x) : Z.pf X (.Name x pos) (aS i) :=
  ⟨D2.bz T i hN⟩
end
def eS (b : PyData -> aN -> Option aN) (g : Fs) : List PyData -> Fs
  | [], ρ => .ok (.nx ρ)
  | d :: ds, ρ => match b d ρ with
    | none => .no
    | some ρ1 => g ρ1 >>= fun o => match o with
      | .nx ρ2 => eS b g ds ρ2
      | .ct ρ2 => eS b g ds ρ2
      | .bk ρ2 => .ok (.nx ρ2)
      | .rt r => .ok (.rt r)
def jc (it : aN -> R (List PyData)) (b : PyData -> aN -> Option aN) (g : Fs) : Fs := fun ρ => it ρ >>= fun ds => eS b g ds ρ
def stab (Fm H : Hp) : Hp := fun b => match H b with
  | some (.tup xs) => some (.tup xs)
  | some (.frz o u) => some (.frz o u)
  | _ => Fm b
theorem wg {Fm H : Hp} (h : aE Fm H) : aE (stab Fm H) H := fun b o e => by
  unfold stab at e;split at e
  · rename_i q; rw [q]; exact e
  · rename_i q; rw [q]; exact e
  · exact h b o e
theorem Aq {Fm H : Hp} : Kp H (stab Fm H) := ⟨fun b xs e => by unfold stab; rw [e], fun b o u e => by unfold stab; rw [e]⟩
theorem AT {Fm H : Hp} (h : aE Fm H) : aE Fm (stab Fm H) := fun b o e => by
  have := h b o e;unfold stab;split
  · rename_i q; rw [this] at q; exact q.symm
  · rename_i q; rw [this] at q; exact q.symm
  · exact e
theorem iB.stab {Fm H : Hp} {σ : St} {ρ : aN} (h : iB Fm H σ ρ) : iB (stab Fm H) H σ ρ := by
  refine ⟨wg h.fm, h.sl, fun i d a h1 h2 => ?_, h.apart⟩;have f := h.own i d a h1 h2;obtain ⟨u, e1, q⟩ := h.sl.2 i _ _ h1 h2;cases e1;unfold D2.stab;cases d <;> simp only [ja] at q
  · obtain ⟨b, vs, e, hb, _⟩ := q; cases e; rw [hb]; exact f
  · obtain ⟨b, vs, e, hb, _⟩ := q; cases e; rw [hb]; exact f
theorem iB.unstab {Fm F H : Hp} {σ : St} {ρ : aN} (hF : aE Fm F) (h : iB F H σ ρ) : iB Fm H σ ρ := ⟨hF.trans h.fm, h.sl, fun i d a h1 h2 => hF.free (h.own i d a h1 h2), h.apart⟩
theorem fZ {X : Cx} {tg iter : Expr} {body : List Stmt} {it : aN -> R (List PyData)} {b : PyData -> aN -> Option aN} {g : Fs} {pos : Pos} (hp : PassesOwn (model X.prog X.w) X.A X.env X.xe) (hc : X.calm = true) (hi : pc X tg iter it) (hg : pf X tg b)
    (hb : h7 X body g) (hs : ∀ x, foldedSetIterable iter X.env x = pure x := by intro _; rfl) : fA X (.For tg iter body [] pos) (jc it b g) := fun Fm => by
  intro pins s σ H D I h;obtain ⟨ρ, sl, q⟩ := h;unfold jc at q
  -- the frame: what is stable at the loop's i8 is only known behind the iterator's making: the body is taken at every frame
  refine B6 (wi := Fk X it) (g := Fp X b) (tb := fun D' σ' H' => ∃ F, Bs X F g D' σ' H') hp hc hi hg (fun pins' s' σ' H' D' I' ⟨F, q'⟩ => hb F pins' s' σ' H' D' I' q') hs pins s σ H D I ?_;refine ⟨ρ, sl.sl, ?_⟩;cases ei : it ρ with
  | ex c => rw [ei] at q; exact q.1.mono sl.fm
  | no => rw [ei] at q; exact q
  | ok ds =>
    rw [ei] at q;intro J H1 s1 ⟨Gd, idt, sta⟩;have sl1 := sl.mono s1;let F := stab Fm H1
    have hF : aE Fm F := AT sl1.fm
    -- the word: so many items are taken, and the dg gives what the whole gives
    refine ⟨fun i m σ' H' => m = ds.length - i /\ i <= ds.length /\ ∃ ρ', iB F H' σ' ρ' /\ zY X Fm (eS b g (ds.drop i) ρ') D, ⟨ds.length, by simp, Nat.zero_le _, ρ, sl1.stab, by simpa using q⟩, ?_⟩;rintro i m σ2 H2 ⟨rfl, hi', ρ2, sl2, q2⟩;have gd : Gd H2 := sta H2 (Kp.trans Aq (Kp.of sl2.fm)) fun _ _ z => z.elim
    by_cases hlt : i < ds.length
    · refine .inr ⟨idt.go i H2 gd hlt, fun σ' H' => i + 1 <= ds.length /\ ∃ ρ', iB F H' σ' ρ' /\ zY X Fm (eS b g (ds.drop (i + 1)) ρ') D, fun σ' H' ⟨z, p⟩ => ⟨ds.length - (i + 1), by omega, rfl, z, p⟩, fun x H3 y => ?_⟩;obtain ⟨d, hd⟩ : ∃ d, ds[i]? = some d := ⟨ds[i], List.getElem?_eq_getElem hlt⟩
      obtain ⟨s3, p3⟩ := idt.yld i H2 x H3 d gd hd y;have hdrop : ds.drop i = d :: ds.drop (i + 1) := by
        rw [List.drop_eq_getElem_cons hlt];congr 1;exact Option.some.inj ((List.getElem?_eq_getElem hlt).symm.trans hd)
      rw [hdrop] at q2;unfold eS at q2;have sl3 := sl2.mono s3;refine ⟨ρ2, d, sl3.sl, p3, ?_⟩;cases eb : b d ρ2 with
      | none => rw [eb] at q2; exact q2
      | some ρ3 =>
        rw [eb] at q2;intro σ4 sl4 hown;refine ⟨F, ρ3, ⟨sl3.fm, sl4, fun j e a h1 h2 => ?_, fun j k e f a h1 h2 h3 h4 => ?_⟩, ?_⟩
        · obtain ⟨z1, z2⟩ := hown j e h1;exact sl3.own j e a z1 (by rw [<- z2]; exact h2)
        · obtain ⟨z1, z2⟩ := hown j e h1;obtain ⟨z3, z4⟩ := hown k f h2;exact sl3.apart j k e f a z1 z3 (by rw [<- z2]; exact h3) (by rw [<- z4]; exact h4)
        · have q3 : zY X Fm (g ρ3 >>= fun o => match o with
            | .nx ρ2 => eS b g (ds.drop (i + 1)) ρ2
            | .ct ρ2 => eS b g (ds.drop (i + 1)) ρ2
            | .bk ρ2 => .ok (.nx ρ2)
            | .rt r => .ok (.rt r)) D := q2
          cases eg : g ρ3 with
          | ex c => rw [eg] at q3; exact ⟨q3.1.mono hF, q3.2.mono hF⟩
          | no => rw [eg] at q3; exact q3
          | ok o =>
            rw [eg] at q3;cases o with
            | nx ρ4 => exact fun σ' H' s' => ⟨hlt, ρ4, s', q3⟩
            | ct ρ4 => exact fun σ' H' s' => ⟨hlt, ρ4, s', q3⟩
            | bk ρ4 => exact fun σ' H' s' => q3 σ' H' (s'.unstab hF)
            | rt r => exact fun v H' s' p' => q3 v H' (hF.trans s') p'
    · have e : i = ds.length := by omega
      subst e;refine .inl ⟨idt.stop _ H2 gd (Nat.le_refl _), ?_⟩;rw [List.drop_length] at q2;exact q2 σ2 H2 (sl2.unstab hF)
theorem Z.fZ {X : Cx} {tg iter : Expr} {body : List Stmt} {it : aN -> R (List PyData)} {b : PyData -> aN -> Option aN} {g : Fs} {pos : Pos} (hp : PassesOwn (model X.prog X.w) X.A X.env X.xe) (hc : X.calm = true) (hi : Z.pc X tg iter it) (hg : Z.pf X tg b) (hb : Z.h7 X body g) (hs : ∀ x, foldedSetIterable iter X.env x = pure x := by intro _; rfl) : Z.fA X (.For tg iter body [] pos) (jc it b g) :=
  ⟨D2.fZ hp hc hi.un hg.un hb.un hs⟩
def dF (n : Nat) (g : Fs) : List PyData -> R PyData := fun ds => g (ds.map ba.val ++ List.replicate (n - ds.length) .non) >>= fun o => match o with
  | .rt d => .ok d
  | .nx _ => .ok .none
  | _ => .no
def di (F : List PyData -> R PyData) (n : Nat) : Sp := fun vs H Q E => ∃ ds, bu H ds vs /\ ds.length = n /\ match F ds with
  | .ok d => ∀ v H', aE H H' -> Rp H' d v -> Q v H'
  | .ex c => ∀ H', aE H H' -> E (.str c 0) none H'
  | .no => False
theorem zn {H : Hp} {N : List Str} : ∀ {ds : List PyData} {vs : List V}, bu H ds vs -> Sl H (L2.i8 N vs) (ds.map ba.val ++ List.replicate (N.length - ds.length) .non) := fun {ds vs} r => by
  have hl := r.length;refine ⟨by unfold L2.i8; rw [List.length_append, List.length_append, List.length_map, List.length_map, List.length_replicate, List.length_replicate, hl], fun i c o h1 h2 => ?_⟩;by_cases hi : i < ds.length
  · rw [List.getElem?_append_left (by simpa using hi), List.getElem?_map] at h1;cases e : ds[i]? with
    | none => rw [e] at h1; cases h1
    | some d =>
      rw [e] at h1;cases h1;obtain ⟨v, e1, p⟩ := r.get e;unfold L2.i8 at h2;rw [List.getElem?_append_left (by rw [List.length_map, hl]; exact hi), List.getElem?_map, e1] at h2;cases h2;exact ⟨v, rfl, p⟩
  · rw [List.getElem?_append_right (by simpa using hi), List.getElem?_replicate] at h1;split at h1
    · cases h1; exact True.intro
    · cases h1
section
variable {P : Program} {w : World} {H : Hp} {h : Heap} {a : Addr}
theorem qK : ∀ {o : HO}, bR P w H h a o -> ∃ u, h.get? a = some u
  | .lst xs, x => by obtain ⟨_, _, _, _, e⟩ := x; exact ⟨_, e⟩
  | .tup xs, x => by obtain ⟨_, _, _, o, e, _⟩ := x; exact ⟨_, e⟩
  | .dK kvs, x => by obtain ⟨_, _, _, _, o, _, _, e, _⟩ := x; exact ⟨_, e⟩
  | .dT kvs, x => by obtain ⟨_, _, _, _, o, _, _, e, _⟩ := x; exact ⟨_, e⟩
  | .set S n, x => by obtain ⟨o, _, _, _, e, _⟩ := x; exact ⟨_, e⟩
  | .ins C dx fs, x => by obtain ⟨_, _, _, e, _⟩ := x; exact ⟨_, e⟩
  | .own y, x => by obtain ⟨_, e⟩ := x; exact ⟨_, e⟩
  | .xd fs, x => by obtain ⟨_, ⟨_, _, _, e, _⟩, _⟩ := x; exact ⟨_, e⟩
  | .rng lo hi, x => by obtain ⟨_, _, _, e⟩ := x; exact ⟨_, e⟩
  | .frz ob u, x => by obtain ⟨e, _⟩ := x; exact ⟨_, e⟩
  | .tbl ps, x => ⟨_, (show h.get? a = some _ from x)⟩
  | .met f y, x => ⟨_, (show h.get? a = some _ from x)⟩
  | .ext φ, x => by obtain ⟨_, ⟨_, e⟩, _⟩ := x; exact ⟨_, e⟩
end
theorem qh.un {P : Program} {w : World} {outer : List Env} {H H' : Hp} {s s' : Shared} {C : Addr} {e : Value} (f : qh P w outer H s C H' e s') : Un (lJ outer) [] H H' s.heap s'.heap := by
  obtain ⟨p, a0, B, _, fl, ok, _, cov⟩ := f.ex;refine ⟨fun b o q n hb _ => fl.1 _ _ (cov b o q n hb).1, fun b o q n hb _ => (f.slot b o q n hb).1, fun b o q n _ => ?_, fun b o q _ => ?_, fun b xs q => f.same _ _ q, fun b o u q => f.same _ _ q, fun b ps q => ⟨#[], by rw [f.same _ _ q]; simp⟩⟩
  · by_cases hb : b ∈ lJ outer
    · exact (f.slot b o q n hb).2
    · exact (cov b o q n hb).2
  · cases n : H b with
    | none =>
      by_cases hb : b ∈ lJ outer
      · obtain ⟨sl, z⟩ := (f.slot b o q n hb).1; exact ⟨_, z⟩
      · exact ⟨o, fl.1 _ _ (cov b o q n hb).1⟩
    | some u =>
      obtain ⟨o', z⟩ := qK (ok b u (f.same _ _ n));exact ⟨o', fl.1 _ _ z⟩
theorem qh.hok {P : Program} {w : World} {outer : List Env} {H H' : Hp} {s s' : Shared} {C : Addr} {e : Value} (f : qh P w outer H s C H' e s') : ir P w H' s'.heap := by
  obtain ⟨p, a0, B, _, fl, ok, _, _⟩ := f.ex;exact ok.kept fun b u q => fl.1 b u q
theorem CM.un {P : Program} {w : World} {outer : List Env} {H H' : Hp} {s s' : Shared} {C : Addr} {e : Value} (f : CM P w outer H s C H' e s') : Un (lJ outer) [] H H' s.heap s'.heap := f.hld.un
theorem qh.inv {X : Cx} {pins : List (Addr × Obj)} {σ : St} {Hc H1 : Hp} {sc s' : Shared} {C : Addr} {e : Value} (f : qh X.prog X.w X.stack Hc sc C H1 e s') (I : aM X pins σ Hc sc) : aM X pins σ H1 s' :=
  I.call' f.os f.un f.hok f.bare fun b z => absurd z (by simp)
section
variable {P : Program} {w : World} {l : List Env} {H H' : Hp} {s s' : Shared} {C p : Addr} {e : Value}
theorem qh.again {a0 : Value} {B h' : Heap} (f : qh P w l H s C H' e s') (t : sk B l p (.ref C) a0 s'.heap) (t' : sk B l p (.ref C) a0 h') (up : s'.heap.UpToSlots h') (okB : ir P w H' B) (hp : H' p = none)
    (cov : ∀ b o, s.heap.get? b = some o -> H b = none -> b ∉ lJ l -> B.get? b = some o /\ H' b = none) : qh P w l H s C H' (.ref p) { s' with heap := h' } := by
  refine ⟨f.os, f.bare, f.same, ⟨p, a0, B, rfl, t', okB, hp, cov⟩, fun b o q n hb => ?_⟩;obtain ⟨⟨sl, q2⟩, n2⟩ := f.slot b o q n hb;obtain ⟨_, o3, q3, nf⟩ := t.2.2.1.mem hb;rw [q2] at q3;cases q3;obtain ⟨sl3, q4⟩ := up b _ q2 nf;exact ⟨⟨sl3, q4⟩, n2⟩
theorem zk {x : Value} {env env0 : Env} (h : env.frame = env0.frame) : noteFrame x env = noteFrame x env0 := by
  unfold noteFrame PySem.frameOf;rw [h]
theorem qh.note {M : Model} {A : Around} {E : Value -> Shared -> Prop} {Q : Unit -> Shared -> Prop} {env env0 : Env} {outer : List Env} {L : Addr} (f : qh P w l H s C H' e s') (hl : l = env0 :: outer) (hfr : A.frames = some l) (h0 : env0.frame = some L) (h1 : env.frame = some L)
    (k : ∀ h', qh P w l H s C H' e { s' with heap := h' } -> s'.heap.UpToSlots h' -> Q () { s' with heap := h' }) : wpAny M A (noteFrame e env) Q E s' := by
  subst hl;obtain ⟨p, a0, B, rfl, t, okB, hp, cov⟩ := f.ex;rw [zk (h1.trans h0.symm)];exact sg hfr h0 t fun h' t' up => k h' (f.again t t' up okB hp cov) up
theorem qh.pass {α : Type} {M : Model} {A : Around} {E : Value -> Shared -> Prop} {Q : α -> Shared -> Prop} {env : Env} {what : String} (f : qh P w l H s C H' e s') (k : ∀ h', qh P w l H s C H' e { s' with heap := h' } -> E e { s' with heap := h' }) : wpAny M A (PySem.passOn what e env : Sem α) Q E s' := by
  obtain ⟨p, a0, B, rfl, t, okB, hp, cov⟩ := f.ex;exact yU t fun h' t' up => k h' (f.again t t' up okB hp cov)
end
section
variable {P : Program} {w : World} {K : PySem.W.Frag} {mg : Str -> Option Value} {base : Heap} {N : List Str} {qual : Str} {sc : Scope} {f : Addr} {cdv : Value} {A : Around} {outer : List Env} {s : Shared} {H : Hp} {E : XK} {c : Str}
theorem Cu (h : ∀ H', aE H H' -> E (.str c 0) none H') : Xw (fU (cI P w mg) P w K mg base N qual sc f cdv A outer s H E) c H := by
  intro H1 s1 C hm pins σ Hc sc' e s' I fl;obtain ⟨p, a0, B, rfl, fly, okB, hp, cov⟩ := fl.ex;have old : ∀ b o, s.heap.get? b = some o -> b ≠ s.heap.objs.size := fun b o q => Nat.ne_of_lt (Heap.lt_size q)
  refine vW I.ok.frames rfl fly fun h' fl' up => ⟨c, C, H1, hm, ⟨fl.os.trans I.os, fl.bare, s1, ⟨p, a0, B, rfl, fl', okB, hp, fun b o q n hb => ?_⟩, fun b o q n hb => ?_⟩, h H1 s1⟩
  · have q1 := I.base.keep b o q n hb (by simp [fU]);have n1 := I.base.free b o q n (by simp [fU]);refine cov b o q1 n1 fun z => ?_
    have z' : b ∈ (s.heap.objs.size :: lJ outer) := z;rcases List.mem_cons.mp z' with z2 | z2
    · exact old b o q z2
    · exact hb z2
  · obtain ⟨sl, q1⟩ := I.base.slot b o q n hb (by simp [fU]);have n1 := I.base.free b o q n (by simp [fU]);have hb' : b ∈ lJ (fU (cI P w mg) P w K mg base N qual sc f cdv A outer s H E).stack := List.mem_cons_of_mem _ hb;obtain ⟨⟨sl', q2⟩, n2⟩ := fl.slot b _ q1 n1 hb';obtain ⟨_, o3, q3, nf⟩ := fly.2.2.1.mem hb';rw [q2] at q3;cases q3;obtain ⟨sl3, q4⟩ := up b _ q2 nf;exact ⟨⟨sl3, q4⟩, n2⟩
theorem zK (h : ∀ H', aE H H' -> E (.str c 0) none H') : DF (fU (cI P w mg) P w K mg base N qual sc f cdv A outer s H E) c H := by
  intro C hm pins σ Hm sm sH I h' p vs hx;have hin : ∀ env ∈ (fU (cI P w mg) P w K mg base N qual sc f cdv A outer s H E).stack, ∀ b, env.frame = some b -> b ∈ lJ (fU (cI P w mg) P w K mg base N qual sc f cdv A outer s H E).stack := fun env he b hb => List.mem_filterMap.mpr ⟨env, he, hb⟩
  have old : ∀ b o, s.heap.get? b = some o -> b ≠ s.heap.objs.size := fun b o q => Nat.ne_of_lt (Heap.lt_size q)
  refine wpAny_leaves_madeW (s := { sm with heap := h' }) (base := PySem.W.hideAll sm.heap (lJ (fU (cI P w mg) P w K mg base N qual sc f cdv A outer s H E).stack)) I.ok.frames rfl (fun b o q => PySem.W.of_hideAll _ q) (PySem.W.funFrames_hide I.stack hin) hx fun h'' t fl' _ _ up =>
    ⟨c, C, Hm, hm, ⟨I.os, I.bare, sH, ⟨p, .ref t, _, rfl, fl', fun b u q => ?_, ?_, fun b o q n hb => ?_⟩, fun b o q n hb => ?_⟩, h Hm sH⟩
  · refine (I.hok b u q).stay (fun c' v hc z => PySem.W.hideAll_get _ z fun m => ?_) (fun _ z => z) fun _ _ z => z
    have hn := I.stkFree c' m;rcases hc with rfl | hc
    · rw [hn] at q; cases q
    · rw [hn] at hc; cases hc
  · cases q : Hm p with
    | none => rfl
    | some u =>
      obtain ⟨o', z⟩ := qK (I.hok p u q);rw [hx.new] at z; cases z
  · have q1 := I.base.keep b o q n hb (by simp [fU]);have n1 := I.base.free b o q n (by simp [fU]);refine ⟨PySem.W.hideAll_get _ q1 fun z => ?_, n1⟩;have z' : b ∈ (s.heap.objs.size :: lJ outer) := z;rcases List.mem_cons.mp z' with z2 | z2
    · exact old b o q z2
    · exact hb z2
  · obtain ⟨sl, q1⟩ := I.base.slot b o q n hb (by simp [fU]);have n1 := I.base.free b o q n (by simp [fU]);have hb' : b ∈ lJ (fU (cI P w mg) P w K mg base N qual sc f cdv A outer s H E).stack := List.mem_cons_of_mem _ hb;obtain ⟨_, o3, q3, nf⟩ := I.stack.mem hb';rw [q1] at q3;cases q3;obtain ⟨sl3, q4⟩ := up b _ (hx.keeps _ _ q1) nf;exact ⟨⟨sl3, q4⟩, n1⟩
end
theorem qf {P : Program} {w : World} {K : PySem.W.Frag} {mg : Str -> Option Value} {base : Heap} {x qual : Str} {st : Stmt} {f : Addr} {fd : FuncData} {N ps : List Str} {k : Nat} {g : Fs} (F : ie K x qual st f fd) (S : aR N ps (ah st))
    (body : ∀ (cdv : Value) (A : Around) (outer : List Env) (s : Shared) (H : Hp) (E : XK), eK k (A.deeper (envOfC qual (ah st) s.heap.objs.size f cdv)) ->
      h7 (fU (cI P w mg) P w K mg base N qual (ah st) f cdv A outer s H E) (dS st) g) : aY P w K mg base (cI P w mg) (k + 1) f fd ps (di (dF N.length g) ps.length) := by
  obtain ⟨oc, od, kV, doc, pm, an, cdv, ct, osl, rfl, lk, hcd⟩ := F.ex;refine xR lk hcd S (fun vs H Q E ⟨ds, r, hl, _⟩ => by rw [r.length]; exact hl) fun A outer s H vs Q E hr h => ?_
  obtain ⟨ds, r, hl, q⟩ := h;have noOwn : ∀ (i : Nat) (d : PyData), (ds.map ba.val ++ List.replicate (N.length - ds.length) ba.non)[i]? = some (.own d) -> False := fun i d h1 => by
    by_cases hi : i < ds.length
    · rw [List.getElem?_append_left (by simpa using hi), List.getElem?_map] at h1;cases e : ds[i]? with
      | none => rw [e] at h1; cases h1
      | some d => rw [e] at h1; cases h1
    · rw [List.getElem?_append_right (by simpa using hi), List.getElem?_replicate] at h1;split at h1
      · cases h1
      · cases h1
  refine ⟨_, body cdv A outer s H E hr H, _, ⟨aE.refl _, zn r, fun i d a h1 h2 => (noOwn i d h1).elim, fun i j d e a h1 h2 h3 h4 => (noOwn i d h1).elim⟩, ?_⟩;unfold dF at q;cases eg : g (ds.map ba.val ++ List.replicate (N.length - ds.length) .non) with
  | ex c => rw [eg] at q; exact ⟨Cu q, zK q⟩
  | no => rw [eg] at q; exact q.elim
  | ok o =>
    rw [eg] at q;cases o with
    | rt d => exact fun v H' s' p => q v H' s' p
    | nx ρ => exact fun σ' H' s' => q .non H' s'.fm (by simp only [Rp])
    | bk ρ => exact q.elim
    | ct ρ => exact q.elim
def aH (F : List PyData -> R PyData) (fs : aN -> R (List PyData)) : Fe := fun ρ => fs ρ >>= F
theorem zF {X : Cx} {k n : Nat} {f : Addr} {fd : FuncData} {ps : List Str} {F : List PyData -> R PyData} {x : Str} {p pos : Pos} {e : Expr} {es : List Expr} {fs : aN -> R (List PyData)} {nl : Nat} {G : List Str}
    (C : aY X.prog X.w X.K X.mg X.base (cI X.prog X.w X.mg) k f fd ps (di F n)) (hr : eK k X.A) (T : Tb X nl G) (j : Nat) (hG : G[j]? = some x) (hm : X.mg x = some (.ref f)) (hk : PySem.W.keepIn X.K (.ref f) = true) (hb : i4 X.K fd ps []) (ha : pk X (e :: es) fs)
    (hlen : (e :: es).length = n) (hfs : ∀ ρ ds, fs ρ = .ok ds -> ds.length = n)
    (he : (e :: es).all av = true := by rfl) : ai X (.Call (.Name x p) (e :: es) [] pos) (aH F fs) := by
  rw [List.all_cons, Bool.and_eq_true] at he;have g := T.gl x (List.mem_of_getElem? hG);refine PE.imp (As C hr g.1 hm hk hb .nil vJ ha g.2.1 (bh he.1) (oY he.2)) fun σ H Q ⟨ρ, sl, q⟩ => ?_
  refine ⟨ρ, sl, ?_⟩;unfold aH at q;cases e1 : fs ρ with
  | ex c => rw [e1] at q; exact q
  | no => rw [e1] at q; exact q
  | ok ds =>
    rw [e1] at q;intro vs H1 s1 r1;rw [List.append_nil];refine ⟨ds, o7.mp r1, hfs ρ ds e1, ?_⟩;have q' : tP X gQ (F ds) H Q := q;cases e2 : F ds with
    | ok d => rw [e2] at q'; exact fun v H' s' p' => q' v H' (s1.trans s') p'
    | ex c => rw [e2] at q'; exact fun H' s' => Xw.ex q' H' (s1.trans s')
    | no => rw [e2] at q'; exact q'
theorem aq : ∀ ρ ds, aI ρ = .ok ds -> ds.length = 0 := fun ρ ds e => by cases e; rfl
theorem ae {f : Fe} {g : aN -> R (List PyData)} {n : Nat} (h : ∀ ρ ds, g ρ = .ok ds -> ds.length = n) : ∀ ρ ds, af f g ρ = .ok ds -> ds.length = n + 1 := fun ρ ds e => by
  unfold af at e;cases e1 : f ρ with
  | ex c => rw [e1] at e; cases e
  | no => rw [e1] at e; cases e
  | ok d =>
    rw [e1] at e;cases e2 : g ρ with
    | ex c => rw [e2] at e; cases e
    | no => rw [e2] at e; cases e
    | ok ds' => rw [e2] at e; cases e; rw [List.length_cons, h ρ ds' e2]
theorem uL {scope : Scope} {env : Env} (h : ∀ x ∈ scope.names, x.2 = .free -> ∃ c, env.cells.lookup x.1 = some c) :
    ∃ cl, closureFor scope env = pure cl /\ (∀ x c, cl.lookup x = some c -> env.cells.lookup x = some c) /\ ∀ x ∈ scope.names, x.2 = .free -> ∃ c, cl.lookup x.1 = some c := by
  suffices gen : ∀ (names : List (Str × NameKind)) (acc : List (Str × Addr)), (∀ x ∈ names, x.2 = .free -> ∃ c, env.cells.lookup x.1 = some c) -> (∀ x c, acc.lookup x = some c -> env.cells.lookup x = some c) ->
      ∃ cl, (forIn names acc fun x r => if (x.snd == NameKind.free) = true then do let a <- cellOf env x.fst; pure (ForInStep.yield ((x.fst, a) :: r)) else pure (ForInStep.yield r) : Sem (List (Str × Addr))) = pure cl /\
        (∀ x c, cl.lookup x = some c -> env.cells.lookup x = some c) /\ (∀ x c, acc.lookup x = some c -> ∃ c', cl.lookup x = some c') /\ ∀ x ∈ names, x.2 = .free -> ∃ c, cl.lookup x.1 = some c by
    obtain ⟨cl, h1, h2, _, h4⟩ := gen scope.names [] h fun x c e => by simp at e
    refine ⟨cl, ?_, h2, h4⟩;simp only [closureFor];rw [h1];rfl
  intro names;induction names with
  | nil => intro acc _ ha; exact ⟨acc, rfl, ha, fun x c e => ⟨c, e⟩, fun x hx => by cases hx⟩
  | cons y r ih =>
    intro acc hn ha;obtain ⟨n, k⟩ := y;by_cases hk : k = .free
    · subst hk;obtain ⟨c, hc⟩ := hn (n, .free) List.mem_cons_self rfl;obtain ⟨cl, e1, e2, e3, e4⟩ := ih ((n, c) :: acc) (fun x hx => hn x (List.mem_cons_of_mem _ hx)) (fun x c' e => by
        rw [List.lookup_cons] at e;split at e
        · rename_i q;have : x = n := by simpa using q
          subst this; cases e; exact hc
        · exact ha x c' e)
      refine ⟨cl, ?_, e2, fun x c' e => ?_, fun x hx hf => ?_⟩
      · rw [List.forIn_cons];have : cellOf env n = pure c := by unfold cellOf; rw [hc]
        simp only [beq_self_eq_true, if_true, this, pure_bind];exact e1
      · by_cases hx : x = n
        · subst hx; exact e3 x c (by rw [List.lookup_cons]; simp)
        · have hb : (x == n) = false := by simpa using hx
          exact e3 x c' (by rw [List.lookup_cons, hb]; exact e)
      · rcases List.mem_cons.mp hx with rfl | hx
        · exact e3 n c (by rw [List.lookup_cons]; simp)
        · exact e4 x hx hf
    · obtain ⟨cl, e1, e2, e3, e4⟩ := ih acc (fun x hx => hn x (List.mem_cons_of_mem _ hx)) ha;refine ⟨cl, ?_, e2, e3, fun x hx hf => ?_⟩
      · rw [List.forIn_cons];have : (k == NameKind.free) = false := by simpa using hk
        simp only [this, Bool.false_eq_true, if_false, pure_bind];exact e1
      · rcases List.mem_cons.mp hx with rfl | hx
        · exact absurd hf hk
        · exact e4 x hx hf
def D6 (env : Env) (p : Str × NameKind) : NameKind := if (p.2 == .free && env.scope.kind == .function && env.kindOf p.1 == some .cell) = true then .cell else p.2
theorem pd (scope : Scope) (env : Env) : (relabel scope env).names = scope.names.map fun p => (p.1, D6 env p) := by
  unfold relabel;refine List.map_congr_left fun p _ => ?_
  obtain ⟨n, k⟩ := p;unfold D6;dsimp only;split <;> rfl
theorem mO (g : Str × NameKind -> NameKind) (x : Str) : ∀ l : List (Str × NameKind), (l.map fun p => (p.1, g p)).lookup x = (l.lookup x).map fun k => g (x, k)
  | [] => rfl
  | (n, k) :: r => by
    rw [List.map_cons];cases hx : x == n with
    | true =>
      have e : x = n := by simpa using hx
      subst e;simp
    | false =>
      have ne : ¬ x = n := by simpa using hx
      simp only [List.lookup_cons, hx];exact mO g x r
theorem kN (scope : Scope) (env : Env) (x : Str) : (relabel scope env).names.lookup x = (scope.names.lookup x).map fun k => D6 env (x, k) := by
  rw [pd]; exact mO _ _ _
theorem eZ {scope : Scope} {env : Env} {x : Str} {k : NameKind} (h : scope.names.lookup x = some k) (hk : k ≠ .free) : (relabel scope env).names.lookup x = some k := by
  rw [kN, h];have : (k == NameKind.free) = false := by simpa using hk
  simp only [D6, this, Bool.false_and, Bool.false_eq_true, if_false, Option.map_some]
theorem lv {scope : Scope} {env : Env} {x : Str} (h : scope.names.lookup x = some .free) : (relabel scope env).names.lookup x = some .free \/ (relabel scope env).names.lookup x = some .cell := by
  rw [kN, h];unfold D6;dsimp only [Option.map_some];split
  · exact .inr rfl
  · exact .inl rfl
theorem rH {scope : Scope} {env : Env} {x : Str} (hc : ∀ y ∈ scope.names, y.2 ≠ .cell) (h : (relabel scope env).names.lookup x = some .free \/ (relabel scope env).names.lookup x = some .cell) : (x, NameKind.free) ∈ scope.names := by
  cases e : scope.names.lookup x with
  | none =>
    rw [kN, e] at h;rcases h with h | h <;> cases h
  | some k =>
    by_cases hk : k = .free
    · subst hk; exact PySem.mem_of_lookup e
    · exfalso;have := eZ (env := env) e hk;rw [this] at h;rcases h with h | h
      · cases h; exact hk rfl
      · cases h; exact hc _ (PySem.mem_of_lookup e) rfl
def bc (X : Cx) (N : List Str) (scope : Scope) (cl : List (Str × Addr)) (C : Addr) (s : Shared) (H : Hp) (fp : List Addr) (E : Value -> Shared -> Prop := fun _ _ => False) : Cx :=
  { X with N := N, s₀ := s, H₀ := H, env := compEnvC scope cl C X.env, outer := X.stack, stack := X.stack, ex := fp, fn := fun _ => false, pn := [], xe := E }
def ft (sc : Scope) (N : List Str) (own : Nat) (G : List Str) (oN : List Str) (fr : List Nat) : Prop :=
  sc.kind = .function /\ (∀ y ∈ sc.names, y.2 ≠ .cell) /\ (∀ y ∈ sc.names, y.2 = .local -> sc.names.lookup y.1 = some .local) /\ N.Nodup /\ (∀ x ∈ N.take own, sc.names.lookup x = some .local) /\ (∀ x ∈ N.drop own, sc.names.lookup x = some .free) /\
  (∀ x ∈ N, (x == ("__debug__" : Str)) = false /\ (x == ("__classdict__" : Str)) = false) /\ (∀ x ∈ G, sc.names.lookup x = some .globalImplicit /\ (x == ("__debug__" : Str)) = false /\ x ≠ ("__name__" : Str)) /\
  own <= N.length /\ (N.drop own).map some = fr.map fun i => oN[i]?
instance {sc : Scope} {N : List Str} {own : Nat} {G oN : List Str} {fr : List Nat} : Decidable (ft sc N own G oN fr) := by unfold ft; infer_instance
theorem AX {X : Cx} {nl : Nat} {G0 : List Str} (T : Tb X nl G0) {sc : Scope} {N : List Str} {own : Nat} {G oN : List Str} {fr : List Nat} (ck : ft sc N own G oN fr) (cl : List (Str × Addr)) (C : Addr) (s : Shared) (H : Hp) (fp : List Addr) :
    Tb (bc X N sc cl C s H fp) own G := by
  obtain ⟨_, _, _, nd, l, f, db, g, _, _⟩ := ck;refine ⟨T.hu, T.calm, nd, fun x hx => ?_, fun x hx => ?_, fun x hx => ?_⟩
  · refine ⟨?_, db x hx⟩;have hx' : x ∈ N.take own ++ N.drop own := by rw [List.take_append_drop]; exact hx
    rcases List.mem_append.mp hx' with z | z
    · exact .inl (eZ (l x z) (by decide))
    · rcases lv (env := X.env) (f x z) with q | q
      · exact .inr (.inr q)
      · exact .inr (.inl q)
  · have q := eZ (env := X.env) (l x hx) (by decide);exact ⟨.inl q, .inr q⟩
  · obtain ⟨g1, g2, g3⟩ := g x hx;exact ⟨eZ (env := X.env) g1 (by decide), g2, g3⟩
theorem yW {X : Cx} {nl : Nat} {G0 : List Str} (T : Tb X nl G0) {sc : Scope} {N : List Str} {own : Nat} {G oN : List Str} {fr : List Nat} (ck : ft sc N own G oN fr) (cl : List (Str × Addr)) (C : Addr) (s : Shared) (H : Hp) (fp : List Addr) (E : Value -> Shared -> Prop) :
    Tb (bc X N sc cl C s H fp E) own G := let T1 := AX T ck cl C s H fp; ⟨T1.hu, T1.calm, T1.nd, T1.vis, T1.loc, T1.gl⟩
def FF (X : Cx) (ifs : List Expr) (t : TT) : Prop :=
  ∀ (pins : List (Addr × Obj)) (s : Shared) (σ : St) (H : Hp) (Q : Bool -> Hp -> Prop), aM X pins σ H s -> t σ H Q -> wpAny (model X.prog X.w) X.A (forIn ifs true fun c r => if r = true then do let ok <- isTrue c X.env (eval c X.env); pure (ForInStep.yield ok) else pure (ForInStep.yield r))
    (TP X pins σ Q) X.xe s
def uM (X : Cx) (ifs : List Expr) (t : aN -> R Bool) : Prop := FF X ifs (zM X t)
structure Z.uM (X : Cx) (ifs : List Expr) (t : aN -> R Bool) : Prop where
  un : D2.uM X ifs t
theorem dt {X : Cx} : uM X [] (fun _ => .ok true) := fun pins s σ H Q I ⟨ρ, sl, q⟩ => wpAny_tests_nil ⟨H, I, q H (aE.refl _)⟩
theorem Z.dt {X : Cx} : Z.uM X [] (fun _ => .ok true) :=
  ⟨D2.dt⟩
theorem gE {X : Cx} {c : Expr} {t : aN -> R Bool} (h : hZ X c t) : uM X [c] t := fun pins s σ H Q I q => wpAny_tests_one (h pins s σ H Q I q)
theorem Z.gE {X : Cx} {c : Expr} {t : aN -> R Bool} (h : Z.hZ X c t) : Z.uM X [c] t :=
  ⟨D2.gE h.un⟩
def bE (b : PyData -> aN -> Option aN) (t : aN -> R Bool) (f : Fe) (ρ : aN) : List PyData -> R (List PyData)
  | [] => .ok []
  | d :: ds => match b d ρ with
    | none => .no
    | some ρ1 => t ρ1 >>= fun k => if k = true then f ρ1 >>= fun x => bE b t f ρ ds >>= fun xs => .ok (x :: xs) else bE b t f ρ ds
def aB (own : Nat) (fr : List Nat) (ρ : aN) : aN := List.replicate own .non ++ fr.map fun i => ρ.getD i .non
def mK {α : Type} : R α -> R α
  | .ex _ => .no
  | r => r
def bL (it : aN -> R (List PyData)) (own : Nat) (fr : List Nat) (b : PyData -> aN -> Option aN) (t : aN -> R Bool) (f : Fe) : Fe := fun ρ =>
  mK (it ρ) >>= fun ds => if ds.length <= sizeLine then match bE b t f (aB own fr ρ) ds with
    | .ok xs => .ok (.list xs)
    | .ex c => .ex c
    | .no => .no
  else .no
def hW (own : Nat) (fr : List Nat) (σ : St) : St := List.replicate own none ++ fr.map fun i => (σ[i]?).join
theorem Aa {H : Hp} {σ : St} {ρ : aN} (h : Sl H σ ρ) (own : Nat) (fr : List Nat) (hin : ∀ i ∈ fr, i < ρ.length) : Sl H (hW own fr σ) (aB own fr ρ) := by
  refine ⟨by simp [hW, aB], fun i c o h1 h2 => ?_⟩;unfold aB at h1;unfold hW at h2;by_cases hi : i < own
  · rw [List.getElem?_append_left (by simpa using hi), List.getElem?_replicate, if_pos hi] at h1;cases h1; exact True.intro
  · rw [List.getElem?_append_right (by simpa using hi), List.getElem?_map, List.length_replicate] at h1 h2;cases e : fr[i - own]? with
    | none => rw [e] at h1; cases h1
    | some j =>
      rw [e] at h1 h2;have hj := hin j (List.mem_of_getElem? e);have hj' : j < σ.length := by rw [h.1]; exact hj
      cases h1; cases h2;refine h.2 j _ _ ?_ ?_
      · show ρ[j]? = some (ρ.getD j .non);rw [List.getD_eq_getElem?_getD, List.getElem?_eq_getElem hj]; rfl
      · show σ[j]? = some ((σ[j]?).join);rw [List.getElem?_eq_getElem hj']; rfl
section
variable {X : Cx} {pins : List (Addr × Obj)} {σ : St} {H : Hp} {s : Shared} {nl : Nat} {G0 : List Str} {sc : Scope} {N : List Str} {own : Nat} {G : List Str} {fr : List Nat} {cl : List (Str × Addr)} {fp : List Addr} {a C : Addr} {h4 : Heap} {t4 : Nat} {m : Str -> Option Value}
theorem yc (I : aM X pins σ H s) (ck : ft sc N own G X.N fr) (hf : ∀ b ∈ fp, lV X pins H b) (hob : ∀ b ∈ fp, b < s.heap.objs.size) (hcl1 : ∀ x c, cl.lookup x = some c -> X.env.cells.lookup x = some c) (hcl2 : ∀ x ∈ sc.names, x.2 = .free -> ∃ c, cl.lookup x.1 = some c)
    (vis : ∀ x ∈ X.N, CK X.env.scope x) (hout : ∀ y ∈ sc.names, y.2 = .free -> X.env.kindOf y.1 = some .cell \/ X.env.kindOf y.1 = some .free)
    (ha : s.heap.objs.size <= a) (hC : s.heap.objs.size <= C) (hac : a ≠ C) (keep : ∀ b o, s.heap.get? b = some o -> h4.get? b = some o) (hl : h4.get? a = some { cls := .type "list", data := .seq #[] 0 }) (hn : h4.Ns C m) :
    aM (bc X N sc cl C s H fp) [] (hW own fr σ) (cm H a (.lst [])) { s with heap := h4, toks := t4 } := by
  obtain ⟨ck1, ck2, ck3, nd, l, f, db, g, ol, ofr⟩ := ck;have hHa : H a = none := I.hok.fresh ha;have hHC : H C = none := I.hok.fresh hC;have lt : ∀ {b : Addr} {o : Obj}, s.heap.get? b = some o -> b < s.heap.objs.size := fun e => Heap.lt_size e
  have cellLt : ∀ x c, cl.lookup x = some c -> c < s.heap.objs.size := fun x c e => by
    obtain ⟨v, q⟩ := I.cell x c (hcl1 x c e);exact q.lt
  refine ⟨⟨I.ok.mod, ck1, I.ok.glob, I.ok.blt, hC, fun x y c h1 h2 => I.ok.inj x y c (hcl1 x c h1) (hcl1 y c h2), fun x hx => ?_, fun x c hx => (Bool.false_ne_true hx).elim, I.ok.hd, I.ok.frames, .inl rfl, fun b hb => ⟨?_, fun x c e => ?_⟩, I.bs, Nat.le_trans I.ok.bsz I.sz, fun b o e hb => ?_, fun b hb hs => ?_, I.stack, I.stkFree⟩,
    rfl, I.bare, Un.laid keep ha hHa, ⟨m, hn, fun i x v h1 h2 h3 => ?_⟩, fun x c e => ?_, ?_, fun x c e => ?_, fun p hp => ?_, ?_, ?_⟩
  · have q := rH (env := X.env) ck2 (show (relabel sc X.env).names.lookup x = some .free \/ (relabel sc X.env).names.lookup x = some .cell from hx.elim .inr .inl);exact hcl2 _ q rfl
  · exact Nat.ne_of_lt (Nat.lt_of_lt_of_le (hob b hb) hC)
  · exact (hf b hb).2.2.2.2.1 x c (hcl1 x c e)
  · rcases (hf b hb).2.2.2.1 with z | z
    · exact I.ok.noex b o e z
    · exact absurd (Nat.lt_of_lt_of_le (Heap.lt_size e) I.ok.bsz) (Nat.not_lt.mpr z)
  · rcases List.mem_cons.mp (I.stkSub b hs) with z | z
    · exact (hf b hb).2.1 z
    · exact (hf b hb).2.2.1 z
  · -- a captured name
    have hi : ¬ i < own := fun hi => by
      unfold hW at h2;rw [List.getElem?_append_left (by simpa using hi), List.getElem?_replicate, if_pos hi] at h2;cases h2
    unfold hW at h2;rw [List.getElem?_append_right (by simpa using hi), List.getElem?_map, List.length_replicate] at h2;cases e : fr[i - own]? with
    | none => rw [e] at h2; cases h2
    | some j =>
      rw [e] at h2;have h2' : (σ[j]?).join = some v := Option.some.inj h2;have hσ : σ[j]? = some (some v) := by
        cases q : σ[j]? with
        | none => rw [q] at h2'; cases h2'
        | some o => rw [q] at h2'; exact congrArg some h2'
      have hx : (N.drop own)[i - own]? = some x := by
        rw [List.getElem?_drop];have : own + (i - own) = i := by omega
        rw [this]; exact h1
      have hj : X.N[j]? = some x := by
        have q := congrArg (fun l => l[i - own]?) ofr;simp only [List.getElem?_map, hx, e, Option.map_some] at q;exact (Option.some.inj q).symm
      have hfree := f x (List.mem_of_getElem? hx);obtain ⟨c, hc⟩ := hcl2 _ (PySem.mem_of_lookup hfree) rfl;have hXc := hcl1 x c hc;obtain ⟨m0, hn0, hl0⟩ := I.loc;obtain ⟨u, ru, lk⟩ := hl0 j x v hj hσ (vis x (List.mem_of_getElem? hj));have ko := hout _ (PySem.mem_of_lookup hfree) rfl;refine ⟨u, ru, .inr ⟨(lv (env := X.env) hfree).symm, c, hc, ?_⟩⟩;rcases lk with ⟨k1, _⟩ | ⟨_, c', e1, ob, q1, q2⟩
      · exfalso;rcases ko with k | k <;> (rw [k] at k1; cases k1)
      · rw [hXc] at e1;cases e1;exact ⟨ob, keep _ _ q1, q2⟩
  · obtain ⟨v, o, q, d⟩ := I.cell x c (hcl1 x c e);exact ⟨v, o, keep _ _ q, d⟩
  · show cm H a (.lst []) C = none;rw [au (Ne.symm hac)]; exact hHC
  · have q := I.freeC x c (hcl1 x c e);show cm H a (.lst []) c = none;rw [au (Nat.ne_of_lt (Nat.lt_of_lt_of_le (cellLt x c e) ha))]; exact q
  · exact absurd (show p ∈ ([] : List (Addr × Obj)) from hp) (by simp)
  · exact I.hok.laid keep ha ⟨Nat.zero_le _, [], 0, .nil, hl⟩
  · show (hW own fr σ).length = N.length;have q := congrArg List.length ofr;rw [List.length_map, List.length_map, List.length_drop] at q;unfold hW;rw [List.length_append, List.length_replicate, List.length_map];omega
end
def mX (ρ0 ρ1 : aN) : Prop := ρ1.length = ρ0.length /\ ∀ (i : Nat) (c : ba), ρ0[i]? = some c -> c = .non \/ ρ1[i]? = some c
theorem Sl.unfit {H : Hp} {σ : St} {ρ0 ρ1 : aN} (h : Sl H σ ρ1) (f : mX ρ0 ρ1) : Sl H σ ρ0 := by
  refine ⟨h.1.trans f.1, fun i c o h1 h2 => ?_⟩;rcases f.2 i c h1 with rfl | q
  · exact True.intro
  · exact h.2 i c o q h2
def xX (H0 : Hp) (σ : St) (ρ : aN) : Prop := ∀ (i : Nat) (e : PyData), ρ[i]? = some (.own e) -> ∃ v, σ[i]? = some (some v) /\ ja H0 e v
theorem wN {X : Cx} {J : It} {tn : Nat -> Heap -> Prop} {it a : Addr} {fp : List Addr} {tg iter elt : Expr} {ifs : List Expr} {scope : Scope} {pos : Pos} {b : PyData -> aN -> Option aN} {t : aN -> R Bool} {f : Fe} {ds : List PyData} {r : R (List PyData)} {Gd : Hp -> Prop} {H0 : Hp} {ρ0 : aN}
    {Rk : Result -> Shared -> Prop} (T : rP X.prog X.w X.K tg J fp it tn) (calm : X.calm = true) (hfp : ∀ H : Hp, (∀ b ∈ fp, H b = none) -> ∀ b ∈ fp, lV X [] H b) (hxe : ∀ e s', X.xe e s' -> notedBy (model X.prog X.w) X.A X.env (fun x s' => Rk (.error x) s') e s') (hX : ∀ c, r = .ex c -> Xw X c H0) (hno : r ≠ .no) (hg : pf X tg b) (ht : uM X ifs t) (hf : ai X elt f)
    (idt : zt J Gd ds) (sta : Ev H0 (fun _ => False) Gd) (hsz : ds.length <= sizeLine) (ha0 : H0 a = none) (hb0 : ∀ d ρ1, b d ρ0 = some ρ1 -> mX ρ0 ρ1)
    (fin : ∀ xs s' σ' H' vs, r = .ok xs -> aM X [] σ' H' s' -> aE H0 H' -> H' a = some (.lst vs) -> bu H' xs vs -> Rk (.ok .next) s') :
    ∀ {s : Shared} {σ : St} {H : Hp}, aM X [] σ H s -> tn 0 s.heap -> (∀ b ∈ fp, H b = none) -> aE H0 H -> H a = some (.lst []) -> bE b t f ρ0 ds = r -> Sl H σ ρ0 -> xX H0 σ ρ0 ->
      codeAny (model X.prog X.w) X.A (.compLoop (.ListComp elt [⟨tg, iter, ifs, 0⟩] scope pos) 0 (.ref it) (.ref a) X.env) Rk s := by
  intro s σ H I st fr s0 hla hc sl ow;refine codeAny_loop rfl (fun n s => ∃ i acc σ H vs, n = ds.length - i /\ i <= ds.length /\ acc.length <= i /\ aM X [] σ H s /\ tn i s.heap /\ (∀ b ∈ fp, H b = none) /\ aE H0 H /\ H a = some (.lst vs) /\ bu H acc vs /\ (bE b t f ρ0 (ds.drop i) >>= fun dg => .ok (acc ++ dg)) = r /\
    Sl H σ ρ0 /\ xX H0 σ ρ0) (fun n s hI => ?_) ds.length ⟨0, [], σ, H, [], by simp, Nat.zero_le _, Nat.le_refl _, I, st, fr, s0, hla, bu.nil, by rw [List.drop_zero, hc]; cases r <;> rfl, sl, ow⟩
  clear I st fr s0 hla hc sl ow;obtain ⟨i, acc, σ, H, vs, rfl, hi, hal, I, st, fr, s0, hla, ra, hc, sl, ow⟩ := hI;show wpAny _ X.A ((compTurn (.ListComp elt [⟨tg, iter, ifs, 0⟩] scope pos) 0 (.ref it) (.ref a) X.env).onRaise (fun x => do noteFrame x X.env; theTreesLotGoes x)) _ _ s;refine wpAny_noted ?_;rw [compTurn_list];have gd : Gd H := sta H (Kp.of s0) fun _ _ z => z.elim
  have noex : ∀ {α : Type} {m : Sem α} {Q Q' : α -> Shared -> Prop} {s : Shared}, wpAny (model X.prog X.w) X.A m Q X.xe s -> (∀ v s, Q v s -> Q' v s) -> wpAny (model X.prog X.w) X.A m Q' (notedBy (model X.prog X.w) X.A X.env (fun x s' => Rk (.error x) s')) s := fun h k =>
    wpAny_mono h k hxe
  by_cases hlt : i < ds.length
  · obtain ⟨d, hd⟩ : ∃ d, ds[i]? = some d := ⟨ds[i], List.getElem?_eq_getElem hlt⟩
    have hdrop : ds.drop i = d :: ds.drop (i + 1) := by
      rw [List.drop_eq_getElem_cons hlt];congr 1;exact Option.some.inj ((List.getElem?_eq_getElem hlt).symm.trans hd)
    rw [hdrop] at hc;unfold bE at hc;refine wpAny_bind (wpAny_standAt (wpAny_bind (cQ (T.item X rfl rfl rfl calm i [] s σ H _ I (hfp H fr) st (idt.go i H gd hlt)) fun r s1 ⟨u, hr, h1⟩ => ?_)));subst hr;refine wpAny_bind (cQ h1 fun _ s2 ⟨x, H2, I2, r2, y2, st2, fr2⟩ => ?_);obtain ⟨s02, p2⟩ := idt.yld i H x H2 d gd hd y2;have I2' := I2.pinned (hfp H2 fr2) (T.obj _ _ st2);have back : ∀ {σ' : St} {H' : Hp} {s' : Shared}, aM X ([] ++ nW fp s2.heap) σ' H' s' -> aM X [] σ' H' s' /\ tn (i + 1) s'.heap /\ ∀ b ∈ fp, H' b = none := fun {σ' H' s'} J' =>
      ⟨J'.unpinned, T.keep _ _ _ st2 fun b hb o e => (J'.pin (b, o) (List.mem_append_right _ (List.mem_append_right _ (iC hb e)))).1, fun b hb => by
        obtain ⟨o, e, _⟩ := T.obj _ _ st2 b hb;exact (J'.pin (b, o) (List.mem_append_right _ (List.mem_append_right _ (iC hb e)))).2.1⟩
    cases eb : b d ρ0 with
    | none => rw [eb] at hc; exact absurd hc.symm hno
    | some ρ1 =>
      rw [eb] at hc;dsimp only at hc;have hfit := hb0 d ρ1 eb;refine wpAny_bind (noex (hg _ s2 σ H2 x u (fun σ' H' => H' = H2 /\ Sl H2 σ' ρ1 /\ ∀ (i : Nat) (e : PyData), ρ1[i]? = some (.own e) -> ρ0[i]? = some (.own e) /\ σ'[i]? = σ[i]?) I2' r2 ⟨ρ0, d, sl.mono s02, p2, by rw [eb]; exact fun σ' sl' w' => ⟨rfl, sl', w'⟩⟩) fun _ s3 ⟨σ3, H3, I3, e3, sl3, w3⟩ => ?_);subst e3;have ow3 : xX H0 σ3 ρ0 := fun j e h => by
        obtain ⟨v, z1, z2⟩ := ow j e h;rcases hfit.2 j _ h with z | z
        · cases z
        · exact ⟨v, by rw [(w3 j e z).2]; exact z1, z2⟩
      cases et : t ρ1 with
      | no => rw [et] at hc; exact absurd hc.symm hno
      | ex c =>
        rw [et] at hc;exact wpAny_bind (noex (ht _ s3 σ3 H3 (fun _ _ => False) I3 ⟨ρ1, sl3, by rw [et]; exact (hX c hc.symm).mono (s0.trans s02)⟩) fun ok s4 ⟨H4, I4, z⟩ => z.elim)
      | ok k =>
        rw [et] at hc;refine wpAny_bind (noex (ht _ s3 σ3 H3 (fun b' H' => b' = k /\ aE H3 H') I3 ⟨ρ1, sl3, by rw [et]; exact fun H' s' => ⟨rfl, s'⟩⟩) fun ok s4 ⟨H4, I4, e4, s34⟩ => ?_);subst e4;have s04 := (s0.trans s02).trans s34;have hla4 : H4 a = some (.lst vs) := s34 _ _ (s02 _ _ hla);have ra4 : bu H4 acc vs := (ra.mono s02).mono s34;cases ok with
        | false =>
          obtain ⟨J1, J2, J3⟩ := back I4;have hc' : (bE b t f ρ0 (ds.drop (i + 1)) >>= fun dg => .ok (acc ++ dg)) = r := hc;exact wpAny_pure ⟨rfl, ds.length - (i + 1), by omega, i + 1, acc, σ3, H4, vs, rfl, hlt, by omega, J1, J2, J3, s04, hla4, ra4, hc', (sl3.unfit hfit).mono s34, ow3⟩
        | true =>
          have hc' : ((f ρ1 >>= fun x => bE b t f ρ0 (ds.drop (i + 1)) >>= fun xs => .ok (x :: xs)) >>= fun dg => .ok (acc ++ dg)) = r := hc;cases ef : f ρ1 with
          | no => rw [ef] at hc'; exact absurd hc'.symm hno
          | ex c =>
            rw [ef] at hc';exact wpAny_bind (wpAny_bind (noex (hf _ s4 σ3 H4 (fun _ _ => False) I4 ⟨ρ1, sl3.mono s34, by rw [ef]; exact (hX c hc'.symm).mono s04⟩) fun yv s5 ⟨v5, H5, I5, r5, z⟩ => z.elim))
          | ok y =>
              rw [ef, R.ok_bind] at hc';have hc2 : (bE b t f ρ0 (ds.drop (i + 1)) >>= fun dg => .ok ((acc ++ [y]) ++ dg)) = r := by
                rw [<- hc'];cases bE b t f ρ0 (ds.drop (i + 1)) with
                | ok dg => simp only [R.ok_bind, List.append_assoc, List.singleton_append]
                | ex c => rfl
                | no => rfl
              refine wpAny_bind (wpAny_bind (noex (hf _ s4 σ3 H4 (fun v H' => aE H4 H' /\ Rp H' y v) I4 ⟨ρ1, sl3.mono s34, by rw [ef]; exact fun v H' s' p' => ⟨s', p'⟩⟩) fun yv s5 ⟨v5, H5, I5, r5, s45, p5⟩ => ?_));have hla5 : H5 a = some (.lst vs) := s45 _ _ hla4;have hlen : vs.length < sizeLine := by
                rw [ra.length]; omega
              refine wpAny_bind (noex (qe _ s5 σ3 H5 (.ref a) [v5] (.ref a) [yv] (fun _ H' => H' = cm H5 a (.lst (vs ++ [v5]))) I5 rfl (.cons r5 .nil) ⟨a, vs, v5, rfl, rfl, hla5, hlen, rfl⟩) fun _ s6 ⟨v6, H6, I6, r6, e6⟩ => ?_);subst e6;obtain ⟨J1, J2, J3⟩ := back I6;have kp : Kp H5 (cm H5 a (.lst (vs ++ [v5]))) := gG hla5 (.inl ⟨_, rfl⟩);have s06 : aE H0 (cm H5 a (.lst (vs ++ [v5]))) := fun b o e => by
                rw [au (aQ e ha0)]; exact (s04.trans s45) b o e
              refine wpAny_pure (wpAny_pure ⟨rfl, ds.length - (i + 1), by omega, i + 1, acc ++ [y], σ3, _, vs ++ [v5], rfl, hlt, by rw [List.length_append, List.length_singleton]; omega, J1, J2, J3, s06, bd, ?_, hc2, ?_, ow3⟩)
              · exact bu.append (bu.kp kp _ _ (ra4.mono s45)) (bu.cons (Rp.kp kp _ _ p5) bu.nil)
              · have sl5 : Sl H5 σ3 ρ0 := ((sl3.unfit hfit).mono s34).mono s45;refine ⟨sl5.1, fun j c o h1 h2 => ?_⟩;cases c with
                | exc p => exact sl5.2 j _ o h1 h2
                | non => exact True.intro
                | val d' =>
                  obtain ⟨v', z1, z2⟩ := sl5.2 j _ o h1 h2;exact ⟨v', z1, Rp.kp kp _ _ z2⟩
                | own e' =>
                  obtain ⟨v', z1, z2⟩ := ow3 j e' h1;rw [z1] at h2;cases h2;exact ⟨v', rfl, z2.mono s06⟩
  · have e : i = ds.length := by omega
    subst e;rw [List.drop_length] at hc;have hr' : r = .ok acc := by rw [<- hc]; simp only [bE, R.ok_bind, List.append_nil]
    refine wpAny_bind (wpAny_standAt (wpAny_bind (cQ (T.done X rfl rfl rfl calm _ [] s σ H _ I (hfp H fr) st (idt.stop _ H gd (Nat.le_refl _))) fun r s1 ⟨hr, I1⟩ => ?_)));subst hr;exact wpAny_pure (fin acc s1 σ H vs hr' I1 s0 hla ra)
theorem ir.but {P : Program} {w : World} {H : Hp} {h1 h2 : Heap} {C : Addr} (ok : ir P w H h1) (hC : H C = none) (sb : ∀ b o, b ≠ C -> h1.get? b = some o -> h2.get? b = some o) : ir P w H h2 := fun a o e =>
  (ok a o e).stay (fun b u hb q => sb b u (by
    rcases hb with rfl | hb
    · exact aQ e hC
    · exact aQ hb hC) q) (fun _ q => q) fun _ _ q => q
theorem kl {h h' base : Heap} {C : Addr} (tp : ∀ b o, b ≠ C -> h.get? b = some o -> h'.get? b = some o) : ∀ {l : List Env}, C ∉ lJ l -> h.FunFrames base l -> h'.FunFrames base l
  | [], _, _ => trivial
  | env :: l, hC, ⟨hk, ⟨L, o, hf, hn, ho, hd⟩, hr⟩ => ⟨hk, ⟨L, o, hf, hn, tp L o (fun z => hC (List.mem_filterMap.mpr ⟨env, List.mem_cons_self, by rw [hf, z]⟩)) ho, hd⟩, kl tp (fun z => hC (by
    obtain ⟨e, he, hz⟩ := List.mem_filterMap.mp z;exact List.mem_filterMap.mpr ⟨e, List.mem_cons_of_mem _ he, hz⟩)) hr⟩
theorem lx {X : Cx} {tg iter elt : Expr} {ifs : List Expr} {sc : Scope} {pos pos' : Pos} {it : aN -> R (List PyData)} {b : PyData -> aN -> Option aN} {t : aN -> R Bool} {f : Fe} {N : List Str} {own : Nat} {G G0 : List Str} {fr : List Nat} {nl : Nat}
    (T : Tb X nl G0) (ck : ft sc N own G X.N fr) (hout : ∀ y ∈ sc.names, y.2 = .free -> X.env.kindOf y.1 = some .cell \/ X.env.kindOf y.1 = some .free) (hi : pc X tg iter it)
    (hb0 : ∀ ρ d ρ1, b d (aB own fr ρ) = some ρ1 -> mX (aB own fr ρ) ρ1)
    (hbody : ∀ cl C s H fp E, Tb (bc X N sc cl C s H fp E) own G -> pf (bc X N sc cl C s H fp E) tg b /\ uM (bc X N sc cl C s H fp E) ifs t /\ ai (bc X N sc cl C s H fp E) elt f)
    (hs : ∀ x, foldedSetIterable iter X.env x = pure x) {use : Option (Value -> Sem Unit)} {Qc : Value -> Shared -> Prop} {pins : List (Addr × Obj)} {s : Shared} {σ : St} {H : Hp} (I : aM X pins σ H s) {ρ : aN} {ds : List PyData} {r : R (List PyData)} (sl : Sl H σ ρ) (ei : it ρ = .ok ds)
    (hsz : ds.length <= sizeLine) (ec : bE b t f (aB own fr ρ) ds = r) (hX : ∀ c, r = .ex c -> Xw X c H) (hno : r ≠ .no) (hstk : ∃ env0 outer0 L, X.stack = env0 :: outer0 /\ env0.frame = some L /\ X.env.frame = some L)
    (fin : ∀ (xs : List PyData) (a C : Addr) (H' : Hp) (s' : Shared) (m : Str -> Option Value) (vs : List V), r = .ok xs -> aM X pins σ H' s' -> lV X pins H' C -> s'.heap.Ns C m -> aE H H' -> H a = none -> H' a = some (.lst vs) -> bu H' xs vs -> compPost (model X.prog X.w) X.A X.xe use Qc (.ref a) C (.ok .next) s') :
    wpAny (model X.prog X.w) X.A (comprehension (.ListComp elt [⟨tg, iter, ifs, 0⟩] sc pos) sc X.env pos' (newList []) false (eval iter X.env) use) Qc X.xe s := by
  obtain ⟨cl, hcl, hcl1, hcl2⟩ := uL (scope := sc) (env := X.env) fun x hx hf => I.ok.has _ (hout x hx hf)
  have ck' := ck;obtain ⟨ck1, ck2, ck3, _, _, _, _, _, _, ofr⟩ := ck';have hin : ∀ i ∈ fr, i < ρ.length := fun i hi => by
    have e1 : ρ.length = X.N.length := by rw [<- sl.1]; exact I.len
    rw [e1];obtain ⟨k, hk⟩ := List.getElem?_of_mem hi;have q := congrArg (fun l => l[k]?) ofr;simp only [List.getElem?_map, hk, Option.map_some] at q;cases z : (N.drop own)[k]? with
    | none => rw [z] at q; cases q
    | some y =>
      rw [z] at q;have q' : some y = X.N[i]? := Option.some.inj q;exact (List.getElem?_eq_some_iff.mp q'.symm).1
  refine wpAny_comprehension_free (use := use) rfl hs hcl ck1 ck3 ?_;refine cQ (hi pins s σ H (fun J H1 => aE H H1 /\ ∃ Gd, zt J Gd ds /\ Ev H1 (fun _ => False) Gd) I ⟨ρ, sl, by rw [ei]; exact fun J H1 s1 z => ⟨s1, z⟩⟩) fun xv s1 h1 => cQ h1 fun itv s2 h2 => ?_
  obtain ⟨itA, fp, tn, J, H2, e, I2, T2, st2, f2, s02, Gd, idt, sta⟩ := h2;subst e;refine wpAny_newObj_type (wpAny_newFunctionEnv ck2 (by intro y hy; simp at hy) (fun h₁ hns₁ hsb₁ => ?_) ck1);dsimp only at hns₁ hsb₁ ⊢;generalize hHp : s2.heap.push { cls := .type "list", dict := none, data := .seq ([] : List Value).toArray } = Hp2 at hns₁ hsb₁ ⊢;have hC : Hp2.objs.size = s2.heap.objs.size + 1 := by rw [<- hHp, Heap.size_push]
  have hDC : s2.heap.objs.size ≠ Hp2.objs.size := by rw [hC]; exact Nat.ne_of_lt (Nat.lt_succ_self _)
  have hCle : s2.heap.objs.size <= Hp2.objs.size := by rw [hC]; exact Nat.le_succ _
  have below : ∀ b, b < s2.heap.objs.size -> b ≠ Hp2.objs.size := fun b hb => by rw [hC]; exact Nat.ne_of_lt (Nat.lt_succ_of_lt hb)
  have old : ∀ b o, s2.heap.get? b = some o -> h₁.get? b = some o := fun b o e => hsb₁.extBut b o (below b (Heap.lt_size e)) (Heap.get?_push_of_some _ (hHp ▸ Heap.get?_push_of_some _ e))
  have hacc : h₁.get? s2.heap.objs.size = some { cls := .type "list", dict := none, data := .seq ([] : List Value).toArray } := hsb₁.extBut _ _ hDC (Heap.get?_push_of_some _ (hHp ▸ Heap.get?_push_size _ rfl));have hob : ∀ b ∈ fp, b < s2.heap.objs.size := fun b hb => by
    obtain ⟨o, e, _⟩ := T2.obj _ _ st2 b hb;exact Heap.lt_size e
  have sl2 : Sl H2 σ ρ := sl.mono s02;have IC : aM (bc X N sc cl Hp2.objs.size s2 H2 fp) [] (hW own fr σ) (cm H2 s2.heap.objs.size (.lst [])) { s2 with heap := h₁, toks := s2.toks + ([] : List (Str × Value)).length } :=
    yc I2 ck f2 hob hcl1 hcl2 (fun x hx => (T.vis x hx).1) hout (Nat.le_refl _) hCle hDC old hacc hns₁
  let E : Value -> Shared -> Prop := fun e s' => ∃ c Ce pins' σ' H' s1 H1, r = .ex c /\ X.mg c = some (.ref Ce) /\ aM (bc X N sc cl Hp2.objs.size s2 H2 fp) pins' σ' H' s1 /\ aE H2 H1 /\ qh X.prog X.w X.stack H' s1 Ce H1 e s'
  obtain ⟨hg, ht, hf⟩ := hbody cl Hp2.objs.size s2 H2 fp E (yW T ck cl Hp2.objs.size s2 H2 fp E);have ha0 : H2 s2.heap.objs.size = none := I2.hok.fresh (Nat.le_refl _);have hfp : ∀ H' : Hp, (∀ b ∈ fp, H' b = none) -> ∀ b ∈ fp, lV (bc X N sc cl Hp2.objs.size s2 H2 fp E) [] H' b := fun H' hn b hb =>
    ⟨hn b hb, below b (hob b hb), fun z => by
      rcases List.mem_cons.mp (I2.stkSub b z) with y | y
      · exact (f2 b hb).2.1 y
      · exact (f2 b hb).2.2.1 y, .inl hb, fun x c e => (f2 b hb).2.2.2.2.1 x c (hcl1 x c e), fun p hp => absurd (show p ∈ ([] : List (Addr × Obj)) from hp) (by simp)⟩
  have st3 : tn 0 h₁ := T2.keep _ _ _ st2 fun b _ o e => old b o e
  have slC : Sl H2 (hW own fr σ) (aB own fr ρ) := Aa sl2 own fr hin;have fin' : ∀ xs s' σ' H' vs, r = .ok xs -> aM (bc X N sc cl Hp2.objs.size s2 H2 fp E) [] σ' H' s' -> aE H2 H' -> H' s2.heap.objs.size = some (.lst vs) -> bu H' xs vs ->
      compPost (model X.prog X.w) X.A X.xe use Qc (.ref s2.heap.objs.size) Hp2.objs.size (.ok .next) s' := fun xs s' σ' H' vs hr J' s2' hv rv => by
    obtain ⟨m, hn, _⟩ := J'.loc;exact fin xs _ _ H' s' m vs hr (I2.call' (s' := s') (ch := fp) J'.os J'.base J'.hok J'.bare (fun b hb => ⟨(f2 b hb).2.2.2.1, (f2 b hb).2.1, (f2 b hb).2.2.2.2.1, (f2 b hb).2.2.2.2.2⟩)) (I2.fpOk hCle J'.free) hn (s02.trans s2') (s02.free ha0) hv rv
  have hXc : ∀ c, r = .ex c -> Xw (bc X N sc cl Hp2.objs.size s2 H2 fp E) c H2 := fun c hr H1 s1 Ce hm pins' σ' H' s1' e s' J f =>
    ⟨c, Ce, pins', σ', H', s1', H1, hr, hm, J.unwish, s1, f⟩
  have hxe : ∀ e s', E e s' -> notedBy (model X.prog X.w) X.A (compEnvC sc cl Hp2.objs.size X.env) (fun x s' => compPost (model X.prog X.w) X.A X.xe use Qc (.ref s2.heap.objs.size) Hp2.objs.size (.error x) s') e s' := fun e s' hE => by
    obtain ⟨c, Ce, pins', σ', H', s1, H1, hr, hm, J, same1, f⟩ := hE;obtain ⟨env0, outer0, L, k1, k2, k3⟩ := hstk;refine f.note k1 I.ok.frames k2 k3 fun h4 f4 up => ?_
    obtain ⟨m, hn, _⟩ := (f4.inv (X := bc X N sc cl Hp2.objs.size s2 H2 fp) J).loc;refine ⟨m, hn, fun h5 sb cenv _ => ?_⟩;have fC := I2.fpOk hCle J.free;have fC1 : H1 Hp2.objs.size = none := (f4.inv (X := bc X N sc cl Hp2.objs.size s2 H2 fp) J).free;have nfr : Hp2.objs.size ∉ lJ X.stack := fun z => by
      rcases List.mem_cons.mp (I2.stkSub _ z) with y | y
      · exact fC.2.1 y
      · exact fC.2.2.1 y
    have Io := I2.call' (s' := s1) (ch := fp) J.os J.base J.hok J.bare (fun b hb => ⟨(f2 b hb).2.2.2.1, (f2 b hb).2.1, (f2 b hb).2.2.2.2.1, (f2 b hb).2.2.2.2.2⟩);have Io2 : aM X pins σ H' { s1 with heap := PySem.W.hideAll s1.heap [Hp2.objs.size], toks := s1.toks } := by
      obtain ⟨g0, g1, g2, g3, g4, g5⟩ := fC;exact Io.turned (t' := s1.toks) (fun b o hb q => PySem.W.hideAll_get _ q (by simpa using hb)) g0 g1 g3 g4 g5
    obtain ⟨p, a0, B, rfl, t, okB, hp, cov⟩ := f4.ex;have stB : (PySem.W.hideAll B [Hp2.objs.size]).StaysIn B := fun b o q => PySem.W.of_hideAll _ q
    have hid : ∀ {h : Heap} {b : Addr} {o : Obj}, (PySem.W.hideAll h [Hp2.objs.size]).get? b = some o -> b ≠ Hp2.objs.size := fun {h b o} q z => by
      rw [PySem.W.hideAll_none _ (by rw [z]; exact List.mem_singleton.mpr rfl)] at q; cases q
    have tp : ∀ b o, b ≠ Hp2.objs.size -> h4.get? b = some o -> h5.get? b = some o := fun b o hb q => (sb.2 b hb).trans q
    have ne_e : p ≠ Hp2.objs.size := fun z => by
      obtain ⟨oe, vs, q1, _, q2, _⟩ := t.first;obtain ⟨o, es, ep, q3, q4, _⟩ := hn;have q3' : h4.get? Hp2.objs.size = some o := q3;rw [<- z, q1] at q3';cases q3';rw [q2] at q4;cases q4
    have f5 : qh X.prog X.w X.stack H' { s1 with heap := PySem.W.hideAll s1.heap [Hp2.objs.size], toks := s1.toks } Ce H1 (.ref p) { s' with heap := h5 } := by
      refine ⟨f4.os, f4.bare, f4.same, ⟨p, a0, PySem.W.hideAll B [Hp2.objs.size], rfl, ?_, ?_, hp, fun b o q n hb => ?_⟩, fun b o q n hb => ?_⟩
      · obtain ⟨t1, t2, t3, fl, oe, vs, T', oT, ts, a1, a2, a3, a4, a5, a6, a7, a8, a9⟩ := t;refine ⟨fun b o q => tp b o (hid q) (t1 b o (stB b o q)), PySem.W.fresh_of_stays stB t2, kl tp nfr (PySem.W.funFrames_base stB t3), fl, oe, vs, T', oT, ts, tp _ _ ne_e a1, a2, a3, a4, PySem.W.fresh_of_stays stB a5, a6, tp _ _ ?_ a7, a8, a9⟩;intro z;obtain ⟨o, es, ep, q3, q4, _⟩ := hn;have q3' : h4.get? Hp2.objs.size = some o := q3;have a7' : h4.get? T' = some oT := a7;rw [<- z, a7'] at q3';cases q3';rw [a8] at q4;cases q4
      · exact ir.but okB fC1 fun b o hb q => PySem.W.hideAll_get _ q (by simpa using hb)
      · obtain ⟨z1, z2⟩ := cov b o (PySem.W.of_hideAll _ q) n hb;exact ⟨PySem.W.hideAll_get _ z1 (by simpa using hid q), z2⟩
      · obtain ⟨⟨sl', z1⟩, z2⟩ := f4.slot b o (PySem.W.of_hideAll _ q) n hb;exact ⟨⟨sl', tp b _ (hid q) z1⟩, z2⟩
    refine f5.pass fun h6 f6 => ?_
    exact hX c hr H1 (s02.trans same1) Ce hm pins σ H' _ _ _ Io2 f6
  have loop := wN (X := bc X N sc cl Hp2.objs.size s2 H2 fp E) (iter := iter) (scope := sc) (pos := pos) T2 T.calm hfp hxe hXc hno hg ht hf idt sta hsz ha0 (fun d ρ1 e => hb0 ρ d ρ1 e) fin' (IC.wish E) st3 (fun b hb => by
      show cm H2 s2.heap.objs.size (.lst []) b = none;rw [au (Nat.ne_of_lt (hob b hb))]; exact (f2 b hb).1) (cb ha0 _) bd ec (slC.mono (cb ha0 _)) (fun i e h => by
      obtain ⟨o, z1, v, rfl, z2⟩ := slC.at h;exact ⟨v, z1, z2⟩)
  exact codeAny_compStart_list loop (T2.self _ 0 _ _ _ st3 loop)
theorem nP {X : Cx} {tg iter elt : Expr} {ifs : List Expr} {sc : Scope} {pos : Pos} {it : aN -> R (List PyData)} {b : PyData -> aN -> Option aN} {t : aN -> R Bool} {f : Fe} {N : List Str} {own : Nat} {G G0 : List Str} {fr : List Nat} {nl : Nat}
    (T : Tb X nl G0) (ck : ft sc N own G X.N fr) (hout : ∀ y ∈ sc.names, y.2 = .free -> X.env.kindOf y.1 = some .cell \/ X.env.kindOf y.1 = some .free) (hi : pc X tg iter it)
    (hb0 : ∀ ρ d ρ1, b d (aB own fr ρ) = some ρ1 -> mX (aB own fr ρ) ρ1)
    (hbody : ∀ cl C s H fp E, Tb (bc X N sc cl C s H fp E) own G -> pf (bc X N sc cl C s H fp E) tg b /\ uM (bc X N sc cl C s H fp E) ifs t /\ ai (bc X N sc cl C s H fp E) elt f)
    (hs : ∀ x, foldedSetIterable iter X.env x = pure x := by intro _; rfl) (hstk : ∃ env0 outer0 L, X.stack = env0 :: outer0 /\ env0.frame = some L /\ X.env.frame = some L := by exact ⟨_, _, _, rfl, rfl, rfl⟩) : gg X (.ListComp elt [⟨tg, iter, ifs, 0⟩] sc pos) (bL it own fr b t f) := by
  intro pins s σ H Q I h;obtain ⟨ρ, sl, q⟩ := h;unfold bL at q;rw [eval_ListComp];cases ei : it ρ with
  | ex c => rw [ei] at q; exact q.elim
  | no => rw [ei] at q; exact q.elim
  | ok ds =>
    rw [ei] at q;simp only [mK, R.ok_bind] at q;split at q
    · rename_i hsz;cases ec : bE b t f (aB own fr ρ) ds with
      | no => rw [ec] at q; exact q.elim
      | ex c =>
        rw [ec] at q;exact lx (use := none) T ck hout hi hb0 hbody hs I sl ei hsz ec (fun c' hr => by cases hr; exact q) (fun z => nomatch z) hstk fun xs a C H' s' m vs hr => by cases hr
      | ok xs =>
        rw [ec] at q;refine lx (use := none) T ck hout hi hb0 hbody hs I sl ei hsz ec (fun c' hr => by cases hr) (fun z => nomatch z) hstk fun xs' a C H' s' m vs hr I' fC hn s2' ha hv rv => ?_
        cases hr;obtain ⟨f0, f1, f2, f3, f4, f5⟩ := fC;refine ⟨m, hn, fun h' sb => ⟨.ref a, H', I'.turned (t' := s'.toks) (fun b o hb e => sb.extBut b o hb e) f0 f1 f3 f4 f5, rfl, ?_⟩⟩;refine q _ H' s2' ⟨?_, _, rfl, ha⟩;simp only [ja];exact ⟨_, vs, rfl, hv, rv⟩
    · exact q.elim
theorem Z.nP {X : Cx} {tg iter elt : Expr} {ifs : List Expr} {sc : Scope} {pos : Pos} {it : aN -> R (List PyData)} {b : PyData -> aN -> Option aN} {t : aN -> R Bool} {f : Fe} {N : List Str} {own : Nat} {G G0 : List Str} {fr : List Nat} {nl : Nat} (T : Tb X nl G0) (ck : ft sc N own G X.N fr) (hout : ∀ y ∈ sc.names, y.2 = .free -> X.env.kindOf y.1 = some .cell \/ X.env.kindOf y.1 = some .free) (hi : Z.pc X tg iter it) (hb0 : ∀ ρ d ρ1, b d (aB own fr ρ) = some ρ1 -> mX (aB own fr ρ) ρ1) (hbody : ∀ cl C s H fp E, Tb (bc X N sc cl C s H fp E) own G -> Z.pf (bc X N sc cl C s H fp E) tg b /\ Z.uM (bc X N sc cl C s H fp E) ifs t /\ Z.ai (bc X N sc cl C s H fp E) elt f) (hs : ∀ x, foldedSetIterable iter X.env x = pure x := by intro _; rfl) (hstk : ∃ env0 outer0 L, X.stack = env0 :: outer0 /\ env0.frame = some L /\ X.env.frame = some L := by exact ⟨_, _, _, rfl, rfl, rfl⟩) : Z.gg X (.ListComp elt [⟨tg, iter, ifs, 0⟩] sc pos) (bL it own fr b t f) :=
  ⟨D2.nP T ck hout hi.un hb0 (fun cl C s H fp E T => let ⟨q1, q2, q3⟩ := hbody cl C s H fp E T; ⟨q1.un, q2.un, q3.un⟩) hs hstk⟩
theorem AN {X : Cx} {tg iter elt : Expr} {ifs : List Expr} {sc : Scope} {pos py spos : Pos} {it : aN -> R (List PyData)} {b : PyData -> aN -> Option aN} {t : aN -> R Bool} {f : Fe} {N : List Str} {own : Nat} {G G0 : List Str} {fr : List Nat} {nl : Nat} {y : Str} {i : Nat}
    (T : Tb X nl G0) (ck : ft sc N own G X.N fr) (hout : ∀ y ∈ sc.names, y.2 = .free -> X.env.kindOf y.1 = some .cell \/ X.env.kindOf y.1 = some .free) (hi : pc X tg iter it)
    (hb0 : ∀ ρ d ρ1, b d (aB own fr ρ) = some ρ1 -> mX (aB own fr ρ) ρ1)
    (hbody : ∀ cl C s H fp E, Tb (bc X N sc cl C s H fp E) own G -> pf (bc X N sc cl C s H fp E) tg b /\ uM (bc X N sc cl C s H fp E) ifs t /\ ai (bc X N sc cl C s H fp E) elt f)
    (hN : (X.N.take nl)[i]? = some y) (hsw : swapsWith (.ListComp elt [⟨tg, iter, ifs, 0⟩] sc pos) (some (.Name y py)) spos.line X.env = pure true)
    (hs : ∀ x, foldedSetIterable iter X.env x = pure x := by intro _; rfl) (hstk : ∃ env0 outer0 L, X.stack = env0 :: outer0 /\ env0.frame = some L /\ X.env.frame = some L := by exact ⟨_, _, _, rfl, rfl, rfl⟩) : fA X (.Assign [.Name y py] (.ListComp elt [⟨tg, iter, ifs, 0⟩] sc pos) spos) (gw i (bL it own fr b t f)) := fun Fm => by
  intro pins s σ H D I h;obtain ⟨ρ, sl, q⟩ := h;unfold gw bL at q;obtain ⟨hNi, hl, hf⟩ := T.nm hN;cases ei : it ρ with
  | ex c => rw [ei] at q; exact q.elim
  | no => rw [ei] at q; exact q.elim
  | ok ds =>
    rw [ei] at q;simp only [mK, R.ok_bind] at q;by_cases hsz : ds.length <= sizeLine
    · rw [if_pos hsz] at q;cases ec : bE b t f (aB own fr ρ) ds with
      | no => rw [ec] at q; exact q.elim
      | ex c =>
        rw [ec] at q;rw [exec_Assign_Name_used _ _ _ _ hsw];refine wpAny_bind (wpAny_standAt (wpAny_bind ?_));show wpAny _ X.A (do let _ <- comprehension (.ListComp elt [⟨tg, iter, ifs, 0⟩] sc pos) sc X.env _ (newList []) false (eval iter X.env) (some (assign (.Name y py) X.env))) _ _ s;exact wpAny_bind (cQ (lx (use := some (assign (.Name y py) X.env)) (Qc := fun _ s' => False) T ck hout hi hb0 hbody hs I sl.sl ei hsz ec (fun c' hr => by cases hr; exact q.1.mono sl.fm) (fun z => nomatch z) hstk fun xs a C H' s' m vs hr => by cases hr) fun _ s' hq => hq.elim)
      | ok xs =>
        rw [ec] at q;rw [exec_Assign_Name_used _ _ _ _ hsw];refine wpAny_bind (wpAny_standAt (wpAny_bind ?_));show wpAny _ X.A (do let _ <- comprehension (.ListComp elt [⟨tg, iter, ifs, 0⟩] sc pos) sc X.env _ (newList []) false (eval iter X.env) (some (assign (.Name y py) X.env))) _ _ s;refine wpAny_bind (cQ (lx (use := some (assign (.Name y py) X.env)) (Qc := fun _ s' => SP X pins D .next s') T ck hout hi hb0 hbody hs I sl.sl ei hsz ec (fun c' hr => by cases hr) (fun z => nomatch z) hstk fun xs' a C H' s' m vs hr I' fC hn s2' ha hv rv => ?_) fun _ s' hq => wpAny_pure (wpAny_pure hq));cases hr;obtain ⟨f0, f1, f2, f3, f4, f5⟩ := fC;show wpAny _ X.A (assign (.Name y py) X.env (.ref a)) _ _ _;refine wpAny_assign_Name (pV I' T.nd hNi hl (v := .ref a) rfl (fun s'' I'' k => ?_) hf);have sls : iB Fm H' (σ.set i (some (.ref a))) (ρ.set i (.own (.list xs))) := iB.setOwn sl (sl.mono s2') s2' i ⟨by simp only [ja]; exact ⟨a, vs, rfl, hv, rv⟩, a, rfl, ha⟩;refine ⟨m, ?_, fun h' sb => ⟨_, H', I''.turned (t' := s''.toks) (fun b o hb e => sb.extBut b o hb e) f0 f1 f3 f4 f5, q _ H' sls⟩⟩;obtain ⟨a', sb', ha'⟩ := k;refine hn.sameBut sb' ?_;rcases ha' with rfl | ha'
        · exact f1
        · exact Ne.symm (f4 y a' ha')
    · rw [if_neg hsz] at q; exact q.elim
theorem iB.freeze {Fm H : Hp} {σ : St} {ρ : aN} {i : Nat} {d : PyData} {a : Addr} {u : HO} {o : Obj} (h : iB Fm H σ ρ) (h1 : ρ[i]? = some (.own d)) (h2 : σ[i]? = some (some (.ref a))) (hu : H a = some u) (hm : (∃ xs, u = .lst xs) \/ ∃ ks, u = .dK ks)
    (hr : Rp (cm H a (.frz o u)) d (.ref a)) : iB Fm (cm H a (.frz o u)) σ (ρ.set i (.val d)) := by
  have hFa := h.own i d a h1 h2;have kp : Kp H (cm H a (.frz o u)) := gG hu hm;refine ⟨fun b x e => ?_, ⟨by rw [List.length_set]; exact h.sl.1, fun j c w' e1 e2 => ?_⟩, fun j e b e1 e2 => ?_, fun j k e f b e1 e2 e3 e4 => ?_⟩
  · rw [au (aQ e hFa)]; exact h.fm b x e
  · rw [List.getElem?_set] at e1;by_cases hij : i = j
    · subst hij;rw [if_pos rfl] at e1;split at e1
      · cases e1;rw [h2] at e2;cases e2;exact ⟨_, rfl, hr⟩
      · cases e1
    · rw [if_neg hij] at e1;have q := h.sl.2 j c w' e1 e2;cases c with
      | exc p => exact q
      | non => exact True.intro
      | val d' => obtain ⟨v, z1, z2⟩ := q; exact ⟨v, z1, Rp.kp kp _ _ z2⟩
      | own d' =>
        obtain ⟨v, z1, z2⟩ := q;subst z1;obtain ⟨b, ob, rfl, hb⟩ := qS z2;have nb : b ≠ a := fun z => hij (by subst z; exact h.apart i j d d' b h1 e1 h2 e2)
        refine ⟨_, rfl, ?_⟩;cases d' <;> simp only [ja] at z2 ⊢
        · obtain ⟨b', vs, e, hb', r⟩ := z2;cases e;exact ⟨b, vs, rfl, by rw [au nb]; exact hb', bu.kp kp _ _ r⟩
        · obtain ⟨b', vs, e, hb', r⟩ := z2;cases e;exact ⟨b, vs, rfl, by rw [au nb]; exact hb', eh.kp kp _ _ r⟩
  · obtain ⟨ne, e1⟩ := bV (fun e z => by cases z) e1;exact h.own j e b e1 e2
  · obtain ⟨ne, e1⟩ := bV (fun e z => by cases z) e1;obtain ⟨ne', e2⟩ := bV (fun e z => by cases z) e2;exact h.apart j k e f b e1 e2 e3 e4
theorem Bq {X : Cx} {pins : List (Addr × Obj)} {s : Shared} {Fm H : Hp} {σ : St} {ρ : aN} {i : Nat} {d : PyData} (I : aM X pins σ H s) (h : iB Fm H σ ρ) (h1 : ρ[i]? = some (.own d)) :
    ∃ H' v, aM X pins σ H' s /\ iB Fm H' σ (ρ.set i (.val d)) /\ σ[i]? = some (some v) /\ Rp H' d v := by
  obtain ⟨w', h2, v, rfl, q⟩ := h.sl.at h1;cases d <;> simp only [ja] at q
  · rename_i ds;obtain ⟨a, vs, rfl, ha, r⟩ := q;obtain ⟨o, J⟩ := gz I ha (.inl ⟨_, rfl⟩);have hr : Rp (cm H a (.frz o (.lst vs))) (.list ds) (.ref a) := by
      simp only [Rp];exact ⟨a, o, vs, rfl, bd, bu.kp (gG ha (.inl ⟨_, rfl⟩)) _ _ r⟩
    exact ⟨_, _, J, h.freeze h1 h2 ha (.inl ⟨_, rfl⟩) hr, h2, hr⟩
  · rename_i ds;obtain ⟨a, vs, rfl, ha, r⟩ := q;obtain ⟨o, J⟩ := gz I ha (.inr ⟨_, rfl⟩);have hr : Rp (cm H a (.frz o (.dK vs))) (.dict ds) (.ref a) := by
      simp only [Rp];exact .inl ⟨a, o, vs, rfl, bd, eh.kp (gG ha (.inr ⟨_, rfl⟩)) _ _ r⟩
    exact ⟨_, _, J, h.freeze h1 h2 ha (.inr ⟨_, rfl⟩) hr, h2, hr⟩
theorem fA.fz {X : Cx} {st : Stmt} {i : Nat} {f : Fe} (h : fA X st (gw i f)) (hi : i < X.N.length) : fA X st (bQ i f) := fun Fm => by
  intro pins s σ H D I ⟨ρ, sl, q⟩;unfold bQ at q;cases ef : f ρ with
  | ex c => rw [ef] at q; exact h Fm pins s σ H D I ⟨ρ, sl, by unfold gw; rw [ef]; exact q⟩
  | no => rw [ef] at q; exact q.elim
  | ok d =>
    rw [ef] at q;have hr : Bs X Fm (gw i f) { nx := fun σ' H' => iB Fm H' σ' (ρ.set i (.own d)), rt := fun _ _ => False } σ H := ⟨ρ, sl, by unfold gw; rw [ef]; exact fun σ' H' s' => s'⟩
    refine cQ (h Fm pins s σ H _ I hr) fun fl s' z => ?_
    cases fl with
    | next =>
      obtain ⟨σ', H', I', sls⟩ := z;have hi' : i < ρ.length := by rw [<- sl.sl.1, I.len]; exact hi
      obtain ⟨H2, v, I2, sl2, _, _⟩ := Bq I' sls (i := i) (d := d) (by rw [List.getElem?_set, if_pos rfl, if_pos hi']);rw [List.set_set] at sl2;exact ⟨σ', H2, I2, q σ' H2 sl2⟩
    | brk => obtain ⟨_, _, _, z⟩ := z; exact z.elim
    | cont => obtain ⟨_, _, _, z⟩ := z; exact z.elim
    | ret u => obtain ⟨_, _, _, _, _, z⟩ := z; exact z.elim
theorem Z.fA.fz {X : Cx} {st : Stmt} {i : Nat} {f : Fe} (h : Z.fA X st (gw i f)) (hi : i < X.N.length) : Z.fA X st (bQ i f) :=
  ⟨D2.fA.fz h.un hi⟩
theorem bC {X : Cx} {tg iter elt : Expr} {ifs : List Expr} {sc : Scope} {pos : Pos} {it : aN -> R (List PyData)} {b : PyData -> aN -> Option aN} {t : aN -> R Bool} {f : Fe} {N : List Str} {own : Nat} {G G0 : List Str} {fr : List Nat} {nl : Nat}
    (T : Tb X nl G0) {oN : List Str} {on : List (Str × NameKind)} (hoN : X.N = oN) (hon : X.env.scope.names = on)
    (ck : ft sc N own G oN fr /\ ∀ y ∈ sc.names, y.2 = .free -> on.lookup y.1 = some .cell \/ on.lookup y.1 = some .free) (hi : pc X tg iter it)
    (hb0 : ∀ ρ d ρ1, b d (aB own fr ρ) = some ρ1 -> mX (aB own fr ρ) ρ1)
    (hbody : ∀ cl C s H fp E, Tb (bc X N sc cl C s H fp E) own G -> pf (bc X N sc cl C s H fp E) tg b /\ uM (bc X N sc cl C s H fp E) ifs t /\ ai (bc X N sc cl C s H fp E) elt f)
    (hs : ∀ x, foldedSetIterable iter X.env x = pure x := by intro _; rfl) (hstk : ∃ env0 outer0 L, X.stack = env0 :: outer0 /\ env0.frame = some L /\ X.env.frame = some L := by exact ⟨_, _, _, rfl, rfl, rfl⟩) : gg X (.ListComp elt [⟨tg, iter, ifs, 0⟩] sc pos) (bL it own fr b t f) :=
  nP T (by rw [hoN]; exact ck.1) (fun y hy hf => by unfold Env.kindOf; rw [hon]; exact ck.2 y hy hf) hi hb0 hbody hs hstk
theorem Z.bC {X : Cx} {tg iter elt : Expr} {ifs : List Expr} {sc : Scope} {pos : Pos} {it : aN -> R (List PyData)} {b : PyData -> aN -> Option aN} {t : aN -> R Bool} {f : Fe} {N : List Str} {own : Nat} {G G0 : List Str} {fr : List Nat} {nl : Nat} (T : Tb X nl G0) {oN : List Str} {on : List (Str × NameKind)} (hoN : X.N = oN) (hon : X.env.scope.names = on) (ck : ft sc N own G oN fr /\ ∀ y ∈ sc.names, y.2 = .free -> on.lookup y.1 = some .cell \/ on.lookup y.1 = some .free) (hi : Z.pc X tg iter it) (hb0 : ∀ ρ d ρ1, b d (aB own fr ρ) = some ρ1 -> mX (aB own fr ρ) ρ1) (hbody : ∀ cl C s H fp E, Tb (bc X N sc cl C s H fp E) own G -> Z.pf (bc X N sc cl C s H fp E) tg b /\ Z.uM (bc X N sc cl C s H fp E) ifs t /\ Z.ai (bc X N sc cl C s H fp E) elt f) (hs : ∀ x, foldedSetIterable iter X.env x = pure x := by intro _; rfl) (hstk : ∃ env0 outer0 L, X.stack = env0 :: outer0 /\ env0.frame = some L /\ X.env.frame = some L := by exact ⟨_, _, _, rfl, rfl, rfl⟩) : Z.gg X (.ListComp elt [⟨tg, iter, ifs, 0⟩] sc pos) (bL it own fr b t f) :=
  ⟨D2.bC T hoN hon ck hi.un hb0 (fun cl C s H fp E T => let ⟨q1, q2, q3⟩ := hbody cl C s H fp E T; ⟨q1.un, q2.un, q3.un⟩) hs hstk⟩
theorem fI {X : Cx} {tg iter elt : Expr} {ifs : List Expr} {sc : Scope} {pos py spos : Pos} {it : aN -> R (List PyData)} {b : PyData -> aN -> Option aN} {t : aN -> R Bool} {f : Fe} {N : List Str} {own : Nat} {G G0 : List Str} {fr : List Nat} {nl : Nat} {y : Str} (i : Nat)
    (hN : (X.N.take nl)[i]? = some y) (T : Tb X nl G0) {oN : List Str} {on : List (Str × NameKind)} (hoN : X.N = oN) (hon : X.env.scope.names = on)
    (ck : ft sc N own G oN fr /\ ∀ y ∈ sc.names, y.2 = .free -> on.lookup y.1 = some .cell \/ on.lookup y.1 = some .free) (hi : pc X tg iter it)
    (hb0 : ∀ ρ d ρ1, b d (aB own fr ρ) = some ρ1 -> mX (aB own fr ρ) ρ1)
    (hbody : ∀ cl C s H fp E, Tb (bc X N sc cl C s H fp E) own G -> pf (bc X N sc cl C s H fp E) tg b /\ uM (bc X N sc cl C s H fp E) ifs t /\ ai (bc X N sc cl C s H fp E) elt f)
    (hsw : swapsWith (.ListComp elt [⟨tg, iter, ifs, 0⟩] sc pos) (some (.Name y py)) spos.line X.env = pure true := by rfl)
    (hs : ∀ x, foldedSetIterable iter X.env x = pure x := by intro _; rfl) (hstk : ∃ env0 outer0 L, X.stack = env0 :: outer0 /\ env0.frame = some L /\ X.env.frame = some L := by exact ⟨_, _, _, rfl, rfl, rfl⟩) : fA X (.Assign [.Name y py] (.ListComp elt [⟨tg, iter, ifs, 0⟩] sc pos) spos) (gw i (bL it own fr b t f)) :=
  AN T (by rw [hoN]; exact ck.1) (fun y hy hf => by unfold Env.kindOf; rw [hon]; exact ck.2 y hy hf) hi hb0 hbody hN hsw hs hstk
theorem Z.fI {X : Cx} {tg iter elt : Expr} {ifs : List Expr} {sc : Scope} {pos py spos : Pos} {it : aN -> R (List PyData)} {b : PyData -> aN -> Option aN} {t : aN -> R Bool} {f : Fe} {N : List Str} {own : Nat} {G G0 : List Str} {fr : List Nat} {nl : Nat} {y : Str} (i : Nat) (hN : (X.N.take nl)[i]? = some y) (T : Tb X nl G0) {oN : List Str} {on : List (Str × NameKind)} (hoN : X.N = oN) (hon : X.env.scope.names = on) (ck : ft sc N own G oN fr /\ ∀ y ∈ sc.names, y.2 = .free -> on.lookup y.1 = some .cell \/ on.lookup y.1 = some .free) (hi : Z.pc X tg iter it) (hb0 : ∀ ρ d ρ1, b d (aB own fr ρ) = some ρ1 -> mX (aB own fr ρ) ρ1) (hbody : ∀ cl C s H fp E, Tb (bc X N sc cl C s H fp E) own G -> Z.pf (bc X N sc cl C s H fp E) tg b /\ Z.uM (bc X N sc cl C s H fp E) ifs t /\ Z.ai (bc X N sc cl C s H fp E) elt f) (hsw : swapsWith (.ListComp elt [⟨tg, iter, ifs, 0⟩] sc pos) (some (.Name y py)) spos.line X.env = pure true := by rfl) (hs : ∀ x, foldedSetIterable iter X.env x = pure x := by intro _; rfl) (hstk : ∃ env0 outer0 L, X.stack = env0 :: outer0 /\ env0.frame = some L /\ X.env.frame = some L := by exact ⟨_, _, _, rfl, rfl, rfl⟩) : Z.fA X (.Assign [.Name y py] (.ListComp elt [⟨tg, iter, ifs, 0⟩] sc pos) spos) (gw i (bL it own fr b t f)) :=
  ⟨D2.fI i hN T hoN hon ck hi.un hb0 (fun cl C s H fp E T => let ⟨q1, q2, q3⟩ := hbody cl C s H fp E T; ⟨q1.un, q2.un, q3.un⟩) hsw hs hstk⟩
theorem bI {own : Nat} {fr : List Nat} {i : Nat} (h : i < own) : ∀ ρ d ρ1, aS i d (aB own fr ρ) = some ρ1 -> mX (aB own fr ρ) ρ1 := fun ρ d ρ1 e => by
  have e' : ρ1 = (aB own fr ρ).set i (.val d) := (Option.some.inj e).symm;subst e';refine ⟨by rw [List.length_set], fun j c hj => ?_⟩;by_cases hij : i = j
  · subst hij;left;unfold aB at hj;rw [List.getElem?_append_left (by simpa using h), List.getElem?_replicate, if_pos h] at hj;exact (Option.some.inj hj).symm
  · right;rw [List.getElem?_set, if_neg hij]; exact hj
def vO (sc : Scope) (N G : List Str) : Prop :=
  N.Nodup /\ (∀ x ∈ N, (sc.names.lookup x = some .local \/ sc.names.lookup x = some .cell) /\ (x == ("__debug__" : Str)) = false /\ (x == ("__classdict__" : Str)) = false) /\ ∀ x ∈ G, sc.names.lookup x = some .globalImplicit /\ (x == ("__debug__" : Str)) = false /\ x ≠ ("__name__" : Str)
instance {sc : Scope} {N G : List Str} : Decidable (vO sc N G) := by unfold vO; infer_instance
theorem B8 {P : Program} {w : World} {K : PySem.W.Frag} {mg : Str -> Option Value} {base : Heap} {N : List Str} {qual : Str} {sc : Scope} {f : Addr} {cdv : Value} {A : Around} {outer : List Env} {s : Shared} {H : Hp} {E : XK} {G : List Str} {k : Nat}
    (hr : eK k (A.deeper (envOfC qual sc s.heap.objs.size f cdv))) (ck : vO sc N G) : Tb (fU (cI P w mg) P w K mg base N qual sc f cdv A outer s H E) N.length G := by
  obtain ⟨nd, l, g⟩ := ck;refine ⟨hr.units, rfl, nd, fun x hx => ⟨?_, (l x hx).2⟩, fun x hx => ⟨?_, .inl rfl⟩, fun x hx => ?_⟩
  · rcases (l x hx).1 with q | q
    · exact .inl q
    · exact .inr (.inl q)
  · exact (l x (List.mem_of_mem_take hx)).1
  · exact g x hx
section
variable {X : Cx} {a b c : Expr} {fa fb fc : Fe} {pos : Pos}
def FE : PyData -> R PyData
  | .int i => .ok (.int (-i))
  | _ => .no
def ou (g g' : PyData -> PyData -> R PyData) (fa fb fc : Fe) : Fe := fun ρ => fa ρ >>= fun x => fb ρ >>= fun y => g x y >>= fun d => sY d >>= fun k => if k = true then fc ρ >>= fun z => g' y z else .ok (.bool false)
theorem yI {r r' : R2} {g g' : PyData -> PyData -> R PyData} (hg : bX X gQ r g) (hg' : bX X gQ r' g') (σ : St) (H : Hp) (Q : VK) (h : ki X gQ (ou g g' fa fb fc) σ H Q) :
    xS r r' (ki X vU fa) (ki X vU fb) (ki X vU fc) σ H Q :=
  (eT (P := vU) (k := fun ρ x => fb ρ >>= fun y => g x y >>= fun d => sY d >>= fun k => if k = true then fc ρ >>= fun z => g' y z else .ok (.bool false)) (eX (X := X) fR Q) h).post fun v H1 ⟨ρ1, d1, sl1, _, p1, q1⟩ =>
    (eT (P := vU) (f := fb) (k := fun ρ y => g d1 y >>= fun d => sY d >>= fun k => if k = true then fc ρ >>= fun z => g' y z else .ok (.bool false)) (eX (X := X) fR Q) ⟨ρ1, sl1, q1⟩).post fun u H2 ⟨ρ2, d2, sl2, s2, p2, q2⟩ => by
      refine hg H2 v u d1 d2 _ (ig.mono p1 s2) p2 ?_;cases e : g d1 d2 with
      | ex c => rw [e] at q2; exact q2
      | no => rw [e] at q2; exact q2
      | ok d =>
        rw [e] at q2;intro w' H3 s3 p3;have q3 : tP X gQ (sY d >>= fun k => if k = true then fc ρ2 >>= fun z => g' d2 z else .ok (.bool false)) H2 Q := q2;cases d with
        | bool k =>
          have e3 : w' = .bl k := by simpa only [Rp] using p3
          refine ⟨k, e3, ?_⟩;cases k with
          | false => exact q3 _ H3 s3 eY
          | true =>
            have q4 : tP X gQ (fc ρ2 >>= fun z => g' d2 z) H2 Q := q3;exact (eT (P := vU) (f := fc) (k := fun _ z => g' d2 z) (eX (X := X) fR Q) ⟨ρ2, sl2.mono s3, (eX (X := X) fR Q).mono _ _ _ q4 s3⟩).post fun z H4 ⟨_, d4, _, s4, p4, q5⟩ => hg' H4 u z d2 d4 Q (ig.mono p2 (s3.trans s4)) p4 q5
        | none => exact q3.elim
        | int i => exact q3.elim
        | str i => exact q3.elim
        | list i => exact q3.elim
        | tuple i => exact q3.elim
        | dict i => exact q3.elim
theorem nZ {op op' : CmpOp} {r r' : R2} {g g' : PyData -> PyData -> R PyData} (ho : iZ X (compareOp op) r) (hg : bX X gQ r g) (ho' : iZ X (compareOp op') r') (hg' : bX X gQ r' g') (ha : bK X a fa) (hb : bK X b fb) (hc : bK X c fc)
    (hm : lastMarks [op, op'] [b, c] = false := by with_unfolding_all rfl) : ai X (.Compare a [op, op'] [b, c] pos) (ou g g' fa fb fc) := PE.imp (zm ho ho' ha hb hc hm) (yI hg hg')
theorem Z.nZ {op op' : CmpOp} {r r' : R2} {g g' : PyData -> PyData -> R PyData} (ho : iZ X (compareOp op) r) (hg : bX X gQ r g) (ho' : iZ X (compareOp op') r') (hg' : bX X gQ r' g') (ha : Z.bK X a fa) (hb : Z.bK X b fb) (hc : Z.bK X c fc) (hm : lastMarks [op, op'] [b, c] = false := by with_unfolding_all rfl) : Z.ai X (.Compare a [op, op'] [b, c] pos) (ou g g' fa fb fc) :=
  ⟨D2.nZ ho hg ho' hg' ha.un hb.un hc.un hm⟩
variable {es : List Expr} {fs : aN -> R (List PyData)}
def qx (fs : aN -> R (List PyData)) : Fe := fun ρ => fs ρ >>= fun ds => if ds.length <= sizeLine then .ok (.tuple ds) else .no
def la (fs : aN -> R (List PyData)) : Fe := fun ρ => fs ρ >>= fun ds => if ds.length <= sizeLine then .ok (.list ds) else .no
theorem kD {x1} (h : pk X es fs) : ai X (.Tuple es x1 pos) (qx fs) :=
  PE.imp (BJ h) fun σ H Q q => (ml (I := Rp) (f := fs) (k := fun _ ds => if ds.length <= sizeLine then .ok (.tuple ds) else .no) (eX (X := X) fR Q) q).post fun vs H1 ⟨_, ds, _, _, p, q1⟩ => by
    have p := o7.mp p;split at q1
    · rename_i hz;exact ⟨by rw [p.length]; exact hz, fun a ha => q1 _ _ (cb ha _) (df ha p)⟩
    · exact q1.elim
theorem Z.kD {x1} (h : Z.pk X es fs) : Z.ai X (.Tuple es x1 pos) (qx fs) :=
  ⟨D2.kD h.un⟩
theorem gk (h : pk X es fs) : gg X (.List es pos) (la fs) :=
  PE.imp (Ct h) fun σ H Q q => (ml (I := Rp) (f := fs) (k := fun _ ds => if ds.length <= sizeLine then .ok (.list ds) else .no) (eX (X := X) zH Q) q).post fun vs H1 ⟨_, ds, _, _, p, q1⟩ => by
    have p := o7.mp p;split at q1
    · rename_i hz;exact ⟨by rw [p.length]; exact hz, fun a ha => q1 _ _ (cb ha _) (dM ha p)⟩
    · exact q1.elim
theorem Z.gk (h : Z.pk X es fs) : Z.gg X (.List es pos) (la fs) :=
  ⟨D2.gk h.un⟩
theorem mC : gg X (.Dict [] [] pos) (eC (.dict [])) :=
  PE.imp yG fun σ H Q ⟨ρ, sl, q⟩ p hp => q _ _ (cb hp _) ⟨by simp only [ja]; exact ⟨p, [], rfl, bd, by simp only [eh]⟩, p, rfl, hp⟩
theorem Z.mC  : Z.gg X (.Dict [] [] pos) (eC (.dict [])) :=
  ⟨D2.mC⟩
def bx : PyData -> PyData -> R PyData
  | .list ds, .int i => match atI ds i with
    | some d => .ok d
    | none => .no
  | .tuple ds, .int i => match atI ds i with
    | some d => .ok d
    | none => .no
  | .str z, .int i => if z.length <= sizeLine then match atI z.cps.toList i with
    | some c => .ok (.str ⟨#[c]⟩)
    | none => .no else .no
  | .dict kvs, k => if pP kvs = true then .no else match iq k with
    | some _ => match mU kvs k with
      | some d => .ok d
      | none => .no
    | none => .no
  | _, _ => .no
theorem bu.atI {H : Hp} {ds : List PyData} {vs : List V} {i : Int} {d : PyData} (r : bu H ds vs) (e : L2.atI ds i = some d) : ∃ v, L2.atI vs i = some v /\ Rp H d v := by
  unfold L2.atI at e ⊢;rw [r.length];cases h : ve ds.length i with
  | none => rw [h] at e; cases e
  | some j =>
    rw [h] at e;obtain ⟨v, e1, p⟩ := r.get (show ds[j]? = some d from e);exact ⟨v, e1, p⟩
def Ee : R2 := fun x y H Q => ∃ a v, x = .ref a /\ nY H a y (some v) /\ Q v H
theorem Ah (hu : X.A.units + 1 < cLine) : Ak X Ee := by
  intro value slice pins s σ H x y v u Q I rx ry h hs;obtain ⟨a, z, rfl, g, q⟩ := h;cases rx;exact tail_any (sA I g) PySem.F.slot_dict_getitem.lookup (wX hu I g ry fun w' s3 I3 rw' => ⟨z, H, I3, rw', q⟩) hs
theorem Dk : bX X gQ (fun x y H Q => Dz X.K x y H Q \/ DK X.K x y H Q \/ Ds x y H Q \/ Ee x y H Q) bx := fun H x y dx dy Q hx hy q => by
  unfold bx at q;split at q
  · rename_i ds i;split at q
    · rename_i d e;obtain ⟨a, vs, rfl, hq, r⟩ := dJ (K := X.K) hx;obtain ⟨v, e1, p⟩ := r.atI e;exact .inl ⟨a, vs, i, v, rfl, bP hy, hq, e1, q v H (aE.refl _) p⟩
    · exact q.elim
  · rename_i ds i;split at q
    · rename_i d e;obtain ⟨a, vs, rfl, hq, r⟩ := dl hx;obtain ⟨v, e1, p⟩ := r.atI e;exact .inr (.inl ⟨a, vs, i, v, rfl, bP hy, eE.of hq, e1, q v H (aE.refl _) p⟩)
    · exact q.elim
  · rename_i z i;split at q
    · rename_i hz;split at q
      · rename_i c e;exact .inr (.inr (.inl ⟨z, i, c, gY hx, bP hy, hz, e, q _ H (aE.refl _) yy⟩))
      · exact q.elim
    · exact q.elim
  · rename_i kvs k;split at q
    · exact q.elim
    rename_i hi;split at q
    · rename_i κ e;split at q
      · rename_i d e1;obtain ⟨a, ks, rfl, h, r⟩ := lf (Bool.not_eq_true _ ▸ hi) hx;obtain ⟨o, g, _, e2⟩ := u8 (κ := κ) h r;rw [rN e] at e1;obtain ⟨v, rfl, p⟩ := e2 d e1;rw [<- vn hy e] at g;exact .inr (.inr (.inr ⟨a, v, rfl, g, q v H (aE.refl _) p⟩))
      · exact q.elim
    · exact q.elim
  · exact q.elim
theorem bn (hu : X.A.units + 64 < cLine) (ha : bK X a fa) (hb : bK X b fb) (hs : rh b) : ai X (.Subscript a b pos) (e2 bx fa fb) := PE.imp (Eg (Ai.or (B4.or (CL.or (Ah (by omega))))) ha hb hs) (two fR Dk)
theorem Z.bn (hu : X.A.units + 64 < cLine) (ha : Z.bK X a fa) (hb : Z.bK X b fb) (hs : rh b) : Z.ai X (.Subscript a b pos) (e2 bx fa fb) :=
  ⟨D2.bn hu ha.un hb.un hs⟩
variable {nl : Nat} {G : List Str} {x : Str} {p : Pos}
def qQ (X : Cx) (P : Hp -> Hp -> PyData -> V -> Prop) (r : List V -> Hp -> VK -> Prop) (g : List PyData -> R PyData) : Prop := ∀ H xs ds Q, RA ig H ds xs -> tP X P (g ds) H Q -> r xs H Q
theorem ym {P : Hp -> Hp -> PyData -> V -> Prop} {r : List V -> Hp -> VK -> Prop} {g : List PyData -> R PyData} (hP : Dn P) (hg : qQ X P r g) (σ : St) (H : Hp) (Q : VK) (h : ki X P (fun ρ => fs ρ >>= g) σ H Q) : E5 r (x9 X ig fs) σ H Q :=
  (ml (I := ig) (k := fun _ => g) (eX (X := X) hP Q) h).post fun vs H1 ⟨_, ds, _, _, p1, q1⟩ => hg H1 vs ds Q p1 q1
def one (g : PyData -> R PyData) : List PyData -> R PyData
  | [d] => g d
  | _ => .no
def BV (g : PyData -> PyData -> R PyData) : List PyData -> R PyData
  | [d, e] => g d e
  | _ => .no
theorem yr (g : PyData -> R PyData) (fa : Fe) : (fun ρ => af fa aI ρ >>= one g) = e1 g fa := by
  funext ρ;unfold af aI e1;cases fa ρ <;> rfl
theorem Cv (g : PyData -> PyData -> R PyData) (fa fb : Fe) : (fun ρ => af fa (af fb aI) ρ >>= BV g) = e2 g fa fb := by
  funext ρ;unfold af aI e2;cases fa ρ with
  | ok a => cases fb ρ <;> rfl
  | ex c => rfl
  | no => rfl
theorem yP {P : Hp -> Hp -> PyData -> V -> Prop} {r : List V -> Hp -> VK -> Prop} {g : PyData -> R PyData} (h : ∀ H x d Q, ig H d x -> tP X P (g d) H Q -> r [x] H Q) : qQ X P r (one g) := fun H xs ds Q ra q => by
  unfold one at q;split at q
  · rename_i d;simp only [RA] at ra;obtain ⟨v, r', e, p, e2⟩ := ra;subst e2; subst e;exact h H v d Q p q
  · exact q.elim
theorem BQ {P : Hp -> Hp -> PyData -> V -> Prop} {r : List V -> Hp -> VK -> Prop} {g : PyData -> PyData -> R PyData} (h : ∀ H x y d e Q, ig H d x -> ig H e y -> tP X P (g d e) H Q -> r [x, y] H Q) : qQ X P r (BV g) := fun H xs ds Q ra q => by
  unfold BV at q;split at q
  · rename_i d e;simp only [RA] at ra;obtain ⟨v, r', e1, p, v', r'', e2, p', e3⟩ := ra;subst e3; subst e2; subst e1;exact h H v v' d e Q p p' q
  · exact q.elim
section
variable {P : Hp -> Hp -> PyData -> V -> Prop} {r : List V -> Hp -> VK -> Prop} {g : PyData -> R PyData} {g2 : PyData -> PyData -> R PyData} {id ty : String}
theorem zT (T : Tb X nl G) (j : Nat) (hG : G[j]? = some x) (hm : X.mg x = none) (hP : Dn P) (hv : bootBuiltins x = some (.builtin id)) (hc : dN X (.builtin id) r) (hg : ∀ H x d Q, ig H d x -> tP X P (g d) H Q -> r [x] H Q) (ha : bK X a fa)
    (he : av a = true := by rfl) : PE X (.Call (.Name x p) [a] [] pos) (ki X P (e1 g fa)) := by
  have q := T.gl x (List.mem_of_getElem? hG);rw [<- yr];exact PE.imp (o5 hc q.1 hm hv (nB ha t9 he) q.2.2 q.2.1 (bh he)) (ym hP (yP hg))
theorem Ch (T : Tb X nl G) (j : Nat) (hG : G[j]? = some x) (hm : X.mg x = none) (hP : Dn P) (hv : bootBuiltins x = some (.type ty)) (hc : dN X (.type ty) r) (hg : ∀ H x d Q, ig H d x -> tP X P (g d) H Q -> r [x] H Q) (ha : bK X a fa)
    (he : av a = true := by rfl) : PE X (.Call (.Name x p) [a] [] pos) (ki X P (e1 g fa)) := by
  have q := T.gl x (List.mem_of_getElem? hG);rw [<- yr];exact PE.imp (wc hc q.1 hm hv (nB ha t9 he) q.2.2 q.2.1 (bh he)) (ym hP (yP hg))
theorem DT (T : Tb X nl G) (j : Nat) (hG : G[j]? = some x) (hm : X.mg x = none) (hP : Dn P) (hv : bootBuiltins x = some (.builtin id)) (hc : dN X (.builtin id) r) (hg : ∀ H x y d e Q, ig H d x -> ig H e y -> tP X P (g2 d e) H Q -> r [x, y] H Q) (ha : bK X a fa) (hb : bK X b fb)
    (he : av a = true := by rfl) (he2 : av b = true := by rfl) : PE X (.Call (.Name x p) [a, b] [] pos) (ki X P (e2 g2 fa fb)) := by
  have q := T.gl x (List.mem_of_getElem? hG);rw [<- Cv];exact PE.imp (o5 hc q.1 hm hv (nB ha (nB hb t9 he2) he) q.2.2 q.2.1 (bh he) (oY (by rw [List.all_cons, he2]; rfl))) (ym hP (BQ hg))
end
end
theorem mx : fillsNumberSlot (.type "tuple") "mul" = pure false :=
  PySem.fillsNumberSlot_seq (id := "tuple.__mul__") (r := some (.builtin "tuple.__rmul__")) F.slot_tuple_mul.lookup (by decide +kernel) F.slot_tuple_rmul.lookup (by decide +kernel)
theorem qv : seqRepeat? (.type "tuple") = pure (some (.builtin "tuple.__mul__")) := by
  unfold seqRepeat?;rw [PySem.seqSlot_of (T := "tuple") (name := "__mul__") (id := "tuple.__mul__") F.slot_tuple_mul.lookup (by decide +kernel), PySem.seqSlot_of (T := "tuple") (name := "__rmul__") (id := "tuple.__rmul__") F.slot_tuple_rmul.lookup (by decide +kernel)];rfl
theorem oF (a : Int) (t : Tok) (l : Addr) (items : Array Value) (n : Nat) (dd : Option Addr) (sl : Array (Option Value)) :
    Meets (Builtin.«int.__rmul__» ⟨[.int a t, .ref l], []⟩) (fun _ R s => s.heap.get? l = some { cls := .type "tuple", dict := dd, data := .seq items n, slots := sl } /\ R (.ok (.ret Value.notImplemented)) s) :=
  .of_wp fun prog w A R s h => by obtain ⟨hp, g, d, tk, os⟩ := s; obtain ⟨hl, h⟩ := h; wp_walk; exact ⟨_, rfl, h⟩
theorem tG (l : Addr) (items : Array Value) (n : Nat) (dd : Option Addr) (sl : Array (Option Value)) (x : Int) (u : Tok) (h1 : 2 <= x) (h2 : x < 2 ^ 63) (h0 : ¬ items.isEmpty = true) (hc1 : ¬ (items.size : Int) * x > (2 ^ 63 - 1) / 8) (hbig : Builtin.Tuple.tupleTooMany ((items.size : Int) * x) = false) (hsz : ¬ (List.foldl (fun x1 x2 => x1 ++ x2) #[] (List.replicate x.toNat items)).size > sizeLine) :
    Meets (Builtin.«tuple.__mul__» ⟨[.ref l, .int x u], []⟩) (fun _ R s => s.heap.get? l = some { cls := .type "tuple", dict := dd, data := .seq items n, slots := sl } /\ R (.ok (.ret (Value.ref s.heap.objs.size))) { s with heap := s.heap.push { cls := Value.type "tuple", data := Data.seq (List.foldl (fun x1 x2 => x1 ++ x2) #[] (List.replicate x.toNat items)) }, toks := s.toks }) :=
  .of_wp fun prog w A R s h => by
    obtain ⟨hp, g, d, tk, os⟩ := s; obtain ⟨hl, h⟩ := h;have f1 := AutoSeq1.idx_int; have f2 := AutoSeq1.sub_tuple_tuple; have f3 := AutoSeq1.sub_list_list; have f4 := AutoSeq1.sub_tuple_list; have f5 := AutoSeq1.sub_list_tuple;have e0 : (decide (x < -2 ^ 63) || decide (x >= 2 ^ 63)) = false := by
      rw [decide_eq_false (by omega), decide_eq_false (by omega)]; rfl
    have e1 : (items.isEmpty || x == 1) = false := by
      have : (x == 1) = false := by simp; omega
      rw [this, Bool.or_false]; exact Bool.eq_false_iff.mpr h0
    have e2 : (decide (x <= 0) || items.isEmpty) = false := by
      rw [decide_eq_false (by omega), Bool.false_or]; exact Bool.eq_false_iff.mpr h0
    have e3 : decide ((items.size : Int) * x > (2 ^ 63 - 1) / 8) = false := decide_eq_false hc1;have e4 : Builtin.Tuple.tupleTooMany ((items.size : Int) * x) = false := hbig
    wp_walk using wpAny_loadPart' hl
    refine wpAny_ite_false (decide_eq_false (by rw [e0]; exact Bool.false_ne_true)) ?_
    wp_walk using wpAny_loadPart' hl
    refine wpAny_ite_false (decide_eq_false (by rw [e1]; exact Bool.false_ne_true)) ?_
    wp_walk using wpAny_loadPart' hl
    refine wpAny_ite_false (decide_eq_false (by rw [e2]; exact Bool.false_ne_true)) ?_
    wp_walk using wpAny_loadPart' hl
    refine wpAny_ite_false e3 ?_
    wp_walk using wpAny_loadPart' hl
    exact ⟨_, rfl, h⟩
section
variable {X : Cx} {a b c : Expr} {fa fb fc : Fe} {pos : Pos} {nl : Nat} {G : List Str} {x : Str} {p : Pos}
def Bg (K : PySem.W.Frag) : R2 := fun x y H Q => ∃ l k xs, x = .ref l /\ y = .int k /\ eE K H l xs /\ xs ≠ [] /\ 2 <= k /\ k < 2 ^ 63 /\ xs.length * k.toNat <= sizeLine /\ ∀ p, H p = none -> Q (.ref p) (cm H p (.tup (List.replicate k.toNat xs).flatten))
theorem zR : iZ X (binaryOp .Mult) (Bg X.K) := by
  intro pins s σ H x y v u Q I rx ry h;obtain ⟨l, k, xs, rfl, rfl, hH, hne, h1, h2, hz, q⟩ := h;cases rx;obtain ⟨t, rfl⟩ := ry;obtain ⟨its, r, pl, hz0⟩ := I.tuple hH;obtain ⟨⟨cls, dd, data, sl⟩, e, hc, n, hd⟩ := id pl;simp only at hc hd;subst hc hd;have hl := r.length;have hnew : List.foldl (fun x1 x2 => x1 ++ x2) #[] (List.replicate k.toNat its.toArray) = (List.replicate k.toNat its).flatten.toArray := by
    have := qd its k.toNat [];rw [List.nil_append] at this;exact this
  have hlen : (List.replicate k.toNat its).flatten.length <= sizeLine := by rw [vT, <- hl, Nat.mul_comm]; exact hz
  have hprod : (its.length : Int) * k <= (sizeLine : Int) := by
    have h3 : ((its.length * k.toNat : Nat) : Int) <= (sizeLine : Int) := by rw [<- hl]; exact Int.ofNat_le.mpr hz
    have h4 : ((k.toNat : Nat) : Int) = k := Int.toNat_of_nonneg (by omega);rw [Int.natCast_mul, h4] at h3;exact h3
  have hcap : ¬ (its.toArray.size : Int) * k > (2 ^ 63 - 1) / 8 := by
    rw [List.size_toArray];have hs : sizeLine = 16777216 := sizeLine_eq;omega
  have hbig : Builtin.Tuple.tupleTooMany ((its.toArray.size : Int) * k) = false := by
    unfold Builtin.Tuple.tupleTooMany;rw [List.size_toArray];exact decide_eq_false (by omega)
  refine wpAny_binaryOp_repeat_ref (T := "tuple") (U := "int") (by decide) ⟨_, e, rfl⟩ (fun s' => typeIs_int s' k t) mx F.fills_int_mul F.slot_int_rmul qv F.slot_int_index.lookup
    (call_meets F.slot_int_rmul (typeIs_int s k t) F.entry_int_rmul (F.args_int_rmul_2 _ _) (oF k t l its.toArray n dd sl)
      ⟨e, rfl, ⟨_, e, rfl⟩, call_meets F.slot_tuple_mul ⟨_, e, rfl⟩ F.entry_tuple_mul (F.args_tuple_mul_2 _ _) (tG l its.toArray n dd sl k t h1 h2 (by
        intro z;apply hne;have : its = [] := by simpa using z
        rw [this] at hl;exact List.length_eq_zero_iff.mp hl) hcap hbig (by rw [hnew, List.size_toArray]; omega)) ⟨e, ?_⟩⟩)
  rw [hnew];refine ⟨.ref s.heap.objs.size, _, I.laid (t' := s.toks) (o := .tup (List.replicate k.toNat xs).flatten) (fun b ob q => Heap.get?_push_of_some _ q) (Nat.le_refl _) ?_, rfl, q _ (I.hok.fresh (Nat.le_refl _))⟩;exact ⟨by rw [vT, Nat.mul_comm]; exact hz, _, r.rep k.toNat, IsTup.new _ _⟩
def fV : PyData -> PyData -> R PyData
  | .int i, .int j => if (-(2 ^ 64) < i /\ i < 2 ^ 64) \/ (-(2 ^ 64) < j /\ j < 2 ^ 64) then .ok (.int (i * j)) else .no
  | .tuple xs, .int k => if xs ≠ [] /\ 2 <= k /\ k < 2 ^ 63 /\ xs.length * k.toNat <= sizeLine then .ok (.tuple (List.replicate k.toNat xs).flatten) else .no
  | _, _ => .no
theorem Cn : bX X gQ (fun x y H Q => rI zV (fun i j => .int (i * j)) x y H Q \/ Bg X.K x y H Q) fV := fun H x y dx dy Q hx hy q => by
  cases dx with
  | int i =>
    cases dy with
    | int j =>
      simp only [fV] at q;split at q
      · rename_i h; exact .inl ⟨_, _, bP hx, bP hy, h, q _ H (aE.refl _) cX⟩
      · exact q.elim
    | _ => exact q.elim
  | tuple xs =>
    cases dy with
    | int k =>
      simp only [fV] at q;split at q
      · rename_i h;obtain ⟨a, vs, rfl, ha, r⟩ := dl hx;have hl := r.length;refine .inr ⟨a, k, vs, rfl, bP hy, eE.of ha, fun z => h.1 ?_, h.2.1, h.2.2.1, by rw [hl]; exact h.2.2.2, fun p hp => q _ _ (cb hp _) (df hp (r.rep _))⟩;rw [z] at hl;exact List.length_eq_zero_iff.mp hl.symm
      · exact q.elim
    | _ => exact q.elim
  | _ => exact q.elim
theorem gH (ha : bK X a fa) (hb : bK X b fb) : ai X (.BinOp a .Mult b pos) (e2 fV fa fb) := oo fR (B3.or zR) Cn ha hb
theorem Z.gH (ha : Z.bK X a fa) (hb : Z.bK X b fb) : Z.ai X (.BinOp a .Mult b pos) (e2 fV fa fb) :=
  ⟨D2.gH ha.un hb.un⟩
theorem Ac : iZ X (binaryOp .Add) (fun x y H Q => ∃ i j, x = .str i /\ y = .str j /\ i.length + j.length <= sizeLine /\ Q (.str (i ++ j)) H) := by
  intro pins s σ H x y v u Q I rx ry h;obtain ⟨i, j, rfl, rfl, hz, q⟩ := h;obtain ⟨t, rfl⟩ := rx;obtain ⟨t', rfl⟩ := ry;exact PyProof.Rows.add_str (fun t' tk => ⟨.str (i ++ j), H, I.tok _, ⟨_, rfl⟩, q⟩) hz
def xz (K : PySem.W.Frag) : R2 := fun x y H Q => ∃ a b ys, x = .ref a /\ y = .ref b /\ eE K H a [] /\ eE K H b ys /\ Q (.ref b) H
theorem xF : iZ X (binaryOp .Add) (xz X.K) := by
  intro pins s σ H x y v u Q I rx ry h;obtain ⟨a, b, ys, rfl, rfl, ha, hb, q⟩ := h;cases rx;cases ry;obtain ⟨its, r1, p1, _⟩ := I.tuple ha;obtain ⟨its2, r2, p2, _⟩ := I.tuple hb;cases r1;obtain ⟨⟨cls, dd, data, sl⟩, ho, hc, n, hd⟩ := id p1;obtain ⟨⟨cls2, dd2, data2, sl2⟩, ho2, hc2, n2, hd2⟩ := id p2;simp only at hc hd hc2 hd2;subst hc hd hc2 hd2;exact concat_meets ⟨_, ho, rfl⟩ ⟨_, ho2, rfl⟩ noFill_tuple_add seq_tuple_add PySem.F.slot_tuple_add PySem.F.entry_tuple_add (PySem.F.args_tuple_add_2 _ _)
    (tuple_addW0 a b _ its2.toArray n n2 dd dd2 sl sl2 (by rfl)) ⟨ho, ho2, ⟨.ref b, H, I, rfl, q⟩⟩
def Bk (K : PySem.W.Frag) : R2 := fun x y H Q => ∃ l b xs zs, x = .ref l /\ y = .ref b /\ Rd H l (.lst xs) /\ Rd H b (.lst zs) /\ xs.length + zs.length <= sizeLine /\ ∀ p, H p = none -> Q (.ref p) (cm H p (.lst (xs ++ zs)))
theorem A4 : iZ X (binaryOp .Add) (Bk X.K) := by
  intro pins s σ H x y v u Q I rx ry h;obtain ⟨l, b, xs, zs, rfl, rfl, hH, hB, hz, q⟩ := h;cases rx;cases ry;obtain ⟨z, its, n, r, e⟩ := hH.ok I.hok;obtain ⟨z2, its2, n2, r2, e2⟩ := hB.ok I.hok;have hl := r.length;have hl2 := r2.length;refine PySem.P.add_list e e2 ?_ (by rw [List.size_toArray, List.size_toArray]; omega);have ea : its.toArray ++ its2.toArray = (its ++ its2).toArray := by simp
  rw [ea];exact ⟨.ref _, _, I.lnew (t' := s.toks) (r.append r2) (by rw [List.length_append]; omega), rfl, q _ I.fresh⟩
def fQ : PyData -> PyData -> R PyData
  | .int i, .int j => .ok (.int (i + j))
  | .str x, .str y => if x.length + y.length <= sizeLine then .ok (.str (x ++ y)) else .no
  | .tuple xs, .tuple ys => if xs.length + ys.length <= sizeLine then .ok (.tuple (xs ++ ys)) else .no
  | .list xs, .list ys => if xs.length + ys.length <= sizeLine then .ok (.list (xs ++ ys)) else .no
  | _, _ => .no
theorem rg {H : Hp} {ds : List PyData} {x : V} (h : ig H (.list ds) x) : ∃ a vs, x = .ref a /\ Rd H a (.lst vs) /\ bu H ds vs := by
  rcases h with h | h
  · simp only [Rp] at h;obtain ⟨a, o, vs, e, ha, r⟩ := h;exact ⟨a, vs, e, .inr ⟨o, ha⟩, r⟩
  · simp only [ja] at h;obtain ⟨a, vs, e, ha, r⟩ := h;exact ⟨a, vs, e, .inl ha, r⟩
theorem Cr : bX X El (fun x y H Q => zx (fun i j => .int (i + j)) x y H Q \/ (∃ i j, x = .str i /\ y = .str j /\ i.length + j.length <= sizeLine /\ Q (.str (i ++ j)) H) \/ Bf X.K x y H Q \/ xz X.K x y H Q \/ Bk X.K x y H Q) fQ := fun H x y dx dy Q hx hy q => by
  cases dx with
  | int i =>
    cases dy with
    | int j => exact .inl ⟨_, _, bP hx, bP hy, q _ H (aE.refl _) (.inl cX)⟩
    | _ => exact q.elim
  | str i =>
    cases dy with
    | str j =>
      simp only [fQ] at q;split at q
      · rename_i h; exact .inr (.inl ⟨_, _, gY hx, gY hy, h, q _ H (aE.refl _) (.inl yy)⟩)
      · exact q.elim
    | _ => exact q.elim
  | tuple xs =>
    cases dy with
    | tuple ys =>
      simp only [fQ] at q;split at q
      · rename_i h;have hx' := hx;obtain ⟨a, vs, rfl, ha, r⟩ := dl hx;obtain ⟨b, us, rfl, hb, r2⟩ := dl hy;cases xs with
        | nil =>
          have := r.nil_inv;subst this;refine .inr (.inr (.inr (.inl ⟨a, b, us, rfl, rfl, eE.of ha, eE.of hb, q _ H (aE.refl _) (.inl ?_)⟩)));simp only [Rp, List.nil_append];exact ⟨b, us, rfl, hb, r2⟩
        | cons d ds =>
          refine .inr (.inr (.inl ⟨a, b, vs, us, rfl, rfl, eE.of ha, eE.of hb, fun z => ?_, by rw [r.length, r2.length]; exact h, fun z => ?_, fun _ p hp => q _ _ (cb hp _) (.inl (df hp (r.append r2)))⟩))
          · rw [z] at r;obtain ⟨_, _, e, _⟩ := r.cons_inv;cases e
          · have hy0 : ys = [] := by
              have := r2.length;rw [z] at this;exact List.length_eq_zero_iff.mp this.symm
            refine q _ H (aE.refl _) (.inl ?_);rw [hy0, List.append_nil];simp only [Rp];exact ⟨a, vs, rfl, ha, r⟩
      · exact q.elim
    | _ => exact q.elim
  | list xs =>
    cases dy with
    | list ys =>
      simp only [fQ] at q;split at q
      · rename_i h;obtain ⟨a, vs, rfl, ha, r⟩ := rg hx;obtain ⟨b, us, rfl, hb, r2⟩ := rg hy;exact .inr (.inr (.inr (.inr ⟨a, b, vs, us, rfl, rfl, ha, hb, by rw [r.length, r2.length]; exact h, fun p hp => q _ _ (cb hp _) (.inr (dM hp (r.append r2)))⟩)))
      · exact q.elim
    | _ => exact q.elim
  | _ => exact q.elim
theorem dL (ha : bK X a fa) (hb : bK X b fb) : ai X (.BinOp a .Add b pos) (e2 fQ fa fb) :=
  zA.e (oo Ae (BX.or (Ac.or (Ab.or (xF.or A4)))) Cr ha hb)
theorem Z.dL (ha : Z.bK X a fa) (hb : Z.bK X b fb) : Z.ai X (.BinOp a .Add b pos) (e2 fQ fa fb) :=
  ⟨D2.dL ha.un hb.un⟩
end
section
variable {prog : Program} {w : World} {A : Around} {E : Value -> Shared -> Prop} {s : Shared}
theorem kj {t sl : Addr} {items : Array Value} {vl vu : Value} {lo hi : Option Int} {Q : Value -> Shared -> Prop} (ht : IsTup s.heap t items) (hs : s.heap.IsSliceOf sl vl vu .none) (pl : IsPart vl lo) (pu : IsPart vu hi)
    (hw : HT.sIx items.size 0 lo = 0 /\ HT.sIx items.size items.size hi = items.size) (h : Q (.ref t) s) : wpAny (model prog w) A (getItem (.ref t) (.ref sl)) Q E s := by
  obtain ⟨os, hos, hcs, hds⟩ := id hs;have hTs : s.TypeIs (.ref sl) "slice" := ⟨os, hos, hcs⟩
  unfold getItem
  try with_reducible refine wpAny_holding ?_
  first | refine wpAny_bind (wpAny_pure ?_) | skip
  refine wpAny_bind (wpAny_sequenceKey ht.typeIs (by decide) ?_);refine wpAny_bind (wpAny_callSpecial?_slot (name := Str.ofString "__getitem__") ht.typeIs PyProof.Rows.slot_tuple_getitem
    (wpAny_call_entry PyProof.Rows.slot_tuple_getitem ht.typeIs entry_tuple_getitem ?_ (args_tuple_getitem _ _)))
  show wpAny _ _ (Builtin.Tuple.tupleItemsOf (.ref t) >>= _) _ _ s;refine wpAny_bind (tupleItemsOf_ ht ?_);refine wpAny_bind (wpAny_typeOf hTs ?_);rw [if_pos (by decide)];refine wpAny_bind (HT.sliceApplied_gen hs pl pu ?_);have hyes : (((HT.sIx items.size 0 lo : Nat) : Int) == 0 && (1 : Int) == 1 && (HT.sIx items.size items.size hi - HT.sIx items.size 0 lo) == items.size) = true := by
    rw [hw.1, hw.2]; simp
  show wpAny _ _ (if (((HT.sIx items.size 0 lo : Nat) : Int) == 0 && (1 : Int) == 1 && (HT.sIx items.size items.size hi - HT.sIx items.size 0 lo) == items.size) = true then _ else _) _ _ s;rw [if_pos hyes];refine wpAny_bind (m := Builtin.Tuple.tupleIsExact _) ?_;unfold Builtin.Tuple.tupleIsExact;refine wpAny_bind (wpAny_typeOf ht.typeIs (wpAny_pure ?_));show wpAny _ _ (if (Value.type "tuple" == Value.type "tuple") = true then _ else _) _ _ s;rw [if_pos (by decide)];refine wpAny_bind (wpAny_rule ?_)
  first
    | exact wpAny_pure ⟨_, rfl, wpAny_pure h⟩
    | exact wpAny_bind (wpAny_pure (wpAny_pure ⟨_, rfl, wpAny_pure h⟩))
end
section
variable {X : Cx} {a b c : Expr} {fa fb fc : Fe} {pos p2 : Pos} {nl : Nat} {G : List Str} {x : Str} {p : Pos}
def mW (xs : List PyData) (lo hi : Option Int) : List PyData := (xs.drop (HT.sIx xs.length 0 lo)).take (HT.sIx xs.length xs.length hi - HT.sIx xs.length 0 lo)
theorem bu.cut {H : Hp} {ds : List PyData} {vs : List V} (r : bu H ds vs) (lo hi : Option Int) : bu H (mW ds lo hi) (rU vs lo hi) := by
  unfold mW rU;rw [r.length];exact (r.drop _).take _
def EF (K : PySem.W.Frag) : V -> Option Int -> Option Int -> Hp -> VK -> Prop := fun x lo hi H Q => ∃ a xs, x = .ref a /\ eE K H a xs /\ (HT.sIx xs.length 0 lo = 0 /\ HT.sIx xs.length xs.length hi = xs.length) /\ Q (.ref a) H
theorem xt : zO X (EF X.K) := by
  intro pins s σ H x v vl vu lo hi sl Q I rx hs pl pu h;obtain ⟨a, xs, rfl, hx, hw, q⟩ := h;cases rx;obtain ⟨its, r, ht, hz⟩ := I.tuple hx;have hlen : its.toArray.size = xs.length := by rw [List.size_toArray]; exact r.length.symm
  refine ⟨"tuple", _, PyProof.Rows.slot_tuple_getitem.lookup, ht.typeIs, ?_⟩;exact kj ht hs pl pu (by rw [hlen]; exact hw) ⟨.ref a, H, I, rfl, q⟩
theorem BE : zO X (fun x lo hi H Q => ∃ xx, x = .str xx /\ xx.length <= sizeLine /\ Q (.str (Txt.slice xx lo hi)) H) := by
  intro pins s σ H x v vl vu lo hi sl Q I rx hs pl pu h;obtain ⟨xx, rfl, hz, q⟩ := h;obtain ⟨t, rfl⟩ := rx;refine ⟨"str", _, PySem.F.slot_str_getitem.lookup, typeIs_str _ _ _, ?_⟩;have fin : ∀ t' k, EP X pins σ Q (.str (Txt.slice xx lo hi) t') { s with toks := k } := fun t' k => ⟨.str _, H, I.tok k, ⟨t', rfl⟩, q⟩
  cases pl with
  | none =>
    cases pu with
    | none => exact wpAny_getItem_str_slice (l := none) (u := none) (st := none) hs rfl (post_val_or_str ⟨Nat.le_trans (Txt.slice_le xx _ _) hz, fin⟩)
    | int j uj => exact wpAny_getItem_str_slice (l := none) (u := some (j, uj)) (st := none) hs rfl (post_val_or_str ⟨Nat.le_trans (Txt.slice_le xx _ _) hz, fin⟩)
  | int i ui =>
    cases pu with
    | none => exact wpAny_getItem_str_slice (l := some (i, ui)) (u := none) (st := none) hs rfl (post_val_or_str ⟨Nat.le_trans (Txt.slice_le xx _ _) hz, fin⟩)
    | int j uj => exact wpAny_getItem_str_slice (l := some (i, ui)) (u := some (j, uj)) (st := none) hs rfl (post_val_or_str ⟨Nat.le_trans (Txt.slice_le xx _ _) hz, fin⟩)
def Bd : PyData -> Option Int -> Option Int -> R PyData
  | .str x, lo, hi => if x.length <= sizeLine then .ok (.str (Txt.slice x lo hi)) else .no
  | .tuple xs, lo, hi => .ok (.tuple (mW xs lo hi))
  | .list xs, lo, hi => .ok (.list (mW xs lo hi))
  | _, _, _ => .no
abbrev Fo := aN -> R (Option Int)
def oa : Fo := fun _ => .ok none
def Em : PyData -> R Int
  | .int i => .ok i
  | _ => .no
def o8 (f : Fe) : Fo := fun ρ => f ρ >>= fun d => Em d >>= fun i => .ok (some i)
def xP (X : Cx) (f : Fo) : TO := fun σ H Q => ∃ ρ, Sl H σ ρ /\ match f ρ with
  | .ok o => ∀ H', aE H H' -> Q o H'
  | .ex c => Xw X c H
  | .no => False
def zw (X : Cx) (e : Option Expr) (f : Fo) : Prop := PO X e (xP X f)
structure Z.zw (X : Cx) (e : Option Expr) (f : Fo) : Prop where
  un : D2.zw X e f
theorem jO : zw X none oa := fun pins s σ H Q I ⟨ρ, sl, q⟩ => zZ pins s σ H Q I (q H (aE.refl _))
theorem Z.jO  : Z.zw X none oa :=
  ⟨D2.jO⟩
theorem Di (Q : Option Int -> Hp -> Prop) : An X (fun (r : R (Option Int)) H => match r with | .ok b => ∀ H', aE H H' -> Q b H' | .ex c => Xw X c H | .no => False) where
  mono := fun r H H' h s => by
    cases r with
    | ok d => exact fun H2 s2 => h H2 (s.trans s2)
    | ex c => exact Xw.mono h s
    | no => exact h
  ex := fun c H h => h
  no := fun H h => h
theorem jS {e : Expr} {f : Fe} (h : ai X e f) : zw X (some e) (o8 f) := fun pins s σ H Q I q =>
  AL h pins s σ H Q I ((eT (P := gQ) (f := f) (k := fun _ d => Em d >>= fun i => .ok (some i)) (Di (X := X) Q) q).post fun v H1 ⟨_, d, _, _, p, q1⟩ => by
    cases d with
    | int i =>
      have e1 : v = .int i := by simpa only [Rp] using p
      exact ⟨i, e1, q1 H1 (aE.refl _)⟩
    | _ => exact q1.elim)
theorem Z.jS {e : Expr} {f : Fe} (h : Z.ai X e f) : Z.zw X (some e) (o8 f) :=
  ⟨D2.jS h.un⟩
def Cq (f : Fe) (lo hi : Fo) : Fe := fun ρ => f ρ >>= fun d => lo ρ >>= fun l => hi ρ >>= fun u => Bd d l u
theorem yZ {β : Type} {Tg : R β -> Hp -> Prop} {σ : St} {H : Hp} (t : An X Tg) {f : Fo} {k : aN -> Option Int -> R β} (h : ∃ ρ, Sl H σ ρ /\ Tg (f ρ >>= k ρ) H) : xP X f σ H (fun o H1 => ∃ ρ, Sl H1 σ ρ /\ aE H H1 /\ Tg (k ρ o) H1) := by
  obtain ⟨ρ, sl, q⟩ := h;refine ⟨ρ, sl, ?_⟩;cases e : f ρ with
  | ok d => rw [e] at q; exact fun H1 s => ⟨ρ, sl.mono s, s, t.mono _ _ _ q s⟩
  | ex c => rw [e] at q; exact t.ex _ _ q
  | no => rw [e] at q; exact (t.no _ q).elim
theorem xP.post {f : Fo} {σ : St} {H : Hp} {Q Q' : Option Int -> Hp -> Prop} (h : xP X f σ H Q) (i : ∀ b H', Q b H' -> Q' b H') : xP X f σ H Q' := by
  obtain ⟨ρ, sl, q⟩ := h;refine ⟨ρ, sl, ?_⟩;cases e : f ρ with
  | ok d => rw [e] at q; exact fun H' s => i _ _ (q H' s)
  | ex c => rw [e] at q; exact q
  | no => rw [e] at q; exact q
theorem iy {lo hi : Option Expr} {fl fh : Fo} (ha : bK X a fa) (hl : zw X lo fl) (hu : zw X hi fh) : ai X (.Subscript a (.Slice lo hi none p2) pos) (Cq fa fl fh) := by
  refine zA.e (PE.imp (xC (xt.or (BR.or (AI.or BE))) ha hl hu) fun σ H Q h => ?_);refine (eT (P := vU) (f := fa) (k := fun ρ d => fl ρ >>= fun l => fh ρ >>= fun u => Bd d l u) (eX (X := X) Ae Q) h).post fun v H1 ⟨ρ1, d1, sl1, _, p1, q1⟩ => ?_
  refine (yZ (f := fl) (k := fun ρ l => fh ρ >>= fun u => Bd d1 l u) (eX (X := X) Ae Q) ⟨ρ1, sl1, q1⟩).post fun l H2 ⟨ρ2, sl2, s2, q2⟩ => ?_
  refine (yZ (f := fh) (k := fun ρ u => Bd d1 l u) (eX (X := X) Ae Q) ⟨ρ2, sl2, q2⟩).post fun u H3 ⟨ρ3, sl3, s3, q3⟩ => ?_
  have p3 : ig H3 d1 v := ig.mono (ig.mono p1 s2) s3;cases d1 with
  | tuple xs =>
    obtain ⟨a', vs, rfl, ha', r⟩ := dl p3;have hlen := r.length;by_cases hw : HT.sIx vs.length 0 l = 0 /\ HT.sIx vs.length vs.length u = vs.length
    · refine .inl ⟨a', vs, rfl, eE.of ha', hw, q3 _ H3 (aE.refl _) (.inl ?_)⟩;have e : mW xs l u = xs := by
        unfold mW;rw [<- hlen, hw.1, hw.2];simp [hlen]
      rw [e];simp only [Rp];exact ⟨a', vs, rfl, ha', r⟩
    · exact .inr (.inl ⟨a', vs, rfl, eE.of ha', hw, fun p hp => q3 _ _ (cb hp _) (.inl (df hp (r.cut l u)))⟩)
  | list xs =>
    obtain ⟨a', vs, rfl, ha', r⟩ := dJ (K := X.K) p3;exact .inr (.inr (.inl ⟨a', vs, rfl, ha', fun p hp => q3 _ _ (cb hp _) (.inr (dM hp (r.cut l u)))⟩))
  | str xx =>
    simp only [Bd] at q3;split at q3
    · rename_i hz;exact .inr (.inr (.inr ⟨xx, gY p3, hz, q3 _ H3 (aE.refl _) (.inl (by simp only [Rp]))⟩))
    · exact q3.elim
  | _ => exact q3.elim
theorem Z.iy {lo hi : Option Expr} {fl fh : Fo} (ha : Z.bK X a fa) (hl : Z.zw X lo fl) (hu : Z.zw X hi fh) : Z.ai X (.Subscript a (.Slice lo hi none p2) pos) (Cq fa fl fh) :=
  ⟨D2.iy ha.un hl.un hu.un⟩
end
section
variable {X : Cx} {a b c : Expr} {fa fb fc : Fe} {pos p2 : Pos} {nl : Nat} {G : List Str} {x : Str} {p : Pos}
theorem w9 : dN X (.builtin "len") (fun xs H Q => ∃ a kvs, xs = [V.ref a] /\ Rd H a (.dK kvs) /\ Q (.int kvs.length) H) := by
  intro pins s σ H xs us Q I r h;obtain ⟨a, kvs, rfl, ha, q⟩ := h;obtain ⟨u, rfl, ru⟩ := gx r;cases ru;exact Du I ha fun t s' I' => ⟨.int kvs.length, H, I', ⟨t, rfl⟩, q⟩
theorem eh.length {H : Hp} : ∀ {kvs : List (PyData × PyData)} {ks : List (cS × V)}, eh H kvs ks -> ks.length = kvs.length
  | [], ks, h => by simp only [eh] at h; rw [h]; rfl
  | kd :: kvs, ks, h => by
    simp only [eh] at h;obtain ⟨x, v, r, rfl, _, t⟩ := h;rw [List.length_cons, List.length_cons, eh.length t]
def dE : PyData -> R PyData
  | .list ds => .ok (.int ds.length)
  | .tuple ds => .ok (.int ds.length)
  | .dict kvs => if pP kvs = true then .no else .ok (.int kvs.length)
  | .str y => if y.length <= sizeLine then .ok (.int y.length) else .no
  | _ => .no
theorem dq (T : Tb X nl G) (j : Nat) (hG : G[j]? = some ("len" : Str)) (hm : X.mg "len" = none) (ha : bK X a fa) (he : av a = true := by rfl) : ai X (.Call (.Name "len" p) [a] [] pos) (e1 dE fa) := by
  refine zT T j hG hm fR PySem.boot_len (qZ.or (qE.or w9)) (fun H x d Q hx q => ?_) ha he;cases d with
  | list ds =>
    obtain ⟨a', vs, rfl, h, r⟩ := dJ (K := X.K) hx;exact .inl ⟨a', vs, rfl, .inl h, by rw [r.length]; exact q _ H (aE.refl _) cX⟩
  | tuple ds =>
    obtain ⟨a', vs, rfl, h, r⟩ := dl hx;exact .inl ⟨a', vs, rfl, .inr (eE.of h), by rw [r.length]; exact q _ H (aE.refl _) cX⟩
  | dict kvs =>
    simp only [dE] at q;split at q
    · exact q.elim
    rename_i hi;obtain ⟨a', vs, rfl, h, r⟩ := lf (Bool.not_eq_true _ ▸ hi) hx;exact .inr (.inr ⟨a', vs, rfl, h, by rw [r.length]; exact q _ H (aE.refl _) cX⟩)
  | str y =>
    simp only [dE] at q;split at q
    · rename_i hz; exact .inr (.inl ⟨y, by rw [gY hx], hz, q _ H (aE.refl _) cX⟩)
    · exact q.elim
  | _ => exact q.elim
theorem Z.dq (T : Tb X nl G) (j : Nat) (hG : G[j]? = some ("len" : Str)) (hm : X.mg "len" = none) (ha : Z.bK X a fa) (he : av a = true := by rfl) : Z.ai X (.Call (.Name "len" p) [a] [] pos) (e1 dE fa) :=
  ⟨D2.dq T j hG hm ha.un he⟩
def zW : PyData -> R PyData
  | .int i => .ok (.int i)
  | .bool k => .ok (.int (if k then 1 else 0))
  | _ => .no
theorem rj (T : Tb X nl G) (j : Nat) (hG : G[j]? = some ("int" : Str)) (hm : X.mg "int" = none) (ha : bK X a fa) (he : av a = true := by rfl) : ai X (.Call (.Name "int" p) [a] [] pos) (e1 zW fa) := by
  refine Ch T j hG hm fR PyProof.Rows.boot_int xa (fun H x d Q hx q => ?_) ha he;cases d with
  | int i => exact .inl ⟨i, by rw [bP hx], q _ H (aE.refl _) cX⟩
  | bool k => exact .inr ⟨k, by rw [o9 hx], q _ H (aE.refl _) cX⟩
  | _ => exact q.elim
theorem Z.rj (T : Tb X nl G) (j : Nat) (hG : G[j]? = some ("int" : Str)) (hm : X.mg "int" = none) (ha : Z.bK X a fa) (he : av a = true := by rfl) : Z.ai X (.Call (.Name "int" p) [a] [] pos) (e1 zW fa) :=
  ⟨D2.rj T j hG hm ha.un he⟩
def Fx : PyData -> R PyData
  | .int i => if i.natAbs.log2 < 1920 then .ok (.str (toString i)) else .no
  | _ => .no
def A7 : PyData -> PyData -> R PyData
  | .int i, .int j => .ok (.int (if j < i then j else i))
  | _, _ => .no
def Ap : PyData -> PyData -> R PyData
  | .int i, .int j => .ok (.int (if j > i then j else i))
  | _, _ => .no
theorem uk (T : Tb X nl G) (j : Nat) (hG : G[j]? = some ("min" : Str)) (hm : X.mg "min" = none) (ha : bK X a fa) (hb : bK X b fb) (he : av a = true := by rfl) (he2 : av b = true := by rfl) :
    ai X (.Call (.Name "min" p) [a, b] [] pos) (e2 A7 fa fb) := by
  refine DT T j hG hm fR PyProof.Rows.boot_min (wm T.calm) (fun H x y d e Q hx hy q => ?_) ha hb he he2;cases d with
  | int i =>
    cases e with
    | int j => exact ⟨i, j, by rw [bP hx, bP hy], q _ H (aE.refl _) cX⟩
    | _ => exact q.elim
  | _ => exact q.elim
theorem Z.uk (T : Tb X nl G) (j : Nat) (hG : G[j]? = some ("min" : Str)) (hm : X.mg "min" = none) (ha : Z.bK X a fa) (hb : Z.bK X b fb) (he : av a = true := by rfl) (he2 : av b = true := by rfl) : Z.ai X (.Call (.Name "min" p) [a, b] [] pos) (e2 A7 fa fb) :=
  ⟨D2.uk T j hG hm ha.un hb.un he he2⟩
theorem uo (T : Tb X nl G) (j : Nat) (hG : G[j]? = some ("max" : Str)) (hm : X.mg "max" = none) (ha : bK X a fa) (hb : bK X b fb) (he : av a = true := by rfl) (he2 : av b = true := by rfl) :
    ai X (.Call (.Name "max" p) [a, b] [] pos) (e2 Ap fa fb) := by
  refine DT T j hG hm fR PyProof.Rows.boot_max (wf T.calm) (fun H x y d e Q hx hy q => ?_) ha hb he he2;cases d with
  | int i =>
    cases e with
    | int j => exact ⟨i, j, by rw [bP hx, bP hy], q _ H (aE.refl _) cX⟩
    | _ => exact q.elim
  | _ => exact q.elim
theorem Z.uo (T : Tb X nl G) (j : Nat) (hG : G[j]? = some ("max" : Str)) (hm : X.mg "max" = none) (ha : Z.bK X a fa) (hb : Z.bK X b fb) (he : av a = true := by rfl) (he2 : av b = true := by rfl) : Z.ai X (.Call (.Name "max" p) [a, b] [] pos) (e2 Ap fa fb) :=
  ⟨D2.uo T j hG hm ha.un hb.un he he2⟩
def cs : PyData -> R PyData
  | .list ds => .ok (.tuple ds)
  | .tuple ds => .ok (.tuple ds)
  | _ => .no
theorem bN (T : Tb X nl G) (j : Nat) (hG : G[j]? = some ("tuple" : Str)) (hm : X.mg "tuple" = none) (ha : bK X a fa) (he : av a = true := by rfl) : ai X (.Call (.Name "tuple" p) [a] [] pos) (e1 cs fa) := by
  refine Ch T j hG hm fR PyProof.Rows.boot_tuple pA (fun H x d Q hx q => ?_) ha he;cases d with
  | list ds =>
    obtain ⟨a', vs, rfl, h, r⟩ := dJ (K := X.K) hx;exact ⟨a', vs, rfl, .inl ⟨h, fun l hl => q _ _ (cb hl _) (df hl r)⟩⟩
  | tuple ds =>
    obtain ⟨a', vs, rfl, h, r⟩ := dl hx;exact ⟨a', vs, rfl, .inr ⟨eE.of h, q _ H (aE.refl _) (by simp only [Rp]; exact ⟨a', vs, rfl, h, r⟩)⟩⟩
  | _ => exact q.elim
theorem Z.bN (T : Tb X nl G) (j : Nat) (hG : G[j]? = some ("tuple" : Str)) (hm : X.mg "tuple" = none) (ha : Z.bK X a fa) (he : av a = true := by rfl) : Z.ai X (.Call (.Name "tuple" p) [a] [] pos) (e1 cs fa) :=
  ⟨D2.bN T j hG hm ha.un he⟩
def pU : PyData -> R PyData
  | .list ds => .ok (.list ds)
  | .tuple ds => .ok (.list ds)
  | _ => .no
theorem kZ (T : Tb X nl G) (j : Nat) (hG : G[j]? = some ("list" : Str)) (hm : X.mg "list" = none) (ha : bK X a fa) (he : av a = true := by rfl) : gg X (.Call (.Name "list" p) [a] [] pos) (e1 pU fa) := by
  refine Ch T j hG hm zH PyProof.Rows.boot_list qH (fun H x d Q hx q => ?_) ha he;cases d with
  | list ds =>
    obtain ⟨a', vs, rfl, h, r⟩ := dJ (K := X.K) hx;exact ⟨a', vs, rfl, .inl h, fun l hl => q _ _ (cb hl _) (dM hl r)⟩
  | tuple ds =>
    obtain ⟨a', vs, rfl, h, r⟩ := dl hx;exact ⟨a', vs, rfl, .inr (eE.of h), fun l hl => q _ _ (cb hl _) (dM hl r)⟩
  | _ => exact q.elim
theorem Z.kZ (T : Tb X nl G) (j : Nat) (hG : G[j]? = some ("list" : Str)) (hm : X.mg "list" = none) (ha : Z.bK X a fa) (he : av a = true := by rfl) : Z.gg X (.Call (.Name "list" p) [a] [] pos) (e1 pU fa) :=
  ⟨D2.kZ T j hG hm ha.un he⟩
inductive Ty where
  | int | bool | str | list | tuple
def Ty.nm : Ty -> String
  | .int => "int"
  | .bool => "bool"
  | .str => "str"
  | .list => "list"
  | .tuple => "tuple"
def CP : Ty -> PyData -> Bool
  | .int, .int _ => true
  | .int, .bool _ => true
  | .bool, .bool _ => true
  | .str, .str _ => true
  | .list, .list _ => true
  | .tuple, .tuple _ => true
  | _, _ => false
def jp (T : Ty) : PyData -> R PyData
  | .dict _ => .no
  | d => .ok (.bool (CP T d))
theorem yl : dN X (.builtin "isinstance") (fun xs H Q => ∃ x t T k, xs = [x, .ty T] /\ lG X.K H x t /\ PySem.W.kitOne X.K t (.type T) = some k /\ Q (.bl k) H) := by
  intro pins s σ H xs us Q I r h;obtain ⟨x, t, T, k, rfl, ty, e, q⟩ := h;obtain ⟨u, w', rfl, rx, ry⟩ := vN r;cases ry;exact wj I rx ty e fun tk => ⟨.bl k, H, I.tok tk, rfl, q⟩
theorem D9 {K : PySem.W.Frag} {H : Hp} {d : PyData} {v : V} (h : ig H d v) : (∃ kvs, d = .dict kvs) \/ ∃ t, lG K H v t /\ ∀ T : Ty, PySem.W.kitOne K t (.type T.nm) = some (CP T d) := by
  cases d with
  | none => rw [lw h]; exact .inr ⟨_, .non, fun T => by cases T <;> rfl⟩
  | bool k => rw [o9 h]; exact .inr ⟨_, .bl k, fun T => by cases T <;> rfl⟩
  | int i => rw [bP h]; exact .inr ⟨_, .int i, fun T => by cases T <;> rfl⟩
  | str y => rw [gY h]; exact .inr ⟨_, .str y, fun T => by cases T <;> rfl⟩
  | tuple ds => obtain ⟨a, vs, rfl, ha, _⟩ := dl h; exact .inr ⟨_, .tup ha, fun T => by cases T <;> rfl⟩
  | list ds =>
    obtain ⟨a, vs, rfl, ha, _⟩ := rg h;rcases ha with ha | ⟨o, ha⟩
    · exact .inr ⟨_, .lst ha, fun T => by cases T <;> rfl⟩
    · exact .inr ⟨_, .frz ha, fun T => by cases T <;> rfl⟩
  | dict kvs => exact .inl ⟨kvs, rfl⟩
theorem ur (ty : Ty) {y : Str} {py : Pos} (T : Tb X nl G) (j : Nat) (hG : G[j]? = some ("isinstance" : Str)) (hm : X.mg "isinstance" = none) (hy : bootBuiltins y = some (.type ty.nm)) (T' : Tb X nl G) (j' : Nat) (hG' : G[j']? = some y) (hm' : X.mg y = none) (ha : bK X a fa)
    (he : av a = true := by rfl) : ai X (.Call (.Name "isinstance" p) [a, .Name y py] [] pos) (e1 (jp ty) fa) := by
  have g := T.gl _ (List.mem_of_getElem? hG);have g' := T.gl _ (List.mem_of_getElem? hG');have hp : PE X (.Name y py) (tC (.ty ty.nm)) := AF g'.1 hm' hy rfl g'.2.2 g'.2.1;refine PE.imp (o5 yl g.1 hm PyProof.Rows.boot_isinstance (qu ha (qu hp yq) (bh he)) g.2.2 g.2.1 (bh he)) fun σ H Q h => ?_
  refine (eT (P := vU) (f := fa) (k := fun _ d => jp ty d) (eX (X := X) fR Q) h).post fun v H1 ⟨_, d, _, _, p1, q1⟩ => ?_
  show ∃ x t T k, _ /\ _ /\ _ /\ _;rcases D9 (K := X.K) p1 with ⟨kvs, rfl⟩ | ⟨t, ht, hk⟩
  · exact q1.elim
  · refine ⟨v, t, ty.nm, CP ty d, rfl, ht, hk ty, ?_⟩;cases d with
    | dict kvs => exact q1.elim
    | _ => exact q1 _ H1 (aE.refl _) eY
theorem kH {py : Pos} (T : Tb X nl G) (j : Nat) (hG : G[j]? = some ("isinstance" : Str)) (hm : X.mg "isinstance" = none) (T' : Tb X nl G) (j' : Nat) (hG' : G[j']? = some ("int" : Str)) (hm' : X.mg "int" = none) (ha : bK X a fa)
    (he : av a = true := by rfl) : ai X (.Call (.Name "isinstance" p) [a, .Name "int" py] [] pos) (e1 (jp .int) fa) := ur .int T j hG hm PyProof.Rows.boot_int T' j' hG' hm' ha he
theorem Z.kH {py : Pos} (T : Tb X nl G) (j : Nat) (hG : G[j]? = some ("isinstance" : Str)) (hm : X.mg "isinstance" = none) (T' : Tb X nl G) (j' : Nat) (hG' : G[j']? = some ("int" : Str)) (hm' : X.mg "int" = none) (ha : Z.bK X a fa) (he : av a = true := by rfl) : Z.ai X (.Call (.Name "isinstance" p) [a, .Name "int" py] [] pos) (e1 (jp .int) fa) :=
  ⟨D2.kH T j hG hm T' j' hG' hm' ha.un he⟩
theorem jA {py : Pos} (T : Tb X nl G) (j : Nat) (hG : G[j]? = some ("isinstance" : Str)) (hm : X.mg "isinstance" = none) (T' : Tb X nl G) (j' : Nat) (hG' : G[j']? = some ("bool" : Str)) (hm' : X.mg "bool" = none) (ha : bK X a fa)
    (he : av a = true := by rfl) : ai X (.Call (.Name "isinstance" p) [a, .Name "bool" py] [] pos) (e1 (jp .bool) fa) := ur .bool T j hG hm PyProof.Rows.boot_bool T' j' hG' hm' ha he
theorem Z.jA {py : Pos} (T : Tb X nl G) (j : Nat) (hG : G[j]? = some ("isinstance" : Str)) (hm : X.mg "isinstance" = none) (T' : Tb X nl G) (j' : Nat) (hG' : G[j']? = some ("bool" : Str)) (hm' : X.mg "bool" = none) (ha : Z.bK X a fa) (he : av a = true := by rfl) : Z.ai X (.Call (.Name "isinstance" p) [a, .Name "bool" py] [] pos) (e1 (jp .bool) fa) :=
  ⟨D2.jA T j hG hm T' j' hG' hm' ha.un he⟩
theorem gm {py : Pos} (T : Tb X nl G) (j : Nat) (hG : G[j]? = some ("isinstance" : Str)) (hm : X.mg "isinstance" = none) (T' : Tb X nl G) (j' : Nat) (hG' : G[j']? = some ("tuple" : Str)) (hm' : X.mg "tuple" = none) (ha : bK X a fa)
    (he : av a = true := by rfl) : ai X (.Call (.Name "isinstance" p) [a, .Name "tuple" py] [] pos) (e1 (jp .tuple) fa) := ur .tuple T j hG hm PyProof.Rows.boot_tuple T' j' hG' hm' ha he
theorem Z.gm {py : Pos} (T : Tb X nl G) (j : Nat) (hG : G[j]? = some ("isinstance" : Str)) (hm : X.mg "isinstance" = none) (T' : Tb X nl G) (j' : Nat) (hG' : G[j']? = some ("tuple" : Str)) (hm' : X.mg "tuple" = none) (ha : Z.bK X a fa) (he : av a = true := by rfl) : Z.ai X (.Call (.Name "isinstance" p) [a, .Name "tuple" py] [] pos) (e1 (jp .tuple) fa) :=
  ⟨D2.gm T j hG hm T' j' hG' hm' ha.un he⟩
def lE : List PyData -> Option Bool
  | [] => some true
  | .bool k :: ds => (lE ds).map fun r => k && r
  | _ => none
def lT : PyData -> R PyData
  | .list ds => match lE ds with
    | some k => .ok (.bool k)
    | none => .no
  | _ => .no
end
section
variable {X : Cx} {tg a b c : Expr} {fa fb fc : Fe} {pos p2 : Pos} {nl : Nat} {G : List Str} {x : Str} {p : Pos} {fs : aN -> R (List PyData)} {es : List Expr}
def iT : PyData -> R (List PyData)
  | .list ds => .ok ds
  | .tuple ds => .ok ds
  | _ => .no
def eA (f : Fe) : aN -> R (List PyData) := fun ρ => f ρ >>= iT
theorem zl {K : PySem.W.Frag} {a : Addr} {ds : List PyData} : zt (E8 K a) (fun H => ∃ o vs, H a = some (.frz o (.lst vs)) /\ bu H ds vs) ds where
  go := fun i H ⟨o, vs, h, r⟩ hi => by
    have hl := r.length;exact ⟨vs, vs[i], .inl (.inr ⟨o, h⟩), List.getElem?_eq_getElem (by omega)⟩
  yld := fun i H x H' d ⟨o, vs, h, r⟩ hd ⟨e, y⟩ => by
    subst e;obtain ⟨v, e1, p⟩ := r.get hd;have := y vs (.inl (.inr ⟨o, h⟩));rw [e1] at this;cases this;exact ⟨aE.refl _, p⟩
  stop := fun i H ⟨o, vs, h, r⟩ hi => ⟨vs, .inl (.inr ⟨o, h⟩), by rw [r.length]; exact hi⟩
theorem zN {K : PySem.W.Frag} {a : Addr} {ds : List PyData} : zt (EO K a) (fun H => ∃ vs, H a = some (.tup vs) /\ bu H ds vs) ds where
  go := fun i H ⟨vs, h, r⟩ hi => by
    have hl := r.length;exact ⟨vs, vs[i], eE.of h, List.getElem?_eq_getElem (by omega)⟩
  yld := fun i H x H' d ⟨vs, h, r⟩ hd ⟨e, y⟩ => by
    subst e;obtain ⟨v, e1, p⟩ := r.get hd;have := y vs (eE.of h);rw [e1] at this;cases this;exact ⟨aE.refl _, p⟩
  stop := fun i H ⟨vs, h, r⟩ hi => ⟨vs, eE.of h, by rw [r.length]; exact hi⟩
def FG (K : PySem.W.Frag) (tl : TE) : TI := fun σ H R => tl σ H fun x H1 => ∃ a, x = .ref a /\ ((∃ xs, ni K H1 a xs /\ R (E8 K a) H1) \/ ∃ xs, eE K H1 a xs /\ R (EO K a) H1)
theorem DU {l : Expr} {tl : TE} (hl : PE X l tl) : PI X tg l (FG X.K tl) := by
  intro pins s σ H R I h;refine cQ (hl pins s σ H _ I h) fun v s1 ⟨x, H1, I1, r1, q1⟩ => ?_
  obtain ⟨a, e, q⟩ := q1;subst e;cases r1;rcases q with ⟨xs, hq, q⟩ | ⟨xs, hq, q⟩
  · obtain ⟨its, rv, p, hz⟩ := I1.list hq;refine wpAny_pyIter_list p.isList ?_;refine ⟨s1.heap.objs.size, [s1.heap.objs.size], _, _, H1, rfl, I1.kept (t' := s1.toks) fun b o e => Heap.get?_push_of_some _ e, wC a _, ⟨_, Heap.get?_push_size _ rfl, rfl, rfl⟩, fun b hb => ?_, q⟩;have e : b = s1.heap.objs.size := by simpa using hb
    subst e;exact I1.fpOk (Nat.le_refl _) (I1.hok.fresh (Nat.le_refl _))
  · obtain ⟨its, rv, p, hz⟩ := I1.tuple hq;refine wpAny_pyIter_tuple (show s1.heap.IsTuple a its.toArray from p) ?_;refine ⟨s1.heap.objs.size, [s1.heap.objs.size], _, _, H1, rfl, I1.kept (t' := s1.toks) fun b o e => Heap.get?_push_of_some _ e, uC a _, ⟨_, Heap.get?_push_size _ rfl, rfl, rfl⟩, fun b hb => ?_, q⟩;have e : b = s1.heap.objs.size := by simpa using hb
    subst e;exact I1.fpOk (Nat.le_refl _) (I1.hok.fresh (Nat.le_refl _))
theorem DX (Rk : It -> Hp -> Prop) : An X (fun (r : R (List PyData)) H => match r with | .ok ds => ∀ J H', aE H H' -> (∃ Gd, zt J Gd ds /\ Ev H' (fun _ => False) Gd) -> Rk J H' | .ex c => Xw X c H | .no => False) where
  mono := fun r H H' h s => by
    cases r with
    | ok d => exact fun J H2 s2 => h J H2 (s.trans s2)
    | ex c => exact Xw.mono h s
    | no => exact h
  ex := fun c H h => h
  no := fun H h => h
theorem cE (ha : ai X a fa) : pc X tg a (eA fa) :=
  PI.imp (DU ha) fun σ H Rk h => (eT (P := gQ) (f := fa) (k := fun _ => iT) (DX (X := X) Rk) h).post fun v H1 ⟨_, d, _, _, p1, q1⟩ => by
    cases d with
    | list ds =>
      simp only [Rp] at p1;obtain ⟨a', o, vs, rfl, h, r⟩ := p1;exact ⟨a', rfl, .inl ⟨vs, .inl (.inr ⟨o, h⟩), q1 _ H1 (aE.refl _) ⟨_, zl, fun H2 k _ => ⟨o, vs, k.2 _ _ _ h, bu.kp k _ _ r⟩⟩⟩⟩
    | tuple ds =>
      simp only [Rp] at p1;obtain ⟨a', vs, rfl, h, r⟩ := p1;exact ⟨a', rfl, .inr ⟨vs, eE.of h, q1 _ H1 (aE.refl _) ⟨_, zN, fun H2 k _ => ⟨vs, k.1 _ _ h, bu.kp k _ _ r⟩⟩⟩⟩
    | _ => exact q1.elim
theorem Z.cE (ha : Z.ai X a fa) : Z.pc X tg a (eA fa) :=
  ⟨D2.cE ha.un⟩
def bG (lo : Int) (n : Nat) : List PyData := (List.range n).map fun (k : Nat) => .int (lo + k)
def pC : List PyData -> R (List PyData)
  | [.int j] => if -(2 ^ 62) <= j /\ j < 2 ^ 62 then .ok (bG 0 j.toNat) else .no
  | [.int i, .int j] => if -(2 ^ 62) <= i /\ i < 2 ^ 62 /\ -(2 ^ 62) <= j /\ j < 2 ^ 62 then .ok (bG i (j - i).toNat) else .no
  | _ => .no
def ic (fs : aN -> R (List PyData)) : aN -> R (List PyData) := fun ρ => fs ρ >>= pC
theorem wU {lo : Int} {n : Nat} : zt (Ew lo n) (fun _ => True) (bG lo n) where
  go := fun i H _ hi => by
    show i < n;simpa [bG] using hi
  yld := fun i H x H' d _ hd ⟨e, y⟩ => by
    subst e;subst y;refine ⟨aE.refl _, ?_⟩;unfold bG at hd;rw [List.getElem?_map] at hd;cases h : (List.range n)[i]? with
    | none => rw [h] at hd; cases hd
    | some k =>
      rw [h] at hd;have hk : k = i := by
        rw [List.getElem?_range] at h
        · exact (Option.some.inj h).symm
        · have := (List.getElem?_eq_some_iff.mp h).1;simpa using this
      subst hk;cases hd;exact cX
  stop := fun i H _ hi => by
    show n <= i;simpa [bG] using hi
theorem fB (T : Tb X nl G) (j : Nat) (hG : G[j]? = some ("range" : Str)) (hm : X.mg "range" = none) (ha : pk X [a] fs) (hl : ∀ ρ ds, fs ρ = .ok ds -> ds.length = 1) (hs : av a = true := by rfl) : pc X tg (.Call (.Name "range" p) [a] [] pos) (ic fs) :=
  PI.imp (v9 (T.gl _ (List.mem_of_getElem? hG)).1 hm ha (bh hs)) fun σ H Rk ⟨ρ, sl, q⟩ => by
    refine ⟨ρ, sl, ?_⟩;dsimp only [ic] at q;cases e : fs ρ with
    | ex c => rw [e] at q; exact q
    | no => rw [e] at q; exact q
    | ok ds =>
      rw [e] at q;have hlen := hl ρ ds e;intro vs H1 s1 r1
      match ds, hlen with
      | [d], _ =>
        simp only [RA] at r1;obtain ⟨v, r', rfl, p1, rfl⟩ := r1;cases d with
        | int j =>
          have ev : v = .int j := by simpa only [Rp] using p1
          subst ev;by_cases hz : -(2 ^ 62) <= j /\ j < 2 ^ 62
          · have e2 : pC [.int j] = .ok (bG 0 j.toNat) := if_pos hz;rw [R.ok_bind, e2] at q;exact ⟨j, rfl, hz.1, hz.2, q _ H1 s1 ⟨_, wU, fun _ _ _ => True.intro⟩⟩
          · have e2 : pC [.int j] = .no := if_neg hz;rw [R.ok_bind, e2] at q;exact q.elim
        | _ => exact q.elim
theorem Z.fB (T : Tb X nl G) (j : Nat) (hG : G[j]? = some ("range" : Str)) (hm : X.mg "range" = none) (ha : Z.pk X [a] fs) (hl : ∀ ρ ds, fs ρ = .ok ds -> ds.length = 1) (hs : av a = true := by rfl) : Z.pc X tg (.Call (.Name "range" p) [a] [] pos) (ic fs) :=
  ⟨D2.fB T j hG hm ha.un hl hs⟩
end
def uI (x : Int) : List Int -> List Int
  | [] => [x]
  | y :: r => if x <= y then x :: y :: r else y :: uI x r
def gh : List Int -> List Int
  | [] => []
  | x :: r => uI x (gh r)
theorem lY (x : Int) : ∀ l, (uI x l).Perm (x :: l)
  | [] => List.Perm.refl _
  | y :: r => by
    unfold uI;split
    · exact List.Perm.refl _
    · exact ((lY x r).cons y).trans (List.Perm.swap x y r)
theorem fj : ∀ l, (gh l).Perm l
  | [] => List.Perm.refl _
  | x :: r => (lY x (gh r)).trans ((fj r).cons x)
theorem mJ (x : Int) : ∀ l, l.Pairwise (· <= ·) -> (uI x l).Pairwise (· <= ·)
  | [], _ => by unfold uI; exact List.pairwise_singleton _ _
  | y :: r, h => by
    have h' := List.pairwise_cons.mp h;unfold uI;split
    · rename_i hxy;refine List.pairwise_cons.mpr ⟨fun z hz => ?_, h⟩;rcases List.mem_cons.mp hz with rfl | hz
      · exact hxy
      · exact Int.le_trans hxy (h'.1 z hz)
    · rename_i hxy;refine List.pairwise_cons.mpr ⟨fun z hz => ?_, mJ x r h'.2⟩;rcases List.mem_cons.mp ((lY x r).mem_iff.mp hz) with rfl | hz
      · omega
      · exact h'.1 z hz
theorem iU : ∀ l, (gh l).Pairwise (· <= ·)
  | [] => List.Pairwise.nil
  | x :: r => mJ x _ (iU r)
theorem sD {a b : List Int} (hp : a.Perm b) (hs : a.Pairwise (· <= ·)) : a = gh b := PySem.W.ksm_same (hp.trans (fj b).symm) hs (iU b)
section
variable {prog : Program} {w : World} {A : Around} {E : Value -> Shared -> Prop} {s : Shared}
theorem rF {d : Addr} {kvs : List (cS × Value)} {ns : List Int} {Q : Value -> Shared -> Prop} (hh : A.handled = none) (lo : (d == sysModules) = false) (hd : s.heap.DictOf (dc prog w) d kvs) (hk : kvs.map (·.1) = ns.map Sum.inl) (h64 : ns.length < 64)
    (h : ∀ (D : Addr) (h' : Heap) (tk : Nat) (vs : List Value) (e : Nat), s.heap.get? D = none -> (∀ b o, s.heap.get? b = some o -> h'.get? b = some o) -> h'.get? D = some (seqObj "list" vs.toArray e) -> IntsAre vs (gh ns) -> Q (.ref D) { s with heap := h', toks := tk }) :
    wpAny (model prog w) A (call (.builtin "sorted") [.ref d]) Q E s := by
  obtain ⟨ep, hat⟩ := hd.dictAt;have hlen : kvs.length = ns.length := by have := congrArg List.length hk; simpa using this
  have hn : kvs.length <= sizeLine := by rw [sizeLine_eq]; omega
  refine Calls.call_function_entry kind_sorted plain_sorted entry_sorted (args_sorted1 _) ?_;unfold Builtin.«sorted»;refine wpAny_bind (m := checkCount "sorted" 1 1 _) (wpAny_pure ?_);refine wpAny_bind (PySem.W.kdu_collect (A := A.in1) (PySem.W.kdl_dict (knd := dc prog w) (kvs := kvs) (ep := ep) lo) hh hat hn fun h1 tk acc hk1 hacc => ?_);have hl : acc.toList.length = kvs.length := by rw [Array.length_toList]; exact hacc.1
  have hI : IntsAre acc.toList ns := by
    have key : ∀ (l : List Value) (ms : List Int) (k : Nat), l.length = ms.length -> (∀ (j : Nat) (v : Value), l[j]? = some v -> ∃ n : Int, ms[j]? = some n /\ ∃ t, v = Value.int n t) -> IntsAre l ms := by
      intro l;induction l with
      | nil => intro ms k e _; have : ms = [] := List.length_eq_zero_iff.mp e.symm; subst this; exact .nil
      | cons v r ih =>
        intro ms k e hv;cases ms with
        | nil => cases e
        | cons n ms =>
          obtain ⟨n', e1, t, rfl⟩ := hv 0 v rfl;have : n = n' := Option.some.inj e1;subst this;exact .cons n t (ih ms (k + 1) (by simpa using e) fun j u hu => hv (j + 1) u (by simpa using hu))
    refine key acc.toList ns 0 (by rw [hl, hlen]) fun j v hv => ?_
    obtain ⟨κ, x, hx, his⟩ := hacc.2 j v (by rw [<- Array.getElem?_toList]; exact hv);have e1 : (kvs.map (·.1))[j]? = some κ := by rw [List.getElem?_map, hx]; rfl
    rw [hk, List.getElem?_map] at e1;cases e2 : ns[j]? with
    | none => rw [e2] at e1; cases e1
    | some n =>
      rw [e2] at e1;have e3 : Sum.inl n = κ := Option.some.inj e1;subst e3;rcases cx (show oA (Sum.inl n) v = true from his) with ⟨i, t, e4, e5⟩ | ⟨y, t, e4, _⟩
      · cases e4; exact ⟨n, rfl, t, e5⟩
      · cases e4
  refine wpAny_bind (wpAny_newList ?_ (by rw [hl]; exact hn));have hoL : (h1.push (seqObj "list" acc.toList.toArray 0)).get? h1.objs.size = some (seqObj "list" acc.toList.toArray 0) := Heap.get?_push_size _ rfl;show wpAny _ _ _ _ _ { s with heap := h1.push (seqObj "list" acc.toList.toArray 0), toks := tk };refine wpAny_bind (wpAny_holding (wpAny_call_entry slot_list_sort ⟨_, hoL, rfl⟩ entry_list_sort (list_sort_tree hoL hI (by rw [hl, hlen]; exact h64) fun out ns' a1 a2 a3 => ⟨_, rfl, ?_⟩) (args_list_sort _)));refine wpAny_pure ⟨_, rfl, ?_⟩;obtain ⟨e, he⟩ := sortedHeap_at (out := out) hoL;have hsz : s.heap.get? h1.objs.size = none := by
    cases q : s.heap.get? h1.objs.size with
    | none => rfl
    | some o => exact absurd (Heap.lt_size (hk1 _ _ q)) (Nat.lt_irrefl _)
  refine h h1.objs.size _ tk out.toList e hsz (fun b o q => ?_) he (by rw [sD a2 a3] at a1; exact a1);have q1 := hk1 b o q;have hlt : b < h1.objs.size := Heap.lt_size q1;show (sortedHeap (h1.push (seqObj "list" acc.toList.toArray 0)) h1.objs.size acc.toList out).get? b = some o;rw [sortedHeap_old (Nat.ne_of_lt hlt) (by rw [size_push']; exact Nat.lt_succ_of_lt hlt)];exact Heap.get?_push_of_some _ q1
end
theorem zQ {fs ex : List Addr} {H : Hp} {h h' : Heap} {a : Addr} {o : HO} (k : ∀ b u, h.get? b = some u -> h'.get? b = some u) (hg : h.get? a = none) (hn : H a = none) : Un fs ex H (cm H a o) h h' := by
  have ne : ∀ {b : Addr} {u : Obj}, h.get? b = some u -> b ≠ a := fun e z => by subst z; rw [hg] at e; cases e
  exact ⟨fun b u q _ _ _ => k b u q, fun b u q _ _ _ => ⟨u.slots, k b u q⟩, fun b u q n _ => by rw [au (ne q)]; exact n, fun b u q _ => ⟨u, k b u q⟩, fun b xs q => by rw [au (aQ q hn)]; exact q, fun b u xs q => by rw [au (aQ q hn)]; exact q,
    fun b ps q => ⟨#[], by rw [au (aQ q hn), q]; simp⟩⟩
theorem r9 {X : Cx} {pins : List (Addr × Obj)} {σ : St} {H : Hp} {s : Shared} {h' : Heap} {a : Addr} {o : HO} {t' : Nat} (I : aM X pins σ H s) (k : ∀ b u, s.heap.get? b = some u -> h'.get? b = some u) (hg : s.heap.get? a = none) (hn : H a = none)
    (new : bR X.prog X.w (cm H a o) h' a o) : aM X pins σ (cm H a o) { s with heap := h', toks := t' } := by
  refine I.un (zQ k hg hn) fun b u e => ?_
  by_cases hb : b = a
  · subst hb; rw [bd] at e; cases e; exact new
  · rw [au hb] at e;exact (I.hok b u e).stay (fun c v _ q => k c v q) (fun c q => by rw [au (aQ q hn)]; exact q) fun c xs q => by rw [au (aQ q hn)]; exact q
theorem sd {X : Cx} {pins : List (Addr × Obj)} {σ : St} {H : Hp} {s : Shared} {a : Addr} (I : aM X pins σ H s) (hg : s.heap.get? a = none) : H a = none := by
  cases q : H a with
  | none => rfl
  | some o => obtain ⟨u, e⟩ := qK (I.hok a o q); rw [hg] at e; cases e
section
variable {X : Cx} {a b c : Expr} {fa fb fc : Fe} {pos p2 : Pos} {nl : Nat} {G : List Str} {x : Str} {p : Pos}
def cY : List PyData -> Option (List Int)
  | [] => some []
  | .int i :: ds => (cY ds).map fun r => i :: r
  | _ => none
theorem fy : ∀ {ds : List PyData} {ns : List Int}, cY ds = some ns -> ds = ns.map PyData.int
  | [], ns, h => by cases h; rfl
  | d :: ds, ns, h => by
    cases d with
    | int i =>
      simp only [cY] at h;cases e : cY ds with
      | none => rw [e] at h; cases h
      | some r =>
        rw [e] at h;cases h;rw [List.map_cons, fy e]
    | _ => cases h
theorem gM : ∀ ns : List Int, cY (ns.map PyData.int) = some ns
  | [] => rfl
  | n :: ns => by simp only [List.map_cons, cY, gM ns, Option.map_some]
def jU : PyData -> R PyData
  | .list ds => match cY ds with
    | some ns => if ns.length < 64 then .ok (.list ((gh ns).map PyData.int)) else .no
    | none => .no
  | .dict kvs => match cY (kvs.map (·.1)) with
    | some ns => if ns.length < 64 then .ok (.list ((gh ns).map PyData.int)) else .no
    | none => .no
  | _ => .no
def BD (K : PySem.W.Frag) : List V -> Hp -> VK -> Prop := fun xs H Q => ∃ p ns, xs = [.ref p] /\ ni K H p (ns.map V.int) /\ ns.length < 64 /\ ∀ l, H l = none -> Q (.ref l) (cm H l (.lst ((gh ns).map V.int)))
def Ck : List V -> Hp -> VK -> Prop := fun xs H Q => ∃ p ks ns, xs = [.ref p] /\ Rd H p (.dK ks) /\ ks.map (·.1) = ns.map Sum.inl /\ ns.length < 64 /\ ∀ l, H l = none -> Q (.ref l) (cm H l (.lst ((gh ns).map V.int)))
theorem qc (ns : List Int) : (gh ns).length = ns.length := (fj ns).length_eq
theorem ub : dN X (.builtin "sorted") (BD X.K) := by
  intro pins s σ H xs us Q I r h;obtain ⟨p, ns, rfl, hq, h64, q⟩ := h;obtain ⟨u, rfl, rx⟩ := gx r;cases rx;obtain ⟨its, rv, pl, hz⟩ := I.list hq;have hI : IntsAre its ns := iQ rv;have hl := IntsAre.length hI;refine sorted_ints pl.isList hI (by omega) fun out ns' a1 a2 a3 => ?_
  rw [sD a2 a3] at a1;obtain ⟨e, he⟩ := sortedAll_at s.heap its out;refine ⟨.ref (s.heap.objs.size + 1), _, I.laid (t' := s.toks) (o := .lst ((gh ns).map V.int)) (fun b o e => sortedAll_old e) (Nat.le_succ _) ⟨?_, out.toList, e, j9 a1, by simpa [seqObj] using he⟩, rfl, q _ (I.hok.fresh (Nat.le_succ _))⟩;rw [List.length_map, qc, sizeLine_eq]; omega
theorem tw (hc : X.calm = true) : dN X (.builtin "sorted") Ck := by
  intro pins s σ H xs us Q I r h;obtain ⟨p, ks, ns, rfl, hq, hk, h64, q⟩ := h;obtain ⟨u, rfl, rx⟩ := gx r;cases rx;obtain ⟨hz, hlo, vs, kv, hd⟩ := n6 I.hok hq;refine rF (I.ok.hd hc) hlo hd (by rw [<- kv.keys]; exact hk) h64 fun D h' tk vs' e hg kp hD hI => ?_
  have hn := sd I hg;refine ⟨.ref D, _, r9 (t' := tk) (o := .lst ((gh ns).map V.int)) I kp hg hn ⟨?_, vs', e, j9 hI, by simpa [seqObj] using hD⟩, rfl, q _ hn⟩;rw [List.length_map, qc, sizeLine_eq]; omega
theorem kY : ∀ {H : Hp} {ns : List Int} {vs : List V}, bu H (ns.map PyData.int) vs -> vs = ns.map V.int
  | H, [], vs, r => by rw [List.map_nil] at r; rw [r.nil_inv]; rfl
  | H, n :: ns, vs, r => by
    rw [List.map_cons] at r;obtain ⟨v, r', rfl, p, t⟩ := r.cons_inv;have : v = .int n := by simpa only [Rp] using p
    rw [this, kY t]; rfl
theorem se : ∀ {H : Hp} {kvs : List (PyData × PyData)} {ks : List (cS × V)}, eh H kvs ks -> kvs.map (·.1) = ks.map fun k => fW k.1
  | H, [], ks, r => by simp only [eh] at r; rw [r]; rfl
  | H, (k, d) :: kvs, ks, r => by
    simp only [eh, zu] at r;obtain ⟨x, v, r', rfl, ⟨e, _⟩, t⟩ := r;rw [List.map_cons, List.map_cons, se t, e]
theorem pY : ∀ {ks : List (cS × V)} {ns : List Int}, (ks.map fun k => fW k.1) = ns.map PyData.int -> ks.map (·.1) = ns.map Sum.inl
  | [], [], _ => rfl
  | [], _ :: _, h => by cases h
  | _ :: _, [], h => by cases h
  | (k, v) :: ks, n :: ns, h => by
    rw [List.map_cons, List.map_cons] at h;injection h with h1 h2
    rw [List.map_cons, List.map_cons, pY h2];cases k with
    | inl i => simp only [fW] at h1; cases h1; rfl
    | inr y => simp only [fW] at h1; cases h1
theorem kK (T : Tb X nl G) (j : Nat) (hG : G[j]? = some ("sorted" : Str)) (hm : X.mg "sorted" = none) (ha : bK X a fa) (he : av a = true := by rfl) : gg X (.Call (.Name "sorted" p) [a] [] pos) (e1 jU fa) := by
  refine zT T j hG hm zH PyProof.Rows.boot_sorted (ub.or (tw T.calm)) (fun H x d Q hx q => ?_) ha he;cases d with
  | list ds =>
    simp only [jU] at q;cases ei : cY ds with
    | none => rw [ei] at q; exact q.elim
    | some ns =>
      rw [ei] at q;dsimp only at q;by_cases h64 : ns.length < 64
      · rw [if_pos h64] at q;obtain ⟨a', vs, rfl, h, r⟩ := dJ (K := X.K) hx;rw [fy ei] at r;rw [kY r] at h;exact .inl ⟨a', ns, rfl, h, h64, fun l hl => q _ _ (cb hl _) (dM hl (bu.ints _))⟩
      · rw [if_neg h64] at q; exact q.elim
  | dict kvs =>
    simp only [jU] at q;cases ei : cY (kvs.map (·.1)) with
    | none => rw [ei] at q; exact q.elim
    | some ns =>
      rw [ei] at q;dsimp only at q;by_cases h64 : ns.length < 64
      · rw [if_pos h64] at q;have hi : pP kvs = false := by
          cases kvs with
          | nil => rfl
          | cons kd kvs =>
            obtain ⟨k, d⟩ := kd;cases k <;> first | rfl | (simp [cY] at ei)
        obtain ⟨a', ks, rfl, h, r⟩ := lf hi hx;have hk := pY ((se r).symm.trans (fy ei));exact .inr ⟨a', ks, ns, rfl, h, hk, h64, fun l hl => q _ _ (cb hl _) (dM hl (bu.ints _))⟩
      · rw [if_neg h64] at q; exact q.elim
  | _ => exact q.elim
theorem Z.kK (T : Tb X nl G) (j : Nat) (hG : G[j]? = some ("sorted" : Str)) (hm : X.mg "sorted" = none) (ha : Z.bK X a fa) (he : av a = true := by rfl) : Z.gg X (.Call (.Name "sorted" p) [a] [] pos) (e1 jU fa) :=
  ⟨D2.kK T j hG hm ha.un he⟩
theorem wd (hc : X.calm = true) : dN X (.builtin "all") (fun xs H Q => ∃ (p : Addr) (bs : List Bool), xs = [.ref p] /\ ni X.K H p (bs.map V.bl) /\ Q (.bl (bs.all id)) H) := by
  intro pins s σ H xs us Q I r h;obtain ⟨p, bs, rfl, hq, q⟩ := h;obtain ⟨u, rfl, rx⟩ := gx r;cases rx;obtain ⟨its, rv, pl, hz⟩ := I.list hq;have hh : X.A.in1.handled = none := I.ok.hd hc;have hlt : p ≠ s.heap.objs.size := by obtain ⟨o, e, _⟩ := pl.isList; exact Nat.ne_of_lt (Heap.lt_size e)
  have hits : its = bs.map Value.bool := by
    have key : ∀ (bs : List Bool) (us : List Value), br (bs.map V.bl) us -> us = bs.map Value.bool := by
      intro bs;induction bs with
      | nil => intro us r; cases r; rfl
      | cons k bs ih => intro us r; rw [List.map_cons] at r; cases r with | cons r1 r2 => rw [ih _ r2]; cases r1; rfl
    exact key bs its rv
  refine call_all_walk (wpAny_pyIter_list pl.isList ?_);refine ⟨s.heap.objs.size, _, _, its.toArray.size, _, _, fun i => (bs[i]?).getD true, rfl, Walks.list hh s.heap.objs.size p hlt its.toArray, ⟨⟨_, Heap.get?_push_size _ rfl, rfl, rfl⟩, ?_⟩, fun i v s' Q' E' hv hQ' => ?_, fun h' tk kp => ?_⟩
  · obtain ⟨o, e, r'⟩ := pl.isList;exact ⟨o, Heap.get?_push_of_some _ e, r'⟩
  · have hv' : its[i]? = some v := by simpa using hv
    rw [hits, List.getElem?_map] at hv';cases e : bs[i]? with
    | none => rw [e] at hv'; cases hv'
    | some k =>
      rw [e] at hv';cases hv';dsimp only at hQ';rw [e] at hQ';exact wpAny_truthy_bool hQ'
  · have e : ((List.range its.toArray.size).all fun i => (bs[i]?).getD true) = bs.all id := by
      rw [List.size_toArray, hits, List.length_map];have key : ∀ (l : List Bool), ((List.range l.length).all fun i => (l[i]?).getD true) = l.all id := by
        intro l;induction l with
        | nil => rfl
        | cons k l ih =>
          rw [List.length_cons, List.range_succ_eq_map, List.all_cons, List.all_map, List.all_cons, <- ih];rfl
      exact key bs
    rw [e];refine ⟨.bl (bs.all id), H, I.kept (t' := tk) fun b o g => kp b o (fun z => ?_) (Heap.get?_push_of_some _ g), rfl, q⟩;rw [List.mem_singleton.mp z] at g;exact absurd (Heap.lt_size g) (Nat.lt_irrefl _)
theorem rC : ∀ {ds : List PyData} {k : Bool}, lE ds = some k -> ∃ bs : List Bool, ds = bs.map PyData.bool /\ k = bs.all id
  | [], k, h => by cases h; exact ⟨[], rfl, rfl⟩
  | d :: ds, k, h => by
    cases d with
    | bool j =>
      simp only [lE] at h;cases e : lE ds with
      | none => rw [e] at h; cases h
      | some r =>
        rw [e] at h;cases h;obtain ⟨bs, e1, e2⟩ := rC e;exact ⟨j :: bs, by rw [e1]; rfl, by rw [e2]; rfl⟩
    | _ => cases h
theorem pL : ∀ {H : Hp} {ns : List Bool} {vs : List V}, bu H (ns.map PyData.bool) vs -> vs = ns.map V.bl
  | H, [], vs, r => by rw [List.map_nil] at r; rw [r.nil_inv]; rfl
  | H, n :: ns, vs, r => by
    rw [List.map_cons] at r;obtain ⟨v, r', rfl, p, t⟩ := r.cons_inv;have : v = .bl n := by simpa only [Rp] using p
    rw [this, pL t]; rfl
theorem lK (T : Tb X nl G) (j : Nat) (hG : G[j]? = some ("all" : Str)) (hm : X.mg "all" = none) (ha : bK X a fa) (he : av a = true := by rfl) : ai X (.Call (.Name "all" p) [a] [] pos) (e1 lT fa) := by
  refine zT T j hG hm fR PyProof.Rows.boot_all (wd T.calm) (fun H x d Q hx q => ?_) ha he;cases d with
  | list ds =>
    simp only [lT] at q;cases ei : lE ds with
    | none => rw [ei] at q; exact q.elim
    | some k =>
      rw [ei] at q;obtain ⟨bs, e1, e2⟩ := rC ei;obtain ⟨a', vs, rfl, h, r⟩ := dJ (K := X.K) hx;rw [e1] at r;rw [pL r] at h;refine ⟨a', bs, rfl, h, ?_⟩;rw [<- e2];exact q _ H (aE.refl _) eY
  | _ => exact q.elim
theorem Z.lK (T : Tb X nl G) (j : Nat) (hG : G[j]? = some ("all" : Str)) (hm : X.mg "all" = none) (ha : Z.bK X a fa) (he : av a = true := by rfl) : Z.ai X (.Call (.Name "all" p) [a] [] pos) (e1 lT fa) :=
  ⟨D2.lK T j hG hm ha.un he⟩
end
section
variable {X : Cx} {a b c : Expr} {fa fb fc : Fe} {pos p2 : Pos} {nl : Nat} {G : List Str} {x : Str} {p : Pos}
theorem iB.change {Fm H : Hp} {σ : St} {ρ : aN} {i : Nat} {d d' : PyData} {a : Addr} {u u' : HO} (h : iB Fm H σ ρ) (h1 : ρ[i]? = some (.own d)) (h2 : σ[i]? = some (some (.ref a))) (hu : H a = some u) (hm : (∃ xs, u = .lst xs) \/ ∃ ks, u = .dK ks)
    (hr : ja (cm H a u') d' (.ref a)) : iB Fm (cm H a u') σ (ρ.set i (.own d')) := by
  have hFa := h.own i d a h1 h2;have kp : Kp H (cm H a u') := gG hu hm;have at_i : ∀ (j : Nat) (e : PyData), (ρ.set i (.own d'))[j]? = some (.own e) -> ∃ e0, ρ[j]? = some (.own e0) := fun j e q => by
    rw [List.getElem?_set] at q;by_cases hij : i = j
    · subst hij; exact ⟨d, h1⟩
    · rw [if_neg hij] at q; exact ⟨e, q⟩
  refine ⟨fun b x e => ?_, ⟨by rw [List.length_set]; exact h.sl.1, fun j c w' e1 e2 => ?_⟩, fun j e b e1 e2 => ?_, fun j k e f b e1 e2 e3 e4 => ?_⟩
  · rw [au (aQ e hFa)]; exact h.fm b x e
  · rw [List.getElem?_set] at e1;by_cases hij : i = j
    · subst hij;rw [if_pos rfl] at e1;split at e1
      · cases e1;rw [h2] at e2;cases e2;exact ⟨_, rfl, hr⟩
      · cases e1
    · rw [if_neg hij] at e1;have q := h.sl.2 j c w' e1 e2;cases c with
      | exc p => exact q
      | non => exact True.intro
      | val d1 => obtain ⟨v, z1, z2⟩ := q; exact ⟨v, z1, Rp.kp kp _ _ z2⟩
      | own d1 =>
        obtain ⟨v, z1, z2⟩ := q;subst z1;obtain ⟨b, ob, rfl, hb⟩ := qS z2;have nb : b ≠ a := fun z => hij (by subst z; exact h.apart i j d d1 b h1 e1 h2 e2)
        refine ⟨_, rfl, ?_⟩;cases d1 <;> simp only [ja] at z2 ⊢
        · obtain ⟨b', vs, e, hb', r⟩ := z2;cases e;exact ⟨b, vs, rfl, by rw [au nb]; exact hb', bu.kp kp _ _ r⟩
        · obtain ⟨b', vs, e, hb', r⟩ := z2;cases e;exact ⟨b, vs, rfl, by rw [au nb]; exact hb', eh.kp kp _ _ r⟩
  · obtain ⟨e0, q⟩ := at_i j e e1;exact h.own j e0 b q e2
  · obtain ⟨e0, q⟩ := at_i j e e1;obtain ⟨f0, q'⟩ := at_i k f e2;exact h.apart j k e0 f0 b q q' e3 e4
def xB (i : Nat) (fk fv : Fe) : Fs := fun ρ => fv ρ >>= fun v => mK (fk ρ) >>= fun k => match ρ[i]? with
  | some (.own (.dict kvs)) => match iq k with
    | some _ => if kvs.length < sizeLine then .ok (.nx (ρ.set i (.own (.dict (tZ kvs k v))))) else .no
    | none => .no
  | _ => .no
theorem vY {k : PyData} {κ : cS} (h : iq k = some κ) : k = fW κ := by
  cases k <;> simp only [iq] at h <;> cases h <;> rfl
theorem CO {H : Hp} {κ : cS} {y : V} (h : Rp H (fW κ) y) : y = kV κ := by
  cases κ <;> simp only [fW, Rp] at h <;> exact h
theorem uH {k v : Expr} {fk fv : Fe} {q1 q2 q3 : Pos} (T : Tb X nl G) (n : Nat) (hN : X.N[n]? = some x) (hk : ai X k fk) (hv : ai X v fv) (hs : swapsWith v (some (.Subscript (.Name x q1) k q2)) q3.line X.env = pure false := by rfl) :
    fA X (.Assign [.Subscript (.Name x q1) k q2] v q3) (xB n fk fv) := fun Fm => by
  have hm := T.vis x (List.mem_of_getElem? hN);refine PS.imp (AG (by have := T.hu; omega) (mt hN hm.1 hm.2.1 hm.2.2) hk hv hs) fun D σ H h => ?_
  refine (mf (P := gQ) (f := fv) (k := fun ρ v => mK (fk ρ) >>= fun k => match ρ[n]? with
    | some (.own (.dict kvs)) => match iq k with
      | some _ => if kvs.length < sizeLine then .ok (.nx (ρ.set n (.own (.dict (tZ kvs k v))))) else .no
      | none => .no
    | _ => .no) h).post fun vv H1 ⟨ρ1, dv, sl1, _, p1, q1⟩ => ?_
  have sl0 : Bs X Fm (fun ρ => mK (fk ρ) >>= fun k => match ρ[n]? with
    | some (.own (.dict kvs)) => match iq k with
      | some _ => if kvs.length < sizeLine then .ok (.nx (ρ.set n (.own (.dict (tZ kvs k dv))))) else .no
      | none => .no
    | _ => .no) D σ H1 := ⟨ρ1, sl1, q1⟩
  cases e : ρ1[n]? with
  | none =>
    exfalso;rw [e] at q1;cases e2 : fk ρ1 with
    | ok _ => rw [e2] at q1; exact q1
    | ex _ => rw [e2] at q1; exact q1
    | no => rw [e2] at q1; exact q1
  | some c =>
    rw [e] at q1;cases c with
    | own d =>
      cases d with
      | dict kvs =>
        obtain ⟨o, h2, w', rfl, p2⟩ := sl1.sl.at e;simp only [ja] at p2;obtain ⟨a', ks, rfl, ha, r⟩ := p2;refine ⟨.ref a', h2, ?_⟩;refine ⟨ρ1, sl1.sl, ?_⟩;cases e2 : fk ρ1 with
        | ex _ => rw [e2] at q1; exact q1.elim
        | no => rw [e2] at q1; exact q1
        | ok kd =>
          rw [e2] at q1;simp only [mK, R.ok_bind] at q1;intro yv H3 s3 p3;cases e3 : iq kd with
          | none => rw [e3] at q1; exact q1.elim
          | some κ =>
            rw [e3] at q1;dsimp only at q1;by_cases hz : kvs.length < sizeLine
            · rw [if_pos hz] at q1;have ek := vY e3;subst ek;have ey := CO p3;subst ey;have ha3 := s3 _ _ ha;have r3 : eh H3 kvs ks := eh.kp (Kp.of s3) _ _ r;refine ⟨a', _, rfl, ua.k ha3 (by rw [r3.length]; exact hz), q1 _ _ ((sl1.mono s3).change e h2 ha3 (.inr ⟨_, rfl⟩) ?_)⟩;simp only [ja];exact ⟨a', _, rfl, bd, eh.kp (gG ha3 (.inr ⟨_, rfl⟩)) _ _ (eh.put κ (p1.mono s3) r3)⟩
            · rw [if_neg hz] at q1; exact q1.elim
      | _ =>
        exfalso;cases e2 : fk ρ1 with
        | ok _ => rw [e2] at q1; exact q1
        | ex _ => rw [e2] at q1; exact q1
        | no => rw [e2] at q1; exact q1
    | _ =>
      exfalso;cases e2 : fk ρ1 with
      | ok _ => rw [e2] at q1; exact q1
      | ex _ => rw [e2] at q1; exact q1
      | no => rw [e2] at q1; exact q1
theorem Z.uH {k v : Expr} {fk fv : Fe} {q1 q2 q3 : Pos} (T : Tb X nl G) (n : Nat) (hN : X.N[n]? = some x) (hk : Z.ai X k fk) (hv : Z.ai X v fv) (hs : swapsWith v (some (.Subscript (.Name x q1) k q2)) q3.line X.env = pure false := by rfl) : Z.fA X (.Assign [.Subscript (.Name x q1) k q2] v q3) (xB n fk fv) :=
  ⟨D2.uH T n hN hk.un hv.un hs⟩
def cr (i : Nat) (f : Fe) : Fs := fun ρ => mK (f ρ) >>= fun d => match ρ[i]? with
  | some (.own (.list ds)) => if ds.length < sizeLine then .ok (.nx (ρ.set i (.own (.list (ds ++ [d]))))) else .no
  | _ => .no
end
section
variable {prog : Program} {w : World} {A : Around} {E : Value -> Shared -> Prop} {s : Shared}
theorem um {it t : Addr} {i : Nat} {items : Array Value} {x : Value} {Q : Value -> Shared -> Prop} (hit : s.heap.IsTupleIter it t i) (ht : s.heap.IsTuple t items) (hx : items[i]? = some x)
    (hQ : ∀ h', h'.IsTupleIter it t (i + 1) -> Heap.SameBut it s.heap h' -> Q x { s with heap := h' }) : wpAny (model prog w) A (Builtin.SmallTypes.nextOf (.ref it)) Q E s := by
  obtain ⟨ob, hob, hcl, hdt⟩ := id hit;obtain ⟨ot, hot, _, nt, hdtt⟩ := ht;unfold Builtin.SmallTypes.nextOf;refine wpAny_bind (wpAny_callSpecial?_slot (name := Str.ofString "__next__") hit.typeIs F.slot_tuple_iterator_next (wpAny_call_entry F.slot_tuple_iterator_next hit.typeIs F.entry_tuple_iterator_next ?_ (F.args_tuple_iterator_next_1 _)));show wpAny _ _ (field (Value.ref it) 0 >>= _) _ _ s;refine wpAny_bind (wpAny_field hob hdt (x := Value.ref t) rfl ?_);show wpAny _ _ (if (Value.ref t == Value.none) = true then _ else _) _ _ s;rw [if_neg (by intro z; cases z)];show wpAny _ _ (field (Value.ref it) 1 >>= _) _ _ s;refine wpAny_bind (wpAny_field hob hdt (x := Value.int i 0) rfl ?_);show wpAny _ _ (seqItems? (Value.ref t) >>= _) _ _ s;refine wpAny_bind (wpAny_seqItems hot hdtt ?_);simp only [hx, Int.toNat_natCast];refine wpAny_bind (wpAny_setField hob hdt (by simp) (wpAny_pure ⟨x, rfl, wpAny_pure (hQ _ ⟨_, Heap.get?_update_self _ hob (Obj.isFreed_of_fields (Obj.data_mapFields hdt _)), (Obj.cls_mapFields ..).trans hcl, ?_⟩ (Heap.SameBut.update ..))⟩));rw [Obj.data_mapFields hdt];simp [rawInt]
theorem n8 {it t : Addr} {i : Nat} {items : Array Value} {Q : Value -> Shared -> Prop} (hh : A.handled = none) (hit : s.heap.IsTupleIter it t i) (ht : s.heap.IsTuple t items) (hx : items[i]? = none)
    (hE : ∀ h' e, Heap.ExtBut it s.heap h' -> (∃ o, h'.get? e = some o /\ o.cls = .type "StopIteration") -> E (.ref e) { s with heap := h' }) : wpAny (model prog w) A (Builtin.SmallTypes.nextOf (.ref it)) Q E s := by
  obtain ⟨ob, hob, hcl, hdt⟩ := id hit;obtain ⟨ot, hot, _, nt, hdtt⟩ := ht;unfold Builtin.SmallTypes.nextOf;refine wpAny_bind (wpAny_callSpecial?_slot (name := Str.ofString "__next__") hit.typeIs F.slot_tuple_iterator_next (wpAny_call_entry F.slot_tuple_iterator_next hit.typeIs F.entry_tuple_iterator_next ?_ (F.args_tuple_iterator_next_1 _)));show wpAny _ _ (field (Value.ref it) 0 >>= _) _ _ s;refine wpAny_bind (wpAny_field hob hdt (x := Value.ref t) rfl ?_);show wpAny _ _ (if (Value.ref t == Value.none) = true then _ else _) _ _ s;rw [if_neg (by intro z; cases z)];show wpAny _ _ (field (Value.ref it) 1 >>= _) _ _ s;refine wpAny_bind (wpAny_field hob hdt (x := Value.int i 0) rfl ?_);show wpAny _ _ (seqItems? (Value.ref t) >>= _) _ _ s;refine wpAny_bind (wpAny_seqItems hot hdtt ?_);simp only [hx, Int.toNat_natCast];refine wpAny_bind (wpAny_rule (wpAny_bind (wpAny_setField hob hdt (by simp) ?_)));show wpAny _ _ (newExc (Value.type "StopIteration") [] >>= _) _ _ _;refine wpAny_bind ?_;simp only [newTuple, newExc];refine wpAny_bind (wpAny_newObj_type ?_ (by size_fits));refine wpAny_bind (m := firstArgMember _ _) (wpAny_of_eq (a := Value.none) (by first | rfl | (simp only [firstArgMember]; rfl)) ?_);refine wpAny_newObj_type ?_ (by size_fits);simp only [raiseNew];refine wpAny_bind (wpAny_handled ?_)
  first | rw [show A.in1.handled = none from hh] | rw [hh]
  exact wpAny_bind (wpAny_pure (wpAny_throw (hE _ _ (((Heap.SameBut.update ..).extBut.push _).push _) ⟨_, Heap.get?_push_size _ rfl, rfl⟩)))
end
def gO (h : Heap) (i l : Addr) (k : Nat) (xs : Array Value) : Prop := (h.IsListIter i l k /\ h.IsList l xs) \/ (h.IsTupleIter i l k /\ h.IsTuple l xs)
section
variable {h h' : Heap} {i l : Addr} {k : Nat} {xs : Array Value}
theorem gO.keep (x : gO h i l k xs) (hi : ∀ o, h.get? i = some o -> h'.get? i = some o) (hl : ∀ o, h.get? l = some o -> h'.get? l = some o) : gO h' i l k xs := by
  rcases x with ⟨⟨o, e, r⟩, ⟨o', e', r'⟩⟩ | ⟨⟨o, e, r⟩, ⟨o', e', r'⟩⟩
  · exact .inl ⟨⟨o, hi _ e, r⟩, ⟨o', hl _ e', r'⟩⟩
  · exact .inr ⟨⟨o, hi _ e, r⟩, ⟨o', hl _ e', r'⟩⟩
end
section
variable {prog : Program} {w : World} {A : Around} {E : Value -> Shared -> Prop} {s : Shared} {i l : Addr} {k : Nat} {xs : Array Value}
theorem lc {x : Value} {Q : Value -> Shared -> Prop} (it : gO s.heap i l k xs) (hne : l ≠ i) (hx : xs[k]? = some x) (hQ : ∀ h', gO h' i l (k + 1) xs -> Heap.SameBut i s.heap h' -> Q x { s with heap := h' }) :
    wpAny (model prog w) A (Builtin.SmallTypes.nextOf (.ref i)) Q E s := by
  rcases it with ⟨h1, h2⟩ | ⟨h1, h2⟩
  · exact wpAny_nextOf_list_item h1 h2 hx fun h' a b => hQ h' (.inl ⟨a, h2.extBut b.extBut hne⟩) b
  · exact um h1 h2 hx fun h' a b => hQ h' (.inr ⟨a, h2.extBut b.extBut hne⟩) b
theorem gr {Q : Value -> Shared -> Prop} (hh : A.handled = none) (it : gO s.heap i l k xs) (hx : xs[k]? = none)
    (hE : ∀ h' e, Heap.ExtBut i s.heap h' -> (∃ o, h'.get? e = some o /\ o.cls = .type "StopIteration") -> E (.ref e) { s with heap := h' }) : wpAny (model prog w) A (Builtin.SmallTypes.nextOf (.ref i)) Q E s := by
  rcases it with ⟨h1, h2⟩ | ⟨h1, h2⟩
  · exact wpAny_nextOf_list_end hh h1 h2 hx hE
  · exact n8 hh h1 h2 hx hE
def tz (h : Heap) (l : Addr) (xs : Array Value) : Prop := h.IsList l xs \/ h.IsTuple l xs
end
structure ZA (z p q i j l m : Addr) : Prop where
  pz : p ≠ z
  qz : q ≠ z
  iz : i ≠ z
  jz : j ≠ z
  pq : p ≠ q
  pi : p ≠ i
  pj : p ≠ j
  qi : q ≠ i
  qj : q ≠ j
  ij : i ≠ j
  lz : l ≠ z
  lq : l ≠ q
  li : l ≠ i
  lj : l ≠ j
  mz : m ≠ z
  mq : m ≠ q
  mi : m ≠ i
  mj : m ≠ j
structure zC (h : Heap) (z p q i j l m : Addr) (f0 : Value) (k : Nat) (xs ys : Array Value) : Prop where
  zz : IsZip h z p q f0
  pp : IsPair h p (.ref i) (.ref j)
  qq : ∃ a b, IsPair h q a b
  ii : gO h i l k xs
  jj : gO h j m k ys
section
variable {prog : Program} {w : World} {A : Around} {E : Value -> Shared -> Prop} {s : Shared} {z p q i j l m : Addr} {k : Nat} {xs ys : Array Value}
theorem yu {x y : Value} {Q : Value -> Shared -> Prop} (D : ZA z p q i j l m) (S : zC s.heap z p q i j l m .none k xs ys) (hx : xs[k]? = some x) (hy : ys[k]? = some y)
    (hQ : ∀ h', zC h' z p q i j l m (rawInt s.heap.objs.size) (k + 1) xs ys -> IsPair h' s.heap.objs.size x y -> (∀ c o, c ≠ z -> c ≠ q -> c ≠ i -> c ≠ j -> s.heap.get? c = some o -> h'.get? c = some o) -> Q (.ref s.heap.objs.size) { s with heap := h' }) :
    wpAny (model prog w) A (Builtin.«zip.__next__» ⟨[.ref z], []⟩) (fun fin s' => ∃ v, fin = .done (.ret v) /\ Q v s') E s := by
  obtain ⟨hz, hp, ⟨a, b, hq⟩, hi, hj⟩ := S;show wpAny _ _ (field (Value.ref z) 2 >>= _) _ _ _;refine wpAny_bind (wpAny_field hz rfl (x := Value.bool false) rfl ?_);show wpAny _ _ (field (Value.ref z) 3 >>= _) _ _ _;refine wpAny_bind (wpAny_field hz rfl (x := Value.ref p) rfl ?_);refine wpAny_bind (wpAny_seqItems hp rfl ?_);show wpAny _ _ (Builtin.SmallTypes.ownedTupleIsFree (Value.ref z) >>= _) _ _ _;refine wpAny_bind ?_;unfold Builtin.SmallTypes.ownedTupleIsFree;refine wpAny_bind (wpAny_field hz rfl (x := Value.none) rfl (wpAny_pure ?_));simp only [if_true];refine wpAny_bind (wpAny_rule ?_);refine wpAny_bind (wpAny_field hz rfl (x := Value.ref q) rfl ?_);refine wpAny_bind (wpAny_setField_rec hz (by simp) fun g1 z1 s1 => ?_);replace z1 : IsZip g1 z p q .ellipsis := z1;refine wpAny_bind ?_;simp only [List.zipIdx_cons, List.zipIdx_nil, List.forIn_cons, List.forIn_nil];refine wpAny_bind (wpAny_bind (wpAny_onRaise ?_));show wpAny _ _ (Builtin.SmallTypes.nextOf (Value.ref i) >>= _) _ _ _;have hi1 : gO g1 i l k xs := hi.keep (fun o e => s1.extBut _ _ D.iz e) fun o e => s1.extBut _ _ D.lz e
  refine wpAny_bind (lc hi1 D.li hx fun g2 i2 s2 => wpAny_pure ?_);have q2 : IsPair g2 q a b := s2.extBut _ _ D.qi (s1.extBut _ _ D.qz hq);refine wpAny_bind (wpAny_seqItems q2 rfl ?_);refine wpAny_bind (wpAny_updateSeq_pair q2 fun g3 q3 s3 => ?_);replace q3 : IsPair g3 q x b := q3;refine wpAny_bind (wpAny_letGo (wpAny_pure ?_));refine wpAny_bind (wpAny_bind (wpAny_onRaise ?_));show wpAny _ _ (Builtin.SmallTypes.nextOf (Value.ref j) >>= _) _ _ _;have hj3 : gO g3 j m k ys := hj.keep (fun o e => s3.extBut _ _ D.qj.symm (s2.extBut _ _ D.ij.symm (s1.extBut _ _ D.jz e))) fun o e => s3.extBut _ _ D.mq (s2.extBut _ _ D.mi (s1.extBut _ _ D.mz e))
  refine wpAny_bind (lc hj3 D.mj hy fun g4 j4 s4 => wpAny_pure ?_);have q4 : IsPair g4 q x b := s4.extBut _ _ D.qj q3;refine wpAny_bind (wpAny_seqItems q4 rfl ?_);refine wpAny_bind (wpAny_updateSeq_pair q4 fun g5 q5 s5 => ?_);replace q5 : IsPair g5 q x y := q5;refine wpAny_bind (wpAny_letGo (wpAny_pure (wpAny_pure ?_)));refine wpAny_bind (wpAny_seqItems q5 rfl ?_);refine wpAny_bind (wpAny_newTuple ?_);have hsz : g5.objs.size = s.heap.objs.size := by rw [s5.1, s4.1, s3.1, s2.1, s1.1]
  have z5 : IsZip g5 z p q .ellipsis := s5.extBut _ _ D.qz.symm (s4.extBut _ _ D.jz.symm (s3.extBut _ _ D.qz.symm (s2.extBut _ _ D.iz.symm z1)));have k5 : ∀ c o, c ≠ z -> c ≠ q -> c ≠ i -> c ≠ j -> s.heap.get? c = some o -> g5.get? c = some o := fun c o c1 c2 c3 c4 e => s5.extBut _ _ c2 (s4.extBut _ _ c4 (s3.extBut _ _ c2 (s2.extBut _ _ c3 (s1.extBut _ _ c1 e))))
  have i5 : gO g5 i l (k + 1) xs := i2.keep (fun o e => s5.extBut _ _ D.qi.symm (s4.extBut _ _ D.ij (s3.extBut _ _ D.qi.symm e))) fun o e => s5.extBut _ _ D.lq (s4.extBut _ _ D.lj (s3.extBut _ _ D.lq e))
  have j5 : gO g5 j m (k + 1) ys := j4.keep (fun o e => s5.extBut _ _ D.qj.symm e) fun o e => s5.extBut _ _ D.mq e
  have zlt : z < g5.objs.size := Heap.lt_size z5;show wpAny _ _ (Builtin.SmallTypes.ownedTupleHandOut (Value.ref z) (Value.ref g5.objs.size) >>= _) _ _ _;refine wpAny_bind ?_;unfold Builtin.SmallTypes.ownedTupleHandOut;have z6 : IsZip (g5.push { cls := .type "tuple", data := .seq #[x, y] }) z p q .ellipsis := Heap.get?_push_of_some _ z5;refine wpAny_bind (wpAny_setField_rec z6 (by simp) fun g7 z7 s7 => ?_);replace z7 : IsZip g7 z p q (rawInt g5.objs.size) := z7;refine wpAny_setField_rec z7 (by simp) fun g8 z8 s8 => ?_
  replace z8 : IsZip g8 z p q (rawInt g5.objs.size) := z8;have up : ∀ c o, c ≠ z -> g5.get? c = some o -> g8.get? c = some o := fun c o c1 e => s8.extBut _ _ c1 (s7.extBut _ _ c1 (Heap.get?_push_of_some _ e))
  have t8 : IsPair g8 g5.objs.size x y := s8.extBut _ _ (Nat.ne_of_gt zlt) (s7.extBut _ _ (Nat.ne_of_gt zlt) (Heap.get?_push_size _ rfl));rw [hsz] at z8 t8;refine wpAny_pure ⟨_, rfl, ?_⟩;show Q (.ref g5.objs.size) _;rw [hsz];exact hQ g8 ⟨z8, up _ _ D.pz (k5 _ _ D.pz D.pq D.pi D.pj hp), ⟨x, y, up _ _ D.qz q5⟩, i5.keep (fun o e => up _ _ D.iz e) fun o e => up _ _ D.lz e, j5.keep (fun o e => up _ _ D.jz e) fun o e => up _ _ D.mz e⟩ t8 fun c o c1 c2 c3 c4 e => up c o c1 (k5 c o c1 c2 c3 c4 e)
theorem Ar {Q : PySem.Fin -> Shared -> Prop} (hh : A.handled = none) (D : ZA z p q i j l m) (S : zC s.heap z p q i j l m .none k xs ys) (hend : xs[k]? = none \/ ys[k]? = none)
    (hE : ∀ h' e, (∀ c o, c ≠ z -> c ≠ q -> c ≠ i -> c ≠ j -> s.heap.get? c = some o -> h'.get? c = some o) -> (∃ o, h'.get? e = some o /\ o.cls = .type "StopIteration") -> E (.ref e) { s with heap := h' }) :
    wpAny (model prog w) A (Builtin.«zip.__next__» ⟨[.ref z], []⟩) Q E s := by
  obtain ⟨hz, hp, ⟨a, b, hq⟩, hi, hj⟩ := S;show wpAny _ _ (field (Value.ref z) 2 >>= _) _ _ _;refine wpAny_bind (wpAny_field hz rfl (x := Value.bool false) rfl ?_);show wpAny _ _ (field (Value.ref z) 3 >>= _) _ _ _;refine wpAny_bind (wpAny_field hz rfl (x := Value.ref p) rfl ?_);refine wpAny_bind (wpAny_seqItems hp rfl ?_);show wpAny _ _ (Builtin.SmallTypes.ownedTupleIsFree (Value.ref z) >>= _) _ _ _;refine wpAny_bind ?_;unfold Builtin.SmallTypes.ownedTupleIsFree;refine wpAny_bind (wpAny_field hz rfl (x := Value.none) rfl (wpAny_pure ?_));simp only [if_true];refine wpAny_bind (wpAny_rule ?_);refine wpAny_bind (wpAny_field hz rfl (x := Value.ref q) rfl ?_);refine wpAny_bind (wpAny_setField_rec hz (by simp) fun g1 z1 s1 => ?_);replace z1 : IsZip g1 z p q .ellipsis := z1;refine wpAny_bind ?_;simp only [List.zipIdx_cons, List.zipIdx_nil, List.forIn_cons, List.forIn_nil];refine wpAny_bind (wpAny_bind (wpAny_onRaise ?_));show wpAny _ _ (Builtin.SmallTypes.nextOf (Value.ref i) >>= _) _ _ _;have hi1 : gO g1 i l k xs := hi.keep (fun o e => s1.extBut _ _ D.iz e) fun o e => s1.extBut _ _ D.lz e
  cases hx : xs[k]? with
  | none =>
    refine wpAny_bind (gr hh hi1 hx fun g2 e s2 he => ?_);obtain ⟨oe, hoe, hce⟩ := he;have z2 : IsZip g2 z p q .ellipsis := s2 _ _ D.iz.symm z1;have hez : e ≠ z := fun t => by subst t; rw [z2] at hoe; cases hoe; simp at hce
    exact wpAny_setField_rec z2 (by simp) fun g3 _ s3 => hE g3 e (fun c o c1 _ c3 _ t => s3.extBut _ _ c1 (s2 _ _ c3 (s1.extBut _ _ c1 t))) ⟨oe, s3.extBut _ _ hez hoe, hce⟩
  | some x =>
    have hy : ys[k]? = none := by rcases hend with t | t; rw [hx] at t; cases t; exact t
    refine wpAny_bind (lc hi1 D.li hx fun g2 i2 s2 => wpAny_pure ?_);have q2 : IsPair g2 q a b := s2.extBut _ _ D.qi (s1.extBut _ _ D.qz hq);refine wpAny_bind (wpAny_seqItems q2 rfl ?_);refine wpAny_bind (wpAny_updateSeq_pair q2 fun g3 q3 s3 => ?_);refine wpAny_bind (wpAny_letGo (wpAny_pure ?_));refine wpAny_bind (wpAny_bind (wpAny_onRaise ?_));show wpAny _ _ (Builtin.SmallTypes.nextOf (Value.ref j) >>= _) _ _ _;have hj3 : gO g3 j m k ys := hj.keep (fun o e => s3.extBut _ _ D.qj.symm (s2.extBut _ _ D.ij.symm (s1.extBut _ _ D.jz e))) fun o e => s3.extBut _ _ D.mq (s2.extBut _ _ D.mi (s1.extBut _ _ D.mz e))
    refine wpAny_bind (gr hh hj3 hy fun g4 e s4 he => ?_);obtain ⟨oe, hoe, hce⟩ := he;have z4 : IsZip g4 z p q .ellipsis := s4 _ _ D.jz.symm (s3.extBut _ _ D.qz.symm (s2.extBut _ _ D.iz.symm z1));have hez : e ≠ z := fun t => by subst t; rw [z4] at hoe; cases hoe; simp at hce
    exact wpAny_setField_rec z4 (by simp) fun g5 _ s5 => hE g5 e (fun c o c1 c2 c3 c4 t => s5.extBut _ _ c1 (s4 _ _ c4 (s3.extBut _ _ c2 (s2.extBut _ _ c3 (s1.extBut _ _ c1 t))))) ⟨oe, s5.extBut _ _ hez hoe, hce⟩
theorem tL {x y : Value} {Q : Option Value -> Shared -> Prop} (D : ZA z p q i j l m) (S : zC s.heap z p q i j l m .none k xs ys) (hx : xs[k]? = some x) (hy : ys[k]? = some y)
    (hQ : ∀ h', zC h' z p q i j l m (rawInt s.heap.objs.size) (k + 1) xs ys -> IsPair h' s.heap.objs.size x y -> (∀ c o, c ≠ z -> c ≠ q -> c ≠ i -> c ≠ j -> s.heap.get? c = some o -> h'.get? c = some o) -> Q (some (.ref s.heap.objs.size)) { s with heap := h' }) :
    wpAny (model prog w) A (pyNext (.ref z)) Q E s := by
  have hT : s.TypeIs (.ref z) "zip" := ⟨_, S.zz, rfl⟩
  unfold pyNext;exact wpAny_bind (wpAny_attempt (wpAny_callSpecial?_slot (name := Str.ofString "__next__") hT F.slot_zip_next (wpAny_call_entry F.slot_zip_next hT F.entry_zip_next (yu D S hx hy fun h' a b c => wpAny_pure (hQ h' a b c)) (F.args_zip_next_1 _))))
theorem xc {Q : Option Value -> Shared -> Prop} (hh : A.handled = none) (D : ZA z p q i j l m) (S : zC s.heap z p q i j l m .none k xs ys) (hend : xs[k]? = none \/ ys[k]? = none)
    (hQ : ∀ h', (∀ c o, c ≠ z -> c ≠ q -> c ≠ i -> c ≠ j -> s.heap.get? c = some o -> h'.get? c = some o) -> Q none { s with heap := h' }) : wpAny (model prog w) A (pyNext (.ref z)) Q E s := by
  have hT : s.TypeIs (.ref z) "zip" := ⟨_, S.zz, rfl⟩
  unfold pyNext;refine wpAny_bind (wpAny_attempt (wpAny_callSpecial?_slot (name := Str.ofString "__next__") hT F.slot_zip_next (wpAny_call_entry F.slot_zip_next hT F.entry_zip_next (Ar hh D S hend fun h' e hk he => ?_) (F.args_zip_next_1 _))));obtain ⟨o, ho, hc⟩ := he;exact wpAny_bind (wpAny_isInstance (T := "StopIteration") (b := true) ⟨o, ho, hc⟩ isSubtype_stop (wpAny_pure (hQ _ hk)))
theorem Av (l m : Addr) (xs ys : Array Value) : Meets (Builtin.«zip.__new__» ⟨[.type "zip", .ref l, .ref m], []⟩) (fun _ R s => tz s.heap l xs /\ tz s.heap m ys /\
    ∀ h', h'.objs.size = s.heap.objs.size + 5 -> zC h' (s.heap.objs.size + 4) (s.heap.objs.size + 2) (s.heap.objs.size + 3) s.heap.objs.size (s.heap.objs.size + 1) l m .none 0 xs ys -> (∀ c o, s.heap.get? c = some o -> h'.get? c = some o) ->
      R (.ok (.ret (.ref (s.heap.objs.size + 4)))) { s with heap := h' }) :=
  .of_wp fun prog w A R s h => by
    obtain ⟨hp, g, d, tk, os⟩ := s; obtain ⟨h1, h2, h⟩ := h;have hsub := sub_zip;have fin : ∀ (oi oj : Obj), gO (hp.push oi) hp.objs.size l 0 xs -> gO ((hp.push oi).push oj) (hp.push oi).objs.size m 0 ys ->
        R (.ok (.ret (.ref ((((hp.push oi).push oj).push { cls := .type "tuple", data := .seq #[.ref hp.objs.size, .ref (hp.push oi).objs.size] }).push { cls := .type "tuple", data := .seq #[.none, .none] }).objs.size)))
          ⟨((((hp.push oi).push oj).push { cls := .type "tuple", data := .seq #[.ref hp.objs.size, .ref (hp.push oi).objs.size] }).push { cls := .type "tuple", data := .seq #[.none, .none] }).push { cls := .type "zip", data := .fields #[.none, .bool false, .bool false, .ref ((hp.push oi).push oj).objs.size, .ref (((hp.push oi).push oj).push { cls := .type "tuple", data := .seq #[.ref hp.objs.size, .ref (hp.push oi).objs.size] }).objs.size] }, g, d, tk, os⟩ := fun oi oj hi hj => by
      have e1 : (hp.push oi).objs.size = hp.objs.size + 1 := Heap.size_push ..;have e2 : ((hp.push oi).push oj).objs.size = hp.objs.size + 2 := by rw [Heap.size_push, e1]
      have e3 : (((hp.push oi).push oj).push { cls := .type "tuple", data := .seq #[.ref hp.objs.size, .ref (hp.push oi).objs.size] }).objs.size = hp.objs.size + 3 := by rw [Heap.size_push, e2]
      have e4 : ((((hp.push oi).push oj).push { cls := .type "tuple", data := .seq #[.ref hp.objs.size, .ref (hp.push oi).objs.size] }).push { cls := .type "tuple", data := .seq #[.none, .none] }).objs.size = hp.objs.size + 4 := by rw [Heap.size_push, e3]
      rw [e4, e3, e2];rw [e1] at hj ⊢;have kk : ∀ (c : Addr) (o a b c' : Obj), ((hp.push oi).push oj).get? c = some o -> (((((hp.push oi).push oj).push a).push b).push c').get? c = some o := fun c o a b c' e => Heap.get?_push_of_some _ (Heap.get?_push_of_some _ (Heap.get?_push_of_some _ e))
      refine h _ (by rw [Heap.size_push, Heap.size_push, Heap.size_push, e2]) ⟨?_, ?_, ⟨.none, .none, ?_⟩, ?_, ?_⟩ fun c o e => kk _ _ _ _ _ (Heap.get?_push_of_some _ (Heap.get?_push_of_some _ e))
      · have : hp.objs.size + 4 = ((((hp.push oi).push oj).push { cls := .type "tuple", data := .seq #[.ref hp.objs.size, .ref (hp.objs.size + 1)] }).push { cls := .type "tuple", data := .seq #[.none, .none] }).objs.size := by rw [Heap.size_push, Heap.size_push, e2]
        show Heap.get? _ (hp.objs.size + 4) = _;rw [this];exact Heap.get?_push_size _ rfl
      · refine Heap.get?_push_of_some _ (Heap.get?_push_of_some _ ?_);show Heap.get? _ (hp.objs.size + 2) = _;rw [<- e2];exact Heap.get?_push_size _ rfl
      · refine Heap.get?_push_of_some _ ?_;have : hp.objs.size + 3 = (((hp.push oi).push oj).push { cls := .type "tuple", data := .seq #[.ref hp.objs.size, .ref (hp.objs.size + 1)] }).objs.size := by rw [Heap.size_push, e2]
        show Heap.get? _ (hp.objs.size + 3) = _;rw [this];exact Heap.get?_push_size _ rfl
      · exact hi.keep (fun o e => kk _ _ _ _ _ (Heap.get?_push_of_some _ e)) fun o e => kk _ _ _ _ _ (Heap.get?_push_of_some _ e)
      · exact hj.keep (fun o e => kk _ _ _ _ _ e) fun o e => kk _ _ _ _ _ e
    rcases h1 with h1 | h1 <;> rcases h2 with h2 | h2
    · have l1 : Heap.IsList (Shared.heap ⟨hp, g, d, tk, os⟩) l xs := h1;have l2 : Heap.IsList (Shared.heap ⟨hp.push { cls := .type "list_iterator", data := .fields #[.ref l, .int 0 0] }, g, d, tk, os⟩) m ys := Heap.IsList.push h2 _
      wp_walk using wpAny_pyIter_list l1, wpAny_pyIter_list l2
      exact ⟨_, rfl, fin _ _ (.inl ⟨⟨_, Heap.get?_push_size _ rfl, rfl, rfl⟩, Heap.IsList.push h1 _⟩) (.inl ⟨⟨_, Heap.get?_push_size _ rfl, rfl, rfl⟩, Heap.IsList.push l2 _⟩)⟩
    · have l1 : Heap.IsList (Shared.heap ⟨hp, g, d, tk, os⟩) l xs := h1;have l2 : Heap.IsTuple (Shared.heap ⟨hp.push { cls := .type "list_iterator", data := .fields #[.ref l, .int 0 0] }, g, d, tk, os⟩) m ys := Heap.IsTuple.push h2 _
      wp_walk using wpAny_pyIter_list l1, wpAny_pyIter_tuple l2
      exact ⟨_, rfl, fin _ _ (.inl ⟨⟨_, Heap.get?_push_size _ rfl, rfl, rfl⟩, Heap.IsList.push h1 _⟩) (.inr ⟨⟨_, Heap.get?_push_size _ rfl, rfl, rfl⟩, Heap.IsTuple.push l2 _⟩)⟩
    · have l1 : Heap.IsTuple (Shared.heap ⟨hp, g, d, tk, os⟩) l xs := h1;have l2 : Heap.IsList (Shared.heap ⟨hp.push { cls := .type "tuple_iterator", data := .fields #[.ref l, .int 0 0] }, g, d, tk, os⟩) m ys := Heap.IsList.push h2 _
      wp_walk using wpAny_pyIter_tuple l1, wpAny_pyIter_list l2
      exact ⟨_, rfl, fin _ _ (.inr ⟨⟨_, Heap.get?_push_size _ rfl, rfl, rfl⟩, Heap.IsTuple.push h1 _⟩) (.inl ⟨⟨_, Heap.get?_push_size _ rfl, rfl, rfl⟩, Heap.IsList.push l2 _⟩)⟩
    · have l1 : Heap.IsTuple (Shared.heap ⟨hp, g, d, tk, os⟩) l xs := h1;have l2 : Heap.IsTuple (Shared.heap ⟨hp.push { cls := .type "tuple_iterator", data := .fields #[.ref l, .int 0 0] }, g, d, tk, os⟩) m ys := Heap.IsTuple.push h2 _
      wp_walk using wpAny_pyIter_tuple l1, wpAny_pyIter_tuple l2
      exact ⟨_, rfl, fin _ _ (.inr ⟨⟨_, Heap.get?_push_size _ rfl, rfl, rfl⟩, Heap.IsTuple.push h1 _⟩) (.inr ⟨⟨_, Heap.get?_push_size _ rfl, rfl, rfl⟩, Heap.IsTuple.push l2 _⟩)⟩
theorem yB {Q : Value -> Shared -> Prop} {l m : Addr} (h1 : tz s.heap l xs) (h2 : tz s.heap m ys)
    (h : ∀ h', h'.objs.size = s.heap.objs.size + 5 -> zC h' (s.heap.objs.size + 4) (s.heap.objs.size + 2) (s.heap.objs.size + 3) s.heap.objs.size (s.heap.objs.size + 1) l m .none 0 xs ys -> (∀ c o, s.heap.get? c = some o -> h'.get? c = some o) ->
      Q (.ref (s.heap.objs.size + 4)) { s with heap := h' }) : wpAny (model prog w) A (call (.type "zip") [.ref l, .ref m]) Q E s := by
  refine callType_new F.called_zip (by decide) (F.typeCall_zip_2 _ _) (F.newCall_zip_2 _ _) (fun obj => F.args_object_init_3 obj _ _) F.entry_zip_new (Av l m xs ys) ⟨h1, h2, fun h' e S k => ?_⟩;exact ⟨⟨_, S.zz, rfl⟩, h h' e S k⟩
end
section
variable {X : Cx} {pins : List (Addr × Obj)} {σ : St} {H : Hp} {s : Shared} {h' : Heap}
theorem fM {t' : Nat} {fp : List Addr} (I : aM X pins σ H s) (k : ∀ b o, b ∉ fp -> s.heap.get? b = some o -> h'.get? b = some o) (hf : ∀ b ∈ fp, lV X pins H b) : aM X pins σ H { s with heap := h', toks := t' } := by
  have away : ∀ b u, H b = some u -> b ∉ fp := fun b u e z => by rw [(hf b z).1] at e; cases e
  have frame : X.env.locals ∉ fp := fun z => (hf _ z).2.1 rfl
  refine I.step (g' := s.gens) (d' := s.drawn) (ch := fp) (fun b hb => ⟨(hf b hb).2.2.2.1, (hf b hb).2.1, (hf b hb).2.2.2.2.1, (hf b hb).2.2.2.2.2⟩) (fun b o _ _ hc e _ => k b o hc e) (fun b o _ _ hc e _ => ⟨o.slots, k b o hc e⟩) (fun _ _ _ _ n => n)
    (fun b o hc e => ⟨o, k b o hc e⟩) (fun _ _ e => e) (fun _ _ _ e => e) (fun b ps e => ⟨#[], by rw [e]; simp⟩) (fun m ⟨o, es, ep, ho, r⟩ => ⟨o, es, ep, k _ o frame ho, r⟩) (fun b u e => ?_) I.bare
  refine (I.hok b u e).stay (fun c v hc q => k c v ?_ q) (fun _ q => q) fun _ _ q => q
  rcases hc with z | z
  · rw [z]; exact away b u e
  · exact away c _ z
theorem rX {h : Heap} {o o' : Obj} {b : Addr} (hb : b ≠ h.objs.size) (e : (h.push o).get? b = some o') : h.get? b = some o' := by
  unfold Heap.get? Heap.push at e;unfold Heap.get?;simp only [Array.getElem?_push] at e;rw [if_neg hb] at e;exact e
theorem vh {t' : Nat} {fp : List Addr} {u1 u2 : Value} {v1 v2 : V} (I : aM X pins σ H s) (hf : ∀ b ∈ fp, lV X pins H b) (hob : ∀ b ∈ fp, b < s.heap.objs.size) (ht : IsPair h' s.heap.objs.size u1 u2) (k : ∀ b o, b ∉ fp -> s.heap.get? b = some o -> h'.get? b = some o)
    (r1 : bA v1 u1) (r2 : bA v2 u2) : aM X pins σ (cm H s.heap.objs.size (.tup [v1, v2])) { s with heap := h', toks := t' } := by
  have I1 : aM X pins σ (cm H s.heap.objs.size (.tup [v1, v2])) { s with heap := s.heap.push { cls := .type "tuple", data := .seq #[u1, u2] }, toks := s.toks } :=
    I.laid (fun b u e => Heap.get?_push_of_some _ e) (Nat.le_refl _) ⟨by show 2 <= sizeLine; decide, [u1, u2], .cons r1 (.cons r2 .nil), _, Heap.get?_push_size _ rfl, rfl, _, rfl⟩
  refine fM (fp := fp) (s := { s with heap := s.heap.push { cls := .type "tuple", data := .seq #[u1, u2] }, toks := s.toks }) I1 (fun b o hb e => ?_) fun b hb => ?_
  · by_cases hz : b = s.heap.objs.size
    · subst hz;have e' : (s.heap.push { cls := .type "tuple", data := .seq #[u1, u2] }).get? s.heap.objs.size = some o := e;rw [Heap.get?_push_size _ rfl] at e';cases e';exact ht
    · exact k b o hb (rX hz e)
  · obtain ⟨f0, f1, f2, f3, f4, f5⟩ := hf b hb;exact ⟨by rw [au (Nat.ne_of_lt (hob b hb))]; exact f0, f1, f2, f3, f4, f5⟩
end
def sR (K : PySem.W.Frag) (H : Hp) (a : Addr) (xs : List V) : Bool -> Prop
  | true => eE K H a xs
  | false => ni K H a xs
def gf (h : Heap) (i l : Addr) (k : Nat) : Bool -> Prop
  | true => h.IsTupleIter i l k
  | false => h.IsListIter i l k
theorem gf.keep {h h' : Heap} {i l : Addr} {k : Nat} {b : Bool} (x : gf h i l k b) (hi : ∀ o, h.get? i = some o -> h'.get? i = some o) : gf h' i l k b := by
  cases b
  · obtain ⟨o, e, r⟩ := x; exact ⟨o, hi _ e, r⟩
  · obtain ⟨o, e, r⟩ := x; exact ⟨o, hi _ e, r⟩
theorem gf.there {h : Heap} {i l : Addr} {k : Nat} {b : Bool} (x : gf h i l k b) : ∃ o, h.get? i = some o /\ ∀ v, o.data ≠ .cell v := by
  cases b
  · obtain ⟨o, e, c, d⟩ := x; exact ⟨o, e, fun v z => by rw [d] at z; cases z⟩
  · obtain ⟨o, e, c, d⟩ := x; exact ⟨o, e, fun v z => by rw [d] at z; cases z⟩
section
variable {X : Cx} {pins : List (Addr × Obj)} {σ : St} {H : Hp} {s : Shared}
theorem iO {a : Addr} {xs : List V} {b : Bool} (I : aM X pins σ H s) (h : sR X.K H a xs b) : ∃ its : List Value, br xs its /\ tz s.heap a its.toArray /\ ∀ (i : Addr) (k : Nat), gf s.heap i a k b -> gO s.heap i a k its.toArray := by
  cases b
  · obtain ⟨its, rv, p, _⟩ := I.list h;exact ⟨its, rv, .inl p.isList, fun i k z => .inl ⟨z, p.isList⟩⟩
  · obtain ⟨its, rv, p, _⟩ := I.tuple h;exact ⟨its, rv, .inr p, fun i k z => .inr ⟨z, p⟩⟩
theorem kB {a : Addr} {xs ys : List V} {b : Bool} (I : aM X pins σ H s) (h : sR X.K H a xs b) (h' : sR X.K H a ys b) : ys = xs := by
  cases b
  · exact I.list_inj h' h
  · exact I.tuple_inj h' h
theorem gO.toB {h : Heap} {i l : Addr} {k : Nat} {xs : Array Value} {b : Bool} (hl : ∀ ys, (b = true -> ¬ h.IsList l ys) /\ (b = false -> ¬ h.IsTuple l ys)) (x : gO h i l k xs) : gf h i l k b := by
  cases b
  · rcases x with ⟨z, w⟩ | ⟨z, w⟩
    · exact z
    · exact absurd w ((hl xs).2 rfl)
  · rcases x with ⟨z, w⟩ | ⟨z, w⟩
    · exact absurd w ((hl xs).1 rfl)
    · exact z
theorem cZ {h : Heap} {l : Addr} {xs ys : Array Value} (a : h.IsList l xs) (b : h.IsTuple l ys) : False := by
  obtain ⟨o, e, c, _⟩ := a;obtain ⟨o', e', c', _⟩ := b;rw [e] at e'; cases e';rw [c] at c';injection c' with z
  exact absurd z (by decide)
theorem oh {a : Addr} {xs : List V} {b : Bool} (I : aM X pins σ H s) (h : sR X.K H a xs b) {h' : Heap} (kp : ∀ c o, s.heap.get? c = some o -> h'.get? c = some o) : ∀ ys, (b = true -> ¬ h'.IsList a ys) /\ (b = false -> ¬ h'.IsTuple a ys) := fun ys => by
  cases b
  · obtain ⟨its, rv, p, _⟩ := I.list h;refine ⟨fun z => (by cases z), fun _ w => ?_⟩;obtain ⟨o, e, r⟩ := p.isList;exact cZ (h := h') (xs := its.toArray) ⟨o, kp _ _ e, r⟩ w
  · obtain ⟨its, rv, p, _⟩ := I.tuple h;refine ⟨fun _ w => ?_, fun z => by cases z⟩;obtain ⟨o, e, r⟩ := p;exact cZ (h := h') w ⟨o, kp _ _ e, r⟩
end
def E9 (K : PySem.W.Frag) (l m : Addr) (b c : Bool) : It :=
  ⟨fun i H => ∃ xs ys x y, sR K H l xs b /\ sR K H m ys c /\ xs[i]? = some x /\ ys[i]? = some y,
   fun i H v H' => ∃ a x y, H a = none /\ v = .ref a /\ H' = cm H a (.tup [x, y]) /\ (∀ xs, sR K H l xs b -> xs[i]? = some x) /\ ∀ ys, sR K H m ys c -> ys[i]? = some y,
   fun i H => ∃ xs ys, sR K H l xs b /\ sR K H m ys c /\ (xs.length <= i \/ ys.length <= i)⟩
structure Fz (z p q i j l m : Addr) (b c : Bool) (k : Nat) (h : Heap) : Prop where
  zz : IsZip h z p q .none
  pp : IsPair h p (.ref i) (.ref j)
  qq : ∃ a b, IsPair h q a b
  ii : gf h i l k b
  jj : gf h j m k c
theorem xT {P : Program} {w : World} {K : PySem.W.Frag} {elts : List Expr} {x1} {pos : Pos} {z p q i j l m : Addr} {b c : Bool} (D : ZA z p q i j l m) : rP P w K (.Tuple elts x1 pos) (E9 K l m b c) [z, p, q, i, j] z (Fz z p q i j l m b c) where
  mem := by simp
  obj := fun k h st a ha => by
    simp only [List.mem_cons, List.not_mem_nil, or_false] at ha;rcases ha with rfl | rfl | rfl | rfl | rfl
    · exact ⟨_, st.zz, fun v e => by cases e⟩
    · exact ⟨_, st.pp, fun v e => by cases e⟩
    · obtain ⟨_, _, e⟩ := st.qq; exact ⟨_, e, fun v e => by cases e⟩
    · exact st.ii.there
    · exact st.jj.there
  keep := fun k h h' st kp => ⟨kp z (by simp) _ st.zz, kp p (by simp) _ st.pp, let ⟨a, b, e⟩ := st.qq; ⟨a, b, kp q (by simp) _ e⟩, st.ii.keep fun o e => kp i (by simp) o e, st.jj.keep fun o e => kp j (by simp) o e⟩
  item := by
    intro X hP hw hK hc k pins s σ H E I hf st hg;subst hP hw hK;obtain ⟨xs, ys, x, y, h1, h2, hx, hy⟩ := hg;obtain ⟨its, rv, _, p1⟩ := iO I h1;obtain ⟨jts, rw', _, p2⟩ := iO I h2;obtain ⟨u, hu, ru⟩ := rv.get hx;obtain ⟨v, hv, ry⟩ := rw'.get hy;have S : zC s.heap z p q i j l m .none k its.toArray jts.toArray := ⟨st.zz, st.pp, st.qq, p1 _ _ st.ii, p2 _ _ st.jj⟩
    refine tL D S (x := u) (y := v) (by simpa using hu) (by simpa using hv) fun h' S' hp kp => ⟨_, rfl, ?_⟩
    have zlt : z < s.heap.objs.size := Heap.lt_size st.zz;refine wpAny_letOwnedTupleGo_zip (s := { s with heap := h' }) S'.zz fun h2' hz2 sb => ?_
    have up : ∀ a o, a ≠ z -> h'.get? a = some o -> h2'.get? a = some o := fun a o ha e => sb.extBut a o ha e
    have hob : ∀ a ∈ [z, p, q, i, j], a < s.heap.objs.size := fun a ha => by
      simp only [List.mem_cons, List.not_mem_nil, or_false] at ha;rcases ha with rfl | rfl | rfl | rfl | rfl
      · exact Heap.lt_size st.zz
      · exact Heap.lt_size st.pp
      · obtain ⟨_, _, e⟩ := st.qq; exact Heap.lt_size e
      · obtain ⟨o, e, _⟩ := st.ii.there; exact Heap.lt_size e
      · obtain ⟨o, e, _⟩ := st.jj.there; exact Heap.lt_size e
    have hn : H s.heap.objs.size = none := I.hok.fresh (Nat.le_refl _);refine ⟨.ref s.heap.objs.size, _, vh (s := s) (t' := s.toks) (fp := [z, p, q, i, j]) (h' := h2') (u1 := u) (u2 := v) (v1 := x) (v2 := y) I hf hob (up _ _ (Nat.ne_of_gt zlt) hp) (fun a o ha e => ?_) ru ry, rfl, ⟨_, x, y, hn, rfl, rfl, fun zs hz => by rw [kB I h1 hz]; exact hx, fun zs hz => by rw [kB I h2 hz]; exact hy⟩, ?_, fun a ha => ?_⟩
    · simp only [List.mem_cons, List.not_mem_nil, or_false, not_or] at ha;exact up a o ha.1 (kp a o ha.1 ha.2.2.1 ha.2.2.2.1 ha.2.2.2.2 e)
    · have i2 : gf h' i l (k + 1) b := by
        refine S'.ii.toB fun ys => ?_
        cases hb : b
        · subst hb;refine ⟨fun z => (by cases z), fun _ w => ?_⟩;obtain ⟨_, _, pl, _⟩ := I.list h1;obtain ⟨o, e, r⟩ := pl.isList;exact cZ (h := h') (xs := _) ⟨o, kp _ _ D.lz D.lq D.li D.lj e, r⟩ w
        · subst hb;refine ⟨fun _ w => ?_, fun z => by cases z⟩;obtain ⟨_, _, pl, _⟩ := I.tuple h1;obtain ⟨o, e, r⟩ := pl;exact cZ (h := h') w ⟨o, kp _ _ D.lz D.lq D.li D.lj e, r⟩
      have j2 : gf h' j m (k + 1) c := by
        refine S'.jj.toB fun ys => ?_
        cases hb : c
        · subst hb;refine ⟨fun z => (by cases z), fun _ w => ?_⟩;obtain ⟨_, _, pl, _⟩ := I.list h2;obtain ⟨o, e, r⟩ := pl.isList;exact cZ (h := h') (xs := _) ⟨o, kp _ _ D.mz D.mq D.mi D.mj e, r⟩ w
        · subst hb;refine ⟨fun _ w => ?_, fun z => by cases z⟩;obtain ⟨_, _, pl, _⟩ := I.tuple h2;obtain ⟨o, e, r⟩ := pl;exact cZ (h := h') w ⟨o, kp _ _ D.mz D.mq D.mi D.mj e, r⟩
      exact ⟨hz2, up _ _ D.pz S'.pp, let ⟨a, b, e⟩ := S'.qq; ⟨a, b, up _ _ D.qz e⟩, i2.keep fun o e => up _ _ D.iz e, j2.keep fun o e => up _ _ D.jz e⟩
    · rw [au (Nat.ne_of_lt (hob a ha))]; exact (hf a ha).1
  done := by
    intro X hP hw hK hc k pins s σ H E I hf st hg;subst hP hw hK;obtain ⟨xs, ys, h1, h2, hl⟩ := hg;obtain ⟨its, rv, _, p1⟩ := iO I h1;obtain ⟨jts, rw', _, p2⟩ := iO I h2;have S : zC s.heap z p q i j l m .none k its.toArray jts.toArray := ⟨st.zz, st.pp, st.qq, p1 _ _ st.ii, p2 _ _ st.jj⟩
    have e1 := rv.length;have e2 := rw'.length;refine xc (I.ok.hd hc) D S ?_ fun h' kp => ⟨rfl, fM (t' := s.toks) (fp := [z, p, q, i, j]) I (fun a o ha e => ?_) hf⟩
    · rcases hl with hl | hl
      · left; simp; omega
      · right; simp; omega
    · simp only [List.mem_cons, List.not_mem_nil, or_false, not_or] at ha;exact kp a o ha.1 ha.2.2.1 ha.2.2.2.1 ha.2.2.2.2 e
  self := fun _ _ _ _ _ st h => wpAny_pyIter_zip st.zz h
def zX (H : Hp) (a : Addr) (ds : List PyData) : Bool -> Prop
  | true => ∃ vs, H a = some (.tup vs) /\ bu H ds vs
  | false => ∃ o vs, H a = some (.frz o (.lst vs)) /\ bu H ds vs
theorem zX.sq {K : PySem.W.Frag} {H : Hp} {a : Addr} {ds : List PyData} {b : Bool} (h : zX H a ds b) : ∃ vs, sR K H a vs b /\ bu H ds vs := by
  cases b
  · obtain ⟨o, vs, e, r⟩ := h; exact ⟨vs, .inl (.inr ⟨o, e⟩), r⟩
  · obtain ⟨vs, e, r⟩ := h; exact ⟨vs, eE.of e, r⟩
theorem zX.kp {H H' : Hp} {a : Addr} {ds : List PyData} {b : Bool} (h : zX H a ds b) (k : Kp H H') : zX H' a ds b := by
  cases b
  · obtain ⟨o, vs, e, r⟩ := h; exact ⟨o, vs, k.2 _ _ _ e, bu.kp k _ _ r⟩
  · obtain ⟨vs, e, r⟩ := h; exact ⟨vs, k.1 _ _ e, bu.kp k _ _ r⟩
def Dy (p : PyData × PyData) : PyData := .tuple [p.1, p.2]
def gF (xs ys : List PyData) : List PyData := (xs.zip ys).map Dy
theorem yY {xs ys : List PyData} {i : Nat} {d : PyData} (h : (gF xs ys)[i]? = some d) : ∃ x y, xs[i]? = some x /\ ys[i]? = some y /\ d = .tuple [x, y] := by
  unfold gF at h;rw [List.getElem?_map] at h;cases e : (xs.zip ys)[i]? with
  | none => rw [e] at h; cases h
  | some p =>
    rw [e] at h;obtain ⟨h1, h2⟩ := List.getElem?_zip_eq_some.mp e;exact ⟨p.1, p.2, h1, h2, (Option.some.inj h).symm⟩
theorem jg (xs ys : List PyData) : (gF xs ys).length = min xs.length ys.length := by unfold gF; simp
theorem AU {K : PySem.W.Frag} {l m : Addr} {b c : Bool} {xs ys : List PyData} : zt (E9 K l m b c) (fun H => zX H l xs b /\ zX H m ys c) (gF xs ys) where
  go := fun i H ⟨h1, h2⟩ hi => by
    rw [jg] at hi;obtain ⟨vs, s1, r1⟩ := h1.sq (K := K);obtain ⟨us, s2, r2⟩ := h2.sq (K := K);obtain ⟨x, hx, _⟩ := r1.get (List.getElem?_eq_getElem (show i < xs.length by omega));obtain ⟨y, hy, _⟩ := r2.get (List.getElem?_eq_getElem (show i < ys.length by omega));exact ⟨vs, us, x, y, s1, s2, hx, hy⟩
  yld := fun i H v H' d ⟨h1, h2⟩ hd h => by
    obtain ⟨a, x, y, ha, rfl, rfl, k1, k2⟩ := h;obtain ⟨vs, s1, r1⟩ := h1.sq (K := K);obtain ⟨us, s2, r2⟩ := h2.sq (K := K);obtain ⟨dx, dy, e1, e2, rfl⟩ := yY hd;obtain ⟨x', hx, px⟩ := r1.get e1;obtain ⟨y', hy, py⟩ := r2.get e2;have q1 := k1 vs s1;have q2 := k2 us s2;rw [hx] at q1; rw [hy] at q2;cases q1; cases q2;exact ⟨cb ha _, df ha (bu.cons px (bu.cons py bu.nil))⟩
  stop := fun i H ⟨h1, h2⟩ hi => by
    rw [jg] at hi;obtain ⟨vs, s1, r1⟩ := h1.sq (K := K);obtain ⟨us, s2, r2⟩ := h2.sq (K := K);have l1 := r1.length;have l2 := r2.length;exact ⟨vs, us, s1, s2, by omega⟩
theorem Ci {n l m : Nat} (hl : l < n) (hm : m < n) : ZA (n + 4) (n + 2) (n + 3) n (n + 1) l m := by
  refine ⟨?_, ?_, ?_, ?_, ?_, ?_, ?_, ?_, ?_, ?_, ?_, ?_, ?_, ?_, ?_, ?_, ?_, ?_⟩ <;> (intro z; have z' : (_ : Nat) = _ := z; omega)
section
variable {X : Cx} {elts : List Expr} {x1 : Nat} {tp : Pos} {a b : Expr} {fa fb : Fe} {pos p : Pos} {nl : Nat} {G : List Str} {fs : aN -> R (List PyData)}
def FB (K : PySem.W.Frag) (ta : TA) : TI := fun σ H R => ta σ H fun vs H1 => ∃ l m xs ys b c, vs = [.ref l, .ref m] /\ sR K H1 l xs b /\ sR K H1 m ys c /\ R (E9 K l m b c) H1
theorem BI {ta : TA} (hg : Gl X "zip") (hm : X.mg "zip" = none) (ha : PA X [a, b] ta) (hs : starEach [a, b] X.env = [(false, eval a X.env), (false, eval b X.env)]) (hs2 : starEach [b] X.env = [(false, eval b X.env)]) :
    PI X (.Tuple elts x1 tp) (.Call (.Name "zip" p) [a, b] [] pos) (FB X.K ta) := by
  intro pins s σ H R I h;refine Call_ (iL I hg hm boot_zip (PyProof.Rows.callWith_type1 (cQ (ha pos pins s σ H _ I h) fun us s1 ⟨vs, H1, I1, r1, q1⟩ => ?_) (by rw [hs, hs2]) (by rw [hs2]; rfl)));obtain ⟨l, m, xs, ys, b, c, e, h1, h2, q⟩ := q1;subst e;obtain ⟨u, v, rfl, ru, rv⟩ := vN r1;cases ru;cases rv;obtain ⟨its, w1, p1, g1⟩ := iO I1 h1;obtain ⟨jts, w2, p2, g2⟩ := iO I1 h2;have ll : l < s1.heap.objs.size := by rcases p1 with ⟨o, e, _⟩ | ⟨o, e, _⟩ <;> exact Heap.lt_size e
  have lm : m < s1.heap.objs.size := by rcases p2 with ⟨o, e, _⟩ | ⟨o, e, _⟩ <;> exact Heap.lt_size e
  refine yB p1 p2 fun h' hz S kp => wpAny_pyIter_zip S.zz ?_
  have D := Ci ll lm;have I2 : aM X pins σ H1 { s1 with heap := h' } := I1.kept (t' := s1.toks) kp;have i2 : gf h' s1.heap.objs.size l 0 b := S.ii.toB (oh I1 h1 kp);have j2 : gf h' (s1.heap.objs.size + 1) m 0 c := S.jj.toB (oh I1 h2 kp);refine ⟨_, [s1.heap.objs.size + 4, s1.heap.objs.size + 2, s1.heap.objs.size + 3, s1.heap.objs.size, s1.heap.objs.size + 1], _, _, H1, rfl, I2, xT (b := b) (c := c) D, ⟨S.zz, S.pp, S.qq, i2, j2⟩, fun a ha => ?_, q⟩;have hle : s1.heap.objs.size <= a := by
    simp only [List.mem_cons, List.not_mem_nil, or_false] at ha;rcases ha with rfl | rfl | rfl | rfl | rfl
    · exact Nat.le_add_right _ 4
    · exact Nat.le_add_right _ 2
    · exact Nat.le_add_right _ 3
    · exact Nat.le_refl _
    · exact Nat.le_add_right _ 1
  exact I1.fpOk hle (I1.hok.fresh hle)
def uJ (fa fb : Fe) : aN -> R (List PyData) := fun ρ => fa ρ >>= fun x => fb ρ >>= fun y => iT x >>= fun xs => iT y >>= fun ys => .ok (gF xs ys)
theorem ul {H : Hp} {d : PyData} {v : V} {ds : List PyData} (h : Rp H d v) (e : iT d = .ok ds) : ∃ a b, v = .ref a /\ zX H a ds b := by
  cases d with
  | list xs =>
    cases e;simp only [Rp] at h;obtain ⟨a, o, vs, rfl, h, r⟩ := h;exact ⟨a, false, rfl, o, vs, h, r⟩
  | tuple xs =>
    cases e;simp only [Rp] at h;obtain ⟨a, vs, rfl, h, r⟩ := h;exact ⟨a, true, rfl, vs, h, r⟩
  | _ => cases e
theorem oV (T : Tb X nl G) (j : Nat) (hG : G[j]? = some ("zip" : Str)) (hm : X.mg "zip" = none) (ha : ai X a fa) (hb : ai X b fb) (h1 : av a = true := by rfl) (h2 : av b = true := by rfl) :
    pc X (.Tuple elts x1 tp) (.Call (.Name "zip" p) [a, b] [] pos) (uJ fa fb) := by
  have g := T.gl _ (List.mem_of_getElem? hG);refine PI.imp (BI g.1 hm (ag ha (ag hb ay h2) h1) (by rw [bh h1, bh h2]; rfl) (by rw [bh h2]; rfl)) fun σ H Rk h => ?_
  obtain ⟨ρ, sl, q⟩ := h;unfold uJ at q;refine ⟨ρ, sl, ?_⟩;unfold af aI;cases e1 : fa ρ with
  | ex c => rw [e1] at q; exact q
  | no => rw [e1] at q; exact q
  | ok x =>
    rw [e1] at q;simp only [R.ok_bind] at q ⊢;cases e2 : fb ρ with
    | ex c => rw [e2] at q; exact q
    | no => rw [e2] at q; exact q
    | ok y =>
      rw [e2] at q;simp only [R.ok_bind] at q ⊢;cases e3 : iT x with
      | ex c => exact absurd e3 (by cases x <;> simp [iT])
      | no => rw [e3] at q; exact q.elim
      | ok xs =>
        rw [e3] at q;simp only [R.ok_bind] at q;cases e4 : iT y with
        | ex c => exact absurd e4 (by cases y <;> simp [iT])
        | no => rw [e4] at q; exact q.elim
        | ok ys =>
          rw [e4] at q;simp only [R.ok_bind] at q;intro vs H1 s1 ra;simp only [RA] at ra;obtain ⟨v, r', rfl, p1, v', r'', rfl, p2, rfl⟩ := ra;obtain ⟨l, b1, rfl, d1⟩ := ul p1 e3;obtain ⟨m, b2, rfl, d2⟩ := ul p2 e4;obtain ⟨us, u1, _⟩ := d1.sq (K := X.K);obtain ⟨ws, u2, _⟩ := d2.sq (K := X.K);exact ⟨l, m, us, ws, b1, b2, rfl, u1, u2, q _ H1 s1 ⟨_, AU, fun H2 k _ => ⟨d1.kp k, d2.kp k⟩⟩⟩
theorem Z.oV (T : Tb X nl G) (j : Nat) (hG : G[j]? = some ("zip" : Str)) (hm : X.mg "zip" = none) (ha : Z.ai X a fa) (hb : Z.ai X b fb) (h1 : av a = true := by rfl) (h2 : av b = true := by rfl) : Z.pc X (.Tuple elts x1 tp) (.Call (.Name "zip" p) [a, b] [] pos) (uJ fa fb) :=
  ⟨D2.oV T j hG hm ha.un hb.un h1 h2⟩
end
def cM (i j : Nat) : PyData -> aN -> Option aN
  | .tuple [x, y], ρ => some ((ρ.set i (.val x)).set j (.val y))
  | _, _ => none
section
variable {X : Cx} {nl : Nat} {G : List Str} {x y : Str} {k : Nat} {p1 p2 pos : Pos}
theorem eG (T : Tb X nl G) (i j : Nat) (hi : (X.N.take nl)[i]? = some x) (hj : (X.N.take nl)[j]? = some y) : pf X (.Tuple [.Name x p1, .Name y p2] k pos) (cM i j) := by
  obtain ⟨i1, i2, i3⟩ := T.nm hi;obtain ⟨j1, j2, j3⟩ := T.nm hj;refine PG.imp (xp T.calm (jm (j6 T.nd i1 i2 i3) (jm (j6 T.nd j1 j2 j3) vM))) fun v σ H Q ⟨ρ, d, sl, p, q⟩ => ?_
  unfold cM at q;split at q
  · rename_i e;split at e
    · rename_i ρ0 dx dy;cases e;simp only [Rp] at p;obtain ⟨a, vs, rfl, ha, r⟩ := p;obtain ⟨u, r1, rfl, pu, r⟩ := r.cons_inv;obtain ⟨w, r2, rfl, pw, r⟩ := r.cons_inv;rw [r.nil_inv] at ha;refine ⟨a, [u, w], rfl, eE.of ha, rfl, u, [w], rfl, w, [], rfl, rfl, ?_⟩;refine q _ (Sl.set (c := .val dy) (o := some w) (Sl.set (c := .val dx) (o := some u) sl i ⟨u, rfl, pu⟩) j ⟨w, rfl, pw⟩) fun n e h => ?_
      obtain ⟨n1, h⟩ := bV (fun e z => by cases z) h;obtain ⟨n2, h⟩ := bV (fun e z => by cases z) h;exact ⟨h, by rw [List.getElem?_set, if_neg n1, List.getElem?_set, if_neg n2]⟩
    · cases e
  · exact q.elim
theorem Z.eG (T : Tb X nl G) (i j : Nat) (hi : (X.N.take nl)[i]? = some x) (hj : (X.N.take nl)[j]? = some y) : Z.pf X (.Tuple [.Name x p1, .Name y p2] k pos) (cM i j) :=
  ⟨D2.eG T i j hi hj⟩
end
theorem fq {own : Nat} {fr : List Nat} {i j : Nat} (hi : i < own) (hj : j < own) : ∀ ρ d ρ1, cM i j d (aB own fr ρ) = some ρ1 -> mX (aB own fr ρ) ρ1 := fun ρ d ρ1 e => by
  unfold cM at e;split at e
  · rename_i x y _;cases e;refine ⟨by rw [List.length_set, List.length_set], fun n c hn => ?_⟩;have at_own : n < own -> c = .non := fun h => by
      unfold aB at hn;rw [List.getElem?_append_left (by simpa using h), List.getElem?_replicate, if_pos h] at hn;exact (Option.some.inj hn).symm
    by_cases h1 : j = n
    · exact .inl (at_own (by omega))
    · by_cases h2 : i = n
      · exact .inl (at_own (by omega))
      · exact .inr (by rw [List.getElem?_set, if_neg h1, List.getElem?_set, if_neg h2]; exact hn)
  · cases e
open AutoSeq1 (wpAny_loadPart')
abbrev kb (h : Heap) (e i : Addr) (k : Int) (f0 old : Value) : Prop := h.get? e = some { cls := .type "enumerate", dict := none, data := .fields #[f0, .bool false, .ref i, rawInt k, .none, old], slots := #[] }
section
variable {prog : Program} {w : World} {A : Around} {E : Value -> Shared -> Prop} {s : Shared} {e i l : Addr} {k : Nat} {xs : Array Value}
theorem w6 {x old : Value} {Q : Value -> Shared -> Prop} (he : kb s.heap e i k .none old) (it : gO s.heap i l k xs) (hli : l ≠ i) (hle : l ≠ e) (hei : e ≠ i) (hx : xs[k]? = some x)
    (hQ : ∀ h' old', kb h' e i ((k : Int) + 1) (rawInt s.heap.objs.size) old' -> gO h' i l (k + 1) xs -> IsPair h' s.heap.objs.size (.int k s.toks) x -> (∀ c o, c ≠ e -> c ≠ i -> s.heap.get? c = some o -> h'.get? c = some o) -> Q (.ref s.heap.objs.size) { s with heap := h', toks := s.toks + 1 }) :
    wpAny (model prog w) A (Builtin.«enumerate.__next__» ⟨[.ref e], []⟩) (fun fin s' => ∃ v, fin = .done (.ret v) /\ Q v s') E s := by
  obtain ⟨hp, g, d, tk, os⟩ := s;show wpAny _ _ (field (Value.ref e) 2 >>= _) _ _ _;refine wpAny_bind (wpAny_field he rfl (x := Value.ref i) rfl ?_);refine wpAny_bind (lc it hli hx fun g1 i1 s1 => ?_);replace s1 : Heap.SameBut i hp g1 := s1;have e1 : kb g1 e i k .none old := (s1.2 e hei).trans he;show wpAny _ _ (field (Value.ref e) 3 >>= _) _ _ (Shared.mk g1 g d tk os);refine wpAny_bind (wpAny_field e1 rfl (x := rawInt (k : Int)) rfl ?_);show wpAny _ _ (field (Value.ref e) 4 >>= _) _ _ (Shared.mk g1 g d tk os);refine wpAny_bind (wpAny_field e1 rfl (x := Value.none) rfl ?_);show wpAny _ _ (mkInt (k : Int) >>= _) _ _ (Shared.mk g1 g d tk os);refine wpAny_bind (wpAny_mkInt ?_);show wpAny _ _ (setField (Value.ref e) 3 (rawInt ((k : Int) + 1)) >>= _) _ _ (Shared.mk g1 g d (tk + 1) os);refine wpAny_bind (wpAny_setField_rec e1 (by simp) fun g2 e2 s2 => ?_);replace s2 : Heap.SameBut e g1 g2 := s2;replace e2 : kb g2 e i ((k : Int) + 1) .none old := e2;show wpAny _ _ (setField (Value.ref e) 4 Value.none >>= _) _ _ (Shared.mk g2 g d (tk + 1) os);refine wpAny_bind (wpAny_setField_rec e2 (by simp) fun g3 e3 s3 => ?_);replace s3 : Heap.SameBut e g2 g3 := s3;replace e3 : kb g3 e i ((k : Int) + 1) .none old := e3;show wpAny _ _ (newTuple [Value.int k tk, x] >>= _) _ _ (Shared.mk g3 g d (tk + 1) os);refine wpAny_bind (wpAny_newTuple ?_);have hsz : g3.objs.size = hp.objs.size := by rw [s3.1, s2.1, s1.1]
  have elt : e < g3.objs.size := Heap.lt_size e3;have e4 : kb (g3.push { cls := .type "tuple", data := .seq #[.int k tk, x] }) e i ((k : Int) + 1) .none old := Heap.get?_push_of_some _ e3;have t4 : IsPair (g3.push { cls := .type "tuple", data := .seq #[.int k tk, x] }) g3.objs.size (.int k tk) x := Heap.get?_push_size _ rfl;have i3 : gO g3 i l (k + 1) xs := i1.keep (fun o q => s3.extBut _ _ hei.symm (s2.extBut _ _ hei.symm q)) fun o q => s3.extBut _ _ hle (s2.extBut _ _ hle q)
  have k3 : ∀ c o, c ≠ e -> c ≠ i -> hp.get? c = some o -> g3.get? c = some o := fun c o c1 c2 q => s3.extBut _ _ c1 (s2.extBut _ _ c1 (s1.extBut _ _ c2 q))
  show wpAny _ _ (Builtin.SmallTypes.ownedTupleIsFree (Value.ref e) >>= _) _ _ (Shared.mk (g3.push { cls := .type "tuple", data := .seq #[.int k tk, x] }) g d (tk + 1) os);refine wpAny_bind ?_;unfold Builtin.SmallTypes.ownedTupleIsFree;refine wpAny_bind (wpAny_field e4 rfl (x := Value.none) rfl (wpAny_pure ?_));simp only [if_true];refine wpAny_bind (wpAny_rule ?_);refine wpAny_bind (wpAny_field e4 rfl (x := old) rfl ?_);refine wpAny_bind (wpAny_setField_rec e4 (by simp) fun g5 e5 s5 => ?_);replace s5 : Heap.SameBut e (g3.push { cls := .type "tuple", data := .seq #[.int k tk, x] }) g5 := s5;replace e5 : kb g5 e i ((k : Int) + 1) .none x := e5;show wpAny _ _ (Builtin.SmallTypes.ownedTupleHandOut (Value.ref e) (Value.ref g3.objs.size) >>= _) _ _ (Shared.mk g5 g d (tk + 1) os);refine wpAny_bind ?_;unfold Builtin.SmallTypes.ownedTupleHandOut;refine wpAny_bind (wpAny_setField_rec e5 (by simp) fun g6 e6 s6 => ?_);replace s6 : Heap.SameBut e g5 g6 := s6;replace e6 : kb g6 e i ((k : Int) + 1) (rawInt g3.objs.size) x := e6;refine wpAny_setField_rec e6 (by simp) fun g7 e7 s7 => ?_
  replace s7 : Heap.SameBut e g6 g7 := s7;replace e7 : kb g7 e i ((k : Int) + 1) (rawInt g3.objs.size) x := e7;have up : ∀ c o, c ≠ e -> g3.get? c = some o -> g7.get? c = some o := fun c o c1 q => s7.extBut _ _ c1 (s6.extBut _ _ c1 (s5.extBut _ _ c1 (Heap.get?_push_of_some _ q)))
  have t7 : IsPair g7 g3.objs.size (.int k tk) x := s7.extBut _ _ (Nat.ne_of_gt elt) (s6.extBut _ _ (Nat.ne_of_gt elt) (s5.extBut _ _ (Nat.ne_of_gt elt) t4));rw [hsz] at e7 t7;refine wpAny_bind (wpAny_letGo (wpAny_pure ⟨_, rfl, ?_⟩));show Q (.ref g3.objs.size) _;rw [hsz];exact hQ g7 x e7 (i3.keep (fun o q => up _ _ hei.symm q) fun o q => up _ _ hle q) t7 fun c o c1 c2 q => up c o c1 (k3 c o c1 c2 q)
theorem wt {x old : Value} {Q : Option Value -> Shared -> Prop} (he : kb s.heap e i k .none old) (it : gO s.heap i l k xs) (hli : l ≠ i) (hle : l ≠ e) (hei : e ≠ i) (hx : xs[k]? = some x)
    (hQ : ∀ h' old', kb h' e i ((k : Int) + 1) (rawInt s.heap.objs.size) old' -> gO h' i l (k + 1) xs -> IsPair h' s.heap.objs.size (.int k s.toks) x -> (∀ c o, c ≠ e -> c ≠ i -> s.heap.get? c = some o -> h'.get? c = some o) -> Q (some (.ref s.heap.objs.size)) { s with heap := h', toks := s.toks + 1 }) :
    wpAny (model prog w) A (pyNext (.ref e)) Q E s := by
  have hT : s.TypeIs (.ref e) "enumerate" := ⟨_, he, rfl⟩
  unfold pyNext;exact wpAny_bind (wpAny_attempt (wpAny_callSpecial?_slot (name := Str.ofString "__next__") hT F.slot_enumerate_next (wpAny_call_entry F.slot_enumerate_next hT F.entry_enumerate_next (w6 he it hli hle hei hx fun h' o a b c d => wpAny_pure (hQ h' o a b c d)) (F.args_enumerate_next_1 _))))
theorem xY {old : Value} {Q : Option Value -> Shared -> Prop} (hh : A.handled = none) (he : kb s.heap e i k .none old) (it : gO s.heap i l k xs) (hx : xs[k]? = none) (hQ : ∀ h', (∀ c o, c ≠ i -> s.heap.get? c = some o -> h'.get? c = some o) -> Q none { s with heap := h' }) :
    wpAny (model prog w) A (pyNext (.ref e)) Q E s := by
  have hT : s.TypeIs (.ref e) "enumerate" := ⟨_, he, rfl⟩
  unfold pyNext;refine wpAny_bind (wpAny_attempt (wpAny_callSpecial?_slot (name := Str.ofString "__next__") hT F.slot_enumerate_next (wpAny_call_entry F.slot_enumerate_next hT F.entry_enumerate_next ?_ (F.args_enumerate_next_1 _))));show wpAny _ _ (field (Value.ref e) 2 >>= _) _ _ _;refine wpAny_bind (wpAny_field he rfl (x := Value.ref i) rfl ?_);refine wpAny_bind (gr hh it hx fun h' x k1 ⟨o, ho, hc⟩ => ?_);exact wpAny_bind (wpAny_isInstance (T := "StopIteration") (b := true) ⟨o, ho, hc⟩ isSubtype_stop (wpAny_pure (hQ _ fun c o c1 q => k1 c o c1 q)))
theorem yE (l : Addr) (xs : Array Value) : Meets (Builtin.«enumerate.__new__» ⟨[.type "enumerate", .ref l], []⟩) (fun _ R s => tz s.heap l xs /\
    ∀ h', kb h' (s.heap.objs.size + 1) s.heap.objs.size 0 .none .none -> gO h' s.heap.objs.size l 0 xs -> (∀ c o, s.heap.get? c = some o -> h'.get? c = some o) -> R (.ok (.ret (.ref (s.heap.objs.size + 1)))) { s with heap := h' }) :=
  .of_wp fun prog w A R s h => by
    obtain ⟨hp, g, d, tk, os⟩ := s;obtain ⟨h1, h⟩ := h;have hsub := sub_enumerate;have fin : ∀ oi : Obj, gO (hp.push oi) hp.objs.size l 0 xs -> R (.ok (.ret (.ref (hp.push oi).objs.size))) ⟨(hp.push oi).push { cls := .type "enumerate", data := .fields #[.none, .bool false, .ref hp.objs.size, rawInt 0, .none, .none] }, g, d, tk, os⟩ := fun oi hi => by
      have e1 : (hp.push oi).objs.size = hp.objs.size + 1 := Heap.size_push ..;rw [e1];refine h _ ?_ (hi.keep (fun o q => Heap.get?_push_of_some _ q) fun o q => Heap.get?_push_of_some _ q) fun c o q => Heap.get?_push_of_some _ (Heap.get?_push_of_some _ q)
      show Heap.get? _ (hp.objs.size + 1) = _;rw [<- e1];exact Heap.get?_push_size _ rfl
    rcases h1 with h1 | h1
    · have l1 : Heap.IsList (Shared.heap ⟨hp, g, d, tk, os⟩) l xs := h1;obtain ⟨o, ho, _, _, _⟩ := id h1;have ho' : (Shared.heap ⟨hp, g, d, tk, os⟩).get? l = some o := ho
      wp_walk using wpAny_loadPart' ho'
      refine wpAny_stack_any fun st => wpAny_pure ?_
      split
      · rename_i c _ _ _ _ _;cases (c == Value.type "enumerate")
        · wp_walk using wpAny_loadPart' ho', wpAny_pyIter_list l1
          exact ⟨_, rfl, fin _ (.inl ⟨⟨_, Heap.get?_push_size _ rfl, rfl, rfl⟩, Heap.IsList.push h1 _⟩)⟩
        · wp_walk using wpAny_loadPart' ho', wpAny_pyIter_list l1
          exact ⟨_, rfl, fin _ (.inl ⟨⟨_, Heap.get?_push_size _ rfl, rfl, rfl⟩, Heap.IsList.push h1 _⟩)⟩
      · wp_walk using wpAny_loadPart' ho', wpAny_pyIter_list l1
        exact ⟨_, rfl, fin _ (.inl ⟨⟨_, Heap.get?_push_size _ rfl, rfl, rfl⟩, Heap.IsList.push h1 _⟩)⟩
    · have l1 : Heap.IsTuple (Shared.heap ⟨hp, g, d, tk, os⟩) l xs := h1;obtain ⟨o, ho, _, _, _⟩ := id h1;have ho' : (Shared.heap ⟨hp, g, d, tk, os⟩).get? l = some o := ho
      wp_walk using wpAny_loadPart' ho'
      refine wpAny_stack_any fun st => wpAny_pure ?_
      split
      · rename_i c _ _ _ _ _;cases (c == Value.type "enumerate")
        · wp_walk using wpAny_loadPart' ho', wpAny_pyIter_tuple l1
          exact ⟨_, rfl, fin _ (.inr ⟨⟨_, Heap.get?_push_size _ rfl, rfl, rfl⟩, Heap.IsTuple.push h1 _⟩)⟩
        · wp_walk using wpAny_loadPart' ho', wpAny_pyIter_tuple l1
          exact ⟨_, rfl, fin _ (.inr ⟨⟨_, Heap.get?_push_size _ rfl, rfl, rfl⟩, Heap.IsTuple.push h1 _⟩)⟩
      · wp_walk using wpAny_loadPart' ho', wpAny_pyIter_tuple l1
        exact ⟨_, rfl, fin _ (.inr ⟨⟨_, Heap.get?_push_size _ rfl, rfl, rfl⟩, Heap.IsTuple.push h1 _⟩)⟩
theorem wQ {Q : Value -> Shared -> Prop} {l : Addr} (h1 : tz s.heap l xs)
    (h : ∀ h', kb h' (s.heap.objs.size + 1) s.heap.objs.size 0 .none .none -> gO h' s.heap.objs.size l 0 xs -> (∀ c o, s.heap.get? c = some o -> h'.get? c = some o) -> Q (.ref (s.heap.objs.size + 1)) { s with heap := h' }) :
    wpAny (model prog w) A (call (.type "enumerate") [.ref l]) Q E s := by
  refine callType_new F.called_enumerate (by decide) (F.typeCall_enumerate_1 _) (F.newCall_enumerate_1 _) (fun obj => F.args_object_init_2 obj _) F.entry_enumerate_new (yE l xs) ⟨h1, fun h' e S k => ?_⟩;exact ⟨⟨_, e, rfl⟩, h h' e S k⟩
end
end D2
namespace D2
open PySem PySem.Spec PyProof.Rows L2
def E2 (K : PySem.W.Frag) (l : Addr) (b : Bool) : It :=
  ⟨fun i H => ∃ xs x, sR K H l xs b /\ xs[i]? = some x, fun i H v H' => ∃ a x, H a = none /\ v = .ref a /\ H' = cm H a (.tup [.int i, x]) /\ ∀ xs, sR K H l xs b -> xs[i]? = some x, fun i H => ∃ xs, sR K H l xs b /\ xs.length <= i⟩
structure FH (e i l : Addr) (b : Bool) (k : Nat) (h : Heap) : Prop where
  ee : ∃ old, kb h e i k .none old
  ii : gf h i l k b
theorem wz {P : Program} {w : World} {K : PySem.W.Frag} {elts : List Expr} {x1} {pos : Pos} {e i l : Addr} {b : Bool} (hei : e ≠ i) (hle : l ≠ e) (hli : l ≠ i) : rP P w K (.Tuple elts x1 pos) (E2 K l b) [e, i] e (FH e i l b) where
  mem := by simp
  obj := fun k h st a ha => by
    simp only [List.mem_cons, List.not_mem_nil, or_false] at ha;rcases ha with rfl | rfl
    · obtain ⟨_, q⟩ := st.ee; exact ⟨_, q, fun v e => by cases e⟩
    · exact st.ii.there
  keep := fun k h h' st kp => ⟨let ⟨o, q⟩ := st.ee; ⟨o, kp e (by simp) _ q⟩, st.ii.keep fun o q => kp i (by simp) o q⟩
  item := by
    intro X hP hw hK hc k pins s σ H E I hf st hg;subst hP hw hK;obtain ⟨xs, x, h1, hx⟩ := hg;obtain ⟨its, rv, _, p1⟩ := iO I h1;obtain ⟨u, hu, ru⟩ := rv.get hx;obtain ⟨old, he⟩ := st.ee;refine wt he (p1 _ _ st.ii) hli hle hei (x := u) (by simpa using hu) fun h' old' e' i' hp kp => ⟨_, rfl, ?_⟩
    have elt : e < s.heap.objs.size := Heap.lt_size he;have hob : ∀ a ∈ [e, i], a < s.heap.objs.size := fun a ha => by
      simp only [List.mem_cons, List.not_mem_nil, or_false] at ha;rcases ha with rfl | rfl
      · exact elt
      · obtain ⟨o, q, _⟩ := st.ii.there; exact Heap.lt_size q
    have hn : H s.heap.objs.size = none := I.hok.fresh (Nat.le_refl _);refine wpAny_letOwnedTupleGo_enum (s := { s with heap := h', toks := s.toks + 1 }) e' fun h2' e2 sb => ?_
    have up : ∀ a o, a ≠ e -> h'.get? a = some o -> h2'.get? a = some o := fun a o ha q => sb.extBut a o ha q
    refine ⟨.ref s.heap.objs.size, _, vh (s := s) (t' := s.toks + 1) (fp := [e, i]) (h' := h2') (u1 := .int k s.toks) (u2 := u) (v1 := .int k) (v2 := x) I hf hob (up _ _ (Nat.ne_of_gt elt) hp) (fun a o ha q => ?_) ⟨_, rfl⟩ ru, rfl, ⟨_, x, hn, rfl, rfl, fun zs hz => by rw [kB I h1 hz]; exact hx⟩, ?_, fun a ha => ?_⟩
    · simp only [List.mem_cons, List.not_mem_nil, or_false, not_or] at ha;exact up a o ha.1 (kp a o ha.1 ha.2 q)
    · have i2 : gf h' i l (k + 1) b := by
        refine i'.toB fun ys => ?_
        cases hb : b
        · subst hb;refine ⟨fun z => (by cases z), fun _ w => ?_⟩;obtain ⟨_, _, pl, _⟩ := I.list h1;obtain ⟨o, q, r⟩ := pl.isList;exact cZ (h := h') (xs := _) ⟨o, kp _ _ hle hli q, r⟩ w
        · subst hb;refine ⟨fun _ w => ?_, fun z => by cases z⟩;obtain ⟨_, _, pl, _⟩ := I.tuple h1;obtain ⟨o, q, r⟩ := pl;exact cZ (h := h') w ⟨o, kp _ _ hle hli q, r⟩
      exact ⟨⟨_, by have q : kb h2' e i ((k : Int) + 1) .none old' := e2; simpa using q⟩, i2.keep fun o q => up _ _ hei.symm q⟩
    · rw [au (Nat.ne_of_lt (hob a ha))]; exact (hf a ha).1
  done := by
    intro X hP hw hK hc k pins s σ H E I hf st hg;subst hP hw hK;obtain ⟨xs, h1, hl⟩ := hg;obtain ⟨its, rv, _, p1⟩ := iO I h1;obtain ⟨old, he⟩ := st.ee;have e1 := rv.length;refine xY (I.ok.hd hc) he (p1 _ _ st.ii) (by simp; omega) fun h' kp => ⟨rfl, fM (t' := s.toks) (fp := [e, i]) I (fun a o ha q => ?_) hf⟩
    simp only [List.mem_cons, List.not_mem_nil, or_false, not_or] at ha;exact kp a o ha.2 q
  self := fun _ _ _ _ _ st h => let ⟨_, q⟩ := st.ee; wpAny_pyIter_enum q h
def cG : Nat -> List PyData -> List PyData
  | _, [] => []
  | k, d :: ds => .tuple [.int k, d] :: cG (k + 1) ds
theorem fx : ∀ (k : Nat) (ds : List PyData), (cG k ds).length = ds.length
  | _, [] => rfl
  | k, d :: ds => by unfold cG; rw [List.length_cons, List.length_cons, fx]
theorem pG : ∀ {k : Nat} {ds : List PyData} {i : Nat} {d : PyData}, (cG k ds)[i]? = some d -> ∃ x, ds[i]? = some x /\ d = .tuple [.int ((k + i : Nat) : Int), x]
  | k, [], i, d, h => by unfold cG at h; simp at h
  | k, x :: ds, 0, d, h => by
    unfold cG at h;simp at h;exact ⟨x, rfl, by rw [<- h]; simp⟩
  | k, x :: ds, i + 1, d, h => by
    unfold cG at h;rw [List.getElem?_cons_succ] at h;obtain ⟨y, h1, h2⟩ := pG h;refine ⟨y, by simpa using h1, ?_⟩;rw [h2];have : k + 1 + i = k + (i + 1) := by omega
    rw [this]
theorem za {K : PySem.W.Frag} {l : Addr} {b : Bool} {xs : List PyData} : zt (E2 K l b) (fun H => zX H l xs b) (cG 0 xs) where
  go := fun i H h1 hi => by
    rw [fx] at hi;obtain ⟨vs, s1, r1⟩ := h1.sq (K := K);obtain ⟨x, hx, _⟩ := r1.get (List.getElem?_eq_getElem hi);exact ⟨vs, x, s1, hx⟩
  yld := fun i H v H' d h1 hd h => by
    obtain ⟨a, x, ha, rfl, rfl, k1⟩ := h;obtain ⟨vs, s1, r1⟩ := h1.sq (K := K);obtain ⟨dx, e1, rfl⟩ := pG hd;obtain ⟨x', hx, px⟩ := r1.get e1;have q1 := k1 vs s1;rw [hx] at q1;cases q1;refine ⟨cb ha _, df ha (bu.cons ?_ (bu.cons px bu.nil))⟩;rw [Nat.zero_add];exact cX
  stop := fun i H h1 hi => by
    rw [fx] at hi;obtain ⟨vs, s1, r1⟩ := h1.sq (K := K);have l1 := r1.length;exact ⟨vs, s1, by omega⟩
section
variable {X : Cx} {elts : List Expr} {x1 : Nat} {tp : Pos} {a b : Expr} {fa fb : Fe} {pos p : Pos} {nl : Nat} {G : List Str} {fs : aN -> R (List PyData)}
def FD (K : PySem.W.Frag) (ta : TA) : TI := fun σ H R => ta σ H fun vs H1 => ∃ l xs b, vs = [.ref l] /\ sR K H1 l xs b /\ R (E2 K l b) H1
theorem AJ {ta : TA} (hg : Gl X "enumerate") (hm : X.mg "enumerate" = none) (ha : PA X [a] ta) (hs : starEach [a] X.env = [(false, eval a X.env)]) : PI X (.Tuple elts x1 tp) (.Call (.Name "enumerate" p) [a] [] pos) (FD X.K ta) := by
  intro pins s σ H R I h;refine Call_ (iL I hg hm boot_enumerate (PyProof.Rows.callWith_type1 (cQ (ha pos pins s σ H _ I h) fun us s1 ⟨vs, H1, I1, r1, q1⟩ => ?_) hs rfl));obtain ⟨l, xs, b, e, h1, q⟩ := q1;subst e;obtain ⟨u, rfl, ru⟩ := gx r1;cases ru;obtain ⟨its, w1, p1, g1⟩ := iO I1 h1;have ll : l < s1.heap.objs.size := by rcases p1 with ⟨o, e, _⟩ | ⟨o, e, _⟩ <;> exact Heap.lt_size e
  refine wQ p1 fun h' hz S kp => wpAny_pyIter_enum hz ?_
  have I2 : aM X pins σ H1 { s1 with heap := h' } := I1.kept (t' := s1.toks) kp;have i2 : gf h' s1.heap.objs.size l 0 b := S.toB (oh I1 h1 kp);refine ⟨_, [s1.heap.objs.size + 1, s1.heap.objs.size], _, _, H1, rfl, I2, wz (b := b) (Nat.ne_of_gt (Nat.lt_succ_self _)) (Nat.ne_of_lt (Nat.lt_succ_of_lt ll)) (Nat.ne_of_lt ll), ⟨⟨_, hz⟩, i2⟩, fun a ha => ?_, q⟩;have hle : s1.heap.objs.size <= a := by
    simp only [List.mem_cons, List.not_mem_nil, or_false] at ha;rcases ha with rfl | rfl
    · exact Nat.le_add_right _ 1
    · exact Nat.le_refl _
  exact I1.fpOk hle (I1.hok.fresh hle)
def kT (fa : Fe) : aN -> R (List PyData) := fun ρ => fa ρ >>= fun x => iT x >>= fun xs => .ok (cG 0 xs)
theorem iK (T : Tb X nl G) (j : Nat) (hG : G[j]? = some ("enumerate" : Str)) (hm : X.mg "enumerate" = none) (ha : ai X a fa) (h1 : av a = true := by rfl) : pc X (.Tuple elts x1 tp) (.Call (.Name "enumerate" p) [a] [] pos) (kT fa) := by
  have g := T.gl _ (List.mem_of_getElem? hG);refine PI.imp (AJ g.1 hm (ag ha ay h1) (by rw [bh h1]; rfl)) fun σ H Rk h => ?_
  obtain ⟨ρ, sl, q⟩ := h;unfold kT at q;refine ⟨ρ, sl, ?_⟩;unfold af aI;cases e1 : fa ρ with
  | ex c => rw [e1] at q; exact q
  | no => rw [e1] at q; exact q
  | ok x =>
    rw [e1] at q;simp only [R.ok_bind] at q ⊢;cases e3 : iT x with
    | ex c => exact absurd e3 (by cases x <;> simp [iT])
    | no => rw [e3] at q; exact q.elim
    | ok xs =>
      rw [e3] at q;simp only [R.ok_bind] at q;intro vs H1 s1 ra;simp only [RA] at ra;obtain ⟨v, r', rfl, p1, rfl⟩ := ra;obtain ⟨l, b1, rfl, d1⟩ := ul p1 e3;obtain ⟨us, u1, _⟩ := d1.sq (K := X.K);exact ⟨l, us, b1, rfl, u1, q _ H1 s1 ⟨_, za, fun H2 k _ => d1.kp k⟩⟩
theorem Z.iK (T : Tb X nl G) (j : Nat) (hG : G[j]? = some ("enumerate" : Str)) (hm : X.mg "enumerate" = none) (ha : Z.ai X a fa) (h1 : av a = true := by rfl) : Z.pc X (.Tuple elts x1 tp) (.Call (.Name "enumerate" p) [a] [] pos) (kT fa) :=
  ⟨D2.iK T j hG hm ha.un h1⟩
end
abbrev fg (h : Heap) (T : Addr) (a b c : Value) : Prop := h.get? T = some { cls := .type "tuple", data := .seq #[a, b, c] }
structure Z3 (h : Heap) (N l m o : Nat) (f0 : Value) (k : Nat) (xs ys zs : Array Value) : Prop where
  zz : IsZip h (N + 5) (N + 3) (N + 4) f0
  pp : fg h (N + 3) (.ref N) (.ref (N + 1)) (.ref (N + 2))
  qq : ∃ a b c, fg h (N + 4) a b c
  ii : gO h N l k xs
  jj : gO h (N + 1) m k ys
  kk : gO h (N + 2) o k zs
theorem n5 (a b c : Value) : checkTypeCall "zip" ⟨[a, b, c], []⟩ = pure () := by kernel_rfl
theorem pB (a b c : Value) : checkBuiltinCall "zip.__new__" ⟨[.type "zip", a, b, c], []⟩ = pure () := by kernel_rfl
theorem kO (a b c d : Value) : argsOk "object.__init__" ⟨[a, b, c, d], []⟩ := by unfold argsOk; kernel_rfl
section
variable {prog : Program} {w : World} {A : Around} {E : Value -> Shared -> Prop} {s : Shared} {N l m o : Nat} {k : Nat} {xs ys zs : Array Value}
theorem eu {T : Addr} {a b c x : Value} {k : Nat} {Q : Unit -> Shared -> Prop} (hT : fg s.heap T a b c)
    (h : ∀ h', h'.get? T = some { cls := .type "tuple", data := .seq ((#[a, b, c] : Array Value).setIfInBounds k x) } -> Heap.SameBut T s.heap h' -> Q () { s with heap := h' }) :
    wpAny (model prog w) A (updateSeq T (·.setIfInBounds k x)) Q E s := by
  refine wpAny_updateSeq hT rfl (h _ ?_ (Heap.SameBut.update ..));rw [Heap.get?_update_self _ hT rfl];simp [Obj.mapSeq]
theorem wS {x y v : Value} {Q : Value -> Shared -> Prop} (hl : l < N) (hm : m < N) (ho : o < N) (S : Z3 s.heap N l m o .none k xs ys zs) (hx : xs[k]? = some x) (hy : ys[k]? = some y) (hv : zs[k]? = some v)
    (hQ : ∀ h', Z3 h' N l m o (rawInt s.heap.objs.size) (k + 1) xs ys zs -> fg h' s.heap.objs.size x y v -> (∀ (c : Nat) o, c ≠ N + 5 -> c ≠ N + 4 -> c ≠ N -> c ≠ N + 1 -> c ≠ N + 2 -> s.heap.get? c = some o -> h'.get? c = some o) -> Q (.ref s.heap.objs.size) { s with heap := h' }) :
    wpAny (model prog w) A (Builtin.«zip.__next__» ⟨[.ref (N + 5)], []⟩) (fun fin s' => ∃ v, fin = .done (.ret v) /\ Q v s') E s := by
  obtain ⟨hz, hp, ⟨a, b, c, hq⟩, hi, hj, hk⟩ := S;have n1 : ∀ {a b : Nat}, a ≠ b -> (show Addr from a) ≠ (show Addr from b) := fun h => h
  show wpAny _ _ (field (Value.ref (N + 5)) 2 >>= _) _ _ _;refine wpAny_bind (wpAny_field hz rfl (x := Value.bool false) rfl ?_);show wpAny _ _ (field (Value.ref (N + 5)) 3 >>= _) _ _ _;refine wpAny_bind (wpAny_field hz rfl (x := Value.ref (N + 3)) rfl ?_);refine wpAny_bind (wpAny_seqItems hp rfl ?_);show wpAny _ _ (Builtin.SmallTypes.ownedTupleIsFree (Value.ref (N + 5)) >>= _) _ _ _;refine wpAny_bind ?_;unfold Builtin.SmallTypes.ownedTupleIsFree;refine wpAny_bind (wpAny_field hz rfl (x := Value.none) rfl (wpAny_pure ?_));simp only [if_true];refine wpAny_bind (wpAny_rule ?_);refine wpAny_bind (wpAny_field hz rfl (x := Value.ref (N + 4)) rfl ?_);refine wpAny_bind (wpAny_setField_rec hz (by simp) fun g1 z1 s1 => ?_);replace z1 : IsZip g1 (N + 5) (N + 3) (N + 4) .ellipsis := z1;refine wpAny_bind ?_;simp only [List.zipIdx_cons, List.zipIdx_nil, List.forIn_cons, List.forIn_nil];refine wpAny_bind (wpAny_bind (wpAny_onRaise ?_));show wpAny _ _ (Builtin.SmallTypes.nextOf (Value.ref N) >>= _) _ _ _;have hi1 : gO g1 N l k xs := hi.keep (fun o e => s1.extBut _ _ (n1 (by omega)) e) fun o e => s1.extBut _ _ (n1 (by omega)) e
  refine wpAny_bind (lc hi1 (n1 (by omega)) hx fun g2 i2 s2 => wpAny_pure ?_);have q2 : fg g2 (N + 4) a b c := s2.extBut _ _ (n1 (by omega)) (s1.extBut _ _ (n1 (by omega)) hq);refine wpAny_bind (wpAny_seqItems q2 rfl ?_);refine wpAny_bind (eu q2 fun g3 q3 s3 => ?_);replace q3 : fg g3 (N + 4) x b c := q3;refine wpAny_bind (wpAny_letGo (wpAny_pure ?_));refine wpAny_bind (wpAny_bind (wpAny_onRaise ?_));show wpAny _ _ (Builtin.SmallTypes.nextOf (Value.ref (N + 1)) >>= _) _ _ _;have hj3 : gO g3 (N + 1) m k ys := hj.keep (fun o e => s3.extBut _ _ (n1 (by omega)) (s2.extBut _ _ (n1 (by omega)) (s1.extBut _ _ (n1 (by omega)) e))) fun o e => s3.extBut _ _ (n1 (by omega)) (s2.extBut _ _ (n1 (by omega)) (s1.extBut _ _ (n1 (by omega)) e))
  refine wpAny_bind (lc hj3 (n1 (by omega)) hy fun g4 j4 s4 => wpAny_pure ?_);have q4 : fg g4 (N + 4) x b c := s4.extBut _ _ (n1 (by omega)) q3;refine wpAny_bind (wpAny_seqItems q4 rfl ?_);refine wpAny_bind (eu q4 fun g5 q5 s5 => ?_);replace q5 : fg g5 (N + 4) x y c := q5;refine wpAny_bind (wpAny_letGo (wpAny_pure ?_));refine wpAny_bind (wpAny_bind (wpAny_onRaise ?_));show wpAny _ _ (Builtin.SmallTypes.nextOf (Value.ref (N + 2)) >>= _) _ _ _;have hk5 : gO g5 (N + 2) o k zs := hk.keep (fun o e => s5.extBut _ _ (n1 (by omega)) (s4.extBut _ _ (n1 (by omega)) (s3.extBut _ _ (n1 (by omega)) (s2.extBut _ _ (n1 (by omega)) (s1.extBut _ _ (n1 (by omega)) e))))) fun o e => s5.extBut _ _ (n1 (by omega)) (s4.extBut _ _ (n1 (by omega)) (s3.extBut _ _ (n1 (by omega)) (s2.extBut _ _ (n1 (by omega)) (s1.extBut _ _ (n1 (by omega)) e))))
  refine wpAny_bind (lc hk5 (n1 (by omega)) hv fun g6 k6 s6 => wpAny_pure ?_);have q6 : fg g6 (N + 4) x y c := s6.extBut _ _ (n1 (by omega)) q5;refine wpAny_bind (wpAny_seqItems q6 rfl ?_);refine wpAny_bind (eu q6 fun g7 q7 s7 => ?_);replace q7 : fg g7 (N + 4) x y v := q7;refine wpAny_bind (wpAny_letGo (wpAny_pure (wpAny_pure ?_)));refine wpAny_bind (wpAny_seqItems q7 rfl ?_);refine wpAny_bind (wpAny_newTuple ?_);have hsz : g7.objs.size = s.heap.objs.size := by rw [s7.1, s6.1, s5.1, s4.1, s3.1, s2.1, s1.1]
  have z7 : IsZip g7 (N + 5) (N + 3) (N + 4) .ellipsis := s7.extBut _ _ (n1 (by omega)) (s6.extBut _ _ (n1 (by omega)) (s5.extBut _ _ (n1 (by omega)) (s4.extBut _ _ (n1 (by omega)) (s3.extBut _ _ (n1 (by omega)) (s2.extBut _ _ (n1 (by omega)) z1)))));have k7 : ∀ (c : Nat) o, c ≠ N + 5 -> c ≠ N + 4 -> c ≠ N -> c ≠ N + 1 -> c ≠ N + 2 -> s.heap.get? c = some o -> g7.get? c = some o := fun c o c1 c2 c3 c4 c5 e => s7.extBut _ _ (n1 c2) (s6.extBut _ _ (n1 c5) (s5.extBut _ _ (n1 c2) (s4.extBut _ _ (n1 c4) (s3.extBut _ _ (n1 c2) (s2.extBut _ _ (n1 c3) (s1.extBut _ _ (n1 c1) e))))))
  have i7 : gO g7 N l (k + 1) xs := i2.keep (fun o e => s7.extBut _ _ (n1 (by omega)) (s6.extBut _ _ (n1 (by omega)) (s5.extBut _ _ (n1 (by omega)) (s4.extBut _ _ (n1 (by omega)) (s3.extBut _ _ (n1 (by omega)) e))))) fun o e => s7.extBut _ _ (n1 (by omega)) (s6.extBut _ _ (n1 (by omega)) (s5.extBut _ _ (n1 (by omega)) (s4.extBut _ _ (n1 (by omega)) (s3.extBut _ _ (n1 (by omega)) e))))
  have j7 : gO g7 (N + 1) m (k + 1) ys := j4.keep (fun o e => s7.extBut _ _ (n1 (by omega)) (s6.extBut _ _ (n1 (by omega)) (s5.extBut _ _ (n1 (by omega)) e))) fun o e => s7.extBut _ _ (n1 (by omega)) (s6.extBut _ _ (n1 (by omega)) (s5.extBut _ _ (n1 (by omega)) e))
  have l7 : gO g7 (N + 2) o (k + 1) zs := k6.keep (fun o e => s7.extBut _ _ (n1 (by omega)) e) fun o e => s7.extBut _ _ (n1 (by omega)) e
  have zlt : N + 5 < g7.objs.size := Heap.lt_size z7;show wpAny _ _ (Builtin.SmallTypes.ownedTupleHandOut (Value.ref (N + 5)) (Value.ref g7.objs.size) >>= _) _ _ _;refine wpAny_bind ?_;unfold Builtin.SmallTypes.ownedTupleHandOut;have z8 : IsZip (g7.push { cls := .type "tuple", data := .seq #[x, y, v] }) (N + 5) (N + 3) (N + 4) .ellipsis := Heap.get?_push_of_some _ z7;refine wpAny_bind (wpAny_setField_rec z8 (by simp) fun g9 z9 s9 => ?_);replace z9 : IsZip g9 (N + 5) (N + 3) (N + 4) (rawInt g7.objs.size) := z9;refine wpAny_setField_rec z9 (by simp) fun g10 z10 s10 => ?_
  replace z10 : IsZip g10 (N + 5) (N + 3) (N + 4) (rawInt g7.objs.size) := z10;have up : ∀ (c : Nat) o, c ≠ N + 5 -> g7.get? c = some o -> g10.get? c = some o := fun c o c1 e => s10.extBut _ _ (n1 c1) (s9.extBut _ _ (n1 c1) (Heap.get?_push_of_some _ e))
  have t10 : fg g10 g7.objs.size x y v := s10.extBut _ _ (Nat.ne_of_gt zlt) (s9.extBut _ _ (Nat.ne_of_gt zlt) (Heap.get?_push_size _ rfl));rw [hsz] at z10 t10;refine wpAny_pure ⟨_, rfl, ?_⟩;show Q (.ref g7.objs.size) _;rw [hsz];exact hQ g10 ⟨z10, up _ _ (by omega) (k7 _ _ (by omega) (by omega) (by omega) (by omega) (by omega) hp), ⟨x, y, v, up _ _ (by omega) q7⟩, i7.keep (fun o e => up _ _ (by omega) e) fun o e => up _ _ (by omega) e, j7.keep (fun o e => up _ _ (by omega) e) fun o e => up _ _ (by omega) e,
    l7.keep (fun o e => up _ _ (by omega) e) fun o e => up _ _ (by omega) e⟩ t10 fun c o c1 c2 c3 c4 c5 e => up c o c1 (k7 c o c1 c2 c3 c4 c5 e)
theorem xL {Q : PySem.Fin -> Shared -> Prop} (hh : A.handled = none) (hl : l < N) (hm : m < N) (ho : o < N) (S : Z3 s.heap N l m o .none k xs ys zs) (hend : xs[k]? = none \/ ys[k]? = none \/ zs[k]? = none)
    (hE : ∀ h' e, (∀ (c : Nat) o, c ≠ N + 5 -> c ≠ N + 4 -> c ≠ N -> c ≠ N + 1 -> c ≠ N + 2 -> s.heap.get? c = some o -> h'.get? c = some o) -> (∃ o, h'.get? e = some o /\ o.cls = .type "StopIteration") -> E (.ref e) { s with heap := h' }) :
    wpAny (model prog w) A (Builtin.«zip.__next__» ⟨[.ref (N + 5)], []⟩) Q E s := by
  obtain ⟨hz, hp, ⟨a, b, c, hq⟩, hi, hj, hk⟩ := S;have n1 : ∀ {a b : Nat}, a ≠ b -> (show Addr from a) ≠ (show Addr from b) := fun h => h
  show wpAny _ _ (field (Value.ref (N + 5)) 2 >>= _) _ _ _;refine wpAny_bind (wpAny_field hz rfl (x := Value.bool false) rfl ?_);show wpAny _ _ (field (Value.ref (N + 5)) 3 >>= _) _ _ _;refine wpAny_bind (wpAny_field hz rfl (x := Value.ref (N + 3)) rfl ?_);refine wpAny_bind (wpAny_seqItems hp rfl ?_);show wpAny _ _ (Builtin.SmallTypes.ownedTupleIsFree (Value.ref (N + 5)) >>= _) _ _ _;refine wpAny_bind ?_;unfold Builtin.SmallTypes.ownedTupleIsFree;refine wpAny_bind (wpAny_field hz rfl (x := Value.none) rfl (wpAny_pure ?_));simp only [if_true];refine wpAny_bind (wpAny_rule ?_);refine wpAny_bind (wpAny_field hz rfl (x := Value.ref (N + 4)) rfl ?_);refine wpAny_bind (wpAny_setField_rec hz (by simp) fun g1 z1 s1 => ?_);replace z1 : IsZip g1 (N + 5) (N + 3) (N + 4) .ellipsis := z1;refine wpAny_bind ?_;simp only [List.zipIdx_cons, List.zipIdx_nil, List.forIn_cons, List.forIn_nil];refine wpAny_bind (wpAny_bind (wpAny_onRaise ?_));show wpAny _ _ (Builtin.SmallTypes.nextOf (Value.ref N) >>= _) _ _ _;have hi1 : gO g1 N l k xs := hi.keep (fun o e => s1.extBut _ _ (n1 (by omega)) e) fun o e => s1.extBut _ _ (n1 (by omega)) e
  cases hx : xs[k]? with
  | none =>
    refine wpAny_bind (gr hh hi1 hx fun g2 e s2 he => ?_);obtain ⟨oe, hoe, hce⟩ := he;have z2 : IsZip g2 (N + 5) (N + 3) (N + 4) .ellipsis := s2 _ _ (n1 (by omega)) z1;have hez : e ≠ (N + 5 : Nat) := fun t => by subst t; rw [z2] at hoe; cases hoe; simp at hce
    exact wpAny_setField_rec z2 (by simp) fun g3 _ s3 => hE g3 e (fun c o c1 _ c3 _ _ t => s3.extBut _ _ (n1 c1) (s2 _ _ (n1 c3) (s1.extBut _ _ (n1 c1) t))) ⟨oe, s3.extBut _ _ hez hoe, hce⟩
  | some x =>
    refine wpAny_bind (lc hi1 (n1 (by omega)) hx fun g2 i2 s2 => wpAny_pure ?_);have q2 : fg g2 (N + 4) a b c := s2.extBut _ _ (n1 (by omega)) (s1.extBut _ _ (n1 (by omega)) hq);refine wpAny_bind (wpAny_seqItems q2 rfl ?_);refine wpAny_bind (eu q2 fun g3 q3 s3 => ?_);replace q3 : fg g3 (N + 4) x b c := q3;refine wpAny_bind (wpAny_letGo (wpAny_pure ?_));refine wpAny_bind (wpAny_bind (wpAny_onRaise ?_));show wpAny _ _ (Builtin.SmallTypes.nextOf (Value.ref (N + 1)) >>= _) _ _ _;have hj3 : gO g3 (N + 1) m k ys := hj.keep (fun o e => s3.extBut _ _ (n1 (by omega)) (s2.extBut _ _ (n1 (by omega)) (s1.extBut _ _ (n1 (by omega)) e))) fun o e => s3.extBut _ _ (n1 (by omega)) (s2.extBut _ _ (n1 (by omega)) (s1.extBut _ _ (n1 (by omega)) e))
    have z3 : IsZip g3 (N + 5) (N + 3) (N + 4) .ellipsis := s3.extBut _ _ (n1 (by omega)) (s2.extBut _ _ (n1 (by omega)) z1);have k3 : ∀ (c : Nat) o, c ≠ N + 5 -> c ≠ N + 4 -> c ≠ N -> s.heap.get? c = some o -> g3.get? c = some o := fun c o c1 c2 c3 t => s3.extBut _ _ (n1 c2) (s2.extBut _ _ (n1 c3) (s1.extBut _ _ (n1 c1) t))
    cases hy : ys[k]? with
    | none =>
      refine wpAny_bind (gr hh hj3 hy fun g4 e s4 he => ?_);obtain ⟨oe, hoe, hce⟩ := he;have z4 : IsZip g4 (N + 5) (N + 3) (N + 4) .ellipsis := s4 _ _ (n1 (by omega)) z3;have hez : e ≠ (N + 5 : Nat) := fun t => by subst t; rw [z4] at hoe; cases hoe; simp at hce
      exact wpAny_setField_rec z4 (by simp) fun g5 _ s5 => hE g5 e (fun c o c1 c2 c3 c4 _ t => s5.extBut _ _ (n1 c1) (s4 _ _ (n1 c4) (k3 c o c1 c2 c3 t))) ⟨oe, s5.extBut _ _ hez hoe, hce⟩
    | some y =>
      have hv : zs[k]? = none := by
        rcases hend with t | t | t
        · rw [hx] at t; cases t
        · rw [hy] at t; cases t
        · exact t
      refine wpAny_bind (lc hj3 (n1 (by omega)) hy fun g4 j4 s4 => wpAny_pure ?_);have q4 : fg g4 (N + 4) x b c := s4.extBut _ _ (n1 (by omega)) q3;refine wpAny_bind (wpAny_seqItems q4 rfl ?_);refine wpAny_bind (eu q4 fun g5 q5 s5 => ?_);refine wpAny_bind (wpAny_letGo (wpAny_pure ?_));refine wpAny_bind (wpAny_bind (wpAny_onRaise ?_));show wpAny _ _ (Builtin.SmallTypes.nextOf (Value.ref (N + 2)) >>= _) _ _ _;have hk5 : gO g5 (N + 2) o k zs := hk.keep (fun o e => s5.extBut _ _ (n1 (by omega)) (s4.extBut _ _ (n1 (by omega)) (k3 _ o (by omega) (by omega) (by omega) e))) fun o e => s5.extBut _ _ (n1 (by omega)) (s4.extBut _ _ (n1 (by omega)) (k3 _ o (by omega) (by omega) (by omega) e))
      refine wpAny_bind (gr hh hk5 hv fun g6 e s6 he => ?_);obtain ⟨oe, hoe, hce⟩ := he;have z6 : IsZip g6 (N + 5) (N + 3) (N + 4) .ellipsis := s6 _ _ (n1 (by omega)) (s5.extBut _ _ (n1 (by omega)) (s4.extBut _ _ (n1 (by omega)) z3));have hez : e ≠ (N + 5 : Nat) := fun t => by subst t; rw [z6] at hoe; cases hoe; simp at hce
      exact wpAny_setField_rec z6 (by simp) fun g7 _ s7 => hE g7 e (fun c o c1 c2 c3 c4 c5 t => s7.extBut _ _ (n1 c1) (s6 _ _ (n1 c5) (s5.extBut _ _ (n1 c2) (s4.extBut _ _ (n1 c4) (k3 c o c1 c2 c3 t))))) ⟨oe, s7.extBut _ _ hez hoe, hce⟩
theorem rG {x y v : Value} {Q : Option Value -> Shared -> Prop} (hl : l < N) (hm : m < N) (ho : o < N) (S : Z3 s.heap N l m o .none k xs ys zs) (hx : xs[k]? = some x) (hy : ys[k]? = some y) (hv : zs[k]? = some v)
    (hQ : ∀ h', Z3 h' N l m o (rawInt s.heap.objs.size) (k + 1) xs ys zs -> fg h' s.heap.objs.size x y v -> (∀ (c : Nat) o, c ≠ N + 5 -> c ≠ N + 4 -> c ≠ N -> c ≠ N + 1 -> c ≠ N + 2 -> s.heap.get? c = some o -> h'.get? c = some o) -> Q (some (.ref s.heap.objs.size)) { s with heap := h' }) :
    wpAny (model prog w) A (pyNext (.ref (N + 5))) Q E s := by
  have hT : s.TypeIs (.ref (N + 5)) "zip" := ⟨_, S.zz, rfl⟩
  unfold pyNext;exact wpAny_bind (wpAny_attempt (wpAny_callSpecial?_slot (name := Str.ofString "__next__") hT F.slot_zip_next (wpAny_call_entry F.slot_zip_next hT F.entry_zip_next (wS hl hm ho S hx hy hv fun h' a b c => wpAny_pure (hQ h' a b c)) (F.args_zip_next_1 _))))
theorem tt {Q : Option Value -> Shared -> Prop} (hh : A.handled = none) (hl : l < N) (hm : m < N) (ho : o < N) (S : Z3 s.heap N l m o .none k xs ys zs) (hend : xs[k]? = none \/ ys[k]? = none \/ zs[k]? = none)
    (hQ : ∀ h', (∀ (c : Nat) o, c ≠ N + 5 -> c ≠ N + 4 -> c ≠ N -> c ≠ N + 1 -> c ≠ N + 2 -> s.heap.get? c = some o -> h'.get? c = some o) -> Q none { s with heap := h' }) : wpAny (model prog w) A (pyNext (.ref (N + 5))) Q E s := by
  have hT : s.TypeIs (.ref (N + 5)) "zip" := ⟨_, S.zz, rfl⟩
  unfold pyNext;refine wpAny_bind (wpAny_attempt (wpAny_callSpecial?_slot (name := Str.ofString "__next__") hT F.slot_zip_next (wpAny_call_entry F.slot_zip_next hT F.entry_zip_next (xL hh hl hm ho S hend fun h' e hk he => ?_) (F.args_zip_next_1 _))));obtain ⟨o, ho, hc⟩ := he;exact wpAny_bind (wpAny_isInstance (T := "StopIteration") (b := true) ⟨o, ho, hc⟩ isSubtype_stop (wpAny_pure (hQ _ hk)))
theorem yn (l m o : Addr) (xs ys zs : Array Value) : Meets (Builtin.«zip.__new__» ⟨[.type "zip", .ref l, .ref m, .ref o], []⟩) (fun _ R s => s.heap.IsTuple l xs /\ s.heap.IsTuple m ys /\ s.heap.IsTuple o zs /\
    ∀ h', h'.objs.size = s.heap.objs.size + 6 -> Z3 h' s.heap.objs.size l m o .none 0 xs ys zs -> (∀ c o, s.heap.get? c = some o -> h'.get? c = some o) ->
      R (.ok (.ret (.ref (s.heap.objs.size + 5)))) { s with heap := h' }) :=
  .of_wp fun prog w A R s h => by
    obtain ⟨hp, g, d, tk, os⟩ := s; obtain ⟨h1, h2, h3, h⟩ := h;have hsub := sub_zip;have l1 : Heap.IsTuple (Shared.heap ⟨hp, g, d, tk, os⟩) l xs := h1;have l2 : Heap.IsTuple (Shared.heap ⟨hp.push { cls := .type "tuple_iterator", data := .fields #[.ref l, .int 0 0] }, g, d, tk, os⟩) m ys := Heap.IsTuple.push h2 _;have l3 : Heap.IsTuple (Shared.heap ⟨(hp.push { cls := .type "tuple_iterator", data := .fields #[.ref l, .int 0 0] }).push { cls := .type "tuple_iterator", data := .fields #[.ref m, .int 0 0] }, g, d, tk, os⟩) o zs := Heap.IsTuple.push (Heap.IsTuple.push h3 _) _;have fin : ∀ (oi oj ok : Obj), gO (hp.push oi) hp.objs.size l 0 xs -> gO ((hp.push oi).push oj) (hp.push oi).objs.size m 0 ys -> gO (((hp.push oi).push oj).push ok) ((hp.push oi).push oj).objs.size o 0 zs ->
        R (.ok (.ret (.ref (((((hp.push oi).push oj).push ok).push { cls := .type "tuple", data := .seq #[.ref hp.objs.size, .ref (hp.push oi).objs.size, .ref ((hp.push oi).push oj).objs.size] }).push { cls := .type "tuple", data := .seq #[.none, .none, .none] }).objs.size)))
          ⟨(((((hp.push oi).push oj).push ok).push { cls := .type "tuple", data := .seq #[.ref hp.objs.size, .ref (hp.push oi).objs.size, .ref ((hp.push oi).push oj).objs.size] }).push { cls := .type "tuple", data := .seq #[.none, .none, .none] }).push { cls := .type "zip", data := .fields #[.none, .bool false, .bool false, .ref (((hp.push oi).push oj).push ok).objs.size, .ref ((((hp.push oi).push oj).push ok).push { cls := .type "tuple", data := .seq #[.ref hp.objs.size, .ref (hp.push oi).objs.size, .ref ((hp.push oi).push oj).objs.size] }).objs.size] }, g, d, tk, os⟩ := fun oi oj ok hi hj hk => by
      have e1 : (hp.push oi).objs.size = hp.objs.size + 1 := Heap.size_push ..;have e2 : ((hp.push oi).push oj).objs.size = hp.objs.size + 2 := by rw [Heap.size_push, e1]
      rw [e2] at hk ⊢;rw [e1] at hj ⊢;generalize hT : ({ cls := .type "tuple", data := .seq #[.ref hp.objs.size, .ref (hp.objs.size + 1), .ref (hp.objs.size + 2)] } : Obj) = T;have e3 : (((hp.push oi).push oj).push ok).objs.size = hp.objs.size + 3 := by rw [Heap.size_push, e2]
      have e4 : ((((hp.push oi).push oj).push ok).push T).objs.size = hp.objs.size + 4 := by rw [Heap.size_push, e3]
      have e5 : (((((hp.push oi).push oj).push ok).push T).push { cls := .type "tuple", data := .seq #[.none, .none, .none] }).objs.size = hp.objs.size + 5 := by rw [Heap.size_push, e4]
      rw [e5, e4, e3];have kk : ∀ (c : Addr) (o' a b c' : Obj), (((hp.push oi).push oj).push ok).get? c = some o' -> ((((((hp.push oi).push oj).push ok).push a).push b).push c').get? c = some o' := fun c o' a b c' e => Heap.get?_push_of_some _ (Heap.get?_push_of_some _ (Heap.get?_push_of_some _ e))
      refine h _ (by rw [Heap.size_push, e5]) ⟨?_, ?_, ⟨.none, .none, .none, ?_⟩, ?_, ?_, ?_⟩ fun c o' e => kk _ _ _ _ _ (Heap.get?_push_of_some _ (Heap.get?_push_of_some _ (Heap.get?_push_of_some _ e)))
      · show Heap.get? _ (hp.objs.size + 5) = _;rw [<- e5];exact Heap.get?_push_size _ rfl
      · refine Heap.get?_push_of_some _ (Heap.get?_push_of_some _ ?_);show Heap.get? _ (hp.objs.size + 3) = _;rw [<- e3, hT];exact Heap.get?_push_size _ (by rw [<- hT]; rfl)
      · refine Heap.get?_push_of_some _ ?_;show Heap.get? _ (hp.objs.size + 4) = _;rw [<- e4];exact Heap.get?_push_size _ rfl
      · exact hi.keep (fun o' e => kk _ _ _ _ _ (Heap.get?_push_of_some _ (Heap.get?_push_of_some _ e))) fun o' e => kk _ _ _ _ _ (Heap.get?_push_of_some _ (Heap.get?_push_of_some _ e))
      · exact hj.keep (fun o' e => kk _ _ _ _ _ (Heap.get?_push_of_some _ e)) fun o' e => kk _ _ _ _ _ (Heap.get?_push_of_some _ e)
      · exact hk.keep (fun o' e => kk _ _ _ _ _ e) fun o' e => kk _ _ _ _ _ e
    wp_walk using wpAny_pyIter_tuple l1, wpAny_pyIter_tuple l2, wpAny_pyIter_tuple l3
    exact ⟨_, rfl, fin _ _ _ (.inr ⟨⟨_, Heap.get?_push_size _ rfl, rfl, rfl⟩, Heap.IsTuple.push h1 _⟩) (.inr ⟨⟨_, Heap.get?_push_size _ rfl, rfl, rfl⟩, Heap.IsTuple.push l2 _⟩) (.inr ⟨⟨_, Heap.get?_push_size _ rfl, rfl, rfl⟩, Heap.IsTuple.push l3 _⟩)⟩
theorem wI {Q : Value -> Shared -> Prop} {l m o : Addr} (h1 : s.heap.IsTuple l xs) (h2 : s.heap.IsTuple m ys) (h3 : s.heap.IsTuple o zs)
    (h : ∀ h', h'.objs.size = s.heap.objs.size + 6 -> Z3 h' s.heap.objs.size l m o .none 0 xs ys zs -> (∀ c o, s.heap.get? c = some o -> h'.get? c = some o) -> Q (.ref (s.heap.objs.size + 5)) { s with heap := h' }) : wpAny (model prog w) A (call (.type "zip") [.ref l, .ref m, .ref o]) Q E s := by
  refine callType_new F.called_zip (by decide) (n5 _ _ _) (pB _ _ _) (fun obj => kO obj _ _ _) F.entry_zip_new (yn l m o xs ys zs) ⟨h1, h2, h3, fun h' e S k => ?_⟩;exact ⟨⟨_, S.zz, rfl⟩, h h' e S k⟩
end
section
variable {X : Cx} {pins : List (Addr × Obj)} {σ : St} {H : Hp} {s : Shared} {h' : Heap}
theorem yg {t' : Nat} {fp : List Addr} {u1 u2 u3 : Value} {v1 v2 v3 : V} (I : aM X pins σ H s) (hf : ∀ b ∈ fp, lV X pins H b) (hob : ∀ b ∈ fp, b < s.heap.objs.size) (ht : fg h' s.heap.objs.size u1 u2 u3) (k : ∀ b o, b ∉ fp -> s.heap.get? b = some o -> h'.get? b = some o)
    (r1 : bA v1 u1) (r2 : bA v2 u2) (r3 : bA v3 u3) : aM X pins σ (cm H s.heap.objs.size (.tup [v1, v2, v3])) { s with heap := h', toks := t' } := by
  have I1 : aM X pins σ (cm H s.heap.objs.size (.tup [v1, v2, v3])) { s with heap := s.heap.push { cls := .type "tuple", data := .seq #[u1, u2, u3] }, toks := s.toks } :=
    I.laid (fun b u e => Heap.get?_push_of_some _ e) (Nat.le_refl _) ⟨by show 3 <= sizeLine; decide, [u1, u2, u3], .cons r1 (.cons r2 (.cons r3 .nil)), _, Heap.get?_push_size _ rfl, rfl, _, rfl⟩
  refine fM (fp := fp) (s := { s with heap := s.heap.push { cls := .type "tuple", data := .seq #[u1, u2, u3] }, toks := s.toks }) I1 (fun b o hb e => ?_) fun b hb => ?_
  · by_cases hz : b = s.heap.objs.size
    · subst hz;have e' : (s.heap.push { cls := .type "tuple", data := .seq #[u1, u2, u3] }).get? s.heap.objs.size = some o := e;rw [Heap.get?_push_size _ rfl] at e';cases e';exact ht
    · exact k b o hb (rX hz e)
  · obtain ⟨f0, f1, f2, f3, f4, f5⟩ := hf b hb;exact ⟨by rw [au (Nat.ne_of_lt (hob b hb))]; exact f0, f1, f2, f3, f4, f5⟩
end
def CG (K : PySem.W.Frag) (l m o : Addr) : It :=
  ⟨fun i H => ∃ xs ys zs x y z, eE K H l xs /\ eE K H m ys /\ eE K H o zs /\ xs[i]? = some x /\ ys[i]? = some y /\ zs[i]? = some z,
   fun i H v H' => ∃ a x y z, H a = none /\ v = .ref a /\ H' = cm H a (.tup [x, y, z]) /\ (∀ xs, eE K H l xs -> xs[i]? = some x) /\ (∀ ys, eE K H m ys -> ys[i]? = some y) /\ ∀ zs, eE K H o zs -> zs[i]? = some z,
   fun i H => ∃ xs ys zs, eE K H l xs /\ eE K H m ys /\ eE K H o zs /\ (xs.length <= i \/ ys.length <= i \/ zs.length <= i)⟩
structure E1 (N l m o : Nat) (k : Nat) (h : Heap) : Prop where
  zz : IsZip h (N + 5) (N + 3) (N + 4) .none
  pp : fg h (N + 3) (.ref N) (.ref (N + 1)) (.ref (N + 2))
  qq : ∃ a b c, fg h (N + 4) a b c
  ii : h.IsTupleIter N l k
  jj : h.IsTupleIter (N + 1) m k
  kk : h.IsTupleIter (N + 2) o k
theorem fF {h : Heap} {i l : Addr} {k : Nat} {xs ys : Array Value} (x : gO h i l k xs) (t : h.IsTuple l ys) : h.IsTupleIter i l k := by
  rcases x with ⟨z, w⟩ | ⟨z, w⟩
  · exact (cZ w t).elim
  · exact z
theorem dQ {h h' : Heap} {i l : Addr} {k : Nat} (x : h.IsTupleIter i l k) (hi : ∀ o, h.get? i = some o -> h'.get? i = some o) : h'.IsTupleIter i l k := by
  obtain ⟨o, e, r⟩ := x; exact ⟨o, hi _ e, r⟩
theorem h8 {h : Heap} {i l : Addr} {k : Nat} (x : h.IsTupleIter i l k) : ∃ o, h.get? i = some o /\ ∀ v, o.data ≠ .cell v := by
  obtain ⟨o, e, c, d⟩ := x; exact ⟨o, e, fun v z => by rw [d] at z; cases z⟩
abbrev zB (N : Nat) : List Addr := [N + 5, N + 3, N + 4, N, N + 1, N + 2]
theorem wD {P : Program} {w : World} {K : PySem.W.Frag} {elts : List Expr} {x1} {pos : Pos} {N l m o : Nat} (hl : l < N) (hm : m < N) (ho : o < N) : rP P w K (.Tuple elts x1 pos) (CG K l m o) (zB N) (N + 5) (E1 N l m o) where
  mem := by simp
  obj := fun k h st a ha => by
    simp only [zB, List.mem_cons, List.not_mem_nil, or_false] at ha;rcases ha with rfl | rfl | rfl | rfl | rfl | rfl
    · exact ⟨_, st.zz, fun v e => by cases e⟩
    · exact ⟨_, st.pp, fun v e => by cases e⟩
    · obtain ⟨_, _, _, e⟩ := st.qq; exact ⟨_, e, fun v e => by cases e⟩
    · exact h8 st.ii
    · exact h8 st.jj
    · exact h8 st.kk
  keep := fun k h h' st kp => ⟨kp (N + 5) (by simp) _ st.zz, kp (N + 3) (by simp) _ st.pp, let ⟨a, b, c, e⟩ := st.qq; ⟨a, b, c, kp (N + 4) (by simp) _ e⟩, dQ st.ii fun o e => kp N (by simp) o e, dQ st.jj fun o e => kp (N + 1) (by simp) o e, dQ st.kk fun o e => kp (N + 2) (by simp) o e⟩
  item := by
    intro X hP hw hK hc k pins s σ H E I hf st hg;subst hP hw hK;obtain ⟨xs, ys, zs, x, y, z, h1, h2, h3, hx, hy, hz⟩ := hg;obtain ⟨its, rv, t1, _⟩ := I.tuple h1;obtain ⟨jts, rw', t2, _⟩ := I.tuple h2;obtain ⟨kts, rz', t3, _⟩ := I.tuple h3;obtain ⟨u, hu, ru⟩ := rv.get hx;obtain ⟨v, hv, ry⟩ := rw'.get hy;obtain ⟨q, hq, rq⟩ := rz'.get hz;have S : Z3 s.heap N l m o .none k its.toArray jts.toArray kts.toArray := ⟨st.zz, st.pp, st.qq, .inr ⟨st.ii, t1⟩, .inr ⟨st.jj, t2⟩, .inr ⟨st.kk, t3⟩⟩
    refine rG hl hm ho S (x := u) (y := v) (v := q) (by simpa using hu) (by simpa using hv) (by simpa using hq) fun h' S' hp kp => ⟨_, rfl, ?_⟩
    have zlt : N + 5 < s.heap.objs.size := Heap.lt_size st.zz;refine wpAny_letOwnedTupleGo_zip (s := { s with heap := h' }) S'.zz fun h2' hz2 sb => ?_
    have up : ∀ (a : Nat) o, a ≠ N + 5 -> h'.get? a = some o -> h2'.get? a = some o := fun a o ha e => sb.extBut a o ha e
    have hob : ∀ a ∈ zB N, a < s.heap.objs.size := fun a ha => by
      have : ∃ j : Nat, a = N + j /\ j <= 5 := by
        simp only [zB, List.mem_cons, List.not_mem_nil, or_false] at ha;rcases ha with rfl | rfl | rfl | rfl | rfl | rfl
        · exact ⟨5, rfl, by omega⟩
        · exact ⟨3, rfl, by omega⟩
        · exact ⟨4, rfl, by omega⟩
        · exact ⟨0, rfl, by omega⟩
        · exact ⟨1, rfl, by omega⟩
        · exact ⟨2, rfl, by omega⟩
      obtain ⟨j, rfl, hj⟩ := this;exact Nat.lt_of_le_of_lt (Nat.add_le_add_left hj N) zlt
    have hn : H s.heap.objs.size = none := I.hok.fresh (Nat.le_refl _);have kq : ∀ (a : Nat) o, a < N -> s.heap.get? a = some o -> h'.get? a = some o := fun a o ha e => kp a o (by omega) (by omega) (by omega) (by omega) (by omega) e
    refine ⟨.ref s.heap.objs.size, _, yg (s := s) (t' := s.toks) (fp := zB N) (h' := h2') (u1 := u) (u2 := v) (u3 := q) (v1 := x) (v2 := y) (v3 := z) I hf hob (up _ _ (Nat.ne_of_gt zlt) hp) (fun a o ha e => ?_) ru ry rq, rfl, ⟨_, x, y, z, hn, rfl, rfl, fun zs hz => by rw [I.tuple_inj hz h1]; exact hx, fun zs hz => by rw [I.tuple_inj hz h2]; exact hy, fun zs hz' => by rw [I.tuple_inj hz' h3]; exact hz⟩, ?_, fun a ha => ?_⟩
    · simp only [zB, List.mem_cons, List.not_mem_nil, or_false, not_or] at ha;exact up a o ha.1 (kp a o ha.1 ha.2.2.1 ha.2.2.2.1 ha.2.2.2.2.1 ha.2.2.2.2.2 e)
    · have i2 : h'.IsTupleIter N l (k + 1) := fF S'.ii (ys := its.toArray) (by obtain ⟨o, e, r⟩ := t1; exact ⟨o, kq _ _ hl e, r⟩);have j2 : h'.IsTupleIter (N + 1) m (k + 1) := fF S'.jj (ys := jts.toArray) (by obtain ⟨o, e, r⟩ := t2; exact ⟨o, kq _ _ hm e, r⟩);have k2 : h'.IsTupleIter (N + 2) o (k + 1) := fF S'.kk (ys := kts.toArray) (by obtain ⟨o, e, r⟩ := t3; exact ⟨o, kq _ _ ho e, r⟩);exact ⟨hz2, up _ _ (by omega) S'.pp, let ⟨a, b, c, e⟩ := S'.qq; ⟨a, b, c, up _ _ (by omega) e⟩, dQ i2 fun o e => up _ _ (by omega) e, dQ j2 fun o e => up _ _ (by omega) e, dQ k2 fun o e => up _ _ (by omega) e⟩
    · rw [au (Nat.ne_of_lt (hob a ha))]; exact (hf a ha).1
  done := by
    intro X hP hw hK hc k pins s σ H E I hf st hg;subst hP hw hK;obtain ⟨xs, ys, zs, h1, h2, h3, hle⟩ := hg;obtain ⟨its, rv, t1, _⟩ := I.tuple h1;obtain ⟨jts, rw', t2, _⟩ := I.tuple h2;obtain ⟨kts, rz', t3, _⟩ := I.tuple h3;have S : Z3 s.heap N l m o .none k its.toArray jts.toArray kts.toArray := ⟨st.zz, st.pp, st.qq, .inr ⟨st.ii, t1⟩, .inr ⟨st.jj, t2⟩, .inr ⟨st.kk, t3⟩⟩
    have e1 := rv.length;have e2 := rw'.length;have e3 := rz'.length;refine tt (I.ok.hd hc) hl hm ho S ?_ fun h' kp => ⟨rfl, fM (t' := s.toks) (fp := zB N) I (fun a o ha e => ?_) hf⟩
    · rcases hle with z | z | z
      · left; simp; omega
      · right; left; simp; omega
      · right; right; simp; omega
    · simp only [zB, List.mem_cons, List.not_mem_nil, or_false, not_or] at ha;exact kp a o ha.1 ha.2.2.1 ha.2.2.2.1 ha.2.2.2.2.1 ha.2.2.2.2.2 e
  self := fun _ _ _ _ _ st h => wpAny_pyIter_zip st.zz h
def fO : List PyData -> List PyData -> List PyData -> List PyData
  | x :: xs, y :: ys, z :: zs => .tuple [x, y, z] :: fO xs ys zs
  | _, _, _ => []
theorem pR : ∀ {xs ys zs : List PyData} {i : Nat} {d : PyData}, (fO xs ys zs)[i]? = some d -> ∃ x y z, xs[i]? = some x /\ ys[i]? = some y /\ zs[i]? = some z /\ d = .tuple [x, y, z]
  | x :: xs, y :: ys, z :: zs, 0, d, h => by
    simp only [fO, List.getElem?_cons_zero] at h;cases h;exact ⟨x, y, z, rfl, rfl, rfl, rfl⟩
  | x :: xs, y :: ys, z :: zs, i + 1, d, h => by
    simp only [fO, List.getElem?_cons_succ] at h;obtain ⟨a, b, c, h1, h2, h3, h4⟩ := pR h;exact ⟨a, b, c, by simpa using h1, by simpa using h2, by simpa using h3, h4⟩
  | [], _, _, i, d, h => by simp [fO] at h
  | _ :: _, [], _, i, d, h => by simp [fO] at h
  | _ :: _, _ :: _, [], i, d, h => by simp [fO] at h
theorem mh : ∀ (xs ys zs : List PyData), (fO xs ys zs).length = min xs.length (min ys.length zs.length)
  | x :: xs, y :: ys, z :: zs => by simp only [fO, List.length_cons, mh xs ys zs]; omega
  | [], _, _ => by simp [fO]
  | _ :: _, [], _ => by simp [fO]
  | _ :: _, _ :: _, [] => by simp [fO]
def uw (H : Hp) (a : Addr) (ds : List PyData) : Prop := ∃ vs, H a = some (.tup vs) /\ bu H ds vs
theorem uw.kp {H H' : Hp} {a : Addr} {ds : List PyData} (h : uw H a ds) (k : Kp H H') : uw H' a ds := by
  obtain ⟨vs, e, r⟩ := h; exact ⟨vs, k.1 _ _ e, bu.kp k _ _ r⟩
theorem yt {K : PySem.W.Frag} {l m o : Addr} {xs ys zs : List PyData} : zt (CG K l m o) (fun H => uw H l xs /\ uw H m ys /\ uw H o zs) (fO xs ys zs) where
  go := fun i H ⟨⟨vs, e1, r1⟩, ⟨us, e2, r2⟩, ⟨ws, e3, r3⟩⟩ hi => by
    rw [mh] at hi;obtain ⟨x, hx, _⟩ := r1.get (List.getElem?_eq_getElem (show i < xs.length by omega));obtain ⟨y, hy, _⟩ := r2.get (List.getElem?_eq_getElem (show i < ys.length by omega));obtain ⟨z, hz, _⟩ := r3.get (List.getElem?_eq_getElem (show i < zs.length by omega));exact ⟨vs, us, ws, x, y, z, eE.of e1, eE.of e2, eE.of e3, hx, hy, hz⟩
  yld := fun i H v H' d ⟨⟨vs, e1, r1⟩, ⟨us, e2, r2⟩, ⟨ws, e3, r3⟩⟩ hd h => by
    obtain ⟨a, x, y, z, ha, rfl, rfl, k1, k2, k3⟩ := h;obtain ⟨dx, dy, dz, g1, g2, g3, rfl⟩ := pR hd;obtain ⟨x', hx, px⟩ := r1.get g1;obtain ⟨y', hy, py⟩ := r2.get g2;obtain ⟨z', hz, pz⟩ := r3.get g3;have q1 := k1 vs (eE.of e1);have q2 := k2 us (eE.of e2);have q3 := k3 ws (eE.of e3);rw [hx] at q1; rw [hy] at q2; rw [hz] at q3;cases q1; cases q2; cases q3;exact ⟨cb ha _, df ha (bu.cons px (bu.cons py (bu.cons pz bu.nil)))⟩
  stop := fun i H ⟨⟨vs, e1, r1⟩, ⟨us, e2, r2⟩, ⟨ws, e3, r3⟩⟩ hi => by
    rw [mh] at hi;have l1 := r1.length;have l2 := r2.length;have l3 := r3.length;exact ⟨vs, us, ws, eE.of e1, eE.of e2, eE.of e3, by omega⟩
theorem CF {a b c : V} {us : List Value} (r : br [a, b, c] us) : ∃ u v w, us = [u, v, w] /\ bA a u /\ bA b v /\ bA c w := by
  cases r with
  | cons r1 r =>
    cases r with
    | cons r2 r =>
      cases r with
      | cons r3 r =>
        cases r;exact ⟨_, _, _, rfl, r1, r2, r3⟩
section
variable {X : Cx} {elts : List Expr} {x1 : Nat} {tp : Pos} {a b c : Expr} {fa fb fc : Fe} {pos p : Pos} {nl : Nat} {G : List Str} {fs : aN -> R (List PyData)}
def E0 (K : PySem.W.Frag) (ta : TA) : TI := fun σ H R => ta σ H fun vs H1 => ∃ l m o xs ys zs, vs = [.ref l, .ref m, .ref o] /\ eE K H1 l xs /\ eE K H1 m ys /\ eE K H1 o zs /\ R (CG K l m o) H1
theorem Aj {ta : TA} (hg : Gl X "zip") (hm : X.mg "zip" = none) (ha : PA X [a, b, c] ta) (hs : starEach [a, b, c] X.env = (false, eval a X.env) :: starEach [b, c] X.env) (hs2 : (backTo pos (starEach [b, c] X.env)).any (·.1) = false) :
    PI X (.Tuple elts x1 tp) (.Call (.Name "zip" p) [a, b, c] [] pos) (E0 X.K ta) := by
  intro pins s σ H R I h;refine Call_ (iL I hg hm boot_zip (PyProof.Rows.callWith_type1 (cQ (ha pos pins s σ H _ I h) fun us s1 ⟨vs, H1, I1, r1, q1⟩ => ?_) hs hs2));obtain ⟨l, m, o, xs, ys, zs, e, h1, h2, h3, q⟩ := q1;subst e;obtain ⟨u, v, w, rfl, ru, rv, rw'⟩ := CF r1;cases ru;cases rv;cases rw';obtain ⟨its, w1, p1, g1⟩ := I1.tuple h1;obtain ⟨jts, w2, p2, g2⟩ := I1.tuple h2;obtain ⟨kts, w3, p3, g3⟩ := I1.tuple h3;have ll : l < s1.heap.objs.size := by obtain ⟨o, e, _⟩ := p1; exact Heap.lt_size e
  have lm : m < s1.heap.objs.size := by obtain ⟨o, e, _⟩ := p2; exact Heap.lt_size e
  have lo : o < s1.heap.objs.size := by obtain ⟨o, e, _⟩ := p3; exact Heap.lt_size e
  refine wI p1 p2 p3 fun h' hz S kp => wpAny_pyIter_zip S.zz ?_
  have I2 : aM X pins σ H1 { s1 with heap := h' } := I1.kept (t' := s1.toks) kp;have kt : ∀ {l : Addr} {xs : Array Value}, s1.heap.IsTuple l xs -> h'.IsTuple l xs := fun ⟨o, e, r⟩ => ⟨o, kp _ _ e, r⟩
  refine ⟨_, zB s1.heap.objs.size, _, _, H1, rfl, I2, wD ll lm lo, ⟨S.zz, S.pp, S.qq, fF S.ii (kt p1), fF S.jj (kt p2), fF S.kk (kt p3)⟩, fun a ha => ?_, q⟩;have hle : s1.heap.objs.size <= a := by
    simp only [zB, List.mem_cons, List.not_mem_nil, or_false] at ha;rcases ha with rfl | rfl | rfl | rfl | rfl | rfl
    · exact Nat.le_add_right _ 5
    · exact Nat.le_add_right _ 3
    · exact Nat.le_add_right _ 4
    · exact Nat.le_refl _
    · exact Nat.le_add_right _ 1
    · exact Nat.le_add_right _ 2
  exact I1.fpOk hle (I1.hok.fresh hle)
def nh : PyData -> R (List PyData)
  | .tuple ds => .ok ds
  | _ => .no
def p8 (fa fb fc : Fe) : aN -> R (List PyData) := fun ρ => fa ρ >>= fun x => fb ρ >>= fun y => fc ρ >>= fun z => nh x >>= fun xs => nh y >>= fun ys => nh z >>= fun zs => .ok (fO xs ys zs)
theorem qU {H : Hp} {d : PyData} {v : V} {ds : List PyData} (h : Rp H d v) (e : nh d = .ok ds) : ∃ a, v = .ref a /\ uw H a ds := by
  cases d with
  | tuple xs =>
    cases e;simp only [Rp] at h;obtain ⟨a, vs, rfl, h, r⟩ := h;exact ⟨a, rfl, vs, h, r⟩
  | _ => cases e
theorem qg {d : PyData} {c : Str} (e : nh d = .ex c) : False := by cases d <;> cases e
theorem qt (T : Tb X nl G) (j : Nat) (hG : G[j]? = some ("zip" : Str)) (hm : X.mg "zip" = none) (ha : ai X a fa) (hb : ai X b fb) (hc : ai X c fc) (h1 : av a = true := by rfl) (h2 : av b = true := by rfl) (h3 : av c = true := by rfl) :
    pc X (.Tuple elts x1 tp) (.Call (.Name "zip" p) [a, b, c] [] pos) (p8 fa fb fc) := by
  have g := T.gl _ (List.mem_of_getElem? hG);refine PI.imp (Aj g.1 hm (ag ha (ag hb (ag hc ay h3) h2) h1) (bh h1) (by rw [bh h2, bh h3]; rfl)) fun σ H Rk h => ?_
  obtain ⟨ρ, sl, q⟩ := h;unfold p8 at q;refine ⟨ρ, sl, ?_⟩;unfold af aI;cases e1 : fa ρ with
  | ex c => rw [e1] at q; exact q
  | no => rw [e1] at q; exact q
  | ok x =>
    rw [e1] at q;simp only [R.ok_bind] at q ⊢;cases e2 : fb ρ with
    | ex c => rw [e2] at q; exact q
    | no => rw [e2] at q; exact q
    | ok y =>
      rw [e2] at q;simp only [R.ok_bind] at q ⊢;cases e3 : fc ρ with
      | ex c => rw [e3] at q; exact q
      | no => rw [e3] at q; exact q
      | ok z =>
        rw [e3] at q;simp only [R.ok_bind] at q ⊢;cases g1 : nh x with
        | ex c => exact (qg g1).elim
        | no => rw [g1] at q; exact q.elim
        | ok xs =>
          rw [g1] at q;simp only [R.ok_bind] at q;cases g2 : nh y with
          | ex c => exact (qg g2).elim
          | no => rw [g2] at q; exact q.elim
          | ok ys =>
            rw [g2] at q;simp only [R.ok_bind] at q;cases g3 : nh z with
            | ex c => exact (qg g3).elim
            | no => rw [g3] at q; exact q.elim
            | ok zs =>
              rw [g3] at q;simp only [R.ok_bind] at q;intro vs H1 s1 ra;simp only [RA] at ra;obtain ⟨v, r', rfl, p1, v', r'', rfl, p2, v'', r3, rfl, p3, rfl⟩ := ra;obtain ⟨l, rfl, d1⟩ := qU p1 g1;obtain ⟨m, rfl, d2⟩ := qU p2 g2;obtain ⟨o, rfl, d3⟩ := qU p3 g3;obtain ⟨us, u1, _⟩ := id d1;obtain ⟨ws, u2, _⟩ := id d2;obtain ⟨ts, u3, _⟩ := id d3;exact ⟨l, m, o, us, ws, ts, rfl, eE.of u1, eE.of u2, eE.of u3, q _ H1 s1 ⟨_, yt, fun H2 k _ => ⟨d1.kp k, d2.kp k, d3.kp k⟩⟩⟩
theorem Z.qt (T : Tb X nl G) (j : Nat) (hG : G[j]? = some ("zip" : Str)) (hm : X.mg "zip" = none) (ha : Z.ai X a fa) (hb : Z.ai X b fb) (hc : Z.ai X c fc) (h1 : av a = true := by rfl) (h2 : av b = true := by rfl) (h3 : av c = true := by rfl) : Z.pc X (.Tuple elts x1 tp) (.Call (.Name "zip" p) [a, b, c] [] pos) (p8 fa fb fc) :=
  ⟨D2.qt T j hG hm ha.un hb.un hc.un h1 h2 h3⟩
end
def sj (i j k : Nat) : PyData -> aN -> Option aN
  | .tuple [x, y, z], ρ => some (((ρ.set i (.val x)).set j (.val y)).set k (.val z))
  | _, _ => none
section
variable {X : Cx} {nl : Nat} {G : List Str} {x y z : Str} {kx : Nat} {p1 p2 p3 pos : Pos}
theorem uA (T : Tb X nl G) (i j k : Nat) (hi : (X.N.take nl)[i]? = some x) (hj : (X.N.take nl)[j]? = some y) (hk : (X.N.take nl)[k]? = some z) : pf X (.Tuple [.Name x p1, .Name y p2, .Name z p3] kx pos) (sj i j k) := by
  obtain ⟨i1, i2, i3⟩ := T.nm hi;obtain ⟨j1, j2, j3⟩ := T.nm hj;obtain ⟨k1, k2, k3⟩ := T.nm hk;refine PG.imp (xp T.calm (jm (j6 T.nd i1 i2 i3) (jm (j6 T.nd j1 j2 j3) (jm (j6 T.nd k1 k2 k3) vM)))) fun v σ H Q ⟨ρ, d, sl, p, q⟩ => ?_
  unfold sj at q;split at q
  · rename_i e;split at e
    · rename_i ρ0 dx dy dz;cases e;simp only [Rp] at p;obtain ⟨a, vs, rfl, ha, r⟩ := p;obtain ⟨u, r1, rfl, pu, r⟩ := r.cons_inv;obtain ⟨w, r2, rfl, pw, r⟩ := r.cons_inv;obtain ⟨t, r3, rfl, pt, r⟩ := r.cons_inv;rw [r.nil_inv] at ha;refine ⟨a, [u, w, t], rfl, eE.of ha, rfl, u, [w, t], rfl, w, [t], rfl, t, [], rfl, rfl, ?_⟩;refine q _ (Sl.set (c := .val dz) (o := some t) (Sl.set (c := .val dy) (o := some w) (Sl.set (c := .val dx) (o := some u) sl i ⟨u, rfl, pu⟩) j ⟨w, rfl, pw⟩) k ⟨t, rfl, pt⟩) fun n e h => ?_
      obtain ⟨n1, h⟩ := bV (fun e z => by cases z) h;obtain ⟨n2, h⟩ := bV (fun e z => by cases z) h;obtain ⟨n3, h⟩ := bV (fun e z => by cases z) h;exact ⟨h, by rw [List.getElem?_set, if_neg n1, List.getElem?_set, if_neg n2, List.getElem?_set, if_neg n3]⟩
    · cases e
  · exact q.elim
theorem Z.uA (T : Tb X nl G) (i j k : Nat) (hi : (X.N.take nl)[i]? = some x) (hj : (X.N.take nl)[j]? = some y) (hk : (X.N.take nl)[k]? = some z) : Z.pf X (.Tuple [.Name x p1, .Name y p2, .Name z p3] kx pos) (sj i j k) :=
  ⟨D2.uA T i j k hi hj hk⟩
end
section
variable {X : Cx} {nl : Nat} {G : List Str} {x : Str} {e : Expr} {f : Fe} {q1 q2 q3 q4 : Pos}
theorem eQ (T : Tb X nl G) (n : Nat) (hN : X.N[n]? = some x) (he : ai X e f) (hst : av e = true := by rfl) (hline : (q2.endLine == q3.line) = true := by rfl)
    (hs : swapsWith (.Call (.Attribute (.Name x q1) "append" q2) [e] [] q3) none q4.line X.env = pure false := by rfl)
    (hbase : attributeBase (.Name x q1) "append" X.env (eval (.Name x q1) X.env) = eval (.Name x q1) X.env := by rfl) : fA X (.Expr (.Call (.Attribute (.Name x q1) "append" q2) [e] [] q3) q4) (cr n f) := fun Fm => by
  have hm := T.vis x (List.mem_of_getElem? hN);have sc : starEach [e] X.env = (false, eval e X.env) :: starEach [] X.env := bh hst;refine PS.imp (zS (Bm PySem.F.plainAttrs_list PySem.F.slot_list_append PySem.F.type_list_append qe (mt hN hm.1 hm.2.1 hm.2.2) (ag he ay hst) hbase (by rw [sc]; rfl) hline sc rfl) hs) fun D σ H h => ?_
  obtain ⟨ρ, sl, q⟩ := h;unfold cr at q;cases ef : f ρ with
  | ex c => rw [ef] at q; exact q.elim
  | no => rw [ef] at q; exact q.elim
  | ok d =>
    rw [ef] at q;simp only [mK, R.ok_bind] at q;cases er : ρ[n]? with
    | none => rw [er] at q; exact q.elim
    | some c =>
      rw [er] at q;cases c with
      | non => exact q.elim
      | exc p => exact q.elim
      | val d' => exact q.elim
      | own d' =>
        cases d' with
        | list ds =>
          dsimp only at q;by_cases hz : ds.length < sizeLine
          · rw [if_pos hz] at q;obtain ⟨o, h2, w', rfl, p2⟩ := sl.sl.at er;simp only [ja] at p2;obtain ⟨a', vs, rfl, ha, r⟩ := p2;refine ⟨.ref a', h2, .inl ⟨rfl, _, ni.of ha⟩, ρ, sl.sl, ?_⟩;unfold af aI;rw [ef];intro us H1 s1 ra;simp only [RA] at ra;obtain ⟨v, r', rfl, p1, rfl⟩ := ra;have ha1 := s1 _ _ ha;refine ⟨a', vs, v, rfl, rfl, ha1, by rw [r.length]; exact hz, q _ _ ((sl.mono s1).change er h2 ha1 (.inl ⟨_, rfl⟩) ?_)⟩;simp only [ja];exact ⟨a', _, rfl, bd, bu.kp (gG ha1 (.inl ⟨_, rfl⟩)) _ _ (bu.append (r.mono s1) (bu.cons p1 bu.nil))⟩
          · rw [if_neg hz] at q; exact q.elim
        | _ => exact q.elim
theorem Z.eQ (T : Tb X nl G) (n : Nat) (hN : X.N[n]? = some x) (he : Z.ai X e f) (hst : av e = true := by rfl) (hline : (q2.endLine == q3.line) = true := by rfl) (hs : swapsWith (.Call (.Attribute (.Name x q1) "append" q2) [e] [] q3) none q4.line X.env = pure false := by rfl) (hbase : attributeBase (.Name x q1) "append" X.env (eval (.Name x q1) X.env) = eval (.Name x q1) X.env := by rfl) : Z.fA X (.Expr (.Call (.Attribute (.Name x q1) "append" q2) [e] [] q3) q4) (cr n f) :=
  ⟨D2.eQ T n hN he.un hst hline hs hbase⟩
end
def h9 (g : Fs) : Fs := fun ρ => mK (g ρ)
theorem Tb.nox {X : Cx} {nl : Nat} {G : List Str} (T : Tb X nl G) : Tb X.nox nl G := ⟨T.hu, T.calm, T.nd, T.vis, T.loc, T.gl⟩
section
variable {X : Cx} {nl : Nat} {G : List Str} {st : Stmt} {g : Fs} {pos : Pos}
theorem de (h : fA X.nox st g) : fA X st (h9 g) := fun Fm => by
  intro pins s σ H D I ⟨ρ, sl, q⟩;refine wpAny_mono (h Fm pins s σ H D (I.wish _) ⟨ρ, sl, ?_⟩) (fun _ _ q => q.unwish) fun _ _ z => False.elim z
  unfold h9 at q;cases e : g ρ with
  | ok o =>
    rw [e] at q;cases o <;> exact q
  | ex c => rw [e] at q; exact q.elim
  | no => rw [e] at q; exact q.elim
theorem Z.de (h : Z.fA X.nox st g) : Z.fA X st (h9 g) :=
  ⟨D2.de h.un⟩
def cP (t : aN -> R Bool) (g : Fs) : Nat -> Fs
  | 0, _ => .no
  | n + 1, ρ => t ρ >>= fun b => if b = true then g ρ >>= fun o => (match o with
      | .nx ρ2 => cP t g n ρ2
      | .ct ρ2 => cP t g n ρ2
      | .bk ρ2 => .ok (.nx ρ2)
      | .rt r => .ok (.rt r)) else .ok (.nx ρ)
def oz (n : Nat) (t : aN -> R Bool) (g : Fs) : Fs := cP t g n
theorem jn {c : Expr} {body : List Stmt} {t : aN -> R Bool} (n : Nat) (hp : PassesOwn (model X.prog X.w) X.A X.env X.xe) (ht : hZ X c t) (hb : h7 X body g) : fA X (.While c body [] pos) (oz n t g) := fun Fm => by
  refine PS.imp (zb hp ht (hb Fm)) fun D σ H ⟨ρ, sl, q⟩ => ⟨fun m σ' H' => ∃ ρ', iB Fm H' σ' ρ' /\ zY X Fm (cP t g m ρ') D, ⟨n, ρ, sl, q⟩, fun m σ1 H1 ⟨ρ1, sl1, q1⟩ => ?_⟩
  cases m with
  | zero => exact q1.elim
  | succ k =>
    have q2 : Bs X Fm (fun ρ => t ρ >>= fun b => if b = true then g ρ >>= fun o => (match o with
      | .nx ρ2 => cP t g k ρ2
      | .ct ρ2 => cP t g k ρ2
      | .bk ρ2 => .ok (.nx ρ2)
      | .rt r => .ok (.rt r)) else .ok (.nx ρ)) D σ1 H1 := ⟨ρ1, sl1, q1⟩
    refine (u7 (f := t) (k := fun ρ b => if b = true then g ρ >>= fun o => (match o with
      | .nx ρ2 => cP t g k ρ2
      | .ct ρ2 => cP t g k ρ2
      | .bk ρ2 => .ok (.nx ρ2)
      | .rt r => .ok (.rt r)) else .ok (.nx ρ)) q2).post fun b H2 ⟨ρ2, sl2, _, q3⟩ => ?_
    cases b with
    | false => exact q3 σ1 H2 sl2
    | true =>
      have q4 : zY X Fm (g ρ2 >>= fun o => (match o with
      | .nx ρ2 => cP t g k ρ2
      | .ct ρ2 => cP t g k ρ2
      | .bk ρ2 => .ok (.nx ρ2)
      | .rt r => .ok (.rt r))) D := q3
      show if true = true then _ else _
      rw [if_pos rfl];refine ⟨fun σ' H' => ∃ ρ', iB Fm H' σ' ρ' /\ zY X Fm (cP t g k ρ') D, fun σ' H' z => ⟨k, Nat.lt_succ_self k, z⟩, ρ2, sl2, ?_⟩;cases eg : g ρ2 with
      | ex c => rw [eg] at q4; exact q4
      | no => rw [eg] at q4; exact q4
      | ok o =>
        rw [eg] at q4;cases o with
        | nx ρ4 => exact fun σ' H' s' => ⟨ρ4, s', q4⟩
        | ct ρ4 => exact fun σ' H' s' => ⟨ρ4, s', q4⟩
        | bk ρ4 => exact q4
        | rt r => exact q4
theorem Z.jn {c : Expr} {body : List Stmt} {t : aN -> R Bool} (n : Nat) (hp : PassesOwn (model X.prog X.w) X.A X.env X.xe) (ht : Z.hZ X c t) (hb : Z.h7 X body g) : Z.fA X (.While c body [] pos) (oz n t g) :=
  ⟨D2.jn n hp ht.un hb.un⟩
end
abbrev A0 : List Value := [.type "ValueError", .type "Exception", .type "BaseException", .type "object"]
abbrev zy : String := "ValueError.__new__"
section
variable {K : PySem.W.Frag} {h : Heap} {C : Addr}
def DL (h : Heap) (C : Addr) (bm : List Value) : Prop := ∃ N nm q bs hdct sn sub ab col dd k0 k1 k2 k3 k5 mN, h.get? C = some (excClassObj nm q C N bs bm hdct sn sub ab col dd k0 k1 k2 k3 k5 zy) /\ h.Ns N mN /\ mN "__init__" = none /\ OwnTail h A0 bm
def uz (K : PySem.W.Frag) (C : Addr) : List Value := match K.lookup C with
  | some ⟨_, _, .cls cd, _⟩ => cd.mro.drop 1
  | _ => []
theorem x6 (X : K.In h) (q : PySem.W.excIn K C A0 zy = true) : DL h C (uz K C) := by
  unfold PySem.W.excIn at q;unfold uz;cases hk : K.lookup C with
  | none => rw [hk] at q; cases q
  | some ob =>
    rw [hk] at q;split at q
    · rename_i dd cd sl ho;cases ho;split at q
      · rename_i C' bm k0 k1 k2 k3 n k5 hm hs;simp only [Bool.not_eq_true', beq_iff_eq, Bool.and_eq_true] at q;obtain ⟨⟨⟨⟨⟨e1, e2⟩, hdel⟩, ht⟩, hok⟩, hni⟩ := q;subst e1; subst e2;obtain ⟨nm, bs, mro, ns, qn, hd, sn, sub, ab, col, del⟩ := cd;dsimp only at hm hdel hok hni ⊢;subst hm; subst hdel;have hsl : sl = #[k0, k1, k2, k3, some (.builtin zy), k5] := by
          obtain ⟨l⟩ := sl;simp only at hs;rw [hs]
        subst hsl;exact ⟨ns, nm, qn, bs, hd, sn, sub, ab, col, dd, k0, k1, k2, k3, k5, _, X _ _ hk, .of_isNs (PySem.W.isNs_of_in X hok), PySem.W.nsMap_none_of_in X hok hni, PySem.W.tail_of_in X ht⟩
      · cases q
    · cases q
end
def kE (x : Str) (f : Fe) : Fs := fun ρ => mK (f ρ) >>= fun _ => .ex x
section
variable {X : Cx} {nl : Nat} {G : List Str} {x : Str} {e : Expr} {f : Fe} {np cp pos : Pos} {C : Addr}
theorem iw (T : Tb X nl G) (j : Nat) (hG : G[j]? = some x) (hm : X.mg x = some (.ref C)) (hq : PySem.W.excIn X.K C A0 zy = true) (he : ai X.nox e f) (hst : av e = true := by rfl) : fA X (.Raise (some (.Call (.Name x np) [e] [] cp)) none pos) (kE x f) := fun Fm => by
  intro pins s σ H D I ⟨ρ, sl, q⟩;have hg := T.gl x (List.mem_of_getElem? hG);have sc : starEach [e] X.env = (false, eval e X.env) :: starEach [] X.env := bh hst;obtain ⟨N, nm, qn, bs, hdct, sn, sub, ab, col, dd, k0, k1, k2, k3, k5, mN, hC, hN, hni, TL⟩ := x6 (I.ok.mod.kin) hq;unfold kE at q;cases ef : f ρ with
  | ex c => rw [ef] at q; exact q.elim
  | no => rw [ef] at q; exact q.elim
  | ok d =>
    rw [ef] at q;simp only [mK, R.ok_bind] at q;refine wpAny_Raise_call_subT (C := C) (nm := nm) (q := qn) (N := N) (bs := bs) (bm := uz X.K C) (hdct := hdct) (sn := sn) (sub := sub) (ab := ab) (col := col) (dd := dd) (k0 := k0) (k1 := k1) (k2 := k2) (k3 := k3) (k5 := k5) PySem.F.excBase_ValueError (mN := mN) (TL.hasType rfl) (I.ok.hd T.calm) (by rw [sc]; rfl) hni (nI I hg.1 hm ⟨rfl, ?_⟩ hg.2.1);rw [sc];refine Calls.evalArgs_plain (wpAny_mono ?_ (fun vs s2 z => ⟨rfl, z⟩) fun _ _ y => y);have ha : PA X.nox [e] (x9 X.nox Rp (af f aI)) := ag he ay hst;have hw := ha cp pins s σ H (fun vs H' => vs.length = 1 /\ aE H H') (I.wish _) ⟨ρ, sl.sl, by
      unfold af aI;rw [ef];intro vs H' s' ra;simp only [RA] at ra;obtain ⟨v, r, rfl, _, rfl⟩ := ra;exact ⟨rfl, s'⟩⟩
    rw [show (X.nox.env) = X.env from rfl, sc] at hw;refine wpAny_mono hw (fun us s2 ⟨vs, H2, I2, r2, hl, s12⟩ => ?_) fun _ _ z => False.elim z
    have I2 := I2.unwish;have hlen : us.length = 1 := by rw [<- r2.length]; exact hl
    exact ⟨by rw [hlen]; decide, I2.bk _ _ hC, hN.keeps I2.bk, TL.keeps I2.bk, fun h' p mk => q.2 C hm pins σ H2 s2 (sl.fm.trans s12) I2 h' p us mk⟩
theorem Z.iw (T : Tb X nl G) (j : Nat) (hG : G[j]? = some x) (hm : X.mg x = some (.ref C)) (hq : PySem.W.excIn X.K C A0 zy = true) (he : Z.ai X.nox e f) (hst : av e = true := by rfl) : Z.fA X (.Raise (some (.Call (.Name x np) [e] [] cp)) none pos) (kE x f) :=
  ⟨D2.iw T j hG hm hq he.un hst⟩
end
def Xh (X : Cx) (p : Addr) (ob : Obj) : Cx := { X with A := X.A.mark (some (.ref p)), calm := false, xe := fun _ _ => False, pn := (p, ob) :: X.pn }
structure Fy (X : Cx) (nl : Nat) (G : List Str) : Prop where
  hu : X.A.units + 64 < cLine
  nd : X.N.Nodup
  vis : ∀ x ∈ X.N, CK X.env.scope x /\ (x == ("__debug__" : Str)) = false /\ (x == ("__classdict__" : Str)) = false
  loc : ∀ x ∈ X.N.take nl, Bc X.env.scope x /\ (X.fn x = true \/ X.env.scope.names.lookup x = some .local)
  gl : ∀ x ∈ G, Gl X x /\ (x == ("__debug__" : Str)) = false /\ x ≠ ("__name__" : Str)
theorem Tb.h {X : Cx} {nl : Nat} {G : List Str} (T : Tb X nl G) (p : Addr) (ob : Obj) : Fy (Xh X p ob) nl G := ⟨T.hu, T.nd, T.vis, T.loc, T.gl⟩
def Fu (X : Cx) (C : Addr) (hs : List ExceptHandler) (F : Addr -> aN -> R PyData) : Prop :=
  ∀ (pins : List (Addr × Obj)) (σ : St) (Hc H : Hp) (sc s : Shared) (p : Addr) (Fm : Hp) (ρ : aN) (D : rW), aM X pins σ Hc sc -> CM X.prog X.w X.stack Hc sc C H (.ref p) s -> iB Fm H σ ρ ->
    (match F p ρ with
      | .ok d => ∀ v H', aE Fm H' -> Rp H' d v -> D.rt v H'
      | _ => False) -> wpAny (model X.prog X.w) X.A (handleBy (.ref p) X.env hs) (SP X pins D) X.xe s
abbrev Hs := List (Str × (Addr -> aN -> R PyData))
inductive wO (X : Cx) (src : List ExceptHandler) : Hs -> Prop
  | nil : wO X src []
  | cons {c : Str} {C : Addr} {h : Addr -> aN -> R PyData} {hs : Hs} (hm : X.mg c = some (.ref C)) (he : Fu X C src h) (r : wO X src hs) : wO X src ((c, h) :: hs)
theorem wO.at {X : Cx} {src : List ExceptHandler} {c : Str} {h : Addr -> aN -> R PyData} : ∀ {hs : Hs}, wO X src hs -> hs.lookup c = some h -> ∃ C, X.mg c = some (.ref C) /\ Fu X C src h
  | _, .nil, e => by cases e
  | _, .cons (c := c') hm he r, e => by
    rw [List.lookup_cons] at e;split at e
    · rename_i q;have : c = c' := by simpa using q
      subst this;cases e;exact ⟨_, hm, he⟩
    · exact wO.at r e
section
variable {X : Cx} {a b c : Expr} {fa fb fc : Fe} {pos p2 : Pos} {nl : Nat} {G : List Str} {x : Str} {p : Pos}
theorem vD : ∀ {xs : List V} {vs : List Value}, vs.length = xs.length -> (∀ (j : Nat) (v : Value), vs[j]? = some v -> ∃ x, xs[j]? = some x /\ bA x v) -> br xs vs
  | [], [], _, _ => .nil
  | [], _ :: _, e, _ => by cases e
  | _ :: _, [], e, _ => by cases e
  | x :: xs, v :: vs, e, h => by
    obtain ⟨y, e1, r⟩ := h 0 v rfl;cases e1;exact .cons r (vD (by simpa using e) fun j u hu => by
      obtain ⟨z, e2, r2⟩ := h (j + 1) u (by simpa using hu);exact ⟨z, by simpa using e2, r2⟩)
end
def n4 (p : Int -> Int -> Bool) (n : Int) (ns : List Int) : Int := ns.foldl (fun a b => if p b a = true then b else a) n
theorem kP {p : Int -> Int -> Bool} {le : Int -> Int -> Prop} (h1 : ∀ a b, p b a = true -> le b a) (h2 : ∀ a b, ¬ p b a = true -> le a b) (tr : ∀ a b c, le a b -> le b c -> le a c) (rf : ∀ a, le a a) : ∀ (ns : List Int) (n : Int), n4 p n ns ∈ n :: ns /\ ∀ a ∈ n :: ns, le (n4 p n ns) a
  | [], n => ⟨by simp [n4], fun a ha => by simp at ha; subst ha; exact rf _⟩
  | m :: ns, n => by
    obtain ⟨g1, g2⟩ := kP h1 h2 tr rf ns (if p m n = true then m else n);have e : n4 p n (m :: ns) = n4 p (if p m n = true then m else n) ns := rfl;rw [e];refine ⟨?_, fun a ha => ?_⟩
    · rcases List.mem_cons.mp g1 with z | z
      · rw [z]; split <;> simp
      · exact List.mem_cons_of_mem _ (List.mem_cons_of_mem _ z)
    · have k := g2 _ List.mem_cons_self;rcases List.mem_cons.mp ha with rfl | ha
      · refine tr _ _ _ k ?_;split
        · rename_i z; exact h1 _ _ z
        · exact rf _
      · rcases List.mem_cons.mp ha with rfl | ha
        · refine tr _ _ _ k ?_;split
          · exact rf _
          · rename_i z; exact h2 _ _ z
        · exact g2 a (List.mem_cons_of_mem _ ha)
def yJ (n : Int) (ns : List Int) : Int := n4 (fun b a => decide (b < a)) n ns
def uR (n : Int) (ns : List Int) : Int := n4 (fun b a => decide (a < b)) n ns
theorem wl (n : Int) (ns : List Int) : yJ n ns ∈ n :: ns /\ ∀ a ∈ n :: ns, yJ n ns <= a :=
  kP (le := (· <= ·)) (fun a b h => by simp at h; omega) (fun a b h => by simp at h; omega) (fun a b c => Int.le_trans) Int.le_refl ns n
theorem p9 (n : Int) (ns : List Int) : uR n ns ∈ n :: ns /\ ∀ a ∈ n :: ns, a <= uR n ns :=
  kP (le := fun a b => b <= a) (fun a b h => by simp at h; omega) (fun a b h => by simp at h; omega) (fun a b c h1 h2 => Int.le_trans h2 h1) Int.le_refl ns n
section
variable {X : Cx} {a b c : Expr} {fa fb fc : Fe} {pos p2 : Pos} {nl : Nat} {G : List Str} {x : Str} {p : Pos}
theorem kQ : ∀ {its : List Value} {ns : List Int}, IntsAre its ns -> ∃ ys : List (Int × Tok), its = ys.map (fun p => Value.int p.1 p.2) /\ ys.map (·.1) = ns
  | _, _, .nil => ⟨[], rfl, rfl⟩
  | _, _, .cons n t h => by
    obtain ⟨ys, e1, e2⟩ := kQ h;exact ⟨(n, t) :: ys, by rw [List.map_cons, e1], by rw [List.map_cons, e2]⟩
theorem CQ (hc : X.calm = true) : dN X (.builtin "min") (fun xs H Q => ∃ p n ns, xs = [.ref p] /\ ni X.K H p ((n :: ns).map V.int) /\ Q (.int (yJ n ns)) H) := by
  intro pins s σ H xs us Q I r h;obtain ⟨p, n, ns, rfl, hq, q⟩ := h;obtain ⟨u, rfl, rx⟩ := gx r;cases rx;obtain ⟨its, rv, pl, hz⟩ := I.list hq;obtain ⟨ys, e1, e2⟩ := kQ (iQ rv);have hl : s.heap.IsList p (intItems ys.toArray) := by
    have : intItems ys.toArray = its.toArray := by rw [e1]; simp [intItems]
    rw [this]; exact pl.isList
  have hlen : ys.length = ns.length + 1 := by have := congrArg List.length e2; simpa using this
  refine min_intList (I.ok.hd hc) hl (by simp; omega) fun v h' tk hv hk => ?_
  obtain ⟨t, rfl⟩ := intItems_at hv;obtain ⟨g1, g2⟩ := argBest_lt (numAt ys.toArray) (ys.toArray.size - 1);generalize argBest (fun i j => decide (numAt ys.toArray i < numAt ys.toArray j)) (ys.toArray.size - 1) = w at g1 g2 hv ⊢;have el : ys.toArray.toList.map (·.1) = n :: ns := e2;have m1 : numAt ys.toArray w ∈ n :: ns := by
    rw [numAt_eq, el];refine getD_mem ?_;simp at g1 ⊢;omega
  obtain ⟨k1, k2⟩ := wl n ns;have e3 : numAt ys.toArray w = yJ n ns := by
    refine Int.le_antisymm ?_ (k2 _ m1);obtain ⟨j, hj, e⟩ := mem_getD k1;have := g2 j (by simp at hj ⊢; omega);rw [numAt_eq ys.toArray j, el, e] at this;exact this
  rw [e3];exact ⟨.int _, H, I.kept hk, ⟨_, rfl⟩, q⟩
theorem wM (hc : X.calm = true) : dN X (.builtin "max") (fun xs H Q => ∃ p n ns, xs = [.ref p] /\ ni X.K H p ((n :: ns).map V.int) /\ Q (.int (uR n ns)) H) := by
  intro pins s σ H xs us Q I r h;obtain ⟨p, n, ns, rfl, hq, q⟩ := h;obtain ⟨u, rfl, rx⟩ := gx r;cases rx;obtain ⟨its, rv, pl, hz⟩ := I.list hq;obtain ⟨ys, e1, e2⟩ := kQ (iQ rv);have hl : s.heap.IsList p (intItems ys.toArray) := by
    have : intItems ys.toArray = its.toArray := by rw [e1]; simp [intItems]
    rw [this]; exact pl.isList
  have hlen : ys.length = ns.length + 1 := by have := congrArg List.length e2; simpa using this
  refine max_intList (I.ok.hd hc) hl (by simp; omega) fun v h' tk hv hk => ?_
  obtain ⟨t, rfl⟩ := intItems_at hv;obtain ⟨g1, g2⟩ := argBest_gt (numAt ys.toArray) (ys.toArray.size - 1);generalize argBest (fun i j => decide (numAt ys.toArray i > numAt ys.toArray j)) (ys.toArray.size - 1) = w at g1 g2 hv ⊢;have el : ys.toArray.toList.map (·.1) = n :: ns := e2;have m1 : numAt ys.toArray w ∈ n :: ns := by
    rw [numAt_eq, el];refine getD_mem ?_;simp at g1 ⊢;omega
  obtain ⟨k1, k2⟩ := p9 n ns;have e3 : numAt ys.toArray w = uR n ns := by
    refine Int.le_antisymm (k2 _ m1) ?_;obtain ⟨j, hj, e⟩ := mem_getD k1;have := g2 j (by simp at hj ⊢; omega);rw [numAt_eq ys.toArray j, el, e] at this;exact this
  rw [e3];exact ⟨.int _, H, I.kept hk, ⟨_, rfl⟩, q⟩
def Fw : PyData -> R PyData
  | .list ds => match cY ds with
    | some (n :: ns) => .ok (.int (yJ n ns))
    | _ => .no
  | _ => .no
def nL : PyData -> R PyData
  | .list ds => match cY ds with
    | some (n :: ns) => .ok (.int (uR n ns))
    | _ => .no
  | _ => .no
theorem nC (T : Tb X nl G) (j : Nat) (hG : G[j]? = some ("max" : Str)) (hm : X.mg "max" = none) (ha : bK X a fa) (he : av a = true := by rfl) : ai X (.Call (.Name "max" p) [a] [] pos) (e1 nL fa) := by
  refine zT T j hG hm fR PyProof.Rows.boot_max (wM T.calm) (fun H x d Q hx q => ?_) ha he;cases d with
  | list ds =>
    simp only [nL] at q;split at q
    · rename_i n ns ei;rw [fy ei] at hx;obtain ⟨a', vs, rfl, h, r⟩ := dJ (K := X.K) hx;rw [kY r] at h;exact ⟨a', n, ns, rfl, h, q _ H (aE.refl _) cX⟩
    · exact q.elim
  | _ => exact q.elim
theorem Z.nC (T : Tb X nl G) (j : Nat) (hG : G[j]? = some ("max" : Str)) (hm : X.mg "max" = none) (ha : Z.bK X a fa) (he : av a = true := by rfl) : Z.ai X (.Call (.Name "max" p) [a] [] pos) (e1 nL fa) :=
  ⟨D2.nC T j hG hm ha.un he⟩
end
section
variable {prog : Program} {w : World} {A : Around} {E : Value -> Shared -> Prop} {s : Shared}
theorem pF {R : List Value -> Shared -> Prop} {r : Addr} {a b c : Int} {t u v : Tok} {n : Nat} (hh : A.handled = none) (hr : IsRange s.heap r a b c t u v) (hsmall : Builtin.Range.small a b c = true)
    (hn : Builtin.Range.rangeSize a b c = n) (hlen : n <= 2 ^ 24)
    (h : ∀ (h' : Heap) (tk : Nat) (acc : Array Value), (∀ b o, s.heap.get? b = some o -> h'.get? b = some o) -> ItemsOf (fun i v => ∃ t, v = .int (a + i * c) t) acc n -> R acc.toList { s with heap := h', toks := tk }) :
    wpAny (model prog w) A (collect (.ref r)) R E s := by
  unfold collect;refine wpAny_bind (wpAny_runValue (codeAny_builtin F.entry_proto_collect ?_));rw [Around.under_plainId PySem.F.plain_proto_collect _];show wpAny _ A.in1 (newList [] >>= fun l => again (.builtin "list.__iadd__" ⟨[l, .ref r], []⟩)) _ _ s;refine wpAny_bind (wpAny_newObj_type ?_);refine wpAny_pure ⟨plainId_quiet PySem.F.plain_list_iadd _, codeAny_builtin F.entry_list_iadd ?_⟩;rw [Around.under_plainId PySem.F.plain_list_iadd _];have hS₁ : (s.heap.push { cls := .type "list", data := .seq ([] : List Value).toArray }).get? s.heap.objs.size = some { cls := .type "list", data := .seq #[] } := Heap.get?_push_size _ rfl;show wpAny _ A.in1 (Builtin.List.listExtendWith (.ref s.heap.objs.size) (.ref r) (.ref s.heap.objs.size)) _ _ _;have key := wpAny_extend_range (prog := prog) (w := w) (A := A) (s := { s with heap := s.heap.push { cls := .type "list", data := .seq ([] : List Value).toArray } })
    (R := fun (q : Result) (s' : Shared) => ∃ (h' : Heap) (tk : Nat) (acc' : Array Value) (c' : Nat), q = .ok (.ret (.ref s.heap.objs.size)) /\ s' = { s with heap := h', toks := tk } /\
      (∀ b o, s.heap.get? b = some o -> h'.get? b = some o) /\ h'.get? s.heap.objs.size = some { cls := .type "list", dict := none, data := .seq acc' c', slots := #[] } /\ ItemsOf (fun i v => ∃ t, v = .int (a + i * c) t) acc' n)
    hh (Heap.get?_push_of_some _ hr) hsmall hn hlen s.heap.objs.size (.ref s.heap.objs.size) 0 hS₁
    (fun h' tk acc' c' hk hS' hacc => ⟨h', tk, acc', c', rfl, rfl, fun b o e => hk b o (Nat.ne_of_lt (Heap.lt_size e)) (Heap.get?_push_of_some _ e), hS', hacc⟩)
  refine wpAny_mono key (fun fin s' x => ?_) fun e s' x => ?_
  · cases fin with
    | done f =>
      obtain ⟨h', tk, acc', c', e, rfl, hk, hS', hacc⟩ := x;cases e;show wpAny _ A (load s.heap.objs.size >>= _) _ _ _;refine wpAny_bind (wpAny_load hS' ?_);exact wpAny_pure (h h' tk acc' hk hacc)
    | again c' =>
      obtain ⟨hq, hc⟩ := x;refine ⟨hq, codeAny_mono hc fun q s' ⟨h', tk, acc', c', e, e2, hk, hS', hacc⟩ => ?_⟩;subst e e2;show wpAny _ A (load s.heap.objs.size >>= _) _ _ _;refine wpAny_bind (wpAny_load hS' ?_);exact wpAny_pure (h h' tk acc' hk hacc)
  · obtain ⟨h', tk, acc', c', e, _⟩ := x;cases e
theorem nv (r : Addr) (a b c : Int) (t u v : Tok) (n : Nat) (hsmall : Builtin.Range.small a b c = true) (hn : Builtin.Range.rangeSize a b c = n) (hlen : n <= 2 ^ 24) : Meets (Builtin.«tuple.__new__» ⟨[.type "tuple", .ref r], []⟩)
      (fun A R s => A.handled = none /\ IsRange s.heap r a b c t u v /\ ∀ (h' : Heap) (tk : Nat) (acc : Array Value), (∀ b o, s.heap.get? b = some o -> h'.get? b = some o) -> ItemsOf (fun i v => ∃ t, v = .int (a + i * c) t) acc n ->
        R (.ok (.ret (.ref h'.objs.size))) { s with heap := h'.push { cls := .type "tuple", data := .seq acc }, toks := tk }) :=
  .of_wp fun prog w A R s h => by
    obtain ⟨hh, hr, h⟩ := h;have hsub := sub_tuple_self;have hinit := init_tuple_lookup;have hmh := madeHere_tuple;have hT : s.TypeIs (.ref r) "range" := ⟨_, hr, rfl⟩
    have hh1 : A.in1.handled = none := hh
    wp_walk using wpAny_typeOf hT, pF hh1 hr hsmall hn hlen
    intro h' tk acc hk hacc;show wpAny _ _ (Builtin.Tuple.tupleExact acc.toList.toArray >>= fun v => ret v) _ _ _;unfold Builtin.Tuple.tupleExact;refine wpAny_bind (wpAny_newObj_type ?_ (show acc.toList.toArray.size <= sizeLine by simp only [Array.toArray_toList]; rw [hacc.1, sizeLine_eq]; omega));refine wpAny_pure ⟨_, rfl, ?_⟩;have e : acc.toList.toArray = acc := by simp
    rw [e];exact h h' tk acc hk hacc
theorem lQ {Q : Value -> Shared -> Prop} {r : Addr} {a b c : Int} {t u v : Tok} {n : Nat} (hh : A.handled = none) (hr : IsRange s.heap r a b c t u v) (hsmall : Builtin.Range.small a b c = true) (hn : Builtin.Range.rangeSize a b c = n) (hlen : n <= 2 ^ 24)
    (h : ∀ (h' : Heap) (tk : Nat) (acc : Array Value), (∀ b o, s.heap.get? b = some o -> h'.get? b = some o) -> ItemsOf (fun i v => ∃ t, v = .int (a + i * c) t) acc n -> Q (.ref h'.objs.size) { s with heap := h'.push { cls := .type "tuple", data := .seq acc }, toks := tk }) :
    wpAny (model prog w) A (call (.type "tuple") [.ref r]) Q E s := by
  refine callType_new F.called_tuple (by decide) (F.typeCall_tuple_1 _) (F.newCall_tuple_1 _) (fun obj => F.args_object_init_2 obj _) F.entry_tuple_new
    (nv r a b c t u v n hsmall hn hlen) ⟨hh, hr, fun h' tk acc hk hacc => ⟨⟨_, Heap.get?_push_size _ rfl, rfl⟩, h h' tk acc hk hacc⟩⟩
end
section
variable {X : Cx} {a b c : Expr} {fa fb fc : Fe} {pos p2 : Pos} {nl : Nat} {G : List Str} {x : Str} {p : Pos} {fs : aN -> R (List PyData)} {pos2 : Pos}
def jD (lo : Int) (n : Nat) : List V := (List.range n).map fun (k : Nat) => .int (lo + k)
theorem wu {H : Hp} (lo : Int) (n : Nat) : bu H (bG lo n) (jD lo n) := by
  have key : ∀ l : List Nat, bu H (l.map fun (k : Nat) => PyData.int (lo + k)) (l.map fun (k : Nat) => V.int (lo + k)) := by
    intro l;induction l with
    | nil => exact bu.nil
    | cons k l ih => exact bu.cons cX ih
  exact key _
theorem uB {lo : Int} {n : Nat} {acc : Array Value} (h : ItemsOf (fun i v => ∃ t, v = .int (lo + (i : Int) * 1) t) acc n) : br (jD lo n) acc.toList := by
  refine vD (by rw [Array.length_toList, h.1]; simp [jD]) fun j v hj => ?_
  obtain ⟨t, e⟩ := h.2 j v (by rw [<- Array.getElem?_toList]; exact hj);have hjn : j < n := by
    have := (List.getElem?_eq_some_iff.mp hj).1;rw [Array.length_toList, h.1] at this;exact this
  refine ⟨.int (lo + j), ?_, t, by rw [e]; simp⟩;unfold jD;rw [List.getElem?_map, List.getElem?_range hjn];rfl
theorem uU (lo : Int) (n : Nat) : (jD lo n).length = n := by simp [jD]
def EC (mk : List V -> HO) (ta : TA) : TE := fun σ H Q => ta σ H fun vs H1 => ∃ j : Int, vs = [.int j] /\ j <= 16777216 /\ -(2 ^ 62) <= j /\ ∀ l, H1 l = none -> Q (.ref l) (cm H1 l (mk (jD 0 j.toNat)))
theorem zr {ta : TA} (T : Tb X nl G) (i : Nat) (hGi : G[i]? = some ("tuple" : Str)) (hmi : X.mg "tuple" = none) (j : Nat) (hG : G[j]? = some ("range" : Str)) (hm : X.mg "range" = none) (ha : PA X [a] ta) (hs : av a = true := by rfl) :
    PE X (.Call (.Name "tuple" p) [.Call (.Name "range" p2) [a] [] pos2] [] pos) (EC .tup ta) := by
  intro pins s σ H Q I h;have g1 := T.gl _ (List.mem_of_getElem? hGi);have g2 := T.gl _ (List.mem_of_getElem? hG);have sc : starEach [Expr.Call (.Name "range" p2) [a] [] pos2] X.env = (false, eval (Expr.Call (.Name "range" p2) [a] [] pos2) X.env) :: starEach [] X.env := bh (by rfl);refine Call_ (iL I g1.1 hmi PyProof.Rows.boot_tuple (PyProof.Rows.callWith_type1 ?_ sc rfl));rw [sc];refine Calls.spliced_cons ?_;refine Call_ (iL I g2.1 hm boot_range (PyProof.Rows.callWith_type1 (cQ (ha pos2 pins s σ H _ I h) fun us s1 ⟨vs, H1, I1, r1, q1⟩ => ?_) (bh hs) rfl));obtain ⟨n, e, h1, h2, q⟩ := q1;subst e;obtain ⟨u, rfl, t, rfl⟩ := gx r1;refine call_range_1 (Calls.spliced_nil ?_);have hsz : Builtin.Range.rangeSize 0 n 1 = n.toNat := by rw [rangeSize_one]; split <;> omega
  refine lQ (n := n.toNat) (I1.ok.hd T.calm) (IsRange.new ..) (small_one (by omega) (by omega) (by omega) (by omega)) hsz (by omega) fun h' tk acc kp hacc => ?_
  have kp' : ∀ b o, s1.heap.get? b = some o -> h'.get? b = some o := fun b o e => kp b o (Heap.get?_push_of_some _ e)
  have hg : s1.heap.get? h'.objs.size = none := by
    cases e : s1.heap.get? h'.objs.size with
    | none => rfl
    | some o => exact absurd (Heap.lt_size (kp' _ _ e)) (Nat.lt_irrefl _)
  have hn := sd I1 hg;refine ⟨.ref h'.objs.size, _, r9 (s := s1) (t' := tk) (o := .tup (jD 0 n.toNat)) I1 (fun b o e => Heap.get?_push_of_some _ (kp' b o e)) hg hn ⟨by rw [uU, sizeLine_eq]; omega, acc.toList, uB hacc, _, Heap.get?_push_size _ rfl, rfl, _, by simp; rfl⟩, rfl, q _ hn⟩
def CS (mk : List PyData -> PyData) : List PyData -> R PyData
  | [.int j] => if j <= 16777216 /\ -(2 ^ 62) <= j then .ok (mk (bG 0 j.toNat)) else .no
  | _ => .no
def vg (fs : aN -> R (List PyData)) : Fe := fun ρ => fs ρ >>= CS .tuple
theorem qW (T : Tb X nl G) (i : Nat) (hGi : G[i]? = some ("tuple" : Str)) (hmi : X.mg "tuple" = none) (j : Nat) (hG : G[j]? = some ("range" : Str)) (hm : X.mg "range" = none) (ha : pk X [a] fs) (hs : av a = true := by rfl) :
    ai X (.Call (.Name "tuple" p) [.Call (.Name "range" p2) [a] [] pos2] [] pos) (vg fs) :=
  PE.imp (zr T i hGi hmi j hG hm ha hs) fun σ H Q h => (ml (I := Rp) (f := fs) (k := fun _ => CS .tuple) (eX (X := X) fR Q) h).post fun vs H1 ⟨_, ds, _, _, p1, q1⟩ => by
    unfold CS at q1;split at q1
    · rename_i n;split at q1
      · rename_i hz;simp only [RA] at p1;obtain ⟨v, r', rfl, p, rfl⟩ := p1;have ev : v = .int n := by simpa only [Rp] using p
        subst ev;exact ⟨n, rfl, hz.1, hz.2, fun l hl => q1 _ _ (cb hl _) (df hl (wu 0 n.toNat))⟩
      · exact q1.elim
    · exact q1.elim
theorem Z.qW (T : Tb X nl G) (i : Nat) (hGi : G[i]? = some ("tuple" : Str)) (hmi : X.mg "tuple" = none) (j : Nat) (hG : G[j]? = some ("range" : Str)) (hm : X.mg "range" = none) (ha : Z.pk X [a] fs) (hs : av a = true := by rfl) : Z.ai X (.Call (.Name "tuple" p) [.Call (.Name "range" p2) [a] [] pos2] [] pos) (vg fs) :=
  ⟨D2.qW T i hGi hmi j hG hm ha.un hs⟩
end
def uQ (b : PyData -> aN -> Option aN) (f : Fe) : Fs := fun ρ => f ρ >>= fun d => match b d ρ with
  | some ρ' => .ok (.nx ρ')
  | none => .no
section
variable {X : Cx} {tg e : Expr} {f : Fe} {b : PyData -> aN -> Option aN} {pos : Pos}
theorem qA (he : ai X e f) (hg : pf X tg b) (hs : swapsWithSole [tg] e pos.line X.env = pure false := by rfl) (hw : swappedStores [tg] e X.env = pure none := by rfl) (h1 : (assignEach [tg] X.env).map (·.2) = [assign tg X.env] := by rfl) :
    fA X (.Assign [tg] e pos) (uQ b f) := fun Fm => by
  refine PS.imp (x5 he hg hs hw h1) fun D σ H h => ?_
  refine (mf (P := gQ) (f := f) (k := fun ρ d => match b d ρ with | some ρ' => .ok (.nx ρ') | none => .no) h).post fun v H1 ⟨ρ, d, sl, _, p, q⟩ => ?_
  refine ⟨ρ, d, sl.sl, p, ?_⟩;cases eb : b d ρ with
  | none => rw [eb] at q; exact q
  | some ρ3 =>
    rw [eb] at q;intro σ4 sl4 hown;refine q σ4 H1 ⟨sl.fm, sl4, fun j e a h1 h2 => ?_, fun j k e f a h1 h2 h3 h4 => ?_⟩
    · obtain ⟨z1, z2⟩ := hown j e h1;exact sl.own j e a z1 (by rw [<- z2]; exact h2)
    · obtain ⟨z1, z2⟩ := hown j e h1;obtain ⟨z3, z4⟩ := hown k f h2;exact sl.apart j k e f a z1 z3 (by rw [<- z2]; exact h3) (by rw [<- z4]; exact h4)
theorem Z.qA (he : Z.ai X e f) (hg : Z.pf X tg b) (hs : swapsWithSole [tg] e pos.line X.env = pure false := by rfl) (hw : swappedStores [tg] e X.env = pure none := by rfl) (h1 : (assignEach [tg] X.env).map (·.2) = [assign tg X.env] := by rfl) : Z.fA X (.Assign [tg] e pos) (uQ b f) :=
  ⟨D2.qA he.un hg.un hs hw h1⟩
end
section
variable {X : Cx} {a b : Expr} {fa fb : Fe} {pos p2 : Pos}
def Fh : PyData -> PyData -> R PyData
  | .list xs, .int k => if -(2 ^ 63) <= k /\ k < 2 ^ 63 /\ xs.length * k.toNat <= sizeLine then .ok (.list (List.replicate k.toNat xs).flatten) else .no
  | _, _ => .no
end
theorem bu.set {H : Hp} {d : PyData} {v : V} (p : Rp H d v) : ∀ {ds : List PyData} {vs : List V} (j : Nat), bu H ds vs -> bu H (ds.set j d) (vs.set j v)
  | [], vs, j, r => by rw [r.nil_inv]; exact bu.nil
  | d' :: ds, vs, j, r => by
    obtain ⟨v', r', rfl, p', t⟩ := r.cons_inv;cases j with
    | zero => exact bu.cons p t
    | succ j => exact bu.cons p' (bu.set p j t)
def gS (i : Nat) (fk fv : Fe) : Fs := fun ρ => fv ρ >>= fun v => mK (fk ρ) >>= fun k => match ρ[i]?, k with
  | some (.own (.list ds)), .int n => match ve ds.length n with
    | some j => .ok (.nx (ρ.set i (.own (.list (ds.set j v)))))
    | none => .no
  | _, _ => .no
section
variable {X : Cx} {nl : Nat} {G : List Str} {x : Str} {f : Fe} {e : Expr}
theorem jP {k v : Expr} {fk fv : Fe} {q1 q2 q3 : Pos} (T : Tb X nl G) (n : Nat) (hN : X.N[n]? = some x) (hk : ai X.nox k fk) (hv : ai X v fv) (hs : swapsWithSole [.Subscript (.Name x q1) k q2] v q3.line X.env = pure false := by rfl) (hw : swappedStores [.Subscript (.Name x q1) k q2] v X.env = pure none := by rfl)
    (h1 : (assignEach [.Subscript (.Name x q1) k q2] X.env).map (·.2) = [assign (.Subscript (.Name x q1) k q2) X.env] := by rfl)
    (ha : ∀ v, assign (.Subscript (.Name x q1) k q2) X.env v = (do
      let ov <- holding [v] (eval (.Name x q1) X.env)
      let iv <- holding [v, ov] (eval k X.env)
      standAt q2
      holding [v, ov, iv] (setItem ov iv v)
      release [v, ov, iv] []) := by intro _; rfl) :
    fA X (.Assign [.Subscript (.Name x q1) k q2] v q3) (gS n fk fv) := fun Fm => by
  have hm := T.vis x (List.mem_of_getElem? hN);have hkX : PE X k (fun σ H Q => ki X.nox gQ fk σ H Q) := fun pins s σ H Q I h => wpAny_mono (hk pins s σ H Q (I.wish _) h) (fun v s' ⟨y, H', I', r, q⟩ => ⟨y, H', I'.unwish, r, q⟩) fun _ _ z => False.elim z
  refine PS.imp (x5 hv (Co (mt hN hm.1 hm.2.1 hm.2.2) hkX xr ha) hs hw h1) fun D σ H h => ?_
  refine (mf (P := gQ) (f := fv) (k := fun ρ v => mK (fk ρ) >>= fun k => match ρ[n]?, k with
    | some (.own (.list ds)), .int m => match ve ds.length m with
      | some j => .ok (.nx (ρ.set n (.own (.list (ds.set j v)))))
      | none => .no
    | _, _ => .no) h).post fun vv H1 ⟨ρ1, dv, sl1, _, p1, q1⟩ => ?_
  cases ef : fk ρ1 with
  | ex c => rw [ef] at q1; exact q1.elim
  | no => rw [ef] at q1; exact q1.elim
  | ok kd =>
    rw [ef] at q1;simp only [mK, R.ok_bind] at q1;cases er : ρ1[n]? with
    | none => rw [er] at q1; exact q1.elim
    | some c =>
      rw [er] at q1;cases c with
      | non => exact q1.elim
      | exc p => exact q1.elim
      | val d' => exact q1.elim
      | own d' =>
        cases d' with
        | list ds =>
          cases kd with
          | int m =>
            dsimp only at q1;cases ei : ve ds.length m with
            | none => rw [ei] at q1; exact q1.elim
            | some j =>
              rw [ei] at q1;obtain ⟨o, h2, w', rfl, p2⟩ := sl1.sl.at er;simp only [ja] at p2;obtain ⟨a', vs, rfl, ha', r⟩ := p2;refine ⟨.ref a', h2, ρ1, sl1.sl, ?_⟩;rw [ef];intro yv H3 s3 p3;have ev : yv = .int m := by simpa only [Rp] using p3
              have ha3 := s3 _ _ ha';have r3 := r.mono s3;refine ⟨a', vs, m, j, rfl, ev, ha3, by rw [r.length]; exact ei, q1 _ _ ((sl1.mono s3).change er h2 ha3 (.inl ⟨_, rfl⟩) ?_)⟩;simp only [ja];exact ⟨a', _, rfl, bd, bu.kp (gG ha3 (.inl ⟨_, rfl⟩)) _ _ (bu.set (p1.mono s3) j r3)⟩
          | _ => exact q1.elim
        | _ => exact q1.elim
theorem Z.jP {k v : Expr} {fk fv : Fe} {q1 q2 q3 : Pos} (T : Tb X nl G) (n : Nat) (hN : X.N[n]? = some x) (hk : Z.ai X.nox k fk) (hv : Z.ai X v fv) (hs : swapsWithSole [.Subscript (.Name x q1) k q2] v q3.line X.env = pure false := by rfl) (hw : swappedStores [.Subscript (.Name x q1) k q2] v X.env = pure none := by rfl) (h1 : (assignEach [.Subscript (.Name x q1) k q2] X.env).map (·.2) = [assign (.Subscript (.Name x q1) k q2) X.env] := by rfl) (ha : ∀ v, assign (.Subscript (.Name x q1) k q2) X.env v = (do
      let ov <- holding [v] (eval (.Name x q1) X.env)
      let iv <- holding [v, ov] (eval k X.env)
      standAt q2
      holding [v, ov, iv] (setItem ov iv v)
      release [v, ov, iv] []) := by intro _; rfl) : Z.fA X (.Assign [.Subscript (.Name x q1) k q2] v q3) (gS n fk fv) :=
  ⟨D2.jP T n hN hk.un hv.un hs hw h1 ha⟩
def Ep (g : Int -> Int -> Int) : PyData -> PyData -> R PyData
  | .int i, .int j => .ok (.int (g i j))
  | _, _ => .no
def uO (i : Nat) (g : Int -> Int -> Int) (f : Fe) : Fs := fun ρ => ad i ρ >>= fun x => f ρ >>= fun y => Ep g x y >>= fun z => .ok (.nx (ρ.set i (.val z)))
theorem Af {op : Operator} {g : Int -> Int -> Int} {pos pos' : Pos} (ho : EJ X op (Fj g)) (T : Tb X nl G) (i : Nat) (hN : (X.N.take nl)[i]? = some x) (he : ai X e f) : fA X (.AugAssign (.Name x pos') op e pos) (uO i g f) := fun Fm => by
  obtain ⟨n1, n2, n3⟩ := T.nm hN;refine PS.imp (BN T.nd n1 n2 he ho n3) fun D σ H h => ?_
  obtain ⟨ρ, sl, q⟩ := h;unfold uO at q;cases ev : ad i ρ with
  | ex c => exact absurd ev (by unfold ad; split <;> simp)
  | no => rw [ev] at q; exact q.elim
  | ok dx =>
    rw [ev] at q;simp only [R.ok_bind] at q;have hc : ρ[i]? = some (.val dx) := by
      unfold ad at ev;split at ev
      · rename_i d hd; cases ev; exact hd
      · cases ev
    obtain ⟨o, h2, w', rfl, p2⟩ := sl.sl.at hc;refine ⟨w', h2, ?_⟩;refine (mf (P := gQ) (f := f) (k := fun ρ y => Ep g dx y >>= fun z => .ok (.nx (ρ.set i (.val z)))) ⟨ρ, sl, q⟩).post fun v H1 ⟨ρ1, d, sl1, s1, p, q1⟩ => ?_
    cases dx with
    | int a =>
      cases d with
      | int b =>
        have e1 : w' = .int a := by simpa only [Rp] using p2
        have e2 : v = .int b := by simpa only [Rp] using p
        subst e1;subst e2;exact ⟨a, b, rfl, rfl, q1 _ H1 (sl1.set i (fun e z => by cases z) ⟨.int (g a b), rfl, cX⟩)⟩
      | _ => exact q1.elim
    | _ => exact q1.elim
theorem qL {pos pos' : Pos} (T : Tb X nl G) (i : Nat) (hN : (X.N.take nl)[i]? = some x) (he : ai X e f) : fA X (.AugAssign (.Name x pos') .Add e pos) (uO i (fun a b => a + b) f) := Af Cc T i hN he
theorem Z.qL {pos pos' : Pos} (T : Tb X nl G) (i : Nat) (hN : (X.N.take nl)[i]? = some x) (he : Z.ai X e f) : Z.fA X (.AugAssign (.Name x pos') .Add e pos) (uO i (fun a b => a + b) f) :=
  ⟨D2.qL T i hN he.un⟩
end
section
variable {X : Cx} {a b : Expr} {fa fb : Fe} {pos p : Pos} {nl : Nat} {G : List Str}
def Fq : PyData -> PyData -> R PyData
  | .str z, .int k => if k = 0 \/ k = 1 then .ok (.str (if k = 1 then z else Str.empty)) else .no
  | _, _ => .no
end
section
variable {X : Cx} {o e : Expr} {fo fe : Fe} {apos cpos : Pos}
theorem xG : Fv X "list.index" (fun x xs H Q => ∃ (l : Addr) (ns : List Int) (k : Int), x = .ref l /\ xs = [.int k] /\ ni X.K H l (ns.map V.int) /\ PyData.layable0 (.list (ns.map .int)) = true /\ k ∈ ns /\ Q (.int (ns.idxOf k : Nat)) H) := by
  intro pins s σ H x xs v us Q I rx rs h;obtain ⟨l, ns, k, rfl, rfl, hq, hlay, hk, q⟩ := h;cases rx;obtain ⟨u, rfl, t, rfl⟩ := gx rs;obtain ⟨its, rv, pl, hz⟩ := I.list hq;exact index_list_ints pl.isList (iQ rv) hlay hk ⟨.int _, H, I.tok _, ⟨_, rfl⟩, q⟩
def BC : PyData -> R Unit
  | .list _ => .ok ()
  | _ => .no
def jy : PyData -> PyData -> R PyData
  | .list ds, .int k => match cY ds with
    | some ns => if PyData.layable0 (.list ds) = true /\ k ∈ ns then .ok (.int (ns.idxOf k : Nat)) else .no
    | none => .no
  | _, _ => .no
def rd (fo fe : Fe) : Fe := fun ρ => fo ρ >>= fun x => BC x >>= fun _ => fe ρ >>= fun y => jy x y
theorem oP (ho : bK X o fo) (he : ai X e fe) (hb : attributeBase o "index" X.env (eval o X.env) = eval o X.env := by rfl) (hst : av e = true := by rfl) (hline : (apos.endLine == cpos.line) = true := by rfl) :
    ai X (.Call (.Attribute o "index" apos) [e] [] cpos) (rd fo fe) := by
  have sc : starEach [e] X.env = (false, eval e X.env) :: starEach [] X.env := bh hst;refine PE.imp (Bm PySem.F.plainAttrs_list PySem.F.slot_list_index PySem.F.type_list_index xG ho (ag he ay hst) hb (by rw [sc]; rfl) hline sc rfl) fun σ H Q h => ?_
  refine (eT (P := vU) (f := fo) (k := fun ρ x => BC x >>= fun _ => fe ρ >>= fun y => jy x y) (eX (X := X) fR Q) h).post fun v H1 ⟨ρ1, d1, sl1, _, p1, q1⟩ => ?_
  cases d1 with
  | list ds =>
    obtain ⟨a, vs, rfl, h1, r1⟩ := dJ (K := X.K) p1;refine ⟨.inl ⟨rfl, _, h1⟩, ?_⟩;have q1 : tP X gQ (af fe aI ρ1 >>= one (jy (.list ds))) H1 Q := by
      have e0 : (af fe aI ρ1 >>= one (jy (.list ds))) = (fe ρ1 >>= fun y => jy (.list ds) y) := by
        unfold af aI;cases fe ρ1 <;> rfl
      rw [e0]; exact q1
    refine (ml (I := Rp) (f := af fe aI) (k := fun _ => one (jy (.list ds))) (eX (X := X) fR Q) ⟨ρ1, sl1, q1⟩).post fun us H2 ⟨_, ds2, _, s2, p2, q2⟩ => ?_
    unfold one at q2;split at q2
    · rename_i d2;simp only [RA] at p2;obtain ⟨w, r', rfl, p2, rfl⟩ := p2;cases d2 with
      | int k =>
        have ew : w = .int k := by simpa only [Rp] using p2
        subst ew;simp only [jy] at q2;cases ei : cY ds with
        | none => rw [ei] at q2; exact q2.elim
        | some ns =>
          rw [ei] at q2;dsimp only at q2;split at q2
          · rename_i hz;have p3 := ig.mono p1 s2;rw [fy ei] at p3;obtain ⟨a', vs', ea, h3, r3⟩ := dJ (K := X.K) p3;cases ea;rw [kY r3] at h3;exact ⟨a, ns, k, rfl, rfl, h3, by rw [<- fy ei]; exact hz.1, hz.2, q2 _ H2 (aE.refl _) cX⟩
          · exact q2.elim
      | _ => exact q2.elim
    · exact q2.elim
  | _ => exact q1.elim
theorem Z.oP (ho : Z.bK X o fo) (he : Z.ai X e fe) (hb : attributeBase o "index" X.env (eval o X.env) = eval o X.env := by rfl) (hst : av e = true := by rfl) (hline : (apos.endLine == cpos.line) = true := by rfl) : Z.ai X (.Call (.Attribute o "index" apos) [e] [] cpos) (rd fo fe) :=
  ⟨D2.oP ho.un he.un hb hst hline⟩
end
def A8 : ba -> ba
  | .own _ => .non
  | c => c
def iG (i : Nat) (d : PyData) (ρ : aN) : aN := (ρ.map A8).set i (.val d)
def pX : PyData -> R PyData
  | .none => .ok .none
  | .bool b => .ok (.bool b)
  | .int k => .ok (.int k)
  | .str x => .ok (.str x)
  | _ => .no
def km (i : Nat) (f : Fe) : Fe := fun ρ => match ρ[i]? with
  | some (.own d) => mK (f (iG i d ρ)) >>= pX
  | _ => f ρ
section
variable {X : Cx} {pins : List (Addr × Obj)} {σ : St} {H H1 : Hp} {s s' : Shared} {a : Addr} {u : HO} {o : Obj}
theorem w8 (h : H a = some u) (S : aE (cm H a (.frz o u)) H1) : aE H (cm H1 a u) := fun b x e => by
  by_cases hb : b = a
  · subst hb; rw [bd]; rw [h] at e; exact e
  · rw [au hb]; exact S b x (by rw [au hb]; exact e)
theorem yR (I : aM X pins σ H s) (h : H a = some u) (hm : (∃ xs, u = .lst xs) \/ ∃ ks, u = .dK ks) (S : aE (cm H a (.frz o u)) H1) (J : aM X pins σ H1 s') : aM X pins σ (cm H1 a u) s' := by
  have ha : H1 a = some (.frz o u) := S a _ bd;have nt : ∀ b xs, H1 b = some (.tup xs) -> b ≠ a := fun b xs q z => by subst z; rw [ha] at q; cases q
  have nb : ∀ b ps, H1 b = some (.tbl ps) -> b ≠ a := fun b ps q z => by subst z; rw [ha] at q; cases q
  have nw : ∀ b y, H1 b = some (.own y) -> b ≠ a := fun b y q z => by subst z; rw [ha] at q; cases q
  have nn : ∀ b, H1 b = none -> b ≠ a := fun b q z => by subst z; rw [ha] at q; cases q
  have st : ∀ b x, bR X.prog X.w H1 s'.heap b x -> bR X.prog X.w (cm H1 a u) s'.heap b x := fun b x q =>
    q.stay (fun c v _ e => e) (fun c e => by rw [au (nw _ _ e)]; exact e) fun c xs e => by rw [au (nt _ _ e)]; exact e
  refine ⟨J.ok, J.os, J.bare, ⟨J.base.keep, J.base.slot, fun b ob' e n hx => ?_, J.base.there, fun b xs e => ?_, fun b ob' v e => ?_, fun b ps e => ?_⟩, J.loc, J.cell, ?_, fun x c e => ?_, fun p hp => ?_, fun b x e => ?_, J.len⟩
  · have := J.base.free b ob' e n hx;rw [au (nn _ this)]; exact this
  · have := J.base.tups b xs e;rw [au (nt _ _ this)]; exact this
  · have q := I.base.frzs b ob' v e;have hb : b ≠ a := fun z => by subst z; rw [h] at q; rcases hm with ⟨_, rfl⟩ | ⟨_, rfl⟩ <;> cases q
    rw [au hb]; exact J.base.frzs b ob' v e
  · obtain ⟨m, q⟩ := J.base.tbls b ps e;exact ⟨m, by rw [au (nb _ _ q)]; exact q⟩
  · rw [au (nn _ J.free)]; exact J.free
  · rw [au (nn _ (J.freeC x c e))]; exact J.freeC x c e
  · obtain ⟨p1, p2, p3⟩ := J.pin p hp;exact ⟨p1, by rw [au (nn _ p2)]; exact p2, p3⟩
  · by_cases hb : b = a
    · subst hb;rw [bd] at e; cases e;obtain ⟨_, q⟩ := (show bR X.prog X.w H1 s'.heap b (.frz o u) from J.hok b _ ha)
      exact st b u q
    · rw [au hb] at e;exact st b x (J.hok b x e)
theorem u5 {ρ : aN} {i : Nat} {d : PyData} {v : V} (sl : Sl H σ ρ) (k : Kp H H1) (hv : σ[i]? = some (some v)) (hr : Rp H1 d v) : Sl H1 σ (iG i d ρ) := by
  unfold iG;refine ⟨by rw [List.length_set, List.length_map]; exact sl.1, fun j c w' e1 e2 => ?_⟩;rw [List.getElem?_set] at e1;by_cases hij : i = j
  · subst hij;rw [if_pos rfl] at e1;split at e1
    · cases e1;rw [hv] at e2;cases e2;exact ⟨_, rfl, hr⟩
    · cases e1
  · rw [if_neg hij, List.getElem?_map] at e1;cases ec : ρ[j]? with
    | none => rw [ec] at e1; cases e1
    | some c' =>
      rw [ec] at e1;have e1' : A8 c' = c := Option.some.inj e1;subst e1';have q := sl.2 j c' w' ec e2;cases c' with
      | exc p => exact q
      | non => exact True.intro
      | val d' => obtain ⟨v, z1, z2⟩ := q; exact ⟨v, z1, Rp.kp k _ _ z2⟩
      | own d' => exact True.intro
end
theorem zE {H H' : Hp} {d d' : PyData} {v : V} (h : pX d = .ok d') (r : Rp H d v) : Rp H' d' v := by
  cases d <;> first | (cases h; simp only [Rp] at r ⊢; exact r) | cases h
theorem ai.lent {X : Cx} {e : Expr} {f : Fe} (i : Nat) (h : ai X e f) : ai X e (km i f) := by
  intro pins s σ H Q I q;obtain ⟨ρ, sl, q⟩ := q;by_cases ho : ∃ d, ρ[i]? = some (.own d)
  · obtain ⟨d, ho⟩ := ho;have el : km i f ρ = (mK (f (iG i d ρ)) >>= pX) := by unfold km; rw [ho]
    rw [el] at q;have go : ∀ (a : Addr) (u : HO) (hu : H a = some u) (hm : (∃ xs, u = .lst xs) \/ ∃ ks, u = .dK ks) (o : Obj) (J : aM X pins σ (cm H a (.frz o u)) s) (sl1 : Sl (cm H a (.frz o u)) σ (iG i d ρ)), wpAny (model X.prog X.w) X.A (eval e X.env) (EP X pins σ Q) X.xe s := fun a u hu hm o J sl1 => by
      cases ef : f (iG i d ρ) with
      | no => rw [ef] at q; exact q.elim
      | ex c => rw [ef] at q; exact q.elim
      | ok d1 =>
        rw [ef] at q;change tP X gQ (pX d1) H Q at q;cases ea : pX d1 with
        | no => rw [ea] at q; exact q.elim
        | ex c => rw [ea] at q; cases d1 <;> cases ea
        | ok d2 =>
          rw [ea] at q;refine cQ (h pins s σ (cm H a (.frz o u)) (fun v H' => aE (cm H a (.frz o u)) H' /\ Rp H' d1 v) J ⟨iG i d ρ, sl1, by rw [ef]; exact fun v H' hs p => ⟨hs, p⟩⟩) fun w s' ⟨v, H', J', r, hs, p⟩ => ?_
          exact ⟨v, cm H' a u, yR I hu hm hs J', r, q v _ (w8 hu hs) (zE ea p)⟩
    obtain ⟨w', h2, v, rfl, qo⟩ := sl.at ho;cases d <;> simp only [ja] at qo
    · rename_i ds;obtain ⟨a, vs, rfl, ha, r⟩ := qo;obtain ⟨o, J⟩ := gz I ha (.inl ⟨_, rfl⟩);have kp := gG (o' := .frz o (.lst vs)) ha (.inl ⟨_, rfl⟩);have hr : Rp (cm H a (.frz o (.lst vs))) (.list ds) (.ref a) := by
        simp only [Rp];exact ⟨a, o, vs, rfl, bd, bu.kp kp _ _ r⟩
      exact go a _ ha (.inl ⟨_, rfl⟩) o J (u5 sl kp h2 hr)
    · rename_i ds;obtain ⟨a, vs, rfl, ha, r⟩ := qo;obtain ⟨o, J⟩ := gz I ha (.inr ⟨_, rfl⟩);have kp := gG (o' := .frz o (.dK vs)) ha (.inr ⟨_, rfl⟩);have hr : Rp (cm H a (.frz o (.dK vs))) (.dict ds) (.ref a) := by
        simp only [Rp];exact .inl ⟨a, o, vs, rfl, bd, eh.kp kp _ _ r⟩
      exact go a _ ha (.inr ⟨_, rfl⟩) o J (u5 sl kp h2 hr)
  · have el : km i f ρ = f ρ := by
      unfold km;split
      · rename_i d e1; exact (ho ⟨d, e1⟩).elim
      · rfl
    rw [el] at q;exact h pins s σ H Q I ⟨ρ, sl, q⟩
theorem Z.ai.lent {X : Cx} {e : Expr} {f : Fe} (i : Nat) (h : Z.ai X e f) : Z.ai X e (km i f) :=
  ⟨D2.ai.lent i h.un⟩
def zo (C : Addr) (names : List Str) (ds : List PyData) : PyData := .dict ((.none, .int C) :: (names.zip ds).map fun p => (.str p.1, p.2))
def tD (f : Str) : List (PyData × PyData) -> R PyData
  | [] => .no
  | (.str x, d) :: r => if x = f then .ok d else tD f r
  | _ :: _ => .no
def kc (C : Addr) (f : Str) : PyData -> R PyData
  | .dict ((.none, .int c) :: kvs) => if c = (C : Int) then tD f kvs else .no
  | _ => .no
def re (C : Addr) (names : List Str) (fs : aN -> R (List PyData)) : Fe := fun ρ => fs ρ >>= fun ds => .ok (zo C names ds)
def DN (C : Addr) (names : List Str) : Sp := fun vs H Q _ => ∃ x dx ws, vs = .ref x :: ws /\ H x = some (.ins C dx []) /\ ws.length = names.length /\ ∀ H', H' x = some (.ins C dx (names.zip ws)) -> (∀ b, b ≠ x -> H' b = H b) -> Q .non H'
section
variable {X : Cx} {pins : List (Addr × Obj)} {σ : St} {H : Hp} {s : Shared} {a C dx : Addr} {fs : List (Str × V)}
theorem r8 (I : aM X pins σ H s) (h : H a = some (.ins C dx fs)) : ∃ o, aM X pins σ (cm H a (.frz o (.ins C dx fs))) s := by
  have ob := I.hok a _ h;obtain ⟨o, hg⟩ := qK ob;have nt : ∀ b xs, H b = some (.tup xs) -> b ≠ a := fun b xs q z => by subst z; rw [h] at q; cases q
  have nf : ∀ b o' u', H b = some (.frz o' u') -> b ≠ a := fun b o' u' q z => by subst z; rw [h] at q; cases q
  have nb : ∀ b ps, H b = some (.tbl ps) -> b ≠ a := fun b ps q z => by subst z; rw [h] at q; cases q
  have nw : ∀ b y, H b = some (.own y) -> b ≠ a := fun b y q z => by subst z; rw [h] at q; cases q
  have nn : ∀ b, H b = none -> b ≠ a := fun b q z => by subst z; rw [h] at q; cases q
  have st : ∀ b x, bR X.prog X.w H s.heap b x -> bR X.prog X.w (cm H a (.frz o (.ins C dx fs))) s.heap b x := fun b x q =>
    q.stay (fun c v _ e => e) (fun c e => by rw [au (nw _ _ e)]; exact e) fun c xs e => by rw [au (nt _ _ e)]; exact e
  refine ⟨o, ⟨I.ok, I.os, I.bare, ⟨I.base.keep, I.base.slot, fun b ob' e n hx => ?_, I.base.there, fun b xs e => ?_, fun b ob' v e => ?_, fun b ps e => ?_⟩, I.loc, I.cell, ?_, fun x c e => ?_, fun p hp => ?_, fun b x e => ?_, I.len⟩⟩
  · have := I.base.free b ob' e n hx;rw [au (nn _ this)]; exact this
  · have := I.base.tups b xs e;rw [au (nt _ _ this)]; exact this
  · have := I.base.frzs b ob' v e;rw [au (nf _ _ _ this)]; exact this
  · obtain ⟨m, q⟩ := I.base.tbls b ps e;exact ⟨m, by rw [au (nb _ _ q)]; exact q⟩
  · rw [au (nn _ I.free)]; exact I.free
  · rw [au (nn _ (I.freeC x c e))]; exact I.freeC x c e
  · obtain ⟨p1, p2, p3⟩ := I.pin p hp;exact ⟨p1, by rw [au (nn _ p2)]; exact p2, p3⟩
  · by_cases hb : b = a
    · subst hb;rw [bd] at e; cases e;exact ⟨hg, st b _ ob⟩
    · rw [au hb] at e;exact st b x (I.hok b x e)
theorem zJ {o' : HO} (h : H a = some (.ins C dx fs)) : Kp H (cm H a o') := by
  refine ⟨fun b xs e => ?_, fun b o v e => ?_⟩
  · rw [au]; exact e;rintro rfl; rw [h] at e; cases e
  · rw [au]; exact e;rintro rfl; rw [h] at e; cases e
end
theorem uV {H : Hp} : ∀ {names : List Str} {ds : List PyData} {vs : List V}, bu H ds vs -> sX H ((names.zip ds).map fun p => (.str p.1, p.2)) (names.zip vs)
  | [], ds, vs, _ => by simp only [List.zip_nil_left, List.map_nil, sX]
  | n :: names, [], vs, r => by
    simp only [bu] at r;subst r;simp only [List.zip_nil_right, List.map_nil, sX]
  | n :: names, d :: ds, vs, r => by
    simp only [bu] at r;obtain ⟨v, t, rfl, p, q⟩ := r;simp only [List.zip_cons_cons, List.map_cons, sX, Bn];exact ⟨n, v, _, rfl, ⟨rfl, p⟩, uV q⟩
theorem vH {H : Hp} {f : Str} {d : PyData} : ∀ {kvs : List (PyData × PyData)} {fs : List (Str × V)}, sX H kvs fs -> tD f kvs = .ok d -> ∃ v, fs.lookup f = some v /\ Rp H d v
  | [], fs, _, e => by cases e
  | (k, d') :: kvs, fs, r, e => by
    simp only [sX, Bn] at r;obtain ⟨x, v, t, rfl, ⟨rfl, p⟩, q⟩ := r;simp only [tD] at e;by_cases h : x = f
    · rw [if_pos h] at e;cases e;subst h;exact ⟨v, by rw [List.lookup_cons_self], p⟩
    · rw [if_neg h] at e;obtain ⟨w, w1, w2⟩ := vH q e;refine ⟨w, ?_, w2⟩;rw [List.lookup_cons];have : (f == x) = false := by
        cases z : f == x with
        | false => rfl
        | true => exact (h (eq_of_beq z).symm).elim
      rw [this];exact w1
theorem vj {f : Str} {c : Str} : ∀ {kvs : List (PyData × PyData)}, tD f kvs ≠ .ex c
  | [], e => by cases e
  | (k, d) :: kvs, e => by
    cases k <;> simp only [tD] at e <;> try cases e
    split at e
    · cases e
    · exact vj e
section
variable {X : Cx} {e : Expr} {es : List Expr} {fe : Fe} {pos p : Pos} {nl : Nat} {G : List Str} {x : Str}
theorem rb {k : Nat} {C f : Addr} {fd : FuncData} {ps names : List Str} {fs : aN -> R (List PyData)} (M : Mk X.K C f) (F : aY X.prog X.w X.K X.mg X.base (cI X.prog X.w X.mg) k f fd ps (DN C names)) (hr : eK (k + 1) X.A) (T : Tb X nl G) (j : Nat) (hG : G[j]? = some x) (hm : X.mg x = some (.ref C)) (hb : i4 X.K fd ps []) (ha : pk X (e :: es) fs)
    (hfs : ∀ ρ ds, fs ρ = .ok ds -> ds.length = names.length) (he : (e :: es).all av = true := by rfl) : ai X (.Call (.Name x p) (e :: es) [] pos) (re C names fs) := by
  rw [List.all_cons, Bool.and_eq_true] at he;have g := T.gl x (List.mem_of_getElem? hG);intro pins s σ H Q I ⟨ρ, sl, q⟩;unfold re at q;have base := Al (p := p) (pos := pos) M F hr g.1 hm hb .nil vJ ha g.2.1 (bh he.1) (oY he.2);cases e1 : fs ρ with
  | ex c => rw [e1] at q; exact cQ (base pins s σ H (fun _ _ => False) I ⟨ρ, sl, by rw [e1]; exact q⟩) fun u s' ⟨v, H', I', r, z⟩ => z.elim
  | no => rw [e1] at q; exact q.elim
  | ok ds =>
    rw [e1] at q;have q' : tP X gQ (.ok (zo C names ds)) H Q := q;refine cQ (base pins s σ H (fun v H' => ∃ a dx vs, v = .ref a /\ H a = none /\ H' a = some (.ins C dx (names.zip vs)) /\ bu H' ds vs /\ aE H H') I ⟨ρ, sl, ?_⟩) fun u s' ⟨v, H', I', r, a, dx, vs, ev, hn, ha', rp, sm⟩ => ?_
    · rw [e1];intro vs H1 s1 r1 y dy hy hdy hne;rw [List.append_nil];have r2 := o7.mp r1;refine ⟨y, dy, vs, rfl, bd, by rw [r2.length]; exact hfs ρ ds e1, fun H' h1 h2 => ⟨rfl, y, dy, vs, rfl, s1.free hy, h1, ?_, ?_⟩⟩
      · have sm : aE H1 H' := fun b o eb => by
          rw [h2 b (aQ eb hy), au (aQ eb hy), au (aQ eb hdy)]; exact eb
        exact r2.mono sm
      · intro b o eb;have eb1 := s1 b o eb;rw [h2 b (aQ eb1 hy), au (aQ eb1 hy), au (aQ eb1 hdy)]; exact eb1
    · subst ev;obtain ⟨o, J⟩ := r8 I' ha';have kp := zJ (o' := .frz o (.ins C dx (names.zip vs))) ha';refine ⟨.ref a, _, J, r, q' _ _ (fun b x eb => by rw [au (aQ eb hn)]; exact sm b x eb) ?_⟩;show Rp _ (zo C names ds) _;unfold zo;simp only [Rp];refine .inr ⟨a, o, C, dx, _, rfl, bd, ?_⟩;simp only [xl];exact ⟨True.intro, sX.kp kp _ _ (uV rp)⟩
theorem Z.rb {k : Nat} {C f : Addr} {fd : FuncData} {ps names : List Str} {fs : aN -> R (List PyData)} (M : Mk X.K C f) (F : aY X.prog X.w X.K X.mg X.base (cI X.prog X.w X.mg) k f fd ps (DN C names)) (hr : eK (k + 1) X.A) (T : Tb X nl G) (j : Nat) (hG : G[j]? = some x) (hm : X.mg x = some (.ref C)) (hb : i4 X.K fd ps []) (ha : Z.pk X (e :: es) fs) (hfs : ∀ ρ ds, fs ρ = .ok ds -> ds.length = names.length) (he : (e :: es).all av = true := by rfl) : Z.ai X (.Call (.Name x p) (e :: es) [] pos) (re C names fs) :=
  ⟨D2.rb M F hr T j hG hm hb ha.un hfs he⟩
def DD (K : PySem.W.Frag) (ta : TE) (f : Str) : TE := fun σ H Q => ta σ H fun x H1 => ∃ a o C dx fs v, x = .ref a /\ H1 a = some (.frz o (.ins C dx fs)) /\ v8 K C /\ dG K C f /\ fs.lookup f = some v /\ Q v H1
theorem Ad {f : Str} {ta : TE} (he : PE X e ta) (hb : attributeBase e f X.env (eval e X.env) = eval e X.env) : PE X (.Attribute e f pos) (DD X.K ta f) := by
  intro pins s σ H Q I h;refine zG hb (cQ (he pins s σ H _ I h) fun u s1 ⟨x, H1, I1, rx, a, o, C, dx, fs, v, ex, ea, c, n, l, q⟩ => ?_);subst ex;obtain rfl : u = Value.ref a := rx;obtain ⟨_, d, z, ne, ob, mA, nn, r, qq⟩ := (show bR X.prog X.w H1 s1.heap a (.frz o (.ins C dx fs)) from I1.hok a _ ea)
  obtain ⟨u', hu, ru⟩ := mr.some_of (v := v) (o := mA f) (by rw [<- l]; exact r f);exact Ag I1.kIn ⟨ob, nn, ne⟩ (c.get f) c.hd n hu (wb ru) ⟨v, H1, I1.tok _, ru, q⟩
theorem mB {C : Addr} {f : Str} (cl : v8 X.K C) (na : dG X.K C f) (he : ai X e fe) (hb : attributeBase e f X.env (eval e X.env) = eval e X.env := by rfl) : ai X (.Attribute e f pos) (e1 (kc C f) fe) := by
  refine PE.imp (Ad he hb) fun σ H Q h => ?_
  refine (eT (P := gQ) (f := fe) (k := fun _ x => kc C f x) (eX (X := X) fR Q) h).post fun v H1 ⟨_, d1, _, _, p1, q1⟩ => ?_
  unfold kc at q1;split at q1
  · rename_i c kvs;split at q1
    · rename_i hc;cases ef : tD f kvs with
      | no => rw [ef] at q1; exact q1.elim
      | ex c => exact (vj ef).elim
      | ok d =>
        rw [ef] at q1;have p2 : Rp H1 (.dict ((.none, .int c) :: kvs)) v := p1;simp only [Rp] at p2;rcases p2 with ⟨a, o, ks, rfl, ha, r⟩ | ⟨a, o, C', dx, fs, rfl, ha, r⟩
        · simp only [eh, zu] at r;obtain ⟨κ, _, _, _, ⟨r1, _⟩, _⟩ := r;cases κ <;> cases r1
        · simp only [xl] at r;obtain ⟨r1, r2⟩ := r;have hC : c = (C' : Int) := by injection r1 with _ r3; injection r3
          have hCC : C' = C := by
            have : (C' : Int) = (C : Int) := hC.symm.trans hc;exact Int.ofNat.inj this
          subst hCC;obtain ⟨w, w1, w2⟩ := vH r2 ef;exact ⟨a, o, C', dx, fs, w, rfl, ha, cl, na, w1, q1 w H1 (aE.refl _) w2⟩
    · exact q1.elim
  · exact q1.elim
theorem Z.mB {C : Addr} {f : Str} (cl : v8 X.K C) (na : dG X.K C f) (he : Z.ai X e fe) (hb : attributeBase e f X.env (eval e X.env) = eval e X.env := by rfl) : Z.ai X (.Attribute e f pos) (e1 (kc C f) fe) :=
  ⟨D2.mB cl na he.un hb⟩
end
theorem Dx {a b c : Str} {x y z : V} (h1 : ¬ a = b) (h2 : ¬ a = c) (h3 : ¬ b = c) : im c z (im b y (im a x [])) = [(a, x), (b, y), (c, z)] := by
  simp only [im, if_neg h1, if_neg h2, if_neg h3]
abbrev gI := List PyData -> R PyData
structure gJ (P : Program) (w : World) (K : PySem.W.Frag) (mg : Str -> Option Value) (base : Heap) (k : Nat) (x : Str) (ps : List Str) (F : gI) (f : Addr) (fd : FuncData) : Prop where
  ok : aY P w K mg base (cI P w mg) k f fd ps (di F ps.length)
  m : mg x = some (.ref f)
  kp : PySem.W.keepIn K (.ref f) = true
  b : i4 K fd ps []
theorem aO {X : Cx} {k : Nat} {f : Addr} {fd : FuncData} {ps : List Str} {F : gI} {x : Str} {p pos : Pos} {e : Expr} {es : List Expr} {fs : aN -> R (List PyData)} {nl : Nat} {G : List Str} (C : gJ X.prog X.w X.K X.mg X.base k x ps F f fd) (hr : eK k X.A) (T : Tb X nl G) (j : Nat) (hG : G[j]? = some x) (ha : pk X (e :: es) fs) (hlen : (e :: es).length = ps.length) (hfs : ∀ ρ ds, fs ρ = .ok ds -> ds.length = ps.length) (he : (e :: es).all av = true := by rfl) : ai X (.Call (.Name x p) (e :: es) [] pos) (aH F fs) :=
  zF C.ok hr T j hG C.m C.kp C.b ha hlen hfs he
theorem Z.aO {X : Cx} {k : Nat} {f : Addr} {fd : FuncData} {ps : List Str} {F : gI} {x : Str} {p pos : Pos} {e : Expr} {es : List Expr} {fs : aN -> R (List PyData)} {nl : Nat} {G : List Str} (C : gJ X.prog X.w X.K X.mg X.base k x ps F f fd) (hr : eK k X.A) (T : Tb X nl G) (j : Nat) (hG : G[j]? = some x) (ha : Z.pk X (e :: es) fs) (hlen : (e :: es).length = ps.length) (hfs : ∀ ρ ds, fs ρ = .ok ds -> ds.length = ps.length) (he : (e :: es).all av = true := by rfl) : Z.ai X (.Call (.Name x p) (e :: es) [] pos) (aH F fs) :=
  ⟨D2.aO C hr T j hG ha.un hlen hfs he⟩
structure cw (K : PySem.W.Frag) (x : Str) (st : Stmt) (f : Addr) (fd : FuncData) : Prop where
  ns : PySem.W.nsIn K mainGlobals x = some (some (.ref f))
  fn : ie K x x st f fd
theorem aV {K : PySem.W.Frag} {x : Str} {st : Stmt} {f : Addr} {oc : Value} {od an : Option Addr} {osl : Array (Option Value)} {kV doc pm cdv ct : Value} (a : PySem.W.nsIn K mainGlobals x = some (some (.ref f))) (l : K.lookup f = some ⟨oc, od, .func (PySem.W.fnOf x x (gp st) (dS st) (ah st) .none kV doc pm an cdv ct), osl⟩) (c : PySem.W.codeIn K cdv x = true) (k : PySem.W.keepIn K (.ref f) = true) :
    cw K x st f (PySem.W.fnOf x x (gp st) (dS st) (ah st) .none kV doc pm an cdv ct) := ⟨a, uf l c k⟩
def D7 (i : Nat) (g : Fs) : Fs := fun ρ => match ρ[i]? with
  | some (.own d) => g (ρ.set i (.val d))
  | _ => g ρ
theorem zh {X : Cx} {st : Stmt} {g : Fs} (i : Nat) (h : fA X st g) : fA X st (D7 i g) := fun Fm => by
  intro pins s σ H D I ⟨ρ, sl, q⟩;unfold D7 at q;split at q
  · rename_i d e;obtain ⟨H2, v, I2, sl2, _, _⟩ := Bq I sl e;exact h Fm pins s σ H2 D I2 ⟨_, sl2, q⟩
  · exact h Fm pins s σ H D I ⟨ρ, sl, q⟩
theorem Z.zh {X : Cx} {st : Stmt} {g : Fs} (i : Nat) (h : Z.fA X st g) : Z.fA X st (D7 i g) :=
  ⟨D2.zh i h.un⟩
end D2
namespace D2
open PySem PySem.Spec PyProof.Rows L2 PySem.Builtin PySem.Builtin.Str
end D2
set_option maxHeartbeats 400000
namespace D2
open PySem PySem.Spec PyProof.Rows L2 PySem.Builtin
end D2
namespace D2
open PySem PySem.Spec PyProof.Rows L2
theorem Z.qf {P : Program} {w : World} {K : PySem.W.Frag} {mg : Str -> Option Value} {base : Heap} {x qual : Str} {st : Stmt} {f : Addr} {fd : FuncData} {N ps : List Str} {k : Nat} {g : Fs} (F : ie K x qual st f fd) (S : aR N ps (ah st))
    (body : ∀ (cdv : Value) (A : Around) (outer : List Env) (s : Shared) (H : Hp) (E : XK), eK k (A.deeper (envOfC qual (ah st) s.heap.objs.size f cdv)) ->
      Z.h7 (fU (cI P w mg) P w K mg base N qual (ah st) f cdv A outer s H E) (dS st) g) : aY P w K mg base (cI P w mg) (k + 1) f fd ps (di (dF N.length g) ps.length) :=
  D2.qf F S fun cdv A outer s H E hr => (body cdv A outer s H E hr).un
theorem Z.fn_dataT {P : Program} {w : World} {K : PySem.W.Frag} {mg : Str -> Option Value} {base : Heap} {x qual : Str} {st : Stmt} {f : Addr} {fd : FuncData} {N ps : List Str} {k : Nat} {g : Fs} {G : List Str} (F : ie K x qual st f fd) (S : aR N ps (ah st)) (ck : vO (ah st) N G)
    (body : ∀ (cdv : Value) (A : Around) (outer : List Env) (s : Shared) (H : Hp) (E : XK), eK k (A.deeper (envOfC qual (ah st) s.heap.objs.size f cdv)) -> Tb (fU (cI P w mg) P w K mg base N qual (ah st) f cdv A outer s H E) N.length G ->
      Z.h7 (fU (cI P w mg) P w K mg base N qual (ah st) f cdv A outer s H E) (dS st) g) : aY P w K mg base (cI P w mg) (k + 1) f fd ps (di (dF N.length g) ps.length) :=
  Z.qf F S fun cdv A outer s H E hr => body cdv A outer s H E hr (B8 hr ck)
def wL {P : Program} {w : World} {K : PySem.W.Frag} {mg : Str -> Option Value} {base : Heap} {f : Addr} {fd : FuncData} {ps : List Str} {n k : Nat} : aY P w K mg base (cI P w mg) k f fd ps (di (fun _ => .no) n) :=
  have no : ∀ vs H Q E, ¬ di (fun _ => .no) n vs H Q E := fun vs H Q E ⟨ds, _, _, z⟩ => z
  ⟨fun vs H Q E h => absurd h (no vs H Q E), fun A outer s H args us vs Q E _ _ _ _ h => absurd h (no vs H Q E)⟩
def nF (K : PySem.W.Frag) : Bool := K.all fun p => match p.2.cls with
  | .type n => !(n == "list")
  | _ => true
theorem oC {α β : Type} [BEq α] {a : α} {o : β} : ∀ {K : List (α × β)}, K.lookup a = some o -> ∃ p ∈ K, p.2 = o
  | [], e => by cases e
  | (b, x) :: r, e => by
    rw [List.lookup_cons] at e;split at e
    · cases e; exact ⟨_, List.mem_cons_self, rfl⟩
    · obtain ⟨p, h1, h2⟩ := oC e;exact ⟨p, List.mem_cons_of_mem _ h1, h2⟩
theorem uD {K : PySem.W.Frag} (h : nF K = true) {a : Addr} {o : Obj} (e : K.lookup a = some o) (c : o.cls = .type "list") : False := by
  obtain ⟨p, m, rfl⟩ := oC e;have q := List.all_eq_true.mp h _ m;simp only [c] at q;simp at q
def yf (F : List PyData -> R PyData) : Prop := ∀ ns : List Int, ns.length <= 63 -> F [.list (ns.map .int)] = .ok (.bool true)
theorem EZ {l : PySem.W.OpenLaw} {q : Program} {loose : List Str} {XP : (Str -> Option Value) -> Heap -> Prop} {YP : World -> Heap -> Prop} {d : DefRec} {K : Params -> PySem.W.Frag} {k : Nat} {x : Str} {F : List PyData -> R PyData} (hn : l.most = some 63) (hdf : d.params.defaults = [])
    (hr : eK k callerA) (hY : ∀ (w : World) (h : Heap), YP w h -> (K w.params).In h) (hF : yf F)
    (G : ∀ (w : World) (mg : Str -> Option Value) (fa : Addr) (h : Heap), (K w.params).In h -> h.Ns mainGlobals mg -> mg d.name = some (.ref fa) ->
      nF (K w.params) = true /\ ∃ fd : FuncData, (∀ (s : Shared) (u : Value), BindsTo s fd ⟨[u], []⟩ [(x, u)]) /\ ∀ base : Heap, (K w.params).In base -> base.Ns mainGlobals mg -> aY l.prog w (K w.params) mg base (cI l.prog w mg) k fa fd [x] (di F 1)) :
    PySem.W.WalkO q loose XP YP l.row.toRowW d [] (fun f vs => PySem.call f vs) := by
  refine Att.attach_call hn hdf fun w s₀ s₁ mg mb fa o pm cd doc a vs ns G0 Y ho hd hcd hmg hobj hints hlen hg => ?_
  have KX := hY w _ Y;obtain ⟨nl, fd, hb, hG⟩ := G w mg fa _ KX G0.T.g hmg;refine L2.zc (sp := di F 1) KX G0.T.g G0.T.b G0.T.builtins G0.T.nolimit hg hobj hints (Nat.le_trans hlen (by decide)) hr hG hb (fun H hO hS => ?_) fun H e s' ⟨_, _, _, _, _, z⟩ => z
  refine ⟨[.list (ns.map .int)], bu.cons ?_ bu.nil, rfl, ?_⟩
  · rcases hS with (h | ⟨o, h⟩) | ⟨o, its, n, h, c, _⟩
    · rcases hO a with z | ⟨o, xs, z⟩
      · rw [z] at h; cases h
      · rw [z] at h; cases h
    · simp only [Rp];exact ⟨a, o, _, rfl, h, bu.ints ns⟩
    · exact (uD nl h c).elim
  · rw [hF ns hlen];intro v H' _ r;simpa only [Rp] using r
@[simp] theorem cf {α : Type} (a : α) : mK (R.ok a) = .ok a := (rfl)
def B7 : xk -> R PyData
  | .rt d => .ok d
  | .nx _ => .ok .none
  | _ => .no
theorem fw (n : Nat) (g : Fs) (ds : List PyData) : dF n g ds = (g (ds.map ba.val ++ List.replicate (n - ds.length) .non) >>= B7) := by
  unfold dF;congr 1
@[simp] theorem En (d : PyData) : B7 (.rt d) = .ok d := (rfl)
section
variable (f g h : Fe) (ρ : aN) (i j : Nat) (t u : aN -> R Bool) (a b : Fs) (fs : aN -> R (List PyData)) (F : List PyData -> R PyData) (d e : PyData)
@[simp] theorem bB : eC d ρ = .ok d := (rfl)
@[simp] theorem ak : ad 0 (.val d :: ρ) = .ok d := (rfl)
@[simp] theorem am (c : ba) : ad (i + 1) (c :: ρ) = ad i ρ := (rfl)
@[simp] theorem gP : cW 0 (.own d :: ρ) = .ok d := (rfl)
@[simp] theorem gX (c : ba) : cW (i + 1) (c :: ρ) = cW i ρ := (rfl)
@[simp] theorem bW (k : PyData -> R PyData) : e1 k f ρ = (f ρ >>= fun x => k x) := (rfl)
@[simp] theorem bj (k : PyData -> PyData -> R PyData) : e2 k f g ρ = (f ρ >>= fun x => g ρ >>= fun y => k x y) := (rfl)
@[simp] theorem cv : tE f ρ = (f ρ >>= sY) := (rfl)
@[simp] theorem cK (k : Bool) : sY (.bool k) = .ok k := (rfl)
@[simp] theorem sT : mE t u ρ = (t ρ >>= fun k => if k = true then u ρ else .ok false) := (rfl)
@[simp] theorem jZ : nz t u ρ = (t ρ >>= fun k => if k = true then .ok true else u ρ) := (rfl)
@[simp] theorem fS : ip t ρ = (t ρ >>= fun k => .ok (!k)) := (rfl)
@[simp] theorem Ex : wp f g ρ = (f ρ >>= fun d => sY d >>= fun k => if k = true then g ρ else .ok (.bool false)) := (rfl)
@[simp] theorem EM : Eo f g ρ = (f ρ >>= fun d => sY d >>= fun k => if k = true then .ok (.bool true) else g ρ) := (rfl)
@[simp] theorem uq : AB t f g ρ = (t ρ >>= fun k => if k = true then f ρ else g ρ) := (rfl)
@[simp] theorem aP : aI ρ = .ok [] := (rfl)
@[simp] theorem aL : af f fs ρ = (f ρ >>= fun d => fs ρ >>= fun ds => .ok (d :: ds)) := (rfl)
@[simp] theorem aX : aH F fs ρ = (fs ρ >>= F) := (rfl)
@[simp] theorem CT (p q : PyData -> PyData -> R PyData) : ou p q f g h ρ = (f ρ >>= fun x => g ρ >>= fun y => p x y >>= fun d => sY d >>= fun k => if k = true then h ρ >>= fun z => q y z else .ok (.bool false)) := (rfl)
@[simp] theorem nE : qx fs ρ = (fs ρ >>= fun ds => if ds.length <= sizeLine then .ok (.tuple ds) else .no) := (rfl)
@[simp] theorem vA : la fs ρ = (fs ρ >>= fun ds => if ds.length <= sizeLine then .ok (.list ds) else .no) := (rfl)
@[simp] theorem rS : oa ρ = .ok none := (rfl)
@[simp] theorem sN : o8 f ρ = (f ρ >>= fun d => Em d >>= fun i => .ok (some i)) := (rfl)
@[simp] theorem Bp (k : Int) : Em (.int k) = .ok k := (rfl)
@[simp] theorem xq (lo hi : Fo) : Cq f lo hi ρ = (f ρ >>= fun d => lo ρ >>= fun l => hi ρ >>= fun u => Bd d l u) := (rfl)
@[simp] theorem rY : dC ρ = .ok (.nx ρ) := (rfl)
@[simp] theorem uX : aU a b ρ = (a ρ >>= u6 b) := (rfl)
@[simp] theorem Dt : u6 b (.nx ρ) = b ρ := (rfl)
@[simp] theorem DC : u6 b (.rt d) = .ok (.rt d) := (rfl)
@[simp] theorem du : lH t a b ρ = (t ρ >>= fun k => if k = true then a ρ else b ρ) := (rfl)
@[simp] theorem ci : cF f ρ = (f ρ >>= fun d => .ok (.rt d)) := (rfl)
@[simp] theorem bp : bQ i f ρ = (f ρ >>= fun d => .ok (.nx (ρ.set i (.val d)))) := (rfl)
@[simp] theorem nD : gw i f ρ = (f ρ >>= fun d => .ok (.nx (ρ.set i (.own d)))) := (rfl)
@[simp] theorem bY : eA f ρ = (f ρ >>= iT) := (rfl)
@[simp] theorem l4 : ic fs ρ = (fs ρ >>= pC) := (rfl)
@[simp] theorem cH (ds : List PyData) : iT (.tuple ds) = .ok ds := (rfl)
@[simp] theorem tf (ds : List PyData) : iT (.list ds) = .ok ds := (rfl)
@[simp] theorem eI : h9 a ρ = mK (a ρ) := (rfl)
theorem fH (it : aN -> R (List PyData)) (bb : PyData -> aN -> Option aN) : jc it bb a ρ = (it ρ >>= fun ds => eS bb a ds ρ) := rfl
@[simp] theorem fT (bb : PyData -> aN -> Option aN) : eS bb a [] ρ = .ok (.nx ρ) := by unfold eS; rfl
def rL (k : aN -> R xk) : xk -> R xk
  | .nx ρ => k ρ
  | .ct ρ => k ρ
  | .bk ρ => .ok (.nx ρ)
  | .rt r => .ok (.rt r)
@[simp] theorem dh (k : aN -> R xk) : rL k (.nx ρ) = k ρ := (rfl)
theorem eP (i : Nat) (ds : List PyData) : eS (aS i) a (d :: ds) ρ = (a (ρ.set i (.val d)) >>= rL (eS (aS i) a ds)) := by
  rw [eS];show (a (ρ.set i (.val d)) >>= _) = _;congr 1
theorem wo (i j : Nat) (x y : PyData) (ds : List PyData) : eS (cM i j) a (.tuple [x, y] :: ds) ρ = (a ((ρ.set i (.val x)).set j (.val y)) >>= rL (eS (cM i j) a ds)) := by
  rw [eS];show (a ((ρ.set i (.val x)).set j (.val y)) >>= _) = _;congr 1
theorem aJ {a b : Fs} {ρ ρ' : aN} (h : a ρ = .ok (.nx ρ')) : aU a b ρ = b ρ' := by rw [uX, h]; rfl
theorem tI {a b : Fs} {ρ : aN} {d : PyData} (h : a ρ = .ok (.rt d)) : aU a b ρ = .ok (.rt d) := by rw [uX, h]; rfl
theorem dY {n : Nat} {g : Fs} {ds : List PyData} {d : PyData} (h : g (ds.map ba.val ++ List.replicate (n - ds.length) .non) = .ok (.rt d)) : dF n g ds = .ok d := by rw [fw, h]; rfl
theorem cB (bb : PyData -> aN -> Option aN) : bE bb t f ρ [] = .ok [] := by unfold bE; rfl
theorem eL (i : Nat) (ds : List PyData) : bE (aS i) t f ρ (d :: ds) = (t (ρ.set i (.val d)) >>= fun k => if k = true then f (ρ.set i (.val d)) >>= fun x => bE (aS i) t f ρ ds >>= fun xs => .ok (x :: xs) else bE (aS i) t f ρ ds) := by
  rw [bE]; rfl
theorem gB (i j : Nat) (x y : PyData) (ds : List PyData) : bE (cM i j) t f ρ (.tuple [x, y] :: ds) = (t ((ρ.set i (.val x)).set j (.val y)) >>= fun k => if k = true then f ((ρ.set i (.val x)).set j (.val y)) >>= fun x => bE (cM i j) t f ρ ds >>= fun xs => .ok (x :: xs) else bE (cM i j) t f ρ ds) := by
  rw [bE]; rfl
theorem xE (i j k : Nat) (x y z : PyData) (ds : List PyData) : eS (sj i j k) a (.tuple [x, y, z] :: ds) ρ = (a (((ρ.set i (.val x)).set j (.val y)).set k (.val z)) >>= rL (eS (sj i j k) a ds)) := by
  rw [eS];show (a (((ρ.set i (.val x)).set j (.val y)).set k (.val z)) >>= _) = _;congr 1
@[simp] theorem xZ : p8 f g h ρ = (f ρ >>= fun x => g ρ >>= fun y => h ρ >>= fun z => nh x >>= fun xs => nh y >>= fun ys => nh z >>= fun zs => .ok (fO xs ys zs)) := (rfl)
@[simp] theorem BO (ds : List PyData) : nh (.tuple ds) = .ok ds := (rfl)
@[simp] theorem yV : vg fs ρ = (fs ρ >>= CS .tuple) := (rfl)
theorem DB {mk : List PyData -> PyData} {n : Int} (h0 : 0 <= n) (h1 : n <= 1000000) : CS mk [.int n] = .ok (mk (bG 0 n.toNat)) := by
  show (if n <= 16777216 /\ -(2 ^ 62) <= n then R.ok (mk (bG 0 n.toNat)) else .no) = _;rw [if_pos (by omega)]
@[simp] theorem pH (x y : PyData) (e : f ρ = .ok (.tuple [x, y])) : uQ (cM i j) f ρ = .ok (.nx ((ρ.set i (.val x)).set j (.val y))) := by unfold uQ; rw [e]; rfl
@[simp] theorem A1 (op : Int -> Int -> Int) : uO i op f ρ = (ad i ρ >>= fun x => f ρ >>= fun y => Ep op x y >>= fun z => .ok (.nx (ρ.set i (.val z)))) := (rfl)
@[simp] theorem DS (op : Int -> Int -> Int) (m n : Int) : Ep op (.int m) (.int n) = .ok (.int (op m n)) := (rfl)
theorem nK {ρ : aN} {i : Nat} {ds : List PyData} {fk fv : Fe} {n : Int} {v : PyData} (h : ρ[i]? = some (.own (.list ds))) (hk : fk ρ = .ok (.int n)) (hv : fv ρ = .ok v) (h0 : 0 <= n) (h1 : n < ds.length) : gS i fk fv ρ = .ok (.nx (ρ.set i (.own (.list (ds.set n.toNat v))))) := by
  unfold gS;rw [hv, hk, h];simp only [mK, R.ok_bind];have : L2.ve ds.length n = some n.toNat := by unfold L2.ve; rw [if_pos h0, if_pos h1]
  rw [this]
@[simp] theorem uZ : uJ f g ρ = (f ρ >>= fun x => g ρ >>= fun y => iT x >>= fun xs => iT y >>= fun ys => .ok (gF xs ys)) := (rfl)
@[simp] theorem jv : kT f ρ = (f ρ >>= fun x => iT x >>= fun xs => .ok (cG 0 xs)) := (rfl)
theorem jY {ρ : aN} {i : Nat} {ds : List PyData} (f : Fe) (h : ρ[i]? = some (.own (.list ds))) (hz : ds.length < sizeLine) : cr i f ρ = (mK (f ρ) >>= fun d => .ok (.nx (ρ.set i (.own (.list (ds ++ [d])))))) := by
  unfold cr;congr 1;funext d;rw [h];exact if_pos hz
def Ek : R (List PyData) -> R PyData
  | .ok xs => .ok (.list xs)
  | .ex c => .ex c
  | .no => .no
@[simp] theorem gZ (xs : List PyData) : Ek (.ok xs) = .ok (.list xs) := (rfl)
theorem bi (it : aN -> R (List PyData)) (own : Nat) (fr : List Nat) (bb : PyData -> aN -> Option aN) : bL it own fr bb t f ρ = (mK (it ρ) >>= fun ds => if ds.length <= sizeLine then Ek (bE bb t f (aB own fr ρ) ds) else .no) := by
  unfold bL;congr 1
theorem eO (i : Nat) (G : PyData -> PyData) : ∀ (ds : List PyData), (∀ d ∈ ds, f (ρ.set i (.val d)) = .ok (G d)) -> bE (aS i) (fun _ => .ok true) f ρ ds = .ok (ds.map G)
  | [], _ => cB ..
  | d :: ds, hh => by
    rw [eL, hh d List.mem_cons_self, eO i G ds fun x hx => hh x (List.mem_cons_of_mem _ hx)];rfl
end
section
variable (i j : Int) (xs ys : List PyData)
@[simp] theorem E6 : fQ (.int i) (.int j) = .ok (.int (i + j)) := (rfl)
@[simp] theorem xD : fQ (.tuple xs) (.tuple ys) = if xs.length + ys.length <= sizeLine then .ok (.tuple (xs ++ ys)) else .no := (rfl)
@[simp] theorem sZ : ny (.int i) (.int j) = .ok (.int (i - j)) := (rfl)
@[simp] theorem qm : fD (.int i) (.int j) = if 0 < j then .ok (.int (i % j)) else .no := (rfl)
@[simp] theorem CB : lF (.int i) (.int j) = if 0 < j /\ j < 1073741824 then .ok (.int (i / j)) else .no := (rfl)
theorem Cw : fV (.int i) (.int j) = if (-(2 ^ 64) < i /\ i < 2 ^ 64) \/ (-(2 ^ 64) < j /\ j < 2 ^ 64) then .ok (.int (i * j)) else .no := rfl
@[simp] theorem oy (p : Int -> Int -> Bool) : fu p (.int i) (.int j) = .ok (.bool (p i j)) := (rfl)
@[simp] theorem EI : A7 (.int i) (.int j) = .ok (.int (if j < i then j else i)) := (rfl)
@[simp] theorem E4 : Ap (.int i) (.int j) = .ok (.int (if j > i then j else i)) := (rfl)
@[simp] theorem kL : dE (.tuple xs) = .ok (.int xs.length) := (rfl)
@[simp] theorem oq : dE (.list xs) = .ok (.int xs.length) := (rfl)
@[simp] theorem jd : cs (.list xs) = .ok (.tuple xs) := (rfl)
@[simp] theorem zL : pU (.tuple xs) = .ok (.list xs) := (rfl)
@[simp] theorem Fa (k : Bool) : zW (.bool k) = .ok (.int (if k then 1 else 0)) := (rfl)
@[simp] theorem CZ (lo hi : Option Int) : Bd (.tuple xs) lo hi = .ok (.tuple (mW xs lo hi)) := (rfl)
@[simp] theorem Dl (lo hi : Option Int) : Bd (.list xs) lo hi = .ok (.list (mW xs lo hi)) := (rfl)
theorem qY {α : Type} {xs : List α} {i : Int} (h0 : 0 <= i) (h1 : i < xs.length) : L2.atI xs i = some (xs[i.toNat]'(by omega)) := by
  unfold L2.atI ve;rw [if_pos h0, if_pos h1];exact List.getElem?_eq_getElem (by omega)
theorem vI {xs : List PyData} {i : Int} (h0 : 0 <= i) (h1 : i < xs.length) : bx (.tuple xs) (.int i) = .ok (xs[i.toNat]'(by omega)) := by
  show (match L2.atI xs i with | some d => R.ok d | none => .no) = _;rw [qY h0 h1]
theorem vP {xs : List PyData} {i : Int} (h0 : 0 <= i) (h1 : i < xs.length) : bx (.list xs) (.int i) = .ok (xs[i.toNat]'(by omega)) := by
  show (match L2.atI xs i with | some d => R.ok d | none => .no) = _;rw [qY h0 h1]
theorem uW : PyData.eqv (.int i) (.int j) = decide (i = j) := by
  simp only [PyData.eqv];by_cases h : i = j
  · subst h; simp
  · simp [h]
theorem fL : iX (.int i) (.int j) = .ok (.bool (decide (i = j))) := by
  unfold iX;rw [if_pos (by rfl), uW]
theorem sh : wx (.int i) (.int j) = .ok (.bool (!decide (i = j))) := by
  unfold wx;rw [if_pos (by rfl), uW]
end
end D2
namespace G
open PySem PySem.Spec PyProof.Rows L2 D2
def DA : PyData -> Bool
  | .int _ => true
  | _ => false
def noD : PyData -> Prop
  | .dict _ => False
  | _ => True
def sP (d : PyData) (lo hi : Int) : Bool := match d with
  | .int i => decide (lo <= i) && decide (i <= hi)
  | _ => false
abbrev hU (d : PyData) : Prop := d.canLay0 = true
theorem hU.noD {d : PyData} (h : hU d) : noD d := by
  cases d <;> first | trivial | (simp [hU, PyData.canLay0] at h)
theorem vw : ∀ {ds : List PyData}, PyData.canLayAll0 ds = true -> ∀ x ∈ ds, hU x
  | [], _, x, hx => by cases hx
  | d :: ds, h, x, hx => by
    have h' : d.canLay0 = true /\ PyData.canLayAll0 ds = true := by simpa [PyData.canLayAll0] using h
    rcases List.mem_cons.mp hx with rfl | hx
    · exact h'.1
    · exact vw h'.2 x hx
theorem lD : ∀ {ds : List PyData}, (∀ x ∈ ds, hU x) -> PyData.canLayAll0 ds = true
  | [], _ => by simp [PyData.canLayAll0]
  | d :: ds, h => by
    have h1 := h d List.mem_cons_self;have h2 := lD fun x hx => h x (List.mem_cons_of_mem _ hx)
    simp only [PyData.canLayAll0, Bool.and_eq_true];exact ⟨h1, h2⟩
theorem ku {ds : List PyData} : hU (.tuple ds) <-> ∀ x ∈ ds, hU x := by
  constructor
  · intro h; exact vw (by simpa [hU, PyData.canLay0] using h)
  · intro h; simp only [hU, PyData.canLay0]; exact lD h
theorem sJ (i : Int) : hU (.int i) := by simp [hU, PyData.canLay0]
theorem wB : hU .none := by simp [hU, PyData.canLay0]
theorem nG (p : PyData -> Bool) : ∀ ds : List PyData, D2.lE (ds.map fun d => .bool (p d)) = some (ds.all p)
  | [] => rfl
  | d :: ds => by
    simp only [List.map_cons, D2.lE, nG p ds, List.all_cons, Option.map_some]
theorem bD {n : Nat} (h : n <= 1000) : n <= sizeLine := Nat.le_trans h (by decide)
abbrev rn (ns : List Int) : PyData := .list (ns.map .int)
theorem iF {i j : Int} (h : (-(2 ^ 64) < i /\ i < 2 ^ 64) \/ (-(2 ^ 64) < j /\ j < 2 ^ 64)) : fV (.int i) (.int j) = .ok (.int (i * j)) := by rw [Cw, if_pos h]
structure tj (c : Int) (n : Nat) (kvs : List (PyData × PyData)) : Prop where
  ex : ∃ ns : List Int, kvs.map (·.1) = ns.map PyData.int /\ (∀ x ∈ ns, 0 <= x /\ x < c) /\ ns.length <= n /\ (n = 0 \/ ns ≠ []) /\ ns.Nodup
theorem tj.put {c : Int} {n : Nat} {kvs : List (PyData × PyData)} (h : tj c n kvs) {k : Int} (h0 : 0 <= k) (h1 : k < c) (v : PyData) : tj c (n + 1) (tZ kvs (.int k) v) := by
  obtain ⟨ns, e, hb, hl, hn, nd⟩ := h.ex;have hany : (kvs.any fun kv => gV kv.1 (.int k)) = ns.any fun i => decide (i = k) := by
    have : (kvs.any fun kv => gV kv.1 (.int k)) = (kvs.map (·.1)).any fun d => gV d (.int k) := by rw [List.any_map]; rfl
    rw [this, e, List.any_map]; rfl
  unfold tZ;rw [hany];by_cases hm : k ∈ ns
  · have ha : (ns.any fun i => decide (i = k)) = true := by simp; exact hm
    rw [if_pos ha];refine ⟨ns, ?_, hb, by omega, .inr (by intro z; rw [z] at hm; cases hm), nd⟩;rw [<- e, List.map_map];apply List.map_congr_left;intro kv _;show (if gV kv.1 (.int k) = true then (kv.1, v) else kv).1 = kv.1;split <;> rfl
  · have ha : ¬ (ns.any fun i => decide (i = k)) = true := by simp; exact hm
    rw [if_neg ha];refine ⟨ns ++ [k], by rw [List.map_append, List.map_append, e]; rfl, fun x hx => ?_, by simp; omega, .inr (by simp), ?_⟩
    · rcases List.mem_append.mp hx with z | z
      · exact hb x z
      · simp at z; subst z; exact ⟨h0, h1⟩
    · rw [List.nodup_append];refine ⟨nd, by simp, fun a hma b hb' => ?_⟩;simp at hb';subst hb';rintro rfl;exact hm hma
theorem tj.len {c : Int} {n : Nat} {kvs : List (PyData × PyData)} (h : tj c n kvs) : kvs.length <= n := by
  obtain ⟨ns, e, _, hl, _⟩ := h.ex;have := congrArg List.length e;simp at this;omega
theorem sM (lo : Int) (n : Nat) : ∀ d ∈ bG lo n, ∃ k, d = .int k := fun d hd => by
  unfold bG at hd;obtain ⟨k, _, rfl⟩ := List.mem_map.mp hd;exact ⟨_, rfl⟩
theorem gA (lo : Int) (n : Nat) : (bG lo n).length = n := by unfold bG; simp
theorem A5 {xs : List PyData} {i : Int} (h0 : 0 <= i) (h1 : i < xs.length) : ∃ x ∈ xs, bx (.list xs) (.int i) = .ok x := ⟨_, List.getElem_mem _, vP h0 h1⟩
structure P4 where
  w : Int
  m : Int
  g : Int
  ns : List Int
def P4.d (p : P4) : PyData := .tuple [.int p.w, .int p.m, .int p.g, .tuple (p.ns.map .int)]
structure Pl (c hi : Int) (p : P4) : Prop where
  w0 : 0 <= p.w
  w1 : p.w <= 1
  m0 : 0 <= p.m
  m1 : p.m <= hi
  g0 : -20 <= p.g
  g1 : p.g <= 20
  ne : p.ns ≠ []
  so : p.ns.Pairwise (· < ·)
  inn : ∀ x ∈ p.ns, 0 <= x /\ x < c
theorem kI : ∀ (ns : List Int) (l c : Int), ns.Pairwise (· < ·) -> (∀ x ∈ ns, l <= x /\ x < c) -> ns = [] \/ l + (ns.length : Int) <= c
  | [], _, _, _, _ => .inl rfl
  | x :: r, l, c, hp, hb => by
    right;obtain ⟨h1, h2⟩ := List.pairwise_cons.mp hp;have hx := hb x List.mem_cons_self;rcases kI r (x + 1) c h2 (fun y hy => ⟨by have := h1 y hy; omega, (hb y (List.mem_cons_of_mem _ hy)).2⟩) with rfl | z
    · simp; omega
    · rw [List.length_cons]; omega
theorem Pl.len {c hi : Int} {p : P4} (h : Pl c hi p) : (p.ns.length : Int) <= c := by
  rcases kI p.ns 0 c h.so h.inn with z | z
  · exact absurd z h.ne
  · omega
abbrev gD (ps : List P4) : PyData := .tuple (ps.map P4.d)
theorem wA {ns : List Int} (h : ns.Pairwise (· <= ·)) (nd : ns.Nodup) : ns.Pairwise (· < ·) := by
  have := h.and nd;exact this.imp fun ⟨a, b⟩ => by omega
end G
noncomputable section
namespace G
open PySem PySem.Spec PyProof.Rows L2 D2
def ju : Fs :=
  (aU (bQ 2 (e2 fD (e2 fV (e2 fQ (e2 fQ (ad 0) (e2 fV (eC (.int 104729)) (ad 1))) (eC (.int 17))) (eC (.int 69621))) (eC (.int 2147483647)))) (cF (e2 fD (e2 fQ (e2 fQ (e2 fV (ad 2) (ad 2)) (e2 fV (eC (.int 3)) (ad 2))) (ad 1)) (eC (.int 2147483629)))))
def aA : List PyData -> R PyData := dF 3 (ju)
def iY (aA : List PyData -> R PyData) : Fs :=
  (aU (gw 4 (la aI)) (aU (h9 (jc (kT (ad 0)) (cM 5 6) (aU (bQ 7 (aH aA (af (ad 2) (af (ad 5) aI)))) (lH (nz (tE (e2 (wx) (e2 bx (ad 6) (eC (.int 0))) (ad 1))) (mE (tE (e2 (fu pr) (ad 3) (eC (.int 0)))) (tE (e2 (iX) (e2 fD (ad 7) (ad 3)) (eC (.int 0)))))) (cr 4 (eC .none)) (cr 4 (e2 bx (e2 bx (ad 6) (eC (.int 3))) (e2 fD (e2 lF (ad 7) (eC (.int 7))) (e1 dE (e2 bx (ad 6) (eC (.int 3))))))))))) (cF (e1 cs (cW 4)))))
def cc : List PyData -> R PyData := dF 8 (iY aA)
def ia : Fs :=
  (aU (lH (tE (e2 (fu EK) (ad 1) (e1 dE (ad 0)))) (cF (e2 bx (ad 0) (ad 1))) dC) (cF (eC (.int 0))))
def ce : List PyData -> R PyData := dF 2 (ia)
def jJ (ce : List PyData -> R PyData) : Fs :=
  (aU (bQ 2 (e2 fD (e2 fV (e2 fQ (e2 fQ (aH ce (af (ad 0) (af (ad 1) aI))) (e2 fV (eC (.int 7919)) (ad 1))) (eC (.int 1))) (eC (.int 48271))) (eC (.int 2147483647)))) (cF (e2 fD (e2 fQ (e2 fQ (e2 fV (ad 2) (ad 2)) (e2 fV (eC (.int 7)) (ad 2))) (ad 1)) (eC (.int 2147483629)))))
def bf : List PyData -> R PyData := dF 3 (jJ ce)
def jt (aA : List PyData -> R PyData) : Fs :=
  (aU (gw 2 (eC (.dict []))) (aU (h9 (jc (ic (af (e2 fQ (e2 fQ (eC (.int 1)) (e2 fD (ad 0) (eC (.int 3)))) (e2 fV (eC (.int 20)) (e1 zW (e2 (iX) (e2 fD (e2 lF (ad 0) (eC (.int 3))) (eC (.int 29))) (eC (.int 7)))))) aI)) (aS 3) (xB 2 (e2 fD (aH aA (af (ad 0) (af (ad 3) aI))) (ad 1)) (eC (.bool true))))) (cF (e1 cs (e1 jU (cW 2))))))
def cL : List PyData -> R PyData := dF 4 (jt aA)
def jk (aA : List PyData -> R PyData) (cL : List PyData -> R PyData) : Fs :=
  (aU (bQ 3 (e2 ny (e2 fD (e2 lF (ad 0) (eC (.int 26))) (eC (.int 9))) (eC (.int 4)))) (aU (lH (tE (e2 (iX) (e2 fD (e2 lF (ad 0) (eC (.int 234))) (eC (.int 11))) (eC (.int 3)))) (bQ 3 (e2 ny (e2 fD (e2 lF (ad 0) (eC (.int 26))) (eC (.int 41))) (eC (.int 20)))) dC) (cF (qx (af (e2 fD (ad 0) (eC (.int 2))) (af (e2 fD (e2 lF (ad 0) (eC (.int 2))) (e2 fQ (ad 2) (eC (.int 1)))) (af (ad 3) (af (aH cL (af (aH aA (af (ad 0) (af (eC (.int 9)) aI))) (af (ad 1) aI))) aI))))))))
def cz : List PyData -> R PyData := dF 4 (jk aA cL)
def iV (bf : List PyData -> R PyData) (cz : List PyData -> R PyData) : Fs :=
  (aU (bQ 2 (aH bf (af (ad 0) (af (eC (.int 0)) aI)))) (aU (bQ 3 (e2 fQ (eC (.int 1)) (e2 fD (ad 2) (e2 A7 (ad 1) (e2 Ap (eC (.int 4)) (e1 dE (ad 0))))))) (aU (bQ 4 (e2 bx (la (af (eC (.int 1)) (af (eC (.int 2)) (af (eC (.int 3)) (af (eC (.int 5)) (af (eC (.int 12)) (af (eC (.int 12)) aI))))))) (e2 fD (e2 lF (ad 2) (eC (.int 24))) (eC (.int 6))))) (cF (e1 cs (bL (ic (af (ad 3) aI)) 1 [0, 3, 4] (aS 0) (fun _ => .ok true) (aH cz (af (aH bf (af (ad 1) (af (e2 fQ (eC (.int 3)) (ad 0)) aI))) (af (ad 2) (af (ad 3) aI))))))))))
def cn : List PyData -> R PyData := dF 5 (iV bf cz)
def n9 : Fs :=
  (cF (wp (e1 (jp .int) (ad 0)) (Cd (e1 (jp .bool) (ad 0)))))
def bT : List PyData -> R PyData := dF 1 (n9)
def iE (bT : List PyData -> R PyData) : Fs :=
  (cF (wp (aH bT (af (ad 0) aI)) (ou (fu Ft) (fu Ft) (ad 1) (ad 0) (ad 2))))
def cu : List PyData -> R PyData := dF 3 (iE bT)
def dH (cu : List PyData -> R PyData) : Fs :=
  (cF (aH cu (af (ad 0) (af (eC (.int 0)) (af (e2 ny (e1 dE (ad 1)) (eC (.int 1))) aI)))))
def az : List PyData -> R PyData := dF 2 (dH cu)
def jT (az : List PyData -> R PyData) : Fs :=
  (aU (lH (nz (ip (tE (e1 (jp .tuple) (ad 0)))) (tE (e2 (iX) (e1 dE (ad 0)) (eC (.int 0))))) (cF (eC (.bool false))) dC) (aU (lH (ip (tE (e1 lT (bL (eA (ad 0)) 1 [1] (aS 0) (fun _ => .ok true) (aH az (af (ad 0) (af (ad 1) aI))))))) (cF (eC (.bool false))) dC) (aU (bQ 2 (e2 fQ (Cq (ad 0) (o8 (eC (.int 1))) oa) (Cq (ad 0) oa (o8 (eC (.int 1)))))) (cF (e1 lT (bL (uJ (ad 0) (ad 2)) 2 [1] (cM 0 1) (fun _ => .ok true) (e2 (lI false) (ad 1) (e2 bx (e2 bx (ad 2) (ad 0)) (eC (.int 3))))))))))
def cT : List PyData -> R PyData := dF 3 (jT az)
def o1 (cT : List PyData -> R PyData) : Fs :=
  (aU (lH (ip (tE (aH cT (af (ad 1) (af (ad 0) aI))))) (kE (PySem.Str.ofString "NoPart") (eC (.str (PySem.Str.ofString "this is no ring of places")))) dC) (cF (e2 fD (e1 nL (bL (eA (ad 1)) 1 [0] (aS 0) (fun _ => .ok true) (e2 bx (e2 bx (ad 1) (ad 0)) (eC (.int 1))))) (eC (.int 2)))))
def eB : List PyData -> R PyData := dF 2 (o1 cT)
def l6 (bT : List PyData -> R PyData) : Fs :=
  (cF (Eo (e2 (jb) (ad 0) (eC .none)) (wp (aH bT (af (ad 0) aI)) (e2 (lI false) (ad 0) (e2 bx (ad 1) (eC (.int 3)))))))
def dn : List PyData -> R PyData := dF 2 (l6 bT)
def jo (dn : List PyData -> R PyData) : Fs :=
  (aU (lH (nz (ip (tE (e1 (jp .tuple) (ad 0)))) (tE (e2 (wx) (e1 dE (ad 0)) (e1 dE (ad 1))))) (cF (eC (.bool false))) dC) (cF (e1 lT (bL (uJ (ad 0) (ad 1)) 2 [] (cM 0 1) (fun _ => .ok true) (aH dn (af (ad 0) (af (ad 1) aI)))))))
def cy : List PyData -> R PyData := dF 2 (jo dn)
def eW : Fs :=
  (aU (bQ 3 (qx (af (ad 1) (af (ad 2) aI)))) (cF (e1 cs (bL (kT (ad 0)) 2 [3] (cM 0 1) (fun _ => .ok true) (e2 bx (e2 bx (ad 2) (e2 bx (ad 1) (eC (.int 0)))) (ad 0))))))
def bq : List PyData -> R PyData := dF 4 (eW)
def lN (cy : List PyData -> R PyData) (az : List PyData -> R PyData) (bq : List PyData -> R PyData) : Fs :=
  (aU (lH (nz (ip (tE (aH cy (af (ad 1) (af (ad 0) aI))))) (ip (tE (aH cy (af (ad 2) (af (ad 0) aI)))))) (kE (PySem.Str.ofString "NoMoves") (eC (.str (PySem.Str.ofString "one of both is no moves")))) dC) (aU (bQ 4 (aH bq (af (ad 0) (af (ad 1) (af (ad 2) aI))))) (aU (lH (tE (e2 (lI false) (eC .none) (ad 4))) (kE (PySem.Str.ofString "NoMoves") (eC (.str (PySem.Str.ofString "a place has no move by its own player's moves")))) dC) (aU (lH (ip (tE (aH az (af (ad 3) (af (ad 0) aI))))) (kE (PySem.Str.ofString "NoPart") (eC (.str (PySem.Str.ofString "start is no place")))) dC) (aU (gw 5 (la aI)) (aU (bQ 6 (ad 3)) (aU (h9 (oz 1000000 (tE (e2 (lI true) (ad 6) (cW 5))) (aU (cr 5 (ad 6)) (bQ 6 (e2 bx (ad 4) (ad 6)))))) (aU (bQ 7 (rd (cW 5) (ad 6))) (cF (qx (af (e1 cs (Cq (cW 5) oa (o8 (ad 7)))) (af (e1 cs (Cq (cW 5) (o8 (ad 7)) oa)) aI))))))))))))
def dm : List PyData -> R PyData := dF 8 (lN cy az bq)
def iI : Fs :=
  (cF (vg (af (e1 dE (ad 0)) aI)))
def cq : List PyData -> R PyData := dF 1 (iI)
def kA : Fs :=
  (cF (e1 cs (bL (kT (ad 0)) 2 [1] (cM 0 1) (fun _ => .ok true) (AB (tE (e2 (lI false) (ad 0) (ad 2))) (ad 1) (eC .none)))))
def cD : List PyData -> R PyData := dF 2 (kA)
def gc : Fs :=
  (cF (e1 cs (bL (uJ (ad 0) (ad 1)) 2 [] (cM 0 1) (fun _ => .ok true) (AB (tE (e2 (jb) (ad 0) (eC .none))) (ad 1) (ad 0)))))
def aC : List PyData -> R PyData := dF 2 (gc)
def oW : Fs :=
  (cF (e1 cs (bL (kT (ad 0)) 2 [] (cM 0 1) (tE (e2 (kR) (ad 1) (eC .none))) (ad 0))))
def ca : List PyData -> R PyData := dF 1 (oW)
def ge (ca : List PyData -> R PyData) : Fs :=
  (aU (gw 3 (bL (eA (ad 2)) 1 [] (aS 0) (fun _ => .ok true) (eC .none))) (aU (h9 (jc (eA (aH ca (af (ad 2) aI))) (aS 4) (lH (mE (tE (e2 (iX) (e2 bx (e2 bx (ad 0) (ad 4)) (eC (.int 0))) (ad 1))) (tE (e2 (fu pr) (e2 bx (ad 2) (ad 4)) (eC (.int 0))))) (gS 3 (ad 4) (e2 bx (bL (eA (e2 bx (e2 bx (ad 0) (ad 4)) (eC (.int 3)))) 1 [2, 4] (aS 0) (tE (e2 (iX) (e2 bx (ad 1) (ad 0)) (e2 ny (e2 bx (ad 1) (ad 2)) (eC (.int 1))))) (ad 0)) (eC (.int 0)))) dC))) (cF (e1 cs (cW 3)))))
def aZ : List PyData -> R PyData := dF 5 (ge ca)
def nR : Fs :=
  (cF (e1 cs (bL (eA (ad 0)) 1 [1] (aS 0) (tE (e2 (lI false) (ad 0) (ad 1))) (ad 0))))
def bZ : List PyData -> R PyData := dF 2 (nR)
def jw : Fs :=
  (aU (bQ 4 (bL (eA (ad 1)) 1 [3] (aS 0) (tE (e2 (kR) (e2 bx (ad 1) (ad 0)) (eC .none))) (ad 0))) (aU (lH (tE (e2 (iX) (e2 bx (ad 0) (eC (.int 0))) (ad 2))) (cF (e2 (fu pr) (e1 dE (ad 4)) (eC (.int 0)))) dC) (cF (e2 (iX) (e1 dE (ad 4)) (e1 dE (ad 1))))))
def bO : List PyData -> R PyData := dF 5 (jw)
def kJ (bZ : List PyData -> R PyData) (bO : List PyData -> R PyData) : Fs :=
  (aU (bQ 4 (bL (eA (ad 0)) 1 [1] (aS 0) (fun _ => .ok true) (aH bZ (af (e2 bx (ad 0) (eC (.int 3))) (af (ad 1) aI))))) (aU (gw 5 (bL (ic (af (e1 dE (ad 0)) aI)) 1 [3] (aS 0) (fun _ => .ok true) (AB (tE (e2 (lI false) (ad 0) (ad 1))) (eC (.int 0)) (eC .none)))) (aU (bQ 6 (eC (.int 0))) (aU (bQ 7 (e1 pU (ad 3))) (aU (h9 (oz 1000000 (tE (e2 (fu pr) (e1 dE (ad 7)) (eC (.int 0)))) (aU (uO 6 (fun a b => a + b) (eC (.int 1))) (aU (bQ 8 (bL (eA (ad 1)) 1 [5] (aS 0) (tE (e2 (jb) (e2 bx (cW 1) (ad 0)) (eC .none))) (ad 0))) (aU (bQ 7 (bL (eA (ad 8)) 1 [0, 4, 2, 5] (aS 0) (tE (km 4 (aH bO (af (e2 bx (ad 1) (ad 0)) (af (e2 bx (ad 2) (ad 0)) (af (ad 3) (af (ad 4) aI))))))) (ad 0))) (h9 (jc (eA (ad 7)) (aS 9) (gS 5 (ad 9) (ad 6))))))))) (cF (e1 cs (cW 5))))))))
def cj : List PyData -> R PyData := dF 10 (kJ bZ bO)
def kC : Fs :=
  (cF (e1 cs (bL (eA (ad 0)) 1 [] (aS 0) (fun _ => .ok true) (eC .none))))
def bM : List PyData -> R PyData := dF 1 (kC)
def fX (bZ : List PyData -> R PyData) (bM : List PyData -> R PyData) : Fs :=
  (aU (gw 3 (e1 pU (aH bM (af (ad 0) aI)))) (aU (h9 (jc (eA (ad 2)) (aS 4) (lH (tE (e2 (iX) (e2 bx (e2 bx (ad 0) (ad 4)) (eC (.int 0))) (ad 1))) (gS 3 (ad 4) (e2 bx (aH bZ (af (e2 bx (e2 bx (ad 0) (ad 4)) (eC (.int 3))) (af (ad 2) aI))) (eC (.int 0)))) dC))) (cF (e1 cs (cW 3)))))
def bo : List PyData -> R PyData := dF 5 (fX bZ bM)
def lO : Fs :=
  (cF (e1 cs (bL (eA (ad 0)) 1 [1] (aS 0) (tE (e2 (lI true) (ad 0) (ad 1))) (ad 0))))
def bJ : List PyData -> R PyData := dF 2 (lO)
def dW (cD : List PyData -> R PyData) (aC : List PyData -> R PyData) (aZ : List PyData -> R PyData) (ca : List PyData -> R PyData) (cj : List PyData -> R PyData) (bo : List PyData -> R PyData) (aG : List PyData -> R PyData) (bJ : List PyData -> R PyData) (c_Share : Addr) : Fs :=
  (aU (bQ 2 (e1 nL (bL (eA (ad 1)) 1 [0] (aS 0) (fun _ => .ok true) (e2 bx (e2 bx (ad 1) (ad 0)) (eC (.int 1)))))) (aU (bQ 3 (e2 fD (ad 2) (eC (.int 2)))) (aU (bQ 4 (e2 ny (eC (.int 1)) (ad 3))) (aU (bQ 5 (bL (eA (ad 1)) 1 [0, 2] (aS 0) (tE (e2 (iX) (e2 bx (e2 bx (ad 1) (ad 0)) (eC (.int 1))) (ad 2))) (ad 0))) (aU (bQ 6 (aH cj (af (ad 0) (af (ad 1) (af (ad 3) (af (ad 5) aI)))))) (aU (bQ 7 (aH aG (af (ad 0) (af (aH bJ (af (ad 1) (af (aH ca (af (ad 6) aI)) aI))) aI)))) (aU (bQ 8 (bL (kT (e2 bx (ad 7) (eC (.int 0)))) 2 [4] (cM 0 1) (tE (e2 (iX) (ad 1) (ad 2))) (ad 0))) (aU (lH (tE (e2 (iX) (e1 dE (ad 8)) (eC (.int 0)))) (aU (bQ 9 (aH aC (af (aH aZ (af (ad 0) (af (ad 3) (af (ad 6) aI)))) (af (e2 bx (ad 7) (eC (.int 1))) aI)))) (cF (re c_Share ["who", "places", "moves"] (af (ad 3) (af (ad 1) (af (aH aC (af (ad 9) (af (aH bo (af (ad 0) (af (ad 3) (af (ad 1) aI)))) aI))) aI)))))) dC) (aU (bQ 6 (aH cj (af (ad 0) (af (ad 1) (af (ad 4) (af (ad 8) aI)))))) (aU (bQ 9 (aH aC (af (aH aZ (af (ad 0) (af (ad 4) (af (ad 6) aI)))) (af (aH cD (af (e2 bx (ad 7) (eC (.int 1))) (af (ad 8) aI))) aI)))) (cF (re c_Share ["who", "places", "moves"] (af (ad 4) (af (aH ca (af (ad 6) aI)) (af (ad 9) aI)))))))))))))))
def ed (aC : List PyData -> R PyData) (bM : List PyData -> R PyData) (c_Share : Addr) : Fs :=
  (aU (gw 2 (bL (eA (ad 0)) 1 [] (aS 0) (fun _ => .ok true) (eC .none))) (aU (bQ 3 (aH bM (af (ad 0) aI))) (aU (h9 (jc (eA (ad 1)) (aS 4) (aU (h9 (jc (eA (e1 (kc c_Share "places") (ad 4))) (aS 5) (gS 2 (ad 5) (e1 (kc c_Share "who") (ad 4))))) (bQ 3 (aH aC (af (ad 3) (af (e1 (kc c_Share "moves") (ad 4)) aI))))))) (cF (qx (af (e1 cs (cW 2)) (af (ad 3) aI)))))))
def aW (c_Share : Addr) : List PyData -> R PyData := dF 6 (ed aC bM c_Share)
def dR (aT : List PyData -> R PyData) (aW : List PyData -> R PyData) (bJ : List PyData -> R PyData) (c_Share : Addr) : Fs :=
  (aU (gw 2 (la aI)) (aU (bQ 3 (ad 1)) (aU (h9 (oz 1000000 (tE (e2 (fu pr) (e1 dE (ad 3)) (eC (.int 0)))) (aU (bQ 4 (aH aT (af (ad 0) (af (ad 3) aI)))) (aU (cr 2 (ad 4)) (bQ 3 (aH bJ (af (ad 3) (af (e1 (kc c_Share "places") (ad 4)) aI)))))))) (D7 2 (cF (aH aW (af (ad 0) (af (ad 2) aI))))))))
def aG (c_Share : Addr) : Nat -> List PyData -> R PyData
  | 0 => fun _ => .no
  | k + 1 => dF 5 (dR (dF 10 (dW cD aC aZ ca cj bo (aG c_Share k) bJ c_Share)) (aW c_Share) bJ c_Share)
def aT (c_Share : Addr) (k : Nat) : List PyData -> R PyData := dF 10 (dW cD aC aZ ca cj bo (aG c_Share k) bJ c_Share)
def yS (cq : List PyData -> R PyData) (aG : List PyData -> R PyData) : Fs :=
  (cF (aH aG (af (ad 0) (af (aH cq (af (ad 0) aI)) aI))))
def k9 (c_Share : Addr) : List PyData -> R PyData := dF 1 (yS cq (aG c_Share 14))
def yD (cc : List PyData -> R PyData) (aA : List PyData -> R PyData) (cn : List PyData -> R PyData) (bf : List PyData -> R PyData) (eB : List PyData -> R PyData) (dm : List PyData -> R PyData) (k9 : List PyData -> R PyData) : Fs :=
  (aU (bQ 1 (aH cn (af (ad 0) (af (eC (.int 24)) aI)))) (aU (uQ (cM 2 3) (aH k9 (af (ad 1) aI))) (aU (h9 (jc (ic (af (eC (.int 4)) aI)) (aS 4) (aU (bQ 5 (bL (eA (qx (af (eC (.int 0)) (af (eC (.int 1)) aI)))) 1 [1, 0, 4] (aS 0) (fun _ => .ok true) (aH cc (af (ad 1) (af (ad 0) (af (aH aA (af (aH bf (af (ad 2) (af (eC (.int 1)) aI))) (af (ad 3) aI))) (af (eC (.int 0)) aI))))))) (h9 (jc (ic (af (e1 dE (ad 1)) aI)) (aS 6) (aU (bQ 7 (e2 bx (ad 2) (ad 6))) (aU (gw 8 (la aI)) (aU (h9 (jc (p8 (ad 1) (ad 3) (e2 bx (ad 5) (ad 7))) (sj 9 10 11) (lH (nz (tE (e2 (jb) (ad 10) (eC .none))) (tE (e2 (wx) (e2 bx (ad 9) (eC (.int 0))) (ad 7)))) (cr 8 (ad 11)) (cr 8 (ad 10))))) (aU (bQ 12 (la (af (e1 cs (cW 8)) (af (e2 bx (ad 5) (eC (.int 1))) aI)))) (aU (lH (tE (e2 (iX) (ad 7) (eC (.int 1)))) (bQ 12 (la (af (e2 bx (ad 5) (eC (.int 0))) (af (e1 cs (cW 8)) aI)))) dC) (aU (uQ (cM 13 14) (aH dm (af (ad 1) (af (e2 bx (ad 12) (eC (.int 0))) (af (e2 bx (ad 12) (eC (.int 1))) (af (ad 6) aI)))))) (lH (nz (ip (tE (e1 lT (bL (eA (e2 fQ (ad 13) (ad 14))) 1 [2, 7] (aS 0) (fun _ => .ok true) (e2 (iX) (e2 bx (ad 1) (ad 0)) (ad 2)))))) (tE (e2 (wx) (aH eB (af (ad 1) (af (ad 14) aI))) (ad 7)))) (cF (eC (.bool false))) dC)))))))))))) (cF (eC (.bool true))))))
def vB (c_Share : Addr) : List PyData -> R PyData := dF 15 (yD cc aA cn bf eB dm (k9 c_Share))
end G
end
namespace G
open PySem PySem.Spec PyProof.Rows L2 D2
theorem AH (ns : List Int) {k : Int} (hk : 0 <= k) : ∃ v, ce [rn ns, .int k] = .ok (.int v) := by
  unfold ce ia;by_cases h : k < ns.length
  · refine ⟨ns[k.toNat]'(by omega), ?_⟩;have hx := vP (xs := ns.map PyData.int) (i := k) hk (by simpa using h);rw [fw];simp [h, hx]
  · refine ⟨0, ?_⟩;rw [fw];simp [h]
theorem nN (ns : List Int) {k : Int} (hk : 0 <= k) : ∃ v, bf [rn ns, .int k] = .ok (.int v) /\ 0 <= v /\ v < 2147483629 := by
  obtain ⟨c, hc⟩ := AH ns hk;unfold bf jJ;have m1 : fV (.int 7919) (.int k) = .ok (.int (7919 * k)) := iF (.inl (by omega));have m2 : fV (.int (c + 7919 * k + 1)) (.int 48271) = .ok (.int ((c + 7919 * k + 1) * 48271)) := iF (.inr (by omega));generalize hd : (c + 7919 * k + 1) * 48271 % 2147483647 = d;have hd0 : 0 <= d := by omega
  have hd1 : d < 2147483647 := by omega
  have m3 : fV (.int d) (.int d) = .ok (.int (d * d)) := iF (.inl (by omega));have m4 : fV (.int 7) (.int d) = .ok (.int (7 * d)) := iF (.inl (by omega));refine ⟨(d * d + 7 * d + k) % 2147483629, ?_, by omega, by omega⟩;rw [fw];simp [hc, m1, m2, hd, m3, m4, List.replicate]
theorem ls (n k : Int) : ∃ v, aA [.int n, .int k] = .ok (.int v) /\ 0 <= v /\ v < 2147483629 := by
  unfold aA ju;have m1 : fV (.int 104729) (.int k) = .ok (.int (104729 * k)) := iF (.inl (by omega));have m2 : fV (.int (n + 104729 * k + 17)) (.int 69621) = .ok (.int ((n + 104729 * k + 17) * 69621)) := iF (.inr (by omega));generalize hd : (n + 104729 * k + 17) * 69621 % 2147483647 = d;have hd0 : 0 <= d := by omega
  have hd1 : d < 2147483647 := by omega
  have m3 : fV (.int d) (.int d) = .ok (.int (d * d)) := iF (.inl (by omega));have m4 : fV (.int 3) (.int d) = .ok (.int (3 * d)) := iF (.inl (by omega));refine ⟨(d * d + 3 * d + k) % 2147483629, ?_, by omega, by omega⟩;rw [fw];simp [m1, m2, hd, m3, m4, List.replicate]
theorem oJ (n c : Int) (hc : 1 <= c) : ∀ (ds : List PyData) (m : Nat) (kvs : List (PyData × PyData)) (x : ba), tj c m kvs -> (∀ d ∈ ds, ∃ k, d = .int k) -> m + ds.length <= 1000 ->
    ∃ kvs' x', tj c (m + ds.length) kvs' /\ eS (aS 3) (xB 2 (e2 fD (aH aA (af (ad 0) (af (ad 3) aI))) (ad 1)) (eC (.bool true))) ds [.val (.int n), .val (.int c), .own (.dict kvs), x]
      = .ok (.nx [.val (.int n), .val (.int c), .own (.dict kvs'), x'])
  | [], m, kvs, x, hk, _, _ => ⟨kvs, x, hk, by rw [fT]⟩
  | d :: ds, m, kvs, x, hk, hi, hl => by
    obtain ⟨k, rfl⟩ := hi d List.mem_cons_self;obtain ⟨v, hv, v0, v1⟩ := ls n k;have hk' := hk.put (k := v % c) (Int.emod_nonneg _ (by omega)) (Int.emod_lt_of_pos _ (by omega)) (.bool true);obtain ⟨kvs', x', h1, h2⟩ := oJ n c hc ds (m + 1) _ (.val (.int k)) hk' (fun d hd => hi d (List.mem_cons_of_mem _ hd)) (by simp at hl; omega);refine ⟨kvs', x', by rw [List.length_cons]; simpa [Nat.add_comm, Nat.add_left_comm, Nat.add_assoc] using h1, ?_⟩;have hlen := hk.len;have hsz : kvs.length < sizeLine := Nat.lt_of_le_of_lt (show kvs.length <= 1000 by simp at hl; omega) (by decide);have hc' : 0 < c := by omega
    rw [eP, <- h2];simp [xB, hv, hc', iq, hsz]
theorem v4 {n c : Int} (hn : 0 <= n) (hc : 1 <= c) : ∃ ns : List Int, cL [.int n, .int c] = .ok (.tuple (ns.map .int)) /\ (∀ x ∈ ns, 0 <= x /\ x < c) /\ ns ≠ [] /\ ns.Pairwise (· < ·) := by
  unfold cL jt;have m1 : ∀ k : Int, fV (.int 20) (.int k) = .ok (.int (20 * k)) := fun k => iF (.inl (by omega))
  generalize hN : (1 + n % 3 + 20 * (if n / 3 % 29 = 7 then 1 else 0) : Int) = N;have hN0 : 1 <= N := by split at hN <;> omega
  have hN1 : N <= 23 := by split at hN <;> omega
  obtain ⟨kvs, x, hk, hf⟩ := oJ n c hc (bG 0 N.toNat) 0 [] .non ⟨[], rfl, by simp, by simp, .inl rfl, by simp⟩ (sM _ _) (by rw [gA]; omega);obtain ⟨ns, e, hb, hl, hz, nd⟩ := hk.ex;rw [gA] at hl hz;have hi : cY (kvs.map (·.1)) = some ns := by rw [e, gM]
  have hs : jU (.dict kvs) = .ok (.list ((gh ns).map PyData.int)) := by
    show (match cY (kvs.map (·.1)) with | some ns => if ns.length < 64 then R.ok (PyData.list ((gh ns).map PyData.int)) else .no | none => .no) = _;rw [hi];exact if_pos (by omega)
  have hr : -(2 ^ 62) <= N /\ N < 2 ^ 62 := by omega
  refine ⟨gh ns, ?_, fun x hx => hb x ((fj ns).mem_iff.mp hx), ?_, wA (iU ns) ((fj ns).nodup_iff.mpr nd)⟩
  · rw [fw];have hg : pC [.int N] = .ok (bG 0 N.toNat) := by
      show (if -(2 ^ 62) <= N /\ N < 2 ^ 62 then R.ok (bG 0 N.toNat) else .no) = _;rw [if_pos hr]
    simp [fH, fL, m1, List.replicate, hN, hg, hf, hs]
  · intro z;have := (fj ns).length_eq;rw [z] at this;rcases hz with q | q
    · omega
    · exact q (List.eq_nil_of_length_eq_zero this.symm)
theorem wF {n c h : Int} (hn : 0 <= n) (hc : 1 <= c) (h0 : 0 <= h) : ∃ p : P4, cz [.int n, .int c, .int h] = .ok p.d /\ Pl c h p := by
  obtain ⟨v, hv, v0, v1⟩ := ls n 9;obtain ⟨ns, hg, hb, hne, hso⟩ := v4 (n := v) (c := c) v0 hc;unfold cz jk;have hh : 0 < h + 1 := by omega
  have s4 : 4 <= sizeLine := by decide
  have a1 := Int.emod_nonneg (n / 2) (show h + 1 ≠ 0 by omega);have a2 := Int.emod_lt_of_pos (n / 2) hh;by_cases hq : n / 234 % 11 = 3
  · refine ⟨⟨n % 2, n / 2 % (h + 1), n / 26 % 41 - 20, ns⟩, ?_, ⟨by dsimp only; omega, by dsimp only; omega, a1, by dsimp only; omega, by dsimp only; omega, by dsimp only; omega, hne, hso, hb⟩⟩;rw [fw];simp [hh, fL, hq, hv, hg, s4, P4.d]
  · refine ⟨⟨n % 2, n / 2 % (h + 1), n / 26 % 9 - 4, ns⟩, ?_, ⟨by dsimp only; omega, by dsimp only; omega, a1, by dsimp only; omega, by dsimp only; omega, by dsimp only; omega, hne, hso, hb⟩⟩;rw [fw];simp [hh, fL, hq, hv, hg, s4, P4.d]
theorem sW (f : Fe) (ρ : aN) (i : Nat) (P : P4 -> Prop) : ∀ ds : List PyData, (∀ d ∈ ds, ∃ p : P4, f (ρ.set i (.val d)) = .ok p.d /\ P p) -> ∃ ps : List P4, bE (aS i) (fun _ => .ok true) f ρ ds = .ok (ps.map P4.d) /\ ps.length = ds.length /\ ∀ p ∈ ps, P p
  | [], _ => ⟨[], cB .., rfl, by simp⟩
  | d :: ds, h => by
    obtain ⟨x, h1, h2⟩ := h d List.mem_cons_self;obtain ⟨xs, h3, h4, h5⟩ := sW f ρ i P ds fun d hd => h d (List.mem_cons_of_mem _ hd)
    refine ⟨x :: xs, ?_, by simp [h4], fun y hy => ?_⟩
    · rw [eL, h1, h3]; rfl
    · rcases List.mem_cons.mp hy with rfl | hy
      · exact h2
      · exact h5 y hy
theorem uu (ns : List Int) {most : Int} (hm0 : 1 <= most) (hm1 : most <= 24) : ∃ (ps : List P4) (hi : Int), cn [rn ns, .int most] = .ok (gD ps) /\ (∀ p ∈ ps, Pl ps.length hi p) /\ 1 <= ps.length /\ (ps.length : Int) <= most /\ 0 <= hi /\ hi <= 12 := by
  obtain ⟨v, hv, v0, v1⟩ := nN ns (k := 0) (by omega);unfold cn iV;generalize hm : (if (if (ns.length : Int) > 4 then (ns.length : Int) else 4) < most then (if (ns.length : Int) > 4 then (ns.length : Int) else 4) else most) = m;have m0 : 0 < m := by split at hm <;> split at hm <;> omega
  have m1 : m <= most := by split at hm <;> split at hm <;> omega
  generalize hc : 1 + v % m = c;have c0 : 1 <= c := by have := Int.emod_nonneg v (show m ≠ 0 by omega); omega
  have c1 : c <= most := by have := Int.emod_lt_of_pos v m0; omega
  have hix : ∃ h, bx (.list [.int 1, .int 2, .int 3, .int 5, .int 12, .int 12]) (.int (v / 24 % 6)) = .ok (.int h) /\ 0 <= h /\ h <= 12 := by
    obtain ⟨x, hx, e⟩ := A5 (xs := [.int 1, .int 2, .int 3, .int 5, .int 12, .int 12]) (i := v / 24 % 6) (by omega) (by simp; omega);rw [e];simp at hx;rcases hx with rfl | rfl | rfl | rfl | rfl <;> exact ⟨_, rfl, by decide, by decide⟩
  obtain ⟨h, hh, h0, h1⟩ := hix;have s6 : 6 <= sizeLine := by decide
  have hr : pC [.int c] = .ok (bG 0 c.toNat) := by
    show (if -(2 ^ 62) <= c /\ c < 2 ^ 62 then R.ok (bG 0 c.toNat) else .no) = _;rw [if_pos (by omega)]
  obtain ⟨xs, e1, e2, e3⟩ := sW (aH cz (af (aH bf (af (ad 1) (af (e2 fQ (eC (.int 3)) (ad 0)) aI))) (af (ad 2) (af (ad 3) aI)))) (aB 1 [0, 3, 4] [.val (rn ns), .val (.int most), .val (.int v), .val (.int c), .val (.int h)]) 0 (Pl c h) (bG 0 c.toNat) fun d hd => by
    unfold bG at hd;obtain ⟨k, _, rfl⟩ := List.mem_map.mp hd;obtain ⟨w, hw, w0, w1⟩ := nN ns (k := 3 + (0 + (k : Int))) (by omega);obtain ⟨d, hd1, hd2⟩ := wF (n := w) (c := c) (h := h) w0 c0 h0;refine ⟨d, ?_, hd2⟩;simp at hw;simp [aB, List.replicate, hw, hd1]
  rw [gA] at e2;have ec : (xs.length : Int) = c := by omega
  refine ⟨xs, h, ?_, by rw [ec]; exact e3, by omega, by omega, h0, h1⟩;rw [fw];simp [hv, hm, m0, hc, s6, hh, List.replicate, bi, hr, gA, bD (show c.toNat <= 1000 by omega), e1]
def cO (ns : List Int) (i : Int) : Bool := ns.any fun j => decide (j = i)
theorem bS {ns : List Int} {i : Int} : cO ns i = true <-> i ∈ ns := by
  unfold cO;rw [List.any_eq_true];constructor
  · rintro ⟨j, hj, e⟩;have := of_decide_eq_true e;exact this ▸ hj
  · exact fun h => ⟨i, h, decide_eq_true rfl⟩
theorem ji : ∀ ns : List Int, PyData.depthAll (ns.map .int) = 0
  | [] => by simp [PyData.depthAll]
  | n :: ns => by simp [PyData.depthAll, PyData.depth, ji ns]
theorem nT (ns : List Int) : PyData.canLayAll0 (ns.map .int) = true := lD fun x hx => by
  obtain ⟨i, _, rfl⟩ := List.mem_map.mp hx;exact sJ i
theorem pS (ns : List Int) (i : Int) : nr (ns.map .int) (.int i) = true := by
  unfold nr;rw [nT, ji];simp [PyData.canLay0]
theorem r0 (ns : List Int) (i : Int) : ((ns.map PyData.int).any fun y => PyData.eqv y (.int i)) = cO ns i := by
  rw [List.any_map];congr 1
theorem Bw (ns : List Int) (i : Int) (neg : Bool) : lI neg (.int i) (.tuple (ns.map .int)) = .ok (.bool (if neg then !cO ns i else cO ns i)) := by
  show (if nr (ns.map .int) (.int i) = true then R.ok (PyData.bool _) else .no) = _;rw [if_pos (pS ns i), r0]
theorem DQ (ns : List Int) (i : Int) (neg : Bool) : lI neg (.int i) (.list (ns.map .int)) = .ok (.bool (if neg then !cO ns i else cO ns i)) := by
  show (if nr (ns.map .int) (.int i) = true then R.ok (PyData.bool _) else .no) = _;rw [if_pos (pS ns i), r0]
theorem cV {t : aN -> R Bool} {ρ : aN} {p : Int -> Bool} : ∀ ns : List Int, (∀ x ∈ ns, t ((ba.non :: ρ).set 0 (.val (.int x))) = .ok (p x)) -> bE (aS 0) t (ad 0) (.non :: ρ) (ns.map .int) = .ok ((ns.filter p).map .int)
  | [], _ => cB ..
  | x :: ns, h => by
    rw [List.map_cons, eL, h x List.mem_cons_self, cV ns fun y hy => h y (List.mem_cons_of_mem _ hy)];cases hp : p x with
    | true => rw [List.filter_cons_of_pos hp]; rfl
    | false => rw [List.filter_cons_of_neg (by rw [hp]; simp)]; rfl
theorem ky (c : Nat) : bG 0 c = ((List.range c).map fun (k : Nat) => (k : Int)).map .int := by
  unfold bG;rw [List.map_map];apply List.map_congr_left;intro k _;simp
def aw (ps : List P4) (i : Int) : List Int := (ps[i.toNat]?.map (·.ns)).getD []
theorem ln {ps : List P4} {i : Int} (h0 : 0 <= i) (h1 : i < ps.length) : bx (gD ps) (.int i) = .ok (ps[i.toNat]'(by omega)).d := by
  rw [vI h0 (by simpa using h1)];simp
theorem dP {ps : List P4} {i : Int} (h0 : 0 <= i) (h1 : i < ps.length) : aw ps i = (ps[i.toNat]'(by omega)).ns := by
  unfold aw;rw [List.getElem?_eq_getElem (by omega)];rfl
theorem oI (p : P4) : bx p.d (.int 3) = .ok (.tuple (p.ns.map .int)) := rfl
theorem qy (p : P4) : bx p.d (.int 0) = .ok (.int p.w) := rfl
def aj (ps : List P4) (i : Int) : Int := (ps[i.toNat]?.map (·.w)).getD 0
theorem gv {ps : List P4} {i : Int} (h0 : 0 <= i) (h1 : i < ps.length) : aj ps i = (ps[i.toNat]'(by omega)).w := by
  unfold aj;rw [List.getElem?_eq_getElem (by omega)];rfl
def bF (ps : List P4) (js : List Int) (i : Int) : List Int := (aw ps i).filter (cO js)
def mF (ps : List P4) (js kn : List Int) (i : Int) : List Int := (bF ps js i).filter (cO kn)
def jf (ps : List P4) (js : List Int) (who : Int) (kn : List Int) (i : Int) : Bool :=
  !cO kn i && (decide (0 < (mF ps js kn i).length) && (decide (aj ps i = who) || decide ((mF ps js kn i).length = (bF ps js i).length)))
def eR (ps : List P4) (js : List Int) (who : Int) (kn is : List Int) : List Int := is.filter (jf ps js who kn)
def cN (ps : List P4) (js : List Int) (who r : Int) (kvs : List (Int × Int)) : List (Int × Int) := kvs ++ (eR ps js who (kvs.map (·.1)) js).map fun i => (i, r)
def gU (ps : List P4) (js : List Int) (who : Int) : Int -> Nat -> List (Int × Int) -> List (Int × Int)
  | _, 0, kvs => kvs
  | r, n + 1, kvs => gU ps js who (r + 1) n (cN ps js who r kvs)
theorem jN : ∀ {l m : List Int}, l.Nodup -> (∀ x ∈ l, x ∈ m) -> l.length <= m.length
  | [], m, _, _ => Nat.zero_le _
  | x :: l, m, nd, h => by
    obtain ⟨n1, n2⟩ := List.nodup_cons.mp nd;have hx := h x List.mem_cons_self;have := jN (m := m.erase x) n2 fun y hy => (List.mem_erase_of_ne (by rintro rfl; exact n1 hy)).mpr (h y (List.mem_cons_of_mem _ hy))
    rw [List.length_erase_of_mem hx] at this;have hp := List.length_pos_of_mem hx;rw [List.length_cons];omega
structure jh (js : List Int) (kvs : List (Int × Int)) : Prop where
  nd : (kvs.map (·.1)).Nodup
  sub : ∀ x ∈ kvs.map (·.1), x ∈ js
theorem jh.len {js : List Int} {kvs : List (Int × Int)} (h : jh js kvs) (nj : js.Nodup) : kvs.length <= js.length := by
  have := jN h.nd h.sub;simpa using this
theorem kG (ps : List P4) (js : List Int) (who r : Int) (kvs : List (Int × Int)) : (cN ps js who r kvs).map (·.1) = kvs.map (·.1) ++ eR ps js who (kvs.map (·.1)) js := by
  unfold cN;rw [List.map_append, List.map_map];congr 1;exact List.map_id _
theorem oO {ps : List P4} {js : List Int} {who : Int} {kn is : List Int} {x : Int} (h : x ∈ eR ps js who kn is) : x ∈ is /\ x ∉ kn := by
  obtain ⟨h1, h2⟩ := List.mem_filter.mp h;refine ⟨h1, fun z => ?_⟩;unfold jf at h2;rw [bS.mpr z] at h2;simp at h2
theorem jh.round {ps : List P4} {js : List Int} {who r : Int} {kvs : List (Int × Int)} (h : jh js kvs) (nj : js.Nodup) : jh js (cN ps js who r kvs) := by
  refine ⟨?_, fun x hx => ?_⟩
  · rw [kG, List.nodup_append];refine ⟨h.nd, List.Pairwise.filter _ nj, fun a ha b hb e => ?_⟩;subst e;exact (oO hb).2 ha
  · rw [kG, List.mem_append] at hx;rcases hx with z | z
    · exact h.sub x z
    · exact (oO z).1
theorem kS (ps : List P4) (js : List Int) (who : Int) : ∀ (n : Nat) (r : Int) (kvs : List (Int × Int)), gU ps js who r (n + 1) kvs = cN ps js who (r + n) (gU ps js who r n kvs)
  | 0, r, kvs => by
    show cN ps js who r kvs = cN ps js who (r + ((0 : Nat) : Int)) kvs;simp
  | n + 1, r, kvs => by
    show gU ps js who (r + 1) (n + 1) (cN ps js who r kvs) = _;rw [kS ps js who n (r + 1)];show cN ps js who (r + 1 + n) _ = cN ps js who (r + ((n + 1 : Nat) : Int)) _;rw [show r + 1 + (n : Int) = r + ((n + 1 : Nat) : Int) by omega];rfl
def aK (ps : List P4) (js : List Int) (who : Int) (gs : List Int) : Nat -> List Int
  | 0 => gs
  | m + 1 => aK ps js who gs m ++ eR ps js who (aK ps js who gs m) js
def w5 (ps : List P4) (js : List Int) (who : Int) (gs : List Int) (m : Nat) : List (Int × Int) := gU ps js who 1 m (gs.map fun i => (i, 0))
theorem nO (ps : List P4) (js : List Int) (who : Int) (gs : List Int) (m : Nat) : w5 ps js who gs (m + 1) = cN ps js who (m + 1) (w5 ps js who gs m) := by
  unfold w5;rw [kS];congr 1;omega
theorem e9 (ps : List P4) (js : List Int) (who : Int) (gs : List Int) : ∀ m, (w5 ps js who gs m).map (·.1) = aK ps js who gs m
  | 0 => by
    show (gs.map fun i => ((i, 0) : Int × Int)).map (·.1) = gs;rw [List.map_map];exact List.map_id _
  | m + 1 => by
    rw [nO, kG, e9 ps js who gs m];rfl
def look (kvs : List (Int × Int)) (i : Int) : Option Int := (kvs.find? fun q => decide (q.1 = i)).map (·.2)
theorem mH (a b : List (Int × Int)) (i : Int) : look (a ++ b) i = (look a i).or (look b i) := by
  unfold look;rw [List.find?_append];cases a.find? _ <;> rfl
theorem gq {kvs : List (Int × Int)} {i : Int} : look kvs i = none <-> i ∉ kvs.map (·.1) := by
  unfold look;rw [Option.map_eq_none_iff, List.find?_eq_none];constructor
  · intro h z;obtain ⟨q, hq, e⟩ := List.mem_map.mp z;exact h q hq (decide_eq_true e)
  · intro h q hq e;exact h (List.mem_map.mpr ⟨q, hq, of_decide_eq_true e⟩)
theorem iJ (r : Int) (i : Int) : ∀ l : List Int, look (l.map fun j => (j, r)) i = if i ∈ l then some r else none
  | [] => rfl
  | j :: l => by
    have ih := iJ r i l;unfold look at ih ⊢;by_cases h : j = i
    · subst h;rw [List.map_cons, List.find?_cons_of_pos (by simp)];simp
    · rw [List.map_cons, List.find?_cons_of_neg (by simpa using h), ih];by_cases h2 : i ∈ l
      · simp [h2]
      · have : ¬ (i = j) := fun z => h z.symm
        simp [h2, this]
section
variable {ps : List P4} {js : List Int} {who : Int} {gs : List Int}
theorem jM {i : Int} {k : Nat} (h : i ∈ aK ps js who gs k) : ∀ {m : Nat}, k <= m -> i ∈ aK ps js who gs m
  | 0, hm => by have : k = 0 := by omega
                subst this; exact h
  | m + 1, hm => by
    by_cases e : k = m + 1
    · subst e; exact h
    · show i ∈ aK ps js who gs m ++ _;exact List.mem_append_left _ (jM h (by omega))
theorem fG {i : Int} : ∀ {m : Nat} {q : Int}, look (w5 ps js who gs m) i = some q <-> ∃ k : Nat, q = k /\ k <= m /\ i ∈ aK ps js who gs k /\ (k = 0 \/ i ∉ aK ps js who gs (k - 1))
  | 0, q => by
    show look (gs.map fun j => (j, 0)) i = some q <-> _;rw [iJ];constructor
    · intro h;split at h
      · rename_i hi;cases h;exact ⟨0, rfl, Nat.le_refl _, hi, .inl rfl⟩
      · cases h
    · rintro ⟨k, rfl, hk, hi, _⟩;have : k = 0 := by omega
      subst this;rw [if_pos (show i ∈ gs from hi)];rfl
  | m + 1, q => by
    have ih := fun q => fG (i := i) (m := m) (q := q)
    have e : w5 ps js who gs (m + 1) = w5 ps js who gs m ++ (eR ps js who (aK ps js who gs m) js).map fun j => (j, ((m + 1 : Nat) : Int)) := by
      rw [nO];unfold cN;rw [e9];rfl
    rw [e, mH, iJ];by_cases hi : i ∈ aK ps js who gs m
    · cases h0 : look (w5 ps js who gs m) i with
      | none => rw [gq, e9] at h0; exact (h0 hi).elim
      | some q0 =>
        rw [Option.some_or, <- h0, ih q];constructor
        · rintro ⟨k, a, b, c, d⟩;exact ⟨k, a, by omega, c, d⟩
        · rintro ⟨k, a, b, c, d⟩;refine ⟨k, a, ?_, c, d⟩;by_cases hk : k = m + 1
          · subst hk;rcases d with d | d
            · omega
            · exact (d hi).elim
          · omega
    · have h0 : look (w5 ps js who gs m) i = none := by rw [gq, e9]; exact hi
      rw [h0, Option.none_or];constructor
      · intro h;split at h
        · rename_i hn;cases h;exact ⟨m + 1, rfl, Nat.le_refl _, List.mem_append_right _ hn, .inr hi⟩
        · cases h
      · rintro ⟨k, rfl, b, c, d⟩;have hk : k = m + 1 := by
          by_cases hk : k = m + 1
          · exact hk
          · exact (hi (jM c (by omega))).elim
        subst hk;have c' : i ∈ aK ps js who gs m ++ eR ps js who (aK ps js who gs m) js := c;rw [if_pos ((List.mem_append.mp c').elim (fun z => (hi z).elim) id)]
theorem vi {k : Nat} (h : eR ps js who (aK ps js who gs k) js = []) : ∀ d, aK ps js who gs (k + d) = aK ps js who gs k
  | 0 => rfl
  | d + 1 => by
    show aK ps js who gs (k + d) ++ eR ps js who (aK ps js who gs (k + d)) js = _;rw [vi h d, h, List.append_nil]
theorem ql (ng : gs.Nodup) (hg : ∀ x ∈ gs, x ∈ js) (nj : js.Nodup) : ∀ m, jh js (w5 ps js who gs m)
  | 0 => ⟨by rw [e9]; exact ng, fun x hx => by rw [e9] at hx; exact hg x hx⟩
  | m + 1 => by rw [nO]; exact (ql ng hg nj m).round nj
theorem ue (ng : gs.Nodup) (hg : ∀ x ∈ gs, x ∈ js) (nj : js.Nodup) {m : Nat} {i : Int} (h : i ∈ aK ps js who gs m) : i ∈ js := by
  have := (ql (ps := ps) (who := who) ng hg nj m).sub;rw [e9] at this;exact this i h
theorem CI (ng : gs.Nodup) (hg : ∀ x ∈ gs, x ∈ js) (nj : js.Nodup) (m : Nat) : (aK ps js who gs m).length <= js.length := by
  have := (ql (ps := ps) (who := who) ng hg nj m).len nj;rw [<- e9, List.length_map];exact this
theorem vy : ∀ m, (∀ k, k < m -> eR ps js who (aK ps js who gs k) js ≠ []) -> m + gs.length <= (aK ps js who gs m).length
  | 0, _ => by show 0 + gs.length <= gs.length; omega
  | m + 1, h => by
    have := vy m fun k hk => h k (by omega)
    have h1 := h m (by omega);have h2 := List.length_pos_iff.mpr h1;show _ <= (aK ps js who gs m ++ eR ps js who (aK ps js who gs m) js).length;rw [List.length_append];omega
theorem CH (ng : gs.Nodup) (hg : ∀ x ∈ gs, x ∈ js) (nj : js.Nodup) {n : Nat} (hn : js.length <= n) : eR ps js who (aK ps js who gs n) js = [] := by
  by_cases h : eR ps js who (aK ps js who gs n) js = []
  · exact h
  · have := vy (ps := ps) (js := js) (who := who) (gs := gs) (n + 1) fun k hk e => h (by
      have s := vi e (n - k);rw [show k + (n - k) = n by omega] at s;rw [s]; exact e)
    have := CI (ps := ps) (who := who) ng hg nj (n + 1);omega
theorem ib {α : Type} (p : α -> Bool) : ∀ l : List α, (l.filter p).length = l.length <-> ∀ x ∈ l, p x = true
  | [] => by simp
  | x :: l => by
    have ih := ib p l;have le := List.length_filter_le p l;cases h : p x with
    | true => rw [List.filter_cons_of_pos h]; simp [ih, h]
    | false => rw [List.filter_cons_of_neg (by rw [h]; simp)]; simp [h]; omega
theorem nM {α : Type} (p : α -> Bool) (l : List α) : 0 < (l.filter p).length <-> ∃ x ∈ l, p x = true := by
  rw [List.length_pos_iff_exists_mem];simp [List.mem_filter]
theorem fN {kn : List Int} {i : Int} : jf ps js who kn i = true <-> i ∉ kn /\ (∃ g ∈ bF ps js i, g ∈ kn) /\ (aj ps i = who \/ ∀ g ∈ bF ps js i, g ∈ kn) := by
  unfold jf mF;rw [Bool.and_eq_true, Bool.and_eq_true, Bool.or_eq_true, decide_eq_true_iff, decide_eq_true_iff, decide_eq_true_iff, nM, ib, Bool.not_eq_true', <- Bool.not_eq_true, bS];simp only [bS]
def rK (ps : List P4) (js : List Int) (who : Int) (gs : List Int) (i : Int) : Option Int := look (w5 ps js who gs ps.length) i
structure uK (ps : List P4) (js : List Int) (who : Int) (gs : List Int) (rk : Int -> Option Int) : Prop where
  nneg : ∀ i q, rk i = some q -> 0 <= q
  sub : ∀ i q, rk i = some q -> i ∈ js
  zero : ∀ i, rk i = some 0 <-> i ∈ gs
  own : ∀ i q, rk i = some q -> 0 < q -> aj ps i = who -> ∃ g ∈ bF ps js i, rk g = some (q - 1)
  low : ∀ i q g t, rk i = some q -> 0 < q -> aj ps i = who -> g ∈ bF ps js i -> rk g = some t -> q - 1 <= t
  oth : ∀ i q, rk i = some q -> 0 < q -> aj ps i ≠ who -> (∃ g, g ∈ bF ps js i) /\ ∀ g ∈ bF ps js i, ∃ t, rk g = some t /\ t < q
  outO : ∀ i, i ∈ js -> rk i = none -> aj ps i = who -> ∀ g ∈ bF ps js i, rk g = none
  outX : ∀ i, i ∈ js -> rk i = none -> aj ps i ≠ who -> (∃ g, g ∈ bF ps js i) -> ∃ g ∈ bF ps js i, rk g = none
theorem vp (ng : gs.Nodup) (hg : ∀ x ∈ gs, x ∈ js) (nj : js.Nodup) (hn : js.length <= ps.length) : uK ps js who gs (rK ps js who gs) := by
  have ex : ∀ {i k}, i ∈ aK ps js who gs k -> k <= ps.length -> ∃ t : Nat, t <= k /\ rK ps js who gs i = some (t : Int) := fun {i} => by
    intro k;induction k with
    | zero => exact fun h _ => ⟨0, Nat.le_refl _, fG.mpr ⟨0, rfl, by omega, h, .inl rfl⟩⟩
    | succ k ih =>
      intro h hk;by_cases h1 : i ∈ aK ps js who gs k
      · obtain ⟨t, a, b⟩ := ih h1 (by omega);exact ⟨t, by omega, b⟩
      · exact ⟨k + 1, Nat.le_refl _, fG.mpr ⟨k + 1, rfl, hk, h, .inr h1⟩⟩
  have nm : ∀ {i}, rK ps js who gs i = none <-> i ∉ aK ps js who gs ps.length := fun {i} => by
    unfold rK; rw [gq, e9]
  have fix := CH (ps := ps) (who := who) ng hg nj hn;have new : ∀ {i k}, i ∈ aK ps js who gs (k + 1) -> i ∉ aK ps js who gs k -> jf ps js who (aK ps js who gs k) i = true := fun {i k} h1 h2 => by
    have h1' : i ∈ aK ps js who gs k ++ eR ps js who (aK ps js who gs k) js := h1;rcases List.mem_append.mp h1' with z | z
    · exact (h2 z).elim
    · exact (List.mem_filter.mp z).2
  have not : ∀ {i k}, i ∈ js -> i ∉ aK ps js who gs (k + 1) -> ¬ jf ps js who (aK ps js who gs k) i = true := fun {i k} h1 h2 h3 =>
    h2 (show i ∈ aK ps js who gs k ++ eR ps js who (aK ps js who gs k) js from List.mem_append_right _ (List.mem_filter.mpr ⟨h1, h3⟩))
  have pos : ∀ {i q}, rK ps js who gs i = some q -> 0 < q -> ∃ k : Nat, q = ((k + 1 : Nat) : Int) /\ k + 1 <= ps.length /\ i ∈ aK ps js who gs (k + 1) /\ i ∉ aK ps js who gs k := fun {i q} h hq => by
    obtain ⟨k, rfl, b, c, d⟩ := fG.mp h;cases k with
    | zero => omega
    | succ k =>
      rcases d with d | d
      · omega
      · exact ⟨k, rfl, b, c, d⟩
  refine ⟨fun i q h => ?_, fun i q h => ?_, fun i => ?_, fun i q h hq ho => ?_, fun i q g t h hq ho hg' ht => ?_, fun i q h hq ho => ?_, fun i hi h ho g hg' => ?_, fun i hi h ho hw => ?_⟩
  · obtain ⟨k, rfl, _⟩ := fG.mp h; omega
  · obtain ⟨k, rfl, _, c, _⟩ := fG.mp h; exact ue ng hg nj c
  · constructor
    · intro h;obtain ⟨k, e, _, c, _⟩ := fG.mp h;have : k = 0 := by omega
      subst this;exact c
    · exact fun h => fG.mpr ⟨0, rfl, by omega, h, .inl rfl⟩
  · obtain ⟨k, rfl, b, c, d⟩ := pos h hq;obtain ⟨_, ⟨g, hg1, hg2⟩, _⟩ := fN.mp (new c d);obtain ⟨t, ht, hr⟩ := ex hg2 (by omega);refine ⟨g, hg1, ?_⟩;by_cases e : t = k
    · subst e; rw [hr]; congr 1; omega
    · exfalso;cases k with
      | zero => omega
      | succ k =>
        obtain ⟨t', e', _, c', _⟩ := fG.mp hr;have e'' : t = t' := by omega
        subst e'';exact not (ue ng hg nj c) d (fN.mpr ⟨fun z => d (jM z (by omega)), ⟨g, hg1, jM c' (by omega)⟩, .inl ho⟩)
  · obtain ⟨k, rfl, b, c, d⟩ := pos h hq;obtain ⟨t', rfl, _, c', _⟩ := fG.mp ht;by_cases e : k <= t'
    · omega
    · exfalso;cases k with
      | zero => omega
      | succ k => exact not (ue ng hg nj c) d (fN.mpr ⟨fun z => d (jM z (by omega)), ⟨g, hg', jM c' (by omega)⟩, .inl ho⟩)
  · obtain ⟨k, rfl, b, c, d⟩ := pos h hq;obtain ⟨_, ⟨g, hg1, _⟩, o⟩ := fN.mp (new c d);refine ⟨⟨g, hg1⟩, fun g' hg' => ?_⟩;obtain ⟨t, ht, hr⟩ := ex ((o.resolve_left ho) g' hg') (by omega);exact ⟨t, hr, by omega⟩
  · rw [nm] at h ⊢;intro hz;have : i ∈ eR ps js who (aK ps js who gs ps.length) js := List.mem_filter.mpr ⟨hi, fN.mpr ⟨h, ⟨g, hg', hz⟩, .inl ho⟩⟩;rw [fix] at this;cases this
  · rw [nm] at h;by_cases hz : ∃ g ∈ bF ps js i, rK ps js who gs g = none
    · exact hz
    · exfalso;have all : ∀ g ∈ bF ps js i, g ∈ aK ps js who gs ps.length := fun g hg' => by
        by_cases z : g ∈ aK ps js who gs ps.length
        · exact z
        · exact (hz ⟨g, hg', nm.mpr z⟩).elim
      obtain ⟨g, hg'⟩ := hw;have : i ∈ eR ps js who (aK ps js who gs ps.length) js := List.mem_filter.mpr ⟨hi, fN.mpr ⟨h, ⟨g, hg', all g hg'⟩, .inr all⟩⟩;rw [fix] at this;cases this
end
abbrev ids (n : Nat) : List Int := (List.range n).map fun (k : Nat) => (k : Int)
theorem bU {n : Nat} {i : Int} : i ∈ ids n <-> 0 <= i /\ i < n := by
  constructor
  · intro h;obtain ⟨k, hk, rfl⟩ := List.mem_map.mp h;have := List.mem_range.mp hk;omega
  · rintro ⟨h0, h1⟩;exact List.mem_map.mpr ⟨i.toNat, List.mem_range.mpr (by omega), by omega⟩
theorem qR (n : Nat) : (ids n).length = n := by simp
theorem AR {n k : Nat} (h : k < n) : (ids n)[k]? = some (k : Int) := by
  rw [List.getElem?_map, List.getElem?_range h]; rfl
theorem BS (n : Nat) : (ids n).Pairwise (· < ·) := by
  rw [List.pairwise_map];exact (List.pairwise_lt_range).imp fun h => by omega
theorem xm {l : List Int} (h : l.Pairwise (· < ·)) : l.Nodup := h.imp fun h => by omega
def cg (f : Int -> PyData) (n : Nat) : List PyData := (ids n).map f
theorem bH (f : Int -> PyData) (n : Nat) : (cg f n).length = n := by unfold cg; rw [List.length_map, qR]
theorem gn {f : Int -> PyData} {n : Nat} {i : Int} (h0 : 0 <= i) (h1 : i < n) : (cg f n)[i.toNat]'(by rw [bH]; omega) = f i := by
  have h := AR (n := n) (k := i.toNat) (by omega);have : (cg f n)[i.toNat]? = some (f i) := by
    unfold cg;rw [List.getElem?_map, h, Option.map_some];congr 2;omega
  exact Option.some.inj ((List.getElem?_eq_getElem _).symm.trans this)
theorem mQ {f : Int -> PyData} {n : Nat} {i : Int} (h0 : 0 <= i) (h1 : i < n) : bx (.tuple (cg f n)) (.int i) = .ok (f i) := by
  rw [vI h0 (by rw [bH]; exact h1), gn h0 h1]
theorem yO {f : Int -> PyData} {n : Nat} {i : Int} (h0 : 0 <= i) (h1 : i < n) : bx (.list (cg f n)) (.int i) = .ok (f i) := by
  rw [vP h0 (by rw [bH]; exact h1), gn h0 h1]
theorem cJ {f g : Int -> PyData} {n : Nat} (h : ∀ i : Int, 0 <= i -> i < n -> f i = g i) : cg f n = cg g n :=
  List.map_congr_left fun i hi => h i (bU.mp hi).1 (bU.mp hi).2
theorem nH {f : Int -> PyData} {n : Nat} {i : Int} {v : PyData} (h0 : 0 <= i) (h1 : i < n) : (cg f n).set i.toNat v = cg (fun j => if j = i then v else f j) n := by
  refine List.ext_getElem (by rw [List.length_set, bH, bH]) fun k hk1 hk2 => ?_
  rw [bH] at hk2;have e := gn (f := fun j => if j = i then v else f j) (n := n) (i := (k : Int)) (by omega) (by omega);have e2 := gn (f := f) (n := n) (i := (k : Int)) (by omega) (by omega);simp only [Int.toNat_natCast] at e e2;rw [e, List.getElem_set];by_cases h : i.toNat = k
  · rw [if_pos h, if_pos (by omega)]
  · rw [if_neg h, if_neg (by omega), e2]
theorem tQ (f : Int -> PyData) (ρ : aN) (g : Fe) (n : Nat) (h : ∀ i : Int, 0 <= i -> i < n -> g (ρ.set 0 (.val (.int i))) = .ok (f i)) : bE (aS 0) (fun _ => .ok true) g ρ (bG 0 n) = .ok (cg f n) := by
  have := eO g ρ 0 (fun d => match d with | .int i => f i | d => d) (bG 0 n) fun d hd => by
    unfold bG at hd;obtain ⟨k, hk, rfl⟩ := List.mem_map.mp hd;have := List.mem_range.mp hk;exact h _ (by omega) (by omega)
  rw [this];unfold cg;rw [ky, List.map_map];rfl
def oD : Option Int -> PyData
  | none => .none
  | some k => .int k
theorem vQ (o : Option Int) : kR (oD o) .none = .ok (.bool o.isSome) := by cases o <;> rfl
theorem tN (o : Option Int) : jb (oD o) .none = .ok (.bool o.isNone) := by cases o <;> rfl
def ka (k m : Nat) : List Int := (List.range m).map fun (j : Nat) => ((k + j : Nat) : Int)
theorem o2 (k m : Nat) : ka k (m + 1) = (k : Int) :: ka (k + 1) m := by
  unfold ka;rw [List.range_succ_eq_map, List.map_cons, List.map_map];congr 1;apply List.map_congr_left;intro j _;show ((k + (j + 1) : Nat) : Int) = ((k + 1 + j : Nat) : Int)
  omega
theorem jL (n : Nat) : ka 0 n = ids n := by
  unfold ka;apply List.map_congr_left;intro j _;simp
theorem jG {t : aN -> R Bool} {ρ : aN} {p : Int -> Bool} {g : Int -> PyData} : ∀ (m k : Nat), (∀ j : Nat, k <= j -> j < k + m -> t (.val (.int j) :: .val (g j) :: ρ) = .ok (p j)) ->
    bE (cM 0 1) t (ad 0) (.non :: .non :: ρ) (cG k ((ka k m).map g)) = .ok (((ka k m).filter p).map .int)
  | 0, k, _ => by unfold ka; simp [cG, cB]
  | m + 1, k, h => by
    rw [o2, List.map_cons];have e : cG k (g k :: (ka (k + 1) m).map g) = .tuple [.int k, g k] :: cG (k + 1) ((ka (k + 1) m).map g) := rfl;rw [e, gB, jG m (k + 1) fun j h1 h2 => h j (by omega) (by omega)];have hk := h k (Nat.le_refl _) (by omega);simp only [List.set_cons_zero, List.set_cons_succ, hk, R.ok_bind, ak];cases hp : p k with
    | true => rw [List.filter_cons_of_pos hp]; rfl
    | false => rw [List.filter_cons_of_neg (by rw [hp]; simp)]; rfl
theorem nS {fe : Fe} {ρ : aN} {g h : Int -> PyData} : ∀ (m k : Nat), (∀ j : Nat, k <= j -> j < k + m -> fe (.val (.int j) :: .val (g j) :: ρ) = .ok (h j)) ->
    bE (cM 0 1) (fun _ => .ok true) fe (.non :: .non :: ρ) (cG k ((ka k m).map g)) = .ok ((ka k m).map h)
  | 0, k, _ => by unfold ka; simp [cG, cB]
  | m + 1, k, hh => by
    rw [o2, List.map_cons];have e : cG k (g k :: (ka (k + 1) m).map g) = .tuple [.int k, g k] :: cG (k + 1) ((ka (k + 1) m).map g) := rfl;rw [e, gB, nS m (k + 1) fun j h1 h2 => hh j (by omega) (by omega)];have hk := hh k (Nat.le_refl _) (by omega);simp only [R.ok_bind, if_true, List.set_cons_zero, List.set_cons_succ, hk];rfl
theorem lg (t : aN -> R Bool) (g : Fs) (n : Nat) (ρ : aN) : cP t g (n + 1) ρ = (t ρ >>= fun b => if b = true then g ρ >>= rL (cP t g n) else .ok (.nx ρ)) := by
  rw [cP];congr 1
def sC (s : PyData) (js : List Int) : Prop := s = .tuple (js.map .int) \/ s = .list (js.map .int)
theorem sC.inn {s : PyData} {js : List Int} (h : sC s js) (neg : Bool) (k : Int) : lI neg (.int k) s = .ok (.bool (if neg then !cO js k else cO js k)) := by
  rcases h with rfl | rfl
  · exact Bw ..
  · exact DQ ..
theorem sC.seq {s : PyData} {js : List Int} (h : sC s js) : iT s = .ok (js.map .int) := by
  rcases h with rfl | rfl <;> rfl
theorem sC.len {s : PyData} {js : List Int} (h : sC s js) : dE s = .ok (.int js.length) := by
  rcases h with rfl | rfl <;> simp
structure dX (n : Nat) (js : List Int) : Prop where
  lt : js.Pairwise (· < ·)
  inn : ∀ x ∈ js, 0 <= x /\ x < n
theorem dX.nd {n : Nat} {js : List Int} (h : dX n js) : js.Nodup := xm h.lt
theorem dX.len {n : Nat} {js : List Int} (h : dX n js) : js.length <= n := by
  have := kI js 0 n h.lt h.inn;rcases this with z | z
  · rw [z]; simp
  · omega
theorem dX.filter {n : Nat} {js : List Int} (h : dX n js) (p : Int -> Bool) : dX n (js.filter p) := ⟨h.lt.filter _, fun x hx => h.inn x (List.mem_filter.mp hx).1⟩
theorem dX.ids (n : Nat) : dX n (ids n) := ⟨BS n, fun x hx => bU.mp hx⟩
def gi (ps : List P4) (js : List Int) : Prop := ∀ i ∈ js, ∃ g, g ∈ bF ps js i
abbrev oT (f : Int -> Option Int) (n : Nat) : PyData := .tuple (cg (fun i => oD (f i)) n)
theorem vk (o : Option Int) (k : Int) : iX (oD o) (.int k) = .ok (.bool (decide (o = some k))) := by
  cases o with
  | none => rfl
  | some q =>
    show iX (.int q) (.int k) = _;rw [fL];congr 2;simp
structure Gr (ps : List P4) : Prop where
  hl : ∀ p ∈ ps, p.ns.length <= 100
  hgo : ∀ p ∈ ps, ∀ x ∈ p.ns, 0 <= x /\ x < ps.length
  hp : ps.length <= 24
  lt : ∀ p ∈ ps, p.ns.Pairwise (· < ·)
  ne : ∀ p ∈ ps, p.ns ≠ []
theorem Gr.goals {ps : List P4} (G : Gr ps) {i x : Int} (h : x ∈ aw ps i) : 0 <= x /\ x < ps.length := by
  unfold aw at h;cases e : ps[i.toNat]? with
  | none => rw [e] at h; cases h
  | some p => rw [e] at h; exact G.hgo p (List.mem_of_getElem? e) x h
theorem Gr.glen {ps : List P4} (G : Gr ps) (i : Int) : (aw ps i).length <= 100 := by
  unfold aw;cases e : ps[i.toNat]? with
  | none => simp
  | some p => exact G.hl p (List.mem_of_getElem? e)
def aD (ps : List P4) (i : Int) : Int := (ps[i.toNat]?.map (·.m)).getD 0
theorem uS (p : P4) : bx p.d (.int 1) = .ok (.int p.m) := rfl
theorem jK {ps : List P4} {i : Int} (h0 : 0 <= i) (h1 : i < ps.length) : aD ps i = (ps[i.toNat]'(by omega)).m := by
  unfold aD;rw [List.getElem?_eq_getElem (by omega)];rfl
theorem p0 {ps : List P4} {js : List Int} (hne : js ≠ []) : ∃ h, nL (.list ((js.map (aD ps)).map .int)) = .ok (.int h) /\ (∃ i ∈ js, aD ps i = h) /\ ∀ i ∈ js, aD ps i <= h := by
  cases js with
  | nil => exact (hne rfl).elim
  | cons j js =>
    obtain ⟨s1, s2⟩ := p9 (aD ps j) (js.map (aD ps));refine ⟨uR (aD ps j) (js.map (aD ps)), ?_, ?_, fun i hi => ?_⟩
    · show (match cY (((j :: js).map (aD ps)).map .int) with | some (n :: ns) => R.ok (PyData.int (uR n ns)) | _ => .no) = _;rw [gM];rfl
    · rw [<- List.map_cons (f := aD ps)] at s1;obtain ⟨i, hi, e⟩ := List.mem_map.mp s1;exact ⟨i, hi, e⟩
    · exact s2 _ (by rw [<- List.map_cons (f := aD ps)]; exact List.mem_map.mpr ⟨i, hi, rfl⟩)
theorem p6 {s t : PyData} {ns js : List Int} (hs : sC s ns) (ht : sC t js) (hl : ns.length <= 1000) : bZ [s, t] = .ok (.tuple ((ns.filter (cO js)).map .int)) := by
  have hcmp := cV (t := tE (e2 (lI false) (ad 0) (ad 1))) (ρ := [.val t]) (p := cO js) ns fun k hk => by simp [ht.inn]
  unfold bZ nR;refine dY ?_;rw [show ([s, t].map ba.val ++ List.replicate (2 - [s, t].length) ba.non) = [.val s, .val t] from rfl];rw [ci, bW, bi, show aB 1 [1] [.val s, .val t] = [.non, .val t] from rfl];simp only [bY, ak, R.ok_bind, hs.seq, cf];rw [if_pos (by rw [List.length_map]; exact bD hl), hcmp];rfl
theorem oQ {s t : PyData} {ns js : List Int} (hs : sC s ns) (ht : sC t js) (hl : ns.length <= 1000) : bJ [s, t] = .ok (.tuple ((ns.filter fun i => !cO js i).map .int)) := by
  have hcmp := cV (t := tE (e2 (lI true) (ad 0) (ad 1))) (ρ := [.val t]) (p := fun i => !cO js i) ns fun k hk => by simp [ht.inn]
  unfold bJ lO;refine dY ?_;rw [show ([s, t].map ba.val ++ List.replicate (2 - [s, t].length) ba.non) = [.val s, .val t] from rfl];rw [ci, bW, bi, show aB 1 [1] [.val s, .val t] = [.non, .val t] from rfl];simp only [bY, ak, R.ok_bind, hs.seq, cf];rw [if_pos (by rw [List.length_map]; exact bD hl), hcmp];rfl
theorem rl {p : P4} {ws : List Int} {who : Int} {f : Int -> Option Int} {n : Nat} (hw : ∀ g ∈ ws, 0 <= g /\ g < n) (hl : ws.length <= 1000) :
    bO [p.d, .tuple (ws.map .int), .int who, .list (cg (fun i => oD (f i)) n)] = .ok (.bool (if p.w = who then decide (0 < (ws.filter fun g => (f g).isSome).length) else decide ((ws.filter fun g => (f g).isSome).length = ws.length))) := by
  have hcmp := cV (t := tE (e2 (kR) (e2 bx (ad 1) (ad 0)) (eC .none))) (ρ := [.val (.list (cg (fun i => oD (f i)) n))]) (p := fun g => (f g).isSome) ws fun k hk => by
    simp only [List.set_cons_zero, cv, bj, ak, am, bB, R.ok_bind, yO (hw k hk).1 (hw k hk).2, vQ, cK]
  unfold bO jw;refine dY ?_;rw [show ([p.d, .tuple (ws.map .int), .int who, .list (cg (fun i => oD (f i)) n)].map ba.val ++ List.replicate (5 - [p.d, .tuple (ws.map .int), .int who, .list (cg (fun i => oD (f i)) n)].length) ba.non) = [.val p.d, .val (.tuple (ws.map .int)), .val (.int who), .val (.list (cg (fun i => oD (f i)) n)), .non] from rfl];rw [aJ (ρ' := [.val p.d, .val (.tuple (ws.map .int)), .val (.int who), .val (.list (cg (fun i => oD (f i)) n)), .val (.list ((ws.filter fun g => (f g).isSome).map .int))]) (by
    rw [bp, bi, show aB 1 [3] [.val p.d, .val (.tuple (ws.map .int)), .val (.int who), .val (.list (cg (fun i => oD (f i)) n)), .non] = [.non, .val (.list (cg (fun i => oD (f i)) n))] from rfl];simp only [bY, ak, am, R.ok_bind, cH, cf];rw [if_pos (by rw [List.length_map]; exact bD hl), hcmp];rfl)]
  by_cases h : p.w = who
  · rw [if_pos h];refine tI ?_;simp only [du, cv, bj, bW, ak, am, bB, R.ok_bind, qy, fL, cK, h, decide_true, if_true, ci, oq, oy, List.length_map];congr 3;simp
  · rw [if_neg h, aJ (ρ' := [.val p.d, .val (.tuple (ws.map .int)), .val (.int who), .val (.list (cg (fun i => oD (f i)) n)), .val (.list ((ws.filter fun g => (f g).isSome).map .int))]) (by
      simp only [du, cv, bj, bW, ak, am, bB, R.ok_bind, qy, fL, cK, h, decide_false]; rfl)]
    simp only [ci, bj, bW, ak, am, R.ok_bind, oq, kL, fL, List.length_map];congr 3;exact decide_eq_decide.mpr (by omega)
theorem Bi {c : Int} (h0 : 0 <= c) (h1 : c <= 1000) : pC [.int c] = .ok (bG 0 c.toNat) := by
  show (if -(2 ^ 62) <= c /\ c < 2 ^ 62 then R.ok (bG 0 c.toNat) else .no) = _;rw [if_pos (by omega)]
def u0 : Fs := (aU (uO 6 (fun a b => a + b) (eC (.int 1))) (aU (bQ 8 (bL (eA (ad 1)) 1 [5] (aS 0) (tE (e2 (jb) (e2 bx (cW 1) (ad 0)) (eC .none))) (ad 0))) (aU (bQ 7 (bL (eA (ad 8)) 1 [0, 4, 2, 5] (aS 0) (tE (km 4 (aH bO (af (e2 bx (ad 1) (ad 0)) (af (e2 bx (ad 2) (ad 0)) (af (ad 3) (af (ad 4) aI))))))) (ad 0))) (h9 (jc (eA (ad 7)) (aS 9) (gS 5 (ad 9) (ad 6)))))))
abbrev k8 (ps : List P4) (js : List Int) : PyData := .list (cg (fun i => .tuple ((bF ps js i).map .int)) ps.length)
abbrev xN (kvs : List (Int × Int)) (n : Nat) : List PyData := cg (fun i => oD (look kvs i)) n
abbrev tR (ps : List P4) (s : PyData) (js : List Int) (who : Int) (g : PyData) (kvs : List (Int × Int)) (r : Int) (fs : List Int) (c8 c9 : ba) : aN :=
  [.val (gD ps), .val s, .val (.int who), .val g, .val (k8 ps js), .own (.list (xN kvs ps.length)), .val (.int r), .val (.list (fs.map .int)), c8, c9]
theorem yL {kvs : List (Int × Int)} {i r : Int} (h : i ∉ kvs.map (·.1)) (j : Int) : look (kvs ++ [(i, r)]) j = if j = i then some r else look kvs j := by
  rw [mH];by_cases e : j = i
  · subst e;rw [if_pos rfl, gq.mpr h, Option.none_or];unfold look;simp
  · rw [if_neg e];have : look [(i, r)] j = none := by
      unfold look;have : ¬ i = j := fun z => e z.symm
      simp [this]
    rw [this, Option.or_none]
theorem A9 {ps : List P4} {s : PyData} {js : List Int} {who : Int} {g : PyData} {r : Int} {fs0 : List Int} {c8 : ba} : ∀ (fs : List Int) (kvs : List (Int × Int)) (c9 : ba), fs.Nodup -> (∀ x ∈ fs, x ∉ kvs.map (·.1)) -> (∀ x ∈ fs, 0 <= x /\ x < ps.length) ->
    ∃ c9', eS (aS 9) (gS 5 (ad 9) (ad 6)) (fs.map .int) (tR ps s js who g kvs r fs0 c8 c9) = .ok (.nx (tR ps s js who g (kvs ++ fs.map fun i => (i, r)) r fs0 c8 c9'))
  | [], kvs, c9, _, _, _ => ⟨c9, by rw [List.map_nil, fT]; simp⟩
  | i :: fs, kvs, c9, nd, hn, hb => by
    obtain ⟨n1, n2⟩ := List.nodup_cons.mp nd;have hi := hb i List.mem_cons_self;obtain ⟨c9', e⟩ := A9 (ps := ps) (s := s) (js := js) (who := who) (g := g) (r := r) (fs0 := fs0) (c8 := c8) fs (kvs ++ [(i, r)]) (.val (.int i)) n2 (fun x hx => by
      rw [List.map_append, List.mem_append];rintro (z | z)
      · exact hn x (List.mem_cons_of_mem _ hx) z
      · simp at z;subst z;exact n1 hx) fun x hx => hb x (List.mem_cons_of_mem _ hx)
    refine ⟨c9', ?_⟩;rw [List.map_cons, eP];rw [show ((tR ps s js who g kvs r fs0 c8 c9).set 9 (.val (.int i))) = tR ps s js who g kvs r fs0 c8 (.val (.int i)) from rfl];rw [nK (ds := xN kvs ps.length) (n := i) (v := .int r) rfl rfl rfl hi.1 (by rw [bH]; exact hi.2), R.ok_bind, dh, nH hi.1 hi.2];rw [cJ (g := fun j => oD (look (kvs ++ [(i, r)]) j)) fun j _ _ => by
      rw [yL (hn i List.mem_cons_self)];split <;> rfl]
    refine Eq.trans ?_ (e.trans (by simp));rfl
theorem oR {kvs : List (Int × Int)} {i : Int} : (look kvs i).isNone = !cO (kvs.map (·.1)) i := by
  cases h : cO (kvs.map (·.1)) i with
  | true =>
    cases h2 : look kvs i with
    | none => exact (gq.mp h2 (bS.mp h)).elim
    | some q => rfl
  | false =>
    rw [gq.mpr fun z => by rw [bS.mpr z] at h; cases h];rfl
theorem uc {kvs : List (Int × Int)} {i : Int} : (look kvs i).isSome = cO (kvs.map (·.1)) i := by
  have := oR (kvs := kvs) (i := i);cases h : look kvs i <;> rw [h] at this <;> cases h2 : cO (kvs.map (·.1)) i <;> rw [h2] at this <;> simp_all
theorem rO {ps : List P4} {js : List Int} {who : Int} {kn : List Int} {i : Int} (hw : ∃ g, g ∈ bF ps js i) :
    (!cO kn i && (if aj ps i = who then decide (0 < (mF ps js kn i).length) else decide ((mF ps js kn i).length = (bF ps js i).length))) = jf ps js who kn i := by
  obtain ⟨g, hg⟩ := hw;have hp := List.length_pos_of_mem hg;unfold jf;by_cases ho : aj ps i = who
  · simp [ho]
  · by_cases he : (mF ps js kn i).length = (bF ps js i).length
    · simp [ho, he, hp]
    · simp [ho, he]
theorem xH {ps : List P4} (hl : ∀ p ∈ ps, p.ns.length <= 100) (hgo : ∀ p ∈ ps, ∀ x ∈ p.ns, 0 <= x /\ x < ps.length) (hp : ps.length <= 24) {s : PyData} {js : List Int} (hs : sC s js) (hj : dX ps.length js) (hw : gi ps js) {who : Int} {g : PyData} {kvs : List (Int × Int)} {r : Int} {fs : List Int} (c8 c9 : ba) :
    ∃ c8' c9', u0 (tR ps s js who g kvs r fs c8 c9) = .ok (.nx (tR ps s js who g (cN ps js who (r + 1) kvs) (r + 1) (eR ps js who (kvs.map (·.1)) js) c8' c9')) := by
  have hlen := hj.len;have h1 := cV (t := tE (e2 (jb) (e2 bx (cW 1) (ad 0)) (eC .none))) (ρ := [.own (.list (xN kvs ps.length))]) (p := fun i => !cO (kvs.map (·.1)) i) js fun k hk => by
    simp only [List.set_cons_zero, cv, bj, ak, gX, gP, bB, R.ok_bind, yO (hj.inn k hk).1 (hj.inn k hk).2, tN, cK, oR]
  have h2 := cV (t := tE (km 4 (aH bO (af (e2 bx (ad 1) (ad 0)) (af (e2 bx (ad 2) (ad 0)) (af (ad 3) (af (ad 4) aI))))))) (ρ := [.val (gD ps), .val (k8 ps js), .val (.int who), .own (.list (xN kvs ps.length))])
    (p := jf ps js who (kvs.map (·.1))) (js.filter fun i => !cO (kvs.map (·.1)) i) fun k hk => by
    obtain ⟨hkj, hkn⟩ := List.mem_filter.mp hk;have hb := hj.inn k hkj;have hg := dP hb.1 hb.2;have hwl : (bF ps js k).length <= 1000 := by
      refine Nat.le_trans (List.length_filter_le ..) ?_;rw [hg];have := hl _ (List.getElem_mem (show k.toNat < ps.length by omega));omega
    have hwb : ∀ x ∈ bF ps js k, 0 <= x /\ x < ps.length := fun x hx => by
      have := (List.mem_filter.mp hx).1;rw [hg] at this;exact hgo _ (List.getElem_mem _) x this
    have hf := rl (p := ps[k.toNat]'(by omega)) (who := who) (f := look kvs) hwb hwl;have ho := gv hb.1 hb.2;have hgk : ((bF ps js k).filter fun g => (look kvs g).isSome) = mF ps js (kvs.map (·.1)) k := by
      unfold mF;congr 1;funext g;exact uc
    rw [hgk, <- ho] at hf;have e4 : km 4 (aH bO (af (e2 bx (ad 1) (ad 0)) (af (e2 bx (ad 2) (ad 0)) (af (ad 3) (af (ad 4) aI))))) [.val (.int k), .val (gD ps), .val (k8 ps js), .val (.int who), .own (.list (xN kvs ps.length))]
      = (mK (aH bO (af (e2 bx (ad 1) (ad 0)) (af (e2 bx (ad 2) (ad 0)) (af (ad 3) (af (ad 4) aI)))) [.val (.int k), .val (gD ps), .val (k8 ps js), .val (.int who), .val (.list (xN kvs ps.length))]) >>= pX) := rfl
    have hc := rO (who := who) (kn := kvs.map (·.1)) (hw k hkj);rw [hkn, Bool.true_and] at hc;rw [List.set_cons_zero, cv, e4, aX];simp only [aL, aP, bj, ak, am, R.ok_bind, ln hb.1 hb.2, yO hb.1 hb.2];rw [hf, hc];rfl
  have hfil : (js.filter fun i => !cO (kvs.map (·.1)) i).filter (jf ps js who (kvs.map (·.1))) = eR ps js who (kvs.map (·.1)) js := by
    unfold eR;rw [List.filter_filter];apply List.filter_congr;intro x _;unfold jf;cases cO (kvs.map (·.1)) x <;> simp
  rw [hfil] at h2;have hnew : dX ps.length (eR ps js who (kvs.map (·.1)) js) := hj.filter _;obtain ⟨c9', e⟩ := A9 (ps := ps) (s := s) (js := js) (who := who) (g := g) (r := r + 1) (fs0 := eR ps js who (kvs.map (·.1)) js) (c8 := .val (.list ((js.filter fun i => !cO (kvs.map (·.1)) i).map .int))) (eR ps js who (kvs.map (·.1)) js) kvs c9 hnew.nd (fun x hx => (oO hx).2) hnew.inn;refine ⟨.val (.list ((js.filter fun i => !cO (kvs.map (·.1)) i).map .int)), c9', ?_⟩;unfold u0;rw [aJ (ρ' := tR ps s js who g kvs (r + 1) fs c8 c9) (by simp only [A1, am, ak, bB, R.ok_bind, DS]; rfl)];rw [aJ (ρ' := tR ps s js who g kvs (r + 1) fs (.val (.list ((js.filter fun i => !cO (kvs.map (·.1)) i).map .int))) c9) (by
    rw [bp, bi, show aB 1 [5] (tR ps s js who g kvs (r + 1) fs c8 c9) = [.non, .own (.list (xN kvs ps.length))] from rfl];simp only [bY, am, ak, R.ok_bind, hs.seq, cf];rw [if_pos (by rw [List.length_map]; exact bD (by omega)), h1];rfl)]
  rw [aJ (ρ' := tR ps s js who g kvs (r + 1) (eR ps js who (kvs.map (·.1)) js) (.val (.list ((js.filter fun i => !cO (kvs.map (·.1)) i).map .int))) c9) (by
    rw [bp, bi, show aB 1 [0, 4, 2, 5] (tR ps s js who g kvs (r + 1) fs (.val (.list ((js.filter fun i => !cO (kvs.map (·.1)) i).map .int))) c9) = [.non, .val (gD ps), .val (k8 ps js), .val (.int who), .own (.list (xN kvs ps.length))] from rfl];simp only [bY, am, ak, R.ok_bind, tf, cf];rw [if_pos (by rw [List.length_map]; exact bD (Nat.le_trans (List.length_filter_le ..) (by omega))), h2];rfl)]
  rw [eI, fH, bY, am, am, am, am, am, am, am, ak, R.ok_bind, tf, R.ok_bind, e];rfl
theorem eU {ps : List P4} {js : List Int} {who : Int} {kvs : List (Int × Int)} (h : eR ps js who (kvs.map (·.1)) js = []) : ∀ (n : Nat) (r : Int), gU ps js who r n kvs = kvs
  | 0, r => rfl
  | n + 1, r => by
    show gU ps js who (r + 1) n (cN ps js who r kvs) = kvs;have : cN ps js who r kvs = kvs := by unfold cN; rw [h]; simp
    rw [this, eU h n]
theorem Be {ps : List P4} (hl : ∀ p ∈ ps, p.ns.length <= 100) (hgo : ∀ p ∈ ps, ∀ x ∈ p.ns, 0 <= x /\ x < ps.length) (hp : ps.length <= 24) {s : PyData} {js : List Int} (hs : sC s js) (hj : dX ps.length js) (hw : gi ps js) {who : Int} {g : PyData} :
    ∀ (k n : Nat) (kvs : List (Int × Int)) (r : Int) (fs : List Int) (c8 c9 : ba), jh js kvs -> js.length - kvs.length <= k -> (fs = [] -> eR ps js who (kvs.map (·.1)) js = []) -> k + 3 <= n ->
    ∃ K r' fs' c8' c9', cP (tE (e2 (fu pr) (e1 dE (ad 7)) (eC (.int 0)))) u0 n (tR ps s js who g kvs r fs c8 c9) = .ok (.nx (tR ps s js who g K r' fs' c8' c9')) /\ ∀ N, k + 1 <= N -> gU ps js who (r + 1) N kvs = K
  | k, 0, kvs, r, fs, c8, c9, _, _, _, h => by omega
  | k, n + 1, kvs, r, fs, c8, c9, hk, hm, hf, hn => by
    rw [lg];have ht : tE (e2 (fu pr) (e1 dE (ad 7)) (eC (.int 0))) (tR ps s js who g kvs r fs c8 c9) = .ok (decide (0 < fs.length)) := by
      simp only [cv, bj, bW, am, ak, bB, R.ok_bind, oq, oy, cK, List.length_map];congr 1;simp
    rw [ht, R.ok_bind];by_cases h0 : fs = []
    · have hs0 := hf h0;subst h0;exact ⟨kvs, r, [], c8, c9, rfl, fun N _ => eU hs0 N _⟩
    · rw [if_pos (decide_eq_true (List.length_pos_iff.mpr h0))];obtain ⟨c8', c9', e⟩ := xH hl hgo hp hs hj hw (who := who) (g := g) (kvs := kvs) (r := r) (fs := fs) c8 c9;rw [e, R.ok_bind, dh];by_cases h1 : eR ps js who (kvs.map (·.1)) js = []
      · have w1 : cN ps js who (r + 1) kvs = kvs := by unfold cN; rw [h1]; simp
        rw [h1, w1];refine ⟨kvs, r + 1, [], c8', c9', ?_, fun N _ => eU h1 N _⟩;cases n with
        | zero => omega
        | succ n =>
          rw [lg];have ht2 : tE (e2 (fu pr) (e1 dE (ad 7)) (eC (.int 0))) (tR ps s js who g kvs (r + 1) [] c8' c9') = .ok false := rfl;rw [ht2, R.ok_bind];rfl
      · have hk' := hk.round (ps := ps) (who := who) (r := r + 1) hj.nd;have hkl := hk'.len hj.nd;have hgrow : kvs.length + 1 <= (cN ps js who (r + 1) kvs).length := by
          unfold cN;rw [List.length_append, List.length_map];have := List.length_pos_iff.mpr h1;omega
        obtain ⟨K, r', fs', d8, d9, w2, w3⟩ := Be hl hgo hp hs hj hw (who := who) (g := g) (k - 1) n (cN ps js who (r + 1) kvs) (r + 1) (eR ps js who (kvs.map (·.1)) js) c8' c9' hk' (by omega) (fun z => (h1 z).elim) (by omega);refine ⟨K, r', fs', d8, d9, w2, fun N hN => ?_⟩;cases N with
        | zero => omega
        | succ N => exact w3 N (by omega)
theorem mG {ps : List P4} (hl : ∀ p ∈ ps, p.ns.length <= 100) (hgo : ∀ p ∈ ps, ∀ x ∈ p.ns, 0 <= x /\ x < ps.length) (hp : ps.length <= 24) {s g : PyData} {js gs : List Int} (hs : sC s js) (hsg : sC g gs) (hj : dX ps.length js) (hg : dX ps.length gs) (hsub : ∀ x ∈ gs, x ∈ js) (hw : gi ps js) {who : Int} :
    cj [gD ps, s, .int who, g] = .ok (.tuple (cg (fun i => oD (rK ps js who gs i)) ps.length)) := by
  have hlen := hj.len;have hglen := hg.len;have hgj : gs.length <= js.length := jN hg.nd hsub;have hk0 : jh js (gs.map fun i => ((i, 0) : Int × Int)) := by
    have e : (gs.map fun i => ((i, 0) : Int × Int)).map (·.1) = gs := by rw [List.map_map]; exact List.map_id _
    exact ⟨by rw [e]; exact hg.nd, by rw [e]; exact hsub⟩
  have hk0e : (gs.map fun i => ((i, 0) : Int × Int)).map (·.1) = gs := by rw [List.map_map]; exact List.map_id _
  obtain ⟨K, r', fs', d8, d9, w2, w3⟩ := Be hl hgo hp hs hj hw (who := who) (g := g) (js.length - gs.length) 1000000 (gs.map fun i => (i, 0)) 0 gs .non .non hk0 (by rw [List.length_map]; exact Nat.le_refl _) (fun z => by
    rw [hk0e, z];unfold eR;rw [List.filter_eq_nil_iff];intro i _;rw [fN];rintro ⟨_, ⟨g, _, hz⟩, _⟩;cases hz) (by omega)
  have hK : K = w5 ps js who gs ps.length := by
    by_cases h0 : gs = []
    · subst h0;have hz : eR ps js who (([] : List (Int × Int)).map (·.1)) js = [] := by
        unfold eR;rw [List.filter_eq_nil_iff];intro i _;rw [fN];rintro ⟨_, ⟨g, _, hz⟩, _⟩;cases hz
      have e4 := w3 (js.length - 0 + 1) (Nat.le_refl _);rw [List.map_nil, eU hz] at e4;rw [<- e4];unfold w5;rw [List.map_nil, eU hz]
    · have := List.length_pos_iff.mpr h0;have e4 := w3 ps.length (by omega);rw [<- e4];rfl
  have hways : bE (aS 0) (fun _ => .ok true) (aH bZ (af (e2 bx (ad 0) (eC (.int 3))) (af (ad 1) aI))) [.non, .val s] (ps.map P4.d) = .ok (cg (fun i => .tuple ((bF ps js i).map .int)) ps.length) := by
    have go : ∀ qs : List P4, (∀ p ∈ qs, p.ns.length <= 100) -> bE (aS 0) (fun _ => .ok true) (aH bZ (af (e2 bx (ad 0) (eC (.int 3))) (af (ad 1) aI))) [.non, .val s] (qs.map P4.d) = .ok (qs.map fun p => .tuple ((p.ns.filter (cO js)).map .int)) := by
      intro qs;induction qs with
      | nil => exact fun _ => cB ..
      | cons p qs ih =>
        intro h;have hc := p6 (s := .tuple (p.ns.map .int)) (ns := p.ns) (.inl rfl) hs (by have := h p List.mem_cons_self; omega);rw [List.map_cons, eL, ih fun q hq => h q (List.mem_cons_of_mem _ hq)];simp only [R.ok_bind, if_true, List.set_cons_zero, aX, aL, aP, bj, ak, am, bB, oI, hc];rfl
    rw [go ps hl];congr 1;refine List.ext_getElem (by rw [List.length_map, bH]) fun k h1 h2 => ?_
    rw [bH] at h2;have e := gn (f := fun i => .tuple ((bF ps js i).map .int)) (n := ps.length) (i := (k : Int)) (by omega) (by omega);simp only [Int.toNat_natCast] at e;rw [e, List.getElem_map];unfold bF;rw [dP (by omega) (by omega)];simp
  have hinit : bE (aS 0) (fun _ => .ok true) (AB (tE (e2 (lI false) (ad 0) (ad 1))) (eC (.int 0)) (eC .none)) [.non, .val g] (bG 0 ps.length) = .ok (xN (gs.map fun i => (i, 0)) ps.length) :=
    tQ _ _ _ _ fun i h0 h1 => by
      simp only [List.set_cons_zero, uq, cv, bj, ak, am, bB, R.ok_bind, hsg.inn, cK, iJ];cases hm : cO gs i with
      | true => rw [if_pos (bS.mp hm)]; rfl
      | false => rw [if_neg (show ¬ i ∈ gs from fun z => by rw [bS.mpr z] at hm; cases hm)]; rfl
  have hr : pC [.int (ps.length : Int)] = .ok (bG 0 ps.length) := by
    rw [Bi (by omega) (by omega), Int.toNat_natCast]
  have hlst : pU g = .ok (.list (gs.map .int)) := by rcases hsg with rfl | rfl <;> rfl
  unfold cj kJ;refine dY ?_;rw [show ([gD ps, s, .int who, g].map ba.val ++ List.replicate (10 - [gD ps, s, .int who, g].length) ba.non) = [.val (gD ps), .val s, .val (.int who), .val g, .non, .non, .non, .non, .non, .non] from rfl];rw [aJ (ρ' := [.val (gD ps), .val s, .val (.int who), .val g, .val (k8 ps js), .non, .non, .non, .non, .non]) (by
    rw [bp, bi, show aB 1 [1] [.val (gD ps), .val s, .val (.int who), .val g, .non, .non, .non, .non, .non, .non] = [.non, .val s] from rfl];simp only [bY, ak, R.ok_bind, cH, cf];rw [if_pos (by rw [List.length_map]; exact bD (by omega)), hways];rfl)]
  rw [aJ (ρ' := [.val (gD ps), .val s, .val (.int who), .val g, .val (k8 ps js), .own (.list (xN (gs.map fun i => (i, 0)) ps.length)), .non, .non, .non, .non]) (by
    rw [nD, bi, show aB 1 [3] [.val (gD ps), .val s, .val (.int who), .val g, .val (k8 ps js), .non, .non, .non, .non, .non] = [.non, .val g] from rfl];simp only [l4, aL, aP, bW, ak, R.ok_bind, kL, List.length_map, hr, cf];rw [if_pos (by rw [gA]; exact bD (by omega)), hinit];rfl)]
  rw [aJ (ρ' := [.val (gD ps), .val s, .val (.int who), .val g, .val (k8 ps js), .own (.list (xN (gs.map fun i => (i, 0)) ps.length)), .val (.int 0), .non, .non, .non]) (by rfl)];rw [aJ (ρ' := tR ps s js who g (gs.map fun i => (i, 0)) 0 gs .non .non) (by
    simp only [bp, bW, am, ak, R.ok_bind, hlst];rfl)]
  rw [aJ (ρ' := tR ps s js who g K r' fs' d8 d9) (by
    rw [eI];show mK (cP (tE (e2 (fu pr) (e1 dE (ad 7)) (eC (.int 0)))) u0 1000000 _) = _;rw [w2];rfl)]
  rw [hK];rfl
def jx (f : Int -> Option Int) (n : Nat) : List Int := (ids n).filter fun i => (f i).isSome
theorem nX (f : Int -> Option Int) (n : Nat) : dX n (jx f n) := (dX.ids n).filter _
theorem ik {f : Int -> Option Int} {n : Nat} {i : Int} : i ∈ jx f n <-> (0 <= i /\ i < n) /\ ∃ q, f i = some q := by
  unfold jx;rw [List.mem_filter, bU, Option.isSome_iff_exists]
theorem lW {f : Int -> Option Int} {n : Nat} (hn : n <= 1000) : ca [oT f n] = .ok (.tuple ((jx f n).map .int)) := by
  have hc := jG (t := tE (e2 (kR) (ad 1) (eC .none))) (ρ := []) (p := fun i => (f i).isSome) (g := fun i => oD (f i)) n 0 fun j _ _ => by
    simp only [cv, bj, am, ak, bB, R.ok_bind, vQ, cK]
  rw [jL] at hc;unfold ca oW;refine dY ?_;rw [show ([oT f n].map ba.val ++ List.replicate (1 - [oT f n].length) ba.non) = [.val (oT f n)] from rfl];rw [ci, bW, bi, show aB 2 [] [.val (oT f n)] = [.non, .non] from rfl];simp only [jv, ak, R.ok_bind, cH, cf];rw [if_pos (by rw [fx, bH]; exact bD hn)];rw [show cG 0 (cg (fun i => oD (f i)) n) = cG 0 ((ids n).map fun i => oD (f i)) from rfl, hc];rfl
def lU (ps : List P4) (who : Int) (f : Int -> Option Int) (i : Int) : Option Int := match f i with
  | some q => if aj ps i = who /\ 0 < q then ((aw ps i).filter fun g => decide (f g = some (q - 1))).head? else none
  | none => none
def vR : Fs := (lH (mE (tE (e2 (iX) (e2 bx (e2 bx (ad 0) (ad 4)) (eC (.int 0))) (ad 1))) (tE (e2 (fu pr) (e2 bx (ad 2) (ad 4)) (eC (.int 0))))) (gS 3 (ad 4) (e2 bx (bL (eA (e2 bx (e2 bx (ad 0) (ad 4)) (eC (.int 3)))) 1 [2, 4] (aS 0) (tE (e2 (iX) (e2 bx (ad 1) (ad 0)) (e2 ny (e2 bx (ad 1) (ad 2)) (eC (.int 1))))) (ad 0)) (eC (.int 0)))) dC)
theorem zj {ps : List P4} (G : Gr ps) {who : Int} {f : Int -> Option Int} (hne : ∀ i q, f i = some q -> 0 < q -> aj ps i = who -> ∃ g ∈ aw ps i, f g = some (q - 1)) : ∀ (is : List Int) (h : Int -> PyData) (c4 : ba), is.Nodup -> (∀ x ∈ is, (0 <= x /\ x < ps.length) /\ (∃ q, f x = some q) /\ h x = .none) ->
    ∃ c4', eS (aS 4) vR (is.map .int) [.val (gD ps), .val (.int who), .val (oT f ps.length), .own (.list (cg h ps.length)), c4] = .ok (.nx [.val (gD ps), .val (.int who), .val (oT f ps.length), .own (.list (cg (fun j => if j ∈ is then oD (lU ps who f j) else h j) ps.length)), c4'])
  | [], h, c4, _, _ => ⟨c4, by rw [List.map_nil, fT]; simp⟩
  | i :: is, h, c4, nd, hb => by
    obtain ⟨n1, n2⟩ := List.nodup_cons.mp nd;obtain ⟨hi, ⟨q, hq⟩, hh⟩ := hb i List.mem_cons_self;have ho := gv hi.1 hi.2;have hg := dP hi.1 hi.2;obtain ⟨c4', e⟩ := zj G hne is (fun j => if j = i then oD (lU ps who f i) else h j) (.val (.int i)) n2 (fun x hx => ⟨(hb x (List.mem_cons_of_mem _ hx)).1, (hb x (List.mem_cons_of_mem _ hx)).2.1, by
      have : x ≠ i := by rintro rfl; exact n1 hx
      show (if x = i then _ else h x) = _;rw [if_neg this];exact (hb x (List.mem_cons_of_mem _ hx)).2.2⟩)
    refine ⟨c4', ?_⟩;have fin : cg (fun j => if j ∈ is then oD (lU ps who f j) else (fun j => if j = i then oD (lU ps who f i) else h j) j) ps.length = cg (fun j => if j ∈ i :: is then oD (lU ps who f j) else h j) ps.length := cJ fun j _ _ => by
      by_cases h1 : j = i
      · subst h1;simp [n1]
      · by_cases h2 : j ∈ is <;> simp [h1, h2]
    rw [fin] at e;rw [<- e, List.map_cons, eP, show (([.val (gD ps), .val (.int who), .val (oT f ps.length), .own (.list (cg h ps.length)), c4] : aN).set 4 (.val (.int i))) = [.val (gD ps), .val (.int who), .val (oT f ps.length), .own (.list (cg h ps.length)), .val (.int i)] from rfl];have ht : (mE (tE (e2 (iX) (e2 bx (e2 bx (ad 0) (ad 4)) (eC (.int 0))) (ad 1))) (tE (e2 (fu pr) (e2 bx (ad 2) (ad 4)) (eC (.int 0))))) [.val (gD ps), .val (.int who), .val (oT f ps.length), .own (.list (cg h ps.length)), .val (.int i)] = .ok (decide (aj ps i = who /\ 0 < q)) := by
      have hrk : bx (oT f ps.length) (.int i) = .ok (.int q) := by rw [mQ hi.1 hi.2, hq]; rfl
      simp only [sT, cv, bj, ak, am, bB, R.ok_bind, ln hi.1 hi.2, qy, fL, cK, hrk, oy];rw [<- ho];by_cases h1 : aj ps i = who
      · by_cases h2 : 0 < q <;> simp [h1, h2]
      · simp [h1]
    have hb1 : vR [.val (gD ps), .val (.int who), .val (oT f ps.length), .own (.list (cg h ps.length)), .val (.int i)] = .ok (.nx [.val (gD ps), .val (.int who), .val (oT f ps.length), .own (.list (cg (fun j => if j = i then oD (lU ps who f i) else h j) ps.length)), .val (.int i)]) := by
      unfold vR;rw [du, ht, R.ok_bind];by_cases hc : aj ps i = who /\ 0 < q
      · rw [if_pos (decide_eq_true hc)];have hcmp := cV (t := tE (e2 (iX) (e2 bx (ad 1) (ad 0)) (e2 ny (e2 bx (ad 1) (ad 2)) (eC (.int 1))))) (ρ := [.val (oT f ps.length), .val (.int i)]) (p := fun g => decide (f g = some (q - 1))) (aw ps i) fun k hk => by
          have hkb := G.goals hk;have hrk : bx (oT f ps.length) (.int i) = .ok (.int q) := by rw [mQ hi.1 hi.2, hq]; rfl
          simp only [List.set_cons_zero, cv, bj, ak, am, bB, R.ok_bind, mQ hkb.1 hkb.2, hrk, sZ, vk, cK]
        obtain ⟨g, hg1, hg2⟩ := hne i q hq hc.2 hc.1;have hm : lU ps who f i = ((aw ps i).filter fun g => decide (f g = some (q - 1))).head? := by
          unfold lU;rw [hq];exact if_pos hc
        have hmem : g ∈ (aw ps i).filter fun g => decide (f g = some (q - 1)) := List.mem_filter.mpr ⟨hg1, decide_eq_true hg2⟩
        cases hL : (aw ps i).filter fun g => decide (f g = some (q - 1)) with
        | nil => rw [hL] at hmem; cases hmem
        | cons v r =>
          rw [hL] at hm hcmp;rw [nK (ds := cg h ps.length) (n := i) (v := .int v) rfl rfl ?_ hi.1 (by rw [bH]; exact hi.2), nH hi.1 hi.2, hm]
          · rfl
          · rw [bj, bi, show aB 1 [2, 4] [.val (gD ps), .val (.int who), .val (oT f ps.length), .own (.list (cg h ps.length)), .val (.int i)] = [.non, .val (oT f ps.length), .val (.int i)] from rfl];simp only [bY, bj, ak, am, bB, R.ok_bind, ln hi.1 hi.2, oI, cH, cf];rw [<- hg, if_pos (by rw [List.length_map]; exact bD (by have := G.glen i; omega)), hcmp, gZ, R.ok_bind, vP (by omega) (by simp)];rfl
      · rw [if_neg (by rw [decide_eq_true_iff]; exact hc)];have hm : lU ps who f i = none := by
          unfold lU;rw [hq];exact if_neg hc
        rw [rY, hm];congr 3;rw [cJ fun j _ _ => ?_];by_cases h1 : j = i
        · subst h1; rw [if_pos rfl, hh]; rfl
        · rw [if_neg h1]
    rw [hb1, R.ok_bind, dh]
theorem iu {ps : List P4} (G : Gr ps) {who : Int} {f : Int -> Option Int} (hne : ∀ i q, f i = some q -> 0 < q -> aj ps i = who -> ∃ g ∈ aw ps i, f g = some (q - 1)) :
    aZ [gD ps, .int who, oT f ps.length] = .ok (oT (lU ps who f) ps.length) := by
  have hp := G.hp;have h0 : bE (aS 0) (fun _ => .ok true) (eC .none) [.non] (cg (fun i => oD (f i)) ps.length) = .ok (cg (fun _ => .none) ps.length) := by
    have := eO (eC .none) [.non] 0 (fun _ => .none) (cg (fun i => oD (f i)) ps.length) fun d _ => rfl
    rw [this];unfold cg;rw [List.map_map];rfl
  obtain ⟨c4, e⟩ := zj G hne (jx f ps.length) (fun _ => .none) .non (nX f ps.length).nd fun x hx => ⟨(ik.mp hx).1, (ik.mp hx).2, rfl⟩
  have fin : cg (fun j => if j ∈ jx f ps.length then oD (lU ps who f j) else .none) ps.length = cg (fun j => oD (lU ps who f j)) ps.length := cJ fun j h1 h2 => by
    by_cases h : j ∈ jx f ps.length
    · rw [if_pos h]
    · rw [if_neg h];have : f j = none := by
        cases hf : f j with
        | none => rfl
        | some q => exact (h (ik.mpr ⟨⟨h1, h2⟩, q, hf⟩)).elim
      unfold lU;rw [this];rfl
  rw [fin] at e;unfold aZ ge;refine dY ?_;rw [show ([gD ps, .int who, oT f ps.length].map ba.val ++ List.replicate (5 - [gD ps, .int who, oT f ps.length].length) ba.non) = [.val (gD ps), .val (.int who), .val (oT f ps.length), .non, .non] from rfl];rw [aJ (ρ' := [.val (gD ps), .val (.int who), .val (oT f ps.length), .own (.list (cg (fun _ => .none) ps.length)), .non]) (by
    rw [nD, bi, show aB 1 [] [.val (gD ps), .val (.int who), .val (oT f ps.length), .non, .non] = [.non] from rfl];simp only [bY, ak, am, R.ok_bind, cH, cf];rw [if_pos (by rw [bH]; exact bD (by omega)), h0];rfl)]
  rw [aJ (ρ' := [.val (gD ps), .val (.int who), .val (oT f ps.length), .own (.list (cg (fun j => oD (lU ps who f j)) ps.length)), c4]) (by
    rw [eI, fH, bY];simp only [aX, aL, aP, ak, am, R.ok_bind, lW (show ps.length <= 1000 by omega), cH];unfold vR at e;rw [e];rfl)]
  rfl
theorem kF {ps : List P4} {js : List Int} {who : Int} {gs : List Int} {rk : Int -> Option Int} (A : uK ps js who gs rk) : ∀ i q, rk i = some q -> 0 < q -> aj ps i = who -> ∃ g ∈ aw ps i, rk g = some (q - 1) := fun i q h1 h2 h3 => by
  obtain ⟨g, hg, e⟩ := A.own i q h1 h2 h3;exact ⟨g, (List.mem_filter.mp hg).1, e⟩
def xf : List PyData -> Prop := fun ds => ∀ x ∈ ds, hU x /\ x.depth = 0
theorem xf.dep : ∀ {ds : List PyData}, xf ds -> PyData.depthAll ds = 0
  | [], _ => by simp [PyData.depthAll]
  | d :: ds, h => by simp [PyData.depthAll, (h d List.mem_cons_self).2, xf.dep fun x hx => h x (List.mem_cons_of_mem _ hx)]
theorem xf.good {ds : List PyData} (h : xf ds) : hU (.tuple ds) := ku.mpr fun x hx => (h x hx).1
theorem zP (o : Option Int) : hU (oD o) /\ (oD o).depth = 0 := by
  cases o
  · exact ⟨wB, by simp [oD, PyData.depth]⟩
  · exact ⟨sJ _, by simp [oD, PyData.depth]⟩
theorem sf (f : Int -> Option Int) (n : Nat) : xf (cg (fun i => oD (f i)) n) := fun x hx => by
  obtain ⟨i, _, rfl⟩ := List.mem_map.mp hx;exact zP _
theorem vE (f : Int -> Option Int) (n : Nat) : hU (oT f n) := (sf f n).good
theorem D1 {ps : List P4} {hi : Int} (hp : ∀ p ∈ ps, Pl ps.length hi p) (h24 : (ps.length : Int) <= 24) : Gr ps :=
  ⟨fun p h => by have := (hp p h).len; omega, fun p h => (hp p h).inn, by omega, fun p h => (hp p h).so, fun p h => (hp p h).ne⟩
theorem Gr.gne {ps : List P4} (G : Gr ps) {i : Int} (h0 : 0 <= i) (h1 : i < ps.length) : ∃ g, g ∈ aw ps i := by
  have := G.ne _ (List.getElem_mem (show i.toNat < ps.length by omega));rw [<- dP h0 h1] at this;exact List.exists_mem_of_ne_nil _ this
theorem vZ {ps : List P4} (G : Gr ps) : gi ps (ids ps.length) := fun i hi => by
  obtain ⟨h0, h1⟩ := bU.mp hi;obtain ⟨g, hg⟩ := G.gne h0 h1;exact ⟨g, List.mem_filter.mpr ⟨hg, bS.mpr (bU.mpr (G.goals hg))⟩⟩
theorem rR {n : Nat} (h : n <= 1000) : CS .tuple [.int (n : Int)] = .ok (.tuple ((ids n).map .int)) := by
  rw [DB (by omega) (by omega), ky];rfl
def ix (js : List Int) (some : List Int) : List Int := js.filter fun i => !cO some i
theorem bw {js some : List Int} {i : Int} : i ∈ ix js some <-> i ∈ js /\ i ∉ some := by
  unfold ix;rw [List.mem_filter, Bool.not_eq_true', <- Bool.not_eq_true, bS]
theorem mT {ps : List P4} (hp : ps.length <= 1000) : bM [gD ps] = .ok (.tuple (cg (fun _ => .none) ps.length)) := by
  have h0 : bE (aS 0) (fun _ => .ok true) (eC .none) [.non] (ps.map P4.d) = .ok (cg (fun _ => .none) ps.length) := by
    have := eO (eC .none) [.non] 0 (fun _ => .none) (ps.map P4.d) fun d _ => rfl
    rw [this];congr 1;refine List.ext_getElem (by rw [List.length_map, List.length_map, bH]) fun k h1 h2 => ?_
    rw [bH] at h2;have e := gn (f := fun _ => .none) (n := ps.length) (i := (k : Int)) (by omega) (by omega);simp only [Int.toNat_natCast] at e;rw [e, List.getElem_map]
  unfold bM kC;refine dY ?_;rw [show ([gD ps].map ba.val ++ List.replicate (1 - [gD ps].length) ba.non) = [.val (gD ps)] from rfl];rw [ci, bW, bi, show aB 1 [] [.val (gD ps)] = [.non] from rfl];simp only [bY, ak, R.ok_bind, cH, cf];rw [if_pos (by rw [List.length_map]; exact bD hp), h0];rfl
def ff (ps : List P4) (who : Int) (part : List Int) (i : Int) : Option Int := if i ∈ part /\ aj ps i = who then (bF ps part i).head? else none
def u4 : Fs := (lH (tE (e2 (iX) (e2 bx (e2 bx (ad 0) (ad 4)) (eC (.int 0))) (ad 1))) (gS 3 (ad 4) (e2 bx (aH bZ (af (e2 bx (e2 bx (ad 0) (ad 4)) (eC (.int 3))) (af (ad 2) aI))) (eC (.int 0)))) dC)
theorem yM {ps : List P4} (G : Gr ps) {who : Int} {s : PyData} {part : List Int} (hs : sC s part) (hj : dX ps.length part) (hne : ∀ i ∈ part, aj ps i = who -> ∃ g, g ∈ bF ps part i) : ∀ (is : List Int) (h : Int -> PyData) (c4 : ba), is.Nodup -> (∀ x ∈ is, x ∈ part /\ h x = .none) ->
    ∃ c4', eS (aS 4) u4 (is.map .int) [.val (gD ps), .val (.int who), .val s, .own (.list (cg h ps.length)), c4] = .ok (.nx [.val (gD ps), .val (.int who), .val s, .own (.list (cg (fun j => if j ∈ is then oD (ff ps who part j) else h j) ps.length)), c4'])
  | [], h, c4, _, _ => ⟨c4, by rw [List.map_nil, fT]; simp⟩
  | i :: is, h, c4, nd, hb => by
    obtain ⟨n1, n2⟩ := List.nodup_cons.mp nd;obtain ⟨hip, hh⟩ := hb i List.mem_cons_self;have hi := hj.inn i hip;have ho := gv hi.1 hi.2;have hg := dP hi.1 hi.2;obtain ⟨c4', e⟩ := yM G hs hj hne is (fun j => if j = i then oD (ff ps who part i) else h j) (.val (.int i)) n2 (fun x hx => ⟨(hb x (List.mem_cons_of_mem _ hx)).1, by
      have : x ≠ i := by rintro rfl; exact n1 hx
      show (if x = i then _ else h x) = _;rw [if_neg this];exact (hb x (List.mem_cons_of_mem _ hx)).2⟩)
    refine ⟨c4', ?_⟩;have fin : cg (fun j => if j ∈ is then oD (ff ps who part j) else (fun j => if j = i then oD (ff ps who part i) else h j) j) ps.length = cg (fun j => if j ∈ i :: is then oD (ff ps who part j) else h j) ps.length := cJ fun j _ _ => by
      by_cases h1 : j = i
      · subst h1;simp [n1]
      · by_cases h2 : j ∈ is <;> simp [h1, h2]
    rw [fin] at e;rw [<- e, List.map_cons, eP, show (([.val (gD ps), .val (.int who), .val s, .own (.list (cg h ps.length)), c4] : aN).set 4 (.val (.int i))) = [.val (gD ps), .val (.int who), .val s, .own (.list (cg h ps.length)), .val (.int i)] from rfl];have ht : (tE (e2 (iX) (e2 bx (e2 bx (ad 0) (ad 4)) (eC (.int 0))) (ad 1))) [.val (gD ps), .val (.int who), .val s, .own (.list (cg h ps.length)), .val (.int i)] = .ok (decide (aj ps i = who)) := by
      simp only [cv, bj, ak, am, bB, R.ok_bind, ln hi.1 hi.2, qy, fL, cK];rw [<- ho]
    have hb1 : u4 [.val (gD ps), .val (.int who), .val s, .own (.list (cg h ps.length)), .val (.int i)] = .ok (.nx [.val (gD ps), .val (.int who), .val s, .own (.list (cg (fun j => if j = i then oD (ff ps who part i) else h j) ps.length)), .val (.int i)]) := by
      unfold u4;rw [du, ht, R.ok_bind];by_cases hc : aj ps i = who
      · rw [if_pos (decide_eq_true hc)];have hcm := p6 (s := .tuple ((aw ps i).map .int)) (ns := aw ps i) (.inl rfl) hs (by have := G.glen i; omega);obtain ⟨g, hg1⟩ := hne i hip hc;have hm : ff ps who part i = (bF ps part i).head? := if_pos ⟨hip, hc⟩;have hw : (aw ps i).filter (cO part) = bF ps part i := rfl;rw [hw] at hcm;cases hL : bF ps part i with
        | nil => rw [hL] at hg1; cases hg1
        | cons v r =>
          rw [hL] at hm hcm;rw [nK (ds := cg h ps.length) (n := i) (v := .int v) rfl rfl ?_ hi.1 (by rw [bH]; exact hi.2), nH hi.1 hi.2, hm]
          · rfl
          · simp only [bj, aX, aL, aP, ak, am, bB, R.ok_bind, ln hi.1 hi.2, oI];rw [<- hg, hcm, R.ok_bind, vI (by omega) (by simp)];rfl
      · rw [if_neg (by rw [decide_eq_true_iff]; exact hc)];have hm : ff ps who part i = none := if_neg fun z => hc z.2
        rw [rY, hm];congr 3;rw [cJ fun j _ _ => ?_];by_cases h1 : j = i
        · subst h1; rw [if_pos rfl, hh]; rfl
        · rw [if_neg h1]
    rw [hb1, R.ok_bind, dh]
theorem mn {ps : List P4} (G : Gr ps) {who : Int} {s : PyData} {part : List Int} (hs : sC s part) (hj : dX ps.length part) (hne : ∀ i ∈ part, aj ps i = who -> ∃ g, g ∈ bF ps part i) :
    bo [gD ps, .int who, s] = .ok (oT (ff ps who part) ps.length) := by
  have hp := G.hp;have hn := mT (ps := ps) (by omega);obtain ⟨c4, e⟩ := yM G hs hj hne part (fun _ => .none) .non hj.nd fun x hx => ⟨hx, rfl⟩
  have fin : cg (fun j => if j ∈ part then oD (ff ps who part j) else .none) ps.length = cg (fun j => oD (ff ps who part j)) ps.length := cJ fun j h1 h2 => by
    by_cases h : j ∈ part
    · rw [if_pos h]
    · rw [if_neg h];have : ff ps who part j = none := if_neg fun z => h z.1
      rw [this];rfl
  rw [fin] at e;unfold bo fX;refine dY ?_;rw [show ([gD ps, .int who, s].map ba.val ++ List.replicate (5 - [gD ps, .int who, s].length) ba.non) = [.val (gD ps), .val (.int who), .val s, .non, .non] from rfl];rw [aJ (ρ' := [.val (gD ps), .val (.int who), .val s, .own (.list (cg (fun _ => .none) ps.length)), .non]) (by
    simp only [nD, bW, aX, aL, aP, ak, R.ok_bind, hn, zL];rfl)]
  rw [aJ (ρ' := [.val (gD ps), .val (.int who), .val s, .own (.list (cg (fun j => oD (ff ps who part j)) ps.length)), c4]) (by
    rw [eI, fH, bY];simp only [ak, am, R.ok_bind, hs.seq];unfold u4 at e;rw [e];rfl)]
  rfl
theorem DV (ns : List Int) (i : Int) (neg : Bool) : lI neg (.int i) (.tuple (ns.map .int)) = .ok (.bool (if neg then !(ns.any fun j => decide (j = i)) else ns.any fun j => decide (j = i))) := Bw ns i neg
def CV (ns : List Int) : PyData -> Bool
  | .none => true
  | .int i => ns.any fun j => decide (j = i)
  | _ => false
def oX (ps : List P4) : PyData -> Bool
  | .tuple ds => decide (ds.length = ps.length) && (ds.zip ps).all fun q => CV q.2.ns q.1
  | _ => false
theorem qa {ps : List P4} {f : Int -> Option Int} (h : ∀ i g, f i = some g -> g ∈ aw ps i) : oX ps (oT f ps.length) = true := by
  show (decide _ && _) = true;rw [decide_eq_true (bH ..), Bool.true_and, List.all_eq_true];intro q hq;obtain ⟨k, hk, e⟩ := List.mem_iff_getElem.mp hq;rw [List.length_zip, bH, Nat.min_self] at hk;rw [List.getElem_zip] at e;have e2 := gn (f := fun i => oD (f i)) (n := ps.length) (i := (k : Int)) (by omega) (by omega);simp only [Int.toNat_natCast] at e2;rw [e2] at e;subst e;cases hf : f (k : Int) with
  | none => rfl
  | some g =>
    have := h _ _ hf;rw [dP (by omega) (by omega)] at this;simp only [Int.toNat_natCast] at this;exact bS.mpr this
structure Sh where
  w : Int
  pl : List Int
  mv : Int -> Option Int
abbrev A3 : List Str := ["who", "places", "moves"]
def i6 (c : Addr) (n : Nat) (s : Sh) : PyData := zo c A3 [.int s.w, .tuple (s.pl.map .int), oT s.mv n]
theorem uN (c : Addr) (n : Nat) (s : Sh) : i6 c n s = .dict [(.none, .int c), (.str "who", .int s.w), (.str "places", .tuple (s.pl.map .int)), (.str "moves", oT s.mv n)] := rfl
theorem Az (c : Addr) (n : Nat) (s : Sh) : kc c "who" (i6 c n s) = .ok (.int s.w) := by
  rw [uN];show (if (c : Int) = (c : Int) then (if ("who" : Str) = "who" then R.ok _ else _) else .no) = _;rw [if_pos rfl, if_pos rfl]
theorem oZ (c : Addr) (n : Nat) (s : Sh) : kc c "places" (i6 c n s) = .ok (.tuple (s.pl.map .int)) := by
  rw [uN];show (if (c : Int) = (c : Int) then (if ("who" : Str) = "places" then _ else if ("places" : Str) = "places" then R.ok _ else _) else .no) = _;rw [if_pos rfl, if_neg (by decide +kernel), if_pos rfl]
theorem wG (c : Addr) (n : Nat) (s : Sh) : kc c "moves" (i6 c n s) = .ok (oT s.mv n) := by
  rw [uN];show (if (c : Int) = (c : Int) then (if ("who" : Str) = "moves" then _ else if ("places" : Str) = "moves" then _ else if ("moves" : Str) = "moves" then R.ok _ else _) else .no) = _;rw [if_pos rfl, if_neg (by decide +kernel), if_neg (by decide +kernel), if_pos rfl]
theorem A2 {f g h : Int -> PyData} {n : Nat} {fe : Fe} {ρ : aN} (hh : ∀ i : Int, 0 <= i -> i < n -> fe (.val (f i) :: .val (g i) :: ρ) = .ok (h i)) : bE (cM 0 1) (fun _ => .ok true) fe (.non :: .non :: ρ) (gF (cg f n) (cg g n)) = .ok (cg h n) := by
  have go : ∀ is : List Int, (∀ i ∈ is, 0 <= i /\ i < n) -> bE (cM 0 1) (fun _ => .ok true) fe (.non :: .non :: ρ) (gF (is.map f) (is.map g)) = .ok (is.map h) := by
    intro is;induction is with
    | nil => intro _; unfold gF; simp [cB]
    | cons i is ih =>
      intro hb;have e : gF ((i :: is).map f) ((i :: is).map g) = .tuple [f i, g i] :: gF (is.map f) (is.map g) := rfl;rw [e, gB, ih fun x hx => hb x (List.mem_cons_of_mem _ hx)];have := hh i (hb i List.mem_cons_self).1 (hb i List.mem_cons_self).2;simp only [R.ok_bind, if_true, List.set_cons_zero, List.set_cons_succ, this];rfl
  exact go (ids n) fun i hi => bU.mp hi
def dZ (f g : Int -> Option Int) (i : Int) : Option Int := (f i).or (g i)
theorem nA {f g : Int -> Option Int} {n : Nat} (hn : n <= 1000) : aC [oT f n, oT g n] = .ok (oT (dZ f g) n) := by
  have hc := A2 (f := fun i => oD (f i)) (g := fun i => oD (g i)) (h := fun i => oD (dZ f g i)) (n := n) (ρ := []) (fe := AB (tE (e2 (jb) (ad 0) (eC .none))) (ad 1) (ad 0)) fun i _ _ => by
    simp only [uq, cv, bj, ak, am, bB, R.ok_bind, tN, cK];unfold dZ;cases f i <;> rfl
  unfold aC gc;refine dY ?_;rw [show ([oT f n, oT g n].map ba.val ++ List.replicate (2 - [oT f n, oT g n].length) ba.non) = [.val (oT f n), .val (oT g n)] from rfl];rw [ci, bW, bi, show aB 2 [] [.val (oT f n), .val (oT g n)] = [.non, .non] from rfl];simp only [uZ, ak, am, R.ok_bind, cH, cf];rw [if_pos (by rw [jg, bH, bH, Nat.min_self]; exact bD hn), hc];rfl
theorem pD {ps : List P4} (hp : ps.length <= 1000) : cq [gD ps] = .ok (.tuple ((ids ps.length).map .int)) := by
  have hrt := rR (n := ps.length) hp;have hlen : dE (gD ps) = .ok (.int ps.length) := by simp
  unfold cq iI;refine dY ?_;rw [show ([gD ps].map ba.val ++ List.replicate (1 - [gD ps].length) ba.non) = [.val (gD ps)] from rfl];simp only [ci, yV, aL, aP, bW, ak, R.ok_bind, hlen, hrt]
def yb (s : Sh) (f : Int -> Option Int) (i : Int) : Option Int := if i ∈ s.pl then some s.w else f i
def mM : (Int -> Option Int) -> List Sh -> Int -> Option Int
  | f, [] => f
  | f, s :: l => mM (yb s f) l
def sB : (Int -> Option Int) -> List Sh -> Int -> Option Int
  | f, [] => f
  | f, s :: l => sB (dZ f s.mv) l
theorem yK {c : Addr} {n : Nat} {a b m : PyData} {s : Sh} : ∀ (is : List Int) (f : Int -> Option Int) (c5 : ba), (∀ x ∈ is, 0 <= x /\ x < n) ->
    ∃ c5', eS (aS 5) (gS 2 (ad 5) (e1 (kc c "who") (ad 4))) (is.map .int) [.val a, .val b, .own (.list (cg (fun i => oD (f i)) n)), .val m, .val (i6 c n s), c5] = .ok (.nx [.val a, .val b, .own (.list (cg (fun i => oD (if i ∈ is then some s.w else f i)) n)), .val m, .val (i6 c n s), c5'])
  | [], f, c5, _ => ⟨c5, by rw [List.map_nil, fT]; simp⟩
  | i :: is, f, c5, hb => by
    obtain ⟨h0, h1⟩ := hb i List.mem_cons_self;obtain ⟨c5', e⟩ := yK (c := c) (n := n) (a := a) (b := b) (m := m) (s := s) is (fun j => if j = i then some s.w else f j) (.val (.int i)) fun x hx => hb x (List.mem_cons_of_mem _ hx)
    refine ⟨c5', ?_⟩;rw [List.map_cons, eP];rw [show (([.val a, .val b, .own (.list (cg (fun i => oD (f i)) n)), .val m, .val (i6 c n s), c5] : aN).set 5 (.val (.int i))) = [.val a, .val b, .own (.list (cg (fun i => oD (f i)) n)), .val m, .val (i6 c n s), .val (.int i)] from rfl];rw [nK (ds := cg (fun i => oD (f i)) n) (n := i) (v := .int s.w) rfl rfl (by simp only [bW, am, ak, R.ok_bind, Az]) h0 (by rw [bH]; exact h1), R.ok_bind, dh, nH h0 h1];have ht : cg (fun j => if j = i then PyData.int s.w else oD (f j)) n = cg (fun j => oD (if j = i then some s.w else f j)) n := cJ fun j _ _ => by split <;> rfl
    have ht2 : cg (fun j => oD (if j ∈ is then some s.w else if j = i then some s.w else f j)) n = cg (fun j => oD (if j ∈ i :: is then some s.w else f j)) n := cJ fun j _ _ => by
      by_cases z1 : j ∈ is
      · simp [z1]
      · by_cases z2 : j = i <;> simp [z1, z2]
    rw [ht, <- ht2];exact e
def rm (c : Addr) : Fs := (aU (h9 (jc (eA (e1 (kc c "places") (ad 4))) (aS 5) (gS 2 (ad 5) (e1 (kc c "who") (ad 4))))) (bQ 3 (aH aC (af (ad 3) (af (e1 (kc c "moves") (ad 4)) aI)))))
theorem vd {c : Addr} {n : Nat} (hn : n <= 1000) {a b : PyData} : ∀ (l : List Sh) (f m : Int -> Option Int) (c4 c5 : ba), (∀ s ∈ l, ∀ x ∈ s.pl, 0 <= x /\ x < n) ->
    ∃ c4' c5', eS (aS 4) (rm c) (l.map (i6 c n)) [.val a, .val b, .own (.list (cg (fun i => oD (f i)) n)), .val (oT m n), c4, c5] = .ok (.nx [.val a, .val b, .own (.list (cg (fun i => oD (mM f l i)) n)), .val (oT (sB m l) n), c4', c5'])
  | [], f, m, c4, c5, _ => ⟨c4, c5, by rw [List.map_nil, fT]; rfl⟩
  | s :: l, f, m, c4, c5, hb => by
    obtain ⟨d5, e1⟩ := yK (c := c) (n := n) (a := a) (b := b) (m := oT m n) (s := s) s.pl f c5 (hb s List.mem_cons_self);obtain ⟨c4', c5', e⟩ := vd (c := c) hn (a := a) (b := b) l (yb s f) (dZ m s.mv) (.val (i6 c n s)) d5 fun t ht => hb t (List.mem_cons_of_mem _ ht)
    refine ⟨c4', c5', ?_⟩;rw [List.map_cons, eP];rw [show (([.val a, .val b, .own (.list (cg (fun i => oD (f i)) n)), .val (oT m n), c4, c5] : aN).set 4 (.val (i6 c n s))) = [.val a, .val b, .own (.list (cg (fun i => oD (f i)) n)), .val (oT m n), .val (i6 c n s), c5] from rfl];have hb1 : rm c [.val a, .val b, .own (.list (cg (fun i => oD (f i)) n)), .val (oT m n), .val (i6 c n s), c5] = .ok (.nx [.val a, .val b, .own (.list (cg (fun i => oD (yb s f i)) n)), .val (oT (dZ m s.mv) n), .val (i6 c n s), d5]) := by
      unfold rm;rw [aJ (ρ' := [.val a, .val b, .own (.list (cg (fun i => oD (yb s f i)) n)), .val (oT m n), .val (i6 c n s), d5]) (by
        rw [eI, fH, bY, bW];simp only [am, ak, R.ok_bind, oZ, cH];rw [e1];rfl)]
      simp only [bp, aX, aL, aP, bW, am, ak, R.ok_bind, wG, nA hn];rfl
    rw [hb1, R.ok_bind, dh, e];rfl
theorem Ed {ps : List P4} (hp : ps.length <= 1000) {c : Addr} {l : List Sh} (hb : ∀ s ∈ l, ∀ x ∈ s.pl, 0 <= x /\ x < ps.length) :
    aW c [gD ps, .list (l.map (i6 c ps.length))] = .ok (.tuple [oT (mM (fun _ => none) l) ps.length, oT (sB (fun _ => none) l) ps.length]) := by
  obtain ⟨c4, c5, e⟩ := vd (c := c) hp (a := gD ps) (b := .list (l.map (i6 c ps.length))) l (fun _ => none) (fun _ => none) .non .non hb;have h0 : bE (aS 0) (fun _ => .ok true) (eC .none) [.non] (ps.map P4.d) = .ok (cg (fun _ => oD none) ps.length) := by
    have := eO (eC .none) [.non] 0 (fun _ => .none) (ps.map P4.d) fun d _ => rfl
    rw [this];congr 1;refine List.ext_getElem (by rw [List.length_map, List.length_map, bH]) fun k h1 h2 => ?_
    rw [bH] at h2;have e := gn (f := fun _ => oD none) (n := ps.length) (i := (k : Int)) (by omega) (by omega);simp only [Int.toNat_natCast] at e;rw [e, List.getElem_map];rfl
  have hn := mT (ps := ps) hp;unfold aW ed;refine dY ?_;rw [show ([gD ps, .list (l.map (i6 c ps.length))].map ba.val ++ List.replicate (6 - [gD ps, .list (l.map (i6 c ps.length))].length) ba.non) = [.val (gD ps), .val (.list (l.map (i6 c ps.length))), .non, .non, .non, .non] from rfl];rw [aJ (ρ' := [.val (gD ps), .val (.list (l.map (i6 c ps.length))), .own (.list (cg (fun _ => oD none) ps.length)), .non, .non, .non]) (by
    rw [nD, bi, show aB 1 [] [.val (gD ps), .val (.list (l.map (i6 c ps.length))), .non, .non, .non, .non] = [.non] from rfl];simp only [bY, ak, R.ok_bind, cH, cf];rw [if_pos (by rw [List.length_map]; exact bD hp), h0];rfl)]
  rw [aJ (ρ' := [.val (gD ps), .val (.list (l.map (i6 c ps.length))), .own (.list (cg (fun _ => oD none) ps.length)), .val (oT (fun _ => none) ps.length), .non, .non]) (by
    simp only [bp, aX, aL, aP, ak, R.ok_bind, hn];rfl)]
  rw [aJ (ρ' := [.val (gD ps), .val (.list (l.map (i6 c ps.length))), .own (.list (cg (fun i => oD (mM (fun _ => none) l i)) ps.length)), .val (oT (sB (fun _ => none) l) ps.length), c4, c5]) (by
    rw [eI, fH, bY];simp only [am, ak, R.ok_bind, tf];unfold rm at e;rw [e];rfl)]
  simp only [ci, nE, aL, aP, bW, gX, gP, am, ak, R.ok_bind, jd];rfl
def Wy (ps : List P4) (js : List Int) (w : Int) (mv : Int -> Option Int) (i g : Int) : Prop := (aj ps i = w /\ mv i = some g) \/ (aj ps i ≠ w /\ g ∈ bF ps js i)
theorem fP {ps : List P4} {js : List Int} {i g : Int} (h : g ∈ bF ps js i) : g ∈ js := bS.mp (List.mem_filter.mp h).2
theorem eN {ps : List P4} {js : List Int} {i g : Int} (h : g ∈ bF ps js i) : g ∈ aw ps i := (List.mem_filter.mp h).1
theorem iD {ps : List P4} {js : List Int} {i g : Int} (h : g ∈ aw ps i) (h2 : g ∈ js) : g ∈ bF ps js i := List.mem_filter.mpr ⟨h, bS.mpr h2⟩
theorem va {ps : List P4} {js gs : List Int} {who : Int} {rk : Int -> Option Int} (A : uK ps js who gs rk) {i q : Int} (h : rk i = some q) (hq : 0 < q) (ho : aj ps i = who) : ∃ g, lU ps who rk i = some g /\ g ∈ bF ps js i /\ rk g = some (q - 1) := by
  obtain ⟨g, g1, g2⟩ := kF A i q h hq ho;have hm : lU ps who rk i = ((aw ps i).filter fun g => decide (rk g = some (q - 1))).head? := by
    unfold lU;rw [h];exact if_pos ⟨ho, hq⟩
  have hmem : g ∈ (aw ps i).filter fun g => decide (rk g = some (q - 1)) := List.mem_filter.mpr ⟨g1, decide_eq_true g2⟩
  cases hL : (aw ps i).filter fun g => decide (rk g = some (q - 1)) with
  | nil => rw [hL] at hmem; cases hmem
  | cons v r =>
    rw [hL] at hm;have hv : v ∈ (aw ps i).filter fun g => decide (rk g = some (q - 1)) := by rw [hL]; exact List.mem_cons_self
    have h2 := of_decide_eq_true (List.mem_filter.mp hv).2;exact ⟨v, hm, iD (List.mem_filter.mp hv).1 (A.sub v _ h2), h2⟩
theorem gy {ps : List P4} {who : Int} {rk : Int -> Option Int} {i : Int} (h : aj ps i ≠ who \/ rk i = none \/ rk i = some 0) : lU ps who rk i = none := by
  unfold lU;rcases h with h | h | h
  · cases rk i with
    | none => rfl
    | some q => exact if_neg fun z => h z.1
  · rw [h]
  · rw [h];exact if_neg fun z => by omega
theorem xi {ps : List P4} {who : Int} {part : List Int} {i : Int} (hi : i ∈ part) (ho : aj ps i = who) (hw : ∃ g, g ∈ bF ps part i) : ∃ g, ff ps who part i = some g /\ g ∈ bF ps part i := by
  have hm : ff ps who part i = (bF ps part i).head? := if_pos ⟨hi, ho⟩;obtain ⟨g, hg⟩ := hw;cases hL : bF ps part i with
  | nil => rw [hL] at hg; cases hg
  | cons v r =>
    rw [hL] at hm;exact ⟨v, hm, List.mem_cons_self⟩
theorem tK {ps : List P4} {who : Int} {part : List Int} {i : Int} (h : i ∉ part \/ aj ps i ≠ who) : ff ps who part i = none := if_neg fun z => h.elim (fun y => y z.1) fun y => y z.2
inductive pZ (E : Int -> Int -> Prop) (al : Int -> Prop) (s : Int) : Int -> Prop
  | one {x : Int} : E s x -> al x -> pZ E al s x
  | more {x y : Int} : pZ E al s x -> E x y -> al y -> pZ E al s y
theorem pZ.al {E : Int -> Int -> Prop} {al : Int -> Prop} {s x : Int} (h : pZ E al s x) : al x := by cases h <;> assumption
theorem pZ.imp {E E' : Int -> Int -> Prop} {al al' : Int -> Prop} {s t : Int} (h : pZ E al s t) (h1 : ∀ y, E s y -> al y -> E' s y /\ al' y) (h2 : ∀ x y, al x -> E x y -> al y -> E' x y /\ al' y) : pZ E' al' s t := by
  induction h with
  | one a b => exact .one (h1 _ a b).1 (h1 _ a b).2
  | more r a b ih => exact .more ih (h2 _ _ r.al a b).1 (h2 _ _ r.al a b).2
theorem pZ.inn {E : Int -> Int -> Prop} {al : Int -> Prop} {s t : Int} {P : Int -> Prop} (h : pZ E al s t) (hs : P s) (hP : ∀ x y, P x -> E x y -> al y -> P y) : pZ E (fun x => al x /\ P x) s t := by
  induction h with
  | one a b => exact .one a ⟨b, hP _ _ hs a b⟩
  | more r a b ih => exact .more ih a ⟨b, hP _ _ ih.al.2 a b⟩
theorem pZ.out {E : Int -> Int -> Prop} {al : Int -> Prop} {s t : Int} {P : Int -> Prop} (h : pZ E al s t) (ht : ¬ P t) (hP : ∀ x y, al x -> P x -> E x y -> al y -> P y) : pZ E (fun x => al x /\ ¬ P x) s t := by
  induction h with
  | one a b => exact .one a ⟨b, ht⟩
  | more r a b ih =>
    have hx := fun z => ht (hP _ _ r.al z a b)
    exact .more (ih hx) a ⟨b, ht⟩
theorem pZ.less {E : Int -> Int -> Prop} {al : Int -> Prop} {s t : Int} {φ : Int -> Int} (h : pZ E al s t) (h1 : ∀ y, E s y -> al y -> φ y < φ s) (h2 : ∀ x y, al x -> E x y -> al y -> φ y <= φ x) : φ t < φ s := by
  induction h with
  | one a b => exact h1 _ a b
  | more r a b ih =>
    have := h2 _ _ r.al a b;omega
structure tM (ps : List P4) (js : List Int) (win : Int -> Int) (mv : Int -> Option Int) : Prop where
  two : ∀ i ∈ js, win i = 0 \/ win i = 1
  has : ∀ i ∈ js, aj ps i = win i -> ∃ g, mv i = some g /\ g ∈ aw ps i
  non : ∀ i ∈ js, aj ps i ≠ win i -> mv i = none
  stay : ∀ i ∈ js, ∀ g, Wy ps js (win i) mv i g -> g ∈ js /\ win g = win i
  good : ∀ i ∈ js, aD ps i % 2 ≠ win i -> ¬ pZ (Wy ps js (win i) mv) (fun x => x ∈ js /\ win x = win i /\ aD ps x <= aD ps i) i i
structure gL (ps : List P4) (js : List Int) (s : Sh) : Prop where
  two : s.w = 0 \/ s.w = 1
  sub : ∀ i ∈ s.pl, i ∈ js
  ne : s.pl ≠ []
  has : ∀ i ∈ s.pl, aj ps i = s.w -> ∃ g, s.mv i = some g /\ g ∈ aw ps i
  non : ∀ i, (i ∉ s.pl \/ aj ps i ≠ s.w) -> s.mv i = none
  stay : ∀ i ∈ s.pl, ∀ g, Wy ps js s.w s.mv i g -> g ∈ s.pl
  outO : ∀ i ∈ js, i ∉ s.pl -> aj ps i = s.w -> ∀ g ∈ bF ps js i, g ∉ s.pl
  outX : ∀ i ∈ js, i ∉ s.pl -> aj ps i ≠ s.w -> ∃ g ∈ bF ps js i, g ∉ s.pl
  good : ∀ i ∈ s.pl, aD ps i % 2 ≠ s.w -> ¬ pZ (Wy ps js s.w s.mv) (fun x => x ∈ s.pl /\ aD ps x <= aD ps i) i i
theorem kr {ps : List P4} {K : List Int} {w : Int} {m1 m2 : Int -> Option Int} {i g : Int} (e : m1 i = m2 i) (h : Wy ps K w m1 i g) : Wy ps K w m2 i g := by
  rcases h with ⟨a, b⟩ | h
  · exact .inl ⟨a, by rw [<- e]; exact b⟩
  · exact .inr h
theorem gL.whole {ps : List P4} {js : List Int} {s : Sh} (S : gL ps js s) (hw : gi ps js) : gi ps (ix js s.pl) := by
  intro i hi;obtain ⟨h1, h2⟩ := bw.mp hi;have fin : ∀ g ∈ bF ps js i, g ∉ s.pl -> ∃ g, g ∈ bF ps (ix js s.pl) i := fun g g1 g2 => ⟨g, iD (eN g1) (bw.mpr ⟨fP g1, g2⟩)⟩
  by_cases ho : aj ps i = s.w
  · obtain ⟨g, hg⟩ := hw i h1;exact fin g hg (S.outO i h1 h2 ho g hg)
  · obtain ⟨g, g1, g2⟩ := S.outX i h1 h2 ho;exact fin g g1 g2
theorem zd {ps : List P4} {js : List Int} (hown : ∀ i ∈ js, aj ps i = 0 \/ aj ps i = 1) {s : Sh} (S : gL ps js s) {win : Int -> Int} {mv : Int -> Option Int} (I : tM ps (ix js s.pl) win mv) :
    tM ps js (fun i => if i ∈ s.pl then s.w else win i) (fun i => if i ∈ s.pl then s.mv i else mv i) := by
  have wP : ∀ {i}, i ∈ s.pl -> (if i ∈ s.pl then s.w else win i) = s.w := fun h => if_pos h
  have wR : ∀ {i}, i ∉ s.pl -> (if i ∈ s.pl then s.w else win i) = win i := fun h => if_neg h
  have mP : ∀ {i}, i ∈ s.pl -> (if i ∈ s.pl then s.mv i else mv i) = s.mv i := fun h => if_pos h
  have mR : ∀ {i}, i ∉ s.pl -> (if i ∈ s.pl then s.mv i else mv i) = mv i := fun h => if_neg h
  have goR : ∀ i g, i ∈ js -> i ∉ s.pl -> Wy ps js (win i) mv i g -> (g ∈ js /\ g ∉ s.pl /\ Wy ps (ix js s.pl) (win i) mv i g) \/ (win i = s.w /\ g ∈ s.pl) := fun i g hi hn h => by
    have hi' := bw.mpr ⟨hi, hn⟩;rcases h with ⟨ho, hm⟩ | ⟨ho, hm⟩
    · have w : Wy ps (ix js s.pl) (win i) mv i g := .inl ⟨ho, hm⟩;obtain ⟨z1, z2⟩ := bw.mp (I.stay i hi' g w).1;exact .inl ⟨z1, z2, w⟩
    · by_cases hg : g ∈ s.pl
      · right;refine ⟨?_, hg⟩;have h1 : aj ps i ≠ s.w := fun z => S.outO i hi hn z g hm hg
        have := hown i hi;have := I.two i hi';have := S.two;omega
      · exact .inl ⟨fP hm, hg, .inr ⟨ho, iD (eN hm) (bw.mpr ⟨fP hm, hg⟩)⟩⟩
  refine ⟨fun i hi => ?_, fun i hi ho => ?_, fun i hi ho => ?_, fun i hi g hg => ?_, fun i hi hm hp => ?_⟩
  · by_cases h : i ∈ s.pl
    · rw [wP h]; exact S.two
    · rw [wR h]; exact I.two i (bw.mpr ⟨hi, h⟩)
  · by_cases h : i ∈ s.pl
    · rw [mP h]; exact S.has i h (ho.trans (wP h))
    · rw [mR h]; exact I.has i (bw.mpr ⟨hi, h⟩) (ho.trans (wR h))
  · by_cases h : i ∈ s.pl
    · rw [mP h]; exact S.non i (.inr fun z => ho (z.trans (wP h).symm))
    · rw [mR h]; exact I.non i (bw.mpr ⟨hi, h⟩) fun z => ho (z.trans (wR h).symm)
  · by_cases h : i ∈ s.pl
    · rw [wP h] at hg ⊢;have := S.stay i h g (kr (mP h) hg);exact ⟨S.sub g this, wP this⟩
    · rw [wR h] at hg ⊢;rcases goR i g hi h (kr (mR h) hg) with ⟨z1, z2, z3⟩ | ⟨z1, z2⟩
      · refine ⟨z1, ?_⟩;rw [wR z2];exact (I.stay i (bw.mpr ⟨hi, h⟩) g z3).2
      · refine ⟨S.sub g z2, ?_⟩;rw [wP z2];exact z1.symm
  · by_cases h : i ∈ s.pl
    · rw [wP h] at hm hp;refine S.good i h hm ?_;refine (hp.inn (P := fun x => x ∈ s.pl) h fun x y hx e _ => S.stay x hx y (kr (mP hx) e)).imp (fun y e a => ⟨kr (mP h) e, a.2, a.1.2.2⟩) fun x y ax e a => ⟨kr (mP ax.2) e, a.2, a.1.2.2⟩
    · rw [wR h] at hm hp;refine I.good i (bw.mpr ⟨hi, h⟩) hm ?_;have hp2 := hp.out (P := fun x => x ∈ s.pl) h fun x y ax hx e a => by
        have hw : s.w = win i := (wP hx).symm.trans ax.2.1;exact S.stay x hx y (kr (mP hx) (by rw [hw]; exact e))
      have st : ∀ x y, x ∈ js -> x ∉ s.pl -> win x = win i -> Wy ps js (win i) (fun i => if i ∈ s.pl then s.mv i else mv i) x y -> (y ∈ js /\ (if y ∈ s.pl then s.w else win y) = win i /\ aD ps y <= aD ps i) /\ y ∉ s.pl -> Wy ps (ix js s.pl) (win i) mv x y /\ (y ∈ ix js s.pl /\ win y = win i /\ aD ps y <= aD ps i) := fun x y hx hxn hwx e a => by
        refine ⟨?_, bw.mpr ⟨a.1.1, a.2⟩, (wR a.2).symm.trans a.1.2.1, a.1.2.2⟩;rcases goR x y hx hxn (by rw [hwx]; exact kr (mR hxn) e) with ⟨_, _, z⟩ | ⟨_, z⟩
        · rw [hwx] at z; exact z
        · exact (a.2 z).elim
      exact hp2.imp (fun y e a => st i y hi h rfl e a) fun x y ax e a => st x y ax.1.1 ax.2 ((wR ax.2).symm.trans ax.1.2.1) e a
theorem AS {ps : List P4} (win : Int -> Int) (mv : Int -> Option Int) : tM ps [] win mv := by
  refine ⟨?_, ?_, ?_, ?_, ?_⟩ <;> intro i hi <;> cases hi
section
variable {ps : List P4} {js : List Int} (hj : dX ps.length js) (hw : gi ps js) (hown : ∀ i ∈ js, aj ps i = 0 \/ aj ps i = 1) {h w : Int} (ew : w = h % 2) (hmax : ∀ i ∈ js, aD ps i <= h)
  {tops : List Int} (htop : ∀ i, i ∈ tops <-> i ∈ js /\ aD ps i = h) {rk : Int -> Option Int} (A : uK ps js w tops rk) {sub : List Int} (hsub : ∀ i, i ∈ sub <-> i ∈ js /\ rk i = none) {win : Int -> Int} {mv : Int -> Option Int} (I : tM ps sub win mv) (hmv : ∀ i, i ∉ sub -> mv i = none)
include hj hw hown ew hmax htop A hsub I hmv
theorem wH (hne : js ≠ []) (hl : ∀ i ∈ sub, win i = w) : gL ps js ⟨w, js, dZ (dZ (lU ps w rk) mv) (ff ps w js)⟩ := by
  have w01 : w = 0 \/ w = 1 := by omega
  obtain ⟨M, eM⟩ : ∃ M, M = dZ (dZ (lU ps w rk) mv) (ff ps w js) := ⟨_, rfl⟩
  rw [<- eM]
  -- the move at a place of w
  have own : ∀ i ∈ js, aj ps i = w -> ∃ g, M i = some g /\ g ∈ aw ps i /\ g ∈ js /\ (∀ q, rk i = some q -> 0 < q -> rk g = some (q - 1)) /\ (rk i = none -> mv i = some g) := fun i hi ho => by
    rw [eM];unfold dZ;cases hr : rk i with
    | none =>
      have his := (hsub i).mpr ⟨hi, hr⟩;obtain ⟨g, g1, g2⟩ := I.has i his (by rw [hl i his]; exact ho);have gs := (I.stay i his g (by rw [hl i his]; exact .inl ⟨ho, g1⟩)).1;exact ⟨g, by rw [gy (.inr (.inl hr)), g1]; rfl, g2, ((hsub g).mp gs).1, (fun q z => nomatch z), fun _ => g1⟩
    | some q =>
      by_cases hq : 0 < q
      · obtain ⟨g, g1, g2, g3⟩ := va A hr hq ho;exact ⟨g, by rw [g1]; rfl, eN g2, fP g2, fun q' z _ => by cases z; exact g3, fun z => by cases z⟩
      · obtain ⟨g, g1, g2⟩ := xi hi ho (hw i hi);have h0 : q = 0 := by have := A.nneg i q hr; omega
        have hn : mv i = none := hmv i fun z => by have := ((hsub i).mp z).2; rw [hr] at this; cases this
        refine ⟨g, by rw [gy (.inr (.inr (by rw [hr, h0]))), hn, g1]; rfl, eN g2, fP g2, fun q' z y => by cases z; omega, fun z => by cases z⟩
  refine ⟨w01, fun i hi => hi, hne, fun i hi ho => ?_, fun i hi => ?_, fun i hi g hg => ?_, fun i hi hn => (hn hi).elim, fun i hi hn => (hn hi).elim, fun i hi hm hp => ?_⟩
  · obtain ⟨g, g1, g2, _⟩ := own i hi ho;exact ⟨g, g1, g2⟩
  · show M i = none;rw [eM];unfold dZ;rw [tK hi];rcases hi with hi | hi
    · have hr : rk i = none := by
        cases hr : rk i with
        | none => rfl
        | some q => exact (hi (A.sub i q hr)).elim
      rw [gy (.inr (.inl hr)), hmv i fun z => hi ((hsub i).mp z).1];rfl
    · rw [gy (.inl hi)];by_cases his : i ∈ sub
      · rw [I.non i his (by rw [hl i his]; exact hi)]; rfl
      · rw [hmv i his]; rfl
  · show g ∈ js;rcases hg with ⟨ho, hm⟩ | ⟨_, hm⟩
    · obtain ⟨g', g1, _, g3, _⟩ := own i hi ho;rw [show M i = some g from hm] at g1;cases g1;exact g3
    · exact fP hm
  · -- a bad ring
    have hm' : aD ps i % 2 ≠ w := hm;have hlt : aD ps i < h := by
      have := hmax i hi;by_cases z : aD ps i = h
      · rw [z] at hm'; exact (hm' ew.symm).elim
      · omega
    have dec : ∀ x y q, x ∈ js -> aD ps x <= aD ps i -> rk x = some q -> Wy ps js w M x y -> ∃ t, rk y = some t /\ t < q := fun x y q hx hmx hq e => by
      have hpos : 0 < q := by
        have := A.nneg x q hq;by_cases z : q = 0
        · subst z;have := ((htop x).mp ((A.zero x).mp hq)).2;omega
        · omega
      rcases e with ⟨ho, hmv'⟩ | ⟨ho, hmv'⟩
      · obtain ⟨g, g1, _, _, g4, _⟩ := own x hx ho;rw [hmv'] at g1;cases g1;exact ⟨q - 1, g4 q hq hpos, by omega⟩
      · exact (A.oth x q hq hpos ho).2 y hmv'
    by_cases hri : rk i = none
    · -- all of it lies in what is left
      have his := (hsub i).mpr ⟨hi, hri⟩;have hp2 := hp.out (P := fun x => ∃ q, rk x = some q) (by rintro ⟨q, hq⟩; rw [hri] at hq; cases hq) fun x y ax ⟨q, hq⟩ e _ => by
        obtain ⟨t, ht, _⟩ := dec x y q ax.1 ax.2 hq e;exact ⟨t, ht⟩
      have non : ∀ {x}, ¬ (∃ q, rk x = some q) -> rk x = none := fun {x} z => by
        cases hr : rk x with
        | none => rfl
        | some q => exact (z ⟨q, hr⟩).elim
      refine I.good i his (by rw [hl i his]; exact hm') ?_;rw [hl i his];have st : ∀ x y, x ∈ js -> rk x = none -> Wy ps js w M x y -> (y ∈ js /\ aD ps y <= aD ps i) /\ ¬ (∃ q, rk y = some q) -> Wy ps sub w mv x y /\ (y ∈ sub /\ win y = w /\ aD ps y <= aD ps i) := fun x y hx hrx e a => by
        have hys := (hsub y).mpr ⟨a.1.1, non a.2⟩;refine ⟨?_, hys, hl y hys, a.1.2⟩;rcases e with ⟨ho, hmv'⟩ | ⟨ho, hmv'⟩
        · obtain ⟨g, g1, _, _, _, g5⟩ := own x hx ho;rw [hmv'] at g1;cases g1;exact .inl ⟨ho, g5 hrx⟩
        · exact .inr ⟨ho, iD (eN hmv') hys⟩
      exact hp2.imp (fun y e a => st i y hi hri e a) fun x y ax e a => st x y ax.1.1 (non ax.2) e a
    · -- ranks fall
      obtain ⟨q0, hq0⟩ : ∃ q, rk i = some q := by
        cases hr : rk i with
        | none => exact (hri hr).elim
        | some q => exact ⟨q, rfl⟩
      have hp2 := hp.inn (P := fun x => x ∈ js /\ aD ps x <= aD ps i /\ ∃ q, rk x = some q) ⟨hi, Int.le_refl _, q0, hq0⟩ fun x y ⟨hx, hmx, q, hq⟩ e a => by
        obtain ⟨t, ht, _⟩ := dec x y q hx hmx hq e;exact ⟨a.1, a.2, t, ht⟩
      have fall : ∀ x y, x ∈ js -> aD ps x <= aD ps i -> (∃ q, rk x = some q) -> Wy ps js w M x y -> (rk y).getD 0 < (rk x).getD 0 := fun x y hx hmx ⟨q, hq⟩ e => by
        obtain ⟨t, ht, hlt'⟩ := dec x y q hx hmx hq e;rw [ht, hq];exact hlt'
      have := hp2.less (φ := fun x => (rk x).getD 0) (fun y e _ => fall i y hi (Int.le_refl _) ⟨q0, hq0⟩ e) fun x y ax e _ => by
        have := fall x y ax.2.1 ax.2.2.1 ax.2.2.2 e;omega
      exact absurd this (Int.lt_irrefl _)
theorem uv {lost : List Int} (hlost : ∀ i, i ∈ lost <-> i ∈ sub /\ win i = 1 - w) (hne : lost ≠ []) {rk2 : Int -> Option Int} (B : uK ps js (1 - w) lost rk2) {pl : List Int} (hpl : ∀ i, i ∈ pl <-> ∃ q, rk2 i = some q) :
    gL ps js ⟨1 - w, pl, dZ (lU ps (1 - w) rk2) (fun i => if i ∈ lost then mv i else none)⟩ := by
  have w01 : w = 0 \/ w = 1 := by omega
  obtain ⟨M, eM⟩ : ∃ M, M = dZ (lU ps (1 - w) rk2) (fun i => if i ∈ lost then mv i else none) := ⟨_, rfl⟩
  rw [<- eM];have l0 : ∀ {i}, i ∈ lost -> rk2 i = some 0 := fun {i} hi => (B.zero i).mpr hi
  have own : ∀ i q, rk2 i = some q -> aj ps i = 1 - w -> ∃ g, M i = some g /\ g ∈ aw ps i /\ ((0 < q /\ rk2 g = some (q - 1)) \/ (q = 0 /\ g ∈ lost /\ mv i = some g)) := fun i q hq ho => by
    rw [eM];unfold dZ;by_cases hp : 0 < q
    · obtain ⟨g, g1, g2, g3⟩ := va B hq hp ho;exact ⟨g, by rw [g1]; rfl, eN g2, .inl ⟨hp, g3⟩⟩
    · have h0 : q = 0 := by have := B.nneg i q hq; omega
      have hi : i ∈ lost := (B.zero i).mp (by rw [hq, h0]);obtain ⟨hs, hwi⟩ := (hlost i).mp hi;obtain ⟨g, g1, g2⟩ := I.has i hs (by rw [hwi]; exact ho);obtain ⟨s1, s2⟩ := I.stay i hs g (by rw [hwi]; exact .inl ⟨ho, g1⟩);refine ⟨g, ?_, g2, .inr ⟨h0, (hlost g).mpr ⟨s1, s2.trans hwi⟩, g1⟩⟩;rw [gy (.inr (.inr (by rw [hq, h0])))];show (if i ∈ lost then mv i else none) = _;rw [if_pos hi, g1]
  have go : ∀ i q g, rk2 i = some q -> Wy ps js (1 - w) M i g -> ∃ t, rk2 g = some t /\ ((t < q) \/ (q = 0 /\ t = 0 /\ Wy ps sub (1 - w) mv i g)) := fun i q g hq e => by
    rcases e with ⟨ho, hm⟩ | ⟨ho, hm⟩
    · obtain ⟨g', g1, _, g3⟩ := own i q hq ho;rw [hm] at g1;cases g1;rcases g3 with ⟨z1, z2⟩ | ⟨z1, z2, z3⟩
      · exact ⟨q - 1, z2, .inl (by omega)⟩
      · exact ⟨0, l0 z2, .inr ⟨z1, rfl, .inl ⟨ho, z3⟩⟩⟩
    · by_cases hp : 0 < q
      · obtain ⟨t, t1, t2⟩ := (B.oth i q hq hp ho).2 g hm;exact ⟨t, t1, .inl t2⟩
      · have h0 : q = 0 := by have := B.nneg i q hq; omega
        have hi : i ∈ lost := (B.zero i).mp (by rw [hq, h0]);obtain ⟨hs, hwi⟩ := (hlost i).mp hi;obtain ⟨hij, hin⟩ := (hsub i).mp hs;have how : aj ps i = w := by have := hown i hij; omega
        have hgs : g ∈ sub := (hsub g).mpr ⟨fP hm, A.outO i hij hin how g hm⟩;have wy : Wy ps sub (1 - w) mv i g := .inr ⟨ho, iD (eN hm) hgs⟩;obtain ⟨s1, s2⟩ := I.stay i hs g (by rw [hwi]; exact wy);exact ⟨0, l0 ((hlost g).mpr ⟨s1, s2.trans hwi⟩), .inr ⟨h0, rfl, wy⟩⟩
  refine ⟨by show 1 - w = 0 \/ 1 - w = 1; omega, fun i hi => ?_, ?_, fun i hi ho => ?_, fun i hi => ?_, fun i hi g hg => ?_, fun i hi hn ho g hg hgp => ?_, fun i hi hn ho => ?_, fun i hi hm hp => ?_⟩
  · obtain ⟨q, hq⟩ := (hpl i).mp hi;exact B.sub i q hq
  · obtain ⟨i, hi⟩ := List.exists_mem_of_ne_nil _ hne;exact List.ne_nil_of_mem ((hpl i).mpr ⟨0, l0 hi⟩)
  · obtain ⟨q, hq⟩ := (hpl i).mp hi;obtain ⟨g, g1, g2, _⟩ := own i q hq ho;exact ⟨g, g1, g2⟩
  · show M i = none;rw [eM];unfold dZ;rcases hi with hi | hi
    · have hr : rk2 i = none := by
        cases hr : rk2 i with
        | none => rfl
        | some q => exact (hi ((hpl i).mpr ⟨q, hr⟩)).elim
      rw [gy (.inr (.inl hr))];show (if i ∈ lost then mv i else none) = _;rw [if_neg fun z => by rw [l0 z] at hr; cases hr]
    · rw [gy (.inl hi)];show (if i ∈ lost then mv i else none) = _;by_cases z : i ∈ lost
      · obtain ⟨hs, hwi⟩ := (hlost i).mp z;rw [if_pos z, I.non i hs (by rw [hwi]; exact hi)]
      · rw [if_neg z]
  · obtain ⟨q, hq⟩ := (hpl i).mp hi;obtain ⟨t, ht, _⟩ := go i q g hq hg;exact (hpl g).mpr ⟨t, ht⟩
  · have hr : rk2 i = none := by
      cases hr : rk2 i with
      | none => rfl
      | some q => exact (hn ((hpl i).mpr ⟨q, hr⟩)).elim
    obtain ⟨q, hq⟩ := (hpl g).mp hgp;rw [B.outO i hi hr ho g hg] at hq;cases hq
  · have hr : rk2 i = none := by
      cases hr : rk2 i with
      | none => rfl
      | some q => exact (hn ((hpl i).mpr ⟨q, hr⟩)).elim
    obtain ⟨g, g1, g2⟩ := B.outX i hi hr ho (hw i hi);refine ⟨g, g1, fun z => ?_⟩;obtain ⟨q, hq⟩ := (hpl g).mp z;rw [g2] at hq;cases hq
  · -- a bad ring
    have hi' : i ∈ pl := hi;have hm' : aD ps i % 2 ≠ 1 - w := hm;obtain ⟨q0, hq0⟩ := (hpl i).mp hi';have le : ∀ x y, x ∈ pl -> Wy ps js (1 - w) M x y -> (rk2 y).getD 0 <= (rk2 x).getD 0 := fun x y hx e => by
      obtain ⟨q, hq⟩ := (hpl x).mp hx;obtain ⟨t, ht, z⟩ := go x q y hq e;rw [hq, ht];show t <= q;omega
    by_cases hz : q0 = 0
    · subst hz;have hil : i ∈ lost := (B.zero i).mp hq0;obtain ⟨his, hwi⟩ := (hlost i).mp hil;have hp2 := hp.inn (P := fun x => x ∈ lost) hil fun x y hx e _ => by
        obtain ⟨t, ht, z⟩ := go x 0 y (l0 hx) e;have := B.nneg y t ht;have t0 : t = 0 := by omega
        exact (B.zero y).mp (by rw [ht, t0])
      refine I.good i his (by rw [hwi]; exact hm') ?_;rw [hwi];have st : ∀ x y, x ∈ lost -> Wy ps js (1 - w) M x y -> (y ∈ pl /\ aD ps y <= aD ps i) /\ y ∈ lost -> Wy ps sub (1 - w) mv x y /\ (y ∈ sub /\ win y = 1 - w /\ aD ps y <= aD ps i) := fun x y hx e a => by
        obtain ⟨s1, s2⟩ := (hlost y).mp a.2;refine ⟨?_, s1, s2, a.1.2⟩;obtain ⟨t, ht, z⟩ := go x 0 y (l0 hx) e;have := B.nneg y t ht;rcases z with z | ⟨_, _, z⟩
        · omega
        · exact z
      exact hp2.imp (fun y e a => st i y hil e a) fun x y ax e a => st x y ax.2 e a
    · have := hp.less (φ := fun x => (rk2 x).getD 0) (fun y e _ => by
        obtain ⟨t, ht, z⟩ := go i q0 y hq0 e;show (rk2 y).getD 0 < (rk2 i).getD 0;rw [ht, hq0];show t < q0;omega) fun x y ax e _ => le x y ax.1 e
      exact absurd this (Int.lt_irrefl _)
end
theorem sv {f : Int -> Option Int} {n : Nat} (hn : n <= 1000) {s : PyData} {js : List Int} (hs : sC s js) : cD [oT f n, s] = .ok (oT (fun i => if i ∈ js then f i else none) n) := by
  have hc := nS (fe := AB (tE (e2 (lI false) (ad 0) (ad 2))) (ad 1) (eC .none)) (ρ := [.val s]) (g := fun i => oD (f i)) (h := fun i => oD (if i ∈ js then f i else none)) n 0 fun j _ _ => by
    simp only [uq, cv, bj, am, ak, bB, R.ok_bind, hs.inn, cK];cases hm : cO js j with
    | true => rw [if_pos (bS.mp hm)]; rfl
    | false => rw [if_neg (show ¬ (j : Int) ∈ js from fun z => by rw [bS.mpr z] at hm; cases hm)]; rfl
  rw [jL] at hc;unfold cD kA;refine dY ?_;rw [show ([oT f n, s].map ba.val ++ List.replicate (2 - [oT f n, s].length) ba.non) = [.val (oT f n), .val s] from rfl];rw [ci, bW, bi, show aB 2 [1] [.val (oT f n), .val s] = [.non, .non, .val s] from rfl];simp only [jv, ak, R.ok_bind, cH, cf];rw [if_pos (by rw [fx, bH]; exact bD hn)];rw [show cG 0 (cg (fun i => oD (f i)) n) = cG 0 ((ids n).map fun i => oD (f i)) from rfl, hc];rfl
def lA (sub : List Int) (win : Int -> Int) (i : Int) : Option Int := if i ∈ sub then some (win i) else none
section
variable {ps : List P4} (G : Gr ps) {c : Addr} {k : Nat} {js : List Int} (hj : dX ps.length js) (hw : gi ps js) (hne : js ≠ []) (hown : ∀ i ∈ js, aj ps i = 0 \/ aj ps i = 1)
include G hj hw hne hown
theorem yT (ih : ∀ (h : Int) (sub : List Int), dX ps.length sub -> gi ps sub -> (∀ i ∈ sub, i ∈ js /\ aD ps i < h) -> (∃ i ∈ js, aD ps i = h) -> ∃ win mv, aG c k [gD ps, .tuple (sub.map .int)] = .ok (.tuple [oT (lA sub win) ps.length, oT mv ps.length]) /\ tM ps sub win mv /\ ∀ i, i ∉ sub -> mv i = none) :
    ∃ s, aT c k [gD ps, .tuple (js.map .int)] = .ok (i6 c ps.length s) /\ gL ps js s /\ dX ps.length s.pl := by
  have hp := G.hp;have hjl := hj.len;obtain ⟨h, hmx, htopx, hmax⟩ := p0 (ps := ps) hne;obtain ⟨w, ew⟩ : ∃ w, w = h % 2 := ⟨_, rfl⟩
  have w01 : w = 0 \/ w = 1 := by omega
  obtain ⟨tops, etops⟩ : ∃ tops, tops = js.filter fun i => decide (aD ps i = h) := ⟨_, rfl⟩
  have htop : ∀ i, i ∈ tops <-> i ∈ js /\ aD ps i = h := fun i => by rw [etops, List.mem_filter, decide_eq_true_iff]
  have tp : dX ps.length tops := by rw [etops]; exact hj.filter _
  obtain ⟨rk, erk⟩ : ∃ rk, rk = rK ps js w tops := ⟨_, rfl⟩
  have A : uK ps js w tops rk := by rw [erk]; exact vp tp.nd (fun x hx => ((htop x).mp hx).1) hj.nd hj.len
  have h1 := mG G.hl G.hgo G.hp (s := .tuple (js.map .int)) (g := .list (tops.map .int)) (.inl rfl) (.inr rfl) hj tp (fun x hx => ((htop x).mp hx).1) hw (who := w);rw [<- erk] at h1;have h2 := lW (f := rk) (n := ps.length) (by omega);have h3 := oQ (s := .tuple (js.map .int)) (t := .tuple ((jx rk ps.length).map .int)) (.inl rfl) (.inl rfl) (by omega);obtain ⟨sub, esub⟩ : ∃ sub, sub = ix js (jx rk ps.length) := ⟨_, rfl⟩
  have hsub : ∀ i, i ∈ sub <-> i ∈ js /\ rk i = none := fun i => by
    rw [esub, bw, ik];constructor
    · rintro ⟨a, b⟩;refine ⟨a, ?_⟩;cases hr : rk i with
      | none => rfl
      | some q => exact (b ⟨hj.inn i a, q, hr⟩).elim
    · rintro ⟨a, b⟩;exact ⟨a, fun ⟨_, q, hq⟩ => by rw [b] at hq; cases hq⟩
  have sp : dX ps.length sub := by rw [esub]; exact hj.filter _
  have sw : gi ps sub := by
    intro i hi;obtain ⟨a, b⟩ := (hsub i).mp hi;have fin : ∀ g ∈ bF ps js i, rk g = none -> ∃ g, g ∈ bF ps sub i := fun g g1 g2 => ⟨g, iD (eN g1) ((hsub g).mpr ⟨fP g1, g2⟩)⟩
    by_cases ho : aj ps i = w
    · obtain ⟨g, hg⟩ := hw i a;exact fin g hg (A.outO i a b ho g hg)
    · obtain ⟨g, g1, g2⟩ := A.outX i a b ho (hw i a);exact fin g g1 g2
  obtain ⟨win, mv, h4, I, hmv⟩ := ih h sub sp sw (fun i hi => by
    obtain ⟨a, b⟩ := (hsub i).mp hi;refine ⟨a, ?_⟩;have := hmax i a;by_cases z : aD ps i = h
    · have := (A.zero i).mpr ((htop i).mpr ⟨a, z⟩);rw [b] at this;cases this
    · omega) htopx
  have h5 := iu G (kF A)
  -- the lists
  have hmarks : bE (aS 0) (fun _ => .ok true) (e2 bx (e2 bx (ad 1) (ad 0)) (eC (.int 1))) [.non, .val (gD ps)] (js.map .int) = .ok ((js.map (aD ps)).map .int) := by
    have go : ∀ is : List Int, (∀ x ∈ is, 0 <= x /\ x < ps.length) -> bE (aS 0) (fun _ => .ok true) (e2 bx (e2 bx (ad 1) (ad 0)) (eC (.int 1))) [.non, .val (gD ps)] (is.map .int) = .ok ((is.map (aD ps)).map .int) := by
      intro is;induction is with
      | nil => exact fun _ => cB ..
      | cons i is ih' =>
        intro hb;obtain ⟨b0, b1⟩ := hb i List.mem_cons_self;rw [List.map_cons, eL, ih' fun x hx => hb x (List.mem_cons_of_mem _ hx)];simp only [R.ok_bind, if_true, List.set_cons_zero, bj, ak, am, bB, ln b0 b1, uS];rw [<- jK b0 b1];rfl
    exact go js hj.inn
  have htops := cV (t := tE (e2 (iX) (e2 bx (e2 bx (ad 1) (ad 0)) (eC (.int 1))) (ad 2))) (ρ := [.val (gD ps), .val (.int h)]) (p := fun i => decide (aD ps i = h)) js fun i hi => by
    obtain ⟨b0, b1⟩ := hj.inn i hi;simp only [List.set_cons_zero, cv, bj, ak, am, bB, R.ok_bind, ln b0 b1, uS, fL, cK];rw [<- jK b0 b1]
  rw [<- etops] at htops;obtain ⟨lost, elost⟩ : ∃ lost, lost = (ids ps.length).filter fun i => decide (lA sub win i = some (1 - w)) := ⟨_, rfl⟩
  have hlost : ∀ i, i ∈ lost <-> i ∈ sub /\ win i = 1 - w := fun i => by
    rw [elost, List.mem_filter, decide_eq_true_iff];unfold lA;constructor
    · rintro ⟨a, b⟩;split at b
      · rename_i z; exact ⟨z, Option.some.inj b⟩
      · cases b
    · rintro ⟨a, b⟩;exact ⟨bU.mpr (sp.inn i a), by rw [if_pos a, b]⟩
  have lp : dX ps.length lost := by rw [elost]; exact (dX.ids _).filter _
  have hlist := jG (t := tE (e2 (iX) (ad 1) (ad 2))) (ρ := [.val (.int (1 - w))]) (p := fun i => decide (lA sub win i = some (1 - w))) (g := fun i => oD (lA sub win i)) ps.length 0 fun j _ _ => by
    simp only [cv, bj, am, ak, R.ok_bind, vk, cK]
  rw [jL, <- elost] at hlist;obtain ⟨B, hB⟩ : ∃ B, B = PyData.tuple [oT (lA sub win) ps.length, oT mv ps.length] := ⟨_, rfl⟩
  rw [<- hB] at h4;have hB0 : bx B (.int 0) = .ok (oT (lA sub win) ps.length) := by rw [hB]; rfl
  have hB1 : bx B (.int 1) = .ok (oT mv ps.length) := by rw [hB]; rfl
  -- up to the test
  have pre : ∀ {r : R PyData}, ((aU (lH (tE (e2 (iX) (e1 dE (ad 8)) (eC (.int 0)))) (aU (bQ 9 (aH aC (af (aH aZ (af (ad 0) (af (ad 3) (af (ad 6) aI)))) (af (e2 bx (ad 7) (eC (.int 1))) aI)))) (cF (re c ["who", "places", "moves"] (af (ad 3) (af (ad 1) (af (aH aC (af (ad 9) (af (aH bo (af (ad 0) (af (ad 3) (af (ad 1) aI)))) aI))) aI)))))) dC) (aU (bQ 6 (aH cj (af (ad 0) (af (ad 1) (af (ad 4) (af (ad 8) aI)))))) (aU (bQ 9 (aH aC (af (aH aZ (af (ad 0) (af (ad 4) (af (ad 6) aI)))) (af (aH cD (af (e2 bx (ad 7) (eC (.int 1))) (af (ad 8) aI))) aI)))) (cF (re c ["who", "places", "moves"] (af (ad 4) (af (aH ca (af (ad 6) aI)) (af (ad 9) aI)))))))) [.val (gD ps), .val (.tuple (js.map .int)), .val (.int h), .val (.int w), .val (.int (1 - w)), .val (.list (tops.map .int)), .val (oT rk ps.length), .val B, .val (.list (lost.map .int)), .non] >>= B7) = r -> aT c k [gD ps, .tuple (js.map .int)] = r := fun {r} hr => by
    unfold aT dW;rw [fw, show ([gD ps, .tuple (js.map .int)].map ba.val ++ List.replicate (10 - [gD ps, .tuple (js.map .int)].length) ba.non) = [.val (gD ps), .val (.tuple (js.map .int)), .non, .non, .non, .non, .non, .non, .non, .non] from rfl];rw [aJ (ρ' := [.val (gD ps), .val (.tuple (js.map .int)), .val (.int h), .non, .non, .non, .non, .non, .non, .non]) (by
      rw [bp, bW, bi, show aB 1 [0] [.val (gD ps), .val (.tuple (js.map .int)), .non, .non, .non, .non, .non, .non, .non, .non] = [.non, .val (gD ps)] from rfl];simp only [bY, ak, am, R.ok_bind, cH, cf];rw [if_pos (by rw [List.length_map]; exact bD (by omega)), hmarks, gZ, R.ok_bind, hmx];rfl)]
    rw [aJ (ρ' := [.val (gD ps), .val (.tuple (js.map .int)), .val (.int h), .val (.int w), .non, .non, .non, .non, .non, .non]) (by
      simp only [bp, bj, ak, am, bB, R.ok_bind, qm];rw [if_pos (by decide), <- ew]; rfl)]
    rw [aJ (ρ' := [.val (gD ps), .val (.tuple (js.map .int)), .val (.int h), .val (.int w), .val (.int (1 - w)), .non, .non, .non, .non, .non]) (by
      simp only [bp, bj, ak, am, bB, R.ok_bind, sZ]; rfl)]
    rw [aJ (ρ' := [.val (gD ps), .val (.tuple (js.map .int)), .val (.int h), .val (.int w), .val (.int (1 - w)), .val (.list (tops.map .int)), .non, .non, .non, .non]) (by
      rw [bp, bi, show aB 1 [0, 2] [.val (gD ps), .val (.tuple (js.map .int)), .val (.int h), .val (.int w), .val (.int (1 - w)), .non, .non, .non, .non, .non] = [.non, .val (gD ps), .val (.int h)] from rfl];simp only [bY, ak, am, R.ok_bind, cH, cf];rw [if_pos (by rw [List.length_map]; exact bD (by omega)), htops];rfl)]
    rw [aJ (ρ' := [.val (gD ps), .val (.tuple (js.map .int)), .val (.int h), .val (.int w), .val (.int (1 - w)), .val (.list (tops.map .int)), .val (oT rk ps.length), .non, .non, .non]) (by
      simp only [bp, aX, aL, aP, ak, am, R.ok_bind, h1]; rfl)]
    rw [aJ (ρ' := [.val (gD ps), .val (.tuple (js.map .int)), .val (.int h), .val (.int w), .val (.int (1 - w)), .val (.list (tops.map .int)), .val (oT rk ps.length), .val B, .non, .non]) (by
      simp only [bp, aX, aL, aP, ak, am, R.ok_bind, h2, h3];rw [show (js.filter fun i => !cO (jx rk ps.length) i) = sub from esub.symm, h4];rfl)]
    rw [aJ (ρ' := [.val (gD ps), .val (.tuple (js.map .int)), .val (.int h), .val (.int w), .val (.int (1 - w)), .val (.list (tops.map .int)), .val (oT rk ps.length), .val B, .val (.list (lost.map .int)), .non]) (by
      rw [bp, bi, show aB 2 [4] [.val (gD ps), .val (.tuple (js.map .int)), .val (.int h), .val (.int w), .val (.int (1 - w)), .val (.list (tops.map .int)), .val (oT rk ps.length), .val B, .non, .non] = [.non, .non, .val (.int (1 - w))] from rfl];simp only [jv, bj, ak, am, bB, R.ok_bind, hB0, cH, cf];rw [if_pos (by rw [fx, bH]; exact bD (by omega))];rw [show cG 0 (cg (fun i => oD (lA sub win i)) ps.length) = cG 0 ((ids ps.length).map fun i => oD (lA sub win i)) from rfl, hlist];rfl)]
    exact hr
  by_cases hl : lost = []
  · have hall : ∀ i ∈ sub, win i = w := fun i hi => by
      by_cases z : win i = 1 - w
      · have := (hlost i).mpr ⟨hi, z⟩;rw [hl] at this;cases this
      · have := I.two i hi;omega
    have S := wH hj hw hown ew hmax htop A hsub I hmv hne hall;have h6 := mn G (who := w) (s := .tuple (js.map .int)) (.inl rfl) hj fun i hi _ => hw i hi
    refine ⟨_, pre ?_, S, hj⟩;rw [tI (d := i6 c ps.length ⟨w, js, dZ (dZ (lU ps w rk) mv) (ff ps w js)⟩) ?_]
    · rfl
    · rw [du, cv, bj, bW];simp only [ak, am, bB, R.ok_bind, hl, List.map_nil, oq, List.length_nil, fL, cK];rw [if_pos (by decide)];rw [aJ (ρ' := [.val (gD ps), .val (.tuple (js.map .int)), .val (.int h), .val (.int w), .val (.int (1 - w)), .val (.list (tops.map .int)), .val (oT rk ps.length), .val B, .val (.list []), .val (oT (dZ (lU ps w rk) mv) ps.length)]) (by
        simp only [bp, aX, aL, aP, bj, bB, ak, am, R.ok_bind, h5, hB1, nA (show ps.length <= 1000 by omega)];rfl)]
      unfold re;simp only [ci, aX, aL, aP, ak, am, R.ok_bind, h6, nA (show ps.length <= 1000 by omega)];rfl
  · obtain ⟨rk2, erk2⟩ : ∃ rk2, rk2 = rK ps js (1 - w) lost := ⟨_, rfl⟩
    have lsub : ∀ x ∈ lost, x ∈ js := fun x hx => ((hsub x).mp ((hlost x).mp hx).1).1
    have B2 : uK ps js (1 - w) lost rk2 := by rw [erk2]; exact vp lp.nd lsub hj.nd hj.len
    have g1 := mG G.hl G.hgo G.hp (s := .tuple (js.map .int)) (g := .list (lost.map .int)) (.inl rfl) (.inr rfl) hj lp lsub hw (who := 1 - w);rw [<- erk2] at g1;have g2 := lW (f := rk2) (n := ps.length) (by omega);have g3 := iu G (kF B2);have g4 := sv (f := mv) (n := ps.length) (by omega) (s := .list (lost.map .int)) (js := lost) (.inr rfl);have S := uv hj hw hown ew hmax htop A hsub I hmv hlost hl B2 (pl := jx rk2 ps.length) fun i => by
      rw [ik];exact ⟨fun z => z.2, fun ⟨q, hq⟩ => ⟨hj.inn i (B2.sub i q hq), q, hq⟩⟩
    have hlen : ¬ (lost.length : Int) = 0 := by
      have := List.length_pos_iff.mpr hl;omega
    refine ⟨_, pre ?_, S, nX _ _⟩;rw [aJ (ρ' := [.val (gD ps), .val (.tuple (js.map .int)), .val (.int h), .val (.int w), .val (.int (1 - w)), .val (.list (tops.map .int)), .val (oT rk ps.length), .val B, .val (.list (lost.map .int)), .non]) (by
      rw [du, cv, bj, bW];simp only [ak, am, bB, R.ok_bind, oq, List.length_map, fL, cK, decide_eq_false hlen];rfl)]
    rw [aJ (ρ' := [.val (gD ps), .val (.tuple (js.map .int)), .val (.int h), .val (.int w), .val (.int (1 - w)), .val (.list (tops.map .int)), .val (oT rk2 ps.length), .val B, .val (.list (lost.map .int)), .non]) (by
      simp only [bp, aX, aL, aP, ak, am, R.ok_bind, g1]; rfl)]
    rw [aJ (ρ' := [.val (gD ps), .val (.tuple (js.map .int)), .val (.int h), .val (.int w), .val (.int (1 - w)), .val (.list (tops.map .int)), .val (oT rk2 ps.length), .val B, .val (.list (lost.map .int)), .val (oT (dZ (lU ps (1 - w) rk2) fun i => if i ∈ lost then mv i else none) ps.length)]) (by
      simp only [bp, aX, aL, aP, bj, bB, ak, am, R.ok_bind, g3, hB1, g4, nA (show ps.length <= 1000 by omega)];rfl)]
    unfold re;simp only [ci, aX, aL, aP, ak, am, R.ok_bind, g2];rfl
end
def vt (c : Addr) (k : Nat) : Fs := (aU (bQ 4 (aH (aT c k) (af (ad 0) (af (ad 3) aI)))) (aU (cr 2 (ad 4)) (bQ 3 (aH bJ (af (ad 3) (af (e1 (kc c "places") (ad 4)) aI))))))
abbrev lR (ps : List P4) (c : Addr) (s : PyData) (acc : List Sh) (js : List Int) (c4 : ba) : aN :=
  [.val (gD ps), .val s, .own (.list (acc.map (i6 c ps.length))), .val (.tuple (js.map .int)), c4]
theorem Bb {ps : List P4} (G : Gr ps) {c : Addr} {kk : Nat} {s0 : PyData} {Pm : Int -> Prop} (hown : ∀ i, Pm i -> aj ps i = 0 \/ aj ps i = 1) (hS : ∀ js, dX ps.length js -> gi ps js -> js ≠ [] -> (∀ i ∈ js, Pm i) -> ∃ s, aT c kk [gD ps, .tuple (js.map .int)] = .ok (i6 c ps.length s) /\ gL ps js s /\ dX ps.length s.pl) :
    ∀ (k n : Nat) (js : List Int) (acc : List Sh) (c4 : ba), dX ps.length js -> gi ps js -> (∀ i ∈ js, Pm i) -> js.length <= k -> k + 1 <= n -> acc.length + k <= 1000 ->
    ∃ l c4' win mv, cP (tE (e2 (fu pr) (e1 dE (ad 3)) (eC (.int 0)))) (vt c kk) n (lR ps c s0 acc js c4) = .ok (.nx (lR ps c s0 (acc ++ l) [] c4')) /\ (∀ f i, mM f l i = if i ∈ js then some (win i) else f i) /\ (∀ m i, (i ∈ js -> m i = none) -> sB m l i = if i ∈ js then mv i else m i) /\ tM ps js win mv /\ ∀ s ∈ l, ∀ x ∈ s.pl, 0 <= x /\ x < ps.length
  | k, 0, js, acc, c4, _, _, _, _, h, _ => by omega
  | k, n + 1, js, acc, c4, hj, hw, hm, hk, hn, hz => by
    have hp := G.hp;rw [lg];have ht : tE (e2 (fu pr) (e1 dE (ad 3)) (eC (.int 0))) (lR ps c s0 acc js c4) = .ok (decide (0 < js.length)) := by
      simp only [cv, bj, bW, am, ak, bB, R.ok_bind, kL, oy, cK, List.length_map];congr 1;simp
    rw [ht, R.ok_bind];by_cases h0 : js = []
    · subst h0;refine ⟨[], c4, fun _ => 0, fun _ => none, by rw [List.append_nil]; rfl, fun f i => by simp [mM], fun m i _ => by simp [sB], AS _ _, fun s hs => by cases hs⟩
    · have hpos := List.length_pos_iff.mpr h0;rw [if_pos (decide_eq_true hpos)];cases k with
      | zero => omega
      | succ k =>
        obtain ⟨s, h1, S, sp⟩ := hS js hj hw h0 hm;have hl : (ix js s.pl).length < js.length := by
          obtain ⟨i, hi⟩ := List.exists_mem_of_ne_nil _ S.ne;refine Nat.lt_of_le_of_ne (List.length_filter_le ..) fun z => ?_
          have := (ib _ js).mp z i (S.sub i hi);rw [bS.mpr hi] at this;cases this
        obtain ⟨l, c4', win, mv, e, q1, q2, I, q3⟩ := Bb G hown hS k n (ix js s.pl) (acc ++ [s]) (.val (i6 c ps.length s)) (hj.filter _) (S.whole hw) (fun i hi => hm i (bw.mp hi).1) (by omega) (by omega) (by simp; omega);have h2 := oQ (s := .tuple (js.map .int)) (t := .tuple (s.pl.map .int)) (.inl rfl) (.inl rfl) (by have := hj.len; omega);have hb : vt c kk (lR ps c s0 acc js c4) = .ok (.nx (lR ps c s0 (acc ++ [s]) (ix js s.pl) (.val (i6 c ps.length s)))) := by
          unfold vt;rw [aJ (ρ' := lR ps c s0 acc js (.val (i6 c ps.length s))) (by
            simp only [bp, aX, aL, aP, ak, am, R.ok_bind, h1];rfl)]
          rw [aJ (ρ' := lR ps c s0 (acc ++ [s]) js (.val (i6 c ps.length s))) (by
            rw [jY (ds := acc.map (i6 c ps.length)) (ad 4) rfl (Nat.lt_of_lt_of_le (show _ < 1001 by rw [List.length_map]; omega) (by decide))];simp only [ak, am, cf, R.ok_bind];rw [show acc.map (i6 c ps.length) ++ [i6 c ps.length s] = (acc ++ [s]).map (i6 c ps.length) by simp];rfl)]
          simp only [bp, aX, aL, aP, bW, ak, am, R.ok_bind, oZ, h2];rfl
        refine ⟨s :: l, c4', fun i => if i ∈ s.pl then s.w else win i, fun i => if i ∈ s.pl then s.mv i else mv i, ?_, fun f i => ?_, fun m i hmi => ?_, zd (fun i hi => hown i (hm i hi)) S I, fun t ht' x hx => ?_⟩
        · rw [hb, R.ok_bind, dh, e];simp
        · show mM (yb s f) l i = _;rw [q1];by_cases hi : i ∈ js
          · rw [if_pos hi];dsimp only;by_cases hs : i ∈ s.pl
            · rw [if_neg fun z => (bw.mp z).2 hs, if_pos hs];exact if_pos hs
            · rw [if_pos (bw.mpr ⟨hi, hs⟩), if_neg hs]
          · rw [if_neg fun z => hi (bw.mp z).1, if_neg hi];exact if_neg fun z => hi (S.sub i z)
        · show sB (dZ m s.mv) l i = _;rw [q2 (dZ m s.mv) i fun z => by
            obtain ⟨z1, z2⟩ := bw.mp z;show (m i).or _ = none;rw [hmi z1, Option.none_or, S.non i (.inl z2)]]
          by_cases hi : i ∈ js
          · rw [if_pos hi];dsimp only;by_cases hs : i ∈ s.pl
            · rw [if_neg fun z => (bw.mp z).2 hs, if_pos hs];show (m i).or _ = _;rw [hmi hi, Option.none_or]
            · rw [if_pos (bw.mpr ⟨hi, hs⟩), if_neg hs]
          · rw [if_neg fun z => hi (bw.mp z).1, if_neg hi];show (m i).or _ = _;rw [S.non i (.inl fun z => hi (S.sub i z)), Option.or_none]
        · rcases List.mem_cons.mp ht' with rfl | z
          · exact sp.inn x hx
          · exact q3 t z x hx
theorem tM.congr {ps : List P4} {js : List Int} {win : Int -> Int} {mv mv' : Int -> Option Int} (h : tM ps js win mv) (e : ∀ i ∈ js, mv' i = mv i) : tM ps js win mv' := by
  refine ⟨h.two, fun i hi ho => by rw [e i hi]; exact h.has i hi ho, fun i hi ho => by rw [e i hi]; exact h.non i hi ho, fun i hi g hg => h.stay i hi g (kr (e i hi) hg), fun i hi hm hp => h.good i hi hm ?_⟩;exact hp.imp (fun y a b => ⟨kr (e i hi) a, b⟩) fun x y ax a b => ⟨kr (e x ax.1) a, b⟩
theorem pM {ps : List P4} (G : Gr ps) {c : Addr} {k : Nat} {Pm : Int -> Prop} (hown : ∀ i, Pm i -> aj ps i = 0 \/ aj ps i = 1) (hS : ∀ js, dX ps.length js -> gi ps js -> js ≠ [] -> (∀ i ∈ js, Pm i) -> ∃ s, aT c k [gD ps, .tuple (js.map .int)] = .ok (i6 c ps.length s) /\ gL ps js s /\ dX ps.length s.pl) {js : List Int} (hj : dX ps.length js) (hw : gi ps js) (hm : ∀ i ∈ js, Pm i) :
    ∃ win mv, aG c (k + 1) [gD ps, .tuple (js.map .int)] = .ok (.tuple [oT (lA js win) ps.length, oT mv ps.length]) /\ tM ps js win mv /\ ∀ i, i ∉ js -> mv i = none := by
  have hp := G.hp;have hjl := hj.len;obtain ⟨l, c4, win, mv, e, q1, q2, I, q3⟩ := Bb G (c := c) (s0 := .tuple (js.map .int)) hown hS js.length 1000000 js [] .non hj hw hm (Nat.le_refl _) (by omega) (by simp; omega);rw [List.nil_append] at e;have h3 := Ed (ps := ps) (by omega) (c := c) q3;have e1' : oT (mM (fun _ => none) l) ps.length = oT (lA js win) ps.length := congrArg PyData.tuple (cJ fun i _ _ => by rw [q1]; rfl);have e2' : oT (sB (fun _ => none) l) ps.length = oT (fun i => if i ∈ js then mv i else none) ps.length := congrArg PyData.tuple (cJ fun i _ _ => by rw [q2 _ i fun _ => rfl]);rw [e1', e2'] at h3;refine ⟨win, fun i => if i ∈ js then mv i else none, ?_, I.congr fun i hi => if_pos hi, fun i hi => if_neg hi⟩;show dF 5 (dR (aT c k) (aW c) bJ c) _ = _;unfold dR;refine dY ?_;rw [show ([gD ps, .tuple (js.map .int)].map ba.val ++ List.replicate (5 - [gD ps, .tuple (js.map .int)].length) ba.non) = [.val (gD ps), .val (.tuple (js.map .int)), .non, .non, .non] from rfl];rw [aJ (ρ' := [.val (gD ps), .val (.tuple (js.map .int)), .own (.list []), .non, .non]) (by rfl)];rw [aJ (ρ' := lR ps c (.tuple (js.map .int)) [] js .non) (by rfl)];rw [aJ (ρ' := lR ps c (.tuple (js.map .int)) l [] c4) (by
    rw [eI];show mK (cP (tE (e2 (fu pr) (e1 dE (ad 3)) (eC (.int 0)))) (vt c k) 1000000 _) = _;rw [e];rfl)]
  unfold D7;show cF _ ((lR ps c (.tuple (js.map .int)) l [] c4).set 2 (.val (.list (l.map (i6 c ps.length))))) = _;simp only [List.set_cons_succ, List.set_cons_zero, ci, aX, aL, aP, ak, am, R.ok_bind, h3]
theorem pK {ps : List P4} (G : Gr ps) {c : Addr} : ∀ (k : Nat) (js : List Int), dX ps.length js -> gi ps js -> (∀ i ∈ js, (aj ps i = 0 \/ aj ps i = 1) /\ 0 <= aD ps i /\ aD ps i < k) ->
    ∃ win mv, aG c (k + 1) [gD ps, .tuple (js.map .int)] = .ok (.tuple [oT (lA js win) ps.length, oT mv ps.length]) /\ tM ps js win mv /\ ∀ i, i ∉ js -> mv i = none
  | 0, js, hj, hw, hm => pM G (c := c) (Pm := fun i => (aj ps i = 0 \/ aj ps i = 1) /\ 0 <= aD ps i /\ aD ps i < (0 : Nat)) (fun i h => h.1) (fun js' _ _ hne h => by
      obtain ⟨i, hi⟩ := List.exists_mem_of_ne_nil _ hne;have := (h i hi).2;omega) hj hw hm
  | k + 1, js, hj, hw, hm => pM G (c := c) (Pm := fun i => (aj ps i = 0 \/ aj ps i = 1) /\ 0 <= aD ps i /\ aD ps i < ((k + 1 : Nat) : Int)) (fun i h => h.1) (fun js' hj' hw' hne h => yT G hj' hw' hne (fun i hi => (h i hi).1) fun hh sub sp sw hs ⟨i0, hi0, e0⟩ => pK G k sub sp sw fun i hi => by
      obtain ⟨a, b⟩ := hs i hi;have h1 := h i a;have h2 := (h i0 hi0).2.2;exact ⟨h1.1, h1.2.1, by omega⟩) hj hw hm
theorem Cf {ps : List P4} (G : Gr ps) (hw : gi ps (ids ps.length)) {c : Addr} (hm : ∀ i ∈ ids ps.length, (aj ps i = 0 \/ aj ps i = 1) /\ 0 <= aD ps i /\ aD ps i < 13) :
    ∃ win mv, k9 c [gD ps] = .ok (.tuple [oT (fun i => some (win i)) ps.length, oT mv ps.length]) /\ tM ps (ids ps.length) win mv /\ ∀ i, i ∉ ids ps.length -> mv i = none := by
  obtain ⟨win, mv, e, I, q⟩ := pK G (c := c) 13 (ids ps.length) (dX.ids _) hw hm;refine ⟨win, mv, ?_, I, q⟩;have h2 := pD (ps := ps) (by have := G.hp; omega);have e' : oT (lA (ids ps.length) win) ps.length = oT (fun i => some (win i)) ps.length := congrArg PyData.tuple (cJ fun i h0 h1 => by unfold lA; rw [if_pos (bU.mpr ⟨h0, h1⟩)]);rw [e'] at e;unfold k9 yS;refine dY ?_;rw [show ([gD ps].map ba.val ++ List.replicate (1 - [gD ps].length) ba.non) = [.val (gD ps)] from rfl];simp only [ci, aX, aL, aP, ak, R.ok_bind, h2, e]
theorem oK {d : PyData} (h : noD d) : bT [d] = .ok (.bool (DA d)) := by
  cases d <;> first | rfl | cases h
theorem tm {d : PyData} (h : noD d) (lo hi : Int) : cu [d, .int lo, .int hi] = .ok (.bool (sP d lo hi)) := by
  unfold cu iE;rw [fw];cases d with
  | int i =>
    by_cases h1 : lo <= i <;> by_cases h2 : i <= hi <;> simp [oK h, DA, h1, h2, sP]
  | dict k => cases h
  | _ => simp [oK h, DA, sP]
def i9 (ps : List P4) (i : Int) : PyData := (ps[i.toNat]?.map P4.d).getD .none
theorem tX (ps : List P4) : ps.map P4.d = cg (i9 ps) ps.length := by
  refine List.ext_getElem (by rw [List.length_map, bH]) fun k h1 h2 => ?_
  rw [bH] at h2;have e := gn (f := i9 ps) (n := ps.length) (i := (k : Int)) (by omega) (by omega);simp only [Int.toNat_natCast] at e;rw [e, List.getElem_map];unfold i9;rw [List.getElem?_eq_getElem (by omega)];simp
theorem yk {ps : List P4} {i : Int} (h0 : 0 <= i) (h1 : i < ps.length) : bx (i9 ps i) (.int 0) = .ok (.int (aj ps i)) := by
  unfold i9;rw [List.getElem?_eq_getElem (show i.toNat < ps.length by omega), gv h0 h1];rfl
theorem sF (f g h : Int -> PyData) : ∀ is : List Int, fO (is.map f) (is.map g) (is.map h) = is.map fun i => .tuple [f i, g i, h i]
  | [] => rfl
  | i :: is => by rw [List.map_cons, List.map_cons, List.map_cons, List.map_cons, <- sF f g h is]; rfl
def gC (nx : Int -> Int) (s : Int) : Nat -> Int
  | 0 => s
  | k + 1 => nx (gC nx s k)
def kg (nx : Int -> Int) (s : Int) (k : Nat) : List Int := (List.range k).map (gC nx s)
theorem dw (nx : Int -> Int) (s : Int) (k : Nat) : (kg nx s k).length = k := by unfold kg; simp
theorem sE (nx : Int -> Int) (s : Int) (k : Nat) : kg nx s (k + 1) = kg nx s k ++ [gC nx s k] := by
  unfold kg;rw [List.range_succ, List.map_append];rfl
theorem jX {nx : Int -> Int} {s : Int} {k j : Nat} (h : j < k) : (kg nx s k)[j]'(by rw [dw]; exact h) = gC nx s j := by
  unfold kg;simp
theorem jW {nx : Int -> Int} {s : Int} {k : Nat} {x : Int} : x ∈ kg nx s k <-> ∃ j, j < k /\ gC nx s j = x := by
  unfold kg;rw [List.mem_map];simp only [List.mem_range]
structure lC (nx : Int -> Int) (s : Int) (k e : Nat) : Prop where
  lt : e < k
  eq : gC nx s k = gC nx s e
  nd : (kg nx s k).Nodup
theorem Bu {nx : Int -> Int} {s : Int} {k : Nat} (nd : (kg nx s k).Nodup) {a b : Nat} (ha : a < k) (hb : b < k) (e : gC nx s a = gC nx s b) : a = b := by
  have h := List.pairwise_iff_getElem.mp (show (kg nx s k).Pairwise (· ≠ ·) from nd);rcases Nat.lt_trichotomy a b with z | z | z
  · exfalso;refine h a b (by rw [dw]; exact ha) (by rw [dw]; exact hb) z ?_;rw [jX ha, jX hb, e]
  · exact z
  · exfalso;refine h b a (by rw [dw]; exact hb) (by rw [dw]; exact ha) z ?_;rw [jX ha, jX hb, e]
theorem u9 {nx : Int -> Int} {S : Int -> Prop} (hn : ∀ x, S x -> S (nx x)) {s : Int} (hs : S s) : ∀ k, S (gC nx s k)
  | 0 => hs
  | k + 1 => hn _ (u9 hn hs k)
theorem qw {n : Nat} {nx : Int -> Int} {S : Int -> Prop} (hS : ∀ x, S x -> x ∈ ids n) (hn : ∀ x, S x -> S (nx x)) {s : Int} (hs : S s) {k : Nat} (nd : (kg nx s k).Nodup) : k <= n := by
  have := jN nd (m := ids n) fun x hx => by
    obtain ⟨j, _, rfl⟩ := jW.mp hx;exact hS _ (u9 hn hs j)
  rw [dw, qR] at this;exact this
theorem oH {t : aN -> R Bool} {g : Fs} {V : List Int -> Int -> aN} {nx : Int -> Int} {S : Int -> Prop} {n : Nat} (hS : ∀ x, S x -> x ∈ ids n) (hn : ∀ x, S x -> S (nx x)) (ht : ∀ pl x, S x -> t (V pl x) = .ok (!cO pl x)) (hg : ∀ pl x, S x -> pl.length <= n -> g (V pl x) = .ok (.nx (V (pl ++ [x]) (nx x)))) {s : Int} (hs : S s) :
    ∀ (m k : Nat), (kg nx s k).Nodup -> n + 2 <= m + k -> ∃ K e, lC nx s K e /\ cP t g m (V (kg nx s k) (gC nx s k)) = .ok (.nx (V (kg nx s K) (gC nx s K)))
  | 0, k, nd, h => by
    have := qw hS hn hs nd;omega
  | m + 1, k, nd, h => by
    have hx := u9 hn hs k;rw [lg, ht _ _ hx, R.ok_bind];by_cases hm : gC nx s k ∈ kg nx s k
    · obtain ⟨e, he, ee⟩ := jW.mp hm;refine ⟨k, e, ⟨he, ee.symm, nd⟩, ?_⟩;rw [bS.mpr hm];rfl
    · have hb : cO (kg nx s k) (gC nx s k) = false := by
        cases z : cO (kg nx s k) (gC nx s k) with
        | false => rfl
        | true => exact (hm (bS.mp z)).elim
      have nd' : (kg nx s (k + 1)).Nodup := by
        rw [sE, List.nodup_append];refine ⟨nd, by simp, fun a ha b hb' => ?_⟩;simp at hb';subst hb';rintro rfl;exact hm ha
      obtain ⟨K, e, w, r⟩ := oH hS hn ht hg hs m (k + 1) nd' (by omega);refine ⟨K, e, w, ?_⟩;rw [hb, if_pos (by rfl), hg _ _ hx (by rw [dw]; exact qw hS hn hs nd), R.ok_bind, dh, <- sE];exact r
theorem lC.idx {nx : Int -> Int} {s : Int} {k e : Nat} (w : lC nx s k e) : (kg nx s k).idxOf (gC nx s k) = e := by
  have hm : gC nx s k ∈ kg nx s k := jW.mpr ⟨e, w.lt, w.eq.symm⟩;have h1 := List.idxOf_lt_length_of_mem hm;have h2 := List.getElem_idxOf h1;rw [dw] at h1;rw [jX h1] at h2;exact Bu w.nd h1 w.lt (h2.trans w.eq)
theorem qG {n d e : Nat} (h : e <= n) : HT.sIx n d (some (e : Int)) = e := by
  unfold HT.sIx;have h0 : ¬ ((e : Nat) : Int) < 0 := by omega
  simp only [h0, if_false];simp;omega
theorem o4 (n d : Nat) : HT.sIx n d none = d := by
  unfold HT.sIx;rfl
theorem zp {ds : List PyData} {e : Nat} (h : e <= ds.length) : D2.mW ds none (some (e : Int)) = ds.take e := by
  unfold D2.mW;rw [qG h, o4];simp
theorem xJ {ds : List PyData} {e : Nat} (h : e <= ds.length) : D2.mW ds (some (e : Int)) none = ds.drop e := by
  unfold D2.mW;rw [qG h, o4];rw [List.take_of_length_le (by rw [List.length_drop]; omega)]
def qB (nx : Int -> Int) (s : Int) (k e : Nat) : List Int := (kg nx s k).take e
def dD (nx : Int -> Int) (s : Int) (k e : Nat) : List Int := (kg nx s k).drop e
abbrev Fl (nx : Int -> Int) (s : Int) (k e : Nat) : PyData := .tuple [.tuple ((qB nx s k e).map .int), .tuple ((dD nx s k e).map .int)]
theorem dU (nx : Int -> Int) (s : Int) (k e : Nat) : (dD nx s k e).length = k - e := by unfold dD; rw [List.length_drop, dw]
theorem io {nx : Int -> Int} {s : Int} {k e j : Nat} (h : e + j < k) : (dD nx s k e)[j]'(by rw [dU]; omega) = gC nx s (e + j) := by
  unfold dD;rw [List.getElem_drop, jX h]
theorem pT {nx : Int -> Int} {s : Int} {k e : Nat} {x : Int} (h : x ∈ dD nx s k e) : ∃ j, e <= j /\ j < k /\ gC nx s j = x := by
  obtain ⟨j, hj, ej⟩ := List.mem_iff_getElem.mp h;rw [dU] at hj;rw [io (by omega)] at ej;exact ⟨e + j, by omega, by omega, ej⟩
def Bt (ps : List P4) (rs : List Int) : Prop := ∀ j (h : j < rs.length), rs[(j + 1) % rs.length]'(Nat.mod_lt _ (by omega)) ∈ aw ps (rs[j])
theorem lC.ring {ps : List P4} {nx : Int -> Int} {s : Int} {k e : Nat} (w : lC nx s k e) (hg : ∀ j, nx (gC nx s j) ∈ aw ps (gC nx s j)) : Bt ps (dD nx s k e) := fun j h => by
  have hl := w.lt;rw [dU] at h;rw [io (show e + j < k by omega)];have hn : (dD nx s k e)[(j + 1) % (dD nx s k e).length]'(Nat.mod_lt _ (by rw [dU]; omega)) = gC nx s (e + j + 1) := by
    by_cases hj : j + 1 < k - e
    · have : (j + 1) % (dD nx s k e).length = j + 1 := by rw [dU]; exact Nat.mod_eq_of_lt hj
      simp only [this];rw [io (by omega)];rfl
    · have : (j + 1) % (dD nx s k e).length = 0 := by
        rw [dU, show j + 1 = k - e by omega];exact Nat.mod_self _
      simp only [this];rw [io (by omega), show e + j + 1 = k by omega, w.eq];rfl
  rw [hn];exact hg (e + j)
theorem pI {d : PyData} (h : noD d) (ps : List P4) : az [d, gD ps] = .ok (.bool (sP d 0 ((ps.length : Int) - 1))) := by
  unfold az dH;refine dY ?_;rw [show ([d, gD ps].map ba.val ++ List.replicate (2 - [d, gD ps].length) ba.non) = [.val d, .val (gD ps)] from rfl];simp only [ci, aX, aL, aP, bW, bj, ak, am, bB, R.ok_bind, kL, List.length_map, sZ, tm h]
theorem uP {d : PyData} (hg : hU d) (p : P4) : dn [d, p.d] = .ok (.bool (CV p.ns d)) := by
  unfold dn l6;rw [fw];have hw := oK hg.noD;cases d with
  | none => simp [jb, fJ, CV]
  | int i => simp [jb, fJ, CV, hw, DA, oI, DV]
  | dict k => exact hg.noD.elim
  | _ => simp [jb, fJ, CV, hw, DA]
theorem o6 (x y : ba) : ∀ (ds : List PyData) (ps : List P4), (∀ d ∈ ds, hU d) -> bE (cM 0 1) (fun _ => .ok true) (aH dn (af (ad 0) (af (ad 1) aI))) [x, y] (gF ds (ps.map P4.d)) = .ok ((ds.zip ps).map fun q => .bool (CV q.2.ns q.1))
  | [], ps, _ => by unfold gF; simp [cB]
  | d :: ds, [], _ => by unfold gF; simp [cB]
  | d :: ds, p :: ps, h => by
    have e : gF (d :: ds) ((p :: ps).map P4.d) = .tuple [d, p.d] :: gF ds (ps.map P4.d) := rfl;rw [e, gB, o6 x y ds ps fun z hz => h z (List.mem_cons_of_mem _ hz)];simp [uP (h d List.mem_cons_self) p]
theorem all_map {α : Type} (p : α -> Bool) : ∀ l : List α, D2.lE (l.map fun a => .bool (p a)) = some (l.all p)
  | [] => rfl
  | a :: l => by simp only [List.map_cons, D2.lE, all_map p l, List.all_cons, Option.map_some]
theorem ly {d : PyData} (hg : hU d) {ps : List P4} (hl : ps.length <= 24) : cy [d, gD ps] = .ok (.bool (oX ps d)) := by
  unfold cy jo;rw [fw];cases d with
  | tuple ds =>
    have h := ku.mp hg;by_cases hq : ds.length = ps.length
    · have hs : (gF ds (ps.map P4.d)).length <= sizeLine := by rw [jg]; exact bD (by omega)
      have hc := o6 .non .non ds ps h;simp [jp, CP, sh, hq, bi, hs, aB, List.replicate, hc, lT, all_map, oX]
    · have hq' : ¬ ((ds.length : Int) = (ps.length : Int)) := by omega
      simp [jp, CP, sh, hq', hq, oX]
  | dict k => exact hg.noD.elim
  | _ => simp [jp, CP, oX]
def eD (ps : List P4) (z o : Int -> Option Int) (i : Int) : Option Int := if aj ps i = 0 then z i else o i
theorem BT {ps : List P4} (hp : ps.length <= 24) (ho : ∀ i ∈ ids ps.length, aj ps i = 0 \/ aj ps i = 1) (z o : Int -> Option Int) : bq [gD ps, oT z ps.length, oT o ps.length] = .ok (oT (eD ps z o) ps.length) := by
  have hc := nS (fe := e2 bx (e2 bx (ad 2) (e2 bx (ad 1) (eC (.int 0)))) (ad 0)) (ρ := [.val (.tuple [oT z ps.length, oT o ps.length])]) (g := i9 ps) (h := fun i => oD (eD ps z o i)) ps.length 0 fun j _ h2 => by
    have j0 : (0 : Int) <= (j : Int) := by omega
    have j1 : (j : Int) < ps.length := by omega
    simp only [bj, am, ak, bB, R.ok_bind, yk j0 j1];rcases ho j (bU.mpr ⟨j0, j1⟩) with w | w
    · rw [w, show bx (.tuple [oT z ps.length, oT o ps.length]) (.int 0) = .ok (oT z ps.length) from rfl, R.ok_bind, mQ j0 j1];unfold eD;rw [if_pos w]
    · rw [w, show bx (.tuple [oT z ps.length, oT o ps.length]) (.int 1) = .ok (oT o ps.length) from rfl, R.ok_bind, mQ j0 j1];unfold eD;rw [if_neg (by omega)]
  rw [jL] at hc;unfold bq eW;refine dY ?_;rw [show ([gD ps, oT z ps.length, oT o ps.length].map ba.val ++ List.replicate (4 - [gD ps, oT z ps.length, oT o ps.length].length) ba.non) = [.val (gD ps), .val (oT z ps.length), .val (oT o ps.length), .non] from rfl];rw [aJ (ρ' := [.val (gD ps), .val (oT z ps.length), .val (oT o ps.length), .val (.tuple [oT z ps.length, oT o ps.length])]) (by
    rw [bp, nE];simp only [aL, aP, am, ak, R.ok_bind];rw [if_pos (by show 2 <= _; decide)];rfl)]
  rw [ci, bW, bi, show aB 2 [3] [.val (gD ps), .val (oT z ps.length), .val (oT o ps.length), .val (.tuple [oT z ps.length, oT o ps.length])] = [.non, .non, .val (.tuple [oT z ps.length, oT o ps.length])] from rfl];simp only [jv, ak, R.ok_bind, cH, cf];rw [if_pos (by rw [fx, List.length_map]; exact bD (by omega)), tX];rw [show cG 0 (cg (i9 ps) ps.length) = cG 0 ((ids ps.length).map (i9 ps)) from rfl, hc];rfl
theorem AV (f : Int -> Option Int) (n : Nat) : lI false .none (oT f n) = .ok (.bool ((ids n).any fun i => (f i).isNone)) := by
  have hf := sf f n;have hi : nr (cg (fun i => oD (f i)) n) .none = true := by
    unfold nr;rw [lD fun x hx => (hf x hx).1, hf.dep];simp [PyData.canLay0]
  show (if nr (cg (fun i => oD (f i)) n) .none = true then R.ok (PyData.bool ((cg (fun i => oD (f i)) n).any fun y => PyData.eqv y .none)) else .no) = _;rw [if_pos hi];unfold cg;rw [List.any_map];congr 3;funext i;show PyData.eqv (oD (f i)) .none = _;cases f i <;> simp [oD, PyData.eqv]
theorem mD : ∀ {ns : List Int}, (∀ x ∈ ns, 0 <= x /\ x < 1000) -> PyData.weightAll (ns.map .int) <= 12 * ns.length
  | [], _ => by simp [PyData.weightAll]
  | n :: ns, h => by
    have ih := mD fun x hx => h x (List.mem_cons_of_mem _ hx)
    have hn := h n List.mem_cons_self;have h1 : PyData.weight (.int n) <= 11 := by
      simp only [PyData.weight];split
      · omega
      · rename_i hz;have h2 : n.natAbs ≠ 0 := by
          intro z;apply hz;have : n = 0 := by omega
          rw [this];rfl
        have := (Nat.log2_lt h2 (k := 10)).mpr (by omega);omega
    simp only [List.map_cons, PyData.weightAll, List.length_cons];omega
theorem yH {ns : List Int} (h : ns.length <= 1000) (hb : ∀ x ∈ ns, 0 <= x /\ x < 1000) : PyData.layable0 (.list (ns.map .int)) = true := by
  have hw := mD hb;have e1 : (PyData.list (ns.map .int)).canLay0 = true := by simp only [PyData.canLay0]; exact nT ns
  have e2 : (PyData.list (ns.map .int)).depth <= 64 := by simp only [PyData.depth, ji]; omega
  have e3 : (PyData.list (ns.map .int)).weight <= 2 ^ 20 := by simp only [PyData.weight]; omega
  unfold PyData.layable0;rw [e1, decide_eq_true e2, decide_eq_true e3];rfl
theorem tW {ns : List Int} {k : Int} (h : ns.length <= 1000) (hb : ∀ x ∈ ns, 0 <= x /\ x < 1000) (hk : k ∈ ns) : jy (.list (ns.map .int)) (.int k) = .ok (.int (ns.idxOf k : Nat)) := by
  show (match cY (ns.map .int) with | some ns' => if PyData.layable0 (.list (ns.map .int)) = true /\ k ∈ ns' then R.ok (PyData.int (ns'.idxOf k : Nat)) else .no | none => .no) = _;rw [gM];exact if_pos ⟨yH h hb, hk⟩
theorem yx {n : Nat} {s : Int} (hs : s ∈ ids n) : sP (.int s) 0 ((n : Int) - 1) = true := by
  obtain ⟨h0, h1⟩ := bU.mp hs;show (decide _ && decide _) = true;rw [decide_eq_true h0, decide_eq_true (by omega)];rfl
def gt (ps : List P4) (z o : Int -> Option Int) (i : Int) : Int := (eD ps z o i).getD 0
def rB : Fs := (aU (cr 5 (ad 6)) (bQ 6 (e2 bx (ad 4) (ad 6))))
abbrev rV (ps : List P4) (z o : Int -> Option Int) (s : Int) (pl : List Int) (x : Int) : aN := [.val (gD ps), .val (oT z ps.length), .val (oT o ps.length), .val (.int s), .val (oT (eD ps z o) ps.length), .own (.list (pl.map .int)), .val (.int x), .non]
section
variable {ps : List P4} (G : Gr ps) (hw : ∀ i ∈ ids ps.length, aj ps i = 0 \/ aj ps i = 1) {z o : Int -> Option Int} (hz : ∀ i g, z i = some g -> g ∈ aw ps i) (ho : ∀ i g, o i = some g -> g ∈ aw ps i) (hall : ∀ i ∈ ids ps.length, ∃ g, eD ps z o i = some g)
include hz ho in
theorem tJ {i g : Int} (h : eD ps z o i = some g) : g ∈ aw ps i := by
  unfold eD at h;split at h
  · exact hz i g h
  · exact ho i g h
include hz ho hall in
theorem oB {i : Int} (hi : i ∈ ids ps.length) : gt ps z o i ∈ aw ps i := by
  obtain ⟨g, hg⟩ := hall i hi;unfold gt;rw [hg];exact tJ hz ho hg
include G hz ho hall in
theorem qD {i : Int} (hi : i ∈ ids ps.length) : gt ps z o i ∈ ids ps.length := bU.mpr (G.goals (oB hz ho hall hi))
include hall in
theorem AY {i : Int} (hi : i ∈ ids ps.length) : bx (oT (eD ps z o) ps.length) (.int i) = .ok (.int (gt ps z o i)) := by
  obtain ⟨h0, h1⟩ := bU.mp hi;obtain ⟨g, hg⟩ := hall i hi;rw [mQ h0 h1];unfold gt;rw [hg];rfl
include G hz ho hall in
theorem Dh {s : Int} (hs : s ∈ ids ps.length) : ∃ K e, lC (gt ps z o) s K e /\ cP (tE (e2 (lI true) (ad 6) (cW 5))) rB 1000000 (rV ps z o s [] s) = .ok (.nx (rV ps z o s (kg (gt ps z o) s K) (gC (gt ps z o) s K))) := by
  have hp := G.hp;refine oH (V := rV ps z o s) (S := fun x => x ∈ ids ps.length) (n := ps.length) (fun _ h => h) (fun x h => qD G hz ho hall h) (fun pl x _ => ?_) (fun pl x hx hl => ?_) hs 1000000 0 (by unfold kg; simp) (by omega)
  · simp only [cv, bj, am, ak, gX, gP, R.ok_bind, DQ, cK];rfl
  · unfold rB;rw [aJ (ρ' := rV ps z o s (pl ++ [x]) x) (by
      rw [jY (ds := pl.map .int) (ad 6) rfl (Nat.lt_of_lt_of_le (show _ < 1001 by rw [List.length_map]; omega) (by decide))];simp only [ak, am, cf, R.ok_bind];rw [show pl.map PyData.int ++ [PyData.int x] = (pl ++ [x]).map .int by simp];rfl)]
    simp only [bp, bj, ak, am, R.ok_bind, AY hall hx];rfl
include G hw hz ho hall in
theorem tH {s : Int} (hs : s ∈ ids ps.length) : ∃ K e, lC (gt ps z o) s K e /\ dm [gD ps, oT z ps.length, oT o ps.length, .int s] = .ok (Fl (gt ps z o) s K e) := by
  have hp := G.hp;obtain ⟨K, e, w, hl⟩ := Dh G hz ho hall hs;refine ⟨K, e, w, ?_⟩;have hK := qw (S := fun x => x ∈ ids ps.length) (fun _ h => h) (fun x h => qD G hz ho hall h) hs w.nd;have m1 := ly (vE z ps.length) (ps := ps) hp;have m2 := ly (vE o ps.length) (ps := ps) hp;rw [qa hz] at m1;rw [qa ho] at m2;have m3 := BT hp hw z o;have m4 := AV (eD ps z o) ps.length;have m5 : ((ids ps.length).any fun i => (eD ps z o i).isNone) = false := by
    rw [List.any_eq_false];intro i hi;obtain ⟨g, hg⟩ := hall i hi;rw [hg];simp
  rw [m5] at m4;have m6 := pI (d := .int s) True.intro ps;rw [yx hs] at m6;have hm : gC (gt ps z o) s K ∈ kg (gt ps z o) s K := jW.mpr ⟨e, w.lt, w.eq.symm⟩;have m7 := tW (by rw [dw]; omega) (fun x hx => by
    obtain ⟨j, _, rfl⟩ := jW.mp hx;have := bU.mp (u9 (nx := gt ps z o) (S := fun x => x ∈ ids ps.length) (fun x h => qD G hz ho hall h) hs j);omega) hm
  rw [w.idx] at m7;have he := w.lt;unfold dm lN;refine dY ?_;rw [show ([gD ps, oT z ps.length, oT o ps.length, .int s].map ba.val ++ List.replicate (8 - [gD ps, oT z ps.length, oT o ps.length, .int s].length) ba.non) = [.val (gD ps), .val (oT z ps.length), .val (oT o ps.length), .val (.int s), .non, .non, .non, .non] from rfl];rw [aJ (ρ' := [.val (gD ps), .val (oT z ps.length), .val (oT o ps.length), .val (.int s), .non, .non, .non, .non]) (by
    simp only [du, jZ, fS, cv, aX, aL, aP, ak, am, R.ok_bind, m1, m2, cK]; rfl)]
  rw [aJ (ρ' := [.val (gD ps), .val (oT z ps.length), .val (oT o ps.length), .val (.int s), .val (oT (eD ps z o) ps.length), .non, .non, .non]) (by
    simp only [bp, aX, aL, aP, ak, am, R.ok_bind, m3]; rfl)]
  rw [aJ (ρ' := [.val (gD ps), .val (oT z ps.length), .val (oT o ps.length), .val (.int s), .val (oT (eD ps z o) ps.length), .non, .non, .non]) (by
    simp only [du, cv, bj, bB, ak, am, R.ok_bind, m4, cK]; rfl)]
  rw [aJ (ρ' := [.val (gD ps), .val (oT z ps.length), .val (oT o ps.length), .val (.int s), .val (oT (eD ps z o) ps.length), .non, .non, .non]) (by
    simp only [du, fS, cv, aX, aL, aP, ak, am, R.ok_bind, m6, cK]; rfl)]
  rw [aJ (ρ' := [.val (gD ps), .val (oT z ps.length), .val (oT o ps.length), .val (.int s), .val (oT (eD ps z o) ps.length), .own (.list []), .non, .non]) (by rfl)];rw [aJ (ρ' := rV ps z o s [] s) (by rfl)];rw [aJ (ρ' := rV ps z o s (kg (gt ps z o) s K) (gC (gt ps z o) s K)) (by
    rw [eI];show mK (cP (tE (e2 (lI true) (ad 6) (cW 5))) rB 1000000 _) = _;rw [hl];rfl)]
  rw [aJ (ρ' := [.val (gD ps), .val (oT z ps.length), .val (oT o ps.length), .val (.int s), .val (oT (eD ps z o) ps.length), .own (.list ((kg (gt ps z o) s K).map .int)), .val (.int (gC (gt ps z o) s K)), .val (.int (e : Nat))]) (by
    rw [bp];unfold rd;simp only [gX, gP, am, ak, R.ok_bind, BC, m7];rfl)]
  simp only [ci, nE, aL, aP, bW, xq, gX, gP, rS, sN, am, ak, R.ok_bind, Bp, Dl, jd];rw [zp (by rw [List.length_map, dw]; omega), xJ (by rw [List.length_map, dw]; omega), if_pos (by show 2 <= _; decide), R.ok_bind];unfold Fl qB dD;rw [List.map_take, List.map_drop]
end
theorem rD {fe : Fe} {ρ : aN} {p : Int -> Int -> Bool} : ∀ (rs ss : List Int), (∀ q ∈ rs.zip ss, fe (.val (.int q.1) :: .val (.int q.2) :: ρ) = .ok (.bool (p q.1 q.2))) -> bE (cM 0 1) (fun _ => .ok true) fe (.non :: .non :: ρ) (gF (rs.map .int) (ss.map .int)) = .ok ((rs.zip ss).map fun q => .bool (p q.1 q.2))
  | [], ss, _ => by unfold gF; simp [cB]
  | r :: rs, [], _ => by unfold gF; simp [cB]
  | r :: rs, s :: ss, h => by
    have e : gF ((r :: rs).map .int) ((s :: ss).map .int) = .tuple [.int r, .int s] :: gF (rs.map .int) (ss.map .int) := rfl;have h1 := h (r, s) (by simp);rw [e, gB, rD rs ss fun q hq => h q (by rw [List.zip_cons_cons]; exact List.mem_cons_of_mem _ hq)];simp only [List.set_cons_zero, List.set_cons_succ, R.ok_bind, if_true, h1];rfl
def Bv (ps : List P4) (rs : List Int) : Bool := (rs.zip (rs.drop 1 ++ rs.take 1)).all fun q => cO (aw ps q.1) q.2
theorem yh {ps : List P4} {rs : List Int} : Bv ps rs = true <-> Bt ps rs := by
  have hl : (rs.drop 1 ++ rs.take 1).length = rs.length := by
    rw [List.length_append, List.length_drop, List.length_take]; omega
  have hg : ∀ j (h : j < rs.length), (rs.drop 1 ++ rs.take 1)[j]'(by rw [hl]; exact h) = rs[(j + 1) % rs.length]'(Nat.mod_lt _ (by omega)) := fun j h => by
    by_cases hj : j + 1 < rs.length
    · rw [List.getElem_append_left (by rw [List.length_drop]; omega), List.getElem_drop];simp only [Nat.mod_eq_of_lt hj, Nat.add_comm]
    · rw [List.getElem_append_right (by rw [List.length_drop]; omega), List.getElem_take];have e1 : j - (rs.drop 1).length = 0 := by rw [List.length_drop]; omega
      have e2 : (j + 1) % rs.length = 0 := by rw [show j + 1 = rs.length by omega]; exact Nat.mod_self _
      simp only [e1, e2]
  unfold Bv;rw [List.all_eq_true];constructor
  · intro h j hj;have := h (rs[j], (rs.drop 1 ++ rs.take 1)[j]'(by rw [hl]; exact hj)) (List.mem_iff_getElem.mpr ⟨j, by rw [List.length_zip, hl]; omega, by rw [List.getElem_zip]⟩);rw [bS] at this;dsimp only at this;rw [hg j hj] at this;exact this
  · intro h q hq;obtain ⟨j, hj, e⟩ := List.mem_iff_getElem.mp hq;rw [List.length_zip, hl, Nat.min_self] at hj;rw [List.getElem_zip] at e;subst e;rw [bS];dsimp only;rw [hg j hj];exact h j hj
def AW (n : Nat) : PyData -> Bool
  | .tuple ds => ds.isEmpty || !(ds.all fun d => sP d 0 ((n : Int) - 1))
  | _ => true
theorem p7 {ps : List P4} {ds : List PyData} (h : ∀ d ∈ ds, noD d) : bE (aS 0) (fun _ => .ok true) (aH az (af (ad 0) (af (ad 1) aI))) [.non, .val (gD ps)] ds = .ok (ds.map fun d => .bool (sP d 0 ((ps.length : Int) - 1))) :=
  eO _ _ 0 (fun d => .bool (sP d 0 ((ps.length : Int) - 1))) ds fun d hd => by
    simp only [List.set_cons_zero, aX, aL, aP, ak, am, R.ok_bind, pI (h d hd)]
theorem Dr {ps : List P4} {d : PyData} (hg : hU d) (hl : ∀ ds, d = .tuple ds -> ds.length <= 1000) (hb : AW ps.length d = true) : cT [d, gD ps] = .ok (.bool false) := by
  unfold cT jT;refine dY ?_;rw [show ([d, gD ps].map ba.val ++ List.replicate (3 - [d, gD ps].length) ba.non) = [.val d, .val (gD ps), .non] from rfl];cases d with
  | tuple ds =>
    have h0 := ku.mp hg;cases ds with
    | nil => rfl
    | cons d0 ds =>
      rw [aJ (ρ' := [.val (.tuple (d0 :: ds)), .val (gD ps), .non]) (by
        have : ¬ (((d0 :: ds).length : Nat) : Int) = 0 := by rw [List.length_cons]; omega
        simp only [du, jZ, fS, cv, bW, bj, bB, ak, R.ok_bind, show jp .tuple (.tuple (d0 :: ds)) = .ok (.bool true) from rfl, cK, kL, fL, decide_eq_false this];rfl)]
      refine tI ?_;have hc := p7 (ps := ps) (ds := d0 :: ds) fun x hx => (h0 x hx).noD
      have ha : ((d0 :: ds).all fun d => sP d 0 ((ps.length : Int) - 1)) = false := by
        have : (false || !((d0 :: ds).all fun d => sP d 0 ((ps.length : Int) - 1))) = true := hb;rw [Bool.false_or, Bool.not_eq_true'] at this;exact this
      have hd : lT (.list ((d0 :: ds).map fun d => .bool (sP d 0 ((ps.length : Int) - 1)))) = .ok (.bool false) := by
        show (match D2.lE ((d0 :: ds).map fun d => PyData.bool (sP d 0 ((ps.length : Int) - 1))) with | some k => R.ok (PyData.bool k) | none => .no) = _;rw [nG (fun d => sP d 0 ((ps.length : Int) - 1)), ha]
      rw [du, fS, cv, bW, bi, show aB 1 [1] [.val (.tuple (d0 :: ds)), .val (gD ps), .non] = [.non, .val (gD ps)] from rfl];simp only [bY, ak, R.ok_bind, cH, cf];rw [if_pos (bD (hl _ rfl)), hc, gZ, R.ok_bind, hd];rfl
  | dict k => exact hg.noD.elim
  | _ => rfl
theorem w4 {ps : List P4} {rs : List Int} (hl : rs.length <= 1000) (hne : rs ≠ []) (hb : ∀ x ∈ rs, x ∈ ids ps.length) : cT [.tuple (rs.map .int), gD ps] = .ok (.bool (Bv ps rs)) := by
  unfold cT jT;refine dY ?_;rw [show ([.tuple (rs.map .int), gD ps].map ba.val ++ List.replicate (3 - [.tuple (rs.map .int), gD ps].length) ba.non) = [.val (.tuple (rs.map .int)), .val (gD ps), .non] from rfl];have hpos : 0 < rs.length := List.length_pos_iff.mpr hne;rw [aJ (ρ' := [.val (.tuple (rs.map .int)), .val (gD ps), .non]) (by
    have : ¬ ((rs.length : Nat) : Int) = 0 := by omega
    simp only [du, jZ, fS, cv, bW, bj, bB, ak, R.ok_bind, show jp .tuple (.tuple (rs.map .int)) = .ok (.bool true) from rfl, cK, kL, List.length_map, fL, decide_eq_false this];rfl)]
  have hc := p7 (ps := ps) (ds := rs.map .int) fun x hx => by
    obtain ⟨i, _, rfl⟩ := List.mem_map.mp hx;exact True.intro
  have ha : ((rs.map PyData.int).all fun d => sP d 0 ((ps.length : Int) - 1)) = true := by
    rw [List.all_eq_true];intro x hx;obtain ⟨i, hi, rfl⟩ := List.mem_map.mp hx;exact yx (hb i hi)
  have hd : lT (.list ((rs.map PyData.int).map fun d => .bool (sP d 0 ((ps.length : Int) - 1)))) = .ok (.bool true) := by
    show (match D2.lE ((rs.map PyData.int).map fun d => PyData.bool (sP d 0 ((ps.length : Int) - 1))) with | some k => R.ok (PyData.bool k) | none => .no) = _;rw [nG (fun d => sP d 0 ((ps.length : Int) - 1)), ha]
  rw [aJ (ρ' := [.val (.tuple (rs.map .int)), .val (gD ps), .non]) (by
    rw [du, fS, cv, bW, bi, show aB 1 [1] [.val (.tuple (rs.map .int)), .val (gD ps), .non] = [.non, .val (gD ps)] from rfl];simp only [bY, ak, R.ok_bind, cH, cf];rw [if_pos (by rw [List.length_map]; exact bD hl), hc, gZ, R.ok_bind, hd];rfl)]
  rw [aJ (ρ' := [.val (.tuple (rs.map .int)), .val (gD ps), .val (.tuple ((rs.drop 1 ++ rs.take 1).map .int))]) (by
    simp only [bp, bj, xq, rS, sN, bB, ak, R.ok_bind, Bp, CZ];rw [show (some (1 : Int)) = some ((1 : Nat) : Int) from rfl, zp (by rw [List.length_map]; omega), xJ (by rw [List.length_map]; omega), xD];rw [if_pos (by rw [List.length_drop, List.length_take, List.length_map]; exact bD (by omega)), <- List.map_drop, <- List.map_take, <- List.map_append];rfl)]
  have hz := rD (fe := e2 (lI false) (ad 1) (e2 bx (e2 bx (ad 2) (ad 0)) (eC (.int 3)))) (ρ := [.val (gD ps)]) (p := fun a b => cO (aw ps a) b) rs (rs.drop 1 ++ rs.take 1) fun q hq => by
    obtain ⟨h0, h1⟩ := bU.mp (hb q.1 (List.of_mem_zip hq).1);simp only [bj, am, ak, bB, R.ok_bind, ln h0 h1, oI, Bw];rw [<- dP h0 h1];rfl
  rw [ci, bW, bi, show aB 2 [1] [.val (.tuple (rs.map .int)), .val (gD ps), .val (.tuple ((rs.drop 1 ++ rs.take 1).map .int))] = [.non, .non, .val (gD ps)] from rfl];simp only [uZ, ak, am, R.ok_bind, cH, cf];rw [if_pos (by rw [jg, List.length_map]; exact bD (by omega)), hz, gZ, R.ok_bind];show ((match D2.lE ((rs.zip (rs.drop 1 ++ rs.take 1)).map fun q => PyData.bool (cO (aw ps q.1) q.2)) with | some k => R.ok (PyData.bool k) | none => .no) >>= fun d => R.ok (xk.rt d)) = _;rw [all_map (fun q : Int × Int => cO (aw ps q.1) q.2)];rfl
theorem wY {ps : List P4} {rs : List Int} (hl : rs.length <= 1000) (hne : rs ≠ []) (hb : ∀ x ∈ rs, x ∈ ids ps.length) (hr : Bt ps rs) : ∃ h, eB [gD ps, .tuple (rs.map .int)] = .ok (.int (h % 2)) /\ nL (.list ((rs.map (aD ps)).map .int)) = .ok (.int h) /\ (∃ i ∈ rs, aD ps i = h) /\ ∀ i ∈ rs, aD ps i <= h := by
  obtain ⟨h, h1, h2, h3⟩ := p0 (ps := ps) hne;refine ⟨h, ?_, h1, h2, h3⟩;have hring := w4 hl hne hb;rw [yh.mpr hr] at hring;unfold eB o1;refine dY ?_;rw [show ([gD ps, .tuple (rs.map .int)].map ba.val ++ List.replicate (2 - [gD ps, .tuple (rs.map .int)].length) ba.non) = [.val (gD ps), .val (.tuple (rs.map .int))] from rfl];rw [aJ (ρ' := [.val (gD ps), .val (.tuple (rs.map .int))]) (by
    simp only [du, fS, cv, aX, aL, aP, ak, am, R.ok_bind, hring, cK]; rfl)]
  have hc : bE (aS 0) (fun _ => .ok true) (e2 bx (e2 bx (ad 1) (ad 0)) (eC (.int 1))) [.non, .val (gD ps)] (rs.map .int) = .ok ((rs.map (aD ps)).map .int) := by
    have := eO (e2 bx (e2 bx (ad 1) (ad 0)) (eC (.int 1))) [.non, .val (gD ps)] 0 (fun d => match d with | .int i => .int (aD ps i) | d => d) (rs.map .int) fun d hd => by
      obtain ⟨i, hi, rfl⟩ := List.mem_map.mp hd;obtain ⟨i0, i1⟩ := bU.mp (hb i hi);simp only [List.set_cons_zero, bj, ak, am, bB, R.ok_bind, ln i0 i1, uS];rw [jK i0 i1]
    rw [this, List.map_map, List.map_map];rfl
  rw [ci, bj, bW, bi, show aB 1 [0] [.val (gD ps), .val (.tuple (rs.map .int))] = [.non, .val (gD ps)] from rfl];simp only [bY, ak, am, R.ok_bind, cH, cf];rw [if_pos (by rw [List.length_map]; exact bD hl), hc, gZ, R.ok_bind, h1, R.ok_bind, bB, R.ok_bind, qm, if_pos (by decide)];rfl
theorem xA (k m : Nat) : ka k (m + 1) = ka k m ++ [((k + m : Nat) : Int)] := by
  unfold ka;rw [List.range_succ, List.map_append];rfl
def ug (ps : List P4) (who : Int) (dr : Int -> Int) (share : Int) (i : Int) : Option Int := if aj ps i ≠ who \/ (0 < share /\ dr i % share = 0) then none else (aw ps i)[(dr i / 7 % ((aw ps i).length : Int)).toNat]?
def Et : Fs := (aU (bQ 7 (aH aA (af (ad 2) (af (ad 5) aI)))) (lH (nz (tE (e2 (wx) (e2 bx (ad 6) (eC (.int 0))) (ad 1))) (mE (tE (e2 (fu pr) (ad 3) (eC (.int 0)))) (tE (e2 (iX) (e2 fD (ad 7) (ad 3)) (eC (.int 0)))))) (cr 4 (eC .none)) (cr 4 (e2 bx (e2 bx (ad 6) (eC (.int 3))) (e2 fD (e2 lF (ad 7) (eC (.int 7))) (e1 dE (e2 bx (ad 6) (eC (.int 3)))))))))
theorem Dg {ps : List P4} {i : Int} (h0 : 0 <= i) (h1 : i < ps.length) : bx (i9 ps i) (.int 3) = .ok (.tuple ((aw ps i).map .int)) := by
  unfold i9;rw [List.getElem?_eq_getElem (show i.toNat < ps.length by omega), dP h0 h1];rfl
abbrev ww (ps : List P4) (who num share : Int) (acc : List PyData) (c5 c6 c7 : ba) : aN := [.val (gD ps), .val (.int who), .val (.int num), .val (.int share), .own (.list acc), c5, c6, c7]
section
variable {ps : List P4} (hne : ∀ i ∈ ids ps.length, aw ps i ≠ []) {who num share : Int} {dr : Int -> Int} (hdr : ∀ k, aA [.int num, .int k] = .ok (.int (dr k)))
include hne hdr
theorem BG {acc : List PyData} (ha : acc.length <= 1000) {i : Int} (h0 : 0 <= i) (h1 : i < ps.length) (c7 : ba) :
    Et (ww ps who num share acc (.val (.int i)) (.val (i9 ps i)) c7) = .ok (.nx (ww ps who num share (acc ++ [oD (ug ps who dr share i)]) (.val (.int i)) (.val (i9 ps i)) (.val (.int (dr i))))) := by
  have hg := hne i (bU.mpr ⟨h0, h1⟩);have hpos : 0 < ((aw ps i).length : Int) := by
    have := List.length_pos_iff.mpr hg;omega
  have a0 := Int.emod_nonneg (dr i / 7) (show ((aw ps i).length : Int) ≠ 0 by omega);have a1 := Int.emod_lt_of_pos (dr i / 7) hpos;have hz : acc.length < sizeLine := Nat.lt_of_lt_of_le (show acc.length < 1001 by omega) (by decide);unfold Et;rw [aJ (ρ' := ww ps who num share acc (.val (.int i)) (.val (i9 ps i)) (.val (.int (dr i)))) (by
    simp only [bp, aX, aL, aP, am, ak, R.ok_bind, hdr]; rfl)]
  have ap : ∀ f d, f (ww ps who num share acc (.val (.int i)) (.val (i9 ps i)) (.val (.int (dr i)))) = .ok d -> cr 4 f (ww ps who num share acc (.val (.int i)) (.val (i9 ps i)) (.val (.int (dr i)))) = .ok (.nx (ww ps who num share (acc ++ [d]) (.val (.int i)) (.val (i9 ps i)) (.val (.int (dr i))))) := fun f d e => by
    rw [jY (ds := acc) f rfl hz, e];rfl
  have hix := vI (xs := (aw ps i).map PyData.int) (i := dr i / 7 % ((aw ps i).length : Int)) a0 (by simpa using a1);have hv : (e2 bx (e2 bx (ad 6) (eC (.int 3))) (e2 fD (e2 lF (ad 7) (eC (.int 7))) (e1 dE (e2 bx (ad 6) (eC (.int 3)))))) (ww ps who num share acc (.val (.int i)) (.val (i9 ps i)) (.val (.int (dr i)))) = .ok (.int ((aw ps i)[(dr i / 7 % ((aw ps i).length : Int)).toNat]'(by omega))) := by
    simp only [bW, bj, am, ak, bB, R.ok_bind, Dg h0 h1, kL, List.length_map, CB];rw [if_pos (by decide), R.ok_bind, qm, if_pos hpos, R.ok_bind, hix];simp
  unfold ug;rw [du];simp only [jZ, sT, cv, bj, am, ak, bB, R.ok_bind, yk h0 h1, sh, cK, oy];by_cases ho : aj ps i = who
  · rw [decide_eq_true ho];by_cases hs : 0 < share
    · simp only [Bool.not_true, if_false, Bool.false_eq_true];rw [show pr share 0 = true from decide_eq_true hs, if_pos rfl, qm, if_pos hs, R.ok_bind, fL, R.ok_bind, cK, R.ok_bind];by_cases hd : dr i % share = 0
      · rw [decide_eq_true hd, if_pos rfl, if_pos (.inr ⟨hs, hd⟩)];exact ap _ _ rfl
      · rw [decide_eq_false hd, if_neg (by simp), if_neg (by rintro (z | z); exact z ho; exact hd z.2), List.getElem?_eq_getElem (by omega)];exact ap _ _ hv
    · simp only [Bool.not_true, if_false, Bool.false_eq_true];rw [show pr share 0 = false from decide_eq_false hs, if_neg (by simp), R.ok_bind, if_neg (by simp), if_neg (by rintro (z | z); exact z ho; exact hs z.1), List.getElem?_eq_getElem (by omega)];exact ap _ _ hv
  · rw [decide_eq_false ho, if_pos (show aj ps i ≠ who \/ (0 < share /\ dr i % share = 0) from .inl ho)];simp only [Bool.not_false, if_true, R.ok_bind];exact ap _ _ rfl
theorem vL (hp : ps.length <= 24) : ∀ (m k : Nat) (c5 c6 c7 : ba), k + m = ps.length ->
    ∃ c5' c6' c7', eS (cM 5 6) Et (cG k ((ka k m).map (i9 ps))) (ww ps who num share ((ka 0 k).map fun i => oD (ug ps who dr share i)) c5 c6 c7) = .ok (.nx (ww ps who num share ((ka 0 (k + m)).map fun i => oD (ug ps who dr share i)) c5' c6' c7'))
  | 0, k, c5, c6, c7, _ => ⟨c5, c6, c7, by rw [show ka k 0 = [] from rfl]; simp [cG]⟩
  | m + 1, k, c5, c6, c7, hk => by
    have e := BG hne hdr (who := who) (share := share) (acc := (ka 0 k).map fun i => oD (ug ps who dr share i)) (by rw [List.length_map]; unfold ka; rw [List.length_map, List.length_range]; omega) (i := (k : Int)) (by omega) (by omega) c7;obtain ⟨c5', c6', c7', e'⟩ := vL hp m (k + 1) (.val (.int k)) (.val (i9 ps k)) (.val (.int (dr k))) (by omega);refine ⟨c5', c6', c7', ?_⟩;rw [o2, List.map_cons];rw [show cG k (i9 ps k :: (ka (k + 1) m).map (i9 ps)) = .tuple [.int k, i9 ps k] :: cG (k + 1) ((ka (k + 1) m).map (i9 ps)) from rfl, wo];rw [show ((ww ps who num share ((ka 0 k).map fun i => oD (ug ps who dr share i)) c5 c6 c7).set 5 (.val (.int k))).set 6 (.val (i9 ps k)) = ww ps who num share ((ka 0 k).map fun i => oD (ug ps who dr share i)) (.val (.int k)) (.val (i9 ps k)) c7 from rfl];rw [e, R.ok_bind, dh];rw [show ((ka 0 k).map fun i => oD (ug ps who dr share i)) ++ [oD (ug ps who dr share k)] = (ka 0 (k + 1)).map fun i => oD (ug ps who dr share i) by
      rw [xA, List.map_append]; simp]
    rw [e', show k + 1 + m = k + (m + 1) by omega]
end
theorem pN {ps : List P4} (hp : ps.length <= 24) (hne : ∀ i ∈ ids ps.length, aw ps i ≠ []) (who num share : Int) : ∃ f : Int -> Option Int, cc [gD ps, .int who, .int num, .int share] = .ok (oT f ps.length) /\ (∀ i g, f i = some g -> g ∈ aw ps i) /\ (∀ i, aj ps i ≠ who -> f i = none) /\ (share = 0 -> ∀ i ∈ ids ps.length, aj ps i = who -> ∃ g, f i = some g) := by
  have hx : ∀ k : Int, ∃ v, aA [.int num, .int k] = .ok (.int v) := fun k => let ⟨v, h, _⟩ := ls num k; ⟨v, h⟩
  obtain ⟨dr, hdr⟩ : ∃ dr : Int -> Int, ∀ k, aA [.int num, .int k] = .ok (.int (dr k)) := ⟨fun k => (hx k).choose, fun k => (hx k).choose_spec⟩
  refine ⟨ug ps who dr share, ?_, fun i g h => ?_, fun i h => if_pos (.inl h), fun hs i hi ho => ?_⟩
  · obtain ⟨c5, c6, c7, e⟩ := vL hne hdr (who := who) (share := share) hp ps.length 0 .non .non .non (by omega);unfold cc iY;refine dY ?_;rw [show ([gD ps, .int who, .int num, .int share].map ba.val ++ List.replicate (8 - [gD ps, .int who, .int num, .int share].length) ba.non) = [.val (gD ps), .val (.int who), .val (.int num), .val (.int share), .non, .non, .non, .non] from rfl];rw [aJ (ρ' := ww ps who num share [] .non .non .non) (by rfl)];rw [aJ (ρ' := ww ps who num share ((ka 0 (0 + ps.length)).map fun i => oD (ug ps who dr share i)) c5 c6 c7) (by
      rw [eI, fH, jv];simp only [ak, R.ok_bind, cH];rw [tX, show cg (i9 ps) ps.length = (ka 0 ps.length).map (i9 ps) by rw [jL]; rfl];unfold Et at e;rw [show (ka 0 0).map (fun i => oD (ug ps who dr share i)) = [] from rfl] at e;rw [e];rfl)]
    rw [ci, bW];simp only [gX, gP, R.ok_bind, jd];rw [Nat.zero_add, jL];rfl
  · unfold ug at h;split at h
    · cases h
    · exact List.mem_of_getElem? h
  · have hg := hne i hi;have hpos : 0 < ((aw ps i).length : Int) := by
      have := List.length_pos_iff.mpr hg;omega
    have a1 := Int.emod_lt_of_pos (dr i / 7) hpos;have a0 := Int.emod_nonneg (dr i / 7) (show ((aw ps i).length : Int) ≠ 0 by omega);refine ⟨(aw ps i)[(dr i / 7 % ((aw ps i).length : Int)).toNat]'(by omega), ?_⟩;unfold ug;rw [if_neg (by rintro (z | z); exact z ho; omega)];exact List.getElem?_eq_getElem (by omega)
theorem lC.per {nx : Int -> Int} {s : Int} {k e : Nat} (w : lC nx s k e) : ∀ d, gC nx s (k + d) = gC nx s (e + d)
  | 0 => w.eq
  | d + 1 => by
    show nx (gC nx s (k + d)) = nx (gC nx s (e + d));rw [w.per d]
theorem lC.back {nx : Int -> Int} {s : Int} {k e : Nat} (w : lC nx s k e) : ∀ d, ∃ j, e <= j /\ j < k /\ gC nx s (e + d) = gC nx s j
  | 0 => ⟨e, Nat.le_refl _, w.lt, rfl⟩
  | d + 1 => by
    obtain ⟨j, j1, j2, ej⟩ := w.back d;have e1 : gC nx s (e + (d + 1)) = gC nx s (j + 1) := by
      show nx (gC nx s (e + d)) = nx (gC nx s j);rw [ej]
    by_cases h : j + 1 < k
    · exact ⟨j + 1, by omega, h, e1⟩
    · refine ⟨e, Nat.le_refl _, w.lt, ?_⟩;rw [e1, show j + 1 = k by omega, w.eq]
theorem ya {nx : Int -> Int} {s : Int} {al : Int -> Prop} {a : Nat} (h : ∀ d, al (gC nx s (a + d))) : ∀ d, pZ (fun x y => y = nx x /\ al x) al (gC nx s a) (gC nx s (a + d + 1))
  | 0 => .one ⟨rfl, h 0⟩ (h 1)
  | d + 1 => .more (ya h d) ⟨rfl, h (d + 1)⟩ (h (d + 2))
theorem lC.ringPth {nx : Int -> Int} {s : Int} {k e : Nat} (w : lC nx s k e) {al : Int -> Prop} (h : ∀ j, e <= j -> j < k -> al (gC nx s j)) {j : Nat} (h1 : e <= j) (h2 : j < k) : pZ (fun x y => y = nx x /\ al x) al (gC nx s j) (gC nx s j) := by
  have hall : ∀ d, al (gC nx s (j + d)) := fun d => by
    obtain ⟨i, i1, i2, ei⟩ := w.back (j - e + d);rw [show e + (j - e + d) = j + d by omega] at ei;rw [ei];exact h i i1 i2
  have p := ya hall (k - e - 1);have hl := w.lt;rw [show j + (k - e - 1) + 1 = k + (j - e) by omega, w.per, show e + (j - e) = j by omega] at p;exact p
def gu (ps : List P4) (w : Int) (mv f : Int -> Option Int) (i : Int) : Option Int := if mv i = none \/ aj ps i ≠ w then f i else mv i
structure Ec (ps : List P4) (win : Int -> Int) (w : Int) (mv z o : Int -> Option Int) : Prop where
  zg : ∀ i g, z i = some g -> g ∈ aw ps i
  og : ∀ i g, o i = some g -> g ∈ aw ps i
  all : ∀ i ∈ ids ps.length, ∃ g, eD ps z o i = some g
  own : ∀ i ∈ ids ps.length, win i = w -> aj ps i = w -> eD ps z o i = mv i
section
variable {ps : List P4} (G : Gr ps) (hw : ∀ i ∈ ids ps.length, aj ps i = 0 \/ aj ps i = 1) {win : Int -> Int} {mv : Int -> Option Int} (I : tM ps (ids ps.length) win mv) (hn : ∀ i, i ∉ ids ps.length -> mv i = none)
include I hn in
theorem zU {i g : Int} (h : mv i = some g) : g ∈ aw ps i := by
  by_cases hi : i ∈ ids ps.length
  · by_cases ho : aj ps i = win i
    · obtain ⟨g', h1, h2⟩ := I.has i hi ho;rw [h1] at h;cases h;exact h2
    · rw [I.non i hi ho] at h;cases h
  · rw [hn i hi] at h;cases h
include G hw I hn in
theorem AE {w : Int} (w01 : w = 0 \/ w = 1) {f0 f1 : Int -> Option Int} (g0 : ∀ i g, f0 i = some g -> g ∈ aw ps i) (g1 : ∀ i g, f1 i = some g -> g ∈ aw ps i) (a0 : ∀ i ∈ ids ps.length, aj ps i = 0 -> ∃ g, f0 i = some g) (a1 : ∀ i ∈ ids ps.length, aj ps i = 1 -> ∃ g, f1 i = some g) :
    Ec ps win w mv (if w = 1 then f0 else gu ps w mv f0) (if w = 1 then gu ps w mv f1 else f1) := by
  have mg : ∀ f : Int -> Option Int, (∀ i g, f i = some g -> g ∈ aw ps i) -> ∀ i g, gu ps w mv f i = some g -> g ∈ aw ps i := fun f hf i g h => by
    unfold gu at h;split at h
    · exact hf i g h
    · exact zU I hn h
  have ma : ∀ f : Int -> Option Int, ∀ i ∈ ids ps.length, (∃ g, f i = some g) -> ∃ g, gu ps w mv f i = some g := fun f i hi ⟨g, hg⟩ => by
    unfold gu;split
    · exact ⟨g, hg⟩
    · rename_i z;cases hm : mv i with
      | none => exact (z (.inl hm)).elim
      | some g => exact ⟨g, rfl⟩
  have mo : ∀ f : Int -> Option Int, ∀ i ∈ ids ps.length, win i = w -> aj ps i = w -> gu ps w mv f i = mv i := fun f i hi h1 h2 => by
    obtain ⟨g, hg, _⟩ := I.has i hi (h2.trans h1.symm);unfold gu;rw [if_neg (by rintro (z | z); rw [hg] at z; cases z; exact z h2)]
  refine ⟨fun i g h => ?_, fun i g h => ?_, fun i hi => ?_, fun i hi h1 h2 => ?_⟩
  · split at h
    · exact g0 i g h
    · exact mg f0 g0 i g h
  · split at h
    · exact mg f1 g1 i g h
    · exact g1 i g h
  · unfold eD;rcases hw i hi with ho | ho
    · rw [if_pos ho];split
      · exact a0 i hi ho
      · exact ma f0 i hi (a0 i hi ho)
    · rw [if_neg (by omega)];split
      · exact ma f1 i hi (a1 i hi ho)
      · exact a1 i hi ho
  · unfold eD;rcases w01 with e | e
    · rw [if_pos (by omega), if_neg (by omega)];exact mo f0 i hi h1 h2
    · rw [if_neg (by omega), if_pos e];exact mo f1 i hi h1 h2
include G I in
theorem xU {w : Int} {z o : Int -> Option Int} (D : Ec ps win w mv z o) {s : Int} (hs : s ∈ ids ps.length) (hws : win s = w) {K e : Nat} (wk : lC (gt ps z o) s K e) :
    (∀ j, gC (gt ps z o) s j ∈ ids ps.length /\ win (gC (gt ps z o) s j) = w) /\ ∀ h, (∃ i ∈ dD (gt ps z o) s K e, aD ps i = h) -> (∀ i ∈ dD (gt ps z o) s K e, aD ps i <= h) -> h % 2 = w := by
  have step : ∀ i, i ∈ ids ps.length -> win i = w -> Wy ps (ids ps.length) w mv i (gt ps z o i) := fun i hi hwi => by
    obtain ⟨g, hg⟩ := D.all i hi;have en : gt ps z o i = g := by unfold gt; rw [hg]; rfl
    by_cases ho : aj ps i = w
    · refine .inl ⟨ho, ?_⟩;rw [<- D.own i hi hwi ho, hg, en]
    · refine .inr ⟨ho, ?_⟩;have := oB D.zg D.og D.all hi;exact iD this (bU.mpr (G.goals this))
  have all : ∀ j, gC (gt ps z o) s j ∈ ids ps.length /\ win (gC (gt ps z o) s j) = w := fun j => by
    induction j with
    | zero => exact ⟨hs, hws⟩
    | succ j ih =>
      have q := I.stay _ ih.1 _ (by rw [ih.2]; exact step _ ih.1 ih.2);exact ⟨q.1, q.2.trans ih.2⟩
  refine ⟨all, fun h ⟨i, hi, ei⟩ hmax => ?_⟩;by_cases hh : h % 2 = w
  · exact hh
  · exfalso;obtain ⟨j, j1, j2, ej⟩ := pT hi;have hij := (all j)
    rw [ej] at hij;refine I.good i hij.1 (by rw [ei, hij.2]; exact hh) ?_;have p := wk.ringPth (al := fun x => (x ∈ ids ps.length /\ win x = w) /\ aD ps x <= h) (fun j a b => ⟨all j, hmax _ (by
      refine List.mem_iff_getElem.mpr ⟨j - e, by rw [dU]; omega, ?_⟩;rw [io (by omega), show e + (j - e) = j by omega])⟩) j1 j2
    rw [ej] at p;rw [hij.2, ei];exact p.imp (fun y ⟨a, b⟩ c => ⟨by rw [a]; exact step _ b.1.1 b.1.2, c.1.1, c.1.2, c.2⟩) fun x y _ ⟨a, b⟩ c => ⟨by rw [a]; exact step _ b.1.1 b.1.2, c.1.1, c.1.2, c.2⟩
end
def DR : Fs := (lH (nz (tE (e2 (jb) (ad 10) (eC .none))) (tE (e2 (wx) (e2 bx (ad 9) (eC (.int 0))) (ad 7)))) (cr 8 (ad 11)) (cr 8 (ad 10)))
abbrev kV (a : PyData) (ps : List P4) (win : Int -> Int) (mv : Int -> Option Int) (k4 d5 : PyData) (s : Int) (c7 c8 c9 c10 c11 c12 c13 c14 : ba) : aN :=
  [.val a, .val (gD ps), .val (oT (fun i => some (win i)) ps.length), .val (oT mv ps.length), .val k4, .val d5, .val (.int s), c7, c8, c9, c10, c11, c12, c13, c14]
theorem uY {a k4 d5 : PyData} {ps : List P4} {win : Int -> Int} {mv f : Int -> Option Int} {s w : Int} {c12 c13 c14 : ba} : ∀ (is : List Int) (acc : List PyData) (c9 c10 c11 : ba), (∀ x ∈ is, 0 <= x /\ x < ps.length) -> acc.length + is.length <= 1000 ->
    ∃ c9' c10' c11', eS (sj 9 10 11) DR (is.map fun i => .tuple [i9 ps i, oD (mv i), oD (f i)]) (kV a ps win mv k4 d5 s (.val (.int w)) (.own (.list acc)) c9 c10 c11 c12 c13 c14) = .ok (.nx (kV a ps win mv k4 d5 s (.val (.int w)) (.own (.list (acc ++ is.map fun i => oD (gu ps w mv f i)))) c9' c10' c11' c12 c13 c14))
  | [], acc, c9, c10, c11, _, _ => ⟨c9, c10, c11, by simp⟩
  | i :: is, acc, c9, c10, c11, hb, hl => by
    obtain ⟨h0, h1⟩ := hb i List.mem_cons_self;rw [List.length_cons] at hl;have hz : acc.length < sizeLine := Nat.lt_of_lt_of_le (show acc.length < 1001 by omega) (by decide);obtain ⟨c9', c10', c11', e⟩ := uY (a := a) (k4 := k4) (d5 := d5) (ps := ps) (win := win) (mv := mv) (f := f) (s := s) (w := w) (c12 := c12) (c13 := c13) (c14 := c14) is (acc ++ [oD (gu ps w mv f i)]) (.val (i9 ps i)) (.val (oD (mv i))) (.val (oD (f i))) (fun x hx => hb x (List.mem_cons_of_mem _ hx)) (by simp; omega);refine ⟨c9', c10', c11', ?_⟩;rw [List.map_cons, xE];rw [show (((kV a ps win mv k4 d5 s (.val (.int w)) (.own (.list acc)) c9 c10 c11 c12 c13 c14).set 9 (.val (i9 ps i))).set 10 (.val (oD (mv i)))).set 11 (.val (oD (f i))) = kV a ps win mv k4 d5 s (.val (.int w)) (.own (.list acc)) (.val (i9 ps i)) (.val (oD (mv i))) (.val (oD (f i))) c12 c13 c14 from rfl];have hb1 : DR (kV a ps win mv k4 d5 s (.val (.int w)) (.own (.list acc)) (.val (i9 ps i)) (.val (oD (mv i))) (.val (oD (f i))) c12 c13 c14) = .ok (.nx (kV a ps win mv k4 d5 s (.val (.int w)) (.own (.list (acc ++ [oD (gu ps w mv f i)]))) (.val (i9 ps i)) (.val (oD (mv i))) (.val (oD (f i))) c12 c13 c14)) := by
      have ap : ∀ g d, g (kV a ps win mv k4 d5 s (.val (.int w)) (.own (.list acc)) (.val (i9 ps i)) (.val (oD (mv i))) (.val (oD (f i))) c12 c13 c14) = .ok d -> cr 8 g (kV a ps win mv k4 d5 s (.val (.int w)) (.own (.list acc)) (.val (i9 ps i)) (.val (oD (mv i))) (.val (oD (f i))) c12 c13 c14) = .ok (.nx (kV a ps win mv k4 d5 s (.val (.int w)) (.own (.list (acc ++ [d]))) (.val (i9 ps i)) (.val (oD (mv i))) (.val (oD (f i))) c12 c13 c14)) := fun g d e => by
        rw [jY (ds := acc) g rfl hz, e];rfl
      unfold DR gu;rw [du];simp only [jZ, cv, bj, am, ak, bB, R.ok_bind, tN, yk h0 h1, sh, cK];cases hm : mv i with
      | none =>
        rw [if_pos (show (none : Option Int).isNone = true from rfl), R.ok_bind, if_pos rfl, if_pos (.inl rfl), <- hm];exact ap _ _ (by rw [hm]; rfl)
      | some g =>
        rw [if_neg (by simp), R.ok_bind];by_cases ho : aj ps i = w
        · rw [decide_eq_true ho, if_neg (by simp), if_neg (by rintro (z | z); cases z; exact z ho), <- hm];exact ap _ _ (by rw [hm]; rfl)
        · rw [decide_eq_false ho, if_pos (by rfl), if_pos (.inr ho), <- hm];exact ap _ _ (by rw [hm]; rfl)
    rw [hb1, R.ok_bind, dh, e, List.append_assoc];rfl
def DZ : Fs := (aU (bQ 7 (e2 bx (ad 2) (ad 6))) (aU (gw 8 (la aI)) (aU (h9 (jc (p8 (ad 1) (ad 3) (e2 bx (ad 5) (ad 7))) (sj 9 10 11) DR)) (aU (bQ 12 (la (af (e1 cs (cW 8)) (af (e2 bx (ad 5) (eC (.int 1))) aI)))) (aU (lH (tE (e2 (iX) (ad 7) (eC (.int 1)))) (bQ 12 (la (af (e2 bx (ad 5) (eC (.int 0))) (af (e1 cs (cW 8)) aI)))) dC) (aU (uQ (cM 13 14) (aH dm (af (ad 1) (af (e2 bx (ad 12) (eC (.int 0))) (af (e2 bx (ad 12) (eC (.int 1))) (af (ad 6) aI)))))) (lH (nz (ip (tE (e1 lT (bL (eA (e2 fQ (ad 13) (ad 14))) 1 [2, 7] (aS 0) (fun _ => .ok true) (e2 (iX) (e2 bx (ad 1) (ad 0)) (ad 2)))))) (tE (e2 (wx) (aH eB (af (ad 1) (af (ad 14) aI))) (ad 7)))) (cF (eC (.bool false))) dC)))))))
section
variable {a k4 : PyData} {ps : List P4} (G : Gr ps) (hw : ∀ i ∈ ids ps.length, aj ps i = 0 \/ aj ps i = 1) {win : Int -> Int} {mv : Int -> Option Int} (I : tM ps (ids ps.length) win mv) (hn : ∀ i, i ∉ ids ps.length -> mv i = none)
  {f0 f1 : Int -> Option Int} (g0 : ∀ i g, f0 i = some g -> g ∈ aw ps i) (g1 : ∀ i g, f1 i = some g -> g ∈ aw ps i) (a0 : ∀ i ∈ ids ps.length, aj ps i = 0 -> ∃ g, f0 i = some g) (a1 : ∀ i ∈ ids ps.length, aj ps i = 1 -> ∃ g, f1 i = some g)
include G hw I hn g0 g1 a0 a1
theorem CC {s : Int} (hs : s ∈ ids ps.length) (c7 c8 c9 c10 c11 c12 c13 c14 : ba) :
    ∃ c7' c8' c9' c10' c11' c12' c13' c14', DZ (kV a ps win mv k4 (.list [oT f0 ps.length, oT f1 ps.length]) s c7 c8 c9 c10 c11 c12 c13 c14) = .ok (.nx (kV a ps win mv k4 (.list [oT f0 ps.length, oT f1 ps.length]) s c7' c8' c9' c10' c11' c12' c13' c14')) := by
  have hp := G.hp;obtain ⟨s0, s1⟩ := bU.mp hs;obtain ⟨w, ew⟩ : ∃ w, w = win s := ⟨_, rfl⟩
  have w01 := I.two s hs;rw [<- ew] at w01;obtain ⟨f, ef⟩ : ∃ f : Int -> Option Int, f = if w = 1 then f1 else f0 := ⟨_, rfl⟩
  obtain ⟨d5, e5⟩ : ∃ d5 : PyData, d5 = .list [oT f0 ps.length, oT f1 ps.length] := ⟨_, rfl⟩
  have x0 : bx d5 (.int 0) = .ok (oT f0 ps.length) := by rw [e5]; rfl
  have x1 : bx d5 (.int 1) = .ok (oT f1 ps.length) := by rw [e5]; rfl
  have xw : bx d5 (.int w) = .ok (oT f ps.length) := by
    rcases w01 with z | z
    · rw [z, x0, ef, if_neg (by omega)]
    · rw [z, x1, ef, if_pos z]
  rw [<- e5];obtain ⟨m, em⟩ : ∃ m, m = gu ps w mv f := ⟨_, rfl⟩
  have D := AE G hw I hn w01 g0 g1 a0 a1;obtain ⟨z, ez⟩ : ∃ z : Int -> Option Int, z = if w = 1 then f0 else gu ps w mv f0 := ⟨_, rfl⟩
  obtain ⟨o, eo⟩ : ∃ o : Int -> Option Int, o = if w = 1 then gu ps w mv f1 else f1 := ⟨_, rfl⟩
  rw [<- ez, <- eo] at D;obtain ⟨K, e, wk, hring⟩ := tH G hw D.zg D.og D.all hs;obtain ⟨hin, hmark⟩ := xU G I D hs ew.symm wk;have hK := qw (S := fun x => x ∈ ids ps.length) (fun _ h => h) (fun x h => qD G D.zg D.og D.all h) hs wk.nd;have he := wk.lt;have hrl : (dD (gt ps z o) s K e).length <= 1000 := by rw [dU]; omega
  have hrn : dD (gt ps z o) s K e ≠ [] := by
    intro q;have := dU (gt ps z o) s K e;rw [q] at this;simp at this;omega
  have hri : ∀ x ∈ dD (gt ps z o) s K e, x ∈ ids ps.length := fun x hx => by
    obtain ⟨j, _, _, ej⟩ := pT hx;rw [<- ej];exact (hin j).1
  obtain ⟨h, hj, _, hj2, hj3⟩ := wY hrl hrn hri (wk.ring fun j => oB D.zg D.og D.all (hin j).1);have hpar := hmark h hj2 hj3;rw [hpar] at hj;obtain ⟨c9', c10', c11', hmn⟩ := uY (a := a) (k4 := k4) (d5 := d5) (ps := ps) (win := win) (mv := mv) (f := f) (s := s) (w := w) (c12 := c12) (c13 := c13) (c14 := c14) (ids ps.length) [] c9 c10 c11 (fun x hx => bU.mp hx) (by rw [qR]; simp; omega);rw [<- em, List.nil_append] at hmn;have hz3 : fO (ps.map P4.d) (cg (fun i => oD (mv i)) ps.length) (cg (fun i => oD (f i)) ps.length) = (ids ps.length).map fun i => .tuple [i9 ps i, oD (mv i), oD (f i)] := by
    rw [tX];exact sF _ _ _ _
  obtain ⟨d12, e12⟩ : ∃ d12 : PyData, d12 = .list [oT z ps.length, oT o ps.length] := ⟨_, rfl⟩
  refine ⟨.val (.int w), .own (.list (cg (fun i => oD (m i)) ps.length)), c9', c10', c11', .val d12, .val (.tuple ((qB (gt ps z o) s K e).map .int)), .val (.tuple ((dD (gt ps z o) s K e).map .int)), ?_⟩;unfold DZ;rw [aJ (ρ' := kV a ps win mv k4 d5 s (.val (.int w)) c8 c9 c10 c11 c12 c13 c14) (by
    simp only [bp, bj, am, ak, R.ok_bind, mQ s0 s1, oD];rw [<- ew];rfl)]
  rw [aJ (ρ' := kV a ps win mv k4 d5 s (.val (.int w)) (.own (.list [])) c9 c10 c11 c12 c13 c14) (by rfl)];rw [aJ (ρ' := kV a ps win mv k4 d5 s (.val (.int w)) (.own (.list (cg (fun i => oD (m i)) ps.length))) c9' c10' c11' c12 c13 c14) (by
    rw [eI, fH, xZ];simp only [bj, am, ak, R.ok_bind, xw, BO, hz3];rw [hmn];rfl)]
  have hfin : (lH (tE (e2 (iX) (ad 7) (eC (.int 1)))) (bQ 12 (la (af (e2 bx (ad 5) (eC (.int 0))) (af (e1 cs (cW 8)) aI)))) dC) (kV a ps win mv k4 d5 s (.val (.int w)) (.own (.list (cg (fun i => oD (m i)) ps.length))) c9' c10' c11' (.val (.list [oT m ps.length, oT f1 ps.length])) c13 c14) = .ok (.nx (kV a ps win mv k4 d5 s (.val (.int w)) (.own (.list (cg (fun i => oD (m i)) ps.length))) c9' c10' c11' (.val d12) c13 c14)) := by
    simp only [du, cv, bj, am, ak, bB, R.ok_bind, fL, cK];rcases w01 with q | q
    · rw [decide_eq_false (by omega), if_neg (by simp), e12, ez, eo, em, ef, if_neg (show ¬ w = 1 by omega), if_neg (show ¬ w = 1 by omega), if_neg (show ¬ w = 1 by omega)];rfl
    · rw [decide_eq_true q, if_pos rfl];simp only [bp, vA, aL, aP, bW, bj, gX, gP, am, ak, bB, R.ok_bind, x0, jd];rw [if_pos (by show 2 <= _; decide), e12, ez, eo, em, ef, if_pos q, if_pos q, if_pos q];rfl
  rw [aJ (ρ' := kV a ps win mv k4 d5 s (.val (.int w)) (.own (.list (cg (fun i => oD (m i)) ps.length))) c9' c10' c11' (.val (.list [oT m ps.length, oT f1 ps.length])) c13 c14) (by
    simp only [bp, vA, aL, aP, bW, bj, gX, gP, am, ak, bB, R.ok_bind, x1, jd];rw [if_pos (by show 2 <= _; decide)];rfl)]
  rw [aJ hfin];rw [aJ (ρ' := kV a ps win mv k4 d5 s (.val (.int w)) (.own (.list (cg (fun i => oD (m i)) ps.length))) c9' c10' c11' (.val d12) (.val (.tuple ((qB (gt ps z o) s K e).map .int))) (.val (.tuple ((dD (gt ps z o) s K e).map .int)))) (by
    have y0 : bx d12 (.int 0) = .ok (oT z ps.length) := by rw [e12]; rfl
    have y1 : bx d12 (.int 1) = .ok (oT o ps.length) := by rw [e12]; rfl
    rw [pH _ _ _ _ (.tuple ((qB (gt ps z o) s K e).map .int)) (.tuple ((dD (gt ps z o) s K e).map .int)) (by
      simp only [aX, aL, aP, bj, am, ak, bB, R.ok_bind, y0, y1, hring])]
    rfl)]
  have hpl : (qB (gt ps z o) s K e).map PyData.int ++ (dD (gt ps z o) s K e).map .int = (kg (gt ps z o) s K).map .int := by
    rw [<- List.map_append];unfold qB dD;rw [List.take_append_drop]
  have hc := eO (e2 (iX) (e2 bx (ad 1) (ad 0)) (ad 2)) [.non, .val (oT (fun i => some (win i)) ps.length), .val (.int w)] 0 (fun _ => .bool true) ((kg (gt ps z o) s K).map .int) fun d hd => by
    obtain ⟨i, hi, rfl⟩ := List.mem_map.mp hd;obtain ⟨j, _, ej⟩ := jW.mp hi;obtain ⟨q1, q2⟩ := hin j;rw [ej] at q1 q2;obtain ⟨i0, i1⟩ := bU.mp q1;simp only [List.set_cons_zero, bj, ak, am, R.ok_bind, mQ i0 i1, oD, fL, decide_eq_true q2]
  have hd : lT (.list (((kg (gt ps z o) s K).map PyData.int).map fun _ => .bool true)) = .ok (.bool true) := by
    show (match D2.lE (((kg (gt ps z o) s K).map PyData.int).map fun _ => PyData.bool true) with | some k => R.ok (PyData.bool k) | none => .no) = _;rw [nG (fun _ => true)];simp
  have hcond : (ip (tE (e1 lT (bL (eA (e2 fQ (ad 13) (ad 14))) 1 [2, 7] (aS 0) (fun _ => .ok true) (e2 (iX) (e2 bx (ad 1) (ad 0)) (ad 2)))))) (kV a ps win mv k4 d5 s (.val (.int w)) (.own (.list (cg (fun i => oD (m i)) ps.length))) c9' c10' c11' (.val d12) (.val (.tuple ((qB (gt ps z o) s K e).map .int))) (.val (.tuple ((dD (gt ps z o) s K e).map .int)))) = .ok false := by
    rw [fS, cv, bW, bi];simp only [bY, bj, am, ak, R.ok_bind, xD];rw [if_pos (by rw [<- List.length_append, hpl, List.length_map, dw]; exact bD (by omega)), hpl];simp only [R.ok_bind, cH, cf];rw [if_pos (by rw [List.length_map, dw]; exact bD (by omega))];rw [show aB 1 [2, 7] (kV a ps win mv k4 d5 s (.val (.int w)) (.own (.list (cg (fun i => oD (m i)) ps.length))) c9' c10' c11' (.val d12) (.val (.tuple ((qB (gt ps z o) s K e).map .int))) (.val (.tuple ((dD (gt ps z o) s K e).map .int)))) = [.non, .val (oT (fun i => some (win i)) ps.length), .val (.int w)] from rfl];rw [hc, gZ, R.ok_bind, hd];rfl
  rw [du, jZ, hcond, R.ok_bind];simp only [Bool.false_eq_true, if_false, cv, bj, aX, aL, aP, am, ak, R.ok_bind, hj, sh, cK, decide_true];rfl
theorem vF : ∀ (is : List Int) (c6 c7 c8 c9 c10 c11 c12 c13 c14 : ba), (∀ x ∈ is, x ∈ ids ps.length) ->
    ∃ c6' c7' c8' c9' c10' c11' c12' c13' c14', eS (aS 6) DZ (is.map .int) [.val a, .val (gD ps), .val (oT (fun i => some (win i)) ps.length), .val (oT mv ps.length), .val k4, .val (.list [oT f0 ps.length, oT f1 ps.length]), c6, c7, c8, c9, c10, c11, c12, c13, c14] = .ok (.nx [.val a, .val (gD ps), .val (oT (fun i => some (win i)) ps.length), .val (oT mv ps.length), .val k4, .val (.list [oT f0 ps.length, oT f1 ps.length]), c6', c7', c8', c9', c10', c11', c12', c13', c14'])
  | [], c6, c7, c8, c9, c10, c11, c12, c13, c14, _ => ⟨c6, c7, c8, c9, c10, c11, c12, c13, c14, by rw [List.map_nil, fT]⟩
  | i :: is, c6, c7, c8, c9, c10, c11, c12, c13, c14, hb => by
    obtain ⟨d7, d8, d9, d10, d11, d12, d13, d14, e⟩ := CC (a := a) (k4 := k4) G hw I hn g0 g1 a0 a1 (hb i List.mem_cons_self) c7 c8 c9 c10 c11 c12 c13 c14;obtain ⟨c6', c7', c8', c9', c10', c11', c12', c13', c14', e'⟩ := vF is (.val (.int i)) d7 d8 d9 d10 d11 d12 d13 d14 fun x hx => hb x (List.mem_cons_of_mem _ hx)
    refine ⟨c6', c7', c8', c9', c10', c11', c12', c13', c14', ?_⟩;rw [List.map_cons, eP];rw [show (([.val a, .val (gD ps), .val (oT (fun i => some (win i)) ps.length), .val (oT mv ps.length), .val k4, .val (.list [oT f0 ps.length, oT f1 ps.length]), c6, c7, c8, c9, c10, c11, c12, c13, c14] : aN).set 6 (.val (.int i))) = kV a ps win mv k4 (.list [oT f0 ps.length, oT f1 ps.length]) i c7 c8 c9 c10 c11 c12 c13 c14 from rfl];rw [e, R.ok_bind, dh, e']
end
def Eu : Fs := (aU (bQ 5 (bL (eA (qx (af (eC (.int 0)) (af (eC (.int 1)) aI)))) 1 [1, 0, 4] (aS 0) (fun _ => .ok true) (aH cc (af (ad 1) (af (ad 0) (af (aH aA (af (aH bf (af (ad 2) (af (eC (.int 1)) aI))) (af (ad 3) aI))) (af (eC (.int 0)) aI))))))) (h9 (jc (ic (af (e1 dE (ad 1)) aI)) (aS 6) DZ)))
theorem vm {ns : List Int} {ps : List P4} (G : Gr ps) (hw : ∀ i ∈ ids ps.length, aj ps i = 0 \/ aj ps i = 1) {win : Int -> Int} {mv : Int -> Option Int} (I : tM ps (ids ps.length) win mv) (hn : ∀ i, i ∉ ids ps.length -> mv i = none) : ∀ (is : List Int) (c4 c5 c6 c7 c8 c9 c10 c11 c12 c13 c14 : ba),
    ∃ ρ, eS (aS 4) Eu (is.map .int) [.val (rn ns), .val (gD ps), .val (oT (fun i => some (win i)) ps.length), .val (oT mv ps.length), c4, c5, c6, c7, c8, c9, c10, c11, c12, c13, c14] = .ok (.nx ρ)
  | [], c4, c5, c6, c7, c8, c9, c10, c11, c12, c13, c14 => ⟨_, by rw [List.map_nil, fT]⟩
  | k :: is, c4, c5, c6, c7, c8, c9, c10, c11, c12, c13, c14 => by
    have hp := G.hp;have hne : ∀ i ∈ ids ps.length, aw ps i ≠ [] := fun i hi z => by
      obtain ⟨h0, h1⟩ := bU.mp hi;obtain ⟨g, hg⟩ := G.gne h0 h1;rw [z] at hg;cases hg
    obtain ⟨v1, hv1, _, _⟩ := nN ns (k := 1) (by omega);obtain ⟨v2, hv2, _, _⟩ := ls v1 k;obtain ⟨f0, e0, g0, _, a0⟩ := pN hp hne 0 v2 0;obtain ⟨f1, e1', g1, _, a1⟩ := pN hp hne 1 v2 0;have hlen : dE (gD ps) = .ok (.int ps.length) := by simp
    have hr1 : pC [.int (ps.length : Int)] = .ok (bG 0 ps.length) := by rw [Bi (by omega) (by omega), Int.toNat_natCast]
    have hrm : bG 0 ps.length = (ids ps.length).map .int := ky _;obtain ⟨d6, d7, d8, d9, d10, d11, d12, d13, d14, e⟩ := vF (a := rn ns) (k4 := .int k) G hw I hn g0 g1 (a0 rfl) (a1 rfl) (ids ps.length) c6 c7 c8 c9 c10 c11 c12 c13 c14 fun x hx => hx
    obtain ⟨ρ, e'⟩ := vm (ns := ns) G hw I hn is (.val (.int k)) (.val (.list [oT f0 ps.length, oT f1 ps.length])) d6 d7 d8 d9 d10 d11 d12 d13 d14;refine ⟨ρ, ?_⟩;rw [List.map_cons, eP];rw [show (([.val (rn ns), .val (gD ps), .val (oT (fun i => some (win i)) ps.length), .val (oT mv ps.length), c4, c5, c6, c7, c8, c9, c10, c11, c12, c13, c14] : aN).set 4 (.val (.int k))) = [.val (rn ns), .val (gD ps), .val (oT (fun i => some (win i)) ps.length), .val (oT mv ps.length), .val (.int k), c5, c6, c7, c8, c9, c10, c11, c12, c13, c14] from rfl];have hb1 : Eu [.val (rn ns), .val (gD ps), .val (oT (fun i => some (win i)) ps.length), .val (oT mv ps.length), .val (.int k), c5, c6, c7, c8, c9, c10, c11, c12, c13, c14] = .ok (.nx [.val (rn ns), .val (gD ps), .val (oT (fun i => some (win i)) ps.length), .val (oT mv ps.length), .val (.int k), .val (.list [oT f0 ps.length, oT f1 ps.length]), d6, d7, d8, d9, d10, d11, d12, d13, d14]) := by
      unfold Eu;rw [aJ (ρ' := [.val (rn ns), .val (gD ps), .val (oT (fun i => some (win i)) ps.length), .val (oT mv ps.length), .val (.int k), .val (.list [oT f0 ps.length, oT f1 ps.length]), c6, c7, c8, c9, c10, c11, c12, c13, c14]) (by
        rw [bp, bi, show aB 1 [1, 0, 4] [.val (rn ns), .val (gD ps), .val (oT (fun i => some (win i)) ps.length), .val (oT mv ps.length), .val (.int k), c5, c6, c7, c8, c9, c10, c11, c12, c13, c14] = [.non, .val (gD ps), .val (rn ns), .val (.int k)] from rfl];simp only [bY, nE, aL, aP, bB, R.ok_bind];rw [if_pos (by show 2 <= _; decide), R.ok_bind, cH, cf, R.ok_bind, if_pos (by show 2 <= _; decide), eL, eL, cB];simp only [List.set_cons_zero, aX, aL, aP, ak, am, bB, R.ok_bind, if_true, hv1, hv2, e0, e1', gZ];rfl)]
      rw [eI, fH, l4];simp only [aL, aP, bW, am, ak, R.ok_bind, hlen, hr1, hrm];rw [e];rfl
    rw [hb1, R.ok_bind, dh, e']
theorem yp (c : Addr) : yf (vB c) := by
  intro ns hns;obtain ⟨ps, hi, hgr, hpl, hp1, hp24, hi0, hi12⟩ := uu ns (most := 24) (by omega) (by omega);have G : Gr ps := D1 hpl hp24;have hp := G.hp;have hw := vZ G;have hall : ∀ i ∈ ids ps.length, (aj ps i = 0 \/ aj ps i = 1) /\ 0 <= aD ps i /\ aD ps i < 13 := fun i hi' => by
    obtain ⟨h0, h1⟩ := bU.mp hi';have P := hpl _ (List.getElem_mem (show i.toNat < ps.length by omega));rw [gv h0 h1, jK h0 h1];have := P.w0;have := P.w1;have := P.m0;have := P.m1;omega
  obtain ⟨win, mv, hwon, I, hn⟩ := Cf G hw (c := c) hall;obtain ⟨ρ, hloop⟩ := vm (ns := ns) G (fun i h => (hall i h).1) I hn [0, 1, 2, 3] .non .non .non .non .non .non .non .non .non .non .non;have hr4 : pC [.int 4] = .ok ([(0 : Int), 1, 2, 3].map .int) := rfl;unfold vB yD;refine dY ?_;rw [show ([rn ns].map ba.val ++ List.replicate (15 - [rn ns].length) ba.non) = [.val (rn ns), .non, .non, .non, .non, .non, .non, .non, .non, .non, .non, .non, .non, .non, .non] from rfl];rw [aJ (ρ' := [.val (rn ns), .val (gD ps), .non, .non, .non, .non, .non, .non, .non, .non, .non, .non, .non, .non, .non]) (by
    simp only [bp, aX, aL, aP, ak, bB, R.ok_bind, hgr]; rfl)]
  rw [aJ (ρ' := [.val (rn ns), .val (gD ps), .val (oT (fun i => some (win i)) ps.length), .val (oT mv ps.length), .non, .non, .non, .non, .non, .non, .non, .non, .non, .non, .non]) (by
    rw [pH _ _ _ _ (oT (fun i => some (win i)) ps.length) (oT mv ps.length) (by simp only [aX, aL, aP, ak, am, R.ok_bind, hwon])];rfl)]
  rw [aJ (ρ' := ρ) (by
    rw [eI, fH, l4];simp only [aL, aP, bB, R.ok_bind, hr4];unfold Eu DZ DR at hloop;rw [hloop];rfl)]
  rfl
def CY : List Stmt := PySem.Challenge.pw_duelground_k51_whole_plays.main.body
abbrev top (i : Nat) : Stmt := CY.getD i (.Pass ⟨0, 0, 0, 0⟩)
abbrev jI : Stmt := top 40
abbrev iR : Stmt := top 45
abbrev hV : Stmt := top 38
abbrev jl : Stmt := top 39
abbrev jC : Stmt := top 41
abbrev jF : Stmt := top 42
abbrev gj : Stmt := top 43
abbrev kM : Stmt := top 8
abbrev iS : Stmt := top 9
abbrev dO : Stmt := top 13
abbrev il : Stmt := top 16
abbrev lb : Stmt := top 17
abbrev lX : Stmt := top 10
abbrev gT : Stmt := top 11
abbrev dB : Stmt := top 14
abbrev lL : Stmt := top 15
abbrev iP : Stmt := top 20
abbrev iH : Stmt := top 25
abbrev eF : Stmt := top 24
abbrev lh : Stmt := top 31
abbrev dj : Stmt := top 32
abbrev ld : Stmt := top 21
abbrev gW : Stmt := top 29
abbrev eJ : Stmt := top 30
abbrev iN : Stmt := top 23
abbrev fY : Stmt := top 26
abbrev j8 : Stmt := top 22
abbrev cA : Stmt := top 34
abbrev cR : Stmt := top 27
abbrev fE : Stmt := top 35
abbrev yN : Stmt := top 36
abbrev jB : Stmt := top 46
section
variable {P : Program} {w : World} {K : PySem.W.Frag} {mg : Str -> Option Value} {base : Heap} {f : Addr} {fd : FuncData} {k : Nat}
abbrev jQ : Stmt := At (top 19) 0
theorem zD : aR ["self", "who", "places", "moves"] ["self", "who", "places", "moves"] (ah jQ) := ⟨rfl, rfl, rfl, by decide +kernel, rfl, by decide +kernel, by decide +kernel⟩
theorem AQ {P : Program} {w : World} {K : PySem.W.Frag} {mg : Str -> Option Value} {base : Heap} {f C : Addr} {fd : FuncData} (F : ie K "__init__" "Share.__init__" jQ f fd) (cl : v8 K C) (n0 : dG K C "who") (n1 : dG K C "places") (n2 : dG K C "moves") :
    aY P w K mg base (cI P w mg) 1 f fd ["self", "who", "places", "moves"] (DN C ["who", "places", "moves"]) := by
  obtain ⟨oc, od, kV, doc, pm, an, cdv, ct, osl, rfl, lk, hcd⟩ := F.ex;refine xR (k := 0) lk hcd zD (fun vs H Q E h => ?_) fun A outer s H vs Q E hr h => ?_
  · obtain ⟨x, dx, ws, rfl, _, hl, _⟩ := h;rw [List.length_cons, hl];rfl
  · obtain ⟨x, dx, ws, rfl, hx, hl, k⟩ := h
    match ws, hl with
    | [w1, w2, w3], _ =>
      refine ⟨_, nQ (tY (pv 0) (pv 1) rfl) (nQ (tY (pv 0) (pv 2) rfl) (vK (tY (pv 0) (pv 3) rfl))), ?_⟩;refine ⟨_, rfl, _, rfl, x, C, dx, [], rfl, hx, cl, n0, (by show 0 < 1000; decide), _, rfl, _, rfl, x, C, dx, _, rfl, bd, cl, n1, (by show 1 < 1000; decide), _, rfl, _, rfl, x, C, dx, _, rfl, bd, cl, n2, (by refine Nat.lt_of_le_of_lt (hJ _ _ _) ?_; exact Nat.lt_of_le_of_lt (Nat.succ_le_succ (hJ _ _ _)) (by show 2 < 1000; decide)), ?_⟩;refine k _ (by rw [bd, Dx (by decide +kernel) (by decide +kernel) (by decide +kernel)]; rfl) fun b hb => ?_
      rw [au hb, au hb, au hb]
theorem rT : aR ["_law_number", "_law_k", "_law_drawn_here"] ["_law_number", "_law_k"] (ah jI) := ⟨rfl, rfl, rfl, by decide +kernel, rfl, by decide +kernel, by decide +kernel⟩
theorem rA (W : ie K "_law_drawn" "_law_drawn" jI f fd) :
    aY P w K mg base (cI P w mg) (k + 1) f fd ["_law_number", "_law_k"] (di (dF 3 (ju)) 2) := by
  refine Z.fn_dataT W rT (G := []) (by decide +kernel) fun cdv A outer s H E hr T => ?_
  exact (Z.ao (Z.bt T 2 rfl (Z.cU (Z.ai.b (Z.gH (Z.ai.b (Z.dL (Z.ai.b (Z.dL (Z.ai.b (Z.aa T 0 rfl)) (Z.ai.b (Z.gH (Z.ai.b Z.ar) (Z.ai.b (Z.aa T 1 rfl)))))) (Z.ai.b Z.ar))) (Z.ai.b Z.ar))) (Z.ai.b Z.ar)))
      (Z.aF (Z.bg (Z.cU (Z.ai.b (Z.dL (Z.ai.b (Z.dL (Z.ai.b (Z.gH (Z.ai.b (Z.aa T 2 rfl)) (Z.ai.b (Z.aa T 2 rfl)))) (Z.ai.b (Z.gH (Z.ai.b Z.ar) (Z.ai.b (Z.aa T 2 rfl)))))) (Z.ai.b (Z.aa T 1 rfl)))) (Z.ai.b Z.ar)))))
theorem qO : aR ["_law_ground_here", "_law_who", "_law_number", "_law_share", "_law_found", "_law_k", "_law_place_here", "_law_drawn_here"] ["_law_ground_here", "_law_who", "_law_number", "_law_share"] (ah iR) := ⟨rfl, rfl, rfl, by decide +kernel, rfl, by decide +kernel, by decide +kernel⟩
theorem qp (W : ie K "_law_choice" "_law_choice" iR f fd) {f26 : Addr} {d26 : FuncData} {aA : gI} (C26 : gJ P w K mg base k "_law_drawn" ["_law_number", "_law_k"] aA f26 d26) (b_enumerate : mg "enumerate" = none) (b_len : mg "len" = none) (b_tuple : mg "tuple" = none) :
    aY P w K mg base (cI P w mg) (k + 1) f fd ["_law_ground_here", "_law_who", "_law_number", "_law_share"] (di (dF 8 (iY aA)) 4) := by
  refine Z.fn_dataT W qO (G := ["enumerate", "_law_drawn", "len", "tuple"]) (by decide +kernel) fun cdv A outer s H E hr T => ?_
  exact (Z.ao (Z.iW T 4 rfl (Z.gk Z.ay))
      (Z.ao (Z.de (have T := T.nox; Z.fZ PassesOwn.never T.calm (Z.iK T 0 rfl b_enumerate (Z.aa T 0 rfl)) (Z.eG T 5 6 rfl rfl) (Z.ao (Z.bt T 7 rfl (Z.aO C26 hr T 1 rfl (Z.ag (Z.aa T 2 rfl) (Z.ag (Z.aa T 5 rfl) Z.ay)) rfl (ae (ae aq))))
      (Z.aF (Z.eV (Z.l9.t (Z.je (Z.md T.hu (Z.ai.b (Z.bn T.hu (Z.ai.b (Z.aa T 6 rfl)) (Z.ai.b Z.ar) (fun _ _ => rfl))) (Z.ai.b (Z.aa T 1 rfl))) (Z.gR (Z.l9.t (Z.nJ (Z.l8 (Z.ai.b (Z.aa T 3 rfl)) (Z.ai.b Z.ar)) (Z.lu (Z.fi T.hu (Z.ai.b (Z.cU (Z.ai.b (Z.aa T 7 rfl)) (Z.ai.b (Z.aa T 3 rfl)))) (Z.ai.b Z.ar)))))))) (Z.aF (Z.eQ T 4 rfl Z.da)) (Z.aF (Z.eQ T 4 rfl (Z.bn T.hu (Z.ai.b (Z.bn T.hu (Z.ai.b (Z.aa T 6 rfl)) (Z.ai.b Z.ar) (fun _ _ => rfl))) (Z.ai.b (Z.cU (Z.ai.b (Z.iM (Z.ai.b (Z.aa T 7 rfl)) (Z.ai.b Z.ar))) (Z.ai.b (Z.dq T 2 rfl b_len (Z.ai.b (Z.bn T.hu (Z.ai.b (Z.aa T 6 rfl)) (Z.ai.b Z.ar) (fun _ _ => rfl))))))) (fun _ _ => rfl)))))))))
      (Z.aF (Z.bg (Z.bN T 3 rfl b_tuple (Z.cC T 4 rfl))))))
theorem ph : aR ["_law_script", "_law_k"] ["_law_script", "_law_k"] (ah hV) := ⟨rfl, rfl, rfl, by decide +kernel, rfl, by decide +kernel, by decide +kernel⟩
theorem pe (W : ie K "_law_cell_at" "_law_cell_at" hV f fd) (b_len : mg "len" = none) :
    aY P w K mg base (cI P w mg) (k + 1) f fd ["_law_script", "_law_k"] (di (dF 2 (ia)) 2) := by
  refine Z.fn_dataT W ph (G := ["len"]) (by decide +kernel) fun cdv A outer s H E hr T => ?_
  exact (Z.ao (Z.eV (Z.tS (Z.ai.b (Z.aa T 1 rfl)) (Z.ai.b (Z.dq T 0 rfl b_len (Z.ai.b (Z.aa T 0 rfl))))) (Z.aF (Z.bg (Z.bn T.hu (Z.ai.b (Z.aa T 0 rfl)) (Z.ai.b (Z.aa T 1 rfl)) (fun _ _ => rfl)))) Z.dI)
      (Z.aF (Z.bg Z.ar)))
theorem sx : aR ["_law_script", "_law_k", "_law_drawn_here"] ["_law_script", "_law_k"] (ah jl) := ⟨rfl, rfl, rfl, by decide +kernel, rfl, by decide +kernel, by decide +kernel⟩
theorem sV (W : ie K "_law_mixed" "_law_mixed" jl f fd) {f24 : Addr} {d24 : FuncData} {ce : gI} (C24 : gJ P w K mg base k "_law_cell_at" ["_law_script", "_law_k"] ce f24 d24) :
    aY P w K mg base (cI P w mg) (k + 1) f fd ["_law_script", "_law_k"] (di (dF 3 (jJ ce)) 2) := by
  refine Z.fn_dataT W sx (G := ["_law_cell_at"]) (by decide +kernel) fun cdv A outer s H E hr T => ?_
  exact (Z.ao (Z.bt T 2 rfl (Z.cU (Z.ai.b (Z.gH (Z.ai.b (Z.dL (Z.ai.b (Z.dL (Z.ai.b (Z.aO C24 hr T 0 rfl (Z.ag (Z.aa T 0 rfl) (Z.ag (Z.aa T 1 rfl) Z.ay)) rfl (ae (ae aq)))) (Z.ai.b (Z.gH (Z.ai.b Z.ar) (Z.ai.b (Z.aa T 1 rfl)))))) (Z.ai.b Z.ar))) (Z.ai.b Z.ar))) (Z.ai.b Z.ar)))
      (Z.aF (Z.bg (Z.cU (Z.ai.b (Z.dL (Z.ai.b (Z.dL (Z.ai.b (Z.gH (Z.ai.b (Z.aa T 2 rfl)) (Z.ai.b (Z.aa T 2 rfl)))) (Z.ai.b (Z.gH (Z.ai.b Z.ar) (Z.ai.b (Z.aa T 2 rfl)))))) (Z.ai.b (Z.aa T 1 rfl)))) (Z.ai.b Z.ar)))))
theorem sO : aR ["_law_number", "_law_count", "_law_found", "_law_k"] ["_law_number", "_law_count"] (ah jC) := ⟨rfl, rfl, rfl, by decide +kernel, rfl, by decide +kernel, by decide +kernel⟩
theorem rQ (W : ie K "_law_goals" "_law_goals" jC f fd) {f26 : Addr} {d26 : FuncData} {aA : gI} (C26 : gJ P w K mg base k "_law_drawn" ["_law_number", "_law_k"] aA f26 d26) (b_int : mg "int" = none) (b_range : mg "range" = none) (b_sorted : mg "sorted" = none) (b_tuple : mg "tuple" = none) :
    aY P w K mg base (cI P w mg) (k + 1) f fd ["_law_number", "_law_count"] (di (dF 4 (jt aA)) 2) := by
  refine Z.fn_dataT W sO (G := ["range", "int", "_law_drawn", "tuple", "sorted"]) (by decide +kernel) fun cdv A outer s H E hr T => ?_
  exact (Z.ao (Z.iW T 2 rfl Z.mC)
      (Z.ao (Z.de (have T := T.nox; Z.fZ PassesOwn.never T.calm (Z.fB T 0 rfl b_range (Z.ag (Z.dL (Z.ai.b (Z.dL (Z.ai.b Z.ar) (Z.ai.b (Z.cU (Z.ai.b (Z.aa T 0 rfl)) (Z.ai.b Z.ar))))) (Z.ai.b (Z.gH (Z.ai.b Z.ar) (Z.ai.b (Z.rj T 1 rfl b_int (Z.ai.b (Z.su T.hu (Z.ai.b (Z.cU (Z.ai.b (Z.iM (Z.ai.b (Z.aa T 0 rfl)) (Z.ai.b Z.ar))) (Z.ai.b Z.ar))) (Z.ai.b Z.ar)))))))) Z.ay) (ae aq)) (Z.bz T 3 rfl) (Z.aF (Z.uH T 2 rfl (Z.cU (Z.ai.b (Z.aO C26 hr T 2 rfl (Z.ag (Z.aa T 0 rfl) (Z.ag (Z.aa T 3 rfl) Z.ay)) rfl (ae (ae aq)))) (Z.ai.b (Z.aa T 1 rfl))) Z.hR))))
      (Z.aF (Z.bg (Z.bN T 3 rfl b_tuple (Z.gg.b (Z.kK T 4 rfl b_sorted (Z.cC T 2 rfl))))))))
theorem sS : aR ["_law_number", "_law_count", "_law_high", "_law_gain"] ["_law_number", "_law_count", "_law_high"] (ah jF) := ⟨rfl, rfl, rfl, by decide +kernel, rfl, by decide +kernel, by decide +kernel⟩
theorem sr (W : ie K "_law_place" "_law_place" jF f fd) {f26 : Addr} {d26 : FuncData} {aA : gI} (C26 : gJ P w K mg base k "_law_drawn" ["_law_number", "_law_k"] aA f26 d26) {f27 : Addr} {d27 : FuncData} {cL : gI} (C27 : gJ P w K mg base k "_law_goals" ["_law_number", "_law_count"] cL f27 d27) :
    aY P w K mg base (cI P w mg) (k + 1) f fd ["_law_number", "_law_count", "_law_high"] (di (dF 4 (jk aA cL)) 3) := by
  refine Z.fn_dataT W sS (G := ["_law_goals", "_law_drawn"]) (by decide +kernel) fun cdv A outer s H E hr T => ?_
  exact (Z.ao (Z.bt T 3 rfl (Z.kz (Z.ai.b (Z.cU (Z.ai.b (Z.iM (Z.ai.b (Z.aa T 0 rfl)) (Z.ai.b Z.ar))) (Z.ai.b Z.ar))) (Z.ai.b Z.ar)))
      (Z.ao (Z.eV (Z.fi T.hu (Z.ai.b (Z.cU (Z.ai.b (Z.iM (Z.ai.b (Z.aa T 0 rfl)) (Z.ai.b Z.ar))) (Z.ai.b Z.ar))) (Z.ai.b Z.ar)) (Z.aF (Z.bt T 3 rfl (Z.kz (Z.ai.b (Z.cU (Z.ai.b (Z.iM (Z.ai.b (Z.aa T 0 rfl)) (Z.ai.b Z.ar))) (Z.ai.b Z.ar))) (Z.ai.b Z.ar)))) Z.dI)
      (Z.aF (Z.bg (Z.kD (Z.ag (Z.cU (Z.ai.b (Z.aa T 0 rfl)) (Z.ai.b Z.ar)) (Z.ag (Z.cU (Z.ai.b (Z.iM (Z.ai.b (Z.aa T 0 rfl)) (Z.ai.b Z.ar))) (Z.ai.b (Z.dL (Z.ai.b (Z.aa T 2 rfl)) (Z.ai.b Z.ar)))) (Z.ag (Z.aa T 3 rfl) (Z.ag (Z.aO C27 hr T 0 rfl (Z.ag (Z.aO C26 hr T 1 rfl (Z.ag (Z.aa T 0 rfl) (Z.ag Z.ar Z.ay)) rfl (ae (ae aq))) (Z.ag (Z.aa T 1 rfl) Z.ay)) rfl (ae (ae aq))) Z.ay)))))))))
theorem qV : aR ["_law_script", "_law_most", "_law_number", "_law_count", "_law_high"] ["_law_script", "_law_most"] (ah gj) := ⟨rfl, rfl, rfl, by decide +kernel, rfl, by decide +kernel, by decide +kernel⟩
theorem qM (W : ie K "_law_ground" "_law_ground" gj f fd) {f25 : Addr} {d25 : FuncData} {bf : gI} (C25 : gJ P w K mg base k "_law_mixed" ["_law_script", "_law_k"] bf f25 d25) {f28 : Addr} {d28 : FuncData} {cz : gI} (C28 : gJ P w K mg base k "_law_place" ["_law_number", "_law_count", "_law_high"] cz f28 d28) (b_len : mg "len" = none) (b_max : mg "max" = none) (b_min : mg "min" = none) (b_range : mg "range" = none) (b_tuple : mg "tuple" = none) :
    aY P w K mg base (cI P w mg) (k + 1) f fd ["_law_script", "_law_most"] (di (dF 5 (iV bf cz)) 2) := by
  refine Z.fn_dataT W qV (G := ["_law_mixed", "min", "max", "len", "tuple", "range"]) (by decide +kernel) fun cdv A outer s H E hr T => ?_
  exact (Z.ao (Z.bt T 2 rfl (Z.aO C25 hr T 0 rfl (Z.ag (Z.aa T 0 rfl) (Z.ag Z.ar Z.ay)) rfl (ae (ae aq))))
      (Z.ao (Z.bt T 3 rfl (Z.dL (Z.ai.b Z.ar) (Z.ai.b (Z.cU (Z.ai.b (Z.aa T 2 rfl)) (Z.ai.b (Z.uk T 1 rfl b_min (Z.ai.b (Z.aa T 1 rfl)) (Z.ai.b (Z.uo T 2 rfl b_max (Z.ai.b Z.ar) (Z.ai.b (Z.dq T 3 rfl b_len (Z.ai.b (Z.aa T 0 rfl))))))))))))
      (Z.ao (Z.bt T 4 rfl (Z.bn T.hu (Z.gg.b (Z.gk (Z.ag Z.ar (Z.ag Z.ar (Z.ag Z.ar (Z.ag Z.ar (Z.ag Z.ar (Z.ag Z.ar Z.ay)))))))) (Z.ai.b (Z.cU (Z.ai.b (Z.iM (Z.ai.b (Z.aa T 2 rfl)) (Z.ai.b Z.ar))) (Z.ai.b Z.ar))) (fun _ _ => rfl)))
      (Z.aF (Z.bg (Z.bN T 4 rfl b_tuple (Z.gg.b (Z.bC (N := ["_law_k", "_law_script", "_law_count", "_law_high"]) (own := 1) (G := ["_law_place", "_law_mixed"]) (fr := [0, 3, 4]) T rfl rfl (oN := ["_law_script", "_law_most", "_law_number", "_law_count", "_law_high"]) (on := (ah gj).names) (by decide +kernel) (Z.fB T 5 rfl b_range (Z.ag (Z.aa T 3 rfl) Z.ay) (ae aq)) (bI (by decide)) (fun cl C s' H' fp E' T => ⟨(Z.bz T 0 rfl), Z.dt, (Z.aO C28 hr T 0 rfl (Z.ag (Z.aO C25 hr T 1 rfl (Z.ag (Z.aa T 1 rfl) (Z.ag (Z.dL (Z.ai.b Z.ar) (Z.ai.b (Z.aa T 0 rfl))) Z.ay)) rfl (ae (ae aq))) (Z.ag (Z.aa T 2 rfl) (Z.ag (Z.aa T 3 rfl) Z.ay))) rfl (ae (ae (ae aq))))⟩)))))))))
theorem tq : aR ["thing"] ["thing"] (ah kM) := ⟨rfl, rfl, rfl, by decide +kernel, rfl, by decide +kernel, by decide +kernel⟩
theorem uE (W : ie K "is_whole" "is_whole" kM f fd) (b_bool : mg "bool" = none) (b_int : mg "int" = none) (b_isinstance : mg "isinstance" = none) :
    aY P w K mg base (cI P w mg) (k + 1) f fd ["thing"] (di (dF 1 (n9)) 1) := by
  refine Z.fn_dataT W tq (G := ["isinstance", "int", "bool"]) (by decide +kernel) fun cdv A outer s H E hr T => ?_
  exact (Z.aF (Z.bg (Z.nV (Z.kH T 0 rfl b_isinstance T 1 rfl b_int (Z.ai.b (Z.aa T 0 rfl))) (Z.me (Z.uG (Z.jA T 0 rfl b_isinstance T 2 rfl b_bool (Z.ai.b (Z.aa T 0 rfl))))))))
theorem rc : aR ["thing", "low", "high"] ["thing", "low", "high"] (ah iS) := ⟨rfl, rfl, rfl, by decide +kernel, rfl, by decide +kernel, by decide +kernel⟩
theorem qJ (W : ie K "is_between" "is_between" iS f fd) {f0 : Addr} {d0 : FuncData} {bT : gI} (C0 : gJ P w K mg base k "is_whole" ["thing"] bT f0 d0) :
    aY P w K mg base (cI P w mg) (k + 1) f fd ["thing", "low", "high"] (di (dF 3 (iE bT)) 3) := by
  refine Z.fn_dataT W rc (G := ["is_whole"]) (by decide +kernel) fun cdv A outer s H E hr T => ?_
  exact (Z.aF (Z.bg (Z.nV (Z.aO C0 hr T 0 rfl (Z.ag (Z.aa T 0 rfl) Z.ay) rfl (ae aq)) (Z.me (Z.nZ Bl ox Bl ox (Z.ai.b (Z.aa T 1 rfl)) (Z.ai.b (Z.aa T 0 rfl)) (Z.ai.b (Z.aa T 2 rfl)))))))
theorem jq : aR ["thing", "ground"] ["thing", "ground"] (ah dO) := ⟨rfl, rfl, rfl, by decide +kernel, rfl, by decide +kernel, by decide +kernel⟩
theorem jE (W : ie K "is_number_of_place" "is_number_of_place" dO f fd) {f1 : Addr} {d1 : FuncData} {cu : gI} (C1 : gJ P w K mg base k "is_between" ["thing", "low", "high"] cu f1 d1) (b_len : mg "len" = none) :
    aY P w K mg base (cI P w mg) (k + 1) f fd ["thing", "ground"] (di (dF 2 (dH cu)) 2) := by
  refine Z.fn_dataT W jq (G := ["is_between", "len"]) (by decide +kernel) fun cdv A outer s H E hr T => ?_
  exact (Z.aF (Z.bg (Z.aO C1 hr T 0 rfl (Z.ag (Z.aa T 0 rfl) (Z.ag Z.ar (Z.ag (Z.kz (Z.ai.b (Z.dq T 1 rfl b_len (Z.ai.b (Z.aa T 1 rfl)))) (Z.ai.b Z.ar)) Z.ay))) rfl (ae (ae (ae aq))))))
theorem wE : aR ["thing", "ground", "following"] ["thing", "ground"] (ah il) := ⟨rfl, rfl, rfl, by decide +kernel, rfl, by decide +kernel, by decide +kernel⟩
theorem vX (W : ie K "is_ring" "is_ring" il f fd) {f4 : Addr} {d4 : FuncData} {az : gI} (C4 : gJ P w K mg base k "is_number_of_place" ["thing", "ground"] az f4 d4) {t_GOALS : Tok} (g_GOALS : mg "GOALS" = some (.int 3 t_GOALS)) (b_all : mg "all" = none) (b_isinstance : mg "isinstance" = none) (b_len : mg "len" = none) (b_tuple : mg "tuple" = none) (b_zip : mg "zip" = none) :
    aY P w K mg base (cI P w mg) (k + 1) f fd ["thing", "ground"] (di (dF 3 (jT az)) 2) := by
  refine Z.fn_dataT W wE (G := ["isinstance", "tuple", "len", "all", "zip"]) (by decide +kernel) fun cdv A outer s H E hr T => ?_
  exact (Z.ao (Z.eV (Z.l9.t (Z.je (Z.fK (Z.e8 (Z.gm T 0 rfl b_isinstance T 1 rfl b_tuple (Z.ai.b (Z.aa T 0 rfl))))) (Z.gR (Z.fi T.hu (Z.ai.b (Z.dq T 2 rfl b_len (Z.ai.b (Z.aa T 0 rfl)))) (Z.ai.b Z.ar))))) (Z.aF (Z.bg Z.hR)) Z.dI)
      (Z.ao (Z.eV (Z.fK (Z.e8 (Z.lK T 3 rfl b_all (Z.gg.b (Z.bC (N := ["number", "ground"]) (own := 1) (G := ["is_number_of_place"]) (fr := [1]) T rfl rfl (oN := ["thing", "ground", "following"]) (on := (ah il).names) (by decide +kernel) (Z.cE (Z.aa T 0 rfl)) (bI (by decide)) (fun cl C s' H' fp E' T => ⟨(Z.bz T 0 rfl), Z.dt, (Z.aO C4 hr T 0 rfl (Z.ag (Z.aa T 0 rfl) (Z.ag (Z.aa T 1 rfl) Z.ay)) rfl (ae (ae aq)))⟩)))))) (Z.aF (Z.bg Z.hR)) Z.dI)
      (Z.ao (Z.bt T 2 rfl (Z.dL (Z.ai.b (Z.iy (Z.ai.b (Z.aa T 0 rfl)) (Z.jS Z.ar) Z.jO)) (Z.ai.b (Z.iy (Z.ai.b (Z.aa T 0 rfl)) Z.jO (Z.jS Z.ar)))))
      (Z.aF (Z.bg (Z.lK T 3 rfl b_all (Z.gg.b (Z.bC (N := ["number", "goal", "ground"]) (own := 2) (G := ["GOALS"]) (fr := [1]) T rfl rfl (oN := ["thing", "ground", "following"]) (on := (ah il).names) (by decide +kernel) (Z.oV T 4 rfl b_zip (Z.aa T 0 rfl) (Z.aa T 2 rfl)) (fq (by decide) (by decide)) (fun cl C s' H' fp E' T => ⟨(Z.eG T 0 1 rfl rfl), Z.dt, (Z.vG T.hu (Z.ai.b (Z.aa T 1 rfl)) (Z.ai.b (Z.bn T.hu (Z.ai.b (Z.bn T.hu (Z.ai.b (Z.aa T 2 rfl)) (Z.ai.b (Z.aa T 0 rfl)) (fun _ _ => rfl))) (Z.ai.b (Z.dA T 0 rfl g_GOALS)) (fun _ _ => rfl))) (by with_unfolding_all rfl))⟩)))))))))
theorem yd : aR ["ground", "ring"] ["ground", "ring"] (ah lb) := ⟨rfl, rfl, rfl, by decide +kernel, rfl, by decide +kernel, by decide +kernel⟩
theorem yC (W : ie K "judged" "judged" lb f fd) {f7 : Addr} {d7 : FuncData} {cT : gI} (C7 : gJ P w K mg base k "is_ring" ["thing", "ground"] cT f7 d7) {t_MARK : Tok} (g_MARK : mg "MARK" = some (.int 1 t_MARK)) (b_max : mg "max" = none) {c_NoPart : Addr} (m_NoPart : mg "NoPart" = some (.ref c_NoPart)) (q_NoPart : PySem.W.excIn K c_NoPart A0 zy = true) :
    aY P w K mg base (cI P w mg) (k + 1) f fd ["ground", "ring"] (di (dF 2 (o1 cT)) 2) := by
  refine Z.fn_dataT W yd (G := ["is_ring", "NoPart", "max"]) (by decide +kernel) fun cdv A outer s H E hr T => ?_
  exact (Z.ao (Z.eV (Z.fK (Z.e8 (Z.aO C7 hr T 0 rfl (Z.ag (Z.aa T 1 rfl) (Z.ag (Z.aa T 0 rfl) Z.ay)) rfl (ae (ae aq))))) (Z.aF (Z.iw T 1 rfl m_NoPart q_NoPart (have T := T.nox; Z.mw))) Z.dI)
      (Z.aF (Z.bg (Z.cU (Z.ai.b (Z.nC T 2 rfl b_max (Z.gg.b (Z.bC (N := ["number", "ground"]) (own := 1) (G := ["MARK"]) (fr := [0]) T rfl rfl (oN := ["ground", "ring"]) (on := (ah lb).names) (by decide +kernel) (Z.cE (Z.aa T 1 rfl)) (bI (by decide)) (fun cl C s' H' fp E' T => ⟨(Z.bz T 0 rfl), Z.dt, (Z.bn T.hu (Z.ai.b (Z.bn T.hu (Z.ai.b (Z.aa T 1 rfl)) (Z.ai.b (Z.aa T 0 rfl)) (fun _ _ => rfl))) (Z.ai.b (Z.dA T 0 rfl g_MARK)) (fun _ _ => rfl))⟩))))) (Z.ai.b Z.ar)))))
theorem wK : aR ["thing", "place"] ["thing", "place"] (ah lX) := ⟨rfl, rfl, rfl, by decide +kernel, rfl, by decide +kernel, by decide +kernel⟩
theorem wq (W : ie K "is_move" "is_move" lX f fd) {f0 : Addr} {d0 : FuncData} {bT : gI} (C0 : gJ P w K mg base k "is_whole" ["thing"] bT f0 d0) {t_GOALS : Tok} (g_GOALS : mg "GOALS" = some (.int 3 t_GOALS)) :
    aY P w K mg base (cI P w mg) (k + 1) f fd ["thing", "place"] (di (dF 2 (l6 bT)) 2) := by
  refine Z.fn_dataT W wK (G := ["is_whole", "GOALS"]) (by decide +kernel) fun cdv A outer s H E hr T => ?_
  exact (Z.aF (Z.bg (Z.yF (Z.ut (Z.ai.b (Z.aa T 0 rfl)) (Z.ai.b Z.da)) (Z.me (Z.nV (Z.aO C0 hr T 0 rfl (Z.ag (Z.aa T 0 rfl) Z.ay) rfl (ae aq)) (Z.me (Z.vG T.hu (Z.ai.b (Z.aa T 0 rfl)) (Z.ai.b (Z.bn T.hu (Z.ai.b (Z.aa T 1 rfl)) (Z.ai.b (Z.dA T 1 rfl g_GOALS)) (fun _ _ => rfl))) (by with_unfolding_all rfl))))))))
theorem si : aR ["thing", "ground"] ["thing", "ground"] (ah gT) := ⟨rfl, rfl, rfl, by decide +kernel, rfl, by decide +kernel, by decide +kernel⟩
theorem rM (W : ie K "are_moves" "are_moves" gT f fd) {f2 : Addr} {d2 : FuncData} {dn : gI} (C2 : gJ P w K mg base k "is_move" ["thing", "place"] dn f2 d2) (b_all : mg "all" = none) (b_isinstance : mg "isinstance" = none) (b_len : mg "len" = none) (b_tuple : mg "tuple" = none) (b_zip : mg "zip" = none) :
    aY P w K mg base (cI P w mg) (k + 1) f fd ["thing", "ground"] (di (dF 2 (jo dn)) 2) := by
  refine Z.fn_dataT W si (G := ["isinstance", "tuple", "len", "all", "zip"]) (by decide +kernel) fun cdv A outer s H E hr T => ?_
  exact (Z.ao (Z.eV (Z.l9.t (Z.je (Z.fK (Z.e8 (Z.gm T 0 rfl b_isinstance T 1 rfl b_tuple (Z.ai.b (Z.aa T 0 rfl))))) (Z.gR (Z.md T.hu (Z.ai.b (Z.dq T 2 rfl b_len (Z.ai.b (Z.aa T 0 rfl)))) (Z.ai.b (Z.dq T 2 rfl b_len (Z.ai.b (Z.aa T 1 rfl)))))))) (Z.aF (Z.bg Z.hR)) Z.dI)
      (Z.aF (Z.bg (Z.lK T 3 rfl b_all (Z.gg.b (Z.bC (N := ["move", "place"]) (own := 2) (G := ["is_move"]) (fr := []) T rfl rfl (oN := ["thing", "ground"]) (on := (ah gT).names) (by decide +kernel) (Z.oV T 4 rfl b_zip (Z.aa T 0 rfl) (Z.aa T 1 rfl)) (fq (by decide) (by decide)) (fun cl C s' H' fp E' T => ⟨(Z.eG T 0 1 rfl rfl), Z.dt, (Z.aO C2 hr T 0 rfl (Z.ag (Z.aa T 0 rfl) (Z.ag (Z.aa T 1 rfl) Z.ay)) rfl (ae (ae aq)))⟩)))))))
theorem kU : aR ["ground", "zero", "one", "both"] ["ground", "zero", "one"] (ah dB) := ⟨rfl, rfl, rfl, by decide +kernel, rfl, by decide +kernel, by decide +kernel⟩
theorem kX (W : ie K "moves_by_owners" "moves_by_owners" dB f fd) {t_WHO : Tok} (g_WHO : mg "WHO" = some (.int 0 t_WHO)) (b_enumerate : mg "enumerate" = none) (b_tuple : mg "tuple" = none) :
    aY P w K mg base (cI P w mg) (k + 1) f fd ["ground", "zero", "one"] (di (dF 4 (eW)) 3) := by
  refine Z.fn_dataT W kU (G := ["tuple", "enumerate"]) (by decide +kernel) fun cdv A outer s H E hr T => ?_
  exact (Z.ao (Z.bt T 3 rfl (Z.kD (Z.ag (Z.aa T 1 rfl) (Z.ag (Z.aa T 2 rfl) Z.ay))))
      (Z.aF (Z.bg (Z.bN T 0 rfl b_tuple (Z.gg.b (Z.bC (N := ["number", "place", "both"]) (own := 2) (G := ["WHO"]) (fr := [3]) T rfl rfl (oN := ["ground", "zero", "one", "both"]) (on := (ah dB).names) (by decide +kernel) (Z.iK T 1 rfl b_enumerate (Z.aa T 0 rfl)) (fq (by decide) (by decide)) (fun cl C s' H' fp E' T => ⟨(Z.eG T 0 1 rfl rfl), Z.dt, (Z.bn T.hu (Z.ai.b (Z.bn T.hu (Z.ai.b (Z.aa T 2 rfl)) (Z.ai.b (Z.bn T.hu (Z.ai.b (Z.aa T 1 rfl)) (Z.ai.b (Z.dA T 0 rfl g_WHO)) (fun _ _ => rfl))) (fun _ _ => rfl))) (Z.ai.b (Z.aa T 0 rfl)) (fun _ _ => rfl))⟩)))))))
theorem we : aR ["ground", "zero", "one", "start", "moves", "play", "number", "entered"] ["ground", "zero", "one", "start"] (ah lL) := ⟨rfl, rfl, rfl, by decide +kernel, rfl, by decide +kernel, by decide +kernel⟩
theorem wW (W : ie K "ring_of" "ring_of" lL f fd) {f3 : Addr} {d3 : FuncData} {cy : gI} (C3 : gJ P w K mg base k "are_moves" ["thing", "ground"] cy f3 d3) {f4 : Addr} {d4 : FuncData} {az : gI} (C4 : gJ P w K mg base k "is_number_of_place" ["thing", "ground"] az f4 d4) {f5 : Addr} {d5 : FuncData} {bq : gI} (C5 : gJ P w K mg base k "moves_by_owners" ["ground", "zero", "one"] bq f5 d5) (b_tuple : mg "tuple" = none) {c_NoMoves : Addr} (m_NoMoves : mg "NoMoves" = some (.ref c_NoMoves)) (q_NoMoves : PySem.W.excIn K c_NoMoves A0 zy = true) {c_NoPart : Addr} (m_NoPart : mg "NoPart" = some (.ref c_NoPart)) (q_NoPart : PySem.W.excIn K c_NoPart A0 zy = true) :
    aY P w K mg base (cI P w mg) (k + 1) f fd ["ground", "zero", "one", "start"] (di (dF 8 (lN cy az bq)) 4) := by
  refine Z.fn_dataT W we (G := ["are_moves", "NoMoves", "moves_by_owners", "is_number_of_place", "NoPart", "tuple"]) (by decide +kernel) fun cdv A outer s H E hr T => ?_
  exact (Z.ao (Z.eV (Z.l9.t (Z.je (Z.fK (Z.e8 (Z.aO C3 hr T 0 rfl (Z.ag (Z.aa T 1 rfl) (Z.ag (Z.aa T 0 rfl) Z.ay)) rfl (ae (ae aq))))) (Z.gR (Z.fK (Z.e8 (Z.aO C3 hr T 0 rfl (Z.ag (Z.aa T 2 rfl) (Z.ag (Z.aa T 0 rfl) Z.ay)) rfl (ae (ae aq)))))))) (Z.aF (Z.iw T 1 rfl m_NoMoves q_NoMoves (have T := T.nox; Z.mw))) Z.dI)
      (Z.ao (Z.bt T 4 rfl (Z.aO C5 hr T 2 rfl (Z.ag (Z.aa T 0 rfl) (Z.ag (Z.aa T 1 rfl) (Z.ag (Z.aa T 2 rfl) Z.ay))) rfl (ae (ae (ae aq)))))
      (Z.ao (Z.eV (Z.lP T.hu (Z.ai.b Z.da) (Z.ai.b (Z.aa T 4 rfl)) (by with_unfolding_all rfl)) (Z.aF (Z.iw T 1 rfl m_NoMoves q_NoMoves (have T := T.nox; Z.mw))) Z.dI)
      (Z.ao (Z.eV (Z.fK (Z.e8 (Z.aO C4 hr T 3 rfl (Z.ag (Z.aa T 3 rfl) (Z.ag (Z.aa T 0 rfl) Z.ay)) rfl (ae (ae aq))))) (Z.aF (Z.iw T 4 rfl m_NoPart q_NoPart (have T := T.nox; Z.mw))) Z.dI)
      (Z.ao (Z.iW T 5 rfl (Z.gk Z.ay))
      (Z.ao (Z.bt T 6 rfl (Z.aa T 3 rfl))
      (Z.ao (Z.de (have T := T.nox; Z.jn 1000000 PassesOwn.never (Z.jV T.hu (Z.ai.b (Z.aa T 6 rfl)) (Z.cC T 5 rfl) (by with_unfolding_all rfl)) (Z.ao (Z.eQ T 5 rfl (Z.aa T 6 rfl))
      (Z.aF (Z.bt T 6 rfl (Z.bn T.hu (Z.ai.b (Z.aa T 4 rfl)) (Z.ai.b (Z.aa T 6 rfl)) (fun _ _ => rfl)))))))
      (Z.ao (Z.bt T 7 rfl (Z.oP (Z.cC T 5 rfl) (Z.aa T 6 rfl)))
      (Z.aF (Z.bg (Z.kD (Z.ag (Z.bN T 5 rfl b_tuple (Z.ai.b (Z.iy (Z.cC T 5 rfl) Z.jO (Z.jS (Z.aa T 7 rfl))))) (Z.ag (Z.bN T 5 rfl b_tuple (Z.ai.b (Z.iy (Z.cC T 5 rfl) (Z.jS (Z.aa T 7 rfl)) Z.jO))) Z.ay)))))))))))))
theorem qk : aR ["ground"] ["ground"] (ah iP) := ⟨rfl, rfl, rfl, by decide +kernel, rfl, by decide +kernel, by decide +kernel⟩
theorem qI (W : ie K "all_places" "all_places" iP f fd) (b_len : mg "len" = none) (b_range : mg "range" = none) (b_tuple : mg "tuple" = none) :
    aY P w K mg base (cI P w mg) (k + 1) f fd ["ground"] (di (dF 1 (iI)) 1) := by
  refine Z.fn_dataT W qk (G := ["tuple", "range", "len"]) (by decide +kernel) fun cdv A outer s H E hr T => ?_
  exact (Z.aF (Z.bg (Z.qW T 0 rfl b_tuple 1 rfl b_range (Z.ag (Z.dq T 2 rfl b_len (Z.ai.b (Z.aa T 0 rfl))) Z.ay))))
theorem ud : aR ["moves", "places"] ["moves", "places"] (ah iH) := ⟨rfl, rfl, rfl, by decide +kernel, rfl, by decide +kernel, by decide +kernel⟩
theorem uy (W : ie K "moves_at" "moves_at" iH f fd) (b_enumerate : mg "enumerate" = none) (b_tuple : mg "tuple" = none) :
    aY P w K mg base (cI P w mg) (k + 1) f fd ["moves", "places"] (di (dF 2 (kA)) 2) := by
  refine Z.fn_dataT W ud (G := ["tuple", "enumerate"]) (by decide +kernel) fun cdv A outer s H E hr T => ?_
  exact (Z.aF (Z.bg (Z.bN T 0 rfl b_tuple (Z.gg.b (Z.bC (N := ["number", "move", "places"]) (own := 2) (G := []) (fr := [1]) T rfl rfl (oN := ["moves", "places"]) (on := (ah iH).names) (by decide +kernel) (Z.iK T 1 rfl b_enumerate (Z.aa T 0 rfl)) (fq (by decide) (by decide)) (fun cl C s' H' fp E' T => ⟨(Z.eG T 0 1 rfl rfl), Z.dt, (Z.jH (Z.lP T.hu (Z.ai.b (Z.aa T 0 rfl)) (Z.ai.b (Z.aa T 2 rfl)) (by with_unfolding_all rfl)) (Z.aa T 1 rfl) Z.da)⟩))))))
theorem mZ : aR ["moves", "others"] ["moves", "others"] (ah eF) := ⟨rfl, rfl, rfl, by decide +kernel, rfl, by decide +kernel, by decide +kernel⟩
theorem mV (W : ie K "moves_of_both" "moves_of_both" eF f fd) (b_tuple : mg "tuple" = none) (b_zip : mg "zip" = none) :
    aY P w K mg base (cI P w mg) (k + 1) f fd ["moves", "others"] (di (dF 2 (gc)) 2) := by
  refine Z.fn_dataT W mZ (G := ["tuple", "zip"]) (by decide +kernel) fun cdv A outer s H E hr T => ?_
  exact (Z.aF (Z.bg (Z.bN T 0 rfl b_tuple (Z.gg.b (Z.bC (N := ["move", "other"]) (own := 2) (G := []) (fr := []) T rfl rfl (oN := ["moves", "others"]) (on := (ah eF).names) (by decide +kernel) (Z.oV T 1 rfl b_zip (Z.aa T 0 rfl) (Z.aa T 1 rfl)) (fq (by decide) (by decide)) (fun cl C s' H' fp E' T => ⟨(Z.eG T 0 1 rfl rfl), Z.dt, (Z.jH (Z.lr (Z.ai.b (Z.aa T 0 rfl)) (Z.ai.b Z.da)) (Z.aa T 1 rfl) (Z.aa T 0 rfl))⟩))))))
theorem yQ : aR ["ranks"] ["ranks"] (ah lh) := ⟨rfl, rfl, rfl, by decide +kernel, rfl, by decide +kernel, by decide +kernel⟩
theorem zi (W : ie K "ranked" "ranked" lh f fd) (b_enumerate : mg "enumerate" = none) (b_tuple : mg "tuple" = none) :
    aY P w K mg base (cI P w mg) (k + 1) f fd ["ranks"] (di (dF 1 (oW)) 1) := by
  refine Z.fn_dataT W yQ (G := ["tuple", "enumerate"]) (by decide +kernel) fun cdv A outer s H E hr T => ?_
  exact (Z.aF (Z.bg (Z.bN T 0 rfl b_tuple (Z.gg.b (Z.bC (N := ["number", "rank"]) (own := 2) (G := []) (fr := []) T rfl rfl (oN := ["ranks"]) (on := (ah lh).names) (by decide +kernel) (Z.iK T 1 rfl b_enumerate (Z.aa T 0 rfl)) (fq (by decide) (by decide)) (fun cl C s' H' fp E' T => ⟨(Z.eG T 0 1 rfl rfl), (Z.gE (Z.lB (Z.ai.b (Z.aa T 1 rfl)) (Z.ai.b Z.da))), (Z.aa T 0 rfl)⟩))))))
theorem nc : aR ["ground", "who", "ranks", "moves", "number"] ["ground", "who", "ranks"] (ah dj) := ⟨rfl, rfl, rfl, by decide +kernel, rfl, by decide +kernel, by decide +kernel⟩
theorem nk (W : ie K "pulling_moves" "pulling_moves" dj f fd) {f19 : Addr} {d19 : FuncData} {ca : gI} (C19 : gJ P w K mg base k "ranked" ["ranks"] ca f19 d19) {t_GOALS : Tok} (g_GOALS : mg "GOALS" = some (.int 3 t_GOALS)) {t_WHO : Tok} (g_WHO : mg "WHO" = some (.int 0 t_WHO)) (b_tuple : mg "tuple" = none) :
    aY P w K mg base (cI P w mg) (k + 1) f fd ["ground", "who", "ranks"] (di (dF 5 (ge ca)) 3) := by
  refine Z.fn_dataT W nc (G := ["ranked", "WHO", "GOALS", "tuple"]) (by decide +kernel) fun cdv A outer s H E hr T => ?_
  exact (Z.ao (Z.fI 3 rfl (N := ["rank"]) (own := 1) (G := []) (fr := []) T rfl rfl (oN := ["ground", "who", "ranks", "moves", "number"]) (on := (ah dj).names) (by decide +kernel) (Z.cE (Z.aa T 2 rfl)) (bI (by decide)) (fun cl C s' H' fp E' T => ⟨(Z.bz T 0 rfl), Z.dt, Z.da⟩))
      (Z.ao (Z.de (have T := T.nox; Z.fZ PassesOwn.never T.calm (Z.cE (Z.aO C19 hr T 0 rfl (Z.ag (Z.aa T 2 rfl) Z.ay) rfl (ae aq))) (Z.bz T 4 rfl) (Z.aF (Z.eV (Z.l9.t (Z.nJ (Z.fi T.hu (Z.ai.b (Z.bn T.hu (Z.ai.b (Z.bn T.hu (Z.ai.b (Z.aa T 0 rfl)) (Z.ai.b (Z.aa T 4 rfl)) (fun _ _ => rfl))) (Z.ai.b (Z.dA T 1 rfl g_WHO)) (fun _ _ => rfl))) (Z.ai.b (Z.aa T 1 rfl))) (Z.lu (Z.l8 (Z.ai.b (Z.bn T.hu (Z.ai.b (Z.aa T 2 rfl)) (Z.ai.b (Z.aa T 4 rfl)) (fun _ _ => rfl))) (Z.ai.b Z.ar))))) (Z.aF (Z.jP T 3 rfl (have T := T.nox; (Z.aa T 4 rfl)) (Z.bn T.hu (Z.gg.b (Z.bC (N := ["goal", "ranks", "number"]) (own := 1) (G := []) (fr := [2, 4]) T rfl rfl (oN := ["ground", "who", "ranks", "moves", "number"]) (on := (ah dj).names) (by decide +kernel) (Z.cE (Z.bn T.hu (Z.ai.b (Z.bn T.hu (Z.ai.b (Z.aa T 0 rfl)) (Z.ai.b (Z.aa T 4 rfl)) (fun _ _ => rfl))) (Z.ai.b (Z.dA T 2 rfl g_GOALS)) (fun _ _ => rfl))) (bI (by decide)) (fun cl C s' H' fp E' T => ⟨(Z.bz T 0 rfl), (Z.gE (Z.fi T.hu (Z.ai.b (Z.bn T.hu (Z.ai.b (Z.aa T 1 rfl)) (Z.ai.b (Z.aa T 0 rfl)) (fun _ _ => rfl))) (Z.ai.b (Z.kz (Z.ai.b (Z.bn T.hu (Z.ai.b (Z.aa T 1 rfl)) (Z.ai.b (Z.aa T 2 rfl)) (fun _ _ => rfl))) (Z.ai.b Z.ar))))), (Z.aa T 0 rfl)⟩))) (Z.ai.b Z.ar) (fun _ _ => rfl)))) Z.dI))))
      (Z.aF (Z.bg (Z.bN T 3 rfl b_tuple (Z.cC T 3 rfl))))))
theorem yz : aR ["some", "others"] ["some", "others"] (ah ld) := ⟨rfl, rfl, rfl, by decide +kernel, rfl, by decide +kernel, by decide +kernel⟩
theorem yo (W : ie K "common" "common" ld f fd) (b_tuple : mg "tuple" = none) :
    aY P w K mg base (cI P w mg) (k + 1) f fd ["some", "others"] (di (dF 2 (nR)) 2) := by
  refine Z.fn_dataT W yz (G := ["tuple"]) (by decide +kernel) fun cdv A outer s H E hr T => ?_
  exact (Z.aF (Z.bg (Z.bN T 0 rfl b_tuple (Z.gg.b (Z.bC (N := ["number", "others"]) (own := 1) (G := []) (fr := [1]) T rfl rfl (oN := ["some", "others"]) (on := (ah ld).names) (by decide +kernel) (Z.cE (Z.aa T 0 rfl)) (bI (by decide)) (fun cl C s' H' fp E' T => ⟨(Z.bz T 0 rfl), (Z.gE (Z.lP T.hu (Z.ai.b (Z.aa T 0 rfl)) (Z.ai.b (Z.aa T 1 rfl)) (by with_unfolding_all rfl))), (Z.aa T 0 rfl)⟩))))))
theorem sG : aR ["place", "ways", "who", "ranks", "known"] ["place", "ways", "who", "ranks"] (ah gW) := ⟨rfl, rfl, rfl, by decide +kernel, rfl, by decide +kernel, by decide +kernel⟩
theorem rE (W : ie K "is_forced" "is_forced" gW f fd) {t_WHO : Tok} (g_WHO : mg "WHO" = some (.int 0 t_WHO)) (b_len : mg "len" = none) :
    aY P w K mg base (cI P w mg) (k + 1) f fd ["place", "ways", "who", "ranks"] (di (dF 5 (jw)) 4) := by
  refine Z.fn_dataT W sG (G := ["WHO", "len"]) (by decide +kernel) fun cdv A outer s H E hr T => ?_
  exact (Z.ao (Z.fA.fz (Z.fI 4 rfl (N := ["goal", "ranks"]) (own := 1) (G := []) (fr := [3]) T rfl rfl (oN := ["place", "ways", "who", "ranks", "known"]) (on := (ah gW).names) (by decide +kernel) (Z.cE (Z.aa T 1 rfl)) (bI (by decide)) (fun cl C s' H' fp E' T => ⟨(Z.bz T 0 rfl), (Z.gE (Z.lB (Z.ai.b (Z.bn T.hu (Z.ai.b (Z.aa T 1 rfl)) (Z.ai.b (Z.aa T 0 rfl)) (fun _ _ => rfl))) (Z.ai.b Z.da))), (Z.aa T 0 rfl)⟩)) (show 4 < 5 by decide))
      (Z.ao (Z.eV (Z.fi T.hu (Z.ai.b (Z.bn T.hu (Z.ai.b (Z.aa T 0 rfl)) (Z.ai.b (Z.dA T 0 rfl g_WHO)) (fun _ _ => rfl))) (Z.ai.b (Z.aa T 2 rfl))) (Z.aF (Z.bg (Z.xV (Z.ai.b (Z.dq T 1 rfl b_len (Z.ai.b (Z.aa T 4 rfl)))) (Z.ai.b Z.ar)))) Z.dI)
      (Z.aF (Z.bg (Z.su T.hu (Z.ai.b (Z.dq T 1 rfl b_len (Z.ai.b (Z.aa T 4 rfl)))) (Z.ai.b (Z.dq T 1 rfl b_len (Z.ai.b (Z.aa T 1 rfl)))))))))
theorem t6 : aR ["ground", "inside", "who", "goals", "ways", "ranks", "rank", "found", "unranked", "number"] ["ground", "inside", "who", "goals"] (ah eJ) := ⟨rfl, rfl, rfl, by decide +kernel, rfl, by decide +kernel, by decide +kernel⟩
theorem tT (W : ie K "ranks_to" "ranks_to" eJ f fd) {f10 : Addr} {d10 : FuncData} {bZ : gI} (C10 : gJ P w K mg base k "common" ["some", "others"] bZ f10 d10) {f17 : Addr} {d17 : FuncData} {bO : gI} (C17 : gJ P w K mg base k "is_forced" ["place", "ways", "who", "ranks"] bO f17 d17) {t_GOALS : Tok} (g_GOALS : mg "GOALS" = some (.int 3 t_GOALS)) (b_len : mg "len" = none) (b_list : mg "list" = none) (b_range : mg "range" = none) (b_tuple : mg "tuple" = none) :
    aY P w K mg base (cI P w mg) (k + 1) f fd ["ground", "inside", "who", "goals"] (di (dF 10 (kJ bZ bO)) 4) := by
  refine Z.fn_dataT W t6 (G := ["range", "len", "list", "tuple"]) (by decide +kernel) fun cdv A outer s H E hr T => ?_
  exact (Z.ao (Z.bt T 4 rfl (Z.gg.e (Z.bC (N := ["place", "inside"]) (own := 1) (G := ["common", "GOALS"]) (fr := [1]) T rfl rfl (oN := ["ground", "inside", "who", "goals", "ways", "ranks", "rank", "found", "unranked", "number"]) (on := (ah eJ).names) (by decide +kernel) (Z.cE (Z.aa T 0 rfl)) (bI (by decide)) (fun cl C s' H' fp E' T => ⟨(Z.bz T 0 rfl), Z.dt, (Z.aO C10 hr T 0 rfl (Z.ag (Z.bn T.hu (Z.ai.b (Z.aa T 0 rfl)) (Z.ai.b (Z.dA T 1 rfl g_GOALS)) (fun _ _ => rfl)) (Z.ag (Z.aa T 1 rfl) Z.ay)) rfl (ae (ae aq)))⟩))))
      (Z.ao (Z.iW T 5 rfl (Z.bC (N := ["number", "goals"]) (own := 1) (G := []) (fr := [3]) T rfl rfl (oN := ["ground", "inside", "who", "goals", "ways", "ranks", "rank", "found", "unranked", "number"]) (on := (ah eJ).names) (by decide +kernel) (Z.fB T 0 rfl b_range (Z.ag (Z.dq T 1 rfl b_len (Z.ai.b (Z.aa T 0 rfl))) Z.ay) (ae aq)) (bI (by decide)) (fun cl C s' H' fp E' T => ⟨(Z.bz T 0 rfl), Z.dt, (Z.jH (Z.lP T.hu (Z.ai.b (Z.aa T 0 rfl)) (Z.ai.b (Z.aa T 1 rfl)) (by with_unfolding_all rfl)) Z.ar Z.da)⟩)))
      (Z.ao (Z.bt T 6 rfl Z.ar)
      (Z.ao (Z.bt T 7 rfl (Z.gg.e (Z.kZ T 2 rfl b_list (Z.ai.b (Z.aa T 3 rfl)))))
      (Z.ao (Z.de (have T := T.nox; Z.jn 1000000 PassesOwn.never (Z.l8 (Z.ai.b (Z.dq T 1 rfl b_len (Z.ai.b (Z.aa T 7 rfl)))) (Z.ai.b Z.ar)) (Z.ao (Z.qL T 6 rfl Z.ar)
      (Z.ao (Z.fA.fz (Z.fI 8 rfl (N := ["number", "ranks"]) (own := 1) (G := []) (fr := [5]) T rfl rfl (oN := ["ground", "inside", "who", "goals", "ways", "ranks", "rank", "found", "unranked", "number"]) (on := (ah eJ).names) (by decide +kernel) (Z.cE (Z.aa T 1 rfl)) (bI (by decide)) (fun cl C s' H' fp E' T => ⟨(Z.bz T 0 rfl), (Z.gE (Z.lr (Z.ai.b (Z.bn T.hu (Z.cC T 1 rfl) (Z.ai.b (Z.aa T 0 rfl)) (fun _ _ => rfl))) (Z.ai.b Z.da))), (Z.aa T 0 rfl)⟩)) (show 8 < 10 by decide))
      (Z.ao (Z.fA.fz (Z.fI 7 rfl (N := ["number", "ground", "ways", "who", "ranks"]) (own := 1) (G := ["is_forced"]) (fr := [0, 4, 2, 5]) T rfl rfl (oN := ["ground", "inside", "who", "goals", "ways", "ranks", "rank", "found", "unranked", "number"]) (on := (ah eJ).names) (by decide +kernel) (Z.cE (Z.aa T 8 rfl)) (bI (by decide)) (fun cl C s' H' fp E' T => ⟨(Z.bz T 0 rfl), (Z.gE (Z.e8 (Z.ai.lent 4 (Z.aO C17 hr T 0 rfl (Z.ag (Z.bn T.hu (Z.ai.b (Z.aa T 1 rfl)) (Z.ai.b (Z.aa T 0 rfl)) (fun _ _ => rfl)) (Z.ag (Z.bn T.hu (Z.ai.b (Z.aa T 2 rfl)) (Z.ai.b (Z.aa T 0 rfl)) (fun _ _ => rfl)) (Z.ag (Z.aa T 3 rfl) (Z.ag (Z.aa T 4 rfl) Z.ay)))) rfl (ae (ae (ae (ae aq)))))))), (Z.aa T 0 rfl)⟩)) (show 7 < 10 by decide))
      (Z.aF (Z.de (have T := T.nox; Z.fZ PassesOwn.never T.calm (Z.cE (Z.aa T 7 rfl)) (Z.bz T 9 rfl) (Z.aF (Z.jP T 5 rfl (have T := T.nox; (Z.aa T 9 rfl)) (Z.aa T 6 rfl)))))))))))
      (Z.aF (Z.bg (Z.bN T 3 rfl b_tuple (Z.cC T 5 rfl)))))))))
theorem uF : aR ["ground"] ["ground"] (ah iN) := ⟨rfl, rfl, rfl, by decide +kernel, rfl, by decide +kernel, by decide +kernel⟩
theorem tU (W : ie K "no_moves" "no_moves" iN f fd) (b_tuple : mg "tuple" = none) :
    aY P w K mg base (cI P w mg) (k + 1) f fd ["ground"] (di (dF 1 (kC)) 1) := by
  refine Z.fn_dataT W uF (G := ["tuple"]) (by decide +kernel) fun cdv A outer s H E hr T => ?_
  exact (Z.aF (Z.bg (Z.bN T 0 rfl b_tuple (Z.gg.b (Z.bC (N := ["place"]) (own := 1) (G := []) (fr := []) T rfl rfl (oN := ["ground"]) (on := (ah iN).names) (by decide +kernel) (Z.cE (Z.aa T 0 rfl)) (bI (by decide)) (fun cl C s' H' fp E' T => ⟨(Z.bz T 0 rfl), Z.dt, Z.da⟩))))))
theorem mY : aR ["ground", "who", "part", "moves", "number"] ["ground", "who", "part"] (ah fY) := ⟨rfl, rfl, rfl, by decide +kernel, rfl, by decide +kernel, by decide +kernel⟩
theorem nu (W : ie K "staying_moves" "staying_moves" fY f fd) {f10 : Addr} {d10 : FuncData} {bZ : gI} (C10 : gJ P w K mg base k "common" ["some", "others"] bZ f10 d10) {f12 : Addr} {d12 : FuncData} {bM : gI} (C12 : gJ P w K mg base k "no_moves" ["ground"] bM f12 d12) {t_GOALS : Tok} (g_GOALS : mg "GOALS" = some (.int 3 t_GOALS)) {t_WHO : Tok} (g_WHO : mg "WHO" = some (.int 0 t_WHO)) (b_list : mg "list" = none) (b_tuple : mg "tuple" = none) :
    aY P w K mg base (cI P w mg) (k + 1) f fd ["ground", "who", "part"] (di (dF 5 (fX bZ bM)) 3) := by
  refine Z.fn_dataT W mY (G := ["list", "no_moves", "WHO", "common", "GOALS", "tuple"]) (by decide +kernel) fun cdv A outer s H E hr T => ?_
  exact (Z.ao (Z.iW T 3 rfl (Z.kZ T 0 rfl b_list (Z.ai.b (Z.aO C12 hr T 1 rfl (Z.ag (Z.aa T 0 rfl) Z.ay) rfl (ae aq)))))
      (Z.ao (Z.de (have T := T.nox; Z.fZ PassesOwn.never T.calm (Z.cE (Z.aa T 2 rfl)) (Z.bz T 4 rfl) (Z.aF (Z.eV (Z.fi T.hu (Z.ai.b (Z.bn T.hu (Z.ai.b (Z.bn T.hu (Z.ai.b (Z.aa T 0 rfl)) (Z.ai.b (Z.aa T 4 rfl)) (fun _ _ => rfl))) (Z.ai.b (Z.dA T 2 rfl g_WHO)) (fun _ _ => rfl))) (Z.ai.b (Z.aa T 1 rfl))) (Z.aF (Z.jP T 3 rfl (have T := T.nox; (Z.aa T 4 rfl)) (Z.bn T.hu (Z.ai.b (Z.aO C10 hr T 3 rfl (Z.ag (Z.bn T.hu (Z.ai.b (Z.bn T.hu (Z.ai.b (Z.aa T 0 rfl)) (Z.ai.b (Z.aa T 4 rfl)) (fun _ _ => rfl))) (Z.ai.b (Z.dA T 4 rfl g_GOALS)) (fun _ _ => rfl)) (Z.ag (Z.aa T 2 rfl) Z.ay)) rfl (ae (ae aq)))) (Z.ai.b Z.ar) (fun _ _ => rfl)))) Z.dI))))
      (Z.aF (Z.bg (Z.bN T 5 rfl b_tuple (Z.cC T 3 rfl))))))
theorem wJ : aR ["some", "others"] ["some", "others"] (ah j8) := ⟨rfl, rfl, rfl, by decide +kernel, rfl, by decide +kernel, by decide +kernel⟩
theorem wa (W : ie K "without" "without" j8 f fd) (b_tuple : mg "tuple" = none) :
    aY P w K mg base (cI P w mg) (k + 1) f fd ["some", "others"] (di (dF 2 (lO)) 2) := by
  refine Z.fn_dataT W wJ (G := ["tuple"]) (by decide +kernel) fun cdv A outer s H E hr T => ?_
  exact (Z.aF (Z.bg (Z.bN T 0 rfl b_tuple (Z.gg.b (Z.bC (N := ["number", "others"]) (own := 1) (G := []) (fr := [1]) T rfl rfl (oN := ["some", "others"]) (on := (ah j8).names) (by decide +kernel) (Z.cE (Z.aa T 0 rfl)) (bI (by decide)) (fun cl C s' H' fp E' T => ⟨(Z.bz T 0 rfl), (Z.gE (Z.jV T.hu (Z.ai.b (Z.aa T 0 rfl)) (Z.ai.b (Z.aa T 1 rfl)) (by with_unfolding_all rfl))), (Z.aa T 0 rfl)⟩))))))
theorem mm : aR ["ground", "inside", "highest", "who", "other", "tops", "ranks", "below", "lost", "moves"] ["ground", "inside"] (ah cA) := ⟨rfl, rfl, rfl, by decide +kernel, rfl, by decide +kernel, by decide +kernel⟩
theorem lM (W : ie K "share_by_marks" "share_by_marks" cA f fd) {f14 : Addr} {d14 : FuncData} {cD : gI} (C14 : gJ P w K mg base k "moves_at" ["moves", "places"] cD f14 d14) {f13 : Addr} {d13 : FuncData} {aC : gI} (C13 : gJ P w K mg base k "moves_of_both" ["moves", "others"] aC f13 d13) {f20 : Addr} {d20 : FuncData} {aZ : gI} (C20 : gJ P w K mg base k "pulling_moves" ["ground", "who", "ranks"] aZ f20 d20) {f19 : Addr} {d19 : FuncData} {ca : gI} (C19 : gJ P w K mg base k "ranked" ["ranks"] ca f19 d19) {f18 : Addr} {d18 : FuncData} {cj : gI} (C18 : gJ P w K mg base k "ranks_to" ["ground", "inside", "who", "goals"] cj f18 d18) {f15 : Addr} {d15 : FuncData} {bo : gI} (C15 : gJ P w K mg base k "staying_moves" ["ground", "who", "part"] bo f15 d15) {f22 : Addr} {d22 : FuncData} {aG : gI} (C22 : gJ P w K mg base k "winners_within" ["ground", "inside"] aG f22 d22) {f11 : Addr} {d11 : FuncData} {bJ : gI} (C11 : gJ P w K mg base k "without" ["some", "others"] bJ f11 d11) {t_MARK : Tok} (g_MARK : mg "MARK" = some (.int 1 t_MARK)) (b_enumerate : mg "enumerate" = none) (b_len : mg "len" = none) (b_max : mg "max" = none) {c_Share : Addr} (cl_Share : v8 K c_Share) (n_Share_moves : dG K c_Share "moves") (n_Share_places : dG K c_Share "places") (n_Share_who : dG K c_Share "who") (m_Share : mg "Share" = some (.ref c_Share)) {fi_Share : Addr} {di_Share : FuncData} (MK_Share : Mk K c_Share fi_Share) (I_Share : aY P w K mg base (cI P w mg) 1 fi_Share di_Share ["self", "who", "places", "moves"] (DN c_Share ["who", "places", "moves"])) (B_Share : i4 K di_Share ["self", "who", "places", "moves"] []) (hk : 2 <= k) :
    aY P w K mg base (cI P w mg) (k + 1) f fd ["ground", "inside"] (di (dF 10 (dW cD aC aZ ca cj bo aG bJ c_Share)) 2) := by
  refine Z.fn_dataT W mm (G := ["max", "ranks_to", "winners_within", "without", "ranked", "enumerate", "len", "moves_of_both", "pulling_moves", "Share", "staying_moves", "moves_at"]) (by decide +kernel) fun cdv A outer s H E hr T => ?_
  exact (Z.ao (Z.bt T 2 rfl (Z.nC T 0 rfl b_max (Z.gg.b (Z.bC (N := ["number", "ground"]) (own := 1) (G := ["MARK"]) (fr := [0]) T rfl rfl (oN := ["ground", "inside", "highest", "who", "other", "tops", "ranks", "below", "lost", "moves"]) (on := (ah cA).names) (by decide +kernel) (Z.cE (Z.aa T 1 rfl)) (bI (by decide)) (fun cl C s' H' fp E' T => ⟨(Z.bz T 0 rfl), Z.dt, (Z.bn T.hu (Z.ai.b (Z.bn T.hu (Z.ai.b (Z.aa T 1 rfl)) (Z.ai.b (Z.aa T 0 rfl)) (fun _ _ => rfl))) (Z.ai.b (Z.dA T 0 rfl g_MARK)) (fun _ _ => rfl))⟩)))))
      (Z.ao (Z.bt T 3 rfl (Z.cU (Z.ai.b (Z.aa T 2 rfl)) (Z.ai.b Z.ar)))
      (Z.ao (Z.bt T 4 rfl (Z.kz (Z.ai.b Z.ar) (Z.ai.b (Z.aa T 3 rfl))))
      (Z.ao (Z.fA.fz (Z.fI 5 rfl (N := ["number", "ground", "highest"]) (own := 1) (G := ["MARK"]) (fr := [0, 2]) T rfl rfl (oN := ["ground", "inside", "highest", "who", "other", "tops", "ranks", "below", "lost", "moves"]) (on := (ah cA).names) (by decide +kernel) (Z.cE (Z.aa T 1 rfl)) (bI (by decide)) (fun cl C s' H' fp E' T => ⟨(Z.bz T 0 rfl), (Z.gE (Z.fi T.hu (Z.ai.b (Z.bn T.hu (Z.ai.b (Z.bn T.hu (Z.ai.b (Z.aa T 1 rfl)) (Z.ai.b (Z.aa T 0 rfl)) (fun _ _ => rfl))) (Z.ai.b (Z.dA T 0 rfl g_MARK)) (fun _ _ => rfl))) (Z.ai.b (Z.aa T 2 rfl)))), (Z.aa T 0 rfl)⟩)) (show 5 < 10 by decide))
      (Z.ao (Z.bt T 6 rfl (Z.aO C18 hr T 1 rfl (Z.ag (Z.aa T 0 rfl) (Z.ag (Z.aa T 1 rfl) (Z.ag (Z.aa T 3 rfl) (Z.ag (Z.aa T 5 rfl) Z.ay)))) rfl (ae (ae (ae (ae aq))))))
      (Z.ao (Z.bt T 7 rfl (Z.aO C22 hr T 2 rfl (Z.ag (Z.aa T 0 rfl) (Z.ag (Z.aO C11 hr T 3 rfl (Z.ag (Z.aa T 1 rfl) (Z.ag (Z.aO C19 hr T 4 rfl (Z.ag (Z.aa T 6 rfl) Z.ay) rfl (ae aq)) Z.ay)) rfl (ae (ae aq))) Z.ay)) rfl (ae (ae aq))))
      (Z.ao (Z.fA.fz (Z.fI 8 rfl (N := ["number", "winner", "other"]) (own := 2) (G := []) (fr := [4]) T rfl rfl (oN := ["ground", "inside", "highest", "who", "other", "tops", "ranks", "below", "lost", "moves"]) (on := (ah cA).names) (by decide +kernel) (Z.iK T 5 rfl b_enumerate (Z.bn T.hu (Z.ai.b (Z.aa T 7 rfl)) (Z.ai.b Z.ar) (fun _ _ => rfl))) (fq (by decide) (by decide)) (fun cl C s' H' fp E' T => ⟨(Z.eG T 0 1 rfl rfl), (Z.gE (Z.fi T.hu (Z.ai.b (Z.aa T 1 rfl)) (Z.ai.b (Z.aa T 2 rfl)))), (Z.aa T 0 rfl)⟩)) (show 8 < 10 by decide))
      (Z.ao (Z.eV (Z.fi T.hu (Z.ai.b (Z.dq T 6 rfl b_len (Z.ai.b (Z.aa T 8 rfl)))) (Z.ai.b Z.ar)) (Z.ao (Z.bt T 9 rfl (Z.aO C13 hr T 7 rfl (Z.ag (Z.aO C20 hr T 8 rfl (Z.ag (Z.aa T 0 rfl) (Z.ag (Z.aa T 3 rfl) (Z.ag (Z.aa T 6 rfl) Z.ay))) rfl (ae (ae (ae aq)))) (Z.ag (Z.bn T.hu (Z.ai.b (Z.aa T 7 rfl)) (Z.ai.b Z.ar) (fun _ _ => rfl)) Z.ay)) rfl (ae (ae aq))))
      (Z.aF (Z.bg (Z.rb MK_Share I_Share (hr.mono hk) T 9 rfl m_Share B_Share (Z.ag (Z.aa T 3 rfl) (Z.ag (Z.aa T 1 rfl) (Z.ag (Z.aO C13 hr T 7 rfl (Z.ag (Z.aa T 9 rfl) (Z.ag (Z.aO C15 hr T 10 rfl (Z.ag (Z.aa T 0 rfl) (Z.ag (Z.aa T 3 rfl) (Z.ag (Z.aa T 1 rfl) Z.ay))) rfl (ae (ae (ae aq)))) Z.ay)) rfl (ae (ae aq))) Z.ay))) (ae (ae (ae aq))))))) Z.dI)
      (Z.ao (Z.bt T 6 rfl (Z.aO C18 hr T 1 rfl (Z.ag (Z.aa T 0 rfl) (Z.ag (Z.aa T 1 rfl) (Z.ag (Z.aa T 4 rfl) (Z.ag (Z.aa T 8 rfl) Z.ay)))) rfl (ae (ae (ae (ae aq))))))
      (Z.ao (Z.bt T 9 rfl (Z.aO C13 hr T 7 rfl (Z.ag (Z.aO C20 hr T 8 rfl (Z.ag (Z.aa T 0 rfl) (Z.ag (Z.aa T 4 rfl) (Z.ag (Z.aa T 6 rfl) Z.ay))) rfl (ae (ae (ae aq)))) (Z.ag (Z.aO C14 hr T 11 rfl (Z.ag (Z.bn T.hu (Z.ai.b (Z.aa T 7 rfl)) (Z.ai.b Z.ar) (fun _ _ => rfl)) (Z.ag (Z.aa T 8 rfl) Z.ay)) rfl (ae (ae aq))) Z.ay)) rfl (ae (ae aq))))
      (Z.aF (Z.bg (Z.rb MK_Share I_Share (hr.mono hk) T 9 rfl m_Share B_Share (Z.ag (Z.aa T 4 rfl) (Z.ag (Z.aO C19 hr T 4 rfl (Z.ag (Z.aa T 6 rfl) Z.ay) rfl (ae aq)) (Z.ag (Z.aa T 9 rfl) Z.ay))) (ae (ae (ae aq))))))))))))))))
theorem ke : aR ["ground", "shares", "winners", "moves", "share", "number"] ["ground", "shares"] (ah cR) := ⟨rfl, rfl, rfl, by decide +kernel, rfl, by decide +kernel, by decide +kernel⟩
theorem kf (W : ie K "winners_and_moves" "winners_and_moves" cR f fd) {f13 : Addr} {d13 : FuncData} {aC : gI} (C13 : gJ P w K mg base k "moves_of_both" ["moves", "others"] aC f13 d13) {f12 : Addr} {d12 : FuncData} {bM : gI} (C12 : gJ P w K mg base k "no_moves" ["ground"] bM f12 d12) (b_tuple : mg "tuple" = none) {c_Share : Addr} (cl_Share : v8 K c_Share) (n_Share_moves : dG K c_Share "moves") (n_Share_places : dG K c_Share "places") (n_Share_who : dG K c_Share "who") :
    aY P w K mg base (cI P w mg) (k + 1) f fd ["ground", "shares"] (di (dF 6 (ed aC bM c_Share)) 2) := by
  refine Z.fn_dataT W ke (G := ["no_moves", "moves_of_both", "tuple"]) (by decide +kernel) fun cdv A outer s H E hr T => ?_
  exact (Z.ao (Z.fI 2 rfl (N := ["place"]) (own := 1) (G := []) (fr := []) T rfl rfl (oN := ["ground", "shares", "winners", "moves", "share", "number"]) (on := (ah cR).names) (by decide +kernel) (Z.cE (Z.aa T 0 rfl)) (bI (by decide)) (fun cl C s' H' fp E' T => ⟨(Z.bz T 0 rfl), Z.dt, Z.da⟩))
      (Z.ao (Z.bt T 3 rfl (Z.aO C12 hr T 0 rfl (Z.ag (Z.aa T 0 rfl) Z.ay) rfl (ae aq)))
      (Z.ao (Z.de (have T := T.nox; Z.fZ PassesOwn.never T.calm (Z.cE (Z.aa T 1 rfl)) (Z.bz T 4 rfl) (Z.ao (Z.de (have T := T.nox; Z.fZ PassesOwn.never T.calm (Z.cE (Z.mB cl_Share n_Share_places (Z.aa T 4 rfl))) (Z.bz T 5 rfl) (Z.aF (Z.jP T 2 rfl (have T := T.nox; (Z.aa T 5 rfl)) (Z.mB cl_Share n_Share_who (Z.aa T 4 rfl))))))
      (Z.aF (Z.bt T 3 rfl (Z.aO C13 hr T 1 rfl (Z.ag (Z.aa T 3 rfl) (Z.ag (Z.mB cl_Share n_Share_moves (Z.aa T 4 rfl)) Z.ay)) rfl (ae (ae aq))))))))
      (Z.aF (Z.bg (Z.kD (Z.ag (Z.bN T 2 rfl b_tuple (Z.cC T 2 rfl)) (Z.ag (Z.aa T 3 rfl) Z.ay))))))))
theorem lS : aR ["ground", "inside", "shares", "left", "share"] ["ground", "inside"] (ah fE) := ⟨rfl, rfl, rfl, by decide +kernel, rfl, by decide +kernel, by decide +kernel⟩
theorem l5 (W : ie K "winners_within" "winners_within" fE f fd) {f21 : Addr} {d21 : FuncData} {aT : gI} (C21 : gJ P w K mg base k "share_by_marks" ["ground", "inside"] aT f21 d21) {f16 : Addr} {d16 : FuncData} {aW : gI} (C16 : gJ P w K mg base k "winners_and_moves" ["ground", "shares"] aW f16 d16) {f11 : Addr} {d11 : FuncData} {bJ : gI} (C11 : gJ P w K mg base k "without" ["some", "others"] bJ f11 d11) (b_len : mg "len" = none) {c_Share : Addr} (cl_Share : v8 K c_Share) (n_Share_places : dG K c_Share "places") :
    aY P w K mg base (cI P w mg) (k + 1) f fd ["ground", "inside"] (di (dF 5 (dR aT aW bJ c_Share)) 2) := by
  refine Z.fn_dataT W lS (G := ["len", "share_by_marks", "without", "winners_and_moves"]) (by decide +kernel) fun cdv A outer s H E hr T => ?_
  exact (Z.ao (Z.iW T 2 rfl (Z.gk Z.ay))
      (Z.ao (Z.bt T 3 rfl (Z.aa T 1 rfl))
      (Z.ao (Z.de (have T := T.nox; Z.jn 1000000 PassesOwn.never (Z.l8 (Z.ai.b (Z.dq T 0 rfl b_len (Z.ai.b (Z.aa T 3 rfl)))) (Z.ai.b Z.ar)) (Z.ao (Z.bt T 4 rfl (Z.aO C21 hr T 1 rfl (Z.ag (Z.aa T 0 rfl) (Z.ag (Z.aa T 3 rfl) Z.ay)) rfl (ae (ae aq))))
      (Z.ao (Z.eQ T 2 rfl (Z.aa T 4 rfl))
      (Z.aF (Z.bt T 3 rfl (Z.aO C11 hr T 2 rfl (Z.ag (Z.aa T 3 rfl) (Z.ag (Z.mB cl_Share n_Share_places (Z.aa T 4 rfl)) Z.ay)) rfl (ae (ae aq)))))))))
      (Z.aF (Z.zh 2 (Z.bg (Z.aO C16 hr T 3 rfl (Z.ag (Z.aa T 0 rfl) (Z.ag (Z.aa T 2 rfl) Z.ay)) rfl (ae (ae aq)))))))))
theorem Dc : aR ["ground"] ["ground"] (ah yN) := ⟨rfl, rfl, rfl, by decide +kernel, rfl, by decide +kernel, by decide +kernel⟩
theorem D8 (W : ie K "won" "won" yN f fd) {f9 : Addr} {d9 : FuncData} {cq : gI} (C9 : gJ P w K mg base k "all_places" ["ground"] cq f9 d9) {f22 : Addr} {d22 : FuncData} {aG : gI} (C22 : gJ P w K mg base k "winners_within" ["ground", "inside"] aG f22 d22) :
    aY P w K mg base (cI P w mg) (k + 1) f fd ["ground"] (di (dF 1 (yS cq aG)) 1) := by
  refine Z.fn_dataT W Dc (G := ["winners_within", "all_places"]) (by decide +kernel) fun cdv A outer s H E hr T => ?_
  exact (Z.aF (Z.bg (Z.aO C22 hr T 0 rfl (Z.ag (Z.aa T 0 rfl) (Z.ag (Z.aO C9 hr T 1 rfl (Z.ag (Z.aa T 0 rfl) Z.ay) rfl (ae aq)) Z.ay)) rfl (ae (ae aq)))))
theorem Dd : aR ["_law_script", "_law_ground_here", "_law_winners", "_law_told", "_law_k", "_law_drawn_here", "_law_start", "_law_who", "_law_mine", "_law_place_here", "_law_move", "_law_other", "_law_moves", "_law_way", "_law_ring"] ["_law_script"] (ah jB) := ⟨rfl, rfl, rfl, by decide +kernel, rfl, by decide +kernel, by decide +kernel⟩
theorem Dv (W : ie K "law" "law" jB f fd) {f31 : Addr} {d31 : FuncData} {cc : gI} (C31 : gJ P w K mg base k "_law_choice" ["_law_ground_here", "_law_who", "_law_number", "_law_share"] cc f31 d31) {f26 : Addr} {d26 : FuncData} {aA : gI} (C26 : gJ P w K mg base k "_law_drawn" ["_law_number", "_law_k"] aA f26 d26) {f29 : Addr} {d29 : FuncData} {cn : gI} (C29 : gJ P w K mg base k "_law_ground" ["_law_script", "_law_most"] cn f29 d29) {f25 : Addr} {d25 : FuncData} {bf : gI} (C25 : gJ P w K mg base k "_law_mixed" ["_law_script", "_law_k"] bf f25 d25) {f8 : Addr} {d8 : FuncData} {eB : gI} (C8 : gJ P w K mg base k "judged" ["ground", "ring"] eB f8 d8) {f6 : Addr} {d6 : FuncData} {dm : gI} (C6 : gJ P w K mg base k "ring_of" ["ground", "zero", "one", "start"] dm f6 d6) {f23 : Addr} {d23 : FuncData} {k9 : gI} (C23 : gJ P w K mg base k "won" ["ground"] k9 f23 d23) (b_all : mg "all" = none) (b_len : mg "len" = none) (b_range : mg "range" = none) (b_tuple : mg "tuple" = none) (b_zip : mg "zip" = none) :
    aY P w K mg base (cI P w mg) (k + 1) f fd ["_law_script"] (di (dF 15 (yD cc aA cn bf eB dm k9)) 1) := by
  refine Z.fn_dataT W Dd (G := ["_law_ground", "won", "range", "len", "zip", "tuple", "ring_of", "all", "judged"]) (by decide +kernel) fun cdv A outer s H E hr T => ?_
  exact (Z.ao (Z.bt T 1 rfl (Z.aO C29 hr T 0 rfl (Z.ag (Z.aa T 0 rfl) (Z.ag Z.ar Z.ay)) rfl (ae (ae aq))))
      (Z.ao (Z.qA (Z.aO C23 hr T 1 rfl (Z.ag (Z.aa T 1 rfl) Z.ay) rfl (ae aq)) (Z.eG T 2 3 rfl rfl))
      (Z.ao (Z.de (have T := T.nox; Z.fZ PassesOwn.never T.calm (Z.fB T 2 rfl b_range (Z.ag Z.ar Z.ay) (ae aq)) (Z.bz T 4 rfl) (Z.ao (Z.fA.fz (Z.fI 5 rfl (N := ["_law_who", "_law_ground_here", "_law_script", "_law_k"]) (own := 1) (G := ["_law_choice", "_law_drawn", "_law_mixed"]) (fr := [1, 0, 4]) T rfl rfl (oN := ["_law_script", "_law_ground_here", "_law_winners", "_law_told", "_law_k", "_law_drawn_here", "_law_start", "_law_who", "_law_mine", "_law_place_here", "_law_move", "_law_other", "_law_moves", "_law_way", "_law_ring"]) (on := (ah jB).names) (by decide +kernel) (Z.cE (Z.kD (Z.ag Z.ar (Z.ag Z.ar Z.ay)))) (bI (by decide)) (fun cl C s' H' fp E' T => ⟨(Z.bz T 0 rfl), Z.dt, (Z.aO C31 hr T 0 rfl (Z.ag (Z.aa T 1 rfl) (Z.ag (Z.aa T 0 rfl) (Z.ag (Z.aO C26 hr T 1 rfl (Z.ag (Z.aO C25 hr T 2 rfl (Z.ag (Z.aa T 2 rfl) (Z.ag Z.ar Z.ay)) rfl (ae (ae aq))) (Z.ag (Z.aa T 3 rfl) Z.ay)) rfl (ae (ae aq))) (Z.ag Z.ar Z.ay)))) rfl (ae (ae (ae (ae aq)))))⟩)) (show 5 < 15 by decide))
      (Z.aF (Z.de (have T := T.nox; Z.fZ PassesOwn.never T.calm (Z.fB T 2 rfl b_range (Z.ag (Z.dq T 3 rfl b_len (Z.ai.b (Z.aa T 1 rfl))) Z.ay) (ae aq)) (Z.bz T 6 rfl) (Z.ao (Z.bt T 7 rfl (Z.bn T.hu (Z.ai.b (Z.aa T 2 rfl)) (Z.ai.b (Z.aa T 6 rfl)) (fun _ _ => rfl)))
      (Z.ao (Z.iW T 8 rfl (Z.gk Z.ay))
      (Z.ao (Z.de (have T := T.nox; Z.fZ PassesOwn.never T.calm (Z.qt T 4 rfl b_zip (Z.aa T 1 rfl) (Z.aa T 3 rfl) (Z.bn T.hu (Z.ai.b (Z.aa T 5 rfl)) (Z.ai.b (Z.aa T 7 rfl)) (fun _ _ => rfl))) (Z.uA T 9 10 11 rfl rfl rfl) (Z.aF (Z.eV (Z.l9.t (Z.je (Z.lr (Z.ai.b (Z.aa T 10 rfl)) (Z.ai.b Z.da)) (Z.gR (Z.md T.hu (Z.ai.b (Z.bn T.hu (Z.ai.b (Z.aa T 9 rfl)) (Z.ai.b Z.ar) (fun _ _ => rfl))) (Z.ai.b (Z.aa T 7 rfl)))))) (Z.aF (Z.eQ T 8 rfl (Z.aa T 11 rfl))) (Z.aF (Z.eQ T 8 rfl (Z.aa T 10 rfl)))))))
      (Z.ao (Z.bt T 12 rfl (Z.gg.e (Z.gk (Z.ag (Z.bN T 5 rfl b_tuple (Z.cC T 8 rfl)) (Z.ag (Z.bn T.hu (Z.ai.b (Z.aa T 5 rfl)) (Z.ai.b Z.ar) (fun _ _ => rfl)) Z.ay)))))
      (Z.ao (Z.eV (Z.fi T.hu (Z.ai.b (Z.aa T 7 rfl)) (Z.ai.b Z.ar)) (Z.aF (Z.bt T 12 rfl (Z.gg.e (Z.gk (Z.ag (Z.bn T.hu (Z.ai.b (Z.aa T 5 rfl)) (Z.ai.b Z.ar) (fun _ _ => rfl)) (Z.ag (Z.bN T 5 rfl b_tuple (Z.cC T 8 rfl)) Z.ay)))))) Z.dI)
      (Z.ao (Z.qA (Z.aO C6 hr T 6 rfl (Z.ag (Z.aa T 1 rfl) (Z.ag (Z.bn T.hu (Z.ai.b (Z.aa T 12 rfl)) (Z.ai.b Z.ar) (fun _ _ => rfl)) (Z.ag (Z.bn T.hu (Z.ai.b (Z.aa T 12 rfl)) (Z.ai.b Z.ar) (fun _ _ => rfl)) (Z.ag (Z.aa T 6 rfl) Z.ay)))) rfl (ae (ae (ae (ae aq))))) (Z.eG T 13 14 rfl rfl))
      (Z.aF (Z.eV (Z.l9.t (Z.je (Z.fK (Z.e8 (Z.lK T 7 rfl b_all (Z.gg.b (Z.bC (N := ["_law_place_here", "_law_winners", "_law_who"]) (own := 1) (G := []) (fr := [2, 7]) T rfl rfl (oN := ["_law_script", "_law_ground_here", "_law_winners", "_law_told", "_law_k", "_law_drawn_here", "_law_start", "_law_who", "_law_mine", "_law_place_here", "_law_move", "_law_other", "_law_moves", "_law_way", "_law_ring"]) (on := (ah jB).names) (by decide +kernel) (Z.cE (Z.dL (Z.ai.b (Z.aa T 13 rfl)) (Z.ai.b (Z.aa T 14 rfl)))) (bI (by decide)) (fun cl C s' H' fp E' T => ⟨(Z.bz T 0 rfl), Z.dt, (Z.su T.hu (Z.ai.b (Z.bn T.hu (Z.ai.b (Z.aa T 1 rfl)) (Z.ai.b (Z.aa T 0 rfl)) (fun _ _ => rfl))) (Z.ai.b (Z.aa T 2 rfl)))⟩)))))) (Z.gR (Z.md T.hu (Z.ai.b (Z.aO C8 hr T 8 rfl (Z.ag (Z.aa T 1 rfl) (Z.ag (Z.aa T 14 rfl) Z.ay)) rfl (ae (ae aq)))) (Z.ai.b (Z.aa T 7 rfl)))))) (Z.aF (Z.bg Z.hR)) Z.dI))))))))))))))
      (Z.aF (Z.bg Z.hR)))))
end
noncomputable def F0 : List PyData -> R PyData := fun ds => open Classical in if ∃ ns : List Int, ns.length <= 63 /\ ds = [.list (ns.map .int)] then .ok (.bool true) else .no
theorem vc : yf F0 := fun ns h => if_pos ⟨ns, h, rfl⟩
theorem Dm {c_Share : Addr} (vs : List V) (H : Hp) (Q : VK) (E : XK) (h : di F0 1 vs H Q E) : di (vB c_Share) 1 vs H Q E := by
  obtain ⟨ds, r, hl, q⟩ := h;refine ⟨ds, r, hl, ?_⟩;by_cases hd : ∃ ns : List Int, ns.length <= 63 /\ ds = [.list (ns.map .int)]
  · obtain ⟨ns, h1, rfl⟩ := hd;rw [vc ns h1] at q;rw [yp c_Share ns h1];exact q
  · unfold F0 at q;rw [if_neg hd] at q;exact q.elim
theorem BB {l : PySem.W.OpenLaw} {w : World} {K : PySem.W.Frag} {h : Heap} {mg : Str -> Option Value} {fa : Addr} (X : K.In h) (G : h.Ns mainGlobals mg) (hfa : mg "law" = some (.ref fa))
    {f31 : Addr} {od31 an31 : Option Addr} {sl31 : Array (Option Value)} {oc31 kV31 dc31 pm31 cd31 ct31 : Value}
    {f0 : Addr} {d0 : FuncData} (q0 : cw K "_law_drawn" jI f0 d0)
    {f1 : Addr} {d1 : FuncData} (q1 : cw K "_law_choice" iR f1 d1)
    {f2 : Addr} {d2 : FuncData} (q2 : cw K "_law_cell_at" hV f2 d2)
    {f3 : Addr} {d3 : FuncData} (q3 : cw K "_law_mixed" jl f3 d3)
    {f4 : Addr} {d4 : FuncData} (q4 : cw K "_law_goals" jC f4 d4)
    {f5 : Addr} {d5 : FuncData} (q5 : cw K "_law_place" jF f5 d5)
    {f6 : Addr} {d6 : FuncData} (q6 : cw K "_law_ground" gj f6 d6)
    {f7 : Addr} {d7 : FuncData} (q7 : cw K "is_whole" kM f7 d7)
    {f8 : Addr} {d8 : FuncData} (q8 : cw K "is_between" iS f8 d8)
    {f9 : Addr} {d9 : FuncData} (q9 : cw K "is_number_of_place" dO f9 d9)
    {f10 : Addr} {d10 : FuncData} (q10 : cw K "is_ring" il f10 d10)
    {f11 : Addr} {d11 : FuncData} (q11 : cw K "judged" lb f11 d11)
    {f12 : Addr} {d12 : FuncData} (q12 : cw K "is_move" lX f12 d12)
    {f13 : Addr} {d13 : FuncData} (q13 : cw K "are_moves" gT f13 d13)
    {f14 : Addr} {d14 : FuncData} (q14 : cw K "moves_by_owners" dB f14 d14)
    {f15 : Addr} {d15 : FuncData} (q15 : cw K "ring_of" lL f15 d15)
    {f16 : Addr} {d16 : FuncData} (q16 : cw K "all_places" iP f16 d16)
    {f17 : Addr} {d17 : FuncData} (q17 : cw K "moves_at" iH f17 d17)
    {f18 : Addr} {d18 : FuncData} (q18 : cw K "moves_of_both" eF f18 d18)
    {f19 : Addr} {d19 : FuncData} (q19 : cw K "ranked" lh f19 d19)
    {f20 : Addr} {d20 : FuncData} (q20 : cw K "pulling_moves" dj f20 d20)
    {f21 : Addr} {d21 : FuncData} (q21 : cw K "common" ld f21 d21)
    {f22 : Addr} {d22 : FuncData} (q22 : cw K "is_forced" gW f22 d22)
    {f23 : Addr} {d23 : FuncData} (q23 : cw K "ranks_to" eJ f23 d23)
    {f24 : Addr} {d24 : FuncData} (q24 : cw K "no_moves" iN f24 d24)
    {f25 : Addr} {d25 : FuncData} (q25 : cw K "staying_moves" fY f25 d25)
    {f26 : Addr} {d26 : FuncData} (q26 : cw K "without" j8 f26 d26)
    {f27 : Addr} {d27 : FuncData} (q27 : cw K "share_by_marks" cA f27 d27)
    {f28 : Addr} {d28 : FuncData} (q28 : cw K "winners_and_moves" cR f28 d28)
    {f29 : Addr} {d29 : FuncData} (q29 : cw K "winners_within" fE f29 d29)
    {f30 : Addr} {d30 : FuncData} (q30 : cw K "won" yN f30 d30)
    (a31 : PySem.W.nsIn K mainGlobals "law" = some (some (.ref f31))) (l31 : K.lookup f31 = some ⟨oc31, od31, .func (PySem.W.fnOf "law" "law" (gp jB) (dS jB) (ah jB) .none kV31 dc31 pm31 an31 cd31 ct31), sl31⟩) (c31 : PySem.W.codeIn K cd31 "law" = true) (k31 : PySem.W.keepIn K (.ref f31) = true)
    {t0 : Tok} (qg0 : PySem.W.nsIn K mainGlobals "GOALS" = some (some (.int 3 t0)))
    {t1 : Tok} (qg1 : PySem.W.nsIn K mainGlobals "MARK" = some (some (.int 1 t1)))
    {t2 : Tok} (qg2 : PySem.W.nsIn K mainGlobals "WHO" = some (some (.int 0 t2)))
    (qz0 : PySem.W.nsIn K mainGlobals "all" = some none)
    (qz1 : PySem.W.nsIn K mainGlobals "bool" = some none)
    (qz2 : PySem.W.nsIn K mainGlobals "enumerate" = some none)
    (qz3 : PySem.W.nsIn K mainGlobals "int" = some none)
    (qz4 : PySem.W.nsIn K mainGlobals "isinstance" = some none)
    (qz5 : PySem.W.nsIn K mainGlobals "len" = some none)
    (qz6 : PySem.W.nsIn K mainGlobals "list" = some none)
    (qz7 : PySem.W.nsIn K mainGlobals "max" = some none)
    (qz8 : PySem.W.nsIn K mainGlobals "min" = some none)
    (qz9 : PySem.W.nsIn K mainGlobals "range" = some none)
    (qz10 : PySem.W.nsIn K mainGlobals "sorted" = some none)
    (qz11 : PySem.W.nsIn K mainGlobals "tuple" = some none)
    (qz12 : PySem.W.nsIn K mainGlobals "zip" = some none)
    {cc0 : Addr} (qm0 : PySem.W.nsIn K mainGlobals "NoMoves" = some (some (.ref cc0))) (qq0 : PySem.W.excIn K cc0 A0 zy = true)
    {cc1 : Addr} (qm1 : PySem.W.nsIn K mainGlobals "NoPart" = some (some (.ref cc1))) (qq1 : PySem.W.excIn K cc1 A0 zy = true)
    {c_Share fi_Share : Addr} {od_Share an_Share : Option Addr} {sl_Share : Array (Option Value)} {oc_Share kV_Share dc_Share pm_Share cd_Share ct_Share : Value}
    (qa_Share : PySem.W.nsIn K mainGlobals "Share" = some (some (.ref c_Share)))
    (qi_Share : PySem.W.findIn K (.ref c_Share) "__init__" = some (some (.ref fi_Share))) (qf_Share : PySem.W.isFn K (.ref fi_Share) = true)
    (ql_Share : K.lookup fi_Share = some ⟨oc_Share, od_Share, .func (PySem.W.fnOf "__init__" "Share.__init__" (gp jQ) (dS jQ) (ah jQ) .none kV_Share dc_Share pm_Share an_Share cd_Share ct_Share), sl_Share⟩)
    (qc_Share : PySem.W.codeIn K cd_Share "Share.__init__" = true) (qk_Share : PySem.W.keepIn K (.ref fi_Share) = true)
    (qpg_Share : PySem.W.plainGet K c_Share Str.empty = true) (qhd_Share : PySem.W.hasDictIn K c_Share = true) (qpo_Share : PySem.W.plainOver K c_Share = true) (qsa_Share : PySem.W.findIn K (.ref c_Share) "__setattr__" = some (some (.builtin "object.__setattr__"))) (qmk_Share : PySem.W.makesIn K c_Share = true) (qkc_Share : PySem.W.keepIn K (.ref c_Share) = true)
    (qn_Share_who : PySem.W.findIn K (.ref c_Share) "who" = some none)
    (qn_Share_places : PySem.W.findIn K (.ref c_Share) "places" = some none)
    (qn_Share_moves : PySem.W.findIn K (.ref c_Share) "moves" = some none)
    (nl : nF K = true) :
    nF K = true /\ ∃ fd : FuncData, (∀ (s : Shared) (v : Value), BindsTo s fd ⟨[v], []⟩ [("_law_script", v)]) /\ ∀ base : Heap, K.In base -> base.Ns mainGlobals mg -> aY l.prog w K mg base (cI l.prog w mg) 33 fa fd ["_law_script"] (di F0 1) := by
  have e := hfa.symm.trans (PySem.W.mg_of X G a31);cases e;have b0 := q0.fn.binds (ps := ["_law_number", "_law_k"]) fun _ _ _ _ _ _ us hl => match us, hl with | [_, _], _ => rfl
  have m0 := PySem.W.mg_of X G q0.ns;have b1 := q1.fn.binds (ps := ["_law_ground_here", "_law_who", "_law_number", "_law_share"]) fun _ _ _ _ _ _ us hl => match us, hl with | [_, _, _, _], _ => rfl
  have m1 := PySem.W.mg_of X G q1.ns;have b2 := q2.fn.binds (ps := ["_law_script", "_law_k"]) fun _ _ _ _ _ _ us hl => match us, hl with | [_, _], _ => rfl
  have m2 := PySem.W.mg_of X G q2.ns;have b3 := q3.fn.binds (ps := ["_law_script", "_law_k"]) fun _ _ _ _ _ _ us hl => match us, hl with | [_, _], _ => rfl
  have m3 := PySem.W.mg_of X G q3.ns;have b4 := q4.fn.binds (ps := ["_law_number", "_law_count"]) fun _ _ _ _ _ _ us hl => match us, hl with | [_, _], _ => rfl
  have m4 := PySem.W.mg_of X G q4.ns;have b5 := q5.fn.binds (ps := ["_law_number", "_law_count", "_law_high"]) fun _ _ _ _ _ _ us hl => match us, hl with | [_, _, _], _ => rfl
  have m5 := PySem.W.mg_of X G q5.ns;have b6 := q6.fn.binds (ps := ["_law_script", "_law_most"]) fun _ _ _ _ _ _ us hl => match us, hl with | [_, _], _ => rfl
  have m6 := PySem.W.mg_of X G q6.ns;have b7 := q7.fn.binds (ps := ["thing"]) fun _ _ _ _ _ _ us hl => match us, hl with | [_], _ => rfl
  have m7 := PySem.W.mg_of X G q7.ns;have b8 := q8.fn.binds (ps := ["thing", "low", "high"]) fun _ _ _ _ _ _ us hl => match us, hl with | [_, _, _], _ => rfl
  have m8 := PySem.W.mg_of X G q8.ns;have b9 := q9.fn.binds (ps := ["thing", "ground"]) fun _ _ _ _ _ _ us hl => match us, hl with | [_, _], _ => rfl
  have m9 := PySem.W.mg_of X G q9.ns;have b10 := q10.fn.binds (ps := ["thing", "ground"]) fun _ _ _ _ _ _ us hl => match us, hl with | [_, _], _ => rfl
  have m10 := PySem.W.mg_of X G q10.ns;have b11 := q11.fn.binds (ps := ["ground", "ring"]) fun _ _ _ _ _ _ us hl => match us, hl with | [_, _], _ => rfl
  have m11 := PySem.W.mg_of X G q11.ns;have b12 := q12.fn.binds (ps := ["thing", "place"]) fun _ _ _ _ _ _ us hl => match us, hl with | [_, _], _ => rfl
  have m12 := PySem.W.mg_of X G q12.ns;have b13 := q13.fn.binds (ps := ["thing", "ground"]) fun _ _ _ _ _ _ us hl => match us, hl with | [_, _], _ => rfl
  have m13 := PySem.W.mg_of X G q13.ns;have b14 := q14.fn.binds (ps := ["ground", "zero", "one"]) fun _ _ _ _ _ _ us hl => match us, hl with | [_, _, _], _ => rfl
  have m14 := PySem.W.mg_of X G q14.ns;have b15 := q15.fn.binds (ps := ["ground", "zero", "one", "start"]) fun _ _ _ _ _ _ us hl => match us, hl with | [_, _, _, _], _ => rfl
  have m15 := PySem.W.mg_of X G q15.ns;have b16 := q16.fn.binds (ps := ["ground"]) fun _ _ _ _ _ _ us hl => match us, hl with | [_], _ => rfl
  have m16 := PySem.W.mg_of X G q16.ns;have b17 := q17.fn.binds (ps := ["moves", "places"]) fun _ _ _ _ _ _ us hl => match us, hl with | [_, _], _ => rfl
  have m17 := PySem.W.mg_of X G q17.ns;have b18 := q18.fn.binds (ps := ["moves", "others"]) fun _ _ _ _ _ _ us hl => match us, hl with | [_, _], _ => rfl
  have m18 := PySem.W.mg_of X G q18.ns;have b19 := q19.fn.binds (ps := ["ranks"]) fun _ _ _ _ _ _ us hl => match us, hl with | [_], _ => rfl
  have m19 := PySem.W.mg_of X G q19.ns;have b20 := q20.fn.binds (ps := ["ground", "who", "ranks"]) fun _ _ _ _ _ _ us hl => match us, hl with | [_, _, _], _ => rfl
  have m20 := PySem.W.mg_of X G q20.ns;have b21 := q21.fn.binds (ps := ["some", "others"]) fun _ _ _ _ _ _ us hl => match us, hl with | [_, _], _ => rfl
  have m21 := PySem.W.mg_of X G q21.ns;have b22 := q22.fn.binds (ps := ["place", "ways", "who", "ranks"]) fun _ _ _ _ _ _ us hl => match us, hl with | [_, _, _, _], _ => rfl
  have m22 := PySem.W.mg_of X G q22.ns;have b23 := q23.fn.binds (ps := ["ground", "inside", "who", "goals"]) fun _ _ _ _ _ _ us hl => match us, hl with | [_, _, _, _], _ => rfl
  have m23 := PySem.W.mg_of X G q23.ns;have b24 := q24.fn.binds (ps := ["ground"]) fun _ _ _ _ _ _ us hl => match us, hl with | [_], _ => rfl
  have m24 := PySem.W.mg_of X G q24.ns;have b25 := q25.fn.binds (ps := ["ground", "who", "part"]) fun _ _ _ _ _ _ us hl => match us, hl with | [_, _, _], _ => rfl
  have m25 := PySem.W.mg_of X G q25.ns;have b26 := q26.fn.binds (ps := ["some", "others"]) fun _ _ _ _ _ _ us hl => match us, hl with | [_, _], _ => rfl
  have m26 := PySem.W.mg_of X G q26.ns;have b27 := q27.fn.binds (ps := ["ground", "inside"]) fun _ _ _ _ _ _ us hl => match us, hl with | [_, _], _ => rfl
  have m27 := PySem.W.mg_of X G q27.ns;have b28 := q28.fn.binds (ps := ["ground", "shares"]) fun _ _ _ _ _ _ us hl => match us, hl with | [_, _], _ => rfl
  have m28 := PySem.W.mg_of X G q28.ns;have b29 := q29.fn.binds (ps := ["ground", "inside"]) fun _ _ _ _ _ _ us hl => match us, hl with | [_, _], _ => rfl
  have m29 := PySem.W.mg_of X G q29.ns;have b30 := q30.fn.binds (ps := ["ground"]) fun _ _ _ _ _ _ us hl => match us, hl with | [_], _ => rfl
  have m30 := PySem.W.mg_of X G q30.ns;have F31 := uf (st := jB) l31 c31 k31;have FF_Share := uf (st := jQ) ql_Share qc_Share qk_Share;have bb_Share := FF_Share.binds (ps := ["self", "who", "places", "moves"]) fun _ _ _ _ _ _ us hl => match us, hl with | [_, _, _, _], _ => rfl
  have mm_Share := PySem.W.mg_of X G qa_Share;have ccl_Share : v8 K c_Share := ⟨qpg_Share, qhd_Share, qpo_Share, qsa_Share⟩
  have h0 := PySem.W.mg_of X G qg0;have h1 := PySem.W.mg_of X G qg1;have h2 := PySem.W.mg_of X G qg2;have n0 := PySem.W.mg_of X G qm0;have n1 := PySem.W.mg_of X G qm1;have y0 := PySem.W.mg_none_of X G qz0;have y1 := PySem.W.mg_none_of X G qz1;have y2 := PySem.W.mg_none_of X G qz2;have y3 := PySem.W.mg_none_of X G qz3;have y4 := PySem.W.mg_none_of X G qz4;have y5 := PySem.W.mg_none_of X G qz5;have y6 := PySem.W.mg_none_of X G qz6;have y7 := PySem.W.mg_none_of X G qz7;have y8 := PySem.W.mg_none_of X G qz8;have y9 := PySem.W.mg_none_of X G qz9;have y10 := PySem.W.mg_none_of X G qz10;have y11 := PySem.W.mg_none_of X G qz11;have y12 := PySem.W.mg_none_of X G qz12;refine ⟨nl, PySem.W.fnOf "law" "law" (gp jB) (dS jB) (ah jB) .none kV31 dc31 pm31 an31 cd31 ct31, fun s v => .of_eq rfl, fun base _ _ => ?_⟩;have QI_Share : aY l.prog w K mg base (cI l.prog w mg) 1 fi_Share _ ["self", "who", "places", "moves"] (DN c_Share ["who", "places", "moves"]) := AQ FF_Share ccl_Share qn_Share_who qn_Share_places qn_Share_moves;have Q0 : aY l.prog w K mg base (cI l.prog w mg) 1 f0 _ ["_law_number", "_law_k"] (di aA 2) := rA (k := 0) (W := q0.fn);have Q1 : aY l.prog w K mg base (cI l.prog w mg) 2 f1 _ ["_law_ground_here", "_law_who", "_law_number", "_law_share"] (di cc 4) := qp (k := 1) (W := q1.fn) (C26 := ⟨Q0.mono (by decide), m0, q0.fn.kp, b0⟩) (b_enumerate := y2) (b_len := y5) (b_tuple := y11);have Q2 : aY l.prog w K mg base (cI l.prog w mg) 1 f2 _ ["_law_script", "_law_k"] (di ce 2) := pe (k := 0) (W := q2.fn) (b_len := y5);have Q3 : aY l.prog w K mg base (cI l.prog w mg) 2 f3 _ ["_law_script", "_law_k"] (di bf 2) := sV (k := 1) (W := q3.fn) (C24 := ⟨Q2.mono (by decide), m2, q2.fn.kp, b2⟩);have Q4 : aY l.prog w K mg base (cI l.prog w mg) 2 f4 _ ["_law_number", "_law_count"] (di cL 2) := rQ (k := 1) (W := q4.fn) (C26 := ⟨Q0.mono (by decide), m0, q0.fn.kp, b0⟩) (b_int := y3) (b_range := y9) (b_sorted := y10) (b_tuple := y11);have Q5 : aY l.prog w K mg base (cI l.prog w mg) 3 f5 _ ["_law_number", "_law_count", "_law_high"] (di cz 3) := sr (k := 2) (W := q5.fn) (C26 := ⟨Q0.mono (by decide), m0, q0.fn.kp, b0⟩) (C27 := ⟨Q4.mono (by decide), m4, q4.fn.kp, b4⟩);have Q6 : aY l.prog w K mg base (cI l.prog w mg) 4 f6 _ ["_law_script", "_law_most"] (di cn 2) := qM (k := 3) (W := q6.fn) (C25 := ⟨Q3.mono (by decide), m3, q3.fn.kp, b3⟩) (C28 := ⟨Q5.mono (by decide), m5, q5.fn.kp, b5⟩) (b_len := y5) (b_max := y7) (b_min := y8) (b_range := y9) (b_tuple := y11);have Q7 : aY l.prog w K mg base (cI l.prog w mg) 1 f7 _ ["thing"] (di bT 1) := uE (k := 0) (W := q7.fn) (b_bool := y1) (b_int := y3) (b_isinstance := y4);have Q8 : aY l.prog w K mg base (cI l.prog w mg) 2 f8 _ ["thing", "low", "high"] (di cu 3) := qJ (k := 1) (W := q8.fn) (C0 := ⟨Q7.mono (by decide), m7, q7.fn.kp, b7⟩);have Q9 : aY l.prog w K mg base (cI l.prog w mg) 3 f9 _ ["thing", "ground"] (di az 2) := jE (k := 2) (W := q9.fn) (C1 := ⟨Q8.mono (by decide), m8, q8.fn.kp, b8⟩) (b_len := y5);have Q10 : aY l.prog w K mg base (cI l.prog w mg) 4 f10 _ ["thing", "ground"] (di cT 2) := vX (k := 3) (W := q10.fn) (C4 := ⟨Q9.mono (by decide), m9, q9.fn.kp, b9⟩) (g_GOALS := h0) (b_all := y0) (b_isinstance := y4) (b_len := y5) (b_tuple := y11) (b_zip := y12);have Q11 : aY l.prog w K mg base (cI l.prog w mg) 5 f11 _ ["ground", "ring"] (di eB 2) := yC (k := 4) (W := q11.fn) (C7 := ⟨Q10.mono (by decide), m10, q10.fn.kp, b10⟩) (g_MARK := h1) (b_max := y7) (m_NoPart := n1) (q_NoPart := qq1);have Q12 : aY l.prog w K mg base (cI l.prog w mg) 2 f12 _ ["thing", "place"] (di dn 2) := wq (k := 1) (W := q12.fn) (C0 := ⟨Q7.mono (by decide), m7, q7.fn.kp, b7⟩) (g_GOALS := h0);have Q13 : aY l.prog w K mg base (cI l.prog w mg) 3 f13 _ ["thing", "ground"] (di cy 2) := rM (k := 2) (W := q13.fn) (C2 := ⟨Q12.mono (by decide), m12, q12.fn.kp, b12⟩) (b_all := y0) (b_isinstance := y4) (b_len := y5) (b_tuple := y11) (b_zip := y12);have Q14 : aY l.prog w K mg base (cI l.prog w mg) 1 f14 _ ["ground", "zero", "one"] (di bq 3) := kX (k := 0) (W := q14.fn) (g_WHO := h2) (b_enumerate := y2) (b_tuple := y11);have Q15 : aY l.prog w K mg base (cI l.prog w mg) 4 f15 _ ["ground", "zero", "one", "start"] (di dm 4) := wW (k := 3) (W := q15.fn) (C3 := ⟨Q13.mono (by decide), m13, q13.fn.kp, b13⟩) (C4 := ⟨Q9.mono (by decide), m9, q9.fn.kp, b9⟩) (C5 := ⟨Q14.mono (by decide), m14, q14.fn.kp, b14⟩) (b_tuple := y11) (m_NoMoves := n0) (q_NoMoves := qq0) (m_NoPart := n1) (q_NoPart := qq1);have Q16 : aY l.prog w K mg base (cI l.prog w mg) 1 f16 _ ["ground"] (di cq 1) := qI (k := 0) (W := q16.fn) (b_len := y5) (b_range := y9) (b_tuple := y11);have Q17 : aY l.prog w K mg base (cI l.prog w mg) 1 f17 _ ["moves", "places"] (di cD 2) := uy (k := 0) (W := q17.fn) (b_enumerate := y2) (b_tuple := y11);have Q18 : aY l.prog w K mg base (cI l.prog w mg) 1 f18 _ ["moves", "others"] (di aC 2) := mV (k := 0) (W := q18.fn) (b_tuple := y11) (b_zip := y12);have Q19 : aY l.prog w K mg base (cI l.prog w mg) 1 f19 _ ["ranks"] (di ca 1) := zi (k := 0) (W := q19.fn) (b_enumerate := y2) (b_tuple := y11);have Q20 : aY l.prog w K mg base (cI l.prog w mg) 2 f20 _ ["ground", "who", "ranks"] (di aZ 3) := nk (k := 1) (W := q20.fn) (C19 := ⟨Q19.mono (by decide), m19, q19.fn.kp, b19⟩) (g_GOALS := h0) (g_WHO := h2) (b_tuple := y11);have Q21 : aY l.prog w K mg base (cI l.prog w mg) 1 f21 _ ["some", "others"] (di bZ 2) := yo (k := 0) (W := q21.fn) (b_tuple := y11);have Q22 : aY l.prog w K mg base (cI l.prog w mg) 1 f22 _ ["place", "ways", "who", "ranks"] (di bO 4) := rE (k := 0) (W := q22.fn) (g_WHO := h2) (b_len := y5);have Q23 : aY l.prog w K mg base (cI l.prog w mg) 2 f23 _ ["ground", "inside", "who", "goals"] (di cj 4) := tT (k := 1) (W := q23.fn) (C10 := ⟨Q21.mono (by decide), m21, q21.fn.kp, b21⟩) (C17 := ⟨Q22.mono (by decide), m22, q22.fn.kp, b22⟩) (g_GOALS := h0) (b_len := y5) (b_list := y6) (b_range := y9) (b_tuple := y11);have Q24 : aY l.prog w K mg base (cI l.prog w mg) 1 f24 _ ["ground"] (di bM 1) := tU (k := 0) (W := q24.fn) (b_tuple := y11);have Q25 : aY l.prog w K mg base (cI l.prog w mg) 2 f25 _ ["ground", "who", "part"] (di bo 3) := nu (k := 1) (W := q25.fn) (C10 := ⟨Q21.mono (by decide), m21, q21.fn.kp, b21⟩) (C12 := ⟨Q24.mono (by decide), m24, q24.fn.kp, b24⟩) (g_GOALS := h0) (g_WHO := h2) (b_list := y6) (b_tuple := y11);have Q26 : aY l.prog w K mg base (cI l.prog w mg) 1 f26 _ ["some", "others"] (di bJ 2) := wa (k := 0) (W := q26.fn) (b_tuple := y11);have Q28 : aY l.prog w K mg base (cI l.prog w mg) 2 f28 _ ["ground", "shares"] (di (aW c_Share) 2) := kf (k := 1) (W := q28.fn) (C13 := ⟨Q18.mono (by decide), m18, q18.fn.kp, b18⟩) (C12 := ⟨Q24.mono (by decide), m24, q24.fn.kp, b24⟩) (b_tuple := y11) (cl_Share := ccl_Share) (n_Share_moves := qn_Share_moves) (n_Share_places := qn_Share_places) (n_Share_who := qn_Share_who);have HH29 : ∀ n, aY l.prog w K mg base (cI l.prog w mg) (2 * n + 3) f29 _ ["ground", "inside"] (di (aG c_Share n) 2) -> aY l.prog w K mg base (cI l.prog w mg) (2 * n + 4) f27 _ ["ground", "inside"] (di (aT c_Share n) 2) := fun n ih => lM (k := 2 * n + 3) (W := q27.fn) (C22 := ⟨ih, m29, q29.fn.kp, b29⟩) (C14 := ⟨Q17.mono (by omega), m17, q17.fn.kp, b17⟩) (C13 := ⟨Q18.mono (by omega), m18, q18.fn.kp, b18⟩) (C20 := ⟨Q20.mono (by omega), m20, q20.fn.kp, b20⟩) (C19 := ⟨Q19.mono (by omega), m19, q19.fn.kp, b19⟩) (C18 := ⟨Q23.mono (by omega), m23, q23.fn.kp, b23⟩) (C15 := ⟨Q25.mono (by omega), m25, q25.fn.kp, b25⟩) (C11 := ⟨Q26.mono (by omega), m26, q26.fn.kp, b26⟩) (g_MARK := h1) (b_enumerate := y2) (b_len := y5) (b_max := y7) (cl_Share := ccl_Share) (n_Share_moves := qn_Share_moves) (n_Share_places := qn_Share_places) (n_Share_who := qn_Share_who) (m_Share := mm_Share) (MK_Share := ⟨qmk_Share, qi_Share, qf_Share, qkc_Share⟩) (I_Share := QI_Share) (B_Share := bb_Share) (hk := by omega)
  have Q29 : ∀ n, aY l.prog w K mg base (cI l.prog w mg) (2 * n + 3) f29 _ ["ground", "inside"] (di (aG c_Share n) 2) := fun n => by
    induction n with
    | zero => exact wL
    | succ n ih => exact l5 (k := 2 * n + 4) (W := q29.fn) (C21 := ⟨HH29 n ih, m27, q27.fn.kp, b27⟩) (C16 := ⟨Q28.mono (by omega), m28, q28.fn.kp, b28⟩) (C11 := ⟨Q26.mono (by omega), m26, q26.fn.kp, b26⟩) (b_len := y5) (cl_Share := ccl_Share) (n_Share_places := qn_Share_places)
  have Q29 := Q29 14;have Q30 : aY l.prog w K mg base (cI l.prog w mg) 32 f30 _ ["ground"] (di (k9 c_Share) 1) := D8 (k := 31) (W := q30.fn) (C9 := ⟨Q16.mono (by decide), m16, q16.fn.kp, b16⟩) (C22 := ⟨Q29.mono (by decide), m29, q29.fn.kp, b29⟩);have Q31 : aY l.prog w K mg base (cI l.prog w mg) 33 fa _ ["_law_script"] (di (vB c_Share) 1) := Dv (k := 32) (W := F31) (C31 := ⟨Q1.mono (by decide), m1, q1.fn.kp, b1⟩) (C26 := ⟨Q0.mono (by decide), m0, q0.fn.kp, b0⟩) (C29 := ⟨Q6.mono (by decide), m6, q6.fn.kp, b6⟩) (C25 := ⟨Q3.mono (by decide), m3, q3.fn.kp, b3⟩) (C8 := ⟨Q11.mono (by decide), m11, q11.fn.kp, b11⟩) (C6 := ⟨Q15.mono (by decide), m15, q15.fn.kp, b15⟩) (C23 := ⟨Q30.mono (by decide), m30, q30.fn.kp, b30⟩) (b_all := y0) (b_len := y5) (b_range := y9) (b_tuple := y11) (b_zip := y12);exact Q31.imp Dm
end G
open PySem PySem.W PyProof.Rows
set_option maxRecDepth 100000 in
set_option maxHeartbeats 0 in
theorem PySem.Challenge.cw_duelground_k51_whole_plays_holds : PySem.Challenge.rw_duelground_k51_whole_plays.Holds := by
  w_on; o_law; k_head; (case hw => w_witness2)
  k_fill
  refine D2.EZ (l := PySem.Challenge.rw_duelground_k51_whole_plays) (k := 33) (x := "_law_script") (F := G.F0) rfl rfl ⟨rfl, by decide, by decide⟩ (fun w h Y => PySem.W.kIn_of Y) G.vc ?F
  case F =>
    intro w mg fa h KX GG hmg;refine' G.BB KX GG hmg ?q0 ?q1 ?q2 ?q3 ?q4 ?q5 ?q6 ?q7 ?q8 ?q9 ?q10 ?q11 ?q12 ?q13 ?q14 ?q15 ?q16 ?q17 ?q18 ?q19 ?q20 ?q21 ?q22 ?q23 ?q24 ?q25 ?q26 ?q27 ?q28 ?q29 ?q30 ?a31 ?l31 ?c31 ?k31 ?qg0 ?qg1 ?qg2 ?qz0 ?qz1 ?qz2 ?qz3 ?qz4 ?qz5 ?qz6 ?qz7 ?qz8 ?qz9 ?qz10 ?qz11 ?qz12 ?qm0 ?qq0 ?qm1 ?qq1 ?qa_Share ?qi_Share ?qf_Share ?ql_Share ?qc_Share ?qk_Share ?qpg_Share ?qhd_Share ?qpo_Share ?qsa_Share ?qmk_Share ?qkc_Share ?qn_Share_who ?qn_Share_places ?qn_Share_moves ?nl
    (case q0 => refine' D2.aV ?a ?l ?c ?k; (case a => k_is); (case l => k_is); (case c => k_is); (case k => k_is))
    (case q1 => refine' D2.aV ?a ?l ?c ?k; (case a => k_is); (case l => k_is); (case c => k_is); (case k => k_is))
    (case q2 => refine' D2.aV ?a ?l ?c ?k; (case a => k_is); (case l => k_is); (case c => k_is); (case k => k_is))
    (case q3 => refine' D2.aV ?a ?l ?c ?k; (case a => k_is); (case l => k_is); (case c => k_is); (case k => k_is))
    (case q4 => refine' D2.aV ?a ?l ?c ?k; (case a => k_is); (case l => k_is); (case c => k_is); (case k => k_is))
    (case q5 => refine' D2.aV ?a ?l ?c ?k; (case a => k_is); (case l => k_is); (case c => k_is); (case k => k_is))
    (case q6 => refine' D2.aV ?a ?l ?c ?k; (case a => k_is); (case l => k_is); (case c => k_is); (case k => k_is))
    (case q7 => refine' D2.aV ?a ?l ?c ?k; (case a => k_is); (case l => k_is); (case c => k_is); (case k => k_is))
    (case q8 => refine' D2.aV ?a ?l ?c ?k; (case a => k_is); (case l => k_is); (case c => k_is); (case k => k_is))
    (case q9 => refine' D2.aV ?a ?l ?c ?k; (case a => k_is); (case l => k_is); (case c => k_is); (case k => k_is))
    (case q10 => refine' D2.aV ?a ?l ?c ?k; (case a => k_is); (case l => k_is); (case c => k_is); (case k => k_is))
    (case q11 => refine' D2.aV ?a ?l ?c ?k; (case a => k_is); (case l => k_is); (case c => k_is); (case k => k_is))
    (case q12 => refine' D2.aV ?a ?l ?c ?k; (case a => k_is); (case l => k_is); (case c => k_is); (case k => k_is))
    (case q13 => refine' D2.aV ?a ?l ?c ?k; (case a => k_is); (case l => k_is); (case c => k_is); (case k => k_is))
    (case q14 => refine' D2.aV ?a ?l ?c ?k; (case a => k_is); (case l => k_is); (case c => k_is); (case k => k_is))
    (case q15 => refine' D2.aV ?a ?l ?c ?k; (case a => k_is); (case l => k_is); (case c => k_is); (case k => k_is))
    (case q16 => refine' D2.aV ?a ?l ?c ?k; (case a => k_is); (case l => k_is); (case c => k_is); (case k => k_is))
    (case q17 => refine' D2.aV ?a ?l ?c ?k; (case a => k_is); (case l => k_is); (case c => k_is); (case k => k_is))
    (case q18 => refine' D2.aV ?a ?l ?c ?k; (case a => k_is); (case l => k_is); (case c => k_is); (case k => k_is))
    (case q19 => refine' D2.aV ?a ?l ?c ?k; (case a => k_is); (case l => k_is); (case c => k_is); (case k => k_is))
    (case q20 => refine' D2.aV ?a ?l ?c ?k; (case a => k_is); (case l => k_is); (case c => k_is); (case k => k_is))
    (case q21 => refine' D2.aV ?a ?l ?c ?k; (case a => k_is); (case l => k_is); (case c => k_is); (case k => k_is))
    (case q22 => refine' D2.aV ?a ?l ?c ?k; (case a => k_is); (case l => k_is); (case c => k_is); (case k => k_is))
    (case q23 => refine' D2.aV ?a ?l ?c ?k; (case a => k_is); (case l => k_is); (case c => k_is); (case k => k_is))
    (case q24 => refine' D2.aV ?a ?l ?c ?k; (case a => k_is); (case l => k_is); (case c => k_is); (case k => k_is))
    (case q25 => refine' D2.aV ?a ?l ?c ?k; (case a => k_is); (case l => k_is); (case c => k_is); (case k => k_is))
    (case q26 => refine' D2.aV ?a ?l ?c ?k; (case a => k_is); (case l => k_is); (case c => k_is); (case k => k_is))
    (case q27 => refine' D2.aV ?a ?l ?c ?k; (case a => k_is); (case l => k_is); (case c => k_is); (case k => k_is))
    (case q28 => refine' D2.aV ?a ?l ?c ?k; (case a => k_is); (case l => k_is); (case c => k_is); (case k => k_is))
    (case q29 => refine' D2.aV ?a ?l ?c ?k; (case a => k_is); (case l => k_is); (case c => k_is); (case k => k_is))
    (case q30 => refine' D2.aV ?a ?l ?c ?k; (case a => k_is); (case l => k_is); (case c => k_is); (case k => k_is))
    (case a31 => k_is)
    (case l31 => k_is)
    (case c31 => k_is)
    (case k31 => k_is)
    (case qg0 => k_is)
    (case qg1 => k_is)
    (case qg2 => k_is)
    (case qz0 => k_is)
    (case qz1 => k_is)
    (case qz2 => k_is)
    (case qz3 => k_is)
    (case qz4 => k_is)
    (case qz5 => k_is)
    (case qz6 => k_is)
    (case qz7 => k_is)
    (case qz8 => k_is)
    (case qz9 => k_is)
    (case qz10 => k_is)
    (case qz11 => k_is)
    (case qz12 => k_is)
    (case qm0 => k_is)
    (case qq0 => k_exc)
    (case qm1 => k_is)
    (case qq1 => k_exc)
    (case qa_Share => k_is)
    (case qi_Share => k_is)
    (case qf_Share => k_is)
    (case ql_Share => k_is)
    (case qc_Share => k_is)
    (case qk_Share => k_is)
    (case qpg_Share => k_is)
    (case qhd_Share => k_is)
    (case qpo_Share => k_is)
    (case qsa_Share => k_is)
    (case qmk_Share => k_is)
    (case qkc_Share => k_is)
    (case qn_Share_who => k_is)
    (case qn_Share_places => k_is)
    (case qn_Share_moves => k_is)
    (case nl => first | rfl | k_is | decide)

import PyProof.Rows.All
import Wide.All
import OpenK.AllK
import Wide.FinOn
import Lean
import PyProof.EqAt
import PyProof.EqKinds
import PyProof.TupleCall
import PySem.Challenge.RW_duelground_k50_rings
set_option Elab.async false
set_option linter.all false
set_option maxRecDepth 100000
namespace L2
open PySem PySem.Spec PyProof.Rows
abbrev cg := Sum Int Str
def lr : cg -> Value -> Bool
  | .inl k, v => Value.isInt k v
  | .inr x, v => Value.isStrOf x v
def Ar (w : World) : cg -> Int
  | .inl k => hashInt k
  | .inr x => hashStr w x
theorem bM : ∀ {k : cg} {v : Value}, lr k v = true -> (∃ i t, k = Sum.inl i /\ v = Value.int i t) \/ (∃ x t, k = Sum.inr x /\ v = Value.str x t)
  | .inl i, v, h => by
    obtain ⟨t, e⟩ := Value.isInt_shape (k := i) (v := v) h;exact .inl ⟨i, t, rfl, e⟩
  | .inr x, v, h => by
    obtain ⟨t, e⟩ := Value.isStrOf_shape (x := x) (v := v) h;exact .inr ⟨x, t, rfl, e⟩
theorem sE (i : Int) (t : Tok) : lr (.inl i) (.int i t) = true := by simp [lr, Value.isInt]
theorem rW (x : Str) (t : Tok) : lr (.inr x) (.str x t) = true := by simp [lr, Value.isStrOf]
theorem xE (a b : Int) : decide ((Sum.inl a : cg) = Sum.inl b) = (a == b) := by
  by_cases e : a = b
  · subst e; simp
  · have h : ¬ (Sum.inl a : cg) = Sum.inl b := fun q => e (Sum.inl.inj q)
    rw [decide_eq_false h];exact (beq_eq_false_iff_ne.mpr e).symm
theorem xU (a b : Str) : decide ((Sum.inr a : cg) = Sum.inr b) = decide (a = b) := by
  by_cases e : a = b
  · subst e; simp
  · have h : ¬ (Sum.inr a : cg) = Sum.inr b := fun q => e (Sum.inr.inj q)
    rw [decide_eq_false h, decide_eq_false e]
theorem xi (a : Int) (b : Str) : decide ((Sum.inl a : cg) = Sum.inr b) = false := decide_eq_false (fun q => nomatch q)
theorem xG (a : Str) (b : Int) : decide ((Sum.inr a : cg) = Sum.inl b) = false := decide_eq_false (fun q => nomatch q)
def cw (prog : Program) (w : World) : PySem.KeyKind prog w cg where
  is := lr
  hash := Ar w
  inj := fun v a b ha hb => by
    rcases bM ha with ⟨i, t, rfl, rfl⟩ | ⟨x, t, rfl, rfl⟩
    · rcases bM hb with ⟨j, u, rfl, e⟩ | ⟨y, u, rfl, e⟩
      · injection e with e1 _; rw [e1]
      · exact nomatch e
    · rcases bM hb with ⟨j, u, rfl, e⟩ | ⟨y, u, rfl, e⟩
      · exact nomatch e
      · injection e with e1 _; rw [e1]
  byValue := fun k v h => by
    rcases bM h with ⟨i, t, rfl, rfl⟩ | ⟨x, t, rfl, rfl⟩ <;> rfl
  pyHash := fun hv h => by
    rcases bM hv with ⟨i, t, rfl, rfl⟩ | ⟨x, t, rfl, rfl⟩
    · exact wpAny_pyHash_int h
    · exact wpAny_pyHash_str h
  eqBool := fun hu hv h => by
    rcases bM hu with ⟨i, t, rfl, rfl⟩ | ⟨x, t, rfl, rfl⟩
    · rcases bM hv with ⟨j, u, rfl, rfl⟩ | ⟨y, u, rfl, rfl⟩
      · rw [xE] at h; exact wpAny_eqBool_int h
      · rw [xi] at h; exact SeqAt.EqAt.int_str i t y u _ _ _ _ h
    · rcases bM hv with ⟨j, u, rfl, rfl⟩ | ⟨y, u, rfl, rfl⟩
      · rw [xG] at h; exact SeqAt.EqAt.str_int x t j u _ _ _ _ h
      · rw [xU] at h; exact wpAny_eqBool_str h
  «strs» := fun k x t v h => by
    rcases bM h with ⟨i, u, rfl, e⟩ | ⟨y, u, rfl, e⟩
    · exact nomatch e
    · injection e with e1 _
      subst e1;cases v <;> rfl
theorem oM (prog : Program) (w : World) (i : Int) (t : Tok) : (cw prog w).is (.inl i) (.int i t) = true := sE i t
theorem pr (prog : Program) (w : World) (x : Str) (t : Tok) : (cw prog w).is (.inr x) (.str x t) = true := rW x t
inductive V where
  | non | bl (b : Bool) | int (i : Int) | str (x : Str) | byt (b : Array UInt8) | flt (b : UInt64) | ref (a : Addr) | ty (n : String)
  deriving DecidableEq
def bx : V -> Value -> Prop
  | .non, u => u = Value.none
  | .bl b, u => u = Value.bool b
  | .int i, u => ∃ t, u = Value.int i t
  | .str x, u => ∃ t, u = Value.str x t
  | .byt b, u => ∃ t, u = Value.bytes b t
  | .flt b, u => ∃ t, u = Value.float b t
  | .ref a, u => u = Value.ref a
  | .ty n, u => u = Value.type n
abbrev bq : List V -> List Value -> Prop := Paired bx
theorem bq.length {xs : List V} {us : List Value} (r : bq xs us) : xs.length = us.length := Paired.length r
theorem bq.get : ∀ {xs : List V} {us : List Value} {i : Nat} {x : V}, bq xs us -> xs[i]? = some x -> ∃ u, us[i]? = some u /\ bx x u
  | _, _, _, _, .nil, e => by simp at e
  | _, _, 0, _, .cons r _, e => by simp at e; subst e; exact ⟨_, rfl, r⟩
  | _, _, i + 1, x, .cons _ t, e => by
    obtain ⟨u, h1, h2⟩ := bq.get (i := i) (x := x) t (by simpa using e);exact ⟨u, by simpa using h1, h2⟩
theorem bq.append : ∀ {xs ys : List V} {us ws : List Value}, bq xs us -> bq ys ws -> bq (xs ++ ys) (us ++ ws)
  | _, _, _, _, .nil, s => s
  | _, _, _, _, .cons r t, s => .cons r (bq.append t s)
theorem bq.take : ∀ {xs : List V} {us : List Value} (n : Nat), bq xs us -> bq (xs.take n) (us.take n)
  | _, _, 0, _ => .nil
  | _, _, _ + 1, .nil => .nil
  | _, _, n + 1, .cons r t => .cons r (bq.take n t)
theorem bq.drop : ∀ {xs : List V} {us : List Value} (n : Nat), bq xs us -> bq (xs.drop n) (us.drop n)
  | _, _, 0, r => r
  | _, _, _ + 1, .nil => .nil
  | _, _, n + 1, .cons _ t => bq.drop n t
def lM : Option V -> Option Value -> Prop
  | some v, some u => bx v u
  | none, none => True
  | _, _ => False
def KV {κ : Type} : List (κ × V) -> List (κ × Value) -> Prop := Paired fun (p : κ × V) (q : κ × Value) => p.1 = q.1 /\ bx p.2 q.2
def kV : cg -> V
  | .inl i => .int i
  | .inr x => .str x
inductive HO where
  /-- a list -/
  | lst (xs : List V)
  /-- a tuple (never changes) -/
  | tup (xs : List V)
  /-- a dict whose keys are ints and texts; one whose keys are tuples of ints and texts (the empty one is both) -/
  | dK (kvs : List (cg × V)) | dT (kvs : List (List cg × V))
  /-- a set of ints: its members, its size -/
  | set (S : Int -> Bool) (n : Nat)
  /-- an instance of the class at C, its dict at dx, its attributes -/
  | ins (C dx : Addr) (fs : List (Str × V))
  /-- the dict of the instance at x -/
  | own (x : Addr)
  /-- the dict of an exception -/
  | xd (fs : List (Str × V))
  /-- a bound method, f of x -/
  | met (f x : Addr)
  /-- a range object lo, lo + 1, .. below hi -/
  | rng (lo hi : Int)
  /-- a thing that is known to the object (the script; a dict while a loop walks it): read, never written while it is so -/
  | frz (o : Obj) (u : HO)
  /-- a code object's table -/
  | tbl (ps : Array Value)
  /-- any other thing, by what is true of its one object (a def of one's own: SetO a S n := HO.ext fun h => ..) -/
  | ext (φ : Heap -> Prop)
abbrev Hp := Addr -> Option HO
def cW (H : Hp) (a : Addr) (o : HO) : Hp := fun b => if b = a then some o else H b
theorem bQ {H : Hp} {a : Addr} {o : HO} : cW H a o a = some o := by unfold cW; rw [if_pos rfl]
theorem aI {H : Hp} {a b : Addr} {o : HO} (h : b ≠ a) : cW H a o b = H b := by unfold cW; rw [if_neg h]
theorem zm {H : Hp} {a b : Addr} {o u : HO} (h : H a = some o) (h' : H b = some u) (d : o ≠ u) : a ≠ b := by
  intro e; subst e; rw [h] at h'; exact d (Option.some.inj h')
theorem aX {H : Hp} {a b : Addr} {o : HO} (h : H a = some o) (h' : H b = none) : a ≠ b := by
  intro e; subst e; rw [h] at h'; cases h'
section
variable (P : Program) (w : World)
def bE (H : Hp) (h : Heap) (a : Addr) : HO -> Prop
  | .lst xs => xs.length <= sizeLine /\ ∃ (its : List Value) (n : Nat), bq xs its /\ h.get? a = some { cls := .type "list", data := .seq its.toArray n }
  | .tup xs => xs.length <= sizeLine /\ ∃ its : List Value, bq xs its /\ IsTup h a its.toArray
  | .dK kvs => kvs.length <= sizeLine /\ (a == sysModules) = false /\ ∃ vs, KV kvs vs /\ h.DictOf (cw P w) a vs
  | .dT kvs => kvs.length <= sizeLine /\ (a == sysModules) = false /\ ∃ xs : List (List cg × Addr × Value),
      Paired (fun (p : List cg × V) (q : List cg × Addr × Value) => p.1 = q.1 /\ H q.2.1 = some (.tup (p.1.map kV)) /\ bx p.2 q.2.2) kvs xs /\
      ∃ o es ep, h.get? a = some o /\ o.ExactDict /\ o.data = .dict es ep /\ es.toList = xs.map (entryOfKey (tupleKind (cw P w))) /\ (xs.map (·.1)).Nodup
  | .set S n => h.SetOf (intKind P w) a S n
  | .ins C dx fs => H dx = some (.own a) /\ fs.length <= 1000 /\ dx ≠ a /\ h.get? a = some (PySem.W.instObj C dx) /\
      ∃ mA, h.Ns1 dx mA /\ (∀ f, lM (fs.lookup f) (mA f)) /\ PySem.Within mA (fs.map (·.1))
  | .own _ => ∃ o, h.get? a = some o
  | .xd fs => ∃ mA, h.Ns1 a mA /\ ∀ f, lM (fs.lookup f) (mA f)
  | .rng lo hi => ∃ t u v, h.get? a = some { cls := .type "range", data := .fields #[.int lo t, .int hi u, .int 1 v] }
  | .frz o u => h.get? a = some o /\ bE H h a u
  | .tbl ps => h.get? a = some { cls := .none, data := .fields ps }
  | .met f x => h.get? a = some (PySem.W.methodObj (.ref f) (.ref x))
  | .ext φ => φ h /\ (∃ o, h.get? a = some o) /\ ∀ h1 h2 : Heap, φ h1 -> (∀ o, h1.get? a = some o -> h2.get? a = some o) -> φ h2
def fH (H : Hp) (h : Heap) : Prop := ∀ a o, H a = some o -> bE P w H h a o
end
section
variable {P : Program} {w : World} {H H' : Hp} {h h' : Heap} {a : Addr} {o : HO}
theorem bE.lt (x : bE P w H h a o) : a < h.objs.size := by
  cases o with
  | lst xs => obtain ⟨_, _, _, _, e⟩ := x; exact Heap.lt_size e
  | tup xs => obtain ⟨_, _, _, p⟩ := x; exact p.lt
  | dK kvs => obtain ⟨_, _, _, _, o, _, _, e, _⟩ := x; exact Heap.lt_size e
  | dT kvs => obtain ⟨_, _, _, _, o, _, _, e, _⟩ := x; exact Heap.lt_size e
  | set S n => obtain ⟨o, _, _, _, e, _⟩ := x; exact Heap.lt_size e
  | ins C dx fs => obtain ⟨_, _, _, e, _⟩ := x; exact Heap.lt_size e
  | own y => obtain ⟨_, e⟩ := x; exact Heap.lt_size e
  | xd fs => obtain ⟨_, ⟨_, _, _, e, _⟩, _⟩ := x; exact Heap.lt_size e
  | rng lo hi => obtain ⟨_, _, _, e⟩ := x; exact Heap.lt_size e
  | frz ob u => obtain ⟨e, _⟩ := x; exact Heap.lt_size e
  | tbl ps => exact Heap.lt_size (show h.get? a = some _ from x)
  | met f y => exact Heap.lt_size (show h.get? a = some _ from x)
  | ext φ => obtain ⟨_, ⟨_, e⟩, _⟩ := x; exact Heap.lt_size e
theorem Paired.mapP {α β : Type} {F G : α -> β -> Prop} : ∀ {l₁ : List α} {l₂ : List β}, Paired F l₁ l₂ -> (∀ a b, F a b -> G a b) -> Paired G l₁ l₂
  | _, _, .nil, _ => .nil
  | _, _, .cons r t, f => .cons (f _ _ r) (Paired.mapP t f)
theorem bE.stay (x : bE P w H h a o) (k : ∀ b u, (b = a \/ H b = some (.own a)) -> h.get? b = some u -> h'.get? b = some u)
    (ho : ∀ b, H b = some (.own a) -> H' b = some (.own a)) (ht : ∀ b xs, H b = some (.tup xs) -> H' b = some (.tup xs)) : bE P w H' h' a o := by
  induction o with
  | lst xs => obtain ⟨z, its, n, r, e⟩ := x; exact ⟨z, its, n, r, k _ _ (.inl rfl) e⟩
  | tup xs => obtain ⟨z, its, r, ob, e, c⟩ := x; exact ⟨z, its, r, ob, k _ _ (.inl rfl) e, c⟩
  | dK kvs => obtain ⟨z, y, vs, r, ob, es, ep, e, c⟩ := x; exact ⟨z, y, vs, r, ob, es, ep, k _ _ (.inl rfl) e, c⟩
  | dT kvs =>
    obtain ⟨z, y, xs, r, ob, es, ep, e, c⟩ := x;exact ⟨z, y, xs, Paired.mapP r fun p q z => ⟨z.1, ht _ _ z.2.1, z.2.2⟩, ob, es, ep, k _ _ (.inl rfl) e, c⟩
  | set S n => obtain ⟨ob, es, ep, t, e, c⟩ := x; exact ⟨ob, es, ep, t, k _ _ (.inl rfl) e, c⟩
  | ins C dx fs =>
    obtain ⟨d, z, ne, e, mA, ⟨od, es, ep, e2, c⟩, r⟩ := x;exact ⟨ho _ d, z, ne, k _ _ (.inl rfl) e, mA, ⟨od, es, ep, k _ _ (.inr d) e2, c⟩, r⟩
  | own y => obtain ⟨ob, e⟩ := x; exact ⟨ob, k _ _ (.inl rfl) e⟩
  | xd fs => obtain ⟨mA, ⟨od, es, ep, e, c⟩, r⟩ := x; exact ⟨mA, ⟨od, es, ep, k _ _ (.inl rfl) e, c⟩, r⟩
  | rng lo hi => obtain ⟨t, u, v, e⟩ := x; exact ⟨t, u, v, k _ _ (.inl rfl) e⟩
  | frz ob u ih => obtain ⟨e, q⟩ := x; exact ⟨k _ _ (.inl rfl) e, ih q⟩
  | tbl ps =>
    have e : h.get? a = some { cls := .none, data := .fields ps } := x;show h'.get? a = some { cls := .none, data := .fields ps };exact k a _ (.inl rfl) e
  | met f y =>
    have e : h.get? a = some (PySem.W.methodObj (.ref f) (.ref y)) := x;show h'.get? a = some (PySem.W.methodObj (.ref f) (.ref y));exact k a _ (.inl rfl) e
  | ext φ => obtain ⟨p, ⟨o, e⟩, st⟩ := x; exact ⟨st _ _ p fun o q => k _ _ (.inl rfl) q, ⟨o, k _ _ (.inl rfl) e⟩, st⟩
theorem fH.lt (x : fH P w H h) (e : H a = some o) : a < h.objs.size := (x a o e).lt
theorem fH.fresh (x : fH P w H h) (e : h.objs.size <= a) : H a = none := by
  cases q : H a with
  | none => rfl
  | some u => exact absurd (Nat.lt_of_lt_of_le (x.lt q) e) (Nat.lt_irrefl _)
theorem fH.kept (x : fH P w H h) (k : ∀ b u, h.get? b = some u -> h'.get? b = some u) : fH P w H h' := fun a o e =>
  (x a o e).stay (fun b u _ q => k b u q) (fun _ q => q) fun _ _ q => q
theorem fH.laid (x : fH P w H h) (k : ∀ b u, h.get? b = some u -> h'.get? b = some u) (hp : h.objs.size <= a) (new : bE P w (cW H a o) h' a o) : fH P w (cW H a o) h' := fun b u e => by
  have hn := x.fresh hp;by_cases hb : b = a
  · subst hb; rw [bQ] at e; cases e; exact new
  · rw [aI hb] at e;exact (x b u e).stay (fun c v _ q => k c v q) (fun c q => by rw [aI (aX q hn)]; exact q) fun c xs q => by rw [aI (aX q hn)]; exact q
end
def Rd (H : Hp) (a : Addr) (u : HO) : Prop := H a = some u \/ ∃ o, H a = some (.frz o u)
theorem Rd.ok {P : Program} {w : World} {H : Hp} {h : Heap} {a : Addr} {u : HO} (r : Rd H a u) (x : fH P w H h) : bE P w H h a u := by
  rcases r with r | ⟨o, r⟩
  · exact x a u r
  · obtain ⟨_, q⟩ := x a _ r;exact q
def zk : Option HO -> Prop
  | some (.lst _) => True
  | some (.dK _) => True
  | some (.dT _) => True
  | some (.set _ _) => True
  | some (.ins _ _ _) => True
  | some (.ext _) => True
  | _ => False
section
variable {P : Program} {w : World} {H : Hp} {h h' : Heap} {x e : Addr} {o' : HO}
theorem fH.write (ok : fH P w H h) (mu : zk (H x)) (he : e = x \/ H e = some (.own x)) (k : ∀ b u, b ≠ e -> h.get? b = some u -> h'.get? b = some u) (heo : ∃ u, h'.get? e = some u)
    (new : bE P w (cW H x o') h' x o') : fH P w (cW H x o') h' := fun b u q => by
  have nown : ∀ c y, H c = some (.own y) -> c ≠ x := fun c y r z => by subst z; rw [r] at mu; exact mu
  have ntup : ∀ c xs, H c = some (.tup xs) -> c ≠ x := fun c xs r z => by subst z; rw [r] at mu; exact mu
  by_cases hb : b = x
  · subst hb; rw [bQ] at q; cases q; exact new
  · rw [aI hb] at q;by_cases hbe : b = e
    · have q' : H b = some (.own x) := by
        rcases he with z | z
        · exact absurd (hbe.trans z) hb
        · rw [hbe]; exact z
      rw [q] at q'; cases q';obtain ⟨v, hv⟩ := heo;exact ⟨v, by rw [hbe]; exact hv⟩
    · refine (ok b u q).stay (fun c v hc r => k c v ?_ r) (fun c r => by rw [aI (nown c b r)]; exact r) fun c xs r => by rw [aI (ntup c xs r)]; exact r
      rcases hc with rfl | hc
      · exact hbe
      · rintro rfl;rcases he with z | z
        · exact nown c b hc z
        · rw [hc] at z; cases z; exact hb rfl
end
structure Un (fs ex : List Addr) (H H' : Hp) (h h' : Heap) : Prop where
  keep : ∀ b o, h.get? b = some o -> H b = none -> b ∉ fs -> b ∉ ex -> h'.get? b = some o
  slot : ∀ b o, h.get? b = some o -> H b = none -> b ∈ fs -> b ∉ ex -> ∃ sl, h'.get? b = some { o with slots := sl }
  free : ∀ b o, h.get? b = some o -> H b = none -> b ∉ ex -> H' b = none
  there : ∀ b o, h.get? b = some o -> b ∉ ex -> ∃ o', h'.get? b = some o'
  tups : ∀ b xs, H b = some (.tup xs) -> H' b = some (.tup xs)
  frzs : ∀ b o u, H b = some (.frz o u) -> H' b = some (.frz o u)
  tbls : ∀ b ps, H b = some (.tbl ps) -> ∃ more, H' b = some (.tbl (ps ++ more))
section
variable {fs fs' ex ex' : List Addr} {H H1 H2 : Hp} {h h1 h2 h' : Heap} {a x e : Addr} {o : HO}
theorem Un.any (u : Un fs ex H H1 h h1) {b : Addr} {ob : Obj} (q : h.get? b = some ob) (n : H b = none) (hx : b ∉ ex) : ∃ sl, h1.get? b = some { ob with slots := sl } := by
  by_cases hb : b ∈ fs
  · exact u.slot b ob q n hb hx
  · exact ⟨ob.slots, u.keep b ob q n hb hx⟩
theorem Un.kept (k : ∀ b u, h.get? b = some u -> h'.get? b = some u) : Un fs ex H H h h' :=
  ⟨fun b ob q _ _ _ => k b ob q, fun b ob q _ _ _ => ⟨ob.slots, k b ob q⟩, fun _ _ _ n _ => n, fun b ob q _ => ⟨ob, k b ob q⟩, fun _ _ q => q, fun _ _ _ q => q, fun _ ps q => ⟨#[], by rw [q]; simp⟩⟩
theorem Un.refl : Un fs ex H H h h := Un.kept fun _ _ q => q
theorem Un.laid (k : ∀ b u, h.get? b = some u -> h'.get? b = some u) (hp : h.objs.size <= a) (hn : H a = none) : Un fs ex H (cW H a o) h h' where
  keep := fun b u q _ _ _ => k b u q
  slot := fun b u q _ _ _ => ⟨u.slots, k b u q⟩
  free := fun b u q n _ => by rw [aI (Nat.ne_of_lt (Nat.lt_of_lt_of_le (Heap.lt_size q) hp))]; exact n
  there := fun b u q _ => ⟨u, k b u q⟩
  tups := fun b xs q => by rw [aI (aX q hn)]; exact q
  frzs := fun b u xs q => by rw [aI (aX q hn)]; exact q
  tbls := fun b ps q => ⟨#[], by rw [aI (aX q hn), q]; simp⟩
theorem Un.write (mu : zk (H x)) (he : e = x \/ H e = some (.own x)) (k : ∀ b u, b ≠ e -> h.get? b = some u -> h'.get? b = some u) (heo : ∃ u, h'.get? e = some u) : Un fs ex H (cW H x o) h h' := by
  have hx : ∀ b, H b = none -> b ≠ x := fun b n z => by subst z; rw [n] at mu; exact mu
  have hb : ∀ b, H b = none -> b ≠ e := fun b n z => by
    subst z;rcases he with r | r
    · exact hx b n r
    · rw [n] at r; cases r
  have hm : ∀ b u, H b = some u -> ¬ zk (some u) -> b ≠ x := fun b u q nm z => by subst z; rw [q] at mu; exact nm mu
  refine ⟨fun b u q n _ _ => k b u (hb b n) q, fun b u q n _ _ => ⟨u.slots, k b u (hb b n) q⟩, fun b u q n _ => by rw [aI (hx b n)]; exact n, fun b u q _ => ?_,
    fun b xs q => by rw [aI (hm b _ q fun z => z)]; exact q, fun b u xs q => by rw [aI (hm b _ q fun z => z)]; exact q, fun b ps q => ⟨#[], by rw [aI (hm b _ q fun z => z), q]; simp⟩⟩
  by_cases hbe : b = e
  · subst hbe; exact heo
  · exact ⟨u, k b u hbe q⟩
end
def Ab (h : Heap) (H : Hp) : List Addr := (List.range h.objs.size).filter fun a => (H a).isSome
def om (h : Heap) (H : Hp) : Heap := PySem.W.hideAll h (Ab h H)
theorem sQ (h : Heap) (H : Hp) : (om h H).objs.size = h.objs.size := PySem.W.hideAll_size _ _
theorem ur {h : Heap} {H : Hp} {b : Addr} {o : Obj} (e : h.get? b = some o) (n : H b = none) : (om h H).get? b = some o :=
  PySem.W.hideAll_get _ e fun hm => by
    have q : (H b).isSome = true := (List.mem_filter.mp hm).2;rw [n] at q; simp at q
theorem vf {h : Heap} {H : Hp} {b : Addr} {o : Obj} (e : (om h H).get? b = some o) : h.get? b = some o /\ H b = none := by
  have e' : h.get? b = some o := PySem.W.of_hideAll (Ab h H) e;refine ⟨e', ?_⟩;cases q : H b with
  | none => rfl
  | some x =>
    have hm : b ∈ Ab h H := List.mem_filter.mpr ⟨List.mem_range.mpr (Heap.lt_size e'), by simp [q]⟩;have z : (om h H).get? b = none := PySem.W.hideAll_none (Ab h H) hm;rw [z] at e; cases e
def vo (g h : Heap) (L : Addr) : List (Addr × Obj) := (List.range h.objs.size).filterMap fun a => if a = L \/ (g.get? a).isSome = true then none else (h.get? a).map fun o => (a, o)
def bR (g h : Heap) (L d : Addr) : List (Addr × Obj) := (vo g h L).filter fun p => decide (p.1 ≠ d)
structure Mod (K : PySem.W.Frag) (mg : Str -> Option Value) (base : Heap) : Prop where
  kin : K.In base
  glob : base.Ns mainGlobals mg
  blt : ∃ mb, base.Ns builtinsNs mb /\ ∀ x : Str, x ≠ "__name__" -> mb x = bootBuiltins x
  nolimit : base.NoLimit
structure Cx where
  prog : Program
  w : World
  K : PySem.W.Frag
  mg : Str -> Option Value
  base : Heap
  A : Around
  N : List Str
  s₀ : Shared
  H₀ : Hp
  env : Env
  outer : List Env
  stack : List Env
  ex : List Addr
  fn : Str -> Bool
  calm : Bool
  pn : List (Addr × Obj)
  xe : Value -> Shared -> Prop
def jh (l : List Env) : List Addr := l.filterMap (·.frame)
abbrev Cx.fs (X : Cx) : List Addr := jh X.outer
def yY (sc : Scope) (x : Str) : Prop := sc.names.lookup x = some .local \/ sc.names.lookup x = some .cell \/ sc.names.lookup x = some .free
def w9 (sc : Scope) (x : Str) : Prop := sc.names.lookup x = some .local \/ sc.names.lookup x = some .cell
def AE (env : Env) (h : Heap) (m : Str -> Option Value) (x : Str) (u : Value) : Prop :=
  (env.kindOf x = some .local /\ m x = some u) \/ ((env.kindOf x = some .cell \/ env.kindOf x = some .free) /\ ∃ c, env.cells.lookup x = some c /\ h.IsCell c (some u))
structure Cx.Ok (X : Cx) : Prop where
  mod : Mod X.K X.mg X.base
  kind : X.env.scope.kind = .function
  glob : X.env.globals = mainGlobals
  blt : X.env.builtins = builtinsNs
  above : X.s₀.heap.objs.size <= X.env.locals
  inj : ∀ x y c, X.env.cells.lookup x = some c -> X.env.cells.lookup y = some c -> x = y
  has : ∀ x, (X.env.kindOf x = some .cell \/ X.env.kindOf x = some .free) -> ∃ c, X.env.cells.lookup x = some c
  cab : ∀ x c, X.fn x = true -> X.env.cells.lookup x = some c -> X.s₀.heap.objs.size <= c
  hd : X.calm = true -> X.A.handled = none
  frames : X.A.frames = some X.stack
  stk : X.stack = X.outer \/ (X.stack = X.env :: X.outer /\ X.env.frame = some X.env.locals)
  exf : ∀ b ∈ X.ex, b ≠ X.env.locals /\ ∀ x c, X.env.cells.lookup x = some c -> c ≠ b
  bs : ∀ b o, X.base.get? b = some o -> X.s₀.heap.get? b = some o /\ X.H₀ b = none
  bsz : X.base.objs.size <= X.s₀.heap.objs.size
  noex : ∀ b o, X.base.get? b = some o -> b ∉ X.ex
  exfs : ∀ b ∈ X.ex, b ∉ X.fs
  funs : X.s₀.heap.FunFrames X.base X.outer
  frf : ∀ b ∈ X.fs, X.H₀ b = none
structure aE (X : Cx) (pins : List (Addr × Obj)) (σ : List (Option V)) (H : Hp) (s : Shared) : Prop where
  ok : X.Ok
  os : s.os = X.s₀.os
  bare : AllBare s.gens
  base : Un X.fs X.ex X.H₀ H X.s₀.heap s.heap
  loc : ∃ m, s.heap.Ns X.env.locals m /\ ∀ (i : Nat) (x : Str) (v : V), X.N[i]? = some x -> σ[i]? = some (some v) -> yY X.env.scope x -> ∃ u, bx v u /\ AE X.env s.heap m x u
  cell : ∀ x c, X.env.cells.lookup x = some c -> ∃ v, s.heap.IsCell c v
  free : H X.env.locals = none
  freeC : ∀ x c, X.env.cells.lookup x = some c -> H c = none
  pin : ∀ p ∈ X.pn ++ pins, s.heap.get? p.1 = some p.2 /\ H p.1 = none /\ p.1 ≠ X.env.locals /\ p.1 ∉ X.fs /\ ∀ v, p.2.data ≠ .cell v
  hok : fH X.prog X.w H s.heap
  len : σ.length = X.N.length
section
variable {X : Cx} {pins : List (Addr × Obj)} {σ : List (Option V)} {H H' : Hp} {s : Shared} {h' : Heap}
theorem Cx.Ok.nofr (ok : X.Ok) {b : Addr} {o : Obj} (e : X.base.get? b = some o) : b ∉ X.fs := fun hb => by
  have := (ok.funs.mem hb).1;rw [e] at this; cases this
theorem aE.bs (I : aE X pins σ H s) : ∀ b o, X.base.get? b = some o -> s.heap.get? b = some o /\ H b = none := fun b o e =>
  ⟨I.base.keep b o (I.ok.bs b o e).1 (I.ok.bs b o e).2 (I.ok.nofr e) (I.ok.noex b o e), I.base.free b o (I.ok.bs b o e).1 (I.ok.bs b o e).2 (I.ok.noex b o e)⟩
theorem aE.bk (I : aE X pins σ H s) : ∀ b o, X.base.get? b = some o -> s.heap.get? b = some o := fun b o e => (I.bs b o e).1
theorem aE.mod (I : aE X pins σ H s) : Mod X.K X.mg X.base := I.ok.mod
theorem aE.kIn (I : aE X pins σ H s) : X.K.In s.heap := I.ok.mod.kin.keeps I.bk
theorem aE.lt (I : aE X pins σ H s) : X.env.locals < s.heap.objs.size := let ⟨_, hn, _⟩ := I.loc; hn.lt
theorem aE.sz (I : aE X pins σ H s) : X.s₀.heap.objs.size <= s.heap.objs.size := Nat.le_trans I.ok.above (Nat.le_of_lt I.lt)
theorem aE.nofs (I : aE X pins σ H s) {a : Addr} (h : s.heap.objs.size <= a) : a ∉ X.fs := fun hb => by
  obtain ⟨_, o, ho, _⟩ := I.ok.funs.mem hb;exact absurd (Nat.lt_of_lt_of_le (Heap.lt_size ho) (Nat.le_trans I.sz h)) (Nat.lt_irrefl _)
theorem aE.cne (I : aE X pins σ H s) : ∀ x c, X.env.cells.lookup x = some c -> c ≠ X.env.locals := fun x c e z => by
  obtain ⟨v, o, ho, hd⟩ := I.cell x c e;obtain ⟨m, ⟨o', es, ep, ho', hd', _⟩, _⟩ := I.loc;rw [z, ho'] at ho; cases ho; rw [hd'] at hd; cases hd
theorem aE.funs (I : aE X pins σ H s) : s.heap.FunFrames X.base X.outer := by
  have all : ∀ (l : List Env), (∀ b ∈ jh l, b ∈ X.fs) -> X.s₀.heap.FunFrames X.base l -> s.heap.FunFrames X.base l := by
    intro l;induction l with
    | nil => intro _ _; trivial
    | cons env r ih =>
      intro hs hl;obtain ⟨hk, ⟨L, o, hf, hn, ho, hd⟩, hr⟩ := hl;have hL : L ∈ X.fs := hs L (by unfold jh; rw [List.filterMap_cons, hf]; exact List.mem_cons_self);obtain ⟨sl, e⟩ := I.base.slot L o ho (I.ok.frf L hL) hL fun z => I.ok.exfs L z hL
      exact ⟨hk, ⟨L, _, hf, hn, e, hd⟩, ih (fun b hb => hs b (by unfold jh; rw [List.filterMap_cons, hf]; exact List.mem_cons_of_mem _ hb)) hr⟩
  exact all X.outer (fun _ hb => hb) I.ok.funs
theorem aE.stack (I : aE X pins σ H s) : s.heap.FunFrames X.base X.stack := by
  rcases I.ok.stk with e | ⟨e, hf⟩
  · rw [e]; exact I.funs
  · rw [e];obtain ⟨m, hn, _⟩ := I.loc;refine .cons (by rw [I.ok.kind]; decide) hf hn ?_ I.funs;exact Heap.get?_none_of_le (Nat.le_trans I.ok.bsz I.ok.above)
theorem aE.stkSub (I : aE X pins σ H s) : ∀ b ∈ jh X.stack, b ∈ X.env.locals :: X.fs := fun b hb => by
  rcases I.ok.stk with e | ⟨e, hf⟩
  · rw [e] at hb; exact List.mem_cons_of_mem _ hb
  · rw [e] at hb;unfold jh at hb;rw [List.filterMap_cons, hf] at hb;exact hb
theorem aE.stkFree (I : aE X pins σ H s) : ∀ b ∈ jh X.stack, H b = none := fun b hb => by
  rcases List.mem_cons.mp (I.stkSub b hb) with e | hb
  · rw [e]; exact I.free
  · obtain ⟨_, o, ho, _⟩ := I.ok.funs.mem hb;exact I.base.free b o ho (I.ok.frf b hb) fun z => I.ok.exfs b z hb
theorem aE.step {g' : Array GenState} {t' : Nat} {d' : Drawn} {ch : List Addr} (I : aE X pins σ H s)
    (hch : ∀ b ∈ ch, (b ∈ X.ex \/ X.s₀.heap.objs.size <= b) /\ b ≠ X.env.locals /\ (∀ x c, X.env.cells.lookup x = some c -> c ≠ b) /\ ∀ p ∈ X.pn ++ pins, p.1 ≠ b)
    (keep : ∀ b o, b ≠ X.env.locals -> b ∉ X.fs -> b ∉ ch -> s.heap.get? b = some o -> H b = none -> h'.get? b = some o)
    (slot : ∀ b o, b ≠ X.env.locals -> b ∈ X.fs -> b ∉ ch -> s.heap.get? b = some o -> H b = none -> ∃ sl, h'.get? b = some { o with slots := sl }) (free : ∀ b o, b ∉ ch -> s.heap.get? b = some o -> H b = none -> H' b = none)
    (there : ∀ b o, b ∉ ch -> s.heap.get? b = some o -> ∃ o', h'.get? b = some o')
    (tups : ∀ b xs, H b = some (.tup xs) -> H' b = some (.tup xs)) (frzs : ∀ b o u, H b = some (.frz o u) -> H' b = some (.frz o u)) (tbls : ∀ b ps, H b = some (.tbl ps) -> ∃ more, H' b = some (.tbl (ps ++ more)))
    (ns : ∀ m, s.heap.Ns X.env.locals m -> h'.Ns X.env.locals m) (hok : fH X.prog X.w H' h') (hg : AllBare g') :
    aE X pins σ H' { s with heap := h', gens := g', drawn := d', toks := t' } := by
  have neL : ∀ b o, X.s₀.heap.get? b = some o -> b ≠ X.env.locals := fun b o e => Nat.ne_of_lt (Nat.lt_of_lt_of_le (Heap.lt_size e) I.ok.above)
  have neC : ∀ b o, X.s₀.heap.get? b = some o -> b ∉ X.ex -> b ∉ ch := fun b o e hx hb => by
    rcases (hch b hb).1 with z | z
    · exact hx z
    · exact absurd (Nat.lt_of_lt_of_le (Heap.lt_size e) z) (Nat.lt_irrefl _)
  have cellK : ∀ x c, X.env.cells.lookup x = some c -> ∀ v, s.heap.IsCell c v -> h'.IsCell c v := fun x c e v ⟨o, ho, hd⟩ => by
    have nch : c ∉ ch := fun z => (hch c z).2.2.1 x c e rfl
    by_cases hc : c ∈ X.fs
    · obtain ⟨sl, q⟩ := slot c o (I.cne x c e) hc nch ho (I.freeC x c e);exact ⟨_, q, hd⟩
    · exact ⟨o, keep c o (I.cne x c e) hc nch ho (I.freeC x c e), hd⟩
  refine ⟨I.ok, I.os, hg, ⟨fun b o e n hb hx => ?_, fun b o e n hb hx => ?_, fun b o e n hx => ?_, fun b o e hx => ?_, fun b xs e => tups b xs (I.base.tups b xs e), fun b o xs e => frzs b o xs (I.base.frzs b o xs e), fun b ps e => ?_⟩, ?_, fun x c e => ?_, ?_, fun x c e => ?_, fun p hp => ?_, hok, I.len⟩
  · exact keep b o (neL b o e) hb (neC b o e hx) (I.base.keep b o e n hb hx) (I.base.free b o e n hx)
  · obtain ⟨sl, e1⟩ := I.base.slot b o e n hb hx;obtain ⟨sl', e2⟩ := slot b _ (neL b o e) hb (neC b o e hx) e1 (I.base.free b o e n hx);exact ⟨sl', e2⟩
  · obtain ⟨o', e1⟩ := I.base.there b o e hx;exact free b o' (neC b o e hx) e1 (I.base.free b o e n hx)
  · obtain ⟨o', e1⟩ := I.base.there b o e hx;exact there b o' (neC b o e hx) e1
  · obtain ⟨m1, e1⟩ := I.base.tbls b ps e;obtain ⟨m2, e2⟩ := tbls b _ e1;exact ⟨m1 ++ m2, by rw [e2, Array.append_assoc]⟩
  · obtain ⟨m, hn, hl⟩ := I.loc;refine ⟨m, ns m hn, fun i x v e1 e2 e3 => ?_⟩;obtain ⟨u, r, l⟩ := hl i x v e1 e2 e3;refine ⟨u, r, ?_⟩;rcases l with l | ⟨k, c, e, z⟩
    · exact .inl l
    · exact .inr ⟨k, c, e, cellK x c e _ z⟩
  · obtain ⟨v, z⟩ := I.cell x c e;exact ⟨v, cellK x c e v z⟩
  · obtain ⟨m, ⟨o, _, _, ho, _⟩, _⟩ := I.loc;exact free _ o (fun z => (hch _ z).2.1 rfl) ho I.free
  · obtain ⟨v, o, ho, hd⟩ := I.cell x c e;exact free c o (fun z => (hch c z).2.2.1 x c e rfl) ho (I.freeC x c e)
  · obtain ⟨e, n, ne, nf, d⟩ := I.pin p hp;have nch : p.1 ∉ ch := fun z => (hch p.1 z).2.2.2 p hp rfl
    exact ⟨keep p.1 p.2 ne nf nch e n, free p.1 p.2 nch e n, ne, nf, d⟩
theorem aE.un {t' : Nat} (I : aE X pins σ H s) (u : Un X.fs [] H H' s.heap h') (hok : fH X.prog X.w H' h') : aE X pins σ H' { s with heap := h', toks := t' } := by
  obtain ⟨m, ⟨o, es, ep, ho, r⟩, _⟩ := id I.loc;obtain ⟨sl, hL⟩ := u.any ho I.free (by simp);exact I.step (g' := s.gens) (d' := s.drawn) (ch := []) (fun _ z => nomatch z) (fun b o _ hb _ e n => u.keep b o e n hb (by simp)) (fun b o _ hb _ e n => u.slot b o e n hb (by simp)) (fun b o _ e n => u.free b o e n (by simp)) (fun b o _ e => u.there b o e (by simp)) u.tups u.frzs u.tbls (fun m' hm => by
    obtain ⟨o', es', ep', ho', r'⟩ := hm;rw [ho] at ho'; cases ho';exact ⟨_, es', ep', hL, r'⟩) hok I.bare
theorem aE.call {g' : Array GenState} {t' : Nat} {d' : Drawn} {ch : List Addr} (I : aE X pins σ H s) (u : Un (jh X.stack) ch H H' s.heap h') (hok : fH X.prog X.w H' h') (hg : AllBare g')
    (hch : ∀ b ∈ ch, (b ∈ X.ex \/ X.s₀.heap.objs.size <= b) /\ b ≠ X.env.locals /\ (∀ x c, X.env.cells.lookup x = some c -> c ≠ b) /\ ∀ p ∈ X.pn ++ pins, p.1 ≠ b) :
    aE X pins σ H' { s with heap := h', gens := g', drawn := d', toks := t' } := by
  obtain ⟨m, ⟨o, es, ep, ho, r⟩, _⟩ := id I.loc;obtain ⟨sl, hL⟩ := u.any ho I.free fun z => (hch _ z).2.1 rfl
  exact I.step (ch := ch) hch (fun b o hL hb hc e n => u.keep b o e n (fun z => (List.mem_cons.mp (I.stkSub b z)).elim hL hb) hc) (fun b o _ _ hc e n => u.any e n hc) (fun b o hc e n => u.free b o e n hc) (fun b o hc e => u.there b o e hc) u.tups u.frzs u.tbls (fun m' hm => by
    obtain ⟨o', es', ep', ho', r'⟩ := hm;rw [ho] at ho'; cases ho';exact ⟨_, es', ep', hL, r'⟩) hok hg
theorem aE.turned {t' : Nat} {it : Addr} (I : aE X pins σ H s) (k : ∀ b o, b ≠ it -> s.heap.get? b = some o -> h'.get? b = some o) (hn : H it = none) (hL : it ≠ X.env.locals)
    (h1 : it ∈ X.ex \/ X.s₀.heap.objs.size <= it) (h2 : ∀ x c, X.env.cells.lookup x = some c -> c ≠ it) (h3 : ∀ p ∈ X.pn ++ pins, p.1 ≠ it) : aE X pins σ H { s with heap := h', toks := t' } := by
  have nit : ∀ b u, H b = some u -> b ≠ it := fun b u e z => by rw [z, hn] at e; cases e
  refine I.step (g' := s.gens) (d' := s.drawn) (ch := [it]) (fun b hb => ?_) (fun b o _ _ hc e _ => k b o (fun z => hc (by simp [z])) e) (fun b o _ _ hc e _ => ⟨o.slots, k b o (fun z => hc (by simp [z])) e⟩) (fun _ _ _ _ n => n)
    (fun b o hc e => ⟨o, k b o (fun z => hc (by simp [z])) e⟩) (fun _ _ e => e) (fun _ _ _ e => e) (fun b ps e => ⟨#[], by rw [e]; simp⟩) (fun m hm => ?_) (fun b u e => ?_) I.bare
  · have e : b = it := by simpa using hb
    subst e;exact ⟨h1, hL, h2, h3⟩
  · obtain ⟨o, es, ep, ho, r⟩ := hm;exact ⟨o, es, ep, k _ o (Ne.symm hL) ho, r⟩
  · refine (I.hok b u e).stay (fun c v hc q => k c v ?_ q) (fun _ q => q) fun _ _ q => q
    rcases hc with z | z
    · rw [z]; exact nit b u e
    · exact nit c _ z
theorem aE.tok (I : aE X pins σ H s) (t : Nat) : aE X pins σ H { s with toks := t } := I.un (h' := s.heap) (t' := t) Un.refl I.hok
theorem aE.kept {t' : Nat} (I : aE X pins σ H s) (k : ∀ b u, s.heap.get? b = some u -> h'.get? b = some u) : aE X pins σ H { s with heap := h', toks := t' } := I.un (Un.kept k) (I.hok.kept k)
theorem aE.laid {a : Addr} {o : HO} {t' : Nat} (I : aE X pins σ H s) (k : ∀ b u, s.heap.get? b = some u -> h'.get? b = some u) (hp : s.heap.objs.size <= a) (new : bE X.prog X.w (cW H a o) h' a o) :
    aE X pins σ (cW H a o) { s with heap := h', toks := t' } := I.un (Un.laid k hp (I.hok.fresh hp)) (I.hok.laid k hp new)
theorem aE.write {x e : Addr} {o : HO} {t' : Nat} (I : aE X pins σ H s) (mu : zk (H x)) (he : e = x \/ H e = some (.own x)) (k : ∀ b u, b ≠ e -> s.heap.get? b = some u -> h'.get? b = some u) (heo : ∃ u, h'.get? e = some u)
    (new : bE X.prog X.w (cW H x o) h' x o) : aE X pins σ (cW H x o) { s with heap := h', toks := t' } := I.un (Un.write mu he k heo) (I.hok.write mu he k heo new)
theorem aE.pins_of {pins' : List (Addr × Obj)} (I : aE X pins σ H s) (h : ∀ p ∈ pins', s.heap.get? p.1 = some p.2 /\ H p.1 = none /\ p.1 ≠ X.env.locals /\ p.1 ∉ X.fs /\ ∀ v, p.2.data ≠ .cell v) : aE X pins' σ H s :=
  ⟨I.ok, I.os, I.bare, I.base, I.loc, I.cell, I.free, I.freeC, fun p hp => (List.mem_append.mp hp).elim (fun z => I.pin p (List.mem_append_left _ z)) (h p), I.hok, I.len⟩
theorem lI {N : List Str} (hN : N.Nodup) {i j : Nat} {x : Str} (a : N[i]? = some x) (b : N[j]? = some x) : i = j := by
  obtain ⟨h1, e1⟩ := List.getElem?_eq_some_iff.mp a;obtain ⟨h2, e2⟩ := List.getElem?_eq_some_iff.mp b;exact (List.getElem_inj hN).mp (e1.trans e2.symm)
theorem mB {M : Model} {A : Around} {E : Value -> Shared -> Prop} {i : Nat} {x : Str} {v : V} {u : Value} {Q : Unit -> Shared -> Prop} (I : aE X pins σ H s) (hN : X.N.Nodup) (hi : X.N[i]? = some x) (hx : w9 X.env.scope x) (r : bx v u)
    (h : ∀ s', aE X pins (σ.set i (some v)) H s' -> (∃ a, Heap.SameBut a s.heap s'.heap /\ (a = X.env.locals \/ X.env.cells.lookup x = some a)) -> Q () s') (hf : X.fn x = true \/ X.env.scope.names.lookup x = some .local := by first | exact .inl rfl | exact .inr rfl | assumption) : wpAny M A (storeName X.env x u) Q E s := by
  obtain ⟨m, hn, hl⟩ := id I.loc;have hcls : (X.env.scope.kind == .class || (X.env.scope.kind == .module && X.env.locals != X.env.globals)) = false := by rw [I.ok.kind]; rfl
  have hiσ : i < σ.length := by rw [I.len]; exact (List.getElem?_eq_some_iff.mp hi).1
  have cne := I.cne;have tracked : ∀ {a : Addr} {h' : Heap}, (∃ o, s.heap.get? a = some o /\ H a = none) -> Heap.SameBut a s.heap h' -> fH X.prog X.w H h' := fun {a h'} ha hs b ob e => by
    obtain ⟨_, _, hfree⟩ := ha;refine (I.hok b ob e).stay (fun c w' hc q => (hs.2 c ?_).trans q) (fun _ q => q) fun _ _ q => q
    rintro rfl;rcases hc with rfl | hc
    · rw [hfree] at e; cases e
    · rw [hfree] at hc; cases hc
  rcases hx with hk | hk
  · refine wpAny_storeName_local hk hn (fun h' hn' hs => ?_) hcls;obtain ⟨oL, _, _, hoL, _⟩ := id hn;refine h _ ⟨I.ok, I.os, I.bare, ⟨fun b o e n hb hx => ?_, fun b o e n hb hx => ?_, I.base.free, fun b o e hx => ?_, I.base.tups, I.base.frzs, I.base.tbls⟩, ⟨_, hn', fun j y v' e1 e2 e3 => ?_⟩, fun y c e => ?_, I.free, I.freeC, fun p hp => ?_, tracked ⟨oL, hoL, I.free⟩ hs, by simpa using I.len⟩ ⟨_, hs, .inl rfl⟩
    · exact (hs.2 b (Nat.ne_of_lt (Nat.lt_of_lt_of_le (Heap.lt_size e) I.ok.above))).trans (I.base.keep b o e n hb hx)
    · obtain ⟨sl, e1⟩ := I.base.slot b o e n hb hx;exact ⟨sl, (hs.2 b (Nat.ne_of_lt (Nat.lt_of_lt_of_le (Heap.lt_size e) I.ok.above))).trans e1⟩
    · obtain ⟨o', e1⟩ := I.base.there b o e hx;exact ⟨o', (hs.2 b (Nat.ne_of_lt (Nat.lt_of_lt_of_le (Heap.lt_size e) I.ok.above))).trans e1⟩
    · by_cases hj : j = i
      · subst hj;rw [hi] at e1; cases e1;rw [List.getElem?_set_self hiσ] at e2;cases e2;exact ⟨u, r, .inl ⟨hk, by simp⟩⟩
      · rw [List.getElem?_set_ne (Ne.symm hj)] at e2;obtain ⟨u', r', q⟩ := hl j y v' e1 e2 e3;refine ⟨u', r', ?_⟩;rcases q with ⟨k, e⟩ | ⟨k, c, e, z⟩
        · refine .inl ⟨k, ?_⟩;have : y ≠ x := fun e => hj (lI hN e1 (e ▸ hi))
          simp [this, e]
        · exact .inr ⟨k, c, e, z.sameBut hs (cne y c e)⟩
    · obtain ⟨w', z⟩ := I.cell y c e;exact ⟨w', z.sameBut hs (cne y c e)⟩
    · obtain ⟨e, n, ne, nf, d⟩ := I.pin p hp;exact ⟨(hs.2 p.1 ne).trans e, n, ne, nf, d⟩
  · have hfn : X.fn x = true := by
      rcases hf with z | z
      · exact z
      · rw [z] at hk; cases hk
    obtain ⟨c, hc⟩ := I.ok.has x (.inl hk);obtain ⟨w', z⟩ := I.cell x c hc;refine wpAny_storeName_cell I.ok.kind hk hc z (fun h' hc' hs => ?_);obtain ⟨oc, hoc, hocd⟩ := id z;refine h { s with heap := h' } ⟨I.ok, I.os, I.bare, ⟨fun b o e n hb hx => ?_, fun b o e n hb hx => ?_, I.base.free, fun b o e hx => ?_, I.base.tups, I.base.frzs, I.base.tbls⟩, ⟨m, hn.sameBut hs (Ne.symm (cne x c hc)), fun j y v' e1 e2 e3 => ?_⟩, fun y c' e => ?_, I.free, I.freeC, fun p hp => ?_, tracked ⟨oc, hoc, I.freeC x c hc⟩ hs, by simpa using I.len⟩ ⟨c, hs, .inr hc⟩
    · exact (hs.2 b (Nat.ne_of_lt (Nat.lt_of_lt_of_le (Heap.lt_size e) (I.ok.cab x c hfn hc)))).trans (I.base.keep b o e n hb hx)
    · obtain ⟨sl, e1⟩ := I.base.slot b o e n hb hx;exact ⟨sl, (hs.2 b (Nat.ne_of_lt (Nat.lt_of_lt_of_le (Heap.lt_size e) (I.ok.cab x c hfn hc)))).trans e1⟩
    · obtain ⟨o', e1⟩ := I.base.there b o e hx;exact ⟨o', (hs.2 b (Nat.ne_of_lt (Nat.lt_of_lt_of_le (Heap.lt_size e) (I.ok.cab x c hfn hc)))).trans e1⟩
    · by_cases hj : j = i
      · subst hj;rw [hi] at e1; cases e1;rw [List.getElem?_set_self hiσ] at e2;cases e2;exact ⟨u, r, .inr ⟨.inl hk, c, hc, hc'⟩⟩
      · rw [List.getElem?_set_ne (Ne.symm hj)] at e2;obtain ⟨u', r', q⟩ := hl j y v' e1 e2 e3;refine ⟨u', r', ?_⟩;rcases q with q | ⟨k, c', e, z'⟩
        · exact .inl q
        · refine .inr ⟨k, c', e, z'.sameBut hs ?_⟩;rintro rfl;exact hj (lI hN e1 (I.ok.inj _ _ _ e hc ▸ hi))
    · by_cases hcc : c' = c
      · subst hcc; exact ⟨_, hc'⟩
      · obtain ⟨w2, z2⟩ := I.cell y c' e;exact ⟨w2, z2.sameBut hs hcc⟩
    · obtain ⟨e, n, ne, nf, d⟩ := I.pin p hp;refine ⟨(hs.2 p.1 ?_).trans e, n, ne, nf, d⟩;intro q;rw [q, hoc] at e;have q' : oc = p.2 := Option.some.inj e;exact d w' (by rw [<- q']; exact hocd)
theorem jn {M : Model} {A : Around} {E : Value -> Shared -> Prop} {i : Nat} {x : Str} {v : V} {u : Value} {Q : Unit -> Shared -> Prop} (I : aE X pins σ H s) (hN : X.N.Nodup) (hi : X.N[i]? = some x) (hx : w9 X.env.scope x) (r : bx v u)
    (h : ∀ s', aE X pins (σ.set i (some v)) H s' -> Q () s') (hf : X.fn x = true \/ X.env.scope.names.lookup x = some .local := by first | exact .inl rfl | exact .inr rfl | assumption) : wpAny M A (storeName X.env x u) Q E s :=
  mB I hN hi hx r (fun s' I' _ => h s' I') hf
theorem aE.call' {s' : Shared} {ch : List Addr} (I : aE X pins σ H s) (ho : s'.os = s.os) (u : Un (jh X.stack) ch H H' s.heap s'.heap) (hok : fH X.prog X.w H' s'.heap) (hg : AllBare s'.gens)
    (hch : ∀ b ∈ ch, (b ∈ X.ex \/ X.s₀.heap.objs.size <= b) /\ b ≠ X.env.locals /\ (∀ x c, X.env.cells.lookup x = some c -> c ≠ b) /\ ∀ p ∈ X.pn ++ pins, p.1 ≠ b) : aE X pins σ H' s' := by
  obtain ⟨h', g', d', t', o'⟩ := s';have e : o' = s.os := ho;subst e;exact I.call (g' := g') (t' := t') (d' := d') u hok hg hch
end
abbrev XK := Value -> Option Addr -> Hp -> Prop
abbrev St := List (Option V)
abbrev VK := V -> Hp -> Prop
abbrev TE := St -> Hp -> VK -> Prop
abbrev TT := St -> Hp -> (Bool -> Hp -> Prop) -> Prop
abbrev TA := St -> Hp -> (List V -> Hp -> Prop) -> Prop
structure nk where
  nx : St -> Hp -> Prop
  rt : VK
  bk : St -> Hp -> Prop := fun _ _ => False
  ct : St -> Hp -> Prop := fun _ _ => False
abbrev TS := nk -> St -> Hp -> Prop
def EP (X : Cx) (pins : List (Addr × Obj)) (σ : St) (Q : VK) (u : Value) (s' : Shared) : Prop := ∃ v H', aE X pins σ H' s' /\ bx v u /\ Q v H'
def TP (X : Cx) (pins : List (Addr × Obj)) (σ : St) (Q : Bool -> Hp -> Prop) (b : Bool) (s' : Shared) : Prop := ∃ H', aE X pins σ H' s' /\ Q b H'
def AP (X : Cx) (pins : List (Addr × Obj)) (σ : St) (Q : List V -> Hp -> Prop) (us : List Value) (s' : Shared) : Prop := ∃ vs H', aE X pins σ H' s' /\ bq vs us /\ Q vs H'
def SP (X : Cx) (pins : List (Addr × Obj)) (D : nk) (f : Flow) (s' : Shared) : Prop :=
  match f with
  | .next => ∃ σ' H', aE X pins σ' H' s' /\ D.nx σ' H'
  | .brk => ∃ σ' H', aE X pins σ' H' s' /\ D.bk σ' H'
  | .cont => ∃ σ' H', aE X pins σ' H' s' /\ D.ct σ' H'
  | .ret u => ∃ v σ' H', aE X pins σ' H' s' /\ bx v u /\ D.rt v H'
def PE (X : Cx) (e : Expr) (t : TE) : Prop :=
  ∀ (pins : List (Addr × Obj)) (s : Shared) (σ : St) (H : Hp) (Q : VK), aE X pins σ H s -> t σ H Q -> wpAny (model X.prog X.w) X.A (eval e X.env) (EP X pins σ Q) X.xe s
def PT (X : Cx) (e : Expr) (t : TT) : Prop :=
  ∀ (pins : List (Addr × Obj)) (s : Shared) (σ : St) (H : Hp) (Q : Bool -> Hp -> Prop), aE X pins σ H s -> t σ H Q -> wpAny (model X.prog X.w) X.A (isTrue e X.env (eval e X.env)) (TP X pins σ Q) X.xe s
def PW (X : Cx) (e : Expr) (t : TT) : Prop :=
  ∀ (whole : Sem Value) (pins : List (Addr × Obj)) (s : Shared) (σ : St) (H : Hp) (Q : Bool -> Hp -> Prop), aE X pins σ H s -> t σ H Q -> wpAny (model X.prog X.w) X.A (isTrue e X.env whole) (TP X pins σ Q) X.xe s
theorem PW.pt {X : Cx} {e : Expr} {t : TT} (h : PW X e t) : PT X e t := h _
def PA (X : Cx) (es : List Expr) (t : TA) : Prop :=
  ∀ (pos : Pos) (pins : List (Addr × Obj)) (s : Shared) (σ : St) (H : Hp) (Q : List V -> Hp -> Prop), aE X pins σ H s -> t σ H Q -> wpAny (model X.prog X.w) X.A (spliced (backTo pos (starEach es X.env))) (AP X pins σ Q) X.xe s
def PS (X : Cx) (st : Stmt) (t : TS) : Prop :=
  ∀ (pins : List (Addr × Obj)) (s : Shared) (σ : St) (H : Hp) (D : nk), aE X pins σ H s -> t D σ H -> wpAny (model X.prog X.w) X.A (exec st X.env) (SP X pins D) X.xe s
def og (X : Cx) (st : List Stmt) (t : TS) : Prop :=
  ∀ (pins : List (Addr × Obj)) (s : Shared) (σ : St) (H : Hp) (D : nk), aE X pins σ H s -> t D σ H -> wpAny (model X.prog X.w) X.A (execs st X.env) (SP X pins D) X.xe s
theorem cV {α : Type} {t : Sem α} {Q Q' : α -> Shared -> Prop} {M : Model} {A : Around} {E : Value -> Shared -> Prop} {s : Shared} (h : wpAny M A t Q E s) (hQ : ∀ a s, Q a s -> Q' a s) : wpAny M A t Q' E s := wpAny_mono h hQ fun _ _ x => x
section
variable {X : Cx}
theorem Bb {a b : Expr} {ta tb : TE} (ha : PE X a ta) (hb : PE X b tb) {pins : List (Addr × Obj)} {s : Shared} {σ : St} {H : Hp} {R : V -> V -> Hp -> Prop} (I : aE X pins σ H s) (h : ta σ H fun x H1 => tb σ H1 fun y H2 => R x y H2)
    {α : Type} {Q : α -> Shared -> Prop} {f : Value -> Value -> Sem α}
    (hf : ∀ v u s2 x y H2, aE X pins σ H2 s2 -> bx x v -> bx y u -> R x y H2 -> wpAny (model X.prog X.w) X.A (f v u) Q X.xe s2) :
    wpAny (model X.prog X.w) X.A (eval a X.env) (fun v s₁ => wpAny (model X.prog X.w) X.A (eval b X.env) (fun u s₂ => wpAny (model X.prog X.w) X.A (f v u) Q X.xe s₂) X.xe s₁) X.xe s := by
  refine cV (ha pins s σ H _ I h) fun v s1 ⟨x, H1, I1, r1, q1⟩ => ?_
  refine cV (hb pins s1 σ H1 _ I1 q1) fun u s2 ⟨y, H2, I2, r2, q2⟩ => ?_
  exact hf v u s2 x y H2 I2 r1 r2 q2
def yG (i : Nat) : TE := fun σ H Q => ∃ v, σ[i]? = some (some v) /\ Q v H
def tC (v : V) : TE := fun _ H Q => Q v H
theorem lu {i : Nat} {x : Str} {pos : Pos} (hN : X.N[i]? = some x) (hv : yY X.env.scope x) (hd : (x == ("__debug__" : Str)) = false := by decide) (hcd : (x == ("__classdict__" : Str)) = false := by decide) : PE X (.Name x pos) (yG i) := by
  intro pins s σ H Q I h;obtain ⟨v, e, h⟩ := h;obtain ⟨m, hn, hl⟩ := I.loc;obtain ⟨u, r, l⟩ := hl i x v hN e hv;have fin : EP X pins σ Q u s := ⟨v, H, I, r, h⟩
  rcases l with ⟨hk, hm⟩ | ⟨hk, c, hc, hcell⟩
  · exact wpAny_Name (wpAny_loadName_local I.ok.kind hk hn hm fin) hd
  · rcases hk with hk | hk
    · exact wpAny_Name (wpAny_loadName_cell I.ok.kind hk hc hcell fin) hd
    · exact wpAny_Name (wpAny_loadName_free I.ok.kind hk hc hcell fin hcd) hd
theorem yk {i j pos} : PE X (.Constant (.int i) j pos) (tC (.int i)) := fun _ _ _ H _ I h => wpAny_Constant_int ⟨.int i, H, I.tok _, ⟨_, rfl⟩, h⟩
theorem yO {b j pos} : PE X (.Constant (.bool b) j pos) (tC (.bl b)) := fun _ _ _ H _ I h => Constant_bool ⟨.bl b, H, I, rfl, h⟩
theorem xR {j pos} : PE X (.Constant .none j pos) (tC .non) := fun _ _ _ H _ I h => Constant_none ⟨.non, H, I, rfl, h⟩
theorem ya {x j pos} : PE X (.Constant (.str x) j pos) (tC (.str x)) := fun _ _ _ H _ I h => Calls.Constant_str ⟨.str x, H, I.tok _, ⟨_, rfl⟩, h⟩
def Gl (X : Cx) (x : Str) : Prop := X.env.kindOf x = some .globalImplicit
theorem kM {E : Value -> Shared -> Prop} {pins : List (Addr × Obj)} {s : Shared} {σ : St} {H : Hp} {x : Str} {u : Value} {pos : Pos} {Q : Value -> Shared -> Prop} (I : aE X pins σ H s) (hg : Gl X x) (hm : X.mg x = some u) (h : Q u s)
    (hd : (x == ("__debug__" : Str)) = false := by decide) : wpAny (model X.prog X.w) X.A (eval (.Name x pos) X.env) Q E s :=
  Calls.Name_function_global I.ok.kind hg (Calls.loadGlobal_global (by rw [I.ok.glob]; exact I.mod.glob.keeps I.bk) hm h) hd
theorem jV {E : Value -> Shared -> Prop} {pins : List (Addr × Obj)} {s : Shared} {σ : St} {H : Hp} {x : Str} {u : Value} {pos : Pos} {Q : Value -> Shared -> Prop} (I : aE X pins σ H s) (hg : Gl X x) (hm : X.mg x = none) (hv : bootBuiltins x = some u) (h : Q u s)
    (hn : x ≠ "__name__" := by decide) (hd : (x == ("__debug__" : Str)) = false := by decide) : wpAny (model X.prog X.w) X.A (eval (.Name x pos) X.env) Q E s := by
  obtain ⟨mb, h1, h2⟩ := I.mod.blt;exact Calls.Name_function_global I.ok.kind hg (Calls.loadGlobal_builtin (by rw [I.ok.glob]; exact I.mod.glob.keeps I.bk) hm (by rw [I.ok.blt]; exact h1.keeps I.bk) ((h2 x hn).trans hv) h) hd
theorem rF {x : Str} {v : V} {u : Value} {pos : Pos} (hg : Gl X x) (hm : X.mg x = some u) (r : bx v u) (hd : (x == ("__debug__" : Str)) = false := by decide) : PE X (.Name x pos) (tC v) :=
  fun _ _ _ H _ I h => kM I hg hm ⟨v, H, I, r, h⟩ hd
theorem vq {x : Str} {v : V} {u : Value} {pos : Pos} (hg : Gl X x) (hm : X.mg x = none) (hv : bootBuiltins x = some u) (r : bx v u) (hn : x ≠ "__name__" := by decide) (hd : (x == ("__debug__" : Str)) = false := by decide) : PE X (.Name x pos) (tC v) :=
  fun _ _ _ H _ I h => jV I hg hm hv ⟨v, H, I, r, h⟩ hn hd
variable {a b : Expr} {ta tb : TE} {pos : Pos}
def PC (X : Cx) (op : CmpOp) (a b : Expr) (t : TE) : Prop :=
  ∀ (pins : List (Addr × Obj)) (s : Shared) (σ : St) (H : Hp) (Q : VK), aE X pins σ H s -> t σ H Q ->
    wpAny (model X.prog X.w) X.A (eval a X.env) (fun v s₁ => wpAny (model X.prog X.w) X.A (eval b X.env) (fun u s₂ => wpAny (model X.prog X.w) X.A (compareOp op v u) (EP X pins σ Q) X.xe s₂) X.xe s₁) X.xe s
theorem uq (b : Expr) {op : CmpOp} (h : op ≠ .In) (h2 : op ≠ .NotIn) : behindInMarks op b = false := by
  have e1 : (op == CmpOp.In) = false := by cases op <;> first | rfl | exact absurd rfl h
  have e2 : (op == CmpOp.NotIn) = false := by cases op <;> first | rfl | exact absurd rfl h2
  cases b <;> simp [behindInMarks, e1, e2]
def tB (t : TE) : TT := fun σ H Q => t σ H fun x H1 => ∃ c, x = .bl c /\ Q c H1
theorem Aj {op : CmpOp} {t : TE} (h : PC X op a b t) (h1 : behindInMarks op b = false := by first | exact uq _ (by decide) (by decide) | rfl) : PT X (.Compare a [op] [b] pos) (tB t) := by
  intro pins s σ H Q I hw;refine wpAny_isTrue_Compare1 (cV (h pins s σ H _ I hw) fun v s1 h1 => cV h1 fun u s2 h2 => cV h2 fun c s3 ⟨x, H1, I1, r1, q1⟩ => ?_) h1;obtain ⟨d, rfl, q⟩ := q1;cases r1;exact wpAny_truthy_bool ⟨H1, I1, q⟩
theorem w5 {e : Expr} {t : TE} (h : PE X e t) (he : ∀ whole, isTrue e X.env whole = (do let v <- whole; standAt e.pos; holding [v] (truthy v)) := by intro _; rfl) : PT X e (tB t) := by
  intro pins s σ H Q I hw;refine isTrue_plain (cV (h pins s σ H _ I hw) fun v s1 ⟨x, H1, I1, r1, q1⟩ => ?_) (he _);obtain ⟨d, rfl, q⟩ := q1;cases r1;exact wpAny_truthy_bool ⟨H1, I1, q⟩
variable {tA tB' : TT} {bR : List Expr}
def AH (t u : TT) : TT := fun σ H Q => t σ H fun c H1 => if c = true then u σ H1 Q else Q false H1
def A8 (t u : TT) : TT := fun σ H Q => t σ H fun c H1 => if c = true then Q true H1 else u σ H1 Q
def Av (t : TT) : TT := fun σ H Q => t σ H fun c H1 => Q (!c) H1
theorem pw_and1 (ha : PT X a tA) : PW X (.BoolOp .And [a] pos) tA := by
  intro wh pins s σ H Q I h;refine isTrue_and (cV (ha pins s σ H Q I h) fun c s1 e => ?_);cases c with
  | true => exact isTrue_and_nil e
  | false => exact e
theorem pw_or1 (ha : PT X a tA) : PW X (.BoolOp .Or [a] pos) tA := by
  intro wh pins s σ H Q I h;refine isTrue_or (cV (ha pins s σ H Q I h) fun c s1 e => ?_);cases c with
  | false => exact isTrue_or_nil e
  | true => exact e
theorem pw_and (ha : PT X a tA) (hb : PW X (.BoolOp .And (b :: bR) pos) tB') : PW X (.BoolOp .And (a :: b :: bR) pos) (AH tA tB') := by
  intro wh pins s σ H Q I h;refine isTrue_and (cV (ha pins s σ H _ I h) fun c s1 ⟨H1, I1, q1⟩ => ?_);cases c with
  | true => exact hb wh pins s1 σ H1 Q I1 q1
  | false => exact ⟨H1, I1, q1⟩
theorem pw_or (ha : PT X a tA) (hb : PW X (.BoolOp .Or (b :: bR) pos) tB') : PW X (.BoolOp .Or (a :: b :: bR) pos) (A8 tA tB') := by
  intro wh pins s σ H Q I h;refine isTrue_or (cV (ha pins s σ H _ I h) fun c s1 ⟨H1, I1, q1⟩ => ?_);cases c with
  | true => exact ⟨H1, I1, q1⟩
  | false => exact hb wh pins s1 σ H1 Q I1 q1
theorem xA (ha : PT X a tA) : PT X (.UnaryOp .Not a pos) (Av tA) := by
  intro pins s σ H Q I h;exact isTrue_not (ha pins s σ H (fun c H1 => Q (!c) H1) I h)
def zt (ta tb : TE) : TE := fun σ H Q => ta σ H fun x H1 => ∃ c, x = .bl c /\ if c = true then tb σ H1 Q else Q (.bl false) H1
def As (ta tb : TE) : TE := fun σ H Q => ta σ H fun x H1 => ∃ c, x = .bl c /\ if c = true then Q (.bl true) H1 else tb σ H1 Q
def zB (ta : TE) : TE := fun σ H Q => ta σ H fun x H1 => ∃ c, x = .bl c /\ Q (.bl (!c)) H1
theorem xj {op} {t : TE} (h : PE X a t) : PE X (.BoolOp op [a] pos) t := fun pins s σ H Q I hw => BoolOp_one (h pins s σ H Q I hw)
theorem yd (ha : PE X a ta) (hb : PE X (.BoolOp .And (b :: bR) pos) tb) : PE X (.BoolOp .And (a :: b :: bR) pos) (zt ta tb) := by
  intro pins s σ H Q I h;refine BoolOp_and (cV (ha pins s σ H _ I h) fun v s1 ⟨x, H1, I1, r1, q1⟩ => ?_);obtain ⟨c, rfl, q1⟩ := q1;cases r1;refine wpAny_truthy_bool ?_;cases c with
  | true => exact hb pins s1 σ H1 Q I1 q1
  | false => exact ⟨.bl false, H1, I1, rfl, q1⟩
theorem zM (ha : PE X a ta) (hb : PE X (.BoolOp .Or (b :: bR) pos) tb) : PE X (.BoolOp .Or (a :: b :: bR) pos) (As ta tb) := by
  intro pins s σ H Q I h;refine BoolOp_or (cV (ha pins s σ H _ I h) fun v s1 ⟨x, H1, I1, r1, q1⟩ => ?_);obtain ⟨c, rfl, q1⟩ := q1;cases r1;refine wpAny_truthy_bool ?_;cases c with
  | false => exact hb pins s1 σ H1 Q I1 q1
  | true => exact ⟨.bl true, H1, I1, rfl, q1⟩
theorem yh (ha : PE X a ta) : PE X (.UnaryOp .Not a pos) (zB ta) := by
  intro pins s σ H Q I h;refine UnaryOp_ (cV (ha pins s σ H _ I h) fun v s1 ⟨x, H1, I1, r1, q1⟩ => ?_);obtain ⟨c, rfl, q1⟩ := q1;cases r1;exact not_of (wpAny_truthy_bool ⟨.bl (!c), H1, I1, rfl, q1⟩)
end
def kD (K : PySem.W.Frag) (H : Hp) (a : Addr) (xs : List V) : Prop :=
  Rd H a (.lst xs) \/
    ∃ (o : Obj) (its : Array Value) (n : Nat), K.lookup a = some o /\ o.cls = .type "list" /\ o.dict = none /\ o.data = .seq its n /\ its.size <= sizeLine /\ bq xs its.toList
def ge (K : PySem.W.Frag) (H : Hp) (a : Addr) (xs : List V) : Prop :=
  Rd H a (.tup xs) \/
    ∃ (o : Obj) (its : Array Value) (n : Nat), K.lookup a = some o /\ o.cls = .type "tuple" /\ o.data = .seq its n /\ its.size <= sizeLine /\ bq xs its.toList
def AL : Value -> Option V
  | .none => some .non
  | .bool b => some (.bl b)
  | .int i _ => some (.int i)
  | .str x _ => some (.str x)
  | .bytes b _ => some (.byt b)
  | .float b _ => some (.flt b)
  | .ref a => some (.ref a)
  | .type n => some (.ty n)
  | _ => none
theorem bx.abs {x : V} {u : Value} (r : bx x u) : AL u = some x := by
  cases x with
  | non => cases r; rfl
  | bl _ => cases r; rfl
  | int _ => obtain ⟨t, rfl⟩ := r; rfl
  | str _ => obtain ⟨t, rfl⟩ := r; rfl
  | byt _ => obtain ⟨t, rfl⟩ := r; rfl
  | flt _ => obtain ⟨t, rfl⟩ := r; rfl
  | ref _ => cases r; rfl
  | ty _ => cases r; rfl
theorem bx.inj {x y : V} {u : Value} (r : bx x u) (q : bx y u) : x = y := Option.some.inj (r.abs.symm.trans q.abs)
theorem bq.inj : ∀ {xs ys : List V} {us : List Value}, bq xs us -> bq ys us -> xs = ys
  | _, _, _, .nil, .nil => rfl
  | _, _, _, .cons r t, .cons r' t' => by rw [r.inj r', bq.inj t t']
section
variable {X : Cx} {pins : List (Addr × Obj)} {σ : St} {H : Hp} {s : Shared} {a : Addr} {xs ys : List V}
theorem kD.of {K : PySem.W.Frag} (h : H a = some (.lst xs)) : kD K H a xs := .inl (.inl h)
theorem ge.of {K : PySem.W.Frag} (h : H a = some (.tup xs)) : ge K H a xs := .inl (.inl h)
theorem aE.list (I : aE X pins σ H s) (h : kD X.K H a xs) : ∃ its : List Value, bq xs its /\ PlainL s.heap a its.toArray /\ xs.length <= sizeLine := by
  rcases h with h | ⟨o, its, n, hk, hc, hd, hs, hz, r⟩
  · obtain ⟨z, its, n, r, e⟩ := h.ok I.hok;exact ⟨its, r, ⟨_, n, e, rfl, rfl, rfl⟩, z⟩
  · refine ⟨its.toList, r, ⟨o, n, I.kIn a o hk, hc, hd, by simpa using hs⟩, ?_⟩;have e := r.length;simp only [Array.length_toList] at e;omega
theorem aE.tuple (I : aE X pins σ H s) (h : ge X.K H a xs) : ∃ its : List Value, bq xs its /\ IsTup s.heap a its.toArray /\ xs.length <= sizeLine := by
  rcases h with h | ⟨o, its, n, hk, hc, hs, hz, r⟩
  · obtain ⟨z, its, r, p⟩ := h.ok I.hok;exact ⟨its, r, p, z⟩
  · refine ⟨its.toList, r, ⟨o, I.kIn a o hk, hc, n, by simpa using hs⟩, ?_⟩;have e := r.length;simp only [Array.length_toList] at e;omega
theorem aE.list_inj (I : aE X pins σ H s) (h : kD X.K H a xs) (h' : kD X.K H a ys) : xs = ys := by
  obtain ⟨its, r, ⟨o, n, e, _, _, d⟩, _⟩ := I.list h;obtain ⟨its', r', ⟨o', n', e', _, _, d'⟩, _⟩ := I.list h';rw [e] at e'; cases e';rw [d] at d';injection d' with d1 _
  have : its = its' := by simpa using congrArg Array.toList d1
  subst this;exact r.inj r'
theorem aE.tuple_inj (I : aE X pins σ H s) (h : ge X.K H a xs) (h' : ge X.K H a ys) : xs = ys := by
  obtain ⟨its, r, ⟨o, e, _, n, d⟩, _⟩ := I.tuple h;obtain ⟨its', r', ⟨o', e', _, n', d'⟩, _⟩ := I.tuple h';rw [e] at e'; cases e';rw [d] at d';injection d' with d1 _
  have : its = its' := by simpa using congrArg Array.toList d1
  subst this;exact r.inj r'
end
abbrev Cx.wish (X : Cx) (E : Value -> Shared -> Prop) : Cx := { X with xe := E }
abbrev Cx.nox (X : Cx) : Cx := X.wish fun _ _ => False
theorem Cx.Ok.wish {X : Cx} (ok : X.Ok) (E : Value -> Shared -> Prop) : (X.wish E).Ok :=
  ⟨ok.mod, ok.kind, ok.glob, ok.blt, ok.above, ok.inj, ok.has, ok.cab, ok.hd, ok.frames, ok.stk, ok.exf, ok.bs, ok.bsz, ok.noex, ok.exfs, ok.funs, ok.frf⟩
theorem Cx.Ok.unwish {X : Cx} {E : Value -> Shared -> Prop} (ok : (X.wish E).Ok) : X.Ok :=
  ⟨ok.mod, ok.kind, ok.glob, ok.blt, ok.above, ok.inj, ok.has, ok.cab, ok.hd, ok.frames, ok.stk, ok.exf, ok.bs, ok.bsz, ok.noex, ok.exfs, ok.funs, ok.frf⟩
section
variable {X : Cx} {pins : List (Addr × Obj)} {σ : St} {H : Hp} {s : Shared} {E : Value -> Shared -> Prop}
theorem aE.wish (I : aE X pins σ H s) (E : Value -> Shared -> Prop) : aE (X.wish E) pins σ H s := ⟨I.ok.wish E, I.os, I.bare, I.base, I.loc, I.cell, I.free, I.freeC, I.pin, I.hok, I.len⟩
theorem aE.unwish (I : aE (X.wish E) pins σ H s) : aE X pins σ H s := ⟨I.ok.unwish, I.os, I.bare, I.base, I.loc, I.cell, I.free, I.freeC, I.pin, I.hok, I.len⟩
theorem SP.unwish {D : nk} {f : Flow} {s' : Shared} (h : SP (X.wish E) pins D f s') : SP X pins D f s' := by
  cases f with
  | next => obtain ⟨σ', H', I, q⟩ := h; exact ⟨σ', H', I.unwish, q⟩
  | brk => obtain ⟨σ', H', I, q⟩ := h; exact ⟨σ', H', I.unwish, q⟩
  | cont => obtain ⟨σ', H', I, q⟩ := h; exact ⟨σ', H', I.unwish, q⟩
  | ret u => obtain ⟨v, σ', H', I, r, q⟩ := h; exact ⟨v, σ', H', I.unwish, r, q⟩
theorem PE.nox {e : Expr} {t : TE} (h : PE X.nox e t) : PE X e t := fun pins s σ H Q I hw =>
  wpAny_mono (h pins s σ H Q (I.wish _) hw) (fun _ _ ⟨v, H', I', r, q⟩ => ⟨v, H', I'.unwish, r, q⟩) fun _ _ z => False.elim z
theorem PT.nox {e : Expr} {t : TT} (h : PT X.nox e t) : PT X e t := fun pins s σ H Q I hw =>
  wpAny_mono (h pins s σ H Q (I.wish _) hw) (fun _ _ ⟨H', I', q⟩ => ⟨H', I'.unwish, q⟩) fun _ _ z => False.elim z
theorem og.nox {st : List Stmt} {t : TS} (h : og X.nox st t) : og X st t := fun pins s σ H D I hw =>
  wpAny_mono (h pins s σ H D (I.wish _) hw) (fun _ _ q => q.unwish) fun _ _ z => False.elim z
end
section
variable {X : Cx} {st : Stmt} {bR : List Stmt} {t u : TS} {e : Expr} {te : TE} {pos : Pos}
def yP : TS := fun D σ H => D.nx σ H
def Ak (t u : TS) : TS := fun D σ H => t { D with nx := u D } σ H
theorem wl : og X [] yP := fun _ _ σ H _ I h => wpAny_execs_nil ⟨σ, H, I, h⟩
theorem uI (h1 : PS X st t) (h2 : og X bR u) : og X (st :: bR) (Ak t u) := by
  intro pins s σ H D I h;refine wpAny_execs_cons (cV (h1 pins s σ H { D with nx := u D } I h) fun f s1 q => ?_);cases f with
  | next =>
    obtain ⟨σ', H', I', q⟩ := q;exact h2 pins s1 σ' H' D I' q
  | ret v => exact q
  | brk => exact q
  | cont => exact q
theorem wy (h1 : PS X st t) : og X [st] t := by
  intro pins s σ H D I h;refine wpAny_execs_cons (cV (h1 pins s σ H D I h) fun f s1 q => ?_);cases f with
  | next => exact wpAny_execs_nil q
  | ret v => exact q
  | brk => exact q
  | cont => exact q
theorem aE.quiet {pins : List (Addr × Obj)} {σ : St} {H : Hp} {s : Shared} (I : aE X pins σ H s) : interactive X.env = false := by simp [interactive, I.ok.kind]
def zG (te : TE) : TS := fun D σ H => te σ H fun _ H1 => D.nx σ H1
theorem wD (he : PE X e te) (hs : swapsWith e none pos.line X.env = pure false := by rfl) : PS X (.Expr e pos) (zG te) := by
  intro pins s σ H D I h;exact wpAny_Expr_any (cV (he pins s σ H _ I h) fun v s1 ⟨x, H1, I1, r1, q1⟩ => ⟨σ, H1, I1, q1⟩) I.quiet hs
def AK (te : TE) : TS := fun D σ H => te σ H D.rt
theorem xP (he : PE X e te) : PS X (.Return (some e) pos) (AK te) := by
  intro pins s σ H D I h;exact wpAny_Return_some (cV (he pins s σ H _ I h) fun v s1 ⟨x, H1, I1, r1, q1⟩ => ⟨x, σ, H1, I1, r1, q1⟩)
def Au (c : TT) (t u : TS) : TS := fun D σ H => c σ H fun b H1 => if b = true then t D σ H1 else u D σ H1
theorem zN {c : Expr} {a b : List Stmt} {tc : TT} (hc : PT X c tc) (ha : og X a t) (hb : og X b u) : PS X (.If c a b pos) (Au tc t u) := by
  intro pins s σ H D I h;refine wpAny_If (cV (hc pins s σ H _ I h) fun d s1 ⟨H1, I1, q1⟩ => ?_);cases d with
  | true => exact ha pins s1 σ H1 D I1 q1
  | false => exact hb pins s1 σ H1 D I1 q1
end
abbrev TG := V -> St -> Hp -> (St -> Hp -> Prop) -> Prop
abbrev xY := List V -> St -> Hp -> (St -> Hp -> Prop) -> Prop
def PG (X : Cx) (target : Expr) (t : TG) : Prop :=
  ∀ (pins : List (Addr × Obj)) (s : Shared) (σ : St) (H : Hp) (v : V) (u : Value) (Q : St -> Hp -> Prop), aE X pins σ H s -> bx v u -> t v σ H Q ->
    wpAny (model X.prog X.w) X.A (assign target X.env u) (fun _ s' => ∃ σ' H', aE X pins σ' H' s' /\ Q σ' H') X.xe s
def zR (X : Cx) (ts : List Expr) (t : xY) : Prop :=
  ∀ (pins : List (Addr × Obj)) (s : Shared) (σ : St) (H : Hp) (vs : List V) (us : List Value) (Q : St -> Hp -> Prop), aE X pins σ H s -> bq vs us -> t vs σ H Q ->
    wpAny (model X.prog X.w) X.A (assignInOrder ((assignEach ts X.env).map (·.2)) us) (fun _ s' => ∃ σ' H', aE X pins σ' H' s' /\ Q σ' H') X.xe s
section
variable {X : Cx} {pos : Pos}
def wN (i : Nat) : TG := fun v σ H Q => Q (σ.set i (some v)) H
theorem nO {i : Nat} {x : Str} (hN : X.N.Nodup) (hi : X.N[i]? = some x) (hx : w9 X.env.scope x) (hf : X.fn x = true \/ X.env.scope.names.lookup x = some .local := by first | exact .inl rfl | exact .inr rfl | assumption) : PG X (.Name x pos) (wN i) := by
  intro pins s σ H v u Q I r h;exact wpAny_assign_Name (jn I hN hi hx r (fun s' I' => ⟨_, H, I', h⟩) hf)
def Ay : xY := fun vs σ H Q => vs = [] /\ Q σ H
def zv (t : TG) (u : xY) : xY := fun vs σ H Q => ∃ v r, vs = v :: r /\ t v σ H fun σ' H' => u r σ' H' Q
theorem vb : zR X [] Ay := by
  intro pins s σ H vs us Q I r h;obtain ⟨e, h⟩ := h;subst e;cases r;exact assignInOrder_nil ⟨σ, H, I, h⟩
theorem pN {e : Expr} {es : List Expr} {t : TG} {u : xY} (h1 : PG X e t) (h2 : zR X es u)
    (hs : (assignEach (e :: es) X.env).map (·.2) = assign e X.env :: (assignEach es X.env).map (·.2) := by rfl) : zR X (e :: es) (zv t u) := by
  intro pins s σ H vs us Q I r h;obtain ⟨v, vr, e1, h⟩ := h;subst e1;cases r with
  | cons r rr =>
    rw [hs];refine assignInOrder_cons (cV (h1 pins s σ H _ _ _ I r h) fun _ s1 ⟨σ1, H1, I1, q1⟩ => ?_);exact h2 pins s1 σ1 H1 _ _ Q I1 rr q1
def At (K : PySem.W.Frag) (n : Nat) (t : xY) : TG := fun v σ H Q => ∃ a xs, v = .ref a /\ ge K H a xs /\ xs.length = n /\ t xs σ H Q
theorem xD {es : List Expr} {k : Nat} {t : xY} {n : Nat} (hc : X.calm = true) (h : zR X es t)
    (hn : (assignEach es X.env).length = n := by rfl) (hst : (assignEach es X.env).findIdx? (·.1) = none := by rfl) : PG X (.Tuple es k pos) (At X.K n t) := by
  intro pins s σ H v u Q I r hw;obtain ⟨a, xs, e1, hq, hl, hw⟩ := hw;subst e1;cases r;obtain ⟨its, rv, ht, hz⟩ := I.tuple hq;refine assign_Tuple_tuple (I.ok.hd hc) ht (by simp [hn, <- hl, rv.length]) hst fun h' hx => ?_
  have I1 : aE X pins σ H { s with heap := h' } := I.kept (t' := s.toks) fun b o e => hx b o (Nat.ne_of_lt (Heap.lt_size e)) e
  exact h pins _ σ H xs _ Q I1 (by simpa using rv) hw
def AO (te : TE) (g : TG) : TS := fun D σ H => te σ H fun x H1 => g x σ H1 D.nx
theorem tN {i : Nat} {x : Str} {e : Expr} {te : TE} {pos' : Pos} (hN : X.N.Nodup) (hi : X.N[i]? = some x) (hx : w9 X.env.scope x) (he : PE X e te) (hs : swapsWith e (some (.Name x pos')) pos.line X.env = pure false := by rfl) (hf : X.fn x = true \/ X.env.scope.names.lookup x = some .local := by first | exact .inl rfl | exact .inr rfl | assumption) :
    PS X (.Assign [.Name x pos'] e pos) (AO te (wN i)) := by
  intro pins s σ H D I h;refine wpAny_Assign_Name (cV (he pins s σ H _ I h) fun v s1 ⟨y, H1, I1, r1, q1⟩ => ?_) hs;exact jn I1 hN hi hx r1 (fun s2 I2 => ⟨_, H1, I2, q1⟩) hf
end
section
variable {X : Cx} {pos : Pos}
def xK (c : TT) (tb : TS) : TS := fun D σ H => ∃ W : Nat -> St -> Hp -> Prop, (∃ m, W m σ H) /\ ∀ m σ H, W m σ H ->
  c σ H fun b H1 => if b = true then ∃ N : St -> Hp -> Prop, (∀ σ' H', N σ' H' -> ∃ m', m' < m /\ W m' σ' H') /\ tb { D with nx := N, ct := N, bk := D.nx } σ H1 else D.nx σ H1
theorem ug {c : Expr} {body : List Stmt} {tc : TT} {tb : TS} (hp : PassesOwn (model X.prog X.w) X.A X.env X.xe) (hc : PT X c tc) (hb : og X body tb) : PS X (.While c body [] pos) (xK tc tb) := by
  intro pins s σ H D I h;obtain ⟨W, ⟨m0, w0⟩, turn⟩ := h;refine wpAny_While (codeAny_whileLoop (fun n s' => ∃ σ' H', aE X pins σ' H' s' /\ W n σ' H') ?_ m0 ⟨σ, H, I, w0⟩);rintro n s1 ⟨σ1, H1, I1, w1⟩;refine wpAny_passesOwn hp (cV (hc pins s1 σ1 H1 _ I1 (turn n σ1 H1 w1)) fun b s2 ⟨H2, I2, q2⟩ => ?_);cases b with
  | true =>
    obtain ⟨N, hN, q2⟩ := q2;rw [if_pos rfl];refine wpAny_passesOwn hp (cV (hb pins s2 σ1 H2 _ I2 q2) fun f s3 q3 => ?_);cases f with
    | next =>
      obtain ⟨σ3, H3, I3, n3⟩ := q3;obtain ⟨m', hm, w3⟩ := hN σ3 H3 n3;exact ⟨m', hm, σ3, H3, I3, w3⟩
    | cont =>
      obtain ⟨σ3, H3, I3, n3⟩ := q3;obtain ⟨m', hm, w3⟩ := hN σ3 H3 n3;exact ⟨m', hm, σ3, H3, I3, w3⟩
    | brk => exact q3
    | ret v => exact q3
  | false =>
    rw [if_neg Bool.false_ne_true];exact wpAny_execs_nil ⟨σ1, H2, I2, q2⟩
end
structure It where
  go : Nat -> Hp -> Prop
  yld : Nat -> Hp -> V -> Hp -> Prop
  stop : Nat -> Hp -> Prop
def kG (X : Cx) (pins : List (Addr × Obj)) (H : Hp) (b : Addr) : Prop :=
  H b = none /\ b ≠ X.env.locals /\ b ∉ X.fs /\ (b ∈ X.ex \/ X.s₀.heap.objs.size <= b) /\ (∀ x c, X.env.cells.lookup x = some c -> c ≠ b) /\ ∀ p ∈ X.pn ++ pins, p.1 ≠ b
theorem aE.fpOk {X : Cx} {pins : List (Addr × Obj)} {σ : St} {H H' : Hp} {s : Shared} {b : Addr} (I : aE X pins σ H s) (hb : s.heap.objs.size <= b) (hn : H' b = none) : kG X pins H' b := by
  refine ⟨hn, Nat.ne_of_gt (Nat.lt_of_lt_of_le I.lt hb), I.nofs hb, .inr (Nat.le_trans I.sz hb), fun x c e z => ?_, fun p hp z => ?_⟩
  · obtain ⟨v, q⟩ := I.cell x c e;exact absurd (Nat.lt_of_lt_of_le q.lt (by rw [z]; exact hb)) (Nat.lt_irrefl _)
  · exact absurd (Nat.lt_of_lt_of_le (Heap.lt_size (I.pin p hp).1) (by rw [z]; exact hb)) (Nat.lt_irrefl _)
structure pT (P : Program) (w : World) (K : PySem.W.Frag) (tg : Expr) (J : It) (fp : List Addr) (it : Addr) (tn : Nat -> Heap -> Prop) : Prop where
  mem : it ∈ fp
  obj : ∀ i h, tn i h -> ∀ b ∈ fp, ∃ o, h.get? b = some o /\ ∀ v, o.data ≠ .cell v
  keep : ∀ i h h', tn i h -> (∀ b ∈ fp, ∀ o, h.get? b = some o -> h'.get? b = some o) -> tn i h'
  item : ∀ (X : Cx), X.prog = P -> X.w = w -> X.K = K -> X.calm = true -> ∀ (i : Nat) (pins : List (Addr × Obj)) (s : Shared) (σ : St) (H : Hp) (E : Value -> Shared -> Prop), aE X pins σ H s -> (∀ b ∈ fp, kG X pins H b) -> tn i s.heap -> J.go i H ->
    wpAny (model P w) X.A (pyNext (.ref it)) (fun r s1 => ∃ u, r = some u /\
      wpAny (model P w) X.A (letOwnedTupleGo tg (.ref it) u) (fun _ s2 => ∃ x H', aE X pins σ H' s2 /\ bx x u /\ J.yld i H x H' /\ tn (i + 1) s2.heap /\ ∀ b ∈ fp, H' b = none) E s1) E s
  done : ∀ (X : Cx), X.prog = P -> X.w = w -> X.K = K -> X.calm = true -> ∀ (i : Nat) (pins : List (Addr × Obj)) (s : Shared) (σ : St) (H : Hp) (E : Value -> Shared -> Prop), aE X pins σ H s -> (∀ b ∈ fp, kG X pins H b) -> tn i s.heap -> J.stop i H ->
    wpAny (model P w) X.A (pyNext (.ref it)) (fun r s1 => r = none /\ aE X pins σ H s1) E s
  self : ∀ (A : Around) (i : Nat) (s : Shared) (Q : Value -> Shared -> Prop) (E : Value -> Shared -> Prop), tn i s.heap -> Q (.ref it) s -> wpAny (model P w) A (pyIter (.ref it)) Q E s
abbrev TI := St -> Hp -> (It -> Hp -> Prop) -> Prop
def AS (X : Cx) (pins : List (Addr × Obj)) (σ : St) (tg : Expr) (R : It -> Hp -> Prop) (itv : Value) (s2 : Shared) : Prop :=
  ∃ (it : Addr) (fp : List Addr) (tn : Nat -> Heap -> Prop) (J : It) (H' : Hp), itv = .ref it /\ aE X pins σ H' s2 /\ pT X.prog X.w X.K tg J fp it tn /\ tn 0 s2.heap /\ (∀ b ∈ fp, kG X pins H' b) /\ R J H'
def PI (X : Cx) (tg iter : Expr) (wi : TI) : Prop :=
  ∀ (pins : List (Addr × Obj)) (s : Shared) (σ : St) (H : Hp) (R : It -> Hp -> Prop), aE X pins σ H s -> wi σ H R ->
    wpAny (model X.prog X.w) X.A (eval iter X.env) (fun v s1 => wpAny (model X.prog X.w) X.A (pyIter v) (AS X pins σ tg R) X.xe s1) X.xe s
theorem uJ {M : Model} {A : Around} {E : Value -> Shared -> Prop} {s : Shared} {tg : Expr} {it : Addr} {u : Value} {o : Obj} {n : String} {vs : Array Value} {Q : Unit -> Shared -> Prop} (ho : s.heap.get? it = some o) (hc : o.cls = .type n) (hd : o.data = .fields vs)
    (hn : ["enumerate", "zip", "dict_itemiterator", "dict_reverseitemiterator", "odict_iterator", "itertools.zip_longest", "itertools.pairwise"].contains n = false) (hQ : Q () s) : wpAny M A (letOwnedTupleGo tg (.ref it) u) Q E s := by
  unfold letOwnedTupleGo;cases tg <;> first
    | exact wpAny_pure hQ
    | (cases u <;> first
        | exact wpAny_pure hQ
        | (refine wpAny_bind (wpAny_load ho ?_)
           rw [hc, hd];show wpAny M A (if (["enumerate", "zip", "dict_itemiterator", "dict_reverseitemiterator", "odict_iterator", "itertools.zip_longest", "itertools.pairwise"].contains n && vs[0]? == some (rawInt _)) = true then _ else _) Q E s;rw [if_neg (by intro h; rw [hn, Bool.false_and] at h; cases h)];exact wpAny_pure hQ))
def Ai (K : PySem.W.Frag) (a : Addr) : It :=
  ⟨fun i H => ∃ xs x, kD K H a xs /\ xs[i]? = some x, fun i H x H' => H' = H /\ ∀ xs, kD K H a xs -> xs[i]? = some x, fun i H => ∃ xs, kD K H a xs /\ xs.length <= i⟩
def AJ (K : PySem.W.Frag) (a : Addr) : It :=
  ⟨fun i H => ∃ xs x, ge K H a xs /\ xs[i]? = some x, fun i H x H' => H' = H /\ ∀ xs, ge K H a xs -> xs[i]? = some x, fun i H => ∃ xs, ge K H a xs /\ xs.length <= i⟩
def zZ (lo : Int) (n : Nat) : It := ⟨fun i _ => i < n, fun i H x H' => H' = H /\ x = .int (lo + i), fun i _ => n <= i⟩
theorem sh {P : Program} {w : World} {K : PySem.W.Frag} {tg : Expr} (a it : Addr) : pT P w K tg (Ai K a) [it] it (fun i h => h.IsListIter it a i) where
  mem := by simp
  obj := fun i h st b hb => by
    have e : b = it := by simpa using hb
    subst e;obtain ⟨o, e, c, d⟩ := st;exact ⟨o, e, fun v z => by rw [d] at z; cases z⟩
  keep := fun i h h' st k => st.at fun o e => k it (by simp) o e
  item := by
    intro X hP hw hK hc i pins s σ H E I hf st hg;subst hP hw hK;obtain ⟨xs, x, hq, hx⟩ := hg;obtain ⟨its, rv, p, hz⟩ := I.list hq;obtain ⟨u, hu, ru⟩ := rv.get hx;obtain ⟨f0, f1, f2, f3, f4, f5⟩ := hf it (by simp);refine wpAny_pyNext_list_item st p.isList (x := u) (by simpa using hu) fun h' st' sb => ?_
    have I1 : aE X pins σ H { s with heap := h' } := I.turned (t' := s.toks) (fun b o hb e => (sb.2 b hb).trans e) f0 f1 f3 f4 f5;obtain ⟨o, e, c, d⟩ := id st';exact ⟨u, rfl, uJ (s := { s with heap := h' }) e c d (by decide) ⟨x, H, I1, ru, ⟨rfl, fun ys hy => by rw [I.list_inj hy hq]; exact hx⟩, st', fun b hb => (hf b hb).1⟩⟩
  done := by
    intro X hP hw hK hc i pins s σ H E I hf st hg;subst hP hw hK;obtain ⟨xs, hq, hx⟩ := hg;obtain ⟨its, rv, p, hz⟩ := I.list hq;obtain ⟨f0, f1, f2, f3, f4, f5⟩ := hf it (by simp);have hl := rv.length;exact wpAny_pyNext_list_end (I.ok.hd hc) st p.isList (by simp; omega) fun h' eb => ⟨rfl, I.turned (t' := s.toks) (fun b o hb e => eb b o hb e) f0 f1 f3 f4 f5⟩
  self := fun _ _ _ _ _ st h => wpAny_pyIter_listiter st h
theorem qx {P : Program} {w : World} {K : PySem.W.Frag} {tg : Expr} (a it : Addr) : pT P w K tg (AJ K a) [it] it (fun i h => h.IsTupleIter it a i) where
  mem := by simp
  obj := fun i h st b hb => by
    have e : b = it := by simpa using hb
    subst e;obtain ⟨o, e, c, d⟩ := st;exact ⟨o, e, fun v z => by rw [d] at z; cases z⟩
  keep := fun i h h' st k => st.at fun o e => k it (by simp) o e
  item := by
    intro X hP hw hK hc i pins s σ H E I hf st hg;subst hP hw hK;obtain ⟨xs, x, hq, hx⟩ := hg;obtain ⟨its, rv, p, hz⟩ := I.tuple hq;obtain ⟨u, hu, ru⟩ := rv.get hx;obtain ⟨f0, f1, f2, f3, f4, f5⟩ := hf it (by simp);refine wpAny_pyNext_tuple_item st (show s.heap.IsTuple a its.toArray from p) (x := u) (by simpa using hu) fun h' st' sb => ?_
    have I1 : aE X pins σ H { s with heap := h' } := I.turned (t' := s.toks) (fun b o hb e => (sb.2 b hb).trans e) f0 f1 f3 f4 f5;obtain ⟨o, e, c, d⟩ := id st';exact ⟨u, rfl, uJ (s := { s with heap := h' }) e c d (by decide) ⟨x, H, I1, ru, ⟨rfl, fun ys hy => by rw [I.tuple_inj hy hq]; exact hx⟩, st', fun b hb => (hf b hb).1⟩⟩
  done := by
    intro X hP hw hK hc i pins s σ H E I hf st hg;subst hP hw hK;obtain ⟨xs, hq, hx⟩ := hg;obtain ⟨its, rv, p, hz⟩ := I.tuple hq;obtain ⟨f0, f1, f2, f3, f4, f5⟩ := hf it (by simp);have hl := rv.length;exact wpAny_pyNext_tuple_end (I.ok.hd hc) st (show s.heap.IsTuple a its.toArray from p) (by simp; omega) fun h' eb => ⟨rfl, I.turned (t' := s.toks) (fun b o hb e => eb b o hb e) f0 f1 f3 f4 f5⟩
  self := fun _ _ _ _ _ st h => wpAny_pyIter_tupleiter st h
theorem qV {P : Program} {w : World} {K : PySem.W.Frag} {tg : Expr} (it : Addr) (lo : Int) (n : Nat) : pT P w K tg (zZ lo n) [it] it (fun i h => IsRangeIter h it (lo + (i : Nat) * 1) ((n : Int) - (i : Nat)) 1) where
  mem := by simp
  obj := fun i h st b hb => by
    have e : b = it := by simpa using hb
    subst e;exact ⟨_, st, fun v z => by
      have z' : Data.fields _ = Data.cell v := z;cases z'⟩
  keep := fun i h h' st k => k it (by simp) _ st
  item := by
    intro X hP hw hK hc i pins s σ H E I hf st hg;subst hP hw hK;obtain ⟨f0, f1, f2, f3, f4, f5⟩ := hf it (by simp);have W := Walks.range (prog := X.prog) (w := X.w) (I.ok.hd hc) it lo 1 n;refine W.item i s _ _ hg st fun v h' tk hv st' kk => ?_
    obtain ⟨t, rfl⟩ := hv;have I1 : aE X pins σ H { s with heap := h', toks := tk } := I.turned (fun b o hb e => kk b o (by simpa using hb) e) f0 f1 f3 f4 f5;refine ⟨_, rfl, uJ (s := { s with heap := h', toks := tk }) (n := "range_iterator") st' rfl rfl (by decide) ⟨.int (lo + i), H, I1, ⟨t, ?_⟩, ⟨rfl, rfl⟩, st', fun b hb => (hf b hb).1⟩⟩;rw [Int.mul_one]
  done := by
    intro X hP hw hK hc i pins s σ H E I hf st hg;subst hP hw hK;obtain ⟨f0, f1, f2, f3, f4, f5⟩ := hf it (by simp);exact wpAny_pyNext_range_end (I.ok.hd hc) st (by have : n <= i := hg; omega) fun h' eb => ⟨rfl, I.turned (t' := s.toks) (fun b o hb e => eb b o hb e) f0 f1 f3 f4 f5⟩
  self := fun _ _ _ _ _ st h => wpAny_pyIter_rangeiter st h
section
variable {X : Cx} {tg : Expr}
theorem uF {pins : List (Addr × Obj)} {σ : St} {H : Hp} {s : Shared} {R : It -> Hp -> Prop} {E : Value -> Shared -> Prop} {lo hi : Int} {t u v : Tok} {tk : Nat} (I : aE X pins σ H s) (h1 : -(2 ^ 62) <= lo) (h2 : lo < 2 ^ 62) (h3 : -(2 ^ 62) <= hi) (h4 : hi < 2 ^ 62)
    (q : R (zZ lo (hi - lo).toNat) H) : wpAny (model X.prog X.w) X.A (pyIter (.ref s.heap.objs.size)) (AS X pins σ tg R) E { s with heap := s.heap.push { cls := .type "range", data := .fields #[.int lo t, .int hi u, .int 1 v] }, toks := tk } := by
  refine wpAny_pyIter_range (IsRange.new ..) (small_one h1 h2 h3 h4) ?_;have I1 : aE X pins σ H { s with heap := s.heap.push { cls := .type "range", data := .fields #[.int lo t, .int hi u, .int 1 v] }, toks := tk } := I.kept fun b o e => Heap.get?_push_of_some _ e
  refine ⟨(s.heap.push { cls := .type "range", data := .fields #[.int lo t, .int hi u, .int 1 v] }).objs.size, [(s.heap.push { cls := .type "range", data := .fields #[.int lo t, .int hi u, .int 1 v] }).objs.size], _, _, H, rfl,
    I1.kept (t' := tk) fun b o e => Heap.get?_push_of_some _ e, qV _ lo (hi - lo).toNat, ?_, fun b hb => ?_, q⟩
  · have e1 : lo + ((0 : Nat) : Int) * 1 = lo := by simp
    have e2 : (((hi - lo).toNat : Nat) : Int) - ((0 : Nat) : Int) = Builtin.Range.rangeSize lo hi 1 := by rw [rangeSize_one]; split <;> omega
    show IsRangeIter _ _ (lo + ((0 : Nat) : Int) * 1) ((((hi - lo).toNat : Nat) : Int) - ((0 : Nat) : Int)) 1;rw [e1, e2];exact Heap.get?_push_size _ rfl
  · have e : b = (s.heap.push { cls := .type "range", data := .fields #[.int lo t, .int hi u, .int 1 v] }).objs.size := by simpa using hb
    subst e;exact I1.fpOk (Nat.le_refl _) (I1.hok.fresh (Nat.le_refl _))
def zI (ta : TA) : TI := fun σ H R => ta σ H fun vs H1 => ∃ j : Int, vs = [.int j] /\ -(2 ^ 62) <= j /\ j < 2 ^ 62 /\ R (zZ 0 j.toNat) H1
theorem rY {a : Expr} {ta : TA} {p pos : Pos} (hg : Gl X "range") (hm : X.mg "range" = none) (ha : PA X [a] ta) (hs : starEach [a] X.env = [(false, eval a X.env)] := by rfl) : PI X tg (.Call (.Name "range" p) [a] [] pos) (zI ta) := by
  intro pins s σ H R I h;refine Call_ (jV I hg hm boot_range (PyProof.Rows.callWith_type1 (cV (ha pos pins s σ H _ I h) fun us s1 ⟨vs, H1, I1, r1, q1⟩ => ?_) hs rfl));obtain ⟨j, e, q1, q2, q⟩ := q1;subst e;cases r1 with
  | cons r rr =>
    cases rr;obtain ⟨t, rfl⟩ := r;exact call_range_1 (uF I1 (by omega) (by omega) q1 q2 (by simpa using q))
def Ag (wi : TI) (g : TG) (tb : TS) : TS := fun D σ H => wi σ H fun J H1 => ∃ W : Nat -> Nat -> St -> Hp -> Prop, (∃ m, W 0 m σ H1) /\ ∀ i m σ H, W i m σ H ->
  (J.stop i H /\ D.nx σ H) \/ (J.go i H /\ ∃ N : St -> Hp -> Prop, (∀ σ' H', N σ' H' -> ∃ m', m' < m /\ W (i + 1) m' σ' H') /\ ∀ x H', J.yld i H x H' -> g x σ H' fun σ2 H2 => tb { D with nx := N, ct := N, bk := D.nx } σ2 H2)
def k8 (fp : List Addr) (h : Heap) : List (Addr × Obj) := fp.filterMap fun b => (h.get? b).map fun o => (b, o)
theorem gn {fp : List Addr} {h : Heap} {b : Addr} {o : Obj} (hb : b ∈ fp) (e : h.get? b = some o) : (b, o) ∈ k8 fp h := List.mem_filterMap.mpr ⟨b, hb, by rw [e]; rfl⟩
theorem sT {fp : List Addr} {h : Heap} {p : Addr × Obj} (hp : p ∈ k8 fp h) : p.1 ∈ fp /\ h.get? p.1 = some p.2 := by
  obtain ⟨b, hb, e⟩ := List.mem_filterMap.mp hp;cases q : h.get? b with
  | none => rw [q] at e; cases e
  | some o =>
    rw [q] at e;have e' : (b, o) = p := Option.some.inj e;subst e';exact ⟨hb, q⟩
theorem aE.pinned {pins : List (Addr × Obj)} {σ : St} {H : Hp} {s : Shared} {fp : List Addr} (I : aE X pins σ H s) (hf : ∀ b ∈ fp, kG X pins H b) (ho : ∀ b ∈ fp, ∃ o, s.heap.get? b = some o /\ ∀ v, o.data ≠ .cell v) : aE X (pins ++ k8 fp s.heap) σ H s :=
  I.pins_of fun p hp => (List.mem_append.mp hp).elim (fun z => I.pin p (List.mem_append_right _ z)) fun z => by
    obtain ⟨hb, e⟩ := sT z;obtain ⟨f0, f1, f2, _⟩ := hf p.1 hb;obtain ⟨o, e', d⟩ := ho p.1 hb;rw [e] at e'; cases e';exact ⟨e, f0, f1, f2, d⟩
theorem aE.unpinned {pins pl : List (Addr × Obj)} {σ : St} {H : Hp} {s : Shared} (I : aE X (pins ++ pl) σ H s) : aE X pins σ H s := I.pins_of fun p hp => I.pin p (List.mem_append_right _ (List.mem_append_left _ hp))
theorem yq {iter : Expr} {body : List Stmt} {wi : TI} {g : TG} {tb : TS} {pos : Pos} (hp : PassesOwn (model X.prog X.w) X.A X.env X.xe) (hc : X.calm = true) (hi : PI X tg iter wi) (hg : PG X tg g) (hb : og X body tb)
    (hs : ∀ x, foldedSetIterable iter X.env x = pure x := by intro _; rfl) : PS X (.For tg iter body [] pos) (Ag wi g tb) := by
  intro pins s σ H D I h;refine wpAny_For (cV (hi pins s σ H _ I h) fun v s1 h1 => cV h1 fun itv s2 h2 => ?_) hs;obtain ⟨it, fp, tn, J, H2, e, I2, T, st2, f2, W, ⟨m0, w0⟩, turn⟩ := h2;subst e
  -- what stays true of the iterator's objects through the loop
  have stat : ∀ {H' : Hp}, (∀ b ∈ fp, H' b = none) -> ∀ b ∈ fp, kG X pins H' b := fun hn b hb => ⟨hn b hb, (f2 b hb).2⟩
  refine codeAny_forLoop_any (fun n s' => ∃ i σ' H', aE X pins σ' H' s' /\ tn i s'.heap /\ (∀ b ∈ fp, H' b = none) /\ W i n σ' H') ?_ m0 ⟨0, σ, H2, I2, st2, fun b hb => (f2 b hb).1, w0⟩;rintro n s3 ⟨i, σ3, H3, I3, st3, fr3, w3⟩;rcases turn i n σ3 H3 w3 with ⟨stop, qn⟩ | ⟨go, N, hN, step⟩
  · refine wpAny_passesOwn hp (cV (T.done X rfl rfl rfl hc i pins s3 σ3 H3 X.xe I3 (stat fr3) st3 stop) fun r s4 ⟨hr, I4⟩ => ?_);subst hr;exact wpAny_execs_nil ⟨σ3, H3, I4, qn⟩
  · refine wpAny_passesOwn hp (cV (T.item X rfl rfl rfl hc i pins s3 σ3 H3 X.xe I3 (stat fr3) st3 go) fun r s4 ⟨u, hr, h4⟩ => ?_);subst hr;refine wpAny_passesOwn hp (cV h4 fun _ s5 ⟨x, H5, I5, r5, y5, st5, fr5⟩ => ?_);have I5' := I5.pinned (stat fr5) (T.obj _ _ st5);refine wpAny_passesOwn hp (cV (hg _ s5 σ3 H5 x u _ I5' r5 (step x H5 y5)) fun _ s6 ⟨σ6, H6, I6, q6⟩ => ?_);refine wpAny_passesOwn hp (cV (hb _ s6 σ6 H6 _ I6 q6) fun f s7 q7 => ?_);have again : ∀ {σ7 : St} {H7 : Hp}, aE X (pins ++ k8 fp s5.heap) σ7 H7 s7 -> N σ7 H7 -> ∃ m, m < n /\ ∃ i σ' H', aE X pins σ' H' s7 /\ tn i s7.heap /\ (∀ b ∈ fp, H' b = none) /\ W i m σ' H' := fun {σ7 H7} I7 n7 => by
      obtain ⟨m', hm, w7⟩ := hN σ7 H7 n7;refine ⟨m', hm, i + 1, σ7, H7, I7.unpinned, T.keep _ _ _ st5 fun b hb o e => (I7.pin (b, o) (List.mem_append_right _ (List.mem_append_right _ (gn hb e)))).1, fun b hb => ?_, w7⟩;obtain ⟨o, e, d⟩ := T.obj _ _ st5 b hb;exact (I7.pin (b, o) (List.mem_append_right _ (List.mem_append_right _ (gn hb e)))).2.1
    cases f with
    | next => obtain ⟨σ7, H7, I7, n7⟩ := q7; exact again I7 n7
    | cont => obtain ⟨σ7, H7, I7, n7⟩ := q7; exact again I7 n7
    | brk => obtain ⟨σ7, H7, I7, q7⟩ := q7; exact ⟨σ7, H7, I7.unpinned, q7⟩
    | ret v => obtain ⟨x7, σ7, H7, I7, r7, q7⟩ := q7; exact ⟨x7, σ7, H7, I7.unpinned, r7, q7⟩
end
abbrev R2 := V -> V -> Hp -> VK -> Prop
def gr (X : Cx) (f : Value -> Value -> Sem Value) (r : R2) : Prop :=
  ∀ (pins : List (Addr × Obj)) (s : Shared) (σ : St) (H : Hp) (x y : V) (v u : Value) (Q : VK), aE X pins σ H s -> bx x v -> bx y u -> r x y H Q ->
    wpAny (model X.prog X.w) X.A (f v u) (EP X pins σ Q) X.xe s
def AG (X : Cx) (f : Value -> Sem Value) (r : V -> Hp -> VK -> Prop) : Prop :=
  ∀ (pins : List (Addr × Obj)) (s : Shared) (σ : St) (H : Hp) (x : V) (v : Value) (Q : VK), aE X pins σ H s -> bx x v -> r x H Q ->
    wpAny (model X.prog X.w) X.A (f v) (EP X pins σ Q) X.xe s
def cI (X : Cx) (f : Value) (r : List V -> Hp -> VK -> Prop) : Prop :=
  ∀ (pins : List (Addr × Obj)) (s : Shared) (σ : St) (H : Hp) (xs : List V) (us : List Value) (Q : VK), aE X pins σ H s -> bq xs us -> r xs H Q ->
    wpAny (model X.prog X.w) X.A (call f us) (EP X pins σ Q) X.xe s
def zu (r : R2) (ta tb : TE) : TE := fun σ H Q => ta σ H fun x H1 => tb σ H1 fun y H2 => r x y H2 Q
def AT (r : V -> Hp -> VK -> Prop) (ta : TE) : TE := fun σ H Q => ta σ H fun x H1 => r x H1 Q
def rI (C : Int -> Int -> Prop) (g : Int -> Int -> V) : R2 := fun x y H Q => ∃ i j, x = .int i /\ y = .int j /\ C i j /\ Q (g i j) H
def u5 (g : Int -> Int -> V) : R2 := fun x y H Q => ∃ i j, x = .int i /\ y = .int j /\ Q (g i j) H
def rU (g : Int -> V) : V -> Hp -> VK -> Prop := fun x H Q => ∃ i, x = .int i /\ Q (g i) H
section
variable {X : Cx} {a b c : Expr} {ta tb tc : TE} {pos : Pos}
theorem w8 (ha : PE X a ta) (hb : PE X b tb) {pins : List (Addr × Obj)} {s : Shared} {σ : St} {H : Hp} {R : V -> V -> Hp -> Prop} (I : aE X pins σ H s)
    (h : ta σ H fun x H1 => tb σ H1 fun y H2 => R x y H2) {Q : Value -> Shared -> Prop} {f : Value -> Value -> Sem Value}
    (hf : ∀ v u s2 x y H2, aE X pins σ H2 s2 -> bx x v -> bx y u -> R x y H2 -> wpAny (model X.prog X.w) X.A (f v u) Q X.xe s2) :
    wpAny (model X.prog X.w) X.A (eval a X.env) (fun v s₁ => wpAny (model X.prog X.w) X.A (eval b X.env) (fun u s₂ => wpAny (model X.prog X.w) X.A (f v u) Q X.xe s₂) X.xe s₁) X.xe s := by
  refine cV (ha pins s σ H _ I h) fun v s1 ⟨x, H1, I1, r1, q1⟩ => ?_
  refine cV (hb pins s1 σ H1 _ I1 q1) fun u s2 ⟨y, H2, I2, r2, q2⟩ => ?_
  exact hf v u s2 x y H2 I2 r1 r2 q2
theorem zi {op : Operator} {r : R2} (ho : gr X (binaryOp op) r) (ha : PE X a ta) (hb : PE X b tb) : PE X (.BinOp a op b pos) (zu r ta tb) := by
  intro pins s σ H Q I h;exact wpAny_BinOp (w8 ha hb I h fun v u s2 x y H2 I2 rx ry q => ho pins s2 σ H2 x y v u Q I2 rx ry q)
theorem zn {op : UnaryOp} {r : V -> Hp -> VK -> Prop} (ho : AG X (unaryOp op) r) (ha : PE X a ta) : PE X (.UnaryOp op a pos) (AT r ta) := by
  intro pins s σ H Q I h;exact UnaryOp_ (cV (ha pins s σ H _ I h) fun v s1 ⟨x, H1, I1, r1, q1⟩ => ho pins s1 σ H1 x v Q I1 r1 q1)
theorem Ah {f : Value -> Value -> Sem Value} {C : Int -> Int -> Prop} {g : Int -> Int -> Int}
    (rule : ∀ (i j : Int) (t u : Tok) (s : Shared) (Q : Value -> Shared -> Prop) (E : Value -> Shared -> Prop), C i j -> Q (.int (g i j) s.toks) { s with toks := s.toks + 1 } -> wpAny (model X.prog X.w) X.A (f (.int i t) (.int j u)) Q E s) :
    gr X f (rI C fun i j => .int (g i j)) := by
  intro pins s σ H x y v u Q I rx ry h;obtain ⟨i, j, rfl, rfl, hc, q⟩ := h;obtain ⟨t, rfl⟩ := rx;obtain ⟨t', rfl⟩ := ry;exact rule i j t t' s _ _ hc ⟨.int (g i j), H, I.tok _, ⟨_, rfl⟩, q⟩
theorem yQ {f : Value -> Value -> Sem Value} {g : Int -> Int -> Int}
    (rule : ∀ (i j : Int) (t u : Tok) (s : Shared) (Q : Value -> Shared -> Prop) (E : Value -> Shared -> Prop), Q (.int (g i j) s.toks) { s with toks := s.toks + 1 } -> wpAny (model X.prog X.w) X.A (f (.int i t) (.int j u)) Q E s) :
    gr X f (u5 fun i j => .int (g i j)) := by
  intro pins s σ H x y v u Q I rx ry h;obtain ⟨i, j, rfl, rfl, q⟩ := h;obtain ⟨t, rfl⟩ := rx;obtain ⟨t', rfl⟩ := ry;exact rule i j t t' s _ _ ⟨.int (g i j), H, I.tok _, ⟨_, rfl⟩, q⟩
theorem xH {f : Value -> Value -> Sem Value} {g : Int -> Int -> Bool}
    (rule : ∀ (i j : Int) (t u : Tok) (s : Shared) (Q : Value -> Shared -> Prop) (E : Value -> Shared -> Prop), Q (.bool (g i j)) s -> wpAny (model X.prog X.w) X.A (f (.int i t) (.int j u)) Q E s) :
    gr X f (u5 fun i j => .bl (g i j)) := by
  intro pins s σ H x y v u Q I rx ry h;obtain ⟨i, j, rfl, rfl, q⟩ := h;obtain ⟨t, rfl⟩ := rx;obtain ⟨t', rfl⟩ := ry;exact rule i j t t' s _ _ ⟨.bl (g i j), H, I, rfl, q⟩
def yT (i j : Int) : Prop := 0 < j /\ j < 1073741824
def vJ (i j : Int) : Prop := (-(2 ^ 64) < i /\ i < 2 ^ 64) \/ (-(2 ^ 64) < j /\ j < 2 ^ 64)
theorem vJ.ok {i j : Int} (h : vJ i j) : IntMulOk i j := by
  rcases h with ⟨h1, h2⟩ | ⟨h1, h2⟩
  · exact .of_left (intBits_le_64 h1 h2)
  · exact .of_right (intBits_le_64 h1 h2)
theorem xt : gr X (binaryOp .Add) (u5 fun i j => .int (i + j)) := yQ fun _ _ _ _ _ _ _ q => add_int q
theorem xp : gr X (binaryOp .Sub) (u5 fun i j => .int (i - j)) := yQ fun _ _ _ _ _ _ _ q => sub_int q
theorem xa : gr X (binaryOp .Mult) (rI vJ fun i j => .int (i * j)) := Ah fun _ _ _ _ _ _ _ hc q => mul_int q hc.ok
theorem vc : gr X (binaryOp .FloorDiv) (rI yT fun i j => .int (i / j)) := Ah fun i j _ _ _ _ _ hc q => by
  have h1 : (0 : Int) < j := hc.1;have h2 : j < 1073741824 := hc.2;exact floordiv_int (by omega) (by rw [Int.fdiv_eq_ediv_of_nonneg i (by omega)]; exact q) (.inl (PyProof.noPylong_small (by omega)))
theorem xM : gr X (binaryOp .Mod) (rI (fun _ j => 0 < j) fun i j => .int (i % j)) := Ah fun i j _ _ _ _ _ hc q => by
  have h1 : (0 : Int) < j := hc;exact mod_int' (by omega) (by rw [Int.fmod_eq_emod_of_nonneg i (by omega)]; exact q)
theorem A3 {f : Value -> Sem Value} {g : Int -> Int}
    (rule : ∀ (i : Int) (t : Tok) (s : Shared) (Q : Value -> Shared -> Prop) (E : Value -> Shared -> Prop), Q (.int (g i) s.toks) { s with toks := s.toks + 1 } -> wpAny (model X.prog X.w) X.A (f (.int i t)) Q E s) :
    AG X f (rU fun i => .int (g i)) := by
  intro pins s σ H x v Q I rx h;obtain ⟨i, rfl, q⟩ := h;obtain ⟨t, rfl⟩ := rx;exact rule i t s _ _ ⟨.int (g i), H, I.tok _, ⟨_, rfl⟩, q⟩
theorem xf : AG X (unaryOp .USub) (rU fun i => .int (-i)) := A3 fun _ _ _ _ _ q => neg_int q
end
section
variable {X : Cx} {a b c : Expr} {ta tb tc : TE} {pos : Pos}
theorem tS {pins : List (Addr × Obj)} {σ : St} {H : Hp} {s : Shared} {Q : VK} {k k' : Bool} (I : aE X pins σ H s) (q : Q (.bl k) H) (e : k = k') : EP X pins σ Q (.bool k') s := by
  subst e;exact ⟨.bl k, H, I, rfl, q⟩
theorem yS : gr X (compareOp .Lt) (u5 fun i j => .bl (decide (i < j))) := xH fun _ _ _ _ _ _ _ q => lt_int q
theorem wP : gr X (compareOp .LtE) (u5 fun i j => .bl (decide (i <= j))) := xH fun _ _ _ _ _ _ _ q => le_int q
theorem yM : gr X (compareOp .Gt) (u5 fun i j => .bl (decide (j < i))) := xH fun _ _ _ _ _ _ _ q => gt_int q
theorem xo : gr X (compareOp .Is) (fun x y H Q => y = .non /\ Q (.bl (decide (x = .non))) H) := by
  intro pins s σ H x y v u Q I rx ry h;obtain ⟨rfl, q⟩ := h;cases ry;refine is_none_gen (tS I q ?_);cases x <;> first
    | (cases rx; rfl)
    | (obtain ⟨t, rfl⟩ := rx; rfl)
theorem wr : gr X (compareOp .IsNot) (fun x y H Q => y = .non /\ Q (.bl (!decide (x = .non))) H) := by
  intro pins s σ H x y v u Q I rx ry h;obtain ⟨rfl, q⟩ := h;cases ry;refine isnot_none_gen (tS I q ?_);cases x <;> first
    | (cases rx; rfl)
    | (obtain ⟨t, rfl⟩ := rx; rfl)
theorem gr.or {f : Value -> Value -> Sem Value} {r r' : R2} (h : gr X f r) (h' : gr X f r') : gr X f (fun x y H Q => r x y H Q \/ r' x y H Q) := by
  intro pins s σ H x y v u Q I rx ry q;rcases q with q | q
  · exact h pins s σ H x y v u Q I rx ry q
  · exact h' pins s σ H x y v u Q I rx ry q
theorem i4 (b : Expr) {op : CmpOp} (h : op ≠ .In := by decide) (h2 : op ≠ .NotIn := by decide) : behindInMarks op b = false := by
  have e1 : (op == CmpOp.In) = false := by cases op <;> first | rfl | exact absurd rfl h
  have e2 : (op == CmpOp.NotIn) = false := by cases op <;> first | rfl | exact absurd rfl h2
  cases b <;> simp [behindInMarks, e1, e2]
theorem vt {op : CmpOp} {r : R2} (ho : gr X (compareOp op) r) (ha : PE X a ta) (hb : PE X b tb) (hm : behindInMarks op b = false) : PE X (.Compare a [op] [b] pos) (zu r ta tb) := by
  intro pins s σ H Q I h;exact wpAny_Compare1 (w8 ha hb I h fun v u s2 x y H2 I2 rx ry q => ho pins s2 σ H2 x y v u Q I2 rx ry q) hm
def zf (t : TE) : TT := fun σ H Q => t σ H fun x H' => ∃ k, x = .bl k /\ Q k H'
theorem wG {op : CmpOp} {r : R2} (ho : gr X (compareOp op) r) (ha : PE X a ta) (hb : PE X b tb) (hm : behindInMarks op b = false) : PT X (.Compare a [op] [b] pos) (zf (zu r ta tb)) := by
  intro pins s σ H Q I h;refine wpAny_isTrue_Compare1 (cV (ha pins s σ H _ I h) fun v s1 ⟨x, H1, I1, r1, q1⟩ => cV (hb pins s1 σ H1 _ I1 q1) fun u s2 ⟨y, H2, I2, r2, q2⟩ =>
    cV (ho pins s2 σ H2 x y v u _ I2 r1 r2 q2) fun c s3 ⟨z, H3, I3, r3, k, e, q3⟩ => ?_) hm
  subst e;cases r3;exact wpAny_truthy_bool ⟨H3, I3, q3⟩
def tX (r r' : R2) (ta tb tc : TE) : TE := fun σ H Q => ta σ H fun x H1 => tb σ H1 fun y H2 => r x y H2 fun z H3 => ∃ k, z = .bl k /\
  (if k = true then tc σ H3 fun w' H4 => r' y w' H4 Q else Q (.bl false) H3)
theorem uQ {op op' : CmpOp} {r r' : R2} (ho : gr X (compareOp op) r) (ho' : gr X (compareOp op') r') (ha : PE X a ta) (hb : PE X b tb) (hc : PE X c tc)
    (hm : lastMarks [op, op'] [b, c] = false := by with_unfolding_all rfl) : PE X (.Compare a [op, op'] [b, c] pos) (tX r r' ta tb tc) := by
  intro pins s σ H Q I h;refine Compare_chain (cV (ha pins s σ H _ I h) fun v s1 ⟨x, H1, I1, r1, q1⟩ => chain_link (cV (hb pins s1 σ H1 _ I1 q1) fun u s2 ⟨y, H2, I2, r2, q2⟩ =>
    cV (ho pins s2 σ H2 x y v u _ I2 r1 r2 q2) fun d s3 ⟨z, H3, I3, r3, k, e, q3⟩ => ?_)) hm
  subst e;cases r3;refine wpAny_truthy_bool ?_;cases k with
  | false => exact ite_ff ⟨.bl false, H3, I3, rfl, q3⟩
  | true => exact ite_tt (chain_last (cV (hc pins s3 σ H3 _ I3 q3) fun w' s4 ⟨z', H4, I4, r4, q4⟩ => ho' pins s4 σ H4 y z' u w' Q I4 r2 r4 q4))
theorem lO : (sizeLine : Nat) < 2 ^ 63 := by rw [sizeLine_eq]; decide
theorem fj {x : V} {us : List Value} (r : bq [x] us) : ∃ u, us = [u] /\ bx x u := by
  cases r with
  | cons r1 r2 => cases r2; exact ⟨_, rfl, r1⟩
theorem oZ {x y : V} {us : List Value} (r : bq [x, y] us) : ∃ u w', us = [u, w'] /\ bx x u /\ bx y w' := by
  cases r with
  | cons r1 r2 =>
    cases r2 with
    | cons r3 r4 => cases r4; exact ⟨_, _, rfl, r1, r3⟩
theorem si (hc : X.calm = true) : cI X (.builtin "max") (fun xs H Q => ∃ i j, xs = [.int i, .int j] /\ Q (.int (if j > i then j else i)) H) := by
  intro pins s σ H xs us Q I r h;obtain ⟨i, j, rfl, q⟩ := h;obtain ⟨u, w', rfl, ⟨t, rfl⟩, ⟨t', rfl⟩⟩ := oZ r;refine max_two_ints (I.ok.hd hc) fun h' tk k => ⟨_, H, I.kept k, ?_, q⟩
  by_cases hj : j > i
  · rw [if_pos hj, if_pos hj]; exact ⟨_, rfl⟩
  · rw [if_neg hj, if_neg hj]; exact ⟨_, rfl⟩
theorem sF (hc : X.calm = true) : cI X (.builtin "min") (fun xs H Q => ∃ i j, xs = [.int i, .int j] /\ Q (.int (if j < i then j else i)) H) := by
  intro pins s σ H xs us Q I r h;obtain ⟨i, j, rfl, q⟩ := h;obtain ⟨u, w', rfl, ⟨t, rfl⟩, ⟨t', rfl⟩⟩ := oZ r;refine min_two_ints (I.ok.hd hc) fun h' tk k => ⟨_, H, I.kept k, ?_, q⟩
  by_cases hj : j < i
  · rw [if_pos hj, if_pos hj]; exact ⟨_, rfl⟩
  · rw [if_neg hj, if_neg hj]; exact ⟨_, rfl⟩
theorem mK : cI X (.type "int") (fun xs H Q => (∃ i, xs = [.int i] /\ Q (.int i) H) \/ ∃ k, xs = [.bl k] /\ Q (.int (if k then 1 else 0)) H) := by
  intro pins s σ H xs us Q I r h;rcases h with ⟨i, rfl, q⟩ | ⟨k, rfl, q⟩
  · obtain ⟨u, rfl, t, rfl⟩ := fj r;exact call_int_int ⟨.int i, H, I, ⟨_, rfl⟩, q⟩
  · obtain ⟨u, rfl, r1⟩ := fj r;cases r1;exact call_int_bool ⟨.int (if k then 1 else 0), H, I.tok _, ⟨_, rfl⟩, q⟩
end
structure xQ (h : Heap) (x dx C : Addr) (mA : Str -> Option Value) : Prop where
  obj : h.get? x = some (PySem.W.instObj C dx)
  ns : h.Ns1 dx mA
  ne : dx ≠ x
theorem sX {h : Heap} {dx : Addr} {mA : Str -> Option Value} (n : h.Ns1 dx mA) : ∃ od, h.get? dx = some od /\ ∀ name, PySem.W.lookIn name od = some (mA name) := by
  obtain ⟨o, es, ep, ho, hd, hk, _, hm⟩ := n;refine ⟨o, ho, fun name => ?_⟩;have e := hm name;unfold nsFind findBy at e;rw [<- Array.find?_toList] at e;unfold PySem.W.lookIn;rw [hd];dsimp only;split
  · rename_i y q;rw [q] at e;exact congrArg some e
  · rename_i q;rw [q] at e;have a : es.toList.any (·.refKey) = false := by
      rw [List.any_eq_false];intro y hy;obtain ⟨z, t, hkey⟩ := hk y (Array.mem_toList_iff.mp hy);simp [DictEntry.refKey, hkey]
    have a' : ¬ es.toList.any (·.refKey) = true := by rw [a]; exact Bool.false_ne_true
    rw [if_neg a'];exact congrArg some e
theorem xQ.look {h : Heap} {x dx C : Addr} {mA : Str -> Option Value} (I : xQ h x dx C mA) : ∃ od, PySem.W.InstAt h x (PySem.W.instObj C dx) C (some od) /\ ∀ name, PySem.W.lookIn name od = some (mA name) :=
  let ⟨od, ho, hl⟩ := sX I.ns
  ⟨od, ⟨I.obj, rfl, rfl, ho⟩, hl⟩
theorem lM.some_of {v : V} {o : Option Value} (r : lM (some v) o) : ∃ u, o = some u /\ bx v u := by
  cases o with
  | none => exact (show False from r).elim
  | some u => exact ⟨u, rfl, r⟩
section
variable {P : Program} {w : World} {H H' : Hp} {h h' : Heap} {a C dx : Addr} {fs fs' : List (Str × V)}
theorem v8 (hok : fH P w H h) (e : H a = some (.ins C dx fs)) : ∃ mA, xQ h a dx C mA /\ (∀ f, lM (fs.lookup f) (mA f)) /\ PySem.Within mA (fs.map (·.1)) /\ fs.length <= 1000 /\ H dx = some (.own a) := by
  obtain ⟨d, z, ne, ob, mA, n, r, q⟩ := (show bE P w H h a (.ins C dx fs) from hok a _ e)
  exact ⟨mA, ⟨ob, n, ne⟩, r, q, z, d⟩
end
structure AB (K : PySem.W.Frag) (C : Addr) : Prop where
  pg : PySem.W.plainGet K C Str.empty = true
  hd : PySem.W.hasDictIn K C = true
  po : PySem.W.plainOver K C = true
  sa : PySem.W.findIn K (.ref C) "__setattr__" = some (some (.builtin "object.__setattr__"))
theorem AB.get {K : PySem.W.Frag} {C : Addr} (c : AB K C) (f : Str) : PySem.W.plainGet K C f = true := c.pg
section
variable {X : Cx} {pins : List (Addr × Obj)} {σ : St} {H : Hp} {s : Shared} {A : Around} {E : Value -> Shared -> Prop} {Q : Value -> Shared -> Prop} {c : Value} {b : Bool}
inductive jG (K : PySem.W.Frag) (H : Hp) : V -> Value -> Prop where
  | non : jG K H .non (.type "NoneType")
  | bl (x : Bool) : jG K H (.bl x) (.type "bool")
  | int (i : Int) : jG K H (.int i) (.type "int")
  | str (x : Str) : jG K H (.str x) (.type "str")
  | flt (x : UInt64) : jG K H (.flt x) (.type "float")
  | lst {a : Addr} {xs : List V} (e : H a = some (.lst xs)) : jG K H (.ref a) (.type "list")
  | frz {a : Addr} {o : Obj} {xs : List V} (e : H a = some (.frz o (.lst xs))) : jG K H (.ref a) (.type "list")
  | tup {a : Addr} {xs : List V} (e : H a = some (.tup xs)) : jG K H (.ref a) (.type "tuple")
  | dK {a : Addr} {kvs : List (cg × V)} (e : H a = some (.dK kvs)) : jG K H (.ref a) (.type "dict")
  | dT {a : Addr} {kvs : List (List cg × V)} (e : H a = some (.dT kvs)) : jG K H (.ref a) (.type "dict")
  | ins {a C dx : Addr} {fs : List (Str × V)} (e : H a = some (.ins C dx fs)) (cl : AB K C) (ha : PySem.W.findIn K (.ref C) "__class__" = some (some (.builtin "object.__class__")))
      (hn : PySem.W.specialIn K (.builtin "object.__class__") "__get__" = some (some (.builtin "getset_descriptor.__get__"))) (htk : PySem.W.takesIn K (.builtin "object.__class__") = some true)
      (hm : PySem.W.mroIn K C (.type "object") = some true) : jG K H (.ref a) (.ref C)
theorem sd {x : V} {u t : Value} (I : aE X pins σ H s) (rx : bx x u) (ty : jG X.K H x t) (e : PySem.W.kitOne X.K t c = some b) (h : ∀ tk, Q (.bool b) { s with toks := tk }) :
    wpAny (model X.prog X.w) A (call (.builtin "isinstance") [u, c]) Q E s := by
  cases ty with
  | non => cases (show u = Value.none from rx); exact PySem.W.kia_one PySem.W.kitx_none I.kIn True.intro e (fun z => nomatch z) h
  | bl y => cases (show u = Value.bool y from rx); exact PySem.W.kia_one PySem.W.kitx_bool I.kIn True.intro e (fun z => nomatch z) h
  | int i => obtain ⟨t, q⟩ := (show ∃ t, u = Value.int i t from rx); cases q; exact PySem.W.kia_one PySem.W.kitx_int I.kIn True.intro e (fun z => nomatch z) h
  | str y => obtain ⟨t, q⟩ := (show ∃ t, u = Value.str y t from rx); cases q; exact PySem.W.kia_one PySem.W.kitx_str I.kIn True.intro e (fun z => nomatch z) h
  | flt y => obtain ⟨t, q⟩ := (show ∃ t, u = Value.float y t from rx); cases q; exact PySem.W.kia_one PySem.W.kitx_float I.kIn True.intro e (fun z => nomatch z) h
  | @lst a xs ea =>
    cases (show u = Value.ref a from rx);obtain ⟨_, _, n, _, h1⟩ := (show bE X.prog X.w H s.heap a (.lst xs) from I.hok a _ ea)
    exact PySem.W.kia_one PySem.W.kitx_list I.kIn ⟨_, h1, rfl⟩ e (fun z => nomatch z) h
  | @frz a ob xs ea =>
    cases (show u = Value.ref a from rx);obtain ⟨_, _, _, n, _, h1⟩ := (show bE X.prog X.w H s.heap a (.frz ob (.lst xs)) from I.hok a _ ea)
    exact PySem.W.kia_one PySem.W.kitx_list I.kIn ⟨_, h1, rfl⟩ e (fun z => nomatch z) h
  | @tup a xs ea =>
    cases (show u = Value.ref a from rx);obtain ⟨_, _, _, p⟩ := (show bE X.prog X.w H s.heap a (.tup xs) from I.hok a _ ea)
    obtain ⟨o, h1, h2, _⟩ := p;exact PySem.W.kia_one PySem.W.kitx_tuple I.kIn ⟨o, h1, h2⟩ e (fun z => nomatch z) h
  | @dK a kvs ea =>
    cases (show u = Value.ref a from rx);obtain ⟨_, _, vs, _, p⟩ := (show bE X.prog X.w H s.heap a (.dK kvs) from I.hok a _ ea)
    obtain ⟨o, es, ep, h1, h2, _⟩ := p;exact PySem.W.kia_one PySem.W.kitx_dict I.kIn ⟨o, h1, h2.1⟩ e (fun z => nomatch z) h
  | @dT a kvs ea =>
    cases (show u = Value.ref a from rx);obtain ⟨_, _, xs, _, o, es, ep, h1, h2, _⟩ := (show bE X.prog X.w H s.heap a (.dT kvs) from I.hok a _ ea)
    exact PySem.W.kia_one PySem.W.kitx_dict I.kIn ⟨o, h1, h2.1⟩ e (fun z => nomatch z) h
  | @ins a C dx fs ea cl ha hn htk hm =>
    cases (show u = Value.ref a from rx);obtain ⟨mA, O, _⟩ := v8 I.hok ea;obtain ⟨od, J, _⟩ := O.look;exact PySem.W.kia_one (PySem.W.kitx_own (cl.get _) cl.hd ha hn htk hm) I.kIn J e (fun z => nomatch z) h
end
structure dG (k : Nat) (A : Around) : Prop where
  hd : A.handled = none
  dp : A.depth + 3 * k + 5 < recursionLimit
  un : A.units + 16 * k + 200 < cLine
theorem dG.mono {j k : Nat} {A : Around} (r : dG k A) (h : j <= k) : dG j A := ⟨r.hd, by have := r.dp; omega, by have := r.un; omega⟩
theorem dG.deeper {k : Nat} {A : Around} (r : dG (k + 1) A) (env : Env) : dG k (A.deeper env) :=
  ⟨r.hd, by have := r.dp; show A.depth + 1 + 3 * k + 5 < _; omega, by have := r.un; show A.units + 3 + 16 * k + 200 < _; omega⟩
theorem dG.depth {k : Nat} {A : Around} (r : dG k A) : A.depth < recursionLimit := by have := r.dp; omega
theorem dG.units {k : Nat} {A : Around} (r : dG k A) : A.units + 64 < cLine := by have := r.un; omega
def Ap : TA := fun _ H Q => Q [] H
def yU (ta : TE) (tr : TA) : TA := fun σ H Q => ta σ H fun x H1 => tr σ H1 fun xs H2 => Q (x :: xs) H2
section
variable {X : Cx} {e : Expr} {es : List Expr} {te : TE} {t : TA} {pos : Pos}
theorem qu : PA X [] Ap := fun _ _ _ _ H Q I h => Calls.spliced_nil ⟨[], H, I, .nil, h⟩
theorem jt (ha : PE X e te) (hr : PA X es t) (hs : starEach (e :: es) X.env = (false, eval e X.env) :: starEach es X.env := by rfl) : PA X (e :: es) (yU te t) := by
  intro pos pins s σ H Q I h;rw [hs];show wpAny _ _ (spliced ((false, eval e X.env) :: backTo pos (starEach es X.env))) _ _ s;refine Calls.spliced_cons (cV (ha pins s σ H _ I h) fun u s1 ⟨x, H1, I1, r1, q1⟩ => ?_);exact cV (hr pos pins s1 σ H1 _ I1 q1) fun us s2 ⟨xs, H2, I2, r2, q2⟩ => ⟨x :: xs, H2, I2, .cons r1 r2, q2⟩
def Ao (t : TA) : TE := fun σ H Q => t σ H fun xs H1 => xs.length <= sizeLine /\ ∀ p, H1 p = none -> Q (.ref p) (cW H1 p (.tup xs))
def Ae (t : TA) : TE := fun σ H Q => t σ H fun xs H1 => xs.length <= sizeLine /\ ∀ p, H1 p = none -> Q (.ref p) (cW H1 p (.lst xs))
theorem xJ {x1} (h : PA X es t) : PE X (.Tuple es x1 pos) (Ao t) := by
  intro pins s σ H Q I hq;refine wpAny_Tuple_spliced (cV (h pos pins s σ H _ I hq) fun us s1 ⟨xs, H1, I1, r, z, q⟩ => ⟨by rw [<- r.length]; exact z, ?_⟩);have hf : H1 s1.heap.objs.size = none := I1.hok.fresh (Nat.le_refl _);refine ⟨.ref s1.heap.objs.size, cW H1 s1.heap.objs.size (.tup xs), I1.laid (t' := s1.toks) (fun b u e => Heap.get?_push_of_some _ e) (Nat.le_refl _) ?_, rfl, q _ hf⟩;exact ⟨z, us, r, ⟨_, Heap.get?_push_size _ rfl, rfl, _, rfl⟩⟩
theorem xZ (h : PA X es t) : PE X (.List es pos) (Ae t) := by
  intro pins s σ H Q I hq;refine wpAny_List_spliced (cV (h pos pins s σ H _ I hq) fun us s1 ⟨xs, H1, I1, r, z, q⟩ => ⟨by rw [<- r.length]; exact z, ?_⟩);have hf : H1 s1.heap.objs.size = none := I1.hok.fresh (Nat.le_refl _);refine ⟨.ref s1.heap.objs.size, cW H1 s1.heap.objs.size (.lst xs), I1.laid (t' := s1.toks) (fun b u e => Heap.get?_push_of_some _ e) (Nat.le_refl _) ?_, rfl, q _ hf⟩;exact ⟨z, us, 0, r, Heap.get?_push_size _ rfl⟩
end
abbrev Sp := List V -> Hp -> VK -> XK -> Prop
abbrev tw := List Env -> Hp -> Shared -> XK -> Value -> Shared -> Prop
structure vC (P : Program) (w : World) (K : PySem.W.Frag) (mg : Str -> Option Value) (base : Heap) (A : Around) (outer : List Env) (s : Shared) (H : Hp) : Prop where
  frames : A.frames = some outer
  mod : Mod K mg base
  bs : ∀ b o, base.get? b = some o -> s.heap.get? b = some o /\ H b = none
  bsz : base.objs.size <= s.heap.objs.size
  funs : s.heap.FunFrames base outer
  frf : ∀ b ∈ jh outer, H b = none
  hok : fH P w H s.heap
  bare : AllBare s.gens
def CE (outer : List Env) (P : Program) (w : World) (H : Hp) (s : Shared) (Q : VK) (u : Value) (s' : Shared) : Prop :=
  ∃ v H', s'.os = s.os /\ AllBare s'.gens /\ Un (jh outer) [] H H' s.heap s'.heap /\ fH P w H' s'.heap /\ bx v u /\ Q v H'
def CR (CX : tw) (outer : List Env) (P : Program) (w : World) (H : Hp) (s : Shared) (Q : VK) (E : XK) (r : Result) (s' : Shared) : Prop :=
  match r with
  | .ok (.ret u) => CE outer P w H s Q u s'
  | .ok _ => False
  | .error e => CX outer H s E e s'
structure bj (P : Program) (w : World) (K : PySem.W.Frag) (mg : Str -> Option Value) (base : Heap) (CX : tw) (k : Nat) (f : Addr) (fd : FuncData) (ps : List Str) (sp : Sp) : Prop where
  len : ∀ vs H Q E, sp vs H Q E -> vs.length = ps.length
  run : ∀ (A : Around) (outer : List Env) (s : Shared) (H : Hp) (args : Args) (us : List Value) (vs : List V) (Q : VK) (E : XK), dG k A -> vC P w K mg base A outer s H -> BindsTo s fd args (ps.zip us) -> bq vs us -> sp vs H Q E ->
    codeAny (model P w) A (.call (.ref f) args) (CR CX outer P w H s Q E) s
theorem bj.mono {P : Program} {w : World} {K : PySem.W.Frag} {mg : Str -> Option Value} {base : Heap} {CX : tw} {j k : Nat} {f : Addr} {fd : FuncData} {ps : List Str} {sp : Sp} (F : bj P w K mg base CX j f fd ps sp) (h : j <= k) :
    bj P w K mg base CX k f fd ps sp := ⟨F.len, fun A outer s H args us vs Q E hr => F.run A outer s H args us vs Q E (hr.mono h)⟩
theorem bj.imp {P : Program} {w : World} {K : PySem.W.Frag} {mg : Str -> Option Value} {base : Heap} {CX : tw} {k : Nat} {f : Addr} {fd : FuncData} {ps : List Str} {sp sp' : Sp} (F : bj P w K mg base CX k f fd ps sp)
    (h : ∀ vs H Q E, sp' vs H Q E -> sp vs H Q E) : bj P w K mg base CX k f fd ps sp' :=
  ⟨fun vs H Q E q => F.len vs H Q E (h _ _ _ _ q), fun A outer s H args us vs Q E hr he hb hv hs => F.run A outer s H args us vs Q E hr he hb hv (h _ _ _ _ hs)⟩
section
variable {X : Cx} {pins : List (Addr × Obj)} {σ : St} {H : Hp} {s s' : Shared}
theorem aE.env0 (I : aE X pins σ H s) : vC X.prog X.w X.K X.mg X.base X.A X.stack s H :=
  ⟨I.ok.frames, I.ok.mod, I.bs, Nat.le_trans I.ok.bsz I.sz, I.stack, I.stkFree, I.hok, I.bare⟩
theorem aE.after {Q : VK} {u : Value} (I : aE X pins σ H s) (h : CE X.stack X.prog X.w H s Q u s') : EP X pins σ Q u s' := by
  obtain ⟨v, H', os, bare, un, hok, r, q⟩ := h;obtain ⟨hh, g, d, t, os'⟩ := s';obtain rfl : os' = s.os := os;exact ⟨v, H', I.call (h' := hh) (g' := g) (d' := d) (t' := t) (ch := []) un hok bare (fun b z => absurd z (by simp)), r, q⟩
end
def zg (sp : Sp) (dvs : List V) (E : XK) (t : TA) : TE := fun σ H Q => t σ H fun vs H1 => sp (vs ++ dvs) H1 Q E
def gH (K : PySem.W.Frag) (fd : FuncData) (ps : List Str) (ds : List Value) : Prop :=
  ∀ (s : Shared) (us : List Value), K.In s.heap -> (us ++ ds).length = ps.length -> BindsTo s fd ⟨us, []⟩ (ps.zip (us ++ ds))
theorem gH.all {K : PySem.W.Frag} {fd : FuncData} {ps : List Str} (h : ∀ us : List Value, us.length = ps.length -> bindArgs fd ⟨us, []⟩ = pure (ps.zip us)) : gH K fd ps [] := fun s us _ hl => by
  rw [List.append_nil] at hl ⊢;exact .of_eq (h us hl)
def qI (CX : tw) (X : Cx) (E : XK) : Prop := ∀ (pins : List (Addr × Obj)) (σ : St) (H : Hp) (s : Shared) (e : Value) (s' : Shared), aE X pins σ H s -> CX X.stack H s E e s' -> X.xe e s'
section
variable {X : Cx} {CX : tw} {k : Nat} {f C : Addr} {fd : FuncData} {ps : List Str} {sp : Sp} {dvs : List V} {ds : List Value} {E : XK} {x m : Str} {p pos apos : Pos} {e o : Expr} {es : List Expr} {ta : TE} {t : TA}
theorem xN {pins : List (Addr × Obj)} {σ : St} {H : Hp} {s : Shared} {Q : VK} {us : List Value} {vs : List V} (F : bj X.prog X.w X.K X.mg X.base CX k f fd ps sp) (hr : dG k X.A) (hb : gH X.K fd ps ds) (hd : bq dvs ds) (hx : qI CX X E)
    (I : aE X pins σ H s) (r : bq vs us) (h : sp (vs ++ dvs) H Q E) : wpAny (model X.prog X.w) X.A (call (.ref f) us) (EP X pins σ Q) X.xe s := by
  have r2 : bq (vs ++ dvs) (us ++ ds) := r.append hd;have hl : (us ++ ds).length = ps.length := by rw [<- r2.length]; exact F.len _ _ _ _ h
  refine wpAny_call (codeAny_mono (F.run X.A X.stack s H ⟨us, []⟩ (us ++ ds) (vs ++ dvs) Q E hr I.env0 (hb s us I.kIn hl) r2 h) fun r s' hq => ?_);cases r with
  | error e => exact hx pins σ H s e s' I hq
  | ok fl =>
    cases fl with
    | ret u => exact I.after hq
    | next => exact False.elim hq
    | brk => exact False.elim hq
    | cont => exact False.elim hq
theorem wv (F : bj X.prog X.w X.K X.mg X.base CX k f fd ps sp) (hr : dG k X.A) (hg : Gl X x) (hm : X.mg x = some (.ref f)) (hk : PySem.W.keepIn X.K (.ref f) = true) (hb : gH X.K fd ps ds) (hd : bq dvs ds) (hx : qI CX X E)
    (ha : PA X (e :: es) t) (hdb : (x == ("__debug__" : Str)) = false := by decide) (he : starEach (e :: es) X.env = (false, eval e X.env) :: starEach es X.env := by rfl) (hpl : (backTo pos (starEach es X.env)).any (·.1) = false := by rfl) :
    PE X (.Call (.Name x p) (e :: es) [] pos) (zg sp dvs E t) := by
  intro pins s σ H Q I h;refine wpAny_Call_Name_kw (kM I hg hm ?_ hdb);refine PySem.W.callWith_K (h₀ := X.base) I.ok.mod.kin hk (cV (ha pos pins s σ H _ I h) fun us s1 ⟨vs, H1, I1, r, q⟩ => ⟨I1.kIn, ?_⟩) he hpl;exact xN F hr hb hd hx I1 r q
end
structure ba (N P : List Str) (sc : Scope) : Prop where
  kind : sc.kind = .function
  co : sc.isCoroutine = false
  gen : sc.isGenerator = false
  nd : N.Nodup
  pre : N.take P.length = P
  par : ∀ x ∈ P, sc.names.lookup x = some .local \/ sc.names.lookup x = some .cell
  nofree : ∀ y ∈ sc.names, y.2 ≠ .free
theorem nc {kindOf : Str -> Option NameKind} {x : Str} : ∀ {binds : List (Str × Value)} {m : Str -> Option Value}, (∀ v, (x, v) ∉ binds) -> bindL kindOf binds m x = m x
  | [], _, _ => rfl
  | (n, v) :: r, m, h => by
    unfold bindL;rw [nc fun w hw => h w (List.mem_cons_of_mem _ hw)];split
    · have : x ≠ n := by rintro rfl; exact h v List.mem_cons_self
      simp [this]
    · rfl
theorem mZ {kindOf : Str -> Option NameKind} {x : Str} : ∀ {binds : List (Str × Value)} {m : Str -> Option Value}, (∀ v, (x, v) ∉ binds) -> bindC kindOf binds m x = m x
  | [], _, _ => rfl
  | (n, v) :: r, m, h => by
    unfold bindC;rw [mZ fun w hw => h w (List.mem_cons_of_mem _ hw)];split
    · rfl
    · have : x ≠ n := by rintro rfl; exact h v List.mem_cons_self
      simp [this]
theorem mR {kindOf : Str -> Option NameKind} {x : Str} {v : Value} : ∀ {P : List Str} {vs : List Value} {i : Nat} {m : Str -> Option Value}, P.Nodup -> P[i]? = some x -> vs[i]? = some v -> kindOf x = some .local ->
    bindL kindOf (P.zip vs) m x = some v
  | [], _, _, _, _, h, _, _ => by simp at h
  | _ :: _, [], _, _, _, _, h, _ => by simp at h
  | p :: P, w :: vs, 0, m, nd, h1, h2, hk => by
    simp at h1 h2; subst h1; subst h2;show bindL kindOf ((p, w) :: P.zip vs) m p = _;unfold bindL;rw [nc fun v hv => (List.nodup_cons.mp nd).1 (List.of_mem_zip hv).1, if_pos hk];simp
  | p :: P, w :: vs, i + 1, m, nd, h1, h2, hk => by
    show bindL kindOf ((p, w) :: P.zip vs) m x = _;unfold bindL;exact mR (i := i) (List.nodup_cons.mp nd).2 (by simpa using h1) (by simpa using h2) hk
theorem mC {kindOf : Str -> Option NameKind} {x : Str} {v : Value} : ∀ {P : List Str} {vs : List Value} {i : Nat} {m : Str -> Option Value}, P.Nodup -> P[i]? = some x -> vs[i]? = some v -> kindOf x ≠ some .local ->
    bindC kindOf (P.zip vs) m x = some v
  | [], _, _, _, _, h, _, _ => by simp at h
  | _ :: _, [], _, _, _, _, h, _ => by simp at h
  | p :: P, w :: vs, 0, m, nd, h1, h2, hk => by
    simp at h1 h2; subst h1; subst h2;show bindC kindOf ((p, w) :: P.zip vs) m p = _;unfold bindC;rw [mZ fun v hv => (List.nodup_cons.mp nd).1 (List.of_mem_zip hv).1, if_neg hk];simp
  | p :: P, w :: vs, i + 1, m, nd, h1, h2, hk => by
    show bindC kindOf ((p, w) :: P.zip vs) m x = _;unfold bindC;exact mC (i := i) (List.nodup_cons.mp nd).2 (by simpa using h1) (by simpa using h2) hk
def gJ (N : List Str) (vs : List V) : St := vs.map some ++ List.replicate (N.length - vs.length) none
def dZ (CX : tw) (P : Program) (w : World) (K : PySem.W.Frag) (mg : Str -> Option Value) (base : Heap) (N : List Str) (qual : Str) (scope : Scope) (f : Addr) (cd : Value) (A : Around) (outer : List Env) (s : Shared) (H : Hp) (E : XK) : Cx where
  prog := P
  w := w
  K := K
  mg := mg
  base := base
  A := A.deeper (envOfC qual scope s.heap.objs.size f cd)
  N := N
  s₀ := s
  H₀ := H
  env := envOfC qual scope s.heap.objs.size f cd
  outer := outer
  stack := envOfC qual scope s.heap.objs.size f cd :: outer
  ex := []
  calm := true
  fn := fun _ => true
  pn := []
  xe := fun e s' => wpAny (model P w) (A.deeper (envOfC qual scope s.heap.objs.size f cd)) (leaving (envOfC qual scope s.heap.objs.size f cd) e) (fun _ s'' => CX outer H s E e s'') (fun e' s'' => CX outer H s E e' s'') s'
theorem pv {sc : Scope} {n : Nat} {x : Str} (h : sc.names.lookup x = some .cell) : ∃ c, (cellsFrom n sc.names []).lookup x = some c := by
  have q := PySem.W.cellsFrom_some sc.names n [] (.inl h);exact Option.isSome_iff_exists.mp q
theorem sU {CX : tw} {P : Program} {w : World} {K : PySem.W.Frag} {mg : Str -> Option Value} {base : Heap} {N ps : List Str} {qual : Str} {scope : Scope} {f : Addr} {cd : Value} {A : Around} {outer : List Env} {s s1 : Shared} {H : Hp} {E : XK} {us : List Value} {vs : List V}
    (S : ba N ps scope) (hd : A.handled = none) (e0 : vC P w K mg base A outer s H) (hl : vs.length = ps.length) (r : bq vs us)
    (x : InCallC s s.heap.objs.size (bindL (envOfC qual scope s.heap.objs.size f cd).kindOf (ps.zip us) fun _ => none) (cellsFrom (s.heap.objs.size + 1) scope.names []) (bindC (envOfC qual scope s.heap.objs.size f cd).kindOf (ps.zip us) fun _ => none) s1) :
    aE (dZ CX P w K mg base N qual scope f cd A outer s H E) [] (gJ N vs) H s1 := by
  have hpl : ps.length <= N.length := by have := congrArg List.length S.pre; rw [List.length_take] at this; omega
  obtain ⟨h1, tk, rfl, hk⟩ := x.done;have noA : ∀ b : Addr, b ∉ (dZ CX P w K mg base N qual scope f cd A outer s H E).ex := fun b z => absurd (show b ∈ ([] : List Addr) from z) (by simp)
  refine ⟨⟨e0.mod, S.kind, rfl, rfl, Nat.le_refl _, fun y z c h1 h2 => ?_, fun y hy => ?_, fun y c _ h => ?_, fun _ => hd, Around.frames_deeper e0.frames, .inr ⟨rfl, rfl⟩, fun b z => absurd z (noA b), e0.bs, e0.bsz, fun b _ _ => noA b, fun b z => absurd z (noA b), e0.funs, e0.frf⟩,
    rfl, e0.bare, Un.kept hk, ⟨_, x.toInCall.ns, fun i y v h1 h2 h3 => ?_⟩, fun y c h => ⟨_, x.cell y c h⟩, e0.hok.fresh (Nat.le_refl _), fun y c h => ?_, fun p hp => absurd (show p ∈ ([] : List (Addr × Obj)) from hp) (by simp), e0.hok.kept hk, ?_⟩
  · exact name_of_addr x.apart (PySem.mem_of_lookup h1) (PySem.mem_of_lookup h2)
  · have hy : scope.names.lookup y = some .cell \/ scope.names.lookup y = some .free := hy;rcases hy with hy | hy
    · exact pv hy
    · exact absurd rfl (S.nofree _ (PySem.mem_of_lookup hy))
  · exact Nat.le_of_lt (x.above y c (PySem.mem_of_lookup h))
  · have hi : i < vs.length := by
      unfold gJ at h2;by_cases hi : i < vs.length
      · exact hi
      · rw [List.getElem?_append_right (by simpa using hi)] at h2;rw [List.getElem?_replicate] at h2;split at h2 <;> cases h2
    have ha : vs[i]? = some v := by
      unfold gJ at h2;rw [List.getElem?_append_left (by simpa using hi), List.getElem?_map] at h2;cases e : vs[i]? with
      | none => rw [e] at h2; cases h2
      | some a => rw [e] at h2; cases h2; rfl
    obtain ⟨u, hu, rv⟩ := r.get ha;have hp : ps[i]? = some y := by
      rw [<- S.pre, List.getElem?_take_of_lt (by omega)]; exact h1
    have ndP : ps.Nodup := by rw [<- S.pre]; exact S.nd.sublist (List.take_sublist _ _)
    refine ⟨u, rv, ?_⟩;rcases S.par y (List.mem_of_getElem? hp) with k | k
    · exact .inl ⟨k, mR ndP hp hu k⟩
    · obtain ⟨c, e⟩ := pv (n := s.heap.objs.size + 1) k;refine .inr ⟨.inl k, c, e, ?_⟩;have q := x.cell y c e;rw [mC ndP hp hu (by show scope.names.lookup y ≠ _; rw [k]; decide)] at q;exact q
  · exact e0.hok.fresh (Nat.le_of_lt (x.above y c (PySem.mem_of_lookup h)))
  · unfold gJ;show _ = N.length;rw [List.length_append, List.length_map, List.length_replicate];omega
theorem wS {CX : tw} {P : Program} {w : World} {K : PySem.W.Frag} {mg : Str -> Option Value} {base : Heap} {k : Nat} {f : Addr} {name qual : Str} {params : Arguments} {body : List Stmt} {scope : Scope} {dV kV doc pm cdv ct oc : Value} {an od : Option Addr}
    {osl : Array (Option Value)} {N ps : List Str} {sp : Sp} (lk : K.lookup f = some ⟨oc, od, .func (PySem.W.fnOf name qual params body scope dV kV doc pm an cdv ct), osl⟩) (hcd : PySem.W.codeIn K cdv qual = true) (S : ba N ps scope)
    (len : ∀ vs H Q E, sp vs H Q E -> vs.length = ps.length)
    (hbody : ∀ (A : Around) (outer : List Env) (s : Shared) (H : Hp) (vs : List V) (Q : VK) (E : XK), dG k (A.deeper (envOfC qual scope s.heap.objs.size f cdv)) -> sp vs H Q E ->
      ∃ t, og (dZ CX P w K mg base N qual scope f cdv A outer s H E) body t /\ t { nx := fun _ H' => Q .non H', rt := Q } (gJ N vs) H) :
    bj P w K mg base CX (k + 1) f (PySem.W.fnOf name qual params body scope dV kV doc pm an cdv ct) ps sp := by
  refine ⟨len, fun A outer s H args us vs Q E hr e0 hb r hsp => ?_⟩;have hl := len _ _ _ _ hsp;have KX : K.In s.heap := e0.mod.kin.keeps fun b o e => (e0.bs b o e).1
  have lim : s.heap.NoLimit := e0.mod.nolimit.keeps fun b o e => (e0.bs b o e).1
  have hkind : ∀ y ∈ ps.zip us, scope.names.lookup y.1 = some .local \/ (scope.names.lookup y.1 = some .cell /\ ((cellsFrom (s.heap.objs.size + 1) scope.names []).lookup y.1).isSome = true) := fun ⟨n, v⟩ hy => by
    rcases S.par n (List.of_mem_zip hy).1 with q | q
    · exact .inl q
    · exact .inr ⟨q, PySem.W.cellsFrom_some _ _ _ (.inl q)⟩
  refine codeAny_call_function hr.depth (KX _ _ lk) rfl S.co S.gen rfl (PySem.W.codeRec_of KX hcd) (hb _ _ _ _ ?_);refine wpAny_newFunctionEnv_cells S.kind hkind fun env he s1 x => ?_
  subst he;refine ⟨lim.keeps x.toInCall.keep, codeAny_func ?_⟩;obtain ⟨t, ht, hq⟩ := hbody A outer s H vs Q E (hr.deeper _) hsp;have I : aE (dZ CX P w K mg base N qual scope f cdv A outer s H E) [] (gJ N vs) H s1 := sU S hr.hd e0 hl r x;refine wpAny_mono (ht [] s1 (gJ N vs) H _ I hq) (fun fl s' hs => ?_) fun e s' hs => hs
  have fin : ∀ {σ' : St} {H' : Hp} {v : V} {u : Value}, aE (dZ CX P w K mg base N qual scope f cdv A outer s H E) [] σ' H' s' -> bx v u -> Q v H' -> CE outer P w H s Q u s' :=
    fun {σ' H' v u} J rv q => ⟨v, H', J.os, J.bare, J.base, J.hok, rv, q⟩
  cases fl with
  | ret u =>
    obtain ⟨v, σ', H', J, rv, q⟩ := hs;exact fin J rv q
  | next =>
    obtain ⟨σ', H', J, q⟩ := hs;exact fin (v := V.non) (u := Value.none) J rfl q
  | brk =>
    obtain ⟨_, _, _, q⟩ := hs;exact False.elim q
  | cont =>
    obtain ⟨_, _, _, q⟩ := hs;exact False.elim q
section
variable {X : Cx} {x : Str} {p pos : Pos} {e : Expr} {es : List Expr} {t : TA} {id T : String} {r : List V -> Hp -> VK -> Prop}
def AI (r : List V -> Hp -> VK -> Prop) (t : TA) : TE := fun σ H Q => t σ H fun vs H1 => r vs H1 Q
theorem jL (hc : cI X (.builtin id) r) (hg : Gl X x) (hm : X.mg x = none) (hv : bootBuiltins x = some (.builtin id)) (ha : PA X (e :: es) t) (hn : x ≠ "__name__" := by decide) (hdb : (x == ("__debug__" : Str)) = false := by decide)
    (he : starEach (e :: es) X.env = (false, eval e X.env) :: starEach es X.env := by rfl) (hpl : (backTo pos (starEach es X.env)).any (·.1) = false := by rfl) : PE X (.Call (.Name x p) (e :: es) [] pos) (AI r t) := by
  intro pins s σ H Q I h;refine wpAny_Call_Name_kw (jV I hg hm hv ?_ hn hdb);exact PyProof.Rows.callWith_builtin1 (cV (ha pos pins s σ H _ I h) fun us s1 ⟨vs, H1, I1, r1, q1⟩ => hc pins s1 σ H1 vs us Q I1 r1 q1) he hpl
theorem mM (hc : cI X (.type T) r) (hg : Gl X x) (hm : X.mg x = none) (hv : bootBuiltins x = some (.type T)) (ha : PA X (e :: es) t) (hn : x ≠ "__name__" := by decide) (hdb : (x == ("__debug__" : Str)) = false := by decide)
    (he : starEach (e :: es) X.env = (false, eval e X.env) :: starEach es X.env := by rfl) (hpl : (backTo pos (starEach es X.env)).any (·.1) = false := by rfl) : PE X (.Call (.Name x p) (e :: es) [] pos) (AI r t) := by
  intro pins s σ H Q I h;refine wpAny_Call_Name_kw (jV I hg hm hv ?_ hn hdb);exact PyProof.Rows.callWith_type1 (cV (ha pos pins s σ H _ I h) fun us s1 ⟨vs, H1, I1, r1, q1⟩ => hc pins s1 σ H1 vs us Q I1 r1 q1) he hpl
end
end L2
namespace HT
open PySem PyProof.Rows
section
open PySem.SeqAt
open PySem.AutoSeq1 (wpAny_loadPart')
open PySem.MeetsSeq PySem.MeetsSeq2 PySem.MeetsSeq3
end
section
variable {prog : Program} {w : World} {A : Around} {E : Value -> Shared -> Prop} {s : Shared}
theorem cat_tup {t b : Addr} {vs ws : List Value} {Q : Value -> Shared -> Prop} (ht : IsTup s.heap t vs.toArray) (hb : IsTup s.heap b ws.toArray) (hv : vs ≠ [])
    (h1 : ws = [] -> Q (.ref t) s) (h2 : ws ≠ [] -> Q (.ref s.heap.objs.size) { s with heap := s.heap.push { cls := .type "tuple", data := .seq (vs ++ ws).toArray } })
    (hsz : vs.length + ws.length <= sizeLine) : wpAny (model prog w) A (binaryOp .Add (.ref t) (.ref b)) Q E s := by
  obtain ⟨⟨cls, dd, data, sl⟩, ho, hc, n, hd⟩ := id ht;obtain ⟨⟨cls2, dd2, data2, sl2⟩, ho2, hc2, n2, hd2⟩ := id hb;simp only at hc hd hc2 hd2;subst hc hd hc2 hd2;have e : vs.toArray ++ ws.toArray = (vs ++ ws).toArray := by simp
  by_cases hw : ws = []
  · exact concat_meets ⟨_, ho, rfl⟩ ⟨_, ho2, rfl⟩ noFill_tuple_add seq_tuple_add PySem.F.slot_tuple_add PySem.F.entry_tuple_add (PySem.F.args_tuple_add_2 _ _)
      (tuple_addW1 t b vs.toArray ws.toArray n n2 dd dd2 sl sl2 (by simpa using hv) (by simp [hw])) ⟨ho, ho2, h1 hw⟩
  · refine concat_meets ⟨_, ho, rfl⟩ ⟨_, ho2, rfl⟩ noFill_tuple_add seq_tuple_add PySem.F.slot_tuple_add PySem.F.entry_tuple_add (PySem.F.args_tuple_add_2 _ _)
      (tuple_addW2 t b vs.toArray ws.toArray n n2 dd dd2 sl sl2 (by simpa using hv) (by simpa using hw) (by rw [List.size_toArray, List.size_toArray]; exact hsz)) ⟨ho, ho2, ?_⟩
    rw [e];exact h2 hw
def sIx (n d : Nat) : Option Int -> Nat
  | none => d
  | some v => if v < 0 then (v + (n : Int)).toNat else min v.toNat n
theorem lc (n d : Nat) : sIx n d none = d := rfl
theorem nD (n d k : Nat) : sIx n d (some (k : Int)) = min k n := by
  show (if (k : Int) < 0 then ((k : Int) + (n : Int)).toNat else min (k : Int).toNat n) = min k n;rw [if_neg (by omega), Int.toNat_natCast]
theorem xl (n d : Nat) (hd : d <= n) (o : Option Int) : sIx n d o <= n := by
  cases o with
  | none => exact hd
  | some v =>
    show (if v < 0 then (v + (n : Int)).toNat else min v.toNat n) <= n;by_cases hv : v < 0
    · rw [if_pos hv]; omega
    · rw [if_neg hv]; exact Nat.min_le_right _ _
theorem rD (v : Int) (n d : Nat) : (if v < 0 then max (v + (n : Int)) 0 else min v (n : Int)) = ((sIx n d (some v) : Nat) : Int) := by
  show (if v < 0 then max (v + (n : Int)) 0 else min v (n : Int)) = (((if v < 0 then (v + (n : Int)).toNat else min v.toNat n) : Nat) : Int)
  by_cases hv : v < 0
  · simp only [if_pos hv]; omega
  · simp only [if_neg hv]; omega
theorem p7 (lo hi : Option Int) (n : Nat) : Builtin.Slice.sliceAdjust lo hi 1 (n : Int) = (((sIx n 0 lo : Nat) : Int), ((sIx n n hi : Nat) : Int)) := by
  have h1 : ¬ ((1 : Int) < 0) := by omega
  unfold Builtin.Slice.sliceAdjust;simp only [h1, if_false];refine Prod.ext ?_ ?_
  · cases lo with
    | none => rfl
    | some v => exact rD v n 0
  · cases hi with
    | none => rfl
    | some v => exact rD v n n
theorem p6 (i j : Nat) : Builtin.Slice.slicePlaces (i : Int) (j : Int) 1 = j - i := by
  unfold Builtin.Slice.slicePlaces;have h1 : (1 : Int) > 0 := by omega
  simp only [h1, if_true, Int.ediv_one];split <;> omega
theorem ls {v : Value} {o : Option Int} {Q : Option Int -> Shared -> Prop} (p : IsPart v o) (h : Q o s) : wpAny (model prog w) A (Builtin.Slice.slicePartIndex v) Q E s := by
  cases p with
  | none => exact slicePart_none h
  | int i t => exact slicePart_int h
theorem sliceApplied_gen {sl : Addr} {vl vu : Value} {lo hi : Option Int} {n : Nat} {Q : Int × Int × Nat -> Shared -> Prop} (hs : s.heap.IsSliceOf sl vl vu .none) (pl : IsPart vl lo) (pu : IsPart vu hi)
    (h : Q (((sIx n 0 lo : Nat) : Int), 1, sIx n n hi - sIx n 0 lo) s) : wpAny (model prog w) A (Builtin.Slice.sliceApplied (.ref sl) (pure (n : Int))) Q E s := by
  obtain ⟨os, hos, hcs, hds⟩ := id hs;unfold Builtin.Slice.sliceApplied Builtin.Slice.sliceFields;refine wpAny_bind (wpAny_bind (wpAny_field hos hds (x := vl) rfl (wpAny_bind (wpAny_field hos hds (x := vu) rfl (wpAny_bind (wpAny_field hos hds (x := .none) rfl (wpAny_pure ?_)))))));refine wpAny_bind (slicePart_none ?_);show wpAny _ _ (if ((1 : Int) == 0) = true then _ else _) _ _ s;rw [if_neg (by decide)];refine wpAny_bind (ls pl (wpAny_bind (ls pu (wpAny_bind (wpAny_pure ?_)))));show wpAny _ _ (match Builtin.Slice.sliceAdjust lo hi 1 (n : Int) with | (lo, hi) => pure (lo, (1 : Int), Builtin.Slice.slicePlaces lo hi 1)) _ _ s;rw [p7 lo hi n];show wpAny _ _ (pure (((sIx n 0 lo : Nat) : Int), (1 : Int), Builtin.Slice.slicePlaces ((sIx n 0 lo : Nat) : Int) ((sIx n n hi : Nat) : Int) 1)) _ _ s;rw [p6];exact wpAny_pure h
theorem tW (xs : Array Value) (i k : Nat) : ((List.range k).filterMap fun (m : Nat) => xs[((i : Int) + (m : Int) * 1).toNat]?).toArray = ((xs.toList.drop i).take k).toArray := by
  have e : (fun (m : Nat) => xs[((i : Int) + (m : Int) * 1).toNat]?) = fun m => xs[i + m]? := by
    funext m;have : ((i : Int) + (m : Int) * 1).toNat = i + m := by omega
    rw [this]
  rw [e];have := pick_run xs i k;rw [List.filterMap_map] at this;have e2 : ((fun x => xs[x]?) ∘ fun x => i + x) = fun m => xs[i + m]? := rfl
  rw [e2] at this;rw [this]
theorem getItem_tuple_cut {t sl : Addr} {items : Array Value} {vl vu : Value} {lo hi : Option Int} {Q : Value -> Shared -> Prop} (ht : IsTup s.heap t items) (hs : s.heap.IsSliceOf sl vl vu .none) (pl : IsPart vl lo) (pu : IsPart vu hi)
    (hw : ¬ (sIx items.size 0 lo = 0 /\ sIx items.size items.size hi = items.size))
    (h : Q (.ref s.heap.objs.size) { s with heap := s.heap.push { cls := .type "tuple", data := .seq ((items.toList.drop (sIx items.size 0 lo)).take (sIx items.size items.size hi - sIx items.size 0 lo)).toArray } })
    (hsz : items.size <= sizeLine) : wpAny (model prog w) A (getItem (.ref t) (.ref sl)) Q E s := by
  have htake : sizeOk (.seq ((items.toList.drop (sIx items.size 0 lo)).take (sIx items.size items.size hi - sIx items.size 0 lo)).toArray) := by
    show ((items.toList.drop (sIx items.size 0 lo)).take (sIx items.size items.size hi - sIx items.size 0 lo)).toArray.size <= sizeLine;rw [List.size_toArray, List.length_take, List.length_drop, Array.length_toList];omega
  have hj : sIx items.size items.size hi <= items.size := xl _ _ (Nat.le_refl _) hi;obtain ⟨os, hos, hcs, hds⟩ := id hs;have hTs : s.TypeIs (.ref sl) "slice" := ⟨os, hos, hcs⟩
  unfold getItem
  try with_reducible refine wpAny_holding ?_
  first | refine wpAny_bind (wpAny_pure ?_) | skip
  refine wpAny_bind (wpAny_sequenceKey ht.typeIs (by decide) ?_);refine wpAny_bind (wpAny_callSpecial?_slot (name := Str.ofString "__getitem__") ht.typeIs PyProof.Rows.slot_tuple_getitem
    (wpAny_call_entry PyProof.Rows.slot_tuple_getitem ht.typeIs entry_tuple_getitem ?_ (args_tuple_getitem _ _)))
  show wpAny _ _ (Builtin.Tuple.tupleItemsOf (.ref t) >>= _) _ _ s;refine wpAny_bind (tupleItemsOf_ ht ?_);refine wpAny_bind (wpAny_typeOf hTs ?_);rw [if_pos (by decide)];refine wpAny_bind (sliceApplied_gen hs pl pu ?_);have hno : ¬ ((((sIx items.size 0 lo : Nat) : Int) == 0 && (1 : Int) == 1 && (sIx items.size items.size hi - sIx items.size 0 lo) == items.size) = true) := by
    intro q;rw [Bool.and_eq_true, Bool.and_eq_true] at q;have q1 : ((sIx items.size 0 lo : Nat) : Int) = 0 := eq_of_beq q.1.1;have q2 : sIx items.size items.size hi - sIx items.size 0 lo = items.size := eq_of_beq q.2;exact hw ⟨by omega, by omega⟩
  show wpAny _ _ (if (((sIx items.size 0 lo : Nat) : Int) == 0 && (1 : Int) == 1 && (sIx items.size items.size hi - sIx items.size 0 lo) == items.size) = true then _ else _) _ _ s;rw [if_neg hno, tW]
  first
    | exact wpAny_bind (m := Builtin.Tuple.tupleExact _) (wpAny_newObj_type (wpAny_pure ⟨_, rfl, wpAny_pure h⟩) htake)
    | exact wpAny_bind (m := Builtin.Tuple.tupleExact _) (wpAny_newObj_type (wpAny_bind (wpAny_pure (wpAny_pure ⟨_, rfl, wpAny_pure h⟩))) htake)
    | exact wpAny_bind (wpAny_bind (m := Builtin.Tuple.tupleExact _) (wpAny_newObj_type (wpAny_pure (wpAny_pure ⟨_, rfl, wpAny_pure h⟩)) htake))
    | exact wpAny_bind (wpAny_bind (m := Builtin.Tuple.tupleExact _) (wpAny_newObj_type (wpAny_pure ⟨_, rfl, wpAny_pure h⟩) htake))
end
end HT
namespace L2
open PySem PySem.Spec PyProof.Rows
abbrev TO := St -> Hp -> (Option Int -> Hp -> Prop) -> Prop
def PO (X : Cx) (e : Option Expr) (t : TO) : Prop :=
  ∀ (pins : List (Addr × Obj)) (s : Shared) (σ : St) (H : Hp) (Q : Option Int -> Hp -> Prop), aE X pins σ H s -> t σ H Q ->
    wpAny (model X.prog X.w) X.A (evalPart e X.env) (fun u s' => ∃ o H', aE X pins σ H' s' /\ IsPart u o /\ Q o H') X.xe s
def vW : TO := fun _ H Q => Q none H
def ze (t : TE) : TO := fun σ H Q => t σ H fun x H1 => ∃ i, x = .int i /\ Q (some i) H1
theorem gE {ns : List Int} : ∀ {us : List Value}, bq (ns.map V.int) us -> IntsAre us ns := by
  induction ns with
  | nil => intro us r; rw [List.map_nil] at r; cases r; exact .nil
  | cons n ns ih =>
    intro us r;rw [List.map_cons] at r;cases r with
    | cons r1 r2 =>
      obtain ⟨t, e⟩ := r1;subst e;exact .cons n t (ih r2)
section
variable {X : Cx} {e : Expr} {te : TE} {lo hi : Option Expr} {tl th : TO} {pos p2 : Pos}
theorem vR : PO X none vW := by
  intro pins s σ H Q I h;rw [evalPart_none];exact wpAny_pure ⟨none, H, I, .none, h⟩
theorem vN (h : PE X e te) : PO X (some e) (ze te) := by
  intro pins s σ H Q I hw;rw [evalPart_some];refine cV (h pins s σ H _ I hw) fun u s1 ⟨x, H1, I1, r1, q1⟩ => ?_
  obtain ⟨i, rfl, q⟩ := q1;obtain ⟨t, rfl⟩ := r1;exact ⟨some i, H1, I1, .int i t, q⟩
def wo (X : Cx) (r : V -> Option Int -> Option Int -> Hp -> VK -> Prop) : Prop :=
  ∀ (pins : List (Addr × Obj)) (s : Shared) (σ : St) (H : Hp) (x : V) (v vl vu : Value) (lo hi : Option Int) (sl : Addr) (Q : VK), aE X pins σ H s -> bx x v -> s.heap.IsSliceOf sl vl vu .none -> IsPart vl lo -> IsPart vu hi -> r x lo hi H Q ->
    ∃ T id, typeLookup (.type T) "__getitem__" = pure (some (.builtin id)) /\ s.TypeIs v T /\ wpAny (model X.prog X.w) X.A (getItem v (.ref sl)) (EP X pins σ Q) X.xe s
theorem wo.or {r r' : V -> Option Int -> Option Int -> Hp -> VK -> Prop} (h : wo X r) (h' : wo X r') : wo X (fun x lo hi H Q => r x lo hi H Q \/ r' x lo hi H Q) := by
  intro pins s σ H x v vl vu lo hi sl Q I rx hs pl pu q;rcases q with q | q
  · exact h pins s σ H x v vl vu lo hi sl Q I rx hs pl pu q
  · exact h' pins s σ H x v vl vu lo hi sl Q I rx hs pl pu q
def A4 (r : V -> Option Int -> Option Int -> Hp -> VK -> Prop) (te : TE) (tl th : TO) : TE := fun σ H Q => te σ H fun x H1 => tl σ H1 fun l H2 => th σ H2 fun u H3 => r x l u H3 Q
theorem uw {r : V -> Option Int -> Option Int -> Hp -> VK -> Prop} (hr : wo X r) (he : PE X e te) (hl : PO X lo tl) (hu : PO X hi th) : PE X (.Subscript e (.Slice lo hi none p2) pos) (A4 r te tl th) := by
  intro pins s σ H Q I h;refine Subscript_ (cV (he pins s σ H _ I h) fun v s1 ⟨x, H1, I1, r1, q1⟩ => ?_);refine wpAny_Slice (cV (hl pins s1 σ H1 _ I1 q1) fun vl s2 ⟨l, H2, I2, pl, q2⟩ => cV (hu pins s2 σ H2 _ I2 q2) fun vu s3 ⟨u, H3, I3, pu, q3⟩ => ?_);rw [evalPart_none];refine wpAny_pure ?_;have I4 : aE X pins σ H3 { s3 with heap := s3.heap.push { cls := .type "slice", data := .fields #[vl, vu, .none] } } := I3.kept (t' := s3.toks) fun b ob q => Heap.get?_push_of_some _ q
  obtain ⟨T, id, hT, ht, hg⟩ := hr pins { s3 with heap := s3.heap.push { cls := .type "slice", data := .fields #[vl, vu, .none] } } σ H3 x v vl vu l u s3.heap.objs.size Q I4 r1 (Heap.IsSliceOf.new ..) pl pu q3;show wpAny (model X.prog X.w) X.A (subscriptTail e (.Slice lo hi none p2) v (.ref s3.heap.objs.size)) (EP X pins σ Q) X.xe { s3 with heap := s3.heap.push { cls := .type "slice", data := .fields #[vl, vu, .none] } };exact tail_any (ops := [.ref s3.heap.objs.size, v]) ht hT hg (by with_unfolding_all rfl)
def ph (xs : List V) (lo hi : Option Int) : List V := (xs.drop (HT.sIx xs.length 0 lo)).take (HT.sIx xs.length xs.length hi - HT.sIx xs.length 0 lo)
theorem kt (xs : List V) (lo hi : Option Int) : (ph xs lo hi).length <= xs.length := by
  unfold ph;rw [List.length_take, List.length_drop];omega
def Af (K : PySem.W.Frag) : V -> Option Int -> Option Int -> Hp -> VK -> Prop := fun x lo hi H Q => ∃ a xs, x = .ref a /\ ge K H a xs /\
  ¬ (HT.sIx xs.length 0 lo = 0 /\ HT.sIx xs.length xs.length hi = xs.length) /\ ∀ p, H p = none -> Q (.ref p) (cW H p (.tup (ph xs lo hi)))
theorem xC : wo X (Af X.K) := by
  intro pins s σ H x v vl vu lo hi sl Q I rx hs pl pu h;obtain ⟨a, xs, rfl, hx, hw, q⟩ := h;cases rx;obtain ⟨its, r, ht, hz⟩ := I.tuple hx;have hlen : its.toArray.size = xs.length := by rw [List.size_toArray]; exact r.length.symm
  refine ⟨"tuple", _, PyProof.Rows.slot_tuple_getitem.lookup, ht.typeIs, ?_⟩;refine HT.getItem_tuple_cut ht hs pl pu (by rw [hlen]; exact hw) ?_ (by rw [hlen]; exact hz);rw [hlen];refine ⟨.ref s.heap.objs.size, _, I.laid (t' := s.toks) (o := .tup (ph xs lo hi)) (fun b ob q => Heap.get?_push_of_some _ q) (Nat.le_refl _) ?_, rfl, q _ (I.hok.fresh (Nat.le_refl _))⟩;exact ⟨Nat.le_trans (kt xs lo hi) hz, _, (r.drop (HT.sIx xs.length 0 lo)).take (HT.sIx xs.length xs.length hi - HT.sIx xs.length 0 lo), IsTup.new _ _⟩
def wY (K : PySem.W.Frag) : R2 := fun x y H Q => ∃ a b xs ys, x = .ref a /\ y = .ref b /\ ge K H a xs /\ ge K H b ys /\ xs ≠ [] /\ xs.length + ys.length <= sizeLine /\
  (ys = [] -> Q (.ref a) H) /\ (ys ≠ [] -> ∀ p, H p = none -> Q (.ref p) (cW H p (.tup (xs ++ ys))))
theorem bq.nil_iff {xs : List V} {us : List Value} (r : bq xs us) : us = [] <-> xs = [] := by
  cases r with
  | nil => simp
  | cons _ _ => simp
theorem wb : gr X (binaryOp .Add) (wY X.K) := by
  intro pins s σ H x y v u Q I rx ry h;obtain ⟨a, b, xs, ys, rfl, rfl, ha, hb, hx, hz, q1, q2⟩ := h;cases rx;cases ry;obtain ⟨its, r1, p1, _⟩ := I.tuple ha;obtain ⟨its2, r2, p2, _⟩ := I.tuple hb;refine HT.cat_tup p1 p2 (fun z => hx (r1.nil_iff.mp z)) (fun z => ⟨.ref a, H, I, rfl, q1 (r2.nil_iff.mp z)⟩) (fun z => ?_) (by rw [<- r1.length, <- r2.length]; exact hz);refine ⟨.ref s.heap.objs.size, _, I.laid (t' := s.toks) (o := .tup (xs ++ ys)) (fun b ob q => Heap.get?_push_of_some _ q) (Nat.le_refl _) ?_, rfl, q2 (fun w => z (r2.nil_iff.mpr w)) _ (I.hok.fresh (Nat.le_refl _))⟩;exact ⟨by rw [List.length_append]; exact hz, _, r1.append r2, IsTup.new _ _⟩
end
def wI (n : Nat) (i : Int) : Option Nat := if 0 <= i then (if i < n then some i.toNat else none) else if -(n : Int) <= i then some (i + n).toNat else none
def atI {α : Type} (xs : List α) (i : Int) : Option α := (wI xs.length i).bind fun j => xs[j]?
theorem vY {n : Nat} {i : Int} {j : Nat} (h : wI n i = some j) : seqIndex? i n = some j /\ j < n /\ -(n : Int) <= i /\ i < n := by
  unfold wI at h;by_cases h0 : 0 <= i
  · rw [if_pos h0] at h;by_cases h1 : i < n
    · rw [if_pos h1] at h;have e : i.toNat = j := Option.some.inj h;exact ⟨by rw [seqIndex_of h0 h1, e], by omega, by omega, h1⟩
    · rw [if_neg h1] at h; cases h
  · rw [if_neg h0] at h;by_cases h1 : -(n : Int) <= i
    · rw [if_pos h1] at h;have e : (i + n).toNat = j := Option.some.inj h;exact ⟨by rw [seqIndex_neg (by omega) h1, e], by omega, h1, by omega⟩
    · rw [if_neg h1] at h; cases h
theorem nz {α : Type} {xs : List α} {i : Int} {v : α} (h : atI xs i = some v) : ∃ j, seqIndex? i xs.length = some j /\ xs[j]? = some v /\ j < xs.length /\ -(xs.length : Int) <= i /\ i < xs.length := by
  unfold atI at h;cases e : wI xs.length i with
  | none => rw [e] at h; cases h
  | some j =>
    rw [e] at h;obtain ⟨h1, h2, h3, h4⟩ := vY e;exact ⟨j, h1, h, h2, h3, h4⟩
theorem ov {α : Type} {xs : List α} {j : Nat} {v : α} (h : xs[j]? = some v) : atI xs (j : Int) = some v := by
  have hj : j < xs.length := (List.getElem?_eq_some_iff.mp h).1;have e : wI xs.length (j : Int) = some j := by
    unfold wI;rw [if_pos (by omega), if_pos (by omega)]; simp
  unfold atI; rw [e]; exact h
def n8 (b : Expr) : Prop := ∀ o i, subscripted b false o i = operate [o, i] (getItem o i)
def wB (X : Cx) (r : R2) : Prop :=
  ∀ (value slice : Expr) (pins : List (Addr × Obj)) (s : Shared) (σ : St) (H : Hp) (x y : V) (v u : Value) (Q : VK), aE X pins σ H s -> bx x v -> bx y u -> r x y H Q ->
    subscripted slice false v u = operate [v, u] (getItem v u) -> wpAny (model X.prog X.w) X.A (subscriptTail value slice v u) (EP X pins σ Q) X.xe s
def AX (X : Cx) (id : String) (r : V -> List V -> Hp -> VK -> Prop) : Prop :=
  ∀ (pins : List (Addr × Obj)) (s : Shared) (σ : St) (H : Hp) (x : V) (xs : List V) (v : Value) (us : List Value) (Q : VK), aE X pins σ H s -> bx x v -> bq xs us -> r x xs H Q ->
    wpAny (model X.prog X.w) X.A (call (.builtin id) (v :: us)) (EP X pins σ Q) X.xe s
section
variable {X : Cx} {a b : Expr} {ta tb : TE} {pos : Pos}
theorem wB.or {r r' : R2} (h : wB X r) (h' : wB X r') : wB X (fun x y H Q => r x y H Q \/ r' x y H Q) := by
  intro value slice pins s σ H x y v u Q I rx ry q hs;rcases q with q | q
  · exact h value slice pins s σ H x y v u Q I rx ry q hs
  · exact h' value slice pins s σ H x y v u Q I rx ry q hs
theorem yK {r : R2} (hr : wB X r) (ha : PE X a ta) (hb : PE X b tb) (hs : n8 b) : PE X (.Subscript a b pos) (zu r ta tb) := by
  intro pins s σ H Q I h;exact Subscript_ (w8 ha hb I h fun v u s2 x y H2 I2 rx ry q => hr a b pins s2 σ H2 x y v u Q I2 rx ry q (hs _ _))
def zO (K : PySem.W.Frag) : R2 := fun x y H Q => ∃ p xs i v, x = .ref p /\ y = .int i /\ kD K H p xs /\ atI xs i = some v /\ Q v H
def zx (K : PySem.W.Frag) : R2 := fun x y H Q => ∃ p xs i v, x = .ref p /\ y = .int i /\ ge K H p xs /\ atI xs i = some v /\ Q v H
def yR : R2 := fun x y H Q => ∃ z i c, x = .str z /\ y = .int i /\ z.length <= sizeLine /\ atI z.cps.toList i = some c /\ Q (.str ⟨#[c]⟩) H
theorem vd : wB X (zO X.K) := by
  intro value slice pins s σ H x y v u Q I rx ry h hs;obtain ⟨p, xs, i, z, rfl, rfl, hq, he, q⟩ := h;cases rx;obtain ⟨t, rfl⟩ := ry;obtain ⟨its, r, pl, hz⟩ := I.list hq;obtain ⟨j, h1, h2, h3, h4, h5⟩ := nz he;obtain ⟨w, ew, rw'⟩ := r.get h2;have hl := r.length;have hn := lO;have fin : EP X pins σ Q w s := ⟨z, H, I, rw', q⟩
  by_cases h0 : 0 <= i
  · have hj : i.toNat = j := by
      rw [seqIndex_of h0 h5] at h1;exact Option.some.inj h1
    exact item_listR pl.isList h0 (by omega) (by rw [hj]; simpa using ew) fin hs
  · have hj : (i + (its.toArray.size : Int)).toNat = j := by
      rw [seqIndex_neg (by omega) h4] at h1;rw [List.size_toArray, <- hl];exact Option.some.inj h1
    exact subscriptTail_builtinR (x := w) pl.isList.typeIs slot_list_getitem.lookup
      (wpAny_getItem_list_neg (Q := fun r s' => r = w /\ EP X pins σ Q r s') pl.isList (by omega) (by rw [List.size_toArray] <;> omega) (by omega) (by rw [hj]; simpa using ew) ⟨rfl, fin⟩) hs
theorem xW : wB X (zx X.K) := by
  intro value slice pins s σ H x y v u Q I rx ry h hs;obtain ⟨p, xs, i, z, rfl, rfl, hq, he, q⟩ := h;cases rx;obtain ⟨t, rfl⟩ := ry;obtain ⟨its, r, pl, hz⟩ := I.tuple hq;obtain ⟨j, h1, h2, h3, h4, h5⟩ := nz he;obtain ⟨w, ew, rw'⟩ := r.get h2;have hl := r.length;have hn := lO;have fin : EP X pins σ Q w s := ⟨z, H, I, rw', q⟩
  exact subscriptTail_builtinR (x := w) pl.typeIs slot_tuple_getitem.lookup
    (getItem_tuple (j := j) (Q := fun r s' => r = w /\ EP X pins σ Q r s') pl (by omega) (by omega) (by rw [List.size_toArray, <- hl]; exact h1) (by simpa using ew) ⟨rfl, fin⟩) hs
theorem x8 : wB X yR := by
  intro value slice pins s σ H x y v u Q I rx ry h hs;obtain ⟨z, i, c, rfl, rfl, hz, he, q⟩ := h;obtain ⟨t, rfl⟩ := rx;obtain ⟨t', rfl⟩ := ry;obtain ⟨j, h1, h2, h3, h4, h5⟩ := nz he;have hl : z.cps.toList.length = z.length := by simp [Str.length]
  rw [hl] at h1 h4 h5;have hn := lO;exact tail_any (typeIs_str s z t) slot_str_getitem.lookup (getItem_str (c := c) (by
    have e1 : decide (i < -(2 ^ 63 : Int)) = false := decide_eq_false (by omega);have e2 : decide (i >= 2 ^ 63) = false := decide_eq_false (by omega);rw [e1, e2, Bool.or_false]) (by rw [h1]; simpa using h2) ⟨.str ⟨#[c]⟩, H, I.tok _, ⟨_, rfl⟩, q⟩) hs
theorem oq (lo hi : Option Int) (n : Nat) : (sliceBounds lo hi none n).1 = ((HT.sIx n 0 lo : Nat) : Int) /\ (sliceBounds lo hi none n).2.1 = ((HT.sIx n n hi : Nat) : Int) /\ (sliceBounds lo hi none n).2.2 = 1 := by
  refine ⟨?_, ?_, rfl⟩
  · cases lo with
    | none => simp [sliceBounds, HT.sIx]
    | some i =>
      simp only [sliceBounds, HT.sIx, Option.getD_none, show (1 : Int) > 0 by decide, if_true];by_cases h : i < 0
      · simp only [h, if_true] <;> omega
      · simp only [h, if_false] <;> omega
  · cases hi with
    | none => simp [sliceBounds, HT.sIx]
    | some i =>
      simp only [sliceBounds, HT.sIx, Option.getD_none, show (1 : Int) > 0 by decide, if_true];by_cases h : i < 0
      · simp only [h, if_true] <;> omega
      · simp only [h, if_false] <;> omega
theorem mt (its : List Value) (lo hi : Option Int) : slicePick its.toArray lo hi none = ((its.drop (HT.sIx its.length 0 lo)).take (HT.sIx its.length its.length hi - HT.sIx its.length 0 lo)).toArray := by
  obtain ⟨h1, h2, h3⟩ := oq lo hi its.toArray.size;unfold slicePick;rw [h1, h2, h3];simp only [sliceRange_one, pick_run, List.size_toArray] <;> rfl
def Ax (K : PySem.W.Frag) : V -> Option Int -> Option Int -> Hp -> VK -> Prop := fun x lo hi H Q => ∃ a xs, x = .ref a /\ kD K H a xs /\ ∀ p, H p = none -> Q (.ref p) (cW H p (.lst (ph xs lo hi)))
theorem v3 : wo X (Ax X.K) := by
  intro pins s σ H x v vl vu lo hi sl Q I rx hs pl pu h;obtain ⟨a, xs, rfl, hx, q⟩ := h;cases rx;obtain ⟨its, r, ht, hz⟩ := I.list hx;have hlen := r.length;refine ⟨"list", _, slot_list_getitem.lookup, ht.isList.typeIs, ?_⟩;refine wpAny_getItem_list_slice ht.isList hs pl pu .none (by simp) ?_ (by rw [List.size_toArray] <;> omega);rw [mt, <- hlen];refine ⟨.ref s.heap.objs.size, _, I.laid (t' := s.toks) (o := .lst (ph xs lo hi)) (fun b ob q => Heap.get?_push_of_some _ q) (Nat.le_refl _) ?_, rfl, q _ (I.hok.fresh (Nat.le_refl _))⟩;exact ⟨Nat.le_trans (kt xs lo hi) hz, _, 0, (r.drop (HT.sIx xs.length 0 lo)).take (HT.sIx xs.length xs.length hi - HT.sIx xs.length 0 lo), Heap.get?_push_size _ rfl⟩
theorem nZ : cI X (.builtin "len") (fun xs H Q => ∃ p ys, xs = [.ref p] /\ (kD X.K H p ys \/ ge X.K H p ys) /\ Q (.int ys.length) H) := by
  intro pins s σ H xs us Q I r h;obtain ⟨p, ys, rfl, hq, q⟩ := h;obtain ⟨u, rfl, rx⟩ := fj r;cases rx;have hn := lO;rcases hq with hq | hq
  · obtain ⟨its, r', pl, hz⟩ := I.list hq;have hlen := r'.length;exact Calls.call_len_list pl.isList (by simp only [List.size_toArray] <;> omega) ⟨.int ys.length, H, I.tok _, ⟨s.toks + 1, by rw [List.size_toArray, hlen]⟩, q⟩
  · obtain ⟨its, r', pl, hz⟩ := I.tuple hq;have hlen := r'.length;exact len_tuple pl (by simp only [List.size_toArray] <;> omega) ⟨.int ys.length, H, I.tok _, ⟨s.toks + 1, by rw [List.size_toArray, hlen]⟩, q⟩
theorem n4 : cI X (.builtin "len") (fun xs H Q => ∃ z, xs = [.str z] /\ z.length <= sizeLine /\ Q (.int z.length) H) := by
  intro pins s σ H xs us Q I r h;obtain ⟨z, rfl, hz, q⟩ := h;obtain ⟨u, rfl, t, rfl⟩ := fj r;have hn := lO;exact len_str (by omega) ⟨.int z.length, H, I.tok _, ⟨_, rfl⟩, q⟩
theorem cI.or {f : Value} {r r' : List V -> Hp -> VK -> Prop} (h : cI X f r) (h' : cI X f r') : cI X f (fun xs H Q => r xs H Q \/ r' xs H Q) := by
  intro pins s σ H xs us Q I rs q;rcases q with q | q
  · exact h pins s σ H xs us Q I rs q
  · exact h' pins s σ H xs us Q I rs q
theorem n6 : cI X (.type "list") (fun xs H Q => ∃ p ys, xs = [.ref p] /\ (kD X.K H p ys \/ ge X.K H p ys) /\ ∀ l, H l = none -> Q (.ref l) (cW H l (.lst ys))) := by
  intro pins s σ H xs us Q I r h;obtain ⟨p, ys, rfl, hq, q⟩ := h;obtain ⟨u, rfl, rx⟩ := fj r;cases rx;have fin : ∀ (its : List Value), bq ys its -> ys.length <= sizeLine -> ∀ (h' : Heap) (c' : Nat), (∀ b o', s.heap.get? b = some o' -> h'.get? b = some o') ->
      h'.get? s.heap.objs.size = some { cls := .type "list", dict := none, data := .seq its.toArray c', slots := #[] } -> EP X pins σ Q (.ref s.heap.objs.size) { s with heap := h' } := fun its r' hz h' c' kp e =>
    ⟨.ref s.heap.objs.size, _, I.laid (t' := s.toks) kp (Nat.le_refl _) (show bE X.prog X.w _ h' _ (.lst ys) from ⟨hz, its, c', r', e⟩), rfl, q _ (I.hok.fresh (Nat.le_refl _))⟩
  rcases hq with hq | hq
  · obtain ⟨its, r', pl, hz⟩ := I.list hq;have hlen := r'.length;obtain ⟨o, ho, hc, n, hd⟩ := pl.isList;exact call_list_seq p (.inl rfl) ho hc hd (fun h' c' kp e => fin its r' hz h' c' kp e) (by simp only [List.size_toArray] <;> omega)
  · obtain ⟨its, r', pl, hz⟩ := I.tuple hq;have hlen := r'.length;obtain ⟨o, ho, hc, n, hd⟩ := pl;exact call_list_seq p (.inr rfl) ho hc hd (fun h' c' kp e => fin its r' hz h' c' kp e) (by simp only [List.size_toArray] <;> omega)
theorem ml : cI X (.type "tuple") (fun xs H Q => ∃ p ys, xs = [.ref p] /\ ((kD X.K H p ys /\ ∀ l, H l = none -> Q (.ref l) (cW H l (.tup ys))) \/ (ge X.K H p ys /\ Q (.ref p) H))) := by
  intro pins s σ H xs us Q I r h;obtain ⟨p, ys, rfl, h⟩ := h;obtain ⟨u, rfl, rx⟩ := fj r;cases rx;rcases h with ⟨hq, q⟩ | ⟨hq, q⟩
  · obtain ⟨its, r', pl, hz⟩ := I.list hq;have hlen := r'.length;refine call_tuple_list pl.isList (fun h' kp => ?_) (by simp only [List.size_toArray] <;> omega);have I1 : aE X pins σ H { s with heap := h' } := I.kept (t' := s.toks) kp;have I2 : aE X pins σ (cW H h'.objs.size (.tup ys)) { s with heap := h'.push { cls := .type "tuple", data := .seq its.toArray } } :=
      I1.laid (t' := s.toks) (fun b o e => Heap.get?_push_of_some _ e) (Nat.le_refl _) (show bE X.prog X.w _ _ _ (.tup ys) from ⟨hz, its, r', IsTup.new _ _⟩)
    exact ⟨.ref h'.objs.size, _, I2, rfl, q _ (I1.hok.fresh (Nat.le_refl _))⟩
  · obtain ⟨its, r', pl, hz⟩ := I.tuple hq;exact call_tuple_same pl ⟨.ref p, H, I, rfl, q⟩
def AR (K : PySem.W.Frag) (T : String) (x : V) (H : Hp) : Prop := match x with
  | .str _ => T = "str"
  | .int _ => T = "int"
  | .ref p => (T = "list" /\ ∃ xs, kD K H p xs) \/ (T = "tuple" /\ ∃ o, K.lookup p = some o /\ o.cls = .type "tuple" /\ o.dict = none) \/
      (T = "dict" /\ ((∃ kvs, H p = some (.dK kvs)) \/ ∃ kvs, H p = some (.dT kvs))) \/ (T = "set" /\ ∃ S n, H p = some (.set S n))
  | _ => False
theorem xn {pins : List (Addr × Obj)} {σ : St} {H : Hp} {s : Shared} {T : String} {x : V} {v : Value} (I : aE X pins σ H s) (r : bx x v) (ty : AR X.K T x H) :
    s.TypeIs v T /\ ∀ a, v = .ref a -> ∃ ob, s.heap.get? a = some ob /\ ob.dict = none := by
  cases x with
  | str z =>
    obtain ⟨t, rfl⟩ := r;cases (show T = "str" from ty);exact ⟨typeIs_str s z t, fun _ e => nomatch e⟩
  | int i =>
    obtain ⟨t, rfl⟩ := r;cases (show T = "int" from ty);exact ⟨typeIs_int s i t, fun _ e => nomatch e⟩
  | ref p =>
    cases r;rcases ty with ⟨rfl, xs, hq⟩ | ⟨rfl, o, hk, hc, hd⟩ | ⟨rfl, hk⟩ | ⟨rfl, S, n, hk⟩
    · obtain ⟨its, _, pl, _⟩ := I.list hq;refine ⟨pl.isList.typeIs, fun a e => ?_⟩;cases e;obtain ⟨o, n, e, c, hd, _⟩ := pl;exact ⟨o, e, hd⟩
    · refine ⟨⟨o, I.kIn p o hk, hc⟩, fun a e => ?_⟩;cases e;exact ⟨o, I.kIn _ o hk, hd⟩
    · have z : ∃ o, s.heap.get? p = some o /\ o.ExactDict := by
        rcases hk with ⟨kvs, hk⟩ | ⟨kvs, hk⟩
        · obtain ⟨_, _, _, _, o, _, _, e, ex, _⟩ := I.hok p _ hk;exact ⟨o, e, ex⟩
        · obtain ⟨_, _, _, _, o, _, _, e, ex, _⟩ := I.hok p _ hk;exact ⟨o, e, ex⟩
      obtain ⟨o, e, ex⟩ := z;refine ⟨⟨o, e, ex.1⟩, fun a e2 => ?_⟩;cases e2;exact ⟨o, e, ex.2.1⟩
    · obtain ⟨o, _, _, _, e, ex, _⟩ := I.hok p _ hk;refine ⟨⟨o, e, ex.1⟩, fun a e2 => ?_⟩;cases e2;exact ⟨o, e, ex.2.1⟩
  | _ => exact False.elim ty
def A6 (K : PySem.W.Frag) (T : String) (r : V -> List V -> Hp -> VK -> Prop) (to : TE) (t : TA) : TE := fun σ H Q => to σ H fun x H1 => AR K T x H1 /\ t σ H1 fun xs H2 => r x xs H2 Q
variable {o e : Expr} {es : List Expr} {to : TE} {t : TA} {name : Str} {apos cpos : Pos} {T id : String} {r : V -> List V -> Hp -> VK -> Prop}
theorem wM (pa : PlainAttrs T) (slot : Slot T name id) (hty : typeOf (.builtin id) = pure (.type "method_descriptor")) (hm : AX X id r) (ho : PE X o to) (ha : PA X (e :: es) t)
    (hbase : attributeBase o name X.env (eval o X.env) = eval o X.env := by rfl)
    (hfew : ((backTo cpos (starEach (e :: es) X.env)).all (fun x => !x.1) && (backToKw cpos (keywordEach [] X.env)).all (fun x => x.1.isSome)
      && decide ((e :: es).length + ([] : List Keyword).length + (if ([] : List Keyword).isEmpty then 0 else 1) < 30)) = true := by rfl)
    (hline : (apos.endLine == cpos.line) = true := by rfl) (hs : starEach (e :: es) X.env = (false, eval e X.env) :: starEach es X.env := by rfl) (hplain : (backTo cpos (starEach es X.env)).any (·.1) = false := by rfl) :
    PE X (.Call (.Attribute o name apos) (e :: es) [] cpos) (A6 X.K T r to t) := by
  intro pins s σ H Q I h;refine wpAny_Call_method_late hbase hfew hline rfl (cV (ho pins s σ H _ I h) fun v s1 ⟨x, H1, I1, r1, ty, q1⟩ => ?_);obtain ⟨h1, h2⟩ := xn I1 r1 ty;refine ⟨T, id, pa, slot, hty, h1, h2, ?_⟩;have hA := ha cpos pins s1 σ H1 _ I1 q1;rw [hs] at hA ⊢;refine Calls.callWith_builtin (by show (false || (backTo cpos (starEach es X.env)).any (·.1)) = false; rw [hplain] <;> rfl) (Calls.evalArgs_plain ?_);exact cV hA fun us s2 ⟨vs, H2, I2, r2, q2⟩ => hm pins s2 σ H2 x vs v us Q I2 r1 r2 q2
end
def Ba (X : Cx) (id : String) (r : V -> List V -> Hp -> VK -> Prop) : Prop :=
  ∀ (pins : List (Addr × Obj)) (s : Shared) (σ : St) (H : Hp) (x : V) (xs : List V) (v : Value) (us : List Value) (Q : VK), aE X pins σ H s -> bx x v -> bq xs us -> r x xs H Q ->
    wpAny (model X.prog X.w) X.A (call (.builtin id) (v :: us)) (EP X pins σ Q) X.xe s
theorem bq.one : ∀ {x : V} {us : List Value}, bq [x] us -> ∃ u, us = [u] /\ bx x u
  | _, _, .cons r .nil => ⟨_, rfl, r⟩
theorem bq.reverse {xs : List V} {us : List Value} (h : bq xs us) : bq xs.reverse us.reverse := by
  induction h with
  | nil => exact .nil
  | cons r t ih => rw [List.reverse_cons, List.reverse_cons]; exact bq.append ih (.cons r .nil)
theorem bq.rep {xs : List V} {us : List Value} (h : bq xs us) : ∀ k : Nat, bq (List.replicate k xs).flatten (List.replicate k us).flatten
  | 0 => .nil
  | k + 1 => by
    rw [List.replicate_succ, List.replicate_succ, List.flatten_cons, List.flatten_cons];exact bq.append h (bq.rep h k)
theorem mT (its : List Value) : ∀ (k : Nat) (acc : List Value),
    List.foldl (fun x1 x2 => x1 ++ x2) acc.toArray (List.replicate k its.toArray) = (acc ++ (List.replicate k its).flatten).toArray
  | 0, acc => by simp
  | k + 1, acc => by
    have e : acc.toArray ++ its.toArray = (acc ++ its).toArray := by simp
    have e2 : (acc ++ its) ++ (List.replicate k its).flatten = acc ++ (List.replicate (k + 1) its).flatten := by
      rw [List.replicate_succ, List.flatten_cons, List.append_assoc]
    rw [<- e2, <- mT its k (acc ++ its), <- e, List.replicate_succ, List.foldl_cons]
section
variable {X : Cx} {pins : List (Addr × Obj)} {σ : St} {H : Hp} {s : Shared} {l b : Addr} {xs ys zs : List V}
theorem aE.lset {its its' : List Value} {n : Nat} {f : Array Value -> Array Value} {t' : Nat} (I : aE X pins σ H s) (hH : H l = some (.lst xs))
    (e : s.heap.get? l = some { cls := .type "list", data := .seq its.toArray n }) (hf : f its.toArray = its'.toArray) (hv : bq ys its') (hz : ys.length <= sizeLine) :
    aE X pins σ (cW H l (.lst ys)) { s with heap := s.heap.update l (Obj.mapSeq f), toks := t' } := by
  have q := PySem.IsL.update e f;rw [hf] at q;refine I.write (x := l) (e := l) (by rw [hH]; exact trivial) (.inl rfl) (fun b' u hb hu => (Heap.get?_update_other s.heap (Obj.mapSeq f) (Ne.symm hb)).trans hu) ⟨_, q⟩ ?_;exact ⟨hz, its', _, hv, q⟩
theorem aE.lnew {its : List Value} {t' : Nat} (I : aE X pins σ H s) (hv : bq ys its) (hz : ys.length <= sizeLine) :
    aE X pins σ (cW H s.heap.objs.size (.lst ys)) { s with heap := s.heap.push { cls := .type "list", data := .seq its.toArray }, toks := t' } :=
  I.laid (fun _ _ q => Heap.get?_push_of_some _ q) (Nat.le_refl _) ⟨hz, its, 0, hv, Heap.get?_push_size _ rfl⟩
theorem aE.fresh (I : aE X pins σ H s) : H s.heap.objs.size = none := I.hok.fresh (Nat.le_refl _)
theorem aE.lstM (I : aE X pins σ H s) (hH : H l = some (.lst xs)) : xs.length <= sizeLine /\ ∃ (its : List Value) (n : Nat), bq xs its /\ xs.length = its.length /\ s.heap.get? l = some { cls := .type "list", data := .seq its.toArray n } := by
  obtain ⟨z, its, n, r, e⟩ := I.hok l _ hH;exact ⟨z, its, n, r, r.length, e⟩
end
section
variable {X : Cx}
def vI : V -> List V -> Hp -> VK -> Prop := fun x vs H Q => ∃ l xs y, x = .ref l /\ vs = [y] /\ H l = some (.lst xs) /\ xs.length < sizeLine /\ Q .non (cW H l (.lst (xs ++ [y])))
theorem my : Ba X "list.append" vI := by
  intro pins s σ H x vs v us Q I rx rv h;obtain ⟨l, xs, y, rfl, rfl, hH, hz, q⟩ := h;cases rx;obtain ⟨u, rfl, ru⟩ := rv.one;obtain ⟨z, its, n, r, hl, e⟩ := I.lstM hH;refine call_meets F.slot_list_append ⟨_, e, rfl⟩ F.entry_list_append (F.args_list_append_2 _ _) (PySem.list_append l its.toArray n u (by rw [List.size_toArray]; omega)) ⟨e, ?_⟩;refine ⟨.non, _, I.lset (its' := its ++ [u]) hH e (by simp) (r.append (.cons ru .nil)) ?_, rfl, q⟩;rw [List.length_append, List.length_singleton];omega
theorem rC {α : Type} (xs : List α) (k : Nat) : (List.replicate k xs).flatten.length = k * xs.length := by
  induction k with
  | zero => simp
  | succ k ih => rw [List.replicate_succ, List.flatten_cons, List.length_append, ih, Nat.succ_mul, Nat.add_comm]
end
end L2
namespace Att
open PySem PySem.W PySem.Calls PyProof.Rows
theorem kC {P : Params} {h : Heap} : ∀ (ns : List Int) (vs : List Value), WellAll P h vs (ns.map WData.int) -> IntsAre vs ns := by
  intro ns;induction ns with
  | nil =>
    intro vs w;rw [List.map_nil] at w;cases w;exact .nil
  | cons n ns ih =>
    intro vs w;rw [List.map_cons] at w;cases w with
    | cons a b =>
      cases a;exact .cons _ _ (ih _ b)
theorem sM {l : OpenLaw} {n : Nat} (hn : l.most = some n) {P : Params} {h : Heap} {args : List WData} {vals : List Value}
    (hpre : l.row.toRowW.claim.pre args = true) (hwl : WellAll P h vals args) :
    ∃ a vs ns, vals = [Value.ref a] /\ args = [WData.list (ns.map WData.int)] /\ h.get? a = some { cls := .type "list", data := .seq vs.toArray } /\ IntsAre vs ns /\ ns.length <= n := by
  have hsh : WShape.hasAll [] args [.list .int] = true := (pre_splitW hpre).1;have hc : l.pre.holds [] { args := args } = true := (pre_splitW hpre).2;obtain ⟨d, r, rfl, h1, h2⟩ := hasAllW_cons hsh;obtain rfl := hasAllW_nil h2;obtain ⟨xs, rfl, h3⟩ := hasW_list h1;obtain ⟨ns, rfl⟩ := items_int h3;have hlen : ns.length <= n := by
    unfold OpenLaw.pre at hc;have h4 : (WTm.not (.lt (.lit (.int (n : Int))) (.len (.arg 0)))).holds [] { args := [.list (ns.map .int)] } = true := by
      have h4 := (holds_andW hc).1;rw [hn] at h4;exact h4
    have h5 := condW_of h4 (w_not (w_lt w_lit (w_len_list (w_arg rfl))));rw [List.length_map] at h5;refine Nat.le_of_not_lt fun q => ?_
    have q' : (n : Int) < ((ns.length : Nat) : Int) := by omega
    first
      | (rw [decide_eq_true q'] at h5; exact absurd h5 (by decide))
      | (simp at h5; omega)
  cases hwl with
  | cons w1 w2 =>
    cases w2;cases w1 with
    | list ho hall => exact ⟨_, _, ns, rfl, rfl, ho, kC ns _ hall, hlen⟩
theorem sG (l : OpenLaw) (args : List WData) : l.row.toRowW.claim.post args (.bool true) args = true :=
  postW_of (r := l.row.toRowW) (X := (true == true))
    (show WShape.has [] (.bool true) .bool = true by first | rfl | decide | simp [WShape.has, WShape.arms, WShape.armsAll])
    (show (WTm.eq .res (.lit (.bool true))).value [] { args := args, res := some (.bool true), after := args } = some (.bool (true == true)) from w_eq_bool (w_res rfl) w_lit) rfl
theorem attach_call {l : OpenLaw} {n : Nat} {q : Program} {loose : List Str} {XP : (Str -> Option Value) -> Heap -> Prop} {YP : World -> Heap -> Prop} {d : DefRec}
    (hn : l.most = some n) (hdf : d.params.defaults = [])
    (call : ∀ (w : World) (s₀ s₁ : Shared) (mg mb : Str -> Option Value) (fa : Addr) (o : Obj) (pm cd doc : Value) (a : Addr) (vs : List Value) (ns : List Int),
      Ground q loose [] XP w s₀ mg mb s₁.heap -> YP w s₁.heap ->
      s₁.heap.get? fa = some o -> o.data = .func (docDef d.name d.params d.body d.scope pm cd doc) -> s₁.heap.CodeRec cd d.name -> mg d.name = some (.ref fa) ->
      s₁.heap.get? a = some { cls := .type "list", data := .seq vs.toArray } -> IntsAre vs ns -> ns.length <= n -> s₁.gens = #[] ->
      codeAny (model l.prog w) callerA (.call (.ref fa) ⟨[.ref a], []⟩) (fun r s' => r = .ok (.ret (.bool true)) /\ OldK s₁.heap s'.heap /\ s'.os = s₁.os /\ AllBare s'.gens) s₁) :
    WalkO q loose XP YP l.row.toRowW d [] (fun f vs => PySem.call f vs) := by
  intro w s₀ s₁ mg mb G Y fa o pm cd doc dV kV ho hd hcd hD hmg hg args vals as hpre hlay hrd hwl hlo;obtain rfl : dV = .none := Dflts.none hD hdf;obtain rfl : kV = .none := Dflts.noKw hD;obtain ⟨a, vs, ns, rfl, rfl, hobj, hints, hlen⟩ := sM hn hpre hwl;refine enter_call (codeAny_mono (call w s₀ s₁ mg mb fa o pm cd doc a vs ns G Y ho (fd_plain hd) hcd hmg hobj hints hlen hg) fun r s' hq => ?_);obtain ⟨rfl, h2, h3, h4⟩ := hq;exact ⟨.inl ⟨.bool true, .bool true, [], rfl, fun _ => rfl, .bool true, sG l _, fun _ => ⟨List.Pairwise.nil, fun _ hm => (nomatch hm)⟩⟩, h2, h3, h4⟩
end Att
namespace L2
open PySem PySem.Spec PyProof.Rows
theorem ix : ∀ {vs : List Value} {ns : List Int}, IntsAre vs ns -> bq (ns.map V.int) vs
  | _, _, .nil => .nil
  | _, _, .cons n t h => .cons ⟨t, rfl⟩ (ix h)
def zF (H : Hp) : Prop := ∀ b, H b = none \/ ∃ o xs, H b = some (.frz o (.lst xs))
theorem u0 {P : Program} {w : World} {K : PySem.W.Frag} {mg mb : Str -> Option Value} {CX : tw} {k : Nat} {fa a : Addr} {fd : FuncData} {x : Str} {sp : Sp} {s₁ : Shared} {vs : List Value} {ns : List Int}
    (KX : K.In s₁.heap) (hns : s₁.heap.Ns mainGlobals mg) (hb : s₁.heap.Ns builtinsNs mb) (hbb : ∀ x : Str, x ≠ "__name__" -> mb x = bootBuiltins x) (hlim : s₁.heap.NoLimit) (hg : s₁.gens = #[])
    (ha : s₁.heap.get? a = some { cls := .type "list", data := .seq vs.toArray }) (hi : IntsAre vs ns) (hl : ns.length <= sizeLine) (hr : dG k callerA)
    (F : ∀ base : Heap, K.In base -> base.Ns mainGlobals mg -> bj P w K mg base CX k fa fd [x] sp) (hbind : ∀ (s : Shared) (u : Value), BindsTo s fd ⟨[u], []⟩ [(x, u)])
    (hsp : ∀ H : Hp, zF H -> kD K H a (ns.map V.int) -> sp [.ref a] H (fun v _ => v = .bl true) fun _ _ _ => False)
    (hCX : ∀ H e s', CX [] H s₁ (fun _ _ _ => False) e s' -> False) :
    codeAny (model P w) callerA (.call (.ref fa) ⟨[.ref a], []⟩) (fun r s' => r = .ok (.ret (.bool true)) /\ OldK s₁.heap s'.heap /\ s'.os = s₁.os /\ AllBare s'.gens) s₁ := by
  have rv := ix hi;have lenV := hi.length
  -- from an abstract heap in which nothing but the script may be tracked
  have core : ∀ H : Hp, zF H -> kD K H a (ns.map V.int) -> fH P w H s₁.heap -> (∀ b, H b ≠ none -> b = a) -> (H a ≠ none -> K.lookup a = none) ->
      codeAny (model P w) callerA (.call (.ref fa) ⟨[.ref a], []⟩) (fun r s' => r = .ok (.ret (.bool true)) /\ OldK s₁.heap s'.heap /\ s'.os = s₁.os /\ AllBare s'.gens) s₁ := by
    intro H hO hS hok hA hK;have base_of : ∀ {b : Addr} {o : Obj}, s₁.heap.get? b = some o -> H b = none -> (om s₁.heap H).get? b = some o := fun e n => ur e n
    have noA : ∀ {b : Addr} {o : Obj} {es : Array DictEntry} {ep : Nat}, s₁.heap.get? b = some o -> o.data = .dict es ep -> H b = none := fun {b o es ep} e d => by
      cases q : H b with
      | none => rfl
      | some u =>
        have e' : b = a := hA b (by rw [q]; simp);subst e';rw [ha] at e; cases e;have d' : Data.seq vs.toArray _ = Data.dict es ep := d;cases d'
    have nsK : ∀ {b : Addr} {m : Str -> Option Value}, s₁.heap.Ns b m -> (om s₁.heap H).Ns b m := fun {b m} ⟨o, es, ep, e, d, r⟩ => ⟨o, es, ep, base_of e (noA e d), d, r⟩
    have hKb : K.In (om s₁.heap H) := fun b o e => base_of (KX b o e) (by
      cases q : H b with
      | none => rfl
      | some u =>
        have e' : b = a := hA b (by rw [q]; simp);subst e';rw [hK (by rw [q]; simp)] at e; cases e)
    have hM : Mod K mg (om s₁.heap H) := ⟨hKb, nsK hns, ⟨mb, nsK hb, hbb⟩, let ⟨mc, h1, h2⟩ := hlim; ⟨mc, nsK h1, h2⟩⟩
    have e0 : vC P w K mg (om s₁.heap H) callerA [] s₁ H := ⟨rfl, hM, fun b o e => vf e, Nat.le_of_eq (sQ _ _), trivial, fun b hb => absurd (show b ∈ ([] : List Addr) from hb) (by simp), hok, .of_eq hg⟩
    refine codeAny_mono ((F _ hKb (nsK hns)).run callerA [] s₁ H ⟨[.ref a], []⟩ [.ref a] [.ref a] _ _ hr e0 (hbind s₁ (.ref a)) (.cons rfl .nil) (hsp H hO hS)) fun r s' h => ?_
    cases r with
    | error e => exact (hCX H e s' h).elim
    | ok fl =>
      cases fl with
      | next => exact False.elim h
      | brk => exact False.elim h
      | cont => exact False.elim h
      | ret u =>
        obtain ⟨v, H', os, bare, un, hok', r', q⟩ := h;have q' : v = .bl true := q;subst q';obtain rfl : u = Value.bool true := r';refine ⟨rfl, OldK.of_keep fun b o e => ?_, os, bare⟩;cases q : H b with
        | none => exact un.keep b o e q (by intro z; exact absurd (show b ∈ ([] : List Addr) from z) (by simp)) (by simp)
        | some u =>
          rcases hO b with z | ⟨ob, xs, z⟩
          · rw [q] at z; cases z
          · have z2 := un.frzs b ob _ z;obtain ⟨e1, _⟩ := hok b _ z;obtain ⟨e2, _⟩ := hok' b _ z2;rw [e] at e1; cases e1;exact e2
  cases hk : K.lookup a with
  | some o =>
    -- the script is one of the module's own objects
    have e := KX a o hk;rw [ha] at e;cases e;refine core (fun _ => none) (fun _ => .inl rfl) (.inr ⟨_, vs.toArray, _, hk, rfl, rfl, rfl, by rw [List.size_toArray, lenV]; exact hl, by simpa using rv⟩) (fun b u z => by have z' : (none : Option HO) = some u := z; cases z') (fun b z => absurd rfl z) fun z => absurd rfl z
  | none =>
    refine core (fun b => if b = a then some (.frz { cls := .type "list", data := .seq vs.toArray } (.lst (ns.map V.int))) else none) (fun b => ?_) (.inl (.inr ⟨{ cls := .type "list", data := .seq vs.toArray }, if_pos rfl⟩)) (fun b u z => ?_) (fun b z => ?_) fun _ => hk
    · by_cases hb : b = a
      · exact .inr ⟨_, _, if_pos hb⟩
      · exact .inl (if_neg hb)
    · by_cases hb : b = a
      · have z' := (if_pos hb).symm.trans z;cases z';subst hb;exact ⟨ha, by rw [List.length_map]; exact hl, vs, _, rv, ha⟩
      · have z' := (if_neg hb).symm.trans z;cases z'
    · by_cases hb : b = a
      · exact hb
      · exact absurd (if_neg hb) z
def fE (s : Stmt) : Arguments := match s with
  | .FunctionDef _ a _ _ _ _ _ _ _ _ => a
  | _ => { posonlyargs := [], args := [], vararg := none, kwonlyargs := [], kw_defaults := [], kwarg := none, defaults := [] }
def dj (s : Stmt) : List Stmt := match s with
  | .FunctionDef _ _ b _ _ _ _ _ _ _ => b
  | _ => []
def al (s : Stmt) : Scope := match s with
  | .FunctionDef _ _ _ _ _ _ sc _ _ _ => sc
  | _ => { kind := .function, names := [], isGenerator := false, isCoroutine := false }
abbrev AW : tw := fun _ _ _ _ _ _ => False
structure ji (K : PySem.W.Frag) (x qual : Str) (st : Stmt) (f : Addr) (fd : FuncData) : Prop where
  ex : ∃ (oc : Value) (od : Option Addr) (kV doc pm : Value) (an : Option Addr) (cdv ct : Value) (osl : Array (Option Value)),
    fd = PySem.W.fnOf x qual (fE st) (dj st) (al st) .none kV doc pm an cdv ct /\ K.lookup f = some ⟨oc, od, .func fd, osl⟩ /\ PySem.W.codeIn K cdv qual = true
  kp : PySem.W.keepIn K (.ref f) = true
section
variable {P : Program} {w : World} {K : PySem.W.Frag} {mg : Str -> Option Value} {base : Heap}
theorem ji.ok {x qual : Str} {st : Stmt} {f : Addr} {fd : FuncData} {N ps : List Str} {k : Nat} {sp : Sp} (F : ji K x qual st f fd) (S : ba N ps (al st)) (len : ∀ vs H Q E, sp vs H Q E -> vs.length = ps.length)
    (hbody : ∀ (cdv : Value) (A : Around) (outer : List Env) (s : Shared) (H : Hp) (vs : List V) (Q : VK) (E : XK), dG k (A.deeper (envOfC qual (al st) s.heap.objs.size f cdv)) -> sp vs H Q E ->
      ∃ t, og (dZ AW P w K mg base N qual (al st) f cdv A outer s H E).nox (dj st) t /\ t { nx := fun _ H' => Q .non H', rt := Q } (gJ N vs) H) : bj P w K mg base AW (k + 1) f fd ps sp := by
  obtain ⟨oc, od, kV, doc, pm, an, cdv, ct, osl, rfl, lk, hcd⟩ := F.ex;refine wS lk hcd S len fun A outer s H vs Q E hr hsp => ?_
  obtain ⟨t, h, q⟩ := hbody cdv A outer s H vs Q E hr hsp;exact ⟨t, h.nox, q⟩
theorem ji.binds {x qual : Str} {st : Stmt} {f : Addr} {fd : FuncData} {ps : List Str} (F : ji K x qual st f fd)
    (h : ∀ (kV doc pm : Value) (an : Option Addr) (cdv ct : Value) (us : List Value), us.length = ps.length -> bindArgs (PySem.W.fnOf x qual (fE st) (dj st) (al st) .none kV doc pm an cdv ct) ⟨us, []⟩ = pure (ps.zip us)) : gH K fd ps [] := by
  obtain ⟨oc, od, kV, doc, pm, an, cdv, ct, osl, rfl, lk, hcd⟩ := F.ex;exact .all (h kV doc pm an cdv ct)
theorem uc {x qual : Str} {st : Stmt} {f : Addr} {oc : Value} {od an : Option Addr} {osl : Array (Option Value)} {kV doc pm cdv ct : Value} (l : K.lookup f = some ⟨oc, od, .func (PySem.W.fnOf x qual (fE st) (dj st) (al st) .none kV doc pm an cdv ct), osl⟩)
    (c : PySem.W.codeIn K cdv qual = true) (k : PySem.W.keepIn K (.ref f) = true) : ji K x qual st f (PySem.W.fnOf x qual (fE st) (dj st) (al st) .none kV doc pm an cdv ct) := ⟨⟨oc, od, kV, doc, pm, an, cdv, ct, osl, rfl, l, c⟩, k⟩
end
def ay (H H' : Hp) : Prop := ∀ b o, H b = some o -> H' b = some o
theorem ay.refl (H : Hp) : ay H H := fun _ _ h => h
theorem ay.trans {H H1 H2 : Hp} (a : ay H H1) (b : ay H1 H2) : ay H H2 := fun c o h => b c o (a c o h)
theorem ay.free {H H' : Hp} (e : ay H H') {l : Addr} (h : H' l = Option.none) : H l = Option.none := by
  cases q : H l with
  | none => rfl
  | some o =>
    rw [e l o q] at h;cases h
section
variable {κ : Type} [DecidableEq κ]
def iJ (kvs : List (κ × V)) (k : κ) : Option V := (kvs.find? fun kv => decide (kv.1 = k)).map (·.2)
def jJ (kvs : List (κ × V)) (k : κ) (v : V) : List (κ × V) :=
  if (kvs.any fun kv => decide (kv.1 = k)) = true then kvs.map (fun kv => if kv.1 = k then (kv.1, v) else kv) else kvs ++ [(k, v)]
theorem kY {p : κ × V} {r : List (κ × V)} {k : κ} (e : p.1 = k) : iJ (p :: r) k = some p.2 := by simp [iJ, List.find?_cons, e]
theorem lP {p : κ × V} {r : List (κ × V)} {k : κ} (e : ¬ p.1 = k) : iJ (p :: r) k = iJ r k := by simp [iJ, List.find?_cons, e]
theorem pB (k : κ) : ∀ kvs : List (κ × V), (kvs.any fun kv => decide (kv.1 = k)) = (iJ kvs k).isSome
  | [] => rfl
  | p :: r => by
    rw [List.any_cons];by_cases e : p.1 = k
    · simp only [kY e, decide_eq_true e, Bool.true_or, Option.isSome_some]
    · rw [lP e, decide_eq_false e, Bool.false_or]; exact pB k r
theorem ku (kvs : List (κ × V)) (k : κ) (v : V) : (jJ kvs k v).length <= kvs.length + 1 := by
  unfold jJ;split
  · rw [List.length_map]; omega
  · rw [List.length_append, List.length_cons, List.length_nil]; omega
theorem lM.isSome_eq {o : Option V} {u : Option Value} (r : lM o u) : o.isSome = u.isSome := by
  cases o with
  | none => cases u with
    | none => rfl
    | some _ => exact (show False from r).elim
  | some _ => cases u with
    | none => exact (show False from r).elim
    | some _ => rfl
theorem KV.val {kvs : List (κ × V)} {vs : List (κ × Value)} (r : KV kvs vs) (k : κ) : lM (iJ kvs k) (valueAt vs k) := by
  unfold KV at r;induction r with
  | nil => exact True.intro
  | @cons p q ps qs h t ih =>
    obtain ⟨h1, h2⟩ := h;by_cases e : p.1 = k
    · have e' : q.1 = k := h1.symm.trans e;have b : valueAt (q :: qs) k = some q.2 := by simp [valueAt, List.find?_cons, e']
      rw [kY e, b]; exact h2
    · have e' : ¬ q.1 = k := fun z => e (h1.trans z)
      have b : valueAt (q :: qs) k = valueAt qs k := by simp [valueAt, List.find?_cons, e']
      rw [lP e, b]; exact ih
theorem KV.any {kvs : List (κ × V)} {vs : List (κ × Value)} (r : KV kvs vs) (k : κ) : (kvs.any fun kv => decide (kv.1 = k)) = vs.any fun kv => decide (kv.1 = k) := by
  unfold KV at r;induction r with
  | nil => rfl
  | cons h t ih => rw [List.any_cons, List.any_cons, ih, h.1]
theorem KV.repl {kvs : List (κ × V)} {vs : List (κ × Value)} (r : KV kvs vs) (k : κ) {y : V} {u : Value} (ry : bx y u) :
    KV (kvs.map fun kv => if kv.1 = k then (kv.1, y) else kv) (vs.map fun kv => if kv.1 = k then (kv.1, u) else kv) := by
  unfold KV at r ⊢;induction r with
  | nil => exact .nil
  | @cons p q ps qs h t ih =>
    rw [List.map_cons, List.map_cons];refine .cons ?_ ih;obtain ⟨h1, h2⟩ := h;by_cases e : p.1 = k
    · rw [if_pos e, if_pos (h1.symm.trans e)]; exact ⟨h1, ry⟩
    · rw [if_neg e, if_neg (fun z => e (h1.trans z))]; exact ⟨h1, h2⟩
theorem KV.put {kvs : List (κ × V)} {vs : List (κ × Value)} (r : KV kvs vs) (k : κ) {y : V} {u : Value} (ry : bx y u) : KV (jJ kvs k y) (stored vs k u) := by
  unfold jJ stored;rw [r.any k];by_cases e : (vs.any fun kv => decide (kv.1 = k)) = true
  · rw [if_pos e, if_pos e]; exact r.repl k ry
  · rw [if_neg e, if_neg e]; exact Paired.snoc r ⟨rfl, ry⟩
theorem KV.keys {kvs : List (κ × V)} {vs : List (κ × Value)} (r : KV kvs vs) : kvs.map (·.1) = vs.map (·.1) := by
  unfold KV at r;induction r with
  | nil => rfl
  | cons h t ih => rw [List.map_cons, List.map_cons, ih, h.1]
theorem KV.length {kvs : List (κ × V)} {vs : List (κ × Value)} (r : KV kvs vs) : kvs.length = vs.length := Paired.length r
end
theorem pI {P : Program} {w : World} {k : cg} {u : Value} (r : bx (kV k) u) : (cw P w).is k u = true := by
  cases k with
  | inl i => obtain ⟨t, e⟩ := (show ∃ t, u = Value.int i t from r); subst e; exact oM P w i t
  | inr x => obtain ⟨t, e⟩ := (show ∃ t, u = Value.str x t from r); subst e; exact pr P w x t
theorem mU {P : Program} {w : World} : ∀ {ks : List cg} {us : List Value}, bq (ks.map kV) us -> ItemsAre (cw P w) ks us
  | [], _, r => by rw [List.map_nil] at r; cases r; exact .nil
  | k :: ks, _, r => by
    rw [List.map_cons] at r;cases r with
    | cons h t => exact .cons (pI h) (mU t)
abbrev KT (H : Hp) : List (List cg × V) -> List (List cg × Addr × Value) -> Prop := Paired fun p q => p.1 = q.1 /\ H q.2.1 = some (.tup (p.1.map kV)) /\ bx p.2 q.2.2
theorem KT.val {H : Hp} {kvs : List (List cg × V)} {xs : List (List cg × Addr × Value)} (r : KT H kvs xs) (k : List cg) : lM (iJ kvs k) ((atKey xs k).map (·.2)) := by
  induction r with
  | nil => exact True.intro
  | @cons p q ps qs h t ih =>
    obtain ⟨h1, _, h2⟩ := h;by_cases e : p.1 = k
    · have e' : q.1 = k := h1.symm.trans e;have b : atKey (q :: qs) k = some q.2 := by simp [atKey, List.find?_cons, e']
      rw [kY e, b]; exact h2
    · have e' : ¬ q.1 = k := fun z => e (h1.trans z)
      have b : atKey (q :: qs) k = atKey qs k := by simp [atKey, List.find?_cons, e']
      rw [lP e, b]; exact ih
theorem KT.repl {H : Hp} {kvs : List (List cg × V)} {xs : List (List cg × Addr × Value)} (r : KT H kvs xs) (k : List cg) {y : V} {u : Value} (ry : bx y u) :
    KT H (kvs.map fun kv => if kv.1 = k then (kv.1, y) else kv) (xs.map (putAt k u)) := by
  induction r with
  | nil => exact .nil
  | @cons p q ps qs h t ih =>
    rw [List.map_cons, List.map_cons];refine .cons ?_ ih;obtain ⟨h1, h2, h3⟩ := h;unfold putAt;by_cases e : p.1 = k
    · rw [if_pos e, if_pos (h1.symm.trans e)]; exact ⟨h1, h2, ry⟩
    · rw [if_neg e, if_neg (fun z => e (h1.trans z))]; exact ⟨h1, h2, h3⟩
theorem KT.put {H : Hp} {kvs : List (List cg × V)} {xs : List (List cg × Addr × Value)} (r : KT H kvs xs) (k : List cg) {b : Addr} {y : V} {u : Value} (hb : H b = some (.tup (k.map kV))) (ry : bx y u) :
    KT H (jJ kvs k y) (storedH xs k b u) := by
  have e : (kvs.any fun kv => decide (kv.1 = k)) = (atKey xs k).isSome := by
    rw [pB, (r.val k).isSome_eq, Option.isSome_map]
  unfold jJ storedH;rw [e];by_cases q : (atKey xs k).isSome = true
  · rw [if_pos q, if_pos q]; exact r.repl k ry
  · rw [if_neg q, if_neg q]; exact Paired.snoc r ⟨rfl, hb, ry⟩
theorem KT.keeps {H H' : Hp} {kvs : List (List cg × V)} {xs : List (List cg × Addr × Value)} (r : KT H kvs xs) (ht : ∀ b ys, H b = some (.tup ys) -> H' b = some (.tup ys)) : KT H' kvs xs :=
  Paired.mapP r fun _ _ z => ⟨z.1, ht _ _ z.2.1, z.2.2⟩
section
variable {P : Program} {w : World} {H : Hp} {h : Heap} {a : Addr}
theorem wK {u : HO} (ok : fH P w H h) (e : Rd H a u) : bE P w H h a u := e.ok ok
theorem lW {kvs : List (cg × V)} (ok : fH P w H h) (e : Rd H a (.dK kvs)) : kvs.length <= sizeLine /\ (a == sysModules) = false /\ ∃ vs, KV kvs vs /\ h.DictOf (cw P w) a vs :=
  show bE P w H h a (.dK kvs) from wK ok e
theorem yN {kvs : List (cg × V)} (ok : fH P w H h) (e : H a = some (.dK kvs)) : kvs.length <= sizeLine /\ (a == sysModules) = false /\ ∃ vs, KV kvs vs /\ h.DictOf (cw P w) a vs := lW ok (.inl e)
theorem l5 {ks : List cg} (ok : fH P w H h) (e : H a = some (.tup (ks.map kV))) : (tupleKind (cw P w)).is h ks a := by
  obtain ⟨_, its, r, o, h1, h2, n, h3⟩ := (show bE P w H h a (.tup (ks.map kV)) from ok a _ e)
  exact ⟨o, its.toArray, n, h1, h2, h3, by simpa using mU r⟩
theorem o2 {kvs : List (List cg × V)} (ok : fH P w H h) (e : Rd H a (.dT kvs)) : kvs.length <= sizeLine /\ (a == sysModules) = false /\
    ∃ xs, KT H kvs xs /\ h.DictOfH (tupleKind (cw P w)) a xs := by
  obtain ⟨z, y, xs, r, o, es, ep, h1, h2, h3, h4, h5⟩ := (show bE P w H h a (.dT kvs) from wK ok e)
  refine ⟨z, y, xs, r, o, es, ep, h1, h2, h3, h4, fun x hx => ?_, h5⟩;have all : ∀ {l : List (List cg × V)} {m : List (List cg × Addr × Value)}, KT H l m -> ∀ x ∈ m, (tupleKind (cw P w)).is h x.1 x.2.1 := by
    intro l m q;induction q with
    | nil => intro x hx; exact nomatch hx
    | @cons p q ps qs hq t ih =>
      intro x hx;rcases List.mem_cons.mp hx with e | hx
      · subst e;exact l5 ok (by rw [<- hq.1]; exact hq.2.1)
      · exact ih x hx
  exact all r x hx
theorem zp {kvs : List (List cg × V)} (ok : fH P w H h) (e : H a = some (.dT kvs)) : kvs.length <= sizeLine /\ (a == sysModules) = false /\
    ∃ xs, KT H kvs xs /\ h.DictOfH (tupleKind (cw P w)) a xs := o2 ok (.inl e)
end
def lF (H : Hp) (a : Addr) (y : V) (r : Option V) : Prop :=
  (∃ kvs k, Rd H a (.dK kvs) /\ y = kV k /\ r = iJ kvs k) \/ ∃ kvs k b, Rd H a (.dT kvs) /\ y = .ref b /\ H b = some (.tup (k.map kV)) /\ r = iJ kvs k
def pP (H : Hp) (a : Addr) (y v : V) (H' : Hp) : Prop :=
  (∃ kvs k, H a = some (.dK kvs) /\ y = kV k /\ kvs.length < sizeLine /\ H' = cW H a (.dK (jJ kvs k v))) \/
  ∃ kvs k b, H a = some (.dT kvs) /\ y = .ref b /\ H b = some (.tup (k.map kV)) /\ kvs.length < sizeLine /\ H' = cW H a (.dT (jJ kvs k v))
theorem lF.k {H : Hp} {a : Addr} {kvs : List (cg × V)} {k : cg} (e : H a = some (.dK kvs)) : lF H a (kV k) (iJ kvs k) := .inl ⟨kvs, k, .inl e, rfl, rfl⟩
theorem lF.t {H : Hp} {a b : Addr} {kvs : List (List cg × V)} {k : List cg} (e : H a = some (.dT kvs)) (eb : H b = some (.tup (k.map kV))) : lF H a (.ref b) (iJ kvs k) := .inr ⟨kvs, k, b, .inl e, rfl, eb, rfl⟩
theorem pP.k {H : Hp} {a : Addr} {kvs : List (cg × V)} {k : cg} {v : V} (e : H a = some (.dK kvs)) (hl : kvs.length < sizeLine) : pP H a (kV k) v (cW H a (.dK (jJ kvs k v))) := .inl ⟨kvs, k, e, rfl, hl, rfl⟩
theorem pP.t {H : Hp} {a b : Addr} {kvs : List (List cg × V)} {k : List cg} {v : V} (e : H a = some (.dT kvs)) (eb : H b = some (.tup (k.map kV))) (hl : kvs.length < sizeLine) :
    pP H a (.ref b) v (cW H a (.dT (jJ kvs k v))) := .inr ⟨kvs, k, b, e, rfl, eb, hl, rfl⟩
section
variable {X : Cx} {pins : List (Addr × Obj)} {σ : St} {H : Hp} {s : Shared} {a : Addr} {y v : V} {u r : Value} {o : Option V} {A : Around} {E : Value -> Shared -> Prop}
theorem aE.big (I : aE X pins σ H s) : sysModules < s.heap.objs.size := by
  have h : mainGlobals < s.heap.objs.size := (I.mod.glob.keeps I.bk).lt;exact Nat.lt_trans (by decide) h
theorem sw {Q : Value -> Shared -> Prop} (hu : A.units + 1 < cLine) (I : aE X pins σ H s) (g : lF H a y (some v)) (ry : bx y u) (h : ∀ w' s', aE X pins σ H s' -> bx v w' -> Q w' s') :
    wpAny (model X.prog X.w) A (getItem (.ref a) u) Q E s := by
  rcases g with ⟨kvs, k, e, ey, l⟩ | ⟨kvs, k, b, e, ey, eb, l⟩
  · subst ey;obtain ⟨z, hd, vs, rel, dd⟩ := lW I.hok e;obtain ⟨w', hw, rw'⟩ := lM.some_of (v := v) (o := valueAt vs k) (by rw [l]; exact rel.val k);exact wpAny_getItem_of (pI ry) dd.mapOf hw (h w' _ (I.tok _) rw')
  · subst ey;cases (show u = Value.ref b from ry);obtain ⟨z, hd, xs, rel, dd⟩ := o2 I.hok e;obtain ⟨w', hw, rw'⟩ := lM.some_of (v := v) (o := (atKey xs k).map (·.2)) (by rw [l]; exact rel.val k);obtain ⟨p, hp, hp2⟩ := Option.map_eq_some_iff.mp hw;refine wpAny_getItem_heap (tupleKind_room_in1 hu) (l5 I.hok eb) dd hp ?_;rw [hp2];exact h w' _ (I.tok _) rw'
theorem AF {Q : Value -> Shared -> Prop} (hu : A.units + 1 < cLine) (I : aE X pins σ H s) (g : lF H a y o) (ry : bx y u) (h : ∀ s', aE X pins σ H s' -> Q (.bool o.isSome) s') :
    wpAny (model X.prog X.w) A (compareOp .In u (.ref a)) Q E s := by
  rcases g with ⟨kvs, k, e, ey, l⟩ | ⟨kvs, k, b, e, ey, eb, l⟩
  · subst ey;obtain ⟨z, hd, vs, rel, dd⟩ := lW I.hok e;refine wpAny_in_of (pI ry) hd dd.mapOf ?_;rw [<- (rel.val k).isSome_eq, <- l];exact h _ (I.tok _)
  · subst ey;cases (show u = Value.ref b from ry);obtain ⟨z, hd, xs, rel, dd⟩ := o2 I.hok e;refine wpAny_in_heap (tupleKind_room_in1 hu) (l5 I.hok eb) hd dd ?_;have q := (rel.val k).isSome_eq;rw [Option.isSome_map] at q;rw [<- q, <- l];exact h _ (I.tok _)
theorem vp {Q : Value -> Shared -> Prop} (hu : A.units + 1 < cLine) (I : aE X pins σ H s) (g : lF H a y o) (ry : bx y u) (h : ∀ s', aE X pins σ H s' -> Q (.bool (!o.isSome)) s') :
    wpAny (model X.prog X.w) A (compareOp .NotIn u (.ref a)) Q E s := by
  rcases g with ⟨kvs, k, e, ey, l⟩ | ⟨kvs, k, b, e, ey, eb, l⟩
  · subst ey;obtain ⟨z, hd, vs, rel, dd⟩ := lW I.hok e;refine wpAny_notIn_of (pI ry) hd dd.mapOf ?_;rw [<- (rel.val k).isSome_eq, <- l];exact h _ (I.tok _)
  · subst ey;cases (show u = Value.ref b from ry);obtain ⟨z, hd, xs, rel, dd⟩ := o2 I.hok e;refine wpAny_notIn_heap (tupleKind_room_in1 hu) (l5 I.hok eb) hd dd ?_;have q := (rel.val k).isSome_eq;rw [Option.isSome_map] at q;rw [<- q, <- l];exact h _ (I.tok _)
theorem rK {h' : Heap} {t' : Nat} {ob : HO} (I : aE X pins σ H s) (mu : zk (H a)) (hs : Heap.SameBut a s.heap h') (he : ∃ q, h'.get? a = some q) (new : bE X.prog X.w (cW H a ob) h' a ob) :
    aE X pins σ (cW H a ob) { s with heap := h', toks := t' } :=
  I.write (x := a) (e := a) mu (.inl rfl) (fun b q hb z => (hs.2 b hb).trans z) he new
theorem xz {P : Program} {w : World} {H' : Hp} {h' : Heap} {kvs : List (cg × V)} {vs : List (cg × Value)} (z : kvs.length <= sizeLine) (hd : (a == sysModules) = false) (rel : KV kvs vs) (dd : h'.DictOf (cw P w) a vs) :
    bE P w H' h' a (.dK kvs) := ⟨z, hd, vs, rel, dd⟩
theorem tu {H' : Hp} {Q : Unit -> Shared -> Prop} (hu : A.units + 1 < cLine) (I : aE X pins σ H s) (g : pP H a y v H') (ry : bx y u) (rv : bx v r) (h : ∀ s', aE X pins σ H' s' -> Q () s') :
    wpAny (model X.prog X.w) A (setItem (.ref a) u r) Q E s := by
  rcases g with ⟨kvs, k, e, ey, l, eH⟩ | ⟨kvs, k, b, e, ey, eb, l, eH⟩
  · subst ey eH;obtain ⟨z, hd, vs, rel, dd⟩ := yN I.hok e;have hz : vs.length <= sizeLine := by rw [<- rel.length]; exact z
    have hl : (jJ kvs k v).length <= sizeLine := by have := ku kvs k v; omega
    refine wpAny_setItem_pairs (hsz := hz) (pI ry) dd fun h' dd' hs => h _ ?_
    have he : ∃ q, h'.get? a = some q := let ⟨q, _, _, hq, _⟩ := dd'; ⟨q, hq⟩
    exact rK I (by rw [e]; exact True.intro) hs he (xz hl hd (rel.put k rv) dd')
  · subst ey eH;cases (show u = Value.ref b from ry);obtain ⟨z, hd, xs, rel, dd⟩ := zp I.hok e;have hz : xs.length <= sizeLine := by rw [<- Paired.length rel]; exact z
    have hl : (jJ kvs k v).length <= sizeLine := by have := ku kvs k v; omega
    refine wpAny_setItem_heap (hsz := hz) (tupleKind_room_in1 hu) (l5 I.hok eb) dd fun h' dd' hs => h _ ?_
    obtain ⟨q, es, ep, hq, h2, h3, h4, _, h5⟩ := dd';refine rK I (by rw [e]; exact True.intro) hs ⟨q, hq⟩ ⟨hl, hd, _, (rel.put k eb rv).keeps fun c ys ec => ?_, q, es, ep, hq, h2, h3, h4, h5⟩;rw [aI (zm ec e (fun z => nomatch z))];exact ec
end
section
variable {X : Cx} {pins : List (Addr × Obj)} {σ : St} {H : Hp} {s : Shared} {a : Addr} {kvs : List (cg × V)} {k : cg} {u : Value} {A : Around} {E : Value -> Shared -> Prop}
theorem yH {Q : Value -> Shared -> Prop} (I : aE X pins σ H s) (e : Rd H a (.dK kvs)) (h : ∀ t s', aE X pins σ H s' -> Q (.int kvs.length t) s') : wpAny (model X.prog X.w) A (call (.builtin "len") [.ref a]) Q E s := by
  obtain ⟨z, hd, vs, rel, dd⟩ := lW I.hok e;refine call_len_dict hd dd (by rw [<- rel.length]; rw [sizeLine_eq] at z; omega) ?_;rw [<- rel.length];exact h _ _ (I.tok _)
end
theorem oO {X : Cx} {pins : List (Addr × Obj)} {σ : St} {H : Hp} {s : Shared} {a : Addr} {y : V} {o : Option V} (I : aE X pins σ H s) (g : lF H a y o) : s.TypeIs (.ref a) "dict" := by
  rcases g with ⟨kvs, k, e, _, _⟩ | ⟨kvs, k, b, e, _, _, _⟩
  · obtain ⟨_, _, vs, _, dd⟩ := lW I.hok e;exact dd.typeIs
  · obtain ⟨_, _, xs, _, dd⟩ := o2 I.hok e;exact dd.typeIs
def zJ (td ty tv : TE) : TS := fun D σ H => tv σ H fun v H1 => td σ H1 fun x H2 => ty σ H2 fun y H3 => ∃ a H4, x = .ref a /\ pP H3 a y v H4 /\ D.nx σ H4
section
variable {X : Cx} {o i e value : Expr} {pos pos' tpos : Pos} {td ty tv : TE}
theorem ve (hu : X.A.units + 1 < cLine) (ho : PE X o td) (hi : PE X i ty) (hv : PE X value tv) (hs : swapsWith value (some (.Subscript o i pos')) pos.line X.env = pure false) :
    PS X (.Assign [.Subscript o i pos'] value pos) (zJ td ty tv) := by
  intro pins s σ H D I h;refine wpAny_Assign_Subscript (cV (hv pins s σ H _ I h) fun r s1 ⟨v, H1, I1, rv, q1⟩ => cV (ho pins s1 σ H1 _ I1 q1) fun u s2 ⟨x, H2, I2, rx, q2⟩ => cV (hi pins s2 σ H2 _ I2 q2) fun iv s3 ⟨y, H3, I3, ry, a, H4, ex, g, q3⟩ => ?_) hs;subst ex;obtain rfl : u = Value.ref a := rx;exact tu hu I3 g ry rv fun s4 I4 => ⟨σ, H4, I4, q3⟩
end
theorem uY {P : Program} {w : World} {H : Hp} (h : Heap) (hb : sysModules < h.objs.size) : bE P w H (h.push { cls := .type "dict", data := .dict #[] }) h.objs.size (.dK []) :=
  ⟨Nat.zero_le _, beq_eq_false_iff_ne.mpr (Ne.symm (Nat.ne_of_lt hb)), [], .nil, Heap.DictOf.new h⟩
def xL : TE := fun _ H Q => ∀ p, H p = none -> Q (.ref p) (cW H p (.dK []))
section
variable {X : Cx} {pos : Pos}
theorem t9 : PE X (.Dict [] [] pos) xL := fun pins s σ H Q I h =>
  wpAny_Dict_empty ⟨.ref s.heap.objs.size, _, I.laid (a := s.heap.objs.size) (o := .dK []) (t' := s.toks) (fun _ _ q => Heap.get?_push_of_some _ q) (Nat.le_refl _) (uY s.heap I.big), rfl, h _ (I.hok.fresh (Nat.le_refl _))⟩
end
end L2
set_option maxHeartbeats 4000000
namespace D2
open PySem PySem.Spec PyProof.Rows L2
def oU (base : Heap) (l : List Env) (e : Addr) (cls a0 : Value) (h : Heap) : Prop := base.StaysIn h /\ base.get? e = none /\ h.FunFrames base l /\ ∃ fl, h.TracedAtW base e cls a0 fl
theorem oU.of {base h : Heap} {l : List Env} {e : Addr} {cls a0 : Value} (x : Heap.FlyingW base l e cls a0 h) : oU base l e cls a0 h := ⟨x.1, x.2.1, x.2.2.1, .none, x.2.2.2⟩
section
variable {M : Model} {A : Around} {E : Value -> Shared -> Prop} {s : Shared} {base : Heap} {l : List Env} {env : Env} {outer : List Env} {L e : Addr} {cls a0 : Value} {Q : Unit -> Shared -> Prop}
theorem wa {h : Heap} : h.UpToSlots h := fun b o hb _ => ⟨o.slots, hb⟩
theorem oY (hfr : A.frames = some (env :: outer)) (hf : env.frame = some L) (t : oU base (env :: outer) e cls a0 s.heap)
    (hQ : ∀ h', oU base (env :: outer) e cls a0 h' -> s.heap.UpToSlots h' -> Q () { s with heap := h' }) : wpAny M A (noteFrame (.ref e) env) Q E s := by
  have t' := t;obtain ⟨hkb, hen, hl, fl, oe, vs, T, oT, ts, he, ⟨hcls, h0⟩, hd, h1, hnT, hTe, hT, hdT, h3⟩ := t;subst hcls;unfold noteFrame;simp only [hf];refine wpAny_bind (wpAny_field he hd h1 ?_);rw [if_pos (show (Value.ref T != Value.none) = true from by simp)];refine wpAny_bind (wpAny_field hT hdT h3 ?_);by_cases hfl : (fl == rawInt L) = true
  · rw [if_pos hfl];exact wpAny_pure (hQ s.heap t' wa)
  · rw [if_neg hfl];refine wpAny_bind (wpAny_setField hT hdT (Array.getElem?_eq_some_iff.mp h3).1 ?_);have other : ∀ b, b ≠ T -> (s.heap.update T (Obj.mapFields (·.setIfInBounds 3 Value.none))).get? b = s.heap.get? b := fun b hb => Heap.get?_update_other _ _ (Ne.symm hb)
    have noRecord : ∀ b o, s.heap.get? b = some o -> (∀ vs, o.data ≠ .fields vs) -> b ≠ T := fun b o hb hnf q => by
      rw [q, hT] at hb; injection hb with hb; subst hb; exact hnf ts hdT
    refine wpAny_entryW hfr (hl.of_keeps fun b o hb hnf => ⟨o, (other b (noRecord b o hb hnf)).trans hb, rfl⟩) hf ((other e (Ne.symm hTe)).trans he)
      (fun b o hbo => (other b fun q => by rw [q, hnT] at hbo; cases hbo).trans (hkb b o hbo)) hen hd (Array.getElem?_eq_some_iff.mp h1).1 h0
      fun h' ⟨x1, x2, x3, x4⟩ => hQ h' ⟨x1, hen, x2, _, x3⟩ fun b o hb hnf => x4 b o ((other b (noRecord b o hb hnf)).trans hb) hnf
theorem qy (f : Option Addr) (t : oU base l e cls a0 s.heap) (hQ : ∀ h', oU base l e cls a0 h' -> s.heap.UpToSlots h' -> Q () { s with heap := h' }) : wpAny M A (setFlight (.ref e) f) Q E s := by
  obtain ⟨hkb, hen, hl, fl, oe, vs, T, oT, ts, he, hcls, hd, h1, hnT, hTe, hT, hdT, h3⟩ := t;have hsz3 : 3 < ts.size := (Array.getElem?_eq_some_iff.mp h3).1;have other : ∀ b, b ≠ T -> (s.heap.update T (Obj.mapFields (·.setIfInBounds 3 (f.elim Value.none fun f => rawInt f)))).get? b = s.heap.get? b :=
    fun b hb => Heap.get?_update_other _ _ (Ne.symm hb)
  have noRecord : ∀ b o, s.heap.get? b = some o -> (∀ vs, o.data ≠ .fields vs) -> b ≠ T := fun b o hb hnf q => by
    rw [q, hT] at hb; injection hb with hb; subst hb; exact hnf ts hdT
  unfold setFlight;refine wpAny_bind (wpAny_field he hd h1 ?_);rw [if_pos (show (Value.ref T != Value.none) = true from by simp)];refine wpAny_setField hT hdT hsz3 (hQ _ ⟨fun b o hbo => (other b fun q => by rw [q, hnT] at hbo; cases hbo).trans (hkb b o hbo), hen,
    hl.of_keeps fun b o hb hnf => ⟨o, (other b (noRecord b o hb hnf)).trans hb, rfl⟩, (f.elim Value.none fun f => rawInt f), ?_⟩ fun b o hb hnf => ⟨o.slots, (other b (noRecord b o hb hnf)).trans hb⟩)
  exact ⟨oe, vs, T, _, _, (other e (Ne.symm hTe)).trans he, hcls, hd, h1, hnT, hTe, Heap.get?_update_self _ hT (Obj.isFreed_of_fields (Obj.data_mapFields hdT _)), Obj.data_mapFields hdT _, by simp [hsz3]⟩
theorem uh (t : oU base l e cls a0 s.heap) (hQ : ∀ h', Heap.FlyingW base l e cls a0 h' -> s.heap.UpToSlots h' -> Q () { s with heap := h' }) : wpAny M A (setFlight (.ref e) none) Q E s := by
  obtain ⟨hkb, hen, hl, fl, ht⟩ := t;exact wpAny_setFlight_noneW hkb hl ht fun h' k1 k2 k3 k4 => hQ h' ⟨k1, hen, k2, k3⟩ fun b o hb hn => ⟨o.slots, k4 b o hb hn⟩
theorem sK (hfr : A.frames = some (env :: outer)) (hf : env.frame = some L) (t : oU base (env :: outer) e cls a0 s.heap)
    (hQ : ∀ h', Heap.FlyingW base outer e cls a0 h' -> s.heap.UpToSlots h' -> Q () { s with heap := h' }) : wpAny M A (leaving env (.ref e)) Q E s := by
  unfold leaving;refine wpAny_bind (oY hfr hf t fun h1 t1 u1 => ?_);refine uh (s := { s with heap := h1 }) t1 fun h2 t2 u2 => ?_
  obtain ⟨k1, k2, ⟨_, _, k3⟩, k4⟩ := t2;exact hQ h2 ⟨k1, k2, k3, k4⟩ (u1.trans u2)
theorem uG {α : Type} {k : Value -> Sem α} {Q : α -> Shared -> Prop} (t : oU base l e cls a0 s.heap) (hQ : ∀ T, wpAny M A (k (.ref T)) Q E s) : wpAny M A (field (.ref e) 1 >>= k) Q E s := by
  obtain ⟨hkb, hen, hl, fl, oe, vs, T, oT, ts, he, hcls, hd, h1, r⟩ := t;exact wpAny_bind (wpAny_field he hd h1 (hQ T))
theorem uP {α : Type} {what : String} {Q : α -> Shared -> Prop} (t : oU base l e cls a0 s.heap) (hQ : ∀ h', oU base l e cls a0 h' -> s.heap.UpToSlots h' -> E (.ref e) { s with heap := h' }) : wpAny M A (PySem.passOn what (.ref e) env : Sem α) Q E s := by
  unfold PySem.passOn;refine uG t fun T => ?_
  rw [if_neg (show ¬ ((Value.ref T == Value.none) = true) from by simp)];refine wpAny_bind (qy _ t fun h' t' u => ?_);exact wpAny_throw (hQ h' t' u)
theorem oU.first {h : Heap} (x : oU base l e cls a0 h) : ∃ oe vs, h.get? e = some oe /\ oe.cls = cls /\ oe.data = .fields vs /\ vs[0]? = some a0 :=
  let ⟨_, _, _, _, oe, vs, _, _, _, he, hc, hd, _⟩ := x; ⟨oe, vs, he, hc.1, hd, hc.2⟩
end
abbrev St := L2.St
abbrev aE := @L2.aE
def eB : cg -> PyData
  | .inl i => .int i
  | .inr x => .str x
mutual
def Rp (H : Hp) : PyData -> V -> Prop
  | .none, v => v = .non
  | .bool b, v => v = .bl b
  | .int i, v => v = .int i
  | .str x, v => v = .str x
  | .tuple ds, v => ∃ a vs, v = .ref a /\ H a = some (.tup vs) /\ bo H ds vs
  | .list ds, v => ∃ a o vs, v = .ref a /\ H a = some (.frz o (.lst vs)) /\ bo H ds vs
  | .dict kvs, v => (∃ a o ks, v = .ref a /\ H a = some (.frz o (.dK ks)) /\ de H kvs ks) \/ ∃ a o C dx fs, v = .ref a /\ H a = some (.frz o (.ins C dx fs)) /\ u8 H C fs kvs
def bo (H : Hp) : List PyData -> List V -> Prop
  | [], vs => vs = []
  | d :: ds, vs => ∃ v r, vs = v :: r /\ Rp H d v /\ bo H ds r
def de (H : Hp) : List (PyData × PyData) -> List (cg × V) -> Prop
  | [], ks => ks = []
  | kd :: kvs, ks => ∃ x v r, ks = (x, v) :: r /\ wm H kd x v /\ de H kvs r
def wm (H : Hp) : PyData × PyData -> cg -> V -> Prop
  | (k, d), x, v => k = eB x /\ Rp H d v
def u8 (H : Hp) (C : Addr) (fs : List (Str × V)) : List (PyData × PyData) -> Prop
  | [] => False
  | kd :: kvs => kd = (.none, .int C) /\ wA H kvs fs
def wA (H : Hp) : List (PyData × PyData) -> List (Str × V) -> Prop
  | [], fs => fs = []
  | kd :: kvs, fs => ∃ x v r, fs = (x, v) :: r /\ yB H kd x v /\ wA H kvs r
def yB (H : Hp) : PyData × PyData -> Str -> V -> Prop
  | (k, d), x, v => k = .str x /\ Rp H d v
end
def mJ : List (PyData × PyData) -> Bool
  | (.none, _) :: _ => true
  | _ => false
def Kp (H H' : Hp) : Prop := (∀ b xs, H b = some (.tup xs) -> H' b = some (.tup xs)) /\ ∀ b o u, H b = some (.frz o u) -> H' b = some (.frz o u)
theorem Kp.trans {H H1 H2 : Hp} (a : Kp H H1) (b : Kp H1 H2) : Kp H H2 := ⟨fun c xs h => b.1 c xs (a.1 c xs h), fun c o u h => b.2 c o u (a.2 c o u h)⟩
theorem Kp.of {H H' : Hp} (s : ay H H') : Kp H H' := ⟨fun b xs h => s b _ h, fun b o u h => s b _ h⟩
mutual
theorem Rp.kp {H H' : Hp} (k : Kp H H') : ∀ (d : PyData) (v : V), Rp H d v -> Rp H' d v
  | .none, v, h => by simpa only [Rp] using h
  | .bool b, v, h => by simpa only [Rp] using h
  | .int i, v, h => by simpa only [Rp] using h
  | .str x, v, h => by simpa only [Rp] using h
  | .tuple ds, v, h => by
    simp only [Rp] at h ⊢;obtain ⟨a, vs, e, ha, r⟩ := h;exact ⟨a, vs, e, k.1 _ _ ha, bo.kp k ds vs r⟩
  | .list ds, v, h => by
    simp only [Rp] at h ⊢;obtain ⟨a, o, vs, e, ha, r⟩ := h;exact ⟨a, o, vs, e, k.2 _ _ _ ha, bo.kp k ds vs r⟩
  | .dict kvs, v, h => by
    simp only [Rp] at h ⊢;rcases h with ⟨a, o, ks, e, ha, r⟩ | ⟨a, o, C, dx, fs, e, ha, r⟩
    · exact .inl ⟨a, o, ks, e, k.2 _ _ _ ha, de.kp k kvs ks r⟩
    · exact .inr ⟨a, o, C, dx, fs, e, k.2 _ _ _ ha, u8.kp k C fs kvs r⟩
theorem bo.kp {H H' : Hp} (k : Kp H H') : ∀ (ds : List PyData) (vs : List V), bo H ds vs -> bo H' ds vs
  | [], vs, h => by simpa only [bo] using h
  | d :: ds, vs, h => by
    simp only [bo] at h ⊢;obtain ⟨v, r, e, h1, h2⟩ := h;exact ⟨v, r, e, Rp.kp k d v h1, bo.kp k ds r h2⟩
theorem de.kp {H H' : Hp} (k : Kp H H') : ∀ (kvs : List (PyData × PyData)) (ks : List (cg × V)), de H kvs ks -> de H' kvs ks
  | [], ks, h => by simpa only [de] using h
  | kd :: kvs, ks, h => by
    simp only [de] at h ⊢;obtain ⟨x, v, r, e, h1, h2⟩ := h;exact ⟨x, v, r, e, wm.kp k kd x v h1, de.kp k kvs r h2⟩
theorem wm.kp {H H' : Hp} (k : Kp H H') : ∀ (kd : PyData × PyData) (x : cg) (v : V), wm H kd x v -> wm H' kd x v
  | (c, d), x, v, h => by
    simp only [wm] at h ⊢;exact ⟨h.1, Rp.kp k d v h.2⟩
theorem u8.kp {H H' : Hp} (k : Kp H H') (C : Addr) (fs : List (Str × V)) : ∀ (kvs : List (PyData × PyData)), u8 H C fs kvs -> u8 H' C fs kvs
  | [], h => by simpa only [u8] using h
  | kd :: kvs, h => by
    simp only [u8] at h ⊢;exact ⟨h.1, wA.kp k kvs fs h.2⟩
theorem wA.kp {H H' : Hp} (k : Kp H H') : ∀ (kvs : List (PyData × PyData)) (fs : List (Str × V)), wA H kvs fs -> wA H' kvs fs
  | [], fs, h => by simpa only [wA] using h
  | kd :: kvs, fs, h => by
    simp only [wA] at h ⊢;obtain ⟨x, v, r, e, h1, h2⟩ := h;exact ⟨x, v, r, e, yB.kp k kd x v h1, wA.kp k kvs r h2⟩
theorem yB.kp {H H' : Hp} (k : Kp H H') : ∀ (kd : PyData × PyData) (x : Str) (v : V), yB H kd x v -> yB H' kd x v
  | (c, d), x, v, h => by
    simp only [yB] at h ⊢;exact ⟨h.1, Rp.kp k d v h.2⟩
end
theorem Rp.mono {H H' : Hp} {d : PyData} {v : V} (h : Rp H d v) (s : ay H H') : Rp H' d v := Rp.kp (Kp.of s) d v h
theorem bo.mono {H H' : Hp} {ds : List PyData} {vs : List V} (h : bo H ds vs) (s : ay H H') : bo H' ds vs := bo.kp (Kp.of s) ds vs h
def iI (H : Hp) : PyData -> V -> Prop
  | .list ds, v => ∃ a vs, v = .ref a /\ H a = some (.lst vs) /\ bo H ds vs
  | .dict kvs, v => ∃ a ks, v = .ref a /\ H a = some (.dK ks) /\ de H kvs ks
  | _, _ => False
theorem iI.mono {H H' : Hp} {d : PyData} {v : V} (h : iI H d v) (s : ay H H') : iI H' d v := by
  cases d <;> simp only [iI] at h ⊢
  · obtain ⟨a, vs, e, ha, r⟩ := h;exact ⟨a, vs, e, s _ _ ha, bo.mono r s⟩
  · obtain ⟨a, vs, e, ha, r⟩ := h;exact ⟨a, vs, e, s _ _ ha, de.kp (Kp.of s) _ _ r⟩
def fJ (H : Hp) (d : PyData) (v : V) : Prop := Rp H d v \/ iI H d v
theorem fJ.mono {H H' : Hp} {d : PyData} {v : V} (h : fJ H d v) (s : ay H H') : fJ H' d v := h.elim (fun h => .inl (h.mono s)) fun h => .inr (h.mono s)
def yA (H H' : Hp) (d : PyData) (v : V) : Prop := iI H' d v /\ ∃ a, v = .ref a /\ H a = none
inductive bg where
  | non
  | val (d : PyData)
  | own (d : PyData)
  | exc (p : Addr)
abbrev aH := List bg
def io (H : Hp) : bg -> Option V -> Prop
  | .non, _ => True
  | .val d, o => ∃ v, o = some v /\ Rp H d v
  | .own d, o => ∃ v, o = some v /\ iI H d v
  | .exc p, o => o = some (.ref p)
def Sl (H : Hp) (σ : St) (ρ : aH) : Prop := σ.length = ρ.length /\ ∀ (i : Nat) (c : bg) (o : Option V), ρ[i]? = some c -> σ[i]? = some o -> io H c o
theorem io.mono {H H' : Hp} {c : bg} {o : Option V} (h : io H c o) (s : ay H H') : io H' c o := by
  cases c <;> simp only [io] at h ⊢
  · obtain ⟨v, e, h⟩ := h; exact ⟨v, e, h.mono s⟩
  · obtain ⟨v, e, h⟩ := h; exact ⟨v, e, h.mono s⟩
  · exact h
theorem Sl.mono {H H' : Hp} {σ : St} {ρ : aH} (h : Sl H σ ρ) (s : ay H H') : Sl H' σ ρ := ⟨h.1, fun i c o h1 h2 => (h.2 i c o h1 h2).mono s⟩
inductive R (α : Type) where
  | ok (a : α)
  | ex (c : Str)
  | no
def R.bind {α β : Type} : R α -> (α -> R β) -> R β
  | .ok a, f => f a
  | .ex c, _ => .ex c
  | .no, _ => .no
instance : Monad R where
  pure := .ok
  bind := R.bind
@[simp] theorem R.ok_bind {α β : Type} (a : α) (f : α -> R β) : (R.ok a >>= f) = f a := (rfl)
structure kw (P : Program) (w : World) (outer : List Env) (H : Hp) (s : Shared) (C : Addr) (H' : Hp) (e : Value) (s' : Shared) : Prop where
  os : s'.os = s.os
  bare : AllBare s'.gens
  same : ay H H'
  ex : ∃ (p : Addr) (a0 : Value) (B : Heap), e = .ref p /\ Heap.FlyingW B outer p (.ref C) a0 s'.heap /\ fH P w H' B /\ H' p = none /\ ∀ b o, s.heap.get? b = some o -> H b = none -> b ∉ jh outer -> B.get? b = some o /\ H' b = none
  slot : ∀ b o, s.heap.get? b = some o -> H b = none -> b ∈ jh outer -> (∃ sl, s'.heap.get? b = some { o with slots := sl }) /\ H' b = none
structure oa (P : Program) (w : World) (outer : List Env) (H : Hp) (s : Shared) (C : Addr) (H' : Hp) (e : Value) (s' : Shared) : Prop where
  os : s'.os = s.os
  bare : AllBare s'.gens
  same : ay H H'
  ex : ∃ (p : Addr) (a0 : Value) (B : Heap), e = .ref p /\ oU B outer p (.ref C) a0 s'.heap /\ fH P w H' B /\ H' p = none /\ ∀ b o, s.heap.get? b = some o -> H b = none -> b ∉ jh outer -> B.get? b = some o /\ H' b = none
  slot : ∀ b o, s.heap.get? b = some o -> H b = none -> b ∈ jh outer -> (∃ sl, s'.heap.get? b = some { o with slots := sl }) /\ H' b = none
theorem kw.hld {P : Program} {w : World} {outer : List Env} {H : Hp} {s : Shared} {C : Addr} {H' : Hp} {e : Value} {s' : Shared} (f : kw P w outer H s C H' e s') : oa P w outer H s C H' e s' :=
  ⟨f.os, f.bare, f.same, let ⟨p, a0, B, h1, h2, h3⟩ := f.ex; ⟨p, a0, B, h1, oU.of h2, h3⟩, f.slot⟩
def dc (P : Program) (w : World) (mg : Str -> Option Value) : tw := fun outer H s E e s' => ∃ n C H', mg n = some (.ref C) /\ kw P w outer H s C H' e s' /\ E (.str n 0) none H'
def EX (X : Cx) : XK := fun v _ H' => ∀ (n : Str) (C : Addr), v = .str n 0 -> X.mg n = some (.ref C) -> ∀ (pins : List (Addr × Obj)) (σ : St) (H : Hp) (s : Shared) (e : Value) (s' : Shared), aE X pins σ H s -> kw X.prog X.w X.stack H s C H' e s' -> X.xe e s'
theorem wj {X : Cx} : qI (dc X.prog X.w X.mg) X (EX X) := fun pins σ H s e s' I ⟨n, C, H', hm, f, q⟩ => q n C rfl hm pins σ H s e s' I f
def Xw (X : Cx) (c : Str) (H : Hp) : Prop := ∀ H1, ay H H1 -> ∀ (C : Addr), X.mg c = some (.ref C) -> ∀ (pins : List (Addr × Obj)) (σ : St) (Hc : Hp) (s : Shared) (e : Value) (s' : Shared), aE X pins σ Hc s -> oa X.prog X.w X.stack Hc s C H1 e s' -> X.xe e s'
theorem Xw.mono {X : Cx} {c : Str} {H H' : Hp} (h : Xw X c H) (s : ay H H') : Xw X c H' := fun H1 s1 => h H1 (s.trans s1)
theorem Xw.ex {X : Cx} {c : Str} {H : Hp} (h : Xw X c H) : ∀ H1, ay H H1 -> EX X (.str c 0) none H1 := fun H1 s1 n C en hm pins σ Hc s e s' I f => by
  have en' : c = n := by injection en
  subst en';exact h H1 s1 C hm pins σ Hc s e s' I f.hld
def yX (X : Cx) (c : Str) (Fm : Hp) : Prop := ∀ C, X.mg c = some (.ref C) -> ∀ (pins : List (Addr × Obj)) (σ : St) (H : Hp) (s : Shared), ay Fm H -> aE X pins σ H s -> ∀ (h' : Heap) (p : Addr) (vs : List Value), Heap.MadeExcOf s.heap h' p (.ref C) vs -> X.xe (.ref p) { s with heap := h' }
theorem yX.mono {X : Cx} {c : Str} {H H' : Hp} (h : yX X c H) (s : ay H H') : yX X c H' := fun C hm pins σ H1 s1 e => h C hm pins σ H1 s1 (s.trans e)
def qZ (X : Cx) (P : Hp -> Hp -> PyData -> V -> Prop) (r : R PyData) (H : Hp) (Q : VK) : Prop :=
  match r with
  | .ok d => ∀ v H', ay H H' -> P H H' d v -> Q v H'
  | .ex c => Xw X c H
  | .no => False
abbrev fO : Hp -> Hp -> PyData -> V -> Prop := fun _ H' d v => Rp H' d v
abbrev oy : Hp -> Hp -> PyData -> V -> Prop := fun _ H' d v => fJ H' d v
abbrev zU : Hp -> Hp -> PyData -> V -> Prop := fun H H' d v => Rp H' d v \/ yA H H' d v
abbrev Fe := aH -> R PyData
def gM (X : Cx) (P : Hp -> Hp -> PyData -> V -> Prop) (f : Fe) : TE := fun σ H Q => ∃ ρ, Sl H σ ρ /\ qZ X P (f ρ) H Q
def ah (X : Cx) (e : Expr) (f : Fe) : Prop := PE X e (gM X fO f)
structure Z.ah (X : Cx) (e : Expr) (f : Fe) : Prop where
  un : D2.ah X e f
def bh (X : Cx) (e : Expr) (f : Fe) : Prop := PE X e (gM X oy f)
structure Z.bh (X : Cx) (e : Expr) (f : Fe) : Prop where
  un : D2.bh X e f
def u7 (X : Cx) (e : Expr) (f : Fe) : Prop := PE X e (gM X zU f)
structure Z.u7 (X : Cx) (e : Expr) (f : Fe) : Prop where
  un : D2.u7 X e f
def eL (X : Cx) (e : Expr) (f : Fe) : Prop := PE X e (gM X yA f)
structure Z.eL (X : Cx) (e : Expr) (f : Fe) : Prop where
  un : D2.eL X e f
def RA (I : Hp -> PyData -> V -> Prop) (H : Hp) : List PyData -> List V -> Prop
  | [], vs => vs = []
  | d :: ds, vs => ∃ v r, vs = v :: r /\ I H d v /\ RA I H ds r
theorem lV {H : Hp} : ∀ {ds : List PyData} {vs : List V}, RA Rp H ds vs <-> bo H ds vs
  | [], vs => by simp only [RA, bo]
  | d :: ds, vs => by simp only [RA, bo, lV (ds := ds)]
def tT (X : Cx) (I : Hp -> PyData -> V -> Prop) (f : aH -> R (List PyData)) : TA := fun σ H Q => ∃ ρ, Sl H σ ρ /\ match f ρ with
  | .ok ds => ∀ vs H', ay H H' -> RA I H' ds vs -> Q vs H'
  | .ex c => Xw X c H
  | .no => False
def mh (X : Cx) (es : List Expr) (f : aH -> R (List PyData)) : Prop := PA X es (tT X Rp f)
structure Z.mh (X : Cx) (es : List Expr) (f : aH -> R (List PyData)) : Prop where
  un : D2.mh X es f
def w4 (X : Cx) (es : List Expr) (f : aH -> R (List PyData)) : Prop := PA X es (tT X fJ f)
def vG (X : Cx) (f : aH -> R Bool) : TT := fun σ H Q => ∃ ρ, Sl H σ ρ /\ match f ρ with
  | .ok b => ∀ H', ay H H' -> Q b H'
  | .ex c => Xw X c H
  | .no => False
def gU (X : Cx) (e : Expr) (f : aH -> R Bool) : Prop := PT X e (vG X f)
structure Z.gU (X : Cx) (e : Expr) (f : aH -> R Bool) : Prop where
  un : D2.gU X e f
def kx (X : Cx) (e : Expr) (f : aH -> R Bool) : Prop := PW X e (vG X f)
structure Z.kx (X : Cx) (e : Expr) (f : aH -> R Bool) : Prop where
  un : D2.kx X e f
theorem PE.imp {X : Cx} {e : Expr} {t t' : TE} (h : PE X e t) (i : ∀ σ H Q, t' σ H Q -> t σ H Q) : PE X e t' := fun pins s σ H Q I q => h pins s σ H Q I (i σ H Q q)
theorem PT.imp {X : Cx} {e : Expr} {t t' : TT} (h : PT X e t) (i : ∀ σ H Q, t' σ H Q -> t σ H Q) : PT X e t' := fun pins s σ H Q I q => h pins s σ H Q I (i σ H Q q)
theorem PW.imp {X : Cx} {e : Expr} {t t' : TT} (h : PW X e t) (i : ∀ σ H Q, t' σ H Q -> t σ H Q) : PW X e t' := fun wh pins s σ H Q I q => h wh pins s σ H Q I (i σ H Q q)
theorem PA.imp {X : Cx} {e : List Expr} {t t' : TA} (h : PA X e t) (i : ∀ σ H Q, t' σ H Q -> t σ H Q) : PA X e t' := fun pos pins s σ H Q I q => h pos pins s σ H Q I (i σ H Q q)
theorem gM.post {X : Cx} {P : Hp -> Hp -> PyData -> V -> Prop} {f : Fe} {σ : St} {H : Hp} {Q Q' : VK} (h : gM X P f σ H Q) (i : ∀ v H', Q v H' -> Q' v H') : gM X P f σ H Q' := by
  obtain ⟨ρ, sl, q⟩ := h;refine ⟨ρ, sl, ?_⟩;cases e : f ρ with
  | ok d => rw [e] at q; exact fun v H' s p => i _ _ (q v H' s p)
  | ex c => rw [e] at q; exact q
  | no => rw [e] at q; exact q
theorem vG.post {X : Cx} {f : aH -> R Bool} {σ : St} {H : Hp} {Q Q' : Bool -> Hp -> Prop} (h : vG X f σ H Q) (i : ∀ b H', Q b H' -> Q' b H') : vG X f σ H Q' := by
  obtain ⟨ρ, sl, q⟩ := h;refine ⟨ρ, sl, ?_⟩;cases e : f ρ with
  | ok d => rw [e] at q; exact fun H' s => i _ _ (q H' s)
  | ex c => rw [e] at q; exact q
  | no => rw [e] at q; exact q
theorem tT.post {X : Cx} {I : Hp -> PyData -> V -> Prop} {f : aH -> R (List PyData)} {σ : St} {H : Hp} {Q Q' : List V -> Hp -> Prop} (h : tT X I f σ H Q) (i : ∀ vs H', Q vs H' -> Q' vs H') : tT X I f σ H Q' := by
  obtain ⟨ρ, sl, q⟩ := h;refine ⟨ρ, sl, ?_⟩;cases e : f ρ with
  | ok d => rw [e] at q; exact fun vs H' s p => i _ _ (q vs H' s p)
  | ex c => rw [e] at q; exact q
  | no => rw [e] at q; exact q
theorem gM.weaken {X : Cx} {P P' : Hp -> Hp -> PyData -> V -> Prop} {f : Fe} (h : ∀ H H' d v, P H H' d v -> P' H H' d v) (σ : St) (H : Hp) (Q : VK) (q : gM X P' f σ H Q) : gM X P f σ H Q := by
  obtain ⟨ρ, sl, q⟩ := q;refine ⟨ρ, sl, ?_⟩;cases e : f ρ with
  | ok d => rw [e] at q; exact fun v H' s p => q v H' s (h _ _ _ _ p)
  | ex c => rw [e] at q; exact q
  | no => rw [e] at q; exact q
section
variable {X : Cx} {e : Expr} {f : Fe}
theorem ah.b (h : ah X e f) : bh X e f := PE.imp h (gM.weaken fun _ _ _ _ p => Or.inl p)
theorem Z.ah.b (h : Z.ah X e f) : Z.bh X e f :=
  ⟨D2.ah.b h.un⟩
theorem eL.b (h : eL X e f) : bh X e f := PE.imp h (gM.weaken fun _ _ _ _ p => Or.inr p.1)
theorem Z.eL.b (h : Z.eL X e f) : Z.bh X e f :=
  ⟨D2.eL.b h.un⟩
theorem eL.toF (h : eL X e f) : u7 X e f := PE.imp h (gM.weaken fun _ _ _ _ p => Or.inr p)
end
section
variable {X : Cx} {pins : List (Addr × Obj)} {σ : St} {H : Hp} {s : Shared} {a : Addr} {u : HO}
theorem iV (I : aE X pins σ H s) (h : H a = some u) (hm : (∃ xs, u = .lst xs) \/ ∃ ks, u = .dK ks) : ∃ o, aE X pins σ (cW H a (.frz o u)) s := by
  have ob := I.hok a u h;have hg : ∃ o, s.heap.get? a = some o := by
    rcases hm with ⟨xs, rfl⟩ | ⟨ks, rfl⟩
    · obtain ⟨_, _, _, _, e⟩ := ob; exact ⟨_, e⟩
    · obtain ⟨_, _, _, _, o, _, _, e, _⟩ := ob; exact ⟨_, e⟩
  obtain ⟨o, hg⟩ := hg;have nt : ∀ b xs, H b = some (.tup xs) -> b ≠ a := fun b xs q z => by subst z; rw [h] at q; rcases hm with ⟨_, rfl⟩ | ⟨_, rfl⟩ <;> cases q
  have nf : ∀ b o' u', H b = some (.frz o' u') -> b ≠ a := fun b o' u' q z => by subst z; rw [h] at q; rcases hm with ⟨_, rfl⟩ | ⟨_, rfl⟩ <;> cases q
  have nb : ∀ b ps, H b = some (.tbl ps) -> b ≠ a := fun b ps q z => by subst z; rw [h] at q; rcases hm with ⟨_, rfl⟩ | ⟨_, rfl⟩ <;> cases q
  have nw : ∀ b y, H b = some (.own y) -> b ≠ a := fun b y q z => by subst z; rw [h] at q; rcases hm with ⟨_, rfl⟩ | ⟨_, rfl⟩ <;> cases q
  have nn : ∀ b, H b = none -> b ≠ a := fun b q z => by subst z; rw [h] at q; cases q
  have st : ∀ b x, bE X.prog X.w H s.heap b x -> bE X.prog X.w (cW H a (.frz o u)) s.heap b x := fun b x q =>
    q.stay (fun c v _ e => e) (fun c e => by rw [aI (nw _ _ e)]; exact e) fun c xs e => by rw [aI (nt _ _ e)]; exact e
  refine ⟨o, ⟨I.ok, I.os, I.bare, ⟨I.base.keep, I.base.slot, fun b ob' e n hx => ?_, I.base.there, fun b xs e => ?_, fun b ob' v e => ?_, fun b ps e => ?_⟩, I.loc, I.cell, ?_, fun x c e => ?_, fun p hp => ?_, fun b x e => ?_, I.len⟩⟩
  · have := I.base.free b ob' e n hx;rw [aI (nn _ this)]; exact this
  · have := I.base.tups b xs e;rw [aI (nt _ _ this)]; exact this
  · have := I.base.frzs b ob' v e;rw [aI (nf _ _ _ this)]; exact this
  · obtain ⟨m, q⟩ := I.base.tbls b ps e;exact ⟨m, by rw [aI (nb _ _ q)]; exact q⟩
  · rw [aI (nn _ I.free)]; exact I.free
  · rw [aI (nn _ (I.freeC x c e))]; exact I.freeC x c e
  · obtain ⟨p1, p2, p3⟩ := I.pin p hp;exact ⟨p1, by rw [aI (nn _ p2)]; exact p2, p3⟩
  · by_cases hb : b = a
    · subst hb;rw [bQ] at e; cases e;exact ⟨hg, st b u ob⟩
    · rw [aI hb] at e;exact st b x (I.hok b x e)
theorem gS {o' : HO} (h : H a = some u) (hm : (∃ xs, u = .lst xs) \/ ∃ ks, u = .dK ks) : Kp H (cW H a o') := by
  refine ⟨fun b xs e => ?_, fun b o v e => ?_⟩
  · rw [aI]; exact e;rintro rfl; rw [h] at e; rcases hm with ⟨_, rfl⟩ | ⟨_, rfl⟩ <;> cases e
  · rw [aI]; exact e;rintro rfl; rw [h] at e; rcases hm with ⟨_, rfl⟩ | ⟨_, rfl⟩ <;> cases e
theorem w6 {H0 : Hp} {d : PyData} {v : V} (I : aE X pins σ H s) (hs : ay H0 H) (n : yA H0 H d v) : ∃ H', aE X pins σ H' s /\ ay H0 H' /\ Rp H' d v := by
  obtain ⟨n, a, rfl, h0⟩ := n;have go : ∀ u : HO, H a = some u -> ((∃ xs, u = .lst xs) \/ ∃ ks, u = .dK ks) -> ∃ o, aE X pins σ (cW H a (.frz o u)) s /\ ay H0 (cW H a (.frz o u)) /\ Kp H (cW H a (.frz o u)) := fun u hu hm => by
    obtain ⟨o, J⟩ := iV I hu hm;refine ⟨o, J, fun b x e => ?_, gS hu hm⟩;rw [aI (aX e h0)]; exact hs b x e
  cases d <;> simp only [iI] at n
  · obtain ⟨a', vs, e, ha, r⟩ := n;cases e;obtain ⟨o, J, S, K⟩ := go _ ha (.inl ⟨_, rfl⟩);refine ⟨_, J, S, ?_⟩;simp only [Rp];exact ⟨a, o, vs, rfl, bQ, bo.kp K _ _ r⟩
  · obtain ⟨a', vs, e, ha, r⟩ := n;cases e;obtain ⟨o, J, S, K⟩ := go _ ha (.inr ⟨_, rfl⟩);refine ⟨_, J, S, ?_⟩;simp only [Rp];exact .inl ⟨a, o, vs, rfl, bQ, de.kp K _ _ r⟩
end
theorem u7.e {X : Cx} {e : Expr} {f : Fe} (h : u7 X e f) : ah X e f := by
  intro pins s σ H Q I q;obtain ⟨ρ, sl, q⟩ := q;cases ef : f ρ with
  | ok d =>
    rw [ef] at q;refine cV (h pins s σ H (fun v H' => ay H H' /\ zU H H' d v) I ⟨ρ, sl, by rw [ef]; exact fun v H' hs p => ⟨hs, p⟩⟩) fun u s' ⟨v, H', I', r, hs, p⟩ => ?_
    rcases p with p | p
    · exact ⟨v, H', I', r, q v H' hs p⟩
    · obtain ⟨H2, I2, S2, p2⟩ := w6 I' hs p;exact ⟨v, H2, I2, r, q v H2 S2 p2⟩
  | ex c => rw [ef] at q; exact cV (h pins s σ H (fun _ _ => False) I ⟨ρ, sl, by rw [ef]; exact q⟩) fun u s' ⟨v, H', I', r, z⟩ => z.elim
  | no => rw [ef] at q; exact q.elim
theorem Z.u7.e {X : Cx} {e : Expr} {f : Fe} (h : Z.u7 X e f) : Z.ah X e f :=
  ⟨D2.u7.e h.un⟩
theorem eL.e {X : Cx} {e : Expr} {f : Fe} (h : eL X e f) : ah X e f := (eL.toF h).e
theorem Z.eL.e {X : Cx} {e : Expr} {f : Fe} (h : Z.eL X e f) : Z.ah X e f :=
  ⟨D2.eL.e h.un⟩
structure va {β : Type} (X : Cx) (T : R β -> Hp -> Prop) : Prop where
  mono : ∀ r H H', T r H -> ay H H' -> T r H'
  ex : ∀ c H, T (.ex c) H -> Xw X c H
  no : ∀ H, ¬ T .no H
def Dn (P : Hp -> Hp -> PyData -> V -> Prop) : Prop := ∀ H H1 H' d v, ay H H1 -> P H1 H' d v -> P H H' d v
theorem dQ : Dn fO := fun _ _ _ _ _ _ p => p
theorem v9 : Dn yA := fun _ _ _ _ _ s p => ⟨p.1, let ⟨a, e, h⟩ := p.2; ⟨a, e, s.free h⟩⟩
theorem wC : Dn zU := fun _ _ _ _ _ s p => p.elim .inl fun p => .inr (v9 _ _ _ _ _ s p)
section
variable {X : Cx} {σ : St} {H : Hp}
theorem dN {P : Hp -> Hp -> PyData -> V -> Prop} (hP : Dn P) (Q : VK) : va X (fun r H => qZ X P r H Q) where
  mono := fun r H H' h s => by
    cases r with
    | ok d => exact fun v H2 s2 p => h v H2 (s.trans s2) (hP _ _ _ _ _ s p)
    | ex c => exact Xw.mono h s
    | no => exact h
  ex := fun c H h => h
  no := fun H h => h
theorem rN (Q : Bool -> Hp -> Prop) : va X (fun (r : R Bool) H => match r with | .ok b => ∀ H', ay H H' -> Q b H' | .ex c => Xw X c H | .no => False) where
  mono := fun r H H' h s => by
    cases r with
    | ok d => exact fun H2 s2 => h H2 (s.trans s2)
    | ex c => exact Xw.mono h s
    | no => exact h
  ex := fun c H h => h
  no := fun H h => h
theorem wV (I : Hp -> PyData -> V -> Prop) (Q : List V -> Hp -> Prop) : va X (fun (r : R (List PyData)) H => match r with | .ok ds => ∀ vs H', ay H H' -> RA I H' ds vs -> Q vs H' | .ex c => Xw X c H | .no => False) where
  mono := fun r H H' h s => by
    cases r with
    | ok d => exact fun vs H2 s2 => h vs H2 (s.trans s2)
    | ex c => exact Xw.mono h s
    | no => exact h
  ex := fun c H h => h
  no := fun H h => h
theorem dl {β : Type} {T : R β -> Hp -> Prop} (t : va X T) {P : Hp -> Hp -> PyData -> V -> Prop} {f : Fe} {k : aH -> PyData -> R β} (h : ∃ ρ, Sl H σ ρ /\ T (f ρ >>= k ρ) H) :
    gM X P f σ H (fun v H1 => ∃ ρ d, Sl H1 σ ρ /\ ay H H1 /\ P H H1 d v /\ T (k ρ d) H1) := by
  obtain ⟨ρ, sl, q⟩ := h;refine ⟨ρ, sl, ?_⟩;cases e : f ρ with
  | ok d => rw [e] at q; exact fun v H1 s p => ⟨ρ, d, sl.mono s, s, p, t.mono _ _ _ q s⟩
  | ex c => rw [e] at q; exact t.ex _ _ q
  | no => rw [e] at q; exact (t.no _ q).elim
theorem qa {β : Type} {T : R β -> Hp -> Prop} (t : va X T) {f : aH -> R Bool} {k : aH -> Bool -> R β} (h : ∃ ρ, Sl H σ ρ /\ T (f ρ >>= k ρ) H) :
    vG X f σ H (fun b H1 => ∃ ρ, Sl H1 σ ρ /\ ay H H1 /\ T (k ρ b) H1) := by
  obtain ⟨ρ, sl, q⟩ := h;refine ⟨ρ, sl, ?_⟩;cases e : f ρ with
  | ok d => rw [e] at q; exact fun H1 s => ⟨ρ, sl.mono s, s, t.mono _ _ _ q s⟩
  | ex c => rw [e] at q; exact t.ex _ _ q
  | no => rw [e] at q; exact (t.no _ q).elim
theorem lf {β : Type} {T : R β -> Hp -> Prop} (t : va X T) {I : Hp -> PyData -> V -> Prop} {f : aH -> R (List PyData)} {k : aH -> List PyData -> R β} (h : ∃ ρ, Sl H σ ρ /\ T (f ρ >>= k ρ) H) :
    tT X I f σ H (fun vs H1 => ∃ ρ ds, Sl H1 σ ρ /\ ay H H1 /\ RA I H1 ds vs /\ T (k ρ ds) H1) := by
  obtain ⟨ρ, sl, q⟩ := h;refine ⟨ρ, sl, ?_⟩;cases e : f ρ with
  | ok d => rw [e] at q; exact fun vs H1 s p => ⟨ρ, d, sl.mono s, s, p, t.mono _ _ _ q s⟩
  | ex c => rw [e] at q; exact t.ex _ _ q
  | no => rw [e] at q; exact (t.no _ q).elim
end
def af (i : Nat) : Fe := fun ρ => match ρ[i]? with
  | some (.val d) => .ok d
  | _ => .no
def cZ (i : Nat) : Fe := fun ρ => match ρ[i]? with
  | some (.val d) => .ok d
  | some (.own d) => .ok d
  | _ => .no
def eC (d : PyData) : Fe := fun _ => .ok d
structure Tb (X : Cx) (nl : Nat) (G : List Str) : Prop where
  hu : X.A.units + 64 < cLine
  calm : X.calm = true
  nd : X.N.Nodup
  vis : ∀ x ∈ X.N, yY X.env.scope x /\ (x == ("__debug__" : Str)) = false /\ (x == ("__classdict__" : Str)) = false
  loc : ∀ x ∈ X.N.take nl, w9 X.env.scope x /\ (X.fn x = true \/ X.env.scope.names.lookup x = some .local)
  gl : ∀ x ∈ G, Gl X x /\ (x == ("__debug__" : Str)) = false /\ x ≠ ("__name__" : Str)
section
variable {X : Cx} {nl : Nat} {G : List Str} {x : Str} {pos : Pos}
theorem Sl.at {H : Hp} {σ : St} {ρ : aH} {i : Nat} {c : bg} (h : Sl H σ ρ) (e : ρ[i]? = some c) : ∃ o, σ[i]? = some o /\ io H c o := by
  have hi : i < σ.length := by rw [h.1]; exact (List.getElem?_eq_some_iff.mp e).1
  exact ⟨σ[i], List.getElem?_eq_getElem hi, h.2 i c _ e (List.getElem?_eq_getElem hi)⟩
theorem aa (T : Tb X nl G) (i : Nat) (hN : X.N[i]? = some x) : ah X (.Name x pos) (af i) := by
  have hm := T.vis x (List.mem_of_getElem? hN);refine PE.imp (lu hN hm.1 hm.2.1 hm.2.2) fun σ H Q ⟨ρ, sl, q⟩ => ?_
  unfold af at q;split at q
  · rename_i d e;obtain ⟨o, h1, v, rfl, h2⟩ := sl.at e;exact ⟨v, h1, q v H (ay.refl H) h2⟩
  · exact q.elim
theorem Z.aa (T : Tb X nl G) (i : Nat) (hN : X.N[i]? = some x) : Z.ah X (.Name x pos) (af i) :=
  ⟨D2.aa T i hN⟩
theorem cb (T : Tb X nl G) (i : Nat) (hN : X.N[i]? = some x) : bh X (.Name x pos) (cZ i) := by
  have hm := T.vis x (List.mem_of_getElem? hN);refine PE.imp (lu hN hm.1 hm.2.1 hm.2.2) fun σ H Q ⟨ρ, sl, q⟩ => ?_
  unfold cZ at q;split at q
  · rename_i d e;obtain ⟨o, h1, v, rfl, h2⟩ := sl.at e;exact ⟨v, h1, q v H (ay.refl H) (.inl h2)⟩
  · rename_i d e;obtain ⟨o, h1, v, rfl, h2⟩ := sl.at e;exact ⟨v, h1, q v H (ay.refl H) (.inr h2)⟩
  · exact q.elim
theorem Z.cb (T : Tb X nl G) (i : Nat) (hN : X.N[i]? = some x) : Z.bh X (.Name x pos) (cZ i) :=
  ⟨D2.cb T i hN⟩
theorem lQ {e : Expr} {d : PyData} {v : V} (h : PE X e (tC v)) (r : ∀ H, Rp H d v) : ah X e (eC d) :=
  PE.imp h fun σ H Q ⟨ρ, sl, q⟩ => q v H (ay.refl H) (r H)
theorem ai {i j} : ah X (.Constant (.int i) j pos) (eC (.int i)) := lQ yk fun H => by simp only [Rp]
theorem Z.ai {i j} : Z.ah X (.Constant (.int i) j pos) (eC (.int i)) :=
  ⟨D2.ai⟩
theorem cX {b j} : ah X (.Constant (.bool b) j pos) (eC (.bool b)) := lQ yO fun H => by simp only [Rp]
theorem Z.cX {b j} : Z.ah X (.Constant (.bool b) j pos) (eC (.bool b)) :=
  ⟨D2.cX⟩
theorem cK {j} : ah X (.Constant .none j pos) (eC .none) := lQ xR fun H => by simp only [Rp]
theorem Z.cK {j} : Z.ah X (.Constant .none j pos) (eC .none) :=
  ⟨D2.cK⟩
theorem eZ {y j} : ah X (.Constant (.str y) j pos) (eC (.str y)) := lQ ya fun H => by simp only [Rp]
theorem Z.eZ {y j} : Z.ah X (.Constant (.str y) j pos) (eC (.str y)) :=
  ⟨D2.eZ⟩
theorem iu {i : Int} {t : Tok} (T : Tb X nl G) (j : Nat) (hG : G[j]? = some x) (hm : X.mg x = some (.int i t)) : ah X (.Name x pos) (eC (.int i)) := by
  have g := T.gl x (List.mem_of_getElem? hG);exact lQ (rF g.1 hm (v := .int i) ⟨t, rfl⟩ g.2.1) fun H => by simp only [Rp]
theorem Z.iu {i : Int} {t : Tok} (T : Tb X nl G) (j : Nat) (hG : G[j]? = some x) (hm : X.mg x = some (.int i t)) : Z.ah X (.Name x pos) (eC (.int i)) :=
  ⟨D2.iu T j hG hm⟩
end
section
variable {X : Cx} {a b c : Expr} {fa fb fc : Fe} {pos : Pos}
def e2 (g : PyData -> PyData -> R PyData) (fa fb : Fe) : Fe := fun ρ => fa ρ >>= fun x => fb ρ >>= fun y => g x y
def e1 (g : PyData -> R PyData) (fa : Fe) : Fe := fun ρ => fa ρ >>= fun x => g x
def bu (X : Cx) (P : Hp -> Hp -> PyData -> V -> Prop) (r : R2) (g : PyData -> PyData -> R PyData) : Prop :=
  ∀ H x y dx dy Q, fJ H dx x -> fJ H dy y -> qZ X P (g dx dy) H Q -> r x y H Q
theorem zS {P : Hp -> Hp -> PyData -> V -> Prop} {r : R2} {g : PyData -> PyData -> R PyData} (hP : Dn P) (hg : bu X P r g) (σ : St) (H : Hp) (Q : VK) (h : gM X P (e2 g fa fb) σ H Q) :
    zu r (gM X oy fa) (gM X oy fb) σ H Q :=
  (dl (P := oy) (dN (X := X) hP Q) h).post fun v H1 ⟨ρ1, d1, sl1, _, p1, q1⟩ =>
    (dl (P := oy) (f := fb) (k := fun _ y => g d1 y) (dN (X := X) hP Q) ⟨ρ1, sl1, q1⟩).post fun u H2 ⟨_, d2, _, s2, p2, q2⟩ => hg H2 v u d1 d2 Q (fJ.mono p1 s2) p2 q2
theorem j9 {op : Operator} {P : Hp -> Hp -> PyData -> V -> Prop} {r : R2} {g : PyData -> PyData -> R PyData} (hP : Dn P) (ho : gr X (binaryOp op) r) (hg : bu X P r g) (ha : bh X a fa) (hb : bh X b fb) :
    PE X (.BinOp a op b pos) (gM X P (e2 g fa fb)) := PE.imp (zi ho ha hb) (zS hP hg)
theorem nr {op : CmpOp} {r : R2} {g : PyData -> PyData -> R PyData} (ho : gr X (compareOp op) r) (hg : bu X fO r g) (ha : bh X a fa) (hb : bh X b fb) (hm : behindInMarks op b = false) :
    ah X (.Compare a [op] [b] pos) (e2 g fa fb) := PE.imp (vt ho ha hb hm) (zS dQ hg)
end
def oI : PyData -> R Bool
  | .bool b => .ok b
  | _ => .no
def tE (f : Fe) : aH -> R Bool := fun ρ => f ρ >>= oI
theorem rh {X : Cx} {f : Fe} {σ : St} {H : Hp} {Q : Bool -> Hp -> Prop} (h : vG X (tE f) σ H Q) : gM X fO f σ H (fun x H' => ∃ k, x = .bl k /\ Q k H') :=
  (dl (P := fO) (f := f) (k := fun _ => oI) (rN (X := X) Q) h).post fun v H1 ⟨ρ1, d1, _, _, p1, q1⟩ => by
    cases d1 with
    | bool b =>
      have p2 : v = .bl b := by simpa only [Rp] using p1
      exact ⟨b, p2, q1 H1 (ay.refl _)⟩
    | _ => exact q1.elim
section
variable {X : Cx} {a b c : Expr} {fa fb fc : Fe} {pos : Pos}
theorem iE {op : CmpOp} {r : R2} {g : PyData -> PyData -> R PyData} (ho : gr X (compareOp op) r) (hg : bu X fO r g) (ha : bh X a fa) (hb : bh X b fb) (hm : behindInMarks op b = false) :
    gU X (.Compare a [op] [b] pos) (tE (e2 g fa fb)) :=
  PT.imp (wG ho ha hb hm) fun σ H Q h => zS dQ hg σ H _ (rh h)
theorem dC {e : Expr} {f : Fe} (h : ah X e f) (he : ∀ whole, isTrue e X.env whole = (do let v <- whole; standAt e.pos; holding [v] (truthy v)) := by intro _; rfl) : gU X e (tE f) :=
  PT.imp (w5 h he) fun σ H Q h => rh h
theorem Z.dC {e : Expr} {f : Fe} (h : Z.ah X e f) (he : ∀ whole, isTrue e X.env whole = (do let v <- whole; standAt e.pos; holding [v] (truthy v)) := by intro _; rfl) : Z.gU X e (tE f) :=
  ⟨D2.dC h.un he⟩
def oQ (f g : aH -> R Bool) : aH -> R Bool := fun ρ => f ρ >>= fun b => if b = true then g ρ else .ok false
def md (f g : aH -> R Bool) : aH -> R Bool := fun ρ => f ρ >>= fun b => if b = true then .ok true else g ρ
def fV (f : aH -> R Bool) : aH -> R Bool := fun ρ => f ρ >>= fun b => .ok (!b)
variable {ga gb : aH -> R Bool} {bR : List Expr}
theorem l9 (ha : gU X a ga) : kx X (.BoolOp .And [a] pos) ga := pw_and1 ha
theorem Z.l9 (ha : Z.gU X a ga) : Z.kx X (.BoolOp .And [a] pos) ga :=
  ⟨D2.l9 ha.un⟩
theorem fq (ha : gU X a ga) : kx X (.BoolOp .Or [a] pos) ga := pw_or1 ha
theorem Z.fq (ha : Z.gU X a ga) : Z.kx X (.BoolOp .Or [a] pos) ga :=
  ⟨D2.fq ha.un⟩
theorem nX (ha : gU X a ga) (hb : kx X (.BoolOp .And (b :: bR) pos) gb) : kx X (.BoolOp .And (a :: b :: bR) pos) (oQ ga gb) :=
  PW.imp (pw_and ha hb) fun σ H Q h => (qa (f := ga) (k := fun ρ b => if b = true then gb ρ else .ok false) (rN (X := X) Q) h).post fun d H1 ⟨ρ1, sl1, _, q1⟩ => by
    cases d with
    | true => exact ⟨ρ1, sl1, q1⟩
    | false => exact q1 H1 (ay.refl _)
theorem Z.nX (ha : Z.gU X a ga) (hb : Z.kx X (.BoolOp .And (b :: bR) pos) gb) : Z.kx X (.BoolOp .And (a :: b :: bR) pos) (oQ ga gb) :=
  ⟨D2.nX ha.un hb.un⟩
theorem ik (ha : gU X a ga) (hb : kx X (.BoolOp .Or (b :: bR) pos) gb) : kx X (.BoolOp .Or (a :: b :: bR) pos) (md ga gb) :=
  PW.imp (pw_or ha hb) fun σ H Q h => (qa (f := ga) (k := fun ρ b => if b = true then .ok true else gb ρ) (rN (X := X) Q) h).post fun d H1 ⟨ρ1, sl1, _, q1⟩ => by
    cases d with
    | false => exact ⟨ρ1, sl1, q1⟩
    | true => exact q1 H1 (ay.refl _)
theorem Z.ik (ha : Z.gU X a ga) (hb : Z.kx X (.BoolOp .Or (b :: bR) pos) gb) : Z.kx X (.BoolOp .Or (a :: b :: bR) pos) (md ga gb) :=
  ⟨D2.ik ha.un hb.un⟩
theorem kx.t {e : Expr} (h : kx X e ga) : gU X e ga := PW.pt h
theorem Z.kx.t {e : Expr} (h : Z.kx X e ga) : Z.gU X e ga :=
  ⟨D2.kx.t h.un⟩
theorem dB (ha : gU X a ga) : gU X (.UnaryOp .Not a pos) (fV ga) :=
  PT.imp (xA ha) fun σ H Q h => (qa (f := ga) (k := fun _ b => .ok (!b)) (rN (X := X) Q) h).post fun d H1 ⟨ρ1, sl1, _, q1⟩ => q1 H1 (ay.refl _)
theorem Z.dB (ha : Z.gU X a ga) : Z.gU X (.UnaryOp .Not a pos) (fV ga) :=
  ⟨D2.dB ha.un⟩
def oz (f g : Fe) : Fe := fun ρ => f ρ >>= fun d => oI d >>= fun b => if b = true then g ρ else .ok (.bool false)
def Aa (f g : Fe) : Fe := fun ρ => f ρ >>= fun d => oI d >>= fun b => if b = true then .ok (.bool true) else g ρ
def u3 (f : Fe) : Fe := fun ρ => f ρ >>= fun d => oI d >>= fun b => .ok (.bool (!b))
theorem nH {k : aH -> Bool -> R PyData} {f : Fe} {σ : St} {H : Hp} {Q : VK} (h : gM X fO (fun ρ => f ρ >>= fun d => oI d >>= fun b => k ρ b) σ H Q) :
    gM X fO f σ H (fun x H' => ∃ c, x = .bl c /\ gM X fO (fun ρ => k ρ c) σ H' Q) :=
  (dl (P := fO) (f := f) (k := fun ρ d => oI d >>= fun b => k ρ b) (dN (X := X) dQ Q) h).post fun v H1 ⟨ρ1, d1, sl1, _, p1, q1⟩ => by
    cases d1 with
    | bool b =>
      have p2 : v = .bl b := by simpa only [Rp] using p1
      exact ⟨b, p2, ρ1, sl1, q1⟩
    | _ => exact q1.elim
theorem je {op} (h : ah X a fa) : ah X (.BoolOp op [a] pos) fa := xj h
theorem Z.je {op} (h : Z.ah X a fa) : Z.ah X (.BoolOp op [a] pos) fa :=
  ⟨D2.je h.un⟩
theorem i9 (ha : ah X a fa) (hb : ah X (.BoolOp .And (b :: bR) pos) fb) : ah X (.BoolOp .And (a :: b :: bR) pos) (oz fa fb) :=
  PE.imp (yd ha hb) fun σ H Q h => (nH (k := fun ρ b => if b = true then fb ρ else .ok (.bool false)) h).post fun v H1 ⟨c, e1, q1⟩ => by
    refine ⟨c, e1, ?_⟩;cases c with
    | true => exact q1
    | false =>
      obtain ⟨_, _, q2⟩ := q1;exact q2 _ H1 (ay.refl _) (by simp only [Rp])
theorem Z.i9 (ha : Z.ah X a fa) (hb : Z.ah X (.BoolOp .And (b :: bR) pos) fb) : Z.ah X (.BoolOp .And (a :: b :: bR) pos) (oz fa fb) :=
  ⟨D2.i9 ha.un hb.un⟩
theorem tP (ha : ah X a fa) (hb : ah X (.BoolOp .Or (b :: bR) pos) fb) : ah X (.BoolOp .Or (a :: b :: bR) pos) (Aa fa fb) :=
  PE.imp (zM ha hb) fun σ H Q h => (nH (k := fun ρ b => if b = true then .ok (.bool true) else fb ρ) h).post fun v H1 ⟨c, e1, q1⟩ => by
    refine ⟨c, e1, ?_⟩;cases c with
    | false => exact q1
    | true =>
      obtain ⟨_, _, q2⟩ := q1;exact q2 _ H1 (ay.refl _) (by simp only [Rp])
theorem Z.tP (ha : Z.ah X a fa) (hb : Z.ah X (.BoolOp .Or (b :: bR) pos) fb) : Z.ah X (.BoolOp .Or (a :: b :: bR) pos) (Aa fa fb) :=
  ⟨D2.tP ha.un hb.un⟩
theorem nN (ha : ah X a fa) : ah X (.UnaryOp .Not a pos) (u3 fa) :=
  PE.imp (yh ha) fun σ H Q h => (nH (k := fun ρ b => .ok (.bool (!b))) h).post fun v H1 ⟨c, e1, _, _, q2⟩ => ⟨c, e1, q2 _ H1 (ay.refl _) (by simp only [Rp])⟩
theorem Z.nN (ha : Z.ah X a fa) : Z.ah X (.UnaryOp .Not a pos) (u3 fa) :=
  ⟨D2.nN ha.un⟩
end
def am : Expr -> Bool
  | .Starred .. => false
  | _ => true
theorem bc {e : Expr} {es : List Expr} {env : Env} (h : am e = true) : starEach (e :: es) env = (false, eval e env) :: starEach es env := by
  cases e <;> first | rfl | (cases h)
theorem kU {es : List Expr} {env : Env} {pos : Pos} (h : es.all am = true) : (backTo pos (starEach es env)).any (·.1) = false := by
  induction es with
  | nil => rfl
  | cons e es ih =>
    rw [List.all_cons, Bool.and_eq_true] at h;rw [bc h.1];have := ih h.2;simpa [backTo] using this
def aA : aH -> R (List PyData) := fun _ => .ok []
def ae (f : Fe) (g : aH -> R (List PyData)) : aH -> R (List PyData) := fun ρ => f ρ >>= fun d => g ρ >>= fun ds => .ok (d :: ds)
section
variable {X : Cx} {e : Expr} {es : List Expr} {f : Fe} {g : aH -> R (List PyData)}
theorem ri {I : Hp -> PyData -> V -> Prop} : PA X [] (tT X I aA) := PA.imp qu fun σ H Q ⟨ρ, sl, q⟩ => q [] H (ay.refl _) (by simp only [RA])
theorem aq : mh X [] aA := ri
theorem Z.aq  : Z.mh X [] aA :=
  ⟨D2.aq⟩
theorem nA : w4 X [] aA := ri
theorem pk {I : Hp -> PyData -> V -> Prop} (hI : ∀ H H' d v, I H d v -> ay H H' -> I H' d v) (ha : PE X e (gM X (fun _ H' d v => I H' d v) f)) (hr : PA X es (tT X I g))
    (hs : starEach (e :: es) X.env = (false, eval e X.env) :: starEach es X.env := by rfl) : PA X (e :: es) (tT X I (ae f g)) :=
  PA.imp (jt ha hr hs) fun σ H Q h =>
    (dl (P := fun _ H' d v => I H' d v) (f := f) (k := fun ρ d => g ρ >>= fun ds => .ok (d :: ds)) (wV (X := X) I Q) h).post fun v H1 ⟨ρ1, d1, sl1, _, p1, q1⟩ =>
      (lf (I := I) (f := g) (k := fun _ ds => .ok (d1 :: ds)) (wV (X := X) I Q) ⟨ρ1, sl1, q1⟩).post fun vs H2 ⟨_, ds1, _, s2, p3, q3⟩ =>
        q3 (v :: vs) H2 (ay.refl _) (by simp only [RA]; exact ⟨v, vs, rfl, hI _ _ _ _ p1 s2, p3⟩)
theorem ad (ha : ah X e f) (hr : mh X es g) (hs : am e = true := by rfl) : mh X (e :: es) (ae f g) := pk (fun _ _ _ _ h s => h.mono s) ha hr (bc hs)
theorem Z.ad (ha : Z.ah X e f) (hr : Z.mh X es g) (hs : am e = true := by rfl) : Z.mh X (e :: es) (ae f g) :=
  ⟨D2.ad ha.un hr.un hs⟩
theorem jB (ha : bh X e f) (hr : w4 X es g) (hs : am e = true := by rfl) : w4 X (e :: es) (ae f g) := pk (fun _ _ _ _ h s => h.mono s) ha hr (bc hs)
end
section
variable {K : PySem.W.Frag} {H : Hp} {x : V}
theorem jy (h : fJ H .none x) : x = .non := by
  rcases h with h | h
  · simpa only [Rp] using h
  · simp only [iI] at h
theorem jC {b : Bool} (h : fJ H (.bool b) x) : x = .bl b := by
  rcases h with h | h
  · simpa only [Rp] using h
  · simp only [iI] at h
theorem bd {i : Int} (h : fJ H (.int i) x) : x = .int i := by
  rcases h with h | h
  · simpa only [Rp] using h
  · simp only [iI] at h
theorem eN {y : Str} (h : fJ H (.str y) x) : x = .str y := by
  rcases h with h | h
  · simpa only [Rp] using h
  · simp only [iI] at h
theorem cc {ds : List PyData} (h : fJ H (.tuple ds) x) : ∃ a vs, x = .ref a /\ H a = some (.tup vs) /\ bo H ds vs := by
  rcases h with h | h
  · simpa only [Rp] using h
  · simp only [iI] at h
theorem cM {ds : List PyData} (h : fJ H (.list ds) x) : ∃ a vs, x = .ref a /\ kD K H a vs /\ bo H ds vs := by
  rcases h with h | h
  · simp only [Rp] at h;obtain ⟨a, o, vs, e, ha, r⟩ := h;exact ⟨a, vs, e, .inl (.inr ⟨o, ha⟩), r⟩
  · simp only [iI] at h;obtain ⟨a, vs, e, ha, r⟩ := h;exact ⟨a, vs, e, .inl (.inl ha), r⟩
theorem wf {C : Addr} {fs : List (Str × V)} {kvs : List (PyData × PyData)} (h : u8 H C fs kvs) : mJ kvs = true := by
  cases kvs with
  | nil => simp only [u8] at h
  | cons kd kvs => simp only [u8] at h; rw [h.1]; rfl
theorem ua {kvs : List (PyData × PyData)} (h : fJ H (.dict kvs) x) : ∃ a, x = .ref a := by
  rcases h with h | h
  · simp only [Rp] at h;rcases h with ⟨a, o, vs, e, _⟩ | ⟨a, o, C, dx, fs, e, _⟩
    · exact ⟨a, e⟩
    · exact ⟨a, e⟩
  · simp only [iI] at h;obtain ⟨a, vs, e, _⟩ := h;exact ⟨a, e⟩
theorem jx {kvs : List (PyData × PyData)} (hi : mJ kvs = false) (h : fJ H (.dict kvs) x) : ∃ a ks, x = .ref a /\ Rd H a (.dK ks) /\ de H kvs ks := by
  rcases h with h | h
  · simp only [Rp] at h;rcases h with ⟨a, o, vs, e, ha, r⟩ | ⟨a, o, C, dx, fs, e, ha, r⟩
    · exact ⟨a, vs, e, .inr ⟨o, ha⟩, r⟩
    · rw [wf r] at hi; cases hi
  · simp only [iI] at h;obtain ⟨a, vs, e, ha, r⟩ := h;exact ⟨a, vs, e, .inl ha, r⟩
end
theorem bo.nil {H : Hp} : bo H [] [] := by simp only [bo]
theorem bo.cons {H : Hp} {d : PyData} {ds : List PyData} {v : V} {vs : List V} (h : Rp H d v) (t : bo H ds vs) : bo H (d :: ds) (v :: vs) := by simp only [bo]; exact ⟨v, vs, rfl, h, t⟩
theorem bo.nil_inv {H : Hp} {vs : List V} (h : bo H [] vs) : vs = [] := by simpa only [bo] using h
theorem bo.cons_inv {H : Hp} {d : PyData} {ds : List PyData} {vs : List V} (h : bo H (d :: ds) vs) : ∃ v r, vs = v :: r /\ Rp H d v /\ bo H ds r := by simpa only [bo] using h
theorem bo.length {H : Hp} : ∀ {ds : List PyData} {vs : List V}, bo H ds vs -> vs.length = ds.length
  | [], vs, h => by rw [h.nil_inv]; rfl
  | d :: ds, vs, h => by
    obtain ⟨v, r, rfl, _, t⟩ := h.cons_inv;rw [List.length_cons, List.length_cons, bo.length t]
theorem bo.get {H : Hp} : ∀ {ds : List PyData} {vs : List V} {i : Nat} {d : PyData}, bo H ds vs -> ds[i]? = some d -> ∃ v, vs[i]? = some v /\ Rp H d v
  | [], vs, i, d, h, e => by simp at e
  | d0 :: ds, vs, 0, d, h, e => by
    obtain ⟨v, r, rfl, p, _⟩ := h.cons_inv;simp at e; subst e;exact ⟨v, rfl, p⟩
  | d0 :: ds, vs, i + 1, d, h, e => by
    obtain ⟨v, r, rfl, _, t⟩ := h.cons_inv;obtain ⟨u, e1, p⟩ := bo.get (i := i) t (by simpa using e);exact ⟨u, by simpa using e1, p⟩
theorem bo.append {H : Hp} : ∀ {ds es : List PyData} {vs us : List V}, bo H ds vs -> bo H es us -> bo H (ds ++ es) (vs ++ us)
  | [], es, vs, us, h, g => by rw [h.nil_inv]; exact g
  | d :: ds, es, vs, us, h, g => by
    obtain ⟨v, r, rfl, p, t⟩ := h.cons_inv;exact bo.cons p (bo.append t g)
theorem bo.take {H : Hp} : ∀ {ds : List PyData} {vs : List V} (n : Nat), bo H ds vs -> bo H (ds.take n) (vs.take n)
  | ds, vs, 0, h => by simp only [List.take_zero]; exact bo.nil
  | [], vs, n + 1, h => by rw [h.nil_inv]; exact bo.nil
  | d :: ds, vs, n + 1, h => by
    obtain ⟨v, r, rfl, p, t⟩ := h.cons_inv;exact bo.cons p (bo.take n t)
theorem bo.drop {H : Hp} : ∀ {ds : List PyData} {vs : List V} (n : Nat), bo H ds vs -> bo H (ds.drop n) (vs.drop n)
  | ds, vs, 0, h => h
  | [], vs, n + 1, h => by rw [h.nil_inv]; exact bo.nil
  | d :: ds, vs, n + 1, h => by
    obtain ⟨v, r, rfl, p, t⟩ := h.cons_inv;exact bo.drop n t
theorem bo.reverse {H : Hp} : ∀ {ds : List PyData} {vs : List V}, bo H ds vs -> bo H ds.reverse vs.reverse
  | [], vs, h => by rw [h.nil_inv]; exact bo.nil
  | d :: ds, vs, h => by
    obtain ⟨v, r, rfl, p, t⟩ := h.cons_inv;rw [List.reverse_cons, List.reverse_cons];exact bo.append (bo.reverse t) (bo.cons p bo.nil)
theorem bo.rep {H : Hp} {ds : List PyData} {vs : List V} (h : bo H ds vs) : ∀ k : Nat, bo H (List.replicate k ds).flatten (List.replicate k vs).flatten
  | 0 => bo.nil
  | k + 1 => by rw [List.replicate_succ, List.replicate_succ, List.flatten_cons, List.flatten_cons]; exact bo.append h (bo.rep h k)
theorem bo.ints {H : Hp} : ∀ ns : List Int, bo H (ns.map PyData.int) (ns.map V.int)
  | [] => bo.nil
  | n :: ns => bo.cons (by simp only [Rp]) (bo.ints ns)
theorem bD {H : Hp} {p : Addr} (h : H p = none) (o : HO) : ay H (cW H p o) := fun b u q => by rw [aI (aX q h)]; exact q
theorem cR {H : Hp} {p : Addr} {ds : List PyData} {vs : List V} (h : H p = none) (r : bo H ds vs) : Rp (cW H p (.tup vs)) (.tuple ds) (.ref p) := by
  simp only [Rp]; exact ⟨p, vs, rfl, bQ, r.mono (bD h _)⟩
theorem cP {H : Hp} {p : Addr} {ds : List PyData} {vs : List V} (h : H p = none) (r : bo H ds vs) : yA H (cW H p (.lst vs)) (.list ds) (.ref p) := by
  refine ⟨?_, p, rfl, h⟩;simp only [iI]; exact ⟨p, vs, rfl, bQ, r.mono (bD h _)⟩
section
variable {P : Program} {w : World} {H : Hp} {h : Heap}
mutual
theorem pJ (ok : fH P w H h) : ∀ (d : PyData) (v : V) (u : Value), d.canLay0 = true -> Rp H d v -> bx v u -> ∃ as, Reads h u d as
  | .none, v, u, _, r, e => by simp only [Rp] at r; subst r; cases e; exact ⟨_, .none⟩
  | .bool b, v, u, _, r, e => by simp only [Rp] at r; subst r; cases e; exact ⟨_, .bool b⟩
  | .int i, v, u, _, r, e => by simp only [Rp] at r; subst r; obtain ⟨t, rfl⟩ := e; exact ⟨_, .int i t⟩
  | .str x, v, u, _, r, e => by simp only [Rp] at r; subst r; obtain ⟨t, rfl⟩ := e; exact ⟨_, .str x t⟩
  | .tuple ds, v, u, c, r, e => by
    simp only [Rp] at r;obtain ⟨a, vs, rfl, ha, r⟩ := r;cases e;obtain ⟨_, its, rv, o, h1, h2, n, h3⟩ := (show bE P w H h a (.tup vs) from ok a _ ha)
    obtain ⟨as, q⟩ := ft ok ds vs its (by simpa only [PyData.canLay0] using c) r rv;exact ⟨as, .tuple h1 h2 h3 (by simpa using q)⟩
  | .list ds, v, u, c, r, e => by
    simp only [Rp] at r;obtain ⟨a, ob, vs, rfl, ha, r⟩ := r;cases e;obtain ⟨_, _, its, n, rv, h1⟩ := (show bE P w H h a (.frz ob (.lst vs)) from ok a _ ha)
    obtain ⟨as, q⟩ := ft ok ds vs its (by simpa only [PyData.canLay0] using c) r rv;exact ⟨a :: as, .list h1 rfl rfl (by simpa using q)⟩
  | .dict kvs, v, u, c, r, e => by simp [PyData.canLay0] at c
theorem ft (ok : fH P w H h) : ∀ (ds : List PyData) (vs : List V) (us : List Value), PyData.canLayAll0 ds = true -> bo H ds vs -> bq vs us -> ∃ as, ReadsAll h us ds as
  | [], vs, us, _, r, e => by rw [r.nil_inv] at e; cases e; exact ⟨_, .nil⟩
  | d :: ds, vs, us, c, r, e => by
    obtain ⟨v, r', rfl, p, t⟩ := r.cons_inv;have c' : d.canLay0 = true /\ PyData.canLayAll0 ds = true := by simpa [PyData.canLayAll0] using c
    cases e with
    | cons e1 e2 =>
      obtain ⟨as, q1⟩ := pJ ok d v _ c'.1 p e1;obtain ⟨bs, q2⟩ := ft ok ds r' _ c'.2 t e2;exact ⟨as ++ bs, .cons q1 q2⟩
end
theorem cC (ok : fH P w H h) {d : PyData} {v : V} {u : Value} (c : d.canLay0 = true) (r : fJ H d v) (e : bx v u) : ∃ as, Reads h u d as := by
  rcases r with r | r
  · exact pJ ok d v u c r e
  · cases d <;> simp only [iI] at r
    · rename_i ds;obtain ⟨a, vs, rfl, ha, r⟩ := r;cases e;obtain ⟨_, its, n, rv, h1⟩ := (show bE P w H h a (.lst vs) from ok a _ ha)
      obtain ⟨as, q⟩ := ft ok ds vs its (by simpa only [PyData.canLay0] using c) r rv;exact ⟨a :: as, .list h1 rfl rfl (by simpa using q)⟩
    · simp [PyData.canLay0] at c
end
def fY : PyData -> Option cg
  | .int i => some (.inl i)
  | .str y => some (.inr y)
  | _ => none
def fD : PyData -> PyData -> Bool
  | .int i, .int j => decide (i = j)
  | .str i, .str j => decide (i = j)
  | _, _ => false
def qW (kvs : List (PyData × PyData)) (k v : PyData) : List (PyData × PyData) :=
  if (kvs.any fun kv => fD kv.1 k) = true then kvs.map (fun kv => if fD kv.1 k = true then (kv.1, v) else kv) else kvs ++ [(k, v)]
theorem iH (κ κ' : cg) : fD (eB κ) (eB κ') = decide (κ = κ') := by
  cases κ with
  | inl i =>
    cases κ' with
    | inl j => simp [eB, fD]
    | inr j => simp [eB, fD]
  | inr i =>
    cases κ' with
    | inl j => simp [eB, fD]
    | inr j => simp [eB, fD]
theorem de.cons {H : Hp} {k d : PyData} {kvs : List (PyData × PyData)} {κ : cg} {v : V} {ks : List (cg × V)} (e : k = eB κ) (h : Rp H d v) (t : de H kvs ks) : de H ((k, d) :: kvs) ((κ, v) :: ks) := by
  simp only [de, wm]; exact ⟨κ, v, ks, rfl, ⟨e, h⟩, t⟩
theorem de.cons_inv {H : Hp} {k d : PyData} {kvs : List (PyData × PyData)} {ks : List (cg × V)} (h : de H ((k, d) :: kvs) ks) : ∃ κ v r, ks = (κ, v) :: r /\ k = eB κ /\ Rp H d v /\ de H kvs r := by
  simp only [de, wm] at h;obtain ⟨κ, v, r, e, ⟨e1, p⟩, t⟩ := h;exact ⟨κ, v, r, e, e1, p, t⟩
theorem de.nil_inv {H : Hp} {ks : List (cg × V)} (h : de H [] ks) : ks = [] := by simpa only [de] using h
theorem de.any {H : Hp} (κ : cg) : ∀ {kvs : List (PyData × PyData)} {ks : List (cg × V)}, de H kvs ks -> (kvs.any fun kv => fD kv.1 (eB κ)) = ks.any fun kv => decide (kv.1 = κ)
  | [], ks, h => by rw [h.nil_inv]; rfl
  | (k, d) :: kvs, ks, h => by
    obtain ⟨κ', v, r, rfl, rfl, p, t⟩ := h.cons_inv;rw [List.any_cons, List.any_cons, de.any κ t, iH]
theorem de.repl {H : Hp} (κ : cg) {d : PyData} {v : V} (hv : Rp H d v) : ∀ {kvs : List (PyData × PyData)} {ks : List (cg × V)}, de H kvs ks ->
    de H (kvs.map fun kv => if fD kv.1 (eB κ) = true then (kv.1, d) else kv) (ks.map fun kv => if kv.1 = κ then (kv.1, v) else kv)
  | [], ks, h => by rw [h.nil_inv]; simp only [List.map_nil, de]
  | (k, d') :: kvs, ks, h => by
    obtain ⟨κ', v', r, rfl, rfl, p, t⟩ := h.cons_inv;rw [List.map_cons, List.map_cons];dsimp only;rw [iH];by_cases e : κ' = κ
    · rw [if_pos (decide_eq_true e), if_pos e]; exact de.cons rfl hv (de.repl κ hv t)
    · rw [if_neg (by rw [decide_eq_false e]; exact Bool.false_ne_true), if_neg e]; exact de.cons rfl p (de.repl κ hv t)
theorem de.snoc {H : Hp} {κ : cg} {d : PyData} {v : V} (hv : Rp H d v) : ∀ {kvs : List (PyData × PyData)} {ks : List (cg × V)}, de H kvs ks -> de H (kvs ++ [(eB κ, d)]) (ks ++ [(κ, v)])
  | [], ks, h => by rw [h.nil_inv]; exact de.cons rfl hv (by simp only [de])
  | (k, d') :: kvs, ks, h => by
    obtain ⟨κ', v', r, rfl, rfl, p, t⟩ := h.cons_inv;exact de.cons rfl p (de.snoc hv t)
theorem de.put {H : Hp} (κ : cg) {d : PyData} {v : V} (hv : Rp H d v) {kvs : List (PyData × PyData)} {ks : List (cg × V)} (h : de H kvs ks) : de H (qW kvs (eB κ) d) (jJ ks κ v) := by
  unfold qW jJ;rw [h.any κ];split
  · exact h.repl κ hv
  · exact h.snoc hv
def kr (kvs : List (PyData × PyData)) (k : PyData) : Option PyData := (kvs.find? fun kv => fD kv.1 k).map (·.2)
theorem de.look {H : Hp} (κ : cg) : ∀ {kvs : List (PyData × PyData)} {ks : List (cg × V)}, de H kvs ks -> (kr kvs (eB κ) = none /\ iJ ks κ = none) \/ ∃ d v, kr kvs (eB κ) = some d /\ iJ ks κ = some v /\ Rp H d v
  | [], ks, h => .inl (by rw [h.nil_inv]; exact ⟨rfl, rfl⟩)
  | (k, d) :: kvs, ks, h => by
    obtain ⟨κ', v, r, rfl, rfl, p, t⟩ := h.cons_inv;unfold kr iJ;by_cases e : κ' = κ
    · rw [List.find?_cons_of_pos (by rw [iH]; exact decide_eq_true e), List.find?_cons_of_pos (by exact decide_eq_true e)];exact .inr ⟨d, v, rfl, rfl, p⟩
    · rw [List.find?_cons_of_neg (by rw [iH, decide_eq_false e]; exact Bool.false_ne_true), List.find?_cons_of_neg (by rw [decide_eq_false e]; exact Bool.false_ne_true)];exact de.look κ t
theorem oG {d : PyData} {κ : cg} (h : fY d = some κ) : d = eB κ := by
  cases d <;> simp only [fY] at h <;> cases h <;> rfl
theorem rb {H : Hp} {d : PyData} {x : V} {κ : cg} (h : fJ H d x) (e : fY d = some κ) : x = kV κ := by
  cases d <;> simp only [fY] at e <;> cases e
  · exact bd h
  · exact eN h
theorem rE {H : Hp} {a : Addr} {kvs : List (PyData × PyData)} {ks : List (cg × V)} {κ : cg} (h : Rd H a (.dK ks)) (r : de H kvs ks) : ∃ o, lF H a (kV κ) o /\ o.isSome = (kr kvs (eB κ)).isSome /\ ∀ d, kr kvs (eB κ) = some d -> ∃ v, o = some v /\ Rp H d v := by
  refine ⟨iJ ks κ, .inl ⟨ks, κ, h, rfl, rfl⟩, ?_⟩;rcases r.look κ with ⟨e1, e2⟩ | ⟨d, v, e1, e2, p⟩
  · rw [e1, e2]; exact ⟨rfl, fun d z => by cases z⟩
  · rw [e1, e2]; exact ⟨rfl, fun d z => by cases z; exact ⟨v, rfl, p⟩⟩
def o8 : PyData -> PyData -> R PyData
  | .int i, .int j => .ok (.int (i - j))
  | _, _ => .no
def bG : PyData -> PyData -> R PyData
  | .int i, .int j => if 0 < j then .ok (.int (i % j)) else .no
  | _, _ => .no
def dt : PyData -> PyData -> R PyData
  | .int i, .int j => if 0 < j /\ j < 1073741824 then .ok (.int (i / j)) else .no
  | _, _ => .no
def kI (p : Int -> Int -> Bool) : PyData -> PyData -> R PyData
  | .int i, .int j => .ok (.bool (p i j))
  | _, _ => .no
def pd (x y : PyData) : Bool := x.canLay0 && y.canLay0 && decide (min x.depth y.depth <= 60)
def lv (x y : PyData) : R PyData := if pd x y = true then .ok (.bool (PyData.eqv x y)) else .no
def nQ (x y : PyData) : R PyData := if pd x y = true then .ok (.bool (!PyData.eqv x y)) else .no
def dX : PyData -> Bool
  | .none => true
  | _ => false
def lR (x y : PyData) : R PyData := if dX y = true then .ok (.bool (dX x)) else .no
def ky (x y : PyData) : R PyData := if dX y = true then .ok (.bool (!dX x)) else .no
def kK (xs : List PyData) (d : PyData) : Bool := PyData.canLayAll0 xs && d.canLay0 && decide (min (PyData.depthAll xs) d.depth <= 60)
def kH (neg : Bool) (d : PyData) : PyData -> R PyData
  | .list xs => if kK xs d = true then .ok (.bool (if neg then !(xs.any fun y => PyData.eqv y d) else xs.any fun y => PyData.eqv y d)) else .no
  | .tuple xs => if kK xs d = true then .ok (.bool (if neg then !(xs.any fun y => PyData.eqv y d) else xs.any fun y => PyData.eqv y d)) else .no
  | .dict kvs => if mJ kvs = true then .no else match fY d with
    | some _ => .ok (.bool (if neg then !(kr kvs d).isSome else (kr kvs d).isSome))
    | none => .no
  | _ => .no
section
variable {X : Cx} {a b c : Expr} {fa fb fc : Fe} {pos : Pos}
theorem ci {H : Hp} {i : Int} : Rp H (.int i) (.int i) := by simp only [Rp]
theorem dk {H : Hp} {i : Bool} : Rp H (.bool i) (.bl i) := by simp only [Rp]
theorem qR {H : Hp} {i : Str} : Rp H (.str i) (.str i) := by simp only [Rp]
theorem yg : bu X fO (u5 fun i j => .int (i - j)) o8 := fun H x y dx dy Q hx hy q => by
  unfold o8 at q;split at q
  · exact ⟨_, _, bd hx, bd hy, q _ H (ay.refl _) ci⟩
  · exact q.elim
theorem yo : bu X fO (rI (fun _ j => 0 < j) fun i j => .int (i % j)) bG := fun H x y dx dy Q hx hy q => by
  unfold bG at q;split at q
  · split at q
    · rename_i h; exact ⟨_, _, bd hx, bd hy, h, q _ H (ay.refl _) ci⟩
    · exact q.elim
  · exact q.elim
theorem x6 : bu X fO (rI yT fun i j => .int (i / j)) dt := fun H x y dx dy Q hx hy q => by
  unfold dt at q;split at q
  · split at q
    · rename_i h; exact ⟨_, _, bd hx, bd hy, h, q _ H (ay.refl _) ci⟩
    · exact q.elim
  · exact q.elim
theorem nF {p : Int -> Int -> Bool} : bu X fO (u5 fun i j => .bl (p i j)) (kI p) := fun H x y dx dy Q hx hy q => by
  unfold kI at q;split at q
  · exact ⟨_, _, bd hx, bd hy, q _ H (ay.refl _) dk⟩
  · exact q.elim
theorem l8 (ha : bh X a fa) (hb : bh X b fb) : ah X (.BinOp a .Sub b pos) (e2 o8 fa fb) := j9 dQ xp yg ha hb
theorem Z.l8 (ha : Z.bh X a fa) (hb : Z.bh X b fb) : Z.ah X (.BinOp a .Sub b pos) (e2 o8 fa fb) :=
  ⟨D2.l8 ha.un hb.un⟩
theorem bn (ha : bh X a fa) (hb : bh X b fb) : ah X (.BinOp a .Mod b pos) (e2 bG fa fb) := j9 dQ xM yo ha hb
theorem Z.bn (ha : Z.bh X a fa) (hb : Z.bh X b fb) : Z.ah X (.BinOp a .Mod b pos) (e2 bG fa fb) :=
  ⟨D2.bn ha.un hb.un⟩
theorem cF (ha : bh X a fa) (hb : bh X b fb) : ah X (.BinOp a .FloorDiv b pos) (e2 dt fa fb) := j9 dQ vc x6 ha hb
theorem Z.cF (ha : Z.bh X a fa) (hb : Z.bh X b fb) : Z.ah X (.BinOp a .FloorDiv b pos) (e2 dt fa fb) :=
  ⟨D2.cF ha.un hb.un⟩
abbrev Aw : Int -> Int -> Bool := fun i j => decide (i < j)
abbrev AY : Int -> Int -> Bool := fun i j => decide (i <= j)
abbrev yz : Int -> Int -> Bool := fun i j => decide (j < i)
theorem qf (ha : bh X a fa) (hb : bh X b fb) : gU X (.Compare a [.Lt] [b] pos) (tE (e2 (kI Aw) fa fb)) := iE yS nF ha hb (i4 _)
theorem Z.qf (ha : Z.bh X a fa) (hb : Z.bh X b fb) : Z.gU X (.Compare a [.Lt] [b] pos) (tE (e2 (kI Aw) fa fb)) :=
  ⟨D2.qf ha.un hb.un⟩
theorem pQ (ha : bh X a fa) (hb : bh X b fb) : gU X (.Compare a [.Gt] [b] pos) (tE (e2 (kI yz) fa fb)) := iE yM nF ha hb (i4 _)
theorem Z.pQ (ha : Z.bh X a fa) (hb : Z.bh X b fb) : Z.gU X (.Compare a [.Gt] [b] pos) (tE (e2 (kI yz) fa fb)) :=
  ⟨D2.pQ ha.un hb.un⟩
def vM (X : Cx) (neg : Bool) : R2 := fun x y H Q => ∃ dx dy, fJ H dx x /\ fJ H dy y /\ pd dx dy = true /\ Q (.bl (if neg then !PyData.eqv dx dy else PyData.eqv dx dy)) H
theorem lx {x y : PyData} (h : pd x y = true) : x.canLay0 = true /\ y.canLay0 = true /\ min x.depth y.depth <= 60 := by
  unfold pd at h;rw [Bool.and_eq_true, Bool.and_eq_true, decide_eq_true_eq] at h;exact ⟨h.1.1, h.1.2, h.2⟩
theorem tK (hu : X.A.units + 64 < cLine) : gr X (compareOp .Eq) (vM X false) := by
  intro pins s σ H x y v u Q I rx ry h;obtain ⟨dx, dy, hx, hy, ho, q⟩ := h;obtain ⟨c1, c2, c3⟩ := lx ho;obtain ⟨as, r1⟩ := cC I.hok c1 hx rx;obtain ⟨bs, r2⟩ := cC I.hok c2 hy ry;exact PySem.SeqAt.compareEq_reads r1 r2 c1 c2 (by omega) ⟨.bl _, H, I, rfl, q⟩
theorem x9 (hu : X.A.units + 64 < cLine) : gr X (compareOp .NotEq) (vM X true) := by
  intro pins s σ H x y v u Q I rx ry h;obtain ⟨dx, dy, hx, hy, ho, q⟩ := h;obtain ⟨c1, c2, c3⟩ := lx ho;obtain ⟨as, r1⟩ := cC I.hok c1 hx rx;obtain ⟨bs, r2⟩ := cC I.hok c2 hy ry;exact PySem.SeqAt.compareNe_reads r1 r2 c1 c2 (by omega) ⟨.bl _, H, I, rfl, q⟩
theorem wW : bu X fO (vM X false) lv := fun H x y dx dy Q hx hy q => by
  unfold lv at q;split at q
  · rename_i h; exact ⟨dx, dy, hx, hy, h, q _ H (ay.refl _) dk⟩
  · exact q.elim
theorem yV : bu X fO (vM X true) nQ := fun H x y dx dy Q hx hy q => by
  unfold nQ at q;split at q
  · rename_i h; exact ⟨dx, dy, hx, hy, h, q _ H (ay.refl _) dk⟩
  · exact q.elim
theorem rO (hu : X.A.units + 64 < cLine) (ha : bh X a fa) (hb : bh X b fb) : ah X (.Compare a [.Eq] [b] pos) (e2 lv fa fb) := nr (tK hu) wW ha hb (i4 _)
theorem Z.rO (hu : X.A.units + 64 < cLine) (ha : Z.bh X a fa) (hb : Z.bh X b fb) : Z.ah X (.Compare a [.Eq] [b] pos) (e2 lv fa fb) :=
  ⟨D2.rO hu ha.un hb.un⟩
theorem gA (hu : X.A.units + 64 < cLine) (ha : bh X a fa) (hb : bh X b fb) : gU X (.Compare a [.Eq] [b] pos) (tE (e2 lv fa fb)) := iE (tK hu) wW ha hb (i4 _)
theorem Z.gA (hu : X.A.units + 64 < cLine) (ha : Z.bh X a fa) (hb : Z.bh X b fb) : Z.gU X (.Compare a [.Eq] [b] pos) (tE (e2 lv fa fb)) :=
  ⟨D2.gA hu ha.un hb.un⟩
theorem jg (hu : X.A.units + 64 < cLine) (ha : bh X a fa) (hb : bh X b fb) : gU X (.Compare a [.NotEq] [b] pos) (tE (e2 nQ fa fb)) := iE (x9 hu) yV ha hb (i4 _)
theorem Z.jg (hu : X.A.units + 64 < cLine) (ha : Z.bh X a fa) (hb : Z.bh X b fb) : Z.gU X (.Compare a [.NotEq] [b] pos) (tE (e2 nQ fa fb)) :=
  ⟨D2.jg hu ha.un hb.un⟩
theorem rM {H : Hp} {d : PyData} {x : V} (h : fJ H d x) : decide (x = .non) = dX d := by
  cases d with
  | none => rw [jy h]; rfl
  | bool b => rw [jC h]; rfl
  | int i => rw [bd h]; rfl
  | str y => rw [eN h]; rfl
  | tuple ds => obtain ⟨a, vs, rfl, _⟩ := cc h; rfl
  | list ds => obtain ⟨a, vs, rfl, _⟩ := cM (K := default) h; rfl
  | dict kvs => obtain ⟨a, rfl⟩ := ua h; rfl
theorem xu : bu X fO (fun x y H Q => y = .non /\ Q (.bl (decide (x = .non))) H) lR := fun H x y dx dy Q hx hy q => by
  unfold lR at q;split at q
  · rename_i h;cases dy <;> simp only [dX, Bool.false_eq_true] at h;exact ⟨jy hy, by rw [rM hx]; exact q _ H (ay.refl _) dk⟩
  · exact q.elim
theorem vx : bu X fO (fun x y H Q => y = .non /\ Q (.bl (!decide (x = .non))) H) ky := fun H x y dx dy Q hx hy q => by
  unfold ky at q;split at q
  · rename_i h;cases dy <;> simp only [dX, Bool.false_eq_true] at h;exact ⟨jy hy, by rw [rM hx]; exact q _ H (ay.refl _) dk⟩
  · exact q.elim
theorem lH (ha : bh X a fa) (hb : bh X b fb) : ah X (.Compare a [.Is] [b] pos) (e2 lR fa fb) := nr xo xu ha hb (i4 _)
theorem Z.lH (ha : Z.bh X a fa) (hb : Z.bh X b fb) : Z.ah X (.Compare a [.Is] [b] pos) (e2 lR fa fb) :=
  ⟨D2.lH ha.un hb.un⟩
theorem oh (ha : bh X a fa) (hb : bh X b fb) : ah X (.Compare a [.IsNot] [b] pos) (e2 ky fa fb) := nr wr vx ha hb (i4 _)
theorem Z.oh (ha : Z.bh X a fa) (hb : Z.bh X b fb) : Z.ah X (.Compare a [.IsNot] [b] pos) (e2 ky fa fb) :=
  ⟨D2.oh ha.un hb.un⟩
def Aq (X : Cx) (neg : Bool) : R2 := fun x y H Q => ∃ d xs, fJ H d x /\ (fJ H (.list xs) y \/ fJ H (.tuple xs) y) /\ kK xs d = true /\ Q (.bl (if neg then !(xs.any fun z => PyData.eqv z d) else xs.any fun z => PyData.eqv z d)) H
def xm (X : Cx) (neg : Bool) : R2 := fun x y H Q => Aq X neg x y H Q \/ ∃ a o, y = .ref a /\ lF H a x o /\ Q (.bl (if neg then !o.isSome else o.isSome)) H
theorem k6 {xs : List PyData} {d : PyData} (h : kK xs d = true) : PyData.canLayAll0 xs = true /\ d.canLay0 = true /\ min (PyData.depthAll xs) d.depth <= 60 := by
  unfold kK at h;rw [Bool.and_eq_true, Bool.and_eq_true, decide_eq_true_eq] at h;exact ⟨h.1.1, h.1.2, h.2⟩
theorem uC (hu : X.A.units + 64 < cLine) : gr X (compareOp .In) (xm X false) := by
  intro pins s σ H x y v u Q I rx ry h;rcases h with h | ⟨a, o, rfl, g, q⟩
  case inr =>
    cases ry;exact AF (by omega) I g rx fun s' I' => ⟨.bl _, H, I', rfl, q⟩
  obtain ⟨d, xs, hx, hy, ho, q⟩ := h;obtain ⟨c1, c2, c3⟩ := k6 ho;obtain ⟨as, r1⟩ := cC I.hok c2 hx rx;rcases hy with hy | hy
  · obtain ⟨bs, r2⟩ := cC I.hok (d := .list xs) (by simpa only [PyData.canLay0] using c1) hy ry;exact PySem.SeqAt.in_list_reads r2 r1 c1 c2 (by omega) ⟨.bl _, H, I, rfl, q⟩
  · obtain ⟨bs, r2⟩ := cC I.hok (d := .tuple xs) (by simpa only [PyData.canLay0] using c1) hy ry;exact PySem.SeqAt.in_tuple_reads r2 r1 c1 c2 (by omega) ⟨.bl _, H, I, rfl, q⟩
theorem r9 (hu : X.A.units + 64 < cLine) : gr X (compareOp .NotIn) (xm X true) := by
  intro pins s σ H x y v u Q I rx ry h;rcases h with h | ⟨a, o, rfl, g, q⟩
  case inr =>
    cases ry;exact vp (by omega) I g rx fun s' I' => ⟨.bl _, H, I', rfl, q⟩
  obtain ⟨d, xs, hx, hy, ho, q⟩ := h;obtain ⟨c1, c2, c3⟩ := k6 ho;obtain ⟨as, r1⟩ := cC I.hok c2 hx rx;rcases hy with hy | hy
  · obtain ⟨bs, r2⟩ := cC I.hok (d := .list xs) (by simpa only [PyData.canLay0] using c1) hy ry;exact PySem.SeqAt.notIn_list_reads r2 r1 c1 c2 (by omega) ⟨.bl _, H, I, rfl, q⟩
  · obtain ⟨bs, r2⟩ := cC I.hok (d := .tuple xs) (by simpa only [PyData.canLay0] using c1) hy ry;exact PySem.SeqAt.notIn_tuple_reads r2 r1 c1 c2 (by omega) ⟨.bl _, H, I, rfl, q⟩
theorem uu {neg : Bool} : bu X fO (xm X neg) (kH neg) := fun H x y dx dy Q hx hy q => by
  unfold kH at q;split at q
  · split at q
    · rename_i h; exact .inl ⟨dx, _, hx, .inl hy, h, q _ H (ay.refl _) dk⟩
    · exact q.elim
  · split at q
    · rename_i h; exact .inl ⟨dx, _, hx, .inr hy, h, q _ H (ay.refl _) dk⟩
    · exact q.elim
  · split at q
    · exact q.elim
    rename_i hi;split at q
    · rename_i κ e;obtain ⟨a, ks, rfl, h, r⟩ := jx (Bool.not_eq_true _ ▸ hi) hy;obtain ⟨o, g, e1, _⟩ := rE (κ := κ) h r;rw [<- rb hx e] at g;rw [<- oG e] at e1;exact .inr ⟨a, o, rfl, g, by rw [e1]; exact q _ H (ay.refl _) dk⟩
    · exact q.elim
  · exact q.elim
theorem rz (hu : X.A.units + 64 < cLine) (ha : bh X a fa) (hb : bh X b fb) (hm : behindInMarks .In b = false) : ah X (.Compare a [.In] [b] pos) (e2 (kH false) fa fb) := nr (uC hu) uu ha hb hm
theorem Z.rz (hu : X.A.units + 64 < cLine) (ha : Z.bh X a fa) (hb : Z.bh X b fb) (hm : behindInMarks .In b = false) : Z.ah X (.Compare a [.In] [b] pos) (e2 (kH false) fa fb) :=
  ⟨D2.rz hu ha.un hb.un hm⟩
theorem qF (hu : X.A.units + 64 < cLine) (ha : bh X a fa) (hb : bh X b fb) (hm : behindInMarks .In b = false) : gU X (.Compare a [.In] [b] pos) (tE (e2 (kH false) fa fb)) := iE (uC hu) uu ha hb hm
theorem Z.qF (hu : X.A.units + 64 < cLine) (ha : Z.bh X a fa) (hb : Z.bh X b fb) (hm : behindInMarks .In b = false) : Z.gU X (.Compare a [.In] [b] pos) (tE (e2 (kH false) fa fb)) :=
  ⟨D2.qF hu ha.un hb.un hm⟩
theorem fR (hu : X.A.units + 64 < cLine) (ha : bh X a fa) (hb : bh X b fb) (hm : behindInMarks .NotIn b = false) : gU X (.Compare a [.NotIn] [b] pos) (tE (e2 (kH true) fa fb)) := iE (r9 hu) uu ha hb hm
theorem Z.fR (hu : X.A.units + 64 < cLine) (ha : Z.bh X a fa) (hb : Z.bh X b fb) (hm : behindInMarks .NotIn b = false) : Z.gU X (.Compare a [.NotIn] [b] pos) (tE (e2 (kH true) fa fb)) :=
  ⟨D2.fR hu ha.un hb.un hm⟩
end
inductive qA where
  | nx (ρ : aH)
  | rt (d : PyData)
  | bk (ρ : aH)
  | ct (ρ : aH)
abbrev Fs := aH -> R qA
structure fQ (Fm H : Hp) (σ : St) (ρ : aH) : Prop where
  fm : ay Fm H
  sl : Sl H σ ρ
  own : ∀ (i : Nat) (d : PyData) (a : Addr), ρ[i]? = some (.own d) -> σ[i]? = some (some (.ref a)) -> Fm a = none
  apart : ∀ (i j : Nat) (d e : PyData) (a : Addr), ρ[i]? = some (.own d) -> ρ[j]? = some (.own e) -> σ[i]? = some (some (.ref a)) -> σ[j]? = some (some (.ref a)) -> i = j
theorem fQ.mono {Fm H H' : Hp} {σ : St} {ρ : aH} (h : fQ Fm H σ ρ) (s : ay H H') : fQ Fm H' σ ρ := ⟨h.fm.trans s, h.sl.mono s, h.own, h.apart⟩
def u4 (X : Cx) (Fm : Hp) (r : R qA) (D : nk) : Prop :=
  match r with
  | .ok (.nx ρ) => ∀ σ H, fQ Fm H σ ρ -> D.nx σ H
  | .ok (.rt d) => ∀ v H, ay Fm H -> Rp H d v -> D.rt v H
  | .ok (.bk ρ) => ∀ σ H, fQ Fm H σ ρ -> D.bk σ H
  | .ok (.ct ρ) => ∀ σ H, fQ Fm H σ ρ -> D.ct σ H
  | .ex c => Xw X c Fm /\ yX X c Fm
  | .no => False
def wT (X : Cx) (Fm : Hp) (g : Fs) : TS := fun D σ H => ∃ ρ, fQ Fm H σ ρ /\ u4 X Fm (g ρ) D
def fI (X : Cx) (st : Stmt) (g : Fs) : Prop := ∀ Fm, PS X st (wT X Fm g)
structure Z.fI (X : Cx) (st : Stmt) (g : Fs) : Prop where
  un : D2.fI X st g
def fL (X : Cx) (st : List Stmt) (g : Fs) : Prop := ∀ Fm, og X st (wT X Fm g)
structure Z.fL (X : Cx) (st : List Stmt) (g : Fs) : Prop where
  un : D2.fL X st g
theorem PS.imp {X : Cx} {e : Stmt} {t t' : TS} (h : PS X e t) (i : ∀ D σ H, t' D σ H -> t D σ H) : PS X e t' := fun pins s σ H D I q => h pins s σ H D I (i D σ H q)
theorem og.imp {X : Cx} {e : List Stmt} {t t' : TS} (h : og X e t) (i : ∀ D σ H, t' D σ H -> t D σ H) : og X e t' := fun pins s σ H D I q => h pins s σ H D I (i D σ H q)
section
variable {X : Cx} {Fm : Hp} {σ : St} {H : Hp} {D : nk}
theorem qE {P : Hp -> Hp -> PyData -> V -> Prop} {f : Fe} {k : aH -> PyData -> R qA} (h : wT X Fm (fun ρ => f ρ >>= k ρ) D σ H) :
    gM X P f σ H (fun v H1 => ∃ ρ d, fQ Fm H1 σ ρ /\ ay H H1 /\ P H H1 d v /\ u4 X Fm (k ρ d) D) := by
  obtain ⟨ρ, sl, q⟩ := h;refine ⟨ρ, sl.sl, ?_⟩;dsimp only at q;cases e : f ρ with
  | ok d => rw [e] at q; exact fun v H1 s p => ⟨ρ, d, sl.mono s, s, p, q⟩
  | ex c => rw [e] at q; exact q.1.mono sl.fm
  | no => rw [e] at q; exact q
theorem rj {f : aH -> R Bool} {k : aH -> Bool -> R qA} (h : wT X Fm (fun ρ => f ρ >>= k ρ) D σ H) : vG X f σ H (fun b H1 => ∃ ρ, fQ Fm H1 σ ρ /\ ay H H1 /\ u4 X Fm (k ρ b) D) := by
  obtain ⟨ρ, sl, q⟩ := h;refine ⟨ρ, sl.sl, ?_⟩;dsimp only at q;cases e : f ρ with
  | ok d => rw [e] at q; exact fun H1 s => ⟨ρ, sl.mono s, s, q⟩
  | ex c => rw [e] at q; exact q.1.mono sl.fm
  | no => rw [e] at q; exact q
end
def cm : Fs := fun ρ => .ok (.nx ρ)
def rc (h : Fs) : qA -> R qA
  | .nx ρ => h ρ
  | o => .ok o
def aV (g h : Fs) : Fs := fun ρ => g ρ >>= rc h
def jQ (t : aH -> R Bool) (g h : Fs) : Fs := fun ρ => t ρ >>= fun b => if b = true then g ρ else h ρ
def cD (f : Fe) : Fs := fun ρ => f ρ >>= fun d => .ok (.rt d)
def bF (i : Nat) (f : Fe) : Fs := fun ρ => f ρ >>= fun d => .ok (.nx (ρ.set i (.val d)))
def gX (i : Nat) (f : Fe) : Fs := fun ρ => f ρ >>= fun d => .ok (.nx (ρ.set i (.own d)))
section
variable {X : Cx} {nl : Nat} {G : List Str} {st : Stmt} {sts : List Stmt} {g h : Fs} {f : Fe} {e : Expr} {pos pos' : Pos} {x : Str}
theorem cu : fL X [] cm := fun Fm => og.imp wl fun D σ H ⟨ρ, sl, q⟩ => q σ H sl
theorem Z.cu  : Z.fL X [] cm :=
  ⟨D2.cu⟩
theorem aw (h1 : fI X st g) (h2 : fL X sts h) : fL X (st :: sts) (aV g h) := fun Fm => by
  refine og.imp (uI (h1 Fm) (h2 Fm)) fun D σ H ⟨ρ, sl, q⟩ => ⟨ρ, sl, ?_⟩
  unfold aV at q;cases e : g ρ with
  | ex c => rw [e] at q; exact q
  | no => rw [e] at q; exact q
  | ok o =>
    rw [e] at q;cases o with
    | nx ρ' => exact fun σ' H' s' => ⟨ρ', s', q⟩
    | rt d => exact q
    | bk ρ' => exact q
    | ct ρ' => exact q
theorem Z.aw (h1 : Z.fI X st g) (h2 : Z.fL X sts h) : Z.fL X (st :: sts) (aV g h) :=
  ⟨D2.aw h1.un h2.un⟩
theorem aK (h1 : fI X st g) : fL X [st] g := fun Fm => wy (h1 Fm)
theorem Z.aK (h1 : Z.fI X st g) : Z.fL X [st] g :=
  ⟨D2.aK h1.un⟩
theorem bi (he : ah X e f) : fI X (.Return (some e) pos) (cD f) := fun Fm =>
  PS.imp (xP he) fun D σ H h => (qE (P := fO) (f := f) (k := fun _ d => .ok (.rt d)) h).post fun v H1 ⟨ρ, d, sl, _, p, q⟩ => q v H1 sl.fm p
theorem Z.bi (he : Z.ah X e f) : Z.fI X (.Return (some e) pos) (cD f) :=
  ⟨D2.bi he.un⟩
theorem dn {c : Expr} {a b : List Stmt} {t : aH -> R Bool} (hc : gU X c t) (ha : fL X a g) (hb : fL X b h) : fI X (.If c a b pos) (jQ t g h) := fun Fm =>
  PS.imp (zN hc (ha Fm) (hb Fm)) fun D σ H q => (rj (f := t) (k := fun ρ b => if b = true then g ρ else h ρ) q).post fun b H1 ⟨ρ, sl, _, q⟩ => by
    cases b with
    | true => exact ⟨ρ, sl, q⟩
    | false => exact ⟨ρ, sl, q⟩
theorem Z.dn {c : Expr} {a b : List Stmt} {t : aH -> R Bool} (hc : Z.gU X c t) (ha : Z.fL X a g) (hb : Z.fL X b h) : Z.fI X (.If c a b pos) (jQ t g h) :=
  ⟨D2.dn hc.un ha.un hb.un⟩
theorem Sl.set {H : Hp} {σ : St} {ρ : aH} {c : bg} {o : Option V} (h : Sl H σ ρ) (i : Nat) (hc : io H c o) : Sl H (σ.set i o) (ρ.set i c) := by
  refine ⟨by rw [List.length_set, List.length_set]; exact h.1, fun j c' o' h1 h2 => ?_⟩;rw [List.getElem?_set] at h1 h2;by_cases hij : i = j
  · rw [if_pos hij] at h1 h2;by_cases hi : i < ρ.length
    · rw [if_pos hi] at h1;rw [if_pos (by rw [h.1]; exact hi)] at h2;cases h1; cases h2; exact hc
    · rw [if_neg hi] at h1; cases h1
  · rw [if_neg hij] at h1 h2;exact h.2 j c' o' h1 h2
theorem bU {ρ : aH} {i j : Nat} {c : bg} {d : PyData} (hc : ∀ e, c ≠ .own e) (h : (ρ.set i c)[j]? = some (.own d)) : i ≠ j /\ ρ[j]? = some (.own d) := by
  rw [List.getElem?_set] at h;by_cases hij : i = j
  · rw [if_pos hij] at h;split at h
    · exact absurd (Option.some.inj h) (hc d)
    · cases h
  · rw [if_neg hij] at h; exact ⟨hij, h⟩
theorem fQ.set {Fm H : Hp} {σ : St} {ρ : aH} {c : bg} {o : Option V} (h : fQ Fm H σ ρ) (i : Nat) (hn : ∀ e, c ≠ .own e) (hc : io H c o) : fQ Fm H (σ.set i o) (ρ.set i c) := by
  refine ⟨h.fm, h.sl.set i hc, fun j d a h1 h2 => ?_, fun j k d e a h1 h2 h3 h4 => ?_⟩
  · obtain ⟨ne, h1⟩ := bU hn h1;rw [List.getElem?_set, if_neg ne] at h2;exact h.own j d a h1 h2
  · obtain ⟨ne, h1⟩ := bU hn h1;obtain ⟨ne', h2⟩ := bU hn h2;rw [List.getElem?_set, if_neg ne] at h3;rw [List.getElem?_set, if_neg ne'] at h4;exact h.apart j k d e a h1 h2 h3 h4
theorem nK {H : Hp} {d : PyData} {v : V} (h : iI H d v) : ∃ a o, v = .ref a /\ H a = some o := by
  cases d <;> simp only [iI] at h
  · obtain ⟨a, vs, e, ha, _⟩ := h; exact ⟨a, _, e, ha⟩
  · obtain ⟨a, vs, e, ha, _⟩ := h; exact ⟨a, _, e, ha⟩
theorem fQ.setOwn {Fm H0 H : Hp} {σ : St} {ρ : aH} {d : PyData} {v : V} (h0 : fQ Fm H0 σ ρ) (h : fQ Fm H σ ρ) (hs : ay H0 H) (i : Nat) (hn : yA H0 H d v) : fQ Fm H (σ.set i (some v)) (ρ.set i (.own d)) := by
  obtain ⟨p, a, rfl, ha⟩ := hn;have old : ∀ (j : Nat) (e : PyData) (b : Addr), i ≠ j -> (ρ.set i (.own d))[j]? = some (.own e) -> (σ.set i (some (.ref a)))[j]? = some (some (.ref b)) -> ρ[j]? = some (.own e) /\ σ[j]? = some (some (.ref b)) := fun j e b ne h1 h2 => by
    rw [List.getElem?_set, if_neg ne] at h1 h2;exact ⟨h1, h2⟩
  have notA : ∀ (j : Nat) (e : PyData), ρ[j]? = some (.own e) -> σ[j]? = some (some (.ref a)) -> False := fun j e h1 h2 => by
    obtain ⟨u, e1, q⟩ := h0.sl.2 j _ _ h1 h2;cases e1;obtain ⟨b, o, e2, hb⟩ := nK q;cases e2;rw [ha] at hb; cases hb
  have here : ∀ (b : Addr), (σ.set i (some (.ref a)))[i]? = some (some (.ref b)) -> b = a := fun b h2 => by
    rw [List.getElem?_set, if_pos rfl] at h2;split at h2
    · cases h2; rfl
    · cases h2
  refine ⟨h.fm, h.sl.set i ⟨_, rfl, p⟩, fun j e b h1 h2 => ?_, fun j k e f b h1 h2 h3 h4 => ?_⟩
  · by_cases hij : i = j
    · subst hij;rw [here b h2];exact (h0.fm).free ha
    · obtain ⟨h1, h2⟩ := old j e b hij h1 h2;exact h.own j e b h1 h2
  · by_cases hij : i = j
    · subst hij;have eb := here b h3;by_cases hik : i = k
      · exact hik
      · obtain ⟨h2, h4⟩ := old k f b hik h2 h4;rw [eb] at h4;exact (notA k f h2 h4).elim
    · obtain ⟨h1, h3⟩ := old j e b hij h1 h3;by_cases hik : i = k
      · subst hik;have eb := here b h4;rw [eb] at h3;exact (notA j e h1 h3).elim
      · obtain ⟨h2, h4⟩ := old k f b hik h2 h4;exact h.apart j k e f b h1 h2 h3 h4
theorem bf (T : Tb X nl G) (i : Nat) (hN : (X.N.take nl)[i]? = some x) (he : ah X e f) (hs : swapsWith e (some (.Name x pos')) pos.line X.env = pure false := by rfl) : fI X (.Assign [.Name x pos'] e pos) (bF i f) := fun Fm => by
  have hm := T.loc x (List.mem_of_getElem? hN);have hi : X.N[i]? = some x := by
    rw [List.getElem?_take] at hN;split at hN
    · exact hN
    · cases hN
  exact PS.imp (tN T.nd hi hm.1 he hs hm.2) fun D σ H h => (qE (P := fO) (f := f) (k := fun ρ d => .ok (.nx (ρ.set i (.val d)))) h).post fun v H1 ⟨ρ, d, sl, _, p, q⟩ =>
    q _ H1 (sl.set i (fun e z => by cases z) ⟨v, rfl, p⟩)
theorem Z.bf (T : Tb X nl G) (i : Nat) (hN : (X.N.take nl)[i]? = some x) (he : Z.ah X e f) (hs : swapsWith e (some (.Name x pos')) pos.line X.env = pure false := by rfl) : Z.fI X (.Assign [.Name x pos'] e pos) (bF i f) :=
  ⟨D2.bf T i hN he.un hs⟩
theorem jT (T : Tb X nl G) (i : Nat) (hN : (X.N.take nl)[i]? = some x) (he : eL X e f) (hs : swapsWith e (some (.Name x pos')) pos.line X.env = pure false := by rfl) : fI X (.Assign [.Name x pos'] e pos) (gX i f) := fun Fm => by
  have hm := T.loc x (List.mem_of_getElem? hN);have hi : X.N[i]? = some x := by
    rw [List.getElem?_take] at hN;split at hN
    · exact hN
    · cases hN
  refine PS.imp (tN T.nd hi hm.1 he hs hm.2) fun D σ H h => ?_
  obtain ⟨ρ0, sl0, q0⟩ := h;refine ⟨ρ0, sl0.sl, ?_⟩;unfold gX at q0;cases ef : f ρ0 with
  | ex c => rw [ef] at q0; exact q0.1.mono sl0.fm
  | no => rw [ef] at q0; exact q0
  | ok d =>
    rw [ef] at q0;exact fun v H1 s p => q0 _ H1 (fQ.setOwn sl0 (sl0.mono s) s i p)
theorem Z.jT (T : Tb X nl G) (i : Nat) (hN : (X.N.take nl)[i]? = some x) (he : Z.eL X e f) (hs : swapsWith e (some (.Name x pos')) pos.line X.env = pure false := by rfl) : Z.fI X (.Assign [.Name x pos'] e pos) (gX i f) :=
  ⟨D2.jT T i hN he.un hs⟩
end
structure wz (J : It) (Gd : Hp -> Prop) (ds : List PyData) : Prop where
  go : ∀ i H, Gd H -> i < ds.length -> J.go i H
  yld : ∀ i H x H' d, Gd H -> ds[i]? = some d -> J.yld i H x H' -> ay H H' /\ Rp H' d x
  stop : ∀ i H, Gd H -> ds.length <= i -> J.stop i H
def z9 (H0 : Hp) (B : Addr -> Prop) (Gd : Hp -> Prop) : Prop := ∀ H, Kp H0 H -> (∀ b o, B b -> H0 b = some o -> H b = some o) -> Gd H
def AU (X : Cx) (f : aH -> R (List PyData)) : TI := fun σ H Rk => ∃ ρ, Sl H σ ρ /\ match f ρ with
  | .ok ds => ∀ J H', ay H H' -> (∃ Gd, wz J Gd ds /\ z9 H' (fun _ => False) Gd) -> Rk J H'
  | .ex c => Xw X c H
  | .no => False
def mF (X : Cx) (tg iter : Expr) (f : aH -> R (List PyData)) : Prop := PI X tg iter (AU X f)
structure Z.mF (X : Cx) (tg iter : Expr) (f : aH -> R (List PyData)) : Prop where
  un : D2.mF X tg iter f
def AV (X : Cx) (b : PyData -> aH -> Option aH) : TG := fun v σ H Q => ∃ ρ d, Sl H σ ρ /\ Rp H d v /\ match b d ρ with
  | some ρ' => ∀ σ', Sl H σ' ρ' -> (∀ (i : Nat) (e : PyData), ρ'[i]? = some (.own e) -> ρ[i]? = some (.own e) /\ σ'[i]? = σ[i]?) -> Q σ' H
  | none => False
def oJ (X : Cx) (tg : Expr) (b : PyData -> aH -> Option aH) : Prop := PG X tg (AV X b)
structure Z.oJ (X : Cx) (tg : Expr) (b : PyData -> aH -> Option aH) : Prop where
  un : D2.oJ X tg b
def dq (i : Nat) : PyData -> aH -> Option aH := fun d ρ => some (ρ.set i (.val d))
theorem PG.imp {X : Cx} {e : Expr} {t t' : TG} (h : PG X e t) (i : ∀ v σ H Q, t' v σ H Q -> t v σ H Q) : PG X e t' := fun pins s σ H v u Q I r q => h pins s σ H v u Q I r (i v σ H Q q)
theorem PI.imp {X : Cx} {tg e : Expr} {t t' : TI} (h : PI X tg e t) (i : ∀ σ H Q, t' σ H Q -> t σ H Q) : PI X tg e t' := fun pins s σ H Q I q => h pins s σ H Q I (i σ H Q q)
section
variable {X : Cx} {nl : Nat} {G : List Str} {x : Str} {pos : Pos}
theorem Tb.nm (T : Tb X nl G) {i : Nat} (hN : (X.N.take nl)[i]? = some x) : X.N[i]? = some x /\ w9 X.env.scope x /\ (X.fn x = true \/ X.env.scope.names.lookup x = some .local) := by
  have hm := T.loc x (List.mem_of_getElem? hN);have hi : X.N[i]? = some x := by
    rw [List.getElem?_take] at hN;split at hN
    · exact hN
    · cases hN
  exact ⟨hi, hm⟩
theorem gv (T : Tb X nl G) (i : Nat) (hN : (X.N.take nl)[i]? = some x) : oJ X (.Name x pos) (dq i) := by
  obtain ⟨hi, h1, h2⟩ := T.nm hN;refine PG.imp (nO T.nd hi h1 h2) fun v σ H Q ⟨ρ, d, sl, p, q⟩ => ?_
  refine q _ (sl.set i ⟨v, rfl, p⟩) fun j e h => ?_
  obtain ⟨ne, h⟩ := bU (fun e z => by cases z) h;exact ⟨h, by rw [List.getElem?_set, if_neg ne]⟩
theorem Z.gv (T : Tb X nl G) (i : Nat) (hN : (X.N.take nl)[i]? = some x) : Z.oJ X (.Name x pos) (dq i) :=
  ⟨D2.gv T i hN⟩
end
def fG (b : PyData -> aH -> Option aH) (g : Fs) : List PyData -> Fs
  | [], ρ => .ok (.nx ρ)
  | d :: ds, ρ => match b d ρ with
    | none => .no
    | some ρ1 => g ρ1 >>= fun o => match o with
      | .nx ρ2 => fG b g ds ρ2
      | .ct ρ2 => fG b g ds ρ2
      | .bk ρ2 => .ok (.nx ρ2)
      | .rt r => .ok (.rt r)
def qY (it : aH -> R (List PyData)) (b : PyData -> aH -> Option aH) (g : Fs) : Fs := fun ρ => it ρ >>= fun ds => fG b g ds ρ
def stab (Fm H : Hp) : Hp := fun b => match H b with
  | some (.tup xs) => some (.tup xs)
  | some (.frz o u) => some (.frz o u)
  | _ => Fm b
theorem sI {Fm H : Hp} (h : ay Fm H) : ay (stab Fm H) H := fun b o e => by
  unfold stab at e;split at e
  · rename_i q; rw [q]; exact e
  · rename_i q; rw [q]; exact e
  · exact h b o e
theorem vH {Fm H : Hp} : Kp H (stab Fm H) := ⟨fun b xs e => by unfold stab; rw [e], fun b o u e => by unfold stab; rw [e]⟩
theorem wH {Fm H : Hp} (h : ay Fm H) : ay Fm (stab Fm H) := fun b o e => by
  have := h b o e;unfold stab;split
  · rename_i q; rw [this] at q; exact q.symm
  · rename_i q; rw [this] at q; exact q.symm
  · exact e
theorem fQ.stab {Fm H : Hp} {σ : St} {ρ : aH} (h : fQ Fm H σ ρ) : fQ (stab Fm H) H σ ρ := by
  refine ⟨sI h.fm, h.sl, fun i d a h1 h2 => ?_, h.apart⟩;have f := h.own i d a h1 h2;obtain ⟨u, e1, q⟩ := h.sl.2 i _ _ h1 h2;cases e1;unfold D2.stab;cases d <;> simp only [iI] at q
  · obtain ⟨b, vs, e, hb, _⟩ := q; cases e; rw [hb]; exact f
  · obtain ⟨b, vs, e, hb, _⟩ := q; cases e; rw [hb]; exact f
theorem fQ.unstab {Fm F H : Hp} {σ : St} {ρ : aH} (hF : ay Fm F) (h : fQ F H σ ρ) : fQ Fm H σ ρ := ⟨hF.trans h.fm, h.sl, fun i d a h1 h2 => hF.free (h.own i d a h1 h2), h.apart⟩
theorem l6 {X : Cx} {tg iter : Expr} {body : List Stmt} {it : aH -> R (List PyData)} {b : PyData -> aH -> Option aH} {g : Fs} {pos : Pos} (hp : PassesOwn (model X.prog X.w) X.A X.env X.xe) (hc : X.calm = true) (hi : mF X tg iter it) (hg : oJ X tg b)
    (hb : fL X body g) (hs : ∀ x, foldedSetIterable iter X.env x = pure x := by intro _; rfl) : fI X (.For tg iter body [] pos) (qY it b g) := fun Fm => by
  intro pins s σ H D I h;obtain ⟨ρ, sl, q⟩ := h;unfold qY at q
  -- the frame: what is stable at the loop's gJ is only known behind the iterator's making: the body is taken at every frame
  refine yq (wi := AU X it) (g := AV X b) (tb := fun D' σ' H' => ∃ F, wT X F g D' σ' H') hp hc hi hg (fun pins' s' σ' H' D' I' ⟨F, q'⟩ => hb F pins' s' σ' H' D' I' q') hs pins s σ H D I ?_;refine ⟨ρ, sl.sl, ?_⟩;cases ei : it ρ with
  | ex c => rw [ei] at q; exact q.1.mono sl.fm
  | no => rw [ei] at q; exact q
  | ok ds =>
    rw [ei] at q;intro J H1 s1 ⟨Gd, idt, sta⟩;have sl1 := sl.mono s1;let F := stab Fm H1
    have hF : ay Fm F := wH sl1.fm
    -- the word: so many items are taken, and the bR gives what the whole gives
    refine ⟨fun i m σ' H' => m = ds.length - i /\ i <= ds.length /\ ∃ ρ', fQ F H' σ' ρ' /\ u4 X Fm (fG b g (ds.drop i) ρ') D, ⟨ds.length, by simp, Nat.zero_le _, ρ, sl1.stab, by simpa using q⟩, ?_⟩;rintro i m σ2 H2 ⟨rfl, hi', ρ2, sl2, q2⟩;have gd : Gd H2 := sta H2 (Kp.trans vH (Kp.of sl2.fm)) fun _ _ z => z.elim
    by_cases hlt : i < ds.length
    · refine .inr ⟨idt.go i H2 gd hlt, fun σ' H' => i + 1 <= ds.length /\ ∃ ρ', fQ F H' σ' ρ' /\ u4 X Fm (fG b g (ds.drop (i + 1)) ρ') D, fun σ' H' ⟨z, p⟩ => ⟨ds.length - (i + 1), by omega, rfl, z, p⟩, fun x H3 y => ?_⟩;obtain ⟨d, hd⟩ : ∃ d, ds[i]? = some d := ⟨ds[i], List.getElem?_eq_getElem hlt⟩
      obtain ⟨s3, p3⟩ := idt.yld i H2 x H3 d gd hd y;have hdrop : ds.drop i = d :: ds.drop (i + 1) := by
        rw [List.drop_eq_getElem_cons hlt];congr 1;exact Option.some.inj ((List.getElem?_eq_getElem hlt).symm.trans hd)
      rw [hdrop] at q2;unfold fG at q2;have sl3 := sl2.mono s3;refine ⟨ρ2, d, sl3.sl, p3, ?_⟩;cases eb : b d ρ2 with
      | none => rw [eb] at q2; exact q2
      | some ρ3 =>
        rw [eb] at q2;intro σ4 sl4 hown;refine ⟨F, ρ3, ⟨sl3.fm, sl4, fun j e a h1 h2 => ?_, fun j k e f a h1 h2 h3 h4 => ?_⟩, ?_⟩
        · obtain ⟨z1, z2⟩ := hown j e h1;exact sl3.own j e a z1 (by rw [<- z2]; exact h2)
        · obtain ⟨z1, z2⟩ := hown j e h1;obtain ⟨z3, z4⟩ := hown k f h2;exact sl3.apart j k e f a z1 z3 (by rw [<- z2]; exact h3) (by rw [<- z4]; exact h4)
        · have q3 : u4 X Fm (g ρ3 >>= fun o => match o with
            | .nx ρ2 => fG b g (ds.drop (i + 1)) ρ2
            | .ct ρ2 => fG b g (ds.drop (i + 1)) ρ2
            | .bk ρ2 => .ok (.nx ρ2)
            | .rt r => .ok (.rt r)) D := q2
          cases eg : g ρ3 with
          | ex c => rw [eg] at q3; exact ⟨q3.1.mono hF, q3.2.mono hF⟩
          | no => rw [eg] at q3; exact q3
          | ok o =>
            rw [eg] at q3;cases o with
            | nx ρ4 => exact fun σ' H' s' => ⟨hlt, ρ4, s', q3⟩
            | ct ρ4 => exact fun σ' H' s' => ⟨hlt, ρ4, s', q3⟩
            | bk ρ4 => exact fun σ' H' s' => q3 σ' H' (s'.unstab hF)
            | rt r => exact fun v H' s' p' => q3 v H' (hF.trans s') p'
    · have e : i = ds.length := by omega
      subst e;refine .inl ⟨idt.stop _ H2 gd (Nat.le_refl _), ?_⟩;rw [List.drop_length] at q2;exact q2 σ2 H2 (sl2.unstab hF)
theorem Z.l6 {X : Cx} {tg iter : Expr} {body : List Stmt} {it : aH -> R (List PyData)} {b : PyData -> aH -> Option aH} {g : Fs} {pos : Pos} (hp : PassesOwn (model X.prog X.w) X.A X.env X.xe) (hc : X.calm = true) (hi : Z.mF X tg iter it) (hg : Z.oJ X tg b) (hb : Z.fL X body g) (hs : ∀ x, foldedSetIterable iter X.env x = pure x := by intro _; rfl) : Z.fI X (.For tg iter body [] pos) (qY it b g) :=
  ⟨D2.l6 hp hc hi.un hg.un hb.un hs⟩
def eM (n : Nat) (g : Fs) : List PyData -> R PyData := fun ds => g (ds.map bg.val ++ List.replicate (n - ds.length) .non) >>= fun o => match o with
  | .rt d => .ok d
  | .nx _ => .ok .none
  | _ => .no
def dM (F : List PyData -> R PyData) (n : Nat) : Sp := fun vs H Q E => ∃ ds, bo H ds vs /\ ds.length = n /\ match F ds with
  | .ok d => ∀ v H', ay H H' -> Rp H' d v -> Q v H'
  | .ex c => ∀ H', ay H H' -> E (.str c 0) none H'
  | .no => False
theorem uL {H : Hp} {N : List Str} : ∀ {ds : List PyData} {vs : List V}, bo H ds vs -> Sl H (L2.gJ N vs) (ds.map bg.val ++ List.replicate (N.length - ds.length) .non) := fun {ds vs} r => by
  have hl := r.length;refine ⟨by unfold L2.gJ; rw [List.length_append, List.length_append, List.length_map, List.length_map, List.length_replicate, List.length_replicate, hl], fun i c o h1 h2 => ?_⟩;by_cases hi : i < ds.length
  · rw [List.getElem?_append_left (by simpa using hi), List.getElem?_map] at h1;cases e : ds[i]? with
    | none => rw [e] at h1; cases h1
    | some d =>
      rw [e] at h1;cases h1;obtain ⟨v, e1, p⟩ := r.get e;unfold L2.gJ at h2;rw [List.getElem?_append_left (by rw [List.length_map, hl]; exact hi), List.getElem?_map, e1] at h2;cases h2;exact ⟨v, rfl, p⟩
  · rw [List.getElem?_append_right (by simpa using hi), List.getElem?_replicate] at h1;split at h1
    · cases h1; exact True.intro
    · cases h1
section
variable {P : Program} {w : World} {H : Hp} {h : Heap} {a : Addr}
theorem qO : ∀ {o : HO}, bE P w H h a o -> ∃ u, h.get? a = some u
  | .lst xs, x => by obtain ⟨_, _, _, _, e⟩ := x; exact ⟨_, e⟩
  | .tup xs, x => by obtain ⟨_, _, _, o, e, _⟩ := x; exact ⟨_, e⟩
  | .dK kvs, x => by obtain ⟨_, _, _, _, o, _, _, e, _⟩ := x; exact ⟨_, e⟩
  | .dT kvs, x => by obtain ⟨_, _, _, _, o, _, _, e, _⟩ := x; exact ⟨_, e⟩
  | .set S n, x => by obtain ⟨o, _, _, _, e, _⟩ := x; exact ⟨_, e⟩
  | .ins C dx fs, x => by obtain ⟨_, _, _, e, _⟩ := x; exact ⟨_, e⟩
  | .own y, x => by obtain ⟨_, e⟩ := x; exact ⟨_, e⟩
  | .xd fs, x => by obtain ⟨_, ⟨_, _, _, e, _⟩, _⟩ := x; exact ⟨_, e⟩
  | .rng lo hi, x => by obtain ⟨_, _, _, e⟩ := x; exact ⟨_, e⟩
  | .frz ob u, x => by obtain ⟨e, _⟩ := x; exact ⟨_, e⟩
  | .tbl ps, x => ⟨_, (show h.get? a = some _ from x)⟩
  | .met f y, x => ⟨_, (show h.get? a = some _ from x)⟩
  | .ext φ, x => by obtain ⟨_, ⟨_, e⟩, _⟩ := x; exact ⟨_, e⟩
end
theorem oa.un {P : Program} {w : World} {outer : List Env} {H H' : Hp} {s s' : Shared} {C : Addr} {e : Value} (f : oa P w outer H s C H' e s') : Un (jh outer) [] H H' s.heap s'.heap := by
  obtain ⟨p, a0, B, _, fl, ok, _, cov⟩ := f.ex;refine ⟨fun b o q n hb _ => fl.1 _ _ (cov b o q n hb).1, fun b o q n hb _ => (f.slot b o q n hb).1, fun b o q n _ => ?_, fun b o q _ => ?_, fun b xs q => f.same _ _ q, fun b o u q => f.same _ _ q, fun b ps q => ⟨#[], by rw [f.same _ _ q]; simp⟩⟩
  · by_cases hb : b ∈ jh outer
    · exact (f.slot b o q n hb).2
    · exact (cov b o q n hb).2
  · cases n : H b with
    | none =>
      by_cases hb : b ∈ jh outer
      · obtain ⟨sl, z⟩ := (f.slot b o q n hb).1; exact ⟨_, z⟩
      · exact ⟨o, fl.1 _ _ (cov b o q n hb).1⟩
    | some u =>
      obtain ⟨o', z⟩ := qO (ok b u (f.same _ _ n));exact ⟨o', fl.1 _ _ z⟩
theorem oa.hok {P : Program} {w : World} {outer : List Env} {H H' : Hp} {s s' : Shared} {C : Addr} {e : Value} (f : oa P w outer H s C H' e s') : fH P w H' s'.heap := by
  obtain ⟨p, a0, B, _, fl, ok, _, _⟩ := f.ex;exact ok.kept fun b u q => fl.1 b u q
theorem kw.un {P : Program} {w : World} {outer : List Env} {H H' : Hp} {s s' : Shared} {C : Addr} {e : Value} (f : kw P w outer H s C H' e s') : Un (jh outer) [] H H' s.heap s'.heap := f.hld.un
theorem kw.hok {P : Program} {w : World} {outer : List Env} {H H' : Hp} {s s' : Shared} {C : Addr} {e : Value} (f : kw P w outer H s C H' e s') : fH P w H' s'.heap := f.hld.hok
theorem oa.inv {X : Cx} {pins : List (Addr × Obj)} {σ : St} {Hc H1 : Hp} {sc s' : Shared} {C : Addr} {e : Value} (f : oa X.prog X.w X.stack Hc sc C H1 e s') (I : aE X pins σ Hc sc) : aE X pins σ H1 s' :=
  I.call' f.os f.un f.hok f.bare fun b z => absurd z (by simp)
section
variable {P : Program} {w : World} {l : List Env} {H H' : Hp} {s s' : Shared} {C p : Addr} {e : Value}
theorem oa.again {a0 : Value} {B h' : Heap} (f : oa P w l H s C H' e s') (t : oU B l p (.ref C) a0 s'.heap) (t' : oU B l p (.ref C) a0 h') (up : s'.heap.UpToSlots h') (okB : fH P w H' B) (hp : H' p = none)
    (cov : ∀ b o, s.heap.get? b = some o -> H b = none -> b ∉ jh l -> B.get? b = some o /\ H' b = none) : oa P w l H s C H' (.ref p) { s' with heap := h' } := by
  refine ⟨f.os, f.bare, f.same, ⟨p, a0, B, rfl, t', okB, hp, cov⟩, fun b o q n hb => ?_⟩;obtain ⟨⟨sl, q2⟩, n2⟩ := f.slot b o q n hb;obtain ⟨_, o3, q3, nf⟩ := t.2.2.1.mem hb;rw [q2] at q3;cases q3;obtain ⟨sl3, q4⟩ := up b _ q2 nf;exact ⟨⟨sl3, q4⟩, n2⟩
theorem uR {x : Value} {env env0 : Env} (h : env.frame = env0.frame) : noteFrame x env = noteFrame x env0 := by
  unfold noteFrame PySem.frameOf;rw [h]
theorem oa.note {M : Model} {A : Around} {E : Value -> Shared -> Prop} {Q : Unit -> Shared -> Prop} {env env0 : Env} {outer : List Env} {L : Addr} (f : oa P w l H s C H' e s') (hl : l = env0 :: outer) (hfr : A.frames = some l) (h0 : env0.frame = some L) (h1 : env.frame = some L)
    (k : ∀ h', oa P w l H s C H' e { s' with heap := h' } -> s'.heap.UpToSlots h' -> Q () { s' with heap := h' }) : wpAny M A (noteFrame e env) Q E s' := by
  subst hl;obtain ⟨p, a0, B, rfl, t, okB, hp, cov⟩ := f.ex;rw [uR (h1.trans h0.symm)];exact oY hfr h0 t fun h' t' up => k h' (f.again t t' up okB hp cov) up
theorem oa.pass {α : Type} {M : Model} {A : Around} {E : Value -> Shared -> Prop} {Q : α -> Shared -> Prop} {env : Env} {what : String} (f : oa P w l H s C H' e s') (k : ∀ h', oa P w l H s C H' e { s' with heap := h' } -> E e { s' with heap := h' }) : wpAny M A (PySem.passOn what e env : Sem α) Q E s' := by
  obtain ⟨p, a0, B, rfl, t, okB, hp, cov⟩ := f.ex;exact uP t fun h' t' up => k h' (f.again t t' up okB hp cov)
end
section
variable {P : Program} {w : World} {K : PySem.W.Frag} {mg : Str -> Option Value} {base : Heap} {N : List Str} {qual : Str} {sc : Scope} {f : Addr} {cdv : Value} {A : Around} {outer : List Env} {s : Shared} {H : Hp} {E : XK} {c : Str}
theorem yc (h : ∀ H', ay H H' -> E (.str c 0) none H') : Xw (dZ (dc P w mg) P w K mg base N qual sc f cdv A outer s H E) c H := by
  intro H1 s1 C hm pins σ Hc sc' e s' I fl;obtain ⟨p, a0, B, rfl, fly, okB, hp, cov⟩ := fl.ex;have old : ∀ b o, s.heap.get? b = some o -> b ≠ s.heap.objs.size := fun b o q => Nat.ne_of_lt (Heap.lt_size q)
  refine sK I.ok.frames rfl fly fun h' fl' up => ⟨c, C, H1, hm, ⟨fl.os.trans I.os, fl.bare, s1, ⟨p, a0, B, rfl, fl', okB, hp, fun b o q n hb => ?_⟩, fun b o q n hb => ?_⟩, h H1 s1⟩
  · have q1 := I.base.keep b o q n hb (by simp [dZ]);have n1 := I.base.free b o q n (by simp [dZ]);refine cov b o q1 n1 fun z => ?_
    have z' : b ∈ (s.heap.objs.size :: jh outer) := z;rcases List.mem_cons.mp z' with z2 | z2
    · exact old b o q z2
    · exact hb z2
  · obtain ⟨sl, q1⟩ := I.base.slot b o q n hb (by simp [dZ]);have n1 := I.base.free b o q n (by simp [dZ]);have hb' : b ∈ jh (dZ (dc P w mg) P w K mg base N qual sc f cdv A outer s H E).stack := List.mem_cons_of_mem _ hb;obtain ⟨⟨sl', q2⟩, n2⟩ := fl.slot b _ q1 n1 hb';obtain ⟨_, o3, q3, nf⟩ := fly.2.2.1.mem hb';rw [q2] at q3;cases q3;obtain ⟨sl3, q4⟩ := up b _ q2 nf;exact ⟨⟨sl3, q4⟩, n2⟩
theorem vi (h : ∀ H', ay H H' -> E (.str c 0) none H') : yX (dZ (dc P w mg) P w K mg base N qual sc f cdv A outer s H E) c H := by
  intro C hm pins σ Hm sm sH I h' p vs hx;have hin : ∀ env ∈ (dZ (dc P w mg) P w K mg base N qual sc f cdv A outer s H E).stack, ∀ b, env.frame = some b -> b ∈ jh (dZ (dc P w mg) P w K mg base N qual sc f cdv A outer s H E).stack := fun env he b hb => List.mem_filterMap.mpr ⟨env, he, hb⟩
  have old : ∀ b o, s.heap.get? b = some o -> b ≠ s.heap.objs.size := fun b o q => Nat.ne_of_lt (Heap.lt_size q)
  refine wpAny_leaves_madeW (s := { sm with heap := h' }) (base := PySem.W.hideAll sm.heap (jh (dZ (dc P w mg) P w K mg base N qual sc f cdv A outer s H E).stack)) I.ok.frames rfl (fun b o q => PySem.W.of_hideAll _ q) (PySem.W.funFrames_hide I.stack hin) hx fun h'' t fl' _ _ up =>
    ⟨c, C, Hm, hm, ⟨I.os, I.bare, sH, ⟨p, .ref t, _, rfl, fl', fun b u q => ?_, ?_, fun b o q n hb => ?_⟩, fun b o q n hb => ?_⟩, h Hm sH⟩
  · refine (I.hok b u q).stay (fun c' v hc z => PySem.W.hideAll_get _ z fun m => ?_) (fun _ z => z) fun _ _ z => z
    have hn := I.stkFree c' m;rcases hc with rfl | hc
    · rw [hn] at q; cases q
    · rw [hn] at hc; cases hc
  · cases q : Hm p with
    | none => rfl
    | some u =>
      obtain ⟨o', z⟩ := qO (I.hok p u q);rw [hx.new] at z; cases z
  · have q1 := I.base.keep b o q n hb (by simp [dZ]);have n1 := I.base.free b o q n (by simp [dZ]);refine ⟨PySem.W.hideAll_get _ q1 fun z => ?_, n1⟩;have z' : b ∈ (s.heap.objs.size :: jh outer) := z;rcases List.mem_cons.mp z' with z2 | z2
    · exact old b o q z2
    · exact hb z2
  · obtain ⟨sl, q1⟩ := I.base.slot b o q n hb (by simp [dZ]);have n1 := I.base.free b o q n (by simp [dZ]);have hb' : b ∈ jh (dZ (dc P w mg) P w K mg base N qual sc f cdv A outer s H E).stack := List.mem_cons_of_mem _ hb;obtain ⟨_, o3, q3, nf⟩ := I.stack.mem hb';rw [q1] at q3;cases q3;obtain ⟨sl3, q4⟩ := up b _ (hx.keeps _ _ q1) nf;exact ⟨⟨sl3, q4⟩, n1⟩
end
theorem nL {P : Program} {w : World} {K : PySem.W.Frag} {mg : Str -> Option Value} {base : Heap} {x qual : Str} {st : Stmt} {f : Addr} {fd : FuncData} {N ps : List Str} {k : Nat} {g : Fs} (F : ji K x qual st f fd) (S : ba N ps (al st))
    (body : ∀ (cdv : Value) (A : Around) (outer : List Env) (s : Shared) (H : Hp) (E : XK), dG k (A.deeper (envOfC qual (al st) s.heap.objs.size f cdv)) ->
      fL (dZ (dc P w mg) P w K mg base N qual (al st) f cdv A outer s H E) (dj st) g) : bj P w K mg base (dc P w mg) (k + 1) f fd ps (dM (eM N.length g) ps.length) := by
  obtain ⟨oc, od, kV, doc, pm, an, cdv, ct, osl, rfl, lk, hcd⟩ := F.ex;refine wS lk hcd S (fun vs H Q E ⟨ds, r, hl, _⟩ => by rw [r.length]; exact hl) fun A outer s H vs Q E hr h => ?_
  obtain ⟨ds, r, hl, q⟩ := h;have noOwn : ∀ (i : Nat) (d : PyData), (ds.map bg.val ++ List.replicate (N.length - ds.length) bg.non)[i]? = some (.own d) -> False := fun i d h1 => by
    by_cases hi : i < ds.length
    · rw [List.getElem?_append_left (by simpa using hi), List.getElem?_map] at h1;cases e : ds[i]? with
      | none => rw [e] at h1; cases h1
      | some d => rw [e] at h1; cases h1
    · rw [List.getElem?_append_right (by simpa using hi), List.getElem?_replicate] at h1;split at h1
      · cases h1
      · cases h1
  refine ⟨_, body cdv A outer s H E hr H, _, ⟨ay.refl _, uL r, fun i d a h1 h2 => (noOwn i d h1).elim, fun i j d e a h1 h2 h3 h4 => (noOwn i d h1).elim⟩, ?_⟩;unfold eM at q;cases eg : g (ds.map bg.val ++ List.replicate (N.length - ds.length) .non) with
  | ex c => rw [eg] at q; exact ⟨yc q, vi q⟩
  | no => rw [eg] at q; exact q.elim
  | ok o =>
    rw [eg] at q;cases o with
    | rt d => exact fun v H' s' p => q v H' s' p
    | nx ρ => exact fun σ' H' s' => q .non H' s'.fm (by simp only [Rp])
    | bk ρ => exact q.elim
    | ct ρ => exact q.elim
def aM (F : List PyData -> R PyData) (fs : aH -> R (List PyData)) : Fe := fun ρ => fs ρ >>= F
theorem wt {X : Cx} {k n : Nat} {f : Addr} {fd : FuncData} {ps : List Str} {F : List PyData -> R PyData} {x : Str} {p pos : Pos} {e : Expr} {es : List Expr} {fs : aH -> R (List PyData)} {nl : Nat} {G : List Str}
    (C : bj X.prog X.w X.K X.mg X.base (dc X.prog X.w X.mg) k f fd ps (dM F n)) (hr : dG k X.A) (T : Tb X nl G) (j : Nat) (hG : G[j]? = some x) (hm : X.mg x = some (.ref f)) (hk : PySem.W.keepIn X.K (.ref f) = true) (hb : gH X.K fd ps []) (ha : mh X (e :: es) fs)
    (hlen : (e :: es).length = n) (hfs : ∀ ρ ds, fs ρ = .ok ds -> ds.length = n)
    (he : (e :: es).all am = true := by rfl) : ah X (.Call (.Name x p) (e :: es) [] pos) (aM F fs) := by
  rw [List.all_cons, Bool.and_eq_true] at he;have g := T.gl x (List.mem_of_getElem? hG);refine PE.imp (wv C hr g.1 hm hk hb .nil wj ha g.2.1 (bc he.1) (kU he.2)) fun σ H Q ⟨ρ, sl, q⟩ => ?_
  refine ⟨ρ, sl, ?_⟩;unfold aM at q;cases e1 : fs ρ with
  | ex c => rw [e1] at q; exact q
  | no => rw [e1] at q; exact q
  | ok ds =>
    rw [e1] at q;intro vs H1 s1 r1;rw [List.append_nil];refine ⟨ds, lV.mp r1, hfs ρ ds e1, ?_⟩;have q' : qZ X fO (F ds) H Q := q;cases e2 : F ds with
    | ok d => rw [e2] at q'; exact fun v H' s' p' => q' v H' (s1.trans s') p'
    | ex c => rw [e2] at q'; exact fun H' s' => Xw.ex q' H' (s1.trans s')
    | no => rw [e2] at q'; exact q'
theorem aB : ∀ ρ ds, aA ρ = .ok ds -> ds.length = 0 := fun ρ ds e => by cases e; rfl
theorem ag {f : Fe} {g : aH -> R (List PyData)} {n : Nat} (h : ∀ ρ ds, g ρ = .ok ds -> ds.length = n) : ∀ ρ ds, ae f g ρ = .ok ds -> ds.length = n + 1 := fun ρ ds e => by
  unfold ae at e;cases e1 : f ρ with
  | ex c => rw [e1] at e; cases e
  | no => rw [e1] at e; cases e
  | ok d =>
    rw [e1] at e;cases e2 : g ρ with
    | ex c => rw [e2] at e; cases e
    | no => rw [e2] at e; cases e
    | ok ds' => rw [e2] at e; cases e; rw [List.length_cons, h ρ ds' e2]
theorem qS {scope : Scope} {env : Env} (h : ∀ x ∈ scope.names, x.2 = .free -> ∃ c, env.cells.lookup x.1 = some c) :
    ∃ cl, closureFor scope env = pure cl /\ (∀ x c, cl.lookup x = some c -> env.cells.lookup x = some c) /\ ∀ x ∈ scope.names, x.2 = .free -> ∃ c, cl.lookup x.1 = some c := by
  suffices gen : ∀ (names : List (Str × NameKind)) (acc : List (Str × Addr)), (∀ x ∈ names, x.2 = .free -> ∃ c, env.cells.lookup x.1 = some c) -> (∀ x c, acc.lookup x = some c -> env.cells.lookup x = some c) ->
      ∃ cl, (forIn names acc fun x r => if (x.snd == NameKind.free) = true then do let a <- cellOf env x.fst; pure (ForInStep.yield ((x.fst, a) :: r)) else pure (ForInStep.yield r) : Sem (List (Str × Addr))) = pure cl /\
        (∀ x c, cl.lookup x = some c -> env.cells.lookup x = some c) /\ (∀ x c, acc.lookup x = some c -> ∃ c', cl.lookup x = some c') /\ ∀ x ∈ names, x.2 = .free -> ∃ c, cl.lookup x.1 = some c by
    obtain ⟨cl, h1, h2, _, h4⟩ := gen scope.names [] h fun x c e => by simp at e
    refine ⟨cl, ?_, h2, h4⟩;simp only [closureFor];rw [h1];rfl
  intro names;induction names with
  | nil => intro acc _ ha; exact ⟨acc, rfl, ha, fun x c e => ⟨c, e⟩, fun x hx => by cases hx⟩
  | cons y r ih =>
    intro acc hn ha;obtain ⟨n, k⟩ := y;by_cases hk : k = .free
    · subst hk;obtain ⟨c, hc⟩ := hn (n, .free) List.mem_cons_self rfl;obtain ⟨cl, e1, e2, e3, e4⟩ := ih ((n, c) :: acc) (fun x hx => hn x (List.mem_cons_of_mem _ hx)) (fun x c' e => by
        rw [List.lookup_cons] at e;split at e
        · rename_i q;have : x = n := by simpa using q
          subst this; cases e; exact hc
        · exact ha x c' e)
      refine ⟨cl, ?_, e2, fun x c' e => ?_, fun x hx hf => ?_⟩
      · rw [List.forIn_cons];have : cellOf env n = pure c := by unfold cellOf; rw [hc]
        simp only [beq_self_eq_true, if_true, this, pure_bind];exact e1
      · by_cases hx : x = n
        · subst hx; exact e3 x c (by rw [List.lookup_cons]; simp)
        · have hb : (x == n) = false := by simpa using hx
          exact e3 x c' (by rw [List.lookup_cons, hb]; exact e)
      · rcases List.mem_cons.mp hx with rfl | hx
        · exact e3 n c (by rw [List.lookup_cons]; simp)
        · exact e4 x hx hf
    · obtain ⟨cl, e1, e2, e3, e4⟩ := ih acc (fun x hx => hn x (List.mem_cons_of_mem _ hx)) ha;refine ⟨cl, ?_, e2, e3, fun x hx hf => ?_⟩
      · rw [List.forIn_cons];have : (k == NameKind.free) = false := by simpa using hk
        simp only [this, Bool.false_eq_true, if_false, pure_bind];exact e1
      · rcases List.mem_cons.mp hx with rfl | hx
        · exact absurd hf hk
        · exact e4 x hx hf
def yJ (env : Env) (p : Str × NameKind) : NameKind := if (p.2 == .free && env.scope.kind == .function && env.kindOf p.1 == some .cell) = true then .cell else p.2
theorem mm (scope : Scope) (env : Env) : (relabel scope env).names = scope.names.map fun p => (p.1, yJ env p) := by
  unfold relabel;refine List.map_congr_left fun p _ => ?_
  obtain ⟨n, k⟩ := p;unfold yJ;dsimp only;split <;> rfl
theorem kq (g : Str × NameKind -> NameKind) (x : Str) : ∀ l : List (Str × NameKind), (l.map fun p => (p.1, g p)).lookup x = (l.lookup x).map fun k => g (x, k)
  | [] => rfl
  | (n, k) :: r => by
    rw [List.map_cons];cases hx : x == n with
    | true =>
      have e : x = n := by simpa using hx
      subst e;simp
    | false =>
      have ne : ¬ x = n := by simpa using hx
      simp only [List.lookup_cons, hx];exact kq g x r
theorem jc (scope : Scope) (env : Env) (x : Str) : (relabel scope env).names.lookup x = (scope.names.lookup x).map fun k => yJ env (x, k) := by
  rw [mm]; exact kq _ _ _
theorem dH {scope : Scope} {env : Env} {x : Str} {k : NameKind} (h : scope.names.lookup x = some k) (hk : k ≠ .free) : (relabel scope env).names.lookup x = some k := by
  rw [jc, h];have : (k == NameKind.free) = false := by simpa using hk
  simp only [yJ, this, Bool.false_and, Bool.false_eq_true, if_false, Option.map_some]
theorem jM {scope : Scope} {env : Env} {x : Str} (h : scope.names.lookup x = some .free) : (relabel scope env).names.lookup x = some .free \/ (relabel scope env).names.lookup x = some .cell := by
  rw [jc, h];unfold yJ;dsimp only [Option.map_some];split
  · exact .inr rfl
  · exact .inl rfl
theorem oA {scope : Scope} {env : Env} {x : Str} (hc : ∀ y ∈ scope.names, y.2 ≠ .cell) (h : (relabel scope env).names.lookup x = some .free \/ (relabel scope env).names.lookup x = some .cell) : (x, NameKind.free) ∈ scope.names := by
  cases e : scope.names.lookup x with
  | none =>
    rw [jc, e] at h;rcases h with h | h <;> cases h
  | some k =>
    by_cases hk : k = .free
    · subst hk; exact PySem.mem_of_lookup e
    · exfalso;have := dH (env := env) e hk;rw [this] at h;rcases h with h | h
      · cases h; exact hk rfl
      · cases h; exact hc _ (PySem.mem_of_lookup e) rfl
def aN (X : Cx) (N : List Str) (scope : Scope) (cl : List (Str × Addr)) (C : Addr) (s : Shared) (H : Hp) (fp : List Addr) (E : Value -> Shared -> Prop := fun _ _ => False) : Cx :=
  { X with N := N, s₀ := s, H₀ := H, env := compEnvC scope cl C X.env, outer := X.stack, stack := X.stack, ex := fp, fn := fun _ => false, pn := [], xe := E }
def dR (sc : Scope) (N : List Str) (own : Nat) (G : List Str) (oN : List Str) (fr : List Nat) : Prop :=
  sc.kind = .function /\ (∀ y ∈ sc.names, y.2 ≠ .cell) /\ (∀ y ∈ sc.names, y.2 = .local -> sc.names.lookup y.1 = some .local) /\ N.Nodup /\ (∀ x ∈ N.take own, sc.names.lookup x = some .local) /\ (∀ x ∈ N.drop own, sc.names.lookup x = some .free) /\
  (∀ x ∈ N, (x == ("__debug__" : Str)) = false /\ (x == ("__classdict__" : Str)) = false) /\ (∀ x ∈ G, sc.names.lookup x = some .globalImplicit /\ (x == ("__debug__" : Str)) = false /\ x ≠ ("__name__" : Str)) /\
  own <= N.length /\ (N.drop own).map some = fr.map fun i => oN[i]?
instance {sc : Scope} {N : List Str} {own : Nat} {G oN : List Str} {fr : List Nat} : Decidable (dR sc N own G oN fr) := by unfold dR; infer_instance
theorem wc {X : Cx} {nl : Nat} {G0 : List Str} (T : Tb X nl G0) {sc : Scope} {N : List Str} {own : Nat} {G oN : List Str} {fr : List Nat} (ck : dR sc N own G oN fr) (cl : List (Str × Addr)) (C : Addr) (s : Shared) (H : Hp) (fp : List Addr) :
    Tb (aN X N sc cl C s H fp) own G := by
  obtain ⟨_, _, _, nd, l, f, db, g, _, _⟩ := ck;refine ⟨T.hu, T.calm, nd, fun x hx => ?_, fun x hx => ?_, fun x hx => ?_⟩
  · refine ⟨?_, db x hx⟩;have hx' : x ∈ N.take own ++ N.drop own := by rw [List.take_append_drop]; exact hx
    rcases List.mem_append.mp hx' with z | z
    · exact .inl (dH (l x z) (by decide))
    · rcases jM (env := X.env) (f x z) with q | q
      · exact .inr (.inr q)
      · exact .inr (.inl q)
  · have q := dH (env := X.env) (l x hx) (by decide);exact ⟨.inl q, .inr q⟩
  · obtain ⟨g1, g2, g3⟩ := g x hx;exact ⟨dH (env := X.env) g1 (by decide), g2, g3⟩
theorem tQ {X : Cx} {nl : Nat} {G0 : List Str} (T : Tb X nl G0) {sc : Scope} {N : List Str} {own : Nat} {G oN : List Str} {fr : List Nat} (ck : dR sc N own G oN fr) (cl : List (Str × Addr)) (C : Addr) (s : Shared) (H : Hp) (fp : List Addr) (E : Value -> Shared -> Prop) :
    Tb (aN X N sc cl C s H fp E) own G := let T1 := wc T ck cl C s H fp; ⟨T1.hu, T1.calm, T1.nd, T1.vis, T1.loc, T1.gl⟩
def A5 (X : Cx) (ifs : List Expr) (t : TT) : Prop :=
  ∀ (pins : List (Addr × Obj)) (s : Shared) (σ : St) (H : Hp) (Q : Bool -> Hp -> Prop), aE X pins σ H s -> t σ H Q -> wpAny (model X.prog X.w) X.A (forIn ifs true fun c r => if r = true then do let ok <- isTrue c X.env (eval c X.env); pure (ForInStep.yield ok) else pure (ForInStep.yield r))
    (TP X pins σ Q) X.xe s
def sJ (X : Cx) (ifs : List Expr) (t : aH -> R Bool) : Prop := A5 X ifs (vG X t)
structure Z.sJ (X : Cx) (ifs : List Expr) (t : aH -> R Bool) : Prop where
  un : D2.sJ X ifs t
theorem ff {X : Cx} : sJ X [] (fun _ => .ok true) := fun pins s σ H Q I ⟨ρ, sl, q⟩ => wpAny_tests_nil ⟨H, I, q H (ay.refl _)⟩
theorem Z.ff {X : Cx} : Z.sJ X [] (fun _ => .ok true) :=
  ⟨D2.ff⟩
def bA (b : PyData -> aH -> Option aH) (t : aH -> R Bool) (f : Fe) (ρ : aH) : List PyData -> R (List PyData)
  | [] => .ok []
  | d :: ds => match b d ρ with
    | none => .no
    | some ρ1 => t ρ1 >>= fun k => if k = true then f ρ1 >>= fun x => bA b t f ρ ds >>= fun xs => .ok (x :: xs) else bA b t f ρ ds
def aF (own : Nat) (fr : List Nat) (ρ : aH) : aH := List.replicate own .non ++ fr.map fun i => ρ.getD i .non
def lw {α : Type} : R α -> R α
  | .ex _ => .no
  | r => r
def cU (it : aH -> R (List PyData)) (own : Nat) (fr : List Nat) (b : PyData -> aH -> Option aH) (t : aH -> R Bool) (f : Fe) : Fe := fun ρ =>
  lw (it ρ) >>= fun ds => if ds.length <= sizeLine then match bA b t f (aF own fr ρ) ds with
    | .ok xs => .ok (.list xs)
    | .ex c => .ex c
    | .no => .no
  else .no
def fF (own : Nat) (fr : List Nat) (σ : St) : St := List.replicate own none ++ fr.map fun i => (σ[i]?).join
theorem vh {H : Hp} {σ : St} {ρ : aH} (h : Sl H σ ρ) (own : Nat) (fr : List Nat) (hin : ∀ i ∈ fr, i < ρ.length) : Sl H (fF own fr σ) (aF own fr ρ) := by
  refine ⟨by simp [fF, aF], fun i c o h1 h2 => ?_⟩;unfold aF at h1;unfold fF at h2;by_cases hi : i < own
  · rw [List.getElem?_append_left (by simpa using hi), List.getElem?_replicate, if_pos hi] at h1;cases h1; exact True.intro
  · rw [List.getElem?_append_right (by simpa using hi), List.getElem?_map, List.length_replicate] at h1 h2;cases e : fr[i - own]? with
    | none => rw [e] at h1; cases h1
    | some j =>
      rw [e] at h1 h2;have hj := hin j (List.mem_of_getElem? e);have hj' : j < σ.length := by rw [h.1]; exact hj
      cases h1; cases h2;refine h.2 j _ _ ?_ ?_
      · show ρ[j]? = some (ρ.getD j .non);rw [List.getD_eq_getElem?_getD, List.getElem?_eq_getElem hj]; rfl
      · show σ[j]? = some ((σ[j]?).join);rw [List.getElem?_eq_getElem hj']; rfl
section
variable {X : Cx} {pins : List (Addr × Obj)} {σ : St} {H : Hp} {s : Shared} {nl : Nat} {G0 : List Str} {sc : Scope} {N : List Str} {own : Nat} {G : List Str} {fr : List Nat} {cl : List (Str × Addr)} {fp : List Addr} {a C : Addr} {h4 : Heap} {t4 : Nat} {m : Str -> Option Value}
theorem uE (I : aE X pins σ H s) (ck : dR sc N own G X.N fr) (hf : ∀ b ∈ fp, kG X pins H b) (hob : ∀ b ∈ fp, b < s.heap.objs.size) (hcl1 : ∀ x c, cl.lookup x = some c -> X.env.cells.lookup x = some c) (hcl2 : ∀ x ∈ sc.names, x.2 = .free -> ∃ c, cl.lookup x.1 = some c)
    (vis : ∀ x ∈ X.N, yY X.env.scope x) (hout : ∀ y ∈ sc.names, y.2 = .free -> X.env.kindOf y.1 = some .cell \/ X.env.kindOf y.1 = some .free)
    (ha : s.heap.objs.size <= a) (hC : s.heap.objs.size <= C) (hac : a ≠ C) (keep : ∀ b o, s.heap.get? b = some o -> h4.get? b = some o) (hl : h4.get? a = some { cls := .type "list", data := .seq #[] 0 }) (hn : h4.Ns C m) :
    aE (aN X N sc cl C s H fp) [] (fF own fr σ) (cW H a (.lst [])) { s with heap := h4, toks := t4 } := by
  obtain ⟨ck1, ck2, ck3, nd, l, f, db, g, ol, ofr⟩ := ck;have hHa : H a = none := I.hok.fresh ha;have hHC : H C = none := I.hok.fresh hC;have lt : ∀ {b : Addr} {o : Obj}, s.heap.get? b = some o -> b < s.heap.objs.size := fun e => Heap.lt_size e
  have cellLt : ∀ x c, cl.lookup x = some c -> c < s.heap.objs.size := fun x c e => by
    obtain ⟨v, q⟩ := I.cell x c (hcl1 x c e);exact q.lt
  refine ⟨⟨I.ok.mod, ck1, I.ok.glob, I.ok.blt, hC, fun x y c h1 h2 => I.ok.inj x y c (hcl1 x c h1) (hcl1 y c h2), fun x hx => ?_, fun x c hx => (Bool.false_ne_true hx).elim, I.ok.hd, I.ok.frames, .inl rfl, fun b hb => ⟨?_, fun x c e => ?_⟩, I.bs, Nat.le_trans I.ok.bsz I.sz, fun b o e hb => ?_, fun b hb hs => ?_, I.stack, I.stkFree⟩,
    rfl, I.bare, Un.laid keep ha hHa, ⟨m, hn, fun i x v h1 h2 h3 => ?_⟩, fun x c e => ?_, ?_, fun x c e => ?_, fun p hp => ?_, ?_, ?_⟩
  · have q := oA (env := X.env) ck2 (show (relabel sc X.env).names.lookup x = some .free \/ (relabel sc X.env).names.lookup x = some .cell from hx.elim .inr .inl);exact hcl2 _ q rfl
  · exact Nat.ne_of_lt (Nat.lt_of_lt_of_le (hob b hb) hC)
  · exact (hf b hb).2.2.2.2.1 x c (hcl1 x c e)
  · rcases (hf b hb).2.2.2.1 with z | z
    · exact I.ok.noex b o e z
    · exact absurd (Nat.lt_of_lt_of_le (Heap.lt_size e) I.ok.bsz) (Nat.not_lt.mpr z)
  · rcases List.mem_cons.mp (I.stkSub b hs) with z | z
    · exact (hf b hb).2.1 z
    · exact (hf b hb).2.2.1 z
  · -- a captured name
    have hi : ¬ i < own := fun hi => by
      unfold fF at h2;rw [List.getElem?_append_left (by simpa using hi), List.getElem?_replicate, if_pos hi] at h2;cases h2
    unfold fF at h2;rw [List.getElem?_append_right (by simpa using hi), List.getElem?_map, List.length_replicate] at h2;cases e : fr[i - own]? with
    | none => rw [e] at h2; cases h2
    | some j =>
      rw [e] at h2;have h2' : (σ[j]?).join = some v := Option.some.inj h2;have hσ : σ[j]? = some (some v) := by
        cases q : σ[j]? with
        | none => rw [q] at h2'; cases h2'
        | some o => rw [q] at h2'; exact congrArg some h2'
      have hx : (N.drop own)[i - own]? = some x := by
        rw [List.getElem?_drop];have : own + (i - own) = i := by omega
        rw [this]; exact h1
      have hj : X.N[j]? = some x := by
        have q := congrArg (fun l => l[i - own]?) ofr;simp only [List.getElem?_map, hx, e, Option.map_some] at q;exact (Option.some.inj q).symm
      have hfree := f x (List.mem_of_getElem? hx);obtain ⟨c, hc⟩ := hcl2 _ (PySem.mem_of_lookup hfree) rfl;have hXc := hcl1 x c hc;obtain ⟨m0, hn0, hl0⟩ := I.loc;obtain ⟨u, ru, lk⟩ := hl0 j x v hj hσ (vis x (List.mem_of_getElem? hj));have ko := hout _ (PySem.mem_of_lookup hfree) rfl;refine ⟨u, ru, .inr ⟨(jM (env := X.env) hfree).symm, c, hc, ?_⟩⟩;rcases lk with ⟨k1, _⟩ | ⟨_, c', e1, ob, q1, q2⟩
      · exfalso;rcases ko with k | k <;> (rw [k] at k1; cases k1)
      · rw [hXc] at e1;cases e1;exact ⟨ob, keep _ _ q1, q2⟩
  · obtain ⟨v, o, q, d⟩ := I.cell x c (hcl1 x c e);exact ⟨v, o, keep _ _ q, d⟩
  · show cW H a (.lst []) C = none;rw [aI (Ne.symm hac)]; exact hHC
  · have q := I.freeC x c (hcl1 x c e);show cW H a (.lst []) c = none;rw [aI (Nat.ne_of_lt (Nat.lt_of_lt_of_le (cellLt x c e) ha))]; exact q
  · exact absurd (show p ∈ ([] : List (Addr × Obj)) from hp) (by simp)
  · exact I.hok.laid keep ha ⟨Nat.zero_le _, [], 0, .nil, hl⟩
  · show (fF own fr σ).length = N.length;have q := congrArg List.length ofr;rw [List.length_map, List.length_map, List.length_drop] at q;unfold fF;rw [List.length_append, List.length_replicate, List.length_map];omega
end
def kF (ρ0 ρ1 : aH) : Prop := ρ1.length = ρ0.length /\ ∀ (i : Nat) (c : bg), ρ0[i]? = some c -> c = .non \/ ρ1[i]? = some c
theorem Sl.unfit {H : Hp} {σ : St} {ρ0 ρ1 : aH} (h : Sl H σ ρ1) (f : kF ρ0 ρ1) : Sl H σ ρ0 := by
  refine ⟨h.1.trans f.1, fun i c o h1 h2 => ?_⟩;rcases f.2 i c h1 with rfl | q
  · exact True.intro
  · exact h.2 i c o q h2
def tI (H0 : Hp) (σ : St) (ρ : aH) : Prop := ∀ (i : Nat) (e : PyData), ρ[i]? = some (.own e) -> ∃ v, σ[i]? = some (some v) /\ iI H0 e v
theorem sA {X : Cx} {J : It} {tn : Nat -> Heap -> Prop} {it a : Addr} {fp : List Addr} {tg iter elt : Expr} {ifs : List Expr} {scope : Scope} {pos : Pos} {b : PyData -> aH -> Option aH} {t : aH -> R Bool} {f : Fe} {ds : List PyData} {r : R (List PyData)} {Gd : Hp -> Prop} {H0 : Hp} {ρ0 : aH}
    {Rk : Result -> Shared -> Prop} (T : pT X.prog X.w X.K tg J fp it tn) (calm : X.calm = true) (hfp : ∀ H : Hp, (∀ b ∈ fp, H b = none) -> ∀ b ∈ fp, kG X [] H b) (hxe : ∀ e s', X.xe e s' -> notedBy (model X.prog X.w) X.A X.env (fun x s' => Rk (.error x) s') e s') (hX : ∀ c, r = .ex c -> Xw X c H0) (hno : r ≠ .no) (hg : oJ X tg b) (ht : sJ X ifs t) (hf : ah X elt f)
    (idt : wz J Gd ds) (sta : z9 H0 (fun _ => False) Gd) (hsz : ds.length <= sizeLine) (ha0 : H0 a = none) (hb0 : ∀ d ρ1, b d ρ0 = some ρ1 -> kF ρ0 ρ1)
    (fin : ∀ xs s' σ' H' vs, r = .ok xs -> aE X [] σ' H' s' -> ay H0 H' -> H' a = some (.lst vs) -> bo H' xs vs -> Rk (.ok .next) s') :
    ∀ {s : Shared} {σ : St} {H : Hp}, aE X [] σ H s -> tn 0 s.heap -> (∀ b ∈ fp, H b = none) -> ay H0 H -> H a = some (.lst []) -> bA b t f ρ0 ds = r -> Sl H σ ρ0 -> tI H0 σ ρ0 ->
      codeAny (model X.prog X.w) X.A (.compLoop (.ListComp elt [⟨tg, iter, ifs, 0⟩] scope pos) 0 (.ref it) (.ref a) X.env) Rk s := by
  intro s σ H I st fr s0 hla hc sl ow;refine codeAny_loop rfl (fun n s => ∃ i acc σ H vs, n = ds.length - i /\ i <= ds.length /\ acc.length <= i /\ aE X [] σ H s /\ tn i s.heap /\ (∀ b ∈ fp, H b = none) /\ ay H0 H /\ H a = some (.lst vs) /\ bo H acc vs /\ (bA b t f ρ0 (ds.drop i) >>= fun bR => .ok (acc ++ bR)) = r /\
    Sl H σ ρ0 /\ tI H0 σ ρ0) (fun n s hI => ?_) ds.length ⟨0, [], σ, H, [], by simp, Nat.zero_le _, Nat.le_refl _, I, st, fr, s0, hla, bo.nil, by rw [List.drop_zero, hc]; cases r <;> rfl, sl, ow⟩
  clear I st fr s0 hla hc sl ow;obtain ⟨i, acc, σ, H, vs, rfl, hi, hal, I, st, fr, s0, hla, ra, hc, sl, ow⟩ := hI;show wpAny _ X.A ((compTurn (.ListComp elt [⟨tg, iter, ifs, 0⟩] scope pos) 0 (.ref it) (.ref a) X.env).onRaise (fun x => do noteFrame x X.env; theTreesLotGoes x)) _ _ s;refine wpAny_noted ?_;rw [compTurn_list];have gd : Gd H := sta H (Kp.of s0) fun _ _ z => z.elim
  have noex : ∀ {α : Type} {m : Sem α} {Q Q' : α -> Shared -> Prop} {s : Shared}, wpAny (model X.prog X.w) X.A m Q X.xe s -> (∀ v s, Q v s -> Q' v s) -> wpAny (model X.prog X.w) X.A m Q' (notedBy (model X.prog X.w) X.A X.env (fun x s' => Rk (.error x) s')) s := fun h k =>
    wpAny_mono h k hxe
  by_cases hlt : i < ds.length
  · obtain ⟨d, hd⟩ : ∃ d, ds[i]? = some d := ⟨ds[i], List.getElem?_eq_getElem hlt⟩
    have hdrop : ds.drop i = d :: ds.drop (i + 1) := by
      rw [List.drop_eq_getElem_cons hlt];congr 1;exact Option.some.inj ((List.getElem?_eq_getElem hlt).symm.trans hd)
    rw [hdrop] at hc;unfold bA at hc;refine wpAny_bind (wpAny_standAt (wpAny_bind (cV (T.item X rfl rfl rfl calm i [] s σ H _ I (hfp H fr) st (idt.go i H gd hlt)) fun r s1 ⟨u, hr, h1⟩ => ?_)));subst hr;refine wpAny_bind (cV h1 fun _ s2 ⟨x, H2, I2, r2, y2, st2, fr2⟩ => ?_);obtain ⟨s02, p2⟩ := idt.yld i H x H2 d gd hd y2;have I2' := I2.pinned (hfp H2 fr2) (T.obj _ _ st2);have back : ∀ {σ' : St} {H' : Hp} {s' : Shared}, aE X ([] ++ k8 fp s2.heap) σ' H' s' -> aE X [] σ' H' s' /\ tn (i + 1) s'.heap /\ ∀ b ∈ fp, H' b = none := fun {σ' H' s'} J' =>
      ⟨J'.unpinned, T.keep _ _ _ st2 fun b hb o e => (J'.pin (b, o) (List.mem_append_right _ (List.mem_append_right _ (gn hb e)))).1, fun b hb => by
        obtain ⟨o, e, _⟩ := T.obj _ _ st2 b hb;exact (J'.pin (b, o) (List.mem_append_right _ (List.mem_append_right _ (gn hb e)))).2.1⟩
    cases eb : b d ρ0 with
    | none => rw [eb] at hc; exact absurd hc.symm hno
    | some ρ1 =>
      rw [eb] at hc;dsimp only at hc;have hfit := hb0 d ρ1 eb;refine wpAny_bind (noex (hg _ s2 σ H2 x u (fun σ' H' => H' = H2 /\ Sl H2 σ' ρ1 /\ ∀ (i : Nat) (e : PyData), ρ1[i]? = some (.own e) -> ρ0[i]? = some (.own e) /\ σ'[i]? = σ[i]?) I2' r2 ⟨ρ0, d, sl.mono s02, p2, by rw [eb]; exact fun σ' sl' w' => ⟨rfl, sl', w'⟩⟩) fun _ s3 ⟨σ3, H3, I3, e3, sl3, w3⟩ => ?_);subst e3;have ow3 : tI H0 σ3 ρ0 := fun j e h => by
        obtain ⟨v, z1, z2⟩ := ow j e h;rcases hfit.2 j _ h with z | z
        · cases z
        · exact ⟨v, by rw [(w3 j e z).2]; exact z1, z2⟩
      cases et : t ρ1 with
      | no => rw [et] at hc; exact absurd hc.symm hno
      | ex c =>
        rw [et] at hc;exact wpAny_bind (noex (ht _ s3 σ3 H3 (fun _ _ => False) I3 ⟨ρ1, sl3, by rw [et]; exact (hX c hc.symm).mono (s0.trans s02)⟩) fun ok s4 ⟨H4, I4, z⟩ => z.elim)
      | ok k =>
        rw [et] at hc;refine wpAny_bind (noex (ht _ s3 σ3 H3 (fun b' H' => b' = k /\ ay H3 H') I3 ⟨ρ1, sl3, by rw [et]; exact fun H' s' => ⟨rfl, s'⟩⟩) fun ok s4 ⟨H4, I4, e4, s34⟩ => ?_);subst e4;have s04 := (s0.trans s02).trans s34;have hla4 : H4 a = some (.lst vs) := s34 _ _ (s02 _ _ hla);have ra4 : bo H4 acc vs := (ra.mono s02).mono s34;cases ok with
        | false =>
          obtain ⟨J1, J2, J3⟩ := back I4;have hc' : (bA b t f ρ0 (ds.drop (i + 1)) >>= fun bR => .ok (acc ++ bR)) = r := hc;exact wpAny_pure ⟨rfl, ds.length - (i + 1), by omega, i + 1, acc, σ3, H4, vs, rfl, hlt, by omega, J1, J2, J3, s04, hla4, ra4, hc', (sl3.unfit hfit).mono s34, ow3⟩
        | true =>
          have hc' : ((f ρ1 >>= fun x => bA b t f ρ0 (ds.drop (i + 1)) >>= fun xs => .ok (x :: xs)) >>= fun bR => .ok (acc ++ bR)) = r := hc;cases ef : f ρ1 with
          | no => rw [ef] at hc'; exact absurd hc'.symm hno
          | ex c =>
            rw [ef] at hc';exact wpAny_bind (wpAny_bind (noex (hf _ s4 σ3 H4 (fun _ _ => False) I4 ⟨ρ1, sl3.mono s34, by rw [ef]; exact (hX c hc'.symm).mono s04⟩) fun yv s5 ⟨v5, H5, I5, r5, z⟩ => z.elim))
          | ok y =>
              rw [ef, R.ok_bind] at hc';have hc2 : (bA b t f ρ0 (ds.drop (i + 1)) >>= fun bR => .ok ((acc ++ [y]) ++ bR)) = r := by
                rw [<- hc'];cases bA b t f ρ0 (ds.drop (i + 1)) with
                | ok bR => simp only [R.ok_bind, List.append_assoc, List.singleton_append]
                | ex c => rfl
                | no => rfl
              refine wpAny_bind (wpAny_bind (noex (hf _ s4 σ3 H4 (fun v H' => ay H4 H' /\ Rp H' y v) I4 ⟨ρ1, sl3.mono s34, by rw [ef]; exact fun v H' s' p' => ⟨s', p'⟩⟩) fun yv s5 ⟨v5, H5, I5, r5, s45, p5⟩ => ?_));have hla5 : H5 a = some (.lst vs) := s45 _ _ hla4;have hlen : vs.length < sizeLine := by
                rw [ra.length]; omega
              refine wpAny_bind (noex (my _ s5 σ3 H5 (.ref a) [v5] (.ref a) [yv] (fun _ H' => H' = cW H5 a (.lst (vs ++ [v5]))) I5 rfl (.cons r5 .nil) ⟨a, vs, v5, rfl, rfl, hla5, hlen, rfl⟩) fun _ s6 ⟨v6, H6, I6, r6, e6⟩ => ?_);subst e6;obtain ⟨J1, J2, J3⟩ := back I6;have kp : Kp H5 (cW H5 a (.lst (vs ++ [v5]))) := gS hla5 (.inl ⟨_, rfl⟩);have s06 : ay H0 (cW H5 a (.lst (vs ++ [v5]))) := fun b o e => by
                rw [aI (aX e ha0)]; exact (s04.trans s45) b o e
              refine wpAny_pure (wpAny_pure ⟨rfl, ds.length - (i + 1), by omega, i + 1, acc ++ [y], σ3, _, vs ++ [v5], rfl, hlt, by rw [List.length_append, List.length_singleton]; omega, J1, J2, J3, s06, bQ, ?_, hc2, ?_, ow3⟩)
              · exact bo.append (bo.kp kp _ _ (ra4.mono s45)) (bo.cons (Rp.kp kp _ _ p5) bo.nil)
              · have sl5 : Sl H5 σ3 ρ0 := ((sl3.unfit hfit).mono s34).mono s45;refine ⟨sl5.1, fun j c o h1 h2 => ?_⟩;cases c with
                | exc p => exact sl5.2 j _ o h1 h2
                | non => exact True.intro
                | val d' =>
                  obtain ⟨v', z1, z2⟩ := sl5.2 j _ o h1 h2;exact ⟨v', z1, Rp.kp kp _ _ z2⟩
                | own e' =>
                  obtain ⟨v', z1, z2⟩ := ow3 j e' h1;rw [z1] at h2;cases h2;exact ⟨v', rfl, z2.mono s06⟩
  · have e : i = ds.length := by omega
    subst e;rw [List.drop_length] at hc;have hr' : r = .ok acc := by rw [<- hc]; simp only [bA, R.ok_bind, List.append_nil]
    refine wpAny_bind (wpAny_standAt (wpAny_bind (cV (T.done X rfl rfl rfl calm _ [] s σ H _ I (hfp H fr) st (idt.stop _ H gd (Nat.le_refl _))) fun r s1 ⟨hr, I1⟩ => ?_)));subst hr;exact wpAny_pure (fin acc s1 σ H vs hr' I1 s0 hla ra)
theorem fH.but {P : Program} {w : World} {H : Hp} {h1 h2 : Heap} {C : Addr} (ok : fH P w H h1) (hC : H C = none) (sb : ∀ b o, b ≠ C -> h1.get? b = some o -> h2.get? b = some o) : fH P w H h2 := fun a o e =>
  (ok a o e).stay (fun b u hb q => sb b u (by
    rcases hb with rfl | hb
    · exact aX e hC
    · exact aX hb hC) q) (fun _ q => q) fun _ _ q => q
theorem iR {h h' base : Heap} {C : Addr} (tp : ∀ b o, b ≠ C -> h.get? b = some o -> h'.get? b = some o) : ∀ {l : List Env}, C ∉ jh l -> h.FunFrames base l -> h'.FunFrames base l
  | [], _, _ => trivial
  | env :: l, hC, ⟨hk, ⟨L, o, hf, hn, ho, hd⟩, hr⟩ => ⟨hk, ⟨L, o, hf, hn, tp L o (fun z => hC (List.mem_filterMap.mpr ⟨env, List.mem_cons_self, by rw [hf, z]⟩)) ho, hd⟩, iR tp (fun z => hC (by
    obtain ⟨e, he, hz⟩ := List.mem_filterMap.mp z;exact List.mem_filterMap.mpr ⟨e, List.mem_cons_of_mem _ he, hz⟩)) hr⟩
theorem jm {X : Cx} {tg iter elt : Expr} {ifs : List Expr} {sc : Scope} {pos pos' : Pos} {it : aH -> R (List PyData)} {b : PyData -> aH -> Option aH} {t : aH -> R Bool} {f : Fe} {N : List Str} {own : Nat} {G G0 : List Str} {fr : List Nat} {nl : Nat}
    (T : Tb X nl G0) (ck : dR sc N own G X.N fr) (hout : ∀ y ∈ sc.names, y.2 = .free -> X.env.kindOf y.1 = some .cell \/ X.env.kindOf y.1 = some .free) (hi : mF X tg iter it)
    (hb0 : ∀ ρ d ρ1, b d (aF own fr ρ) = some ρ1 -> kF (aF own fr ρ) ρ1)
    (hbody : ∀ cl C s H fp E, Tb (aN X N sc cl C s H fp E) own G -> oJ (aN X N sc cl C s H fp E) tg b /\ sJ (aN X N sc cl C s H fp E) ifs t /\ ah (aN X N sc cl C s H fp E) elt f)
    (hs : ∀ x, foldedSetIterable iter X.env x = pure x) {use : Option (Value -> Sem Unit)} {Qc : Value -> Shared -> Prop} {pins : List (Addr × Obj)} {s : Shared} {σ : St} {H : Hp} (I : aE X pins σ H s) {ρ : aH} {ds : List PyData} {r : R (List PyData)} (sl : Sl H σ ρ) (ei : it ρ = .ok ds)
    (hsz : ds.length <= sizeLine) (ec : bA b t f (aF own fr ρ) ds = r) (hX : ∀ c, r = .ex c -> Xw X c H) (hno : r ≠ .no) (hstk : ∃ env0 outer0 L, X.stack = env0 :: outer0 /\ env0.frame = some L /\ X.env.frame = some L)
    (fin : ∀ (xs : List PyData) (a C : Addr) (H' : Hp) (s' : Shared) (m : Str -> Option Value) (vs : List V), r = .ok xs -> aE X pins σ H' s' -> kG X pins H' C -> s'.heap.Ns C m -> ay H H' -> H a = none -> H' a = some (.lst vs) -> bo H' xs vs -> compPost (model X.prog X.w) X.A X.xe use Qc (.ref a) C (.ok .next) s') :
    wpAny (model X.prog X.w) X.A (comprehension (.ListComp elt [⟨tg, iter, ifs, 0⟩] sc pos) sc X.env pos' (newList []) false (eval iter X.env) use) Qc X.xe s := by
  obtain ⟨cl, hcl, hcl1, hcl2⟩ := qS (scope := sc) (env := X.env) fun x hx hf => I.ok.has _ (hout x hx hf)
  have ck' := ck;obtain ⟨ck1, ck2, ck3, _, _, _, _, _, _, ofr⟩ := ck';have hin : ∀ i ∈ fr, i < ρ.length := fun i hi => by
    have e1 : ρ.length = X.N.length := by rw [<- sl.1]; exact I.len
    rw [e1];obtain ⟨k, hk⟩ := List.getElem?_of_mem hi;have q := congrArg (fun l => l[k]?) ofr;simp only [List.getElem?_map, hk, Option.map_some] at q;cases z : (N.drop own)[k]? with
    | none => rw [z] at q; cases q
    | some y =>
      rw [z] at q;have q' : some y = X.N[i]? := Option.some.inj q;exact (List.getElem?_eq_some_iff.mp q'.symm).1
  refine wpAny_comprehension_free (use := use) rfl hs hcl ck1 ck3 ?_;refine cV (hi pins s σ H (fun J H1 => ay H H1 /\ ∃ Gd, wz J Gd ds /\ z9 H1 (fun _ => False) Gd) I ⟨ρ, sl, by rw [ei]; exact fun J H1 s1 z => ⟨s1, z⟩⟩) fun xv s1 h1 => cV h1 fun itv s2 h2 => ?_
  obtain ⟨itA, fp, tn, J, H2, e, I2, T2, st2, f2, s02, Gd, idt, sta⟩ := h2;subst e;refine wpAny_newObj_type (wpAny_newFunctionEnv ck2 (by intro y hy; simp at hy) (fun h₁ hns₁ hsb₁ => ?_) ck1);dsimp only at hns₁ hsb₁ ⊢;generalize hHp : s2.heap.push { cls := .type "list", dict := none, data := .seq ([] : List Value).toArray } = Hp2 at hns₁ hsb₁ ⊢;have hC : Hp2.objs.size = s2.heap.objs.size + 1 := by rw [<- hHp, Heap.size_push]
  have hDC : s2.heap.objs.size ≠ Hp2.objs.size := by rw [hC]; exact Nat.ne_of_lt (Nat.lt_succ_self _)
  have hCle : s2.heap.objs.size <= Hp2.objs.size := by rw [hC]; exact Nat.le_succ _
  have below : ∀ b, b < s2.heap.objs.size -> b ≠ Hp2.objs.size := fun b hb => by rw [hC]; exact Nat.ne_of_lt (Nat.lt_succ_of_lt hb)
  have old : ∀ b o, s2.heap.get? b = some o -> h₁.get? b = some o := fun b o e => hsb₁.extBut b o (below b (Heap.lt_size e)) (Heap.get?_push_of_some _ (hHp ▸ Heap.get?_push_of_some _ e))
  have hacc : h₁.get? s2.heap.objs.size = some { cls := .type "list", dict := none, data := .seq ([] : List Value).toArray } := hsb₁.extBut _ _ hDC (Heap.get?_push_of_some _ (hHp ▸ Heap.get?_push_size _ rfl));have hob : ∀ b ∈ fp, b < s2.heap.objs.size := fun b hb => by
    obtain ⟨o, e, _⟩ := T2.obj _ _ st2 b hb;exact Heap.lt_size e
  have sl2 : Sl H2 σ ρ := sl.mono s02;have IC : aE (aN X N sc cl Hp2.objs.size s2 H2 fp) [] (fF own fr σ) (cW H2 s2.heap.objs.size (.lst [])) { s2 with heap := h₁, toks := s2.toks + ([] : List (Str × Value)).length } :=
    uE I2 ck f2 hob hcl1 hcl2 (fun x hx => (T.vis x hx).1) hout (Nat.le_refl _) hCle hDC old hacc hns₁
  let E : Value -> Shared -> Prop := fun e s' => ∃ c Ce pins' σ' H' s1 H1, r = .ex c /\ X.mg c = some (.ref Ce) /\ aE (aN X N sc cl Hp2.objs.size s2 H2 fp) pins' σ' H' s1 /\ ay H2 H1 /\ oa X.prog X.w X.stack H' s1 Ce H1 e s'
  obtain ⟨hg, ht, hf⟩ := hbody cl Hp2.objs.size s2 H2 fp E (tQ T ck cl Hp2.objs.size s2 H2 fp E);have ha0 : H2 s2.heap.objs.size = none := I2.hok.fresh (Nat.le_refl _);have hfp : ∀ H' : Hp, (∀ b ∈ fp, H' b = none) -> ∀ b ∈ fp, kG (aN X N sc cl Hp2.objs.size s2 H2 fp E) [] H' b := fun H' hn b hb =>
    ⟨hn b hb, below b (hob b hb), fun z => by
      rcases List.mem_cons.mp (I2.stkSub b z) with y | y
      · exact (f2 b hb).2.1 y
      · exact (f2 b hb).2.2.1 y, .inl hb, fun x c e => (f2 b hb).2.2.2.2.1 x c (hcl1 x c e), fun p hp => absurd (show p ∈ ([] : List (Addr × Obj)) from hp) (by simp)⟩
  have st3 : tn 0 h₁ := T2.keep _ _ _ st2 fun b _ o e => old b o e
  have slC : Sl H2 (fF own fr σ) (aF own fr ρ) := vh sl2 own fr hin;have fin' : ∀ xs s' σ' H' vs, r = .ok xs -> aE (aN X N sc cl Hp2.objs.size s2 H2 fp E) [] σ' H' s' -> ay H2 H' -> H' s2.heap.objs.size = some (.lst vs) -> bo H' xs vs ->
      compPost (model X.prog X.w) X.A X.xe use Qc (.ref s2.heap.objs.size) Hp2.objs.size (.ok .next) s' := fun xs s' σ' H' vs hr J' s2' hv rv => by
    obtain ⟨m, hn, _⟩ := J'.loc;exact fin xs _ _ H' s' m vs hr (I2.call' (s' := s') (ch := fp) J'.os J'.base J'.hok J'.bare (fun b hb => ⟨(f2 b hb).2.2.2.1, (f2 b hb).2.1, (f2 b hb).2.2.2.2.1, (f2 b hb).2.2.2.2.2⟩)) (I2.fpOk hCle J'.free) hn (s02.trans s2') (s02.free ha0) hv rv
  have hXc : ∀ c, r = .ex c -> Xw (aN X N sc cl Hp2.objs.size s2 H2 fp E) c H2 := fun c hr H1 s1 Ce hm pins' σ' H' s1' e s' J f =>
    ⟨c, Ce, pins', σ', H', s1', H1, hr, hm, J.unwish, s1, f⟩
  have hxe : ∀ e s', E e s' -> notedBy (model X.prog X.w) X.A (compEnvC sc cl Hp2.objs.size X.env) (fun x s' => compPost (model X.prog X.w) X.A X.xe use Qc (.ref s2.heap.objs.size) Hp2.objs.size (.error x) s') e s' := fun e s' hE => by
    obtain ⟨c, Ce, pins', σ', H', s1, H1, hr, hm, J, same1, f⟩ := hE;obtain ⟨env0, outer0, L, k1, k2, k3⟩ := hstk;refine f.note k1 I.ok.frames k2 k3 fun h4 f4 up => ?_
    obtain ⟨m, hn, _⟩ := (f4.inv (X := aN X N sc cl Hp2.objs.size s2 H2 fp) J).loc;refine ⟨m, hn, fun h5 sb cenv _ => ?_⟩;have fC := I2.fpOk hCle J.free;have fC1 : H1 Hp2.objs.size = none := (f4.inv (X := aN X N sc cl Hp2.objs.size s2 H2 fp) J).free;have nfr : Hp2.objs.size ∉ jh X.stack := fun z => by
      rcases List.mem_cons.mp (I2.stkSub _ z) with y | y
      · exact fC.2.1 y
      · exact fC.2.2.1 y
    have Io := I2.call' (s' := s1) (ch := fp) J.os J.base J.hok J.bare (fun b hb => ⟨(f2 b hb).2.2.2.1, (f2 b hb).2.1, (f2 b hb).2.2.2.2.1, (f2 b hb).2.2.2.2.2⟩);have Io2 : aE X pins σ H' { s1 with heap := PySem.W.hideAll s1.heap [Hp2.objs.size], toks := s1.toks } := by
      obtain ⟨g0, g1, g2, g3, g4, g5⟩ := fC;exact Io.turned (t' := s1.toks) (fun b o hb q => PySem.W.hideAll_get _ q (by simpa using hb)) g0 g1 g3 g4 g5
    obtain ⟨p, a0, B, rfl, t, okB, hp, cov⟩ := f4.ex;have stB : (PySem.W.hideAll B [Hp2.objs.size]).StaysIn B := fun b o q => PySem.W.of_hideAll _ q
    have hid : ∀ {h : Heap} {b : Addr} {o : Obj}, (PySem.W.hideAll h [Hp2.objs.size]).get? b = some o -> b ≠ Hp2.objs.size := fun {h b o} q z => by
      rw [PySem.W.hideAll_none _ (by rw [z]; exact List.mem_singleton.mpr rfl)] at q; cases q
    have tp : ∀ b o, b ≠ Hp2.objs.size -> h4.get? b = some o -> h5.get? b = some o := fun b o hb q => (sb.2 b hb).trans q
    have ne_e : p ≠ Hp2.objs.size := fun z => by
      obtain ⟨oe, vs, q1, _, q2, _⟩ := t.first;obtain ⟨o, es, ep, q3, q4, _⟩ := hn;have q3' : h4.get? Hp2.objs.size = some o := q3;rw [<- z, q1] at q3';cases q3';rw [q2] at q4;cases q4
    have f5 : oa X.prog X.w X.stack H' { s1 with heap := PySem.W.hideAll s1.heap [Hp2.objs.size], toks := s1.toks } Ce H1 (.ref p) { s' with heap := h5 } := by
      refine ⟨f4.os, f4.bare, f4.same, ⟨p, a0, PySem.W.hideAll B [Hp2.objs.size], rfl, ?_, ?_, hp, fun b o q n hb => ?_⟩, fun b o q n hb => ?_⟩
      · obtain ⟨t1, t2, t3, fl, oe, vs, T', oT, ts, a1, a2, a3, a4, a5, a6, a7, a8, a9⟩ := t;refine ⟨fun b o q => tp b o (hid q) (t1 b o (stB b o q)), PySem.W.fresh_of_stays stB t2, iR tp nfr (PySem.W.funFrames_base stB t3), fl, oe, vs, T', oT, ts, tp _ _ ne_e a1, a2, a3, a4, PySem.W.fresh_of_stays stB a5, a6, tp _ _ ?_ a7, a8, a9⟩;intro z;obtain ⟨o, es, ep, q3, q4, _⟩ := hn;have q3' : h4.get? Hp2.objs.size = some o := q3;have a7' : h4.get? T' = some oT := a7;rw [<- z, a7'] at q3';cases q3';rw [a8] at q4;cases q4
      · exact fH.but okB fC1 fun b o hb q => PySem.W.hideAll_get _ q (by simpa using hb)
      · obtain ⟨z1, z2⟩ := cov b o (PySem.W.of_hideAll _ q) n hb;exact ⟨PySem.W.hideAll_get _ z1 (by simpa using hid q), z2⟩
      · obtain ⟨⟨sl', z1⟩, z2⟩ := f4.slot b o (PySem.W.of_hideAll _ q) n hb;exact ⟨⟨sl', tp b _ (hid q) z1⟩, z2⟩
    refine f5.pass fun h6 f6 => ?_
    exact hX c hr H1 (s02.trans same1) Ce hm pins σ H' _ _ _ Io2 f6
  have loop := sA (X := aN X N sc cl Hp2.objs.size s2 H2 fp E) (iter := iter) (scope := sc) (pos := pos) T2 T.calm hfp hxe hXc hno hg ht hf idt sta hsz ha0 (fun d ρ1 e => hb0 ρ d ρ1 e) fin' (IC.wish E) st3 (fun b hb => by
      show cW H2 s2.heap.objs.size (.lst []) b = none;rw [aI (Nat.ne_of_lt (hob b hb))]; exact (f2 b hb).1) (bD ha0 _) bQ ec (slC.mono (bD ha0 _)) (fun i e h => by
      obtain ⟨o, z1, v, rfl, z2⟩ := slC.at h;exact ⟨v, z1, z2⟩)
  exact codeAny_compStart_list loop (T2.self _ 0 _ _ _ st3 loop)
theorem ln {X : Cx} {tg iter elt : Expr} {ifs : List Expr} {sc : Scope} {pos : Pos} {it : aH -> R (List PyData)} {b : PyData -> aH -> Option aH} {t : aH -> R Bool} {f : Fe} {N : List Str} {own : Nat} {G G0 : List Str} {fr : List Nat} {nl : Nat}
    (T : Tb X nl G0) (ck : dR sc N own G X.N fr) (hout : ∀ y ∈ sc.names, y.2 = .free -> X.env.kindOf y.1 = some .cell \/ X.env.kindOf y.1 = some .free) (hi : mF X tg iter it)
    (hb0 : ∀ ρ d ρ1, b d (aF own fr ρ) = some ρ1 -> kF (aF own fr ρ) ρ1)
    (hbody : ∀ cl C s H fp E, Tb (aN X N sc cl C s H fp E) own G -> oJ (aN X N sc cl C s H fp E) tg b /\ sJ (aN X N sc cl C s H fp E) ifs t /\ ah (aN X N sc cl C s H fp E) elt f)
    (hs : ∀ x, foldedSetIterable iter X.env x = pure x := by intro _; rfl) (hstk : ∃ env0 outer0 L, X.stack = env0 :: outer0 /\ env0.frame = some L /\ X.env.frame = some L := by exact ⟨_, _, _, rfl, rfl, rfl⟩) : eL X (.ListComp elt [⟨tg, iter, ifs, 0⟩] sc pos) (cU it own fr b t f) := by
  intro pins s σ H Q I h;obtain ⟨ρ, sl, q⟩ := h;unfold cU at q;rw [eval_ListComp];cases ei : it ρ with
  | ex c => rw [ei] at q; exact q.elim
  | no => rw [ei] at q; exact q.elim
  | ok ds =>
    rw [ei] at q;simp only [lw, R.ok_bind] at q;split at q
    · rename_i hsz;cases ec : bA b t f (aF own fr ρ) ds with
      | no => rw [ec] at q; exact q.elim
      | ex c =>
        rw [ec] at q;exact jm (use := none) T ck hout hi hb0 hbody hs I sl ei hsz ec (fun c' hr => by cases hr; exact q) (fun z => nomatch z) hstk fun xs a C H' s' m vs hr => by cases hr
      | ok xs =>
        rw [ec] at q;refine jm (use := none) T ck hout hi hb0 hbody hs I sl ei hsz ec (fun c' hr => by cases hr) (fun z => nomatch z) hstk fun xs' a C H' s' m vs hr I' fC hn s2' ha hv rv => ?_
        cases hr;obtain ⟨f0, f1, f2, f3, f4, f5⟩ := fC;refine ⟨m, hn, fun h' sb => ⟨.ref a, H', I'.turned (t' := s'.toks) (fun b o hb e => sb.extBut b o hb e) f0 f1 f3 f4 f5, rfl, ?_⟩⟩;refine q _ H' s2' ⟨?_, _, rfl, ha⟩;simp only [iI];exact ⟨_, vs, rfl, hv, rv⟩
    · exact q.elim
theorem Z.ln {X : Cx} {tg iter elt : Expr} {ifs : List Expr} {sc : Scope} {pos : Pos} {it : aH -> R (List PyData)} {b : PyData -> aH -> Option aH} {t : aH -> R Bool} {f : Fe} {N : List Str} {own : Nat} {G G0 : List Str} {fr : List Nat} {nl : Nat} (T : Tb X nl G0) (ck : dR sc N own G X.N fr) (hout : ∀ y ∈ sc.names, y.2 = .free -> X.env.kindOf y.1 = some .cell \/ X.env.kindOf y.1 = some .free) (hi : Z.mF X tg iter it) (hb0 : ∀ ρ d ρ1, b d (aF own fr ρ) = some ρ1 -> kF (aF own fr ρ) ρ1) (hbody : ∀ cl C s H fp E, Tb (aN X N sc cl C s H fp E) own G -> Z.oJ (aN X N sc cl C s H fp E) tg b /\ Z.sJ (aN X N sc cl C s H fp E) ifs t /\ Z.ah (aN X N sc cl C s H fp E) elt f) (hs : ∀ x, foldedSetIterable iter X.env x = pure x := by intro _; rfl) (hstk : ∃ env0 outer0 L, X.stack = env0 :: outer0 /\ env0.frame = some L /\ X.env.frame = some L := by exact ⟨_, _, _, rfl, rfl, rfl⟩) : Z.eL X (.ListComp elt [⟨tg, iter, ifs, 0⟩] sc pos) (cU it own fr b t f) :=
  ⟨D2.ln T ck hout hi.un hb0 (fun cl C s H fp E T => let ⟨q1, q2, q3⟩ := hbody cl C s H fp E T; ⟨q1.un, q2.un, q3.un⟩) hs hstk⟩
theorem wq {X : Cx} {tg iter elt : Expr} {ifs : List Expr} {sc : Scope} {pos py spos : Pos} {it : aH -> R (List PyData)} {b : PyData -> aH -> Option aH} {t : aH -> R Bool} {f : Fe} {N : List Str} {own : Nat} {G G0 : List Str} {fr : List Nat} {nl : Nat} {y : Str} {i : Nat}
    (T : Tb X nl G0) (ck : dR sc N own G X.N fr) (hout : ∀ y ∈ sc.names, y.2 = .free -> X.env.kindOf y.1 = some .cell \/ X.env.kindOf y.1 = some .free) (hi : mF X tg iter it)
    (hb0 : ∀ ρ d ρ1, b d (aF own fr ρ) = some ρ1 -> kF (aF own fr ρ) ρ1)
    (hbody : ∀ cl C s H fp E, Tb (aN X N sc cl C s H fp E) own G -> oJ (aN X N sc cl C s H fp E) tg b /\ sJ (aN X N sc cl C s H fp E) ifs t /\ ah (aN X N sc cl C s H fp E) elt f)
    (hN : (X.N.take nl)[i]? = some y) (hsw : swapsWith (.ListComp elt [⟨tg, iter, ifs, 0⟩] sc pos) (some (.Name y py)) spos.line X.env = pure true)
    (hs : ∀ x, foldedSetIterable iter X.env x = pure x := by intro _; rfl) (hstk : ∃ env0 outer0 L, X.stack = env0 :: outer0 /\ env0.frame = some L /\ X.env.frame = some L := by exact ⟨_, _, _, rfl, rfl, rfl⟩) : fI X (.Assign [.Name y py] (.ListComp elt [⟨tg, iter, ifs, 0⟩] sc pos) spos) (gX i (cU it own fr b t f)) := fun Fm => by
  intro pins s σ H D I h;obtain ⟨ρ, sl, q⟩ := h;unfold gX cU at q;obtain ⟨hNi, hl, hf⟩ := T.nm hN;cases ei : it ρ with
  | ex c => rw [ei] at q; exact q.elim
  | no => rw [ei] at q; exact q.elim
  | ok ds =>
    rw [ei] at q;simp only [lw, R.ok_bind] at q;by_cases hsz : ds.length <= sizeLine
    · rw [if_pos hsz] at q;cases ec : bA b t f (aF own fr ρ) ds with
      | no => rw [ec] at q; exact q.elim
      | ex c =>
        rw [ec] at q;rw [exec_Assign_Name_used _ _ _ _ hsw];refine wpAny_bind (wpAny_standAt (wpAny_bind ?_));show wpAny _ X.A (do let _ <- comprehension (.ListComp elt [⟨tg, iter, ifs, 0⟩] sc pos) sc X.env _ (newList []) false (eval iter X.env) (some (assign (.Name y py) X.env))) _ _ s;exact wpAny_bind (cV (jm (use := some (assign (.Name y py) X.env)) (Qc := fun _ s' => False) T ck hout hi hb0 hbody hs I sl.sl ei hsz ec (fun c' hr => by cases hr; exact q.1.mono sl.fm) (fun z => nomatch z) hstk fun xs a C H' s' m vs hr => by cases hr) fun _ s' hq => hq.elim)
      | ok xs =>
        rw [ec] at q;rw [exec_Assign_Name_used _ _ _ _ hsw];refine wpAny_bind (wpAny_standAt (wpAny_bind ?_));show wpAny _ X.A (do let _ <- comprehension (.ListComp elt [⟨tg, iter, ifs, 0⟩] sc pos) sc X.env _ (newList []) false (eval iter X.env) (some (assign (.Name y py) X.env))) _ _ s;refine wpAny_bind (cV (jm (use := some (assign (.Name y py) X.env)) (Qc := fun _ s' => SP X pins D .next s') T ck hout hi hb0 hbody hs I sl.sl ei hsz ec (fun c' hr => by cases hr) (fun z => nomatch z) hstk fun xs' a C H' s' m vs hr I' fC hn s2' ha hv rv => ?_) fun _ s' hq => wpAny_pure (wpAny_pure hq));cases hr;obtain ⟨f0, f1, f2, f3, f4, f5⟩ := fC;show wpAny _ X.A (assign (.Name y py) X.env (.ref a)) _ _ _;refine wpAny_assign_Name (mB I' T.nd hNi hl (v := .ref a) rfl (fun s'' I'' k => ?_) hf);have sls : fQ Fm H' (σ.set i (some (.ref a))) (ρ.set i (.own (.list xs))) := fQ.setOwn sl (sl.mono s2') s2' i ⟨by simp only [iI]; exact ⟨a, vs, rfl, hv, rv⟩, a, rfl, ha⟩;refine ⟨m, ?_, fun h' sb => ⟨_, H', I''.turned (t' := s''.toks) (fun b o hb e => sb.extBut b o hb e) f0 f1 f3 f4 f5, q _ H' sls⟩⟩;obtain ⟨a', sb', ha'⟩ := k;refine hn.sameBut sb' ?_;rcases ha' with rfl | ha'
        · exact f1
        · exact Ne.symm (f4 y a' ha')
    · rw [if_neg hsz] at q; exact q.elim
theorem fQ.freeze {Fm H : Hp} {σ : St} {ρ : aH} {i : Nat} {d : PyData} {a : Addr} {u : HO} {o : Obj} (h : fQ Fm H σ ρ) (h1 : ρ[i]? = some (.own d)) (h2 : σ[i]? = some (some (.ref a))) (hu : H a = some u) (hm : (∃ xs, u = .lst xs) \/ ∃ ks, u = .dK ks)
    (hr : Rp (cW H a (.frz o u)) d (.ref a)) : fQ Fm (cW H a (.frz o u)) σ (ρ.set i (.val d)) := by
  have hFa := h.own i d a h1 h2;have kp : Kp H (cW H a (.frz o u)) := gS hu hm;refine ⟨fun b x e => ?_, ⟨by rw [List.length_set]; exact h.sl.1, fun j c w' e1 e2 => ?_⟩, fun j e b e1 e2 => ?_, fun j k e f b e1 e2 e3 e4 => ?_⟩
  · rw [aI (aX e hFa)]; exact h.fm b x e
  · rw [List.getElem?_set] at e1;by_cases hij : i = j
    · subst hij;rw [if_pos rfl] at e1;split at e1
      · cases e1;rw [h2] at e2;cases e2;exact ⟨_, rfl, hr⟩
      · cases e1
    · rw [if_neg hij] at e1;have q := h.sl.2 j c w' e1 e2;cases c with
      | exc p => exact q
      | non => exact True.intro
      | val d' => obtain ⟨v, z1, z2⟩ := q; exact ⟨v, z1, Rp.kp kp _ _ z2⟩
      | own d' =>
        obtain ⟨v, z1, z2⟩ := q;subst z1;obtain ⟨b, ob, rfl, hb⟩ := nK z2;have nb : b ≠ a := fun z => hij (by subst z; exact h.apart i j d d' b h1 e1 h2 e2)
        refine ⟨_, rfl, ?_⟩;cases d' <;> simp only [iI] at z2 ⊢
        · obtain ⟨b', vs, e, hb', r⟩ := z2;cases e;exact ⟨b, vs, rfl, by rw [aI nb]; exact hb', bo.kp kp _ _ r⟩
        · obtain ⟨b', vs, e, hb', r⟩ := z2;cases e;exact ⟨b, vs, rfl, by rw [aI nb]; exact hb', de.kp kp _ _ r⟩
  · obtain ⟨ne, e1⟩ := bU (fun e z => by cases z) e1;exact h.own j e b e1 e2
  · obtain ⟨ne, e1⟩ := bU (fun e z => by cases z) e1;obtain ⟨ne', e2⟩ := bU (fun e z => by cases z) e2;exact h.apart j k e f b e1 e2 e3 e4
theorem zj {X : Cx} {pins : List (Addr × Obj)} {s : Shared} {Fm H : Hp} {σ : St} {ρ : aH} {i : Nat} {d : PyData} (I : aE X pins σ H s) (h : fQ Fm H σ ρ) (h1 : ρ[i]? = some (.own d)) :
    ∃ H' v, aE X pins σ H' s /\ fQ Fm H' σ (ρ.set i (.val d)) /\ σ[i]? = some (some v) /\ Rp H' d v := by
  obtain ⟨w', h2, v, rfl, q⟩ := h.sl.at h1;cases d <;> simp only [iI] at q
  · rename_i ds;obtain ⟨a, vs, rfl, ha, r⟩ := q;obtain ⟨o, J⟩ := iV I ha (.inl ⟨_, rfl⟩);have hr : Rp (cW H a (.frz o (.lst vs))) (.list ds) (.ref a) := by
      simp only [Rp];exact ⟨a, o, vs, rfl, bQ, bo.kp (gS ha (.inl ⟨_, rfl⟩)) _ _ r⟩
    exact ⟨_, _, J, h.freeze h1 h2 ha (.inl ⟨_, rfl⟩) hr, h2, hr⟩
  · rename_i ds;obtain ⟨a, vs, rfl, ha, r⟩ := q;obtain ⟨o, J⟩ := iV I ha (.inr ⟨_, rfl⟩);have hr : Rp (cW H a (.frz o (.dK vs))) (.dict ds) (.ref a) := by
      simp only [Rp];exact .inl ⟨a, o, vs, rfl, bQ, de.kp (gS ha (.inr ⟨_, rfl⟩)) _ _ r⟩
    exact ⟨_, _, J, h.freeze h1 h2 ha (.inr ⟨_, rfl⟩) hr, h2, hr⟩
theorem fI.fz {X : Cx} {st : Stmt} {i : Nat} {f : Fe} (h : fI X st (gX i f)) (hi : i < X.N.length) : fI X st (bF i f) := fun Fm => by
  intro pins s σ H D I ⟨ρ, sl, q⟩;unfold bF at q;cases ef : f ρ with
  | ex c => rw [ef] at q; exact h Fm pins s σ H D I ⟨ρ, sl, by unfold gX; rw [ef]; exact q⟩
  | no => rw [ef] at q; exact q.elim
  | ok d =>
    rw [ef] at q;have hr : wT X Fm (gX i f) { nx := fun σ' H' => fQ Fm H' σ' (ρ.set i (.own d)), rt := fun _ _ => False } σ H := ⟨ρ, sl, by unfold gX; rw [ef]; exact fun σ' H' s' => s'⟩
    refine cV (h Fm pins s σ H _ I hr) fun fl s' z => ?_
    cases fl with
    | next =>
      obtain ⟨σ', H', I', sls⟩ := z;have hi' : i < ρ.length := by rw [<- sl.sl.1, I.len]; exact hi
      obtain ⟨H2, v, I2, sl2, _, _⟩ := zj I' sls (i := i) (d := d) (by rw [List.getElem?_set, if_pos rfl, if_pos hi']);rw [List.set_set] at sl2;exact ⟨σ', H2, I2, q σ' H2 sl2⟩
    | brk => obtain ⟨_, _, _, z⟩ := z; exact z.elim
    | cont => obtain ⟨_, _, _, z⟩ := z; exact z.elim
    | ret u => obtain ⟨_, _, _, _, _, z⟩ := z; exact z.elim
theorem Z.fI.fz {X : Cx} {st : Stmt} {i : Nat} {f : Fe} (h : Z.fI X st (gX i f)) (hi : i < X.N.length) : Z.fI X st (bF i f) :=
  ⟨D2.fI.fz h.un hi⟩
theorem cA {X : Cx} {tg iter elt : Expr} {ifs : List Expr} {sc : Scope} {pos : Pos} {it : aH -> R (List PyData)} {b : PyData -> aH -> Option aH} {t : aH -> R Bool} {f : Fe} {N : List Str} {own : Nat} {G G0 : List Str} {fr : List Nat} {nl : Nat}
    (T : Tb X nl G0) {oN : List Str} {on : List (Str × NameKind)} (hoN : X.N = oN) (hon : X.env.scope.names = on)
    (ck : dR sc N own G oN fr /\ ∀ y ∈ sc.names, y.2 = .free -> on.lookup y.1 = some .cell \/ on.lookup y.1 = some .free) (hi : mF X tg iter it)
    (hb0 : ∀ ρ d ρ1, b d (aF own fr ρ) = some ρ1 -> kF (aF own fr ρ) ρ1)
    (hbody : ∀ cl C s H fp E, Tb (aN X N sc cl C s H fp E) own G -> oJ (aN X N sc cl C s H fp E) tg b /\ sJ (aN X N sc cl C s H fp E) ifs t /\ ah (aN X N sc cl C s H fp E) elt f)
    (hs : ∀ x, foldedSetIterable iter X.env x = pure x := by intro _; rfl) (hstk : ∃ env0 outer0 L, X.stack = env0 :: outer0 /\ env0.frame = some L /\ X.env.frame = some L := by exact ⟨_, _, _, rfl, rfl, rfl⟩) : eL X (.ListComp elt [⟨tg, iter, ifs, 0⟩] sc pos) (cU it own fr b t f) :=
  ln T (by rw [hoN]; exact ck.1) (fun y hy hf => by unfold Env.kindOf; rw [hon]; exact ck.2 y hy hf) hi hb0 hbody hs hstk
theorem Z.cA {X : Cx} {tg iter elt : Expr} {ifs : List Expr} {sc : Scope} {pos : Pos} {it : aH -> R (List PyData)} {b : PyData -> aH -> Option aH} {t : aH -> R Bool} {f : Fe} {N : List Str} {own : Nat} {G G0 : List Str} {fr : List Nat} {nl : Nat} (T : Tb X nl G0) {oN : List Str} {on : List (Str × NameKind)} (hoN : X.N = oN) (hon : X.env.scope.names = on) (ck : dR sc N own G oN fr /\ ∀ y ∈ sc.names, y.2 = .free -> on.lookup y.1 = some .cell \/ on.lookup y.1 = some .free) (hi : Z.mF X tg iter it) (hb0 : ∀ ρ d ρ1, b d (aF own fr ρ) = some ρ1 -> kF (aF own fr ρ) ρ1) (hbody : ∀ cl C s H fp E, Tb (aN X N sc cl C s H fp E) own G -> Z.oJ (aN X N sc cl C s H fp E) tg b /\ Z.sJ (aN X N sc cl C s H fp E) ifs t /\ Z.ah (aN X N sc cl C s H fp E) elt f) (hs : ∀ x, foldedSetIterable iter X.env x = pure x := by intro _; rfl) (hstk : ∃ env0 outer0 L, X.stack = env0 :: outer0 /\ env0.frame = some L /\ X.env.frame = some L := by exact ⟨_, _, _, rfl, rfl, rfl⟩) : Z.eL X (.ListComp elt [⟨tg, iter, ifs, 0⟩] sc pos) (cU it own fr b t f) :=
  ⟨D2.cA T hoN hon ck hi.un hb0 (fun cl C s H fp E T => let ⟨q1, q2, q3⟩ := hbody cl C s H fp E T; ⟨q1.un, q2.un, q3.un⟩) hs hstk⟩
theorem nR {X : Cx} {tg iter elt : Expr} {ifs : List Expr} {sc : Scope} {pos py spos : Pos} {it : aH -> R (List PyData)} {b : PyData -> aH -> Option aH} {t : aH -> R Bool} {f : Fe} {N : List Str} {own : Nat} {G G0 : List Str} {fr : List Nat} {nl : Nat} {y : Str} (i : Nat)
    (hN : (X.N.take nl)[i]? = some y) (T : Tb X nl G0) {oN : List Str} {on : List (Str × NameKind)} (hoN : X.N = oN) (hon : X.env.scope.names = on)
    (ck : dR sc N own G oN fr /\ ∀ y ∈ sc.names, y.2 = .free -> on.lookup y.1 = some .cell \/ on.lookup y.1 = some .free) (hi : mF X tg iter it)
    (hb0 : ∀ ρ d ρ1, b d (aF own fr ρ) = some ρ1 -> kF (aF own fr ρ) ρ1)
    (hbody : ∀ cl C s H fp E, Tb (aN X N sc cl C s H fp E) own G -> oJ (aN X N sc cl C s H fp E) tg b /\ sJ (aN X N sc cl C s H fp E) ifs t /\ ah (aN X N sc cl C s H fp E) elt f)
    (hsw : swapsWith (.ListComp elt [⟨tg, iter, ifs, 0⟩] sc pos) (some (.Name y py)) spos.line X.env = pure true := by rfl)
    (hs : ∀ x, foldedSetIterable iter X.env x = pure x := by intro _; rfl) (hstk : ∃ env0 outer0 L, X.stack = env0 :: outer0 /\ env0.frame = some L /\ X.env.frame = some L := by exact ⟨_, _, _, rfl, rfl, rfl⟩) : fI X (.Assign [.Name y py] (.ListComp elt [⟨tg, iter, ifs, 0⟩] sc pos) spos) (gX i (cU it own fr b t f)) :=
  wq T (by rw [hoN]; exact ck.1) (fun y hy hf => by unfold Env.kindOf; rw [hon]; exact ck.2 y hy hf) hi hb0 hbody hN hsw hs hstk
theorem Z.nR {X : Cx} {tg iter elt : Expr} {ifs : List Expr} {sc : Scope} {pos py spos : Pos} {it : aH -> R (List PyData)} {b : PyData -> aH -> Option aH} {t : aH -> R Bool} {f : Fe} {N : List Str} {own : Nat} {G G0 : List Str} {fr : List Nat} {nl : Nat} {y : Str} (i : Nat) (hN : (X.N.take nl)[i]? = some y) (T : Tb X nl G0) {oN : List Str} {on : List (Str × NameKind)} (hoN : X.N = oN) (hon : X.env.scope.names = on) (ck : dR sc N own G oN fr /\ ∀ y ∈ sc.names, y.2 = .free -> on.lookup y.1 = some .cell \/ on.lookup y.1 = some .free) (hi : Z.mF X tg iter it) (hb0 : ∀ ρ d ρ1, b d (aF own fr ρ) = some ρ1 -> kF (aF own fr ρ) ρ1) (hbody : ∀ cl C s H fp E, Tb (aN X N sc cl C s H fp E) own G -> Z.oJ (aN X N sc cl C s H fp E) tg b /\ Z.sJ (aN X N sc cl C s H fp E) ifs t /\ Z.ah (aN X N sc cl C s H fp E) elt f) (hsw : swapsWith (.ListComp elt [⟨tg, iter, ifs, 0⟩] sc pos) (some (.Name y py)) spos.line X.env = pure true := by rfl) (hs : ∀ x, foldedSetIterable iter X.env x = pure x := by intro _; rfl) (hstk : ∃ env0 outer0 L, X.stack = env0 :: outer0 /\ env0.frame = some L /\ X.env.frame = some L := by exact ⟨_, _, _, rfl, rfl, rfl⟩) : Z.fI X (.Assign [.Name y py] (.ListComp elt [⟨tg, iter, ifs, 0⟩] sc pos) spos) (gX i (cU it own fr b t f)) :=
  ⟨D2.nR i hN T hoN hon ck hi.un hb0 (fun cl C s H fp E T => let ⟨q1, q2, q3⟩ := hbody cl C s H fp E T; ⟨q1.un, q2.un, q3.un⟩) hsw hs hstk⟩
theorem iq {own : Nat} {fr : List Nat} {i : Nat} (h : i < own) : ∀ ρ d ρ1, dq i d (aF own fr ρ) = some ρ1 -> kF (aF own fr ρ) ρ1 := fun ρ d ρ1 e => by
  have e' : ρ1 = (aF own fr ρ).set i (.val d) := (Option.some.inj e).symm;subst e';refine ⟨by rw [List.length_set], fun j c hj => ?_⟩;by_cases hij : i = j
  · subst hij;left;unfold aF at hj;rw [List.getElem?_append_left (by simpa using h), List.getElem?_replicate, if_pos h] at hj;exact (Option.some.inj hj).symm
  · right;rw [List.getElem?_set, if_neg hij]; exact hj
def rl (sc : Scope) (N G : List Str) : Prop :=
  N.Nodup /\ (∀ x ∈ N, (sc.names.lookup x = some .local \/ sc.names.lookup x = some .cell) /\ (x == ("__debug__" : Str)) = false /\ (x == ("__classdict__" : Str)) = false) /\ ∀ x ∈ G, sc.names.lookup x = some .globalImplicit /\ (x == ("__debug__" : Str)) = false /\ x ≠ ("__name__" : Str)
instance {sc : Scope} {N G : List Str} : Decidable (rl sc N G) := by unfold rl; infer_instance
theorem xk {P : Program} {w : World} {K : PySem.W.Frag} {mg : Str -> Option Value} {base : Heap} {N : List Str} {qual : Str} {sc : Scope} {f : Addr} {cdv : Value} {A : Around} {outer : List Env} {s : Shared} {H : Hp} {E : XK} {G : List Str} {k : Nat}
    (hr : dG k (A.deeper (envOfC qual sc s.heap.objs.size f cdv))) (ck : rl sc N G) : Tb (dZ (dc P w mg) P w K mg base N qual sc f cdv A outer s H E) N.length G := by
  obtain ⟨nd, l, g⟩ := ck;refine ⟨hr.units, rfl, nd, fun x hx => ⟨?_, (l x hx).2⟩, fun x hx => ⟨?_, .inl rfl⟩, fun x hx => ?_⟩
  · rcases (l x hx).1 with q | q
    · exact .inl q
    · exact .inr (.inl q)
  · exact (l x (List.mem_of_mem_take hx)).1
  · exact g x hx
section
variable {X : Cx} {a b c : Expr} {fa fb fc : Fe} {pos : Pos}
def rJ (X : Cx) (P : Hp -> Hp -> PyData -> V -> Prop) (r : V -> Hp -> VK -> Prop) (g : PyData -> R PyData) : Prop := ∀ H x dx Q, fJ H dx x -> qZ X P (g dx) H Q -> r x H Q
theorem Az {P : Hp -> Hp -> PyData -> V -> Prop} {r : V -> Hp -> VK -> Prop} {g : PyData -> R PyData} (hP : Dn P) (hg : rJ X P r g) (σ : St) (H : Hp) (Q : VK) (h : gM X P (e1 g fa) σ H Q) : AT r (gM X oy fa) σ H Q :=
  (dl (P := oy) (k := fun _ x => g x) (dN (X := X) hP Q) h).post fun v H1 ⟨_, d1, _, _, p1, q1⟩ => hg H1 v d1 Q p1 q1
def mx : PyData -> R PyData
  | .int i => .ok (.int (-i))
  | _ => .no
theorem x5 : rJ X fO (rU fun i => .int (-i)) mx := fun H x dx Q hx q => by
  unfold mx at q;split at q
  · exact ⟨_, bd hx, q _ H (ay.refl _) ci⟩
  · exact q.elim
theorem lS (ha : bh X a fa) : ah X (.UnaryOp .USub a pos) (e1 mx fa) := PE.imp (zn xf ha) (Az dQ x5)
theorem Z.lS (ha : Z.bh X a fa) : Z.ah X (.UnaryOp .USub a pos) (e1 mx fa) :=
  ⟨D2.lS ha.un⟩
def lE (g g' : PyData -> PyData -> R PyData) (fa fb fc : Fe) : Fe := fun ρ => fa ρ >>= fun x => fb ρ >>= fun y => g x y >>= fun d => oI d >>= fun k => if k = true then fc ρ >>= fun z => g' y z else .ok (.bool false)
theorem uo {r r' : R2} {g g' : PyData -> PyData -> R PyData} (hg : bu X fO r g) (hg' : bu X fO r' g') (σ : St) (H : Hp) (Q : VK) (h : gM X fO (lE g g' fa fb fc) σ H Q) :
    tX r r' (gM X oy fa) (gM X oy fb) (gM X oy fc) σ H Q :=
  (dl (P := oy) (k := fun ρ x => fb ρ >>= fun y => g x y >>= fun d => oI d >>= fun k => if k = true then fc ρ >>= fun z => g' y z else .ok (.bool false)) (dN (X := X) dQ Q) h).post fun v H1 ⟨ρ1, d1, sl1, _, p1, q1⟩ =>
    (dl (P := oy) (f := fb) (k := fun ρ y => g d1 y >>= fun d => oI d >>= fun k => if k = true then fc ρ >>= fun z => g' y z else .ok (.bool false)) (dN (X := X) dQ Q) ⟨ρ1, sl1, q1⟩).post fun u H2 ⟨ρ2, d2, sl2, s2, p2, q2⟩ => by
      refine hg H2 v u d1 d2 _ (fJ.mono p1 s2) p2 ?_;cases e : g d1 d2 with
      | ex c => rw [e] at q2; exact q2
      | no => rw [e] at q2; exact q2
      | ok d =>
        rw [e] at q2;intro w' H3 s3 p3;have q3 : qZ X fO (oI d >>= fun k => if k = true then fc ρ2 >>= fun z => g' d2 z else .ok (.bool false)) H2 Q := q2;cases d with
        | bool k =>
          have e3 : w' = .bl k := by simpa only [Rp] using p3
          refine ⟨k, e3, ?_⟩;cases k with
          | false => exact q3 _ H3 s3 dk
          | true =>
            have q4 : qZ X fO (fc ρ2 >>= fun z => g' d2 z) H2 Q := q3;exact (dl (P := oy) (f := fc) (k := fun _ z => g' d2 z) (dN (X := X) dQ Q) ⟨ρ2, sl2.mono s3, (dN (X := X) dQ Q).mono _ _ _ q4 s3⟩).post fun z H4 ⟨_, d4, _, s4, p4, q5⟩ => hg' H4 u z d2 d4 Q (fJ.mono p2 (s3.trans s4)) p4 q5
        | none => exact q3.elim
        | int i => exact q3.elim
        | str i => exact q3.elim
        | list i => exact q3.elim
        | tuple i => exact q3.elim
        | dict i => exact q3.elim
theorem lg {op op' : CmpOp} {r r' : R2} {g g' : PyData -> PyData -> R PyData} (ho : gr X (compareOp op) r) (hg : bu X fO r g) (ho' : gr X (compareOp op') r') (hg' : bu X fO r' g') (ha : bh X a fa) (hb : bh X b fb) (hc : bh X c fc)
    (hm : lastMarks [op, op'] [b, c] = false := by with_unfolding_all rfl) : ah X (.Compare a [op, op'] [b, c] pos) (lE g g' fa fb fc) := PE.imp (uQ ho ho' ha hb hc hm) (uo hg hg')
theorem Z.lg {op op' : CmpOp} {r r' : R2} {g g' : PyData -> PyData -> R PyData} (ho : gr X (compareOp op) r) (hg : bu X fO r g) (ho' : gr X (compareOp op') r') (hg' : bu X fO r' g') (ha : Z.bh X a fa) (hb : Z.bh X b fb) (hc : Z.bh X c fc) (hm : lastMarks [op, op'] [b, c] = false := by with_unfolding_all rfl) : Z.ah X (.Compare a [op, op'] [b, c] pos) (lE g g' fa fb fc) :=
  ⟨D2.lg ho hg ho' hg' ha.un hb.un hc.un hm⟩
variable {es : List Expr} {fs : aH -> R (List PyData)}
def dI (fs : aH -> R (List PyData)) : Fe := fun ρ => fs ρ >>= fun ds => if ds.length <= sizeLine then .ok (.tuple ds) else .no
def dL (fs : aH -> R (List PyData)) : Fe := fun ρ => fs ρ >>= fun ds => if ds.length <= sizeLine then .ok (.list ds) else .no
theorem cE {x1} (h : mh X es fs) : ah X (.Tuple es x1 pos) (dI fs) :=
  PE.imp (xJ h) fun σ H Q q => (lf (I := Rp) (f := fs) (k := fun _ ds => if ds.length <= sizeLine then .ok (.tuple ds) else .no) (dN (X := X) dQ Q) q).post fun vs H1 ⟨_, ds, _, _, p, q1⟩ => by
    have p := lV.mp p;split at q1
    · rename_i hz;exact ⟨by rw [p.length]; exact hz, fun a ha => q1 _ _ (bD ha _) (cR ha p)⟩
    · exact q1.elim
theorem Z.cE {x1} (h : Z.mh X es fs) : Z.ah X (.Tuple es x1 pos) (dI fs) :=
  ⟨D2.cE h.un⟩
theorem cs (h : mh X es fs) : eL X (.List es pos) (dL fs) :=
  PE.imp (xZ h) fun σ H Q q => (lf (I := Rp) (f := fs) (k := fun _ ds => if ds.length <= sizeLine then .ok (.list ds) else .no) (dN (X := X) v9 Q) q).post fun vs H1 ⟨_, ds, _, _, p, q1⟩ => by
    have p := lV.mp p;split at q1
    · rename_i hz;exact ⟨by rw [p.length]; exact hz, fun a ha => q1 _ _ (bD ha _) (cP ha p)⟩
    · exact q1.elim
theorem Z.cs (h : Z.mh X es fs) : Z.eL X (.List es pos) (dL fs) :=
  ⟨D2.cs h.un⟩
theorem j8 : eL X (.Dict [] [] pos) (eC (.dict [])) :=
  PE.imp t9 fun σ H Q ⟨ρ, sl, q⟩ p hp => q _ _ (bD hp _) ⟨by simp only [iI]; exact ⟨p, [], rfl, bQ, by simp only [de]⟩, p, rfl, hp⟩
theorem Z.j8  : Z.eL X (.Dict [] [] pos) (eC (.dict [])) :=
  ⟨D2.j8⟩
def aT : PyData -> PyData -> R PyData
  | .list ds, .int i => match atI ds i with
    | some d => .ok d
    | none => .no
  | .tuple ds, .int i => match atI ds i with
    | some d => .ok d
    | none => .no
  | .str z, .int i => if z.length <= sizeLine then match atI z.cps.toList i with
    | some c => .ok (.str ⟨#[c]⟩)
    | none => .no else .no
  | .dict kvs, k => if mJ kvs = true then .no else match fY k with
    | some _ => match kr kvs k with
      | some d => .ok d
      | none => .no
    | none => .no
  | _, _ => .no
theorem bo.atI {H : Hp} {ds : List PyData} {vs : List V} {i : Int} {d : PyData} (r : bo H ds vs) (e : L2.atI ds i = some d) : ∃ v, L2.atI vs i = some v /\ Rp H d v := by
  unfold L2.atI at e ⊢;rw [r.length];cases h : wI ds.length i with
  | none => rw [h] at e; cases e
  | some j =>
    rw [h] at e;obtain ⟨v, e1, p⟩ := r.get (show ds[j]? = some d from e);exact ⟨v, e1, p⟩
def zo : R2 := fun x y H Q => ∃ a v, x = .ref a /\ lF H a y (some v) /\ Q v H
theorem vA (hu : X.A.units + 1 < cLine) : wB X zo := by
  intro value slice pins s σ H x y v u Q I rx ry h hs;obtain ⟨a, z, rfl, g, q⟩ := h;cases rx;exact tail_any (oO I g) PySem.F.slot_dict_getitem.lookup (sw hu I g ry fun w' s3 I3 rw' => ⟨z, H, I3, rw', q⟩) hs
theorem zd : bu X fO (fun x y H Q => zO X.K x y H Q \/ zx X.K x y H Q \/ yR x y H Q \/ zo x y H Q) aT := fun H x y dx dy Q hx hy q => by
  unfold aT at q;split at q
  · rename_i ds i;split at q
    · rename_i d e;obtain ⟨a, vs, rfl, hq, r⟩ := cM (K := X.K) hx;obtain ⟨v, e1, p⟩ := r.atI e;exact .inl ⟨a, vs, i, v, rfl, bd hy, hq, e1, q v H (ay.refl _) p⟩
    · exact q.elim
  · rename_i ds i;split at q
    · rename_i d e;obtain ⟨a, vs, rfl, hq, r⟩ := cc hx;obtain ⟨v, e1, p⟩ := r.atI e;exact .inr (.inl ⟨a, vs, i, v, rfl, bd hy, ge.of hq, e1, q v H (ay.refl _) p⟩)
    · exact q.elim
  · rename_i z i;split at q
    · rename_i hz;split at q
      · rename_i c e;exact .inr (.inr (.inl ⟨z, i, c, eN hx, bd hy, hz, e, q _ H (ay.refl _) qR⟩))
      · exact q.elim
    · exact q.elim
  · rename_i kvs k;split at q
    · exact q.elim
    rename_i hi;split at q
    · rename_i κ e;split at q
      · rename_i d e1;obtain ⟨a, ks, rfl, h, r⟩ := jx (Bool.not_eq_true _ ▸ hi) hx;obtain ⟨o, g, _, e2⟩ := rE (κ := κ) h r;rw [oG e] at e1;obtain ⟨v, rfl, p⟩ := e2 d e1;rw [<- rb hy e] at g;exact .inr (.inr (.inr ⟨a, v, rfl, g, q v H (ay.refl _) p⟩))
      · exact q.elim
    · exact q.elim
  · exact q.elim
theorem aR (hu : X.A.units + 64 < cLine) (ha : bh X a fa) (hb : bh X b fb) (hs : n8 b) : ah X (.Subscript a b pos) (e2 aT fa fb) := PE.imp (yK (vd.or (xW.or (x8.or (vA (by omega))))) ha hb hs) (zS dQ zd)
theorem Z.aR (hu : X.A.units + 64 < cLine) (ha : Z.bh X a fa) (hb : Z.bh X b fb) (hs : n8 b) : Z.ah X (.Subscript a b pos) (e2 aT fa fb) :=
  ⟨D2.aR hu ha.un hb.un hs⟩
variable {nl : Nat} {G : List Str} {x : Str} {p : Pos}
def ny (X : Cx) (P : Hp -> Hp -> PyData -> V -> Prop) (r : List V -> Hp -> VK -> Prop) (g : List PyData -> R PyData) : Prop := ∀ H xs ds Q, RA fJ H ds xs -> qZ X P (g ds) H Q -> r xs H Q
theorem rq {P : Hp -> Hp -> PyData -> V -> Prop} {r : List V -> Hp -> VK -> Prop} {g : List PyData -> R PyData} (hP : Dn P) (hg : ny X P r g) (σ : St) (H : Hp) (Q : VK) (h : gM X P (fun ρ => fs ρ >>= g) σ H Q) : AI r (tT X fJ fs) σ H Q :=
  (lf (I := fJ) (k := fun _ => g) (dN (X := X) hP Q) h).post fun vs H1 ⟨_, ds, _, _, p1, q1⟩ => hg H1 vs ds Q p1 q1
def one (g : PyData -> R PyData) : List PyData -> R PyData
  | [d] => g d
  | _ => .no
def xX (g : PyData -> PyData -> R PyData) : List PyData -> R PyData
  | [d, e] => g d e
  | _ => .no
theorem qd (g : PyData -> R PyData) (fa : Fe) : (fun ρ => ae fa aA ρ >>= one g) = e1 g fa := by
  funext ρ;unfold ae aA e1;cases fa ρ <;> rfl
theorem yt (g : PyData -> PyData -> R PyData) (fa fb : Fe) : (fun ρ => ae fa (ae fb aA) ρ >>= xX g) = e2 g fa fb := by
  funext ρ;unfold ae aA e2;cases fa ρ with
  | ok a => cases fb ρ <;> rfl
  | ex c => rfl
  | no => rfl
theorem p8 {P : Hp -> Hp -> PyData -> V -> Prop} {r : List V -> Hp -> VK -> Prop} {g : PyData -> R PyData} (h : ∀ H x d Q, fJ H d x -> qZ X P (g d) H Q -> r [x] H Q) : ny X P r (one g) := fun H xs ds Q ra q => by
  unfold one at q;split at q
  · rename_i d;simp only [RA] at ra;obtain ⟨v, r', e, p, e2⟩ := ra;subst e2; subst e;exact h H v d Q p q
  · exact q.elim
theorem yl {P : Hp -> Hp -> PyData -> V -> Prop} {r : List V -> Hp -> VK -> Prop} {g : PyData -> PyData -> R PyData} (h : ∀ H x y d e Q, fJ H d x -> fJ H e y -> qZ X P (g d e) H Q -> r [x, y] H Q) : ny X P r (xX g) := fun H xs ds Q ra q => by
  unfold xX at q;split at q
  · rename_i d e;simp only [RA] at ra;obtain ⟨v, r', e1, p, v', r'', e2, p', e3⟩ := ra;subst e3; subst e2; subst e1;exact h H v v' d e Q p p' q
  · exact q.elim
section
variable {P : Hp -> Hp -> PyData -> V -> Prop} {r : List V -> Hp -> VK -> Prop} {g : PyData -> R PyData} {g2 : PyData -> PyData -> R PyData} {id ty : String}
theorem vS (T : Tb X nl G) (j : Nat) (hG : G[j]? = some x) (hm : X.mg x = none) (hP : Dn P) (hv : bootBuiltins x = some (.builtin id)) (hc : cI X (.builtin id) r) (hg : ∀ H x d Q, fJ H d x -> qZ X P (g d) H Q -> r [x] H Q) (ha : bh X a fa)
    (he : am a = true := by rfl) : PE X (.Call (.Name x p) [a] [] pos) (gM X P (e1 g fa)) := by
  have q := T.gl x (List.mem_of_getElem? hG);rw [<- qd];exact PE.imp (jL hc q.1 hm hv (jB ha nA he) q.2.2 q.2.1 (bc he)) (rq hP (p8 hg))
theorem yr (T : Tb X nl G) (j : Nat) (hG : G[j]? = some x) (hm : X.mg x = none) (hP : Dn P) (hv : bootBuiltins x = some (.type ty)) (hc : cI X (.type ty) r) (hg : ∀ H x d Q, fJ H d x -> qZ X P (g d) H Q -> r [x] H Q) (ha : bh X a fa)
    (he : am a = true := by rfl) : PE X (.Call (.Name x p) [a] [] pos) (gM X P (e1 g fa)) := by
  have q := T.gl x (List.mem_of_getElem? hG);rw [<- qd];exact PE.imp (mM hc q.1 hm hv (jB ha nA he) q.2.2 q.2.1 (bc he)) (rq hP (p8 hg))
theorem zH (T : Tb X nl G) (j : Nat) (hG : G[j]? = some x) (hm : X.mg x = none) (hP : Dn P) (hv : bootBuiltins x = some (.builtin id)) (hc : cI X (.builtin id) r) (hg : ∀ H x y d e Q, fJ H d x -> fJ H e y -> qZ X P (g2 d e) H Q -> r [x, y] H Q) (ha : bh X a fa) (hb : bh X b fb)
    (he : am a = true := by rfl) (he2 : am b = true := by rfl) : PE X (.Call (.Name x p) [a, b] [] pos) (gM X P (e2 g2 fa fb)) := by
  have q := T.gl x (List.mem_of_getElem? hG);rw [<- yt];exact PE.imp (jL hc q.1 hm hv (jB ha (jB hb nA he2) he) q.2.2 q.2.1 (bc he) (kU (by rw [List.all_cons, he2]; rfl))) (rq hP (yl hg))
end
end
theorem ki : fillsNumberSlot (.type "tuple") "mul" = pure false :=
  PySem.fillsNumberSlot_seq (id := "tuple.__mul__") (r := some (.builtin "tuple.__rmul__")) F.slot_tuple_mul.lookup (by decide +kernel) F.slot_tuple_rmul.lookup (by decide +kernel)
theorem nq : seqRepeat? (.type "tuple") = pure (some (.builtin "tuple.__mul__")) := by
  unfold seqRepeat?;rw [PySem.seqSlot_of (T := "tuple") (name := "__mul__") (id := "tuple.__mul__") F.slot_tuple_mul.lookup (by decide +kernel), PySem.seqSlot_of (T := "tuple") (name := "__rmul__") (id := "tuple.__rmul__") F.slot_tuple_rmul.lookup (by decide +kernel)];rfl
theorem lT (a : Int) (t : Tok) (l : Addr) (items : Array Value) (n : Nat) (dd : Option Addr) (sl : Array (Option Value)) :
    Meets (Builtin.«int.__rmul__» ⟨[.int a t, .ref l], []⟩) (fun _ R s => s.heap.get? l = some { cls := .type "tuple", dict := dd, data := .seq items n, slots := sl } /\ R (.ok (.ret Value.notImplemented)) s) :=
  .of_wp fun prog w A R s h => by obtain ⟨hp, g, d, tk, os⟩ := s; obtain ⟨hl, h⟩ := h; wp_walk; exact ⟨_, rfl, h⟩
theorem qw (l : Addr) (items : Array Value) (n : Nat) (dd : Option Addr) (sl : Array (Option Value)) (x : Int) (u : Tok) (h1 : 2 <= x) (h2 : x < 2 ^ 63) (h0 : ¬ items.isEmpty = true) (hc1 : ¬ (items.size : Int) * x > (2 ^ 63 - 1) / 8) (hbig : Builtin.Tuple.tupleTooMany ((items.size : Int) * x) = false) (hsz : ¬ (List.foldl (fun x1 x2 => x1 ++ x2) #[] (List.replicate x.toNat items)).size > sizeLine) :
    Meets (Builtin.«tuple.__mul__» ⟨[.ref l, .int x u], []⟩) (fun _ R s => s.heap.get? l = some { cls := .type "tuple", dict := dd, data := .seq items n, slots := sl } /\ R (.ok (.ret (Value.ref s.heap.objs.size))) { s with heap := s.heap.push { cls := Value.type "tuple", data := Data.seq (List.foldl (fun x1 x2 => x1 ++ x2) #[] (List.replicate x.toNat items)) }, toks := s.toks }) :=
  .of_wp fun prog w A R s h => by
    obtain ⟨hp, g, d, tk, os⟩ := s; obtain ⟨hl, h⟩ := h;have f1 := AutoSeq1.idx_int; have f2 := AutoSeq1.sub_tuple_tuple; have f3 := AutoSeq1.sub_list_list; have f4 := AutoSeq1.sub_tuple_list; have f5 := AutoSeq1.sub_list_tuple;have e0 : (decide (x < -2 ^ 63) || decide (x >= 2 ^ 63)) = false := by
      rw [decide_eq_false (by omega), decide_eq_false (by omega)]; rfl
    have e1 : (items.isEmpty || x == 1) = false := by
      have : (x == 1) = false := by simp; omega
      rw [this, Bool.or_false]; exact Bool.eq_false_iff.mpr h0
    have e2 : (decide (x <= 0) || items.isEmpty) = false := by
      rw [decide_eq_false (by omega), Bool.false_or]; exact Bool.eq_false_iff.mpr h0
    have e3 : decide ((items.size : Int) * x > (2 ^ 63 - 1) / 8) = false := decide_eq_false hc1;have e4 : Builtin.Tuple.tupleTooMany ((items.size : Int) * x) = false := hbig
    wp_walk using wpAny_loadPart' hl
    refine wpAny_ite_false (decide_eq_false (by rw [e0]; exact Bool.false_ne_true)) ?_
    wp_walk using wpAny_loadPart' hl
    refine wpAny_ite_false (decide_eq_false (by rw [e1]; exact Bool.false_ne_true)) ?_
    wp_walk using wpAny_loadPart' hl
    refine wpAny_ite_false (decide_eq_false (by rw [e2]; exact Bool.false_ne_true)) ?_
    wp_walk using wpAny_loadPart' hl
    refine wpAny_ite_false e3 ?_
    wp_walk using wpAny_loadPart' hl
    exact ⟨_, rfl, h⟩
section
variable {X : Cx} {a b c : Expr} {fa fb fc : Fe} {pos : Pos} {nl : Nat} {G : List Str} {x : Str} {p : Pos}
def wJ (K : PySem.W.Frag) : R2 := fun x y H Q => ∃ l k xs, x = .ref l /\ y = .int k /\ ge K H l xs /\ xs ≠ [] /\ 2 <= k /\ k < 2 ^ 63 /\ xs.length * k.toNat <= sizeLine /\ ∀ p, H p = none -> Q (.ref p) (cW H p (.tup (List.replicate k.toNat xs).flatten))
theorem vV : gr X (binaryOp .Mult) (wJ X.K) := by
  intro pins s σ H x y v u Q I rx ry h;obtain ⟨l, k, xs, rfl, rfl, hH, hne, h1, h2, hz, q⟩ := h;cases rx;obtain ⟨t, rfl⟩ := ry;obtain ⟨its, r, pl, hz0⟩ := I.tuple hH;obtain ⟨⟨cls, dd, data, sl⟩, e, hc, n, hd⟩ := id pl;simp only at hc hd;subst hc hd;have hl := r.length;have hnew : List.foldl (fun x1 x2 => x1 ++ x2) #[] (List.replicate k.toNat its.toArray) = (List.replicate k.toNat its).flatten.toArray := by
    have := mT its k.toNat [];rw [List.nil_append] at this;exact this
  have hlen : (List.replicate k.toNat its).flatten.length <= sizeLine := by rw [rC, <- hl, Nat.mul_comm]; exact hz
  have hprod : (its.length : Int) * k <= (sizeLine : Int) := by
    have h3 : ((its.length * k.toNat : Nat) : Int) <= (sizeLine : Int) := by rw [<- hl]; exact Int.ofNat_le.mpr hz
    have h4 : ((k.toNat : Nat) : Int) = k := Int.toNat_of_nonneg (by omega);rw [Int.natCast_mul, h4] at h3;exact h3
  have hcap : ¬ (its.toArray.size : Int) * k > (2 ^ 63 - 1) / 8 := by
    rw [List.size_toArray];have hs : sizeLine = 16777216 := sizeLine_eq;omega
  have hbig : Builtin.Tuple.tupleTooMany ((its.toArray.size : Int) * k) = false := by
    unfold Builtin.Tuple.tupleTooMany;rw [List.size_toArray];exact decide_eq_false (by omega)
  refine wpAny_binaryOp_repeat_ref (T := "tuple") (U := "int") (by decide) ⟨_, e, rfl⟩ (fun s' => typeIs_int s' k t) ki F.fills_int_mul F.slot_int_rmul nq F.slot_int_index.lookup
    (call_meets F.slot_int_rmul (typeIs_int s k t) F.entry_int_rmul (F.args_int_rmul_2 _ _) (lT k t l its.toArray n dd sl)
      ⟨e, rfl, ⟨_, e, rfl⟩, call_meets F.slot_tuple_mul ⟨_, e, rfl⟩ F.entry_tuple_mul (F.args_tuple_mul_2 _ _) (qw l its.toArray n dd sl k t h1 h2 (by
        intro z;apply hne;have : its = [] := by simpa using z
        rw [this] at hl;exact List.length_eq_zero_iff.mp hl) hcap hbig (by rw [hnew, List.size_toArray]; omega)) ⟨e, ?_⟩⟩)
  rw [hnew];refine ⟨.ref s.heap.objs.size, _, I.laid (t' := s.toks) (o := .tup (List.replicate k.toNat xs).flatten) (fun b ob q => Heap.get?_push_of_some _ q) (Nat.le_refl _) ?_, rfl, q _ (I.hok.fresh (Nat.le_refl _))⟩;exact ⟨by rw [rC, Nat.mul_comm]; exact hz, _, r.rep k.toNat, IsTup.new _ _⟩
def dJ : PyData -> PyData -> R PyData
  | .int i, .int j => if (-(2 ^ 64) < i /\ i < 2 ^ 64) \/ (-(2 ^ 64) < j /\ j < 2 ^ 64) then .ok (.int (i * j)) else .no
  | .tuple xs, .int k => if xs ≠ [] /\ 2 <= k /\ k < 2 ^ 63 /\ xs.length * k.toNat <= sizeLine then .ok (.tuple (List.replicate k.toNat xs).flatten) else .no
  | _, _ => .no
theorem xb : bu X fO (fun x y H Q => rI vJ (fun i j => .int (i * j)) x y H Q \/ wJ X.K x y H Q) dJ := fun H x y dx dy Q hx hy q => by
  cases dx with
  | int i =>
    cases dy with
    | int j =>
      simp only [dJ] at q;split at q
      · rename_i h; exact .inl ⟨_, _, bd hx, bd hy, h, q _ H (ay.refl _) ci⟩
      · exact q.elim
    | _ => exact q.elim
  | tuple xs =>
    cases dy with
    | int k =>
      simp only [dJ] at q;split at q
      · rename_i h;obtain ⟨a, vs, rfl, ha, r⟩ := cc hx;have hl := r.length;refine .inr ⟨a, k, vs, rfl, bd hy, ge.of ha, fun z => h.1 ?_, h.2.1, h.2.2.1, by rw [hl]; exact h.2.2.2, fun p hp => q _ _ (bD hp _) (cR hp (r.rep _))⟩;rw [z] at hl;exact List.length_eq_zero_iff.mp hl.symm
      · exact q.elim
    | _ => exact q.elim
  | _ => exact q.elim
theorem eF (ha : bh X a fa) (hb : bh X b fb) : ah X (.BinOp a .Mult b pos) (e2 dJ fa fb) := j9 dQ (xa.or vV) xb ha hb
theorem Z.eF (ha : Z.bh X a fa) (hb : Z.bh X b fb) : Z.ah X (.BinOp a .Mult b pos) (e2 dJ fa fb) :=
  ⟨D2.eF ha.un hb.un⟩
theorem vT : gr X (binaryOp .Add) (fun x y H Q => ∃ i j, x = .str i /\ y = .str j /\ i.length + j.length <= sizeLine /\ Q (.str (i ++ j)) H) := by
  intro pins s σ H x y v u Q I rx ry h;obtain ⟨i, j, rfl, rfl, hz, q⟩ := h;obtain ⟨t, rfl⟩ := rx;obtain ⟨t', rfl⟩ := ry;exact PyProof.Rows.add_str (fun t' tk => ⟨.str (i ++ j), H, I.tok _, ⟨_, rfl⟩, q⟩) hz
def ud (K : PySem.W.Frag) : R2 := fun x y H Q => ∃ a b ys, x = .ref a /\ y = .ref b /\ ge K H a [] /\ ge K H b ys /\ Q (.ref b) H
theorem tZ : gr X (binaryOp .Add) (ud X.K) := by
  intro pins s σ H x y v u Q I rx ry h;obtain ⟨a, b, ys, rfl, rfl, ha, hb, q⟩ := h;cases rx;cases ry;obtain ⟨its, r1, p1, _⟩ := I.tuple ha;obtain ⟨its2, r2, p2, _⟩ := I.tuple hb;cases r1;obtain ⟨⟨cls, dd, data, sl⟩, ho, hc, n, hd⟩ := id p1;obtain ⟨⟨cls2, dd2, data2, sl2⟩, ho2, hc2, n2, hd2⟩ := id p2;simp only at hc hd hc2 hd2;subst hc hd hc2 hd2;exact concat_meets ⟨_, ho, rfl⟩ ⟨_, ho2, rfl⟩ noFill_tuple_add seq_tuple_add PySem.F.slot_tuple_add PySem.F.entry_tuple_add (PySem.F.args_tuple_add_2 _ _)
    (tuple_addW0 a b _ its2.toArray n n2 dd dd2 sl sl2 (by rfl)) ⟨ho, ho2, ⟨.ref b, H, I, rfl, q⟩⟩
def wU (K : PySem.W.Frag) : R2 := fun x y H Q => ∃ l b xs zs, x = .ref l /\ y = .ref b /\ Rd H l (.lst xs) /\ Rd H b (.lst zs) /\ xs.length + zs.length <= sizeLine /\ ∀ p, H p = none -> Q (.ref p) (cW H p (.lst (xs ++ zs)))
theorem vU : gr X (binaryOp .Add) (wU X.K) := by
  intro pins s σ H x y v u Q I rx ry h;obtain ⟨l, b, xs, zs, rfl, rfl, hH, hB, hz, q⟩ := h;cases rx;cases ry;obtain ⟨z, its, n, r, e⟩ := hH.ok I.hok;obtain ⟨z2, its2, n2, r2, e2⟩ := hB.ok I.hok;have hl := r.length;have hl2 := r2.length;refine PySem.P.add_list e e2 ?_ (by rw [List.size_toArray, List.size_toArray]; omega);have ea : its.toArray ++ its2.toArray = (its ++ its2).toArray := by simp
  rw [ea];exact ⟨.ref _, _, I.lnew (t' := s.toks) (r.append r2) (by rw [List.length_append]; omega), rfl, q _ I.fresh⟩
def cj : PyData -> PyData -> R PyData
  | .int i, .int j => .ok (.int (i + j))
  | .str x, .str y => if x.length + y.length <= sizeLine then .ok (.str (x ++ y)) else .no
  | .tuple xs, .tuple ys => if xs.length + ys.length <= sizeLine then .ok (.tuple (xs ++ ys)) else .no
  | .list xs, .list ys => if xs.length + ys.length <= sizeLine then .ok (.list (xs ++ ys)) else .no
  | _, _ => .no
theorem nT {H : Hp} {ds : List PyData} {x : V} (h : fJ H (.list ds) x) : ∃ a vs, x = .ref a /\ Rd H a (.lst vs) /\ bo H ds vs := by
  rcases h with h | h
  · simp only [Rp] at h;obtain ⟨a, o, vs, e, ha, r⟩ := h;exact ⟨a, vs, e, .inr ⟨o, ha⟩, r⟩
  · simp only [iI] at h;obtain ⟨a, vs, e, ha, r⟩ := h;exact ⟨a, vs, e, .inl ha, r⟩
theorem yf : bu X zU (fun x y H Q => u5 (fun i j => .int (i + j)) x y H Q \/ (∃ i j, x = .str i /\ y = .str j /\ i.length + j.length <= sizeLine /\ Q (.str (i ++ j)) H) \/ wY X.K x y H Q \/ ud X.K x y H Q \/ wU X.K x y H Q) cj := fun H x y dx dy Q hx hy q => by
  cases dx with
  | int i =>
    cases dy with
    | int j => exact .inl ⟨_, _, bd hx, bd hy, q _ H (ay.refl _) (.inl ci)⟩
    | _ => exact q.elim
  | str i =>
    cases dy with
    | str j =>
      simp only [cj] at q;split at q
      · rename_i h; exact .inr (.inl ⟨_, _, eN hx, eN hy, h, q _ H (ay.refl _) (.inl qR)⟩)
      · exact q.elim
    | _ => exact q.elim
  | tuple xs =>
    cases dy with
    | tuple ys =>
      simp only [cj] at q;split at q
      · rename_i h;have hx' := hx;obtain ⟨a, vs, rfl, ha, r⟩ := cc hx;obtain ⟨b, us, rfl, hb, r2⟩ := cc hy;cases xs with
        | nil =>
          have := r.nil_inv;subst this;refine .inr (.inr (.inr (.inl ⟨a, b, us, rfl, rfl, ge.of ha, ge.of hb, q _ H (ay.refl _) (.inl ?_)⟩)));simp only [Rp, List.nil_append];exact ⟨b, us, rfl, hb, r2⟩
        | cons d ds =>
          refine .inr (.inr (.inl ⟨a, b, vs, us, rfl, rfl, ge.of ha, ge.of hb, fun z => ?_, by rw [r.length, r2.length]; exact h, fun z => ?_, fun _ p hp => q _ _ (bD hp _) (.inl (cR hp (r.append r2)))⟩))
          · rw [z] at r;obtain ⟨_, _, e, _⟩ := r.cons_inv;cases e
          · have hy0 : ys = [] := by
              have := r2.length;rw [z] at this;exact List.length_eq_zero_iff.mp this.symm
            refine q _ H (ay.refl _) (.inl ?_);rw [hy0, List.append_nil];simp only [Rp];exact ⟨a, vs, rfl, ha, r⟩
      · exact q.elim
    | _ => exact q.elim
  | list xs =>
    cases dy with
    | list ys =>
      simp only [cj] at q;split at q
      · rename_i h;obtain ⟨a, vs, rfl, ha, r⟩ := nT hx;obtain ⟨b, us, rfl, hb, r2⟩ := nT hy;exact .inr (.inr (.inr (.inr ⟨a, b, vs, us, rfl, rfl, ha, hb, by rw [r.length, r2.length]; exact h, fun p hp => q _ _ (bD hp _) (.inr (cP hp (r.append r2)))⟩)))
      · exact q.elim
    | _ => exact q.elim
  | _ => exact q.elim
theorem bP (ha : bh X a fa) (hb : bh X b fb) : ah X (.BinOp a .Add b pos) (e2 cj fa fb) :=
  u7.e (j9 wC (xt.or (vT.or (wb.or (tZ.or vU)))) yf ha hb)
theorem Z.bP (ha : Z.bh X a fa) (hb : Z.bh X b fb) : Z.ah X (.BinOp a .Add b pos) (e2 cj fa fb) :=
  ⟨D2.bP ha.un hb.un⟩
end
section
variable {prog : Program} {w : World} {A : Around} {E : Value -> Shared -> Prop} {s : Shared}
theorem iL {t sl : Addr} {items : Array Value} {vl vu : Value} {lo hi : Option Int} {Q : Value -> Shared -> Prop} (ht : IsTup s.heap t items) (hs : s.heap.IsSliceOf sl vl vu .none) (pl : IsPart vl lo) (pu : IsPart vu hi)
    (hw : HT.sIx items.size 0 lo = 0 /\ HT.sIx items.size items.size hi = items.size) (h : Q (.ref t) s) : wpAny (model prog w) A (getItem (.ref t) (.ref sl)) Q E s := by
  obtain ⟨os, hos, hcs, hds⟩ := id hs;have hTs : s.TypeIs (.ref sl) "slice" := ⟨os, hos, hcs⟩
  unfold getItem
  try with_reducible refine wpAny_holding ?_
  first | refine wpAny_bind (wpAny_pure ?_) | skip
  refine wpAny_bind (wpAny_sequenceKey ht.typeIs (by decide) ?_);refine wpAny_bind (wpAny_callSpecial?_slot (name := Str.ofString "__getitem__") ht.typeIs PyProof.Rows.slot_tuple_getitem
    (wpAny_call_entry PyProof.Rows.slot_tuple_getitem ht.typeIs entry_tuple_getitem ?_ (args_tuple_getitem _ _)))
  show wpAny _ _ (Builtin.Tuple.tupleItemsOf (.ref t) >>= _) _ _ s;refine wpAny_bind (tupleItemsOf_ ht ?_);refine wpAny_bind (wpAny_typeOf hTs ?_);rw [if_pos (by decide)];refine wpAny_bind (HT.sliceApplied_gen hs pl pu ?_);have hyes : (((HT.sIx items.size 0 lo : Nat) : Int) == 0 && (1 : Int) == 1 && (HT.sIx items.size items.size hi - HT.sIx items.size 0 lo) == items.size) = true := by
    rw [hw.1, hw.2]; simp
  show wpAny _ _ (if (((HT.sIx items.size 0 lo : Nat) : Int) == 0 && (1 : Int) == 1 && (HT.sIx items.size items.size hi - HT.sIx items.size 0 lo) == items.size) = true then _ else _) _ _ s;rw [if_pos hyes];refine wpAny_bind (m := Builtin.Tuple.tupleIsExact _) ?_;unfold Builtin.Tuple.tupleIsExact;refine wpAny_bind (wpAny_typeOf ht.typeIs (wpAny_pure ?_));show wpAny _ _ (if (Value.type "tuple" == Value.type "tuple") = true then _ else _) _ _ s;rw [if_pos (by decide)];refine wpAny_bind (wpAny_rule ?_)
  first
    | exact wpAny_pure ⟨_, rfl, wpAny_pure h⟩
    | exact wpAny_bind (wpAny_pure (wpAny_pure ⟨_, rfl, wpAny_pure h⟩))
theorem p9 (n : Nat) : Builtin.Slice.slicePlaces ((n : Int) - 1) (-1) (-1) = n := by
  unfold Builtin.Slice.slicePlaces;simp only [show ¬ (-1 : Int) > 0 by decide, if_false, Int.neg_neg, Int.ediv_one];split <;> omega
theorem kj {sl : Addr} {n : Nat} {t : Tok} {Q : Int × Int × Nat -> Shared -> Prop} (hs : s.heap.IsSliceOf sl .none .none (.int (-1) t)) (h : Q ((n : Int) - 1, -1, n) s) :
    wpAny (model prog w) A (Builtin.Slice.sliceApplied (.ref sl) (pure (n : Int))) Q E s := by
  obtain ⟨os, hos, hcs, hds⟩ := id hs;unfold Builtin.Slice.sliceApplied Builtin.Slice.sliceFields;refine wpAny_bind (wpAny_bind (wpAny_field hos hds (x := .none) rfl (wpAny_bind (wpAny_field hos hds (x := .none) rfl (wpAny_bind (wpAny_field hos hds (x := .int (-1) t) rfl (wpAny_pure ?_)))))));refine wpAny_bind (slicePart_int ?_);show wpAny _ _ (if ((-1 : Int) == 0) = true then _ else _) _ _ s;rw [if_neg (by decide)];refine wpAny_bind (slicePart_none (wpAny_bind (slicePart_none (wpAny_bind (wpAny_pure ?_)))));show wpAny _ _ (match Builtin.Slice.sliceAdjust none none (-1) (n : Int) with | (lo, hi) => pure (lo, (-1 : Int), Builtin.Slice.slicePlaces lo hi (-1))) _ _ s;have e : Builtin.Slice.sliceAdjust none none (-1) (n : Int) = ((n : Int) - 1, -1) := by
    unfold Builtin.Slice.sliceAdjust;simp
  rw [e];show wpAny _ _ (pure ((n : Int) - 1, (-1 : Int), Builtin.Slice.slicePlaces ((n : Int) - 1) (-1) (-1))) _ _ s;rw [p9];exact wpAny_pure h
theorem ut (xs : Array Value) : ((List.range xs.size).filterMap fun (m : Nat) => xs[((xs.size : Int) - 1 + (m : Int) * (-1)).toNat]?).toArray = xs.toList.reverse.toArray := by
  congr 1;apply List.ext_getElem?;intro i;have key : ∀ k, k <= xs.size -> (List.range k).filterMap (fun (m : Nat) => xs[((xs.size : Int) - 1 + (m : Int) * (-1)).toNat]?) = (xs.toList.reverse).take k := by
    intro k;induction k with
    | zero => intro _; simp
    | succ k ih =>
      intro hk;rw [List.range_succ, List.filterMap_append, ih (by omega), List.take_add_one];congr 1;have e1 : ((xs.size : Int) - 1 + (k : Int) * (-1)).toNat = xs.size - 1 - k := by omega
      have h1 : xs.size - 1 - k < xs.size := by omega
      have h2 : k < xs.toList.length := by rw [Array.length_toList]; omega
      rw [List.filterMap_cons, e1, Array.getElem?_eq_getElem h1, List.filterMap_nil, List.getElem?_reverse h2, Array.length_toList, Array.getElem?_toList, Array.getElem?_eq_getElem h1];rfl
  rw [key xs.size (Nat.le_refl _), List.take_of_length_le (by simp)]
theorem jq {t sl : Addr} {items : Array Value} {tk : Tok} {Q : Value -> Shared -> Prop} (ht : IsTup s.heap t items) (hs : s.heap.IsSliceOf sl .none .none (.int (-1) tk))
    (h : Q (.ref s.heap.objs.size) { s with heap := s.heap.push { cls := .type "tuple", data := .seq items.toList.reverse.toArray } }) (hsz : items.size <= sizeLine) : wpAny (model prog w) A (getItem (.ref t) (.ref sl)) Q E s := by
  have hok : sizeOk (.seq items.toList.reverse.toArray) := by
    show items.toList.reverse.toArray.size <= sizeLine;simpa using hsz
  obtain ⟨os, hos, hcs, hds⟩ := id hs;have hTs : s.TypeIs (.ref sl) "slice" := ⟨os, hos, hcs⟩
  unfold getItem
  try with_reducible refine wpAny_holding ?_
  first | refine wpAny_bind (wpAny_pure ?_) | skip
  refine wpAny_bind (wpAny_sequenceKey ht.typeIs (by decide) ?_);refine wpAny_bind (wpAny_callSpecial?_slot (name := Str.ofString "__getitem__") ht.typeIs PyProof.Rows.slot_tuple_getitem
    (wpAny_call_entry PyProof.Rows.slot_tuple_getitem ht.typeIs entry_tuple_getitem ?_ (args_tuple_getitem _ _)))
  show wpAny _ _ (Builtin.Tuple.tupleItemsOf (.ref t) >>= _) _ _ s;refine wpAny_bind (tupleItemsOf_ ht ?_);refine wpAny_bind (wpAny_typeOf hTs ?_);rw [if_pos (by decide)];refine wpAny_bind (kj hs ?_);show wpAny _ _ (if (((items.size : Int) - 1) == 0 && (-1 : Int) == 1 && items.size == items.size) = true then _ else _) _ _ s;rw [if_neg (by simp), ut]
  first
    | exact wpAny_bind (m := Builtin.Tuple.tupleExact _) (wpAny_newObj_type (wpAny_pure ⟨_, rfl, wpAny_pure h⟩) hok)
    | exact wpAny_bind (m := Builtin.Tuple.tupleExact _) (wpAny_newObj_type (wpAny_bind (wpAny_pure (wpAny_pure ⟨_, rfl, wpAny_pure h⟩))) hok)
    | exact wpAny_bind (wpAny_bind (m := Builtin.Tuple.tupleExact _) (wpAny_newObj_type (wpAny_pure (wpAny_pure ⟨_, rfl, wpAny_pure h⟩)) hok))
    | exact wpAny_bind (wpAny_bind (m := Builtin.Tuple.tupleExact _) (wpAny_newObj_type (wpAny_pure ⟨_, rfl, wpAny_pure h⟩) hok))
end
section
variable {X : Cx} {a b c : Expr} {fa fb fc : Fe} {pos p2 : Pos} {nl : Nat} {G : List Str} {x : Str} {p : Pos}
def hU (xs : List PyData) (lo hi : Option Int) : List PyData := (xs.drop (HT.sIx xs.length 0 lo)).take (HT.sIx xs.length xs.length hi - HT.sIx xs.length 0 lo)
theorem bo.cut {H : Hp} {ds : List PyData} {vs : List V} (r : bo H ds vs) (lo hi : Option Int) : bo H (hU ds lo hi) (ph vs lo hi) := by
  unfold hU ph;rw [r.length];exact (r.drop _).take _
def AN (K : PySem.W.Frag) : V -> Option Int -> Option Int -> Hp -> VK -> Prop := fun x lo hi H Q => ∃ a xs, x = .ref a /\ ge K H a xs /\ (HT.sIx xs.length 0 lo = 0 /\ HT.sIx xs.length xs.length hi = xs.length) /\ Q (.ref a) H
theorem uS : wo X (AN X.K) := by
  intro pins s σ H x v vl vu lo hi sl Q I rx hs pl pu h;obtain ⟨a, xs, rfl, hx, hw, q⟩ := h;cases rx;obtain ⟨its, r, ht, hz⟩ := I.tuple hx;have hlen : its.toArray.size = xs.length := by rw [List.size_toArray]; exact r.length.symm
  refine ⟨"tuple", _, PyProof.Rows.slot_tuple_getitem.lookup, ht.typeIs, ?_⟩;exact iL ht hs pl pu (by rw [hlen]; exact hw) ⟨.ref a, H, I, rfl, q⟩
theorem xc : wo X (fun x lo hi H Q => ∃ xx, x = .str xx /\ xx.length <= sizeLine /\ Q (.str (Txt.slice xx lo hi)) H) := by
  intro pins s σ H x v vl vu lo hi sl Q I rx hs pl pu h;obtain ⟨xx, rfl, hz, q⟩ := h;obtain ⟨t, rfl⟩ := rx;refine ⟨"str", _, PySem.F.slot_str_getitem.lookup, typeIs_str _ _ _, ?_⟩;have fin : ∀ t' k, EP X pins σ Q (.str (Txt.slice xx lo hi) t') { s with toks := k } := fun t' k => ⟨.str _, H, I.tok k, ⟨t', rfl⟩, q⟩
  cases pl with
  | none =>
    cases pu with
    | none => exact wpAny_getItem_str_slice (l := none) (u := none) (st := none) hs rfl (post_val_or_str ⟨Nat.le_trans (Txt.slice_le xx _ _) hz, fin⟩)
    | int j uj => exact wpAny_getItem_str_slice (l := none) (u := some (j, uj)) (st := none) hs rfl (post_val_or_str ⟨Nat.le_trans (Txt.slice_le xx _ _) hz, fin⟩)
  | int i ui =>
    cases pu with
    | none => exact wpAny_getItem_str_slice (l := some (i, ui)) (u := none) (st := none) hs rfl (post_val_or_str ⟨Nat.le_trans (Txt.slice_le xx _ _) hz, fin⟩)
    | int j uj => exact wpAny_getItem_str_slice (l := some (i, ui)) (u := some (j, uj)) (st := none) hs rfl (post_val_or_str ⟨Nat.le_trans (Txt.slice_le xx _ _) hz, fin⟩)
def wO : PyData -> Option Int -> Option Int -> R PyData
  | .str x, lo, hi => if x.length <= sizeLine then .ok (.str (Txt.slice x lo hi)) else .no
  | .tuple xs, lo, hi => .ok (.tuple (hU xs lo hi))
  | .list xs, lo, hi => .ok (.list (hU xs lo hi))
  | _, _, _ => .no
abbrev Fo := aH -> R (Option Int)
def dY : Fo := fun _ => .ok none
def Ac : PyData -> R Int
  | .int i => .ok i
  | _ => .no
def eu (f : Fe) : Fo := fun ρ => f ρ >>= fun d => Ac d >>= fun i => .ok (some i)
def uA (X : Cx) (f : Fo) : TO := fun σ H Q => ∃ ρ, Sl H σ ρ /\ match f ρ with
  | .ok o => ∀ H', ay H H' -> Q o H'
  | .ex c => Xw X c H
  | .no => False
def u9 (X : Cx) (e : Option Expr) (f : Fo) : Prop := PO X e (uA X f)
structure Z.u9 (X : Cx) (e : Option Expr) (f : Fo) : Prop where
  un : D2.u9 X e f
theorem dD : u9 X none dY := fun pins s σ H Q I ⟨ρ, sl, q⟩ => vR pins s σ H Q I (q H (ay.refl _))
theorem Z.dD  : Z.u9 X none dY :=
  ⟨D2.dD⟩
theorem zl (Q : Option Int -> Hp -> Prop) : va X (fun (r : R (Option Int)) H => match r with | .ok b => ∀ H', ay H H' -> Q b H' | .ex c => Xw X c H | .no => False) where
  mono := fun r H H' h s => by
    cases r with
    | ok d => exact fun H2 s2 => h H2 (s.trans s2)
    | ex c => exact Xw.mono h s
    | no => exact h
  ex := fun c H h => h
  no := fun H h => h
theorem dA {e : Expr} {f : Fe} (h : ah X e f) : u9 X (some e) (eu f) := fun pins s σ H Q I q =>
  vN h pins s σ H Q I ((dl (P := fO) (f := f) (k := fun _ d => Ac d >>= fun i => .ok (some i)) (zl (X := X) Q) q).post fun v H1 ⟨_, d, _, _, p, q1⟩ => by
    cases d with
    | int i =>
      have e1 : v = .int i := by simpa only [Rp] using p
      exact ⟨i, e1, q1 H1 (ay.refl _)⟩
    | _ => exact q1.elim)
theorem Z.dA {e : Expr} {f : Fe} (h : Z.ah X e f) : Z.u9 X (some e) (eu f) :=
  ⟨D2.dA h.un⟩
def pM (f : Fe) (lo hi : Fo) : Fe := fun ρ => f ρ >>= fun d => lo ρ >>= fun l => hi ρ >>= fun u => wO d l u
theorem uO {β : Type} {Tg : R β -> Hp -> Prop} {σ : St} {H : Hp} (t : va X Tg) {f : Fo} {k : aH -> Option Int -> R β} (h : ∃ ρ, Sl H σ ρ /\ Tg (f ρ >>= k ρ) H) : uA X f σ H (fun o H1 => ∃ ρ, Sl H1 σ ρ /\ ay H H1 /\ Tg (k ρ o) H1) := by
  obtain ⟨ρ, sl, q⟩ := h;refine ⟨ρ, sl, ?_⟩;cases e : f ρ with
  | ok d => rw [e] at q; exact fun H1 s => ⟨ρ, sl.mono s, s, t.mono _ _ _ q s⟩
  | ex c => rw [e] at q; exact t.ex _ _ q
  | no => rw [e] at q; exact (t.no _ q).elim
theorem uA.post {f : Fo} {σ : St} {H : Hp} {Q Q' : Option Int -> Hp -> Prop} (h : uA X f σ H Q) (i : ∀ b H', Q b H' -> Q' b H') : uA X f σ H Q' := by
  obtain ⟨ρ, sl, q⟩ := h;refine ⟨ρ, sl, ?_⟩;cases e : f ρ with
  | ok d => rw [e] at q; exact fun H' s => i _ _ (q H' s)
  | ex c => rw [e] at q; exact q
  | no => rw [e] at q; exact q
theorem cN {lo hi : Option Expr} {fl fh : Fo} (ha : bh X a fa) (hl : u9 X lo fl) (hu : u9 X hi fh) : ah X (.Subscript a (.Slice lo hi none p2) pos) (pM fa fl fh) := by
  refine u7.e (PE.imp (uw (uS.or (xC.or (v3.or xc))) ha hl hu) fun σ H Q h => ?_);refine (dl (P := oy) (f := fa) (k := fun ρ d => fl ρ >>= fun l => fh ρ >>= fun u => wO d l u) (dN (X := X) wC Q) h).post fun v H1 ⟨ρ1, d1, sl1, _, p1, q1⟩ => ?_
  refine (uO (f := fl) (k := fun ρ l => fh ρ >>= fun u => wO d1 l u) (dN (X := X) wC Q) ⟨ρ1, sl1, q1⟩).post fun l H2 ⟨ρ2, sl2, s2, q2⟩ => ?_
  refine (uO (f := fh) (k := fun ρ u => wO d1 l u) (dN (X := X) wC Q) ⟨ρ2, sl2, q2⟩).post fun u H3 ⟨ρ3, sl3, s3, q3⟩ => ?_
  have p3 : fJ H3 d1 v := fJ.mono (fJ.mono p1 s2) s3;cases d1 with
  | tuple xs =>
    obtain ⟨a', vs, rfl, ha', r⟩ := cc p3;have hlen := r.length;by_cases hw : HT.sIx vs.length 0 l = 0 /\ HT.sIx vs.length vs.length u = vs.length
    · refine .inl ⟨a', vs, rfl, ge.of ha', hw, q3 _ H3 (ay.refl _) (.inl ?_)⟩;have e : hU xs l u = xs := by
        unfold hU;rw [<- hlen, hw.1, hw.2];simp [hlen]
      rw [e];simp only [Rp];exact ⟨a', vs, rfl, ha', r⟩
    · exact .inr (.inl ⟨a', vs, rfl, ge.of ha', hw, fun p hp => q3 _ _ (bD hp _) (.inl (cR hp (r.cut l u)))⟩)
  | list xs =>
    obtain ⟨a', vs, rfl, ha', r⟩ := cM (K := X.K) p3;exact .inr (.inr (.inl ⟨a', vs, rfl, ha', fun p hp => q3 _ _ (bD hp _) (.inr (cP hp (r.cut l u)))⟩))
  | str xx =>
    simp only [wO] at q3;split at q3
    · rename_i hz;exact .inr (.inr (.inr ⟨xx, eN p3, hz, q3 _ H3 (ay.refl _) (.inl (by simp only [Rp]))⟩))
    · exact q3.elim
  | _ => exact q3.elim
theorem Z.cN {lo hi : Option Expr} {fl fh : Fo} (ha : Z.bh X a fa) (hl : Z.u9 X lo fl) (hu : Z.u9 X hi fh) : Z.ah X (.Subscript a (.Slice lo hi none p2) pos) (pM fa fl fh) :=
  ⟨D2.cN ha.un hl.un hu.un⟩
def sR : PyData -> R PyData
  | .tuple xs => .ok (.tuple xs.reverse)
  | _ => .no
theorem qD {j : Nat} {q1 q2 : Pos} (ha : bh X a fa) : ah X (.Subscript a (.Slice none none (some (.UnaryOp .USub (.Constant (.int 1) j q1) q2)) p2) pos) (e1 sR fa) := by
  intro pins s σ H Q I h;refine Subscript_ (cV (ha pins s σ H _ I (dl (P := oy) (f := fa) (k := fun _ d => sR d) (dN (X := X) dQ Q) h)) fun v s1 ⟨x, H1, I1, r1, ρ1, d1, sl1, _, p1, q1'⟩ => ?_);refine wpAny_Slice ?_;rw [evalPart_none];refine wpAny_pure (wpAny_pure ?_);rw [evalPart_some];refine UnaryOp_ (wpAny_Constant_int (neg_int ?_));cases d1 with
  | tuple xs =>
    obtain ⟨a', vs, rfl, ha', r⟩ := cc p1;cases r1;have I2 : aE X pins σ H1 { s1 with heap := s1.heap.push { cls := .type "slice", data := .fields #[.none, .none, .int (-1) (s1.toks + 1)] }, toks := s1.toks + 1 + 1 } := I1.kept fun b ob q => Heap.get?_push_of_some _ q
    obtain ⟨its, rv, ht, hz⟩ := I2.tuple (ge.of (K := X.K) ha');have hlen : its.toArray.size = vs.length := by rw [List.size_toArray]; exact rv.length.symm
    refine tail_any (ops := [.ref a', .ref s1.heap.objs.size]) ht.typeIs PyProof.Rows.slot_tuple_getitem.lookup ?_ (by with_unfolding_all rfl);refine jq ht ⟨_, Heap.get?_push_size _ rfl, rfl, rfl⟩ ?_ (by rw [hlen]; exact hz);refine ⟨.ref _, _, I2.laid (t' := s1.toks + 1 + 1) (o := .tup vs.reverse) (fun b ob q => Heap.get?_push_of_some _ q) (Nat.le_refl _) ?_, rfl, q1' _ _ (bD (I2.hok.fresh (Nat.le_refl _)) _) (cR (I2.hok.fresh (Nat.le_refl _)) r.reverse)⟩;exact ⟨by rw [List.length_reverse]; exact hz, _, rv.reverse, IsTup.new _ _⟩
  | _ => exact q1'.elim
theorem Z.qD {j : Nat} {q1 q2 : Pos} (ha : Z.bh X a fa) : Z.ah X (.Subscript a (.Slice none none (some (.UnaryOp .USub (.Constant (.int 1) j q1) q2)) p2) pos) (e1 sR fa) :=
  ⟨D2.qD ha.un⟩
end
section
variable {X : Cx} {a b c : Expr} {fa fb fc : Fe} {pos p2 : Pos} {nl : Nat} {G : List Str} {x : Str} {p : Pos}
theorem rX : cI X (.builtin "len") (fun xs H Q => ∃ a kvs, xs = [V.ref a] /\ Rd H a (.dK kvs) /\ Q (.int kvs.length) H) := by
  intro pins s σ H xs us Q I r h;obtain ⟨a, kvs, rfl, ha, q⟩ := h;obtain ⟨u, rfl, ru⟩ := fj r;cases ru;exact yH I ha fun t s' I' => ⟨.int kvs.length, H, I', ⟨t, rfl⟩, q⟩
theorem de.length {H : Hp} : ∀ {kvs : List (PyData × PyData)} {ks : List (cg × V)}, de H kvs ks -> ks.length = kvs.length
  | [], ks, h => by simp only [de] at h; rw [h]; rfl
  | kd :: kvs, ks, h => by
    simp only [de] at h;obtain ⟨x, v, r, rfl, _, t⟩ := h;rw [List.length_cons, List.length_cons, de.length t]
def eY : PyData -> R PyData
  | .list ds => .ok (.int ds.length)
  | .tuple ds => .ok (.int ds.length)
  | .dict kvs => if mJ kvs = true then .no else .ok (.int kvs.length)
  | .str y => if y.length <= sizeLine then .ok (.int y.length) else .no
  | _ => .no
theorem eE (T : Tb X nl G) (j : Nat) (hG : G[j]? = some ("len" : Str)) (hm : X.mg "len" = none) (ha : bh X a fa) (he : am a = true := by rfl) : ah X (.Call (.Name "len" p) [a] [] pos) (e1 eY fa) := by
  refine vS T j hG hm dQ PySem.boot_len (nZ.or (n4.or rX)) (fun H x d Q hx q => ?_) ha he;cases d with
  | list ds =>
    obtain ⟨a', vs, rfl, h, r⟩ := cM (K := X.K) hx;exact .inl ⟨a', vs, rfl, .inl h, by rw [r.length]; exact q _ H (ay.refl _) ci⟩
  | tuple ds =>
    obtain ⟨a', vs, rfl, h, r⟩ := cc hx;exact .inl ⟨a', vs, rfl, .inr (ge.of h), by rw [r.length]; exact q _ H (ay.refl _) ci⟩
  | dict kvs =>
    simp only [eY] at q;split at q
    · exact q.elim
    rename_i hi;obtain ⟨a', vs, rfl, h, r⟩ := jx (Bool.not_eq_true _ ▸ hi) hx;exact .inr (.inr ⟨a', vs, rfl, h, by rw [r.length]; exact q _ H (ay.refl _) ci⟩)
  | str y =>
    simp only [eY] at q;split at q
    · rename_i hz; exact .inr (.inl ⟨y, by rw [eN hx], hz, q _ H (ay.refl _) ci⟩)
    · exact q.elim
  | _ => exact q.elim
theorem Z.eE (T : Tb X nl G) (j : Nat) (hG : G[j]? = some ("len" : Str)) (hm : X.mg "len" = none) (ha : Z.bh X a fa) (he : am a = true := by rfl) : Z.ah X (.Call (.Name "len" p) [a] [] pos) (e1 eY fa) :=
  ⟨D2.eE T j hG hm ha.un he⟩
def iK : PyData -> R PyData
  | .int i => .ok (.int i)
  | .bool k => .ok (.int (if k then 1 else 0))
  | _ => .no
theorem kT (T : Tb X nl G) (j : Nat) (hG : G[j]? = some ("int" : Str)) (hm : X.mg "int" = none) (ha : bh X a fa) (he : am a = true := by rfl) : ah X (.Call (.Name "int" p) [a] [] pos) (e1 iK fa) := by
  refine yr T j hG hm dQ PyProof.Rows.boot_int mK (fun H x d Q hx q => ?_) ha he;cases d with
  | int i => exact .inl ⟨i, by rw [bd hx], q _ H (ay.refl _) ci⟩
  | bool k => exact .inr ⟨k, by rw [jC hx], q _ H (ay.refl _) ci⟩
  | _ => exact q.elim
theorem Z.kT (T : Tb X nl G) (j : Nat) (hG : G[j]? = some ("int" : Str)) (hm : X.mg "int" = none) (ha : Z.bh X a fa) (he : am a = true := by rfl) : Z.ah X (.Call (.Name "int" p) [a] [] pos) (e1 iK fa) :=
  ⟨D2.kT T j hG hm ha.un he⟩
def A9 : PyData -> R PyData
  | .int i => if i.natAbs.log2 < 1920 then .ok (.str (toString i)) else .no
  | _ => .no
def wx : PyData -> PyData -> R PyData
  | .int i, .int j => .ok (.int (if j < i then j else i))
  | _, _ => .no
def wF : PyData -> PyData -> R PyData
  | .int i, .int j => .ok (.int (if j > i then j else i))
  | _, _ => .no
theorem qK (T : Tb X nl G) (j : Nat) (hG : G[j]? = some ("min" : Str)) (hm : X.mg "min" = none) (ha : bh X a fa) (hb : bh X b fb) (he : am a = true := by rfl) (he2 : am b = true := by rfl) :
    ah X (.Call (.Name "min" p) [a, b] [] pos) (e2 wx fa fb) := by
  refine zH T j hG hm dQ PyProof.Rows.boot_min (sF T.calm) (fun H x y d e Q hx hy q => ?_) ha hb he he2;cases d with
  | int i =>
    cases e with
    | int j => exact ⟨i, j, by rw [bd hx, bd hy], q _ H (ay.refl _) ci⟩
    | _ => exact q.elim
  | _ => exact q.elim
theorem Z.qK (T : Tb X nl G) (j : Nat) (hG : G[j]? = some ("min" : Str)) (hm : X.mg "min" = none) (ha : Z.bh X a fa) (hb : Z.bh X b fb) (he : am a = true := by rfl) (he2 : am b = true := by rfl) : Z.ah X (.Call (.Name "min" p) [a, b] [] pos) (e2 wx fa fb) :=
  ⟨D2.qK T j hG hm ha.un hb.un he he2⟩
theorem ql (T : Tb X nl G) (j : Nat) (hG : G[j]? = some ("max" : Str)) (hm : X.mg "max" = none) (ha : bh X a fa) (hb : bh X b fb) (he : am a = true := by rfl) (he2 : am b = true := by rfl) :
    ah X (.Call (.Name "max" p) [a, b] [] pos) (e2 wF fa fb) := by
  refine zH T j hG hm dQ PyProof.Rows.boot_max (si T.calm) (fun H x y d e Q hx hy q => ?_) ha hb he he2;cases d with
  | int i =>
    cases e with
    | int j => exact ⟨i, j, by rw [bd hx, bd hy], q _ H (ay.refl _) ci⟩
    | _ => exact q.elim
  | _ => exact q.elim
theorem Z.ql (T : Tb X nl G) (j : Nat) (hG : G[j]? = some ("max" : Str)) (hm : X.mg "max" = none) (ha : Z.bh X a fa) (hb : Z.bh X b fb) (he : am a = true := by rfl) (he2 : am b = true := by rfl) : Z.ah X (.Call (.Name "max" p) [a, b] [] pos) (e2 wF fa fb) :=
  ⟨D2.ql T j hG hm ha.un hb.un he he2⟩
def dO : PyData -> R PyData
  | .list ds => .ok (.tuple ds)
  | .tuple ds => .ok (.tuple ds)
  | _ => .no
theorem cT (T : Tb X nl G) (j : Nat) (hG : G[j]? = some ("tuple" : Str)) (hm : X.mg "tuple" = none) (ha : bh X a fa) (he : am a = true := by rfl) : ah X (.Call (.Name "tuple" p) [a] [] pos) (e1 dO fa) := by
  refine yr T j hG hm dQ PyProof.Rows.boot_tuple ml (fun H x d Q hx q => ?_) ha he;cases d with
  | list ds =>
    obtain ⟨a', vs, rfl, h, r⟩ := cM (K := X.K) hx;exact ⟨a', vs, rfl, .inl ⟨h, fun l hl => q _ _ (bD hl _) (cR hl r)⟩⟩
  | tuple ds =>
    obtain ⟨a', vs, rfl, h, r⟩ := cc hx;exact ⟨a', vs, rfl, .inr ⟨ge.of h, q _ H (ay.refl _) (by simp only [Rp]; exact ⟨a', vs, rfl, h, r⟩)⟩⟩
  | _ => exact q.elim
theorem Z.cT (T : Tb X nl G) (j : Nat) (hG : G[j]? = some ("tuple" : Str)) (hm : X.mg "tuple" = none) (ha : Z.bh X a fa) (he : am a = true := by rfl) : Z.ah X (.Call (.Name "tuple" p) [a] [] pos) (e1 dO fa) :=
  ⟨D2.cT T j hG hm ha.un he⟩
def ro : PyData -> R PyData
  | .list ds => .ok (.list ds)
  | .tuple ds => .ok (.list ds)
  | _ => .no
theorem lA (T : Tb X nl G) (j : Nat) (hG : G[j]? = some ("list" : Str)) (hm : X.mg "list" = none) (ha : bh X a fa) (he : am a = true := by rfl) : eL X (.Call (.Name "list" p) [a] [] pos) (e1 ro fa) := by
  refine yr T j hG hm v9 PyProof.Rows.boot_list n6 (fun H x d Q hx q => ?_) ha he;cases d with
  | list ds =>
    obtain ⟨a', vs, rfl, h, r⟩ := cM (K := X.K) hx;exact ⟨a', vs, rfl, .inl h, fun l hl => q _ _ (bD hl _) (cP hl r)⟩
  | tuple ds =>
    obtain ⟨a', vs, rfl, h, r⟩ := cc hx;exact ⟨a', vs, rfl, .inr (ge.of h), fun l hl => q _ _ (bD hl _) (cP hl r)⟩
  | _ => exact q.elim
theorem Z.lA (T : Tb X nl G) (j : Nat) (hG : G[j]? = some ("list" : Str)) (hm : X.mg "list" = none) (ha : Z.bh X a fa) (he : am a = true := by rfl) : Z.eL X (.Call (.Name "list" p) [a] [] pos) (e1 ro fa) :=
  ⟨D2.lA T j hG hm ha.un he⟩
inductive Ty where
  | int | bool | str | list | tuple
def Ty.nm : Ty -> String
  | .int => "int"
  | .bool => "bool"
  | .str => "str"
  | .list => "list"
  | .tuple => "tuple"
def yu : Ty -> PyData -> Bool
  | .int, .int _ => true
  | .int, .bool _ => true
  | .bool, .bool _ => true
  | .str, .str _ => true
  | .list, .list _ => true
  | .tuple, .tuple _ => true
  | _, _ => false
def fg (T : Ty) : PyData -> R PyData
  | .dict _ => .no
  | d => .ok (.bool (yu T d))
theorem ub : cI X (.builtin "isinstance") (fun xs H Q => ∃ x t T k, xs = [x, .ty T] /\ jG X.K H x t /\ PySem.W.kitOne X.K t (.type T) = some k /\ Q (.bl k) H) := by
  intro pins s σ H xs us Q I r h;obtain ⟨x, t, T, k, rfl, ty, e, q⟩ := h;obtain ⟨u, w', rfl, rx, ry⟩ := oZ r;cases ry;exact sd I rx ty e fun tk => ⟨.bl k, H, I.tok tk, rfl, q⟩
theorem yZ {K : PySem.W.Frag} {H : Hp} {d : PyData} {v : V} (h : fJ H d v) : (∃ kvs, d = .dict kvs) \/ ∃ t, jG K H v t /\ ∀ T : Ty, PySem.W.kitOne K t (.type T.nm) = some (yu T d) := by
  cases d with
  | none => rw [jy h]; exact .inr ⟨_, .non, fun T => by cases T <;> rfl⟩
  | bool k => rw [jC h]; exact .inr ⟨_, .bl k, fun T => by cases T <;> rfl⟩
  | int i => rw [bd h]; exact .inr ⟨_, .int i, fun T => by cases T <;> rfl⟩
  | str y => rw [eN h]; exact .inr ⟨_, .str y, fun T => by cases T <;> rfl⟩
  | tuple ds => obtain ⟨a, vs, rfl, ha, _⟩ := cc h; exact .inr ⟨_, .tup ha, fun T => by cases T <;> rfl⟩
  | list ds =>
    obtain ⟨a, vs, rfl, ha, _⟩ := nT h;rcases ha with ha | ⟨o, ha⟩
    · exact .inr ⟨_, .lst ha, fun T => by cases T <;> rfl⟩
    · exact .inr ⟨_, .frz ha, fun T => by cases T <;> rfl⟩
  | dict kvs => exact .inl ⟨kvs, rfl⟩
theorem pY (ty : Ty) {y : Str} {py : Pos} (T : Tb X nl G) (j : Nat) (hG : G[j]? = some ("isinstance" : Str)) (hm : X.mg "isinstance" = none) (hy : bootBuiltins y = some (.type ty.nm)) (T' : Tb X nl G) (j' : Nat) (hG' : G[j']? = some y) (hm' : X.mg y = none) (ha : bh X a fa)
    (he : am a = true := by rfl) : ah X (.Call (.Name "isinstance" p) [a, .Name y py] [] pos) (e1 (fg ty) fa) := by
  have g := T.gl _ (List.mem_of_getElem? hG);have g' := T.gl _ (List.mem_of_getElem? hG');have hp : PE X (.Name y py) (tC (.ty ty.nm)) := vq g'.1 hm' hy rfl g'.2.2 g'.2.1;refine PE.imp (jL ub g.1 hm PyProof.Rows.boot_isinstance (jt ha (jt hp qu) (bc he)) g.2.2 g.2.1 (bc he)) fun σ H Q h => ?_
  refine (dl (P := oy) (f := fa) (k := fun _ d => fg ty d) (dN (X := X) dQ Q) h).post fun v H1 ⟨_, d, _, _, p1, q1⟩ => ?_
  show ∃ x t T k, _ /\ _ /\ _ /\ _;rcases yZ (K := X.K) p1 with ⟨kvs, rfl⟩ | ⟨t, ht, hk⟩
  · exact q1.elim
  · refine ⟨v, t, ty.nm, yu ty d, rfl, ht, hk ty, ?_⟩;cases d with
    | dict kvs => exact q1.elim
    | _ => exact q1 _ H1 (ay.refl _) dk
theorem gF {py : Pos} (T : Tb X nl G) (j : Nat) (hG : G[j]? = some ("isinstance" : Str)) (hm : X.mg "isinstance" = none) (T' : Tb X nl G) (j' : Nat) (hG' : G[j']? = some ("int" : Str)) (hm' : X.mg "int" = none) (ha : bh X a fa)
    (he : am a = true := by rfl) : ah X (.Call (.Name "isinstance" p) [a, .Name "int" py] [] pos) (e1 (fg .int) fa) := pY .int T j hG hm PyProof.Rows.boot_int T' j' hG' hm' ha he
theorem Z.gF {py : Pos} (T : Tb X nl G) (j : Nat) (hG : G[j]? = some ("isinstance" : Str)) (hm : X.mg "isinstance" = none) (T' : Tb X nl G) (j' : Nat) (hG' : G[j']? = some ("int" : Str)) (hm' : X.mg "int" = none) (ha : Z.bh X a fa) (he : am a = true := by rfl) : Z.ah X (.Call (.Name "isinstance" p) [a, .Name "int" py] [] pos) (e1 (fg .int) fa) :=
  ⟨D2.gF T j hG hm T' j' hG' hm' ha.un he⟩
theorem fw {py : Pos} (T : Tb X nl G) (j : Nat) (hG : G[j]? = some ("isinstance" : Str)) (hm : X.mg "isinstance" = none) (T' : Tb X nl G) (j' : Nat) (hG' : G[j']? = some ("bool" : Str)) (hm' : X.mg "bool" = none) (ha : bh X a fa)
    (he : am a = true := by rfl) : ah X (.Call (.Name "isinstance" p) [a, .Name "bool" py] [] pos) (e1 (fg .bool) fa) := pY .bool T j hG hm PyProof.Rows.boot_bool T' j' hG' hm' ha he
theorem Z.fw {py : Pos} (T : Tb X nl G) (j : Nat) (hG : G[j]? = some ("isinstance" : Str)) (hm : X.mg "isinstance" = none) (T' : Tb X nl G) (j' : Nat) (hG' : G[j']? = some ("bool" : Str)) (hm' : X.mg "bool" = none) (ha : Z.bh X a fa) (he : am a = true := by rfl) : Z.ah X (.Call (.Name "isinstance" p) [a, .Name "bool" py] [] pos) (e1 (fg .bool) fa) :=
  ⟨D2.fw T j hG hm T' j' hG' hm' ha.un he⟩
theorem du {py : Pos} (T : Tb X nl G) (j : Nat) (hG : G[j]? = some ("isinstance" : Str)) (hm : X.mg "isinstance" = none) (T' : Tb X nl G) (j' : Nat) (hG' : G[j']? = some ("tuple" : Str)) (hm' : X.mg "tuple" = none) (ha : bh X a fa)
    (he : am a = true := by rfl) : ah X (.Call (.Name "isinstance" p) [a, .Name "tuple" py] [] pos) (e1 (fg .tuple) fa) := pY .tuple T j hG hm PyProof.Rows.boot_tuple T' j' hG' hm' ha he
theorem Z.du {py : Pos} (T : Tb X nl G) (j : Nat) (hG : G[j]? = some ("isinstance" : Str)) (hm : X.mg "isinstance" = none) (T' : Tb X nl G) (j' : Nat) (hG' : G[j']? = some ("tuple" : Str)) (hm' : X.mg "tuple" = none) (ha : Z.bh X a fa) (he : am a = true := by rfl) : Z.ah X (.Call (.Name "isinstance" p) [a, .Name "tuple" py] [] pos) (e1 (fg .tuple) fa) :=
  ⟨D2.du T j hG hm T' j' hG' hm' ha.un he⟩
def kh : List PyData -> Option Bool
  | [] => some true
  | .bool k :: ds => (kh ds).map fun r => k && r
  | _ => none
def nY : PyData -> R PyData
  | .list ds => match kh ds with
    | some k => .ok (.bool k)
    | none => .no
  | _ => .no
end
section
variable {X : Cx} {tg a b c : Expr} {fa fb fc : Fe} {pos p2 : Pos} {nl : Nat} {G : List Str} {x : Str} {p : Pos} {fs : aH -> R (List PyData)} {es : List Expr}
def gL : PyData -> R (List PyData)
  | .list ds => .ok ds
  | .tuple ds => .ok ds
  | _ => .no
def qr (f : Fe) : aH -> R (List PyData) := fun ρ => f ρ >>= gL
theorem uD {K : PySem.W.Frag} {a : Addr} {ds : List PyData} : wz (Ai K a) (fun H => ∃ o vs, H a = some (.frz o (.lst vs)) /\ bo H ds vs) ds where
  go := fun i H ⟨o, vs, h, r⟩ hi => by
    have hl := r.length;exact ⟨vs, vs[i], .inl (.inr ⟨o, h⟩), List.getElem?_eq_getElem (by omega)⟩
  yld := fun i H x H' d ⟨o, vs, h, r⟩ hd ⟨e, y⟩ => by
    subst e;obtain ⟨v, e1, p⟩ := r.get hd;have := y vs (.inl (.inr ⟨o, h⟩));rw [e1] at this;cases this;exact ⟨ay.refl _, p⟩
  stop := fun i H ⟨o, vs, h, r⟩ hi => ⟨vs, .inl (.inr ⟨o, h⟩), by rw [r.length]; exact hi⟩
theorem vw {K : PySem.W.Frag} {a : Addr} {ds : List PyData} : wz (AJ K a) (fun H => ∃ vs, H a = some (.tup vs) /\ bo H ds vs) ds where
  go := fun i H ⟨vs, h, r⟩ hi => by
    have hl := r.length;exact ⟨vs, vs[i], ge.of h, List.getElem?_eq_getElem (by omega)⟩
  yld := fun i H x H' d ⟨vs, h, r⟩ hd ⟨e, y⟩ => by
    subst e;obtain ⟨v, e1, p⟩ := r.get hd;have := y vs (ge.of h);rw [e1] at this;cases this;exact ⟨ay.refl _, p⟩
  stop := fun i H ⟨vs, h, r⟩ hi => ⟨vs, ge.of h, by rw [r.length]; exact hi⟩
def A7 (K : PySem.W.Frag) (tl : TE) : TI := fun σ H R => tl σ H fun x H1 => ∃ a, x = .ref a /\ ((∃ xs, kD K H1 a xs /\ R (Ai K a) H1) \/ ∃ xs, ge K H1 a xs /\ R (AJ K a) H1)
theorem yW {l : Expr} {tl : TE} (hl : PE X l tl) : PI X tg l (A7 X.K tl) := by
  intro pins s σ H R I h;refine cV (hl pins s σ H _ I h) fun v s1 ⟨x, H1, I1, r1, q1⟩ => ?_
  obtain ⟨a, e, q⟩ := q1;subst e;cases r1;rcases q with ⟨xs, hq, q⟩ | ⟨xs, hq, q⟩
  · obtain ⟨its, rv, p, hz⟩ := I1.list hq;refine wpAny_pyIter_list p.isList ?_;refine ⟨s1.heap.objs.size, [s1.heap.objs.size], _, _, H1, rfl, I1.kept (t' := s1.toks) fun b o e => Heap.get?_push_of_some _ e, sh a _, ⟨_, Heap.get?_push_size _ rfl, rfl, rfl⟩, fun b hb => ?_, q⟩;have e : b = s1.heap.objs.size := by simpa using hb
    subst e;exact I1.fpOk (Nat.le_refl _) (I1.hok.fresh (Nat.le_refl _))
  · obtain ⟨its, rv, p, hz⟩ := I1.tuple hq;refine wpAny_pyIter_tuple (show s1.heap.IsTuple a its.toArray from p) ?_;refine ⟨s1.heap.objs.size, [s1.heap.objs.size], _, _, H1, rfl, I1.kept (t' := s1.toks) fun b o e => Heap.get?_push_of_some _ e, qx a _, ⟨_, Heap.get?_push_size _ rfl, rfl, rfl⟩, fun b hb => ?_, q⟩;have e : b = s1.heap.objs.size := by simpa using hb
    subst e;exact I1.fpOk (Nat.le_refl _) (I1.hok.fresh (Nat.le_refl _))
theorem yL (Rk : It -> Hp -> Prop) : va X (fun (r : R (List PyData)) H => match r with | .ok ds => ∀ J H', ay H H' -> (∃ Gd, wz J Gd ds /\ z9 H' (fun _ => False) Gd) -> Rk J H' | .ex c => Xw X c H | .no => False) where
  mono := fun r H H' h s => by
    cases r with
    | ok d => exact fun J H2 s2 => h J H2 (s.trans s2)
    | ex c => exact Xw.mono h s
    | no => exact h
  ex := fun c H h => h
  no := fun H h => h
theorem me (ha : ah X a fa) : mF X tg a (qr fa) :=
  PI.imp (yW ha) fun σ H Rk h => (dl (P := fO) (f := fa) (k := fun _ => gL) (yL (X := X) Rk) h).post fun v H1 ⟨_, d, _, _, p1, q1⟩ => by
    cases d with
    | list ds =>
      simp only [Rp] at p1;obtain ⟨a', o, vs, rfl, h, r⟩ := p1;exact ⟨a', rfl, .inl ⟨vs, .inl (.inr ⟨o, h⟩), q1 _ H1 (ay.refl _) ⟨_, uD, fun H2 k _ => ⟨o, vs, k.2 _ _ _ h, bo.kp k _ _ r⟩⟩⟩⟩
    | tuple ds =>
      simp only [Rp] at p1;obtain ⟨a', vs, rfl, h, r⟩ := p1;exact ⟨a', rfl, .inr ⟨vs, ge.of h, q1 _ H1 (ay.refl _) ⟨_, vw, fun H2 k _ => ⟨vs, k.1 _ _ h, bo.kp k _ _ r⟩⟩⟩⟩
    | _ => exact q1.elim
theorem Z.me (ha : Z.ah X a fa) : Z.mF X tg a (qr fa) :=
  ⟨D2.me ha.un⟩
def cG (lo : Int) (n : Nat) : List PyData := (List.range n).map fun (k : Nat) => .int (lo + k)
def sf : List PyData -> R (List PyData)
  | [.int j] => if -(2 ^ 62) <= j /\ j < 2 ^ 62 then .ok (cG 0 j.toNat) else .no
  | [.int i, .int j] => if -(2 ^ 62) <= i /\ i < 2 ^ 62 /\ -(2 ^ 62) <= j /\ j < 2 ^ 62 then .ok (cG i (j - i).toNat) else .no
  | _ => .no
def jY (fs : aH -> R (List PyData)) : aH -> R (List PyData) := fun ρ => fs ρ >>= sf
theorem ti {lo : Int} {n : Nat} : wz (zZ lo n) (fun _ => True) (cG lo n) where
  go := fun i H _ hi => by
    show i < n;simpa [cG] using hi
  yld := fun i H x H' d _ hd ⟨e, y⟩ => by
    subst e;subst y;refine ⟨ay.refl _, ?_⟩;unfold cG at hd;rw [List.getElem?_map] at hd;cases h : (List.range n)[i]? with
    | none => rw [h] at hd; cases hd
    | some k =>
      rw [h] at hd;have hk : k = i := by
        rw [List.getElem?_range] at h
        · exact (Option.some.inj h).symm
        · have := (List.getElem?_eq_some_iff.mp h).1;simpa using this
      subst hk;cases hd;exact ci
  stop := fun i H _ hi => by
    show n <= i;simpa [cG] using hi
theorem iw (T : Tb X nl G) (j : Nat) (hG : G[j]? = some ("range" : Str)) (hm : X.mg "range" = none) (ha : mh X [a] fs) (hl : ∀ ρ ds, fs ρ = .ok ds -> ds.length = 1) (hs : am a = true := by rfl) : mF X tg (.Call (.Name "range" p) [a] [] pos) (jY fs) :=
  PI.imp (rY (T.gl _ (List.mem_of_getElem? hG)).1 hm ha (bc hs)) fun σ H Rk ⟨ρ, sl, q⟩ => by
    refine ⟨ρ, sl, ?_⟩;dsimp only [jY] at q;cases e : fs ρ with
    | ex c => rw [e] at q; exact q
    | no => rw [e] at q; exact q
    | ok ds =>
      rw [e] at q;have hlen := hl ρ ds e;intro vs H1 s1 r1
      match ds, hlen with
      | [d], _ =>
        simp only [RA] at r1;obtain ⟨v, r', rfl, p1, rfl⟩ := r1;cases d with
        | int j =>
          have ev : v = .int j := by simpa only [Rp] using p1
          subst ev;by_cases hz : -(2 ^ 62) <= j /\ j < 2 ^ 62
          · have e2 : sf [.int j] = .ok (cG 0 j.toNat) := if_pos hz;rw [R.ok_bind, e2] at q;exact ⟨j, rfl, hz.1, hz.2, q _ H1 s1 ⟨_, ti, fun _ _ _ => True.intro⟩⟩
          · have e2 : sf [.int j] = .no := if_neg hz;rw [R.ok_bind, e2] at q;exact q.elim
        | _ => exact q.elim
theorem Z.iw (T : Tb X nl G) (j : Nat) (hG : G[j]? = some ("range" : Str)) (hm : X.mg "range" = none) (ha : Z.mh X [a] fs) (hl : ∀ ρ ds, fs ρ = .ok ds -> ds.length = 1) (hs : am a = true := by rfl) : Z.mF X tg (.Call (.Name "range" p) [a] [] pos) (jY fs) :=
  ⟨D2.iw T j hG hm ha.un hl hs⟩
end
def pX (x : Int) : List Int -> List Int
  | [] => [x]
  | y :: r => if x <= y then x :: y :: r else y :: pX x r
def eI : List Int -> List Int
  | [] => []
  | x :: r => pX x (eI r)
theorem j7 (x : Int) : ∀ l, (pX x l).Perm (x :: l)
  | [] => List.Perm.refl _
  | y :: r => by
    unfold pX;split
    · exact List.Perm.refl _
    · exact ((j7 x r).cons y).trans (List.Perm.swap x y r)
theorem dS : ∀ l, (eI l).Perm l
  | [] => List.Perm.refl _
  | x :: r => (j7 x (eI r)).trans ((dS r).cons x)
theorem kA (x : Int) : ∀ l, l.Pairwise (· <= ·) -> (pX x l).Pairwise (· <= ·)
  | [], _ => by unfold pX; exact List.pairwise_singleton _ _
  | y :: r, h => by
    have h' := List.pairwise_cons.mp h;unfold pX;split
    · rename_i hxy;refine List.pairwise_cons.mpr ⟨fun z hz => ?_, h⟩;rcases List.mem_cons.mp hz with rfl | hz
      · exact hxy
      · exact Int.le_trans hxy (h'.1 z hz)
    · rename_i hxy;refine List.pairwise_cons.mpr ⟨fun z hz => ?_, kA x r h'.2⟩;rcases List.mem_cons.mp ((j7 x r).mem_iff.mp hz) with rfl | hz
      · omega
      · exact h'.1 z hz
theorem gw : ∀ l, (eI l).Pairwise (· <= ·)
  | [] => List.Pairwise.nil
  | x :: r => kA x _ (gw r)
theorem o5 {a b : List Int} (hp : a.Perm b) (hs : a.Pairwise (· <= ·)) : a = eI b := PySem.W.ksm_same (hp.trans (dS b).symm) hs (gw b)
section
variable {prog : Program} {w : World} {A : Around} {E : Value -> Shared -> Prop} {s : Shared}
theorem pK {d : Addr} {kvs : List (cg × Value)} {ns : List Int} {Q : Value -> Shared -> Prop} (hh : A.handled = none) (lo : (d == sysModules) = false) (hd : s.heap.DictOf (cw prog w) d kvs) (hk : kvs.map (·.1) = ns.map Sum.inl) (h64 : ns.length < 64)
    (h : ∀ (D : Addr) (h' : Heap) (tk : Nat) (vs : List Value) (e : Nat), s.heap.get? D = none -> (∀ b o, s.heap.get? b = some o -> h'.get? b = some o) -> h'.get? D = some (seqObj "list" vs.toArray e) -> IntsAre vs (eI ns) -> Q (.ref D) { s with heap := h', toks := tk }) :
    wpAny (model prog w) A (call (.builtin "sorted") [.ref d]) Q E s := by
  obtain ⟨ep, hat⟩ := hd.dictAt;have hlen : kvs.length = ns.length := by have := congrArg List.length hk; simpa using this
  have hn : kvs.length <= sizeLine := by rw [sizeLine_eq]; omega
  refine Calls.call_function_entry kind_sorted plain_sorted entry_sorted (args_sorted1 _) ?_;unfold Builtin.«sorted»;refine wpAny_bind (m := checkCount "sorted" 1 1 _) (wpAny_pure ?_);refine wpAny_bind (PySem.W.kdu_collect (A := A.in1) (PySem.W.kdl_dict (knd := cw prog w) (kvs := kvs) (ep := ep) lo) hh hat hn fun h1 tk acc hk1 hacc => ?_);have hl : acc.toList.length = kvs.length := by rw [Array.length_toList]; exact hacc.1
  have hI : IntsAre acc.toList ns := by
    have key : ∀ (l : List Value) (ms : List Int) (k : Nat), l.length = ms.length -> (∀ (j : Nat) (v : Value), l[j]? = some v -> ∃ n : Int, ms[j]? = some n /\ ∃ t, v = Value.int n t) -> IntsAre l ms := by
      intro l;induction l with
      | nil => intro ms k e _; have : ms = [] := List.length_eq_zero_iff.mp e.symm; subst this; exact .nil
      | cons v r ih =>
        intro ms k e hv;cases ms with
        | nil => cases e
        | cons n ms =>
          obtain ⟨n', e1, t, rfl⟩ := hv 0 v rfl;have : n = n' := Option.some.inj e1;subst this;exact .cons n t (ih ms (k + 1) (by simpa using e) fun j u hu => hv (j + 1) u (by simpa using hu))
    refine key acc.toList ns 0 (by rw [hl, hlen]) fun j v hv => ?_
    obtain ⟨κ, x, hx, his⟩ := hacc.2 j v (by rw [<- Array.getElem?_toList]; exact hv);have e1 : (kvs.map (·.1))[j]? = some κ := by rw [List.getElem?_map, hx]; rfl
    rw [hk, List.getElem?_map] at e1;cases e2 : ns[j]? with
    | none => rw [e2] at e1; cases e1
    | some n =>
      rw [e2] at e1;have e3 : Sum.inl n = κ := Option.some.inj e1;subst e3;rcases bM (show lr (Sum.inl n) v = true from his) with ⟨i, t, e4, e5⟩ | ⟨y, t, e4, _⟩
      · cases e4; exact ⟨n, rfl, t, e5⟩
      · cases e4
  refine wpAny_bind (wpAny_newList ?_ (by rw [hl]; exact hn));have hoL : (h1.push (seqObj "list" acc.toList.toArray 0)).get? h1.objs.size = some (seqObj "list" acc.toList.toArray 0) := Heap.get?_push_size _ rfl;show wpAny _ _ _ _ _ { s with heap := h1.push (seqObj "list" acc.toList.toArray 0), toks := tk };refine wpAny_bind (wpAny_holding (wpAny_call_entry slot_list_sort ⟨_, hoL, rfl⟩ entry_list_sort (list_sort_tree hoL hI (by rw [hl, hlen]; exact h64) fun out ns' a1 a2 a3 => ⟨_, rfl, ?_⟩) (args_list_sort _)));refine wpAny_pure ⟨_, rfl, ?_⟩;obtain ⟨e, he⟩ := sortedHeap_at (out := out) hoL;have hsz : s.heap.get? h1.objs.size = none := by
    cases q : s.heap.get? h1.objs.size with
    | none => rfl
    | some o => exact absurd (Heap.lt_size (hk1 _ _ q)) (Nat.lt_irrefl _)
  refine h h1.objs.size _ tk out.toList e hsz (fun b o q => ?_) he (by rw [o5 a2 a3] at a1; exact a1);have q1 := hk1 b o q;have hlt : b < h1.objs.size := Heap.lt_size q1;show (sortedHeap (h1.push (seqObj "list" acc.toList.toArray 0)) h1.objs.size acc.toList out).get? b = some o;rw [sortedHeap_old (Nat.ne_of_lt hlt) (by rw [size_push']; exact Nat.lt_succ_of_lt hlt)];exact Heap.get?_push_of_some _ q1
end
theorem vQ {fs ex : List Addr} {H : Hp} {h h' : Heap} {a : Addr} {o : HO} (k : ∀ b u, h.get? b = some u -> h'.get? b = some u) (hg : h.get? a = none) (hn : H a = none) : Un fs ex H (cW H a o) h h' := by
  have ne : ∀ {b : Addr} {u : Obj}, h.get? b = some u -> b ≠ a := fun e z => by subst z; rw [hg] at e; cases e
  exact ⟨fun b u q _ _ _ => k b u q, fun b u q _ _ _ => ⟨u.slots, k b u q⟩, fun b u q n _ => by rw [aI (ne q)]; exact n, fun b u q _ => ⟨u, k b u q⟩, fun b xs q => by rw [aI (aX q hn)]; exact q, fun b u xs q => by rw [aI (aX q hn)]; exact q,
    fun b ps q => ⟨#[], by rw [aI (aX q hn), q]; simp⟩⟩
theorem uT {X : Cx} {pins : List (Addr × Obj)} {σ : St} {H : Hp} {s : Shared} {h' : Heap} {a : Addr} {o : HO} {t' : Nat} (I : aE X pins σ H s) (k : ∀ b u, s.heap.get? b = some u -> h'.get? b = some u) (hg : s.heap.get? a = none) (hn : H a = none)
    (new : bE X.prog X.w (cW H a o) h' a o) : aE X pins σ (cW H a o) { s with heap := h', toks := t' } := by
  refine I.un (vQ k hg hn) fun b u e => ?_
  by_cases hb : b = a
  · subst hb; rw [bQ] at e; cases e; exact new
  · rw [aI hb] at e;exact (I.hok b u e).stay (fun c v _ q => k c v q) (fun c q => by rw [aI (aX q hn)]; exact q) fun c xs q => by rw [aI (aX q hn)]; exact q
theorem tx {X : Cx} {pins : List (Addr × Obj)} {σ : St} {H : Hp} {s : Shared} {a : Addr} (I : aE X pins σ H s) (hg : s.heap.get? a = none) : H a = none := by
  cases q : H a with
  | none => rfl
  | some o => obtain ⟨u, e⟩ := qO (I.hok a o q); rw [hg] at e; cases e
section
variable {X : Cx} {a b c : Expr} {fa fb fc : Fe} {pos p2 : Pos} {nl : Nat} {G : List Str} {x : Str} {p : Pos}
def cn : List PyData -> Option (List Int)
  | [] => some []
  | .int i :: ds => (cn ds).map fun r => i :: r
  | _ => none
theorem dP : ∀ {ds : List PyData} {ns : List Int}, cn ds = some ns -> ds = ns.map PyData.int
  | [], ns, h => by cases h; rfl
  | d :: ds, ns, h => by
    cases d with
    | int i =>
      simp only [cn] at h;cases e : cn ds with
      | none => rw [e] at h; cases h
      | some r =>
        rw [e] at h;cases h;rw [List.map_cons, dP e]
    | _ => cases h
theorem fA : ∀ ns : List Int, cn (ns.map PyData.int) = some ns
  | [] => rfl
  | n :: ns => by simp only [List.map_cons, cn, fA ns, Option.map_some]
def iC : PyData -> R PyData
  | .list ds => match cn ds with
    | some ns => if ns.length < 64 then .ok (.list ((eI ns).map PyData.int)) else .no
    | none => .no
  | .dict kvs => match cn (kvs.map (·.1)) with
    | some ns => if ns.length < 64 then .ok (.list ((eI ns).map PyData.int)) else .no
    | none => .no
  | _ => .no
def xr (K : PySem.W.Frag) : List V -> Hp -> VK -> Prop := fun xs H Q => ∃ p ns, xs = [.ref p] /\ kD K H p (ns.map V.int) /\ ns.length < 64 /\ ∀ l, H l = none -> Q (.ref l) (cW H l (.lst ((eI ns).map V.int)))
def yb : List V -> Hp -> VK -> Prop := fun xs H Q => ∃ p ks ns, xs = [.ref p] /\ Rd H p (.dK ks) /\ ks.map (·.1) = ns.map Sum.inl /\ ns.length < 64 /\ ∀ l, H l = none -> Q (.ref l) (cW H l (.lst ((eI ns).map V.int)))
theorem mG (ns : List Int) : (eI ns).length = ns.length := (dS ns).length_eq
theorem qU : cI X (.builtin "sorted") (xr X.K) := by
  intro pins s σ H xs us Q I r h;obtain ⟨p, ns, rfl, hq, h64, q⟩ := h;obtain ⟨u, rfl, rx⟩ := fj r;cases rx;obtain ⟨its, rv, pl, hz⟩ := I.list hq;have hI : IntsAre its ns := gE rv;have hl := IntsAre.length hI;refine sorted_ints pl.isList hI (by omega) fun out ns' a1 a2 a3 => ?_
  rw [o5 a2 a3] at a1;obtain ⟨e, he⟩ := sortedAll_at s.heap its out;refine ⟨.ref (s.heap.objs.size + 1), _, I.laid (t' := s.toks) (o := .lst ((eI ns).map V.int)) (fun b o e => sortedAll_old e) (Nat.le_succ _) ⟨?_, out.toList, e, ix a1, by simpa [seqObj] using he⟩, rfl, q _ (I.hok.fresh (Nat.le_succ _))⟩;rw [List.length_map, mG, sizeLine_eq]; omega
theorem qk (hc : X.calm = true) : cI X (.builtin "sorted") yb := by
  intro pins s σ H xs us Q I r h;obtain ⟨p, ks, ns, rfl, hq, hk, h64, q⟩ := h;obtain ⟨u, rfl, rx⟩ := fj r;cases rx;obtain ⟨hz, hlo, vs, kv, hd⟩ := lW I.hok hq;refine pK (I.ok.hd hc) hlo hd (by rw [<- kv.keys]; exact hk) h64 fun D h' tk vs' e hg kp hD hI => ?_
  have hn := tx I hg;refine ⟨.ref D, _, uT (t' := tk) (o := .lst ((eI ns).map V.int)) I kp hg hn ⟨?_, vs', e, ix hI, by simpa [seqObj] using hD⟩, rfl, q _ hn⟩;rw [List.length_map, mG, sizeLine_eq]; omega
theorem jw : ∀ {H : Hp} {ns : List Int} {vs : List V}, bo H (ns.map PyData.int) vs -> vs = ns.map V.int
  | H, [], vs, r => by rw [List.map_nil] at r; rw [r.nil_inv]; rfl
  | H, n :: ns, vs, r => by
    rw [List.map_cons] at r;obtain ⟨v, r', rfl, p, t⟩ := r.cons_inv;have : v = .int n := by simpa only [Rp] using p
    rw [this, jw t]; rfl
theorem pb : ∀ {H : Hp} {kvs : List (PyData × PyData)} {ks : List (cg × V)}, de H kvs ks -> kvs.map (·.1) = ks.map fun k => eB k.1
  | H, [], ks, r => by simp only [de] at r; rw [r]; rfl
  | H, (k, d) :: kvs, ks, r => by
    simp only [de, wm] at r;obtain ⟨x, v, r', rfl, ⟨e, _⟩, t⟩ := r;rw [List.map_cons, List.map_cons, pb t, e]
theorem mX : ∀ {ks : List (cg × V)} {ns : List Int}, (ks.map fun k => eB k.1) = ns.map PyData.int -> ks.map (·.1) = ns.map Sum.inl
  | [], [], _ => rfl
  | [], _ :: _, h => by cases h
  | _ :: _, [], h => by cases h
  | (k, v) :: ks, n :: ns, h => by
    rw [List.map_cons, List.map_cons] at h;injection h with h1 h2
    rw [List.map_cons, List.map_cons, mX h2];cases k with
    | inl i => simp only [eB] at h1; cases h1; rfl
    | inr y => simp only [eB] at h1; cases h1
theorem jf (T : Tb X nl G) (j : Nat) (hG : G[j]? = some ("sorted" : Str)) (hm : X.mg "sorted" = none) (ha : bh X a fa) (he : am a = true := by rfl) : eL X (.Call (.Name "sorted" p) [a] [] pos) (e1 iC fa) := by
  refine vS T j hG hm v9 PyProof.Rows.boot_sorted (qU.or (qk T.calm)) (fun H x d Q hx q => ?_) ha he;cases d with
  | list ds =>
    simp only [iC] at q;cases ei : cn ds with
    | none => rw [ei] at q; exact q.elim
    | some ns =>
      rw [ei] at q;dsimp only at q;by_cases h64 : ns.length < 64
      · rw [if_pos h64] at q;obtain ⟨a', vs, rfl, h, r⟩ := cM (K := X.K) hx;rw [dP ei] at r;rw [jw r] at h;exact .inl ⟨a', ns, rfl, h, h64, fun l hl => q _ _ (bD hl _) (cP hl (bo.ints _))⟩
      · rw [if_neg h64] at q; exact q.elim
  | dict kvs =>
    simp only [iC] at q;cases ei : cn (kvs.map (·.1)) with
    | none => rw [ei] at q; exact q.elim
    | some ns =>
      rw [ei] at q;dsimp only at q;by_cases h64 : ns.length < 64
      · rw [if_pos h64] at q;have hi : mJ kvs = false := by
          cases kvs with
          | nil => rfl
          | cons kd kvs =>
            obtain ⟨k, d⟩ := kd;cases k <;> first | rfl | (simp [cn] at ei)
        obtain ⟨a', ks, rfl, h, r⟩ := jx hi hx;have hk := mX ((pb r).symm.trans (dP ei));exact .inr ⟨a', ks, ns, rfl, h, hk, h64, fun l hl => q _ _ (bD hl _) (cP hl (bo.ints _))⟩
      · rw [if_neg h64] at q; exact q.elim
  | _ => exact q.elim
theorem Z.jf (T : Tb X nl G) (j : Nat) (hG : G[j]? = some ("sorted" : Str)) (hm : X.mg "sorted" = none) (ha : Z.bh X a fa) (he : am a = true := by rfl) : Z.eL X (.Call (.Name "sorted" p) [a] [] pos) (e1 iC fa) :=
  ⟨D2.jf T j hG hm ha.un he⟩
theorem sP (hc : X.calm = true) : cI X (.builtin "all") (fun xs H Q => ∃ (p : Addr) (bs : List Bool), xs = [.ref p] /\ kD X.K H p (bs.map V.bl) /\ Q (.bl (bs.all id)) H) := by
  intro pins s σ H xs us Q I r h;obtain ⟨p, bs, rfl, hq, q⟩ := h;obtain ⟨u, rfl, rx⟩ := fj r;cases rx;obtain ⟨its, rv, pl, hz⟩ := I.list hq;have hh : X.A.in1.handled = none := I.ok.hd hc;have hlt : p ≠ s.heap.objs.size := by obtain ⟨o, e, _⟩ := pl.isList; exact Nat.ne_of_lt (Heap.lt_size e)
  have hits : its = bs.map Value.bool := by
    have key : ∀ (bs : List Bool) (us : List Value), bq (bs.map V.bl) us -> us = bs.map Value.bool := by
      intro bs;induction bs with
      | nil => intro us r; cases r; rfl
      | cons k bs ih => intro us r; rw [List.map_cons] at r; cases r with | cons r1 r2 => rw [ih _ r2]; cases r1; rfl
    exact key bs its rv
  refine call_all_walk (wpAny_pyIter_list pl.isList ?_);refine ⟨s.heap.objs.size, _, _, its.toArray.size, _, _, fun i => (bs[i]?).getD true, rfl, Walks.list hh s.heap.objs.size p hlt its.toArray, ⟨⟨_, Heap.get?_push_size _ rfl, rfl, rfl⟩, ?_⟩, fun i v s' Q' E' hv hQ' => ?_, fun h' tk kp => ?_⟩
  · obtain ⟨o, e, r'⟩ := pl.isList;exact ⟨o, Heap.get?_push_of_some _ e, r'⟩
  · have hv' : its[i]? = some v := by simpa using hv
    rw [hits, List.getElem?_map] at hv';cases e : bs[i]? with
    | none => rw [e] at hv'; cases hv'
    | some k =>
      rw [e] at hv';cases hv';dsimp only at hQ';rw [e] at hQ';exact wpAny_truthy_bool hQ'
  · have e : ((List.range its.toArray.size).all fun i => (bs[i]?).getD true) = bs.all id := by
      rw [List.size_toArray, hits, List.length_map];have key : ∀ (l : List Bool), ((List.range l.length).all fun i => (l[i]?).getD true) = l.all id := by
        intro l;induction l with
        | nil => rfl
        | cons k l ih =>
          rw [List.length_cons, List.range_succ_eq_map, List.all_cons, List.all_map, List.all_cons, <- ih];rfl
      exact key bs
    rw [e];refine ⟨.bl (bs.all id), H, I.kept (t' := tk) fun b o g => kp b o (fun z => ?_) (Heap.get?_push_of_some _ g), rfl, q⟩;rw [List.mem_singleton.mp z] at g;exact absurd (Heap.lt_size g) (Nat.lt_irrefl _)
theorem o7 : ∀ {ds : List PyData} {k : Bool}, kh ds = some k -> ∃ bs : List Bool, ds = bs.map PyData.bool /\ k = bs.all id
  | [], k, h => by cases h; exact ⟨[], rfl, rfl⟩
  | d :: ds, k, h => by
    cases d with
    | bool j =>
      simp only [kh] at h;cases e : kh ds with
      | none => rw [e] at h; cases h
      | some r =>
        rw [e] at h;cases h;obtain ⟨bs, e1, e2⟩ := o7 e;exact ⟨j :: bs, by rw [e1]; rfl, by rw [e2]; rfl⟩
    | _ => cases h
theorem mO : ∀ {H : Hp} {ns : List Bool} {vs : List V}, bo H (ns.map PyData.bool) vs -> vs = ns.map V.bl
  | H, [], vs, r => by rw [List.map_nil] at r; rw [r.nil_inv]; rfl
  | H, n :: ns, vs, r => by
    rw [List.map_cons] at r;obtain ⟨v, r', rfl, p, t⟩ := r.cons_inv;have : v = .bl n := by simpa only [Rp] using p
    rw [this, mO t]; rfl
theorem lN (T : Tb X nl G) (j : Nat) (hG : G[j]? = some ("all" : Str)) (hm : X.mg "all" = none) (ha : bh X a fa) (he : am a = true := by rfl) : ah X (.Call (.Name "all" p) [a] [] pos) (e1 nY fa) := by
  refine vS T j hG hm dQ PyProof.Rows.boot_all (sP T.calm) (fun H x d Q hx q => ?_) ha he;cases d with
  | list ds =>
    simp only [nY] at q;cases ei : kh ds with
    | none => rw [ei] at q; exact q.elim
    | some k =>
      rw [ei] at q;obtain ⟨bs, e1, e2⟩ := o7 ei;obtain ⟨a', vs, rfl, h, r⟩ := cM (K := X.K) hx;rw [e1] at r;rw [mO r] at h;refine ⟨a', bs, rfl, h, ?_⟩;rw [<- e2];exact q _ H (ay.refl _) dk
  | _ => exact q.elim
theorem Z.lN (T : Tb X nl G) (j : Nat) (hG : G[j]? = some ("all" : Str)) (hm : X.mg "all" = none) (ha : Z.bh X a fa) (he : am a = true := by rfl) : Z.ah X (.Call (.Name "all" p) [a] [] pos) (e1 nY fa) :=
  ⟨D2.lN T j hG hm ha.un he⟩
end
section
variable {X : Cx} {a b c : Expr} {fa fb fc : Fe} {pos p2 : Pos} {nl : Nat} {G : List Str} {x : Str} {p : Pos}
theorem fQ.change {Fm H : Hp} {σ : St} {ρ : aH} {i : Nat} {d d' : PyData} {a : Addr} {u u' : HO} (h : fQ Fm H σ ρ) (h1 : ρ[i]? = some (.own d)) (h2 : σ[i]? = some (some (.ref a))) (hu : H a = some u) (hm : (∃ xs, u = .lst xs) \/ ∃ ks, u = .dK ks)
    (hr : iI (cW H a u') d' (.ref a)) : fQ Fm (cW H a u') σ (ρ.set i (.own d')) := by
  have hFa := h.own i d a h1 h2;have kp : Kp H (cW H a u') := gS hu hm;have at_i : ∀ (j : Nat) (e : PyData), (ρ.set i (.own d'))[j]? = some (.own e) -> ∃ e0, ρ[j]? = some (.own e0) := fun j e q => by
    rw [List.getElem?_set] at q;by_cases hij : i = j
    · subst hij; exact ⟨d, h1⟩
    · rw [if_neg hij] at q; exact ⟨e, q⟩
  refine ⟨fun b x e => ?_, ⟨by rw [List.length_set]; exact h.sl.1, fun j c w' e1 e2 => ?_⟩, fun j e b e1 e2 => ?_, fun j k e f b e1 e2 e3 e4 => ?_⟩
  · rw [aI (aX e hFa)]; exact h.fm b x e
  · rw [List.getElem?_set] at e1;by_cases hij : i = j
    · subst hij;rw [if_pos rfl] at e1;split at e1
      · cases e1;rw [h2] at e2;cases e2;exact ⟨_, rfl, hr⟩
      · cases e1
    · rw [if_neg hij] at e1;have q := h.sl.2 j c w' e1 e2;cases c with
      | exc p => exact q
      | non => exact True.intro
      | val d1 => obtain ⟨v, z1, z2⟩ := q; exact ⟨v, z1, Rp.kp kp _ _ z2⟩
      | own d1 =>
        obtain ⟨v, z1, z2⟩ := q;subst z1;obtain ⟨b, ob, rfl, hb⟩ := nK z2;have nb : b ≠ a := fun z => hij (by subst z; exact h.apart i j d d1 b h1 e1 h2 e2)
        refine ⟨_, rfl, ?_⟩;cases d1 <;> simp only [iI] at z2 ⊢
        · obtain ⟨b', vs, e, hb', r⟩ := z2;cases e;exact ⟨b, vs, rfl, by rw [aI nb]; exact hb', bo.kp kp _ _ r⟩
        · obtain ⟨b', vs, e, hb', r⟩ := z2;cases e;exact ⟨b, vs, rfl, by rw [aI nb]; exact hb', de.kp kp _ _ r⟩
  · obtain ⟨e0, q⟩ := at_i j e e1;exact h.own j e0 b q e2
  · obtain ⟨e0, q⟩ := at_i j e e1;obtain ⟨f0, q'⟩ := at_i k f e2;exact h.apart j k e0 f0 b q q' e3 e4
def t5 (i : Nat) (fk fv : Fe) : Fs := fun ρ => fv ρ >>= fun v => lw (fk ρ) >>= fun k => match ρ[i]? with
  | some (.own (.dict kvs)) => match fY k with
    | some _ => if kvs.length < sizeLine then .ok (.nx (ρ.set i (.own (.dict (qW kvs k v))))) else .no
    | none => .no
  | _ => .no
theorem rZ {k : PyData} {κ : cg} (h : fY k = some κ) : k = eB κ := by
  cases k <;> simp only [fY] at h <;> cases h <;> rfl
theorem ye {H : Hp} {κ : cg} {y : V} (h : Rp H (eB κ) y) : y = kV κ := by
  cases κ <;> simp only [eB, Rp] at h <;> exact h
theorem pU {k v : Expr} {fk fv : Fe} {q1 q2 q3 : Pos} (T : Tb X nl G) (n : Nat) (hN : X.N[n]? = some x) (hk : ah X k fk) (hv : ah X v fv) (hs : swapsWith v (some (.Subscript (.Name x q1) k q2)) q3.line X.env = pure false := by rfl) :
    fI X (.Assign [.Subscript (.Name x q1) k q2] v q3) (t5 n fk fv) := fun Fm => by
  have hm := T.vis x (List.mem_of_getElem? hN);refine PS.imp (ve (by have := T.hu; omega) (lu hN hm.1 hm.2.1 hm.2.2) hk hv hs) fun D σ H h => ?_
  refine (qE (P := fO) (f := fv) (k := fun ρ v => lw (fk ρ) >>= fun k => match ρ[n]? with
    | some (.own (.dict kvs)) => match fY k with
      | some _ => if kvs.length < sizeLine then .ok (.nx (ρ.set n (.own (.dict (qW kvs k v))))) else .no
      | none => .no
    | _ => .no) h).post fun vv H1 ⟨ρ1, dv, sl1, _, p1, q1⟩ => ?_
  have sl0 : wT X Fm (fun ρ => lw (fk ρ) >>= fun k => match ρ[n]? with
    | some (.own (.dict kvs)) => match fY k with
      | some _ => if kvs.length < sizeLine then .ok (.nx (ρ.set n (.own (.dict (qW kvs k dv))))) else .no
      | none => .no
    | _ => .no) D σ H1 := ⟨ρ1, sl1, q1⟩
  cases e : ρ1[n]? with
  | none =>
    exfalso;rw [e] at q1;cases e2 : fk ρ1 with
    | ok _ => rw [e2] at q1; exact q1
    | ex _ => rw [e2] at q1; exact q1
    | no => rw [e2] at q1; exact q1
  | some c =>
    rw [e] at q1;cases c with
    | own d =>
      cases d with
      | dict kvs =>
        obtain ⟨o, h2, w', rfl, p2⟩ := sl1.sl.at e;simp only [iI] at p2;obtain ⟨a', ks, rfl, ha, r⟩ := p2;refine ⟨.ref a', h2, ?_⟩;refine ⟨ρ1, sl1.sl, ?_⟩;cases e2 : fk ρ1 with
        | ex _ => rw [e2] at q1; exact q1.elim
        | no => rw [e2] at q1; exact q1
        | ok kd =>
          rw [e2] at q1;simp only [lw, R.ok_bind] at q1;intro yv H3 s3 p3;cases e3 : fY kd with
          | none => rw [e3] at q1; exact q1.elim
          | some κ =>
            rw [e3] at q1;dsimp only at q1;by_cases hz : kvs.length < sizeLine
            · rw [if_pos hz] at q1;have ek := rZ e3;subst ek;have ey := ye p3;subst ey;have ha3 := s3 _ _ ha;have r3 : de H3 kvs ks := de.kp (Kp.of s3) _ _ r;refine ⟨a', _, rfl, pP.k ha3 (by rw [r3.length]; exact hz), q1 _ _ ((sl1.mono s3).change e h2 ha3 (.inr ⟨_, rfl⟩) ?_)⟩;simp only [iI];exact ⟨a', _, rfl, bQ, de.kp (gS ha3 (.inr ⟨_, rfl⟩)) _ _ (de.put κ (p1.mono s3) r3)⟩
            · rw [if_neg hz] at q1; exact q1.elim
      | _ =>
        exfalso;cases e2 : fk ρ1 with
        | ok _ => rw [e2] at q1; exact q1
        | ex _ => rw [e2] at q1; exact q1
        | no => rw [e2] at q1; exact q1
    | _ =>
      exfalso;cases e2 : fk ρ1 with
      | ok _ => rw [e2] at q1; exact q1
      | ex _ => rw [e2] at q1; exact q1
      | no => rw [e2] at q1; exact q1
theorem Z.pU {k v : Expr} {fk fv : Fe} {q1 q2 q3 : Pos} (T : Tb X nl G) (n : Nat) (hN : X.N[n]? = some x) (hk : Z.ah X k fk) (hv : Z.ah X v fv) (hs : swapsWith v (some (.Subscript (.Name x q1) k q2)) q3.line X.env = pure false := by rfl) : Z.fI X (.Assign [.Subscript (.Name x q1) k q2] v q3) (t5 n fk fv) :=
  ⟨D2.pU T n hN hk.un hv.un hs⟩
def cJ (i : Nat) (f : Fe) : Fs := fun ρ => lw (f ρ) >>= fun d => match ρ[i]? with
  | some (.own (.list ds)) => if ds.length < sizeLine then .ok (.nx (ρ.set i (.own (.list (ds ++ [d]))))) else .no
  | _ => .no
end
section
variable {prog : Program} {w : World} {A : Around} {E : Value -> Shared -> Prop} {s : Shared}
theorem pW {it t : Addr} {i : Nat} {items : Array Value} {x : Value} {Q : Value -> Shared -> Prop} (hit : s.heap.IsTupleIter it t i) (ht : s.heap.IsTuple t items) (hx : items[i]? = some x)
    (hQ : ∀ h', h'.IsTupleIter it t (i + 1) -> Heap.SameBut it s.heap h' -> Q x { s with heap := h' }) : wpAny (model prog w) A (Builtin.SmallTypes.nextOf (.ref it)) Q E s := by
  obtain ⟨ob, hob, hcl, hdt⟩ := id hit;obtain ⟨ot, hot, _, nt, hdtt⟩ := ht;unfold Builtin.SmallTypes.nextOf;refine wpAny_bind (wpAny_callSpecial?_slot (name := Str.ofString "__next__") hit.typeIs F.slot_tuple_iterator_next (wpAny_call_entry F.slot_tuple_iterator_next hit.typeIs F.entry_tuple_iterator_next ?_ (F.args_tuple_iterator_next_1 _)));show wpAny _ _ (field (Value.ref it) 0 >>= _) _ _ s;refine wpAny_bind (wpAny_field hob hdt (x := Value.ref t) rfl ?_);show wpAny _ _ (if (Value.ref t == Value.none) = true then _ else _) _ _ s;rw [if_neg (by intro z; cases z)];show wpAny _ _ (field (Value.ref it) 1 >>= _) _ _ s;refine wpAny_bind (wpAny_field hob hdt (x := Value.int i 0) rfl ?_);show wpAny _ _ (seqItems? (Value.ref t) >>= _) _ _ s;refine wpAny_bind (wpAny_seqItems hot hdtt ?_);simp only [hx, Int.toNat_natCast];refine wpAny_bind (wpAny_setField hob hdt (by simp) (wpAny_pure ⟨x, rfl, wpAny_pure (hQ _ ⟨_, Heap.get?_update_self _ hob (Obj.isFreed_of_fields (Obj.data_mapFields hdt _)), (Obj.cls_mapFields ..).trans hcl, ?_⟩ (Heap.SameBut.update ..))⟩));rw [Obj.data_mapFields hdt];simp [rawInt]
theorem lK {it t : Addr} {i : Nat} {items : Array Value} {Q : Value -> Shared -> Prop} (hh : A.handled = none) (hit : s.heap.IsTupleIter it t i) (ht : s.heap.IsTuple t items) (hx : items[i]? = none)
    (hE : ∀ h' e, Heap.ExtBut it s.heap h' -> (∃ o, h'.get? e = some o /\ o.cls = .type "StopIteration") -> E (.ref e) { s with heap := h' }) : wpAny (model prog w) A (Builtin.SmallTypes.nextOf (.ref it)) Q E s := by
  obtain ⟨ob, hob, hcl, hdt⟩ := id hit;obtain ⟨ot, hot, _, nt, hdtt⟩ := ht;unfold Builtin.SmallTypes.nextOf;refine wpAny_bind (wpAny_callSpecial?_slot (name := Str.ofString "__next__") hit.typeIs F.slot_tuple_iterator_next (wpAny_call_entry F.slot_tuple_iterator_next hit.typeIs F.entry_tuple_iterator_next ?_ (F.args_tuple_iterator_next_1 _)));show wpAny _ _ (field (Value.ref it) 0 >>= _) _ _ s;refine wpAny_bind (wpAny_field hob hdt (x := Value.ref t) rfl ?_);show wpAny _ _ (if (Value.ref t == Value.none) = true then _ else _) _ _ s;rw [if_neg (by intro z; cases z)];show wpAny _ _ (field (Value.ref it) 1 >>= _) _ _ s;refine wpAny_bind (wpAny_field hob hdt (x := Value.int i 0) rfl ?_);show wpAny _ _ (seqItems? (Value.ref t) >>= _) _ _ s;refine wpAny_bind (wpAny_seqItems hot hdtt ?_);simp only [hx, Int.toNat_natCast];refine wpAny_bind (wpAny_rule (wpAny_bind (wpAny_setField hob hdt (by simp) ?_)));show wpAny _ _ (newExc (Value.type "StopIteration") [] >>= _) _ _ _;refine wpAny_bind ?_;simp only [newTuple, newExc];refine wpAny_bind (wpAny_newObj_type ?_ (by size_fits));refine wpAny_bind (m := firstArgMember _ _) (wpAny_of_eq (a := Value.none) (by first | rfl | (simp only [firstArgMember]; rfl)) ?_);refine wpAny_newObj_type ?_ (by size_fits);simp only [raiseNew];refine wpAny_bind (wpAny_handled ?_)
  first | rw [show A.in1.handled = none from hh] | rw [hh]
  exact wpAny_bind (wpAny_pure (wpAny_throw (hE _ _ (((Heap.SameBut.update ..).extBut.push _).push _) ⟨_, Heap.get?_push_size _ rfl, rfl⟩)))
end
def jR (h : Heap) (i l : Addr) (k : Nat) (xs : Array Value) : Prop := (h.IsListIter i l k /\ h.IsList l xs) \/ (h.IsTupleIter i l k /\ h.IsTuple l xs)
section
variable {h h' : Heap} {i l : Addr} {k : Nat} {xs : Array Value}
theorem jR.keep (x : jR h i l k xs) (hi : ∀ o, h.get? i = some o -> h'.get? i = some o) (hl : ∀ o, h.get? l = some o -> h'.get? l = some o) : jR h' i l k xs := by
  rcases x with ⟨⟨o, e, r⟩, ⟨o', e', r'⟩⟩ | ⟨⟨o, e, r⟩, ⟨o', e', r'⟩⟩
  · exact .inl ⟨⟨o, hi _ e, r⟩, ⟨o', hl _ e', r'⟩⟩
  · exact .inr ⟨⟨o, hi _ e, r⟩, ⟨o', hl _ e', r'⟩⟩
end
section
variable {prog : Program} {w : World} {A : Around} {E : Value -> Shared -> Prop} {s : Shared} {i l : Addr} {k : Nat} {xs : Array Value}
theorem rm {x : Value} {Q : Value -> Shared -> Prop} (it : jR s.heap i l k xs) (hne : l ≠ i) (hx : xs[k]? = some x) (hQ : ∀ h', jR h' i l (k + 1) xs -> Heap.SameBut i s.heap h' -> Q x { s with heap := h' }) :
    wpAny (model prog w) A (Builtin.SmallTypes.nextOf (.ref i)) Q E s := by
  rcases it with ⟨h1, h2⟩ | ⟨h1, h2⟩
  · exact wpAny_nextOf_list_item h1 h2 hx fun h' a b => hQ h' (.inl ⟨a, h2.extBut b.extBut hne⟩) b
  · exact pW h1 h2 hx fun h' a b => hQ h' (.inr ⟨a, h2.extBut b.extBut hne⟩) b
theorem kc {Q : Value -> Shared -> Prop} (hh : A.handled = none) (it : jR s.heap i l k xs) (hx : xs[k]? = none)
    (hE : ∀ h' e, Heap.ExtBut i s.heap h' -> (∃ o, h'.get? e = some o /\ o.cls = .type "StopIteration") -> E (.ref e) { s with heap := h' }) : wpAny (model prog w) A (Builtin.SmallTypes.nextOf (.ref i)) Q E s := by
  rcases it with ⟨h1, h2⟩ | ⟨h1, h2⟩
  · exact wpAny_nextOf_list_end hh h1 h2 hx hE
  · exact lK hh h1 h2 hx hE
def qM (h : Heap) (l : Addr) (xs : Array Value) : Prop := h.IsList l xs \/ h.IsTuple l xs
end
structure ZA (z p q i j l m : Addr) : Prop where
  pz : p ≠ z
  qz : q ≠ z
  iz : i ≠ z
  jz : j ≠ z
  pq : p ≠ q
  pi : p ≠ i
  pj : p ≠ j
  qi : q ≠ i
  qj : q ≠ j
  ij : i ≠ j
  lz : l ≠ z
  lq : l ≠ q
  li : l ≠ i
  lj : l ≠ j
  mz : m ≠ z
  mq : m ≠ q
  mi : m ≠ i
  mj : m ≠ j
structure u6 (h : Heap) (z p q i j l m : Addr) (f0 : Value) (k : Nat) (xs ys : Array Value) : Prop where
  zz : IsZip h z p q f0
  pp : IsPair h p (.ref i) (.ref j)
  qq : ∃ a b, IsPair h q a b
  ii : jR h i l k xs
  jj : jR h j m k ys
section
variable {prog : Program} {w : World} {A : Around} {E : Value -> Shared -> Prop} {s : Shared} {z p q i j l m : Addr} {k : Nat} {xs ys : Array Value}
theorem uz {x y : Value} {Q : Value -> Shared -> Prop} (D : ZA z p q i j l m) (S : u6 s.heap z p q i j l m .none k xs ys) (hx : xs[k]? = some x) (hy : ys[k]? = some y)
    (hQ : ∀ h', u6 h' z p q i j l m (rawInt s.heap.objs.size) (k + 1) xs ys -> IsPair h' s.heap.objs.size x y -> (∀ c o, c ≠ z -> c ≠ q -> c ≠ i -> c ≠ j -> s.heap.get? c = some o -> h'.get? c = some o) -> Q (.ref s.heap.objs.size) { s with heap := h' }) :
    wpAny (model prog w) A (Builtin.«zip.__next__» ⟨[.ref z], []⟩) (fun fin s' => ∃ v, fin = .done (.ret v) /\ Q v s') E s := by
  obtain ⟨hz, hp, ⟨a, b, hq⟩, hi, hj⟩ := S;show wpAny _ _ (field (Value.ref z) 2 >>= _) _ _ _;refine wpAny_bind (wpAny_field hz rfl (x := Value.bool false) rfl ?_);show wpAny _ _ (field (Value.ref z) 3 >>= _) _ _ _;refine wpAny_bind (wpAny_field hz rfl (x := Value.ref p) rfl ?_);refine wpAny_bind (wpAny_seqItems hp rfl ?_);show wpAny _ _ (Builtin.SmallTypes.ownedTupleIsFree (Value.ref z) >>= _) _ _ _;refine wpAny_bind ?_;unfold Builtin.SmallTypes.ownedTupleIsFree;refine wpAny_bind (wpAny_field hz rfl (x := Value.none) rfl (wpAny_pure ?_));simp only [if_true];refine wpAny_bind (wpAny_rule ?_);refine wpAny_bind (wpAny_field hz rfl (x := Value.ref q) rfl ?_);refine wpAny_bind (wpAny_setField_rec hz (by simp) fun g1 z1 s1 => ?_);replace z1 : IsZip g1 z p q .ellipsis := z1;refine wpAny_bind ?_;simp only [List.zipIdx_cons, List.zipIdx_nil, List.forIn_cons, List.forIn_nil];refine wpAny_bind (wpAny_bind (wpAny_onRaise ?_));show wpAny _ _ (Builtin.SmallTypes.nextOf (Value.ref i) >>= _) _ _ _;have hi1 : jR g1 i l k xs := hi.keep (fun o e => s1.extBut _ _ D.iz e) fun o e => s1.extBut _ _ D.lz e
  refine wpAny_bind (rm hi1 D.li hx fun g2 i2 s2 => wpAny_pure ?_);have q2 : IsPair g2 q a b := s2.extBut _ _ D.qi (s1.extBut _ _ D.qz hq);refine wpAny_bind (wpAny_seqItems q2 rfl ?_);refine wpAny_bind (wpAny_updateSeq_pair q2 fun g3 q3 s3 => ?_);replace q3 : IsPair g3 q x b := q3;refine wpAny_bind (wpAny_letGo (wpAny_pure ?_));refine wpAny_bind (wpAny_bind (wpAny_onRaise ?_));show wpAny _ _ (Builtin.SmallTypes.nextOf (Value.ref j) >>= _) _ _ _;have hj3 : jR g3 j m k ys := hj.keep (fun o e => s3.extBut _ _ D.qj.symm (s2.extBut _ _ D.ij.symm (s1.extBut _ _ D.jz e))) fun o e => s3.extBut _ _ D.mq (s2.extBut _ _ D.mi (s1.extBut _ _ D.mz e))
  refine wpAny_bind (rm hj3 D.mj hy fun g4 j4 s4 => wpAny_pure ?_);have q4 : IsPair g4 q x b := s4.extBut _ _ D.qj q3;refine wpAny_bind (wpAny_seqItems q4 rfl ?_);refine wpAny_bind (wpAny_updateSeq_pair q4 fun g5 q5 s5 => ?_);replace q5 : IsPair g5 q x y := q5;refine wpAny_bind (wpAny_letGo (wpAny_pure (wpAny_pure ?_)));refine wpAny_bind (wpAny_seqItems q5 rfl ?_);refine wpAny_bind (wpAny_newTuple ?_);have hsz : g5.objs.size = s.heap.objs.size := by rw [s5.1, s4.1, s3.1, s2.1, s1.1]
  have z5 : IsZip g5 z p q .ellipsis := s5.extBut _ _ D.qz.symm (s4.extBut _ _ D.jz.symm (s3.extBut _ _ D.qz.symm (s2.extBut _ _ D.iz.symm z1)));have k5 : ∀ c o, c ≠ z -> c ≠ q -> c ≠ i -> c ≠ j -> s.heap.get? c = some o -> g5.get? c = some o := fun c o c1 c2 c3 c4 e => s5.extBut _ _ c2 (s4.extBut _ _ c4 (s3.extBut _ _ c2 (s2.extBut _ _ c3 (s1.extBut _ _ c1 e))))
  have i5 : jR g5 i l (k + 1) xs := i2.keep (fun o e => s5.extBut _ _ D.qi.symm (s4.extBut _ _ D.ij (s3.extBut _ _ D.qi.symm e))) fun o e => s5.extBut _ _ D.lq (s4.extBut _ _ D.lj (s3.extBut _ _ D.lq e))
  have j5 : jR g5 j m (k + 1) ys := j4.keep (fun o e => s5.extBut _ _ D.qj.symm e) fun o e => s5.extBut _ _ D.mq e
  have zlt : z < g5.objs.size := Heap.lt_size z5;show wpAny _ _ (Builtin.SmallTypes.ownedTupleHandOut (Value.ref z) (Value.ref g5.objs.size) >>= _) _ _ _;refine wpAny_bind ?_;unfold Builtin.SmallTypes.ownedTupleHandOut;have z6 : IsZip (g5.push { cls := .type "tuple", data := .seq #[x, y] }) z p q .ellipsis := Heap.get?_push_of_some _ z5;refine wpAny_bind (wpAny_setField_rec z6 (by simp) fun g7 z7 s7 => ?_);replace z7 : IsZip g7 z p q (rawInt g5.objs.size) := z7;refine wpAny_setField_rec z7 (by simp) fun g8 z8 s8 => ?_
  replace z8 : IsZip g8 z p q (rawInt g5.objs.size) := z8;have up : ∀ c o, c ≠ z -> g5.get? c = some o -> g8.get? c = some o := fun c o c1 e => s8.extBut _ _ c1 (s7.extBut _ _ c1 (Heap.get?_push_of_some _ e))
  have t8 : IsPair g8 g5.objs.size x y := s8.extBut _ _ (Nat.ne_of_gt zlt) (s7.extBut _ _ (Nat.ne_of_gt zlt) (Heap.get?_push_size _ rfl));rw [hsz] at z8 t8;refine wpAny_pure ⟨_, rfl, ?_⟩;show Q (.ref g5.objs.size) _;rw [hsz];exact hQ g8 ⟨z8, up _ _ D.pz (k5 _ _ D.pz D.pq D.pi D.pj hp), ⟨x, y, up _ _ D.qz q5⟩, i5.keep (fun o e => up _ _ D.iz e) fun o e => up _ _ D.lz e, j5.keep (fun o e => up _ _ D.jz e) fun o e => up _ _ D.mz e⟩ t8 fun c o c1 c2 c3 c4 e => up c o c1 (k5 c o c1 c2 c3 c4 e)
theorem vK {Q : PySem.Fin -> Shared -> Prop} (hh : A.handled = none) (D : ZA z p q i j l m) (S : u6 s.heap z p q i j l m .none k xs ys) (hend : xs[k]? = none \/ ys[k]? = none)
    (hE : ∀ h' e, (∀ c o, c ≠ z -> c ≠ q -> c ≠ i -> c ≠ j -> s.heap.get? c = some o -> h'.get? c = some o) -> (∃ o, h'.get? e = some o /\ o.cls = .type "StopIteration") -> E (.ref e) { s with heap := h' }) :
    wpAny (model prog w) A (Builtin.«zip.__next__» ⟨[.ref z], []⟩) Q E s := by
  obtain ⟨hz, hp, ⟨a, b, hq⟩, hi, hj⟩ := S;show wpAny _ _ (field (Value.ref z) 2 >>= _) _ _ _;refine wpAny_bind (wpAny_field hz rfl (x := Value.bool false) rfl ?_);show wpAny _ _ (field (Value.ref z) 3 >>= _) _ _ _;refine wpAny_bind (wpAny_field hz rfl (x := Value.ref p) rfl ?_);refine wpAny_bind (wpAny_seqItems hp rfl ?_);show wpAny _ _ (Builtin.SmallTypes.ownedTupleIsFree (Value.ref z) >>= _) _ _ _;refine wpAny_bind ?_;unfold Builtin.SmallTypes.ownedTupleIsFree;refine wpAny_bind (wpAny_field hz rfl (x := Value.none) rfl (wpAny_pure ?_));simp only [if_true];refine wpAny_bind (wpAny_rule ?_);refine wpAny_bind (wpAny_field hz rfl (x := Value.ref q) rfl ?_);refine wpAny_bind (wpAny_setField_rec hz (by simp) fun g1 z1 s1 => ?_);replace z1 : IsZip g1 z p q .ellipsis := z1;refine wpAny_bind ?_;simp only [List.zipIdx_cons, List.zipIdx_nil, List.forIn_cons, List.forIn_nil];refine wpAny_bind (wpAny_bind (wpAny_onRaise ?_));show wpAny _ _ (Builtin.SmallTypes.nextOf (Value.ref i) >>= _) _ _ _;have hi1 : jR g1 i l k xs := hi.keep (fun o e => s1.extBut _ _ D.iz e) fun o e => s1.extBut _ _ D.lz e
  cases hx : xs[k]? with
  | none =>
    refine wpAny_bind (kc hh hi1 hx fun g2 e s2 he => ?_);obtain ⟨oe, hoe, hce⟩ := he;have z2 : IsZip g2 z p q .ellipsis := s2 _ _ D.iz.symm z1;have hez : e ≠ z := fun t => by subst t; rw [z2] at hoe; cases hoe; simp at hce
    exact wpAny_setField_rec z2 (by simp) fun g3 _ s3 => hE g3 e (fun c o c1 _ c3 _ t => s3.extBut _ _ c1 (s2 _ _ c3 (s1.extBut _ _ c1 t))) ⟨oe, s3.extBut _ _ hez hoe, hce⟩
  | some x =>
    have hy : ys[k]? = none := by rcases hend with t | t; rw [hx] at t; cases t; exact t
    refine wpAny_bind (rm hi1 D.li hx fun g2 i2 s2 => wpAny_pure ?_);have q2 : IsPair g2 q a b := s2.extBut _ _ D.qi (s1.extBut _ _ D.qz hq);refine wpAny_bind (wpAny_seqItems q2 rfl ?_);refine wpAny_bind (wpAny_updateSeq_pair q2 fun g3 q3 s3 => ?_);refine wpAny_bind (wpAny_letGo (wpAny_pure ?_));refine wpAny_bind (wpAny_bind (wpAny_onRaise ?_));show wpAny _ _ (Builtin.SmallTypes.nextOf (Value.ref j) >>= _) _ _ _;have hj3 : jR g3 j m k ys := hj.keep (fun o e => s3.extBut _ _ D.qj.symm (s2.extBut _ _ D.ij.symm (s1.extBut _ _ D.jz e))) fun o e => s3.extBut _ _ D.mq (s2.extBut _ _ D.mi (s1.extBut _ _ D.mz e))
    refine wpAny_bind (kc hh hj3 hy fun g4 e s4 he => ?_);obtain ⟨oe, hoe, hce⟩ := he;have z4 : IsZip g4 z p q .ellipsis := s4 _ _ D.jz.symm (s3.extBut _ _ D.qz.symm (s2.extBut _ _ D.iz.symm z1));have hez : e ≠ z := fun t => by subst t; rw [z4] at hoe; cases hoe; simp at hce
    exact wpAny_setField_rec z4 (by simp) fun g5 _ s5 => hE g5 e (fun c o c1 c2 c3 c4 t => s5.extBut _ _ c1 (s4 _ _ c4 (s3.extBut _ _ c2 (s2.extBut _ _ c3 (s1.extBut _ _ c1 t))))) ⟨oe, s5.extBut _ _ hez hoe, hce⟩
theorem pR {x y : Value} {Q : Option Value -> Shared -> Prop} (D : ZA z p q i j l m) (S : u6 s.heap z p q i j l m .none k xs ys) (hx : xs[k]? = some x) (hy : ys[k]? = some y)
    (hQ : ∀ h', u6 h' z p q i j l m (rawInt s.heap.objs.size) (k + 1) xs ys -> IsPair h' s.heap.objs.size x y -> (∀ c o, c ≠ z -> c ≠ q -> c ≠ i -> c ≠ j -> s.heap.get? c = some o -> h'.get? c = some o) -> Q (some (.ref s.heap.objs.size)) { s with heap := h' }) :
    wpAny (model prog w) A (pyNext (.ref z)) Q E s := by
  have hT : s.TypeIs (.ref z) "zip" := ⟨_, S.zz, rfl⟩
  unfold pyNext;exact wpAny_bind (wpAny_attempt (wpAny_callSpecial?_slot (name := Str.ofString "__next__") hT F.slot_zip_next (wpAny_call_entry F.slot_zip_next hT F.entry_zip_next (uz D S hx hy fun h' a b c => wpAny_pure (hQ h' a b c)) (F.args_zip_next_1 _))))
theorem sS {Q : Option Value -> Shared -> Prop} (hh : A.handled = none) (D : ZA z p q i j l m) (S : u6 s.heap z p q i j l m .none k xs ys) (hend : xs[k]? = none \/ ys[k]? = none)
    (hQ : ∀ h', (∀ c o, c ≠ z -> c ≠ q -> c ≠ i -> c ≠ j -> s.heap.get? c = some o -> h'.get? c = some o) -> Q none { s with heap := h' }) : wpAny (model prog w) A (pyNext (.ref z)) Q E s := by
  have hT : s.TypeIs (.ref z) "zip" := ⟨_, S.zz, rfl⟩
  unfold pyNext;refine wpAny_bind (wpAny_attempt (wpAny_callSpecial?_slot (name := Str.ofString "__next__") hT F.slot_zip_next (wpAny_call_entry F.slot_zip_next hT F.entry_zip_next (vK hh D S hend fun h' e hk he => ?_) (F.args_zip_next_1 _))));obtain ⟨o, ho, hc⟩ := he;exact wpAny_bind (wpAny_isInstance (T := "StopIteration") (b := true) ⟨o, ho, hc⟩ isSubtype_stop (wpAny_pure (hQ _ hk)))
theorem v7 (l m : Addr) (xs ys : Array Value) : Meets (Builtin.«zip.__new__» ⟨[.type "zip", .ref l, .ref m], []⟩) (fun _ R s => qM s.heap l xs /\ qM s.heap m ys /\
    ∀ h', h'.objs.size = s.heap.objs.size + 5 -> u6 h' (s.heap.objs.size + 4) (s.heap.objs.size + 2) (s.heap.objs.size + 3) s.heap.objs.size (s.heap.objs.size + 1) l m .none 0 xs ys -> (∀ c o, s.heap.get? c = some o -> h'.get? c = some o) ->
      R (.ok (.ret (.ref (s.heap.objs.size + 4)))) { s with heap := h' }) :=
  .of_wp fun prog w A R s h => by
    obtain ⟨hp, g, d, tk, os⟩ := s; obtain ⟨h1, h2, h⟩ := h;have hsub := sub_zip;have fin : ∀ (oi oj : Obj), jR (hp.push oi) hp.objs.size l 0 xs -> jR ((hp.push oi).push oj) (hp.push oi).objs.size m 0 ys ->
        R (.ok (.ret (.ref ((((hp.push oi).push oj).push { cls := .type "tuple", data := .seq #[.ref hp.objs.size, .ref (hp.push oi).objs.size] }).push { cls := .type "tuple", data := .seq #[.none, .none] }).objs.size)))
          ⟨((((hp.push oi).push oj).push { cls := .type "tuple", data := .seq #[.ref hp.objs.size, .ref (hp.push oi).objs.size] }).push { cls := .type "tuple", data := .seq #[.none, .none] }).push { cls := .type "zip", data := .fields #[.none, .bool false, .bool false, .ref ((hp.push oi).push oj).objs.size, .ref (((hp.push oi).push oj).push { cls := .type "tuple", data := .seq #[.ref hp.objs.size, .ref (hp.push oi).objs.size] }).objs.size] }, g, d, tk, os⟩ := fun oi oj hi hj => by
      have e1 : (hp.push oi).objs.size = hp.objs.size + 1 := Heap.size_push ..;have e2 : ((hp.push oi).push oj).objs.size = hp.objs.size + 2 := by rw [Heap.size_push, e1]
      have e3 : (((hp.push oi).push oj).push { cls := .type "tuple", data := .seq #[.ref hp.objs.size, .ref (hp.push oi).objs.size] }).objs.size = hp.objs.size + 3 := by rw [Heap.size_push, e2]
      have e4 : ((((hp.push oi).push oj).push { cls := .type "tuple", data := .seq #[.ref hp.objs.size, .ref (hp.push oi).objs.size] }).push { cls := .type "tuple", data := .seq #[.none, .none] }).objs.size = hp.objs.size + 4 := by rw [Heap.size_push, e3]
      rw [e4, e3, e2];rw [e1] at hj ⊢;have kk : ∀ (c : Addr) (o a b c' : Obj), ((hp.push oi).push oj).get? c = some o -> (((((hp.push oi).push oj).push a).push b).push c').get? c = some o := fun c o a b c' e => Heap.get?_push_of_some _ (Heap.get?_push_of_some _ (Heap.get?_push_of_some _ e))
      refine h _ (by rw [Heap.size_push, Heap.size_push, Heap.size_push, e2]) ⟨?_, ?_, ⟨.none, .none, ?_⟩, ?_, ?_⟩ fun c o e => kk _ _ _ _ _ (Heap.get?_push_of_some _ (Heap.get?_push_of_some _ e))
      · have : hp.objs.size + 4 = ((((hp.push oi).push oj).push { cls := .type "tuple", data := .seq #[.ref hp.objs.size, .ref (hp.objs.size + 1)] }).push { cls := .type "tuple", data := .seq #[.none, .none] }).objs.size := by rw [Heap.size_push, Heap.size_push, e2]
        show Heap.get? _ (hp.objs.size + 4) = _;rw [this];exact Heap.get?_push_size _ rfl
      · refine Heap.get?_push_of_some _ (Heap.get?_push_of_some _ ?_);show Heap.get? _ (hp.objs.size + 2) = _;rw [<- e2];exact Heap.get?_push_size _ rfl
      · refine Heap.get?_push_of_some _ ?_;have : hp.objs.size + 3 = (((hp.push oi).push oj).push { cls := .type "tuple", data := .seq #[.ref hp.objs.size, .ref (hp.objs.size + 1)] }).objs.size := by rw [Heap.size_push, e2]
        show Heap.get? _ (hp.objs.size + 3) = _;rw [this];exact Heap.get?_push_size _ rfl
      · exact hi.keep (fun o e => kk _ _ _ _ _ (Heap.get?_push_of_some _ e)) fun o e => kk _ _ _ _ _ (Heap.get?_push_of_some _ e)
      · exact hj.keep (fun o e => kk _ _ _ _ _ e) fun o e => kk _ _ _ _ _ e
    rcases h1 with h1 | h1 <;> rcases h2 with h2 | h2
    · have l1 : Heap.IsList (Shared.heap ⟨hp, g, d, tk, os⟩) l xs := h1;have l2 : Heap.IsList (Shared.heap ⟨hp.push { cls := .type "list_iterator", data := .fields #[.ref l, .int 0 0] }, g, d, tk, os⟩) m ys := Heap.IsList.push h2 _
      wp_walk using wpAny_pyIter_list l1, wpAny_pyIter_list l2
      exact ⟨_, rfl, fin _ _ (.inl ⟨⟨_, Heap.get?_push_size _ rfl, rfl, rfl⟩, Heap.IsList.push h1 _⟩) (.inl ⟨⟨_, Heap.get?_push_size _ rfl, rfl, rfl⟩, Heap.IsList.push l2 _⟩)⟩
    · have l1 : Heap.IsList (Shared.heap ⟨hp, g, d, tk, os⟩) l xs := h1;have l2 : Heap.IsTuple (Shared.heap ⟨hp.push { cls := .type "list_iterator", data := .fields #[.ref l, .int 0 0] }, g, d, tk, os⟩) m ys := Heap.IsTuple.push h2 _
      wp_walk using wpAny_pyIter_list l1, wpAny_pyIter_tuple l2
      exact ⟨_, rfl, fin _ _ (.inl ⟨⟨_, Heap.get?_push_size _ rfl, rfl, rfl⟩, Heap.IsList.push h1 _⟩) (.inr ⟨⟨_, Heap.get?_push_size _ rfl, rfl, rfl⟩, Heap.IsTuple.push l2 _⟩)⟩
    · have l1 : Heap.IsTuple (Shared.heap ⟨hp, g, d, tk, os⟩) l xs := h1;have l2 : Heap.IsList (Shared.heap ⟨hp.push { cls := .type "tuple_iterator", data := .fields #[.ref l, .int 0 0] }, g, d, tk, os⟩) m ys := Heap.IsList.push h2 _
      wp_walk using wpAny_pyIter_tuple l1, wpAny_pyIter_list l2
      exact ⟨_, rfl, fin _ _ (.inr ⟨⟨_, Heap.get?_push_size _ rfl, rfl, rfl⟩, Heap.IsTuple.push h1 _⟩) (.inl ⟨⟨_, Heap.get?_push_size _ rfl, rfl, rfl⟩, Heap.IsList.push l2 _⟩)⟩
    · have l1 : Heap.IsTuple (Shared.heap ⟨hp, g, d, tk, os⟩) l xs := h1;have l2 : Heap.IsTuple (Shared.heap ⟨hp.push { cls := .type "tuple_iterator", data := .fields #[.ref l, .int 0 0] }, g, d, tk, os⟩) m ys := Heap.IsTuple.push h2 _
      wp_walk using wpAny_pyIter_tuple l1, wpAny_pyIter_tuple l2
      exact ⟨_, rfl, fin _ _ (.inr ⟨⟨_, Heap.get?_push_size _ rfl, rfl, rfl⟩, Heap.IsTuple.push h1 _⟩) (.inr ⟨⟨_, Heap.get?_push_size _ rfl, rfl, rfl⟩, Heap.IsTuple.push l2 _⟩)⟩
theorem um {Q : Value -> Shared -> Prop} {l m : Addr} (h1 : qM s.heap l xs) (h2 : qM s.heap m ys)
    (h : ∀ h', h'.objs.size = s.heap.objs.size + 5 -> u6 h' (s.heap.objs.size + 4) (s.heap.objs.size + 2) (s.heap.objs.size + 3) s.heap.objs.size (s.heap.objs.size + 1) l m .none 0 xs ys -> (∀ c o, s.heap.get? c = some o -> h'.get? c = some o) ->
      Q (.ref (s.heap.objs.size + 4)) { s with heap := h' }) : wpAny (model prog w) A (call (.type "zip") [.ref l, .ref m]) Q E s := by
  refine callType_new F.called_zip (by decide) (F.typeCall_zip_2 _ _) (F.newCall_zip_2 _ _) (fun obj => F.args_object_init_3 obj _ _) F.entry_zip_new (v7 l m xs ys) ⟨h1, h2, fun h' e S k => ?_⟩;exact ⟨⟨_, S.zz, rfl⟩, h h' e S k⟩
end
section
variable {X : Cx} {pins : List (Addr × Obj)} {σ : St} {H : Hp} {s : Shared} {h' : Heap}
theorem ia {t' : Nat} {fp : List Addr} (I : aE X pins σ H s) (k : ∀ b o, b ∉ fp -> s.heap.get? b = some o -> h'.get? b = some o) (hf : ∀ b ∈ fp, kG X pins H b) : aE X pins σ H { s with heap := h', toks := t' } := by
  have away : ∀ b u, H b = some u -> b ∉ fp := fun b u e z => by rw [(hf b z).1] at e; cases e
  have frame : X.env.locals ∉ fp := fun z => (hf _ z).2.1 rfl
  refine I.step (g' := s.gens) (d' := s.drawn) (ch := fp) (fun b hb => ⟨(hf b hb).2.2.2.1, (hf b hb).2.1, (hf b hb).2.2.2.2.1, (hf b hb).2.2.2.2.2⟩) (fun b o _ _ hc e _ => k b o hc e) (fun b o _ _ hc e _ => ⟨o.slots, k b o hc e⟩) (fun _ _ _ _ n => n)
    (fun b o hc e => ⟨o, k b o hc e⟩) (fun _ _ e => e) (fun _ _ _ e => e) (fun b ps e => ⟨#[], by rw [e]; simp⟩) (fun m ⟨o, es, ep, ho, r⟩ => ⟨o, es, ep, k _ o frame ho, r⟩) (fun b u e => ?_) I.bare
  refine (I.hok b u e).stay (fun c v hc q => k c v ?_ q) (fun _ q => q) fun _ _ q => q
  rcases hc with z | z
  · rw [z]; exact away b u e
  · exact away c _ z
theorem tz {h : Heap} {o o' : Obj} {b : Addr} (hb : b ≠ h.objs.size) (e : (h.push o).get? b = some o') : h.get? b = some o' := by
  unfold Heap.get? Heap.push at e;unfold Heap.get?;simp only [Array.getElem?_push] at e;rw [if_neg hb] at e;exact e
theorem rn {t' : Nat} {fp : List Addr} {u1 u2 : Value} {v1 v2 : V} (I : aE X pins σ H s) (hf : ∀ b ∈ fp, kG X pins H b) (hob : ∀ b ∈ fp, b < s.heap.objs.size) (ht : IsPair h' s.heap.objs.size u1 u2) (k : ∀ b o, b ∉ fp -> s.heap.get? b = some o -> h'.get? b = some o)
    (r1 : bx v1 u1) (r2 : bx v2 u2) : aE X pins σ (cW H s.heap.objs.size (.tup [v1, v2])) { s with heap := h', toks := t' } := by
  have I1 : aE X pins σ (cW H s.heap.objs.size (.tup [v1, v2])) { s with heap := s.heap.push { cls := .type "tuple", data := .seq #[u1, u2] }, toks := s.toks } :=
    I.laid (fun b u e => Heap.get?_push_of_some _ e) (Nat.le_refl _) ⟨by show 2 <= sizeLine; decide, [u1, u2], .cons r1 (.cons r2 .nil), _, Heap.get?_push_size _ rfl, rfl, _, rfl⟩
  refine ia (fp := fp) (s := { s with heap := s.heap.push { cls := .type "tuple", data := .seq #[u1, u2] }, toks := s.toks }) I1 (fun b o hb e => ?_) fun b hb => ?_
  · by_cases hz : b = s.heap.objs.size
    · subst hz;have e' : (s.heap.push { cls := .type "tuple", data := .seq #[u1, u2] }).get? s.heap.objs.size = some o := e;rw [Heap.get?_push_size _ rfl] at e';cases e';exact ht
    · exact k b o hb (tz hz e)
  · obtain ⟨f0, f1, f2, f3, f4, f5⟩ := hf b hb;exact ⟨by rw [aI (Nat.ne_of_lt (hob b hb))]; exact f0, f1, f2, f3, f4, f5⟩
end
def oP (K : PySem.W.Frag) (H : Hp) (a : Addr) (xs : List V) : Bool -> Prop
  | true => ge K H a xs
  | false => kD K H a xs
def eJ (h : Heap) (i l : Addr) (k : Nat) : Bool -> Prop
  | true => h.IsTupleIter i l k
  | false => h.IsListIter i l k
theorem eJ.keep {h h' : Heap} {i l : Addr} {k : Nat} {b : Bool} (x : eJ h i l k b) (hi : ∀ o, h.get? i = some o -> h'.get? i = some o) : eJ h' i l k b := by
  cases b
  · obtain ⟨o, e, r⟩ := x; exact ⟨o, hi _ e, r⟩
  · obtain ⟨o, e, r⟩ := x; exact ⟨o, hi _ e, r⟩
theorem eJ.there {h : Heap} {i l : Addr} {k : Nat} {b : Bool} (x : eJ h i l k b) : ∃ o, h.get? i = some o /\ ∀ v, o.data ≠ .cell v := by
  cases b
  · obtain ⟨o, e, c, d⟩ := x; exact ⟨o, e, fun v z => by rw [d] at z; cases z⟩
  · obtain ⟨o, e, c, d⟩ := x; exact ⟨o, e, fun v z => by rw [d] at z; cases z⟩
section
variable {X : Cx} {pins : List (Addr × Obj)} {σ : St} {H : Hp} {s : Shared}
theorem gu {a : Addr} {xs : List V} {b : Bool} (I : aE X pins σ H s) (h : oP X.K H a xs b) : ∃ its : List Value, bq xs its /\ qM s.heap a its.toArray /\ ∀ (i : Addr) (k : Nat), eJ s.heap i a k b -> jR s.heap i a k its.toArray := by
  cases b
  · obtain ⟨its, rv, p, _⟩ := I.list h;exact ⟨its, rv, .inl p.isList, fun i k z => .inl ⟨z, p.isList⟩⟩
  · obtain ⟨its, rv, p, _⟩ := I.tuple h;exact ⟨its, rv, .inr p, fun i k z => .inr ⟨z, p⟩⟩
theorem i6 {a : Addr} {xs ys : List V} {b : Bool} (I : aE X pins σ H s) (h : oP X.K H a xs b) (h' : oP X.K H a ys b) : ys = xs := by
  cases b
  · exact I.list_inj h' h
  · exact I.tuple_inj h' h
theorem jR.toB {h : Heap} {i l : Addr} {k : Nat} {xs : Array Value} {b : Bool} (hl : ∀ ys, (b = true -> ¬ h.IsList l ys) /\ (b = false -> ¬ h.IsTuple l ys)) (x : jR h i l k xs) : eJ h i l k b := by
  cases b
  · rcases x with ⟨z, w⟩ | ⟨z, w⟩
    · exact z
    · exact absurd w ((hl xs).2 rfl)
  · rcases x with ⟨z, w⟩ | ⟨z, w⟩
    · exact absurd w ((hl xs).1 rfl)
    · exact z
theorem cS {h : Heap} {l : Addr} {xs ys : Array Value} (a : h.IsList l xs) (b : h.IsTuple l ys) : False := by
  obtain ⟨o, e, c, _⟩ := a;obtain ⟨o', e', c', _⟩ := b;rw [e] at e'; cases e';rw [c] at c';injection c' with z
  exact absurd z (by decide)
theorem l7 {a : Addr} {xs : List V} {b : Bool} (I : aE X pins σ H s) (h : oP X.K H a xs b) {h' : Heap} (kp : ∀ c o, s.heap.get? c = some o -> h'.get? c = some o) : ∀ ys, (b = true -> ¬ h'.IsList a ys) /\ (b = false -> ¬ h'.IsTuple a ys) := fun ys => by
  cases b
  · obtain ⟨its, rv, p, _⟩ := I.list h;refine ⟨fun z => (by cases z), fun _ w => ?_⟩;obtain ⟨o, e, r⟩ := p.isList;exact cS (h := h') (xs := its.toArray) ⟨o, kp _ _ e, r⟩ w
  · obtain ⟨its, rv, p, _⟩ := I.tuple h;refine ⟨fun _ w => ?_, fun z => by cases z⟩;obtain ⟨o, e, r⟩ := p;exact cS (h := h') w ⟨o, kp _ _ e, r⟩
end
def Ad (K : PySem.W.Frag) (l m : Addr) (b c : Bool) : It :=
  ⟨fun i H => ∃ xs ys x y, oP K H l xs b /\ oP K H m ys c /\ xs[i]? = some x /\ ys[i]? = some y,
   fun i H v H' => ∃ a x y, H a = none /\ v = .ref a /\ H' = cW H a (.tup [x, y]) /\ (∀ xs, oP K H l xs b -> xs[i]? = some x) /\ ∀ ys, oP K H m ys c -> ys[i]? = some y,
   fun i H => ∃ xs ys, oP K H l xs b /\ oP K H m ys c /\ (xs.length <= i \/ ys.length <= i)⟩
structure A2 (z p q i j l m : Addr) (b c : Bool) (k : Nat) (h : Heap) : Prop where
  zz : IsZip h z p q .none
  pp : IsPair h p (.ref i) (.ref j)
  qq : ∃ a b, IsPair h q a b
  ii : eJ h i l k b
  jj : eJ h j m k c
theorem tV {P : Program} {w : World} {K : PySem.W.Frag} {elts : List Expr} {x1} {pos : Pos} {z p q i j l m : Addr} {b c : Bool} (D : ZA z p q i j l m) : pT P w K (.Tuple elts x1 pos) (Ad K l m b c) [z, p, q, i, j] z (A2 z p q i j l m b c) where
  mem := by simp
  obj := fun k h st a ha => by
    simp only [List.mem_cons, List.not_mem_nil, or_false] at ha;rcases ha with rfl | rfl | rfl | rfl | rfl
    · exact ⟨_, st.zz, fun v e => by cases e⟩
    · exact ⟨_, st.pp, fun v e => by cases e⟩
    · obtain ⟨_, _, e⟩ := st.qq; exact ⟨_, e, fun v e => by cases e⟩
    · exact st.ii.there
    · exact st.jj.there
  keep := fun k h h' st kp => ⟨kp z (by simp) _ st.zz, kp p (by simp) _ st.pp, let ⟨a, b, e⟩ := st.qq; ⟨a, b, kp q (by simp) _ e⟩, st.ii.keep fun o e => kp i (by simp) o e, st.jj.keep fun o e => kp j (by simp) o e⟩
  item := by
    intro X hP hw hK hc k pins s σ H E I hf st hg;subst hP hw hK;obtain ⟨xs, ys, x, y, h1, h2, hx, hy⟩ := hg;obtain ⟨its, rv, _, p1⟩ := gu I h1;obtain ⟨jts, rw', _, p2⟩ := gu I h2;obtain ⟨u, hu, ru⟩ := rv.get hx;obtain ⟨v, hv, ry⟩ := rw'.get hy;have S : u6 s.heap z p q i j l m .none k its.toArray jts.toArray := ⟨st.zz, st.pp, st.qq, p1 _ _ st.ii, p2 _ _ st.jj⟩
    refine pR D S (x := u) (y := v) (by simpa using hu) (by simpa using hv) fun h' S' hp kp => ⟨_, rfl, ?_⟩
    have zlt : z < s.heap.objs.size := Heap.lt_size st.zz;refine wpAny_letOwnedTupleGo_zip (s := { s with heap := h' }) S'.zz fun h2' hz2 sb => ?_
    have up : ∀ a o, a ≠ z -> h'.get? a = some o -> h2'.get? a = some o := fun a o ha e => sb.extBut a o ha e
    have hob : ∀ a ∈ [z, p, q, i, j], a < s.heap.objs.size := fun a ha => by
      simp only [List.mem_cons, List.not_mem_nil, or_false] at ha;rcases ha with rfl | rfl | rfl | rfl | rfl
      · exact Heap.lt_size st.zz
      · exact Heap.lt_size st.pp
      · obtain ⟨_, _, e⟩ := st.qq; exact Heap.lt_size e
      · obtain ⟨o, e, _⟩ := st.ii.there; exact Heap.lt_size e
      · obtain ⟨o, e, _⟩ := st.jj.there; exact Heap.lt_size e
    have hn : H s.heap.objs.size = none := I.hok.fresh (Nat.le_refl _);refine ⟨.ref s.heap.objs.size, _, rn (s := s) (t' := s.toks) (fp := [z, p, q, i, j]) (h' := h2') (u1 := u) (u2 := v) (v1 := x) (v2 := y) I hf hob (up _ _ (Nat.ne_of_gt zlt) hp) (fun a o ha e => ?_) ru ry, rfl, ⟨_, x, y, hn, rfl, rfl, fun zs hz => by rw [i6 I h1 hz]; exact hx, fun zs hz => by rw [i6 I h2 hz]; exact hy⟩, ?_, fun a ha => ?_⟩
    · simp only [List.mem_cons, List.not_mem_nil, or_false, not_or] at ha;exact up a o ha.1 (kp a o ha.1 ha.2.2.1 ha.2.2.2.1 ha.2.2.2.2 e)
    · have i2 : eJ h' i l (k + 1) b := by
        refine S'.ii.toB fun ys => ?_
        cases hb : b
        · subst hb;refine ⟨fun z => (by cases z), fun _ w => ?_⟩;obtain ⟨_, _, pl, _⟩ := I.list h1;obtain ⟨o, e, r⟩ := pl.isList;exact cS (h := h') (xs := _) ⟨o, kp _ _ D.lz D.lq D.li D.lj e, r⟩ w
        · subst hb;refine ⟨fun _ w => ?_, fun z => by cases z⟩;obtain ⟨_, _, pl, _⟩ := I.tuple h1;obtain ⟨o, e, r⟩ := pl;exact cS (h := h') w ⟨o, kp _ _ D.lz D.lq D.li D.lj e, r⟩
      have j2 : eJ h' j m (k + 1) c := by
        refine S'.jj.toB fun ys => ?_
        cases hb : c
        · subst hb;refine ⟨fun z => (by cases z), fun _ w => ?_⟩;obtain ⟨_, _, pl, _⟩ := I.list h2;obtain ⟨o, e, r⟩ := pl.isList;exact cS (h := h') (xs := _) ⟨o, kp _ _ D.mz D.mq D.mi D.mj e, r⟩ w
        · subst hb;refine ⟨fun _ w => ?_, fun z => by cases z⟩;obtain ⟨_, _, pl, _⟩ := I.tuple h2;obtain ⟨o, e, r⟩ := pl;exact cS (h := h') w ⟨o, kp _ _ D.mz D.mq D.mi D.mj e, r⟩
      exact ⟨hz2, up _ _ D.pz S'.pp, let ⟨a, b, e⟩ := S'.qq; ⟨a, b, up _ _ D.qz e⟩, i2.keep fun o e => up _ _ D.iz e, j2.keep fun o e => up _ _ D.jz e⟩
    · rw [aI (Nat.ne_of_lt (hob a ha))]; exact (hf a ha).1
  done := by
    intro X hP hw hK hc k pins s σ H E I hf st hg;subst hP hw hK;obtain ⟨xs, ys, h1, h2, hl⟩ := hg;obtain ⟨its, rv, _, p1⟩ := gu I h1;obtain ⟨jts, rw', _, p2⟩ := gu I h2;have S : u6 s.heap z p q i j l m .none k its.toArray jts.toArray := ⟨st.zz, st.pp, st.qq, p1 _ _ st.ii, p2 _ _ st.jj⟩
    have e1 := rv.length;have e2 := rw'.length;refine sS (I.ok.hd hc) D S ?_ fun h' kp => ⟨rfl, ia (t' := s.toks) (fp := [z, p, q, i, j]) I (fun a o ha e => ?_) hf⟩
    · rcases hl with hl | hl
      · left; simp; omega
      · right; simp; omega
    · simp only [List.mem_cons, List.not_mem_nil, or_false, not_or] at ha;exact kp a o ha.1 ha.2.2.1 ha.2.2.2.1 ha.2.2.2.2 e
  self := fun _ _ _ _ _ st h => wpAny_pyIter_zip st.zz h
def ww (H : Hp) (a : Addr) (ds : List PyData) : Bool -> Prop
  | true => ∃ vs, H a = some (.tup vs) /\ bo H ds vs
  | false => ∃ o vs, H a = some (.frz o (.lst vs)) /\ bo H ds vs
theorem ww.sq {K : PySem.W.Frag} {H : Hp} {a : Addr} {ds : List PyData} {b : Bool} (h : ww H a ds b) : ∃ vs, oP K H a vs b /\ bo H ds vs := by
  cases b
  · obtain ⟨o, vs, e, r⟩ := h; exact ⟨vs, .inl (.inr ⟨o, e⟩), r⟩
  · obtain ⟨vs, e, r⟩ := h; exact ⟨vs, ge.of e, r⟩
theorem ww.kp {H H' : Hp} {a : Addr} {ds : List PyData} {b : Bool} (h : ww H a ds b) (k : Kp H H') : ww H' a ds b := by
  cases b
  · obtain ⟨o, vs, e, r⟩ := h; exact ⟨o, vs, k.2 _ _ _ e, bo.kp k _ _ r⟩
  · obtain ⟨vs, e, r⟩ := h; exact ⟨vs, k.1 _ _ e, bo.kp k _ _ r⟩
def zh (p : PyData × PyData) : PyData := .tuple [p.1, p.2]
def eW (xs ys : List PyData) : List PyData := (xs.zip ys).map zh
theorem tJ {xs ys : List PyData} {i : Nat} {d : PyData} (h : (eW xs ys)[i]? = some d) : ∃ x y, xs[i]? = some x /\ ys[i]? = some y /\ d = .tuple [x, y] := by
  unfold eW at h;rw [List.getElem?_map] at h;cases e : (xs.zip ys)[i]? with
  | none => rw [e] at h; cases h
  | some p =>
    rw [e] at h;obtain ⟨h1, h2⟩ := List.getElem?_zip_eq_some.mp e;exact ⟨p.1, p.2, h1, h2, (Option.some.inj h).symm⟩
theorem hJ (xs ys : List PyData) : (eW xs ys).length = min xs.length ys.length := by unfold eW; simp
theorem vy {K : PySem.W.Frag} {l m : Addr} {b c : Bool} {xs ys : List PyData} : wz (Ad K l m b c) (fun H => ww H l xs b /\ ww H m ys c) (eW xs ys) where
  go := fun i H ⟨h1, h2⟩ hi => by
    rw [hJ] at hi;obtain ⟨vs, s1, r1⟩ := h1.sq (K := K);obtain ⟨us, s2, r2⟩ := h2.sq (K := K);obtain ⟨x, hx, _⟩ := r1.get (List.getElem?_eq_getElem (show i < xs.length by omega));obtain ⟨y, hy, _⟩ := r2.get (List.getElem?_eq_getElem (show i < ys.length by omega));exact ⟨vs, us, x, y, s1, s2, hx, hy⟩
  yld := fun i H v H' d ⟨h1, h2⟩ hd h => by
    obtain ⟨a, x, y, ha, rfl, rfl, k1, k2⟩ := h;obtain ⟨vs, s1, r1⟩ := h1.sq (K := K);obtain ⟨us, s2, r2⟩ := h2.sq (K := K);obtain ⟨dx, dy, e1, e2, rfl⟩ := tJ hd;obtain ⟨x', hx, px⟩ := r1.get e1;obtain ⟨y', hy, py⟩ := r2.get e2;have q1 := k1 vs s1;have q2 := k2 us s2;rw [hx] at q1; rw [hy] at q2;cases q1; cases q2;exact ⟨bD ha _, cR ha (bo.cons px (bo.cons py bo.nil))⟩
  stop := fun i H ⟨h1, h2⟩ hi => by
    rw [hJ] at hi;obtain ⟨vs, s1, r1⟩ := h1.sq (K := K);obtain ⟨us, s2, r2⟩ := h2.sq (K := K);have l1 := r1.length;have l2 := r2.length;exact ⟨vs, us, s1, s2, by omega⟩
theorem xF {n l m : Nat} (hl : l < n) (hm : m < n) : ZA (n + 4) (n + 2) (n + 3) n (n + 1) l m := by
  refine ⟨?_, ?_, ?_, ?_, ?_, ?_, ?_, ?_, ?_, ?_, ?_, ?_, ?_, ?_, ?_, ?_, ?_, ?_⟩ <;> (intro z; have z' : (_ : Nat) = _ := z; omega)
section
variable {X : Cx} {elts : List Expr} {x1 : Nat} {tp : Pos} {a b : Expr} {fa fb : Fe} {pos p : Pos} {nl : Nat} {G : List Str} {fs : aH -> R (List PyData)}
def A1 (K : PySem.W.Frag) (ta : TA) : TI := fun σ H R => ta σ H fun vs H1 => ∃ l m xs ys b c, vs = [.ref l, .ref m] /\ oP K H1 l xs b /\ oP K H1 m ys c /\ R (Ad K l m b c) H1
theorem xq {ta : TA} (hg : Gl X "zip") (hm : X.mg "zip" = none) (ha : PA X [a, b] ta) (hs : starEach [a, b] X.env = [(false, eval a X.env), (false, eval b X.env)]) (hs2 : starEach [b] X.env = [(false, eval b X.env)]) :
    PI X (.Tuple elts x1 tp) (.Call (.Name "zip" p) [a, b] [] pos) (A1 X.K ta) := by
  intro pins s σ H R I h;refine Call_ (jV I hg hm boot_zip (PyProof.Rows.callWith_type1 (cV (ha pos pins s σ H _ I h) fun us s1 ⟨vs, H1, I1, r1, q1⟩ => ?_) (by rw [hs, hs2]) (by rw [hs2]; rfl)));obtain ⟨l, m, xs, ys, b, c, e, h1, h2, q⟩ := q1;subst e;obtain ⟨u, v, rfl, ru, rv⟩ := oZ r1;cases ru;cases rv;obtain ⟨its, w1, p1, g1⟩ := gu I1 h1;obtain ⟨jts, w2, p2, g2⟩ := gu I1 h2;have ll : l < s1.heap.objs.size := by rcases p1 with ⟨o, e, _⟩ | ⟨o, e, _⟩ <;> exact Heap.lt_size e
  have lm : m < s1.heap.objs.size := by rcases p2 with ⟨o, e, _⟩ | ⟨o, e, _⟩ <;> exact Heap.lt_size e
  refine um p1 p2 fun h' hz S kp => wpAny_pyIter_zip S.zz ?_
  have D := xF ll lm;have I2 : aE X pins σ H1 { s1 with heap := h' } := I1.kept (t' := s1.toks) kp;have i2 : eJ h' s1.heap.objs.size l 0 b := S.ii.toB (l7 I1 h1 kp);have j2 : eJ h' (s1.heap.objs.size + 1) m 0 c := S.jj.toB (l7 I1 h2 kp);refine ⟨_, [s1.heap.objs.size + 4, s1.heap.objs.size + 2, s1.heap.objs.size + 3, s1.heap.objs.size, s1.heap.objs.size + 1], _, _, H1, rfl, I2, tV (b := b) (c := c) D, ⟨S.zz, S.pp, S.qq, i2, j2⟩, fun a ha => ?_, q⟩;have hle : s1.heap.objs.size <= a := by
    simp only [List.mem_cons, List.not_mem_nil, or_false] at ha;rcases ha with rfl | rfl | rfl | rfl | rfl
    · exact Nat.le_add_right _ 4
    · exact Nat.le_add_right _ 2
    · exact Nat.le_add_right _ 3
    · exact Nat.le_refl _
    · exact Nat.le_add_right _ 1
  exact I1.fpOk hle (I1.hok.fresh hle)
def oV (fa fb : Fe) : aH -> R (List PyData) := fun ρ => fa ρ >>= fun x => fb ρ >>= fun y => gL x >>= fun xs => gL y >>= fun ys => .ok (eW xs ys)
theorem qb {H : Hp} {d : PyData} {v : V} {ds : List PyData} (h : Rp H d v) (e : gL d = .ok ds) : ∃ a b, v = .ref a /\ ww H a ds b := by
  cases d with
  | list xs =>
    cases e;simp only [Rp] at h;obtain ⟨a, o, vs, rfl, h, r⟩ := h;exact ⟨a, false, rfl, o, vs, h, r⟩
  | tuple xs =>
    cases e;simp only [Rp] at h;obtain ⟨a, vs, rfl, h, r⟩ := h;exact ⟨a, true, rfl, vs, h, r⟩
  | _ => cases e
theorem lb (T : Tb X nl G) (j : Nat) (hG : G[j]? = some ("zip" : Str)) (hm : X.mg "zip" = none) (ha : ah X a fa) (hb : ah X b fb) (h1 : am a = true := by rfl) (h2 : am b = true := by rfl) :
    mF X (.Tuple elts x1 tp) (.Call (.Name "zip" p) [a, b] [] pos) (oV fa fb) := by
  have g := T.gl _ (List.mem_of_getElem? hG);refine PI.imp (xq g.1 hm (ad ha (ad hb aq h2) h1) (by rw [bc h1, bc h2]; rfl) (by rw [bc h2]; rfl)) fun σ H Rk h => ?_
  obtain ⟨ρ, sl, q⟩ := h;unfold oV at q;refine ⟨ρ, sl, ?_⟩;unfold ae aA;cases e1 : fa ρ with
  | ex c => rw [e1] at q; exact q
  | no => rw [e1] at q; exact q
  | ok x =>
    rw [e1] at q;simp only [R.ok_bind] at q ⊢;cases e2 : fb ρ with
    | ex c => rw [e2] at q; exact q
    | no => rw [e2] at q; exact q
    | ok y =>
      rw [e2] at q;simp only [R.ok_bind] at q ⊢;cases e3 : gL x with
      | ex c => exact absurd e3 (by cases x <;> simp [gL])
      | no => rw [e3] at q; exact q.elim
      | ok xs =>
        rw [e3] at q;simp only [R.ok_bind] at q;cases e4 : gL y with
        | ex c => exact absurd e4 (by cases y <;> simp [gL])
        | no => rw [e4] at q; exact q.elim
        | ok ys =>
          rw [e4] at q;simp only [R.ok_bind] at q;intro vs H1 s1 ra;simp only [RA] at ra;obtain ⟨v, r', rfl, p1, v', r'', rfl, p2, rfl⟩ := ra;obtain ⟨l, b1, rfl, d1⟩ := qb p1 e3;obtain ⟨m, b2, rfl, d2⟩ := qb p2 e4;obtain ⟨us, u1, _⟩ := d1.sq (K := X.K);obtain ⟨ws, u2, _⟩ := d2.sq (K := X.K);exact ⟨l, m, us, ws, b1, b2, rfl, u1, u2, q _ H1 s1 ⟨_, vy, fun H2 k _ => ⟨d1.kp k, d2.kp k⟩⟩⟩
theorem Z.lb (T : Tb X nl G) (j : Nat) (hG : G[j]? = some ("zip" : Str)) (hm : X.mg "zip" = none) (ha : Z.ah X a fa) (hb : Z.ah X b fb) (h1 : am a = true := by rfl) (h2 : am b = true := by rfl) : Z.mF X (.Tuple elts x1 tp) (.Call (.Name "zip" p) [a, b] [] pos) (oV fa fb) :=
  ⟨D2.lb T j hG hm ha.un hb.un h1 h2⟩
end
def bZ (i j : Nat) : PyData -> aH -> Option aH
  | .tuple [x, y], ρ => some ((ρ.set i (.val x)).set j (.val y))
  | _, _ => none
section
variable {X : Cx} {nl : Nat} {G : List Str} {x y : Str} {k : Nat} {p1 p2 pos : Pos}
theorem eK (T : Tb X nl G) (i j : Nat) (hi : (X.N.take nl)[i]? = some x) (hj : (X.N.take nl)[j]? = some y) : oJ X (.Tuple [.Name x p1, .Name y p2] k pos) (bZ i j) := by
  obtain ⟨i1, i2, i3⟩ := T.nm hi;obtain ⟨j1, j2, j3⟩ := T.nm hj;refine PG.imp (xD T.calm (pN (nO T.nd i1 i2 i3) (pN (nO T.nd j1 j2 j3) vb))) fun v σ H Q ⟨ρ, d, sl, p, q⟩ => ?_
  unfold bZ at q;split at q
  · rename_i e;split at e
    · rename_i ρ0 dx dy;cases e;simp only [Rp] at p;obtain ⟨a, vs, rfl, ha, r⟩ := p;obtain ⟨u, r1, rfl, pu, r⟩ := r.cons_inv;obtain ⟨w, r2, rfl, pw, r⟩ := r.cons_inv;rw [r.nil_inv] at ha;refine ⟨a, [u, w], rfl, ge.of ha, rfl, u, [w], rfl, w, [], rfl, rfl, ?_⟩;refine q _ (Sl.set (c := .val dy) (o := some w) (Sl.set (c := .val dx) (o := some u) sl i ⟨u, rfl, pu⟩) j ⟨w, rfl, pw⟩) fun n e h => ?_
      obtain ⟨n1, h⟩ := bU (fun e z => by cases z) h;obtain ⟨n2, h⟩ := bU (fun e z => by cases z) h;exact ⟨h, by rw [List.getElem?_set, if_neg n1, List.getElem?_set, if_neg n2]⟩
    · cases e
  · exact q.elim
theorem Z.eK (T : Tb X nl G) (i j : Nat) (hi : (X.N.take nl)[i]? = some x) (hj : (X.N.take nl)[j]? = some y) : Z.oJ X (.Tuple [.Name x p1, .Name y p2] k pos) (bZ i j) :=
  ⟨D2.eK T i j hi hj⟩
end
theorem fW {own : Nat} {fr : List Nat} {i j : Nat} (hi : i < own) (hj : j < own) : ∀ ρ d ρ1, bZ i j d (aF own fr ρ) = some ρ1 -> kF (aF own fr ρ) ρ1 := fun ρ d ρ1 e => by
  unfold bZ at e;split at e
  · rename_i x y _;cases e;refine ⟨by rw [List.length_set, List.length_set], fun n c hn => ?_⟩;have at_own : n < own -> c = .non := fun h => by
      unfold aF at hn;rw [List.getElem?_append_left (by simpa using h), List.getElem?_replicate, if_pos h] at hn;exact (Option.some.inj hn).symm
    by_cases h1 : j = n
    · exact .inl (at_own (by omega))
    · by_cases h2 : i = n
      · exact .inl (at_own (by omega))
      · exact .inr (by rw [List.getElem?_set, if_neg h1, List.getElem?_set, if_neg h2]; exact hn)
  · cases e
open AutoSeq1 (wpAny_loadPart')
abbrev iO (h : Heap) (e i : Addr) (k : Int) (f0 old : Value) : Prop := h.get? e = some { cls := .type "enumerate", dict := none, data := .fields #[f0, .bool false, .ref i, rawInt k, .none, old], slots := #[] }
section
variable {prog : Program} {w : World} {A : Around} {E : Value -> Shared -> Prop} {s : Shared} {e i l : Addr} {k : Nat} {xs : Array Value}
theorem tq {x old : Value} {Q : Value -> Shared -> Prop} (he : iO s.heap e i k .none old) (it : jR s.heap i l k xs) (hli : l ≠ i) (hle : l ≠ e) (hei : e ≠ i) (hx : xs[k]? = some x)
    (hQ : ∀ h' old', iO h' e i ((k : Int) + 1) (rawInt s.heap.objs.size) old' -> jR h' i l (k + 1) xs -> IsPair h' s.heap.objs.size (.int k s.toks) x -> (∀ c o, c ≠ e -> c ≠ i -> s.heap.get? c = some o -> h'.get? c = some o) -> Q (.ref s.heap.objs.size) { s with heap := h', toks := s.toks + 1 }) :
    wpAny (model prog w) A (Builtin.«enumerate.__next__» ⟨[.ref e], []⟩) (fun fin s' => ∃ v, fin = .done (.ret v) /\ Q v s') E s := by
  obtain ⟨hp, g, d, tk, os⟩ := s;show wpAny _ _ (field (Value.ref e) 2 >>= _) _ _ _;refine wpAny_bind (wpAny_field he rfl (x := Value.ref i) rfl ?_);refine wpAny_bind (rm it hli hx fun g1 i1 s1 => ?_);replace s1 : Heap.SameBut i hp g1 := s1;have e1 : iO g1 e i k .none old := (s1.2 e hei).trans he;show wpAny _ _ (field (Value.ref e) 3 >>= _) _ _ (Shared.mk g1 g d tk os);refine wpAny_bind (wpAny_field e1 rfl (x := rawInt (k : Int)) rfl ?_);show wpAny _ _ (field (Value.ref e) 4 >>= _) _ _ (Shared.mk g1 g d tk os);refine wpAny_bind (wpAny_field e1 rfl (x := Value.none) rfl ?_);show wpAny _ _ (mkInt (k : Int) >>= _) _ _ (Shared.mk g1 g d tk os);refine wpAny_bind (wpAny_mkInt ?_);show wpAny _ _ (setField (Value.ref e) 3 (rawInt ((k : Int) + 1)) >>= _) _ _ (Shared.mk g1 g d (tk + 1) os);refine wpAny_bind (wpAny_setField_rec e1 (by simp) fun g2 e2 s2 => ?_);replace s2 : Heap.SameBut e g1 g2 := s2;replace e2 : iO g2 e i ((k : Int) + 1) .none old := e2;show wpAny _ _ (setField (Value.ref e) 4 Value.none >>= _) _ _ (Shared.mk g2 g d (tk + 1) os);refine wpAny_bind (wpAny_setField_rec e2 (by simp) fun g3 e3 s3 => ?_);replace s3 : Heap.SameBut e g2 g3 := s3;replace e3 : iO g3 e i ((k : Int) + 1) .none old := e3;show wpAny _ _ (newTuple [Value.int k tk, x] >>= _) _ _ (Shared.mk g3 g d (tk + 1) os);refine wpAny_bind (wpAny_newTuple ?_);have hsz : g3.objs.size = hp.objs.size := by rw [s3.1, s2.1, s1.1]
  have elt : e < g3.objs.size := Heap.lt_size e3;have e4 : iO (g3.push { cls := .type "tuple", data := .seq #[.int k tk, x] }) e i ((k : Int) + 1) .none old := Heap.get?_push_of_some _ e3;have t4 : IsPair (g3.push { cls := .type "tuple", data := .seq #[.int k tk, x] }) g3.objs.size (.int k tk) x := Heap.get?_push_size _ rfl;have i3 : jR g3 i l (k + 1) xs := i1.keep (fun o q => s3.extBut _ _ hei.symm (s2.extBut _ _ hei.symm q)) fun o q => s3.extBut _ _ hle (s2.extBut _ _ hle q)
  have k3 : ∀ c o, c ≠ e -> c ≠ i -> hp.get? c = some o -> g3.get? c = some o := fun c o c1 c2 q => s3.extBut _ _ c1 (s2.extBut _ _ c1 (s1.extBut _ _ c2 q))
  show wpAny _ _ (Builtin.SmallTypes.ownedTupleIsFree (Value.ref e) >>= _) _ _ (Shared.mk (g3.push { cls := .type "tuple", data := .seq #[.int k tk, x] }) g d (tk + 1) os);refine wpAny_bind ?_;unfold Builtin.SmallTypes.ownedTupleIsFree;refine wpAny_bind (wpAny_field e4 rfl (x := Value.none) rfl (wpAny_pure ?_));simp only [if_true];refine wpAny_bind (wpAny_rule ?_);refine wpAny_bind (wpAny_field e4 rfl (x := old) rfl ?_);refine wpAny_bind (wpAny_setField_rec e4 (by simp) fun g5 e5 s5 => ?_);replace s5 : Heap.SameBut e (g3.push { cls := .type "tuple", data := .seq #[.int k tk, x] }) g5 := s5;replace e5 : iO g5 e i ((k : Int) + 1) .none x := e5;show wpAny _ _ (Builtin.SmallTypes.ownedTupleHandOut (Value.ref e) (Value.ref g3.objs.size) >>= _) _ _ (Shared.mk g5 g d (tk + 1) os);refine wpAny_bind ?_;unfold Builtin.SmallTypes.ownedTupleHandOut;refine wpAny_bind (wpAny_setField_rec e5 (by simp) fun g6 e6 s6 => ?_);replace s6 : Heap.SameBut e g5 g6 := s6;replace e6 : iO g6 e i ((k : Int) + 1) (rawInt g3.objs.size) x := e6;refine wpAny_setField_rec e6 (by simp) fun g7 e7 s7 => ?_
  replace s7 : Heap.SameBut e g6 g7 := s7;replace e7 : iO g7 e i ((k : Int) + 1) (rawInt g3.objs.size) x := e7;have up : ∀ c o, c ≠ e -> g3.get? c = some o -> g7.get? c = some o := fun c o c1 q => s7.extBut _ _ c1 (s6.extBut _ _ c1 (s5.extBut _ _ c1 (Heap.get?_push_of_some _ q)))
  have t7 : IsPair g7 g3.objs.size (.int k tk) x := s7.extBut _ _ (Nat.ne_of_gt elt) (s6.extBut _ _ (Nat.ne_of_gt elt) (s5.extBut _ _ (Nat.ne_of_gt elt) t4));rw [hsz] at e7 t7;refine wpAny_bind (wpAny_letGo (wpAny_pure ⟨_, rfl, ?_⟩));show Q (.ref g3.objs.size) _;rw [hsz];exact hQ g7 x e7 (i3.keep (fun o q => up _ _ hei.symm q) fun o q => up _ _ hle q) t7 fun c o c1 c2 q => up c o c1 (k3 c o c1 c2 q)
theorem rT {x old : Value} {Q : Option Value -> Shared -> Prop} (he : iO s.heap e i k .none old) (it : jR s.heap i l k xs) (hli : l ≠ i) (hle : l ≠ e) (hei : e ≠ i) (hx : xs[k]? = some x)
    (hQ : ∀ h' old', iO h' e i ((k : Int) + 1) (rawInt s.heap.objs.size) old' -> jR h' i l (k + 1) xs -> IsPair h' s.heap.objs.size (.int k s.toks) x -> (∀ c o, c ≠ e -> c ≠ i -> s.heap.get? c = some o -> h'.get? c = some o) -> Q (some (.ref s.heap.objs.size)) { s with heap := h', toks := s.toks + 1 }) :
    wpAny (model prog w) A (pyNext (.ref e)) Q E s := by
  have hT : s.TypeIs (.ref e) "enumerate" := ⟨_, he, rfl⟩
  unfold pyNext;exact wpAny_bind (wpAny_attempt (wpAny_callSpecial?_slot (name := Str.ofString "__next__") hT F.slot_enumerate_next (wpAny_call_entry F.slot_enumerate_next hT F.entry_enumerate_next (tq he it hli hle hei hx fun h' o a b c d => wpAny_pure (hQ h' o a b c d)) (F.args_enumerate_next_1 _))))
theorem ue {old : Value} {Q : Option Value -> Shared -> Prop} (hh : A.handled = none) (he : iO s.heap e i k .none old) (it : jR s.heap i l k xs) (hx : xs[k]? = none) (hQ : ∀ h', (∀ c o, c ≠ i -> s.heap.get? c = some o -> h'.get? c = some o) -> Q none { s with heap := h' }) :
    wpAny (model prog w) A (pyNext (.ref e)) Q E s := by
  have hT : s.TypeIs (.ref e) "enumerate" := ⟨_, he, rfl⟩
  unfold pyNext;refine wpAny_bind (wpAny_attempt (wpAny_callSpecial?_slot (name := Str.ofString "__next__") hT F.slot_enumerate_next (wpAny_call_entry F.slot_enumerate_next hT F.entry_enumerate_next ?_ (F.args_enumerate_next_1 _))));show wpAny _ _ (field (Value.ref e) 2 >>= _) _ _ _;refine wpAny_bind (wpAny_field he rfl (x := Value.ref i) rfl ?_);refine wpAny_bind (kc hh it hx fun h' x k1 ⟨o, ho, hc⟩ => ?_);exact wpAny_bind (wpAny_isInstance (T := "StopIteration") (b := true) ⟨o, ho, hc⟩ isSubtype_stop (wpAny_pure (hQ _ fun c o c1 q => k1 c o c1 q)))
theorem uU (l : Addr) (xs : Array Value) : Meets (Builtin.«enumerate.__new__» ⟨[.type "enumerate", .ref l], []⟩) (fun _ R s => qM s.heap l xs /\
    ∀ h', iO h' (s.heap.objs.size + 1) s.heap.objs.size 0 .none .none -> jR h' s.heap.objs.size l 0 xs -> (∀ c o, s.heap.get? c = some o -> h'.get? c = some o) -> R (.ok (.ret (.ref (s.heap.objs.size + 1)))) { s with heap := h' }) :=
  .of_wp fun prog w A R s h => by
    obtain ⟨hp, g, d, tk, os⟩ := s;obtain ⟨h1, h⟩ := h;have hsub := sub_enumerate;have fin : ∀ oi : Obj, jR (hp.push oi) hp.objs.size l 0 xs -> R (.ok (.ret (.ref (hp.push oi).objs.size))) ⟨(hp.push oi).push { cls := .type "enumerate", data := .fields #[.none, .bool false, .ref hp.objs.size, rawInt 0, .none, .none] }, g, d, tk, os⟩ := fun oi hi => by
      have e1 : (hp.push oi).objs.size = hp.objs.size + 1 := Heap.size_push ..;rw [e1];refine h _ ?_ (hi.keep (fun o q => Heap.get?_push_of_some _ q) fun o q => Heap.get?_push_of_some _ q) fun c o q => Heap.get?_push_of_some _ (Heap.get?_push_of_some _ q)
      show Heap.get? _ (hp.objs.size + 1) = _;rw [<- e1];exact Heap.get?_push_size _ rfl
    rcases h1 with h1 | h1
    · have l1 : Heap.IsList (Shared.heap ⟨hp, g, d, tk, os⟩) l xs := h1;obtain ⟨o, ho, _, _, _⟩ := id h1;have ho' : (Shared.heap ⟨hp, g, d, tk, os⟩).get? l = some o := ho
      wp_walk using wpAny_loadPart' ho'
      refine wpAny_stack_any fun st => wpAny_pure ?_
      split
      · rename_i c _ _ _ _ _;cases (c == Value.type "enumerate")
        · wp_walk using wpAny_loadPart' ho', wpAny_pyIter_list l1
          exact ⟨_, rfl, fin _ (.inl ⟨⟨_, Heap.get?_push_size _ rfl, rfl, rfl⟩, Heap.IsList.push h1 _⟩)⟩
        · wp_walk using wpAny_loadPart' ho', wpAny_pyIter_list l1
          exact ⟨_, rfl, fin _ (.inl ⟨⟨_, Heap.get?_push_size _ rfl, rfl, rfl⟩, Heap.IsList.push h1 _⟩)⟩
      · wp_walk using wpAny_loadPart' ho', wpAny_pyIter_list l1
        exact ⟨_, rfl, fin _ (.inl ⟨⟨_, Heap.get?_push_size _ rfl, rfl, rfl⟩, Heap.IsList.push h1 _⟩)⟩
    · have l1 : Heap.IsTuple (Shared.heap ⟨hp, g, d, tk, os⟩) l xs := h1;obtain ⟨o, ho, _, _, _⟩ := id h1;have ho' : (Shared.heap ⟨hp, g, d, tk, os⟩).get? l = some o := ho
      wp_walk using wpAny_loadPart' ho'
      refine wpAny_stack_any fun st => wpAny_pure ?_
      split
      · rename_i c _ _ _ _ _;cases (c == Value.type "enumerate")
        · wp_walk using wpAny_loadPart' ho', wpAny_pyIter_tuple l1
          exact ⟨_, rfl, fin _ (.inr ⟨⟨_, Heap.get?_push_size _ rfl, rfl, rfl⟩, Heap.IsTuple.push h1 _⟩)⟩
        · wp_walk using wpAny_loadPart' ho', wpAny_pyIter_tuple l1
          exact ⟨_, rfl, fin _ (.inr ⟨⟨_, Heap.get?_push_size _ rfl, rfl, rfl⟩, Heap.IsTuple.push h1 _⟩)⟩
      · wp_walk using wpAny_loadPart' ho', wpAny_pyIter_tuple l1
        exact ⟨_, rfl, fin _ (.inr ⟨⟨_, Heap.get?_push_size _ rfl, rfl, rfl⟩, Heap.IsTuple.push h1 _⟩)⟩
theorem sy {Q : Value -> Shared -> Prop} {l : Addr} (h1 : qM s.heap l xs)
    (h : ∀ h', iO h' (s.heap.objs.size + 1) s.heap.objs.size 0 .none .none -> jR h' s.heap.objs.size l 0 xs -> (∀ c o, s.heap.get? c = some o -> h'.get? c = some o) -> Q (.ref (s.heap.objs.size + 1)) { s with heap := h' }) :
    wpAny (model prog w) A (call (.type "enumerate") [.ref l]) Q E s := by
  refine callType_new F.called_enumerate (by decide) (F.typeCall_enumerate_1 _) (F.newCall_enumerate_1 _) (fun obj => F.args_object_init_2 obj _) F.entry_enumerate_new (uU l xs) ⟨h1, fun h' e S k => ?_⟩;exact ⟨⟨_, e, rfl⟩, h h' e S k⟩
end
end D2
namespace D2
open PySem PySem.Spec PyProof.Rows L2
def Am (K : PySem.W.Frag) (l : Addr) (b : Bool) : It :=
  ⟨fun i H => ∃ xs x, oP K H l xs b /\ xs[i]? = some x, fun i H v H' => ∃ a x, H a = none /\ v = .ref a /\ H' = cW H a (.tup [.int i, x]) /\ ∀ xs, oP K H l xs b -> xs[i]? = some x, fun i H => ∃ xs, oP K H l xs b /\ xs.length <= i⟩
structure AZ (e i l : Addr) (b : Bool) (k : Nat) (h : Heap) : Prop where
  ee : ∃ old, iO h e i k .none old
  ii : eJ h i l k b
theorem sY {P : Program} {w : World} {K : PySem.W.Frag} {elts : List Expr} {x1} {pos : Pos} {e i l : Addr} {b : Bool} (hei : e ≠ i) (hle : l ≠ e) (hli : l ≠ i) : pT P w K (.Tuple elts x1 pos) (Am K l b) [e, i] e (AZ e i l b) where
  mem := by simp
  obj := fun k h st a ha => by
    simp only [List.mem_cons, List.not_mem_nil, or_false] at ha;rcases ha with rfl | rfl
    · obtain ⟨_, q⟩ := st.ee; exact ⟨_, q, fun v e => by cases e⟩
    · exact st.ii.there
  keep := fun k h h' st kp => ⟨let ⟨o, q⟩ := st.ee; ⟨o, kp e (by simp) _ q⟩, st.ii.keep fun o q => kp i (by simp) o q⟩
  item := by
    intro X hP hw hK hc k pins s σ H E I hf st hg;subst hP hw hK;obtain ⟨xs, x, h1, hx⟩ := hg;obtain ⟨its, rv, _, p1⟩ := gu I h1;obtain ⟨u, hu, ru⟩ := rv.get hx;obtain ⟨old, he⟩ := st.ee;refine rT he (p1 _ _ st.ii) hli hle hei (x := u) (by simpa using hu) fun h' old' e' i' hp kp => ⟨_, rfl, ?_⟩
    have elt : e < s.heap.objs.size := Heap.lt_size he;have hob : ∀ a ∈ [e, i], a < s.heap.objs.size := fun a ha => by
      simp only [List.mem_cons, List.not_mem_nil, or_false] at ha;rcases ha with rfl | rfl
      · exact elt
      · obtain ⟨o, q, _⟩ := st.ii.there; exact Heap.lt_size q
    have hn : H s.heap.objs.size = none := I.hok.fresh (Nat.le_refl _);refine wpAny_letOwnedTupleGo_enum (s := { s with heap := h', toks := s.toks + 1 }) e' fun h2' e2 sb => ?_
    have up : ∀ a o, a ≠ e -> h'.get? a = some o -> h2'.get? a = some o := fun a o ha q => sb.extBut a o ha q
    refine ⟨.ref s.heap.objs.size, _, rn (s := s) (t' := s.toks + 1) (fp := [e, i]) (h' := h2') (u1 := .int k s.toks) (u2 := u) (v1 := .int k) (v2 := x) I hf hob (up _ _ (Nat.ne_of_gt elt) hp) (fun a o ha q => ?_) ⟨_, rfl⟩ ru, rfl, ⟨_, x, hn, rfl, rfl, fun zs hz => by rw [i6 I h1 hz]; exact hx⟩, ?_, fun a ha => ?_⟩
    · simp only [List.mem_cons, List.not_mem_nil, or_false, not_or] at ha;exact up a o ha.1 (kp a o ha.1 ha.2 q)
    · have i2 : eJ h' i l (k + 1) b := by
        refine i'.toB fun ys => ?_
        cases hb : b
        · subst hb;refine ⟨fun z => (by cases z), fun _ w => ?_⟩;obtain ⟨_, _, pl, _⟩ := I.list h1;obtain ⟨o, q, r⟩ := pl.isList;exact cS (h := h') (xs := _) ⟨o, kp _ _ hle hli q, r⟩ w
        · subst hb;refine ⟨fun _ w => ?_, fun z => by cases z⟩;obtain ⟨_, _, pl, _⟩ := I.tuple h1;obtain ⟨o, q, r⟩ := pl;exact cS (h := h') w ⟨o, kp _ _ hle hli q, r⟩
      exact ⟨⟨_, by have q : iO h2' e i ((k : Int) + 1) .none old' := e2; simpa using q⟩, i2.keep fun o q => up _ _ hei.symm q⟩
    · rw [aI (Nat.ne_of_lt (hob a ha))]; exact (hf a ha).1
  done := by
    intro X hP hw hK hc k pins s σ H E I hf st hg;subst hP hw hK;obtain ⟨xs, h1, hl⟩ := hg;obtain ⟨its, rv, _, p1⟩ := gu I h1;obtain ⟨old, he⟩ := st.ee;have e1 := rv.length;refine ue (I.ok.hd hc) he (p1 _ _ st.ii) (by simp; omega) fun h' kp => ⟨rfl, ia (t' := s.toks) (fp := [e, i]) I (fun a o ha q => ?_) hf⟩
    simp only [List.mem_cons, List.not_mem_nil, or_false, not_or] at ha;exact kp a o ha.2 q
  self := fun _ _ _ _ _ st h => let ⟨_, q⟩ := st.ee; wpAny_pyIter_enum q h
def bI : Nat -> List PyData -> List PyData
  | _, [] => []
  | k, d :: ds => .tuple [.int k, d] :: bI (k + 1) ds
theorem fX : ∀ (k : Nat) (ds : List PyData), (bI k ds).length = ds.length
  | _, [] => rfl
  | k, d :: ds => by unfold bI; rw [List.length_cons, List.length_cons, fX]
theorem mY : ∀ {k : Nat} {ds : List PyData} {i : Nat} {d : PyData}, (bI k ds)[i]? = some d -> ∃ x, ds[i]? = some x /\ d = .tuple [.int ((k + i : Nat) : Int), x]
  | k, [], i, d, h => by unfold bI at h; simp at h
  | k, x :: ds, 0, d, h => by
    unfold bI at h;simp at h;exact ⟨x, rfl, by rw [<- h]; simp⟩
  | k, x :: ds, i + 1, d, h => by
    unfold bI at h;rw [List.getElem?_cons_succ] at h;obtain ⟨y, h1, h2⟩ := mY h;refine ⟨y, by simpa using h1, ?_⟩;rw [h2];have : k + 1 + i = k + (i + 1) := by omega
    rw [this]
theorem t6 {K : PySem.W.Frag} {l : Addr} {b : Bool} {xs : List PyData} : wz (Am K l b) (fun H => ww H l xs b) (bI 0 xs) where
  go := fun i H h1 hi => by
    rw [fX] at hi;obtain ⟨vs, s1, r1⟩ := h1.sq (K := K);obtain ⟨x, hx, _⟩ := r1.get (List.getElem?_eq_getElem hi);exact ⟨vs, x, s1, hx⟩
  yld := fun i H v H' d h1 hd h => by
    obtain ⟨a, x, ha, rfl, rfl, k1⟩ := h;obtain ⟨vs, s1, r1⟩ := h1.sq (K := K);obtain ⟨dx, e1, rfl⟩ := mY hd;obtain ⟨x', hx, px⟩ := r1.get e1;have q1 := k1 vs s1;rw [hx] at q1;cases q1;refine ⟨bD ha _, cR ha (bo.cons ?_ (bo.cons px bo.nil))⟩;rw [Nat.zero_add];exact ci
  stop := fun i H h1 hi => by
    rw [fX] at hi;obtain ⟨vs, s1, r1⟩ := h1.sq (K := K);have l1 := r1.length;exact ⟨vs, s1, by omega⟩
section
variable {X : Cx} {elts : List Expr} {x1 : Nat} {tp : Pos} {a b : Expr} {fa fb : Fe} {pos p : Pos} {nl : Nat} {G : List Str} {fs : aH -> R (List PyData)}
def A0 (K : PySem.W.Frag) (ta : TA) : TI := fun σ H R => ta σ H fun vs H1 => ∃ l xs b, vs = [.ref l] /\ oP K H1 l xs b /\ R (Am K l b) H1
theorem vE {ta : TA} (hg : Gl X "enumerate") (hm : X.mg "enumerate" = none) (ha : PA X [a] ta) (hs : starEach [a] X.env = [(false, eval a X.env)]) : PI X (.Tuple elts x1 tp) (.Call (.Name "enumerate" p) [a] [] pos) (A0 X.K ta) := by
  intro pins s σ H R I h;refine Call_ (jV I hg hm boot_enumerate (PyProof.Rows.callWith_type1 (cV (ha pos pins s σ H _ I h) fun us s1 ⟨vs, H1, I1, r1, q1⟩ => ?_) hs rfl));obtain ⟨l, xs, b, e, h1, q⟩ := q1;subst e;obtain ⟨u, rfl, ru⟩ := fj r1;cases ru;obtain ⟨its, w1, p1, g1⟩ := gu I1 h1;have ll : l < s1.heap.objs.size := by rcases p1 with ⟨o, e, _⟩ | ⟨o, e, _⟩ <;> exact Heap.lt_size e
  refine sy p1 fun h' hz S kp => wpAny_pyIter_enum hz ?_
  have I2 : aE X pins σ H1 { s1 with heap := h' } := I1.kept (t' := s1.toks) kp;have i2 : eJ h' s1.heap.objs.size l 0 b := S.toB (l7 I1 h1 kp);refine ⟨_, [s1.heap.objs.size + 1, s1.heap.objs.size], _, _, H1, rfl, I2, sY (b := b) (Nat.ne_of_gt (Nat.lt_succ_self _)) (Nat.ne_of_lt (Nat.lt_succ_of_lt ll)) (Nat.ne_of_lt ll), ⟨⟨_, hz⟩, i2⟩, fun a ha => ?_, q⟩;have hle : s1.heap.objs.size <= a := by
    simp only [List.mem_cons, List.not_mem_nil, or_false] at ha;rcases ha with rfl | rfl
    · exact Nat.le_add_right _ 1
    · exact Nat.le_refl _
  exact I1.fpOk hle (I1.hok.fresh hle)
def jo (fa : Fe) : aH -> R (List PyData) := fun ρ => fa ρ >>= fun x => gL x >>= fun xs => .ok (bI 0 xs)
theorem iy (T : Tb X nl G) (j : Nat) (hG : G[j]? = some ("enumerate" : Str)) (hm : X.mg "enumerate" = none) (ha : ah X a fa) (h1 : am a = true := by rfl) : mF X (.Tuple elts x1 tp) (.Call (.Name "enumerate" p) [a] [] pos) (jo fa) := by
  have g := T.gl _ (List.mem_of_getElem? hG);refine PI.imp (vE g.1 hm (ad ha aq h1) (by rw [bc h1]; rfl)) fun σ H Rk h => ?_
  obtain ⟨ρ, sl, q⟩ := h;unfold jo at q;refine ⟨ρ, sl, ?_⟩;unfold ae aA;cases e1 : fa ρ with
  | ex c => rw [e1] at q; exact q
  | no => rw [e1] at q; exact q
  | ok x =>
    rw [e1] at q;simp only [R.ok_bind] at q ⊢;cases e3 : gL x with
    | ex c => exact absurd e3 (by cases x <;> simp [gL])
    | no => rw [e3] at q; exact q.elim
    | ok xs =>
      rw [e3] at q;simp only [R.ok_bind] at q;intro vs H1 s1 ra;simp only [RA] at ra;obtain ⟨v, r', rfl, p1, rfl⟩ := ra;obtain ⟨l, b1, rfl, d1⟩ := qb p1 e3;obtain ⟨us, u1, _⟩ := d1.sq (K := X.K);exact ⟨l, us, b1, rfl, u1, q _ H1 s1 ⟨_, t6, fun H2 k _ => d1.kp k⟩⟩
theorem Z.iy (T : Tb X nl G) (j : Nat) (hG : G[j]? = some ("enumerate" : Str)) (hm : X.mg "enumerate" = none) (ha : Z.ah X a fa) (h1 : am a = true := by rfl) : Z.mF X (.Tuple elts x1 tp) (.Call (.Name "enumerate" p) [a] [] pos) (jo fa) :=
  ⟨D2.iy T j hG hm ha.un h1⟩
end
section
variable {X : Cx} {nl : Nat} {G : List Str} {x : Str} {e : Expr} {f : Fe} {q1 q2 q3 q4 : Pos}
theorem eR (T : Tb X nl G) (n : Nat) (hN : X.N[n]? = some x) (he : ah X e f) (hst : am e = true := by rfl) (hline : (q2.endLine == q3.line) = true := by rfl)
    (hs : swapsWith (.Call (.Attribute (.Name x q1) "append" q2) [e] [] q3) none q4.line X.env = pure false := by rfl)
    (hbase : attributeBase (.Name x q1) "append" X.env (eval (.Name x q1) X.env) = eval (.Name x q1) X.env := by rfl) : fI X (.Expr (.Call (.Attribute (.Name x q1) "append" q2) [e] [] q3) q4) (cJ n f) := fun Fm => by
  have hm := T.vis x (List.mem_of_getElem? hN);have sc : starEach [e] X.env = (false, eval e X.env) :: starEach [] X.env := bc hst;refine PS.imp (wD (wM PySem.F.plainAttrs_list PySem.F.slot_list_append PySem.F.type_list_append my (lu hN hm.1 hm.2.1 hm.2.2) (ad he aq hst) hbase (by rw [sc]; rfl) hline sc rfl) hs) fun D σ H h => ?_
  obtain ⟨ρ, sl, q⟩ := h;unfold cJ at q;cases ef : f ρ with
  | ex c => rw [ef] at q; exact q.elim
  | no => rw [ef] at q; exact q.elim
  | ok d =>
    rw [ef] at q;simp only [lw, R.ok_bind] at q;cases er : ρ[n]? with
    | none => rw [er] at q; exact q.elim
    | some c =>
      rw [er] at q;cases c with
      | non => exact q.elim
      | exc p => exact q.elim
      | val d' => exact q.elim
      | own d' =>
        cases d' with
        | list ds =>
          dsimp only at q;by_cases hz : ds.length < sizeLine
          · rw [if_pos hz] at q;obtain ⟨o, h2, w', rfl, p2⟩ := sl.sl.at er;simp only [iI] at p2;obtain ⟨a', vs, rfl, ha, r⟩ := p2;refine ⟨.ref a', h2, .inl ⟨rfl, _, kD.of ha⟩, ρ, sl.sl, ?_⟩;unfold ae aA;rw [ef];intro us H1 s1 ra;simp only [RA] at ra;obtain ⟨v, r', rfl, p1, rfl⟩ := ra;have ha1 := s1 _ _ ha;refine ⟨a', vs, v, rfl, rfl, ha1, by rw [r.length]; exact hz, q _ _ ((sl.mono s1).change er h2 ha1 (.inl ⟨_, rfl⟩) ?_)⟩;simp only [iI];exact ⟨a', _, rfl, bQ, bo.kp (gS ha1 (.inl ⟨_, rfl⟩)) _ _ (bo.append (r.mono s1) (bo.cons p1 bo.nil))⟩
          · rw [if_neg hz] at q; exact q.elim
        | _ => exact q.elim
theorem Z.eR (T : Tb X nl G) (n : Nat) (hN : X.N[n]? = some x) (he : Z.ah X e f) (hst : am e = true := by rfl) (hline : (q2.endLine == q3.line) = true := by rfl) (hs : swapsWith (.Call (.Attribute (.Name x q1) "append" q2) [e] [] q3) none q4.line X.env = pure false := by rfl) (hbase : attributeBase (.Name x q1) "append" X.env (eval (.Name x q1) X.env) = eval (.Name x q1) X.env := by rfl) : Z.fI X (.Expr (.Call (.Attribute (.Name x q1) "append" q2) [e] [] q3) q4) (cJ n f) :=
  ⟨D2.eR T n hN he.un hst hline hs hbase⟩
end
def nV (g : Fs) : Fs := fun ρ => lw (g ρ)
theorem Tb.nox {X : Cx} {nl : Nat} {G : List Str} (T : Tb X nl G) : Tb X.nox nl G := ⟨T.hu, T.calm, T.nd, T.vis, T.loc, T.gl⟩
section
variable {X : Cx} {nl : Nat} {G : List Str} {st : Stmt} {g : Fs} {pos : Pos}
theorem gk (h : fI X.nox st g) : fI X st (nV g) := fun Fm => by
  intro pins s σ H D I ⟨ρ, sl, q⟩;refine wpAny_mono (h Fm pins s σ H D (I.wish _) ⟨ρ, sl, ?_⟩) (fun _ _ q => q.unwish) fun _ _ z => False.elim z
  unfold nV at q;cases e : g ρ with
  | ok o =>
    rw [e] at q;cases o <;> exact q
  | ex c => rw [e] at q; exact q.elim
  | no => rw [e] at q; exact q.elim
theorem Z.gk (h : Z.fI X.nox st g) : Z.fI X st (nV g) :=
  ⟨D2.gk h.un⟩
def cH (t : aH -> R Bool) (g : Fs) : Nat -> Fs
  | 0, _ => .no
  | n + 1, ρ => t ρ >>= fun b => if b = true then g ρ >>= fun o => (match o with
      | .nx ρ2 => cH t g n ρ2
      | .ct ρ2 => cH t g n ρ2
      | .bk ρ2 => .ok (.nx ρ2)
      | .rt r => .ok (.rt r)) else .ok (.nx ρ)
def nM (n : Nat) (t : aH -> R Bool) (g : Fs) : Fs := cH t g n
theorem ju {c : Expr} {body : List Stmt} {t : aH -> R Bool} (n : Nat) (hp : PassesOwn (model X.prog X.w) X.A X.env X.xe) (ht : gU X c t) (hb : fL X body g) : fI X (.While c body [] pos) (nM n t g) := fun Fm => by
  refine PS.imp (ug hp ht (hb Fm)) fun D σ H ⟨ρ, sl, q⟩ => ⟨fun m σ' H' => ∃ ρ', fQ Fm H' σ' ρ' /\ u4 X Fm (cH t g m ρ') D, ⟨n, ρ, sl, q⟩, fun m σ1 H1 ⟨ρ1, sl1, q1⟩ => ?_⟩
  cases m with
  | zero => exact q1.elim
  | succ k =>
    have q2 : wT X Fm (fun ρ => t ρ >>= fun b => if b = true then g ρ >>= fun o => (match o with
      | .nx ρ2 => cH t g k ρ2
      | .ct ρ2 => cH t g k ρ2
      | .bk ρ2 => .ok (.nx ρ2)
      | .rt r => .ok (.rt r)) else .ok (.nx ρ)) D σ1 H1 := ⟨ρ1, sl1, q1⟩
    refine (rj (f := t) (k := fun ρ b => if b = true then g ρ >>= fun o => (match o with
      | .nx ρ2 => cH t g k ρ2
      | .ct ρ2 => cH t g k ρ2
      | .bk ρ2 => .ok (.nx ρ2)
      | .rt r => .ok (.rt r)) else .ok (.nx ρ)) q2).post fun b H2 ⟨ρ2, sl2, _, q3⟩ => ?_
    cases b with
    | false => exact q3 σ1 H2 sl2
    | true =>
      have q4 : u4 X Fm (g ρ2 >>= fun o => (match o with
      | .nx ρ2 => cH t g k ρ2
      | .ct ρ2 => cH t g k ρ2
      | .bk ρ2 => .ok (.nx ρ2)
      | .rt r => .ok (.rt r))) D := q3
      show if true = true then _ else _
      rw [if_pos rfl];refine ⟨fun σ' H' => ∃ ρ', fQ Fm H' σ' ρ' /\ u4 X Fm (cH t g k ρ') D, fun σ' H' z => ⟨k, Nat.lt_succ_self k, z⟩, ρ2, sl2, ?_⟩;cases eg : g ρ2 with
      | ex c => rw [eg] at q4; exact q4
      | no => rw [eg] at q4; exact q4
      | ok o =>
        rw [eg] at q4;cases o with
        | nx ρ4 => exact fun σ' H' s' => ⟨ρ4, s', q4⟩
        | ct ρ4 => exact fun σ' H' s' => ⟨ρ4, s', q4⟩
        | bk ρ4 => exact q4
        | rt r => exact q4
theorem Z.ju {c : Expr} {body : List Stmt} {t : aH -> R Bool} (n : Nat) (hp : PassesOwn (model X.prog X.w) X.A X.env X.xe) (ht : Z.gU X c t) (hb : Z.fL X body g) : Z.fI X (.While c body [] pos) (nM n t g) :=
  ⟨D2.ju n hp ht.un hb.un⟩
end
abbrev mf : List Value := [.type "ValueError", .type "Exception", .type "BaseException", .type "object"]
abbrev kW : String := "ValueError.__new__"
section
variable {K : PySem.W.Frag} {h : Heap} {C : Addr}
def na (h : Heap) (C : Addr) (bm : List Value) : Prop := ∃ N nm q bs hdct sn sub ab col dd k0 k1 k2 k3 k5 mN, h.get? C = some (excClassObj nm q C N bs bm hdct sn sub ab col dd k0 k1 k2 k3 k5 kW) /\ h.Ns N mN /\ mN "__init__" = none /\ OwnTail h mf bm
theorem na.keep {h' : Heap} {bm : List Value} (c : na h C bm) (k : ∀ b o, h.get? b = some o -> h'.get? b = some o) : na h' C bm :=
  let ⟨N, nm, q, bs, hdct, sn, sub, ab, col, dd, k0, k1, k2, k3, k5, mN, hC, hN, hni, T⟩ := c
  ⟨N, nm, q, bs, hdct, sn, sub, ab, col, dd, k0, k1, k2, k3, k5, mN, k _ _ hC, hN.keeps k, hni, T.keeps k⟩
def dm (K : PySem.W.Frag) (C : Addr) : List Value := match K.lookup C with
  | some ⟨_, _, .cls cd, _⟩ => cd.mro.drop 1
  | _ => []
theorem kX (X : K.In h) (q : PySem.W.excIn K C mf kW = true) : na h C (dm K C) := by
  unfold PySem.W.excIn at q;unfold dm;cases hk : K.lookup C with
  | none => rw [hk] at q; cases q
  | some ob =>
    rw [hk] at q;split at q
    · rename_i dd cd sl ho;cases ho;split at q
      · rename_i C' bm k0 k1 k2 k3 n k5 hm hs;simp only [Bool.not_eq_true', beq_iff_eq, Bool.and_eq_true] at q;obtain ⟨⟨⟨⟨⟨e1, e2⟩, hdel⟩, ht⟩, hok⟩, hni⟩ := q;subst e1; subst e2;obtain ⟨nm, bs, mro, ns, qn, hd, sn, sub, ab, col, del⟩ := cd;dsimp only at hm hdel hok hni ⊢;subst hm; subst hdel;have hsl : sl = #[k0, k1, k2, k3, some (.builtin kW), k5] := by
          obtain ⟨l⟩ := sl;simp only at hs;rw [hs]
        subst hsl;exact ⟨ns, nm, qn, bs, hd, sn, sub, ab, col, dd, k0, k1, k2, k3, k5, _, X _ _ hk, .of_isNs (PySem.W.isNs_of_in X hok), PySem.W.nsMap_none_of_in X hok hni, PySem.W.tail_of_in X ht⟩
      · cases q
    · cases q
end
def iY (x : Str) (f : Fe) : Fs := fun ρ => lw (f ρ) >>= fun _ => .ex x
section
variable {X : Cx} {nl : Nat} {G : List Str} {x : Str} {e : Expr} {f : Fe} {np cp pos : Pos} {C : Addr}
theorem fS (T : Tb X nl G) (j : Nat) (hG : G[j]? = some x) (hm : X.mg x = some (.ref C)) (hq : PySem.W.excIn X.K C mf kW = true) (he : ah X.nox e f) (hst : am e = true := by rfl) : fI X (.Raise (some (.Call (.Name x np) [e] [] cp)) none pos) (iY x f) := fun Fm => by
  intro pins s σ H D I ⟨ρ, sl, q⟩;have hg := T.gl x (List.mem_of_getElem? hG);have sc : starEach [e] X.env = (false, eval e X.env) :: starEach [] X.env := bc hst;obtain ⟨N, nm, qn, bs, hdct, sn, sub, ab, col, dd, k0, k1, k2, k3, k5, mN, hC, hN, hni, TL⟩ := kX (I.ok.mod.kin) hq;unfold iY at q;cases ef : f ρ with
  | ex c => rw [ef] at q; exact q.elim
  | no => rw [ef] at q; exact q.elim
  | ok d =>
    rw [ef] at q;simp only [lw, R.ok_bind] at q;refine wpAny_Raise_call_subT (C := C) (nm := nm) (q := qn) (N := N) (bs := bs) (bm := dm X.K C) (hdct := hdct) (sn := sn) (sub := sub) (ab := ab) (col := col) (dd := dd) (k0 := k0) (k1 := k1) (k2 := k2) (k3 := k3) (k5 := k5) PySem.F.excBase_ValueError (mN := mN) (TL.hasType rfl) (I.ok.hd T.calm) (by rw [sc]; rfl) hni (kM I hg.1 hm ⟨rfl, ?_⟩ hg.2.1);rw [sc];refine Calls.evalArgs_plain (wpAny_mono ?_ (fun vs s2 z => ⟨rfl, z⟩) fun _ _ y => y);have ha : PA X.nox [e] (tT X.nox Rp (ae f aA)) := ad he aq hst;have hw := ha cp pins s σ H (fun vs H' => vs.length = 1 /\ ay H H') (I.wish _) ⟨ρ, sl.sl, by
      unfold ae aA;rw [ef];intro vs H' s' ra;simp only [RA] at ra;obtain ⟨v, r, rfl, _, rfl⟩ := ra;exact ⟨rfl, s'⟩⟩
    rw [show (X.nox.env) = X.env from rfl, sc] at hw;refine wpAny_mono hw (fun us s2 ⟨vs, H2, I2, r2, hl, s12⟩ => ?_) fun _ _ z => False.elim z
    have I2 := I2.unwish;have hlen : us.length = 1 := by rw [<- r2.length]; exact hl
    exact ⟨by rw [hlen]; decide, I2.bk _ _ hC, hN.keeps I2.bk, TL.keeps I2.bk, fun h' p mk => q.2 C hm pins σ H2 s2 (sl.fm.trans s12) I2 h' p us mk⟩
theorem Z.fS (T : Tb X nl G) (j : Nat) (hG : G[j]? = some x) (hm : X.mg x = some (.ref C)) (hq : PySem.W.excIn X.K C mf kW = true) (he : Z.ah X.nox e f) (hst : am e = true := by rfl) : Z.fI X (.Raise (some (.Call (.Name x np) [e] [] cp)) none pos) (iY x f) :=
  ⟨D2.fS T j hG hm hq he.un hst⟩
end
section
variable {P : Program} {w : World} {l : List Env} {H H' : Hp} {s s' : Shared} {C p : Addr} {e : Value}
theorem kw.again {a0 : Value} {B h' : Heap} (f : kw P w l H s C H' e s') (fly : Heap.FlyingW B l p (.ref C) a0 s'.heap) (fly' : Heap.FlyingW B l p (.ref C) a0 h') (up : s'.heap.UpToSlots h') (okB : fH P w H' B) (hp : H' p = none)
    (cov : ∀ b o, s.heap.get? b = some o -> H b = none -> b ∉ jh l -> B.get? b = some o /\ H' b = none) : kw P w l H s C H' (.ref p) { s' with heap := h' } := by
  refine ⟨f.os, f.bare, f.same, ⟨p, a0, B, rfl, fly', okB, hp, cov⟩, fun b o q n hb => ?_⟩;obtain ⟨⟨sl, q2⟩, n2⟩ := f.slot b o q n hb;obtain ⟨_, o3, q3, nf⟩ := fly.2.2.1.mem hb;rw [q2] at q3;cases q3;obtain ⟨sl3, q4⟩ := up b _ q2 nf;exact ⟨⟨sl3, q4⟩, n2⟩
theorem kw.land {M : Model} {A : Around} {E : Value -> Shared -> Prop} {Q : Unit -> Shared -> Prop} (f : kw P w l H s C H' (.ref p) s') (k : ∀ h', kw P w l H s C H' (.ref p) { s' with heap := h' } -> Q () { s' with heap := h' }) : wpAny M A (setFlight (.ref p) none) Q E s' := by
  obtain ⟨p', a0, B, ep, fly, okB, hp, cov⟩ := f.ex;cases ep;exact lands_againW fly fun h' fly' up => k h' (f.again fly fly' up okB hp cov)
theorem kw.look {M : Model} {A : Around} {E : Value -> Shared -> Prop} {Q : Unit -> Shared -> Prop} {env : Env} {outer : List Env} {L : Addr} (f : kw P w (env :: outer) H s C H' e s') (hfr : A.frames = some (env :: outer)) (hf : env.frame = some L)
    (k : ∀ p h', e = .ref p -> kw P w (env :: outer) H s C H' (.ref p) { s' with heap := h' } -> Q () { s' with heap := h' }) : wpAny M A (noteFrame e env) (fun _ s2 => wpAny M A (setFlight e none) Q E s2) E s' := by
  obtain ⟨p, a0, B, rfl, fly, okB, hp, cov⟩ := f.ex;refine wpAny_looks_onW hfr hf fly fun h4 held up4 => ?_
  exact wpAny_landsW (s := { s' with heap := h4 }) held fun h5 fly5 up5 => k p h5 rfl (f.again fly fly5 (up4.trans up5) okB hp cov)
theorem kw.obj (f : kw P w l H s C H' (.ref p) s') : ∃ ob vs, s'.heap.get? p = some ob /\ ob.cls = .ref C /\ ob.data = .fields vs /\ H' p = none /\ p ∉ jh l := by
  obtain ⟨p', a0, B, ep, fly, okB, hp, cov⟩ := f.ex;cases ep;obtain ⟨oe, ws, h1, h2, h3, _⟩ := fly.first;refine ⟨oe, ws, h1, h2, h3, hp, fun hm => ?_⟩;obtain ⟨_, o, ho, hnf⟩ := fly.2.2.1.mem hm;rw [h1] at ho;cases ho;exact hnf ws h3
end
theorem kw.inv {X : Cx} {pins : List (Addr × Obj)} {σ : St} {Hc H1 : Hp} {sc s' : Shared} {C : Addr} {e : Value} (f : kw X.prog X.w X.stack Hc sc C H1 e s') (I : aE X pins σ Hc sc) : aE X pins σ H1 s' :=
  I.call' f.os f.un f.hok f.bare fun b z => absurd z (by simp)
def Xh (X : Cx) (p : Addr) (ob : Obj) : Cx := { X with A := X.A.mark (some (.ref p)), calm := false, xe := fun _ _ => False, pn := (p, ob) :: X.pn }
section
variable {X : Cx} {pins : List (Addr × Obj)} {σ : St} {H : Hp} {s : Shared} {p : Addr} {ob : Obj}
theorem o1 (I : aE X pins σ H s) (hp : s.heap.get? p = some ob) (hn : H p = none) (hl : p ≠ X.env.locals) (hf : p ∉ X.fs) (hc : ∀ v, ob.data ≠ .cell v) : aE (Xh X p ob) pins σ H s := by
  refine ⟨⟨I.ok.mod, I.ok.kind, I.ok.glob, I.ok.blt, I.ok.above, I.ok.inj, I.ok.has, I.ok.cab, fun z => (by cases z), I.ok.frames, I.ok.stk, I.ok.exf, I.ok.bs, I.ok.bsz, I.ok.noex, I.ok.exfs, I.ok.funs, I.ok.frf⟩, I.os, I.bare, I.base, I.loc, I.cell, I.free, I.freeC, fun q hq => ?_, I.hok, I.len⟩;have hq' : q ∈ (p, ob) :: (X.pn ++ pins) := hq;rcases List.mem_cons.mp hq' with rfl | z
  · exact ⟨hp, hn, hl, hf, hc⟩
  · exact I.pin q z
theorem lG (ok : X.Ok) (I : aE (Xh X p ob) pins σ H s) : aE X pins σ H s :=
  ⟨ok, I.os, I.bare, I.base, I.loc, I.cell, I.free, I.freeC, fun q hq => I.pin q (List.mem_cons_of_mem _ hq), I.hok, I.len⟩
end
structure xV (X : Cx) (nl : Nat) (G : List Str) : Prop where
  hu : X.A.units + 64 < cLine
  nd : X.N.Nodup
  vis : ∀ x ∈ X.N, yY X.env.scope x /\ (x == ("__debug__" : Str)) = false /\ (x == ("__classdict__" : Str)) = false
  loc : ∀ x ∈ X.N.take nl, w9 X.env.scope x /\ (X.fn x = true \/ X.env.scope.names.lookup x = some .local)
  gl : ∀ x ∈ G, Gl X x /\ (x == ("__debug__" : Str)) = false /\ x ≠ ("__name__" : Str)
theorem Tb.h {X : Cx} {nl : Nat} {G : List Str} (T : Tb X nl G) (p : Addr) (ob : Obj) : xV (Xh X p ob) nl G := ⟨T.hu, T.nd, T.vis, T.loc, T.gl⟩
section
variable {M : Model} {A : Around} {E : Value -> Shared -> Prop} {s : Shared} {C C2 p : Addr} {bm bm2 : List Value} {ob : Obj} {Q : Bool -> Shared -> Prop}
theorem sL (hC : na s.heap C bm) (hC2 : na s.heap C2 bm2) (he : s.heap.get? p = some ob) (hc : ob.cls = .ref C) (h : Q ((Value.ref C :: bm).contains (.ref C2)) s) : wpAny M A (excMatches (.ref p) (.ref C2)) Q E s := by
  obtain ⟨N, nm, qn, bs, hdct, sn, sub, ab, col, dd, k0, k1, k2, k3, k5, mN, hC, hN, hni, TL⟩ := hC;obtain ⟨N', nm', qn', bs', hdct', sn', sub', ab', col', dd', k0', k1', k2', k3', k5', mN', hC2, hN', hni', TL'⟩ := hC2;obtain ⟨hp, g, d, tk, os⟩ := s;have hb2 : (Value.ref C2 :: bm2).contains (.type "BaseException") = true := by rw [List.contains_cons, show bm2.contains (.type "BaseException") = true from TL'.hasType (by decide), Bool.or_true]
  have f := tc_notTuple;unfold excMatches
  repeat (first | (with_reducible refine wpAny_loadPart_at he ?_; rw [hc]) | with_reducible refine wpAny_loadPart_at hC2 ?_ | (with_reducible refine wpAny_isSubtype_exc hC2 ?_; rw [hb2]) | with_reducible refine wpAny_isSubtype_exc hC ?_ | wp_step)
  cases hb : (Value.ref C :: bm).contains (.ref C2) with
  | true => rw [hb] at h; wp_walk; exact h
  | false => rw [hb] at h; wp_walk; exact h
end
section
variable {K : PySem.W.Frag} {x t : Value} {Hh : Heap -> Prop}
theorem wu {c : Value} (ty : ∀ (M : Model) (h : Heap), K.In h -> Hh h -> PySem.W.Looks M h (typeOf x) t) (e : PySem.W.kitOne K t c = some true) : Answers (fun s => K.In s.heap /\ Hh s.heap) x c true := by
  intro dep tk prog w A R s hs;obtain ⟨h0, g, d, tt, os⟩ := s;obtain ⟨⟨X, p⟩, hq⟩ := hs;have look := ty (model prog w) h0 X p;unfold PySem.W.kitOne at e;unfold Builtin.«isinstance.nested»;refine wpAny_bind (look.at ?_);by_cases q : (t == c) = true
  · rw [if_pos q];exact wpAny_bind (wpAny_rule (wpAny_pure (hq tt)))
  · rw [if_neg q] at e;rw [if_neg q];obtain ⟨hty, his, hsub⟩ := PySem.W.kit_cls (M := model prog w) X e;have both : PySem.W.Looks (model prog w) h0 (isInstance x c) true := look.andThen hsub;refine wpAny_bind (hty.at ?_);rw [if_pos (by decide)]
    k_delta "plainIsInstance"
    refine wpAny_bind (wpAny_bind (his.at ?_));simp only [if_false, Bool.false_eq_true, Bool.not_true];refine wpAny_bind (both.at ?_)
    first | exact wpAny_pure (wpAny_pure (hq tt)) | (simp only [if_true]; exact wpAny_pure (wpAny_pure (hq tt))) | (simp only [if_true]; exact wpAny_pure (hq tt)) | exact wpAny_bind (wpAny_pure (wpAny_pure (hq tt)))
end
def kB (i : Nat) (p : Addr) : Fe := fun ρ => match ρ[i]? with
  | some (.exc q) => if q = p then .ok (.bool true) else .no
  | _ => .no
section
variable {X : Cx} {nl : Nat} {G : List Str} {p C C2 : Addr} {ob : Obj} {n cx : Str} {pi pe pc pos : Pos}
theorem tY (hp : (p, ob) ∈ X.pn) (hc : ob.cls = .ref C) : cI X (.builtin "isinstance") (fun xs H Q => ∃ cv, xs = [.ref p, cv] /\ (∀ u, bx cv u -> PySem.W.kitOne X.K (.ref C) u = some true) /\ Q (.bl true) H) := by
  intro pins s σ H xs us Q I r h;obtain ⟨cv, rfl, hk, q⟩ := h;obtain ⟨u, v, rfl, rx, ry⟩ := oZ r;cases rx;have pin := (I.pin (p, ob) (List.mem_append_left _ hp)).1;refine call_isinstance (S := fun _ R s => (X.K.In s.heap /\ s.heap.get? p = some ob) /\ ∀ tk, R (.ok (.ret (.bool true))) { s with toks := tk })
    (fun prog w A R s hs => isinstance_outer (wu (K := X.K) (x := .ref p) (t := .ref C) (Hh := fun h => h.get? p = some ob) (fun M h _ hp => hc ▸ (PySem.W.Looks.ld hp).andThen .now) (hk _ ry) 0 _ prog w A R s hs) (fun z => nomatch z)) ⟨⟨I.kIn, pin⟩, fun tk => ⟨.bl true, H, I.tok tk, rfl, q⟩⟩
theorem yp {i : Nat} {σ : St} {H : Hp} {Q : VK} (h : gM X fO (kB i p) σ H Q) : σ[i]? = some (some (.ref p)) /\ Q (.bl true) H := by
  obtain ⟨ρ, sl, q⟩ := h;unfold kB at q;split at q
  · rename_i q' e;split at q
    · rename_i e';subst e';obtain ⟨o, h1, h2⟩ := sl.at e;have h2' : o = some (.ref q') := h2;subst h2';exact ⟨h1, q _ H (ay.refl _) dk⟩
    · exact q.elim
  · exact q.elim
theorem nP (T : xV X nl G) (hp : (p, ob) ∈ X.pn) (hc : ob.cls = .ref C) (i : Nat) (hN : X.N[i]? = some n) (j : Nat) (hG : G[j]? = some ("isinstance" : Str)) (hm : X.mg "isinstance" = none) (j' : Nat) (hG' : G[j']? = some cx) (hm' : X.mg cx = some (.ref C2))
    (hk : PySem.W.kitOne X.K (.ref C) (.ref C2) = some true) : ah X (.Call (.Name "isinstance" pi) [.Name n pe, .Name cx pc] [] pos) (kB i p) := by
  have g := T.gl _ (List.mem_of_getElem? hG);have g' := T.gl _ (List.mem_of_getElem? hG');have v := T.vis n (List.mem_of_getElem? hN);have h1 : PE X (.Name n pe) (yG i) := lu hN v.1 v.2.1 v.2.2;have h2 : PE X (.Name cx pc) (tC (.ref C2)) := rF g'.1 hm' rfl g'.2.1;refine PE.imp (jL (tY hp hc) g.1 hm PyProof.Rows.boot_isinstance (jt h1 (jt h2 qu)) g.2.2 g.2.1) fun σ H Q h => ?_
  obtain ⟨a, b⟩ := yp h;exact ⟨_, a, .ref C2, rfl, fun u r => by cases r; exact hk, b⟩
theorem Z.nP (T : xV X nl G) (hp : (p, ob) ∈ X.pn) (hc : ob.cls = .ref C) (i : Nat) (hN : X.N[i]? = some n) (j : Nat) (hG : G[j]? = some ("isinstance" : Str)) (hm : X.mg "isinstance" = none) (j' : Nat) (hG' : G[j']? = some cx) (hm' : X.mg cx = some (.ref C2)) (hk : PySem.W.kitOne X.K (.ref C) (.ref C2) = some true) : Z.ah X (.Call (.Name "isinstance" pi) [.Name n pe, .Name cx pc] [] pos) (kB i p) :=
  ⟨D2.nP T hp hc i hN j hG hm j' hG' hm' hk⟩
end
def yE (X : Cx) (C : Addr) (hs : List ExceptHandler) (F : Addr -> aH -> R PyData) : Prop :=
  ∀ (pins : List (Addr × Obj)) (σ : St) (Hc H : Hp) (sc s : Shared) (p : Addr) (Fm : Hp) (ρ : aH) (D : nk), aE X pins σ Hc sc -> kw X.prog X.w X.stack Hc sc C H (.ref p) s -> fQ Fm H σ ρ ->
    (match F p ρ with
      | .ok d => ∀ v H', ay Fm H' -> Rp H' d v -> D.rt v H'
      | _ => False) -> wpAny (model X.prog X.w) X.A (handleBy (.ref p) X.env hs) (SP X pins D) X.xe s
section
variable {X : Cx} {nl : Nat} {G : List Str} {C C2 : Addr} {n cx : Str} {np rp hp : Pos} {e : Expr} {bR : List ExceptHandler} {F : Addr -> aH -> R PyData} {f : Addr -> Fe} {name : Option Str} {body : List Stmt}
theorem qH {pins : List (Addr × Obj)} {σ : St} {Hc H : Hp} {sc s : Shared} {p : Addr} {Q : Flow -> Shared -> Prop} {E : Value -> Shared -> Prop} (T : Tb X nl G) (j : Nat) (hG : G[j]? = some cx) (hm : X.mg cx = some (.ref C2)) (hq : PySem.W.excIn X.K C mf kW = true) (hq2 : PySem.W.excIn X.K C2 mf kW = true)
    (I : aE X pins σ Hc sc) (fl : kw X.prog X.w X.stack Hc sc C H (.ref p) s)
    (h : if (Value.ref C :: dm X.K C).contains (.ref C2) = true then codeAny (model X.prog X.w) (X.A.mark (some (.ref p))) (.handlers (.ref p) [.ExceptHandler none name body hp] X.env) (fun r s₂ => match r with
          | .ok f => (match name with
            | none => Q f s₂
            | some n => wpAny (model X.prog X.w) X.A (do bindName X.env n .none; unbindBehindTheSuite X.env n hp) (fun _ s₃ => Q f s₃) E s₂)
          | .error x => cameBackBy (model X.prog X.w) X.A X.env E x s₂) s
      else wpAny (model X.prog X.w) X.A (handleBy (.ref p) X.env bR) Q E s) :
    wpAny (model X.prog X.w) X.A (handleBy (.ref p) X.env (.ExceptHandler (some (.Name cx np)) name body hp :: bR)) Q E s := by
  have I1 := fl.inv I;obtain ⟨ob, vs, ho, hcls, hd, hn, hfr⟩ := fl.obj;have g := T.gl cx (List.mem_of_getElem? hG);have hl : X.A.frames = some X.stack := I.ok.frames;refine wpAny_handleBy_cons (codeAny_handlers_test ?_) (by intro z; cases z);refine Calls.Name_function_global I1.ok.kind g.1 (Calls.loadGlobal_global (by rw [I1.ok.glob]; exact I1.mod.glob.keeps I1.bk) hm ?_) g.2.1;refine sL ((kX I1.ok.mod.kin hq).keep I1.bk) ((kX I1.ok.mod.kin hq2).keep I1.bk) ho hcls ?_;cases hb : (Value.ref C :: dm X.K C).contains (.ref C2) with
  | true => rw [hb] at h; exact h
  | false => rw [hb] at h; exact h
theorem vm (T : Tb X nl G) (j : Nat) (hG : G[j]? = some cx) (hm : X.mg cx = some (.ref C2)) (hq : PySem.W.excIn X.K C mf kW = true) (hq2 : PySem.W.excIn X.K C2 mf kW = true) (hb : (Value.ref C :: dm X.K C).contains (.ref C2) = false)
    (hr : yE X C bR F) : yE X C (.ExceptHandler (some (.Name cx np)) name body hp :: bR) F := fun pins σ Hc H sc s p Fm ρ D I fl sl q => by
  refine qH T j hG hm hq hq2 I fl ?_;rw [hb];exact hr pins σ Hc H sc s p Fm ρ D I fl sl q
theorem xB (T : Tb X nl G) (j : Nat) (hG : G[j]? = some cx) (hm : X.mg cx = some (.ref C2)) (hq : PySem.W.excIn X.K C mf kW = true) (hq2 : PySem.W.excIn X.K C2 mf kW = true) (hb : (Value.ref C :: dm X.K C).contains (.ref C2) = true)
    (he : ∀ p ob, ob.cls = .ref C -> xV (Xh X p ob) nl G -> ah (Xh X p ob) e (f p)) : yE X C (.ExceptHandler (some (.Name cx np)) none [.Return (some e) rp] hp :: bR) (fun p ρ => f p ρ) := fun pins σ Hc H sc s p Fm ρ D I fl sl q => by
  refine qH T j hG hm hq hq2 I fl ?_;rw [hb];refine codeAny_handlers_suite (fl.land fun h' fl' => ?_);have I1 := fl'.inv I;obtain ⟨ob, vs, ho, hcls, hd, hn, hfr⟩ := fl'.obj;have hfs : p ∉ X.fs /\ p ≠ X.env.locals := by
    constructor
    · intro z;apply hfr;rcases I.ok.stk with e | ⟨e, _⟩
      · rw [e]; exact z
      · rw [e];obtain ⟨env, he, hf⟩ := List.mem_filterMap.mp (show p ∈ X.outer.filterMap (·.frame) from z);exact List.mem_filterMap.mpr ⟨env, List.mem_cons_of_mem _ he, hf⟩
    · intro z;obtain ⟨m, ⟨o, es, ep, q1, q2, _⟩, _⟩ := I1.loc;rw [<- z, ho] at q1;cases q1;rw [hd] at q2;cases q2
  have Ih := o1 I1 ho hn hfs.2 hfs.1 (fun v z => by rw [hd] at z; cases z);dsimp only at q;cases ef : f p ρ with
  | ex c => rw [ef] at q; exact q.elim
  | no => rw [ef] at q; exact q.elim
  | ok d =>
    rw [ef] at q;have hw := he p ob hcls (T.h p ob) pins _ σ H (fun v H' => ay H H' /\ Rp H' d v) Ih ⟨ρ, sl.sl, by rw [ef]; exact fun v H' s' r => ⟨s', r⟩⟩;refine wpAny_execs_cons (wpAny_Return_some (wpAny_mono hw (fun u s2 ⟨v, H2, I2, r2, s12, rp⟩ => ?_) fun _ _ z => False.elim z));exact ⟨v, σ, H2, lG I.ok I2, r2, q v H2 (sl.fm.trans s12) rp⟩
end
theorem xS {X : Cx} {pins : List (Addr × Obj)} {σ : St} {H : Hp} {s : Shared} {M : Model} {A : Around} {E : Value -> Shared -> Prop} {i : Nat} {x : Str} {v : V} {Q : Unit -> Shared -> Prop} (I : aE X pins σ H s) (hN : X.N.Nodup) (hi : X.N[i]? = some x) (hk : X.env.scope.names.lookup x = some .local)
    (hv : σ[i]? = some (some v)) (h : ∀ s', aE X pins (σ.set i none) H s' -> Q () s') : wpAny M A (unbindName X.env x) Q E s := by
  obtain ⟨m, hn, hl⟩ := id I.loc;obtain ⟨u, ru, lk⟩ := hl i x v hi hv (.inl hk);have hm : m x = some u := by
    rcases lk with ⟨_, z⟩ | ⟨k, _⟩
    · exact z
    · rcases k with k | k <;> (have k' : X.env.scope.names.lookup x = _ := k; rw [hk] at k'; cases k')
  have plain : (X.env.scope.kind == .class || (X.env.scope.kind == .module && X.env.locals != X.env.globals)) = false := by rw [I.ok.kind]; rfl
  refine wpAny_unbindName_local hk hn hm plain fun h' w' hn' sb => h _ ?_
  obtain ⟨oL, _, _, hoL, _⟩ := id hn;have young : ∀ b o, X.s₀.heap.get? b = some o -> b ≠ X.env.locals := fun b o q => Nat.ne_of_lt (Nat.lt_of_lt_of_le (Heap.lt_size q) I.ok.above)
  refine ⟨I.ok, I.os, I.bare, ⟨fun b o q n hb hx => (sb.2 b (young b o q)).trans (I.base.keep b o q n hb hx), fun b o q n hb hx => ?_, I.base.free, fun b o q hx => ?_, I.base.tups, I.base.frzs, I.base.tbls⟩, ⟨_, hn', fun j y v' q1 q2 q3 => ?_⟩, fun y c q => ?_, I.free, I.freeC, fun p hp => ?_, fun b ob q => ?_, by simpa using I.len⟩
  · obtain ⟨sl, q1⟩ := I.base.slot b o q n hb hx;exact ⟨sl, (sb.2 b (young b o q)).trans q1⟩
  · obtain ⟨o', q1⟩ := I.base.there b o q hx;exact ⟨o', (sb.2 b (young b o q)).trans q1⟩
  · by_cases hj : i = j
    · subst hj;rw [List.getElem?_set, if_pos rfl] at q2;split at q2 <;> cases q2
    · rw [List.getElem?_set, if_neg hj] at q2;obtain ⟨u', r', z⟩ := hl j y v' q1 q2 q3;refine ⟨u', r', ?_⟩;rcases z with ⟨k, z⟩ | ⟨k, c, z1, z2⟩
      · refine .inl ⟨k, ?_⟩;have ne : y ≠ x := fun t => hj (lI hN hi (t ▸ q1))
        simp [ne, z]
      · exact .inr ⟨k, c, z1, z2.sameBut sb (I.cne y c z1)⟩
  · obtain ⟨w2, z⟩ := I.cell y c q;exact ⟨w2, z.sameBut sb (I.cne y c q)⟩
  · obtain ⟨q, n, ne, nf, d⟩ := I.pin p hp;exact ⟨(sb.2 p.1 ne).trans q, n, ne, nf, d⟩
  · refine (I.hok b ob q).stay (fun c w2 hc z => (sb.2 c ?_).trans z) (fun _ z => z) fun _ _ z => z
    rintro rfl;rcases hc with rfl | hc
    · rw [I.free] at q; cases q
    · rw [I.free] at hc; cases hc
section
variable {X : Cx} {nl : Nat} {G : List Str} {C C2 : Addr} {n cx : Str} {np rp hp : Pos} {e : Expr} {bR : List ExceptHandler} {f : Addr -> Fe}
theorem sk {pins : List (Addr × Obj)} {σ : St} {Hc H : Hp} {sc s : Shared} {p : Addr} (I : aE X pins σ Hc sc) (fl : kw X.prog X.w X.stack Hc sc C H (.ref p) s) : ∃ ob, s.heap.get? p = some ob /\ ob.cls = .ref C /\ aE (Xh X p ob) pins σ H s := by
  have I1 := fl.inv I;obtain ⟨ob, vs, ho, hcls, hd, hn, hfr⟩ := fl.obj;refine ⟨ob, ho, hcls, o1 I1 ho hn (fun z => ?_) (fun z => ?_) (fun v z => by rw [hd] at z; cases z)⟩
  · obtain ⟨m, ⟨o, es, ep, q1, q2, _⟩, _⟩ := I1.loc;rw [<- z, ho] at q1;cases q1;rw [hd] at q2;cases q2
  · apply hfr;rcases I.ok.stk with e | ⟨e, _⟩
    · rw [e]; exact z
    · rw [e];obtain ⟨env, he, hf⟩ := List.mem_filterMap.mp (show p ∈ X.outer.filterMap (·.frame) from z);exact List.mem_filterMap.mpr ⟨env, List.mem_cons_of_mem _ he, hf⟩
theorem pD (T : Tb X nl G) (j : Nat) (hG : G[j]? = some cx) (hm : X.mg cx = some (.ref C2)) (hq : PySem.W.excIn X.K C mf kW = true) (hq2 : PySem.W.excIn X.K C2 mf kW = true) (hb : (Value.ref C :: dm X.K C).contains (.ref C2) = true)
    (i : Nat) (hN : (X.N.take nl)[i]? = some n) (hk : X.env.scope.names.lookup n = some .local)
    (he : ∀ p ob, ob.cls = .ref C -> xV (Xh X p ob) nl G -> ah (Xh X p ob) e (f p)) : yE X C (.ExceptHandler (some (.Name cx np)) (some n) [.Return (some e) rp] hp :: bR) (fun p ρ => f p (ρ.set i (.exc p))) := fun pins σ Hc H sc s p Fm ρ D I fl sl q => by
  obtain ⟨hi, hl, hf⟩ := T.nm hN;refine qH T j hG hm hq hq2 I fl ?_;rw [hb];refine codeAny_handlers_suite_as (fl.land fun h' fl' => ?_);obtain ⟨ob, ho, hcls, Ih⟩ := sk I fl';refine jn (X := Xh X p ob) (v := .ref p) Ih T.nd hi hl rfl (fun s2 I2 => ?_) hf;dsimp only at q;have hi' : i < σ.length := by rw [I.len]; exact (List.getElem?_eq_some_iff.mp hi).1
  cases ef : f p (ρ.set i (.exc p)) with
  | ex c => rw [ef] at q; exact q.elim
  | no => rw [ef] at q; exact q.elim
  | ok d =>
    rw [ef] at q;have sl2 : Sl H (σ.set i (some (.ref p))) (ρ.set i (.exc p)) := Sl.set (c := .exc p) (o := some (.ref p)) sl.sl i rfl;have hw := he p ob hcls (T.h p ob) pins _ (σ.set i (some (.ref p))) H (fun v H' => ay H H' /\ Rp H' d v) I2 ⟨_, sl2, by rw [ef]; exact fun v H' s' r => ⟨s', r⟩⟩;refine wpAny_execs_cons (wpAny_Return_some (wpAny_mono hw (fun u s3 ⟨v, H3, I3, r3, s13, rp⟩ => ?_) fun _ _ z => False.elim z));have I4 := lG I.ok I3;show wpAny _ X.A (do bindName X.env n .none; unbindBehindTheSuite X.env n hp) _ _ s3;refine wpAny_bind (wpAny_bindName (jn (v := .non) I4 T.nd hi hl rfl (fun s5 I5 => ?_) hf));unfold unbindBehindTheSuite;refine wpAny_onRaise (xS (v := .non) I5 T.nd hi hk (by rw [List.getElem?_set, if_pos rfl, if_pos (by simpa using hi')]) fun s6 I6 => ?_);exact ⟨v, _, H3, I6, r3, q v H3 (sl.fm.trans s13) rp⟩
end
open Classical in
noncomputable def rP (F : Addr -> R PyData) : R PyData := if h : ∃ r, ∀ p, F p = r then h.choose else .no
theorem jb (r : R PyData) : rP (fun _ => r) = r := by
  have h : ∃ r', ∀ p : Addr, (fun _ => r) p = r' := ⟨r, fun _ => rfl⟩
  unfold rP;rw [dif_pos h];exact (h.choose_spec 0).symm
theorem vg {F : Addr -> R PyData} {d : PyData} (h : rP F = .ok d) (p : Addr) : F p = .ok d := by
  unfold rP at h;split at h
  · rename_i q;rw [q.choose_spec p];exact h
  · cases h
abbrev Hs := List (Str × (Addr -> aH -> R PyData))
noncomputable def o6 (hs : Hs) (ρ : aH) (k : PyData -> qA) : R PyData -> R qA
  | .ok d => .ok (k d)
  | .no => .no
  | .ex c => match hs.lookup c with
    | some h => lw (rP (fun p => h p ρ)) >>= fun d => .ok (.rt d)
    | none => .no
inductive iN (X : Cx) (src : List ExceptHandler) : Hs -> Prop
  | nil : iN X src []
  | cons {c : Str} {C : Addr} {h : Addr -> aH -> R PyData} {hs : Hs} (hm : X.mg c = some (.ref C)) (he : yE X C src h) (r : iN X src hs) : iN X src ((c, h) :: hs)
theorem iN.at {X : Cx} {src : List ExceptHandler} {c : Str} {h : Addr -> aH -> R PyData} : ∀ {hs : Hs}, iN X src hs -> hs.lookup c = some h -> ∃ C, X.mg c = some (.ref C) /\ yE X C src h
  | _, .nil, e => by cases e
  | _, .cons (c := c') hm he r, e => by
    rw [List.lookup_cons] at e;split at e
    · rename_i q;have : c = c' := by simpa using q
      subst this;cases e;exact ⟨_, hm, he⟩
    · exact iN.at r e
section
variable {X : Cx} {k n : Nat} {f : Addr} {fd : FuncData} {ps : List Str} {F : List PyData -> R PyData} {x : Str} {p pos sp tp : Pos} {e : Expr} {es : List Expr} {fs : aH -> R (List PyData)} {nl : Nat} {G : List Str}
theorem oF {pins : List (Addr × Obj)} {σ : St} {H : Hp} {s : Shared} {ρ : aH} {ds : List PyData} {Qv : Value -> Shared -> Prop} {Ev : Value -> Shared -> Prop}
    (C : bj X.prog X.w X.K X.mg X.base (dc X.prog X.w X.mg) k f fd ps (dM F n)) (hr : dG k X.A) (T : Tb X nl G) (j : Nat) (hG : G[j]? = some x) (hm : X.mg x = some (.ref f)) (hk : PySem.W.keepIn X.K (.ref f) = true) (hb : gH X.K fd ps []) (ha : mh X.nox (e :: es) fs)
    (hfs : ∀ ρ ds, fs ρ = .ok ds -> ds.length = n) (he : (e :: es).all am = true) (I : aE X pins σ H s) (sl : Sl H σ ρ) (efs : fs ρ = .ok ds) (hno : F ds ≠ .no)
    (hok : ∀ d, F ds = .ok d -> ∀ v u H' s', aE X pins σ H' s' -> ay H H' -> Rp H' d v -> bx v u -> Qv u s')
    (hex : ∀ c, F ds = .ex c -> ∀ C Hc sc H1 e s', X.mg c = some (.ref C) -> aE X pins σ Hc sc -> ay H Hc -> kw X.prog X.w X.stack Hc sc C H1 e s' -> Ev e s') :
    wpAny (model X.prog X.w) X.A (eval (.Call (.Name x p) (e :: es) [] pos) X.env) Qv Ev s := by
  rw [List.all_cons, Bool.and_eq_true] at he;have g := T.gl x (List.mem_of_getElem? hG);refine wpAny_Call_Name_kw (kM I g.1 hm ?_ g.2.1);have hw := ha pos pins s σ H (fun vs H' => ay H H' /\ RA Rp H' ds vs) (I.wish _) ⟨ρ, sl, by rw [efs]; exact fun vs H' s' r => ⟨s', r⟩⟩;refine PySem.W.callWith_K (h₀ := X.base) I.ok.mod.kin hk (wpAny_mono hw (fun us s1 ⟨vs, H1, I1, r, s1', ra⟩ => ⟨I1.unwish.kIn, ?_⟩) fun _ _ z => False.elim z) (bc he.1) (kU he.2);have I1 := I1.unwish;have ra' := lV.mp ra;have hsp : dM F n vs H1 (fun v H' => ay H1 H' /\ ∃ d, F ds = .ok d /\ Rp H' d v) (fun v _ H' => ∃ c, F ds = .ex c /\ v = .str c 0) := by
    refine ⟨ds, ra', hfs ρ ds efs, ?_⟩;cases ef : F ds with
    | ok d => exact fun v H' s' r => ⟨s', d, rfl, r⟩
    | ex c => exact fun H' s' => ⟨c, rfl, rfl⟩
    | no => exact absurd ef hno
  have hl : (us ++ []).length = ps.length := by rw [List.append_nil, <- r.length]; exact C.len _ _ _ _ hsp
  refine wpAny_call (codeAny_mono (C.run X.A X.stack s1 H1 ⟨us, []⟩ (us ++ []) vs _ _ hr I1.env0 (hb s1 us I1.kIn hl) (by rw [List.append_nil]; exact r) hsp) fun r' s' hq => ?_);cases r' with
  | error e' =>
    obtain ⟨c', C', H', hm', fl, c, ef, ev⟩ := hq;have : c' = c := by injection ev
    subst this;exact hex c' ef C' H1 s1 H' e' s' hm' I1 s1' fl
  | ok fl =>
    cases fl with
    | ret u =>
      obtain ⟨v, H', I', rv, s2, d, ef, rp⟩ := I1.after hq;exact hok d ef v u H' s' I' (s1'.trans s2) rp rv
    | next => exact False.elim hq
    | brk => exact False.elim hq
    | cont => exact False.elim hq
theorem lX {pins : List (Addr × Obj)} {σ : St} {H Fm : Hp} {ρ : aH} {D : nk} {h0 : ExceptHandler} {src : List ExceptHandler} {hs : Hs} {kk : PyData -> qA} {c : Str} {r : R PyData} (hstk : X.stack = X.env :: X.outer /\ X.env.frame = some X.env.locals) (hH : iN X (h0 :: src) hs) (ec : r = .ex c) (sl : fQ Fm H σ ρ) (q : u4 X Fm (o6 hs ρ kk r) D)
    {C : Addr} {Hc H1 : Hp} {sc s' : Shared} {ev : Value} (hm : X.mg c = some (.ref C)) (I : aE X pins σ Hc sc) (sH : ay H Hc) (fl : kw X.prog X.w X.stack Hc sc C H1 ev s') :
    wpAny (model X.prog X.w) X.A (noteFrame ev X.env) (fun _ s₂ => wpAny (model X.prog X.w) X.A (setFlight ev none) (fun _ s₃ => wpAny (model X.prog X.w) X.A (handleBy ev X.env (h0 :: src)) (SP X pins D) X.xe s₃) X.xe s₂) X.xe s' := by
  subst ec;simp only [o6] at q;cases el : hs.lookup c with
  | none => rw [el] at q; exact q.elim
  | some h =>
    rw [el] at q;dsimp only at q;obtain ⟨C', hm', hE⟩ := hH.at el;rw [hm] at hm';cases hm';have fl' := fl;rw [hstk.1] at fl';refine fl'.look (by rw [I.ok.frames, hstk.1]) hstk.2 fun p h' ep fl2 => ?_
    subst ep;rw [<- hstk.1] at fl2;have sl1 : fQ Fm H1 σ ρ := sl.mono (sH.trans fl.same);refine hE pins σ Hc H1 sc _ p Fm ρ D I fl2 sl1 ?_;cases ep : rP (fun p => h p ρ) with
    | ex c => rw [ep] at q; exact q.elim
    | no => rw [ep] at q; exact q.elim
    | ok d =>
      rw [ep] at q;rw [vg ep p];exact q
noncomputable def mL (F : List PyData -> R PyData) (fs : aH -> R (List PyData)) (hs : Hs) : Fs := fun ρ => lw (fs ρ) >>= fun ds => o6 hs ρ (fun _ => .nx ρ) (F ds)
noncomputable def mW (F : List PyData -> R PyData) (fs : aH -> R (List PyData)) (hs : Hs) : Fs := fun ρ => lw (fs ρ) >>= fun ds => o6 hs ρ (fun d => .rt d) (F ds)
variable {h0 : ExceptHandler} {src : List ExceptHandler} {hs : Hs}
theorem nU (C : bj X.prog X.w X.K X.mg X.base (dc X.prog X.w X.mg) k f fd ps (dM F n)) (hr : dG k X.A) (T : Tb X nl G) (hstk : X.stack = X.env :: X.outer /\ X.env.frame = some X.env.locals) (j : Nat) (hG : G[j]? = some x) (hm : X.mg x = some (.ref f)) (hk : PySem.W.keepIn X.K (.ref f) = true) (hb : gH X.K fd ps [])
    (ha : mh X.nox (e :: es) fs) (hfs : ∀ ρ ds, fs ρ = .ok ds -> ds.length = n) (hH : iN X (h0 :: src) hs) (he : (e :: es).all am = true := by rfl) (hsw : swapsWith (.Call (.Name x p) (e :: es) [] pos) none sp.line X.env = pure false := by rfl) :
    fI X (.Try [.Expr (.Call (.Name x p) (e :: es) [] pos) sp] (h0 :: src) [] [] tp) (mL F fs hs) := fun Fm => by
  intro pins s σ H D I ⟨ρ, sl, q⟩;unfold mL at q;cases efs : fs ρ with
  | ex c => rw [efs] at q; exact q.elim
  | no => rw [efs] at q; exact q.elim
  | ok ds =>
    rw [efs] at q;simp only [lw, R.ok_bind] at q;refine wpAny_Try_except (wpAny_execs_cons (wpAny_Expr_any (oF C hr T j hG hm hk hb ha hfs he I sl.sl efs (fun z => by rw [z] at q; exact q) (fun d ed v u H' s' I' sH rp rv => ?_) fun c ec C' Hc sc H1 ev s' hm' I' sH fl => lX hstk hH ec sl q hm' I' sH fl) I.quiet hsw));rw [ed] at q;exact wpAny_execs_nil (wpAny_execs_nil ⟨σ, H', I', q σ H' (sl.mono sH)⟩)
theorem Z.nU (C : bj X.prog X.w X.K X.mg X.base (dc X.prog X.w X.mg) k f fd ps (dM F n)) (hr : dG k X.A) (T : Tb X nl G) (hstk : X.stack = X.env :: X.outer /\ X.env.frame = some X.env.locals) (j : Nat) (hG : G[j]? = some x) (hm : X.mg x = some (.ref f)) (hk : PySem.W.keepIn X.K (.ref f) = true) (hb : gH X.K fd ps []) (ha : Z.mh X.nox (e :: es) fs) (hfs : ∀ ρ ds, fs ρ = .ok ds -> ds.length = n) (hH : iN X (h0 :: src) hs) (he : (e :: es).all am = true := by rfl) (hsw : swapsWith (.Call (.Name x p) (e :: es) [] pos) none sp.line X.env = pure false := by rfl) : Z.fI X (.Try [.Expr (.Call (.Name x p) (e :: es) [] pos) sp] (h0 :: src) [] [] tp) (mL F fs hs) :=
  ⟨D2.nU C hr T hstk j hG hm hk hb ha.un hfs hH he hsw⟩
theorem oo (C : bj X.prog X.w X.K X.mg X.base (dc X.prog X.w X.mg) k f fd ps (dM F n)) (hr : dG k X.A) (T : Tb X nl G) (hstk : X.stack = X.env :: X.outer /\ X.env.frame = some X.env.locals) (j : Nat) (hG : G[j]? = some x) (hm : X.mg x = some (.ref f)) (hk : PySem.W.keepIn X.K (.ref f) = true) (hb : gH X.K fd ps [])
    (ha : mh X.nox (e :: es) fs) (hfs : ∀ ρ ds, fs ρ = .ok ds -> ds.length = n) (hH : iN X (h0 :: src) hs) (he : (e :: es).all am = true := by rfl) :
    fI X (.Try [.Return (some (.Call (.Name x p) (e :: es) [] pos)) sp] (h0 :: src) [] [] tp) (mW F fs hs) := fun Fm => by
  intro pins s σ H D I ⟨ρ, sl, q⟩;unfold mW at q;cases efs : fs ρ with
  | ex c => rw [efs] at q; exact q.elim
  | no => rw [efs] at q; exact q.elim
  | ok ds =>
    rw [efs] at q;simp only [lw, R.ok_bind] at q;refine wpAny_Try_except (wpAny_execs_cons (wpAny_Return_some (oF C hr T j hG hm hk hb ha hfs he I sl.sl efs (fun z => by rw [z] at q; exact q) (fun d ed v u H' s' I' sH rp rv => ?_) fun c ec C' Hc sc H1 ev s' hm' I' sH fl => lX hstk hH ec sl q hm' I' sH fl)));rw [ed] at q;exact ⟨v, σ, H', I', rv, q v H' (sl.fm.trans sH) rp⟩
theorem Z.oo (C : bj X.prog X.w X.K X.mg X.base (dc X.prog X.w X.mg) k f fd ps (dM F n)) (hr : dG k X.A) (T : Tb X nl G) (hstk : X.stack = X.env :: X.outer /\ X.env.frame = some X.env.locals) (j : Nat) (hG : G[j]? = some x) (hm : X.mg x = some (.ref f)) (hk : PySem.W.keepIn X.K (.ref f) = true) (hb : gH X.K fd ps []) (ha : Z.mh X.nox (e :: es) fs) (hfs : ∀ ρ ds, fs ρ = .ok ds -> ds.length = n) (hH : iN X (h0 :: src) hs) (he : (e :: es).all am = true := by rfl) : Z.fI X (.Try [.Return (some (.Call (.Name x p) (e :: es) [] pos)) sp] (h0 :: src) [] [] tp) (mW F fs hs) :=
  ⟨D2.oo C hr T hstk j hG hm hk hb ha.un hfs hH he⟩
end
def lY (p : Int -> Int -> Bool) (n : Int) (ns : List Int) : Int := ns.foldl (fun a b => if p b a = true then b else a) n
theorem iX {p : Int -> Int -> Bool} {le : Int -> Int -> Prop} (h1 : ∀ a b, p b a = true -> le b a) (h2 : ∀ a b, ¬ p b a = true -> le a b) (tr : ∀ a b c, le a b -> le b c -> le a c) (rf : ∀ a, le a a) : ∀ (ns : List Int) (n : Int), lY p n ns ∈ n :: ns /\ ∀ a ∈ n :: ns, le (lY p n ns) a
  | [], n => ⟨by simp [lY], fun a ha => by simp at ha; subst ha; exact rf _⟩
  | m :: ns, n => by
    obtain ⟨g1, g2⟩ := iX h1 h2 tr rf ns (if p m n = true then m else n);have e : lY p n (m :: ns) = lY p (if p m n = true then m else n) ns := rfl;rw [e];refine ⟨?_, fun a ha => ?_⟩
    · rcases List.mem_cons.mp g1 with z | z
      · rw [z]; split <;> simp
      · exact List.mem_cons_of_mem _ (List.mem_cons_of_mem _ z)
    · have k := g2 _ List.mem_cons_self;rcases List.mem_cons.mp ha with rfl | ha
      · refine tr _ _ _ k ?_;split
        · rename_i z; exact h1 _ _ z
        · exact rf _
      · rcases List.mem_cons.mp ha with rfl | ha
        · refine tr _ _ _ k ?_;split
          · exact rf _
          · rename_i z; exact h2 _ _ z
        · exact g2 a (List.mem_cons_of_mem _ ha)
def tR (n : Int) (ns : List Int) : Int := lY (fun b a => decide (b < a)) n ns
def qm (n : Int) (ns : List Int) : Int := lY (fun b a => decide (a < b)) n ns
theorem se (n : Int) (ns : List Int) : tR n ns ∈ n :: ns /\ ∀ a ∈ n :: ns, tR n ns <= a :=
  iX (le := (· <= ·)) (fun a b h => by simp at h; omega) (fun a b h => by simp at h; omega) (fun a b c => Int.le_trans) Int.le_refl ns n
theorem mQ (n : Int) (ns : List Int) : qm n ns ∈ n :: ns /\ ∀ a ∈ n :: ns, a <= qm n ns :=
  iX (le := fun a b => b <= a) (fun a b h => by simp at h; omega) (fun a b h => by simp at h; omega) (fun a b c h1 h2 => Int.le_trans h2 h1) Int.le_refl ns n
section
variable {X : Cx} {a b c : Expr} {fa fb fc : Fe} {pos p2 : Pos} {nl : Nat} {G : List Str} {x : Str} {p : Pos}
theorem iW : ∀ {its : List Value} {ns : List Int}, IntsAre its ns -> ∃ ys : List (Int × Tok), its = ys.map (fun p => Value.int p.1 p.2) /\ ys.map (·.1) = ns
  | _, _, .nil => ⟨[], rfl, rfl⟩
  | _, _, .cons n t h => by
    obtain ⟨ys, e1, e2⟩ := iW h;exact ⟨(n, t) :: ys, by rw [List.map_cons, e1], by rw [List.map_cons, e2]⟩
theorem yx (hc : X.calm = true) : cI X (.builtin "min") (fun xs H Q => ∃ p n ns, xs = [.ref p] /\ kD X.K H p ((n :: ns).map V.int) /\ Q (.int (tR n ns)) H) := by
  intro pins s σ H xs us Q I r h;obtain ⟨p, n, ns, rfl, hq, q⟩ := h;obtain ⟨u, rfl, rx⟩ := fj r;cases rx;obtain ⟨its, rv, pl, hz⟩ := I.list hq;obtain ⟨ys, e1, e2⟩ := iW (gE rv);have hl : s.heap.IsList p (intItems ys.toArray) := by
    have : intItems ys.toArray = its.toArray := by rw [e1]; simp [intItems]
    rw [this]; exact pl.isList
  have hlen : ys.length = ns.length + 1 := by have := congrArg List.length e2; simpa using this
  refine min_intList (I.ok.hd hc) hl (by simp; omega) fun v h' tk hv hk => ?_
  obtain ⟨t, rfl⟩ := intItems_at hv;obtain ⟨g1, g2⟩ := argBest_lt (numAt ys.toArray) (ys.toArray.size - 1);generalize argBest (fun i j => decide (numAt ys.toArray i < numAt ys.toArray j)) (ys.toArray.size - 1) = w at g1 g2 hv ⊢;have el : ys.toArray.toList.map (·.1) = n :: ns := e2;have m1 : numAt ys.toArray w ∈ n :: ns := by
    rw [numAt_eq, el];refine getD_mem ?_;simp at g1 ⊢;omega
  obtain ⟨k1, k2⟩ := se n ns;have e3 : numAt ys.toArray w = tR n ns := by
    refine Int.le_antisymm ?_ (k2 _ m1);obtain ⟨j, hj, e⟩ := mem_getD k1;have := g2 j (by simp at hj ⊢; omega);rw [numAt_eq ys.toArray j, el, e] at this;exact this
  rw [e3];exact ⟨.int _, H, I.kept hk, ⟨_, rfl⟩, q⟩
theorem rR (hc : X.calm = true) : cI X (.builtin "max") (fun xs H Q => ∃ p n ns, xs = [.ref p] /\ kD X.K H p ((n :: ns).map V.int) /\ Q (.int (qm n ns)) H) := by
  intro pins s σ H xs us Q I r h;obtain ⟨p, n, ns, rfl, hq, q⟩ := h;obtain ⟨u, rfl, rx⟩ := fj r;cases rx;obtain ⟨its, rv, pl, hz⟩ := I.list hq;obtain ⟨ys, e1, e2⟩ := iW (gE rv);have hl : s.heap.IsList p (intItems ys.toArray) := by
    have : intItems ys.toArray = its.toArray := by rw [e1]; simp [intItems]
    rw [this]; exact pl.isList
  have hlen : ys.length = ns.length + 1 := by have := congrArg List.length e2; simpa using this
  refine max_intList (I.ok.hd hc) hl (by simp; omega) fun v h' tk hv hk => ?_
  obtain ⟨t, rfl⟩ := intItems_at hv;obtain ⟨g1, g2⟩ := argBest_gt (numAt ys.toArray) (ys.toArray.size - 1);generalize argBest (fun i j => decide (numAt ys.toArray i > numAt ys.toArray j)) (ys.toArray.size - 1) = w at g1 g2 hv ⊢;have el : ys.toArray.toList.map (·.1) = n :: ns := e2;have m1 : numAt ys.toArray w ∈ n :: ns := by
    rw [numAt_eq, el];refine getD_mem ?_;simp at g1 ⊢;omega
  obtain ⟨k1, k2⟩ := mQ n ns;have e3 : numAt ys.toArray w = qm n ns := by
    refine Int.le_antisymm (k2 _ m1) ?_;obtain ⟨j, hj, e⟩ := mem_getD k1;have := g2 j (by simp at hj ⊢; omega);rw [numAt_eq ys.toArray j, el, e] at this;exact this
  rw [e3];exact ⟨.int _, H, I.kept hk, ⟨_, rfl⟩, q⟩
def AQ : PyData -> R PyData
  | .list ds => match cn ds with
    | some (n :: ns) => .ok (.int (tR n ns))
    | _ => .no
  | _ => .no
def ma : PyData -> R PyData
  | .list ds => match cn ds with
    | some (n :: ns) => .ok (.int (qm n ns))
    | _ => .no
  | _ => .no
theorem kO (T : Tb X nl G) (j : Nat) (hG : G[j]? = some ("max" : Str)) (hm : X.mg "max" = none) (ha : bh X a fa) (he : am a = true := by rfl) : ah X (.Call (.Name "max" p) [a] [] pos) (e1 ma fa) := by
  refine vS T j hG hm dQ PyProof.Rows.boot_max (rR T.calm) (fun H x d Q hx q => ?_) ha he;cases d with
  | list ds =>
    simp only [ma] at q;split at q
    · rename_i n ns ei;rw [dP ei] at hx;obtain ⟨a', vs, rfl, h, r⟩ := cM (K := X.K) hx;rw [jw r] at h;exact ⟨a', n, ns, rfl, h, q _ H (ay.refl _) ci⟩
    · exact q.elim
  | _ => exact q.elim
theorem Z.kO (T : Tb X nl G) (j : Nat) (hG : G[j]? = some ("max" : Str)) (hm : X.mg "max" = none) (ha : Z.bh X a fa) (he : am a = true := by rfl) : Z.ah X (.Call (.Name "max" p) [a] [] pos) (e1 ma fa) :=
  ⟨D2.kO T j hG hm ha.un he⟩
end
section
variable {X : Cx} {a b : Expr} {fa fb : Fe} {pos p : Pos} {nl : Nat} {G : List Str}
def iS : PyData -> PyData -> R PyData
  | .str z, .int k => if k = 0 \/ k = 1 then .ok (.str (if k = 1 then z else Str.empty)) else .no
  | _, _ => .no
theorem wp : gr X (binaryOp .Mult) (fun x y H Q => ∃ z k, x = .str z /\ y = .int k /\ (k = 0 \/ k = 1) /\ Q (.str (if k = 1 then z else Str.empty)) H) := by
  intro pins s σ H x y v u Q I rx ry h;obtain ⟨z, k, rfl, rfl, hk, q⟩ := h;obtain ⟨t, rfl⟩ := rx;obtain ⟨t', rfl⟩ := ry;rcases hk with rfl | rfl
  · exact PySem.P.mul_str_none (by decide) (by decide) ⟨.str Str.empty, H, I.tok _, ⟨_, rfl⟩, by simpa using q⟩
  · exact PySem.P.mul_str (by decide) (fun _ h => by simp at h) (fun _ h => by simp at h) (by
      rw [if_neg (by decide), if_pos (by simp)];exact ⟨.str z, H, I, ⟨_, rfl⟩, by simpa using q⟩)
theorem vD : bu X fO (fun x y H Q => ∃ z k, x = .str z /\ y = .int k /\ (k = 0 \/ k = 1) /\ Q (.str (if k = 1 then z else Str.empty)) H) iS := fun H x y dx dy Q hx hy q => by
  cases dx with
  | str z =>
    cases dy with
    | int k =>
      simp only [iS] at q;split at q
      · rename_i h;exact ⟨z, k, eN hx, bd hy, h, q _ H (ay.refl _) qR⟩
      · exact q.elim
    | _ => exact q.elim
  | _ => exact q.elim
theorem kL (ha : bh X a fa) (hb : bh X b fb) : ah X (.BinOp a .Mult b pos) (e2 iS fa fb) := j9 dQ wp vD ha hb
theorem Z.kL (ha : Z.bh X a fa) (hb : Z.bh X b fb) : Z.ah X (.BinOp a .Mult b pos) (e2 iS fa fb) :=
  ⟨D2.kL ha.un hb.un⟩
theorem jK (T : xV X nl G) (j : Nat) (hG : G[j]? = some ("int" : Str)) (hm : X.mg "int" = none) (ha : bh X a fa) (he : am a = true := by rfl) : ah X (.Call (.Name "int" p) [a] [] pos) (e1 iK fa) := by
  have q := T.gl ("int" : Str) (List.mem_of_getElem? hG);have key : PE X (.Call (.Name "int" p) [a] [] pos) (gM X fO (fun ρ => ae fa aA ρ >>= one iK)) :=
    PE.imp (mM mK q.1 hm PyProof.Rows.boot_int (jB ha nA he) q.2.2 q.2.1 (bc he)) (rq dQ (p8 fun H x d Q hx q => by
      cases d with
      | int i => exact .inl ⟨i, by rw [bd hx], q _ H (ay.refl _) ci⟩
      | bool k => exact .inr ⟨k, by rw [jC hx], q _ H (ay.refl _) ci⟩
      | _ => exact q.elim))
  rw [qd] at key;exact key
theorem Z.jK (T : xV X nl G) (j : Nat) (hG : G[j]? = some ("int" : Str)) (hm : X.mg "int" = none) (ha : Z.bh X a fa) (he : am a = true := by rfl) : Z.ah X (.Call (.Name "int" p) [a] [] pos) (e1 iK fa) :=
  ⟨D2.jK T j hG hm ha.un he⟩
end
section
variable {X : Cx} {o e : Expr} {fo fe : Fe} {apos cpos : Pos}
theorem uH : AX X "list.index" (fun x xs H Q => ∃ (l : Addr) (ns : List Int) (k : Int), x = .ref l /\ xs = [.int k] /\ kD X.K H l (ns.map V.int) /\ PyData.layable0 (.list (ns.map .int)) = true /\ k ∈ ns /\ Q (.int (ns.idxOf k : Nat)) H) := by
  intro pins s σ H x xs v us Q I rx rs h;obtain ⟨l, ns, k, rfl, rfl, hq, hlay, hk, q⟩ := h;cases rx;obtain ⟨u, rfl, t, rfl⟩ := fj rs;obtain ⟨its, rv, pl, hz⟩ := I.list hq;exact index_list_ints pl.isList (gE rv) hlay hk ⟨.int _, H, I.tok _, ⟨_, rfl⟩, q⟩
def vk : PyData -> R Unit
  | .list _ => .ok ()
  | _ => .no
def hV : PyData -> PyData -> R PyData
  | .list ds, .int k => match cn ds with
    | some ns => if PyData.layable0 (.list ds) = true /\ k ∈ ns then .ok (.int (ns.idxOf k : Nat)) else .no
    | none => .no
  | _, _ => .no
def hW (fo fe : Fe) : Fe := fun ρ => fo ρ >>= fun x => vk x >>= fun _ => fe ρ >>= fun y => hV x y
theorem hZ (ho : bh X o fo) (he : ah X e fe) (hb : attributeBase o "index" X.env (eval o X.env) = eval o X.env := by rfl) (hst : am e = true := by rfl) (hline : (apos.endLine == cpos.line) = true := by rfl) :
    ah X (.Call (.Attribute o "index" apos) [e] [] cpos) (hW fo fe) := by
  have sc : starEach [e] X.env = (false, eval e X.env) :: starEach [] X.env := bc hst;refine PE.imp (wM PySem.F.plainAttrs_list PySem.F.slot_list_index PySem.F.type_list_index uH ho (ad he aq hst) hb (by rw [sc]; rfl) hline sc rfl) fun σ H Q h => ?_
  refine (dl (P := oy) (f := fo) (k := fun ρ x => vk x >>= fun _ => fe ρ >>= fun y => hV x y) (dN (X := X) dQ Q) h).post fun v H1 ⟨ρ1, d1, sl1, _, p1, q1⟩ => ?_
  cases d1 with
  | list ds =>
    obtain ⟨a, vs, rfl, h1, r1⟩ := cM (K := X.K) p1;refine ⟨.inl ⟨rfl, _, h1⟩, ?_⟩;have q1 : qZ X fO (ae fe aA ρ1 >>= one (hV (.list ds))) H1 Q := by
      have e0 : (ae fe aA ρ1 >>= one (hV (.list ds))) = (fe ρ1 >>= fun y => hV (.list ds) y) := by
        unfold ae aA;cases fe ρ1 <;> rfl
      rw [e0]; exact q1
    refine (lf (I := Rp) (f := ae fe aA) (k := fun _ => one (hV (.list ds))) (dN (X := X) dQ Q) ⟨ρ1, sl1, q1⟩).post fun us H2 ⟨_, ds2, _, s2, p2, q2⟩ => ?_
    unfold one at q2;split at q2
    · rename_i d2;simp only [RA] at p2;obtain ⟨w, r', rfl, p2, rfl⟩ := p2;cases d2 with
      | int k =>
        have ew : w = .int k := by simpa only [Rp] using p2
        subst ew;simp only [hV] at q2;cases ei : cn ds with
        | none => rw [ei] at q2; exact q2.elim
        | some ns =>
          rw [ei] at q2;dsimp only at q2;split at q2
          · rename_i hz;have p3 := fJ.mono p1 s2;rw [dP ei] at p3;obtain ⟨a', vs', ea, h3, r3⟩ := cM (K := X.K) p3;cases ea;rw [jw r3] at h3;exact ⟨a, ns, k, rfl, rfl, h3, by rw [<- dP ei]; exact hz.1, hz.2, q2 _ H2 (ay.refl _) ci⟩
          · exact q2.elim
      | _ => exact q2.elim
    · exact q2.elim
  | _ => exact q1.elim
theorem Z.hZ (ho : Z.bh X o fo) (he : Z.ah X e fe) (hb : attributeBase o "index" X.env (eval o X.env) = eval o X.env := by rfl) (hst : am e = true := by rfl) (hline : (apos.endLine == cpos.line) = true := by rfl) : Z.ah X (.Call (.Attribute o "index" apos) [e] [] cpos) (hW fo fe) :=
  ⟨D2.hZ ho.un he.un hb hst hline⟩
end
abbrev jk := List PyData -> R PyData
structure jr (P : Program) (w : World) (K : PySem.W.Frag) (mg : Str -> Option Value) (base : Heap) (k : Nat) (x : Str) (ps : List Str) (F : jk) (f : Addr) (fd : FuncData) : Prop where
  ok : bj P w K mg base (dc P w mg) k f fd ps (dM F ps.length)
  m : mg x = some (.ref f)
  kp : PySem.W.keepIn K (.ref f) = true
  b : gH K fd ps []
theorem aQ {X : Cx} {k : Nat} {f : Addr} {fd : FuncData} {ps : List Str} {F : jk} {x : Str} {p pos : Pos} {e : Expr} {es : List Expr} {fs : aH -> R (List PyData)} {nl : Nat} {G : List Str} (C : jr X.prog X.w X.K X.mg X.base k x ps F f fd) (hr : dG k X.A) (T : Tb X nl G) (j : Nat) (hG : G[j]? = some x) (ha : mh X (e :: es) fs) (hlen : (e :: es).length = ps.length) (hfs : ∀ ρ ds, fs ρ = .ok ds -> ds.length = ps.length) (he : (e :: es).all am = true := by rfl) : ah X (.Call (.Name x p) (e :: es) [] pos) (aM F fs) :=
  wt C.ok hr T j hG C.m C.kp C.b ha hlen hfs he
theorem Z.aQ {X : Cx} {k : Nat} {f : Addr} {fd : FuncData} {ps : List Str} {F : jk} {x : Str} {p pos : Pos} {e : Expr} {es : List Expr} {fs : aH -> R (List PyData)} {nl : Nat} {G : List Str} (C : jr X.prog X.w X.K X.mg X.base k x ps F f fd) (hr : dG k X.A) (T : Tb X nl G) (j : Nat) (hG : G[j]? = some x) (ha : Z.mh X (e :: es) fs) (hlen : (e :: es).length = ps.length) (hfs : ∀ ρ ds, fs ρ = .ok ds -> ds.length = ps.length) (he : (e :: es).all am = true := by rfl) : Z.ah X (.Call (.Name x p) (e :: es) [] pos) (aM F fs) :=
  ⟨D2.aQ C hr T j hG ha.un hlen hfs he⟩
structure dh (K : PySem.W.Frag) (x : Str) (st : Stmt) (f : Addr) (fd : FuncData) : Prop where
  ns : PySem.W.nsIn K mainGlobals x = some (some (.ref f))
  fn : ji K x x st f fd
theorem bt {K : PySem.W.Frag} {x : Str} {st : Stmt} {f : Addr} {oc : Value} {od an : Option Addr} {osl : Array (Option Value)} {kV doc pm cdv ct : Value} (a : PySem.W.nsIn K mainGlobals x = some (some (.ref f))) (l : K.lookup f = some ⟨oc, od, .func (PySem.W.fnOf x x (fE st) (dj st) (al st) .none kV doc pm an cdv ct), osl⟩) (c : PySem.W.codeIn K cdv x = true) (k : PySem.W.keepIn K (.ref f) = true) :
    dh K x st f (PySem.W.fnOf x x (fE st) (dj st) (al st) .none kV doc pm an cdv ct) := ⟨a, uc l c k⟩
end D2
namespace D2
open PySem PySem.Spec PyProof.Rows L2 PySem.Builtin PySem.Builtin.Str
end D2
set_option maxHeartbeats 400000
namespace D2
open PySem PySem.Spec PyProof.Rows L2 PySem.Builtin
end D2
namespace D2
open PySem PySem.Spec PyProof.Rows L2
theorem Z.nL {P : Program} {w : World} {K : PySem.W.Frag} {mg : Str -> Option Value} {base : Heap} {x qual : Str} {st : Stmt} {f : Addr} {fd : FuncData} {N ps : List Str} {k : Nat} {g : Fs} (F : ji K x qual st f fd) (S : ba N ps (al st))
    (body : ∀ (cdv : Value) (A : Around) (outer : List Env) (s : Shared) (H : Hp) (E : XK), dG k (A.deeper (envOfC qual (al st) s.heap.objs.size f cdv)) ->
      Z.fL (dZ (dc P w mg) P w K mg base N qual (al st) f cdv A outer s H E) (dj st) g) : bj P w K mg base (dc P w mg) (k + 1) f fd ps (dM (eM N.length g) ps.length) :=
  D2.nL F S fun cdv A outer s H E hr => (body cdv A outer s H E hr).un
theorem Z.fn_dataT {P : Program} {w : World} {K : PySem.W.Frag} {mg : Str -> Option Value} {base : Heap} {x qual : Str} {st : Stmt} {f : Addr} {fd : FuncData} {N ps : List Str} {k : Nat} {g : Fs} {G : List Str} (F : ji K x qual st f fd) (S : ba N ps (al st)) (ck : rl (al st) N G)
    (body : ∀ (cdv : Value) (A : Around) (outer : List Env) (s : Shared) (H : Hp) (E : XK), dG k (A.deeper (envOfC qual (al st) s.heap.objs.size f cdv)) -> Tb (dZ (dc P w mg) P w K mg base N qual (al st) f cdv A outer s H E) N.length G ->
      Z.fL (dZ (dc P w mg) P w K mg base N qual (al st) f cdv A outer s H E) (dj st) g) : bj P w K mg base (dc P w mg) (k + 1) f fd ps (dM (eM N.length g) ps.length) :=
  Z.nL F S fun cdv A outer s H E hr => body cdv A outer s H E hr (xk hr ck)
def kS (K : PySem.W.Frag) : Bool := K.all fun p => match p.2.cls with
  | .type n => !(n == "list")
  | _ => true
theorem lJ {α β : Type} [BEq α] {a : α} {o : β} : ∀ {K : List (α × β)}, K.lookup a = some o -> ∃ p ∈ K, p.2 = o
  | [], e => by cases e
  | (b, x) :: r, e => by
    rw [List.lookup_cons] at e;split at e
    · cases e; exact ⟨_, List.mem_cons_self, rfl⟩
    · obtain ⟨p, h1, h2⟩ := lJ e;exact ⟨p, List.mem_cons_of_mem _ h1, h2⟩
theorem qQ {K : PySem.W.Frag} (h : kS K = true) {a : Addr} {o : Obj} (e : K.lookup a = some o) (c : o.cls = .type "list") : False := by
  obtain ⟨p, m, rfl⟩ := lJ e;have q := List.all_eq_true.mp h _ m;simp only [c] at q;simp at q
def wR (F : List PyData -> R PyData) : Prop := ∀ ns : List Int, ns.length <= 63 -> F [.list (ns.map .int)] = .ok (.bool true)
theorem AA {l : PySem.W.OpenLaw} {q : Program} {loose : List Str} {XP : (Str -> Option Value) -> Heap -> Prop} {YP : World -> Heap -> Prop} {d : DefRec} {K : Params -> PySem.W.Frag} {k : Nat} {x : Str} {F : List PyData -> R PyData} (hn : l.most = some 63) (hdf : d.params.defaults = [])
    (hr : dG k callerA) (hY : ∀ (w : World) (h : Heap), YP w h -> (K w.params).In h) (hF : wR F)
    (G : ∀ (w : World) (mg : Str -> Option Value) (fa : Addr) (h : Heap), (K w.params).In h -> h.Ns mainGlobals mg -> mg d.name = some (.ref fa) ->
      kS (K w.params) = true /\ ∃ fd : FuncData, (∀ (s : Shared) (u : Value), BindsTo s fd ⟨[u], []⟩ [(x, u)]) /\ ∀ base : Heap, (K w.params).In base -> base.Ns mainGlobals mg -> bj l.prog w (K w.params) mg base (dc l.prog w mg) k fa fd [x] (dM F 1)) :
    PySem.W.WalkO q loose XP YP l.row.toRowW d [] (fun f vs => PySem.call f vs) := by
  refine Att.attach_call hn hdf fun w s₀ s₁ mg mb fa o pm cd doc a vs ns G0 Y ho hd hcd hmg hobj hints hlen hg => ?_
  have KX := hY w _ Y;obtain ⟨nl, fd, hb, hG⟩ := G w mg fa _ KX G0.T.g hmg;refine L2.u0 (sp := dM F 1) KX G0.T.g G0.T.b G0.T.builtins G0.T.nolimit hg hobj hints (Nat.le_trans hlen (by decide)) hr hG hb (fun H hO hS => ?_) fun H e s' ⟨_, _, _, _, _, z⟩ => z
  refine ⟨[.list (ns.map .int)], bo.cons ?_ bo.nil, rfl, ?_⟩
  · rcases hS with (h | ⟨o, h⟩) | ⟨o, its, n, h, c, _⟩
    · rcases hO a with z | ⟨o, xs, z⟩
      · rw [z] at h; cases h
      · rw [z] at h; cases h
    · simp only [Rp];exact ⟨a, o, _, rfl, h, bo.ints ns⟩
    · exact (qQ nl h c).elim
  · rw [hF ns hlen];intro v H' _ r;simpa only [Rp] using r
@[simp] theorem dw {α : Type} (a : α) : lw (R.ok a) = .ok a := (rfl)
def za : qA -> R PyData
  | .rt d => .ok d
  | .nx _ => .ok .none
  | _ => .no
theorem da (n : Nat) (g : Fs) (ds : List PyData) : eM n g ds = (g (ds.map bg.val ++ List.replicate (n - ds.length) .non) >>= za) := by
  unfold eM;congr 1
@[simp] theorem zQ (d : PyData) : za (.rt d) = .ok d := (rfl)
section
variable (f g h : Fe) (ρ : aH) (i j : Nat) (t u : aH -> R Bool) (a b : Fs) (fs : aH -> R (List PyData)) (F : List PyData -> R PyData) (d e : PyData)
@[simp] theorem aW : eC d ρ = .ok d := (rfl)
@[simp] theorem aj : af 0 (.val d :: ρ) = .ok d := (rfl)
@[simp] theorem av (c : bg) : af (i + 1) (c :: ρ) = af i ρ := (rfl)
@[simp] theorem gf : cZ 0 (.own d :: ρ) = .ok d := (rfl)
@[simp] theorem gG (c : bg) : cZ (i + 1) (c :: ρ) = cZ i ρ := (rfl)
@[simp] theorem cz (k : PyData -> R PyData) : e1 k f ρ = (f ρ >>= fun x => k x) := (rfl)
@[simp] theorem aS (k : PyData -> PyData -> R PyData) : e2 k f g ρ = (f ρ >>= fun x => g ρ >>= fun y => k x y) := (rfl)
@[simp] theorem bS : tE f ρ = (f ρ >>= oI) := (rfl)
@[simp] theorem bY (k : Bool) : oI (.bool k) = .ok k := (rfl)
@[simp] theorem tG : oQ t u ρ = (t ρ >>= fun k => if k = true then u ρ else .ok false) := (rfl)
@[simp] theorem dU : md t u ρ = (t ρ >>= fun k => if k = true then .ok true else u ρ) := (rfl)
@[simp] theorem bO : fV t ρ = (t ρ >>= fun k => .ok (!k)) := (rfl)
@[simp] theorem vF : oz f g ρ = (f ρ >>= fun d => oI d >>= fun k => if k = true then g ρ else .ok (.bool false)) := (rfl)
@[simp] theorem An : Aa f g ρ = (f ρ >>= fun d => oI d >>= fun k => if k = true then .ok (.bool true) else g ρ) := (rfl)
@[simp] theorem wg : u3 f ρ = (f ρ >>= fun d => oI d >>= fun k => .ok (.bool (!k))) := (rfl)
@[simp] theorem aD : aA ρ = .ok [] := (rfl)
@[simp] theorem ax : ae f fs ρ = (f ρ >>= fun d => fs ρ >>= fun ds => .ok (d :: ds)) := (rfl)
@[simp] theorem aJ : aM F fs ρ = (fs ρ >>= F) := (rfl)
@[simp] theorem yC (p q : PyData -> PyData -> R PyData) : lE p q f g h ρ = (f ρ >>= fun x => g ρ >>= fun y => p x y >>= fun d => oI d >>= fun k => if k = true then h ρ >>= fun z => q y z else .ok (.bool false)) := (rfl)
@[simp] theorem di : dI fs ρ = (fs ρ >>= fun ds => if ds.length <= sizeLine then .ok (.tuple ds) else .no) := (rfl)
@[simp] theorem fi : dL fs ρ = (fs ρ >>= fun ds => if ds.length <= sizeLine then .ok (.list ds) else .no) := (rfl)
@[simp] theorem gV : dY ρ = .ok none := (rfl)
@[simp] theorem h8 : eu f ρ = (f ρ >>= fun d => Ac d >>= fun i => .ok (some i)) := (rfl)
@[simp] theorem o9 (k : Int) : Ac (.int k) = .ok k := (rfl)
@[simp] theorem ke (lo hi : Fo) : pM f lo hi ρ = (f ρ >>= fun d => lo ρ >>= fun l => hi ρ >>= fun u => wO d l u) := (rfl)
@[simp] theorem zA : cm ρ = .ok (.nx ρ) := (rfl)
@[simp] theorem ip : aV a b ρ = (a ρ >>= rc b) := (rfl)
@[simp] theorem zC : rc b (.nx ρ) = b ρ := (rfl)
@[simp] theorem yF : rc b (.rt d) = .ok (.rt d) := (rfl)
@[simp] theorem bz : jQ t a b ρ = (t ρ >>= fun k => if k = true then a ρ else b ρ) := (rfl)
@[simp] theorem eP : cD f ρ = (f ρ >>= fun d => .ok (.rt d)) := (rfl)
@[simp] theorem aZ : bF i f ρ = (f ρ >>= fun d => .ok (.nx (ρ.set i (.val d)))) := (rfl)
@[simp] theorem zX : gX i f ρ = (f ρ >>= fun d => .ok (.nx (ρ.set i (.own d)))) := (rfl)
@[simp] theorem kR : qr f ρ = (f ρ >>= gL) := (rfl)
@[simp] theorem yw : jY fs ρ = (fs ρ >>= sf) := (rfl)
@[simp] theorem e9 (ds : List PyData) : gL (.tuple ds) = .ok ds := (rfl)
@[simp] theorem xw (ds : List PyData) : gL (.list ds) = .ok ds := (rfl)
@[simp] theorem jP : nV a ρ = lw (a ρ) := (rfl)
theorem kQ (it : aH -> R (List PyData)) (bb : PyData -> aH -> Option aH) : qY it bb a ρ = (it ρ >>= fun ds => fG bb a ds ρ) := rfl
@[simp] theorem uN (bb : PyData -> aH -> Option aH) : fG bb a [] ρ = .ok (.nx ρ) := by unfold fG; rfl
def re (k : aH -> R qA) : qA -> R qA
  | .nx ρ => k ρ
  | .ct ρ => k ρ
  | .bk ρ => .ok (.nx ρ)
  | .rt r => .ok (.rt r)
@[simp] theorem jD (k : aH -> R qA) : re k (.nx ρ) = k ρ := (rfl)
theorem sB (i : Nat) (ds : List PyData) : fG (dq i) a (d :: ds) ρ = (a (ρ.set i (.val d)) >>= re (fG (dq i) a ds)) := by
  rw [fG];show (a (ρ.set i (.val d)) >>= _) = _;congr 1
theorem kn (i j : Nat) (x y : PyData) (ds : List PyData) : fG (bZ i j) a (.tuple [x, y] :: ds) ρ = (a ((ρ.set i (.val x)).set j (.val y)) >>= re (fG (bZ i j) a ds)) := by
  rw [fG];show (a ((ρ.set i (.val x)).set j (.val y)) >>= _) = _;congr 1
theorem aG {a b : Fs} {ρ ρ' : aH} (h : a ρ = .ok (.nx ρ')) : aV a b ρ = b ρ' := by rw [ip, h]; rfl
theorem jU {a b : Fs} {ρ : aH} {d : PyData} (h : a ρ = .ok (.rt d)) : aV a b ρ = .ok (.rt d) := by rw [ip, h]; rfl
theorem fy {n : Nat} {g : Fs} {ds : List PyData} {d : PyData} (h : g (ds.map bg.val ++ List.replicate (n - ds.length) .non) = .ok (.rt d)) : eM n g ds = .ok d := by rw [da, h]; rfl
theorem cY (bb : PyData -> aH -> Option aH) : bA bb t f ρ [] = .ok [] := by unfold bA; rfl
theorem kZ (i : Nat) (ds : List PyData) : bA (dq i) t f ρ (d :: ds) = (t (ρ.set i (.val d)) >>= fun k => if k = true then f (ρ.set i (.val d)) >>= fun x => bA (dq i) t f ρ ds >>= fun xs => .ok (x :: xs) else bA (dq i) t f ρ ds) := by
  rw [bA]; rfl
theorem eX (i j : Nat) (x y : PyData) (ds : List PyData) : bA (bZ i j) t f ρ (.tuple [x, y] :: ds) = (t ((ρ.set i (.val x)).set j (.val y)) >>= fun k => if k = true then f ((ρ.set i (.val x)).set j (.val y)) >>= fun x => bA (bZ i j) t f ρ ds >>= fun xs => .ok (x :: xs) else bA (bZ i j) t f ρ ds) := by
  rw [bA]; rfl
@[simp] theorem rL : oV f g ρ = (f ρ >>= fun x => g ρ >>= fun y => gL x >>= fun xs => gL y >>= fun ys => .ok (eW xs ys)) := (rfl)
@[simp] theorem im : jo f ρ = (f ρ >>= fun x => gL x >>= fun xs => .ok (bI 0 xs)) := (rfl)
theorem kl {ρ : aH} {i : Nat} {ds : List PyData} (f : Fe) (h : ρ[i]? = some (.own (.list ds))) (hz : ds.length < sizeLine) : cJ i f ρ = (lw (f ρ) >>= fun d => .ok (.nx (ρ.set i (.own (.list (ds ++ [d])))))) := by
  unfold cJ;congr 1;funext d;rw [h];exact if_pos hz
def yI : R (List PyData) -> R PyData
  | .ok xs => .ok (.list xs)
  | .ex c => .ex c
  | .no => .no
@[simp] theorem kP (xs : List PyData) : yI (.ok xs) = .ok (.list xs) := (rfl)
theorem df (it : aH -> R (List PyData)) (own : Nat) (fr : List Nat) (bb : PyData -> aH -> Option aH) : cU it own fr bb t f ρ = (lw (it ρ) >>= fun ds => if ds.length <= sizeLine then yI (bA bb t f (aF own fr ρ) ds) else .no) := by
  unfold cU;congr 1
theorem iD (i : Nat) (G : PyData -> PyData) : ∀ (ds : List PyData), (∀ d ∈ ds, f (ρ.set i (.val d)) = .ok (G d)) -> bA (dq i) (fun _ => .ok true) f ρ ds = .ok (ds.map G)
  | [], _ => cY ..
  | d :: ds, hh => by
    rw [kZ, hh d List.mem_cons_self, iD i G ds fun x hx => hh x (List.mem_cons_of_mem _ hx)];rfl
end
section
variable (i j : Int) (xs ys : List PyData)
@[simp] theorem qh : mx (.int i) = .ok (.int (-i)) := (rfl)
@[simp] theorem ul : cj (.int i) (.int j) = .ok (.int (i + j)) := (rfl)
@[simp] theorem kf : cj (.tuple xs) (.tuple ys) = if xs.length + ys.length <= sizeLine then .ok (.tuple (xs ++ ys)) else .no := (rfl)
@[simp] theorem xI : o8 (.int i) (.int j) = .ok (.int (i - j)) := (rfl)
@[simp] theorem eA : bG (.int i) (.int j) = if 0 < j then .ok (.int (i % j)) else .no := (rfl)
@[simp] theorem jX : dt (.int i) (.int j) = if 0 < j /\ j < 1073741824 then .ok (.int (i / j)) else .no := (rfl)
theorem xg : dJ (.int i) (.int j) = if (-(2 ^ 64) < i /\ i < 2 ^ 64) \/ (-(2 ^ 64) < j /\ j < 2 ^ 64) then .ok (.int (i * j)) else .no := rfl
@[simp] theorem xh (p : Int -> Int -> Bool) : kI p (.int i) (.int j) = .ok (.bool (p i j)) := (rfl)
@[simp] theorem Al : wx (.int i) (.int j) = .ok (.int (if j < i then j else i)) := (rfl)
@[simp] theorem AC : wF (.int i) (.int j) = .ok (.int (if j > i then j else i)) := (rfl)
@[simp] theorem ka : eY (.tuple xs) = .ok (.int xs.length) := (rfl)
@[simp] theorem AD : eY (.list xs) = .ok (.int xs.length) := (rfl)
@[simp] theorem l4 : dO (.list xs) = .ok (.tuple xs) := (rfl)
@[simp] theorem vL : ro (.tuple xs) = .ok (.list xs) := (rfl)
@[simp] theorem qe (k : Bool) : iK (.bool k) = .ok (.int (if k then 1 else 0)) := (rfl)
@[simp] theorem tH (lo hi : Option Int) : wO (.tuple xs) lo hi = .ok (.tuple (hU xs lo hi)) := (rfl)
@[simp] theorem wX (lo hi : Option Int) : wO (.list xs) lo hi = .ok (.list (hU xs lo hi)) := (rfl)
@[simp] theorem yi : sR (.tuple xs) = .ok (.tuple xs.reverse) := (rfl)
theorem ov {α : Type} {xs : List α} {i : Int} (h0 : 0 <= i) (h1 : i < xs.length) : L2.atI xs i = some (xs[i.toNat]'(by omega)) := by
  unfold L2.atI wI;rw [if_pos h0, if_pos h1];exact List.getElem?_eq_getElem (by omega)
theorem pH {xs : List PyData} {i : Int} (h0 : 0 <= i) (h1 : i < xs.length) : aT (.tuple xs) (.int i) = .ok (xs[i.toNat]'(by omega)) := by
  show (match L2.atI xs i with | some d => R.ok d | none => .no) = _;rw [ov h0 h1]
theorem uy {xs : List PyData} {i : Int} (h0 : 0 <= i) (h1 : i < xs.length) : aT (.list xs) (.int i) = .ok (xs[i.toNat]'(by omega)) := by
  show (match L2.atI xs i with | some d => R.ok d | none => .no) = _;rw [ov h0 h1]
theorem n9 : PyData.eqv (.int i) (.int j) = decide (i = j) := by
  simp only [PyData.eqv];by_cases h : i = j
  · subst h; simp
  · simp [h]
theorem fT : lv (.int i) (.int j) = .ok (.bool (decide (i = j))) := by
  unfold lv;rw [if_pos (by rfl), n9]
theorem uf : nQ (.int i) (.int j) = .ok (.bool (!decide (i = j))) := by
  unfold nQ;rw [if_pos (by rfl), n9]
end
end D2
namespace G
open PySem PySem.Spec PyProof.Rows L2 D2
def zK : PyData -> Bool
  | .int _ => true
  | _ => false
def noD : PyData -> Prop
  | .dict _ => False
  | _ => True
def mw (d : PyData) (lo hi : Int) : Bool := match d with
  | .int i => decide (lo <= i) && decide (i <= hi)
  | _ => false
abbrev dg (d : PyData) : Prop := d.canLay0 = true
theorem dg.noD {d : PyData} (h : dg d) : noD d := by
  cases d <;> first | trivial | (simp [dg, PyData.canLay0] at h)
theorem nW : ∀ {ds : List PyData}, PyData.canLayAll0 ds = true -> ∀ x ∈ ds, dg x
  | [], _, x, hx => by cases hx
  | d :: ds, h, x, hx => by
    have h' : d.canLay0 = true /\ PyData.canLayAll0 ds = true := by simpa [PyData.canLayAll0] using h
    rcases List.mem_cons.mp hx with rfl | hx
    · exact h'.1
    · exact nW h'.2 x hx
theorem g9 : ∀ {ds : List PyData}, (∀ x ∈ ds, dg x) -> PyData.canLayAll0 ds = true
  | [], _ => by simp [PyData.canLayAll0]
  | d :: ds, h => by
    have h1 := h d List.mem_cons_self;have h2 := g9 fun x hx => h x (List.mem_cons_of_mem _ hx)
    simp only [PyData.canLayAll0, Bool.and_eq_true];exact ⟨h1, h2⟩
theorem cr {ds : List PyData} : dg (.tuple ds) <-> ∀ x ∈ ds, dg x := by
  constructor
  · intro h; exact nW (by simpa [dg, PyData.canLay0] using h)
  · intro h; simp only [dg, PyData.canLay0]; exact g9 h
theorem sZ {ds : List PyData} : dg (.list ds) <-> ∀ x ∈ ds, dg x := by
  constructor
  · intro h; exact nW (by simpa [dg, PyData.canLay0] using h)
  · intro h; simp only [dg, PyData.canLay0]; exact g9 h
theorem fZ (i : Int) : dg (.int i) := by simp [dg, PyData.canLay0]
theorem iA : dg .none := by simp [dg, PyData.canLay0]
theorem sj (b : Bool) : dg (.bool b) := by simp [dg, PyData.canLay0]
theorem ni (p : PyData -> Bool) : ∀ ds : List PyData, D2.kh (ds.map fun d => .bool (p d)) = some (ds.all p)
  | [] => rfl
  | d :: ds => by
    simp only [List.map_cons, D2.kh, ni p ds, List.all_cons, Option.map_some]
theorem bW {n : Nat} (h : n <= 1000) : n <= sizeLine := Nat.le_trans h (by decide)
abbrev iP (ns : List Int) : PyData := .list (ns.map .int)
theorem gq {i j : Int} (h : (-(2 ^ 64) < i /\ i < 2 ^ 64) \/ (-(2 ^ 64) < j /\ j < 2 ^ 64)) : dJ (.int i) (.int j) = .ok (.int (i * j)) := by rw [xg, if_pos h]
structure pZ (c : Int) (n : Nat) (kvs : List (PyData × PyData)) : Prop where
  ex : ∃ ns : List Int, kvs.map (·.1) = ns.map PyData.int /\ (∀ x ∈ ns, 0 <= x /\ x < c) /\ ns.length <= n /\ (n = 0 \/ ns ≠ []) /\ ns.Nodup
theorem pZ.put {c : Int} {n : Nat} {kvs : List (PyData × PyData)} (h : pZ c n kvs) {k : Int} (h0 : 0 <= k) (h1 : k < c) (v : PyData) : pZ c (n + 1) (qW kvs (.int k) v) := by
  obtain ⟨ns, e, hb, hl, hn, nd⟩ := h.ex;have hany : (kvs.any fun kv => fD kv.1 (.int k)) = ns.any fun i => decide (i = k) := by
    have : (kvs.any fun kv => fD kv.1 (.int k)) = (kvs.map (·.1)).any fun d => fD d (.int k) := by rw [List.any_map]; rfl
    rw [this, e, List.any_map]; rfl
  unfold qW;rw [hany];by_cases hm : k ∈ ns
  · have ha : (ns.any fun i => decide (i = k)) = true := by simp; exact hm
    rw [if_pos ha];refine ⟨ns, ?_, hb, by omega, .inr (by intro z; rw [z] at hm; cases hm), nd⟩;rw [<- e, List.map_map];apply List.map_congr_left;intro kv _;show (if fD kv.1 (.int k) = true then (kv.1, v) else kv).1 = kv.1;split <;> rfl
  · have ha : ¬ (ns.any fun i => decide (i = k)) = true := by simp; exact hm
    rw [if_neg ha];refine ⟨ns ++ [k], by rw [List.map_append, List.map_append, e]; rfl, fun x hx => ?_, by simp; omega, .inr (by simp), ?_⟩
    · rcases List.mem_append.mp hx with z | z
      · exact hb x z
      · simp at z; subst z; exact ⟨h0, h1⟩
    · rw [List.nodup_append];refine ⟨nd, by simp, fun a hma b hb' => ?_⟩;simp at hb';subst hb';rintro rfl;exact hm hma
theorem pZ.len {c : Int} {n : Nat} {kvs : List (PyData × PyData)} (h : pZ c n kvs) : kvs.length <= n := by
  obtain ⟨ns, e, _, hl, _⟩ := h.ex;have := congrArg List.length e;simp at this;omega
theorem oC (lo : Int) (n : Nat) : ∀ d ∈ cG lo n, ∃ k, d = .int k := fun d hd => by
  unfold cG at hd;obtain ⟨k, _, rfl⟩ := List.mem_map.mp hd;exact ⟨_, rfl⟩
theorem gp (lo : Int) (n : Nat) : (cG lo n).length = n := by unfold cG; simp
theorem jp {xs : List PyData} {i : Int} (h0 : 0 <= i) (h1 : i < xs.length) : ∃ x ∈ xs, aT (.list xs) (.int i) = .ok x := ⟨_, List.getElem_mem _, uy h0 h1⟩
theorem rd (ds : List PyData) (lo hi : Option Int) : (D2.hU ds lo hi).length <= ds.length := by
  unfold D2.hU;rw [List.length_take, List.length_drop];omega
structure P4 where
  w : Int
  m : Int
  g : Int
  ns : List Int
def P4.d (p : P4) : PyData := .tuple [.int p.w, .int p.m, .int p.g, .tuple (p.ns.map .int)]
structure Pl (c hi : Int) (p : P4) : Prop where
  w0 : 0 <= p.w
  w1 : p.w <= 1
  m0 : 0 <= p.m
  m1 : p.m <= hi
  g0 : -20 <= p.g
  g1 : p.g <= 20
  ne : p.ns ≠ []
  so : p.ns.Pairwise (· < ·)
  inn : ∀ x ∈ p.ns, 0 <= x /\ x < c
theorem i8 : ∀ (ns : List Int) (l c : Int), ns.Pairwise (· < ·) -> (∀ x ∈ ns, l <= x /\ x < c) -> ns = [] \/ l + (ns.length : Int) <= c
  | [], _, _, _, _ => .inl rfl
  | x :: r, l, c, hp, hb => by
    right;obtain ⟨h1, h2⟩ := List.pairwise_cons.mp hp;have hx := hb x List.mem_cons_self;rcases i8 r (x + 1) c h2 (fun y hy => ⟨by have := h1 y hy; omega, (hb y (List.mem_cons_of_mem _ hy)).2⟩) with rfl | z
    · simp; omega
    · rw [List.length_cons]; omega
theorem Pl.len {c hi : Int} {p : P4} (h : Pl c hi p) : (p.ns.length : Int) <= c := by
  rcases i8 p.ns 0 c h.so h.inn with z | z
  · exact absurd z h.ne
  · omega
abbrev gD (ps : List P4) : PyData := .tuple (ps.map P4.d)
theorem sC {ns : List Int} (h : ns.Pairwise (· <= ·)) (nd : ns.Nodup) : ns.Pairwise (· < ·) := by
  have := h.and nd;exact this.imp fun ⟨a, b⟩ => by omega
end G
noncomputable section
namespace G
open PySem PySem.Spec PyProof.Rows L2 D2
def gR : Fs :=
  (aV (bF 2 (e2 bG (e2 dJ (e2 cj (e2 cj (af 0) (e2 dJ (eC (.int 104729)) (af 1))) (eC (.int 17))) (eC (.int 69621))) (eC (.int 2147483647)))) (cD (e2 bG (e2 cj (e2 cj (e2 dJ (af 2) (af 2)) (e2 dJ (eC (.int 3)) (af 2))) (af 1)) (eC (.int 2147483629)))))
def ak : List PyData -> R PyData := eM 3 (gR)
def gx (ak : List PyData -> R PyData) : Fs :=
  (aV (gX 4 (dL aA)) (aV (nV (qY (jo (af 0)) (bZ 5 6) (aV (bF 7 (aM ak (ae (af 2) (ae (af 5) aA)))) (jQ (md (tE (e2 (nQ) (e2 aT (af 6) (eC (.int 0))) (af 1))) (oQ (tE (e2 (kI yz) (af 3) (eC (.int 0)))) (tE (e2 (lv) (e2 bG (af 7) (af 3)) (eC (.int 0)))))) (cJ 4 (eC .none)) (cJ 4 (e2 aT (e2 aT (af 6) (eC (.int 3))) (e2 bG (e2 dt (af 7) (eC (.int 7))) (e1 eY (e2 aT (af 6) (eC (.int 3))))))))))) (cD (e1 dO (cZ 4)))))
def br : List PyData -> R PyData := eM 8 (gx ak)
def fK : Fs :=
  (aV (jQ (tE (e2 (kI Aw) (af 1) (e1 eY (af 0)))) (cD (e2 aT (af 0) (af 1))) cm) (cD (eC (.int 0))))
def bC : List PyData -> R PyData := eM 2 (fK)
def gW (bC : List PyData -> R PyData) : Fs :=
  (aV (bF 2 (e2 bG (e2 dJ (e2 cj (e2 cj (aM bC (ae (af 0) (ae (af 1) aA))) (e2 dJ (eC (.int 7919)) (af 1))) (eC (.int 1))) (eC (.int 48271))) (eC (.int 2147483647)))) (cD (e2 bG (e2 cj (e2 cj (e2 dJ (af 2) (af 2)) (e2 dJ (eC (.int 7)) (af 2))) (af 1)) (eC (.int 2147483629)))))
def aC : List PyData -> R PyData := eM 3 (gW bC)
def gQ (ak : List PyData -> R PyData) : Fs :=
  (aV (gX 2 (eC (.dict []))) (aV (nV (qY (jY (ae (e2 cj (e2 cj (eC (.int 1)) (e2 bG (af 0) (eC (.int 3)))) (e2 dJ (eC (.int 20)) (e1 iK (e2 (lv) (e2 bG (e2 dt (af 0) (eC (.int 3))) (eC (.int 29))) (eC (.int 7)))))) aA)) (dq 3) (t5 2 (e2 bG (aM ak (ae (af 0) (ae (af 3) aA))) (af 1)) (eC (.bool true))))) (cD (e1 dO (e1 iC (cZ 2))))))
def bV : List PyData -> R PyData := eM 4 (gQ ak)
def gY (ak : List PyData -> R PyData) (bV : List PyData -> R PyData) : Fs :=
  (aV (bF 3 (e2 o8 (e2 bG (e2 dt (af 0) (eC (.int 26))) (eC (.int 9))) (eC (.int 4)))) (aV (jQ (tE (e2 (lv) (e2 bG (e2 dt (af 0) (eC (.int 234))) (eC (.int 11))) (eC (.int 3)))) (bF 3 (e2 o8 (e2 bG (e2 dt (af 0) (eC (.int 26))) (eC (.int 41))) (eC (.int 20)))) cm) (cD (dI (ae (e2 bG (af 0) (eC (.int 2))) (ae (e2 bG (e2 dt (af 0) (eC (.int 2))) (e2 cj (af 2) (eC (.int 1)))) (ae (af 3) (ae (aM bV (ae (aM ak (ae (af 0) (ae (eC (.int 9)) aA))) (ae (af 1) aA))) aA))))))))
def bL : List PyData -> R PyData := eM 4 (gY ak bV)
def gt (aC : List PyData -> R PyData) (bL : List PyData -> R PyData) : Fs :=
  (aV (bF 2 (aM aC (ae (af 0) (ae (eC (.int 0)) aA)))) (aV (bF 3 (e2 cj (eC (.int 1)) (e2 bG (af 2) (e2 wx (af 1) (e2 wF (eC (.int 4)) (e1 eY (af 0))))))) (aV (bF 4 (e2 aT (dL (ae (eC (.int 1)) (ae (eC (.int 2)) (ae (eC (.int 3)) (ae (eC (.int 5)) (ae (eC (.int 12)) (ae (eC (.int 12)) aA))))))) (e2 bG (e2 dt (af 2) (eC (.int 24))) (eC (.int 6))))) (cD (e1 dO (cU (jY (ae (af 3) aA)) 1 [0, 3, 4] (dq 0) (fun _ => .ok true) (aM bL (ae (aM aC (ae (af 1) (ae (e2 cj (eC (.int 3)) (af 0)) aA))) (ae (af 2) (ae (af 3) aA))))))))))
def bJ : List PyData -> R PyData := eM 5 (gt aC bL)
def lB : Fs :=
  (cD (oz (e1 (fg .int) (af 0)) (u3 (e1 (fg .bool) (af 0)))))
def bw : List PyData -> R PyData := eM 1 (lB)
def gB (bw : List PyData -> R PyData) : Fs :=
  (cD (oz (aM bw (ae (af 0) aA)) (lE (kI AY) (kI AY) (af 1) (af 0) (af 2))))
def bK : List PyData -> R PyData := eM 3 (gB bw)
def cO (bK : List PyData -> R PyData) : Fs :=
  (cD (aM bK (ae (af 0) (ae (eC (.int 0)) (ae (e2 o8 (e1 eY (af 1)) (eC (.int 1))) aA)))))
def ar : List PyData -> R PyData := eM 2 (cO bK)
def iF (ar : List PyData -> R PyData) : Fs :=
  (aV (jQ (md (fV (tE (e1 (fg .tuple) (af 0)))) (tE (e2 (lv) (e1 eY (af 0)) (eC (.int 0))))) (cD (eC (.bool false))) cm) (aV (jQ (fV (tE (e1 nY (cU (qr (af 0)) 1 [1] (dq 0) (fun _ => .ok true) (aM ar (ae (af 0) (ae (af 1) aA))))))) (cD (eC (.bool false))) cm) (aV (bF 2 (e2 cj (pM (af 0) (eu (eC (.int 1))) dY) (pM (af 0) dY (eu (eC (.int 1)))))) (cD (e1 nY (cU (oV (af 0) (af 2)) 2 [1] (bZ 0 1) (fun _ => .ok true) (e2 (kH false) (af 1) (e2 aT (e2 aT (af 2) (af 0)) (eC (.int 3))))))))))
def bT : List PyData -> R PyData := eM 3 (iF ar)
def jv (bT : List PyData -> R PyData) : Fs :=
  (aV (jQ (fV (tE (aM bT (ae (af 1) (ae (af 0) aA))))) (iY (PySem.Str.ofString "NoPart") (eC (.str (PySem.Str.ofString "this is no ring of places")))) cm) (cD (e2 bG (e1 ma (cU (qr (af 1)) 1 [0] (dq 0) (fun _ => .ok true) (e2 aT (e2 aT (af 1) (af 0)) (eC (.int 1))))) (eC (.int 2)))))
def ce : List PyData -> R PyData := eM 2 (jv bT)
def eQ (ce : List PyData -> R PyData) : Fs :=
  (mW ce (ae (af 0) (ae (af 1) aA)) ((PySem.Str.ofString "NoPart", (fun p ρ => (eC .none) ρ)) :: []))
def aP : List PyData -> R PyData := eM 2 (eQ ce)
def kb (bw : List PyData -> R PyData) : Fs :=
  (cD (Aa (e2 (lR) (af 0) (eC .none)) (oz (aM bw (ae (af 0) aA)) (e2 (kH false) (af 0) (e2 aT (af 1) (eC (.int 3)))))))
def cB : List PyData -> R PyData := eM 2 (kb bw)
def il (cB : List PyData -> R PyData) : Fs :=
  (aV (jQ (md (fV (tE (e1 (fg .tuple) (af 0)))) (tE (e2 (nQ) (e1 eY (af 0)) (e1 eY (af 1))))) (cD (eC (.bool false))) cm) (cD (e1 nY (cU (oV (af 0) (af 1)) 2 [] (bZ 0 1) (fun _ => .ok true) (aM cB (ae (af 0) (ae (af 1) aA)))))))
def bN : List PyData -> R PyData := eM 2 (il cB)
def dE : Fs :=
  (aV (bF 3 (dI (ae (af 1) (ae (af 2) aA)))) (cD (e1 dO (cU (jo (af 0)) 2 [3] (bZ 0 1) (fun _ => .ok true) (e2 aT (e2 aT (af 2) (e2 aT (af 1) (eC (.int 0)))) (af 0))))))
def aU : List PyData -> R PyData := eM 4 (dE)
def eS (bN : List PyData -> R PyData) (ar : List PyData -> R PyData) (aU : List PyData -> R PyData) : Fs :=
  (aV (jQ (md (fV (tE (aM bN (ae (af 1) (ae (af 0) aA))))) (fV (tE (aM bN (ae (af 2) (ae (af 0) aA)))))) (iY (PySem.Str.ofString "NoMoves") (eC (.str (PySem.Str.ofString "one of both is no moves")))) cm) (aV (bF 4 (aM aU (ae (af 0) (ae (af 1) (ae (af 2) aA))))) (aV (jQ (tE (e2 (kH false) (eC .none) (af 4))) (iY (PySem.Str.ofString "NoMoves") (eC (.str (PySem.Str.ofString "a place has no move by its own player's moves")))) cm) (aV (jQ (fV (tE (aM ar (ae (af 3) (ae (af 0) aA))))) (iY (PySem.Str.ofString "NoPart") (eC (.str (PySem.Str.ofString "start is no place")))) cm) (aV (gX 5 (dL aA)) (aV (bF 6 (af 3)) (aV (nV (nM 1000000 (tE (e2 (kH true) (af 6) (cZ 5))) (aV (cJ 5 (af 6)) (bF 6 (e2 aT (af 4) (af 6)))))) (aV (bF 7 (hW (cZ 5) (af 6))) (cD (dI (ae (e1 dO (pM (cZ 5) dY (eu (af 7)))) (ae (e1 dO (pM (cZ 5) (eu (af 7)) dY)) aA))))))))))))
def aL : List PyData -> R PyData := eM 8 (eS bN ar aU)
def dW (aL : List PyData -> R PyData) : Fs :=
  (aV (mL aL (ae (af 0) (ae (af 1) (ae (af 2) (ae (af 3) aA)))) ((PySem.Str.ofString "NoMoves", (fun p ρ => (e2 iS (eC (.str (PySem.Str.ofString "moves"))) (e1 iK (kB 4 p))) (ρ.set 4 (.exc p)))) :: ((PySem.Str.ofString "NoPart", (fun p ρ => (e2 iS (eC (.str (PySem.Str.ofString "part"))) (e1 iK (kB 4 p))) (ρ.set 4 (.exc p)))) :: []))) (cD (eC (.str (PySem.Str.ofString "")))))
def aO : List PyData -> R PyData := eM 5 (dW aL)
def eD : Fs :=
  (aV (nV (qY (jo (af 1)) (bZ 2 3) (jQ (tE (e2 (kH true) (e2 aT (af 1) (e2 bG (e2 cj (af 2) (eC (.int 1))) (e1 eY (af 1)))) (e2 aT (e2 aT (af 0) (af 3)) (eC (.int 3))))) (cD (eC (.bool false))) cm))) (cD (eC (.bool true))))
def aY : List PyData -> R PyData := eM 4 (eD)
def iT : Fs :=
  (aV (gX 3 (dL aA)) (aV (bF 4 (af 2)) (aV (nV (nM 1000000 (tE (e2 (kH true) (af 4) (cZ 3))) (aV (cJ 3 (af 4)) (bF 4 (e2 aT (e2 aT (af 1) (e2 aT (e2 aT (af 0) (af 4)) (eC (.int 0)))) (af 4)))))) (cD (dI (ae (e1 dO (pM (cZ 3) dY (eu (hW (cZ 3) (af 4))))) (ae (e1 dO (pM (cZ 3) (eu (hW (cZ 3) (af 4))) dY)) aA)))))))
def cq : List PyData -> R PyData := eM 5 (iT)
def tO (br : List PyData -> R PyData) (ak : List PyData -> R PyData) (bJ : List PyData -> R PyData) (aP : List PyData -> R PyData) (aC : List PyData -> R PyData) (aO : List PyData -> R PyData) (aY : List PyData -> R PyData) (cq : List PyData -> R PyData) (aL : List PyData -> R PyData) : Fs :=
  (aV (bF 1 (aM bJ (ae (af 0) (ae (eC (.int 24)) aA)))) (aV (bF 2 (e1 eY (af 1))) (aV (bF 3 (aM br (ae (af 1) (ae (eC (.int 0)) (ae (aM aC (ae (af 0) (ae (eC (.int 1)) aA))) (ae (eC (.int 0)) aA)))))) (aV (bF 4 (aM br (ae (af 1) (ae (eC (.int 1)) (ae (aM aC (ae (af 0) (ae (eC (.int 2)) aA))) (ae (eC (.int 0)) aA)))))) (aV (bF 5 (e2 bG (e2 dt (aM aC (ae (af 0) (ae (eC (.int 1)) aA))) (eC (.int 3))) (af 2))) (aV (jQ (tE (e2 (lv) (e2 bG (aM aC (ae (af 0) (ae (eC (.int 4)) aA))) (eC (.int 2))) (eC (.int 1)))) (aV (bF 6 (aM br (ae (af 1) (ae (eC (.int 0)) (ae (aM aC (ae (af 0) (ae (eC (.int 4)) aA))) (ae (eC (.int 0)) aA)))))) (aV (bF 7 (cU (jo (af 1)) 2 [0] (bZ 0 1) (fun _ => .ok true) (e2 aT (e2 aT (af 1) (eC (.int 3))) (e2 bG (aM ak (ae (aM aC (ae (af 2) (ae (eC (.int 4)) aA))) (ae (af 0) aA))) (e1 eY (e2 aT (af 1) (eC (.int 3)))))))) (bF 3 (e1 dO (cU (oV (af 7) (af 6)) 2 [] (bZ 0 1) (fun _ => .ok true) (e2 aT (dL (ae (af 0) (ae (af 1) aA))) (e1 iK (e2 (ky) (af 1) (eC .none))))))))) cm) (aV (bF 8 (e2 dt (aM aC (ae (af 0) (ae (eC (.int 2)) aA))) (eC (.int 3)))) (aV (jQ (tE (e2 (lv) (e2 bG (af 8) (eC (.int 4))) (eC (.int 1)))) (aV (bF 9 (e2 bG (e2 dt (af 8) (eC (.int 4))) (af 2))) (aV (bF 10 (dL (ae (e2 cj (e2 cj (pM (e2 aT (dL (ae (af 3) (ae (af 4) aA))) (e2 aT (e2 aT (af 1) (af 9)) (eC (.int 0)))) dY (eu (af 9))) (dI (ae (eC .none) aA))) (pM (e2 aT (dL (ae (af 3) (ae (af 4) aA))) (e2 aT (e2 aT (af 1) (af 9)) (eC (.int 0)))) (eu (e2 cj (af 9) (eC (.int 1)))) dY)) (ae (e2 cj (af 3) (dI (ae (eC .none) aA))) (ae (eC .none) aA))))) (aV (bF 11 (e2 aT (af 10) (e2 bG (e2 dt (af 8) (eC (.int 96))) (eC (.int 3))))) (aV (bF 12 (e2 aT (dL (ae (dI (ae (af 11) (ae (af 4) aA))) (ae (dI (ae (af 3) (ae (af 11) aA))) aA))) (e2 aT (e2 aT (af 1) (af 9)) (eC (.int 0))))) (aV (jQ (tE (e2 (nQ) (aM aO (ae (af 1) (ae (e2 aT (af 12) (eC (.int 0))) (ae (e2 aT (af 12) (eC (.int 1))) (ae (e2 aT (dL (ae (af 5) (ae (e1 mx (eC (.int 1))) (ae (af 2) aA)))) (e2 bG (e2 dt (af 8) (eC (.int 288))) (eC (.int 3)))) aA))))) (eC (.str (PySem.Str.ofString "moves"))))) (cD (eC (.bool false))) cm) (jQ (tE (e2 (nQ) (aM aO (ae (af 1) (ae (af 3) (ae (af 4) (ae (e2 aT (dL (ae (e1 mx (eC (.int 1))) (ae (af 2) (ae (eC (.bool true)) (ae (eC .none) (ae (dI (ae (eC (.int 0)) aA)) aA)))))) (e2 bG (e2 dt (af 8) (eC (.int 288))) (eC (.int 5)))) aA))))) (eC (.str (PySem.Str.ofString "part"))))) (cD (eC (.bool false))) cm)))))) cm) (aV (bF 13 (aM aL (ae (af 1) (ae (af 3) (ae (af 4) (ae (af 5) aA)))))) (aV (jQ (md (tE (e2 (nQ) (af 13) (aM cq (ae (af 1) (ae (dI (ae (af 3) (ae (af 4) aA))) (ae (af 5) aA)))))) (fV (tE (e1 (fg .tuple) (e2 aT (af 13) (eC (.int 0))))))) (cD (eC (.bool false))) cm) (aV (bF 14 (e2 aT (dL (ae (e2 aT (af 13) (eC (.int 1))) (ae (e2 dJ (e2 aT (af 13) (eC (.int 1))) (eC (.int 2))) (ae (e2 cj (e2 aT (af 13) (eC (.int 1))) (pM (e2 aT (af 13) (eC (.int 1))) dY (eu (eC (.int 1))))) (ae (e1 sR (e2 aT (af 13) (eC (.int 1)))) (ae (dI (ae (af 5) aA)) (ae (dI aA) aA))))))) (e2 bG (e2 dt (af 8) (eC (.int 5))) (eC (.int 6))))) (aV (jQ (tE (e2 (lv) (e2 bG (e2 dt (af 8) (eC (.int 30))) (eC (.int 7))) (eC (.int 1)))) (aV (bF 14 (e2 aT (dL (ae (e1 ro (af 14)) (ae (e2 cj (af 14) (dI (ae (af 2) aA))) (ae (dI (ae (e1 mx (eC (.int 1))) aA)) (ae (eC .none) (ae (dI (ae (eC (.bool true)) aA)) aA)))))) (e2 bG (e2 dt (af 8) (eC (.int 210))) (eC (.int 5))))) (cD (e2 (lR) (aM aP (ae (af 1) (ae (af 14) aA))) (eC .none)))) cm) (aV (bF 15 (aM aP (ae (af 1) (ae (af 14) aA)))) (aV (jQ (md (tE (e2 (lv) (af 14) (dI aA))) (fV (tE (aM aY (ae (af 1) (ae (af 14) aA)))))) (cD (e2 (lR) (af 15) (eC .none))) cm) (cD (oz (e1 (fg .int) (af 15)) (oz (u3 (e1 (fg .bool) (af 15))) (e2 (lv) (af 15) (e2 bG (e1 ma (cU (qr (af 14)) 1 [1] (dq 0) (fun _ => .ok true) (e2 aT (e2 aT (af 1) (af 0)) (eC (.int 1))))) (eC (.int 2)))))))))))))))))))))
def pE : List PyData -> R PyData := eM 16 (tO br ak bJ aP aC aO aY cq aL)
end G
end
namespace G
open PySem PySem.Spec PyProof.Rows L2 D2
theorem vB (ns : List Int) {k : Int} (hk : 0 <= k) : ∃ v, bC [iP ns, .int k] = .ok (.int v) := by
  unfold bC fK;by_cases h : k < ns.length
  · refine ⟨ns[k.toNat]'(by omega), ?_⟩;have hx := uy (xs := ns.map PyData.int) (i := k) hk (by simpa using h);rw [da];simp [h, hx]
  · refine ⟨0, ?_⟩;rw [da];simp [h]
theorem ie (ns : List Int) {k : Int} (hk : 0 <= k) : ∃ v, aC [iP ns, .int k] = .ok (.int v) /\ 0 <= v /\ v < 2147483629 := by
  obtain ⟨c, hc⟩ := vB ns hk;unfold aC gW;have m1 : dJ (.int 7919) (.int k) = .ok (.int (7919 * k)) := gq (.inl (by omega));have m2 : dJ (.int (c + 7919 * k + 1)) (.int 48271) = .ok (.int ((c + 7919 * k + 1) * 48271)) := gq (.inr (by omega));generalize hd : (c + 7919 * k + 1) * 48271 % 2147483647 = d;have hd0 : 0 <= d := by omega
  have hd1 : d < 2147483647 := by omega
  have m3 : dJ (.int d) (.int d) = .ok (.int (d * d)) := gq (.inl (by omega));have m4 : dJ (.int 7) (.int d) = .ok (.int (7 * d)) := gq (.inl (by omega));refine ⟨(d * d + 7 * d + k) % 2147483629, ?_, by omega, by omega⟩;rw [da];simp [hc, m1, m2, hd, m3, m4, List.replicate]
theorem jF (n k : Int) : ∃ v, ak [.int n, .int k] = .ok (.int v) /\ 0 <= v /\ v < 2147483629 := by
  unfold ak gR;have m1 : dJ (.int 104729) (.int k) = .ok (.int (104729 * k)) := gq (.inl (by omega));have m2 : dJ (.int (n + 104729 * k + 17)) (.int 69621) = .ok (.int ((n + 104729 * k + 17) * 69621)) := gq (.inr (by omega));generalize hd : (n + 104729 * k + 17) * 69621 % 2147483647 = d;have hd0 : 0 <= d := by omega
  have hd1 : d < 2147483647 := by omega
  have m3 : dJ (.int d) (.int d) = .ok (.int (d * d)) := gq (.inl (by omega));have m4 : dJ (.int 3) (.int d) = .ok (.int (3 * d)) := gq (.inl (by omega));refine ⟨(d * d + 3 * d + k) % 2147483629, ?_, by omega, by omega⟩;rw [da];simp [m1, m2, hd, m3, m4, List.replicate]
theorem ly (n c : Int) (hc : 1 <= c) : ∀ (ds : List PyData) (m : Nat) (kvs : List (PyData × PyData)) (x : bg), pZ c m kvs -> (∀ d ∈ ds, ∃ k, d = .int k) -> m + ds.length <= 1000 ->
    ∃ kvs' x', pZ c (m + ds.length) kvs' /\ fG (dq 3) (t5 2 (e2 bG (aM ak (ae (af 0) (ae (af 3) aA))) (af 1)) (eC (.bool true))) ds [.val (.int n), .val (.int c), .own (.dict kvs), x]
      = .ok (.nx [.val (.int n), .val (.int c), .own (.dict kvs'), x'])
  | [], m, kvs, x, hk, _, _ => ⟨kvs, x, hk, by rw [uN]⟩
  | d :: ds, m, kvs, x, hk, hi, hl => by
    obtain ⟨k, rfl⟩ := hi d List.mem_cons_self;obtain ⟨v, hv, v0, v1⟩ := jF n k;have hk' := hk.put (k := v % c) (Int.emod_nonneg _ (by omega)) (Int.emod_lt_of_pos _ (by omega)) (.bool true);obtain ⟨kvs', x', h1, h2⟩ := ly n c hc ds (m + 1) _ (.val (.int k)) hk' (fun d hd => hi d (List.mem_cons_of_mem _ hd)) (by simp at hl; omega);refine ⟨kvs', x', by rw [List.length_cons]; simpa [Nat.add_comm, Nat.add_left_comm, Nat.add_assoc] using h1, ?_⟩;have hlen := hk.len;have hsz : kvs.length < sizeLine := Nat.lt_of_le_of_lt (show kvs.length <= 1000 by simp at hl; omega) (by decide);have hc' : 0 < c := by omega
    rw [sB, <- h2];simp [t5, hv, hc', fY, hsz]
theorem sr {n c : Int} (hn : 0 <= n) (hc : 1 <= c) : ∃ ns : List Int, bV [.int n, .int c] = .ok (.tuple (ns.map .int)) /\ (∀ x ∈ ns, 0 <= x /\ x < c) /\ ns ≠ [] /\ ns.Pairwise (· < ·) := by
  unfold bV gQ;have m1 : ∀ k : Int, dJ (.int 20) (.int k) = .ok (.int (20 * k)) := fun k => gq (.inl (by omega))
  generalize hN : (1 + n % 3 + 20 * (if n / 3 % 29 = 7 then 1 else 0) : Int) = N;have hN0 : 1 <= N := by split at hN <;> omega
  have hN1 : N <= 23 := by split at hN <;> omega
  obtain ⟨kvs, x, hk, hf⟩ := ly n c hc (cG 0 N.toNat) 0 [] .non ⟨[], rfl, by simp, by simp, .inl rfl, by simp⟩ (oC _ _) (by rw [gp]; omega);obtain ⟨ns, e, hb, hl, hz, nd⟩ := hk.ex;rw [gp] at hl hz;have hi : cn (kvs.map (·.1)) = some ns := by rw [e, fA]
  have hs : iC (.dict kvs) = .ok (.list ((eI ns).map PyData.int)) := by
    show (match cn (kvs.map (·.1)) with | some ns => if ns.length < 64 then R.ok (PyData.list ((eI ns).map PyData.int)) else .no | none => .no) = _;rw [hi];exact if_pos (by omega)
  have hr : -(2 ^ 62) <= N /\ N < 2 ^ 62 := by omega
  refine ⟨eI ns, ?_, fun x hx => hb x ((dS ns).mem_iff.mp hx), ?_, sC (gw ns) ((dS ns).nodup_iff.mpr nd)⟩
  · rw [da];have hg : sf [.int N] = .ok (cG 0 N.toNat) := by
      show (if -(2 ^ 62) <= N /\ N < 2 ^ 62 then R.ok (cG 0 N.toNat) else .no) = _;rw [if_pos hr]
    simp [kQ, fT, m1, List.replicate, hN, hg, hf, hs]
  · intro z;have := (dS ns).length_eq;rw [z] at this;rcases hz with q | q
    · omega
    · exact q (List.eq_nil_of_length_eq_zero this.symm)
theorem sW {n c h : Int} (hn : 0 <= n) (hc : 1 <= c) (h0 : 0 <= h) : ∃ p : P4, bL [.int n, .int c, .int h] = .ok p.d /\ Pl c h p := by
  obtain ⟨v, hv, v0, v1⟩ := jF n 9;obtain ⟨ns, hg, hb, hne, hso⟩ := sr (n := v) (c := c) v0 hc;unfold bL gY;have hh : 0 < h + 1 := by omega
  have s4 : 4 <= sizeLine := by decide
  have a1 := Int.emod_nonneg (n / 2) (show h + 1 ≠ 0 by omega);have a2 := Int.emod_lt_of_pos (n / 2) hh;by_cases hq : n / 234 % 11 = 3
  · refine ⟨⟨n % 2, n / 2 % (h + 1), n / 26 % 41 - 20, ns⟩, ?_, ⟨by dsimp only; omega, by dsimp only; omega, a1, by dsimp only; omega, by dsimp only; omega, by dsimp only; omega, hne, hso, hb⟩⟩;rw [da];simp [hh, fT, hq, hv, hg, s4, P4.d]
  · refine ⟨⟨n % 2, n / 2 % (h + 1), n / 26 % 9 - 4, ns⟩, ?_, ⟨by dsimp only; omega, by dsimp only; omega, a1, by dsimp only; omega, by dsimp only; omega, by dsimp only; omega, hne, hso, hb⟩⟩;rw [da];simp [hh, fT, hq, hv, hg, s4, P4.d]
theorem oX (f : Fe) (ρ : aH) (i : Nat) (P : P4 -> Prop) : ∀ ds : List PyData, (∀ d ∈ ds, ∃ p : P4, f (ρ.set i (.val d)) = .ok p.d /\ P p) -> ∃ ps : List P4, bA (dq i) (fun _ => .ok true) f ρ ds = .ok (ps.map P4.d) /\ ps.length = ds.length /\ ∀ p ∈ ps, P p
  | [], _ => ⟨[], cY .., rfl, by simp⟩
  | d :: ds, h => by
    obtain ⟨x, h1, h2⟩ := h d List.mem_cons_self;obtain ⟨xs, h3, h4, h5⟩ := oX f ρ i P ds fun d hd => h d (List.mem_cons_of_mem _ hd)
    refine ⟨x :: xs, ?_, by simp [h4], fun y hy => ?_⟩
    · rw [kZ, h1, h3]; rfl
    · rcases List.mem_cons.mp hy with rfl | hy
      · exact h2
      · exact h5 y hy
theorem qL (ns : List Int) {most : Int} (hm0 : 1 <= most) (hm1 : most <= 24) : ∃ (ps : List P4) (hi : Int), bJ [iP ns, .int most] = .ok (gD ps) /\ (∀ p ∈ ps, Pl ps.length hi p) /\ 1 <= ps.length /\ (ps.length : Int) <= most /\ 0 <= hi /\ hi <= 12 := by
  obtain ⟨v, hv, v0, v1⟩ := ie ns (k := 0) (by omega);unfold bJ gt;generalize hm : (if (if (ns.length : Int) > 4 then (ns.length : Int) else 4) < most then (if (ns.length : Int) > 4 then (ns.length : Int) else 4) else most) = m;have m0 : 0 < m := by split at hm <;> split at hm <;> omega
  have m1 : m <= most := by split at hm <;> split at hm <;> omega
  generalize hc : 1 + v % m = c;have c0 : 1 <= c := by have := Int.emod_nonneg v (show m ≠ 0 by omega); omega
  have c1 : c <= most := by have := Int.emod_lt_of_pos v m0; omega
  have hix : ∃ h, aT (.list [.int 1, .int 2, .int 3, .int 5, .int 12, .int 12]) (.int (v / 24 % 6)) = .ok (.int h) /\ 0 <= h /\ h <= 12 := by
    obtain ⟨x, hx, e⟩ := jp (xs := [.int 1, .int 2, .int 3, .int 5, .int 12, .int 12]) (i := v / 24 % 6) (by omega) (by simp; omega);rw [e];simp at hx;rcases hx with rfl | rfl | rfl | rfl | rfl <;> exact ⟨_, rfl, by decide, by decide⟩
  obtain ⟨h, hh, h0, h1⟩ := hix;have s6 : 6 <= sizeLine := by decide
  have hr : sf [.int c] = .ok (cG 0 c.toNat) := by
    show (if -(2 ^ 62) <= c /\ c < 2 ^ 62 then R.ok (cG 0 c.toNat) else .no) = _;rw [if_pos (by omega)]
  obtain ⟨xs, e1, e2, e3⟩ := oX (aM bL (ae (aM aC (ae (af 1) (ae (e2 cj (eC (.int 3)) (af 0)) aA))) (ae (af 2) (ae (af 3) aA)))) (aF 1 [0, 3, 4] [.val (iP ns), .val (.int most), .val (.int v), .val (.int c), .val (.int h)]) 0 (Pl c h) (cG 0 c.toNat) fun d hd => by
    unfold cG at hd;obtain ⟨k, _, rfl⟩ := List.mem_map.mp hd;obtain ⟨w, hw, w0, w1⟩ := ie ns (k := 3 + (0 + (k : Int))) (by omega);obtain ⟨d, hd1, hd2⟩ := sW (n := w) (c := c) (h := h) w0 c0 h0;refine ⟨d, ?_, hd2⟩;simp at hw;simp [aF, List.replicate, hw, hd1]
  rw [gp] at e2;have ec : (xs.length : Int) = c := by omega
  refine ⟨xs, h, ?_, by rw [ec]; exact e3, by omega, by omega, h0, h1⟩;rw [da];simp [hv, hm, m0, hc, s6, hh, List.replicate, df, hr, gp, bW (show c.toNat <= 1000 by omega), e1]
def gK (ns : List Int) (i : Int) : Bool := ns.any fun j => decide (j = i)
theorem eh {ns : List Int} {i : Int} : gK ns i = true <-> i ∈ ns := by
  unfold gK;rw [List.any_eq_true];constructor
  · rintro ⟨j, hj, e⟩;have := of_decide_eq_true e;exact this ▸ hj
  · exact fun h => ⟨i, h, decide_eq_true rfl⟩
theorem fB : ∀ ns : List Int, PyData.depthAll (ns.map .int) = 0
  | [] => by simp [PyData.depthAll]
  | n :: ns => by simp [PyData.depthAll, PyData.depth, fB ns]
theorem iU (ns : List Int) : PyData.canLayAll0 (ns.map .int) = true := g9 fun x hx => by
  obtain ⟨i, _, rfl⟩ := List.mem_map.mp hx;exact fZ i
theorem mV (ns : List Int) (i : Int) : kK (ns.map .int) (.int i) = true := by
  unfold kK;rw [iU, fB];simp [PyData.canLay0]
theorem pF (ns : List Int) (i : Int) : ((ns.map PyData.int).any fun y => PyData.eqv y (.int i)) = gK ns i := by
  rw [List.any_map];congr 1
theorem we (ns : List Int) (i : Int) (neg : Bool) : kH neg (.int i) (.tuple (ns.map .int)) = .ok (.bool (if neg then !gK ns i else gK ns i)) := by
  show (if kK (ns.map .int) (.int i) = true then R.ok (PyData.bool _) else .no) = _;rw [if_pos (mV ns i), pF]
theorem xy (ns : List Int) (i : Int) (neg : Bool) : kH neg (.int i) (.list (ns.map .int)) = .ok (.bool (if neg then !gK ns i else gK ns i)) := by
  show (if kK (ns.map .int) (.int i) = true then R.ok (PyData.bool _) else .no) = _;rw [if_pos (mV ns i), pF]
theorem oH : ∀ ns ms : List Int, PyData.eqvAll (ns.map .int) (ms.map .int) = decide (ns = ms)
  | [], [] => by simp [PyData.eqvAll]
  | [], _ :: _ => by simp [PyData.eqvAll]
  | _ :: _, [] => by simp [PyData.eqvAll]
  | n :: ns, m :: ms => by
    simp only [List.map_cons, PyData.eqvAll, oH ns ms, n9];by_cases h : n = m <;> by_cases h2 : ns = ms <;> simp [h, h2]
theorem vO (ns ms : List Int) : pd (.tuple (ns.map .int)) (.tuple (ms.map .int)) = true := by
  unfold pd;simp [PyData.canLay0, iU, PyData.depth, fB]
def au (ps : List P4) (i : Int) : List Int := (ps[i.toNat]?.map (·.ns)).getD []
theorem mS {ps : List P4} {i : Int} (h0 : 0 <= i) (h1 : i < ps.length) : aT (gD ps) (.int i) = .ok (ps[i.toNat]'(by omega)).d := by
  rw [pH h0 (by simpa using h1)];simp
theorem eU {ps : List P4} {i : Int} (h0 : 0 <= i) (h1 : i < ps.length) : au ps i = (ps[i.toNat]'(by omega)).ns := by
  unfold au;rw [List.getElem?_eq_getElem (by omega)];rfl
theorem qv (p : P4) : aT p.d (.int 3) = .ok (.tuple (p.ns.map .int)) := rfl
theorem uM (p : P4) : aT p.d (.int 0) = .ok (.int p.w) := rfl
def bp (ps : List P4) (i : Int) : Int := (ps[i.toNat]?.map (·.w)).getD 0
theorem gh {ps : List P4} {i : Int} (h0 : 0 <= i) (h1 : i < ps.length) : bp ps i = (ps[i.toNat]'(by omega)).w := by
  unfold bp;rw [List.getElem?_eq_getElem (by omega)];rfl
theorem kg : ∀ {l m : List Int}, l.Nodup -> (∀ x ∈ l, x ∈ m) -> l.length <= m.length
  | [], m, _, _ => Nat.zero_le _
  | x :: l, m, nd, h => by
    obtain ⟨n1, n2⟩ := List.nodup_cons.mp nd;have hx := h x List.mem_cons_self;have := kg (m := m.erase x) n2 fun y hy => (List.mem_erase_of_ne (by rintro rfl; exact n1 hy)).mpr (h y (List.mem_cons_of_mem _ hy))
    rw [List.length_erase_of_mem hx] at this;have hp := List.length_pos_of_mem hx;rw [List.length_cons];omega
structure ux (js : List Int) (kvs : List (Int × Int)) : Prop where
  nd : (kvs.map (·.1)).Nodup
  sub : ∀ x ∈ kvs.map (·.1), x ∈ js
theorem ux.len {js : List Int} {kvs : List (Int × Int)} (h : ux js kvs) (nj : js.Nodup) : kvs.length <= js.length := by
  have := kg h.nd h.sub;simpa using this
def look (kvs : List (Int × Int)) (i : Int) : Option Int := (kvs.find? fun q => decide (q.1 = i)).map (·.2)
abbrev dF (n : Nat) : List Int := (List.range n).map fun (k : Nat) => (k : Int)
theorem bB {n : Nat} {i : Int} : i ∈ dF n <-> 0 <= i /\ i < n := by
  constructor
  · intro h;obtain ⟨k, hk, rfl⟩ := List.mem_map.mp h;have := List.mem_range.mp hk;omega
  · rintro ⟨h0, h1⟩;exact List.mem_map.mpr ⟨i.toNat, List.mem_range.mpr (by omega), by omega⟩
theorem rg (n : Nat) : (dF n).length = n := by simp
theorem wE {n k : Nat} (h : k < n) : (dF n)[k]? = some (k : Int) := by
  rw [List.getElem?_map, List.getElem?_range h]; rfl
theorem uv {l : List Int} (h : l.Pairwise (· < ·)) : l.Nodup := h.imp fun h => by omega
def gO (f : Int -> PyData) (n : Nat) : List PyData := (dF n).map f
theorem ca (f : Int -> PyData) (n : Nat) : (gO f n).length = n := by unfold gO; rw [List.length_map, rg]
theorem jN {f : Int -> PyData} {n : Nat} {i : Int} (h0 : 0 <= i) (h1 : i < n) : (gO f n)[i.toNat]'(by rw [ca]; omega) = f i := by
  have h := wE (n := n) (k := i.toNat) (by omega);have : (gO f n)[i.toNat]? = some (f i) := by
    unfold gO;rw [List.getElem?_map, h, Option.map_some];congr 2;omega
  exact Option.some.inj ((List.getElem?_eq_getElem _).symm.trans this)
theorem pA {f : Int -> PyData} {n : Nat} {i : Int} (h0 : 0 <= i) (h1 : i < n) : aT (.tuple (gO f n)) (.int i) = .ok (f i) := by
  rw [pH h0 (by rw [ca]; exact h1), jN h0 h1]
theorem rS {f g : Int -> PyData} {n : Nat} (h : ∀ i : Int, 0 <= i -> i < n -> f i = g i) : gO f n = gO g n :=
  List.map_congr_left fun i hi => h i (bB.mp hi).1 (bB.mp hi).2
theorem wd {f : Int -> PyData} {n : Nat} {i : Int} {v : PyData} (h0 : 0 <= i) (h1 : i < n) : (gO f n).set i.toNat v = gO (fun j => if j = i then v else f j) n := by
  refine List.ext_getElem (by rw [List.length_set, ca, ca]) fun k hk1 hk2 => ?_
  rw [ca] at hk2;have e := jN (f := fun j => if j = i then v else f j) (n := n) (i := (k : Int)) (by omega) (by omega);have e2 := jN (f := f) (n := n) (i := (k : Int)) (by omega) (by omega);simp only [Int.toNat_natCast] at e e2;rw [e, List.getElem_set];by_cases h : i.toNat = k
  · rw [if_pos h, if_pos (by omega)]
  · rw [if_neg h, if_neg (by omega), e2]
def oD : Option Int -> PyData
  | none => .none
  | some k => .int k
theorem vX (o : Option Int) : ky (oD o) .none = .ok (.bool o.isSome) := by cases o <;> rfl
def iM (k m : Nat) : List Int := (List.range m).map fun (j : Nat) => ((k + j : Nat) : Int)
theorem l3 (k m : Nat) : iM k (m + 1) = (k : Int) :: iM (k + 1) m := by
  unfold iM;rw [List.range_succ_eq_map, List.map_cons, List.map_map];congr 1;apply List.map_congr_left;intro j _;show ((k + (j + 1) : Nat) : Int) = ((k + 1 + j : Nat) : Int)
  omega
theorem kN (n : Nat) : iM 0 n = dF n := by
  unfold iM;apply List.map_congr_left;intro j _;simp
theorem o4 {t : aH -> R Bool} {ρ : aH} {p : Int -> Bool} {g : Int -> PyData} : ∀ (m k : Nat), (∀ j : Nat, k <= j -> j < k + m -> t (.val (.int j) :: .val (g j) :: ρ) = .ok (p j)) ->
    bA (bZ 0 1) t (af 0) (.non :: .non :: ρ) (bI k ((iM k m).map g)) = .ok (((iM k m).filter p).map .int)
  | 0, k, _ => by unfold iM; simp [bI, cY]
  | m + 1, k, h => by
    rw [l3, List.map_cons];have e : bI k (g k :: (iM (k + 1) m).map g) = .tuple [.int k, g k] :: bI (k + 1) ((iM (k + 1) m).map g) := rfl;rw [e, eX, o4 m (k + 1) fun j h1 h2 => h j (by omega) (by omega)];have hk := h k (Nat.le_refl _) (by omega);simp only [List.set_cons_zero, List.set_cons_succ, hk, R.ok_bind, aj];cases hp : p k with
    | true => rw [List.filter_cons_of_pos hp]; rfl
    | false => rw [List.filter_cons_of_neg (by rw [hp]; simp)]; rfl
theorem lD {fe : Fe} {ρ : aH} {g h : Int -> PyData} : ∀ (m k : Nat), (∀ j : Nat, k <= j -> j < k + m -> fe (.val (.int j) :: .val (g j) :: ρ) = .ok (h j)) ->
    bA (bZ 0 1) (fun _ => .ok true) fe (.non :: .non :: ρ) (bI k ((iM k m).map g)) = .ok ((iM k m).map h)
  | 0, k, _ => by unfold iM; simp [bI, cY]
  | m + 1, k, hh => by
    rw [l3, List.map_cons];have e : bI k (g k :: (iM (k + 1) m).map g) = .tuple [.int k, g k] :: bI (k + 1) ((iM (k + 1) m).map g) := rfl;rw [e, eX, lD m (k + 1) fun j h1 h2 => hh j (by omega) (by omega)];have hk := hh k (Nat.le_refl _) (by omega);simp only [R.ok_bind, if_true, List.set_cons_zero, List.set_cons_succ, hk];rfl
theorem vn {f g h : Int -> PyData} {n : Nat} {fe : Fe} {ρ : aH} (hh : ∀ i : Int, 0 <= i -> i < n -> fe (.val (f i) :: .val (g i) :: ρ) = .ok (h i)) : bA (bZ 0 1) (fun _ => .ok true) fe (.non :: .non :: ρ) (eW (gO f n) (gO g n)) = .ok (gO h n) := by
  have go : ∀ is : List Int, (∀ i ∈ is, 0 <= i /\ i < n) -> bA (bZ 0 1) (fun _ => .ok true) fe (.non :: .non :: ρ) (eW (is.map f) (is.map g)) = .ok (is.map h) := by
    intro is;induction is with
    | nil => intro _; unfold eW; simp [cY]
    | cons i is ih =>
      intro hb;have e : eW ((i :: is).map f) ((i :: is).map g) = .tuple [f i, g i] :: eW (is.map f) (is.map g) := rfl;rw [e, eX, ih fun x hx => hb x (List.mem_cons_of_mem _ hx)];have := hh i (hb i List.mem_cons_self).1 (hb i List.mem_cons_self).2;simp only [R.ok_bind, if_true, List.set_cons_zero, List.set_cons_succ, this];rfl
  exact go (dF n) fun i hi => bB.mp hi
theorem uK (t : aH -> R Bool) (g : Fs) (n : Nat) (ρ : aH) : cH t g (n + 1) ρ = (t ρ >>= fun b => if b = true then g ρ >>= re (cH t g n) else .ok (.nx ρ)) := by
  rw [cH];congr 1
def zW (s : PyData) (js : List Int) : Prop := s = .tuple (js.map .int) \/ s = .list (js.map .int)
theorem zW.inn {s : PyData} {js : List Int} (h : zW s js) (neg : Bool) (k : Int) : kH neg (.int k) s = .ok (.bool (if neg then !gK js k else gK js k)) := by
  rcases h with rfl | rfl
  · exact we ..
  · exact xy ..
theorem zW.len {s : PyData} {js : List Int} (h : zW s js) : eY s = .ok (.int js.length) := by
  rcases h with rfl | rfl <;> simp
structure qo (n : Nat) (js : List Int) : Prop where
  lt : js.Pairwise (· < ·)
  inn : ∀ x ∈ js, 0 <= x /\ x < n
theorem qo.nd {n : Nat} {js : List Int} (h : qo n js) : js.Nodup := uv h.lt
theorem qo.len {n : Nat} {js : List Int} (h : qo n js) : js.length <= n := by
  have := i8 js 0 n h.lt h.inn;rcases this with z | z
  · rw [z]; simp
  · omega
theorem qo.filter {n : Nat} {js : List Int} (h : qo n js) (p : Int -> Bool) : qo n (js.filter p) := ⟨h.lt.filter _, fun x hx => h.inn x (List.mem_filter.mp hx).1⟩
abbrev oT (f : Int -> Option Int) (n : Nat) : PyData := .tuple (gO (fun i => oD (f i)) n)
structure Gr (ps : List P4) : Prop where
  hl : ∀ p ∈ ps, p.ns.length <= 100
  hgo : ∀ p ∈ ps, ∀ x ∈ p.ns, 0 <= x /\ x < ps.length
  hp : ps.length <= 24
  lt : ∀ p ∈ ps, p.ns.Pairwise (· < ·)
  ne : ∀ p ∈ ps, p.ns ≠ []
theorem Gr.goals {ps : List P4} (G : Gr ps) {i x : Int} (h : x ∈ au ps i) : 0 <= x /\ x < ps.length := by
  unfold au at h;cases e : ps[i.toNat]? with
  | none => rw [e] at h; cases h
  | some p => rw [e] at h; exact G.hgo p (List.mem_of_getElem? e) x h
def cf (ps : List P4) (i : Int) : Int := (ps[i.toNat]?.map (·.m)).getD 0
theorem uV (p : P4) : aT p.d (.int 1) = .ok (.int p.m) := rfl
theorem mH {ps : List P4} {i : Int} (h0 : 0 <= i) (h1 : i < ps.length) : cf ps i = (ps[i.toNat]'(by omega)).m := by
  unfold cf;rw [List.getElem?_eq_getElem (by omega)];rfl
theorem sv {ps : List P4} {js : List Int} (hne : js ≠ []) : ∃ h, ma (.list ((js.map (cf ps)).map .int)) = .ok (.int h) /\ (∃ i ∈ js, cf ps i = h) /\ ∀ i ∈ js, cf ps i <= h := by
  cases js with
  | nil => exact (hne rfl).elim
  | cons j js =>
    obtain ⟨s1, s2⟩ := mQ (cf ps j) (js.map (cf ps));refine ⟨qm (cf ps j) (js.map (cf ps)), ?_, ?_, fun i hi => ?_⟩
    · show (match cn (((j :: js).map (cf ps)).map .int) with | some (n :: ns) => R.ok (PyData.int (qm n ns)) | _ => .no) = _;rw [fA];rfl
    · rw [<- List.map_cons (f := cf ps)] at s1;obtain ⟨i, hi, e⟩ := List.mem_map.mp s1;exact ⟨i, hi, e⟩
    · exact s2 _ (by rw [<- List.map_cons (f := cf ps)]; exact List.mem_map.mpr ⟨i, hi, rfl⟩)
theorem k7 {d : PyData} (hg : dg d) (hd : d.depth <= 60) : nQ d d = .ok (.bool false) := by
  unfold nQ;rw [if_pos (by unfold pd; rw [hg]; simp; exact hd), PySem.SeqAt.eqv_refl d hg];rfl
def qG : List PyData -> Prop := fun ds => ∀ x ∈ ds, dg x /\ x.depth = 0
theorem qG.dep : ∀ {ds : List PyData}, qG ds -> PyData.depthAll ds = 0
  | [], _ => by simp [PyData.depthAll]
  | d :: ds, h => by simp [PyData.depthAll, (h d List.mem_cons_self).2, qG.dep fun x hx => h x (List.mem_cons_of_mem _ hx)]
theorem qG.good {ds : List PyData} (h : qG ds) : dg (.tuple ds) := cr.mpr fun x hx => (h x hx).1
theorem rG (o : Option Int) : dg (oD o) /\ (oD o).depth = 0 := by
  cases o
  · exact ⟨iA, by simp [oD, PyData.depth]⟩
  · exact ⟨fZ _, by simp [oD, PyData.depth]⟩
theorem lp (f : Int -> Option Int) (n : Nat) : qG (gO (fun i => oD (f i)) n) := fun x hx => by
  obtain ⟨i, _, rfl⟩ := List.mem_map.mp hx;exact rG _
theorem mE (ns : List Int) : qG (ns.map .int) := fun x hx => by
  obtain ⟨i, _, rfl⟩ := List.mem_map.mp hx;exact rG (some i)
theorem fu (f : Int -> Option Int) (n : Nat) : dg (oT f n) := (lp f n).good
theorem rk (ns : List Int) : dg (.tuple (ns.map .int)) := (mE ns).good
theorem zL {ps : List P4} {hi : Int} (hp : ∀ p ∈ ps, Pl ps.length hi p) (h24 : (ps.length : Int) <= 24) : Gr ps :=
  ⟨fun p h => by have := (hp p h).len; omega, fun p h => (hp p h).inn, by omega, fun p h => (hp p h).so, fun p h => (hp p h).ne⟩
theorem Gr.gne {ps : List P4} (G : Gr ps) {i : Int} (h0 : 0 <= i) (h1 : i < ps.length) : ∃ g, g ∈ au ps i := by
  have := G.ne _ (List.getElem_mem (show i.toNat < ps.length by omega));rw [<- eU h0 h1] at this;exact List.exists_mem_of_ne_nil _ this
theorem zE (ns : List Int) (i : Int) (neg : Bool) : kH neg (.int i) (.tuple (ns.map .int)) = .ok (.bool (if neg then !(ns.any fun j => decide (j = i)) else ns.any fun j => decide (j = i))) := we ns i neg
def yy (ns : List Int) : PyData -> Bool
  | .none => true
  | .int i => ns.any fun j => decide (j = i)
  | _ => false
def gC (ps : List P4) : PyData -> Bool
  | .tuple ds => decide (ds.length = ps.length) && (ds.zip ps).all fun q => yy q.2.ns q.1
  | _ => false
theorem eT {ps : List P4} {f : Int -> Option Int} (h : ∀ i g, f i = some g -> g ∈ au ps i) : gC ps (oT f ps.length) = true := by
  show (decide _ && _) = true;rw [decide_eq_true (ca ..), Bool.true_and, List.all_eq_true];intro q hq;obtain ⟨k, hk, e⟩ := List.mem_iff_getElem.mp hq;rw [List.length_zip, ca, Nat.min_self] at hk;rw [List.getElem_zip] at e;have e2 := jN (f := fun i => oD (f i)) (n := ps.length) (i := (k : Int)) (by omega) (by omega);simp only [Int.toNat_natCast] at e2;rw [e2] at e;subst e;cases hf : f (k : Int) with
  | none => rfl
  | some g =>
    have := h _ _ hf;rw [eU (by omega) (by omega)] at this;simp only [Int.toNat_natCast] at this;exact eh.mpr this
theorem l0 {d : PyData} (h : noD d) : bw [d] = .ok (.bool (zK d)) := by
  cases d <;> first | rfl | cases h
theorem qP {d : PyData} (h : noD d) (lo hi : Int) : bK [d, .int lo, .int hi] = .ok (.bool (mw d lo hi)) := by
  unfold bK gB;rw [da];cases d with
  | int i =>
    by_cases h1 : lo <= i <;> by_cases h2 : i <= hi <;> simp [l0 h, zK, h1, h2, mw]
  | dict k => cases h
  | _ => simp [l0 h, zK, mw]
def jl (ps : List P4) (i : Int) : PyData := (ps[i.toNat]?.map P4.d).getD .none
theorem qN (ps : List P4) : ps.map P4.d = gO (jl ps) ps.length := by
  refine List.ext_getElem (by rw [List.length_map, ca]) fun k h1 h2 => ?_
  rw [ca] at h2;have e := jN (f := jl ps) (n := ps.length) (i := (k : Int)) (by omega) (by omega);simp only [Int.toNat_natCast] at e;rw [e, List.getElem_map];unfold jl;rw [List.getElem?_eq_getElem (by omega)];simp
theorem wL {ps : List P4} {i : Int} (h0 : 0 <= i) (h1 : i < ps.length) : aT (jl ps i) (.int 0) = .ok (.int (bp ps i)) := by
  unfold jl;rw [List.getElem?_eq_getElem (show i.toNat < ps.length by omega), gh h0 h1];rfl
def jS (nx : Int -> Int) (s : Int) : Nat -> Int
  | 0 => s
  | k + 1 => nx (jS nx s k)
def iB (nx : Int -> Int) (s : Int) (k : Nat) : List Int := (List.range k).map (jS nx s)
theorem cy (nx : Int -> Int) (s : Int) (k : Nat) : (iB nx s k).length = k := by unfold iB; simp
theorem pL (nx : Int -> Int) (s : Int) (k : Nat) : iB nx s (k + 1) = iB nx s k ++ [jS nx s k] := by
  unfold iB;rw [List.range_succ, List.map_append];rfl
theorem ir {nx : Int -> Int} {s : Int} {k j : Nat} (h : j < k) : (iB nx s k)[j]'(by rw [cy]; exact h) = jS nx s j := by
  unfold iB;simp
theorem gg {nx : Int -> Int} {s : Int} {k : Nat} {x : Int} : x ∈ iB nx s k <-> ∃ j, j < k /\ jS nx s j = x := by
  unfold iB;rw [List.mem_map];simp only [List.mem_range]
structure nI (nx : Int -> Int) (s : Int) (k e : Nat) : Prop where
  lt : e < k
  eq : jS nx s k = jS nx s e
  nd : (iB nx s k).Nodup
theorem ng {nx : Int -> Int} {s : Int} {k : Nat} (nd : (iB nx s k).Nodup) {a b : Nat} (ha : a < k) (hb : b < k) (e : jS nx s a = jS nx s b) : a = b := by
  have h := List.pairwise_iff_getElem.mp (show (iB nx s k).Pairwise (· ≠ ·) from nd);rcases Nat.lt_trichotomy a b with z | z | z
  · exfalso;refine h a b (by rw [cy]; exact ha) (by rw [cy]; exact hb) z ?_;rw [ir ha, ir hb, e]
  · exact z
  · exfalso;refine h b a (by rw [cy]; exact hb) (by rw [cy]; exact ha) z ?_;rw [ir ha, ir hb, e]
theorem nI.uniq {nx : Int -> Int} {s : Int} {k e k' e' : Nat} (w : nI nx s k e) (w' : nI nx s k' e') : k = k' /\ e = e' := by
  have hk : k = k' := by
    rcases Nat.lt_trichotomy k k' with z | z | z
    · have := ng w'.nd (a := k) (b := e) z (by have := w.lt; omega) w.eq;have := w.lt;omega
    · exact z
    · have := ng w.nd (a := k') (b := e') z (by have := w'.lt; omega) w'.eq;have := w'.lt;omega
  subst hk;exact ⟨rfl, ng w.nd w.lt w'.lt (w.eq.symm.trans w'.eq)⟩
theorem mI {nx : Int -> Int} {S : Int -> Prop} (hn : ∀ x, S x -> S (nx x)) {s : Int} (hs : S s) : ∀ k, S (jS nx s k)
  | 0 => hs
  | k + 1 => hn _ (mI hn hs k)
theorem lZ {n : Nat} {nx : Int -> Int} {S : Int -> Prop} (hS : ∀ x, S x -> x ∈ dF n) (hn : ∀ x, S x -> S (nx x)) {s : Int} (hs : S s) {k : Nat} (nd : (iB nx s k).Nodup) : k <= n := by
  have := kg nd (m := dF n) fun x hx => by
    obtain ⟨j, _, rfl⟩ := gg.mp hx;exact hS _ (mI hn hs j)
  rw [cy, rg] at this;exact this
theorem i7 {t : aH -> R Bool} {g : Fs} {V : List Int -> Int -> aH} {nx : Int -> Int} {S : Int -> Prop} {n : Nat} (hS : ∀ x, S x -> x ∈ dF n) (hn : ∀ x, S x -> S (nx x)) (ht : ∀ pl x, S x -> t (V pl x) = .ok (!gK pl x)) (hg : ∀ pl x, S x -> pl.length <= n -> g (V pl x) = .ok (.nx (V (pl ++ [x]) (nx x)))) {s : Int} (hs : S s) :
    ∀ (m k : Nat), (iB nx s k).Nodup -> n + 2 <= m + k -> ∃ K e, nI nx s K e /\ cH t g m (V (iB nx s k) (jS nx s k)) = .ok (.nx (V (iB nx s K) (jS nx s K)))
  | 0, k, nd, h => by
    have := lZ hS hn hs nd;omega
  | m + 1, k, nd, h => by
    have hx := mI hn hs k;rw [uK, ht _ _ hx, R.ok_bind];by_cases hm : jS nx s k ∈ iB nx s k
    · obtain ⟨e, he, ee⟩ := gg.mp hm;refine ⟨k, e, ⟨he, ee.symm, nd⟩, ?_⟩;rw [eh.mpr hm];rfl
    · have hb : gK (iB nx s k) (jS nx s k) = false := by
        cases z : gK (iB nx s k) (jS nx s k) with
        | false => rfl
        | true => exact (hm (eh.mp z)).elim
      have nd' : (iB nx s (k + 1)).Nodup := by
        rw [pL, List.nodup_append];refine ⟨nd, by simp, fun a ha b hb' => ?_⟩;simp at hb';subst hb';rintro rfl;exact hm ha
      obtain ⟨K, e, w, r⟩ := i7 hS hn ht hg hs m (k + 1) nd' (by omega);refine ⟨K, e, w, ?_⟩;rw [hb, if_pos (by rfl), hg _ _ hx (by rw [cy]; exact lZ hS hn hs nd), R.ok_bind, jD, <- pL];exact r
theorem nI.idx {nx : Int -> Int} {s : Int} {k e : Nat} (w : nI nx s k e) : (iB nx s k).idxOf (jS nx s k) = e := by
  have hm : jS nx s k ∈ iB nx s k := gg.mpr ⟨e, w.lt, w.eq.symm⟩;have h1 := List.idxOf_lt_length_of_mem hm;have h2 := List.getElem_idxOf h1;rw [cy] at h1;rw [ir h1] at h2;exact ng w.nd h1 w.lt (h2.trans w.eq)
theorem nD {n d e : Nat} (h : e <= n) : HT.sIx n d (some (e : Int)) = e := by
  unfold HT.sIx;have h0 : ¬ ((e : Nat) : Int) < 0 := by omega
  simp only [h0, if_false];simp;omega
theorem lc (n d : Nat) : HT.sIx n d none = d := by
  unfold HT.sIx;rfl
theorem lU {ds : List PyData} {e : Nat} (h : e <= ds.length) : D2.hU ds none (some (e : Int)) = ds.take e := by
  unfold D2.hU;rw [nD h, lc];simp
theorem nu {ds : List PyData} {e : Nat} (h : e <= ds.length) : D2.hU ds (some (e : Int)) none = ds.drop e := by
  unfold D2.hU;rw [nD h, lc];rw [List.take_of_length_le (by rw [List.length_drop]; omega)]
def wn (nx : Int -> Int) (s : Int) (k e : Nat) : List Int := (iB nx s k).take e
def iQ (nx : Int -> Int) (s : Int) (k e : Nat) : List Int := (iB nx s k).drop e
abbrev zq (nx : Int -> Int) (s : Int) (k e : Nat) : PyData := .tuple [.tuple ((wn nx s k e).map .int), .tuple ((iQ nx s k e).map .int)]
theorem iG (nx : Int -> Int) (s : Int) (k e : Nat) : (iQ nx s k e).length = k - e := by unfold iQ; rw [List.length_drop, cy]
theorem s9 {nx : Int -> Int} {s : Int} {k e j : Nat} (h : e + j < k) : (iQ nx s k e)[j]'(by rw [iG]; omega) = jS nx s (e + j) := by
  unfold iQ;rw [List.getElem_drop, ir h]
theorem r8 {nx : Int -> Int} {s : Int} {k e : Nat} {x : Int} (h : x ∈ iQ nx s k e) : ∃ j, e <= j /\ j < k /\ jS nx s j = x := by
  obtain ⟨j, hj, ej⟩ := List.mem_iff_getElem.mp h;rw [iG] at hj;rw [s9 (by omega)] at ej;exact ⟨e + j, by omega, by omega, ej⟩
def zb (ps : List P4) (rs : List Int) : Prop := ∀ j (h : j < rs.length), rs[(j + 1) % rs.length]'(Nat.mod_lt _ (by omega)) ∈ au ps (rs[j])
theorem jZ {d : PyData} (h : noD d) (ps : List P4) : ar [d, gD ps] = .ok (.bool (mw d 0 ((ps.length : Int) - 1))) := by
  unfold ar cO;refine fy ?_;rw [show ([d, gD ps].map bg.val ++ List.replicate (2 - [d, gD ps].length) bg.non) = [.val d, .val (gD ps)] from rfl];simp only [eP, aJ, ax, aD, cz, aS, aj, av, aW, R.ok_bind, ka, List.length_map, xI, qP h]
theorem qg {d : PyData} (hg : dg d) (p : P4) : cB [d, p.d] = .ok (.bool (yy p.ns d)) := by
  unfold cB kb;rw [da];have hw := l0 hg.noD;cases d with
  | none => simp [lR, dX, yy]
  | int i => simp [lR, dX, yy, hw, zK, qv, zE]
  | dict k => exact hg.noD.elim
  | _ => simp [lR, dX, yy, hw, zK]
theorem lh (x y : bg) : ∀ (ds : List PyData) (ps : List P4), (∀ d ∈ ds, dg d) -> bA (bZ 0 1) (fun _ => .ok true) (aM cB (ae (af 0) (ae (af 1) aA))) [x, y] (eW ds (ps.map P4.d)) = .ok ((ds.zip ps).map fun q => .bool (yy q.2.ns q.1))
  | [], ps, _ => by unfold eW; simp [cY]
  | d :: ds, [], _ => by unfold eW; simp [cY]
  | d :: ds, p :: ps, h => by
    have e : eW (d :: ds) ((p :: ps).map P4.d) = .tuple [d, p.d] :: eW ds (ps.map P4.d) := rfl;rw [e, eX, lh x y ds ps fun z hz => h z (List.mem_cons_of_mem _ hz)];simp [qg (h d List.mem_cons_self) p]
theorem all_map {α : Type} (p : α -> Bool) : ∀ l : List α, D2.kh (l.map fun a => .bool (p a)) = some (l.all p)
  | [] => rfl
  | a :: l => by simp only [List.map_cons, D2.kh, all_map p l, List.all_cons, Option.map_some]
theorem bX {d : PyData} (hg : dg d) {ps : List P4} (hl : ps.length <= 24) : bN [d, gD ps] = .ok (.bool (gC ps d)) := by
  unfold bN il;rw [da];cases d with
  | tuple ds =>
    have h := cr.mp hg;by_cases hq : ds.length = ps.length
    · have hs : (eW ds (ps.map P4.d)).length <= sizeLine := by rw [hJ]; exact bW (by omega)
      have hc := lh .non .non ds ps h;simp [fg, yu, uf, hq, df, hs, aF, List.replicate, hc, nY, all_map, gC]
    · have hq' : ¬ ((ds.length : Int) = (ps.length : Int)) := by omega
      simp [fg, yu, uf, hq', hq, gC]
  | dict k => exact hg.noD.elim
  | _ => simp [fg, yu, gC]
def bH (ps : List P4) (z o : Int -> Option Int) (i : Int) : Option Int := if bp ps i = 0 then z i else o i
theorem qB {ps : List P4} (hp : ps.length <= 24) (ho : ∀ i ∈ dF ps.length, bp ps i = 0 \/ bp ps i = 1) (z o : Int -> Option Int) : aU [gD ps, oT z ps.length, oT o ps.length] = .ok (oT (bH ps z o) ps.length) := by
  have hc := lD (fe := e2 aT (e2 aT (af 2) (e2 aT (af 1) (eC (.int 0)))) (af 0)) (ρ := [.val (.tuple [oT z ps.length, oT o ps.length])]) (g := jl ps) (h := fun i => oD (bH ps z o i)) ps.length 0 fun j _ h2 => by
    have j0 : (0 : Int) <= (j : Int) := by omega
    have j1 : (j : Int) < ps.length := by omega
    simp only [aS, av, aj, aW, R.ok_bind, wL j0 j1];rcases ho j (bB.mpr ⟨j0, j1⟩) with w | w
    · rw [w, show aT (.tuple [oT z ps.length, oT o ps.length]) (.int 0) = .ok (oT z ps.length) from rfl, R.ok_bind, pA j0 j1];unfold bH;rw [if_pos w]
    · rw [w, show aT (.tuple [oT z ps.length, oT o ps.length]) (.int 1) = .ok (oT o ps.length) from rfl, R.ok_bind, pA j0 j1];unfold bH;rw [if_neg (by omega)]
  rw [kN] at hc;unfold aU dE;refine fy ?_;rw [show ([gD ps, oT z ps.length, oT o ps.length].map bg.val ++ List.replicate (4 - [gD ps, oT z ps.length, oT o ps.length].length) bg.non) = [.val (gD ps), .val (oT z ps.length), .val (oT o ps.length), .non] from rfl];rw [aG (ρ' := [.val (gD ps), .val (oT z ps.length), .val (oT o ps.length), .val (.tuple [oT z ps.length, oT o ps.length])]) (by
    rw [aZ, di];simp only [ax, aD, av, aj, R.ok_bind];rw [if_pos (by show 2 <= _; decide)];rfl)]
  rw [eP, cz, df, show aF 2 [3] [.val (gD ps), .val (oT z ps.length), .val (oT o ps.length), .val (.tuple [oT z ps.length, oT o ps.length])] = [.non, .non, .val (.tuple [oT z ps.length, oT o ps.length])] from rfl];simp only [im, aj, R.ok_bind, e9, dw];rw [if_pos (by rw [fX, List.length_map]; exact bW (by omega)), qN];rw [show bI 0 (gO (jl ps) ps.length) = bI 0 ((dF ps.length).map (jl ps)) from rfl, hc];rfl
theorem nB (f : Int -> Option Int) (n : Nat) : kH false .none (oT f n) = .ok (.bool ((dF n).any fun i => (f i).isNone)) := by
  have hf := lp f n;have hi : kK (gO (fun i => oD (f i)) n) .none = true := by
    unfold kK;rw [g9 fun x hx => (hf x hx).1, hf.dep];simp [PyData.canLay0]
  show (if kK (gO (fun i => oD (f i)) n) .none = true then R.ok (PyData.bool ((gO (fun i => oD (f i)) n).any fun y => PyData.eqv y .none)) else .no) = _;rw [if_pos hi];unfold gO;rw [List.any_map];congr 3;funext i;show PyData.eqv (oD (f i)) .none = _;cases f i <;> simp [oD, PyData.eqv]
theorem kz : ∀ {ns : List Int}, (∀ x ∈ ns, 0 <= x /\ x < 1000) -> PyData.weightAll (ns.map .int) <= 12 * ns.length
  | [], _ => by simp [PyData.weightAll]
  | n :: ns, h => by
    have ih := kz fun x hx => h x (List.mem_cons_of_mem _ hx)
    have hn := h n List.mem_cons_self;have h1 : PyData.weight (.int n) <= 11 := by
      simp only [PyData.weight];split
      · omega
      · rename_i hz;have h2 : n.natAbs ≠ 0 := by
          intro z;apply hz;have : n = 0 := by omega
          rw [this];rfl
        have := (Nat.log2_lt h2 (k := 10)).mpr (by omega);omega
    simp only [List.map_cons, PyData.weightAll, List.length_cons];omega
theorem tU {ns : List Int} (h : ns.length <= 1000) (hb : ∀ x ∈ ns, 0 <= x /\ x < 1000) : PyData.layable0 (.list (ns.map .int)) = true := by
  have hw := kz hb;have e1 : (PyData.list (ns.map .int)).canLay0 = true := by simp only [PyData.canLay0]; exact iU ns
  have e2 : (PyData.list (ns.map .int)).depth <= 64 := by simp only [PyData.depth, fB]; omega
  have e3 : (PyData.list (ns.map .int)).weight <= 2 ^ 20 := by simp only [PyData.weight]; omega
  unfold PyData.layable0;rw [e1, decide_eq_true e2, decide_eq_true e3];rfl
theorem lC {ns : List Int} {k : Int} (h : ns.length <= 1000) (hb : ∀ x ∈ ns, 0 <= x /\ x < 1000) (hk : k ∈ ns) : hV (.list (ns.map .int)) (.int k) = .ok (.int (ns.idxOf k : Nat)) := by
  show (match cn (ns.map .int) with | some ns' => if PyData.layable0 (.list (ns.map .int)) = true /\ k ∈ ns' then R.ok (PyData.int (ns'.idxOf k : Nat)) else .no | none => .no) = _;rw [fA];exact if_pos ⟨tU h hb, hk⟩
abbrev lL : Str := PySem.Str.ofString "NoMoves"
abbrev k9 : Str := PySem.Str.ofString "NoPart"
theorem tF {n : Nat} {s : Int} (hs : s ∈ dF n) : mw (.int s) 0 ((n : Int) - 1) = true := by
  obtain ⟨h0, h1⟩ := bB.mp hs;show (decide _ && decide _) = true;rw [decide_eq_true h0, decide_eq_true (by omega)];rfl
def gc (ps : List P4) (z o : Int -> Option Int) (i : Int) : Int := (bH ps z o i).getD 0
def rB : Fs := (aV (cJ 5 (af 6)) (bF 6 (e2 aT (af 4) (af 6))))
abbrev rV (ps : List P4) (z o : Int -> Option Int) (s : Int) (pl : List Int) (x : Int) : aH := [.val (gD ps), .val (oT z ps.length), .val (oT o ps.length), .val (.int s), .val (oT (bH ps z o) ps.length), .own (.list (pl.map .int)), .val (.int x), .non]
section
variable {ps : List P4} (G : Gr ps) (hw : ∀ i ∈ dF ps.length, bp ps i = 0 \/ bp ps i = 1) {z o : Int -> Option Int} (hz : ∀ i g, z i = some g -> g ∈ au ps i) (ho : ∀ i g, o i = some g -> g ∈ au ps i) (hall : ∀ i ∈ dF ps.length, ∃ g, bH ps z o i = some g)
include hz ho in
theorem qC {i g : Int} (h : bH ps z o i = some g) : g ∈ au ps i := by
  unfold bH at h;split at h
  · exact hz i g h
  · exact ho i g h
include hz ho hall in
theorem tL {i : Int} (hi : i ∈ dF ps.length) : gc ps z o i ∈ au ps i := by
  obtain ⟨g, hg⟩ := hall i hi;unfold gc;rw [hg];exact qC hz ho hg
include G hz ho hall in
theorem gN {i : Int} (hi : i ∈ dF ps.length) : gc ps z o i ∈ dF ps.length := bB.mpr (G.goals (tL hz ho hall hi))
include hall in
theorem vz {i : Int} (hi : i ∈ dF ps.length) : aT (oT (bH ps z o) ps.length) (.int i) = .ok (.int (gc ps z o i)) := by
  obtain ⟨h0, h1⟩ := bB.mp hi;obtain ⟨g, hg⟩ := hall i hi;rw [pA h0 h1];unfold gc;rw [hg];rfl
include G hz ho hall in
theorem zD {s : Int} (hs : s ∈ dF ps.length) : ∃ K e, nI (gc ps z o) s K e /\ cH (tE (e2 (kH true) (af 6) (cZ 5))) rB 1000000 (rV ps z o s [] s) = .ok (.nx (rV ps z o s (iB (gc ps z o) s K) (jS (gc ps z o) s K))) := by
  have hp := G.hp;refine i7 (V := rV ps z o s) (S := fun x => x ∈ dF ps.length) (n := ps.length) (fun _ h => h) (fun x h => gN G hz ho hall h) (fun pl x _ => ?_) (fun pl x hx hl => ?_) hs 1000000 0 (by unfold iB; simp) (by omega)
  · simp only [bS, aS, av, aj, gG, gf, R.ok_bind, xy, bY];rfl
  · unfold rB;rw [aG (ρ' := rV ps z o s (pl ++ [x]) x) (by
      rw [kl (ds := pl.map .int) (af 6) rfl (Nat.lt_of_lt_of_le (show _ < 1001 by rw [List.length_map]; omega) (by decide))];simp only [aj, av, dw, R.ok_bind];rw [show pl.map PyData.int ++ [PyData.int x] = (pl ++ [x]).map .int by simp];rfl)]
    simp only [aZ, aS, aj, av, R.ok_bind, vz hall hx];rfl
include G hw hz ho hall in
theorem qc {s : Int} (hs : s ∈ dF ps.length) : ∃ K e, nI (gc ps z o) s K e /\ aL [gD ps, oT z ps.length, oT o ps.length, .int s] = .ok (zq (gc ps z o) s K e) := by
  have hp := G.hp;obtain ⟨K, e, w, hl⟩ := zD G hz ho hall hs;refine ⟨K, e, w, ?_⟩;have hK := lZ (S := fun x => x ∈ dF ps.length) (fun _ h => h) (fun x h => gN G hz ho hall h) hs w.nd;have m1 := bX (fu z ps.length) (ps := ps) hp;have m2 := bX (fu o ps.length) (ps := ps) hp;rw [eT hz] at m1;rw [eT ho] at m2;have m3 := qB hp hw z o;have m4 := nB (bH ps z o) ps.length;have m5 : ((dF ps.length).any fun i => (bH ps z o i).isNone) = false := by
    rw [List.any_eq_false];intro i hi;obtain ⟨g, hg⟩ := hall i hi;rw [hg];simp
  rw [m5] at m4;have m6 := jZ (d := .int s) True.intro ps;rw [tF hs] at m6;have hm : jS (gc ps z o) s K ∈ iB (gc ps z o) s K := gg.mpr ⟨e, w.lt, w.eq.symm⟩;have m7 := lC (by rw [cy]; omega) (fun x hx => by
    obtain ⟨j, _, rfl⟩ := gg.mp hx;have := bB.mp (mI (nx := gc ps z o) (S := fun x => x ∈ dF ps.length) (fun x h => gN G hz ho hall h) hs j);omega) hm
  rw [w.idx] at m7;have he := w.lt;unfold aL eS;refine fy ?_;rw [show ([gD ps, oT z ps.length, oT o ps.length, .int s].map bg.val ++ List.replicate (8 - [gD ps, oT z ps.length, oT o ps.length, .int s].length) bg.non) = [.val (gD ps), .val (oT z ps.length), .val (oT o ps.length), .val (.int s), .non, .non, .non, .non] from rfl];rw [aG (ρ' := [.val (gD ps), .val (oT z ps.length), .val (oT o ps.length), .val (.int s), .non, .non, .non, .non]) (by
    simp only [bz, dU, bO, bS, aJ, ax, aD, aj, av, R.ok_bind, m1, m2, bY]; rfl)]
  rw [aG (ρ' := [.val (gD ps), .val (oT z ps.length), .val (oT o ps.length), .val (.int s), .val (oT (bH ps z o) ps.length), .non, .non, .non]) (by
    simp only [aZ, aJ, ax, aD, aj, av, R.ok_bind, m3]; rfl)]
  rw [aG (ρ' := [.val (gD ps), .val (oT z ps.length), .val (oT o ps.length), .val (.int s), .val (oT (bH ps z o) ps.length), .non, .non, .non]) (by
    simp only [bz, bS, aS, aW, aj, av, R.ok_bind, m4, bY]; rfl)]
  rw [aG (ρ' := [.val (gD ps), .val (oT z ps.length), .val (oT o ps.length), .val (.int s), .val (oT (bH ps z o) ps.length), .non, .non, .non]) (by
    simp only [bz, bO, bS, aJ, ax, aD, aj, av, R.ok_bind, m6, bY]; rfl)]
  rw [aG (ρ' := [.val (gD ps), .val (oT z ps.length), .val (oT o ps.length), .val (.int s), .val (oT (bH ps z o) ps.length), .own (.list []), .non, .non]) (by rfl)];rw [aG (ρ' := rV ps z o s [] s) (by rfl)];rw [aG (ρ' := rV ps z o s (iB (gc ps z o) s K) (jS (gc ps z o) s K)) (by
    rw [jP];show lw (cH (tE (e2 (kH true) (af 6) (cZ 5))) rB 1000000 _) = _;rw [hl];rfl)]
  rw [aG (ρ' := [.val (gD ps), .val (oT z ps.length), .val (oT o ps.length), .val (.int s), .val (oT (bH ps z o) ps.length), .own (.list ((iB (gc ps z o) s K).map .int)), .val (.int (jS (gc ps z o) s K)), .val (.int (e : Nat))]) (by
    rw [aZ];unfold hW;simp only [gG, gf, av, aj, R.ok_bind, vk, m7];rfl)]
  simp only [eP, di, ax, aD, cz, ke, gG, gf, gV, h8, av, aj, R.ok_bind, o9, wX, l4];rw [lU (by rw [List.length_map, cy]; omega), nu (by rw [List.length_map, cy]; omega), if_pos (by show 2 <= _; decide), R.ok_bind];unfold zq wn iQ;rw [List.map_take, List.map_drop]
end
theorem oB {fe : Fe} {ρ : aH} {p : Int -> Int -> Bool} : ∀ (rs ss : List Int), (∀ q ∈ rs.zip ss, fe (.val (.int q.1) :: .val (.int q.2) :: ρ) = .ok (.bool (p q.1 q.2))) -> bA (bZ 0 1) (fun _ => .ok true) fe (.non :: .non :: ρ) (eW (rs.map .int) (ss.map .int)) = .ok ((rs.zip ss).map fun q => .bool (p q.1 q.2))
  | [], ss, _ => by unfold eW; simp [cY]
  | r :: rs, [], _ => by unfold eW; simp [cY]
  | r :: rs, s :: ss, h => by
    have e : eW ((r :: rs).map .int) ((s :: ss).map .int) = .tuple [.int r, .int s] :: eW (rs.map .int) (ss.map .int) := rfl;have h1 := h (r, s) (by simp);rw [e, eX, oB rs ss fun q hq => h q (by rw [List.zip_cons_cons]; exact List.mem_cons_of_mem _ hq)];simp only [List.set_cons_zero, List.set_cons_succ, R.ok_bind, if_true, h1];rfl
def oW (ps : List P4) (rs : List Int) : Bool := (rs.zip (rs.drop 1 ++ rs.take 1)).all fun q => gK (au ps q.1) q.2
theorem jH {ps : List P4} {rs : List Int} : oW ps rs = true <-> zb ps rs := by
  have hl : (rs.drop 1 ++ rs.take 1).length = rs.length := by
    rw [List.length_append, List.length_drop, List.length_take]; omega
  have hg : ∀ j (h : j < rs.length), (rs.drop 1 ++ rs.take 1)[j]'(by rw [hl]; exact h) = rs[(j + 1) % rs.length]'(Nat.mod_lt _ (by omega)) := fun j h => by
    by_cases hj : j + 1 < rs.length
    · rw [List.getElem_append_left (by rw [List.length_drop]; omega), List.getElem_drop];simp only [Nat.mod_eq_of_lt hj, Nat.add_comm]
    · rw [List.getElem_append_right (by rw [List.length_drop]; omega), List.getElem_take];have e1 : j - (rs.drop 1).length = 0 := by rw [List.length_drop]; omega
      have e2 : (j + 1) % rs.length = 0 := by rw [show j + 1 = rs.length by omega]; exact Nat.mod_self _
      simp only [e1, e2]
  unfold oW;rw [List.all_eq_true];constructor
  · intro h j hj;have := h (rs[j], (rs.drop 1 ++ rs.take 1)[j]'(by rw [hl]; exact hj)) (List.mem_iff_getElem.mpr ⟨j, by rw [List.length_zip, hl]; omega, by rw [List.getElem_zip]⟩);rw [eh] at this;dsimp only at this;rw [hg j hj] at this;exact this
  · intro h q hq;obtain ⟨j, hj, e⟩ := List.mem_iff_getElem.mp hq;rw [List.length_zip, hl, Nat.min_self] at hj;rw [List.getElem_zip] at e;subst e;rw [eh];dsimp only;rw [hg j hj];exact h j hj
def vP (n : Nat) : PyData -> Bool
  | .tuple ds => ds.isEmpty || !(ds.all fun d => mw d 0 ((n : Int) - 1))
  | _ => true
theorem mP {ps : List P4} {ds : List PyData} (h : ∀ d ∈ ds, noD d) : bA (dq 0) (fun _ => .ok true) (aM ar (ae (af 0) (ae (af 1) aA))) [.non, .val (gD ps)] ds = .ok (ds.map fun d => .bool (mw d 0 ((ps.length : Int) - 1))) :=
  iD _ _ 0 (fun d => .bool (mw d 0 ((ps.length : Int) - 1))) ds fun d hd => by
    simp only [List.set_cons_zero, aJ, ax, aD, aj, av, R.ok_bind, jZ (h d hd)]
theorem fP {ps : List P4} {d : PyData} (hg : dg d) (hl : ∀ ds, d = .tuple ds -> ds.length <= 1000) (hb : vP ps.length d = true) : bT [d, gD ps] = .ok (.bool false) := by
  unfold bT iF;refine fy ?_;rw [show ([d, gD ps].map bg.val ++ List.replicate (3 - [d, gD ps].length) bg.non) = [.val d, .val (gD ps), .non] from rfl];cases d with
  | tuple ds =>
    have h0 := cr.mp hg;cases ds with
    | nil => rfl
    | cons d0 ds =>
      rw [aG (ρ' := [.val (.tuple (d0 :: ds)), .val (gD ps), .non]) (by
        have : ¬ (((d0 :: ds).length : Nat) : Int) = 0 := by rw [List.length_cons]; omega
        simp only [bz, dU, bO, bS, cz, aS, aW, aj, R.ok_bind, show fg .tuple (.tuple (d0 :: ds)) = .ok (.bool true) from rfl, bY, ka, fT, decide_eq_false this];rfl)]
      refine jU ?_;have hc := mP (ps := ps) (ds := d0 :: ds) fun x hx => (h0 x hx).noD
      have ha : ((d0 :: ds).all fun d => mw d 0 ((ps.length : Int) - 1)) = false := by
        have : (false || !((d0 :: ds).all fun d => mw d 0 ((ps.length : Int) - 1))) = true := hb;rw [Bool.false_or, Bool.not_eq_true'] at this;exact this
      have hd : nY (.list ((d0 :: ds).map fun d => .bool (mw d 0 ((ps.length : Int) - 1)))) = .ok (.bool false) := by
        show (match D2.kh ((d0 :: ds).map fun d => PyData.bool (mw d 0 ((ps.length : Int) - 1))) with | some k => R.ok (PyData.bool k) | none => .no) = _;rw [ni (fun d => mw d 0 ((ps.length : Int) - 1)), ha]
      rw [bz, bO, bS, cz, df, show aF 1 [1] [.val (.tuple (d0 :: ds)), .val (gD ps), .non] = [.non, .val (gD ps)] from rfl];simp only [kR, aj, R.ok_bind, e9, dw];rw [if_pos (bW (hl _ rfl)), hc, kP, R.ok_bind, hd];rfl
  | dict k => exact hg.noD.elim
  | _ => rfl
theorem mD {ps : List P4} {rs : List Int} (hl : rs.length <= 1000) (hne : rs ≠ []) (hb : ∀ x ∈ rs, x ∈ dF ps.length) : bT [.tuple (rs.map .int), gD ps] = .ok (.bool (oW ps rs)) := by
  unfold bT iF;refine fy ?_;rw [show ([.tuple (rs.map .int), gD ps].map bg.val ++ List.replicate (3 - [.tuple (rs.map .int), gD ps].length) bg.non) = [.val (.tuple (rs.map .int)), .val (gD ps), .non] from rfl];have hpos : 0 < rs.length := List.length_pos_iff.mpr hne;rw [aG (ρ' := [.val (.tuple (rs.map .int)), .val (gD ps), .non]) (by
    have : ¬ ((rs.length : Nat) : Int) = 0 := by omega
    simp only [bz, dU, bO, bS, cz, aS, aW, aj, R.ok_bind, show fg .tuple (.tuple (rs.map .int)) = .ok (.bool true) from rfl, bY, ka, List.length_map, fT, decide_eq_false this];rfl)]
  have hc := mP (ps := ps) (ds := rs.map .int) fun x hx => by
    obtain ⟨i, _, rfl⟩ := List.mem_map.mp hx;exact True.intro
  have ha : ((rs.map PyData.int).all fun d => mw d 0 ((ps.length : Int) - 1)) = true := by
    rw [List.all_eq_true];intro x hx;obtain ⟨i, hi, rfl⟩ := List.mem_map.mp hx;exact tF (hb i hi)
  have hd : nY (.list ((rs.map PyData.int).map fun d => .bool (mw d 0 ((ps.length : Int) - 1)))) = .ok (.bool true) := by
    show (match D2.kh ((rs.map PyData.int).map fun d => PyData.bool (mw d 0 ((ps.length : Int) - 1))) with | some k => R.ok (PyData.bool k) | none => .no) = _;rw [ni (fun d => mw d 0 ((ps.length : Int) - 1)), ha]
  rw [aG (ρ' := [.val (.tuple (rs.map .int)), .val (gD ps), .non]) (by
    rw [bz, bO, bS, cz, df, show aF 1 [1] [.val (.tuple (rs.map .int)), .val (gD ps), .non] = [.non, .val (gD ps)] from rfl];simp only [kR, aj, R.ok_bind, e9, dw];rw [if_pos (by rw [List.length_map]; exact bW hl), hc, kP, R.ok_bind, hd];rfl)]
  rw [aG (ρ' := [.val (.tuple (rs.map .int)), .val (gD ps), .val (.tuple ((rs.drop 1 ++ rs.take 1).map .int))]) (by
    simp only [aZ, aS, ke, gV, h8, aW, aj, R.ok_bind, o9, tH];rw [show (some (1 : Int)) = some ((1 : Nat) : Int) from rfl, lU (by rw [List.length_map]; omega), nu (by rw [List.length_map]; omega), kf];rw [if_pos (by rw [List.length_drop, List.length_take, List.length_map]; exact bW (by omega)), <- List.map_drop, <- List.map_take, <- List.map_append];rfl)]
  have hz := oB (fe := e2 (kH false) (af 1) (e2 aT (e2 aT (af 2) (af 0)) (eC (.int 3)))) (ρ := [.val (gD ps)]) (p := fun a b => gK (au ps a) b) rs (rs.drop 1 ++ rs.take 1) fun q hq => by
    obtain ⟨h0, h1⟩ := bB.mp (hb q.1 (List.of_mem_zip hq).1);simp only [aS, av, aj, aW, R.ok_bind, mS h0 h1, qv, we];rw [<- eU h0 h1];rfl
  rw [eP, cz, df, show aF 2 [1] [.val (.tuple (rs.map .int)), .val (gD ps), .val (.tuple ((rs.drop 1 ++ rs.take 1).map .int))] = [.non, .non, .val (gD ps)] from rfl];simp only [rL, aj, av, R.ok_bind, e9, dw];rw [if_pos (by rw [hJ, List.length_map]; exact bW (by omega)), hz, kP, R.ok_bind];show ((match D2.kh ((rs.zip (rs.drop 1 ++ rs.take 1)).map fun q => PyData.bool (gK (au ps q.1) q.2)) with | some k => R.ok (PyData.bool k) | none => .no) >>= fun d => R.ok (qA.rt d)) = _;rw [all_map (fun q : Int × Int => gK (au ps q.1) q.2)];rfl
theorem jd {ps : List P4} {d : PyData} (h : bT [d, gD ps] = .ok (.bool false)) : ce [gD ps, d] = .ex k9 := by
  unfold ce jv;rw [da, show ([gD ps, d].map bg.val ++ List.replicate (2 - [gD ps, d].length) bg.non) = [.val (gD ps), .val d] from rfl];rw [ip];simp only [bz, bO, bS, aJ, ax, aD, aj, av, R.ok_bind, h, bY];rfl
theorem sg {ps : List P4} {rs : List Int} (hl : rs.length <= 1000) (hne : rs ≠ []) (hb : ∀ x ∈ rs, x ∈ dF ps.length) (hr : zb ps rs) : ∃ h, ce [gD ps, .tuple (rs.map .int)] = .ok (.int (h % 2)) /\ ma (.list ((rs.map (cf ps)).map .int)) = .ok (.int h) /\ (∃ i ∈ rs, cf ps i = h) /\ ∀ i ∈ rs, cf ps i <= h := by
  obtain ⟨h, h1, h2, h3⟩ := sv (ps := ps) hne;refine ⟨h, ?_, h1, h2, h3⟩;have hring := mD hl hne hb;rw [jH.mpr hr] at hring;unfold ce jv;refine fy ?_;rw [show ([gD ps, .tuple (rs.map .int)].map bg.val ++ List.replicate (2 - [gD ps, .tuple (rs.map .int)].length) bg.non) = [.val (gD ps), .val (.tuple (rs.map .int))] from rfl];rw [aG (ρ' := [.val (gD ps), .val (.tuple (rs.map .int))]) (by
    simp only [bz, bO, bS, aJ, ax, aD, aj, av, R.ok_bind, hring, bY]; rfl)]
  have hc : bA (dq 0) (fun _ => .ok true) (e2 aT (e2 aT (af 1) (af 0)) (eC (.int 1))) [.non, .val (gD ps)] (rs.map .int) = .ok ((rs.map (cf ps)).map .int) := by
    have := iD (e2 aT (e2 aT (af 1) (af 0)) (eC (.int 1))) [.non, .val (gD ps)] 0 (fun d => match d with | .int i => .int (cf ps i) | d => d) (rs.map .int) fun d hd => by
      obtain ⟨i, hi, rfl⟩ := List.mem_map.mp hd;obtain ⟨i0, i1⟩ := bB.mp (hb i hi);simp only [List.set_cons_zero, aS, aj, av, aW, R.ok_bind, mS i0 i1, uV];rw [mH i0 i1]
    rw [this, List.map_map, List.map_map];rfl
  rw [eP, aS, cz, df, show aF 1 [0] [.val (gD ps), .val (.tuple (rs.map .int))] = [.non, .val (gD ps)] from rfl];simp only [kR, aj, av, R.ok_bind, e9, dw];rw [if_pos (by rw [List.length_map]; exact bW hl), hc, kP, R.ok_bind, h1, R.ok_bind, aW, R.ok_bind, eA, if_pos (by decide)];rfl
theorem tM (k m : Nat) : iM k (m + 1) = iM k m ++ [((k + m : Nat) : Int)] := by
  unfold iM;rw [List.range_succ, List.map_append];rfl
def qX (ps : List P4) (who : Int) (dr : Int -> Int) (share : Int) (i : Int) : Option Int := if bp ps i ≠ who \/ (0 < share /\ dr i % share = 0) then none else (au ps i)[(dr i / 7 % ((au ps i).length : Int)).toNat]?
def zV : Fs := (aV (bF 7 (aM ak (ae (af 2) (ae (af 5) aA)))) (jQ (md (tE (e2 (nQ) (e2 aT (af 6) (eC (.int 0))) (af 1))) (oQ (tE (e2 (kI yz) (af 3) (eC (.int 0)))) (tE (e2 (lv) (e2 bG (af 7) (af 3)) (eC (.int 0)))))) (cJ 4 (eC .none)) (cJ 4 (e2 aT (e2 aT (af 6) (eC (.int 3))) (e2 bG (e2 dt (af 7) (eC (.int 7))) (e1 eY (e2 aT (af 6) (eC (.int 3)))))))))
theorem wZ {ps : List P4} {i : Int} (h0 : 0 <= i) (h1 : i < ps.length) : aT (jl ps i) (.int 3) = .ok (.tuple ((au ps i).map .int)) := by
  unfold jl;rw [List.getElem?_eq_getElem (show i.toNat < ps.length by omega), eU h0 h1];rfl
abbrev sx (ps : List P4) (who num share : Int) (acc : List PyData) (c5 c6 c7 : bg) : aH := [.val (gD ps), .val (.int who), .val (.int num), .val (.int share), .own (.list acc), c5, c6, c7]
section
variable {ps : List P4} (hne : ∀ i ∈ dF ps.length, au ps i ≠ []) {who num share : Int} {dr : Int -> Int} (hdr : ∀ k, ak [.int num, .int k] = .ok (.int (dr k)))
include hne hdr
theorem yn {acc : List PyData} (ha : acc.length <= 1000) {i : Int} (h0 : 0 <= i) (h1 : i < ps.length) (c7 : bg) :
    zV (sx ps who num share acc (.val (.int i)) (.val (jl ps i)) c7) = .ok (.nx (sx ps who num share (acc ++ [oD (qX ps who dr share i)]) (.val (.int i)) (.val (jl ps i)) (.val (.int (dr i))))) := by
  have hg := hne i (bB.mpr ⟨h0, h1⟩);have hpos : 0 < ((au ps i).length : Int) := by
    have := List.length_pos_iff.mpr hg;omega
  have a0 := Int.emod_nonneg (dr i / 7) (show ((au ps i).length : Int) ≠ 0 by omega);have a1 := Int.emod_lt_of_pos (dr i / 7) hpos;have hz : acc.length < sizeLine := Nat.lt_of_lt_of_le (show acc.length < 1001 by omega) (by decide);unfold zV;rw [aG (ρ' := sx ps who num share acc (.val (.int i)) (.val (jl ps i)) (.val (.int (dr i)))) (by
    simp only [aZ, aJ, ax, aD, av, aj, R.ok_bind, hdr]; rfl)]
  have ap : ∀ f d, f (sx ps who num share acc (.val (.int i)) (.val (jl ps i)) (.val (.int (dr i)))) = .ok d -> cJ 4 f (sx ps who num share acc (.val (.int i)) (.val (jl ps i)) (.val (.int (dr i)))) = .ok (.nx (sx ps who num share (acc ++ [d]) (.val (.int i)) (.val (jl ps i)) (.val (.int (dr i))))) := fun f d e => by
    rw [kl (ds := acc) f rfl hz, e];rfl
  have hix := pH (xs := (au ps i).map PyData.int) (i := dr i / 7 % ((au ps i).length : Int)) a0 (by simpa using a1);have hv : (e2 aT (e2 aT (af 6) (eC (.int 3))) (e2 bG (e2 dt (af 7) (eC (.int 7))) (e1 eY (e2 aT (af 6) (eC (.int 3)))))) (sx ps who num share acc (.val (.int i)) (.val (jl ps i)) (.val (.int (dr i)))) = .ok (.int ((au ps i)[(dr i / 7 % ((au ps i).length : Int)).toNat]'(by omega))) := by
    simp only [cz, aS, av, aj, aW, R.ok_bind, wZ h0 h1, ka, List.length_map, jX];rw [if_pos (by decide), R.ok_bind, eA, if_pos hpos, R.ok_bind, hix];simp
  unfold qX;rw [bz];simp only [dU, tG, bS, aS, av, aj, aW, R.ok_bind, wL h0 h1, uf, bY, xh];by_cases ho : bp ps i = who
  · rw [decide_eq_true ho];by_cases hs : 0 < share
    · simp only [Bool.not_true, if_false, Bool.false_eq_true];rw [show yz share 0 = true from decide_eq_true hs, if_pos rfl, eA, if_pos hs, R.ok_bind, fT, R.ok_bind, bY, R.ok_bind];by_cases hd : dr i % share = 0
      · rw [decide_eq_true hd, if_pos rfl, if_pos (.inr ⟨hs, hd⟩)];exact ap _ _ rfl
      · rw [decide_eq_false hd, if_neg (by simp), if_neg (by rintro (z | z); exact z ho; exact hd z.2), List.getElem?_eq_getElem (by omega)];exact ap _ _ hv
    · simp only [Bool.not_true, if_false, Bool.false_eq_true];rw [show yz share 0 = false from decide_eq_false hs, if_neg (by simp), R.ok_bind, if_neg (by simp), if_neg (by rintro (z | z); exact z ho; exact hs z.1), List.getElem?_eq_getElem (by omega)];exact ap _ _ hv
  · rw [decide_eq_false ho, if_pos (show bp ps i ≠ who \/ (0 < share /\ dr i % share = 0) from .inl ho)];simp only [Bool.not_false, if_true, R.ok_bind];exact ap _ _ rfl
theorem rA (hp : ps.length <= 24) : ∀ (m k : Nat) (c5 c6 c7 : bg), k + m = ps.length ->
    ∃ c5' c6' c7', fG (bZ 5 6) zV (bI k ((iM k m).map (jl ps))) (sx ps who num share ((iM 0 k).map fun i => oD (qX ps who dr share i)) c5 c6 c7) = .ok (.nx (sx ps who num share ((iM 0 (k + m)).map fun i => oD (qX ps who dr share i)) c5' c6' c7'))
  | 0, k, c5, c6, c7, _ => ⟨c5, c6, c7, by rw [show iM k 0 = [] from rfl]; simp [bI]⟩
  | m + 1, k, c5, c6, c7, hk => by
    have e := yn hne hdr (who := who) (share := share) (acc := (iM 0 k).map fun i => oD (qX ps who dr share i)) (by rw [List.length_map]; unfold iM; rw [List.length_map, List.length_range]; omega) (i := (k : Int)) (by omega) (by omega) c7;obtain ⟨c5', c6', c7', e'⟩ := rA hp m (k + 1) (.val (.int k)) (.val (jl ps k)) (.val (.int (dr k))) (by omega);refine ⟨c5', c6', c7', ?_⟩;rw [l3, List.map_cons];rw [show bI k (jl ps k :: (iM (k + 1) m).map (jl ps)) = .tuple [.int k, jl ps k] :: bI (k + 1) ((iM (k + 1) m).map (jl ps)) from rfl, kn];rw [show ((sx ps who num share ((iM 0 k).map fun i => oD (qX ps who dr share i)) c5 c6 c7).set 5 (.val (.int k))).set 6 (.val (jl ps k)) = sx ps who num share ((iM 0 k).map fun i => oD (qX ps who dr share i)) (.val (.int k)) (.val (jl ps k)) c7 from rfl];rw [e, R.ok_bind, jD];rw [show ((iM 0 k).map fun i => oD (qX ps who dr share i)) ++ [oD (qX ps who dr share k)] = (iM 0 (k + 1)).map fun i => oD (qX ps who dr share i) by
      rw [tM, List.map_append]; simp]
    rw [e', show k + 1 + m = k + (m + 1) by omega]
end
theorem jW {ps : List P4} (hp : ps.length <= 24) (hne : ∀ i ∈ dF ps.length, au ps i ≠ []) (who num share : Int) : ∃ f : Int -> Option Int, br [gD ps, .int who, .int num, .int share] = .ok (oT f ps.length) /\ (∀ i g, f i = some g -> g ∈ au ps i) /\ (∀ i, bp ps i ≠ who -> f i = none) /\ (share = 0 -> ∀ i ∈ dF ps.length, bp ps i = who -> ∃ g, f i = some g) := by
  have hx : ∀ k : Int, ∃ v, ak [.int num, .int k] = .ok (.int v) := fun k => let ⟨v, h, _⟩ := jF num k; ⟨v, h⟩
  obtain ⟨dr, hdr⟩ : ∃ dr : Int -> Int, ∀ k, ak [.int num, .int k] = .ok (.int (dr k)) := ⟨fun k => (hx k).choose, fun k => (hx k).choose_spec⟩
  refine ⟨qX ps who dr share, ?_, fun i g h => ?_, fun i h => if_pos (.inl h), fun hs i hi ho => ?_⟩
  · obtain ⟨c5, c6, c7, e⟩ := rA hne hdr (who := who) (share := share) hp ps.length 0 .non .non .non (by omega);unfold br gx;refine fy ?_;rw [show ([gD ps, .int who, .int num, .int share].map bg.val ++ List.replicate (8 - [gD ps, .int who, .int num, .int share].length) bg.non) = [.val (gD ps), .val (.int who), .val (.int num), .val (.int share), .non, .non, .non, .non] from rfl];rw [aG (ρ' := sx ps who num share [] .non .non .non) (by rfl)];rw [aG (ρ' := sx ps who num share ((iM 0 (0 + ps.length)).map fun i => oD (qX ps who dr share i)) c5 c6 c7) (by
      rw [jP, kQ, im];simp only [aj, R.ok_bind, e9];rw [qN, show gO (jl ps) ps.length = (iM 0 ps.length).map (jl ps) by rw [kN]; rfl];unfold zV at e;rw [show (iM 0 0).map (fun i => oD (qX ps who dr share i)) = [] from rfl] at e;rw [e];rfl)]
    rw [eP, cz];simp only [gG, gf, R.ok_bind, l4];rw [Nat.zero_add, kN];rfl
  · unfold qX at h;split at h
    · cases h
    · exact List.mem_of_getElem? h
  · have hg := hne i hi;have hpos : 0 < ((au ps i).length : Int) := by
      have := List.length_pos_iff.mpr hg;omega
    have a1 := Int.emod_lt_of_pos (dr i / 7) hpos;have a0 := Int.emod_nonneg (dr i / 7) (show ((au ps i).length : Int) ≠ 0 by omega);refine ⟨(au ps i)[(dr i / 7 % ((au ps i).length : Int)).toNat]'(by omega), ?_⟩;unfold qX;rw [if_neg (by rintro (z | z); exact z ho; omega)];exact List.getElem?_eq_getElem (by omega)
theorem la {ps : List P4} (hp : ps.length <= 24) {dz d1 ds : PyData} (gz : dg dz) (g1 : dg d1) (h : gC ps dz = false \/ gC ps d1 = false) : aL [gD ps, dz, d1, ds] = .ex lL := by
  have m1 := bX gz (ps := ps) hp;have m2 := bX g1 (ps := ps) hp;unfold aL eS;rw [da, show ([gD ps, dz, d1, ds].map bg.val ++ List.replicate (8 - [gD ps, dz, d1, ds].length) bg.non) = [.val (gD ps), .val dz, .val d1, .val ds, .non, .non, .non, .non] from rfl];rw [ip];simp only [bz, dU, bO, bS, aJ, ax, aD, aj, av, R.ok_bind, m1, m2, bY];rcases h with h | h
  · rw [h]; rfl
  · rw [h];cases gC ps dz <;> rfl
section
variable {ps : List P4} (hp : ps.length <= 24) (hw : ∀ i ∈ dF ps.length, bp ps i = 0 \/ bp ps i = 1) {z o : Int -> Option Int} (hz : ∀ i g, z i = some g -> g ∈ au ps i) (ho : ∀ i g, o i = some g -> g ∈ au ps i)
include hp hw hz ho
theorem jE {i : Int} (hi : i ∈ dF ps.length) (hn : bH ps z o i = none) (ds : PyData) : aL [gD ps, oT z ps.length, oT o ps.length, ds] = .ex lL := by
  have m1 := bX (fu z ps.length) (ps := ps) hp;have m2 := bX (fu o ps.length) (ps := ps) hp;rw [eT hz] at m1;rw [eT ho] at m2;have m3 := qB hp hw z o;have m4 := nB (bH ps z o) ps.length;have m5 : ((dF ps.length).any fun i => (bH ps z o i).isNone) = true := by
    rw [List.any_eq_true];exact ⟨i, hi, by rw [hn]; rfl⟩
  rw [m5] at m4;unfold aL eS;rw [da, show ([gD ps, oT z ps.length, oT o ps.length, ds].map bg.val ++ List.replicate (8 - [gD ps, oT z ps.length, oT o ps.length, ds].length) bg.non) = [.val (gD ps), .val (oT z ps.length), .val (oT o ps.length), .val ds, .non, .non, .non, .non] from rfl];rw [aG (ρ' := [.val (gD ps), .val (oT z ps.length), .val (oT o ps.length), .val ds, .non, .non, .non, .non]) (by
    simp only [bz, dU, bO, bS, aJ, ax, aD, aj, av, R.ok_bind, m1, m2, bY]; rfl)]
  rw [aG (ρ' := [.val (gD ps), .val (oT z ps.length), .val (oT o ps.length), .val ds, .val (oT (bH ps z o) ps.length), .non, .non, .non]) (by
    simp only [aZ, aJ, ax, aD, aj, av, R.ok_bind, m3]; rfl)]
  rw [ip];simp only [bz, bS, aS, aW, aj, av, R.ok_bind, m4, bY];rfl
theorem eV (hall : ∀ i ∈ dF ps.length, ∃ g, bH ps z o i = some g) {ds : PyData} (gs : noD ds) (hs : mw ds 0 ((ps.length : Int) - 1) = false) : aL [gD ps, oT z ps.length, oT o ps.length, ds] = .ex k9 := by
  have m1 := bX (fu z ps.length) (ps := ps) hp;have m2 := bX (fu o ps.length) (ps := ps) hp;rw [eT hz] at m1;rw [eT ho] at m2;have m3 := qB hp hw z o;have m4 := nB (bH ps z o) ps.length;have m5 : ((dF ps.length).any fun i => (bH ps z o i).isNone) = false := by
    rw [List.any_eq_false];intro i hi;obtain ⟨g, hg⟩ := hall i hi;rw [hg];simp
  rw [m5] at m4;have m6 := jZ gs ps;rw [hs] at m6;unfold aL eS;rw [da, show ([gD ps, oT z ps.length, oT o ps.length, ds].map bg.val ++ List.replicate (8 - [gD ps, oT z ps.length, oT o ps.length, ds].length) bg.non) = [.val (gD ps), .val (oT z ps.length), .val (oT o ps.length), .val ds, .non, .non, .non, .non] from rfl];rw [aG (ρ' := [.val (gD ps), .val (oT z ps.length), .val (oT o ps.length), .val ds, .non, .non, .non, .non]) (by
    simp only [bz, dU, bO, bS, aJ, ax, aD, aj, av, R.ok_bind, m1, m2, bY]; rfl)]
  rw [aG (ρ' := [.val (gD ps), .val (oT z ps.length), .val (oT o ps.length), .val ds, .val (oT (bH ps z o) ps.length), .non, .non, .non]) (by
    simp only [aZ, aJ, ax, aD, aj, av, R.ok_bind, m3]; rfl)]
  rw [aG (ρ' := [.val (gD ps), .val (oT z ps.length), .val (oT o ps.length), .val ds, .val (oT (bH ps z o) ps.length), .non, .non, .non]) (by
    simp only [bz, bS, aS, aW, aj, av, R.ok_bind, m4, bY]; rfl)]
  rw [ip];simp only [bz, bO, bS, aJ, ax, aD, aj, av, R.ok_bind, m6, bY];rfl
end
theorem rH {ρ : aH} {p : Addr} (h : 4 < ρ.length) : kB 4 p (ρ.set 4 (.exc p)) = .ok (.bool true) := by
  unfold kB;rw [List.getElem?_set_self h];simp
theorem r0 {ps : List P4} {a b s : PyData} (h : aL [gD ps, a, b, s] = .ex lL) : aO [gD ps, a, b, s] = .ok (.str (PySem.Str.ofString "moves")) := by
  unfold aO dW;refine fy ?_;rw [show ([gD ps, a, b, s].map bg.val ++ List.replicate (5 - [gD ps, a, b, s].length) bg.non) = [.val (gD ps), .val a, .val b, .val s, .non] from rfl];refine jU ?_;unfold mL;simp only [ax, aD, aj, av, R.ok_bind, dw, h, o6, List.lookup_cons, beq_self_eq_true];have hh : (fun p => (e2 iS (eC (.str (PySem.Str.ofString "moves"))) (e1 iK (kB 4 p))) (([.val (gD ps), .val a, .val b, .val s, .non] : aH).set 4 (.exc p))) = fun _ => R.ok (.str (PySem.Str.ofString "moves")) := funext fun p => by
    simp only [aS, cz, aW, R.ok_bind, rH (ρ := [.val (gD ps), .val a, .val b, .val s, .non]) (p := p) (by simp), qe];rfl
  rw [hh, jb];rfl
theorem tf {ps : List P4} {a b s : PyData} (h : aL [gD ps, a, b, s] = .ex k9) : aO [gD ps, a, b, s] = .ok (.str (PySem.Str.ofString "part")) := by
  unfold aO dW;refine fy ?_;rw [show ([gD ps, a, b, s].map bg.val ++ List.replicate (5 - [gD ps, a, b, s].length) bg.non) = [.val (gD ps), .val a, .val b, .val s, .non] from rfl];refine jU ?_;unfold mL;have hne : (PySem.Str.ofString "NoPart" == PySem.Str.ofString "NoMoves") = false := by decide +kernel
  simp only [ax, aD, aj, av, R.ok_bind, dw, h, o6, List.lookup_cons, hne, beq_self_eq_true];have hh : (fun p => (e2 iS (eC (.str (PySem.Str.ofString "part"))) (e1 iK (kB 4 p))) (([.val (gD ps), .val a, .val b, .val s, .non] : aH).set 4 (.exc p))) = fun _ => R.ok (.str (PySem.Str.ofString "part")) := funext fun p => by
    simp only [aS, cz, aW, R.ok_bind, rH (ρ := [.val (gD ps), .val a, .val b, .val s, .non]) (p := p) (by simp), qe];rfl
  rw [hh, jb];rfl
theorem gZ {ps : List P4} {d : PyData} (h : ce [gD ps, d] = .ex k9) : aP [gD ps, d] = .ok .none := by
  unfold aP eQ;refine fy ?_;rw [show ([gD ps, d].map bg.val ++ List.replicate (2 - [gD ps, d].length) bg.non) = [.val (gD ps), .val d] from rfl];unfold mW;simp only [ax, aD, aj, av, R.ok_bind, dw, h, o6, List.lookup_cons, beq_self_eq_true, aW];rw [jb];rfl
theorem qJ {ps : List P4} {d r : PyData} (h : ce [gD ps, d] = .ok r) : aP [gD ps, d] = .ok r := by
  unfold aP eQ;refine fy ?_;rw [show ([gD ps, d].map bg.val ++ List.replicate (2 - [gD ps, d].length) bg.non) = [.val (gD ps), .val d] from rfl];unfold mW;simp only [ax, aD, aj, av, R.ok_bind, dw, h, o6]
def AM : Fs := (aV (cJ 3 (af 4)) (bF 4 (e2 aT (e2 aT (af 1) (e2 aT (e2 aT (af 0) (af 4)) (eC (.int 0)))) (af 4))))
abbrev ym (ps : List P4) (z o : Int -> Option Int) (s : Int) (pl : List Int) (x : Int) : aH := [.val (gD ps), .val (.tuple [oT z ps.length, oT o ps.length]), .val (.int s), .own (.list (pl.map .int)), .val (.int x)]
section
variable {ps : List P4} (G : Gr ps) (hw : ∀ i ∈ dF ps.length, bp ps i = 0 \/ bp ps i = 1) {z o : Int -> Option Int} (hz : ∀ i g, z i = some g -> g ∈ au ps i) (ho : ∀ i g, o i = some g -> g ∈ au ps i) (hall : ∀ i ∈ dF ps.length, ∃ g, bH ps z o i = some g)
include G hw hz ho hall
theorem vZ {s : Int} (hs : s ∈ dF ps.length) {K e : Nat} (w : nI (gc ps z o) s K e) : cq [gD ps, .tuple [oT z ps.length, oT o ps.length], .int s] = .ok (zq (gc ps z o) s K e) := by
  have hp := G.hp;obtain ⟨K', e', w', hl⟩ := i7 (t := tE (e2 (kH true) (af 4) (cZ 3))) (g := AM) (V := ym ps z o s) (nx := gc ps z o) (S := fun x => x ∈ dF ps.length) (n := ps.length) (fun _ h => h) (fun x h => gN G hz ho hall h) (fun pl x _ => by
      simp only [bS, aS, av, aj, gG, gf, R.ok_bind, xy, bY];rfl) (fun pl x hx hl => by
      obtain ⟨x0, x1⟩ := bB.mp hx;obtain ⟨g, hg⟩ := hall x hx;unfold AM;rw [aG (ρ' := ym ps z o s (pl ++ [x]) x) (by
        rw [kl (ds := pl.map .int) (af 4) rfl (Nat.lt_of_lt_of_le (show _ < 1001 by rw [List.length_map]; omega) (by decide))];simp only [aj, av, dw, R.ok_bind];rw [show pl.map PyData.int ++ [PyData.int x] = (pl ++ [x]).map .int by simp];rfl)]
      have hix : (aT (.tuple [oT z ps.length, oT o ps.length]) (.int (bp ps x)) >>= fun y => aT y (.int x)) = .ok (.int (gc ps z o x)) := by
        unfold gc;rw [hg];unfold bH at hg;rcases hw x hx with q | q
        · rw [if_pos q] at hg;rw [q, show aT (.tuple [oT z ps.length, oT o ps.length]) (.int 0) = .ok (oT z ps.length) from rfl, R.ok_bind, pA x0 x1, hg];rfl
        · rw [if_neg (by omega)] at hg;rw [q, show aT (.tuple [oT z ps.length, oT o ps.length]) (.int 1) = .ok (oT o ps.length) from rfl, R.ok_bind, pA x0 x1, hg];rfl
      simp only [aZ, aS, aj, av, aW, R.ok_bind, mS x0 x1, uM];rw [<- gh x0 x1, hix];rfl) hs 1000000 0 (by unfold iB; simp) (by omega)
  obtain ⟨rfl, rfl⟩ := w.uniq w';have hK := lZ (nx := gc ps z o) (S := fun x => x ∈ dF ps.length) (fun _ h => h) (fun x h => gN G hz ho hall h) hs w.nd;have he := w.lt;have hm : jS (gc ps z o) s K ∈ iB (gc ps z o) s K := gg.mpr ⟨e, w.lt, w.eq.symm⟩;have m7 := lC (by rw [cy]; omega) (fun x hx => by
    obtain ⟨j, _, rfl⟩ := gg.mp hx;have := bB.mp (mI (nx := gc ps z o) (S := fun x => x ∈ dF ps.length) (fun x h => gN G hz ho hall h) hs j);omega) hm
  rw [w.idx] at m7;unfold cq iT;refine fy ?_;rw [show ([gD ps, .tuple [oT z ps.length, oT o ps.length], .int s].map bg.val ++ List.replicate (5 - [gD ps, .tuple [oT z ps.length, oT o ps.length], .int s].length) bg.non) = [.val (gD ps), .val (.tuple [oT z ps.length, oT o ps.length]), .val (.int s), .non, .non] from rfl];rw [aG (ρ' := [.val (gD ps), .val (.tuple [oT z ps.length, oT o ps.length]), .val (.int s), .own (.list []), .non]) (by rfl)];rw [aG (ρ' := ym ps z o s [] s) (by rfl)];rw [aG (ρ' := ym ps z o s (iB (gc ps z o) s K) (jS (gc ps z o) s K)) (by
    rw [jP];show lw (cH (tE (e2 (kH true) (af 4) (cZ 3))) AM 1000000 _) = _;rw [show ym ps z o s [] s = ym ps z o s (iB (gc ps z o) s 0) (jS (gc ps z o) s 0) from rfl, hl];rfl)]
  have hix : hW (cZ 3) (af 4) (ym ps z o s (iB (gc ps z o) s K) (jS (gc ps z o) s K)) = .ok (.int (e : Nat)) := by
    unfold hW;simp only [gG, gf, av, aj, R.ok_bind, vk, m7]
  simp only [eP, di, ax, aD, cz, ke, gV, h8, hix, gG, gf, R.ok_bind, o9, wX, l4];rw [lU (by rw [List.length_map, cy]; omega), nu (by rw [List.length_map, cy]; omega), if_pos (by show 2 <= _; decide), R.ok_bind];unfold zq wn iQ;rw [List.map_take, List.map_drop]
end
def yD : Fs := (jQ (tE (e2 (kH true) (e2 aT (af 1) (e2 bG (e2 cj (af 2) (eC (.int 1))) (e1 eY (af 1)))) (e2 aT (e2 aT (af 0) (af 3)) (eC (.int 3))))) (cD (eC (.bool false))) cm)
section
variable {ps : List P4} {rs : List Int} (hb : ∀ x ∈ rs, x ∈ dF ps.length)
include hb
theorem uX {k : Nat} (hk : k < rs.length) : yD [.val (gD ps), .val (.tuple (rs.map .int)), .val (.int k), .val (.int rs[k])] = if gK (au ps rs[k]) (rs[(k + 1) % rs.length]'(Nat.mod_lt _ (by omega))) = true then .ok (.nx [.val (gD ps), .val (.tuple (rs.map .int)), .val (.int k), .val (.int rs[k])]) else .ok (.rt (.bool false)) := by
  obtain ⟨x0, x1⟩ := bB.mp (hb _ (List.getElem_mem hk));have hpos : 0 < (rs.length : Int) := by omega
  have hmod : ((k : Int) + 1) % (rs.length : Int) = (((k + 1) % rs.length : Nat) : Int) := by rw [Int.natCast_emod]; rfl
  have hlt : (k + 1) % rs.length < rs.length := Nat.mod_lt _ (by omega);have hix : aT (.tuple (rs.map .int)) (.int (((k + 1) % rs.length : Nat) : Int)) = .ok (.int (rs[(k + 1) % rs.length]'hlt)) := by
    rw [pH (by omega) (by rw [List.length_map]; omega)];rw [List.getElem_map];simp only [Int.toNat_natCast]
  unfold yD;simp only [bz, bS, cz, aS, av, aj, aW, R.ok_bind, ul, ka, List.length_map, eA];rw [if_pos hpos, R.ok_bind, hmod, hix, R.ok_bind, mS x0 x1, R.ok_bind, qv, R.ok_bind, we, <- eU x0 x1];cases gK (au ps rs[k]) (rs[(k + 1) % rs.length]'hlt) <;> rfl
theorem uZ : ∀ (m k : Nat) (c2 c3 : bg), k + m = rs.length -> (∀ j (h : j < rs.length), k <= j -> rs[(j + 1) % rs.length]'(Nat.mod_lt _ (by omega)) ∈ au ps rs[j]) -> ∃ ρ, fG (bZ 2 3) yD (bI k ((rs.drop k).map .int)) [.val (gD ps), .val (.tuple (rs.map .int)), c2, c3] = .ok (.nx ρ)
  | 0, k, c2, c3, hk, _ => ⟨_, by rw [List.drop_of_length_le (by omega)]; simp [bI]; rfl⟩
  | m + 1, k, c2, c3, hk, hr => by
    have hlt : k < rs.length := by omega
    obtain ⟨ρ, e⟩ := uZ m (k + 1) (.val (.int k)) (.val (.int rs[k])) (by omega) fun j h hj => hr j h (by omega)
    refine ⟨ρ, ?_⟩;rw [List.drop_eq_getElem_cons hlt, List.map_cons];rw [show bI k (PyData.int rs[k] :: (rs.drop (k + 1)).map .int) = .tuple [.int k, .int rs[k]] :: bI (k + 1) ((rs.drop (k + 1)).map .int) from rfl, kn];rw [show ((([.val (gD ps), .val (.tuple (rs.map .int)), c2, c3] : aH).set 2 (.val (.int k))).set 3 (.val (.int rs[k]))) = [.val (gD ps), .val (.tuple (rs.map .int)), .val (.int k), .val (.int rs[k])] from rfl];rw [uX hb hlt, if_pos (eh.mpr (hr k hlt (Nat.le_refl _))), R.ok_bind, jD, e]
theorem wQ : ∀ (m k : Nat) (c2 c3 : bg), k + m = rs.length -> (∃ j, ∃ h : j < rs.length, k <= j /\ ¬ rs[(j + 1) % rs.length]'(Nat.mod_lt _ (by omega)) ∈ au ps rs[j]) -> fG (bZ 2 3) yD (bI k ((rs.drop k).map .int)) [.val (gD ps), .val (.tuple (rs.map .int)), c2, c3] = .ok (.rt (.bool false))
  | 0, k, c2, c3, hk, ⟨j, h, hj, _⟩ => by omega
  | m + 1, k, c2, c3, hk, ⟨j, h, hj, hn⟩ => by
    have hlt : k < rs.length := by omega
    rw [List.drop_eq_getElem_cons hlt, List.map_cons];rw [show bI k (PyData.int rs[k] :: (rs.drop (k + 1)).map .int) = .tuple [.int k, .int rs[k]] :: bI (k + 1) ((rs.drop (k + 1)).map .int) from rfl, kn];rw [show ((([.val (gD ps), .val (.tuple (rs.map .int)), c2, c3] : aH).set 2 (.val (.int k))).set 3 (.val (.int rs[k]))) = [.val (gD ps), .val (.tuple (rs.map .int)), .val (.int k), .val (.int rs[k])] from rfl];rw [uX hb hlt];by_cases hm : rs[(k + 1) % rs.length]'(Nat.mod_lt _ (by omega)) ∈ au ps rs[k]
    · rw [if_pos (eh.mpr hm), R.ok_bind, jD];refine wQ m (k + 1) _ _ (by omega) ⟨j, h, ?_, hn⟩;rcases Nat.lt_or_ge k j with q | q
      · exact q
      · have : k = j := by omega
        subst this;exact (hn hm).elim
    · rw [if_neg fun z => hm (eh.mp z)];rfl
theorem n5 : aY [gD ps, .tuple (rs.map .int)] = .ok (.bool (oW ps rs)) := by
  unfold aY eD;refine fy ?_;rw [show ([gD ps, .tuple (rs.map .int)].map bg.val ++ List.replicate (4 - [gD ps, .tuple (rs.map .int)].length) bg.non) = [.val (gD ps), .val (.tuple (rs.map .int)), .non, .non] from rfl];cases hr : oW ps rs with
  | true =>
    have hR := jH.mp hr;obtain ⟨ρ, e⟩ := uZ hb rs.length 0 .non .non (by omega) fun j h _ => hR j h
    rw [aG (ρ' := ρ) (by
      rw [jP, kQ, im];simp only [av, aj, R.ok_bind, e9];unfold yD at e;rw [List.drop_zero] at e;rw [e];rfl)]
    rfl
  | false =>
    have hn : ∃ j, ∃ h : j < rs.length, 0 <= j /\ ¬ rs[(j + 1) % rs.length]'(Nat.mod_lt _ (by omega)) ∈ au ps rs[j] := by
      refine Classical.byContradiction fun q => ?_
      have : oW ps rs = true := jH.mpr fun j h => Classical.byContradiction fun q' => q ⟨j, h, Nat.zero_le _, q'⟩
      rw [hr] at this;cases this
    have e := wQ hb rs.length 0 .non .non (by omega) hn;refine jU ?_;rw [jP, kQ, im];simp only [av, aj, R.ok_bind, e9];unfold yD at e;rw [List.drop_zero] at e;rw [e];rfl
end
theorem zP (ns ms : List Int) : lv (.tuple (ns.map .int)) (.tuple (ms.map .int)) = .ok (.bool (decide (ns = ms))) := by
  unfold lv;rw [if_pos (vO ns ms)];simp only [PyData.eqv, oH]
theorem qp : nQ (.str (PySem.Str.ofString "moves")) (.str (PySem.Str.ofString "moves")) = .ok (.bool false) :=
  k7 (by decide +kernel) (by simp [PyData.depth])
theorem rQ : nQ (.str (PySem.Str.ofString "part")) (.str (PySem.Str.ofString "part")) = .ok (.bool false) :=
  k7 (by decide +kernel) (by simp [PyData.depth])
abbrev sV (a : PyData) (ps : List P4) (c2 c3 c4 c5 c6 c7 c8 c9 c10 c11 c12 c13 c14 c15 : bg) : aH := [.val a, .val (gD ps), c2, c3, c4, c5, c6, c7, c8, c9, c10, c11, c12, c13, c14, c15]
def zY : Fs := (jQ (tE (e2 (lv) (e2 bG (aM aC (ae (af 0) (ae (eC (.int 4)) aA))) (eC (.int 2))) (eC (.int 1)))) (aV (bF 6 (aM br (ae (af 1) (ae (eC (.int 0)) (ae (aM aC (ae (af 0) (ae (eC (.int 4)) aA))) (ae (eC (.int 0)) aA)))))) (aV (bF 7 (cU (jo (af 1)) 2 [0] (bZ 0 1) (fun _ => .ok true) (e2 aT (e2 aT (af 1) (eC (.int 3))) (e2 bG (aM ak (ae (aM aC (ae (af 2) (ae (eC (.int 4)) aA))) (ae (af 0) aA))) (e1 eY (e2 aT (af 1) (eC (.int 3)))))))) (bF 3 (e1 dO (cU (oV (af 7) (af 6)) 2 [] (bZ 0 1) (fun _ => .ok true) (e2 aT (dL (ae (af 0) (ae (af 1) aA))) (e1 iK (e2 (ky) (af 1) (eC .none))))))))) cm)
theorem xT (ns : List Int) {ps : List P4} (G : Gr ps) (hne : ∀ i ∈ dF ps.length, au ps i ≠ []) {z0 : Int -> Option Int} (hz : ∀ i g, z0 i = some g -> g ∈ au ps i) (az : ∀ i ∈ dF ps.length, bp ps i = 0 -> ∃ g, z0 i = some g) (c2 c4 c5 c6 c7 c8 c9 c10 c11 c12 c13 c14 c15 : bg) :
    ∃ (z : Int -> Option Int) (c6' c7' : bg), (∀ i g, z i = some g -> g ∈ au ps i) /\ (∀ i ∈ dF ps.length, bp ps i = 0 -> ∃ g, z i = some g) /\ zY (sV (iP ns) ps c2 (.val (oT z0 ps.length)) c4 c5 c6 c7 c8 c9 c10 c11 c12 c13 c14 c15) = .ok (.nx (sV (iP ns) ps c2 (.val (oT z ps.length)) c4 c5 c6' c7' c8 c9 c10 c11 c12 c13 c14 c15)) := by
  have hp := G.hp;obtain ⟨v4, hv4, v40, _⟩ := ie ns (k := 4) (by omega);by_cases h : v4 % 2 = 1
  · obtain ⟨m, em, gm, _, _⟩ := jW hp hne 0 v4 0;have hx : ∀ k : Int, ∃ v, ak [.int v4, .int k] = .ok (.int v) := fun k => let ⟨v, h, _⟩ := jF v4 k; ⟨v, h⟩
    obtain ⟨dr, hdr⟩ : ∃ dr : Int -> Int, ∀ k, ak [.int v4, .int k] = .ok (.int (dr k)) := ⟨fun k => (hx k).choose, fun k => (hx k).choose_spec⟩
    obtain ⟨ev, eev⟩ : ∃ ev : Int -> Int, ev = fun i => ((au ps i)[(dr i % ((au ps i).length : Int)).toNat]?).getD 0 := ⟨_, rfl⟩
    have hev : ∀ i ∈ dF ps.length, ev i ∈ au ps i /\ aT (.tuple ((au ps i).map .int)) (.int (dr i % ((au ps i).length : Int))) = .ok (.int (ev i)) /\ 0 < ((au ps i).length : Int) := fun i hi => by
      have hpos : 0 < ((au ps i).length : Int) := by
        have := List.length_pos_iff.mpr (hne i hi);omega
      have a0 := Int.emod_nonneg (dr i) (show ((au ps i).length : Int) ≠ 0 by omega);have a1 := Int.emod_lt_of_pos (dr i) hpos;have hlt : (dr i % ((au ps i).length : Int)).toNat < (au ps i).length := by omega
      have e : ev i = (au ps i)[(dr i % ((au ps i).length : Int)).toNat] := by
        rw [eev];dsimp only;rw [List.getElem?_eq_getElem hlt];rfl
      refine ⟨by rw [e]; exact List.getElem_mem _, ?_, hpos⟩;rw [pH a0 (by simpa using a1), e];simp
    have hc1 := lD (fe := e2 aT (e2 aT (af 1) (eC (.int 3))) (e2 bG (aM ak (ae (aM aC (ae (af 2) (ae (eC (.int 4)) aA))) (ae (af 0) aA))) (e1 eY (e2 aT (af 1) (eC (.int 3)))))) (ρ := [.val (iP ns)]) (g := jl ps) (h := fun i => .int (ev i)) ps.length 0 fun j _ h2 => by
      have j0 : (0 : Int) <= (j : Int) := by omega
      have j1 : (j : Int) < ps.length := by omega
      obtain ⟨_, q2, q3⟩ := hev j (bB.mpr ⟨j0, j1⟩);simp only [cz, aS, aJ, ax, aD, av, aj, aW, R.ok_bind, wZ j0 j1, hv4, hdr, ka, List.length_map, eA];rw [if_pos q3, R.ok_bind, q2]
    rw [kN] at hc1;obtain ⟨z, ez⟩ : ∃ z : Int -> Option Int, z = fun i => if i ∈ dF ps.length then some ((m i).getD (ev i)) else none := ⟨_, rfl⟩
    have hc2 := vn (f := fun i => .int (ev i)) (g := fun i => oD (m i)) (h := fun i => oD (z i)) (n := ps.length) (fe := e2 aT (dL (ae (af 0) (ae (af 1) aA))) (e1 iK (e2 (ky) (af 1) (eC .none)))) (ρ := []) fun i h0 h1 => by
      simp only [cz, aS, fi, ax, aD, av, aj, aW, R.ok_bind, vX, qe];rw [if_pos (by show 2 <= _; decide), R.ok_bind, ez];dsimp only;rw [if_pos (bB.mpr ⟨h0, h1⟩)];cases m i <;> rfl
    refine ⟨z, .val (oT m ps.length), .val (.list (gO (fun i => .int (ev i)) ps.length)), fun i g hg => ?_, fun i hi _ => ⟨_, by rw [ez]; exact if_pos hi⟩, ?_⟩
    · rw [ez] at hg;dsimp only at hg;split at hg
      · rename_i hi;cases hm : m i with
        | none =>
          rw [hm] at hg;cases hg;exact (hev i hi).1
        | some q =>
          rw [hm] at hg;cases hg;exact gm i _ hm
      · cases hg
    · unfold zY;rw [bz];simp only [bS, aS, aJ, ax, aD, aj, aW, R.ok_bind, hv4, eA];rw [if_pos (by decide), R.ok_bind, fT, R.ok_bind, bY, R.ok_bind, if_pos (decide_eq_true h)];rw [aG (ρ' := sV (iP ns) ps c2 (.val (oT z0 ps.length)) c4 c5 (.val (oT m ps.length)) c7 c8 c9 c10 c11 c12 c13 c14 c15) (by
        simp only [aZ, aJ, ax, aD, av, aj, aW, R.ok_bind, hv4, em];rfl)]
      rw [aG (ρ' := sV (iP ns) ps c2 (.val (oT z0 ps.length)) c4 c5 (.val (oT m ps.length)) (.val (.list (gO (fun i => .int (ev i)) ps.length))) c8 c9 c10 c11 c12 c13 c14 c15) (by
        rw [aZ, df, show aF 2 [0] (sV (iP ns) ps c2 (.val (oT z0 ps.length)) c4 c5 (.val (oT m ps.length)) c7 c8 c9 c10 c11 c12 c13 c14 c15) = [.non, .non, .val (iP ns)] from rfl];simp only [im, av, aj, R.ok_bind, e9, dw];rw [if_pos (by rw [fX, List.length_map]; exact bW (by omega)), qN, show bI 0 (gO (jl ps) ps.length) = bI 0 ((dF ps.length).map (jl ps)) from rfl, hc1];rfl)]
      rw [aZ, cz, df, show aF 2 [] (sV (iP ns) ps c2 (.val (oT z0 ps.length)) c4 c5 (.val (oT m ps.length)) (.val (.list (gO (fun i => .int (ev i)) ps.length))) c8 c9 c10 c11 c12 c13 c14 c15) = [.non, .non] from rfl];simp only [rL, av, aj, R.ok_bind, e9, xw, dw];rw [if_pos (by rw [hJ, ca]; exact bW (by omega)), hc2];rfl
  · refine ⟨z0, c6, c7, hz, az, ?_⟩;unfold zY;rw [bz];simp only [bS, aS, aJ, ax, aD, aj, aW, R.ok_bind, hv4, eA];rw [if_pos (by decide), R.ok_bind, fT, R.ok_bind, bY, R.ok_bind, if_neg (by rw [decide_eq_false h]; simp)];rfl
noncomputable def zT : Fs := (jQ (tE (e2 (lv) (e2 bG (af 8) (eC (.int 4))) (eC (.int 1)))) (aV (bF 9 (e2 bG (e2 dt (af 8) (eC (.int 4))) (af 2))) (aV (bF 10 (dL (ae (e2 cj (e2 cj (pM (e2 aT (dL (ae (af 3) (ae (af 4) aA))) (e2 aT (e2 aT (af 1) (af 9)) (eC (.int 0)))) dY (eu (af 9))) (dI (ae (eC .none) aA))) (pM (e2 aT (dL (ae (af 3) (ae (af 4) aA))) (e2 aT (e2 aT (af 1) (af 9)) (eC (.int 0)))) (eu (e2 cj (af 9) (eC (.int 1)))) dY)) (ae (e2 cj (af 3) (dI (ae (eC .none) aA))) (ae (eC .none) aA))))) (aV (bF 11 (e2 aT (af 10) (e2 bG (e2 dt (af 8) (eC (.int 96))) (eC (.int 3))))) (aV (bF 12 (e2 aT (dL (ae (dI (ae (af 11) (ae (af 4) aA))) (ae (dI (ae (af 3) (ae (af 11) aA))) aA))) (e2 aT (e2 aT (af 1) (af 9)) (eC (.int 0))))) (aV (jQ (tE (e2 (nQ) (aM aO (ae (af 1) (ae (e2 aT (af 12) (eC (.int 0))) (ae (e2 aT (af 12) (eC (.int 1))) (ae (e2 aT (dL (ae (af 5) (ae (e1 mx (eC (.int 1))) (ae (af 2) aA)))) (e2 bG (e2 dt (af 8) (eC (.int 288))) (eC (.int 3)))) aA))))) (eC (.str (PySem.Str.ofString "moves"))))) (cD (eC (.bool false))) cm) (jQ (tE (e2 (nQ) (aM aO (ae (af 1) (ae (af 3) (ae (af 4) (ae (e2 aT (dL (ae (e1 mx (eC (.int 1))) (ae (af 2) (ae (eC (.bool true)) (ae (eC .none) (ae (dI (ae (eC (.int 0)) aA)) aA)))))) (e2 bG (e2 dt (af 8) (eC (.int 288))) (eC (.int 5)))) aA))))) (eC (.str (PySem.Str.ofString "part"))))) (cD (eC (.bool false))) cm)))))) cm)
section
variable {a : PyData} {ps : List P4} (G : Gr ps) (hw : ∀ i ∈ dF ps.length, bp ps i = 0 \/ bp ps i = 1) {z o : Int -> Option Int} (hz : ∀ i g, z i = some g -> g ∈ au ps i) (ho : ∀ i g, o i = some g -> g ∈ au ps i) (hall : ∀ i ∈ dF ps.length, ∃ g, bH ps z o i = some g)
include G hw hz ho hall
theorem xO (hp1 : 1 <= ps.length) {s v : Int} (hv : 0 <= v) (c6 c7 c9 c10 c11 c12 c13 c14 c15 : bg) :
    ∃ c9' c10' c11' c12', zT (sV a ps (.val (.int ps.length)) (.val (oT z ps.length)) (.val (oT o ps.length)) (.val (.int s)) c6 c7 (.val (.int v)) c9 c10 c11 c12 c13 c14 c15) = .ok (.nx (sV a ps (.val (.int ps.length)) (.val (oT z ps.length)) (.val (oT o ps.length)) (.val (.int s)) c6 c7 (.val (.int v)) c9' c10' c11' c12' c13 c14 c15)) := by
  have hp := G.hp;by_cases h4 : v % 4 = 1
  · obtain ⟨t, et⟩ : ∃ t, t = v / 4 % (ps.length : Int) := ⟨_, rfl⟩
    have t0 : 0 <= t := by rw [et]; exact Int.emod_nonneg _ (by omega)
    have t1 : t < ps.length := by rw [et]; exact Int.emod_lt_of_pos _ (by omega)
    have ht := bB.mpr ⟨t0, t1⟩;obtain ⟨w, ew⟩ : ∃ w, w = bp ps t := ⟨_, rfl⟩
    have w01 := hw t ht;rw [<- ew] at w01;have hown : (aT (gD ps) (.int t) >>= fun x => aT x (.int 0)) = .ok (.int w) := by
      rw [mS t0 t1, R.ok_bind, uM, ew, gh t0 t1]
    obtain ⟨zw, ezw⟩ : ∃ zw : Int -> Option Int, zw = if w = 0 then z else o := ⟨_, rfl⟩
    have hsel : aT (.list [oT z ps.length, oT o ps.length]) (.int w) = .ok (oT zw ps.length) := by
      rcases w01 with q | q
      · rw [q, ezw, if_pos q]; rfl
      · rw [q, ezw, if_neg (by omega)]; rfl
    obtain ⟨b0, eb0⟩ : ∃ b0 : Int -> Option Int, b0 = fun i => if i = t then none else zw i := ⟨_, rfl⟩
    have hcut : (D2.hU (gO (fun i => oD (zw i)) ps.length) none (some t)) ++ [PyData.none] ++ (D2.hU (gO (fun i => oD (zw i)) ps.length) (some (t + 1)) none) = gO (fun i => oD (b0 i)) ps.length := by
      have k1 := lU (ds := gO (fun i => oD (zw i)) ps.length) (e := t.toNat) (by rw [ca]; omega);have k2 := nu (ds := gO (fun i => oD (zw i)) ps.length) (e := t.toNat + 1) (by rw [ca]; omega);rw [show ((t.toNat : Nat) : Int) = t by omega] at k1;rw [show ((t.toNat + 1 : Nat) : Int) = t + 1 by omega] at k2;rw [k1, k2, List.append_assoc, List.singleton_append];have e3 := wd (f := fun i => oD (zw i)) (n := ps.length) (i := t) (v := .none) t0 t1;rw [List.set_eq_take_append_cons_drop, if_pos (by rw [ca]; omega)] at e3;rw [e3];refine rS fun i _ _ => ?_
      rw [eb0];dsimp only;by_cases q : i = t
      · rw [if_pos q, if_pos q]; rfl
      · rw [if_neg q, if_neg q]
    have hb0g : ∀ i g, b0 i = some g -> g ∈ au ps i := fun i g h => by
      rw [eb0] at h;dsimp only at h;split at h
      · cases h
      · rw [ezw] at h;split at h
        · exact hz i g h
        · exact ho i g h
    obtain ⟨few, efew⟩ : ∃ few : List PyData, few = [oT b0 ps.length, .tuple (gO (fun i => oD (z i)) ps.length ++ [.none]), .none] := ⟨_, rfl⟩
    obtain ⟨bad, hbm, hbx⟩ := jp (xs := few) (i := v / 96 % 3) (by omega) (by rw [efew]; simp; omega);obtain ⟨p0, ep0⟩ : ∃ p0 : PyData, p0 = if w = 0 then bad else oT z ps.length := ⟨_, rfl⟩
    obtain ⟨p1, ep1⟩ : ∃ p1 : PyData, p1 = if w = 0 then oT o ps.length else bad := ⟨_, rfl⟩
    have hpair : aT (.list [.tuple [bad, oT o ps.length], .tuple [oT z ps.length, bad]]) (.int w) = .ok (.tuple [p0, p1]) := by
      rcases w01 with q | q
      · rw [ep0, ep1, if_pos q, if_pos q, q]; rfl
      · rw [ep0, ep1, if_neg (by omega), if_neg (by omega), q]; rfl
    have hbadm : ∀ d : PyData, dg d -> gC ps d = false -> d = bad -> ∀ ds, aL [gD ps, p0, p1, ds] = .ex lL := fun d g h e ds => by
      subst e;rcases w01 with q | q
      · rw [ep0, ep1, if_pos q, if_pos q];exact la hp g (fu _ _) (.inl h)
      · rw [ep0, ep1, if_neg (by omega), if_neg (by omega)];exact la hp (fu _ _) g (.inr h)
    have hring : ∀ ds, aL [gD ps, p0, p1, ds] = .ex lL := by
      rw [efew] at hbm;simp only [List.mem_cons, List.mem_nil_iff, or_false] at hbm;rcases hbm with q | q | q
      · intro ds;have hb0t : b0 t = none := by rw [eb0]; exact if_pos rfl
        rcases w01 with q' | q'
        · rw [ep0, ep1, if_pos q', if_pos q', q];exact jE hp hw hb0g ho ht (by unfold bH; rw [if_pos (by omega), hb0t]) ds
        · rw [ep0, ep1, if_neg (by omega), if_neg (by omega), q];exact jE hp hw hz hb0g ht (by unfold bH; rw [if_neg (by omega), hb0t]) ds
      · refine hbadm _ (cr.mpr fun x hx => ?_) ?_ q.symm
        · rcases List.mem_append.mp hx with y | y
          · exact (lp z ps.length x y).1
          · simp at y; rw [y]; exact iA
        · show (decide ((gO (fun i => oD (z i)) ps.length ++ [PyData.none]).length = ps.length) && _) = false;rw [List.length_append, ca, decide_eq_false (by simp)];rfl
      · exact hbadm _ iA rfl q.symm
    obtain ⟨d1, _, hd1⟩ := jp (xs := [.int s, .int (-1), .int ps.length]) (i := v / 288 % 3) (by omega) (by simp; omega);obtain ⟨d2, hd2m, hd2⟩ := jp (xs := [.int (-1), .int ps.length, .bool true, .none, .tuple [.int 0]]) (i := v / 288 % 5) (by omega) (by simp; omega);have hpart : aL [gD ps, oT z ps.length, oT o ps.length, d2] = .ex k9 := by
      simp only [List.mem_cons, List.mem_nil_iff, or_false] at hd2m;rcases hd2m with rfl | rfl | rfl | rfl | rfl
      · exact eV hp hw hz ho hall True.intro rfl
      · refine eV hp hw hz ho hall True.intro ?_;have q : decide ((ps.length : Int) <= (ps.length : Int) - 1) = false := decide_eq_false (by omega);simp only [mw, q, Bool.and_false]
      · exact eV hp hw hz ho hall True.intro rfl
      · exact eV hp hw hz ho hall True.intro rfl
      · exact eV hp hw hz ho hall True.intro rfl
    have hm1 := r0 (hring d1);have hm2 := tf hpart;have hdm : ∀ n : Int, 0 < n /\ n < 1073741824 -> dt (.int v) (.int n) = .ok (.int (v / n)) := fun n h => by rw [jX, if_pos h]
    have hmm : ∀ m n : Int, 0 < n -> bG (.int m) (.int n) = .ok (.int (m % n)) := fun m n h => by rw [eA, if_pos h]
    refine ⟨.val (.int t), .val (.list few), .val bad, .val (.tuple [p0, p1]), ?_⟩;unfold zT;rw [bz];simp only [bS, aS, av, aj, aW, R.ok_bind, hmm _ 4 (by decide), fT, bY];rw [if_pos (decide_eq_true h4)];rw [aG (ρ' := sV a ps (.val (.int ps.length)) (.val (oT z ps.length)) (.val (oT o ps.length)) (.val (.int s)) c6 c7 (.val (.int v)) (.val (.int t)) c10 c11 c12 c13 c14 c15) (by
      simp only [aZ, aS, av, aj, aW, R.ok_bind, hdm 4 (by decide), hmm _ (ps.length : Int) (by omega)];rw [<- et];rfl)]
    rw [aG (ρ' := sV a ps (.val (.int ps.length)) (.val (oT z ps.length)) (.val (oT o ps.length)) (.val (.int s)) c6 c7 (.val (.int v)) (.val (.int t)) (.val (.list few)) c11 c12 c13 c14 c15) (by
      have x1 : (e2 aT (dL (ae (af 3) (ae (af 4) aA))) (e2 aT (e2 aT (af 1) (af 9)) (eC (.int 0)))) (sV a ps (.val (.int ps.length)) (.val (oT z ps.length)) (.val (oT o ps.length)) (.val (.int s)) c6 c7 (.val (.int v)) (.val (.int t)) c10 c11 c12 c13 c14 c15) = .ok (oT zw ps.length) := by
        simp only [aS, fi, ax, aD, av, aj, aW, R.ok_bind];rw [if_pos (by show 2 <= _; decide), R.ok_bind, hown, R.ok_bind, hsel]
      have y1 : (e2 cj (e2 cj (pM (e2 aT (dL (ae (af 3) (ae (af 4) aA))) (e2 aT (e2 aT (af 1) (af 9)) (eC (.int 0)))) dY (eu (af 9))) (dI (ae (eC .none) aA))) (pM (e2 aT (dL (ae (af 3) (ae (af 4) aA))) (e2 aT (e2 aT (af 1) (af 9)) (eC (.int 0)))) (eu (e2 cj (af 9) (eC (.int 1)))) dY)) (sV a ps (.val (.int ps.length)) (.val (oT z ps.length)) (.val (oT o ps.length)) (.val (.int s)) c6 c7 (.val (.int v)) (.val (.int t)) c10 c11 c12 c13 c14 c15) = .ok (oT b0 ps.length) := by
        rw [aS, aS, ke, x1, ke, x1];simp only [R.ok_bind, gV, h8, aS, di, ax, aD, av, aj, aW, o9, tH, ul, List.length_cons, List.length_nil];have l1 := rd (gO (fun i => oD (zw i)) ps.length) none (some t);have l2 := rd (gO (fun i => oD (zw i)) ps.length) (some (t + 1)) none;rw [ca] at l1 l2;rw [if_pos (by show 1 <= _; decide), R.ok_bind, kf, if_pos (by simp only [List.length_cons, List.length_nil]; exact bW (by omega)), R.ok_bind, kf, if_pos (by simp only [List.length_append, List.length_cons, List.length_nil]; exact bW (by omega)), hcut]
      rw [aZ, fi, ax, y1];simp only [R.ok_bind, aS, di, ax, aD, av, aj, aW, List.length_cons, List.length_nil];rw [if_pos (by show 1 <= _; decide), R.ok_bind, kf, if_pos (by simp only [ca, List.length_cons, List.length_nil]; exact bW (by omega))];simp only [R.ok_bind, List.length_cons, List.length_nil];rw [if_pos (by show 3 <= _; decide), efew];rfl)]
    rw [aG (ρ' := sV a ps (.val (.int ps.length)) (.val (oT z ps.length)) (.val (oT o ps.length)) (.val (.int s)) c6 c7 (.val (.int v)) (.val (.int t)) (.val (.list few)) (.val bad) c12 c13 c14 c15) (by
      simp only [aZ, aS, av, aj, aW, R.ok_bind, hdm 96 (by decide), hmm _ 3 (by decide), hbx];rfl)]
    rw [aG (ρ' := sV a ps (.val (.int ps.length)) (.val (oT z ps.length)) (.val (oT o ps.length)) (.val (.int s)) c6 c7 (.val (.int v)) (.val (.int t)) (.val (.list few)) (.val bad) (.val (.tuple [p0, p1])) c13 c14 c15) (by
      simp only [aZ, aS, fi, di, ax, aD, av, aj, aW, R.ok_bind, List.length_cons, List.length_nil];rw [if_pos (by show 2 <= _; decide)];simp only [R.ok_bind, List.length_cons, List.length_nil];rw [if_pos (by show 2 <= _; decide)];simp only [R.ok_bind, List.length_cons, List.length_nil];rw [if_pos (by show 2 <= _; decide), R.ok_bind, hown, R.ok_bind, hpair];rfl)]
    rw [aG (ρ' := sV a ps (.val (.int ps.length)) (.val (oT z ps.length)) (.val (oT o ps.length)) (.val (.int s)) c6 c7 (.val (.int v)) (.val (.int t)) (.val (.list few)) (.val bad) (.val (.tuple [p0, p1])) c13 c14 c15) (by
      simp only [bz, bS, cz, aS, aJ, fi, ax, aD, av, aj, aW, R.ok_bind, qh, List.length_cons, List.length_nil, hdm 288 (by decide), hmm _ 3 (by decide), show aT (.tuple [p0, p1]) (.int 0) = .ok p0 from rfl, show aT (.tuple [p0, p1]) (.int 1) = .ok p1 from rfl];rw [if_pos (by show 3 <= _; decide), R.ok_bind, hd1, R.ok_bind, R.ok_bind, R.ok_bind, R.ok_bind, R.ok_bind, hm1, R.ok_bind, qp];rfl)]
    simp only [bz, bS, cz, aS, aJ, fi, di, ax, aD, av, aj, aW, R.ok_bind, qh, List.length_cons, List.length_nil, hdm 288 (by decide), hmm _ 5 (by decide)];rw [if_pos (by show 1 <= _; decide)];simp only [R.ok_bind, List.length_cons, List.length_nil];rw [if_pos (by show 5 <= _; decide), R.ok_bind, hd2, R.ok_bind, R.ok_bind, R.ok_bind, R.ok_bind, R.ok_bind, hm2, R.ok_bind, rQ];rfl
  · refine ⟨c9, c10, c11, c12, ?_⟩;unfold zT;rw [bz];simp only [bS, aS, av, aj, aW, R.ok_bind, eA];rw [if_pos (by decide), R.ok_bind, fT, R.ok_bind, bY, R.ok_bind, if_neg (by rw [decide_eq_false h4]; simp)];rfl
end
theorem vj {ps : List P4} {s : Int} (hs : s ∈ dF ps.length) {rs : List Int} (hne : rs ≠ []) (hl : rs.length <= 24) (hb : ∀ x ∈ rs, x ∈ dF ps.length) {v : Int} (hv : 0 <= v) {f : PyData} (hf : aT f (.int 1) = .ok (.tuple (rs.map .int))) (c2 c3 c4 c6 c7 c9 c10 c11 c12 c14 c15 : bg) (a : PyData) :
    ∃ qs : List Int, (bF 14 (e2 aT (dL (ae (e2 aT (af 13) (eC (.int 1))) (ae (e2 dJ (e2 aT (af 13) (eC (.int 1))) (eC (.int 2))) (ae (e2 cj (e2 aT (af 13) (eC (.int 1))) (pM (e2 aT (af 13) (eC (.int 1))) dY (eu (eC (.int 1))))) (ae (e1 sR (e2 aT (af 13) (eC (.int 1)))) (ae (dI (ae (af 5) aA)) (ae (dI aA) aA))))))) (e2 bG (e2 dt (af 8) (eC (.int 5))) (eC (.int 6))))) (sV a ps c2 c3 c4 (.val (.int s)) c6 c7 (.val (.int v)) c9 c10 c11 c12 (.val f) c14 c15) = .ok (.nx (sV a ps c2 c3 c4 (.val (.int s)) c6 c7 (.val (.int v)) c9 c10 c11 c12 (.val f) (.val (.tuple (qs.map .int))) c15)) /\ qs.length <= 100 /\ ∀ x ∈ qs, x ∈ dF ps.length := by
  have hpos : 0 < rs.length := List.length_pos_iff.mpr hne;have m2 : dJ (.tuple (rs.map .int)) (.int 2) = .ok (.tuple ((rs ++ rs).map .int)) := by
    show (if rs.map PyData.int ≠ [] /\ (2 : Int) <= 2 /\ (2 : Int) < 2 ^ 63 /\ (rs.map PyData.int).length * (2 : Int).toNat <= sizeLine then R.ok (PyData.tuple (List.replicate (2 : Int).toNat (rs.map PyData.int)).flatten) else .no) = _;rw [if_pos ⟨by simpa using hne, by decide, by decide, by rw [List.length_map]; exact bW (by show rs.length * 2 <= 1000; omega)⟩];rw [show (2 : Int).toNat = 2 from rfl, List.map_append];simp [List.replicate]
  have m3 : cj (.tuple (rs.map .int)) (.tuple ((rs.take 1).map .int)) = .ok (.tuple ((rs ++ rs.take 1).map .int)) := by
    rw [kf, if_pos (by simp only [List.length_map, List.length_take]; exact bW (by omega)), List.map_append]
  have m4 : D2.hU (rs.map PyData.int) none (some 1) = (rs.take 1).map .int := by
    rw [show (some (1 : Int)) = some ((1 : Nat) : Int) from rfl, lU (by rw [List.length_map]; omega), List.map_take]
  have m5 : (rs.map PyData.int).reverse = rs.reverse.map .int := by rw [List.map_reverse]
  obtain ⟨few, efew⟩ : ∃ few : List (List Int), few = [rs, rs ++ rs, rs ++ rs.take 1, rs.reverse, [s], []] := ⟨_, rfl⟩
  have hfl : few.length = 6 := by rw [efew]; rfl
  have i0 : 0 <= v / 5 % 6 := by omega
  have i1 : v / 5 % 6 < 6 := by omega
  obtain ⟨qs, eqs⟩ : ∃ qs, qs = few[(v / 5 % 6).toNat]'(by omega) := ⟨_, rfl⟩
  have hx : aT (.list (few.map fun q => .tuple (q.map .int))) (.int (v / 5 % 6)) = .ok (.tuple (qs.map .int)) := by
    rw [uy i0 (by rw [List.length_map]; omega), eqs];simp
  have hm : qs ∈ few := by rw [eqs]; exact List.getElem_mem _
  refine ⟨qs, ?_, ?_⟩
  · rw [efew] at hx;simp only [List.map_cons, List.map_nil] at hx;rw [aZ, aS];simp only [fi, ax, aD, cz, aS, ke, di, gV, h8, av, aj, aW, R.ok_bind, hf, m2, o9, tH, m4, m3, yi, m5, List.length_cons, List.length_nil];rw [if_pos (by show 1 <= _; decide)];simp only [R.ok_bind, List.length_cons, List.length_nil];rw [if_pos (by show 0 <= _; decide)];simp only [R.ok_bind, List.length_cons, List.length_nil];rw [if_pos (by show 6 <= _; decide), R.ok_bind, jX, if_pos (by decide), R.ok_bind, eA, if_pos (by decide), R.ok_bind, hx];rfl
  · rw [efew] at hm;simp only [List.mem_cons, List.mem_nil_iff, or_false] at hm;rcases hm with rfl | rfl | rfl | rfl | rfl | rfl
    · exact ⟨by omega, hb⟩
    · exact ⟨by rw [List.length_append]; omega, fun x hx => (List.mem_append.mp hx).elim (hb x) (hb x)⟩
    · exact ⟨by rw [List.length_append, List.length_take]; omega, fun x hx => (List.mem_append.mp hx).elim (hb x) fun z => hb x (List.mem_of_mem_take z)⟩
    · exact ⟨by rw [List.length_reverse]; omega, fun x hx => hb x (List.mem_reverse.mp hx)⟩
    · exact ⟨by simp, fun x hx => by simp at hx; rw [hx]; exact hs⟩
    · exact ⟨by simp, fun x hx => by cases hx⟩
theorem uk {ps : List P4} {qs : List Int} (hl : qs.length <= 100) {x : PyData} (hx : x ∈ [.list (qs.map .int), .tuple (qs.map .int ++ [.int ps.length]), .tuple [.int (-1)], .none, .tuple [.bool true]]) : aP [gD ps, x] = .ok .none := by
  simp only [List.mem_cons, List.mem_nil_iff, or_false] at hx;refine gZ (jd ?_);rcases hx with rfl | rfl | rfl | rfl | rfl
  · exact fP (sZ.mpr fun x hx => by obtain ⟨i, _, rfl⟩ := List.mem_map.mp hx; exact fZ i) (fun ds e => nomatch e) rfl
  · refine fP (cr.mpr fun x hx => ?_) (fun ds e => by cases e; simp; omega) ?_
    · rcases List.mem_append.mp hx with y | y
      · obtain ⟨i, _, rfl⟩ := List.mem_map.mp y;exact fZ i
      · simp at y; rw [y]; exact fZ _
    · show (_ || !((qs.map PyData.int ++ [PyData.int ps.length]).all fun d => mw d 0 ((ps.length : Int) - 1))) = true;have q : decide ((ps.length : Int) <= (ps.length : Int) - 1) = false := decide_eq_false (by omega);rw [List.all_append];simp [mw, q]
  · exact fP (cr.mpr fun x hx => by simp at hx; rw [hx]; exact fZ _) (fun ds e => by cases e; simp) rfl
  · exact fP iA (fun ds e => nomatch e) rfl
  · exact fP (cr.mpr fun x hx => by simp at hx; rw [hx]; exact sj _) (fun ds e => by cases e; simp) rfl
theorem uW : wR pE := by
  intro ns hns;obtain ⟨ps, hi, hgr, hpl, hp1, hp24, hi0, hi12⟩ := qL ns (most := 24) (by omega) (by omega);have G : Gr ps := zL hpl hp24;have hp := G.hp;have hlen : eY (gD ps) = .ok (.int ps.length) := by simp
  have hw : ∀ i ∈ dF ps.length, bp ps i = 0 \/ bp ps i = 1 := fun i hi' => by
    obtain ⟨h0, h1⟩ := bB.mp hi';have P := hpl _ (List.getElem_mem (show i.toNat < ps.length by omega));rw [gh h0 h1];have := P.w0;have := P.w1;omega
  have hne : ∀ i ∈ dF ps.length, au ps i ≠ [] := fun i hi z => by
    obtain ⟨h0, h1⟩ := bB.mp hi;obtain ⟨g, hg⟩ := G.gne h0 h1;rw [z] at hg;cases hg
  obtain ⟨v1, hv1, v10, _⟩ := ie ns (k := 1) (by omega);obtain ⟨v2, hv2, v20, _⟩ := ie ns (k := 2) (by omega);obtain ⟨z0, ez0, gz0, _, az0⟩ := jW hp hne 0 v1 0;obtain ⟨o, eo, go, _, ao⟩ := jW hp hne 1 v2 0;obtain ⟨s, es⟩ : ∃ s, s = v1 / 3 % (ps.length : Int) := ⟨_, rfl⟩
  have s0 : 0 <= s := by rw [es]; exact Int.emod_nonneg _ (by omega)
  have s1 : s < ps.length := by rw [es]; exact Int.emod_lt_of_pos _ (by omega)
  have hs := bB.mpr ⟨s0, s1⟩;obtain ⟨z, c6, c7, gz, az, e6⟩ := xT ns G hne gz0 (az0 rfl) (.val (.int ps.length)) (.val (oT o ps.length)) (.val (.int s)) .non .non .non .non .non .non .non .non .non .non;have hall : ∀ i ∈ dF ps.length, ∃ g, bH ps z o i = some g := fun i hi => by
    unfold bH;rcases hw i hi with q | q
    · rw [if_pos q]; exact az i hi q
    · rw [if_neg (by omega)]; exact ao rfl i hi q
  obtain ⟨v, ev⟩ : ∃ v, v = v2 / 3 := ⟨_, rfl⟩
  have hv : 0 <= v := by omega
  obtain ⟨c9, c10, c11, c12, e8⟩ := xO (a := iP ns) G hw gz go hall hp1 (s := s) hv c6 c7 .non .non .non .non .non .non .non;obtain ⟨K, e, wk, hring⟩ := qc G hw gz go hall hs;have hwalk := vZ G hw gz go hall hs wk;obtain ⟨f, ef⟩ : ∃ f, f = zq (gc ps z o) s K e := ⟨_, rfl⟩
  rw [<- ef] at hring hwalk;have hin : ∀ j, jS (gc ps z o) s j ∈ dF ps.length := mI (nx := gc ps z o) (S := fun x => x ∈ dF ps.length) (fun x h => gN G gz go hall h) hs;have hK := lZ (nx := gc ps z o) (S := fun x => x ∈ dF ps.length) (fun _ h => h) (fun x h => gN G gz go hall h) hs wk.nd;have he := wk.lt;have hf1 : aT f (.int 1) = .ok (.tuple ((iQ (gc ps z o) s K e).map .int)) := by rw [ef]; rfl
  have hf0 : aT f (.int 0) = .ok (.tuple ((wn (gc ps z o) s K e).map .int)) := by rw [ef]; rfl
  have hsame : nQ f f = .ok (.bool false) := by
    rw [ef];refine k7 (cr.mpr fun x hx => ?_) ?_
    · simp at hx;rcases hx with rfl | rfl
      · exact rk _
      · exact rk _
    · simp [PyData.depth, PyData.depthAll, (mE _).dep]
  obtain ⟨qs, e14, hql, hqb⟩ := vj (ps := ps) hs (rs := iQ (gc ps z o) s K e) (fun q => by
      have := iG (gc ps z o) s K e;rw [q] at this;simp at this;omega) (by rw [iG]; omega) (fun x hx => by
      obtain ⟨j, _, _, ej⟩ := r8 hx;rw [<- ej];exact hin j) hv hf1 (.val (.int ps.length)) (.val (oT z ps.length)) (.val (oT o ps.length)) c6 c7 c9 c10 c11 c12 .non .non (iP ns)
  unfold pE tO;refine fy ?_;rw [show ([iP ns].map bg.val ++ List.replicate (16 - [iP ns].length) bg.non) = [.val (iP ns), .non, .non, .non, .non, .non, .non, .non, .non, .non, .non, .non, .non, .non, .non, .non] from rfl];rw [aG (ρ' := sV (iP ns) ps .non .non .non .non .non .non .non .non .non .non .non .non .non .non) (by
    simp only [aZ, aJ, ax, aD, aj, aW, R.ok_bind, hgr]; rfl)]
  rw [aG (ρ' := sV (iP ns) ps (.val (.int ps.length)) .non .non .non .non .non .non .non .non .non .non .non .non .non) (by
    simp only [aZ, cz, av, aj, R.ok_bind, hlen]; rfl)]
  rw [aG (ρ' := sV (iP ns) ps (.val (.int ps.length)) (.val (oT z0 ps.length)) .non .non .non .non .non .non .non .non .non .non .non .non) (by
    simp only [aZ, aJ, ax, aD, av, aj, aW, R.ok_bind, hv1, ez0]; rfl)]
  rw [aG (ρ' := sV (iP ns) ps (.val (.int ps.length)) (.val (oT z0 ps.length)) (.val (oT o ps.length)) .non .non .non .non .non .non .non .non .non .non .non) (by
    simp only [aZ, aJ, ax, aD, av, aj, aW, R.ok_bind, hv2, eo]; rfl)]
  rw [aG (ρ' := sV (iP ns) ps (.val (.int ps.length)) (.val (oT z0 ps.length)) (.val (oT o ps.length)) (.val (.int s)) .non .non .non .non .non .non .non .non .non .non) (by
    simp only [aZ, aS, aJ, ax, aD, av, aj, aW, R.ok_bind, hv1, jX];rw [if_pos (by decide), R.ok_bind, eA, if_pos (by omega), R.ok_bind, <- es];rfl)]
  unfold zY at e6;rw [aG e6];rw [aG (ρ' := sV (iP ns) ps (.val (.int ps.length)) (.val (oT z ps.length)) (.val (oT o ps.length)) (.val (.int s)) c6 c7 (.val (.int v)) .non .non .non .non .non .non .non) (by
    simp only [aZ, aS, aJ, ax, aD, av, aj, aW, R.ok_bind, hv2, jX];rw [if_pos (by decide), R.ok_bind, <- ev];rfl)]
  unfold zT at e8;rw [aG e8];rw [aG (ρ' := sV (iP ns) ps (.val (.int ps.length)) (.val (oT z ps.length)) (.val (oT o ps.length)) (.val (.int s)) c6 c7 (.val (.int v)) c9 c10 c11 c12 (.val f) .non .non) (by
    simp only [aZ, aJ, ax, aD, av, aj, R.ok_bind, hring]; rfl)]
  rw [aG (ρ' := sV (iP ns) ps (.val (.int ps.length)) (.val (oT z ps.length)) (.val (oT o ps.length)) (.val (.int s)) c6 c7 (.val (.int v)) c9 c10 c11 c12 (.val f) .non .non) (by
    simp only [bz, dU, bO, bS, cz, aS, aJ, di, ax, aD, av, aj, aW, R.ok_bind, List.length_cons, List.length_nil];rw [if_pos (by show 2 <= _; decide)];simp only [R.ok_bind, hwalk, hsame, bY, hf0];rfl)]
  rw [aG e14];have hdm : ∀ n : Int, 0 < n /\ n < 1073741824 -> dt (.int v) (.int n) = .ok (.int (v / n)) := fun n h => by rw [jX, if_pos h]
  have hmm : ∀ m n : Int, 0 < n -> bG (.int m) (.int n) = .ok (.int (m % n)) := fun m n h => by rw [eA, if_pos h]
  by_cases h7 : v / 30 % 7 = 1
  · refine jU ?_;obtain ⟨x, hxm, hx⟩ := jp (xs := [.list (qs.map .int), .tuple (qs.map .int ++ [.int ps.length]), .tuple [.int (-1)], .none, .tuple [.bool true]]) (i := v / 210 % 5) (by omega) (by simp; omega);have hj := uk hql hxm;rw [bz];simp only [bS, aS, av, aj, aW, R.ok_bind, hdm 30 (by decide), hmm _ 7 (by decide), fT, bY];rw [if_pos (decide_eq_true h7)];rw [aG (ρ' := sV (iP ns) ps (.val (.int ps.length)) (.val (oT z ps.length)) (.val (oT o ps.length)) (.val (.int s)) c6 c7 (.val (.int v)) c9 c10 c11 c12 (.val f) (.val x) .non) (by
      rw [aZ, aS];simp only [fi, ax, aD, cz, aS, di, av, aj, aW, R.ok_bind, vL, qh, List.length_cons, List.length_nil];rw [if_pos (by show 1 <= _; decide), R.ok_bind, kf, if_pos (by simp only [List.length_map, List.length_cons, List.length_nil]; exact bW (by omega))];simp only [R.ok_bind, List.length_cons, List.length_nil];rw [if_pos (by show 1 <= _; decide)];simp only [R.ok_bind, List.length_cons, List.length_nil];rw [if_pos (by show 1 <= _; decide)];simp only [R.ok_bind, List.length_cons, List.length_nil, hdm 210 (by decide), hmm _ 5 (by decide)];rw [if_pos (by show 5 <= _; decide), R.ok_bind, hx];rfl)]
    simp only [eP, aS, aJ, ax, aD, av, aj, aW, R.ok_bind, hj];rfl
  · rw [aG (ρ' := sV (iP ns) ps (.val (.int ps.length)) (.val (oT z ps.length)) (.val (oT o ps.length)) (.val (.int s)) c6 c7 (.val (.int v)) c9 c10 c11 c12 (.val f) (.val (.tuple (qs.map .int))) .non) (by
      rw [bz];simp only [bS, aS, av, aj, aW, R.ok_bind, hdm 30 (by decide), hmm _ 7 (by decide), fT, bY];rw [if_neg (by rw [decide_eq_false h7]; simp)];rfl)]
    have hgood := n5 hqb;have heq := zP qs [];simp only [List.map_nil] at heq;have fin0 : aP [gD ps, .tuple (qs.map .int)] = .ok .none -> qs = [] \/ oW ps qs = false -> ∀ b : Fs, (aV (bF 15 (aM aP (ae (af 1) (ae (af 14) aA)))) (aV (jQ (md (tE (e2 (lv) (af 14) (dI aA))) (fV (tE (aM aY (ae (af 1) (ae (af 14) aA)))))) (cD (e2 (lR) (af 15) (eC .none))) cm) b)) (sV (iP ns) ps (.val (.int ps.length)) (.val (oT z ps.length)) (.val (oT o ps.length)) (.val (.int s)) c6 c7 (.val (.int v)) c9 c10 c11 c12 (.val f) (.val (.tuple (qs.map .int))) .non) = .ok (.rt (.bool true)) := fun hj hc b => by
      rw [aG (ρ' := sV (iP ns) ps (.val (.int ps.length)) (.val (oT z ps.length)) (.val (oT o ps.length)) (.val (.int s)) c6 c7 (.val (.int v)) c9 c10 c11 c12 (.val f) (.val (.tuple (qs.map .int))) (.val .none)) (by
        simp only [aZ, aJ, ax, aD, av, aj, R.ok_bind, hj]; rfl)]
      refine jU ?_;rw [bz];simp only [dU, bO, bS, aS, di, aJ, ax, aD, av, aj, aW, R.ok_bind, List.length_nil];rw [if_pos (by show 0 <= _; decide), R.ok_bind, heq, R.ok_bind, bY, R.ok_bind, hgood, R.ok_bind, bY, R.ok_bind];by_cases q : qs = []
      · rw [decide_eq_true q]; rfl
      · rw [decide_eq_false q, hc.resolve_left q]; rfl
    by_cases q : qs = []
    · exact fin0 (gZ (jd (fP (by rw [q]; exact cr.mpr fun x hx => by cases hx) (fun ds e => by cases e; simp; omega) (by rw [q]; rfl)))) (.inl q) _
    · cases hr : oW ps qs with
      | false =>
        have hri := mD (by omega) q hqb;rw [hr] at hri;exact fin0 (gZ (jd hri)) (.inr hr) _
      | true =>
        obtain ⟨h, hj, hmax, _, _⟩ := sg (by omega) q hqb (jH.mp hr);have hj := qJ hj;rw [hr] at hgood;rw [aG (ρ' := sV (iP ns) ps (.val (.int ps.length)) (.val (oT z ps.length)) (.val (oT o ps.length)) (.val (.int s)) c6 c7 (.val (.int v)) c9 c10 c11 c12 (.val f) (.val (.tuple (qs.map .int))) (.val (.int (h % 2)))) (by
          simp only [aZ, aJ, ax, aD, av, aj, R.ok_bind, hj]; rfl)]
        rw [aG (ρ' := sV (iP ns) ps (.val (.int ps.length)) (.val (oT z ps.length)) (.val (oT o ps.length)) (.val (.int s)) c6 c7 (.val (.int v)) c9 c10 c11 c12 (.val f) (.val (.tuple (qs.map .int))) (.val (.int (h % 2)))) (by
          rw [bz];simp only [dU, bO, bS, aS, di, aJ, ax, aD, av, aj, aW, R.ok_bind, List.length_nil];rw [if_pos (by show 0 <= _; decide), R.ok_bind, heq, R.ok_bind, bY, R.ok_bind, hgood, R.ok_bind, bY, R.ok_bind, decide_eq_false q];rfl)]
        have hc : bA (dq 0) (fun _ => .ok true) (e2 aT (e2 aT (af 1) (af 0)) (eC (.int 1))) [.non, .val (gD ps)] (qs.map .int) = .ok ((qs.map (cf ps)).map .int) := by
          have := iD (e2 aT (e2 aT (af 1) (af 0)) (eC (.int 1))) [.non, .val (gD ps)] 0 (fun d => match d with | .int i => .int (cf ps i) | d => d) (qs.map .int) fun d hd => by
            obtain ⟨i, hi, rfl⟩ := List.mem_map.mp hd;obtain ⟨i0, i1⟩ := bB.mp (hqb i hi);simp only [List.set_cons_zero, aS, aj, av, aW, R.ok_bind, mS i0 i1, uV];rw [mH i0 i1]
          rw [this, List.map_map, List.map_map];rfl
        have hcm : (cU (qr (af 14)) 1 [1] (dq 0) (fun _ => .ok true) (e2 aT (e2 aT (af 1) (af 0)) (eC (.int 1)))) (sV (iP ns) ps (.val (.int ps.length)) (.val (oT z ps.length)) (.val (oT o ps.length)) (.val (.int s)) c6 c7 (.val (.int v)) c9 c10 c11 c12 (.val f) (.val (.tuple (qs.map .int))) (.val (.int (h % 2)))) = .ok (.list ((qs.map (cf ps)).map .int)) := by
          rw [df, show aF 1 [1] (sV (iP ns) ps (.val (.int ps.length)) (.val (oT z ps.length)) (.val (oT o ps.length)) (.val (.int s)) c6 c7 (.val (.int v)) c9 c10 c11 c12 (.val f) (.val (.tuple (qs.map .int))) (.val (.int (h % 2)))) = [.non, .val (gD ps)] from rfl];simp only [kR, av, aj, R.ok_bind, e9, dw];rw [if_pos (by rw [List.length_map]; exact bW (by omega)), hc];rfl
        simp only [eP, vF, wg, cz, aS, av, aj, aW, R.ok_bind, hcm, hmax, hmm _ 2 (by decide), fT, show fg .int (.int (h % 2)) = .ok (.bool true) from rfl, show fg .bool (.int (h % 2)) = .ok (.bool false) from rfl, bY, decide_true];rfl
def zc : List Stmt := PySem.Challenge.pw_duelground_k50_rings.main.body
abbrev top (i : Nat) : Stmt := zc.getD i (.Pass ⟨0, 0, 0, 0⟩)
abbrev gT : Stmt := top 21
abbrev gi : Stmt := top 26
abbrev fN : Stmt := top 19
abbrev ig : Stmt := top 20
abbrev h9 : Stmt := top 22
abbrev ib : Stmt := top 23
abbrev eO : Stmt := top 24
abbrev iZ : Stmt := top 8
abbrev gy : Stmt := top 9
abbrev cQ : Stmt := top 13
abbrev fU : Stmt := top 16
abbrev jA : Stmt := top 17
abbrev gj : Stmt := top 28
abbrev km : Stmt := top 10
abbrev fx : Stmt := top 11
abbrev cL : Stmt := top 14
abbrev j6 : Stmt := top 15
abbrev fM : Stmt := top 27
abbrev eG : Stmt := top 30
abbrev ja : Stmt := top 29
abbrev gI : Stmt := top 31
section
variable {P : Program} {w : World} {K : PySem.W.Frag} {mg : Str -> Option Value} {base : Heap} {f : Addr} {fd : FuncData} {k : Nat}
theorem pf : ba ["_law_number", "_law_k", "_law_drawn_here"] ["_law_number", "_law_k"] (al gT) := ⟨rfl, rfl, rfl, by decide +kernel, rfl, by decide +kernel, by decide +kernel⟩
theorem oR (W : ji K "_law_drawn" "_law_drawn" gT f fd) :
    bj P w K mg base (dc P w mg) (k + 1) f fd ["_law_number", "_law_k"] (dM (eM 3 (gR)) 2) := by
  refine Z.fn_dataT W pf (G := []) (by decide +kernel) fun cdv A outer s H E hr T => ?_
  exact (Z.aw (Z.bf T 2 rfl (Z.bn (Z.ah.b (Z.eF (Z.ah.b (Z.bP (Z.ah.b (Z.bP (Z.ah.b (Z.aa T 0 rfl)) (Z.ah.b (Z.eF (Z.ah.b Z.ai) (Z.ah.b (Z.aa T 1 rfl)))))) (Z.ah.b Z.ai))) (Z.ah.b Z.ai))) (Z.ah.b Z.ai)))
      (Z.aK (Z.bi (Z.bn (Z.ah.b (Z.bP (Z.ah.b (Z.bP (Z.ah.b (Z.eF (Z.ah.b (Z.aa T 2 rfl)) (Z.ah.b (Z.aa T 2 rfl)))) (Z.ah.b (Z.eF (Z.ah.b Z.ai) (Z.ah.b (Z.aa T 2 rfl)))))) (Z.ah.b (Z.aa T 1 rfl)))) (Z.ah.b Z.ai)))))
theorem nE : ba ["_law_ground_here", "_law_who", "_law_number", "_law_share", "_law_found", "_law_k", "_law_place_here", "_law_drawn_here"] ["_law_ground_here", "_law_who", "_law_number", "_law_share"] (al gi) := ⟨rfl, rfl, rfl, by decide +kernel, rfl, by decide +kernel, by decide +kernel⟩
theorem nh (W : ji K "_law_choice" "_law_choice" gi f fd) {f11 : Addr} {d11 : FuncData} {ak : jk} (C11 : jr P w K mg base k "_law_drawn" ["_law_number", "_law_k"] ak f11 d11) (b_enumerate : mg "enumerate" = none) (b_len : mg "len" = none) (b_tuple : mg "tuple" = none) :
    bj P w K mg base (dc P w mg) (k + 1) f fd ["_law_ground_here", "_law_who", "_law_number", "_law_share"] (dM (eM 8 (gx ak)) 4) := by
  refine Z.fn_dataT W nE (G := ["enumerate", "_law_drawn", "len", "tuple"]) (by decide +kernel) fun cdv A outer s H E hr T => ?_
  exact (Z.aw (Z.jT T 4 rfl (Z.cs Z.aq))
      (Z.aw (Z.gk (have T := T.nox; Z.l6 PassesOwn.never T.calm (Z.iy T 0 rfl b_enumerate (Z.aa T 0 rfl)) (Z.eK T 5 6 rfl rfl) (Z.aw (Z.bf T 7 rfl (Z.aQ C11 hr T 1 rfl (Z.ad (Z.aa T 2 rfl) (Z.ad (Z.aa T 5 rfl) Z.aq)) rfl (ag (ag aB))))
      (Z.aK (Z.dn (Z.kx.t (Z.ik (Z.jg T.hu (Z.ah.b (Z.aR T.hu (Z.ah.b (Z.aa T 6 rfl)) (Z.ah.b Z.ai) (fun _ _ => rfl))) (Z.ah.b (Z.aa T 1 rfl))) (Z.fq (Z.kx.t (Z.nX (Z.pQ (Z.ah.b (Z.aa T 3 rfl)) (Z.ah.b Z.ai)) (Z.l9 (Z.gA T.hu (Z.ah.b (Z.bn (Z.ah.b (Z.aa T 7 rfl)) (Z.ah.b (Z.aa T 3 rfl)))) (Z.ah.b Z.ai)))))))) (Z.aK (Z.eR T 4 rfl Z.cK)) (Z.aK (Z.eR T 4 rfl (Z.aR T.hu (Z.ah.b (Z.aR T.hu (Z.ah.b (Z.aa T 6 rfl)) (Z.ah.b Z.ai) (fun _ _ => rfl))) (Z.ah.b (Z.bn (Z.ah.b (Z.cF (Z.ah.b (Z.aa T 7 rfl)) (Z.ah.b Z.ai))) (Z.ah.b (Z.eE T 2 rfl b_len (Z.ah.b (Z.aR T.hu (Z.ah.b (Z.aa T 6 rfl)) (Z.ah.b Z.ai) (fun _ _ => rfl))))))) (fun _ _ => rfl)))))))))
      (Z.aK (Z.bi (Z.cT T 3 rfl b_tuple (Z.cb T 4 rfl))))))
theorem mo : ba ["_law_script", "_law_k"] ["_law_script", "_law_k"] (al fN) := ⟨rfl, rfl, rfl, by decide +kernel, rfl, by decide +kernel, by decide +kernel⟩
theorem mr (W : ji K "_law_cell_at" "_law_cell_at" fN f fd) (b_len : mg "len" = none) :
    bj P w K mg base (dc P w mg) (k + 1) f fd ["_law_script", "_law_k"] (dM (eM 2 (fK)) 2) := by
  refine Z.fn_dataT W mo (G := ["len"]) (by decide +kernel) fun cdv A outer s H E hr T => ?_
  exact (Z.aw (Z.dn (Z.qf (Z.ah.b (Z.aa T 1 rfl)) (Z.ah.b (Z.eE T 0 rfl b_len (Z.ah.b (Z.aa T 0 rfl))))) (Z.aK (Z.bi (Z.aR T.hu (Z.ah.b (Z.aa T 0 rfl)) (Z.ah.b (Z.aa T 1 rfl)) (fun _ _ => rfl)))) Z.cu)
      (Z.aK (Z.bi Z.ai)))
theorem pO : ba ["_law_script", "_law_k", "_law_drawn_here"] ["_law_script", "_law_k"] (al ig) := ⟨rfl, rfl, rfl, by decide +kernel, rfl, by decide +kernel, by decide +kernel⟩
theorem pC (W : ji K "_law_mixed" "_law_mixed" ig f fd) {f9 : Addr} {d9 : FuncData} {bC : jk} (C9 : jr P w K mg base k "_law_cell_at" ["_law_script", "_law_k"] bC f9 d9) :
    bj P w K mg base (dc P w mg) (k + 1) f fd ["_law_script", "_law_k"] (dM (eM 3 (gW bC)) 2) := by
  refine Z.fn_dataT W pO (G := ["_law_cell_at"]) (by decide +kernel) fun cdv A outer s H E hr T => ?_
  exact (Z.aw (Z.bf T 2 rfl (Z.bn (Z.ah.b (Z.eF (Z.ah.b (Z.bP (Z.ah.b (Z.bP (Z.ah.b (Z.aQ C9 hr T 0 rfl (Z.ad (Z.aa T 0 rfl) (Z.ad (Z.aa T 1 rfl) Z.aq)) rfl (ag (ag aB)))) (Z.ah.b (Z.eF (Z.ah.b Z.ai) (Z.ah.b (Z.aa T 1 rfl)))))) (Z.ah.b Z.ai))) (Z.ah.b Z.ai))) (Z.ah.b Z.ai)))
      (Z.aK (Z.bi (Z.bn (Z.ah.b (Z.bP (Z.ah.b (Z.bP (Z.ah.b (Z.eF (Z.ah.b (Z.aa T 2 rfl)) (Z.ah.b (Z.aa T 2 rfl)))) (Z.ah.b (Z.eF (Z.ah.b Z.ai) (Z.ah.b (Z.aa T 2 rfl)))))) (Z.ah.b (Z.aa T 1 rfl)))) (Z.ah.b Z.ai)))))
theorem ox : ba ["_law_number", "_law_count", "_law_found", "_law_k"] ["_law_number", "_law_count"] (al h9) := ⟨rfl, rfl, rfl, by decide +kernel, rfl, by decide +kernel, by decide +kernel⟩
theorem o0 (W : ji K "_law_goals" "_law_goals" h9 f fd) {f11 : Addr} {d11 : FuncData} {ak : jk} (C11 : jr P w K mg base k "_law_drawn" ["_law_number", "_law_k"] ak f11 d11) (b_int : mg "int" = none) (b_range : mg "range" = none) (b_sorted : mg "sorted" = none) (b_tuple : mg "tuple" = none) :
    bj P w K mg base (dc P w mg) (k + 1) f fd ["_law_number", "_law_count"] (dM (eM 4 (gQ ak)) 2) := by
  refine Z.fn_dataT W ox (G := ["range", "int", "_law_drawn", "tuple", "sorted"]) (by decide +kernel) fun cdv A outer s H E hr T => ?_
  exact (Z.aw (Z.jT T 2 rfl Z.j8)
      (Z.aw (Z.gk (have T := T.nox; Z.l6 PassesOwn.never T.calm (Z.iw T 0 rfl b_range (Z.ad (Z.bP (Z.ah.b (Z.bP (Z.ah.b Z.ai) (Z.ah.b (Z.bn (Z.ah.b (Z.aa T 0 rfl)) (Z.ah.b Z.ai))))) (Z.ah.b (Z.eF (Z.ah.b Z.ai) (Z.ah.b (Z.kT T 1 rfl b_int (Z.ah.b (Z.rO T.hu (Z.ah.b (Z.bn (Z.ah.b (Z.cF (Z.ah.b (Z.aa T 0 rfl)) (Z.ah.b Z.ai))) (Z.ah.b Z.ai))) (Z.ah.b Z.ai)))))))) Z.aq) (ag aB)) (Z.gv T 3 rfl) (Z.aK (Z.pU T 2 rfl (Z.bn (Z.ah.b (Z.aQ C11 hr T 2 rfl (Z.ad (Z.aa T 0 rfl) (Z.ad (Z.aa T 3 rfl) Z.aq)) rfl (ag (ag aB)))) (Z.ah.b (Z.aa T 1 rfl))) Z.cX))))
      (Z.aK (Z.bi (Z.cT T 3 rfl b_tuple (Z.eL.b (Z.jf T 4 rfl b_sorted (Z.cb T 2 rfl))))))))
theorem oS : ba ["_law_number", "_law_count", "_law_high", "_law_gain"] ["_law_number", "_law_count", "_law_high"] (al ib) := ⟨rfl, rfl, rfl, by decide +kernel, rfl, by decide +kernel, by decide +kernel⟩
theorem pG (W : ji K "_law_place" "_law_place" ib f fd) {f11 : Addr} {d11 : FuncData} {ak : jk} (C11 : jr P w K mg base k "_law_drawn" ["_law_number", "_law_k"] ak f11 d11) {f12 : Addr} {d12 : FuncData} {bV : jk} (C12 : jr P w K mg base k "_law_goals" ["_law_number", "_law_count"] bV f12 d12) :
    bj P w K mg base (dc P w mg) (k + 1) f fd ["_law_number", "_law_count", "_law_high"] (dM (eM 4 (gY ak bV)) 3) := by
  refine Z.fn_dataT W oS (G := ["_law_goals", "_law_drawn"]) (by decide +kernel) fun cdv A outer s H E hr T => ?_
  exact (Z.aw (Z.bf T 3 rfl (Z.l8 (Z.ah.b (Z.bn (Z.ah.b (Z.cF (Z.ah.b (Z.aa T 0 rfl)) (Z.ah.b Z.ai))) (Z.ah.b Z.ai))) (Z.ah.b Z.ai)))
      (Z.aw (Z.dn (Z.gA T.hu (Z.ah.b (Z.bn (Z.ah.b (Z.cF (Z.ah.b (Z.aa T 0 rfl)) (Z.ah.b Z.ai))) (Z.ah.b Z.ai))) (Z.ah.b Z.ai)) (Z.aK (Z.bf T 3 rfl (Z.l8 (Z.ah.b (Z.bn (Z.ah.b (Z.cF (Z.ah.b (Z.aa T 0 rfl)) (Z.ah.b Z.ai))) (Z.ah.b Z.ai))) (Z.ah.b Z.ai)))) Z.cu)
      (Z.aK (Z.bi (Z.cE (Z.ad (Z.bn (Z.ah.b (Z.aa T 0 rfl)) (Z.ah.b Z.ai)) (Z.ad (Z.bn (Z.ah.b (Z.cF (Z.ah.b (Z.aa T 0 rfl)) (Z.ah.b Z.ai))) (Z.ah.b (Z.bP (Z.ah.b (Z.aa T 2 rfl)) (Z.ah.b Z.ai)))) (Z.ad (Z.aa T 3 rfl) (Z.ad (Z.aQ C12 hr T 0 rfl (Z.ad (Z.aQ C11 hr T 1 rfl (Z.ad (Z.aa T 0 rfl) (Z.ad Z.ai Z.aq)) rfl (ag (ag aB))) (Z.ad (Z.aa T 1 rfl) Z.aq)) rfl (ag (ag aB))) Z.aq)))))))))
theorem nJ : ba ["_law_script", "_law_most", "_law_number", "_law_count", "_law_high"] ["_law_script", "_law_most"] (al eO) := ⟨rfl, rfl, rfl, by decide +kernel, rfl, by decide +kernel, by decide +kernel⟩
theorem ou (W : ji K "_law_ground" "_law_ground" eO f fd) {f10 : Addr} {d10 : FuncData} {aC : jk} (C10 : jr P w K mg base k "_law_mixed" ["_law_script", "_law_k"] aC f10 d10) {f13 : Addr} {d13 : FuncData} {bL : jk} (C13 : jr P w K mg base k "_law_place" ["_law_number", "_law_count", "_law_high"] bL f13 d13) (b_len : mg "len" = none) (b_max : mg "max" = none) (b_min : mg "min" = none) (b_range : mg "range" = none) (b_tuple : mg "tuple" = none) :
    bj P w K mg base (dc P w mg) (k + 1) f fd ["_law_script", "_law_most"] (dM (eM 5 (gt aC bL)) 2) := by
  refine Z.fn_dataT W nJ (G := ["_law_mixed", "min", "max", "len", "tuple", "range"]) (by decide +kernel) fun cdv A outer s H E hr T => ?_
  exact (Z.aw (Z.bf T 2 rfl (Z.aQ C10 hr T 0 rfl (Z.ad (Z.aa T 0 rfl) (Z.ad Z.ai Z.aq)) rfl (ag (ag aB))))
      (Z.aw (Z.bf T 3 rfl (Z.bP (Z.ah.b Z.ai) (Z.ah.b (Z.bn (Z.ah.b (Z.aa T 2 rfl)) (Z.ah.b (Z.qK T 1 rfl b_min (Z.ah.b (Z.aa T 1 rfl)) (Z.ah.b (Z.ql T 2 rfl b_max (Z.ah.b Z.ai) (Z.ah.b (Z.eE T 3 rfl b_len (Z.ah.b (Z.aa T 0 rfl))))))))))))
      (Z.aw (Z.bf T 4 rfl (Z.aR T.hu (Z.eL.b (Z.cs (Z.ad Z.ai (Z.ad Z.ai (Z.ad Z.ai (Z.ad Z.ai (Z.ad Z.ai (Z.ad Z.ai Z.aq)))))))) (Z.ah.b (Z.bn (Z.ah.b (Z.cF (Z.ah.b (Z.aa T 2 rfl)) (Z.ah.b Z.ai))) (Z.ah.b Z.ai))) (fun _ _ => rfl)))
      (Z.aK (Z.bi (Z.cT T 4 rfl b_tuple (Z.eL.b (Z.cA (N := ["_law_k", "_law_script", "_law_count", "_law_high"]) (own := 1) (G := ["_law_place", "_law_mixed"]) (fr := [0, 3, 4]) T rfl rfl (oN := ["_law_script", "_law_most", "_law_number", "_law_count", "_law_high"]) (on := (al eO).names) (by decide +kernel) (Z.iw T 5 rfl b_range (Z.ad (Z.aa T 3 rfl) Z.aq) (ag aB)) (iq (by decide)) (fun cl C s' H' fp E' T => ⟨(Z.gv T 0 rfl), Z.ff, (Z.aQ C13 hr T 0 rfl (Z.ad (Z.aQ C10 hr T 1 rfl (Z.ad (Z.aa T 1 rfl) (Z.ad (Z.bP (Z.ah.b Z.ai) (Z.ah.b (Z.aa T 0 rfl))) Z.aq)) rfl (ag (ag aB))) (Z.ad (Z.aa T 2 rfl) (Z.ad (Z.aa T 3 rfl) Z.aq))) rfl (ag (ag (ag aB))))⟩)))))))))
theorem pS : ba ["thing"] ["thing"] (al iZ) := ⟨rfl, rfl, rfl, by decide +kernel, rfl, by decide +kernel, by decide +kernel⟩
theorem qt (W : ji K "is_whole" "is_whole" iZ f fd) (b_bool : mg "bool" = none) (b_int : mg "int" = none) (b_isinstance : mg "isinstance" = none) :
    bj P w K mg base (dc P w mg) (k + 1) f fd ["thing"] (dM (eM 1 (lB)) 1) := by
  refine Z.fn_dataT W pS (G := ["isinstance", "int", "bool"]) (by decide +kernel) fun cdv A outer s H E hr T => ?_
  exact (Z.aK (Z.bi (Z.i9 (Z.gF T 0 rfl b_isinstance T 1 rfl b_int (Z.ah.b (Z.aa T 0 rfl))) (Z.je (Z.nN (Z.fw T 0 rfl b_isinstance T 2 rfl b_bool (Z.ah.b (Z.aa T 0 rfl))))))))
theorem nv : ba ["thing", "low", "high"] ["thing", "low", "high"] (al gy) := ⟨rfl, rfl, rfl, by decide +kernel, rfl, by decide +kernel, by decide +kernel⟩
theorem nC (W : ji K "is_between" "is_between" gy f fd) {f0 : Addr} {d0 : FuncData} {bw : jk} (C0 : jr P w K mg base k "is_whole" ["thing"] bw f0 d0) :
    bj P w K mg base (dc P w mg) (k + 1) f fd ["thing", "low", "high"] (dM (eM 3 (gB bw)) 3) := by
  refine Z.fn_dataT W nv (G := ["is_whole"]) (by decide +kernel) fun cdv A outer s H E hr T => ?_
  exact (Z.aK (Z.bi (Z.i9 (Z.aQ C0 hr T 0 rfl (Z.ad (Z.aa T 0 rfl) Z.aq) rfl (ag aB)) (Z.je (Z.lg wP nF wP nF (Z.ah.b (Z.aa T 1 rfl)) (Z.ah.b (Z.aa T 0 rfl)) (Z.ah.b (Z.aa T 2 rfl)))))))
theorem gP : ba ["thing", "ground"] ["thing", "ground"] (al cQ) := ⟨rfl, rfl, rfl, by decide +kernel, rfl, by decide +kernel, by decide +kernel⟩
theorem ic (W : ji K "is_number_of_place" "is_number_of_place" cQ f fd) {f1 : Addr} {d1 : FuncData} {bK : jk} (C1 : jr P w K mg base k "is_between" ["thing", "low", "high"] bK f1 d1) (b_len : mg "len" = none) :
    bj P w K mg base (dc P w mg) (k + 1) f fd ["thing", "ground"] (dM (eM 2 (cO bK)) 2) := by
  refine Z.fn_dataT W gP (G := ["is_between", "len"]) (by decide +kernel) fun cdv A outer s H E hr T => ?_
  exact (Z.aK (Z.bi (Z.aQ C1 hr T 0 rfl (Z.ad (Z.aa T 0 rfl) (Z.ad Z.ai (Z.ad (Z.l8 (Z.ah.b (Z.eE T 1 rfl b_len (Z.ah.b (Z.aa T 1 rfl)))) (Z.ah.b Z.ai)) Z.aq))) rfl (ag (ag (ag aB))))))
theorem sO : ba ["thing", "ground", "following"] ["thing", "ground"] (al fU) := ⟨rfl, rfl, rfl, by decide +kernel, rfl, by decide +kernel, by decide +kernel⟩
theorem sN (W : ji K "is_ring" "is_ring" fU f fd) {f4 : Addr} {d4 : FuncData} {ar : jk} (C4 : jr P w K mg base k "is_number_of_place" ["thing", "ground"] ar f4 d4) {t_GOALS : Tok} (g_GOALS : mg "GOALS" = some (.int 3 t_GOALS)) (b_all : mg "all" = none) (b_isinstance : mg "isinstance" = none) (b_len : mg "len" = none) (b_tuple : mg "tuple" = none) (b_zip : mg "zip" = none) :
    bj P w K mg base (dc P w mg) (k + 1) f fd ["thing", "ground"] (dM (eM 3 (iF ar)) 2) := by
  refine Z.fn_dataT W sO (G := ["isinstance", "tuple", "len", "all", "zip"]) (by decide +kernel) fun cdv A outer s H E hr T => ?_
  exact (Z.aw (Z.dn (Z.kx.t (Z.ik (Z.dB (Z.dC (Z.du T 0 rfl b_isinstance T 1 rfl b_tuple (Z.ah.b (Z.aa T 0 rfl))))) (Z.fq (Z.gA T.hu (Z.ah.b (Z.eE T 2 rfl b_len (Z.ah.b (Z.aa T 0 rfl)))) (Z.ah.b Z.ai))))) (Z.aK (Z.bi Z.cX)) Z.cu)
      (Z.aw (Z.dn (Z.dB (Z.dC (Z.lN T 3 rfl b_all (Z.eL.b (Z.cA (N := ["number", "ground"]) (own := 1) (G := ["is_number_of_place"]) (fr := [1]) T rfl rfl (oN := ["thing", "ground", "following"]) (on := (al fU).names) (by decide +kernel) (Z.me (Z.aa T 0 rfl)) (iq (by decide)) (fun cl C s' H' fp E' T => ⟨(Z.gv T 0 rfl), Z.ff, (Z.aQ C4 hr T 0 rfl (Z.ad (Z.aa T 0 rfl) (Z.ad (Z.aa T 1 rfl) Z.aq)) rfl (ag (ag aB)))⟩)))))) (Z.aK (Z.bi Z.cX)) Z.cu)
      (Z.aw (Z.bf T 2 rfl (Z.bP (Z.ah.b (Z.cN (Z.ah.b (Z.aa T 0 rfl)) (Z.dA Z.ai) Z.dD)) (Z.ah.b (Z.cN (Z.ah.b (Z.aa T 0 rfl)) Z.dD (Z.dA Z.ai)))))
      (Z.aK (Z.bi (Z.lN T 3 rfl b_all (Z.eL.b (Z.cA (N := ["number", "goal", "ground"]) (own := 2) (G := ["GOALS"]) (fr := [1]) T rfl rfl (oN := ["thing", "ground", "following"]) (on := (al fU).names) (by decide +kernel) (Z.lb T 4 rfl b_zip (Z.aa T 0 rfl) (Z.aa T 2 rfl)) (fW (by decide) (by decide)) (fun cl C s' H' fp E' T => ⟨(Z.eK T 0 1 rfl rfl), Z.ff, (Z.rz T.hu (Z.ah.b (Z.aa T 1 rfl)) (Z.ah.b (Z.aR T.hu (Z.ah.b (Z.aR T.hu (Z.ah.b (Z.aa T 2 rfl)) (Z.ah.b (Z.aa T 0 rfl)) (fun _ _ => rfl))) (Z.ah.b (Z.iu T 0 rfl g_GOALS)) (fun _ _ => rfl))) (by with_unfolding_all rfl))⟩)))))))))
theorem uB : ba ["ground", "ring"] ["ground", "ring"] (al jA) := ⟨rfl, rfl, rfl, by decide +kernel, rfl, by decide +kernel, by decide +kernel⟩
theorem tD (W : ji K "judged" "judged" jA f fd) {f7 : Addr} {d7 : FuncData} {bT : jk} (C7 : jr P w K mg base k "is_ring" ["thing", "ground"] bT f7 d7) {t_MARK : Tok} (g_MARK : mg "MARK" = some (.int 1 t_MARK)) (b_max : mg "max" = none) {c_NoPart : Addr} (m_NoPart : mg "NoPart" = some (.ref c_NoPart)) (q_NoPart : PySem.W.excIn K c_NoPart mf kW = true) :
    bj P w K mg base (dc P w mg) (k + 1) f fd ["ground", "ring"] (dM (eM 2 (jv bT)) 2) := by
  refine Z.fn_dataT W uB (G := ["is_ring", "NoPart", "max"]) (by decide +kernel) fun cdv A outer s H E hr T => ?_
  exact (Z.aw (Z.dn (Z.dB (Z.dC (Z.aQ C7 hr T 0 rfl (Z.ad (Z.aa T 1 rfl) (Z.ad (Z.aa T 0 rfl) Z.aq)) rfl (ag (ag aB))))) (Z.aK (Z.fS T 1 rfl m_NoPart q_NoPart (have T := T.nox; Z.eZ))) Z.cu)
      (Z.aK (Z.bi (Z.bn (Z.ah.b (Z.kO T 2 rfl b_max (Z.eL.b (Z.cA (N := ["number", "ground"]) (own := 1) (G := ["MARK"]) (fr := [0]) T rfl rfl (oN := ["ground", "ring"]) (on := (al jA).names) (by decide +kernel) (Z.me (Z.aa T 1 rfl)) (iq (by decide)) (fun cl C s' H' fp E' T => ⟨(Z.gv T 0 rfl), Z.ff, (Z.aR T.hu (Z.ah.b (Z.aR T.hu (Z.ah.b (Z.aa T 1 rfl)) (Z.ah.b (Z.aa T 0 rfl)) (fun _ _ => rfl))) (Z.ah.b (Z.iu T 0 rfl g_MARK)) (fun _ _ => rfl))⟩))))) (Z.ah.b Z.ai)))))
theorem nS : ba ["_law_ground_here", "_law_ring"] ["_law_ground_here", "_law_ring"] (al gj) := ⟨rfl, rfl, rfl, by decide +kernel, rfl, by decide +kernel, by decide +kernel⟩
theorem nG (W : ji K "_law_judged" "_law_judged" gj f fd) {f8 : Addr} {d8 : FuncData} {ce : jk} (C8 : jr P w K mg base k "judged" ["ground", "ring"] ce f8 d8) {c_NoPart : Addr} (m_NoPart : mg "NoPart" = some (.ref c_NoPart)) (q_NoPart : PySem.W.excIn K c_NoPart mf kW = true) (b_NoPart_NoPart : (Value.ref c_NoPart :: dm K c_NoPart).contains (.ref c_NoPart) = true) :
    bj P w K mg base (dc P w mg) (k + 1) f fd ["_law_ground_here", "_law_ring"] (dM (eM 2 (eQ ce)) 2) := by
  refine Z.fn_dataT W nS (G := ["judged", "NoPart"]) (by decide +kernel) fun cdv A outer s H E hr T => ?_
  exact (Z.aK (Z.oo C8.ok hr T ⟨rfl, rfl⟩ 0 rfl C8.m C8.kp C8.b (have T := T.nox; (Z.ad (Z.aa T 0 rfl) (Z.ad (Z.aa T 1 rfl) Z.aq))) (ag (ag aB)) (iN.cons m_NoPart (xB T 1 rfl m_NoPart q_NoPart q_NoPart b_NoPart_NoPart (f := fun p => (eC .none)) (fun p ob hc T => (Z.cK).un)) iN.nil)))
theorem su : ba ["thing", "place"] ["thing", "place"] (al km) := ⟨rfl, rfl, rfl, by decide +kernel, rfl, by decide +kernel, by decide +kernel⟩
theorem tm (W : ji K "is_move" "is_move" km f fd) {f0 : Addr} {d0 : FuncData} {bw : jk} (C0 : jr P w K mg base k "is_whole" ["thing"] bw f0 d0) {t_GOALS : Tok} (g_GOALS : mg "GOALS" = some (.int 3 t_GOALS)) :
    bj P w K mg base (dc P w mg) (k + 1) f fd ["thing", "place"] (dM (eM 2 (kb bw)) 2) := by
  refine Z.fn_dataT W su (G := ["is_whole", "GOALS"]) (by decide +kernel) fun cdv A outer s H E hr T => ?_
  exact (Z.aK (Z.bi (Z.tP (Z.lH (Z.ah.b (Z.aa T 0 rfl)) (Z.ah.b Z.cK)) (Z.je (Z.i9 (Z.aQ C0 hr T 0 rfl (Z.ad (Z.aa T 0 rfl) Z.aq) rfl (ag aB)) (Z.je (Z.rz T.hu (Z.ah.b (Z.aa T 0 rfl)) (Z.ah.b (Z.aR T.hu (Z.ah.b (Z.aa T 1 rfl)) (Z.ah.b (Z.iu T 1 rfl g_GOALS)) (fun _ _ => rfl))) (by with_unfolding_all rfl))))))))
theorem oE : ba ["thing", "ground"] ["thing", "ground"] (al fx) := ⟨rfl, rfl, rfl, by decide +kernel, rfl, by decide +kernel, by decide +kernel⟩
theorem oK (W : ji K "are_moves" "are_moves" fx f fd) {f2 : Addr} {d2 : FuncData} {cB : jk} (C2 : jr P w K mg base k "is_move" ["thing", "place"] cB f2 d2) (b_all : mg "all" = none) (b_isinstance : mg "isinstance" = none) (b_len : mg "len" = none) (b_tuple : mg "tuple" = none) (b_zip : mg "zip" = none) :
    bj P w K mg base (dc P w mg) (k + 1) f fd ["thing", "ground"] (dM (eM 2 (il cB)) 2) := by
  refine Z.fn_dataT W oE (G := ["isinstance", "tuple", "len", "all", "zip"]) (by decide +kernel) fun cdv A outer s H E hr T => ?_
  exact (Z.aw (Z.dn (Z.kx.t (Z.ik (Z.dB (Z.dC (Z.du T 0 rfl b_isinstance T 1 rfl b_tuple (Z.ah.b (Z.aa T 0 rfl))))) (Z.fq (Z.jg T.hu (Z.ah.b (Z.eE T 2 rfl b_len (Z.ah.b (Z.aa T 0 rfl)))) (Z.ah.b (Z.eE T 2 rfl b_len (Z.ah.b (Z.aa T 1 rfl)))))))) (Z.aK (Z.bi Z.cX)) Z.cu)
      (Z.aK (Z.bi (Z.lN T 3 rfl b_all (Z.eL.b (Z.cA (N := ["move", "place"]) (own := 2) (G := ["is_move"]) (fr := []) T rfl rfl (oN := ["thing", "ground"]) (on := (al fx).names) (by decide +kernel) (Z.lb T 4 rfl b_zip (Z.aa T 0 rfl) (Z.aa T 1 rfl)) (fW (by decide) (by decide)) (fun cl C s' H' fp E' T => ⟨(Z.eK T 0 1 rfl rfl), Z.ff, (Z.aQ C2 hr T 0 rfl (Z.ad (Z.aa T 0 rfl) (Z.ad (Z.aa T 1 rfl) Z.aq)) rfl (ag (ag aB)))⟩)))))))
theorem jO : ba ["ground", "zero", "one", "both"] ["ground", "zero", "one"] (al cL) := ⟨rfl, rfl, rfl, by decide +kernel, rfl, by decide +kernel, by decide +kernel⟩
theorem jI (W : ji K "moves_by_owners" "moves_by_owners" cL f fd) {t_WHO : Tok} (g_WHO : mg "WHO" = some (.int 0 t_WHO)) (b_enumerate : mg "enumerate" = none) (b_tuple : mg "tuple" = none) :
    bj P w K mg base (dc P w mg) (k + 1) f fd ["ground", "zero", "one"] (dM (eM 4 (dE)) 3) := by
  refine Z.fn_dataT W jO (G := ["tuple", "enumerate"]) (by decide +kernel) fun cdv A outer s H E hr T => ?_
  exact (Z.aw (Z.bf T 3 rfl (Z.cE (Z.ad (Z.aa T 1 rfl) (Z.ad (Z.aa T 2 rfl) Z.aq))))
      (Z.aK (Z.bi (Z.cT T 0 rfl b_tuple (Z.eL.b (Z.cA (N := ["number", "place", "both"]) (own := 2) (G := ["WHO"]) (fr := [3]) T rfl rfl (oN := ["ground", "zero", "one", "both"]) (on := (al cL).names) (by decide +kernel) (Z.iy T 1 rfl b_enumerate (Z.aa T 0 rfl)) (fW (by decide) (by decide)) (fun cl C s' H' fp E' T => ⟨(Z.eK T 0 1 rfl rfl), Z.ff, (Z.aR T.hu (Z.ah.b (Z.aR T.hu (Z.ah.b (Z.aa T 2 rfl)) (Z.ah.b (Z.aR T.hu (Z.ah.b (Z.aa T 1 rfl)) (Z.ah.b (Z.iu T 0 rfl g_WHO)) (fun _ _ => rfl))) (fun _ _ => rfl))) (Z.ah.b (Z.aa T 0 rfl)) (fun _ _ => rfl))⟩)))))))
theorem sD : ba ["ground", "zero", "one", "start", "moves", "play", "number", "entered"] ["ground", "zero", "one", "start"] (al j6) := ⟨rfl, rfl, rfl, by decide +kernel, rfl, by decide +kernel, by decide +kernel⟩
theorem tj (W : ji K "ring_of" "ring_of" j6 f fd) {f3 : Addr} {d3 : FuncData} {bN : jk} (C3 : jr P w K mg base k "are_moves" ["thing", "ground"] bN f3 d3) {f4 : Addr} {d4 : FuncData} {ar : jk} (C4 : jr P w K mg base k "is_number_of_place" ["thing", "ground"] ar f4 d4) {f5 : Addr} {d5 : FuncData} {aU : jk} (C5 : jr P w K mg base k "moves_by_owners" ["ground", "zero", "one"] aU f5 d5) (b_tuple : mg "tuple" = none) {c_NoMoves : Addr} (m_NoMoves : mg "NoMoves" = some (.ref c_NoMoves)) (q_NoMoves : PySem.W.excIn K c_NoMoves mf kW = true) {c_NoPart : Addr} (m_NoPart : mg "NoPart" = some (.ref c_NoPart)) (q_NoPart : PySem.W.excIn K c_NoPart mf kW = true) :
    bj P w K mg base (dc P w mg) (k + 1) f fd ["ground", "zero", "one", "start"] (dM (eM 8 (eS bN ar aU)) 4) := by
  refine Z.fn_dataT W sD (G := ["are_moves", "NoMoves", "moves_by_owners", "is_number_of_place", "NoPart", "tuple"]) (by decide +kernel) fun cdv A outer s H E hr T => ?_
  exact (Z.aw (Z.dn (Z.kx.t (Z.ik (Z.dB (Z.dC (Z.aQ C3 hr T 0 rfl (Z.ad (Z.aa T 1 rfl) (Z.ad (Z.aa T 0 rfl) Z.aq)) rfl (ag (ag aB))))) (Z.fq (Z.dB (Z.dC (Z.aQ C3 hr T 0 rfl (Z.ad (Z.aa T 2 rfl) (Z.ad (Z.aa T 0 rfl) Z.aq)) rfl (ag (ag aB)))))))) (Z.aK (Z.fS T 1 rfl m_NoMoves q_NoMoves (have T := T.nox; Z.eZ))) Z.cu)
      (Z.aw (Z.bf T 4 rfl (Z.aQ C5 hr T 2 rfl (Z.ad (Z.aa T 0 rfl) (Z.ad (Z.aa T 1 rfl) (Z.ad (Z.aa T 2 rfl) Z.aq))) rfl (ag (ag (ag aB)))))
      (Z.aw (Z.dn (Z.qF T.hu (Z.ah.b Z.cK) (Z.ah.b (Z.aa T 4 rfl)) (by with_unfolding_all rfl)) (Z.aK (Z.fS T 1 rfl m_NoMoves q_NoMoves (have T := T.nox; Z.eZ))) Z.cu)
      (Z.aw (Z.dn (Z.dB (Z.dC (Z.aQ C4 hr T 3 rfl (Z.ad (Z.aa T 3 rfl) (Z.ad (Z.aa T 0 rfl) Z.aq)) rfl (ag (ag aB))))) (Z.aK (Z.fS T 4 rfl m_NoPart q_NoPart (have T := T.nox; Z.eZ))) Z.cu)
      (Z.aw (Z.jT T 5 rfl (Z.cs Z.aq))
      (Z.aw (Z.bf T 6 rfl (Z.aa T 3 rfl))
      (Z.aw (Z.gk (have T := T.nox; Z.ju 1000000 PassesOwn.never (Z.fR T.hu (Z.ah.b (Z.aa T 6 rfl)) (Z.cb T 5 rfl) (by with_unfolding_all rfl)) (Z.aw (Z.eR T 5 rfl (Z.aa T 6 rfl))
      (Z.aK (Z.bf T 6 rfl (Z.aR T.hu (Z.ah.b (Z.aa T 4 rfl)) (Z.ah.b (Z.aa T 6 rfl)) (fun _ _ => rfl)))))))
      (Z.aw (Z.bf T 7 rfl (Z.hZ (Z.cb T 5 rfl) (Z.aa T 6 rfl)))
      (Z.aK (Z.bi (Z.cE (Z.ad (Z.cT T 5 rfl b_tuple (Z.ah.b (Z.cN (Z.cb T 5 rfl) Z.dD (Z.dA (Z.aa T 7 rfl))))) (Z.ad (Z.cT T 5 rfl b_tuple (Z.ah.b (Z.cN (Z.cb T 5 rfl) (Z.dA (Z.aa T 7 rfl)) Z.dD))) Z.aq)))))))))))))
theorem mv : ba ["_law_ground_here", "_law_zero", "_law_one", "_law_start", "e"] ["_law_ground_here", "_law_zero", "_law_one", "_law_start"] (al fM) := ⟨rfl, rfl, rfl, by decide +kernel, rfl, by decide +kernel, by decide +kernel⟩
theorem mn (W : ji K "_law_refused" "_law_refused" fM f fd) {f6 : Addr} {d6 : FuncData} {aL : jk} (C6 : jr P w K mg base k "ring_of" ["ground", "zero", "one", "start"] aL f6 d6) (b_int : mg "int" = none) (b_isinstance : mg "isinstance" = none) {c_GroundError : Addr} (m_GroundError : mg "GroundError" = some (.ref c_GroundError)) (q_GroundError : PySem.W.excIn K c_GroundError mf kW = true) {c_NoMoves : Addr} (m_NoMoves : mg "NoMoves" = some (.ref c_NoMoves)) (q_NoMoves : PySem.W.excIn K c_NoMoves mf kW = true) {c_NoPart : Addr} (m_NoPart : mg "NoPart" = some (.ref c_NoPart)) (q_NoPart : PySem.W.excIn K c_NoPart mf kW = true) (b_NoMoves_NoMoves : (Value.ref c_NoMoves :: dm K c_NoMoves).contains (.ref c_NoMoves) = true) (b_NoPart_NoMoves : (Value.ref c_NoPart :: dm K c_NoPart).contains (.ref c_NoMoves) = false) (b_NoPart_NoPart : (Value.ref c_NoPart :: dm K c_NoPart).contains (.ref c_NoPart) = true) (k_NoMoves_GroundError : PySem.W.kitOne K (.ref c_NoMoves) (.ref c_GroundError) = some true) (k_NoPart_GroundError : PySem.W.kitOne K (.ref c_NoPart) (.ref c_GroundError) = some true) :
    bj P w K mg base (dc P w mg) (k + 1) f fd ["_law_ground_here", "_law_zero", "_law_one", "_law_start"] (dM (eM 5 (dW aL)) 4) := by
  refine Z.fn_dataT W mv (G := ["ring_of", "NoMoves", "int", "isinstance", "GroundError", "NoPart"]) (by decide +kernel) fun cdv A outer s H E hr T => ?_
  exact (Z.aw (Z.nU C6.ok hr T ⟨rfl, rfl⟩ 0 rfl C6.m C6.kp C6.b (have T := T.nox; (Z.ad (Z.aa T 0 rfl) (Z.ad (Z.aa T 1 rfl) (Z.ad (Z.aa T 2 rfl) (Z.ad (Z.aa T 3 rfl) Z.aq))))) (ag (ag (ag (ag aB)))) (iN.cons m_NoMoves (pD T 1 rfl m_NoMoves q_NoMoves q_NoMoves b_NoMoves_NoMoves 4 rfl rfl (f := fun p => (e2 iS (eC (.str (PySem.Str.ofString "moves"))) (e1 iK (kB 4 p)))) (fun p ob hc T => ((Z.kL (Z.ah.b Z.eZ) (Z.ah.b (Z.jK T 2 rfl b_int (Z.ah.b (Z.nP T List.mem_cons_self hc 4 rfl 3 rfl b_isinstance 4 rfl m_GroundError k_NoMoves_GroundError)))))).un)) (iN.cons m_NoPart (vm T 1 rfl m_NoMoves q_NoPart q_NoMoves b_NoPart_NoMoves (pD T 5 rfl m_NoPart q_NoPart q_NoPart b_NoPart_NoPart 4 rfl rfl (f := fun p => (e2 iS (eC (.str (PySem.Str.ofString "part"))) (e1 iK (kB 4 p)))) (fun p ob hc T => ((Z.kL (Z.ah.b Z.eZ) (Z.ah.b (Z.jK T 2 rfl b_int (Z.ah.b (Z.nP T List.mem_cons_self hc 4 rfl 3 rfl b_isinstance 4 rfl m_GroundError k_NoPart_GroundError)))))).un))) iN.nil)))
      (Z.aK (Z.bi Z.eZ)))
theorem kE : ba ["_law_ground_here", "_law_ring", "_law_k", "_law_place_here"] ["_law_ground_here", "_law_ring"] (al eG) := ⟨rfl, rfl, rfl, by decide +kernel, rfl, by decide +kernel, by decide +kernel⟩
theorem kJ (W : ji K "_law_ring_good" "_law_ring_good" eG f fd) (b_enumerate : mg "enumerate" = none) (b_len : mg "len" = none) :
    bj P w K mg base (dc P w mg) (k + 1) f fd ["_law_ground_here", "_law_ring"] (dM (eM 4 (eD)) 2) := by
  refine Z.fn_dataT W kE (G := ["enumerate", "len"]) (by decide +kernel) fun cdv A outer s H E hr T => ?_
  exact (Z.aw (Z.gk (have T := T.nox; Z.l6 PassesOwn.never T.calm (Z.iy T 0 rfl b_enumerate (Z.aa T 1 rfl)) (Z.eK T 2 3 rfl rfl) (Z.aK (Z.dn (Z.fR T.hu (Z.ah.b (Z.aR T.hu (Z.ah.b (Z.aa T 1 rfl)) (Z.ah.b (Z.bn (Z.ah.b (Z.bP (Z.ah.b (Z.aa T 2 rfl)) (Z.ah.b Z.ai))) (Z.ah.b (Z.eE T 1 rfl b_len (Z.ah.b (Z.aa T 1 rfl)))))) (fun _ _ => rfl))) (Z.ah.b (Z.aR T.hu (Z.ah.b (Z.aR T.hu (Z.ah.b (Z.aa T 0 rfl)) (Z.ah.b (Z.aa T 3 rfl)) (fun _ _ => rfl))) (Z.ah.b Z.ai) (fun _ _ => rfl))) (by with_unfolding_all rfl)) (Z.aK (Z.bi Z.cX)) Z.cu))))
      (Z.aK (Z.bi Z.cX)))
theorem qT : ba ["_law_ground_here", "_law_moves", "_law_start", "_law_met", "_law_at"] ["_law_ground_here", "_law_moves", "_law_start"] (al ja) := ⟨rfl, rfl, rfl, by decide +kernel, rfl, by decide +kernel, by decide +kernel⟩
theorem pV (W : ji K "_law_walk" "_law_walk" ja f fd) (b_tuple : mg "tuple" = none) :
    bj P w K mg base (dc P w mg) (k + 1) f fd ["_law_ground_here", "_law_moves", "_law_start"] (dM (eM 5 (iT)) 3) := by
  refine Z.fn_dataT W qT (G := ["tuple"]) (by decide +kernel) fun cdv A outer s H E hr T => ?_
  exact (Z.aw (Z.jT T 3 rfl (Z.cs Z.aq))
      (Z.aw (Z.bf T 4 rfl (Z.aa T 2 rfl))
      (Z.aw (Z.gk (have T := T.nox; Z.ju 1000000 PassesOwn.never (Z.fR T.hu (Z.ah.b (Z.aa T 4 rfl)) (Z.cb T 3 rfl) (by with_unfolding_all rfl)) (Z.aw (Z.eR T 3 rfl (Z.aa T 4 rfl))
      (Z.aK (Z.bf T 4 rfl (Z.aR T.hu (Z.ah.b (Z.aR T.hu (Z.ah.b (Z.aa T 1 rfl)) (Z.ah.b (Z.aR T.hu (Z.ah.b (Z.aR T.hu (Z.ah.b (Z.aa T 0 rfl)) (Z.ah.b (Z.aa T 4 rfl)) (fun _ _ => rfl))) (Z.ah.b Z.ai) (fun _ _ => rfl))) (fun _ _ => rfl))) (Z.ah.b (Z.aa T 4 rfl)) (fun _ _ => rfl)))))))
      (Z.aK (Z.bi (Z.cE (Z.ad (Z.cT T 0 rfl b_tuple (Z.ah.b (Z.cN (Z.cb T 3 rfl) Z.dD (Z.dA (Z.hZ (Z.cb T 3 rfl) (Z.aa T 4 rfl)))))) (Z.ad (Z.cT T 0 rfl b_tuple (Z.ah.b (Z.cN (Z.cb T 3 rfl) (Z.dA (Z.hZ (Z.cb T 3 rfl) (Z.aa T 4 rfl))) Z.dD))) Z.aq))))))))
theorem zy : ba ["_law_script", "_law_ground_here", "_law_count", "_law_zero", "_law_one", "_law_start", "_law_more", "_law_every", "_law_number", "_law_at", "_law_few", "_law_bad", "_law_pair", "_law_found", "_law_ring", "_law_told"] ["_law_script"] (al gI) := ⟨rfl, rfl, rfl, by decide +kernel, rfl, by decide +kernel, by decide +kernel⟩
theorem zr (W : ji K "law" "law" gI f fd) {f16 : Addr} {d16 : FuncData} {br : jk} (C16 : jr P w K mg base k "_law_choice" ["_law_ground_here", "_law_who", "_law_number", "_law_share"] br f16 d16) {f11 : Addr} {d11 : FuncData} {ak : jk} (C11 : jr P w K mg base k "_law_drawn" ["_law_number", "_law_k"] ak f11 d11) {f14 : Addr} {d14 : FuncData} {bJ : jk} (C14 : jr P w K mg base k "_law_ground" ["_law_script", "_law_most"] bJ f14 d14) {f18 : Addr} {d18 : FuncData} {aP : jk} (C18 : jr P w K mg base k "_law_judged" ["_law_ground_here", "_law_ring"] aP f18 d18) {f10 : Addr} {d10 : FuncData} {aC : jk} (C10 : jr P w K mg base k "_law_mixed" ["_law_script", "_law_k"] aC f10 d10) {f17 : Addr} {d17 : FuncData} {aO : jk} (C17 : jr P w K mg base k "_law_refused" ["_law_ground_here", "_law_zero", "_law_one", "_law_start"] aO f17 d17) {f20 : Addr} {d20 : FuncData} {aY : jk} (C20 : jr P w K mg base k "_law_ring_good" ["_law_ground_here", "_law_ring"] aY f20 d20) {f19 : Addr} {d19 : FuncData} {cq : jk} (C19 : jr P w K mg base k "_law_walk" ["_law_ground_here", "_law_moves", "_law_start"] cq f19 d19) {f6 : Addr} {d6 : FuncData} {aL : jk} (C6 : jr P w K mg base k "ring_of" ["ground", "zero", "one", "start"] aL f6 d6) (b_bool : mg "bool" = none) (b_enumerate : mg "enumerate" = none) (b_int : mg "int" = none) (b_isinstance : mg "isinstance" = none) (b_len : mg "len" = none) (b_list : mg "list" = none) (b_max : mg "max" = none) (b_tuple : mg "tuple" = none) (b_zip : mg "zip" = none) :
    bj P w K mg base (dc P w mg) (k + 1) f fd ["_law_script"] (dM (eM 16 (tO br ak bJ aP aC aO aY cq aL)) 1) := by
  refine Z.fn_dataT W zy (G := ["_law_ground", "len", "_law_choice", "_law_mixed", "enumerate", "tuple", "zip", "_law_refused", "ring_of", "_law_walk", "isinstance", "list", "_law_judged", "_law_ring_good", "int", "bool", "max"]) (by decide +kernel) fun cdv A outer s H E hr T => ?_
  exact (Z.aw (Z.bf T 1 rfl (Z.aQ C14 hr T 0 rfl (Z.ad (Z.aa T 0 rfl) (Z.ad Z.ai Z.aq)) rfl (ag (ag aB))))
      (Z.aw (Z.bf T 2 rfl (Z.eE T 1 rfl b_len (Z.ah.b (Z.aa T 1 rfl))))
      (Z.aw (Z.bf T 3 rfl (Z.aQ C16 hr T 2 rfl (Z.ad (Z.aa T 1 rfl) (Z.ad Z.ai (Z.ad (Z.aQ C10 hr T 3 rfl (Z.ad (Z.aa T 0 rfl) (Z.ad Z.ai Z.aq)) rfl (ag (ag aB))) (Z.ad Z.ai Z.aq)))) rfl (ag (ag (ag (ag aB))))))
      (Z.aw (Z.bf T 4 rfl (Z.aQ C16 hr T 2 rfl (Z.ad (Z.aa T 1 rfl) (Z.ad Z.ai (Z.ad (Z.aQ C10 hr T 3 rfl (Z.ad (Z.aa T 0 rfl) (Z.ad Z.ai Z.aq)) rfl (ag (ag aB))) (Z.ad Z.ai Z.aq)))) rfl (ag (ag (ag (ag aB))))))
      (Z.aw (Z.bf T 5 rfl (Z.bn (Z.ah.b (Z.cF (Z.ah.b (Z.aQ C10 hr T 3 rfl (Z.ad (Z.aa T 0 rfl) (Z.ad Z.ai Z.aq)) rfl (ag (ag aB)))) (Z.ah.b Z.ai))) (Z.ah.b (Z.aa T 2 rfl))))
      (Z.aw (Z.dn (Z.gA T.hu (Z.ah.b (Z.bn (Z.ah.b (Z.aQ C10 hr T 3 rfl (Z.ad (Z.aa T 0 rfl) (Z.ad Z.ai Z.aq)) rfl (ag (ag aB)))) (Z.ah.b Z.ai))) (Z.ah.b Z.ai)) (Z.aw (Z.bf T 6 rfl (Z.aQ C16 hr T 2 rfl (Z.ad (Z.aa T 1 rfl) (Z.ad Z.ai (Z.ad (Z.aQ C10 hr T 3 rfl (Z.ad (Z.aa T 0 rfl) (Z.ad Z.ai Z.aq)) rfl (ag (ag aB))) (Z.ad Z.ai Z.aq)))) rfl (ag (ag (ag (ag aB))))))
      (Z.aw (Z.fI.fz (Z.nR 7 rfl (N := ["_law_k", "_law_place_here", "_law_script"]) (own := 2) (G := ["_law_drawn", "_law_mixed", "len"]) (fr := [0]) T rfl rfl (oN := ["_law_script", "_law_ground_here", "_law_count", "_law_zero", "_law_one", "_law_start", "_law_more", "_law_every", "_law_number", "_law_at", "_law_few", "_law_bad", "_law_pair", "_law_found", "_law_ring", "_law_told"]) (on := (al gI).names) (by decide +kernel) (Z.iy T 4 rfl b_enumerate (Z.aa T 1 rfl)) (fW (by decide) (by decide)) (fun cl C s' H' fp E' T => ⟨(Z.eK T 0 1 rfl rfl), Z.ff, (Z.aR T.hu (Z.ah.b (Z.aR T.hu (Z.ah.b (Z.aa T 1 rfl)) (Z.ah.b Z.ai) (fun _ _ => rfl))) (Z.ah.b (Z.bn (Z.ah.b (Z.aQ C11 hr T 0 rfl (Z.ad (Z.aQ C10 hr T 1 rfl (Z.ad (Z.aa T 2 rfl) (Z.ad Z.ai Z.aq)) rfl (ag (ag aB))) (Z.ad (Z.aa T 0 rfl) Z.aq)) rfl (ag (ag aB)))) (Z.ah.b (Z.eE T 2 rfl b_len (Z.ah.b (Z.aR T.hu (Z.ah.b (Z.aa T 1 rfl)) (Z.ah.b Z.ai) (fun _ _ => rfl))))))) (fun _ _ => rfl))⟩)) (show 7 < 16 by decide))
      (Z.aK (Z.bf T 3 rfl (Z.cT T 5 rfl b_tuple (Z.eL.b (Z.cA (N := ["_law_other", "_law_move"]) (own := 2) (G := ["int"]) (fr := []) T rfl rfl (oN := ["_law_script", "_law_ground_here", "_law_count", "_law_zero", "_law_one", "_law_start", "_law_more", "_law_every", "_law_number", "_law_at", "_law_few", "_law_bad", "_law_pair", "_law_found", "_law_ring", "_law_told"]) (on := (al gI).names) (by decide +kernel) (Z.lb T 6 rfl b_zip (Z.aa T 7 rfl) (Z.aa T 6 rfl)) (fW (by decide) (by decide)) (fun cl C s' H' fp E' T => ⟨(Z.eK T 0 1 rfl rfl), Z.ff, (Z.aR T.hu (Z.eL.b (Z.cs (Z.ad (Z.aa T 0 rfl) (Z.ad (Z.aa T 1 rfl) Z.aq)))) (Z.ah.b (Z.kT T 0 rfl b_int (Z.ah.b (Z.oh (Z.ah.b (Z.aa T 1 rfl)) (Z.ah.b Z.cK))))) (fun _ _ => rfl))⟩)))))))) Z.cu)
      (Z.aw (Z.bf T 8 rfl (Z.cF (Z.ah.b (Z.aQ C10 hr T 3 rfl (Z.ad (Z.aa T 0 rfl) (Z.ad Z.ai Z.aq)) rfl (ag (ag aB)))) (Z.ah.b Z.ai)))
      (Z.aw (Z.dn (Z.gA T.hu (Z.ah.b (Z.bn (Z.ah.b (Z.aa T 8 rfl)) (Z.ah.b Z.ai))) (Z.ah.b Z.ai)) (Z.aw (Z.bf T 9 rfl (Z.bn (Z.ah.b (Z.cF (Z.ah.b (Z.aa T 8 rfl)) (Z.ah.b Z.ai))) (Z.ah.b (Z.aa T 2 rfl))))
      (Z.aw (Z.bf T 10 rfl (Z.eL.e (Z.cs (Z.ad (Z.bP (Z.ah.b (Z.bP (Z.ah.b (Z.cN (Z.ah.b (Z.aR T.hu (Z.eL.b (Z.cs (Z.ad (Z.aa T 3 rfl) (Z.ad (Z.aa T 4 rfl) Z.aq)))) (Z.ah.b (Z.aR T.hu (Z.ah.b (Z.aR T.hu (Z.ah.b (Z.aa T 1 rfl)) (Z.ah.b (Z.aa T 9 rfl)) (fun _ _ => rfl))) (Z.ah.b Z.ai) (fun _ _ => rfl))) (fun _ _ => rfl))) Z.dD (Z.dA (Z.aa T 9 rfl)))) (Z.ah.b (Z.cE (Z.ad Z.cK Z.aq))))) (Z.ah.b (Z.cN (Z.ah.b (Z.aR T.hu (Z.eL.b (Z.cs (Z.ad (Z.aa T 3 rfl) (Z.ad (Z.aa T 4 rfl) Z.aq)))) (Z.ah.b (Z.aR T.hu (Z.ah.b (Z.aR T.hu (Z.ah.b (Z.aa T 1 rfl)) (Z.ah.b (Z.aa T 9 rfl)) (fun _ _ => rfl))) (Z.ah.b Z.ai) (fun _ _ => rfl))) (fun _ _ => rfl))) (Z.dA (Z.bP (Z.ah.b (Z.aa T 9 rfl)) (Z.ah.b Z.ai))) Z.dD))) (Z.ad (Z.bP (Z.ah.b (Z.aa T 3 rfl)) (Z.ah.b (Z.cE (Z.ad Z.cK Z.aq)))) (Z.ad Z.cK Z.aq))))))
      (Z.aw (Z.bf T 11 rfl (Z.aR T.hu (Z.ah.b (Z.aa T 10 rfl)) (Z.ah.b (Z.bn (Z.ah.b (Z.cF (Z.ah.b (Z.aa T 8 rfl)) (Z.ah.b Z.ai))) (Z.ah.b Z.ai))) (fun _ _ => rfl)))
      (Z.aw (Z.bf T 12 rfl (Z.aR T.hu (Z.eL.b (Z.cs (Z.ad (Z.cE (Z.ad (Z.aa T 11 rfl) (Z.ad (Z.aa T 4 rfl) Z.aq))) (Z.ad (Z.cE (Z.ad (Z.aa T 3 rfl) (Z.ad (Z.aa T 11 rfl) Z.aq))) Z.aq)))) (Z.ah.b (Z.aR T.hu (Z.ah.b (Z.aR T.hu (Z.ah.b (Z.aa T 1 rfl)) (Z.ah.b (Z.aa T 9 rfl)) (fun _ _ => rfl))) (Z.ah.b Z.ai) (fun _ _ => rfl))) (fun _ _ => rfl)))
      (Z.aw (Z.dn (Z.jg T.hu (Z.ah.b (Z.aQ C17 hr T 7 rfl (Z.ad (Z.aa T 1 rfl) (Z.ad (Z.aR T.hu (Z.ah.b (Z.aa T 12 rfl)) (Z.ah.b Z.ai) (fun _ _ => rfl)) (Z.ad (Z.aR T.hu (Z.ah.b (Z.aa T 12 rfl)) (Z.ah.b Z.ai) (fun _ _ => rfl)) (Z.ad (Z.aR T.hu (Z.eL.b (Z.cs (Z.ad (Z.aa T 5 rfl) (Z.ad (Z.lS (Z.ah.b Z.ai)) (Z.ad (Z.aa T 2 rfl) Z.aq))))) (Z.ah.b (Z.bn (Z.ah.b (Z.cF (Z.ah.b (Z.aa T 8 rfl)) (Z.ah.b Z.ai))) (Z.ah.b Z.ai))) (fun _ _ => rfl)) Z.aq)))) rfl (ag (ag (ag (ag aB)))))) (Z.ah.b Z.eZ)) (Z.aK (Z.bi Z.cX)) Z.cu)
      (Z.aK (Z.dn (Z.jg T.hu (Z.ah.b (Z.aQ C17 hr T 7 rfl (Z.ad (Z.aa T 1 rfl) (Z.ad (Z.aa T 3 rfl) (Z.ad (Z.aa T 4 rfl) (Z.ad (Z.aR T.hu (Z.eL.b (Z.cs (Z.ad (Z.lS (Z.ah.b Z.ai)) (Z.ad (Z.aa T 2 rfl) (Z.ad Z.cX (Z.ad Z.cK (Z.ad (Z.cE (Z.ad Z.ai Z.aq)) Z.aq))))))) (Z.ah.b (Z.bn (Z.ah.b (Z.cF (Z.ah.b (Z.aa T 8 rfl)) (Z.ah.b Z.ai))) (Z.ah.b Z.ai))) (fun _ _ => rfl)) Z.aq)))) rfl (ag (ag (ag (ag aB)))))) (Z.ah.b Z.eZ)) (Z.aK (Z.bi Z.cX)) Z.cu))))))) Z.cu)
      (Z.aw (Z.bf T 13 rfl (Z.aQ C6 hr T 8 rfl (Z.ad (Z.aa T 1 rfl) (Z.ad (Z.aa T 3 rfl) (Z.ad (Z.aa T 4 rfl) (Z.ad (Z.aa T 5 rfl) Z.aq)))) rfl (ag (ag (ag (ag aB))))))
      (Z.aw (Z.dn (Z.kx.t (Z.ik (Z.jg T.hu (Z.ah.b (Z.aa T 13 rfl)) (Z.ah.b (Z.aQ C19 hr T 9 rfl (Z.ad (Z.aa T 1 rfl) (Z.ad (Z.cE (Z.ad (Z.aa T 3 rfl) (Z.ad (Z.aa T 4 rfl) Z.aq))) (Z.ad (Z.aa T 5 rfl) Z.aq))) rfl (ag (ag (ag aB)))))) (Z.fq (Z.dB (Z.dC (Z.du T 10 rfl b_isinstance T 5 rfl b_tuple (Z.ah.b (Z.aR T.hu (Z.ah.b (Z.aa T 13 rfl)) (Z.ah.b Z.ai) (fun _ _ => rfl))))))))) (Z.aK (Z.bi Z.cX)) Z.cu)
      (Z.aw (Z.bf T 14 rfl (Z.aR T.hu (Z.eL.b (Z.cs (Z.ad (Z.aR T.hu (Z.ah.b (Z.aa T 13 rfl)) (Z.ah.b Z.ai) (fun _ _ => rfl)) (Z.ad (Z.eF (Z.ah.b (Z.aR T.hu (Z.ah.b (Z.aa T 13 rfl)) (Z.ah.b Z.ai) (fun _ _ => rfl))) (Z.ah.b Z.ai)) (Z.ad (Z.bP (Z.ah.b (Z.aR T.hu (Z.ah.b (Z.aa T 13 rfl)) (Z.ah.b Z.ai) (fun _ _ => rfl))) (Z.ah.b (Z.cN (Z.ah.b (Z.aR T.hu (Z.ah.b (Z.aa T 13 rfl)) (Z.ah.b Z.ai) (fun _ _ => rfl))) Z.dD (Z.dA Z.ai)))) (Z.ad (Z.qD (Z.ah.b (Z.aR T.hu (Z.ah.b (Z.aa T 13 rfl)) (Z.ah.b Z.ai) (fun _ _ => rfl)))) (Z.ad (Z.cE (Z.ad (Z.aa T 5 rfl) Z.aq)) (Z.ad (Z.cE Z.aq) Z.aq)))))))) (Z.ah.b (Z.bn (Z.ah.b (Z.cF (Z.ah.b (Z.aa T 8 rfl)) (Z.ah.b Z.ai))) (Z.ah.b Z.ai))) (fun _ _ => rfl)))
      (Z.aw (Z.dn (Z.gA T.hu (Z.ah.b (Z.bn (Z.ah.b (Z.cF (Z.ah.b (Z.aa T 8 rfl)) (Z.ah.b Z.ai))) (Z.ah.b Z.ai))) (Z.ah.b Z.ai)) (Z.aw (Z.bf T 14 rfl (Z.aR T.hu (Z.eL.b (Z.cs (Z.ad (Z.eL.e (Z.lA T 11 rfl b_list (Z.ah.b (Z.aa T 14 rfl)))) (Z.ad (Z.bP (Z.ah.b (Z.aa T 14 rfl)) (Z.ah.b (Z.cE (Z.ad (Z.aa T 2 rfl) Z.aq)))) (Z.ad (Z.cE (Z.ad (Z.lS (Z.ah.b Z.ai)) Z.aq)) (Z.ad Z.cK (Z.ad (Z.cE (Z.ad Z.cX Z.aq)) Z.aq))))))) (Z.ah.b (Z.bn (Z.ah.b (Z.cF (Z.ah.b (Z.aa T 8 rfl)) (Z.ah.b Z.ai))) (Z.ah.b Z.ai))) (fun _ _ => rfl)))
      (Z.aK (Z.bi (Z.lH (Z.ah.b (Z.aQ C18 hr T 12 rfl (Z.ad (Z.aa T 1 rfl) (Z.ad (Z.aa T 14 rfl) Z.aq)) rfl (ag (ag aB)))) (Z.ah.b Z.cK))))) Z.cu)
      (Z.aw (Z.bf T 15 rfl (Z.aQ C18 hr T 12 rfl (Z.ad (Z.aa T 1 rfl) (Z.ad (Z.aa T 14 rfl) Z.aq)) rfl (ag (ag aB))))
      (Z.aw (Z.dn (Z.kx.t (Z.ik (Z.gA T.hu (Z.ah.b (Z.aa T 14 rfl)) (Z.ah.b (Z.cE Z.aq))) (Z.fq (Z.dB (Z.dC (Z.aQ C20 hr T 13 rfl (Z.ad (Z.aa T 1 rfl) (Z.ad (Z.aa T 14 rfl) Z.aq)) rfl (ag (ag aB)))))))) (Z.aK (Z.bi (Z.lH (Z.ah.b (Z.aa T 15 rfl)) (Z.ah.b Z.cK)))) Z.cu)
      (Z.aK (Z.bi (Z.i9 (Z.gF T 10 rfl b_isinstance T 14 rfl b_int (Z.ah.b (Z.aa T 15 rfl))) (Z.i9 (Z.nN (Z.fw T 10 rfl b_isinstance T 15 rfl b_bool (Z.ah.b (Z.aa T 15 rfl)))) (Z.je (Z.rO T.hu (Z.ah.b (Z.aa T 15 rfl)) (Z.ah.b (Z.bn (Z.ah.b (Z.kO T 16 rfl b_max (Z.eL.b (Z.cA (N := ["_law_k", "_law_ground_here"]) (own := 1) (G := []) (fr := [1]) T rfl rfl (oN := ["_law_script", "_law_ground_here", "_law_count", "_law_zero", "_law_one", "_law_start", "_law_more", "_law_every", "_law_number", "_law_at", "_law_few", "_law_bad", "_law_pair", "_law_found", "_law_ring", "_law_told"]) (on := (al gI).names) (by decide +kernel) (Z.me (Z.aa T 14 rfl)) (iq (by decide)) (fun cl C s' H' fp E' T => ⟨(Z.gv T 0 rfl), Z.ff, (Z.aR T.hu (Z.ah.b (Z.aR T.hu (Z.ah.b (Z.aa T 1 rfl)) (Z.ah.b (Z.aa T 0 rfl)) (fun _ _ => rfl))) (Z.ah.b Z.ai) (fun _ _ => rfl))⟩))))) (Z.ah.b Z.ai)))))))))))))))))))))))
end
theorem yj {l : PySem.W.OpenLaw} {w : World} {K : PySem.W.Frag} {h : Heap} {mg : Str -> Option Value} {fa : Addr} (X : K.In h) (G : h.Ns mainGlobals mg) (hfa : mg "law" = some (.ref fa))
    {f20 : Addr} {od20 an20 : Option Addr} {sl20 : Array (Option Value)} {oc20 kV20 dc20 pm20 cd20 ct20 : Value}
    {f0 : Addr} {d0 : FuncData} (q0 : dh K "_law_drawn" gT f0 d0)
    {f1 : Addr} {d1 : FuncData} (q1 : dh K "_law_choice" gi f1 d1)
    {f2 : Addr} {d2 : FuncData} (q2 : dh K "_law_cell_at" fN f2 d2)
    {f3 : Addr} {d3 : FuncData} (q3 : dh K "_law_mixed" ig f3 d3)
    {f4 : Addr} {d4 : FuncData} (q4 : dh K "_law_goals" h9 f4 d4)
    {f5 : Addr} {d5 : FuncData} (q5 : dh K "_law_place" ib f5 d5)
    {f6 : Addr} {d6 : FuncData} (q6 : dh K "_law_ground" eO f6 d6)
    {f7 : Addr} {d7 : FuncData} (q7 : dh K "is_whole" iZ f7 d7)
    {f8 : Addr} {d8 : FuncData} (q8 : dh K "is_between" gy f8 d8)
    {f9 : Addr} {d9 : FuncData} (q9 : dh K "is_number_of_place" cQ f9 d9)
    {f10 : Addr} {d10 : FuncData} (q10 : dh K "is_ring" fU f10 d10)
    {f11 : Addr} {d11 : FuncData} (q11 : dh K "judged" jA f11 d11)
    {f12 : Addr} {d12 : FuncData} (q12 : dh K "_law_judged" gj f12 d12)
    {f13 : Addr} {d13 : FuncData} (q13 : dh K "is_move" km f13 d13)
    {f14 : Addr} {d14 : FuncData} (q14 : dh K "are_moves" fx f14 d14)
    {f15 : Addr} {d15 : FuncData} (q15 : dh K "moves_by_owners" cL f15 d15)
    {f16 : Addr} {d16 : FuncData} (q16 : dh K "ring_of" j6 f16 d16)
    {f17 : Addr} {d17 : FuncData} (q17 : dh K "_law_refused" fM f17 d17)
    {f18 : Addr} {d18 : FuncData} (q18 : dh K "_law_ring_good" eG f18 d18)
    {f19 : Addr} {d19 : FuncData} (q19 : dh K "_law_walk" ja f19 d19)
    (a20 : PySem.W.nsIn K mainGlobals "law" = some (some (.ref f20))) (l20 : K.lookup f20 = some ⟨oc20, od20, .func (PySem.W.fnOf "law" "law" (fE gI) (dj gI) (al gI) .none kV20 dc20 pm20 an20 cd20 ct20), sl20⟩) (c20 : PySem.W.codeIn K cd20 "law" = true) (k20 : PySem.W.keepIn K (.ref f20) = true)
    {t0 : Tok} (qg0 : PySem.W.nsIn K mainGlobals "GOALS" = some (some (.int 3 t0)))
    {t1 : Tok} (qg1 : PySem.W.nsIn K mainGlobals "MARK" = some (some (.int 1 t1)))
    {t2 : Tok} (qg2 : PySem.W.nsIn K mainGlobals "WHO" = some (some (.int 0 t2)))
    (qz0 : PySem.W.nsIn K mainGlobals "all" = some none)
    (qz1 : PySem.W.nsIn K mainGlobals "bool" = some none)
    (qz2 : PySem.W.nsIn K mainGlobals "enumerate" = some none)
    (qz3 : PySem.W.nsIn K mainGlobals "int" = some none)
    (qz4 : PySem.W.nsIn K mainGlobals "isinstance" = some none)
    (qz5 : PySem.W.nsIn K mainGlobals "len" = some none)
    (qz6 : PySem.W.nsIn K mainGlobals "list" = some none)
    (qz7 : PySem.W.nsIn K mainGlobals "max" = some none)
    (qz8 : PySem.W.nsIn K mainGlobals "min" = some none)
    (qz9 : PySem.W.nsIn K mainGlobals "range" = some none)
    (qz10 : PySem.W.nsIn K mainGlobals "sorted" = some none)
    (qz11 : PySem.W.nsIn K mainGlobals "tuple" = some none)
    (qz12 : PySem.W.nsIn K mainGlobals "zip" = some none)
    {cc0 : Addr} (qm0 : PySem.W.nsIn K mainGlobals "GroundError" = some (some (.ref cc0))) (qq0 : PySem.W.excIn K cc0 mf kW = true)
    {cc1 : Addr} (qm1 : PySem.W.nsIn K mainGlobals "NoMoves" = some (some (.ref cc1))) (qq1 : PySem.W.excIn K cc1 mf kW = true)
    {cc2 : Addr} (qm2 : PySem.W.nsIn K mainGlobals "NoPart" = some (some (.ref cc2))) (qq2 : PySem.W.excIn K cc2 mf kW = true)
    (qs0 : (Value.ref cc1 :: dm K cc1).contains (.ref cc1) = true)
    (qs1 : (Value.ref cc2 :: dm K cc2).contains (.ref cc1) = false)
    (qs2 : (Value.ref cc2 :: dm K cc2).contains (.ref cc2) = true)
    (qk0 : PySem.W.kitOne K (.ref cc1) (.ref cc0) = some true)
    (qk1 : PySem.W.kitOne K (.ref cc2) (.ref cc0) = some true)
    (nl : kS K = true) :
    kS K = true /\ ∃ fd : FuncData, (∀ (s : Shared) (v : Value), BindsTo s fd ⟨[v], []⟩ [("_law_script", v)]) /\ ∀ base : Heap, K.In base -> base.Ns mainGlobals mg -> bj l.prog w K mg base (dc l.prog w mg) 7 fa fd ["_law_script"] (dM pE 1) := by
  have e := hfa.symm.trans (PySem.W.mg_of X G a20);cases e;have b0 := q0.fn.binds (ps := ["_law_number", "_law_k"]) fun _ _ _ _ _ _ us hl => match us, hl with | [_, _], _ => rfl
  have m0 := PySem.W.mg_of X G q0.ns;have b1 := q1.fn.binds (ps := ["_law_ground_here", "_law_who", "_law_number", "_law_share"]) fun _ _ _ _ _ _ us hl => match us, hl with | [_, _, _, _], _ => rfl
  have m1 := PySem.W.mg_of X G q1.ns;have b2 := q2.fn.binds (ps := ["_law_script", "_law_k"]) fun _ _ _ _ _ _ us hl => match us, hl with | [_, _], _ => rfl
  have m2 := PySem.W.mg_of X G q2.ns;have b3 := q3.fn.binds (ps := ["_law_script", "_law_k"]) fun _ _ _ _ _ _ us hl => match us, hl with | [_, _], _ => rfl
  have m3 := PySem.W.mg_of X G q3.ns;have b4 := q4.fn.binds (ps := ["_law_number", "_law_count"]) fun _ _ _ _ _ _ us hl => match us, hl with | [_, _], _ => rfl
  have m4 := PySem.W.mg_of X G q4.ns;have b5 := q5.fn.binds (ps := ["_law_number", "_law_count", "_law_high"]) fun _ _ _ _ _ _ us hl => match us, hl with | [_, _, _], _ => rfl
  have m5 := PySem.W.mg_of X G q5.ns;have b6 := q6.fn.binds (ps := ["_law_script", "_law_most"]) fun _ _ _ _ _ _ us hl => match us, hl with | [_, _], _ => rfl
  have m6 := PySem.W.mg_of X G q6.ns;have b7 := q7.fn.binds (ps := ["thing"]) fun _ _ _ _ _ _ us hl => match us, hl with | [_], _ => rfl
  have m7 := PySem.W.mg_of X G q7.ns;have b8 := q8.fn.binds (ps := ["thing", "low", "high"]) fun _ _ _ _ _ _ us hl => match us, hl with | [_, _, _], _ => rfl
  have m8 := PySem.W.mg_of X G q8.ns;have b9 := q9.fn.binds (ps := ["thing", "ground"]) fun _ _ _ _ _ _ us hl => match us, hl with | [_, _], _ => rfl
  have m9 := PySem.W.mg_of X G q9.ns;have b10 := q10.fn.binds (ps := ["thing", "ground"]) fun _ _ _ _ _ _ us hl => match us, hl with | [_, _], _ => rfl
  have m10 := PySem.W.mg_of X G q10.ns;have b11 := q11.fn.binds (ps := ["ground", "ring"]) fun _ _ _ _ _ _ us hl => match us, hl with | [_, _], _ => rfl
  have m11 := PySem.W.mg_of X G q11.ns;have b12 := q12.fn.binds (ps := ["_law_ground_here", "_law_ring"]) fun _ _ _ _ _ _ us hl => match us, hl with | [_, _], _ => rfl
  have m12 := PySem.W.mg_of X G q12.ns;have b13 := q13.fn.binds (ps := ["thing", "place"]) fun _ _ _ _ _ _ us hl => match us, hl with | [_, _], _ => rfl
  have m13 := PySem.W.mg_of X G q13.ns;have b14 := q14.fn.binds (ps := ["thing", "ground"]) fun _ _ _ _ _ _ us hl => match us, hl with | [_, _], _ => rfl
  have m14 := PySem.W.mg_of X G q14.ns;have b15 := q15.fn.binds (ps := ["ground", "zero", "one"]) fun _ _ _ _ _ _ us hl => match us, hl with | [_, _, _], _ => rfl
  have m15 := PySem.W.mg_of X G q15.ns;have b16 := q16.fn.binds (ps := ["ground", "zero", "one", "start"]) fun _ _ _ _ _ _ us hl => match us, hl with | [_, _, _, _], _ => rfl
  have m16 := PySem.W.mg_of X G q16.ns;have b17 := q17.fn.binds (ps := ["_law_ground_here", "_law_zero", "_law_one", "_law_start"]) fun _ _ _ _ _ _ us hl => match us, hl with | [_, _, _, _], _ => rfl
  have m17 := PySem.W.mg_of X G q17.ns;have b18 := q18.fn.binds (ps := ["_law_ground_here", "_law_ring"]) fun _ _ _ _ _ _ us hl => match us, hl with | [_, _], _ => rfl
  have m18 := PySem.W.mg_of X G q18.ns;have b19 := q19.fn.binds (ps := ["_law_ground_here", "_law_moves", "_law_start"]) fun _ _ _ _ _ _ us hl => match us, hl with | [_, _, _], _ => rfl
  have m19 := PySem.W.mg_of X G q19.ns;have F20 := uc (st := gI) l20 c20 k20;have h0 := PySem.W.mg_of X G qg0;have h1 := PySem.W.mg_of X G qg1;have h2 := PySem.W.mg_of X G qg2;have n0 := PySem.W.mg_of X G qm0;have n1 := PySem.W.mg_of X G qm1;have n2 := PySem.W.mg_of X G qm2;have y0 := PySem.W.mg_none_of X G qz0;have y1 := PySem.W.mg_none_of X G qz1;have y2 := PySem.W.mg_none_of X G qz2;have y3 := PySem.W.mg_none_of X G qz3;have y4 := PySem.W.mg_none_of X G qz4;have y5 := PySem.W.mg_none_of X G qz5;have y6 := PySem.W.mg_none_of X G qz6;have y7 := PySem.W.mg_none_of X G qz7;have y8 := PySem.W.mg_none_of X G qz8;have y9 := PySem.W.mg_none_of X G qz9;have y10 := PySem.W.mg_none_of X G qz10;have y11 := PySem.W.mg_none_of X G qz11;have y12 := PySem.W.mg_none_of X G qz12;refine ⟨nl, PySem.W.fnOf "law" "law" (fE gI) (dj gI) (al gI) .none kV20 dc20 pm20 an20 cd20 ct20, fun s v => .of_eq rfl, fun base _ _ => ?_⟩;have Q0 : bj l.prog w K mg base (dc l.prog w mg) 1 f0 _ ["_law_number", "_law_k"] (dM ak 2) := oR (k := 0) (W := q0.fn);have Q1 : bj l.prog w K mg base (dc l.prog w mg) 2 f1 _ ["_law_ground_here", "_law_who", "_law_number", "_law_share"] (dM br 4) := nh (k := 1) (W := q1.fn) (C11 := ⟨Q0.mono (by decide), m0, q0.fn.kp, b0⟩) (b_enumerate := y2) (b_len := y5) (b_tuple := y11);have Q2 : bj l.prog w K mg base (dc l.prog w mg) 1 f2 _ ["_law_script", "_law_k"] (dM bC 2) := mr (k := 0) (W := q2.fn) (b_len := y5);have Q3 : bj l.prog w K mg base (dc l.prog w mg) 2 f3 _ ["_law_script", "_law_k"] (dM aC 2) := pC (k := 1) (W := q3.fn) (C9 := ⟨Q2.mono (by decide), m2, q2.fn.kp, b2⟩);have Q4 : bj l.prog w K mg base (dc l.prog w mg) 2 f4 _ ["_law_number", "_law_count"] (dM bV 2) := o0 (k := 1) (W := q4.fn) (C11 := ⟨Q0.mono (by decide), m0, q0.fn.kp, b0⟩) (b_int := y3) (b_range := y9) (b_sorted := y10) (b_tuple := y11);have Q5 : bj l.prog w K mg base (dc l.prog w mg) 3 f5 _ ["_law_number", "_law_count", "_law_high"] (dM bL 3) := pG (k := 2) (W := q5.fn) (C11 := ⟨Q0.mono (by decide), m0, q0.fn.kp, b0⟩) (C12 := ⟨Q4.mono (by decide), m4, q4.fn.kp, b4⟩);have Q6 : bj l.prog w K mg base (dc l.prog w mg) 4 f6 _ ["_law_script", "_law_most"] (dM bJ 2) := ou (k := 3) (W := q6.fn) (C10 := ⟨Q3.mono (by decide), m3, q3.fn.kp, b3⟩) (C13 := ⟨Q5.mono (by decide), m5, q5.fn.kp, b5⟩) (b_len := y5) (b_max := y7) (b_min := y8) (b_range := y9) (b_tuple := y11);have Q7 : bj l.prog w K mg base (dc l.prog w mg) 1 f7 _ ["thing"] (dM bw 1) := qt (k := 0) (W := q7.fn) (b_bool := y1) (b_int := y3) (b_isinstance := y4);have Q8 : bj l.prog w K mg base (dc l.prog w mg) 2 f8 _ ["thing", "low", "high"] (dM bK 3) := nC (k := 1) (W := q8.fn) (C0 := ⟨Q7.mono (by decide), m7, q7.fn.kp, b7⟩);have Q9 : bj l.prog w K mg base (dc l.prog w mg) 3 f9 _ ["thing", "ground"] (dM ar 2) := ic (k := 2) (W := q9.fn) (C1 := ⟨Q8.mono (by decide), m8, q8.fn.kp, b8⟩) (b_len := y5);have Q10 : bj l.prog w K mg base (dc l.prog w mg) 4 f10 _ ["thing", "ground"] (dM bT 2) := sN (k := 3) (W := q10.fn) (C4 := ⟨Q9.mono (by decide), m9, q9.fn.kp, b9⟩) (g_GOALS := h0) (b_all := y0) (b_isinstance := y4) (b_len := y5) (b_tuple := y11) (b_zip := y12);have Q11 : bj l.prog w K mg base (dc l.prog w mg) 5 f11 _ ["ground", "ring"] (dM ce 2) := tD (k := 4) (W := q11.fn) (C7 := ⟨Q10.mono (by decide), m10, q10.fn.kp, b10⟩) (g_MARK := h1) (b_max := y7) (m_NoPart := n2) (q_NoPart := qq2);have Q12 : bj l.prog w K mg base (dc l.prog w mg) 6 f12 _ ["_law_ground_here", "_law_ring"] (dM aP 2) := nG (k := 5) (W := q12.fn) (C8 := ⟨Q11.mono (by decide), m11, q11.fn.kp, b11⟩) (m_NoPart := n2) (q_NoPart := qq2) (b_NoPart_NoPart := qs2);have Q13 : bj l.prog w K mg base (dc l.prog w mg) 2 f13 _ ["thing", "place"] (dM cB 2) := tm (k := 1) (W := q13.fn) (C0 := ⟨Q7.mono (by decide), m7, q7.fn.kp, b7⟩) (g_GOALS := h0);have Q14 : bj l.prog w K mg base (dc l.prog w mg) 3 f14 _ ["thing", "ground"] (dM bN 2) := oK (k := 2) (W := q14.fn) (C2 := ⟨Q13.mono (by decide), m13, q13.fn.kp, b13⟩) (b_all := y0) (b_isinstance := y4) (b_len := y5) (b_tuple := y11) (b_zip := y12);have Q15 : bj l.prog w K mg base (dc l.prog w mg) 1 f15 _ ["ground", "zero", "one"] (dM aU 3) := jI (k := 0) (W := q15.fn) (g_WHO := h2) (b_enumerate := y2) (b_tuple := y11);have Q16 : bj l.prog w K mg base (dc l.prog w mg) 4 f16 _ ["ground", "zero", "one", "start"] (dM aL 4) := tj (k := 3) (W := q16.fn) (C3 := ⟨Q14.mono (by decide), m14, q14.fn.kp, b14⟩) (C4 := ⟨Q9.mono (by decide), m9, q9.fn.kp, b9⟩) (C5 := ⟨Q15.mono (by decide), m15, q15.fn.kp, b15⟩) (b_tuple := y11) (m_NoMoves := n1) (q_NoMoves := qq1) (m_NoPart := n2) (q_NoPart := qq2);have Q17 : bj l.prog w K mg base (dc l.prog w mg) 5 f17 _ ["_law_ground_here", "_law_zero", "_law_one", "_law_start"] (dM aO 4) := mn (k := 4) (W := q17.fn) (C6 := ⟨Q16.mono (by decide), m16, q16.fn.kp, b16⟩) (b_int := y3) (b_isinstance := y4) (m_GroundError := n0) (q_GroundError := qq0) (m_NoMoves := n1) (q_NoMoves := qq1) (m_NoPart := n2) (q_NoPart := qq2) (b_NoMoves_NoMoves := qs0) (b_NoPart_NoMoves := qs1) (b_NoPart_NoPart := qs2) (k_NoMoves_GroundError := qk0) (k_NoPart_GroundError := qk1);have Q18 : bj l.prog w K mg base (dc l.prog w mg) 1 f18 _ ["_law_ground_here", "_law_ring"] (dM aY 2) := kJ (k := 0) (W := q18.fn) (b_enumerate := y2) (b_len := y5);have Q19 : bj l.prog w K mg base (dc l.prog w mg) 1 f19 _ ["_law_ground_here", "_law_moves", "_law_start"] (dM cq 3) := pV (k := 0) (W := q19.fn) (b_tuple := y11);have Q20 : bj l.prog w K mg base (dc l.prog w mg) 7 fa _ ["_law_script"] (dM pE 1) := zr (k := 6) (W := F20) (C16 := ⟨Q1.mono (by decide), m1, q1.fn.kp, b1⟩) (C11 := ⟨Q0.mono (by decide), m0, q0.fn.kp, b0⟩) (C14 := ⟨Q6.mono (by decide), m6, q6.fn.kp, b6⟩) (C18 := ⟨Q12.mono (by decide), m12, q12.fn.kp, b12⟩) (C10 := ⟨Q3.mono (by decide), m3, q3.fn.kp, b3⟩) (C17 := ⟨Q17.mono (by decide), m17, q17.fn.kp, b17⟩) (C20 := ⟨Q18.mono (by decide), m18, q18.fn.kp, b18⟩) (C19 := ⟨Q19.mono (by decide), m19, q19.fn.kp, b19⟩) (C6 := ⟨Q16.mono (by decide), m16, q16.fn.kp, b16⟩) (b_bool := y1) (b_enumerate := y2) (b_int := y3) (b_isinstance := y4) (b_len := y5) (b_list := y6) (b_max := y7) (b_tuple := y11) (b_zip := y12);exact Q20
end G
open PySem PySem.W PyProof.Rows
set_option maxRecDepth 100000 in
set_option maxHeartbeats 0 in
theorem PySem.Challenge.cw_duelground_k50_rings_holds : PySem.Challenge.rw_duelground_k50_rings.Holds := by
  w_on; o_law; k_head; (case hw => w_witness2)
  k_fill
  refine D2.AA (l := PySem.Challenge.rw_duelground_k50_rings) (k := 7) (x := "_law_script") (F := G.pE) rfl rfl ⟨rfl, by decide, by decide⟩ (fun w h Y => PySem.W.kIn_of Y) G.uW ?F
  case F =>
    intro w mg fa h KX GG hmg;refine' G.yj KX GG hmg ?q0 ?q1 ?q2 ?q3 ?q4 ?q5 ?q6 ?q7 ?q8 ?q9 ?q10 ?q11 ?q12 ?q13 ?q14 ?q15 ?q16 ?q17 ?q18 ?q19 ?a20 ?l20 ?c20 ?k20 ?qg0 ?qg1 ?qg2 ?qz0 ?qz1 ?qz2 ?qz3 ?qz4 ?qz5 ?qz6 ?qz7 ?qz8 ?qz9 ?qz10 ?qz11 ?qz12 ?qm0 ?qq0 ?qm1 ?qq1 ?qm2 ?qq2 ?qs0 ?qs1 ?qs2 ?qk0 ?qk1 ?nl
    (case q0 => refine' D2.bt ?a ?l ?c ?k; (case a => k_is); (case l => k_is); (case c => k_is); (case k => k_is))
    (case q1 => refine' D2.bt ?a ?l ?c ?k; (case a => k_is); (case l => k_is); (case c => k_is); (case k => k_is))
    (case q2 => refine' D2.bt ?a ?l ?c ?k; (case a => k_is); (case l => k_is); (case c => k_is); (case k => k_is))
    (case q3 => refine' D2.bt ?a ?l ?c ?k; (case a => k_is); (case l => k_is); (case c => k_is); (case k => k_is))
    (case q4 => refine' D2.bt ?a ?l ?c ?k; (case a => k_is); (case l => k_is); (case c => k_is); (case k => k_is))
    (case q5 => refine' D2.bt ?a ?l ?c ?k; (case a => k_is); (case l => k_is); (case c => k_is); (case k => k_is))
    (case q6 => refine' D2.bt ?a ?l ?c ?k; (case a => k_is); (case l => k_is); (case c => k_is); (case k => k_is))
    (case q7 => refine' D2.bt ?a ?l ?c ?k; (case a => k_is); (case l => k_is); (case c => k_is); (case k => k_is))
    (case q8 => refine' D2.bt ?a ?l ?c ?k; (case a => k_is); (case l => k_is); (case c => k_is); (case k => k_is))
    (case q9 => refine' D2.bt ?a ?l ?c ?k; (case a => k_is); (case l => k_is); (case c => k_is); (case k => k_is))
    (case q10 => refine' D2.bt ?a ?l ?c ?k; (case a => k_is); (case l => k_is); (case c => k_is); (case k => k_is))
    (case q11 => refine' D2.bt ?a ?l ?c ?k; (case a => k_is); (case l => k_is); (case c => k_is); (case k => k_is))
    (case q12 => refine' D2.bt ?a ?l ?c ?k; (case a => k_is); (case l => k_is); (case c => k_is); (case k => k_is))
    (case q13 => refine' D2.bt ?a ?l ?c ?k; (case a => k_is); (case l => k_is); (case c => k_is); (case k => k_is))
    (case q14 => refine' D2.bt ?a ?l ?c ?k; (case a => k_is); (case l => k_is); (case c => k_is); (case k => k_is))
    (case q15 => refine' D2.bt ?a ?l ?c ?k; (case a => k_is); (case l => k_is); (case c => k_is); (case k => k_is))
    (case q16 => refine' D2.bt ?a ?l ?c ?k; (case a => k_is); (case l => k_is); (case c => k_is); (case k => k_is))
    (case q17 => refine' D2.bt ?a ?l ?c ?k; (case a => k_is); (case l => k_is); (case c => k_is); (case k => k_is))
    (case q18 => refine' D2.bt ?a ?l ?c ?k; (case a => k_is); (case l => k_is); (case c => k_is); (case k => k_is))
    (case q19 => refine' D2.bt ?a ?l ?c ?k; (case a => k_is); (case l => k_is); (case c => k_is); (case k => k_is))
    (case a20 => k_is)
    (case l20 => k_is)
    (case c20 => k_is)
    (case k20 => k_is)
    (case qg0 => k_is)
    (case qg1 => k_is)
    (case qg2 => k_is)
    (case qz0 => k_is)
    (case qz1 => k_is)
    (case qz2 => k_is)
    (case qz3 => k_is)
    (case qz4 => k_is)
    (case qz5 => k_is)
    (case qz6 => k_is)
    (case qz7 => k_is)
    (case qz8 => k_is)
    (case qz9 => k_is)
    (case qz10 => k_is)
    (case qz11 => k_is)
    (case qz12 => k_is)
    (case qm0 => k_is)
    (case qq0 => k_exc)
    (case qm1 => k_is)
    (case qq1 => k_exc)
    (case qm2 => k_is)
    (case qq2 => k_exc)
    (case qs0 => first | rfl | k_is | decide)
    (case qs1 => first | rfl | k_is | decide)
    (case qs2 => first | rfl | k_is | decide)
    (case qk0 => first | rfl | k_is | decide)
    (case qk1 => first | rfl | k_is | decide)
    (case nl => first | rfl | k_is | decide)

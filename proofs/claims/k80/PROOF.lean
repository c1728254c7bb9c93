import PyProof.Rows.All
import Wide.All
import OpenK.AllK
import Wide.FinOn
import Lean
import PyProof.EqAt
import PyProof.EqKinds
import PyProof.TupleCall
import PySem.Challenge.RW_duelground_k80_likeness
set_option Elab.async false
set_option linter.all false
set_option maxRecDepth 100000
set_option bootstrap.genMatcherCode false
set_option genSizeOf false
set_option genInjectivity false
set_option compiler.extract_closed false
set_option genSizeOfSpec false
local macro_rules | `(tactic| omega) => `(tactic| first | lia | omega +splitDisjunctions)
namespace L2
open PySem PySem.Spec PyProof.Rows
noncomputable abbrev bp:=Sum Int Str
noncomputable def lY:bp->Value->Bool
  | .inl k,v=>Value.isInt k v
  | .inr x,v=>Value.isStrOf x v
noncomputable def FC (w:World):bp->Int
  | .inl k=>hashInt k
  | .inr x=>hashStr w x
theorem cg:∀ {k:bp} {v:Value},lY k v=true->(∃ i t,k=Sum.inl i/\v=Value.int i t)\/(∃ x t,k=Sum.inr x/\v=Value.str x t)
  | .inl i,v,h=>by
    obtain ⟨t,e⟩:=Value.isInt_shape (k:=i) (v:=v) h;exact .inl ⟨i,t,rfl,e⟩
  | .inr x,v,h=>by
    obtain ⟨t,e⟩:=Value.isStrOf_shape (x:=x) (v:=v) h;exact .inr ⟨x,t,rfl,e⟩
theorem vc (i:Int) (t:Tok):lY (.inl i) (.int i t)=true:=by simp [lY,Value.isInt]
theorem vd (x:Str) (t:Tok):lY (.inr x) (.str x t)=true:=by simp [lY,Value.isStrOf]
theorem Bv (a b:Int):decide ((Sum.inl a:bp)=Sum.inl b)=(a==b):=by
  by_cases e:a=b
  · subst e;simp
  · have h:¬ (Sum.inl a:bp)=Sum.inl b:=fun q=>e (Sum.inl.inj q)
    rw [decide_eq_false h];exact (beq_eq_false_iff_ne.mpr e).symm
theorem By (a b:Str):decide ((Sum.inr a:bp)=Sum.inr b)=decide (a=b):=by
  by_cases e:a=b
  · subst e;simp
  · have h:¬ (Sum.inr a:bp)=Sum.inr b:=fun q=>e (Sum.inr.inj q)
    rw [decide_eq_false h,decide_eq_false e]
theorem Bw (a:Int) (b:Str):decide ((Sum.inl a:bp)=Sum.inr b)=false:=decide_eq_false (fun q=>nomatch q)
theorem Bx (a:Str) (b:Int):decide ((Sum.inr a:bp)=Sum.inl b)=false:=decide_eq_false (fun q=>nomatch q)
noncomputable def cx (prog:Program) (w:World):PySem.KeyKind prog w bp where
  is:=lY
  hash:=FC w
  inj:=fun v a b ha hb=>by
    rcases cg ha with ⟨i,t,rfl,rfl⟩ | ⟨x,t,rfl,rfl⟩
    · rcases cg hb with ⟨j,u,rfl,e⟩ | ⟨y,u,rfl,e⟩
      · injection e with e1 _;rw [e1]
      · exact nomatch e
    · rcases cg hb with ⟨j,u,rfl,e⟩ | ⟨y,u,rfl,e⟩
      · exact nomatch e
      · injection e with e1 _;rw [e1]
  byValue:=fun k v h=>by
    rcases cg h with ⟨i,t,rfl,rfl⟩ | ⟨x,t,rfl,rfl⟩ <;> rfl
  pyHash:=fun hv h=>by
    rcases cg hv with ⟨i,t,rfl,rfl⟩ | ⟨x,t,rfl,rfl⟩
    · exact wpAny_pyHash_int h
    · exact wpAny_pyHash_str h
  eqBool:=fun hu hv h=>by
    rcases cg hu with ⟨i,t,rfl,rfl⟩ | ⟨x,t,rfl,rfl⟩
    · rcases cg hv with ⟨j,u,rfl,rfl⟩ | ⟨y,u,rfl,rfl⟩
      · rw [Bv] at h;exact wpAny_eqBool_int h
      · rw [Bw] at h;exact SeqAt.EqAt.int_str i t y u _ _ _ _ h
    · rcases cg hv with ⟨j,u,rfl,rfl⟩ | ⟨y,u,rfl,rfl⟩
      · rw [Bx] at h;exact SeqAt.EqAt.str_int x t j u _ _ _ _ h
      · rw [By] at h;exact wpAny_eqBool_str h
  «strs»:=fun k x t v h=>by
    rcases cg h with ⟨i,u,rfl,e⟩ | ⟨y,u,rfl,e⟩
    · exact nomatch e
    · injection e with e1 _
      subst e1;cases v <;> rfl
theorem qM (prog:Program) (w:World) (i:Int) (t:Tok):(cx prog w).is (.inl i) (.int i t)=true:=vc i t
theorem qN (prog:Program) (w:World) (x:Str) (t:Tok):(cx prog w).is (.inr x) (.str x t)=true:=vd x t
inductive V where
  | non | bl (b:Bool) | int (i:Int) | str (x:Str) | byt (b:Array UInt8) | flt (b:UInt64) | ref (a:Addr) | ty (n:String)
  deriving DecidableEq
noncomputable def bH:V->Value->Prop
  | .non,u=>u=Value.none
  | .bl b,u=>u=Value.bool b
  | .int i,u=>∃ t,u=Value.int i t
  | .str x,u=>∃ t,u=Value.str x t
  | .byt b,u=>∃ t,u=Value.bytes b t
  | .flt b,u=>∃ t,u=Value.float b t
  | .ref a,u=>u=Value.ref a
  | .ty n,u=>u=Value.type n
noncomputable abbrev ba:List V->List Value->Prop:=Paired bH
theorem ba.length {xs:List V} {us:List Value} (r:ba xs us):xs.length=us.length:=Paired.length r
theorem ba.get:∀ {xs:List V} {us:List Value} {i:Nat} {x:V},ba xs us->xs[i]?=some x->∃ u,us[i]?=some u/\bH x u
  | _,_,_,_,.nil,e=>by simp at e
  | _,_,0,_,.cons r _,e=>by simp at e;subst e;exact ⟨_,rfl,r⟩
  | _,_,i+1,x,.cons _ t,e=>by
    obtain ⟨u,h1,h2⟩:=ba.get (i:=i) (x:=x) t (by simpa using e);exact ⟨u,by simpa using h1,h2⟩
theorem ba.set {x:V} {u:Value} (r:bH x u):∀ {xs:List V} {us:List Value} (i:Nat),ba xs us->ba (xs.set i x) (us.set i u)
  | _,_,_,.nil=>.nil
  | _,_,0,.cons _ t=>.cons r t
  | _,_,i+1,.cons q t=>.cons q (ba.set r i t)
theorem ba.append {xs ys:List V} {us ws:List Value} (h:ba xs us) (s:ba ys ws):ba (xs++ys) (us++ws):=by
  induction h with
  | nil=>exact s
  | cons r t ih=>exact .cons r ih
theorem ba.take:∀ {xs:List V} {us:List Value} (n:Nat),ba xs us->ba (xs.take n) (us.take n)
  | _,_,0,_=>.nil
  | _,_,_+1,.nil=>.nil
  | _,_,n+1,.cons r t=>.cons r (ba.take n t)
theorem ba.drop:∀ {xs:List V} {us:List Value} (n:Nat),ba xs us->ba (xs.drop n) (us.drop n)
  | _,_,0,r=>r
  | _,_,_+1,.nil=>.nil
  | _,_,n+1,.cons _ t=>ba.drop n t
noncomputable def lq:Option V->Option Value->Prop
  | some v,some u=>bH v u
  | none,none=>True
  | _,_=>False
noncomputable def KV {κ:Type}:List (κ×V)->List (κ×Value)->Prop:=Paired fun (p:κ×V) (q:κ×Value)=>p.1=q.1/\bH p.2 q.2
noncomputable def kV:bp->V
  | .inl i=>.int i
  | .inr x=>.str x
inductive HO where
  /-- a list -/
  | lst (xs:List V)
  /-- a tuple (never changes) -/
  | tup (xs:List V)
  /-- a dict whose keys are ints and texts;one whose keys are tuples of ints and texts (the empty one is both) -/
  | dK (kvs:List (bp×V)) | dT (kvs:List (List bp×V))
  /-- a set of ints: its members,its size -/
  | set (S:Int->Bool) (n:Nat)
  /-- an instance of the class at C,its dict at dx,its attributes -/
  | ins (C dx:Addr) (fs:List (Str×V))
  /-- the dict of the instance at x -/
  | own (x:Addr)
  /-- the dict of an exception -/
  | xd (fs:List (Str×V))
  /-- a bound method,f of x -/
  | met (f x:Addr)
  /-- a range object lo,lo+1,.. below hi -/
  | rng (lo hi:Int)
  /-- a thing that is known to the object (the script;a dict while a loop walks it): read,never written while it is so -/
  | frz (o:Obj) (u:HO)
  /-- a code object's table -/
  | tbl (ps:Array Value)
  /-- any other thing,by what is true of its one object (a def of one's own: SetO a S n:=HO.ext fun h=>..) -/
  | ext (φ:Heap->Prop)
noncomputable abbrev Hp:=Addr->Option HO
noncomputable def cI (H:Hp) (a:Addr) (o:HO):Hp:=fun b=>if b=a then some o else H b
theorem bw {H:Hp} {a:Addr} {o:HO}:cI H a o a=some o:=by unfold cI;rw [if_pos rfl]
theorem aA {H:Hp} {a b:Addr} {o:HO} (h:b≠a):cI H a o b=H b:=by unfold cI;rw [if_neg h]
theorem Dx {H:Hp} {a b:Addr} {o u:HO} (h:H a=some o) (h':H b=some u) (d:o≠u):a≠b:=by
  intro e;subst e;rw [h] at h';exact d (Option.some.inj h')
theorem aT {H:Hp} {a b:Addr} {o:HO} (h:H a=some o) (h':H b=none):a≠b:=by
  intro e;subst e;rw [h] at h';cases h'
noncomputable def fy (h:Heap) (a:Addr) (items:Array Value):Prop:=∃ o,h.get? a=some o/\o.cls=.type "tuple" /\ (∃ n,o.data=.seq items n)/\o.dict=none
theorem fy.is {h:Heap} {a:Addr} {items:Array Value} (x:fy h a items):IsTup h a items:=by
  obtain ⟨o,e,c,n,_⟩:=x;exact ⟨o,e,c,n⟩
theorem fy.lt {h:Heap} {a:Addr} {items:Array Value} (x:fy h a items):a < h.objs.size:=by
  obtain ⟨o,e,_⟩:=x;exact Heap.lt_size e
theorem fy.new (h:Heap) (items:Array Value):fy (h.push { cls:=.type "tuple",data:=.seq items }) h.objs.size items:=⟨_,Heap.get?_push_size _ rfl,rfl,⟨_,rfl⟩,rfl⟩
section
variable (P:Program) (w:World)
noncomputable def bG (H:Hp) (h:Heap) (a:Addr):HO->Prop
  | .lst xs=>xs.length<=sizeLine/\∃ (its:List Value) (n:Nat),ba xs its/\h.get? a=some { cls:=.type "list",data:=.seq its.toArray n }
  | .tup xs=>xs.length<=sizeLine/\∃ its:List Value,ba xs its/\fy h a its.toArray
  | .dK kvs=>kvs.length<=sizeLine/\(a==sysModules)=false/\∃ vs,KV kvs vs/\h.DictOf (cx P w) a vs
  | .dT kvs=>kvs.length<=sizeLine/\(a==sysModules)=false/\∃ xs:List (List bp×Addr×Value),
      Paired (fun (p:List bp×V) (q:List bp×Addr×Value)=>p.1=q.1/\H q.2.1=some (.tup (p.1.map kV))/\bH p.2 q.2.2) kvs xs /\
      ∃ o es ep,h.get? a=some o/\o.ExactDict/\o.data=.dict es ep/\es.toList=xs.map (entryOfKey (tupleKind (cx P w)))/\(xs.map (·.1)).Nodup
  | .set S n=>h.SetOf (intKind P w) a S n
  | .ins C dx fs=>H dx=some (.own a)/\fs.length<=1000/\dx≠a/\h.get? a=some (PySem.W.instObj C dx) /\
      ∃ mA,h.Ns1 dx mA/\(∀ f,lq (fs.lookup f) (mA f))/\PySem.Within mA (fs.map (·.1))
  | .own _=>∃ o,h.get? a=some o
  | .xd fs=>∃ mA,h.Ns1 a mA/\∀ f,lq (fs.lookup f) (mA f)
  | .rng lo hi=>∃ t u v,h.get? a=some { cls:=.type "range",data:=.fields #[.int lo t,.int hi u,.int 1 v] }
  | .frz o u=>h.get? a=some o/\bG H h a u
  | .tbl ps=>h.get? a=some { cls:=.none,data:=.fields ps }
  | .met f x=>h.get? a=some (PySem.W.methodObj (.ref f) (.ref x))
  | .ext φ=>φ h/\(∃ o,h.get? a=some o)/\∀ h1 h2:Heap,φ h1->(∀ o,h1.get? a=some o->h2.get? a=some o)->φ h2
noncomputable def gg (H:Hp) (h:Heap):Prop:=∀ a o,H a=some o->bG P w H h a o
end
section
variable {P:Program} {w:World} {H H':Hp} {h h':Heap} {a:Addr} {o:HO}
theorem bG.lt (x:bG P w H h a o):a < h.objs.size:=by
  cases o with
  | lst xs=>obtain ⟨_,_,_,_,e⟩:=x;exact Heap.lt_size e
  | tup xs=>obtain ⟨_,_,_,p⟩:=x;exact p.lt
  | dK kvs=>obtain ⟨_,_,_,_,o,_,_,e,_⟩:=x;exact Heap.lt_size e
  | dT kvs=>obtain ⟨_,_,_,_,o,_,_,e,_⟩:=x;exact Heap.lt_size e
  | set S n=>obtain ⟨o,_,_,_,e,_⟩:=x;exact Heap.lt_size e
  | ins C dx fs=>obtain ⟨_,_,_,e,_⟩:=x;exact Heap.lt_size e
  | own y=>obtain ⟨_,e⟩:=x;exact Heap.lt_size e
  | xd fs=>obtain ⟨_,⟨_,_,_,e,_⟩,_⟩:=x;exact Heap.lt_size e
  | rng lo hi=>obtain ⟨_,_,_,e⟩:=x;exact Heap.lt_size e
  | frz ob u=>obtain ⟨e,_⟩:=x;exact Heap.lt_size e
  | tbl ps=>exact Heap.lt_size (show h.get? a=some _ from x)
  | met f y=>exact Heap.lt_size (show h.get? a=some _ from x)
  | ext φ=>obtain ⟨_,⟨_,e⟩,_⟩:=x;exact Heap.lt_size e
theorem Paired.mapP {α β:Type} {F G:α->β->Prop} {l₁:List α} {l₂:List β} (h:Paired F l₁ l₂) (f:∀ a b,F a b->G a b):Paired G l₁ l₂:=by
  induction h with
  | nil=>exact .nil
  | cons r t ih=>exact .cons (f _ _ r) ih
theorem bG.stay (x:bG P w H h a o) (k:∀ b u,(b=a\/H b=some (.own a))->h.get? b=some u->h'.get? b=some u)
    (ho:∀ b,H b=some (.own a)->H' b=some (.own a)) (ht:∀ b xs,H b=some (.tup xs)->H' b=some (.tup xs)):bG P w H' h' a o:=by
  induction o with
  | lst xs=>obtain ⟨z,its,n,r,e⟩:=x;exact ⟨z,its,n,r,k _ _ (.inl rfl) e⟩
  | tup xs=>obtain ⟨z,its,r,ob,e,c⟩:=x;exact ⟨z,its,r,ob,k _ _ (.inl rfl) e,c⟩
  | dK kvs=>obtain ⟨z,y,vs,r,ob,es,ep,e,c⟩:=x;exact ⟨z,y,vs,r,ob,es,ep,k _ _ (.inl rfl) e,c⟩
  | dT kvs =>
    obtain ⟨z,y,xs,r,ob,es,ep,e,c⟩:=x;exact ⟨z,y,xs,Paired.mapP r fun p q z=>⟨z.1,ht _ _ z.2.1,z.2.2⟩,ob,es,ep,k _ _ (.inl rfl) e,c⟩
  | set S n=>obtain ⟨ob,es,ep,t,e,c⟩:=x;exact ⟨ob,es,ep,t,k _ _ (.inl rfl) e,c⟩
  | ins C dx fs =>
    obtain ⟨d,z,ne,e,mA,⟨od,es,ep,e2,c⟩,r⟩:=x;exact ⟨ho _ d,z,ne,k _ _ (.inl rfl) e,mA,⟨od,es,ep,k _ _ (.inr d) e2,c⟩,r⟩
  | own y=>obtain ⟨ob,e⟩:=x;exact ⟨ob,k _ _ (.inl rfl) e⟩
  | xd fs=>obtain ⟨mA,⟨od,es,ep,e,c⟩,r⟩:=x;exact ⟨mA,⟨od,es,ep,k _ _ (.inl rfl) e,c⟩,r⟩
  | rng lo hi=>obtain ⟨t,u,v,e⟩:=x;exact ⟨t,u,v,k _ _ (.inl rfl) e⟩
  | frz ob u ih=>obtain ⟨e,q⟩:=x;exact ⟨k _ _ (.inl rfl) e,ih q⟩
  | tbl ps =>
    have e:h.get? a=some { cls:=.none,data:=.fields ps }:=x;show h'.get? a=some { cls:=.none,data:=.fields ps };exact k a _ (.inl rfl) e
  | met f y =>
    have e:h.get? a=some (PySem.W.methodObj (.ref f) (.ref y)):=x;show h'.get? a=some (PySem.W.methodObj (.ref f) (.ref y));exact k a _ (.inl rfl) e
  | ext φ=>obtain ⟨p,⟨o,e⟩,st⟩:=x;exact ⟨st _ _ p fun o q=>k _ _ (.inl rfl) q,⟨o,k _ _ (.inl rfl) e⟩,st⟩
theorem gg.lt (x:gg P w H h) (e:H a=some o):a < h.objs.size:=(x a o e).lt
theorem gg.fresh (x:gg P w H h) (e:h.objs.size<=a):H a=none:=by
  cases q:H a with
  | none=>rfl
  | some u=>exact absurd (Nat.lt_of_lt_of_le (x.lt q) e) (Nat.lt_irrefl _)
theorem gg.kept (x:gg P w H h) (k:∀ b u,h.get? b=some u->h'.get? b=some u):gg P w H h':=fun a o e =>
  (x a o e).stay (fun b u _ q=>k b u q) (fun _ q=>q) fun _ _ q=>q
theorem gg.laid (x:gg P w H h) (k:∀ b u,h.get? b=some u->h'.get? b=some u) (hp:h.objs.size<=a) (new:bG P w (cI H a o) h' a o):gg P w (cI H a o) h':=fun b u e=>by
  have hn:=x.fresh hp;by_cases hb:b=a
  · subst hb;rw [bw] at e;cases e;exact new
  · rw [aA hb] at e;exact (x b u e).stay (fun c v _ q=>k c v q) (fun c q=>by rw [aA (aT q hn)];exact q) fun c xs q=>by rw [aA (aT q hn)];exact q
end
noncomputable def Rd (H:Hp) (a:Addr) (u:HO):Prop:=H a=some u\/∃ o,H a=some (.frz o u)
theorem Rd.ok {P:Program} {w:World} {H:Hp} {h:Heap} {a:Addr} {u:HO} (r:Rd H a u) (x:gg P w H h):bG P w H h a u:=by
  rcases r with r | ⟨o,r⟩
  · exact x a u r
  · obtain ⟨_,q⟩:=x a _ r;exact q
noncomputable def CG:Option HO->Prop
  | some (.lst _)=>True
  | some (.dK _)=>True
  | some (.dT _)=>True
  | some (.set _ _)=>True
  | some (.ins _ _ _)=>True
  | some (.ext _)=>True
  | _=>False
section
variable {P:Program} {w:World} {H:Hp} {h h':Heap} {x e:Addr} {o':HO}
theorem gg.write (ok:gg P w H h) (mu:CG (H x)) (he:e=x\/H e=some (.own x)) (k:∀ b u,b≠e->h.get? b=some u->h'.get? b=some u) (heo:∃ u,h'.get? e=some u)
    (new:bG P w (cI H x o') h' x o'):gg P w (cI H x o') h':=fun b u q=>by
  have nown:∀ c y,H c=some (.own y)->c≠x:=fun c y r z=>by subst z;rw [r] at mu;exact mu
  have ntup:∀ c xs,H c=some (.tup xs)->c≠x:=fun c xs r z=>by subst z;rw [r] at mu;exact mu
  by_cases hb:b=x
  · subst hb;rw [bw] at q;cases q;exact new
  · rw [aA hb] at q;by_cases hbe:b=e
    · have q':H b=some (.own x):=by
        rcases he with z | z
        · exact absurd (hbe.trans z) hb
        · rw [hbe];exact z
      rw [q] at q';cases q';obtain ⟨v,hv⟩:=heo;exact ⟨v,by rw [hbe];exact hv⟩
    · refine (ok b u q).stay (fun c v hc r=>k c v ?_ r) (fun c r=>by rw [aA (nown c b r)];exact r) fun c xs r=>by rw [aA (ntup c xs r)];exact r
      rcases hc with rfl | hc
      · exact hbe
      · rintro rfl;rcases he with z | z
        · exact nown c b hc z
        · rw [hc] at z;cases z;exact hb rfl
end
structure Un (fs ex:List Addr) (H H':Hp) (h h':Heap):Prop where
  keep:∀ b o,h.get? b=some o->H b=none->b∉fs->b∉ex->h'.get? b=some o
  slot:∀ b o,h.get? b=some o->H b=none->b∈fs->b∉ex->∃ sl,h'.get? b=some { o with slots:=sl }
  free:∀ b o,h.get? b=some o->H b=none->b∉ex->H' b=none
  there:∀ b o,h.get? b=some o->b∉ex->∃ o',h'.get? b=some o'
  tups:∀ b xs,H b=some (.tup xs)->H' b=some (.tup xs)
  frzs:∀ b o u,H b=some (.frz o u)->H' b=some (.frz o u)
  tbls:∀ b ps,H b=some (.tbl ps)->∃ more,H' b=some (.tbl (ps++more))
section
variable {fs fs' ex ex':List Addr} {H H1 H2:Hp} {h h1 h2 h':Heap} {a x e:Addr} {o:HO}
theorem Un.any (u:Un fs ex H H1 h h1) {b:Addr} {ob:Obj} (q:h.get? b=some ob) (n:H b=none) (hx:b∉ex):∃ sl,h1.get? b=some { ob with slots:=sl }:=by
  by_cases hb:b∈fs
  · exact u.slot b ob q n hb hx
  · exact ⟨ob.slots,u.keep b ob q n hb hx⟩
theorem Un.kept (k:∀ b u,h.get? b=some u->h'.get? b=some u):Un fs ex H H h h' :=
  ⟨fun b ob q _ _ _=>k b ob q,fun b ob q _ _ _=>⟨ob.slots,k b ob q⟩,fun _ _ _ n _=>n,fun b ob q _=>⟨ob,k b ob q⟩,fun _ _ q=>q,fun _ _ _ q=>q,fun _ ps q=>⟨#[],by rw [q];simp⟩⟩
theorem Un.refl:Un fs ex H H h h:=Un.kept fun _ _ q=>q
theorem Un.laid (k:∀ b u,h.get? b=some u->h'.get? b=some u) (hp:h.objs.size<=a) (hn:H a=none):Un fs ex H (cI H a o) h h' where
  keep:=fun b u q _ _ _=>k b u q
  slot:=fun b u q _ _ _=>⟨u.slots,k b u q⟩
  free:=fun b u q n _=>by rw [aA (Nat.ne_of_lt (Nat.lt_of_lt_of_le (Heap.lt_size q) hp))];exact n
  there:=fun b u q _=>⟨u,k b u q⟩
  tups:=fun b xs q=>by rw [aA (aT q hn)];exact q
  frzs:=fun b u xs q=>by rw [aA (aT q hn)];exact q
  tbls:=fun b ps q=>⟨#[],by rw [aA (aT q hn),q];simp⟩
theorem Un.write (mu:CG (H x)) (he:e=x\/H e=some (.own x)) (k:∀ b u,b≠e->h.get? b=some u->h'.get? b=some u) (heo:∃ u,h'.get? e=some u):Un fs ex H (cI H x o) h h':=by
  have hx:∀ b,H b=none->b≠x:=fun b n z=>by subst z;rw [n] at mu;exact mu
  have hb:∀ b,H b=none->b≠e:=fun b n z=>by
    subst z;rcases he with r | r
    · exact hx b n r
    · rw [n] at r;cases r
  have hm:∀ b u,H b=some u->¬ CG (some u)->b≠x:=fun b u q nm z=>by subst z;rw [q] at mu;exact nm mu
  refine ⟨fun b u q n _ _=>k b u (hb b n) q,fun b u q n _ _=>⟨u.slots,k b u (hb b n) q⟩,fun b u q n _=>by rw [aA (hx b n)];exact n,fun b u q _=>?_,
    fun b xs q=>by rw [aA (hm b _ q fun z=>z)];exact q,fun b u xs q=>by rw [aA (hm b _ q fun z=>z)];exact q,fun b ps q=>⟨#[],by rw [aA (hm b _ q fun z=>z),q];simp⟩⟩
  by_cases hbe:b=e
  · subst hbe;exact heo
  · exact ⟨u,k b u hbe q⟩
end
noncomputable def EV (h:Heap) (H:Hp):List Addr:=(List.range h.objs.size).filter fun a=>(H a).isSome
noncomputable def oY (h:Heap) (H:Hp):Heap:=PySem.W.hideAll h (EV h H)
theorem u3 (h:Heap) (H:Hp):(oY h H).objs.size=h.objs.size:=PySem.W.hideAll_size _ _
theorem wN {h:Heap} {H:Hp} {b:Addr} {o:Obj} (e:h.get? b=some o) (n:H b=none):(oY h H).get? b=some o :=
  PySem.W.hideAll_get _ e fun hm=>by
    have q:(H b).isSome=true:=(List.mem_filter.mp hm).2;rw [n] at q;simp at q
theorem zx {h:Heap} {H:Hp} {b:Addr} {o:Obj} (e:(oY h H).get? b=some o):h.get? b=some o/\H b=none:=by
  have e':h.get? b=some o:=PySem.W.of_hideAll (EV h H) e;refine ⟨e',?_⟩;cases q:H b with
  | none=>rfl
  | some x =>
    have hm:b∈EV h H:=List.mem_filter.mpr ⟨List.mem_range.mpr (Heap.lt_size e'),by simp [q]⟩;have z:(oY h H).get? b=none:=PySem.W.hideAll_none (EV h H) hm;rw [z] at e;cases e
noncomputable def yL (g h:Heap) (L:Addr):List (Addr×Obj):=(List.range h.objs.size).filterMap fun a=>if a=L\/(g.get? a).isSome=true then none else (h.get? a).map fun o=>(a,o)
noncomputable def eK (g h:Heap) (L d:Addr):List (Addr×Obj):=(yL g h L).filter fun p=>decide (p.1≠d)
structure Mod (K:PySem.W.Frag) (mg:Str->Option Value) (base:Heap):Prop where
  kin:K.In base
  glob:base.Ns mainGlobals mg
  blt:∃ mb,base.Ns builtinsNs mb/\∀ x:Str,x ≠ "__name__" -> mb x=bootBuiltins x
  nolimit:base.NoLimit
structure Cx where
  prog:Program
  w:World
  K:PySem.W.Frag
  mg:Str->Option Value
  base:Heap
  A:Around
  N:List Str
  s₀:Shared
  H₀:Hp
  env:Env
  outer:List Env
  stack:List Env
  ex:List Addr
  fn:Str->Bool
  calm:Bool
  pn:List (Addr×Obj)
  xe:Value->Shared->Prop
noncomputable def jX (l:List Env):List Addr:=l.filterMap (·.frame)
noncomputable abbrev Cx.fs (X:Cx):List Addr:=jX X.outer
noncomputable def A7 (sc:Scope) (x:Str):Prop:=sc.names.lookup x=some .local\/sc.names.lookup x=some .cell\/sc.names.lookup x=some .free
noncomputable def A0 (sc:Scope) (x:Str):Prop:=sc.names.lookup x=some .local\/sc.names.lookup x=some .cell
noncomputable def E2 (env:Env) (h:Heap) (m:Str->Option Value) (x:Str) (u:Value):Prop :=
  (env.kindOf x=some .local/\m x=some u)\/((env.kindOf x=some .cell\/env.kindOf x=some .free)/\∃ c,env.cells.lookup x=some c/\h.IsCell c (some u))
structure Cx.Ok (X:Cx):Prop where
  mod:Mod X.K X.mg X.base
  kind:X.env.scope.kind=.function
  glob:X.env.globals=mainGlobals
  blt:X.env.builtins=builtinsNs
  above:X.s₀.heap.objs.size<=X.env.locals
  inj:∀ x y c,X.env.cells.lookup x=some c->X.env.cells.lookup y=some c->x=y
  has:∀ x,(X.env.kindOf x=some .cell\/X.env.kindOf x=some .free)->∃ c,X.env.cells.lookup x=some c
  cab:∀ x c,X.fn x=true->X.env.cells.lookup x=some c->X.s₀.heap.objs.size<=c
  hd:X.calm=true->X.A.handled=none
  frames:X.A.frames=some X.stack
  stk:X.stack=X.outer\/(X.stack=X.env::X.outer/\X.env.frame=some X.env.locals)
  exf:∀ b∈X.ex,b≠X.env.locals/\∀ x c,X.env.cells.lookup x=some c->c≠b
  bs:∀ b o,X.base.get? b=some o->X.s₀.heap.get? b=some o/\X.H₀ b=none
  bsz:X.base.objs.size<=X.s₀.heap.objs.size
  noex:∀ b o,X.base.get? b=some o->b∉X.ex
  exfs:∀ b∈X.ex,b∉X.fs
  funs:X.s₀.heap.FunFrames X.base X.outer
  frf:∀ b∈X.fs,X.H₀ b=none
structure aC (X:Cx) (pins:List (Addr×Obj)) (σ:List (Option V)) (H:Hp) (s:Shared):Prop where
  ok:X.Ok
  os:s.os=X.s₀.os
  bare:AllBare s.gens
  base:Un X.fs X.ex X.H₀ H X.s₀.heap s.heap
  loc:∃ m,s.heap.Ns X.env.locals m/\∀ (i:Nat) (x:Str) (v:V),X.N[i]?=some x->σ[i]?=some (some v)->A7 X.env.scope x->∃ u,bH v u/\E2 X.env s.heap m x u
  cell:∀ x c,X.env.cells.lookup x=some c->∃ v,s.heap.IsCell c v
  free:H X.env.locals=none
  freeC:∀ x c,X.env.cells.lookup x=some c->H c=none
  pin:∀ p∈X.pn++pins,s.heap.get? p.1=some p.2/\H p.1=none/\p.1≠X.env.locals/\p.1∉X.fs/\∀ v,p.2.data≠.cell v
  hok:gg X.prog X.w H s.heap
  len:σ.length=X.N.length
section
variable {X:Cx} {pins:List (Addr×Obj)} {σ:List (Option V)} {H H':Hp} {s:Shared} {h':Heap}
theorem Cx.Ok.nofr (ok:X.Ok) {b:Addr} {o:Obj} (e:X.base.get? b=some o):b∉X.fs:=fun hb=>by
  have:=(ok.funs.mem hb).1;rw [e] at this;cases this
theorem aC.bs (I:aC X pins σ H s):∀ b o,X.base.get? b=some o->s.heap.get? b=some o/\H b=none:=fun b o e =>
  ⟨I.base.keep b o (I.ok.bs b o e).1 (I.ok.bs b o e).2 (I.ok.nofr e) (I.ok.noex b o e),I.base.free b o (I.ok.bs b o e).1 (I.ok.bs b o e).2 (I.ok.noex b o e)⟩
theorem aC.bk (I:aC X pins σ H s):∀ b o,X.base.get? b=some o->s.heap.get? b=some o:=fun b o e=>(I.bs b o e).1
theorem aC.mod (I:aC X pins σ H s):Mod X.K X.mg X.base:=I.ok.mod
theorem aC.kIn (I:aC X pins σ H s):X.K.In s.heap:=I.ok.mod.kin.keeps I.bk
theorem aC.lt (I:aC X pins σ H s):X.env.locals < s.heap.objs.size:=let ⟨_,hn,_⟩:=I.loc;hn.lt
theorem aC.sz (I:aC X pins σ H s):X.s₀.heap.objs.size<=s.heap.objs.size:=Nat.le_trans I.ok.above (Nat.le_of_lt I.lt)
theorem aC.nofs (I:aC X pins σ H s) {a:Addr} (h:s.heap.objs.size<=a):a∉X.fs:=fun hb=>by
  obtain ⟨_,o,ho,_⟩:=I.ok.funs.mem hb;exact absurd (Nat.lt_of_lt_of_le (Heap.lt_size ho) (Nat.le_trans I.sz h)) (Nat.lt_irrefl _)
theorem aC.cne (I:aC X pins σ H s):∀ x c,X.env.cells.lookup x=some c->c≠X.env.locals:=fun x c e z=>by
  obtain ⟨v,o,ho,hd⟩:=I.cell x c e;obtain ⟨m,⟨o',es,ep,ho',hd',_⟩,_⟩:=I.loc;rw [z,ho'] at ho;cases ho;rw [hd'] at hd;cases hd
theorem aC.funs (I:aC X pins σ H s):s.heap.FunFrames X.base X.outer:=by
  have all:∀ (l:List Env),(∀ b∈jX l,b∈X.fs)->X.s₀.heap.FunFrames X.base l->s.heap.FunFrames X.base l:=by
    intro l;induction l with
    | nil=>intro _ _;trivial
    | cons env r ih =>
      intro hs hl;obtain ⟨hk,⟨L,o,hf,hn,ho,hd⟩,hr⟩:=hl;have hL:L∈X.fs:=hs L (by unfold jX;rw [List.filterMap_cons,hf];exact List.mem_cons_self);obtain ⟨sl,e⟩:=I.base.slot L o ho (I.ok.frf L hL) hL fun z=>I.ok.exfs L z hL
      exact ⟨hk,⟨L,_,hf,hn,e,hd⟩,ih (fun b hb=>hs b (by unfold jX;rw [List.filterMap_cons,hf];exact List.mem_cons_of_mem _ hb)) hr⟩
  exact all X.outer (fun _ hb=>hb) I.ok.funs
theorem aC.stack (I:aC X pins σ H s):s.heap.FunFrames X.base X.stack:=by
  rcases I.ok.stk with e | ⟨e,hf⟩
  · rw [e];exact I.funs
  · rw [e];obtain ⟨m,hn,_⟩:=I.loc;refine .cons (by rw [I.ok.kind];decide) hf hn ?_ I.funs;exact Heap.get?_none_of_le (Nat.le_trans I.ok.bsz I.ok.above)
theorem aC.stkSub (I:aC X pins σ H s):∀ b∈jX X.stack,b∈X.env.locals::X.fs:=fun b hb=>by
  rcases I.ok.stk with e | ⟨e,hf⟩
  · rw [e] at hb;exact List.mem_cons_of_mem _ hb
  · rw [e] at hb;unfold jX at hb;rw [List.filterMap_cons,hf] at hb;exact hb
theorem aC.stkFree (I:aC X pins σ H s):∀ b∈jX X.stack,H b=none:=fun b hb=>by
  rcases List.mem_cons.mp (I.stkSub b hb) with e | hb
  · rw [e];exact I.free
  · obtain ⟨_,o,ho,_⟩:=I.ok.funs.mem hb;exact I.base.free b o ho (I.ok.frf b hb) fun z=>I.ok.exfs b z hb
theorem aC.step {g':Array GenState} {t':Nat} {d':Drawn} {ch:List Addr} (I:aC X pins σ H s)
    (hch:∀ b∈ch,(b∈X.ex\/X.s₀.heap.objs.size<=b)/\b≠X.env.locals/\(∀ x c,X.env.cells.lookup x=some c->c≠b)/\∀ p∈X.pn++pins,p.1≠b)
    (keep:∀ b o,b≠X.env.locals->b∉X.fs->b∉ch->s.heap.get? b=some o->H b=none->h'.get? b=some o)
    (slot:∀ b o,b≠X.env.locals->b∈X.fs->b∉ch->s.heap.get? b=some o->H b=none->∃ sl,h'.get? b=some { o with slots:=sl }) (free:∀ b o,b∉ch->s.heap.get? b=some o->H b=none->H' b=none)
    (there:∀ b o,b∉ch->s.heap.get? b=some o->∃ o',h'.get? b=some o')
    (tups:∀ b xs,H b=some (.tup xs)->H' b=some (.tup xs)) (frzs:∀ b o u,H b=some (.frz o u)->H' b=some (.frz o u)) (tbls:∀ b ps,H b=some (.tbl ps)->∃ more,H' b=some (.tbl (ps++more)))
    (ns:∀ m,s.heap.Ns X.env.locals m->h'.Ns X.env.locals m) (hok:gg X.prog X.w H' h') (hg:AllBare g') :
    aC X pins σ H' { s with heap:=h',gens:=g',drawn:=d',toks:=t' }:=by
  have neL:∀ b o,X.s₀.heap.get? b=some o->b≠X.env.locals:=fun b o e=>Nat.ne_of_lt (Nat.lt_of_lt_of_le (Heap.lt_size e) I.ok.above)
  have neC:∀ b o,X.s₀.heap.get? b=some o->b∉X.ex->b∉ch:=fun b o e hx hb=>by
    rcases (hch b hb).1 with z | z
    · exact hx z
    · exact absurd (Nat.lt_of_lt_of_le (Heap.lt_size e) z) (Nat.lt_irrefl _)
  have cellK:∀ x c,X.env.cells.lookup x=some c->∀ v,s.heap.IsCell c v->h'.IsCell c v:=fun x c e v ⟨o,ho,hd⟩=>by
    have nch:c∉ch:=fun z=>(hch c z).2.2.1 x c e rfl
    by_cases hc:c∈X.fs
    · obtain ⟨sl,q⟩:=slot c o (I.cne x c e) hc nch ho (I.freeC x c e);exact ⟨_,q,hd⟩
    · exact ⟨o,keep c o (I.cne x c e) hc nch ho (I.freeC x c e),hd⟩
  refine ⟨I.ok,I.os,hg,⟨fun b o e n hb hx=>?_,fun b o e n hb hx=>?_,fun b o e n hx=>?_,fun b o e hx=>?_,fun b xs e=>tups b xs (I.base.tups b xs e),fun b o xs e=>frzs b o xs (I.base.frzs b o xs e),fun b ps e=>?_⟩,?_,fun x c e=>?_,?_,fun x c e=>?_,fun p hp=>?_,hok,I.len⟩
  · exact keep b o (neL b o e) hb (neC b o e hx) (I.base.keep b o e n hb hx) (I.base.free b o e n hx)
  · obtain ⟨sl,e1⟩:=I.base.slot b o e n hb hx;obtain ⟨sl',e2⟩:=slot b _ (neL b o e) hb (neC b o e hx) e1 (I.base.free b o e n hx);exact ⟨sl',e2⟩
  · obtain ⟨o',e1⟩:=I.base.there b o e hx;exact free b o' (neC b o e hx) e1 (I.base.free b o e n hx)
  · obtain ⟨o',e1⟩:=I.base.there b o e hx;exact there b o' (neC b o e hx) e1
  · obtain ⟨m1,e1⟩:=I.base.tbls b ps e;obtain ⟨m2,e2⟩:=tbls b _ e1;exact ⟨m1++m2,by rw [e2,Array.append_assoc]⟩
  · obtain ⟨m,hn,hl⟩:=I.loc;refine ⟨m,ns m hn,fun i x v e1 e2 e3=>?_⟩;obtain ⟨u,r,l⟩:=hl i x v e1 e2 e3;refine ⟨u,r,?_⟩;rcases l with l | ⟨k,c,e,z⟩
    · exact .inl l
    · exact .inr ⟨k,c,e,cellK x c e _ z⟩
  · obtain ⟨v,z⟩:=I.cell x c e;exact ⟨v,cellK x c e v z⟩
  · obtain ⟨m,⟨o,_,_,ho,_⟩,_⟩:=I.loc;exact free _ o (fun z=>(hch _ z).2.1 rfl) ho I.free
  · obtain ⟨v,o,ho,hd⟩:=I.cell x c e;exact free c o (fun z=>(hch c z).2.2.1 x c e rfl) ho (I.freeC x c e)
  · obtain ⟨e,n,ne,nf,d⟩:=I.pin p hp;have nch:p.1∉ch:=fun z=>(hch p.1 z).2.2.2 p hp rfl
    exact ⟨keep p.1 p.2 ne nf nch e n,free p.1 p.2 nch e n,ne,nf,d⟩
theorem aC.un {t':Nat} (I:aC X pins σ H s) (u:Un X.fs [] H H' s.heap h') (hok:gg X.prog X.w H' h'):aC X pins σ H' { s with heap:=h',toks:=t' }:=by
  obtain ⟨m,⟨o,es,ep,ho,r⟩,_⟩:=id I.loc;obtain ⟨sl,hL⟩:=u.any ho I.free (by simp);exact I.step (g':=s.gens) (d':=s.drawn) (ch:=[]) (fun _ z=>nomatch z) (fun b o _ hb _ e n=>u.keep b o e n hb (by simp)) (fun b o _ hb _ e n=>u.slot b o e n hb (by simp)) (fun b o _ e n=>u.free b o e n (by simp)) (fun b o _ e=>u.there b o e (by simp)) u.tups u.frzs u.tbls (fun m' hm=>by
    obtain ⟨o',es',ep',ho',r'⟩:=hm;rw [ho] at ho';cases ho';exact ⟨_,es',ep',hL,r'⟩) hok I.bare
theorem aC.call {g':Array GenState} {t':Nat} {d':Drawn} {ch:List Addr} (I:aC X pins σ H s) (u:Un (jX X.stack) ch H H' s.heap h') (hok:gg X.prog X.w H' h') (hg:AllBare g')
    (hch:∀ b∈ch,(b∈X.ex\/X.s₀.heap.objs.size<=b)/\b≠X.env.locals/\(∀ x c,X.env.cells.lookup x=some c->c≠b)/\∀ p∈X.pn++pins,p.1≠b) :
    aC X pins σ H' { s with heap:=h',gens:=g',drawn:=d',toks:=t' }:=by
  obtain ⟨m,⟨o,es,ep,ho,r⟩,_⟩:=id I.loc;obtain ⟨sl,hL⟩:=u.any ho I.free fun z=>(hch _ z).2.1 rfl
  exact I.step (ch:=ch) hch (fun b o hL hb hc e n=>u.keep b o e n (fun z=>(List.mem_cons.mp (I.stkSub b z)).elim hL hb) hc) (fun b o _ _ hc e n=>u.any e n hc) (fun b o hc e n=>u.free b o e n hc) (fun b o hc e=>u.there b o e hc) u.tups u.frzs u.tbls (fun m' hm=>by
    obtain ⟨o',es',ep',ho',r'⟩:=hm;rw [ho] at ho';cases ho';exact ⟨_,es',ep',hL,r'⟩) hok hg
theorem aC.turned {t':Nat} {it:Addr} (I:aC X pins σ H s) (k:∀ b o,b≠it->s.heap.get? b=some o->h'.get? b=some o) (hn:H it=none) (hL:it≠X.env.locals)
    (h1:it∈X.ex\/X.s₀.heap.objs.size<=it) (h2:∀ x c,X.env.cells.lookup x=some c->c≠it) (h3:∀ p∈X.pn++pins,p.1≠it):aC X pins σ H { s with heap:=h',toks:=t' }:=by
  have nit:∀ b u,H b=some u->b≠it:=fun b u e z=>by rw [z,hn] at e;cases e
  refine I.step (g':=s.gens) (d':=s.drawn) (ch:=[it]) (fun b hb=>?_) (fun b o _ _ hc e _=>k b o (fun z=>hc (by simp [z])) e) (fun b o _ _ hc e _=>⟨o.slots,k b o (fun z=>hc (by simp [z])) e⟩) (fun _ _ _ _ n=>n)
    (fun b o hc e=>⟨o,k b o (fun z=>hc (by simp [z])) e⟩) (fun _ _ e=>e) (fun _ _ _ e=>e) (fun b ps e=>⟨#[],by rw [e];simp⟩) (fun m hm=>?_) (fun b u e=>?_) I.bare
  · have e:b=it:=by simpa using hb
    subst e;exact ⟨h1,hL,h2,h3⟩
  · obtain ⟨o,es,ep,ho,r⟩:=hm;exact ⟨o,es,ep,k _ o (Ne.symm hL) ho,r⟩
  · refine (I.hok b u e).stay (fun c v hc q=>k c v ?_ q) (fun _ q=>q) fun _ _ q=>q
    rcases hc with z | z
    · rw [z];exact nit b u e
    · exact nit c _ z
theorem aC.tok (I:aC X pins σ H s) (t:Nat):aC X pins σ H { s with toks:=t }:=I.un (h':=s.heap) (t':=t) Un.refl I.hok
theorem aC.kept {t':Nat} (I:aC X pins σ H s) (k:∀ b u,s.heap.get? b=some u->h'.get? b=some u):aC X pins σ H { s with heap:=h',toks:=t' }:=I.un (Un.kept k) (I.hok.kept k)
theorem aC.laid {a:Addr} {o:HO} {t':Nat} (I:aC X pins σ H s) (k:∀ b u,s.heap.get? b=some u->h'.get? b=some u) (hp:s.heap.objs.size<=a) (new:bG X.prog X.w (cI H a o) h' a o) :
    aC X pins σ (cI H a o) { s with heap:=h',toks:=t' }:=I.un (Un.laid k hp (I.hok.fresh hp)) (I.hok.laid k hp new)
theorem aC.write {x e:Addr} {o:HO} {t':Nat} (I:aC X pins σ H s) (mu:CG (H x)) (he:e=x\/H e=some (.own x)) (k:∀ b u,b≠e->s.heap.get? b=some u->h'.get? b=some u) (heo:∃ u,h'.get? e=some u)
    (new:bG X.prog X.w (cI H x o) h' x o):aC X pins σ (cI H x o) { s with heap:=h',toks:=t' }:=I.un (Un.write mu he k heo) (I.hok.write mu he k heo new)
theorem aC.pins_of {pins':List (Addr×Obj)} (I:aC X pins σ H s) (h:∀ p∈pins',s.heap.get? p.1=some p.2/\H p.1=none/\p.1≠X.env.locals/\p.1∉X.fs/\∀ v,p.2.data≠.cell v):aC X pins' σ H s :=
  ⟨I.ok,I.os,I.bare,I.base,I.loc,I.cell,I.free,I.freeC,fun p hp=>(List.mem_append.mp hp).elim (fun z=>I.pin p (List.mem_append_left _ z)) (h p),I.hok,I.len⟩
theorem qR {N:List Str} (hN:N.Nodup) {i j:Nat} {x:Str} (a:N[i]?=some x) (b:N[j]?=some x):i=j:=by
  obtain ⟨h1,e1⟩:=List.getElem?_eq_some_iff.mp a;obtain ⟨h2,e2⟩:=List.getElem?_eq_some_iff.mp b;exact (List.getElem_inj hN).mp (e1.trans e2.symm)
theorem n5 {M:Model} {A:Around} {E:Value->Shared->Prop} {i:Nat} {x:Str} {v:V} {u:Value} {Q:Unit->Shared->Prop} (I:aC X pins σ H s) (hN:X.N.Nodup) (hi:X.N[i]?=some x) (hx:A0 X.env.scope x) (r:bH v u)
    (h:∀ s',aC X pins (σ.set i (some v)) H s'->(∃ a,Heap.SameBut a s.heap s'.heap/\(a=X.env.locals\/X.env.cells.lookup x=some a))->Q () s') (hf:X.fn x=true\/X.env.scope.names.lookup x=some .local:=by first | exact .inl rfl | exact .inr rfl | assumption):wpAny M A (storeName X.env x u) Q E s:=by
  obtain ⟨m,hn,hl⟩:=id I.loc;have hcls:(X.env.scope.kind==.class||(X.env.scope.kind==.module&&X.env.locals != X.env.globals))=false:=by rw [I.ok.kind];rfl
  have hiσ:i < σ.length:=by rw [I.len];exact (List.getElem?_eq_some_iff.mp hi).1
  have cne:=I.cne;have tracked:∀ {a:Addr} {h':Heap},(∃ o,s.heap.get? a=some o/\H a=none)->Heap.SameBut a s.heap h'->gg X.prog X.w H h':=fun {a h'} ha hs b ob e=>by
    obtain ⟨_,_,hfree⟩:=ha;refine (I.hok b ob e).stay (fun c w' hc q=>(hs.2 c ?_).trans q) (fun _ q=>q) fun _ _ q=>q
    rintro rfl;rcases hc with rfl | hc
    · rw [hfree] at e;cases e
    · rw [hfree] at hc;cases hc
  rcases hx with hk | hk
  · refine wpAny_storeName_local hk hn (fun h' hn' hs=>?_) hcls;obtain ⟨oL,_,_,hoL,_⟩:=id hn;refine h _ ⟨I.ok,I.os,I.bare,⟨fun b o e n hb hx=>?_,fun b o e n hb hx=>?_,I.base.free,fun b o e hx=>?_,I.base.tups,I.base.frzs,I.base.tbls⟩,⟨_,hn',fun j y v' e1 e2 e3=>?_⟩,fun y c e=>?_,I.free,I.freeC,fun p hp=>?_,tracked ⟨oL,hoL,I.free⟩ hs,by simpa using I.len⟩ ⟨_,hs,.inl rfl⟩
    · exact (hs.2 b (Nat.ne_of_lt (Nat.lt_of_lt_of_le (Heap.lt_size e) I.ok.above))).trans (I.base.keep b o e n hb hx)
    · obtain ⟨sl,e1⟩:=I.base.slot b o e n hb hx;exact ⟨sl,(hs.2 b (Nat.ne_of_lt (Nat.lt_of_lt_of_le (Heap.lt_size e) I.ok.above))).trans e1⟩
    · obtain ⟨o',e1⟩:=I.base.there b o e hx;exact ⟨o',(hs.2 b (Nat.ne_of_lt (Nat.lt_of_lt_of_le (Heap.lt_size e) I.ok.above))).trans e1⟩
    · by_cases hj:j=i
      · subst hj;rw [hi] at e1;cases e1;rw [List.getElem?_set_self hiσ] at e2;cases e2;exact ⟨u,r,.inl ⟨hk,by simp⟩⟩
      · rw [List.getElem?_set_ne (Ne.symm hj)] at e2;obtain ⟨u',r',q⟩:=hl j y v' e1 e2 e3;refine ⟨u',r',?_⟩;rcases q with ⟨k,e⟩ | ⟨k,c,e,z⟩
        · refine .inl ⟨k,?_⟩;have:y≠x:=fun e=>hj (qR hN e1 (e ▸ hi))
          simp [this,e]
        · exact .inr ⟨k,c,e,z.sameBut hs (cne y c e)⟩
    · obtain ⟨w',z⟩:=I.cell y c e;exact ⟨w',z.sameBut hs (cne y c e)⟩
    · obtain ⟨e,n,ne,nf,d⟩:=I.pin p hp;exact ⟨(hs.2 p.1 ne).trans e,n,ne,nf,d⟩
  · have hfn:X.fn x=true:=by
      rcases hf with z | z
      · exact z
      · rw [z] at hk;cases hk
    obtain ⟨c,hc⟩:=I.ok.has x (.inl hk);obtain ⟨w',z⟩:=I.cell x c hc;refine wpAny_storeName_cell I.ok.kind hk hc z (fun h' hc' hs=>?_);obtain ⟨oc,hoc,hocd⟩:=id z;refine h { s with heap:=h' } ⟨I.ok,I.os,I.bare,⟨fun b o e n hb hx=>?_,fun b o e n hb hx=>?_,I.base.free,fun b o e hx=>?_,I.base.tups,I.base.frzs,I.base.tbls⟩,⟨m,hn.sameBut hs (Ne.symm (cne x c hc)),fun j y v' e1 e2 e3=>?_⟩,fun y c' e=>?_,I.free,I.freeC,fun p hp=>?_,tracked ⟨oc,hoc,I.freeC x c hc⟩ hs,by simpa using I.len⟩ ⟨c,hs,.inr hc⟩
    · exact (hs.2 b (Nat.ne_of_lt (Nat.lt_of_lt_of_le (Heap.lt_size e) (I.ok.cab x c hfn hc)))).trans (I.base.keep b o e n hb hx)
    · obtain ⟨sl,e1⟩:=I.base.slot b o e n hb hx;exact ⟨sl,(hs.2 b (Nat.ne_of_lt (Nat.lt_of_lt_of_le (Heap.lt_size e) (I.ok.cab x c hfn hc)))).trans e1⟩
    · obtain ⟨o',e1⟩:=I.base.there b o e hx;exact ⟨o',(hs.2 b (Nat.ne_of_lt (Nat.lt_of_lt_of_le (Heap.lt_size e) (I.ok.cab x c hfn hc)))).trans e1⟩
    · by_cases hj:j=i
      · subst hj;rw [hi] at e1;cases e1;rw [List.getElem?_set_self hiσ] at e2;cases e2;exact ⟨u,r,.inr ⟨.inl hk,c,hc,hc'⟩⟩
      · rw [List.getElem?_set_ne (Ne.symm hj)] at e2;obtain ⟨u',r',q⟩:=hl j y v' e1 e2 e3;refine ⟨u',r',?_⟩;rcases q with q | ⟨k,c',e,z'⟩
        · exact .inl q
        · refine .inr ⟨k,c',e,z'.sameBut hs ?_⟩;rintro rfl;exact hj (qR hN e1 (I.ok.inj _ _ _ e hc ▸ hi))
    · by_cases hcc:c'=c
      · subst hcc;exact ⟨_,hc'⟩
      · obtain ⟨w2,z2⟩:=I.cell y c' e;exact ⟨w2,z2.sameBut hs hcc⟩
    · obtain ⟨e,n,ne,nf,d⟩:=I.pin p hp;refine ⟨(hs.2 p.1 ?_).trans e,n,ne,nf,d⟩;intro q;rw [q,hoc] at e;have q':oc=p.2:=Option.some.inj e;exact d w' (by rw [<- q'];exact hocd)
theorem rk {M:Model} {A:Around} {E:Value->Shared->Prop} {i:Nat} {x:Str} {v:V} {u:Value} {Q:Unit->Shared->Prop} (I:aC X pins σ H s) (hN:X.N.Nodup) (hi:X.N[i]?=some x) (hx:A0 X.env.scope x) (r:bH v u)
    (h:∀ s',aC X pins (σ.set i (some v)) H s'->Q () s') (hf:X.fn x=true\/X.env.scope.names.lookup x=some .local:=by first | exact .inl rfl | exact .inr rfl | assumption):wpAny M A (storeName X.env x u) Q E s :=
  n5 I hN hi hx r (fun s' I' _=>h s' I') hf
theorem aC.call' {s':Shared} {ch:List Addr} (I:aC X pins σ H s) (ho:s'.os=s.os) (u:Un (jX X.stack) ch H H' s.heap s'.heap) (hok:gg X.prog X.w H' s'.heap) (hg:AllBare s'.gens)
    (hch:∀ b∈ch,(b∈X.ex\/X.s₀.heap.objs.size<=b)/\b≠X.env.locals/\(∀ x c,X.env.cells.lookup x=some c->c≠b)/\∀ p∈X.pn++pins,p.1≠b):aC X pins σ H' s':=by
  obtain ⟨h',g',d',t',o'⟩:=s';have e:o'=s.os:=ho;subst e;exact I.call (g':=g') (t':=t') (d':=d') u hok hg hch
end
noncomputable abbrev XK:=Value->Option Addr->Hp->Prop
noncomputable abbrev St:=List (Option V)
noncomputable abbrev VK:=V->Hp->Prop
noncomputable abbrev TE:=St->Hp->VK->Prop
noncomputable abbrev TT:=St->Hp->(Bool->Hp->Prop)->Prop
noncomputable abbrev TA:=St->Hp->(List V->Hp->Prop)->Prop
structure pO where
  nx:St->Hp->Prop
  rt:VK
  bk:St->Hp->Prop:=fun _ _=>False
  ct:St->Hp->Prop:=fun _ _=>False
noncomputable abbrev TS:=pO->St->Hp->Prop
inductive EP (X:Cx) (pins:List (Addr×Obj)) (σ:St) (Q:VK) (u:Value) (s':Shared):Prop
  | mk (v:V) (H':Hp) (I:aC X pins σ H' s') (r:bH v u) (q:Q v H')
inductive TP (X:Cx) (pins:List (Addr×Obj)) (σ:St) (Q:Bool->Hp->Prop) (b:Bool) (s':Shared):Prop
  | mk (H':Hp) (I:aC X pins σ H' s') (q:Q b H')
inductive AP (X:Cx) (pins:List (Addr×Obj)) (σ:St) (Q:List V->Hp->Prop) (us:List Value) (s':Shared):Prop
  | mk (vs:List V) (H':Hp) (I:aC X pins σ H' s') (r:ba vs us) (q:Q vs H')
inductive NX (X:Cx) (pins:List (Addr×Obj)) (s':Shared) (P:St->Hp->Prop):Prop
  | mk (σ':St) (H':Hp) (I:aC X pins σ' H' s') (q:P σ' H')
inductive RX (X:Cx) (pins:List (Addr×Obj)) (s':Shared) (u:Value) (P:V->Hp->Prop):Prop
  | mk (v:V) (σ':St) (H':Hp) (I:aC X pins σ' H' s') (r:bH v u) (q:P v H')
noncomputable def SP (X:Cx) (pins:List (Addr×Obj)) (D:pO) (f:Flow) (s':Shared):Prop :=
  match f with
  | .next=>NX X pins s' D.nx
  | .brk=>NX X pins s' D.bk
  | .cont=>NX X pins s' D.ct
  | .ret u=>RX X pins s' u D.rt
noncomputable def PE (X:Cx) (e:Expr) (t:TE):Prop :=
  ∀ (pins:List (Addr×Obj)) (s:Shared) (σ:St) (H:Hp) (Q:VK),aC X pins σ H s->t σ H Q->wpAny (model X.prog X.w) X.A (eval e X.env) (EP X pins σ Q) X.xe s
noncomputable def PT (X:Cx) (e:Expr) (t:TT):Prop :=
  ∀ (pins:List (Addr×Obj)) (s:Shared) (σ:St) (H:Hp) (Q:Bool->Hp->Prop),aC X pins σ H s->t σ H Q->wpAny (model X.prog X.w) X.A (isTrue e X.env (eval e X.env)) (TP X pins σ Q) X.xe s
noncomputable def PW (X:Cx) (e:Expr) (t:TT):Prop :=
  ∀ (whole:Sem Value) (pins:List (Addr×Obj)) (s:Shared) (σ:St) (H:Hp) (Q:Bool->Hp->Prop),aC X pins σ H s->t σ H Q->wpAny (model X.prog X.w) X.A (isTrue e X.env whole) (TP X pins σ Q) X.xe s
theorem PW.pt {X:Cx} {e:Expr} {t:TT} (h:PW X e t):PT X e t:=h _
noncomputable def PA (X:Cx) (es:List Expr) (t:TA):Prop :=
  ∀ (pos:Pos) (pins:List (Addr×Obj)) (s:Shared) (σ:St) (H:Hp) (Q:List V->Hp->Prop),aC X pins σ H s->t σ H Q->wpAny (model X.prog X.w) X.A (spliced (backTo pos (starEach es X.env))) (AP X pins σ Q) X.xe s
noncomputable def PS (X:Cx) (st:Stmt) (t:TS):Prop :=
  ∀ (pins:List (Addr×Obj)) (s:Shared) (σ:St) (H:Hp) (D:pO),aC X pins σ H s->t D σ H->wpAny (model X.prog X.w) X.A (exec st X.env) (SP X pins D) X.xe s
noncomputable def ou (X:Cx) (st:List Stmt) (t:TS):Prop :=
  ∀ (pins:List (Addr×Obj)) (s:Shared) (σ:St) (H:Hp) (D:pO),aC X pins σ H s->t D σ H->wpAny (model X.prog X.w) X.A (execs st X.env) (SP X pins D) X.xe s
theorem cR {α:Type} {t:Sem α} {Q Q':α->Shared->Prop} {M:Model} {A:Around} {E:Value->Shared->Prop} {s:Shared} (h:wpAny M A t Q E s) (hQ:∀ a s,Q a s->Q' a s):wpAny M A t Q' E s:=wpAny_mono h hQ fun _ _ x=>x
section
variable {X:Cx}
theorem Gz {a b:Expr} {ta tb:TE} (ha:PE X a ta) (hb:PE X b tb) {pins:List (Addr×Obj)} {s:Shared} {σ:St} {H:Hp} {R:V->V->Hp->Prop} (I:aC X pins σ H s) (h:ta σ H fun x H1=>tb σ H1 fun y H2=>R x y H2)
    {α:Type} {Q:α->Shared->Prop} {f:Value->Value->Sem α}
    (hf:∀ v u s2 x y H2,aC X pins σ H2 s2->bH x v->bH y u->R x y H2->wpAny (model X.prog X.w) X.A (f v u) Q X.xe s2) :
    wpAny (model X.prog X.w) X.A (eval a X.env) (fun v s₁=>wpAny (model X.prog X.w) X.A (eval b X.env) (fun u s₂=>wpAny (model X.prog X.w) X.A (f v u) Q X.xe s₂) X.xe s₁) X.xe s:=by
  refine cR (ha pins s σ H _ I h) fun v s1 zq0=>?_
  obtain ⟨x,H1,I1,r1,q1⟩:=zq0;refine cR (hb pins s1 σ H1 _ I1 q1) fun u s2 zq0=>?_
  obtain ⟨y,H2,I2,r2,q2⟩:=zq0;exact hf v u s2 x y H2 I2 r1 r2 q2
noncomputable def Ej (i:Nat):TE:=fun σ H Q=>∃ v,σ[i]?=some (some v)/\Q v H
noncomputable def tC (v:V):TE:=fun _ H Q=>Q v H
theorem iy {i:Nat} {x:Str} {pos:Pos} (hN:X.N[i]?=some x) (hv:A7 X.env.scope x) (hd:(x==("__debug__" : Str))=false:=by decide) (hcd:(x==("__classdict__" : Str))=false:=by decide):PE X (.Name x pos) (Ej i):=by
  intro pins s σ H Q I h;obtain ⟨v,e,h⟩:=h;obtain ⟨m,hn,hl⟩:=I.loc;obtain ⟨u,r,l⟩:=hl i x v hN e hv;have fin:EP X pins σ Q u s:=⟨v,H,I,r,h⟩
  rcases l with ⟨hk,hm⟩ | ⟨hk,c,hc,hcell⟩
  · exact wpAny_Name (wpAny_loadName_local I.ok.kind hk hn hm fin) hd
  · rcases hk with hk | hk
    · exact wpAny_Name (wpAny_loadName_cell I.ok.kind hk hc hcell fin) hd
    · exact wpAny_Name (wpAny_loadName_free I.ok.kind hk hc hcell fin hcd) hd
theorem BI {i j pos}:PE X (.Constant (.int i) j pos) (tC (.int i)):=fun _ _ _ H _ I h=>wpAny_Constant_int ⟨.int i,H,I.tok _,⟨_,rfl⟩,h⟩
theorem DG {b j pos}:PE X (.Constant (.bool b) j pos) (tC (.bl b)):=fun _ _ _ H _ I h=>Constant_bool ⟨.bl b,H,I,rfl,h⟩
theorem BK {j pos}:PE X (.Constant .none j pos) (tC .non):=fun _ _ _ H _ I h=>Constant_none ⟨.non,H,I,rfl,h⟩
theorem BN {x j pos}:PE X (.Constant (.str x) j pos) (tC (.str x)):=fun _ _ _ H _ I h=>Calls.Constant_str ⟨.str x,H,I.tok _,⟨_,rfl⟩,h⟩
noncomputable def Gl (X:Cx) (x:Str):Prop:=X.env.kindOf x=some .globalImplicit
theorem o6 {E:Value->Shared->Prop} {pins:List (Addr×Obj)} {s:Shared} {σ:St} {H:Hp} {x:Str} {u:Value} {pos:Pos} {Q:Value->Shared->Prop} (I:aC X pins σ H s) (hg:Gl X x) (hm:X.mg x=some u) (h:Q u s)
    (hd:(x==("__debug__" : Str))=false:=by decide):wpAny (model X.prog X.w) X.A (eval (.Name x pos) X.env) Q E s :=
  Calls.Name_function_global I.ok.kind hg (Calls.loadGlobal_global (by rw [I.ok.glob];exact I.mod.glob.keeps I.bk) hm h) hd
theorem jj {E:Value->Shared->Prop} {pins:List (Addr×Obj)} {s:Shared} {σ:St} {H:Hp} {x:Str} {u:Value} {pos:Pos} {Q:Value->Shared->Prop} (I:aC X pins σ H s) (hg:Gl X x) (hm:X.mg x=none) (hv:bootBuiltins x=some u) (h:Q u s)
    (hn:x ≠ "__name__" := by decide) (hd:(x==("__debug__" : Str))=false:=by decide):wpAny (model X.prog X.w) X.A (eval (.Name x pos) X.env) Q E s:=by
  obtain ⟨mb,h1,h2⟩:=I.mod.blt;exact Calls.Name_function_global I.ok.kind hg (Calls.loadGlobal_builtin (by rw [I.ok.glob];exact I.mod.glob.keeps I.bk) hm (by rw [I.ok.blt];exact h1.keeps I.bk) ((h2 x hn).trans hv) h) hd
theorem zJ {x:Str} {v:V} {u:Value} {pos:Pos} (hg:Gl X x) (hm:X.mg x=some u) (r:bH v u) (hd:(x==("__debug__" : Str))=false:=by decide):PE X (.Name x pos) (tC v) :=
  fun _ _ _ H _ I h=>o6 I hg hm ⟨v,H,I,r,h⟩ hd
theorem zG {x:Str} {v:V} {u:Value} {pos:Pos} (hg:Gl X x) (hm:X.mg x=none) (hv:bootBuiltins x=some u) (r:bH v u) (hn:x ≠ "__name__" := by decide) (hd:(x==("__debug__" : Str))=false:=by decide):PE X (.Name x pos) (tC v) :=
  fun _ _ _ H _ I h=>jj I hg hm hv ⟨v,H,I,r,h⟩ hn hd
variable {a b:Expr} {ta tb:TE} {pos:Pos}
noncomputable def PC (X:Cx) (op:CmpOp) (a b:Expr) (t:TE):Prop :=
  ∀ (pins:List (Addr×Obj)) (s:Shared) (σ:St) (H:Hp) (Q:VK),aC X pins σ H s->t σ H Q ->
    wpAny (model X.prog X.w) X.A (eval a X.env) (fun v s₁=>wpAny (model X.prog X.w) X.A (eval b X.env) (fun u s₂=>wpAny (model X.prog X.w) X.A (compareOp op v u) (EP X pins σ Q) X.xe s₂) X.xe s₁) X.xe s
theorem xh (b:Expr) {op:CmpOp} (h:op≠.In) (h2:op≠.NotIn):behindInMarks op b=false:=by
  have e1:(op==CmpOp.In)=false:=by cases op <;> first | rfl | exact absurd rfl h
  have e2:(op==CmpOp.NotIn)=false:=by cases op <;> first | rfl | exact absurd rfl h2
  cases b <;> simp [behindInMarks,e1,e2]
noncomputable def tB (t:TE):TT:=fun σ H Q=>t σ H fun x H1=>∃ c,x=.bl c/\Q c H1
theorem FI {op:CmpOp} {t:TE} (h:PC X op a b t) (h1:behindInMarks op b=false:=by first | exact xh _ (by decide) (by decide) | rfl):PT X (.Compare a [op] [b] pos) (tB t):=by
  intro pins s σ H Q I hw;refine wpAny_isTrue_Compare1 (cR (h pins s σ H _ I hw) fun v s1 h1=>cR h1 fun u s2 h2=>cR h2 fun c s3 zq0=>?_) h1;obtain ⟨x,H1,I1,r1,q1⟩:=zq0;obtain ⟨d,rfl,q⟩:=q1;cases r1;exact wpAny_truthy_bool ⟨H1,I1,q⟩
theorem BS {e:Expr} {t:TE} (h:PE X e t) (he:∀ whole,isTrue e X.env whole=(do let v <- whole;standAt e.pos;holding [v] (truthy v)):=by intro _;rfl):PT X e (tB t):=by
  intro pins s σ H Q I hw;refine isTrue_plain (cR (h pins s σ H _ I hw) fun v s1 zq0=>?_) (he _);obtain ⟨x,H1,I1,r1,q1⟩:=zq0;obtain ⟨d,rfl,q⟩:=q1;cases r1;exact wpAny_truthy_bool ⟨H1,I1,q⟩
variable {tA tB':TT} {eK:List Expr}
noncomputable def FQ (t u:TT):TT:=fun σ H Q=>t σ H fun c H1=>if c=true then u σ H1 Q else Q false H1
noncomputable def Gw (t u:TT):TT:=fun σ H Q=>t σ H fun c H1=>if c=true then Q true H1 else u σ H1 Q
noncomputable def FW (t:TT):TT:=fun σ H Q=>t σ H fun c H1=>Q (!c) H1
theorem pw_and1 (ha:PT X a tA):PW X (.BoolOp .And [a] pos) tA:=by
  intro wh pins s σ H Q I h;refine isTrue_and (cR (ha pins s σ H Q I h) fun c s1 e=>?_);cases c with
  | true=>exact isTrue_and_nil e
  | false=>exact e
theorem pw_or1 (ha:PT X a tA):PW X (.BoolOp .Or [a] pos) tA:=by
  intro wh pins s σ H Q I h;refine isTrue_or (cR (ha pins s σ H Q I h) fun c s1 e=>?_);cases c with
  | false=>exact isTrue_or_nil e
  | true=>exact e
theorem pw_and (ha:PT X a tA) (hb:PW X (.BoolOp .And (b::eK) pos) tB'):PW X (.BoolOp .And (a::b::eK) pos) (FQ tA tB'):=by
  intro wh pins s σ H Q I h;refine isTrue_and (cR (ha pins s σ H _ I h) fun c s1 zq0=>?_);obtain ⟨H1,I1,q1⟩:=zq0;cases c with
  | true=>exact hb wh pins s1 σ H1 Q I1 q1
  | false=>exact ⟨H1,I1,q1⟩
theorem pw_or (ha:PT X a tA) (hb:PW X (.BoolOp .Or (b::eK) pos) tB'):PW X (.BoolOp .Or (a::b::eK) pos) (Gw tA tB'):=by
  intro wh pins s σ H Q I h;refine isTrue_or (cR (ha pins s σ H _ I h) fun c s1 zq0=>?_);obtain ⟨H1,I1,q1⟩:=zq0;cases c with
  | true=>exact ⟨H1,I1,q1⟩
  | false=>exact hb wh pins s1 σ H1 Q I1 q1
theorem BR (ha:PT X a tA):PT X (.UnaryOp .Not a pos) (FW tA):=by
  intro pins s σ H Q I h;refine isTrue_not (cR (ha pins s σ H (fun c H1=>Q (!c) H1) I h) fun c s1 z=>?_);obtain ⟨H1,I1,q1⟩:=z;exact ⟨H1,I1,q1⟩
noncomputable def Eb (ta tb:TE):TE:=fun σ H Q=>ta σ H fun x H1=>∃ c,x=.bl c/\if c=true then tb σ H1 Q else Q (.bl false) H1
noncomputable def Eg (ta:TE):TE:=fun σ H Q=>ta σ H fun x H1=>∃ c,x=.bl c/\Q (.bl (!c)) H1
theorem BM {op} {t:TE} (h:PE X a t):PE X (.BoolOp op [a] pos) t:=fun pins s σ H Q I hw=>BoolOp_one (h pins s σ H Q I hw)
theorem BH (ha:PE X a ta) (hb:PE X (.BoolOp .And (b::eK) pos) tb):PE X (.BoolOp .And (a::b::eK) pos) (Eb ta tb):=by
  intro pins s σ H Q I h;refine BoolOp_and (cR (ha pins s σ H _ I h) fun v s1 zq0=>?_);obtain ⟨x,H1,I1,r1,q1⟩:=zq0;obtain ⟨c,rfl,q1⟩:=q1;cases r1;refine wpAny_truthy_bool ?_;cases c with
  | true=>exact hb pins s1 σ H1 Q I1 q1
  | false=>exact ⟨.bl false,H1,I1,rfl,q1⟩
theorem BL (ha:PE X a ta):PE X (.UnaryOp .Not a pos) (Eg ta):=by
  intro pins s σ H Q I h;refine UnaryOp_ (cR (ha pins s σ H _ I h) fun v s1 zq0=>?_);obtain ⟨x,H1,I1,r1,q1⟩:=zq0;obtain ⟨c,rfl,q1⟩:=q1;cases r1;exact not_of (wpAny_truthy_bool ⟨.bl (!c),H1,I1,rfl,q1⟩)
end
noncomputable def kQ (K:PySem.W.Frag) (H:Hp) (a:Addr) (xs:List V):Prop :=
  Rd H a (.lst xs) \/
    ∃ (o:Obj) (its:Array Value) (n:Nat),K.lookup a=some o/\o.cls=.type "list" /\ o.dict=none/\o.data=.seq its n/\its.size<=sizeLine/\ba xs its.toList
noncomputable def gC (K:PySem.W.Frag) (H:Hp) (a:Addr) (xs:List V):Prop :=
  Rd H a (.tup xs) \/
    ∃ (o:Obj) (its:Array Value) (n:Nat),K.lookup a=some o/\o.cls=.type "tuple" /\ o.data=.seq its n/\its.size<=sizeLine/\ba xs its.toList
noncomputable def E5:Value->Option V
  | .none=>some .non
  | .bool b=>some (.bl b)
  | .int i _=>some (.int i)
  | .str x _=>some (.str x)
  | .bytes b _=>some (.byt b)
  | .float b _=>some (.flt b)
  | .ref a=>some (.ref a)
  | .type n=>some (.ty n)
  | _=>none
theorem bH.abs {x:V} {u:Value} (r:bH x u):E5 u=some x:=by
  cases x with
  | non=>cases r;rfl
  | bl _=>cases r;rfl
  | int _=>obtain ⟨t,rfl⟩:=r;rfl
  | str _=>obtain ⟨t,rfl⟩:=r;rfl
  | byt _=>obtain ⟨t,rfl⟩:=r;rfl
  | flt _=>obtain ⟨t,rfl⟩:=r;rfl
  | ref _=>cases r;rfl
  | ty _=>cases r;rfl
theorem bH.inj {x y:V} {u:Value} (r:bH x u) (q:bH y u):x=y:=Option.some.inj (r.abs.symm.trans q.abs)
theorem ba.inj {xs ys:List V} {us:List Value} (h:ba xs us) (h':ba ys us):xs=ys:=by
  induction h generalizing ys with
  | nil =>
    cases h';rfl
  | cons r t ih =>
    cases h' with
    | cons r' t'=>rw [r.inj r',ih t']
section
variable {X:Cx} {pins:List (Addr×Obj)} {σ:St} {H:Hp} {s:Shared} {a:Addr} {xs ys:List V}
theorem kQ.of {K:PySem.W.Frag} (h:H a=some (.lst xs)):kQ K H a xs:=.inl (.inl h)
theorem gC.of {K:PySem.W.Frag} (h:H a=some (.tup xs)):gC K H a xs:=.inl (.inl h)
theorem aC.list (I:aC X pins σ H s) (h:kQ X.K H a xs):∃ its:List Value,ba xs its/\PlainL s.heap a its.toArray/\xs.length<=sizeLine:=by
  rcases h with h | ⟨o,its,n,hk,hc,hd,hs,hz,r⟩
  · obtain ⟨z,its,n,r,e⟩:=h.ok I.hok;exact ⟨its,r,⟨_,n,e,rfl,rfl,rfl⟩,z⟩
  · refine ⟨its.toList,r,⟨o,n,I.kIn a o hk,hc,hd,by simpa using hs⟩,?_⟩;have e:=r.length;simp only [Array.length_toList] at e;omega
theorem aC.tuple (I:aC X pins σ H s) (h:gC X.K H a xs):∃ its:List Value,ba xs its/\IsTup s.heap a its.toArray/\xs.length<=sizeLine:=by
  rcases h with h | ⟨o,its,n,hk,hc,hs,hz,r⟩
  · obtain ⟨z,its,r,p⟩:=h.ok I.hok;exact ⟨its,r,p.is,z⟩
  · refine ⟨its.toList,r,⟨o,I.kIn a o hk,hc,n,by simpa using hs⟩,?_⟩;have e:=r.length;simp only [Array.length_toList] at e;omega
theorem aC.list_inj (I:aC X pins σ H s) (h:kQ X.K H a xs) (h':kQ X.K H a ys):xs=ys:=by
  obtain ⟨its,r,⟨o,n,e,_,_,d⟩,_⟩:=I.list h;obtain ⟨its',r',⟨o',n',e',_,_,d'⟩,_⟩:=I.list h';rw [e] at e';cases e';rw [d] at d';injection d' with d1 _
  have:its=its':=by simpa using congrArg Array.toList d1
  subst this;exact r.inj r'
theorem aC.tuple_inj (I:aC X pins σ H s) (h:gC X.K H a xs) (h':gC X.K H a ys):xs=ys:=by
  obtain ⟨its,r,⟨o,e,_,n,d⟩,_⟩:=I.tuple h;obtain ⟨its',r',⟨o',e',_,n',d'⟩,_⟩:=I.tuple h';rw [e] at e';cases e';rw [d] at d';injection d' with d1 _
  have:its=its':=by simpa using congrArg Array.toList d1
  subst this;exact r.inj r'
end
noncomputable abbrev Cx.wish (X:Cx) (E:Value->Shared->Prop):Cx:={ X with xe:=E }
noncomputable abbrev Cx.nox (X:Cx):Cx:=X.wish fun _ _=>False
theorem Cx.Ok.wish {X:Cx} (ok:X.Ok) (E:Value->Shared->Prop):(X.wish E).Ok :=
  ⟨ok.mod,ok.kind,ok.glob,ok.blt,ok.above,ok.inj,ok.has,ok.cab,ok.hd,ok.frames,ok.stk,ok.exf,ok.bs,ok.bsz,ok.noex,ok.exfs,ok.funs,ok.frf⟩
theorem Cx.Ok.unwish {X:Cx} {E:Value->Shared->Prop} (ok:(X.wish E).Ok):X.Ok :=
  ⟨ok.mod,ok.kind,ok.glob,ok.blt,ok.above,ok.inj,ok.has,ok.cab,ok.hd,ok.frames,ok.stk,ok.exf,ok.bs,ok.bsz,ok.noex,ok.exfs,ok.funs,ok.frf⟩
section
variable {X:Cx} {pins:List (Addr×Obj)} {σ:St} {H:Hp} {s:Shared} {E:Value->Shared->Prop}
theorem aC.wish (I:aC X pins σ H s) (E:Value->Shared->Prop):aC (X.wish E) pins σ H s:=⟨I.ok.wish E,I.os,I.bare,I.base,I.loc,I.cell,I.free,I.freeC,I.pin,I.hok,I.len⟩
theorem aC.unwish (I:aC (X.wish E) pins σ H s):aC X pins σ H s:=⟨I.ok.unwish,I.os,I.bare,I.base,I.loc,I.cell,I.free,I.freeC,I.pin,I.hok,I.len⟩
theorem SP.unwish {D:pO} {f:Flow} {s':Shared} (h:SP (X.wish E) pins D f s'):SP X pins D f s':=by
  cases f with
  | next=>obtain ⟨σ',H',I,q⟩:=h;exact ⟨σ',H',I.unwish,q⟩
  | brk=>obtain ⟨σ',H',I,q⟩:=h;exact ⟨σ',H',I.unwish,q⟩
  | cont=>obtain ⟨σ',H',I,q⟩:=h;exact ⟨σ',H',I.unwish,q⟩
  | ret u=>obtain ⟨v,σ',H',I,r,q⟩:=h;exact ⟨v,σ',H',I.unwish,r,q⟩
theorem PE.nox {e:Expr} {t:TE} (h:PE X.nox e t):PE X e t:=fun pins s σ H Q I hw =>
  wpAny_mono (h pins s σ H Q (I.wish _) hw) (fun _ _ ⟨v,H',I',r,q⟩=>⟨v,H',I'.unwish,r,q⟩) fun _ _ z=>False.elim z
theorem PT.nox {e:Expr} {t:TT} (h:PT X.nox e t):PT X e t:=fun pins s σ H Q I hw =>
  wpAny_mono (h pins s σ H Q (I.wish _) hw) (fun _ _ ⟨H',I',q⟩=>⟨H',I'.unwish,q⟩) fun _ _ z=>False.elim z
theorem ou.nox {st:List Stmt} {t:TS} (h:ou X.nox st t):ou X st t:=fun pins s σ H D I hw =>
  wpAny_mono (h pins s σ H D (I.wish _) hw) (fun _ _ q=>q.unwish) fun _ _ z=>False.elim z
end
section
variable {X:Cx} {st:Stmt} {eK:List Stmt} {t u:TS} {e:Expr} {te:TE} {pos:Pos}
noncomputable def Ef:TS:=fun D σ H=>D.nx σ H
noncomputable def FY (t u:TS):TS:=fun D σ H=>t { D with nx:=u D } σ H
theorem zP:ou X [] Ef:=fun _ _ σ H _ I h=>wpAny_execs_nil ⟨σ,H,I,h⟩
theorem xF (h1:PS X st t) (h2:ou X eK u):ou X (st::eK) (FY t u):=by
  intro pins s σ H D I h;refine wpAny_execs_cons (cR (h1 pins s σ H { D with nx:=u D } I h) fun f s1 q=>?_);cases f with
  | next =>
    obtain ⟨σ',H',I',q⟩:=q;exact h2 pins s1 σ' H' D I' q
  | ret v=>exact q
  | brk=>exact q
  | cont=>exact q
theorem zQ (h1:PS X st t):ou X [st] t:=by
  intro pins s σ H D I h;refine wpAny_execs_cons (cR (h1 pins s σ H D I h) fun f s1 q=>?_);cases f with
  | next=>exact wpAny_execs_nil q
  | ret v=>exact q
  | brk=>exact q
  | cont=>exact q
theorem aC.quiet {pins:List (Addr×Obj)} {σ:St} {H:Hp} {s:Shared} (I:aC X pins σ H s):interactive X.env=false:=by simp [interactive,I.ok.kind]
noncomputable def Ee (te:TE):TS:=fun D σ H=>te σ H fun _ H1=>D.nx σ H1
theorem zO (he:PE X e te) (hs:swapsWith e none pos.line X.env=pure false:=by rfl):PS X (.Expr e pos) (Ee te):=by
  intro pins s σ H D I h;exact wpAny_Expr_any (cR (he pins s σ H _ I h) fun v s1 ⟨x,H1,I1,r1,q1⟩=>⟨σ,H1,I1,q1⟩) I.quiet hs
noncomputable def FX (te:TE):TS:=fun D σ H=>te σ H D.rt
theorem sG (he:PE X e te):PS X (.Return (some e) pos) (FX te):=by
  intro pins s σ H D I h;exact wpAny_Return_some (cR (he pins s σ H _ I h) fun v s1 ⟨x,H1,I1,r1,q1⟩=>⟨x,σ,H1,I1,r1,q1⟩)
noncomputable def FT (c:TT) (t u:TS):TS:=fun D σ H=>c σ H fun b H1=>if b=true then t D σ H1 else u D σ H1
theorem DN {c:Expr} {a b:List Stmt} {tc:TT} (hc:PT X c tc) (ha:ou X a t) (hb:ou X b u):PS X (.If c a b pos) (FT tc t u):=by
  intro pins s σ H D I h;refine wpAny_If (cR (hc pins s σ H _ I h) fun d s1 zq0=>?_);obtain ⟨H1,I1,q1⟩:=zq0;cases d with
  | true=>exact ha pins s1 σ H1 D I1 q1
  | false=>exact hb pins s1 σ H1 D I1 q1
end
noncomputable abbrev TG:=V->St->Hp->(St->Hp->Prop)->Prop
noncomputable abbrev A6:=List V->St->Hp->(St->Hp->Prop)->Prop
noncomputable def PG (X:Cx) (target:Expr) (t:TG):Prop :=
  ∀ (pins:List (Addr×Obj)) (s:Shared) (σ:St) (H:Hp) (v:V) (u:Value) (Q:St->Hp->Prop),aC X pins σ H s->bH v u->t v σ H Q ->
    wpAny (model X.prog X.w) X.A (assign target X.env u) (fun _ s'=>NX X pins s' Q) X.xe s
noncomputable def EB (X:Cx) (ts:List Expr) (t:A6):Prop :=
  ∀ (pins:List (Addr×Obj)) (s:Shared) (σ:St) (H:Hp) (vs:List V) (us:List Value) (Q:St->Hp->Prop),aC X pins σ H s->ba vs us->t vs σ H Q ->
    wpAny (model X.prog X.w) X.A (assignInOrder ((assignEach ts X.env).map (·.2)) us) (fun _ s'=>NX X pins s' Q) X.xe s
section
variable {X:Cx} {pos:Pos}
noncomputable def Az (i:Nat):TG:=fun v σ H Q=>Q (σ.set i (some v)) H
theorem pd {i:Nat} {x:Str} (hN:X.N.Nodup) (hi:X.N[i]?=some x) (hx:A0 X.env.scope x) (hf:X.fn x=true\/X.env.scope.names.lookup x=some .local:=by first | exact .inl rfl | exact .inr rfl | assumption):PG X (.Name x pos) (Az i):=by
  intro pins s σ H v u Q I r h;exact wpAny_assign_Name (rk I hN hi hx r (fun s' I'=>⟨_,H,I',h⟩) hf)
noncomputable def Fv:A6:=fun vs σ H Q=>vs=[]/\Q σ H
noncomputable def Di (t:TG) (u:A6):A6:=fun vs σ H Q=>∃ v r,vs=v::r/\t v σ H fun σ' H'=>u r σ' H' Q
theorem zK:EB X [] Fv:=by
  intro pins s σ H vs us Q I r h;obtain ⟨e,h⟩:=h;subst e;cases r;exact assignInOrder_nil ⟨σ,H,I,h⟩
theorem qV {e:Expr} {es:List Expr} {t:TG} {u:A6} (h1:PG X e t) (h2:EB X es u)
    (hs:(assignEach (e::es) X.env).map (·.2)=assign e X.env::(assignEach es X.env).map (·.2):=by rfl):EB X (e::es) (Di t u):=by
  intro pins s σ H vs us Q I r h;obtain ⟨v,vr,e1,h⟩:=h;subst e1;cases r with
  | cons r rr =>
    rw [hs];refine assignInOrder_cons (cR (h1 pins s σ H _ _ _ I r h) fun _ s1 zq0=>?_);obtain ⟨σ1,H1,I1,q1⟩:=zq0;exact h2 pins s1 σ1 H1 _ _ Q I1 rr q1
noncomputable def Fw (K:PySem.W.Frag) (n:Nat) (t:A6):TG:=fun v σ H Q=>∃ a xs,v=.ref a/\gC K H a xs/\xs.length=n/\t xs σ H Q
theorem BP {es:List Expr} {k:Nat} {t:A6} {n:Nat} (hc:X.calm=true) (h:EB X es t)
    (hn:(assignEach es X.env).length=n:=by rfl) (hst:(assignEach es X.env).findIdx? (·.1)=none:=by rfl):PG X (.Tuple es k pos) (Fw X.K n t):=by
  intro pins s σ H v u Q I r hw;obtain ⟨a,xs,e1,hq,hl,hw⟩:=hw;subst e1;cases r;obtain ⟨its,rv,ht,hz⟩:=I.tuple hq;refine assign_Tuple_tuple (I.ok.hd hc) ht (by simp [hn,<- hl,rv.length]) hst fun h' hx=>?_
  have I1:aC X pins σ H { s with heap:=h' }:=I.kept (t':=s.toks) fun b o e=>hx b o (Nat.ne_of_lt (Heap.lt_size e)) e
  exact h pins _ σ H xs _ Q I1 (by simpa using rv) hw
noncomputable def FR (te:TE) (g:TG):TS:=fun D σ H=>te σ H fun x H1=>g x σ H1 D.nx
theorem xD {i:Nat} {x:Str} {e:Expr} {te:TE} {pos':Pos} (hN:X.N.Nodup) (hi:X.N[i]?=some x) (hx:A0 X.env.scope x) (he:PE X e te) (hs:swapsWith e (some (.Name x pos')) pos.line X.env=pure false:=by rfl) (hf:X.fn x=true\/X.env.scope.names.lookup x=some .local:=by first | exact .inl rfl | exact .inr rfl | assumption) :
    PS X (.Assign [.Name x pos'] e pos) (FR te (Az i)):=by
  intro pins s σ H D I h;refine wpAny_Assign_Name (cR (he pins s σ H _ I h) fun v s1 zq0=>?_) hs;obtain ⟨y,H1,I1,r1,q1⟩:=zq0;exact rk I1 hN hi hx r1 (fun s2 I2=>⟨_,H1,I2,q1⟩) hf
end
section
variable {X:Cx} {pos:Pos}
noncomputable def Cq (c:TT) (tb:TS):TS:=fun D σ H=>∃ W:Nat->St->Hp->Prop,(∃ m,W m σ H)/\∀ m σ H,W m σ H ->
  c σ H fun b H1=>if b=true then ∃ N:St->Hp->Prop,(∀ σ' H',N σ' H'->∃ m',m' < m/\W m' σ' H')/\tb { D with nx:=N,ct:=N,bk:=D.nx } σ H1 else D.nx σ H1
theorem xE {c:Expr} {body:List Stmt} {tc:TT} {tb:TS} (hp:PassesOwn (model X.prog X.w) X.A X.env X.xe) (hc:PT X c tc) (hb:ou X body tb):PS X (.While c body [] pos) (Cq tc tb):=by
  intro pins s σ H D I h;obtain ⟨W,⟨m0,w0⟩,turn⟩:=h;refine wpAny_While (codeAny_whileLoop (fun n s'=>NX X pins s' (W n)) ?_ m0 ⟨σ,H,I,w0⟩);rintro n s1 ⟨σ1,H1,I1,w1⟩;refine wpAny_passesOwn hp (cR (hc pins s1 σ1 H1 _ I1 (turn n σ1 H1 w1)) fun b s2 zq0=>?_);obtain ⟨H2,I2,q2⟩:=zq0;cases b with
  | true =>
    obtain ⟨N,hN,q2⟩:=q2;rw [if_pos rfl];refine wpAny_passesOwn hp (cR (hb pins s2 σ1 H2 _ I2 q2) fun f s3 q3=>?_);cases f with
    | next =>
      obtain ⟨σ3,H3,I3,n3⟩:=q3;obtain ⟨m',hm,w3⟩:=hN σ3 H3 n3;exact ⟨m',hm,σ3,H3,I3,w3⟩
    | cont =>
      obtain ⟨σ3,H3,I3,n3⟩:=q3;obtain ⟨m',hm,w3⟩:=hN σ3 H3 n3;exact ⟨m',hm,σ3,H3,I3,w3⟩
    | brk=>exact q3
    | ret v=>exact q3
  | false =>
    rw [if_neg Bool.false_ne_true];exact wpAny_execs_nil ⟨σ1,H2,I2,q2⟩
end
structure It where
  go:Nat->Hp->Prop
  yld:Nat->Hp->V->Hp->Prop
  stop:Nat->Hp->Prop
noncomputable def jv (X:Cx) (pins:List (Addr×Obj)) (H:Hp) (b:Addr):Prop :=
  H b=none/\b≠X.env.locals/\b∉X.fs/\(b∈X.ex\/X.s₀.heap.objs.size<=b)/\(∀ x c,X.env.cells.lookup x=some c->c≠b)/\∀ p∈X.pn++pins,p.1≠b
theorem aC.fpOk {X:Cx} {pins:List (Addr×Obj)} {σ:St} {H H':Hp} {s:Shared} {b:Addr} (I:aC X pins σ H s) (hb:s.heap.objs.size<=b) (hn:H' b=none):jv X pins H' b:=by
  refine ⟨hn,Nat.ne_of_gt (Nat.lt_of_lt_of_le I.lt hb),I.nofs hb,.inr (Nat.le_trans I.sz hb),fun x c e z=>?_,fun p hp z=>?_⟩
  · obtain ⟨v,q⟩:=I.cell x c e;exact absurd (Nat.lt_of_lt_of_le q.lt (by rw [z];exact hb)) (Nat.lt_irrefl _)
  · exact absurd (Nat.lt_of_lt_of_le (Heap.lt_size (I.pin p hp).1) (by rw [z];exact hb)) (Nat.lt_irrefl _)
inductive Gm (X:Cx) (pins:List (Addr×Obj)) (σ:St) (u:Value) (J:It) (i:Nat) (H:Hp) (fp:List Addr) (tn:Nat->Heap->Prop) (s2:Shared):Prop
  | mk (x:V) (H':Hp) (I:aC X pins σ H' s2) (r:bH x u) (y:J.yld i H x H') (t:tn (i+1) s2.heap) (f:∀ b∈fp,H' b=none)
structure rJ (P:Program) (w:World) (K:PySem.W.Frag) (tg:Expr) (J:It) (fp:List Addr) (it:Addr) (tn:Nat->Heap->Prop):Prop where
  mem:it∈fp
  obj:∀ i h,tn i h->∀ b∈fp,∃ o,h.get? b=some o/\∀ v,o.data≠.cell v
  keep:∀ i h h',tn i h->(∀ b∈fp,∀ o,h.get? b=some o->h'.get? b=some o)->tn i h'
  item:∀ (X:Cx),X.prog=P->X.w=w->X.K=K->X.calm=true->∀ (i:Nat) (pins:List (Addr×Obj)) (s:Shared) (σ:St) (H:Hp) (E:Value->Shared->Prop),aC X pins σ H s->(∀ b∈fp,jv X pins H b)->tn i s.heap->J.go i H ->
    wpAny (model P w) X.A (pyNext (.ref it)) (fun r s1=>∃ u,r=some u /\
      wpAny (model P w) X.A (letOwnedTupleGo tg (.ref it) u) (fun _ s2=>Gm X pins σ u J i H fp tn s2) E s1) E s
  done:∀ (X:Cx),X.prog=P->X.w=w->X.K=K->X.calm=true->∀ (i:Nat) (pins:List (Addr×Obj)) (s:Shared) (σ:St) (H:Hp) (E:Value->Shared->Prop),aC X pins σ H s->(∀ b∈fp,jv X pins H b)->tn i s.heap->J.stop i H ->
    wpAny (model P w) X.A (pyNext (.ref it)) (fun r s1=>r=none/\aC X pins σ H s1) E s
  self:∀ (A:Around) (i:Nat) (s:Shared) (Q:Value->Shared->Prop) (E:Value->Shared->Prop),tn i s.heap->Q (.ref it) s->wpAny (model P w) A (pyIter (.ref it)) Q E s
noncomputable abbrev TI:=St->Hp->(It->Hp->Prop)->Prop
inductive F5 (X:Cx) (pins:List (Addr×Obj)) (σ:St) (tg:Expr) (R:It->Hp->Prop) (itv:Value) (s2:Shared):Prop
  | mk (it:Addr) (fp:List Addr) (tn:Nat->Heap->Prop) (J:It) (H':Hp) (e:itv=.ref it) (I:aC X pins σ H' s2) (T:rJ X.prog X.w X.K tg J fp it tn) (t:tn 0 s2.heap) (f:∀ b∈fp,jv X pins H' b) (r:R J H')
noncomputable def PI (X:Cx) (tg iter:Expr) (wi:TI):Prop :=
  ∀ (pins:List (Addr×Obj)) (s:Shared) (σ:St) (H:Hp) (R:It->Hp->Prop),aC X pins σ H s->wi σ H R ->
    wpAny (model X.prog X.w) X.A (eval iter X.env) (fun v s1=>wpAny (model X.prog X.w) X.A (pyIter v) (F5 X pins σ tg R) X.xe s1) X.xe s
theorem tL {M:Model} {A:Around} {E:Value->Shared->Prop} {s:Shared} {tg:Expr} {it:Addr} {u:Value} {o:Obj} {n:String} {vs:Array Value} {Q:Unit->Shared->Prop} (ho:s.heap.get? it=some o) (hc:o.cls=.type n) (hd:o.data=.fields vs)
    (hn:["enumerate","zip","dict_itemiterator","dict_reverseitemiterator","odict_iterator","itertools.zip_longest","itertools.pairwise"].contains n=false) (hQ:Q () s):wpAny M A (letOwnedTupleGo tg (.ref it) u) Q E s:=by
  unfold letOwnedTupleGo;cases tg <;> first
    | exact wpAny_pure hQ
    | (cases u <;> first
        | exact wpAny_pure hQ
        | (refine wpAny_bind (wpAny_load ho ?_)
           rw [hc,hd];show wpAny M A (if (["enumerate","zip","dict_itemiterator","dict_reverseitemiterator","odict_iterator","itertools.zip_longest","itertools.pairwise"].contains n&&vs[0]?==some (rawInt _))=true then _ else _) Q E s;rw [if_neg (by intro h;rw [hn,Bool.false_and] at h;cases h)];exact wpAny_pure hQ))
noncomputable def E0 (K:PySem.W.Frag) (a:Addr):It :=
  ⟨fun i H=>∃ xs x,kQ K H a xs/\xs[i]?=some x,fun i H x H'=>H'=H/\∀ xs,kQ K H a xs->xs[i]?=some x,fun i H=>∃ xs,kQ K H a xs/\xs.length<=i⟩
noncomputable def E1 (K:PySem.W.Frag) (a:Addr):It :=
  ⟨fun i H=>∃ xs x,gC K H a xs/\xs[i]?=some x,fun i H x H'=>H'=H/\∀ xs,gC K H a xs->xs[i]?=some x,fun i H=>∃ xs,gC K H a xs/\xs.length<=i⟩
noncomputable def Ey (lo:Int) (n:Nat):It:=⟨fun i _=>i < n,fun i H x H'=>H'=H/\x=.int (lo+i),fun i _=>n<=i⟩
theorem vI {P:Program} {w:World} {K:PySem.W.Frag} {tg:Expr} (a it:Addr):rJ P w K tg (E0 K a) [it] it (fun i h=>h.IsListIter it a i) where
  mem:=by simp
  obj:=fun i h st b hb=>by
    have e:b=it:=by simpa using hb
    subst e;obtain ⟨o,e,c,d⟩:=st;exact ⟨o,e,fun v z=>by rw [d] at z;cases z⟩
  keep:=fun i h h' st k=>st.at fun o e=>k it (by simp) o e
  item:=by
    intro X hP hw hK hc i pins s σ H E I hf st hg;subst hP hw hK;obtain ⟨xs,x,hq,hx⟩:=hg;obtain ⟨its,rv,p,hz⟩:=I.list hq;obtain ⟨u,hu,ru⟩:=rv.get hx;obtain ⟨f0,f1,f2,f3,f4,f5⟩:=hf it (by simp);refine wpAny_pyNext_list_item st p.isList (x:=u) (by simpa using hu) fun h' st' sb=>?_
    have I1:aC X pins σ H { s with heap:=h' }:=I.turned (t':=s.toks) (fun b o hb e=>(sb.2 b hb).trans e) f0 f1 f3 f4 f5;obtain ⟨o,e,c,d⟩:=id st';exact ⟨u,rfl,tL (s:={ s with heap:=h' }) e c d (by decide) ⟨x,H,I1,ru,⟨rfl,fun ys hy=>by rw [I.list_inj hy hq];exact hx⟩,st',fun b hb=>(hf b hb).1⟩⟩
  done:=by
    intro X hP hw hK hc i pins s σ H E I hf st hg;subst hP hw hK;obtain ⟨xs,hq,hx⟩:=hg;obtain ⟨its,rv,p,hz⟩:=I.list hq;obtain ⟨f0,f1,f2,f3,f4,f5⟩:=hf it (by simp);have hl:=rv.length;exact wpAny_pyNext_list_end (I.ok.hd hc) st p.isList (by simp;omega) fun h' eb=>⟨rfl,I.turned (t':=s.toks) (fun b o hb e=>eb b o hb e) f0 f1 f3 f4 f5⟩
  self:=fun _ _ _ _ _ st h=>wpAny_pyIter_listiter st h
theorem sW {P:Program} {w:World} {K:PySem.W.Frag} {tg:Expr} (a it:Addr):rJ P w K tg (E1 K a) [it] it (fun i h=>h.IsTupleIter it a i) where
  mem:=by simp
  obj:=fun i h st b hb=>by
    have e:b=it:=by simpa using hb
    subst e;obtain ⟨o,e,c,d⟩:=st;exact ⟨o,e,fun v z=>by rw [d] at z;cases z⟩
  keep:=fun i h h' st k=>st.at fun o e=>k it (by simp) o e
  item:=by
    intro X hP hw hK hc i pins s σ H E I hf st hg;subst hP hw hK;obtain ⟨xs,x,hq,hx⟩:=hg;obtain ⟨its,rv,p,hz⟩:=I.tuple hq;obtain ⟨u,hu,ru⟩:=rv.get hx;obtain ⟨f0,f1,f2,f3,f4,f5⟩:=hf it (by simp);refine wpAny_pyNext_tuple_item st (show s.heap.IsTuple a its.toArray from p) (x:=u) (by simpa using hu) fun h' st' sb=>?_
    have I1:aC X pins σ H { s with heap:=h' }:=I.turned (t':=s.toks) (fun b o hb e=>(sb.2 b hb).trans e) f0 f1 f3 f4 f5;obtain ⟨o,e,c,d⟩:=id st';exact ⟨u,rfl,tL (s:={ s with heap:=h' }) e c d (by decide) ⟨x,H,I1,ru,⟨rfl,fun ys hy=>by rw [I.tuple_inj hy hq];exact hx⟩,st',fun b hb=>(hf b hb).1⟩⟩
  done:=by
    intro X hP hw hK hc i pins s σ H E I hf st hg;subst hP hw hK;obtain ⟨xs,hq,hx⟩:=hg;obtain ⟨its,rv,p,hz⟩:=I.tuple hq;obtain ⟨f0,f1,f2,f3,f4,f5⟩:=hf it (by simp);have hl:=rv.length;exact wpAny_pyNext_tuple_end (I.ok.hd hc) st (show s.heap.IsTuple a its.toArray from p) (by simp;omega) fun h' eb=>⟨rfl,I.turned (t':=s.toks) (fun b o hb e=>eb b o hb e) f0 f1 f3 f4 f5⟩
  self:=fun _ _ _ _ _ st h=>wpAny_pyIter_tupleiter st h
theorem sV {P:Program} {w:World} {K:PySem.W.Frag} {tg:Expr} (it:Addr) (lo:Int) (n:Nat):rJ P w K tg (Ey lo n) [it] it (fun i h=>IsRangeIter h it (lo+(i:Nat)*1) ((n:Int)-(i:Nat)) 1) where
  mem:=by simp
  obj:=fun i h st b hb=>by
    have e:b=it:=by simpa using hb
    subst e;exact ⟨_,st,fun v z=>by
      have z':Data.fields _=Data.cell v:=z;cases z'⟩
  keep:=fun i h h' st k=>k it (by simp) _ st
  item:=by
    intro X hP hw hK hc i pins s σ H E I hf st hg;subst hP hw hK;obtain ⟨f0,f1,f2,f3,f4,f5⟩:=hf it (by simp);have W:=Walks.range (prog:=X.prog) (w:=X.w) (I.ok.hd hc) it lo 1 n;refine W.item i s _ _ hg st fun v h' tk hv st' kk=>?_
    obtain ⟨t,rfl⟩:=hv;have I1:aC X pins σ H { s with heap:=h',toks:=tk }:=I.turned (fun b o hb e=>kk b o (by simpa using hb) e) f0 f1 f3 f4 f5;refine ⟨_,rfl,tL (s:={ s with heap:=h',toks:=tk }) (n := "range_iterator") st' rfl rfl (by decide) ⟨.int (lo+i),H,I1,⟨t,?_⟩,⟨rfl,rfl⟩,st',fun b hb=>(hf b hb).1⟩⟩;rw [Int.mul_one]
  done:=by
    intro X hP hw hK hc i pins s σ H E I hf st hg;subst hP hw hK;obtain ⟨f0,f1,f2,f3,f4,f5⟩:=hf it (by simp);exact wpAny_pyNext_range_end (I.ok.hd hc) st (by have:n<=i:=hg;omega) fun h' eb=>⟨rfl,I.turned (t':=s.toks) (fun b o hb e=>eb b o hb e) f0 f1 f3 f4 f5⟩
  self:=fun _ _ _ _ _ st h=>wpAny_pyIter_rangeiter st h
section
variable {X:Cx} {tg:Expr}
theorem xJ {pins:List (Addr×Obj)} {σ:St} {H:Hp} {s:Shared} {R:It->Hp->Prop} {E:Value->Shared->Prop} {lo hi:Int} {t u v:Tok} {tk:Nat} (I:aC X pins σ H s) (h1:-(2 ^ 62)<=lo) (h2:lo < 2 ^ 62) (h3:-(2 ^ 62)<=hi) (h4:hi < 2 ^ 62)
    (q:R (Ey lo (hi-lo).toNat) H):wpAny (model X.prog X.w) X.A (pyIter (.ref s.heap.objs.size)) (F5 X pins σ tg R) E { s with heap:=s.heap.push { cls:=.type "range",data:=.fields #[.int lo t,.int hi u,.int 1 v] },toks:=tk }:=by
  refine wpAny_pyIter_range (IsRange.new ..) (small_one h1 h2 h3 h4) ?_;have I1:aC X pins σ H { s with heap:=s.heap.push { cls:=.type "range",data:=.fields #[.int lo t,.int hi u,.int 1 v] },toks:=tk }:=I.kept fun b o e=>Heap.get?_push_of_some _ e
  refine ⟨(s.heap.push { cls:=.type "range",data:=.fields #[.int lo t,.int hi u,.int 1 v] }).objs.size,[(s.heap.push { cls:=.type "range",data:=.fields #[.int lo t,.int hi u,.int 1 v] }).objs.size],_,_,H,rfl,
    I1.kept (t':=tk) fun b o e=>Heap.get?_push_of_some _ e,sV _ lo (hi-lo).toNat,?_,fun b hb=>?_,q⟩
  · have e1:lo+((0:Nat):Int)*1=lo:=by simp
    have e2:(((hi-lo).toNat:Nat):Int)-((0:Nat):Int)=Builtin.Range.rangeSize lo hi 1:=by rw [rangeSize_one];split <;> omega
    show IsRangeIter _ _ (lo+((0:Nat):Int)*1) ((((hi-lo).toNat:Nat):Int)-((0:Nat):Int)) 1;rw [e1,e2];exact Heap.get?_push_size _ rfl
  · have e:b=(s.heap.push { cls:=.type "range",data:=.fields #[.int lo t,.int hi u,.int 1 v] }).objs.size:=by simpa using hb
    subst e;exact I1.fpOk (Nat.le_refl _) (I1.hok.fresh (Nat.le_refl _))
noncomputable def Do (ta:TA):TI:=fun σ H R=>ta σ H fun vs H1=>∃ j:Int,vs=[.int j]/\-(2 ^ 62)<=j/\j < 2 ^ 62/\R (Ey 0 j.toNat) H1
theorem vw {a:Expr} {ta:TA} {p pos:Pos} (hg:Gl X "range") (hm:X.mg "range" = none) (ha:PA X [a] ta) (hs:starEach [a] X.env=[(false,eval a X.env)]:=by rfl):PI X tg (.Call (.Name "range" p) [a] [] pos) (Do ta):=by
  intro pins s σ H R I h;refine Call_ (jj I hg hm boot_range (PyProof.Rows.callWith_type1 (cR (ha pos pins s σ H _ I h) fun us s1 zq0=>?_) hs rfl));obtain ⟨vs,H1,I1,r1,q1⟩:=zq0;obtain ⟨j,e,q1,q2,q⟩:=q1;subst e;cases r1 with
  | cons r rr =>
    cases rr;obtain ⟨t,rfl⟩:=r;exact call_range_1 (xJ I1 (by omega) (by omega) q1 q2 (by simpa using q))
noncomputable def FS (wi:TI) (g:TG) (tb:TS):TS:=fun D σ H=>wi σ H fun J H1=>∃ W:Nat->Nat->St->Hp->Prop,(∃ m,W 0 m σ H1)/\∀ i m σ H,W i m σ H ->
  (J.stop i H/\D.nx σ H)\/(J.go i H/\∃ N:St->Hp->Prop,(∀ σ' H',N σ' H'->∃ m',m' < m/\W (i+1) m' σ' H')/\∀ x H',J.yld i H x H'->g x σ H' fun σ2 H2=>tb { D with nx:=N,ct:=N,bk:=D.nx } σ2 H2)
noncomputable def mi (fp:List Addr) (h:Heap):List (Addr×Obj):=fp.filterMap fun b=>(h.get? b).map fun o=>(b,o)
theorem gR {fp:List Addr} {h:Heap} {b:Addr} {o:Obj} (hb:b∈fp) (e:h.get? b=some o):(b,o)∈mi fp h:=List.mem_filterMap.mpr ⟨b,hb,by rw [e];rfl⟩
theorem vp {fp:List Addr} {h:Heap} {p:Addr×Obj} (hp:p∈mi fp h):p.1∈fp/\h.get? p.1=some p.2:=by
  obtain ⟨b,hb,e⟩:=List.mem_filterMap.mp hp;cases q:h.get? b with
  | none=>rw [q] at e;cases e
  | some o =>
    rw [q] at e;have e':(b,o)=p:=Option.some.inj e;subst e';exact ⟨hb,q⟩
theorem aC.pinned {pins:List (Addr×Obj)} {σ:St} {H:Hp} {s:Shared} {fp:List Addr} (I:aC X pins σ H s) (hf:∀ b∈fp,jv X pins H b) (ho:∀ b∈fp,∃ o,s.heap.get? b=some o/\∀ v,o.data≠.cell v):aC X (pins++mi fp s.heap) σ H s :=
  I.pins_of fun p hp=>(List.mem_append.mp hp).elim (fun z=>I.pin p (List.mem_append_right _ z)) fun z=>by
    obtain ⟨hb,e⟩:=vp z;obtain ⟨f0,f1,f2,_⟩:=hf p.1 hb;obtain ⟨o,e',d⟩:=ho p.1 hb;rw [e] at e';cases e';exact ⟨e,f0,f1,f2,d⟩
theorem aC.unpinned {pins pl:List (Addr×Obj)} {σ:St} {H:Hp} {s:Shared} (I:aC X (pins++pl) σ H s):aC X pins σ H s:=I.pins_of fun p hp=>I.pin p (List.mem_append_right _ (List.mem_append_left _ hp))
theorem BQ {iter:Expr} {body:List Stmt} {wi:TI} {g:TG} {tb:TS} {pos:Pos} (hp:PassesOwn (model X.prog X.w) X.A X.env X.xe) (hc:X.calm=true) (hi:PI X tg iter wi) (hg:PG X tg g) (hb:ou X body tb)
    (hs:∀ x,foldedSetIterable iter X.env x=pure x:=by intro _;rfl):PS X (.For tg iter body [] pos) (FS wi g tb):=by
  intro pins s σ H D I h;refine wpAny_For (cR (hi pins s σ H _ I h) fun v s1 h1=>cR h1 fun itv s2 h2=>?_) hs;obtain ⟨it,fp,tn,J,H2,e,I2,T,st2,f2,W,⟨m0,w0⟩,turn⟩:=h2;subst e
  -- what stays true of the iterator's objects through the loop
  have stat:∀ {H':Hp},(∀ b∈fp,H' b=none)->∀ b∈fp,jv X pins H' b:=fun hn b hb=>⟨hn b hb,(f2 b hb).2⟩
  refine codeAny_forLoop_any (fun n s'=>∃ i σ' H',aC X pins σ' H' s'/\tn i s'.heap/\(∀ b∈fp,H' b=none)/\W i n σ' H') ?_ m0 ⟨0,σ,H2,I2,st2,fun b hb=>(f2 b hb).1,w0⟩;rintro n s3 ⟨i,σ3,H3,I3,st3,fr3,w3⟩;rcases turn i n σ3 H3 w3 with ⟨stop,qn⟩ | ⟨go,N,hN,step⟩
  · refine wpAny_passesOwn hp (cR (T.done X rfl rfl rfl hc i pins s3 σ3 H3 X.xe I3 (stat fr3) st3 stop) fun r s4 zq0=>?_);obtain ⟨hr,I4⟩:=zq0;subst hr;exact wpAny_execs_nil ⟨σ3,H3,I4,qn⟩
  · refine wpAny_passesOwn hp (cR (T.item X rfl rfl rfl hc i pins s3 σ3 H3 X.xe I3 (stat fr3) st3 go) fun r s4 zq0=>?_);obtain ⟨u,hr,h4⟩:=zq0;subst hr;refine wpAny_passesOwn hp (cR h4 fun _ s5 zq0=>?_);obtain ⟨x,H5,I5,r5,y5,st5,fr5⟩:=zq0;have I5':=I5.pinned (stat fr5) (T.obj _ _ st5);refine wpAny_passesOwn hp (cR (hg _ s5 σ3 H5 x u _ I5' r5 (step x H5 y5)) fun _ s6 zq0=>?_);obtain ⟨σ6,H6,I6,q6⟩:=zq0;refine wpAny_passesOwn hp (cR (hb _ s6 σ6 H6 _ I6 q6) fun f s7 q7=>?_);have again:∀ {σ7:St} {H7:Hp},aC X (pins++mi fp s5.heap) σ7 H7 s7->N σ7 H7->∃ m,m < n/\∃ i σ' H',aC X pins σ' H' s7/\tn i s7.heap/\(∀ b∈fp,H' b=none)/\W i m σ' H':=fun {σ7 H7} I7 n7=>by
      obtain ⟨m',hm,w7⟩:=hN σ7 H7 n7;refine ⟨m',hm,i+1,σ7,H7,I7.unpinned,T.keep _ _ _ st5 fun b hb o e=>(I7.pin (b,o) (List.mem_append_right _ (List.mem_append_right _ (gR hb e)))).1,fun b hb=>?_,w7⟩;obtain ⟨o,e,d⟩:=T.obj _ _ st5 b hb;exact (I7.pin (b,o) (List.mem_append_right _ (List.mem_append_right _ (gR hb e)))).2.1
    cases f with
    | next=>obtain ⟨σ7,H7,I7,n7⟩:=q7;exact again I7 n7
    | cont=>obtain ⟨σ7,H7,I7,n7⟩:=q7;exact again I7 n7
    | brk=>obtain ⟨σ7,H7,I7,q7⟩:=q7;exact ⟨σ7,H7,I7.unpinned,q7⟩
    | ret v=>obtain ⟨x7,σ7,H7,I7,r7,q7⟩:=q7;exact ⟨x7,σ7,H7,I7.unpinned,r7,q7⟩
end
noncomputable abbrev R2:=V->V->Hp->VK->Prop
noncomputable def h8 (X:Cx) (f:Value->Value->Sem Value) (r:R2):Prop :=
  ∀ (pins:List (Addr×Obj)) (s:Shared) (σ:St) (H:Hp) (x y:V) (v u:Value) (Q:VK),aC X pins σ H s->bH x v->bH y u->r x y H Q ->
    wpAny (model X.prog X.w) X.A (f v u) (EP X pins σ Q) X.xe s
noncomputable def E4 (X:Cx) (f:Value->Sem Value) (r:V->Hp->VK->Prop):Prop :=
  ∀ (pins:List (Addr×Obj)) (s:Shared) (σ:St) (H:Hp) (x:V) (v:Value) (Q:VK),aC X pins σ H s->bH x v->r x H Q ->
    wpAny (model X.prog X.w) X.A (f v) (EP X pins σ Q) X.xe s
noncomputable def c7 (X:Cx) (f:Value) (r:List V->Hp->VK->Prop):Prop :=
  ∀ (pins:List (Addr×Obj)) (s:Shared) (σ:St) (H:Hp) (xs:List V) (us:List Value) (Q:VK),aC X pins σ H s->ba xs us->r xs H Q ->
    wpAny (model X.prog X.w) X.A (call f us) (EP X pins σ Q) X.xe s
noncomputable def Eh (r:R2) (ta tb:TE):TE:=fun σ H Q=>ta σ H fun x H1=>tb σ H1 fun y H2=>r x y H2 Q
noncomputable def Ge (r:V->Hp->VK->Prop) (ta:TE):TE:=fun σ H Q=>ta σ H fun x H1=>r x H1 Q
noncomputable def rI (C:Int->Int->Prop) (g:Int->Int->V):R2:=fun x y H Q=>∃ i j,x=.int i/\y=.int j/\C i j/\Q (g i j) H
noncomputable def yt (g:Int->Int->V):R2:=fun x y H Q=>∃ i j,x=.int i/\y=.int j/\Q (g i j) H
noncomputable def rU (g:Int->V):V->Hp->VK->Prop:=fun x H Q=>∃ i,x=.int i/\Q (g i) H
section
variable {X:Cx} {a b c:Expr} {ta tb tc:TE} {pos:Pos}
theorem Bd (ha:PE X a ta) (hb:PE X b tb) {pins:List (Addr×Obj)} {s:Shared} {σ:St} {H:Hp} {R:V->V->Hp->Prop} (I:aC X pins σ H s)
    (h:ta σ H fun x H1=>tb σ H1 fun y H2=>R x y H2) {Q:Value->Shared->Prop} {f:Value->Value->Sem Value}
    (hf:∀ v u s2 x y H2,aC X pins σ H2 s2->bH x v->bH y u->R x y H2->wpAny (model X.prog X.w) X.A (f v u) Q X.xe s2) :
    wpAny (model X.prog X.w) X.A (eval a X.env) (fun v s₁=>wpAny (model X.prog X.w) X.A (eval b X.env) (fun u s₂=>wpAny (model X.prog X.w) X.A (f v u) Q X.xe s₂) X.xe s₁) X.xe s:=by
  refine cR (ha pins s σ H _ I h) fun v s1 zq0=>?_
  obtain ⟨x,H1,I1,r1,q1⟩:=zq0;refine cR (hb pins s1 σ H1 _ I1 q1) fun u s2 zq0=>?_
  obtain ⟨y,H2,I2,r2,q2⟩:=zq0;exact hf v u s2 x y H2 I2 r1 r2 q2
theorem DI {op:Operator} {r:R2} (ho:h8 X (binaryOp op) r) (ha:PE X a ta) (hb:PE X b tb):PE X (.BinOp a op b pos) (Eh r ta tb):=by
  intro pins s σ H Q I h;exact wpAny_BinOp (Bd ha hb I h fun v u s2 x y H2 I2 rx ry q=>ho pins s2 σ H2 x y v u Q I2 rx ry q)
theorem DK {op:UnaryOp} {r:V->Hp->VK->Prop} (ho:E4 X (unaryOp op) r) (ha:PE X a ta):PE X (.UnaryOp op a pos) (Ge r ta):=by
  intro pins s σ H Q I h;exact UnaryOp_ (cR (ha pins s σ H _ I h) fun v s1 ⟨x,H1,I1,r1,q1⟩=>ho pins s1 σ H1 x v Q I1 r1 q1)
theorem FG {f:Value->Value->Sem Value} {C:Int->Int->Prop} {g:Int->Int->Int}
    (rule:∀ (i j:Int) (t u:Tok) (s:Shared) (Q:Value->Shared->Prop) (E:Value->Shared->Prop),C i j->Q (.int (g i j) s.toks) { s with toks:=s.toks+1 }->wpAny (model X.prog X.w) X.A (f (.int i t) (.int j u)) Q E s) :
    h8 X f (rI C fun i j=>.int (g i j)):=by
  intro pins s σ H x y v u Q I rx ry h;obtain ⟨i,j,rfl,rfl,hc,q⟩:=h;obtain ⟨t,rfl⟩:=rx;obtain ⟨t',rfl⟩:=ry;exact rule i j t t' s _ _ hc ⟨.int (g i j),H,I.tok _,⟨_,rfl⟩,q⟩
theorem DC {f:Value->Value->Sem Value} {g:Int->Int->Int}
    (rule:∀ (i j:Int) (t u:Tok) (s:Shared) (Q:Value->Shared->Prop) (E:Value->Shared->Prop),Q (.int (g i j) s.toks) { s with toks:=s.toks+1 }->wpAny (model X.prog X.w) X.A (f (.int i t) (.int j u)) Q E s) :
    h8 X f (yt fun i j=>.int (g i j)):=by
  intro pins s σ H x y v u Q I rx ry h;obtain ⟨i,j,rfl,rfl,q⟩:=h;obtain ⟨t,rfl⟩:=rx;obtain ⟨t',rfl⟩:=ry;exact rule i j t t' s _ _ ⟨.int (g i j),H,I.tok _,⟨_,rfl⟩,q⟩
theorem BC {f:Value->Value->Sem Value} {g:Int->Int->Bool}
    (rule:∀ (i j:Int) (t u:Tok) (s:Shared) (Q:Value->Shared->Prop) (E:Value->Shared->Prop),Q (.bool (g i j)) s->wpAny (model X.prog X.w) X.A (f (.int i t) (.int j u)) Q E s) :
    h8 X f (yt fun i j=>.bl (g i j)):=by
  intro pins s σ H x y v u Q I rx ry h;obtain ⟨i,j,rfl,rfl,q⟩:=h;obtain ⟨t,rfl⟩:=rx;obtain ⟨t',rfl⟩:=ry;exact rule i j t t' s _ _ ⟨.bl (g i j),H,I,rfl,q⟩
noncomputable def CC (i j:Int):Prop:=0 < j/\j < 1073741824
noncomputable def yz (i j:Int):Prop:=(-(2 ^ 64) < i/\i < 2 ^ 64)\/(-(2 ^ 64) < j/\j < 2 ^ 64)
theorem yz.ok {i j:Int} (h:yz i j):IntMulOk i j:=by
  rcases h with ⟨h1,h2⟩ | ⟨h1,h2⟩
  · exact .of_left (intBits_le_64 h1 h2)
  · exact .of_right (intBits_le_64 h1 h2)
theorem BD:h8 X (binaryOp .Add) (yt fun i j=>.int (i+j)):=DC fun _ _ _ _ _ _ _ q=>add_int q
theorem BG:h8 X (binaryOp .Sub) (yt fun i j=>.int (i-j)):=DC fun _ _ _ _ _ _ _ q=>sub_int q
theorem BF:h8 X (binaryOp .Mult) (rI yz fun i j=>.int (i*j)):=FG fun _ _ _ _ _ _ _ hc q=>mul_int q hc.ok
theorem zB:h8 X (binaryOp .FloorDiv) (rI CC fun i j=>.int (i / j)):=FG fun i j _ _ _ _ _ hc q=>by
  have h1:(0:Int) < j:=hc.1;have h2:j < 1073741824:=hc.2;exact floordiv_int (by omega) (by rw [Int.fdiv_eq_ediv_of_nonneg i (by omega)];exact q) (.inl (PyProof.noPylong_small (by omega)))
theorem BE:h8 X (binaryOp .Mod) (rI (fun _ j=>0 < j) fun i j=>.int (i%j)):=FG fun i j _ _ _ _ _ hc q=>by
  have h1:(0:Int) < j:=hc;exact mod_int' (by omega) (by rw [Int.fmod_eq_emod_of_nonneg i (by omega)];exact q)
theorem Gy {f:Value->Sem Value} {g:Int->Int}
    (rule:∀ (i:Int) (t:Tok) (s:Shared) (Q:Value->Shared->Prop) (E:Value->Shared->Prop),Q (.int (g i) s.toks) { s with toks:=s.toks+1 }->wpAny (model X.prog X.w) X.A (f (.int i t)) Q E s) :
    E4 X f (rU fun i=>.int (g i)):=by
  intro pins s σ H x v Q I rx h;obtain ⟨i,rfl,q⟩:=h;obtain ⟨t,rfl⟩:=rx;exact rule i t s _ _ ⟨.int (g i),H,I.tok _,⟨_,rfl⟩,q⟩
theorem Cu:E4 X (unaryOp .USub) (rU fun i=>.int (-i)):=Gy fun _ _ _ _ _ q=>neg_int q
end
section
variable {X:Cx} {a b c:Expr} {ta tb tc:TE} {pos:Pos}
theorem qT:h8 X (compareOp .Lt) (yt fun i j=>.bl (decide (i < j))):=BC fun _ _ _ _ _ _ _ q=>lt_int q
theorem qS:h8 X (compareOp .LtE) (yt fun i j=>.bl (decide (i<=j))):=BC fun _ _ _ _ _ _ _ q=>le_int q
theorem DD:h8 X (compareOp .Gt) (yt fun i j=>.bl (decide (j < i))):=BC fun _ _ _ _ _ _ _ q=>gt_int q
theorem h8.or {f:Value->Value->Sem Value} {r r':R2} (h:h8 X f r) (h':h8 X f r'):h8 X f (fun x y H Q=>r x y H Q\/r' x y H Q):=by
  intro pins s σ H x y v u Q I rx ry q;rcases q with q | q
  · exact h pins s σ H x y v u Q I rx ry q
  · exact h' pins s σ H x y v u Q I rx ry q
theorem jl (b:Expr) {op:CmpOp} (h:op≠.In:=by decide) (h2:op≠.NotIn:=by decide):behindInMarks op b=false:=by
  have e1:(op==CmpOp.In)=false:=by cases op <;> first | rfl | exact absurd rfl h
  have e2:(op==CmpOp.NotIn)=false:=by cases op <;> first | rfl | exact absurd rfl h2
  cases b <;> simp [behindInMarks,e1,e2]
theorem zI {op:CmpOp} {r:R2} (ho:h8 X (compareOp op) r) (ha:PE X a ta) (hb:PE X b tb) (hm:behindInMarks op b=false):PE X (.Compare a [op] [b] pos) (Eh r ta tb):=by
  intro pins s σ H Q I h;exact wpAny_Compare1 (Bd ha hb I h fun v u s2 x y H2 I2 rx ry q=>ho pins s2 σ H2 x y v u Q I2 rx ry q) hm
noncomputable def AR (t:TE):TT:=fun σ H Q=>t σ H fun x H'=>∃ k,x=.bl k/\Q k H'
theorem zS {op:CmpOp} {r:R2} (ho:h8 X (compareOp op) r) (ha:PE X a ta) (hb:PE X b tb) (hm:behindInMarks op b=false):PT X (.Compare a [op] [b] pos) (AR (Eh r ta tb)):=by
  intro pins s σ H Q I h;refine wpAny_isTrue_Compare1 (cR (ha pins s σ H _ I h) fun v s1 ⟨x,H1,I1,r1,q1⟩=>cR (hb pins s1 σ H1 _ I1 q1) fun u s2 ⟨y,H2,I2,r2,q2⟩ =>
    cR (ho pins s2 σ H2 x y v u _ I2 r1 r2 q2) fun c s3 ⟨z,H3,I3,r3,k,e,q3⟩=>?_) hm
  subst e;cases r3;exact wpAny_truthy_bool ⟨H3,I3,q3⟩
noncomputable def sR (r r':R2) (ta tb tc:TE):TE:=fun σ H Q=>ta σ H fun x H1=>tb σ H1 fun y H2=>r x y H2 fun z H3=>∃ k,z=.bl k /\
  (if k=true then tc σ H3 fun w' H4=>r' y w' H4 Q else Q (.bl false) H3)
theorem xt {op op':CmpOp} {r r':R2} (ho:h8 X (compareOp op) r) (ho':h8 X (compareOp op') r') (ha:PE X a ta) (hb:PE X b tb) (hc:PE X c tc)
    (hm:lastMarks [op,op'] [b,c]=false:=by with_unfolding_all rfl):PE X (.Compare a [op,op'] [b,c] pos) (sR r r' ta tb tc):=by
  intro pins s σ H Q I h;refine Compare_chain (cR (ha pins s σ H _ I h) fun v s1 ⟨x,H1,I1,r1,q1⟩=>chain_link (cR (hb pins s1 σ H1 _ I1 q1) fun u s2 ⟨y,H2,I2,r2,q2⟩ =>
    cR (ho pins s2 σ H2 x y v u _ I2 r1 r2 q2) fun d s3 ⟨z,H3,I3,r3,k,e,q3⟩=>?_)) hm
  subst e;cases r3;refine wpAny_truthy_bool ?_;cases k with
  | false=>exact ite_ff ⟨.bl false,H3,I3,rfl,q3⟩
  | true=>exact ite_tt (chain_last (cR (hc pins s3 σ H3 _ I3 q3) fun w' s4 ⟨z',H4,I4,r4,q4⟩=>ho' pins s4 σ H4 y z' u w' Q I4 r2 r4 q4))
theorem xG {op op':CmpOp} {r r':R2} (ho:h8 X (compareOp op) r) (ho':h8 X (compareOp op') r') (ha:PE X a ta) (hb:PE X b tb) (hc:PE X c tc)
    (hm:lastMarks [op,op'] [b,c]=false:=by with_unfolding_all rfl):PT X (.Compare a [op,op'] [b,c] pos) (AR (sR r r' ta tb tc)):=by
  intro pins s σ H Q I h;refine isTrue_chain (cR (ha pins s σ H _ I h) fun v s1 ⟨x,H1,I1,r1,q1⟩=>test_link (cR (hb pins s1 σ H1 _ I1 q1) fun u s2 ⟨y,H2,I2,r2,q2⟩ =>
    cR (ho pins s2 σ H2 x y v u _ I2 r1 r2 q2) fun d s3 ⟨z,H3,I3,r3,k,e,q3⟩=>?_)) hm
  subst e;cases r3;refine wpAny_truthy_bool ?_;cases k with
  | false =>
    obtain ⟨k',e',q'⟩:=q3;cases e';exact ite_ff ⟨H3,I3,q'⟩
  | true =>
    refine ite_tt (test_last (cR (hc pins s3 σ H3 _ I3 q3) fun w' s4 ⟨z',H4,I4,r4,q4⟩=>cR (ho' pins s4 σ H4 y z' u w' _ I4 r2 r4 q4) fun d' s5 zq0=>?_));obtain ⟨z2,H5,I5,r5,k2,e2,q5⟩:=zq0;subst e2;cases r5;exact wpAny_truthy_bool ⟨H5,I5,q5⟩
theorem l3:(sizeLine:Nat) < 2 ^ 63:=by rw [sizeLine_eq];decide
theorem eX {x:V} {us:List Value} (r:ba [x] us):∃ u,us=[u]/\bH x u:=by
  cases r with
  | cons r1 r2=>cases r2;exact ⟨_,rfl,r1⟩
theorem yk {x y:V} {us:List Value} (r:ba [x,y] us):∃ u w',us=[u,w']/\bH x u/\bH y w':=by
  cases r with
  | cons r1 r2 =>
    cases r2 with
    | cons r3 r4=>cases r4;exact ⟨_,_,rfl,r1,r3⟩
theorem uE (hc:X.calm=true):c7 X (.builtin "max") (fun xs H Q=>∃ i j,xs=[.int i,.int j]/\Q (.int (if j > i then j else i)) H):=by
  intro pins s σ H xs us Q I r h;obtain ⟨i,j,rfl,q⟩:=h;obtain ⟨u,w',rfl,⟨t,rfl⟩,⟨t',rfl⟩⟩:=yk r;refine max_two_ints (I.ok.hd hc) fun h' tk k=>⟨_,H,I.kept k,?_,q⟩
  by_cases hj:j > i
  · rw [if_pos hj,if_pos hj];exact ⟨_,rfl⟩
  · rw [if_neg hj,if_neg hj];exact ⟨_,rfl⟩
theorem uG (hc:X.calm=true):c7 X (.builtin "min") (fun xs H Q=>∃ i j,xs=[.int i,.int j]/\Q (.int (if j < i then j else i)) H):=by
  intro pins s σ H xs us Q I r h;obtain ⟨i,j,rfl,q⟩:=h;obtain ⟨u,w',rfl,⟨t,rfl⟩,⟨t',rfl⟩⟩:=yk r;refine min_two_ints (I.ok.hd hc) fun h' tk k=>⟨_,H,I.kept k,?_,q⟩
  by_cases hj:j < i
  · rw [if_pos hj,if_pos hj];exact ⟨_,rfl⟩
  · rw [if_neg hj,if_neg hj];exact ⟨_,rfl⟩
theorem uB:c7 X (.type "int") (fun xs H Q=>(∃ i,xs=[.int i]/\Q (.int i) H)\/∃ k,xs=[.bl k]/\Q (.int (if k then 1 else 0)) H):=by
  intro pins s σ H xs us Q I r h;rcases h with ⟨i,rfl,q⟩ | ⟨k,rfl,q⟩
  · obtain ⟨u,rfl,t,rfl⟩:=eX r;exact call_int_int ⟨.int i,H,I,⟨_,rfl⟩,q⟩
  · obtain ⟨u,rfl,r1⟩:=eX r;cases r1;exact call_int_bool ⟨.int (if k then 1 else 0),H,I.tok _,⟨_,rfl⟩,q⟩
end
structure A2 (h:Heap) (x dx C:Addr) (mA:Str->Option Value):Prop where
  obj:h.get? x=some (PySem.W.instObj C dx)
  ns:h.Ns1 dx mA
  ne:dx≠x
theorem vi {h:Heap} {dx:Addr} {mA:Str->Option Value} (n:h.Ns1 dx mA):∃ od,h.get? dx=some od/\∀ name,PySem.W.lookIn name od=some (mA name):=by
  obtain ⟨o,es,ep,ho,hd,hk,_,hm⟩:=n;refine ⟨o,ho,fun name=>?_⟩;have e:=hm name;unfold nsFind findBy at e;rw [<- Array.find?_toList] at e;unfold PySem.W.lookIn;rw [hd];dsimp only;split
  · rename_i y q;rw [q] at e;exact congrArg some e
  · rename_i q;rw [q] at e;have a:es.toList.any (·.refKey)=false:=by
      rw [List.any_eq_false];intro y hy;obtain ⟨z,t,hkey⟩:=hk y (Array.mem_toList_iff.mp hy);simp [DictEntry.refKey,hkey]
    have a':¬ es.toList.any (·.refKey)=true:=by rw [a];exact Bool.false_ne_true
    rw [if_neg a'];exact congrArg some e
theorem A2.look {h:Heap} {x dx C:Addr} {mA:Str->Option Value} (I:A2 h x dx C mA):∃ od,PySem.W.InstAt h x (PySem.W.instObj C dx) C (some od)/\∀ name,PySem.W.lookIn name od=some (mA name) :=
  let ⟨od,ho,hl⟩:=vi I.ns
  ⟨od,⟨I.obj,rfl,rfl,ho⟩,hl⟩
theorem lq.some_of {v:V} {o:Option Value} (r:lq (some v) o):∃ u,o=some u/\bH v u:=by
  cases o with
  | none=>exact (show False from r).elim
  | some u=>exact ⟨u,rfl,r⟩
section
variable {P:Program} {w:World} {H H':Hp} {h h':Heap} {a C dx:Addr} {fs fs':List (Str×V)}
theorem zi (hok:gg P w H h) (e:H a=some (.ins C dx fs)):∃ mA,A2 h a dx C mA/\(∀ f,lq (fs.lookup f) (mA f))/\PySem.Within mA (fs.map (·.1))/\fs.length<=1000/\H dx=some (.own a):=by
  obtain ⟨d,z,ne,ob,mA,n,r,q⟩:=(show bG P w H h a (.ins C dx fs) from hok a _ e)
  exact ⟨mA,⟨ob,n,ne⟩,r,q,z,d⟩
end
structure EY (K:PySem.W.Frag) (C:Addr):Prop where
  pg:PySem.W.plainGet K C Str.empty=true
  hd:PySem.W.hasDictIn K C=true
  po:PySem.W.plainOver K C=true
  sa:PySem.W.findIn K (.ref C) "__setattr__" = some (some (.builtin "object.__setattr__"))
theorem EY.get {K:PySem.W.Frag} {C:Addr} (c:EY K C) (f:Str):PySem.W.plainGet K C f=true:=c.pg
section
variable {X:Cx} {pins:List (Addr×Obj)} {σ:St} {H:Hp} {s:Shared} {A:Around} {E:Value->Shared->Prop} {Q:Value->Shared->Prop} {c:Value} {b:Bool}
inductive jw (K:PySem.W.Frag) (H:Hp):V->Value->Prop where
  | non:jw K H .non (.type "NoneType")
  | bl (x:Bool):jw K H (.bl x) (.type "bool")
  | int (i:Int):jw K H (.int i) (.type "int")
  | str (x:Str):jw K H (.str x) (.type "str")
  | flt (x:UInt64):jw K H (.flt x) (.type "float")
  | lst {a:Addr} {xs:List V} (e:H a=some (.lst xs)):jw K H (.ref a) (.type "list")
  | frz {a:Addr} {o:Obj} {xs:List V} (e:H a=some (.frz o (.lst xs))):jw K H (.ref a) (.type "list")
  | tup {a:Addr} {xs:List V} (e:H a=some (.tup xs)):jw K H (.ref a) (.type "tuple")
  | dK {a:Addr} {kvs:List (bp×V)} (e:H a=some (.dK kvs)):jw K H (.ref a) (.type "dict")
  | dT {a:Addr} {kvs:List (List bp×V)} (e:H a=some (.dT kvs)):jw K H (.ref a) (.type "dict")
  | ins {a C dx:Addr} {fs:List (Str×V)} (e:H a=some (.ins C dx fs)) (cl:EY K C) (ha:PySem.W.findIn K (.ref C) "__class__" = some (some (.builtin "object.__class__")))
      (hn:PySem.W.specialIn K (.builtin "object.__class__") "__get__" = some (some (.builtin "getset_descriptor.__get__"))) (htk:PySem.W.takesIn K (.builtin "object.__class__")=some true)
      (hm:PySem.W.mroIn K C (.type "object")=some true):jw K H (.ref a) (.ref C)
theorem u8 {x:V} {u t:Value} (I:aC X pins σ H s) (rx:bH x u) (ty:jw X.K H x t) (e:PySem.W.kitOne X.K t c=some b) (h:∀ tk,Q (.bool b) { s with toks:=tk }) :
    wpAny (model X.prog X.w) A (call (.builtin "isinstance") [u,c]) Q E s:=by
  cases ty with
  | non=>cases (show u=Value.none from rx);exact PySem.W.kia_one PySem.W.kitx_none I.kIn True.intro e (fun z=>nomatch z) h
  | bl y=>cases (show u=Value.bool y from rx);exact PySem.W.kia_one PySem.W.kitx_bool I.kIn True.intro e (fun z=>nomatch z) h
  | int i=>obtain ⟨t,q⟩:=(show ∃ t,u=Value.int i t from rx);cases q;exact PySem.W.kia_one PySem.W.kitx_int I.kIn True.intro e (fun z=>nomatch z) h
  | str y=>obtain ⟨t,q⟩:=(show ∃ t,u=Value.str y t from rx);cases q;exact PySem.W.kia_one PySem.W.kitx_str I.kIn True.intro e (fun z=>nomatch z) h
  | flt y=>obtain ⟨t,q⟩:=(show ∃ t,u=Value.float y t from rx);cases q;exact PySem.W.kia_one PySem.W.kitx_float I.kIn True.intro e (fun z=>nomatch z) h
  | @lst a xs ea =>
    cases (show u=Value.ref a from rx);obtain ⟨_,_,n,_,h1⟩:=(show bG X.prog X.w H s.heap a (.lst xs) from I.hok a _ ea)
    exact PySem.W.kia_one PySem.W.kitx_list I.kIn ⟨_,h1,rfl⟩ e (fun z=>nomatch z) h
  | @frz a ob xs ea =>
    cases (show u=Value.ref a from rx);obtain ⟨_,_,_,n,_,h1⟩:=(show bG X.prog X.w H s.heap a (.frz ob (.lst xs)) from I.hok a _ ea)
    exact PySem.W.kia_one PySem.W.kitx_list I.kIn ⟨_,h1,rfl⟩ e (fun z=>nomatch z) h
  | @tup a xs ea =>
    cases (show u=Value.ref a from rx);obtain ⟨_,_,_,p⟩:=(show bG X.prog X.w H s.heap a (.tup xs) from I.hok a _ ea)
    obtain ⟨o,h1,h2,_⟩:=p;exact PySem.W.kia_one PySem.W.kitx_tuple I.kIn ⟨o,h1,h2⟩ e (fun z=>nomatch z) h
  | @dK a kvs ea =>
    cases (show u=Value.ref a from rx);obtain ⟨_,_,vs,_,p⟩:=(show bG X.prog X.w H s.heap a (.dK kvs) from I.hok a _ ea)
    obtain ⟨o,es,ep,h1,h2,_⟩:=p;exact PySem.W.kia_one PySem.W.kitx_dict I.kIn ⟨o,h1,h2.1⟩ e (fun z=>nomatch z) h
  | @dT a kvs ea =>
    cases (show u=Value.ref a from rx);obtain ⟨_,_,xs,_,o,es,ep,h1,h2,_⟩:=(show bG X.prog X.w H s.heap a (.dT kvs) from I.hok a _ ea)
    exact PySem.W.kia_one PySem.W.kitx_dict I.kIn ⟨o,h1,h2.1⟩ e (fun z=>nomatch z) h
  | @ins a C dx fs ea cl ha hn htk hm =>
    cases (show u=Value.ref a from rx);obtain ⟨mA,O,_⟩:=zi I.hok ea;obtain ⟨od,J,_⟩:=O.look;exact PySem.W.kia_one (PySem.W.kitx_own (cl.get _) cl.hd ha hn htk hm) I.kIn J e (fun z=>nomatch z) h
end
structure fB (k:Nat) (A:Around):Prop where
  hd:A.handled=none
  dp:A.depth+3*k+5 < recursionLimit
  un:A.units+16*k+200 < cLine
theorem fB.mono {j k:Nat} {A:Around} (r:fB k A) (h:j<=k):fB j A:=⟨r.hd,by have:=r.dp;omega,by have:=r.un;omega⟩
theorem fB.deeper {k:Nat} {A:Around} (r:fB (k+1) A) (env:Env):fB k (A.deeper env) :=
  ⟨r.hd,by have:=r.dp;show A.depth+1+3*k+5 < _;omega,by have:=r.un;show A.units+3+16*k+200 < _;omega⟩
theorem fB.depth {k:Nat} {A:Around} (r:fB k A):A.depth < recursionLimit:=by have:=r.dp;omega
theorem fB.units {k:Nat} {A:Around} (r:fB k A):A.units+64 < cLine:=by have:=r.un;omega
noncomputable def FV:TA:=fun _ H Q=>Q [] H
noncomputable def Ed (ta:TE) (tr:TA):TA:=fun σ H Q=>ta σ H fun x H1=>tr σ H1 fun xs H2=>Q (x::xs) H2
section
variable {X:Cx} {e:Expr} {es:List Expr} {te:TE} {t:TA} {pos:Pos}
theorem xr:PA X [] FV:=fun _ _ _ _ H Q I h=>Calls.spliced_nil ⟨[],H,I,.nil,h⟩
theorem pc (ha:PE X e te) (hr:PA X es t) (hs:starEach (e::es) X.env=(false,eval e X.env)::starEach es X.env:=by rfl):PA X (e::es) (Ed te t):=by
  intro pos pins s σ H Q I h;rw [hs];show wpAny _ _ (spliced ((false,eval e X.env)::backTo pos (starEach es X.env))) _ _ s;refine Calls.spliced_cons (cR (ha pins s σ H _ I h) fun u s1 zq0=>?_);obtain ⟨x,H1,I1,r1,q1⟩:=zq0;exact cR (hr pos pins s1 σ H1 _ I1 q1) fun us s2 ⟨xs,H2,I2,r2,q2⟩=>⟨x::xs,H2,I2,.cons r1 r2,q2⟩
noncomputable def FZ (t:TA):TE:=fun σ H Q=>t σ H fun xs H1=>xs.length<=sizeLine/\∀ p,H1 p=none->Q (.ref p) (cI H1 p (.tup xs))
noncomputable def FU (t:TA):TE:=fun σ H Q=>t σ H fun xs H1=>xs.length<=sizeLine/\∀ p,H1 p=none->Q (.ref p) (cI H1 p (.lst xs))
theorem BO {x1} (h:PA X es t):PE X (.Tuple es x1 pos) (FZ t):=by
  intro pins s σ H Q I hq;refine wpAny_Tuple_spliced (cR (h pos pins s σ H _ I hq) fun us s1 ⟨xs,H1,I1,r,z,q⟩=>⟨by rw [<- r.length];exact z,?_⟩);have hf:H1 s1.heap.objs.size=none:=I1.hok.fresh (Nat.le_refl _);refine ⟨.ref s1.heap.objs.size,cI H1 s1.heap.objs.size (.tup xs),I1.laid (t':=s1.toks) (fun b u e=>Heap.get?_push_of_some _ e) (Nat.le_refl _) ?_,rfl,q _ hf⟩;exact ⟨z,us,r,⟨_,Heap.get?_push_size _ rfl,rfl,⟨_,rfl⟩,rfl⟩⟩
theorem BJ (h:PA X es t):PE X (.List es pos) (FU t):=by
  intro pins s σ H Q I hq;refine wpAny_List_spliced (cR (h pos pins s σ H _ I hq) fun us s1 ⟨xs,H1,I1,r,z,q⟩=>⟨by rw [<- r.length];exact z,?_⟩);have hf:H1 s1.heap.objs.size=none:=I1.hok.fresh (Nat.le_refl _);refine ⟨.ref s1.heap.objs.size,cI H1 s1.heap.objs.size (.lst xs),I1.laid (t':=s1.toks) (fun b u e=>Heap.get?_push_of_some _ e) (Nat.le_refl _) ?_,rfl,q _ hf⟩;exact ⟨z,us,0,r,Heap.get?_push_size _ rfl⟩
end
noncomputable abbrev Sp:=List V->Hp->VK->XK->Prop
noncomputable abbrev vO:=List Env->Hp->Shared->XK->Value->Shared->Prop
structure yA (P:Program) (w:World) (K:PySem.W.Frag) (mg:Str->Option Value) (base:Heap) (A:Around) (outer:List Env) (s:Shared) (H:Hp):Prop where
  frames:A.frames=some outer
  mod:Mod K mg base
  bs:∀ b o,base.get? b=some o->s.heap.get? b=some o/\H b=none
  bsz:base.objs.size<=s.heap.objs.size
  funs:s.heap.FunFrames base outer
  frf:∀ b∈jX outer,H b=none
  hok:gg P w H s.heap
  bare:AllBare s.gens
noncomputable def CE (outer:List Env) (P:Program) (w:World) (H:Hp) (s:Shared) (Q:VK) (u:Value) (s':Shared):Prop :=
  ∃ v H',s'.os=s.os/\AllBare s'.gens/\Un (jX outer) [] H H' s.heap s'.heap/\gg P w H' s'.heap/\bH v u/\Q v H'
noncomputable def CR (CX:vO) (outer:List Env) (P:Program) (w:World) (H:Hp) (s:Shared) (Q:VK) (E:XK) (r:Result) (s':Shared):Prop :=
  match r with
  | .ok (.ret u)=>CE outer P w H s Q u s'
  | .ok _=>False
  | .error e=>CX outer H s E e s'
structure bj (P:Program) (w:World) (K:PySem.W.Frag) (mg:Str->Option Value) (base:Heap) (CX:vO) (k:Nat) (f:Addr) (fd:FuncData) (ps:List Str) (sp:Sp):Prop where
  len:∀ vs H Q E,sp vs H Q E->vs.length=ps.length
  run:∀ (A:Around) (outer:List Env) (s:Shared) (H:Hp) (args:Args) (us:List Value) (vs:List V) (Q:VK) (E:XK),fB k A->yA P w K mg base A outer s H->BindsTo s fd args (ps.zip us)->ba vs us->sp vs H Q E ->
    codeAny (model P w) A (.call (.ref f) args) (CR CX outer P w H s Q E) s
theorem bj.mono {P:Program} {w:World} {K:PySem.W.Frag} {mg:Str->Option Value} {base:Heap} {CX:vO} {j k:Nat} {f:Addr} {fd:FuncData} {ps:List Str} {sp:Sp} (F:bj P w K mg base CX j f fd ps sp) (h:j<=k) :
    bj P w K mg base CX k f fd ps sp:=⟨F.len,fun A outer s H args us vs Q E hr=>F.run A outer s H args us vs Q E (hr.mono h)⟩
section
variable {X:Cx} {pins:List (Addr×Obj)} {σ:St} {H:Hp} {s s':Shared}
theorem aC.env0 (I:aC X pins σ H s):yA X.prog X.w X.K X.mg X.base X.A X.stack s H :=
  ⟨I.ok.frames,I.ok.mod,I.bs,Nat.le_trans I.ok.bsz I.sz,I.stack,I.stkFree,I.hok,I.bare⟩
theorem aC.after {Q:VK} {u:Value} (I:aC X pins σ H s) (h:CE X.stack X.prog X.w H s Q u s'):EP X pins σ Q u s':=by
  obtain ⟨v,H',os,bare,un,hok,r,q⟩:=h;obtain ⟨hh,g,d,t,os'⟩:=s';obtain rfl:os'=s.os:=os;exact ⟨v,H',I.call (h':=hh) (g':=g) (d':=d) (t':=t) (ch:=[]) un hok bare (fun b z=>absurd z (by simp)),r,q⟩
end
noncomputable def Ec (sp:Sp) (dvs:List V) (E:XK) (t:TA):TE:=fun σ H Q=>t σ H fun vs H1=>sp (vs++dvs) H1 Q E
noncomputable def bT (K:PySem.W.Frag) (fd:FuncData) (ps:List Str) (ds:List Value):Prop :=
  ∀ (s:Shared) (us:List Value),K.In s.heap->(us++ds).length=ps.length->BindsTo s fd ⟨us,[]⟩ (ps.zip (us++ds))
theorem bT.all {K:PySem.W.Frag} {fd:FuncData} {ps:List Str} (h:∀ us:List Value,us.length=ps.length->bindArgs fd ⟨us,[]⟩=pure (ps.zip us)):bT K fd ps []:=fun s us _ hl=>by
  rw [List.append_nil] at hl ⊢;exact .of_eq (h us hl)
noncomputable def rE (CX:vO) (X:Cx) (E:XK):Prop:=∀ (pins:List (Addr×Obj)) (σ:St) (H:Hp) (s:Shared) (e:Value) (s':Shared),aC X pins σ H s->CX X.stack H s E e s'->X.xe e s'
section
variable {X:Cx} {CX:vO} {k:Nat} {f C:Addr} {fd:FuncData} {ps:List Str} {sp:Sp} {dvs:List V} {ds:List Value} {E:XK} {x m:Str} {p pos apos:Pos} {e o:Expr} {es:List Expr} {ta:TE} {t:TA}
theorem B1 {pins:List (Addr×Obj)} {σ:St} {H:Hp} {s:Shared} {Q:VK} {us:List Value} {vs:List V} (F:bj X.prog X.w X.K X.mg X.base CX k f fd ps sp) (hr:fB k X.A) (hb:bT X.K fd ps ds) (hd:ba dvs ds) (hx:rE CX X E)
    (I:aC X pins σ H s) (r:ba vs us) (h:sp (vs++dvs) H Q E):wpAny (model X.prog X.w) X.A (call (.ref f) us) (EP X pins σ Q) X.xe s:=by
  have r2:ba (vs++dvs) (us++ds):=r.append hd;have hl:(us++ds).length=ps.length:=by rw [<- r2.length];exact F.len _ _ _ _ h
  refine wpAny_call (codeAny_mono (F.run X.A X.stack s H ⟨us,[]⟩ (us++ds) (vs++dvs) Q E hr I.env0 (hb s us I.kIn hl) r2 h) fun r s' hq=>?_);cases r with
  | error e=>exact hx pins σ H s e s' I hq
  | ok fl =>
    cases fl with
    | ret u=>exact I.after hq
    | next=>exact False.elim hq
    | brk=>exact False.elim hq
    | cont=>exact False.elim hq
theorem zH (F:bj X.prog X.w X.K X.mg X.base CX k f fd ps sp) (hr:fB k X.A) (hg:Gl X x) (hm:X.mg x=some (.ref f)) (hk:PySem.W.keepIn X.K (.ref f)=true) (hb:bT X.K fd ps ds) (hd:ba dvs ds) (hx:rE CX X E)
    (ha:PA X (e::es) t) (hdb:(x==("__debug__" : Str))=false:=by decide) (he:starEach (e::es) X.env=(false,eval e X.env)::starEach es X.env:=by rfl) (hpl:(backTo pos (starEach es X.env)).any (·.1)=false:=by rfl) :
    PE X (.Call (.Name x p) (e::es) [] pos) (Ec sp dvs E t):=by
  intro pins s σ H Q I h;refine wpAny_Call_Name_kw (o6 I hg hm ?_ hdb);refine PySem.W.callWith_K (h₀:=X.base) I.ok.mod.kin hk (cR (ha pos pins s σ H _ I h) fun us s1 ⟨vs,H1,I1,r,q⟩=>⟨I1.kIn,?_⟩) he hpl;exact B1 F hr hb hd hx I1 r q
end
structure aP (N P:List Str) (sc:Scope):Prop where
  kind:sc.kind=.function
  co:sc.isCoroutine=false
  gen:sc.isGenerator=false
  nd:N.Nodup
  pre:N.take P.length=P
  par:∀ x∈P,sc.names.lookup x=some .local\/sc.names.lookup x=some .cell
  nofree:∀ y∈sc.names,y.2≠.free
theorem ny {kindOf:Str->Option NameKind} {x:Str}:∀ {binds:List (Str×Value)} {m:Str->Option Value},(∀ v,(x,v)∉binds)->bindL kindOf binds m x=m x
  | [],_,_=>rfl
  | (n,v)::r,m,h=>by
    unfold bindL;rw [ny fun w hw=>h w (List.mem_cons_of_mem _ hw)];split
    · have:x≠n:=by rintro rfl;exact h v List.mem_cons_self
      simp [this]
    · rfl
theorem nu {kindOf:Str->Option NameKind} {x:Str}:∀ {binds:List (Str×Value)} {m:Str->Option Value},(∀ v,(x,v)∉binds)->bindC kindOf binds m x=m x
  | [],_,_=>rfl
  | (n,v)::r,m,h=>by
    unfold bindC;rw [nu fun w hw=>h w (List.mem_cons_of_mem _ hw)];split
    · rfl
    · have:x≠n:=by rintro rfl;exact h v List.mem_cons_self
      simp [this]
theorem nv {kindOf:Str->Option NameKind} {x:Str} {v:Value}:∀ {P:List Str} {vs:List Value} {i:Nat} {m:Str->Option Value},P.Nodup->P[i]?=some x->vs[i]?=some v->kindOf x=some .local ->
    bindL kindOf (P.zip vs) m x=some v
  | [],_,_,_,_,h,_,_=>by simp at h
  | _::_,[],_,_,_,_,h,_=>by simp at h
  | p::P,w::vs,0,m,nd,h1,h2,hk=>by
    simp at h1 h2;subst h1;subst h2;show bindL kindOf ((p,w)::P.zip vs) m p=_;unfold bindL;rw [ny fun v hv=>(List.nodup_cons.mp nd).1 (List.of_mem_zip hv).1,if_pos hk];simp
  | p::P,w::vs,i+1,m,nd,h1,h2,hk=>by
    show bindL kindOf ((p,w)::P.zip vs) m x=_;unfold bindL;exact nv (i:=i) (List.nodup_cons.mp nd).2 (by simpa using h1) (by simpa using h2) hk
theorem nr {kindOf:Str->Option NameKind} {x:Str} {v:Value}:∀ {P:List Str} {vs:List Value} {i:Nat} {m:Str->Option Value},P.Nodup->P[i]?=some x->vs[i]?=some v->kindOf x≠some .local ->
    bindC kindOf (P.zip vs) m x=some v
  | [],_,_,_,_,h,_,_=>by simp at h
  | _::_,[],_,_,_,_,h,_=>by simp at h
  | p::P,w::vs,0,m,nd,h1,h2,hk=>by
    simp at h1 h2;subst h1;subst h2;show bindC kindOf ((p,w)::P.zip vs) m p=_;unfold bindC;rw [nu fun v hv=>(List.nodup_cons.mp nd).1 (List.of_mem_zip hv).1,if_neg hk];simp
  | p::P,w::vs,i+1,m,nd,h1,h2,hk=>by
    show bindC kindOf ((p,w)::P.zip vs) m x=_;unfold bindC;exact nr (i:=i) (List.nodup_cons.mp nd).2 (by simpa using h1) (by simpa using h2) hk
noncomputable def hW (N:List Str) (vs:List V):St:=vs.map some++List.replicate (N.length-vs.length) none
noncomputable def eR (CX:vO) (P:Program) (w:World) (K:PySem.W.Frag) (mg:Str->Option Value) (base:Heap) (N:List Str) (qual:Str) (scope:Scope) (f:Addr) (cd:Value) (A:Around) (outer:List Env) (s:Shared) (H:Hp) (E:XK):Cx where
  prog:=P
  w:=w
  K:=K
  mg:=mg
  base:=base
  A:=A.deeper (envOfC qual scope s.heap.objs.size f cd)
  N:=N
  s₀:=s
  H₀:=H
  env:=envOfC qual scope s.heap.objs.size f cd
  outer:=outer
  stack:=envOfC qual scope s.heap.objs.size f cd::outer
  ex:=[]
  calm:=true
  fn:=fun _=>true
  pn:=[]
  xe:=fun e s'=>wpAny (model P w) (A.deeper (envOfC qual scope s.heap.objs.size f cd)) (leaving (envOfC qual scope s.heap.objs.size f cd) e) (fun _ s''=>CX outer H s E e s'') (fun e' s''=>CX outer H s E e' s'') s'
theorem qk {sc:Scope} {n:Nat} {x:Str} (h:sc.names.lookup x=some .cell):∃ c,(cellsFrom n sc.names []).lookup x=some c:=by
  have q:=PySem.W.cellsFrom_some sc.names n [] (.inl h);exact Option.isSome_iff_exists.mp q
theorem u7 {CX:vO} {P:Program} {w:World} {K:PySem.W.Frag} {mg:Str->Option Value} {base:Heap} {N ps:List Str} {qual:Str} {scope:Scope} {f:Addr} {cd:Value} {A:Around} {outer:List Env} {s s1:Shared} {H:Hp} {E:XK} {us:List Value} {vs:List V}
    (S:aP N ps scope) (hd:A.handled=none) (e0:yA P w K mg base A outer s H) (hl:vs.length=ps.length) (r:ba vs us)
    (x:InCallC s s.heap.objs.size (bindL (envOfC qual scope s.heap.objs.size f cd).kindOf (ps.zip us) fun _=>none) (cellsFrom (s.heap.objs.size+1) scope.names []) (bindC (envOfC qual scope s.heap.objs.size f cd).kindOf (ps.zip us) fun _=>none) s1) :
    aC (eR CX P w K mg base N qual scope f cd A outer s H E) [] (hW N vs) H s1:=by
  have hpl:ps.length<=N.length:=by have:=congrArg List.length S.pre;rw [List.length_take] at this;omega
  obtain ⟨h1,tk,rfl,hk⟩:=x.done;have noA:∀ b:Addr,b∉(eR CX P w K mg base N qual scope f cd A outer s H E).ex:=fun b z=>absurd (show b∈([]:List Addr) from z) (by simp)
  refine ⟨⟨e0.mod,S.kind,rfl,rfl,Nat.le_refl _,fun y z c h1 h2=>?_,fun y hy=>?_,fun y c _ h=>?_,fun _=>hd,Around.frames_deeper e0.frames,.inr ⟨rfl,rfl⟩,fun b z=>absurd z (noA b),e0.bs,e0.bsz,fun b _ _=>noA b,fun b z=>absurd z (noA b),e0.funs,e0.frf⟩,
    rfl,e0.bare,Un.kept hk,⟨_,x.toInCall.ns,fun i y v h1 h2 h3=>?_⟩,fun y c h=>⟨_,x.cell y c h⟩,e0.hok.fresh (Nat.le_refl _),fun y c h=>?_,fun p hp=>absurd (show p∈([]:List (Addr×Obj)) from hp) (by simp),e0.hok.kept hk,?_⟩
  · exact name_of_addr x.apart (PySem.mem_of_lookup h1) (PySem.mem_of_lookup h2)
  · have hy:scope.names.lookup y=some .cell\/scope.names.lookup y=some .free:=hy;rcases hy with hy | hy
    · exact qk hy
    · exact absurd rfl (S.nofree _ (PySem.mem_of_lookup hy))
  · exact Nat.le_of_lt (x.above y c (PySem.mem_of_lookup h))
  · have hi:i < vs.length:=by
      unfold hW at h2;by_cases hi:i < vs.length
      · exact hi
      · rw [List.getElem?_append_right (by simpa using hi)] at h2;rw [List.getElem?_replicate] at h2;split at h2 <;> cases h2
    have ha:vs[i]?=some v:=by
      unfold hW at h2;rw [List.getElem?_append_left (by simpa using hi),List.getElem?_map] at h2;cases e:vs[i]? with
      | none=>rw [e] at h2;cases h2
      | some a=>rw [e] at h2;cases h2;rfl
    obtain ⟨u,hu,rv⟩:=r.get ha;have hp:ps[i]?=some y:=by
      rw [<- S.pre,List.getElem?_take_of_lt (by omega)];exact h1
    have ndP:ps.Nodup:=by rw [<- S.pre];exact S.nd.sublist (List.take_sublist _ _)
    refine ⟨u,rv,?_⟩;rcases S.par y (List.mem_of_getElem? hp) with k | k
    · exact .inl ⟨k,nv ndP hp hu k⟩
    · obtain ⟨c,e⟩:=qk (n:=s.heap.objs.size+1) k;refine .inr ⟨.inl k,c,e,?_⟩;have q:=x.cell y c e;rw [nr ndP hp hu (by show scope.names.lookup y≠_;rw [k];decide)] at q;exact q
  · exact e0.hok.fresh (Nat.le_of_lt (x.above y c (PySem.mem_of_lookup h)))
  · unfold hW;show _=N.length;rw [List.length_append,List.length_map,List.length_replicate];omega
theorem Ax {CX:vO} {P:Program} {w:World} {K:PySem.W.Frag} {mg:Str->Option Value} {base:Heap} {k:Nat} {f:Addr} {name qual:Str} {params:Arguments} {body:List Stmt} {scope:Scope} {dV kV doc pm cdv ct oc:Value} {an od:Option Addr}
    {osl:Array (Option Value)} {N ps:List Str} {sp:Sp} (lk:K.lookup f=some ⟨oc,od,.func (PySem.W.fnOf name qual params body scope dV kV doc pm an cdv ct),osl⟩) (hcd:PySem.W.codeIn K cdv qual=true) (S:aP N ps scope)
    (len:∀ vs H Q E,sp vs H Q E->vs.length=ps.length)
    (hbody:∀ (A:Around) (outer:List Env) (s:Shared) (H:Hp) (vs:List V) (Q:VK) (E:XK),fB k (A.deeper (envOfC qual scope s.heap.objs.size f cdv))->sp vs H Q E ->
      ∃ t,ou (eR CX P w K mg base N qual scope f cdv A outer s H E) body t/\t { nx:=fun _ H'=>Q .non H',rt:=Q } (hW N vs) H) :
    bj P w K mg base CX (k+1) f (PySem.W.fnOf name qual params body scope dV kV doc pm an cdv ct) ps sp:=by
  refine ⟨len,fun A outer s H args us vs Q E hr e0 hb r hsp=>?_⟩;have hl:=len _ _ _ _ hsp;have KX:K.In s.heap:=e0.mod.kin.keeps fun b o e=>(e0.bs b o e).1
  have lim:s.heap.NoLimit:=e0.mod.nolimit.keeps fun b o e=>(e0.bs b o e).1
  have hkind:∀ y∈ps.zip us,scope.names.lookup y.1=some .local\/(scope.names.lookup y.1=some .cell/\((cellsFrom (s.heap.objs.size+1) scope.names []).lookup y.1).isSome=true):=fun ⟨n,v⟩ hy=>by
    rcases S.par n (List.of_mem_zip hy).1 with q | q
    · exact .inl q
    · exact .inr ⟨q,PySem.W.cellsFrom_some _ _ _ (.inl q)⟩
  refine codeAny_call_function hr.depth (KX _ _ lk) rfl S.co S.gen rfl (PySem.W.codeRec_of KX hcd) (hb _ _ _ _ ?_);refine wpAny_newFunctionEnv_cells S.kind hkind fun env he s1 x=>?_
  subst he;refine ⟨lim.keeps x.toInCall.keep,codeAny_func ?_⟩;obtain ⟨t,ht,hq⟩:=hbody A outer s H vs Q E (hr.deeper _) hsp;have I:aC (eR CX P w K mg base N qual scope f cdv A outer s H E) [] (hW N vs) H s1:=u7 S hr.hd e0 hl r x;refine wpAny_mono (ht [] s1 (hW N vs) H _ I hq) (fun fl s' hs=>?_) fun e s' hs=>hs
  have fin:∀ {σ':St} {H':Hp} {v:V} {u:Value},aC (eR CX P w K mg base N qual scope f cdv A outer s H E) [] σ' H' s'->bH v u->Q v H'->CE outer P w H s Q u s' :=
    fun {σ' H' v u} J rv q=>⟨v,H',J.os,J.bare,J.base,J.hok,rv,q⟩
  cases fl with
  | ret u =>
    obtain ⟨v,σ',H',J,rv,q⟩:=hs;exact fin J rv q
  | next =>
    obtain ⟨σ',H',J,q⟩:=hs;exact fin (v:=V.non) (u:=Value.none) J rfl q
  | brk =>
    obtain ⟨_,_,_,q⟩:=hs;exact False.elim q
  | cont =>
    obtain ⟨_,_,_,q⟩:=hs;exact False.elim q
section
variable {X:Cx} {x:Str} {p pos:Pos} {e:Expr} {es:List Expr} {t:TA} {id T:String} {r:List V->Hp->VK->Prop}
noncomputable def EU (r:List V->Hp->VK->Prop) (t:TA):TE:=fun σ H Q=>t σ H fun vs H1=>r vs H1 Q
theorem mf (hc:c7 X (.builtin id) r) (hg:Gl X x) (hm:X.mg x=none) (hv:bootBuiltins x=some (.builtin id)) (ha:PA X (e::es) t) (hn:x ≠ "__name__" := by decide) (hdb:(x==("__debug__" : Str))=false:=by decide)
    (he:starEach (e::es) X.env=(false,eval e X.env)::starEach es X.env:=by rfl) (hpl:(backTo pos (starEach es X.env)).any (·.1)=false:=by rfl):PE X (.Call (.Name x p) (e::es) [] pos) (EU r t):=by
  intro pins s σ H Q I h;refine wpAny_Call_Name_kw (jj I hg hm hv ?_ hn hdb);exact PyProof.Rows.callWith_builtin1 (cR (ha pos pins s σ H _ I h) fun us s1 ⟨vs,H1,I1,r1,q1⟩=>hc pins s1 σ H1 vs us Q I1 r1 q1) he hpl
theorem vq (hc:c7 X (.type T) r) (hg:Gl X x) (hm:X.mg x=none) (hv:bootBuiltins x=some (.type T)) (ha:PA X (e::es) t) (hn:x ≠ "__name__" := by decide) (hdb:(x==("__debug__" : Str))=false:=by decide)
    (he:starEach (e::es) X.env=(false,eval e X.env)::starEach es X.env:=by rfl) (hpl:(backTo pos (starEach es X.env)).any (·.1)=false:=by rfl):PE X (.Call (.Name x p) (e::es) [] pos) (EU r t):=by
  intro pins s σ H Q I h;refine wpAny_Call_Name_kw (jj I hg hm hv ?_ hn hdb);exact PyProof.Rows.callWith_type1 (cR (ha pos pins s σ H _ I h) fun us s1 ⟨vs,H1,I1,r1,q1⟩=>hc pins s1 σ H1 vs us Q I1 r1 q1) he hpl
end
end L2
namespace HT
open PySem PyProof.Rows
section
open PySem.SeqAt
open PySem.AutoSeq1 (wpAny_loadPart')
open PySem.MeetsSeq PySem.MeetsSeq2 PySem.MeetsSeq3
end
section
variable {prog:Program} {w:World} {A:Around} {E:Value->Shared->Prop} {s:Shared}
theorem cat_tup {t b:Addr} {vs ws:List Value} {Q:Value->Shared->Prop} (ht:IsTup s.heap t vs.toArray) (hb:IsTup s.heap b ws.toArray) (hv:vs≠[])
    (h1:ws=[]->Q (.ref t) s) (h2:ws≠[]->Q (.ref s.heap.objs.size) { s with heap:=s.heap.push { cls:=.type "tuple",data:=.seq (vs++ws).toArray } })
    (hsz:vs.length+ws.length<=sizeLine):wpAny (model prog w) A (binaryOp .Add (.ref t) (.ref b)) Q E s:=by
  obtain ⟨⟨cls,dd,data,sl⟩,ho,hc,n,hd⟩:=id ht;obtain ⟨⟨cls2,dd2,data2,kH⟩,ho2,hc2,n2,hd2⟩:=id hb;simp only at hc hd hc2 hd2;subst hc hd hc2 hd2;have e:vs.toArray++ws.toArray=(vs++ws).toArray:=by simp
  by_cases hw:ws=[]
  · exact concat_meets ⟨_,ho,rfl⟩ ⟨_,ho2,rfl⟩ noFill_tuple_add seq_tuple_add PySem.F.slot_tuple_add PySem.F.entry_tuple_add (PySem.F.args_tuple_add_2 _ _)
      (tuple_addW1 t b vs.toArray ws.toArray n n2 dd dd2 sl kH (by simpa using hv) (by simp [hw])) ⟨ho,ho2,h1 hw⟩
  · refine concat_meets ⟨_,ho,rfl⟩ ⟨_,ho2,rfl⟩ noFill_tuple_add seq_tuple_add PySem.F.slot_tuple_add PySem.F.entry_tuple_add (PySem.F.args_tuple_add_2 _ _)
      (tuple_addW2 t b vs.toArray ws.toArray n n2 dd dd2 sl kH (by simpa using hv) (by simpa using hw) (by rw [List.size_toArray,List.size_toArray];exact hsz)) ⟨ho,ho2,?_⟩
    rw [e];exact h2 hw
noncomputable def sIx (n d:Nat):Option Int->Nat
  | none=>d
  | some v=>if v < 0 then (v+(n:Int)).toNat else min v.toNat n
theorem B7 (n d:Nat) (hd:d<=n) (o:Option Int):sIx n d o<=n:=by
  cases o with
  | none=>exact hd
  | some v =>
    show (if v < 0 then (v+(n:Int)).toNat else min v.toNat n)<=n;by_cases hv:v < 0
    · rw [if_pos hv];omega
    · rw [if_neg hv];exact Nat.min_le_right _ _
theorem tw (v:Int) (n d:Nat):(if v < 0 then max (v+(n:Int)) 0 else min v (n:Int))=((sIx n d (some v):Nat):Int):=by
  show (if v < 0 then max (v+(n:Int)) 0 else min v (n:Int))=(((if v < 0 then (v+(n:Int)).toNat else min v.toNat n):Nat):Int)
  by_cases hv:v < 0
  · simp only [if_pos hv];omega
  · simp only [if_neg hv];omega
theorem rN (lo hi:Option Int) (n:Nat):Builtin.Slice.sliceAdjust lo hi 1 (n:Int)=(((sIx n 0 lo:Nat):Int),((sIx n n hi:Nat):Int)):=by
  have h1:¬ ((1:Int) < 0):=by omega
  unfold Builtin.Slice.sliceAdjust;simp only [h1,if_false];refine Prod.ext ?_ ?_
  · cases lo with
    | none=>rfl
    | some v=>exact tw v n 0
  · cases hi with
    | none=>rfl
    | some v=>exact tw v n n
theorem sF (i j:Nat):Builtin.Slice.slicePlaces (i:Int) (j:Int) 1=j-i:=by
  unfold Builtin.Slice.slicePlaces;have h1:(1:Int) > 0:=by omega
  simp only [h1,if_true,Int.ediv_one];split <;> omega
theorem mn {v:Value} {o:Option Int} {Q:Option Int->Shared->Prop} (p:IsPart v o) (h:Q o s):wpAny (model prog w) A (Builtin.Slice.slicePartIndex v) Q E s:=by
  cases p with
  | none=>exact slicePart_none h
  | int i t=>exact slicePart_int h
theorem sliceApplied_gen {sl:Addr} {vl vu:Value} {lo hi:Option Int} {n:Nat} {Q:Int×Int×Nat->Shared->Prop} (hs:s.heap.IsSliceOf sl vl vu .none) (pl:IsPart vl lo) (pu:IsPart vu hi)
    (h:Q (((sIx n 0 lo:Nat):Int),1,sIx n n hi-sIx n 0 lo) s):wpAny (model prog w) A (Builtin.Slice.sliceApplied (.ref sl) (pure (n:Int))) Q E s:=by
  obtain ⟨os,hos,hcs,hds⟩:=id hs;unfold Builtin.Slice.sliceApplied Builtin.Slice.sliceFields;refine wpAny_bind (wpAny_bind (wpAny_field hos hds (x:=vl) rfl (wpAny_bind (wpAny_field hos hds (x:=vu) rfl (wpAny_bind (wpAny_field hos hds (x:=.none) rfl (wpAny_pure ?_)))))));refine wpAny_bind (slicePart_none ?_);show wpAny _ _ (if ((1:Int)==0)=true then _ else _) _ _ s;rw [if_neg (by decide)];refine wpAny_bind (mn pl (wpAny_bind (mn pu (wpAny_bind (wpAny_pure ?_)))));show wpAny _ _ (match Builtin.Slice.sliceAdjust lo hi 1 (n:Int) with | (lo,hi)=>pure (lo,(1:Int),Builtin.Slice.slicePlaces lo hi 1)) _ _ s;rw [rN lo hi n];show wpAny _ _ (pure (((sIx n 0 lo:Nat):Int),(1:Int),Builtin.Slice.slicePlaces ((sIx n 0 lo:Nat):Int) ((sIx n n hi:Nat):Int) 1)) _ _ s;rw [sF];exact wpAny_pure h
theorem xz (xs:Array Value) (i k:Nat):((List.range k).filterMap fun (m:Nat)=>xs[((i:Int)+(m:Int)*1).toNat]?).toArray=((xs.toList.drop i).take k).toArray:=by
  have e:(fun (m:Nat)=>xs[((i:Int)+(m:Int)*1).toNat]?)=fun m=>xs[i+m]?:=by
    funext m;have:((i:Int)+(m:Int)*1).toNat=i+m:=by omega
    rw [this]
  rw [e];have:=pick_run xs i k;rw [List.filterMap_map] at this;have e2:((fun x=>xs[x]?)∘fun x=>i+x)=fun m=>xs[i+m]?:=rfl
  rw [e2] at this;rw [this]
theorem getItem_tuple_cut {t sl:Addr} {items:Array Value} {vl vu:Value} {lo hi:Option Int} {Q:Value->Shared->Prop} (ht:IsTup s.heap t items) (hs:s.heap.IsSliceOf sl vl vu .none) (pl:IsPart vl lo) (pu:IsPart vu hi)
    (hw:¬ (sIx items.size 0 lo=0/\sIx items.size items.size hi=items.size))
    (h:Q (.ref s.heap.objs.size) { s with heap:=s.heap.push { cls:=.type "tuple",data:=.seq ((items.toList.drop (sIx items.size 0 lo)).take (sIx items.size items.size hi-sIx items.size 0 lo)).toArray } })
    (hsz:items.size<=sizeLine):wpAny (model prog w) A (getItem (.ref t) (.ref sl)) Q E s:=by
  have htake:sizeOk (.seq ((items.toList.drop (sIx items.size 0 lo)).take (sIx items.size items.size hi-sIx items.size 0 lo)).toArray):=by
    show ((items.toList.drop (sIx items.size 0 lo)).take (sIx items.size items.size hi-sIx items.size 0 lo)).toArray.size<=sizeLine;rw [List.size_toArray,List.length_take,List.length_drop,Array.length_toList];exact Nat.le_trans (Nat.min_le_right _ _) (Nat.le_trans (Nat.sub_le _ _) hsz)
  have hj:sIx items.size items.size hi<=items.size:=B7 _ _ (Nat.le_refl _) hi;obtain ⟨os,hos,hcs,hds⟩:=id hs;have hTs:s.TypeIs (.ref sl) "slice" := ⟨os,hos,hcs⟩
  unfold getItem
  try with_reducible refine wpAny_holding ?_
  first | refine wpAny_bind (wpAny_pure ?_) | skip
  refine wpAny_bind (wpAny_sequenceKey ht.typeIs (by decide) ?_);refine wpAny_bind (wpAny_callSpecial?_slot (name:=Str.ofString "__getitem__") ht.typeIs PyProof.Rows.slot_tuple_getitem
    (wpAny_call_entry PyProof.Rows.slot_tuple_getitem ht.typeIs entry_tuple_getitem ?_ (args_tuple_getitem _ _)))
  show wpAny _ _ (Builtin.Tuple.tupleItemsOf (.ref t)>>=_) _ _ s;refine wpAny_bind (tupleItemsOf_ ht ?_);refine wpAny_bind (wpAny_typeOf hTs ?_);rw [if_pos (by decide)];refine wpAny_bind (sliceApplied_gen hs pl pu ?_);have hno:¬ ((((sIx items.size 0 lo:Nat):Int)==0&&(1:Int)==1&&(sIx items.size items.size hi-sIx items.size 0 lo)==items.size)=true):=by
    intro q;rw [Bool.and_eq_true,Bool.and_eq_true] at q;have q1:((sIx items.size 0 lo:Nat):Int)=0:=eq_of_beq q.1.1;have q2:sIx items.size items.size hi-sIx items.size 0 lo=items.size:=eq_of_beq q.2;exact hw ⟨by omega,by omega⟩
  show wpAny _ _ (if (((sIx items.size 0 lo:Nat):Int)==0&&(1:Int)==1&&(sIx items.size items.size hi-sIx items.size 0 lo)==items.size)=true then _ else _) _ _ s;rw [if_neg hno,xz]
  first
    | exact wpAny_bind (m:=Builtin.Tuple.tupleExact _) (wpAny_newObj_type (wpAny_pure ⟨_,rfl,wpAny_pure h⟩) htake)
    | exact wpAny_bind (m:=Builtin.Tuple.tupleExact _) (wpAny_newObj_type (wpAny_bind (wpAny_pure (wpAny_pure ⟨_,rfl,wpAny_pure h⟩))) htake)
    | exact wpAny_bind (wpAny_bind (m:=Builtin.Tuple.tupleExact _) (wpAny_newObj_type (wpAny_pure (wpAny_pure ⟨_,rfl,wpAny_pure h⟩)) htake))
    | exact wpAny_bind (wpAny_bind (m:=Builtin.Tuple.tupleExact _) (wpAny_newObj_type (wpAny_pure ⟨_,rfl,wpAny_pure h⟩) htake))
end
end HT
namespace L2
open PySem PySem.Spec PyProof.Rows
noncomputable abbrev TO:=St->Hp->(Option Int->Hp->Prop)->Prop
noncomputable def PO (X:Cx) (e:Option Expr) (t:TO):Prop :=
  ∀ (pins:List (Addr×Obj)) (s:Shared) (σ:St) (H:Hp) (Q:Option Int->Hp->Prop),aC X pins σ H s->t σ H Q ->
    wpAny (model X.prog X.w) X.A (evalPart e X.env) (fun u s'=>∃ o H',aC X pins σ H' s'/\IsPart u o/\Q o H') X.xe s
noncomputable def Aj:TO:=fun _ H Q=>Q none H
noncomputable def Ei (t:TE):TO:=fun σ H Q=>t σ H fun x H1=>∃ i,x=.int i/\Q (some i) H1
theorem eI {ns:List Int}:∀ {us:List Value},ba (ns.map V.int) us->IntsAre us ns:=by
  induction ns with
  | nil=>intro us r;rw [List.map_nil] at r;cases r;exact .nil
  | cons n ns ih =>
    intro us r;rw [List.map_cons] at r;cases r with
    | cons r1 r2 =>
      obtain ⟨t,e⟩:=r1;subst e;exact .cons n t (ih r2)
section
variable {X:Cx} {e:Expr} {te:TE} {lo hi:Option Expr} {tl th:TO} {pos p2:Pos}
theorem zM:PO X none Aj:=by
  intro pins s σ H Q I h;rw [evalPart_none];exact wpAny_pure ⟨none,H,I,.none,h⟩
theorem zN (h:PE X e te):PO X (some e) (Ei te):=by
  intro pins s σ H Q I hw;rw [evalPart_some];refine cR (h pins s σ H _ I hw) fun u s1 zq0=>?_
  obtain ⟨x,H1,I1,r1,q1⟩:=zq0;obtain ⟨i,rfl,q⟩:=q1;obtain ⟨t,rfl⟩:=r1;exact ⟨some i,H1,I1,.int i t,q⟩
noncomputable def yF (X:Cx) (r:V->Option Int->Option Int->Hp->VK->Prop):Prop :=
  ∀ (pins:List (Addr×Obj)) (s:Shared) (σ:St) (H:Hp) (x:V) (v vl vu:Value) (lo hi:Option Int) (sl:Addr) (Q:VK),aC X pins σ H s->bH x v->s.heap.IsSliceOf sl vl vu .none->IsPart vl lo->IsPart vu hi->r x lo hi H Q ->
    ∃ T id,typeLookup (.type T) "__getitem__" = pure (some (.builtin id))/\s.TypeIs v T/\wpAny (model X.prog X.w) X.A (getItem v (.ref sl)) (EP X pins σ Q) X.xe s
theorem yF.or {r r':V->Option Int->Option Int->Hp->VK->Prop} (h:yF X r) (h':yF X r'):yF X (fun x lo hi H Q=>r x lo hi H Q\/r' x lo hi H Q):=by
  intro pins s σ H x v vl vu lo hi sl Q I rx hs pl pu q;rcases q with q | q
  · exact h pins s σ H x v vl vu lo hi sl Q I rx hs pl pu q
  · exact h' pins s σ H x v vl vu lo hi sl Q I rx hs pl pu q
noncomputable def Gx (r:V->Option Int->Option Int->Hp->VK->Prop) (te:TE) (tl th:TO):TE:=fun σ H Q=>te σ H fun x H1=>tl σ H1 fun l H2=>th σ H2 fun u H3=>r x l u H3 Q
theorem xy {r:V->Option Int->Option Int->Hp->VK->Prop} (hr:yF X r) (he:PE X e te) (hl:PO X lo tl) (hu:PO X hi th):PE X (.Subscript e (.Slice lo hi none p2) pos) (Gx r te tl th):=by
  intro pins s σ H Q I h;refine Subscript_ (cR (he pins s σ H _ I h) fun v s1 zq0=>?_);obtain ⟨x,H1,I1,r1,q1⟩:=zq0;refine wpAny_Slice (cR (hl pins s1 σ H1 _ I1 q1) fun vl s2 ⟨l,H2,I2,pl,q2⟩=>cR (hu pins s2 σ H2 _ I2 q2) fun vu s3 zq0=>?_);obtain ⟨u,H3,I3,pu,q3⟩:=zq0;rw [evalPart_none];refine wpAny_pure ?_;have I4:aC X pins σ H3 { s3 with heap:=s3.heap.push { cls:=.type "slice",data:=.fields #[vl,vu,.none] } }:=I3.kept (t':=s3.toks) fun b ob q=>Heap.get?_push_of_some _ q
  obtain ⟨T,id,hT,ht,hg⟩:=hr pins { s3 with heap:=s3.heap.push { cls:=.type "slice",data:=.fields #[vl,vu,.none] } } σ H3 x v vl vu l u s3.heap.objs.size Q I4 r1 (Heap.IsSliceOf.new ..) pl pu q3;show wpAny (model X.prog X.w) X.A (subscriptTail e (.Slice lo hi none p2) v (.ref s3.heap.objs.size)) (EP X pins σ Q) X.xe { s3 with heap:=s3.heap.push { cls:=.type "slice",data:=.fields #[vl,vu,.none] } };exact tail_any (ops:=[.ref s3.heap.objs.size,v]) ht hT hg (by with_unfolding_all rfl)
noncomputable def qp (xs:List V) (lo hi:Option Int):List V:=(xs.drop (HT.sIx xs.length 0 lo)).take (HT.sIx xs.length xs.length hi-HT.sIx xs.length 0 lo)
theorem kw (xs:List V) (lo hi:Option Int):(qp xs lo hi).length<=xs.length:=by
  unfold qp;rw [List.length_take,List.length_drop];omega
noncomputable def FL (K:PySem.W.Frag):V->Option Int->Option Int->Hp->VK->Prop:=fun x lo hi H Q=>∃ a xs,x=.ref a/\gC K H a xs /\
  ¬ (HT.sIx xs.length 0 lo=0/\HT.sIx xs.length xs.length hi=xs.length)/\∀ p,H p=none->Q (.ref p) (cI H p (.tup (qp xs lo hi)))
theorem Cc:yF X (FL X.K):=by
  intro pins s σ H x v vl vu lo hi sl Q I rx hs pl pu h;obtain ⟨a,xs,rfl,hx,hw,q⟩:=h;cases rx;obtain ⟨its,r,ht,hz⟩:=I.tuple hx;have hlen:its.toArray.size=xs.length:=by rw [List.size_toArray];exact r.length.symm
  refine ⟨"tuple",_,PyProof.Rows.slot_tuple_getitem.lookup,ht.typeIs,?_⟩;refine HT.getItem_tuple_cut ht hs pl pu (by rw [hlen];exact hw) ?_ (by rw [hlen];exact hz);rw [hlen];refine ⟨.ref s.heap.objs.size,_,I.laid (t':=s.toks) (o:=.tup (qp xs lo hi)) (fun b ob q=>Heap.get?_push_of_some _ q) (Nat.le_refl _) ?_,rfl,q _ (I.hok.fresh (Nat.le_refl _))⟩;exact ⟨Nat.le_trans (kw xs lo hi) hz,_,(r.drop (HT.sIx xs.length 0 lo)).take (HT.sIx xs.length xs.length hi-HT.sIx xs.length 0 lo),fy.new _ _⟩
noncomputable def AK (K:PySem.W.Frag):R2:=fun x y H Q=>∃ a b xs ys,x=.ref a/\y=.ref b/\gC K H a xs/\gC K H b ys/\xs≠[]/\xs.length+ys.length<=sizeLine /\
  (ys=[]->Q (.ref a) H)/\(ys≠[]->∀ p,H p=none->Q (.ref p) (cI H p (.tup (xs++ys))))
theorem ba.nil_iff {xs:List V} {us:List Value} (r:ba xs us):us=[]<->xs=[]:=by
  cases r with
  | nil=>simp
  | cons _ _=>simp
theorem zA:h8 X (binaryOp .Add) (AK X.K):=by
  intro pins s σ H x y v u Q I rx ry h;obtain ⟨a,b,xs,ys,rfl,rfl,ha,hb,hx,hz,q1,q2⟩:=h;cases rx;cases ry;obtain ⟨its,r1,p1,_⟩:=I.tuple ha;obtain ⟨its2,r2,p2,_⟩:=I.tuple hb;refine HT.cat_tup p1 p2 (fun z=>hx (r1.nil_iff.mp z)) (fun z=>⟨.ref a,H,I,rfl,q1 (r2.nil_iff.mp z)⟩) (fun z=>?_) (by rw [<- r1.length,<- r2.length];exact hz);refine ⟨.ref s.heap.objs.size,_,I.laid (t':=s.toks) (o:=.tup (xs++ys)) (fun b ob q=>Heap.get?_push_of_some _ q) (Nat.le_refl _) ?_,rfl,q2 (fun w=>z (r2.nil_iff.mpr w)) _ (I.hok.fresh (Nat.le_refl _))⟩;exact ⟨by rw [List.length_append];exact hz,_,r1.append r2,fy.new _ _⟩
end
noncomputable def AB (n:Nat) (i:Int):Option Nat:=if 0<=i then (if i < n then some i.toNat else none) else if -(n:Int)<=i then some (i+n).toNat else none
noncomputable def atI {α:Type} (xs:List α) (i:Int):Option α:=(AB xs.length i).bind fun j=>xs[j]?
theorem zm {n:Nat} {i:Int} {j:Nat} (h:AB n i=some j):seqIndex? i n=some j/\j < n/\-(n:Int)<=i/\i < n:=by
  unfold AB at h;by_cases h0:0<=i
  · rw [if_pos h0] at h;by_cases h1:i < n
    · rw [if_pos h1] at h;have e:i.toNat=j:=Option.some.inj h;exact ⟨by rw [seqIndex_of h0 h1,e],by omega,by omega,h1⟩
    · rw [if_neg h1] at h;cases h
  · rw [if_neg h0] at h;by_cases h1:-(n:Int)<=i
    · rw [if_pos h1] at h;have e:(i+n).toNat=j:=Option.some.inj h;exact ⟨by rw [seqIndex_neg (by omega) h1,e],by omega,h1,by omega⟩
    · rw [if_neg h1] at h;cases h
theorem oH {α:Type} {xs:List α} {i:Int} {v:α} (h:atI xs i=some v):∃ j,seqIndex? i xs.length=some j/\xs[j]?=some v/\j < xs.length/\-(xs.length:Int)<=i/\i < xs.length:=by
  unfold atI at h;cases e:AB xs.length i with
  | none=>rw [e] at h;cases h
  | some j =>
    rw [e] at h;obtain ⟨h1,h2,h3,h4⟩:=zm e;exact ⟨j,h1,h,h2,h3,h4⟩
theorem oJ {α:Type} {xs:List α} {j:Nat} {v:α} (h:xs[j]?=some v):atI xs (j:Int)=some v:=by
  have hj:j < xs.length:=(List.getElem?_eq_some_iff.mp h).1;have e:AB xs.length (j:Int)=some j:=by
    unfold AB;rw [if_pos (by omega),if_pos (by omega)];simp
  unfold atI;rw [e];exact h
noncomputable def sZ (b:Expr):Prop:=∀ o i,subscripted b false o i=operate [o,i] (getItem o i)
noncomputable def yC (X:Cx) (r:R2):Prop :=
  ∀ (value slice:Expr) (pins:List (Addr×Obj)) (s:Shared) (σ:St) (H:Hp) (x y:V) (v u:Value) (Q:VK),aC X pins σ H s->bH x v->bH y u->r x y H Q ->
    subscripted slice false v u=operate [v,u] (getItem v u)->wpAny (model X.prog X.w) X.A (subscriptTail value slice v u) (EP X pins σ Q) X.xe s
noncomputable def Ez (X:Cx) (id:String) (r:V->List V->Hp->VK->Prop):Prop :=
  ∀ (pins:List (Addr×Obj)) (s:Shared) (σ:St) (H:Hp) (x:V) (xs:List V) (v:Value) (us:List Value) (Q:VK),aC X pins σ H s->bH x v->ba xs us->r x xs H Q ->
    wpAny (model X.prog X.w) X.A (call (.builtin id) (v::us)) (EP X pins σ Q) X.xe s
section
variable {X:Cx} {a b:Expr} {ta tb:TE} {pos:Pos}
theorem yC.or {r r':R2} (h:yC X r) (h':yC X r'):yC X (fun x y H Q=>r x y H Q\/r' x y H Q):=by
  intro value slice pins s σ H x y v u Q I rx ry q hs;rcases q with q | q
  · exact h value slice pins s σ H x y v u Q I rx ry q hs
  · exact h' value slice pins s σ H x y v u Q I rx ry q hs
theorem DH {r:R2} (hr:yC X r) (ha:PE X a ta) (hb:PE X b tb) (hs:sZ b):PE X (.Subscript a b pos) (Eh r ta tb):=by
  intro pins s σ H Q I h;exact Subscript_ (Bd ha hb I h fun v u s2 x y H2 I2 rx ry q=>hr a b pins s2 σ H2 x y v u Q I2 rx ry q (hs _ _))
noncomputable def DQ (K:PySem.W.Frag):R2:=fun x y H Q=>∃ p xs i v,x=.ref p/\y=.int i/\kQ K H p xs/\atI xs i=some v/\Q v H
noncomputable def DS (K:PySem.W.Frag):R2:=fun x y H Q=>∃ p xs i v,x=.ref p/\y=.int i/\gC K H p xs/\atI xs i=some v/\Q v H
noncomputable def DR:R2:=fun x y H Q=>∃ z i c,x=.str z/\y=.int i/\z.length<=sizeLine/\atI z.cps.toList i=some c/\Q (.str ⟨#[c]⟩) H
theorem zo:yC X (DQ X.K):=by
  intro value slice pins s σ H x y v u Q I rx ry h hs;obtain ⟨p,xs,i,z,rfl,rfl,hq,he,q⟩:=h;cases rx;obtain ⟨t,rfl⟩:=ry;obtain ⟨its,r,pl,hz⟩:=I.list hq;obtain ⟨j,h1,h2,h3,h4,h5⟩:=oH he;obtain ⟨w,ew,rw'⟩:=r.get h2;have hl:=r.length;have hn:=l3;have fin:EP X pins σ Q w s:=⟨z,H,I,rw',q⟩
  by_cases h0:0<=i
  · have hj:i.toNat=j:=by
      rw [seqIndex_of h0 h5] at h1;exact Option.some.inj h1
    exact item_listR pl.isList h0 (by omega) (by rw [hj];simpa using ew) fin hs
  · have hj:(i+(its.toArray.size:Int)).toNat=j:=by
      rw [seqIndex_neg (by omega) h4] at h1;rw [List.size_toArray,<- hl];exact Option.some.inj h1
    exact subscriptTail_builtinR (x:=w) pl.isList.typeIs slot_list_getitem.lookup
      (wpAny_getItem_list_neg (Q:=fun r s'=>r=w/\EP X pins σ Q r s') pl.isList (by omega) (by rw [List.size_toArray] <;> omega) (by omega) (by rw [hj];simpa using ew) ⟨rfl,fin⟩) hs
theorem Bu:yC X (DS X.K):=by
  intro value slice pins s σ H x y v u Q I rx ry h hs;obtain ⟨p,xs,i,z,rfl,rfl,hq,he,q⟩:=h;cases rx;obtain ⟨t,rfl⟩:=ry;obtain ⟨its,r,pl,hz⟩:=I.tuple hq;obtain ⟨j,h1,h2,h3,h4,h5⟩:=oH he;obtain ⟨w,ew,rw'⟩:=r.get h2;have hl:=r.length;have hn:=l3;have fin:EP X pins σ Q w s:=⟨z,H,I,rw',q⟩
  exact subscriptTail_builtinR (x:=w) pl.typeIs slot_tuple_getitem.lookup
    (getItem_tuple (j:=j) (Q:=fun r s'=>r=w/\EP X pins σ Q r s') pl (by omega) (by omega) (by rw [List.size_toArray,<- hl];exact h1) (by simpa using ew) ⟨rfl,fin⟩) hs
theorem Bt:yC X DR:=by
  intro value slice pins s σ H x y v u Q I rx ry h hs;obtain ⟨z,i,c,rfl,rfl,hz,he,q⟩:=h;obtain ⟨t,rfl⟩:=rx;obtain ⟨t',rfl⟩:=ry;obtain ⟨j,h1,h2,h3,h4,h5⟩:=oH he;have hl:z.cps.toList.length=z.length:=by simp [Str.length]
  rw [hl] at h1 h4 h5;have hn:=l3;exact tail_any (typeIs_str s z t) slot_str_getitem.lookup (getItem_str (c:=c) (by
    have e1:decide (i < -(2 ^ 63:Int))=false:=decide_eq_false (by omega);have e2:decide (i>=2 ^ 63)=false:=decide_eq_false (by omega);rw [e1,e2,Bool.or_false]) (by rw [h1];simpa using h2) ⟨.str ⟨#[c]⟩,H,I.tok _,⟨_,rfl⟩,q⟩) hs
theorem pq (lo hi:Option Int) (n:Nat):(sliceBounds lo hi none n).1=((HT.sIx n 0 lo:Nat):Int)/\(sliceBounds lo hi none n).2.1=((HT.sIx n n hi:Nat):Int)/\(sliceBounds lo hi none n).2.2=1:=by
  refine ⟨?_,?_,rfl⟩
  · cases lo with
    | none=>simp [sliceBounds,HT.sIx]
    | some i =>
      simp only [sliceBounds,HT.sIx,Option.getD_none,show (1:Int) > 0 by decide,if_true];by_cases h:i < 0
      · simp only [h,if_true] <;> omega
      · simp only [h,if_false] <;> omega
  · cases hi with
    | none=>simp [sliceBounds,HT.sIx]
    | some i =>
      simp only [sliceBounds,HT.sIx,Option.getD_none,show (1:Int) > 0 by decide,if_true];by_cases h:i < 0
      · simp only [h,if_true] <;> omega
      · simp only [h,if_false] <;> omega
theorem mU (its:List Value) (lo hi:Option Int):slicePick its.toArray lo hi none=((its.drop (HT.sIx its.length 0 lo)).take (HT.sIx its.length its.length hi-HT.sIx its.length 0 lo)).toArray:=by
  obtain ⟨h1,h2,h3⟩:=pq lo hi its.toArray.size;unfold slicePick;rw [h1,h2,h3];simp only [sliceRange_one,pick_run,List.size_toArray] <;> rfl
noncomputable def FK (K:PySem.W.Frag):V->Option Int->Option Int->Hp->VK->Prop:=fun x lo hi H Q=>∃ a xs,x=.ref a/\kQ K H a xs/\∀ p,H p=none->Q (.ref p) (cI H p (.lst (qp xs lo hi)))
theorem Ae:yF X (FK X.K):=by
  intro pins s σ H x v vl vu lo hi sl Q I rx hs pl pu h;obtain ⟨a,xs,rfl,hx,q⟩:=h;cases rx;obtain ⟨its,r,ht,hz⟩:=I.list hx;have hlen:=r.length;refine ⟨"list",_,slot_list_getitem.lookup,ht.isList.typeIs,?_⟩;refine wpAny_getItem_list_slice ht.isList hs pl pu .none (by simp) ?_ (by rw [List.size_toArray] <;> omega);rw [mU,<- hlen];refine ⟨.ref s.heap.objs.size,_,I.laid (t':=s.toks) (o:=.lst (qp xs lo hi)) (fun b ob q=>Heap.get?_push_of_some _ q) (Nat.le_refl _) ?_,rfl,q _ (I.hok.fresh (Nat.le_refl _))⟩;exact ⟨Nat.le_trans (kw xs lo hi) hz,_,0,(r.drop (HT.sIx xs.length 0 lo)).take (HT.sIx xs.length xs.length hi-HT.sIx xs.length 0 lo),Heap.get?_push_size _ rfl⟩
theorem oO:c7 X (.builtin "len") (fun xs H Q=>∃ p ys,xs=[.ref p]/\(kQ X.K H p ys\/gC X.K H p ys)/\Q (.int ys.length) H):=by
  intro pins s σ H xs us Q I r h;obtain ⟨p,ys,rfl,hq,q⟩:=h;obtain ⟨u,rfl,rx⟩:=eX r;cases rx;have hn:=l3;rcases hq with hq | hq
  · obtain ⟨its,r',pl,hz⟩:=I.list hq;have hlen:=r'.length;exact Calls.call_len_list pl.isList (by simp only [List.size_toArray] <;> omega) ⟨.int ys.length,H,I.tok _,⟨s.toks+1,by rw [List.size_toArray,hlen]⟩,q⟩
  · obtain ⟨its,r',pl,hz⟩:=I.tuple hq;have hlen:=r'.length;exact len_tuple pl (by simp only [List.size_toArray] <;> omega) ⟨.int ys.length,H,I.tok _,⟨s.toks+1,by rw [List.size_toArray,hlen]⟩,q⟩
theorem oP:c7 X (.builtin "len") (fun xs H Q=>∃ z,xs=[.str z]/\z.length<=sizeLine/\Q (.int z.length) H):=by
  intro pins s σ H xs us Q I r h;obtain ⟨z,rfl,hz,q⟩:=h;obtain ⟨u,rfl,t,rfl⟩:=eX r;have hn:=l3;exact len_str (by omega) ⟨.int z.length,H,I.tok _,⟨_,rfl⟩,q⟩
theorem c7.or {f:Value} {r r':List V->Hp->VK->Prop} (h:c7 X f r) (h':c7 X f r'):c7 X f (fun xs H Q=>r xs H Q\/r' xs H Q):=by
  intro pins s σ H xs us Q I rs q;rcases q with q | q
  · exact h pins s σ H xs us Q I rs q
  · exact h' pins s σ H xs us Q I rs q
theorem mO:c7 X (.type "tuple") (fun xs H Q=>∃ p ys,xs=[.ref p]/\((kQ X.K H p ys/\∀ l,H l=none->Q (.ref l) (cI H l (.tup ys)))\/(gC X.K H p ys/\Q (.ref p) H))):=by
  intro pins s σ H xs us Q I r h;obtain ⟨p,ys,rfl,h⟩:=h;obtain ⟨u,rfl,rx⟩:=eX r;cases rx;rcases h with ⟨hq,q⟩ | ⟨hq,q⟩
  · obtain ⟨its,r',pl,hz⟩:=I.list hq;have hlen:=r'.length;refine call_tuple_list pl.isList (fun h' kp=>?_) (by simp only [List.size_toArray] <;> omega);have I1:aC X pins σ H { s with heap:=h' }:=I.kept (t':=s.toks) kp;have I2:aC X pins σ (cI H h'.objs.size (.tup ys)) { s with heap:=h'.push { cls:=.type "tuple",data:=.seq its.toArray } } :=
      I1.laid (t':=s.toks) (fun b o e=>Heap.get?_push_of_some _ e) (Nat.le_refl _) (show bG X.prog X.w _ _ _ (.tup ys) from ⟨hz,its,r',fy.new _ _⟩)
    exact ⟨.ref h'.objs.size,_,I2,rfl,q _ (I1.hok.fresh (Nat.le_refl _))⟩
  · obtain ⟨its,r',pl,hz⟩:=I.tuple hq;exact call_tuple_same pl ⟨.ref p,H,I,rfl,q⟩
noncomputable def Gf (K:PySem.W.Frag) (T:String) (x:V) (H:Hp):Prop:=match x with
  | .str _=>T = "str"
  | .int _=>T = "int"
  | .ref p=>(T = "list" /\ ∃ xs,kQ K H p xs)\/(T = "tuple" /\ ((∃ o,K.lookup p=some o/\o.cls=.type "tuple" /\ o.dict=none)\/∃ xs,H p=some (.tup xs))) \/
      (T = "dict" /\ ((∃ kvs,H p=some (.dK kvs))\/∃ kvs,H p=some (.dT kvs)))\/(T = "set" /\ ∃ S n,H p=some (.set S n))
  | _=>False
theorem Ct {pins:List (Addr×Obj)} {σ:St} {H:Hp} {s:Shared} {T:String} {x:V} {v:Value} (I:aC X pins σ H s) (r:bH x v) (ty:Gf X.K T x H) :
    s.TypeIs v T/\∀ a,v=.ref a->∃ ob,s.heap.get? a=some ob/\ob.dict=none:=by
  cases x with
  | str z =>
    obtain ⟨t,rfl⟩:=r;cases (show T = "str" from ty);exact ⟨typeIs_str s z t,fun _ e=>nomatch e⟩
  | int i =>
    obtain ⟨t,rfl⟩:=r;cases (show T = "int" from ty);exact ⟨typeIs_int s i t,fun _ e=>nomatch e⟩
  | ref p =>
    cases r;rcases ty with ⟨rfl,xs,hq⟩ | ⟨rfl,⟨o,hk,hc,hd⟩ | ⟨xs,hk⟩⟩ | ⟨rfl,hk⟩ | ⟨rfl,S,n,hk⟩
    · obtain ⟨its,_,pl,_⟩:=I.list hq;refine ⟨pl.isList.typeIs,fun a e=>?_⟩;cases e;obtain ⟨o,n,e,c,hd,_⟩:=pl;exact ⟨o,e,hd⟩
    · refine ⟨⟨o,I.kIn p o hk,hc⟩,fun a e=>?_⟩;cases e;exact ⟨o,I.kIn _ o hk,hd⟩
    · obtain ⟨_,_,_,o,e1,e2,_,e3⟩:=(show bG X.prog X.w H s.heap p (.tup xs) from I.hok p _ hk)
      refine ⟨⟨o,e1,e2⟩,fun a e=>?_⟩;cases e;exact ⟨o,e1,e3⟩
    · have z:∃ o,s.heap.get? p=some o/\o.ExactDict:=by
        rcases hk with ⟨kvs,hk⟩ | ⟨kvs,hk⟩
        · obtain ⟨_,_,_,_,o,_,_,e,ex,_⟩:=I.hok p _ hk;exact ⟨o,e,ex⟩
        · obtain ⟨_,_,_,_,o,_,_,e,ex,_⟩:=I.hok p _ hk;exact ⟨o,e,ex⟩
      obtain ⟨o,e,ex⟩:=z;refine ⟨⟨o,e,ex.1⟩,fun a e2=>?_⟩;cases e2;exact ⟨o,e,ex.2.1⟩
    · obtain ⟨o,_,_,_,e,ex,_⟩:=I.hok p _ hk;refine ⟨⟨o,e,ex.1⟩,fun a e2=>?_⟩;cases e2;exact ⟨o,e,ex.2.1⟩
  | _=>exact False.elim ty
noncomputable def Gv (K:PySem.W.Frag) (T:String) (r:V->List V->Hp->VK->Prop) (to:TE) (t:TA):TE:=fun σ H Q=>to σ H fun x H1=>Gf K T x H1/\t σ H1 fun xs H2=>r x xs H2 Q
variable {o e:Expr} {es:List Expr} {to:TE} {t:TA} {name:Str} {apos cpos:Pos} {T id:String} {r:V->List V->Hp->VK->Prop}
theorem tW (pa:PlainAttrs T) (slot:Slot T name id) (hty:typeOf (.builtin id)=pure (.type "method_descriptor")) (hm:Ez X id r) (ho:PE X o to) (ha:PA X (e::es) t)
    (hbase:attributeBase o name X.env (eval o X.env)=eval o X.env:=by rfl)
    (hfew:((backTo cpos (starEach (e::es) X.env)).all (fun x=>!x.1)&&(backToKw cpos (keywordEach [] X.env)).all (fun x=>x.1.isSome)
      && decide ((e::es).length+([]:List Keyword).length+(if ([]:List Keyword).isEmpty then 0 else 1) < 30))=true:=by rfl)
    (hline:(apos.endLine==cpos.line)=true:=by rfl) (hs:starEach (e::es) X.env=(false,eval e X.env)::starEach es X.env:=by rfl) (hplain:(backTo cpos (starEach es X.env)).any (·.1)=false:=by rfl) :
    PE X (.Call (.Attribute o name apos) (e::es) [] cpos) (Gv X.K T r to t):=by
  intro pins s σ H Q I h;refine wpAny_Call_method_late hbase hfew hline rfl (cR (ho pins s σ H _ I h) fun v s1 zq0=>?_);obtain ⟨x,H1,I1,r1,ty,q1⟩:=zq0;obtain ⟨h1,h2⟩:=Ct I1 r1 ty;refine ⟨T,id,pa,slot,hty,h1,h2,?_⟩;have hA:=ha cpos pins s1 σ H1 _ I1 q1;rw [hs] at hA ⊢;refine Calls.callWith_builtin (by show (false||(backTo cpos (starEach es X.env)).any (·.1))=false;rw [hplain] <;> rfl) (Calls.evalArgs_plain ?_);exact cR hA fun us s2 ⟨vs,H2,I2,r2,q2⟩=>hm pins s2 σ H2 x vs v us Q I2 r1 r2 q2
end
noncomputable def Gj (X:Cx) (id:String) (r:V->List V->Hp->VK->Prop):Prop :=
  ∀ (pins:List (Addr×Obj)) (s:Shared) (σ:St) (H:Hp) (x:V) (xs:List V) (v:Value) (us:List Value) (Q:VK),aC X pins σ H s->bH x v->ba xs us->r x xs H Q ->
    wpAny (model X.prog X.w) X.A (call (.builtin id) (v::us)) (EP X pins σ Q) X.xe s
theorem ba.one {x:V} {us:List Value} (h:ba [x] us):∃ u,us=[u]/\bH x u:=by
  cases h with
  | cons r t =>
    cases t;exact ⟨_,rfl,r⟩
theorem ba.zero:∀ {us:List Value},ba [] us->us=[]
  | _,.nil=>rfl
theorem ba.reverse {xs:List V} {us:List Value} (h:ba xs us):ba xs.reverse us.reverse:=by
  induction h with
  | nil=>exact .nil
  | cons r t ih=>rw [List.reverse_cons,List.reverse_cons];exact ba.append ih (.cons r .nil)
theorem ba.rep {xs:List V} {us:List Value} (h:ba xs us):∀ k:Nat,ba (List.replicate k xs).flatten (List.replicate k us).flatten
  | 0=>.nil
  | k+1=>by
    rw [List.replicate_succ,List.replicate_succ,List.flatten_cons,List.flatten_cons];exact ba.append h (ba.rep h k)
theorem nG (its:List Value):∀ (k:Nat) (acc:List Value),
    List.foldl (fun x1 x2=>x1++x2) acc.toArray (List.replicate k its.toArray)=(acc++(List.replicate k its).flatten).toArray
  | 0,acc=>by simp
  | k+1,acc=>by
    have e:acc.toArray++its.toArray=(acc++its).toArray:=by simp
    have e2:(acc++its)++(List.replicate k its).flatten=acc++(List.replicate (k+1) its).flatten:=by
      rw [List.replicate_succ,List.flatten_cons,List.append_assoc]
    rw [<- e2,<- nG its k (acc++its),<- e,List.replicate_succ,List.foldl_cons]
section
variable {X:Cx} {pins:List (Addr×Obj)} {σ:St} {H:Hp} {s:Shared} {l b:Addr} {xs ys zs:List V}
theorem aC.lset {its its':List Value} {n:Nat} {f:Array Value->Array Value} {t':Nat} (I:aC X pins σ H s) (hH:H l=some (.lst xs))
    (e:s.heap.get? l=some { cls:=.type "list",data:=.seq its.toArray n }) (hf:f its.toArray=its'.toArray) (hv:ba ys its') (hz:ys.length<=sizeLine) :
    aC X pins σ (cI H l (.lst ys)) { s with heap:=s.heap.update l (Obj.mapSeq f),toks:=t' }:=by
  have q:=PySem.IsL.update e f;rw [hf] at q;refine I.write (x:=l) (e:=l) (by rw [hH];exact trivial) (.inl rfl) (fun b' u hb hu=>(Heap.get?_update_other s.heap (Obj.mapSeq f) (Ne.symm hb)).trans hu) ⟨_,q⟩ ?_;exact ⟨hz,its',_,hv,q⟩
theorem aC.lnew {its:List Value} {t':Nat} (I:aC X pins σ H s) (hv:ba ys its) (hz:ys.length<=sizeLine) :
    aC X pins σ (cI H s.heap.objs.size (.lst ys)) { s with heap:=s.heap.push { cls:=.type "list",data:=.seq its.toArray },toks:=t' } :=
  I.laid (fun _ _ q=>Heap.get?_push_of_some _ q) (Nat.le_refl _) ⟨hz,its,0,hv,Heap.get?_push_size _ rfl⟩
theorem aC.fresh (I:aC X pins σ H s):H s.heap.objs.size=none:=I.hok.fresh (Nat.le_refl _)
theorem aC.lstM (I:aC X pins σ H s) (hH:H l=some (.lst xs)):xs.length<=sizeLine/\∃ (its:List Value) (n:Nat),ba xs its/\xs.length=its.length/\s.heap.get? l=some { cls:=.type "list",data:=.seq its.toArray n }:=by
  obtain ⟨z,its,n,r,e⟩:=I.hok l _ hH;exact ⟨z,its,n,r,r.length,e⟩
end
section
variable {X:Cx}
noncomputable def zT:V->List V->Hp->VK->Prop:=fun x vs H Q=>∃ l xs y,x=.ref l/\vs=[y]/\H l=some (.lst xs)/\xs.length < sizeLine/\Q .non (cI H l (.lst (xs++[y])))
theorem nQ:Gj X "list.append" zT:=by
  intro pins s σ H x vs v us Q I rx rv h;obtain ⟨l,xs,y,rfl,rfl,hH,hz,q⟩:=h;cases rx;obtain ⟨u,rfl,ru⟩:=rv.one;obtain ⟨z,its,n,r,hl,e⟩:=I.lstM hH;refine call_meets F.slot_list_append ⟨_,e,rfl⟩ F.entry_list_append (F.args_list_append_2 _ _) (PySem.list_append l its.toArray n u (by rw [List.size_toArray];omega)) ⟨e,?_⟩;refine ⟨.non,_,I.lset (its':=its++[u]) hH e (by simp) (r.append (.cons ru .nil)) ?_,rfl,q⟩;rw [List.length_append,List.length_singleton];omega
theorem tR {α:Type} (xs:List α) (k:Nat):(List.replicate k xs).flatten.length=k*xs.length:=by
  induction k with
  | zero=>simp
  | succ k ih=>rw [List.replicate_succ,List.flatten_cons,List.length_append,ih,Nat.succ_mul,Nat.add_comm]
end
end L2
namespace Att
open PySem PySem.W PySem.Calls PyProof.Rows
theorem kR {P:Params} {h:Heap}:∀ (ns:List Int) (vs:List Value),WellAll P h vs (ns.map WData.int)->IntsAre vs ns:=by
  intro ns;induction ns with
  | nil =>
    intro vs w;rw [List.map_nil] at w;cases w;exact .nil
  | cons n ns ih =>
    intro vs w;rw [List.map_cons] at w;cases w with
    | cons a b =>
      cases a;exact .cons _ _ (ih _ b)
theorem vA {l:OpenLaw} {n:Nat} (hn:l.most=some n) {P:Params} {h:Heap} {args:List WData} {vals:List Value}
    (hpre:l.row.toRowW.claim.pre args=true) (hwl:WellAll P h vals args) :
    ∃ a vs ns,vals=[Value.ref a]/\args=[WData.list (ns.map WData.int)]/\h.get? a=some { cls:=.type "list",data:=.seq vs.toArray }/\IntsAre vs ns/\ns.length<=n:=by
  have hsh:WShape.hasAll [] args [.list .int]=true:=(pre_splitW hpre).1;have hc:l.pre.holds [] { args:=args }=true:=(pre_splitW hpre).2;obtain ⟨d,r,rfl,h1,h2⟩:=hasAllW_cons hsh;obtain rfl:=hasAllW_nil h2;obtain ⟨xs,rfl,h3⟩:=hasW_list h1;obtain ⟨ns,rfl⟩:=items_int h3;have hlen:ns.length<=n:=by
    unfold OpenLaw.pre at hc;have h4:(WTm.not (.lt (.lit (.int (n:Int))) (.len (.arg 0)))).holds [] { args:=[.list (ns.map .int)] }=true:=by
      have h4:=(holds_andW hc).1;rw [hn] at h4;exact h4
    have h5:=condW_of h4 (w_not (w_lt w_lit (w_len_list (w_arg rfl))));rw [List.length_map] at h5;refine Nat.le_of_not_lt fun q=>?_
    have q':(n:Int) < ((ns.length:Nat):Int):=by omega
    first
      | (rw [decide_eq_true q'] at h5;exact absurd h5 (by decide))
      | (simp at h5;omega)
  cases hwl with
  | cons w1 w2 =>
    cases w2;cases w1 with
    | list ho hall=>exact ⟨_,_,ns,rfl,rfl,ho,kR ns _ hall,hlen⟩
theorem vy (l:OpenLaw) (args:List WData):l.row.toRowW.claim.post args (.bool true) args=true :=
  postW_of (r:=l.row.toRowW) (X:=(true==true))
    (show WShape.has [] (.bool true) .bool=true by first | rfl | decide | simp [WShape.has,WShape.arms,WShape.armsAll])
    (show (WTm.eq .res (.lit (.bool true))).value [] { args:=args,res:=some (.bool true),after:=args }=some (.bool (true==true)) from w_eq_bool (w_res rfl) w_lit) rfl
theorem attach_call {l:OpenLaw} {n:Nat} {q:Program} {loose:List Str} {XP:(Str->Option Value)->Heap->Prop} {YP:World->Heap->Prop} {d:DefRec}
    (hn:l.most=some n) (hdf:d.params.defaults=[])
    (call:∀ (w:World) (s₀ s₁:Shared) (mg mb:Str->Option Value) (fa:Addr) (o:Obj) (pm cd doc:Value) (a:Addr) (vs:List Value) (ns:List Int),
      Ground q loose [] XP w s₀ mg mb s₁.heap->YP w s₁.heap ->
      s₁.heap.get? fa=some o->o.data=.func (docDef d.name d.params d.body d.scope pm cd doc)->s₁.heap.CodeRec cd d.name->mg d.name=some (.ref fa) ->
      s₁.heap.get? a=some { cls:=.type "list",data:=.seq vs.toArray }->IntsAre vs ns->ns.length<=n->s₁.gens=#[] ->
      codeAny (model l.prog w) callerA (.call (.ref fa) ⟨[.ref a],[]⟩) (fun r s'=>r=.ok (.ret (.bool true))/\OldK s₁.heap s'.heap/\s'.os=s₁.os/\AllBare s'.gens) s₁) :
    WalkO q loose XP YP l.row.toRowW d [] (fun f vs=>PySem.call f vs):=by
  intro w s₀ s₁ mg mb G Y fa o pm cd doc dV kV ho hd hcd hD hmg hg args vals as hpre hlay hrd hwl hlo;obtain rfl:dV=.none:=Dflts.none hD hdf;obtain rfl:kV=.none:=Dflts.noKw hD;obtain ⟨a,vs,ns,rfl,rfl,hobj,hints,hlen⟩:=vA hn hpre hwl;refine enter_call (codeAny_mono (call w s₀ s₁ mg mb fa o pm cd doc a vs ns G Y ho (fd_plain hd) hcd hmg hobj hints hlen hg) fun r s' hq=>?_);obtain ⟨rfl,h2,h3,h4⟩:=hq;exact ⟨.inl ⟨.bool true,.bool true,[],rfl,fun _=>rfl,.bool true,vy l _,fun _=>⟨List.Pairwise.nil,fun _ hm=>(nomatch hm)⟩⟩,h2,h3,h4⟩
end Att
namespace L2
open PySem PySem.Spec PyProof.Rows
theorem gr:∀ {vs:List Value} {ns:List Int},IntsAre vs ns->ba (ns.map V.int) vs
  | _,_,.nil=>.nil
  | _,_,.cons n t h=>.cons ⟨t,rfl⟩ (gr h)
noncomputable def CH (H:Hp):Prop:=∀ b,H b=none\/∃ o xs,H b=some (.frz o (.lst xs))
theorem wZ {P:Program} {w:World} {K:PySem.W.Frag} {mg mb:Str->Option Value} {CX:vO} {k:Nat} {fa a:Addr} {fd:FuncData} {x:Str} {sp:Sp} {s₁:Shared} {vs:List Value} {ns:List Int}
    (KX:K.In s₁.heap) (hns:s₁.heap.Ns mainGlobals mg) (hb:s₁.heap.Ns builtinsNs mb) (hbb:∀ x:Str,x ≠ "__name__" -> mb x=bootBuiltins x) (hlim:s₁.heap.NoLimit) (hg:s₁.gens=#[])
    (ha:s₁.heap.get? a=some { cls:=.type "list",data:=.seq vs.toArray }) (hi:IntsAre vs ns) (hl:ns.length<=sizeLine) (hr:fB k callerA)
    (F:∀ base:Heap,K.In base->base.Ns mainGlobals mg->bj P w K mg base CX k fa fd [x] sp) (hbind:∀ (s:Shared) (u:Value),BindsTo s fd ⟨[u],[]⟩ [(x,u)])
    (hsp:∀ H:Hp,CH H->kQ K H a (ns.map V.int)->sp [.ref a] H (fun v _=>v=.bl true) fun _ _ _=>False)
    (hCX:∀ H e s',CX [] H s₁ (fun _ _ _=>False) e s'->False) :
    codeAny (model P w) callerA (.call (.ref fa) ⟨[.ref a],[]⟩) (fun r s'=>r=.ok (.ret (.bool true))/\OldK s₁.heap s'.heap/\s'.os=s₁.os/\AllBare s'.gens) s₁:=by
  have rv:=gr hi;have lenV:=hi.length
  -- from an abstract heap in which nothing but the script may be tracked
  have core:∀ H:Hp,CH H->kQ K H a (ns.map V.int)->gg P w H s₁.heap->(∀ b,H b≠none->b=a)->(H a≠none->K.lookup a=none) ->
      codeAny (model P w) callerA (.call (.ref fa) ⟨[.ref a],[]⟩) (fun r s'=>r=.ok (.ret (.bool true))/\OldK s₁.heap s'.heap/\s'.os=s₁.os/\AllBare s'.gens) s₁:=by
    intro H hO hS hok hA hK;have base_of:∀ {b:Addr} {o:Obj},s₁.heap.get? b=some o->H b=none->(oY s₁.heap H).get? b=some o:=fun e n=>wN e n
    have noA:∀ {b:Addr} {o:Obj} {es:Array DictEntry} {ep:Nat},s₁.heap.get? b=some o->o.data=.dict es ep->H b=none:=fun {b o es ep} e d=>by
      cases q:H b with
      | none=>rfl
      | some u =>
        have e':b=a:=hA b (by rw [q];simp);subst e';rw [ha] at e;cases e;have d':Data.seq vs.toArray _=Data.dict es ep:=d;cases d'
    have nsK:∀ {b:Addr} {m:Str->Option Value},s₁.heap.Ns b m->(oY s₁.heap H).Ns b m:=fun {b m} ⟨o,es,ep,e,d,r⟩=>⟨o,es,ep,base_of e (noA e d),d,r⟩
    have hKb:K.In (oY s₁.heap H):=fun b o e=>base_of (KX b o e) (by
      cases q:H b with
      | none=>rfl
      | some u =>
        have e':b=a:=hA b (by rw [q];simp);subst e';rw [hK (by rw [q];simp)] at e;cases e)
    have hM:Mod K mg (oY s₁.heap H):=⟨hKb,nsK hns,⟨mb,nsK hb,hbb⟩,let ⟨mc,h1,h2⟩:=hlim;⟨mc,nsK h1,h2⟩⟩
    have e0:yA P w K mg (oY s₁.heap H) callerA [] s₁ H:=⟨rfl,hM,fun b o e=>zx e,Nat.le_of_eq (u3 _ _),trivial,fun b hb=>absurd (show b∈([]:List Addr) from hb) (by simp),hok,.of_eq hg⟩
    refine codeAny_mono ((F _ hKb (nsK hns)).run callerA [] s₁ H ⟨[.ref a],[]⟩ [.ref a] [.ref a] _ _ hr e0 (hbind s₁ (.ref a)) (.cons rfl .nil) (hsp H hO hS)) fun r s' h=>?_
    cases r with
    | error e=>exact (hCX H e s' h).elim
    | ok fl =>
      cases fl with
      | next=>exact False.elim h
      | brk=>exact False.elim h
      | cont=>exact False.elim h
      | ret u =>
        obtain ⟨v,H',os,bare,un,hok',r',q⟩:=h;have q':v=.bl true:=q;subst q';obtain rfl:u=Value.bool true:=r';refine ⟨rfl,OldK.of_keep fun b o e=>?_,os,bare⟩;cases q:H b with
        | none=>exact un.keep b o e q (by intro z;exact absurd (show b∈([]:List Addr) from z) (by simp)) (by simp)
        | some u =>
          rcases hO b with z | ⟨ob,xs,z⟩
          · rw [q] at z;cases z
          · have z2:=un.frzs b ob _ z;obtain ⟨e1,_⟩:=hok b _ z;obtain ⟨e2,_⟩:=hok' b _ z2;rw [e] at e1;cases e1;exact e2
  cases hk:K.lookup a with
  | some o =>
    -- the script is one of the module's own objects
    have e:=KX a o hk;rw [ha] at e;cases e;refine core (fun _=>none) (fun _=>.inl rfl) (.inr ⟨_,vs.toArray,_,hk,rfl,rfl,rfl,by rw [List.size_toArray,lenV];exact hl,by simpa using rv⟩) (fun b u z=>by have z':(none:Option HO)=some u:=z;cases z') (fun b z=>absurd rfl z) fun z=>absurd rfl z
  | none =>
    refine core (fun b=>if b=a then some (.frz { cls:=.type "list",data:=.seq vs.toArray } (.lst (ns.map V.int))) else none) (fun b=>?_) (.inl (.inr ⟨{ cls:=.type "list",data:=.seq vs.toArray },if_pos rfl⟩)) (fun b u z=>?_) (fun b z=>?_) fun _=>hk
    · by_cases hb:b=a
      · exact .inr ⟨_,_,if_pos hb⟩
      · exact .inl (if_neg hb)
    · by_cases hb:b=a
      · have z':=(if_pos hb).symm.trans z;cases z';subst hb;exact ⟨ha,by rw [List.length_map];exact hl,vs,_,rv,ha⟩
      · have z':=(if_neg hb).symm.trans z;cases z'
    · by_cases hb:b=a
      · exact hb
      · exact absurd (if_neg hb) z
noncomputable def dX (s:Stmt):Arguments:=match s with
  | .FunctionDef _ a _ _ _ _ _ _ _ _=>a
  | _=>{ posonlyargs:=[],args:=[],vararg:=none,kwonlyargs:=[],kw_defaults:=[],kwarg:=none,defaults:=[] }
noncomputable def cN (s:Stmt):List Stmt:=match s with
  | .FunctionDef _ _ b _ _ _ _ _ _ _=>b
  | _=>[]
noncomputable def ak (s:Stmt):Scope:=match s with
  | .FunctionDef _ _ _ _ _ _ sc _ _ _=>sc
  | _=>{ kind:=.function,names:=[],isGenerator:=false,isCoroutine:=false }
noncomputable abbrev F2:vO:=fun _ _ _ _ _ _=>False
structure h7 (K:PySem.W.Frag) (x qual:Str) (st:Stmt) (f:Addr) (fd:FuncData):Prop where
  ex:∃ (oc:Value) (od:Option Addr) (kV doc pm:Value) (an:Option Addr) (cdv ct:Value) (osl:Array (Option Value)),
    fd=PySem.W.fnOf x qual (dX st) (cN st) (ak st) .none kV doc pm an cdv ct/\K.lookup f=some ⟨oc,od,.func fd,osl⟩/\PySem.W.codeIn K cdv qual=true
  kp:PySem.W.keepIn K (.ref f)=true
section
variable {P:Program} {w:World} {K:PySem.W.Frag} {mg:Str->Option Value} {base:Heap}
theorem h7.ok {x qual:Str} {st:Stmt} {f:Addr} {fd:FuncData} {N ps:List Str} {k:Nat} {sp:Sp} (F:h7 K x qual st f fd) (S:aP N ps (ak st)) (len:∀ vs H Q E,sp vs H Q E->vs.length=ps.length)
    (hbody:∀ (cdv:Value) (A:Around) (outer:List Env) (s:Shared) (H:Hp) (vs:List V) (Q:VK) (E:XK),fB k (A.deeper (envOfC qual (ak st) s.heap.objs.size f cdv))->sp vs H Q E ->
      ∃ t,ou (eR F2 P w K mg base N qual (ak st) f cdv A outer s H E).nox (cN st) t/\t { nx:=fun _ H'=>Q .non H',rt:=Q } (hW N vs) H):bj P w K mg base F2 (k+1) f fd ps sp:=by
  obtain ⟨oc,od,kV,doc,pm,an,cdv,ct,osl,rfl,lk,hcd⟩:=F.ex;refine Ax lk hcd S len fun A outer s H vs Q E hr hsp=>?_
  obtain ⟨t,h,q⟩:=hbody cdv A outer s H vs Q E hr hsp;exact ⟨t,h.nox,q⟩
theorem h7.binds {x qual:Str} {st:Stmt} {f:Addr} {fd:FuncData} {ps:List Str} (F:h7 K x qual st f fd)
    (h:∀ (kV doc pm:Value) (an:Option Addr) (cdv ct:Value) (us:List Value),us.length=ps.length->bindArgs (PySem.W.fnOf x qual (dX st) (cN st) (ak st) .none kV doc pm an cdv ct) ⟨us,[]⟩=pure (ps.zip us)):bT K fd ps []:=by
  obtain ⟨oc,od,kV,doc,pm,an,cdv,ct,osl,rfl,lk,hcd⟩:=F.ex;exact .all (h kV doc pm an cdv ct)
theorem wK {x qual:Str} {st:Stmt} {f:Addr} {oc:Value} {od an:Option Addr} {osl:Array (Option Value)} {kV doc pm cdv ct:Value} (l:K.lookup f=some ⟨oc,od,.func (PySem.W.fnOf x qual (dX st) (cN st) (ak st) .none kV doc pm an cdv ct),osl⟩)
    (c:PySem.W.codeIn K cdv qual=true) (k:PySem.W.keepIn K (.ref f)=true):h7 K x qual st f (PySem.W.fnOf x qual (dX st) (cN st) (ak st) .none kV doc pm an cdv ct):=⟨⟨oc,od,kV,doc,pm,an,cdv,ct,osl,rfl,l,c⟩,k⟩
end
section
variable {X:Cx}
theorem pv (i:Nat) {x:Str} {pos:Pos} (hN:X.N[i]?=some x:=by rfl) (hv:A7 X.env.scope x:=by first | exact Or.inl rfl | exact Or.inr (Or.inl rfl) | exact Or.inr (Or.inr rfl)) (hd:(x==("__debug__" : Str))=false:=by decide)
    (hcd:(x==("__classdict__" : Str))=false:=by decide):PE X (.Name x pos) (Ej i):=iy hN hv hd hcd
end
noncomputable def ar (H H':Hp):Prop:=∀ b o,H b=some o->H' b=some o
theorem ar.refl (H:Hp):ar H H:=fun _ _ h=>h
theorem ar.trans {H H1 H2:Hp} (a:ar H H1) (b:ar H1 H2):ar H H2:=fun c o h=>b c o (a c o h)
theorem ar.free {H H':Hp} (e:ar H H') {l:Addr} (h:H' l=Option.none):H l=Option.none:=by
  cases q:H l with
  | none=>rfl
  | some o =>
    rw [e l o q] at h;cases h
section
variable {κ:Type} [DecidableEq κ]
noncomputable def ge (kvs:List (κ×V)) (k:κ):Option V:=(kvs.find? fun kv=>decide (kv.1=k)).map (·.2)
noncomputable def iW (kvs:List (κ×V)) (k:κ) (v:V):List (κ×V) :=
  if (kvs.any fun kv=>decide (kv.1=k))=true then kvs.map (fun kv=>if kv.1=k then (kv.1,v) else kv) else kvs++[(k,v)]
theorem mB {p:κ×V} {r:List (κ×V)} {k:κ} (e:p.1=k):ge (p::r) k=some p.2:=by simp [ge,List.find?_cons,e]
theorem mz {p:κ×V} {r:List (κ×V)} {k:κ} (e:¬ p.1=k):ge (p::r) k=ge r k:=by simp [ge,List.find?_cons,e]
theorem ro (k:κ):∀ kvs:List (κ×V),(kvs.any fun kv=>decide (kv.1=k))=(ge kvs k).isSome
  | []=>rfl
  | p::r=>by
    rw [List.any_cons];by_cases e:p.1=k
    · simp only [mB e,decide_eq_true e,Bool.true_or,Option.isSome_some]
    · rw [mz e,decide_eq_false e,Bool.false_or];exact ro k r
theorem kC (kvs:List (κ×V)) (k:κ) (v:V):(iW kvs k v).length<=kvs.length+1:=by
  unfold iW;split
  · rw [List.length_map];omega
  · rw [List.length_append,List.length_cons,List.length_nil];omega
theorem lq.isSome_eq {o:Option V} {u:Option Value} (r:lq o u):o.isSome=u.isSome:=by
  cases o with
  | none=>cases u with
    | none=>rfl
    | some _=>exact (show False from r).elim
  | some _=>cases u with
    | none=>exact (show False from r).elim
    | some _=>rfl
theorem KV.val {kvs:List (κ×V)} {vs:List (κ×Value)} (r:KV kvs vs) (k:κ):lq (ge kvs k) (valueAt vs k):=by
  unfold KV at r;induction r with
  | nil=>exact True.intro
  | @cons p q ps qs h t ih =>
    obtain ⟨h1,h2⟩:=h;by_cases e:p.1=k
    · have e':q.1=k:=h1.symm.trans e;have b:valueAt (q::qs) k=some q.2:=by simp [valueAt,List.find?_cons,e']
      rw [mB e,b];exact h2
    · have e':¬ q.1=k:=fun z=>e (h1.trans z)
      have b:valueAt (q::qs) k=valueAt qs k:=by simp [valueAt,List.find?_cons,e']
      rw [mz e,b];exact ih
theorem KV.any {kvs:List (κ×V)} {vs:List (κ×Value)} (r:KV kvs vs) (k:κ):(kvs.any fun kv=>decide (kv.1=k))=vs.any fun kv=>decide (kv.1=k):=by
  unfold KV at r;induction r with
  | nil=>rfl
  | cons h t ih=>rw [List.any_cons,List.any_cons,ih,h.1]
theorem KV.repl {kvs:List (κ×V)} {vs:List (κ×Value)} (r:KV kvs vs) (k:κ) {y:V} {u:Value} (ry:bH y u) :
    KV (kvs.map fun kv=>if kv.1=k then (kv.1,y) else kv) (vs.map fun kv=>if kv.1=k then (kv.1,u) else kv):=by
  unfold KV at r ⊢;induction r with
  | nil=>exact .nil
  | @cons p q ps qs h t ih =>
    rw [List.map_cons,List.map_cons];refine .cons ?_ ih;obtain ⟨h1,h2⟩:=h;by_cases e:p.1=k
    · rw [if_pos e,if_pos (h1.symm.trans e)];exact ⟨h1,ry⟩
    · rw [if_neg e,if_neg (fun z=>e (h1.trans z))];exact ⟨h1,h2⟩
theorem KV.put {kvs:List (κ×V)} {vs:List (κ×Value)} (r:KV kvs vs) (k:κ) {y:V} {u:Value} (ry:bH y u):KV (iW kvs k y) (stored vs k u):=by
  unfold iW stored;rw [r.any k];by_cases e:(vs.any fun kv=>decide (kv.1=k))=true
  · rw [if_pos e,if_pos e];exact r.repl k ry
  · rw [if_neg e,if_neg e];exact Paired.snoc r ⟨rfl,ry⟩
theorem KV.keys {kvs:List (κ×V)} {vs:List (κ×Value)} (r:KV kvs vs):kvs.map (·.1)=vs.map (·.1):=by
  unfold KV at r;induction r with
  | nil=>rfl
  | cons h t ih=>rw [List.map_cons,List.map_cons,ih,h.1]
theorem KV.length {kvs:List (κ×V)} {vs:List (κ×Value)} (r:KV kvs vs):kvs.length=vs.length:=Paired.length r
end
theorem tO {P:Program} {w:World} {k:bp} {u:Value} (r:bH (kV k) u):(cx P w).is k u=true:=by
  cases k with
  | inl i=>obtain ⟨t,e⟩:=(show ∃ t,u=Value.int i t from r);subst e;exact qM P w i t
  | inr x=>obtain ⟨t,e⟩:=(show ∃ t,u=Value.str x t from r);subst e;exact qN P w x t
theorem nJ {P:Program} {w:World}:∀ {ks:List bp} {us:List Value},ba (ks.map kV) us->ItemsAre (cx P w) ks us
  | [],_,r=>by rw [List.map_nil] at r;cases r;exact .nil
  | k::ks,_,r=>by
    rw [List.map_cons] at r;cases r with
    | cons h t=>exact .cons (tO h) (nJ t)
noncomputable abbrev KT (H:Hp):List (List bp×V)->List (List bp×Addr×Value)->Prop:=Paired fun p q=>p.1=q.1/\H q.2.1=some (.tup (p.1.map kV))/\bH p.2 q.2.2
theorem KT.val {H:Hp} {kvs:List (List bp×V)} {xs:List (List bp×Addr×Value)} (r:KT H kvs xs) (k:List bp):lq (ge kvs k) ((atKey xs k).map (·.2)):=by
  induction r with
  | nil=>exact True.intro
  | @cons p q ps qs h t ih =>
    obtain ⟨h1,_,h2⟩:=h;by_cases e:p.1=k
    · have e':q.1=k:=h1.symm.trans e;have b:atKey (q::qs) k=some q.2:=by simp [atKey,List.find?_cons,e']
      rw [mB e,b];exact h2
    · have e':¬ q.1=k:=fun z=>e (h1.trans z)
      have b:atKey (q::qs) k=atKey qs k:=by simp [atKey,List.find?_cons,e']
      rw [mz e,b];exact ih
theorem KT.repl {H:Hp} {kvs:List (List bp×V)} {xs:List (List bp×Addr×Value)} (r:KT H kvs xs) (k:List bp) {y:V} {u:Value} (ry:bH y u) :
    KT H (kvs.map fun kv=>if kv.1=k then (kv.1,y) else kv) (xs.map (putAt k u)):=by
  induction r with
  | nil=>exact .nil
  | @cons p q ps qs h t ih =>
    rw [List.map_cons,List.map_cons];refine .cons ?_ ih;obtain ⟨h1,h2,h3⟩:=h;unfold putAt;by_cases e:p.1=k
    · rw [if_pos e,if_pos (h1.symm.trans e)];exact ⟨h1,h2,ry⟩
    · rw [if_neg e,if_neg (fun z=>e (h1.trans z))];exact ⟨h1,h2,h3⟩
theorem KT.put {H:Hp} {kvs:List (List bp×V)} {xs:List (List bp×Addr×Value)} (r:KT H kvs xs) (k:List bp) {b:Addr} {y:V} {u:Value} (hb:H b=some (.tup (k.map kV))) (ry:bH y u) :
    KT H (iW kvs k y) (storedH xs k b u):=by
  have e:(kvs.any fun kv=>decide (kv.1=k))=(atKey xs k).isSome:=by
    rw [ro,(r.val k).isSome_eq,Option.isSome_map]
  unfold iW storedH;rw [e];by_cases q:(atKey xs k).isSome=true
  · rw [if_pos q,if_pos q];exact r.repl k ry
  · rw [if_neg q,if_neg q];exact Paired.snoc r ⟨rfl,hb,ry⟩
theorem KT.keeps {H H':Hp} {kvs:List (List bp×V)} {xs:List (List bp×Addr×Value)} (r:KT H kvs xs) (ht:∀ b ys,H b=some (.tup ys)->H' b=some (.tup ys)):KT H' kvs xs :=
  Paired.mapP r fun _ _ z=>⟨z.1,ht _ _ z.2.1,z.2.2⟩
section
variable {P:Program} {w:World} {H:Hp} {h:Heap} {a:Addr}
theorem AN {u:HO} (ok:gg P w H h) (e:Rd H a u):bG P w H h a u:=e.ok ok
theorem nC {kvs:List (bp×V)} (ok:gg P w H h) (e:Rd H a (.dK kvs)):kvs.length<=sizeLine/\(a==sysModules)=false/\∃ vs,KV kvs vs/\h.DictOf (cx P w) a vs :=
  show bG P w H h a (.dK kvs) from AN ok e
theorem CY {kvs:List (bp×V)} (ok:gg P w H h) (e:H a=some (.dK kvs)):kvs.length<=sizeLine/\(a==sysModules)=false/\∃ vs,KV kvs vs/\h.DictOf (cx P w) a vs:=nC ok (.inl e)
theorem o4 {ks:List bp} (ok:gg P w H h) (e:H a=some (.tup (ks.map kV))):(tupleKind (cx P w)).is h ks a:=by
  obtain ⟨_,its,r,o,h1,h2,⟨n,h3⟩,_⟩:=(show bG P w H h a (.tup (ks.map kV)) from ok a _ e)
  exact ⟨o,its.toArray,n,h1,h2,h3,by simpa using nJ r⟩
theorem qv {kvs:List (List bp×V)} (ok:gg P w H h) (e:Rd H a (.dT kvs)):kvs.length<=sizeLine/\(a==sysModules)=false /\
    ∃ xs,KT H kvs xs/\h.DictOfH (tupleKind (cx P w)) a xs:=by
  obtain ⟨z,y,xs,r,o,es,ep,h1,h2,h3,h4,h5⟩:=(show bG P w H h a (.dT kvs) from AN ok e)
  refine ⟨z,y,xs,r,o,es,ep,h1,h2,h3,h4,fun x hx=>?_,h5⟩;have all:∀ {l:List (List bp×V)} {m:List (List bp×Addr×Value)},KT H l m->∀ x∈m,(tupleKind (cx P w)).is h x.1 x.2.1:=by
    intro l m q;induction q with
    | nil=>intro x hx;exact nomatch hx
    | @cons p q ps qs hq t ih =>
      intro x hx;rcases List.mem_cons.mp hx with e | hx
      · subst e;exact o4 ok (by rw [<- hq.1];exact hq.2.1)
      · exact ih x hx
  exact all r x hx
theorem Da {kvs:List (List bp×V)} (ok:gg P w H h) (e:H a=some (.dT kvs)):kvs.length<=sizeLine/\(a==sysModules)=false /\
    ∃ xs,KT H kvs xs/\h.DictOfH (tupleKind (cx P w)) a xs:=qv ok (.inl e)
end
noncomputable def lg (H:Hp) (a:Addr) (y:V) (r:Option V):Prop :=
  (∃ kvs k,Rd H a (.dK kvs)/\y=kV k/\r=ge kvs k)\/∃ kvs k b,Rd H a (.dT kvs)/\y=.ref b/\H b=some (.tup (k.map kV))/\r=ge kvs k
noncomputable def pH (H:Hp) (a:Addr) (y v:V) (H':Hp):Prop :=
  (∃ kvs k,H a=some (.dK kvs)/\y=kV k/\kvs.length < sizeLine/\H'=cI H a (.dK (iW kvs k v))) \/
  ∃ kvs k b,H a=some (.dT kvs)/\y=.ref b/\H b=some (.tup (k.map kV))/\kvs.length < sizeLine/\H'=cI H a (.dT (iW kvs k v))
theorem lg.k {H:Hp} {a:Addr} {kvs:List (bp×V)} {k:bp} (e:H a=some (.dK kvs)):lg H a (kV k) (ge kvs k):=.inl ⟨kvs,k,.inl e,rfl,rfl⟩
theorem lg.t {H:Hp} {a b:Addr} {kvs:List (List bp×V)} {k:List bp} (e:H a=some (.dT kvs)) (eb:H b=some (.tup (k.map kV))):lg H a (.ref b) (ge kvs k):=.inr ⟨kvs,k,b,.inl e,rfl,eb,rfl⟩
theorem pH.k {H:Hp} {a:Addr} {kvs:List (bp×V)} {k:bp} {v:V} (e:H a=some (.dK kvs)) (hl:kvs.length < sizeLine):pH H a (kV k) v (cI H a (.dK (iW kvs k v))):=.inl ⟨kvs,k,e,rfl,hl,rfl⟩
theorem pH.t {H:Hp} {a b:Addr} {kvs:List (List bp×V)} {k:List bp} {v:V} (e:H a=some (.dT kvs)) (eb:H b=some (.tup (k.map kV))) (hl:kvs.length < sizeLine) :
    pH H a (.ref b) v (cI H a (.dT (iW kvs k v))):=.inr ⟨kvs,k,b,e,rfl,eb,hl,rfl⟩
section
variable {X:Cx} {pins:List (Addr×Obj)} {σ:St} {H:Hp} {s:Shared} {a:Addr} {y v:V} {u r:Value} {o:Option V} {A:Around} {E:Value->Shared->Prop}
theorem aC.big (I:aC X pins σ H s):sysModules < s.heap.objs.size:=by
  have h:mainGlobals < s.heap.objs.size:=(I.mod.glob.keeps I.bk).lt;exact Nat.lt_trans (by decide) h
theorem uI {Q:Value->Shared->Prop} (hu:A.units+1 < cLine) (I:aC X pins σ H s) (g:lg H a y (some v)) (ry:bH y u) (h:∀ w' s',aC X pins σ H s'->bH v w'->Q w' s') :
    wpAny (model X.prog X.w) A (getItem (.ref a) u) Q E s:=by
  rcases g with ⟨kvs,k,e,ey,l⟩ | ⟨kvs,k,b,e,ey,eb,l⟩
  · subst ey;obtain ⟨z,hd,vs,rel,dd⟩:=nC I.hok e;obtain ⟨w',hw,rw'⟩:=lq.some_of (v:=v) (o:=valueAt vs k) (by rw [l];exact rel.val k);exact wpAny_getItem_of (tO ry) dd.mapOf hw (h w' _ (I.tok _) rw')
  · subst ey;cases (show u=Value.ref b from ry);obtain ⟨z,hd,xs,rel,dd⟩:=qv I.hok e;obtain ⟨w',hw,rw'⟩:=lq.some_of (v:=v) (o:=(atKey xs k).map (·.2)) (by rw [l];exact rel.val k);obtain ⟨p,hp,hp2⟩:=Option.map_eq_some_iff.mp hw;refine wpAny_getItem_heap (tupleKind_room_in1 hu) (o4 I.hok eb) dd hp ?_;rw [hp2];exact h w' _ (I.tok _) rw'
theorem Fn {Q:Value->Shared->Prop} (hu:A.units+1 < cLine) (I:aC X pins σ H s) (g:lg H a y o) (ry:bH y u) (h:∀ s',aC X pins σ H s'->Q (.bool o.isSome) s') :
    wpAny (model X.prog X.w) A (compareOp .In u (.ref a)) Q E s:=by
  rcases g with ⟨kvs,k,e,ey,l⟩ | ⟨kvs,k,b,e,ey,eb,l⟩
  · subst ey;obtain ⟨z,hd,vs,rel,dd⟩:=nC I.hok e;refine wpAny_in_of (tO ry) hd dd.mapOf ?_;rw [<- (rel.val k).isSome_eq,<- l];exact h _ (I.tok _)
  · subst ey;cases (show u=Value.ref b from ry);obtain ⟨z,hd,xs,rel,dd⟩:=qv I.hok e;refine wpAny_in_heap (tupleKind_room_in1 hu) (o4 I.hok eb) hd dd ?_;have q:=(rel.val k).isSome_eq;rw [Option.isSome_map] at q;rw [<- q,<- l];exact h _ (I.tok _)
theorem tF {h':Heap} {t':Nat} {ob:HO} (I:aC X pins σ H s) (mu:CG (H a)) (hs:Heap.SameBut a s.heap h') (he:∃ q,h'.get? a=some q) (new:bG X.prog X.w (cI H a ob) h' a ob) :
    aC X pins σ (cI H a ob) { s with heap:=h',toks:=t' } :=
  I.write (x:=a) (e:=a) mu (.inl rfl) (fun b q hb z=>(hs.2 b hb).trans z) he new
theorem Bl {P:Program} {w:World} {H':Hp} {h':Heap} {kvs:List (bp×V)} {vs:List (bp×Value)} (z:kvs.length<=sizeLine) (hd:(a==sysModules)=false) (rel:KV kvs vs) (dd:h'.DictOf (cx P w) a vs) :
    bG P w H' h' a (.dK kvs):=⟨z,hd,vs,rel,dd⟩
theorem uJ {H':Hp} {Q:Unit->Shared->Prop} (hu:A.units+1 < cLine) (I:aC X pins σ H s) (g:pH H a y v H') (ry:bH y u) (rv:bH v r) (h:∀ s',aC X pins σ H' s'->Q () s') :
    wpAny (model X.prog X.w) A (setItem (.ref a) u r) Q E s:=by
  rcases g with ⟨kvs,k,e,ey,l,eH⟩ | ⟨kvs,k,b,e,ey,eb,l,eH⟩
  · subst ey eH;obtain ⟨z,hd,vs,rel,dd⟩:=CY I.hok e;have hz:vs.length<=sizeLine:=by rw [<- rel.length];exact z
    have hl:(iW kvs k v).length<=sizeLine:=by have:=kC kvs k v;omega
    refine wpAny_setItem_pairs (hsz:=hz) (tO ry) dd fun h' dd' hs=>h _ ?_
    have he:∃ q,h'.get? a=some q:=let ⟨q,_,_,hq,_⟩:=dd';⟨q,hq⟩
    exact tF I (by rw [e];exact True.intro) hs he (Bl hl hd (rel.put k rv) dd')
  · subst ey eH;cases (show u=Value.ref b from ry);obtain ⟨z,hd,xs,rel,dd⟩:=Da I.hok e;have hz:xs.length<=sizeLine:=by rw [<- Paired.length rel];exact z
    have hl:(iW kvs k v).length<=sizeLine:=by have:=kC kvs k v;omega
    refine wpAny_setItem_heap (hsz:=hz) (tupleKind_room_in1 hu) (o4 I.hok eb) dd fun h' dd' hs=>h _ ?_
    obtain ⟨q,es,ep,hq,h2,h3,h4,_,h5⟩:=dd';refine tF I (by rw [e];exact True.intro) hs ⟨q,hq⟩ ⟨hl,hd,_,(rel.put k eb rv).keeps fun c ys ec=>?_,q,es,ep,hq,h2,h3,h4,h5⟩;rw [aA (Dx ec e (fun z=>nomatch z))];exact ec
end
section
variable {X:Cx} {pins:List (Addr×Obj)} {σ:St} {H:Hp} {s:Shared} {a:Addr} {kvs:List (bp×V)} {k:bp} {u:Value} {A:Around} {E:Value->Shared->Prop}
theorem CW {Q:Value->Shared->Prop} (I:aC X pins σ H s) (e:Rd H a (.dK kvs)) (h:∀ t s',aC X pins σ H s'->Q (.int kvs.length t) s'):wpAny (model X.prog X.w) A (call (.builtin "len") [.ref a]) Q E s:=by
  obtain ⟨z,hd,vs,rel,dd⟩:=nC I.hok e;refine call_len_dict hd dd (by rw [<- rel.length];rw [sizeLine_eq] at z;omega) ?_;rw [<- rel.length];exact h _ _ (I.tok _)
end
theorem qt {X:Cx} {pins:List (Addr×Obj)} {σ:St} {H:Hp} {s:Shared} {a:Addr} {y:V} {o:Option V} (I:aC X pins σ H s) (g:lg H a y o):s.TypeIs (.ref a) "dict" := by
  rcases g with ⟨kvs,k,e,_,_⟩ | ⟨kvs,k,b,e,_,_,_⟩
  · obtain ⟨_,_,vs,_,dd⟩:=nC I.hok e;exact dd.typeIs
  · obtain ⟨_,_,xs,_,dd⟩:=qv I.hok e;exact dd.typeIs
noncomputable def DX (td ty tv:TE):TS:=fun D σ H=>tv σ H fun v H1=>td σ H1 fun x H2=>ty σ H2 fun y H3=>∃ a H4,x=.ref a/\pH H3 a y v H4/\D.nx σ H4
section
variable {X:Cx} {o i e value:Expr} {pos pos' tpos:Pos} {td ty tv:TE}
theorem tZ (hu:X.A.units+1 < cLine) (ho:PE X o td) (hi:PE X i ty) (hv:PE X value tv) (hs:swapsWith value (some (.Subscript o i pos')) pos.line X.env=pure false) :
    PS X (.Assign [.Subscript o i pos'] value pos) (DX td ty tv):=by
  intro pins s σ H D I h;refine wpAny_Assign_Subscript (cR (hv pins s σ H _ I h) fun r s1 ⟨v,H1,I1,rv,q1⟩=>cR (ho pins s1 σ H1 _ I1 q1) fun u s2 ⟨x,H2,I2,rx,q2⟩=>cR (hi pins s2 σ H2 _ I2 q2) fun iv s3 zq0=>?_) hs;obtain ⟨y,H3,I3,ry,a,H4,ex,g,q3⟩:=zq0;subst ex;obtain rfl:u=Value.ref a:=rx;exact uJ hu I3 g ry rv fun s4 I4=>⟨σ,H4,I4,q3⟩
end
theorem wF {P:Program} {w:World} {H:Hp} (h:Heap) (hb:sysModules < h.objs.size):bG P w H (h.push { cls:=.type "dict",data:=.dict #[] }) h.objs.size (.dK []) :=
  ⟨Nat.zero_le _,beq_eq_false_iff_ne.mpr (Ne.symm (Nat.ne_of_lt hb)),[],.nil,Heap.DictOf.new h⟩
theorem wG {P:Program} {w:World} {H:Hp} (h:Heap) (hb:sysModules < h.objs.size):bG P w H (h.push { cls:=.type "dict",data:=.dict #[] }) h.objs.size (.dT []) :=
  ⟨Nat.zero_le _,beq_eq_false_iff_ne.mpr (Ne.symm (Nat.ne_of_lt hb)),[],.nil,_,#[],0,Heap.get?_push_size _ rfl,⟨rfl,rfl,rfl⟩,rfl,rfl,List.nodup_nil⟩
noncomputable def Cn:TE:=fun _ H Q=>∀ p,H p=none->Q (.ref p) (cI H p (.dK []))
noncomputable def Co:TE:=fun _ H Q=>∀ p,H p=none->Q (.ref p) (cI H p (.dT []))
section
variable {X:Cx} {pos:Pos}
theorem xu:PE X (.Dict [] [] pos) Cn:=fun pins s σ H Q I h =>
  wpAny_Dict_empty ⟨.ref s.heap.objs.size,_,I.laid (a:=s.heap.objs.size) (o:=.dK []) (t':=s.toks) (fun _ _ q=>Heap.get?_push_of_some _ q) (Nat.le_refl _) (wF s.heap I.big),rfl,h _ (I.hok.fresh (Nat.le_refl _))⟩
theorem xw:PE X (.Dict [] [] pos) Co:=fun pins s σ H Q I h =>
  wpAny_Dict_empty ⟨.ref s.heap.objs.size,_,I.laid (a:=s.heap.objs.size) (o:=.dT []) (t':=s.toks) (fun _ _ q=>Heap.get?_push_of_some _ q) (Nat.le_refl _) (wG s.heap I.big),rfl,h _ (I.hok.fresh (Nat.le_refl _))⟩
end
end L2
set_option maxHeartbeats 4000000
set_option genInjectivity true
namespace D2
open PySem PySem.Spec PyProof.Rows L2
theorem vf {α:Type} {n:Nat} {us:List α} (h:us.length=n+1):∃ a r,us=a::r/\r.length=n:=by
  cases us with
  | nil=>cases h
  | cons a r=>exact ⟨a,r,rfl,Nat.succ.inj h⟩
noncomputable def pW (base:Heap) (l:List Env) (e:Addr) (cls a0:Value) (h:Heap):Prop:=base.StaysIn h/\base.get? e=none/\h.FunFrames base l/\∃ fl,h.TracedAtW base e cls a0 fl
theorem pW.of {base h:Heap} {l:List Env} {e:Addr} {cls a0:Value} (x:Heap.FlyingW base l e cls a0 h):pW base l e cls a0 h:=⟨x.1,x.2.1,x.2.2.1,.none,x.2.2.2⟩
section
variable {M:Model} {A:Around} {E:Value->Shared->Prop} {s:Shared} {base:Heap} {l:List Env} {env:Env} {outer:List Env} {L e:Addr} {cls a0:Value} {Q:Unit->Shared->Prop}
theorem Am {h:Heap}:h.UpToSlots h:=fun b o hb _=>⟨o.slots,hb⟩
theorem rn (hfr:A.frames=some (env::outer)) (hf:env.frame=some L) (t:pW base (env::outer) e cls a0 s.heap)
    (hQ:∀ h',pW base (env::outer) e cls a0 h'->s.heap.UpToSlots h'->Q () { s with heap:=h' }):wpAny M A (noteFrame (.ref e) env) Q E s:=by
  have t':=t;obtain ⟨hkb,hen,hl,fl,oe,vs,T,oT,ts,he,⟨hcls,h0⟩,hd,h1,hnT,hTe,hT,hdT,h3⟩:=t;subst hcls;unfold noteFrame;simp only [hf];refine wpAny_bind (wpAny_field he hd h1 ?_);rw [if_pos (show (Value.ref T != Value.none)=true from by simp)];refine wpAny_bind (wpAny_field hT hdT h3 ?_);by_cases hfl:(fl==rawInt L)=true
  · rw [if_pos hfl];exact wpAny_pure (hQ s.heap t' Am)
  · rw [if_neg hfl];refine wpAny_bind (wpAny_setField hT hdT (Array.getElem?_eq_some_iff.mp h3).1 ?_);have other:∀ b,b≠T->(s.heap.update T (Obj.mapFields (·.setIfInBounds 3 Value.none))).get? b=s.heap.get? b:=fun b hb=>Heap.get?_update_other _ _ (Ne.symm hb)
    have noRecord:∀ b o,s.heap.get? b=some o->(∀ vs,o.data≠.fields vs)->b≠T:=fun b o hb hnf q=>by
      rw [q,hT] at hb;injection hb with hb;subst hb;exact hnf ts hdT
    refine wpAny_entryW hfr (hl.of_keeps fun b o hb hnf=>⟨o,(other b (noRecord b o hb hnf)).trans hb,rfl⟩) hf ((other e (Ne.symm hTe)).trans he)
      (fun b o hbo=>(other b fun q=>by rw [q,hnT] at hbo;cases hbo).trans (hkb b o hbo)) hen hd (Array.getElem?_eq_some_iff.mp h1).1 h0
      fun h' ⟨x1,x2,x3,x4⟩=>hQ h' ⟨x1,hen,x2,_,x3⟩ fun b o hb hnf=>x4 b o ((other b (noRecord b o hb hnf)).trans hb) hnf
theorem sS (f:Option Addr) (t:pW base l e cls a0 s.heap) (hQ:∀ h',pW base l e cls a0 h'->s.heap.UpToSlots h'->Q () { s with heap:=h' }):wpAny M A (setFlight (.ref e) f) Q E s:=by
  obtain ⟨hkb,hen,hl,fl,oe,vs,T,oT,ts,he,hcls,hd,h1,hnT,hTe,hT,hdT,h3⟩:=t;have hsz3:3 < ts.size:=(Array.getElem?_eq_some_iff.mp h3).1;have other:∀ b,b≠T->(s.heap.update T (Obj.mapFields (·.setIfInBounds 3 (f.elim Value.none fun f=>rawInt f)))).get? b=s.heap.get? b :=
    fun b hb=>Heap.get?_update_other _ _ (Ne.symm hb)
  have noRecord:∀ b o,s.heap.get? b=some o->(∀ vs,o.data≠.fields vs)->b≠T:=fun b o hb hnf q=>by
    rw [q,hT] at hb;injection hb with hb;subst hb;exact hnf ts hdT
  unfold setFlight;refine wpAny_bind (wpAny_field he hd h1 ?_);rw [if_pos (show (Value.ref T != Value.none)=true from by simp)];refine wpAny_setField hT hdT hsz3 (hQ _ ⟨fun b o hbo=>(other b fun q=>by rw [q,hnT] at hbo;cases hbo).trans (hkb b o hbo),hen,
    hl.of_keeps fun b o hb hnf=>⟨o,(other b (noRecord b o hb hnf)).trans hb,rfl⟩,(f.elim Value.none fun f=>rawInt f),?_⟩ fun b o hb hnf=>⟨o.slots,(other b (noRecord b o hb hnf)).trans hb⟩)
  exact ⟨oe,vs,T,_,_,(other e (Ne.symm hTe)).trans he,hcls,hd,h1,hnT,hTe,Heap.get?_update_self _ hT (Obj.isFreed_of_fields (Obj.data_mapFields hdT _)),Obj.data_mapFields hdT _,by simp [hsz3]⟩
theorem ye (t:pW base l e cls a0 s.heap) (hQ:∀ h',Heap.FlyingW base l e cls a0 h'->s.heap.UpToSlots h'->Q () { s with heap:=h' }):wpAny M A (setFlight (.ref e) none) Q E s:=by
  obtain ⟨hkb,hen,hl,fl,ht⟩:=t;exact wpAny_setFlight_noneW hkb hl ht fun h' k1 k2 k3 k4=>hQ h' ⟨k1,hen,k2,k3⟩ fun b o hb hn=>⟨o.slots,k4 b o hb hn⟩
theorem vG (hfr:A.frames=some (env::outer)) (hf:env.frame=some L) (t:pW base (env::outer) e cls a0 s.heap)
    (hQ:∀ h',Heap.FlyingW base outer e cls a0 h'->s.heap.UpToSlots h'->Q () { s with heap:=h' }):wpAny M A (leaving env (.ref e)) Q E s:=by
  unfold leaving;refine wpAny_bind (rn hfr hf t fun h1 t1 u1=>?_);refine ye (s:={ s with heap:=h1 }) t1 fun h2 t2 u2=>?_
  obtain ⟨k1,k2,⟨_,_,k3⟩,k4⟩:=t2;exact hQ h2 ⟨k1,k2,k3,k4⟩ (u1.trans u2)
theorem yd {α:Type} {k:Value->Sem α} {Q:α->Shared->Prop} (t:pW base l e cls a0 s.heap) (hQ:∀ T,wpAny M A (k (.ref T)) Q E s):wpAny M A (field (.ref e) 1>>=k) Q E s:=by
  obtain ⟨hkb,hen,hl,fl,oe,vs,T,oT,ts,he,hcls,hd,h1,r⟩:=t;exact wpAny_bind (wpAny_field he hd h1 (hQ T))
theorem yf {α:Type} {what:String} {Q:α->Shared->Prop} (t:pW base l e cls a0 s.heap) (hQ:∀ h',pW base l e cls a0 h'->s.heap.UpToSlots h'->E (.ref e) { s with heap:=h' }):wpAny M A (PySem.passOn what (.ref e) env:Sem α) Q E s:=by
  unfold PySem.passOn;refine yd t fun T=>?_
  rw [if_neg (show ¬ ((Value.ref T==Value.none)=true) from by simp)];refine wpAny_bind (sS _ t fun h' t' u=>?_);exact wpAny_throw (hQ h' t' u)
theorem pW.first {h:Heap} (x:pW base l e cls a0 h):∃ oe vs,h.get? e=some oe/\oe.cls=cls/\oe.data=.fields vs/\vs[0]?=some a0:=by
  obtain ⟨_,_,_,_,oe,vs,_,_,_,he,hc,hd,_⟩:=x;exact ⟨oe,vs,he,hc.1,hd,hc.2⟩
end
noncomputable abbrev St:=L2.St
noncomputable abbrev aC:=@L2.aC
noncomputable def de:bp->PyData
  | .inl i=>.int i
  | .inr x=>.str x
mutual
noncomputable def Rp (H:Hp):PyData->V->Prop
  | .none,v=>v=.non
  | .bool b,v=>v=.bl b
  | .int i,v=>v=.int i
  | .str x,v=>v=.str x
  | .tuple ds,v=>∃ a vs,v=.ref a/\H a=some (.tup vs)/\aZ H ds vs
  | .list ds,v=>∃ a o vs,v=.ref a/\H a=some (.frz o (.lst vs))/\aZ H ds vs
  | .dict kvs,v=>(∃ a o ks,v=.ref a/\H a=some (.frz o (.dK ks))/\dj H kvs ks)\/(∃ a o C dx fs,v=.ref a/\H a=some (.frz o (.ins C dx fs))/\vN H C fs kvs)\/∃ a o ks,v=.ref a/\H a=some (.frz o (.dT ks))/\mE H ks kvs
noncomputable def aZ (H:Hp):List PyData->List V->Prop
  | [],vs=>vs=[]
  | d::ds,vs=>∃ v r,vs=v::r/\Rp H d v/\aZ H ds r
noncomputable def dj (H:Hp):List (PyData×PyData)->List (bp×V)->Prop
  | [],ks=>ks=[]
  | kd::kvs,ks=>∃ x v r,ks=(x,v)::r/\uh H kd x v/\dj H kvs r
noncomputable def uh (H:Hp):PyData×PyData->bp->V->Prop
  | (k,d),x,v=>k=de x/\Rp H d v
noncomputable def vN (H:Hp) (C:Addr) (fs:List (Str×V)):List (PyData×PyData)->Prop
  | []=>False
  | kd::kvs=>kd=(.none,.int C)/\yD H kvs fs
noncomputable def yD (H:Hp):List (PyData×PyData)->List (Str×V)->Prop
  | [],fs=>fs=[]
  | kd::kvs,fs=>∃ x v r,fs=(x,v)::r/\Cy H kd x v/\yD H kvs r
noncomputable def Cy (H:Hp):PyData×PyData->Str->V->Prop
  | (k,d),x,v=>k=.str x/\Rp H d v
noncomputable def mE (H:Hp) (ks:List (List bp×V)):List (PyData×PyData)->Prop
  | []=>False
  | kd::kvs=>kd=(.bool true,.none)/\dS H kvs ks
noncomputable def dS (H:Hp):List (PyData×PyData)->List (List bp×V)->Prop
  | [],ks=>ks=[]
  | kd::kvs,ks=>∃ x v r,ks=(x,v)::r/\Ao H kd x v/\dS H kvs r
noncomputable def Ao (H:Hp):PyData×PyData->List bp->V->Prop
  | (k,d),x,v=>k=.tuple (x.map de)/\Rp H d v
end
noncomputable def fg:List (PyData×PyData)->Bool
  | (.none,_)::_=>true
  | (.bool _,_)::_=>true
  | _=>false
noncomputable def Kp (H H':Hp):Prop:=(∀ b xs,H b=some (.tup xs)->H' b=some (.tup xs))/\∀ b o u,H b=some (.frz o u)->H' b=some (.frz o u)
theorem Kp.trans {H H1 H2:Hp} (a:Kp H H1) (b:Kp H1 H2):Kp H H2:=⟨fun c xs h=>b.1 c xs (a.1 c xs h),fun c o u h=>b.2 c o u (a.2 c o u h)⟩
theorem Kp.of {H H':Hp} (s:ar H H'):Kp H H':=⟨fun b xs h=>s b _ h,fun b o u h=>s b _ h⟩
mutual
theorem Rp.kp {H H':Hp} (k:Kp H H'):∀ (d:PyData) (v:V),Rp H d v->Rp H' d v
  | .none,v,h=>by simpa only [Rp] using h
  | .bool b,v,h=>by simpa only [Rp] using h
  | .int i,v,h=>by simpa only [Rp] using h
  | .str x,v,h=>by simpa only [Rp] using h
  | .tuple ds,v,h=>by
    simp only [Rp] at h ⊢;obtain ⟨a,vs,e,ha,r⟩:=h;exact ⟨a,vs,e,k.1 _ _ ha,aZ.kp k ds vs r⟩
  | .list ds,v,h=>by
    simp only [Rp] at h ⊢;obtain ⟨a,o,vs,e,ha,r⟩:=h;exact ⟨a,o,vs,e,k.2 _ _ _ ha,aZ.kp k ds vs r⟩
  | .dict kvs,v,h=>by
    simp only [Rp] at h ⊢;rcases h with ⟨a,o,ks,e,ha,r⟩ | ⟨a,o,C,dx,fs,e,ha,r⟩ | ⟨a,o,ks,e,ha,r⟩
    · exact .inl ⟨a,o,ks,e,k.2 _ _ _ ha,dj.kp k kvs ks r⟩
    · exact .inr (.inl ⟨a,o,C,dx,fs,e,k.2 _ _ _ ha,vN.kp k C fs kvs r⟩)
    · exact .inr (.inr ⟨a,o,ks,e,k.2 _ _ _ ha,mE.kp k ks kvs r⟩)
theorem aZ.kp {H H':Hp} (k:Kp H H'):∀ (ds:List PyData) (vs:List V),aZ H ds vs->aZ H' ds vs
  | [],vs,h=>by simpa only [aZ] using h
  | d::ds,vs,h=>by
    simp only [aZ] at h ⊢;obtain ⟨v,r,e,h1,h2⟩:=h;exact ⟨v,r,e,Rp.kp k d v h1,aZ.kp k ds r h2⟩
theorem dj.kp {H H':Hp} (k:Kp H H'):∀ (kvs:List (PyData×PyData)) (ks:List (bp×V)),dj H kvs ks->dj H' kvs ks
  | [],ks,h=>by simpa only [dj] using h
  | kd::kvs,ks,h=>by
    simp only [dj] at h ⊢;obtain ⟨x,v,r,e,h1,h2⟩:=h;exact ⟨x,v,r,e,uh.kp k kd x v h1,dj.kp k kvs r h2⟩
theorem uh.kp {H H':Hp} (k:Kp H H'):∀ (kd:PyData×PyData) (x:bp) (v:V),uh H kd x v->uh H' kd x v
  | (c,d),x,v,h=>by
    simp only [uh] at h ⊢;exact ⟨h.1,Rp.kp k d v h.2⟩
theorem vN.kp {H H':Hp} (k:Kp H H') (C:Addr) (fs:List (Str×V)):∀ (kvs:List (PyData×PyData)),vN H C fs kvs->vN H' C fs kvs
  | [],h=>by simpa only [vN] using h
  | kd::kvs,h=>by
    simp only [vN] at h ⊢;exact ⟨h.1,yD.kp k kvs fs h.2⟩
theorem yD.kp {H H':Hp} (k:Kp H H'):∀ (kvs:List (PyData×PyData)) (fs:List (Str×V)),yD H kvs fs->yD H' kvs fs
  | [],fs,h=>by simpa only [yD] using h
  | kd::kvs,fs,h=>by
    simp only [yD] at h ⊢;obtain ⟨x,v,r,e,h1,h2⟩:=h;exact ⟨x,v,r,e,Cy.kp k kd x v h1,yD.kp k kvs r h2⟩
theorem Cy.kp {H H':Hp} (k:Kp H H'):∀ (kd:PyData×PyData) (x:Str) (v:V),Cy H kd x v->Cy H' kd x v
  | (c,d),x,v,h=>by
    simp only [Cy] at h ⊢;exact ⟨h.1,Rp.kp k d v h.2⟩
theorem mE.kp {H H':Hp} (k:Kp H H') (ks:List (List bp×V)):∀ (kvs:List (PyData×PyData)),mE H ks kvs->mE H' ks kvs
  | [],h=>by simpa only [mE] using h
  | kd::kvs,h=>by
    simp only [mE] at h ⊢;exact ⟨h.1,dS.kp k kvs ks h.2⟩
theorem dS.kp {H H':Hp} (k:Kp H H'):∀ (kvs:List (PyData×PyData)) (ks:List (List bp×V)),dS H kvs ks->dS H' kvs ks
  | [],ks,h=>by simpa only [dS] using h
  | kd::kvs,ks,h=>by
    simp only [dS] at h ⊢;obtain ⟨x,v,r,e,h1,h2⟩:=h;exact ⟨x,v,r,e,Ao.kp k kd x v h1,dS.kp k kvs r h2⟩
theorem Ao.kp {H H':Hp} (k:Kp H H'):∀ (kd:PyData×PyData) (x:List bp) (v:V),Ao H kd x v->Ao H' kd x v
  | (c,d),x,v,h=>by
    simp only [Ao] at h ⊢;exact ⟨h.1,Rp.kp k d v h.2⟩
end
theorem Rp.mono {H H':Hp} {d:PyData} {v:V} (h:Rp H d v) (s:ar H H'):Rp H' d v:=Rp.kp (Kp.of s) d v h
theorem aZ.mono {H H':Hp} {ds:List PyData} {vs:List V} (h:aZ H ds vs) (s:ar H H'):aZ H' ds vs:=aZ.kp (Kp.of s) ds vs h
noncomputable def gs (H:Hp):PyData->V->Prop
  | .list ds,v=>∃ a vs,v=.ref a/\H a=some (.lst vs)/\aZ H ds vs
  | .dict kvs,v=>(∃ a ks,v=.ref a/\H a=some (.dK ks)/\dj H kvs ks)\/∃ a ks,v=.ref a/\H a=some (.dT ks)/\mE H ks kvs
  | _,_=>False
theorem gs.mono {H H':Hp} {d:PyData} {v:V} (h:gs H d v) (s:ar H H'):gs H' d v:=by
  cases d <;> simp only [gs] at h ⊢
  · obtain ⟨a,vs,e,ha,r⟩:=h;exact ⟨a,vs,e,s _ _ ha,aZ.mono r s⟩
  · rcases h with ⟨a,vs,e,ha,r⟩ | ⟨a,vs,e,ha,r⟩
    · exact .inl ⟨a,vs,e,s _ _ ha,dj.kp (Kp.of s) _ _ r⟩
    · exact .inr ⟨a,vs,e,s _ _ ha,mE.kp (Kp.of s) _ _ r⟩
theorem mE.ins {H:Hp} {kvs:List (PyData×PyData)} {ks:List (List bp×V)} (h:mE H ks kvs):fg kvs=true:=by
  cases kvs with
  | nil=>simp only [mE] at h
  | cons kd kvs =>
    simp only [mE] at h;rw [h.1];rfl
noncomputable def fM (H:Hp) (d:PyData) (v:V):Prop:=Rp H d v\/gs H d v
theorem fM.mono {H H':Hp} {d:PyData} {v:V} (h:fM H d v) (s:ar H H'):fM H' d v:=h.elim (fun h=>.inl (h.mono s)) fun h=>.inr (h.mono s)
noncomputable def A1 (H H':Hp) (d:PyData) (v:V):Prop:=gs H' d v/\∃ a,v=.ref a/\H a=none
inductive bq where
  | non
  | val (d:PyData)
  | own (d:PyData)
  | exc (p:Addr)
noncomputable abbrev ay:=List bq
noncomputable def h9 (H:Hp):bq->Option V->Prop
  | .non,_=>True
  | .val d,o=>∃ v,o=some v/\Rp H d v
  | .own d,o=>∃ v,o=some v/\gs H d v
  | .exc p,o=>o=some (.ref p)
noncomputable def Sl (H:Hp) (σ:St) (ρ:ay):Prop:=σ.length=ρ.length/\∀ (i:Nat) (c:bq) (o:Option V),ρ[i]?=some c->σ[i]?=some o->h9 H c o
theorem h9.mono {H H':Hp} {c:bq} {o:Option V} (h:h9 H c o) (s:ar H H'):h9 H' c o:=by
  cases c <;> simp only [h9] at h ⊢
  · obtain ⟨v,e,h⟩:=h;exact ⟨v,e,h.mono s⟩
  · obtain ⟨v,e,h⟩:=h;exact ⟨v,e,h.mono s⟩
  · exact h
theorem Sl.mono {H H':Hp} {σ:St} {ρ:ay} (h:Sl H σ ρ) (s:ar H H'):Sl H' σ ρ:=⟨h.1,fun i c o h1 h2=>(h.2 i c o h1 h2).mono s⟩
inductive R (α:Type) where
  | ok (a:α)
  | ex (c:Str)
  | no
noncomputable def R.bind {α β:Type}:R α->(α->R β)->R β
  | .ok a,f=>f a
  | .ex c,_=>.ex c
  | .no,_=>.no
noncomputable instance:Monad R where
  pure:=.ok
  bind:=R.bind
@[simp] theorem R.ok_bind {α β:Type} (a:α) (f:α->R β):(R.ok a>>=f)=f a:=rfl
@[simp] theorem R.ex_bind {α β:Type} (c:Str) (f:α->R β):((R.ex c:R α)>>=f)=.ex c:=rfl
@[simp] theorem R.no_bind {α β:Type} (f:α->R β):((R.no:R α)>>=f)=.no:=rfl
@[simp] theorem R.pure_ok {α:Type} (a:α):(pure a:R α)=.ok a:=rfl
structure AY (P:Program) (w:World) (outer:List Env) (H:Hp) (s:Shared) (C:Addr) (H':Hp) (e:Value) (s':Shared):Prop where
  os:s'.os=s.os
  bare:AllBare s'.gens
  same:ar H H'
  ex:∃ (p:Addr) (a0:Value) (B:Heap),e=.ref p/\Heap.FlyingW B outer p (.ref C) a0 s'.heap/\gg P w H' B/\H' p=none/\∀ b o,s.heap.get? b=some o->H b=none->b∉jX outer->B.get? b=some o/\H' b=none
  slot:∀ b o,s.heap.get? b=some o->H b=none->b∈jX outer->(∃ sl,s'.heap.get? b=some { o with slots:=sl })/\H' b=none
structure oo (P:Program) (w:World) (outer:List Env) (H:Hp) (s:Shared) (C:Addr) (H':Hp) (e:Value) (s':Shared):Prop where
  os:s'.os=s.os
  bare:AllBare s'.gens
  same:ar H H'
  ex:∃ (p:Addr) (a0:Value) (B:Heap),e=.ref p/\pW B outer p (.ref C) a0 s'.heap/\gg P w H' B/\H' p=none/\∀ b o,s.heap.get? b=some o->H b=none->b∉jX outer->B.get? b=some o/\H' b=none
  slot:∀ b o,s.heap.get? b=some o->H b=none->b∈jX outer->(∃ sl,s'.heap.get? b=some { o with slots:=sl })/\H' b=none
theorem AY.hld {P:Program} {w:World} {outer:List Env} {H:Hp} {s:Shared} {C:Addr} {H':Hp} {e:Value} {s':Shared} (f:AY P w outer H s C H' e s'):oo P w outer H s C H' e s' :=
  ⟨f.os,f.bare,f.same,let ⟨p,a0,B,h1,h2,h3⟩:=f.ex;⟨p,a0,B,h1,pW.of h2,h3⟩,f.slot⟩
noncomputable def di (P:Program) (w:World) (mg:Str->Option Value):vO:=fun outer H s E e s'=>∃ n C H',mg n=some (.ref C)/\AY P w outer H s C H' e s'/\E (.str n 0) none H'
noncomputable def EX (X:Cx):XK:=fun v _ H'=>∀ (n:Str) (C:Addr),v=.str n 0->X.mg n=some (.ref C)->∀ (pins:List (Addr×Obj)) (σ:St) (H:Hp) (s:Shared) (e:Value) (s':Shared),aC X pins σ H s->AY X.prog X.w X.stack H s C H' e s'->X.xe e s'
theorem zF {X:Cx}:rE (di X.prog X.w X.mg) X (EX X):=fun pins σ H s e s' I ⟨n,C,H',hm,f,q⟩=>q n C rfl hm pins σ H s e s' I f
noncomputable def Xw (X:Cx) (c:Str) (H:Hp):Prop:=∀ H1,ar H H1->∀ (C:Addr),X.mg c=some (.ref C)->∀ (pins:List (Addr×Obj)) (σ:St) (Hc:Hp) (s:Shared) (e:Value) (s':Shared),aC X pins σ Hc s->oo X.prog X.w X.stack Hc s C H1 e s'->X.xe e s'
theorem Xw.mono {X:Cx} {c:Str} {H H':Hp} (h:Xw X c H) (s:ar H H'):Xw X c H':=fun H1 s1=>h H1 (s.trans s1)
theorem Xw.ex {X:Cx} {c:Str} {H:Hp} (h:Xw X c H):∀ H1,ar H H1->EX X (.str c 0) none H1:=fun H1 s1 n C en hm pins σ Hc s e s' I f=>by
  have en':c=n:=by injection en
  subst en';exact h H1 s1 C hm pins σ Hc s e s' I f.hld
noncomputable def CL (X:Cx) (c:Str) (Fm:Hp):Prop:=∀ C,X.mg c=some (.ref C)->∀ (pins:List (Addr×Obj)) (σ:St) (H:Hp) (s:Shared),ar Fm H->aC X pins σ H s->∀ (h':Heap) (p:Addr) (vs:List Value),Heap.MadeExcOf s.heap h' p (.ref C) vs->X.xe (.ref p) { s with heap:=h' }
theorem CL.mono {X:Cx} {c:Str} {H H':Hp} (h:CL X c H) (s:ar H H'):CL X c H':=fun C hm pins σ H1 s1 e=>h C hm pins σ H1 s1 (s.trans e)
noncomputable def rz (X:Cx) (P:Hp->Hp->PyData->V->Prop) (r:R PyData) (H:Hp) (Q:VK):Prop :=
  match r with
  | .ok d=>∀ v H',ar H H'->P H H' d v->Q v H'
  | .ex c=>Xw X c H
  | .no=>False
noncomputable abbrev gh:Hp->Hp->PyData->V->Prop:=fun _ H' d v=>Rp H' d v
noncomputable abbrev pG:Hp->Hp->PyData->V->Prop:=fun _ H' d v=>fM H' d v
noncomputable abbrev EA:Hp->Hp->PyData->V->Prop:=fun H H' d v=>Rp H' d v\/A1 H H' d v
noncomputable abbrev Fe:=ay->R PyData
noncomputable def iz (X:Cx) (P:Hp->Hp->PyData->V->Prop) (f:Fe):TE:=fun σ H Q=>∃ ρ,Sl H σ ρ/\rz X P (f ρ) H Q
noncomputable def cm (X:Cx) (e:Expr) (f:Fe):Prop:=PE X e (iz X gh f)
structure Z.cm (X:Cx) (e:Expr) (f:Fe):Prop where
  un:D2.cm X e f
noncomputable def cQ (X:Cx) (e:Expr) (f:Fe):Prop:=PE X e (iz X pG f)
structure Z.cQ (X:Cx) (e:Expr) (f:Fe):Prop where
  un:D2.cQ X e f
noncomputable def yB (X:Cx) (e:Expr) (f:Fe):Prop:=PE X e (iz X EA f)
structure Z.yB (X:Cx) (e:Expr) (f:Fe):Prop where
  un:D2.yB X e f
noncomputable def jt (X:Cx) (e:Expr) (f:Fe):Prop:=PE X e (iz X A1 f)
structure Z.jt (X:Cx) (e:Expr) (f:Fe):Prop where
  un:D2.jt X e f
noncomputable def RA (I:Hp->PyData->V->Prop) (H:Hp):List PyData->List V->Prop
  | [],vs=>vs=[]
  | d::ds,vs=>∃ v r,vs=v::r/\I H d v/\RA I H ds r
theorem pe {H:Hp}:∀ {ds:List PyData} {vs:List V},RA Rp H ds vs<->aZ H ds vs
  | [],vs=>by simp only [RA,aZ]
  | d::ds,vs=>by simp only [RA,aZ,pe (ds:=ds)]
noncomputable def xL (X:Cx) (I:Hp->PyData->V->Prop) (f:ay->R (List PyData)):TA:=fun σ H Q=>∃ ρ,Sl H σ ρ/\match f ρ with
  | .ok ds=>∀ vs H',ar H H'->RA I H' ds vs->Q vs H'
  | .ex c=>Xw X c H
  | .no=>False
noncomputable def ue (X:Cx) (es:List Expr) (f:ay->R (List PyData)):Prop:=PA X es (xL X Rp f)
structure Z.ue (X:Cx) (es:List Expr) (f:ay->R (List PyData)):Prop where
  un:D2.ue X es f
noncomputable def AX (X:Cx) (es:List Expr) (f:ay->R (List PyData)):Prop:=PA X es (xL X fM f)
noncomputable def zV (X:Cx) (f:ay->R Bool):TT:=fun σ H Q=>∃ ρ,Sl H σ ρ/\match f ρ with
  | .ok b=>∀ H',ar H H'->Q b H'
  | .ex c=>Xw X c H
  | .no=>False
noncomputable def mD (X:Cx) (e:Expr) (f:ay->R Bool):Prop:=PT X e (zV X f)
structure Z.mD (X:Cx) (e:Expr) (f:ay->R Bool):Prop where
  un:D2.mD X e f
noncomputable def vM (X:Cx) (e:Expr) (f:ay->R Bool):Prop:=PW X e (zV X f)
structure Z.vM (X:Cx) (e:Expr) (f:ay->R Bool):Prop where
  un:D2.vM X e f
theorem PE.imp {X:Cx} {e:Expr} {t t':TE} (h:PE X e t) (i:∀ σ H Q,t' σ H Q->t σ H Q):PE X e t':=fun pins s σ H Q I q=>h pins s σ H Q I (i σ H Q q)
theorem PT.imp {X:Cx} {e:Expr} {t t':TT} (h:PT X e t) (i:∀ σ H Q,t' σ H Q->t σ H Q):PT X e t':=fun pins s σ H Q I q=>h pins s σ H Q I (i σ H Q q)
theorem PW.imp {X:Cx} {e:Expr} {t t':TT} (h:PW X e t) (i:∀ σ H Q,t' σ H Q->t σ H Q):PW X e t':=fun wh pins s σ H Q I q=>h wh pins s σ H Q I (i σ H Q q)
theorem PA.imp {X:Cx} {e:List Expr} {t t':TA} (h:PA X e t) (i:∀ σ H Q,t' σ H Q->t σ H Q):PA X e t':=fun pos pins s σ H Q I q=>h pos pins s σ H Q I (i σ H Q q)
theorem iz.post {X:Cx} {P:Hp->Hp->PyData->V->Prop} {f:Fe} {σ:St} {H:Hp} {Q Q':VK} (h:iz X P f σ H Q) (i:∀ v H',Q v H'->Q' v H'):iz X P f σ H Q':=by
  obtain ⟨ρ,sl,q⟩:=h;refine ⟨ρ,sl,?_⟩;cases e:f ρ with
  | ok d=>rw [e] at q;exact fun v H' s p=>i _ _ (q v H' s p)
  | ex c=>rw [e] at q;exact q
  | no=>rw [e] at q;exact q
theorem zV.post {X:Cx} {f:ay->R Bool} {σ:St} {H:Hp} {Q Q':Bool->Hp->Prop} (h:zV X f σ H Q) (i:∀ b H',Q b H'->Q' b H'):zV X f σ H Q':=by
  obtain ⟨ρ,sl,q⟩:=h;refine ⟨ρ,sl,?_⟩;cases e:f ρ with
  | ok d=>rw [e] at q;exact fun H' s=>i _ _ (q H' s)
  | ex c=>rw [e] at q;exact q
  | no=>rw [e] at q;exact q
theorem xL.post {X:Cx} {I:Hp->PyData->V->Prop} {f:ay->R (List PyData)} {σ:St} {H:Hp} {Q Q':List V->Hp->Prop} (h:xL X I f σ H Q) (i:∀ vs H',Q vs H'->Q' vs H'):xL X I f σ H Q':=by
  obtain ⟨ρ,sl,q⟩:=h;refine ⟨ρ,sl,?_⟩;cases e:f ρ with
  | ok d=>rw [e] at q;exact fun vs H' s p=>i _ _ (q vs H' s p)
  | ex c=>rw [e] at q;exact q
  | no=>rw [e] at q;exact q
theorem iz.weaken {X:Cx} {P P':Hp->Hp->PyData->V->Prop} {f:Fe} (h:∀ H H' d v,P H H' d v->P' H H' d v) (σ:St) (H:Hp) (Q:VK) (q:iz X P' f σ H Q):iz X P f σ H Q:=by
  obtain ⟨ρ,sl,q⟩:=q;refine ⟨ρ,sl,?_⟩;cases e:f ρ with
  | ok d=>rw [e] at q;exact fun v H' s p=>q v H' s (h _ _ _ _ p)
  | ex c=>rw [e] at q;exact q
  | no=>rw [e] at q;exact q
section
variable {X:Cx} {e:Expr} {f:Fe}
theorem cm.b (h:cm X e f):cQ X e f:=PE.imp h (iz.weaken fun _ _ _ _ p=>Or.inl p)
theorem ae (h:Z.cm X e f):Z.cQ X e f :=
  ⟨D2.cm.b h.un⟩
theorem jt.b (h:jt X e f):cQ X e f:=PE.imp h (iz.weaken fun _ _ _ _ p=>Or.inr p.1)
theorem bU (h:Z.jt X e f):Z.cQ X e f :=
  ⟨D2.jt.b h.un⟩
theorem jt.toF (h:jt X e f):yB X e f:=PE.imp h (iz.weaken fun _ _ _ _ p=>Or.inr p)
end
section
variable {X:Cx} {pins:List (Addr×Obj)} {σ:St} {H:Hp} {s:Shared} {a:Addr} {u:HO}
theorem iw (I:aC X pins σ H s) (h:H a=some u) (m1:∀ xs,u≠.tup xs) (m2:∀ o' u',u≠.frz o' u') (m3:∀ ps,u≠.tbl ps) (m4:∀ y,u≠.own y) (hg:∃ o,s.heap.get? a=some o):∃ o,aC X pins σ (cI H a (.frz o u)) s:=by
  have ob:=I.hok a u h;obtain ⟨o,hg⟩:=hg;have nt:∀ b xs,H b=some (.tup xs)->b≠a:=fun b xs q z=>by subst z;rw [h] at q;exact m1 _ (Option.some.inj q)
  have nf:∀ b o' u',H b=some (.frz o' u')->b≠a:=fun b o' u' q z=>by subst z;rw [h] at q;exact m2 _ _ (Option.some.inj q)
  have nb:∀ b ps,H b=some (.tbl ps)->b≠a:=fun b ps q z=>by subst z;rw [h] at q;exact m3 _ (Option.some.inj q)
  have nw:∀ b y,H b=some (.own y)->b≠a:=fun b y q z=>by subst z;rw [h] at q;exact m4 _ (Option.some.inj q)
  have nn:∀ b,H b=none->b≠a:=fun b q z=>by subst z;rw [h] at q;cases q
  have st:∀ b x,bG X.prog X.w H s.heap b x->bG X.prog X.w (cI H a (.frz o u)) s.heap b x:=fun b x q =>
    q.stay (fun c v _ e=>e) (fun c e=>by rw [aA (nw _ _ e)];exact e) fun c xs e=>by rw [aA (nt _ _ e)];exact e
  refine ⟨o,⟨I.ok,I.os,I.bare,⟨I.base.keep,I.base.slot,fun b ob' e n hx=>?_,I.base.there,fun b xs e=>?_,fun b ob' v e=>?_,fun b ps e=>?_⟩,I.loc,I.cell,?_,fun x c e=>?_,fun p hp=>?_,fun b x e=>?_,I.len⟩⟩
  · have:=I.base.free b ob' e n hx;rw [aA (nn _ this)];exact this
  · have:=I.base.tups b xs e;rw [aA (nt _ _ this)];exact this
  · have:=I.base.frzs b ob' v e;rw [aA (nf _ _ _ this)];exact this
  · obtain ⟨m,q⟩:=I.base.tbls b ps e;exact ⟨m,by rw [aA (nb _ _ q)];exact q⟩
  · rw [aA (nn _ I.free)];exact I.free
  · rw [aA (nn _ (I.freeC x c e))];exact I.freeC x c e
  · obtain ⟨p1,p2,p3⟩:=I.pin p hp;exact ⟨p1,by rw [aA (nn _ p2)];exact p2,p3⟩
  · by_cases hb:b=a
    · subst hb;rw [bw] at e;cases e;exact ⟨hg,st b u ob⟩
    · rw [aA hb] at e;exact st b x (I.hok b x e)
theorem ji (I:aC X pins σ H s) (h:H a=some u) (hm:(∃ xs,u=.lst xs)\/∃ ks,u=.dK ks):∃ o,aC X pins σ (cI H a (.frz o u)) s:=by
  have ob:=I.hok a u h;rcases hm with ⟨xs,rfl⟩ | ⟨ks,rfl⟩
  · obtain ⟨_,_,_,_,e⟩:=ob;exact iw I h (fun _ z=>by cases z) (fun _ _ z=>by cases z) (fun _ z=>by cases z) (fun _ z=>by cases z) ⟨_,e⟩
  · obtain ⟨_,_,_,_,o,_,_,e,_⟩:=ob;exact iw I h (fun _ z=>by cases z) (fun _ _ z=>by cases z) (fun _ z=>by cases z) (fun _ z=>by cases z) ⟨_,e⟩
theorem kA {ks:List (List bp×V)} (I:aC X pins σ H s) (h:H a=some (.dT ks)):∃ o,aC X pins σ (cI H a (.frz o (.dT ks))) s:=by
  obtain ⟨_,_,_,_,o,_,_,e,_⟩:=(show bG X.prog X.w H s.heap a (.dT ks) from I.hok a _ h)
  exact iw I h (fun _ z=>by cases z) (fun _ _ z=>by cases z) (fun _ z=>by cases z) (fun _ z=>by cases z) ⟨_,e⟩
theorem jP {o':HO} {ks:List (List bp×V)} (h:H a=some (.dT ks)):Kp H (cI H a o'):=by
  refine ⟨fun b xs q=>?_,fun b o u q=>?_⟩
  · rw [aA (fun z=>by subst z;rw [h] at q;cases q)];exact q
  · rw [aA (fun z=>by subst z;rw [h] at q;cases q)];exact q
theorem gP {o':HO} (h:H a=some u) (hm:(∃ xs,u=.lst xs)\/∃ ks,u=.dK ks):Kp H (cI H a o'):=by
  refine ⟨fun b xs e=>?_,fun b o v e=>?_⟩
  · rw [aA];exact e;rintro rfl;rw [h] at e;rcases hm with ⟨_,rfl⟩ | ⟨_,rfl⟩ <;> cases e
  · rw [aA];exact e;rintro rfl;rw [h] at e;rcases hm with ⟨_,rfl⟩ | ⟨_,rfl⟩ <;> cases e
theorem Bp {H0:Hp} {d:PyData} {v:V} (I:aC X pins σ H s) (hs:ar H0 H) (n:A1 H0 H d v):∃ H',aC X pins σ H' s/\ar H0 H'/\Rp H' d v:=by
  obtain ⟨n,a,rfl,h0⟩:=n;have go:∀ u:HO,H a=some u->((∃ xs,u=.lst xs)\/∃ ks,u=.dK ks)->∃ o,aC X pins σ (cI H a (.frz o u)) s/\ar H0 (cI H a (.frz o u))/\Kp H (cI H a (.frz o u)):=fun u hu hm=>by
    obtain ⟨o,J⟩:=ji I hu hm;refine ⟨o,J,fun b x e=>?_,gP hu hm⟩;rw [aA (aT e h0)];exact hs b x e
  cases d <;> simp only [gs] at n
  · obtain ⟨a',vs,e,ha,r⟩:=n;cases e;obtain ⟨o,J,S,K⟩:=go _ ha (.inl ⟨_,rfl⟩);refine ⟨_,J,S,?_⟩;simp only [Rp];exact ⟨a,o,vs,rfl,bw,aZ.kp K _ _ r⟩
  · rcases n with ⟨a',vs,e,ha,r⟩ | ⟨a',vs,e,ha,r⟩
    · cases e;obtain ⟨o,J,S,K⟩:=go _ ha (.inr ⟨_,rfl⟩);refine ⟨_,J,S,?_⟩;simp only [Rp];exact .inl ⟨a,o,vs,rfl,bw,dj.kp K _ _ r⟩
    · cases e;obtain ⟨o,J⟩:=kA I ha;refine ⟨_,J,fun b x e=>?_,?_⟩
      · rw [aA (aT e h0)];exact hs b x e
      · simp only [Rp];exact .inr (.inr ⟨a,o,vs,rfl,bw,mE.kp (jP ha) _ _ r⟩)
end
theorem yB.e {X:Cx} {e:Expr} {f:Fe} (h:yB X e f):cm X e f:=by
  intro pins s σ H Q I q;obtain ⟨ρ,sl,q⟩:=q;cases ef:f ρ with
  | ok d =>
    rw [ef] at q;refine cR (h pins s σ H (fun v H'=>ar H H'/\EA H H' d v) I ⟨ρ,sl,by rw [ef];exact fun v H' hs p=>⟨hs,p⟩⟩) fun u s' ⟨v,H',I',r,hs,p⟩=>?_
    rcases p with p | p
    · exact ⟨v,H',I',r,q v H' hs p⟩
    · obtain ⟨H2,I2,S2,p2⟩:=Bp I' hs p;exact ⟨v,H2,I2,r,q v H2 S2 p2⟩
  | ex c=>rw [ef] at q;exact cR (h pins s σ H (fun _ _=>False) I ⟨ρ,sl,by rw [ef];exact q⟩) fun u s' ⟨v,H',I',r,z⟩=>z.elim
  | no=>rw [ef] at q;exact q.elim
theorem EC {X:Cx} {e:Expr} {f:Fe} (h:Z.yB X e f):Z.cm X e f :=
  ⟨D2.yB.e h.un⟩
theorem jt.e {X:Cx} {e:Expr} {f:Fe} (h:jt X e f):cm X e f:=(jt.toF h).e
theorem iH {X:Cx} {e:Expr} {f:Fe} (h:Z.jt X e f):Z.cm X e f :=
  ⟨D2.jt.e h.un⟩
structure yH {β:Type} (X:Cx) (T:R β->Hp->Prop):Prop where
  mono:∀ r H H',T r H->ar H H'->T r H'
  ex:∀ c H,T (.ex c) H->Xw X c H
  no:∀ H,¬ T .no H
noncomputable def Dn (P:Hp->Hp->PyData->V->Prop):Prop:=∀ H H1 H' d v,ar H H1->P H1 H' d v->P H H' d v
theorem dR:Dn gh:=fun _ _ _ _ _ _ p=>p
theorem yW:Dn A1:=fun _ _ _ _ _ s p=>⟨p.1,let ⟨a,e,h⟩:=p.2;⟨a,e,s.free h⟩⟩
theorem yU:Dn EA:=fun _ _ _ _ _ s p=>p.elim .inl fun p=>.inr (yW _ _ _ _ _ s p)
section
variable {X:Cx} {σ:St} {H:Hp}
theorem dG {P:Hp->Hp->PyData->V->Prop} (hP:Dn P) (Q:VK):yH X (fun r H=>rz X P r H Q) where
  mono:=fun r H H' h s=>by
    cases r with
    | ok d=>exact fun v H2 s2 p=>h v H2 (s.trans s2) (hP _ _ _ _ _ s p)
    | ex c=>exact Xw.mono h s
    | no=>exact h
  ex:=fun c H h=>h
  no:=fun H h=>h
theorem uc (Q:Bool->Hp->Prop):yH X (fun (r:R Bool) H=>match r with | .ok b=>∀ H',ar H H'->Q b H' | .ex c=>Xw X c H | .no=>False) where
  mono:=fun r H H' h s=>by
    cases r with
    | ok d=>exact fun H2 s2=>h H2 (s.trans s2)
    | ex c=>exact Xw.mono h s
    | no=>exact h
  ex:=fun c H h=>h
  no:=fun H h=>h
theorem AT (I:Hp->PyData->V->Prop) (Q:List V->Hp->Prop):yH X (fun (r:R (List PyData)) H=>match r with | .ok ds=>∀ vs H',ar H H'->RA I H' ds vs->Q vs H' | .ex c=>Xw X c H | .no=>False) where
  mono:=fun r H H' h s=>by
    cases r with
    | ok d=>exact fun vs H2 s2=>h vs H2 (s.trans s2)
    | ex c=>exact Xw.mono h s
    | no=>exact h
  ex:=fun c H h=>h
  no:=fun H h=>h
theorem da {β:Type} {T:R β->Hp->Prop} (t:yH X T) {P:Hp->Hp->PyData->V->Prop} {f:Fe} {k:ay->PyData->R β} (h:∃ ρ,Sl H σ ρ/\T (f ρ>>=k ρ) H) :
    iz X P f σ H (fun v H1=>∃ ρ d,Sl H1 σ ρ/\ar H H1/\P H H1 d v/\T (k ρ d) H1):=by
  obtain ⟨ρ,sl,q⟩:=h;refine ⟨ρ,sl,?_⟩;cases e:f ρ with
  | ok d=>rw [e] at q;exact fun v H1 s p=>⟨ρ,d,sl.mono s,s,p,t.mono _ _ _ q s⟩
  | ex c=>rw [e] at q;exact t.ex _ _ q
  | no=>rw [e] at q;exact (t.no _ q).elim
theorem rP {β:Type} {T:R β->Hp->Prop} (t:yH X T) {f:ay->R Bool} {k:ay->Bool->R β} (h:∃ ρ,Sl H σ ρ/\T (f ρ>>=k ρ) H) :
    zV X f σ H (fun b H1=>∃ ρ,Sl H1 σ ρ/\ar H H1/\T (k ρ b) H1):=by
  obtain ⟨ρ,sl,q⟩:=h;refine ⟨ρ,sl,?_⟩;cases e:f ρ with
  | ok d=>rw [e] at q;exact fun H1 s=>⟨ρ,sl.mono s,s,t.mono _ _ _ q s⟩
  | ex c=>rw [e] at q;exact t.ex _ _ q
  | no=>rw [e] at q;exact (t.no _ q).elim
theorem jc {β:Type} {T:R β->Hp->Prop} (t:yH X T) {I:Hp->PyData->V->Prop} {f:ay->R (List PyData)} {k:ay->List PyData->R β} (h:∃ ρ,Sl H σ ρ/\T (f ρ>>=k ρ) H) :
    xL X I f σ H (fun vs H1=>∃ ρ ds,Sl H1 σ ρ/\ar H H1/\RA I H1 ds vs/\T (k ρ ds) H1):=by
  obtain ⟨ρ,sl,q⟩:=h;refine ⟨ρ,sl,?_⟩;cases e:f ρ with
  | ok d=>rw [e] at q;exact fun vs H1 s p=>⟨ρ,d,sl.mono s,s,p,t.mono _ _ _ q s⟩
  | ex c=>rw [e] at q;exact t.ex _ _ q
  | no=>rw [e] at q;exact (t.no _ q).elim
end
noncomputable def ag (i:Nat):Fe:=fun ρ=>match ρ[i]? with
  | some (.val d)=>.ok d
  | _=>.no
noncomputable def c4 (i:Nat):Fe:=fun ρ=>match ρ[i]? with
  | some (.val d)=>.ok d
  | some (.own d)=>.ok d
  | _=>.no
noncomputable def eC (d:PyData):Fe:=fun _=>.ok d
structure Tb (X:Cx) (nl:Nat) (G:List Str):Prop where
  hu:X.A.units+64 < cLine
  calm:X.calm=true
  nd:X.N.Nodup
  vis:∀ x∈X.N,A7 X.env.scope x/\(x==("__debug__" : Str))=false/\(x==("__classdict__" : Str))=false
  loc:∀ x∈X.N.take nl,A0 X.env.scope x/\(X.fn x=true\/X.env.scope.names.lookup x=some .local)
  gl:∀ x∈G,Gl X x/\(x==("__debug__" : Str))=false/\x≠("__name__" : Str)
section
variable {X:Cx} {nl:Nat} {G:List Str} {x:Str} {pos:Pos}
theorem Sl.at {H:Hp} {σ:St} {ρ:ay} {i:Nat} {c:bq} (h:Sl H σ ρ) (e:ρ[i]?=some c):∃ o,σ[i]?=some o/\h9 H c o:=by
  have hi:i < σ.length:=by rw [h.1];exact (List.getElem?_eq_some_iff.mp e).1
  exact ⟨σ[i],List.getElem?_eq_getElem hi,h.2 i c _ e (List.getElem?_eq_getElem hi)⟩
theorem aa (T:Tb X nl G) (i:Nat) (hN:X.N[i]?=some x):Z.cm X (.Name x pos) (ag i):=⟨by
  have hm:=T.vis x (List.mem_of_getElem? hN);refine PE.imp (iy hN hm.1 hm.2.1 hm.2.2) fun σ H Q zq0=>?_
  obtain ⟨ρ,sl,q⟩:=zq0;unfold ag at q;split at q
  · rename_i d e;obtain ⟨o,h1,v,rfl,h2⟩:=sl.at e;exact ⟨v,h1,q v H (ar.refl H) h2⟩
  · exact q.elim⟩
theorem cL (T:Tb X nl G) (i:Nat) (hN:X.N[i]?=some x):Z.cQ X (.Name x pos) (c4 i):=⟨by
  have hm:=T.vis x (List.mem_of_getElem? hN);refine PE.imp (iy hN hm.1 hm.2.1 hm.2.2) fun σ H Q zq0=>?_
  obtain ⟨ρ,sl,q⟩:=zq0;unfold c4 at q;split at q
  · rename_i d e;obtain ⟨o,h1,v,rfl,h2⟩:=sl.at e;exact ⟨v,h1,q v H (ar.refl H) (.inl h2)⟩
  · rename_i d e;obtain ⟨o,h1,v,rfl,h2⟩:=sl.at e;exact ⟨v,h1,q v H (ar.refl H) (.inr h2)⟩
  · exact q.elim⟩
theorem lR {e:Expr} {d:PyData} {v:V} (h:PE X e (tC v)) (r:∀ H,Rp H d v):cm X e (eC d) :=
  PE.imp h fun σ H Q ⟨ρ,sl,q⟩=>q v H (ar.refl H) (r H)
theorem ai {i j}:Z.cm X (.Constant (.int i) j pos) (eC (.int i)):=⟨lR BI fun H=>by simp only [Rp]⟩
theorem bV {b j}:Z.cm X (.Constant (.bool b) j pos) (eC (.bool b)):=⟨lR DG fun H=>by simp only [Rp]⟩
theorem uu {j}:Z.cm X (.Constant .none j pos) (eC .none):=⟨lR BK fun H=>by simp only [Rp]⟩
theorem qa {y j}:Z.cm X (.Constant (.str y) j pos) (eC (.str y)):=⟨lR BN fun H=>by simp only [Rp]⟩
theorem dN {i:Int} {t:Tok} (T:Tb X nl G) (j:Nat) (hG:G[j]?=some x) (hm:X.mg x=some (.int i t)):Z.cm X (.Name x pos) (eC (.int i)):=⟨by
  have g:=T.gl x (List.mem_of_getElem? hG);exact lR (zJ g.1 hm (v:=.int i) ⟨t,rfl⟩ g.2.1) fun H=>by simp only [Rp]⟩
end
section
variable {X:Cx} {a b c:Expr} {fa fb fc:Fe} {pos:Pos}
noncomputable def e2 (g:PyData->PyData->R PyData) (fa fb:Fe):Fe:=fun ρ=>fa ρ>>=fun x=>fb ρ>>=fun y=>g x y
noncomputable def e1 (g:PyData->R PyData) (fa:Fe):Fe:=fun ρ=>fa ρ>>=fun x=>g x
noncomputable def bL (X:Cx) (P:Hp->Hp->PyData->V->Prop) (r:R2) (g:PyData->PyData->R PyData):Prop :=
  ∀ H x y dx dy Q,fM H dx x->fM H dy y->rz X P (g dx dy) H Q->r x y H Q
theorem EW {P:Hp->Hp->PyData->V->Prop} {r:R2} {g:PyData->PyData->R PyData} (hP:Dn P) (hg:bL X P r g) (σ:St) (H:Hp) (Q:VK) (h:iz X P (e2 g fa fb) σ H Q) :
    Eh r (iz X pG fa) (iz X pG fb) σ H Q :=
  (da (P:=pG) (dG (X:=X) hP Q) h).post fun v H1 ⟨ρ1,d1,sl1,_,p1,q1⟩ =>
    (da (P:=pG) (f:=fb) (k:=fun _ y=>g d1 y) (dG (X:=X) hP Q) ⟨ρ1,sl1,q1⟩).post fun u H2 ⟨_,d2,_,s2,p2,q2⟩=>hg H2 v u d1 d2 Q (fM.mono p1 s2) p2 q2
theorem lQ {op:Operator} {P:Hp->Hp->PyData->V->Prop} {r:R2} {g:PyData->PyData->R PyData} (hP:Dn P) (ho:h8 X (binaryOp op) r) (hg:bL X P r g) (ha:cQ X a fa) (hb:cQ X b fb) :
    PE X (.BinOp a op b pos) (iz X P (e2 g fa fb)):=PE.imp (DI ho ha hb) (EW hP hg)
theorem oW {op:CmpOp} {r:R2} {g:PyData->PyData->R PyData} (ho:h8 X (compareOp op) r) (hg:bL X gh r g) (ha:cQ X a fa) (hb:cQ X b fb) (hm:behindInMarks op b=false) :
    cm X (.Compare a [op] [b] pos) (e2 g fa fb):=PE.imp (zI ho ha hb hm) (EW dR hg)
end
noncomputable def qh:PyData->R Bool
  | .bool b=>.ok b
  | _=>.no
noncomputable def tE (f:Fe):ay->R Bool:=fun ρ=>f ρ>>=qh
theorem pf {X:Cx} {f:Fe} {σ:St} {H:Hp} {Q:Bool->Hp->Prop} (h:zV X (tE f) σ H Q):iz X gh f σ H (fun x H'=>∃ k,x=.bl k/\Q k H') :=
  (da (P:=gh) (f:=f) (k:=fun _=>qh) (uc (X:=X) Q) h).post fun v H1 ⟨ρ1,d1,_,_,p1,q1⟩=>by
    cases d1 with
    | bool b =>
      have p2:v=.bl b:=by simpa only [Rp] using p1
      exact ⟨b,p2,q1 H1 (ar.refl _)⟩
    | _=>exact q1.elim
section
variable {X:Cx} {a b c:Expr} {fa fb fc:Fe} {pos:Pos}
theorem iM {op:CmpOp} {r:R2} {g:PyData->PyData->R PyData} (ho:h8 X (compareOp op) r) (hg:bL X gh r g) (ha:cQ X a fa) (hb:cQ X b fb) (hm:behindInMarks op b=false) :
    mD X (.Compare a [op] [b] pos) (tE (e2 g fa fb)) :=
  PT.imp (zS ho ha hb hm) fun σ H Q h=>EW dR hg σ H _ (pf h)
theorem bF {e:Expr} {f:Fe} (h:Z.cm X e f) (he:∀ whole,isTrue e X.env whole=(do let v <- whole;standAt e.pos;holding [v] (truthy v)):=by intro _;rfl):Z.mD X e (tE f):=⟨have h:=h.un;PT.imp (BS h he) fun σ H Q h=>pf h⟩
noncomputable def jW (f g:ay->R Bool):ay->R Bool:=fun ρ=>f ρ>>=fun b=>if b=true then g ρ else .ok false
noncomputable def kU (f g:ay->R Bool):ay->R Bool:=fun ρ=>f ρ>>=fun b=>if b=true then .ok true else g ρ
noncomputable def dP (f:ay->R Bool):ay->R Bool:=fun ρ=>f ρ>>=fun b=>.ok (!b)
variable {ga gb:ay->R Bool} {eK:List Expr}
theorem lC (ha:Z.mD X a ga):Z.vM X (.BoolOp .And [a] pos) ga:=⟨have ha:=ha.un;pw_and1 ha⟩
theorem fx (ha:Z.mD X a ga):Z.vM X (.BoolOp .Or [a] pos) ga:=⟨have ha:=ha.un;pw_or1 ha⟩
theorem na (ha:Z.mD X a ga) (hb:Z.vM X (.BoolOp .And (b::eK) pos) gb):Z.vM X (.BoolOp .And (a::b::eK) pos) (jW ga gb):=⟨have ha:=ha.un;have hb:=hb.un;PW.imp (pw_and ha hb) fun σ H Q h=>(rP (f:=ga) (k:=fun ρ b=>if b=true then gb ρ else .ok false) (uc (X:=X) Q) h).post fun d H1 ⟨ρ1,sl1,_,q1⟩=>by
    cases d with
    | true=>exact ⟨ρ1,sl1,q1⟩
    | false=>exact q1 H1 (ar.refl _)⟩
theorem eQ (ha:Z.mD X a ga) (hb:Z.vM X (.BoolOp .Or (b::eK) pos) gb):Z.vM X (.BoolOp .Or (a::b::eK) pos) (kU ga gb):=⟨have ha:=ha.un;have hb:=hb.un;PW.imp (pw_or ha hb) fun σ H Q h=>(rP (f:=ga) (k:=fun ρ b=>if b=true then .ok true else gb ρ) (uc (X:=X) Q) h).post fun d H1 ⟨ρ1,sl1,_,q1⟩=>by
    cases d with
    | false=>exact ⟨ρ1,sl1,q1⟩
    | true=>exact q1 H1 (ar.refl _)⟩
theorem vM.t {e:Expr} (h:vM X e ga):mD X e ga:=PW.pt h
theorem fN {e:Expr} (h:Z.vM X e ga):Z.mD X e ga :=
  ⟨D2.vM.t h.un⟩
theorem bW (ha:Z.mD X a ga):Z.mD X (.UnaryOp .Not a pos) (dP ga):=⟨have ha:=ha.un;PT.imp (BR ha) fun σ H Q h=>(rP (f:=ga) (k:=fun _ b=>.ok (!b)) (uc (X:=X) Q) h).post fun d H1 ⟨ρ1,sl1,_,q1⟩=>q1 H1 (ar.refl _)⟩
noncomputable def qw (f g:Fe):Fe:=fun ρ=>f ρ>>=fun d=>qh d>>=fun b=>if b=true then g ρ else .ok (.bool false)
noncomputable def Gq (f g:Fe):Fe:=fun ρ=>f ρ>>=fun d=>qh d>>=fun b=>if b=true then .ok (.bool true) else g ρ
noncomputable def yY (f:Fe):Fe:=fun ρ=>f ρ>>=fun d=>qh d>>=fun b=>.ok (.bool (!b))
theorem t5 {k:ay->Bool->R PyData} {f:Fe} {σ:St} {H:Hp} {Q:VK} (h:iz X gh (fun ρ=>f ρ>>=fun d=>qh d>>=fun b=>k ρ b) σ H Q) :
    iz X gh f σ H (fun x H'=>∃ c,x=.bl c/\iz X gh (fun ρ=>k ρ c) σ H' Q) :=
  (da (P:=gh) (f:=f) (k:=fun ρ d=>qh d>>=fun b=>k ρ b) (dG (X:=X) dR Q) h).post fun v H1 ⟨ρ1,d1,sl1,_,p1,q1⟩=>by
    cases d1 with
    | bool b =>
      have p2:v=.bl b:=by simpa only [Rp] using p1
      exact ⟨b,p2,ρ1,sl1,q1⟩
    | _=>exact q1.elim
theorem il {op} (h:Z.cm X a fa):Z.cm X (.BoolOp op [a] pos) fa:=⟨have h:=h.un;BM h⟩
theorem gi (ha:Z.cm X a fa) (hb:Z.cm X (.BoolOp .And (b::eK) pos) fb):Z.cm X (.BoolOp .And (a::b::eK) pos) (qw fa fb):=⟨have ha:=ha.un;have hb:=hb.un;PE.imp (BH ha hb) fun σ H Q h=>(t5 (k:=fun ρ b=>if b=true then fb ρ else .ok (.bool false)) h).post fun v H1 ⟨c,e1,q1⟩=>by
    refine ⟨c,e1,?_⟩;cases c with
    | true=>exact q1
    | false =>
      obtain ⟨_,_,q2⟩:=q1;exact q2 _ H1 (ar.refl _) (by simp only [Rp])⟩
theorem p9 (ha:Z.cm X a fa):Z.cm X (.UnaryOp .Not a pos) (yY fa):=⟨have ha:=ha.un;PE.imp (BL ha) fun σ H Q h=>(t5 (k:=fun ρ b=>.ok (.bool (!b))) h).post fun v H1 ⟨c,e1,_,_,q2⟩=>⟨c,e1,q2 _ H1 (ar.refl _) (by simp only [Rp])⟩⟩
noncomputable def Gp (t:ay->R Bool) (f g:Fe):Fe:=fun ρ=>t ρ>>=fun b=>if b=true then f ρ else g ρ
end
noncomputable def aM:Expr->Bool
  | .Starred ..=>false
  | _=>true
theorem bu {e:Expr} {es:List Expr} {env:Env} (h:aM e=true):starEach (e::es) env=(false,eval e env)::starEach es env:=by
  cases e <;> first | rfl | (cases h)
theorem ri {es:List Expr} {env:Env} {pos:Pos} (h:es.all aM=true):(backTo pos (starEach es env)).any (·.1)=false:=by
  induction es with
  | nil=>rfl
  | cons e es ih =>
    rw [List.all_cons,Bool.and_eq_true] at h;rw [bu h.1];have:=ih h.2;simpa [backTo] using this
noncomputable def az:ay->R (List PyData):=fun _=>.ok []
noncomputable def ah (f:Fe) (g:ay->R (List PyData)):ay->R (List PyData):=fun ρ=>f ρ>>=fun d=>g ρ>>=fun ds=>.ok (d::ds)
section
variable {X:Cx} {e:Expr} {es:List Expr} {f:Fe} {g:ay->R (List PyData)}
theorem tI {I:Hp->PyData->V->Prop}:PA X [] (xL X I az):=PA.imp xr fun σ H Q ⟨ρ,sl,q⟩=>q [] H (ar.refl _) (by simp only [RA])
theorem jd:ue X [] az:=tI
theorem am  : Z.ue X [] az :=
  ⟨D2.jd⟩
theorem oU:AX X [] az:=tI
theorem qx {I:Hp->PyData->V->Prop} (hI:∀ H H' d v,I H d v->ar H H'->I H' d v) (ha:PE X e (iz X (fun _ H' d v=>I H' d v) f)) (hr:PA X es (xL X I g))
    (hs:starEach (e::es) X.env=(false,eval e X.env)::starEach es X.env:=by rfl):PA X (e::es) (xL X I (ah f g)) :=
  PA.imp (pc ha hr hs) fun σ H Q h =>
    (da (P:=fun _ H' d v=>I H' d v) (f:=f) (k:=fun ρ d=>g ρ>>=fun ds=>.ok (d::ds)) (AT (X:=X) I Q) h).post fun v H1 ⟨ρ1,d1,sl1,_,p1,q1⟩ =>
      (jc (I:=I) (f:=g) (k:=fun _ ds=>.ok (d1::ds)) (AT (X:=X) I Q) ⟨ρ1,sl1,q1⟩).post fun vs H2 ⟨_,ds1,_,s2,p3,q3⟩ =>
        q3 (v::vs) H2 (ar.refl _) (by simp only [RA];exact ⟨v,vs,rfl,hI _ _ _ _ p1 s2,p3⟩)
theorem gN (ha:cm X e f) (hr:ue X es g) (hs:aM e=true:=by rfl):ue X (e::es) (ah f g):=qx (fun _ _ _ _ h s=>h.mono s) ha hr (bu hs)
theorem af (ha:Z.cm X e f) (hr:Z.ue X es g) (hs:aM e=true:=by rfl):Z.ue X (e::es) (ah f g) :=
  ⟨D2.gN ha.un hr.un hs⟩
theorem jJ (ha:cQ X e f) (hr:AX X es g) (hs:aM e=true:=by rfl):AX X (e::es) (ah f g):=qx (fun _ _ _ _ h s=>h.mono s) ha hr (bu hs)
end
section
variable {K:PySem.W.Frag} {H:Hp} {x:V}
theorem wo (h:fM H .none x):x=.non:=by
  rcases h with h | h
  · simpa only [Rp] using h
  · simp only [gs] at h
theorem qi {b:Bool} (h:fM H (.bool b) x):x=.bl b:=by
  rcases h with h | h
  · simpa only [Rp] using h
  · simp only [gs] at h
theorem bx {i:Int} (h:fM H (.int i) x):x=.int i:=by
  rcases h with h | h
  · simpa only [Rp] using h
  · simp only [gs] at h
theorem gG {y:Str} (h:fM H (.str y) x):x=.str y:=by
  rcases h with h | h
  · simpa only [Rp] using h
  · simp only [gs] at h
theorem cn {ds:List PyData} (h:fM H (.tuple ds) x):∃ a vs,x=.ref a/\H a=some (.tup vs)/\aZ H ds vs:=by
  rcases h with h | h
  · simpa only [Rp] using h
  · simp only [gs] at h
theorem cU {ds:List PyData} (h:fM H (.list ds) x):∃ a vs,x=.ref a/\kQ K H a vs/\aZ H ds vs:=by
  rcases h with h | h
  · simp only [Rp] at h;obtain ⟨a,o,vs,e,ha,r⟩:=h;exact ⟨a,vs,e,.inl (.inr ⟨o,ha⟩),r⟩
  · simp only [gs] at h;obtain ⟨a,vs,e,ha,r⟩:=h;exact ⟨a,vs,e,.inl (.inl ha),r⟩
theorem zX {C:Addr} {fs:List (Str×V)} {kvs:List (PyData×PyData)} (h:vN H C fs kvs):fg kvs=true:=by
  cases kvs with
  | nil=>simp only [vN] at h
  | cons kd kvs=>simp only [vN] at h;rw [h.1];rfl
theorem jB {kvs:List (PyData×PyData)} (hi:fg kvs=false) (h:fM H (.dict kvs) x):∃ a ks,x=.ref a/\Rd H a (.dK ks)/\dj H kvs ks:=by
  rcases h with h | h
  · simp only [Rp] at h;rcases h with ⟨a,o,vs,e,ha,r⟩ | ⟨a,o,C,dx,fs,e,ha,r⟩ | ⟨a,o,vs,e,ha,r⟩
    · exact ⟨a,vs,e,.inr ⟨o,ha⟩,r⟩
    · rw [zX r] at hi;cases hi
    · rw [r.ins] at hi;cases hi
  · simp only [gs] at h;rcases h with ⟨a,vs,e,ha,r⟩ | ⟨a,vs,e,ha,r⟩
    · exact ⟨a,vs,e,.inl ha,r⟩
    · rw [r.ins] at hi;cases hi
theorem wn {kvs:List (PyData×PyData)} (h:fM H (.dict ((.bool true,.none)::kvs)) x):∃ a ks,x=.ref a/\Rd H a (.dT ks)/\dS H kvs ks:=by
  rcases h with h | h
  · simp only [Rp] at h;rcases h with ⟨a,o,vs,e,ha,r⟩ | ⟨a,o,C,dx,fs,e,ha,r⟩ | ⟨a,o,vs,e,ha,r⟩
    · simp only [dj] at r;obtain ⟨k,v,r',_,q,_⟩:=r;simp only [uh] at q;cases k <;> cases q.1
    · simp only [vN] at r;cases r.1
    · simp only [mE] at r;exact ⟨a,vs,e,.inr ⟨o,ha⟩,r.2⟩
  · simp only [gs] at h;rcases h with ⟨a,vs,e,ha,r⟩ | ⟨a,vs,e,ha,r⟩
    · simp only [dj] at r;obtain ⟨k,v,r',_,q,_⟩:=r;simp only [uh] at q;cases k <;> cases q.1
    · simp only [mE] at r;exact ⟨a,vs,e,.inl ha,r.2⟩
end
theorem aZ.nil {H:Hp}:aZ H [] []:=by simp only [aZ]
theorem aZ.cons {H:Hp} {d:PyData} {ds:List PyData} {v:V} {vs:List V} (h:Rp H d v) (t:aZ H ds vs):aZ H (d::ds) (v::vs):=by simp only [aZ];exact ⟨v,vs,rfl,h,t⟩
theorem aZ.nil_inv {H:Hp} {vs:List V} (h:aZ H [] vs):vs=[]:=by simpa only [aZ] using h
theorem aZ.cons_inv {H:Hp} {d:PyData} {ds:List PyData} {vs:List V} (h:aZ H (d::ds) vs):∃ v r,vs=v::r/\Rp H d v/\aZ H ds r:=by simpa only [aZ] using h
theorem aZ.length {H:Hp}:∀ {ds:List PyData} {vs:List V},aZ H ds vs->vs.length=ds.length
  | [],vs,h=>by rw [h.nil_inv];rfl
  | d::ds,vs,h=>by
    obtain ⟨v,r,rfl,_,t⟩:=h.cons_inv;rw [List.length_cons,List.length_cons,aZ.length t]
theorem aZ.get {H:Hp}:∀ {ds:List PyData} {vs:List V} {i:Nat} {d:PyData},aZ H ds vs->ds[i]?=some d->∃ v,vs[i]?=some v/\Rp H d v
  | [],vs,i,d,h,e=>by simp at e
  | d0::ds,vs,0,d,h,e=>by
    obtain ⟨v,r,rfl,p,_⟩:=h.cons_inv;simp at e;subst e;exact ⟨v,rfl,p⟩
  | d0::ds,vs,i+1,d,h,e=>by
    obtain ⟨v,r,rfl,_,t⟩:=h.cons_inv;obtain ⟨u,e1,p⟩:=aZ.get (i:=i) t (by simpa using e);exact ⟨u,by simpa using e1,p⟩
theorem aZ.append {H:Hp}:∀ {ds es:List PyData} {vs us:List V},aZ H ds vs->aZ H es us->aZ H (ds++es) (vs++us)
  | [],es,vs,us,h,g=>by rw [h.nil_inv];exact g
  | d::ds,es,vs,us,h,g=>by
    obtain ⟨v,r,rfl,p,t⟩:=h.cons_inv;exact aZ.cons p (aZ.append t g)
theorem aZ.take {H:Hp}:∀ {ds:List PyData} {vs:List V} (n:Nat),aZ H ds vs->aZ H (ds.take n) (vs.take n)
  | ds,vs,0,h=>by simp only [List.take_zero];exact aZ.nil
  | [],vs,n+1,h=>by rw [h.nil_inv];exact aZ.nil
  | d::ds,vs,n+1,h=>by
    obtain ⟨v,r,rfl,p,t⟩:=h.cons_inv;exact aZ.cons p (aZ.take n t)
theorem aZ.drop {H:Hp}:∀ {ds:List PyData} {vs:List V} (n:Nat),aZ H ds vs->aZ H (ds.drop n) (vs.drop n)
  | ds,vs,0,h=>h
  | [],vs,n+1,h=>by rw [h.nil_inv];exact aZ.nil
  | d::ds,vs,n+1,h=>by
    obtain ⟨v,r,rfl,p,t⟩:=h.cons_inv;exact aZ.drop n t
theorem aZ.reverse {H:Hp}:∀ {ds:List PyData} {vs:List V},aZ H ds vs->aZ H ds.reverse vs.reverse
  | [],vs,h=>by rw [h.nil_inv];exact aZ.nil
  | d::ds,vs,h=>by
    obtain ⟨v,r,rfl,p,t⟩:=h.cons_inv;rw [List.reverse_cons,List.reverse_cons];exact aZ.append (aZ.reverse t) (aZ.cons p aZ.nil)
theorem aZ.rep {H:Hp} {ds:List PyData} {vs:List V} (h:aZ H ds vs):∀ k:Nat,aZ H (List.replicate k ds).flatten (List.replicate k vs).flatten
  | 0=>aZ.nil
  | k+1=>by rw [List.replicate_succ,List.replicate_succ,List.flatten_cons,List.flatten_cons];exact aZ.append h (aZ.rep h k)
theorem aZ.ints {H:Hp}:∀ ns:List Int,aZ H (ns.map PyData.int) (ns.map V.int)
  | []=>aZ.nil
  | n::ns=>aZ.cons (by simp only [Rp]) (aZ.ints ns)
theorem bM {H:Hp} {p:Addr} (h:H p=none) (o:HO):ar H (cI H p o):=fun b u q=>by rw [aA (aT q h)];exact q
theorem eL {H:Hp} {p:Addr} {ds:List PyData} {vs:List V} (h:H p=none) (r:aZ H ds vs):Rp (cI H p (.tup vs)) (.tuple ds) (.ref p):=by
  simp only [Rp];exact ⟨p,vs,rfl,bw,r.mono (bM h _)⟩
theorem df {H:Hp} {p:Addr} {ds:List PyData} {vs:List V} (h:H p=none) (r:aZ H ds vs):A1 H (cI H p (.lst vs)) (.list ds) (.ref p):=by
  refine ⟨?_,p,rfl,h⟩;simp only [gs];exact ⟨p,vs,rfl,bw,r.mono (bM h _)⟩
section
variable {P:Program} {w:World} {H:Hp} {h:Heap}
mutual
theorem qX (ok:gg P w H h):∀ (d:PyData) (v:V) (u:Value),d.canLay0=true->Rp H d v->bH v u->∃ as,Reads h u d as
  | .none,v,u,_,r,e=>by simp only [Rp] at r;subst r;cases e;exact ⟨_,.none⟩
  | .bool b,v,u,_,r,e=>by simp only [Rp] at r;subst r;cases e;exact ⟨_,.bool b⟩
  | .int i,v,u,_,r,e=>by simp only [Rp] at r;subst r;obtain ⟨t,rfl⟩:=e;exact ⟨_,.int i t⟩
  | .str x,v,u,_,r,e=>by simp only [Rp] at r;subst r;obtain ⟨t,rfl⟩:=e;exact ⟨_,.str x t⟩
  | .tuple ds,v,u,c,r,e=>by
    simp only [Rp] at r;obtain ⟨a,vs,rfl,ha,r⟩:=r;cases e;obtain ⟨_,its,rv,o,h1,h2,⟨n,h3⟩,_⟩:=(show bG P w H h a (.tup vs) from ok a _ ha)
    obtain ⟨as,q⟩:=fS ok ds vs its (by simpa only [PyData.canLay0] using c) r rv;exact ⟨as,.tuple h1 h2 h3 (by simpa using q)⟩
  | .list ds,v,u,c,r,e=>by
    simp only [Rp] at r;obtain ⟨a,ob,vs,rfl,ha,r⟩:=r;cases e;obtain ⟨_,_,its,n,rv,h1⟩:=(show bG P w H h a (.frz ob (.lst vs)) from ok a _ ha)
    obtain ⟨as,q⟩:=fS ok ds vs its (by simpa only [PyData.canLay0] using c) r rv;exact ⟨a::as,.list h1 rfl rfl (by simpa using q)⟩
  | .dict kvs,v,u,c,r,e=>by simp [PyData.canLay0] at c
theorem fS (ok:gg P w H h):∀ (ds:List PyData) (vs:List V) (us:List Value),PyData.canLayAll0 ds=true->aZ H ds vs->ba vs us->∃ as,ReadsAll h us ds as
  | [],vs,us,_,r,e=>by rw [r.nil_inv] at e;cases e;exact ⟨_,.nil⟩
  | d::ds,vs,us,c,r,e=>by
    obtain ⟨v,r',rfl,p,t⟩:=r.cons_inv;have c':d.canLay0=true/\PyData.canLayAll0 ds=true:=by simpa [PyData.canLayAll0] using c
    cases e with
    | cons e1 e2 =>
      obtain ⟨as,q1⟩:=qX ok d v _ c'.1 p e1;obtain ⟨bs,q2⟩:=fS ok ds r' _ c'.2 t e2;exact ⟨as++bs,.cons q1 q2⟩
end
theorem dz (ok:gg P w H h) {d:PyData} {v:V} {u:Value} (c:d.canLay0=true) (r:fM H d v) (e:bH v u):∃ as,Reads h u d as:=by
  rcases r with r | r
  · exact qX ok d v u c r e
  · cases d <;> simp only [gs] at r
    · rename_i ds;obtain ⟨a,vs,rfl,ha,r⟩:=r;cases e;obtain ⟨_,its,n,rv,h1⟩:=(show bG P w H h a (.lst vs) from ok a _ ha)
      obtain ⟨as,q⟩:=fS ok ds vs its (by simpa only [PyData.canLay0] using c) r rv;exact ⟨a::as,.list h1 rfl rfl (by simpa using q)⟩
    · simp [PyData.canLay0] at c
end
noncomputable def eE:PyData->Option bp
  | .int i=>some (.inl i)
  | .str y=>some (.inr y)
  | _=>none
noncomputable def fR:PyData->PyData->Bool
  | .int i,.int j=>decide (i=j)
  | .str i,.str j=>decide (i=j)
  | _,_=>false
noncomputable def sI (kvs:List (PyData×PyData)) (k v:PyData):List (PyData×PyData) :=
  if (kvs.any fun kv=>fR kv.1 k)=true then kvs.map (fun kv=>if fR kv.1 k=true then (kv.1,v) else kv) else kvs++[(k,v)]
theorem iQ (κ κ':bp):fR (de κ) (de κ')=decide (κ=κ'):=by
  cases κ with
  | inl i =>
    cases κ' with
    | inl j=>simp [de,fR]
    | inr j=>simp [de,fR]
  | inr i =>
    cases κ' with
    | inl j=>simp [de,fR]
    | inr j=>simp [de,fR]
theorem dj.cons {H:Hp} {k d:PyData} {kvs:List (PyData×PyData)} {κ:bp} {v:V} {ks:List (bp×V)} (e:k=de κ) (h:Rp H d v) (t:dj H kvs ks):dj H ((k,d)::kvs) ((κ,v)::ks):=by
  simp only [dj,uh];exact ⟨κ,v,ks,rfl,⟨e,h⟩,t⟩
theorem dj.cons_inv {H:Hp} {k d:PyData} {kvs:List (PyData×PyData)} {ks:List (bp×V)} (h:dj H ((k,d)::kvs) ks):∃ κ v r,ks=(κ,v)::r/\k=de κ/\Rp H d v/\dj H kvs r:=by
  simp only [dj,uh] at h;obtain ⟨κ,v,r,e,⟨e1,p⟩,t⟩:=h;exact ⟨κ,v,r,e,e1,p,t⟩
theorem dj.nil_inv {H:Hp} {ks:List (bp×V)} (h:dj H [] ks):ks=[]:=by simpa only [dj] using h
theorem dj.any {H:Hp} (κ:bp):∀ {kvs:List (PyData×PyData)} {ks:List (bp×V)},dj H kvs ks->(kvs.any fun kv=>fR kv.1 (de κ))=ks.any fun kv=>decide (kv.1=κ)
  | [],ks,h=>by rw [h.nil_inv];rfl
  | (k,d)::kvs,ks,h=>by
    obtain ⟨κ',v,r,rfl,rfl,p,t⟩:=h.cons_inv;rw [List.any_cons,List.any_cons,dj.any κ t,iQ]
theorem dj.repl {H:Hp} (κ:bp) {d:PyData} {v:V} (hv:Rp H d v):∀ {kvs:List (PyData×PyData)} {ks:List (bp×V)},dj H kvs ks ->
    dj H (kvs.map fun kv=>if fR kv.1 (de κ)=true then (kv.1,d) else kv) (ks.map fun kv=>if kv.1=κ then (kv.1,v) else kv)
  | [],ks,h=>by rw [h.nil_inv];simp only [List.map_nil,dj]
  | (k,d')::kvs,ks,h=>by
    obtain ⟨κ',v',r,rfl,rfl,p,t⟩:=h.cons_inv;rw [List.map_cons,List.map_cons];dsimp only;rw [iQ];by_cases e:κ'=κ
    · rw [if_pos (decide_eq_true e),if_pos e];exact dj.cons rfl hv (dj.repl κ hv t)
    · rw [if_neg (by rw [decide_eq_false e];exact Bool.false_ne_true),if_neg e];exact dj.cons rfl p (dj.repl κ hv t)
theorem dj.snoc {H:Hp} {κ:bp} {d:PyData} {v:V} (hv:Rp H d v):∀ {kvs:List (PyData×PyData)} {ks:List (bp×V)},dj H kvs ks->dj H (kvs++[(de κ,d)]) (ks++[(κ,v)])
  | [],ks,h=>by rw [h.nil_inv];exact dj.cons rfl hv (by simp only [dj])
  | (k,d')::kvs,ks,h=>by
    obtain ⟨κ',v',r,rfl,rfl,p,t⟩:=h.cons_inv;exact dj.cons rfl p (dj.snoc hv t)
theorem dj.put {H:Hp} (κ:bp) {d:PyData} {v:V} (hv:Rp H d v) {kvs:List (PyData×PyData)} {ks:List (bp×V)} (h:dj H kvs ks):dj H (sI kvs (de κ) d) (iW ks κ v):=by
  unfold sI iW;rw [h.any κ];split
  · exact h.repl κ hv
  · exact h.snoc hv
noncomputable def kD (kvs:List (PyData×PyData)) (k:PyData):Option PyData:=(kvs.find? fun kv=>fR kv.1 k).map (·.2)
theorem dj.look {H:Hp} (κ:bp):∀ {kvs:List (PyData×PyData)} {ks:List (bp×V)},dj H kvs ks->(kD kvs (de κ)=none/\ge ks κ=none)\/∃ d v,kD kvs (de κ)=some d/\ge ks κ=some v/\Rp H d v
  | [],ks,h=>.inl (by rw [h.nil_inv];exact ⟨rfl,rfl⟩)
  | (k,d)::kvs,ks,h=>by
    obtain ⟨κ',v,r,rfl,rfl,p,t⟩:=h.cons_inv;unfold kD ge;by_cases e:κ'=κ
    · rw [List.find?_cons_of_pos (by rw [iQ];exact decide_eq_true e),List.find?_cons_of_pos (by exact decide_eq_true e)];exact .inr ⟨d,v,rfl,rfl,p⟩
    · rw [List.find?_cons_of_neg (by rw [iQ,decide_eq_false e];exact Bool.false_ne_true),List.find?_cons_of_neg (by rw [decide_eq_false e];exact Bool.false_ne_true)];exact dj.look κ t
theorem qG {d:PyData} {κ:bp} (h:eE d=some κ):d=de κ:=by
  cases d <;> simp only [eE] at h <;> cases h <;> rfl
theorem tt {H:Hp} {d:PyData} {x:V} {κ:bp} (h:fM H d x) (e:eE d=some κ):x=kV κ:=by
  cases d <;> simp only [eE] at e <;> cases e
  · exact bx h
  · exact gG h
theorem tG {H:Hp} {a:Addr} {kvs:List (PyData×PyData)} {ks:List (bp×V)} {κ:bp} (h:Rd H a (.dK ks)) (r:dj H kvs ks):∃ o,lg H a (kV κ) o/\o.isSome=(kD kvs (de κ)).isSome/\∀ d,kD kvs (de κ)=some d->∃ v,o=some v/\Rp H d v:=by
  refine ⟨ge ks κ,.inl ⟨ks,κ,h,rfl,rfl⟩,?_⟩;rcases r.look κ with ⟨e1,e2⟩ | ⟨d,v,e1,e2,p⟩
  · rw [e1,e2];exact ⟨rfl,fun d z=>by cases z⟩
  · rw [e1,e2];exact ⟨rfl,fun d z=>by cases z;exact ⟨v,rfl,p⟩⟩
noncomputable def qr:PyData->PyData->R PyData
  | .int i,.int j=>.ok (.int (i-j))
  | _,_=>.no
noncomputable def dQ:PyData->PyData->R PyData
  | .int i,.int j=>if 0 < j then .ok (.int (i%j)) else .no
  | _,_=>.no
noncomputable def j9:PyData->PyData->R PyData
  | .int i,.int j=>if 0 < j/\j < 1073741824 then .ok (.int (i / j)) else .no
  | _,_=>.no
noncomputable def fE (p:Int->Int->Bool):PyData->PyData->R PyData
  | .int i,.int j=>.ok (.bool (p i j))
  | _,_=>.no
noncomputable def jK (x y:PyData):Bool:=x.canLay0&&y.canLay0&&decide (min x.depth y.depth<=60)
noncomputable def ka (x y:PyData):R PyData:=if jK x y=true then .ok (.bool (PyData.eqv x y)) else .no
noncomputable def lL (x y:PyData):R PyData:=if jK x y=true then .ok (.bool (!PyData.eqv x y)) else .no
noncomputable def jg (xs:List PyData) (d:PyData):Bool:=PyData.canLayAll0 xs&&d.canLay0&&decide (min (PyData.depthAll xs) d.depth<=60)
noncomputable def Au (neg:Bool) (d:PyData):PyData->R PyData
  | .list xs=>if jg xs d=true then .ok (.bool (if neg then !(xs.any fun y=>PyData.eqv y d) else xs.any fun y=>PyData.eqv y d)) else .no
  | .tuple xs=>if jg xs d=true then .ok (.bool (if neg then !(xs.any fun y=>PyData.eqv y d) else xs.any fun y=>PyData.eqv y d)) else .no
  | .dict kvs=>if fg kvs=true then .no else match eE d with
    | some _=>.ok (.bool (if neg then !(kD kvs d).isSome else (kD kvs d).isSome))
    | none=>.no
  | _=>.no
section
variable {X:Cx} {a b c:Expr} {fa fb fc:Fe} {pos:Pos}
theorem cC {H:Hp} {i:Int}:Rp H (.int i) (.int i):=by simp only [Rp]
theorem eh {H:Hp} {i:Bool}:Rp H (.bool i) (.bl i):=by simp only [Rp]
theorem xP {H:Hp} {i:Str}:Rp H (.str i) (.str i):=by simp only [Rp]
theorem Ck:bL X gh (yt fun i j=>.int (i-j)) qr:=fun H x y dx dy Q hx hy q=>by
  unfold qr at q;split at q
  · exact ⟨_,_,bx hx,bx hy,q _ H (ar.refl _) cC⟩
  · exact q.elim
theorem Ch:bL X gh (rI (fun _ j=>0 < j) fun i j=>.int (i%j)) dQ:=fun H x y dx dy Q hx hy q=>by
  unfold dQ at q;split at q
  · split at q
    · rename_i h;exact ⟨_,_,bx hx,bx hy,h,q _ H (ar.refl _) cC⟩
    · exact q.elim
  · exact q.elim
theorem Cg:bL X gh (rI CC fun i j=>.int (i / j)) j9:=fun H x y dx dy Q hx hy q=>by
  unfold j9 at q;split at q
  · split at q
    · rename_i h;exact ⟨_,_,bx hx,bx hy,h,q _ H (ar.refl _) cC⟩
    · exact q.elim
  · exact q.elim
theorem fL {p:Int->Int->Bool}:bL X gh (yt fun i j=>.bl (p i j)) (fE p):=fun H x y dx dy Q hx hy q=>by
  unfold fE at q;split at q
  · exact ⟨_,_,bx hx,bx hy,q _ H (ar.refl _) eh⟩
  · exact q.elim
theorem lB (ha:Z.cQ X a fa) (hb:Z.cQ X b fb):Z.cm X (.BinOp a .Sub b pos) (e2 qr fa fb):=⟨have ha:=ha.un;have hb:=hb.un;lQ dR BG Ck ha hb⟩
theorem bO (ha:Z.cQ X a fa) (hb:Z.cQ X b fb):Z.cm X (.BinOp a .Mod b pos) (e2 dQ fa fb):=⟨have ha:=ha.un;have hb:=hb.un;lQ dR BE Ch ha hb⟩
theorem fD (ha:Z.cQ X a fa) (hb:Z.cQ X b fb):Z.cm X (.BinOp a .FloorDiv b pos) (e2 j9 fa fb):=⟨have ha:=ha.un;have hb:=hb.un;lQ dR zB Cg ha hb⟩
noncomputable abbrev AI:Int->Int->Bool:=fun i j=>decide (i < j)
noncomputable abbrev yr:Int->Int->Bool:=fun i j=>decide (i<=j)
noncomputable abbrev FH:Int->Int->Bool:=fun i j=>decide (j < i)
theorem yI (ha:Z.cQ X a fa) (hb:Z.cQ X b fb):Z.cm X (.Compare a [.Gt] [b] pos) (e2 (fE FH) fa fb):=⟨have ha:=ha.un;have hb:=hb.un;oW DD fL ha hb (jl _)⟩
theorem v7 (ha:Z.cQ X a fa) (hb:Z.cQ X b fb):Z.mD X (.Compare a [.Lt] [b] pos) (tE (e2 (fE AI) fa fb)):=⟨have ha:=ha.un;have hb:=hb.un;iM qT fL ha hb (jl _)⟩
theorem v4 (ha:Z.cQ X a fa) (hb:Z.cQ X b fb):Z.mD X (.Compare a [.LtE] [b] pos) (tE (e2 (fE yr) fa fb)):=⟨have ha:=ha.un;have hb:=hb.un;iM qS fL ha hb (jl _)⟩
noncomputable def zU (X:Cx) (neg:Bool):R2:=fun x y H Q=>∃ dx dy,fM H dx x/\fM H dy y/\jK dx dy=true/\Q (.bl (if neg then !PyData.eqv dx dy else PyData.eqv dx dy)) H
theorem lP {x y:PyData} (h:jK x y=true):x.canLay0=true/\y.canLay0=true/\min x.depth y.depth<=60:=by
  unfold jK at h;rw [Bool.and_eq_true,Bool.and_eq_true,decide_eq_true_eq] at h;exact ⟨h.1.1,h.1.2,h.2⟩
theorem xk (hu:X.A.units+64 < cLine):h8 X (compareOp .Eq) (zU X false):=by
  intro pins s σ H x y v u Q I rx ry h;obtain ⟨dx,dy,hx,hy,ho,q⟩:=h;obtain ⟨c1,c2,c3⟩:=lP ho;obtain ⟨as,r1⟩:=dz I.hok c1 hx rx;obtain ⟨bs,r2⟩:=dz I.hok c2 hy ry;exact PySem.SeqAt.compareEq_reads r1 r2 c1 c2 (by omega) ⟨.bl _,H,I,rfl,q⟩
theorem xl (hu:X.A.units+64 < cLine):h8 X (compareOp .NotEq) (zU X true):=by
  intro pins s σ H x y v u Q I rx ry h;obtain ⟨dx,dy,hx,hy,ho,q⟩:=h;obtain ⟨c1,c2,c3⟩:=lP ho;obtain ⟨as,r1⟩:=dz I.hok c1 hx rx;obtain ⟨bs,r2⟩:=dz I.hok c2 hy ry;exact PySem.SeqAt.compareNe_reads r1 r2 c1 c2 (by omega) ⟨.bl _,H,I,rfl,q⟩
theorem AO:bL X gh (zU X false) ka:=fun H x y dx dy Q hx hy q=>by
  unfold ka at q;split at q
  · rename_i h;exact ⟨dx,dy,hx,hy,h,q _ H (ar.refl _) eh⟩
  · exact q.elim
theorem AQ:bL X gh (zU X true) lL:=fun H x y dx dy Q hx hy q=>by
  unfold lL at q;split at q
  · rename_i h;exact ⟨dx,dy,hx,hy,h,q _ H (ar.refl _) eh⟩
  · exact q.elim
theorem oE (hu:X.A.units+64 < cLine) (ha:Z.cQ X a fa) (hb:Z.cQ X b fb):Z.cm X (.Compare a [.Eq] [b] pos) (e2 ka fa fb):=⟨have ha:=ha.un;have hb:=hb.un;oW (xk hu) AO ha hb (jl _)⟩
theorem tf (hu:X.A.units+64 < cLine) (ha:Z.cQ X a fa) (hb:Z.cQ X b fb):Z.cm X (.Compare a [.NotEq] [b] pos) (e2 lL fa fb):=⟨have ha:=ha.un;have hb:=hb.un;oW (xl hu) AQ ha hb (jl _)⟩
theorem io (hu:X.A.units+64 < cLine) (ha:Z.cQ X a fa) (hb:Z.cQ X b fb):Z.mD X (.Compare a [.Eq] [b] pos) (tE (e2 ka fa fb)):=⟨have ha:=ha.un;have hb:=hb.un;iM (xk hu) AO ha hb (jl _)⟩
theorem jz (hu:X.A.units+64 < cLine) (ha:Z.cQ X a fa) (hb:Z.cQ X b fb):Z.mD X (.Compare a [.NotEq] [b] pos) (tE (e2 lL fa fb)):=⟨have ha:=ha.un;have hb:=hb.un;iM (xl hu) AQ ha hb (jl _)⟩
noncomputable def FJ (X:Cx) (neg:Bool):R2:=fun x y H Q=>∃ d xs,fM H d x/\(fM H (.list xs) y\/fM H (.tuple xs) y)/\jg xs d=true/\Q (.bl (if neg then !(xs.any fun z=>PyData.eqv z d) else xs.any fun z=>PyData.eqv z d)) H
noncomputable def BV (X:Cx) (neg:Bool):R2:=fun x y H Q=>FJ X neg x y H Q\/∃ a o,y=.ref a/\lg H a x o/\Q (.bl (if neg then !o.isSome else o.isSome)) H
theorem jh {xs:List PyData} {d:PyData} (h:jg xs d=true):PyData.canLayAll0 xs=true/\d.canLay0=true/\min (PyData.depthAll xs) d.depth<=60:=by
  unfold jg at h;rw [Bool.and_eq_true,Bool.and_eq_true,decide_eq_true_eq] at h;exact ⟨h.1.1,h.1.2,h.2⟩
theorem sB (hu:X.A.units+64 < cLine):h8 X (compareOp .In) (BV X false):=by
  intro pins s σ H x y v u Q I rx ry h;rcases h with h | ⟨a,o,rfl,g,q⟩
  case inr =>
    cases ry;exact Fn (by omega) I g rx fun s' I'=>⟨.bl _,H,I',rfl,q⟩
  obtain ⟨d,xs,hx,hy,ho,q⟩:=h;obtain ⟨c1,c2,c3⟩:=jh ho;obtain ⟨as,r1⟩:=dz I.hok c2 hx rx;rcases hy with hy | hy
  · obtain ⟨bs,r2⟩:=dz I.hok (d:=.list xs) (by simpa only [PyData.canLay0] using c1) hy ry;exact PySem.SeqAt.in_list_reads r2 r1 c1 c2 (by omega) ⟨.bl _,H,I,rfl,q⟩
  · obtain ⟨bs,r2⟩:=dz I.hok (d:=.tuple xs) (by simpa only [PyData.canLay0] using c1) hy ry;exact PySem.SeqAt.in_tuple_reads r2 r1 c1 c2 (by omega) ⟨.bl _,H,I,rfl,q⟩
theorem D9 {neg:Bool}:bL X gh (BV X neg) (Au neg):=fun H x y dx dy Q hx hy q=>by
  unfold Au at q;split at q
  · split at q
    · rename_i h;exact .inl ⟨dx,_,hx,.inl hy,h,q _ H (ar.refl _) eh⟩
    · exact q.elim
  · split at q
    · rename_i h;exact .inl ⟨dx,_,hx,.inr hy,h,q _ H (ar.refl _) eh⟩
    · exact q.elim
  · split at q
    · exact q.elim
    rename_i hi;split at q
    · rename_i κ e;obtain ⟨a,ks,rfl,h,r⟩:=jB (Bool.not_eq_true _ ▸ hi) hy;obtain ⟨o,g,e1,_⟩:=tG (κ:=κ) h r;rw [<- tt hx e] at g;rw [<- qG e] at e1;exact .inr ⟨a,o,rfl,g,by rw [e1];exact q _ H (ar.refl _) eh⟩
    · exact q.elim
  · exact q.elim
theorem v3 (hu:X.A.units+64 < cLine) (ha:Z.cQ X a fa) (hb:Z.cQ X b fb) (hm:behindInMarks .In b=false):Z.mD X (.Compare a [.In] [b] pos) (tE (e2 (Au false) fa fb)):=⟨have ha:=ha.un;have hb:=hb.un;iM (sB hu) D9 ha hb hm⟩
end
inductive oq where
  | nx (ρ:ay)
  | rt (d:PyData)
  | bk (ρ:ay)
  | ct (ρ:ay)
noncomputable abbrev Fs:=ay->R oq
structure gf (Fm H:Hp) (σ:St) (ρ:ay):Prop where
  fm:ar Fm H
  sl:Sl H σ ρ
  own:∀ (i:Nat) (d:PyData) (a:Addr),ρ[i]?=some (.own d)->σ[i]?=some (some (.ref a))->Fm a=none
  apart:∀ (i j:Nat) (d e:PyData) (a:Addr),ρ[i]?=some (.own d)->ρ[j]?=some (.own e)->σ[i]?=some (some (.ref a))->σ[j]?=some (some (.ref a))->i=j
theorem gf.mono {Fm H H':Hp} {σ:St} {ρ:ay} (h:gf Fm H σ ρ) (s:ar H H'):gf Fm H' σ ρ:=⟨h.fm.trans s,h.sl.mono s,h.own,h.apart⟩
noncomputable def yu (X:Cx) (Fm:Hp) (r:R oq) (D:pO):Prop :=
  match r with
  | .ok (.nx ρ)=>∀ σ H,gf Fm H σ ρ->D.nx σ H
  | .ok (.rt d)=>∀ v H,ar Fm H->Rp H d v->D.rt v H
  | .ok (.bk ρ)=>∀ σ H,gf Fm H σ ρ->D.bk σ H
  | .ok (.ct ρ)=>∀ σ H,gf Fm H σ ρ->D.ct σ H
  | .ex c=>Xw X c Fm/\CL X c Fm
  | .no=>False
noncomputable def AM (X:Cx) (Fm:Hp) (g:Fs):TS:=fun D σ H=>∃ ρ,gf Fm H σ ρ/\yu X Fm (g ρ) D
noncomputable def ju (X:Cx) (st:Stmt) (g:Fs):Prop:=∀ Fm,PS X st (AM X Fm g)
structure Z.ju (X:Cx) (st:Stmt) (g:Fs):Prop where
  un:D2.ju X st g
noncomputable def jZ (X:Cx) (st:List Stmt) (g:Fs):Prop:=∀ Fm,ou X st (AM X Fm g)
structure Z.jZ (X:Cx) (st:List Stmt) (g:Fs):Prop where
  un:D2.jZ X st g
theorem PS.imp {X:Cx} {e:Stmt} {t t':TS} (h:PS X e t) (i:∀ D σ H,t' D σ H->t D σ H):PS X e t':=fun pins s σ H D I q=>h pins s σ H D I (i D σ H q)
theorem ou.imp {X:Cx} {e:List Stmt} {t t':TS} (h:ou X e t) (i:∀ D σ H,t' D σ H->t D σ H):ou X e t':=fun pins s σ H D I q=>h pins s σ H D I (i D σ H q)
section
variable {X:Cx} {Fm:Hp} {σ:St} {H:Hp} {D:pO}
theorem oK {P:Hp->Hp->PyData->V->Prop} {f:Fe} {k:ay->PyData->R oq} (h:AM X Fm (fun ρ=>f ρ>>=k ρ) D σ H) :
    iz X P f σ H (fun v H1=>∃ ρ d,gf Fm H1 σ ρ/\ar H H1/\P H H1 d v/\yu X Fm (k ρ d) D):=by
  obtain ⟨ρ,sl,q⟩:=h;refine ⟨ρ,sl.sl,?_⟩;dsimp only at q;cases e:f ρ with
  | ok d=>rw [e] at q;exact fun v H1 s p=>⟨ρ,d,sl.mono s,s,p,q⟩
  | ex c=>rw [e] at q;exact q.1.mono sl.fm
  | no=>rw [e] at q;exact q
theorem tq {f:ay->R Bool} {k:ay->Bool->R oq} (h:AM X Fm (fun ρ=>f ρ>>=k ρ) D σ H):zV X f σ H (fun b H1=>∃ ρ,gf Fm H1 σ ρ/\ar H H1/\yu X Fm (k ρ b) D):=by
  obtain ⟨ρ,sl,q⟩:=h;refine ⟨ρ,sl.sl,?_⟩;dsimp only at q;cases e:f ρ with
  | ok d=>rw [e] at q;exact fun H1 s=>⟨ρ,sl.mono s,s,q⟩
  | ex c=>rw [e] at q;exact q.1.mono sl.fm
  | no=>rw [e] at q;exact q
end
noncomputable def dg:Fs:=fun ρ=>.ok (.nx ρ)
noncomputable def n8 (h:Fs):oq->R oq
  | .nx ρ=>h ρ
  | o=>.ok o
noncomputable def aU (g h:Fs):Fs:=fun ρ=>g ρ>>=n8 h
noncomputable def kG (t:ay->R Bool) (g h:Fs):Fs:=fun ρ=>t ρ>>=fun b=>if b=true then g ρ else h ρ
noncomputable def cJ (f:Fe):Fs:=fun ρ=>f ρ>>=fun d=>.ok (.rt d)
noncomputable def D0:Fs:=fun _=>.ok (.rt .none)
noncomputable def DY (f:Fe):Fs:=fun ρ=>f ρ>>=fun _=>.ok (.nx ρ)
noncomputable def B5:Fs:=fun ρ=>.ok (.bk ρ)
noncomputable def DV:Fs:=fun ρ=>.ok (.ct ρ)
noncomputable def cc (i:Nat) (f:Fe):Fs:=fun ρ=>f ρ>>=fun d=>.ok (.nx (ρ.set i (.val d)))
noncomputable def gY (i:Nat) (f:Fe):Fs:=fun ρ=>f ρ>>=fun d=>.ok (.nx (ρ.set i (.own d)))
section
variable {X:Cx} {nl:Nat} {G:List Str} {st:Stmt} {sts:List Stmt} {g h:Fs} {f:Fe} {e:Expr} {pos pos':Pos} {x:Str}
theorem bY  : Z.jZ X [] dg:=⟨fun Fm=>ou.imp zP fun D σ H ⟨ρ,sl,q⟩=>q σ H sl⟩
theorem al (h1:Z.ju X st g) (h2:Z.jZ X sts h):Z.jZ X (st::sts) (aU g h):=⟨have h1:=h1.un;have h2:=h2.un;fun Fm=>by
  refine ou.imp (xF (h1 Fm) (h2 Fm)) fun D σ H ⟨ρ,sl,q⟩=>⟨ρ,sl,?_⟩
  unfold aU at q;cases e:g ρ with
  | ex c=>rw [e] at q;exact q
  | no=>rw [e] at q;exact q
  | ok o =>
    rw [e] at q;cases o with
    | nx ρ'=>exact fun σ' H' s'=>⟨ρ',s',q⟩
    | rt d=>exact q
    | bk ρ'=>exact q
    | ct ρ'=>exact q⟩
theorem ap (h1:Z.ju X st g):Z.jZ X [st] g:=⟨have h1:=h1.un;fun Fm=>zQ (h1 Fm)⟩
theorem aE (he:Z.cm X e f):Z.ju X (.Return (some e) pos) (cJ f):=⟨have he:=he.un;fun Fm =>
  PS.imp (sG he) fun D σ H h=>(oK (P:=gh) (f:=f) (k:=fun _ d=>.ok (.rt d)) h).post fun v H1 ⟨ρ,d,sl,_,p,q⟩=>q v H1 sl.fm p⟩
theorem cD {c:Expr} {a b:List Stmt} {t:ay->R Bool} (hc:Z.mD X c t) (ha:Z.jZ X a g) (hb:Z.jZ X b h):Z.ju X (.If c a b pos) (kG t g h):=⟨have hc:=hc.un;have ha:=ha.un;have hb:=hb.un;fun Fm =>
  PS.imp (DN hc (ha Fm) (hb Fm)) fun D σ H q=>(tq (f:=t) (k:=fun ρ b=>if b=true then g ρ else h ρ) q).post fun b H1 ⟨ρ,sl,_,q⟩=>by
    cases b with
    | true=>exact ⟨ρ,sl,q⟩
    | false=>exact ⟨ρ,sl,q⟩⟩
theorem Sl.set {H:Hp} {σ:St} {ρ:ay} {c:bq} {o:Option V} (h:Sl H σ ρ) (i:Nat) (hc:h9 H c o):Sl H (σ.set i o) (ρ.set i c):=by
  refine ⟨by rw [List.length_set,List.length_set];exact h.1,fun j c' o' h1 h2=>?_⟩;rw [List.getElem?_set] at h1 h2;by_cases hij:i=j
  · rw [if_pos hij] at h1 h2;by_cases hi:i < ρ.length
    · rw [if_pos hi] at h1;rw [if_pos (by rw [h.1];exact hi)] at h2;cases h1;cases h2;exact hc
    · rw [if_neg hi] at h1;cases h1
  · rw [if_neg hij] at h1 h2;exact h.2 j c' o' h1 h2
theorem cw {ρ:ay} {i j:Nat} {c:bq} {d:PyData} (hc:∀ e,c≠.own e) (h:(ρ.set i c)[j]?=some (.own d)):i≠j/\ρ[j]?=some (.own d):=by
  rw [List.getElem?_set] at h;by_cases hij:i=j
  · rw [if_pos hij] at h;split at h
    · exact absurd (Option.some.inj h) (hc d)
    · cases h
  · rw [if_neg hij] at h;exact ⟨hij,h⟩
theorem gf.set {Fm H:Hp} {σ:St} {ρ:ay} {c:bq} {o:Option V} (h:gf Fm H σ ρ) (i:Nat) (hn:∀ e,c≠.own e) (hc:h9 H c o):gf Fm H (σ.set i o) (ρ.set i c):=by
  refine ⟨h.fm,h.sl.set i hc,fun j d a h1 h2=>?_,fun j k d e a h1 h2 h3 h4=>?_⟩
  · obtain ⟨ne,h1⟩:=cw hn h1;rw [List.getElem?_set,if_neg ne] at h2;exact h.own j d a h1 h2
  · obtain ⟨ne,h1⟩:=cw hn h1;obtain ⟨ne',h2⟩:=cw hn h2;rw [List.getElem?_set,if_neg ne] at h3;rw [List.getElem?_set,if_neg ne'] at h4;exact h.apart j k d e a h1 h2 h3 h4
theorem pb {H:Hp} {d:PyData} {v:V} (h:gs H d v):∃ a o,v=.ref a/\H a=some o:=by
  cases d <;> simp only [gs] at h
  · obtain ⟨a,vs,e,ha,_⟩:=h;exact ⟨a,_,e,ha⟩
  · rcases h with ⟨a,vs,e,ha,_⟩ | ⟨a,vs,e,ha,_⟩ <;> exact ⟨a,_,e,ha⟩
theorem gf.setOwn {Fm H0 H:Hp} {σ:St} {ρ:ay} {d:PyData} {v:V} (h0:gf Fm H0 σ ρ) (h:gf Fm H σ ρ) (hs:ar H0 H) (i:Nat) (hn:A1 H0 H d v):gf Fm H (σ.set i (some v)) (ρ.set i (.own d)):=by
  obtain ⟨p,a,rfl,ha⟩:=hn;have old:∀ (j:Nat) (e:PyData) (b:Addr),i≠j->(ρ.set i (.own d))[j]?=some (.own e)->(σ.set i (some (.ref a)))[j]?=some (some (.ref b))->ρ[j]?=some (.own e)/\σ[j]?=some (some (.ref b)):=fun j e b ne h1 h2=>by
    rw [List.getElem?_set,if_neg ne] at h1 h2;exact ⟨h1,h2⟩
  have notA:∀ (j:Nat) (e:PyData),ρ[j]?=some (.own e)->σ[j]?=some (some (.ref a))->False:=fun j e h1 h2=>by
    obtain ⟨u,e1,q⟩:=h0.sl.2 j _ _ h1 h2;cases e1;obtain ⟨b,o,e2,hb⟩:=pb q;cases e2;rw [ha] at hb;cases hb
  have here:∀ (b:Addr),(σ.set i (some (.ref a)))[i]?=some (some (.ref b))->b=a:=fun b h2=>by
    rw [List.getElem?_set,if_pos rfl] at h2;split at h2
    · cases h2;rfl
    · cases h2
  refine ⟨h.fm,h.sl.set i ⟨_,rfl,p⟩,fun j e b h1 h2=>?_,fun j k e f b h1 h2 h3 h4=>?_⟩
  · by_cases hij:i=j
    · subst hij;rw [here b h2];exact (h0.fm).free ha
    · obtain ⟨h1,h2⟩:=old j e b hij h1 h2;exact h.own j e b h1 h2
  · by_cases hij:i=j
    · subst hij;have eb:=here b h3;by_cases hik:i=k
      · exact hik
      · obtain ⟨h2,h4⟩:=old k f b hik h2 h4;rw [eb] at h4;exact (notA k f h2 h4).elim
    · obtain ⟨h1,h3⟩:=old j e b hij h1 h3;by_cases hik:i=k
      · subst hik;have eb:=here b h4;rw [eb] at h3;exact (notA j e h1 h3).elim
      · obtain ⟨h2,h4⟩:=old k f b hik h2 h4;exact h.apart j k e f b h1 h2 h3 h4
theorem aK (T:Tb X nl G) (i:Nat) (hN:(X.N.take nl)[i]?=some x) (he:Z.cm X e f) (hs:swapsWith e (some (.Name x pos')) pos.line X.env=pure false:=by rfl):Z.ju X (.Assign [.Name x pos'] e pos) (cc i f):=⟨have he:=he.un;fun Fm=>by
  have hm:=T.loc x (List.mem_of_getElem? hN);have hi:X.N[i]?=some x:=by
    rw [List.getElem?_take] at hN;split at hN
    · exact hN
    · cases hN
  exact PS.imp (xD T.nd hi hm.1 he hs hm.2) fun D σ H h=>(oK (P:=gh) (f:=f) (k:=fun ρ d=>.ok (.nx (ρ.set i (.val d)))) h).post fun v H1 ⟨ρ,d,sl,_,p,q⟩ =>
    q _ H1 (sl.set i (fun e z=>by cases z) ⟨v,rfl,p⟩)⟩
theorem ik (T:Tb X nl G) (i:Nat) (hN:(X.N.take nl)[i]?=some x) (he:Z.jt X e f) (hs:swapsWith e (some (.Name x pos')) pos.line X.env=pure false:=by rfl):Z.ju X (.Assign [.Name x pos'] e pos) (gY i f):=⟨have he:=he.un;fun Fm=>by
  have hm:=T.loc x (List.mem_of_getElem? hN);have hi:X.N[i]?=some x:=by
    rw [List.getElem?_take] at hN;split at hN
    · exact hN
    · cases hN
  refine PS.imp (xD T.nd hi hm.1 he hs hm.2) fun D σ H h=>?_
  obtain ⟨ρ0,sl0,q0⟩:=h;refine ⟨ρ0,sl0.sl,?_⟩;unfold gY at q0;cases ef:f ρ0 with
  | ex c=>rw [ef] at q0;exact q0.1.mono sl0.fm
  | no=>rw [ef] at q0;exact q0
  | ok d =>
    rw [ef] at q0;exact fun v H1 s p=>q0 _ H1 (gf.setOwn sl0 (sl0.mono s) s i p)⟩
end
structure yn (J:It) (Gd:Hp->Prop) (ds:List PyData):Prop where
  go:∀ i H,Gd H->i < ds.length->J.go i H
  yld:∀ i H x H' d,Gd H->ds[i]?=some d->J.yld i H x H'->ar H H'/\Rp H' d x
  stop:∀ i H,Gd H->ds.length<=i->J.stop i H
noncomputable def CJ (H0:Hp) (B:Addr->Prop) (Gd:Hp->Prop):Prop:=∀ H,Kp H0 H->(∀ b o,B b->H0 b=some o->H b=some o)->Gd H
noncomputable def Gc (X:Cx) (f:ay->R (List PyData)):TI:=fun σ H Rk=>∃ ρ,Sl H σ ρ/\match f ρ with
  | .ok ds=>∀ J H',ar H H'->(∃ Gd,yn J Gd ds/\CJ H' (fun _=>False) Gd)->Rk J H'
  | .ex c=>Xw X c H
  | .no=>False
noncomputable def mC (X:Cx) (tg iter:Expr) (f:ay->R (List PyData)):Prop:=PI X tg iter (Gc X f)
structure Z.mC (X:Cx) (tg iter:Expr) (f:ay->R (List PyData)):Prop where
  un:D2.mC X tg iter f
noncomputable def Gb (X:Cx) (b:PyData->ay->Option ay):TG:=fun v σ H Q=>∃ ρ d,Sl H σ ρ/\Rp H d v/\match b d ρ with
  | some ρ'=>∀ σ',Sl H σ' ρ'->(∀ (i:Nat) (e:PyData),ρ'[i]?=some (.own e)->ρ[i]?=some (.own e)/\σ'[i]?=σ[i]?)->Q σ' H
  | none=>False
noncomputable def mK (X:Cx) (tg:Expr) (b:PyData->ay->Option ay):Prop:=PG X tg (Gb X b)
structure Z.mK (X:Cx) (tg:Expr) (b:PyData->ay->Option ay):Prop where
  un:D2.mK X tg b
noncomputable def aG (i:Nat):PyData->ay->Option ay:=fun d ρ=>some (ρ.set i (.val d))
theorem PG.imp {X:Cx} {e:Expr} {t t':TG} (h:PG X e t) (i:∀ v σ H Q,t' v σ H Q->t v σ H Q):PG X e t':=fun pins s σ H v u Q I r q=>h pins s σ H v u Q I r (i v σ H Q q)
theorem PI.imp {X:Cx} {tg e:Expr} {t t':TI} (h:PI X tg e t) (i:∀ σ H Q,t' σ H Q->t σ H Q):PI X tg e t':=fun pins s σ H Q I q=>h pins s σ H Q I (i σ H Q q)
section
variable {X:Cx} {nl:Nat} {G:List Str} {x:Str} {pos:Pos}
theorem Tb.nm (T:Tb X nl G) {i:Nat} (hN:(X.N.take nl)[i]?=some x):X.N[i]?=some x/\A0 X.env.scope x/\(X.fn x=true\/X.env.scope.names.lookup x=some .local):=by
  have hm:=T.loc x (List.mem_of_getElem? hN);have hi:X.N[i]?=some x:=by
    rw [List.getElem?_take] at hN;split at hN
    · exact hN
    · cases hN
  exact ⟨hi,hm⟩
theorem aJ (T:Tb X nl G) (i:Nat) (hN:(X.N.take nl)[i]?=some x):Z.mK X (.Name x pos) (aG i):=⟨by
  obtain ⟨hi,h1,h2⟩:=T.nm hN;refine PG.imp (pd T.nd hi h1 h2) fun v σ H Q zq0=>?_
  obtain ⟨ρ,d,sl,p,q⟩:=zq0;refine q _ (sl.set i ⟨v,rfl,p⟩) fun j e h=>?_
  obtain ⟨ne,h⟩:=cw (fun e z=>by cases z) h;exact ⟨h,by rw [List.getElem?_set,if_neg ne]⟩⟩
end
noncomputable def e8 (b:PyData->ay->Option ay) (g:Fs):List PyData->Fs
  | [],ρ=>.ok (.nx ρ)
  | d::ds,ρ=>match b d ρ with
    | none=>.no
    | some ρ1=>g ρ1>>=fun o=>match o with
      | .nx ρ2=>e8 b g ds ρ2
      | .ct ρ2=>e8 b g ds ρ2
      | .bk ρ2=>.ok (.nx ρ2)
      | .rt r=>.ok (.rt r)
noncomputable def iX (it:ay->R (List PyData)) (b:PyData->ay->Option ay) (g:Fs):Fs:=fun ρ=>it ρ>>=fun ds=>e8 b g ds ρ
noncomputable def stab (Fm H:Hp):Hp:=fun b=>match H b with
  | some (.tup xs)=>some (.tup xs)
  | some (.frz o u)=>some (.frz o u)
  | _=>Fm b
theorem vD {Fm H:Hp} (h:ar Fm H):ar (stab Fm H) H:=fun b o e=>by
  unfold stab at e;split at e
  · rename_i q;rw [q];exact e
  · rename_i q;rw [q];exact e
  · exact h b o e
theorem Ah {Fm H:Hp}:Kp H (stab Fm H):=⟨fun b xs e=>by unfold stab;rw [e],fun b o u e=>by unfold stab;rw [e]⟩
theorem Ag {Fm H:Hp} (h:ar Fm H):ar Fm (stab Fm H):=fun b o e=>by
  have:=h b o e;unfold stab;split
  · rename_i q;rw [this] at q;exact q.symm
  · rename_i q;rw [this] at q;exact q.symm
  · exact e
theorem gf.stab {Fm H:Hp} {σ:St} {ρ:ay} (h:gf Fm H σ ρ):gf (stab Fm H) H σ ρ:=by
  refine ⟨vD h.fm,h.sl,fun i d a h1 h2=>?_,h.apart⟩;have f:=h.own i d a h1 h2;obtain ⟨u,e1,q⟩:=h.sl.2 i _ _ h1 h2;cases e1;unfold D2.stab;cases d <;> simp only [gs] at q
  · obtain ⟨b,vs,e,hb,_⟩:=q;cases e;rw [hb];exact f
  · rcases q with ⟨b,vs,e,hb,_⟩ | ⟨b,vs,e,hb,_⟩ <;> (cases e;rw [hb];exact f)
theorem gf.unstab {Fm F H:Hp} {σ:St} {ρ:ay} (hF:ar Fm F) (h:gf F H σ ρ):gf Fm H σ ρ:=⟨hF.trans h.fm,h.sl,fun i d a h1 h2=>hF.free (h.own i d a h1 h2),h.apart⟩
theorem eP {X:Cx} {tg iter:Expr} {body:List Stmt} {it:ay->R (List PyData)} {b:PyData->ay->Option ay} {g:Fs} {pos:Pos} (hp:PassesOwn (model X.prog X.w) X.A X.env X.xe) (hc:X.calm=true) (hi:Z.mC X tg iter it) (hg:Z.mK X tg b) (hb:Z.jZ X body g) (hs:∀ x,foldedSetIterable iter X.env x=pure x:=by intro _;rfl):Z.ju X (.For tg iter body [] pos) (iX it b g):=⟨have hi:=hi.un;have hg:=hg.un;have hb:=hb.un;fun Fm=>by
  intro pins s σ H D I h;obtain ⟨ρ,sl,q⟩:=h;unfold iX at q
  -- the frame: what is stable at the loop's hW is only known behind the iterator's making: the body is taken at every frame
  refine BQ (wi:=Gc X it) (g:=Gb X b) (tb:=fun D' σ' H'=>∃ F,AM X F g D' σ' H') hp hc hi hg (fun pins' s' σ' H' D' I' ⟨F,q'⟩=>hb F pins' s' σ' H' D' I' q') hs pins s σ H D I ?_;refine ⟨ρ,sl.sl,?_⟩;cases ei:it ρ with
  | ex c=>rw [ei] at q;exact q.1.mono sl.fm
  | no=>rw [ei] at q;exact q
  | ok ds =>
    rw [ei] at q;intro J H1 s1 ⟨Gd,idt,sta⟩;have sl1:=sl.mono s1;let F:=stab Fm H1
    have hF:ar Fm F:=Ag sl1.fm
    -- the word: so many items are taken,and the eK gives what the whole gives
    refine ⟨fun i m σ' H'=>m=ds.length-i/\i<=ds.length/\∃ ρ',gf F H' σ' ρ'/\yu X Fm (e8 b g (ds.drop i) ρ') D,⟨ds.length,by simp,Nat.zero_le _,ρ,sl1.stab,by simpa using q⟩,?_⟩;rintro i m σ2 H2 ⟨rfl,hi',ρ2,kH,q2⟩;have gd:Gd H2:=sta H2 (Kp.trans Ah (Kp.of kH.fm)) fun _ _ z=>z.elim
    by_cases hlt:i < ds.length
    · refine .inr ⟨idt.go i H2 gd hlt,fun σ' H'=>i+1<=ds.length/\∃ ρ',gf F H' σ' ρ'/\yu X Fm (e8 b g (ds.drop (i+1)) ρ') D,fun σ' H' ⟨z,p⟩=>⟨ds.length-(i+1),by omega,rfl,z,p⟩,fun x H3 y=>?_⟩;obtain ⟨d,hd⟩:∃ d,ds[i]?=some d:=⟨ds[i],List.getElem?_eq_getElem hlt⟩
      obtain ⟨s3,p3⟩:=idt.yld i H2 x H3 d gd hd y;have hdrop:ds.drop i=d::ds.drop (i+1):=by
        rw [List.drop_eq_getElem_cons hlt];congr 1;exact Option.some.inj ((List.getElem?_eq_getElem hlt).symm.trans hd)
      rw [hdrop] at q2;unfold e8 at q2;have mT:=kH.mono s3;refine ⟨ρ2,d,mT.sl,p3,?_⟩;cases eb:b d ρ2 with
      | none=>rw [eb] at q2;exact q2
      | some ρ3 =>
        rw [eb] at q2;intro σ4 sl4 hown;refine ⟨F,ρ3,⟨mT.fm,sl4,fun j e a h1 h2=>?_,fun j k e f a h1 h2 h3 h4=>?_⟩,?_⟩
        · obtain ⟨z1,z2⟩:=hown j e h1;exact mT.own j e a z1 (by rw [<- z2];exact h2)
        · obtain ⟨z1,z2⟩:=hown j e h1;obtain ⟨z3,z4⟩:=hown k f h2;exact mT.apart j k e f a z1 z3 (by rw [<- z2];exact h3) (by rw [<- z4];exact h4)
        · have q3:yu X Fm (g ρ3>>=fun o=>match o with
            | .nx ρ2=>e8 b g (ds.drop (i+1)) ρ2
            | .ct ρ2=>e8 b g (ds.drop (i+1)) ρ2
            | .bk ρ2=>.ok (.nx ρ2)
            | .rt r=>.ok (.rt r)) D:=q2
          cases eg:g ρ3 with
          | ex c=>rw [eg] at q3;exact ⟨q3.1.mono hF,q3.2.mono hF⟩
          | no=>rw [eg] at q3;exact q3
          | ok o =>
            rw [eg] at q3;cases o with
            | nx ρ4=>exact fun σ' H' s'=>⟨hlt,ρ4,s',q3⟩
            | ct ρ4=>exact fun σ' H' s'=>⟨hlt,ρ4,s',q3⟩
            | bk ρ4=>exact fun σ' H' s'=>q3 σ' H' (s'.unstab hF)
            | rt r=>exact fun v H' s' p'=>q3 v H' (hF.trans s') p'
    · have e:i=ds.length:=by omega
      subst e;refine .inl ⟨idt.stop _ H2 gd (Nat.le_refl _),?_⟩;rw [List.drop_length] at q2;exact q2 σ2 H2 (kH.unstab hF)⟩
noncomputable def eA (n:Nat) (g:Fs):List PyData->R PyData:=fun ds=>g (ds.map bq.val++List.replicate (n-ds.length) .non)>>=fun o=>match o with
  | .rt d=>.ok d
  | .nx _=>.ok .none
  | _=>.no
noncomputable def eo (F:List PyData->R PyData) (n:Nat):Sp:=fun vs H Q E=>∃ ds,aZ H ds vs/\ds.length=n/\match F ds with
  | .ok d=>∀ v H',ar H H'->Rp H' d v->Q v H'
  | .ex c=>∀ H',ar H H'->E (.str c 0) none H'
  | .no=>False
theorem x0 {H:Hp} {N:List Str}:∀ {ds:List PyData} {vs:List V},aZ H ds vs->Sl H (L2.hW N vs) (ds.map bq.val++List.replicate (N.length-ds.length) .non):=fun {ds vs} r=>by
  have hl:=r.length;refine ⟨by unfold L2.hW;rw [List.length_append,List.length_append,List.length_map,List.length_map,List.length_replicate,List.length_replicate,hl],fun i c o h1 h2=>?_⟩;by_cases hi:i < ds.length
  · rw [List.getElem?_append_left (by simpa using hi),List.getElem?_map] at h1;cases e:ds[i]? with
    | none=>rw [e] at h1;cases h1
    | some d =>
      rw [e] at h1;cases h1;obtain ⟨v,e1,p⟩:=r.get e;unfold L2.hW at h2;rw [List.getElem?_append_left (by rw [List.length_map,hl];exact hi),List.getElem?_map,e1] at h2;cases h2;exact ⟨v,rfl,p⟩
  · rw [List.getElem?_append_right (by simpa using hi),List.getElem?_replicate] at h1;split at h1
    · cases h1;exact True.intro
    · cases h1
section
variable {P:Program} {w:World} {H:Hp} {h:Heap} {a:Addr}
theorem sy:∀ {o:HO},bG P w H h a o->∃ u,h.get? a=some u
  | .lst xs,x=>by obtain ⟨_,_,_,_,e⟩:=x;exact ⟨_,e⟩
  | .tup xs,x=>by obtain ⟨_,_,_,o,e,_⟩:=x;exact ⟨_,e⟩
  | .dK kvs,x=>by obtain ⟨_,_,_,_,o,_,_,e,_⟩:=x;exact ⟨_,e⟩
  | .dT kvs,x=>by obtain ⟨_,_,_,_,o,_,_,e,_⟩:=x;exact ⟨_,e⟩
  | .set S n,x=>by obtain ⟨o,_,_,_,e,_⟩:=x;exact ⟨_,e⟩
  | .ins C dx fs,x=>by obtain ⟨_,_,_,e,_⟩:=x;exact ⟨_,e⟩
  | .own y,x=>by obtain ⟨_,e⟩:=x;exact ⟨_,e⟩
  | .xd fs,x=>by obtain ⟨_,⟨_,_,_,e,_⟩,_⟩:=x;exact ⟨_,e⟩
  | .rng lo hi,x=>by obtain ⟨_,_,_,e⟩:=x;exact ⟨_,e⟩
  | .frz ob u,x=>by obtain ⟨e,_⟩:=x;exact ⟨_,e⟩
  | .tbl ps,x=>⟨_,(show h.get? a=some _ from x)⟩
  | .met f y,x=>⟨_,(show h.get? a=some _ from x)⟩
  | .ext φ,x=>by obtain ⟨_,⟨_,e⟩,_⟩:=x;exact ⟨_,e⟩
end
theorem oo.un {P:Program} {w:World} {outer:List Env} {H H':Hp} {s s':Shared} {C:Addr} {e:Value} (f:oo P w outer H s C H' e s'):Un (jX outer) [] H H' s.heap s'.heap:=by
  obtain ⟨p,a0,B,_,fl,ok,_,cov⟩:=f.ex;refine ⟨fun b o q n hb _=>fl.1 _ _ (cov b o q n hb).1,fun b o q n hb _=>(f.slot b o q n hb).1,fun b o q n _=>?_,fun b o q _=>?_,fun b xs q=>f.same _ _ q,fun b o u q=>f.same _ _ q,fun b ps q=>⟨#[],by rw [f.same _ _ q];simp⟩⟩
  · by_cases hb:b∈jX outer
    · exact (f.slot b o q n hb).2
    · exact (cov b o q n hb).2
  · cases n:H b with
    | none =>
      by_cases hb:b∈jX outer
      · obtain ⟨sl,z⟩:=(f.slot b o q n hb).1;exact ⟨_,z⟩
      · exact ⟨o,fl.1 _ _ (cov b o q n hb).1⟩
    | some u =>
      obtain ⟨o',z⟩:=sy (ok b u (f.same _ _ n));exact ⟨o',fl.1 _ _ z⟩
theorem oo.hok {P:Program} {w:World} {outer:List Env} {H H':Hp} {s s':Shared} {C:Addr} {e:Value} (f:oo P w outer H s C H' e s'):gg P w H' s'.heap:=by
  obtain ⟨p,a0,B,_,fl,ok,_,_⟩:=f.ex;exact ok.kept fun b u q=>fl.1 b u q
theorem AY.un {P:Program} {w:World} {outer:List Env} {H H':Hp} {s s':Shared} {C:Addr} {e:Value} (f:AY P w outer H s C H' e s'):Un (jX outer) [] H H' s.heap s'.heap:=f.hld.un
theorem oo.inv {X:Cx} {pins:List (Addr×Obj)} {σ:St} {Hc H1:Hp} {sc s':Shared} {C:Addr} {e:Value} (f:oo X.prog X.w X.stack Hc sc C H1 e s') (I:aC X pins σ Hc sc):aC X pins σ H1 s' :=
  I.call' f.os f.un f.hok f.bare fun b z=>absurd z (by simp)
section
variable {P:Program} {w:World} {l:List Env} {H H':Hp} {s s':Shared} {C p:Addr} {e:Value}
theorem oo.again {a0:Value} {B h':Heap} (f:oo P w l H s C H' e s') (t:pW B l p (.ref C) a0 s'.heap) (t':pW B l p (.ref C) a0 h') (up:s'.heap.UpToSlots h') (gS:gg P w H' B) (hp:H' p=none)
    (cov:∀ b o,s.heap.get? b=some o->H b=none->b∉jX l->B.get? b=some o/\H' b=none):oo P w l H s C H' (.ref p) { s' with heap:=h' }:=by
  refine ⟨f.os,f.bare,f.same,⟨p,a0,B,rfl,t',gS,hp,cov⟩,fun b o q n hb=>?_⟩;obtain ⟨⟨sl,q2⟩,n2⟩:=f.slot b o q n hb;obtain ⟨_,o3,q3,nf⟩:=t.2.2.1.mem hb;rw [q2] at q3;cases q3;obtain ⟨mT,q4⟩:=up b _ q2 nf;exact ⟨⟨mT,q4⟩,n2⟩
theorem xi {x:Value} {env env0:Env} (h:env.frame=env0.frame):noteFrame x env=noteFrame x env0:=by
  unfold noteFrame PySem.frameOf;rw [h]
theorem oo.note {M:Model} {A:Around} {E:Value->Shared->Prop} {Q:Unit->Shared->Prop} {env env0:Env} {outer:List Env} {L:Addr} (f:oo P w l H s C H' e s') (hl:l=env0::outer) (hfr:A.frames=some l) (h0:env0.frame=some L) (h1:env.frame=some L)
    (k:∀ h',oo P w l H s C H' e { s' with heap:=h' }->s'.heap.UpToSlots h'->Q () { s' with heap:=h' }):wpAny M A (noteFrame e env) Q E s':=by
  subst hl;obtain ⟨p,a0,B,rfl,t,gS,hp,cov⟩:=f.ex;rw [xi (h1.trans h0.symm)];exact rn hfr h0 t fun h' t' up=>k h' (f.again t t' up gS hp cov) up
theorem oo.pass {α:Type} {M:Model} {A:Around} {E:Value->Shared->Prop} {Q:α->Shared->Prop} {env:Env} {what:String} (f:oo P w l H s C H' e s') (k:∀ h',oo P w l H s C H' e { s' with heap:=h' }->E e { s' with heap:=h' }):wpAny M A (PySem.passOn what e env:Sem α) Q E s':=by
  obtain ⟨p,a0,B,rfl,t,gS,hp,cov⟩:=f.ex;exact yf t fun h' t' up=>k h' (f.again t t' up gS hp cov)
end
section
variable {P:Program} {w:World} {K:PySem.W.Frag} {mg:Str->Option Value} {base:Heap} {N:List Str} {qual:Str} {sc:Scope} {f:Addr} {cdv:Value} {A:Around} {outer:List Env} {s:Shared} {H:Hp} {E:XK} {c:Str}
theorem Cv (h:∀ H',ar H H'->E (.str c 0) none H'):Xw (eR (di P w mg) P w K mg base N qual sc f cdv A outer s H E) c H:=by
  intro H1 s1 C hm pins σ Hc sc' e s' I fl;obtain ⟨p,a0,B,rfl,fly,gS,hp,cov⟩:=fl.ex;have old:∀ b o,s.heap.get? b=some o->b≠s.heap.objs.size:=fun b o q=>Nat.ne_of_lt (Heap.lt_size q)
  refine vG I.ok.frames rfl fly fun h' fl' up=>⟨c,C,H1,hm,⟨fl.os.trans I.os,fl.bare,s1,⟨p,a0,B,rfl,fl',gS,hp,fun b o q n hb=>?_⟩,fun b o q n hb=>?_⟩,h H1 s1⟩
  · have q1:=I.base.keep b o q n hb (by simp [eR]);have n1:=I.base.free b o q n (by simp [eR]);refine cov b o q1 n1 fun z=>?_
    have z':b∈(s.heap.objs.size::jX outer):=z;rcases List.mem_cons.mp z' with z2 | z2
    · exact old b o q z2
    · exact hb z2
  · obtain ⟨sl,q1⟩:=I.base.slot b o q n hb (by simp [eR]);have n1:=I.base.free b o q n (by simp [eR]);have hb':b∈jX (eR (di P w mg) P w K mg base N qual sc f cdv A outer s H E).stack:=List.mem_cons_of_mem _ hb;obtain ⟨⟨sl',q2⟩,n2⟩:=fl.slot b _ q1 n1 hb';obtain ⟨_,o3,q3,nf⟩:=fly.2.2.1.mem hb';rw [q2] at q3;cases q3;obtain ⟨mT,q4⟩:=up b _ q2 nf;exact ⟨⟨mT,q4⟩,n2⟩
theorem An (h:∀ H',ar H H'->E (.str c 0) none H'):CL (eR (di P w mg) P w K mg base N qual sc f cdv A outer s H E) c H:=by
  intro C hm pins σ Hm sm sH I h' p vs hx;have hin:∀ env∈(eR (di P w mg) P w K mg base N qual sc f cdv A outer s H E).stack,∀ b,env.frame=some b->b∈jX (eR (di P w mg) P w K mg base N qual sc f cdv A outer s H E).stack:=fun env he b hb=>List.mem_filterMap.mpr ⟨env,he,hb⟩
  have old:∀ b o,s.heap.get? b=some o->b≠s.heap.objs.size:=fun b o q=>Nat.ne_of_lt (Heap.lt_size q)
  refine wpAny_leaves_madeW (s:={ sm with heap:=h' }) (base:=PySem.W.hideAll sm.heap (jX (eR (di P w mg) P w K mg base N qual sc f cdv A outer s H E).stack)) I.ok.frames rfl (fun b o q=>PySem.W.of_hideAll _ q) (PySem.W.funFrames_hide I.stack hin) hx fun h'' t fl' _ _ up =>
    ⟨c,C,Hm,hm,⟨I.os,I.bare,sH,⟨p,.ref t,_,rfl,fl',fun b u q=>?_,?_,fun b o q n hb=>?_⟩,fun b o q n hb=>?_⟩,h Hm sH⟩
  · refine (I.hok b u q).stay (fun c' v hc z=>PySem.W.hideAll_get _ z fun m=>?_) (fun _ z=>z) fun _ _ z=>z
    have hn:=I.stkFree c' m;rcases hc with rfl | hc
    · rw [hn] at q;cases q
    · rw [hn] at hc;cases hc
  · cases q:Hm p with
    | none=>rfl
    | some u =>
      obtain ⟨o',z⟩:=sy (I.hok p u q);rw [hx.new] at z;cases z
  · have q1:=I.base.keep b o q n hb (by simp [eR]);have n1:=I.base.free b o q n (by simp [eR]);refine ⟨PySem.W.hideAll_get _ q1 fun z=>?_,n1⟩;have z':b∈(s.heap.objs.size::jX outer):=z;rcases List.mem_cons.mp z' with z2 | z2
    · exact old b o q z2
    · exact hb z2
  · obtain ⟨sl,q1⟩:=I.base.slot b o q n hb (by simp [eR]);have n1:=I.base.free b o q n (by simp [eR]);have hb':b∈jX (eR (di P w mg) P w K mg base N qual sc f cdv A outer s H E).stack:=List.mem_cons_of_mem _ hb;obtain ⟨_,o3,q3,nf⟩:=I.stack.mem hb';rw [q1] at q3;cases q3;obtain ⟨mT,q4⟩:=up b _ (hx.keeps _ _ q1) nf;exact ⟨⟨mT,q4⟩,n1⟩
end
theorem zf {P:Program} {w:World} {K:PySem.W.Frag} {mg:Str->Option Value} {base:Heap} {x qual:Str} {st:Stmt} {f:Addr} {fd:FuncData} {N ps:List Str} {k:Nat} {g:Fs} (F:h7 K x qual st f fd) (S:aP N ps (ak st))
    (body:∀ (cdv:Value) (A:Around) (outer:List Env) (s:Shared) (H:Hp) (E:XK),fB k (A.deeper (envOfC qual (ak st) s.heap.objs.size f cdv)) ->
      jZ (eR (di P w mg) P w K mg base N qual (ak st) f cdv A outer s H E) (cN st) g):bj P w K mg base (di P w mg) (k+1) f fd ps (eo (eA N.length g) ps.length):=by
  obtain ⟨oc,od,kV,doc,pm,an,cdv,ct,osl,rfl,lk,hcd⟩:=F.ex;refine Ax lk hcd S (fun vs H Q E ⟨ds,r,hl,_⟩=>by rw [r.length];exact hl) fun A outer s H vs Q E hr h=>?_
  obtain ⟨ds,r,hl,q⟩:=h;have noOwn:∀ (i:Nat) (d:PyData),(ds.map bq.val++List.replicate (N.length-ds.length) bq.non)[i]?=some (.own d)->False:=fun i d h1=>by
    by_cases hi:i < ds.length
    · rw [List.getElem?_append_left (by simpa using hi),List.getElem?_map] at h1;cases e:ds[i]? with
      | none=>rw [e] at h1;cases h1
      | some d=>rw [e] at h1;cases h1
    · rw [List.getElem?_append_right (by simpa using hi),List.getElem?_replicate] at h1;split at h1
      · cases h1
      · cases h1
  refine ⟨_,body cdv A outer s H E hr H,_,⟨ar.refl _,x0 r,fun i d a h1 h2=>(noOwn i d h1).elim,fun i j d e a h1 h2 h3 h4=>(noOwn i d h1).elim⟩,?_⟩;unfold eA at q;cases eg:g (ds.map bq.val++List.replicate (N.length-ds.length) .non) with
  | ex c=>rw [eg] at q;exact ⟨Cv q,An q⟩
  | no=>rw [eg] at q;exact q.elim
  | ok o =>
    rw [eg] at q;cases o with
    | rt d=>exact fun v H' s' p=>q v H' s' p
    | nx ρ=>exact fun σ' H' s'=>q .non H' s'.fm (by simp only [Rp])
    | bk ρ=>exact q.elim
    | ct ρ=>exact q.elim
noncomputable def aN (F:List PyData->R PyData) (fs:ay->R (List PyData)):Fe:=fun ρ=>fs ρ>>=F
theorem zc {X:Cx} {k n:Nat} {f:Addr} {fd:FuncData} {ps:List Str} {F:List PyData->R PyData} {x:Str} {p pos:Pos} {e:Expr} {es:List Expr} {fs:ay->R (List PyData)} {nl:Nat} {G:List Str}
    (C:bj X.prog X.w X.K X.mg X.base (di X.prog X.w X.mg) k f fd ps (eo F n)) (hr:fB k X.A) (T:Tb X nl G) (j:Nat) (hG:G[j]?=some x) (hm:X.mg x=some (.ref f)) (hk:PySem.W.keepIn X.K (.ref f)=true) (hb:bT X.K fd ps []) (ha:ue X (e::es) fs)
    (hlen:(e::es).length=n) (hfs:∀ ρ ds,fs ρ=.ok ds->ds.length=n)
    (he:(e::es).all aM=true:=by rfl):cm X (.Call (.Name x p) (e::es) [] pos) (aN F fs):=by
  rw [List.all_cons,Bool.and_eq_true] at he;have g:=T.gl x (List.mem_of_getElem? hG);refine PE.imp (zH C hr g.1 hm hk hb .nil zF ha g.2.1 (bu he.1) (ri he.2)) fun σ H Q zq0=>?_
  obtain ⟨ρ,sl,q⟩:=zq0;refine ⟨ρ,sl,?_⟩;unfold aN at q;cases e1:fs ρ with
  | ex c=>rw [e1] at q;exact q
  | no=>rw [e1] at q;exact q
  | ok ds =>
    rw [e1] at q;intro vs H1 s1 r1;rw [List.append_nil];refine ⟨ds,pe.mp r1,hfs ρ ds e1,?_⟩;have q':rz X gh (F ds) H Q:=q;cases e2:F ds with
    | ok d=>rw [e2] at q';exact fun v H' s' p'=>q' v H' (s1.trans s') p'
    | ex c=>rw [e2] at q';exact fun H' s'=>Xw.ex q' H' (s1.trans s')
    | no=>rw [e2] at q';exact q'
theorem aw:∀ ρ ds,az ρ=.ok ds->ds.length=0:=fun ρ ds e=>by cases e;rfl
theorem aj {f:Fe} {g:ay->R (List PyData)} {n:Nat} (h:∀ ρ ds,g ρ=.ok ds->ds.length=n):∀ ρ ds,ah f g ρ=.ok ds->ds.length=n+1:=fun ρ ds e=>by
  unfold ah at e;cases e1:f ρ with
  | ex c=>rw [e1] at e;cases e
  | no=>rw [e1] at e;cases e
  | ok d =>
    rw [e1] at e;cases e2:g ρ with
    | ex c=>rw [e2] at e;cases e
    | no=>rw [e2] at e;cases e
    | ok ds'=>rw [e2] at e;cases e;rw [List.length_cons,h ρ ds' e2]
theorem lI {scope:Scope} {env:Env} (h:∀ x∈scope.names,x.2=.free->∃ c,env.cells.lookup x.1=some c) :
    ∃ cl,closureFor scope env=pure cl/\(∀ x c,cl.lookup x=some c->env.cells.lookup x=some c)/\∀ x∈scope.names,x.2=.free->∃ c,cl.lookup x.1=some c:=by
  suffices gen:∀ (names:List (Str×NameKind)) (acc:List (Str×Addr)),(∀ x∈names,x.2=.free->∃ c,env.cells.lookup x.1=some c)->(∀ x c,acc.lookup x=some c->env.cells.lookup x=some c) ->
      ∃ cl,(forIn names acc fun x r=>if (x.snd==NameKind.free)=true then do let a <- cellOf env x.fst;pure (ForInStep.yield ((x.fst,a)::r)) else pure (ForInStep.yield r):Sem (List (Str×Addr)))=pure cl /\
        (∀ x c,cl.lookup x=some c->env.cells.lookup x=some c)/\(∀ x c,acc.lookup x=some c->∃ c',cl.lookup x=some c')/\∀ x∈names,x.2=.free->∃ c,cl.lookup x.1=some c by
    obtain ⟨cl,h1,h2,_,h4⟩:=gen scope.names [] h fun x c e=>by simp at e
    refine ⟨cl,?_,h2,h4⟩;simp only [closureFor];rw [h1];rfl
  intro names;induction names with
  | nil=>intro acc _ ha;exact ⟨acc,rfl,ha,fun x c e=>⟨c,e⟩,fun x hx=>by cases hx⟩
  | cons y r ih =>
    intro acc hn ha;obtain ⟨n,k⟩:=y;by_cases hk:k=.free
    · subst hk;obtain ⟨c,hc⟩:=hn (n,.free) List.mem_cons_self rfl;obtain ⟨cl,e1,e2,e3,e4⟩:=ih ((n,c)::acc) (fun x hx=>hn x (List.mem_cons_of_mem _ hx)) (fun x c' e=>by
        rw [List.lookup_cons] at e;split at e
        · rename_i q;have:x=n:=by simpa using q
          subst this;cases e;exact hc
        · exact ha x c' e)
      refine ⟨cl,?_,e2,fun x c' e=>?_,fun x hx hf=>?_⟩
      · rw [List.forIn_cons];have:cellOf env n=pure c:=by unfold cellOf;rw [hc]
        simp only [beq_self_eq_true,if_true,this,pure_bind];exact e1
      · by_cases hx:x=n
        · subst hx;exact e3 x c (by rw [List.lookup_cons];simp)
        · have hb:(x==n)=false:=by simpa using hx
          exact e3 x c' (by rw [List.lookup_cons,hb];exact e)
      · rcases List.mem_cons.mp hx with rfl | hx
        · exact e3 n c (by rw [List.lookup_cons];simp)
        · exact e4 x hx hf
    · obtain ⟨cl,e1,e2,e3,e4⟩:=ih acc (fun x hx=>hn x (List.mem_cons_of_mem _ hx)) ha;refine ⟨cl,?_,e2,e3,fun x hx hf=>?_⟩
      · rw [List.forIn_cons];have:(k==NameKind.free)=false:=by simpa using hk
        simp only [this,Bool.false_eq_true,if_false,pure_bind];exact e1
      · rcases List.mem_cons.mp hx with rfl | hx
        · exact absurd hf hk
        · exact e4 x hx hf
noncomputable def DT (env:Env) (p:Str×NameKind):NameKind:=if (p.2==.free&&env.scope.kind==.function&&env.kindOf p.1==some .cell)=true then .cell else p.2
theorem mS (scope:Scope) (env:Env):(relabel scope env).names=scope.names.map fun p=>(p.1,DT env p):=by
  unfold relabel;refine List.map_congr_left fun p _=>?_
  obtain ⟨n,k⟩:=p;unfold DT;dsimp only;split <;> rfl
theorem kE (g:Str×NameKind->NameKind) (x:Str):∀ l:List (Str×NameKind),(l.map fun p=>(p.1,g p)).lookup x=(l.lookup x).map fun k=>g (x,k)
  | []=>rfl
  | (n,k)::r=>by
    rw [List.map_cons];cases hx:x==n with
    | true =>
      have e:x=n:=by simpa using hx
      subst e;simp
    | false =>
      have ne:¬ x=n:=by simpa using hx
      simp only [List.lookup_cons,hx];exact kE g x r
theorem gU (scope:Scope) (env:Env) (x:Str):(relabel scope env).names.lookup x=(scope.names.lookup x).map fun k=>DT env (x,k):=by
  rw [mS];exact kE _ _ _
theorem bS {scope:Scope} {env:Env} {x:Str} {k:NameKind} (h:scope.names.lookup x=some k) (hk:k≠.free):(relabel scope env).names.lookup x=some k:=by
  rw [gU,h];have:(k==NameKind.free)=false:=by simpa using hk
  simp only [DT,this,Bool.false_and,Bool.false_eq_true,if_false,Option.map_some]
theorem dA {scope:Scope} {env:Env} {x:Str} (h:scope.names.lookup x=some .free):(relabel scope env).names.lookup x=some .free\/(relabel scope env).names.lookup x=some .cell:=by
  rw [gU,h];unfold DT;dsimp only [Option.map_some];split
  · exact .inr rfl
  · exact .inl rfl
theorem qY {scope:Scope} {env:Env} {x:Str} (hc:∀ y∈scope.names,y.2≠.cell) (h:(relabel scope env).names.lookup x=some .free\/(relabel scope env).names.lookup x=some .cell):(x,NameKind.free)∈scope.names:=by
  cases e:scope.names.lookup x with
  | none =>
    rw [gU,e] at h;rcases h with h | h <;> cases h
  | some k =>
    by_cases hk:k=.free
    · subst hk;exact PySem.mem_of_lookup e
    · exfalso;have:=bS (env:=env) e hk;rw [this] at h;rcases h with h | h
      · cases h;exact hk rfl
      · cases h;exact hc _ (PySem.mem_of_lookup e) rfl
noncomputable def aq (X:Cx) (N:List Str) (scope:Scope) (cl:List (Str×Addr)) (C:Addr) (s:Shared) (H:Hp) (fp:List Addr) (E:Value->Shared->Prop:=fun _ _=>False):Cx :=
  { X with N:=N,s₀:=s,H₀:=H,env:=compEnvC scope cl C X.env,outer:=X.stack,stack:=X.stack,ex:=fp,fn:=fun _=>false,pn:=[],xe:=E }
noncomputable def cK (sc:Scope) (N:List Str) (own:Nat) (G:List Str) (oN:List Str) (fr:List Nat):Prop :=
  sc.kind=.function/\(∀ y∈sc.names,y.2≠.cell)/\(∀ y∈sc.names,y.2=.local->sc.names.lookup y.1=some .local)/\N.Nodup/\(∀ x∈N.take own,sc.names.lookup x=some .local)/\(∀ x∈N.drop own,sc.names.lookup x=some .free) /\
  (∀ x∈N,(x==("__debug__" : Str))=false/\(x==("__classdict__" : Str))=false)/\(∀ x∈G,sc.names.lookup x=some .globalImplicit/\(x==("__debug__" : Str))=false/\x≠("__name__" : Str)) /\
  own<=N.length/\(N.drop own).map some=fr.map fun i=>oN[i]?
noncomputable instance {sc:Scope} {N:List Str} {own:Nat} {G oN:List Str} {fr:List Nat}:Decidable (cK sc N own G oN fr):=by unfold cK;infer_instance
theorem yP {X:Cx} {nl:Nat} {G0:List Str} (T:Tb X nl G0) {sc:Scope} {N:List Str} {own:Nat} {G oN:List Str} {fr:List Nat} (ck:cK sc N own G oN fr) (cl:List (Str×Addr)) (C:Addr) (s:Shared) (H:Hp) (fp:List Addr) :
    Tb (aq X N sc cl C s H fp) own G:=by
  obtain ⟨_,_,_,nd,l,f,db,g,_,_⟩:=ck;refine ⟨T.hu,T.calm,nd,fun x hx=>?_,fun x hx=>?_,fun x hx=>?_⟩
  · refine ⟨?_,db x hx⟩;have hx':x∈N.take own++N.drop own:=by rw [List.take_append_drop];exact hx
    rcases List.mem_append.mp hx' with z | z
    · exact .inl (bS (l x z) (by decide))
    · rcases dA (env:=X.env) (f x z) with q | q
      · exact .inr (.inr q)
      · exact .inr (.inl q)
  · have q:=bS (env:=X.env) (l x hx) (by decide);exact ⟨.inl q,.inr q⟩
  · obtain ⟨g1,g2,g3⟩:=g x hx;exact ⟨bS (env:=X.env) g1 (by decide),g2,g3⟩
theorem wy {X:Cx} {nl:Nat} {G0:List Str} (T:Tb X nl G0) {sc:Scope} {N:List Str} {own:Nat} {G oN:List Str} {fr:List Nat} (ck:cK sc N own G oN fr) (cl:List (Str×Addr)) (C:Addr) (s:Shared) (H:Hp) (fp:List Addr) (E:Value->Shared->Prop) :
    Tb (aq X N sc cl C s H fp E) own G:=let T1:=yP T ck cl C s H fp;⟨T1.hu,T1.calm,T1.nd,T1.vis,T1.loc,T1.gl⟩
noncomputable def Gk (X:Cx) (ifs:List Expr) (t:TT):Prop :=
  ∀ (pins:List (Addr×Obj)) (s:Shared) (σ:St) (H:Hp) (Q:Bool->Hp->Prop),aC X pins σ H s->t σ H Q->wpAny (model X.prog X.w) X.A (forIn ifs true fun c r=>if r=true then do let ok <- isTrue c X.env (eval c X.env);pure (ForInStep.yield ok) else pure (ForInStep.yield r))
    (TP X pins σ Q) X.xe s
noncomputable def mW (X:Cx) (ifs:List Expr) (t:ay->R Bool):Prop:=Gk X ifs (zV X t)
structure Z.mW (X:Cx) (ifs:List Expr) (t:ay->R Bool):Prop where
  un:D2.mW X ifs t
theorem bN {X:Cx}:Z.mW X [] (fun _=>.ok true):=⟨fun pins s σ H Q I ⟨ρ,sl,q⟩=>wpAny_tests_nil ⟨H,I,q H (ar.refl _)⟩⟩
theorem lv {X:Cx} {c:Expr} {t:ay->R Bool} (h:Z.mD X c t):Z.mW X [c] t:=⟨have h:=h.un;fun pins s σ H Q I q=>wpAny_tests_one (h pins s σ H Q I q)⟩
noncomputable def bA (b:PyData->ay->Option ay) (t:ay->R Bool) (f:Fe) (ρ:ay):List PyData->R (List PyData)
  | []=>.ok []
  | d::ds=>match b d ρ with
    | none=>.no
    | some ρ1=>t ρ1>>=fun k=>if k=true then f ρ1>>=fun x=>bA b t f ρ ds>>=fun xs=>.ok (x::xs) else bA b t f ρ ds
noncomputable def ao (own:Nat) (fr:List Nat) (ρ:ay):ay:=List.replicate own .non++fr.map fun i=>ρ.getD i .non
noncomputable def kh {α:Type}:R α->R α
  | .ex _=>.no
  | r=>r
noncomputable def aY (it:ay->R (List PyData)) (own:Nat) (fr:List Nat) (b:PyData->ay->Option ay) (t:ay->R Bool) (f:Fe):Fe:=fun ρ =>
  kh (it ρ)>>=fun ds=>if ds.length<=sizeLine then match bA b t f (ao own fr ρ) ds with
    | .ok xs=>.ok (.list xs)
    | .ex c=>.ex c
    | .no=>.no
  else .no
noncomputable def dc (own:Nat) (fr:List Nat) (σ:St):St:=List.replicate own none++fr.map fun i=>(σ[i]?).join
theorem tx {H:Hp} {σ:St} {ρ:ay} (h:Sl H σ ρ) (own:Nat) (fr:List Nat) (hin:∀ i∈fr,i < ρ.length):Sl H (dc own fr σ) (ao own fr ρ):=by
  refine ⟨by simp [dc,ao],fun i c o h1 h2=>?_⟩;unfold ao at h1;unfold dc at h2;by_cases hi:i < own
  · rw [List.getElem?_append_left (by simpa using hi),List.getElem?_replicate,if_pos hi] at h1;cases h1;exact True.intro
  · rw [List.getElem?_append_right (by simpa using hi),List.getElem?_map,List.length_replicate] at h1 h2;cases e:fr[i-own]? with
    | none=>rw [e] at h1;cases h1
    | some j =>
      rw [e] at h1 h2;have hj:=hin j (List.mem_of_getElem? e);have hj':j < σ.length:=by rw [h.1];exact hj
      cases h1;cases h2;refine h.2 j _ _ ?_ ?_
      · show ρ[j]?=some (ρ.getD j .non);rw [List.getD_eq_getElem?_getD,List.getElem?_eq_getElem hj];rfl
      · show σ[j]?=some ((σ[j]?).join);rw [List.getElem?_eq_getElem hj'];rfl
section
variable {X:Cx} {pins:List (Addr×Obj)} {σ:St} {H:Hp} {s:Shared} {nl:Nat} {G0:List Str} {sc:Scope} {N:List Str} {own:Nat} {G:List Str} {fr:List Nat} {cl:List (Str×Addr)} {fp:List Addr} {a C:Addr} {h4:Heap} {t4:Nat} {m:Str->Option Value}
theorem wT (I:aC X pins σ H s) (ck:cK sc N own G X.N fr) (hf:∀ b∈fp,jv X pins H b) (hob:∀ b∈fp,b < s.heap.objs.size) (hcl1:∀ x c,cl.lookup x=some c->X.env.cells.lookup x=some c) (hcl2:∀ x∈sc.names,x.2=.free->∃ c,cl.lookup x.1=some c)
    (vis:∀ x∈X.N,A7 X.env.scope x) (hout:∀ y∈sc.names,y.2=.free->X.env.kindOf y.1=some .cell\/X.env.kindOf y.1=some .free)
    (ha:s.heap.objs.size<=a) (hC:s.heap.objs.size<=C) (hac:a≠C) (keep:∀ b o,s.heap.get? b=some o->h4.get? b=some o) (hl:h4.get? a=some { cls:=.type "list",data:=.seq #[] 0 }) (hn:h4.Ns C m) :
    aC (aq X N sc cl C s H fp) [] (dc own fr σ) (cI H a (.lst [])) { s with heap:=h4,toks:=t4 }:=by
  obtain ⟨ck1,ck2,ck3,nd,l,f,db,g,ol,ofr⟩:=ck;have hHa:H a=none:=I.hok.fresh ha;have hHC:H C=none:=I.hok.fresh hC;have lt:∀ {b:Addr} {o:Obj},s.heap.get? b=some o->b < s.heap.objs.size:=fun e=>Heap.lt_size e
  have cellLt:∀ x c,cl.lookup x=some c->c < s.heap.objs.size:=fun x c e=>by
    obtain ⟨v,q⟩:=I.cell x c (hcl1 x c e);exact q.lt
  refine ⟨⟨I.ok.mod,ck1,I.ok.glob,I.ok.blt,hC,fun x y c h1 h2=>I.ok.inj x y c (hcl1 x c h1) (hcl1 y c h2),fun x hx=>?_,fun x c hx=>(Bool.false_ne_true hx).elim,I.ok.hd,I.ok.frames,.inl rfl,fun b hb=>⟨?_,fun x c e=>?_⟩,I.bs,Nat.le_trans I.ok.bsz I.sz,fun b o e hb=>?_,fun b hb hs=>?_,I.stack,I.stkFree⟩,
    rfl,I.bare,Un.laid keep ha hHa,⟨m,hn,fun i x v h1 h2 h3=>?_⟩,fun x c e=>?_,?_,fun x c e=>?_,fun p hp=>?_,?_,?_⟩
  · have q:=qY (env:=X.env) ck2 (show (relabel sc X.env).names.lookup x=some .free\/(relabel sc X.env).names.lookup x=some .cell from hx.elim .inr .inl);exact hcl2 _ q rfl
  · exact Nat.ne_of_lt (Nat.lt_of_lt_of_le (hob b hb) hC)
  · exact (hf b hb).2.2.2.2.1 x c (hcl1 x c e)
  · rcases (hf b hb).2.2.2.1 with z | z
    · exact I.ok.noex b o e z
    · exact absurd (Nat.lt_of_lt_of_le (Heap.lt_size e) I.ok.bsz) (Nat.not_lt.mpr z)
  · rcases List.mem_cons.mp (I.stkSub b hs) with z | z
    · exact (hf b hb).2.1 z
    · exact (hf b hb).2.2.1 z
  · -- a captured name
    have hi:¬ i < own:=fun hi=>by
      unfold dc at h2;rw [List.getElem?_append_left (by simpa using hi),List.getElem?_replicate,if_pos hi] at h2;cases h2
    unfold dc at h2;rw [List.getElem?_append_right (by simpa using hi),List.getElem?_map,List.length_replicate] at h2;cases e:fr[i-own]? with
    | none=>rw [e] at h2;cases h2
    | some j =>
      rw [e] at h2;have h2':(σ[j]?).join=some v:=Option.some.inj h2;have hσ:σ[j]?=some (some v):=by
        cases q:σ[j]? with
        | none=>rw [q] at h2';cases h2'
        | some o=>rw [q] at h2';exact congrArg some h2'
      have hx:(N.drop own)[i-own]?=some x:=by
        rw [List.getElem?_drop];have:own+(i-own)=i:=by omega
        rw [this];exact h1
      have hj:X.N[j]?=some x:=by
        have q:=congrArg (fun l=>l[i-own]?) ofr;simp only [List.getElem?_map,hx,e,Option.map_some] at q;exact (Option.some.inj q).symm
      have hfree:=f x (List.mem_of_getElem? hx);obtain ⟨c,hc⟩:=hcl2 _ (PySem.mem_of_lookup hfree) rfl;have hXc:=hcl1 x c hc;obtain ⟨m0,hn0,hl0⟩:=I.loc;obtain ⟨u,ru,lk⟩:=hl0 j x v hj hσ (vis x (List.mem_of_getElem? hj));have ko:=hout _ (PySem.mem_of_lookup hfree) rfl;refine ⟨u,ru,.inr ⟨(dA (env:=X.env) hfree).symm,c,hc,?_⟩⟩;rcases lk with ⟨k1,_⟩ | ⟨_,c',e1,ob,q1,q2⟩
      · exfalso;rcases ko with k | k <;> (rw [k] at k1;cases k1)
      · rw [hXc] at e1;cases e1;exact ⟨ob,keep _ _ q1,q2⟩
  · obtain ⟨v,o,q,d⟩:=I.cell x c (hcl1 x c e);exact ⟨v,o,keep _ _ q,d⟩
  · show cI H a (.lst []) C=none;rw [aA (Ne.symm hac)];exact hHC
  · have q:=I.freeC x c (hcl1 x c e);show cI H a (.lst []) c=none;rw [aA (Nat.ne_of_lt (Nat.lt_of_lt_of_le (cellLt x c e) ha))];exact q
  · exact absurd (show p∈([]:List (Addr×Obj)) from hp) (by simp)
  · exact I.hok.laid keep ha ⟨Nat.zero_le _,[],0,.nil,hl⟩
  · show (dc own fr σ).length=N.length;have q:=congrArg List.length ofr;rw [List.length_map,List.length_map,List.length_drop] at q;unfold dc;rw [List.length_append,List.length_replicate,List.length_map];omega
end
noncomputable def gu (ρ0 ρ1:ay):Prop:=ρ1.length=ρ0.length/\∀ (i:Nat) (c:bq),ρ0[i]?=some c->c=.non\/ρ1[i]?=some c
theorem Sl.unfit {H:Hp} {σ:St} {ρ0 ρ1:ay} (h:Sl H σ ρ1) (f:gu ρ0 ρ1):Sl H σ ρ0:=by
  refine ⟨h.1.trans f.1,fun i c o h1 h2=>?_⟩;rcases f.2 i c h1 with rfl | q
  · exact True.intro
  · exact h.2 i c o q h2
noncomputable def vT (H0:Hp) (σ:St) (ρ:ay):Prop:=∀ (i:Nat) (e:PyData),ρ[i]?=some (.own e)->∃ v,σ[i]?=some (some v)/\gs H0 e v
inductive Gg (X:Cx) (tn:Nat->Heap->Prop) (fp:List Addr) (a:Addr) (b:PyData->ay->Option ay) (t:ay->R Bool) (f:Fe) (ds:List PyData) (r:R (List PyData)) (H0:Hp) (ρ0:ay) (n:Nat) (s:Shared):Prop
  | mk (i:Nat) (acc:List PyData) (σ:St) (H:Hp) (vs:List V) (hn:n=ds.length-i) (hi:i<=ds.length) (hal:acc.length<=i) (I:aC X [] σ H s) (st:tn i s.heap) (fr:∀ b∈fp,H b=none) (s0:ar H0 H) (hla:H a=some (.lst vs)) (ra:aZ H acc vs) (hc:(bA b t f ρ0 (ds.drop i)>>=fun eK=>.ok (acc++eK))=r) (sl:Sl H σ ρ0) (ow:vT H0 σ ρ0)
theorem nB {X:Cx} {J:It} {tn:Nat->Heap->Prop} {it a:Addr} {fp:List Addr} {tg iter elt:Expr} {ifs:List Expr} {scope:Scope} {pos:Pos} {b:PyData->ay->Option ay} {t:ay->R Bool} {f:Fe} {ds:List PyData} {r:R (List PyData)} {Gd:Hp->Prop} {H0:Hp} {ρ0:ay}
    {Rk:Result->Shared->Prop} (T:rJ X.prog X.w X.K tg J fp it tn) (calm:X.calm=true) (hfp:∀ H:Hp,(∀ b∈fp,H b=none)->∀ b∈fp,jv X [] H b) (hxe:∀ e s',X.xe e s'->notedBy (model X.prog X.w) X.A X.env (fun x s'=>Rk (.error x) s') e s') (hX:∀ c,r=.ex c->Xw X c H0) (hno:r≠.no) (hg:mK X tg b) (ht:mW X ifs t) (hf:cm X elt f)
    (idt:yn J Gd ds) (sta:CJ H0 (fun _=>False) Gd) (hsz:ds.length<=sizeLine) (ha0:H0 a=none) (hb0:∀ d ρ1,b d ρ0=some ρ1->gu ρ0 ρ1)
    (fin:∀ xs s' σ' H' vs,r=.ok xs->aC X [] σ' H' s'->ar H0 H'->H' a=some (.lst vs)->aZ H' xs vs->Rk (.ok .next) s') :
    ∀ {s:Shared} {σ:St} {H:Hp},aC X [] σ H s->tn 0 s.heap->(∀ b∈fp,H b=none)->ar H0 H->H a=some (.lst [])->bA b t f ρ0 ds=r->Sl H σ ρ0->vT H0 σ ρ0 ->
      codeAny (model X.prog X.w) X.A (.compLoop (.ListComp elt [⟨tg,iter,ifs,0⟩] scope pos) 0 (.ref it) (.ref a) X.env) Rk s:=by
  intro s σ H I st fr s0 hla hc sl ow;refine codeAny_loop rfl (Gg X tn fp a b t f ds r H0 ρ0) (fun n s hI=>?_) ds.length ⟨0,[],σ,H,[],by simp,Nat.zero_le _,Nat.le_refl _,I,st,fr,s0,hla,aZ.nil,by rw [List.drop_zero,hc];cases r <;> rfl,sl,ow⟩;clear I st fr s0 hla hc sl ow;obtain ⟨i,acc,σ,H,vs,rfl,hi,hal,I,st,fr,s0,hla,ra,hc,sl,ow⟩:=hI;show wpAny _ X.A ((compTurn (.ListComp elt [⟨tg,iter,ifs,0⟩] scope pos) 0 (.ref it) (.ref a) X.env).onRaise (fun x=>do noteFrame x X.env;theTreesLotGoes x)) _ _ s;refine wpAny_noted ?_;rw [compTurn_list];have gd:Gd H:=sta H (Kp.of s0) fun _ _ z=>z.elim
  have noex:∀ {α:Type} {m:Sem α} {Q Q':α->Shared->Prop} {s:Shared},wpAny (model X.prog X.w) X.A m Q X.xe s->(∀ v s,Q v s->Q' v s)->wpAny (model X.prog X.w) X.A m Q' (notedBy (model X.prog X.w) X.A X.env (fun x s'=>Rk (.error x) s')) s:=fun h k =>
    wpAny_mono h k hxe
  by_cases hlt:i < ds.length
  · obtain ⟨d,hd⟩:∃ d,ds[i]?=some d:=⟨ds[i],List.getElem?_eq_getElem hlt⟩
    have hdrop:ds.drop i=d::ds.drop (i+1):=by
      rw [List.drop_eq_getElem_cons hlt];congr 1;exact Option.some.inj ((List.getElem?_eq_getElem hlt).symm.trans hd)
    rw [hdrop] at hc;unfold bA at hc;refine wpAny_bind (wpAny_standAt (wpAny_bind (cR (T.item X rfl rfl rfl calm i [] s σ H _ I (hfp H fr) st (idt.go i H gd hlt)) fun r s1 zq0=>?_)));obtain ⟨u,hr,h1⟩:=zq0;subst hr;refine wpAny_bind (cR h1 fun _ s2 zq0=>?_);obtain ⟨x,H2,I2,r2,y2,st2,fr2⟩:=zq0;obtain ⟨s02,p2⟩:=idt.yld i H x H2 d gd hd y2;have I2':=I2.pinned (hfp H2 fr2) (T.obj _ _ st2);have back:∀ {σ':St} {H':Hp} {s':Shared},aC X ([]++mi fp s2.heap) σ' H' s'->aC X [] σ' H' s'/\tn (i+1) s'.heap/\∀ b∈fp,H' b=none:=fun {σ' H' s'} J' =>
      ⟨J'.unpinned,T.keep _ _ _ st2 fun b hb o e=>(J'.pin (b,o) (List.mem_append_right _ (List.mem_append_right _ (gR hb e)))).1,fun b hb=>by
        obtain ⟨o,e,_⟩:=T.obj _ _ st2 b hb;exact (J'.pin (b,o) (List.mem_append_right _ (List.mem_append_right _ (gR hb e)))).2.1⟩
    cases eb:b d ρ0 with
    | none=>rw [eb] at hc;exact absurd hc.symm hno
    | some ρ1 =>
      rw [eb] at hc;dsimp only at hc;have hfit:=hb0 d ρ1 eb;refine wpAny_bind (noex (hg _ s2 σ H2 x u (fun σ' H'=>H'=H2/\Sl H2 σ' ρ1/\∀ (i:Nat) (e:PyData),ρ1[i]?=some (.own e)->ρ0[i]?=some (.own e)/\σ'[i]?=σ[i]?) I2' r2 ⟨ρ0,d,sl.mono s02,p2,by rw [eb];exact fun σ' sl' w'=>⟨rfl,sl',w'⟩⟩) fun _ s3 ⟨σ3,H3,I3,e3,mT,w3⟩=>?_);subst e3;have ow3:vT H0 σ3 ρ0:=fun j e h=>by
        obtain ⟨v,z1,z2⟩:=ow j e h;rcases hfit.2 j _ h with z | z
        · cases z
        · exact ⟨v,by rw [(w3 j e z).2];exact z1,z2⟩
      cases et:t ρ1 with
      | no=>rw [et] at hc;exact absurd hc.symm hno
      | ex c =>
        rw [et] at hc;exact wpAny_bind (noex (ht _ s3 σ3 H3 (fun _ _=>False) I3 ⟨ρ1,mT,by rw [et];exact (hX c hc.symm).mono (s0.trans s02)⟩) fun ok s4 ⟨H4,I4,z⟩=>z.elim)
      | ok k =>
        rw [et] at hc;refine wpAny_bind (noex (ht _ s3 σ3 H3 (fun b' H'=>b'=k/\ar H3 H') I3 ⟨ρ1,mT,by rw [et];exact fun H' s'=>⟨rfl,s'⟩⟩) fun ok s4 ⟨H4,I4,e4,s34⟩=>?_);subst e4;have s04:=(s0.trans s02).trans s34;have hla4:H4 a=some (.lst vs):=s34 _ _ (s02 _ _ hla);have ra4:aZ H4 acc vs:=(ra.mono s02).mono s34;cases ok with
        | false =>
          obtain ⟨J1,J2,J3⟩:=back I4;have hc':(bA b t f ρ0 (ds.drop (i+1))>>=fun eK=>.ok (acc++eK))=r:=hc;exact wpAny_pure ⟨rfl,ds.length-(i+1),by omega,i+1,acc,σ3,H4,vs,rfl,hlt,by omega,J1,J2,J3,s04,hla4,ra4,hc',(mT.unfit hfit).mono s34,ow3⟩
        | true =>
          have hc':((f ρ1>>=fun x=>bA b t f ρ0 (ds.drop (i+1))>>=fun xs=>.ok (x::xs))>>=fun eK=>.ok (acc++eK))=r:=hc;cases ef:f ρ1 with
          | no=>rw [ef] at hc';exact absurd hc'.symm hno
          | ex c =>
            rw [ef] at hc';exact wpAny_bind (wpAny_bind (noex (hf _ s4 σ3 H4 (fun _ _=>False) I4 ⟨ρ1,mT.mono s34,by rw [ef];exact (hX c hc'.symm).mono s04⟩) fun yv s5 ⟨v5,H5,I5,r5,z⟩=>z.elim))
          | ok y =>
              rw [ef,R.ok_bind] at hc';have hc2:(bA b t f ρ0 (ds.drop (i+1))>>=fun eK=>.ok ((acc++[y])++eK))=r:=by
                rw [<- hc'];cases bA b t f ρ0 (ds.drop (i+1)) with
                | ok eK=>simp only [R.ok_bind,List.append_assoc,List.singleton_append]
                | ex c=>rfl
                | no=>rfl
              refine wpAny_bind (wpAny_bind (noex (hf _ s4 σ3 H4 (fun v H'=>ar H4 H'/\Rp H' y v) I4 ⟨ρ1,mT.mono s34,by rw [ef];exact fun v H' s' p'=>⟨s',p'⟩⟩) fun yv s5 ⟨v5,H5,I5,r5,s45,p5⟩=>?_));have hla5:H5 a=some (.lst vs):=s45 _ _ hla4;have hlen:vs.length < sizeLine:=by
                rw [ra.length];omega
              refine wpAny_bind (noex (nQ _ s5 σ3 H5 (.ref a) [v5] (.ref a) [yv] (fun _ H'=>H'=cI H5 a (.lst (vs++[v5]))) I5 rfl (.cons r5 .nil) ⟨a,vs,v5,rfl,rfl,hla5,hlen,rfl⟩) fun _ s6 zq0=>?_);obtain ⟨v6,H6,I6,r6,e6⟩:=zq0;subst e6;obtain ⟨J1,J2,J3⟩:=back I6;have kp:Kp H5 (cI H5 a (.lst (vs++[v5]))):=gP hla5 (.inl ⟨_,rfl⟩);have s06:ar H0 (cI H5 a (.lst (vs++[v5]))):=fun b o e=>by
                rw [aA (aT e ha0)];exact (s04.trans s45) b o e
              refine wpAny_pure (wpAny_pure ⟨rfl,ds.length-(i+1),by omega,i+1,acc++[y],σ3,_,vs++[v5],rfl,hlt,by rw [List.length_append,List.length_singleton];omega,J1,J2,J3,s06,bw,?_,hc2,?_,ow3⟩)
              · exact aZ.append (aZ.kp kp _ _ (ra4.mono s45)) (aZ.cons (Rp.kp kp _ _ p5) aZ.nil)
              · have sl5:Sl H5 σ3 ρ0:=((mT.unfit hfit).mono s34).mono s45;refine ⟨sl5.1,fun j c o h1 h2=>?_⟩;cases c with
                | exc p=>exact sl5.2 j _ o h1 h2
                | non=>exact True.intro
                | val d' =>
                  obtain ⟨v',z1,z2⟩:=sl5.2 j _ o h1 h2;exact ⟨v',z1,Rp.kp kp _ _ z2⟩
                | own e' =>
                  obtain ⟨v',z1,z2⟩:=ow3 j e' h1;rw [z1] at h2;cases h2;exact ⟨v',rfl,z2.mono s06⟩
  · have e:i=ds.length:=by omega
    subst e;rw [List.drop_length] at hc;have hr':r=.ok acc:=by rw [<- hc];simp only [bA,R.ok_bind,List.append_nil]
    refine wpAny_bind (wpAny_standAt (wpAny_bind (cR (T.done X rfl rfl rfl calm _ [] s σ H _ I (hfp H fr) st (idt.stop _ H gd (Nat.le_refl _))) fun r s1 zq0=>?_)));obtain ⟨hr,I1⟩:=zq0;subst hr;exact wpAny_pure (fin acc s1 σ H vs hr' I1 s0 hla ra)
theorem gg.but {P:Program} {w:World} {H:Hp} {h1 h2:Heap} {C:Addr} (ok:gg P w H h1) (hC:H C=none) (sb:∀ b o,b≠C->h1.get? b=some o->h2.get? b=some o):gg P w H h2:=fun a o e =>
  (ok a o e).stay (fun b u hb q=>sb b u (by
    rcases hb with rfl | hb
    · exact aT e hC
    · exact aT hb hC) q) (fun _ q=>q) fun _ _ q=>q
theorem i5 {h h' base:Heap} {C:Addr} (tp:∀ b o,b≠C->h.get? b=some o->h'.get? b=some o):∀ {l:List Env},C∉jX l->h.FunFrames base l->h'.FunFrames base l
  | [],_,_=>trivial
  | env::l,hC,⟨hk,⟨L,o,hf,hn,ho,hd⟩,hr⟩=>⟨hk,⟨L,o,hf,hn,tp L o (fun z=>hC (List.mem_filterMap.mpr ⟨env,List.mem_cons_self,by rw [hf,z]⟩)) ho,hd⟩,i5 tp (fun z=>hC (by
    obtain ⟨e,he,hz⟩:=List.mem_filterMap.mp z;exact List.mem_filterMap.mpr ⟨e,List.mem_cons_of_mem _ he,hz⟩)) hr⟩
theorem jD {X:Cx} {tg iter elt:Expr} {ifs:List Expr} {sc:Scope} {pos pos':Pos} {it:ay->R (List PyData)} {b:PyData->ay->Option ay} {t:ay->R Bool} {f:Fe} {N:List Str} {own:Nat} {G G0:List Str} {fr:List Nat} {nl:Nat}
    (T:Tb X nl G0) (ck:cK sc N own G X.N fr) (hout:∀ y∈sc.names,y.2=.free->X.env.kindOf y.1=some .cell\/X.env.kindOf y.1=some .free) (hi:mC X tg iter it)
    (hb0:∀ ρ d ρ1,b d (ao own fr ρ)=some ρ1->gu (ao own fr ρ) ρ1)
    (hbody:∀ cl C s H fp E,Tb (aq X N sc cl C s H fp E) own G->mK (aq X N sc cl C s H fp E) tg b/\mW (aq X N sc cl C s H fp E) ifs t/\cm (aq X N sc cl C s H fp E) elt f)
    (hs:∀ x,foldedSetIterable iter X.env x=pure x) {use:Option (Value->Sem Unit)} {Qc:Value->Shared->Prop} {pins:List (Addr×Obj)} {s:Shared} {σ:St} {H:Hp} (I:aC X pins σ H s) {ρ:ay} {ds:List PyData} {r:R (List PyData)} (sl:Sl H σ ρ) (ei:it ρ=.ok ds)
    (hsz:ds.length<=sizeLine) (ec:bA b t f (ao own fr ρ) ds=r) (hX:∀ c,r=.ex c->Xw X c H) (hno:r≠.no) (hstk:∃ env0 outer0 L,X.stack=env0::outer0/\env0.frame=some L/\X.env.frame=some L)
    (fin:∀ (xs:List PyData) (a C:Addr) (H':Hp) (s':Shared) (m:Str->Option Value) (vs:List V),r=.ok xs->aC X pins σ H' s'->jv X pins H' C->s'.heap.Ns C m->ar H H'->H a=none->H' a=some (.lst vs)->aZ H' xs vs->compPost (model X.prog X.w) X.A X.xe use Qc (.ref a) C (.ok .next) s') :
    wpAny (model X.prog X.w) X.A (comprehension (.ListComp elt [⟨tg,iter,ifs,0⟩] sc pos) sc X.env pos' (newList []) false (eval iter X.env) use) Qc X.xe s:=by
  obtain ⟨cl,hcl,hcl1,hcl2⟩:=lI (scope:=sc) (env:=X.env) fun x hx hf=>I.ok.has _ (hout x hx hf)
  have ck':=ck;obtain ⟨ck1,ck2,ck3,_,_,_,_,_,_,ofr⟩:=ck';have hin:∀ i∈fr,i < ρ.length:=fun i hi=>by
    have e1:ρ.length=X.N.length:=by rw [<- sl.1];exact I.len
    rw [e1];obtain ⟨k,hk⟩:=List.getElem?_of_mem hi;have q:=congrArg (fun l=>l[k]?) ofr;simp only [List.getElem?_map,hk,Option.map_some] at q;cases z:(N.drop own)[k]? with
    | none=>rw [z] at q;cases q
    | some y =>
      rw [z] at q;have q':some y=X.N[i]?:=Option.some.inj q;exact (List.getElem?_eq_some_iff.mp q'.symm).1
  refine wpAny_comprehension_free (use:=use) rfl hs hcl ck1 ck3 ?_;refine cR (hi pins s σ H (fun J H1=>ar H H1/\∃ Gd,yn J Gd ds/\CJ H1 (fun _=>False) Gd) I ⟨ρ,sl,by rw [ei];exact fun J H1 s1 z=>⟨s1,z⟩⟩) fun xv s1 h1=>cR h1 fun itv s2 h2=>?_
  obtain ⟨itA,fp,tn,J,H2,e,I2,T2,st2,f2,s02,Gd,idt,sta⟩:=h2;subst e;refine wpAny_newObj_type (wpAny_newFunctionEnv ck2 (by intro y hy;simp at hy) (fun h₁ hns₁ hsb₁=>?_) ck1);dsimp only at hns₁ hsb₁ ⊢;generalize hHp:s2.heap.push { cls:=.type "list",dict:=none,data:=.seq ([]:List Value).toArray }=Hp2 at hns₁ hsb₁ ⊢;have hC:Hp2.objs.size=s2.heap.objs.size+1:=by rw [<- hHp,Heap.size_push]
  have hDC:s2.heap.objs.size≠Hp2.objs.size:=by rw [hC];exact Nat.ne_of_lt (Nat.lt_succ_self _)
  have hCle:s2.heap.objs.size<=Hp2.objs.size:=by rw [hC];exact Nat.le_succ _
  have below:∀ b,b < s2.heap.objs.size->b≠Hp2.objs.size:=fun b hb=>by rw [hC];exact Nat.ne_of_lt (Nat.lt_succ_of_lt hb)
  have old:∀ b o,s2.heap.get? b=some o->h₁.get? b=some o:=fun b o e=>hsb₁.extBut b o (below b (Heap.lt_size e)) (Heap.get?_push_of_some _ (hHp ▸ Heap.get?_push_of_some _ e))
  have hacc:h₁.get? s2.heap.objs.size=some { cls:=.type "list",dict:=none,data:=.seq ([]:List Value).toArray }:=hsb₁.extBut _ _ hDC (Heap.get?_push_of_some _ (hHp ▸ Heap.get?_push_size _ rfl));have hob:∀ b∈fp,b < s2.heap.objs.size:=fun b hb=>by
    obtain ⟨o,e,_⟩:=T2.obj _ _ st2 b hb;exact Heap.lt_size e
  have kH:Sl H2 σ ρ:=sl.mono s02;have IC:aC (aq X N sc cl Hp2.objs.size s2 H2 fp) [] (dc own fr σ) (cI H2 s2.heap.objs.size (.lst [])) { s2 with heap:=h₁,toks:=s2.toks+([]:List (Str×Value)).length } :=
    wT I2 ck f2 hob hcl1 hcl2 (fun x hx=>(T.vis x hx).1) hout (Nat.le_refl _) hCle hDC old hacc hns₁
  let E:Value->Shared->Prop:=fun e s'=>∃ c Ce pins' σ' H' s1 H1,r=.ex c/\X.mg c=some (.ref Ce)/\aC (aq X N sc cl Hp2.objs.size s2 H2 fp) pins' σ' H' s1/\ar H2 H1/\oo X.prog X.w X.stack H' s1 Ce H1 e s'
  obtain ⟨hg,ht,hf⟩:=hbody cl Hp2.objs.size s2 H2 fp E (wy T ck cl Hp2.objs.size s2 H2 fp E);have ha0:H2 s2.heap.objs.size=none:=I2.hok.fresh (Nat.le_refl _);have hfp:∀ H':Hp,(∀ b∈fp,H' b=none)->∀ b∈fp,jv (aq X N sc cl Hp2.objs.size s2 H2 fp E) [] H' b:=fun H' hn b hb =>
    ⟨hn b hb,below b (hob b hb),fun z=>by
      rcases List.mem_cons.mp (I2.stkSub b z) with y | y
      · exact (f2 b hb).2.1 y
      · exact (f2 b hb).2.2.1 y,.inl hb,fun x c e=>(f2 b hb).2.2.2.2.1 x c (hcl1 x c e),fun p hp=>absurd (show p∈([]:List (Addr×Obj)) from hp) (by simp)⟩
  have st3:tn 0 h₁:=T2.keep _ _ _ st2 fun b _ o e=>old b o e
  have slC:Sl H2 (dc own fr σ) (ao own fr ρ):=tx kH own fr hin;have fin':∀ xs s' σ' H' vs,r=.ok xs->aC (aq X N sc cl Hp2.objs.size s2 H2 fp E) [] σ' H' s'->ar H2 H'->H' s2.heap.objs.size=some (.lst vs)->aZ H' xs vs ->
      compPost (model X.prog X.w) X.A X.xe use Qc (.ref s2.heap.objs.size) Hp2.objs.size (.ok .next) s':=fun xs s' σ' H' vs hr J' s2' hv rv=>by
    obtain ⟨m,hn,_⟩:=J'.loc;exact fin xs _ _ H' s' m vs hr (I2.call' (s':=s') (ch:=fp) J'.os J'.base J'.hok J'.bare (fun b hb=>⟨(f2 b hb).2.2.2.1,(f2 b hb).2.1,(f2 b hb).2.2.2.2.1,(f2 b hb).2.2.2.2.2⟩)) (I2.fpOk hCle J'.free) hn (s02.trans s2') (s02.free ha0) hv rv
  have hXc:∀ c,r=.ex c->Xw (aq X N sc cl Hp2.objs.size s2 H2 fp E) c H2:=fun c hr H1 s1 Ce hm pins' σ' H' s1' e s' J f =>
    ⟨c,Ce,pins',σ',H',s1',H1,hr,hm,J.unwish,s1,f⟩
  have hxe:∀ e s',E e s'->notedBy (model X.prog X.w) X.A (compEnvC sc cl Hp2.objs.size X.env) (fun x s'=>compPost (model X.prog X.w) X.A X.xe use Qc (.ref s2.heap.objs.size) Hp2.objs.size (.error x) s') e s':=fun e s' hE=>by
    obtain ⟨c,Ce,pins',σ',H',s1,H1,hr,hm,J,same1,f⟩:=hE;obtain ⟨env0,outer0,L,k1,k2,k3⟩:=hstk;refine f.note k1 I.ok.frames k2 k3 fun h4 f4 up=>?_
    obtain ⟨m,hn,_⟩:=(f4.inv (X:=aq X N sc cl Hp2.objs.size s2 H2 fp) J).loc;refine ⟨m,hn,fun h5 sb cenv _=>?_⟩;have fC:=I2.fpOk hCle J.free;have fC1:H1 Hp2.objs.size=none:=(f4.inv (X:=aq X N sc cl Hp2.objs.size s2 H2 fp) J).free;have nfr:Hp2.objs.size∉jX X.stack:=fun z=>by
      rcases List.mem_cons.mp (I2.stkSub _ z) with y | y
      · exact fC.2.1 y
      · exact fC.2.2.1 y
    have Io:=I2.call' (s':=s1) (ch:=fp) J.os J.base J.hok J.bare (fun b hb=>⟨(f2 b hb).2.2.2.1,(f2 b hb).2.1,(f2 b hb).2.2.2.2.1,(f2 b hb).2.2.2.2.2⟩);have Io2:aC X pins σ H' { s1 with heap:=PySem.W.hideAll s1.heap [Hp2.objs.size],toks:=s1.toks }:=by
      obtain ⟨g0,g1,g2,g3,g4,g5⟩:=fC;exact Io.turned (t':=s1.toks) (fun b o hb q=>PySem.W.hideAll_get _ q (by simpa using hb)) g0 g1 g3 g4 g5
    obtain ⟨p,a0,B,rfl,t,gS,hp,cov⟩:=f4.ex;have stB:(PySem.W.hideAll B [Hp2.objs.size]).StaysIn B:=fun b o q=>PySem.W.of_hideAll _ q
    have hid:∀ {h:Heap} {b:Addr} {o:Obj},(PySem.W.hideAll h [Hp2.objs.size]).get? b=some o->b≠Hp2.objs.size:=fun {h b o} q z=>by
      rw [PySem.W.hideAll_none _ (by rw [z];exact List.mem_singleton.mpr rfl)] at q;cases q
    have tp:∀ b o,b≠Hp2.objs.size->h4.get? b=some o->h5.get? b=some o:=fun b o hb q=>(sb.2 b hb).trans q
    have ne_e:p≠Hp2.objs.size:=fun z=>by
      obtain ⟨oe,vs,q1,_,q2,_⟩:=t.first;obtain ⟨o,es,ep,q3,q4,_⟩:=hn;have q3':h4.get? Hp2.objs.size=some o:=q3;rw [<- z,q1] at q3';cases q3';rw [q2] at q4;cases q4
    have f5:oo X.prog X.w X.stack H' { s1 with heap:=PySem.W.hideAll s1.heap [Hp2.objs.size],toks:=s1.toks } Ce H1 (.ref p) { s' with heap:=h5 }:=by
      refine ⟨f4.os,f4.bare,f4.same,⟨p,a0,PySem.W.hideAll B [Hp2.objs.size],rfl,?_,?_,hp,fun b o q n hb=>?_⟩,fun b o q n hb=>?_⟩
      · obtain ⟨t1,t2,t3,fl,oe,vs,T',oT,ts,a1,a2,a3,a4,a5,a6,a7,a8,a9⟩:=t;refine ⟨fun b o q=>tp b o (hid q) (t1 b o (stB b o q)),PySem.W.fresh_of_stays stB t2,i5 tp nfr (PySem.W.funFrames_base stB t3),fl,oe,vs,T',oT,ts,tp _ _ ne_e a1,a2,a3,a4,PySem.W.fresh_of_stays stB a5,a6,tp _ _ ?_ a7,a8,a9⟩;intro z;obtain ⟨o,es,ep,q3,q4,_⟩:=hn;have q3':h4.get? Hp2.objs.size=some o:=q3;have a7':h4.get? T'=some oT:=a7;rw [<- z,a7'] at q3';cases q3';rw [a8] at q4;cases q4
      · exact gg.but gS fC1 fun b o hb q=>PySem.W.hideAll_get _ q (by simpa using hb)
      · obtain ⟨z1,z2⟩:=cov b o (PySem.W.of_hideAll _ q) n hb;exact ⟨PySem.W.hideAll_get _ z1 (by simpa using hid q),z2⟩
      · obtain ⟨⟨sl',z1⟩,z2⟩:=f4.slot b o (PySem.W.of_hideAll _ q) n hb;exact ⟨⟨sl',tp b _ (hid q) z1⟩,z2⟩
    refine f5.pass fun h6 f6=>?_
    exact hX c hr H1 (s02.trans same1) Ce hm pins σ H' _ _ _ Io2 f6
  have loop:=nB (X:=aq X N sc cl Hp2.objs.size s2 H2 fp E) (iter:=iter) (scope:=sc) (pos:=pos) T2 T.calm hfp hxe hXc hno hg ht hf idt sta hsz ha0 (fun d ρ1 e=>hb0 ρ d ρ1 e) fin' (IC.wish E) st3 (fun b hb=>by
      show cI H2 s2.heap.objs.size (.lst []) b=none;rw [aA (Nat.ne_of_lt (hob b hb))];exact (f2 b hb).1) (bM ha0 _) bw ec (slC.mono (bM ha0 _)) (fun i e h=>by
      obtain ⟨o,z1,v,rfl,z2⟩:=slC.at h;exact ⟨v,z1,z2⟩)
  exact codeAny_compStart_list loop (T2.self _ 0 _ _ _ st3 loop)
theorem lS {X:Cx} {tg iter elt:Expr} {ifs:List Expr} {sc:Scope} {pos:Pos} {it:ay->R (List PyData)} {b:PyData->ay->Option ay} {t:ay->R Bool} {f:Fe} {N:List Str} {own:Nat} {G G0:List Str} {fr:List Nat} {nl:Nat}
    (T:Tb X nl G0) (ck:cK sc N own G X.N fr) (hout:∀ y∈sc.names,y.2=.free->X.env.kindOf y.1=some .cell\/X.env.kindOf y.1=some .free) (hi:mC X tg iter it)
    (hb0:∀ ρ d ρ1,b d (ao own fr ρ)=some ρ1->gu (ao own fr ρ) ρ1)
    (hbody:∀ cl C s H fp E,Tb (aq X N sc cl C s H fp E) own G->mK (aq X N sc cl C s H fp E) tg b/\mW (aq X N sc cl C s H fp E) ifs t/\cm (aq X N sc cl C s H fp E) elt f)
    (hs:∀ x,foldedSetIterable iter X.env x=pure x:=by intro _;rfl) (hstk:∃ env0 outer0 L,X.stack=env0::outer0/\env0.frame=some L/\X.env.frame=some L:=by exact ⟨_,_,_,rfl,rfl,rfl⟩):jt X (.ListComp elt [⟨tg,iter,ifs,0⟩] sc pos) (aY it own fr b t f):=by
  intro pins s σ H Q I h;obtain ⟨ρ,sl,q⟩:=h;unfold aY at q;rw [eval_ListComp];cases ei:it ρ with
  | ex c=>rw [ei] at q;exact q.elim
  | no=>rw [ei] at q;exact q.elim
  | ok ds =>
    rw [ei] at q;simp only [kh,R.ok_bind] at q;split at q
    · rename_i hsz;cases ec:bA b t f (ao own fr ρ) ds with
      | no=>rw [ec] at q;exact q.elim
      | ex c =>
        rw [ec] at q;exact jD (use:=none) T ck hout hi hb0 hbody hs I sl ei hsz ec (fun c' hr=>by cases hr;exact q) (fun z=>nomatch z) hstk fun xs a C H' s' m vs hr=>by cases hr
      | ok xs =>
        rw [ec] at q;refine jD (use:=none) T ck hout hi hb0 hbody hs I sl ei hsz ec (fun c' hr=>by cases hr) (fun z=>nomatch z) hstk fun xs' a C H' s' m vs hr I' fC hn s2' ha hv rv=>?_
        cases hr;obtain ⟨f0,f1,f2,f3,f4,f5⟩:=fC;refine ⟨m,hn,fun h' sb=>⟨.ref a,H',I'.turned (t':=s'.toks) (fun b o hb e=>sb.extBut b o hb e) f0 f1 f3 f4 f5,rfl,?_⟩⟩;refine q _ H' s2' ⟨?_,_,rfl,ha⟩;simp only [gs];exact ⟨_,vs,rfl,hv,rv⟩
    · exact q.elim
theorem A8 {X:Cx} {tg iter elt:Expr} {ifs:List Expr} {sc:Scope} {pos:Pos} {it:ay->R (List PyData)} {b:PyData->ay->Option ay} {t:ay->R Bool} {f:Fe} {N:List Str} {own:Nat} {G G0:List Str} {fr:List Nat} {nl:Nat} (T:Tb X nl G0) (ck:cK sc N own G X.N fr) (hout:∀ y∈sc.names,y.2=.free->X.env.kindOf y.1=some .cell\/X.env.kindOf y.1=some .free) (hi:Z.mC X tg iter it) (hb0:∀ ρ d ρ1,b d (ao own fr ρ)=some ρ1->gu (ao own fr ρ) ρ1) (hbody:∀ cl C s H fp E,Tb (aq X N sc cl C s H fp E) own G->Z.mK (aq X N sc cl C s H fp E) tg b/\Z.mW (aq X N sc cl C s H fp E) ifs t/\Z.cm (aq X N sc cl C s H fp E) elt f) (hs:∀ x,foldedSetIterable iter X.env x=pure x:=by intro _;rfl) (hstk:∃ env0 outer0 L,X.stack=env0::outer0/\env0.frame=some L/\X.env.frame=some L:=by exact ⟨_,_,_,rfl,rfl,rfl⟩):Z.jt X (.ListComp elt [⟨tg,iter,ifs,0⟩] sc pos) (aY it own fr b t f) :=
  ⟨D2.lS T ck hout hi.un hb0 (fun cl C s H fp E T=>let ⟨q1,q2,q3⟩:=hbody cl C s H fp E T;⟨q1.un,q2.un,q3.un⟩) hs hstk⟩
theorem yZ {X:Cx} {tg iter elt:Expr} {ifs:List Expr} {sc:Scope} {pos py spos:Pos} {it:ay->R (List PyData)} {b:PyData->ay->Option ay} {t:ay->R Bool} {f:Fe} {N:List Str} {own:Nat} {G G0:List Str} {fr:List Nat} {nl:Nat} {y:Str} {i:Nat}
    (T:Tb X nl G0) (ck:cK sc N own G X.N fr) (hout:∀ y∈sc.names,y.2=.free->X.env.kindOf y.1=some .cell\/X.env.kindOf y.1=some .free) (hi:mC X tg iter it)
    (hb0:∀ ρ d ρ1,b d (ao own fr ρ)=some ρ1->gu (ao own fr ρ) ρ1)
    (hbody:∀ cl C s H fp E,Tb (aq X N sc cl C s H fp E) own G->mK (aq X N sc cl C s H fp E) tg b/\mW (aq X N sc cl C s H fp E) ifs t/\cm (aq X N sc cl C s H fp E) elt f)
    (hN:(X.N.take nl)[i]?=some y) (hsw:swapsWith (.ListComp elt [⟨tg,iter,ifs,0⟩] sc pos) (some (.Name y py)) spos.line X.env=pure true)
    (hs:∀ x,foldedSetIterable iter X.env x=pure x:=by intro _;rfl) (hstk:∃ env0 outer0 L,X.stack=env0::outer0/\env0.frame=some L/\X.env.frame=some L:=by exact ⟨_,_,_,rfl,rfl,rfl⟩):ju X (.Assign [.Name y py] (.ListComp elt [⟨tg,iter,ifs,0⟩] sc pos) spos) (gY i (aY it own fr b t f)):=fun Fm=>by
  intro pins s σ H D I h;obtain ⟨ρ,sl,q⟩:=h;unfold gY aY at q;obtain ⟨hNi,hl,hf⟩:=T.nm hN;cases ei:it ρ with
  | ex c=>rw [ei] at q;exact q.elim
  | no=>rw [ei] at q;exact q.elim
  | ok ds =>
    rw [ei] at q;simp only [kh,R.ok_bind] at q;by_cases hsz:ds.length<=sizeLine
    · rw [if_pos hsz] at q;cases ec:bA b t f (ao own fr ρ) ds with
      | no=>rw [ec] at q;exact q.elim
      | ex c =>
        rw [ec] at q;rw [exec_Assign_Name_used _ _ _ _ hsw];refine wpAny_bind (wpAny_standAt (wpAny_bind ?_));show wpAny _ X.A (do let _ <- comprehension (.ListComp elt [⟨tg,iter,ifs,0⟩] sc pos) sc X.env _ (newList []) false (eval iter X.env) (some (assign (.Name y py) X.env))) _ _ s;exact wpAny_bind (cR (jD (use:=some (assign (.Name y py) X.env)) (Qc:=fun _ s'=>False) T ck hout hi hb0 hbody hs I sl.sl ei hsz ec (fun c' hr=>by cases hr;exact q.1.mono sl.fm) (fun z=>nomatch z) hstk fun xs a C H' s' m vs hr=>by cases hr) fun _ s' hq=>hq.elim)
      | ok xs =>
        rw [ec] at q;rw [exec_Assign_Name_used _ _ _ _ hsw];refine wpAny_bind (wpAny_standAt (wpAny_bind ?_));show wpAny _ X.A (do let _ <- comprehension (.ListComp elt [⟨tg,iter,ifs,0⟩] sc pos) sc X.env _ (newList []) false (eval iter X.env) (some (assign (.Name y py) X.env))) _ _ s;refine wpAny_bind (cR (jD (use:=some (assign (.Name y py) X.env)) (Qc:=fun _ s'=>SP X pins D .next s') T ck hout hi hb0 hbody hs I sl.sl ei hsz ec (fun c' hr=>by cases hr) (fun z=>nomatch z) hstk fun xs' a C H' s' m vs hr I' fC hn s2' ha hv rv=>?_) fun _ s' hq=>wpAny_pure (wpAny_pure hq));cases hr;obtain ⟨f0,f1,f2,f3,f4,f5⟩:=fC;show wpAny _ X.A (assign (.Name y py) X.env (.ref a)) _ _ _;refine wpAny_assign_Name (n5 I' T.nd hNi hl (v:=.ref a) rfl (fun s'' I'' k=>?_) hf);have sls:gf Fm H' (σ.set i (some (.ref a))) (ρ.set i (.own (.list xs))):=gf.setOwn sl (sl.mono s2') s2' i ⟨by simp only [gs];exact ⟨a,vs,rfl,hv,rv⟩,a,rfl,ha⟩;refine ⟨m,?_,fun h' sb=>⟨_,H',I''.turned (t':=s''.toks) (fun b o hb e=>sb.extBut b o hb e) f0 f1 f3 f4 f5,q _ H' sls⟩⟩;obtain ⟨a',sb',ha'⟩:=k;refine hn.sameBut sb' ?_;rcases ha' with rfl | ha'
        · exact f1
        · exact Ne.symm (f4 y a' ha')
    · rw [if_neg hsz] at q;exact q.elim
theorem gf.freeze {Fm H:Hp} {σ:St} {ρ:ay} {i:Nat} {d:PyData} {a:Addr} {u:HO} {o:Obj} (h:gf Fm H σ ρ) (h1:ρ[i]?=some (.own d)) (h2:σ[i]?=some (some (.ref a))) (hu:H a=some u) (kp:Kp H (cI H a (.frz o u)))
    (hr:Rp (cI H a (.frz o u)) d (.ref a)):gf Fm (cI H a (.frz o u)) σ (ρ.set i (.val d)):=by
  have hFa:=h.own i d a h1 h2;refine ⟨fun b x e=>?_,⟨by rw [List.length_set];exact h.sl.1,fun j c w' e1 e2=>?_⟩,fun j e b e1 e2=>?_,fun j k e f b e1 e2 e3 e4=>?_⟩
  · rw [aA (aT e hFa)];exact h.fm b x e
  · rw [List.getElem?_set] at e1;by_cases hij:i=j
    · subst hij;rw [if_pos rfl] at e1;split at e1
      · cases e1;rw [h2] at e2;cases e2;exact ⟨_,rfl,hr⟩
      · cases e1
    · rw [if_neg hij] at e1;have q:=h.sl.2 j c w' e1 e2;cases c with
      | exc p=>exact q
      | non=>exact True.intro
      | val d'=>obtain ⟨v,z1,z2⟩:=q;exact ⟨v,z1,Rp.kp kp _ _ z2⟩
      | own d' =>
        obtain ⟨v,z1,z2⟩:=q;subst z1;obtain ⟨b,ob,rfl,hb⟩:=pb z2;have nb:b≠a:=fun z=>hij (by subst z;exact h.apart i j d d' b h1 e1 h2 e2)
        refine ⟨_,rfl,?_⟩;cases d' <;> simp only [gs] at z2 ⊢
        · obtain ⟨b',vs,e,hb',r⟩:=z2;cases e;exact ⟨b,vs,rfl,by rw [aA nb];exact hb',aZ.kp kp _ _ r⟩
        · rcases z2 with ⟨b',vs,e,hb',r⟩ | ⟨b',vs,e,hb',r⟩
          · cases e;exact .inl ⟨b,vs,rfl,by rw [aA nb];exact hb',dj.kp kp _ _ r⟩
          · cases e;exact .inr ⟨b,vs,rfl,by rw [aA nb];exact hb',mE.kp kp _ _ r⟩
  · obtain ⟨ne,e1⟩:=cw (fun e z=>by cases z) e1;exact h.own j e b e1 e2
  · obtain ⟨ne,e1⟩:=cw (fun e z=>by cases z) e1;obtain ⟨ne',e2⟩:=cw (fun e z=>by cases z) e2;exact h.apart j k e f b e1 e2 e3 e4
theorem wL {X:Cx} {pins:List (Addr×Obj)} {s:Shared} {Fm H:Hp} {σ:St} {ρ:ay} {i:Nat} {d:PyData} (I:aC X pins σ H s) (h:gf Fm H σ ρ) (h1:ρ[i]?=some (.own d)) :
    ∃ H' v,aC X pins σ H' s/\gf Fm H' σ (ρ.set i (.val d))/\σ[i]?=some (some v)/\Rp H' d v:=by
  obtain ⟨w',h2,v,rfl,q⟩:=h.sl.at h1;cases d <;> simp only [gs] at q
  · rename_i ds;obtain ⟨a,vs,rfl,ha,r⟩:=q;obtain ⟨o,J⟩:=ji I ha (.inl ⟨_,rfl⟩);have hr:Rp (cI H a (.frz o (.lst vs))) (.list ds) (.ref a):=by
      simp only [Rp];exact ⟨a,o,vs,rfl,bw,aZ.kp (gP ha (.inl ⟨_,rfl⟩)) _ _ r⟩
    exact ⟨_,_,J,h.freeze h1 h2 ha (gP ha (.inl ⟨_,rfl⟩)) hr,h2,hr⟩
  · rename_i ds;rcases q with ⟨a,vs,rfl,ha,r⟩ | ⟨a,vs,rfl,ha,r⟩
    · obtain ⟨o,J⟩:=ji I ha (.inr ⟨_,rfl⟩);have hr:Rp (cI H a (.frz o (.dK vs))) (.dict ds) (.ref a):=by
        simp only [Rp];exact .inl ⟨a,o,vs,rfl,bw,dj.kp (gP ha (.inr ⟨_,rfl⟩)) _ _ r⟩
      exact ⟨_,_,J,h.freeze h1 h2 ha (gP ha (.inr ⟨_,rfl⟩)) hr,h2,hr⟩
    · obtain ⟨o,J⟩:=kA I ha;have hr:Rp (cI H a (.frz o (.dT vs))) (.dict ds) (.ref a):=by
        simp only [Rp];exact .inr (.inr ⟨a,o,vs,rfl,bw,mE.kp (jP ha) _ _ r⟩)
      exact ⟨_,_,J,h.freeze h1 h2 ha (jP ha) hr,h2,hr⟩
theorem ju.fz {X:Cx} {st:Stmt} {i:Nat} {f:Fe} (h:ju X st (gY i f)) (hi:i < X.N.length):ju X st (cc i f):=fun Fm=>by
  intro pins s σ H D I ⟨ρ,sl,q⟩;unfold cc at q;cases ef:f ρ with
  | ex c=>rw [ef] at q;exact h Fm pins s σ H D I ⟨ρ,sl,by unfold gY;rw [ef];exact q⟩
  | no=>rw [ef] at q;exact q.elim
  | ok d =>
    rw [ef] at q;have hr:AM X Fm (gY i f) { nx:=fun σ' H'=>gf Fm H' σ' (ρ.set i (.own d)),rt:=fun _ _=>False } σ H:=⟨ρ,sl,by unfold gY;rw [ef];exact fun σ' H' s'=>s'⟩
    refine cR (h Fm pins s σ H _ I hr) fun fl s' z=>?_
    cases fl with
    | next =>
      obtain ⟨σ',H',I',sls⟩:=z;have hi':i < ρ.length:=by rw [<- sl.sl.1,I.len];exact hi
      obtain ⟨H2,v,I2,kH,_,_⟩:=wL I' sls (i:=i) (d:=d) (by rw [List.getElem?_set,if_pos rfl,if_pos hi']);rw [List.set_set] at kH;exact ⟨σ',H2,I2,q σ' H2 kH⟩
    | brk=>obtain ⟨_,_,_,z⟩:=z;exact z.elim
    | cont=>obtain ⟨_,_,_,z⟩:=z;exact z.elim
    | ret u=>obtain ⟨_,_,_,_,_,z⟩:=z;exact z.elim
theorem vW {X:Cx} {st:Stmt} {i:Nat} {f:Fe} (h:Z.ju X st (gY i f)) (hi:i < X.N.length):Z.ju X st (cc i f) :=
  ⟨D2.ju.fz h.un hi⟩
noncomputable def xQ (i:Nat):Fs:=fun ρ=>match ρ[i]? with
  | some (.own d)=>.ok (.rt d)
  | some (.val d)=>.ok (.rt d)
  | _=>.no
theorem uq {X:Cx} {nl:Nat} {G:List Str} {x:Str} {p pos:Pos} (T:Tb X nl G) (i:Nat) (hN:X.N[i]?=some x):Z.ju X (.Return (some (.Name x p)) pos) (xQ i):=⟨fun Fm=>by
  intro pins s σ H D I ⟨ρ,sl,q⟩;have hm:=T.vis x (List.mem_of_getElem? hN);unfold xQ at q;split at q
  · rename_i d e;obtain ⟨H2,v,I2,kH,h2,r⟩:=wL I sl e;exact sG (iy hN hm.1 hm.2.1 hm.2.2) pins s σ H2 D I2 ⟨v,h2,q v H2 kH.fm r⟩
  · rename_i d e;obtain ⟨o,h1,v,rfl,h2⟩:=sl.sl.at e;exact sG (iy hN hm.1 hm.2.1 hm.2.2) pins s σ H D I ⟨v,h1,q v H sl.fm h2⟩
  · exact q.elim⟩
theorem nE {X:Cx} {tg iter elt:Expr} {ifs:List Expr} {sc:Scope} {pos:Pos} {it:ay->R (List PyData)} {b:PyData->ay->Option ay} {t:ay->R Bool} {f:Fe} {N:List Str} {own:Nat} {G G0:List Str} {fr:List Nat} {nl:Nat}
    (T:Tb X nl G0) {oN:List Str} {on:List (Str×NameKind)} (hoN:X.N=oN) (hon:X.env.scope.names=on)
    (ck:cK sc N own G oN fr/\∀ y∈sc.names,y.2=.free->on.lookup y.1=some .cell\/on.lookup y.1=some .free) (hi:mC X tg iter it)
    (hb0:∀ ρ d ρ1,b d (ao own fr ρ)=some ρ1->gu (ao own fr ρ) ρ1)
    (hbody:∀ cl C s H fp E,Tb (aq X N sc cl C s H fp E) own G->mK (aq X N sc cl C s H fp E) tg b/\mW (aq X N sc cl C s H fp E) ifs t/\cm (aq X N sc cl C s H fp E) elt f)
    (hs:∀ x,foldedSetIterable iter X.env x=pure x:=by intro _;rfl) (hstk:∃ env0 outer0 L,X.stack=env0::outer0/\env0.frame=some L/\X.env.frame=some L:=by exact ⟨_,_,_,rfl,rfl,rfl⟩):jt X (.ListComp elt [⟨tg,iter,ifs,0⟩] sc pos) (aY it own fr b t f) :=
  lS T (by rw [hoN];exact ck.1) (fun y hy hf=>by unfold Env.kindOf;rw [hon];exact ck.2 y hy hf) hi hb0 hbody hs hstk
theorem bg {X:Cx} {tg iter elt:Expr} {ifs:List Expr} {sc:Scope} {pos:Pos} {it:ay->R (List PyData)} {b:PyData->ay->Option ay} {t:ay->R Bool} {f:Fe} {N:List Str} {own:Nat} {G G0:List Str} {fr:List Nat} {nl:Nat} (T:Tb X nl G0) {oN:List Str} {on:List (Str×NameKind)} (hoN:X.N=oN) (hon:X.env.scope.names=on) (ck:cK sc N own G oN fr/\∀ y∈sc.names,y.2=.free->on.lookup y.1=some .cell\/on.lookup y.1=some .free) (hi:Z.mC X tg iter it) (hb0:∀ ρ d ρ1,b d (ao own fr ρ)=some ρ1->gu (ao own fr ρ) ρ1) (hbody:∀ cl C s H fp E,Tb (aq X N sc cl C s H fp E) own G->Z.mK (aq X N sc cl C s H fp E) tg b/\Z.mW (aq X N sc cl C s H fp E) ifs t/\Z.cm (aq X N sc cl C s H fp E) elt f) (hs:∀ x,foldedSetIterable iter X.env x=pure x:=by intro _;rfl) (hstk:∃ env0 outer0 L,X.stack=env0::outer0/\env0.frame=some L/\X.env.frame=some L:=by exact ⟨_,_,_,rfl,rfl,rfl⟩):Z.jt X (.ListComp elt [⟨tg,iter,ifs,0⟩] sc pos) (aY it own fr b t f) :=
  ⟨D2.nE T hoN hon ck hi.un hb0 (fun cl C s H fp E T=>let ⟨q1,q2,q3⟩:=hbody cl C s H fp E T;⟨q1.un,q2.un,q3.un⟩) hs hstk⟩
theorem za {X:Cx} {tg iter elt:Expr} {ifs:List Expr} {sc:Scope} {pos py spos:Pos} {it:ay->R (List PyData)} {b:PyData->ay->Option ay} {t:ay->R Bool} {f:Fe} {N:List Str} {own:Nat} {G G0:List Str} {fr:List Nat} {nl:Nat} {y:Str} (i:Nat)
    (hN:(X.N.take nl)[i]?=some y) (T:Tb X nl G0) {oN:List Str} {on:List (Str×NameKind)} (hoN:X.N=oN) (hon:X.env.scope.names=on)
    (ck:cK sc N own G oN fr/\∀ y∈sc.names,y.2=.free->on.lookup y.1=some .cell\/on.lookup y.1=some .free) (hi:mC X tg iter it)
    (hb0:∀ ρ d ρ1,b d (ao own fr ρ)=some ρ1->gu (ao own fr ρ) ρ1)
    (hbody:∀ cl C s H fp E,Tb (aq X N sc cl C s H fp E) own G->mK (aq X N sc cl C s H fp E) tg b/\mW (aq X N sc cl C s H fp E) ifs t/\cm (aq X N sc cl C s H fp E) elt f)
    (hsw:swapsWith (.ListComp elt [⟨tg,iter,ifs,0⟩] sc pos) (some (.Name y py)) spos.line X.env=pure true:=by rfl)
    (hs:∀ x,foldedSetIterable iter X.env x=pure x:=by intro _;rfl) (hstk:∃ env0 outer0 L,X.stack=env0::outer0/\env0.frame=some L/\X.env.frame=some L:=by exact ⟨_,_,_,rfl,rfl,rfl⟩):ju X (.Assign [.Name y py] (.ListComp elt [⟨tg,iter,ifs,0⟩] sc pos) spos) (gY i (aY it own fr b t f)) :=
  yZ T (by rw [hoN];exact ck.1) (fun y hy hf=>by unfold Env.kindOf;rw [hon];exact ck.2 y hy hf) hi hb0 hbody hN hsw hs hstk
theorem bc {own:Nat} {fr:List Nat} {i:Nat} (h:i < own):∀ ρ d ρ1,aG i d (ao own fr ρ)=some ρ1->gu (ao own fr ρ) ρ1:=fun ρ d ρ1 e=>by
  have e':ρ1=(ao own fr ρ).set i (.val d):=(Option.some.inj e).symm;subst e';refine ⟨by rw [List.length_set],fun j c hj=>?_⟩;by_cases hij:i=j
  · subst hij;left;unfold ao at hj;rw [List.getElem?_append_left (by simpa using h),List.getElem?_replicate,if_pos h] at hj;exact (Option.some.inj hj).symm
  · right;rw [List.getElem?_set,if_neg hij];exact hj
noncomputable def sY (sc:Scope) (N G:List Str):Prop :=
  N.Nodup/\(∀ x∈N,(sc.names.lookup x=some .local\/sc.names.lookup x=some .cell)/\(x==("__debug__" : Str))=false/\(x==("__classdict__" : Str))=false)/\∀ x∈G,sc.names.lookup x=some .globalImplicit/\(x==("__debug__" : Str))=false/\x≠("__name__" : Str)
noncomputable instance {sc:Scope} {N G:List Str}:Decidable (sY sc N G):=by unfold sY;infer_instance
theorem Bk {P:Program} {w:World} {K:PySem.W.Frag} {mg:Str->Option Value} {base:Heap} {N:List Str} {qual:Str} {sc:Scope} {f:Addr} {cdv:Value} {A:Around} {outer:List Env} {s:Shared} {H:Hp} {E:XK} {G:List Str} {k:Nat}
    (hr:fB k (A.deeper (envOfC qual sc s.heap.objs.size f cdv))) (ck:sY sc N G):Tb (eR (di P w mg) P w K mg base N qual sc f cdv A outer s H E) N.length G:=by
  obtain ⟨nd,l,g⟩:=ck;refine ⟨hr.units,rfl,nd,fun x hx=>⟨?_,(l x hx).2⟩,fun x hx=>⟨?_,.inl rfl⟩,fun x hx=>?_⟩
  · rcases (l x hx).1 with q | q
    · exact .inl q
    · exact .inr (.inl q)
  · exact (l x (List.mem_of_mem_take hx)).1
  · exact g x hx
section
variable {X:Cx} {a b c:Expr} {fa fb fc:Fe} {pos:Pos}
noncomputable def s8 (X:Cx) (P:Hp->Hp->PyData->V->Prop) (r:V->Hp->VK->Prop) (g:PyData->R PyData):Prop:=∀ H x dx Q,fM H dx x->rz X P (g dx) H Q->r x H Q
theorem FF {P:Hp->Hp->PyData->V->Prop} {r:V->Hp->VK->Prop} {g:PyData->R PyData} (hP:Dn P) (hg:s8 X P r g) (σ:St) (H:Hp) (Q:VK) (h:iz X P (e1 g fa) σ H Q):Ge r (iz X pG fa) σ H Q :=
  (da (P:=pG) (k:=fun _ x=>g x) (dG (X:=X) hP Q) h).post fun v H1 ⟨_,d1,_,_,p1,q1⟩=>hg H1 v d1 Q p1 q1
noncomputable def uH:PyData->R PyData
  | .int i=>.ok (.int (-i))
  | _=>.no
theorem Cj:s8 X gh (rU fun i=>.int (-i)) uH:=fun H x dx Q hx q=>by
  unfold uH at q;split at q
  · exact ⟨_,bx hx,q _ H (ar.refl _) cC⟩
  · exact q.elim
theorem p8 (ha:Z.cQ X a fa):Z.cm X (.UnaryOp .USub a pos) (e1 uH fa):=⟨have ha:=ha.un;PE.imp (DK Cu ha) (FF dR Cj)⟩
noncomputable def gK (g g':PyData->PyData->R PyData) (fa fb fc:Fe):Fe:=fun ρ=>fa ρ>>=fun x=>fb ρ>>=fun y=>g x y>>=fun d=>qh d>>=fun k=>if k=true then fc ρ>>=fun z=>g' y z else .ok (.bool false)
theorem ql {r r':R2} {g g':PyData->PyData->R PyData} (hg:bL X gh r g) (hg':bL X gh r' g') (σ:St) (H:Hp) (Q:VK) (h:iz X gh (gK g g' fa fb fc) σ H Q) :
    sR r r' (iz X pG fa) (iz X pG fb) (iz X pG fc) σ H Q :=
  (da (P:=pG) (k:=fun ρ x=>fb ρ>>=fun y=>g x y>>=fun d=>qh d>>=fun k=>if k=true then fc ρ>>=fun z=>g' y z else .ok (.bool false)) (dG (X:=X) dR Q) h).post fun v H1 ⟨ρ1,d1,sl1,_,p1,q1⟩ =>
    (da (P:=pG) (f:=fb) (k:=fun ρ y=>g d1 y>>=fun d=>qh d>>=fun k=>if k=true then fc ρ>>=fun z=>g' y z else .ok (.bool false)) (dG (X:=X) dR Q) ⟨ρ1,sl1,q1⟩).post fun u H2 ⟨ρ2,d2,kH,s2,p2,q2⟩=>by
      refine hg H2 v u d1 d2 _ (fM.mono p1 s2) p2 ?_;cases e:g d1 d2 with
      | ex c=>rw [e] at q2;exact q2
      | no=>rw [e] at q2;exact q2
      | ok d =>
        rw [e] at q2;intro w' H3 s3 p3;have q3:rz X gh (qh d>>=fun k=>if k=true then fc ρ2>>=fun z=>g' d2 z else .ok (.bool false)) H2 Q:=q2;cases d with
        | bool k =>
          have e3:w'=.bl k:=by simpa only [Rp] using p3
          refine ⟨k,e3,?_⟩;cases k with
          | false=>exact q3 _ H3 s3 eh
          | true =>
            have q4:rz X gh (fc ρ2>>=fun z=>g' d2 z) H2 Q:=q3;exact (da (P:=pG) (f:=fc) (k:=fun _ z=>g' d2 z) (dG (X:=X) dR Q) ⟨ρ2,kH.mono s3,(dG (X:=X) dR Q).mono _ _ _ q4 s3⟩).post fun z H4 ⟨_,d4,_,s4,p4,q5⟩=>hg' H4 u z d2 d4 Q (fM.mono p2 (s3.trans s4)) p4 q5
        | none=>exact q3.elim
        | int i=>exact q3.elim
        | str i=>exact q3.elim
        | list i=>exact q3.elim
        | tuple i=>exact q3.elim
        | dict i=>exact q3.elim
theorem lA {op op':CmpOp} {r r':R2} {g g':PyData->PyData->R PyData} (ho:h8 X (compareOp op) r) (hg:bL X gh r g) (ho':h8 X (compareOp op') r') (hg':bL X gh r' g') (ha:Z.cQ X a fa) (hb:Z.cQ X b fb) (hc:Z.cQ X c fc) (hm:lastMarks [op,op'] [b,c]=false:=by with_unfolding_all rfl):Z.cm X (.Compare a [op,op'] [b,c] pos) (gK g g' fa fb fc):=⟨have ha:=ha.un;have hb:=hb.un;have hc:=hc.un;PE.imp (xt ho ho' ha hb hc hm) (ql hg hg')⟩
theorem kt {op op':CmpOp} {r r':R2} {g g':PyData->PyData->R PyData} (ho:h8 X (compareOp op) r) (hg:bL X gh r g) (ho':h8 X (compareOp op') r') (hg':bL X gh r' g') (ha:Z.cQ X a fa) (hb:Z.cQ X b fb) (hc:Z.cQ X c fc) (hm:lastMarks [op,op'] [b,c]=false:=by with_unfolding_all rfl):Z.mD X (.Compare a [op,op'] [b,c] pos) (tE (gK g g' fa fb fc)):=⟨have ha:=ha.un;have hb:=hb.un;have hc:=hc.un;PT.imp (xG ho ho' ha hb hc hm) fun σ H Q h=>ql hg hg' σ H _ (pf h)⟩
variable {es:List Expr} {fs:ay->R (List PyData)}
noncomputable def dL (fs:ay->R (List PyData)):Fe:=fun ρ=>fs ρ>>=fun ds=>if ds.length<=sizeLine then .ok (.tuple ds) else .no
noncomputable def uL (fs:ay->R (List PyData)):Fe:=fun ρ=>fs ρ>>=fun ds=>if ds.length<=sizeLine then .ok (.list ds) else .no
theorem cG {x1} (h:Z.ue X es fs):Z.cm X (.Tuple es x1 pos) (dL fs):=⟨have h:=h.un;PE.imp (BO h) fun σ H Q q=>(jc (I:=Rp) (f:=fs) (k:=fun _ ds=>if ds.length<=sizeLine then .ok (.tuple ds) else .no) (dG (X:=X) dR Q) q).post fun vs H1 ⟨_,ds,_,_,p,q1⟩=>by
    have p:=pe.mp p;split at q1
    · rename_i hz;exact ⟨by rw [p.length];exact hz,fun a ha=>q1 _ _ (bM ha _) (eL ha p)⟩
    · exact q1.elim⟩
theorem iK (h:Z.ue X es fs):Z.jt X (.List es pos) (uL fs):=⟨have h:=h.un;PE.imp (BJ h) fun σ H Q q=>(jc (I:=Rp) (f:=fs) (k:=fun _ ds=>if ds.length<=sizeLine then .ok (.list ds) else .no) (dG (X:=X) yW Q) q).post fun vs H1 ⟨_,ds,_,_,p,q1⟩=>by
    have p:=pe.mp p;split at q1
    · rename_i hz;exact ⟨by rw [p.length];exact hz,fun a ha=>q1 _ _ (bM ha _) (df ha p)⟩
    · exact q1.elim⟩
theorem qb  : Z.jt X (.Dict [] [] pos) (eC (.dict [])):=⟨PE.imp xu fun σ H Q ⟨ρ,sl,q⟩ p hp=>q _ _ (bM hp _) ⟨by simp only [gs];exact .inl ⟨p,[],rfl,bw,by simp only [dj]⟩,p,rfl,hp⟩⟩
noncomputable def bP:PyData->PyData->R PyData
  | .list ds,.int i=>match atI ds i with
    | some d=>.ok d
    | none=>.no
  | .tuple ds,.int i=>match atI ds i with
    | some d=>.ok d
    | none=>.no
  | .str z,.int i=>if z.length<=sizeLine then match atI z.cps.toList i with
    | some c=>.ok (.str ⟨#[c]⟩)
    | none=>.no else .no
  | .dict kvs,k=>if fg kvs=true then .no else match eE k with
    | some _=>match kD kvs k with
      | some d=>.ok d
      | none=>.no
    | none=>.no
  | _,_=>.no
theorem aZ.atI {H:Hp} {ds:List PyData} {vs:List V} {i:Int} {d:PyData} (r:aZ H ds vs) (e:L2.atI ds i=some d):∃ v,L2.atI vs i=some v/\Rp H d v:=by
  unfold L2.atI at e ⊢;rw [r.length];cases h:AB ds.length i with
  | none=>rw [h] at e;cases e
  | some j =>
    rw [h] at e;obtain ⟨v,e1,p⟩:=r.get (show ds[j]?=some d from e);exact ⟨v,e1,p⟩
noncomputable def DP:R2:=fun x y H Q=>∃ a v,x=.ref a/\lg H a y (some v)/\Q v H
theorem zn (hu:X.A.units+1 < cLine):yC X DP:=by
  intro value slice pins s σ H x y v u Q I rx ry h hs;obtain ⟨a,z,rfl,g,q⟩:=h;cases rx;exact tail_any (qt I g) PySem.F.slot_dict_getitem.lookup (uI hu I g ry fun w' s3 I3 rw'=>⟨z,H,I3,rw',q⟩) hs
theorem Ea:bL X gh (fun x y H Q=>DQ X.K x y H Q\/DS X.K x y H Q\/DR x y H Q\/DP x y H Q) bP:=fun H x y dx dy Q hx hy q=>by
  unfold bP at q;split at q
  · rename_i ds i;split at q
    · rename_i d e;obtain ⟨a,vs,rfl,hq,r⟩:=cU (K:=X.K) hx;obtain ⟨v,e1,p⟩:=r.atI e;exact .inl ⟨a,vs,i,v,rfl,bx hy,hq,e1,q v H (ar.refl _) p⟩
    · exact q.elim
  · rename_i ds i;split at q
    · rename_i d e;obtain ⟨a,vs,rfl,hq,r⟩:=cn hx;obtain ⟨v,e1,p⟩:=r.atI e;exact .inr (.inl ⟨a,vs,i,v,rfl,bx hy,gC.of hq,e1,q v H (ar.refl _) p⟩)
    · exact q.elim
  · rename_i z i;split at q
    · rename_i hz;split at q
      · rename_i c e;exact .inr (.inr (.inl ⟨z,i,c,gG hx,bx hy,hz,e,q _ H (ar.refl _) xP⟩))
      · exact q.elim
    · exact q.elim
  · rename_i kvs k;split at q
    · exact q.elim
    rename_i hi;split at q
    · rename_i κ e;split at q
      · rename_i d e1;obtain ⟨a,ks,rfl,h,r⟩:=jB (Bool.not_eq_true _ ▸ hi) hx;obtain ⟨o,g,_,e2⟩:=tG (κ:=κ) h r;rw [qG e] at e1;obtain ⟨v,rfl,p⟩:=e2 d e1;rw [<- tt hy e] at g;exact .inr (.inr (.inr ⟨a,v,rfl,g,q v H (ar.refl _) p⟩))
      · exact q.elim
    · exact q.elim
  · exact q.elim
theorem aI (hu:X.A.units+64 < cLine) (ha:Z.cQ X a fa) (hb:Z.cQ X b fb) (hs:sZ b):Z.cm X (.Subscript a b pos) (e2 bP fa fb):=⟨have ha:=ha.un;have hb:=hb.un;PE.imp (DH (zo.or (Bu.or (Bt.or (zn (by omega))))) ha hb hs) (EW dR Ea)⟩
variable {nl:Nat} {G:List Str} {x:Str} {p:Pos}
noncomputable def oC (X:Cx) (P:Hp->Hp->PyData->V->Prop) (r:List V->Hp->VK->Prop) (g:List PyData->R PyData):Prop:=∀ H xs ds Q,RA fM H ds xs->rz X P (g ds) H Q->r xs H Q
theorem tu {P:Hp->Hp->PyData->V->Prop} {r:List V->Hp->VK->Prop} {g:List PyData->R PyData} (hP:Dn P) (hg:oC X P r g) (σ:St) (H:Hp) (Q:VK) (h:iz X P (fun ρ=>fs ρ>>=g) σ H Q):EU r (xL X fM fs) σ H Q :=
  (jc (I:=fM) (k:=fun _=>g) (dG (X:=X) hP Q) h).post fun vs H1 ⟨_,ds,_,_,p1,q1⟩=>hg H1 vs ds Q p1 q1
noncomputable def one (g:PyData->R PyData):List PyData->R PyData
  | [d]=>g d
  | _=>.no
noncomputable def Cr (g:PyData->PyData->R PyData):List PyData->R PyData
  | [d,e]=>g d e
  | _=>.no
theorem sA (g:PyData->R PyData) (fa:Fe):(fun ρ=>ah fa az ρ>>=one g)=e1 g fa:=by
  funext ρ;unfold ah az e1;cases fa ρ <;> rfl
theorem Cs (g:PyData->PyData->R PyData) (fa fb:Fe):(fun ρ=>ah fa (ah fb az) ρ>>=Cr g)=e2 g fa fb:=by
  funext ρ;unfold ah az e2;cases fa ρ with
  | ok a=>cases fb ρ <;> rfl
  | ex c=>rfl
  | no=>rfl
theorem sP {P:Hp->Hp->PyData->V->Prop} {r:List V->Hp->VK->Prop} {g:PyData->R PyData} (h:∀ H x d Q,fM H d x->rz X P (g d) H Q->r [x] H Q):oC X P r (one g):=fun H xs ds Q ra q=>by
  unfold one at q;split at q
  · rename_i d;simp only [RA] at ra;obtain ⟨v,r',e,p,e2⟩:=ra;subst e2;subst e;exact h H v d Q p q
  · exact q.elim
theorem Cm {P:Hp->Hp->PyData->V->Prop} {r:List V->Hp->VK->Prop} {g:PyData->PyData->R PyData} (h:∀ H x y d e Q,fM H d x->fM H e y->rz X P (g d e) H Q->r [x,y] H Q):oC X P r (Cr g):=fun H xs ds Q ra q=>by
  unfold Cr at q;split at q
  · rename_i d e;simp only [RA] at ra;obtain ⟨v,r',e1,p,v',r'',e2,p',e3⟩:=ra;subst e3;subst e2;subst e1;exact h H v v' d e Q p p' q
  · exact q.elim
section
variable {P:Hp->Hp->PyData->V->Prop} {r:List V->Hp->VK->Prop} {g:PyData->R PyData} {g2:PyData->PyData->R PyData} {id ty:String}
theorem ux (T:Tb X nl G) (j:Nat) (hG:G[j]?=some x) (hm:X.mg x=none) (hP:Dn P) (hv:bootBuiltins x=some (.builtin id)) (hc:c7 X (.builtin id) r) (hg:∀ H x d Q,fM H d x->rz X P (g d) H Q->r [x] H Q) (ha:cQ X a fa)
    (he:aM a=true:=by rfl):PE X (.Call (.Name x p) [a] [] pos) (iz X P (e1 g fa)):=by
  have q:=T.gl x (List.mem_of_getElem? hG);rw [<- sA];exact PE.imp (mf hc q.1 hm hv (jJ ha oU he) q.2.2 q.2.1 (bu he)) (tu hP (sP hg))
theorem Eu (T:Tb X nl G) (j:Nat) (hG:G[j]?=some x) (hm:X.mg x=none) (hP:Dn P) (hv:bootBuiltins x=some (.type ty)) (hc:c7 X (.type ty) r) (hg:∀ H x d Q,fM H d x->rz X P (g d) H Q->r [x] H Q) (ha:cQ X a fa)
    (he:aM a=true:=by rfl):PE X (.Call (.Name x p) [a] [] pos) (iz X P (e1 g fa)):=by
  have q:=T.gl x (List.mem_of_getElem? hG);rw [<- sA];exact PE.imp (vq hc q.1 hm hv (jJ ha oU he) q.2.2 q.2.1 (bu he)) (tu hP (sP hg))
theorem CQ (T:Tb X nl G) (j:Nat) (hG:G[j]?=some x) (hm:X.mg x=none) (hP:Dn P) (hv:bootBuiltins x=some (.builtin id)) (hc:c7 X (.builtin id) r) (hg:∀ H x y d e Q,fM H d x->fM H e y->rz X P (g2 d e) H Q->r [x,y] H Q) (ha:cQ X a fa) (hb:cQ X b fb)
    (he:aM a=true:=by rfl) (he2:aM b=true:=by rfl):PE X (.Call (.Name x p) [a,b] [] pos) (iz X P (e2 g2 fa fb)):=by
  have q:=T.gl x (List.mem_of_getElem? hG);rw [<- Cs];exact PE.imp (mf hc q.1 hm hv (jJ ha (jJ hb oU he2) he) q.2.2 q.2.1 (bu he) (ri (by rw [List.all_cons,he2];rfl))) (tu hP (Cm hg))
end
end
theorem kg:fillsNumberSlot (.type "tuple") "mul" = pure false :=
  PySem.fillsNumberSlot_seq (id := "tuple.__mul__") (r:=some (.builtin "tuple.__rmul__")) F.slot_tuple_mul.lookup (by decide +kernel) F.slot_tuple_rmul.lookup (by decide +kernel)
theorem ph:seqRepeat? (.type "tuple")=pure (some (.builtin "tuple.__mul__")):=by
  unfold seqRepeat?;rw [PySem.seqSlot_of (T := "tuple") (name := "__mul__") (id := "tuple.__mul__") F.slot_tuple_mul.lookup (by decide +kernel),PySem.seqSlot_of (T := "tuple") (name := "__rmul__") (id := "tuple.__rmul__") F.slot_tuple_rmul.lookup (by decide +kernel)];rfl
theorem lV (a:Int) (t:Tok) (l:Addr) (items:Array Value) (n:Nat) (dd:Option Addr) (sl:Array (Option Value)) :
    Meets (Builtin.«int.__rmul__» ⟨[.int a t,.ref l],[]⟩) (fun _ R s=>s.heap.get? l=some { cls:=.type "tuple",dict:=dd,data:=.seq items n,slots:=sl }/\R (.ok (.ret Value.notImplemented)) s) :=
  .of_wp fun prog w A R s h=>by obtain ⟨hp,g,d,tk,os⟩:=s;obtain ⟨hl,h⟩:=h;wp_walk;exact ⟨_,rfl,h⟩
theorem sU (l:Addr) (items:Array Value) (n:Nat) (dd:Option Addr) (sl:Array (Option Value)) (x:Int) (u:Tok) (h1:2<=x) (h2:x < 2 ^ 63) (h0:¬ items.isEmpty=true) (hc1:¬ (items.size:Int)*x > (2 ^ 63-1) / 8) (hbig:Builtin.Tuple.tupleTooMany ((items.size:Int)*x)=false) (hsz:¬ (List.foldl (fun x1 x2=>x1++x2) #[] (List.replicate x.toNat items)).size > sizeLine) :
    Meets (Builtin.«tuple.__mul__» ⟨[.ref l,.int x u],[]⟩) (fun _ R s=>s.heap.get? l=some { cls:=.type "tuple",dict:=dd,data:=.seq items n,slots:=sl }/\R (.ok (.ret (Value.ref s.heap.objs.size))) { s with heap:=s.heap.push { cls:=Value.type "tuple",data:=Data.seq (List.foldl (fun x1 x2=>x1++x2) #[] (List.replicate x.toNat items)) },toks:=s.toks }) :=
  .of_wp fun prog w A R s h=>by
    obtain ⟨hp,g,d,tk,os⟩:=s;obtain ⟨hl,h⟩:=h;have f1:=AutoSeq1.idx_int;have f2:=AutoSeq1.sub_tuple_tuple;have f3:=AutoSeq1.sub_list_list;have f4:=AutoSeq1.sub_tuple_list;have f5:=AutoSeq1.sub_list_tuple;have e0:(decide (x < -2 ^ 63)||decide (x>=2 ^ 63))=false:=by
      rw [decide_eq_false (by omega),decide_eq_false (by omega)];rfl
    have e1:(items.isEmpty||x==1)=false:=by
      have:(x==1)=false:=by simp;omega
      rw [this,Bool.or_false];exact Bool.eq_false_iff.mpr h0
    have e2:(decide (x<=0)||items.isEmpty)=false:=by
      rw [decide_eq_false (by omega),Bool.false_or];exact Bool.eq_false_iff.mpr h0
    have e3:decide ((items.size:Int)*x > (2 ^ 63-1) / 8)=false:=decide_eq_false hc1;have e4:Builtin.Tuple.tupleTooMany ((items.size:Int)*x)=false:=hbig
    wp_walk using wpAny_loadPart' hl
    refine wpAny_ite_false (decide_eq_false (by rw [e0];exact Bool.false_ne_true)) ?_
    wp_walk using wpAny_loadPart' hl
    refine wpAny_ite_false (decide_eq_false (by rw [e1];exact Bool.false_ne_true)) ?_
    wp_walk using wpAny_loadPart' hl
    refine wpAny_ite_false (decide_eq_false (by rw [e2];exact Bool.false_ne_true)) ?_
    wp_walk using wpAny_loadPart' hl
    refine wpAny_ite_false e3 ?_
    wp_walk using wpAny_loadPart' hl
    exact ⟨_,rfl,h⟩
section
variable {X:Cx} {a b c:Expr} {fa fb fc:Fe} {pos:Pos} {nl:Nat} {G:List Str} {x:Str} {p:Pos}
noncomputable def AL (K:PySem.W.Frag):R2:=fun x y H Q=>∃ l k xs,x=.ref l/\y=.int k/\gC K H l xs/\xs≠[]/\2<=k/\k < 2 ^ 63/\xs.length*k.toNat<=sizeLine/\∀ p,H p=none->Q (.ref p) (cI H p (.tup (List.replicate k.toNat xs).flatten))
theorem zC:h8 X (binaryOp .Mult) (AL X.K):=by
  intro pins s σ H x y v u Q I rx ry h;obtain ⟨l,k,xs,rfl,rfl,hH,hne,h1,h2,hz,q⟩:=h;cases rx;obtain ⟨t,rfl⟩:=ry;obtain ⟨its,r,pl,hz0⟩:=I.tuple hH;obtain ⟨⟨cls,dd,data,sl⟩,e,hc,n,hd⟩:=id pl;simp only at hc hd;subst hc hd;have hl:=r.length;have hnew:List.foldl (fun x1 x2=>x1++x2) #[] (List.replicate k.toNat its.toArray)=(List.replicate k.toNat its).flatten.toArray:=by
    have:=nG its k.toNat [];rw [List.nil_append] at this;exact this
  have hlen:(List.replicate k.toNat its).flatten.length<=sizeLine:=by rw [tR,<- hl,Nat.mul_comm];exact hz
  have hprod:(its.length:Int)*k<=(sizeLine:Int):=by
    have h3:((its.length*k.toNat:Nat):Int)<=(sizeLine:Int):=by rw [<- hl];exact Int.ofNat_le.mpr hz
    have h4:((k.toNat:Nat):Int)=k:=Int.toNat_of_nonneg (by omega);rw [Int.natCast_mul,h4] at h3;exact h3
  have hcap:¬ (its.toArray.size:Int)*k > (2 ^ 63-1) / 8:=by
    rw [List.size_toArray];have hs:sizeLine=16777216:=sizeLine_eq;omega
  have hbig:Builtin.Tuple.tupleTooMany ((its.toArray.size:Int)*k)=false:=by
    unfold Builtin.Tuple.tupleTooMany;rw [List.size_toArray];exact decide_eq_false (by omega)
  refine wpAny_binaryOp_repeat_ref (T := "tuple") (U := "int") (by decide) ⟨_,e,rfl⟩ (fun s'=>typeIs_int s' k t) kg F.fills_int_mul F.slot_int_rmul ph F.slot_int_index.lookup
    (call_meets F.slot_int_rmul (typeIs_int s k t) F.entry_int_rmul (F.args_int_rmul_2 _ _) (lV k t l its.toArray n dd sl)
      ⟨e,rfl,⟨_,e,rfl⟩,call_meets F.slot_tuple_mul ⟨_,e,rfl⟩ F.entry_tuple_mul (F.args_tuple_mul_2 _ _) (sU l its.toArray n dd sl k t h1 h2 (by
        intro z;apply hne;have:its=[]:=by simpa using z
        rw [this] at hl;exact List.length_eq_zero_iff.mp hl) hcap hbig (by rw [hnew,List.size_toArray];omega)) ⟨e,?_⟩⟩)
  rw [hnew];refine ⟨.ref s.heap.objs.size,_,I.laid (t':=s.toks) (o:=.tup (List.replicate k.toNat xs).flatten) (fun b ob q=>Heap.get?_push_of_some _ q) (Nat.le_refl _) ?_,rfl,q _ (I.hok.fresh (Nat.le_refl _))⟩;exact ⟨by rw [tR,Nat.mul_comm];exact hz,_,r.rep k.toNat,fy.new _ _⟩
noncomputable def fj:PyData->PyData->R PyData
  | .int i,.int j=>if (-(2 ^ 64) < i/\i < 2 ^ 64)\/(-(2 ^ 64) < j/\j < 2 ^ 64) then .ok (.int (i*j)) else .no
  | .tuple xs,.int k=>if xs≠[]/\2<=k/\k < 2 ^ 63/\xs.length*k.toNat<=sizeLine then .ok (.tuple (List.replicate k.toNat xs).flatten) else .no
  | _,_=>.no
theorem Ci:bL X gh (fun x y H Q=>rI yz (fun i j=>.int (i*j)) x y H Q\/AL X.K x y H Q) fj:=fun H x y dx dy Q hx hy q=>by
  cases dx with
  | int i =>
    cases dy with
    | int j =>
      simp only [fj] at q;split at q
      · rename_i h;exact .inl ⟨_,_,bx hx,bx hy,h,q _ H (ar.refl _) cC⟩
      · exact q.elim
    | _=>exact q.elim
  | tuple xs =>
    cases dy with
    | int k =>
      simp only [fj] at q;split at q
      · rename_i h;obtain ⟨a,vs,rfl,ha,r⟩:=cn hx;have hl:=r.length;refine .inr ⟨a,k,vs,rfl,bx hy,gC.of ha,fun z=>h.1 ?_,h.2.1,h.2.2.1,by rw [hl];exact h.2.2.2,fun p hp=>q _ _ (bM hp _) (eL hp (r.rep _))⟩;rw [z] at hl;exact List.length_eq_zero_iff.mp hl.symm
      · exact q.elim
    | _=>exact q.elim
  | _=>exact q.elim
theorem dW (ha:Z.cQ X a fa) (hb:Z.cQ X b fb):Z.cm X (.BinOp a .Mult b pos) (e2 fj fa fb):=⟨have ha:=ha.un;have hb:=hb.un;lQ dR (BF.or zC) Ci ha hb⟩
theorem zy:h8 X (binaryOp .Add) (fun x y H Q=>∃ i j,x=.str i/\y=.str j/\i.length+j.length<=sizeLine/\Q (.str (i++j)) H):=by
  intro pins s σ H x y v u Q I rx ry h;obtain ⟨i,j,rfl,rfl,hz,q⟩:=h;obtain ⟨t,rfl⟩:=rx;obtain ⟨t',rfl⟩:=ry;exact PyProof.Rows.add_str (fun t' tk=>⟨.str (i++j),H,I.tok _,⟨_,rfl⟩,q⟩) hz
noncomputable def xI (K:PySem.W.Frag):R2:=fun x y H Q=>∃ a b ys,x=.ref a/\y=.ref b/\gC K H a []/\gC K H b ys/\Q (.ref b) H
theorem xj:h8 X (binaryOp .Add) (xI X.K):=by
  intro pins s σ H x y v u Q I rx ry h;obtain ⟨a,b,ys,rfl,rfl,ha,hb,q⟩:=h;cases rx;cases ry;obtain ⟨its,r1,p1,_⟩:=I.tuple ha;obtain ⟨its2,r2,p2,_⟩:=I.tuple hb;cases r1;obtain ⟨⟨cls,dd,data,sl⟩,ho,hc,n,hd⟩:=id p1;obtain ⟨⟨cls2,dd2,data2,kH⟩,ho2,hc2,n2,hd2⟩:=id p2;simp only at hc hd hc2 hd2;subst hc hd hc2 hd2;exact concat_meets ⟨_,ho,rfl⟩ ⟨_,ho2,rfl⟩ noFill_tuple_add seq_tuple_add PySem.F.slot_tuple_add PySem.F.entry_tuple_add (PySem.F.args_tuple_add_2 _ _)
    (tuple_addW0 a b _ its2.toArray n n2 dd dd2 sl kH (by rfl)) ⟨ho,ho2,⟨.ref b,H,I,rfl,q⟩⟩
noncomputable def AJ (K:PySem.W.Frag):R2:=fun x y H Q=>∃ l b xs zs,x=.ref l/\y=.ref b/\Rd H l (.lst xs)/\Rd H b (.lst zs)/\xs.length+zs.length<=sizeLine/\∀ p,H p=none->Q (.ref p) (cI H p (.lst (xs++zs)))
theorem zz:h8 X (binaryOp .Add) (AJ X.K):=by
  intro pins s σ H x y v u Q I rx ry h;obtain ⟨l,b,xs,zs,rfl,rfl,hH,hB,hz,q⟩:=h;cases rx;cases ry;obtain ⟨z,its,n,r,e⟩:=hH.ok I.hok;obtain ⟨z2,its2,n2,r2,e2⟩:=hB.ok I.hok;have hl:=r.length;have hl2:=r2.length;refine PySem.P.add_list e e2 ?_ (by rw [List.size_toArray,List.size_toArray];omega);have ea:its.toArray++its2.toArray=(its++its2).toArray:=by simp
  rw [ea];exact ⟨.ref _,_,I.lnew (t':=s.toks) (r.append r2) (by rw [List.length_append];omega),rfl,q _ I.fresh⟩
noncomputable def cY:PyData->PyData->R PyData
  | .int i,.int j=>.ok (.int (i+j))
  | .str x,.str y=>if x.length+y.length<=sizeLine then .ok (.str (x++y)) else .no
  | .tuple xs,.tuple ys=>if xs.length+ys.length<=sizeLine then .ok (.tuple (xs++ys)) else .no
  | .list xs,.list ys=>if xs.length+ys.length<=sizeLine then .ok (.list (xs++ys)) else .no
  | _,_=>.no
theorem oM {H:Hp} {ds:List PyData} {x:V} (h:fM H (.list ds) x):∃ a vs,x=.ref a/\Rd H a (.lst vs)/\aZ H ds vs:=by
  rcases h with h | h
  · simp only [Rp] at h;obtain ⟨a,o,vs,e,ha,r⟩:=h;exact ⟨a,vs,e,.inr ⟨o,ha⟩,r⟩
  · simp only [gs] at h;obtain ⟨a,vs,e,ha,r⟩:=h;exact ⟨a,vs,e,.inl ha,r⟩
theorem Cf:bL X EA (fun x y H Q=>yt (fun i j=>.int (i+j)) x y H Q\/(∃ i j,x=.str i/\y=.str j/\i.length+j.length<=sizeLine/\Q (.str (i++j)) H)\/AK X.K x y H Q\/xI X.K x y H Q\/AJ X.K x y H Q) cY:=fun H x y dx dy Q hx hy q=>by
  cases dx with
  | int i =>
    cases dy with
    | int j=>exact .inl ⟨_,_,bx hx,bx hy,q _ H (ar.refl _) (.inl cC)⟩
    | _=>exact q.elim
  | str i =>
    cases dy with
    | str j =>
      simp only [cY] at q;split at q
      · rename_i h;exact .inr (.inl ⟨_,_,gG hx,gG hy,h,q _ H (ar.refl _) (.inl xP)⟩)
      · exact q.elim
    | _=>exact q.elim
  | tuple xs =>
    cases dy with
    | tuple ys =>
      simp only [cY] at q;split at q
      · rename_i h;have hx':=hx;obtain ⟨a,vs,rfl,ha,r⟩:=cn hx;obtain ⟨b,us,rfl,hb,r2⟩:=cn hy;cases xs with
        | nil =>
          have:=r.nil_inv;subst this;refine .inr (.inr (.inr (.inl ⟨a,b,us,rfl,rfl,gC.of ha,gC.of hb,q _ H (ar.refl _) (.inl ?_)⟩)));simp only [Rp,List.nil_append];exact ⟨b,us,rfl,hb,r2⟩
        | cons d ds =>
          refine .inr (.inr (.inl ⟨a,b,vs,us,rfl,rfl,gC.of ha,gC.of hb,fun z=>?_,by rw [r.length,r2.length];exact h,fun z=>?_,fun _ p hp=>q _ _ (bM hp _) (.inl (eL hp (r.append r2)))⟩))
          · rw [z] at r;obtain ⟨_,_,e,_⟩:=r.cons_inv;cases e
          · have hy0:ys=[]:=by
              have:=r2.length;rw [z] at this;exact List.length_eq_zero_iff.mp this.symm
            refine q _ H (ar.refl _) (.inl ?_);rw [hy0,List.append_nil];simp only [Rp];exact ⟨a,vs,rfl,ha,r⟩
      · exact q.elim
    | _=>exact q.elim
  | list xs =>
    cases dy with
    | list ys =>
      simp only [cY] at q;split at q
      · rename_i h;obtain ⟨a,vs,rfl,ha,r⟩:=oM hx;obtain ⟨b,us,rfl,hb,r2⟩:=oM hy;exact .inr (.inr (.inr (.inr ⟨a,b,vs,us,rfl,rfl,ha,hb,by rw [r.length,r2.length];exact h,fun p hp=>q _ _ (bM hp _) (.inr (df hp (r.append r2)))⟩)))
      · exact q.elim
    | _=>exact q.elim
  | _=>exact q.elim
theorem bI (ha:Z.cQ X a fa) (hb:Z.cQ X b fb):Z.cm X (.BinOp a .Add b pos) (e2 cY fa fb):=⟨have ha:=ha.un;have hb:=hb.un;yB.e (lQ yU (BD.or (zy.or (zA.or (xj.or zz)))) Cf ha hb)⟩
end
section
variable {prog:Program} {w:World} {A:Around} {E:Value->Shared->Prop} {s:Shared}
theorem iV {t sl:Addr} {items:Array Value} {vl vu:Value} {lo hi:Option Int} {Q:Value->Shared->Prop} (ht:IsTup s.heap t items) (hs:s.heap.IsSliceOf sl vl vu .none) (pl:IsPart vl lo) (pu:IsPart vu hi)
    (hw:HT.sIx items.size 0 lo=0/\HT.sIx items.size items.size hi=items.size) (h:Q (.ref t) s):wpAny (model prog w) A (getItem (.ref t) (.ref sl)) Q E s:=by
  obtain ⟨os,hos,hcs,hds⟩:=id hs;have hTs:s.TypeIs (.ref sl) "slice" := ⟨os,hos,hcs⟩
  unfold getItem
  try with_reducible refine wpAny_holding ?_
  first | refine wpAny_bind (wpAny_pure ?_) | skip
  refine wpAny_bind (wpAny_sequenceKey ht.typeIs (by decide) ?_);refine wpAny_bind (wpAny_callSpecial?_slot (name:=Str.ofString "__getitem__") ht.typeIs PyProof.Rows.slot_tuple_getitem
    (wpAny_call_entry PyProof.Rows.slot_tuple_getitem ht.typeIs entry_tuple_getitem ?_ (args_tuple_getitem _ _)))
  show wpAny _ _ (Builtin.Tuple.tupleItemsOf (.ref t)>>=_) _ _ s;refine wpAny_bind (tupleItemsOf_ ht ?_);refine wpAny_bind (wpAny_typeOf hTs ?_);rw [if_pos (by decide)];refine wpAny_bind (HT.sliceApplied_gen hs pl pu ?_);have hyes:(((HT.sIx items.size 0 lo:Nat):Int)==0&&(1:Int)==1&&(HT.sIx items.size items.size hi-HT.sIx items.size 0 lo)==items.size)=true:=by
    rw [hw.1,hw.2];simp
  show wpAny _ _ (if (((HT.sIx items.size 0 lo:Nat):Int)==0&&(1:Int)==1&&(HT.sIx items.size items.size hi-HT.sIx items.size 0 lo)==items.size)=true then _ else _) _ _ s;rw [if_pos hyes];refine wpAny_bind (m:=Builtin.Tuple.tupleIsExact _) ?_;unfold Builtin.Tuple.tupleIsExact;refine wpAny_bind (wpAny_typeOf ht.typeIs (wpAny_pure ?_));show wpAny _ _ (if (Value.type "tuple" == Value.type "tuple")=true then _ else _) _ _ s;rw [if_pos (by decide)];refine wpAny_bind (wpAny_rule ?_)
  first
    | exact wpAny_pure ⟨_,rfl,wpAny_pure h⟩
    | exact wpAny_bind (wpAny_pure (wpAny_pure ⟨_,rfl,wpAny_pure h⟩))
end
section
variable {X:Cx} {a b c:Expr} {fa fb fc:Fe} {pos p2:Pos} {nl:Nat} {G:List Str} {x:Str} {p:Pos}
noncomputable def oQ (xs:List PyData) (lo hi:Option Int):List PyData:=(xs.drop (HT.sIx xs.length 0 lo)).take (HT.sIx xs.length xs.length hi-HT.sIx xs.length 0 lo)
theorem aZ.cut {H:Hp} {ds:List PyData} {vs:List V} (r:aZ H ds vs) (lo hi:Option Int):aZ H (oQ ds lo hi) (qp vs lo hi):=by
  unfold oQ qp;rw [r.length];exact (r.drop _).take _
noncomputable def FM (K:PySem.W.Frag):V->Option Int->Option Int->Hp->VK->Prop:=fun x lo hi H Q=>∃ a xs,x=.ref a/\gC K H a xs/\(HT.sIx xs.length 0 lo=0/\HT.sIx xs.length xs.length hi=xs.length)/\Q (.ref a) H
theorem xV:yF X (FM X.K):=by
  intro pins s σ H x v vl vu lo hi sl Q I rx hs pl pu h;obtain ⟨a,xs,rfl,hx,hw,q⟩:=h;cases rx;obtain ⟨its,r,ht,hz⟩:=I.tuple hx;have hlen:its.toArray.size=xs.length:=by rw [List.size_toArray];exact r.length.symm
  refine ⟨"tuple",_,PyProof.Rows.slot_tuple_getitem.lookup,ht.typeIs,?_⟩;exact iV ht hs pl pu (by rw [hlen];exact hw) ⟨.ref a,H,I,rfl,q⟩
theorem Cb:yF X (fun x lo hi H Q=>∃ xx,x=.str xx/\xx.length<=sizeLine/\Q (.str (Txt.slice xx lo hi)) H):=by
  intro pins s σ H x v vl vu lo hi sl Q I rx hs pl pu h;obtain ⟨xx,rfl,hz,q⟩:=h;obtain ⟨t,rfl⟩:=rx;refine ⟨"str",_,PySem.F.slot_str_getitem.lookup,typeIs_str _ _ _,?_⟩;have fin:∀ t' k,EP X pins σ Q (.str (Txt.slice xx lo hi) t') { s with toks:=k }:=fun t' k=>⟨.str _,H,I.tok k,⟨t',rfl⟩,q⟩
  cases pl with
  | none =>
    cases pu with
    | none=>exact wpAny_getItem_str_slice (l:=none) (u:=none) (st:=none) hs rfl (post_val_or_str ⟨Nat.le_trans (Txt.slice_le xx _ _) hz,fin⟩)
    | int j uj=>exact wpAny_getItem_str_slice (l:=none) (u:=some (j,uj)) (st:=none) hs rfl (post_val_or_str ⟨Nat.le_trans (Txt.slice_le xx _ _) hz,fin⟩)
  | int i ui =>
    cases pu with
    | none=>exact wpAny_getItem_str_slice (l:=some (i,ui)) (u:=none) (st:=none) hs rfl (post_val_or_str ⟨Nat.le_trans (Txt.slice_le xx _ _) hz,fin⟩)
    | int j uj=>exact wpAny_getItem_str_slice (l:=some (i,ui)) (u:=some (j,uj)) (st:=none) hs rfl (post_val_or_str ⟨Nat.le_trans (Txt.slice_le xx _ _) hz,fin⟩)
noncomputable def yo:PyData->Option Int->Option Int->R PyData
  | .str x,lo,hi=>if x.length<=sizeLine then .ok (.str (Txt.slice x lo hi)) else .no
  | .tuple xs,lo,hi=>.ok (.tuple (oQ xs lo hi))
  | .list xs,lo,hi=>.ok (.list (oQ xs lo hi))
  | _,_,_=>.no
noncomputable abbrev Fo:=ay->R (Option Int)
noncomputable def gn:Fo:=fun _=>.ok none
noncomputable def ED:PyData->R Int
  | .int i=>.ok i
  | _=>.no
noncomputable def gp (f:Fe):Fo:=fun ρ=>f ρ>>=fun d=>ED d>>=fun i=>.ok (some i)
noncomputable def xM (X:Cx) (f:Fo):TO:=fun σ H Q=>∃ ρ,Sl H σ ρ/\match f ρ with
  | .ok o=>∀ H',ar H H'->Q o H'
  | .ex c=>Xw X c H
  | .no=>False
noncomputable def Cw (X:Cx) (e:Option Expr) (f:Fo):Prop:=PO X e (xM X f)
structure Z.Cw (X:Cx) (e:Option Expr) (f:Fo):Prop where
  un:D2.Cw X e f
theorem iI  : Z.Cw X none gn:=⟨fun pins s σ H Q I ⟨ρ,sl,q⟩=>zM pins s σ H Q I (q H (ar.refl _))⟩
theorem El (Q:Option Int->Hp->Prop):yH X (fun (r:R (Option Int)) H=>match r with | .ok b=>∀ H',ar H H'->Q b H' | .ex c=>Xw X c H | .no=>False) where
  mono:=fun r H H' h s=>by
    cases r with
    | ok d=>exact fun H2 s2=>h H2 (s.trans s2)
    | ex c=>exact Xw.mono h s
    | no=>exact h
  ex:=fun c H h=>h
  no:=fun H h=>h
theorem iJ {e:Expr} {f:Fe} (h:Z.cm X e f):Z.Cw X (some e) (gp f):=⟨have h:=h.un;fun pins s σ H Q I q =>
  zN h pins s σ H Q I ((da (P:=gh) (f:=f) (k:=fun _ d=>ED d>>=fun i=>.ok (some i)) (El (X:=X) Q) q).post fun v H1 ⟨_,d,_,_,p,q1⟩=>by
    cases d with
    | int i =>
      have e1:v=.int i:=by simpa only [Rp] using p
      exact ⟨i,e1,q1 H1 (ar.refl _)⟩
    | _=>exact q1.elim)⟩
noncomputable def uM (f:Fe) (lo hi:Fo):Fe:=fun ρ=>f ρ>>=fun d=>lo ρ>>=fun l=>hi ρ>>=fun u=>yo d l u
theorem wm {β:Type} {Tg:R β->Hp->Prop} {σ:St} {H:Hp} (t:yH X Tg) {f:Fo} {k:ay->Option Int->R β} (h:∃ ρ,Sl H σ ρ/\Tg (f ρ>>=k ρ) H):xM X f σ H (fun o H1=>∃ ρ,Sl H1 σ ρ/\ar H H1/\Tg (k ρ o) H1):=by
  obtain ⟨ρ,sl,q⟩:=h;refine ⟨ρ,sl,?_⟩;cases e:f ρ with
  | ok d=>rw [e] at q;exact fun H1 s=>⟨ρ,sl.mono s,s,t.mono _ _ _ q s⟩
  | ex c=>rw [e] at q;exact t.ex _ _ q
  | no=>rw [e] at q;exact (t.no _ q).elim
theorem xM.post {f:Fo} {σ:St} {H:Hp} {Q Q':Option Int->Hp->Prop} (h:xM X f σ H Q) (i:∀ b H',Q b H'->Q' b H'):xM X f σ H Q':=by
  obtain ⟨ρ,sl,q⟩:=h;refine ⟨ρ,sl,?_⟩;cases e:f ρ with
  | ok d=>rw [e] at q;exact fun H' s=>i _ _ (q H' s)
  | ex c=>rw [e] at q;exact q
  | no=>rw [e] at q;exact q
theorem gF {lo hi:Option Expr} {fl fh:Fo} (ha:Z.cQ X a fa) (hl:Z.Cw X lo fl) (hu:Z.Cw X hi fh):Z.cm X (.Subscript a (.Slice lo hi none p2) pos) (uM fa fl fh):=⟨have ha:=ha.un;have hl:=hl.un;have hu:=hu.un;by
  refine yB.e (PE.imp (xy (xV.or (Cc.or (Ae.or Cb))) ha hl hu) fun σ H Q h=>?_);refine (da (P:=pG) (f:=fa) (k:=fun ρ d=>fl ρ>>=fun l=>fh ρ>>=fun u=>yo d l u) (dG (X:=X) yU Q) h).post fun v H1 zq0=>?_
  obtain ⟨ρ1,d1,sl1,_,p1,q1⟩:=zq0;refine (wm (f:=fl) (k:=fun ρ l=>fh ρ>>=fun u=>yo d1 l u) (dG (X:=X) yU Q) ⟨ρ1,sl1,q1⟩).post fun l H2 zq0=>?_
  obtain ⟨ρ2,kH,s2,q2⟩:=zq0;refine (wm (f:=fh) (k:=fun ρ u=>yo d1 l u) (dG (X:=X) yU Q) ⟨ρ2,kH,q2⟩).post fun u H3 zq0=>?_
  obtain ⟨ρ3,mT,s3,q3⟩:=zq0;have p3:fM H3 d1 v:=fM.mono (fM.mono p1 s2) s3;cases d1 with
  | tuple xs =>
    obtain ⟨a',vs,rfl,ha',r⟩:=cn p3;have hlen:=r.length;by_cases hw:HT.sIx vs.length 0 l=0/\HT.sIx vs.length vs.length u=vs.length
    · refine .inl ⟨a',vs,rfl,gC.of ha',hw,q3 _ H3 (ar.refl _) (.inl ?_)⟩;have e:oQ xs l u=xs:=by
        unfold oQ;rw [<- hlen,hw.1,hw.2];simp [hlen]
      rw [e];simp only [Rp];exact ⟨a',vs,rfl,ha',r⟩
    · exact .inr (.inl ⟨a',vs,rfl,gC.of ha',hw,fun p hp=>q3 _ _ (bM hp _) (.inl (eL hp (r.cut l u)))⟩)
  | list xs =>
    obtain ⟨a',vs,rfl,ha',r⟩:=cU (K:=X.K) p3;exact .inr (.inr (.inl ⟨a',vs,rfl,ha',fun p hp=>q3 _ _ (bM hp _) (.inr (df hp (r.cut l u)))⟩))
  | str xx =>
    simp only [yo] at q3;split at q3
    · rename_i hz;exact .inr (.inr (.inr ⟨xx,gG p3,hz,q3 _ H3 (ar.refl _) (.inl (by simp only [Rp]))⟩))
    · exact q3.elim
  | _=>exact q3.elim⟩
noncomputable def Fj:PyData->R PyData
  | .tuple xs=>.ok (.tuple xs.reverse)
  | _=>.no
end
section
variable {X:Cx} {a b c:Expr} {fa fb fc:Fe} {pos p2:Pos} {nl:Nat} {G:List Str} {x:Str} {p:Pos}
theorem uC:c7 X (.builtin "len") (fun xs H Q=>∃ a kvs,xs=[V.ref a]/\Rd H a (.dK kvs)/\Q (.int kvs.length) H):=by
  intro pins s σ H xs us Q I r h;obtain ⟨a,kvs,rfl,ha,q⟩:=h;obtain ⟨u,rfl,ru⟩:=eX r;cases ru;exact CW I ha fun t s' I'=>⟨.int kvs.length,H,I',⟨t,rfl⟩,q⟩
theorem dj.length {H:Hp}:∀ {kvs:List (PyData×PyData)} {ks:List (bp×V)},dj H kvs ks->ks.length=kvs.length
  | [],ks,h=>by simp only [dj] at h;rw [h];rfl
  | kd::kvs,ks,h=>by
    simp only [dj] at h;obtain ⟨x,v,r,rfl,_,t⟩:=h;rw [List.length_cons,List.length_cons,dj.length t]
noncomputable def eG:PyData->R PyData
  | .list ds=>.ok (.int ds.length)
  | .tuple ds=>.ok (.int ds.length)
  | .dict kvs=>if fg kvs=true then .no else .ok (.int kvs.length)
  | .str y=>if y.length<=sizeLine then .ok (.int y.length) else .no
  | _=>.no
theorem cT (T:Tb X nl G) (j:Nat) (hG:G[j]?=some ("len" : Str)) (hm:X.mg "len" = none) (ha:Z.cQ X a fa) (he:aM a=true:=by rfl):Z.cm X (.Call (.Name "len" p) [a] [] pos) (e1 eG fa):=⟨have ha:=ha.un;by
  refine ux T j hG hm dR PySem.boot_len (oO.or (oP.or uC)) (fun H x d Q hx q=>?_) ha he;cases d with
  | list ds =>
    obtain ⟨a',vs,rfl,h,r⟩:=cU (K:=X.K) hx;exact .inl ⟨a',vs,rfl,.inl h,by rw [r.length];exact q _ H (ar.refl _) cC⟩
  | tuple ds =>
    obtain ⟨a',vs,rfl,h,r⟩:=cn hx;exact .inl ⟨a',vs,rfl,.inr (gC.of h),by rw [r.length];exact q _ H (ar.refl _) cC⟩
  | dict kvs =>
    simp only [eG] at q;split at q
    · exact q.elim
    rename_i hi;obtain ⟨a',vs,rfl,h,r⟩:=jB (Bool.not_eq_true _ ▸ hi) hx;exact .inr (.inr ⟨a',vs,rfl,h,by rw [r.length];exact q _ H (ar.refl _) cC⟩)
  | str y =>
    simp only [eG] at q;split at q
    · rename_i hz;exact .inr (.inl ⟨y,by rw [gG hx],hz,q _ H (ar.refl _) cC⟩)
    · exact q.elim
  | _=>exact q.elim⟩
noncomputable def yR:PyData->R PyData
  | .int i=>.ok (.int i)
  | .bool k=>.ok (.int (if k then 1 else 0))
  | _=>.no
theorem ur (T:Tb X nl G) (j:Nat) (hG:G[j]?=some ("int" : Str)) (hm:X.mg "int" = none) (ha:Z.cQ X a fa) (he:aM a=true:=by rfl):Z.cm X (.Call (.Name "int" p) [a] [] pos) (e1 yR fa):=⟨have ha:=ha.un;by
  refine Eu T j hG hm dR PyProof.Rows.boot_int uB (fun H x d Q hx q=>?_) ha he;cases d with
  | int i=>exact .inl ⟨i,by rw [bx hx],q _ H (ar.refl _) cC⟩
  | bool k=>exact .inr ⟨k,by rw [qi hx],q _ H (ar.refl _) cC⟩
  | _=>exact q.elim⟩
noncomputable def Go:PyData->R PyData
  | .int i=>if i.natAbs.log2 < 1920 then .ok (.str (toString i)) else .no
  | _=>.no
noncomputable def Bg:PyData->PyData->R PyData
  | .int i,.int j=>.ok (.int (if j < i then j else i))
  | _,_=>.no
noncomputable def Bf:PyData->PyData->R PyData
  | .int i,.int j=>.ok (.int (if j > i then j else i))
  | _,_=>.no
theorem vZ (T:Tb X nl G) (j:Nat) (hG:G[j]?=some ("min" : Str)) (hm:X.mg "min" = none) (ha:Z.cQ X a fa) (hb:Z.cQ X b fb) (he:aM a=true:=by rfl) (he2:aM b=true:=by rfl):Z.cm X (.Call (.Name "min" p) [a,b] [] pos) (e2 Bg fa fb):=⟨have ha:=ha.un;have hb:=hb.un;by
  refine CQ T j hG hm dR PyProof.Rows.boot_min (uG T.calm) (fun H x y d e Q hx hy q=>?_) ha hb he he2;cases d with
  | int i =>
    cases e with
    | int j=>exact ⟨i,j,by rw [bx hx,bx hy],q _ H (ar.refl _) cC⟩
    | _=>exact q.elim
  | _=>exact q.elim⟩
theorem vY (T:Tb X nl G) (j:Nat) (hG:G[j]?=some ("max" : Str)) (hm:X.mg "max" = none) (ha:Z.cQ X a fa) (hb:Z.cQ X b fb) (he:aM a=true:=by rfl) (he2:aM b=true:=by rfl):Z.cm X (.Call (.Name "max" p) [a,b] [] pos) (e2 Bf fa fb):=⟨have ha:=ha.un;have hb:=hb.un;by
  refine CQ T j hG hm dR PyProof.Rows.boot_max (uE T.calm) (fun H x y d e Q hx hy q=>?_) ha hb he he2;cases d with
  | int i =>
    cases e with
    | int j=>exact ⟨i,j,by rw [bx hx,bx hy],q _ H (ar.refl _) cC⟩
    | _=>exact q.elim
  | _=>exact q.elim⟩
noncomputable def cA:PyData->R PyData
  | .list ds=>.ok (.tuple ds)
  | .tuple ds=>.ok (.tuple ds)
  | _=>.no
theorem bD (T:Tb X nl G) (j:Nat) (hG:G[j]?=some ("tuple" : Str)) (hm:X.mg "tuple" = none) (ha:Z.cQ X a fa) (he:aM a=true:=by rfl):Z.cm X (.Call (.Name "tuple" p) [a] [] pos) (e1 cA fa):=⟨have ha:=ha.un;by
  refine Eu T j hG hm dR PyProof.Rows.boot_tuple mO (fun H x d Q hx q=>?_) ha he;cases d with
  | list ds =>
    obtain ⟨a',vs,rfl,h,r⟩:=cU (K:=X.K) hx;exact ⟨a',vs,rfl,.inl ⟨h,fun l hl=>q _ _ (bM hl _) (eL hl r)⟩⟩
  | tuple ds =>
    obtain ⟨a',vs,rfl,h,r⟩:=cn hx;exact ⟨a',vs,rfl,.inr ⟨gC.of h,q _ H (ar.refl _) (by simp only [Rp];exact ⟨a',vs,rfl,h,r⟩)⟩⟩
  | _=>exact q.elim⟩
noncomputable def Aw:PyData->R PyData
  | .list ds=>.ok (.list ds)
  | .tuple ds=>.ok (.list ds)
  | _=>.no
inductive Ty where
  | int | bool | str | list | tuple
noncomputable def Ty.nm:Ty->String
  | .int => "int"
  | .bool => "bool"
  | .str => "str"
  | .list => "list"
  | .tuple => "tuple"
noncomputable def kX:Ty->PyData->Bool
  | .int,.int _=>true
  | .int,.bool _=>true
  | .bool,.bool _=>true
  | .str,.str _=>true
  | .list,.list _=>true
  | .tuple,.tuple _=>true
  | _,_=>false
noncomputable def cV (T:Ty):PyData->R PyData
  | .dict _=>.no
  | d=>.ok (.bool (kX T d))
theorem wt:c7 X (.builtin "isinstance") (fun xs H Q=>∃ x t T k,xs=[x,.ty T]/\jw X.K H x t/\PySem.W.kitOne X.K t (.type T)=some k/\Q (.bl k) H):=by
  intro pins s σ H xs us Q I r h;obtain ⟨x,t,T,k,rfl,ty,e,q⟩:=h;obtain ⟨u,w',rfl,rx,ry⟩:=yk r;cases ry;exact u8 I rx ty e fun tk=>⟨.bl k,H,I.tok tk,rfl,q⟩
theorem Et {K:PySem.W.Frag} {H:Hp} {d:PyData} {v:V} (h:fM H d v):(∃ kvs,d=.dict kvs)\/∃ t,jw K H v t/\∀ T:Ty,PySem.W.kitOne K t (.type T.nm)=some (kX T d):=by
  cases d with
  | none=>rw [wo h];exact .inr ⟨_,.non,fun T=>by cases T <;> rfl⟩
  | bool k=>rw [qi h];exact .inr ⟨_,.bl k,fun T=>by cases T <;> rfl⟩
  | int i=>rw [bx h];exact .inr ⟨_,.int i,fun T=>by cases T <;> rfl⟩
  | str y=>rw [gG h];exact .inr ⟨_,.str y,fun T=>by cases T <;> rfl⟩
  | tuple ds=>obtain ⟨a,vs,rfl,ha,_⟩:=cn h;exact .inr ⟨_,.tup ha,fun T=>by cases T <;> rfl⟩
  | list ds =>
    obtain ⟨a,vs,rfl,ha,_⟩:=oM h;rcases ha with ha | ⟨o,ha⟩
    · exact .inr ⟨_,.lst ha,fun T=>by cases T <;> rfl⟩
    · exact .inr ⟨_,.frz ha,fun T=>by cases T <;> rfl⟩
  | dict kvs=>exact .inl ⟨kvs,rfl⟩
theorem rY (ty:Ty) {y:Str} {py:Pos} (T:Tb X nl G) (j:Nat) (hG:G[j]?=some ("isinstance" : Str)) (hm:X.mg "isinstance" = none) (hy:bootBuiltins y=some (.type ty.nm)) (T':Tb X nl G) (j':Nat) (hG':G[j']?=some y) (hm':X.mg y=none) (ha:cQ X a fa)
    (he:aM a=true:=by rfl):cm X (.Call (.Name "isinstance" p) [a,.Name y py] [] pos) (e1 (cV ty) fa):=by
  have g:=T.gl _ (List.mem_of_getElem? hG);have g':=T.gl _ (List.mem_of_getElem? hG');have hp:PE X (.Name y py) (tC (.ty ty.nm)):=zG g'.1 hm' hy rfl g'.2.2 g'.2.1;refine PE.imp (mf wt g.1 hm PyProof.Rows.boot_isinstance (pc ha (pc hp xr) (bu he)) g.2.2 g.2.1 (bu he)) fun σ H Q h=>?_
  refine (da (P:=pG) (f:=fa) (k:=fun _ d=>cV ty d) (dG (X:=X) dR Q) h).post fun v H1 zq0=>?_
  obtain ⟨_,d,_,_,p1,q1⟩:=zq0;show ∃ x t T k,_/\_/\_/\_;rcases Et (K:=X.K) p1 with ⟨kvs,rfl⟩ | ⟨t,ht,hk⟩
  · exact q1.elim
  · refine ⟨v,t,ty.nm,kX ty d,rfl,ht,hk ty,?_⟩;cases d with
    | dict kvs=>exact q1.elim
    | _=>exact q1 _ H1 (ar.refl _) eh
theorem gE {py:Pos} (T:Tb X nl G) (j:Nat) (hG:G[j]?=some ("isinstance" : Str)) (hm:X.mg "isinstance" = none) (T':Tb X nl G) (j':Nat) (hG':G[j']?=some ("int" : Str)) (hm':X.mg "int" = none) (ha:Z.cQ X a fa) (he:aM a=true:=by rfl):Z.cm X (.Call (.Name "isinstance" p) [a,.Name "int" py] [] pos) (e1 (cV .int) fa):=⟨have ha:=ha.un;rY .int T j hG hm PyProof.Rows.boot_int T' j' hG' hm' ha he⟩
theorem fY {py:Pos} (T:Tb X nl G) (j:Nat) (hG:G[j]?=some ("isinstance" : Str)) (hm:X.mg "isinstance" = none) (T':Tb X nl G) (j':Nat) (hG':G[j']?=some ("bool" : Str)) (hm':X.mg "bool" = none) (ha:Z.cQ X a fa) (he:aM a=true:=by rfl):Z.cm X (.Call (.Name "isinstance" p) [a,.Name "bool" py] [] pos) (e1 (cV .bool) fa):=⟨have ha:=ha.un;rY .bool T j hG hm PyProof.Rows.boot_bool T' j' hG' hm' ha he⟩
theorem dU {py:Pos} (T:Tb X nl G) (j:Nat) (hG:G[j]?=some ("isinstance" : Str)) (hm:X.mg "isinstance" = none) (T':Tb X nl G) (j':Nat) (hG':G[j']?=some ("tuple" : Str)) (hm':X.mg "tuple" = none) (ha:Z.cQ X a fa) (he:aM a=true:=by rfl):Z.cm X (.Call (.Name "isinstance" p) [a,.Name "tuple" py] [] pos) (e1 (cV .tuple) fa):=⟨have ha:=ha.un;rY .tuple T j hG hm PyProof.Rows.boot_tuple T' j' hG' hm' ha he⟩
noncomputable def lD:List PyData->Option Bool
  | []=>some true
  | .bool k::ds=>(lD ds).map fun r=>k&&r
  | _=>none
noncomputable def oR:PyData->R PyData
  | .list ds=>match lD ds with
    | some k=>.ok (.bool k)
    | none=>.no
  | _=>.no
end
section
variable {X:Cx} {tg a b c:Expr} {fa fb fc:Fe} {pos p2:Pos} {nl:Nat} {G:List Str} {x:Str} {p:Pos} {fs:ay->R (List PyData)} {es:List Expr}
noncomputable def jr:PyData->R (List PyData)
  | .list ds=>.ok ds
  | .tuple ds=>.ok ds
  | _=>.no
noncomputable def dt (f:Fe):ay->R (List PyData):=fun ρ=>f ρ>>=jr
theorem wW {K:PySem.W.Frag} {a:Addr} {ds:List PyData}:yn (E0 K a) (fun H=>∃ o vs,H a=some (.frz o (.lst vs))/\aZ H ds vs) ds where
  go:=fun i H ⟨o,vs,h,r⟩ hi=>by
    have hl:=r.length;exact ⟨vs,vs[i],.inl (.inr ⟨o,h⟩),List.getElem?_eq_getElem (by omega)⟩
  yld:=fun i H x H' d ⟨o,vs,h,r⟩ hd ⟨e,y⟩=>by
    subst e;obtain ⟨v,e1,p⟩:=r.get hd;have:=y vs (.inl (.inr ⟨o,h⟩));rw [e1] at this;cases this;exact ⟨ar.refl _,p⟩
  stop:=fun i H ⟨o,vs,h,r⟩ hi=>⟨vs,.inl (.inr ⟨o,h⟩),by rw [r.length];exact hi⟩
theorem zl {K:PySem.W.Frag} {a:Addr} {ds:List PyData}:yn (E1 K a) (fun H=>∃ vs,H a=some (.tup vs)/\aZ H ds vs) ds where
  go:=fun i H ⟨vs,h,r⟩ hi=>by
    have hl:=r.length;exact ⟨vs,vs[i],gC.of h,List.getElem?_eq_getElem (by omega)⟩
  yld:=fun i H x H' d ⟨vs,h,r⟩ hd ⟨e,y⟩=>by
    subst e;obtain ⟨v,e1,p⟩:=r.get hd;have:=y vs (gC.of h);rw [e1] at this;cases this;exact ⟨ar.refl _,p⟩
  stop:=fun i H ⟨vs,h,r⟩ hi=>⟨vs,gC.of h,by rw [r.length];exact hi⟩
noncomputable def Gu (K:PySem.W.Frag) (tl:TE):TI:=fun σ H R=>tl σ H fun x H1=>∃ a,x=.ref a/\((∃ xs,kQ K H1 a xs/\R (E0 K a) H1)\/∃ xs,gC K H1 a xs/\R (E1 K a) H1)
theorem DM {l:Expr} {tl:TE} (hl:PE X l tl):PI X tg l (Gu X.K tl):=by
  intro pins s σ H R I h;refine cR (hl pins s σ H _ I h) fun v s1 zq0=>?_
  obtain ⟨x,H1,I1,r1,q1⟩:=zq0;obtain ⟨a,e,q⟩:=q1;subst e;cases r1;rcases q with ⟨xs,hq,q⟩ | ⟨xs,hq,q⟩
  · obtain ⟨its,rv,p,hz⟩:=I1.list hq;refine wpAny_pyIter_list p.isList ?_;refine ⟨s1.heap.objs.size,[s1.heap.objs.size],_,_,H1,rfl,I1.kept (t':=s1.toks) fun b o e=>Heap.get?_push_of_some _ e,vI a _,⟨_,Heap.get?_push_size _ rfl,rfl,rfl⟩,fun b hb=>?_,q⟩;have e:b=s1.heap.objs.size:=by simpa using hb
    subst e;exact I1.fpOk (Nat.le_refl _) (I1.hok.fresh (Nat.le_refl _))
  · obtain ⟨its,rv,p,hz⟩:=I1.tuple hq;refine wpAny_pyIter_tuple (show s1.heap.IsTuple a its.toArray from p) ?_;refine ⟨s1.heap.objs.size,[s1.heap.objs.size],_,_,H1,rfl,I1.kept (t':=s1.toks) fun b o e=>Heap.get?_push_of_some _ e,sW a _,⟨_,Heap.get?_push_size _ rfl,rfl,rfl⟩,fun b hb=>?_,q⟩;have e:b=s1.heap.objs.size:=by simpa using hb
    subst e;exact I1.fpOk (Nat.le_refl _) (I1.hok.fresh (Nat.le_refl _))
theorem AU (Rk:It->Hp->Prop):yH X (fun (r:R (List PyData)) H=>match r with | .ok ds=>∀ J H',ar H H'->(∃ Gd,yn J Gd ds/\CJ H' (fun _=>False) Gd)->Rk J H' | .ex c=>Xw X c H | .no=>False) where
  mono:=fun r H H' h s=>by
    cases r with
    | ok d=>exact fun J H2 s2=>h J H2 (s.trans s2)
    | ex c=>exact Xw.mono h s
    | no=>exact h
  ex:=fun c H h=>h
  no:=fun H h=>h
theorem br (ha:Z.cm X a fa):Z.mC X tg a (dt fa):=⟨have ha:=ha.un;PI.imp (DM ha) fun σ H Rk h=>(da (P:=gh) (f:=fa) (k:=fun _=>jr) (AU (X:=X) Rk) h).post fun v H1 ⟨_,d,_,_,p1,q1⟩=>by
    cases d with
    | list ds =>
      simp only [Rp] at p1;obtain ⟨a',o,vs,rfl,h,r⟩:=p1;exact ⟨a',rfl,.inl ⟨vs,.inl (.inr ⟨o,h⟩),q1 _ H1 (ar.refl _) ⟨_,wW,fun H2 k _=>⟨o,vs,k.2 _ _ _ h,aZ.kp k _ _ r⟩⟩⟩⟩
    | tuple ds =>
      simp only [Rp] at p1;obtain ⟨a',vs,rfl,h,r⟩:=p1;exact ⟨a',rfl,.inr ⟨vs,gC.of h,q1 _ H1 (ar.refl _) ⟨_,zl,fun H2 k _=>⟨vs,k.1 _ _ h,aZ.kp k _ _ r⟩⟩⟩⟩
    | _=>exact q1.elim⟩
noncomputable def ci (lo:Int) (n:Nat):List PyData:=(List.range n).map fun (k:Nat)=>.int (lo+k)
noncomputable def qZ:List PyData->R (List PyData)
  | [.int j]=>if -(2 ^ 62)<=j/\j < 2 ^ 62 then .ok (ci 0 j.toNat) else .no
  | [.int i,.int j]=>if -(2 ^ 62)<=i/\i < 2 ^ 62/\-(2 ^ 62)<=j/\j < 2 ^ 62 then .ok (ci i (j-i).toNat) else .no
  | _=>.no
noncomputable def ff (fs:ay->R (List PyData)):ay->R (List PyData):=fun ρ=>fs ρ>>=qZ
theorem va {lo:Int} {n:Nat}:yn (Ey lo n) (fun _=>True) (ci lo n) where
  go:=fun i H _ hi=>by
    show i < n;simpa [ci] using hi
  yld:=fun i H x H' d _ hd ⟨e,y⟩=>by
    subst e;subst y;refine ⟨ar.refl _,?_⟩;unfold ci at hd;rw [List.getElem?_map] at hd;cases h:(List.range n)[i]? with
    | none=>rw [h] at hd;cases hd
    | some k =>
      rw [h] at hd;have hk:k=i:=by
        rw [List.getElem?_range] at h
        · exact (Option.some.inj h).symm
        · have:=(List.getElem?_eq_some_iff.mp h).1;simpa using this
      subst hk;cases hd;exact cC
  stop:=fun i H _ hi=>by
    show n<=i;simpa [ci] using hi
theorem dM (T:Tb X nl G) (j:Nat) (hG:G[j]?=some ("range" : Str)) (hm:X.mg "range" = none) (ha:Z.ue X [a] fs) (hl:∀ ρ ds,fs ρ=.ok ds->ds.length=1) (hs:aM a=true:=by rfl):Z.mC X tg (.Call (.Name "range" p) [a] [] pos) (ff fs):=⟨have ha:=ha.un;PI.imp (vw (T.gl _ (List.mem_of_getElem? hG)).1 hm ha (bu hs)) fun σ H Rk ⟨ρ,sl,q⟩=>by
    refine ⟨ρ,sl,?_⟩;dsimp only [ff] at q;cases e:fs ρ with
    | ex c=>rw [e] at q;exact q
    | no=>rw [e] at q;exact q
    | ok ds =>
      rw [e] at q;have hlen:=hl ρ ds e;intro vs H1 s1 r1
      match ds,hlen with
      | [d],_ =>
        simp only [RA] at r1;obtain ⟨v,r',rfl,p1,rfl⟩:=r1;cases d with
        | int j =>
          have ev:v=.int j:=by simpa only [Rp] using p1
          subst ev;by_cases hz:-(2 ^ 62)<=j/\j < 2 ^ 62
          · have e2:qZ [.int j]=.ok (ci 0 j.toNat):=if_pos hz;rw [R.ok_bind,e2] at q;exact ⟨j,rfl,hz.1,hz.2,q _ H1 s1 ⟨_,va,fun _ _ _=>True.intro⟩⟩
          · have e2:qZ [.int j]=.no:=if_neg hz;rw [R.ok_bind,e2] at q;exact q.elim
        | _=>exact q.elim⟩
end
noncomputable def sg (x:Int):List Int->List Int
  | []=>[x]
  | y::r=>if x<=y then x::y::r else y::sg x r
noncomputable def c6:List Int->List Int
  | []=>[]
  | x::r=>sg x (c6 r)
theorem kf (x:Int):∀ l,(sg x l).Perm (x::l)
  | []=>List.Perm.refl _
  | y::r=>by
    unfold sg;split
    · exact List.Perm.refl _
    · exact ((kf x r).cons y).trans (List.Perm.swap x y r)
theorem dh:∀ l,(c6 l).Perm l
  | []=>List.Perm.refl _
  | x::r=>(kf x (c6 r)).trans ((dh r).cons x)
theorem kz (x:Int):∀ l,l.Pairwise (·<=·)->(sg x l).Pairwise (·<=·)
  | [],_=>by unfold sg;exact List.pairwise_singleton _ _
  | y::r,h=>by
    have h':=List.pairwise_cons.mp h;unfold sg;split
    · rename_i hxy;refine List.pairwise_cons.mpr ⟨fun z hz=>?_,h⟩;rcases List.mem_cons.mp hz with rfl | hz
      · exact hxy
      · exact Int.le_trans hxy (h'.1 z hz)
    · rename_i hxy;refine List.pairwise_cons.mpr ⟨fun z hz=>?_,kz x r h'.2⟩;rcases List.mem_cons.mp ((kf x r).mem_iff.mp hz) with rfl | hz
      · omega
      · exact h'.1 z hz
theorem fw:∀ l,(c6 l).Pairwise (·<=·)
  | []=>List.Pairwise.nil
  | x::r=>kz x _ (fw r)
theorem iF {a b:List Int} (hp:a.Perm b) (hs:a.Pairwise (·<=·)):a=c6 b:=PySem.W.ksm_same (hp.trans (dh b).symm) hs (fw b)
section
variable {prog:Program} {w:World} {A:Around} {E:Value->Shared->Prop} {s:Shared}
theorem rh {d:Addr} {kvs:List (bp×Value)} {ns:List Int} {Q:Value->Shared->Prop} (hh:A.handled=none) (lo:(d==sysModules)=false) (hd:s.heap.DictOf (cx prog w) d kvs) (hk:kvs.map (·.1)=ns.map Sum.inl) (h64:ns.length < 64)
    (h:∀ (D:Addr) (h':Heap) (tk:Nat) (vs:List Value) (e:Nat),s.heap.get? D=none->(∀ b o,s.heap.get? b=some o->h'.get? b=some o)->h'.get? D=some (seqObj "list" vs.toArray e)->IntsAre vs (c6 ns)->Q (.ref D) { s with heap:=h',toks:=tk }) :
    wpAny (model prog w) A (call (.builtin "sorted") [.ref d]) Q E s:=by
  obtain ⟨ep,hat⟩:=hd.dictAt;have hlen:kvs.length=ns.length:=by have:=congrArg List.length hk;simpa using this
  have hn:kvs.length<=sizeLine:=by rw [sizeLine_eq];omega
  refine Calls.call_function_entry kind_sorted plain_sorted entry_sorted (args_sorted1 _) ?_;unfold Builtin.«sorted»;refine wpAny_bind (m:=checkCount "sorted" 1 1 _) (wpAny_pure ?_);refine wpAny_bind (PySem.W.kdu_collect (A:=A.in1) (PySem.W.kdl_dict (knd:=cx prog w) (kvs:=kvs) (ep:=ep) lo) hh hat hn fun h1 tk acc hk1 hacc=>?_);have hl:acc.toList.length=kvs.length:=by rw [Array.length_toList];exact hacc.1
  have hI:IntsAre acc.toList ns:=by
    have key:∀ (l:List Value) (ms:List Int) (k:Nat),l.length=ms.length->(∀ (j:Nat) (v:Value),l[j]?=some v->∃ n:Int,ms[j]?=some n/\∃ t,v=Value.int n t)->IntsAre l ms:=by
      intro l;induction l with
      | nil=>intro ms k e _;have:ms=[]:=List.length_eq_zero_iff.mp e.symm;subst this;exact .nil
      | cons v r ih =>
        intro ms k e hv;cases ms with
        | nil=>cases e
        | cons n ms =>
          obtain ⟨n',e1,t,rfl⟩:=hv 0 v rfl;have:n=n':=Option.some.inj e1;subst this;exact .cons n t (ih ms (k+1) (by simpa using e) fun j u hu=>hv (j+1) u (by simpa using hu))
    refine key acc.toList ns 0 (by rw [hl,hlen]) fun j v hv=>?_
    obtain ⟨κ,x,hx,his⟩:=hacc.2 j v (by rw [<- Array.getElem?_toList];exact hv);have e1:(kvs.map (·.1))[j]?=some κ:=by rw [List.getElem?_map,hx];rfl
    rw [hk,List.getElem?_map] at e1;cases e2:ns[j]? with
    | none=>rw [e2] at e1;cases e1
    | some n =>
      rw [e2] at e1;have e3:Sum.inl n=κ:=Option.some.inj e1;subst e3;rcases cg (show lY (Sum.inl n) v=true from his) with ⟨i,t,e4,e5⟩ | ⟨y,t,e4,_⟩
      · cases e4;exact ⟨n,rfl,t,e5⟩
      · cases e4
  refine wpAny_bind (wpAny_newList ?_ (by rw [hl];exact hn));have hoL:(h1.push (seqObj "list" acc.toList.toArray 0)).get? h1.objs.size=some (seqObj "list" acc.toList.toArray 0):=Heap.get?_push_size _ rfl;show wpAny _ _ _ _ _ { s with heap:=h1.push (seqObj "list" acc.toList.toArray 0),toks:=tk };refine wpAny_bind (wpAny_holding (wpAny_call_entry slot_list_sort ⟨_,hoL,rfl⟩ entry_list_sort (list_sort_tree hoL hI (by rw [hl,hlen];exact h64) fun out ns' a1 a2 a3=>⟨_,rfl,?_⟩) (args_list_sort _)));refine wpAny_pure ⟨_,rfl,?_⟩;obtain ⟨e,he⟩:=sortedHeap_at (out:=out) hoL;have hsz:s.heap.get? h1.objs.size=none:=by
    cases q:s.heap.get? h1.objs.size with
    | none=>rfl
    | some o=>exact absurd (Heap.lt_size (hk1 _ _ q)) (Nat.lt_irrefl _)
  refine h h1.objs.size _ tk out.toList e hsz (fun b o q=>?_) he (by rw [iF a2 a3] at a1;exact a1);have q1:=hk1 b o q;have hlt:b < h1.objs.size:=Heap.lt_size q1;show (sortedHeap (h1.push (seqObj "list" acc.toList.toArray 0)) h1.objs.size acc.toList out).get? b=some o;rw [sortedHeap_old (Nat.ne_of_lt hlt) (by rw [size_push'];exact Nat.lt_succ_of_lt hlt)];exact Heap.get?_push_of_some _ q1
end
theorem Al {fs ex:List Addr} {H:Hp} {h h':Heap} {a:Addr} {o:HO} (k:∀ b u,h.get? b=some u->h'.get? b=some u) (hg:h.get? a=none) (hn:H a=none):Un fs ex H (cI H a o) h h':=by
  have ne:∀ {b:Addr} {u:Obj},h.get? b=some u->b≠a:=fun e z=>by subst z;rw [hg] at e;cases e
  exact ⟨fun b u q _ _ _=>k b u q,fun b u q _ _ _=>⟨u.slots,k b u q⟩,fun b u q n _=>by rw [aA (ne q)];exact n,fun b u q _=>⟨u,k b u q⟩,fun b xs q=>by rw [aA (aT q hn)];exact q,fun b u xs q=>by rw [aA (aT q hn)];exact q,
    fun b ps q=>⟨#[],by rw [aA (aT q hn),q];simp⟩⟩
theorem qE {X:Cx} {pins:List (Addr×Obj)} {σ:St} {H:Hp} {s:Shared} {h':Heap} {a:Addr} {o:HO} {t':Nat} (I:aC X pins σ H s) (k:∀ b u,s.heap.get? b=some u->h'.get? b=some u) (hg:s.heap.get? a=none) (hn:H a=none)
    (new:bG X.prog X.w (cI H a o) h' a o):aC X pins σ (cI H a o) { s with heap:=h',toks:=t' }:=by
  refine I.un (Al k hg hn) fun b u e=>?_
  by_cases hb:b=a
  · subst hb;rw [bw] at e;cases e;exact new
  · rw [aA hb] at e;exact (I.hok b u e).stay (fun c v _ q=>k c v q) (fun c q=>by rw [aA (aT q hn)];exact q) fun c xs q=>by rw [aA (aT q hn)];exact q
theorem qF {X:Cx} {pins:List (Addr×Obj)} {σ:St} {H:Hp} {s:Shared} {a:Addr} (I:aC X pins σ H s) (hg:s.heap.get? a=none):H a=none:=by
  cases q:H a with
  | none=>rfl
  | some o=>obtain ⟨u,e⟩:=sy (I.hok a o q);rw [hg] at e;cases e
section
variable {X:Cx} {a b c:Expr} {fa fb fc:Fe} {pos p2:Pos} {nl:Nat} {G:List Str} {x:Str} {p:Pos}
noncomputable def bz:List PyData->Option (List Int)
  | []=>some []
  | .int i::ds=>(bz ds).map fun r=>i::r
  | _=>none
theorem cP:∀ {ds:List PyData} {ns:List Int},bz ds=some ns->ds=ns.map PyData.int
  | [],ns,h=>by cases h;rfl
  | d::ds,ns,h=>by
    cases d with
    | int i =>
      simp only [bz] at h;cases e:bz ds with
      | none=>rw [e] at h;cases h
      | some r =>
        rw [e] at h;cases h;rw [List.map_cons,cP e]
    | _=>cases h
theorem bR:∀ ns:List Int,bz (ns.map PyData.int)=some ns
  | []=>rfl
  | n::ns=>by simp only [List.map_cons,bz,bR ns,Option.map_some]
noncomputable def jF:PyData->R PyData
  | .list ds=>match bz ds with
    | some ns=>if ns.length < 64 then .ok (.list ((c6 ns).map PyData.int)) else .no
    | none=>.no
  | .dict kvs=>match bz (kvs.map (·.1)) with
    | some ns=>if ns.length < 64 then .ok (.list ((c6 ns).map PyData.int)) else .no
    | none=>.no
  | _=>.no
noncomputable def BX (K:PySem.W.Frag):List V->Hp->VK->Prop:=fun xs H Q=>∃ p ns,xs=[.ref p]/\kQ K H p (ns.map V.int)/\ns.length < 64/\∀ l,H l=none->Q (.ref l) (cI H l (.lst ((c6 ns).map V.int)))
noncomputable def BW:List V->Hp->VK->Prop:=fun xs H Q=>∃ p ks ns,xs=[.ref p]/\Rd H p (.dK ks)/\ks.map (·.1)=ns.map Sum.inl/\ns.length < 64/\∀ l,H l=none->Q (.ref l) (cI H l (.lst ((c6 ns).map V.int)))
theorem km (ns:List Int):(c6 ns).length=ns.length:=(dh ns).length_eq
theorem rS:c7 X (.builtin "sorted") (BX X.K):=by
  intro pins s σ H xs us Q I r h;obtain ⟨p,ns,rfl,hq,h64,q⟩:=h;obtain ⟨u,rfl,rx⟩:=eX r;cases rx;obtain ⟨its,rv,pl,hz⟩:=I.list hq;have hI:IntsAre its ns:=eI rv;have hl:=IntsAre.length hI;refine sorted_ints pl.isList hI (by omega) fun out ns' a1 a2 a3=>?_
  rw [iF a2 a3] at a1;obtain ⟨e,he⟩:=sortedAll_at s.heap its out;refine ⟨.ref (s.heap.objs.size+1),_,I.laid (t':=s.toks) (o:=.lst ((c6 ns).map V.int)) (fun b o e=>sortedAll_old e) (Nat.le_succ _) ⟨?_,out.toList,e,gr a1,by simpa [seqObj] using he⟩,rfl,q _ (I.hok.fresh (Nat.le_succ _))⟩;rw [List.length_map,km,sizeLine_eq];omega
theorem rR (hc:X.calm=true):c7 X (.builtin "sorted") BW:=by
  intro pins s σ H xs us Q I r h;obtain ⟨p,ks,ns,rfl,hq,hk,h64,q⟩:=h;obtain ⟨u,rfl,rx⟩:=eX r;cases rx;obtain ⟨hz,hlo,vs,kv,hd⟩:=nC I.hok hq;refine rh (I.ok.hd hc) hlo hd (by rw [<- kv.keys];exact hk) h64 fun D h' tk vs' e hg kp hD hI=>?_
  have hn:=qF I hg;refine ⟨.ref D,_,qE (t':=tk) (o:=.lst ((c6 ns).map V.int)) I kp hg hn ⟨?_,vs',e,gr hI,by simpa [seqObj] using hD⟩,rfl,q _ hn⟩;rw [List.length_map,km,sizeLine_eq];omega
theorem fI:∀ {H:Hp} {ns:List Int} {vs:List V},aZ H (ns.map PyData.int) vs->vs=ns.map V.int
  | H,[],vs,r=>by rw [List.map_nil] at r;rw [r.nil_inv];rfl
  | H,n::ns,vs,r=>by
    rw [List.map_cons] at r;obtain ⟨v,r',rfl,p,t⟩:=r.cons_inv;have:v=.int n:=by simpa only [Rp] using p
    rw [this,fI t];rfl
theorem rc:∀ {H:Hp} {kvs:List (PyData×PyData)} {ks:List (bp×V)},dj H kvs ks->kvs.map (·.1)=ks.map fun k=>de k.1
  | H,[],ks,r=>by simp only [dj] at r;rw [r];rfl
  | H,(k,d)::kvs,ks,r=>by
    simp only [dj,uh] at r;obtain ⟨x,v,r',rfl,⟨e,_⟩,t⟩:=r;rw [List.map_cons,List.map_cons,rc t,e]
theorem nN:∀ {ks:List (bp×V)} {ns:List Int},(ks.map fun k=>de k.1)=ns.map PyData.int->ks.map (·.1)=ns.map Sum.inl
  | [],[],_=>rfl
  | [],_::_,h=>by cases h
  | _::_,[],h=>by cases h
  | (k,v)::ks,n::ns,h=>by
    rw [List.map_cons,List.map_cons] at h;injection h with h1 h2
    rw [List.map_cons,List.map_cons,nN h2];cases k with
    | inl i=>simp only [de] at h1;cases h1;rfl
    | inr y=>simp only [de] at h1;cases h1
theorem oF (T:Tb X nl G) (j:Nat) (hG:G[j]?=some ("sorted" : Str)) (hm:X.mg "sorted" = none) (ha:Z.cQ X a fa) (he:aM a=true:=by rfl):Z.jt X (.Call (.Name "sorted" p) [a] [] pos) (e1 jF fa):=⟨have ha:=ha.un;by
  refine ux T j hG hm yW PyProof.Rows.boot_sorted (rS.or (rR T.calm)) (fun H x d Q hx q=>?_) ha he;cases d with
  | list ds =>
    simp only [jF] at q;cases ei:bz ds with
    | none=>rw [ei] at q;exact q.elim
    | some ns =>
      rw [ei] at q;dsimp only at q;by_cases h64:ns.length < 64
      · rw [if_pos h64] at q;obtain ⟨a',vs,rfl,h,r⟩:=cU (K:=X.K) hx;rw [cP ei] at r;rw [fI r] at h;exact .inl ⟨a',ns,rfl,h,h64,fun l hl=>q _ _ (bM hl _) (df hl (aZ.ints _))⟩
      · rw [if_neg h64] at q;exact q.elim
  | dict kvs =>
    simp only [jF] at q;cases ei:bz (kvs.map (·.1)) with
    | none=>rw [ei] at q;exact q.elim
    | some ns =>
      rw [ei] at q;dsimp only at q;by_cases h64:ns.length < 64
      · rw [if_pos h64] at q;have hi:fg kvs=false:=by
          cases kvs with
          | nil=>rfl
          | cons kd kvs =>
            obtain ⟨k,d⟩:=kd;cases k <;> first | rfl | (simp [bz] at ei)
        obtain ⟨a',ks,rfl,h,r⟩:=jB hi hx;have hk:=nN ((rc r).symm.trans (cP ei));exact .inr ⟨a',ks,ns,rfl,h,hk,h64,fun l hl=>q _ _ (bM hl _) (df hl (aZ.ints _))⟩
      · rw [if_neg h64] at q;exact q.elim
  | _=>exact q.elim⟩
theorem uy (hc:X.calm=true):c7 X (.builtin "all") (fun xs H Q=>∃ (p:Addr) (bs:List Bool),xs=[.ref p]/\kQ X.K H p (bs.map V.bl)/\Q (.bl (bs.all id)) H):=by
  intro pins s σ H xs us Q I r h;obtain ⟨p,bs,rfl,hq,q⟩:=h;obtain ⟨u,rfl,rx⟩:=eX r;cases rx;obtain ⟨its,rv,pl,hz⟩:=I.list hq;have hh:X.A.in1.handled=none:=I.ok.hd hc;have hlt:p≠s.heap.objs.size:=by obtain ⟨o,e,_⟩:=pl.isList;exact Nat.ne_of_lt (Heap.lt_size e)
  have hits:its=bs.map Value.bool:=by
    have key:∀ (bs:List Bool) (us:List Value),ba (bs.map V.bl) us->us=bs.map Value.bool:=by
      intro bs;induction bs with
      | nil=>intro us r;cases r;rfl
      | cons k bs ih=>intro us r;rw [List.map_cons] at r;cases r with | cons r1 r2=>rw [ih _ r2];cases r1;rfl
    exact key bs its rv
  refine call_all_walk (wpAny_pyIter_list pl.isList ?_);refine ⟨s.heap.objs.size,_,_,its.toArray.size,_,_,fun i=>(bs[i]?).getD true,rfl,Walks.list hh s.heap.objs.size p hlt its.toArray,⟨⟨_,Heap.get?_push_size _ rfl,rfl,rfl⟩,?_⟩,fun i v s' Q' E' hv hQ'=>?_,fun h' tk kp=>?_⟩
  · obtain ⟨o,e,r'⟩:=pl.isList;exact ⟨o,Heap.get?_push_of_some _ e,r'⟩
  · have hv':its[i]?=some v:=by simpa using hv
    rw [hits,List.getElem?_map] at hv';cases e:bs[i]? with
    | none=>rw [e] at hv';cases hv'
    | some k =>
      rw [e] at hv';cases hv';dsimp only at hQ';rw [e] at hQ';exact wpAny_truthy_bool hQ'
  · have e:((List.range its.toArray.size).all fun i=>(bs[i]?).getD true)=bs.all id:=by
      rw [List.size_toArray,hits,List.length_map];have key:∀ (l:List Bool),((List.range l.length).all fun i=>(l[i]?).getD true)=l.all id:=by
        intro l;induction l with
        | nil=>rfl
        | cons k l ih =>
          rw [List.length_cons,List.range_succ_eq_map,List.all_cons,List.all_map,List.all_cons,<- ih];rfl
      exact key bs
    rw [e];refine ⟨.bl (bs.all id),H,I.kept (t':=tk) fun b o g=>kp b o (fun z=>?_) (Heap.get?_push_of_some _ g),rfl,q⟩;rw [List.mem_singleton.mp z] at g;exact absurd (Heap.lt_size g) (Nat.lt_irrefl _)
theorem qd:∀ {ds:List PyData} {k:Bool},lD ds=some k->∃ bs:List Bool,ds=bs.map PyData.bool/\k=bs.all id
  | [],k,h=>by cases h;exact ⟨[],rfl,rfl⟩
  | d::ds,k,h=>by
    cases d with
    | bool j =>
      simp only [lD] at h;cases e:lD ds with
      | none=>rw [e] at h;cases h
      | some r =>
        rw [e] at h;cases h;obtain ⟨bs,e1,e2⟩:=qd e;exact ⟨j::bs,by rw [e1];rfl,by rw [e2];rfl⟩
    | _=>cases h
theorem kl:∀ {H:Hp} {ns:List Bool} {vs:List V},aZ H (ns.map PyData.bool) vs->vs=ns.map V.bl
  | H,[],vs,r=>by rw [List.map_nil] at r;rw [r.nil_inv];rfl
  | H,n::ns,vs,r=>by
    rw [List.map_cons] at r;obtain ⟨v,r',rfl,p,t⟩:=r.cons_inv;have:v=.bl n:=by simpa only [Rp] using p
    rw [this,kl t];rfl
theorem lz (T:Tb X nl G) (j:Nat) (hG:G[j]?=some ("all" : Str)) (hm:X.mg "all" = none) (ha:Z.cQ X a fa) (he:aM a=true:=by rfl):Z.cm X (.Call (.Name "all" p) [a] [] pos) (e1 oR fa):=⟨have ha:=ha.un;by
  refine ux T j hG hm dR PyProof.Rows.boot_all (uy T.calm) (fun H x d Q hx q=>?_) ha he;cases d with
  | list ds =>
    simp only [oR] at q;cases ei:lD ds with
    | none=>rw [ei] at q;exact q.elim
    | some k =>
      rw [ei] at q;obtain ⟨bs,e1,e2⟩:=qd ei;obtain ⟨a',vs,rfl,h,r⟩:=cU (K:=X.K) hx;rw [e1] at r;rw [kl r] at h;refine ⟨a',bs,rfl,h,?_⟩;rw [<- e2];exact q _ H (ar.refl _) eh
  | _=>exact q.elim⟩
end
section
variable {X:Cx} {a b c:Expr} {fa fb fc:Fe} {pos p2:Pos} {nl:Nat} {G:List Str} {x:Str} {p:Pos}
theorem gf.changeK {Fm H:Hp} {σ:St} {ρ:ay} {i:Nat} {d d':PyData} {a:Addr} {u u':HO} (h:gf Fm H σ ρ) (h1:ρ[i]?=some (.own d)) (h2:σ[i]?=some (some (.ref a))) (hu:H a=some u) (kp:Kp H (cI H a u'))
    (hr:gs (cI H a u') d' (.ref a)):gf Fm (cI H a u') σ (ρ.set i (.own d')):=by
  have hFa:=h.own i d a h1 h2;have at_i:∀ (j:Nat) (e:PyData),(ρ.set i (.own d'))[j]?=some (.own e)->∃ e0,ρ[j]?=some (.own e0):=fun j e q=>by
    rw [List.getElem?_set] at q;by_cases hij:i=j
    · subst hij;exact ⟨d,h1⟩
    · rw [if_neg hij] at q;exact ⟨e,q⟩
  refine ⟨fun b x e=>?_,⟨by rw [List.length_set];exact h.sl.1,fun j c w' e1 e2=>?_⟩,fun j e b e1 e2=>?_,fun j k e f b e1 e2 e3 e4=>?_⟩
  · rw [aA (aT e hFa)];exact h.fm b x e
  · rw [List.getElem?_set] at e1;by_cases hij:i=j
    · subst hij;rw [if_pos rfl] at e1;split at e1
      · cases e1;rw [h2] at e2;cases e2;exact ⟨_,rfl,hr⟩
      · cases e1
    · rw [if_neg hij] at e1;have q:=h.sl.2 j c w' e1 e2;cases c with
      | exc p=>exact q
      | non=>exact True.intro
      | val d1=>obtain ⟨v,z1,z2⟩:=q;exact ⟨v,z1,Rp.kp kp _ _ z2⟩
      | own d1 =>
        obtain ⟨v,z1,z2⟩:=q;subst z1;obtain ⟨b,ob,rfl,hb⟩:=pb z2;have nb:b≠a:=fun z=>hij (by subst z;exact h.apart i j d d1 b h1 e1 h2 e2)
        refine ⟨_,rfl,?_⟩;cases d1 <;> simp only [gs] at z2 ⊢
        · obtain ⟨b',vs,e,hb',r⟩:=z2;cases e;exact ⟨b,vs,rfl,by rw [aA nb];exact hb',aZ.kp kp _ _ r⟩
        · rcases z2 with ⟨b',vs,e,hb',r⟩ | ⟨b',vs,e,hb',r⟩
          · cases e;exact .inl ⟨b,vs,rfl,by rw [aA nb];exact hb',dj.kp kp _ _ r⟩
          · cases e;exact .inr ⟨b,vs,rfl,by rw [aA nb];exact hb',mE.kp kp _ _ r⟩
  · obtain ⟨e0,q⟩:=at_i j e e1;exact h.own j e0 b q e2
  · obtain ⟨e0,q⟩:=at_i j e e1;obtain ⟨f0,q'⟩:=at_i k f e2;exact h.apart j k e0 f0 b q q' e3 e4
theorem gf.change {Fm H:Hp} {σ:St} {ρ:ay} {i:Nat} {d d':PyData} {a:Addr} {u u':HO} (h:gf Fm H σ ρ) (h1:ρ[i]?=some (.own d)) (h2:σ[i]?=some (some (.ref a))) (hu:H a=some u) (hm:(∃ xs,u=.lst xs)\/∃ ks,u=.dK ks)
    (hr:gs (cI H a u') d' (.ref a)):gf Fm (cI H a u') σ (ρ.set i (.own d')):=h.changeK h1 h2 hu (gP hu hm) hr
noncomputable def Aa (i:Nat) (fk fv:Fe):Fs:=fun ρ=>fv ρ>>=fun v=>kh (fk ρ)>>=fun k=>match ρ[i]? with
  | some (.own (.dict kvs))=>if fg kvs=true then .no else match eE k with
    | some _=>if kvs.length < sizeLine then .ok (.nx (ρ.set i (.own (.dict (sI kvs k v))))) else .no
    | none=>.no
  | _=>.no
theorem nK {k:PyData} {κ:bp} (h:eE k=some κ):k=de κ:=by
  cases k <;> simp only [eE] at h <;> cases h <;> rfl
theorem xO {H:Hp} {κ:bp} {y:V} (h:Rp H (de κ) y):y=kV κ:=by
  cases κ <;> simp only [de,Rp] at h <;> exact h
theorem vX {k v:Expr} {fk fv:Fe} {q1 q2 q3:Pos} (T:Tb X nl G) (n:Nat) (hN:X.N[n]?=some x) (hk:Z.cm X k fk) (hv:Z.cm X v fv) (hs:swapsWith v (some (.Subscript (.Name x q1) k q2)) q3.line X.env=pure false:=by rfl):Z.ju X (.Assign [.Subscript (.Name x q1) k q2] v q3) (Aa n fk fv):=⟨have hk:=hk.un;have hv:=hv.un;fun Fm=>by
  have hm:=T.vis x (List.mem_of_getElem? hN);refine PS.imp (tZ (by have:=T.hu;omega) (iy hN hm.1 hm.2.1 hm.2.2) hk hv hs) fun D σ H h=>?_
  refine (oK (P:=gh) (f:=fv) (k:=fun ρ v=>kh (fk ρ)>>=fun k=>match ρ[n]? with
    | some (.own (.dict kvs))=>if fg kvs=true then .no else match eE k with
      | some _=>if kvs.length < sizeLine then .ok (.nx (ρ.set n (.own (.dict (sI kvs k v))))) else .no
      | none=>.no
    | _=>.no) h).post fun vv H1 ⟨ρ1,dv,sl1,_,p1,q1⟩=>?_
  have sl0:AM X Fm (fun ρ=>kh (fk ρ)>>=fun k=>match ρ[n]? with
    | some (.own (.dict kvs))=>if fg kvs=true then .no else match eE k with
      | some _=>if kvs.length < sizeLine then .ok (.nx (ρ.set n (.own (.dict (sI kvs k dv))))) else .no
      | none=>.no
    | _=>.no) D σ H1:=⟨ρ1,sl1,q1⟩
  cases e:ρ1[n]? with
  | none =>
    exfalso;rw [e] at q1;cases e2:fk ρ1 with
    | ok _=>rw [e2] at q1;exact q1
    | ex _=>rw [e2] at q1;exact q1
    | no=>rw [e2] at q1;exact q1
  | some c =>
    rw [e] at q1;cases c with
    | own d =>
      cases d with
      | dict kvs =>
        obtain ⟨o,h2,w',rfl,p2⟩:=sl1.sl.at e;simp only [gs] at p2;have hni:fg kvs=false:=by
          cases hz:fg kvs with
          | false=>rfl
          | true =>
            exfalso;cases e2:fk ρ1 with
            | ex _=>rw [e2] at q1;exact q1.elim
            | no=>rw [e2] at q1;exact q1
            | ok kd =>
              rw [e2] at q1;simp only [kh,R.ok_bind,hz,if_true] at q1;exact q1.elim
        rcases p2 with ⟨a',ks,rfl,ha,r⟩ | ⟨a',ks,rfl,ha,r⟩
        case inr=>rw [r.ins] at hni;cases hni
        refine ⟨.ref a',h2,?_⟩;refine ⟨ρ1,sl1.sl,?_⟩;cases e2:fk ρ1 with
        | ex _=>rw [e2] at q1;exact q1.elim
        | no=>rw [e2] at q1;exact q1
        | ok kd =>
          rw [e2] at q1;simp only [kh,R.ok_bind,hni,Bool.false_eq_true,if_false] at q1;intro yv H3 s3 p3;cases e3:eE kd with
          | none=>rw [e3] at q1;exact q1.elim
          | some κ =>
            rw [e3] at q1;dsimp only at q1;by_cases hz:kvs.length < sizeLine
            · rw [if_pos hz] at q1;have ek:=nK e3;subst ek;have ey:=xO p3;subst ey;have ha3:=s3 _ _ ha;have r3:dj H3 kvs ks:=dj.kp (Kp.of s3) _ _ r;refine ⟨a',_,rfl,pH.k ha3 (by rw [r3.length];exact hz),q1 _ _ ((sl1.mono s3).change e h2 ha3 (.inr ⟨_,rfl⟩) ?_)⟩;simp only [gs];exact .inl ⟨a',_,rfl,bw,dj.kp (gP ha3 (.inr ⟨_,rfl⟩)) _ _ (dj.put κ (p1.mono s3) r3)⟩
            · rw [if_neg hz] at q1;exact q1.elim
      | _ =>
        exfalso;cases e2:fk ρ1 with
        | ok _=>rw [e2] at q1;exact q1
        | ex _=>rw [e2] at q1;exact q1
        | no=>rw [e2] at q1;exact q1
    | _ =>
      exfalso;cases e2:fk ρ1 with
      | ok _=>rw [e2] at q1;exact q1
      | ex _=>rw [e2] at q1;exact q1
      | no=>rw [e2] at q1;exact q1⟩
noncomputable def fT (i:Nat) (f:Fe):Fs:=fun ρ=>kh (f ρ)>>=fun d=>match ρ[i]? with
  | some (.own (.list ds))=>if ds.length < sizeLine then .ok (.nx (ρ.set i (.own (.list (ds++[d]))))) else .no
  | _=>.no
end
section
variable {prog:Program} {w:World} {A:Around} {E:Value->Shared->Prop} {s:Shared}
theorem sw {it t:Addr} {i:Nat} {items:Array Value} {x:Value} {Q:Value->Shared->Prop} (hit:s.heap.IsTupleIter it t i) (ht:s.heap.IsTuple t items) (hx:items[i]?=some x)
    (hQ:∀ h',h'.IsTupleIter it t (i+1)->Heap.SameBut it s.heap h'->Q x { s with heap:=h' }):wpAny (model prog w) A (Builtin.SmallTypes.nextOf (.ref it)) Q E s:=by
  obtain ⟨ob,hob,hcl,hdt⟩:=id hit;obtain ⟨ot,hot,_,nt,hdtt⟩:=ht;unfold Builtin.SmallTypes.nextOf;refine wpAny_bind (wpAny_callSpecial?_slot (name:=Str.ofString "__next__") hit.typeIs F.slot_tuple_iterator_next (wpAny_call_entry F.slot_tuple_iterator_next hit.typeIs F.entry_tuple_iterator_next ?_ (F.args_tuple_iterator_next_1 _)));show wpAny _ _ (field (Value.ref it) 0>>=_) _ _ s;refine wpAny_bind (wpAny_field hob hdt (x:=Value.ref t) rfl ?_);show wpAny _ _ (if (Value.ref t==Value.none)=true then _ else _) _ _ s;rw [if_neg (by intro z;cases z)];show wpAny _ _ (field (Value.ref it) 1>>=_) _ _ s;refine wpAny_bind (wpAny_field hob hdt (x:=Value.int i 0) rfl ?_);show wpAny _ _ (seqItems? (Value.ref t)>>=_) _ _ s;refine wpAny_bind (wpAny_seqItems hot hdtt ?_);simp only [hx,Int.toNat_natCast];refine wpAny_bind (wpAny_setField hob hdt (by simp) (wpAny_pure ⟨x,rfl,wpAny_pure (hQ _ ⟨_,Heap.get?_update_self _ hob (Obj.isFreed_of_fields (Obj.data_mapFields hdt _)),(Obj.cls_mapFields ..).trans hcl,?_⟩ (Heap.SameBut.update ..))⟩));rw [Obj.data_mapFields hdt];simp [rawInt]
theorem l6 {it t:Addr} {i:Nat} {items:Array Value} {Q:Value->Shared->Prop} (hh:A.handled=none) (hit:s.heap.IsTupleIter it t i) (ht:s.heap.IsTuple t items) (hx:items[i]?=none)
    (hE:∀ h' e,Heap.ExtBut it s.heap h'->(∃ o,h'.get? e=some o/\o.cls=.type "StopIteration")->E (.ref e) { s with heap:=h' }):wpAny (model prog w) A (Builtin.SmallTypes.nextOf (.ref it)) Q E s:=by
  obtain ⟨ob,hob,hcl,hdt⟩:=id hit;obtain ⟨ot,hot,_,nt,hdtt⟩:=ht;unfold Builtin.SmallTypes.nextOf;refine wpAny_bind (wpAny_callSpecial?_slot (name:=Str.ofString "__next__") hit.typeIs F.slot_tuple_iterator_next (wpAny_call_entry F.slot_tuple_iterator_next hit.typeIs F.entry_tuple_iterator_next ?_ (F.args_tuple_iterator_next_1 _)));show wpAny _ _ (field (Value.ref it) 0>>=_) _ _ s;refine wpAny_bind (wpAny_field hob hdt (x:=Value.ref t) rfl ?_);show wpAny _ _ (if (Value.ref t==Value.none)=true then _ else _) _ _ s;rw [if_neg (by intro z;cases z)];show wpAny _ _ (field (Value.ref it) 1>>=_) _ _ s;refine wpAny_bind (wpAny_field hob hdt (x:=Value.int i 0) rfl ?_);show wpAny _ _ (seqItems? (Value.ref t)>>=_) _ _ s;refine wpAny_bind (wpAny_seqItems hot hdtt ?_);simp only [hx,Int.toNat_natCast];refine wpAny_bind (wpAny_rule (wpAny_bind (wpAny_setField hob hdt (by simp) ?_)));show wpAny _ _ (newExc (Value.type "StopIteration") []>>=_) _ _ _;refine wpAny_bind ?_;simp only [newTuple,newExc];refine wpAny_bind (wpAny_newObj_type ?_ (by size_fits));refine wpAny_bind (m:=firstArgMember _ _) (wpAny_of_eq (a:=Value.none) (by first | rfl | (simp only [firstArgMember];rfl)) ?_);refine wpAny_newObj_type ?_ (by size_fits);simp only [raiseNew];refine wpAny_bind (wpAny_handled ?_)
  first | rw [show A.in1.handled=none from hh] | rw [hh]
  exact wpAny_bind (wpAny_pure (wpAny_throw (hE _ _ (((Heap.SameBut.update ..).extBut.push _).push _) ⟨_,Heap.get?_push_size _ rfl,rfl⟩)))
end
noncomputable def pE (h:Heap) (i l:Addr) (k:Nat) (xs:Array Value):Prop:=(h.IsListIter i l k/\h.IsList l xs)\/(h.IsTupleIter i l k/\h.IsTuple l xs)
section
variable {h h':Heap} {i l:Addr} {k:Nat} {xs:Array Value}
theorem pE.keep (x:pE h i l k xs) (hi:∀ o,h.get? i=some o->h'.get? i=some o) (hl:∀ o,h.get? l=some o->h'.get? l=some o):pE h' i l k xs:=by
  rcases x with ⟨⟨o,e,r⟩,⟨o',e',r'⟩⟩ | ⟨⟨o,e,r⟩,⟨o',e',r'⟩⟩
  · exact .inl ⟨⟨o,hi _ e,r⟩,⟨o',hl _ e',r'⟩⟩
  · exact .inr ⟨⟨o,hi _ e,r⟩,⟨o',hl _ e',r'⟩⟩
end
section
variable {prog:Program} {w:World} {A:Around} {E:Value->Shared->Prop} {s:Shared} {i l:Addr} {k:Nat} {xs:Array Value}
theorem Dz {x:Value} {Q:Value->Shared->Prop} (it:pE s.heap i l k xs) (hne:l≠i) (hx:xs[k]?=some x) (hQ:∀ h',pE h' i l (k+1) xs->Heap.SameBut i s.heap h'->Q x { s with heap:=h' }) :
    wpAny (model prog w) A (Builtin.SmallTypes.nextOf (.ref i)) Q E s:=by
  rcases it with ⟨h1,h2⟩ | ⟨h1,h2⟩
  · exact wpAny_nextOf_list_item h1 h2 hx fun h' a b=>hQ h' (.inl ⟨a,h2.extBut b.extBut hne⟩) b
  · exact sw h1 h2 hx fun h' a b=>hQ h' (.inr ⟨a,h2.extBut b.extBut hne⟩) b
theorem vo {Q:Value->Shared->Prop} (hh:A.handled=none) (it:pE s.heap i l k xs) (hx:xs[k]?=none)
    (hE:∀ h' e,Heap.ExtBut i s.heap h'->(∃ o,h'.get? e=some o/\o.cls=.type "StopIteration")->E (.ref e) { s with heap:=h' }):wpAny (model prog w) A (Builtin.SmallTypes.nextOf (.ref i)) Q E s:=by
  rcases it with ⟨h1,h2⟩ | ⟨h1,h2⟩
  · exact wpAny_nextOf_list_end hh h1 h2 hx hE
  · exact l6 hh h1 h2 hx hE
noncomputable def A3 (h:Heap) (l:Addr) (xs:Array Value):Prop:=h.IsList l xs\/h.IsTuple l xs
end
section
variable {X:Cx} {pins:List (Addr×Obj)} {σ:St} {H:Hp} {s:Shared} {h':Heap}
theorem kB {t':Nat} {fp:List Addr} (I:aC X pins σ H s) (k:∀ b o,b∉fp->s.heap.get? b=some o->h'.get? b=some o) (hf:∀ b∈fp,jv X pins H b):aC X pins σ H { s with heap:=h',toks:=t' }:=by
  have away:∀ b u,H b=some u->b∉fp:=fun b u e z=>by rw [(hf b z).1] at e;cases e
  have frame:X.env.locals∉fp:=fun z=>(hf _ z).2.1 rfl
  refine I.step (g':=s.gens) (d':=s.drawn) (ch:=fp) (fun b hb=>⟨(hf b hb).2.2.2.1,(hf b hb).2.1,(hf b hb).2.2.2.2.1,(hf b hb).2.2.2.2.2⟩) (fun b o _ _ hc e _=>k b o hc e) (fun b o _ _ hc e _=>⟨o.slots,k b o hc e⟩) (fun _ _ _ _ n=>n)
    (fun b o hc e=>⟨o,k b o hc e⟩) (fun _ _ e=>e) (fun _ _ _ e=>e) (fun b ps e=>⟨#[],by rw [e];simp⟩) (fun m ⟨o,es,ep,ho,r⟩=>⟨o,es,ep,k _ o frame ho,r⟩) (fun b u e=>?_) I.bare
  refine (I.hok b u e).stay (fun c v hc q=>k c v ?_ q) (fun _ q=>q) fun _ _ q=>q
  rcases hc with z | z
  · rw [z];exact away b u e
  · exact away c _ z
theorem xH {h:Heap} {o o':Obj} {b:Addr} (hb:b≠h.objs.size) (e:(h.push o).get? b=some o'):h.get? b=some o':=by
  unfold Heap.get? Heap.push at e;unfold Heap.get?;simp only [Array.getElem?_push] at e;rw [if_neg hb] at e;exact e
theorem zj {t':Nat} {fp:List Addr} {u1 u2:Value} {v1 v2:V} (I:aC X pins σ H s) (hf:∀ b∈fp,jv X pins H b) (hob:∀ b∈fp,b < s.heap.objs.size) (ht:IsPair h' s.heap.objs.size u1 u2) (k:∀ b o,b∉fp->s.heap.get? b=some o->h'.get? b=some o)
    (r1:bH v1 u1) (r2:bH v2 u2):aC X pins σ (cI H s.heap.objs.size (.tup [v1,v2])) { s with heap:=h',toks:=t' }:=by
  have I1:aC X pins σ (cI H s.heap.objs.size (.tup [v1,v2])) { s with heap:=s.heap.push { cls:=.type "tuple",data:=.seq #[u1,u2] },toks:=s.toks } :=
    I.laid (fun b u e=>Heap.get?_push_of_some _ e) (Nat.le_refl _) ⟨by show 2<=sizeLine;decide,[u1,u2],.cons r1 (.cons r2 .nil),_,Heap.get?_push_size _ rfl,rfl,⟨_,rfl⟩,rfl⟩
  refine kB (fp:=fp) (s:={ s with heap:=s.heap.push { cls:=.type "tuple",data:=.seq #[u1,u2] },toks:=s.toks }) I1 (fun b o hb e=>?_) fun b hb=>?_
  · by_cases hz:b=s.heap.objs.size
    · subst hz;have e':(s.heap.push { cls:=.type "tuple",data:=.seq #[u1,u2] }).get? s.heap.objs.size=some o:=e;rw [Heap.get?_push_size _ rfl] at e';cases e';exact ht
    · exact k b o hb (xH hz e)
  · obtain ⟨f0,f1,f2,f3,f4,f5⟩:=hf b hb;exact ⟨by rw [aA (Nat.ne_of_lt (hob b hb))];exact f0,f1,f2,f3,f4,f5⟩
end
noncomputable def yG (K:PySem.W.Frag) (H:Hp) (a:Addr) (xs:List V):Bool->Prop
  | true=>gC K H a xs
  | false=>kQ K H a xs
noncomputable def i4 (h:Heap) (i l:Addr) (k:Nat):Bool->Prop
  | true=>h.IsTupleIter i l k
  | false=>h.IsListIter i l k
theorem i4.keep {h h':Heap} {i l:Addr} {k:Nat} {b:Bool} (x:i4 h i l k b) (hi:∀ o,h.get? i=some o->h'.get? i=some o):i4 h' i l k b:=by
  cases b
  · obtain ⟨o,e,r⟩:=x;exact ⟨o,hi _ e,r⟩
  · obtain ⟨o,e,r⟩:=x;exact ⟨o,hi _ e,r⟩
theorem i4.there {h:Heap} {i l:Addr} {k:Nat} {b:Bool} (x:i4 h i l k b):∃ o,h.get? i=some o/\∀ v,o.data≠.cell v:=by
  cases b
  · obtain ⟨o,e,c,d⟩:=x;exact ⟨o,e,fun v z=>by rw [d] at z;cases z⟩
  · obtain ⟨o,e,c,d⟩:=x;exact ⟨o,e,fun v z=>by rw [d] at z;cases z⟩
section
variable {X:Cx} {pins:List (Addr×Obj)} {σ:St} {H:Hp} {s:Shared}
theorem sh {a:Addr} {xs:List V} {b:Bool} (I:aC X pins σ H s) (h:yG X.K H a xs b):∃ its:List Value,ba xs its/\A3 s.heap a its.toArray/\∀ (i:Addr) (k:Nat),i4 s.heap i a k b->pE s.heap i a k its.toArray:=by
  cases b
  · obtain ⟨its,rv,p,_⟩:=I.list h;exact ⟨its,rv,.inl p.isList,fun i k z=>.inl ⟨z,p.isList⟩⟩
  · obtain ⟨its,rv,p,_⟩:=I.tuple h;exact ⟨its,rv,.inr p,fun i k z=>.inr ⟨z,p⟩⟩
theorem si {a:Addr} {xs ys:List V} {b:Bool} (I:aC X pins σ H s) (h:yG X.K H a xs b) (h':yG X.K H a ys b):ys=xs:=by
  cases b
  · exact I.list_inj h' h
  · exact I.tuple_inj h' h
theorem pE.toB {h:Heap} {i l:Addr} {k:Nat} {xs:Array Value} {b:Bool} (hl:∀ ys,(b=true->¬ h.IsList l ys)/\(b=false->¬ h.IsTuple l ys)) (x:pE h i l k xs):i4 h i l k b:=by
  cases b
  · rcases x with ⟨z,w⟩ | ⟨z,w⟩
    · exact z
    · exact absurd w ((hl xs).2 rfl)
  · rcases x with ⟨z,w⟩ | ⟨z,w⟩
    · exact absurd w ((hl xs).1 rfl)
    · exact z
theorem gQ {h:Heap} {l:Addr} {xs ys:Array Value} (a:h.IsList l xs) (b:h.IsTuple l ys):False:=by
  obtain ⟨o,e,c,_⟩:=a;obtain ⟨o',e',c',_⟩:=b;rw [e] at e';cases e';rw [c] at c';injection c' with z
  exact absurd z (by decide)
theorem wU {a:Addr} {xs:List V} {b:Bool} (I:aC X pins σ H s) (h:yG X.K H a xs b) {h':Heap} (kp:∀ c o,s.heap.get? c=some o->h'.get? c=some o):∀ ys,(b=true->¬ h'.IsList a ys)/\(b=false->¬ h'.IsTuple a ys):=fun ys=>by
  cases b
  · obtain ⟨its,rv,p,_⟩:=I.list h;refine ⟨fun z=>(by cases z),fun _ w=>?_⟩;obtain ⟨o,e,r⟩:=p.isList;exact gQ (h:=h') (xs:=its.toArray) ⟨o,kp _ _ e,r⟩ w
  · obtain ⟨its,rv,p,_⟩:=I.tuple h;refine ⟨fun _ w=>?_,fun z=>by cases z⟩;obtain ⟨o,e,r⟩:=p;exact gQ (h:=h') w ⟨o,kp _ _ e,r⟩
end
noncomputable def A4 (H:Hp) (a:Addr) (ds:List PyData):Bool->Prop
  | true=>∃ vs,H a=some (.tup vs)/\aZ H ds vs
  | false=>∃ o vs,H a=some (.frz o (.lst vs))/\aZ H ds vs
theorem A4.sq {K:PySem.W.Frag} {H:Hp} {a:Addr} {ds:List PyData} {b:Bool} (h:A4 H a ds b):∃ vs,yG K H a vs b/\aZ H ds vs:=by
  cases b
  · obtain ⟨o,vs,e,r⟩:=h;exact ⟨vs,.inl (.inr ⟨o,e⟩),r⟩
  · obtain ⟨vs,e,r⟩:=h;exact ⟨vs,gC.of e,r⟩
theorem A4.kp {H H':Hp} {a:Addr} {ds:List PyData} {b:Bool} (h:A4 H a ds b) (k:Kp H H'):A4 H' a ds b:=by
  cases b
  · obtain ⟨o,vs,e,r⟩:=h;exact ⟨o,vs,k.2 _ _ _ e,aZ.kp k _ _ r⟩
  · obtain ⟨vs,e,r⟩:=h;exact ⟨vs,k.1 _ _ e,aZ.kp k _ _ r⟩
noncomputable def DF (p:PyData×PyData):PyData:=.tuple [p.1,p.2]
noncomputable def Ew (xs ys:List PyData):List PyData:=(xs.zip ys).map DF
section
variable {X:Cx} {elts:List Expr} {x1:Nat} {tp:Pos} {a b:Expr} {fa fb:Fe} {pos p:Pos} {nl:Nat} {G:List Str} {fs:ay->R (List PyData)}
noncomputable def Fx (fa fb:Fe):ay->R (List PyData):=fun ρ=>fa ρ>>=fun x=>fb ρ>>=fun y=>jr x>>=fun xs=>jr y>>=fun ys=>.ok (Ew xs ys)
theorem B0 {H:Hp} {d:PyData} {v:V} {ds:List PyData} (h:Rp H d v) (e:jr d=.ok ds):∃ a b,v=.ref a/\A4 H a ds b:=by
  cases d with
  | list xs =>
    cases e;simp only [Rp] at h;obtain ⟨a,o,vs,rfl,h,r⟩:=h;exact ⟨a,false,rfl,o,vs,h,r⟩
  | tuple xs =>
    cases e;simp only [Rp] at h;obtain ⟨a,vs,rfl,h,r⟩:=h;exact ⟨a,true,rfl,vs,h,r⟩
  | _=>cases e
end
noncomputable def eB (i j:Nat):PyData->ay->Option ay
  | .tuple [x,y],ρ=>some ((ρ.set i (.val x)).set j (.val y))
  | _,_=>none
section
variable {X:Cx} {nl:Nat} {G:List Str} {x y:Str} {k:Nat} {p1 p2 pos:Pos}
theorem mX (T:Tb X nl G) (i j:Nat) (hi:(X.N.take nl)[i]?=some x) (hj:(X.N.take nl)[j]?=some y):Z.mK X (.Tuple [.Name x p1,.Name y p2] k pos) (eB i j):=⟨by
  obtain ⟨i1,i2,i3⟩:=T.nm hi;obtain ⟨j1,j2,j3⟩:=T.nm hj;refine PG.imp (BP T.calm (qV (pd T.nd i1 i2 i3) (qV (pd T.nd j1 j2 j3) zK))) fun v σ H Q zq0=>?_
  obtain ⟨ρ,d,sl,p,q⟩:=zq0;unfold eB at q;split at q
  · rename_i e;split at e
    · rename_i ρ0 dx dy;cases e;simp only [Rp] at p;obtain ⟨a,vs,rfl,ha,r⟩:=p;obtain ⟨u,r1,rfl,pu,r⟩:=r.cons_inv;obtain ⟨w,r2,rfl,pw,r⟩:=r.cons_inv;rw [r.nil_inv] at ha;refine ⟨a,[u,w],rfl,gC.of ha,rfl,u,[w],rfl,w,[],rfl,rfl,?_⟩;refine q _ (Sl.set (c:=.val dy) (o:=some w) (Sl.set (c:=.val dx) (o:=some u) sl i ⟨u,rfl,pu⟩) j ⟨w,rfl,pw⟩) fun n e h=>?_
      obtain ⟨n1,h⟩:=cw (fun e z=>by cases z) h;obtain ⟨n2,h⟩:=cw (fun e z=>by cases z) h;exact ⟨h,by rw [List.getElem?_set,if_neg n1,List.getElem?_set,if_neg n2]⟩
    · cases e
  · exact q.elim⟩
end
theorem uU {own:Nat} {fr:List Nat} {i j:Nat} (hi:i < own) (hj:j < own):∀ ρ d ρ1,eB i j d (ao own fr ρ)=some ρ1->gu (ao own fr ρ) ρ1:=fun ρ d ρ1 e=>by
  unfold eB at e;split at e
  · rename_i x y _;cases e;refine ⟨by rw [List.length_set,List.length_set],fun n c hn=>?_⟩;have at_own:n < own->c=.non:=fun h=>by
      unfold ao at hn;rw [List.getElem?_append_left (by simpa using h),List.getElem?_replicate,if_pos h] at hn;exact (Option.some.inj hn).symm
    by_cases h1:j=n
    · exact .inl (at_own (by omega))
    · by_cases h2:i=n
      · exact .inl (at_own (by omega))
      · exact .inr (by rw [List.getElem?_set,if_neg h1,List.getElem?_set,if_neg h2];exact hn)
  · cases e
open AutoSeq1 (wpAny_loadPart')
noncomputable abbrev iU (h:Heap) (e i:Addr) (k:Int) (f0 old:Value):Prop:=h.get? e=some { cls:=.type "enumerate",dict:=none,data:=.fields #[f0,.bool false,.ref i,rawInt k,.none,old],slots:=#[] }
section
variable {prog:Program} {w:World} {A:Around} {E:Value->Shared->Prop} {s:Shared} {e i l:Addr} {k:Nat} {xs:Array Value}
theorem uN {x old:Value} {Q:Value->Shared->Prop} (he:iU s.heap e i k .none old) (it:pE s.heap i l k xs) (hli:l≠i) (hle:l≠e) (hei:e≠i) (hx:xs[k]?=some x)
    (hQ:∀ h' old',iU h' e i ((k:Int)+1) (rawInt s.heap.objs.size) old'->pE h' i l (k+1) xs->IsPair h' s.heap.objs.size (.int k s.toks) x->(∀ c o,c≠e->c≠i->s.heap.get? c=some o->h'.get? c=some o)->Q (.ref s.heap.objs.size) { s with heap:=h',toks:=s.toks+1 }) :
    wpAny (model prog w) A (Builtin.«enumerate.__next__» ⟨[.ref e],[]⟩) (fun fin s'=>∃ v,fin=.done (.ret v)/\Q v s') E s:=by
  obtain ⟨hp,g,d,tk,os⟩:=s;show wpAny _ _ (field (Value.ref e) 2>>=_) _ _ _;refine wpAny_bind (wpAny_field he rfl (x:=Value.ref i) rfl ?_);refine wpAny_bind (Dz it hli hx fun g1 i1 s1=>?_);replace s1:Heap.SameBut i hp g1:=s1;have e1:iU g1 e i k .none old:=(s1.2 e hei).trans he;show wpAny _ _ (field (Value.ref e) 3>>=_) _ _ (Shared.mk g1 g d tk os);refine wpAny_bind (wpAny_field e1 rfl (x:=rawInt (k:Int)) rfl ?_);show wpAny _ _ (field (Value.ref e) 4>>=_) _ _ (Shared.mk g1 g d tk os);refine wpAny_bind (wpAny_field e1 rfl (x:=Value.none) rfl ?_);show wpAny _ _ (mkInt (k:Int)>>=_) _ _ (Shared.mk g1 g d tk os);refine wpAny_bind (wpAny_mkInt ?_);show wpAny _ _ (setField (Value.ref e) 3 (rawInt ((k:Int)+1))>>=_) _ _ (Shared.mk g1 g d (tk+1) os);refine wpAny_bind (wpAny_setField_rec e1 (by simp) fun g2 e2 s2=>?_);replace s2:Heap.SameBut e g1 g2:=s2;replace e2:iU g2 e i ((k:Int)+1) .none old:=e2;show wpAny _ _ (setField (Value.ref e) 4 Value.none>>=_) _ _ (Shared.mk g2 g d (tk+1) os);refine wpAny_bind (wpAny_setField_rec e2 (by simp) fun g3 e3 s3=>?_);replace s3:Heap.SameBut e g2 g3:=s3;replace e3:iU g3 e i ((k:Int)+1) .none old:=e3;show wpAny _ _ (newTuple [Value.int k tk,x]>>=_) _ _ (Shared.mk g3 g d (tk+1) os);refine wpAny_bind (wpAny_newTuple ?_);have hsz:g3.objs.size=hp.objs.size:=by rw [s3.1,s2.1,s1.1]
  have elt:e < g3.objs.size:=Heap.lt_size e3;have e4:iU (g3.push { cls:=.type "tuple",data:=.seq #[.int k tk,x] }) e i ((k:Int)+1) .none old:=Heap.get?_push_of_some _ e3;have t4:IsPair (g3.push { cls:=.type "tuple",data:=.seq #[.int k tk,x] }) g3.objs.size (.int k tk) x:=Heap.get?_push_size _ rfl;have i3:pE g3 i l (k+1) xs:=i1.keep (fun o q=>s3.extBut _ _ hei.symm (s2.extBut _ _ hei.symm q)) fun o q=>s3.extBut _ _ hle (s2.extBut _ _ hle q)
  have k3:∀ c o,c≠e->c≠i->hp.get? c=some o->g3.get? c=some o:=fun c o c1 c2 q=>s3.extBut _ _ c1 (s2.extBut _ _ c1 (s1.extBut _ _ c2 q))
  show wpAny _ _ (Builtin.SmallTypes.ownedTupleIsFree (Value.ref e)>>=_) _ _ (Shared.mk (g3.push { cls:=.type "tuple",data:=.seq #[.int k tk,x] }) g d (tk+1) os);refine wpAny_bind ?_;unfold Builtin.SmallTypes.ownedTupleIsFree;refine wpAny_bind (wpAny_field e4 rfl (x:=Value.none) rfl (wpAny_pure ?_));simp only [if_true];refine wpAny_bind (wpAny_rule ?_);refine wpAny_bind (wpAny_field e4 rfl (x:=old) rfl ?_);refine wpAny_bind (wpAny_setField_rec e4 (by simp) fun g5 e5 s5=>?_);replace s5:Heap.SameBut e (g3.push { cls:=.type "tuple",data:=.seq #[.int k tk,x] }) g5:=s5;replace e5:iU g5 e i ((k:Int)+1) .none x:=e5;show wpAny _ _ (Builtin.SmallTypes.ownedTupleHandOut (Value.ref e) (Value.ref g3.objs.size)>>=_) _ _ (Shared.mk g5 g d (tk+1) os);refine wpAny_bind ?_;unfold Builtin.SmallTypes.ownedTupleHandOut;refine wpAny_bind (wpAny_setField_rec e5 (by simp) fun g6 e6 s6=>?_);replace s6:Heap.SameBut e g5 g6:=s6;replace e6:iU g6 e i ((k:Int)+1) (rawInt g3.objs.size) x:=e6;refine wpAny_setField_rec e6 (by simp) fun g7 e7 s7=>?_
  replace s7:Heap.SameBut e g6 g7:=s7;replace e7:iU g7 e i ((k:Int)+1) (rawInt g3.objs.size) x:=e7;have up:∀ c o,c≠e->g3.get? c=some o->g7.get? c=some o:=fun c o c1 q=>s7.extBut _ _ c1 (s6.extBut _ _ c1 (s5.extBut _ _ c1 (Heap.get?_push_of_some _ q)))
  have t7:IsPair g7 g3.objs.size (.int k tk) x:=s7.extBut _ _ (Nat.ne_of_gt elt) (s6.extBut _ _ (Nat.ne_of_gt elt) (s5.extBut _ _ (Nat.ne_of_gt elt) t4));rw [hsz] at e7 t7;refine wpAny_bind (wpAny_letGo (wpAny_pure ⟨_,rfl,?_⟩));show Q (.ref g3.objs.size) _;rw [hsz];exact hQ g7 x e7 (i3.keep (fun o q=>up _ _ hei.symm q) fun o q=>up _ _ hle q) t7 fun c o c1 c2 q=>up c o c1 (k3 c o c1 c2 q)
theorem uO {x old:Value} {Q:Option Value->Shared->Prop} (he:iU s.heap e i k .none old) (it:pE s.heap i l k xs) (hli:l≠i) (hle:l≠e) (hei:e≠i) (hx:xs[k]?=some x)
    (hQ:∀ h' old',iU h' e i ((k:Int)+1) (rawInt s.heap.objs.size) old'->pE h' i l (k+1) xs->IsPair h' s.heap.objs.size (.int k s.toks) x->(∀ c o,c≠e->c≠i->s.heap.get? c=some o->h'.get? c=some o)->Q (some (.ref s.heap.objs.size)) { s with heap:=h',toks:=s.toks+1 }) :
    wpAny (model prog w) A (pyNext (.ref e)) Q E s:=by
  have hT:s.TypeIs (.ref e) "enumerate" := ⟨_,he,rfl⟩
  unfold pyNext;exact wpAny_bind (wpAny_attempt (wpAny_callSpecial?_slot (name:=Str.ofString "__next__") hT F.slot_enumerate_next (wpAny_call_entry F.slot_enumerate_next hT F.entry_enumerate_next (uN he it hli hle hei hx fun h' o a b c d=>wpAny_pure (hQ h' o a b c d)) (F.args_enumerate_next_1 _))))
theorem wH {old:Value} {Q:Option Value->Shared->Prop} (hh:A.handled=none) (he:iU s.heap e i k .none old) (it:pE s.heap i l k xs) (hx:xs[k]?=none) (hQ:∀ h',(∀ c o,c≠i->s.heap.get? c=some o->h'.get? c=some o)->Q none { s with heap:=h' }) :
    wpAny (model prog w) A (pyNext (.ref e)) Q E s:=by
  have hT:s.TypeIs (.ref e) "enumerate" := ⟨_,he,rfl⟩
  unfold pyNext;refine wpAny_bind (wpAny_attempt (wpAny_callSpecial?_slot (name:=Str.ofString "__next__") hT F.slot_enumerate_next (wpAny_call_entry F.slot_enumerate_next hT F.entry_enumerate_next ?_ (F.args_enumerate_next_1 _))));show wpAny _ _ (field (Value.ref e) 2>>=_) _ _ _;refine wpAny_bind (wpAny_field he rfl (x:=Value.ref i) rfl ?_);refine wpAny_bind (vo hh it hx fun h' x k1 zq0=>?_);obtain ⟨o,ho,hc⟩:=zq0;exact wpAny_bind (wpAny_isInstance (T := "StopIteration") (b:=true) ⟨o,ho,hc⟩ isSubtype_stop (wpAny_pure (hQ _ fun c o c1 q=>k1 c o c1 q)))
theorem wI (l:Addr) (xs:Array Value):Meets (Builtin.«enumerate.__new__» ⟨[.type "enumerate",.ref l],[]⟩) (fun _ R s=>A3 s.heap l xs /\
    ∀ h',iU h' (s.heap.objs.size+1) s.heap.objs.size 0 .none .none->pE h' s.heap.objs.size l 0 xs->(∀ c o,s.heap.get? c=some o->h'.get? c=some o)->R (.ok (.ret (.ref (s.heap.objs.size+1)))) { s with heap:=h' }) :=
  .of_wp fun prog w A R s h=>by
    obtain ⟨hp,g,d,tk,os⟩:=s;obtain ⟨h1,h⟩:=h;have hsub:=sub_enumerate;have fin:∀ oi:Obj,pE (hp.push oi) hp.objs.size l 0 xs->R (.ok (.ret (.ref (hp.push oi).objs.size))) ⟨(hp.push oi).push { cls:=.type "enumerate",data:=.fields #[.none,.bool false,.ref hp.objs.size,rawInt 0,.none,.none] },g,d,tk,os⟩:=fun oi hi=>by
      have e1:(hp.push oi).objs.size=hp.objs.size+1:=Heap.size_push ..;rw [e1];refine h _ ?_ (hi.keep (fun o q=>Heap.get?_push_of_some _ q) fun o q=>Heap.get?_push_of_some _ q) fun c o q=>Heap.get?_push_of_some _ (Heap.get?_push_of_some _ q)
      show Heap.get? _ (hp.objs.size+1)=_;rw [<- e1];exact Heap.get?_push_size _ rfl
    rcases h1 with h1 | h1
    · have l1:Heap.IsList (Shared.heap ⟨hp,g,d,tk,os⟩) l xs:=h1;obtain ⟨o,ho,_,_,_⟩:=id h1;have ho':(Shared.heap ⟨hp,g,d,tk,os⟩).get? l=some o:=ho
      wp_walk using wpAny_loadPart' ho'
      refine wpAny_stack_any fun st=>wpAny_pure ?_
      split
      · rename_i c _ _ _ _ _;cases (c==Value.type "enumerate")
        · wp_walk using wpAny_loadPart' ho',wpAny_pyIter_list l1
          exact ⟨_,rfl,fin _ (.inl ⟨⟨_,Heap.get?_push_size _ rfl,rfl,rfl⟩,Heap.IsList.push h1 _⟩)⟩
        · wp_walk using wpAny_loadPart' ho',wpAny_pyIter_list l1
          exact ⟨_,rfl,fin _ (.inl ⟨⟨_,Heap.get?_push_size _ rfl,rfl,rfl⟩,Heap.IsList.push h1 _⟩)⟩
      · wp_walk using wpAny_loadPart' ho',wpAny_pyIter_list l1
        exact ⟨_,rfl,fin _ (.inl ⟨⟨_,Heap.get?_push_size _ rfl,rfl,rfl⟩,Heap.IsList.push h1 _⟩)⟩
    · have l1:Heap.IsTuple (Shared.heap ⟨hp,g,d,tk,os⟩) l xs:=h1;obtain ⟨o,ho,_,_,_⟩:=id h1;have ho':(Shared.heap ⟨hp,g,d,tk,os⟩).get? l=some o:=ho
      wp_walk using wpAny_loadPart' ho'
      refine wpAny_stack_any fun st=>wpAny_pure ?_
      split
      · rename_i c _ _ _ _ _;cases (c==Value.type "enumerate")
        · wp_walk using wpAny_loadPart' ho',wpAny_pyIter_tuple l1
          exact ⟨_,rfl,fin _ (.inr ⟨⟨_,Heap.get?_push_size _ rfl,rfl,rfl⟩,Heap.IsTuple.push h1 _⟩)⟩
        · wp_walk using wpAny_loadPart' ho',wpAny_pyIter_tuple l1
          exact ⟨_,rfl,fin _ (.inr ⟨⟨_,Heap.get?_push_size _ rfl,rfl,rfl⟩,Heap.IsTuple.push h1 _⟩)⟩
      · wp_walk using wpAny_loadPart' ho',wpAny_pyIter_tuple l1
        exact ⟨_,rfl,fin _ (.inr ⟨⟨_,Heap.get?_push_size _ rfl,rfl,rfl⟩,Heap.IsTuple.push h1 _⟩)⟩
theorem uA {Q:Value->Shared->Prop} {l:Addr} (h1:A3 s.heap l xs)
    (h:∀ h',iU h' (s.heap.objs.size+1) s.heap.objs.size 0 .none .none->pE h' s.heap.objs.size l 0 xs->(∀ c o,s.heap.get? c=some o->h'.get? c=some o)->Q (.ref (s.heap.objs.size+1)) { s with heap:=h' }) :
    wpAny (model prog w) A (call (.type "enumerate") [.ref l]) Q E s:=by
  refine callType_new F.called_enumerate (by decide) (F.typeCall_enumerate_1 _) (F.newCall_enumerate_1 _) (fun obj=>F.args_object_init_2 obj _) F.entry_enumerate_new (wI l xs) ⟨h1,fun h' e S k=>?_⟩;exact ⟨⟨_,e,rfl⟩,h h' e S k⟩
end
end D2
namespace D2
open PySem PySem.Spec PyProof.Rows L2
noncomputable def EZ (K:PySem.W.Frag) (l:Addr) (b:Bool):It :=
  ⟨fun i H=>∃ xs x,yG K H l xs b/\xs[i]?=some x,fun i H v H'=>∃ a x,H a=none/\v=.ref a/\H'=cI H a (.tup [.int i,x])/\∀ xs,yG K H l xs b->xs[i]?=some x,fun i H=>∃ xs,yG K H l xs b/\xs.length<=i⟩
structure Gh (e i l:Addr) (b:Bool) (k:Nat) (h:Heap):Prop where
  ee:∃ old,iU h e i k .none old
  ii:i4 h i l k b
theorem vH {P:Program} {w:World} {K:PySem.W.Frag} {elts:List Expr} {x1} {pos:Pos} {e i l:Addr} {b:Bool} (hei:e≠i) (hle:l≠e) (hli:l≠i):rJ P w K (.Tuple elts x1 pos) (EZ K l b) [e,i] e (Gh e i l b) where
  mem:=by simp
  obj:=fun k h st a ha=>by
    simp only [List.mem_cons,List.not_mem_nil,or_false] at ha;rcases ha with rfl | rfl
    · obtain ⟨_,q⟩:=st.ee;exact ⟨_,q,fun v e=>by cases e⟩
    · exact st.ii.there
  keep:=fun k h h' st kp=>⟨let ⟨o,q⟩:=st.ee;⟨o,kp e (by simp) _ q⟩,st.ii.keep fun o q=>kp i (by simp) o q⟩
  item:=by
    intro X hP hw hK hc k pins s σ H E I hf st hg;subst hP hw hK;obtain ⟨xs,x,h1,hx⟩:=hg;obtain ⟨its,rv,_,p1⟩:=sh I h1;obtain ⟨u,hu,ru⟩:=rv.get hx;obtain ⟨old,he⟩:=st.ee;refine uO he (p1 _ _ st.ii) hli hle hei (x:=u) (by simpa using hu) fun h' old' e' i' hp kp=>⟨_,rfl,?_⟩
    have elt:e < s.heap.objs.size:=Heap.lt_size he;have hob:∀ a∈[e,i],a < s.heap.objs.size:=fun a ha=>by
      simp only [List.mem_cons,List.not_mem_nil,or_false] at ha;rcases ha with rfl | rfl
      · exact elt
      · obtain ⟨o,q,_⟩:=st.ii.there;exact Heap.lt_size q
    have hn:H s.heap.objs.size=none:=I.hok.fresh (Nat.le_refl _);refine wpAny_letOwnedTupleGo_enum (s:={ s with heap:=h',toks:=s.toks+1 }) e' fun h2' e2 sb=>?_
    have up:∀ a o,a≠e->h'.get? a=some o->h2'.get? a=some o:=fun a o ha q=>sb.extBut a o ha q
    refine ⟨.ref s.heap.objs.size,_,zj (s:=s) (t':=s.toks+1) (fp:=[e,i]) (h':=h2') (u1:=.int k s.toks) (u2:=u) (v1:=.int k) (v2:=x) I hf hob (up _ _ (Nat.ne_of_gt elt) hp) (fun a o ha q=>?_) ⟨_,rfl⟩ ru,rfl,⟨_,x,hn,rfl,rfl,fun zs hz=>by rw [si I h1 hz];exact hx⟩,?_,fun a ha=>?_⟩
    · simp only [List.mem_cons,List.not_mem_nil,or_false,not_or] at ha;exact up a o ha.1 (kp a o ha.1 ha.2 q)
    · have i2:i4 h' i l (k+1) b:=by
        refine i'.toB fun ys=>?_
        cases hb:b
        · subst hb;refine ⟨fun z=>(by cases z),fun _ w=>?_⟩;obtain ⟨_,_,pl,_⟩:=I.list h1;obtain ⟨o,q,r⟩:=pl.isList;exact gQ (h:=h') (xs:=_) ⟨o,kp _ _ hle hli q,r⟩ w
        · subst hb;refine ⟨fun _ w=>?_,fun z=>by cases z⟩;obtain ⟨_,_,pl,_⟩:=I.tuple h1;obtain ⟨o,q,r⟩:=pl;exact gQ (h:=h') w ⟨o,kp _ _ hle hli q,r⟩
      exact ⟨⟨_,by have q:iU h2' e i ((k:Int)+1) .none old':=e2;simpa using q⟩,i2.keep fun o q=>up _ _ hei.symm q⟩
    · rw [aA (Nat.ne_of_lt (hob a ha))];exact (hf a ha).1
  done:=by
    intro X hP hw hK hc k pins s σ H E I hf st hg;subst hP hw hK;obtain ⟨xs,h1,hl⟩:=hg;obtain ⟨its,rv,_,p1⟩:=sh I h1;obtain ⟨old,he⟩:=st.ee;have e1:=rv.length;refine wH (I.ok.hd hc) he (p1 _ _ st.ii) (by simp;omega) fun h' kp=>⟨rfl,kB (t':=s.toks) (fp:=[e,i]) I (fun a o ha q=>?_) hf⟩
    simp only [List.mem_cons,List.not_mem_nil,or_false,not_or] at ha;exact kp a o ha.2 q
  self:=fun _ _ _ _ _ st h=>let ⟨_,q⟩:=st.ee;wpAny_pyIter_enum q h
noncomputable def eD:Nat->List PyData->List PyData
  | _,[]=>[]
  | k,d::ds=>.tuple [.int k,d]::eD (k+1) ds
theorem iL:∀ (k:Nat) (ds:List PyData),(eD k ds).length=ds.length
  | _,[]=>rfl
  | k,d::ds=>by unfold eD;rw [List.length_cons,List.length_cons,iL]
theorem nD:∀ {k:Nat} {ds:List PyData} {i:Nat} {d:PyData},(eD k ds)[i]?=some d->∃ x,ds[i]?=some x/\d=.tuple [.int ((k+i:Nat):Int),x]
  | k,[],i,d,h=>by unfold eD at h;simp at h
  | k,x::ds,0,d,h=>by
    unfold eD at h;simp at h;exact ⟨x,rfl,by rw [<- h];simp⟩
  | k,x::ds,i+1,d,h=>by
    unfold eD at h;rw [List.getElem?_cons_succ] at h;obtain ⟨y,h1,h2⟩:=nD h;refine ⟨y,by simpa using h1,?_⟩;rw [h2];have:k+1+i=k+(i+1):=by omega
    rw [this]
theorem wV {K:PySem.W.Frag} {l:Addr} {b:Bool} {xs:List PyData}:yn (EZ K l b) (fun H=>A4 H l xs b) (eD 0 xs) where
  go:=fun i H h1 hi=>by
    rw [iL] at hi;obtain ⟨vs,s1,r1⟩:=h1.sq (K:=K);obtain ⟨x,hx,_⟩:=r1.get (List.getElem?_eq_getElem hi);exact ⟨vs,x,s1,hx⟩
  yld:=fun i H v H' d h1 hd h=>by
    obtain ⟨a,x,ha,rfl,rfl,k1⟩:=h;obtain ⟨vs,s1,r1⟩:=h1.sq (K:=K);obtain ⟨dx,e1,rfl⟩:=nD hd;obtain ⟨x',hx,px⟩:=r1.get e1;have q1:=k1 vs s1;rw [hx] at q1;cases q1;refine ⟨bM ha _,eL ha (aZ.cons ?_ (aZ.cons px aZ.nil))⟩;rw [Nat.zero_add];exact cC
  stop:=fun i H h1 hi=>by
    rw [iL] at hi;obtain ⟨vs,s1,r1⟩:=h1.sq (K:=K);have l1:=r1.length;exact ⟨vs,s1,by omega⟩
section
variable {X:Cx} {elts:List Expr} {x1:Nat} {tp:Pos} {a b:Expr} {fa fb:Fe} {pos p:Pos} {nl:Nat} {G:List Str} {fs:ay->R (List PyData)}
noncomputable def Gs (K:PySem.W.Frag) (ta:TA):TI:=fun σ H R=>ta σ H fun vs H1=>∃ l xs b,vs=[.ref l]/\yG K H1 l xs b/\R (EZ K l b) H1
theorem zL {ta:TA} (hg:Gl X "enumerate") (hm:X.mg "enumerate" = none) (ha:PA X [a] ta) (hs:starEach [a] X.env=[(false,eval a X.env)]):PI X (.Tuple elts x1 tp) (.Call (.Name "enumerate" p) [a] [] pos) (Gs X.K ta):=by
  intro pins s σ H R I h;refine Call_ (jj I hg hm boot_enumerate (PyProof.Rows.callWith_type1 (cR (ha pos pins s σ H _ I h) fun us s1 zq0=>?_) hs rfl));obtain ⟨vs,H1,I1,r1,q1⟩:=zq0;obtain ⟨l,xs,b,e,h1,q⟩:=q1;subst e;obtain ⟨u,rfl,ru⟩:=eX r1;cases ru;obtain ⟨its,w1,p1,g1⟩:=sh I1 h1;have ll:l < s1.heap.objs.size:=by rcases p1 with ⟨o,e,_⟩ | ⟨o,e,_⟩ <;> exact Heap.lt_size e
  refine uA p1 fun h' hz S kp=>wpAny_pyIter_enum hz ?_
  have I2:aC X pins σ H1 { s1 with heap:=h' }:=I1.kept (t':=s1.toks) kp;have i2:i4 h' s1.heap.objs.size l 0 b:=S.toB (wU I1 h1 kp);refine ⟨_,[s1.heap.objs.size+1,s1.heap.objs.size],_,_,H1,rfl,I2,vH (b:=b) (Nat.ne_of_gt (Nat.lt_succ_self _)) (Nat.ne_of_lt (Nat.lt_succ_of_lt ll)) (Nat.ne_of_lt ll),⟨⟨_,hz⟩,i2⟩,fun a ha=>?_,q⟩;have hle:s1.heap.objs.size<=a:=by
    simp only [List.mem_cons,List.not_mem_nil,or_false] at ha;rcases ha with rfl | rfl
    · exact Nat.le_add_right _ 1
    · exact Nat.le_refl _
  exact I1.fpOk hle (I1.hok.fresh hle)
noncomputable def qC (fa:Fe):ay->R (List PyData):=fun ρ=>fa ρ>>=fun x=>jr x>>=fun xs=>.ok (eD 0 xs)
theorem um (T:Tb X nl G) (j:Nat) (hG:G[j]?=some ("enumerate" : Str)) (hm:X.mg "enumerate" = none) (ha:Z.cm X a fa) (h1:aM a=true:=by rfl):Z.mC X (.Tuple elts x1 tp) (.Call (.Name "enumerate" p) [a] [] pos) (qC fa):=⟨have ha:=ha.un;by
  have g:=T.gl _ (List.mem_of_getElem? hG);refine PI.imp (zL g.1 hm (gN ha jd h1) (by rw [bu h1];rfl)) fun σ H Rk h=>?_
  obtain ⟨ρ,sl,q⟩:=h;unfold qC at q;refine ⟨ρ,sl,?_⟩;unfold ah az;cases e1:fa ρ with
  | ex c=>rw [e1] at q;exact q
  | no=>rw [e1] at q;exact q
  | ok x =>
    rw [e1] at q;simp only [R.ok_bind] at q ⊢;cases e3:jr x with
    | ex c=>exact absurd e3 (by cases x <;> simp [jr])
    | no=>rw [e3] at q;exact q.elim
    | ok xs =>
      rw [e3] at q;simp only [R.ok_bind] at q;intro vs H1 s1 ra;simp only [RA] at ra;obtain ⟨v,r',rfl,p1,rfl⟩:=ra;obtain ⟨l,b1,rfl,d1⟩:=B0 p1 e3;obtain ⟨us,u1,_⟩:=d1.sq (K:=X.K);exact ⟨l,us,b1,rfl,u1,q _ H1 s1 ⟨_,wV,fun H2 k _=>d1.kp k⟩⟩⟩
end
noncomputable def ym:List PyData->List PyData->List PyData->List PyData
  | x::xs,y::ys,z::zs=>.tuple [x,y,z]::ym xs ys zs
  | _,_,_=>[]
section
variable {X:Cx} {elts:List Expr} {x1:Nat} {tp:Pos} {a b c:Expr} {fa fb fc:Fe} {pos p:Pos} {nl:Nat} {G:List Str} {fs:ay->R (List PyData)}
noncomputable def sT:PyData->R (List PyData)
  | .tuple ds=>.ok ds
  | _=>.no
noncomputable def Dt (fa fb fc:Fe):ay->R (List PyData):=fun ρ=>fa ρ>>=fun x=>fb ρ>>=fun y=>fc ρ>>=fun z=>sT x>>=fun xs=>sT y>>=fun ys=>sT z>>=fun zs=>.ok (ym xs ys zs)
end
section
variable {X:Cx} {nl:Nat} {G:List Str} {x:Str} {e:Expr} {f:Fe} {q1 q2 q3 q4:Pos}
theorem kq (T:Tb X nl G) (n:Nat) (hN:X.N[n]?=some x) (he:Z.cm X e f) (hst:aM e=true:=by rfl) (hline:(q2.endLine==q3.line)=true:=by rfl) (hs:swapsWith (.Call (.Attribute (.Name x q1) "append" q2) [e] [] q3) none q4.line X.env=pure false:=by rfl) (hbase:attributeBase (.Name x q1) "append" X.env (eval (.Name x q1) X.env)=eval (.Name x q1) X.env:=by rfl):Z.ju X (.Expr (.Call (.Attribute (.Name x q1) "append" q2) [e] [] q3) q4) (fT n f):=⟨have he:=he.un;fun Fm=>by
  have hm:=T.vis x (List.mem_of_getElem? hN);have sc:starEach [e] X.env=(false,eval e X.env)::starEach [] X.env:=bu hst;refine PS.imp (zO (tW PySem.F.plainAttrs_list PySem.F.slot_list_append PySem.F.type_list_append nQ (iy hN hm.1 hm.2.1 hm.2.2) (gN he jd hst) hbase (by rw [sc];rfl) hline sc rfl) hs) fun D σ H h=>?_
  obtain ⟨ρ,sl,q⟩:=h;unfold fT at q;cases ef:f ρ with
  | ex c=>rw [ef] at q;exact q.elim
  | no=>rw [ef] at q;exact q.elim
  | ok d =>
    rw [ef] at q;simp only [kh,R.ok_bind] at q;cases er:ρ[n]? with
    | none=>rw [er] at q;exact q.elim
    | some c =>
      rw [er] at q;cases c with
      | non=>exact q.elim
      | exc p=>exact q.elim
      | val d'=>exact q.elim
      | own d' =>
        cases d' with
        | list ds =>
          dsimp only at q;by_cases hz:ds.length < sizeLine
          · rw [if_pos hz] at q;obtain ⟨o,h2,w',rfl,p2⟩:=sl.sl.at er;simp only [gs] at p2;obtain ⟨a',vs,rfl,ha,r⟩:=p2;refine ⟨.ref a',h2,.inl ⟨rfl,_,kQ.of ha⟩,ρ,sl.sl,?_⟩;unfold ah az;rw [ef];intro us H1 s1 ra;simp only [RA] at ra;obtain ⟨v,r',rfl,p1,rfl⟩:=ra;have ha1:=s1 _ _ ha;refine ⟨a',vs,v,rfl,rfl,ha1,by rw [r.length];exact hz,q _ _ ((sl.mono s1).change er h2 ha1 (.inl ⟨_,rfl⟩) ?_)⟩;simp only [gs];exact ⟨a',_,rfl,bw,aZ.kp (gP ha1 (.inl ⟨_,rfl⟩)) _ _ (aZ.append (r.mono s1) (aZ.cons p1 aZ.nil))⟩
          · rw [if_neg hz] at q;exact q.elim
        | _=>exact q.elim⟩
end
noncomputable def gW (g:Fs):Fs:=fun ρ=>kh (g ρ)
theorem Tb.nox {X:Cx} {nl:Nat} {G:List Str} (T:Tb X nl G):Tb X.nox nl G:=⟨T.hu,T.calm,T.nd,T.vis,T.loc,T.gl⟩
section
variable {X:Cx} {nl:Nat} {G:List Str} {st:Stmt} {g:Fs} {pos:Pos}
theorem cX (h:Z.ju X.nox st g):Z.ju X st (gW g):=⟨have h:=h.un;fun Fm=>by
  intro pins s σ H D I ⟨ρ,sl,q⟩;refine wpAny_mono (h Fm pins s σ H D (I.wish _) ⟨ρ,sl,?_⟩) (fun _ _ q=>q.unwish) fun _ _ z=>False.elim z
  unfold gW at q;cases e:g ρ with
  | ok o =>
    rw [e] at q;cases o <;> exact q
  | ex c=>rw [e] at q;exact q.elim
  | no=>rw [e] at q;exact q.elim⟩
noncomputable def cZ (t:ay->R Bool) (g:Fs):Nat->Fs
  | 0,_=>.no
  | n+1,ρ=>t ρ>>=fun b=>if b=true then g ρ>>=fun o=>(match o with
      | .nx ρ2=>cZ t g n ρ2
      | .ct ρ2=>cZ t g n ρ2
      | .bk ρ2=>.ok (.nx ρ2)
      | .rt r=>.ok (.rt r)) else .ok (.nx ρ)
noncomputable def pk (n:Nat) (t:ay->R Bool) (g:Fs):Fs:=cZ t g n
theorem ly {c:Expr} {body:List Stmt} {t:ay->R Bool} (n:Nat) (hp:PassesOwn (model X.prog X.w) X.A X.env X.xe) (ht:Z.mD X c t) (hb:Z.jZ X body g):Z.ju X (.While c body [] pos) (pk n t g):=⟨have ht:=ht.un;have hb:=hb.un;fun Fm=>by
  refine PS.imp (xE hp ht (hb Fm)) fun D σ H ⟨ρ,sl,q⟩=>⟨fun m σ' H'=>∃ ρ',gf Fm H' σ' ρ'/\yu X Fm (cZ t g m ρ') D,⟨n,ρ,sl,q⟩,fun m σ1 H1 zq0=>?_⟩
  obtain ⟨ρ1,sl1,q1⟩:=zq0;cases m with
  | zero=>exact q1.elim
  | succ k =>
    have q2:AM X Fm (fun ρ=>t ρ>>=fun b=>if b=true then g ρ>>=fun o=>(match o with
      | .nx ρ2=>cZ t g k ρ2
      | .ct ρ2=>cZ t g k ρ2
      | .bk ρ2=>.ok (.nx ρ2)
      | .rt r=>.ok (.rt r)) else .ok (.nx ρ)) D σ1 H1:=⟨ρ1,sl1,q1⟩
    refine (tq (f:=t) (k:=fun ρ b=>if b=true then g ρ>>=fun o=>(match o with
      | .nx ρ2=>cZ t g k ρ2
      | .ct ρ2=>cZ t g k ρ2
      | .bk ρ2=>.ok (.nx ρ2)
      | .rt r=>.ok (.rt r)) else .ok (.nx ρ)) q2).post fun b H2 ⟨ρ2,kH,_,q3⟩=>?_
    cases b with
    | false=>exact q3 σ1 H2 kH
    | true =>
      have q4:yu X Fm (g ρ2>>=fun o=>(match o with
      | .nx ρ2=>cZ t g k ρ2
      | .ct ρ2=>cZ t g k ρ2
      | .bk ρ2=>.ok (.nx ρ2)
      | .rt r=>.ok (.rt r))) D:=q3
      show if true=true then _ else _
      rw [if_pos rfl];refine ⟨fun σ' H'=>∃ ρ',gf Fm H' σ' ρ'/\yu X Fm (cZ t g k ρ') D,fun σ' H' z=>⟨k,Nat.lt_succ_self k,z⟩,ρ2,kH,?_⟩;cases eg:g ρ2 with
      | ex c=>rw [eg] at q4;exact q4
      | no=>rw [eg] at q4;exact q4
      | ok o =>
        rw [eg] at q4;cases o with
        | nx ρ4=>exact fun σ' H' s'=>⟨ρ4,s',q4⟩
        | ct ρ4=>exact fun σ' H' s'=>⟨ρ4,s',q4⟩
        | bk ρ4=>exact q4
        | rt r=>exact q4⟩
end
abbrev CS:List Value:=[.type "ValueError",.type "Exception",.type "BaseException",.type "object"]
abbrev Dv:String := "ValueError.__new__"
section
variable {K:PySem.W.Frag} {h:Heap} {C:Addr}
inductive CD (h:Heap) (C:Addr) (bm:List Value):Prop
  | mk (N nm q bs hdct sn sub ab col dd k0 k1 k2 k3 k5 mN) (e:h.get? C=some (excClassObj nm q C N bs bm hdct sn sub ab col dd k0 k1 k2 k3 k5 Dv)) (n:h.Ns N mN) (i:mN "__init__" = none) (t:OwnTail h CS bm)
noncomputable def rT (K:PySem.W.Frag) (C:Addr):List Value:=match K.lookup C with
  | some ⟨_,_,.cls cd,_⟩=>cd.mro.drop 1
  | _=>[]
theorem yT {p:Prop} [Decidable p] {f:p->Bool} (hn:¬ p) (h:dite p f (fun _=>false)=true):False:=by
  rw [dif_neg hn] at h;cases h
inductive F4 (mro:List Value) (sl:List (Option Value)) (f:Addr->List Value->Option Value->Option Value->Option Value->Option Value->String->Option Value->Bool):Prop
  | mk (C':Addr) (bm:List Value) (k0 k1 k2 k3:Option Value) (n:String) (k5:Option Value) (e1:mro=.ref C'::bm) (e2:sl=[k0,k1,k2,k3,some (.builtin n),k5]) (q:f C' bm k0 k1 k2 k3 n k5=true)
theorem Bn {sl:List (Option Value)} {C':Addr} {bm:List Value} {f:Addr->List Value->Option Value->Option Value->Option Value->Option Value->String->Option Value->Bool} (q:PySem.W.excIn.match_1 (fun _ _=>Bool) (.ref C'::bm) sl f (fun _ _=>false)=true):F4 (.ref C'::bm) sl f:=by
  rcases sl with _ | ⟨k0,_ | ⟨k1,_ | ⟨k2,_ | ⟨k3,_ | ⟨k4,sl⟩⟩⟩⟩⟩
  · exact Bool.noConfusion q
  · exact Bool.noConfusion q
  · exact Bool.noConfusion q
  · exact Bool.noConfusion q
  · exact Bool.noConfusion q
  cases k4 with
  | none=>exact Bool.noConfusion q
  | some k4 =>
    cases k4 with
    | builtin n =>
      rcases sl with _ | ⟨k5,_ | ⟨k6,sl⟩⟩
      · exact Bool.noConfusion q
      · exact ⟨C',bm,k0,k1,k2,k3,n,k5,rfl,rfl,q⟩
      · exact Bool.noConfusion q
    | _=>exact Bool.noConfusion q
theorem zd {mro:List Value} {sl:List (Option Value)} {f:Addr->List Value->Option Value->Option Value->Option Value->Option Value->String->Option Value->Bool} (q:PySem.W.excIn.match_1 (fun _ _=>Bool) mro sl f (fun _ _=>false)=true):F4 mro sl f:=by
  cases mro with
  | nil=>exact Bool.noConfusion q
  | cons c0 bm =>
    cases c0 with
    | ref C'=>exact Bn q
    | _=>exact Bool.noConfusion q
inductive Gi (ob:Obj) (g:Option Addr->ClassData->Array (Option Value)->Bool):Prop
  | mk (dd:Option Addr) (cd:ClassData) (sl:Array (Option Value)) (e:ob=⟨.type "type",dd,.cls cd,sl⟩) (q:g dd cd sl=true)
theorem ze {ob:Obj} {g:Option Addr->ClassData->Array (Option Value)->Bool} (q:PySem.W.excIn.match_6 (fun _=>Bool) (some ob) g (fun _=>false)=true):Gi ob g:=by
  obtain ⟨cls,dd,data,sl⟩:=ob;cases cls with
  | type ty =>
    by_cases e:ty = "type"
    · subst e;cases data with
      | cls cd=>exact ⟨dd,cd,sl,rfl,q⟩
      | _=>exact Bool.noConfusion q
    · exfalso;unfold PySem.W.excIn.match_6 at q;exact yT e q
  | _=>exact Bool.noConfusion q
theorem wv (X:K.In h) (q:PySem.W.excIn K C CS Dv=true):CD h C (rT K C):=by
  unfold PySem.W.excIn at q;unfold rT;cases hk:K.lookup C with
  | none=>rw [hk] at q;cases q
  | some ob =>
    rw [hk] at q;obtain ⟨dd,cd,sl,rfl,q⟩:=ze q;obtain ⟨nm,bs,mro,ns,qn,hd,sn,sub,ab,col,del⟩:=cd;obtain ⟨sl⟩:=sl;obtain ⟨C',bm,k0,k1,k2,k3,n,k5,hm,hs,q⟩:=zd q;simp only [Bool.not_eq_true',beq_iff_eq,Bool.and_eq_true] at q;obtain ⟨⟨⟨⟨⟨e1,e2⟩,hdel⟩,ht⟩,hok⟩,hni⟩:=q;dsimp only at hm hs hdel;subst e1;subst e2;subst hdel;subst hm;subst hs;exact ⟨ns,nm,qn,bs,hd,sn,sub,ab,col,dd,k0,k1,k2,k3,k5,_,X _ _ hk,.of_isNs (PySem.W.isNs_of_in X hok),PySem.W.nsMap_none_of_in X hok hni,PySem.W.tail_of_in X ht⟩
end
noncomputable def pj (x:Str) (f:Fe):Fs:=fun ρ=>kh (f ρ)>>=fun _=>.ex x
section
variable {X:Cx} {nl:Nat} {G:List Str} {x:Str} {e:Expr} {f:Fe} {np cp pos:Pos} {C:Addr}
theorem lw (T:Tb X nl G) (j:Nat) (hG:G[j]?=some x) (hm:X.mg x=some (.ref C)) (hq:PySem.W.excIn X.K C CS Dv=true) (he:Z.cm X.nox e f) (hst:aM e=true:=by rfl):Z.ju X (.Raise (some (.Call (.Name x np) [e] [] cp)) none pos) (pj x f):=⟨have he:=he.un;fun Fm=>by
  intro pins s σ H D I ⟨ρ,sl,q⟩;have hg:=T.gl x (List.mem_of_getElem? hG);have sc:starEach [e] X.env=(false,eval e X.env)::starEach [] X.env:=bu hst;obtain ⟨N,nm,qn,bs,hdct,sn,sub,ab,col,dd,k0,k1,k2,k3,k5,mN,hC,hN,hni,TL⟩:=wv (I.ok.mod.kin) hq;unfold pj at q;cases ef:f ρ with
  | ex c=>rw [ef] at q;exact q.elim
  | no=>rw [ef] at q;exact q.elim
  | ok d =>
    rw [ef] at q;simp only [kh,R.ok_bind] at q;refine wpAny_Raise_call_subT (C:=C) (nm:=nm) (q:=qn) (N:=N) (bs:=bs) (bm:=rT X.K C) (hdct:=hdct) (sn:=sn) (sub:=sub) (ab:=ab) (col:=col) (dd:=dd) (k0:=k0) (k1:=k1) (k2:=k2) (k3:=k3) (k5:=k5) PySem.F.excBase_ValueError (mN:=mN) (TL.hasType rfl) (I.ok.hd T.calm) (by rw [sc];rfl) hni (o6 I hg.1 hm ⟨rfl,?_⟩ hg.2.1);rw [sc];refine Calls.evalArgs_plain (wpAny_mono ?_ (fun vs s2 z=>⟨rfl,z⟩) fun _ _ y=>y);have ha:PA X.nox [e] (xL X.nox Rp (ah f az)):=gN he jd hst;have hw:=ha cp pins s σ H (fun vs H'=>vs.length=1/\ar H H') (I.wish _) ⟨ρ,sl.sl,by
      unfold ah az;rw [ef];intro vs H' s' ra;simp only [RA] at ra;obtain ⟨v,r,rfl,_,rfl⟩:=ra;exact ⟨rfl,s'⟩⟩
    rw [show (X.nox.env)=X.env from rfl,sc] at hw;refine wpAny_mono hw (fun us s2 zq0=>?_) fun _ _ z=>False.elim z
    obtain ⟨vs,H2,I2,r2,hl,s12⟩:=zq0;have I2:=I2.unwish;have hlen:us.length=1:=by rw [<- r2.length];exact hl
    exact ⟨by rw [hlen];decide,I2.bk _ _ hC,hN.keeps I2.bk,TL.keeps I2.bk,fun h' p mk=>q.2 C hm pins σ H2 s2 (sl.fm.trans s12) I2 h' p us mk⟩⟩
end
noncomputable def Xh (X:Cx) (p:Addr) (ob:Obj):Cx:={ X with A:=X.A.mark (some (.ref p)),calm:=false,xe:=fun _ _=>False,pn:=(p,ob)::X.pn }
structure Gn (X:Cx) (nl:Nat) (G:List Str):Prop where
  hu:X.A.units+64 < cLine
  nd:X.N.Nodup
  vis:∀ x∈X.N,A7 X.env.scope x/\(x==("__debug__" : Str))=false/\(x==("__classdict__" : Str))=false
  loc:∀ x∈X.N.take nl,A0 X.env.scope x/\(X.fn x=true\/X.env.scope.names.lookup x=some .local)
  gl:∀ x∈G,Gl X x/\(x==("__debug__" : Str))=false/\x≠("__name__" : Str)
theorem Tb.h {X:Cx} {nl:Nat} {G:List Str} (T:Tb X nl G) (p:Addr) (ob:Obj):Gn (Xh X p ob) nl G:=⟨T.hu,T.nd,T.vis,T.loc,T.gl⟩
noncomputable def F3 (X:Cx) (C:Addr) (hs:List ExceptHandler) (F:Addr->ay->R PyData):Prop :=
  ∀ (pins:List (Addr×Obj)) (σ:St) (Hc H:Hp) (sc s:Shared) (p:Addr) (Fm:Hp) (ρ:ay) (D:pO),aC X pins σ Hc sc->AY X.prog X.w X.stack Hc sc C H (.ref p) s->gf Fm H σ ρ ->
    (match F p ρ with
      | .ok d=>∀ v H',ar Fm H'->Rp H' d v->D.rt v H'
      | _=>False)->wpAny (model X.prog X.w) X.A (handleBy (.ref p) X.env hs) (SP X pins D) X.xe s
noncomputable abbrev Hs:=List (Str×(Addr->ay->R PyData))
inductive ug (X:Cx) (src:List ExceptHandler):Hs->Prop
  | nil:ug X src []
  | cons {c:Str} {C:Addr} {h:Addr->ay->R PyData} {hs:Hs} (hm:X.mg c=some (.ref C)) (he:F3 X C src h) (r:ug X src hs):ug X src ((c,h)::hs)
theorem ug.at {X:Cx} {src:List ExceptHandler} {c:Str} {h:Addr->ay->R PyData}:∀ {hs:Hs},ug X src hs->hs.lookup c=some h->∃ C,X.mg c=some (.ref C)/\F3 X C src h
  | _,.nil,e=>by cases e
  | _,.cons (c:=c') hm he r,e=>by
    rw [List.lookup_cons] at e;split at e
    · rename_i q;have:c=c':=by simpa using q
      subst this;cases e;exact ⟨_,hm,he⟩
    · exact ug.at r e
noncomputable def nk (p:Int->Int->Bool) (n:Int) (ns:List Int):Int:=ns.foldl (fun a b=>if p b a=true then b else a) n
theorem lG {p:Int->Int->Bool} {le:Int->Int->Prop} (h1:∀ a b,p b a=true->le b a) (h2:∀ a b,¬ p b a=true->le a b) (tr:∀ a b c,le a b->le b c->le a c) (rf:∀ a,le a a):∀ (ns:List Int) (n:Int),nk p n ns∈n::ns/\∀ a∈n::ns,le (nk p n ns) a
  | [],n=>⟨by simp [nk],fun a ha=>by simp at ha;subst ha;exact rf _⟩
  | m::ns,n=>by
    obtain ⟨g1,g2⟩:=lG h1 h2 tr rf ns (if p m n=true then m else n);have e:nk p n (m::ns)=nk p (if p m n=true then m else n) ns:=rfl;rw [e];refine ⟨?_,fun a ha=>?_⟩
    · rcases List.mem_cons.mp g1 with z | z
      · rw [z];split <;> simp
      · exact List.mem_cons_of_mem _ (List.mem_cons_of_mem _ z)
    · have k:=g2 _ List.mem_cons_self;rcases List.mem_cons.mp ha with rfl | ha
      · refine tr _ _ _ k ?_;split
        · rename_i z;exact h1 _ _ z
        · exact rf _
      · rcases List.mem_cons.mp ha with rfl | ha
        · refine tr _ _ _ k ?_;split
          · exact rf _
          · rename_i z;exact h2 _ _ z
        · exact g2 a (List.mem_cons_of_mem _ ha)
noncomputable def qL (n:Int) (ns:List Int):Int:=nk (fun b a=>decide (b < a)) n ns
theorem nP (n:Int) (ns:List Int):qL n ns∈n::ns/\∀ a∈n::ns,qL n ns<=a :=
  lG (le:=(·<=·)) (fun a b h=>by simp at h;omega) (fun a b h=>by simp at h;omega) (fun a b c=>Int.le_trans) Int.le_refl ns n
section
variable {X:Cx} {a b c:Expr} {fa fb fc:Fe} {pos p2:Pos} {nl:Nat} {G:List Str} {x:Str} {p:Pos}
theorem lW:∀ {its:List Value} {ns:List Int},IntsAre its ns->∃ ys:List (Int×Tok),its=ys.map (fun p=>Value.int p.1 p.2)/\ys.map (·.1)=ns
  | _,_,.nil=>⟨[],rfl,rfl⟩
  | _,_,.cons n t h=>by
    obtain ⟨ys,e1,e2⟩:=lW h;exact ⟨(n,t)::ys,by rw [List.map_cons,e1],by rw [List.map_cons,e2]⟩
theorem uF (hc:X.calm=true):c7 X (.builtin "min") (fun xs H Q=>∃ p n ns,xs=[.ref p]/\kQ X.K H p ((n::ns).map V.int)/\Q (.int (qL n ns)) H):=by
  intro pins s σ H xs us Q I r h;obtain ⟨p,n,ns,rfl,hq,q⟩:=h;obtain ⟨u,rfl,rx⟩:=eX r;cases rx;obtain ⟨its,rv,pl,hz⟩:=I.list hq;obtain ⟨ys,e1,e2⟩:=lW (eI rv);have hl:s.heap.IsList p (intItems ys.toArray):=by
    have:intItems ys.toArray=its.toArray:=by rw [e1];simp [intItems]
    rw [this];exact pl.isList
  have hlen:ys.length=ns.length+1:=by have:=congrArg List.length e2;simpa using this
  refine min_intList (I.ok.hd hc) hl (by simp;omega) fun v h' tk hv hk=>?_
  obtain ⟨t,rfl⟩:=intItems_at hv;obtain ⟨g1,g2⟩:=argBest_lt (numAt ys.toArray) (ys.toArray.size-1);generalize argBest (fun i j=>decide (numAt ys.toArray i < numAt ys.toArray j)) (ys.toArray.size-1)=w at g1 g2 hv ⊢;have el:ys.toArray.toList.map (·.1)=n::ns:=e2;have m1:numAt ys.toArray w∈n::ns:=by
    rw [numAt_eq,el];refine getD_mem ?_;simp at g1 ⊢;omega
  obtain ⟨k1,k2⟩:=nP n ns;have e3:numAt ys.toArray w=qL n ns:=by
    refine Int.le_antisymm ?_ (k2 _ m1);obtain ⟨j,hj,e⟩:=mem_getD k1;have:=g2 j (by simp at hj ⊢;omega);rw [numAt_eq ys.toArray j,el,e] at this;exact this
  rw [e3];exact ⟨.int _,H,I.kept hk,⟨_,rfl⟩,q⟩
noncomputable def qq:PyData->R PyData
  | .list ds=>match bz ds with
    | some (n::ns)=>.ok (.int (qL n ns))
    | _=>.no
  | _=>.no
theorem ut (T:Tb X nl G) (j:Nat) (hG:G[j]?=some ("min" : Str)) (hm:X.mg "min" = none) (ha:Z.cQ X a fa) (he:aM a=true:=by rfl):Z.cm X (.Call (.Name "min" p) [a] [] pos) (e1 qq fa):=⟨have ha:=ha.un;by
  refine ux T j hG hm dR PyProof.Rows.boot_min (uF T.calm) (fun H x d Q hx q=>?_) ha he;cases d with
  | list ds =>
    simp only [qq] at q;split at q
    · rename_i n ns ei;rw [cP ei] at hx;obtain ⟨a',vs,rfl,h,r⟩:=cU (K:=X.K) hx;rw [fI r] at h;exact ⟨a',n,ns,rfl,h,q _ H (ar.refl _) cC⟩
    · exact q.elim
  | _=>exact q.elim⟩
end
section
variable {X:Cx} {a b c:Expr} {fa fb fc:Fe} {pos p2:Pos} {nl:Nat} {G:List Str} {x:Str} {p:Pos} {fs:ay->R (List PyData)} {pos2:Pos}
noncomputable def ES (mk:List PyData->PyData):List PyData->R PyData
  | [.int j]=>if j<=16777216/\-(2 ^ 62)<=j then .ok (mk (ci 0 j.toNat)) else .no
  | _=>.no
noncomputable def De (fs:ay->R (List PyData)):Fe:=fun ρ=>fs ρ>>=ES .tuple
noncomputable def Dc (fs:ay->R (List PyData)):Fe:=fun ρ=>fs ρ>>=ES .list
end
section
variable {X:Cx} {a b:Expr} {fa fb:Fe} {pos p2:Pos}
noncomputable def CU:PyData->Option Int->Option Int->R PyData
  | .list xs,lo,hi=>.ok (.list (oQ xs lo hi))
  | _,_,_=>.no
noncomputable def Ft (fa:Fe) (lo hi:Fo):Fe:=fun ρ=>fa ρ>>=fun d=>lo ρ>>=fun l=>hi ρ>>=fun u=>CU d l u
end
theorem aZ.set {H:Hp} {d:PyData} {v:V} (p:Rp H d v):∀ {ds:List PyData} {vs:List V} (j:Nat),aZ H ds vs->aZ H (ds.set j d) (vs.set j v)
  | [],vs,j,r=>by rw [r.nil_inv];exact aZ.nil
  | d'::ds,vs,j,r=>by
    obtain ⟨v',r',rfl,p',t⟩:=r.cons_inv;cases j with
    | zero=>exact aZ.cons p t
    | succ j=>exact aZ.cons p' (aZ.set p j t)
section
variable {X:Cx} {nl:Nat} {G:List Str} {x:Str} {f:Fe} {e:Expr}
noncomputable def Fd (g:Int->Int->Int):PyData->PyData->R PyData
  | .int i,.int j=>.ok (.int (g i j))
  | _,_=>.no
noncomputable def FN (i:Nat) (g:Int->Int->Int) (f:Fe):Fs:=fun ρ=>ag i ρ>>=fun x=>f ρ>>=fun y=>Fd g x y>>=fun z=>.ok (.nx (ρ.set i (.val z)))
end
section
variable {X:Cx} {a b:Expr} {fa fb:Fe} {pos p:Pos} {nl:Nat} {G:List Str}
noncomputable def F7:PyData->PyData->R PyData
  | .str z,.int k=>if k=0\/k=1 then .ok (.str (if k=1 then z else Str.empty)) else .no
  | _,_=>.no
end
section
variable {X:Cx} {o e:Expr} {fo fe:Fe} {apos cpos:Pos}
theorem xf:Ez X "list.index" (fun x xs H Q=>∃ (l:Addr) (ns:List Int) (k:Int),x=.ref l/\xs=[.int k]/\kQ X.K H l (ns.map V.int)/\PyData.layable0 (.list (ns.map .int))=true/\k∈ns/\Q (.int (ns.idxOf k:Nat)) H):=by
  intro pins s σ H x xs v us Q I rx rs h;obtain ⟨l,ns,k,rfl,rfl,hq,hlay,hk,q⟩:=h;cases rx;obtain ⟨u,rfl,t,rfl⟩:=eX rs;obtain ⟨its,rv,pl,hz⟩:=I.list hq;exact index_list_ints pl.isList (eI rv) hlay hk ⟨.int _,H,I.tok _,⟨_,rfl⟩,q⟩
noncomputable def zk:PyData->R Unit
  | .list _=>.ok ()
  | _=>.no
noncomputable def gH:PyData->PyData->R PyData
  | .list ds,.int k=>match bz ds with
    | some ns=>if PyData.layable0 (.list ds)=true/\k∈ns then .ok (.int (ns.idxOf k:Nat)) else .no
    | none=>.no
  | _,_=>.no
noncomputable def lO (fo fe:Fe):Fe:=fun ρ=>fo ρ>>=fun x=>zk x>>=fun _=>fe ρ>>=fun y=>gH x y
theorem rL (ho:Z.cQ X o fo) (he:Z.cm X e fe) (hb:attributeBase o "index" X.env (eval o X.env)=eval o X.env:=by rfl) (hst:aM e=true:=by rfl) (hline:(apos.endLine==cpos.line)=true:=by rfl):Z.cm X (.Call (.Attribute o "index" apos) [e] [] cpos) (lO fo fe):=⟨have ho:=ho.un;have he:=he.un;by
  have sc:starEach [e] X.env=(false,eval e X.env)::starEach [] X.env:=bu hst;refine PE.imp (tW PySem.F.plainAttrs_list PySem.F.slot_list_index PySem.F.type_list_index xf ho (gN he jd hst) hb (by rw [sc];rfl) hline sc rfl) fun σ H Q h=>?_
  refine (da (P:=pG) (f:=fo) (k:=fun ρ x=>zk x>>=fun _=>fe ρ>>=fun y=>gH x y) (dG (X:=X) dR Q) h).post fun v H1 zq0=>?_
  obtain ⟨ρ1,d1,sl1,_,p1,q1⟩:=zq0;cases d1 with
  | list ds =>
    obtain ⟨a,vs,rfl,h1,r1⟩:=cU (K:=X.K) p1;refine ⟨.inl ⟨rfl,_,h1⟩,?_⟩;have q1:rz X gh (ah fe az ρ1>>=one (gH (.list ds))) H1 Q:=by
      have e0:(ah fe az ρ1>>=one (gH (.list ds)))=(fe ρ1>>=fun y=>gH (.list ds) y):=by
        unfold ah az;cases fe ρ1 <;> rfl
      rw [e0];exact q1
    refine (jc (I:=Rp) (f:=ah fe az) (k:=fun _=>one (gH (.list ds))) (dG (X:=X) dR Q) ⟨ρ1,sl1,q1⟩).post fun us H2 zq0=>?_
    obtain ⟨_,ds2,_,s2,p2,q2⟩:=zq0;unfold one at q2;split at q2
    · rename_i d2;simp only [RA] at p2;obtain ⟨w,r',rfl,p2,rfl⟩:=p2;cases d2 with
      | int k =>
        have ew:w=.int k:=by simpa only [Rp] using p2
        subst ew;simp only [gH] at q2;cases ei:bz ds with
        | none=>rw [ei] at q2;exact q2.elim
        | some ns =>
          rw [ei] at q2;dsimp only at q2;split at q2
          · rename_i hz;have p3:=fM.mono p1 s2;rw [cP ei] at p3;obtain ⟨a',vs',ea,h3,r3⟩:=cU (K:=X.K) p3;cases ea;rw [fI r3] at h3;exact ⟨a,ns,k,rfl,rfl,h3,by rw [<- cP ei];exact hz.1,hz.2,q2 _ H2 (ar.refl _) cC⟩
          · exact q2.elim
      | _=>exact q2.elim
    · exact q2.elim
  | _=>exact q1.elim⟩
end
noncomputable abbrev iZ:=List PyData->R PyData
structure i8 (P:Program) (w:World) (K:PySem.W.Frag) (mg:Str->Option Value) (base:Heap) (k:Nat) (x:Str) (ps:List Str) (F:iZ) (f:Addr) (fd:FuncData):Prop where
  ok:bj P w K mg base (di P w mg) k f fd ps (eo F ps.length)
  m:mg x=some (.ref f)
  kp:PySem.W.keepIn K (.ref f)=true
  b:bT K fd ps []
theorem aB {X:Cx} {k:Nat} {f:Addr} {fd:FuncData} {ps:List Str} {F:iZ} {x:Str} {p pos:Pos} {e:Expr} {es:List Expr} {fs:ay->R (List PyData)} {nl:Nat} {G:List Str} (C:i8 X.prog X.w X.K X.mg X.base k x ps F f fd) (hr:fB k X.A) (T:Tb X nl G) (j:Nat) (hG:G[j]?=some x) (ha:Z.ue X (e::es) fs) (hlen:(e::es).length=ps.length) (hfs:∀ ρ ds,fs ρ=.ok ds->ds.length=ps.length) (he:(e::es).all aM=true:=by rfl):Z.cm X (.Call (.Name x p) (e::es) [] pos) (aN F fs):=⟨have ha:=ha.un;zc C.ok hr T j hG C.m C.kp C.b ha hlen hfs he⟩
structure cS (K:PySem.W.Frag) (x:Str) (st:Stmt) (f:Addr) (fd:FuncData):Prop where
  ns:PySem.W.nsIn K mainGlobals x=some (some (.ref f))
  fn:h7 K x x st f fd
theorem aW {K:PySem.W.Frag} {x:Str} {st:Stmt} {f:Addr} {oc:Value} {od an:Option Addr} {osl:Array (Option Value)} {kV doc pm cdv ct:Value} (a:PySem.W.nsIn K mainGlobals x=some (some (.ref f))) (l:K.lookup f=some ⟨oc,od,.func (PySem.W.fnOf x x (dX st) (cN st) (ak st) .none kV doc pm an cdv ct),osl⟩) (c:PySem.W.codeIn K cdv x=true) (k:PySem.W.keepIn K (.ref f)=true) :
    cS K x st f (PySem.W.fnOf x x (dX st) (cN st) (ak st) .none kV doc pm an cdv ct):=⟨a,wK l c k⟩
noncomputable def B6 (i:Nat) (g:Fs):Fs:=fun ρ=>match ρ[i]? with
  | some (.own d)=>g (ρ.set i (.val d))
  | _=>g ρ
theorem s9 {X:Cx} {st:Stmt} {g:Fs} (i:Nat) (h:Z.ju X st g):Z.ju X st (B6 i g):=⟨have h:=h.un;fun Fm=>by
  intro pins s σ H D I ⟨ρ,sl,q⟩;unfold B6 at q;split at q
  · rename_i d e;obtain ⟨H2,v,I2,kH,_,_⟩:=wL I sl e;exact h Fm pins s σ H2 D I2 ⟨_,kH,q⟩
  · exact h Fm pins s σ H D I ⟨ρ,sl,q⟩⟩
end D2
namespace D2
open PySem PySem.Spec PySem.Calls PySem.W PyProof.Rows L2 Builtin Builtin.ObjectAttr Builtin.Getset_descriptor
end D2
namespace D2
open PySem PySem.Spec PyProof.Rows L2 PySem.Builtin PySem.Builtin.Str
end D2
set_option maxHeartbeats 400000
namespace D2
open PySem PySem.Spec PyProof.Rows L2 PySem.Builtin
end D2
namespace D2
open PySem PySem.Spec PyProof.Rows L2
section
variable {X:Cx} {nl:Nat} {G:List Str} {a:Expr} {fa:Fe} {p pos:Pos}
noncomputable def mH:List PyData->Option (List (bp×PyData))
  | []=>some []
  | .tuple [.str y,d]::r=>(mH r).map fun t=>(.inr y,d)::t
  | .tuple [.int i,d]::r=>(mH r).map fun t=>(.inl i,d)::t
  | _=>none
end
section
variable {X:Cx} {a b c:Expr} {fa fb fc:Fe} {pos p2:Pos} {nl:Nat} {G:List Str} {x:Str} {p:Pos}
theorem uz (hc:X.calm=true):c7 X (.builtin "any") (fun xs H Q=>∃ (p:Addr) (bs:List Bool),xs=[.ref p]/\kQ X.K H p (bs.map V.bl)/\Q (.bl (bs.any id)) H):=by
  intro pins s σ H xs us Q I r h;obtain ⟨p,bs,rfl,hq,q⟩:=h;obtain ⟨u,rfl,rx⟩:=eX r;cases rx;obtain ⟨its,rv,pl,hz⟩:=I.list hq;have hh:X.A.in1.handled=none:=I.ok.hd hc;have hlt:p≠s.heap.objs.size:=by obtain ⟨o,e,_⟩:=pl.isList;exact Nat.ne_of_lt (Heap.lt_size e)
  have hits:its=bs.map Value.bool:=by
    have key:∀ (bs:List Bool) (us:List Value),ba (bs.map V.bl) us->us=bs.map Value.bool:=by
      intro bs;induction bs with
      | nil=>intro us r;cases r;rfl
      | cons k bs ih=>intro us r;rw [List.map_cons] at r;cases r with | cons r1 r2=>rw [ih _ r2];cases r1;rfl
    exact key bs its rv
  refine call_any_walk (wpAny_pyIter_list pl.isList ?_);refine ⟨s.heap.objs.size,_,_,its.toArray.size,_,_,fun i=>(bs[i]?).getD false,rfl,Walks.list hh s.heap.objs.size p hlt its.toArray,⟨⟨_,Heap.get?_push_size _ rfl,rfl,rfl⟩,?_⟩,fun i v s' Q' E' hv hQ'=>?_,fun h' tk kp=>?_⟩
  · obtain ⟨o,e,r'⟩:=pl.isList;exact ⟨o,Heap.get?_push_of_some _ e,r'⟩
  · have hv':its[i]?=some v:=by simpa using hv
    rw [hits,List.getElem?_map] at hv';cases e:bs[i]? with
    | none=>rw [e] at hv';cases hv'
    | some k =>
      rw [e] at hv';cases hv';dsimp only at hQ';rw [e] at hQ';exact wpAny_truthy_bool hQ'
  · have e:((List.range its.toArray.size).any fun i=>(bs[i]?).getD false)=bs.any id:=by
      rw [List.size_toArray,hits,List.length_map];have key:∀ (l:List Bool),((List.range l.length).any fun i=>(l[i]?).getD false)=l.any id:=by
        intro l;induction l with
        | nil=>rfl
        | cons k l ih =>
          rw [List.length_cons,List.range_succ_eq_map,List.any_cons,List.any_map,List.any_cons,<- ih];rfl
      exact key bs
    rw [e];refine ⟨.bl (bs.any id),H,I.kept (t':=tk) fun b o g=>kp b o (fun z=>?_) (Heap.get?_push_of_some _ g),rfl,q⟩;rw [List.mem_singleton.mp z] at g;exact absurd (Heap.lt_size g) (Nat.lt_irrefl _)
noncomputable def oG:List PyData->Option Bool
  | []=>some false
  | .bool k::ds=>(oG ds).map fun r=>k||r
  | _=>none
noncomputable def mP:PyData->R PyData
  | .list ds=>match oG ds with
    | some k=>.ok (.bool k)
    | none=>.no
  | _=>.no
theorem qf:∀ {ds:List PyData} {k:Bool},oG ds=some k->∃ bs:List Bool,ds=bs.map PyData.bool/\k=bs.any id
  | [],k,h=>by cases h;exact ⟨[],rfl,rfl⟩
  | d::ds,k,h=>by
    cases d with
    | bool j =>
      simp only [oG] at h;cases e:oG ds with
      | none=>rw [e] at h;cases h
      | some r =>
        rw [e] at h;cases h;obtain ⟨bs,e1,e2⟩:=qf e;exact ⟨j::bs,by rw [e1];rfl,by rw [e2];rfl⟩
    | _=>cases h
theorem pX (T:Tb X nl G) (j:Nat) (hG:G[j]?=some ("any" : Str)) (hm:X.mg "any" = none) (ha:Z.cQ X a fa) (he:aM a=true:=by rfl):Z.cm X (.Call (.Name "any" p) [a] [] pos) (e1 mP fa):=⟨have ha:=ha.un;by
  refine ux T j hG hm dR PyProof.Rows.boot_any (uz T.calm) (fun H x d Q hx q=>?_) ha he;cases d with
  | list ds =>
    simp only [mP] at q;cases ei:oG ds with
    | none=>rw [ei] at q;exact q.elim
    | some k =>
      rw [ei] at q;obtain ⟨bs,e1,e2⟩:=qf ei;obtain ⟨a',vs,rfl,h,r⟩:=cU (K:=X.K) hx;rw [e1] at r;rw [kl r] at h;refine ⟨a',bs,rfl,h,?_⟩;rw [<- e2];exact q _ H (ar.refl _) eh
  | _=>exact q.elim⟩
end
section
variable {X:Cx} {tg o:Expr} {fo:Fe} {apos cpos:Pos}
noncomputable def AD:PyData->R (List PyData)
  | .dict kvs=>if fg kvs=true then .no else .ok (kvs.map (·.1))
  | _=>.no
noncomputable def AW:PyData->R (List PyData)
  | .dict kvs=>if fg kvs=true then .no else .ok (kvs.map (·.2))
  | _=>.no
noncomputable def Dl (f:Fe):ay->R (List PyData):=fun ρ=>f ρ>>=AD
noncomputable def Dr (f:Fe):ay->R (List PyData):=fun ρ=>f ρ>>=AW
end
end D2
namespace HT
open PySem PySem.Spec PyProof.Rows L2
section
open PySem.SeqAt
open PySem.AutoSeq1 (wpAny_loadPart')
open PySem.MeetsSeq PySem.MeetsSeq2 PySem.MeetsSeq3
end
end HT
namespace D2
open PySem PySem.Spec PyProof.Rows L2
section
variable {X:Cx} {tg a b c:Expr} {fa fb fc:Fe} {pos p2:Pos} {nl:Nat} {G:List Str} {x:Str} {p:Pos} {fs:ay->R (List PyData)}
noncomputable def CZ (lo:Int) (n:Nat):List PyData:=(List.range n).map fun (k:Nat)=>.int (lo-k)
noncomputable def Db:List PyData->R (List PyData)
  | [.int i,.int j,.int k]=>if k=-1/\-(2 ^ 62)<=i/\i < 2 ^ 62/\-(2 ^ 62)<=j/\j < 2 ^ 62 then .ok (CZ i (i-j).toNat) else .no
  | _=>.no
noncomputable def Dj (fs:ay->R (List PyData)):ay->R (List PyData):=fun ρ=>fs ρ>>=Db
end
noncomputable def lr (H:Hp):List V->List (List Int)->Prop
  | [],rs=>rs=[]
  | v::vs,rs=>∃ a r rs',v=.ref a/\rs=r::rs'/\H a=some (.tup (r.map V.int))/\lr H vs rs'
theorem lr.len {H:Hp}:∀ {vs:List V} {rs:List (List Int)},lr H vs rs->vs.length=rs.length
  | [],rs,h=>by simp only [lr] at h;rw [h];rfl
  | v::vs,rs,h=>by
    simp only [lr] at h;obtain ⟨a,r,rs',_,rfl,_,t⟩:=h;rw [List.length_cons,List.length_cons,t.len]
noncomputable def D7 (a b c:Int):Nat:=(if a < b then (b-a-1) / c+1 else 0).toNat
section
variable {X:Cx} {tg a b c:Expr} {fa fb fc:Fe} {pos p2:Pos} {nl:Nat} {G:List Str} {x:Str} {p:Pos} {fs:ay->R (List PyData)}
noncomputable abbrev A5 (i j k:Int):Prop:=1<=k/\k < 1000000/\-(2 ^ 40)<=i/\i < 2 ^ 40/\-(2 ^ 40)<=j/\j < 2 ^ 40
noncomputable def D6 (lo st:Int) (n:Nat):List PyData:=(List.range n).map fun (k:Nat)=>.int (lo+k*st)
noncomputable def D8:List PyData->R (List PyData)
  | [.int i,.int j,.int k]=>if A5 i j k then .ok (D6 i k (D7 i j k)) else .no
  | _=>.no
noncomputable def Dp (fs:ay->R (List PyData)):ay->R (List PyData):=fun ρ=>fs ρ>>=D8
end
end D2
namespace D2
open PySem PySem.Spec PyProof.Rows
noncomputable def Rs (xs:Array Nat):Prop:=∀ i j:Nat,i < j->j < xs.size->xs.getD i 0 < xs.getD j 0
theorem lE {xs:Array Nat} (hr:Rs xs) (j:Nat):∀ (fuel lo hi:Nat),hi-lo<=fuel->lo<=hi->hi<=xs.size->(∀ i,i < lo->xs.getD i 0 < j)->(∀ i,hi<=i->i < xs.size->j<=xs.getD i 0) ->
    lo<=SetTable.below.go xs j fuel lo hi/\SetTable.below.go xs j fuel lo hi<=hi/\(∀ i,i < SetTable.below.go xs j fuel lo hi->xs.getD i 0 < j)/\(∀ i,SetTable.below.go xs j fuel lo hi<=i->i < xs.size->j<=xs.getD i 0)
  | 0,lo,hi,h,h1,h2,h3,h4=>by
    have:lo=hi:=by omega
    subst this;exact ⟨Nat.le_refl _,Nat.le_refl _,h3,h4⟩
  | fuel+1,lo,hi,h,h1,h2,h3,h4=>by
    unfold SetTable.below.go;by_cases hl:lo < hi
    · rw [if_pos hl];dsimp only;have hm:(lo+hi) / 2 < hi:=by omega
      have hm0:lo<=(lo+hi) / 2:=by omega
      have e:xs.getD ((lo+hi) / 2) j=xs.getD ((lo+hi) / 2) 0:=by
        have:(lo+hi) / 2 < xs.size:=by omega
        simp [Array.getD,this]
      rw [e];by_cases hx:xs.getD ((lo+hi) / 2) 0 < j
      · rw [if_pos hx];obtain ⟨a,b,c,d⟩:=lE hr j fuel ((lo+hi) / 2+1) hi (by omega) (by omega) h2 (fun i hi'=>by
          by_cases z:i=(lo+hi) / 2
          · rw [z];exact hx
          · exact Nat.lt_trans (hr i ((lo+hi) / 2) (by omega) (by omega)) hx) h4
        exact ⟨by omega,b,c,d⟩
      · rw [if_neg hx];obtain ⟨a,b,c,d⟩:=lE hr j fuel lo ((lo+hi) / 2) (by omega) hm0 (by omega) h3 (fun i hi' hs=>by
          by_cases z:i=(lo+hi) / 2
          · rw [z];omega
          · have:=hr ((lo+hi) / 2) i (by omega) hs;omega)
        exact ⟨a,by omega,c,d⟩
    · rw [if_neg hl];have:lo=hi:=by omega
      subst this;exact ⟨Nat.le_refl _,Nat.le_refl _,h3,h4⟩
theorem lF {xs:Array Nat} (hr:Rs xs) (j:Nat):SetTable.below xs j<=xs.size/\(∀ i,i < SetTable.below xs j->xs.getD i 0 < j)/\(∀ i,SetTable.below xs j<=i->i < xs.size->j<=xs.getD i 0):=by
  obtain ⟨_,b,c,d⟩:=lE hr j xs.size 0 xs.size (by omega) (by omega) (Nat.le_refl _) (fun i h=>by omega) (fun i h1 h2=>by omega);exact ⟨b,c,d⟩
theorem wl {xs:Array Nat} (hr:Rs xs) {j p:Nat} (hp:p<=xs.size) (h1:∀ i,i < p->xs.getD i 0 < j) (h2:∀ i,p<=i->i < xs.size->j<=xs.getD i 0):SetTable.below xs j=p:=by
  obtain ⟨a,b,c⟩:=lF hr j;by_cases z:SetTable.below xs j < p
  · have q1:=h1 _ z;have q2:=c _ (Nat.le_refl _) (by omega);omega
  · by_cases z2:p < SetTable.below xs j
    · have q1:=b p z2;have q2:=h2 p (Nat.le_refl _) (by omega);omega
    · omega
theorem getD_some {xs:Array Nat} {i j:Nat} (h:xs[i]?=some j):i < xs.size/\xs.getD i 0=j:=by
  obtain ⟨h1,h2⟩:=Array.getElem?_eq_some_iff.mp h;exact ⟨h1,by simp [Array.getD,h1,h2]⟩
theorem nZ {xs:Array Nat} {i:Nat} (h:i < xs.size):xs[i]?=some (xs.getD i 0):=by simp [Array.getD,h]
theorem u4 {xs:Array Nat} (hr:Rs xs) {j:Nat} (hn:xs[SetTable.below xs j]?≠some j):Rs (SetTable.insertAt xs (SetTable.below xs j) j):=by
  obtain ⟨a,b,c⟩:=lF hr j;generalize hp:SetTable.below xs j=p at *;have c':∀ i,p<=i->i < xs.size->j < xs.getD i 0:=fun i h1 h2=>by
    have h3:=c i h1 h2;by_cases z:i=p
    · have:=nZ h2;rw [z] at this h3 ⊢;rw [this] at hn;have:xs.getD p 0≠j:=fun q=>hn (by rw [q])
      omega
    · have:=hr p i (by omega) h2;have:=c p (Nat.le_refl _) (by omega);omega
  have sz:(SetTable.insertAt xs p j).size=xs.size+1:=by
    unfold SetTable.insertAt;simp;omega
  have at':∀ i,i < xs.size+1->(SetTable.insertAt xs p j).getD i 0=if i < p then xs.getD i 0 else if i=p then j else xs.getD (i-1) 0:=fun i hi=>by
    have e:(SetTable.insertAt xs p j)[i]?=some (if i < p then xs.getD i 0 else if i=p then j else xs.getD (i-1) 0):=by
      unfold SetTable.insertAt;by_cases h1:i < p
      · rw [if_pos h1,Array.getElem?_append_left (by simp;omega),Array.getElem?_push_lt (by simp;omega)];simp [Array.getD,show i < xs.size by omega]
      · by_cases h2:i=p
        · rw [if_neg h1,if_pos h2,Array.getElem?_append_left (by simp;omega)];have:((xs.extract 0 p).push j)[i]?=some j:=by
            have hsz:(xs.extract 0 p).size=i:=by rw [h2];simp;omega
            rw [Array.getElem?_push,if_pos hsz.symm]
          exact this
        · rw [if_neg h1,if_neg h2,Array.getElem?_append_right (by simp;omega)];simp only [Array.size_push,Array.size_extract];rw [Array.getElem?_extract];simp [Array.getD,show i-1 < xs.size by omega];refine ⟨by omega,?_⟩;rw [show p+(i-(min p xs.size+1))=i-1 by omega];simp [show i-1 < xs.size by omega]
    exact (getD_some e).2
  intro i k hik hk;rw [sz] at hk;rw [at' i (by omega),at' k hk];by_cases h1:i < p
  · rw [if_pos h1];by_cases h2:k < p
    · rw [if_pos h2];exact hr i k hik (by omega)
    · rw [if_neg h2];by_cases h3:k=p
      · rw [if_pos h3];exact b i h1
      · rw [if_neg h3];exact Nat.lt_trans (b i h1) (c' (k-1) (by omega) (by omega))
  · rw [if_neg h1,if_neg (show ¬ k < p by omega),if_neg (show ¬ k=p by omega)];by_cases h3:i=p
    · rw [if_pos h3];exact c' (k-1) (by omega) (by omega)
    · rw [if_neg h3];exact hr (i-1) (k-1) (by omega) (by omega)
theorem xK (n:Nat):Rs (Array.range n):=fun i j h1 h2=>by
  simp at h2;simp [Array.getD,show i < n by omega,h2,h1]
theorem qU {l:List Nat} (h:l.Pairwise (· < ·)):Rs l.toArray:=fun i j h1 h2=>by
  simp at h2;have:=List.pairwise_iff_getElem.mp h i j (by omega) h2 h1;simpa [Array.getD,show i < l.length by omega,h2] using this
theorem nY {t:SetTable} {j:Nat} (h:t.slot j=.empty\/t.slot j=.dummy):t.place[SetTable.below t.place j]?≠some j:=by
  intro z;unfold SetTable.slot at h;dsimp only at h;rw [z] at h;simp at h
theorem jn (t:SetTable) (hashAt:Nat->Int) (hh:Int):∀ (fuel:Nat) (p:SetTable.Probe) (j:Nat) (dm:Option Nat),(∀ d,p.dummy=some d->t.slot d=.dummy)->SetTable.probe.go t hashAt hh fuel p=some (.empty j dm)->t.slot j=.empty/\∀ d,dm=some d->t.slot d=.dummy
  | 0,p,j,dm,_,e=>by cases e
  | fuel+1,p,j,dm,h,e=>by
    have adv:∀ q:SetTable.Probe,(t.advance q).dummy=q.dummy:=fun q=>by
      unfold SetTable.advance;split <;> rfl
    unfold SetTable.probe.go at e;cases hs:t.slot p.j with
    | empty =>
      rw [hs] at e;dsimp only at e;injection e with e
      injection e with e1 e2
      subst e1 e2;exact ⟨hs,h⟩
    | dummy =>
      rw [hs] at e;dsimp only at e;refine jn t hashAt hh fuel _ j dm (fun d hd=>?_) e;rw [adv] at hd;injection hd with hd
      rw [<- hd];exact hs
    | live i =>
      rw [hs] at e;dsimp only at e;split at e
      · cases e
      · exact jn t hashAt hh fuel _ j dm (fun d hd=>h d (by rw [adv] at hd;exact hd)) e
theorem uX {t:SetTable} {h:Int} {slot:Nat} {wd:Bool} (e:t.freeSlot h=some (slot,wd)):t.place[SetTable.below t.place slot]?≠some slot:=by
  unfold SetTable.freeSlot at e;split at e
  · rename_i j dm hp;injection e with e
    injection e with e1 e2
    obtain ⟨h1,h2⟩:=jn t _ _ _ _ j dm (fun d hd=>by cases hd) hp;cases dm with
    | none =>
      have:j=slot:=e1;rw [<- this];exact nY (.inl h1)
    | some d =>
      have:d=slot:=e1;rw [<- this];exact nY (.inr (h2 d rfl))
  · cases e
noncomputable def ul (b:Bool) (t:SetTable):Prop:=t.led=b/\Rs t.place
theorem hR {b:Bool} {t:SetTable} (h:ul b t) (n:Nat):ul b (t.standIn n):=⟨h.1,xK n⟩
theorem ve {b:Bool} {t:SetTable} (h:ul b t) (es:Array (Int×Value)) (hh:Int) (x:Value):ul b (layNew t es hh x).2.1:=by
  unfold layNew;split
  · rename_i slot wd e;have hp:ul b (t.put slot).1:=⟨h.1,u4 h.2 (uX e)⟩
    dsimp only;unfold SetTable.orStandIn;split
    · exact hp
    · exact hR hp _
  · exact hR h _
theorem xN {b:Bool} {t:SetTable} (h:ul b t) (es:Array (Int×Value)) (wanted:Nat):ul b (relayAll t es wanted).2.1:=by
  unfold relayAll;split
  · rename_i t' order e;dsimp only;split
    · unfold SetTable.relaid SetTable.laid at e;simp only [Option.bind_eq_bind,Option.bind_eq_some_iff,Option.pure_def,Option.some.injEq] at e;obtain ⟨owner,_,e⟩:=e;injection e with e1 e2
      subst e1;refine ⟨h.1,?_⟩;dsimp only;refine qU ?_;rw [List.pairwise_map,List.pairwise_filterMap];refine List.pairwise_lt_range.imp fun {a c} hac x hx y hy=>?_
      simp only [Option.map_eq_some_iff] at hx hy;obtain ⟨_,_,rfl⟩:=hx;obtain ⟨_,_,rfl⟩:=hy;exact hac
    · exact hR h _
  · exact hR h _
theorem xB {b p:Bool} {t:SetTable} (h:ul b t):ul b { t with plain:=p }:=h
noncomputable def vb:Value->Int
  | .int n _=>n
  | _=>0
noncomputable def hZ (es:Array (Int×Value)):List Int:=es.toList.map fun e=>vb e.2
theorem vE (es:Array (Int×Value)):(hZ es).length=es.size:=by unfold hZ;simp
theorem sQ {xs ys:Array (Int×Value)} (p:xs.toList.Perm ys.toList):(hZ xs).Perm (hZ ys):=p.map _
section
variable (prog:Program) (w:World)
structure pF (h:Heap) (S:Addr) (led:Bool) (es:Array (Int×Value)) (t:SetTable):Prop where
  obj:∃ u ep,h.get? S=some u/\u.ExactSet/\u.data=.set es ep t
  elm:ElemsOf (intKind prog w) es.toList
  few:es.size < scanBound
  fit:t.fits es.size=true
  tab:ul led t
noncomputable def kP (h:Heap) (S:Addr) (led:Bool) (l:List Int):Prop:=∃ es t,pF prog w h S led es t/\(hZ es).Perm l
end
section
variable {prog:Program} {w:World} {A:Around} {E:Value->Shared->Prop} {s:Shared} {S:Addr} {led:Bool}
theorem o2 {k:Int} {v:Value} (q:(intKind prog w).is k v=true):vb v=k:=by
  obtain ⟨_,rfl⟩:=Value.isInt_shape (k:=k) (v:=v) q;rfl
theorem pF.mem {h:Heap} {es:Array (Int×Value)} {t:SetTable} (I:pF prog w h S led es t) (k:Int):k∈hZ es<->(es.toList.findIdx? fun e=>(intKind prog w).is k e.2).isSome=true:=by
  rw [List.findIdx?_isSome,List.any_eq_true];unfold hZ;rw [List.mem_map];constructor
  · rintro ⟨e,me,rfl⟩;obtain ⟨⟨j,isj,_⟩,_⟩:=I.elm e me;exact ⟨e,me,by rw [o2 isj];exact isj⟩
  · rintro ⟨e,me,isk⟩;exact ⟨e,me,o2 isk⟩
theorem pF.put {es ys:Array (Int×Value)} {t r:SetTable} {Q:Unit->Shared->Prop} (I:pF prog w s.heap S led es t) (hi:ElemsOf (intKind prog w) ys.toList) (hs:ys.size < scanBound) (hf:r.fits ys.size=true) (ht:ul led r)
    (q:∀ g:Heap,Heap.SameBut S s.heap g->pF prog w g S led ys r->Q () { s with heap:=g }):wpAny (model prog w) A (storeSet S ys r) Q E s:=by
  obtain ⟨u,ep,hu,hx,hd⟩:=I.obj;refine wpAny_storeSet_of hu hd (q _ (Heap.SameBut.update _ S _) ⟨⟨{ u with data:=.set ys (ep+1) r },ep+1,?_,hx,rfl⟩,hi,hs,hf,ht⟩) (fits_of_scanBound hs);have z:=Heap.get?_update_self (Obj.putSet ys r) hu (by rw [putSet_of ys r hd];rfl)
  rwa [putSet_of ys r hd] at z
theorem pF.grow {gw:Bool->Sem Unit} (hgw:∀ (b:Bool) (s₁:Shared) (Q':Unit->Shared->Prop),Q' () s₁->wpAny (model prog w) A (gw b) Q' E s₁)
    {es ys:Array (Int×Value)} {t r:SetTable} (I:pF prog w s.heap S led es t) (hi:ElemsOf (intKind prog w) ys.toList) (hs:ys.size < scanBound) (hf:r.fits ys.size=true) (ht:ul led r) {d:Bool} {R:Option Bool->Shared->Prop}
    (q:∀ (g:Heap) (zs:Array (Int×Value)) (v:SetTable),Heap.SameBut S s.heap g->pF prog w g S led zs v->(hZ zs).Perm (hZ ys)->R (some true) { s with heap:=g }) :
    wpAny (model prog w) A (storeSet S ys r>>=fun _=>if (!d&&r.tooFull)=true then (gw (relayAll r ys (SetTable.grown ys.size)).2.2>>=fun _=>storeSet S (relayAll r ys (SetTable.grown ys.size)).1 (relayAll r ys (SetTable.grown ys.size)).2.1>>=fun _=>pure (some true)) else pure (some true)) R E s:=by
  refine wpAny_bind (I.put hi hs hf ht fun g1 k1 I1=>?_);by_cases full:(!d&&r.tooFull)=true
  · rw [if_pos full];have pm:=relayAll_perm r ys (SetTable.grown ys.size);have ft:=relayAll_fits r ys (SetTable.grown ys.size);have tb:=xN ht ys (SetTable.grown ys.size);have ln:(relayAll r ys (SetTable.grown ys.size)).1.size=ys.size:=by simpa using pm.length_eq
    exact wpAny_bind (hgw _ _ _ (wpAny_bind (I1.put (hi.perm pm) (by rw [ln];exact hs) ft tb fun g2 k2 I2=>wpAny_pure (q g2 _ _ (k1.trans k2) I2 (sQ pm)))))
  · rw [if_neg full];exact wpAny_pure (q g1 ys r k1 I1 (List.Perm.refl _))
theorem rM {l:List Int} {k:Int} {x:Value} {Q:Bool->Shared->Prop} (isx:(intKind prog w).is k x=true) (sc:x.scannable=true) (X:kP prog w s.heap S led l) (room:l.length+1 < scanBound)
    (q:∀ (b:Bool) (g:Heap),Heap.SameBut S s.heap g->kP prog w g S led (step_dedup l k)->Q b { s with heap:=g }):wpAny (model prog w) A (setAddHashed S x ((intKind prog w).hash k)) Q E s:=by
  obtain ⟨es,t,I,pm⟩:=X;have ln:es.size=l.length:=by rw [<- vE];exact pm.length_eq
  obtain ⟨u,ep,hu,hx,hd⟩:=I.obj;have hin:l.any (·==k)=(es.toList.findIdx? fun e=>(intKind prog w).is k e.2).isSome:=by
    rw [Bool.eq_iff_iff,<- I.mem k,pm.mem_iff,List.any_eq_true];exact ⟨fun ⟨y,my,e⟩=>by rw [<- of_decide_eq_true e];exact my,fun m=>⟨k,m,by simp⟩⟩
  unfold setAddHashed setAddHashedIn setAddByScan;apply wpAny_holding;apply wpAny_bind;apply wpAny_setState_of hu hd I.fit;dsimp only;rw [if_pos (byScan_of sc I.few I.elm)];apply wpAny_bind;apply wpAny_bind;apply wpAny_rule;apply wpAny_bind;apply wpAny_setScan_of isx hu hd I.fit I.elm;cases fi:es.toList.findIdx? fun e=>(intKind prog w).is k e.2 with
  | some j =>
    rw [fi,Option.isSome_some] at hin;refine wpAny_pure (wpAny_pure ?_);exact q false s.heap (Heap.SameBut.refl S _) ⟨es,t,I,by unfold step_dedup;rw [if_pos hin];exact pm⟩
  | none =>
    rw [fi] at hin;have sd:step_dedup l k=l++[k]:=by unfold step_dedup;rw [if_neg (by rw [hin];simp)]
    have lp:=layNew_perm t es ((intKind prog w).hash k) x;have lf:=layNew_fits t es ((intKind prog w).hash k) x;have lt:=ve I.tab es ((intKind prog w).hash k) x;revert lp lf lt;generalize layNew t es ((intKind prog w).hash k) x=N;obtain ⟨ys,r,d,gave⟩:=N;intro lp lf lt;dsimp only at lp lf lt ⊢;rw [Array.toList_push] at lp;have yi:ElemsOf (intKind prog w) ys.toList:=ElemsOf.perm (ElemsOf.push I.elm isx sc) lp;have yl:ys.size=es.size+1:=by simpa using lp.length_eq
    have ys':ys.size < scanBound:=by omega
    have yp:(hZ ys).Perm (step_dedup l k):=by
      rw [sd];refine (lp.map fun e=>vb e.2).trans ?_;rw [List.map_append,List.map_singleton,o2 isx];exact pm.append_right [k]
    have gw:∀ (b:Bool) (s₁:Shared) (Q':Unit->Shared->Prop),Q' () s₁->wpAny (model prog w) A (match b with | true=>rule "set.scan.the-table-gave-way" | false=>pure ()) Q' E s₁:=fun b s₁ Q' h=>by
      cases b
      · exact wpAny_pure h
      · exact wpAny_rule h
    have fin:∀ (g:Heap) (zs:Array (Int×Value)) (v:SetTable),Heap.SameBut S s.heap g->pF prog w g S led zs v->(hZ zs).Perm (hZ ys)->Q true { s with heap:=g }:=fun g zs v k1 J p=>q true g k1 ⟨zs,v,J,p.trans yp⟩
    apply wpAny_bind;apply gw;have done:∀ r':SetTable,r'.fits ys.size=true->ul led r'->wpAny (model prog w) A (storeSet S ys r'>>=fun _=>if (!d&&r'.tooFull)=true then ((match (relayAll r' ys (SetTable.grown ys.size)).2.2 with | true=>rule "set.scan.the-table-gave-way" | false=>pure ())>>=fun _=>storeSet S (relayAll r' ys (SetTable.grown ys.size)).1 (relayAll r' ys (SetTable.grown ys.size)).2.1>>=fun _=>pure (some true)) else pure (some true))
        (fun o s'=>wpAny (model prog w) A (match o with | some added=>pure added | none=>setAddHashedIn S x ((intKind prog w).hash k) 99999) Q E s') E s:=fun r' f' t' =>
      pF.grow (gw:=fun b=>match b with | true=>rule "set.scan.the-table-gave-way" | false=>pure ()) gw I yi ys' f' t' fun g zs v k1 J p=>wpAny_pure (fin g zs v k1 J p)
    cases pl:r.plain with
    | true =>
      rw [hashByValue_scannable 8 sc];apply wpAny_bind;apply wpAny_pure;cases plainKind x with
      | true=>exact done r lf lt
      | false=>exact done { r with plain:=false } (SetTable.fits_plain_off lf) (xB lt)
    | false =>
      apply wpAny_bind;apply wpAny_pure;exact done r lf lt
end
section
variable {prog:Program} {w:World} {A:Around} {E:Value->Shared->Prop} {s:Shared} {R:Result->Shared->Prop} {I S:Addr} {fp wr:List Addr} {G:Array GenState->Array GenState->Prop} {n:Nat} {P:Nat->Value->Prop} {St:Nat->Shared->Prop} {led:Bool}
theorem kP.moved {s s':Shared} {wr:List Addr} {l:List Int} (X:kP prog w s.heap S led l) (hS:S∉wr) (m:Moved wr G s s'):kP prog w s'.heap S led l:=by
  obtain ⟨es,t,J,pm⟩:=X;obtain ⟨u,ep,hu,r⟩:=J.obj;exact ⟨es,t,⟨⟨u,ep,m.heap S u hS hu,r⟩,J.elm,J.few,J.fit,J.tab⟩,pm⟩
theorem uT (W:WalksS prog w A.in1 I fp wr G n P St) (out:S∉fp) (f:Nat->Int) (hf:∀ i v,P i v->∃ tk,v=.int (f i) tk) (room:n+1 < scanBound):∀ (m i:Nat) (s:Shared),n-i=m->i<=n->St i s->kP prog w s.heap S led (firstMet f i) ->
    (∀ s',Moved (S::wr) G s s'->kP prog w s'.heap S led (firstMet f n)->R (.ok (.ret .none)) s')->codeAny (model prog w) A (.builtin "set.update.loop" ⟨[.ref S,.ref I],[]⟩) R s:=by
  have outw:S∉wr:=fun z=>out (W.sub _ z)
  have wid:∀ {a b:Shared},Moved wr G a b->Moved (S::wr) G a b:=fun m=>m.mono fun b hb=>List.mem_cons_of_mem _ hb
  intro m;induction m with
  | zero =>
    intro i s e1 e2 st X fin;obtain rfl:i=n:=by omega
    refine codeAny_builtin PyProof.Rows.F.entry_set_update_loop ?_;rw [Around.under_plainId PyProof.Rows.F.plain_set_update_loop _];show wpAny _ A.in1 (pyNext (.ref I)>>=_) _ _ s;exact wpAny_bind (W.done s _ _ st fun s' mv=>wpAny_pure (fin s' (wid mv) (X.moved outw mv)))
  | succ m ih =>
    intro i s e1 e2 st X fin;have lt:i < n:=by omega
    refine codeAny_builtin PyProof.Rows.F.entry_set_update_loop ?_;rw [Around.under_plainId PyProof.Rows.F.plain_set_update_loop _];show wpAny _ A.in1 (pyNext (.ref I)>>=_) _ _ s;apply wpAny_bind;apply W.item i s _ _ lt st;intro v s1 hv st1 mv;obtain ⟨tk,rfl⟩:=hf i v hv;have X1:=X.moved outw mv;show wpAny _ A.in1 (holding [Value.int (f i) tk] (setAdd S (.int (f i) tk))>>=_) _ _ s1;apply wpAny_bind;apply wpAny_holding;unfold setAdd;apply wpAny_holding;apply wpAny_bind;apply (intKind prog w).pyHash (k:=f i) (intKind_is _ _ _ _);have few:(firstMet f i).length+1 < scanBound:=by have:=firstMet_length_le f i;omega
    refine rM (s:={ s1 with toks:=s1.toks+1 }) (intKind_is _ _ _ _) rfl X1 few fun _ g kp X2=>?_
    rw [<- firstMet_succ] at X2;have kpo:∀ b o,b≠S->s1.heap.get? b=some o->g.get? b=some o:=fun b o ne e=>by rw [kp.2 b ne];exact e
    refine wpAny_pure ⟨plainId_quiet PyProof.Rows.F.plain_set_update_loop _,ih (i+1) _ (by omega) lt (W.frame _ s1 _ _ st1 (Nat.le_succ _) fun b hb o e=>kpo b o (fun z=>out (z ▸ hb)) e) X2 fun s2 mv2 X3=>fin s2 ?_ X3⟩;exact Moved.trans W.gtrans ((wid mv).then_heap (Nat.le_succ _) fun b o hb e=>kpo b o (fun z=>hb (z ▸ List.mem_cons_self)) e) mv2
noncomputable def j7 (w:World):Bool:=w.params.followText "set-order"
noncomputable abbrev kT (led:Bool):Obj:={ cls:=.type "set",dict:=none,data:=.set #[] 0 (.fresh 0 0 led) }
theorem Dy {h:Heap} {led:Bool} (e:h.get? S=some (kT led)):kP prog w h S led [] :=
  ⟨#[],.fresh 0 0 led,⟨⟨_,0,e,⟨rfl,rfl,rfl⟩,rfl⟩,fun q hq=>by simp at hq,by decide,by rfl,rfl,fun i j _ h=>by simp [SetTable.fresh] at h⟩,List.Perm.refl _⟩
theorem ww (a:Value) {Q:Value->Shared->Prop} (q:Q (.ref s.heap.objs.size) { s with heap:=s.heap.push (kT (!j7 w)) }):codeAny (model prog w) A (.call (.builtin "set.__new__") ⟨[.type "set",a],[]⟩) (wants Q E) s:=by
  refine codeAny_of_tree ?_;show wpAny _ A.in1 (checkBuiltinCall "set.__new__" ⟨[.type "set",a],[]⟩>>=fun _=>again (.builtin "set.__new__" ⟨[.type "set",a],[]⟩)) _ _ s;refine wpAny_bind (wpAny_of_eq (PySem.F.newCall_set_1 a) (wpAny_pure ⟨plainId_quiet PySem.F.plain_set_new _,codeAny_builtin PySem.F.entry_set_new ?_⟩));rw [Around.under_plainId PySem.F.plain_set_new _];unfold Builtin.«set.__new__» Builtin.Frozenset.newClass;have own:=sub_set_self;obtain ⟨h0,g0,d0,t0,o0⟩:=s;dsimp only
  wp_walk
  apply wpAny_askSetting;apply wpAny_pure;dsimp only [newObj];exact wpAny_bind (wpAny_alloc (wpAny_pure (wpAny_pure q)))
end
theorem qQ:isSubtype (.type "list") (.type "set")=pure false:=by rw [isSubtype_type];kernel_rfl
theorem qP:isSubtype (.type "list") (.type "frozenset")=pure false:=by rw [isSubtype_type];kernel_rfl
theorem o9:isSubtype (.type "tuple") (.type "set")=pure false:=by rw [isSubtype_type];kernel_rfl
theorem o8:isSubtype (.type "tuple") (.type "frozenset")=pure false:=by rw [isSubtype_type];kernel_rfl
section
variable {prog:Program} {w:World} {A:Around} {E:Value->Shared->Prop} {s:Shared}
structure E3 (prog:Program) (w:World) (T:String) (a:Addr) (n:Nat) (f:Nat->Int) (OK:Heap->Prop):Prop where
  type:∀ s:Shared,OK s.heap->s.TypeIs (.ref a) T
  there:∀ h:Heap,OK h->a < h.objs.size
  push:∀ (h:Heap) (o:Obj),OK h->OK (h.push o)
  noS:isSubtype (.type T) (.type "set")=pure false
  noF:isSubtype (.type T) (.type "frozenset")=pure false
  noD:(Value.type T==Value.type "dict")=false
  iter:∀ (A:Around) (s:Shared),A.handled=none->OK s.heap->∃ (oI:Obj) (P:Nat->Value->Prop) (St:Nat->Heap->Prop),
    (∀ (E:Value->Shared->Prop) (Q:Value->Shared->Prop),Q (.ref s.heap.objs.size) { s with heap:=s.heap.push oI }->wpAny (model prog w) A.in1.in1 (pyIter (.ref a)) Q E s) /\
    Walks prog w A.in1.in1.in1 s.heap.objs.size [s.heap.objs.size,a] [s.heap.objs.size] n P St/\(∀ i v,P i v->∃ tk,v=.int (f i) tk)/\St 0 (s.heap.push oI)
theorem xY {a:Addr} {items:Array Value} {ns:List Int} (hi:IntsAre items.toList ns):E3 prog w "list" a items.size (fun i=>ns.getD i 0) fun h=>h.IsList a items where
  type:=fun s h=>h.typeIs
  there:=fun h ⟨o,e,_⟩=>Heap.lt_size e
  push:=fun h o x=>x.push o
  noS:=qQ
  noF:=qP
  noD:=by decide
  iter:=fun A s hh ok=>by
    have lt:a < s.heap.objs.size:=let ⟨o,e,_⟩:=ok;Heap.lt_size e
    refine ⟨_,_,_,fun E Q q=>wpAny_pyIter_list ok q,Walks.list (by simp [hh]) _ a (Nat.ne_of_lt lt) items,fun i v hv=>hi.int_at i v (by rw [Array.getElem?_toList];exact hv),⟨⟨_,Heap.get?_push_size _ rfl,rfl,rfl⟩,ok.push _⟩⟩
theorem vC {a:Addr} {items:Array Value} {ns:List Int} (hi:IntsAre items.toList ns):E3 prog w "tuple" a items.size (fun i=>ns.getD i 0) fun h=>h.IsTuple a items where
  type:=fun s h=>h.typeIs
  there:=fun h ⟨o,e,_⟩=>Heap.lt_size e
  push:=fun h o x=>x.at fun u e=>Heap.get?_push_of_some _ e
  noS:=o9
  noF:=o8
  noD:=by decide
  iter:=fun A s hh ok=>by
    have lt:a < s.heap.objs.size:=let ⟨o,e,_⟩:=ok;Heap.lt_size e
    refine ⟨_,_,_,fun E Q q=>wpAny_pyIter_tuple ok q,Walks.tuple (by simp [hh]) _ a (Nat.ne_of_lt lt) items,fun i v hv=>hi.int_at i v (by rw [Array.getElem?_toList];exact hv),⟨⟨_,Heap.get?_push_size _ rfl,rfl,rfl⟩,ok.at fun u e=>Heap.get?_push_of_some _ e⟩⟩
set_option maxHeartbeats 8000000 in
theorem qj {T:String} {a:Addr} {n:Nat} {f:Nat->Int} {OK:Heap->Prop} {Q:Value->Shared->Prop} (K:E3 prog w T a n f OK) (hh:A.handled=none) (ok:OK s.heap) (few:n+1 < scanBound)
    (q:∀ (g:Heap) (tk:Nat),kP prog w g s.heap.objs.size (!j7 w) (firstMet f n)->(∀ b o,s.heap.get? b=some o->g.get? b=some o)->Q (.ref s.heap.objs.size) { s with heap:=g,toks:=tk }) :
    wpAny (model prog w) A (call (.type "set") [.ref a]) Q E s:=by
  have C:=PySem.F.called_set;obtain ⟨c0,tl,mro⟩:=C.mro;have made:=C.made;have sub:=C.sub;refine wpAny_call (codeAny_of_tree ?_);show wpAny _ _ (callAny (.type "set") _) _ _ _;refine wpAny_pure ⟨Code.quiet_builtin _ (by decide +kernel),codeAny_builtin PySem.F.entry_type_call ?_⟩;rw [Around.under_plain (weight_type_call_type "set" [.ref a] []) rfl];have n1:=C.notType;have n2:=C.canCreate;have n3:=PySem.F.typeCall_set_1 (.ref a)
  repeat (any_goals (first | assumption | wp_step))
  refine codeAny_mono (ww (.ref a) (E:=E) (Q:=fun v s1=>v=.ref s.heap.objs.size/\s1={ s with heap:=s.heap.push (kT (!j7 w)) }) ⟨rfl,rfl⟩) fun r s1 hr=>?_
  cases r with
  | error e=>exact hr
  | ok fl =>
    cases fl with
    | ret v =>
      obtain ⟨rfl,rfl⟩:=hr;have at0:(s.heap.push (kT (!j7 w))).get? s.heap.objs.size=some (kT (!j7 w)):=Heap.get?_push_size _ rfl;have ty0:Shared.TypeIs { s with heap:=s.heap.push (kT (!j7 w)) } (.ref s.heap.objs.size) "set" := ⟨_,at0,rfl⟩
      have l0:=C.init.lookup;have b0:=C.init.bind (.ref s.heap.objs.size)
      repeat (any_goals (first | assumption | wp_step))
      refine codeAny_mono (codeAny_call_builtin (R:=wants (fun r s2=>r=.none/\∃ g tk,s2={ s with heap:=g,toks:=tk }/\kP prog w g s.heap.objs.size (!j7 w) (firstMet f n)/\∀ b o,s.heap.get? b=some o->g.get? b=some o) E) C.init.plain PySem.F.entry_set_init (check_set_init_1 ty0 ?_)) fun r2 s2 hr2=>?_
      · have ok1:=K.push _ (kT (!j7 w)) ok;have ty1:Shared.TypeIs { s with heap:=s.heap.push (kT (!j7 w)) } (.ref a) T:=K.type _ ok1;have noS:=K.noS;have noF:=K.noF;have noD:=K.noD;have lta:=K.there _ ok;unfold Builtin.«set.__init__» noKeywords Builtin.Frozenset.updateFrom;generalize hPI:pyIter=PI
        wp_walk
        subst hPI;obtain ⟨oI,P,St,it,W,hP,st⟩:=K.iter A { s with heap:=s.heap.push (kT (!j7 w)) } hh ok1;apply it;refine wpAny_bind (wpAny_runValue ?_);have sz:(s.heap.push (kT (!j7 w))).objs.size=s.heap.objs.size+1:=Heap.size_push ..;have out:s.heap.objs.size∉[(s.heap.push (kT (!j7 w))).objs.size,a]:=by
          rw [sz];simp only [List.mem_cons,List.not_mem_nil,or_false,not_or];exact ⟨Nat.ne_of_lt (Nat.lt_succ_self _),Nat.ne_of_gt lta⟩
        refine uT W.toS out f hP few (n-0) 0 _ (by omega) (Nat.zero_le _) st (Dy (Heap.get?_push_of_some _ at0)) fun s3 mv X=>?_
        obtain ⟨g3,gn3,dr3,tk3,os3⟩:=s3;obtain rfl:gn3=s.gens:=mv.gens;obtain rfl:dr3=s.drawn:=mv.drawn;obtain rfl:os3=s.os:=mv.os;show wpAny _ _ _ _ _ _;refine wpAny_pure ?_;show wpAny _ _ (ret Value.none) _ _ _;refine wpAny_pure ⟨rfl,g3,tk3,rfl,X,fun b o e=>?_⟩;have ltb:=Heap.lt_size e;refine mv.heap b o ?_ (Heap.get?_push_of_some _ (Heap.get?_push_of_some _ e));show b∉[s.heap.objs.size,(s.heap.push (kT (!j7 w))).objs.size];rw [sz];simp only [List.mem_cons,List.not_mem_nil,or_false,not_or];exact ⟨Nat.ne_of_lt ltb,Nat.ne_of_lt (Nat.lt_succ_of_lt ltb)⟩
      · cases r2 with
        | error e=>exact hr2
        | ok fl2 =>
          cases fl2 with
          | ret r =>
            obtain ⟨rfl,g,tk,rfl,X,kp⟩:=hr2
            repeat (any_goals (first | assumption | wp_step))
            exact q _ _ X kp
          | _=>exact hr2.elim
    | _=>exact hr.elim
end
theorem jV:Slot "set_iterator" "__next__" "set_iterator.__next__" :=
  .of (owner := "set_iterator") (n := "__next__") (by rw [typeLookup_type,builtinLookup_eq_fast];kernel_rfl) (by decide +kernel) (by decide +kernel) (by decide +kernel) (by first | exact .inl (by decide +kernel) | exact .inr (by decide +kernel)) (by rw [isSubtype_type];kernel_rfl)
theorem xU:entryFor table "set_iterator.__next__" = some Builtin.«set_iterator.__next__»:=entryFor_of_tree (by kernel_rfl)
theorem rg:Manifest.owners.lookup (String.ofList ['r','o','t','a','r','e','t','i','_','t','e','s'].reverse)=some Manifest.sig_set_iterator:=by kernel_rfl
theorem Ad (a:Value):argsOk "set_iterator.__next__" ⟨[a],[]⟩:=by
  unfold argsOk;rw [signature?_of (id := "set_iterator.__next__") (n:=['_','_','t','x','e','n','_','_']) (o:=['r','o','t','a','r','e','t','i','_','t','e','s']) (by kernel_rfl) rg]
  kernel_rfl
theorem xZ:entryFor table "set.__iter__" = some Builtin.«frozenset.__iter__»:=entryFor_alias (id' := "frozenset.__iter__") (by kernel_rfl) rfl (by decide +kernel) (by kernel_rfl)
theorem ua:Slot "set_iterator" "__iter__" "set_iterator.__iter__" :=
  .of (owner := "set_iterator") (n := "__iter__") (by rw [typeLookup_type,builtinLookup_eq_fast];kernel_rfl) (by decide +kernel) (by decide +kernel) (by decide +kernel) (by first | exact .inl (by decide +kernel) | exact .inr (by decide +kernel)) (by rw [isSubtype_type];kernel_rfl)
theorem Ai (a:Value):argsOk "set_iterator.__iter__" ⟨[a],[]⟩:=by
  unfold argsOk;rw [signature?_of (id := "set_iterator.__iter__") (n:=['_','_','r','e','t','i','_','_']) (o:=['r','o','t','a','r','e','t','i','_','t','e','s']) (by kernel_rfl) rg]
  kernel_rfl
theorem yc:entryFor table "set_iterator.__iter__" = some Builtin.«dict_keyiterator.__iter__»:=entryFor_alias (id' := "dict_keyiterator.__iter__") (by kernel_rfl) rfl (by decide +kernel) (by kernel_rfl)
theorem xT {prog:Program} {w:World} {A:Around} {E:Value->Shared->Prop} {s:Shared} {r:Addr} {Q:Bool->Shared->Prop} (ty:s.TypeIs (.ref r) "set") (q:Q false s):wpAny (model prog w) A (Builtin.List.listLengthHint (.ref r)) Q E s:=by
  unfold Builtin.List.listLengthHint;apply wpAny_bind;apply wpAny_specialOf ty PySem.F.slot_set_len.lookup;generalize hi:("set.__len__" : String)=i0
  wp_delta
  rw [show splitId i0=some ("set","__len__") from by subst hi;decide +kernel];subst hi;apply wpAny_bind;apply wpAny_isInstance (T := "set") (b:=true) ty (by rw [isSubtype_type];kernel_rfl);refine wpAny_ite_split (fun z=>absurd z (by decide)) fun _=>?_
  refine wpAny_ite_split (fun _=>?_) fun z=>absurd (by decide +kernel) z
  exact wpAny_bind (wpAny_typeOf ty (wpAny_pure q))
section
variable {prog:Program} {w:World} {A:Around} {E:Value->Shared->Prop} {s:Shared} {S it:Addr} {es:Array (Int×Value)} {ep:Nat} {t:SetTable}
structure Si (h:Heap) (S:Addr) (es:Array (Int×Value)) (ep:Nat) (t:SetTable):Prop where
  obj:∃ u,h.get? S=some u/\u.ExactSet/\u.data=.set es ep t
  fit:t.fits es.size=true
theorem Si.keep {h g:Heap} (I:Si h S es ep t) (k:∀ u,h.get? S=some u->g.get? S=some u):Si g S es ep t:=by
  obtain ⟨u,hu,r⟩:=I.obj;exact ⟨⟨u,k u hu,r⟩,I.fit⟩
theorem Si.ty (I:Si s.heap S es ep t):s.TypeIs (.ref S) "set" := by
  obtain ⟨u,hu,x,_⟩:=I.obj;exact ⟨u,hu,x.1⟩
theorem Si.lt {h:Heap} (I:Si h S es ep t):S < h.objs.size:=by
  obtain ⟨u,hu,_⟩:=I.obj;exact Heap.lt_size hu
theorem Si.state {Q:(Array (Int×Value)×Nat×SetTable)->Shared->Prop} (I:Si s.heap S es ep t) (q:Q (es,ep,t) s):wpAny (model prog w) A (setState S) Q E s:=by
  obtain ⟨u,hu,_,hd⟩:=I.obj;exact wpAny_setState_of hu hd I.fit q
theorem jA {Q:Bool->Shared->Prop} (q:Q (j7 w) s):wpAny (model prog w) A setsByText Q E s:=by
  unfold setsByText;exact wpAny_bind (wpAny_askSetting (wpAny_pure q))
noncomputable def l9 (w:World) (S:Addr) (ep:Nat) (es:Array (Int×Value)):Array (Int×Value):=pickOrder (w.params.setOrder S ep) es
theorem nS {Q:Option (Value×Nat)->Shared->Prop} {slot i:Nat} (hb:j7 w=true) (I:Si s.heap S es ep t) (q:Q (((l9 w S ep es)[i]?).map fun e=>(e.2,slot)) s):wpAny (model prog w) A (setNext S slot i ep) Q E s:=by
  unfold setNext;apply wpAny_bind;apply I.state;dsimp only;apply wpAny_bind;apply jA;rw [if_pos hb];refine wpAny_ite_split (fun z=>absurd z (by simp)) fun _=>?_
  apply wpAny_bind;unfold setWalk;apply wpAny_bind;apply I.state;dsimp only;apply wpAny_bind;apply jA;rw [if_pos hb];exact wpAny_bind (wpAny_askSetting (wpAny_pure (wpAny_pure q)))
theorem nR {Q:Option (Value×Nat)->Shared->Prop} {slot i:Nat} (hb:j7 w=false) (hl:t.led=true) (hd:¬ ((!t.plain&&decide (es.size > 1))=true)) (I:Si s.heap S es ep t)
    (q:Q (match es[SetTable.below t.place slot]?,t.place[SetTable.below t.place slot]? with | some (_,x),some j=>some (x,j+1) | _,_=>none) s):wpAny (model prog w) A (setNext S slot i ep) Q E s:=by
  unfold setNext;apply wpAny_bind;apply I.state;dsimp only;apply wpAny_bind;apply jA;rw [hb];refine wpAny_ite_split (fun z=>absurd z (by simp)) fun _=>?_
  refine wpAny_ite_split (fun z=>absurd z hd) fun _=>?_
  apply wpAny_bind;show wpAny _ _ (if (!t.led&&!es.isEmpty)=true then unsupported "set:maker-not-led" else pure ()) _ _ _;rw [hl];refine wpAny_ite_split (fun z=>absurd z (by simp)) fun _=>?_
  exact wpAny_pure (wpAny_pure q)
end
section
variable {prog:Program} {w:World} {A:Around} {E:Value->Shared->Prop} {s:Shared} {S it:Addr} {es:Array (Int×Value)} {ep:Nat} {t:SetTable}
noncomputable abbrev u9 (first:Value) (i n ep:Nat) (S:Addr):Obj:={ cls:=.type "set_iterator",data:=.fields #[first,.int i 0,.ref S,.int n 0,.int ep 0] }
theorem Si.count {Q:Array (Int×Value)->Shared->Prop} (I:Si s.heap S es ep t) (q:Q es s):wpAny (model prog w) A (setEntries S) Q E s:=by
  unfold setEntries;exact wpAny_bind (I.state (wpAny_pure q))
theorem k8 {Q:Option Value->Shared->Prop} {o:Obj} (hit:s.heap.get? it=some o) (hc:o.cls=.type "set_iterator")
    (q:wpAny (model prog w) A.in1 (Builtin.«set_iterator.__next__» ⟨[.ref it],[]⟩) (fun fin s'=>∃ r,fin=.done (.ret r)/\Q (some r) s') (fun e s'=>wpAny (model prog w) A (isInstance e (.type "StopIteration")>>=fun b=>if b=true then pure none else throw e) Q E s') s) :
    wpAny (model prog w) A (pyNext (.ref it)) Q E s:=by
  have ty:s.TypeIs (.ref it) "set_iterator" := ⟨_,hit,hc⟩
  unfold pyNext;refine wpAny_bind (wpAny_attempt (wpAny_callSpecial?_slot (name:=Str.ofString "__next__") ty jV (wpAny_call_entry jV ty xU ?_ (Ad _))));refine wpAny_mono q (fun fin s' h=>?_) fun e s' h=>?_
  · obtain ⟨r,e,z⟩:=h;exact ⟨r,e,wpAny_pure z⟩
  · exact h
end
section
variable {prog:Program} {w:World} {A:Around} {E:Value->Shared->Prop} {s:Shared} {S it:Addr} {es:Array (Int×Value)} {ep:Nat} {t:SetTable}
theorem iS {o:Obj} {vs:Array Value} {k:Nat} {v:Value} {h:Heap} (ho:h.get? it=some o) (hd:o.data=.fields vs):(h.update it (Obj.mapFields (·.setIfInBounds k v))).get? it=some (Obj.mapFields (·.setIfInBounds k v) o) :=
  Heap.get?_update_self _ ho (Obj.isFreed_of_fields (Obj.data_mapFields hd _))
theorem tY {slot i nx:Nat} {x:Value} {Q:Option Value->Shared->Prop} (hit:s.heap.get? it=some (u9 (.int slot 0) i es.size ep S)) (I:Si s.heap S es ep t)
    (hx:∀ (A':Around) (E':Value->Shared->Prop) (Q':Option (Value×Nat)->Shared->Prop),Q' (some (x,nx)) s->wpAny (model prog w) A' (setNext S slot i ep) Q' E' s)
    (q:∀ g,Heap.SameBut it s.heap g->g.get? it=some (u9 (.int nx 0) (i+1) es.size ep S)->Q (some x) { s with heap:=g }):wpAny (model prog w) A (pyNext (.ref it)) Q E s:=by
  refine k8 hit rfl ?_;unfold Builtin.«set_iterator.__next__»;refine wpAny_bind (wpAny_pure ?_);refine wpAny_bind (wpAny_fieldsOf hit rfl ?_);dsimp only;apply wpAny_bind;apply I.count;refine wpAny_ite_split (fun z=>absurd z (by simp)) fun _=>?_
  apply wpAny_bind;rw [show ((slot:Nat):Int).toNat=slot from rfl,show ((i:Nat):Int).toNat=i from rfl,show ((ep:Nat):Int).toNat=ep from rfl];apply hx;dsimp only;refine wpAny_bind (wpAny_setField hit rfl (by simp) ?_);have e1:=iS (k:=0) (v:=rawInt nx) hit rfl;refine wpAny_bind (wpAny_setField e1 rfl (by simp) ?_);have e2:=iS (k:=1) (v:=rawInt ((i:Int)+1)) e1 rfl;exact wpAny_pure ⟨x,rfl,q _ ((Heap.SameBut.update ..).trans (Heap.SameBut.update ..)) e2⟩
theorem rj {k:Nat} {v:Value} {vs:Array Value} {o:Obj} {Q:Option Value->Shared->Prop} (hh:A.handled=none) (hit:s.heap.get? it=some o) (hd:o.data=.fields vs) (hk:k < vs.size) (q:∀ g,Heap.ExtBut it s.heap g->Q none { s with heap:=g }) :
    wpAny (model prog w) A.in1 (setField (.ref it) k v>>=fun _=>newExc (.type "StopIteration") []>>=fun e=>(raiseNew e:Sem PySem.Fin)) (fun fin s'=>∃ r,fin=.done (.ret r)/\Q (some r) s')
      (fun e s'=>wpAny (model prog w) A (isInstance e (.type "StopIteration")>>=fun b=>if b=true then pure none else throw e) Q E s') s:=by
  refine wpAny_bind (wpAny_setField hit hd hk ?_);have k1:Heap.ExtBut it s.heap (s.heap.update it (Obj.mapFields (·.setIfInBounds k v))):=(Heap.SameBut.update ..).extBut;simp only [newExc,newTuple];refine wpAny_bind (wpAny_bind (wpAny_newObj_type ?_ (by size_fits)));refine wpAny_bind (m:=firstArgMember _ _) (wpAny_of_eq (a:=Value.none) (by first | rfl | (simp only [firstArgMember];rfl)) ?_);refine wpAny_newObj_type ?_ (by size_fits);simp only [raiseNew];refine wpAny_bind (wpAny_handled ?_);rw [show A.in1.handled=none from hh];refine wpAny_bind (wpAny_pure (wpAny_throw ?_));refine wpAny_bind (wpAny_isInstance (T := "StopIteration") (b:=true) ⟨_,Heap.get?_push_size _ rfl,rfl⟩ isSubtype_stop ?_);exact wpAny_pure (q _ ((k1.push _).push _))
theorem xC {slot i:Nat} {Q:Option Value->Shared->Prop} (hh:A.handled=none) (hit:s.heap.get? it=some (u9 (.int slot 0) i es.size ep S)) (I:Si s.heap S es ep t)
    (hx:∀ (A':Around) (E':Value->Shared->Prop) (Q':Option (Value×Nat)->Shared->Prop),Q' none s->wpAny (model prog w) A' (setNext S slot i ep) Q' E' s)
    (q:∀ g,Heap.ExtBut it s.heap g->Q none { s with heap:=g }):wpAny (model prog w) A (pyNext (.ref it)) Q E s:=by
  refine k8 hit rfl ?_;unfold Builtin.«set_iterator.__next__»;refine wpAny_bind (wpAny_pure ?_);refine wpAny_bind (wpAny_fieldsOf hit rfl ?_);dsimp only;apply wpAny_bind;apply I.count;refine wpAny_ite_split (fun z=>absurd z (by simp)) fun _=>?_
  apply wpAny_bind;rw [show ((slot:Nat):Int).toNat=slot from rfl,show ((i:Nat):Int).toNat=i from rfl,show ((ep:Nat):Int).toNat=ep from rfl];apply hx;dsimp only;exact rj (k:=2) (v:=.none) hh hit rfl (by simp) q
end
section
variable {prog:Program} {w:World} {A:Around} {E:Value->Shared->Prop} {s:Shared} {S it T:Addr} {es:Array (Int×Value)} {ep:Nat} {t:SetTable}
noncomputable abbrev yy (pl:List Nat):Obj:={ cls:=.type "tuple",data:=.seq (pl.map fun (p:Nat)=>rawInt p).toArray }
theorem yV {i p:Nat} {pl:List Nat} {e:Int×Value} {Q:Option Value->Shared->Prop} (hit:s.heap.get? it=some (u9 (.ref T) i es.size ep S)) (hT:s.heap.get? T=some (yy pl)) (I:Si s.heap S es ep t) (hp:pl[i]?=some p) (he:es[p]?=some e)
    (q:∀ g,Heap.SameBut it s.heap g->g.get? it=some (u9 (.ref T) (i+1) es.size ep S)->Q (some e.2) { s with heap:=g }):wpAny (model prog w) A (pyNext (.ref it)) Q E s:=by
  refine k8 hit rfl ?_;unfold Builtin.«set_iterator.__next__»;refine wpAny_bind (wpAny_pure ?_);refine wpAny_bind (wpAny_fieldsOf hit rfl ?_);dsimp only;apply wpAny_bind;apply I.count;refine wpAny_ite_split (fun z=>absurd z (by simp)) fun _=>?_
  refine wpAny_bind (wpAny_seqItems hT rfl ?_);dsimp only;have e0:((pl.map fun (p:Nat)=>rawInt p).toArray)[((i:Nat):Int).toNat]?=some (rawInt p):=by
    rw [Int.toNat_natCast];simp [hp]
  rw [e0];dsimp only [rawInt];apply wpAny_bind;unfold setNextDrawn;apply wpAny_bind;apply I.state;dsimp only;refine wpAny_ite_split (fun z=>absurd z (by simp)) fun _=>?_
  rw [Int.toNat_natCast,he];obtain ⟨hh0,x⟩:=e;dsimp only;refine wpAny_pure ?_;refine wpAny_bind (wpAny_setField hit rfl (by simp) ?_);have e2:=iS (k:=1) (v:=rawInt ((i:Int)+1)) hit rfl;exact wpAny_pure ⟨x,rfl,q _ (Heap.SameBut.update ..) e2⟩
theorem Bm {i:Nat} {pl:List Nat} {Q:Option Value->Shared->Prop} (hh:A.handled=none) (hit:s.heap.get? it=some (u9 (.ref T) i es.size ep S)) (hT:s.heap.get? T=some (yy pl)) (I:Si s.heap S es ep t) (hp:pl[i]?=none)
    (q:∀ g,Heap.ExtBut it s.heap g->Q none { s with heap:=g }):wpAny (model prog w) A (pyNext (.ref it)) Q E s:=by
  refine k8 hit rfl ?_;unfold Builtin.«set_iterator.__next__»;refine wpAny_bind (wpAny_pure ?_);refine wpAny_bind (wpAny_fieldsOf hit rfl ?_);dsimp only;apply wpAny_bind;apply I.count;refine wpAny_ite_split (fun z=>absurd z (by simp)) fun _=>?_
  refine wpAny_bind (wpAny_seqItems hT rfl ?_);dsimp only;have e0:((pl.map fun (p:Nat)=>rawInt p).toArray)[((i:Nat):Int).toNat]?=none:=by
    rw [Int.toNat_natCast];simp at hp ⊢;omega
  rw [e0];dsimp only;refine wpAny_bind (wpAny_setField hit rfl (by simp) ?_);have e1:=iS (k:=0) (v:=rawInt 0) hit rfl;refine rj (s:={ s with heap:=_ }) (k:=2) (v:=.none) hh e1 rfl (by simp) fun g k=>q g fun b o ne e=>k b o ne ((Heap.SameBut.update s.heap it _).extBut b o ne e)
theorem je {β:Type}:∀ (l:List β) (i:Nat) (h:i < l.length),(l[i]::l.eraseIdx i).Perm l
  | x::l,0,_=>List.Perm.refl _
  | x::l,i+1,h=>(List.Perm.swap x _ _).trans ((je l i (by simpa using h)).cons x)
theorem lN {β:Type}:∀ (n:Nat) (xs:List β) (s:Shared) (Q:List β->Shared->Prop),xs.length=n->(∀ (ys:List β) (d:_),ys.Perm xs->Q ys { s with drawn:=d })->wpAny (model prog w) A (drawOrder n xs) Q E s
  | 0,xs,s,Q,hl,q=>by
    have:xs=[]:=List.length_eq_zero_iff.mp hl;subst this;exact wpAny_pure (q [] s.drawn (List.Perm.refl _))
  | n+1,[],s,Q,hl,q=>by cases hl
  | n+1,x::xs,s,Q,hl,q=>by
    unfold drawOrder;have key:∀ (i:Nat) (d:_),i < (x::xs).length->wpAny (model prog w) A (match (x::xs)[i]? with | some y=>(drawOrder n ((x::xs).eraseIdx i)>>=fun r=>pure (y::r)) | none=>unsupported "internal:drawOrder") Q E { s with drawn:=d }:=fun i d lt=>by
      rw [List.getElem?_eq_getElem lt];dsimp only;refine wpAny_bind (lN n ((x::xs).eraseIdx i) { s with drawn:=d } _ ?_ fun ys d' pm=>wpAny_pure (q _ d' ?_))
      · rw [List.length_eraseIdx_of_lt lt,hl];rfl
      · refine (pm.cons _).trans ?_;exact je _ _ lt
    refine wpAny_bind (m:=choose .order (x::xs).length) ?_;intro Γ p hΓ;show Sem.wp _ Γ (.choose .order (x::xs).length .pure) _ _ p s;rw [Sem.wp_choose];refine ⟨by simp,?_⟩;exact (show wpAny (model prog w) A _ Q E _ from key _ _ (Nat.mod_lt _ (by simp)))
end
theorem tX {β:Type} (next:Nat->Nat):∀ (fuel k:Nat) (left:List β) (out:Array β),left.length=fuel->((pickOrder.go next fuel k left out).toList).Perm (out.toList++left)
  | 0,k,left,out,h=>by
    have:left=[]:=List.length_eq_zero_iff.mp h;subst this;unfold pickOrder.go;rw [List.append_nil]
  | fuel+1,k,left,out,h=>by
    unfold pickOrder.go;have lt:next k%left.length < left.length:=Nat.mod_lt _ (by omega)
    rw [List.getElem?_eq_getElem lt];dsimp only;refine (tX next fuel (k+1) _ _ (by rw [List.length_eraseIdx_of_lt lt,h];rfl)).trans ?_;rw [Array.toList_push,List.append_assoc];exact List.Perm.append_left _ (je left _ lt)
theorem vx {β:Type} (next:Nat->Nat) (xs:Array β):(pickOrder next xs).toList.Perm xs.toList:=by
  unfold pickOrder;have:=tX next xs.size 0 xs.toList #[] (by simp)
  simpa using this
theorem jS (w:World) (S:Addr) (ep:Nat) (es:Array (Int×Value)):(l9 w S ep es).toList.Perm es.toList:=vx _ es
section
variable {prog:Program} {w:World} {A:Around} {E:Value->Shared->Prop} {s:Shared} {S I T:Addr} {es:Array (Int×Value)} {ep:Nat} {t:SetTable}
theorem o1 {first:Value} {i n:Nat} {Q:Value->Shared->Prop} (hit:s.heap.get? I=some (u9 first i n ep S)) (q:Q (.ref I) s):wpAny (model prog w) A (pyIter (.ref I)) Q E s:=by
  have ty:s.TypeIs (.ref I) "set_iterator" := ⟨_,hit,rfl⟩
  refine wpAny_pyIter_slot ty ua (wpAny_call_entry ua ty yc ?_ (Ai _));show wpAny _ _ (ret (.ref I)) _ _ s;exact wpAny_pure ⟨_,rfl,"set_iterator",_,ty,jV.lookup,q⟩
theorem vK (hh:A.handled=none) (hb:j7 w=true) (ne:S≠I):Walks prog w A I [I,S] [I] es.size (fun i v=>((l9 w S ep es).toList.map (·.2))[i]?=some v) (fun i h=>h.get? I=some (u9 (.int (0:Nat) 0) i es.size ep S)/\Si h S es ep t) where
  sub:=fun b hb=>by simp at hb;simp [hb]
  frame:=fun i h g st k=>⟨k I (by simp) _ st.1,st.2.keep fun u e=>k S (by simp) u e⟩
  item:=fun i s Q E lt st q=>by
    have ln:(l9 w S ep es).toList.length=es.size:=by rw [(jS w S ep es).length_eq];simp
    have lt':i < (l9 w S ep es).toList.length:=by rw [ln];exact lt
    have e0:(l9 w S ep es)[i]?=some ((l9 w S ep es).toList[i]):=by rw [<- Array.getElem?_toList];exact List.getElem?_eq_getElem lt'
    refine tY (nx:=0) (x:=((l9 w S ep es).toList[i]).2) st.1 st.2 (fun A' E' Q' z=>nS hb st.2 (by rw [e0];exact z)) fun g k e=>?_
    exact q _ g s.toks (by rw [List.getElem?_map,List.getElem?_eq_getElem lt'];rfl) ⟨e,st.2.keep fun u hu=>by rw [k.2 S ne];exact hu⟩ fun b o nb hb'=>by rw [k.2 b (by simpa using nb)];exact hb'
  done:=fun s Q E st q=>by
    have ln:(l9 w S ep es).size=es.size:=by have:=(jS w S ep es).length_eq;simpa using this
    refine xC hh st.1 st.2 (fun A' E' Q' z=>nS hb st.2 (by rw [Array.getElem?_eq_none (by rw [ln];exact Nat.le_refl _)];exact z)) fun g k=>q g s.toks fun b o nb hb'=>k b o (by simpa using nb) hb'
  self:=fun i s Q E st q=>o1 st.1 q
noncomputable def mo (t:SetTable) (i:Nat):Nat:=if i=0 then 0 else t.place.getD (i-1) 0+1
theorem mq (hr:Rs t.place) {i:Nat} (hi:i<=t.place.size):SetTable.below t.place (mo t i)=i:=by
  refine wl hr hi (fun k hk=>?_) fun k h1 h2=>?_
  · unfold mo;rw [if_neg (by omega)];by_cases z:k=i-1
    · rw [z];omega
    · have:=hr k (i-1) (by omega) (by omega);omega
  · unfold mo;by_cases z:i=0
    · rw [if_pos z];exact Nat.zero_le _
    · rw [if_neg z];exact hr (i-1) k (by omega) h2
theorem vJ (hh:A.handled=none) (hb:j7 w=false) (ne:S≠I) (hl:t.led=true) (hr:Rs t.place) (hf:t.fits es.size=true) (hd:¬ ((!t.plain&&decide (es.size > 1))=true)) :
    Walks prog w A I [I,S] [I] es.size (fun i v=>(es.toList.map (·.2))[i]?=some v) (fun i h=>h.get? I=some (u9 (.int (mo t i:Nat) 0) i es.size ep S)/\Si h S es ep t) where
  sub:=fun b hb=>by simp at hb;simp [hb]
  frame:=fun i h g st k=>⟨k I (by simp) _ st.1,st.2.keep fun u e=>k S (by simp) u e⟩
  item:=fun i s Q E lt st q=>by
    have ps:t.place.size=es.size:=by unfold SetTable.fits at hf;simp at hf;exact hf.1
    have bl:=mq hr (i:=i) (by omega);have e0:es[i]?=some es[i]:=Array.getElem?_eq_getElem lt;have e1:t.place[i]?=some (t.place.getD i 0):=nZ (by omega);refine tY (nx:=t.place.getD i 0+1) (x:=es[i].2) st.1 st.2 (fun A' E' Q' z=>nR hb hl hd st.2 (by rw [bl,e0,e1];exact z)) fun g k e=>?_
    exact q _ g s.toks (by rw [List.getElem?_map,List.getElem?_eq_getElem (by simpa using lt)];simp) ⟨e,st.2.keep fun u hu=>by rw [k.2 S ne];exact hu⟩ fun b o nb hb'=>by rw [k.2 b (by simpa using nb)];exact hb'
  done:=fun s Q E st q=>by
    have ps:t.place.size=es.size:=by unfold SetTable.fits at hf;simp at hf;exact hf.1
    have bl:=mq hr (i:=es.size) (by omega);refine xC hh st.1 st.2 (fun A' E' Q' z=>nR hb hl hd st.2 (by rw [bl,Array.getElem?_eq_none (Nat.le_refl _)];exact z)) fun g k=>q g s.toks fun b o nb hb'=>k b o (by simpa using nb) hb'
  self:=fun i s Q E st q=>o1 st.1 q
theorem sX (hh:A.handled=none) (ne:S≠I) (neT:T≠I) {pl:List Nat} (hp:pl.Perm (List.range es.size)) :
    Walks prog w A I [I,S,T] [I] es.size (fun i v=>(pl.map fun p=>(es.getD p (0,.none)).2)[i]?=some v) (fun i h=>h.get? I=some (u9 (.ref T) i es.size ep S)/\h.get? T=some (yy pl)/\Si h S es ep t) where
  sub:=fun b hb=>by simp at hb;simp [hb]
  frame:=fun i h g st k=>⟨k I (by simp) _ st.1,k T (by simp) _ st.2.1,st.2.2.keep fun u e=>k S (by simp) u e⟩
  item:=fun i s Q E lt st q=>by
    have ln:pl.length=es.size:=by rw [hp.length_eq];simp
    have lt':i < pl.length:=by omega
    have mp:pl[i] < es.size:=List.mem_range.mp (hp.mem_iff.mp (List.getElem_mem lt'));have e0:es[pl[i]]?=some es[pl[i]]:=Array.getElem?_eq_getElem mp;refine yV st.1 st.2.1 st.2.2 (List.getElem?_eq_getElem lt') e0 fun g k e=>?_
    exact q _ g s.toks (by rw [List.getElem?_map,List.getElem?_eq_getElem lt'];simp [Array.getD,mp]) ⟨e,by rw [k.2 T neT];exact st.2.1,st.2.2.keep fun u hu=>by rw [k.2 S ne];exact hu⟩ fun b o nb hb'=>by rw [k.2 b (by simpa using nb)];exact hb'
  done:=fun s Q E st q=>by
    have ln:pl.length=es.size:=by rw [hp.length_eq];simp
    exact Bm hh st.1 st.2.1 st.2.2 (List.getElem?_eq_none (by omega)) fun g k=>q g s.toks fun b o nb hb'=>k b o (by simpa using nb) hb'
  self:=fun i s Q E st q=>o1 st.1 q
end
noncomputable def Wk (prog:Program) (w:World) (A:Around) (h0:Heap) (S I:Addr) (g:Heap) (ord:List Value):Prop :=
  ∃ fp St,Walks prog w A I fp [I] ord.length (fun i v=>ord[i]?=some v) St/\St 0 g/\∀ b∈fp,b=S\/h0.objs.size<=b
section
variable {prog:Program} {w:World} {A B:Around} {E:Value->Shared->Prop} {s:Shared} {S:Addr} {es:Array (Int×Value)} {t:SetTable}
theorem vt {pl:List Nat} (hp:pl.Perm (List.range es.size)):(pl.map fun p=>(es.getD p (0,.none)).2).Perm (es.toList.map (·.2)):=by
  refine (hp.map _).trans ?_;refine List.Perm.of_eq (List.ext_getElem (by simp) fun k h1 h2=>?_);simp at h1;simp [Array.getD,h1]
theorem wX {Q:Value->Shared->Prop} (hh:B.handled=none) (L:pF prog w s.heap S (!j7 w) es t)
    (q:∀ (I:Addr) (g:Heap) (d:_) (ord:List Value),(∀ b o,s.heap.get? b=some o->g.get? b=some o)->s.heap.objs.size<=I->Wk prog w B s.heap S I g ord->ord.Perm (es.toList.map (·.2))->Q (.ref I) { s with heap:=g,drawn:=d }) :
    wpAny (model prog w) A (pyIter (.ref S)) Q E s:=by
  obtain ⟨u,ep,hu,hx,hd⟩:=L.obj;have I0:Si s.heap S es ep t:=⟨⟨u,hu,hx,hd⟩,L.fit⟩
  have ltS:=I0.lt;refine wpAny_pyIter_slot I0.ty PySem.F.slot_set_iter (wpAny_call_entry PySem.F.slot_set_iter I0.ty xZ ?_ (PySem.F.args_set_iter_1 _));unfold Builtin.«frozenset.__iter__»;refine wpAny_bind (wpAny_pure ?_);apply wpAny_bind;unfold Builtin.Frozenset.sizeOf;apply wpAny_bind;apply I0.count;apply wpAny_pure;apply wpAny_bind;unfold setDrawn;apply wpAny_bind;apply I0.state;dsimp only;apply wpAny_bind;apply jA;apply wpAny_pure;refine wpAny_ite_split (fun z=>?_) fun z=>?_
  · have hb:(!j7 w&&(!t.plain&&decide (es.size > 1)))=true:=z;apply wpAny_bind;refine lN es.size (List.range es.size) s _ (by simp) fun ys d pm=>?_
    apply wpAny_bind;have ln:ys.length=es.size:=by rw [pm.length_eq];simp
    refine wpAny_newTuple ?_ (by rw [List.length_map,ln];exact fits_of_scanBound L.few);apply wpAny_bind;unfold setEpoch;apply wpAny_bind;have I1:Si (s.heap.push (yy ys)) S es ep t:=I0.keep fun u e=>Heap.get?_push_of_some _ e
    refine Si.state (s:={ s with heap:=s.heap.push (yy ys),drawn:=d }) I1 ?_;apply wpAny_pure;refine wpAny_bind (wpAny_newObj_type ?_);have sz:(s.heap.push (yy ys)).objs.size=s.heap.objs.size+1:=Heap.size_push ..;refine wpAny_pure ⟨_,rfl,"set_iterator",_,⟨_,Heap.get?_push_size _ rfl,rfl⟩,jV.lookup,?_⟩;refine q (s.heap.push (yy ys)).objs.size _ d (ys.map fun p=>(es.getD p (0,.none)).2) (fun b o e=>Heap.get?_push_of_some _ (Heap.get?_push_of_some _ e)) (by rw [sz];exact Nat.le_succ _) ?_ (vt pm);refine ⟨[(s.heap.push (yy ys)).objs.size,S,s.heap.objs.size],(fun i h=>h.get? (s.heap.push (yy ys)).objs.size=some (u9 (.ref s.heap.objs.size) i es.size ep S)/\h.get? s.heap.objs.size=some (yy ys)/\Si h S es ep t),?_,⟨Heap.get?_push_size _ rfl,Heap.get?_push_of_some _ (Heap.get?_push_size _ rfl),I1.keep fun u e=>Heap.get?_push_of_some _ e⟩,fun b hb=>?_⟩
    · rw [List.length_map,ln];exact sX (S:=S) (T:=s.heap.objs.size) hh (by rw [sz];exact Nat.ne_of_lt (Nat.lt_succ_of_lt ltS)) (by rw [sz];exact Nat.ne_of_lt (Nat.lt_succ_self _)) pm
    · simp only [List.mem_cons,List.not_mem_nil,or_false] at hb;rcases hb with rfl | rfl | rfl
      · exact .inr (by rw [sz];exact Nat.le_succ _)
      · exact .inl rfl
      · exact .inr (Nat.le_refl _)
  · have hb:¬ (!j7 w&&(!t.plain&&decide (es.size > 1)))=true:=z;refine wpAny_bind (wpAny_pure ?_);apply wpAny_bind;unfold setEpoch;apply wpAny_bind;apply I0.state;apply wpAny_pure;refine wpAny_bind (wpAny_newObj_type ?_);refine wpAny_pure ⟨_,rfl,"set_iterator",_,⟨_,Heap.get?_push_size _ rfl,rfl⟩,jV.lookup,?_⟩;have ne:S≠s.heap.objs.size:=Nat.ne_of_lt ltS;have fpo:∀ b∈[s.heap.objs.size,S],b=S\/s.heap.objs.size<=b:=fun b hb=>by
      simp only [List.mem_cons,List.not_mem_nil,or_false] at hb;rcases hb with rfl | rfl
      · exact .inr (Nat.le_refl _)
      · exact .inl rfl
    cases bt:j7 w with
    | true =>
      have ln:((l9 w S ep es).toList.map (·.2)).length=es.size:=by rw [List.length_map,(jS w S ep es).length_eq];simp
      refine q s.heap.objs.size _ s.drawn ((l9 w S ep es).toList.map (·.2)) (fun b o e=>Heap.get?_push_of_some _ e) (Nat.le_refl _) ⟨[s.heap.objs.size,S],(fun i h=>h.get? s.heap.objs.size=some (u9 (.int (0:Nat) 0) i es.size ep S)/\Si h S es ep t),?_,⟨Heap.get?_push_size _ rfl,I0.keep fun u e=>Heap.get?_push_of_some _ e⟩,fpo⟩ ((jS w S ep es).map _);rw [ln];exact vK (t:=t) hh bt ne
    | false =>
      have nd:¬ ((!t.plain&&decide (es.size > 1))=true):=fun y=>hb (by rw [bt,y];rfl)
      have hl:t.led=true:=by rw [L.tab.1,bt];rfl
      have ln:(es.toList.map (·.2)).length=es.size:=by simp
      refine q s.heap.objs.size _ s.drawn (es.toList.map (·.2)) (fun b o e=>Heap.get?_push_of_some _ e) (Nat.le_refl _) ⟨[s.heap.objs.size,S],(fun i h=>h.get? s.heap.objs.size=some (u9 (.int (mo t i:Nat) 0) i es.size ep S)/\Si h S es ep t),?_,⟨Heap.get?_push_size _ rfl,I0.keep fun u e=>Heap.get?_push_of_some _ e⟩,fpo⟩ (List.Perm.refl _);rw [ln];exact vJ (t:=t) hh bt ne hl L.tab.2 L.fit nd
end
section
variable {prog:Program} {w:World} {A:Around} {E:Value->Shared->Prop} {s:Shared} {S:Addr} {es:Array (Int×Value)} {t:SetTable}
theorem pF.keep {h g:Heap} {b:Bool} (L:pF prog w h S b es t) (k:∀ u,h.get? S=some u->g.get? S=some u):pF prog w g S b es t:=by
  obtain ⟨u,ep,hu,r⟩:=L.obj;exact ⟨⟨u,ep,k u hu,r⟩,L.elm,L.few,L.fit,L.tab⟩
noncomputable abbrev AF (acc:Array Value) (c:Nat):Obj:={ cls:=.type "list",dict:=none,data:=.seq acc c,slots:=#[] }
theorem rZ {R:Result->Shared->Prop} {D:Addr} {res:Value} (hh:A.handled=none) (L:pF prog w s.heap S (!j7 w) es t) (ne:D≠S) (hD:s.heap.get? D=some (AF #[] 0))
    (q:∀ (g:Heap) (tk:Nat) (d:_) (acc:Array Value) (c:Nat),(∀ b o,b≠D->s.heap.get? b=some o->g.get? b=some o)->g.get? D=some (AF acc c)->acc.toList.Perm (es.toList.map (·.2))->R (.ok (.ret res)) { s with heap:=g,toks:=tk,drawn:=d }) :
    wpAny (model prog w) A.in1 (Builtin.List.listExtendWith (.ref D) (.ref S) res) (fun fin s'=>match fin with | .done f=>R (.ok f) s' | .again c'=>c'.quiet=true/\codeAny (model prog w) A c' R s') (fun e s'=>R (.error e) s') s:=by
  obtain ⟨u,ep,hu,hx,hd⟩:=L.obj;have ty:s.TypeIs (.ref S) "set" := ⟨u,hu,hx.1⟩
  have ltD:=Heap.lt_size hD;unfold Builtin.List.listExtendWith;refine wpAny_bind (wpAny_typeOf ty ?_);have e1:Builtin.List.listSameRef (.ref D) (.ref S)=false:=by simp [Builtin.List.listSameRef,ne]
  have e2:(Value.type "set" == Value.type "list")=false:=by decide
  have e3:(Value.type "set" == Value.type "tuple")=false:=by decide
  simp only [e1,e2,e3,Bool.or_false,Bool.false_eq_true,if_false];apply wpAny_bind;refine wX (B:=A.in1) hh L fun I g d ord kp hI W pm=>?_
  obtain ⟨fp,St,W,st,hfp⟩:=W;have Df:D∉fp:=fun z=>by
    rcases hfp D z with y | y
    · exact ne y
    · exact absurd ltD (Nat.not_lt.mpr y)
  have hD1:=kp D _ hD;have ty1:Shared.TypeIs { s with heap:=g,drawn:=d } (.ref S) "set" := ⟨u,kp S u hu,hx.1⟩
  refine wpAny_bind (wpAny_holding (xT ty1 ?_));have ln:ord.length<=sizeLine:=by
    rw [pm.length_eq,List.length_map,Array.length_toList];exact fits_of_scanBound L.few
  have key:∀ (g2:Heap) (c tk:Nat),St 0 g2->(∀ b o,b≠D->s.heap.get? b=some o->g2.get? b=some o)->g2.get? D=some (AF #[] c)->codeAny (model prog w) A (.builtin "list.extend.loop" ⟨[.ref D,.ref I,res],[]⟩) R { s with heap:=g2,toks:=tk,drawn:=d }:=fun g2 c tk st2 k2 hD2=>by
    refine codeAny_extend_loopS W.toS ln D Df res ord.length 0 _ #[] c rfl (Nat.zero_le _) st2 hD2 (ItemsOf.nil _) fun s3 acc c3 mv hD3 hacc=>?_
    have ea:acc.toList=ord:=by
      refine List.ext_getElem (by rw [Array.length_toList];exact hacc.1) fun k h1 h2=>?_
      have:=hacc.2 k acc[k] (Array.getElem?_eq_getElem (by simpa using h1));dsimp only at this;rw [List.getElem?_eq_getElem h2] at this;simpa using (Option.some.inj this).symm
    rw [Moved.eq_with mv];refine q s3.heap s3.toks d acc c3 (fun b o nb e=>mv.heap b o (fun z=>?_) (k2 b o nb e)) hD3 (by rw [ea];exact pm);rcases List.mem_cons.mp z with y | y
    · exact nb y
    · rw [List.mem_singleton.mp y] at e;exact absurd (Heap.lt_size e) (Nat.not_lt.mpr hI)
  refine wpAny_ite_split (fun _=>?_) fun _=>wpAny_pure ⟨plainId_quiet PySem.F.plain_extend_loop _,key g 0 _ st (fun b o _ e=>kp b o e) hD1⟩
  refine wpAny_bind (wpAny_rule ?_);apply wpAny_bind;show wpAny _ _ (updateSeq D (·.push .none)>>=fun _=>updateSeq D (·.pop)) _ _ _;refine wpAny_bind (wpAny_updateSeq hD1 rfl ?_);have hD2:=Heap.get?_update_self (Obj.mapSeq (·.push Value.none)) hD1 rfl;refine wpAny_updateSeq (hz:=by seq_fits) hD2 rfl ?_;have hD3:=Heap.get?_update_self (Obj.mapSeq (·.pop)) hD2 rfl;have oth:∀ b o,b≠D->g.get? b=some o->((g.update D (Obj.mapSeq (·.push Value.none))).update D (Obj.mapSeq (·.pop))).get? b=some o:=fun b o nb e=>(Heap.get?_update_other _ _ (Ne.symm nb)).trans ((Heap.get?_update_other _ _ (Ne.symm nb)).trans e)
  exact wpAny_pure ⟨plainId_quiet PySem.F.plain_extend_loop _,key _ _ _ (W.frame 0 _ _ st fun b hb o e=>oth b o (fun z=>Df (z ▸ hb)) e) (fun b o nb e=>oth b o nb (kp b o e)) hD3⟩
theorem qm {R:List Value->Shared->Prop} (hh:A.handled=none) (L:pF prog w s.heap S (!j7 w) es t)
    (q:∀ (g:Heap) (tk:Nat) (d:_) (vs:List Value),(∀ b o,s.heap.get? b=some o->g.get? b=some o)->vs.Perm (es.toList.map (·.2))->R vs { s with heap:=g,toks:=tk,drawn:=d }):wpAny (model prog w) A (collect (.ref S)) R E s:=by
  have ltS:S < s.heap.objs.size:=let ⟨_,_,hu,_⟩:=L.obj;Heap.lt_size hu
  unfold collect;refine wpAny_bind (wpAny_runValue (codeAny_builtin entry_proto_collect' ?_));rw [Around.under_plainId PySem.F.plain_proto_collect _];show wpAny _ A.in1 (newList []>>=fun l=>again (.builtin "list.__iadd__" ⟨[l,.ref S],[]⟩)) _ _ s;refine wpAny_bind (wpAny_newObj_type ?_);refine wpAny_pure ⟨plainId_quiet PySem.F.plain_list_iadd _,codeAny_builtin entry_list_iadd' ?_⟩;rw [Around.under_plainId PySem.F.plain_list_iadd _];have at0:(s.heap.push (AF ([]:List Value).toArray 0)).get? s.heap.objs.size=some (AF #[] 0):=Heap.get?_push_size _ rfl;show wpAny _ A.in1 (Builtin.List.listExtendWith (.ref s.heap.objs.size) (.ref S) (.ref s.heap.objs.size)) _ _ _;have L1:pF prog w (s.heap.push (AF ([]:List Value).toArray 0)) S (!j7 w) es t:=L.keep fun u e=>Heap.get?_push_of_some _ e
  have main:=rZ (A:=A) (s:={ s with heap:=s.heap.push (AF ([]:List Value).toArray 0) }) (res:=.ref s.heap.objs.size)
    (R:=fun r s'=>∃ (g:Heap) (tk:Nat) (d:Drawn) (acc:Array Value) (c:Nat),r=.ok (.ret (.ref s.heap.objs.size))/\s'={ s with heap:=g,toks:=tk,drawn:=d }/\(∀ b o,s.heap.get? b=some o->g.get? b=some o)/\g.get? s.heap.objs.size=some (AF acc c)/\acc.toList.Perm (es.toList.map (·.2)))
    hh L1 (Nat.ne_of_gt ltS) at0 fun g tk d acc c kp hg pm=>⟨g,tk,d,acc,c,rfl,rfl,fun b o e=>kp b o (Nat.ne_of_lt (Heap.lt_size e)) (Heap.get?_push_of_some _ e),hg,pm⟩
  refine wpAny_mono main (fun fin s' x=>?_) fun e s' x=>?_
  · cases fin with
    | done f =>
      obtain ⟨g,tk,d,acc,c,e,rfl,kp,hg,pm⟩:=x;cases e;show wpAny _ A (load s.heap.objs.size>>=_) _ _ _;exact wpAny_bind (wpAny_load hg (wpAny_pure (q g tk d acc.toList kp pm)))
    | again c₁ =>
      refine ⟨x.1,codeAny_mono x.2 fun r s₂ y=>?_⟩;obtain ⟨g,tk,d,acc,c,rfl,rfl,kp,hg,pm⟩:=y;show wpAny _ A (load s.heap.objs.size>>=_) _ _ _;exact wpAny_bind (wpAny_load hg (wpAny_pure (q g tk d acc.toList kp pm)))
  · obtain ⟨_,_,_,_,_,e',_⟩:=x;cases e'
end
end D2
namespace D2
open PySem PySem.Spec PyProof.Rows L2
noncomputable def uK (ns:List Int):List Int:=ns.foldl step_dedup []
theorem sv (ns:List Int):firstMet (fun i=>ns.getD i 0) ns.length=uK ns:=by
  unfold firstMet uK;congr 1;refine List.ext_getElem (by simp) fun k h1 h2=>?_
  simp [List.getD,List.getElem?_eq_getElem h2]
theorem Bj (ns:List Int):(uK ns).length<=ns.length:=by
  rw [<- sv];exact firstMet_length_le _ _
theorem nI:∀ (vs:List Value),(∀ v∈vs,∃ n tk,v=.int n tk)->IntsAre vs (vs.map vb)
  | [],_=>.nil
  | v::vs,h=>by
    obtain ⟨n,tk,rfl⟩:=h v List.mem_cons_self;exact .cons n tk (nI vs fun u hu=>h u (List.mem_cons_of_mem _ hu))
section
variable {prog:Program} {w:World} {A:Around} {E:Value->Shared->Prop} {s:Shared} {S:Addr}
theorem sN {l:List Int} {Q:Value->Shared->Prop} (hh:A.handled=none) (X:kP prog w s.heap S (!j7 w) l) (h64:l.length < 64)
    (q:∀ (D:Addr) (g:Heap) (tk:Nat) (d:_) (vs:List Value) (e:Nat),s.heap.get? D=none->(∀ b o,s.heap.get? b=some o->g.get? b=some o)->g.get? D=some (seqObj "list" vs.toArray e)->IntsAre vs (c6 l)->Q (.ref D) { s with heap:=g,toks:=tk,drawn:=d }) :
    wpAny (model prog w) A (call (.builtin "sorted") [.ref S]) Q E s:=by
  obtain ⟨es,t,L,pm⟩:=X;refine Calls.call_function_entry kind_sorted plain_sorted entry_sorted (args_sorted1 _) ?_;unfold Builtin.«sorted»;refine wpAny_bind (m:=checkCount "sorted" 1 1 _) (wpAny_pure ?_);refine wpAny_bind (qm (A:=A.in1) hh L fun g tk d vs kp pv=>?_);have hv:∀ v∈vs,∃ n tk,v=.int n tk:=fun v hv=>by
    obtain ⟨e,he,rfl⟩:=List.mem_map.mp (pv.mem_iff.mp hv);obtain ⟨⟨k,hk,_⟩,_⟩:=L.elm e he;obtain ⟨tk,z⟩:=Value.isInt_shape (k:=k) (v:=e.2) hk;exact ⟨k,tk,z⟩
  have hI:=nI vs hv;have pl:(vs.map vb).Perm l:=by
    refine (pv.map vb).trans ?_;rw [List.map_map];exact pm
  have ln:vs.length=l.length:=by have:=pl.length_eq;rwa [List.length_map] at this
  refine wpAny_bind (wpAny_newList ?_ (by rw [ln,sizeLine_eq];omega));have at0:(g.push (seqObj "list" vs.toArray 0)).get? g.objs.size=some (seqObj "list" vs.toArray 0):=Heap.get?_push_size _ rfl;show wpAny _ _ _ _ _ { s with heap:=g.push (seqObj "list" vs.toArray 0),toks:=tk,drawn:=d };refine wpAny_bind (wpAny_holding (wpAny_call_entry slot_list_sort ⟨_,at0,rfl⟩ entry_list_sort (list_sort_tree at0 hI (by rw [ln];exact h64) fun out ns' a1 a2 a3=>⟨_,rfl,?_⟩) (args_list_sort _)));refine wpAny_pure ⟨_,rfl,?_⟩;obtain ⟨e,he⟩:=sortedHeap_at (out:=out) at0;have fr:s.heap.get? g.objs.size=none:=by
    cases z:s.heap.get? g.objs.size with
    | none=>rfl
    | some o=>exact absurd (Heap.lt_size (kp _ _ z)) (Nat.lt_irrefl _)
  refine q g.objs.size _ tk d out.toList e fr (fun b o z=>?_) he (by rw [iF (a2.trans pl) a3] at a1;exact a1);have z1:=kp b o z;have lt:b < g.objs.size:=Heap.lt_size z1;show (sortedHeap (g.push (seqObj "list" vs.toArray 0)) g.objs.size vs out).get? b=some o;rw [sortedHeap_old (Nat.ne_of_lt lt) (by rw [size_push'];exact Nat.lt_succ_of_lt lt)];exact Heap.get?_push_of_some _ z1
end
theorem u6 {X:Cx} {pins:List (Addr×Obj)} {σ:St} {H:Hp} {s:Shared} {h':Heap} {a:Addr} {o:HO} {t':Nat} {d':Drawn} (I:aC X pins σ H s) (k:∀ b u,s.heap.get? b=some u->h'.get? b=some u) (hg:s.heap.get? a=none) (hn:H a=none)
    (new:bG X.prog X.w (cI H a o) h' a o):aC X pins σ (cI H a o) { s with heap:=h',toks:=t',drawn:=d' }:=by
  have J:=qE (t':=t') I k hg hn new;exact ⟨J.ok,J.os,J.bare,J.base,J.loc,J.cell,J.free,J.freeC,J.pin,J.hok,J.len⟩
section
variable {X:Cx} {a b c:Expr} {fa fb fc:Fe} {pos p2:Pos} {nl:Nat} {G:List Str} {x:Str} {p p1:Pos} {pos1:Pos} {t:TA}
noncomputable def Ga (K:PySem.W.Frag):List V->Hp->VK->Prop:=fun xs H Q=>∃ p ns,xs=[.ref p]/\(kQ K H p (ns.map V.int)\/gC K H p (ns.map V.int))/\ns.length < 64/\∀ l,H l=none->Q (.ref l) (cI H l (.lst ((c6 (uK ns)).map V.int)))
theorem yM (hc:X.calm=true) {pins:List (Addr×Obj)} {s:Shared} {σ:St} {H:Hp} {vs:List V} {us:List Value} {Q:VK} (I:aC X pins σ H s) (r:ba vs us) (h:Ga X.K vs H Q) :
    wpAny (model X.prog X.w) X.A (call (.type "set") us) (fun v s1=>wpAny (model X.prog X.w) X.A (call (.builtin "sorted") [v]) (EP X pins σ Q) X.xe s1) X.xe s:=by
  obtain ⟨p,ns,rfl,hq,h64,q⟩:=h;obtain ⟨u,rfl,rx⟩:=eX r;cases rx;have hh:=I.ok.hd hc;have few:ns.length+1 < scanBound:=by have:scanBound=4096:=rfl;omega
  have fin:∀ (g:Heap) (tk:Nat) (S:Addr),kP X.prog X.w g S (!j7 X.w) (uK ns)->(∀ b o,s.heap.get? b=some o->g.get? b=some o)->wpAny (model X.prog X.w) X.A (call (.builtin "sorted") [.ref S]) (EP X pins σ Q) X.xe { s with heap:=g,toks:=tk }:=fun g tk S Y kp=>by
    have dl:=Bj ns;refine sN (s:={ s with heap:=g,toks:=tk }) hh Y (by omega) fun D g2 tk2 d vs e hg kp2 hD hI=>?_
    have hg0:s.heap.get? D=none:=by
      cases z:s.heap.get? D with
      | none=>rfl
      | some o=>rw [kp D o z] at hg;cases hg
    have hn:=qF I hg0;refine ⟨.ref D,_,u6 (s:=s) (t':=tk2) (d':=d) (o:=.lst ((c6 (uK ns)).map V.int)) I (fun b o z=>kp2 b o (kp b o z)) hg0 hn ⟨?_,vs,e,gr hI,by simpa [seqObj] using hD⟩,rfl,q _ hn⟩;rw [List.length_map,km,sizeLine_eq];omega
  rcases hq with hq | hq
  · obtain ⟨its,rv,pl,hz⟩:=I.list hq;have hI:IntsAre its ns:=eI rv;have ln:=IntsAre.length hI;refine qj (xY (prog:=X.prog) (w:=X.w) (a:=p) (items:=its.toArray) (ns:=ns) (by simpa using hI)) hh pl.isList (by simp;omega) fun g tk Y kp=>?_
    rw [show its.toArray.size=ns.length by simp [ln],sv] at Y;exact fin g tk _ Y kp
  · obtain ⟨its,rv,pl,hz⟩:=I.tuple hq;have hI:IntsAre its ns:=eI rv;have ln:=IntsAre.length hI;refine qj (vC (prog:=X.prog) (w:=X.w) (a:=p) (items:=its.toArray) (ns:=ns) (by simpa using hI)) hh pl (by simp;omega) fun g tk Y kp=>?_
    rw [show its.toArray.size=ns.length by simp [ln],sv] at Y;exact fin g tk _ Y kp
theorem DJ (hc:X.calm=true) (hg1:Gl X "sorted") (hm1:X.mg "sorted" = none) (hg2:Gl X "set") (hm2:X.mg "set" = none) (ha:PA X [a] t) (he:starEach [a] X.env=[(false,eval a X.env)]) :
    PE X (.Call (.Name "sorted" p) [.Call (.Name "set" p1) [a] [] pos1] [] pos) (EU (Ga X.K) t):=by
  intro pins s σ H Q I h;refine wpAny_Call_Name_kw (jj I hg1 hm1 PyProof.Rows.boot_sorted ?_);refine PyProof.Rows.callWith_builtin1 ?_ rfl rfl;refine Calls.spliced_cons (wpAny_Call_Name_kw (jj I hg2 hm2 PyProof.Rows.boot_set ?_));refine PyProof.Rows.callWith_type1 (cR (ha pos1 pins s σ H _ I h) fun us s1 zq0=>?_) he rfl;obtain ⟨vs,H1,I1,r1,q1⟩:=zq0;exact cR (yM hc I1 r1 q1) fun v s2 z=>Calls.spliced_nil z
noncomputable def wE:PyData->R PyData
  | .list ds=>match bz ds with
    | some ns=>if ns.length < 64 then .ok (.list ((c6 (uK ns)).map PyData.int)) else .no
    | none=>.no
  | .tuple ds=>match bz ds with
    | some ns=>if ns.length < 64 then .ok (.list ((c6 (uK ns)).map PyData.int)) else .no
    | none=>.no
  | _=>.no
theorem jy (T:Tb X nl G) (j k:Nat) (hG:G[j]?=some ("sorted" : Str)) (hm:X.mg "sorted" = none) (hG2:G[k]?=some ("set" : Str)) (hm2:X.mg "set" = none) (ha:Z.cQ X a fa) (he:aM a=true:=by rfl):Z.jt X (.Call (.Name "sorted" p) [.Call (.Name "set" p1) [a] [] pos1] [] pos) (e1 wE fa):=⟨have ha:=ha.un;by
  have q1:=T.gl "sorted" (List.mem_of_getElem? hG);have q2:=T.gl "set" (List.mem_of_getElem? hG2);have sa:starEach [a] X.env=[(false,eval a X.env)]:=bu he;show PE X _ (iz X A1 (e1 wE fa));rw [<- sA];refine PE.imp (DJ T.calm q1.1 hm q2.1 hm2 (jJ ha oU he) sa) (tu yW (sP fun H x d Q hx q=>?_));cases d with
  | list ds =>
    simp only [wE] at q;cases ei:bz ds with
    | none=>rw [ei] at q;exact q.elim
    | some ns =>
      rw [ei] at q;dsimp only at q;by_cases h64:ns.length < 64
      · rw [if_pos h64] at q;obtain ⟨a',vs,rfl,h,r⟩:=cU (K:=X.K) hx;rw [cP ei] at r;rw [fI r] at h;exact ⟨a',ns,rfl,.inl h,h64,fun l hl=>q _ _ (bM hl _) (df hl (aZ.ints _))⟩
      · rw [if_neg h64] at q;exact q.elim
  | tuple ds =>
    simp only [wE] at q;cases ei:bz ds with
    | none=>rw [ei] at q;exact q.elim
    | some ns =>
      rw [ei] at q;dsimp only at q;by_cases h64:ns.length < 64
      · rw [if_pos h64] at q;obtain ⟨a',vs,rfl,h,r⟩:=cn hx;rw [cP ei] at r;rw [fI r] at h;exact ⟨a',ns,rfl,.inr (.inl (.inl h)),h64,fun l hl=>q _ _ (bM hl _) (df hl (aZ.ints _))⟩
      · rw [if_neg h64] at q;exact q.elim
  | _=>exact q.elim⟩
end
noncomputable def iY (X:Cx) (k:Nat):Prop:=∀ x∈X.N.drop k,X.env.kindOf x=some .cell\/X.env.kindOf x=some .free
theorem wu {X:Cx} {sc:Scope} {N:List Str} {own:Nat} {G oN:List Str} {fr:List Nat} (ck:cK sc N own G oN fr) (cl:List (Str×Addr)) (C:Addr) (s:Shared) (H:Hp) (fp:List Addr) (E:Value->Shared->Prop):iY (aq X N sc cl C s H fp E) own:=by
  obtain ⟨_,_,_,_,_,f,_,_,_,_⟩:=ck;intro x hx;rcases dA (env:=X.env) (f x hx) with q | q
  · exact .inr q
  · exact .inl q
theorem uR {X:Cx} {tg iter elt:Expr} {ifs:List Expr} {sc:Scope} {pos:Pos} {it:ay->R (List PyData)} {b:PyData->ay->Option ay} {t:ay->R Bool} {f:Fe} {N:List Str} {own:Nat} {G G0:List Str} {fr:List Nat} {nl:Nat}
    (T:Tb X nl G0) {oN:List Str} {on:List (Str×NameKind)} (hoN:X.N=oN) (hon:X.env.scope.names=on)
    (ck:cK sc N own G oN fr/\∀ y∈sc.names,y.2=.free->on.lookup y.1=some .cell\/on.lookup y.1=some .free) (hi:mC X tg iter it)
    (hb0:∀ ρ d ρ1,b d (ao own fr ρ)=some ρ1->gu (ao own fr ρ) ρ1)
    (hbodyO:∀ cl C s H fp E,Tb (aq X N sc cl C s H fp E) own G->iY (aq X N sc cl C s H fp E) own->mK (aq X N sc cl C s H fp E) tg b/\mW (aq X N sc cl C s H fp E) ifs t/\cm (aq X N sc cl C s H fp E) elt f)
    (hs:∀ x,foldedSetIterable iter X.env x=pure x:=by intro _;rfl) (hstk:∃ env0 outer0 L,X.stack=env0::outer0/\env0.frame=some L/\X.env.frame=some L:=by exact ⟨_,_,_,rfl,rfl,rfl⟩):jt X (.ListComp elt [⟨tg,iter,ifs,0⟩] sc pos) (aY it own fr b t f) :=
  nE T hoN hon ck hi hb0 (fun cl C s H fp E T'=>hbodyO cl C s H fp E T' (wu ck.1 cl C s H fp E)) hs hstk
theorem Ap {X:Cx} {tg iter elt:Expr} {ifs:List Expr} {sc:Scope} {pos:Pos} {it:ay->R (List PyData)} {b:PyData->ay->Option ay} {t:ay->R Bool} {f:Fe} {N:List Str} {own:Nat} {G G0:List Str} {fr:List Nat} {nl:Nat} (T:Tb X nl G0) {oN:List Str} {on:List (Str×NameKind)} (hoN:X.N=oN) (hon:X.env.scope.names=on) (ck:cK sc N own G oN fr/\∀ y∈sc.names,y.2=.free->on.lookup y.1=some .cell\/on.lookup y.1=some .free) (hi:Z.mC X tg iter it) (hb0:∀ ρ d ρ1,b d (ao own fr ρ)=some ρ1->gu (ao own fr ρ) ρ1) (hbodyO:∀ cl C s H fp E,Tb (aq X N sc cl C s H fp E) own G->iY (aq X N sc cl C s H fp E) own->Z.mK (aq X N sc cl C s H fp E) tg b/\Z.mW (aq X N sc cl C s H fp E) ifs t/\Z.cm (aq X N sc cl C s H fp E) elt f) (hs:∀ x,foldedSetIterable iter X.env x=pure x:=by intro _;rfl) (hstk:∃ env0 outer0 L,X.stack=env0::outer0/\env0.frame=some L/\X.env.frame=some L:=by exact ⟨_,_,_,rfl,rfl,rfl⟩):Z.jt X (.ListComp elt [⟨tg,iter,ifs,0⟩] sc pos) (aY it own fr b t f) :=
  ⟨D2.uR T hoN hon ck hi.un hb0 (fun cl C s H fp E T cap=>let ⟨q1,q2,q3⟩:=hbodyO cl C s H fp E T cap;⟨q1.un,q2.un,q3.un⟩) hs hstk⟩
theorem uP {X:Cx} {tg iter elt:Expr} {ifs:List Expr} {sc:Scope} {pos:Pos} {it:ay->R (List PyData)} {b:PyData->ay->Option ay} {t:ay->R Bool} {f:Fe} {N:List Str} {own:Nat} {G G0:List Str} {fr:List Nat} {nl k:Nat}
    (T:Tb X nl G0) {oN:List Str} (hoN:X.N=oN) (cap:iY X k)
    (ck:cK sc N own G oN fr/\∀ y∈sc.names,y.2=.free->y.1∈oN.drop k) (hi:mC X tg iter it)
    (hb0:∀ ρ d ρ1,b d (ao own fr ρ)=some ρ1->gu (ao own fr ρ) ρ1)
    (hbody:∀ cl C s H fp E,Tb (aq X N sc cl C s H fp E) own G->mK (aq X N sc cl C s H fp E) tg b/\mW (aq X N sc cl C s H fp E) ifs t/\cm (aq X N sc cl C s H fp E) elt f)
    (hs:∀ x,foldedSetIterable iter X.env x=pure x:=by intro _;rfl) (hstk:∃ env0 outer0 L,X.stack=env0::outer0/\env0.frame=some L/\X.env.frame=some L:=by exact ⟨_,_,_,rfl,rfl,rfl⟩):jt X (.ListComp elt [⟨tg,iter,ifs,0⟩] sc pos) (aY it own fr b t f) :=
  lS T (by rw [hoN];exact ck.1) (fun y hy hf=>cap y.1 (by rw [hoN];exact ck.2 y hy hf)) hi hb0 hbody hs hstk
theorem im {X:Cx} {tg iter elt:Expr} {ifs:List Expr} {sc:Scope} {pos:Pos} {it:ay->R (List PyData)} {b:PyData->ay->Option ay} {t:ay->R Bool} {f:Fe} {N:List Str} {own:Nat} {G G0:List Str} {fr:List Nat} {nl k:Nat} (T:Tb X nl G0) {oN:List Str} (hoN:X.N=oN) (cap:iY X k) (ck:cK sc N own G oN fr/\∀ y∈sc.names,y.2=.free->y.1∈oN.drop k) (hi:Z.mC X tg iter it) (hb0:∀ ρ d ρ1,b d (ao own fr ρ)=some ρ1->gu (ao own fr ρ) ρ1) (hbody:∀ cl C s H fp E,Tb (aq X N sc cl C s H fp E) own G->Z.mK (aq X N sc cl C s H fp E) tg b/\Z.mW (aq X N sc cl C s H fp E) ifs t/\Z.cm (aq X N sc cl C s H fp E) elt f) (hs:∀ x,foldedSetIterable iter X.env x=pure x:=by intro _;rfl) (hstk:∃ env0 outer0 L,X.stack=env0::outer0/\env0.frame=some L/\X.env.frame=some L:=by exact ⟨_,_,_,rfl,rfl,rfl⟩):Z.jt X (.ListComp elt [⟨tg,iter,ifs,0⟩] sc pos) (aY it own fr b t f) :=
  ⟨D2.uP T hoN cap ck hi.un hb0 (fun cl C s H fp E T=>let ⟨q1,q2,q3⟩:=hbody cl C s H fp E T;⟨q1.un,q2.un,q3.un⟩) hs hstk⟩
section
variable {prog:Program} {w:World} {A:Around} {E:Value->Shared->Prop} {s:Shared}
noncomputable abbrev sj (vs:Array Value) (x:Value):Nat->Option PySem.Fin×Unit->Sem (ForInStep (Option PySem.Fin×Unit)):=fun i _ =>
  match vs[i]? with
  | some y=>do
    let b <- eqBool y x
    if b=true then do
      let r <- retInt (i:Int)
      pure (ForInStep.done (some r,()))
    else pure (ForInStep.yield (none,()))
  | _=>pure (ForInStep.yield (none,()))
theorem wQ {k:Int}:∀ (ns:List Int) (i:Nat),ns[i]?=some k->ns.idxOf k<=i
  | [],i,h=>by simp at h
  | n::ns,0,h=>by
    simp at h;subst h;simp [List.idxOf_cons]
  | n::ns,i+1,h=>by
    have:=wQ ns i (by simpa using h);rw [List.idxOf_cons];cases n==k <;> simp <;> omega
theorem tN {vs:List Value} {ns:List Int} {k:Int} {t:Tok} (hi:IntsAre vs ns) {Q:Option PySem.Fin×Unit->Shared->Prop}:∀ (m i:Nat) (s:Shared),i+m=vs.length->(∀ j,j < i->ns[j]?≠some k)->k∈ns ->
    (∀ tk tk',Q (some (.done (.ret (.int (ns.idxOf k:Nat) tk))),()) { s with toks:=tk' })->wpAny (model prog w) A (forIn (List.range' i m) ((none:Option PySem.Fin),()) (sj vs.toArray (.int k t))) Q E s
  | 0,i,s,h,hno,hk,q=>by
    exfalso;obtain ⟨j,hj,e⟩:=List.mem_iff_getElem.mp hk;have hl:=IntsAre.length hi;exact hno j (by omega) (by rw [List.getElem?_eq_getElem hj,e])
  | m+1,i,s,h,hno,hk,q=>by
    have hl:=IntsAre.length hi;have lt:i < vs.length:=by omega
    have ltn:i < ns.length:=by omega
    obtain ⟨tv,ev⟩:=hi.int_at i vs[i] (List.getElem?_eq_getElem lt);have en:ns.getD i 0=ns[i]:=by simp [List.getD,List.getElem?_eq_getElem ltn]
    rw [en] at ev;rw [List.range'_succ,List.forIn_cons];have e0:vs.toArray[i]?=some (.int ns[i] tv):=by simp [lt,ev]
    unfold sj;rw [e0];dsimp only;apply wpAny_bind;apply wpAny_bind;refine (intKind prog w).eqBool (a:=ns[i]) (b:=k) (intKind_is _ _ _ _) (intKind_is _ _ _ _) ?_;by_cases z:ns[i]=k
    · rw [if_pos (by simpa using z)];have ei:ns.idxOf k=i:=by
        have h1:ns.idxOf k<=i:=wQ ns i (by rw [List.getElem?_eq_getElem ltn,z]);rcases Nat.lt_or_eq_of_le h1 with y | y
        · exfalso;have hlt:ns.idxOf k < ns.length:=List.idxOf_lt_length_iff.mpr hk;exact hno _ y (by rw [List.getElem?_eq_getElem hlt,List.getElem_idxOf hlt])
        · exact y
      rw [ei] at q;obtain ⟨hp,g,d,tk,os⟩:=s;unfold retInt
      wp_walk
      exact q _ _
    · rw [if_neg (by simpa using z)];refine wpAny_pure ?_;exact tN hi m (i+1) s (by omega) (fun j hj=>by
        by_cases y:j=i
        · subst y;rw [List.getElem?_eq_getElem ltn];intro e;exact z (Option.some.inj e)
        · exact hno j (by omega)) hk q
theorem kn {l:Addr} {vs:List Value} {ns:List Int} {k:Int} {t:Tok} {Q:Value->Shared->Prop} (hl:s.heap.IsTuple l vs.toArray) (hi:IntsAre vs ns) (hk:k∈ns) (q:∀ tk tk',Q (.int (ns.idxOf k:Nat) tk) { s with toks:=tk' }) :
    wpAny (model prog w) A (call (.builtin "tuple.index") [.ref l,.int k t]) Q E s:=by
  refine wpAny_call_entry PySem.F.slot_tuple_index hl.typeIs PySem.F.entry_tuple_index ?_ (PySem.F.args_tuple_index_2 _ _);obtain ⟨o,ho,hc,n,hd⟩:=hl;obtain ⟨oc,od,oda,os⟩:=o;simp only at hc hd;subst hc hd;obtain ⟨hp,g,d,tk,os'⟩:=s;unfold Builtin.«tuple.index»
  wp_walk using wpAny_loadPart' ho
  show wpAny (model prog w) A.in1 (forIn [:min vs.toArray.size vs.toArray.size] ((none:Option PySem.Fin),()) (sj vs.toArray (.int k t))) _ _ _;rw [Std.Legacy.Range.forIn_eq_forIn_range'];refine tN hi _ 0 _ ?_ (fun j hj=>by omega) hk fun tk1 tk2=>?_
  · simp [Std.Legacy.Range.size]
  · exact wpAny_pure ⟨_,rfl,q tk1 tk2⟩
end
section
variable {X:Cx} {o e:Expr} {fo fe:Fe} {apos cpos:Pos}
theorem vn:Ez X "tuple.index" (fun x xs H Q=>∃ (l:Addr) (ns:List Int) (k:Int),x=.ref l/\xs=[.int k]/\gC X.K H l (ns.map V.int)/\k∈ns/\Q (.int (ns.idxOf k:Nat)) H):=by
  intro pins s σ H x xs v us Q I rx rs h;obtain ⟨l,ns,k,rfl,rfl,hq,hk,q⟩:=h;cases rx;obtain ⟨u,rfl,t,rfl⟩:=eX rs;obtain ⟨its,rv,pl,hz⟩:=I.tuple hq;exact kn pl (eI rv) hk fun tk tk'=>⟨.int _,H,I.tok _,⟨_,rfl⟩,q⟩
noncomputable def Br:PyData->R Unit
  | .tuple _=>.ok ()
  | _=>.no
noncomputable def fP:PyData->PyData->R PyData
  | .tuple ds,.int k=>match bz ds with
    | some ns=>if k∈ns then .ok (.int (ns.idxOf k:Nat)) else .no
    | none=>.no
  | _,_=>.no
noncomputable def kW (fo fe:Fe):Fe:=fun ρ=>fo ρ>>=fun x=>Br x>>=fun _=>fe ρ>>=fun y=>fP x y
theorem p0 (ho:Z.cQ X o fo) (he:Z.cm X e fe) (hb:attributeBase o "index" X.env (eval o X.env)=eval o X.env:=by rfl) (hst:aM e=true:=by rfl) (hline:(apos.endLine==cpos.line)=true:=by rfl):Z.cm X (.Call (.Attribute o "index" apos) [e] [] cpos) (kW fo fe):=⟨have ho:=ho.un;have he:=he.un;by
  have sc:starEach [e] X.env=(false,eval e X.env)::starEach [] X.env:=bu hst;refine PE.imp (tW PySem.F.plainAttrs_tuple PySem.F.slot_tuple_index PySem.F.type_tuple_index vn ho (gN he jd hst) hb (by rw [sc];rfl) hline sc rfl) fun σ H Q h=>?_
  refine (da (P:=pG) (f:=fo) (k:=fun ρ x=>Br x>>=fun _=>fe ρ>>=fun y=>fP x y) (dG (X:=X) dR Q) h).post fun v H1 zq0=>?_
  obtain ⟨ρ1,d1,sl1,_,p1,q1⟩:=zq0;cases d1 with
  | tuple ds =>
    obtain ⟨a,vs,rfl,h1,r1⟩:=cn p1;refine ⟨.inr (.inl ⟨rfl,.inr ⟨_,h1⟩⟩),?_⟩;have q1:rz X gh (ah fe az ρ1>>=one (fP (.tuple ds))) H1 Q:=by
      have e0:(ah fe az ρ1>>=one (fP (.tuple ds)))=(fe ρ1>>=fun y=>fP (.tuple ds) y):=by
        unfold ah az;cases fe ρ1 <;> rfl
      rw [e0];exact q1
    refine (jc (I:=Rp) (f:=ah fe az) (k:=fun _=>one (fP (.tuple ds))) (dG (X:=X) dR Q) ⟨ρ1,sl1,q1⟩).post fun us H2 zq0=>?_
    obtain ⟨_,ds2,_,s2,p2,q2⟩:=zq0;unfold one at q2;split at q2
    · rename_i d2;simp only [RA] at p2;obtain ⟨w,r',rfl,p2,rfl⟩:=p2;cases d2 with
      | int k =>
        have ew:w=.int k:=by simpa only [Rp] using p2
        subst ew;simp only [fP] at q2;cases ei:bz ds with
        | none=>rw [ei] at q2;exact q2.elim
        | some ns =>
          rw [ei] at q2;dsimp only at q2;split at q2
          · rename_i hz;have p3:=fM.mono p1 s2;rw [cP ei] at p3;obtain ⟨a',vs',ea,h3,r3⟩:=cn p3;cases ea;rw [fI r3] at h3;exact ⟨a,ns,k,rfl,rfl,.inl (.inl h3),hz,q2 _ H2 (ar.refl _) cC⟩
          · exact q2.elim
      | _=>exact q2.elim
    · exact q2.elim
  | _=>exact q1.elim⟩
end
mutual
theorem nU {h:Heap}:∀ {v:Value} {d:PyData} {as:List Addr},Reads h v d as->∀ {e:PyData} {bs:List Addr},Reads h v e bs->d=e
  | _,_,_,.none,_,_,r=>by cases r;rfl
  | _,_,_,.bool b,_,_,r=>by cases r;rfl
  | _,_,_,.int i t,_,_,r=>by cases r;rfl
  | _,_,_,.str x t,_,_,r=>by cases r;rfl
  | _,_,_,.list g c dd ra,_,_,r=>by
    cases r with
    | list g' c' dd' ra' =>
      rw [g] at g';cases g';rw [dd] at dd';cases dd';rw [ed ra ra']
    | tuple g' c' dd' ra'=>rw [g] at g';cases g';rw [c] at c';exact absurd c' (by simp)
    | dict g' c' dd' ra' rb'=>rw [g] at g';cases g';rw [c] at c';exact absurd c' (by simp)
  | _,_,_,.tuple g c dd ra,_,_,r=>by
    cases r with
    | tuple g' c' dd' ra' =>
      rw [g] at g';cases g';rw [dd] at dd';cases dd';rw [ed ra ra']
    | list g' c' dd' ra'=>rw [g] at g';cases g';rw [c] at c';exact absurd c' (by simp)
    | dict g' c' dd' ra' rb'=>rw [g] at g';cases g';rw [c] at c';exact absurd c' (by simp)
  | _,_,_,.dict g c dd ra rb,_,_,r=>by
    cases r with
    | dict g' c' dd' ra' rb' =>
      rw [g] at g';cases g';rw [dd] at dd';cases dd';have a:=ed ra ra';have b:=ed rb rb';congr 1;rename_i kvs _ _ kvs' _ _;refine List.ext_getElem (by simpa using congrArg List.length a) fun k h1 h2=>Prod.ext ?_ ?_
      · have:=congrArg (·[k]?) a;simpa [h1,h2] using this
      · have:=congrArg (·[k]?) b;simpa [h1,h2] using this
    | list g' c' dd' ra'=>rw [g] at g';cases g';rw [c] at c';exact absurd c' (by simp)
    | tuple g' c' dd' ra'=>rw [g] at g';cases g';rw [c] at c';exact absurd c' (by simp)
theorem ed {h:Heap}:∀ {vs:List Value} {ds:List PyData} {as:List Addr},ReadsAll h vs ds as->∀ {es:List PyData} {bs:List Addr},ReadsAll h vs es bs->ds=es
  | _,_,_,.nil,_,_,r=>by cases r;rfl
  | _,_,_,.cons a b,_,_,r=>by
    cases r with
    | cons a' b'=>rw [nU a a',ed b b']
end
theorem kF {h:Heap}:∀ {vs:List Value} {ds:List PyData} {as:List Addr},ReadsAll h vs ds as->vs.length=ds.length/\∀ (k:Nat) (d:PyData) (v:Value),ds[k]?=some d->vs[k]?=some v->∃ bs,Reads h v d bs
  | _,_,_,.nil=>⟨rfl,fun k d v e=>by simp at e⟩
  | _,_,_,.cons a b=>by
    obtain ⟨l,f⟩:=kF b;refine ⟨by simp [l],fun k d v e1 e2=>?_⟩;cases k with
    | zero=>simp at e1 e2;subst e1 e2;exact ⟨_,a⟩
    | succ k=>exact f k d v (by simpa using e1) (by simpa using e2)
noncomputable def ke (ds:List PyData) (d:PyData):Nat:=ds.findIdx fun y=>PyData.eqv y d
theorem iq:∀ {xs:List PyData},PyData.canLayAll0 xs=true->∀ x∈xs,x.canLay0=true
  | [],_,x,h=>by cases h
  | y::xs,c,x,h=>by
    simp only [PyData.canLayAll0,Bool.and_eq_true] at c;rcases List.mem_cons.mp h with rfl | z
    · exact c.1
    · exact iq c.2 x z
theorem jG:∀ {xs:List PyData},∀ x∈xs,x.depth<=PyData.depthAll xs
  | [],x,h=>by cases h
  | y::xs,x,h=>by
    simp only [PyData.depthAll];rcases List.mem_cons.mp h with rfl | z
    · omega
    · have:=jG x z;omega
section
variable {prog:Program} {w:World} {A:Around} {E:Value->Shared->Prop} {s:Shared}
theorem kS (hu:A.units+64 < cLine) {c x:Value} {ds:List PyData} {d:PyData} {as bs:List Addr} {Q:Value->Shared->Prop} (r1:Reads s.heap c (.list ds) as) (r2:Reads s.heap x d bs) (ho:jg ds d=true) (hz:ds.length<=1000) (hk:ke ds d < ds.length)
    (q:Q (.int (ke ds d:Nat) s.toks) { s with toks:=s.toks+1 }):wpAny (model prog w) A (call (.builtin "list.index") [c,x]) Q E s:=by
  obtain ⟨c1,c2,c3⟩:=jh ho;obtain ⟨l,vs,as',rfl,hl,ra,_⟩:=isList_of_reads r1;obtain ⟨hlen,hat⟩:=kF ra;have hlen':vs.size=ds.length:=by simpa using hlen
  have ht:=hl.typeIs;obtain ⟨o,hg,hc,n,hd⟩:=hl;obtain ⟨oc,od,oda,os⟩:=o;simp only at hc hd;subst hc hd
  open Classical in
  let e:Value->Bool:=fun y=>decide (∃ (k:Nat) (dk:PyData),vs[k]?=some y/\ds[k]?=some dk/\PyData.eqv dk d=true)
  have he:∀ (k:Nat) (hk:k < vs.size),e vs[k]=PyData.eqv (ds[k]'(by omega)) d:=fun k hk=>by
    have hkd:k < ds.length:=by omega
    cases hb:PyData.eqv (ds[k]'hkd) d with
    | true=>exact decide_eq_true ⟨k,ds[k],by simp [hk],by simp [hkd],hb⟩
    | false =>
      refine decide_eq_false ?_;rintro ⟨k',dk,e1,e2,e3⟩;have hk':k' < vs.size:=by
        by_cases z:k' < vs.size
        · exact z
        · simp [Array.getElem?_eq_none (show vs.size<=k' by omega)] at e1
      obtain ⟨b1,ra1⟩:=hat k ds[k] vs[k] (by simp [hkd]) (by simp [hk]);obtain ⟨b2,ra2⟩:=hat k' dk vs[k] e2 (by simpa using e1);rw [nU ra1 ra2] at hb;rw [hb] at e3;cases e3
  have hj:ke ds d < vs.size:=by omega
  refine call_meets PySem.F.slot_list_index ht PySem.F.entry_list_index (PySem.F.args_list_index_2 _ _) (SeqAt.list_indexAt l vs n od os x e (ke ds d) hj (by omega) (by rw [he _ hj];exact List.findIdx_getElem (p:=fun y=>PyData.eqv y d) (w:=hk)) fun m hm hlt=>by
    rw [he m hm];have:=List.not_of_lt_findIdx (p:=fun y=>PyData.eqv y d) (xs:=ds) hlt;simpa using this) ⟨hg,fun y hy=>?_,q⟩
  obtain ⟨k,hk',rfl⟩:=Array.mem_iff_getElem.mp hy;have hkd:k < ds.length:=by omega
  obtain ⟨b1,ra1⟩:=hat k ds[k] vs[k] (by simp [hkd]) (by simp [hk']);rw [he k hk'];have hm:ds[k]∈ds:=List.getElem_mem _;have:=jG _ hm;exact SeqAt.eqAt_reads _ _ _ _ _ _ _ _ ra1 r2 (iq c1 _ hm) c2 (by show A.units+1+_ < _;omega)
end
section
variable {X:Cx} {o e:Expr} {fo fe:Fe} {apos cpos:Pos}
theorem vm (hu:X.A.units+64 < cLine):Ez X "list.index" (fun x xs H Q=>∃ (ds:List PyData) (d:PyData) (y:V),xs=[y]/\fM H (.list ds) x/\fM H d y/\jg ds d=true/\ds.length<=1000/\ke ds d < ds.length/\Q (.int (ke ds d:Nat)) H):=by
  intro pins s σ H x xs v us Q I rx rs h;obtain ⟨ds,d,y,rfl,hx,hy,ho,hz,hk,q⟩:=h;obtain ⟨u,rfl,ry⟩:=eX rs;obtain ⟨c1,c2,c3⟩:=jh ho;obtain ⟨as,r1⟩:=dz I.hok (d:=.list ds) (by simpa [PyData.canLay0] using c1) hx rx;obtain ⟨bs,r2⟩:=dz I.hok c2 hy ry;exact kS hu r1 r2 ho hz hk ⟨.int _,H,I.tok _,⟨_,rfl⟩,q⟩
noncomputable def gI:PyData->PyData->R PyData
  | .list ds,d=>if jg ds d=true/\ds.length<=1000/\ke ds d < ds.length then .ok (.int (ke ds d:Nat)) else .no
  | _,_=>.no
noncomputable def jH (fo fe:Fe):Fe:=fun ρ=>fo ρ>>=fun x=>zk x>>=fun _=>fe ρ>>=fun y=>gI x y
theorem pZ (hu:X.A.units+64 < cLine) (ho:Z.cQ X o fo) (he:Z.cm X e fe) (hb:attributeBase o "index" X.env (eval o X.env)=eval o X.env:=by rfl) (hst:aM e=true:=by rfl) (hline:(apos.endLine==cpos.line)=true:=by rfl):Z.cm X (.Call (.Attribute o "index" apos) [e] [] cpos) (jH fo fe):=⟨have ho:=ho.un;have he:=he.un;by
  have sc:starEach [e] X.env=(false,eval e X.env)::starEach [] X.env:=bu hst;refine PE.imp (tW PySem.F.plainAttrs_list PySem.F.slot_list_index PySem.F.type_list_index (vm hu) ho (gN he jd hst) hb (by rw [sc];rfl) hline sc rfl) fun σ H Q h=>?_
  refine (da (P:=pG) (f:=fo) (k:=fun ρ x=>zk x>>=fun _=>fe ρ>>=fun y=>gI x y) (dG (X:=X) dR Q) h).post fun v H1 zq0=>?_
  obtain ⟨ρ1,d1,sl1,_,p1,q1⟩:=zq0;cases d1 with
  | list ds =>
    obtain ⟨a,vs,rfl,h1,r1⟩:=cU (K:=X.K) p1;refine ⟨.inl ⟨rfl,_,h1⟩,?_⟩;have q1:rz X gh (ah fe az ρ1>>=one (gI (.list ds))) H1 Q:=by
      have e0:(ah fe az ρ1>>=one (gI (.list ds)))=(fe ρ1>>=fun y=>gI (.list ds) y):=by
        unfold ah az;cases fe ρ1 <;> rfl
      rw [e0];exact q1
    refine (jc (I:=Rp) (f:=ah fe az) (k:=fun _=>one (gI (.list ds))) (dG (X:=X) dR Q) ⟨ρ1,sl1,q1⟩).post fun us H2 zq0=>?_
    obtain ⟨_,ds2,_,s2,p2,q2⟩:=zq0;unfold one at q2;split at q2
    · rename_i d2;simp only [RA] at p2;obtain ⟨w,r',rfl,p2,rfl⟩:=p2;simp only [gI] at q2;split at q2
      · rename_i hz;exact ⟨ds,d2,w,rfl,fM.mono p1 s2,.inl p2,hz.1,hz.2.1,hz.2.2,q2 _ H2 (ar.refl _) cC⟩
      · exact q2.elim
    · exact q2.elim
  | _=>exact q1.elim⟩
end
noncomputable abbrev tD (x:List bp):PyData:=.tuple (x.map de)
noncomputable def lZ:List PyData->Option (List bp)
  | []=>some []
  | d::ds=>match eE d,lZ ds with
    | some k,some ks=>some (k::ks)
    | _,_=>none
noncomputable def mR:PyData->Option (List bp)
  | .tuple ds=>lZ ds
  | _=>none
theorem sk (k:bp):eE (de k)=some k:=by cases k <;> rfl
theorem nM:∀ x:List bp,lZ (x.map de)=some x
  | []=>rfl
  | k::x=>by
    rw [List.map_cons];show (match eE (de k),lZ (x.map de) with | some k,some ks=>some (k::ks) | _,_=>none)=_;rw [sk,nM x]
theorem tQ (x:List bp):mR (tD x)=some x:=nM x
theorem nL:∀ {ds:List PyData} {x:List bp},lZ ds=some x->ds=x.map de
  | [],x,h=>by cases h;rfl
  | d::ds,x,h=>by
    have h':(match eE d,lZ ds with | some k,some ks=>some (k::ks) | _,_=>none)=some x:=h;cases e1:eE d with
    | none=>rw [e1] at h';cases h'
    | some k =>
      cases e2:lZ ds with
      | none=>rw [e1,e2] at h';cases h'
      | some ks =>
        rw [e1,e2] at h';cases h';rw [List.map_cons,<- nL e2,<- nK e1]
theorem qH {d:PyData} {x:List bp} (h:mR d=some x):d=tD x:=by
  cases d with
  | tuple ds=>exact congrArg PyData.tuple (nL h)
  | _=>cases h
noncomputable def vF (a b:PyData):Bool:=decide (mR a=mR b)
theorem pz (x y:List bp):vF (tD x) (tD y)=decide (x=y):=by
  unfold vF;rw [tQ,tQ];exact decide_eq_decide.mpr ⟨Option.some.inj,congrArg some⟩
noncomputable def sJ (kvs:List (PyData×PyData)) (k v:PyData):List (PyData×PyData) :=
  if (kvs.any fun kv=>vF kv.1 k)=true then kvs.map (fun kv=>if vF kv.1 k=true then (kv.1,v) else kv) else kvs++[(k,v)]
noncomputable def i6 (kvs:List (PyData×PyData)) (k:PyData):Option PyData:=(kvs.find? fun kv=>vF kv.1 k).map (·.2)
theorem dS.cons {H:Hp} {k d:PyData} {kvs:List (PyData×PyData)} {x:List bp} {v:V} {ks:List (List bp×V)} (e:k=tD x) (h:Rp H d v) (t:dS H kvs ks):dS H ((k,d)::kvs) ((x,v)::ks):=by
  simp only [dS,Ao];exact ⟨x,v,ks,rfl,⟨e,h⟩,t⟩
theorem dS.cons_inv {H:Hp} {k d:PyData} {kvs:List (PyData×PyData)} {ks:List (List bp×V)} (h:dS H ((k,d)::kvs) ks):∃ x v r,ks=(x,v)::r/\k=tD x/\Rp H d v/\dS H kvs r:=by
  simp only [dS,Ao] at h;obtain ⟨x,v,r,e,⟨e1,p⟩,t⟩:=h;exact ⟨x,v,r,e,e1,p,t⟩
theorem dS.nil_inv {H:Hp} {ks:List (List bp×V)} (h:dS H [] ks):ks=[]:=by simpa only [dS] using h
theorem dS.length {H:Hp}:∀ {kvs:List (PyData×PyData)} {ks:List (List bp×V)},dS H kvs ks->ks.length=kvs.length
  | [],ks,h=>by rw [h.nil_inv];rfl
  | (k,d)::kvs,ks,h=>by
    obtain ⟨x,v,r,rfl,_,_,t⟩:=h.cons_inv;rw [List.length_cons,List.length_cons,t.length]
theorem dS.any {H:Hp} (y:List bp):∀ {kvs:List (PyData×PyData)} {ks:List (List bp×V)},dS H kvs ks->(kvs.any fun kv=>vF kv.1 (tD y))=ks.any fun kv=>decide (kv.1=y)
  | [],ks,h=>by rw [h.nil_inv];rfl
  | (k,d)::kvs,ks,h=>by
    obtain ⟨x,v,r,rfl,rfl,p,t⟩:=h.cons_inv;rw [List.any_cons,List.any_cons,dS.any y t,pz]
theorem dS.repl {H:Hp} (y:List bp) {d:PyData} {v:V} (hv:Rp H d v):∀ {kvs:List (PyData×PyData)} {ks:List (List bp×V)},dS H kvs ks ->
    dS H (kvs.map fun kv=>if vF kv.1 (tD y)=true then (kv.1,d) else kv) (ks.map fun kv=>if kv.1=y then (kv.1,v) else kv)
  | [],ks,h=>by rw [h.nil_inv];simp only [List.map_nil,dS]
  | (k,d')::kvs,ks,h=>by
    obtain ⟨x,v',r,rfl,rfl,p,t⟩:=h.cons_inv;rw [List.map_cons,List.map_cons];dsimp only;rw [pz];by_cases e:x=y
    · rw [if_pos (decide_eq_true e),if_pos e];exact dS.cons rfl hv (dS.repl y hv t)
    · rw [if_neg (by rw [decide_eq_false e];exact Bool.false_ne_true),if_neg e];exact dS.cons rfl p (dS.repl y hv t)
theorem dS.snoc {H:Hp} {y:List bp} {d:PyData} {v:V} (hv:Rp H d v):∀ {kvs:List (PyData×PyData)} {ks:List (List bp×V)},dS H kvs ks->dS H (kvs++[(tD y,d)]) (ks++[(y,v)])
  | [],ks,h=>by rw [h.nil_inv];exact dS.cons rfl hv (by simp only [dS])
  | (k,d')::kvs,ks,h=>by
    obtain ⟨x,v',r,rfl,rfl,p,t⟩:=h.cons_inv;exact dS.cons rfl p (dS.snoc hv t)
theorem dS.put {H:Hp} (y:List bp) {d:PyData} {v:V} (hv:Rp H d v) {kvs:List (PyData×PyData)} {ks:List (List bp×V)} (h:dS H kvs ks):dS H (sJ kvs (tD y) d) (iW ks y v):=by
  unfold sJ iW;rw [h.any y];split
  · exact h.repl y hv
  · exact h.snoc hv
theorem dS.look {H:Hp} (y:List bp):∀ {kvs:List (PyData×PyData)} {ks:List (List bp×V)},dS H kvs ks->(i6 kvs (tD y)=none/\ge ks y=none)\/∃ d v,i6 kvs (tD y)=some d/\ge ks y=some v/\Rp H d v
  | [],ks,h=>.inl (by rw [h.nil_inv];exact ⟨rfl,rfl⟩)
  | (k,d)::kvs,ks,h=>by
    obtain ⟨x,v,r,rfl,rfl,p,t⟩:=h.cons_inv;unfold i6 ge;rw [List.find?_cons,List.find?_cons];dsimp only;rw [pz];by_cases e:x=y
    · rw [decide_eq_true e];exact .inr ⟨d,v,rfl,rfl,p⟩
    · rw [decide_eq_false e];exact dS.look y t
theorem sL {H:Hp}:∀ {x:List bp} {vs:List V},aZ H (x.map de) vs->vs=x.map kV
  | [],vs,h=>by simpa only [List.map_nil,aZ] using h
  | k::x,vs,h=>by
    rw [List.map_cons] at h;simp only [aZ] at h;obtain ⟨v,r,rfl,p,t⟩:=h;rw [xO p,sL t];rfl
theorem zY {H:Hp} {x:List bp} {y:V} (h:Rp H (tD x) y):∃ b,y=.ref b/\H b=some (.tup (x.map kV)):=by
  simp only [Rp] at h;obtain ⟨b,vs,e,hb,r⟩:=h;exact ⟨b,e,by rw [hb,sL r]⟩
noncomputable def yj:List (PyData×PyData)->Option (List (PyData×PyData))
  | (.bool true,.none)::r=>some r
  | _=>none
theorem lb {kvs r:List (PyData×PyData)} (h:yj kvs=some r):kvs=(.bool true,.none)::r:=by
  unfold yj at h;split at h
  · cases h;rfl
  · cases h
theorem DE {H:Hp} {r:List (PyData×PyData)} {v:V} (h:gs H (.dict ((.bool true,.none)::r)) v):∃ a ks,v=.ref a/\H a=some (.dT ks)/\dS H r ks:=by
  simp only [gs] at h;rcases h with ⟨a,ks,e,ha,q⟩ | ⟨a,ks,e,ha,q⟩
  · simp only [dj] at q;obtain ⟨k,v,r',_,q,_⟩:=q;simp only [uh] at q;cases k <;> cases q.1
  · simp only [mE] at q;exact ⟨a,ks,e,ha,q.2⟩
theorem xm {H:Hp} {r:List (PyData×PyData)} {a:Addr} {ks:List (List bp×V)} (ha:H a=some (.dT ks)) (q:dS H r ks):gs H (.dict ((.bool true,.none)::r)) (.ref a):=by
  simp only [gs,mE];exact .inr ⟨a,ks,rfl,ha,True.intro,q⟩
section
variable {X:Cx} {pos:Pos} {nl:Nat} {G:List Str} {x:Str}
theorem jx  : Z.jt X (.Dict [] [] pos) (eC (.dict [(.bool true,.none)])):=⟨PE.imp xw fun σ H Q ⟨ρ,sl,q⟩ p hp=>q _ _ (bM hp _) ⟨xm (ks:=[]) bw (by simp only [dS]),p,rfl,hp⟩⟩
noncomputable def ml (i:Nat) (fk fv:Fe):Fs:=fun ρ=>fv ρ>>=fun v=>kh (fk ρ)>>=fun k=>match ρ[i]? with
  | some (.own (.dict kvs))=>match yj kvs with
    | some r=>match mR k with
      | some _=>if r.length < sizeLine then .ok (.nx (ρ.set i (.own (.dict ((.bool true,.none)::sJ r k v))))) else .no
      | none=>.no
    | none=>.no
  | _=>.no
theorem mY {k v:Expr} {fk fv:Fe} {q1 q2 q3:Pos} (T:Tb X nl G) (n:Nat) (hN:X.N[n]?=some x) (hk:Z.cm X k fk) (hv:Z.cm X v fv) (hs:swapsWith v (some (.Subscript (.Name x q1) k q2)) q3.line X.env=pure false:=by rfl):Z.ju X (.Assign [.Subscript (.Name x q1) k q2] v q3) (ml n fk fv):=⟨have hk:=hk.un;have hv:=hv.un;fun Fm=>by
  have hm:=T.vis x (List.mem_of_getElem? hN);refine PS.imp (tZ (by have:=T.hu;omega) (iy hN hm.1 hm.2.1 hm.2.2) hk hv hs) fun D σ H h=>?_
  refine (oK (P:=gh) (f:=fv) (k:=fun ρ v=>kh (fk ρ)>>=fun k=>match ρ[n]? with
    | some (.own (.dict kvs))=>match yj kvs with
      | some r=>match mR k with
        | some _=>if r.length < sizeLine then .ok (.nx (ρ.set n (.own (.dict ((.bool true,.none)::sJ r k v))))) else .no
        | none=>.no
      | none=>.no
    | _=>.no) h).post fun vv H1 ⟨ρ1,dv,sl1,_,p1,q1⟩=>?_
  have no:yu X Fm (kh (fk ρ1)>>=fun _=>R.no) D->False:=fun q=>by
    cases e2:fk ρ1 with
    | ok kd=>rw [e2] at q;exact q
    | ex _=>rw [e2] at q;exact q
    | no=>rw [e2] at q;exact q
  cases e:ρ1[n]? with
  | none=>rw [e] at q1;exact (no q1).elim
  | some c =>
    rw [e] at q1;cases c with
    | own d =>
      cases d with
      | dict kvs =>
        cases eu:yj kvs with
        | none =>
          dsimp only at q1;rw [eu] at q1;exact (no q1).elim
        | some r =>
          dsimp only at q1;rw [eu] at q1;dsimp only at q1;have ek:=lb eu;subst ek;obtain ⟨o,h2,w',rfl,p2⟩:=sl1.sl.at e;obtain ⟨a',ks,rfl,ha,rr⟩:=DE p2;refine ⟨.ref a',h2,?_⟩;refine ⟨ρ1,sl1.sl,?_⟩;cases e2:fk ρ1 with
          | ex _=>rw [e2] at q1;exact q1.elim
          | no=>rw [e2] at q1;exact q1
          | ok kd =>
            rw [e2] at q1;simp only [kh,R.ok_bind] at q1;intro yv H3 s3 p3;cases e3:mR kd with
            | none=>rw [e3] at q1;exact q1.elim
            | some y =>
              rw [e3] at q1;dsimp only at q1;by_cases hz:r.length < sizeLine
              · rw [if_pos hz] at q1;have ek:=qH e3;subst ek;obtain ⟨b,ey,hb⟩:=zY p3;subst ey;have ha3:=s3 _ _ ha;have r3:dS H3 r ks:=dS.kp (Kp.of s3) _ _ rr;refine ⟨a',_,rfl,pH.t ha3 hb (by rw [r3.length];exact hz),q1 _ _ ((sl1.mono s3).changeK e h2 ha3 (jP ha3) ?_)⟩;exact xm bw (dS.kp (jP ha3) _ _ (dS.put y (p1.mono s3) r3))
              · rw [if_neg hz] at q1;exact q1.elim
      | _=>exact (no q1).elim
    | _=>exact (no q1).elim⟩
end
section
variable {X:Cx} {a b:Expr} {fa fb:Fe} {pos:Pos}
noncomputable def jE (neg:Bool) (d:PyData):PyData->R PyData
  | .dict kvs=>match yj kvs with
    | some r=>match mR d with
      | some _=>.ok (.bool (if neg then !(i6 r d).isSome else (i6 r d).isSome))
      | none=>.no
    | none=>.no
  | _=>.no
theorem yb {neg:Bool}:bL X gh (BV X neg) (jE neg):=fun H x y dx dy Q hx hy q=>by
  cases dy with
  | dict kvs =>
    simp only [jE] at q;cases eu:yj kvs with
    | none=>rw [eu] at q;exact q.elim
    | some r =>
      rw [eu] at q;dsimp only at q;cases ek:mR dx with
      | none=>rw [ek] at q;exact q.elim
      | some κ =>
        rw [ek] at q;dsimp only at q;have e1':=lb eu;subst e1';have e2':=qH ek;subst e2';obtain ⟨p,ks,rfl,hp,rr⟩:=wn hy;obtain ⟨b',vs,rfl,hb',rv⟩:=cn hx;rw [sL rv] at hb';have hg:lg H p (.ref b') (ge ks κ):=.inr ⟨ks,κ,b',hp,rfl,hb',rfl⟩;refine .inr ⟨p,_,rfl,hg,?_⟩;have el:(i6 r (tD κ)).isSome=(ge ks κ).isSome:=by
          rcases rr.look κ with ⟨l1,l2⟩ | ⟨d,v,l1,l2,_⟩
          · rw [l1,l2];rfl
          · rw [l1,l2];rfl
        rw [<- el];exact q _ H (ar.refl _) eh
  | _=>exact q.elim
theorem pY (hu:X.A.units+64 < cLine) (ha:Z.cQ X a fa) (hb:Z.cQ X b fb) (hm:behindInMarks .In b=false):Z.cm X (.Compare a [.In] [b] pos) (e2 (jE false) fa fb):=⟨have ha:=ha.un;have hb:=hb.un;oW (sB hu) yb ha hb hm⟩
theorem uv (hu:X.A.units+64 < cLine) (ha:Z.cQ X a fa) (hb:Z.cQ X b fb) (hm:behindInMarks .In b=false):Z.mD X (.Compare a [.In] [b] pos) (tE (e2 (jE false) fa fb)):=⟨have ha:=ha.un;have hb:=hb.un;iM (sB hu) yb ha hb hm⟩
end
section
variable {X:Cx} {a:Expr} {fa:Fe} {pos p:Pos} {nl:Nat} {G:List Str}
theorem su (d:Addr) (hd:(d==sysModules)=false):Meets (Builtin.«dict.__len__» ⟨[.ref d],[]⟩) (fun _ R s=>∃ o es ep,s.heap.get? d=some o/\o.data=.dict es ep/\R (.ok (.ret (.int es.size s.toks))) { s with toks:=s.toks+1 }):=by
  intro prog w A R s ⟨o,es,ep,hg,hdt,h⟩;obtain ⟨oc,od,oda,os⟩:=o;simp only at hdt;subst hdt;obtain ⟨hp,g,dr,tk,os'⟩:=s;unfold Builtin.«dict.__len__»
  wp_walk using wpAny_loadPart' hg
  show R (.ok (.ret (.int ((es.size:Int)+((0:Nat):Int)) tk))) _;rw [show ((es.size:Int)+((0:Nat):Int))=es.size from Int.add_zero _];exact h
theorem Bi {pins:List (Addr×Obj)} {σ:St} {H:Hp} {s:Shared} {A:Around} {E:Value->Shared->Prop} {l:Addr} {kvs:List (List bp×V)} {Q:Value->Shared->Prop} (I:aC X pins σ H s) (e:Rd H l (.dT kvs)) (h:∀ t s',aC X pins σ H s'->Q (.int kvs.length t) s'):wpAny (model X.prog X.w) A (call (.builtin "len") [.ref l]) Q E s:=by
  obtain ⟨z,hd,vs,rel,dd⟩:=qv I.hok e;have ty:=dd.typeIs;obtain ⟨o,es,ep,hg,hx,hdt,hes,_⟩:=dd;have hl:es.size=kvs.length:=by
    rw [<- Array.length_toList,hes,List.length_map];exact rel.length.symm
  refine call_len_meets (n:=(kvs.length:Int)) ty PySem.F.slot_dict_len PySem.F.entry_dict_len (PySem.F.args_dict_len_1 _) (su l hd) (by omega) (by rw [sizeLine_eq] at z;omega) (fun Q' q=>⟨o,es,ep,hg,hdt,by rw [hl];exact q⟩) (h _ _ (I.tok _))
theorem uD:c7 X (.builtin "len") (fun xs H Q=>∃ a kvs,xs=[V.ref a]/\Rd H a (.dT kvs)/\Q (.int kvs.length) H):=by
  intro pins s σ H xs us Q I r h;obtain ⟨a,kvs,rfl,ha,q⟩:=h;obtain ⟨u,rfl,ru⟩:=eX r;cases ru;exact Bi I ha fun t s' I'=>⟨.int kvs.length,H,I',⟨t,rfl⟩,q⟩
noncomputable def lK:PyData->R PyData
  | .dict kvs=>match yj kvs with
    | some r=>.ok (.int r.length)
    | none=>.no
  | _=>.no
theorem mZ (T:Tb X nl G) (j:Nat) (hG:G[j]?=some ("len" : Str)) (hm:X.mg "len" = none) (ha:Z.cQ X a fa) (he:aM a=true:=by rfl):Z.cm X (.Call (.Name "len" p) [a] [] pos) (e1 lK fa):=⟨have ha:=ha.un;by
  refine ux T j hG hm dR PySem.boot_len uD (fun H x d Q hx q=>?_) ha he;cases d with
  | dict kvs =>
    simp only [lK] at q;cases eu:yj kvs with
    | none=>rw [eu] at q;exact q.elim
    | some r =>
      rw [eu] at q;have ek:=lb eu;subst ek;obtain ⟨a',ks,rfl,h,rr⟩:=wn hx;exact ⟨a',ks,rfl,h,by rw [rr.length];exact q _ H (ar.refl _) cC⟩
  | _=>exact q.elim⟩
end
theorem fO {x y:Str} (hne:y≠x):∀ (names:List (Str×NameKind)) (n:Nat) (acc:List (Str×Addr)),(∀ p∈names,p.2=.cell->p.1=x)->(cellsFrom n names acc).lookup y=acc.lookup y
  | [],_,_,_=>rfl
  | (z,k)::r,n,acc,h=>by
    unfold cellsFrom;by_cases hk:(k==.cell)=true
    · rw [if_pos hk,fO hne r (n+1) _ fun p hp=>h p (List.mem_cons_of_mem _ hp)];have ez:z=x:=h (z,k) List.mem_cons_self (by simpa using hk);have hb:(y==z)=false:=by rw [ez];simpa using hne
      rw [List.lookup_cons,hb]
    · rw [if_neg hk];exact fO hne r n acc fun p hp=>h p (List.mem_cons_of_mem _ hp)
theorem j8 {x:Str}:∀ (names:List (Str×NameKind)) (h:Heap) (lo:Nat) (acc:List (Str×Addr)),lo<=h.objs.size->(names.lookup x=some .cell\/∃ c,acc.lookup x=some c/\lo<=c/\h.IsCell c none)->(∀ p∈names,p.2=.cell->p.1=x) ->
    ∃ c,(cellsFrom h.objs.size names acc).lookup x=some c/\lo<=c/\(pushCells h names).IsCell c none
  | [],h,lo,acc,hlo,hx,_=>by
    rcases hx with z | z
    · cases z
    · exact z
  | (z,k)::r,h,lo,acc,hlo,hx,hc=>by
    unfold cellsFrom pushCells;by_cases hk:(k==.cell)=true
    · rw [if_pos hk,if_pos hk];have ez:z=x:=hc (z,k) List.mem_cons_self (by simpa using hk);subst ez;obtain ⟨c,h1,h2,h3⟩:=j8 r (h.push { cls:=.type "cell",data:=.cell none }) lo ((z,h.objs.size)::acc) (by rw [Heap.size_push];omega) (.inr ⟨h.objs.size,by simp,hlo,⟨_,Heap.get?_push_size _ rfl,rfl⟩⟩) fun p hp=>hc p (List.mem_cons_of_mem _ hp)
      rw [Heap.size_push] at h1;exact ⟨c,h1,h2,h3⟩
    · rw [if_neg hk,if_neg hk];refine j8 r h lo acc hlo ?_ fun p hp=>hc p (List.mem_cons_of_mem _ hp)
      rcases hx with e | e
      · rw [List.lookup_cons] at e;split at e
        · cases e;exact absurd rfl hk
        · exact .inl e
      · exact .inr e
theorem qO {M:Model} {A:Around} {E:Value->Shared->Prop} {s:Shared} {scope:Scope} {globals:Addr} {cl:List (Str×Addr)} {qual:Str} {func:Option Addr} {code:Value} {outer:Env} {builtins:Addr} {Q:Env->Shared->Prop} {x:Str} (hx:scope.names.lookup x=some .cell) (hc:∀ p∈scope.names,p.2=.cell->p.1=x)
    (h:∀ h' c,(∀ b o,s.heap.get? b=some o->h'.get? b=some o)->h'.Ns s.heap.objs.size (fun _=>none)->(cellsFrom (s.heap.objs.size+1) scope.names cl).lookup x=some c->s.heap.objs.size+1<=c->h'.IsCell c none ->
      Q (newEnv scope s.heap.objs.size globals (cellsFrom (s.heap.objs.size+1) scope.names cl) qual func code (some outer) builtins) { s with heap:=h' }) :
    wpAny M A (newFunctionEnv scope globals cl [] qual func code (some outer) builtins) Q E s:=by
  simp only [newFunctionEnv,Option.isSome_some,if_true];refine wpAny_bind (wpAny_alloc ?_);refine wpAny_bind (wpAny_layCells _ (fun name kind cells=>by cases hkc:kind==NameKind.cell <;> simp [hkc]) _ _ _ _ ?_);have sz:(s.heap.push { cls:=.type "dict",data:=.dict #[] }).objs.size=s.heap.objs.size+1:=Heap.size_push ..;obtain ⟨c,h1,h2,h3⟩:=j8 (x:=x) scope.names (s.heap.push { cls:=.type "dict",data:=.dict #[] }) (s.heap.objs.size+1) cl (Nat.le_of_eq sz.symm) (.inl hx) hc;rw [sz] at h1;rw [show ({ s with heap:=s.heap.push { cls:=.type "dict",data:=.dict #[] } }:Shared).heap.objs.size=s.heap.objs.size+1 from sz];simp only [List.forIn_nil,pure_bind];exact wpAny_pure (h _ c (fun b o e=>pushCells_keeps _ _ b o (Heap.get?_push_of_some _ e)) ((Heap.Ns.new s.heap (.type "dict")).keeps (pushCells_keeps _ _)) h1 h2 h3)
noncomputable def gt (sc:Scope) (N:List Str) (G:List Str) (oN:List Str) (fr:List Nat) (x:Str):Prop :=
  sc.kind=.function/\(∀ y∈sc.names,y.2=.cell->y.1=x)/\(∀ y∈sc.names,y.2=.local->sc.names.lookup y.1=some .local)/\N.Nodup/\N.take 1=[x]/\sc.names.lookup x=some .cell/\(∀ x∈N.drop 1,sc.names.lookup x=some .free) /\
  (∀ x∈N,(x==("__debug__" : Str))=false/\(x==("__classdict__" : Str))=false)/\(∀ x∈G,sc.names.lookup x=some .globalImplicit/\(x==("__debug__" : Str))=false/\x≠("__name__" : Str)) /\
  1<=N.length/\(N.drop 1).map some=(fr.map fun i=>oN[i]?)/\∀ y∈sc.names,y.2=.free->y.1≠x
noncomputable instance {sc:Scope} {N:List Str} {G oN:List Str} {fr:List Nat} {x:Str}:Decidable (gt sc N G oN fr x):=by unfold gt;infer_instance
noncomputable def cj (X:Cx) (x:Str) (N:List Str) (scope:Scope) (cl:List (Str×Addr)) (C:Addr) (s:Shared) (H:Hp) (fp:List Addr) (E:Value->Shared->Prop:=fun _ _=>False):Cx :=
  { X with N:=N,s₀:=s,H₀:=H,env:=compEnvC scope cl C X.env,outer:=X.stack,stack:=X.stack,ex:=fp,fn:=fun y=>y==x,pn:=[],xe:=E }
theorem wx {X:Cx} {nl:Nat} {G0:List Str} (T:Tb X nl G0) {sc:Scope} {N:List Str} {G oN:List Str} {fr:List Nat} {x:Str} (ck:gt sc N G oN fr x) (cl:List (Str×Addr)) (C:Addr) (s:Shared) (H:Hp) (fp:List Addr) (E:Value->Shared->Prop) :
    Tb (cj X x N sc cl C s H fp E) 1 G:=by
  obtain ⟨_,_,_,nd,l,lx,f,db,g,_,_,_⟩:=ck;have own:(relabel sc X.env).names.lookup x=some .cell:=bS lx (by decide);refine ⟨T.hu,T.calm,nd,fun y hy=>?_,fun y hy=>?_,fun y hy=>?_⟩
  · refine ⟨?_,db y hy⟩;have hy':y∈N.take 1++N.drop 1:=by rw [List.take_append_drop];exact hy
    rcases List.mem_append.mp hy' with z | z
    · rw [l] at z;rw [List.mem_singleton.mp z];exact .inr (.inl own)
    · rcases dA (env:=X.env) (f y z) with q | q
      · exact .inr (.inr q)
      · exact .inr (.inl q)
  · have hy':y∈N.take 1:=hy;rw [l] at hy';rw [List.mem_singleton.mp hy'];exact ⟨.inr own,.inl (beq_self_eq_true x)⟩
  · obtain ⟨g1,g2,g3⟩:=g y hy;exact ⟨bS (env:=X.env) g1 (by decide),g2,g3⟩
theorem yN {X:Cx} {sc:Scope} {N:List Str} {G oN:List Str} {fr:List Nat} {x:Str} (ck:gt sc N G oN fr x) (cl:List (Str×Addr)) (C:Addr) (s:Shared) (H:Hp) (fp:List Addr) (E:Value->Shared->Prop):iY (cj X x N sc cl C s H fp E) 0:=by
  obtain ⟨_,_,_,_,l,lx,f,_,_,_,_,_⟩:=ck;intro y hy;have hy':y∈N.take 1++N.drop 1:=by rw [List.take_append_drop];exact hy
  rcases List.mem_append.mp hy' with z | z
  · rw [l] at z;rw [List.mem_singleton.mp z];exact .inl (bS lx (by decide))
  · rcases dA (env:=X.env) (f y z) with q | q
    · exact .inr q
    · exact .inl q
section
variable {X:Cx} {pins:List (Addr×Obj)} {σ:St} {H:Hp} {s:Shared} {nl:Nat} {G0:List Str} {sc:Scope} {N:List Str} {G:List Str} {fr:List Nat} {cl:List (Str×Addr)} {fp:List Addr} {a C c0:Addr} {h4:Heap} {t4:Nat} {m:Str->Option Value} {x:Str}
theorem u5 (I:aC X pins σ H s) (ck:gt sc N G X.N fr x) (hf:∀ b∈fp,jv X pins H b) (hob:∀ b∈fp,b < s.heap.objs.size) (hcl1:∀ y c,y≠x->cl.lookup y=some c->X.env.cells.lookup y=some c) (hcl2:∀ y∈sc.names,y.2=.free->∃ c,cl.lookup y.1=some c)
    (hx0:cl.lookup x=some c0) (hc0:s.heap.objs.size<=c0) (hca:c0≠a) (hcC:c0≠C) (hcell:h4.IsCell c0 none)
    (vis:∀ x∈X.N,A7 X.env.scope x) (hout:∀ y∈sc.names,y.2=.free->X.env.kindOf y.1=some .cell\/X.env.kindOf y.1=some .free)
    (ha:s.heap.objs.size<=a) (hC:s.heap.objs.size<=C) (hac:a≠C) (keep:∀ b o,s.heap.get? b=some o->h4.get? b=some o) (hl:h4.get? a=some { cls:=.type "list",data:=.seq #[] 0 }) (hn:h4.Ns C m) :
    aC (cj X x N sc cl C s H fp) [] (dc 1 fr σ) (cI H a (.lst [])) { s with heap:=h4,toks:=t4 }:=by
  obtain ⟨ck1,ck2,ck3,nd,l,lx,f,db,g,ol,ofr,fne⟩:=ck;have hHa:H a=none:=I.hok.fresh ha;have hHC:H C=none:=I.hok.fresh hC;have hHc:H c0=none:=I.hok.fresh hc0;have cellLt:∀ y c,y≠x->cl.lookup y=some c->c < s.heap.objs.size:=fun y c hy e=>by
    obtain ⟨v,q⟩:=I.cell y c (hcl1 y c hy e);exact q.lt
  have at0:∀ c,cl.lookup x=some c->c=c0:=fun c e=>by rw [hx0] at e;exact (Option.some.inj e).symm
  refine ⟨⟨I.ok.mod,ck1,I.ok.glob,I.ok.blt,hC,fun y z c h1 h2=>?_,fun y hy=>?_,fun y c hy h1=>?_,I.ok.hd,I.ok.frames,.inl rfl,fun b hb=>⟨?_,fun y c e=>?_⟩,I.bs,Nat.le_trans I.ok.bsz I.sz,fun b o e hb=>?_,fun b hb hs=>?_,I.stack,I.stkFree⟩,
    rfl,I.bare,Un.laid keep ha hHa,⟨m,hn,fun i y v h1 h2 h3=>?_⟩,fun y c e=>?_,?_,fun y c e=>?_,fun p hp=>?_,?_,?_⟩
  · have h1':cl.lookup y=some c:=h1;have h2':cl.lookup z=some c:=h2;by_cases hy:y=x
    · by_cases hz:z=x
      · rw [hy,hz]
      · exfalso;rw [hy] at h1';have:=cellLt z c hz h2';rw [at0 c h1'] at this;exact absurd this (Nat.not_lt.mpr hc0)
    · by_cases hz:z=x
      · exfalso;rw [hz] at h2';have:=cellLt y c hy h1';rw [at0 c h2'] at this;exact absurd this (Nat.not_lt.mpr hc0)
      · exact I.ok.inj y z c (hcl1 y c hy h1') (hcl1 z c hz h2')
  · by_cases hyx:y=x
    · rw [hyx];exact ⟨c0,hx0⟩
    · have hy':(relabel sc X.env).names.lookup y=some .cell\/(relabel sc X.env).names.lookup y=some .free:=hy;have q:(y,NameKind.free)∈sc.names:=by
        cases e:sc.names.lookup y with
        | none =>
          rw [gU,e] at hy';rcases hy' with h | h <;> cases h
        | some k =>
          by_cases hk:k=.free
          · subst hk;exact PySem.mem_of_lookup e
          · exfalso;rw [bS (env:=X.env) e hk] at hy';rcases hy' with h | h
            · cases h;exact hyx (ck2 _ (PySem.mem_of_lookup e) rfl)
            · cases h;exact hk rfl
      exact hcl2 _ q rfl
  · have e1:y=x:=by simpa [cj] using hy
    have h1':cl.lookup y=some c:=h1;rw [e1] at h1';rw [at0 c h1'];exact hc0
  · exact Nat.ne_of_lt (Nat.lt_of_lt_of_le (hob b hb) hC)
  · have e':cl.lookup y=some c:=e;by_cases hy:y=x
    · rw [hy] at e';rw [at0 c e'];exact Nat.ne_of_gt (Nat.lt_of_lt_of_le (hob b hb) hc0)
    · exact (hf b hb).2.2.2.2.1 y c (hcl1 y c hy e')
  · rcases (hf b hb).2.2.2.1 with z | z
    · exact I.ok.noex b o e z
    · exact absurd (Nat.lt_of_lt_of_le (Heap.lt_size e) I.ok.bsz) (Nat.not_lt.mpr z)
  · rcases List.mem_cons.mp (I.stkSub b hs) with z | z
    · exact (hf b hb).2.1 z
    · exact (hf b hb).2.2.1 z
  · have hi:¬ i < 1:=fun hi=>by
      unfold dc at h2;rw [List.getElem?_append_left (by simpa using hi),List.getElem?_replicate,if_pos hi] at h2;cases h2
    unfold dc at h2;rw [List.getElem?_append_right (by rw [List.length_replicate];omega),List.getElem?_map,List.length_replicate] at h2;cases e:fr[i-1]? with
    | none=>rw [e] at h2;cases h2
    | some j =>
      rw [e] at h2;have h2':(σ[j]?).join=some v:=Option.some.inj h2;have hσ:σ[j]?=some (some v):=by
        cases q:σ[j]? with
        | none=>rw [q] at h2';cases h2'
        | some o=>rw [q] at h2';exact congrArg some h2'
      have hy:(N.drop 1)[i-1]?=some y:=by
        rw [List.getElem?_drop];have:1+(i-1)=i:=by omega
        rw [this];exact h1
      have hj:X.N[j]?=some y:=by
        have q:=congrArg (fun l=>l[i-1]?) ofr;simp only [List.getElem?_map,hy,e,Option.map_some] at q;exact (Option.some.inj q).symm
      have hfree:=f y (List.mem_of_getElem? hy);have hyx:y≠x:=fne _ (PySem.mem_of_lookup hfree) rfl;obtain ⟨c,hc⟩:=hcl2 _ (PySem.mem_of_lookup hfree) rfl;have hXc:=hcl1 y c hyx hc;obtain ⟨m0,hn0,hl0⟩:=I.loc;obtain ⟨u,ru,lk⟩:=hl0 j y v hj hσ (vis y (List.mem_of_getElem? hj));have ko:=hout _ (PySem.mem_of_lookup hfree) rfl;refine ⟨u,ru,.inr ⟨(dA (env:=X.env) hfree).symm,c,hc,?_⟩⟩;rcases lk with ⟨k1,_⟩ | ⟨_,c',e1,ob,q1,q2⟩
      · exfalso;rcases ko with k | k <;> (rw [k] at k1;cases k1)
      · rw [hXc] at e1;cases e1;exact ⟨ob,keep _ _ q1,q2⟩
  · have e':cl.lookup y=some c:=e;by_cases hy:y=x
    · rw [hy] at e';rw [at0 c e'];exact ⟨_,hcell⟩
    · obtain ⟨v,o,q,d⟩:=I.cell y c (hcl1 y c hy e');exact ⟨v,o,keep _ _ q,d⟩
  · show cI H a (.lst []) C=none;rw [aA (Ne.symm hac)];exact hHC
  · have e':cl.lookup y=some c:=e;show cI H a (.lst []) c=none;by_cases hy:y=x
    · rw [hy] at e';rw [at0 c e',aA hca];exact hHc
    · have q:=I.freeC y c (hcl1 y c hy e');rw [aA (Nat.ne_of_lt (Nat.lt_of_lt_of_le (cellLt y c hy e') ha))];exact q
  · exact absurd (show p∈([]:List (Addr×Obj)) from hp) (by simp)
  · exact I.hok.laid keep ha ⟨Nat.zero_le _,[],0,.nil,hl⟩
  · show (dc 1 fr σ).length=N.length;have q:=congrArg List.length ofr;rw [List.length_map,List.length_map,List.length_drop] at q;unfold dc;rw [List.length_append,List.length_replicate,List.length_map];omega
end
noncomputable def gL (it:ay->R (List PyData)) (fr:List Nat) (b:PyData->ay->Option ay) (t:ay->R Bool) (f:Fe):Fe:=fun ρ=>kh (aY it 1 fr b t f ρ)
theorem uQ {X:Cx} {tg iter elt:Expr} {ifs:List Expr} {sc:Scope} {pos:Pos} {it:ay->R (List PyData)} {b:PyData->ay->Option ay} {t:ay->R Bool} {f:Fe} {N:List Str} {G G0:List Str} {fr:List Nat} {nl:Nat} {x:Str}
    (T:Tb X nl G0) {oN:List Str} {on:List (Str×NameKind)} (hoN:X.N=oN) (hon:X.env.scope.names=on)
    (ck:gt sc N G oN fr x/\∀ y∈sc.names,y.2=.free->on.lookup y.1=some .cell\/on.lookup y.1=some .free) (hi:mC X tg iter it)
    (hb0:∀ ρ d ρ1,b d (ao 1 fr ρ)=some ρ1->gu (ao 1 fr ρ) ρ1)
    (hbodyO:∀ cl C s H fp E,Tb (cj X x N sc cl C s H fp E) 1 G->iY (cj X x N sc cl C s H fp E) 0->mK (cj X x N sc cl C s H fp E) tg b/\mW (cj X x N sc cl C s H fp E) ifs t/\cm (cj X x N sc cl C s H fp E) elt f)
    (hs:∀ x,foldedSetIterable iter X.env x=pure x:=by intro _;rfl):jt X (.ListComp elt [⟨tg,iter,ifs,0⟩] sc pos) (gL it fr b t f):=by
  intro pins s σ H Q I h;obtain ⟨ckk,ckf⟩:=ck;subst hoN;have hout:∀ y∈sc.names,y.2=.free->X.env.kindOf y.1=some .cell\/X.env.kindOf y.1=some .free:=fun y hy hf=>by unfold Env.kindOf;rw [hon];exact ckf y hy hf
  obtain ⟨ρ,sl,q⟩:=h;unfold gL aY at q;rw [eval_ListComp];cases ei:it ρ with
  | ex c=>rw [ei] at q;exact q.elim
  | no=>rw [ei] at q;exact q.elim
  | ok ds =>
    rw [ei] at q;simp only [kh,R.ok_bind] at q;by_cases hsz:ds.length<=sizeLine
    case neg=>rw [if_neg hsz] at q;exact q.elim
    rw [if_pos hsz] at q;cases ec:bA b t f (ao 1 fr ρ) ds with
    | no=>rw [ec] at q;exact q.elim
    | ex c=>rw [ec] at q;exact q.elim
    | ok xs =>
      rw [ec] at q;dsimp only at q;obtain ⟨cl,hcl,hcl1,hcl2⟩:=lI (scope:=sc) (env:=X.env) fun x hx hf=>I.ok.has _ (hout x hx hf)
      have ck':=ckk;obtain ⟨ck1,ck2,ck3,_,_,lx,_,_,_,_,ofr,fne⟩:=ck';have hin:∀ i∈fr,i < ρ.length:=fun i hi=>by
        have e1:ρ.length=X.N.length:=by rw [<- sl.1];exact I.len
        rw [e1];obtain ⟨k,hk⟩:=List.getElem?_of_mem hi;have q:=congrArg (fun l=>l[k]?) ofr;simp only [List.getElem?_map,hk,Option.map_some] at q;cases z:(N.drop 1)[k]? with
        | none=>rw [z] at q;cases q
        | some y =>
          rw [z] at q;have q':some y=X.N[i]?:=Option.some.inj q;exact (List.getElem?_eq_some_iff.mp q'.symm).1
      refine wpAny_comprehension_free (use:=none) rfl hs hcl ck1 ck3 ?_;refine cR (hi pins s σ H (fun J H1=>ar H H1/\∃ Gd,yn J Gd ds/\CJ H1 (fun _=>False) Gd) I ⟨ρ,sl,by rw [ei];exact fun J H1 s1 z=>⟨s1,z⟩⟩) fun xv s1 h1=>cR h1 fun itv s2 h2=>?_
      obtain ⟨itA,fp,tn,J,H2,e,I2,T2,st2,f2,s02,Gd,idt,sta⟩:=h2;subst e;refine wpAny_newObj_type (qO lx ck2 fun h₁ c0 keep1 hns₁ hx0 hc0 hcell=>?_);dsimp only at keep1 hns₁ hx0 hc0 ⊢;generalize hHp:s2.heap.push { cls:=.type "list",dict:=none,data:=.seq ([]:List Value).toArray }=Hp2 at keep1 hns₁ hx0 hc0 ⊢;have hC:Hp2.objs.size=s2.heap.objs.size+1:=by rw [<- hHp,Heap.size_push]
      have hDC:s2.heap.objs.size≠Hp2.objs.size:=by rw [hC];exact Nat.ne_of_lt (Nat.lt_succ_self _)
      have hCle:s2.heap.objs.size<=Hp2.objs.size:=by rw [hC];exact Nat.le_succ _
      have below:∀ b,b < s2.heap.objs.size->b≠Hp2.objs.size:=fun b hb=>by rw [hC];exact Nat.ne_of_lt (Nat.lt_succ_of_lt hb)
      have old:∀ b o,s2.heap.get? b=some o->h₁.get? b=some o:=fun b o e=>keep1 b o (hHp ▸ Heap.get?_push_of_some _ e)
      have hacc:h₁.get? s2.heap.objs.size=some { cls:=.type "list",dict:=none,data:=.seq ([]:List Value).toArray }:=keep1 _ _ (hHp ▸ Heap.get?_push_size _ rfl);have hob:∀ b∈fp,b < s2.heap.objs.size:=fun b hb=>by
        obtain ⟨o,e,_⟩:=T2.obj _ _ st2 b hb;exact Heap.lt_size e
      generalize hcs:cellsFrom (Hp2.objs.size+1) sc.names cl=cs at hx0 ⊢;have hcs1:∀ y c,y≠x->cs.lookup y=some c->X.env.cells.lookup y=some c:=fun y c hy e=>hcl1 y c (by rw [<- fO hy sc.names (Hp2.objs.size+1) cl ck2,hcs];exact e)
      have hcs2:∀ y∈sc.names,y.2=.free->∃ c,cs.lookup y.1=some c:=fun y hy hf=>by
        obtain ⟨c,e⟩:=hcl2 y hy hf;exact ⟨c,by rw [<- hcs,fO (fne y hy hf) sc.names _ cl ck2];exact e⟩
      have c1:s2.heap.objs.size<=c0:=by omega
      have c2:c0≠s2.heap.objs.size:=Nat.ne_of_gt (Nat.lt_of_le_of_lt hCle (Nat.lt_of_succ_le hc0));have c3:c0≠Hp2.objs.size:=Nat.ne_of_gt (Nat.lt_of_succ_le hc0);have IC:aC (cj X x N sc cs Hp2.objs.size s2 H2 fp) [] (dc 1 fr σ) (cI H2 s2.heap.objs.size (.lst [])) { s2 with heap:=h₁,toks:=s2.toks } :=
        u5 I2 ckk f2 hob hcs1 hcs2 hx0 c1 c2 c3 hcell (fun x hx=>(T.vis x hx).1) hout (Nat.le_refl _) hCle hDC old hacc hns₁
      obtain ⟨hg,ht,hf⟩:=hbodyO cs Hp2.objs.size s2 H2 fp (fun _ _=>False) (wx T ckk cs Hp2.objs.size s2 H2 fp _) (yN ckk cs Hp2.objs.size s2 H2 fp _);have ha0:H2 s2.heap.objs.size=none:=I2.hok.fresh (Nat.le_refl _);have hfp:∀ H':Hp,(∀ b∈fp,H' b=none)->∀ b∈fp,jv (cj X x N sc cs Hp2.objs.size s2 H2 fp) [] H' b:=fun H' hn b hb =>
        ⟨hn b hb,below b (hob b hb),fun z=>by
          rcases List.mem_cons.mp (I2.stkSub b z) with y | y
          · exact (f2 b hb).2.1 y
          · exact (f2 b hb).2.2.1 y,.inl hb,fun y c e=>by
            have e':cs.lookup y=some c:=e;by_cases hy:y=x
            · rw [hy,hx0] at e';rw [<- Option.some.inj e'];exact Nat.ne_of_gt (Nat.lt_of_lt_of_le (hob b hb) c1)
            · exact (f2 b hb).2.2.2.2.1 y c (hcs1 y c hy e'),fun p hp=>absurd (show p∈([]:List (Addr×Obj)) from hp) (by simp)⟩
      have st3:tn 0 h₁:=T2.keep _ _ _ st2 fun b _ o e=>old b o e
      have slC:Sl H2 (dc 1 fr σ) (ao 1 fr ρ):=tx (sl.mono s02) 1 fr hin;have fin':∀ xs' s' σ' H' vs,(R.ok xs:R (List PyData))=.ok xs'->aC (cj X x N sc cs Hp2.objs.size s2 H2 fp) [] σ' H' s'->ar H2 H'->H' s2.heap.objs.size=some (.lst vs)->aZ H' xs' vs ->
          compPost (model X.prog X.w) X.A X.xe none (EP X pins σ Q) (.ref s2.heap.objs.size) Hp2.objs.size (.ok .next) s':=fun xs' s' σ' H' vs hr J' s2' hv rv=>by
        cases hr;obtain ⟨m,hn,_⟩:=J'.loc;have I':=I2.call' (s':=s') (ch:=fp) J'.os J'.base J'.hok J'.bare (fun b hb=>⟨(f2 b hb).2.2.2.1,(f2 b hb).2.1,(f2 b hb).2.2.2.2.1,(f2 b hb).2.2.2.2.2⟩);obtain ⟨g0,g1,g2,g3,g4,g5⟩:=I2.fpOk hCle J'.free;refine ⟨m,hn,fun h' sb=>⟨.ref s2.heap.objs.size,H',I'.turned (t':=s'.toks) (fun b o hb e=>sb.extBut b o hb e) g0 g1 g3 g4 g5,rfl,?_⟩⟩;refine q _ H' (s02.trans s2') ⟨?_,_,rfl,s02.free ha0⟩;simp only [gs];exact ⟨_,vs,rfl,hv,rv⟩
      have loop:=nB (X:=cj X x N sc cs Hp2.objs.size s2 H2 fp) (r:=.ok xs) (Rk:=compPost (model X.prog X.w) X.A X.xe none (EP X pins σ Q) (.ref s2.heap.objs.size) Hp2.objs.size) (iter:=iter) (scope:=sc) (pos:=pos) T2 T.calm hfp (fun e s' z=>False.elim z) (fun c hr=>by cases hr) (fun z=>nomatch z) hg ht hf idt sta hsz ha0 (fun d ρ1 e=>hb0 ρ d ρ1 e) fin' IC st3 (fun b hb=>by
          show cI H2 s2.heap.objs.size (.lst []) b=none;rw [aA (Nat.ne_of_lt (hob b hb))];exact (f2 b hb).1) (bM ha0 _) bw ec (slC.mono (bM ha0 _)) (fun i e h=>by
          obtain ⟨o,z1,v,rfl,z2⟩:=slC.at h;exact ⟨v,z1,z2⟩)
      exact codeAny_compStart_list loop (T2.self _ 0 _ _ _ st3 loop)
theorem kr {X:Cx} {tg iter elt:Expr} {ifs:List Expr} {sc:Scope} {pos:Pos} {it:ay->R (List PyData)} {b:PyData->ay->Option ay} {t:ay->R Bool} {f:Fe} {N:List Str} {G G0:List Str} {fr:List Nat} {nl:Nat} {x:Str} (T:Tb X nl G0) {oN:List Str} {on:List (Str×NameKind)} (hoN:X.N=oN) (hon:X.env.scope.names=on) (ck:gt sc N G oN fr x/\∀ y∈sc.names,y.2=.free->on.lookup y.1=some .cell\/on.lookup y.1=some .free) (hi:Z.mC X tg iter it) (hb0:∀ ρ d ρ1,b d (ao 1 fr ρ)=some ρ1->gu (ao 1 fr ρ) ρ1) (hbodyO:∀ cl C s H fp E,Tb (cj X x N sc cl C s H fp E) 1 G->iY (cj X x N sc cl C s H fp E) 0->Z.mK (cj X x N sc cl C s H fp E) tg b/\Z.mW (cj X x N sc cl C s H fp E) ifs t/\Z.cm (cj X x N sc cl C s H fp E) elt f) (hs:∀ x,foldedSetIterable iter X.env x=pure x:=by intro _;rfl):Z.jt X (.ListComp elt [⟨tg,iter,ifs,0⟩] sc pos) (gL it fr b t f) :=
  ⟨D2.uQ T hoN hon ck hi.un hb0 (fun cl C s H fp E T cap=>let ⟨q1,q2,q3⟩:=hbodyO cl C s H fp E T cap;⟨q1.un,q2.un,q3.un⟩) hs⟩
section
variable {prog:Program} {w:World} {A:Around} {E:Value->Shared->Prop} {s:Shared} {d it:Addr} {od:Obj} {es:Array DictEntry} {ep i:Nat}
theorem Dw {Q:Value->Shared->Prop} (hd:(d==sysModules)=false) (ty:s.TypeIs (.ref d) "dict") (ho:s.heap.get? d=some od) (hdat:od.data=.dict es ep)
    (h:Q (.ref s.heap.objs.size) { s with heap:=s.heap.push { cls:=.type "dict_keyiterator",data:=.fields #[.ref d,.int 0 0,.int es.size 0,.int ep 0] } }):wpAny (model prog w) A (pyIter (.ref d)) Q E s:=by
  refine wpAny_pyIter_slot ty F.slot_dict_iter (wpAny_call_entry F.slot_dict_iter ty F.entry_dict_iter ?_ (F.args_dict_iter_1 _));unfold Builtin.«dict.__iter__»;refine wpAny_bind ?_;unfold Builtin.Dict.dictSlotNone;refine wpAny_bind (wpAny_notOrdered_dict ty ?_);show wpAny _ _ (pure (Value.ref d)) _ _ s;refine wpAny_pure ?_;show wpAny _ _ (Builtin.Dict.showsAll d>>=_) _ _ s;unfold Builtin.Dict.showsAll;rw [if_neg (by rw [hd];exact Bool.false_ne_true)];refine wpAny_bind (wpAny_pure (wpAny_bind (wpAny_dictEntries ho hdat (wpAny_bind (wpAny_dictEpoch ho hdat ?_)))));refine wpAny_bind (wpAny_newObj_type (wpAny_pure ⟨_,rfl,"dict_keyiterator",_,⟨_,Heap.get?_push_size _ rfl,rfl⟩,F.slot_dict_keyiterator_next.lookup,?_⟩));simpa [rawInt] using h
theorem DA {Q:Option Value->Shared->Prop} (hit:s.heap.IsKeyIter it d i es.size ep) (hod:s.heap.get? d=some od) (hdd:od.data=.dict es ep) (hlt':i < es.size)
    (hQ:∀ h',h'.IsKeyIter it d (i+1) es.size ep->Heap.SameBut it s.heap h'->Q (some es[i].key) { s with heap:=h' }):wpAny (model prog w) A (pyNext (.ref it)) Q E s:=by
  obtain ⟨o,ho,hc,hd⟩:=id hit;unfold pyNext;refine wpAny_bind (wpAny_attempt (wpAny_callSpecial?_slot (name:=Str.ofString "__next__") hit.typeIs F.slot_dict_keyiterator_next (wpAny_call_entry F.slot_dict_keyiterator_next hit.typeIs F.entry_dict_keyiterator_next ?_ (F.args_dict_keyiterator_next_1 _))));refine wpAny_bind (wpAny_pure (wpAny_bind (wpAny_bind ?_)))
  first | refine wpAny_bind (wpAny_typeNameOfWhole_keyiter hit.typeIs (wpAny_pure ?_)) | refine wpAny_bind (wpAny_typeNameOf_keyiter hit.typeIs (wpAny_pure ?_))
  refine wpAny_bind (wpAny_fieldsOf ho hd ?_);have hown:Builtin.Dict_items.ownsTuple "dict_keyiterator" = false:=by decide
  simp only [hown,Bool.false_eq_true,if_false];show wpAny _ _ (if (Value.ref d==Value.none)=true then _ else _) _ _ s;rw [if_neg (show ¬ ((Value.ref d==Value.none)=true) from Bool.false_ne_true)];refine wpAny_bind (wpAny_pure (wpAny_bind (wpAny_dictEntries hod hdd ?_)));rw [if_neg (by simp)];refine wpAny_bind (wpAny_pure (wpAny_bind (wpAny_dictEpoch hod hdd ?_)));rw [if_neg (by simp)];refine wpAny_pure ?_;simp only [show ¬ ((i:Int) < 0) from by omega,if_false,Int.toNat_natCast,Array.getElem?_eq_getElem hlt'];refine wpAny_bind ?_
  first | refine wpAny_bind (wpAny_typeNameOfWhole_keyiter hit.typeIs (wpAny_pure ?_)) | refine wpAny_bind (wpAny_typeNameOf_keyiter hit.typeIs (wpAny_pure ?_))
  refine wpAny_bind (wpAny_isOneOf_keyiter hit.typeIs ?_);show wpAny _ _ (setField (.ref it) 1 (rawInt ((i:Int)+1))>>=_) _ _ s;refine wpAny_bind (wpAny_setField ho hd (by simp) ?_);have hit':(s.heap.update it (Obj.mapFields (·.setIfInBounds 1 (rawInt ((i:Int)+1))))).IsKeyIter it d (i+1) es.size ep :=
    ⟨_,Heap.get?_update_self _ ho (Obj.isFreed_of_fields (Obj.data_mapFields hd _)),(Obj.cls_mapFields ..).trans hc,by rw [Obj.data_mapFields hd];simp [rawInt]⟩
  refine wpAny_bind (wpAny_holding (wpAny_bind (wpAny_isOneOf_keyiter (s:={ s with heap:=s.heap.update it (Obj.mapFields (·.setIfInBounds 1 (rawInt ((i:Int)+1)))) }) hit'.typeIs ?_)));show wpAny _ _ (pure es[i].key) _ _ _;exact wpAny_pure (wpAny_pure ⟨_,rfl,wpAny_pure (hQ _ hit' (Heap.SameBut.update ..))⟩)
theorem Fu {Q:Option Value->Shared->Prop} (hh:A.handled=none) (hit:s.heap.IsKeyIter it d i es.size ep) (hod:s.heap.get? d=some od) (hdd:od.data=.dict es ep) (hge:es.size<=i)
    (hQ:∀ h',Heap.ExtBut it s.heap h'->Q none { s with heap:=h' }):wpAny (model prog w) A (pyNext (.ref it)) Q E s:=by
  obtain ⟨o,ho,hc,hd⟩:=id hit;unfold pyNext;refine wpAny_bind (wpAny_attempt (wpAny_callSpecial?_slot (name:=Str.ofString "__next__") hit.typeIs F.slot_dict_keyiterator_next (wpAny_call_entry F.slot_dict_keyiterator_next hit.typeIs F.entry_dict_keyiterator_next ?_ (F.args_dict_keyiterator_next_1 _))));refine wpAny_bind (wpAny_pure (wpAny_bind (wpAny_bind ?_)))
  first | refine wpAny_bind (wpAny_typeNameOfWhole_keyiter hit.typeIs (wpAny_pure ?_)) | refine wpAny_bind (wpAny_typeNameOf_keyiter hit.typeIs (wpAny_pure ?_))
  refine wpAny_bind (wpAny_fieldsOf ho hd ?_);have hown:Builtin.Dict_items.ownsTuple "dict_keyiterator" = false:=by decide
  simp only [hown,Bool.false_eq_true,if_false];show wpAny _ _ (if (Value.ref d==Value.none)=true then _ else _) _ _ s;rw [if_neg (show ¬ ((Value.ref d==Value.none)=true) from Bool.false_ne_true)];refine wpAny_bind (wpAny_pure (wpAny_bind (wpAny_dictEntries hod hdd ?_)));rw [if_neg (by simp)];refine wpAny_bind (wpAny_pure (wpAny_bind (wpAny_dictEpoch hod hdd ?_)));rw [if_neg (by simp)];refine wpAny_pure ?_;simp only [show ¬ ((i:Int) < 0) from by omega,if_false,Int.toNat_natCast,Array.getElem?_eq_none hge];refine wpAny_bind ?_
  first | refine wpAny_bind (wpAny_typeNameOfWhole_keyiter hit.typeIs (wpAny_pure ?_)) | refine wpAny_bind (wpAny_typeNameOf_keyiter hit.typeIs (wpAny_pure ?_))
  show wpAny _ _ (setField (.ref it) 0 .none>>=_) _ _ s;refine wpAny_bind (wpAny_setField ho hd (by simp) ?_);show wpAny _ _ (newExc (.type "StopIteration") []>>=_) _ _ _;refine wpAny_bind ?_;simp only [newExc,newTuple];refine wpAny_bind (wpAny_newObj_type ?_ (by size_fits));refine wpAny_bind (m:=firstArgMember _ _) (wpAny_of_eq (a:=Value.none) (by first | rfl | (simp only [firstArgMember];rfl)) (wpAny_newObj_type ?_ (by size_fits)));simp only [raiseNew];refine wpAny_bind (wpAny_handled ?_);rw [show A.in1.handled=none from hh];refine wpAny_bind (wpAny_pure (wpAny_throw ?_));refine wpAny_bind (wpAny_isInstance (T := "StopIteration") (b:=true) ⟨_,Heap.get?_push_size _ rfl,rfl⟩ isSubtype_stop ?_);exact wpAny_pure (hQ _ (((Heap.SameBut.update ..).extBut.push _).push _))
end
noncomputable def AZ (d:Addr) (ob:Obj):It :=
  ⟨fun i H=>∃ ks kv,H d=some (.frz ob (.dT ks))/\ks[i]?=some kv,
   fun i H x H'=>H'=H/\∀ ks kv,H d=some (.frz ob (.dT ks))->ks[i]?=some kv->∃ b,x=.ref b/\H b=some (.tup (kv.1.map kV)),
   fun i H=>∃ ks,H d=some (.frz ob (.dT ks))/\ks.length<=i⟩
theorem ma {α β:Type} {F:α->β->Prop}:∀ {xs:List α} {ys:List β} {i:Nat} {x:α},Paired F xs ys->xs[i]?=some x->∃ y,ys[i]?=some y/\F x y
  | _,_,i,x,.nil,h=>by simp at h
  | _,_,0,x,.cons r t,h=>by simp at h;subst h;exact ⟨_,rfl,r⟩
  | _,_,i+1,x,.cons r t,h=>by
    obtain ⟨y,e,q⟩:=ma (i:=i) t (by simpa using h);exact ⟨y,by simpa using e,q⟩
theorem r8 {X:Cx} {pins:List (Addr×Obj)} {σ:L2.St} {H:Hp} {s:Shared} {d:Addr} {ob:Obj} {ks:List (List bp×V)} (I:aC X pins σ H s) (hd:H d=some (.frz ob (.dT ks))) :
    ∃ (xs:List (List bp×Addr×Value)) (es:Array DictEntry) (ep:Nat),Paired (fun (p:List bp×V) (q:List bp×Addr×Value)=>p.1=q.1/\H q.2.1=some (.tup (p.1.map kV))/\bH p.2 q.2.2) ks xs/\(d==sysModules)=false/\s.heap.get? d=some ob/\ob.ExactDict/\ob.data=.dict es ep/\es.toList=xs.map (entryOfKey (tupleKind (cx X.prog X.w))):=by
  obtain ⟨hob,_,hlo,xs,pr,o,es,ep,ho,ex,hdat,hes,_⟩:=(show bG X.prog X.w H s.heap d (.frz ob (.dT ks)) from I.hok d _ hd)
  rw [hob] at ho;cases ho;exact ⟨xs,es,ep,pr,hlo,hob,ex,hdat,hes⟩
theorem Ak {P:Program} {w:World} {K:PySem.W.Frag} {tg:Expr} (d it:Addr) {ob:Obj} {es:Array DictEntry} {ep:Nat} (hob:ob.data=.dict es ep):rJ P w K tg (AZ d ob) [it] it (fun i h=>h.IsKeyIter it d i es.size ep) where
  mem:=by simp
  obj:=fun i h st b hb=>by
    have e:b=it:=by simpa using hb
    subst e;obtain ⟨o,e,c,d⟩:=st;exact ⟨o,e,fun v z=>by rw [d] at z;cases z⟩
  keep:=fun i h h' st k=>st.at fun o e=>k it (by simp) o e
  item:=by
    intro X hP hw hK hc i pins s σ H E I hf st hg;subst hP hw hK;obtain ⟨ks,kv,hd,hx⟩:=hg;obtain ⟨xs,es',ep',rel,hlo,hg',_,hdat,hes⟩:=r8 I hd;rw [hob] at hdat;cases hdat;obtain ⟨q,hq,q1,q2,q3⟩:=ma rel hx;obtain ⟨f0,f1,f2,f3,f4,f5⟩:=hf it (by simp);have hi:i < es.size:=by
      have e1:es.size=xs.length:=by rw [<- Array.length_toList,hes,List.length_map]
      rw [e1];exact (List.getElem?_eq_some_iff.mp hq).1
    have hkey:es[i].key=.ref q.2.1:=by
      have e1:es.toList[i]?=some (entryOfKey (tupleKind (cx X.prog X.w)) q):=by rw [hes,List.getElem?_map,hq];rfl
      rw [Array.getElem?_toList,Array.getElem?_eq_getElem hi] at e1;rw [Option.some.inj e1];rfl
    refine DA st hg' hob hi fun h' st' sb=>?_
    have I1:aC X pins σ H { s with heap:=h' }:=I.turned (t':=s.toks) (fun b o hb e=>(sb.2 b hb).trans e) f0 f1 f3 f4 f5;obtain ⟨o,e,c,d'⟩:=id st';rw [hkey];exact ⟨_,rfl,tL (s:={ s with heap:=h' }) e c d' (by decide) ⟨.ref q.2.1,H,I1,rfl,⟨rfl,fun ks' kv' h1 h2=>by rw [hd] at h1;cases h1;rw [hx] at h2;cases h2;exact ⟨_,rfl,q2⟩⟩,st',fun b hb=>(hf b hb).1⟩⟩
  done:=by
    intro X hP hw hK hc i pins s σ H E I hf st hg;subst hP hw hK;obtain ⟨ks,hd,hx⟩:=hg;obtain ⟨xs,es',ep',rel,hlo,hg',_,hdat,hes⟩:=r8 I hd;rw [hob] at hdat;cases hdat;obtain ⟨f0,f1,f2,f3,f4,f5⟩:=hf it (by simp);have hl:es.size<=i:=by
      have e1:es.size=xs.length:=by rw [<- Array.length_toList,hes,List.length_map]
      have e2:ks.length=xs.length:=Paired.length rel;omega
    exact Fu (I.ok.hd hc) st hg' hob hl fun h' eb=>⟨rfl,I.turned (t':=s.toks) (fun b o hb e=>eb b o hb e) f0 f1 f3 f4 f5⟩
  self:=fun _ _ _ _ _ st h=>wpAny_pyIter_keyiter st h
section
variable {X:Cx} {tg o:Expr} {fo:Fe}
noncomputable def Gr (tl:TE):TI:=fun σ H R=>tl σ H fun x H1=>∃ a ob ks,x=.ref a/\H1 a=some (.frz ob (.dT ks))/\R (AZ a ob) H1
theorem DL {tl:TE} (hl:PE X o tl):PI X tg o (Gr tl):=by
  intro pins s σ H R I h;refine cR (hl pins s σ H _ I h) fun v s1 zq0=>?_
  obtain ⟨x,H1,I1,r1,q1⟩:=zq0;obtain ⟨a,ob,ks,e,hd,q⟩:=q1;subst e;cases r1;obtain ⟨xs,es,ep,rel,hlo,hg',ex,hdat,hes⟩:=r8 I1 hd;refine Dw hlo ⟨ob,hg',ex.1⟩ hg' hdat ?_;refine ⟨s1.heap.objs.size,[s1.heap.objs.size],_,_,H1,rfl,I1.kept (t':=s1.toks) fun b o e=>Heap.get?_push_of_some _ e,Ak a _ hdat,⟨_,Heap.get?_push_size _ rfl,rfl,rfl⟩,fun b hb=>?_,q⟩;have e:b=s1.heap.objs.size:=by simpa using hb
  subst e;exact I1.fpOk (Nat.le_refl _) (I1.hok.fresh (Nat.le_refl _))
theorem DU {H:Hp} {kvs:List (PyData×PyData)} {v:V} (h:Rp H (.dict ((.bool true,.none)::kvs)) v):∃ a o ks,v=.ref a/\H a=some (.frz o (.dT ks))/\dS H kvs ks:=by
  simp only [Rp] at h;rcases h with ⟨a,o,vs,e,ha,r⟩ | ⟨a,o,C,dx,fs,e,ha,r⟩ | ⟨a,o,vs,e,ha,r⟩
  · simp only [dj] at r;obtain ⟨k,v,r',_,q,_⟩:=r;simp only [uh] at q;cases k <;> cases q.1
  · simp only [vN] at r;cases r.1
  · simp only [mE] at r;exact ⟨a,o,vs,e,ha,r.2⟩
noncomputable def o5:PyData->R (List PyData)
  | .dict kvs=>match yj kvs with
    | some r=>.ok (r.map (·.1))
    | none=>.no
  | _=>.no
noncomputable def kc (f:Fe):ay->R (List PyData):=fun ρ=>f ρ>>=o5
theorem t8 {H:Hp}:∀ x:List bp,aZ H (x.map de) (x.map kV)
  | []=>aZ.nil
  | k::x=>aZ.cons (by cases k <;> simp only [de,kV,Rp]) (t8 x)
theorem dS.key {H:Hp}:∀ {kvs:List (PyData×PyData)} {ks:List (List bp×V)} {i:Nat} {d:PyData},dS H kvs ks->(kvs.map (·.1))[i]?=some d->∃ kv,ks[i]?=some kv/\d=tD kv.1
  | [],ks,i,d,h,e=>by simp at e
  | (k,v)::kvs,ks,i,d,h,e=>by
    obtain ⟨x,v',r,rfl,rfl,p,t⟩:=h.cons_inv;cases i with
    | zero=>simp at e;subst e;exact ⟨_,rfl,rfl⟩
    | succ i =>
      obtain ⟨kv,e1,e2⟩:=dS.key (i:=i) t (by simpa using e);exact ⟨kv,by simpa using e1,e2⟩
theorem Bs {a:Addr} {ob:Obj} {ks:List (List bp×V)} {kvs:List (PyData×PyData)}:yn (AZ a ob) (fun H=>H a=some (.frz ob (.dT ks))/\dS H kvs ks) (kvs.map (·.1)) where
  go:=fun i H ⟨h,r⟩ hi=>by
    have hl:=r.length;rw [List.length_map] at hi;exact ⟨ks,ks[i]'(by omega),h,List.getElem?_eq_getElem (by omega)⟩
  yld:=fun i H x H' d ⟨h,r⟩ hd ⟨e,y⟩=>by
    subst e;obtain ⟨kv,e1,e2⟩:=r.key hd;obtain ⟨b,e3,e4⟩:=y ks kv h e1;subst e2 e3;refine ⟨ar.refl _,?_⟩;simp only [Rp];exact ⟨b,_,rfl,e4,t8 _⟩
  stop:=fun i H ⟨h,r⟩ hi=>by
    have hl:=r.length;rw [List.length_map] at hi;exact ⟨ks,h,by omega⟩
theorem rK (ha:Z.cm X o fo):Z.mC X tg o (kc fo):=⟨have ha:=ha.un;PI.imp (DL ha) fun σ H Rk h=>(da (P:=gh) (f:=fo) (k:=fun _=>o5) (AU (X:=X) Rk) h).post fun v H1 ⟨_,d,_,_,p1,q1⟩=>by
    cases d with
    | dict kvs =>
      simp only [o5] at q1;cases eu:yj kvs with
      | none=>rw [eu] at q1;exact q1.elim
      | some r =>
        rw [eu] at q1;have ek:=lb eu;subst ek;obtain ⟨a',o',ks,rfl,h,rr⟩:=DU p1;exact ⟨a',o',ks,rfl,h,q1 _ H1 (ar.refl _) ⟨_,Bs,fun H2 k _=>⟨k.2 _ _ _ h,dS.kp k _ _ rr⟩⟩⟩
    | _=>exact q1.elim⟩
end
theorem zb {X:Cx} {tg iter elt:Expr} {ifs:List Expr} {sc:Scope} {pos py spos:Pos} {it:ay->R (List PyData)} {b:PyData->ay->Option ay} {t:ay->R Bool} {f:Fe} {N:List Str} {own:Nat} {G G0:List Str} {fr:List Nat} {nl:Nat} {y:Str} (i:Nat)
    (hN:(X.N.take nl)[i]?=some y) (T:Tb X nl G0) {oN:List Str} {on:List (Str×NameKind)} (hoN:X.N=oN) (hon:X.env.scope.names=on)
    (ck:cK sc N own G oN fr/\∀ y∈sc.names,y.2=.free->on.lookup y.1=some .cell\/on.lookup y.1=some .free) (hi:mC X tg iter it)
    (hb0:∀ ρ d ρ1,b d (ao own fr ρ)=some ρ1->gu (ao own fr ρ) ρ1)
    (hbodyO:∀ cl C s H fp E,Tb (aq X N sc cl C s H fp E) own G->iY (aq X N sc cl C s H fp E) own->mK (aq X N sc cl C s H fp E) tg b/\mW (aq X N sc cl C s H fp E) ifs t/\cm (aq X N sc cl C s H fp E) elt f)
    (hsw:swapsWith (.ListComp elt [⟨tg,iter,ifs,0⟩] sc pos) (some (.Name y py)) spos.line X.env=pure true:=by rfl)
    (hs:∀ x,foldedSetIterable iter X.env x=pure x:=by intro _;rfl) (hstk:∃ env0 outer0 L,X.stack=env0::outer0/\env0.frame=some L/\X.env.frame=some L:=by exact ⟨_,_,_,rfl,rfl,rfl⟩):ju X (.Assign [.Name y py] (.ListComp elt [⟨tg,iter,ifs,0⟩] sc pos) spos) (gY i (aY it own fr b t f)) :=
  za i hN T hoN hon ck hi hb0 (fun cl C s H fp E T'=>hbodyO cl C s H fp E T' (wu ck.1 cl C s H fp E)) hsw hs hstk
theorem uo {X:Cx} {tg iter elt:Expr} {ifs:List Expr} {sc:Scope} {pos py spos:Pos} {it:ay->R (List PyData)} {b:PyData->ay->Option ay} {t:ay->R Bool} {f:Fe} {N:List Str} {own:Nat} {G G0:List Str} {fr:List Nat} {nl:Nat} {y:Str} (i:Nat) (hN:(X.N.take nl)[i]?=some y) (T:Tb X nl G0) {oN:List Str} {on:List (Str×NameKind)} (hoN:X.N=oN) (hon:X.env.scope.names=on) (ck:cK sc N own G oN fr/\∀ y∈sc.names,y.2=.free->on.lookup y.1=some .cell\/on.lookup y.1=some .free) (hi:Z.mC X tg iter it) (hb0:∀ ρ d ρ1,b d (ao own fr ρ)=some ρ1->gu (ao own fr ρ) ρ1) (hbodyO:∀ cl C s H fp E,Tb (aq X N sc cl C s H fp E) own G->iY (aq X N sc cl C s H fp E) own->Z.mK (aq X N sc cl C s H fp E) tg b/\Z.mW (aq X N sc cl C s H fp E) ifs t/\Z.cm (aq X N sc cl C s H fp E) elt f) (hsw:swapsWith (.ListComp elt [⟨tg,iter,ifs,0⟩] sc pos) (some (.Name y py)) spos.line X.env=pure true:=by rfl) (hs:∀ x,foldedSetIterable iter X.env x=pure x:=by intro _;rfl) (hstk:∃ env0 outer0 L,X.stack=env0::outer0/\env0.frame=some L/\X.env.frame=some L:=by exact ⟨_,_,_,rfl,rfl,rfl⟩):Z.ju X (.Assign [.Name y py] (.ListComp elt [⟨tg,iter,ifs,0⟩] sc pos) spos) (gY i (aY it own fr b t f)) :=
  ⟨D2.zb i hN T hoN hon ck hi.un hb0 (fun cl C s H fp E T cap=>let ⟨q1,q2,q3⟩:=hbodyO cl C s H fp E T cap;⟨q1.un,q2.un,q3.un⟩) hsw hs hstk⟩
theorem uw {P:Program} {w:World} {K:PySem.W.Frag} {mg:Str->Option Value} {base:Heap} {x qual:Str} {st:Stmt} {f:Addr} {fd:FuncData} {N ps:List Str} {k:Nat} {g:Fs} (F:h7 K x qual st f fd) (S:aP N ps (ak st))
    (body:∀ (cdv:Value) (A:Around) (outer:List Env) (s:Shared) (H:Hp) (E:XK),fB k (A.deeper (envOfC qual (ak st) s.heap.objs.size f cdv)) ->
      Z.jZ (eR (di P w mg) P w K mg base N qual (ak st) f cdv A outer s H E) (cN st) g):bj P w K mg base (di P w mg) (k+1) f fd ps (eo (eA N.length g) ps.length) :=
  D2.zf F S fun cdv A outer s H E hr=>(body cdv A outer s H E hr).un
theorem aF {P:Program} {w:World} {K:PySem.W.Frag} {mg:Str->Option Value} {base:Heap} {x qual:Str} {st:Stmt} {f:Addr} {fd:FuncData} {N ps:List Str} {k:Nat} {g:Fs} {G:List Str} (F:h7 K x qual st f fd) (S:aP N ps (ak st)) (ck:sY (ak st) N G)
    (body:∀ (cdv:Value) (A:Around) (outer:List Env) (s:Shared) (H:Hp) (E:XK),fB k (A.deeper (envOfC qual (ak st) s.heap.objs.size f cdv))->Tb (eR (di P w mg) P w K mg base N qual (ak st) f cdv A outer s H E) N.length G ->
      Z.jZ (eR (di P w mg) P w K mg base N qual (ak st) f cdv A outer s H E) (cN st) g):bj P w K mg base (di P w mg) (k+1) f fd ps (eo (eA N.length g) ps.length) :=
  uw F S fun cdv A outer s H E hr=>body cdv A outer s H E hr (Bk hr ck)
noncomputable def kY (K:PySem.W.Frag):Bool:=K.all fun p=>match p.2.cls with
  | .type n=>!(n == "list")
  | _=>true
theorem l4 {α β:Type} [BEq α] {a:α} {o:β}:∀ {K:List (α×β)},K.lookup a=some o->∃ p∈K,p.2=o
  | [],e=>by cases e
  | (b,x)::r,e=>by
    rw [List.lookup_cons] at e;split at e
    · cases e;exact ⟨_,List.mem_cons_self,rfl⟩
    · obtain ⟨p,h1,h2⟩:=l4 e;exact ⟨p,List.mem_cons_of_mem _ h1,h2⟩
theorem sx {K:PySem.W.Frag} (h:kY K=true) {a:Addr} {o:Obj} (e:K.lookup a=some o) (c:o.cls=.type "list"):False:=by
  obtain ⟨p,m,rfl⟩:=l4 e;have q:=List.all_eq_true.mp h _ m;simp only [c] at q;simp at q
noncomputable def AE (F:List PyData->R PyData):Prop:=∀ ns:List Int,ns.length<=63->F [.list (ns.map .int)]=.ok (.bool true)
theorem F1 {l:PySem.W.OpenLaw} {q:Program} {loose:List Str} {XP:(Str->Option Value)->Heap->Prop} {YP:World->Heap->Prop} {d:DefRec} {K:Params->PySem.W.Frag} {k:Nat} {x:Str} {F:List PyData->R PyData} (hn:l.most=some 63) (hdf:d.params.defaults=[])
    (hr:fB k callerA) (hY:∀ (w:World) (h:Heap),YP w h->(K w.params).In h) (hF:AE F)
    (G:∀ (w:World) (mg:Str->Option Value) (fa:Addr) (h:Heap),(K w.params).In h->h.Ns mainGlobals mg->mg d.name=some (.ref fa) ->
      kY (K w.params)=true/\∃ fd:FuncData,(∀ (s:Shared) (u:Value),BindsTo s fd ⟨[u],[]⟩ [(x,u)])/\∀ base:Heap,(K w.params).In base->base.Ns mainGlobals mg->bj l.prog w (K w.params) mg base (di l.prog w mg) k fa fd [x] (eo F 1)) :
    PySem.W.WalkO q loose XP YP l.row.toRowW d [] (fun f vs=>PySem.call f vs):=by
  refine Att.attach_call hn hdf fun w s₀ s₁ mg mb fa o pm cd doc a vs ns G0 Y ho hd hcd hmg hobj hints hlen hg=>?_
  have KX:=hY w _ Y;obtain ⟨nl,fd,hb,hG⟩:=G w mg fa _ KX G0.T.g hmg;refine L2.wZ (sp:=eo F 1) KX G0.T.g G0.T.b G0.T.builtins G0.T.nolimit hg hobj hints (Nat.le_trans hlen (by decide)) hr hG hb (fun H hO hS=>?_) fun H e s' ⟨_,_,_,_,_,z⟩=>z
  refine ⟨[.list (ns.map .int)],aZ.cons ?_ aZ.nil,rfl,?_⟩
  · rcases hS with (h | ⟨o,h⟩) | ⟨o,its,n,h,c,_⟩
    · rcases hO a with z | ⟨o,xs,z⟩
      · rw [z] at h;cases h
      · rw [z] at h;cases h
    · simp only [Rp];exact ⟨a,o,_,rfl,h,aZ.ints ns⟩
    · exact (sx nl h c).elim
  · rw [hF ns hlen];intro v H' _ r;simpa only [Rp] using r
section
variable {K:PySem.W.Frag} {x qual:Str} {st:Stmt} {f:Addr} {fd:FuncData} {p1 p2 p3 p4 p5 p6 p7:Str}
theorem Cz (F:h7 K x qual st f fd) (h:∀ (kV doc pm:Value) (an:Option Addr) (cdv ct:Value) (a1:Value),bindArgs (PySem.W.fnOf x qual (dX st) (cN st) (ak st) .none kV doc pm an cdv ct) ⟨[a1],[]⟩=pure [(p1,a1)]):bT K fd [p1] []:=F.binds fun kV doc pm an cdv ct us hl=>by
    obtain ⟨a1,r0,rfl,q0⟩:=D2.vf hl;obtain rfl:=List.eq_nil_of_length_eq_zero q0;exact h kV doc pm an cdv ct a1
theorem rQ (F:h7 K x qual st f fd) (h:∀ (kV doc pm:Value) (an:Option Addr) (cdv ct:Value) (a1 a2:Value),bindArgs (PySem.W.fnOf x qual (dX st) (cN st) (ak st) .none kV doc pm an cdv ct) ⟨[a1,a2],[]⟩=pure [(p1,a1),(p2,a2)]):bT K fd [p1,p2] []:=F.binds fun kV doc pm an cdv ct us hl=>by
    obtain ⟨a1,r0,rfl,q0⟩:=D2.vf hl;obtain ⟨a2,r1,rfl,q1⟩:=D2.vf q0;obtain rfl:=List.eq_nil_of_length_eq_zero q1;exact h kV doc pm an cdv ct a1 a2
theorem E8 (F:h7 K x qual st f fd) (h:∀ (kV doc pm:Value) (an:Option Addr) (cdv ct:Value) (a1 a2 a3:Value),bindArgs (PySem.W.fnOf x qual (dX st) (cN st) (ak st) .none kV doc pm an cdv ct) ⟨[a1,a2,a3],[]⟩=pure [(p1,a1),(p2,a2),(p3,a3)]):bT K fd [p1,p2,p3] []:=F.binds fun kV doc pm an cdv ct us hl=>by
    obtain ⟨a1,r0,rfl,q0⟩:=D2.vf hl;obtain ⟨a2,r1,rfl,q1⟩:=D2.vf q0;obtain ⟨a3,r2,rfl,q2⟩:=D2.vf q1;obtain rfl:=List.eq_nil_of_length_eq_zero q2;exact h kV doc pm an cdv ct a1 a2 a3
end
@[simp] theorem R.ite_bind {α β:Type} {c:Prop} [Decidable c] (x y:R α) (k:α->R β):((if c then x else y)>>=k)=if c then x>>=k else y>>=k:=by
  by_cases h:c
  · rw [if_pos h,if_pos h]
  · rw [if_neg h,if_neg h]
@[simp] theorem cB {α:Type} (a:α):kh (R.ok a)=.ok a:=rfl
@[simp] theorem FE {α:Type}:kh (R.no:R α)=.no:=rfl
@[simp] theorem FD {α:Type} (c:Str):kh (R.ex c:R α)=.no:=rfl
noncomputable def BY:oq->R PyData
  | .rt d=>.ok d
  | .nx _=>.ok .none
  | _=>.no
theorem dC (n:Nat) (g:Fs) (ds:List PyData):eA n g ds=(g (ds.map bq.val++List.replicate (n-ds.length) .non)>>=BY):=by
  unfold eA;congr 1
@[simp] theorem ER (d:PyData):BY (.rt d)=.ok d:=rfl
@[simp] theorem EQ (r:ay):BY (.nx r)=.ok .none:=rfl
section
variable (f g h:Fe) (ρ:ay) (i j:Nat) (t u:ay->R Bool) (a b:Fs) (fs:ay->R (List PyData)) (F:List PyData->R PyData) (d e:PyData)
@[simp] theorem dO:eC d ρ=.ok d:=rfl
@[simp] theorem ax:ag 0 (.val d::ρ)=.ok d:=rfl
@[simp] theorem aD (c:bq):ag (i+1) (c::ρ)=ag i ρ:=rfl
@[simp] theorem oS:c4 0 (.val d::ρ)=.ok d:=rfl
@[simp] theorem jI:c4 0 (.own d::ρ)=.ok d:=rfl
@[simp] theorem dn (c:bq):c4 (i+1) (c::ρ)=c4 i ρ:=rfl
@[simp] theorem cv (k:PyData->R PyData):e1 k f ρ=(f ρ>>=fun x=>k x):=rfl
@[simp] theorem bZ (k:PyData->PyData->R PyData):e2 k f g ρ=(f ρ>>=fun x=>g ρ>>=fun y=>k x y):=rfl
@[simp] theorem gq:tE f ρ=(f ρ>>=qh):=rfl
@[simp] theorem hU (k:Bool):qh (.bool k)=.ok k:=rfl
@[simp] theorem mr:jW t u ρ=(t ρ>>=fun k=>if k=true then u ρ else .ok false):=rfl
@[simp] theorem pB:kU t u ρ=(t ρ>>=fun k=>if k=true then .ok true else u ρ):=rfl
@[simp] theorem mw:dP t ρ=(t ρ>>=fun k=>.ok (!k)):=rfl
@[simp] theorem yX:qw f g ρ=(f ρ>>=fun d=>qh d>>=fun k=>if k=true then g ρ else .ok (.bool false)):=rfl
@[simp] theorem Fq:Gq f g ρ=(f ρ>>=fun d=>qh d>>=fun k=>if k=true then .ok (.bool true) else g ρ):=rfl
@[simp] theorem EH:yY f ρ=(f ρ>>=fun d=>qh d>>=fun k=>.ok (.bool (!k))):=rfl
@[simp] theorem Fp:Gp t f g ρ=(t ρ>>=fun k=>if k=true then f ρ else g ρ):=rfl
@[simp] theorem aV:az ρ=.ok []:=rfl
@[simp] theorem aL:ah f fs ρ=(f ρ>>=fun d=>fs ρ>>=fun ds=>.ok (d::ds)):=rfl
@[simp] theorem bQ:aN F fs ρ=(fs ρ>>=F):=rfl
@[simp] theorem CA (p q:PyData->PyData->R PyData):gK p q f g h ρ=(f ρ>>=fun x=>g ρ>>=fun y=>p x y>>=fun d=>qh d>>=fun k=>if k=true then h ρ>>=fun z=>q y z else .ok (.bool false)):=rfl
@[simp] theorem gM:dL fs ρ=(fs ρ>>=fun ds=>if ds.length<=sizeLine then .ok (.tuple ds) else .no):=rfl
@[simp] theorem tH:uL fs ρ=(fs ρ>>=fun ds=>if ds.length<=sizeLine then .ok (.list ds) else .no):=rfl
@[simp] theorem l7:gn ρ=.ok none:=rfl
@[simp] theorem l8:gp f ρ=(f ρ>>=fun d=>ED d>>=fun i=>.ok (some i)):=rfl
@[simp] theorem wj (k:Int):ED (.int k)=.ok k:=rfl
@[simp] theorem rX (lo hi:Fo):uM f lo hi ρ=(f ρ>>=fun d=>lo ρ>>=fun l=>hi ρ>>=fun u=>yo d l u):=rfl
@[simp] theorem mm:dg ρ=.ok (.nx ρ):=rfl
@[simp] theorem la:aU a b ρ=(a ρ>>=n8 b):=rfl
@[simp] theorem rm:n8 b (.nx ρ)=b ρ:=rfl
@[simp] theorem Eo:n8 b (.rt d)=.ok (.rt d):=rfl
@[simp] theorem Em:n8 b (.bk ρ)=.ok (.bk ρ):=rfl
@[simp] theorem En:n8 b (.ct ρ)=.ok (.ct ρ):=rfl
@[simp] theorem gV:kG t a b ρ=(t ρ>>=fun k=>if k=true then a ρ else b ρ):=rfl
@[simp] theorem ej:cJ f ρ=(f ρ>>=fun d=>.ok (.rt d)):=rfl
@[simp] theorem D1:D0 ρ=.ok (.rt .none):=rfl
@[simp] theorem DZ:DY f ρ=(f ρ>>=fun _=>.ok (.nx ρ)):=rfl
@[simp] theorem CB:B5 ρ=.ok (.bk ρ):=rfl
@[simp] theorem DW:DV ρ=.ok (.ct ρ):=rfl
@[simp] theorem cF:cc i f ρ=(f ρ>>=fun d=>.ok (.nx (ρ.set i (.val d)))):=rfl
@[simp] theorem t9:gY i f ρ=(f ρ>>=fun d=>.ok (.nx (ρ.set i (.own d)))):=rfl
@[simp] theorem cE:dt f ρ=(f ρ>>=jr):=rfl
@[simp] theorem iP:ff fs ρ=(fs ρ>>=qZ):=rfl
@[simp] theorem Dq:Dp fs ρ=(fs ρ>>=D8):=rfl
@[simp] theorem Dk:Dj fs ρ=(fs ρ>>=Db):=rfl
@[simp] theorem Dm:Dl f ρ=(f ρ>>=AD):=rfl
@[simp] theorem Ds:Dr f ρ=(f ρ>>=AW):=rfl
@[simp] theorem eM (ds:List PyData):jr (.tuple ds)=.ok ds:=rfl
@[simp] theorem xR (ds:List PyData):jr (.list ds)=.ok ds:=rfl
@[simp] theorem CP:aG i d ρ=some (ρ.set i (.val d)):=rfl
@[simp] theorem gX:gW a ρ=kh (a ρ):=rfl
theorem fU (it:ay->R (List PyData)) (bb:PyData->ay->Option ay):iX it bb a ρ=(it ρ>>=fun ds=>e8 bb a ds ρ):=rfl
@[simp] theorem eS (bb:PyData->ay->Option ay):e8 bb a [] ρ=.ok (.nx ρ):=by unfold e8;rfl
noncomputable def mx (k:ay->R oq):oq->R oq
  | .nx ρ=>k ρ
  | .ct ρ=>k ρ
  | .bk ρ=>.ok (.nx ρ)
  | .rt r=>.ok (.rt r)
@[simp] theorem eW (k:ay->R oq):mx k (.nx ρ)=k ρ:=rfl
@[simp] theorem Er (k:ay->R oq):mx k (.ct ρ)=k ρ:=rfl
@[simp] theorem Ep (k:ay->R oq):mx k (.bk ρ)=.ok (.nx ρ):=rfl
@[simp] theorem Es (k:ay->R oq):mx k (.rt d)=.ok (.rt d):=rfl
theorem dq (i:Nat) (ds:List PyData):e8 (aG i) a (d::ds) ρ=(a (ρ.set i (.val d))>>=mx (e8 (aG i) a ds)):=by
  rw [e8];show (a (ρ.set i (.val d))>>=_)=_;congr 1
theorem uW (i j:Nat) (x y:PyData) (ds:List PyData):e8 (eB i j) a (.tuple [x,y]::ds) ρ=(a ((ρ.set i (.val x)).set j (.val y))>>=mx (e8 (eB i j) a ds)):=by
  rw [e8];show (a ((ρ.set i (.val x)).set j (.val y))>>=_)=_;congr 1
theorem bn {a b:Fs} {ρ ρ':ay} (h:a ρ=.ok (.nx ρ')):aU a b ρ=b ρ':=by rw [la,h];rfl
theorem xS {a b:Fs} {ρ:ay} {d:PyData} (h:a ρ=.ok (.rt d)):aU a b ρ=.ok (.rt d):=by rw [la,h];rfl
theorem gj {n:Nat} {g:Fs} {ds:List PyData} {d:PyData} (h:g (ds.map bq.val++List.replicate (n-ds.length) .non)=.ok (.rt d)):eA n g ds=.ok d:=by rw [dC,h];rfl
theorem cH (bb:PyData->ay->Option ay):bA bb t f ρ []=.ok []:=by unfold bA;rfl
theorem cM (i:Nat) (ds:List PyData):bA (aG i) t f ρ (d::ds)=(t (ρ.set i (.val d))>>=fun k=>if k=true then f (ρ.set i (.val d))>>=fun x=>bA (aG i) t f ρ ds>>=fun xs=>.ok (x::xs) else bA (aG i) t f ρ ds):=by
  rw [bA];rfl
theorem lJ (i j:Nat) (x y:PyData) (ds:List PyData):bA (eB i j) t f ρ (.tuple [x,y]::ds)=(t ((ρ.set i (.val x)).set j (.val y))>>=fun k=>if k=true then f ((ρ.set i (.val x)).set j (.val y))>>=fun x=>bA (eB i j) t f ρ ds>>=fun xs=>.ok (x::xs) else bA (eB i j) t f ρ ds):=by
  rw [bA];rfl
@[simp] theorem Du:Dt f g h ρ=(f ρ>>=fun x=>g ρ>>=fun y=>h ρ>>=fun z=>sT x>>=fun xs=>sT y>>=fun ys=>sT z>>=fun zs=>.ok (ym xs ys zs)):=rfl
@[simp] theorem F0 (ds:List PyData):sT (.tuple ds)=.ok ds:=rfl
@[simp] theorem Dg:De fs ρ=(fs ρ>>=ES .tuple):=rfl
@[simp] theorem Dd:Dc fs ρ=(fs ρ>>=ES .list):=rfl
@[simp] theorem EI (lo hi:Fo):Ft f lo hi ρ=(f ρ>>=fun d=>lo ρ>>=fun l=>hi ρ>>=fun u=>CU d l u):=rfl
@[simp] theorem ET (op:Int->Int->Int):FN i op f ρ=(ag i ρ>>=fun x=>f ρ>>=fun y=>Fd op x y>>=fun z=>.ok (.nx (ρ.set i (.val z)))):=rfl
@[simp] theorem F6 (op:Int->Int->Int) (m n:Int):Fd op (.int m) (.int n)=.ok (.int (op m n)):=rfl
@[simp] theorem EJ:Fx f g ρ=(f ρ>>=fun x=>g ρ>>=fun y=>jr x>>=fun xs=>jr y>>=fun ys=>.ok (Ew xs ys)):=rfl
@[simp] theorem wO:qC f ρ=(f ρ>>=fun x=>jr x>>=fun xs=>.ok (eD 0 xs)):=rfl
theorem nX {ρ:ay} {i:Nat} {ds:List PyData} (f:Fe) (h:ρ[i]?=some (.own (.list ds))) (hz:ds.length < sizeLine):fT i f ρ=(kh (f ρ)>>=fun d=>.ok (.nx (ρ.set i (.own (.list (ds++[d])))))):=by
  unfold fT;congr 1;funext d;rw [h];exact if_pos hz
noncomputable def BA:R (List PyData)->R PyData
  | .ok xs=>.ok (.list xs)
  | .ex c=>.ex c
  | .no=>.no
@[simp] theorem EM (c:Str):BA (.ex c)=.ex c:=rfl
@[simp] theorem dH (xs:List PyData):BA (.ok xs)=.ok (.list xs):=rfl
theorem bE (it:ay->R (List PyData)) (own:Nat) (fr:List Nat) (bb:PyData->ay->Option ay):aY it own fr bb t f ρ=(kh (it ρ)>>=fun ds=>if ds.length<=sizeLine then BA (bA bb t f (ao own fr ρ) ds) else .no):=by
  unfold aY;congr 1
theorem nA (i:Nat) (G:PyData->PyData):∀ (ds:List PyData),(∀ d∈ds,f (ρ.set i (.val d))=.ok (G d))->bA (aG i) (fun _=>.ok true) f ρ ds=.ok (ds.map G)
  | [],_=>cH ..
  | d::ds,hh=>by
    rw [cM,hh d List.mem_cons_self,nA i G ds fun x hx=>hh x (List.mem_cons_of_mem _ hx)];rfl
theorem jC (i:Nat) (p:PyData->Bool) (G:PyData->PyData):∀ (ds:List PyData),(∀ d∈ds,t (ρ.set i (.val d))=.ok (p d))->(∀ d∈ds,p d=true->f (ρ.set i (.val d))=.ok (G d))->bA (aG i) t f ρ ds=.ok ((ds.filter p).map G)
  | [],_,_=>cH ..
  | d::ds,hh,hg=>by
    rw [cM,hh d List.mem_cons_self,jC i p G ds (fun x hx=>hh x (List.mem_cons_of_mem _ hx)) fun x hx=>hg x (List.mem_cons_of_mem _ hx)];cases hp:p d with
    | true=>rw [List.filter_cons_of_pos hp,R.ok_bind,if_pos rfl,hg d List.mem_cons_self hp];rfl
    | false=>rw [List.filter_cons_of_neg (by rw [hp];simp)];rfl
end
section
variable (i j:Int) (xs ys:List PyData)
@[simp] theorem Fi:uH (.int i)=.ok (.int (-i)):=rfl
@[simp] theorem E9:cY (.int i) (.int j)=.ok (.int (i+j)):=rfl
@[simp] theorem wz:cY (.tuple xs) (.tuple ys)=if xs.length+ys.length<=sizeLine then .ok (.tuple (xs++ys)) else .no:=rfl
@[simp] theorem Fa:cY (.list xs) (.list ys)=if xs.length+ys.length<=sizeLine then .ok (.list (xs++ys)) else .no:=rfl
@[simp] theorem Fl:qr (.int i) (.int j)=.ok (.int (i-j)):=rfl
@[simp] theorem wD:dQ (.int i) (.int j)=if 0 < j then .ok (.int (i%j)) else .no:=rfl
@[simp] theorem Be:j9 (.int i) (.int j)=if 0 < j/\j < 1073741824 then .ok (.int (i / j)) else .no:=rfl
theorem Bh:fj (.int i) (.int j)=if (-(2 ^ 64) < i/\i < 2 ^ 64)\/(-(2 ^ 64) < j/\j < 2 ^ 64) then .ok (.int (i*j)) else .no:=rfl
@[simp] theorem wA (p:Int->Int->Bool):fE p (.int i) (.int j)=.ok (.bool (p i j)):=rfl
@[simp] theorem Fh:Bg (.int i) (.int j)=.ok (.int (if j < i then j else i)):=rfl
@[simp] theorem Fg:Bf (.int i) (.int j)=.ok (.int (if j > i then j else i)):=rfl
@[simp] theorem rV:eG (.tuple xs)=.ok (.int xs.length):=rfl
@[simp] theorem Ff:eG (.list xs)=.ok (.int xs.length):=rfl
@[simp] theorem dE:cA (.list xs)=.ok (.tuple xs):=rfl
@[simp] theorem CV:cA (.tuple xs)=.ok (.tuple xs):=rfl
@[simp] theorem EF:Aw (.list xs)=.ok (.list xs):=rfl
@[simp] theorem EG:Aw (.tuple xs)=.ok (.list xs):=rfl
@[simp] theorem Fc:yR (.int i)=.ok (.int i):=rfl
@[simp] theorem Fb (k:Bool):yR (.bool k)=.ok (.int (if k then 1 else 0)):=rfl
@[simp] theorem F9 (lo hi:Option Int):yo (.tuple xs) lo hi=.ok (.tuple (oQ xs lo hi)):=rfl
@[simp] theorem F8 (lo hi:Option Int):yo (.list xs) lo hi=.ok (.list (oQ xs lo hi)):=rfl
@[simp] theorem Fk:Fj (.tuple xs)=.ok (.tuple xs.reverse):=rfl
theorem oJ {α:Type} {xs:List α} {i:Int} (h0:0<=i) (h1:i < xs.length):L2.atI xs i=some (xs[i.toNat]'(by omega)):=by
  unfold L2.atI AB;rw [if_pos h0,if_pos h1];exact List.getElem?_eq_getElem (by omega)
theorem Av {xs:List PyData} {i:Int} (h0:0<=i) (h1:i < xs.length):bP (.tuple xs) (.int i)=.ok (xs[i.toNat]'(by omega)):=by
  show (match L2.atI xs i with | some d=>R.ok d | none=>.no)=_;rw [oJ h0 h1]
theorem wC {xs:List PyData} {i:Int} (h0:0<=i) (h1:i < xs.length):bP (.list xs) (.int i)=.ok (xs[i.toNat]'(by omega)):=by
  show (match L2.atI xs i with | some d=>R.ok d | none=>.no)=_;rw [oJ h0 h1]
theorem oV:PyData.eqv (.int i) (.int j)=decide (i=j):=by
  simp only [PyData.eqv];by_cases h:i=j
  · subst h;simp
  · simp [h]
theorem kx:ka (.int i) (.int j)=.ok (.bool (decide (i=j))):=by
  unfold ka;rw [if_pos (by rfl),oV]
theorem lM:lL (.int i) (.int j)=.ok (.bool (!decide (i=j))):=by
  unfold lL;rw [if_pos (by rfl),oV]
end
end D2
namespace G
open PySem PySem.Spec PyProof.Rows L2 D2
noncomputable def FB:PyData->Bool
  | .int _=>true
  | _=>false
noncomputable def noD:PyData->Prop
  | .dict _=>False
  | _=>True
noncomputable def mF (d:PyData) (lo hi:Int):Bool:=match d with
  | .int i=>decide (lo<=i)&&decide (i<=hi)
  | _=>false
noncomputable def dF (c:Int):Int->List PyData->Bool
  | _,[]=>true
  | l,d::r=>match d with
    | .int i=>(decide (l<=i)&&decide (i < c))&&dF c (i+1) r
    | _=>false
@[simp] noncomputable def xX (c:Int):PyData->Bool
  | .tuple ds=>dF c 0 ds
  | _=>false
noncomputable abbrev c9 (d:PyData):Prop:=d.canLay0=true
theorem c9.noD {d:PyData} (h:c9 d):noD d:=by
  cases d <;> first | trivial | (simp [c9,PyData.canLay0] at h)
theorem oX:∀ {ds:List PyData},PyData.canLayAll0 ds=true->∀ x∈ds,c9 x
  | [],_,x,hx=>by cases hx
  | d::ds,h,x,hx=>by
    have h':d.canLay0=true/\PyData.canLayAll0 ds=true:=by simpa [PyData.canLayAll0] using h
    rcases List.mem_cons.mp hx with rfl | hx
    · exact h'.1
    · exact oX h'.2 x hx
theorem ip:∀ {ds:List PyData},(∀ x∈ds,c9 x)->PyData.canLayAll0 ds=true
  | [],_=>by simp [PyData.canLayAll0]
  | d::ds,h=>by
    have h1:=h d List.mem_cons_self;have h2:=ip fun x hx=>h x (List.mem_cons_of_mem _ hx)
    simp only [PyData.canLayAll0,Bool.and_eq_true];exact ⟨h1,h2⟩
theorem cO {ds:List PyData}:c9 (.tuple ds)<->∀ x∈ds,c9 x:=by
  constructor
  · intro h;exact oX (by simpa [c9,PyData.canLay0] using h)
  · intro h;simp only [c9,PyData.canLay0];exact ip h
theorem uY {ds:List PyData}:c9 (.list ds)<->∀ x∈ds,c9 x:=by
  constructor
  · intro h;exact oX (by simpa [c9,PyData.canLay0] using h)
  · intro h;simp only [c9,PyData.canLay0];exact ip h
theorem fF (i:Int):c9 (.int i):=by simp [c9,PyData.canLay0]
theorem uZ:c9 .none:=by simp [c9,PyData.canLay0]
noncomputable def jf (c:Int):PyData->Bool
  | .tuple ds=>dF c 0 ds&&!ds.isEmpty
  | _=>false
noncomputable def dZ (c:Int):PyData->Bool
  | .tuple [w,m,g,s]=>mF w 0 1&&(mF m 0 12&&(mF g (-20) 20&&jf c s))
  | _=>false
noncomputable def iO:PyData->Bool
  | .tuple ds=>(decide (1<=ds.length)&&decide (ds.length<=24))&&ds.all (dZ ds.length)
  | _=>false
theorem ce {n:Nat} (h:n<=1000):n<=sizeLine:=Nat.le_trans h (by decide)
theorem wJ {xs:List PyData} (hg:∀ x∈xs,c9 x):ka (.list xs) (.list [])=.ok (.bool xs.isEmpty):=by
  unfold ka;have ho:jK (.list xs) (.list [])=true:=by
    unfold jK;have h1:(PyData.list xs).canLay0=true:=uY.mpr hg;rw [h1];simp [PyData.canLay0,PyData.canLayAll0,PyData.depth,PyData.depthAll]
  rw [if_pos ho];cases xs <;> simp [PyData.eqv,PyData.eqvAll]
theorem ky {α:Type} (p:α->Bool):∀ xs:List α,(xs.filter fun x=>!p x).isEmpty=xs.all p
  | []=>rfl
  | x::xs=>by
    cases hp:p x with
    | true=>rw [List.filter_cons_of_neg (by rw [hp];simp),List.all_cons,hp,ky p xs];rfl
    | false=>rw [List.filter_cons_of_pos (by rw [hp];rfl),List.all_cons,hp];rfl
noncomputable abbrev re (ns:List Int):PyData:=.list (ns.map .int)
theorem gJ {i j:Int} (h:(-(2 ^ 64) < i/\i < 2 ^ 64)\/(-(2 ^ 64) < j/\j < 2 ^ 64)):fj (.int i) (.int j)=.ok (.int (i*j)):=by rw [Bh,if_pos h]
structure rD (c:Int) (n:Nat) (kvs:List (PyData×PyData)):Prop where
  ex:∃ ns:List Int,kvs.map (·.1)=ns.map PyData.int/\(∀ x∈ns,0<=x/\x < c)/\ns.length<=n/\(n=0\/ns≠[])/\ns.Nodup
theorem rD.put {c:Int} {n:Nat} {kvs:List (PyData×PyData)} (h:rD c n kvs) {k:Int} (h0:0<=k) (h1:k < c) (v:PyData):rD c (n+1) (sI kvs (.int k) v):=by
  obtain ⟨ns,e,hb,hl,hn,nd⟩:=h.ex;have hany:(kvs.any fun kv=>fR kv.1 (.int k))=ns.any fun i=>decide (i=k):=by
    have:(kvs.any fun kv=>fR kv.1 (.int k))=(kvs.map (·.1)).any fun d=>fR d (.int k):=by rw [List.any_map];rfl
    rw [this,e,List.any_map];rfl
  unfold sI;rw [hany];by_cases hm:k∈ns
  · have ha:(ns.any fun i=>decide (i=k))=true:=by simp;exact hm
    rw [if_pos ha];refine ⟨ns,?_,hb,by omega,.inr (by intro z;rw [z] at hm;cases hm),nd⟩;rw [<- e,List.map_map];apply List.map_congr_left;intro kv _;show (if fR kv.1 (.int k)=true then (kv.1,v) else kv).1=kv.1;split <;> rfl
  · have ha:¬ (ns.any fun i=>decide (i=k))=true:=by simp;exact hm
    rw [if_neg ha];refine ⟨ns++[k],by rw [List.map_append,List.map_append,e];rfl,fun x hx=>?_,by simp;omega,.inr (by simp),?_⟩
    · rcases List.mem_append.mp hx with z | z
      · exact hb x z
      · simp at z;subst z;exact ⟨h0,h1⟩
    · rw [List.nodup_append];refine ⟨nd,by simp,fun a hma b hb'=>?_⟩;simp at hb';subst hb';rintro rfl;exact hm hma
theorem rD.len {c:Int} {n:Nat} {kvs:List (PyData×PyData)} (h:rD c n kvs):kvs.length<=n:=by
  obtain ⟨ns,e,_,hl,_⟩:=h.ex;have:=congrArg List.length e;simp at this;omega
theorem qW (lo:Int) (n:Nat):∀ d∈ci lo n,∃ k,d=.int k:=fun d hd=>by
  unfold ci at hd;obtain ⟨k,_,rfl⟩:=List.mem_map.mp hd;exact ⟨_,rfl⟩
theorem gT (lo:Int) (n:Nat):(ci lo n).length=n:=by unfold ci;simp
theorem yS {xs:List PyData} {i:Int} (h0:0<=i) (h1:i < xs.length):∃ x∈xs,bP (.list xs) (.int i)=.ok x:=⟨_,List.getElem_mem _,wC h0 h1⟩
theorem xg {x:PyData} (hg:c9 x):lL x (.tuple [])=.ok (.bool (match x with | .tuple []=>false | _=>true)):=by
  unfold lL;have ho:jK x (.tuple [])=true:=by
    unfold jK;have h1:x.canLay0=true:=hg;rw [h1];simp [PyData.canLay0,PyData.canLayAll0,PyData.depth,PyData.depthAll];omega
  rw [if_pos ho];cases x with
  | tuple ds=>cases ds <;> simp [PyData.eqv,PyData.eqvAll]
  | dict k=>exact hg.noD.elim
  | _=>simp [PyData.eqv]
structure P4 where
  w:Int
  m:Int
  g:Int
  ns:List Int
noncomputable def P4.d (p:P4):PyData:=.tuple [.int p.w,.int p.m,.int p.g,.tuple (p.ns.map .int)]
structure Pl (c hi:Int) (p:P4):Prop where
  w0:0<=p.w
  w1:p.w<=1
  m0:0<=p.m
  m1:p.m<=hi
  g0:-20<=p.g
  g1:p.g<=20
  ne:p.ns≠[]
  so:p.ns.Pairwise (· < ·)
  inn:∀ x∈p.ns,0<=x/\x < c
theorem jo:∀ (ns:List Int) (l c:Int),ns.Pairwise (· < ·)->(∀ x∈ns,l<=x/\x < c)->ns=[]\/l+(ns.length:Int)<=c
  | [],_,_,_,_=>.inl rfl
  | x::r,l,c,hp,hb=>by
    right;obtain ⟨h1,h2⟩:=List.pairwise_cons.mp hp;have hx:=hb x List.mem_cons_self;rcases jo r (x+1) c h2 (fun y hy=>⟨by have:=h1 y hy;omega,(hb y (List.mem_cons_of_mem _ hy)).2⟩) with rfl | z
    · simp;omega
    · rw [List.length_cons];omega
theorem Pl.len {c hi:Int} {p:P4} (h:Pl c hi p):(p.ns.length:Int)<=c:=by
  rcases jo p.ns 0 c h.so h.inn with z | z
  · exact absurd z h.ne
  · omega
noncomputable abbrev gD (ps:List P4):PyData:=.tuple (ps.map P4.d)
theorem n6 {ns:List Int} (h:ns.Pairwise (·<=·)) (nd:ns.Nodup):ns.Pairwise (· < ·):=by
  have:=h.and nd;exact this.imp fun ⟨a,b⟩=>by omega
theorem k9 (c:Int):∀ (ns:List Int) (l:Int),ns.Pairwise (· < ·)->(∀ x∈ns,l<=x/\x < c)->dF c l (ns.map .int)=true
  | [],_,_,_=>rfl
  | x::r,l,hp,hb=>by
    obtain ⟨h1,h2⟩:=List.pairwise_cons.mp hp;have hx:=hb x List.mem_cons_self;simp only [List.map_cons,dF,Bool.and_eq_true,decide_eq_true_eq];exact ⟨⟨hx.1,hx.2⟩,k9 c r (x+1) h2 fun y hy=>⟨by have:=h1 y hy;omega,(hb y (List.mem_cons_of_mem _ hy)).2⟩⟩
end G
noncomputable section
namespace G
open PySem PySem.Spec PyProof.Rows L2 D2
noncomputable def ia:Fs :=
  (aU (cc 1 (e1 eG (ag 0))) (aU (gY 2 (eC (.dict [(.bool true,.none)]))) (aU (gW (iX (ff (ah (ag 1) az)) (aG 3) (gW (iX (ff (ah (ag 1) az)) (aG 4) (kG (tE (e2 (ka) (uM (e2 bP (ag 0) (ag 3)) gn (gp (eC (.int 2)))) (uM (e2 bP (ag 0) (ag 4)) gn (gp (eC (.int 2)))))) (ml 2 (dL (ah (ag 3) (ah (ag 4) az))) (eC (.bool true))) dg))))) (aU (cc 5 (eC (.bool true))) (aU (gW (pk 1000000 (tE (ag 5)) (aU (gY 6 (eC (.dict [(.bool true,.none)]))) (aU (B6 2 (gW (iX (kc (ag 2)) (eB 3 4) (aU (cc 7 (e1 oR (gL (dt (e2 bP (e2 bP (ag 0) (ag 3)) (eC (.int 3)))) [2,0,4] (aG 0) (fun _=>.ok true) (e1 mP (aY (dt (e2 bP (e2 bP (ag 2) (ag 3)) (eC (.int 3)))) 1 [0,1] (aG 0) (fun _=>.ok true) (e2 (jE false) (dL (ah (ag 1) (ah (ag 0) az))) (c4 2))))))) (aU (cc 8 (e1 oR (gL (dt (e2 bP (e2 bP (ag 0) (ag 4)) (eC (.int 3)))) [2,0,3] (aG 0) (fun _=>.ok true) (e1 mP (aY (dt (e2 bP (e2 bP (ag 2) (ag 3)) (eC (.int 3)))) 1 [0,1] (aG 0) (fun _=>.ok true) (e2 (jE false) (dL (ah (ag 0) (ah (ag 1) az))) (c4 2))))))) (kG (jW (tE (ag 7)) (tE (ag 8))) (ml 6 (dL (ah (ag 3) (ah (ag 4) az))) (eC (.bool true))) dg)))))) (aU (cc 5 (e2 (lL) (e1 lK (c4 6)) (e1 lK (c4 2)))) (B6 6 (cc 2 (ag 6)))))))) (xQ 2))))))
noncomputable def cq:List PyData->R PyData:=eA 9 (ia)
noncomputable def fX:Fs :=
  (aU (kG (tE (e2 (fE AI) (ag 1) (e1 eG (ag 0)))) (cJ (e2 bP (ag 0) (ag 1))) dg) (cJ (eC (.int 0))))
noncomputable def bK:List PyData->R PyData:=eA 2 (fX)
noncomputable def ie (bK:List PyData->R PyData):Fs :=
  (aU (cc 2 (e2 dQ (e2 fj (e2 cY (e2 cY (aN bK (ah (ag 0) (ah (ag 1) az))) (e2 fj (eC (.int 7919)) (ag 1))) (eC (.int 1))) (eC (.int 48271))) (eC (.int 2147483647)))) (cJ (e2 dQ (e2 cY (e2 cY (e2 fj (ag 2) (ag 2)) (e2 fj (eC (.int 7)) (ag 2))) (ag 1)) (eC (.int 2147483629)))))
noncomputable def aO:List PyData->R PyData:=eA 3 (ie bK)
noncomputable def ib:Fs :=
  (aU (cc 2 (e2 dQ (e2 fj (e2 cY (e2 cY (ag 0) (e2 fj (eC (.int 104729)) (ag 1))) (eC (.int 17))) (eC (.int 69621))) (eC (.int 2147483647)))) (cJ (e2 dQ (e2 cY (e2 cY (e2 fj (ag 2) (ag 2)) (e2 fj (eC (.int 3)) (ag 2))) (ag 1)) (eC (.int 2147483629)))))
noncomputable def aR:List PyData->R PyData:=eA 3 (ib)
noncomputable def ic (aR:List PyData->R PyData):Fs :=
  (aU (gY 2 (eC (.dict []))) (aU (gW (iX (ff (ah (e2 cY (e2 cY (eC (.int 1)) (e2 dQ (ag 0) (eC (.int 3)))) (e2 fj (eC (.int 20)) (e1 yR (e2 (ka) (e2 dQ (e2 j9 (ag 0) (eC (.int 3))) (eC (.int 29))) (eC (.int 7)))))) az)) (aG 3) (Aa 2 (e2 dQ (aN aR (ah (ag 0) (ah (ag 3) az))) (ag 1)) (eC (.bool true))))) (cJ (e1 cA (e1 jF (c4 2))))))
noncomputable def cr:List PyData->R PyData:=eA 4 (ic aR)
noncomputable def ig (aR:List PyData->R PyData) (cr:List PyData->R PyData):Fs :=
  (aU (cc 3 (e2 qr (e2 dQ (e2 j9 (ag 0) (eC (.int 26))) (eC (.int 9))) (eC (.int 4)))) (aU (kG (tE (e2 (ka) (e2 dQ (e2 j9 (ag 0) (eC (.int 234))) (eC (.int 11))) (eC (.int 3)))) (cc 3 (e2 qr (e2 dQ (e2 j9 (ag 0) (eC (.int 26))) (eC (.int 41))) (eC (.int 20)))) dg) (cJ (dL (ah (e2 dQ (ag 0) (eC (.int 2))) (ah (e2 dQ (e2 j9 (ag 0) (eC (.int 2))) (e2 cY (ag 2) (eC (.int 1)))) (ah (ag 3) (ah (aN cr (ah (aN aR (ah (ag 0) (ah (eC (.int 9)) az))) (ah (ag 1) az))) az))))))))
noncomputable def cf:List PyData->R PyData:=eA 4 (ig aR cr)
noncomputable def gy (aO:List PyData->R PyData) (cf:List PyData->R PyData):Fs :=
  (aU (cc 2 (aN aO (ah (ag 0) (ah (eC (.int 0)) az)))) (aU (cc 3 (e2 cY (eC (.int 1)) (e2 dQ (ag 2) (e2 Bg (ag 1) (e2 Bf (eC (.int 4)) (e1 eG (ag 0))))))) (aU (cc 4 (e2 bP (uL (ah (eC (.int 1)) (ah (eC (.int 2)) (ah (eC (.int 3)) (ah (eC (.int 5)) (ah (eC (.int 12)) (ah (eC (.int 12)) az))))))) (e2 dQ (e2 j9 (ag 2) (eC (.int 24))) (eC (.int 6))))) (cJ (e1 cA (aY (ff (ah (ag 3) az)) 1 [0,3,4] (aG 0) (fun _=>.ok true) (aN cf (ah (aN aO (ah (ag 1) (ah (e2 cY (eC (.int 3)) (ag 0)) az))) (ah (ag 2) (ah (ag 3) az))))))))))
noncomputable def ca:List PyData->R PyData:=eA 5 (gy aO cf)
noncomputable def gz:Fs :=
  (cJ (qw (e1 (cV .int) (ag 0)) (qw (yY (e1 (cV .bool) (ag 0))) (gK (fE yr) (fE yr) (ag 1) (ag 0) (ag 2)))))
noncomputable def bC:List PyData->R PyData:=eA 3 (gz)
noncomputable def gA:Fs :=
  (aU (kG (dP (tE (e1 (cV .tuple) (ag 0)))) (cJ (eC (.bool false))) dg) (aU (cc 2 (e1 uH (eC (.int 1)))) (aU (gW (iX (dt (ag 0)) (aG 3) (aU (kG (kU (dP (tE (e1 (cV .int) (ag 3)))) (kU (tE (e1 (cV .bool) (ag 3))) (dP (tE (gK (fE AI) (fE AI) (ag 2) (ag 3) (ag 1)))))) (cJ (eC (.bool false))) dg) (cc 2 (ag 3))))) (cJ (eC (.bool true))))))
noncomputable def cb:List PyData->R PyData:=eA 4 (gA)
noncomputable def fA (bC:List PyData->R PyData) (cb:List PyData->R PyData):Fs :=
  (aU (kG (kU (dP (tE (e1 (cV .tuple) (ag 0)))) (kU (tE (e2 (lL) (e1 eG (ag 0)) (eC (.int 4)))) (dP (tE (aN bC (ah (e2 bP (ag 0) (eC (.int 0))) (ah (eC (.int 0)) (ah (eC (.int 1)) az)))))))) (cJ (eC (.bool false))) dg) (aU (kG (kU (dP (tE (aN bC (ah (e2 bP (ag 0) (eC (.int 1))) (ah (eC (.int 0)) (ah (eC (.int 12)) az)))))) (dP (tE (aN bC (ah (e2 bP (ag 0) (eC (.int 2))) (ah (e1 uH (eC (.int 20))) (ah (eC (.int 20)) az))))))) (cJ (eC (.bool false))) dg) (cJ (qw (aN cb (ah (e2 bP (ag 0) (eC (.int 3))) (ah (ag 1) az))) (e2 (lL) (e2 bP (ag 0) (eC (.int 3))) (dL az))))))
noncomputable def bi:List PyData->R PyData:=eA 2 (fA bC cb)
noncomputable def eZ (bi:List PyData->R PyData):Fs :=
  (aU (kG (kU (dP (tE (e1 (cV .tuple) (ag 0)))) (dP (tE (gK (fE AI) (fE AI) (eC (.int 0)) (e1 eG (ag 0)) (eC (.int 25)))))) (cJ (eC (.bool false))) dg) (cJ (e2 (ka) (aY (dt (ag 0)) 1 [0] (aG 0) (dP (tE (aN bi (ah (ag 0) (ah (e1 eG (ag 1)) az))))) (ag 0)) (uL az))))
noncomputable def aQ:List PyData->R PyData:=eA 1 (eZ bi)
noncomputable def ij:Fs :=
  (aU (kG (jW (tE (e2 (ka) (e2 dQ (ag 1) (eC (.int 4))) (eC (.int 0)))) (tE (e2 (fE yr) (e1 eG (ag 0)) (eC (.int 12))))) (aU (cc 2 (e1 eG (ag 0))) (aU (cc 3 (aY (dt (ag 0)) 1 [2] (aG 0) (fun _=>.ok true) (e2 cY (uM (ag 0) gn (gp (eC (.int 3)))) (dL (ah (e1 cA (aY (dt (e2 bP (ag 0) (eC (.int 3)))) 1 [1] (aG 0) (fun _=>.ok true) (e2 cY (ag 0) (ag 1)))) az))))) (cJ (e2 cY (ag 0) (e1 cA (ag 3)))))) dg) (aU (kG (tE (e2 (ka) (e2 dQ (ag 1) (eC (.int 4))) (eC (.int 1)))) (cJ (e1 cA (aY (dt (ag 0)) 1 [1] (aG 0) (fun _=>.ok true) (dL (ah (e2 dQ (e2 j9 (ag 1) (eC (.int 4))) (eC (.int 2))) (ah (eC (.int 3)) (ah (e2 bP (ag 0) (eC (.int 2))) (ah (e2 bP (ag 0) (eC (.int 3))) az)))))))) dg) (cJ (ag 0))))
noncomputable def cu:List PyData->R PyData:=eA 4 (ij)
noncomputable def fW:Fs :=
  (cJ (e1 cA (aY (dt (ag 0)) 1 [0] (aG 0) (fun _=>.ok true) (jH (ag 1) (ag 0)))))
noncomputable def bh:List PyData->R PyData:=eA 1 (fW)
noncomputable def eF:Fs :=
  (cJ (e1 wE (aY (dt (e2 bP (ag 0) (eC (.int 3)))) 1 [1] (aG 0) (fun _=>.ok true) (e2 bP (ag 1) (ag 0)))))
noncomputable def au:List PyData->R PyData:=eA 2 (eF)
noncomputable def ja (bh:List PyData->R PyData) (au:List PyData->R PyData):Fs :=
  (aU (cc 1 (eC .none)) (aU (cc 2 (aN bh (ah (aY (dt (ag 0)) 1 [] (aG 0) (fun _=>.ok true) (dL (ah (e2 bP (ag 0) (eC (.int 0))) (ah (e2 bP (ag 0) (eC (.int 1))) az)))) az))) (aU (gW (pk 1000000 (tE (e2 (lL) (ag 2) (ag 1))) (aU (cc 1 (ag 2)) (cc 2 (aN bh (ah (aY (qC (ag 0)) 2 [1] (eB 0 1) (fun _=>.ok true) (dL (ah (e2 bP (ag 2) (ag 0)) (ah (aN au (ah (ag 1) (ah (ag 2) az))) az)))) az)))))) (cJ (ag 1)))))
noncomputable def aS:List PyData->R PyData:=eA 3 (ja bh au)
noncomputable def lm:Fs :=
  (cJ (qw (e1 (cV .int) (ag 0)) (yY (e1 (cV .bool) (ag 0)))))
noncomputable def c8:List PyData->R PyData:=eA 1 (lm)
noncomputable def gx (c8:List PyData->R PyData):Fs :=
  (cJ (qw (aN c8 (ah (ag 0) az)) (gK (fE yr) (fE yr) (ag 1) (ag 0) (ag 2))))
noncomputable def bJ:List PyData->R PyData:=eA 3 (gx c8)
noncomputable def i9 (bJ:List PyData->R PyData):Fs :=
  (aU (kG (dP (tE (e1 (cV .tuple) (ag 0)))) (cJ (eC (.bool false))) dg) (aU (cc 2 (eC (.int 0))) (aU (gW (iX (dt (ag 0)) (aG 3) (aU (kG (dP (tE (aN bJ (ah (ag 3) (ah (ag 2) (ah (e2 qr (ag 1) (eC (.int 1))) az)))))) (cJ (eC (.bool false))) dg) (cc 2 (e2 cY (ag 3) (eC (.int 1))))))) (cJ (eC (.bool true))))))
noncomputable def cz:List PyData->R PyData:=eA 4 (i9 bJ)
noncomputable def li:Fs :=
  (cJ (e1 cA (aY (dt (ag 0)) 1 [1] (aG 0) (tE (e2 (Au false) (ag 0) (ag 1))) (ag 0))))
noncomputable def bX:List PyData->R PyData:=eA 2 (li)
noncomputable def gv (bX:List PyData->R PyData):Fs :=
  (cJ (aY (dt (aN bX (ah (e2 bP (ag 0) (eC (.int 3))) (ah (ag 1) az)))) 1 [1] (aG 0) (fun _=>.ok true) (kW (ag 1) (ag 0))))
noncomputable def bB:List PyData->R PyData:=eA 2 (gv bX)
noncomputable def eY (bX:List PyData->R PyData):Fs :=
  (cJ (e1 oR (aY (dt (ag 1)) 1 [0,1] (aG 0) (fun _=>.ok true) (e2 (fE FH) (e1 eG (aN bX (ah (e2 bP (e2 bP (ag 1) (ag 0)) (eC (.int 3))) (ah (ag 2) az)))) (eC (.int 0))))))
noncomputable def bo:List PyData->R PyData:=eA 2 (eY bX)
noncomputable def gB:Fs :=
  (cJ (dL (ah (e2 bP (ag 0) (eC (.int 0))) (ah (e2 bP (ag 0) (eC (.int 1))) (ah (e2 bP (ag 0) (eC (.int 2))) (ah (e1 cA (ag 1)) az))))))
noncomputable def aH:List PyData->R PyData:=eA 2 (gB)
noncomputable def j4 (cz:List PyData->R PyData) (bB:List PyData->R PyData) (bo:List PyData->R PyData) (aH:List PyData->R PyData):Fs :=
  (aU (kG (kU (dP (tE (aN cz (ah (ag 1) (ah (e1 eG (ag 0)) az))))) (tE (e2 (ka) (e1 eG (ag 1)) (eC (.int 0))))) (pj (PySem.Str.ofString "NoPart") (eC (.str (PySem.Str.ofString "inside is not some places, one at least")))) dg) (aU (kG (dP (tE (aN bo (ah (ag 0) (ah (ag 1) az))))) (pj (PySem.Str.ofString "NoPart") (eC (.str (PySem.Str.ofString "inside is not whole")))) dg) (cJ (e1 cA (aY (dt (ag 1)) 1 [0,1] (aG 0) (fun _=>.ok true) (aN aH (ah (e2 bP (ag 1) (ag 0)) (ah (aN bB (ah (e2 bP (ag 1) (ag 0)) (ah (ag 2) az))) az))))))))
noncomputable def cW:List PyData->R PyData:=eA 2 (j4 cz bB bo aH)
noncomputable def lj (aS:List PyData->R PyData) (au:List PyData->R PyData) (cW:List PyData->R PyData) (aH:List PyData->R PyData):Fs :=
  (aU (cc 1 (aN aS (ah (ag 0) az))) (aU (cc 2 (e1 cA (aY (dt (ag 0)) 1 [1] (aG 0) (fun _=>.ok true) (aN aH (ah (ag 0) (ah (aN au (ah (ag 0) (ah (ag 1) az))) az)))))) (cJ (aN cW (ah (ag 2) (ah (e1 cA (e1 wE (ag 1))) az))))))
noncomputable def dD:List PyData->R PyData:=eA 3 (lj aS au cW aH)
noncomputable def vS (cq:List PyData->R PyData) (ca:List PyData->R PyData) (aQ:List PyData->R PyData) (aO:List PyData->R PyData) (cu:List PyData->R PyData) (dD:List PyData->R PyData) (aS:List PyData->R PyData):Fs :=
  (aU (cc 1 (aN cu (ah (aN ca (ah (ag 0) (ah (eC (.int 10)) az))) (ah (aN aO (ah (ag 0) (ah (eC (.int 1)) az))) az)))) (aU (cc 2 (aN cq (ah (ag 1) az))) (aU (cc 3 (e1 eG (ag 1))) (aU (gY 4 (uL az)) (aU (gW (iX (ff (ah (ag 3) az)) (aG 5) (fT 4 (e1 qq (aY (ff (ah (ag 3) az)) 1 [5,2] (aG 0) (tE (e2 (jE false) (dL (ah (ag 1) (ah (ag 0) az))) (ag 2))) (ag 0)))))) (aU (cc 6 (aN aS (ah (ag 1) az))) (aU (kG (kU (tE (e2 (lL) (ag 6) (e1 cA (c4 4)))) (tE (e2 (lL) (aN aS (ah (ag 1) az)) (ag 6)))) (cJ (eC (.bool false))) dg) (aU (cc 7 (e1 wE (c4 4))) (aU (gY 8 (uL az)) (aU (gW (iX (dt (ag 7)) (aG 9) (aU (cc 10 (e1 wE (aY (dt (e2 bP (e2 bP (ag 1) (ag 9)) (eC (.int 3)))) 1 [7,4] (aG 0) (fun _=>.ok true) (lO (ag 1) (e2 bP (c4 2) (ag 0)))))) (fT 8 (e2 cY (uM (e2 bP (ag 1) (ag 9)) gn (gp (eC (.int 3)))) (dL (ah (e1 cA (ag 10)) az))))))) (cJ (qw (e2 (ka) (aN dD (ah (ag 1) az)) (e1 cA (c4 8))) (aN aQ (ah (aN dD (ah (ag 1) az)) az))))))))))))))
noncomputable def pP:List PyData->R PyData:=eA 11 (vS cq ca aQ aO cu dD aS)
end G
end
namespace G
open PySem PySem.Spec PyProof.Rows L2 D2
theorem yO (ns:List Int) {k:Int} (hk:0<=k):∃ v,bK [re ns,.int k]=.ok (.int v):=by
  unfold bK fX;by_cases h:k < ns.length
  · refine ⟨ns[k.toNat]'(by omega),?_⟩;have hx:=wC (xs:=ns.map PyData.int) (i:=k) hk (by simpa using h);rw [dC];simp [h,hx]
  · refine ⟨0,?_⟩;rw [dC];simp [h]
theorem l5 (ns:List Int) {k:Int} (hk:0<=k):∃ v,aO [re ns,.int k]=.ok (.int v)/\0<=v/\v < 2147483629:=by
  obtain ⟨c,hc⟩:=yO ns hk;unfold aO ie;have m1:fj (.int 7919) (.int k)=.ok (.int (7919*k)):=gJ (.inl (by omega));have m2:fj (.int (c+7919*k+1)) (.int 48271)=.ok (.int ((c+7919*k+1)*48271)):=gJ (.inr (by omega));generalize hd:(c+7919*k+1)*48271%2147483647=d;have hd0:0<=d:=by omega
  have hd1:d < 2147483647:=by omega
  have m3:fj (.int d) (.int d)=.ok (.int (d*d)):=gJ (.inl (by omega));have m4:fj (.int 7) (.int d)=.ok (.int (7*d)):=gJ (.inl (by omega));refine ⟨(d*d+7*d+k)%2147483629,?_,by omega,by omega⟩;rw [dC];simp [hc,m1,m2,hd,m3,m4,List.replicate]
theorem qu (n k:Int):∃ v,aR [.int n,.int k]=.ok (.int v)/\0<=v/\v < 2147483629:=by
  unfold aR ib;have m1:fj (.int 104729) (.int k)=.ok (.int (104729*k)):=gJ (.inl (by omega));have m2:fj (.int (n+104729*k+17)) (.int 69621)=.ok (.int ((n+104729*k+17)*69621)):=gJ (.inr (by omega));generalize hd:(n+104729*k+17)*69621%2147483647=d;have hd0:0<=d:=by omega
  have hd1:d < 2147483647:=by omega
  have m3:fj (.int d) (.int d)=.ok (.int (d*d)):=gJ (.inl (by omega));have m4:fj (.int 3) (.int d)=.ok (.int (3*d)):=gJ (.inl (by omega));refine ⟨(d*d+3*d+k)%2147483629,?_,by omega,by omega⟩;rw [dC];simp [m1,m2,hd,m3,m4,List.replicate]
theorem wS {kvs:List (PyData×PyData)} {ns:List Int} (e:kvs.map (·.1)=ns.map PyData.int):fg kvs=false:=by
  cases kvs with
  | nil=>rfl
  | cons kd kvs =>
    obtain ⟨k,d⟩:=kd;cases ns with
    | nil=>simp at e
    | cons n ns =>
      simp at e;rw [e.1];rfl
theorem lU (n c:Int) (hc:1<=c):∀ (ds:List PyData) (m:Nat) (kvs:List (PyData×PyData)) (x:bq),rD c m kvs->(∀ d∈ds,∃ k,d=.int k)->m+ds.length<=1000 ->
    ∃ kvs' x',rD c (m+ds.length) kvs'/\e8 (aG 3) (Aa 2 (e2 dQ (aN aR (ah (ag 0) (ah (ag 3) az))) (ag 1)) (eC (.bool true))) ds [.val (.int n),.val (.int c),.own (.dict kvs),x]
      = .ok (.nx [.val (.int n),.val (.int c),.own (.dict kvs'),x'])
  | [],m,kvs,x,hk,_,_=>⟨kvs,x,hk,by rw [eS]⟩
  | d::ds,m,kvs,x,hk,hi,hl=>by
    obtain ⟨k,rfl⟩:=hi d List.mem_cons_self;obtain ⟨v,hv,v0,v1⟩:=qu n k;have hk':=hk.put (k:=v%c) (Int.emod_nonneg _ (by omega)) (Int.emod_lt_of_pos _ (by omega)) (.bool true);obtain ⟨kvs',x',h1,h2⟩:=lU n c hc ds (m+1) _ (.val (.int k)) hk' (fun d hd=>hi d (List.mem_cons_of_mem _ hd)) (by simp at hl;omega);refine ⟨kvs',x',by rw [List.length_cons];simpa [Nat.add_comm,Nat.add_left_comm,Nat.add_assoc] using h1,?_⟩;have hlen:=hk.len;have hsz:kvs.length < sizeLine:=Nat.lt_of_le_of_lt (show kvs.length<=1000 by simp at hl;omega) (by decide);have hc':0 < c:=by omega
    rw [dq,<- h2];obtain ⟨ns0,e0,_⟩:=hk.ex;have hni:fg kvs=false:=wS e0;simp [Aa,hv,hc',eE,hsz,hni]
theorem vg {n c:Int} (hn:0<=n) (hc:1<=c):∃ ns:List Int,cr [.int n,.int c]=.ok (.tuple (ns.map .int))/\(∀ x∈ns,0<=x/\x < c)/\ns≠[]/\ns.Pairwise (· < ·):=by
  unfold cr ic;have m1:∀ k:Int,fj (.int 20) (.int k)=.ok (.int (20*k)):=fun k=>gJ (.inl (by omega))
  generalize hN:(1+n%3+20*(if n / 3%29=7 then 1 else 0):Int)=N;have hN0:1<=N:=by split at hN <;> omega
  have hN1:N<=23:=by split at hN <;> omega
  obtain ⟨kvs,x,hk,hf⟩:=lU n c hc (ci 0 N.toNat) 0 [] .non ⟨[],rfl,by simp,by simp,.inl rfl,by simp⟩ (qW _ _) (by rw [gT];omega);obtain ⟨ns,e,hb,hl,hz,nd⟩:=hk.ex;rw [gT] at hl hz;have hi:bz (kvs.map (·.1))=some ns:=by rw [e,bR]
  have hs:jF (.dict kvs)=.ok (.list ((c6 ns).map PyData.int)):=by
    show (match bz (kvs.map (·.1)) with | some ns=>if ns.length < 64 then R.ok (PyData.list ((c6 ns).map PyData.int)) else .no | none=>.no)=_;rw [hi];exact if_pos (by omega)
  have hr:-(2 ^ 62)<=N/\N < 2 ^ 62:=by omega
  refine ⟨c6 ns,?_,fun x hx=>hb x ((dh ns).mem_iff.mp hx),?_,n6 (fw ns) ((dh ns).nodup_iff.mpr nd)⟩
  · rw [dC];have hg:qZ [.int N]=.ok (ci 0 N.toNat):=by
      show (if -(2 ^ 62)<=N/\N < 2 ^ 62 then R.ok (ci 0 N.toNat) else .no)=_;rw [if_pos hr]
    simp [fU,kx,m1,List.replicate,hN,hg,hf,hs]
  · intro z;have:=(dh ns).length_eq;rw [z] at this;rcases hz with q | q
    · omega
    · exact q (List.eq_nil_of_length_eq_zero this.symm)
theorem vk {n c h:Int} (hn:0<=n) (hc:1<=c) (h0:0<=h):∃ p:P4,cf [.int n,.int c,.int h]=.ok p.d/\Pl c h p:=by
  obtain ⟨v,hv,v0,v1⟩:=qu n 9;obtain ⟨ns,hg,hb,hne,hso⟩:=vg (n:=v) (c:=c) v0 hc;unfold cf ig;have hh:0 < h+1:=by omega
  have s4:4<=sizeLine:=by decide
  have a1:=Int.emod_nonneg (n / 2) (show h+1≠0 by omega);have a2:=Int.emod_lt_of_pos (n / 2) hh;by_cases hq:n / 234%11=3
  · refine ⟨⟨n%2,n / 2%(h+1),n / 26%41-20,ns⟩,?_,⟨by dsimp only;omega,by dsimp only;omega,a1,by dsimp only;omega,by dsimp only;omega,by dsimp only;omega,hne,hso,hb⟩⟩;rw [dC];simp [hh,kx,hq,hv,hg,s4,P4.d]
  · refine ⟨⟨n%2,n / 2%(h+1),n / 26%9-4,ns⟩,?_,⟨by dsimp only;omega,by dsimp only;omega,a1,by dsimp only;omega,by dsimp only;omega,by dsimp only;omega,hne,hso,hb⟩⟩;rw [dC];simp [hh,kx,hq,hv,hg,s4,P4.d]
theorem qo (f:Fe) (ρ:ay) (i:Nat) (P:P4->Prop):∀ ds:List PyData,(∀ d∈ds,∃ p:P4,f (ρ.set i (.val d))=.ok p.d/\P p)->∃ ps:List P4,bA (aG i) (fun _=>.ok true) f ρ ds=.ok (ps.map P4.d)/\ps.length=ds.length/\∀ p∈ps,P p
  | [],_=>⟨[],cH ..,rfl,by simp⟩
  | d::ds,h=>by
    obtain ⟨x,h1,h2⟩:=h d List.mem_cons_self;obtain ⟨xs,h3,h4,h5⟩:=qo f ρ i P ds fun d hd=>h d (List.mem_cons_of_mem _ hd)
    refine ⟨x::xs,?_,by simp [h4],fun y hy=>?_⟩
    · rw [cM,h1,h3];rfl
    · rcases List.mem_cons.mp hy with rfl | hy
      · exact h2
      · exact h5 y hy
theorem ss (ns:List Int) {most:Int} (hm0:1<=most) (hm1:most<=24):∃ (ps:List P4) (hi:Int),ca [re ns,.int most]=.ok (gD ps)/\(∀ p∈ps,Pl ps.length hi p)/\1<=ps.length/\(ps.length:Int)<=most/\0<=hi/\hi<=12:=by
  obtain ⟨v,hv,v0,v1⟩:=l5 ns (k:=0) (by omega);unfold ca gy;generalize hm:(if (if (ns.length:Int) > 4 then (ns.length:Int) else 4) < most then (if (ns.length:Int) > 4 then (ns.length:Int) else 4) else most)=m;have m0:0 < m:=by split at hm <;> split at hm <;> omega
  have m1:m<=most:=by split at hm <;> split at hm <;> omega
  generalize hc:1+v%m=c;have c0:1<=c:=by have:=Int.emod_nonneg v (show m≠0 by omega);omega
  have c1:c<=most:=by have:=Int.emod_lt_of_pos v m0;omega
  have hix:∃ h,bP (.list [.int 1,.int 2,.int 3,.int 5,.int 12,.int 12]) (.int (v / 24%6))=.ok (.int h)/\0<=h/\h<=12:=by
    obtain ⟨x,hx,e⟩:=yS (xs:=[.int 1,.int 2,.int 3,.int 5,.int 12,.int 12]) (i:=v / 24%6) (by omega) (by simp;omega);rw [e];simp at hx;rcases hx with rfl | rfl | rfl | rfl | rfl <;> exact ⟨_,rfl,by decide,by decide⟩
  obtain ⟨h,hh,h0,h1⟩:=hix;have s6:6<=sizeLine:=by decide
  have hr:qZ [.int c]=.ok (ci 0 c.toNat):=by
    show (if -(2 ^ 62)<=c/\c < 2 ^ 62 then R.ok (ci 0 c.toNat) else .no)=_;rw [if_pos (by omega)]
  obtain ⟨xs,e1,e2,e3⟩:=qo (aN cf (ah (aN aO (ah (ag 1) (ah (e2 cY (eC (.int 3)) (ag 0)) az))) (ah (ag 2) (ah (ag 3) az)))) (ao 1 [0,3,4] [.val (re ns),.val (.int most),.val (.int v),.val (.int c),.val (.int h)]) 0 (Pl c h) (ci 0 c.toNat) fun d hd=>by
    unfold ci at hd;obtain ⟨k,_,rfl⟩:=List.mem_map.mp hd;obtain ⟨w,hw,w0,w1⟩:=l5 ns (k:=3+(0+(k:Int))) (by omega);obtain ⟨d,hd1,hd2⟩:=vk (n:=w) (c:=c) (h:=h) w0 c0 h0;refine ⟨d,?_,hd2⟩;simp at hw;simp [ao,List.replicate,hw,hd1]
  rw [gT] at e2;have ec:(xs.length:Int)=c:=by omega
  refine ⟨xs,h,?_,by rw [ec];exact e3,by omega,by omega,h0,h1⟩;rw [dC];simp [hv,hm,m0,hc,s6,hh,List.replicate,bE,hr,gT,ce (show c.toNat<=1000 by omega),e1]
noncomputable def jk (ns:List Int) (i:Int):Bool:=ns.any fun j=>decide (j=i)
theorem fG {ns:List Int} {i:Int}:jk ns i=true<->i∈ns:=by
  unfold jk;rw [List.any_eq_true];constructor
  · rintro ⟨j,hj,e⟩;have:=of_decide_eq_true e;exact this ▸ hj
  · exact fun h=>⟨i,h,decide_eq_true rfl⟩
theorem fQ:∀ ns:List Int,PyData.depthAll (ns.map .int)=0
  | []=>by simp [PyData.depthAll]
  | n::ns=>by simp [PyData.depthAll,PyData.depth,fQ ns]
theorem gO (ns:List Int):PyData.canLayAll0 (ns.map .int)=true:=ip fun x hx=>by
  obtain ⟨i,_,rfl⟩:=List.mem_map.mp hx;exact fF i
theorem nH (ns:List Int) (i:Int):jg (ns.map .int) (.int i)=true:=by
  unfold jg;rw [gO,fQ];simp [PyData.canLay0]
theorem qg (ns:List Int) (i:Int):((ns.map PyData.int).any fun y=>PyData.eqv y (.int i))=jk ns i:=by
  rw [List.any_map];congr 1
theorem Fz (ns:List Int) (i:Int) (neg:Bool):Au neg (.int i) (.tuple (ns.map .int))=.ok (.bool (if neg then !jk ns i else jk ns i)):=by
  show (if jg (ns.map .int) (.int i)=true then R.ok (PyData.bool _) else .no)=_;rw [if_pos (nH ns i),qg]
theorem Fy (ns:List Int) (i:Int) (neg:Bool):Au neg (.int i) (.list (ns.map .int))=.ok (.bool (if neg then !jk ns i else jk ns i)):=by
  show (if jg (ns.map .int) (.int i)=true then R.ok (PyData.bool _) else .no)=_;rw [if_pos (nH ns i),qg]
theorem jL:∀ ns ms:List Int,PyData.eqvAll (ns.map .int) (ms.map .int)=decide (ns=ms)
  | [],[]=>by simp [PyData.eqvAll]
  | [],_::_=>by simp [PyData.eqvAll]
  | _::_,[]=>by simp [PyData.eqvAll]
  | n::ns,m::ms=>by
    simp only [List.map_cons,PyData.eqvAll,jL ns ms,oV];by_cases h:n=m <;> by_cases h2:ns=ms <;> simp [h,h2]
theorem tJ (ns ms:List Int):jK (.tuple (ns.map .int)) (.tuple (ms.map .int))=true:=by
  unfold jK;simp [PyData.canLay0,gO,PyData.depth,fQ]
theorem AH (ns ms:List Int):lL (.tuple (ns.map .int)) (.tuple (ms.map .int))=.ok (.bool (!decide (ns=ms))):=by
  unfold lL;rw [if_pos (tJ ns ms)];simp only [PyData.eqv,jL]
theorem iu {t:ay->R Bool} {ρ:ay} {p:Int->Bool}:∀ ns:List Int,(∀ x∈ns,t ((bq.non::ρ).set 0 (.val (.int x)))=.ok (p x))->bA (aG 0) t (ag 0) (.non::ρ) (ns.map .int)=.ok ((ns.filter p).map .int)
  | [],_=>cH ..
  | x::ns,h=>by
    rw [List.map_cons,cM,h x List.mem_cons_self,iu ns fun y hy=>h y (List.mem_cons_of_mem _ hy)];cases hp:p x with
    | true=>rw [List.filter_cons_of_pos hp];rfl
    | false=>rw [List.filter_cons_of_neg (by rw [hp];simp)];rfl
theorem sK (c:Nat):ci 0 c=((List.range c).map fun (k:Nat)=>(k:Int)).map .int:=by
  unfold ci;rw [List.map_map];apply List.map_congr_left;intro k _;simp
noncomputable def av (ps:List P4) (i:Int):List Int:=(ps[i.toNat]?.map (·.ns)).getD []
theorem AC {ps:List P4} {i:Int} (h0:0<=i) (h1:i < ps.length):bP (gD ps) (.int i)=.ok (ps[i.toNat]'(by omega)).d:=by
  rw [Av h0 (by simpa using h1)];simp
theorem r9 {ps:List P4} {i:Int} (h0:0<=i) (h1:i < ps.length):av ps i=(ps[i.toNat]'(by omega)).ns:=by
  unfold av;rw [List.getElem?_eq_getElem (by omega)];rfl
theorem kj (p:P4):bP p.d (.int 3)=.ok (.tuple (p.ns.map .int)):=rfl
theorem xo (p:P4):bP p.d (.int 0)=.ok (.int p.w):=rfl
noncomputable def dw (ps:List P4) (i:Int):Int:=(ps[i.toNat]?.map (·.w)).getD 0
noncomputable def kI (ps:List P4) (js:List Int) (i:Int):List Int:=(av ps i).filter (jk js)
theorem nT:∀ {l m:List Int},l.Nodup->(∀ x∈l,x∈m)->l.length<=m.length
  | [],m,_,_=>Nat.zero_le _
  | x::l,m,nd,h=>by
    obtain ⟨n1,n2⟩:=List.nodup_cons.mp nd;have hx:=h x List.mem_cons_self;have:=nT (m:=m.erase x) n2 fun y hy=>(List.mem_erase_of_ne (by rintro rfl;exact n1 hy)).mpr (h y (List.mem_cons_of_mem _ hy))
    rw [List.length_erase_of_mem hx] at this;have hp:=List.length_pos_of_mem hx;rw [List.length_cons];omega
structure vR (js:List Int) (kvs:List (Int×Int)):Prop where
  nd:(kvs.map (·.1)).Nodup
  sub:∀ x∈kvs.map (·.1),x∈js
theorem vR.len {js:List Int} {kvs:List (Int×Int)} (h:vR js kvs) (nj:js.Nodup):kvs.length<=js.length:=by
  have:=nT h.nd h.sub;simpa using this
noncomputable def look (kvs:List (Int×Int)) (i:Int):Option Int:=(kvs.find? fun q=>decide (q.1=i)).map (·.2)
noncomputable abbrev bf (n:Nat):List Int:=(List.range n).map fun (k:Nat)=>(k:Int)
theorem aX {n:Nat} {i:Int}:i∈bf n<->0<=i/\i < n:=by
  constructor
  · intro h;obtain ⟨k,hk,rfl⟩:=List.mem_map.mp h;have:=List.mem_range.mp hk;omega
  · rintro ⟨h0,h1⟩;exact List.mem_map.mpr ⟨i.toNat,List.mem_range.mpr (by omega),by omega⟩
theorem c5 (n:Nat):(bf n).length=n:=by simp
theorem tM {n k:Nat} (h:k < n):(bf n)[k]?=some (k:Int):=by
  rw [List.getElem?_map,List.getElem?_range h];rfl
theorem oZ (n:Nat):(bf n).Pairwise (· < ·):=by
  rw [List.pairwise_map];exact (List.pairwise_lt_range).imp fun h=>by omega
theorem fH {l:List Int} (h:l.Pairwise (· < ·)):l.Nodup:=h.imp fun h=>by omega
noncomputable def tab (f:Int->PyData) (n:Nat):List PyData:=(bf n).map f
theorem fV (f:Int->PyData) (n:Nat):(tab f n).length=n:=by unfold tab;rw [List.length_map,c5]
theorem pC {f:Int->PyData} {n:Nat} {i:Int} (h0:0<=i) (h1:i < n):(tab f n)[i.toNat]'(by rw [fV];omega)=f i:=by
  have h:=tM (n:=n) (k:=i.toNat) (by omega);have:(tab f n)[i.toNat]?=some (f i):=by
    unfold tab;rw [List.getElem?_map,h,Option.map_some];congr 2;omega
  exact Option.some.inj ((List.getElem?_eq_getElem _).symm.trans this)
theorem AS {f:Int->PyData} {n:Nat} {i:Int} (h0:0<=i) (h1:i < n):bP (.tuple (tab f n)) (.int i)=.ok (f i):=by
  rw [Av h0 (by rw [fV];exact h1),pC h0 h1]
theorem Ek {f:Int->PyData} {n:Nat} {i:Int} (h0:0<=i) (h1:i < n):bP (.list (tab f n)) (.int i)=.ok (f i):=by
  rw [wC h0 (by rw [fV];exact h1),pC h0 h1]
noncomputable def oD:Option Int->PyData
  | none=>.none
  | some k=>.int k
noncomputable def se (k m:Nat):List Int:=(List.range m).map fun (j:Nat)=>((k+j:Nat):Int)
theorem qD (k m:Nat):se k (m+1)=(k:Int)::se (k+1) m:=by
  unfold se;rw [List.range_succ_eq_map,List.map_cons,List.map_map];congr 1;apply List.map_congr_left;intro j _;show ((k+(j+1):Nat):Int)=((k+1+j:Nat):Int)
  omega
theorem zg (n:Nat):se 0 n=bf n:=by
  unfold se;apply List.map_congr_left;intro j _;simp
theorem qy {t:ay->R Bool} {ρ:ay} {p:Int->Bool} {g:Int->PyData}:∀ (m k:Nat),(∀ j:Nat,k<=j->j < k+m->t (.val (.int j)::.val (g j)::ρ)=.ok (p j)) ->
    bA (eB 0 1) t (ag 0) (.non::.non::ρ) (eD k ((se k m).map g))=.ok (((se k m).filter p).map .int)
  | 0,k,_=>by unfold se;simp [eD,cH]
  | m+1,k,h=>by
    rw [qD,List.map_cons];have e:eD k (g k::(se (k+1) m).map g)=.tuple [.int k,g k]::eD (k+1) ((se (k+1) m).map g):=rfl;rw [e,lJ,qy m (k+1) fun j h1 h2=>h j (by omega) (by omega)];have hk:=h k (Nat.le_refl _) (by omega);simp only [List.set_cons_zero,List.set_cons_succ,hk,R.ok_bind,ax];cases hp:p k with
    | true=>rw [List.filter_cons_of_pos hp];rfl
    | false=>rw [List.filter_cons_of_neg (by rw [hp];simp)];rfl
theorem qz {fe:Fe} {ρ:ay} {g h:Int->PyData}:∀ (m k:Nat),(∀ j:Nat,k<=j->j < k+m->fe (.val (.int j)::.val (g j)::ρ)=.ok (h j)) ->
    bA (eB 0 1) (fun _=>.ok true) fe (.non::.non::ρ) (eD k ((se k m).map g))=.ok ((se k m).map h)
  | 0,k,_=>by unfold se;simp [eD,cH]
  | m+1,k,hh=>by
    rw [qD,List.map_cons];have e:eD k (g k::(se (k+1) m).map g)=.tuple [.int k,g k]::eD (k+1) ((se (k+1) m).map g):=rfl;rw [e,lJ,qz m (k+1) fun j h1 h2=>hh j (by omega) (by omega)];have hk:=hh k (Nat.le_refl _) (by omega);simp only [R.ok_bind,if_true,List.set_cons_zero,List.set_cons_succ,hk];rfl
theorem iG (t:ay->R Bool) (g:Fs) (n:Nat) (ρ:ay):cZ t g (n+1) ρ=(t ρ>>=fun b=>if b=true then g ρ>>=mx (cZ t g n) else .ok (.nx ρ)):=by
  rw [cZ];congr 1
noncomputable def yE (s:PyData) (js:List Int):Prop:=s=.tuple (js.map .int)\/s=.list (js.map .int)
theorem yE.inn {s:PyData} {js:List Int} (h:yE s js) (neg:Bool) (k:Int):Au neg (.int k) s=.ok (.bool (if neg then !jk js k else jk js k)):=by
  rcases h with rfl | rfl
  · exact Fz ..
  · exact Fy ..
theorem yE.seq {s:PyData} {js:List Int} (h:yE s js):jr s=.ok (js.map .int):=by
  rcases h with rfl | rfl <;> rfl
theorem yE.len {s:PyData} {js:List Int} (h:yE s js):eG s=.ok (.int js.length):=by
  rcases h with rfl | rfl <;> simp
structure j5 (n:Nat) (js:List Int):Prop where
  lt:js.Pairwise (· < ·)
  inn:∀ x∈js,0<=x/\x < n
theorem j5.nd {n:Nat} {js:List Int} (h:j5 n js):js.Nodup:=fH h.lt
theorem j5.len {n:Nat} {js:List Int} (h:j5 n js):js.length<=n:=by
  have:=jo js 0 n h.lt h.inn;rcases this with z | z
  · rw [z];simp
  · omega
theorem j5.filter {n:Nat} {js:List Int} (h:j5 n js) (p:Int->Bool):j5 n (js.filter p):=⟨h.lt.filter _,fun x hx=>h.inn x (List.mem_filter.mp hx).1⟩
noncomputable def CK (ps:List P4) (js:List Int):Prop:=∀ i∈js,∃ g,g∈kI ps js i
noncomputable abbrev oT (f:Int->Option Int) (n:Nat):PyData:=.tuple (tab (fun i=>oD (f i)) n)
noncomputable def eJ (ps:List P4) (i:Int):Int:=(ps[i.toNat]?.map (·.m)).getD 0
theorem xp (p:P4):bP p.d (.int 1)=.ok (.int p.m):=rfl
theorem nz {s t:PyData} {ns js:List Int} (hs:yE s ns) (ht:yE t js) (hl:ns.length<=1000):bX [s,t]=.ok (.tuple ((ns.filter (jk js)).map .int)):=by
  have hcmp:=iu (t:=tE (e2 (Au false) (ag 0) (ag 1))) (ρ:=[.val t]) (p:=jk js) ns fun k hk=>by simp [ht.inn]
  unfold bX li;refine gj ?_;rw [show ([s,t].map bq.val++List.replicate (2 - [s,t].length) bq.non)=[.val s,.val t] from rfl];rw [ej,cv,bE,show ao 1 [1] [.val s,.val t]=[.non,.val t] from rfl];simp -implicitDefEqProofs only [cE,ax,R.ok_bind,hs.seq,cB];rw [if_pos (by rw [List.length_map];exact ce hl),hcmp];rfl
theorem rp {d:PyData} (h:noD d):c8 [d]=.ok (.bool (FB d)):=by
  cases d <;> first | rfl | cases h
theorem lH {d:PyData} (h:noD d) (lo hi:Int):bJ [d,.int lo,.int hi]=.ok (.bool (mF d lo hi)):=by
  unfold bJ gx;rw [dC];cases d with
  | int i =>
    by_cases h1:lo<=i <;> by_cases h2:i<=hi <;> simp [rp h,FB,h1,h2,mF]
  | dict k=>cases h
  | _=>simp [rp h,FB,mF]
theorem n4 (t:PyData) (c:Int):∀ (ds:List PyData) (l:Int) (x:bq),(∀ d∈ds,noD d) ->
    ∃ ρ,e8 (aG 3) (aU (kG (dP (tE (aN bJ (ah (ag 3) (ah (ag 2) (ah (e2 qr (ag 1) (eC (.int 1))) az)))))) (cJ (eC (.bool false))) dg) (cc 2 (e2 cY (ag 3) (eC (.int 1))))) ds
      [.val t,.val (.int c),.val (.int l),x]=if dF c l ds=true then .ok (.nx ρ) else .ok (.rt (.bool false))
  | [],l,x,_=>⟨_,by rw [eS];rfl⟩
  | d::ds,l,x,h=>by
    have hd:=h d List.mem_cons_self;cases hb:mF d l (c-1) with
    | false =>
      refine ⟨[],?_⟩;have hr:dF c l (d::ds)=false:=by
        cases d with
        | int i =>
          simp only [mF] at hb;simp only [dF];rcases (Bool.and_eq_false_iff.mp hb) with z | z
          · rw [z];rfl
          · have:decide (i < c)=false:=by simp at z ⊢;omega
            rw [this];simp
        | _=>rfl
      rw [dq,hr];simp [lH hd,hb]
    | true =>
      cases d with
      | int i =>
        simp only [mF,Bool.and_eq_true,decide_eq_true_eq] at hb;obtain ⟨ρ,e⟩:=n4 t c ds (i+1) (.val (.int i)) fun d hd=>h d (List.mem_cons_of_mem _ hd)
        refine ⟨ρ,?_⟩;have hr:dF c l (.int i::ds)=dF c (i+1) ds:=by
          simp only [dF];rw [decide_eq_true hb.1,decide_eq_true (show i < c by omega)];simp
        have hb':mF (.int i) l (c-1)=true:=by simp [mF];omega
        rw [dq,hr,<- e];simp [lH hd,hb']
      | _=>cases hb
theorem ku {d:PyData} (c:Int) (h:∀ ds,d=.tuple ds->∀ x∈ds,noD x) (hd:noD d):cz [d,.int c]=.ok (.bool (xX c d)):=by
  unfold cz i9;rw [dC];cases d with
  | tuple ds =>
    obtain ⟨ρ,e⟩:=n4 (.tuple ds) c ds 0 .non (h ds rfl);simp [cV,kX,fU,List.replicate];rw [e];cases dF c 0 ds <;> simp
  | dict k=>cases hd
  | _=>simp [cV,kX,List.replicate]
theorem j5.some {n:Nat} {js:List Int} (h:j5 n js):cz [.tuple (js.map .int),.int n]=.ok (.bool true):=by
  rw [ku (d:=.tuple (js.map .int)) n (fun ds e x hx=>by
    cases e;obtain ⟨i,_,rfl⟩:=List.mem_map.mp hx;exact True.intro) True.intro]
  show R.ok (PyData.bool (dF n 0 (js.map .int)))=_;rw [k9 n js 0 h.lt fun x hx=>h.inn x hx]
theorem qe {f:Fe} {ρ:ay} {p:Int->Bool}:∀ ns:List Int,(∀ x∈ns,f ((bq.non::ρ).set 0 (.val (.int x)))=.ok (.bool (p x)))->bA (aG 0) (fun _=>.ok true) f (.non::ρ) (ns.map .int)=.ok (ns.map fun i=>.bool (p i))
  | [],_=>cH ..
  | x::ns,h=>by
    rw [List.map_cons,cM,h x List.mem_cons_self,qe ns fun y hy=>h y (List.mem_cons_of_mem _ hy)];rfl
theorem ng (p:Int->Bool):∀ ns:List Int,D2.lD (ns.map fun i=>.bool (p i))=some (ns.all p)
  | []=>rfl
  | a::l=>by simp only [List.map_cons,D2.lD,ng p l,List.all_cons,Option.map_some]
theorem mV {ps:List P4} (hl:∀ p∈ps,p.ns.length<=100) {s:PyData} {js:List Int} (hs:yE s js) (hj:∀ x∈js,0<=x/\x < ps.length) (hlen:js.length<=1000) :
    bo [gD ps,s]=.ok (.bool (js.all fun i=>decide (0 < (kI ps js i).length))):=by
  have hcmp:=qe (f:=e2 (fE FH) (e1 eG (aN bX (ah (e2 bP (e2 bP (ag 1) (ag 0)) (eC (.int 3))) (ah (ag 2) az)))) (eC (.int 0))) (ρ:=[.val (gD ps),.val s]) (p:=fun i=>decide (0 < (kI ps js i).length)) js fun k hk=>by
    have h:=hj k hk;have hg:=r9 h.1 h.2;have hc:=nz (s:=.tuple ((av ps k).map .int)) (ns:=av ps k) (.inl rfl) hs (by rw [hg];have:=hl _ (List.getElem_mem (show k.toNat < ps.length by omega));omega);simp only [List.set_cons_zero,bZ,cv,bQ,aL,aV,ax,aD,dO,R.ok_bind,AC h.1 h.2,kj];rw [<- hg,hc,R.ok_bind,rV,R.ok_bind,wA,List.length_map];unfold kI;congr 2;simp
  unfold bo eY;refine gj ?_;rw [show ([gD ps,s].map bq.val++List.replicate (2 - [gD ps,s].length) bq.non)=[.val (gD ps),.val s] from rfl];rw [ej,cv,bE,show ao 1 [0,1] [.val (gD ps),.val s]=[.non,.val (gD ps),.val s] from rfl];simp -implicitDefEqProofs only [cE,ax,aD,R.ok_bind,hs.seq,cB];rw [if_pos (by rw [List.length_map];exact ce hlen),hcmp,dH,R.ok_bind];unfold oR;simp only [ng];rfl
theorem vL {ps:List P4} {js:List Int} (h:CK ps js):(js.all fun i=>decide (0 < (kI ps js i).length))=true:=by
  rw [List.all_eq_true];intro i hi;obtain ⟨g,hg⟩:=h i hi;exact decide_eq_true (List.length_pos_of_mem hg)
theorem wB {d:PyData} (hg:c9 d) (hd:d.depth<=60):ka d d=.ok (.bool true):=by
  unfold ka;rw [if_pos (by unfold jK;rw [hg];simp;exact hd),PySem.SeqAt.eqv_refl d hg]
noncomputable def uf:List PyData->Prop:=fun ds=>∀ x∈ds,c9 x/\x.depth=0
theorem uf.dep:∀ {ds:List PyData},uf ds->PyData.depthAll ds=0
  | [],_=>by simp [PyData.depthAll]
  | d::ds,h=>by simp [PyData.depthAll,(h d List.mem_cons_self).2,uf.dep fun x hx=>h x (List.mem_cons_of_mem _ hx)]
theorem uf.good {ds:List PyData} (h:uf ds):c9 (.tuple ds):=cO.mpr fun x hx=>(h x hx).1
theorem zv (o:Option Int):c9 (oD o)/\(oD o).depth=0:=by
  cases o
  · exact ⟨uZ,by simp [oD,PyData.depth]⟩
  · exact ⟨fF _,by simp [oD,PyData.depth]⟩
theorem kb (ns:List Int):uf (ns.map .int):=fun x hx=>by
  obtain ⟨i,_,rfl⟩:=List.mem_map.mp hx;exact zv (some i)
theorem pA (ns:List Int):c9 (.tuple (ns.map .int)):=(kb ns).good
theorem mh:∀ {l m:List Int},l.Nodup->m.Nodup->(∀ x,x∈l<->x∈m)->l.Perm m
  | [],m,_,_,h=>by
    cases m with
    | nil=>exact .nil
    | cons y m=>exact absurd ((h y).mpr List.mem_cons_self) (by simp)
  | x::l,m,n1,n2,h=>by
    obtain ⟨a,b⟩:=List.nodup_cons.mp n1;have hx:=(h x).mp List.mem_cons_self;have p:=List.perm_cons_erase hx;refine List.Perm.trans (List.Perm.cons x (mh b (n2.erase x) fun y=>?_)) p.symm;by_cases e:y=x
    · subst e;exact ⟨fun z=>(a z).elim,fun z=>(by rw [List.Nodup.mem_erase_iff n2] at z;exact (z.1 rfl).elim)⟩
    · rw [List.mem_erase_of_ne e,<- h y];exact ⟨List.mem_cons_of_mem _,fun z=>(List.mem_cons.mp z).resolve_left e⟩
noncomputable def yq (ps:List P4) (i:Int):PyData:=(ps[i.toNat]?.map P4.d).getD .none
theorem wM (ps:List P4):ps.map P4.d=tab (yq ps) ps.length:=by
  refine List.ext_getElem (by rw [List.length_map,fV]) fun k h1 h2=>?_
  rw [fV] at h2;have e:=pC (f:=yq ps) (n:=ps.length) (i:=(k:Int)) (by omega) (by omega);simp only [Int.toNat_natCast] at e;rw [e,List.getElem_map];unfold yq;rw [List.getElem?_eq_getElem (by omega)];simp
theorem gk {f:Fe} {ρ:ay} {h:Int->Int}:∀ ns:List Int,(∀ x∈ns,f (.val (.int x)::ρ)=.ok (.int (h x)))->bA (aG 0) (fun _=>.ok true) f (.non::ρ) (ns.map .int)=.ok ((ns.map h).map .int)
  | [],_=>cH ..
  | x::ns,hh=>by
    rw [List.map_cons,cM,gk ns fun y hy=>hh y (List.mem_cons_of_mem _ hy)];show (R.ok true>>=fun k=>if k=true then f (.val (.int x)::ρ)>>=fun x=>R.ok ((ns.map h).map .int)>>=fun xs=>.ok (x::xs) else _)=_;rw [hh x List.mem_cons_self];rfl
theorem kZ {f:Fe} {ρ:ay} {h:P4->PyData}:∀ qs:List P4,(∀ q∈qs,f (.val q.d::ρ)=.ok (h q))->bA (aG 0) (fun _=>.ok true) f (.non::ρ) (qs.map P4.d)=.ok (qs.map h)
  | [],_=>cH ..
  | q::qs,hh=>by
    rw [List.map_cons,cM,kZ qs fun y hy=>hh y (List.mem_cons_of_mem _ hy)];show (R.ok true>>=fun k=>if k=true then f (.val q.d::ρ)>>=fun x=>R.ok (qs.map h)>>=fun xs=>.ok (x::xs) else _)=_;rw [hh q List.mem_cons_self];rfl
theorem xq (p:P4):bP p.d (.int 2)=.ok (.int p.g):=rfl
noncomputable def rq (p:P4) (L:List Int):P4:=⟨p.w,p.m,p.g,L⟩
theorem i7 (p:P4) (L:List Int):aH [p.d,.list (L.map .int)]=.ok (rq p L).d:=by
  have s4:4<=sizeLine:=by decide
  unfold aH gB;refine gj ?_;rw [show ([p.d,PyData.list (L.map .int)].map bq.val++List.replicate (2 - [p.d,PyData.list (L.map .int)].length) bq.non)=[.val p.d,.val (.list (L.map .int))] from rfl];simp only [ej,gM,aL,aV,bZ,cv,ax,aD,dO,R.ok_bind,xo,xp,xq,dE,List.length_cons,List.length_nil,Nat.zero_add,Nat.reduceAdd,if_pos s4];rfl
noncomputable def Ca (n:Int) (q:P4):P4:=rq q (q.ns.map (·+n))
noncomputable def k7 (ps:List P4) (i:Int):P4:=(ps[i.toNat]?).getD ⟨0,0,0,[]⟩
theorem sD {ps:List P4} {i:Int} (h0:0<=i) (h1:i < ps.length):k7 ps i=ps[i.toNat]'(by omega):=by
  unfold k7;rw [List.getElem?_eq_getElem (by omega)];rfl
theorem lX {ps:List P4} {i:Int} (h0:0<=i) (h1:i < ps.length):bP (gD ps) (.int i)=.ok (k7 ps i).d:=by rw [AC h0 h1,sD h0 h1]
theorem fZ (ps:List P4) (i:Int):(k7 ps i).ns=av ps i:=by
  unfold k7 av;cases ps[i.toNat]? <;> rfl
noncomputable def wf (js ns:List Int):List Int:=(ns.filter (jk js)).map fun g=>((js.idxOf g:Nat):Int)
theorem zh {js:List Int} {g:Int} (h:g∈js):fP (.tuple (js.map .int)) (.int g)=.ok (.int (js.idxOf g:Nat)):=by
  show (match bz (js.map .int) with | some ns=>if g∈ns then R.ok (PyData.int (ns.idxOf g:Nat)) else .no | none=>.no)=_;rw [bR];exact if_pos h
theorem mQ {p:P4} {js:List Int} (hl:p.ns.length<=100):bB [p.d,.tuple (js.map .int)]=.ok (.list ((wf js p.ns).map .int)):=by
  have hc:=nz (s:=.tuple (p.ns.map .int)) (t:=.tuple (js.map .int)) (.inl rfl) (.inl rfl) (by omega);have hm:=gk (f:=kW (ag 1) (ag 0)) (ρ:=[.val (.tuple (js.map .int))]) (h:=fun g=>((js.idxOf g:Nat):Int)) (p.ns.filter (jk js)) fun g hg=>by
    have:=fG.mp (List.mem_filter.mp hg).2;unfold kW;simp only [aD,ax,R.ok_bind,Br,zh this]
  unfold bB gv;refine gj ?_;rw [show ([p.d,PyData.tuple (js.map .int)].map bq.val++List.replicate (2 - [p.d,PyData.tuple (js.map .int)].length) bq.non)=[.val p.d,.val (.tuple (js.map .int))] from rfl];rw [ej,bE,show ao 1 [1] [.val p.d,.val (.tuple (js.map .int))]=[.non,.val (.tuple (js.map .int))] from rfl];simp only [cE,bQ,aL,aV,bZ,ax,aD,dO,R.ok_bind,kj,hc,eM,cB];rw [if_pos (ce (by rw [List.length_map];exact Nat.le_trans (List.length_filter_le ..) (by omega))),hm];rfl
noncomputable def zR (ps:List P4) (js:List Int) (i:Int):P4:=rq (k7 ps i) (wf js (av ps i))
noncomputable abbrev Ev:Str:=PySem.Str.ofString "NoPart"
noncomputable def md (ps:List P4):PyData->Bool
  | .tuple ds=>(dF ps.length 0 ds&&!ds.isEmpty)&&(match bz ds with | some js=>js.all fun i=>decide (0 < (kI ps js i).length) | none=>false)
  | _=>false
theorem nV (c:Int):∀ (ds:List PyData) (l:Int),dF c l ds=true->0<=l->∃ js:List Int,ds=js.map .int/\js.Pairwise (· < ·)/\∀ x∈js,l<=x/\x < c
  | [],_,_,_=>⟨[],rfl,.nil,by simp⟩
  | d::ds,l,h,hl=>by
    cases d with
    | int i =>
      simp only [dF,Bool.and_eq_true,decide_eq_true_eq] at h;obtain ⟨⟨h1,h2⟩,h3⟩:=h;obtain ⟨js,e,p,b⟩:=nV c ds (i+1) h3 (by omega);refine ⟨i::js,by rw [e];rfl,List.pairwise_cons.mpr ⟨fun y hy=>by have:=b y hy;omega,p⟩,fun x hx=>?_⟩;rcases List.mem_cons.mp hx with rfl | z
      · exact ⟨h1,h2⟩
      · have:=b x z;omega
    | _=>cases h
theorem sE {ps:List P4} (hl:∀ p∈ps,p.ns.length<=100) (hp:ps.length<=100) {d:PyData} (hg:c9 d):cW [gD ps,d]=if md ps d=true then (match d with | .tuple ds=>.ok (gD (((bz ds).getD []).map (zR ps ((bz ds).getD [])))) | _=>.no) else .ex Ev:=by
  have hs:=ku ps.length (d:=d) (fun ds e x hx=>((cO.mp (e ▸ hg)) x hx).noD) hg.noD;have l1:eG (gD ps)=.ok (.int ps.length):=by simp
  unfold cW j4;rw [dC,show ([gD ps,d].map bq.val++List.replicate (2 - [gD ps,d].length) bq.non)=[.val (gD ps),.val d] from rfl];rw [la,gV];cases hsb:xX ps.length d with
  | false =>
    rw [hsb] at hs;have hpb:md ps d=false:=by
      cases d with
      | tuple ds =>
        have:dF ps.length 0 ds=false:=hsb;simp [md,this]
      | _=>rfl
    simp only [pB,mw,gq,bQ,aL,aV,cv,ax,aD,R.ok_bind,l1,hs,hU];rw [hpb];rfl
  | true =>
    rw [hsb] at hs;cases d with
    | tuple ds =>
      have hr:dF ps.length 0 ds=true:=hsb;obtain ⟨js,rfl,hj1,hj2⟩:=nV ps.length ds 0 hr (by omega);have l2:eG (.tuple (js.map .int))=.ok (.int js.length):=by simp
      have hjl:js.length<=ps.length:=(j5.mk hj1 hj2:j5 ps.length js).len;simp only [pB,mw,gq,bQ,aL,aV,bZ,cv,dO,ax,aD,R.ok_bind,l1,l2,hs,hU,kx,Bool.not_true,Bool.false_eq_true,if_false];cases js with
      | nil=>rfl
      | cons j0 js0 =>
        generalize hjs:j0::js0=js at *;have hne:js≠[]:=by rw [<- hjs];simp
        have hlen:¬ ((js.length:Int)=0):=by have:=List.length_pos_iff.mpr hne;omega
        rw [decide_eq_false hlen];simp only [Bool.false_eq_true,if_false,mm,R.ok_bind,rm];have hw:=mV hl (s:=.tuple (js.map .int)) (js:=js) (.inl rfl) hj2 (by omega);have hpb:md ps (.tuple (js.map .int))=js.all fun i=>decide (0 < (kI ps js i).length):=by
          have he:(js.map PyData.int).isEmpty=false:=by cases js with | nil=>exact absurd rfl hne | cons _ _=>rfl
          simp only [md,hr,he,bR];simp
        rw [la,gV];simp only [mw,gq,bQ,aL,aV,ax,aD,R.ok_bind,hw,hU];rw [hpb];cases hall:js.all fun i=>decide (0 < (kI ps js i).length) with
        | false=>rfl
        | true =>
          simp only [Bool.not_true,Bool.false_eq_true,if_false,mm,R.ok_bind,rm];have hcm:bA (aG 0) (fun _=>.ok true) (aN aH (ah (e2 bP (ag 1) (ag 0)) (ah (aN bB (ah (e2 bP (ag 1) (ag 0)) (ah (ag 2) az))) az))) [.non,.val (gD ps),.val (.tuple (js.map .int))] (js.map .int)=.ok (js.map fun i=>(zR ps js i).d):=by
            have:=nA (aN aH (ah (e2 bP (ag 1) (ag 0)) (ah (aN bB (ah (e2 bP (ag 1) (ag 0)) (ah (ag 2) az))) az))) [.non,.val (gD ps),.val (.tuple (js.map .int))] 0 (fun d=>match d with | .int i=>(zR ps js i).d | d=>d) (js.map .int) fun d hd=>by
              obtain ⟨i,hi,rfl⟩:=List.mem_map.mp hd;obtain ⟨i0,i1⟩:=hj2 i hi;have e1':=lX i0 i1;have e2':=mQ (p:=k7 ps i) (js:=js) (by rw [sD i0 i1];exact hl _ (List.getElem_mem _));rw [fZ] at e2';have e3':=i7 (k7 ps i) (wf js (av ps i));show aN aH _ [.val (.int i),.val (gD ps),.val (.tuple (js.map .int))]=_;simp only [bQ,aL,aV,bZ,ax,aD,R.ok_bind,e1',e2',e3'];rfl
            rw [this,List.map_map];rfl
          rw [ej,cv,bE,show ao 1 [0,1] [.val (gD ps),.val (.tuple (js.map .int))]=[.non,.val (gD ps),.val (.tuple (js.map .int))] from rfl];simp only [cE,ax,aD,R.ok_bind,eM,cB];rw [if_pos (ce (by rw [List.length_map];omega)),hcm];simp only [dH,R.ok_bind,dE,if_true,bR,Option.getD_some];show R.ok (PyData.tuple (js.map fun i=>(zR ps js i).d))=.ok (.tuple ((js.map (zR ps js)).map P4.d));rw [List.map_map];rfl
    | _=>cases hsb
noncomputable abbrev eT (ms:List Int):List Int:=c6 (uK ms)
theorem xb {l:List Int} {k x:Int}:x∈step_dedup l k<->x∈l\/x=k:=by
  unfold step_dedup;by_cases h:l.any (·==k)=true
  · rw [if_pos h];refine ⟨.inl,fun z=>z.elim id fun e=>?_⟩;obtain ⟨y,hy,e2⟩:=List.any_eq_true.mp h;have:y=k:=by simpa using e2
    rw [e,<- this];exact hy
  · rw [if_neg h];simp
theorem zu {l:List Int} (h:l.Nodup) (k:Int):(step_dedup l k).Nodup:=by
  unfold step_dedup;by_cases hk:l.any (·==k)=true
  · rw [if_pos hk];exact h
  · rw [if_neg hk,List.nodup_append];refine ⟨h,by simp,fun a ha b hb e=>?_⟩;simp at hb;subst hb;subst e;exact hk (List.any_eq_true.mpr ⟨a,ha,by simp⟩)
theorem rW:∀ (ms acc:List Int),acc.Nodup->(ms.foldl step_dedup acc).Nodup/\∀ x,x∈ms.foldl step_dedup acc<->x∈acc\/x∈ms
  | [],acc,h=>⟨h,fun x=>by simp⟩
  | m::ms,acc,h=>by
    obtain ⟨h1,h2⟩:=rW ms (step_dedup acc m) (zu h m);refine ⟨h1,fun x=>?_⟩;rw [List.foldl_cons,h2,xb,List.mem_cons];constructor
    · rintro ((z | z) | z)
      · exact .inl z
      · exact .inr (.inl z)
      · exact .inr (.inr z)
    · rintro (z | z | z)
      · exact .inl (.inl z)
      · exact .inl (.inr z)
      · exact .inr z
theorem BB {ms:List Int} {x:Int}:x∈uK ms<->x∈ms:=by
  have:=(rW ms [] .nil).2 x;unfold uK;rw [this];simp
theorem du {ms:List Int} {x:Int}:x∈eT ms<->x∈ms:=by rw [(dh _).mem_iff,BB]
theorem jm (ms:List Int):(eT ms).Pairwise (· < ·):=n6 (fw _) ((dh _).nodup_iff.mpr (rW ms [] .nil).1)
theorem Cd {ms:List Int} (h:ms.length < 64):wE (.list (ms.map .int))=.ok (.list ((eT ms).map .int)):=by
  show (match bz (ms.map .int) with | some ns=>if ns.length < 64 then R.ok (PyData.list ((c6 (uK ns)).map PyData.int)) else .no | none=>.no)=_;rw [bR];exact if_pos h
theorem FP {ms:List Int} (h:ms.length < 64):wE (.tuple (ms.map .int))=.ok (.list ((eT ms).map .int)):=by
  show (match bz (ms.map .int) with | some ns=>if ns.length < 64 then R.ok (PyData.list ((c6 (uK ns)).map PyData.int)) else .no | none=>.no)=_;rw [bR];exact if_pos h
noncomputable def uS {α:Type} [DecidableEq α] (S:Int->α) (n:Nat) (i:Int):Int:=(((bf n).findIdx fun j=>decide (S j=S i):Nat):Int)
section
variable {α:Type} [DecidableEq α] {S:Int->α} {n:Nat}
theorem wP {n k:Nat} (h:k < (bf n).length):(bf n)[k]=(k:Int):=by
  have:=tM (n:=n) (k:=k) (by rw [c5] at h;exact h);rw [List.getElem?_eq_getElem h] at this;exact Option.some.inj this
theorem dY {i:Int} (hi:i∈bf n):uS S n i∈bf n/\S (uS S n i)=S i/\∀ j∈bf n,S j=S i->uS S n i<=j:=by
  have hl:(bf n).findIdx (fun j=>decide (S j=S i)) < (bf n).length:=List.findIdx_lt_length_of_exists ⟨i,hi,by simp⟩;have hn:(bf n).findIdx (fun j=>decide (S j=S i)) < n:=by rw [c5] at hl;exact hl
  have ef:uS S n i=(((bf n).findIdx fun j=>decide (S j=S i):Nat):Int):=rfl;refine ⟨aX.mpr ⟨by omega,by omega⟩,?_,fun j hj e=>?_⟩
  · have:=List.findIdx_getElem (p:=fun j=>decide (S j=S i)) (w:=hl);rw [wP hl] at this;exact of_decide_eq_true this
  · obtain ⟨h0,h1⟩:=aX.mp hj;by_cases z:uS S n i<=j
    · exact z
    · exfalso;have hlt:j.toNat < (bf n).findIdx fun j=>decide (S j=S i):=by omega
      have:=List.not_of_lt_findIdx hlt;rw [wP (by rw [c5];omega),show ((j.toNat:Nat):Int)=j by omega] at this;simp [e] at this
theorem jM {i j:Int} (hi:i∈bf n) (hj:j∈bf n):uS S n i=uS S n j<->S i=S j:=by
  constructor
  · intro h;have a:=(dY (S:=S) hi).2.1;have b:=(dY (S:=S) hj).2.1;rw [<- a,h,b]
  · intro h;unfold uS;rw [h]
end
theorem xa {l m:List Int} (h1:l.Pairwise (· < ·)) (h2:m.Pairwise (· < ·)) (h:∀ x,x∈l<->x∈m):l=m:=by
  have p:=mh (fH h1) (fH h2) h;have a:=iF p (h1.imp fun z=>by omega);have b:=iF (List.Perm.refl m) (h2.imp fun z=>by omega);rw [a,<- b]
theorem zw {l m:List Int} (h:∀ x,x∈l<->x∈m):eT l=eT m:=xa (jm l) (jm m) fun x=>by rw [du,du];exact h x
noncomputable def Ab (ps:List P4) (L:Int->Int) (i:Int):Int×List Int:=(L i,eT ((av ps i).map L))
noncomputable def mG (ps:List P4) (L:Int->Int):Int->Int:=uS (Ab ps L) ps.length
noncomputable def B2 (ps:List P4) (i:Int):Int×Int:=(dw ps i,eJ ps i)
noncomputable def wY (ps:List P4):Int->Int:=uS (B2 ps) ps.length
structure Ex (ps:List P4) (Rl:Int->Int->Prop):Prop where
  inn:∀ i j,Rl i j->i∈bf ps.length/\j∈bf ps.length
  own:∀ i j,Rl i j->dw ps i=dw ps j/\eJ ps i=eJ ps j
  go:∀ i j,Rl i j->∀ g∈av ps i,∃ g'∈av ps j,Rl g g'
  back:∀ i j,Rl i j->∀ g'∈av ps j,∃ g∈av ps i,Rl g g'
structure kM (ps:List P4) (L:Int->Int):Prop where
  inn:∀ i∈bf ps.length,L i∈bf ps.length
  idem:∀ i∈bf ps.length,L (L i)=L i
  least:∀ i∈bf ps.length,∀ j∈bf ps.length,L j=L i->L i<=j
  own:∀ i∈bf ps.length,∀ j∈bf ps.length,L i=L j->dw ps i=dw ps j/\eJ ps i=eJ ps j
  most:∀ Rl,Ex ps Rl->∀ i j,Rl i j->L i=L j
theorem FA (ps:List P4):kM ps (wY ps):=by
  refine ⟨fun i hi=>(dY hi).1,fun i hi=>(jM (dY hi).1 hi).mpr (dY hi).2.1,fun i hi j hj e=>(dY hi).2.2 j hj ((jM hj hi).mp e),fun i hi j hj e=>?_,fun Rl B i j r=>?_⟩
  · have h:=(jM (S:=B2 ps) hi hj).mp e;exact ⟨congrArg Prod.fst h,congrArg Prod.snd h⟩
  · obtain ⟨a,b⟩:=B.inn i j r;obtain ⟨c,d⟩:=B.own i j r;exact (jM (S:=B2 ps) a b).mpr (Prod.ext c d)
theorem Bq {ps:List P4} {L:Int->Int} (I:kM ps L):kM ps (mG ps L):=by
  refine ⟨fun i hi=>(dY hi).1,fun i hi=>(jM (dY hi).1 hi).mpr (dY hi).2.1,fun i hi j hj e=>(dY hi).2.2 j hj ((jM hj hi).mp e),fun i hi j hj e=>?_,fun Rl B i j r=>?_⟩
  · exact I.own i hi j hj (congrArg Prod.fst ((jM (S:=Ab ps L) hi hj).mp e))
  · obtain ⟨a,b⟩:=B.inn i j r;refine (jM (S:=Ab ps L) a b).mpr (Prod.ext (I.most Rl B i j r) (zw fun x=>?_));rw [List.mem_map,List.mem_map];constructor
    · rintro ⟨g,hg,rfl⟩;obtain ⟨g',h1,h2⟩:=B.go i j r g hg;exact ⟨g',h1,(I.most Rl B g g' h2).symm⟩
    · rintro ⟨g,hg,rfl⟩;obtain ⟨g',h1,h2⟩:=B.back i j r g hg;exact ⟨g',h1,I.most Rl B g' g h2⟩
theorem DB {ps:List P4} {L:Int->Int} (I:kM ps L) {i:Int} (hi:i∈bf ps.length):L i<=mG ps L i:=by
  have h:=dY (S:=Ab ps L) hi;exact I.least i hi _ h.1 (congrArg Prod.fst h.2.1)
theorem tV {ps:List P4} {L:Int->Int} (hs:∀ i∈bf ps.length,mG ps L i=L i) {i j:Int} (hi:i∈bf ps.length) (hj:j∈bf ps.length) (h:L i=L j):eT ((av ps i).map L)=eT ((av ps j).map L) :=
  congrArg Prod.snd ((jM (S:=Ab ps L) hi hj).mp (by
    show mG ps L i=mG ps L j;rw [hs i hi,hs j hj,h]))
theorem ya {f g:Int->Int}:∀ is:List Int,(∀ i∈is,f i<=g i)->(is.map f).sum<=(is.map g).sum/\(is.map f≠is.map g->(is.map f).sum < (is.map g).sum)
  | [],_=>⟨Int.le_refl _,fun h=>(h rfl).elim⟩
  | i::is,h=>by
    obtain ⟨a,b⟩:=ya is fun x hx=>h x (List.mem_cons_of_mem _ hx)
    have c:=h i List.mem_cons_self;rw [List.map_cons,List.map_cons,List.sum_cons,List.sum_cons];refine ⟨by omega,fun z=>?_⟩;by_cases e:f i=g i
    · have:=b fun y=>z (by rw [e,y])
      omega
    · omega
theorem sO {f:Int->Int} {c:Int}:∀ is:List Int,(∀ i∈is,0<=f i/\f i<=c)->0<=(is.map f).sum/\(is.map f).sum<=c*is.length
  | [],_=>by simp
  | i::is,h=>by
    obtain ⟨a,b⟩:=sO is fun x hx=>h x (List.mem_cons_of_mem _ hx)
    have d:=h i List.mem_cons_self;rw [List.map_cons,List.sum_cons,List.length_cons];have e:c*((is.length+1:Nat):Int)=c*is.length+c:=by rw [Int.natCast_add,Int.mul_add];simp
    rw [e];omega
theorem sC (ps:List P4) (i:Int):dw ps i=(k7 ps i).w:=by
  unfold k7;show ((ps[i.toNat]?).map (·.w)).getD 0=_;cases ps[i.toNat]? <;> rfl
theorem o7 (ps:List P4) (i:Int):eJ ps i=(k7 ps i).m:=by
  unfold k7;show ((ps[i.toNat]?).map (·.m)).getD 0=_;cases ps[i.toNat]? <;> rfl
theorem nh {ps:List P4} {i:Int} (h:i∈bf ps.length):k7 ps i∈ps:=by
  obtain ⟨h0,h1⟩:=aX.mp h;rw [sD h0 h1];exact List.getElem_mem _
theorem wk {h:P4->P4} {ps:List P4} {i:Int} (hi:i∈bf ps.length):k7 (ps.map h) i=h (k7 ps i):=by
  obtain ⟨h0,h1⟩:=aX.mp hi;unfold k7;rw [List.getElem?_map,List.getElem?_eq_getElem (by omega)];rfl
noncomputable abbrev EE (ks:List Int) (k:Int):Int:=(ks[k.toNat]?).getD 0
theorem As {ks ns:List Int} (hk:ks.Pairwise (· < ·)) (hn:ns.Pairwise (· < ·)):(wf ks ns).Pairwise (· < ·):=by
  unfold wf;refine List.pairwise_map.mpr (List.Pairwise.imp_of_mem (fun {g g'} hg hg' hlt=>?_) (hn.filter (jk ks)));have i1:=List.idxOf_lt_length_of_mem (fG.mp (List.mem_filter.mp hg).2);have i2:=List.idxOf_lt_length_of_mem (fG.mp (List.mem_filter.mp hg').2);have f1:=List.getElem_idxOf i1;have f2:=List.getElem_idxOf i2;rcases Nat.lt_trichotomy (ks.idxOf g) (ks.idxOf g') with z | z | z
  · exact Int.ofNat_lt.mpr z
  · have t:ks[ks.idxOf g]?=ks[ks.idxOf g']?:=by rw [z]
    rw [List.getElem?_eq_getElem i1,List.getElem?_eq_getElem i2,f1,f2] at t;cases t;omega
  · have t:=List.pairwise_iff_getElem.mp hk _ _ i2 i1 z;rw [f1,f2] at t;omega
theorem CN {ks ns:List Int} {x:Int} (h:x∈wf ks ns):x∈bf ks.length/\EE ks x∈ns:=by
  unfold wf at h;obtain ⟨g,hg,rfl⟩:=List.mem_map.mp h;obtain ⟨h1,h2⟩:=List.mem_filter.mp hg;have i1:=List.idxOf_lt_length_of_mem (fG.mp h2);refine ⟨aX.mpr ⟨by omega,by omega⟩,?_⟩;unfold EE;rw [Int.toNat_natCast,List.getElem?_eq_getElem i1,Option.getD_some,List.getElem_idxOf i1];exact h1
theorem CO {ks ns:List Int} {g:Int} (h1:g∈ns) (h2:g∈ks):∃ x∈wf ks ns,EE ks x=g:=by
  have i1:=List.idxOf_lt_length_of_mem h2;refine ⟨(ks.idxOf g:Nat),List.mem_map.mpr ⟨g,List.mem_filter.mpr ⟨h1,fG.mpr h2⟩,rfl⟩,?_⟩;unfold EE;rw [Int.toNat_natCast,List.getElem?_eq_getElem i1,Option.getD_some,List.getElem_idxOf i1]
theorem D3 {c n hi m:Int} {q:P4} (h:Pl n hi q) (h12:hi<=12) (hm:0<=m) (hc:m+n<=c):Pl c 12 (Ca m q) :=
  ⟨h.w0,h.w1,h.m0,by have:=h.m1;show q.m<=12;omega,h.g0,h.g1,by show q.ns.map (·+m)≠[];simpa using h.ne,List.pairwise_map.mpr (h.so.imp fun z=>by omega),fun x hx=>by
    obtain ⟨g,hg,rfl⟩:=List.mem_map.mp hx;have:=h.inn g hg;exact ⟨by omega,by omega⟩⟩
theorem AV {c c' hi:Int} {p:P4} (h:Pl c hi p) (h2:c<=c') (h12:hi<=12):Pl c' 12 p:=⟨h.w0,h.w1,h.m0,by have:=h.m1;omega,h.g0,h.g1,h.ne,h.so,fun x hx=>by have:=h.inn x hx;omega⟩
theorem DO {hi i:Int} {ps:List P4} {ks:List Int} (hpl:∀ p∈ps,Pl ps.length hi p) (h12:hi<=12) (hi':i∈bf ps.length) (hk:ks.Pairwise (· < ·)) (hw:∃ g∈av ps i,g∈ks):Pl ks.length 12 (zR ps ks i):=by
  have h:=hpl _ (nh hi');refine ⟨h.w0,h.w1,h.m0,by have:=h.m1;show (k7 ps i).m<=12;omega,h.g0,h.g1,fun z=>?_,As hk (by rw [<- fZ];exact h.so),fun x hx=>aX.mp (CN hx).1⟩;obtain ⟨g,h1,h2⟩:=hw;obtain ⟨x,hx,_⟩:=CO h1 h2;rw [show wf ks (av ps i)=[] from z] at hx;cases hx
section
variable {ps:List P4} (hpl:∀ p∈ps,Pl ps.length 12 p)
include hpl
theorem iN {i g:Int} (hi:i∈bf ps.length) (hg:g∈av ps i):g∈bf ps.length:=by
  have h:=hpl _ (nh hi);rw [<- fZ] at hg;exact aX.mpr (h.inn g hg)
end
noncomputable abbrev mH (q:Int×Int):PyData:=.tuple [.int q.1,.int q.2]
noncomputable def pD (l:List (Int×Int)):List (PyData×PyData):=l.map fun q=>(mH q,.bool true)
noncomputable abbrev cy (l:List (Int×Int)):PyData:=.dict ((.bool true,.none)::pD l)
theorem tP (q:Int×Int):mR (mH q)=some [.inl q.1,.inl q.2]:=rfl
theorem Cp (p q:Int×Int):vF (mH p) (mH q)=decide (p=q):=by
  unfold vF;rw [tP,tP];refine decide_eq_decide.mpr ⟨fun h=>?_,fun h=>by rw [h]⟩;injection h with h
  injection h with h1 h2
  injection h2 with h3 _
  injection h1 with h1
  injection h3 with h3
  exact Prod.ext h1 h3
theorem wg (l:List (Int×Int)) (q:Int×Int):((pD l).any fun kv=>vF kv.1 (mH q))=decide (q∈l):=by
  unfold pD;rw [List.any_map];have:((fun kv:PyData×PyData=>vF kv.1 (mH q))∘fun p:Int×Int=>(mH p,PyData.bool true))=fun p=>decide (p=q):=by
    funext p;exact Cp p q
  rw [this];by_cases h:q∈l
  · rw [decide_eq_true h,List.any_eq_true];exact ⟨q,h,decide_eq_true rfl⟩
  · rw [decide_eq_false h,List.any_eq_false];intro p hp z;exact h (of_decide_eq_true z ▸ hp)
theorem BU {l:List (Int×Int)} {q:Int×Int} (h:q∉l):sJ (pD l) (mH q) (.bool true)=pD (l++[q]):=by
  unfold sJ;rw [wg,decide_eq_false h,if_neg (by simp)];unfold pD;rw [List.map_append];rfl
theorem zr (l:List (Int×Int)) (q:Int×Int):(i6 (pD l) (mH q)).isSome=decide (q∈l):=by
  rw [<- wg];unfold i6;rw [Option.isSome_map];cases e:(pD l).any fun kv=>vF kv.1 (mH q) with
  | true=>exact List.find?_isSome.mpr (List.any_eq_true.mp e)
  | false =>
    cases h:((pD l).find? fun kv=>vF kv.1 (mH q)).isSome with
    | false=>rfl
    | true =>
      obtain ⟨x,h1,h2⟩:=List.find?_isSome.mp h;exact absurd h2 (List.any_eq_false.mp e x h1)
theorem wR (l:List (Int×Int)) (q:Int×Int):jE false (mH q) (cy l)=.ok (.bool (decide (q∈l))):=by
  show R.ok (PyData.bool (if false=true then !(i6 (pD l) (mH q)).isSome else (i6 (pD l) (mH q)).isSome))=_;rw [if_neg (by simp),zr]
theorem Bz (l:List (Int×Int)):lK (cy l)=.ok (.int l.length):=by
  show R.ok (PyData.int (pD l).length)=_;unfold pD;rw [List.length_map]
theorem zp (l:List (Int×Int)):o5 (cy l)=.ok (l.map mH):=by
  show R.ok ((pD l).map (·.1))=_;unfold pD;rw [List.map_map];rfl
theorem rd {i:Nat} {fk fv:Fe} {ρ:ay} {l:List (Int×Int)} {q:Int×Int} (h1:fk ρ=.ok (mH q)) (h2:fv ρ=.ok (.bool true)) (h3:ρ[i]?=some (.own (cy l))) (h4:q∉l) (h5:l.length<=1000):ml i fk fv ρ=.ok (.nx (ρ.set i (.own (cy (l++[q]))))):=by
  unfold ml;rw [h2,h1,h3];have hz:(pD l).length < sizeLine:=by
    unfold pD;rw [List.length_map];exact Nat.lt_of_le_of_lt h5 (by decide)
  show (if (pD l).length < sizeLine then R.ok (oq.nx (ρ.set i (.own (.dict ((.bool true,.none)::sJ (pD l) (mH q) (.bool true)))))) else .no)=_;rw [if_pos hz,BU h4]
theorem Dh (ns ms:List Int):ka (.tuple (ns.map .int)) (.tuple (ms.map .int))=.ok (.bool (decide (ns=ms))):=by
  unfold ka;rw [if_pos (tJ ns ms)];simp only [PyData.eqv,jL]
theorem tm (p:Int->Bool):∀ ds:List Int,D2.oG (ds.map fun d=>.bool (p d))=some (ds.any p)
  | []=>rfl
  | d::ds=>by
    simp only [List.map_cons,D2.oG,tm p ds,List.any_cons,Option.map_some]
theorem qc (p:Int->Bool):∀ ds:List Int,D2.lD (ds.map fun d=>.bool (p d))=some (ds.all p)
  | []=>rfl
  | d::ds=>by
    simp only [List.map_cons,D2.lD,qc p ds,List.all_cons,Option.map_some]
theorem yQ (p:Int->Bool) (ds:List Int):mP (.list (ds.map fun d=>.bool (p d)))=.ok (.bool (ds.any p)):=by
  show (match oG (ds.map fun d=>.bool (p d)) with | some k=>R.ok (PyData.bool k) | none=>.no)=_;rw [tm]
theorem tz (p:Int->Bool) (ds:List Int):oR (.list (ds.map fun d=>.bool (p d)))=.ok (.bool (ds.all p)):=by
  show (match lD (ds.map fun d=>.bool (p d)) with | some k=>R.ok (PyData.bool k) | none=>.no)=_;rw [qc]
theorem jO {f:Fe} {ρ:ay} {h:Int->PyData}:∀ ns:List Int,(∀ x∈ns,f (.val (.int x)::ρ)=.ok (h x))->bA (aG 0) (fun _=>.ok true) f (.non::ρ) (ns.map .int)=.ok (ns.map h)
  | [],_=>cH ..
  | x::ns,hh=>by
    rw [List.map_cons,cM,jO ns fun y hy=>hh y (List.mem_cons_of_mem _ hy)];show (R.ok true>>=fun k=>if k=true then f (.val (.int x)::ρ)>>=fun x=>R.ok (ns.map h)>>=fun xs=>.ok (x::xs) else _)=_;rw [hh x List.mem_cons_self];rfl
noncomputable def vB (ps:List P4) (i j:Int):Bool:=decide ([dw ps i,eJ ps i]=[dw ps j,eJ ps j])
noncomputable def yx (ps:List P4) (l:List (Int×Int)) (i j:Int):Bool:=(av ps i).all fun g=>(av ps j).any fun w=>decide ((g,w)∈l)
noncomputable def At (ps:List P4) (l:List (Int×Int)) (i j:Int):Bool:=(av ps j).all fun w=>(av ps i).any fun g=>decide ((g,w)∈l)
noncomputable def gS (ps:List P4) (l:List (Int×Int)) (q:Int×Int):Bool:=yx ps l q.1 q.2&&At ps l q.1 q.2
structure lc (ps:List P4) (l:List (Int×Int)):Prop where
  nd:l.Nodup
  inn:∀ q∈l,q.1∈bf ps.length/\q.2∈bf ps.length
  own:∀ q∈l,dw ps q.1=dw ps q.2/\eJ ps q.1=eJ ps q.2
  most:∀ Rl,Ex ps Rl->∀ i j,Rl i j->(i,j)∈l
theorem lc.step {ps:List P4} {l:List (Int×Int)} (A:lc ps l):lc ps (l.filter (gS ps l)) where
  nd:=A.nd.sublist List.filter_sublist
  inn:=fun q hq=>A.inn q (List.mem_filter.mp hq).1
  own:=fun q hq=>A.own q (List.mem_filter.mp hq).1
  most:=fun Rl B i j r=>by
    refine List.mem_filter.mpr ⟨A.most Rl B i j r,?_⟩;unfold gS yx At;rw [Bool.and_eq_true];constructor
    · rw [List.all_eq_true];intro g hg;obtain ⟨g',h1,h2⟩:=B.go i j r g hg;exact List.any_eq_true.mpr ⟨g',h1,decide_eq_true (A.most Rl B g g' h2)⟩
    · rw [List.all_eq_true];intro g' hg';obtain ⟨g,h1,h2⟩:=B.back i j r g' hg';exact List.any_eq_true.mpr ⟨g,h1,decide_eq_true (A.most Rl B g g' h2)⟩
theorem lc.bis {ps:List P4} {l:List (Int×Int)} (A:lc ps l) (hs:∀ q∈l,gS ps l q=true):Ex ps fun i j=>(i,j)∈l where
  inn:=fun i j r=>A.inn (i,j) r
  own:=fun i j r=>A.own (i,j) r
  go:=fun i j r g hg=>by
    have h:=hs (i,j) r;unfold gS yx At at h;rw [Bool.and_eq_true] at h;obtain ⟨w,h1,h2⟩:=List.any_eq_true.mp (List.all_eq_true.mp h.1 g hg);exact ⟨w,h1,of_decide_eq_true h2⟩
  back:=fun i j r g' hg'=>by
    have h:=hs (i,j) r;unfold gS yx At at h;rw [Bool.and_eq_true] at h;obtain ⟨w,h1,h2⟩:=List.any_eq_true.mp (List.all_eq_true.mp h.2 g' hg');exact ⟨w,h1,of_decide_eq_true h2⟩
theorem w8 {ps:List P4} {L:Int->Int} (I:kM ps L) (hpl:∀ p∈ps,Pl ps.length 12 p) (hs:∀ i∈bf ps.length,mG ps L i=L i):Ex ps fun i j=>i∈bf ps.length/\j∈bf ps.length/\L i=L j where
  inn:=fun i j r=>⟨r.1,r.2.1⟩
  own:=fun i j r=>I.own i r.1 j r.2.1 r.2.2
  go:=fun i j r g hg=>by
    have e:=tV hs r.1 r.2.1 r.2.2;have:L g∈eT ((av ps j).map L):=by rw [<- e];exact du.mpr (List.mem_map_of_mem hg)
    obtain ⟨g',h1,h2⟩:=List.mem_map.mp (du.mp this);exact ⟨g',h1,iN hpl r.1 hg,iN hpl r.2.1 h1,h2.symm⟩
  back:=fun i j r g' hg'=>by
    have e:=tV hs r.1 r.2.1 r.2.2;have:L g'∈eT ((av ps i).map L):=by rw [e];exact du.mpr (List.mem_map_of_mem hg')
    obtain ⟨g,h1,h2⟩:=List.mem_map.mp (du.mp this);exact ⟨g,h1,iN hpl r.1 h1,iN hpl r.2.1 hg',h2⟩
theorem nc {ps:List P4} {L:Int->Int} {l:List (Int×Int)} (I:kM ps L) (hpl:∀ p∈ps,Pl ps.length 12 p) (hs:∀ i∈bf ps.length,mG ps L i=L i) (A:lc ps l) (ok:∀ q∈l,gS ps l q=true) {i j:Int} (hi:i∈bf ps.length) (hj:j∈bf ps.length) :
    (i,j)∈l<->L i=L j :=
  ⟨fun h=>I.most _ (A.bis ok) i j h,fun h=>A.most _ (w8 I hpl hs) i j ⟨hi,hj,h⟩⟩
noncomputable def mj (ps:List P4) (i:Int):List (Int×Int):=((bf ps.length).filter (vB ps i)).map fun j=>(i,j)
noncomputable def jb (ps:List P4) (is:List Int):List (Int×Int):=is.flatMap (mj ps)
theorem jR {ps:List P4} {i:Int} {q:Int×Int}:q∈mj ps i<->q.1=i/\q.2∈bf ps.length/\vB ps i q.2=true:=by
  unfold mj;rw [List.mem_map];constructor
  · rintro ⟨j,hj,rfl⟩;exact ⟨rfl,(List.mem_filter.mp hj).1,(List.mem_filter.mp hj).2⟩
  · rintro ⟨h1,h2,h3⟩;exact ⟨q.2,List.mem_filter.mpr ⟨h2,h3⟩,Prod.ext h1.symm rfl⟩
theorem ix {ps:List P4} {is:List Int} {q:Int×Int}:q∈jb ps is<->q.1∈is/\q.2∈bf ps.length/\vB ps q.1 q.2=true:=by
  unfold jb;rw [List.mem_flatMap];constructor
  · rintro ⟨i,hi,hq⟩;obtain ⟨h1,h2,h3⟩:=jR.mp hq;rw [h1];exact ⟨hi,h2,h3⟩
  · rintro ⟨h1,h2,h3⟩;exact ⟨q.1,h1,jR.mpr ⟨rfl,h2,h3⟩⟩
theorem BZ (ps:List P4) (i:Int):(mj ps i).Nodup:=by
  unfold mj;have h:((bf ps.length).filter (vB ps i)).Nodup:=(fH (oZ _)).sublist List.filter_sublist;rw [List.nodup_iff_pairwise_ne,List.pairwise_map];exact (List.nodup_iff_pairwise_ne.mp h).imp fun hne z=>hne (congrArg Prod.snd z)
theorem we (ps:List P4):∀ is:List Int,is.Nodup->(jb ps is).Nodup
  | [],_=>by simp [jb]
  | i::is,h=>by
    obtain ⟨h1,h2⟩:=List.nodup_cons.mp h;show (mj ps i++jb ps is).Nodup;rw [List.nodup_append];refine ⟨BZ ps i,we ps is h2,fun a ha b hb e=>?_⟩;subst e;have:=(jR.mp ha).1;have:=(ix.mp hb).1;rw [(jR.mp ha).1] at this;exact h1 this
theorem xW {ps:List P4} {i j:Int}:vB ps i j=true<->dw ps i=dw ps j/\eJ ps i=eJ ps j:=by
  unfold vB;rw [decide_eq_true_eq];simp
theorem a0 (ps:List P4):lc ps (jb ps (bf ps.length)) where
  nd:=we ps _ (fH (oZ _))
  inn:=fun q hq=>⟨(ix.mp hq).1,(ix.mp hq).2.1⟩
  own:=fun q hq=>xW.mp (ix.mp hq).2.2
  most:=fun Rl B i j r=>ix.mpr ⟨(B.inn i j r).1,(B.inn i j r).2,xW.mpr (B.own i j r)⟩
theorem t6 (ps:List P4) (i:Int):(mj ps i).length<=ps.length:=by
  unfold mj;rw [List.length_map];exact Nat.le_trans (List.length_filter_le ..) (by rw [c5];exact Nat.le_refl _)
theorem tj (ps:List P4):∀ is:List Int,(jb ps is).length<=is.length*ps.length
  | []=>by simp [jb]
  | i::is=>by
    show (mj ps i++jb ps is).length<=_;have a:=t6 ps i;have b:=tj ps is;rw [List.length_append,List.length_cons,Nat.add_mul];omega
theorem zW (n:Nat) (h:n<=1000):qZ [.int (n:Int)]=.ok ((bf n).map .int):=by
  have go:∀ m:Int,0<=m->m<=1000->qZ [.int m]=.ok (ci 0 m.toNat):=fun m h0 h1=>by
    show (if -(2 ^ 62)<=m/\m < 2 ^ 62 then R.ok (ci 0 m.toNat) else .no)=_;rw [if_pos (by omega)]
  rw [go n (by omega) (by omega),Int.toNat_natCast,sK]
theorem kH (p:P4):yo p.d none (some 2)=.ok (.tuple ([p.w,p.m].map .int)):=rfl
section
variable {ps:List P4} (hpl:∀ p∈ps,Pl ps.length 12 p) (h24:(ps.length:Int)<=24)
noncomputable abbrev v9:Fs:=kG (tE (e2 (ka) (uM (e2 bP (ag 0) (ag 3)) gn (gp (eC (.int 2)))) (uM (e2 bP (ag 0) (ag 4)) gn (gp (eC (.int 2)))))) (ml 2 (dL (ah (ag 3) (ah (ag 4) az))) (eC (.bool true))) dg
noncomputable abbrev v8:Fs:=gW (iX (ff (ah (ag 1) az)) (aG 4) v9)
theorem yg {f g:Fe} {ρ:ay} {i j:Int} (h1:f ρ=.ok (.int i)) (h2:g ρ=.ok (.int j)):dL (ah f (ah g az)) ρ=.ok (mH (i,j)):=by
  have s2:2<=sizeLine:=by decide
  rw [gM,aL,h1,R.ok_bind,aL,h2,R.ok_bind,aV,R.ok_bind,R.ok_bind,R.ok_bind];exact if_pos s2
theorem yJ {i j:Int} (hi:i∈bf ps.length) (hj:j∈bf ps.length) {l:List (Int×Int)} (hn:(i,j)∉l) (hl:l.length<=1000) (C x5 x6 x7 x8:bq) :
    v9 [.val (gD ps),C,.own (cy l),.val (.int i),.val (.int j),x5,x6,x7,x8]=.ok (.nx [.val (gD ps),C,.own (cy (l++if vB ps i j=true then [(i,j)] else [])),.val (.int i),.val (.int j),x5,x6,x7,x8]):=by
  obtain ⟨i0,i1⟩:=aX.mp hi;obtain ⟨j0,j1⟩:=aX.mp hj;have ht:tE (e2 (ka) (uM (e2 bP (ag 0) (ag 3)) gn (gp (eC (.int 2)))) (uM (e2 bP (ag 0) (ag 4)) gn (gp (eC (.int 2))))) [.val (gD ps),C,.own (cy l),.val (.int i),.val (.int j),x5,x6,x7,x8]=.ok (vB ps i j):=by
    simp only [gq,bZ,rX,ax,aD,R.ok_bind,l7,l8,dO,wj,lX i0 i1,lX j0 j1,kH,Dh,hU];unfold vB;rw [sC,o7,sC,o7]
  unfold v9;rw [gV,ht,R.ok_bind];cases vB ps i j with
  | true =>
    rw [if_pos rfl,if_pos rfl,rd (q:=(i,j)) (yg rfl rfl) rfl rfl hn hl];rfl
  | false =>
    rw [if_neg (by simp),if_neg (by simp),List.append_nil];rfl
theorem Ar {i:Int} (hi:i∈bf ps.length) (C x5 x6 x7 x8:bq):∀ (js:List Int),(∀ j∈js,j∈bf ps.length)->js.Nodup->∀ (l:List (Int×Int)),(∀ j∈js,(i,j)∉l)->l.length+js.length<=1000->∀ x4:bq,∃ y4,
    e8 (aG 4) v9 (js.map .int) [.val (gD ps),C,.own (cy l),.val (.int i),x4,x5,x6,x7,x8]=.ok (.nx [.val (gD ps),C,.own (cy (l++(js.filter (vB ps i)).map fun j=>(i,j))),.val (.int i),y4,x5,x6,x7,x8])
  | [],_,_,l,_,_,x4=>⟨x4,by rw [List.map_nil,eS,List.filter_nil,List.map_nil,List.append_nil]⟩
  | j::js,hj,hnd,l,hl,hn,x4=>by
    obtain ⟨nj,nd⟩:=List.nodup_cons.mp hnd;have hb:=yJ (ps:=ps) hi (hj j List.mem_cons_self) (hl j List.mem_cons_self) (by omega) C x5 x6 x7 x8;obtain ⟨y4,e⟩:=Ar hi C x5 x6 x7 x8 js (fun k hk=>hj k (List.mem_cons_of_mem _ hk)) nd (l++if vB ps i j=true then [(i,j)] else []) (fun k hk z=>by
      rcases List.mem_append.mp z with z | z
      · exact hl k (List.mem_cons_of_mem _ hk) z
      · split at z
        · have:k=j:=congrArg Prod.snd (List.mem_singleton.mp z);rw [this] at hk;exact nj hk
        · cases z) (by
      rw [List.length_append];rw [List.length_cons] at hn;split <;> simp <;> omega) (.val (.int j))
    refine ⟨y4,?_⟩;rw [List.map_cons,dq];show (v9 [.val (gD ps),C,.own (cy l),.val (.int i),.val (.int j),x5,x6,x7,x8]>>=_)=_;rw [hb,R.ok_bind,eW,e];cases hs:vB ps i j with
    | true=>rw [List.filter_cons_of_pos hs,if_pos rfl,List.map_cons,List.append_assoc];rfl
    | false=>rw [List.filter_cons_of_neg (by rw [hs];simp),if_neg (by simp),List.append_nil]
include h24 in
theorem wb (x5 x6 x7 x8:bq):∀ (is:List Int),(∀ i∈is,i∈bf ps.length)->is.Nodup->∀ (l:List (Int×Int)),(∀ q∈l,q.1∉is)->l.length+is.length*ps.length<=600->∀ x3 x4:bq,∃ y3 y4,
    e8 (aG 3) v8 (is.map .int) [.val (gD ps),.val (.int ps.length),.own (cy l),x3,x4,x5,x6,x7,x8]=.ok (.nx [.val (gD ps),.val (.int ps.length),.own (cy (l++jb ps is)),y3,y4,x5,x6,x7,x8])
  | [],_,_,l,_,_,x3,x4=>⟨x3,x4,by rw [List.map_nil,eS];simp [jb]⟩
  | i::is,hi,hnd,l,hl,hn,x3,x4=>by
    obtain ⟨ni,nd⟩:=List.nodup_cons.mp hnd;have hn':l.length+(is.length*ps.length+ps.length)<=600:=by
      rw [List.length_cons,Nat.add_mul,Nat.one_mul] at hn;exact hn
    obtain ⟨y4,e⟩:=Ar (ps:=ps) (hi i List.mem_cons_self) (.val (.int ps.length)) x5 x6 x7 x8 (bf ps.length) (fun _ h=>h) (fH (oZ _)) l (fun j _ z=>hl _ z List.mem_cons_self) (by rw [c5];omega) x4;have rl:=t6 ps i;obtain ⟨z3,z4,e2⟩:=wb x5 x6 x7 x8 is (fun k hk=>hi k (List.mem_cons_of_mem _ hk)) nd (l++mj ps i) (fun q hq z=>by
      rcases List.mem_append.mp hq with y | y
      · exact hl q y (List.mem_cons_of_mem _ z)
      · rw [(jR.mp y).1] at z;exact ni z) (by rw [List.length_append];omega) (.val (.int i)) y4
    refine ⟨z3,z4,?_⟩;rw [List.map_cons,dq];have hb:v8 [.val (gD ps),.val (.int ps.length),.own (cy l),.val (.int i),x4,x5,x6,x7,x8]=.ok (.nx [.val (gD ps),.val (.int ps.length),.own (cy (l++mj ps i)),.val (.int i),y4,x5,x6,x7,x8]):=by
      unfold v8;rw [gX,fU,iP,aL,aD,ax,R.ok_bind,aV,R.ok_bind,R.ok_bind,zW ps.length (by omega),R.ok_bind,e];rfl
    show (v8 [.val (gD ps),.val (.int ps.length),.own (cy l),.val (.int i),x4,x5,x6,x7,x8]>>=_)=_;rw [hb,R.ok_bind,eW,e2,List.append_assoc];rfl
noncomputable abbrev E7:Fe:=e1 oR (gL (dt (e2 bP (e2 bP (ag 0) (ag 3)) (eC (.int 3)))) [2,0,4] (aG 0) (fun _=>.ok true) (e1 mP (aY (dt (e2 bP (e2 bP (ag 2) (ag 3)) (eC (.int 3)))) 1 [0,1] (aG 0) (fun _=>.ok true) (e2 (jE false) (dL (ah (ag 1) (ah (ag 0) az))) (c4 2)))))
noncomputable abbrev E6:Fe:=e1 oR (gL (dt (e2 bP (e2 bP (ag 0) (ag 4)) (eC (.int 3)))) [2,0,3] (aG 0) (fun _=>.ok true) (e1 mP (aY (dt (e2 bP (e2 bP (ag 2) (ag 3)) (eC (.int 3)))) 1 [0,1] (aG 0) (fun _=>.ok true) (e2 (jE false) (dL (ah (ag 0) (ah (ag 1) az))) (c4 2)))))
noncomputable abbrev rO:Fs:=aU (cc 7 E7) (aU (cc 8 E6) (kG (jW (tE (ag 7)) (tE (ag 8))) (ml 6 (dL (ah (ag 3) (ah (ag 4) az))) (eC (.bool true))) dg))
include hpl h24
theorem jN {i:Int} (hi:i∈bf ps.length):(bP (gD ps) (.int i)>>=fun x=>bP x (.int 3))=.ok (.tuple ((av ps i).map .int))/\(av ps i).length<=24:=by
  obtain ⟨i0,i1⟩:=aX.mp hi;have P:=hpl _ (nh hi);refine ⟨?_,?_⟩
  · rw [lX i0 i1,R.ok_bind,kj,fZ]
  · have:=P.len;rw [fZ] at this;omega
theorem AA {f:Fe} {l:List (Int×Int)} {g:Int} {h:Int->Int×Int} (hf:∀ w:Int,f [.val (.int w),.val (.int g),.val (cy l)]=.ok (.bool (decide (h w∈l)))) {j:Int} (hj:j∈bf ps.length) :
    e1 mP (aY (dt (e2 bP (e2 bP (ag 2) (ag 3)) (eC (.int 3)))) 1 [0,1] (aG 0) (fun _=>.ok true) f) [.val (.int g),.val (cy l),.val (gD ps),.val (.int j)]=.ok (.bool ((av ps j).any fun w=>decide (h w∈l))):=by
  obtain ⟨a,b⟩:=jN hpl h24 hj;have hc:=jO (f:=f) (ρ:=[.val (.int g),.val (cy l)]) (h:=fun w=>.bool (decide (h w∈l))) (av ps j) fun w _=>hf w
  have a':e2 bP (e2 bP (ag 2) (ag 3)) (eC (.int 3)) [.val (.int g),.val (cy l),.val (gD ps),.val (.int j)]=.ok (.tuple ((av ps j).map .int)):=by
    rw [<- a];simp only [bZ,aD,ax,dO,R.ok_bind]
  rw [cv,bE,cE,a',R.ok_bind,eM,cB,R.ok_bind,if_pos (ce (by rw [List.length_map];omega)),show ao 1 [0,1] [.val (.int g),.val (cy l),.val (gD ps),.val (.int j)]=[.non,.val (.int g),.val (cy l)] from rfl,hc,dH,R.ok_bind,yQ]
theorem Ba {i j:Int} (hi:i∈bf ps.length) (hj:j∈bf ps.length) {l:List (Int×Int)} (C x5 x6 x7 x8:bq):E7 [.val (gD ps),C,.val (cy l),.val (.int i),.val (.int j),x5,x6,x7,x8]=.ok (.bool (yx ps l i j)):=by
  obtain ⟨a,b⟩:=jN hpl h24 hi;have hc:=jO (f:=e1 mP (aY (dt (e2 bP (e2 bP (ag 2) (ag 3)) (eC (.int 3)))) 1 [0,1] (aG 0) (fun _=>.ok true) (e2 (jE false) (dL (ah (ag 1) (ah (ag 0) az))) (c4 2)))) (ρ:=[.val (cy l),.val (gD ps),.val (.int j)]) (h:=fun g=>.bool ((av ps j).any fun w=>decide ((g,w)∈l))) (av ps i) fun g _ =>
    AA hpl h24 (l:=l) (g:=g) (h:=fun w=>(g,w)) (fun w=>by
      rw [bZ,yg (i:=g) (j:=w) rfl rfl,R.ok_bind,dn,dn,oS,R.ok_bind,wR]) hj
  have a':e2 bP (e2 bP (ag 0) (ag 3)) (eC (.int 3)) [.val (gD ps),C,.val (cy l),.val (.int i),.val (.int j),x5,x6,x7,x8]=.ok (.tuple ((av ps i).map .int)):=by
    rw [<- a];simp only [bZ,aD,ax,dO,R.ok_bind]
  unfold E7 gL;rw [cv,bE,cE,a',R.ok_bind,eM,cB,R.ok_bind,if_pos (ce (by rw [List.length_map];omega)),show ao 1 [2,0,4] [.val (gD ps),C,.val (cy l),.val (.int i),.val (.int j),x5,x6,x7,x8]=[.non,.val (cy l),.val (gD ps),.val (.int j)] from rfl,hc,dH,cB,R.ok_bind,tz];rfl
theorem A9 {i j:Int} (hi:i∈bf ps.length) (hj:j∈bf ps.length) {l:List (Int×Int)} (C x5 x6 x7 x8:bq):E6 [.val (gD ps),C,.val (cy l),.val (.int i),.val (.int j),x5,x6,x7,x8]=.ok (.bool (At ps l i j)):=by
  obtain ⟨a,b⟩:=jN hpl h24 hj;have hc:=jO (f:=e1 mP (aY (dt (e2 bP (e2 bP (ag 2) (ag 3)) (eC (.int 3)))) 1 [0,1] (aG 0) (fun _=>.ok true) (e2 (jE false) (dL (ah (ag 0) (ah (ag 1) az))) (c4 2)))) (ρ:=[.val (cy l),.val (gD ps),.val (.int i)]) (h:=fun w=>.bool ((av ps i).any fun g=>decide ((g,w)∈l))) (av ps j) fun w _ =>
    AA hpl h24 (l:=l) (g:=w) (h:=fun g=>(g,w)) (fun g=>by
      rw [bZ,yg (i:=g) (j:=w) rfl rfl,R.ok_bind,dn,dn,oS,R.ok_bind,wR]) hi
  have a':e2 bP (e2 bP (ag 0) (ag 4)) (eC (.int 3)) [.val (gD ps),C,.val (cy l),.val (.int i),.val (.int j),x5,x6,x7,x8]=.ok (.tuple ((av ps j).map .int)):=by
    rw [<- a];simp only [bZ,aD,ax,dO,R.ok_bind]
  unfold E6 gL;rw [cv,bE,cE,a',R.ok_bind,eM,cB,R.ok_bind,if_pos (ce (by rw [List.length_map];omega)),show ao 1 [2,0,3] [.val (gD ps),C,.val (cy l),.val (.int i),.val (.int j),x5,x6,x7,x8]=[.non,.val (cy l),.val (gD ps),.val (.int i)] from rfl,hc,dH,cB,R.ok_bind,tz];rfl
theorem yK {i j:Int} (hi:i∈bf ps.length) (hj:j∈bf ps.length) {l lf:List (Int×Int)} (hn:(i,j)∉lf) (hl:lf.length<=1000) (C x5 x7 x8:bq):∃ y7 y8,
    rO [.val (gD ps),C,.val (cy l),.val (.int i),.val (.int j),x5,.own (cy lf),x7,x8]=.ok (.nx [.val (gD ps),C,.val (cy l),.val (.int i),.val (.int j),x5,.own (cy (lf++if gS ps l (i,j)=true then [(i,j)] else [])),y7,y8]):=by
  refine ⟨.val (.bool (yx ps l i j)),.val (.bool (At ps l i j)),?_⟩;unfold rO;rw [bn (ρ':=[.val (gD ps),C,.val (cy l),.val (.int i),.val (.int j),x5,.own (cy lf),.val (.bool (yx ps l i j)),x8]) (by
    rw [cF,Ba hpl h24 hi hj];rfl)]
  rw [bn (ρ':=[.val (gD ps),C,.val (cy l),.val (.int i),.val (.int j),x5,.own (cy lf),.val (.bool (yx ps l i j)),.val (.bool (At ps l i j))]) (by
    rw [cF,A9 hpl h24 hi hj];rfl)]
  rw [gV];have ht:jW (tE (ag 7)) (tE (ag 8)) [.val (gD ps),C,.val (cy l),.val (.int i),.val (.int j),x5,.own (cy lf),.val (.bool (yx ps l i j)),.val (.bool (At ps l i j))]=.ok (gS ps l (i,j)):=by
    unfold gS;simp only [mr,gq,aD,ax,R.ok_bind,hU];cases yx ps l i j <;> rfl
  rw [ht,R.ok_bind];cases gS ps l (i,j) with
  | true =>
    rw [if_pos rfl,if_pos rfl,rd (q:=(i,j)) (yg rfl rfl) rfl rfl hn hl];rfl
  | false =>
    rw [if_neg (by simp),if_neg (by simp),List.append_nil];rfl
theorem wa {l:List (Int×Int)} (C x5:bq):∀ (ls:List (Int×Int)),(∀ q∈ls,q.1∈bf ps.length/\q.2∈bf ps.length)->ls.Nodup->∀ (lf:List (Int×Int)),(∀ q∈ls,q∉lf)->lf.length+ls.length<=1000->∀ x3 x4 x7 x8:bq,∃ y3 y4 y7 y8,
    e8 (eB 3 4) rO (ls.map mH) [.val (gD ps),C,.val (cy l),x3,x4,x5,.own (cy lf),x7,x8]=.ok (.nx [.val (gD ps),C,.val (cy l),y3,y4,x5,.own (cy (lf++ls.filter (gS ps l))),y7,y8])
  | [],_,_,lf,_,_,x3,x4,x7,x8=>⟨x3,x4,x7,x8,by rw [List.map_nil,eS,List.filter_nil,List.append_nil]⟩
  | q::ls,hq,hnd,lf,hl,hn,x3,x4,x7,x8=>by
    obtain ⟨nq,nd⟩:=List.nodup_cons.mp hnd;have hq0:=hq q List.mem_cons_self;obtain ⟨y7,y8,hb⟩:=yK hpl h24 (i:=q.1) (j:=q.2) hq0.1 hq0.2 (l:=l) (lf:=lf) (hl q List.mem_cons_self) (by omega) C x5 x7 x8;obtain ⟨z3,z4,z7,z8,e⟩:=wa C x5 ls (fun k hk=>hq k (List.mem_cons_of_mem _ hk)) nd (lf++if gS ps l (q.1,q.2)=true then [(q.1,q.2)] else []) (fun k hk z=>by
      rcases List.mem_append.mp z with z | z
      · exact hl k (List.mem_cons_of_mem _ hk) z
      · split at z
        · rw [List.mem_singleton.mp z] at hk;exact nq hk
        · cases z) (by
      rw [List.length_append];rw [List.length_cons] at hn;split <;> simp <;> omega) (.val (.int q.1)) (.val (.int q.2)) y7 y8
    refine ⟨z3,z4,z7,z8,?_⟩;rw [List.map_cons,uW];show (rO [.val (gD ps),C,.val (cy l),.val (.int q.1),.val (.int q.2),x5,.own (cy lf),x7,x8]>>=_)=_;rw [hb,R.ok_bind,eW,e];cases hs:gS ps l (q.1,q.2) with
    | true=>rw [List.filter_cons_of_pos hs,if_pos rfl,List.append_assoc];rfl
    | false=>rw [List.filter_cons_of_neg (by rw [show q=(q.1,q.2) from rfl,hs];simp),if_neg (by simp),List.append_nil]
noncomputable abbrev CM:Fs:=aU (gY 6 (eC (.dict [(.bool true,.none)]))) (aU (B6 2 (gW (iX (kc (ag 2)) (eB 3 4) rO))) (aU (cc 5 (e2 (lL) (e1 lK (c4 6)) (e1 lK (c4 2)))) (B6 6 (cc 2 (ag 6)))))
theorem Bb {l:List (Int×Int)} (hin:∀ q∈l,q.1∈bf ps.length/\q.2∈bf ps.length) (nd:l.Nodup) (hl:l.length<=1000) {c2:bq} (hc:c2=.own (cy l)\/c2=.val (cy l)) (C x3 x4 x5 x6 x7 x8:bq):∃ y3 y4 y6 y7 y8,
    CM [.val (gD ps),C,c2,x3,x4,x5,x6,x7,x8]=.ok (.nx [.val (gD ps),C,.val (cy (l.filter (gS ps l))),y3,y4,.val (.bool (!decide ((l.filter (gS ps l)).length=l.length))),y6,y7,y8]):=by
  obtain ⟨y3,y4,y7,y8,hf⟩:=wa hpl h24 (l:=l) C x5 l hin nd [] (fun _ _ z=>by cases z) (by simpa using hl) x3 x4 x7 x8;rw [List.nil_append] at hf;refine ⟨y3,y4,.val (cy (l.filter (gS ps l))),y7,y8,?_⟩;unfold CM;rw [bn (ρ':=[.val (gD ps),C,c2,x3,x4,x5,.own (cy []),x7,x8]) (by rfl)];have hfz:B6 2 (gW (iX (kc (ag 2)) (eB 3 4) rO)) [.val (gD ps),C,c2,x3,x4,x5,.own (cy []),x7,x8]=gW (iX (kc (ag 2)) (eB 3 4) rO) [.val (gD ps),C,.val (cy l),x3,x4,x5,.own (cy []),x7,x8]:=by
    rcases hc with rfl | rfl <;> rfl
  rw [bn (ρ':=[.val (gD ps),C,.val (cy l),y3,y4,x5,.own (cy (l.filter (gS ps l))),y7,y8]) (by
    rw [hfz,gX,fU];unfold kc;rw [aD,aD,ax,R.ok_bind,zp,R.ok_bind,hf];rfl)]
  rw [bn (ρ':=[.val (gD ps),C,.val (cy l),y3,y4,.val (.bool (!decide ((l.filter (gS ps l)).length=l.length))),.own (cy (l.filter (gS ps l))),y7,y8]) (by
    rw [cF];simp only [bZ,cv,dn,oS,jI,R.ok_bind,Bz,lM];rw [show decide (((l.filter (gS ps l)).length:Int)=(l.length:Int))=decide ((l.filter (gS ps l)).length=l.length) from decide_eq_decide.mpr (by omega)];rfl)]
  rfl
theorem ti:∀ (fuel:Nat) (l:List (Int×Int)),lc ps l->l.length+1 < fuel->l.length<=1000->∀ (c2:bq),(c2=.own (cy l)\/c2=.val (cy l))->∀ (C x3 x4 x6 x7 x8:bq),∃ l' y3 y4 y5 y6 y7 y8,lc ps l'/\(∀ q∈l',gS ps l' q=true) /\
    cZ (tE (ag 5)) CM fuel [.val (gD ps),C,c2,x3,x4,.val (.bool true),x6,x7,x8]=.ok (.nx [.val (gD ps),C,.val (cy l'),y3,y4,y5,y6,y7,y8])
  | 0,l,_,h,_,_,_,_,_,_,_,_,_=>absurd h (Nat.not_lt_zero _)
  | fuel+1,l,A,h,hl,c2,hc,C,x3,x4,x6,x7,x8=>by
    obtain ⟨y3,y4,y6,y7,y8,hb⟩:=Bb hpl h24 A.inn A.nd hl hc C x3 x4 (.val (.bool true)) x6 x7 x8;have ht:tE (ag 5) [.val (gD ps),C,c2,x3,x4,.val (.bool true),x6,x7,x8]=.ok true:=rfl;rw [iG,ht,R.ok_bind,if_pos rfl,hb,R.ok_bind,eW];by_cases e:(l.filter (gS ps l)).length=l.length
    · have all:∀ q∈l,gS ps l q=true:=List.filter_eq_self.mp (List.filter_sublist.eq_of_length e);have el:l.filter (gS ps l)=l:=List.filter_sublist.eq_of_length e;rw [decide_eq_true e,el]
      match fuel,h with
      | 0,h=>exact absurd h (by omega)
      | f+1,_ =>
        refine ⟨l,y3,y4,.val (.bool false),y6,y7,y8,A,all,?_⟩;rw [iG];rfl
    · have lt:(l.filter (gS ps l)).length < l.length:=Nat.lt_of_le_of_ne (List.length_filter_le ..) e;rw [decide_eq_false e];exact ti fuel (l.filter (gS ps l)) A.step (by omega) (by omega) _ (.inr rfl) C y3 y4 y6 y7 y8
theorem wc:∃ l,cq [gD ps]=.ok (cy l)/\lc ps l/\∀ q∈l,gS ps l q=true:=by
  obtain ⟨y3,y4,e0⟩:=wb (ps:=ps) h24 .non .non .non .non (bf ps.length) (fun _ h=>h) (fH (oZ _)) [] (fun _ z=>by cases z) (by
    rw [c5,List.length_nil,Nat.zero_add];have:ps.length<=24:=by omega
    exact Nat.le_trans (Nat.mul_le_mul this this) (by decide)) .non .non
  rw [List.nil_append] at e0;have hlen:(jb ps (bf ps.length)).length<=600:=by
    have a:=tj ps (bf ps.length);rw [c5] at a;have:ps.length<=24:=by omega
    exact Nat.le_trans a (Nat.le_trans (Nat.mul_le_mul this this) (by decide))
  obtain ⟨l,z3,z4,z5,z6,z7,z8,A,ok,hw⟩:=ti hpl h24 1000000 (jb ps (bf ps.length)) (a0 ps) (by omega) (by omega) _ (.inl rfl) (.val (.int ps.length)) y3 y4 .non .non .non;refine ⟨l,?_,A,ok⟩;unfold cq ia;refine gj ?_;show aU (cc 1 _) _ [.val (gD ps),.non,.non,.non,.non,.non,.non,.non,.non]=_;rw [bn (ρ':=[.val (gD ps),.val (.int ps.length),.non,.non,.non,.non,.non,.non,.non]) (by
    rw [cF,cv,ax,R.ok_bind,rV,List.length_map];rfl)]
  rw [bn (ρ':=[.val (gD ps),.val (.int ps.length),.own (cy []),.non,.non,.non,.non,.non,.non]) (by rfl)];rw [bn (ρ':=[.val (gD ps),.val (.int ps.length),.own (cy (jb ps (bf ps.length))),y3,y4,.non,.non,.non,.non]) (by
    show gW (iX (ff (ah (ag 1) az)) (aG 3) v8) _=_;rw [gX,fU,iP,aL,aD,ax,R.ok_bind,aV,R.ok_bind,R.ok_bind,zW ps.length (by omega),R.ok_bind,e0];rfl)]
  rw [bn (ρ':=[.val (gD ps),.val (.int ps.length),.own (cy (jb ps (bf ps.length))),y3,y4,.val (.bool true),.non,.non,.non]) (by rfl)];rw [bn (ρ':=[.val (gD ps),.val (.int ps.length),.val (cy l),z3,z4,z5,z6,z7,z8]) (by
    show gW (pk 1000000 (tE (ag 5)) CM) _=_;rw [gX];show kh (cZ (tE (ag 5)) CM 1000000 _)=_;rw [hw];rfl)]
  rfl
end
noncomputable abbrev gm (L:Int->Int) (n:Nat):PyData:=.tuple (tab (fun i=>.int (L i)) n)
theorem iR (L:Int->Int) (n:Nat):tab (fun i=>PyData.int (L i)) n=((bf n).map L).map .int:=by
  exact (List.map_map (f:=L) (g:=PyData.int) (l:=bf n)).symm
theorem ub {f:Fe} {ρ:ay} {g h:Int->PyData} {n:Nat} (hh:∀ i:Int,0<=i->i < n->f (.val (g i)::ρ)=.ok (h i)):bA (aG 0) (fun _=>.ok true) f (.non::ρ) (tab g n)=.ok (tab h n):=by
  have go:∀ is:List Int,(∀ i∈is,0<=i/\i < n)->bA (aG 0) (fun _=>.ok true) f (.non::ρ) (is.map g)=.ok (is.map h):=by
    intro is;induction is with
    | nil=>intro _;exact cH ..
    | cons i is ih =>
      intro hb;rw [List.map_cons,cM,ih fun x hx=>hb x (List.mem_cons_of_mem _ hx)];have:=hh i (hb i List.mem_cons_self).1 (hb i List.mem_cons_self).2;simp only [R.ok_bind,if_true,List.set_cons_zero,this];rfl
  exact go (bf n) fun i hi=>aX.mp hi
theorem ir {α:Type} [DecidableEq α] {s:Int->PyData} {S:Int->α} {n:Nat} (hn:n<=1000) (hg:∀ i,c9 (s i)) (hd:∀ i,(s i).depth<=60) (he:∀ i j,PyData.eqv (s i) (s j)=decide (S i=S j)):bh [.list (tab s n)]=.ok (gm (uS S n) n):=by
  have hx:∀ i:Int,0<=i->i < n->jH (ag 1) (ag 0) [.val (s i),.val (.list (tab s n))]=.ok (.int (uS S n i)):=fun i h0 h1=>by
    have hi:=aX.mpr ⟨h0,h1⟩;have ei:ke (tab s n) (s i)=(bf n).findIdx fun j=>decide (S j=S i):=by
      unfold ke tab;rw [List.findIdx_map];congr 1;funext j;exact he j i
    have hlt:ke (tab s n) (s i) < (tab s n).length:=by
      rw [ei,fV];have:=List.findIdx_lt_length_of_exists (p:=fun j=>decide (S j=S i)) ⟨i,hi,by simp⟩;rw [c5] at this;exact this
    have ho:jg (tab s n) (s i)=true:=by
      unfold jg;have a:PyData.canLayAll0 (tab s n)=true:=ip fun x hx=>by
        obtain ⟨j,_,rfl⟩:=List.mem_map.mp hx;exact hg j
      have c:=hd i;rw [a,show (s i).canLay0=true from hg i,decide_eq_true (show min (PyData.depthAll (tab s n)) (s i).depth<=60 by omega)];rfl
    unfold jH;simp only [aD,ax,R.ok_bind];show (if jg (tab s n) (s i)=true/\(tab s n).length<=1000/\ke (tab s n) (s i) < (tab s n).length then R.ok (PyData.int (ke (tab s n) (s i):Nat)) else .no)=_;rw [if_pos ⟨ho,by rw [fV];exact hn,hlt⟩,ei];rfl
  have hc:=ub (f:=jH (ag 1) (ag 0)) (ρ:=[.val (.list (tab s n))]) (g:=s) (h:=fun i=>.int (uS S n i)) (n:=n) hx;unfold bh fW;refine gj ?_;rw [show ([PyData.list (tab s n)].map bq.val++List.replicate (1 - [PyData.list (tab s n)].length) bq.non)=[.val (.list (tab s n))] from rfl];rw [ej,cv,bE,show ao 1 [0] [.val (.list (tab s n))]=[.non,.val (.list (tab s n))] from rfl];simp only [cE,ax,R.ok_bind,xR,cB];rw [if_pos (ce (by rw [fV];exact hn)),hc];rfl
theorem qK {p:P4} {L:Int->Int} {n:Nat} (hg:∀ x∈p.ns,x∈bf n) (hl:p.ns.length < 64):au [p.d,gm L n]=.ok (.list ((eT (p.ns.map L)).map .int)):=by
  have hm:=gk (f:=e2 bP (ag 1) (ag 0)) (ρ:=[.val (gm L n)]) (h:=L) p.ns fun g hg'=>by
    obtain ⟨h0,h1⟩:=aX.mp (hg g hg');simp only [bZ,ax,aD,R.ok_bind,AS h0 h1]
  unfold au eF;refine gj ?_;rw [show ([p.d,gm L n].map bq.val++List.replicate (2 - [p.d,gm L n].length) bq.non)=[.val p.d,.val (gm L n)] from rfl];rw [ej,cv,bE,show ao 1 [1] [.val p.d,.val (gm L n)]=[.non,.val (gm L n)] from rfl];simp only [cE,bZ,ax,dO,R.ok_bind,kj,eM,cB];rw [if_pos (ce (by rw [List.length_map];omega)),hm,dH,R.ok_bind,Cd (by rw [List.length_map];exact hl)];rfl
noncomputable def yw (ps:List P4) (L:Int->Int) (i:Int):PyData:=.tuple [.int (L i),.list ((eT ((av ps i).map L)).map .int)]
noncomputable def zZ (ps:List P4) (i:Int):PyData:=.tuple [.int (dw ps i),.int (eJ ps i)]
theorem B9 (ps:List P4) (L:Int->Int) (i j:Int):PyData.eqv (yw ps L i) (yw ps L j)=decide (Ab ps L i=Ab ps L j):=by
  unfold yw Ab;simp only [PyData.eqv,PyData.eqvAll,jL,Bool.and_true,Prod.mk.injEq,Bool.decide_and];congr 1
theorem B4 (ps:List P4) (i j:Int):PyData.eqv (zZ ps i) (zZ ps j)=decide (B2 ps i=B2 ps j):=by
  unfold zZ B2;simp only [PyData.eqv,PyData.eqvAll,Bool.and_true,Prod.mk.injEq,Bool.decide_and];congr 1
theorem Ac (ps:List P4) (L:Int->Int) (i:Int):c9 (yw ps L i):=cO.mpr fun x hx=>by
  simp only [List.mem_cons,List.not_mem_nil,or_false] at hx;rcases hx with rfl | rfl
  · exact fF _
  · have:=gO (eT ((av ps i).map L));simpa [c9,PyData.canLay0] using this
theorem z0 (ps:List P4) (i:Int):c9 (zZ ps i):=cO.mpr fun x hx=>by
  simp only [List.mem_cons,List.not_mem_nil,or_false] at hx;rcases hx with rfl | rfl <;> exact fF _
theorem B8 (ps:List P4) (L:Int->Int) (i:Int):(yw ps L i).depth<=60:=by simp [yw,PyData.depth,PyData.depthAll,(kb _).dep]
theorem B3 (ps:List P4) (i:Int):(zZ ps i).depth<=60:=by simp [zZ,PyData.depth,PyData.depthAll]
noncomputable def EK:Fs:=(aU (cc 1 (ag 2)) (cc 2 (aN bh (ah (aY (qC (ag 0)) 2 [1] (eB 0 1) (fun _=>.ok true) (dL (ah (e2 bP (ag 2) (ag 0)) (ah (aN au (ah (ag 1) (ah (ag 2) az))) az)))) az))))
section
variable {ps:List P4} (hpl:∀ p∈ps,Pl ps.length 12 p) (h24:(ps.length:Int)<=24)
include hpl h24
theorem w9 {L:Int->Int} {c1:bq}:EK [.val (gD ps),c1,.val (gm L ps.length)]=.ok (.nx [.val (gD ps),.val (gm L ps.length),.val (gm (mG ps L) ps.length)]):=by
  have s2:(2:Nat)<=sizeLine:=by decide
  have hfa:=ir (s:=yw ps L) (S:=Ab ps L) (n:=ps.length) (by omega) (Ac ps L) (B8 ps L) (B9 ps L);have hcm:=qz (fe:=dL (ah (e2 bP (ag 2) (ag 0)) (ah (aN au (ah (ag 1) (ah (ag 2) az))) az))) (ρ:=[.val (gm L ps.length)]) (g:=yq ps) (h:=yw ps L) ps.length 0 fun j _ hj=>by
    have h0:(0:Int)<=(j:Int):=by omega
    have h1:(j:Int) < ps.length:=by omega
    have hi:=aX.mpr ⟨h0,h1⟩;have P:=hpl _ (nh hi);have ep:yq ps j=(k7 ps j).d:=by
      unfold yq k7;rw [List.getElem?_eq_getElem (show (j:Int).toNat < ps.length by omega)];rfl
    have hle:(k7 ps j).ns.length < 64:=by have:=P.len;omega
    have hlk:=qK (p:=k7 ps j) (L:=L) (n:=ps.length) (fun x hx=>aX.mpr (P.inn x hx)) hle;rw [fZ] at hlk;rw [ep];simp only [gM,aL,aV,bZ,bQ,ax,aD,R.ok_bind,AS h0 h1,hlk,List.length_cons,List.length_nil,Nat.zero_add,Nat.reduceAdd,if_pos s2];rfl
  rw [zg,<- show ps.map P4.d=(bf ps.length).map (yq ps) from wM ps] at hcm;unfold EK;rw [bn (ρ':=[.val (gD ps),.val (gm L ps.length),.val (gm L ps.length)]) (by rfl)];rw [cF,bQ,aL,bE,show ao 2 [1] [.val (gD ps),.val (gm L ps.length),.val (gm L ps.length)]=[.non,.non,.val (gm L ps.length)] from rfl];simp only [wO,ax,R.ok_bind,eM,cB];rw [if_pos (by rw [iL,List.length_map];exact ce (by omega)),hcm,dH,R.ok_bind,aV,R.ok_bind,R.ok_bind];rw [show (bf ps.length).map (yw ps L)=tab (yw ps L) ps.length from rfl,hfa];rfl
theorem tS:∀ (k fuel:Nat) (L:Int->Int),kM ps L->(600-((bf ps.length).map L).sum).toNat<=k->k+1 < fuel ->
    ∃ L',cZ (tE (e2 (lL) (ag 2) (ag 1))) EK fuel [.val (gD ps),.val (gm L ps.length),.val (gm (mG ps L) ps.length)]=.ok (.nx [.val (gD ps),.val (gm L' ps.length),.val (gm (mG ps L') ps.length)])/\kM ps L'/\∀ i∈bf ps.length,mG ps L' i=L' i
  | k,0,L,_,_,h=>by omega
  | k,fuel+1,L,I,hk,hf=>by
    have ht:tE (e2 (lL) (ag 2) (ag 1)) [.val (gD ps),.val (gm L ps.length),.val (gm (mG ps L) ps.length)]=.ok (!decide ((bf ps.length).map (mG ps L)=(bf ps.length).map L)):=by
      have h:=AH ((bf ps.length).map (mG ps L)) ((bf ps.length).map L);rw [<- iR,<- iR] at h;simp only [gq,bZ,ax,aD,R.ok_bind];rw [h];rfl
    by_cases e:(bf ps.length).map (mG ps L)=(bf ps.length).map L
    · refine ⟨L,?_,I,fun i hi=>?_⟩
      · rw [iG,ht,decide_eq_true e];rfl
      · exact List.map_inj_left.mp e i hi
    · have I2:=Bq I;obtain ⟨_,lt⟩:=ya (f:=L) (g:=mG ps L) (bf ps.length) fun i hi=>DB I hi
      have lt:=lt fun z=>e z.symm
      have bd:=sO (f:=mG ps L) (c:=24) (bf ps.length) fun i hi=>by
        have:=aX.mp (I2.inn i hi);omega
      rw [c5] at bd;cases k with
      | zero=>omega
      | succ k =>
        obtain ⟨L',a,b,c⟩:=tS k fuel (mG ps L) I2 (by omega) (by omega);refine ⟨L',?_,b,c⟩;rw [iG,ht,decide_eq_false e,R.ok_bind,Bool.not_false,if_pos rfl,w9 hpl h24,R.ok_bind,eW];exact a
theorem qJ:∃ L,aS [gD ps]=.ok (gm L ps.length)/\kM ps L/\∀ i∈bf ps.length,mG ps L i=L i:=by
  have s2:(2:Nat)<=sizeLine:=by decide
  have I0:=FA ps;have bd:=sO (f:=wY ps) (c:=24) (bf ps.length) fun i hi=>by
    have:=aX.mp (I0.inn i hi);omega
  obtain ⟨L,a,b,c⟩:=tS hpl h24 600 999999 (wY ps) I0 (by omega) (by omega);have hfa:=ir (s:=zZ ps) (S:=B2 ps) (n:=ps.length) (by omega) (z0 ps) (B3 ps) (B4 ps);have hcm:=ub (f:=dL (ah (e2 bP (ag 0) (eC (.int 0))) (ah (e2 bP (ag 0) (eC (.int 1))) az))) (ρ:=[]) (g:=yq ps) (h:=zZ ps) (n:=ps.length) fun j h0 h1=>by
    have ep:yq ps j=(k7 ps j).d:=by
      unfold yq k7;rw [List.getElem?_eq_getElem (show j.toNat < ps.length by omega)];rfl
    rw [ep];simp only [gM,aL,aV,bZ,ax,dO,R.ok_bind,xo,xp,List.length_cons,List.length_nil,Nat.zero_add,Nat.reduceAdd,if_pos s2];unfold zZ;rw [sC,o7]
  rw [<- wM] at hcm;refine ⟨L,?_,b,c⟩;unfold aS ja;refine gj ?_;rw [show ([gD ps].map bq.val++List.replicate (3 - [gD ps].length) bq.non)=[.val (gD ps),.non,.non] from rfl];rw [bn (ρ':=[.val (gD ps),.val .none,.non]) (by rfl)];rw [bn (ρ':=[.val (gD ps),.val .none,.val (gm (wY ps) ps.length)]) (by
    rw [cF,bQ,aL,bE,show ao 1 [] [.val (gD ps),.val .none,.non]=[.non] from rfl];simp only [cE,ax,R.ok_bind,eM,cB];rw [if_pos (by rw [List.length_map];exact ce (by omega)),hcm,dH,R.ok_bind,aV,R.ok_bind,R.ok_bind,hfa];rfl)]
  rw [bn (ρ':=[.val (gD ps),.val (gm L ps.length),.val (gm (mG ps L) ps.length)]) (by
    rw [gX];show kh (cZ (tE (e2 (lL) (ag 2) (ag 1))) EK (999999+1) _)=_;have ht:tE (e2 (lL) (ag 2) (ag 1)) [.val (gD ps),.val .none,.val (gm (wY ps) ps.length)]=.ok true:=by
      have hg:c9 (gm (wY ps) ps.length):=by rw [show gm (wY ps) ps.length=.tuple (((bf ps.length).map (wY ps)).map .int) from congrArg PyData.tuple (iR _ _)];exact pA _
      have ho:jK (gm (wY ps) ps.length) .none=true:=by
        unfold jK;rw [show (gm (wY ps) ps.length).canLay0=true from hg];simp [PyData.canLay0,PyData.depth]
      have hn:lL (gm (wY ps) ps.length) .none=.ok (.bool true):=by
        unfold lL;rw [if_pos ho];rfl
      simp only [gq,bZ,ax,aD,R.ok_bind,hn,hU]
    rw [iG,ht,R.ok_bind,if_pos rfl,w9 hpl h24,R.ok_bind,eW,a];rfl)]
  rfl
end
noncomputable def zq (L:Int->Int) (p:P4):P4:=rq p (eT (p.ns.map L))
noncomputable abbrev hV (L:Int->Int) (n:Nat):List Int:=eT ((bf n).map L)
noncomputable abbrev qI (ps:List P4) (L:Int->Int):List P4:=ps.map (zq L)
noncomputable def Af (ps:List P4) (L:Int->Int):List P4:=(hV L ps.length).map (zR (qI ps L) (hV L ps.length))
theorem zE {ps:List P4} (hl:∀ p∈ps,p.ns.length<=100) (hp:ps.length<=100) {js:List Int} (hj:j5 ps.length js) (hne:js≠[]) (hw:∀ i∈js,∃ g∈av ps i,g∈js):cW [gD ps,.tuple (js.map .int)]=.ok (gD (js.map (zR ps js))):=by
  have hpb:md ps (.tuple (js.map .int))=true:=by
    have he:(js.map PyData.int).isEmpty=false:=by
      cases js with
      | nil=>exact absurd rfl hne
      | cons _ _=>rfl
    have hal:=vL (ps:=ps) (js:=js) fun i hi'=>by
      obtain ⟨g,g1,g2⟩:=hw i hi';exact ⟨g,List.mem_filter.mpr ⟨g1,fG.mpr g2⟩⟩
    simp only [md,k9 ps.length js 0 hj.lt hj.inn,he,bR,hal];rfl
  rw [sE hl hp (pA js),hpb,if_pos rfl];simp only [bR,Option.getD_some]
section
variable {ps:List P4} (hpl:∀ p∈ps,Pl ps.length 12 p) (h24:(ps.length:Int)<=24) (h1:1<=ps.length) {L:Int->Int} (I:kM ps L) (hs:∀ i∈bf ps.length,mG ps L i=L i)
include hpl h24 h1 I
theorem lT {x:Int}:x∈hV L ps.length<->∃ i∈bf ps.length,L i=x:=by rw [du,List.mem_map]
theorem eN:j5 ps.length (hV L ps.length):=⟨jm _,fun x hx=>by
  obtain ⟨i,hi,rfl⟩:=(lT hpl h24 h1 I).mp hx;exact aX.mp (I.inn i hi)⟩
theorem nO {i:Int} (hi:i∈bf ps.length):av (qI ps L) i=eT ((av ps i).map L):=by
  rw [<- fZ,wk hi,<- fZ];rfl
theorem jQ:(qI ps L).length=ps.length:=List.length_map ..
theorem w6:∀ p∈qI ps L,Pl (qI ps L).length 12 p:=fun p hp=>by
  rw [jQ hpl h24 h1 I];obtain ⟨q,hq,rfl⟩:=List.mem_map.mp hp;have P:=hpl q hq;refine ⟨P.w0,P.w1,P.m0,P.m1,P.g0,P.g1,fun z=>?_,jm _,fun x hx=>?_⟩
  · obtain ⟨g,hg⟩:=List.exists_mem_of_ne_nil _ P.ne;have:L g∈eT (q.ns.map L):=du.mpr (List.mem_map.mpr ⟨g,hg,rfl⟩);rw [show eT (q.ns.map L)=[] from z] at this;cases this
  · obtain ⟨g,hg,rfl⟩:=List.mem_map.mp (du.mp hx);exact aX.mp (I.inn g (aX.mpr (P.inn g hg)))
theorem qA:∀ i∈hV L ps.length,∃ g∈av (qI ps L) i,g∈hV L ps.length:=fun i hi=>by
  have hi':=aX.mpr ((eN hpl h24 h1 I).inn i hi);have P:=hpl _ (nh hi');obtain ⟨g,hg⟩:=List.exists_mem_of_ne_nil _ P.ne;have hgi:=aX.mpr (P.inn g hg);rw [fZ] at hg;refine ⟨L g,?_,(lT hpl h24 h1 I).mpr ⟨g,hgi,rfl⟩⟩;rw [nO hpl h24 h1 I hi'];exact du.mpr (List.mem_map.mpr ⟨g,hg,rfl⟩)
theorem Ay:hV L ps.length≠[]:=fun z=>by
  have:L 0∈hV L ps.length:=(lT hpl h24 h1 I).mpr ⟨0,aX.mpr ⟨by omega,by omega⟩,rfl⟩;rw [z] at this;cases this
theorem uV (hlk:aS [gD ps]=.ok (gm L ps.length)):dD [gD ps]=.ok (gD (Af ps L)):=by
  have hcm:=kZ (f:=aN aH (ah (ag 0) (ah (aN au (ah (ag 0) (ah (ag 1) az))) az))) (ρ:=[.val (gm L ps.length)]) (h:=fun p=>(zq L p).d) ps fun q hq=>by
    have P:=hpl q hq;have hle:q.ns.length < 64:=by have:=P.len;omega
    have a:=qK (p:=q) (L:=L) (n:=ps.length) (fun x hx=>aX.mpr (P.inn x hx)) hle;have b:=i7 q (eT (q.ns.map L));simp only [bQ,aL,aV,ax,aD,R.ok_bind,a,b];rfl
  have hpt:=zE (ps:=qI ps L) (js:=hV L ps.length) (fun p hp=>by
    have:=(w6 hpl h24 h1 I p hp).len;rw [jQ hpl h24 h1 I] at this;omega) (by rw [jQ hpl h24 h1 I];omega) (by rw [jQ hpl h24 h1 I];exact eN hpl h24 h1 I) (Ay hpl h24 h1 I) (qA hpl h24 h1 I)
  have hss:=FP (ms:=(bf ps.length).map L) (by rw [List.length_map,c5];omega);rw [<- iR] at hss;unfold dD lj;refine gj ?_;rw [show ([gD ps].map bq.val++List.replicate (3 - [gD ps].length) bq.non)=[.val (gD ps),.non,.non] from rfl];rw [bn (ρ':=[.val (gD ps),.val (gm L ps.length),.non]) (by
    rw [cF,bQ,aL,ax,R.ok_bind,aV,R.ok_bind,R.ok_bind,hlk];rfl)]
  rw [bn (ρ':=[.val (gD ps),.val (gm L ps.length),.val (gD (qI ps L))]) (by
    rw [cF,cv,bE,show ao 1 [1] [.val (gD ps),.val (gm L ps.length),.non]=[.non,.val (gm L ps.length)] from rfl];simp only [cE,ax,R.ok_bind,eM,cB];rw [if_pos (by rw [List.length_map];exact ce (by omega)),hcm,dH,R.ok_bind,dE,R.ok_bind];show R.ok (oq.nx [.val (gD ps),.val (gm L ps.length),.val (.tuple (ps.map fun p=>(zq L p).d))])=.ok (.nx [.val (gD ps),.val (gm L ps.length),.val (.tuple ((ps.map (zq L)).map P4.d))]);rw [List.map_map];rfl)]
  rw [ej,bQ,aL,aD,aD,ax,R.ok_bind,aL,cv,cv,aD,ax,R.ok_bind,hss,R.ok_bind,dE,R.ok_bind,aV,R.ok_bind,R.ok_bind,R.ok_bind,hpt];rfl
theorem sM:(Af ps L).length=(hV L ps.length).length:=List.length_map ..
theorem D5:∀ p∈Af ps L,Pl (Af ps L).length 12 p:=fun p hp=>by
  rw [sM hpl h24 h1 I];obtain ⟨i,hi,rfl⟩:=List.mem_map.mp hp;exact DO (w6 hpl h24 h1 I) (by omega) (by rw [jQ hpl h24 h1 I];exact aX.mpr ((eN hpl h24 h1 I).inn i hi)) (eN hpl h24 h1 I).lt (qA hpl h24 h1 I i hi)
theorem D4:(Af ps L).length<=ps.length:=by
  rw [sM hpl h24 h1 I];exact (eN hpl h24 h1 I).len
theorem FO:1<=(Af ps L).length:=by
  rw [sM hpl h24 h1 I];exact List.length_pos_iff.mpr (Ay hpl h24 h1 I)
end
theorem nW (t:PyData) (c:Int):∀ (ds:List PyData) (l:Int) (x:bq),(∀ d∈ds,noD d) ->
    ∃ ρ,e8 (aG 3) (aU (kG (kU (dP (tE (e1 (cV .int) (ag 3)))) (kU (tE (e1 (cV .bool) (ag 3))) (dP (tE (gK (fE AI) (fE AI) (ag 2) (ag 3) (ag 1)))))) (cJ (eC (.bool false))) dg) (cc 2 (ag 3))) ds
      [.val t,.val (.int c),.val (.int l),x]=if dF c (l+1) ds=true then .ok (.nx ρ) else .ok (.rt (.bool false))
  | [],l,x,_=>⟨_,by rw [eS];rfl⟩
  | d::ds,l,x,h=>by
    have hd:=h d List.mem_cons_self;cases d with
    | int i =>
      obtain ⟨ρ,e⟩:=nW t c ds i (.val (.int i)) fun d hd=>h d (List.mem_cons_of_mem _ hd)
      refine ⟨ρ,?_⟩;rw [dq];by_cases h1:l < i
      · by_cases h2:i < c
        · have hr:dF c (l+1) (.int i::ds)=dF c (i+1) ds:=by
            simp only [dF];rw [decide_eq_true (show l+1<=i by omega),decide_eq_true h2];simp
          rw [hr,<- e];simp [cV,kX,h1,h2]
        · have hr:dF c (l+1) (.int i::ds)=false:=by
            simp only [dF];rw [decide_eq_false h2];simp
          rw [hr];simp [cV,kX,h1,h2]
      · have hr:dF c (l+1) (.int i::ds)=false:=by
          simp only [dF];rw [decide_eq_false (show ¬ l+1<=i by omega)];simp
        rw [hr];simp [cV,kX,h1]
    | dict k=>exact hd.elim
    | _=>exact ⟨[],by rw [dq];simp [cV,kX,dF]⟩
theorem vz {d:PyData} (c:Int) (hg:c9 d):cb [d,.int c]=.ok (.bool (xX c d)):=by
  unfold cb gA;rw [dC];cases d with
  | tuple ds =>
    obtain ⟨ρ,e⟩:=nW (.tuple ds) c ds (-1) .non fun x hx=>(cO.mp hg x hx).noD
    simp [cV,kX,fU,List.replicate];rw [e];have e0:dF c (-1+1) ds=dF c 0 ds:=rfl;rw [e0];cases dF c 0 ds <;> simp
  | dict k=>exact hg.noD.elim
  | _=>simp [cV,kX,List.replicate]
theorem ki {d:PyData} (h:noD d) (lo hi:Int):bC [d,.int lo,.int hi]=.ok (.bool (mF d lo hi)):=by
  unfold bC gz;rw [dC];cases d with
  | int i =>
    by_cases h1:lo<=i <;> by_cases h2:i<=hi <;> simp [cV,kX,h1,h2,mF]
  | dict k=>cases h
  | _=>simp [cV,kX,mF]
theorem vj {d:PyData} {c:Int} (hg:c9 d):bi [d,.int c]=.ok (.bool (dZ c d)):=by
  unfold bi fA;rw [dC];cases d with
  | tuple ds =>
    match ds,hg with
    | [w,m,g,s],hg =>
      have h:=cO.mp hg;have hw:=(h w (by simp)).noD;have hm:=(h m (by simp)).noD;have hgn:=(h g (by simp)).noD;have hs:=h s (by simp);have i0:bP (.tuple [w,m,g,s]) (.int 0)=.ok w:=rfl;have i1:bP (.tuple [w,m,g,s]) (.int 1)=.ok m:=rfl;have i2:bP (.tuple [w,m,g,s]) (.int 2)=.ok g:=rfl;have i3:bP (.tuple [w,m,g,s]) (.int 3)=.ok s:=rfl;simp [cV,kX,lM,i0,i1,i2,i3,ki hw,ki hm,ki hgn,vz c hs,xg hs,dZ];cases mF w 0 1 <;> cases mF m 0 12 <;> cases mF g (-20) 20 <;> simp;cases s with
      | tuple ds =>
        cases ds with
        | nil=>simp [jf,dF]
        | cons a r =>
          simp [jf];cases dF c 0 (a::r) <;> simp
      | _=>simp [jf]
    | [],_=>simp [cV,kX,lM,dZ]
    | [a],_=>simp [cV,kX,lM,dZ]
    | [a,b],_=>simp [cV,kX,lM,dZ]
    | [a,b,c],_=>simp [cV,kX,lM,dZ]
    | a::b::c::d::e::r,_ =>
      have:¬ ((r.length:Int)+1+1+1+1+1=4):=by omega
      simp [cV,kX,lM,dZ,this]
  | dict k=>exact hg.noD.elim
  | _=>simp [cV,kX,dZ]
theorem sr {d:PyData} (hg:c9 d):aQ [d]=.ok (.bool (iO d)):=by
  unfold aQ eZ;rw [dC];cases d with
  | tuple ds =>
    have h:=cO.mp hg;by_cases h1:1<=ds.length
    · by_cases h2:ds.length<=24
      · have h1':(0:Int) < ds.length:=by omega
        have h2':(ds.length:Int) < 25:=by omega
        have hc:bA (aG 0) (dP (tE (aN bi (ah (ag 0) (ah (e1 eG (ag 1)) az))))) (ag 0) (ao 1 [0] [.val (.tuple ds)]) ds=.ok ((ds.filter fun d=>!dZ ds.length d).map id) :=
          jC _ _ _ _ (fun d=>!dZ ds.length d) id _ (fun d hd=>by simp [ao,List.replicate,vj (c:=(ds.length:Int)) (h d hd)]) fun d hd _=>by simp [ao,List.replicate]
        rw [List.map_id] at hc;have he:=wJ (xs:=ds.filter fun d=>!dZ ds.length d) fun x hx=>h x ((List.mem_filter.mp hx).1)
        rw [ky] at he;simp [cV,kX,bE,ce (show ds.length<=1000 by omega),hc,iO,h1,h2,h2',he];intro e;rw [e] at h1;simp at h1
      · have h2':¬ (ds.length:Int) < 25:=by omega
        have h1':(0:Int) < ds.length:=by omega
        simp [cV,kX,h1',h2',iO,h2]
    · have h1':¬ (0:Int) < ds.length:=by omega
      have h0:ds=[]:=List.eq_nil_of_length_eq_zero (by omega);subst h0;simp [cV,kX,iO]
  | dict k=>exact hg.noD.elim
  | _=>simp [cV,kX,iO]
theorem zD (p:P4):c9 p.d:=by
  refine cO.mpr fun x hx=>?_
  simp only [List.mem_cons,List.not_mem_nil,or_false] at hx;rcases hx with rfl | rfl | rfl | rfl
  · exact fF _
  · exact fF _
  · exact fF _
  · exact pA _
theorem tK (ps:List P4):c9 (gD ps):=cO.mpr fun d hd=>by
  obtain ⟨p,_,rfl⟩:=List.mem_map.mp hd;exact zD p
theorem xn (p:P4):p.d.depth<=2:=by simp [P4.d,PyData.depth,PyData.depthAll,(kb p.ns).dep]
theorem qB:∀ ps:List P4,PyData.depthAll (ps.map P4.d)<=2
  | []=>by simp [PyData.depthAll]
  | p::ps=>by
    have ih:=qB ps;have h:=xn p;rw [List.map_cons,PyData.depthAll];omega
theorem Bo (ps:List P4):(gD ps).depth<=60:=by
  have:=qB ps;simp only [PyData.depth];omega
theorem wq {i lo hi:Int} (h0:lo<=i) (h1:i<=hi):mF (.int i) lo hi=true:=by simp [mF,h0,h1]
theorem xA {c:Int} {p:P4} (h:Pl c 12 p):dZ c p.d=true:=by
  have h4:jf c (.tuple (p.ns.map .int))=true:=by
    have e:(p.ns.map PyData.int).isEmpty=false:=by
      cases hn:p.ns with
      | nil=>exact absurd hn h.ne
      | cons _ _=>rfl
    simp only [jf,k9 c p.ns 0 h.so h.inn,e];rfl
  show (mF (.int p.w) 0 1&&(mF (.int p.m) 0 12&&(mF (.int p.g) (-20) 20&&jf c (.tuple (p.ns.map .int)))))=true;rw [wq h.w0 h.w1,wq h.m0 h.m1,wq h.g0 h.g1,h4];rfl
theorem u0 {ps:List P4} (h1:1<=ps.length) (h24:ps.length<=24) (hP:∀ p∈ps,Pl ps.length 12 p):iO (gD ps)=true:=by
  show ((decide (1<=(ps.map P4.d).length)&&decide ((ps.map P4.d).length<=24))&&(ps.map P4.d).all (dZ ((ps.map P4.d).length:Int)))=true;rw [List.length_map,decide_eq_true h1,decide_eq_true h24,List.all_map];rw [show (true&&true)=true from rfl,Bool.true_and,List.all_eq_true];exact fun p hp=>xA (hP p hp)
theorem vh {ps:List P4} (h1:1<=ps.length) (h24:ps.length<=24) (hP:∀ p∈ps,Pl ps.length 12 p):aQ [gD ps]=.ok (.bool true):=by rw [sr (tK ps),u0 h1 h24 hP]
theorem kJ:∀ {ns:List Int},(∀ x∈ns,0<=x/\x < 1000)->PyData.weightAll (ns.map .int)<=12*ns.length
  | [],_=>by simp [PyData.weightAll]
  | n::ns,h=>by
    have ih:=kJ fun x hx=>h x (List.mem_cons_of_mem _ hx)
    have hn:=h n List.mem_cons_self;have h1:PyData.weight (.int n)<=11:=by
      simp only [PyData.weight];split
      · omega
      · rename_i hz;have h2:n.natAbs≠0:=by
          intro z;apply hz;have:n=0:=by omega
          rw [this];rfl
        have:=(Nat.log2_lt h2 (k:=10)).mpr (by omega);omega
    simp only [List.map_cons,PyData.weightAll,List.length_cons];omega
theorem w5 {ns:List Int} (h:ns.length<=1000) (hb:∀ x∈ns,0<=x/\x < 1000):PyData.layable0 (.list (ns.map .int))=true:=by
  have hw:=kJ hb;have e1:(PyData.list (ns.map .int)).canLay0=true:=by simp only [PyData.canLay0];exact gO ns
  have e2:(PyData.list (ns.map .int)).depth<=64:=by simp only [PyData.depth,fQ];omega
  have e3:(PyData.list (ns.map .int)).weight<=2 ^ 20:=by simp only [PyData.weight];omega
  unfold PyData.layable0;rw [e1,decide_eq_true e2,decide_eq_true e3];rfl
theorem sf {ns:List Int} {k:Int} (h:ns.length<=1000) (hb:∀ x∈ns,0<=x/\x < 1000) (hk:k∈ns):gH (.list (ns.map .int)) (.int k)=.ok (.int (ns.idxOf k:Nat)):=by
  show (match bz (ns.map .int) with | some ns'=>if PyData.layable0 (.list (ns.map .int))=true/\k∈ns' then R.ok (PyData.int (ns'.idxOf k:Nat)) else .no | none=>.no)=_;rw [bR];exact if_pos ⟨w5 h hb,hk⟩
noncomputable def EO (v:Int) (p:P4):P4:=⟨v / 4%2,3,p.g,p.ns⟩
theorem mT (p:P4):yo p.d none (some 3)=.ok (.tuple [.int p.w,.int p.m,.int p.g]):=rfl
theorem Aq (x y z u:PyData):cY (.tuple [x,y,z]) (.tuple [u])=.ok (.tuple [x,y,z,u]):=by
  rw [wz,if_pos (show [x,y,z].length+[u].length<=sizeLine from (by decide:4<=sizeLine))];rfl
theorem yh {ps:List P4} {hi v:Int} (hpl:∀ p∈ps,Pl ps.length hi p) (h12:hi<=12) (h1:1<=ps.length) (h10:(ps.length:Int)<=10):∃ qs:List P4,cu [gD ps,.int v]=.ok (gD qs)/\(∀ q∈qs,Pl qs.length 12 q)/\1<=qs.length/\(qs.length:Int)<=24:=by
  unfold cu ij;have l0:eG (gD ps)=.ok (.int ps.length):=by simp
  have e4:dQ (.int v) (.int 4)=.ok (.int (v%4)):=by rw [wD,if_pos (by omega)]
  have hsz:(ps.map P4.d).length<=sizeLine:=ce (by rw [List.length_map];omega);by_cases c0:v%4=0
  · have hlen2:(ps++ps.map (Ca ps.length)).length=ps.length+ps.length:=by rw [List.length_append,List.length_map]
    refine ⟨ps++ps.map (Ca ps.length),?_,fun p hp=>?_,by rw [hlen2];omega,by rw [hlen2];omega⟩
    · refine gj ?_;show aU (kG _ _ _) _ [.val (gD ps),.val (.int v),.non,.non]=_;refine xS ?_;rw [gV];have ht:jW (tE (e2 (ka) (e2 dQ (ag 1) (eC (.int 4))) (eC (.int 0)))) (tE (e2 (fE yr) (e1 eG (ag 0)) (eC (.int 12)))) [.val (gD ps),.val (.int v),.non,.non]=.ok true:=by
        have hb:yr (ps.length:Int) 12=true:=by simp;omega
        simp only [mr,gq,bZ,cv,aD,ax,dO,R.ok_bind,e4,c0,kx,decide_true,hU,if_true,l0,wA,hb]
      rw [ht,R.ok_bind,if_pos rfl];rw [bn (ρ':=[.val (gD ps),.val (.int v),.val (.int ps.length),.non]) (by
        rw [cF,cv,ax,R.ok_bind,l0];rfl)]
      have hc:=kZ (f:=e2 cY (uM (ag 0) gn (gp (eC (.int 3)))) (dL (ah (e1 cA (aY (dt (e2 bP (ag 0) (eC (.int 3)))) 1 [1] (aG 0) (fun _=>.ok true) (e2 cY (ag 0) (ag 1)))) az))) (ρ:=[.val (.int ps.length)]) (h:=fun p=>(Ca ps.length p).d) ps fun p hm=>by
        have s1:1<=sizeLine:=by decide
        have hl:=(hpl p hm).len;have hi':=gk (f:=e2 cY (ag 0) (ag 1)) (ρ:=[.val (.int ps.length)]) (h:=fun x=>x+(ps.length:Int)) p.ns fun x _=>rfl
        have he:aY (dt (e2 bP (ag 0) (eC (.int 3)))) 1 [1] (aG 0) (fun _=>.ok true) (e2 cY (ag 0) (ag 1)) [.val p.d,.val (.int ps.length)]=.ok (.list ((p.ns.map fun x=>x+(ps.length:Int)).map .int)):=by
          rw [bE,cE,bZ,ax,R.ok_bind,dO,R.ok_bind,kj,R.ok_bind,eM,cB,R.ok_bind,if_pos (ce (by rw [List.length_map];omega)),show ao 1 [1] [.val p.d,.val (.int ps.length)]=[.non,.val (.int ps.length)] from rfl,hi'];rfl
        rw [bZ,rX,ax,R.ok_bind,l7,R.ok_bind,l8,dO,R.ok_bind,wj,R.ok_bind,R.ok_bind,mT,R.ok_bind,gM,aL,cv,he,R.ok_bind,dE,R.ok_bind,aV,R.ok_bind,R.ok_bind];rw [if_pos (show [PyData.tuple ((p.ns.map fun x=>x+(ps.length:Int)).map .int)].length<=sizeLine from s1),R.ok_bind,Aq];rfl
      rw [bn (ρ':=[.val (gD ps),.val (.int v),.val (.int ps.length),.val (.list (ps.map fun p=>(Ca ps.length p).d))]) (by
        rw [cF,bE,cE,ax,R.ok_bind,eM,cB,R.ok_bind,if_pos hsz,show ao 1 [2] [.val (gD ps),.val (.int v),.val (.int ps.length),.non]=[.non,.val (.int ps.length)] from rfl,hc];rfl)]
      rw [ej,bZ,ax,R.ok_bind,cv,aD,aD,aD,ax,R.ok_bind,dE,R.ok_bind,wz,if_pos (ce (by rw [List.length_map,List.length_map];omega)),R.ok_bind];show R.ok (oq.rt (PyData.tuple (ps.map P4.d++ps.map fun q=>(Ca ps.length q).d)))=.ok (.rt (.tuple ((ps++ps.map (Ca ps.length)).map P4.d)));rw [List.map_append,List.map_map];rfl
    · rw [hlen2];rcases List.mem_append.mp hp with z | z
      · exact AV (hpl p z) (by omega) h12
      · obtain ⟨q,hq,rfl⟩:=List.mem_map.mp z;exact D3 (hpl q hq) h12 (by omega) (by omega)
  · have first:kG (jW (tE (e2 (ka) (e2 dQ (ag 1) (eC (.int 4))) (eC (.int 0)))) (tE (e2 (fE yr) (e1 eG (ag 0)) (eC (.int 12))))) (aU (cc 2 (e1 eG (ag 0))) (aU (cc 3 (aY (dt (ag 0)) 1 [2] (aG 0) (fun _=>.ok true) (e2 cY (uM (ag 0) gn (gp (eC (.int 3)))) (dL (ah (e1 cA (aY (dt (e2 bP (ag 0) (eC (.int 3)))) 1 [1] (aG 0) (fun _=>.ok true) (e2 cY (ag 0) (ag 1)))) az))))) (cJ (e2 cY (ag 0) (e1 cA (ag 3)))))) dg [.val (gD ps),.val (.int v),.non,.non]=.ok (.nx [.val (gD ps),.val (.int v),.non,.non]):=by
      rw [gV];have ht:jW (tE (e2 (ka) (e2 dQ (ag 1) (eC (.int 4))) (eC (.int 0)))) (tE (e2 (fE yr) (e1 eG (ag 0)) (eC (.int 12)))) [.val (gD ps),.val (.int v),.non,.non]=.ok false:=by
        simp only [mr,gq,bZ,aD,ax,dO,R.ok_bind,e4,kx,decide_eq_false c0,hU,Bool.false_eq_true,if_false]
      rw [ht,R.ok_bind];rfl
    by_cases c1:v%4=1
    · refine ⟨ps.map (EO v),?_,fun p hp=>?_,by rw [List.length_map];exact h1,by rw [List.length_map];omega⟩
      · refine gj ?_;show aU (kG _ _ _) _ [.val (gD ps),.val (.int v),.non,.non]=_;rw [bn first];refine xS ?_;rw [gV];have ht:tE (e2 (ka) (e2 dQ (ag 1) (eC (.int 4))) (eC (.int 1))) [.val (gD ps),.val (.int v),.non,.non]=.ok true:=by
          simp only [gq,bZ,aD,ax,dO,R.ok_bind,e4,c1,kx,decide_true,hU]
        rw [ht,R.ok_bind,if_pos rfl];have s4:4<=sizeLine:=by decide
        have hc:=kZ (f:=dL (ah (e2 dQ (e2 j9 (ag 1) (eC (.int 4))) (eC (.int 2))) (ah (eC (.int 3)) (ah (e2 bP (ag 0) (eC (.int 2))) (ah (e2 bP (ag 0) (eC (.int 3))) az))))) (ρ:=[.val (.int v)]) (h:=fun p=>(EO v p).d) ps fun p hm=>by
          have d1:j9 (.int v) (.int 4)=.ok (.int (v / 4)):=by rw [Be,if_pos (by omega)]
          have d2:dQ (.int (v / 4)) (.int 2)=.ok (.int (v / 4%2)):=by rw [wD,if_pos (by omega)]
          simp only [gM,aL,aV,bZ,aD,ax,dO,R.ok_bind,xq,kj,d1,d2,List.length_cons,List.length_nil,Nat.zero_add,Nat.reduceAdd,if_pos s4];rfl
        rw [ej,cv,bE,cE,ax,R.ok_bind,eM,cB,R.ok_bind,if_pos hsz,show ao 1 [1] [.val (gD ps),.val (.int v),.non,.non]=[.non,.val (.int v)] from rfl,hc,dH,R.ok_bind,dE,R.ok_bind];show R.ok (oq.rt (PyData.tuple (ps.map fun p=>(EO v p).d)))=.ok (.rt (.tuple ((ps.map (EO v)).map P4.d)));rw [List.map_map];rfl
      · obtain ⟨q,hq,rfl⟩:=List.mem_map.mp hp;have h:=hpl q hq;rw [List.length_map];exact ⟨by show 0<=v / 4%2;omega,by show v / 4%2<=1;omega,by show (0:Int)<=3;omega,by show (3:Int)<=12;omega,h.g0,h.g1,h.ne,h.so,h.inn⟩
    · refine ⟨ps,?_,fun p hp=>AV (hpl p hp) (Int.le_refl _) h12,h1,by omega⟩;refine gj ?_;show aU (kG _ _ _) _ [.val (gD ps),.val (.int v),.non,.non]=_;rw [bn first];rw [bn (ρ':=[.val (gD ps),.val (.int v),.non,.non]) (by
        rw [gV];have ht:tE (e2 (ka) (e2 dQ (ag 1) (eC (.int 4))) (eC (.int 1))) [.val (gD ps),.val (.int v),.non,.non]=.ok false:=by
          simp only [gq,bZ,aD,ax,dO,R.ok_bind,e4,kx,decide_eq_false c1,hU]
        rw [ht,R.ok_bind];rfl)]
      rfl
section
variable {ps:List P4} (hpl:∀ p∈ps,Pl ps.length 12 p) (h24:(ps.length:Int)<=24) (h1:1<=ps.length) {L:Int->Int} (I:kM ps L) (hs:∀ i∈bf ps.length,mG ps L i=L i) {l:List (Int×Int)} (A:lc ps l) (ok:∀ q∈l,gS ps l q=true)
include hpl h24 I hs A ok
theorem xc {i:Int} (hi:i∈bf ps.length):qq (.list (((bf ps.length).filter fun j=>decide ((i,j)∈l)).map .int))=.ok (.int (L i)):=by
  have hm:L i∈(bf ps.length).filter fun j=>decide ((i,j)∈l):=List.mem_filter.mpr ⟨I.inn i hi,decide_eq_true ((nc I hpl hs A ok hi (I.inn i hi)).mpr (I.idem i hi).symm)⟩
  have hle:∀ j∈(bf ps.length).filter fun j=>decide ((i,j)∈l),L i<=j:=fun j hj=>by
    obtain ⟨a,b⟩:=List.mem_filter.mp hj;exact I.least i hi j a ((nc I hpl hs A ok hi a).mp (of_decide_eq_true b)).symm
  generalize (bf ps.length).filter (fun j=>decide ((i,j)∈l))=ms at *;show (match bz (ms.map .int) with | some (n::ns)=>R.ok (PyData.int (qL n ns)) | _=>.no)=_;rw [bR];cases ms with
  | nil=>cases hm
  | cons m ms =>
    obtain ⟨a,b⟩:=nP m ms;have c:=hle _ a;have d:=b _ hm;show R.ok (PyData.int (qL m ms))=_;rw [show qL m ms=L i by omega]
noncomputable abbrev EL:Fs:=fT 4 (e1 qq (aY (ff (ah (ag 3) az)) 1 [5,2] (aG 0) (tE (e2 (jE false) (dL (ah (ag 1) (ah (ag 0) az))) (ag 2))) (ag 0)))
theorem tT (S x6 x7 x8 x9 x10:bq):∀ (is:List Int),(∀ i∈is,i∈bf ps.length)->∀ (ds:List Int),ds.length+is.length<=100->∀ x5:bq,∃ y5,
    e8 (aG 5) EL (is.map .int) [S,.val (gD ps),.val (cy l),.val (.int ps.length),.own (.list (ds.map .int)),x5,x6,x7,x8,x9,x10]=.ok (.nx [S,.val (gD ps),.val (cy l),.val (.int ps.length),.own (.list ((ds++is.map L).map .int)),y5,x6,x7,x8,x9,x10])
  | [],_,ds,_,x5=>⟨x5,by rw [List.map_nil,eS,List.map_nil,List.append_nil]⟩
  | i::is,hi,ds,hl,x5=>by
    obtain ⟨y5,e⟩:=tT S x6 x7 x8 x9 x10 is (fun k hk=>hi k (List.mem_cons_of_mem _ hk)) (ds++[L i]) (by rw [List.length_append];rw [List.length_cons] at hl;simp;omega) (.val (.int i));refine ⟨y5,?_⟩;have hc:=iu (t:=tE (e2 (jE false) (dL (ah (ag 1) (ah (ag 0) az))) (ag 2))) (ρ:=[.val (.int i),.val (cy l)]) (p:=fun j=>decide ((i,j)∈l)) (bf ps.length) fun j _=>by
      show tE _ [.val (.int j),.val (.int i),.val (cy l)]=_;rw [gq,bZ,yg (i:=i) (j:=j) rfl rfl,R.ok_bind,aD,aD,ax,R.ok_bind,wR];rfl
    have hb:EL [S,.val (gD ps),.val (cy l),.val (.int ps.length),.own (.list (ds.map .int)),.val (.int i),x6,x7,x8,x9,x10]=.ok (.nx [S,.val (gD ps),.val (cy l),.val (.int ps.length),.own (.list ((ds++[L i]).map .int)),.val (.int i),x6,x7,x8,x9,x10]):=by
      unfold EL;rw [nX _ (ds:=ds.map .int) rfl (by rw [List.length_map];exact Nat.lt_of_le_of_lt (show ds.length<=100 by omega) (by decide))];rw [cv,bE,iP,aL,aD,aD,aD,ax,R.ok_bind,aV,R.ok_bind,R.ok_bind,zW ps.length (by omega),cB,R.ok_bind,if_pos (ce (by rw [List.length_map,c5];omega))];rw [show ao 1 [5,2] [S,.val (gD ps),.val (cy l),.val (.int ps.length),.own (.list (ds.map .int)),.val (.int i),x6,x7,x8,x9,x10]=[.non,.val (.int i),.val (cy l)] from rfl,hc,dH,R.ok_bind,xc hpl h24 I hs A ok (hi i List.mem_cons_self),cB,R.ok_bind];show R.ok (oq.nx [S,.val (gD ps),.val (cy l),.val (.int ps.length),.own (.list (ds.map .int++[.int (L i)])),.val (.int i),x6,x7,x8,x9,x10])=_;rw [show ds.map PyData.int++[.int (L i)]=(ds++[L i]).map .int by rw [List.map_append];rfl]
    rw [List.map_cons,dq];show (EL [S,.val (gD ps),.val (cy l),.val (.int ps.length),.own (.list (ds.map .int)),.val (.int i),x6,x7,x8,x9,x10]>>=_)=_;rw [hb,R.ok_bind,eW,e,List.append_assoc];rfl
end
section
variable {ps:List P4} (hpl:∀ p∈ps,Pl ps.length 12 p) (h24:(ps.length:Int)<=24) (h1:1<=ps.length) {L:Int->Int} (I:kM ps L)
include hpl h24 h1 I
noncomputable def AG (ps:List P4) (L:Int->Int) (i:Int):P4:=rq (k7 ps i) (eT ((av ps i).map fun g=>(((hV L ps.length).idxOf (L g):Nat):Int)))
theorem nF:(hV L ps.length).map (AG ps L)=Af ps L:=by
  unfold Af;refine List.map_congr_left fun i hi=>?_
  have hi':=aX.mpr ((eN hpl h24 h1 I).inn i hi);unfold AG zR;rw [nO hpl h24 h1 I hi'];have e:wf (hV L ps.length) (eT ((av ps i).map L))=eT ((av ps i).map fun g=>(((hV L ps.length).idxOf (L g):Nat):Int)):=by
    refine xa (As (jm _) (jm _)) (jm _) fun x=>?_
    rw [du,List.mem_map];unfold wf;rw [List.mem_map];constructor
    · rintro ⟨y,hy,rfl⟩;obtain ⟨g,hg,rfl⟩:=List.mem_map.mp (du.mp (List.mem_filter.mp hy).1);exact ⟨g,hg,rfl⟩
    · rintro ⟨g,hg,rfl⟩;refine ⟨L g,List.mem_filter.mpr ⟨du.mpr (List.mem_map_of_mem hg),fG.mpr ?_⟩,rfl⟩;exact (lT hpl h24 h1 I).mpr ⟨g,iN hpl hi' hg,rfl⟩
  rw [e,wk hi'];rfl
noncomputable abbrev EN:Fs:=aU (cc 10 (e1 wE (aY (dt (e2 bP (e2 bP (ag 1) (ag 9)) (eC (.int 3)))) 1 [7,4] (aG 0) (fun _=>.ok true) (lO (ag 1) (e2 bP (c4 2) (ag 0)))))) (fT 8 (e2 cY (uM (e2 bP (ag 1) (ag 9)) gn (gp (eC (.int 3)))) (dL (ah (e1 cA (ag 10)) az))))
theorem zt {i:Int} (hi:i∈bf ps.length) (S P C x5 x6:bq) (ds:List PyData) (hd:ds.length<=100) (x10:bq):∃ y10,
    EN [S,.val (gD ps),P,C,.own (.list (((bf ps.length).map L).map .int)),x5,x6,.val (.list ((hV L ps.length).map .int)),.own (.list ds),.val (.int i),x10]=.ok (.nx [S,.val (gD ps),P,C,.own (.list (((bf ps.length).map L).map .int)),x5,x6,.val (.list ((hV L ps.length).map .int)),.own (.list (ds++[(AG ps L i).d])),.val (.int i),y10]):=by
  obtain ⟨i0,i1⟩:=aX.mp hi;have P':=hpl _ (nh hi);have hln:(av ps i).length<=24:=by
    have:=P'.len;rw [fZ] at this;omega
  have hfb:∀ x∈hV L ps.length,0<=x/\x < 1000:=fun x hx=>by
    have:=(eN hpl h24 h1 I).inn x hx;omega
  have hfl:(hV L ps.length).length<=1000:=by
    have:=(eN hpl h24 h1 I).len;omega
  refine ⟨.val (.list ((eT ((av ps i).map fun g=>(((hV L ps.length).idxOf (L g):Nat):Int))).map .int)),?_⟩;unfold EN;have hc:=gk (f:=lO (ag 1) (e2 bP (c4 2) (ag 0))) (ρ:=[.val (.list ((hV L ps.length).map .int)),.own (.list (((bf ps.length).map L).map .int))]) (h:=fun g=>(((hV L ps.length).idxOf (L g):Nat):Int)) (av ps i) fun g hg=>by
    have hgi:=iN hpl hi hg;obtain ⟨g0,g1⟩:=aX.mp hgi;have hix:bP (.list (((bf ps.length).map L).map .int)) (.int g)=.ok (.int (L g)):=by
      rw [<- iR];exact Ek g0 g1
    have hm:L g∈hV L ps.length:=(lT hpl h24 h1 I).mpr ⟨g,hgi,rfl⟩;unfold lO;rw [aD,ax,R.ok_bind];show (R.ok ()>>=fun _=>(e2 bP (c4 2) (ag 0)) _>>=fun y=>gH _ y)=_;rw [R.ok_bind,bZ,dn,dn,jI,R.ok_bind,ax,R.ok_bind,hix,R.ok_bind];exact sf hfl hfb hm
  rw [bn (ρ':=[S,.val (gD ps),P,C,.own (.list (((bf ps.length).map L).map .int)),x5,x6,.val (.list ((hV L ps.length).map .int)),.own (.list ds),.val (.int i),.val (.list ((eT ((av ps i).map fun g=>(((hV L ps.length).idxOf (L g):Nat):Int))).map .int))]) (by
    have a':e2 bP (e2 bP (ag 1) (ag 9)) (eC (.int 3)) [S,.val (gD ps),P,C,.own (.list (((bf ps.length).map L).map .int)),x5,x6,.val (.list ((hV L ps.length).map .int)),.own (.list ds),.val (.int i),x10]=.ok (.tuple ((av ps i).map .int)):=by
      rw [<- (jN hpl h24 hi).1];simp only [bZ,aD,ax,dO,R.ok_bind]
    rw [cF,cv,bE,cE,a',R.ok_bind,eM,cB,R.ok_bind,if_pos (ce (by rw [List.length_map];omega))];rw [show ao 1 [7,4] [S,.val (gD ps),P,C,.own (.list (((bf ps.length).map L).map .int)),x5,x6,.val (.list ((hV L ps.length).map .int)),.own (.list ds),.val (.int i),x10]=[.non,.val (.list ((hV L ps.length).map .int)),.own (.list (((bf ps.length).map L).map .int))] from rfl,hc,dH,R.ok_bind,Cd (by rw [List.length_map];omega)];rfl)]
  rw [nX _ (ds:=ds) rfl (Nat.lt_of_le_of_lt hd (by decide))];have s1:1<=sizeLine:=by decide
  rw [bZ,rX,bZ,aD,ax,R.ok_bind];simp only [aD,ax,R.ok_bind,lX i0 i1,l7,l8,dO,wj,mT,gM,aL,aV,cv,dE];rw [if_pos (show [PyData.tuple ((eT ((av ps i).map fun g=>(((hV L ps.length).idxOf (L g):Nat):Int))).map .int)].length<=sizeLine from s1),R.ok_bind,Aq,cB,R.ok_bind];rfl
theorem tU (S P C x5 x6:bq):∀ (is:List Int),(∀ i∈is,i∈bf ps.length)->∀ (ds:List PyData),ds.length+is.length<=100->∀ x9 x10:bq,∃ y9 y10,
    e8 (aG 9) EN (is.map .int) [S,.val (gD ps),P,C,.own (.list (((bf ps.length).map L).map .int)),x5,x6,.val (.list ((hV L ps.length).map .int)),.own (.list ds),x9,x10]=.ok (.nx [S,.val (gD ps),P,C,.own (.list (((bf ps.length).map L).map .int)),x5,x6,.val (.list ((hV L ps.length).map .int)),.own (.list (ds++is.map fun i=>(AG ps L i).d)),y9,y10])
  | [],_,ds,_,x9,x10=>⟨x9,x10,by rw [List.map_nil,eS,List.map_nil,List.append_nil]⟩
  | i::is,hi,ds,hl,x9,x10=>by
    obtain ⟨y10,hb⟩:=zt hpl h24 h1 I (hi i List.mem_cons_self) S P C x5 x6 ds (by omega) x10;obtain ⟨z9,z10,e⟩:=tU S P C x5 x6 is (fun k hk=>hi k (List.mem_cons_of_mem _ hk)) (ds++[(AG ps L i).d]) (by rw [List.length_append];rw [List.length_cons] at hl;simp;omega) (.val (.int i)) y10;refine ⟨z9,z10,?_⟩;rw [List.map_cons,dq];show (EN [S,.val (gD ps),P,C,.own (.list (((bf ps.length).map L).map .int)),x5,x6,.val (.list ((hV L ps.length).map .int)),.own (.list ds),.val (.int i),x10]>>=_)=_;rw [hb,R.ok_bind,eW,e,List.append_assoc];rfl
end
theorem w4:AE pP:=fun ns _=>by
  obtain ⟨ps0,hi,hg,hpl0,n1,n10,_,hi12⟩:=ss ns (most:=10) (by omega) (by omega);obtain ⟨v,hv,_,_⟩:=l5 ns (k:=1) (by omega);obtain ⟨ps,ht,hpl,h1,h24⟩:=yh (v:=v) hpl0 hi12 n1 n10;obtain ⟨l,hal,A,ok⟩:=wc hpl h24;obtain ⟨L,hlk,I,hs⟩:=qJ hpl h24;have hfo:=uV hpl h24 h1 I hlk;rw [<- nF hpl h24 h1 I] at hfo;have hgr:aQ [gD (Af ps L)]=.ok (.bool true):=vh (FO hpl h24 h1 I) (by have:=D4 hpl h24 h1 I;omega) (D5 hpl h24 h1 I);rw [<- nF hpl h24 h1 I] at hgr;have hlk':aS [gD ps]=.ok (.tuple (((bf ps.length).map L).map .int)):=by rw [hlk];exact congrArg (fun z=>R.ok (PyData.tuple z)) (iR L ps.length)
  obtain ⟨y5,e5⟩:=tT hpl h24 I hs A ok (.val (re ns)) .non .non .non .non .non (bf ps.length) (fun _ h=>h) [] (by rw [c5,List.length_nil];omega) .non;rw [List.nil_append] at e5;obtain ⟨y9,y10,e9⟩:=tU hpl h24 h1 I (.val (re ns)) (.val (cy l)) (.val (.int ps.length)) y5 (.val (.tuple (((bf ps.length).map L).map .int))) (hV L ps.length) (fun i h=>aX.mpr ((eN hpl h24 h1 I).inn i h)) [] (by
    have:=(eN hpl h24 h1 I).len;rw [List.length_nil];omega) .non .non
  rw [List.nil_append,show ((hV L ps.length).map fun i=>(AG ps L i).d)=((hV L ps.length).map (AG ps L)).map P4.d by rw [List.map_map];rfl] at e9;generalize hsm:(hV L ps.length).map (AG ps L)=sm at *;unfold pP vS;refine gj ?_;show aU (cc 1 _) _ [.val (re ns),.non,.non,.non,.non,.non,.non,.non,.non,.non,.non]=_;rw [bn (ρ':=[.val (re ns),.val (gD ps),.non,.non,.non,.non,.non,.non,.non,.non,.non]) (by
    rw [cF];simp -implicitDefEqProofs only [bQ,aL,aV,ax,dO,R.ok_bind,hg,hv,ht];rfl)]
  rw [bn (ρ':=[.val (re ns),.val (gD ps),.val (cy l),.non,.non,.non,.non,.non,.non,.non,.non]) (by
    rw [cF];simp -implicitDefEqProofs only [bQ,aL,aV,aD,ax,R.ok_bind,hal];rfl)]
  rw [bn (ρ':=[.val (re ns),.val (gD ps),.val (cy l),.val (.int ps.length),.non,.non,.non,.non,.non,.non,.non]) (by
    rw [cF,cv,aD,ax,R.ok_bind,rV,List.length_map];rfl)]
  rw [bn (ρ':=[.val (re ns),.val (gD ps),.val (cy l),.val (.int ps.length),.own (.list ([].map .int)),.non,.non,.non,.non,.non,.non]) (by
    rw [t9,tH,aV,R.ok_bind,if_pos (show ([]:List PyData).length<=sizeLine from Nat.zero_le _)];rfl)]
  rw [bn (ρ':=[.val (re ns),.val (gD ps),.val (cy l),.val (.int ps.length),.own (.list (((bf ps.length).map L).map .int)),y5,.non,.non,.non,.non,.non]) (by
    rw [gX,fU,iP,aL,aD,aD,aD,ax,R.ok_bind,aV,R.ok_bind,R.ok_bind,zW ps.length (by omega),R.ok_bind,e5];rfl)]
  rw [bn (ρ':=[.val (re ns),.val (gD ps),.val (cy l),.val (.int ps.length),.own (.list (((bf ps.length).map L).map .int)),y5,.val (.tuple (((bf ps.length).map L).map .int)),.non,.non,.non,.non]) (by
    rw [cF];simp -implicitDefEqProofs only [bQ,aL,aV,aD,ax,R.ok_bind,hlk'];rfl)]
  rw [bn (ρ':=[.val (re ns),.val (gD ps),.val (cy l),.val (.int ps.length),.own (.list (((bf ps.length).map L).map .int)),y5,.val (.tuple (((bf ps.length).map L).map .int)),.non,.non,.non,.non]) (by
    rw [gV];simp -implicitDefEqProofs only [pB,gq,bZ,cv,bQ,aL,aV,aD,ax,dn,jI,R.ok_bind,dE,hlk',AH,decide_true,Bool.not_true,hU,Bool.false_eq_true,if_false,mm])]
  rw [bn (ρ':=[.val (re ns),.val (gD ps),.val (cy l),.val (.int ps.length),.own (.list (((bf ps.length).map L).map .int)),y5,.val (.tuple (((bf ps.length).map L).map .int)),.val (.list ((hV L ps.length).map .int)),.non,.non,.non]) (by
    rw [cF,cv,dn,dn,dn,dn,jI,R.ok_bind,Cd (by rw [List.length_map,c5];omega)];rfl)]
  rw [bn (ρ':=[.val (re ns),.val (gD ps),.val (cy l),.val (.int ps.length),.own (.list (((bf ps.length).map L).map .int)),y5,.val (.tuple (((bf ps.length).map L).map .int)),.val (.list ((hV L ps.length).map .int)),.own (.list []),.non,.non]) (by
    rw [t9,tH,aV,R.ok_bind,if_pos (show ([]:List PyData).length<=sizeLine from Nat.zero_le _)];rfl)]
  rw [bn (ρ':=[.val (re ns),.val (gD ps),.val (cy l),.val (.int ps.length),.own (.list (((bf ps.length).map L).map .int)),y5,.val (.tuple (((bf ps.length).map L).map .int)),.val (.list ((hV L ps.length).map .int)),.own (.list (sm.map P4.d)),y9,y10]) (by
    rw [gX,fU,cE];simp -implicitDefEqProofs only [aD,ax,R.ok_bind,xR];rw [e9];rfl)]
  have hsame:=wB (tK sm) (Bo sm);rw [ej];simp -implicitDefEqProofs only [yX,bZ,cv,bQ,aL,aV,aD,ax,dn,jI,R.ok_bind,hfo,dE,hsame,hU,if_true,hgr]
noncomputable def CT:List Stmt:=PySem.Challenge.pw_duelground_k80_likeness.main.body
noncomputable abbrev top (i:Nat):Stmt:=CT.getD i (.Pass ⟨0,0,0,0⟩)
noncomputable abbrev eU:Stmt:=top 35
noncomputable abbrev gc:Stmt:=top 24
noncomputable abbrev iD:Stmt:=top 25
noncomputable abbrev iB:Stmt:=top 26
noncomputable abbrev iC:Stmt:=top 27
noncomputable abbrev iE:Stmt:=top 28
noncomputable abbrev fu:Stmt:=top 29
noncomputable abbrev g8:Stmt:=top 32
noncomputable abbrev g9:Stmt:=top 31
noncomputable abbrev fJ:Stmt:=top 33
noncomputable abbrev dJ:Stmt:=top 34
noncomputable abbrev eV:Stmt:=top 36
noncomputable abbrev eO:Stmt:=top 19
noncomputable abbrev dB:Stmt:=top 20
noncomputable abbrev fK:Stmt:=top 21
noncomputable abbrev jq:Stmt:=top 8
noncomputable abbrev gZ:Stmt:=top 9
noncomputable abbrev jp:Stmt:=top 10
noncomputable abbrev jT:Stmt:=top 12
noncomputable abbrev fq:Stmt:=top 16
noncomputable abbrev dI:Stmt:=top 13
noncomputable abbrev hJ:Stmt:=top 15
noncomputable abbrev iT:Stmt:=top 17
noncomputable abbrev jU:Stmt:=top 22
noncomputable abbrev iA:Stmt:=top 37
section
variable {P:Program} {w:World} {K:PySem.W.Frag} {mg:Str->Option Value} {base:Heap} {f:Addr} {fd:FuncData} {k:Nat}
theorem pQ:aP ["_law_ground_here","_law_count","_law_pairs","_law_one","_law_other","_law_more","_law_left","_law_there","_law_back"] ["_law_ground_here"] (ak eU):=⟨rfl,rfl,rfl,by decide +kernel,rfl,by decide +kernel,by decide +kernel⟩
theorem pI (W:h7 K "_law_alike" "_law_alike" eU f fd) (b_all:mg "all" = none) (b_any:mg "any" = none) (b_len:mg "len" = none) (b_range:mg "range" = none) :
    bj P w K mg base (di P w mg) (k+1) f fd ["_law_ground_here"] (eo (eA 9 (ia)) 1):=by
  refine aF W pQ (G:=["len","range","all"]) (by decide +kernel) fun cdv A outer s H E hr T=>?_
  exact (al (aK T 1 rfl (cT T 0 rfl b_len (ae (aa T 0 rfl))))
      (al (ik T 2 rfl jx)
      (al (cX (have T:=T.nox;eP PassesOwn.never T.calm (dM T 1 rfl b_range (af (aa T 1 rfl) am) (aj aw)) (aJ T 3 rfl) (ap (cX (have T:=T.nox;eP PassesOwn.never T.calm (dM T 1 rfl b_range (af (aa T 1 rfl) am) (aj aw)) (aJ T 4 rfl) (ap (cD (io T.hu (ae (gF (ae (aI T.hu (ae (aa T 0 rfl)) (ae (aa T 3 rfl)) (fun _ _=>rfl))) iI (iJ ai))) (ae (gF (ae (aI T.hu (ae (aa T 0 rfl)) (ae (aa T 4 rfl)) (fun _ _=>rfl))) iI (iJ ai)))) (ap (mY T 2 rfl (cG (af (aa T 3 rfl) (af (aa T 4 rfl) am))) bV)) bY)))))))
      (al (aK T 5 rfl bV)
      (al (cX (have T:=T.nox;ly 1000000 PassesOwn.never (bF (aa T 5 rfl)) (al (ik T 6 rfl jx)
      (al (s9 2 (cX (have T:=T.nox;eP PassesOwn.never T.calm (rK (aa T 2 rfl)) (mX T 3 4 rfl rfl) (al (aK T 7 rfl (lz T 2 rfl b_all (bU (kr (N:=["_law_goal","_law_pairs","_law_ground_here","_law_other"]) (G:=["any"]) (fr:=[2,0,4]) (x := "_law_goal") T rfl rfl (oN:=["_law_ground_here","_law_count","_law_pairs","_law_one","_law_other","_law_more","_law_left","_law_there","_law_back"]) (on:=(ak eU).names) (by decide +kernel) (br (aI T.hu (ae (aI T.hu (ae (aa T 0 rfl)) (ae (aa T 3 rfl)) (fun _ _=>rfl))) (ae ai) (fun _ _=>rfl))) (bc (by decide)) (fun cl C s' H' fp E' T cap=>⟨(aJ T 0 rfl),bN,(pX T 0 rfl b_any (bU (im (N:=["_law_way","_law_goal","_law_pairs"]) (own:=1) (G:=[]) (fr:=[0,1]) T rfl cap (oN:=["_law_goal","_law_pairs","_law_ground_here","_law_other"]) (k:=0) (by decide +kernel) (br (aI T.hu (ae (aI T.hu (ae (aa T 2 rfl)) (ae (aa T 3 rfl)) (fun _ _=>rfl))) (ae ai) (fun _ _=>rfl))) (bc (by decide)) (fun cl C s' H' fp E' T=>⟨(aJ T 0 rfl),bN,(pY T.hu (ae (cG (af (aa T 1 rfl) (af (aa T 0 rfl) am)))) (cL T 2 rfl) (by with_unfolding_all rfl))⟩))))⟩)))))
      (al (aK T 8 rfl (lz T 2 rfl b_all (bU (kr (N:=["_law_way","_law_pairs","_law_ground_here","_law_one"]) (G:=["any"]) (fr:=[2,0,3]) (x := "_law_way") T rfl rfl (oN:=["_law_ground_here","_law_count","_law_pairs","_law_one","_law_other","_law_more","_law_left","_law_there","_law_back"]) (on:=(ak eU).names) (by decide +kernel) (br (aI T.hu (ae (aI T.hu (ae (aa T 0 rfl)) (ae (aa T 4 rfl)) (fun _ _=>rfl))) (ae ai) (fun _ _=>rfl))) (bc (by decide)) (fun cl C s' H' fp E' T cap=>⟨(aJ T 0 rfl),bN,(pX T 0 rfl b_any (bU (im (N:=["_law_goal","_law_way","_law_pairs"]) (own:=1) (G:=[]) (fr:=[0,1]) T rfl cap (oN:=["_law_way","_law_pairs","_law_ground_here","_law_one"]) (k:=0) (by decide +kernel) (br (aI T.hu (ae (aI T.hu (ae (aa T 2 rfl)) (ae (aa T 3 rfl)) (fun _ _=>rfl))) (ae ai) (fun _ _=>rfl))) (bc (by decide)) (fun cl C s' H' fp E' T=>⟨(aJ T 0 rfl),bN,(pY T.hu (ae (cG (af (aa T 0 rfl) (af (aa T 1 rfl) am)))) (cL T 2 rfl) (by with_unfolding_all rfl))⟩))))⟩)))))
      (ap (cD (fN (na (bF (aa T 7 rfl)) (lC (bF (aa T 8 rfl))))) (ap (mY T 6 rfl (cG (af (aa T 3 rfl) (af (aa T 4 rfl) am))) bV)) bY)))))))
      (al (aK T 5 rfl (tf T.hu (ae (mZ T 0 rfl b_len (cL T 6 rfl))) (ae (mZ T 0 rfl b_len (cL T 2 rfl)))))
      (ap (s9 6 (aK T 2 rfl (aa T 6 rfl)))))))))
      (ap (uq T 2 rfl)))))))
theorem mM:aP ["_law_script","_law_k"] ["_law_script","_law_k"] (ak gc):=⟨rfl,rfl,rfl,by decide +kernel,rfl,by decide +kernel,by decide +kernel⟩
theorem mJ (W:h7 K "_law_cell_at" "_law_cell_at" gc f fd) (b_len:mg "len" = none) :
    bj P w K mg base (di P w mg) (k+1) f fd ["_law_script","_law_k"] (eo (eA 2 (fX)) 2):=by
  refine aF W mM (G:=["len"]) (by decide +kernel) fun cdv A outer s H E hr T=>?_
  exact (al (cD (v7 (ae (aa T 1 rfl)) (ae (cT T 0 rfl b_len (ae (aa T 0 rfl))))) (ap (aE (aI T.hu (ae (aa T 0 rfl)) (ae (aa T 1 rfl)) (fun _ _=>rfl)))) bY)
      (ap (aE ai)))
theorem pT:aP ["_law_script","_law_k","_law_drawn_here"] ["_law_script","_law_k"] (ak iD):=⟨rfl,rfl,rfl,by decide +kernel,rfl,by decide +kernel,by decide +kernel⟩
theorem pL (W:h7 K "_law_mixed" "_law_mixed" iD f fd) {f12:Addr} {d12:FuncData} {bK:iZ} (C12:i8 P w K mg base k "_law_cell_at" ["_law_script","_law_k"] bK f12 d12) :
    bj P w K mg base (di P w mg) (k+1) f fd ["_law_script","_law_k"] (eo (eA 3 (ie bK)) 2):=by
  refine aF W pT (G:=["_law_cell_at"]) (by decide +kernel) fun cdv A outer s H E hr T=>?_
  exact (al (aK T 2 rfl (bO (ae (dW (ae (bI (ae (bI (ae (aB C12 hr T 0 rfl (af (aa T 0 rfl) (af (aa T 1 rfl) am)) rfl (aj (aj aw)))) (ae (dW (ae ai) (ae (aa T 1 rfl)))))) (ae ai))) (ae ai))) (ae ai)))
      (ap (aE (bO (ae (bI (ae (bI (ae (dW (ae (aa T 2 rfl)) (ae (aa T 2 rfl)))) (ae (dW (ae ai) (ae (aa T 2 rfl)))))) (ae (aa T 1 rfl)))) (ae ai)))))
theorem pR:aP ["_law_number_here","_law_k","_law_drawn_here"] ["_law_number_here","_law_k"] (ak iB):=⟨rfl,rfl,rfl,by decide +kernel,rfl,by decide +kernel,by decide +kernel⟩
theorem pJ (W:h7 K "_law_drawn" "_law_drawn" iB f fd) :
    bj P w K mg base (di P w mg) (k+1) f fd ["_law_number_here","_law_k"] (eo (eA 3 (ib)) 2):=by
  refine aF W pR (G:=[]) (by decide +kernel) fun cdv A outer s H E hr T=>?_
  exact (al (aK T 2 rfl (bO (ae (dW (ae (bI (ae (bI (ae (aa T 0 rfl)) (ae (dW (ae ai) (ae (aa T 1 rfl)))))) (ae ai))) (ae ai))) (ae ai)))
      (ap (aE (bO (ae (bI (ae (bI (ae (dW (ae (aa T 2 rfl)) (ae (aa T 2 rfl)))) (ae (dW (ae ai) (ae (aa T 2 rfl)))))) (ae (aa T 1 rfl)))) (ae ai)))))
theorem pS:aP ["_law_number_here","_law_count","_law_found","_law_k"] ["_law_number_here","_law_count"] (ak iC):=⟨rfl,rfl,rfl,by decide +kernel,rfl,by decide +kernel,by decide +kernel⟩
theorem pK (W:h7 K "_law_goals" "_law_goals" iC f fd) {f14:Addr} {d14:FuncData} {aR:iZ} (C14:i8 P w K mg base k "_law_drawn" ["_law_number_here","_law_k"] aR f14 d14) (b_int:mg "int" = none) (b_range:mg "range" = none) (b_sorted:mg "sorted" = none) (b_tuple:mg "tuple" = none) :
    bj P w K mg base (di P w mg) (k+1) f fd ["_law_number_here","_law_count"] (eo (eA 4 (ic aR)) 2):=by
  refine aF W pS (G:=["range","int","_law_drawn","tuple","sorted"]) (by decide +kernel) fun cdv A outer s H E hr T=>?_
  exact (al (ik T 2 rfl qb)
      (al (cX (have T:=T.nox;eP PassesOwn.never T.calm (dM T 0 rfl b_range (af (bI (ae (bI (ae ai) (ae (bO (ae (aa T 0 rfl)) (ae ai))))) (ae (dW (ae ai) (ae (ur T 1 rfl b_int (ae (oE T.hu (ae (bO (ae (fD (ae (aa T 0 rfl)) (ae ai))) (ae ai))) (ae ai)))))))) am) (aj aw)) (aJ T 3 rfl) (ap (vX T 2 rfl (bO (ae (aB C14 hr T 2 rfl (af (aa T 0 rfl) (af (aa T 3 rfl) am)) rfl (aj (aj aw)))) (ae (aa T 1 rfl))) bV))))
      (ap (aE (bD T 3 rfl b_tuple (bU (oF T 4 rfl b_sorted (cL T 2 rfl))))))))
theorem pU:aP ["_law_number_here","_law_count","_law_high","_law_gain"] ["_law_number_here","_law_count","_law_high"] (ak iE):=⟨rfl,rfl,rfl,by decide +kernel,rfl,by decide +kernel,by decide +kernel⟩
theorem pM (W:h7 K "_law_place" "_law_place" iE f fd) {f14:Addr} {d14:FuncData} {aR:iZ} (C14:i8 P w K mg base k "_law_drawn" ["_law_number_here","_law_k"] aR f14 d14) {f15:Addr} {d15:FuncData} {cr:iZ} (C15:i8 P w K mg base k "_law_goals" ["_law_number_here","_law_count"] cr f15 d15) :
    bj P w K mg base (di P w mg) (k+1) f fd ["_law_number_here","_law_count","_law_high"] (eo (eA 4 (ig aR cr)) 3):=by
  refine aF W pU (G:=["_law_goals","_law_drawn"]) (by decide +kernel) fun cdv A outer s H E hr T=>?_
  exact (al (aK T 3 rfl (lB (ae (bO (ae (fD (ae (aa T 0 rfl)) (ae ai))) (ae ai))) (ae ai)))
      (al (cD (io T.hu (ae (bO (ae (fD (ae (aa T 0 rfl)) (ae ai))) (ae ai))) (ae ai)) (ap (aK T 3 rfl (lB (ae (bO (ae (fD (ae (aa T 0 rfl)) (ae ai))) (ae ai))) (ae ai)))) bY)
      (ap (aE (cG (af (bO (ae (aa T 0 rfl)) (ae ai)) (af (bO (ae (fD (ae (aa T 0 rfl)) (ae ai))) (ae (bI (ae (aa T 2 rfl)) (ae ai)))) (af (aa T 3 rfl) (af (aB C15 hr T 0 rfl (af (aB C14 hr T 1 rfl (af (aa T 0 rfl) (af ai am)) rfl (aj (aj aw))) (af (aa T 1 rfl) am)) rfl (aj (aj aw))) am)))))))))
theorem oy:aP ["_law_script","_law_most","_law_number_here","_law_count","_law_high"] ["_law_script","_law_most"] (ak fu):=⟨rfl,rfl,rfl,by decide +kernel,rfl,by decide +kernel,by decide +kernel⟩
theorem og (W:h7 K "_law_ground" "_law_ground" fu f fd) {f13:Addr} {d13:FuncData} {aO:iZ} (C13:i8 P w K mg base k "_law_mixed" ["_law_script","_law_k"] aO f13 d13) {f16:Addr} {d16:FuncData} {cf:iZ} (C16:i8 P w K mg base k "_law_place" ["_law_number_here","_law_count","_law_high"] cf f16 d16) (b_len:mg "len" = none) (b_max:mg "max" = none) (b_min:mg "min" = none) (b_range:mg "range" = none) (b_tuple:mg "tuple" = none) :
    bj P w K mg base (di P w mg) (k+1) f fd ["_law_script","_law_most"] (eo (eA 5 (gy aO cf)) 2):=by
  refine aF W oy (G:=["_law_mixed","min","max","len","tuple","range"]) (by decide +kernel) fun cdv A outer s H E hr T=>?_
  exact (al (aK T 2 rfl (aB C13 hr T 0 rfl (af (aa T 0 rfl) (af ai am)) rfl (aj (aj aw))))
      (al (aK T 3 rfl (bI (ae ai) (ae (bO (ae (aa T 2 rfl)) (ae (vZ T 1 rfl b_min (ae (aa T 1 rfl)) (ae (vY T 2 rfl b_max (ae ai) (ae (cT T 3 rfl b_len (ae (aa T 0 rfl))))))))))))
      (al (aK T 4 rfl (aI T.hu (bU (iK (af ai (af ai (af ai (af ai (af ai (af ai am)))))))) (ae (bO (ae (fD (ae (aa T 2 rfl)) (ae ai))) (ae ai))) (fun _ _=>rfl)))
      (ap (aE (bD T 4 rfl b_tuple (bU (bg (N:=["_law_k","_law_script","_law_count","_law_high"]) (own:=1) (G:=["_law_place","_law_mixed"]) (fr:=[0,3,4]) T rfl rfl (oN:=["_law_script","_law_most","_law_number_here","_law_count","_law_high"]) (on:=(ak fu).names) (by decide +kernel) (dM T 5 rfl b_range (af (aa T 3 rfl) am) (aj aw)) (bc (by decide)) (fun cl C s' H' fp E' T=>⟨(aJ T 0 rfl),bN,(aB C16 hr T 0 rfl (af (aB C13 hr T 1 rfl (af (aa T 1 rfl) (af (bI (ae ai) (ae (aa T 0 rfl))) am)) rfl (aj (aj aw))) (af (aa T 2 rfl) (af (aa T 3 rfl) am))) rfl (aj (aj (aj aw))))⟩)))))))))
theorem oz:aP ["_law_thing","_law_low","_law_high"] ["_law_thing","_law_low","_law_high"] (ak g8):=⟨rfl,rfl,rfl,by decide +kernel,rfl,by decide +kernel,by decide +kernel⟩
theorem oh (W:h7 K "_law_number" "_law_number" g8 f fd) (b_bool:mg "bool" = none) (b_int:mg "int" = none) (b_isinstance:mg "isinstance" = none) :
    bj P w K mg base (di P w mg) (k+1) f fd ["_law_thing","_law_low","_law_high"] (eo (eA 3 (gz)) 3):=by
  refine aF W oz (G:=["isinstance","int","bool"]) (by decide +kernel) fun cdv A outer s H E hr T=>?_
  exact (ap (aE (gi (gE T 0 rfl b_isinstance T 1 rfl b_int (ae (aa T 0 rfl))) (gi (p9 (fY T 0 rfl b_isinstance T 2 rfl b_bool (ae (aa T 0 rfl)))) (il (lA qS fL qS fL (ae (aa T 1 rfl)) (ae (aa T 0 rfl)) (ae (aa T 2 rfl))))))))
theorem oA:aP ["_law_found","_law_count","_law_last","_law_part"] ["_law_found","_law_count"] (ak g9):=⟨rfl,rfl,rfl,by decide +kernel,rfl,by decide +kernel,by decide +kernel⟩
theorem oj (W:h7 K "_law_rising" "_law_rising" g9 f fd) (b_bool:mg "bool" = none) (b_int:mg "int" = none) (b_isinstance:mg "isinstance" = none) (b_tuple:mg "tuple" = none) :
    bj P w K mg base (di P w mg) (k+1) f fd ["_law_found","_law_count"] (eo (eA 4 (gA)) 2):=by
  refine aF W oA (G:=["isinstance","tuple","int","bool"]) (by decide +kernel) fun cdv A outer s H E hr T=>?_
  exact (al (cD (bW (bF (dU T 0 rfl b_isinstance T 1 rfl b_tuple (ae (aa T 0 rfl))))) (ap (aE bV)) bY)
      (al (aK T 2 rfl (p8 (ae ai)))
      (al (cX (have T:=T.nox;eP PassesOwn.never T.calm (br (aa T 0 rfl)) (aJ T 3 rfl) (al (cD (fN (eQ (bW (bF (gE T 0 rfl b_isinstance T 2 rfl b_int (ae (aa T 3 rfl))))) (eQ (bF (fY T 0 rfl b_isinstance T 3 rfl b_bool (ae (aa T 3 rfl)))) (fx (bW (kt qT fL qT fL (ae (aa T 2 rfl)) (ae (aa T 3 rfl)) (ae (aa T 1 rfl)))))))) (ap (aE bV)) bY)
      (ap (aK T 2 rfl (aa T 3 rfl))))))
      (ap (aE bV)))))
theorem lu:aP ["_law_thing","_law_count"] ["_law_thing","_law_count"] (ak fJ):=⟨rfl,rfl,rfl,by decide +kernel,rfl,by decide +kernel,by decide +kernel⟩
theorem lh (W:h7 K "_law_is_place" "_law_is_place" fJ f fd) {f20:Addr} {d20:FuncData} {bC:iZ} (C20:i8 P w K mg base k "_law_number" ["_law_thing","_law_low","_law_high"] bC f20 d20) {f19:Addr} {d19:FuncData} {cb:iZ} (C19:i8 P w K mg base k "_law_rising" ["_law_found","_law_count"] cb f19 d19) (b_isinstance:mg "isinstance" = none) (b_len:mg "len" = none) (b_tuple:mg "tuple" = none) :
    bj P w K mg base (di P w mg) (k+1) f fd ["_law_thing","_law_count"] (eo (eA 2 (fA bC cb)) 2):=by
  refine aF W lu (G:=["isinstance","tuple","len","_law_number","_law_rising"]) (by decide +kernel) fun cdv A outer s H E hr T=>?_
  exact (al (cD (fN (eQ (bW (bF (dU T 0 rfl b_isinstance T 1 rfl b_tuple (ae (aa T 0 rfl))))) (eQ (jz T.hu (ae (cT T 2 rfl b_len (ae (aa T 0 rfl)))) (ae ai)) (fx (bW (bF (aB C20 hr T 3 rfl (af (aI T.hu (ae (aa T 0 rfl)) (ae ai) (fun _ _=>rfl)) (af ai (af ai am))) rfl (aj (aj (aj aw)))))))))) (ap (aE bV)) bY)
      (al (cD (fN (eQ (bW (bF (aB C20 hr T 3 rfl (af (aI T.hu (ae (aa T 0 rfl)) (ae ai) (fun _ _=>rfl)) (af ai (af ai am))) rfl (aj (aj (aj aw)))))) (fx (bW (bF (aB C20 hr T 3 rfl (af (aI T.hu (ae (aa T 0 rfl)) (ae ai) (fun _ _=>rfl)) (af (p8 (ae ai)) (af ai am))) rfl (aj (aj (aj aw))))))))) (ap (aE bV)) bY)
      (ap (aE (gi (aB C19 hr T 4 rfl (af (aI T.hu (ae (aa T 0 rfl)) (ae ai) (fun _ _=>rfl)) (af (aa T 1 rfl) am)) rfl (aj (aj aw))) (il (tf T.hu (ae (aI T.hu (ae (aa T 0 rfl)) (ae ai) (fun _ _=>rfl))) (ae (cG am)))))))))
theorem kO:aP ["_law_thing"] ["_law_thing"] (ak dJ):=⟨rfl,rfl,rfl,by decide +kernel,rfl,by decide +kernel,by decide +kernel⟩
theorem kL (W:h7 K "_law_is_ground" "_law_is_ground" dJ f fd) {f21:Addr} {d21:FuncData} {bi:iZ} (C21:i8 P w K mg base k "_law_is_place" ["_law_thing","_law_count"] bi f21 d21) (b_isinstance:mg "isinstance" = none) (b_len:mg "len" = none) (b_tuple:mg "tuple" = none) :
    bj P w K mg base (di P w mg) (k+1) f fd ["_law_thing"] (eo (eA 1 (eZ bi)) 1):=by
  refine aF W kO (G:=["isinstance","tuple","len"]) (by decide +kernel) fun cdv A outer s H E hr T=>?_
  exact (al (cD (fN (eQ (bW (bF (dU T 0 rfl b_isinstance T 1 rfl b_tuple (ae (aa T 0 rfl))))) (fx (bW (kt qT fL qT fL (ae ai) (ae (cT T 2 rfl b_len (ae (aa T 0 rfl)))) (ae ai)))))) (ap (aE bV)) bY)
      (ap (aE (oE T.hu (bU (bg (N:=["_law_part","_law_thing"]) (own:=1) (G:=["_law_is_place","len"]) (fr:=[0]) T rfl rfl (oN:=["_law_thing"]) (on:=(ak dJ).names) (by decide +kernel) (br (aa T 0 rfl)) (bc (by decide)) (fun cl C s' H' fp E' T=>⟨(aJ T 0 rfl),(lv (bW (bF (aB C21 hr T 0 rfl (af (aa T 0 rfl) (af (cT T 1 rfl b_len (ae (aa T 1 rfl))) am)) rfl (aj (aj aw)))))),(aa T 0 rfl)⟩))) (bU (iK am))))))
theorem pV:aP ["_law_ground_here","_law_number_here","_law_count","_law_more"] ["_law_ground_here","_law_number_here"] (ak eV):=⟨rfl,rfl,rfl,by decide +kernel,rfl,by decide +kernel,by decide +kernel⟩
theorem pN (W:h7 K "_law_twice" "_law_twice" eV f fd) (b_len:mg "len" = none) (b_tuple:mg "tuple" = none) :
    bj P w K mg base (di P w mg) (k+1) f fd ["_law_ground_here","_law_number_here"] (eo (eA 4 (ij)) 2):=by
  refine aF W pV (G:=["len","tuple"]) (by decide +kernel) fun cdv A outer s H E hr T=>?_
  exact (al (cD (fN (na (io T.hu (ae (bO (ae (aa T 1 rfl)) (ae ai))) (ae ai)) (lC (v4 (ae (cT T 0 rfl b_len (ae (aa T 0 rfl)))) (ae ai))))) (al (aK T 2 rfl (cT T 0 rfl b_len (ae (aa T 0 rfl))))
      (al (vW (uo 3 rfl (N:=["_law_place_here","_law_count"]) (own:=1) (G:=["tuple"]) (fr:=[2]) T rfl rfl (oN:=["_law_ground_here","_law_number_here","_law_count","_law_more"]) (on:=(ak eV).names) (by decide +kernel) (br (aa T 0 rfl)) (bc (by decide)) (fun cl C s' H' fp E' T cap=>⟨(aJ T 0 rfl),bN,(bI (ae (gF (ae (aa T 0 rfl)) iI (iJ ai))) (ae (cG (af (bD T 0 rfl b_tuple (bU (im (N:=["_law_goal","_law_count"]) (own:=1) (G:=[]) (fr:=[1]) T rfl cap (oN:=["_law_place_here","_law_count"]) (k:=1) (by decide +kernel) (br (aI T.hu (ae (aa T 0 rfl)) (ae ai) (fun _ _=>rfl))) (bc (by decide)) (fun cl C s' H' fp E' T=>⟨(aJ T 0 rfl),bN,(bI (ae (aa T 0 rfl)) (ae (aa T 1 rfl)))⟩)))) am))))⟩)) (show 3 < 4 by decide))
      (ap (aE (bI (ae (aa T 0 rfl)) (ae (bD T 1 rfl b_tuple (ae (aa T 3 rfl))))))))) bY)
      (al (cD (io T.hu (ae (bO (ae (aa T 1 rfl)) (ae ai))) (ae ai)) (ap (aE (bD T 1 rfl b_tuple (bU (bg (N:=["_law_place_here","_law_number_here"]) (own:=1) (G:=[]) (fr:=[1]) T rfl rfl (oN:=["_law_ground_here","_law_number_here","_law_count","_law_more"]) (on:=(ak eV).names) (by decide +kernel) (br (aa T 0 rfl)) (bc (by decide)) (fun cl C s' H' fp E' T=>⟨(aJ T 0 rfl),bN,(cG (af (bO (ae (fD (ae (aa T 1 rfl)) (ae ai))) (ae ai)) (af ai (af (aI T.hu (ae (aa T 0 rfl)) (ae ai) (fun _ _=>rfl)) (af (aI T.hu (ae (aa T 0 rfl)) (ae ai) (fun _ _=>rfl)) am)))))⟩)))))) bY)
      (ap (aE (aa T 0 rfl)))))
theorem mL:aP ["signs"] ["signs"] (ak eO):=⟨rfl,rfl,rfl,by decide +kernel,rfl,by decide +kernel,by decide +kernel⟩
theorem mI (W:h7 K "first_alike" "first_alike" eO f fd) (b_tuple:mg "tuple" = none) :
    bj P w K mg base (di P w mg) (k+1) f fd ["signs"] (eo (eA 1 (fW)) 1):=by
  refine aF W mL (G:=["tuple"]) (by decide +kernel) fun cdv A outer s H E hr T=>?_
  exact (ap (aE (bD T 0 rfl b_tuple (bU (bg (N:=["sign","signs"]) (own:=1) (G:=[]) (fr:=[0]) T rfl rfl (oN:=["signs"]) (on:=(ak eO).names) (by decide +kernel) (br (aa T 0 rfl)) (bc (by decide)) (fun cl C s' H' fp E' T=>⟨(aJ T 0 rfl),bN,(pZ T.hu (ae (aa T 1 rfl)) (aa T 0 rfl))⟩))))))
theorem j6:aP ["place","like"] ["place","like"] (ak dB):=⟨rfl,rfl,rfl,by decide +kernel,rfl,by decide +kernel,by decide +kernel⟩
theorem jY (W:h7 K "likes_of_goals" "likes_of_goals" dB f fd) {t_GOALS:Tok} (g_GOALS:mg "GOALS" = some (.int 3 t_GOALS)) (b_set:mg "set" = none) (b_sorted:mg "sorted" = none) :
    bj P w K mg base (di P w mg) (k+1) f fd ["place","like"] (eo (eA 2 (eF)) 2):=by
  refine aF W j6 (G:=["sorted","set","GOALS"]) (by decide +kernel) fun cdv A outer s H E hr T=>?_
  exact (ap (aE (iH (jy T 0 1 rfl b_sorted rfl b_set (bU (bg (N:=["goal","like"]) (own:=1) (G:=[]) (fr:=[1]) T rfl rfl (oN:=["place","like"]) (on:=(ak dB).names) (by decide +kernel) (br (aI T.hu (ae (aa T 0 rfl)) (ae (dN T 2 rfl g_GOALS)) (fun _ _=>rfl))) (bc (by decide)) (fun cl C s' H' fp E' T=>⟨(aJ T 0 rfl),bN,(aI T.hu (ae (aa T 1 rfl)) (ae (aa T 0 rfl)) (fun _ _=>rfl))⟩)))))))
theorem rH:aP ["ground","like","finer"] ["ground"] (ak fK):=⟨rfl,rfl,rfl,by decide +kernel,rfl,by decide +kernel,by decide +kernel⟩
theorem rC (W:h7 K "likeness" "likeness" fK f fd) {f8:Addr} {d8:FuncData} {bh:iZ} (C8:i8 P w K mg base k "first_alike" ["signs"] bh f8 d8) {f9:Addr} {d9:FuncData} {au:iZ} (C9:i8 P w K mg base k "likes_of_goals" ["place","like"] au f9 d9) {t_MARK:Tok} (g_MARK:mg "MARK" = some (.int 1 t_MARK)) {t_WHO:Tok} (g_WHO:mg "WHO" = some (.int 0 t_WHO)) (b_enumerate:mg "enumerate" = none) :
    bj P w K mg base (di P w mg) (k+1) f fd ["ground"] (eo (eA 3 (ja bh au)) 1):=by
  refine aF W rH (G:=["first_alike","enumerate"]) (by decide +kernel) fun cdv A outer s H E hr T=>?_
  exact (al (aK T 1 rfl uu)
      (al (aK T 2 rfl (aB C8 hr T 0 rfl (af (iH (bg (N:=["place"]) (own:=1) (G:=["WHO","MARK"]) (fr:=[]) T rfl rfl (oN:=["ground","like","finer"]) (on:=(ak fK).names) (by decide +kernel) (br (aa T 0 rfl)) (bc (by decide)) (fun cl C s' H' fp E' T=>⟨(aJ T 0 rfl),bN,(cG (af (aI T.hu (ae (aa T 0 rfl)) (ae (dN T 0 rfl g_WHO)) (fun _ _=>rfl)) (af (aI T.hu (ae (aa T 0 rfl)) (ae (dN T 1 rfl g_MARK)) (fun _ _=>rfl)) am)))⟩))) am) rfl (aj aw)))
      (al (cX (have T:=T.nox;ly 1000000 PassesOwn.never (jz T.hu (ae (aa T 2 rfl)) (ae (aa T 1 rfl))) (al (aK T 1 rfl (aa T 2 rfl))
      (ap (aK T 2 rfl (aB C8 hr T 0 rfl (af (iH (bg (N:=["number","place","like"]) (own:=2) (G:=["likes_of_goals"]) (fr:=[1]) T rfl rfl (oN:=["ground","like","finer"]) (on:=(ak fK).names) (by decide +kernel) (um T 1 rfl b_enumerate (aa T 0 rfl)) (uU (by decide) (by decide)) (fun cl C s' H' fp E' T=>⟨(mX T 0 1 rfl rfl),bN,(cG (af (aI T.hu (ae (aa T 2 rfl)) (ae (aa T 0 rfl)) (fun _ _=>rfl)) (af (aB C9 hr T 0 rfl (af (aa T 1 rfl) (af (aa T 2 rfl) am)) rfl (aj (aj aw))) am)))⟩))) am) rfl (aj aw)))))))
      (ap (aE (aa T 1 rfl))))))
theorem rG:aP ["thing"] ["thing"] (ak jq):=⟨rfl,rfl,rfl,by decide +kernel,rfl,by decide +kernel,by decide +kernel⟩
theorem rB (W:h7 K "is_whole" "is_whole" jq f fd) (b_bool:mg "bool" = none) (b_int:mg "int" = none) (b_isinstance:mg "isinstance" = none) :
    bj P w K mg base (di P w mg) (k+1) f fd ["thing"] (eo (eA 1 (lm)) 1):=by
  refine aF W rG (G:=["isinstance","int","bool"]) (by decide +kernel) fun cdv A outer s H E hr T=>?_
  exact (ap (aE (gi (gE T 0 rfl b_isinstance T 1 rfl b_int (ae (aa T 0 rfl))) (il (p9 (fY T 0 rfl b_isinstance T 2 rfl b_bool (ae (aa T 0 rfl))))))))
theorem ox:aP ["thing","low","high"] ["thing","low","high"] (ak gZ):=⟨rfl,rfl,rfl,by decide +kernel,rfl,by decide +kernel,by decide +kernel⟩
theorem oa (W:h7 K "is_between" "is_between" gZ f fd) {f0:Addr} {d0:FuncData} {c8:iZ} (C0:i8 P w K mg base k "is_whole" ["thing"] c8 f0 d0) :
    bj P w K mg base (di P w mg) (k+1) f fd ["thing","low","high"] (eo (eA 3 (gx c8)) 3):=by
  refine aF W ox (G:=["is_whole"]) (by decide +kernel) fun cdv A outer s H E hr T=>?_
  exact (ap (aE (gi (aB C0 hr T 0 rfl (af (aa T 0 rfl) am) rfl (aj aw)) (il (lA qS fL qS fL (ae (aa T 1 rfl)) (ae (aa T 0 rfl)) (ae (aa T 2 rfl)))))))
theorem rF:aP ["thing","count","least","number"] ["thing","count"] (ak jp):=⟨rfl,rfl,rfl,by decide +kernel,rfl,by decide +kernel,by decide +kernel⟩
theorem rA (W:h7 K "are_some" "are_some" jp f fd) {f1:Addr} {d1:FuncData} {bJ:iZ} (C1:i8 P w K mg base k "is_between" ["thing","low","high"] bJ f1 d1) (b_isinstance:mg "isinstance" = none) (b_tuple:mg "tuple" = none) :
    bj P w K mg base (di P w mg) (k+1) f fd ["thing","count"] (eo (eA 4 (i9 bJ)) 2):=by
  refine aF W rF (G:=["isinstance","tuple","is_between"]) (by decide +kernel) fun cdv A outer s H E hr T=>?_
  exact (al (cD (bW (bF (dU T 0 rfl b_isinstance T 1 rfl b_tuple (ae (aa T 0 rfl))))) (ap (aE bV)) bY)
      (al (aK T 2 rfl ai)
      (al (cX (have T:=T.nox;eP PassesOwn.never T.calm (br (aa T 0 rfl)) (aJ T 3 rfl) (al (cD (bW (bF (aB C1 hr T 2 rfl (af (aa T 3 rfl) (af (aa T 2 rfl) (af (lB (ae (aa T 1 rfl)) (ae ai)) am))) rfl (aj (aj (aj aw)))))) (ap (aE bV)) bY)
      (ap (aK T 2 rfl (bI (ae (aa T 3 rfl)) (ae ai)))))))
      (ap (aE bV)))))
theorem vU:aP ["some","others"] ["some","others"] (ak jT):=⟨rfl,rfl,rfl,by decide +kernel,rfl,by decide +kernel,by decide +kernel⟩
theorem vP (W:h7 K "common" "common" jT f fd) (b_tuple:mg "tuple" = none) :
    bj P w K mg base (di P w mg) (k+1) f fd ["some","others"] (eo (eA 2 (li)) 2):=by
  refine aF W vU (G:=["tuple"]) (by decide +kernel) fun cdv A outer s H E hr T=>?_
  exact (ap (aE (bD T 0 rfl b_tuple (bU (bg (N:=["number","others"]) (own:=1) (G:=[]) (fr:=[1]) T rfl rfl (oN:=["some","others"]) (on:=(ak jT).names) (by decide +kernel) (br (aa T 0 rfl)) (bc (by decide)) (fun cl C s' H' fp E' T=>⟨(aJ T 0 rfl),(lv (v3 T.hu (ae (aa T 0 rfl)) (ae (aa T 1 rfl)) (by with_unfolding_all rfl))),(aa T 0 rfl)⟩))))))
theorem ov:aP ["place","inside"] ["place","inside"] (ak fq):=⟨rfl,rfl,rfl,by decide +kernel,rfl,by decide +kernel,by decide +kernel⟩
theorem n9 (W:h7 K "goals_anew" "goals_anew" fq f fd) {f3:Addr} {d3:FuncData} {bX:iZ} (C3:i8 P w K mg base k "common" ["some","others"] bX f3 d3) {t_GOALS:Tok} (g_GOALS:mg "GOALS" = some (.int 3 t_GOALS)) :
    bj P w K mg base (di P w mg) (k+1) f fd ["place","inside"] (eo (eA 2 (gv bX)) 2):=by
  refine aF W ov (G:=["common","GOALS"]) (by decide +kernel) fun cdv A outer s H E hr T=>?_
  exact (ap (aE (iH (bg (N:=["goal","inside"]) (own:=1) (G:=[]) (fr:=[1]) T rfl rfl (oN:=["place","inside"]) (on:=(ak fq).names) (by decide +kernel) (br (aB C3 hr T 0 rfl (af (aI T.hu (ae (aa T 0 rfl)) (ae (dN T 1 rfl g_GOALS)) (fun _ _=>rfl)) (af (aa T 1 rfl) am)) rfl (aj (aj aw)))) (bc (by decide)) (fun cl C s' H' fp E' T=>⟨(aJ T 0 rfl),bN,(p0 (ae (aa T 1 rfl)) (aa T 0 rfl))⟩)))))
theorem kN:aP ["ground","inside"] ["ground","inside"] (ak dI):=⟨rfl,rfl,rfl,by decide +kernel,rfl,by decide +kernel,by decide +kernel⟩
theorem kK (W:h7 K "is_whole_part" "is_whole_part" dI f fd) {f3:Addr} {d3:FuncData} {bX:iZ} (C3:i8 P w K mg base k "common" ["some","others"] bX f3 d3) {t_GOALS:Tok} (g_GOALS:mg "GOALS" = some (.int 3 t_GOALS)) (b_all:mg "all" = none) (b_len:mg "len" = none) :
    bj P w K mg base (di P w mg) (k+1) f fd ["ground","inside"] (eo (eA 2 (eY bX)) 2):=by
  refine aF W kN (G:=["all"]) (by decide +kernel) fun cdv A outer s H E hr T=>?_
  exact (ap (aE (lz T 0 rfl b_all (bU (bg (N:=["number","ground","inside"]) (own:=1) (G:=["len","common","GOALS"]) (fr:=[0,1]) T rfl rfl (oN:=["ground","inside"]) (on:=(ak dI).names) (by decide +kernel) (br (aa T 1 rfl)) (bc (by decide)) (fun cl C s' H' fp E' T=>⟨(aJ T 0 rfl),bN,(yI (ae (cT T 0 rfl b_len (ae (aB C3 hr T 1 rfl (af (aI T.hu (ae (aI T.hu (ae (aa T 1 rfl)) (ae (aa T 0 rfl)) (fun _ _=>rfl))) (ae (dN T 2 rfl g_GOALS)) (fun _ _=>rfl)) (af (aa T 2 rfl) am)) rfl (aj (aj aw)))))) (ae ai))⟩))))))
theorem oB:aP ["place","goals"] ["place","goals"] (ak hJ):=⟨rfl,rfl,rfl,by decide +kernel,rfl,by decide +kernel,by decide +kernel⟩
theorem om (W:h7 K "with_goals" "with_goals" hJ f fd) {t_GAIN:Tok} (g_GAIN:mg "GAIN" = some (.int 2 t_GAIN)) {t_MARK:Tok} (g_MARK:mg "MARK" = some (.int 1 t_MARK)) {t_WHO:Tok} (g_WHO:mg "WHO" = some (.int 0 t_WHO)) (b_tuple:mg "tuple" = none) :
    bj P w K mg base (di P w mg) (k+1) f fd ["place","goals"] (eo (eA 2 (gB)) 2):=by
  refine aF W oB (G:=["WHO","MARK","GAIN","tuple"]) (by decide +kernel) fun cdv A outer s H E hr T=>?_
  exact (ap (aE (cG (af (aI T.hu (ae (aa T 0 rfl)) (ae (dN T 0 rfl g_WHO)) (fun _ _=>rfl)) (af (aI T.hu (ae (aa T 0 rfl)) (ae (dN T 1 rfl g_MARK)) (fun _ _=>rfl)) (af (aI T.hu (ae (aa T 0 rfl)) (ae (dN T 2 rfl g_GAIN)) (fun _ _=>rfl)) (af (bD T 3 rfl b_tuple (ae (aa T 1 rfl))) am)))))))
theorem uk:aP ["ground","inside"] ["ground","inside"] (ak iT):=⟨rfl,rfl,rfl,by decide +kernel,rfl,by decide +kernel,by decide +kernel⟩
theorem ud (W:h7 K "part_of" "part_of" iT f fd) {f2:Addr} {d2:FuncData} {cz:iZ} (C2:i8 P w K mg base k "are_some" ["thing","count"] cz f2 d2) {f6:Addr} {d6:FuncData} {bB:iZ} (C6:i8 P w K mg base k "goals_anew" ["place","inside"] bB f6 d6) {f4:Addr} {d4:FuncData} {bo:iZ} (C4:i8 P w K mg base k "is_whole_part" ["ground","inside"] bo f4 d4) {f5:Addr} {d5:FuncData} {aH:iZ} (C5:i8 P w K mg base k "with_goals" ["place","goals"] aH f5 d5) (b_len:mg "len" = none) (b_tuple:mg "tuple" = none) {c_NoPart:Addr} (m_NoPart:mg "NoPart" = some (.ref c_NoPart)) (q_NoPart:PySem.W.excIn K c_NoPart CS Dv=true) :
    bj P w K mg base (di P w mg) (k+1) f fd ["ground","inside"] (eo (eA 2 (j4 cz bB bo aH)) 2):=by
  refine aF W uk (G:=["are_some","len","NoPart","is_whole_part","tuple"]) (by decide +kernel) fun cdv A outer s H E hr T=>?_
  exact (al (cD (fN (eQ (bW (bF (aB C2 hr T 0 rfl (af (aa T 1 rfl) (af (cT T 1 rfl b_len (ae (aa T 0 rfl))) am)) rfl (aj (aj aw))))) (fx (io T.hu (ae (cT T 1 rfl b_len (ae (aa T 1 rfl)))) (ae ai))))) (ap (lw T 2 rfl m_NoPart q_NoPart (have T:=T.nox;qa))) bY)
      (al (cD (bW (bF (aB C4 hr T 3 rfl (af (aa T 0 rfl) (af (aa T 1 rfl) am)) rfl (aj (aj aw))))) (ap (lw T 2 rfl m_NoPart q_NoPart (have T:=T.nox;qa))) bY)
      (ap (aE (bD T 4 rfl b_tuple (bU (bg (N:=["number","ground","inside"]) (own:=1) (G:=["with_goals","goals_anew"]) (fr:=[0,1]) T rfl rfl (oN:=["ground","inside"]) (on:=(ak iT).names) (by decide +kernel) (br (aa T 1 rfl)) (bc (by decide)) (fun cl C s' H' fp E' T=>⟨(aJ T 0 rfl),bN,(aB C5 hr T 0 rfl (af (aI T.hu (ae (aa T 1 rfl)) (ae (aa T 0 rfl)) (fun _ _=>rfl)) (af (aB C6 hr T 1 rfl (af (aI T.hu (ae (aa T 1 rfl)) (ae (aa T 0 rfl)) (fun _ _=>rfl)) (af (aa T 2 rfl) am)) rfl (aj (aj aw))) am)) rfl (aj (aj aw)))⟩))))))))
theorem vV:aP ["ground","like","led"] ["ground"] (ak jU):=⟨rfl,rfl,rfl,by decide +kernel,rfl,by decide +kernel,by decide +kernel⟩
theorem vQ (W:h7 K "folded" "folded" jU f fd) {f10:Addr} {d10:FuncData} {aS:iZ} (C10:i8 P w K mg base k "likeness" ["ground"] aS f10 d10) {f9:Addr} {d9:FuncData} {au:iZ} (C9:i8 P w K mg base k "likes_of_goals" ["place","like"] au f9 d9) {f7:Addr} {d7:FuncData} {cW:iZ} (C7:i8 P w K mg base k "part_of" ["ground","inside"] cW f7 d7) {f5:Addr} {d5:FuncData} {aH:iZ} (C5:i8 P w K mg base k "with_goals" ["place","goals"] aH f5 d5) (b_set:mg "set" = none) (b_sorted:mg "sorted" = none) (b_tuple:mg "tuple" = none) :
    bj P w K mg base (di P w mg) (k+1) f fd ["ground"] (eo (eA 3 (lj aS au cW aH)) 1):=by
  refine aF W vV (G:=["likeness","tuple","part_of","sorted","set"]) (by decide +kernel) fun cdv A outer s H E hr T=>?_
  exact (al (aK T 1 rfl (aB C10 hr T 0 rfl (af (aa T 0 rfl) am) rfl (aj aw)))
      (al (aK T 2 rfl (bD T 1 rfl b_tuple (bU (bg (N:=["place","like"]) (own:=1) (G:=["with_goals","likes_of_goals"]) (fr:=[1]) T rfl rfl (oN:=["ground","like","led"]) (on:=(ak jU).names) (by decide +kernel) (br (aa T 0 rfl)) (bc (by decide)) (fun cl C s' H' fp E' T=>⟨(aJ T 0 rfl),bN,(aB C5 hr T 0 rfl (af (aa T 0 rfl) (af (aB C9 hr T 1 rfl (af (aa T 0 rfl) (af (aa T 1 rfl) am)) rfl (aj (aj aw))) am)) rfl (aj (aj aw)))⟩)))))
      (ap (aE (aB C7 hr T 2 rfl (af (aa T 2 rfl) (af (bD T 1 rfl b_tuple (bU (jy T 3 4 rfl b_sorted rfl b_set (ae (aa T 1 rfl))))) am)) rfl (aj (aj aw)))))))
theorem CI:aP ["_law_script","_law_ground_here","_law_pairs","_law_count","_law_least","_law_place_here","_law_found","_law_firsts","_law_made","_law_first","_law_goals_here"] ["_law_script"] (ak iA):=⟨rfl,rfl,rfl,by decide +kernel,rfl,by decide +kernel,by decide +kernel⟩
theorem CF (W:h7 K "law" "law" iA f fd) {f23:Addr} {d23:FuncData} {cq:iZ} (C23:i8 P w K mg base k "_law_alike" ["_law_ground_here"] cq f23 d23) {f17:Addr} {d17:FuncData} {ca:iZ} (C17:i8 P w K mg base k "_law_ground" ["_law_script","_law_most"] ca f17 d17) {f22:Addr} {d22:FuncData} {aQ:iZ} (C22:i8 P w K mg base k "_law_is_ground" ["_law_thing"] aQ f22 d22) {f13:Addr} {d13:FuncData} {aO:iZ} (C13:i8 P w K mg base k "_law_mixed" ["_law_script","_law_k"] aO f13 d13) {f24:Addr} {d24:FuncData} {cu:iZ} (C24:i8 P w K mg base k "_law_twice" ["_law_ground_here","_law_number_here"] cu f24 d24) {f11:Addr} {d11:FuncData} {dD:iZ} (C11:i8 P w K mg base k "folded" ["ground"] dD f11 d11) {f10:Addr} {d10:FuncData} {aS:iZ} (C10:i8 P w K mg base k "likeness" ["ground"] aS f10 d10) (b_len:mg "len" = none) (b_min:mg "min" = none) (b_range:mg "range" = none) (b_set:mg "set" = none) (b_sorted:mg "sorted" = none) (b_tuple:mg "tuple" = none) :
    bj P w K mg base (di P w mg) (k+1) f fd ["_law_script"] (eo (eA 11 (vS cq ca aQ aO cu dD aS)) 1):=by
  refine aF W CI (G:=["_law_twice","_law_ground","_law_mixed","_law_alike","len","range","min","likeness","tuple","sorted","set","folded","_law_is_ground"]) (by decide +kernel) fun cdv A outer s H E hr T=>?_
  exact (al (aK T 1 rfl (aB C24 hr T 0 rfl (af (aB C17 hr T 1 rfl (af (aa T 0 rfl) (af ai am)) rfl (aj (aj aw))) (af (aB C13 hr T 2 rfl (af (aa T 0 rfl) (af ai am)) rfl (aj (aj aw))) am)) rfl (aj (aj aw))))
      (al (aK T 2 rfl (aB C23 hr T 3 rfl (af (aa T 1 rfl) am) rfl (aj aw)))
      (al (aK T 3 rfl (cT T 4 rfl b_len (ae (aa T 1 rfl))))
      (al (ik T 4 rfl (iK am))
      (al (cX (have T:=T.nox;eP PassesOwn.never T.calm (dM T 5 rfl b_range (af (aa T 3 rfl) am) (aj aw)) (aJ T 5 rfl) (ap (kq T 4 rfl (ut T 6 rfl b_min (bU (bg (N:=["_law_other","_law_place_here","_law_pairs"]) (own:=1) (G:=[]) (fr:=[5,2]) T rfl rfl (oN:=["_law_script","_law_ground_here","_law_pairs","_law_count","_law_least","_law_place_here","_law_found","_law_firsts","_law_made","_law_first","_law_goals_here"]) (on:=(ak iA).names) (by decide +kernel) (dM T 5 rfl b_range (af (aa T 3 rfl) am) (aj aw)) (bc (by decide)) (fun cl C s' H' fp E' T=>⟨(aJ T 0 rfl),(lv (uv T.hu (ae (cG (af (aa T 1 rfl) (af (aa T 0 rfl) am)))) (ae (aa T 2 rfl)) (by with_unfolding_all rfl))),(aa T 0 rfl)⟩))))))))
      (al (aK T 6 rfl (aB C10 hr T 7 rfl (af (aa T 1 rfl) am) rfl (aj aw)))
      (al (cD (fN (eQ (jz T.hu (ae (aa T 6 rfl)) (ae (bD T 8 rfl b_tuple (cL T 4 rfl)))) (fx (jz T.hu (ae (aB C10 hr T 7 rfl (af (aa T 1 rfl) am) rfl (aj aw))) (ae (aa T 6 rfl)))))) (ap (aE bV)) bY)
      (al (aK T 7 rfl (iH (jy T 9 10 rfl b_sorted rfl b_set (cL T 4 rfl))))
      (al (ik T 8 rfl (iK am))
      (al (cX (have T:=T.nox;eP PassesOwn.never T.calm (br (aa T 7 rfl)) (aJ T 9 rfl) (al (aK T 10 rfl (iH (jy T 9 10 rfl b_sorted rfl b_set (bU (bg (N:=["_law_goal","_law_firsts","_law_least"]) (own:=1) (G:=[]) (fr:=[7,4]) T rfl rfl (oN:=["_law_script","_law_ground_here","_law_pairs","_law_count","_law_least","_law_place_here","_law_found","_law_firsts","_law_made","_law_first","_law_goals_here"]) (on:=(ak iA).names) (by decide +kernel) (br (aI T.hu (ae (aI T.hu (ae (aa T 1 rfl)) (ae (aa T 9 rfl)) (fun _ _=>rfl))) (ae ai) (fun _ _=>rfl))) (bc (by decide)) (fun cl C s' H' fp E' T=>⟨(aJ T 0 rfl),bN,(rL (ae (aa T 1 rfl)) (aI T.hu (cL T 2 rfl) (ae (aa T 0 rfl)) (fun _ _=>rfl)))⟩))))))
      (ap (kq T 8 rfl (bI (ae (gF (ae (aI T.hu (ae (aa T 1 rfl)) (ae (aa T 9 rfl)) (fun _ _=>rfl))) iI (iJ ai))) (ae (cG (af (bD T 8 rfl b_tuple (ae (aa T 10 rfl))) am)))))))))
      (ap (aE (gi (oE T.hu (ae (aB C11 hr T 11 rfl (af (aa T 1 rfl) am) rfl (aj aw))) (ae (bD T 8 rfl b_tuple (cL T 8 rfl)))) (il (aB C22 hr T 12 rfl (af (aB C11 hr T 11 rfl (af (aa T 1 rfl) am) rfl (aj aw)) am) rfl (aj aw))))))))))))))))
end
theorem Bc {l:PySem.W.OpenLaw} {w:World} {K:PySem.W.Frag} {h:Heap} {mg:Str->Option Value} {fa:Addr} (X:K.In h) (G:h.Ns mainGlobals mg) (hfa:mg "law" = some (.ref fa))
    {f24:Addr} {od24 an24:Option Addr} {sl24:Array (Option Value)} {oc24 kV24 dc24 pm24 cd24 ct24:Value}
    {f0:Addr} {d0:FuncData} (q0:cS K "_law_alike" eU f0 d0)
    {f1:Addr} {d1:FuncData} (q1:cS K "_law_cell_at" gc f1 d1)
    {f2:Addr} {d2:FuncData} (q2:cS K "_law_mixed" iD f2 d2)
    {f3:Addr} {d3:FuncData} (q3:cS K "_law_drawn" iB f3 d3)
    {f4:Addr} {d4:FuncData} (q4:cS K "_law_goals" iC f4 d4)
    {f5:Addr} {d5:FuncData} (q5:cS K "_law_place" iE f5 d5)
    {f6:Addr} {d6:FuncData} (q6:cS K "_law_ground" fu f6 d6)
    {f7:Addr} {d7:FuncData} (q7:cS K "_law_number" g8 f7 d7)
    {f8:Addr} {d8:FuncData} (q8:cS K "_law_rising" g9 f8 d8)
    {f9:Addr} {d9:FuncData} (q9:cS K "_law_is_place" fJ f9 d9)
    {f10:Addr} {d10:FuncData} (q10:cS K "_law_is_ground" dJ f10 d10)
    {f11:Addr} {d11:FuncData} (q11:cS K "_law_twice" eV f11 d11)
    {f12:Addr} {d12:FuncData} (q12:cS K "first_alike" eO f12 d12)
    {f13:Addr} {d13:FuncData} (q13:cS K "likes_of_goals" dB f13 d13)
    {f14:Addr} {d14:FuncData} (q14:cS K "likeness" fK f14 d14)
    {f15:Addr} {d15:FuncData} (q15:cS K "is_whole" jq f15 d15)
    {f16:Addr} {d16:FuncData} (q16:cS K "is_between" gZ f16 d16)
    {f17:Addr} {d17:FuncData} (q17:cS K "are_some" jp f17 d17)
    {f18:Addr} {d18:FuncData} (q18:cS K "common" jT f18 d18)
    {f19:Addr} {d19:FuncData} (q19:cS K "goals_anew" fq f19 d19)
    {f20:Addr} {d20:FuncData} (q20:cS K "is_whole_part" dI f20 d20)
    {f21:Addr} {d21:FuncData} (q21:cS K "with_goals" hJ f21 d21)
    {f22:Addr} {d22:FuncData} (q22:cS K "part_of" iT f22 d22)
    {f23:Addr} {d23:FuncData} (q23:cS K "folded" jU f23 d23)
    (a24:PySem.W.nsIn K mainGlobals "law" = some (some (.ref f24))) (l24:K.lookup f24=some ⟨oc24,od24,.func (PySem.W.fnOf "law" "law" (dX iA) (cN iA) (ak iA) .none kV24 dc24 pm24 an24 cd24 ct24),sl24⟩) (c24:PySem.W.codeIn K cd24 "law" = true) (k24:PySem.W.keepIn K (.ref f24)=true)
    {t0:Tok} (qg0:PySem.W.nsIn K mainGlobals "GAIN" = some (some (.int 2 t0)))
    {t1:Tok} (qg1:PySem.W.nsIn K mainGlobals "GOALS" = some (some (.int 3 t1)))
    {t2:Tok} (qg2:PySem.W.nsIn K mainGlobals "MARK" = some (some (.int 1 t2)))
    {t3:Tok} (qg3:PySem.W.nsIn K mainGlobals "WHO" = some (some (.int 0 t3)))
    (qz0:PySem.W.nsIn K mainGlobals "all" = some none)
    (qz1:PySem.W.nsIn K mainGlobals "any" = some none)
    (qz2:PySem.W.nsIn K mainGlobals "bool" = some none)
    (qz3:PySem.W.nsIn K mainGlobals "enumerate" = some none)
    (qz4:PySem.W.nsIn K mainGlobals "int" = some none)
    (qz5:PySem.W.nsIn K mainGlobals "isinstance" = some none)
    (qz6:PySem.W.nsIn K mainGlobals "len" = some none)
    (qz7:PySem.W.nsIn K mainGlobals "max" = some none)
    (qz8:PySem.W.nsIn K mainGlobals "min" = some none)
    (qz9:PySem.W.nsIn K mainGlobals "range" = some none)
    (qz10:PySem.W.nsIn K mainGlobals "set" = some none)
    (qz11:PySem.W.nsIn K mainGlobals "sorted" = some none)
    (qz12:PySem.W.nsIn K mainGlobals "tuple" = some none)
    {cc0:Addr} (qm0:PySem.W.nsIn K mainGlobals "NoPart" = some (some (.ref cc0))) (qq0:PySem.W.excIn K cc0 CS Dv=true)
    (nl:kY K=true) :
    kY K=true/\∃ fd:FuncData,(∀ (s:Shared) (v:Value),BindsTo s fd ⟨[v],[]⟩ [("_law_script",v)])/\∀ base:Heap,K.In base->base.Ns mainGlobals mg->bj l.prog w K mg base (di l.prog w mg) 6 fa fd ["_law_script"] (eo pP 1):=by
  have e:=hfa.symm.trans (PySem.W.mg_of X G a24);cases e;have b0:bT K d0 ["_law_ground_here"] []:=Cz q0.fn fun _ _ _ _ _ _ _=>rfl
  have m0:=PySem.W.mg_of X G q0.ns;have b1:bT K d1 ["_law_script","_law_k"] []:=rQ q1.fn fun _ _ _ _ _ _ _ _=>rfl
  have m1:=PySem.W.mg_of X G q1.ns;have b2:bT K d2 ["_law_script","_law_k"] []:=rQ q2.fn fun _ _ _ _ _ _ _ _=>rfl
  have m2:=PySem.W.mg_of X G q2.ns;have b3:bT K d3 ["_law_number_here","_law_k"] []:=rQ q3.fn fun _ _ _ _ _ _ _ _=>rfl
  have m3:=PySem.W.mg_of X G q3.ns;have b4:bT K d4 ["_law_number_here","_law_count"] []:=rQ q4.fn fun _ _ _ _ _ _ _ _=>rfl
  have m4:=PySem.W.mg_of X G q4.ns;have b5:bT K d5 ["_law_number_here","_law_count","_law_high"] []:=E8 q5.fn fun _ _ _ _ _ _ _ _ _=>rfl
  have m5:=PySem.W.mg_of X G q5.ns;have b6:bT K d6 ["_law_script","_law_most"] []:=rQ q6.fn fun _ _ _ _ _ _ _ _=>rfl
  have m6:=PySem.W.mg_of X G q6.ns;have b7:bT K d7 ["_law_thing","_law_low","_law_high"] []:=E8 q7.fn fun _ _ _ _ _ _ _ _ _=>rfl
  have m7:=PySem.W.mg_of X G q7.ns;have b8:bT K d8 ["_law_found","_law_count"] []:=rQ q8.fn fun _ _ _ _ _ _ _ _=>rfl
  have m8:=PySem.W.mg_of X G q8.ns;have b9:bT K d9 ["_law_thing","_law_count"] []:=rQ q9.fn fun _ _ _ _ _ _ _ _=>rfl
  have m9:=PySem.W.mg_of X G q9.ns;have b10:bT K d10 ["_law_thing"] []:=Cz q10.fn fun _ _ _ _ _ _ _=>rfl
  have m10:=PySem.W.mg_of X G q10.ns;have b11:bT K d11 ["_law_ground_here","_law_number_here"] []:=rQ q11.fn fun _ _ _ _ _ _ _ _=>rfl
  have m11:=PySem.W.mg_of X G q11.ns;have b12:bT K d12 ["signs"] []:=Cz q12.fn fun _ _ _ _ _ _ _=>rfl
  have m12:=PySem.W.mg_of X G q12.ns;have b13:bT K d13 ["place","like"] []:=rQ q13.fn fun _ _ _ _ _ _ _ _=>rfl
  have m13:=PySem.W.mg_of X G q13.ns;have b14:bT K d14 ["ground"] []:=Cz q14.fn fun _ _ _ _ _ _ _=>rfl
  have m14:=PySem.W.mg_of X G q14.ns;have b15:bT K d15 ["thing"] []:=Cz q15.fn fun _ _ _ _ _ _ _=>rfl
  have m15:=PySem.W.mg_of X G q15.ns;have b16:bT K d16 ["thing","low","high"] []:=E8 q16.fn fun _ _ _ _ _ _ _ _ _=>rfl
  have m16:=PySem.W.mg_of X G q16.ns;have b17:bT K d17 ["thing","count"] []:=rQ q17.fn fun _ _ _ _ _ _ _ _=>rfl
  have m17:=PySem.W.mg_of X G q17.ns;have b18:bT K d18 ["some","others"] []:=rQ q18.fn fun _ _ _ _ _ _ _ _=>rfl
  have m18:=PySem.W.mg_of X G q18.ns;have b19:bT K d19 ["place","inside"] []:=rQ q19.fn fun _ _ _ _ _ _ _ _=>rfl
  have m19:=PySem.W.mg_of X G q19.ns;have b20:bT K d20 ["ground","inside"] []:=rQ q20.fn fun _ _ _ _ _ _ _ _=>rfl
  have m20:=PySem.W.mg_of X G q20.ns;have b21:bT K d21 ["place","goals"] []:=rQ q21.fn fun _ _ _ _ _ _ _ _=>rfl
  have m21:=PySem.W.mg_of X G q21.ns;have b22:bT K d22 ["ground","inside"] []:=rQ q22.fn fun _ _ _ _ _ _ _ _=>rfl
  have m22:=PySem.W.mg_of X G q22.ns;have b23:bT K d23 ["ground"] []:=Cz q23.fn fun _ _ _ _ _ _ _=>rfl
  have m23:=PySem.W.mg_of X G q23.ns;have F24:=wK (st:=iA) l24 c24 k24;have h0:=PySem.W.mg_of X G qg0;have h1:=PySem.W.mg_of X G qg1;have h2:=PySem.W.mg_of X G qg2;have h3:=PySem.W.mg_of X G qg3;have n0:=PySem.W.mg_of X G qm0;have y0:=PySem.W.mg_none_of X G qz0;have y1:=PySem.W.mg_none_of X G qz1;have y2:=PySem.W.mg_none_of X G qz2;have y3:=PySem.W.mg_none_of X G qz3;have y4:=PySem.W.mg_none_of X G qz4;have y5:=PySem.W.mg_none_of X G qz5;have y6:=PySem.W.mg_none_of X G qz6;have y7:=PySem.W.mg_none_of X G qz7;have y8:=PySem.W.mg_none_of X G qz8;have y9:=PySem.W.mg_none_of X G qz9;have y10:=PySem.W.mg_none_of X G qz10;have y11:=PySem.W.mg_none_of X G qz11;have y12:=PySem.W.mg_none_of X G qz12;refine ⟨nl,PySem.W.fnOf "law" "law" (dX iA) (cN iA) (ak iA) .none kV24 dc24 pm24 an24 cd24 ct24,fun s v=>.of_eq rfl,fun base _ _=>?_⟩;have Q0:bj l.prog w K mg base (di l.prog w mg) 1 f0 _ ["_law_ground_here"] (eo cq 1):=pI (k:=0) (W:=q0.fn) (b_all:=y0) (b_any:=y1) (b_len:=y6) (b_range:=y9);have Q1:bj l.prog w K mg base (di l.prog w mg) 1 f1 _ ["_law_script","_law_k"] (eo bK 2):=mJ (k:=0) (W:=q1.fn) (b_len:=y6);have Q2:bj l.prog w K mg base (di l.prog w mg) 2 f2 _ ["_law_script","_law_k"] (eo aO 2):=pL (k:=1) (W:=q2.fn) (C12:=⟨Q1.mono (by decide),m1,q1.fn.kp,b1⟩);have Q3:bj l.prog w K mg base (di l.prog w mg) 1 f3 _ ["_law_number_here","_law_k"] (eo aR 2):=pJ (k:=0) (W:=q3.fn);have Q4:bj l.prog w K mg base (di l.prog w mg) 2 f4 _ ["_law_number_here","_law_count"] (eo cr 2):=pK (k:=1) (W:=q4.fn) (C14:=⟨Q3.mono (by decide),m3,q3.fn.kp,b3⟩) (b_int:=y4) (b_range:=y9) (b_sorted:=y11) (b_tuple:=y12);have Q5:bj l.prog w K mg base (di l.prog w mg) 3 f5 _ ["_law_number_here","_law_count","_law_high"] (eo cf 3):=pM (k:=2) (W:=q5.fn) (C14:=⟨Q3.mono (by decide),m3,q3.fn.kp,b3⟩) (C15:=⟨Q4.mono (by decide),m4,q4.fn.kp,b4⟩);have Q6:bj l.prog w K mg base (di l.prog w mg) 4 f6 _ ["_law_script","_law_most"] (eo ca 2):=og (k:=3) (W:=q6.fn) (C13:=⟨Q2.mono (by decide),m2,q2.fn.kp,b2⟩) (C16:=⟨Q5.mono (by decide),m5,q5.fn.kp,b5⟩) (b_len:=y6) (b_max:=y7) (b_min:=y8) (b_range:=y9) (b_tuple:=y12);have Q7:bj l.prog w K mg base (di l.prog w mg) 1 f7 _ ["_law_thing","_law_low","_law_high"] (eo bC 3):=oh (k:=0) (W:=q7.fn) (b_bool:=y2) (b_int:=y4) (b_isinstance:=y5);have Q8:bj l.prog w K mg base (di l.prog w mg) 1 f8 _ ["_law_found","_law_count"] (eo cb 2):=oj (k:=0) (W:=q8.fn) (b_bool:=y2) (b_int:=y4) (b_isinstance:=y5) (b_tuple:=y12);have Q9:bj l.prog w K mg base (di l.prog w mg) 2 f9 _ ["_law_thing","_law_count"] (eo bi 2):=lh (k:=1) (W:=q9.fn) (C20:=⟨Q7.mono (by decide),m7,q7.fn.kp,b7⟩) (C19:=⟨Q8.mono (by decide),m8,q8.fn.kp,b8⟩) (b_isinstance:=y5) (b_len:=y6) (b_tuple:=y12);have Q10:bj l.prog w K mg base (di l.prog w mg) 3 f10 _ ["_law_thing"] (eo aQ 1):=kL (k:=2) (W:=q10.fn) (C21:=⟨Q9.mono (by decide),m9,q9.fn.kp,b9⟩) (b_isinstance:=y5) (b_len:=y6) (b_tuple:=y12);have Q11:bj l.prog w K mg base (di l.prog w mg) 1 f11 _ ["_law_ground_here","_law_number_here"] (eo cu 2):=pN (k:=0) (W:=q11.fn) (b_len:=y6) (b_tuple:=y12);have Q12:bj l.prog w K mg base (di l.prog w mg) 1 f12 _ ["signs"] (eo bh 1):=mI (k:=0) (W:=q12.fn) (b_tuple:=y12);have Q13:bj l.prog w K mg base (di l.prog w mg) 1 f13 _ ["place","like"] (eo au 2):=jY (k:=0) (W:=q13.fn) (g_GOALS:=h1) (b_set:=y10) (b_sorted:=y11);have Q14:bj l.prog w K mg base (di l.prog w mg) 2 f14 _ ["ground"] (eo aS 1):=rC (k:=1) (W:=q14.fn) (C8:=⟨Q12.mono (by decide),m12,q12.fn.kp,b12⟩) (C9:=⟨Q13.mono (by decide),m13,q13.fn.kp,b13⟩) (g_MARK:=h2) (g_WHO:=h3) (b_enumerate:=y3);have Q15:bj l.prog w K mg base (di l.prog w mg) 1 f15 _ ["thing"] (eo c8 1):=rB (k:=0) (W:=q15.fn) (b_bool:=y2) (b_int:=y4) (b_isinstance:=y5);have Q16:bj l.prog w K mg base (di l.prog w mg) 2 f16 _ ["thing","low","high"] (eo bJ 3):=oa (k:=1) (W:=q16.fn) (C0:=⟨Q15.mono (by decide),m15,q15.fn.kp,b15⟩);have Q17:bj l.prog w K mg base (di l.prog w mg) 3 f17 _ ["thing","count"] (eo cz 2):=rA (k:=2) (W:=q17.fn) (C1:=⟨Q16.mono (by decide),m16,q16.fn.kp,b16⟩) (b_isinstance:=y5) (b_tuple:=y12);have Q18:bj l.prog w K mg base (di l.prog w mg) 1 f18 _ ["some","others"] (eo bX 2):=vP (k:=0) (W:=q18.fn) (b_tuple:=y12);have Q19:bj l.prog w K mg base (di l.prog w mg) 2 f19 _ ["place","inside"] (eo bB 2):=n9 (k:=1) (W:=q19.fn) (C3:=⟨Q18.mono (by decide),m18,q18.fn.kp,b18⟩) (g_GOALS:=h1);have Q20:bj l.prog w K mg base (di l.prog w mg) 2 f20 _ ["ground","inside"] (eo bo 2):=kK (k:=1) (W:=q20.fn) (C3:=⟨Q18.mono (by decide),m18,q18.fn.kp,b18⟩) (g_GOALS:=h1) (b_all:=y0) (b_len:=y6);have Q21:bj l.prog w K mg base (di l.prog w mg) 1 f21 _ ["place","goals"] (eo aH 2):=om (k:=0) (W:=q21.fn) (g_GAIN:=h0) (g_MARK:=h2) (g_WHO:=h3) (b_tuple:=y12);have Q22:bj l.prog w K mg base (di l.prog w mg) 4 f22 _ ["ground","inside"] (eo cW 2):=ud (k:=3) (W:=q22.fn) (C2:=⟨Q17.mono (by decide),m17,q17.fn.kp,b17⟩) (C6:=⟨Q19.mono (by decide),m19,q19.fn.kp,b19⟩) (C4:=⟨Q20.mono (by decide),m20,q20.fn.kp,b20⟩) (C5:=⟨Q21.mono (by decide),m21,q21.fn.kp,b21⟩) (b_len:=y6) (b_tuple:=y12) (m_NoPart:=n0) (q_NoPart:=qq0);have Q23:bj l.prog w K mg base (di l.prog w mg) 5 f23 _ ["ground"] (eo dD 1):=vQ (k:=4) (W:=q23.fn) (C10:=⟨Q14.mono (by decide),m14,q14.fn.kp,b14⟩) (C9:=⟨Q13.mono (by decide),m13,q13.fn.kp,b13⟩) (C7:=⟨Q22.mono (by decide),m22,q22.fn.kp,b22⟩) (C5:=⟨Q21.mono (by decide),m21,q21.fn.kp,b21⟩) (b_set:=y10) (b_sorted:=y11) (b_tuple:=y12);have Q24:bj l.prog w K mg base (di l.prog w mg) 6 fa _ ["_law_script"] (eo pP 1):=CF (k:=5) (W:=F24) (C23:=⟨Q0.mono (by decide),m0,q0.fn.kp,b0⟩) (C17:=⟨Q6.mono (by decide),m6,q6.fn.kp,b6⟩) (C22:=⟨Q10.mono (by decide),m10,q10.fn.kp,b10⟩) (C13:=⟨Q2.mono (by decide),m2,q2.fn.kp,b2⟩) (C24:=⟨Q11.mono (by decide),m11,q11.fn.kp,b11⟩) (C11:=⟨Q23.mono (by decide),m23,q23.fn.kp,b23⟩) (C10:=⟨Q14.mono (by decide),m14,q14.fn.kp,b14⟩) (b_len:=y6) (b_min:=y8) (b_range:=y9) (b_set:=y10) (b_sorted:=y11) (b_tuple:=y12);exact Q24
end G
open PySem PySem.W PyProof.Rows
theorem D2.walkZ {q:Program} {loose:List Str} {XP:(Str->Option Value)->Heap->Prop} {K:Params->PySem.W.Frag} {as:List Addr} {n t:Nat} {r:PySem.W.RowW} {d:DefRec} {kwd:List (Str×Expr)} {run:Value->List Value->Sem Value} (has:∀ P:Params,as=List.map (fun x=>x.fst) (K P))
    (h:PySem.W.WalkO q loose XP (PySem.W.kHook K as has).says r d kwd run):PySem.W.WalkX q loose XP (PySem.W.X.obsZ as) (PySem.W.X.valZ K n t) r d kwd run:=fun w s₀ s₁ mg mb G e a o pm cd doc dV kV h1 h2 h3 h4 h5 h6 args vals as' L =>
  h w s₀ s₁ mg mb G ((PySem.W.kHook K as has).keeps w _ _ ((PySem.W.kHook K as has).of w s₀ (congrArg Prod.fst e)) L.keeps) a o pm cd doc dV kV h1 h2 h3 h4 h5 h6 args vals as'
set_option maxRecDepth 100000 in
set_option maxHeartbeats 0 in
theorem PySem.Challenge.cw_duelground_k80_likeness_holds : PySem.Challenge.rw_duelground_k80_likeness.Holds := by
  w_on;o_law;z_head;(case hw=>w_witness2)
  refine D2.walkZ (fun P=>rfl) ?_;refine D2.F1 (l:=PySem.Challenge.rw_duelground_k80_likeness) (k:=6) (x := "_law_script") (F:=G.pP) rfl rfl ⟨rfl,by decide,by decide⟩ (fun w h Y=>PySem.W.kIn_of Y) G.w4 ?F
  case F =>
    intro w mg fa h KX GG hmg;refine' G.Bc KX GG hmg ?q0 ?q1 ?q2 ?q3 ?q4 ?q5 ?q6 ?q7 ?q8 ?q9 ?q10 ?q11 ?q12 ?q13 ?q14 ?q15 ?q16 ?q17 ?q18 ?q19 ?q20 ?q21 ?q22 ?q23 ?a24 ?l24 ?c24 ?k24 ?qg0 ?qg1 ?qg2 ?qg3 ?qz0 ?qz1 ?qz2 ?qz3 ?qz4 ?qz5 ?qz6 ?qz7 ?qz8 ?qz9 ?qz10 ?qz11 ?qz12 ?qm0 ?qq0 ?nl
    (case q0=>refine' D2.aW ?a ?l ?c ?k;(case a=>k_is);(case l=>k_is);(case c=>k_is);(case k=>k_is))
    (case q1=>refine' D2.aW ?a ?l ?c ?k;(case a=>k_is);(case l=>k_is);(case c=>k_is);(case k=>k_is))
    (case q2=>refine' D2.aW ?a ?l ?c ?k;(case a=>k_is);(case l=>k_is);(case c=>k_is);(case k=>k_is))
    (case q3=>refine' D2.aW ?a ?l ?c ?k;(case a=>k_is);(case l=>k_is);(case c=>k_is);(case k=>k_is))
    (case q4=>refine' D2.aW ?a ?l ?c ?k;(case a=>k_is);(case l=>k_is);(case c=>k_is);(case k=>k_is))
    (case q5=>refine' D2.aW ?a ?l ?c ?k;(case a=>k_is);(case l=>k_is);(case c=>k_is);(case k=>k_is))
    (case q6=>refine' D2.aW ?a ?l ?c ?k;(case a=>k_is);(case l=>k_is);(case c=>k_is);(case k=>k_is))
    (case q7=>refine' D2.aW ?a ?l ?c ?k;(case a=>k_is);(case l=>k_is);(case c=>k_is);(case k=>k_is))
    (case q8=>refine' D2.aW ?a ?l ?c ?k;(case a=>k_is);(case l=>k_is);(case c=>k_is);(case k=>k_is))
    (case q9=>refine' D2.aW ?a ?l ?c ?k;(case a=>k_is);(case l=>k_is);(case c=>k_is);(case k=>k_is))
    (case q10=>refine' D2.aW ?a ?l ?c ?k;(case a=>k_is);(case l=>k_is);(case c=>k_is);(case k=>k_is))
    (case q11=>refine' D2.aW ?a ?l ?c ?k;(case a=>k_is);(case l=>k_is);(case c=>k_is);(case k=>k_is))
    (case q12=>refine' D2.aW ?a ?l ?c ?k;(case a=>k_is);(case l=>k_is);(case c=>k_is);(case k=>k_is))
    (case q13=>refine' D2.aW ?a ?l ?c ?k;(case a=>k_is);(case l=>k_is);(case c=>k_is);(case k=>k_is))
    (case q14=>refine' D2.aW ?a ?l ?c ?k;(case a=>k_is);(case l=>k_is);(case c=>k_is);(case k=>k_is))
    (case q15=>refine' D2.aW ?a ?l ?c ?k;(case a=>k_is);(case l=>k_is);(case c=>k_is);(case k=>k_is))
    (case q16=>refine' D2.aW ?a ?l ?c ?k;(case a=>k_is);(case l=>k_is);(case c=>k_is);(case k=>k_is))
    (case q17=>refine' D2.aW ?a ?l ?c ?k;(case a=>k_is);(case l=>k_is);(case c=>k_is);(case k=>k_is))
    (case q18=>refine' D2.aW ?a ?l ?c ?k;(case a=>k_is);(case l=>k_is);(case c=>k_is);(case k=>k_is))
    (case q19=>refine' D2.aW ?a ?l ?c ?k;(case a=>k_is);(case l=>k_is);(case c=>k_is);(case k=>k_is))
    (case q20=>refine' D2.aW ?a ?l ?c ?k;(case a=>k_is);(case l=>k_is);(case c=>k_is);(case k=>k_is))
    (case q21=>refine' D2.aW ?a ?l ?c ?k;(case a=>k_is);(case l=>k_is);(case c=>k_is);(case k=>k_is))
    (case q22=>refine' D2.aW ?a ?l ?c ?k;(case a=>k_is);(case l=>k_is);(case c=>k_is);(case k=>k_is))
    (case q23=>refine' D2.aW ?a ?l ?c ?k;(case a=>k_is);(case l=>k_is);(case c=>k_is);(case k=>k_is))
    (case a24=>k_is)
    (case l24=>k_is)
    (case c24=>k_is)
    (case k24=>k_is)
    (case qg0=>k_is)
    (case qg1=>k_is)
    (case qg2=>k_is)
    (case qg3=>k_is)
    (case qz0=>k_is)
    (case qz1=>k_is)
    (case qz2=>k_is)
    (case qz3=>k_is)
    (case qz4=>k_is)
    (case qz5=>k_is)
    (case qz6=>k_is)
    (case qz7=>k_is)
    (case qz8=>k_is)
    (case qz9=>k_is)
    (case qz10=>k_is)
    (case qz11=>k_is)
    (case qz12=>k_is)
    (case qm0=>k_is)
    (case qq0=>k_exc)
    (case nl=>first | rfl | k_is | decide)

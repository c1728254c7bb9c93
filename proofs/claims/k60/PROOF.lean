import PyProof.Rows.All
import Wide.All
import OpenK.AllK
import Wide.FinOn
import Lean
import PyProof.EqAt
import PyProof.EqKinds
import PyProof.TupleCall
import PySem.Challenge.RW_duelground_k60_credits
set_option Elab.async false
set_option linter.all false
set_option maxRecDepth 100000
set_option bootstrap.genMatcherCode false
set_option genSizeOf false
set_option genInjectivity false
set_option compiler.extract_closed false
set_option genSizeOfSpec false
local macro_rules | `(tactic| omega) => `(tactic| first | lia | omega +splitDisjunctions)
namespace L2
open PySem PySem.Spec PyProof.Rows
noncomputable abbrev bu:=Sum Int Str
noncomputable def iB:bu->Value->Bool
  | .inl k,v=>Value.isInt k v
  | .inr x,v=>Value.isStrOf x v
noncomputable def yl (w:World):bu->Int
  | .inl k=>hashInt k
  | .inr x=>hashStr w x
theorem bc:∀ {k:bu} {v:Value},iB k v=true->(∃ i t,k=Sum.inl i/\v=Value.int i t)\/(∃ x t,k=Sum.inr x/\v=Value.str x t)
  | .inl i,v,h=>by
    obtain ⟨t,e⟩:=Value.isInt_shape (k:=i) (v:=v) h;exact .inl ⟨i,t,rfl,e⟩
  | .inr x,v,h=>by
    obtain ⟨t,e⟩:=Value.isStrOf_shape (x:=x) (v:=v) h;exact .inr ⟨x,t,rfl,e⟩
theorem n0 (i:Int) (t:Tok):iB (.inl i) (.int i t)=true:=by simp [iB,Value.isInt]
theorem n4 (x:Str) (t:Tok):iB (.inr x) (.str x t)=true:=by simp [iB,Value.isStrOf]
theorem tZ (a b:Int):decide ((Sum.inl a:bu)=Sum.inl b)=(a==b):=by
  by_cases e:a=b
  · subst e;simp
  · have h:¬ (Sum.inl a:bu)=Sum.inl b:=fun q=>e (Sum.inl.inj q)
    rw [decide_eq_false h];exact (beq_eq_false_iff_ne.mpr e).symm
theorem t7 (a b:Str):decide ((Sum.inr a:bu)=Sum.inr b)=decide (a=b):=by
  by_cases e:a=b
  · subst e;simp
  · have h:¬ (Sum.inr a:bu)=Sum.inr b:=fun q=>e (Sum.inr.inj q)
    rw [decide_eq_false h,decide_eq_false e]
theorem t5 (a:Int) (b:Str):decide ((Sum.inl a:bu)=Sum.inr b)=false:=decide_eq_false (fun q=>nomatch q)
theorem t6 (a:Str) (b:Int):decide ((Sum.inr a:bu)=Sum.inl b)=false:=decide_eq_false (fun q=>nomatch q)
noncomputable def bA (prog:Program) (w:World):PySem.KeyKind prog w bu where
  is:=iB
  hash:=yl w
  inj:=fun v a b ha hb=>by
    rcases bc ha with ⟨i,t,rfl,rfl⟩ | ⟨x,t,rfl,rfl⟩
    · rcases bc hb with ⟨j,u,rfl,e⟩ | ⟨y,u,rfl,e⟩
      · injection e with e1 _;rw [e1]
      · exact nomatch e
    · rcases bc hb with ⟨j,u,rfl,e⟩ | ⟨y,u,rfl,e⟩
      · exact nomatch e
      · injection e with e1 _;rw [e1]
  byValue:=fun k v h=>by
    rcases bc h with ⟨i,t,rfl,rfl⟩ | ⟨x,t,rfl,rfl⟩ <;> rfl
  pyHash:=fun hv h=>by
    rcases bc hv with ⟨i,t,rfl,rfl⟩ | ⟨x,t,rfl,rfl⟩
    · exact wpAny_pyHash_int h
    · exact wpAny_pyHash_str h
  eqBool:=fun hu hv h=>by
    rcases bc hu with ⟨i,t,rfl,rfl⟩ | ⟨x,t,rfl,rfl⟩
    · rcases bc hv with ⟨j,u,rfl,rfl⟩ | ⟨y,u,rfl,rfl⟩
      · rw [tZ] at h;exact wpAny_eqBool_int h
      · rw [t5] at h;exact SeqAt.EqAt.int_str i t y u _ _ _ _ h
    · rcases bc hv with ⟨j,u,rfl,rfl⟩ | ⟨y,u,rfl,rfl⟩
      · rw [t6] at h;exact SeqAt.EqAt.str_int x t j u _ _ _ _ h
      · rw [t7] at h;exact wpAny_eqBool_str h
  «strs»:=fun k x t v h=>by
    rcases bc h with ⟨i,u,rfl,e⟩ | ⟨y,u,rfl,e⟩
    · exact nomatch e
    · injection e with e1 _
      subst e1;cases v <;> rfl
theorem lg (prog:Program) (w:World) (i:Int) (t:Tok):(bA prog w).is (.inl i) (.int i t)=true:=n0 i t
theorem lh (prog:Program) (w:World) (x:Str) (t:Tok):(bA prog w).is (.inr x) (.str x t)=true:=n4 x t
inductive V where
  | non | bl (b:Bool) | int (i:Int) | str (x:Str) | byt (b:Array UInt8) | flt (b:UInt64) | ref (a:Addr) | ty (n:String)
  deriving DecidableEq
noncomputable def aJ:V->Value->Prop
  | .non,u=>u=Value.none
  | .bl b,u=>u=Value.bool b
  | .int i,u=>∃ t,u=Value.int i t
  | .str x,u=>∃ t,u=Value.str x t
  | .byt b,u=>∃ t,u=Value.bytes b t
  | .flt b,u=>∃ t,u=Value.float b t
  | .ref a,u=>u=Value.ref a
  | .ty n,u=>u=Value.type n
noncomputable abbrev aF:List V->List Value->Prop:=Paired aJ
theorem aF.length {xs:List V} {us:List Value} (r:aF xs us):xs.length=us.length:=Paired.length r
theorem aF.get:∀ {xs:List V} {us:List Value} {i:Nat} {x:V},aF xs us->xs[i]?=some x->∃ u,us[i]?=some u/\aJ x u
  | _,_,_,_,.nil,e=>by simp at e
  | _,_,0,_,.cons r _,e=>by simp at e;subst e;exact ⟨_,rfl,r⟩
  | _,_,i+1,x,.cons _ t,e=>by
    obtain ⟨u,h1,h2⟩:=aF.get (i:=i) (x:=x) t (by simpa using e);exact ⟨u,by simpa using h1,h2⟩
theorem aF.set {x:V} {u:Value} (r:aJ x u):∀ {xs:List V} {us:List Value} (i:Nat),aF xs us->aF (xs.set i x) (us.set i u)
  | _,_,_,.nil=>.nil
  | _,_,0,.cons _ t=>.cons r t
  | _,_,i+1,.cons q t=>.cons q (aF.set r i t)
theorem aF.append {xs ys:List V} {us ws:List Value} (h:aF xs us) (s:aF ys ws):aF (xs++ys) (us++ws):=by
  induction h with
  | nil=>exact s
  | cons r t ih=>exact .cons r ih
theorem aF.take:∀ {xs:List V} {us:List Value} (n:Nat),aF xs us->aF (xs.take n) (us.take n)
  | _,_,0,_=>.nil
  | _,_,_+1,.nil=>.nil
  | _,_,n+1,.cons r t=>.cons r (aF.take n t)
theorem aF.drop:∀ {xs:List V} {us:List Value} (n:Nat),aF xs us->aF (xs.drop n) (us.drop n)
  | _,_,0,r=>r
  | _,_,_+1,.nil=>.nil
  | _,_,n+1,.cons _ t=>aF.drop n t
noncomputable def gt:Option V->Option Value->Prop
  | some v,some u=>aJ v u
  | none,none=>True
  | _,_=>False
noncomputable def KV {κ:Type}:List (κ×V)->List (κ×Value)->Prop:=Paired fun (p:κ×V) (q:κ×Value)=>p.1=q.1/\aJ p.2 q.2
noncomputable def kV:bu->V
  | .inl i=>.int i
  | .inr x=>.str x
inductive HO where
  /-- a list -/
  | lst (xs:List V)
  /-- a tuple (never changes) -/
  | tup (xs:List V)
  /-- a dict whose keys are ints and texts;one whose keys are tuples of ints and texts (the empty one is both) -/
  | dK (kvs:List (bu×V)) | dT (kvs:List (List bu×V))
  /-- a set of ints: its members,its size -/
  | set (S:Int->Bool) (n:Nat)
  /-- an instance of the class at C,its dict at dx,its attributes -/
  | ins (C dx:Addr) (fs:List (Str×V))
  /-- the dict of the instance at x -/
  | own (x:Addr)
  /-- the dict of an exception -/
  | xd (fs:List (Str×V))
  /-- a bound method,f of x -/
  | met (f x:Addr)
  /-- a range object lo,lo+1,.. below hi -/
  | rng (lo hi:Int)
  /-- a thing that is known to the object (the script;a dict while a loop walks it): read,never written while it is so -/
  | frz (o:Obj) (u:HO)
  /-- a code object's table -/
  | tbl (q:Str)
  /-- any other thing,by what is true of its one object (a def of one's own: SetO a S n:=HO.ext fun h=>..) -/
  | ext (φ:Heap->Prop)
noncomputable abbrev Hp:=Addr->Option HO
noncomputable def bP (H:Hp) (a:Addr) (o:HO):Hp:=fun b=>if b=a then some o else H b
theorem aW {H:Hp} {a:Addr} {o:HO}:bP H a o a=some o:=by unfold bP;rw [if_pos rfl]
theorem am {H:Hp} {a b:Addr} {o:HO} (h:b≠a):bP H a o b=H b:=by unfold bP;rw [if_neg h]
theorem vX {H:Hp} {a b:Addr} {o u:HO} (h:H a=some o) (h':H b=some u) (d:o≠u):a≠b:=by
  intro e;subst e;rw [h] at h';exact d (Option.some.inj h')
theorem aq {H:Hp} {a b:Addr} {o:HO} (h:H a=some o) (h':H b=none):a≠b:=by
  intro e;subst e;rw [h] at h';cases h'
noncomputable def dm (h:Heap) (a:Addr) (items:Array Value):Prop:=∃ o,h.get? a=some o/\o.cls=.type "tuple" /\ (∃ n,o.data=.seq items n)/\o.dict=none
theorem dm.is {h:Heap} {a:Addr} {items:Array Value} (x:dm h a items):IsTup h a items:=by
  obtain ⟨o,e,c,n,_⟩:=x;exact ⟨o,e,c,n⟩
theorem dm.lt {h:Heap} {a:Addr} {items:Array Value} (x:dm h a items):a < h.objs.size:=by
  obtain ⟨o,e,_⟩:=x;exact Heap.lt_size e
theorem dm.new (h:Heap) (items:Array Value):dm (h.push { cls:=.type "tuple",data:=.seq items }) h.objs.size items:=⟨_,Heap.get?_push_size _ rfl,rfl,⟨_,rfl⟩,rfl⟩
section
variable (P:Program) (w:World)
noncomputable def aQ (H:Hp) (h:Heap) (a:Addr):HO->Prop
  | .lst xs=>xs.length<=sizeLine/\∃ (its:List Value) (n:Nat),aF xs its/\h.get? a=some { cls:=.type "list",data:=.seq its.toArray n }
  | .tup xs=>xs.length<=sizeLine/\∃ its:List Value,aF xs its/\dm h a its.toArray
  | .dK kvs=>kvs.length<=sizeLine/\(a==sysModules)=false/\∃ vs,KV kvs vs/\h.DictOf (bA P w) a vs
  | .dT kvs=>kvs.length<=sizeLine/\(a==sysModules)=false/\∃ xs:List (List bu×Addr×Value),
      Paired (fun (p:List bu×V) (q:List bu×Addr×Value)=>p.1=q.1/\H q.2.1=some (.tup (p.1.map kV))/\aJ p.2 q.2.2) kvs xs /\
      ∃ o es ep,h.get? a=some o/\o.ExactDict/\o.data=.dict es ep/\es.toList=xs.map (entryOfKey (tupleKind (bA P w)))/\(xs.map (·.1)).Nodup
  | .set S n=>h.SetOf (intKind P w) a S n
  | .ins C dx fs=>H dx=some (.own a)/\fs.length<=1000/\dx≠a/\h.get? a=some (PySem.W.instObj C dx) /\
      ∃ mA,h.Ns1 dx mA/\(∀ f,gt (fs.lookup f) (mA f))/\PySem.Within mA (fs.map (·.1))
  | .own _=>∃ o,h.get? a=some o
  | .xd fs=>∃ mA,h.Ns1 a mA/\∀ f,gt (fs.lookup f) (mA f)
  | .rng lo hi=>∃ t u v,h.get? a=some { cls:=.type "range",data:=.fields #[.int lo t,.int hi u,.int 1 v] }
  | .frz o u=>h.get? a=some o/\aQ H h a u
  | .tbl q=>∃ ps:Array Value,h.get? a=some { cls:=.none,data:=.fields ps }/\TriplesOk ps.toList/\∀ pos cv,codeAmong pos ps.toList=some cv->∃ c o vs t,cv=.ref c/\H c=some (.own a)/\h.get? c=some o/\o.data=.fields vs/\vs[1]?=some (.str q t)
  | .met f x=>h.get? a=some (PySem.W.methodObj (.ref f) (.ref x))
  | .ext φ=>φ h/\(∃ o,h.get? a=some o)/\∀ h1 h2:Heap,φ h1->(∀ o,h1.get? a=some o->h2.get? a=some o)->φ h2
noncomputable def dk (H:Hp) (h:Heap):Prop:=∀ a o,H a=some o->aQ P w H h a o
end
section
variable {P:Program} {w:World} {H H':Hp} {h h':Heap} {a:Addr} {o:HO}
theorem aQ.lt (x:aQ P w H h a o):a < h.objs.size:=by
  cases o with
  | lst xs=>obtain ⟨_,_,_,_,e⟩:=x;exact Heap.lt_size e
  | tup xs=>obtain ⟨_,_,_,p⟩:=x;exact p.lt
  | dK kvs=>obtain ⟨_,_,_,_,o,_,_,e,_⟩:=x;exact Heap.lt_size e
  | dT kvs=>obtain ⟨_,_,_,_,o,_,_,e,_⟩:=x;exact Heap.lt_size e
  | set S n=>obtain ⟨o,_,_,_,e,_⟩:=x;exact Heap.lt_size e
  | ins C dx fs=>obtain ⟨_,_,_,e,_⟩:=x;exact Heap.lt_size e
  | own y=>obtain ⟨_,e⟩:=x;exact Heap.lt_size e
  | xd fs=>obtain ⟨_,⟨_,_,_,e,_⟩,_⟩:=x;exact Heap.lt_size e
  | rng lo hi=>obtain ⟨_,_,_,e⟩:=x;exact Heap.lt_size e
  | frz ob u=>obtain ⟨e,_⟩:=x;exact Heap.lt_size e
  | tbl q=>obtain ⟨_,e,_⟩:=x;exact Heap.lt_size e
  | met f y=>exact Heap.lt_size (show h.get? a=some _ from x)
  | ext φ=>obtain ⟨_,⟨_,e⟩,_⟩:=x;exact Heap.lt_size e
theorem Paired.mapP {α β:Type} {F G:α->β->Prop} {l₁:List α} {l₂:List β} (h:Paired F l₁ l₂) (f:∀ a b,F a b->G a b):Paired G l₁ l₂:=by
  induction h with
  | nil=>exact .nil
  | cons r t ih=>exact .cons (f _ _ r) ih
theorem aQ.stay (x:aQ P w H h a o) (k:∀ b u,(b=a\/H b=some (.own a))->h.get? b=some u->h'.get? b=some u)
    (ho:∀ b,H b=some (.own a)->H' b=some (.own a)) (ht:∀ b xs,H b=some (.tup xs)->H' b=some (.tup xs)):aQ P w H' h' a o:=by
  induction o with
  | lst xs=>obtain ⟨z,its,n,r,e⟩:=x;exact ⟨z,its,n,r,k _ _ (.inl rfl) e⟩
  | tup xs=>obtain ⟨z,its,r,ob,e,c⟩:=x;exact ⟨z,its,r,ob,k _ _ (.inl rfl) e,c⟩
  | dK kvs=>obtain ⟨z,y,vs,r,ob,es,ep,e,c⟩:=x;exact ⟨z,y,vs,r,ob,es,ep,k _ _ (.inl rfl) e,c⟩
  | dT kvs =>
    obtain ⟨z,y,xs,r,ob,es,ep,e,c⟩:=x;exact ⟨z,y,xs,Paired.mapP r fun p q z=>⟨z.1,ht _ _ z.2.1,z.2.2⟩,ob,es,ep,k _ _ (.inl rfl) e,c⟩
  | set S n=>obtain ⟨ob,es,ep,t,e,c⟩:=x;exact ⟨ob,es,ep,t,k _ _ (.inl rfl) e,c⟩
  | ins C dx fs =>
    obtain ⟨d,z,ne,e,mA,⟨od,es,ep,e2,c⟩,r⟩:=x;exact ⟨ho _ d,z,ne,k _ _ (.inl rfl) e,mA,⟨od,es,ep,k _ _ (.inr d) e2,c⟩,r⟩
  | own y=>obtain ⟨ob,e⟩:=x;exact ⟨ob,k _ _ (.inl rfl) e⟩
  | xd fs=>obtain ⟨mA,⟨od,es,ep,e,c⟩,r⟩:=x;exact ⟨mA,⟨od,es,ep,k _ _ (.inl rfl) e,c⟩,r⟩
  | rng lo hi=>obtain ⟨t,u,v,e⟩:=x;exact ⟨t,u,v,k _ _ (.inl rfl) e⟩
  | frz ob u ih=>obtain ⟨e,q⟩:=x;exact ⟨k _ _ (.inl rfl) e,ih q⟩
  | tbl q =>
    obtain ⟨ps,e,t,c⟩:=x;refine ⟨ps,k _ _ (.inl rfl) e,t,fun pos cv z=>?_⟩;obtain ⟨c',o,vs,t',e1,e2,e3,e4⟩:=c pos cv z;exact ⟨c',o,vs,t',e1,ho _ e2,k _ _ (.inr e2) e3,e4⟩
  | met f y =>
    have e:h.get? a=some (PySem.W.methodObj (.ref f) (.ref y)):=x;show h'.get? a=some (PySem.W.methodObj (.ref f) (.ref y));exact k a _ (.inl rfl) e
  | ext φ=>obtain ⟨p,⟨o,e⟩,st⟩:=x;exact ⟨st _ _ p fun o q=>k _ _ (.inl rfl) q,⟨o,k _ _ (.inl rfl) e⟩,st⟩
theorem dk.lt (x:dk P w H h) (e:H a=some o):a < h.objs.size:=(x a o e).lt
theorem dk.fresh (x:dk P w H h) (e:h.objs.size<=a):H a=none:=by
  cases q:H a with
  | none=>rfl
  | some u=>exact absurd (Nat.lt_of_lt_of_le (x.lt q) e) (Nat.lt_irrefl _)
theorem dk.kept (x:dk P w H h) (k:∀ b u,h.get? b=some u->h'.get? b=some u):dk P w H h':=fun a o e =>
  (x a o e).stay (fun b u _ q=>k b u q) (fun _ q=>q) fun _ _ q=>q
theorem dk.laid (x:dk P w H h) (k:∀ b u,h.get? b=some u->h'.get? b=some u) (hp:h.objs.size<=a) (new:aQ P w (bP H a o) h' a o):dk P w (bP H a o) h':=fun b u e=>by
  have hn:=x.fresh hp;by_cases hb:b=a
  · subst hb;rw [aW] at e;cases e;exact new
  · rw [am hb] at e;exact (x b u e).stay (fun c v _ q=>k c v q) (fun c q=>by rw [am (aq q hn)];exact q) fun c xs q=>by rw [am (aq q hn)];exact q
end
noncomputable def Rd (H:Hp) (a:Addr) (u:HO):Prop:=H a=some u\/∃ o,H a=some (.frz o u)
theorem Rd.ok {P:Program} {w:World} {H:Hp} {h:Heap} {a:Addr} {u:HO} (r:Rd H a u) (x:dk P w H h):aQ P w H h a u:=by
  rcases r with r | ⟨o,r⟩
  · exact x a u r
  · obtain ⟨_,q⟩:=x a _ r;exact q
noncomputable def vg:Option HO->Prop
  | some (.lst _)=>True
  | some (.dK _)=>True
  | some (.dT _)=>True
  | some (.set _ _)=>True
  | some (.ins _ _ _)=>True
  | some (.ext _)=>True
  | _=>False
section
variable {P:Program} {w:World} {H:Hp} {h h':Heap} {x e:Addr} {o':HO}
theorem dk.write (ok:dk P w H h) (mu:vg (H x)) (he:e=x\/H e=some (.own x)) (k:∀ b u,b≠e->h.get? b=some u->h'.get? b=some u) (heo:∃ u,h'.get? e=some u)
    (new:aQ P w (bP H x o') h' x o'):dk P w (bP H x o') h':=fun b u q=>by
  have nown:∀ c y,H c=some (.own y)->c≠x:=fun c y r z=>by subst z;rw [r] at mu;exact mu
  have ntup:∀ c xs,H c=some (.tup xs)->c≠x:=fun c xs r z=>by subst z;rw [r] at mu;exact mu
  by_cases hb:b=x
  · subst hb;rw [aW] at q;cases q;exact new
  · rw [am hb] at q;by_cases hbe:b=e
    · have q':H b=some (.own x):=by
        rcases he with z | z
        · exact absurd (hbe.trans z) hb
        · rw [hbe];exact z
      rw [q] at q';cases q';obtain ⟨v,hv⟩:=heo;exact ⟨v,by rw [hbe];exact hv⟩
    · refine (ok b u q).stay (fun c v hc r=>k c v ?_ r) (fun c r=>by rw [am (nown c b r)];exact r) fun c xs r=>by rw [am (ntup c xs r)];exact r
      rcases hc with rfl | hc
      · exact hbe
      · rintro rfl;rcases he with z | z
        · exact nown c b hc z
        · rw [hc] at z;cases z;exact hb rfl
end
structure Un (fs ex:List Addr) (H H':Hp) (h h':Heap):Prop where
  keep:∀ b o,h.get? b=some o->H b=none->b∉fs->b∉ex->h'.get? b=some o
  slot:∀ b o,h.get? b=some o->H b=none->b∈fs->b∉ex->∃ sl,h'.get? b=some { o with slots:=sl }
  free:∀ b o,h.get? b=some o->H b=none->b∉ex->H' b=none
  there:∀ b o,h.get? b=some o->b∉ex->∃ o',h'.get? b=some o'
  tups:∀ b xs,H b=some (.tup xs)->H' b=some (.tup xs)
  frzs:∀ b o u,H b=some (.frz o u)->H' b=some (.frz o u)
  tbls:∀ b ps,H b=some (.tbl ps)->H' b=some (.tbl ps)
section
variable {fs fs' ex ex':List Addr} {H H1 H2:Hp} {h h1 h2 h':Heap} {a x e:Addr} {o:HO}
theorem Un.any (u:Un fs ex H H1 h h1) {b:Addr} {ob:Obj} (q:h.get? b=some ob) (n:H b=none) (hx:b∉ex):∃ sl,h1.get? b=some { ob with slots:=sl }:=by
  by_cases hb:b∈fs
  · exact u.slot b ob q n hb hx
  · exact ⟨ob.slots,u.keep b ob q n hb hx⟩
theorem Un.trans (a:Un fs ex H H1 h h1) (b:Un fs ex H1 H2 h1 h2):Un fs ex H H2 h h2 where
  keep:=fun c ob q n hc hx=>b.keep c ob (a.keep c ob q n hc hx) (a.free c ob q n hx) hc hx
  slot:=fun c ob q n hc hx=>by
    obtain ⟨sl,e1⟩:=a.slot c ob q n hc hx;obtain ⟨sl',e2⟩:=b.slot c _ e1 (a.free c ob q n hx) hc hx;exact ⟨sl',e2⟩
  free:=fun c ob q n hx=>by
    obtain ⟨o',e1⟩:=a.there c ob q hx;exact b.free c o' e1 (a.free c ob q n hx) hx
  there:=fun c ob q hx=>by
    obtain ⟨o',e1⟩:=a.there c ob q hx;exact b.there c o' e1 hx
  tups:=fun c xs q=>b.tups c xs (a.tups c xs q)
  frzs:=fun c ob xs q=>b.frzs c ob xs (a.frzs c ob xs q)
  tbls:=fun c ps q=>b.tbls c ps (a.tbls c ps q)
theorem Un.kept (k:∀ b u,h.get? b=some u->h'.get? b=some u):Un fs ex H H h h' :=
  ⟨fun b ob q _ _ _=>k b ob q,fun b ob q _ _ _=>⟨ob.slots,k b ob q⟩,fun _ _ _ n _=>n,fun b ob q _=>⟨ob,k b ob q⟩,fun _ _ q=>q,fun _ _ _ q=>q,fun _ _ q=>q⟩
theorem Un.refl:Un fs ex H H h h:=Un.kept fun _ _ q=>q
theorem Un.laid (k:∀ b u,h.get? b=some u->h'.get? b=some u) (hp:h.objs.size<=a) (hn:H a=none):Un fs ex H (bP H a o) h h' where
  keep:=fun b u q _ _ _=>k b u q
  slot:=fun b u q _ _ _=>⟨u.slots,k b u q⟩
  free:=fun b u q n _=>by rw [am (Nat.ne_of_lt (Nat.lt_of_lt_of_le (Heap.lt_size q) hp))];exact n
  there:=fun b u q _=>⟨u,k b u q⟩
  tups:=fun b xs q=>by rw [am (aq q hn)];exact q
  frzs:=fun b u xs q=>by rw [am (aq q hn)];exact q
  tbls:=fun b ps q=>by rw [am (aq q hn)];exact q
theorem Un.write (mu:vg (H x)) (he:e=x\/H e=some (.own x)) (k:∀ b u,b≠e->h.get? b=some u->h'.get? b=some u) (heo:∃ u,h'.get? e=some u):Un fs ex H (bP H x o) h h':=by
  have hx:∀ b,H b=none->b≠x:=fun b n z=>by subst z;rw [n] at mu;exact mu
  have hb:∀ b,H b=none->b≠e:=fun b n z=>by
    subst z;rcases he with r | r
    · exact hx b n r
    · rw [n] at r;cases r
  have hm:∀ b u,H b=some u->¬ vg (some u)->b≠x:=fun b u q nm z=>by subst z;rw [q] at mu;exact nm mu
  refine ⟨fun b u q n _ _=>k b u (hb b n) q,fun b u q n _ _=>⟨u.slots,k b u (hb b n) q⟩,fun b u q n _=>by rw [am (hx b n)];exact n,fun b u q _=>?_,
    fun b xs q=>by rw [am (hm b _ q fun z=>z)];exact q,fun b u xs q=>by rw [am (hm b _ q fun z=>z)];exact q,fun b ps q=>by rw [am (hm b _ q fun z=>z)];exact q⟩
  by_cases hbe:b=e
  · subst hbe;exact heo
  · exact ⟨u,k b u hbe q⟩
end
noncomputable def xz (h:Heap) (H:Hp):List Addr:=(List.range h.objs.size).filter fun a=>(H a).isSome
noncomputable def i4 (h:Heap) (H:Hp):Heap:=PySem.W.hideAll h (xz h H)
theorem nV (h:Heap) (H:Hp):(i4 h H).objs.size=h.objs.size:=PySem.W.hideAll_size _ _
theorem pN {h:Heap} {H:Hp} {b:Addr} {o:Obj} (e:h.get? b=some o) (n:H b=none):(i4 h H).get? b=some o :=
  PySem.W.hideAll_get _ e fun hm=>by
    have q:(H b).isSome=true:=(List.mem_filter.mp hm).2;rw [n] at q;simp at q
theorem rS {h:Heap} {H:Hp} {b:Addr} {o:Obj} (e:(i4 h H).get? b=some o):h.get? b=some o/\H b=none:=by
  have e':h.get? b=some o:=PySem.W.of_hideAll (xz h H) e;refine ⟨e',?_⟩;cases q:H b with
  | none=>rfl
  | some x =>
    have hm:b∈xz h H:=List.mem_filter.mpr ⟨List.mem_range.mpr (Heap.lt_size e'),by simp [q]⟩;have z:(i4 h H).get? b=none:=PySem.W.hideAll_none (xz h H) hm;rw [z] at e;cases e
noncomputable def rb (g h:Heap) (L:Addr):List (Addr×Obj):=(List.range h.objs.size).filterMap fun a=>if a=L\/(g.get? a).isSome=true then none else (h.get? a).map fun o=>(a,o)
noncomputable def rest (g h:Heap) (L d:Addr):List (Addr×Obj):=(rb g h L).filter fun p=>decide (p.1≠d)
structure Mod (K:PySem.W.Frag) (mg:Str->Option Value) (base:Heap):Prop where
  kin:K.In base
  glob:base.Ns mainGlobals mg
  blt:∃ mb,base.Ns builtinsNs mb/\∀ x:Str,x ≠ "__name__" -> mb x=bootBuiltins x
  nolimit:base.NoLimit
  bmain:∃ bm ob,mg "__builtins__" = some (.ref bm)/\bm≠builtinsNs/\base.get? bm=some ob/\ob.cls=.type "module" /\ ob.dict=some builtinsNs/\ob.data=.plain
structure Cx where
  prog:Program
  w:World
  K:PySem.W.Frag
  mg:Str->Option Value
  base:Heap
  A:Around
  N:List Str
  s₀:Shared
  H₀:Hp
  env:Env
  outer:List Env
  stack:List Env
  ex:List Addr
  fn:Str->Bool
  calm:Bool
  pn:List (Addr×Obj)
  xe:Value->Shared->Prop
noncomputable def gk (l:List Env):List Addr:=l.filterMap (·.frame)
noncomputable abbrev Cx.fs (X:Cx):List Addr:=gk X.outer
noncomputable def u4 (sc:Scope) (x:Str):Prop:=sc.names.lookup x=some .local\/sc.names.lookup x=some .cell\/sc.names.lookup x=some .free
noncomputable def tx (sc:Scope) (x:Str):Prop:=sc.names.lookup x=some .local\/sc.names.lookup x=some .cell
noncomputable def xE (env:Env) (h:Heap) (m:Str->Option Value) (x:Str) (u:Value):Prop :=
  (env.kindOf x=some .local/\m x=some u)\/((env.kindOf x=some .cell\/env.kindOf x=some .free)/\∃ c,env.cells.lookup x=some c/\h.IsCell c (some u))
noncomputable def jW:List Str:=["cheapest_goal"]
noncomputable def oX (K:PySem.W.Frag) (H:Hp):Prop:=∀ x∈jW,∀ c P,PySem.W.tabIn K x=some (c,P)->H P=some (.tbl (x ++ ".<locals>." ++ "<lambda>"))
structure Cx.Ok (X:Cx):Prop where
  mod:Mod X.K X.mg X.base
  kind:X.env.scope.kind=.function
  glob:X.env.globals=mainGlobals
  blt:X.env.builtins=builtinsNs
  above:X.s₀.heap.objs.size<=X.env.locals
  inj:∀ x y c,X.env.cells.lookup x=some c->X.env.cells.lookup y=some c->x=y
  has:∀ x,(X.env.kindOf x=some .cell\/X.env.kindOf x=some .free)->∃ c,X.env.cells.lookup x=some c
  cab:∀ x c,X.fn x=true->X.env.cells.lookup x=some c->X.s₀.heap.objs.size<=c
  hd:X.calm=true->X.A.handled=none
  frames:X.A.frames=some X.stack
  stk:X.stack=X.outer\/(X.stack=X.env::X.outer/\X.env.frame=some X.env.locals)
  exf:∀ b∈X.ex,b≠X.env.locals/\∀ x c,X.env.cells.lookup x=some c->c≠b
  bs:∀ b o,X.base.get? b=some o->X.s₀.heap.get? b=some o/\X.H₀ b=none
  bsz:X.base.objs.size<=X.s₀.heap.objs.size
  noex:∀ b o,X.base.get? b=some o->b∉X.ex
  exfs:∀ b∈X.ex,b∉X.fs
  funs:X.s₀.heap.FunFrames X.base X.outer
  frf:∀ b∈X.fs,X.H₀ b=none
  tab:oX X.K X.H₀
structure ap (X:Cx) (pins:List (Addr×Obj)) (σ:List (Option V)) (H:Hp) (s:Shared):Prop where
  ok:X.Ok
  os:s.os=X.s₀.os
  bare:AllBare s.gens
  base:Un X.fs X.ex X.H₀ H X.s₀.heap s.heap
  loc:∃ m,s.heap.Ns X.env.locals m/\∀ (i:Nat) (x:Str) (v:V),X.N[i]?=some x->σ[i]?=some (some v)->u4 X.env.scope x->∃ u,aJ v u/\xE X.env s.heap m x u
  cell:∀ x c,X.env.cells.lookup x=some c->∃ v,s.heap.IsCell c v
  free:H X.env.locals=none
  freeC:∀ x c,X.env.cells.lookup x=some c->H c=none
  pin:∀ p∈X.pn++pins,s.heap.get? p.1=some p.2/\H p.1=none/\p.1≠X.env.locals/\p.1∉X.fs/\∀ v,p.2.data≠.cell v
  hok:dk X.prog X.w H s.heap
  len:σ.length=X.N.length
section
variable {X:Cx} {pins:List (Addr×Obj)} {σ:List (Option V)} {H H':Hp} {s:Shared} {h':Heap}
theorem Cx.Ok.nofr (ok:X.Ok) {b:Addr} {o:Obj} (e:X.base.get? b=some o):b∉X.fs:=fun hb=>by
  have:=(ok.funs.mem hb).1;rw [e] at this;cases this
theorem ap.bs (I:ap X pins σ H s):∀ b o,X.base.get? b=some o->s.heap.get? b=some o/\H b=none:=fun b o e =>
  ⟨I.base.keep b o (I.ok.bs b o e).1 (I.ok.bs b o e).2 (I.ok.nofr e) (I.ok.noex b o e),I.base.free b o (I.ok.bs b o e).1 (I.ok.bs b o e).2 (I.ok.noex b o e)⟩
theorem ap.bk (I:ap X pins σ H s):∀ b o,X.base.get? b=some o->s.heap.get? b=some o:=fun b o e=>(I.bs b o e).1
theorem ap.mod (I:ap X pins σ H s):Mod X.K X.mg X.base:=I.ok.mod
theorem ap.kIn (I:ap X pins σ H s):X.K.In s.heap:=I.ok.mod.kin.keeps I.bk
theorem ap.nolimit (I:ap X pins σ H s):s.heap.NoLimit:=I.ok.mod.nolimit.keeps I.bk
theorem ap.lt (I:ap X pins σ H s):X.env.locals < s.heap.objs.size:=let ⟨_,hn,_⟩:=I.loc;hn.lt
theorem ap.sz (I:ap X pins σ H s):X.s₀.heap.objs.size<=s.heap.objs.size:=Nat.le_trans I.ok.above (Nat.le_of_lt I.lt)
theorem ap.nofs (I:ap X pins σ H s) {a:Addr} (h:s.heap.objs.size<=a):a∉X.fs:=fun hb=>by
  obtain ⟨_,o,ho,_⟩:=I.ok.funs.mem hb;exact absurd (Nat.lt_of_lt_of_le (Heap.lt_size ho) (Nat.le_trans I.sz h)) (Nat.lt_irrefl _)
theorem ap.cne (I:ap X pins σ H s):∀ x c,X.env.cells.lookup x=some c->c≠X.env.locals:=fun x c e z=>by
  obtain ⟨v,o,ho,hd⟩:=I.cell x c e;obtain ⟨m,⟨o',es,ep,ho',hd',_⟩,_⟩:=I.loc;rw [z,ho'] at ho;cases ho;rw [hd'] at hd;cases hd
theorem ap.funs (I:ap X pins σ H s):s.heap.FunFrames X.base X.outer:=by
  have all:∀ (l:List Env),(∀ b∈gk l,b∈X.fs)->X.s₀.heap.FunFrames X.base l->s.heap.FunFrames X.base l:=by
    intro l;induction l with
    | nil=>intro _ _;trivial
    | cons env r ih =>
      intro hs hl;obtain ⟨hk,⟨L,o,hf,hn,ho,hd⟩,hr⟩:=hl;have hL:L∈X.fs:=hs L (by unfold gk;rw [List.filterMap_cons,hf];exact List.mem_cons_self);obtain ⟨sl,e⟩:=I.base.slot L o ho (I.ok.frf L hL) hL fun z=>I.ok.exfs L z hL
      exact ⟨hk,⟨L,_,hf,hn,e,hd⟩,ih (fun b hb=>hs b (by unfold gk;rw [List.filterMap_cons,hf];exact List.mem_cons_of_mem _ hb)) hr⟩
  exact all X.outer (fun _ hb=>hb) I.ok.funs
theorem ap.stack (I:ap X pins σ H s):s.heap.FunFrames X.base X.stack:=by
  rcases I.ok.stk with e | ⟨e,hf⟩
  · rw [e];exact I.funs
  · rw [e];obtain ⟨m,hn,_⟩:=I.loc;refine .cons (by rw [I.ok.kind];decide) hf hn ?_ I.funs;exact Heap.get?_none_of_le (Nat.le_trans I.ok.bsz I.ok.above)
theorem ap.stkSub (I:ap X pins σ H s):∀ b∈gk X.stack,b∈X.env.locals::X.fs:=fun b hb=>by
  rcases I.ok.stk with e | ⟨e,hf⟩
  · rw [e] at hb;exact List.mem_cons_of_mem _ hb
  · rw [e] at hb;unfold gk at hb;rw [List.filterMap_cons,hf] at hb;exact hb
theorem ap.stkFree (I:ap X pins σ H s):∀ b∈gk X.stack,H b=none:=fun b hb=>by
  rcases List.mem_cons.mp (I.stkSub b hb) with e | hb
  · rw [e];exact I.free
  · obtain ⟨_,o,ho,_⟩:=I.ok.funs.mem hb;exact I.base.free b o ho (I.ok.frf b hb) fun z=>I.ok.exfs b z hb
theorem ap.step {g':Array GenState} {t':Nat} {d':Drawn} {ch:List Addr} (I:ap X pins σ H s)
    (hch:∀ b∈ch,(b∈X.ex\/X.s₀.heap.objs.size<=b)/\b≠X.env.locals/\(∀ x c,X.env.cells.lookup x=some c->c≠b)/\∀ p∈X.pn++pins,p.1≠b)
    (keep:∀ b o,b≠X.env.locals->b∉X.fs->b∉ch->s.heap.get? b=some o->H b=none->h'.get? b=some o)
    (slot:∀ b o,b≠X.env.locals->b∈X.fs->b∉ch->s.heap.get? b=some o->H b=none->∃ sl,h'.get? b=some { o with slots:=sl }) (free:∀ b o,b∉ch->s.heap.get? b=some o->H b=none->H' b=none)
    (there:∀ b o,b∉ch->s.heap.get? b=some o->∃ o',h'.get? b=some o')
    (tups:∀ b xs,H b=some (.tup xs)->H' b=some (.tup xs)) (frzs:∀ b o u,H b=some (.frz o u)->H' b=some (.frz o u)) (tbls:∀ b ps,H b=some (.tbl ps)->H' b=some (.tbl ps))
    (ns:∀ m,s.heap.Ns X.env.locals m->h'.Ns X.env.locals m) (hok:dk X.prog X.w H' h') (hg:AllBare g') :
    ap X pins σ H' { s with heap:=h',gens:=g',drawn:=d',toks:=t' }:=by
  have neL:∀ b o,X.s₀.heap.get? b=some o->b≠X.env.locals:=fun b o e=>Nat.ne_of_lt (Nat.lt_of_lt_of_le (Heap.lt_size e) I.ok.above)
  have neC:∀ b o,X.s₀.heap.get? b=some o->b∉X.ex->b∉ch:=fun b o e hx hb=>by
    rcases (hch b hb).1 with z | z
    · exact hx z
    · exact absurd (Nat.lt_of_lt_of_le (Heap.lt_size e) z) (Nat.lt_irrefl _)
  have cellK:∀ x c,X.env.cells.lookup x=some c->∀ v,s.heap.IsCell c v->h'.IsCell c v:=fun x c e v ⟨o,ho,hd⟩=>by
    have nch:c∉ch:=fun z=>(hch c z).2.2.1 x c e rfl
    by_cases hc:c∈X.fs
    · obtain ⟨sl,q⟩:=slot c o (I.cne x c e) hc nch ho (I.freeC x c e);exact ⟨_,q,hd⟩
    · exact ⟨o,keep c o (I.cne x c e) hc nch ho (I.freeC x c e),hd⟩
  refine ⟨I.ok,I.os,hg,⟨fun b o e n hb hx=>?_,fun b o e n hb hx=>?_,fun b o e n hx=>?_,fun b o e hx=>?_,fun b xs e=>tups b xs (I.base.tups b xs e),fun b o xs e=>frzs b o xs (I.base.frzs b o xs e),fun b ps e=>?_⟩,?_,fun x c e=>?_,?_,fun x c e=>?_,fun p hp=>?_,hok,I.len⟩
  · exact keep b o (neL b o e) hb (neC b o e hx) (I.base.keep b o e n hb hx) (I.base.free b o e n hx)
  · obtain ⟨sl,e1⟩:=I.base.slot b o e n hb hx;obtain ⟨sl',e2⟩:=slot b _ (neL b o e) hb (neC b o e hx) e1 (I.base.free b o e n hx);exact ⟨sl',e2⟩
  · obtain ⟨o',e1⟩:=I.base.there b o e hx;exact free b o' (neC b o e hx) e1 (I.base.free b o e n hx)
  · obtain ⟨o',e1⟩:=I.base.there b o e hx;exact there b o' (neC b o e hx) e1
  · exact tbls b ps (I.base.tbls b ps e)
  · obtain ⟨m,hn,hl⟩:=I.loc;refine ⟨m,ns m hn,fun i x v e1 e2 e3=>?_⟩;obtain ⟨u,r,l⟩:=hl i x v e1 e2 e3;refine ⟨u,r,?_⟩;rcases l with l | ⟨k,c,e,z⟩
    · exact .inl l
    · exact .inr ⟨k,c,e,cellK x c e _ z⟩
  · obtain ⟨v,z⟩:=I.cell x c e;exact ⟨v,cellK x c e v z⟩
  · obtain ⟨m,⟨o,_,_,ho,_⟩,_⟩:=I.loc;exact free _ o (fun z=>(hch _ z).2.1 rfl) ho I.free
  · obtain ⟨v,o,ho,hd⟩:=I.cell x c e;exact free c o (fun z=>(hch c z).2.2.1 x c e rfl) ho (I.freeC x c e)
  · obtain ⟨e,n,ne,nf,d⟩:=I.pin p hp;have nch:p.1∉ch:=fun z=>(hch p.1 z).2.2.2 p hp rfl
    exact ⟨keep p.1 p.2 ne nf nch e n,free p.1 p.2 nch e n,ne,nf,d⟩
theorem ap.un {t':Nat} (I:ap X pins σ H s) (u:Un X.fs [] H H' s.heap h') (hok:dk X.prog X.w H' h'):ap X pins σ H' { s with heap:=h',toks:=t' }:=by
  obtain ⟨m,⟨o,es,ep,ho,r⟩,_⟩:=id I.loc;obtain ⟨sl,hL⟩:=u.any ho I.free (by simp);exact I.step (g':=s.gens) (d':=s.drawn) (ch:=[]) (fun _ z=>nomatch z) (fun b o _ hb _ e n=>u.keep b o e n hb (by simp)) (fun b o _ hb _ e n=>u.slot b o e n hb (by simp)) (fun b o _ e n=>u.free b o e n (by simp)) (fun b o _ e=>u.there b o e (by simp)) u.tups u.frzs u.tbls (fun m' hm=>by
    obtain ⟨o',es',ep',ho',r'⟩:=hm;rw [ho] at ho';cases ho';exact ⟨_,es',ep',hL,r'⟩) hok I.bare
theorem ap.call {g':Array GenState} {t':Nat} {d':Drawn} {ch:List Addr} (I:ap X pins σ H s) (u:Un (gk X.stack) ch H H' s.heap h') (hok:dk X.prog X.w H' h') (hg:AllBare g')
    (hch:∀ b∈ch,(b∈X.ex\/X.s₀.heap.objs.size<=b)/\b≠X.env.locals/\(∀ x c,X.env.cells.lookup x=some c->c≠b)/\∀ p∈X.pn++pins,p.1≠b) :
    ap X pins σ H' { s with heap:=h',gens:=g',drawn:=d',toks:=t' }:=by
  obtain ⟨m,⟨o,es,ep,ho,r⟩,_⟩:=id I.loc;obtain ⟨sl,hL⟩:=u.any ho I.free fun z=>(hch _ z).2.1 rfl
  exact I.step (ch:=ch) hch (fun b o hL hb hc e n=>u.keep b o e n (fun z=>(List.mem_cons.mp (I.stkSub b z)).elim hL hb) hc) (fun b o _ _ hc e n=>u.any e n hc) (fun b o hc e n=>u.free b o e n hc) (fun b o hc e=>u.there b o e hc) u.tups u.frzs u.tbls (fun m' hm=>by
    obtain ⟨o',es',ep',ho',r'⟩:=hm;rw [ho] at ho';cases ho';exact ⟨_,es',ep',hL,r'⟩) hok hg
theorem ap.turned {t':Nat} {it:Addr} (I:ap X pins σ H s) (k:∀ b o,b≠it->s.heap.get? b=some o->h'.get? b=some o) (hn:H it=none) (hL:it≠X.env.locals)
    (h1:it∈X.ex\/X.s₀.heap.objs.size<=it) (h2:∀ x c,X.env.cells.lookup x=some c->c≠it) (h3:∀ p∈X.pn++pins,p.1≠it):ap X pins σ H { s with heap:=h',toks:=t' }:=by
  have nit:∀ b u,H b=some u->b≠it:=fun b u e z=>by rw [z,hn] at e;cases e
  refine I.step (g':=s.gens) (d':=s.drawn) (ch:=[it]) (fun b hb=>?_) (fun b o _ _ hc e _=>k b o (fun z=>hc (by simp [z])) e) (fun b o _ _ hc e _=>⟨o.slots,k b o (fun z=>hc (by simp [z])) e⟩) (fun _ _ _ _ n=>n)
    (fun b o hc e=>⟨o,k b o (fun z=>hc (by simp [z])) e⟩) (fun _ _ e=>e) (fun _ _ _ e=>e) (fun _ _ e=>e) (fun m hm=>?_) (fun b u e=>?_) I.bare
  · have e:b=it:=by simpa using hb
    subst e;exact ⟨h1,hL,h2,h3⟩
  · obtain ⟨o,es,ep,ho,r⟩:=hm;exact ⟨o,es,ep,k _ o (Ne.symm hL) ho,r⟩
  · refine (I.hok b u e).stay (fun c v hc q=>k c v ?_ q) (fun _ q=>q) fun _ _ q=>q
    rcases hc with z | z
    · rw [z];exact nit b u e
    · exact nit c _ z
theorem ap.tok (I:ap X pins σ H s) (t:Nat):ap X pins σ H { s with toks:=t }:=I.un (h':=s.heap) (t':=t) Un.refl I.hok
theorem ap.kept {t':Nat} (I:ap X pins σ H s) (k:∀ b u,s.heap.get? b=some u->h'.get? b=some u):ap X pins σ H { s with heap:=h',toks:=t' }:=I.un (Un.kept k) (I.hok.kept k)
theorem ap.laid {a:Addr} {o:HO} {t':Nat} (I:ap X pins σ H s) (k:∀ b u,s.heap.get? b=some u->h'.get? b=some u) (hp:s.heap.objs.size<=a) (new:aQ X.prog X.w (bP H a o) h' a o) :
    ap X pins σ (bP H a o) { s with heap:=h',toks:=t' }:=I.un (Un.laid k hp (I.hok.fresh hp)) (I.hok.laid k hp new)
theorem ap.write {x e:Addr} {o:HO} {t':Nat} (I:ap X pins σ H s) (mu:vg (H x)) (he:e=x\/H e=some (.own x)) (k:∀ b u,b≠e->s.heap.get? b=some u->h'.get? b=some u) (heo:∃ u,h'.get? e=some u)
    (new:aQ X.prog X.w (bP H x o) h' x o):ap X pins σ (bP H x o) { s with heap:=h',toks:=t' }:=I.un (Un.write mu he k heo) (I.hok.write mu he k heo new)
theorem ap.pins_of {pins':List (Addr×Obj)} (I:ap X pins σ H s) (h:∀ p∈pins',s.heap.get? p.1=some p.2/\H p.1=none/\p.1≠X.env.locals/\p.1∉X.fs/\∀ v,p.2.data≠.cell v):ap X pins' σ H s :=
  ⟨I.ok,I.os,I.bare,I.base,I.loc,I.cell,I.free,I.freeC,fun p hp=>(List.mem_append.mp hp).elim (fun z=>I.pin p (List.mem_append_left _ z)) (h p),I.hok,I.len⟩
theorem ln {N:List Str} (hN:N.Nodup) {i j:Nat} {x:Str} (a:N[i]?=some x) (b:N[j]?=some x):i=j:=by
  obtain ⟨h1,e1⟩:=List.getElem?_eq_some_iff.mp a;obtain ⟨h2,e2⟩:=List.getElem?_eq_some_iff.mp b;exact (List.getElem_inj hN).mp (e1.trans e2.symm)
theorem jA {M:Model} {A:Around} {E:Value->Shared->Prop} {i:Nat} {x:Str} {v:V} {u:Value} {Q:Unit->Shared->Prop} (I:ap X pins σ H s) (hN:X.N.Nodup) (hi:X.N[i]?=some x) (hx:tx X.env.scope x) (r:aJ v u)
    (h:∀ s',ap X pins (σ.set i (some v)) H s'->(∃ a,Heap.SameBut a s.heap s'.heap/\(a=X.env.locals\/X.env.cells.lookup x=some a))->Q () s') (hf:X.fn x=true\/X.env.scope.names.lookup x=some .local:=by first | exact .inl rfl | exact .inr rfl | assumption):wpAny M A (storeName X.env x u) Q E s:=by
  obtain ⟨m,hn,hl⟩:=id I.loc;have hcls:(X.env.scope.kind==.class||(X.env.scope.kind==.module&&X.env.locals != X.env.globals))=false:=by rw [I.ok.kind];rfl
  have hiσ:i < σ.length:=by rw [I.len];exact (List.getElem?_eq_some_iff.mp hi).1
  have cne:=I.cne;have tracked:∀ {a:Addr} {h':Heap},(∃ o,s.heap.get? a=some o/\H a=none)->Heap.SameBut a s.heap h'->dk X.prog X.w H h':=fun {a h'} ha hs b ob e=>by
    obtain ⟨_,_,hfree⟩:=ha;refine (I.hok b ob e).stay (fun c w' hc q=>(hs.2 c ?_).trans q) (fun _ q=>q) fun _ _ q=>q
    rintro rfl;rcases hc with rfl | hc
    · rw [hfree] at e;cases e
    · rw [hfree] at hc;cases hc
  rcases hx with hk | hk
  · refine wpAny_storeName_local hk hn (fun h' hn' hs=>?_) hcls;obtain ⟨oL,_,_,hoL,_⟩:=id hn;refine h _ ⟨I.ok,I.os,I.bare,⟨fun b o e n hb hx=>?_,fun b o e n hb hx=>?_,I.base.free,fun b o e hx=>?_,I.base.tups,I.base.frzs,I.base.tbls⟩,⟨_,hn',fun j y v' e1 e2 e3=>?_⟩,fun y c e=>?_,I.free,I.freeC,fun p hp=>?_,tracked ⟨oL,hoL,I.free⟩ hs,by simpa using I.len⟩ ⟨_,hs,.inl rfl⟩
    · exact (hs.2 b (Nat.ne_of_lt (Nat.lt_of_lt_of_le (Heap.lt_size e) I.ok.above))).trans (I.base.keep b o e n hb hx)
    · obtain ⟨sl,e1⟩:=I.base.slot b o e n hb hx;exact ⟨sl,(hs.2 b (Nat.ne_of_lt (Nat.lt_of_lt_of_le (Heap.lt_size e) I.ok.above))).trans e1⟩
    · obtain ⟨o',e1⟩:=I.base.there b o e hx;exact ⟨o',(hs.2 b (Nat.ne_of_lt (Nat.lt_of_lt_of_le (Heap.lt_size e) I.ok.above))).trans e1⟩
    · by_cases hj:j=i
      · subst hj;rw [hi] at e1;cases e1;rw [List.getElem?_set_self hiσ] at e2;cases e2;exact ⟨u,r,.inl ⟨hk,by simp⟩⟩
      · rw [List.getElem?_set_ne (Ne.symm hj)] at e2;obtain ⟨u',r',q⟩:=hl j y v' e1 e2 e3;refine ⟨u',r',?_⟩;rcases q with ⟨k,e⟩ | ⟨k,c,e,z⟩
        · refine .inl ⟨k,?_⟩;have:y≠x:=fun e=>hj (ln hN e1 (e ▸ hi))
          simp [this,e]
        · exact .inr ⟨k,c,e,z.sameBut hs (cne y c e)⟩
    · obtain ⟨w',z⟩:=I.cell y c e;exact ⟨w',z.sameBut hs (cne y c e)⟩
    · obtain ⟨e,n,ne,nf,d⟩:=I.pin p hp;exact ⟨(hs.2 p.1 ne).trans e,n,ne,nf,d⟩
  · have hfn:X.fn x=true:=by
      rcases hf with z | z
      · exact z
      · rw [z] at hk;cases hk
    obtain ⟨c,hc⟩:=I.ok.has x (.inl hk);obtain ⟨w',z⟩:=I.cell x c hc;refine wpAny_storeName_cell I.ok.kind hk hc z (fun h' hc' hs=>?_);obtain ⟨oc,hoc,hocd⟩:=id z;refine h { s with heap:=h' } ⟨I.ok,I.os,I.bare,⟨fun b o e n hb hx=>?_,fun b o e n hb hx=>?_,I.base.free,fun b o e hx=>?_,I.base.tups,I.base.frzs,I.base.tbls⟩,⟨m,hn.sameBut hs (Ne.symm (cne x c hc)),fun j y v' e1 e2 e3=>?_⟩,fun y c' e=>?_,I.free,I.freeC,fun p hp=>?_,tracked ⟨oc,hoc,I.freeC x c hc⟩ hs,by simpa using I.len⟩ ⟨c,hs,.inr hc⟩
    · exact (hs.2 b (Nat.ne_of_lt (Nat.lt_of_lt_of_le (Heap.lt_size e) (I.ok.cab x c hfn hc)))).trans (I.base.keep b o e n hb hx)
    · obtain ⟨sl,e1⟩:=I.base.slot b o e n hb hx;exact ⟨sl,(hs.2 b (Nat.ne_of_lt (Nat.lt_of_lt_of_le (Heap.lt_size e) (I.ok.cab x c hfn hc)))).trans e1⟩
    · obtain ⟨o',e1⟩:=I.base.there b o e hx;exact ⟨o',(hs.2 b (Nat.ne_of_lt (Nat.lt_of_lt_of_le (Heap.lt_size e) (I.ok.cab x c hfn hc)))).trans e1⟩
    · by_cases hj:j=i
      · subst hj;rw [hi] at e1;cases e1;rw [List.getElem?_set_self hiσ] at e2;cases e2;exact ⟨u,r,.inr ⟨.inl hk,c,hc,hc'⟩⟩
      · rw [List.getElem?_set_ne (Ne.symm hj)] at e2;obtain ⟨u',r',q⟩:=hl j y v' e1 e2 e3;refine ⟨u',r',?_⟩;rcases q with q | ⟨k,c',e,z'⟩
        · exact .inl q
        · refine .inr ⟨k,c',e,z'.sameBut hs ?_⟩;rintro rfl;exact hj (ln hN e1 (I.ok.inj _ _ _ e hc ▸ hi))
    · by_cases hcc:c'=c
      · subst hcc;exact ⟨_,hc'⟩
      · obtain ⟨w2,z2⟩:=I.cell y c' e;exact ⟨w2,z2.sameBut hs hcc⟩
    · obtain ⟨e,n,ne,nf,d⟩:=I.pin p hp;refine ⟨(hs.2 p.1 ?_).trans e,n,ne,nf,d⟩;intro q;rw [q,hoc] at e;have q':oc=p.2:=Option.some.inj e;exact d w' (by rw [<- q'];exact hocd)
theorem lx {M:Model} {A:Around} {E:Value->Shared->Prop} {i:Nat} {x:Str} {v:V} {u:Value} {Q:Unit->Shared->Prop} (I:ap X pins σ H s) (hN:X.N.Nodup) (hi:X.N[i]?=some x) (hx:tx X.env.scope x) (r:aJ v u)
    (h:∀ s',ap X pins (σ.set i (some v)) H s'->Q () s') (hf:X.fn x=true\/X.env.scope.names.lookup x=some .local:=by first | exact .inl rfl | exact .inr rfl | assumption):wpAny M A (storeName X.env x u) Q E s :=
  jA I hN hi hx r (fun s' I' _=>h s' I') hf
theorem ap.call' {s':Shared} {ch:List Addr} (I:ap X pins σ H s) (ho:s'.os=s.os) (u:Un (gk X.stack) ch H H' s.heap s'.heap) (hok:dk X.prog X.w H' s'.heap) (hg:AllBare s'.gens)
    (hch:∀ b∈ch,(b∈X.ex\/X.s₀.heap.objs.size<=b)/\b≠X.env.locals/\(∀ x c,X.env.cells.lookup x=some c->c≠b)/\∀ p∈X.pn++pins,p.1≠b):ap X pins σ H' s':=by
  obtain ⟨h',g',d',t',o'⟩:=s';have e:o'=s.os:=ho;subst e;exact I.call (g':=g') (t':=t') (d':=d') u hok hg hch
end
noncomputable abbrev XK:=Value->Option Addr->Hp->Prop
noncomputable abbrev St:=List (Option V)
noncomputable abbrev VK:=V->Hp->Prop
noncomputable abbrev TE:=St->Hp->VK->Prop
noncomputable abbrev TT:=St->Hp->(Bool->Hp->Prop)->Prop
noncomputable abbrev TA:=St->Hp->(List V->Hp->Prop)->Prop
structure kr where
  nx:St->Hp->Prop
  rt:VK
  bk:St->Hp->Prop:=fun _ _=>False
  ct:St->Hp->Prop:=fun _ _=>False
noncomputable abbrev TS:=kr->St->Hp->Prop
inductive EP (X:Cx) (pins:List (Addr×Obj)) (σ:St) (Q:VK) (u:Value) (s':Shared):Prop
  | mk (v:V) (H':Hp) (I:ap X pins σ H' s') (r:aJ v u) (q:Q v H')
inductive TP (X:Cx) (pins:List (Addr×Obj)) (σ:St) (Q:Bool->Hp->Prop) (b:Bool) (s':Shared):Prop
  | mk (H':Hp) (I:ap X pins σ H' s') (q:Q b H')
inductive AP (X:Cx) (pins:List (Addr×Obj)) (σ:St) (Q:List V->Hp->Prop) (us:List Value) (s':Shared):Prop
  | mk (vs:List V) (H':Hp) (I:ap X pins σ H' s') (r:aF vs us) (q:Q vs H')
inductive NX (X:Cx) (pins:List (Addr×Obj)) (s':Shared) (P:St->Hp->Prop):Prop
  | mk (σ':St) (H':Hp) (I:ap X pins σ' H' s') (q:P σ' H')
inductive RX (X:Cx) (pins:List (Addr×Obj)) (s':Shared) (u:Value) (P:V->Hp->Prop):Prop
  | mk (v:V) (σ':St) (H':Hp) (I:ap X pins σ' H' s') (r:aJ v u) (q:P v H')
noncomputable def SP (X:Cx) (pins:List (Addr×Obj)) (D:kr) (f:Flow) (s':Shared):Prop :=
  match f with
  | .next=>NX X pins s' D.nx
  | .brk=>NX X pins s' D.bk
  | .cont=>NX X pins s' D.ct
  | .ret u=>RX X pins s' u D.rt
noncomputable def PE (X:Cx) (e:Expr) (t:TE):Prop :=
  ∀ (pins:List (Addr×Obj)) (s:Shared) (σ:St) (H:Hp) (Q:VK),ap X pins σ H s->t σ H Q->wpAny (model X.prog X.w) X.A (eval e X.env) (EP X pins σ Q) X.xe s
noncomputable def PT (X:Cx) (e:Expr) (t:TT):Prop :=
  ∀ (pins:List (Addr×Obj)) (s:Shared) (σ:St) (H:Hp) (Q:Bool->Hp->Prop),ap X pins σ H s->t σ H Q->wpAny (model X.prog X.w) X.A (isTrue e X.env (eval e X.env)) (TP X pins σ Q) X.xe s
noncomputable def PW (X:Cx) (e:Expr) (t:TT):Prop :=
  ∀ (whole:Sem Value) (pins:List (Addr×Obj)) (s:Shared) (σ:St) (H:Hp) (Q:Bool->Hp->Prop),ap X pins σ H s->t σ H Q->wpAny (model X.prog X.w) X.A (isTrue e X.env whole) (TP X pins σ Q) X.xe s
theorem PW.pt {X:Cx} {e:Expr} {t:TT} (h:PW X e t):PT X e t:=h _
noncomputable def PA (X:Cx) (es:List Expr) (t:TA):Prop :=
  ∀ (pos:Pos) (pins:List (Addr×Obj)) (s:Shared) (σ:St) (H:Hp) (Q:List V->Hp->Prop),ap X pins σ H s->t σ H Q->wpAny (model X.prog X.w) X.A (spliced (backTo pos (starEach es X.env))) (AP X pins σ Q) X.xe s
noncomputable def PS (X:Cx) (st:Stmt) (t:TS):Prop :=
  ∀ (pins:List (Addr×Obj)) (s:Shared) (σ:St) (H:Hp) (D:kr),ap X pins σ H s->t D σ H->wpAny (model X.prog X.w) X.A (exec st X.env) (SP X pins D) X.xe s
noncomputable def jE (X:Cx) (st:List Stmt) (t:TS):Prop :=
  ∀ (pins:List (Addr×Obj)) (s:Shared) (σ:St) (H:Hp) (D:kr),ap X pins σ H s->t D σ H->wpAny (model X.prog X.w) X.A (execs st X.env) (SP X pins D) X.xe s
theorem bX {α:Type} {t:Sem α} {Q Q':α->Shared->Prop} {M:Model} {A:Around} {E:Value->Shared->Prop} {s:Shared} (h:wpAny M A t Q E s) (hQ:∀ a s,Q a s->Q' a s):wpAny M A t Q' E s:=wpAny_mono h hQ fun _ _ x=>x
section
variable {X:Cx}
theorem zm {a b:Expr} {ta tb:TE} (ha:PE X a ta) (hb:PE X b tb) {pins:List (Addr×Obj)} {s:Shared} {σ:St} {H:Hp} {R:V->V->Hp->Prop} (I:ap X pins σ H s) (h:ta σ H fun x H1=>tb σ H1 fun y H2=>R x y H2)
    {α:Type} {Q:α->Shared->Prop} {f:Value->Value->Sem α}
    (hf:∀ v u s2 x y H2,ap X pins σ H2 s2->aJ x v->aJ y u->R x y H2->wpAny (model X.prog X.w) X.A (f v u) Q X.xe s2) :
    wpAny (model X.prog X.w) X.A (eval a X.env) (fun v s₁=>wpAny (model X.prog X.w) X.A (eval b X.env) (fun u s₂=>wpAny (model X.prog X.w) X.A (f v u) Q X.xe s₂) X.xe s₁) X.xe s:=by
  refine bX (ha pins s σ H _ I h) fun v s1 zq0=>?_
  obtain ⟨x,H1,I1,r1,q1⟩:=zq0;refine bX (hb pins s1 σ H1 _ I1 q1) fun u s2 zq0=>?_
  obtain ⟨y,H2,I2,r2,q2⟩:=zq0;exact hf v u s2 x y H2 I2 r1 r2 q2
noncomputable def wL (i:Nat):TE:=fun σ H Q=>∃ v,σ[i]?=some (some v)/\Q v H
noncomputable def tC (v:V):TE:=fun _ H Q=>Q v H
theorem j5 {i:Nat} {x:Str} {pos:Pos} (hN:X.N[i]?=some x) (hv:u4 X.env.scope x) (hd:(x==("__debug__" : Str))=false:=by decide) (hcd:(x==("__classdict__" : Str))=false:=by decide):PE X (.Name x pos) (wL i):=by
  intro pins s σ H Q I h;obtain ⟨v,e,h⟩:=h;obtain ⟨m,hn,hl⟩:=I.loc;obtain ⟨u,r,l⟩:=hl i x v hN e hv;have fin:EP X pins σ Q u s:=⟨v,H,I,r,h⟩
  rcases l with ⟨hk,hm⟩ | ⟨hk,c,hc,hcell⟩
  · exact wpAny_Name (wpAny_loadName_local I.ok.kind hk hn hm fin) hd
  · rcases hk with hk | hk
    · exact wpAny_Name (wpAny_loadName_cell I.ok.kind hk hc hcell fin) hd
    · exact wpAny_Name (wpAny_loadName_free I.ok.kind hk hc hcell fin hcd) hd
theorem uk {i j pos}:PE X (.Constant (.int i) j pos) (tC (.int i)):=fun _ _ _ H _ I h=>wpAny_Constant_int ⟨.int i,H,I.tok _,⟨_,rfl⟩,h⟩
theorem wc {b j pos}:PE X (.Constant (.bool b) j pos) (tC (.bl b)):=fun _ _ _ H _ I h=>Constant_bool ⟨.bl b,H,I,rfl,h⟩
theorem um {j pos}:PE X (.Constant .none j pos) (tC .non):=fun _ _ _ H _ I h=>Constant_none ⟨.non,H,I,rfl,h⟩
noncomputable def Gl (X:Cx) (x:Str):Prop:=X.env.kindOf x=some .globalImplicit
theorem mW {E:Value->Shared->Prop} {pins:List (Addr×Obj)} {s:Shared} {σ:St} {H:Hp} {x:Str} {u:Value} {pos:Pos} {Q:Value->Shared->Prop} (I:ap X pins σ H s) (hg:Gl X x) (hm:X.mg x=some u) (h:Q u s)
    (hd:(x==("__debug__" : Str))=false:=by decide):wpAny (model X.prog X.w) X.A (eval (.Name x pos) X.env) Q E s :=
  Calls.Name_function_global I.ok.kind hg (Calls.loadGlobal_global (by rw [I.ok.glob];exact I.mod.glob.keeps I.bk) hm h) hd
theorem gE {E:Value->Shared->Prop} {pins:List (Addr×Obj)} {s:Shared} {σ:St} {H:Hp} {x:Str} {u:Value} {pos:Pos} {Q:Value->Shared->Prop} (I:ap X pins σ H s) (hg:Gl X x) (hm:X.mg x=none) (hv:bootBuiltins x=some u) (h:Q u s)
    (hn:x ≠ "__name__" := by decide) (hd:(x==("__debug__" : Str))=false:=by decide):wpAny (model X.prog X.w) X.A (eval (.Name x pos) X.env) Q E s:=by
  obtain ⟨mb,h1,h2⟩:=I.mod.blt;exact Calls.Name_function_global I.ok.kind hg (Calls.loadGlobal_builtin (by rw [I.ok.glob];exact I.mod.glob.keeps I.bk) hm (by rw [I.ok.blt];exact h1.keeps I.bk) ((h2 x hn).trans hv) h) hd
theorem sh {x:Str} {v:V} {u:Value} {pos:Pos} (hg:Gl X x) (hm:X.mg x=some u) (r:aJ v u) (hd:(x==("__debug__" : Str))=false:=by decide):PE X (.Name x pos) (tC v) :=
  fun _ _ _ H _ I h=>mW I hg hm ⟨v,H,I,r,h⟩ hd
theorem se {x:Str} {v:V} {u:Value} {pos:Pos} (hg:Gl X x) (hm:X.mg x=none) (hv:bootBuiltins x=some u) (r:aJ v u) (hn:x ≠ "__name__" := by decide) (hd:(x==("__debug__" : Str))=false:=by decide):PE X (.Name x pos) (tC v) :=
  fun _ _ _ H _ I h=>gE I hg hm hv ⟨v,H,I,r,h⟩ hn hd
variable {a b:Expr} {ta tb:TE} {pos:Pos}
noncomputable def PC (X:Cx) (op:CmpOp) (a b:Expr) (t:TE):Prop :=
  ∀ (pins:List (Addr×Obj)) (s:Shared) (σ:St) (H:Hp) (Q:VK),ap X pins σ H s->t σ H Q ->
    wpAny (model X.prog X.w) X.A (eval a X.env) (fun v s₁=>wpAny (model X.prog X.w) X.A (eval b X.env) (fun u s₂=>wpAny (model X.prog X.w) X.A (compareOp op v u) (EP X pins σ Q) X.xe s₂) X.xe s₁) X.xe s
theorem qd (b:Expr) {op:CmpOp} (h:op≠.In) (h2:op≠.NotIn):behindInMarks op b=false:=by
  have e1:(op==CmpOp.In)=false:=by cases op <;> first | rfl | exact absurd rfl h
  have e2:(op==CmpOp.NotIn)=false:=by cases op <;> first | rfl | exact absurd rfl h2
  cases b <;> simp [behindInMarks,e1,e2]
noncomputable def tB (t:TE):TT:=fun σ H Q=>t σ H fun x H1=>∃ c,x=.bl c/\Q c H1
theorem yp {op:CmpOp} {t:TE} (h:PC X op a b t) (h1:behindInMarks op b=false:=by first | exact qd _ (by decide) (by decide) | rfl):PT X (.Compare a [op] [b] pos) (tB t):=by
  intro pins s σ H Q I hw;refine wpAny_isTrue_Compare1 (bX (h pins s σ H _ I hw) fun v s1 h1=>bX h1 fun u s2 h2=>bX h2 fun c s3 zq0=>?_) h1;obtain ⟨x,H1,I1,r1,q1⟩:=zq0;obtain ⟨d,rfl,q⟩:=q1;cases r1;exact wpAny_truthy_bool ⟨H1,I1,q⟩
theorem uy {e:Expr} {t:TE} (h:PE X e t) (he:∀ whole,isTrue e X.env whole=(do let v <- whole;standAt e.pos;holding [v] (truthy v)):=by intro _;rfl):PT X e (tB t):=by
  intro pins s σ H Q I hw;refine isTrue_plain (bX (h pins s σ H _ I hw) fun v s1 zq0=>?_) (he _);obtain ⟨x,H1,I1,r1,q1⟩:=zq0;obtain ⟨d,rfl,q⟩:=q1;cases r1;exact wpAny_truthy_bool ⟨H1,I1,q⟩
variable {tA tB':TT} {rest:List Expr}
noncomputable def yt (t u:TT):TT:=fun σ H Q=>t σ H fun c H1=>if c=true then u σ H1 Q else Q false H1
noncomputable def zk (t u:TT):TT:=fun σ H Q=>t σ H fun c H1=>if c=true then Q true H1 else u σ H1 Q
noncomputable def yB (t:TT):TT:=fun σ H Q=>t σ H fun c H1=>Q (!c) H1
theorem pw_and1 (ha:PT X a tA):PW X (.BoolOp .And [a] pos) tA:=by
  intro wh pins s σ H Q I h;refine isTrue_and (bX (ha pins s σ H Q I h) fun c s1 e=>?_);cases c with
  | true=>exact isTrue_and_nil e
  | false=>exact e
theorem pw_or1 (ha:PT X a tA):PW X (.BoolOp .Or [a] pos) tA:=by
  intro wh pins s σ H Q I h;refine isTrue_or (bX (ha pins s σ H Q I h) fun c s1 e=>?_);cases c with
  | false=>exact isTrue_or_nil e
  | true=>exact e
theorem pw_and (ha:PT X a tA) (hb:PW X (.BoolOp .And (b::rest) pos) tB'):PW X (.BoolOp .And (a::b::rest) pos) (yt tA tB'):=by
  intro wh pins s σ H Q I h;refine isTrue_and (bX (ha pins s σ H _ I h) fun c s1 zq0=>?_);obtain ⟨H1,I1,q1⟩:=zq0;cases c with
  | true=>exact hb wh pins s1 σ H1 Q I1 q1
  | false=>exact ⟨H1,I1,q1⟩
theorem pw_or (ha:PT X a tA) (hb:PW X (.BoolOp .Or (b::rest) pos) tB'):PW X (.BoolOp .Or (a::b::rest) pos) (zk tA tB'):=by
  intro wh pins s σ H Q I h;refine isTrue_or (bX (ha pins s σ H _ I h) fun c s1 zq0=>?_);obtain ⟨H1,I1,q1⟩:=zq0;cases c with
  | true=>exact ⟨H1,I1,q1⟩
  | false=>exact hb wh pins s1 σ H1 Q I1 q1
theorem ux (ha:PT X a tA):PT X (.UnaryOp .Not a pos) (yB tA):=by
  intro pins s σ H Q I h;refine isTrue_not (bX (ha pins s σ H (fun c H1=>Q (!c) H1) I h) fun c s1 z=>?_);obtain ⟨H1,I1,q1⟩:=z;exact ⟨H1,I1,q1⟩
noncomputable def wF (ta tb:TE):TE:=fun σ H Q=>ta σ H fun x H1=>∃ c,x=.bl c/\if c=true then tb σ H1 Q else Q (.bl false) H1
theorem uo {op} {t:TE} (h:PE X a t):PE X (.BoolOp op [a] pos) t:=fun pins s σ H Q I hw=>BoolOp_one (h pins s σ H Q I hw)
theorem uj (ha:PE X a ta) (hb:PE X (.BoolOp .And (b::rest) pos) tb):PE X (.BoolOp .And (a::b::rest) pos) (wF ta tb):=by
  intro pins s σ H Q I h;refine BoolOp_and (bX (ha pins s σ H _ I h) fun v s1 zq0=>?_);obtain ⟨x,H1,I1,r1,q1⟩:=zq0;obtain ⟨c,rfl,q1⟩:=q1;cases r1;refine wpAny_truthy_bool ?_;cases c with
  | true=>exact hb pins s1 σ H1 Q I1 q1
  | false=>exact ⟨.bl false,H1,I1,rfl,q1⟩
noncomputable def zj (t:TT) (ta tb:TE):TE:=fun σ H Q=>t σ H fun c H1=>if c=true then ta σ H1 Q else tb σ H1 Q
theorem ql {c:Expr} (hc:PT X c tA) (ha:PE X a ta) (hb:PE X b tb):PE X (.IfExp c a b pos) (zj tA ta tb):=by
  intro pins s σ H Q I h;refine wpAny_IfExp (bX (hc pins s σ H _ I h) fun d s1 zq0=>?_);obtain ⟨H1,I1,q1⟩:=zq0;cases d with
  | true=>exact ha pins s1 σ H1 Q I1 q1
  | false=>exact hb pins s1 σ H1 Q I1 q1
end
noncomputable def iR (K:PySem.W.Frag) (H:Hp) (a:Addr) (xs:List V):Prop :=
  Rd H a (.lst xs) \/
    ∃ (o:Obj) (its:Array Value) (n:Nat),K.lookup a=some o/\o.cls=.type "list" /\ o.dict=none/\o.data=.seq its n/\its.size<=sizeLine/\aF xs its.toList
noncomputable def cx (K:PySem.W.Frag) (H:Hp) (a:Addr) (xs:List V):Prop :=
  Rd H a (.tup xs) \/
    ∃ (o:Obj) (its:Array Value) (n:Nat),K.lookup a=some o/\o.cls=.type "tuple" /\ o.data=.seq its n/\its.size<=sizeLine/\aF xs its.toList
noncomputable def xI:Value->Option V
  | .none=>some .non
  | .bool b=>some (.bl b)
  | .int i _=>some (.int i)
  | .str x _=>some (.str x)
  | .bytes b _=>some (.byt b)
  | .float b _=>some (.flt b)
  | .ref a=>some (.ref a)
  | .type n=>some (.ty n)
  | _=>none
theorem aJ.abs {x:V} {u:Value} (r:aJ x u):xI u=some x:=by
  cases x with
  | non=>cases r;rfl
  | bl _=>cases r;rfl
  | int _=>obtain ⟨t,rfl⟩:=r;rfl
  | str _=>obtain ⟨t,rfl⟩:=r;rfl
  | byt _=>obtain ⟨t,rfl⟩:=r;rfl
  | flt _=>obtain ⟨t,rfl⟩:=r;rfl
  | ref _=>cases r;rfl
  | ty _=>cases r;rfl
theorem aJ.inj {x y:V} {u:Value} (r:aJ x u) (q:aJ y u):x=y:=Option.some.inj (r.abs.symm.trans q.abs)
theorem aF.inj {xs ys:List V} {us:List Value} (h:aF xs us) (h':aF ys us):xs=ys:=by
  induction h generalizing ys with
  | nil =>
    cases h';rfl
  | cons r t ih =>
    cases h' with
    | cons r' t'=>rw [r.inj r',ih t']
section
variable {X:Cx} {pins:List (Addr×Obj)} {σ:St} {H:Hp} {s:Shared} {a:Addr} {xs ys:List V}
theorem cx.of {K:PySem.W.Frag} (h:H a=some (.tup xs)):cx K H a xs:=.inl (.inl h)
theorem ap.list (I:ap X pins σ H s) (h:iR X.K H a xs):∃ its:List Value,aF xs its/\PlainL s.heap a its.toArray/\xs.length<=sizeLine:=by
  rcases h with h | ⟨o,its,n,hk,hc,hd,hs,hz,r⟩
  · obtain ⟨z,its,n,r,e⟩:=h.ok I.hok;exact ⟨its,r,⟨_,n,e,rfl,rfl,rfl⟩,z⟩
  · refine ⟨its.toList,r,⟨o,n,I.kIn a o hk,hc,hd,by simpa using hs⟩,?_⟩;have e:=r.length;simp only [Array.length_toList] at e;omega
theorem ap.tuple (I:ap X pins σ H s) (h:cx X.K H a xs):∃ its:List Value,aF xs its/\IsTup s.heap a its.toArray/\xs.length<=sizeLine:=by
  rcases h with h | ⟨o,its,n,hk,hc,hs,hz,r⟩
  · obtain ⟨z,its,r,p⟩:=h.ok I.hok;exact ⟨its,r,p.is,z⟩
  · refine ⟨its.toList,r,⟨o,I.kIn a o hk,hc,n,by simpa using hs⟩,?_⟩;have e:=r.length;simp only [Array.length_toList] at e;omega
theorem ap.list_inj (I:ap X pins σ H s) (h:iR X.K H a xs) (h':iR X.K H a ys):xs=ys:=by
  obtain ⟨its,r,⟨o,n,e,_,_,d⟩,_⟩:=I.list h;obtain ⟨its',r',⟨o',n',e',_,_,d'⟩,_⟩:=I.list h';rw [e] at e';cases e';rw [d] at d';injection d' with d1 _
  have:its=its':=by simpa using congrArg Array.toList d1
  subst this;exact r.inj r'
theorem ap.tuple_inj (I:ap X pins σ H s) (h:cx X.K H a xs) (h':cx X.K H a ys):xs=ys:=by
  obtain ⟨its,r,⟨o,e,_,n,d⟩,_⟩:=I.tuple h;obtain ⟨its',r',⟨o',e',_,n',d'⟩,_⟩:=I.tuple h';rw [e] at e';cases e';rw [d] at d';injection d' with d1 _
  have:its=its':=by simpa using congrArg Array.toList d1
  subst this;exact r.inj r'
end
noncomputable abbrev Cx.wish (X:Cx) (E:Value->Shared->Prop):Cx:={ X with xe:=E }
noncomputable abbrev Cx.nox (X:Cx):Cx:=X.wish fun _ _=>False
theorem Cx.Ok.wish {X:Cx} (ok:X.Ok) (E:Value->Shared->Prop):(X.wish E).Ok :=
  ⟨ok.mod,ok.kind,ok.glob,ok.blt,ok.above,ok.inj,ok.has,ok.cab,ok.hd,ok.frames,ok.stk,ok.exf,ok.bs,ok.bsz,ok.noex,ok.exfs,ok.funs,ok.frf,ok.tab⟩
theorem Cx.Ok.unwish {X:Cx} {E:Value->Shared->Prop} (ok:(X.wish E).Ok):X.Ok :=
  ⟨ok.mod,ok.kind,ok.glob,ok.blt,ok.above,ok.inj,ok.has,ok.cab,ok.hd,ok.frames,ok.stk,ok.exf,ok.bs,ok.bsz,ok.noex,ok.exfs,ok.funs,ok.frf,ok.tab⟩
section
variable {X:Cx} {pins:List (Addr×Obj)} {σ:St} {H:Hp} {s:Shared} {E:Value->Shared->Prop}
theorem ap.wish (I:ap X pins σ H s) (E:Value->Shared->Prop):ap (X.wish E) pins σ H s:=⟨I.ok.wish E,I.os,I.bare,I.base,I.loc,I.cell,I.free,I.freeC,I.pin,I.hok,I.len⟩
theorem ap.unwish (I:ap (X.wish E) pins σ H s):ap X pins σ H s:=⟨I.ok.unwish,I.os,I.bare,I.base,I.loc,I.cell,I.free,I.freeC,I.pin,I.hok,I.len⟩
theorem SP.unwish {D:kr} {f:Flow} {s':Shared} (h:SP (X.wish E) pins D f s'):SP X pins D f s':=by
  cases f with
  | next=>obtain ⟨σ',H',I,q⟩:=h;exact ⟨σ',H',I.unwish,q⟩
  | brk=>obtain ⟨σ',H',I,q⟩:=h;exact ⟨σ',H',I.unwish,q⟩
  | cont=>obtain ⟨σ',H',I,q⟩:=h;exact ⟨σ',H',I.unwish,q⟩
  | ret u=>obtain ⟨v,σ',H',I,r,q⟩:=h;exact ⟨v,σ',H',I.unwish,r,q⟩
theorem PE.nox {e:Expr} {t:TE} (h:PE X.nox e t):PE X e t:=fun pins s σ H Q I hw =>
  wpAny_mono (h pins s σ H Q (I.wish _) hw) (fun _ _ ⟨v,H',I',r,q⟩=>⟨v,H',I'.unwish,r,q⟩) fun _ _ z=>False.elim z
theorem PT.nox {e:Expr} {t:TT} (h:PT X.nox e t):PT X e t:=fun pins s σ H Q I hw =>
  wpAny_mono (h pins s σ H Q (I.wish _) hw) (fun _ _ ⟨H',I',q⟩=>⟨H',I'.unwish,q⟩) fun _ _ z=>False.elim z
theorem jE.nox {st:List Stmt} {t:TS} (h:jE X.nox st t):jE X st t:=fun pins s σ H D I hw =>
  wpAny_mono (h pins s σ H D (I.wish _) hw) (fun _ _ q=>q.unwish) fun _ _ z=>False.elim z
end
section
variable {X:Cx} {st:Stmt} {rest:List Stmt} {t u:TS} {e:Expr} {te:TE} {pos:Pos}
noncomputable def wI:TS:=fun D σ H=>D.nx σ H
noncomputable def yD (t u:TS):TS:=fun D σ H=>t { D with nx:=u D } σ H
theorem sq:jE X [] wI:=fun _ _ σ H _ I h=>wpAny_execs_nil ⟨σ,H,I,h⟩
theorem qr (h1:PS X st t) (h2:jE X rest u):jE X (st::rest) (yD t u):=by
  intro pins s σ H D I h;refine wpAny_execs_cons (bX (h1 pins s σ H { D with nx:=u D } I h) fun f s1 q=>?_);cases f with
  | next =>
    obtain ⟨σ',H',I',q⟩:=q;exact h2 pins s1 σ' H' D I' q
  | ret v=>exact q
  | brk=>exact q
  | cont=>exact q
theorem sr (h1:PS X st t):jE X [st] t:=by
  intro pins s σ H D I h;refine wpAny_execs_cons (bX (h1 pins s σ H D I h) fun f s1 q=>?_);cases f with
  | next=>exact wpAny_execs_nil q
  | ret v=>exact q
  | brk=>exact q
  | cont=>exact q
noncomputable def yC (te:TE):TS:=fun D σ H=>te σ H D.rt
theorem uw (he:PE X e te):PS X (.Return (some e) pos) (yC te):=by
  intro pins s σ H D I h;exact wpAny_Return_some (bX (he pins s σ H _ I h) fun v s1 ⟨x,H1,I1,r1,q1⟩=>⟨x,σ,H1,I1,r1,q1⟩)
noncomputable def yy (c:TT) (t u:TS):TS:=fun D σ H=>c σ H fun b H1=>if b=true then t D σ H1 else u D σ H1
theorem wk {c:Expr} {a b:List Stmt} {tc:TT} (hc:PT X c tc) (ha:jE X a t) (hb:jE X b u):PS X (.If c a b pos) (yy tc t u):=by
  intro pins s σ H D I h;refine wpAny_If (bX (hc pins s σ H _ I h) fun d s1 zq0=>?_);obtain ⟨H1,I1,q1⟩:=zq0;cases d with
  | true=>exact ha pins s1 σ H1 D I1 q1
  | false=>exact hb pins s1 σ H1 D I1 q1
end
noncomputable abbrev TG:=V->St->Hp->(St->Hp->Prop)->Prop
noncomputable abbrev tF:=List V->St->Hp->(St->Hp->Prop)->Prop
noncomputable def PG (X:Cx) (target:Expr) (t:TG):Prop :=
  ∀ (pins:List (Addr×Obj)) (s:Shared) (σ:St) (H:Hp) (v:V) (u:Value) (Q:St->Hp->Prop),ap X pins σ H s->aJ v u->t v σ H Q ->
    wpAny (model X.prog X.w) X.A (assign target X.env u) (fun _ s'=>NX X pins s' Q) X.xe s
noncomputable def w4 (X:Cx) (ts:List Expr) (t:tF):Prop :=
  ∀ (pins:List (Addr×Obj)) (s:Shared) (σ:St) (H:Hp) (vs:List V) (us:List Value) (Q:St->Hp->Prop),ap X pins σ H s->aF vs us->t vs σ H Q ->
    wpAny (model X.prog X.w) X.A (assignInOrder ((assignEach ts X.env).map (·.2)) us) (fun _ s'=>NX X pins s' Q) X.xe s
section
variable {X:Cx} {pos:Pos}
noncomputable def sQ (i:Nat):TG:=fun v σ H Q=>Q (σ.set i (some v)) H
theorem h7 {i:Nat} {x:Str} (hN:X.N.Nodup) (hi:X.N[i]?=some x) (hx:tx X.env.scope x) (hf:X.fn x=true\/X.env.scope.names.lookup x=some .local:=by first | exact .inl rfl | exact .inr rfl | assumption):PG X (.Name x pos) (sQ i):=by
  intro pins s σ H v u Q I r h;exact wpAny_assign_Name (lx I hN hi hx r (fun s' I'=>⟨_,H,I',h⟩) hf)
noncomputable def yh:tF:=fun vs σ H Q=>vs=[]/\Q σ H
noncomputable def vF (t:TG) (u:tF):tF:=fun vs σ H Q=>∃ v r,vs=v::r/\t v σ H fun σ' H'=>u r σ' H' Q
theorem si:w4 X [] yh:=by
  intro pins s σ H vs us Q I r h;obtain ⟨e,h⟩:=h;subst e;cases r;exact assignInOrder_nil ⟨σ,H,I,h⟩
theorem iF {e:Expr} {es:List Expr} {t:TG} {u:tF} (h1:PG X e t) (h2:w4 X es u)
    (hs:(assignEach (e::es) X.env).map (·.2)=assign e X.env::(assignEach es X.env).map (·.2):=by rfl):w4 X (e::es) (vF t u):=by
  intro pins s σ H vs us Q I r h;obtain ⟨v,vr,e1,h⟩:=h;subst e1;cases r with
  | cons r rr =>
    rw [hs];refine assignInOrder_cons (bX (h1 pins s σ H _ _ _ I r h) fun _ s1 zq0=>?_);obtain ⟨σ1,H1,I1,q1⟩:=zq0;exact h2 pins s1 σ1 H1 _ _ Q I1 rr q1
noncomputable def yi (K:PySem.W.Frag) (n:Nat) (t:tF):TG:=fun v σ H Q=>∃ a xs,v=.ref a/\cx K H a xs/\xs.length=n/\t xs σ H Q
theorem ur {es:List Expr} {k:Nat} {t:tF} {n:Nat} (hc:X.calm=true) (h:w4 X es t)
    (hn:(assignEach es X.env).length=n:=by rfl) (hst:(assignEach es X.env).findIdx? (·.1)=none:=by rfl):PG X (.Tuple es k pos) (yi X.K n t):=by
  intro pins s σ H v u Q I r hw;obtain ⟨a,xs,e1,hq,hl,hw⟩:=hw;subst e1;cases r;obtain ⟨its,rv,ht,hz⟩:=I.tuple hq;refine assign_Tuple_tuple (I.ok.hd hc) ht (by simp [hn,<- hl,rv.length]) hst fun h' hx=>?_
  have I1:ap X pins σ H { s with heap:=h' }:=I.kept (t':=s.toks) fun b o e=>hx b o (Nat.ne_of_lt (Heap.lt_size e)) e
  exact h pins _ σ H xs _ Q I1 (by simpa using rv) hw
noncomputable def yu (te:TE) (g:TG):TS:=fun D σ H=>te σ H fun x H1=>g x σ H1 D.nx
theorem qo {i:Nat} {x:Str} {e:Expr} {te:TE} {pos':Pos} (hN:X.N.Nodup) (hi:X.N[i]?=some x) (hx:tx X.env.scope x) (he:PE X e te) (hs:swapsWith e (some (.Name x pos')) pos.line X.env=pure false:=by rfl) (hf:X.fn x=true\/X.env.scope.names.lookup x=some .local:=by first | exact .inl rfl | exact .inr rfl | assumption) :
    PS X (.Assign [.Name x pos'] e pos) (yu te (sQ i)):=by
  intro pins s σ H D I h;refine wpAny_Assign_Name (bX (he pins s σ H _ I h) fun v s1 zq0=>?_) hs;obtain ⟨y,H1,I1,r1,q1⟩:=zq0;exact lx I1 hN hi hx r1 (fun s2 I2=>⟨_,H1,I2,q1⟩) hf
end
section
variable {X:Cx} {pos:Pos}
noncomputable def uS (c:TT) (tb:TS):TS:=fun D σ H=>∃ W:Nat->St->Hp->Prop,(∃ m,W m σ H)/\∀ m σ H,W m σ H ->
  c σ H fun b H1=>if b=true then ∃ N:St->Hp->Prop,(∀ σ' H',N σ' H'->∃ m',m' < m/\W m' σ' H')/\tb { D with nx:=N,ct:=N,bk:=D.nx } σ H1 else D.nx σ H1
theorem qp {c:Expr} {body:List Stmt} {tc:TT} {tb:TS} (hp:PassesOwn (model X.prog X.w) X.A X.env X.xe) (hc:PT X c tc) (hb:jE X body tb):PS X (.While c body [] pos) (uS tc tb):=by
  intro pins s σ H D I h;obtain ⟨W,⟨m0,w0⟩,turn⟩:=h;refine wpAny_While (codeAny_whileLoop (fun n s'=>NX X pins s' (W n)) ?_ m0 ⟨σ,H,I,w0⟩);rintro n s1 ⟨σ1,H1,I1,w1⟩;refine wpAny_passesOwn hp (bX (hc pins s1 σ1 H1 _ I1 (turn n σ1 H1 w1)) fun b s2 zq0=>?_);obtain ⟨H2,I2,q2⟩:=zq0;cases b with
  | true =>
    obtain ⟨N,hN,q2⟩:=q2;rw [if_pos rfl];refine wpAny_passesOwn hp (bX (hb pins s2 σ1 H2 _ I2 q2) fun f s3 q3=>?_);cases f with
    | next =>
      obtain ⟨σ3,H3,I3,n3⟩:=q3;obtain ⟨m',hm,w3⟩:=hN σ3 H3 n3;exact ⟨m',hm,σ3,H3,I3,w3⟩
    | cont =>
      obtain ⟨σ3,H3,I3,n3⟩:=q3;obtain ⟨m',hm,w3⟩:=hN σ3 H3 n3;exact ⟨m',hm,σ3,H3,I3,w3⟩
    | brk=>exact q3
    | ret v=>exact q3
  | false =>
    rw [if_neg Bool.false_ne_true];exact wpAny_execs_nil ⟨σ1,H2,I2,q2⟩
end
structure It where
  go:Nat->Hp->Prop
  yld:Nat->Hp->V->Hp->Prop
  stop:Nat->Hp->Prop
noncomputable def gV (X:Cx) (pins:List (Addr×Obj)) (H:Hp) (b:Addr):Prop :=
  H b=none/\b≠X.env.locals/\b∉X.fs/\(b∈X.ex\/X.s₀.heap.objs.size<=b)/\(∀ x c,X.env.cells.lookup x=some c->c≠b)/\∀ p∈X.pn++pins,p.1≠b
theorem ap.fpOk {X:Cx} {pins:List (Addr×Obj)} {σ:St} {H H':Hp} {s:Shared} {b:Addr} (I:ap X pins σ H s) (hb:s.heap.objs.size<=b) (hn:H' b=none):gV X pins H' b:=by
  refine ⟨hn,Nat.ne_of_gt (Nat.lt_of_lt_of_le I.lt hb),I.nofs hb,.inr (Nat.le_trans I.sz hb),fun x c e z=>?_,fun p hp z=>?_⟩
  · obtain ⟨v,q⟩:=I.cell x c e;exact absurd (Nat.lt_of_lt_of_le q.lt (by rw [z];exact hb)) (Nat.lt_irrefl _)
  · exact absurd (Nat.lt_of_lt_of_le (Heap.lt_size (I.pin p hp).1) (by rw [z];exact hb)) (Nat.lt_irrefl _)
inductive yZ (X:Cx) (pins:List (Addr×Obj)) (σ:St) (u:Value) (J:It) (i:Nat) (H:Hp) (fp:List Addr) (tn:Nat->Heap->Prop) (s2:Shared):Prop
  | mk (x:V) (H':Hp) (I:ap X pins σ H' s2) (r:aJ x u) (y:J.yld i H x H') (t:tn (i+1) s2.heap) (f:∀ b∈fp,H' b=none)
structure nu (P:Program) (w:World) (K:PySem.W.Frag) (tg:Expr) (J:It) (fp:List Addr) (it:Addr) (tn:Nat->Heap->Prop):Prop where
  mem:it∈fp
  obj:∀ i h,tn i h->∀ b∈fp,∃ o,h.get? b=some o/\∀ v,o.data≠.cell v
  keep:∀ i h h',tn i h->(∀ b∈fp,∀ o,h.get? b=some o->h'.get? b=some o)->tn i h'
  item:∀ (X:Cx),X.prog=P->X.w=w->X.K=K->X.calm=true->∀ (i:Nat) (pins:List (Addr×Obj)) (s:Shared) (σ:St) (H:Hp) (E:Value->Shared->Prop),ap X pins σ H s->(∀ b∈fp,gV X pins H b)->tn i s.heap->J.go i H ->
    wpAny (model P w) X.A (pyNext (.ref it)) (fun r s1=>∃ u,r=some u /\
      wpAny (model P w) X.A (letOwnedTupleGo tg (.ref it) u) (fun _ s2=>yZ X pins σ u J i H fp tn s2) E s1) E s
  done:∀ (X:Cx),X.prog=P->X.w=w->X.K=K->X.calm=true->∀ (i:Nat) (pins:List (Addr×Obj)) (s:Shared) (σ:St) (H:Hp) (E:Value->Shared->Prop),ap X pins σ H s->(∀ b∈fp,gV X pins H b)->tn i s.heap->J.stop i H ->
    wpAny (model P w) X.A (pyNext (.ref it)) (fun r s1=>r=none/\ap X pins σ H s1) E s
  self:∀ (A:Around) (i:Nat) (s:Shared) (Q:Value->Shared->Prop) (E:Value->Shared->Prop),tn i s.heap->Q (.ref it) s->wpAny (model P w) A (pyIter (.ref it)) Q E s
noncomputable abbrev TI:=St->Hp->(It->Hp->Prop)->Prop
inductive yJ (X:Cx) (pins:List (Addr×Obj)) (σ:St) (tg:Expr) (R:It->Hp->Prop) (itv:Value) (s2:Shared):Prop
  | mk (it:Addr) (fp:List Addr) (tn:Nat->Heap->Prop) (J:It) (H':Hp) (e:itv=.ref it) (I:ap X pins σ H' s2) (T:nu X.prog X.w X.K tg J fp it tn) (t:tn 0 s2.heap) (f:∀ b∈fp,gV X pins H' b) (r:R J H')
noncomputable def PI (X:Cx) (tg iter:Expr) (wi:TI):Prop :=
  ∀ (pins:List (Addr×Obj)) (s:Shared) (σ:St) (H:Hp) (R:It->Hp->Prop),ap X pins σ H s->wi σ H R ->
    wpAny (model X.prog X.w) X.A (eval iter X.env) (fun v s1=>wpAny (model X.prog X.w) X.A (pyIter v) (yJ X pins σ tg R) X.xe s1) X.xe s
theorem pM {M:Model} {A:Around} {E:Value->Shared->Prop} {s:Shared} {tg:Expr} {it:Addr} {u:Value} {o:Obj} {n:String} {vs:Array Value} {Q:Unit->Shared->Prop} (ho:s.heap.get? it=some o) (hc:o.cls=.type n) (hd:o.data=.fields vs)
    (hn:["enumerate","zip","dict_itemiterator","dict_reverseitemiterator","odict_iterator","itertools.zip_longest","itertools.pairwise"].contains n=false) (hQ:Q () s):wpAny M A (letOwnedTupleGo tg (.ref it) u) Q E s:=by
  unfold letOwnedTupleGo;cases tg <;> first
    | exact wpAny_pure hQ
    | (cases u <;> first
        | exact wpAny_pure hQ
        | (refine wpAny_bind (wpAny_load ho ?_)
           rw [hc,hd];show wpAny M A (if (["enumerate","zip","dict_itemiterator","dict_reverseitemiterator","odict_iterator","itertools.zip_longest","itertools.pairwise"].contains n&&vs[0]?==some (rawInt _))=true then _ else _) Q E s;rw [if_neg (by intro h;rw [hn,Bool.false_and] at h;cases h)];exact wpAny_pure hQ))
noncomputable def xC (K:PySem.W.Frag) (a:Addr):It :=
  ⟨fun i H=>∃ xs x,iR K H a xs/\xs[i]?=some x,fun i H x H'=>H'=H/\∀ xs,iR K H a xs->xs[i]?=some x,fun i H=>∃ xs,iR K H a xs/\xs.length<=i⟩
noncomputable def xD (K:PySem.W.Frag) (a:Addr):It :=
  ⟨fun i H=>∃ xs x,cx K H a xs/\xs[i]?=some x,fun i H x H'=>H'=H/\∀ xs,cx K H a xs->xs[i]?=some x,fun i H=>∃ xs,cx K H a xs/\xs.length<=i⟩
noncomputable def wY (lo:Int) (n:Nat):It:=⟨fun i _=>i < n,fun i H x H'=>H'=H/\x=.int (lo+i),fun i _=>n<=i⟩
theorem oH {P:Program} {w:World} {K:PySem.W.Frag} {tg:Expr} (a it:Addr):nu P w K tg (xC K a) [it] it (fun i h=>h.IsListIter it a i) where
  mem:=by simp
  obj:=fun i h st b hb=>by
    have e:b=it:=by simpa using hb
    subst e;obtain ⟨o,e,c,d⟩:=st;exact ⟨o,e,fun v z=>by rw [d] at z;cases z⟩
  keep:=fun i h h' st k=>st.at fun o e=>k it (by simp) o e
  item:=by
    intro X hP hw hK hc i pins s σ H E I hf st hg;subst hP hw hK;obtain ⟨xs,x,hq,hx⟩:=hg;obtain ⟨its,rv,p,hz⟩:=I.list hq;obtain ⟨u,hu,ru⟩:=rv.get hx;obtain ⟨f0,f1,f2,f3,f4,f5⟩:=hf it (by simp);refine wpAny_pyNext_list_item st p.isList (x:=u) (by simpa using hu) fun h' st' sb=>?_
    have I1:ap X pins σ H { s with heap:=h' }:=I.turned (t':=s.toks) (fun b o hb e=>(sb.2 b hb).trans e) f0 f1 f3 f4 f5;obtain ⟨o,e,c,d⟩:=id st';exact ⟨u,rfl,pM (s:={ s with heap:=h' }) e c d (by decide) ⟨x,H,I1,ru,⟨rfl,fun ys hy=>by rw [I.list_inj hy hq];exact hx⟩,st',fun b hb=>(hf b hb).1⟩⟩
  done:=by
    intro X hP hw hK hc i pins s σ H E I hf st hg;subst hP hw hK;obtain ⟨xs,hq,hx⟩:=hg;obtain ⟨its,rv,p,hz⟩:=I.list hq;obtain ⟨f0,f1,f2,f3,f4,f5⟩:=hf it (by simp);have hl:=rv.length;exact wpAny_pyNext_list_end (I.ok.hd hc) st p.isList (by simp;omega) fun h' eb=>⟨rfl,I.turned (t':=s.toks) (fun b o hb e=>eb b o hb e) f0 f1 f3 f4 f5⟩
  self:=fun _ _ _ _ _ st h=>wpAny_pyIter_listiter st h
theorem my {P:Program} {w:World} {K:PySem.W.Frag} {tg:Expr} (a it:Addr):nu P w K tg (xD K a) [it] it (fun i h=>h.IsTupleIter it a i) where
  mem:=by simp
  obj:=fun i h st b hb=>by
    have e:b=it:=by simpa using hb
    subst e;obtain ⟨o,e,c,d⟩:=st;exact ⟨o,e,fun v z=>by rw [d] at z;cases z⟩
  keep:=fun i h h' st k=>st.at fun o e=>k it (by simp) o e
  item:=by
    intro X hP hw hK hc i pins s σ H E I hf st hg;subst hP hw hK;obtain ⟨xs,x,hq,hx⟩:=hg;obtain ⟨its,rv,p,hz⟩:=I.tuple hq;obtain ⟨u,hu,ru⟩:=rv.get hx;obtain ⟨f0,f1,f2,f3,f4,f5⟩:=hf it (by simp);refine wpAny_pyNext_tuple_item st (show s.heap.IsTuple a its.toArray from p) (x:=u) (by simpa using hu) fun h' st' sb=>?_
    have I1:ap X pins σ H { s with heap:=h' }:=I.turned (t':=s.toks) (fun b o hb e=>(sb.2 b hb).trans e) f0 f1 f3 f4 f5;obtain ⟨o,e,c,d⟩:=id st';exact ⟨u,rfl,pM (s:={ s with heap:=h' }) e c d (by decide) ⟨x,H,I1,ru,⟨rfl,fun ys hy=>by rw [I.tuple_inj hy hq];exact hx⟩,st',fun b hb=>(hf b hb).1⟩⟩
  done:=by
    intro X hP hw hK hc i pins s σ H E I hf st hg;subst hP hw hK;obtain ⟨xs,hq,hx⟩:=hg;obtain ⟨its,rv,p,hz⟩:=I.tuple hq;obtain ⟨f0,f1,f2,f3,f4,f5⟩:=hf it (by simp);have hl:=rv.length;exact wpAny_pyNext_tuple_end (I.ok.hd hc) st (show s.heap.IsTuple a its.toArray from p) (by simp;omega) fun h' eb=>⟨rfl,I.turned (t':=s.toks) (fun b o hb e=>eb b o hb e) f0 f1 f3 f4 f5⟩
  self:=fun _ _ _ _ _ st h=>wpAny_pyIter_tupleiter st h
theorem mw {P:Program} {w:World} {K:PySem.W.Frag} {tg:Expr} (it:Addr) (lo:Int) (n:Nat):nu P w K tg (wY lo n) [it] it (fun i h=>IsRangeIter h it (lo+(i:Nat)*1) ((n:Int)-(i:Nat)) 1) where
  mem:=by simp
  obj:=fun i h st b hb=>by
    have e:b=it:=by simpa using hb
    subst e;exact ⟨_,st,fun v z=>by
      have z':Data.fields _=Data.cell v:=z;cases z'⟩
  keep:=fun i h h' st k=>k it (by simp) _ st
  item:=by
    intro X hP hw hK hc i pins s σ H E I hf st hg;subst hP hw hK;obtain ⟨f0,f1,f2,f3,f4,f5⟩:=hf it (by simp);have W:=Walks.range (prog:=X.prog) (w:=X.w) (I.ok.hd hc) it lo 1 n;refine W.item i s _ _ hg st fun v h' tk hv st' kk=>?_
    obtain ⟨t,rfl⟩:=hv;have I1:ap X pins σ H { s with heap:=h',toks:=tk }:=I.turned (fun b o hb e=>kk b o (by simpa using hb) e) f0 f1 f3 f4 f5;refine ⟨_,rfl,pM (s:={ s with heap:=h',toks:=tk }) (n := "range_iterator") st' rfl rfl (by decide) ⟨.int (lo+i),H,I1,⟨t,?_⟩,⟨rfl,rfl⟩,st',fun b hb=>(hf b hb).1⟩⟩;rw [Int.mul_one]
  done:=by
    intro X hP hw hK hc i pins s σ H E I hf st hg;subst hP hw hK;obtain ⟨f0,f1,f2,f3,f4,f5⟩:=hf it (by simp);exact wpAny_pyNext_range_end (I.ok.hd hc) st (by have:n<=i:=hg;omega) fun h' eb=>⟨rfl,I.turned (t':=s.toks) (fun b o hb e=>eb b o hb e) f0 f1 f3 f4 f5⟩
  self:=fun _ _ _ _ _ st h=>wpAny_pyIter_rangeiter st h
section
variable {X:Cx} {tg:Expr}
theorem qw {pins:List (Addr×Obj)} {σ:St} {H:Hp} {s:Shared} {R:It->Hp->Prop} {E:Value->Shared->Prop} {lo hi:Int} {t u v:Tok} {tk:Nat} (I:ap X pins σ H s) (h1:-(2 ^ 62)<=lo) (h2:lo < 2 ^ 62) (h3:-(2 ^ 62)<=hi) (h4:hi < 2 ^ 62)
    (q:R (wY lo (hi-lo).toNat) H):wpAny (model X.prog X.w) X.A (pyIter (.ref s.heap.objs.size)) (yJ X pins σ tg R) E { s with heap:=s.heap.push { cls:=.type "range",data:=.fields #[.int lo t,.int hi u,.int 1 v] },toks:=tk }:=by
  refine wpAny_pyIter_range (IsRange.new ..) (small_one h1 h2 h3 h4) ?_;have I1:ap X pins σ H { s with heap:=s.heap.push { cls:=.type "range",data:=.fields #[.int lo t,.int hi u,.int 1 v] },toks:=tk }:=I.kept fun b o e=>Heap.get?_push_of_some _ e
  refine ⟨(s.heap.push { cls:=.type "range",data:=.fields #[.int lo t,.int hi u,.int 1 v] }).objs.size,[(s.heap.push { cls:=.type "range",data:=.fields #[.int lo t,.int hi u,.int 1 v] }).objs.size],_,_,H,rfl,
    I1.kept (t':=tk) fun b o e=>Heap.get?_push_of_some _ e,mw _ lo (hi-lo).toNat,?_,fun b hb=>?_,q⟩
  · have e1:lo+((0:Nat):Int)*1=lo:=by simp
    have e2:(((hi-lo).toNat:Nat):Int)-((0:Nat):Int)=Builtin.Range.rangeSize lo hi 1:=by rw [rangeSize_one];split <;> omega
    show IsRangeIter _ _ (lo+((0:Nat):Int)*1) ((((hi-lo).toNat:Nat):Int)-((0:Nat):Int)) 1;rw [e1,e2];exact Heap.get?_push_size _ rfl
  · have e:b=(s.heap.push { cls:=.type "range",data:=.fields #[.int lo t,.int hi u,.int 1 v] }).objs.size:=by simpa using hb
    subst e;exact I1.fpOk (Nat.le_refl _) (I1.hok.fresh (Nat.le_refl _))
noncomputable def vN (ta:TA):TI:=fun σ H R=>ta σ H fun vs H1=>∃ j:Int,vs=[.int j]/\-(2 ^ 62)<=j/\j < 2 ^ 62/\R (wY 0 j.toNat) H1
theorem ox {a:Expr} {ta:TA} {p pos:Pos} (hg:Gl X "range") (hm:X.mg "range" = none) (ha:PA X [a] ta) (hs:starEach [a] X.env=[(false,eval a X.env)]:=by rfl):PI X tg (.Call (.Name "range" p) [a] [] pos) (vN ta):=by
  intro pins s σ H R I h;refine Call_ (gE I hg hm boot_range (PyProof.Rows.callWith_type1 (bX (ha pos pins s σ H _ I h) fun us s1 zq0=>?_) hs rfl));obtain ⟨vs,H1,I1,r1,q1⟩:=zq0;obtain ⟨j,e,q1,q2,q⟩:=q1;subst e;cases r1 with
  | cons r rr =>
    cases rr;obtain ⟨t,rfl⟩:=r;exact call_range_1 (qw I1 (by omega) (by omega) q1 q2 (by simpa using q))
noncomputable def yx (wi:TI) (g:TG) (tb:TS):TS:=fun D σ H=>wi σ H fun J H1=>∃ W:Nat->Nat->St->Hp->Prop,(∃ m,W 0 m σ H1)/\∀ i m σ H,W i m σ H ->
  (J.stop i H/\D.nx σ H)\/(J.go i H/\∃ N:St->Hp->Prop,(∀ σ' H',N σ' H'->∃ m',m' < m/\W (i+1) m' σ' H')/\∀ x H',J.yld i H x H'->g x σ H' fun σ2 H2=>tb { D with nx:=N,ct:=N,bk:=D.nx } σ2 H2)
noncomputable def iG (fp:List Addr) (h:Heap):List (Addr×Obj):=fp.filterMap fun b=>(h.get? b).map fun o=>(b,o)
theorem ej {fp:List Addr} {h:Heap} {b:Addr} {o:Obj} (hb:b∈fp) (e:h.get? b=some o):(b,o)∈iG fp h:=List.mem_filterMap.mpr ⟨b,hb,by rw [e];rfl⟩
theorem ou {fp:List Addr} {h:Heap} {p:Addr×Obj} (hp:p∈iG fp h):p.1∈fp/\h.get? p.1=some p.2:=by
  obtain ⟨b,hb,e⟩:=List.mem_filterMap.mp hp;cases q:h.get? b with
  | none=>rw [q] at e;cases e
  | some o =>
    rw [q] at e;have e':(b,o)=p:=Option.some.inj e;subst e';exact ⟨hb,q⟩
theorem ap.pinned {pins:List (Addr×Obj)} {σ:St} {H:Hp} {s:Shared} {fp:List Addr} (I:ap X pins σ H s) (hf:∀ b∈fp,gV X pins H b) (ho:∀ b∈fp,∃ o,s.heap.get? b=some o/\∀ v,o.data≠.cell v):ap X (pins++iG fp s.heap) σ H s :=
  I.pins_of fun p hp=>(List.mem_append.mp hp).elim (fun z=>I.pin p (List.mem_append_right _ z)) fun z=>by
    obtain ⟨hb,e⟩:=ou z;obtain ⟨f0,f1,f2,_⟩:=hf p.1 hb;obtain ⟨o,e',d⟩:=ho p.1 hb;rw [e] at e';cases e';exact ⟨e,f0,f1,f2,d⟩
theorem ap.unpinned {pins pl:List (Addr×Obj)} {σ:St} {H:Hp} {s:Shared} (I:ap X (pins++pl) σ H s):ap X pins σ H s:=I.pins_of fun p hp=>I.pin p (List.mem_append_right _ (List.mem_append_left _ hp))
theorem uv {iter:Expr} {body:List Stmt} {wi:TI} {g:TG} {tb:TS} {pos:Pos} (hp:PassesOwn (model X.prog X.w) X.A X.env X.xe) (hc:X.calm=true) (hi:PI X tg iter wi) (hg:PG X tg g) (hb:jE X body tb)
    (hs:∀ x,foldedSetIterable iter X.env x=pure x:=by intro _;rfl):PS X (.For tg iter body [] pos) (yx wi g tb):=by
  intro pins s σ H D I h;refine wpAny_For (bX (hi pins s σ H _ I h) fun v s1 h1=>bX h1 fun itv s2 h2=>?_) hs;obtain ⟨it,fp,tn,J,H2,e,I2,T,st2,f2,W,⟨m0,w0⟩,turn⟩:=h2;subst e
  -- what stays true of the iterator's objects through the loop
  have stat:∀ {H':Hp},(∀ b∈fp,H' b=none)->∀ b∈fp,gV X pins H' b:=fun hn b hb=>⟨hn b hb,(f2 b hb).2⟩
  refine codeAny_forLoop_any (fun n s'=>∃ i σ' H',ap X pins σ' H' s'/\tn i s'.heap/\(∀ b∈fp,H' b=none)/\W i n σ' H') ?_ m0 ⟨0,σ,H2,I2,st2,fun b hb=>(f2 b hb).1,w0⟩;rintro n s3 ⟨i,σ3,H3,I3,st3,fr3,w3⟩;rcases turn i n σ3 H3 w3 with ⟨stop,qn⟩ | ⟨go,N,hN,step⟩
  · refine wpAny_passesOwn hp (bX (T.done X rfl rfl rfl hc i pins s3 σ3 H3 X.xe I3 (stat fr3) st3 stop) fun r s4 zq0=>?_);obtain ⟨hr,I4⟩:=zq0;subst hr;exact wpAny_execs_nil ⟨σ3,H3,I4,qn⟩
  · refine wpAny_passesOwn hp (bX (T.item X rfl rfl rfl hc i pins s3 σ3 H3 X.xe I3 (stat fr3) st3 go) fun r s4 zq0=>?_);obtain ⟨u,hr,h4⟩:=zq0;subst hr;refine wpAny_passesOwn hp (bX h4 fun _ s5 zq0=>?_);obtain ⟨x,H5,I5,r5,y5,st5,fr5⟩:=zq0;have I5':=I5.pinned (stat fr5) (T.obj _ _ st5);refine wpAny_passesOwn hp (bX (hg _ s5 σ3 H5 x u _ I5' r5 (step x H5 y5)) fun _ s6 zq0=>?_);obtain ⟨σ6,H6,I6,q6⟩:=zq0;refine wpAny_passesOwn hp (bX (hb _ s6 σ6 H6 _ I6 q6) fun f s7 q7=>?_);have again:∀ {σ7:St} {H7:Hp},ap X (pins++iG fp s5.heap) σ7 H7 s7->N σ7 H7->∃ m,m < n/\∃ i σ' H',ap X pins σ' H' s7/\tn i s7.heap/\(∀ b∈fp,H' b=none)/\W i m σ' H':=fun {σ7 H7} I7 n7=>by
      obtain ⟨m',hm,w7⟩:=hN σ7 H7 n7;refine ⟨m',hm,i+1,σ7,H7,I7.unpinned,T.keep _ _ _ st5 fun b hb o e=>(I7.pin (b,o) (List.mem_append_right _ (List.mem_append_right _ (ej hb e)))).1,fun b hb=>?_,w7⟩;obtain ⟨o,e,d⟩:=T.obj _ _ st5 b hb;exact (I7.pin (b,o) (List.mem_append_right _ (List.mem_append_right _ (ej hb e)))).2.1
    cases f with
    | next=>obtain ⟨σ7,H7,I7,n7⟩:=q7;exact again I7 n7
    | cont=>obtain ⟨σ7,H7,I7,n7⟩:=q7;exact again I7 n7
    | brk=>obtain ⟨σ7,H7,I7,q7⟩:=q7;exact ⟨σ7,H7,I7.unpinned,q7⟩
    | ret v=>obtain ⟨x7,σ7,H7,I7,r7,q7⟩:=q7;exact ⟨x7,σ7,H7,I7.unpinned,r7,q7⟩
end
noncomputable abbrev R2:=V->V->Hp->VK->Prop
noncomputable def eS (X:Cx) (f:Value->Value->Sem Value) (r:R2):Prop :=
  ∀ (pins:List (Addr×Obj)) (s:Shared) (σ:St) (H:Hp) (x y:V) (v u:Value) (Q:VK),ap X pins σ H s->aJ x v->aJ y u->r x y H Q ->
    wpAny (model X.prog X.w) X.A (f v u) (EP X pins σ Q) X.xe s
noncomputable def xG (X:Cx) (f:Value->Sem Value) (r:V->Hp->VK->Prop):Prop :=
  ∀ (pins:List (Addr×Obj)) (s:Shared) (σ:St) (H:Hp) (x:V) (v:Value) (Q:VK),ap X pins σ H s->aJ x v->r x H Q ->
    wpAny (model X.prog X.w) X.A (f v) (EP X pins σ Q) X.xe s
noncomputable def bR (X:Cx) (f:Value) (r:List V->Hp->VK->Prop):Prop :=
  ∀ (pins:List (Addr×Obj)) (s:Shared) (σ:St) (H:Hp) (xs:List V) (us:List Value) (Q:VK),ap X pins σ H s->aF xs us->r xs H Q ->
    wpAny (model X.prog X.w) X.A (call f us) (EP X pins σ Q) X.xe s
noncomputable def wK (r:R2) (ta tb:TE):TE:=fun σ H Q=>ta σ H fun x H1=>tb σ H1 fun y H2=>r x y H2 Q
noncomputable def yT (r:V->Hp->VK->Prop) (ta:TE):TE:=fun σ H Q=>ta σ H fun x H1=>r x H1 Q
noncomputable def rI (C:Int->Int->Prop) (g:Int->Int->V):R2:=fun x y H Q=>∃ i j,x=.int i/\y=.int j/\C i j/\Q (g i j) H
noncomputable def qT (g:Int->Int->V):R2:=fun x y H Q=>∃ i j,x=.int i/\y=.int j/\Q (g i j) H
noncomputable def rU (g:Int->V):V->Hp->VK->Prop:=fun x H Q=>∃ i,x=.int i/\Q (g i) H
section
variable {X:Cx} {a b c:Expr} {ta tb tc:TE} {pos:Pos}
theorem tK (ha:PE X a ta) (hb:PE X b tb) {pins:List (Addr×Obj)} {s:Shared} {σ:St} {H:Hp} {R:V->V->Hp->Prop} (I:ap X pins σ H s)
    (h:ta σ H fun x H1=>tb σ H1 fun y H2=>R x y H2) {Q:Value->Shared->Prop} {f:Value->Value->Sem Value}
    (hf:∀ v u s2 x y H2,ap X pins σ H2 s2->aJ x v->aJ y u->R x y H2->wpAny (model X.prog X.w) X.A (f v u) Q X.xe s2) :
    wpAny (model X.prog X.w) X.A (eval a X.env) (fun v s₁=>wpAny (model X.prog X.w) X.A (eval b X.env) (fun u s₂=>wpAny (model X.prog X.w) X.A (f v u) Q X.xe s₂) X.xe s₁) X.xe s:=by
  refine bX (ha pins s σ H _ I h) fun v s1 zq0=>?_
  obtain ⟨x,H1,I1,r1,q1⟩:=zq0;refine bX (hb pins s1 σ H1 _ I1 q1) fun u s2 zq0=>?_
  obtain ⟨y,H2,I2,r2,q2⟩:=zq0;exact hf v u s2 x y H2 I2 r1 r2 q2
theorem wf {op:Operator} {r:R2} (ho:eS X (binaryOp op) r) (ha:PE X a ta) (hb:PE X b tb):PE X (.BinOp a op b pos) (wK r ta tb):=by
  intro pins s σ H Q I h;exact wpAny_BinOp (tK ha hb I h fun v u s2 x y H2 I2 rx ry q=>ho pins s2 σ H2 x y v u Q I2 rx ry q)
theorem wg {op:UnaryOp} {r:V->Hp->VK->Prop} (ho:xG X (unaryOp op) r) (ha:PE X a ta):PE X (.UnaryOp op a pos) (yT r ta):=by
  intro pins s σ H Q I h;exact UnaryOp_ (bX (ha pins s σ H _ I h) fun v s1 ⟨x,H1,I1,r1,q1⟩=>ho pins s1 σ H1 x v Q I1 r1 q1)
theorem xp {f:Value->Value->Sem Value} {C:Int->Int->Prop} {g:Int->Int->Int}
    (rule:∀ (i j:Int) (t u:Tok) (s:Shared) (Q:Value->Shared->Prop) (E:Value->Shared->Prop),C i j->Q (.int (g i j) s.toks) { s with toks:=s.toks+1 }->wpAny (model X.prog X.w) X.A (f (.int i t) (.int j u)) Q E s) :
    eS X f (rI C fun i j=>.int (g i j)):=by
  intro pins s σ H x y v u Q I rx ry h;obtain ⟨i,j,rfl,rfl,hc,q⟩:=h;obtain ⟨t,rfl⟩:=rx;obtain ⟨t',rfl⟩:=ry;exact rule i j t t' s _ _ hc ⟨.int (g i j),H,I.tok _,⟨_,rfl⟩,q⟩
theorem v8 {f:Value->Value->Sem Value} {g:Int->Int->Int}
    (rule:∀ (i j:Int) (t u:Tok) (s:Shared) (Q:Value->Shared->Prop) (E:Value->Shared->Prop),Q (.int (g i j) s.toks) { s with toks:=s.toks+1 }->wpAny (model X.prog X.w) X.A (f (.int i t) (.int j u)) Q E s) :
    eS X f (qT fun i j=>.int (g i j)):=by
  intro pins s σ H x y v u Q I rx ry h;obtain ⟨i,j,rfl,rfl,q⟩:=h;obtain ⟨t,rfl⟩:=rx;obtain ⟨t',rfl⟩:=ry;exact rule i j t t' s _ _ ⟨.int (g i j),H,I.tok _,⟨_,rfl⟩,q⟩
theorem ub {f:Value->Value->Sem Value} {g:Int->Int->Bool}
    (rule:∀ (i j:Int) (t u:Tok) (s:Shared) (Q:Value->Shared->Prop) (E:Value->Shared->Prop),Q (.bool (g i j)) s->wpAny (model X.prog X.w) X.A (f (.int i t) (.int j u)) Q E s) :
    eS X f (qT fun i j=>.bl (g i j)):=by
  intro pins s σ H x y v u Q I rx ry h;obtain ⟨i,j,rfl,rfl,q⟩:=h;obtain ⟨t,rfl⟩:=rx;obtain ⟨t',rfl⟩:=ry;exact rule i j t t' s _ _ ⟨.bl (g i j),H,I,rfl,q⟩
noncomputable def va (i j:Int):Prop:=0 < j/\j < 1073741824
noncomputable def vb (i j:Int):Prop:=0<=j/\j<=1000000/\i.natAbs < 2 ^ 64
noncomputable def qV (i j:Int):Prop:=(-(2 ^ 64) < i/\i < 2 ^ 64)\/(-(2 ^ 64) < j/\j < 2 ^ 64)
theorem qV.ok {i j:Int} (h:qV i j):IntMulOk i j:=by
  rcases h with ⟨h1,h2⟩ | ⟨h1,h2⟩
  · exact .of_left (intBits_le_64 h1 h2)
  · exact .of_right (intBits_le_64 h1 h2)
theorem uc:eS X (binaryOp .Add) (qT fun i j=>.int (i+j)):=v8 fun _ _ _ _ _ _ _ q=>add_int q
theorem ui:eS X (binaryOp .Sub) (qT fun i j=>.int (i-j)):=v8 fun _ _ _ _ _ _ _ q=>sub_int q
theorem uf:eS X (binaryOp .Mult) (rI qV fun i j=>.int (i*j)):=xp fun _ _ _ _ _ _ _ hc q=>mul_int q hc.ok
theorem rX:eS X (binaryOp .FloorDiv) (rI va fun i j=>.int (i / j)):=xp fun i j _ _ _ _ _ hc q=>by
  have h1:(0:Int) < j:=hc.1;have h2:j < 1073741824:=hc.2;exact floordiv_int (by omega) (by rw [Int.fdiv_eq_ediv_of_nonneg i (by omega)];exact q) (.inl (PyProof.noPylong_small (by omega)))
theorem ue:eS X (binaryOp .Mod) (rI (fun _ j=>0 < j) fun i j=>.int (i%j)):=xp fun i j _ _ _ _ _ hc q=>by
  have h1:(0:Int) < j:=hc;exact mod_int' (by omega) (by rw [Int.fmod_eq_emod_of_nonneg i (by omega)];exact q)
theorem uh:eS X (binaryOp .Pow) (rI vb fun i j=>.int (i ^ j.toNat)):=xp fun _ _ _ _ _ _ _ hc q=>pow_int_small hc.1 hc.2.1 hc.2.2 q
theorem zl {f:Value->Sem Value} {g:Int->Int}
    (rule:∀ (i:Int) (t:Tok) (s:Shared) (Q:Value->Shared->Prop) (E:Value->Shared->Prop),Q (.int (g i) s.toks) { s with toks:=s.toks+1 }->wpAny (model X.prog X.w) X.A (f (.int i t)) Q E s) :
    xG X f (rU fun i=>.int (g i)):=by
  intro pins s σ H x v Q I rx h;obtain ⟨i,rfl,q⟩:=h;obtain ⟨t,rfl⟩:=rx;exact rule i t s _ _ ⟨.int (g i),H,I.tok _,⟨_,rfl⟩,q⟩
theorem uX:xG X (unaryOp .USub) (rU fun i=>.int (-i)):=zl fun _ _ _ _ _ q=>neg_int q
end
section
variable {X:Cx} {a b c:Expr} {ta tb tc:TE} {pos:Pos}
theorem pH {pins:List (Addr×Obj)} {σ:St} {H:Hp} {s:Shared} {Q:VK} {k k':Bool} (I:ap X pins σ H s) (q:Q (.bl k) H) (e:k=k'):EP X pins σ Q (.bool k') s:=by
  subst e;exact ⟨.bl k,H,I,rfl,q⟩
theorem wa:eS X (compareOp .Lt) (qT fun i j=>.bl (decide (i < j))):=ub fun _ _ _ _ _ _ _ q=>lt_int q
theorem qi:eS X (compareOp .LtE) (qT fun i j=>.bl (decide (i<=j))):=ub fun _ _ _ _ _ _ _ q=>le_int q
theorem v9:eS X (compareOp .Gt) (qT fun i j=>.bl (decide (j < i))):=ub fun _ _ _ _ _ _ _ q=>gt_int q
theorem ud:eS X (compareOp .Is) (fun x y H Q=>y=.non/\Q (.bl (decide (x=.non))) H):=by
  intro pins s σ H x y v u Q I rx ry h;obtain ⟨rfl,q⟩:=h;cases ry;refine is_none_gen (pH I q ?_);cases x <;> first
    | (cases rx;rfl)
    | (obtain ⟨t,rfl⟩:=rx;rfl)
theorem rY:eS X (compareOp .IsNot) (fun x y H Q=>y=.non/\Q (.bl (!decide (x=.non))) H):=by
  intro pins s σ H x y v u Q I rx ry h;obtain ⟨rfl,q⟩:=h;cases ry;refine isnot_none_gen (pH I q ?_);cases x <;> first
    | (cases rx;rfl)
    | (obtain ⟨t,rfl⟩:=rx;rfl)
theorem eS.or {f:Value->Value->Sem Value} {r r':R2} (h:eS X f r) (h':eS X f r'):eS X f (fun x y H Q=>r x y H Q\/r' x y H Q):=by
  intro pins s σ H x y v u Q I rx ry q;rcases q with q | q
  · exact h pins s σ H x y v u Q I rx ry q
  · exact h' pins s σ H x y v u Q I rx ry q
theorem eY (b:Expr) {op:CmpOp} (h:op≠.In:=by decide) (h2:op≠.NotIn:=by decide):behindInMarks op b=false:=by
  have e1:(op==CmpOp.In)=false:=by cases op <;> first | rfl | exact absurd rfl h
  have e2:(op==CmpOp.NotIn)=false:=by cases op <;> first | rfl | exact absurd rfl h2
  cases b <;> simp [behindInMarks,e1,e2]
theorem sg {op:CmpOp} {r:R2} (ho:eS X (compareOp op) r) (ha:PE X a ta) (hb:PE X b tb) (hm:behindInMarks op b=false):PE X (.Compare a [op] [b] pos) (wK r ta tb):=by
  intro pins s σ H Q I h;exact wpAny_Compare1 (tK ha hb I h fun v u s2 x y H2 I2 rx ry q=>ho pins s2 σ H2 x y v u Q I2 rx ry q) hm
noncomputable def tj (t:TE):TT:=fun σ H Q=>t σ H fun x H'=>∃ k,x=.bl k/\Q k H'
theorem ss {op:CmpOp} {r:R2} (ho:eS X (compareOp op) r) (ha:PE X a ta) (hb:PE X b tb) (hm:behindInMarks op b=false):PT X (.Compare a [op] [b] pos) (tj (wK r ta tb)):=by
  intro pins s σ H Q I h;refine wpAny_isTrue_Compare1 (bX (ha pins s σ H _ I h) fun v s1 ⟨x,H1,I1,r1,q1⟩=>bX (hb pins s1 σ H1 _ I1 q1) fun u s2 ⟨y,H2,I2,r2,q2⟩ =>
    bX (ho pins s2 σ H2 x y v u _ I2 r1 r2 q2) fun c s3 ⟨z,H3,I3,r3,k,e,q3⟩=>?_) hm
  subst e;cases r3;exact wpAny_truthy_bool ⟨H3,I3,q3⟩
noncomputable def qI (r r':R2) (ta tb tc:TE):TE:=fun σ H Q=>ta σ H fun x H1=>tb σ H1 fun y H2=>r x y H2 fun z H3=>∃ k,z=.bl k /\
  (if k=true then tc σ H3 fun w' H4=>r' y w' H4 Q else Q (.bl false) H3)
theorem qt {op op':CmpOp} {r r':R2} (ho:eS X (compareOp op) r) (ho':eS X (compareOp op') r') (ha:PE X a ta) (hb:PE X b tb) (hc:PE X c tc)
    (hm:lastMarks [op,op'] [b,c]=false:=by with_unfolding_all rfl):PT X (.Compare a [op,op'] [b,c] pos) (tj (qI r r' ta tb tc)):=by
  intro pins s σ H Q I h;refine isTrue_chain (bX (ha pins s σ H _ I h) fun v s1 ⟨x,H1,I1,r1,q1⟩=>test_link (bX (hb pins s1 σ H1 _ I1 q1) fun u s2 ⟨y,H2,I2,r2,q2⟩ =>
    bX (ho pins s2 σ H2 x y v u _ I2 r1 r2 q2) fun d s3 ⟨z,H3,I3,r3,k,e,q3⟩=>?_)) hm
  subst e;cases r3;refine wpAny_truthy_bool ?_;cases k with
  | false =>
    obtain ⟨k',e',q'⟩:=q3;cases e';exact ite_ff ⟨H3,I3,q'⟩
  | true =>
    refine ite_tt (test_last (bX (hc pins s3 σ H3 _ I3 q3) fun w' s4 ⟨z',H4,I4,r4,q4⟩=>bX (ho' pins s4 σ H4 y z' u w' _ I4 r2 r4 q4) fun d' s5 zq0=>?_));obtain ⟨z2,H5,I5,r5,k2,e2,q5⟩:=zq0;subst e2;cases r5;exact wpAny_truthy_bool ⟨H5,I5,q5⟩
theorem gF:(sizeLine:Nat) < 2 ^ 63:=by rw [sizeLine_eq];decide
theorem dE {x:V} {us:List Value} (r:aF [x] us):∃ u,us=[u]/\aJ x u:=by
  cases r with
  | cons r1 r2=>cases r2;exact ⟨_,rfl,r1⟩
theorem qM {x y:V} {us:List Value} (r:aF [x,y] us):∃ u w',us=[u,w']/\aJ x u/\aJ y w':=by
  cases r with
  | cons r1 r2 =>
    cases r2 with
    | cons r3 r4=>cases r4;exact ⟨_,_,rfl,r1,r3⟩
theorem nH (hc:X.calm=true):bR X (.builtin "max") (fun xs H Q=>∃ i j,xs=[.int i,.int j]/\Q (.int (if j > i then j else i)) H):=by
  intro pins s σ H xs us Q I r h;obtain ⟨i,j,rfl,q⟩:=h;obtain ⟨u,w',rfl,⟨t,rfl⟩,⟨t',rfl⟩⟩:=qM r;refine max_two_ints (I.ok.hd hc) fun h' tk k=>⟨_,H,I.kept k,?_,q⟩
  by_cases hj:j > i
  · rw [if_pos hj,if_pos hj];exact ⟨_,rfl⟩
  · rw [if_neg hj,if_neg hj];exact ⟨_,rfl⟩
theorem nJ (hc:X.calm=true):bR X (.builtin "min") (fun xs H Q=>∃ i j,xs=[.int i,.int j]/\Q (.int (if j < i then j else i)) H):=by
  intro pins s σ H xs us Q I r h;obtain ⟨i,j,rfl,q⟩:=h;obtain ⟨u,w',rfl,⟨t,rfl⟩,⟨t',rfl⟩⟩:=qM r;refine min_two_ints (I.ok.hd hc) fun h' tk k=>⟨_,H,I.kept k,?_,q⟩
  by_cases hj:j < i
  · rw [if_pos hj,if_pos hj];exact ⟨_,rfl⟩
  · rw [if_neg hj,if_neg hj];exact ⟨_,rfl⟩
theorem nE:bR X (.type "int") (fun xs H Q=>(∃ i,xs=[.int i]/\Q (.int i) H)\/∃ k,xs=[.bl k]/\Q (.int (if k then 1 else 0)) H):=by
  intro pins s σ H xs us Q I r h;rcases h with ⟨i,rfl,q⟩ | ⟨k,rfl,q⟩
  · obtain ⟨u,rfl,t,rfl⟩:=dE r;exact call_int_int ⟨.int i,H,I,⟨_,rfl⟩,q⟩
  · obtain ⟨u,rfl,r1⟩:=dE r;cases r1;exact call_int_bool ⟨.int (if k then 1 else 0),H,I.tok _,⟨_,rfl⟩,q⟩
end
structure tz (h:Heap) (x dx C:Addr) (mA:Str->Option Value):Prop where
  obj:h.get? x=some (PySem.W.instObj C dx)
  ns:h.Ns1 dx mA
  ne:dx≠x
theorem n9 {h:Heap} {dx:Addr} {mA:Str->Option Value} (n:h.Ns1 dx mA):∃ od,h.get? dx=some od/\∀ name,PySem.W.lookIn name od=some (mA name):=by
  obtain ⟨o,es,ep,ho,hd,hk,_,hm⟩:=n;refine ⟨o,ho,fun name=>?_⟩;have e:=hm name;unfold nsFind findBy at e;rw [<- Array.find?_toList] at e;unfold PySem.W.lookIn;rw [hd];dsimp only;split
  · rename_i y q;rw [q] at e;exact congrArg some e
  · rename_i q;rw [q] at e;have a:es.toList.any (·.refKey)=false:=by
      rw [List.any_eq_false];intro y hy;obtain ⟨z,t,hkey⟩:=hk y (Array.mem_toList_iff.mp hy);simp [DictEntry.refKey,hkey]
    have a':¬ es.toList.any (·.refKey)=true:=by rw [a];exact Bool.false_ne_true
    rw [if_neg a'];exact congrArg some e
theorem tz.look {h:Heap} {x dx C:Addr} {mA:Str->Option Value} (I:tz h x dx C mA):∃ od,PySem.W.InstAt h x (PySem.W.instObj C dx) C (some od)/\∀ name,PySem.W.lookIn name od=some (mA name) :=
  let ⟨od,ho,hl⟩:=n9 I.ns
  ⟨od,⟨I.obj,rfl,rfl,ho⟩,hl⟩
theorem gt.some_of {v:V} {o:Option Value} (r:gt (some v) o):∃ u,o=some u/\aJ v u:=by
  cases o with
  | none=>exact (show False from r).elim
  | some u=>exact ⟨u,rfl,r⟩
section
variable {P:Program} {w:World} {H H':Hp} {h h':Heap} {a C dx:Addr} {fs fs':List (Str×V)}
theorem rJ (hok:dk P w H h) (e:H a=some (.ins C dx fs)):∃ mA,tz h a dx C mA/\(∀ f,gt (fs.lookup f) (mA f))/\PySem.Within mA (fs.map (·.1))/\fs.length<=1000/\H dx=some (.own a):=by
  obtain ⟨d,z,ne,ob,mA,n,r,q⟩:=(show aQ P w H h a (.ins C dx fs) from hok a _ e)
  exact ⟨mA,⟨ob,n,ne⟩,r,q,z,d⟩
end
structure xB (K:PySem.W.Frag) (C:Addr):Prop where
  pg:PySem.W.plainGet K C Str.empty=true
  hd:PySem.W.hasDictIn K C=true
  po:PySem.W.plainOver K C=true
  sa:PySem.W.findIn K (.ref C) "__setattr__" = some (some (.builtin "object.__setattr__"))
theorem xB.get {K:PySem.W.Frag} {C:Addr} (c:xB K C) (f:Str):PySem.W.plainGet K C f=true:=c.pg
section
variable {X:Cx} {pins:List (Addr×Obj)} {σ:St} {H:Hp} {s:Shared} {A:Around} {E:Value->Shared->Prop} {Q:Value->Shared->Prop} {c:Value} {b:Bool}
inductive fX (K:PySem.W.Frag) (H:Hp):V->Value->Prop where
  | non:fX K H .non (.type "NoneType")
  | bl (x:Bool):fX K H (.bl x) (.type "bool")
  | int (i:Int):fX K H (.int i) (.type "int")
  | str (x:Str):fX K H (.str x) (.type "str")
  | flt (x:UInt64):fX K H (.flt x) (.type "float")
  | lst {a:Addr} {xs:List V} (e:H a=some (.lst xs)):fX K H (.ref a) (.type "list")
  | frz {a:Addr} {o:Obj} {xs:List V} (e:H a=some (.frz o (.lst xs))):fX K H (.ref a) (.type "list")
  | tup {a:Addr} {xs:List V} (e:H a=some (.tup xs)):fX K H (.ref a) (.type "tuple")
  | dK {a:Addr} {kvs:List (bu×V)} (e:H a=some (.dK kvs)):fX K H (.ref a) (.type "dict")
  | dT {a:Addr} {kvs:List (List bu×V)} (e:H a=some (.dT kvs)):fX K H (.ref a) (.type "dict")
  | ins {a C dx:Addr} {fs:List (Str×V)} (e:H a=some (.ins C dx fs)) (cl:xB K C) (ha:PySem.W.findIn K (.ref C) "__class__" = some (some (.builtin "object.__class__")))
      (hn:PySem.W.specialIn K (.builtin "object.__class__") "__get__" = some (some (.builtin "getset_descriptor.__get__"))) (htk:PySem.W.takesIn K (.builtin "object.__class__")=some true)
      (hm:PySem.W.mroIn K C (.type "object")=some true):fX K H (.ref a) (.ref C)
theorem nY {x:V} {u t:Value} (I:ap X pins σ H s) (rx:aJ x u) (ty:fX X.K H x t) (e:PySem.W.kitOne X.K t c=some b) (h:∀ tk,Q (.bool b) { s with toks:=tk }) :
    wpAny (model X.prog X.w) A (call (.builtin "isinstance") [u,c]) Q E s:=by
  cases ty with
  | non=>cases (show u=Value.none from rx);exact PySem.W.kia_one PySem.W.kitx_none I.kIn True.intro e (fun z=>nomatch z) h
  | bl y=>cases (show u=Value.bool y from rx);exact PySem.W.kia_one PySem.W.kitx_bool I.kIn True.intro e (fun z=>nomatch z) h
  | int i=>obtain ⟨t,q⟩:=(show ∃ t,u=Value.int i t from rx);cases q;exact PySem.W.kia_one PySem.W.kitx_int I.kIn True.intro e (fun z=>nomatch z) h
  | str y=>obtain ⟨t,q⟩:=(show ∃ t,u=Value.str y t from rx);cases q;exact PySem.W.kia_one PySem.W.kitx_str I.kIn True.intro e (fun z=>nomatch z) h
  | flt y=>obtain ⟨t,q⟩:=(show ∃ t,u=Value.float y t from rx);cases q;exact PySem.W.kia_one PySem.W.kitx_float I.kIn True.intro e (fun z=>nomatch z) h
  | @lst a xs ea =>
    cases (show u=Value.ref a from rx);obtain ⟨_,_,n,_,h1⟩:=(show aQ X.prog X.w H s.heap a (.lst xs) from I.hok a _ ea)
    exact PySem.W.kia_one PySem.W.kitx_list I.kIn ⟨_,h1,rfl⟩ e (fun z=>nomatch z) h
  | @frz a ob xs ea =>
    cases (show u=Value.ref a from rx);obtain ⟨_,_,_,n,_,h1⟩:=(show aQ X.prog X.w H s.heap a (.frz ob (.lst xs)) from I.hok a _ ea)
    exact PySem.W.kia_one PySem.W.kitx_list I.kIn ⟨_,h1,rfl⟩ e (fun z=>nomatch z) h
  | @tup a xs ea =>
    cases (show u=Value.ref a from rx);obtain ⟨_,_,_,p⟩:=(show aQ X.prog X.w H s.heap a (.tup xs) from I.hok a _ ea)
    obtain ⟨o,h1,h2,_⟩:=p;exact PySem.W.kia_one PySem.W.kitx_tuple I.kIn ⟨o,h1,h2⟩ e (fun z=>nomatch z) h
  | @dK a kvs ea =>
    cases (show u=Value.ref a from rx);obtain ⟨_,_,vs,_,p⟩:=(show aQ X.prog X.w H s.heap a (.dK kvs) from I.hok a _ ea)
    obtain ⟨o,es,ep,h1,h2,_⟩:=p;exact PySem.W.kia_one PySem.W.kitx_dict I.kIn ⟨o,h1,h2.1⟩ e (fun z=>nomatch z) h
  | @dT a kvs ea =>
    cases (show u=Value.ref a from rx);obtain ⟨_,_,xs,_,o,es,ep,h1,h2,_⟩:=(show aQ X.prog X.w H s.heap a (.dT kvs) from I.hok a _ ea)
    exact PySem.W.kia_one PySem.W.kitx_dict I.kIn ⟨o,h1,h2.1⟩ e (fun z=>nomatch z) h
  | @ins a C dx fs ea cl ha hn htk hm =>
    cases (show u=Value.ref a from rx);obtain ⟨mA,O,_⟩:=rJ I.hok ea;obtain ⟨od,J,_⟩:=O.look;exact PySem.W.kia_one (PySem.W.kitx_own (cl.get _) cl.hd ha hn htk hm) I.kIn J e (fun z=>nomatch z) h
end
structure cH (k:Nat) (A:Around):Prop where
  hd:A.handled=none
  dp:A.depth+3*k+5 < recursionLimit
  un:A.units+16*k+200 < cLine
theorem cH.mono {j k:Nat} {A:Around} (r:cH k A) (h:j<=k):cH j A:=⟨r.hd,by have:=r.dp;omega,by have:=r.un;omega⟩
theorem cH.deeper {k:Nat} {A:Around} (r:cH (k+1) A) (env:Env):cH k (A.deeper env) :=
  ⟨r.hd,by have:=r.dp;show A.depth+1+3*k+5 < _;omega,by have:=r.un;show A.units+3+16*k+200 < _;omega⟩
theorem cH.depth {k:Nat} {A:Around} (r:cH k A):A.depth < recursionLimit:=by have:=r.dp;omega
theorem cH.units {k:Nat} {A:Around} (r:cH k A):A.units+64 < cLine:=by have:=r.un;omega
noncomputable def yA:TA:=fun _ H Q=>Q [] H
noncomputable def wH (ta:TE) (tr:TA):TA:=fun σ H Q=>ta σ H fun x H1=>tr σ H1 fun xs H2=>Q (x::xs) H2
section
variable {X:Cx} {e:Expr} {es:List Expr} {te:TE} {t:TA} {pos:Pos}
theorem qj:PA X [] yA:=fun _ _ _ _ H Q I h=>Calls.spliced_nil ⟨[],H,I,.nil,h⟩
theorem j0 (ha:PE X e te) (hr:PA X es t) (hs:starEach (e::es) X.env=(false,eval e X.env)::starEach es X.env:=by rfl):PA X (e::es) (wH te t):=by
  intro pos pins s σ H Q I h;rw [hs];show wpAny _ _ (spliced ((false,eval e X.env)::backTo pos (starEach es X.env))) _ _ s;refine Calls.spliced_cons (bX (ha pins s σ H _ I h) fun u s1 zq0=>?_);obtain ⟨x,H1,I1,r1,q1⟩:=zq0;exact bX (hr pos pins s1 σ H1 _ I1 q1) fun us s2 ⟨xs,H2,I2,r2,q2⟩=>⟨x::xs,H2,I2,.cons r1 r2,q2⟩
noncomputable def yE (t:TA):TE:=fun σ H Q=>t σ H fun xs H1=>xs.length<=sizeLine/\∀ p,H1 p=none->Q (.ref p) (bP H1 p (.tup xs))
noncomputable def yz (t:TA):TE:=fun σ H Q=>t σ H fun xs H1=>xs.length<=sizeLine/\∀ p,H1 p=none->Q (.ref p) (bP H1 p (.lst xs))
theorem uq {x1} (h:PA X es t):PE X (.Tuple es x1 pos) (yE t):=by
  intro pins s σ H Q I hq;refine wpAny_Tuple_spliced (bX (h pos pins s σ H _ I hq) fun us s1 ⟨xs,H1,I1,r,z,q⟩=>⟨by rw [<- r.length];exact z,?_⟩);have hf:H1 s1.heap.objs.size=none:=I1.hok.fresh (Nat.le_refl _);refine ⟨.ref s1.heap.objs.size,bP H1 s1.heap.objs.size (.tup xs),I1.laid (t':=s1.toks) (fun b u e=>Heap.get?_push_of_some _ e) (Nat.le_refl _) ?_,rfl,q _ hf⟩;exact ⟨z,us,r,⟨_,Heap.get?_push_size _ rfl,rfl,⟨_,rfl⟩,rfl⟩⟩
theorem ul (h:PA X es t):PE X (.List es pos) (yz t):=by
  intro pins s σ H Q I hq;refine wpAny_List_spliced (bX (h pos pins s σ H _ I hq) fun us s1 ⟨xs,H1,I1,r,z,q⟩=>⟨by rw [<- r.length];exact z,?_⟩);have hf:H1 s1.heap.objs.size=none:=I1.hok.fresh (Nat.le_refl _);refine ⟨.ref s1.heap.objs.size,bP H1 s1.heap.objs.size (.lst xs),I1.laid (t':=s1.toks) (fun b u e=>Heap.get?_push_of_some _ e) (Nat.le_refl _) ?_,rfl,q _ hf⟩;exact ⟨z,us,0,r,Heap.get?_push_size _ rfl⟩
end
noncomputable abbrev Sp:=List V->Hp->VK->XK->Prop
noncomputable abbrev oK:=List Env->Hp->Shared->XK->Value->Shared->Prop
structure qW (P:Program) (w:World) (K:PySem.W.Frag) (mg:Str->Option Value) (base:Heap) (A:Around) (outer:List Env) (s:Shared) (H:Hp):Prop where
  frames:A.frames=some outer
  mod:Mod K mg base
  bs:∀ b o,base.get? b=some o->s.heap.get? b=some o/\H b=none
  bsz:base.objs.size<=s.heap.objs.size
  funs:s.heap.FunFrames base outer
  frf:∀ b∈gk outer,H b=none
  hok:dk P w H s.heap
  bare:AllBare s.gens
  tab:oX K H
noncomputable def CE (outer:List Env) (P:Program) (w:World) (H:Hp) (s:Shared) (Q:VK) (u:Value) (s':Shared):Prop :=
  ∃ v H',s'.os=s.os/\AllBare s'.gens/\Un (gk outer) [] H H' s.heap s'.heap/\dk P w H' s'.heap/\aJ v u/\Q v H'
noncomputable def CR (CX:oK) (outer:List Env) (P:Program) (w:World) (H:Hp) (s:Shared) (Q:VK) (E:XK) (r:Result) (s':Shared):Prop :=
  match r with
  | .ok (.ret u)=>CE outer P w H s Q u s'
  | .ok _=>False
  | .error e=>CX outer H s E e s'
structure bj (P:Program) (w:World) (K:PySem.W.Frag) (mg:Str->Option Value) (base:Heap) (CX:oK) (k:Nat) (f:Addr) (fd:FuncData) (ps:List Str) (sp:Sp):Prop where
  len:∀ vs H Q E,sp vs H Q E->vs.length=ps.length
  run:∀ (A:Around) (outer:List Env) (s:Shared) (H:Hp) (args:Args) (us:List Value) (vs:List V) (Q:VK) (E:XK),cH k A->qW P w K mg base A outer s H->BindsTo s fd args (ps.zip us)->aF vs us->sp vs H Q E ->
    codeAny (model P w) A (.call (.ref f) args) (CR CX outer P w H s Q E) s
theorem bj.mono {P:Program} {w:World} {K:PySem.W.Frag} {mg:Str->Option Value} {base:Heap} {CX:oK} {j k:Nat} {f:Addr} {fd:FuncData} {ps:List Str} {sp:Sp} (F:bj P w K mg base CX j f fd ps sp) (h:j<=k) :
    bj P w K mg base CX k f fd ps sp:=⟨F.len,fun A outer s H args us vs Q E hr=>F.run A outer s H args us vs Q E (hr.mono h)⟩
theorem bj.imp {P:Program} {w:World} {K:PySem.W.Frag} {mg:Str->Option Value} {base:Heap} {CX:oK} {k:Nat} {f:Addr} {fd:FuncData} {ps:List Str} {sp sp':Sp} (F:bj P w K mg base CX k f fd ps sp)
    (h:∀ vs H Q E,sp' vs H Q E->sp vs H Q E):bj P w K mg base CX k f fd ps sp' :=
  ⟨fun vs H Q E q=>F.len vs H Q E (h _ _ _ _ q),fun A outer s H args us vs Q E hr he hb hv hs=>F.run A outer s H args us vs Q E hr he hb hv (h _ _ _ _ hs)⟩
section
variable {X:Cx} {pins:List (Addr×Obj)} {σ:St} {H:Hp} {s s':Shared}
theorem ap.env0 (I:ap X pins σ H s):qW X.prog X.w X.K X.mg X.base X.A X.stack s H :=
  ⟨I.ok.frames,I.ok.mod,I.bs,Nat.le_trans I.ok.bsz I.sz,I.stack,I.stkFree,I.hok,I.bare,fun x hx c P e=>I.base.tbls _ _ (I.ok.tab x hx c P e)⟩
theorem ap.after {Q:VK} {u:Value} (I:ap X pins σ H s) (h:CE X.stack X.prog X.w H s Q u s'):EP X pins σ Q u s':=by
  obtain ⟨v,H',os,bare,un,hok,r,q⟩:=h;obtain ⟨hh,g,d,t,os'⟩:=s';obtain rfl:os'=s.os:=os;exact ⟨v,H',I.call (h':=hh) (g':=g) (d':=d) (t':=t) (ch:=[]) un hok bare (fun b z=>absurd z (by simp)),r,q⟩
end
noncomputable def wG (sp:Sp) (dvs:List V) (E:XK) (t:TA):TE:=fun σ H Q=>t σ H fun vs H1=>sp (vs++dvs) H1 Q E
noncomputable def bQ (K:PySem.W.Frag) (fd:FuncData) (ps:List Str) (ds:List Value):Prop :=
  ∀ (s:Shared) (us:List Value),K.In s.heap->(us++ds).length=ps.length->BindsTo s fd ⟨us,[]⟩ (ps.zip (us++ds))
theorem bQ.all {K:PySem.W.Frag} {fd:FuncData} {ps:List Str} (h:∀ us:List Value,us.length=ps.length->bindArgs fd ⟨us,[]⟩=pure (ps.zip us)):bQ K fd ps []:=fun s us _ hl=>by
  rw [List.append_nil] at hl ⊢;exact .of_eq (h us hl)
noncomputable def lM (CX:oK) (X:Cx) (E:XK):Prop:=∀ (pins:List (Addr×Obj)) (σ:St) (H:Hp) (s:Shared) (e:Value) (s':Shared),ap X pins σ H s->CX X.stack H s E e s'->X.xe e s'
section
variable {X:Cx} {CX:oK} {k:Nat} {f C:Addr} {fd:FuncData} {ps:List Str} {sp:Sp} {dvs:List V} {ds:List Value} {E:XK} {x m:Str} {p pos apos:Pos} {e o:Expr} {es:List Expr} {ta:TE} {t:TA}
theorem uD {pins:List (Addr×Obj)} {σ:St} {H:Hp} {s:Shared} {Q:VK} {us:List Value} {vs:List V} (F:bj X.prog X.w X.K X.mg X.base CX k f fd ps sp) (hr:cH k X.A) (hb:bQ X.K fd ps ds) (hd:aF dvs ds) (hx:lM CX X E)
    (I:ap X pins σ H s) (r:aF vs us) (h:sp (vs++dvs) H Q E):wpAny (model X.prog X.w) X.A (call (.ref f) us) (EP X pins σ Q) X.xe s:=by
  have r2:aF (vs++dvs) (us++ds):=r.append hd;have hl:(us++ds).length=ps.length:=by rw [<- r2.length];exact F.len _ _ _ _ h
  refine wpAny_call (codeAny_mono (F.run X.A X.stack s H ⟨us,[]⟩ (us++ds) (vs++dvs) Q E hr I.env0 (hb s us I.kIn hl) r2 h) fun r s' hq=>?_);cases r with
  | error e=>exact hx pins σ H s e s' I hq
  | ok fl =>
    cases fl with
    | ret u=>exact I.after hq
    | next=>exact False.elim hq
    | brk=>exact False.elim hq
    | cont=>exact False.elim hq
theorem sf (F:bj X.prog X.w X.K X.mg X.base CX k f fd ps sp) (hr:cH k X.A) (hg:Gl X x) (hm:X.mg x=some (.ref f)) (hk:PySem.W.keepIn X.K (.ref f)=true) (hb:bQ X.K fd ps ds) (hd:aF dvs ds) (hx:lM CX X E)
    (ha:PA X (e::es) t) (hdb:(x==("__debug__" : Str))=false:=by decide) (he:starEach (e::es) X.env=(false,eval e X.env)::starEach es X.env:=by rfl) (hpl:(backTo pos (starEach es X.env)).any (·.1)=false:=by rfl) :
    PE X (.Call (.Name x p) (e::es) [] pos) (wG sp dvs E t):=by
  intro pins s σ H Q I h;refine wpAny_Call_Name_kw (mW I hg hm ?_ hdb);refine PySem.W.callWith_K (h₀:=X.base) I.ok.mod.kin hk (bX (ha pos pins s σ H _ I h) fun us s1 ⟨vs,H1,I1,r,q⟩=>⟨I1.kIn,?_⟩) he hpl;exact uD F hr hb hd hx I1 r q
end
structure aO (N P:List Str) (sc:Scope):Prop where
  kind:sc.kind=.function
  co:sc.isCoroutine=false
  gen:sc.isGenerator=false
  nd:N.Nodup
  pre:N.take P.length=P
  par:∀ x∈P,sc.names.lookup x=some .local\/sc.names.lookup x=some .cell
  nofree:∀ y∈sc.names,y.2≠.free
theorem jh {kindOf:Str->Option NameKind} {x:Str}:∀ {binds:List (Str×Value)} {m:Str->Option Value},(∀ v,(x,v)∉binds)->bindL kindOf binds m x=m x
  | [],_,_=>rfl
  | (n,v)::r,m,h=>by
    unfold bindL;rw [jh fun w hw=>h w (List.mem_cons_of_mem _ hw)];split
    · have:x≠n:=by rintro rfl;exact h v List.mem_cons_self
      simp [this]
    · rfl
theorem jf {kindOf:Str->Option NameKind} {x:Str}:∀ {binds:List (Str×Value)} {m:Str->Option Value},(∀ v,(x,v)∉binds)->bindC kindOf binds m x=m x
  | [],_,_=>rfl
  | (n,v)::r,m,h=>by
    unfold bindC;rw [jf fun w hw=>h w (List.mem_cons_of_mem _ hw)];split
    · rfl
    · have:x≠n:=by rintro rfl;exact h v List.mem_cons_self
      simp [this]
theorem jg {kindOf:Str->Option NameKind} {x:Str} {v:Value}:∀ {P:List Str} {vs:List Value} {i:Nat} {m:Str->Option Value},P.Nodup->P[i]?=some x->vs[i]?=some v->kindOf x=some .local ->
    bindL kindOf (P.zip vs) m x=some v
  | [],_,_,_,_,h,_,_=>by simp at h
  | _::_,[],_,_,_,_,h,_=>by simp at h
  | p::P,w::vs,0,m,nd,h1,h2,hk=>by
    simp at h1 h2;subst h1;subst h2;show bindL kindOf ((p,w)::P.zip vs) m p=_;unfold bindL;rw [jh fun v hv=>(List.nodup_cons.mp nd).1 (List.of_mem_zip hv).1,if_pos hk];simp
  | p::P,w::vs,i+1,m,nd,h1,h2,hk=>by
    show bindL kindOf ((p,w)::P.zip vs) m x=_;unfold bindL;exact jg (i:=i) (List.nodup_cons.mp nd).2 (by simpa using h1) (by simpa using h2) hk
theorem je {kindOf:Str->Option NameKind} {x:Str} {v:Value}:∀ {P:List Str} {vs:List Value} {i:Nat} {m:Str->Option Value},P.Nodup->P[i]?=some x->vs[i]?=some v->kindOf x≠some .local ->
    bindC kindOf (P.zip vs) m x=some v
  | [],_,_,_,_,h,_,_=>by simp at h
  | _::_,[],_,_,_,_,h,_=>by simp at h
  | p::P,w::vs,0,m,nd,h1,h2,hk=>by
    simp at h1 h2;subst h1;subst h2;show bindC kindOf ((p,w)::P.zip vs) m p=_;unfold bindC;rw [jf fun v hv=>(List.nodup_cons.mp nd).1 (List.of_mem_zip hv).1,if_neg hk];simp
  | p::P,w::vs,i+1,m,nd,h1,h2,hk=>by
    show bindC kindOf ((p,w)::P.zip vs) m x=_;unfold bindC;exact je (i:=i) (List.nodup_cons.mp nd).2 (by simpa using h1) (by simpa using h2) hk
noncomputable def eG (N:List Str) (vs:List V):St:=vs.map some++List.replicate (N.length-vs.length) none
noncomputable def ci (CX:oK) (P:Program) (w:World) (K:PySem.W.Frag) (mg:Str->Option Value) (base:Heap) (N:List Str) (qual:Str) (scope:Scope) (f:Addr) (cd:Value) (A:Around) (outer:List Env) (s:Shared) (H:Hp) (E:XK):Cx where
  prog:=P
  w:=w
  K:=K
  mg:=mg
  base:=base
  A:=A.deeper (envOfC qual scope s.heap.objs.size f cd)
  N:=N
  s₀:=s
  H₀:=H
  env:=envOfC qual scope s.heap.objs.size f cd
  outer:=outer
  stack:=envOfC qual scope s.heap.objs.size f cd::outer
  ex:=[]
  calm:=true
  fn:=fun _=>true
  pn:=[]
  xe:=fun e s'=>wpAny (model P w) (A.deeper (envOfC qual scope s.heap.objs.size f cd)) (leaving (envOfC qual scope s.heap.objs.size f cd) e) (fun _ s''=>CX outer H s E e s'') (fun e' s''=>CX outer H s E e' s'') s'
theorem kN {sc:Scope} {n:Nat} {x:Str} (h:sc.names.lookup x=some .cell):∃ c,(cellsFrom n sc.names []).lookup x=some c:=by
  have q:=PySem.W.cellsFrom_some sc.names n [] (.inl h);exact Option.isSome_iff_exists.mp q
theorem nX {CX:oK} {P:Program} {w:World} {K:PySem.W.Frag} {mg:Str->Option Value} {base:Heap} {N ps:List Str} {qual:Str} {scope:Scope} {f:Addr} {cd:Value} {A:Around} {outer:List Env} {s s1:Shared} {H:Hp} {E:XK} {us:List Value} {vs:List V}
    (S:aO N ps scope) (hd:A.handled=none) (e0:qW P w K mg base A outer s H) (hl:vs.length=ps.length) (r:aF vs us)
    (x:InCallC s s.heap.objs.size (bindL (envOfC qual scope s.heap.objs.size f cd).kindOf (ps.zip us) fun _=>none) (cellsFrom (s.heap.objs.size+1) scope.names []) (bindC (envOfC qual scope s.heap.objs.size f cd).kindOf (ps.zip us) fun _=>none) s1) :
    ap (ci CX P w K mg base N qual scope f cd A outer s H E) [] (eG N vs) H s1:=by
  have hpl:ps.length<=N.length:=by have:=congrArg List.length S.pre;rw [List.length_take] at this;omega
  obtain ⟨h1,tk,rfl,hk⟩:=x.done;have noA:∀ b:Addr,b∉(ci CX P w K mg base N qual scope f cd A outer s H E).ex:=fun b z=>absurd (show b∈([]:List Addr) from z) (by simp)
  refine ⟨⟨e0.mod,S.kind,rfl,rfl,Nat.le_refl _,fun y z c h1 h2=>?_,fun y hy=>?_,fun y c _ h=>?_,fun _=>hd,Around.frames_deeper e0.frames,.inr ⟨rfl,rfl⟩,fun b z=>absurd z (noA b),e0.bs,e0.bsz,fun b _ _=>noA b,fun b z=>absurd z (noA b),e0.funs,e0.frf,e0.tab⟩,
    rfl,e0.bare,Un.kept hk,⟨_,x.toInCall.ns,fun i y v h1 h2 h3=>?_⟩,fun y c h=>⟨_,x.cell y c h⟩,e0.hok.fresh (Nat.le_refl _),fun y c h=>?_,fun p hp=>absurd (show p∈([]:List (Addr×Obj)) from hp) (by simp),e0.hok.kept hk,?_⟩
  · exact name_of_addr x.apart (PySem.mem_of_lookup h1) (PySem.mem_of_lookup h2)
  · have hy:scope.names.lookup y=some .cell\/scope.names.lookup y=some .free:=hy;rcases hy with hy | hy
    · exact kN hy
    · exact absurd rfl (S.nofree _ (PySem.mem_of_lookup hy))
  · exact Nat.le_of_lt (x.above y c (PySem.mem_of_lookup h))
  · have hi:i < vs.length:=by
      unfold eG at h2;by_cases hi:i < vs.length
      · exact hi
      · rw [List.getElem?_append_right (by simpa using hi)] at h2;rw [List.getElem?_replicate] at h2;split at h2 <;> cases h2
    have ha:vs[i]?=some v:=by
      unfold eG at h2;rw [List.getElem?_append_left (by simpa using hi),List.getElem?_map] at h2;cases e:vs[i]? with
      | none=>rw [e] at h2;cases h2
      | some a=>rw [e] at h2;cases h2;rfl
    obtain ⟨u,hu,rv⟩:=r.get ha;have hp:ps[i]?=some y:=by
      rw [<- S.pre,List.getElem?_take_of_lt (by omega)];exact h1
    have ndP:ps.Nodup:=by rw [<- S.pre];exact S.nd.sublist (List.take_sublist _ _)
    refine ⟨u,rv,?_⟩;rcases S.par y (List.mem_of_getElem? hp) with k | k
    · exact .inl ⟨k,jg ndP hp hu k⟩
    · obtain ⟨c,e⟩:=kN (n:=s.heap.objs.size+1) k;refine .inr ⟨.inl k,c,e,?_⟩;have q:=x.cell y c e;rw [je ndP hp hu (by show scope.names.lookup y≠_;rw [k];decide)] at q;exact q
  · exact e0.hok.fresh (Nat.le_of_lt (x.above y c (PySem.mem_of_lookup h)))
  · unfold eG;show _=N.length;rw [List.length_append,List.length_map,List.length_replicate];omega
theorem pJ {CX:oK} {P:Program} {w:World} {K:PySem.W.Frag} {mg:Str->Option Value} {base:Heap} {k:Nat} {f:Addr} {name qual:Str} {params:Arguments} {body:List Stmt} {scope:Scope} {dV kV doc pm cdv ct oc:Value} {an od:Option Addr}
    {osl:Array (Option Value)} {N ps:List Str} {sp:Sp} (lk:K.lookup f=some ⟨oc,od,.func (PySem.W.fnOf name qual params body scope dV kV doc pm an cdv ct),osl⟩) (hcd:PySem.W.codeIn K cdv qual=true) (S:aO N ps scope)
    (len:∀ vs H Q E,sp vs H Q E->vs.length=ps.length)
    (hbody:∀ (A:Around) (outer:List Env) (s:Shared) (H:Hp) (vs:List V) (Q:VK) (E:XK),cH k (A.deeper (envOfC qual scope s.heap.objs.size f cdv))->sp vs H Q E ->
      ∃ t,jE (ci CX P w K mg base N qual scope f cdv A outer s H E) body t/\t { nx:=fun _ H'=>Q .non H',rt:=Q } (eG N vs) H) :
    bj P w K mg base CX (k+1) f (PySem.W.fnOf name qual params body scope dV kV doc pm an cdv ct) ps sp:=by
  refine ⟨len,fun A outer s H args us vs Q E hr e0 hb r hsp=>?_⟩;have hl:=len _ _ _ _ hsp;have KX:K.In s.heap:=e0.mod.kin.keeps fun b o e=>(e0.bs b o e).1
  have lim:s.heap.NoLimit:=e0.mod.nolimit.keeps fun b o e=>(e0.bs b o e).1
  have hkind:∀ y∈ps.zip us,scope.names.lookup y.1=some .local\/(scope.names.lookup y.1=some .cell/\((cellsFrom (s.heap.objs.size+1) scope.names []).lookup y.1).isSome=true):=fun ⟨n,v⟩ hy=>by
    rcases S.par n (List.of_mem_zip hy).1 with q | q
    · exact .inl q
    · exact .inr ⟨q,PySem.W.cellsFrom_some _ _ _ (.inl q)⟩
  refine codeAny_call_function hr.depth (KX _ _ lk) rfl S.co S.gen rfl (PySem.W.codeRec_of KX hcd) (hb _ _ _ _ ?_);refine wpAny_newFunctionEnv_cells S.kind hkind fun env he s1 x=>?_
  subst he;refine ⟨lim.keeps x.toInCall.keep,codeAny_func ?_⟩;obtain ⟨t,ht,hq⟩:=hbody A outer s H vs Q E (hr.deeper _) hsp;have I:ap (ci CX P w K mg base N qual scope f cdv A outer s H E) [] (eG N vs) H s1:=nX S hr.hd e0 hl r x;refine wpAny_mono (ht [] s1 (eG N vs) H _ I hq) (fun fl s' hs=>?_) fun e s' hs=>hs
  have fin:∀ {σ':St} {H':Hp} {v:V} {u:Value},ap (ci CX P w K mg base N qual scope f cdv A outer s H E) [] σ' H' s'->aJ v u->Q v H'->CE outer P w H s Q u s' :=
    fun {σ' H' v u} J rv q=>⟨v,H',J.os,J.bare,J.base,J.hok,rv,q⟩
  cases fl with
  | ret u =>
    obtain ⟨v,σ',H',J,rv,q⟩:=hs;exact fin J rv q
  | next =>
    obtain ⟨σ',H',J,q⟩:=hs;exact fin (v:=V.non) (u:=Value.none) J rfl q
  | brk =>
    obtain ⟨_,_,_,q⟩:=hs;exact False.elim q
  | cont =>
    obtain ⟨_,_,_,q⟩:=hs;exact False.elim q
section
variable {X:Cx} {x:Str} {p pos:Pos} {e:Expr} {es:List Expr} {t:TA} {id T:String} {r:List V->Hp->VK->Prop}
noncomputable def yw (r:List V->Hp->VK->Prop) (t:TA):TE:=fun σ H Q=>t σ H fun vs H1=>r vs H1 Q
theorem iE (hc:bR X (.builtin id) r) (hg:Gl X x) (hm:X.mg x=none) (hv:bootBuiltins x=some (.builtin id)) (ha:PA X (e::es) t) (hn:x ≠ "__name__" := by decide) (hdb:(x==("__debug__" : Str))=false:=by decide)
    (he:starEach (e::es) X.env=(false,eval e X.env)::starEach es X.env:=by rfl) (hpl:(backTo pos (starEach es X.env)).any (·.1)=false:=by rfl):PE X (.Call (.Name x p) (e::es) [] pos) (yw r t):=by
  intro pins s σ H Q I h;refine wpAny_Call_Name_kw (gE I hg hm hv ?_ hn hdb);exact PyProof.Rows.callWith_builtin1 (bX (ha pos pins s σ H _ I h) fun us s1 ⟨vs,H1,I1,r1,q1⟩=>hc pins s1 σ H1 vs us Q I1 r1 q1) he hpl
theorem ov (hc:bR X (.type T) r) (hg:Gl X x) (hm:X.mg x=none) (hv:bootBuiltins x=some (.type T)) (ha:PA X (e::es) t) (hn:x ≠ "__name__" := by decide) (hdb:(x==("__debug__" : Str))=false:=by decide)
    (he:starEach (e::es) X.env=(false,eval e X.env)::starEach es X.env:=by rfl) (hpl:(backTo pos (starEach es X.env)).any (·.1)=false:=by rfl):PE X (.Call (.Name x p) (e::es) [] pos) (yw r t):=by
  intro pins s σ H Q I h;refine wpAny_Call_Name_kw (gE I hg hm hv ?_ hn hdb);exact PyProof.Rows.callWith_type1 (bX (ha pos pins s σ H _ I h) fun us s1 ⟨vs,H1,I1,r1,q1⟩=>hc pins s1 σ H1 vs us Q I1 r1 q1) he hpl
end
end L2
namespace HT
open PySem PyProof.Rows
section
open PySem.SeqAt
open PySem.AutoSeq1 (wpAny_loadPart')
open PySem.MeetsSeq PySem.MeetsSeq2 PySem.MeetsSeq3
end
section
variable {prog:Program} {w:World} {A:Around} {E:Value->Shared->Prop} {s:Shared}
theorem cat_tup {t b:Addr} {vs ws:List Value} {Q:Value->Shared->Prop} (ht:IsTup s.heap t vs.toArray) (hb:IsTup s.heap b ws.toArray) (hv:vs≠[])
    (h1:ws=[]->Q (.ref t) s) (h2:ws≠[]->Q (.ref s.heap.objs.size) { s with heap:=s.heap.push { cls:=.type "tuple",data:=.seq (vs++ws).toArray } })
    (hsz:vs.length+ws.length<=sizeLine):wpAny (model prog w) A (binaryOp .Add (.ref t) (.ref b)) Q E s:=by
  obtain ⟨⟨cls,dd,data,sl⟩,ho,hc,n,hd⟩:=id ht;obtain ⟨⟨cls2,dd2,data2,sl2⟩,ho2,hc2,n2,hd2⟩:=id hb;simp only at hc hd hc2 hd2;subst hc hd hc2 hd2;have e:vs.toArray++ws.toArray=(vs++ws).toArray:=by simp
  by_cases hw:ws=[]
  · exact concat_meets ⟨_,ho,rfl⟩ ⟨_,ho2,rfl⟩ noFill_tuple_add seq_tuple_add PySem.F.slot_tuple_add PySem.F.entry_tuple_add (PySem.F.args_tuple_add_2 _ _)
      (tuple_addW1 t b vs.toArray ws.toArray n n2 dd dd2 sl sl2 (by simpa using hv) (by simp [hw])) ⟨ho,ho2,h1 hw⟩
  · refine concat_meets ⟨_,ho,rfl⟩ ⟨_,ho2,rfl⟩ noFill_tuple_add seq_tuple_add PySem.F.slot_tuple_add PySem.F.entry_tuple_add (PySem.F.args_tuple_add_2 _ _)
      (tuple_addW2 t b vs.toArray ws.toArray n n2 dd dd2 sl sl2 (by simpa using hv) (by simpa using hw) (by rw [List.size_toArray,List.size_toArray];exact hsz)) ⟨ho,ho2,?_⟩
    rw [e];exact h2 hw
noncomputable def sIx (n d:Nat):Option Int->Nat
  | none=>d
  | some v=>if v < 0 then (v+(n:Int)).toNat else min v.toNat n
end
end HT
namespace L2
open PySem PySem.Spec PyProof.Rows
theorem de {ns:List Int}:∀ {us:List Value},aF (ns.map V.int) us->IntsAre us ns:=by
  induction ns with
  | nil=>intro us r;rw [List.map_nil] at r;cases r;exact .nil
  | cons n ns ih =>
    intro us r;rw [List.map_cons] at r;cases r with
    | cons r1 r2 =>
      obtain ⟨t,e⟩:=r1;subst e;exact .cons n t (ih r2)
section
variable {X:Cx} {e:Expr} {te:TE} {lo hi:Option Expr} {tl th:TO} {pos p2:Pos}
noncomputable def yY (X:Cx) (r:V->Option Int->Option Int->Hp->VK->Prop):Prop :=
  ∀ (pins:List (Addr×Obj)) (s:Shared) (σ:St) (H:Hp) (x:V) (v vl vu:Value) (lo hi:Option Int) (sl:Addr) (Q:VK),ap X pins σ H s->aJ x v->s.heap.IsSliceOf sl vl vu .none->IsPart vl lo->IsPart vu hi->r x lo hi H Q ->
    ∃ T id,typeLookup (.type T) "__getitem__" = pure (some (.builtin id))/\s.TypeIs v T/\wpAny (model X.prog X.w) X.A (getItem v (.ref sl)) (EP X pins σ Q) X.xe s
noncomputable def rn (xs:List V) (lo hi:Option Int):List V:=(xs.drop (HT.sIx xs.length 0 lo)).take (HT.sIx xs.length xs.length hi-HT.sIx xs.length 0 lo)
theorem kP (xs:List V) (lo hi:Option Int):(rn xs lo hi).length<=xs.length:=by
  unfold rn;rw [List.length_take,List.length_drop];omega
noncomputable def sW (K:PySem.W.Frag):R2:=fun x y H Q=>∃ a b xs ys,x=.ref a/\y=.ref b/\cx K H a xs/\cx K H b ys/\xs≠[]/\xs.length+ys.length<=sizeLine /\
  (ys=[]->Q (.ref a) H)/\(ys≠[]->∀ p,H p=none->Q (.ref p) (bP H p (.tup (xs++ys))))
theorem aF.nil_iff {xs:List V} {us:List Value} (r:aF xs us):us=[]<->xs=[]:=by
  cases r with
  | nil=>simp
  | cons _ _=>simp
theorem rW:eS X (binaryOp .Add) (sW X.K):=by
  intro pins s σ H x y v u Q I rx ry h;obtain ⟨a,b,xs,ys,rfl,rfl,ha,hb,hx,hz,q1,q2⟩:=h;cases rx;cases ry;obtain ⟨its,r1,p1,_⟩:=I.tuple ha;obtain ⟨its2,r2,p2,_⟩:=I.tuple hb;refine HT.cat_tup p1 p2 (fun z=>hx (r1.nil_iff.mp z)) (fun z=>⟨.ref a,H,I,rfl,q1 (r2.nil_iff.mp z)⟩) (fun z=>?_) (by rw [<- r1.length,<- r2.length];exact hz);refine ⟨.ref s.heap.objs.size,_,I.laid (t':=s.toks) (o:=.tup (xs++ys)) (fun b ob q=>Heap.get?_push_of_some _ q) (Nat.le_refl _) ?_,rfl,q2 (fun w=>z (r2.nil_iff.mpr w)) _ (I.hok.fresh (Nat.le_refl _))⟩;exact ⟨by rw [List.length_append];exact hz,_,r1.append r2,dm.new _ _⟩
end
noncomputable def sR (n:Nat) (i:Int):Option Nat:=if 0<=i then (if i < n then some i.toNat else none) else if -(n:Int)<=i then some (i+n).toNat else none
noncomputable def atI {α:Type} (xs:List α) (i:Int):Option α:=(sR xs.length i).bind fun j=>xs[j]?
theorem rN {n:Nat} {i:Int} {j:Nat} (h:sR n i=some j):seqIndex? i n=some j/\j < n/\-(n:Int)<=i/\i < n:=by
  unfold sR at h;by_cases h0:0<=i
  · rw [if_pos h0] at h;by_cases h1:i < n
    · rw [if_pos h1] at h;have e:i.toNat=j:=Option.some.inj h;exact ⟨by rw [seqIndex_of h0 h1,e],by omega,by omega,h1⟩
    · rw [if_neg h1] at h;cases h
  · rw [if_neg h0] at h;by_cases h1:-(n:Int)<=i
    · rw [if_pos h1] at h;have e:(i+n).toNat=j:=Option.some.inj h;exact ⟨by rw [seqIndex_neg (by omega) h1,e],by omega,h1,by omega⟩
    · rw [if_neg h1] at h;cases h
theorem jK {α:Type} {xs:List α} {i:Int} {v:α} (h:atI xs i=some v):∃ j,seqIndex? i xs.length=some j/\xs[j]?=some v/\j < xs.length/\-(xs.length:Int)<=i/\i < xs.length:=by
  unfold atI at h;cases e:sR xs.length i with
  | none=>rw [e] at h;cases h
  | some j =>
    rw [e] at h;obtain ⟨h1,h2,h3,h4⟩:=rN e;exact ⟨j,h1,h,h2,h3,h4⟩
theorem jL {α:Type} {xs:List α} {j:Nat} {v:α} (h:xs[j]?=some v):atI xs (j:Int)=some v:=by
  have hj:j < xs.length:=(List.getElem?_eq_some_iff.mp h).1;have e:sR xs.length (j:Int)=some j:=by
    unfold sR;rw [if_pos (by omega),if_pos (by omega)];simp
  unfold atI;rw [e];exact h
noncomputable def mG (b:Expr):Prop:=∀ o i,subscripted b false o i=operate [o,i] (getItem o i)
noncomputable def qX (X:Cx) (r:R2):Prop :=
  ∀ (value slice:Expr) (pins:List (Addr×Obj)) (s:Shared) (σ:St) (H:Hp) (x y:V) (v u:Value) (Q:VK),ap X pins σ H s->aJ x v->aJ y u->r x y H Q ->
    subscripted slice false v u=operate [v,u] (getItem v u)->wpAny (model X.prog X.w) X.A (subscriptTail value slice v u) (EP X pins σ Q) X.xe s
noncomputable def yI (X:Cx) (id:String) (r:V->List V->Hp->VK->Prop):Prop :=
  ∀ (pins:List (Addr×Obj)) (s:Shared) (σ:St) (H:Hp) (x:V) (xs:List V) (v:Value) (us:List Value) (Q:VK),ap X pins σ H s->aJ x v->aF xs us->r x xs H Q ->
    wpAny (model X.prog X.w) X.A (call (.builtin id) (v::us)) (EP X pins σ Q) X.xe s
section
variable {X:Cx} {a b:Expr} {ta tb:TE} {pos:Pos}
theorem qX.or {r r':R2} (h:qX X r) (h':qX X r'):qX X (fun x y H Q=>r x y H Q\/r' x y H Q):=by
  intro value slice pins s σ H x y v u Q I rx ry q hs;rcases q with q | q
  · exact h value slice pins s σ H x y v u Q I rx ry q hs
  · exact h' value slice pins s σ H x y v u Q I rx ry q hs
theorem we {r:R2} (hr:qX X r) (ha:PE X a ta) (hb:PE X b tb) (hs:mG b):PE X (.Subscript a b pos) (wK r ta tb):=by
  intro pins s σ H Q I h;exact Subscript_ (tK ha hb I h fun v u s2 x y H2 I2 rx ry q=>hr a b pins s2 σ H2 x y v u Q I2 rx ry q (hs _ _))
noncomputable def wm (K:PySem.W.Frag):R2:=fun x y H Q=>∃ p xs i v,x=.ref p/\y=.int i/\iR K H p xs/\atI xs i=some v/\Q v H
noncomputable def wo (K:PySem.W.Frag):R2:=fun x y H Q=>∃ p xs i v,x=.ref p/\y=.int i/\cx K H p xs/\atI xs i=some v/\Q v H
noncomputable def wn:R2:=fun x y H Q=>∃ z i c,x=.str z/\y=.int i/\z.length<=sizeLine/\atI z.cps.toList i=some c/\Q (.str ⟨#[c]⟩) H
theorem rP:qX X (wm X.K):=by
  intro value slice pins s σ H x y v u Q I rx ry h hs;obtain ⟨p,xs,i,z,rfl,rfl,hq,he,q⟩:=h;cases rx;obtain ⟨t,rfl⟩:=ry;obtain ⟨its,r,pl,hz⟩:=I.list hq;obtain ⟨j,h1,h2,h3,h4,h5⟩:=jK he;obtain ⟨w,ew,rw'⟩:=r.get h2;have hl:=r.length;have hn:=gF;have fin:EP X pins σ Q w s:=⟨z,H,I,rw',q⟩
  by_cases h0:0<=i
  · have hj:i.toNat=j:=by
      rw [seqIndex_of h0 h5] at h1;exact Option.some.inj h1
    exact item_listR pl.isList h0 (by omega) (by rw [hj];simpa using ew) fin hs
  · have hj:(i+(its.toArray.size:Int)).toNat=j:=by
      rw [seqIndex_neg (by omega) h4] at h1;rw [List.size_toArray,<- hl];exact Option.some.inj h1
    exact subscriptTail_builtinR (x:=w) pl.isList.typeIs slot_list_getitem.lookup
      (wpAny_getItem_list_neg (Q:=fun r s'=>r=w/\EP X pins σ Q r s') pl.isList (by omega) (by rw [List.size_toArray] <;> omega) (by omega) (by rw [hj];simpa using ew) ⟨rfl,fin⟩) hs
theorem tY:qX X (wo X.K):=by
  intro value slice pins s σ H x y v u Q I rx ry h hs;obtain ⟨p,xs,i,z,rfl,rfl,hq,he,q⟩:=h;cases rx;obtain ⟨t,rfl⟩:=ry;obtain ⟨its,r,pl,hz⟩:=I.tuple hq;obtain ⟨j,h1,h2,h3,h4,h5⟩:=jK he;obtain ⟨w,ew,rw'⟩:=r.get h2;have hl:=r.length;have hn:=gF;have fin:EP X pins σ Q w s:=⟨z,H,I,rw',q⟩
  exact subscriptTail_builtinR (x:=w) pl.typeIs slot_tuple_getitem.lookup
    (getItem_tuple (j:=j) (Q:=fun r s'=>r=w/\EP X pins σ Q r s') pl (by omega) (by omega) (by rw [List.size_toArray,<- hl];exact h1) (by simpa using ew) ⟨rfl,fin⟩) hs
theorem tX:qX X wn:=by
  intro value slice pins s σ H x y v u Q I rx ry h hs;obtain ⟨z,i,c,rfl,rfl,hz,he,q⟩:=h;obtain ⟨t,rfl⟩:=rx;obtain ⟨t',rfl⟩:=ry;obtain ⟨j,h1,h2,h3,h4,h5⟩:=jK he;have hl:z.cps.toList.length=z.length:=by simp [Str.length]
  rw [hl] at h1 h4 h5;have hn:=gF;exact tail_any (typeIs_str s z t) slot_str_getitem.lookup (getItem_str (c:=c) (by
    have e1:decide (i < -(2 ^ 63:Int))=false:=decide_eq_false (by omega);have e2:decide (i>=2 ^ 63)=false:=decide_eq_false (by omega);rw [e1,e2,Bool.or_false]) (by rw [h1];simpa using h2) ⟨.str ⟨#[c]⟩,H,I.tok _,⟨_,rfl⟩,q⟩) hs
theorem ap.lst {pins:List (Addr×Obj)} {σ:St} {H:Hp} {s:Shared} {p:Addr} {xs:List V} (I:ap X pins σ H s) (h:H p=some (.lst xs)) :
    ∃ (its:List Value) (n:Nat),aF xs its/\s.heap.get? p=some { cls:=.type "list",data:=.seq its.toArray n }/\xs.length<=sizeLine:=by
  obtain ⟨z,its,n,r,e⟩:=I.hok p _ h;exact ⟨its,n,r,e,z⟩
theorem ke (lo hi:Option Int) (n:Nat):(sliceBounds lo hi none n).1=((HT.sIx n 0 lo:Nat):Int)/\(sliceBounds lo hi none n).2.1=((HT.sIx n n hi:Nat):Int)/\(sliceBounds lo hi none n).2.2=1:=by
  refine ⟨?_,?_,rfl⟩
  · cases lo with
    | none=>simp [sliceBounds,HT.sIx]
    | some i =>
      simp only [sliceBounds,HT.sIx,Option.getD_none,show (1:Int) > 0 by decide,if_true];by_cases h:i < 0
      · simp only [h,if_true] <;> omega
      · simp only [h,if_false] <;> omega
  · cases hi with
    | none=>simp [sliceBounds,HT.sIx]
    | some i =>
      simp only [sliceBounds,HT.sIx,Option.getD_none,show (1:Int) > 0 by decide,if_true];by_cases h:i < 0
      · simp only [h,if_true] <;> omega
      · simp only [h,if_false] <;> omega
theorem i8 (its:List Value) (lo hi:Option Int):slicePick its.toArray lo hi none=((its.drop (HT.sIx its.length 0 lo)).take (HT.sIx its.length its.length hi-HT.sIx its.length 0 lo)).toArray:=by
  obtain ⟨h1,h2,h3⟩:=ke lo hi its.toArray.size;unfold slicePick;rw [h1,h2,h3];simp only [sliceRange_one,pick_run,List.size_toArray] <;> rfl
noncomputable def yq (K:PySem.W.Frag):V->Option Int->Option Int->Hp->VK->Prop:=fun x lo hi H Q=>∃ a xs,x=.ref a/\iR K H a xs/\∀ p,H p=none->Q (.ref p) (bP H p (.lst (rn xs lo hi)))
theorem xx:yY X (yq X.K):=by
  intro pins s σ H x v vl vu lo hi sl Q I rx hs pl pu h;obtain ⟨a,xs,rfl,hx,q⟩:=h;cases rx;obtain ⟨its,r,ht,hz⟩:=I.list hx;have hlen:=r.length;refine ⟨"list",_,slot_list_getitem.lookup,ht.isList.typeIs,?_⟩;refine wpAny_getItem_list_slice ht.isList hs pl pu .none (by simp) ?_ (by rw [List.size_toArray] <;> omega);rw [i8,<- hlen];refine ⟨.ref s.heap.objs.size,_,I.laid (t':=s.toks) (o:=.lst (rn xs lo hi)) (fun b ob q=>Heap.get?_push_of_some _ q) (Nat.le_refl _) ?_,rfl,q _ (I.hok.fresh (Nat.le_refl _))⟩;exact ⟨Nat.le_trans (kP xs lo hi) hz,_,0,(r.drop (HT.sIx xs.length 0 lo)).take (HT.sIx xs.length xs.length hi-HT.sIx xs.length 0 lo),Heap.get?_push_size _ rfl⟩
theorem jP:bR X (.builtin "len") (fun xs H Q=>∃ p ys,xs=[.ref p]/\(iR X.K H p ys\/cx X.K H p ys)/\Q (.int ys.length) H):=by
  intro pins s σ H xs us Q I r h;obtain ⟨p,ys,rfl,hq,q⟩:=h;obtain ⟨u,rfl,rx⟩:=dE r;cases rx;have hn:=gF;rcases hq with hq | hq
  · obtain ⟨its,r',pl,hz⟩:=I.list hq;have hlen:=r'.length;exact Calls.call_len_list pl.isList (by simp only [List.size_toArray] <;> omega) ⟨.int ys.length,H,I.tok _,⟨s.toks+1,by rw [List.size_toArray,hlen]⟩,q⟩
  · obtain ⟨its,r',pl,hz⟩:=I.tuple hq;have hlen:=r'.length;exact len_tuple pl (by simp only [List.size_toArray] <;> omega) ⟨.int ys.length,H,I.tok _,⟨s.toks+1,by rw [List.size_toArray,hlen]⟩,q⟩
theorem jQ:bR X (.builtin "len") (fun xs H Q=>∃ z,xs=[.str z]/\z.length<=sizeLine/\Q (.int z.length) H):=by
  intro pins s σ H xs us Q I r h;obtain ⟨z,rfl,hz,q⟩:=h;obtain ⟨u,rfl,t,rfl⟩:=dE r;have hn:=gF;exact len_str (by omega) ⟨.int z.length,H,I.tok _,⟨_,rfl⟩,q⟩
theorem bR.or {f:Value} {r r':List V->Hp->VK->Prop} (h:bR X f r) (h':bR X f r'):bR X f (fun xs H Q=>r xs H Q\/r' xs H Q):=by
  intro pins s σ H xs us Q I rs q;rcases q with q | q
  · exact h pins s σ H xs us Q I rs q
  · exact h' pins s σ H xs us Q I rs q
theorem iX:bR X (.type "tuple") (fun xs H Q=>∃ p ys,xs=[.ref p]/\((iR X.K H p ys/\∀ l,H l=none->Q (.ref l) (bP H l (.tup ys)))\/(cx X.K H p ys/\Q (.ref p) H))):=by
  intro pins s σ H xs us Q I r h;obtain ⟨p,ys,rfl,h⟩:=h;obtain ⟨u,rfl,rx⟩:=dE r;cases rx;rcases h with ⟨hq,q⟩ | ⟨hq,q⟩
  · obtain ⟨its,r',pl,hz⟩:=I.list hq;have hlen:=r'.length;refine call_tuple_list pl.isList (fun h' kp=>?_) (by simp only [List.size_toArray] <;> omega);have I1:ap X pins σ H { s with heap:=h' }:=I.kept (t':=s.toks) kp;have I2:ap X pins σ (bP H h'.objs.size (.tup ys)) { s with heap:=h'.push { cls:=.type "tuple",data:=.seq its.toArray } } :=
      I1.laid (t':=s.toks) (fun b o e=>Heap.get?_push_of_some _ e) (Nat.le_refl _) (show aQ X.prog X.w _ _ _ (.tup ys) from ⟨hz,its,r',dm.new _ _⟩)
    exact ⟨.ref h'.objs.size,_,I2,rfl,q _ (I1.hok.fresh (Nat.le_refl _))⟩
  · obtain ⟨its,r',pl,hz⟩:=I.tuple hq;exact call_tuple_same pl ⟨.ref p,H,I,rfl,q⟩
noncomputable def yU (K:PySem.W.Frag) (T:String) (x:V) (H:Hp):Prop:=match x with
  | .str _=>T = "str"
  | .int _=>T = "int"
  | .ref p=>(T = "list" /\ ∃ xs,iR K H p xs)\/(T = "tuple" /\ ((∃ o,K.lookup p=some o/\o.cls=.type "tuple" /\ o.dict=none)\/∃ xs,H p=some (.tup xs))) \/
      (T = "dict" /\ ((∃ kvs,H p=some (.dK kvs))\/∃ kvs,H p=some (.dT kvs)))\/(T = "set" /\ ∃ S n,H p=some (.set S n))
  | _=>False
theorem uW {pins:List (Addr×Obj)} {σ:St} {H:Hp} {s:Shared} {T:String} {x:V} {v:Value} (I:ap X pins σ H s) (r:aJ x v) (ty:yU X.K T x H) :
    s.TypeIs v T/\∀ a,v=.ref a->∃ ob,s.heap.get? a=some ob/\ob.dict=none:=by
  cases x with
  | str z =>
    obtain ⟨t,rfl⟩:=r;cases (show T = "str" from ty);exact ⟨typeIs_str s z t,fun _ e=>nomatch e⟩
  | int i =>
    obtain ⟨t,rfl⟩:=r;cases (show T = "int" from ty);exact ⟨typeIs_int s i t,fun _ e=>nomatch e⟩
  | ref p =>
    cases r;rcases ty with ⟨rfl,xs,hq⟩ | ⟨rfl,⟨o,hk,hc,hd⟩ | ⟨xs,hk⟩⟩ | ⟨rfl,hk⟩ | ⟨rfl,S,n,hk⟩
    · obtain ⟨its,_,pl,_⟩:=I.list hq;refine ⟨pl.isList.typeIs,fun a e=>?_⟩;cases e;obtain ⟨o,n,e,c,hd,_⟩:=pl;exact ⟨o,e,hd⟩
    · refine ⟨⟨o,I.kIn p o hk,hc⟩,fun a e=>?_⟩;cases e;exact ⟨o,I.kIn _ o hk,hd⟩
    · obtain ⟨_,_,_,o,e1,e2,_,e3⟩:=(show aQ X.prog X.w H s.heap p (.tup xs) from I.hok p _ hk)
      refine ⟨⟨o,e1,e2⟩,fun a e=>?_⟩;cases e;exact ⟨o,e1,e3⟩
    · have z:∃ o,s.heap.get? p=some o/\o.ExactDict:=by
        rcases hk with ⟨kvs,hk⟩ | ⟨kvs,hk⟩
        · obtain ⟨_,_,_,_,o,_,_,e,ex,_⟩:=I.hok p _ hk;exact ⟨o,e,ex⟩
        · obtain ⟨_,_,_,_,o,_,_,e,ex,_⟩:=I.hok p _ hk;exact ⟨o,e,ex⟩
      obtain ⟨o,e,ex⟩:=z;refine ⟨⟨o,e,ex.1⟩,fun a e2=>?_⟩;cases e2;exact ⟨o,e,ex.2.1⟩
    · obtain ⟨o,_,_,_,e,ex,_⟩:=I.hok p _ hk;refine ⟨⟨o,e,ex.1⟩,fun a e2=>?_⟩;cases e2;exact ⟨o,e,ex.2.1⟩
  | _=>exact False.elim ty
noncomputable def zi (K:PySem.W.Frag) (T:String) (r:V->List V->Hp->VK->Prop) (to:TE) (t:TA):TE:=fun σ H Q=>to σ H fun x H1=>yU K T x H1/\t σ H1 fun xs H2=>r x xs H2 Q
variable {o e:Expr} {es:List Expr} {to:TE} {t:TA} {name:Str} {apos cpos:Pos} {T id:String} {r:V->List V->Hp->VK->Prop}
theorem wd (pa:PlainAttrs T) (slot:Slot T name id) (hty:typeOf (.builtin id)=pure (.type "method_descriptor")) (hm:yI X id r) (ho:PE X o to) (ha:PA X (e::es) t)
    (hbase:attributeBase o name X.env (eval o X.env)=eval o X.env:=by rfl)
    (hfew:((backTo cpos (starEach (e::es) X.env)).all (fun x=>!x.1)&&(backToKw cpos (keywordEach [] X.env)).all (fun x=>x.1.isSome)
      && decide ((e::es).length+([]:List Keyword).length+(if ([]:List Keyword).isEmpty then 0 else 1) < 30))=true:=by rfl)
    (hline:(apos.endLine==cpos.line)=true:=by rfl) (hs:starEach (e::es) X.env=(false,eval e X.env)::starEach es X.env:=by rfl) (hplain:(backTo cpos (starEach es X.env)).any (·.1)=false:=by rfl) :
    PE X (.Call (.Attribute o name apos) (e::es) [] cpos) (zi X.K T r to t):=by
  intro pins s σ H Q I h;refine wpAny_Call_method_late hbase hfew hline rfl (bX (ho pins s σ H _ I h) fun v s1 zq0=>?_);obtain ⟨x,H1,I1,r1,ty,q1⟩:=zq0;obtain ⟨h1,h2⟩:=uW I1 r1 ty;refine ⟨T,id,pa,slot,hty,h1,h2,?_⟩;have hA:=ha cpos pins s1 σ H1 _ I1 q1;rw [hs] at hA ⊢;refine Calls.callWith_builtin (by show (false||(backTo cpos (starEach es X.env)).any (·.1))=false;rw [hplain] <;> rfl) (Calls.evalArgs_plain ?_);exact bX hA fun us s2 ⟨vs,H2,I2,r2,q2⟩=>hm pins s2 σ H2 x vs v us Q I2 r1 r2 q2
end
noncomputable def yW (X:Cx) (id:String) (r:V->List V->Hp->VK->Prop):Prop :=
  ∀ (pins:List (Addr×Obj)) (s:Shared) (σ:St) (H:Hp) (x:V) (xs:List V) (v:Value) (us:List Value) (Q:VK),ap X pins σ H s->aJ x v->aF xs us->r x xs H Q ->
    wpAny (model X.prog X.w) X.A (call (.builtin id) (v::us)) (EP X pins σ Q) X.xe s
theorem aF.one {x:V} {us:List Value} (h:aF [x] us):∃ u,us=[u]/\aJ x u:=by
  cases h with
  | cons r t =>
    cases t;exact ⟨_,rfl,r⟩
theorem aF.zero:∀ {us:List Value},aF [] us->us=[]
  | _,.nil=>rfl
theorem aF.reverse {xs:List V} {us:List Value} (h:aF xs us):aF xs.reverse us.reverse:=by
  induction h with
  | nil=>exact .nil
  | cons r t ih=>rw [List.reverse_cons,List.reverse_cons];exact aF.append ih (.cons r .nil)
theorem aF.rep {xs:List V} {us:List Value} (h:aF xs us):∀ k:Nat,aF (List.replicate k xs).flatten (List.replicate k us).flatten
  | 0=>.nil
  | k+1=>by
    rw [List.replicate_succ,List.replicate_succ,List.flatten_cons,List.flatten_cons];exact aF.append h (aF.rep h k)
theorem jq (its:List Value):∀ (k:Nat) (acc:List Value),
    List.foldl (fun x1 x2=>x1++x2) acc.toArray (List.replicate k its.toArray)=(acc++(List.replicate k its).flatten).toArray
  | 0,acc=>by simp
  | k+1,acc=>by
    have e:acc.toArray++its.toArray=(acc++its).toArray:=by simp
    have e2:(acc++its)++(List.replicate k its).flatten=acc++(List.replicate (k+1) its).flatten:=by
      rw [List.replicate_succ,List.flatten_cons,List.append_assoc]
    rw [<- e2,<- jq its k (acc++its),<- e,List.replicate_succ,List.foldl_cons]
section
variable {X:Cx} {pins:List (Addr×Obj)} {σ:St} {H:Hp} {s:Shared} {l b:Addr} {xs ys zs:List V}
theorem ap.lset {its its':List Value} {n:Nat} {f:Array Value->Array Value} {t':Nat} (I:ap X pins σ H s) (hH:H l=some (.lst xs))
    (e:s.heap.get? l=some { cls:=.type "list",data:=.seq its.toArray n }) (hf:f its.toArray=its'.toArray) (hv:aF ys its') (hz:ys.length<=sizeLine) :
    ap X pins σ (bP H l (.lst ys)) { s with heap:=s.heap.update l (Obj.mapSeq f),toks:=t' }:=by
  have q:=PySem.IsL.update e f;rw [hf] at q;refine I.write (x:=l) (e:=l) (by rw [hH];exact trivial) (.inl rfl) (fun b' u hb hu=>(Heap.get?_update_other s.heap (Obj.mapSeq f) (Ne.symm hb)).trans hu) ⟨_,q⟩ ?_;exact ⟨hz,its',_,hv,q⟩
theorem ap.lnew {its:List Value} {t':Nat} (I:ap X pins σ H s) (hv:aF ys its) (hz:ys.length<=sizeLine) :
    ap X pins σ (bP H s.heap.objs.size (.lst ys)) { s with heap:=s.heap.push { cls:=.type "list",data:=.seq its.toArray },toks:=t' } :=
  I.laid (fun _ _ q=>Heap.get?_push_of_some _ q) (Nat.le_refl _) ⟨hz,its,0,hv,Heap.get?_push_size _ rfl⟩
theorem ap.fresh (I:ap X pins σ H s):H s.heap.objs.size=none:=I.hok.fresh (Nat.le_refl _)
theorem ap.lstM (I:ap X pins σ H s) (hH:H l=some (.lst xs)):xs.length<=sizeLine/\∃ (its:List Value) (n:Nat),aF xs its/\xs.length=its.length/\s.heap.get? l=some { cls:=.type "list",data:=.seq its.toArray n }:=by
  obtain ⟨z,its,n,r,e⟩:=I.hok l _ hH;exact ⟨z,its,n,r,r.length,e⟩
end
section
variable {X:Cx}
noncomputable def su:V->List V->Hp->VK->Prop:=fun x vs H Q=>∃ l xs y,x=.ref l/\vs=[y]/\H l=some (.lst xs)/\xs.length < sizeLine/\Q .non (bP H l (.lst (xs++[y])))
theorem oh:yW X "list.append" su:=by
  intro pins s σ H x vs v us Q I rx rv h;obtain ⟨l,xs,y,rfl,rfl,hH,hz,q⟩:=h;cases rx;obtain ⟨u,rfl,ru⟩:=rv.one;obtain ⟨z,its,n,r,hl,e⟩:=I.lstM hH;refine call_meets F.slot_list_append ⟨_,e,rfl⟩ F.entry_list_append (F.args_list_append_2 _ _) (PySem.list_append l its.toArray n u (by rw [List.size_toArray];omega)) ⟨e,?_⟩;refine ⟨.non,_,I.lset (its':=its++[u]) hH e (by simp) (r.append (.cons ru .nil)) ?_,rfl,q⟩;rw [List.length_append,List.length_singleton];omega
theorem mX {α:Type} (xs:List α) (k:Nat):(List.replicate k xs).flatten.length=k*xs.length:=by
  induction k with
  | zero=>simp
  | succ k ih=>rw [List.replicate_succ,List.flatten_cons,List.length_append,ih,Nat.succ_mul,Nat.add_comm]
end
end L2
namespace Att
open PySem PySem.W PySem.Calls PyProof.Rows
theorem gY {P:Params} {h:Heap}:∀ (ns:List Int) (vs:List Value),WellAll P h vs (ns.map WData.int)->IntsAre vs ns:=by
  intro ns;induction ns with
  | nil =>
    intro vs w;rw [List.map_nil] at w;cases w;exact .nil
  | cons n ns ih =>
    intro vs w;rw [List.map_cons] at w;cases w with
    | cons a b =>
      cases a;exact .cons _ _ (ih _ b)
theorem oB {l:OpenLaw} {n:Nat} (hn:l.most=some n) {P:Params} {h:Heap} {args:List WData} {vals:List Value}
    (hpre:l.row.toRowW.claim.pre args=true) (hwl:WellAll P h vals args) :
    ∃ a vs ns,vals=[Value.ref a]/\args=[WData.list (ns.map WData.int)]/\h.get? a=some { cls:=.type "list",data:=.seq vs.toArray }/\IntsAre vs ns/\ns.length<=n:=by
  have hsh:WShape.hasAll [] args [.list .int]=true:=(pre_splitW hpre).1;have hc:l.pre.holds [] { args:=args }=true:=(pre_splitW hpre).2;obtain ⟨d,r,rfl,h1,h2⟩:=hasAllW_cons hsh;obtain rfl:=hasAllW_nil h2;obtain ⟨xs,rfl,h3⟩:=hasW_list h1;obtain ⟨ns,rfl⟩:=items_int h3;have hlen:ns.length<=n:=by
    unfold OpenLaw.pre at hc;have h4:(WTm.not (.lt (.lit (.int (n:Int))) (.len (.arg 0)))).holds [] { args:=[.list (ns.map .int)] }=true:=by
      have h4:=(holds_andW hc).1;rw [hn] at h4;exact h4
    have h5:=condW_of h4 (w_not (w_lt w_lit (w_len_list (w_arg rfl))));rw [List.length_map] at h5;refine Nat.le_of_not_lt fun q=>?_
    have q':(n:Int) < ((ns.length:Nat):Int):=by omega
    first
      | (rw [decide_eq_true q'] at h5;exact absurd h5 (by decide))
      | (simp at h5;omega)
  cases hwl with
  | cons w1 w2 =>
    cases w2;cases w1 with
    | list ho hall=>exact ⟨_,_,ns,rfl,rfl,ho,gY ns _ hall,hlen⟩
theorem oy (l:OpenLaw) (args:List WData):l.row.toRowW.claim.post args (.bool true) args=true :=
  postW_of (r:=l.row.toRowW) (X:=(true==true))
    (show WShape.has [] (.bool true) .bool=true by first | rfl | decide | simp [WShape.has,WShape.arms,WShape.armsAll])
    (show (WTm.eq .res (.lit (.bool true))).value [] { args:=args,res:=some (.bool true),after:=args }=some (.bool (true==true)) from w_eq_bool (w_res rfl) w_lit) rfl
theorem attach_call {l:OpenLaw} {n:Nat} {q:Program} {loose:List Str} {XP:(Str->Option Value)->Heap->Prop} {YP:World->Heap->Prop} {d:DefRec}
    (hn:l.most=some n) (hdf:d.params.defaults=[])
    (call:∀ (w:World) (s₀ s₁:Shared) (mg mb:Str->Option Value) (fa:Addr) (o:Obj) (pm cd doc:Value) (a:Addr) (vs:List Value) (ns:List Int),
      Ground q loose [] XP w s₀ mg mb s₁.heap->YP w s₁.heap ->
      s₁.heap.get? fa=some o->o.data=.func (docDef d.name d.params d.body d.scope pm cd doc)->s₁.heap.CodeRec cd d.name->mg d.name=some (.ref fa) ->
      s₁.heap.get? a=some { cls:=.type "list",data:=.seq vs.toArray }->IntsAre vs ns->ns.length<=n->s₁.gens=#[] ->
      codeAny (model l.prog w) callerA (.call (.ref fa) ⟨[.ref a],[]⟩) (fun r s'=>r=.ok (.ret (.bool true))/\OldK s₁.heap s'.heap/\s'.os=s₁.os/\AllBare s'.gens) s₁) :
    WalkO q loose XP YP l.row.toRowW d [] (fun f vs=>PySem.call f vs):=by
  intro w s₀ s₁ mg mb G Y fa o pm cd doc dV kV ho hd hcd hD hmg hg args vals as hpre hlay hrd hwl hlo;obtain rfl:dV=.none:=Dflts.none hD hdf;obtain rfl:kV=.none:=Dflts.noKw hD;obtain ⟨a,vs,ns,rfl,rfl,hobj,hints,hlen⟩:=oB hn hpre hwl;refine enter_call (codeAny_mono (call w s₀ s₁ mg mb fa o pm cd doc a vs ns G Y ho (fd_plain hd) hcd hmg hobj hints hlen hg) fun r s' hq=>?_);obtain ⟨rfl,h2,h3,h4⟩:=hq;exact ⟨.inl ⟨.bool true,.bool true,[],rfl,fun _=>rfl,.bool true,oy l _,fun _=>⟨List.Pairwise.nil,fun _ hm=>(nomatch hm)⟩⟩,h2,h3,h4⟩
end Att
namespace L2
open PySem PySem.Spec PyProof.Rows
theorem fB:∀ {vs:List Value} {ns:List Int},IntsAre vs ns->aF (ns.map V.int) vs
  | _,_,.nil=>.nil
  | _,_,.cons n t h=>.cons ⟨t,rfl⟩ (fB h)
noncomputable def vh (T:Addr) (H:Hp):Prop:=∀ b,H b=none\/(∃ o xs,H b=some (.frz o (.lst xs)))\/(b=T/\∃ q,H b=some (.tbl q))
theorem p0 {P:Program} {w:World} {K:PySem.W.Frag} {mg mb:Str->Option Value} {CX:oK} {k:Nat} {fa a c T:Addr} {q0:Str} {fd:FuncData} {x:Str} {sp:Sp} {s₁:Shared} {vs:List Value} {ns:List Int}
    (KX:K.In s₁.heap) (hns:s₁.heap.Ns mainGlobals mg) (hb:s₁.heap.Ns builtinsNs mb) (hbb:∀ x:Str,x ≠ "__name__" -> mb x=bootBuiltins x) (hlim:s₁.heap.NoLimit)
    (hbm:∃ bm ob,mg "__builtins__" = some (.ref bm)/\bm≠builtinsNs/\s₁.heap.get? bm=some ob/\ob.cls=.type "module" /\ ob.dict=some builtinsNs/\ob.data=.plain) (hg:s₁.gens=#[])
    (ha:s₁.heap.get? a=some { cls:=.type "list",data:=.seq vs.toArray }) (hi:IntsAre vs ns) (hl:ns.length<=sizeLine) (hr:cH k callerA)
    (nt:PySem.W.noTabs K=true) (hC:PySem.W.CodeHd s₁.heap c T) (hT:s₁.heap.get? T=some { cls:=.none,data:=.fields #[] }) (tb:∀ H:Hp,H T=some (.tbl q0)->oX K H)
    (F:∀ base:Heap,K.In base->base.Ns mainGlobals mg->bj P w K mg base CX k fa fd [x] sp) (hbind:∀ (s:Shared) (u:Value),BindsTo s fd ⟨[u],[]⟩ [(x,u)])
    (hsp:∀ H:Hp,vh T H->iR K H a (ns.map V.int)->sp [.ref a] H (fun v _=>v=.bl true) fun _ _ _=>False)
    (hCX:∀ H e s',CX [] H s₁ (fun _ _ _=>False) e s'->False) :
    codeAny (model P w) callerA (.call (.ref fa) ⟨[.ref a],[]⟩) (fun r s'=>r=.ok (.ret (.bool true))/\OldK s₁.heap s'.heap/\s'.os=s₁.os/\AllBare s'.gens) s₁:=by
  have rv:=fB hi;have lenV:=hi.length;have hTK:K.lookup T=none:=by
    cases q:K.lookup T with
    | none=>rfl
    | some o =>
      have e:=KX T o q;rw [hT] at e;cases e;have h2:=List.all_eq_true.mp nt (T,_) (PySem.W.mem_of_lookupK q);exact absurd (show false=true from h2) Bool.false_ne_true
  have haT:a≠T:=fun z=>by subst z;rw [ha] at hT;cases hT
  have core:∀ H:Hp,vh T H->iR K H a (ns.map V.int)->dk P w H s₁.heap->(∀ b,H b≠none->b=a\/b=T)->(H a≠none->K.lookup a=none)->H T=some (.tbl q0) ->
      codeAny (model P w) callerA (.call (.ref fa) ⟨[.ref a],[]⟩) (fun r s'=>r=.ok (.ret (.bool true))/\OldK s₁.heap s'.heap/\s'.os=s₁.os/\AllBare s'.gens) s₁:=by
    intro H hO hS hok hA hK hHT;have base_of:∀ {b:Addr} {o:Obj},s₁.heap.get? b=some o->H b=none->(i4 s₁.heap H).get? b=some o:=fun e n=>pN e n
    have noA':∀ {b:Addr} {o:Obj},s₁.heap.get? b=some o->(∀ its n,o.data≠.seq its n)->(∀ ps,o.data≠.fields ps)->H b=none:=fun {b o} e d1 d2=>by
      cases q:H b with
      | none=>rfl
      | some u =>
        rcases hA b (by rw [q];simp) with e' | e'
        · subst e';rw [ha] at e;cases e;exact absurd rfl (d1 _ _)
        · subst e';rw [hT] at e;cases e;exact absurd rfl (d2 _)
    have nsK:∀ {b:Addr} {m:Str->Option Value},s₁.heap.Ns b m->(i4 s₁.heap H).Ns b m:=fun {b m} ⟨o,es,ep,e,d,r⟩=>⟨o,es,ep,base_of e (noA' e (fun its n z=>by rw [d] at z;cases z) fun ps z=>by rw [d] at z;cases z),d,r⟩
    have hKb:K.In (i4 s₁.heap H):=fun b o e=>base_of (KX b o e) (by
      cases q:H b with
      | none=>rfl
      | some u =>
        rcases hA b (by rw [q];simp) with e' | e'
        · subst e';rw [hK (by rw [q];simp)] at e;cases e
        · subst e';rw [hTK] at e;cases e)
    have hBM:∃ bm ob,mg "__builtins__" = some (.ref bm)/\bm≠builtinsNs/\(i4 s₁.heap H).get? bm=some ob/\ob.cls=.type "module" /\ ob.dict=some builtinsNs/\ob.data=.plain:=by
      obtain ⟨bm,ob,h1,h2,h3,h4,h5,h6⟩:=hbm;exact ⟨bm,ob,h1,h2,base_of h3 (noA' h3 (fun its n z=>by rw [h6] at z;cases z) fun ps z=>by rw [h6] at z;cases z),h4,h5,h6⟩
    have hM:Mod K mg (i4 s₁.heap H):=⟨hKb,nsK hns,⟨mb,nsK hb,hbb⟩,let ⟨mc,h1,h2⟩:=hlim;⟨mc,nsK h1,h2⟩,hBM⟩
    have e0:qW P w K mg (i4 s₁.heap H) callerA [] s₁ H:=⟨rfl,hM,fun b o e=>rS e,Nat.le_of_eq (nV _ _),trivial,fun b hb=>absurd (show b∈([]:List Addr) from hb) (by simp),hok,.of_eq hg,tb H hHT⟩
    refine codeAny_mono ((F _ hKb (nsK hns)).run callerA [] s₁ H ⟨[.ref a],[]⟩ [.ref a] [.ref a] _ _ hr e0 (hbind s₁ (.ref a)) (.cons rfl .nil) (hsp H hO hS)) fun r s' h=>?_
    cases r with
    | error e=>exact (hCX H e s' h).elim
    | ok fl =>
      cases fl with
      | next=>exact False.elim h
      | brk=>exact False.elim h
      | cont=>exact False.elim h
      | ret u =>
        obtain ⟨v,H',os,bare,un,hok',r',q⟩:=h;have q':v=.bl true:=q;subst q';obtain rfl:u=Value.bool true:=r';have hold:∀ b o,s₁.heap.get? b=some o->asItWas s₁.heap s'.heap b o:=fun b o e=>by
          cases q:H b with
          | none=>exact .inl (un.keep b o e q (by intro z;exact absurd (show b∈([]:List Addr) from z) (by simp)) (by simp))
          | some u =>
            rcases hO b with z | ⟨ob,xs,z⟩ | ⟨rfl,qq,z⟩
            · rw [q] at z;cases z
            · have z2:=un.frzs b ob _ z;obtain ⟨e1,_⟩:=hok b _ z;obtain ⟨e2,_⟩:=hok' b _ z2;rw [e] at e1;cases e1;exact .inl e2
            · obtain ⟨ps,e2,_⟩:=hok' b _ (un.tbls b _ z);rw [hT] at e;cases e;exact .inr (.inl ⟨(hC.tab hT).isCodeTable,rfl,#[],ps,rfl,by rw [e2,Array.empty_append]⟩)
        exact ⟨rfl,⟨hold,fun b o e=>un.there b o e (by simp)⟩,os,bare⟩
  have tOk:∀ (H:Hp),H T=some (.tbl q0)->aQ P w H s₁.heap T (.tbl q0):=fun H _=>⟨#[],hT,trivial,fun pos cv z=>by cases z⟩
  cases hk:K.lookup a with
  | some o =>
    have e:=KX a o hk;rw [ha] at e;cases e;refine core (fun b=>if b=T then some (.tbl q0) else none) (fun b=>?_) (.inr ⟨_,vs.toArray,_,hk,rfl,rfl,rfl,by rw [List.size_toArray,lenV];exact hl,by simpa using rv⟩) (fun b u z=>?_) (fun b z=>?_) (fun z=>?_) (if_pos rfl)
    · by_cases hb:b=T
      · exact .inr (.inr ⟨hb,_,if_pos hb⟩)
      · exact .inl (if_neg hb)
    · by_cases hb:b=T
      · have z':=(if_pos hb).symm.trans z;cases z';subst hb;exact tOk _ (if_pos rfl)
      · have z':=(if_neg hb).symm.trans z;cases z'
    · by_cases hb:b=T
      · exact .inr hb
      · exact absurd (if_neg hb) z
    · exact absurd (if_neg haT) z
  | none =>
    refine core (fun b=>if b=T then some (.tbl q0) else if b=a then some (.frz { cls:=.type "list",data:=.seq vs.toArray } (.lst (ns.map V.int))) else none) (fun b=>?_) (.inl (.inr ⟨{ cls:=.type "list",data:=.seq vs.toArray },?_⟩)) (fun b u z=>?_) (fun b z=>?_) (fun _=>hk) (if_pos rfl)
    · by_cases hT':b=T
      · exact .inr (.inr ⟨hT',_,if_pos hT'⟩)
      · by_cases hb:b=a
        · exact .inr (.inl ⟨_,_,(if_neg hT').trans (if_pos hb)⟩)
        · exact .inl ((if_neg hT').trans (if_neg hb))
    · exact (if_neg haT).trans (if_pos rfl)
    · by_cases hT':b=T
      · have z':=(if_pos hT').symm.trans z;cases z';subst hT';exact tOk _ (if_pos rfl)
      · by_cases hb:b=a
        · have z':=((if_neg hT').trans (if_pos hb)).symm.trans z;cases z';subst hb;exact ⟨ha,by rw [List.length_map];exact hl,vs,_,rv,ha⟩
        · have z':=((if_neg hT').trans (if_neg hb)).symm.trans z;cases z'
    · by_cases hT':b=T
      · exact .inr hT'
      · by_cases hb:b=a
        · exact .inl hb
        · exact absurd ((if_neg hT').trans (if_neg hb)) z
noncomputable def ca (s:Stmt):Arguments:=match s with
  | .FunctionDef _ a _ _ _ _ _ _ _ _=>a
  | _=>{ posonlyargs:=[],args:=[],vararg:=none,kwonlyargs:=[],kw_defaults:=[],kwarg:=none,defaults:=[] }
noncomputable def bi (s:Stmt):List Stmt:=match s with
  | .FunctionDef _ _ b _ _ _ _ _ _ _=>b
  | _=>[]
noncomputable def ah (s:Stmt):Scope:=match s with
  | .FunctionDef _ _ _ _ _ _ sc _ _ _=>sc
  | _=>{ kind:=.function,names:=[],isGenerator:=false,isCoroutine:=false }
noncomputable abbrev yG:oK:=fun _ _ _ _ _ _=>False
structure gM (K:PySem.W.Frag) (x qual:Str) (st:Stmt) (f:Addr) (fd:FuncData):Prop where
  ex:∃ (oc:Value) (od:Option Addr) (kV doc pm:Value) (an:Option Addr) (cdv ct:Value) (osl:Array (Option Value)),
    fd=PySem.W.fnOf x qual (ca st) (bi st) (ah st) .none kV doc pm an cdv ct/\K.lookup f=some ⟨oc,od,.func fd,osl⟩/\PySem.W.codeIn K cdv qual=true
  kp:PySem.W.keepIn K (.ref f)=true
section
variable {P:Program} {w:World} {K:PySem.W.Frag} {mg:Str->Option Value} {base:Heap}
theorem gM.ok {x qual:Str} {st:Stmt} {f:Addr} {fd:FuncData} {N ps:List Str} {k:Nat} {sp:Sp} (F:gM K x qual st f fd) (S:aO N ps (ah st)) (len:∀ vs H Q E,sp vs H Q E->vs.length=ps.length)
    (hbody:∀ (cdv:Value) (A:Around) (outer:List Env) (s:Shared) (H:Hp) (vs:List V) (Q:VK) (E:XK),cH k (A.deeper (envOfC qual (ah st) s.heap.objs.size f cdv))->sp vs H Q E ->
      ∃ t,jE (ci yG P w K mg base N qual (ah st) f cdv A outer s H E).nox (bi st) t/\t { nx:=fun _ H'=>Q .non H',rt:=Q } (eG N vs) H):bj P w K mg base yG (k+1) f fd ps sp:=by
  obtain ⟨oc,od,kV,doc,pm,an,cdv,ct,osl,rfl,lk,hcd⟩:=F.ex;refine pJ lk hcd S len fun A outer s H vs Q E hr hsp=>?_
  obtain ⟨t,h,q⟩:=hbody cdv A outer s H vs Q E hr hsp;exact ⟨t,h.nox,q⟩
theorem gM.binds {x qual:Str} {st:Stmt} {f:Addr} {fd:FuncData} {ps:List Str} (F:gM K x qual st f fd)
    (h:∀ (kV doc pm:Value) (an:Option Addr) (cdv ct:Value) (us:List Value),us.length=ps.length->bindArgs (PySem.W.fnOf x qual (ca st) (bi st) (ah st) .none kV doc pm an cdv ct) ⟨us,[]⟩=pure (ps.zip us)):bQ K fd ps []:=by
  obtain ⟨oc,od,kV,doc,pm,an,cdv,ct,osl,rfl,lk,hcd⟩:=F.ex;exact .all (h kV doc pm an cdv ct)
theorem pL {x qual:Str} {st:Stmt} {f:Addr} {oc:Value} {od an:Option Addr} {osl:Array (Option Value)} {kV doc pm cdv ct:Value} (l:K.lookup f=some ⟨oc,od,.func (PySem.W.fnOf x qual (ca st) (bi st) (ah st) .none kV doc pm an cdv ct),osl⟩)
    (c:PySem.W.codeIn K cdv qual=true) (k:PySem.W.keepIn K (.ref f)=true):gM K x qual st f (PySem.W.fnOf x qual (ca st) (bi st) (ah st) .none kV doc pm an cdv ct):=⟨⟨oc,od,kV,doc,pm,an,cdv,ct,osl,rfl,l,c⟩,k⟩
end
section
variable {X:Cx}
theorem pv (i:Nat) {x:Str} {pos:Pos} (hN:X.N[i]?=some x:=by rfl) (hv:u4 X.env.scope x:=by first | exact Or.inl rfl | exact Or.inr (Or.inl rfl) | exact Or.inr (Or.inr rfl)) (hd:(x==("__debug__" : Str))=false:=by decide)
    (hcd:(x==("__classdict__" : Str))=false:=by decide):PE X (.Name x pos) (wL i):=j5 hN hv hd hcd
end
noncomputable def al (H H':Hp):Prop:=∀ b o,H b=some o->H' b=some o
theorem al.refl (H:Hp):al H H:=fun _ _ h=>h
theorem al.trans {H H1 H2:Hp} (a:al H H1) (b:al H1 H2):al H H2:=fun c o h=>b c o (a c o h)
theorem al.free {H H':Hp} (e:al H H') {l:Addr} (h:H' l=Option.none):H l=Option.none:=by
  cases q:H l with
  | none=>rfl
  | some o =>
    rw [e l o q] at h;cases h
theorem al.seq {K:PySem.W.Frag} {H H':Hp} {a:Addr} {xs:List V} (e:al H H') (h:iR K H a xs):iR K H' a xs:=by
  rcases h with (h | ⟨o,h⟩) | h
  · exact .inl (.inl (e _ _ h))
  · exact .inl (.inr ⟨o,e _ _ h⟩)
  · exact .inr h
section
variable {κ:Type} [DecidableEq κ]
noncomputable def fD (kvs:List (κ×V)) (k:κ):Option V:=(kvs.find? fun kv=>decide (kv.1=k)).map (·.2)
noncomputable def gn (kvs:List (κ×V)) (k:κ) (v:V):List (κ×V) :=
  if (kvs.any fun kv=>decide (kv.1=k))=true then kvs.map (fun kv=>if kv.1=k then (kv.1,v) else kv) else kvs++[(k,v)]
noncomputable def sO (kvs:List (κ×V)) (k:κ):List (κ×V):=kvs.filter fun kv=>decide (kv.1≠k)
theorem iP {p:κ×V} {r:List (κ×V)} {k:κ} (e:p.1=k):fD (p::r) k=some p.2:=by simp [fD,List.find?_cons,e]
theorem iO {p:κ×V} {r:List (κ×V)} {k:κ} (e:¬ p.1=k):fD (p::r) k=fD r k:=by simp [fD,List.find?_cons,e]
theorem lC (k:κ):∀ kvs:List (κ×V),(kvs.any fun kv=>decide (kv.1=k))=(fD kvs k).isSome
  | []=>rfl
  | p::r=>by
    rw [List.any_cons];by_cases e:p.1=k
    · simp only [iP e,decide_eq_true e,Bool.true_or,Option.isSome_some]
    · rw [iO e,decide_eq_false e,Bool.false_or];exact lC k r
theorem gQ (kvs:List (κ×V)) (k:κ) (v:V):(gn kvs k v).length<=kvs.length+1:=by
  unfold gn;split
  · rw [List.length_map];omega
  · rw [List.length_append,List.length_cons,List.length_nil];omega
theorem gt.isSome_eq {o:Option V} {u:Option Value} (r:gt o u):o.isSome=u.isSome:=by
  cases o with
  | none=>cases u with
    | none=>rfl
    | some _=>exact (show False from r).elim
  | some _=>cases u with
    | none=>exact (show False from r).elim
    | some _=>rfl
theorem gt.getD {o:Option V} {u:Option Value} {d:V} {d':Value} (r:gt o u) (rd:aJ d d'):aJ (o.getD d) (u.getD d'):=by
  cases o with
  | none=>cases u with
    | none=>exact rd
    | some _=>exact (show False from r).elim
  | some _=>cases u with
    | none=>exact (show False from r).elim
    | some _=>exact r
theorem KV.val {kvs:List (κ×V)} {vs:List (κ×Value)} (r:KV kvs vs) (k:κ):gt (fD kvs k) (valueAt vs k):=by
  unfold KV at r;induction r with
  | nil=>exact True.intro
  | @cons p q ps qs h t ih =>
    obtain ⟨h1,h2⟩:=h;by_cases e:p.1=k
    · have e':q.1=k:=h1.symm.trans e;have b:valueAt (q::qs) k=some q.2:=by simp [valueAt,List.find?_cons,e']
      rw [iP e,b];exact h2
    · have e':¬ q.1=k:=fun z=>e (h1.trans z)
      have b:valueAt (q::qs) k=valueAt qs k:=by simp [valueAt,List.find?_cons,e']
      rw [iO e,b];exact ih
theorem KV.any {kvs:List (κ×V)} {vs:List (κ×Value)} (r:KV kvs vs) (k:κ):(kvs.any fun kv=>decide (kv.1=k))=vs.any fun kv=>decide (kv.1=k):=by
  unfold KV at r;induction r with
  | nil=>rfl
  | cons h t ih=>rw [List.any_cons,List.any_cons,ih,h.1]
theorem KV.repl {kvs:List (κ×V)} {vs:List (κ×Value)} (r:KV kvs vs) (k:κ) {y:V} {u:Value} (ry:aJ y u) :
    KV (kvs.map fun kv=>if kv.1=k then (kv.1,y) else kv) (vs.map fun kv=>if kv.1=k then (kv.1,u) else kv):=by
  unfold KV at r ⊢;induction r with
  | nil=>exact .nil
  | @cons p q ps qs h t ih =>
    rw [List.map_cons,List.map_cons];refine .cons ?_ ih;obtain ⟨h1,h2⟩:=h;by_cases e:p.1=k
    · rw [if_pos e,if_pos (h1.symm.trans e)];exact ⟨h1,ry⟩
    · rw [if_neg e,if_neg (fun z=>e (h1.trans z))];exact ⟨h1,h2⟩
theorem KV.put {kvs:List (κ×V)} {vs:List (κ×Value)} (r:KV kvs vs) (k:κ) {y:V} {u:Value} (ry:aJ y u):KV (gn kvs k y) (stored vs k u):=by
  unfold gn stored;rw [r.any k];by_cases e:(vs.any fun kv=>decide (kv.1=k))=true
  · rw [if_pos e,if_pos e];exact r.repl k ry
  · rw [if_neg e,if_neg e];exact Paired.snoc r ⟨rfl,ry⟩
theorem KV.drop {kvs:List (κ×V)} {vs:List (κ×Value)} (r:KV kvs vs) (k:κ):KV (sO kvs k) (without vs k):=by
  unfold KV at r ⊢;unfold sO without;induction r with
  | nil=>exact .nil
  | @cons p q ps qs h t ih =>
    obtain ⟨h1,h2⟩:=h;rw [List.filter_cons,List.filter_cons];by_cases e:p.1=k
    · have a:¬ decide (p.1≠k)=true:=by simp [e]
      have b:¬ decide (q.1≠k)=true:=by simp [h1.symm.trans e]
      rw [if_neg a,if_neg b];exact ih
    · have e':¬ q.1=k:=fun z=>e (h1.trans z)
      have a:decide (p.1≠k)=true:=by simp [e]
      have b:decide (q.1≠k)=true:=by simp [e']
      rw [if_pos a,if_pos b];exact .cons ⟨h1,h2⟩ ih
theorem KV.keys {kvs:List (κ×V)} {vs:List (κ×Value)} (r:KV kvs vs):kvs.map (·.1)=vs.map (·.1):=by
  unfold KV at r;induction r with
  | nil=>rfl
  | cons h t ih=>rw [List.map_cons,List.map_cons,ih,h.1]
theorem KV.length {kvs:List (κ×V)} {vs:List (κ×Value)} (r:KV kvs vs):kvs.length=vs.length:=Paired.length r
end
theorem pW {P:Program} {w:World} {k:bu} {u:Value} (r:aJ (kV k) u):(bA P w).is k u=true:=by
  cases k with
  | inl i=>obtain ⟨t,e⟩:=(show ∃ t,u=Value.int i t from r);subst e;exact lg P w i t
  | inr x=>obtain ⟨t,e⟩:=(show ∃ t,u=Value.str x t from r);subst e;exact lh P w x t
theorem js {P:Program} {w:World}:∀ {ks:List bu} {us:List Value},aF (ks.map kV) us->ItemsAre (bA P w) ks us
  | [],_,r=>by rw [List.map_nil] at r;cases r;exact .nil
  | k::ks,_,r=>by
    rw [List.map_cons] at r;cases r with
    | cons h t=>exact .cons (pW h) (js t)
noncomputable abbrev KT (H:Hp):List (List bu×V)->List (List bu×Addr×Value)->Prop:=Paired fun p q=>p.1=q.1/\H q.2.1=some (.tup (p.1.map kV))/\aJ p.2 q.2.2
theorem KT.val {H:Hp} {kvs:List (List bu×V)} {xs:List (List bu×Addr×Value)} (r:KT H kvs xs) (k:List bu):gt (fD kvs k) ((atKey xs k).map (·.2)):=by
  induction r with
  | nil=>exact True.intro
  | @cons p q ps qs h t ih =>
    obtain ⟨h1,_,h2⟩:=h;by_cases e:p.1=k
    · have e':q.1=k:=h1.symm.trans e;have b:atKey (q::qs) k=some q.2:=by simp [atKey,List.find?_cons,e']
      rw [iP e,b];exact h2
    · have e':¬ q.1=k:=fun z=>e (h1.trans z)
      have b:atKey (q::qs) k=atKey qs k:=by simp [atKey,List.find?_cons,e']
      rw [iO e,b];exact ih
theorem KT.repl {H:Hp} {kvs:List (List bu×V)} {xs:List (List bu×Addr×Value)} (r:KT H kvs xs) (k:List bu) {y:V} {u:Value} (ry:aJ y u) :
    KT H (kvs.map fun kv=>if kv.1=k then (kv.1,y) else kv) (xs.map (putAt k u)):=by
  induction r with
  | nil=>exact .nil
  | @cons p q ps qs h t ih =>
    rw [List.map_cons,List.map_cons];refine .cons ?_ ih;obtain ⟨h1,h2,h3⟩:=h;unfold putAt;by_cases e:p.1=k
    · rw [if_pos e,if_pos (h1.symm.trans e)];exact ⟨h1,h2,ry⟩
    · rw [if_neg e,if_neg (fun z=>e (h1.trans z))];exact ⟨h1,h2,h3⟩
theorem KT.put {H:Hp} {kvs:List (List bu×V)} {xs:List (List bu×Addr×Value)} (r:KT H kvs xs) (k:List bu) {b:Addr} {y:V} {u:Value} (hb:H b=some (.tup (k.map kV))) (ry:aJ y u) :
    KT H (gn kvs k y) (storedH xs k b u):=by
  have e:(kvs.any fun kv=>decide (kv.1=k))=(atKey xs k).isSome:=by
    rw [lC,(r.val k).isSome_eq,Option.isSome_map]
  unfold gn storedH;rw [e];by_cases q:(atKey xs k).isSome=true
  · rw [if_pos q,if_pos q];exact r.repl k ry
  · rw [if_neg q,if_neg q];exact Paired.snoc r ⟨rfl,hb,ry⟩
theorem KT.keeps {H H':Hp} {kvs:List (List bu×V)} {xs:List (List bu×Addr×Value)} (r:KT H kvs xs) (ht:∀ b ys,H b=some (.tup ys)->H' b=some (.tup ys)):KT H' kvs xs :=
  Paired.mapP r fun _ _ z=>⟨z.1,ht _ _ z.2.1,z.2.2⟩
section
variable {P:Program} {w:World} {H:Hp} {h:Heap} {a:Addr}
theorem sZ {u:HO} (ok:dk P w H h) (e:Rd H a u):aQ P w H h a u:=e.ok ok
theorem kW {kvs:List (bu×V)} (ok:dk P w H h) (e:Rd H a (.dK kvs)):kvs.length<=sizeLine/\(a==sysModules)=false/\∃ vs,KV kvs vs/\h.DictOf (bA P w) a vs :=
  show aQ P w H h a (.dK kvs) from sZ ok e
theorem vt {kvs:List (bu×V)} (ok:dk P w H h) (e:H a=some (.dK kvs)):kvs.length<=sizeLine/\(a==sysModules)=false/\∃ vs,KV kvs vs/\h.DictOf (bA P w) a vs:=kW ok (.inl e)
theorem l8 {ks:List bu} (ok:dk P w H h) (e:H a=some (.tup (ks.map kV))):(tupleKind (bA P w)).is h ks a:=by
  obtain ⟨_,its,r,o,h1,h2,⟨n,h3⟩,_⟩:=(show aQ P w H h a (.tup (ks.map kV)) from ok a _ e)
  exact ⟨o,its.toArray,n,h1,h2,h3,by simpa using js r⟩
theorem pF {kvs:List (List bu×V)} (ok:dk P w H h) (e:Rd H a (.dT kvs)):kvs.length<=sizeLine/\(a==sysModules)=false /\
    ∃ xs,KT H kvs xs/\h.DictOfH (tupleKind (bA P w)) a xs:=by
  obtain ⟨z,y,xs,r,o,es,ep,h1,h2,h3,h4,h5⟩:=(show aQ P w H h a (.dT kvs) from sZ ok e)
  refine ⟨z,y,xs,r,o,es,ep,h1,h2,h3,h4,fun x hx=>?_,h5⟩;have all:∀ {l:List (List bu×V)} {m:List (List bu×Addr×Value)},KT H l m->∀ x∈m,(tupleKind (bA P w)).is h x.1 x.2.1:=by
    intro l m q;induction q with
    | nil=>intro x hx;exact nomatch hx
    | @cons p q ps qs hq t ih =>
      intro x hx;rcases List.mem_cons.mp hx with e | hx
      · subst e;exact l8 ok (by rw [<- hq.1];exact hq.2.1)
      · exact ih x hx
  exact all r x hx
theorem vx {kvs:List (List bu×V)} (ok:dk P w H h) (e:H a=some (.dT kvs)):kvs.length<=sizeLine/\(a==sysModules)=false /\
    ∃ xs,KT H kvs xs/\h.DictOfH (tupleKind (bA P w)) a xs:=pF ok (.inl e)
end
noncomputable def kh (H:Hp) (a:Addr) (y:V) (r:Option V):Prop :=
  (∃ kvs k,Rd H a (.dK kvs)/\y=kV k/\r=fD kvs k)\/∃ kvs k b,Rd H a (.dT kvs)/\y=.ref b/\H b=some (.tup (k.map kV))/\r=fD kvs k
noncomputable def lH (H:Hp) (a:Addr) (y v:V) (H':Hp):Prop :=
  (∃ kvs k,H a=some (.dK kvs)/\y=kV k/\kvs.length < sizeLine/\H'=bP H a (.dK (gn kvs k v))) \/
  ∃ kvs k b,H a=some (.dT kvs)/\y=.ref b/\H b=some (.tup (k.map kV))/\kvs.length < sizeLine/\H'=bP H a (.dT (gn kvs k v))
theorem kh.k {H:Hp} {a:Addr} {kvs:List (bu×V)} {k:bu} (e:H a=some (.dK kvs)):kh H a (kV k) (fD kvs k):=.inl ⟨kvs,k,.inl e,rfl,rfl⟩
theorem kh.t {H:Hp} {a b:Addr} {kvs:List (List bu×V)} {k:List bu} (e:H a=some (.dT kvs)) (eb:H b=some (.tup (k.map kV))):kh H a (.ref b) (fD kvs k):=.inr ⟨kvs,k,b,.inl e,rfl,eb,rfl⟩
theorem lH.k {H:Hp} {a:Addr} {kvs:List (bu×V)} {k:bu} {v:V} (e:H a=some (.dK kvs)) (hl:kvs.length < sizeLine):lH H a (kV k) v (bP H a (.dK (gn kvs k v))):=.inl ⟨kvs,k,e,rfl,hl,rfl⟩
theorem lH.t {H:Hp} {a b:Addr} {kvs:List (List bu×V)} {k:List bu} {v:V} (e:H a=some (.dT kvs)) (eb:H b=some (.tup (k.map kV))) (hl:kvs.length < sizeLine) :
    lH H a (.ref b) v (bP H a (.dT (gn kvs k v))):=.inr ⟨kvs,k,b,e,rfl,eb,hl,rfl⟩
section
variable {X:Cx} {pins:List (Addr×Obj)} {σ:St} {H:Hp} {s:Shared} {a:Addr} {y v:V} {u r:Value} {o:Option V} {A:Around} {E:Value->Shared->Prop}
theorem ap.big (I:ap X pins σ H s):sysModules < s.heap.objs.size:=by
  have h:mainGlobals < s.heap.objs.size:=(I.mod.glob.keeps I.bk).lt;exact Nat.lt_trans (by decide) h
theorem nQ {Q:Value->Shared->Prop} (hu:A.units+1 < cLine) (I:ap X pins σ H s) (g:kh H a y (some v)) (ry:aJ y u) (h:∀ w' s',ap X pins σ H s'->aJ v w'->Q w' s') :
    wpAny (model X.prog X.w) A (getItem (.ref a) u) Q E s:=by
  rcases g with ⟨kvs,k,e,ey,l⟩ | ⟨kvs,k,b,e,ey,eb,l⟩
  · subst ey;obtain ⟨z,hd,vs,rel,dd⟩:=kW I.hok e;obtain ⟨w',hw,rw'⟩:=gt.some_of (v:=v) (o:=valueAt vs k) (by rw [l];exact rel.val k);exact wpAny_getItem_of (pW ry) dd.mapOf hw (h w' _ (I.tok _) rw')
  · subst ey;cases (show u=Value.ref b from ry);obtain ⟨z,hd,xs,rel,dd⟩:=pF I.hok e;obtain ⟨w',hw,rw'⟩:=gt.some_of (v:=v) (o:=(atKey xs k).map (·.2)) (by rw [l];exact rel.val k);obtain ⟨p,hp,hp2⟩:=Option.map_eq_some_iff.mp hw;refine wpAny_getItem_heap (tupleKind_room_in1 hu) (l8 I.hok eb) dd hp ?_;rw [hp2];exact h w' _ (I.tok _) rw'
theorem mQ {h':Heap} {t':Nat} {ob:HO} (I:ap X pins σ H s) (mu:vg (H a)) (hs:Heap.SameBut a s.heap h') (he:∃ q,h'.get? a=some q) (new:aQ X.prog X.w (bP H a ob) h' a ob) :
    ap X pins σ (bP H a ob) { s with heap:=h',toks:=t' } :=
  I.write (x:=a) (e:=a) mu (.inl rfl) (fun b q hb z=>(hs.2 b hb).trans z) he new
theorem tQ {P:Program} {w:World} {H':Hp} {h':Heap} {kvs:List (bu×V)} {vs:List (bu×Value)} (z:kvs.length<=sizeLine) (hd:(a==sysModules)=false) (rel:KV kvs vs) (dd:h'.DictOf (bA P w) a vs) :
    aQ P w H' h' a (.dK kvs):=⟨z,hd,vs,rel,dd⟩
theorem nR {H':Hp} {Q:Unit->Shared->Prop} (hu:A.units+1 < cLine) (I:ap X pins σ H s) (g:lH H a y v H') (ry:aJ y u) (rv:aJ v r) (h:∀ s',ap X pins σ H' s'->Q () s') :
    wpAny (model X.prog X.w) A (setItem (.ref a) u r) Q E s:=by
  rcases g with ⟨kvs,k,e,ey,l,eH⟩ | ⟨kvs,k,b,e,ey,eb,l,eH⟩
  · subst ey eH;obtain ⟨z,hd,vs,rel,dd⟩:=vt I.hok e;have hz:vs.length<=sizeLine:=by rw [<- rel.length];exact z
    have hl:(gn kvs k v).length<=sizeLine:=by have:=gQ kvs k v;omega
    refine wpAny_setItem_pairs (hsz:=hz) (pW ry) dd fun h' dd' hs=>h _ ?_
    have he:∃ q,h'.get? a=some q:=let ⟨q,_,_,hq,_⟩:=dd';⟨q,hq⟩
    exact mQ I (by rw [e];exact True.intro) hs he (tQ hl hd (rel.put k rv) dd')
  · subst ey eH;cases (show u=Value.ref b from ry);obtain ⟨z,hd,xs,rel,dd⟩:=vx I.hok e;have hz:xs.length<=sizeLine:=by rw [<- Paired.length rel];exact z
    have hl:(gn kvs k v).length<=sizeLine:=by have:=gQ kvs k v;omega
    refine wpAny_setItem_heap (hsz:=hz) (tupleKind_room_in1 hu) (l8 I.hok eb) dd fun h' dd' hs=>h _ ?_
    obtain ⟨q,es,ep,hq,h2,h3,h4,_,h5⟩:=dd';refine mQ I (by rw [e];exact True.intro) hs ⟨q,hq⟩ ⟨hl,hd,_,(rel.put k eb rv).keeps fun c ys ec=>?_,q,es,ep,hq,h2,h3,h4,h5⟩;rw [am (vX ec e (fun z=>nomatch z))];exact ec
end
section
variable {X:Cx} {pins:List (Addr×Obj)} {σ:St} {H:Hp} {s:Shared} {a:Addr} {kvs:List (bu×V)} {k:bu} {u:Value} {A:Around} {E:Value->Shared->Prop}
theorem vq {Q:Value->Shared->Prop} (I:ap X pins σ H s) (e:Rd H a (.dK kvs)) (h:∀ t s',ap X pins σ H s'->Q (.int kvs.length t) s'):wpAny (model X.prog X.w) A (call (.builtin "len") [.ref a]) Q E s:=by
  obtain ⟨z,hd,vs,rel,dd⟩:=kW I.hok e;refine call_len_dict hd dd (by rw [<- rel.length];rw [sizeLine_eq] at z;omega) ?_;rw [<- rel.length];exact h _ _ (I.tok _)
end
theorem kU {X:Cx} {pins:List (Addr×Obj)} {σ:St} {H:Hp} {s:Shared} {a:Addr} {y:V} {o:Option V} (I:ap X pins σ H s) (g:kh H a y o):s.TypeIs (.ref a) "dict" := by
  rcases g with ⟨kvs,k,e,_,_⟩ | ⟨kvs,k,b,e,_,_,_⟩
  · obtain ⟨_,_,vs,_,dd⟩:=kW I.hok e;exact dd.typeIs
  · obtain ⟨_,_,xs,_,dd⟩:=pF I.hok e;exact dd.typeIs
noncomputable def wu (td ty tv:TE):TS:=fun D σ H=>tv σ H fun v H1=>td σ H1 fun x H2=>ty σ H2 fun y H3=>∃ a H4,x=.ref a/\lH H3 a y v H4/\D.nx σ H4
section
variable {X:Cx} {o i e value:Expr} {pos pos' tpos:Pos} {td ty tv:TE}
theorem sk (hu:X.A.units+1 < cLine) (ho:PE X o td) (hi:PE X i ty) (hv:PE X value tv) (hs:swapsWith value (some (.Subscript o i pos')) pos.line X.env=pure false) :
    PS X (.Assign [.Subscript o i pos'] value pos) (wu td ty tv):=by
  intro pins s σ H D I h;refine wpAny_Assign_Subscript (bX (hv pins s σ H _ I h) fun r s1 ⟨v,H1,I1,rv,q1⟩=>bX (ho pins s1 σ H1 _ I1 q1) fun u s2 ⟨x,H2,I2,rx,q2⟩=>bX (hi pins s2 σ H2 _ I2 q2) fun iv s3 zq0=>?_) hs;obtain ⟨y,H3,I3,ry,a,H4,ex,g,q3⟩:=zq0;subst ex;obtain rfl:u=Value.ref a:=rx;exact nR hu I3 g ry rv fun s4 I4=>⟨σ,H4,I4,q3⟩
end
theorem pE {P:Program} {w:World} {H:Hp} (h:Heap) (hb:sysModules < h.objs.size):aQ P w H (h.push { cls:=.type "dict",data:=.dict #[] }) h.objs.size (.dK []) :=
  ⟨Nat.zero_le _,beq_eq_false_iff_ne.mpr (Ne.symm (Nat.ne_of_lt hb)),[],.nil,Heap.DictOf.new h⟩
noncomputable def uR:TE:=fun _ H Q=>∀ p,H p=none->Q (.ref p) (bP H p (.dK []))
section
variable {X:Cx} {pos:Pos}
theorem qk:PE X (.Dict [] [] pos) uR:=fun pins s σ H Q I h =>
  wpAny_Dict_empty ⟨.ref s.heap.objs.size,_,I.laid (a:=s.heap.objs.size) (o:=.dK []) (t':=s.toks) (fun _ _ q=>Heap.get?_push_of_some _ q) (Nat.le_refl _) (pE s.heap I.big),rfl,h _ (I.hok.fresh (Nat.le_refl _))⟩
end
end L2
set_option maxHeartbeats 4000000
set_option genInjectivity true
namespace D2
open PySem PySem.Spec PyProof.Rows L2
theorem n6 {α:Type} {n:Nat} {us:List α} (h:us.length=n+1):∃ a r,us=a::r/\r.length=n:=by
  cases us with
  | nil=>cases h
  | cons a r=>exact ⟨a,r,rfl,Nat.succ.inj h⟩
noncomputable def kC (base:Heap) (l:List Env) (e:Addr) (cls a0:Value) (h:Heap):Prop:=base.StaysIn h/\base.get? e=none/\h.FunFrames base l/\∃ fl,h.TracedAtW base e cls a0 fl
theorem kC.of {base h:Heap} {l:List Env} {e:Addr} {cls a0:Value} (x:Heap.FlyingW base l e cls a0 h):kC base l e cls a0 h:=⟨x.1,x.2.1,x.2.2.1,.none,x.2.2.2⟩
section
variable {M:Model} {A:Around} {E:Value->Shared->Prop} {s:Shared} {base:Heap} {l:List Env} {env:Env} {outer:List Env} {L e:Addr} {cls a0:Value} {Q:Unit->Shared->Prop}
theorem sJ {h:Heap}:h.UpToSlots h:=fun b o hb _=>⟨o.slots,hb⟩
theorem lB (hfr:A.frames=some (env::outer)) (hf:env.frame=some L) (t:kC base (env::outer) e cls a0 s.heap)
    (hQ:∀ h',kC base (env::outer) e cls a0 h'->s.heap.UpToSlots h'->Q () { s with heap:=h' }):wpAny M A (noteFrame (.ref e) env) Q E s:=by
  have t':=t;obtain ⟨hkb,hen,hl,fl,oe,vs,T,oT,ts,he,⟨hcls,h0⟩,hd,h1,hnT,hTe,hT,hdT,h3⟩:=t;subst hcls;unfold noteFrame;simp only [hf];refine wpAny_bind (wpAny_field he hd h1 ?_);rw [if_pos (show (Value.ref T != Value.none)=true from by simp)];refine wpAny_bind (wpAny_field hT hdT h3 ?_);by_cases hfl:(fl==rawInt L)=true
  · rw [if_pos hfl];exact wpAny_pure (hQ s.heap t' sJ)
  · rw [if_neg hfl];refine wpAny_bind (wpAny_setField hT hdT (Array.getElem?_eq_some_iff.mp h3).1 ?_);have other:∀ b,b≠T->(s.heap.update T (Obj.mapFields (·.setIfInBounds 3 Value.none))).get? b=s.heap.get? b:=fun b hb=>Heap.get?_update_other _ _ (Ne.symm hb)
    have noRecord:∀ b o,s.heap.get? b=some o->(∀ vs,o.data≠.fields vs)->b≠T:=fun b o hb hnf q=>by
      rw [q,hT] at hb;injection hb with hb;subst hb;exact hnf ts hdT
    refine wpAny_entryW hfr (hl.of_keeps fun b o hb hnf=>⟨o,(other b (noRecord b o hb hnf)).trans hb,rfl⟩) hf ((other e (Ne.symm hTe)).trans he)
      (fun b o hbo=>(other b fun q=>by rw [q,hnT] at hbo;cases hbo).trans (hkb b o hbo)) hen hd (Array.getElem?_eq_some_iff.mp h1).1 h0
      fun h' ⟨x1,x2,x3,x4⟩=>hQ h' ⟨x1,hen,x2,_,x3⟩ fun b o hb hnf=>x4 b o ((other b (noRecord b o hb hnf)).trans hb) hnf
theorem mr (f:Option Addr) (t:kC base l e cls a0 s.heap) (hQ:∀ h',kC base l e cls a0 h'->s.heap.UpToSlots h'->Q () { s with heap:=h' }):wpAny M A (setFlight (.ref e) f) Q E s:=by
  obtain ⟨hkb,hen,hl,fl,oe,vs,T,oT,ts,he,hcls,hd,h1,hnT,hTe,hT,hdT,h3⟩:=t;have hsz3:3 < ts.size:=(Array.getElem?_eq_some_iff.mp h3).1;have other:∀ b,b≠T->(s.heap.update T (Obj.mapFields (·.setIfInBounds 3 (f.elim Value.none fun f=>rawInt f)))).get? b=s.heap.get? b :=
    fun b hb=>Heap.get?_update_other _ _ (Ne.symm hb)
  have noRecord:∀ b o,s.heap.get? b=some o->(∀ vs,o.data≠.fields vs)->b≠T:=fun b o hb hnf q=>by
    rw [q,hT] at hb;injection hb with hb;subst hb;exact hnf ts hdT
  unfold setFlight;refine wpAny_bind (wpAny_field he hd h1 ?_);rw [if_pos (show (Value.ref T != Value.none)=true from by simp)];refine wpAny_setField hT hdT hsz3 (hQ _ ⟨fun b o hbo=>(other b fun q=>by rw [q,hnT] at hbo;cases hbo).trans (hkb b o hbo),hen,
    hl.of_keeps fun b o hb hnf=>⟨o,(other b (noRecord b o hb hnf)).trans hb,rfl⟩,(f.elim Value.none fun f=>rawInt f),?_⟩ fun b o hb hnf=>⟨o.slots,(other b (noRecord b o hb hnf)).trans hb⟩)
  exact ⟨oe,vs,T,_,_,(other e (Ne.symm hTe)).trans he,hcls,hd,h1,hnT,hTe,Heap.get?_update_self _ hT (Obj.isFreed_of_fields (Obj.data_mapFields hdT _)),Obj.data_mapFields hdT _,by simp [hsz3]⟩
theorem qK (t:kC base l e cls a0 s.heap) (hQ:∀ h',Heap.FlyingW base l e cls a0 h'->s.heap.UpToSlots h'->Q () { s with heap:=h' }):wpAny M A (setFlight (.ref e) none) Q E s:=by
  obtain ⟨hkb,hen,hl,fl,ht⟩:=t;exact wpAny_setFlight_noneW hkb hl ht fun h' k1 k2 k3 k4=>hQ h' ⟨k1,hen,k2,k3⟩ fun b o hb hn=>⟨o.slots,k4 b o hb hn⟩
theorem oG (hfr:A.frames=some (env::outer)) (hf:env.frame=some L) (t:kC base (env::outer) e cls a0 s.heap)
    (hQ:∀ h',Heap.FlyingW base outer e cls a0 h'->s.heap.UpToSlots h'->Q () { s with heap:=h' }):wpAny M A (leaving env (.ref e)) Q E s:=by
  unfold leaving;refine wpAny_bind (lB hfr hf t fun h1 t1 u1=>?_);refine qK (s:={ s with heap:=h1 }) t1 fun h2 t2 u2=>?_
  obtain ⟨k1,k2,⟨_,_,k3⟩,k4⟩:=t2;exact hQ h2 ⟨k1,k2,k3,k4⟩ (u1.trans u2)
theorem qJ {α:Type} {k:Value->Sem α} {Q:α->Shared->Prop} (t:kC base l e cls a0 s.heap) (hQ:∀ T,wpAny M A (k (.ref T)) Q E s):wpAny M A (field (.ref e) 1>>=k) Q E s:=by
  obtain ⟨hkb,hen,hl,fl,oe,vs,T,oT,ts,he,hcls,hd,h1,r⟩:=t;exact wpAny_bind (wpAny_field he hd h1 (hQ T))
theorem qL {α:Type} {what:String} {Q:α->Shared->Prop} (t:kC base l e cls a0 s.heap) (hQ:∀ h',kC base l e cls a0 h'->s.heap.UpToSlots h'->E (.ref e) { s with heap:=h' }):wpAny M A (PySem.passOn what (.ref e) env:Sem α) Q E s:=by
  unfold PySem.passOn;refine qJ t fun T=>?_
  rw [if_neg (show ¬ ((Value.ref T==Value.none)=true) from by simp)];refine wpAny_bind (mr _ t fun h' t' u=>?_);exact wpAny_throw (hQ h' t' u)
theorem kC.first {h:Heap} (x:kC base l e cls a0 h):∃ oe vs,h.get? e=some oe/\oe.cls=cls/\oe.data=.fields vs/\vs[0]?=some a0:=by
  obtain ⟨_,_,_,_,oe,vs,_,_,_,he,hc,hd,_⟩:=x;exact ⟨oe,vs,he,hc.1,hd,hc.2⟩
end
noncomputable abbrev St:=L2.St
noncomputable abbrev ap:=@L2.ap
noncomputable def cS:bu->PyData
  | .inl i=>.int i
  | .inr x=>.str x
mutual
noncomputable def Rp (H:Hp):PyData->V->Prop
  | .none,v=>v=.non
  | .bool b,v=>v=.bl b
  | .int i,v=>v=.int i
  | .str x,v=>v=.str x
  | .tuple ds,v=>∃ a vs,v=.ref a/\H a=some (.tup vs)/\aI H ds vs
  | .list ds,v=>∃ a o vs,v=.ref a/\H a=some (.frz o (.lst vs))/\aI H ds vs
  | .dict kvs,v=>(∃ a o ks,v=.ref a/\H a=some (.frz o (.dK ks))/\bU H kvs ks)\/∃ a o C dx fs,v=.ref a/\H a=some (.frz o (.ins C dx fs))/\qR H C fs kvs
noncomputable def aI (H:Hp):List PyData->List V->Prop
  | [],vs=>vs=[]
  | d::ds,vs=>∃ v r,vs=v::r/\Rp H d v/\aI H ds r
noncomputable def bU (H:Hp):List (PyData×PyData)->List (bu×V)->Prop
  | [],ks=>ks=[]
  | kd::kvs,ks=>∃ x v r,ks=(x,v)::r/\qZ H kd x v/\bU H kvs r
noncomputable def qZ (H:Hp):PyData×PyData->bu->V->Prop
  | (k,d),x,v=>k=cS x/\Rp H d v
noncomputable def qR (H:Hp) (C:Addr) (fs:List (Str×V)):List (PyData×PyData)->Prop
  | []=>False
  | kd::kvs=>kd=(.none,.int C)/\qY H kvs fs
noncomputable def qY (H:Hp):List (PyData×PyData)->List (Str×V)->Prop
  | [],fs=>fs=[]
  | kd::kvs,fs=>∃ x v r,fs=(x,v)::r/\u0 H kd x v/\qY H kvs r
noncomputable def u0 (H:Hp):PyData×PyData->Str->V->Prop
  | (k,d),x,v=>k=.str x/\Rp H d v
end
noncomputable def iA:List (PyData×PyData)->Bool
  | (.none,_)::_=>true
  | _=>false
noncomputable def Kp (H H':Hp):Prop:=(∀ b xs,H b=some (.tup xs)->H' b=some (.tup xs))/\∀ b o u,H b=some (.frz o u)->H' b=some (.frz o u)
theorem Kp.trans {H H1 H2:Hp} (a:Kp H H1) (b:Kp H1 H2):Kp H H2:=⟨fun c xs h=>b.1 c xs (a.1 c xs h),fun c o u h=>b.2 c o u (a.2 c o u h)⟩
theorem Kp.of {H H':Hp} (s:al H H'):Kp H H':=⟨fun b xs h=>s b _ h,fun b o u h=>s b _ h⟩
mutual
theorem Rp.kp {H H':Hp} (k:Kp H H'):∀ (d:PyData) (v:V),Rp H d v->Rp H' d v
  | .none,v,h=>by simpa only [Rp] using h
  | .bool b,v,h=>by simpa only [Rp] using h
  | .int i,v,h=>by simpa only [Rp] using h
  | .str x,v,h=>by simpa only [Rp] using h
  | .tuple ds,v,h=>by
    simp only [Rp] at h ⊢;obtain ⟨a,vs,e,ha,r⟩:=h;exact ⟨a,vs,e,k.1 _ _ ha,aI.kp k ds vs r⟩
  | .list ds,v,h=>by
    simp only [Rp] at h ⊢;obtain ⟨a,o,vs,e,ha,r⟩:=h;exact ⟨a,o,vs,e,k.2 _ _ _ ha,aI.kp k ds vs r⟩
  | .dict kvs,v,h=>by
    simp only [Rp] at h ⊢;rcases h with ⟨a,o,ks,e,ha,r⟩ | ⟨a,o,C,dx,fs,e,ha,r⟩
    · exact .inl ⟨a,o,ks,e,k.2 _ _ _ ha,bU.kp k kvs ks r⟩
    · exact .inr ⟨a,o,C,dx,fs,e,k.2 _ _ _ ha,qR.kp k C fs kvs r⟩
theorem aI.kp {H H':Hp} (k:Kp H H'):∀ (ds:List PyData) (vs:List V),aI H ds vs->aI H' ds vs
  | [],vs,h=>by simpa only [aI] using h
  | d::ds,vs,h=>by
    simp only [aI] at h ⊢;obtain ⟨v,r,e,h1,h2⟩:=h;exact ⟨v,r,e,Rp.kp k d v h1,aI.kp k ds r h2⟩
theorem bU.kp {H H':Hp} (k:Kp H H'):∀ (kvs:List (PyData×PyData)) (ks:List (bu×V)),bU H kvs ks->bU H' kvs ks
  | [],ks,h=>by simpa only [bU] using h
  | kd::kvs,ks,h=>by
    simp only [bU] at h ⊢;obtain ⟨x,v,r,e,h1,h2⟩:=h;exact ⟨x,v,r,e,qZ.kp k kd x v h1,bU.kp k kvs r h2⟩
theorem qZ.kp {H H':Hp} (k:Kp H H'):∀ (kd:PyData×PyData) (x:bu) (v:V),qZ H kd x v->qZ H' kd x v
  | (c,d),x,v,h=>by
    simp only [qZ] at h ⊢;exact ⟨h.1,Rp.kp k d v h.2⟩
theorem qR.kp {H H':Hp} (k:Kp H H') (C:Addr) (fs:List (Str×V)):∀ (kvs:List (PyData×PyData)),qR H C fs kvs->qR H' C fs kvs
  | [],h=>by simpa only [qR] using h
  | kd::kvs,h=>by
    simp only [qR] at h ⊢;exact ⟨h.1,qY.kp k kvs fs h.2⟩
theorem qY.kp {H H':Hp} (k:Kp H H'):∀ (kvs:List (PyData×PyData)) (fs:List (Str×V)),qY H kvs fs->qY H' kvs fs
  | [],fs,h=>by simpa only [qY] using h
  | kd::kvs,fs,h=>by
    simp only [qY] at h ⊢;obtain ⟨x,v,r,e,h1,h2⟩:=h;exact ⟨x,v,r,e,u0.kp k kd x v h1,qY.kp k kvs r h2⟩
theorem u0.kp {H H':Hp} (k:Kp H H'):∀ (kd:PyData×PyData) (x:Str) (v:V),u0 H kd x v->u0 H' kd x v
  | (c,d),x,v,h=>by
    simp only [u0] at h ⊢;exact ⟨h.1,Rp.kp k d v h.2⟩
end
theorem Rp.mono {H H':Hp} {d:PyData} {v:V} (h:Rp H d v) (s:al H H'):Rp H' d v:=Rp.kp (Kp.of s) d v h
theorem aI.mono {H H':Hp} {ds:List PyData} {vs:List V} (h:aI H ds vs) (s:al H H'):aI H' ds vs:=aI.kp (Kp.of s) ds vs h
noncomputable def fE (H:Hp):PyData->V->Prop
  | .list ds,v=>∃ a vs,v=.ref a/\H a=some (.lst vs)/\aI H ds vs
  | .dict kvs,v=>∃ a ks,v=.ref a/\H a=some (.dK ks)/\bU H kvs ks
  | _,_=>False
theorem fE.mono {H H':Hp} {d:PyData} {v:V} (h:fE H d v) (s:al H H'):fE H' d v:=by
  cases d <;> simp only [fE] at h ⊢
  · obtain ⟨a,vs,e,ha,r⟩:=h;exact ⟨a,vs,e,s _ _ ha,aI.mono r s⟩
  · obtain ⟨a,vs,e,ha,r⟩:=h;exact ⟨a,vs,e,s _ _ ha,bU.kp (Kp.of s) _ _ r⟩
noncomputable def eI (H:Hp) (d:PyData) (v:V):Prop:=Rp H d v\/fE H d v
theorem eI.mono {H H':Hp} {d:PyData} {v:V} (h:eI H d v) (s:al H H'):eI H' d v:=h.elim (fun h=>.inl (h.mono s)) fun h=>.inr (h.mono s)
noncomputable def uZ (H H':Hp) (d:PyData) (v:V):Prop:=fE H' d v/\∃ a,v=.ref a/\H a=none
inductive cg where
  | non
  | val (d:PyData)
  | own (d:PyData)
  | exc (p:Addr)
noncomputable abbrev ar:=List cg
noncomputable def eN (H:Hp):cg->Option V->Prop
  | .non,_=>True
  | .val d,o=>∃ v,o=some v/\Rp H d v
  | .own d,o=>∃ v,o=some v/\fE H d v
  | .exc p,o=>o=some (.ref p)
noncomputable def Sl (H:Hp) (σ:St) (ρ:ar):Prop:=σ.length=ρ.length/\∀ (i:Nat) (c:cg) (o:Option V),ρ[i]?=some c->σ[i]?=some o->eN H c o
theorem eN.mono {H H':Hp} {c:cg} {o:Option V} (h:eN H c o) (s:al H H'):eN H' c o:=by
  cases c <;> simp only [eN] at h ⊢
  · obtain ⟨v,e,h⟩:=h;exact ⟨v,e,h.mono s⟩
  · obtain ⟨v,e,h⟩:=h;exact ⟨v,e,h.mono s⟩
  · exact h
theorem Sl.mono {H H':Hp} {σ:St} {ρ:ar} (h:Sl H σ ρ) (s:al H H'):Sl H' σ ρ:=⟨h.1,fun i c o h1 h2=>(h.2 i c o h1 h2).mono s⟩
inductive R (α:Type) where
  | ok (a:α)
  | ex (c:Str)
  | no
noncomputable def R.bind {α β:Type}:R α->(α->R β)->R β
  | .ok a,f=>f a
  | .ex c,_=>.ex c
  | .no,_=>.no
noncomputable instance:Monad R where
  pure:=.ok
  bind:=R.bind
@[simp] theorem R.ok_bind {α β:Type} (a:α) (f:α->R β):(R.ok a>>=f)=f a:=rfl
@[simp] theorem R.ex_bind {α β:Type} (c:Str) (f:α->R β):((R.ex c:R α)>>=f)=.ex c:=rfl
@[simp] theorem R.no_bind {α β:Type} (f:α->R β):((R.no:R α)>>=f)=.no:=rfl
@[simp] theorem R.pure_ok {α:Type} (a:α):(pure a:R α)=.ok a:=rfl
structure oS (P:Program) (w:World) (outer:List Env) (H:Hp) (s:Shared) (C:Addr) (H':Hp) (e:Value) (s':Shared):Prop where
  os:s'.os=s.os
  bare:AllBare s'.gens
  same:al H H'
  ex:∃ (p:Addr) (a0:Value) (B:Heap),e=.ref p/\Heap.FlyingW B outer p (.ref C) a0 s'.heap/\dk P w H' B/\H' p=none/\∀ b o,s.heap.get? b=some o->H b=none->b∉gk outer->B.get? b=some o/\H' b=none
  slot:∀ b o,s.heap.get? b=some o->H b=none->b∈gk outer->(∃ sl,s'.heap.get? b=some { o with slots:=sl })/\H' b=none
structure i9 (P:Program) (w:World) (outer:List Env) (H:Hp) (s:Shared) (C:Addr) (H':Hp) (e:Value) (s':Shared):Prop where
  os:s'.os=s.os
  bare:AllBare s'.gens
  same:al H H'
  ex:∃ (p:Addr) (a0:Value) (B:Heap),e=.ref p/\kC B outer p (.ref C) a0 s'.heap/\dk P w H' B/\H' p=none/\∀ b o,s.heap.get? b=some o->H b=none->b∉gk outer->B.get? b=some o/\H' b=none
  slot:∀ b o,s.heap.get? b=some o->H b=none->b∈gk outer->(∃ sl,s'.heap.get? b=some { o with slots:=sl })/\H' b=none
theorem oS.hld {P:Program} {w:World} {outer:List Env} {H:Hp} {s:Shared} {C:Addr} {H':Hp} {e:Value} {s':Shared} (f:oS P w outer H s C H' e s'):i9 P w outer H s C H' e s' :=
  ⟨f.os,f.bare,f.same,let ⟨p,a0,B,h1,h2,h3⟩:=f.ex;⟨p,a0,B,h1,kC.of h2,h3⟩,f.slot⟩
noncomputable def cN (P:Program) (w:World) (mg:Str->Option Value):oK:=fun outer H s E e s'=>∃ n C H',mg n=some (.ref C)/\oS P w outer H s C H' e s'/\E (.str n 0) none H'
noncomputable def EX (X:Cx):XK:=fun v _ H'=>∀ (n:Str) (C:Addr),v=.str n 0->X.mg n=some (.ref C)->∀ (pins:List (Addr×Obj)) (σ:St) (H:Hp) (s:Shared) (e:Value) (s':Shared),ap X pins σ H s->oS X.prog X.w X.stack H s C H' e s'->X.xe e s'
theorem sd {X:Cx}:lM (cN X.prog X.w X.mg) X (EX X):=fun pins σ H s e s' I ⟨n,C,H',hm,f,q⟩=>q n C rfl hm pins σ H s e s' I f
noncomputable def Xw (X:Cx) (c:Str) (H:Hp):Prop:=∀ H1,al H H1->∀ (C:Addr),X.mg c=some (.ref C)->∀ (pins:List (Addr×Obj)) (σ:St) (Hc:Hp) (s:Shared) (e:Value) (s':Shared),ap X pins σ Hc s->i9 X.prog X.w X.stack Hc s C H1 e s'->X.xe e s'
theorem Xw.mono {X:Cx} {c:Str} {H H':Hp} (h:Xw X c H) (s:al H H'):Xw X c H':=fun H1 s1=>h H1 (s.trans s1)
theorem Xw.ex {X:Cx} {c:Str} {H:Hp} (h:Xw X c H):∀ H1,al H H1->EX X (.str c 0) none H1:=fun H1 s1 n C en hm pins σ Hc s e s' I f=>by
  have en':c=n:=by injection en
  subst en';exact h H1 s1 C hm pins σ Hc s e s' I f.hld
noncomputable def u5 (X:Cx) (c:Str) (Fm:Hp):Prop:=∀ C,X.mg c=some (.ref C)->∀ (pins:List (Addr×Obj)) (σ:St) (H:Hp) (s:Shared),al Fm H->ap X pins σ H s->∀ (h':Heap) (p:Addr) (vs:List Value),Heap.MadeExcOf s.heap h' p (.ref C) vs->X.xe (.ref p) { s with heap:=h' }
theorem u5.mono {X:Cx} {c:Str} {H H':Hp} (h:u5 X c H) (s:al H H'):u5 X c H':=fun C hm pins σ H1 s1 e=>h C hm pins σ H1 s1 (s.trans e)
noncomputable def lG (X:Cx) (P:Hp->Hp->PyData->V->Prop) (r:R PyData) (H:Hp) (Q:VK):Prop :=
  match r with
  | .ok d=>∀ v H',al H H'->P H H' d v->Q v H'
  | .ex c=>Xw X c H
  | .no=>False
noncomputable abbrev eJ:Hp->Hp->PyData->V->Prop:=fun _ H' d v=>Rp H' d v
noncomputable abbrev lL:Hp->Hp->PyData->V->Prop:=fun _ H' d v=>eI H' d v
noncomputable abbrev wZ:Hp->Hp->PyData->V->Prop:=fun H H' d v=>Rp H' d v\/uZ H H' d v
noncomputable abbrev Fe:=ar->R PyData
noncomputable def eZ (X:Cx) (P:Hp->Hp->PyData->V->Prop) (f:Fe):TE:=fun σ H Q=>∃ ρ,Sl H σ ρ/\lG X P (f ρ) H Q
noncomputable def bD (X:Cx) (e:Expr) (f:Fe):Prop:=PE X e (eZ X eJ f)
structure Z.bD (X:Cx) (e:Expr) (f:Fe):Prop where
  un:D2.bD X e f
noncomputable def bS (X:Cx) (e:Expr) (f:Fe):Prop:=PE X e (eZ X lL f)
structure Z.bS (X:Cx) (e:Expr) (f:Fe):Prop where
  un:D2.bS X e f
noncomputable def oR (X:Cx) (e:Expr) (f:Fe):Prop:=PE X e (eZ X wZ f)
structure Z.oR (X:Cx) (e:Expr) (f:Fe):Prop where
  un:D2.oR X e f
noncomputable def g8 (X:Cx) (e:Expr) (f:Fe):Prop:=PE X e (eZ X uZ f)
structure Z.g8 (X:Cx) (e:Expr) (f:Fe):Prop where
  un:D2.g8 X e f
noncomputable def RA (I:Hp->PyData->V->Prop) (H:Hp):List PyData->List V->Prop
  | [],vs=>vs=[]
  | d::ds,vs=>∃ v r,vs=v::r/\I H d v/\RA I H ds r
theorem j8 {H:Hp}:∀ {ds:List PyData} {vs:List V},RA Rp H ds vs<->aI H ds vs
  | [],vs=>by simp only [RA,aI]
  | d::ds,vs=>by simp only [RA,aI,j8 (ds:=ds)]
noncomputable def qU (X:Cx) (I:Hp->PyData->V->Prop) (f:ar->R (List PyData)):TA:=fun σ H Q=>∃ ρ,Sl H σ ρ/\match f ρ with
  | .ok ds=>∀ vs H',al H H'->RA I H' ds vs->Q vs H'
  | .ex c=>Xw X c H
  | .no=>False
noncomputable def mC (X:Cx) (es:List Expr) (f:ar->R (List PyData)):Prop:=PA X es (qU X Rp f)
structure Z.mC (X:Cx) (es:List Expr) (f:ar->R (List PyData)):Prop where
  un:D2.mC X es f
noncomputable def tt (X:Cx) (es:List Expr) (f:ar->R (List PyData)):Prop:=PA X es (qU X eI f)
noncomputable def sx (X:Cx) (f:ar->R Bool):TT:=fun σ H Q=>∃ ρ,Sl H σ ρ/\match f ρ with
  | .ok b=>∀ H',al H H'->Q b H'
  | .ex c=>Xw X c H
  | .no=>False
noncomputable def h9 (X:Cx) (e:Expr) (f:ar->R Bool):Prop:=PT X e (sx X f)
structure Z.h9 (X:Cx) (e:Expr) (f:ar->R Bool):Prop where
  un:D2.h9 X e f
noncomputable def oO (X:Cx) (e:Expr) (f:ar->R Bool):Prop:=PW X e (sx X f)
structure Z.oO (X:Cx) (e:Expr) (f:ar->R Bool):Prop where
  un:D2.oO X e f
theorem PE.imp {X:Cx} {e:Expr} {t t':TE} (h:PE X e t) (i:∀ σ H Q,t' σ H Q->t σ H Q):PE X e t':=fun pins s σ H Q I q=>h pins s σ H Q I (i σ H Q q)
theorem PT.imp {X:Cx} {e:Expr} {t t':TT} (h:PT X e t) (i:∀ σ H Q,t' σ H Q->t σ H Q):PT X e t':=fun pins s σ H Q I q=>h pins s σ H Q I (i σ H Q q)
theorem PW.imp {X:Cx} {e:Expr} {t t':TT} (h:PW X e t) (i:∀ σ H Q,t' σ H Q->t σ H Q):PW X e t':=fun wh pins s σ H Q I q=>h wh pins s σ H Q I (i σ H Q q)
theorem PA.imp {X:Cx} {e:List Expr} {t t':TA} (h:PA X e t) (i:∀ σ H Q,t' σ H Q->t σ H Q):PA X e t':=fun pos pins s σ H Q I q=>h pos pins s σ H Q I (i σ H Q q)
theorem eZ.post {X:Cx} {P:Hp->Hp->PyData->V->Prop} {f:Fe} {σ:St} {H:Hp} {Q Q':VK} (h:eZ X P f σ H Q) (i:∀ v H',Q v H'->Q' v H'):eZ X P f σ H Q':=by
  obtain ⟨ρ,sl,q⟩:=h;refine ⟨ρ,sl,?_⟩;cases e:f ρ with
  | ok d=>rw [e] at q;exact fun v H' s p=>i _ _ (q v H' s p)
  | ex c=>rw [e] at q;exact q
  | no=>rw [e] at q;exact q
theorem sx.post {X:Cx} {f:ar->R Bool} {σ:St} {H:Hp} {Q Q':Bool->Hp->Prop} (h:sx X f σ H Q) (i:∀ b H',Q b H'->Q' b H'):sx X f σ H Q':=by
  obtain ⟨ρ,sl,q⟩:=h;refine ⟨ρ,sl,?_⟩;cases e:f ρ with
  | ok d=>rw [e] at q;exact fun H' s=>i _ _ (q H' s)
  | ex c=>rw [e] at q;exact q
  | no=>rw [e] at q;exact q
theorem qU.post {X:Cx} {I:Hp->PyData->V->Prop} {f:ar->R (List PyData)} {σ:St} {H:Hp} {Q Q':List V->Hp->Prop} (h:qU X I f σ H Q) (i:∀ vs H',Q vs H'->Q' vs H'):qU X I f σ H Q':=by
  obtain ⟨ρ,sl,q⟩:=h;refine ⟨ρ,sl,?_⟩;cases e:f ρ with
  | ok d=>rw [e] at q;exact fun vs H' s p=>i _ _ (q vs H' s p)
  | ex c=>rw [e] at q;exact q
  | no=>rw [e] at q;exact q
theorem eZ.weaken {X:Cx} {P P':Hp->Hp->PyData->V->Prop} {f:Fe} (h:∀ H H' d v,P H H' d v->P' H H' d v) (σ:St) (H:Hp) (Q:VK) (q:eZ X P' f σ H Q):eZ X P f σ H Q:=by
  obtain ⟨ρ,sl,q⟩:=q;refine ⟨ρ,sl,?_⟩;cases e:f ρ with
  | ok d=>rw [e] at q;exact fun v H' s p=>q v H' s (h _ _ _ _ p)
  | ex c=>rw [e] at q;exact q
  | no=>rw [e] at q;exact q
section
variable {X:Cx} {e:Expr} {f:Fe}
theorem bD.b (h:bD X e f):bS X e f:=PE.imp h (eZ.weaken fun _ _ _ _ p=>Or.inl p)
theorem aa (h:Z.bD X e f):Z.bS X e f :=
  ⟨D2.bD.b h.un⟩
theorem g8.b (h:g8 X e f):bS X e f:=PE.imp h (eZ.weaken fun _ _ _ _ p=>Or.inr p.1)
theorem dH (h:Z.g8 X e f):Z.bS X e f :=
  ⟨D2.g8.b h.un⟩
theorem bD.toF (h:bD X e f):oR X e f:=PE.imp h (eZ.weaken fun _ _ _ _ p=>Or.inl p)
theorem Z.bD.toF (h:Z.bD X e f):Z.oR X e f :=
  ⟨D2.bD.toF h.un⟩
theorem g8.toF (h:g8 X e f):oR X e f:=PE.imp h (eZ.weaken fun _ _ _ _ p=>Or.inr p)
theorem Z.g8.toF (h:Z.g8 X e f):Z.oR X e f :=
  ⟨D2.g8.toF h.un⟩
end
section
variable {X:Cx} {pins:List (Addr×Obj)} {σ:St} {H:Hp} {s:Shared} {a:Addr} {u:HO}
theorem fR (I:ap X pins σ H s) (h:H a=some u) (hm:(∃ xs,u=.lst xs)\/∃ ks,u=.dK ks):∃ o,ap X pins σ (bP H a (.frz o u)) s:=by
  have ob:=I.hok a u h;have hg:∃ o,s.heap.get? a=some o:=by
    rcases hm with ⟨xs,rfl⟩ | ⟨ks,rfl⟩
    · obtain ⟨_,_,_,_,e⟩:=ob;exact ⟨_,e⟩
    · obtain ⟨_,_,_,_,o,_,_,e,_⟩:=ob;exact ⟨_,e⟩
  obtain ⟨o,hg⟩:=hg;have nt:∀ b xs,H b=some (.tup xs)->b≠a:=fun b xs q z=>by subst z;rw [h] at q;rcases hm with ⟨_,rfl⟩ | ⟨_,rfl⟩ <;> cases q
  have nf:∀ b o' u',H b=some (.frz o' u')->b≠a:=fun b o' u' q z=>by subst z;rw [h] at q;rcases hm with ⟨_,rfl⟩ | ⟨_,rfl⟩ <;> cases q
  have nb:∀ b ps,H b=some (.tbl ps)->b≠a:=fun b ps q z=>by subst z;rw [h] at q;rcases hm with ⟨_,rfl⟩ | ⟨_,rfl⟩ <;> cases q
  have nw:∀ b y,H b=some (.own y)->b≠a:=fun b y q z=>by subst z;rw [h] at q;rcases hm with ⟨_,rfl⟩ | ⟨_,rfl⟩ <;> cases q
  have nn:∀ b,H b=none->b≠a:=fun b q z=>by subst z;rw [h] at q;cases q
  have st:∀ b x,aQ X.prog X.w H s.heap b x->aQ X.prog X.w (bP H a (.frz o u)) s.heap b x:=fun b x q =>
    q.stay (fun c v _ e=>e) (fun c e=>by rw [am (nw _ _ e)];exact e) fun c xs e=>by rw [am (nt _ _ e)];exact e
  refine ⟨o,⟨I.ok,I.os,I.bare,⟨I.base.keep,I.base.slot,fun b ob' e n hx=>?_,I.base.there,fun b xs e=>?_,fun b ob' v e=>?_,fun b ps e=>?_⟩,I.loc,I.cell,?_,fun x c e=>?_,fun p hp=>?_,fun b x e=>?_,I.len⟩⟩
  · have:=I.base.free b ob' e n hx;rw [am (nn _ this)];exact this
  · have:=I.base.tups b xs e;rw [am (nt _ _ this)];exact this
  · have:=I.base.frzs b ob' v e;rw [am (nf _ _ _ this)];exact this
  · have q:=I.base.tbls b ps e;rw [am (nb _ _ q)];exact q
  · rw [am (nn _ I.free)];exact I.free
  · rw [am (nn _ (I.freeC x c e))];exact I.freeC x c e
  · obtain ⟨p1,p2,p3⟩:=I.pin p hp;exact ⟨p1,by rw [am (nn _ p2)];exact p2,p3⟩
  · by_cases hb:b=a
    · subst hb;rw [aW] at e;cases e;exact ⟨hg,st b u ob⟩
    · rw [am hb] at e;exact st b x (I.hok b x e)
theorem fS {o':HO} (h:H a=some u) (hm:(∃ xs,u=.lst xs)\/∃ ks,u=.dK ks):Kp H (bP H a o'):=by
  refine ⟨fun b xs e=>?_,fun b o v e=>?_⟩
  · rw [am];exact e;rintro rfl;rw [h] at e;rcases hm with ⟨_,rfl⟩ | ⟨_,rfl⟩ <;> cases e
  · rw [am];exact e;rintro rfl;rw [h] at e;rcases hm with ⟨_,rfl⟩ | ⟨_,rfl⟩ <;> cases e
theorem tV {H0:Hp} {d:PyData} {v:V} (I:ap X pins σ H s) (hs:al H0 H) (n:uZ H0 H d v):∃ H',ap X pins σ H' s/\al H0 H'/\Rp H' d v:=by
  obtain ⟨n,a,rfl,h0⟩:=n;have go:∀ u:HO,H a=some u->((∃ xs,u=.lst xs)\/∃ ks,u=.dK ks)->∃ o,ap X pins σ (bP H a (.frz o u)) s/\al H0 (bP H a (.frz o u))/\Kp H (bP H a (.frz o u)):=fun u hu hm=>by
    obtain ⟨o,J⟩:=fR I hu hm;refine ⟨o,J,fun b x e=>?_,fS hu hm⟩;rw [am (aq e h0)];exact hs b x e
  cases d <;> simp only [fE] at n
  · obtain ⟨a',vs,e,ha,r⟩:=n;cases e;obtain ⟨o,J,S,K⟩:=go _ ha (.inl ⟨_,rfl⟩);refine ⟨_,J,S,?_⟩;simp only [Rp];exact ⟨a,o,vs,rfl,aW,aI.kp K _ _ r⟩
  · obtain ⟨a',vs,e,ha,r⟩:=n;cases e;obtain ⟨o,J,S,K⟩:=go _ ha (.inr ⟨_,rfl⟩);refine ⟨_,J,S,?_⟩;simp only [Rp];exact .inl ⟨a,o,vs,rfl,aW,bU.kp K _ _ r⟩
end
theorem oR.e {X:Cx} {e:Expr} {f:Fe} (h:oR X e f):bD X e f:=by
  intro pins s σ H Q I q;obtain ⟨ρ,sl,q⟩:=q;cases ef:f ρ with
  | ok d =>
    rw [ef] at q;refine bX (h pins s σ H (fun v H'=>al H H'/\wZ H H' d v) I ⟨ρ,sl,by rw [ef];exact fun v H' hs p=>⟨hs,p⟩⟩) fun u s' ⟨v,H',I',r,hs,p⟩=>?_
    rcases p with p | p
    · exact ⟨v,H',I',r,q v H' hs p⟩
    · obtain ⟨H2,I2,S2,p2⟩:=tV I' hs p;exact ⟨v,H2,I2,r,q v H2 S2 p2⟩
  | ex c=>rw [ef] at q;exact bX (h pins s σ H (fun _ _=>False) I ⟨ρ,sl,by rw [ef];exact q⟩) fun u s' ⟨v,H',I',r,z⟩=>z.elim
  | no=>rw [ef] at q;exact q.elim
theorem w6 {X:Cx} {e:Expr} {f:Fe} (h:Z.oR X e f):Z.bD X e f :=
  ⟨D2.oR.e h.un⟩
theorem g8.e {X:Cx} {e:Expr} {f:Fe} (h:g8 X e f):bD X e f:=(g8.toF h).e
theorem w8 {X:Cx} {e:Expr} {f:Fe} (h:Z.g8 X e f):Z.bD X e f :=
  ⟨D2.g8.e h.un⟩
structure tG {β:Type} (X:Cx) (T:R β->Hp->Prop):Prop where
  mono:∀ r H H',T r H->al H H'->T r H'
  ex:∀ c H,T (.ex c) H->Xw X c H
  no:∀ H,¬ T .no H
noncomputable def Dn (P:Hp->Hp->PyData->V->Prop):Prop:=∀ H H1 H' d v,al H H1->P H1 H' d v->P H H' d v
theorem cu:Dn eJ:=fun _ _ _ _ _ _ p=>p
theorem tR:Dn uZ:=fun _ _ _ _ _ s p=>⟨p.1,let ⟨a,e,h⟩:=p.2;⟨a,e,s.free h⟩⟩
theorem yb:Dn wZ:=fun _ _ _ _ _ s p=>p.elim .inl fun p=>.inr (tR _ _ _ _ _ s p)
section
variable {X:Cx} {σ:St} {H:Hp}
theorem cX {P:Hp->Hp->PyData->V->Prop} (hP:Dn P) (Q:VK):tG X (fun r H=>lG X P r H Q) where
  mono:=fun r H H' h s=>by
    cases r with
    | ok d=>exact fun v H2 s2 p=>h v H2 (s.trans s2) (hP _ _ _ _ _ s p)
    | ex c=>exact Xw.mono h s
    | no=>exact h
  ex:=fun c H h=>h
  no:=fun H h=>h
theorem nj (Q:Bool->Hp->Prop):tG X (fun (r:R Bool) H=>match r with | .ok b=>∀ H',al H H'->Q b H' | .ex c=>Xw X c H | .no=>False) where
  mono:=fun r H H' h s=>by
    cases r with
    | ok d=>exact fun H2 s2=>h H2 (s.trans s2)
    | ex c=>exact Xw.mono h s
    | no=>exact h
  ex:=fun c H h=>h
  no:=fun H h=>h
theorem tm (I:Hp->PyData->V->Prop) (Q:List V->Hp->Prop):tG X (fun (r:R (List PyData)) H=>match r with | .ok ds=>∀ vs H',al H H'->RA I H' ds vs->Q vs H' | .ex c=>Xw X c H | .no=>False) where
  mono:=fun r H H' h s=>by
    cases r with
    | ok d=>exact fun vs H2 s2=>h vs H2 (s.trans s2)
    | ex c=>exact Xw.mono h s
    | no=>exact h
  ex:=fun c H h=>h
  no:=fun H h=>h
theorem cR {β:Type} {T:R β->Hp->Prop} (t:tG X T) {P:Hp->Hp->PyData->V->Prop} {f:Fe} {k:ar->PyData->R β} (h:∃ ρ,Sl H σ ρ/\T (f ρ>>=k ρ) H) :
    eZ X P f σ H (fun v H1=>∃ ρ d,Sl H1 σ ρ/\al H H1/\P H H1 d v/\T (k ρ d) H1):=by
  obtain ⟨ρ,sl,q⟩:=h;refine ⟨ρ,sl,?_⟩;cases e:f ρ with
  | ok d=>rw [e] at q;exact fun v H1 s p=>⟨ρ,d,sl.mono s,s,p,t.mono _ _ _ q s⟩
  | ex c=>rw [e] at q;exact t.ex _ _ q
  | no=>rw [e] at q;exact (t.no _ q).elim
theorem jM {β:Type} {T:R β->Hp->Prop} (t:tG X T) {f:ar->R Bool} {k:ar->Bool->R β} (h:∃ ρ,Sl H σ ρ/\T (f ρ>>=k ρ) H) :
    sx X f σ H (fun b H1=>∃ ρ,Sl H1 σ ρ/\al H H1/\T (k ρ b) H1):=by
  obtain ⟨ρ,sl,q⟩:=h;refine ⟨ρ,sl,?_⟩;cases e:f ρ with
  | ok d=>rw [e] at q;exact fun H1 s=>⟨ρ,sl.mono s,s,t.mono _ _ _ q s⟩
  | ex c=>rw [e] at q;exact t.ex _ _ q
  | no=>rw [e] at q;exact (t.no _ q).elim
theorem gx {β:Type} {T:R β->Hp->Prop} (t:tG X T) {I:Hp->PyData->V->Prop} {f:ar->R (List PyData)} {k:ar->List PyData->R β} (h:∃ ρ,Sl H σ ρ/\T (f ρ>>=k ρ) H) :
    qU X I f σ H (fun vs H1=>∃ ρ ds,Sl H1 σ ρ/\al H H1/\RA I H1 ds vs/\T (k ρ ds) H1):=by
  obtain ⟨ρ,sl,q⟩:=h;refine ⟨ρ,sl,?_⟩;cases e:f ρ with
  | ok d=>rw [e] at q;exact fun vs H1 s p=>⟨ρ,d,sl.mono s,s,p,t.mono _ _ _ q s⟩
  | ex c=>rw [e] at q;exact t.ex _ _ q
  | no=>rw [e] at q;exact (t.no _ q).elim
end
noncomputable def ag (i:Nat):Fe:=fun ρ=>match ρ[i]? with
  | some (.val d)=>.ok d
  | _=>.no
noncomputable def iq (i:Nat):Fe:=fun ρ=>match ρ[i]? with
  | some (.val d)=>.ok d
  | some (.own d)=>.ok d
  | _=>.no
noncomputable def eC (d:PyData):Fe:=fun _=>.ok d
structure Tb (X:Cx) (nl:Nat) (G:List Str):Prop where
  hu:X.A.units+64 < cLine
  calm:X.calm=true
  nd:X.N.Nodup
  vis:∀ x∈X.N,u4 X.env.scope x/\(x==("__debug__" : Str))=false/\(x==("__classdict__" : Str))=false
  loc:∀ x∈X.N.take nl,tx X.env.scope x/\(X.fn x=true\/X.env.scope.names.lookup x=some .local)
  gl:∀ x∈G,Gl X x/\(x==("__debug__" : Str))=false/\x≠("__name__" : Str)
section
variable {X:Cx} {nl:Nat} {G:List Str} {x:Str} {pos:Pos}
theorem Sl.at {H:Hp} {σ:St} {ρ:ar} {i:Nat} {c:cg} (h:Sl H σ ρ) (e:ρ[i]?=some c):∃ o,σ[i]?=some o/\eN H c o:=by
  have hi:i < σ.length:=by rw [h.1];exact (List.getElem?_eq_some_iff.mp e).1
  exact ⟨σ[i],List.getElem?_eq_getElem hi,h.2 i c _ e (List.getElem?_eq_getElem hi)⟩
theorem ae (T:Tb X nl G) (i:Nat) (hN:X.N[i]?=some x):Z.bD X (.Name x pos) (ag i):=⟨by
  have hm:=T.vis x (List.mem_of_getElem? hN);refine PE.imp (j5 hN hm.1 hm.2.1 hm.2.2) fun σ H Q zq0=>?_
  obtain ⟨ρ,sl,q⟩:=zq0;unfold ag at q;split at q
  · rename_i d e;obtain ⟨o,h1,v,rfl,h2⟩:=sl.at e;exact ⟨v,h1,q v H (al.refl H) h2⟩
  · exact q.elim⟩
theorem lR (T:Tb X nl G) (i:Nat) (hN:X.N[i]?=some x):Z.bS X (.Name x pos) (iq i):=⟨by
  have hm:=T.vis x (List.mem_of_getElem? hN);refine PE.imp (j5 hN hm.1 hm.2.1 hm.2.2) fun σ H Q zq0=>?_
  obtain ⟨ρ,sl,q⟩:=zq0;unfold iq at q;split at q
  · rename_i d e;obtain ⟨o,h1,v,rfl,h2⟩:=sl.at e;exact ⟨v,h1,q v H (al.refl H) (.inl h2)⟩
  · rename_i d e;obtain ⟨o,h1,v,rfl,h2⟩:=sl.at e;exact ⟨v,h1,q v H (al.refl H) (.inr h2)⟩
  · exact q.elim⟩
theorem jV {e:Expr} {d:PyData} {v:V} (h:PE X e (tC v)) (r:∀ H,Rp H d v):bD X e (eC d) :=
  PE.imp h fun σ H Q ⟨ρ,sl,q⟩=>q v H (al.refl H) (r H)
theorem af {i j}:Z.bD X (.Constant (.int i) j pos) (eC (.int i)):=⟨jV uk fun H=>by simp only [Rp]⟩
theorem cc {b j}:Z.bD X (.Constant (.bool b) j pos) (eC (.bool b)):=⟨jV wc fun H=>by simp only [Rp]⟩
theorem bM {j}:Z.bD X (.Constant .none j pos) (eC .none):=⟨jV um fun H=>by simp only [Rp]⟩
theorem c7 {i:Int} {t:Tok} (T:Tb X nl G) (j:Nat) (hG:G[j]?=some x) (hm:X.mg x=some (.int i t)):Z.bD X (.Name x pos) (eC (.int i)):=⟨by
  have g:=T.gl x (List.mem_of_getElem? hG);exact jV (sh g.1 hm (v:=.int i) ⟨t,rfl⟩ g.2.1) fun H=>by simp only [Rp]⟩
end
section
variable {X:Cx} {a b c:Expr} {fa fb fc:Fe} {pos:Pos}
noncomputable def e2 (g:PyData->PyData->R PyData) (fa fb:Fe):Fe:=fun ρ=>fa ρ>>=fun x=>fb ρ>>=fun y=>g x y
noncomputable def e1 (g:PyData->R PyData) (fa:Fe):Fe:=fun ρ=>fa ρ>>=fun x=>g x
noncomputable def aT (X:Cx) (P:Hp->Hp->PyData->V->Prop) (r:R2) (g:PyData->PyData->R PyData):Prop :=
  ∀ H x y dx dy Q,eI H dx x->eI H dy y->lG X P (g dx dy) H Q->r x y H Q
theorem xA {P:Hp->Hp->PyData->V->Prop} {r:R2} {g:PyData->PyData->R PyData} (hP:Dn P) (hg:aT X P r g) (σ:St) (H:Hp) (Q:VK) (h:eZ X P (e2 g fa fb) σ H Q) :
    wK r (eZ X lL fa) (eZ X lL fb) σ H Q :=
  (cR (P:=lL) (cX (X:=X) hP Q) h).post fun v H1 ⟨ρ1,d1,sl1,_,p1,q1⟩ =>
    (cR (P:=lL) (f:=fb) (k:=fun _ y=>g d1 y) (cX (X:=X) hP Q) ⟨ρ1,sl1,q1⟩).post fun u H2 ⟨_,d2,_,s2,p2,q2⟩=>hg H2 v u d1 d2 Q (eI.mono p1 s2) p2 q2
theorem gB {op:Operator} {P:Hp->Hp->PyData->V->Prop} {r:R2} {g:PyData->PyData->R PyData} (hP:Dn P) (ho:eS X (binaryOp op) r) (hg:aT X P r g) (ha:bS X a fa) (hb:bS X b fb) :
    PE X (.BinOp a op b pos) (eZ X P (e2 g fa fb)):=PE.imp (wf ho ha hb) (xA hP hg)
theorem tT {op:CmpOp} {r:R2} {g:PyData->PyData->R PyData} (ho:eS X (compareOp op) r) (hg:aT X eJ r g) (ha:bS X a fa) (hb:bS X b fb) (hm:behindInMarks op b=false) :
    bD X (.Compare a [op] [b] pos) (e2 g fa fb):=PE.imp (sg ho ha hb hm) (xA cu hg)
end
noncomputable def kM:PyData->R Bool
  | .bool b=>.ok b
  | _=>.no
noncomputable def tE (f:Fe):ar->R Bool:=fun ρ=>f ρ>>=kM
theorem j9 {X:Cx} {f:Fe} {σ:St} {H:Hp} {Q:Bool->Hp->Prop} (h:sx X (tE f) σ H Q):eZ X eJ f σ H (fun x H'=>∃ k,x=.bl k/\Q k H') :=
  (cR (P:=eJ) (f:=f) (k:=fun _=>kM) (nj (X:=X) Q) h).post fun v H1 ⟨ρ1,d1,_,_,p1,q1⟩=>by
    cases d1 with
    | bool b =>
      have p2:v=.bl b:=by simpa only [Rp] using p1
      exact ⟨b,p2,q1 H1 (al.refl _)⟩
    | _=>exact q1.elim
section
variable {X:Cx} {a b c:Expr} {fa fb fc:Fe} {pos:Pos}
theorem dU {op:CmpOp} {r:R2} {g:PyData->PyData->R PyData} (ho:eS X (compareOp op) r) (hg:aT X eJ r g) (ha:bS X a fa) (hb:bS X b fb) (hm:behindInMarks op b=false) :
    h9 X (.Compare a [op] [b] pos) (tE (e2 g fa fb)) :=
  PT.imp (ss ho ha hb hm) fun σ H Q h=>xA cu hg σ H _ (j9 h)
theorem fj {e:Expr} {f:Fe} (h:Z.bD X e f) (he:∀ whole,isTrue e X.env whole=(do let v <- whole;standAt e.pos;holding [v] (truthy v)):=by intro _;rfl):Z.h9 X e (tE f):=⟨have h:=h.un;PT.imp (uy h he) fun σ H Q h=>j9 h⟩
noncomputable def fH (f g:ar->R Bool):ar->R Bool:=fun ρ=>f ρ>>=fun b=>if b=true then g ρ else .ok false
noncomputable def lz (f g:ar->R Bool):ar->R Bool:=fun ρ=>f ρ>>=fun b=>if b=true then .ok true else g ρ
noncomputable def gS (f:ar->R Bool):ar->R Bool:=fun ρ=>f ρ>>=fun b=>.ok (!b)
variable {ga gb:ar->R Bool} {rest:List Expr}
theorem dM (ha:Z.h9 X a ga):Z.oO X (.BoolOp .And [a] pos) ga:=⟨have ha:=ha.un;pw_and1 ha⟩
theorem gw (ha:Z.h9 X a ga):Z.oO X (.BoolOp .Or [a] pos) ga:=⟨have ha:=ha.un;pw_or1 ha⟩
theorem fq (ha:Z.h9 X a ga) (hb:Z.oO X (.BoolOp .And (b::rest) pos) gb):Z.oO X (.BoolOp .And (a::b::rest) pos) (fH ga gb):=⟨have ha:=ha.un;have hb:=hb.un;PW.imp (pw_and ha hb) fun σ H Q h=>(jM (f:=ga) (k:=fun ρ b=>if b=true then gb ρ else .ok false) (nj (X:=X) Q) h).post fun d H1 ⟨ρ1,sl1,_,q1⟩=>by
    cases d with
    | true=>exact ⟨ρ1,sl1,q1⟩
    | false=>exact q1 H1 (al.refl _)⟩
theorem ge (ha:Z.h9 X a ga) (hb:Z.oO X (.BoolOp .Or (b::rest) pos) gb):Z.oO X (.BoolOp .Or (a::b::rest) pos) (lz ga gb):=⟨have ha:=ha.un;have hb:=hb.un;PW.imp (pw_or ha hb) fun σ H Q h=>(jM (f:=ga) (k:=fun ρ b=>if b=true then .ok true else gb ρ) (nj (X:=X) Q) h).post fun d H1 ⟨ρ1,sl1,_,q1⟩=>by
    cases d with
    | false=>exact ⟨ρ1,sl1,q1⟩
    | true=>exact q1 H1 (al.refl _)⟩
theorem oO.t {e:Expr} (h:oO X e ga):h9 X e ga:=PW.pt h
theorem dI {e:Expr} (h:Z.oO X e ga):Z.h9 X e ga :=
  ⟨D2.oO.t h.un⟩
theorem fi (ha:Z.h9 X a ga):Z.h9 X (.UnaryOp .Not a pos) (gS ga):=⟨have ha:=ha.un;PT.imp (ux ha) fun σ H Q h=>(jM (f:=ga) (k:=fun _ b=>.ok (!b)) (nj (X:=X) Q) h).post fun d H1 ⟨ρ1,sl1,_,q1⟩=>q1 H1 (al.refl _)⟩
noncomputable def rB (f g:Fe):Fe:=fun ρ=>f ρ>>=fun d=>kM d>>=fun b=>if b=true then g ρ else .ok (.bool false)
noncomputable def ze (f g:Fe):Fe:=fun ρ=>f ρ>>=fun d=>kM d>>=fun b=>if b=true then .ok (.bool true) else g ρ
noncomputable def yd (f:Fe):Fe:=fun ρ=>f ρ>>=fun d=>kM d>>=fun b=>.ok (.bool (!b))
theorem sy {k:ar->Bool->R PyData} {f:Fe} {σ:St} {H:Hp} {Q:VK} (h:eZ X eJ (fun ρ=>f ρ>>=fun d=>kM d>>=fun b=>k ρ b) σ H Q) :
    eZ X eJ f σ H (fun x H'=>∃ c,x=.bl c/\eZ X eJ (fun ρ=>k ρ c) σ H' Q) :=
  (cR (P:=eJ) (f:=f) (k:=fun ρ d=>kM d>>=fun b=>k ρ b) (cX (X:=X) cu Q) h).post fun v H1 ⟨ρ1,d1,sl1,_,p1,q1⟩=>by
    cases d1 with
    | bool b =>
      have p2:v=.bl b:=by simpa only [Rp] using p1
      exact ⟨b,p2,ρ1,sl1,q1⟩
    | _=>exact q1.elim
theorem o4 {op} (h:Z.bD X a fa):Z.bD X (.BoolOp op [a] pos) fa:=⟨have h:=h.un;uo h⟩
theorem kE (ha:Z.bD X a fa) (hb:Z.bD X (.BoolOp .And (b::rest) pos) fb):Z.bD X (.BoolOp .And (a::b::rest) pos) (rB fa fb):=⟨have ha:=ha.un;have hb:=hb.un;PE.imp (uj ha hb) fun σ H Q h=>(sy (k:=fun ρ b=>if b=true then fb ρ else .ok (.bool false)) h).post fun v H1 ⟨c,e1,q1⟩=>by
    refine ⟨c,e1,?_⟩;cases c with
    | true=>exact q1
    | false =>
      obtain ⟨_,_,q2⟩:=q1;exact q2 _ H1 (al.refl _) (by simp only [Rp])⟩
noncomputable def sP (t:ar->R Bool) (f g:Fe):Fe:=fun ρ=>t ρ>>=fun b=>if b=true then f ρ else g ρ
theorem fK {e:Expr} (hc:Z.h9 X e ga) (ha:Z.bD X a fa) (hb:Z.bD X b fb):Z.bD X (.IfExp e a b pos) (sP ga fa fb):=⟨have hc:=hc.un;have ha:=ha.un;have hb:=hb.un;PE.imp (ql hc ha hb) fun σ H Q h=>(jM (f:=ga) (k:=fun ρ b=>if b=true then fa ρ else fb ρ) (cX (X:=X) cu Q) h).post fun d H1 ⟨ρ1,sl1,_,q1⟩=>by
    cases d with
    | true=>exact ⟨ρ1,sl1,q1⟩
    | false=>exact ⟨ρ1,sl1,q1⟩⟩
end
noncomputable def ax:Expr->Bool
  | .Starred ..=>false
  | _=>true
theorem aL {e:Expr} {es:List Expr} {env:Env} (h:ax e=true):starEach (e::es) env=(false,eval e env)::starEach es env:=by
  cases e <;> first | rfl | (cases h)
theorem iJ {es:List Expr} {env:Env} {pos:Pos} (h:es.all ax=true):(backTo pos (starEach es env)).any (·.1)=false:=by
  induction es with
  | nil=>rfl
  | cons e es ih =>
    rw [List.all_cons,Bool.and_eq_true] at h;rw [aL h.1];have:=ih h.2;simpa [backTo] using this
noncomputable def be:ar->R (List PyData):=fun _=>.ok []
noncomputable def ak (f:Fe) (g:ar->R (List PyData)):ar->R (List PyData):=fun ρ=>f ρ>>=fun d=>g ρ>>=fun ds=>.ok (d::ds)
section
variable {X:Cx} {e:Expr} {es:List Expr} {f:Fe} {g:ar->R (List PyData)}
theorem mR {I:Hp->PyData->V->Prop}:PA X [] (qU X I be):=PA.imp qj fun σ H Q ⟨ρ,sl,q⟩=>q [] H (al.refl _) (by simp only [RA])
theorem jS:mC X [] be:=mR
theorem aG  : Z.mC X [] be :=
  ⟨D2.jS⟩
theorem lY:tt X [] be:=mR
theorem kZ {I:Hp->PyData->V->Prop} (hI:∀ H H' d v,I H d v->al H H'->I H' d v) (ha:PE X e (eZ X (fun _ H' d v=>I H' d v) f)) (hr:PA X es (qU X I g))
    (hs:starEach (e::es) X.env=(false,eval e X.env)::starEach es X.env:=by rfl):PA X (e::es) (qU X I (ak f g)) :=
  PA.imp (j0 ha hr hs) fun σ H Q h =>
    (cR (P:=fun _ H' d v=>I H' d v) (f:=f) (k:=fun ρ d=>g ρ>>=fun ds=>.ok (d::ds)) (tm (X:=X) I Q) h).post fun v H1 ⟨ρ1,d1,sl1,_,p1,q1⟩ =>
      (gx (I:=I) (f:=g) (k:=fun _ ds=>.ok (d1::ds)) (tm (X:=X) I Q) ⟨ρ1,sl1,q1⟩).post fun vs H2 ⟨_,ds1,_,s2,p3,q3⟩ =>
        q3 (v::vs) H2 (al.refl _) (by simp only [RA];exact ⟨v,vs,rfl,hI _ _ _ _ p1 s2,p3⟩)
theorem ft (ha:bD X e f) (hr:mC X es g) (hs:ax e=true:=by rfl):mC X (e::es) (ak f g):=kZ (fun _ _ _ _ h s=>h.mono s) ha hr (aL hs)
theorem ai (ha:Z.bD X e f) (hr:Z.mC X es g) (hs:ax e=true:=by rfl):Z.mC X (e::es) (ak f g) :=
  ⟨D2.ft ha.un hr.un hs⟩
theorem hR (ha:bS X e f) (hr:tt X es g) (hs:ax e=true:=by rfl):tt X (e::es) (ak f g):=kZ (fun _ _ _ _ h s=>h.mono s) ha hr (aL hs)
end
section
variable {K:PySem.W.Frag} {H:Hp} {x:V}
theorem gf (h:eI H .none x):x=.non:=by
  rcases h with h | h
  · simpa only [Rp] using h
  · simp only [fE] at h
theorem ik {b:Bool} (h:eI H (.bool b) x):x=.bl b:=by
  rcases h with h | h
  · simpa only [Rp] using h
  · simp only [fE] at h
theorem aE {i:Int} (h:eI H (.int i) x):x=.int i:=by
  rcases h with h | h
  · simpa only [Rp] using h
  · simp only [fE] at h
theorem dO {y:Str} (h:eI H (.str y) x):x=.str y:=by
  rcases h with h | h
  · simpa only [Rp] using h
  · simp only [fE] at h
theorem ce {ds:List PyData} (h:eI H (.tuple ds) x):∃ a vs,x=.ref a/\H a=some (.tup vs)/\aI H ds vs:=by
  rcases h with h | h
  · simpa only [Rp] using h
  · simp only [fE] at h
theorem bV {ds:List PyData} (h:eI H (.list ds) x):∃ a vs,x=.ref a/\iR K H a vs/\aI H ds vs:=by
  rcases h with h | h
  · simp only [Rp] at h;obtain ⟨a,o,vs,e,ha,r⟩:=h;exact ⟨a,vs,e,.inl (.inr ⟨o,ha⟩),r⟩
  · simp only [fE] at h;obtain ⟨a,vs,e,ha,r⟩:=h;exact ⟨a,vs,e,.inl (.inl ha),r⟩
theorem sA {C:Addr} {fs:List (Str×V)} {kvs:List (PyData×PyData)} (h:qR H C fs kvs):iA kvs=true:=by
  cases kvs with
  | nil=>simp only [qR] at h
  | cons kd kvs=>simp only [qR] at h;rw [h.1];rfl
theorem pe {kvs:List (PyData×PyData)} (h:eI H (.dict kvs) x):∃ a,x=.ref a:=by
  rcases h with h | h
  · simp only [Rp] at h;rcases h with ⟨a,o,vs,e,_⟩ | ⟨a,o,C,dx,fs,e,_⟩
    · exact ⟨a,e⟩
    · exact ⟨a,e⟩
  · simp only [fE] at h;obtain ⟨a,vs,e,_⟩:=h;exact ⟨a,e⟩
theorem il {kvs:List (PyData×PyData)} (hi:iA kvs=false) (h:eI H (.dict kvs) x):∃ a ks,x=.ref a/\Rd H a (.dK ks)/\bU H kvs ks:=by
  rcases h with h | h
  · simp only [Rp] at h;rcases h with ⟨a,o,vs,e,ha,r⟩ | ⟨a,o,C,dx,fs,e,ha,r⟩
    · exact ⟨a,vs,e,.inr ⟨o,ha⟩,r⟩
    · rw [sA r] at hi;cases hi
  · simp only [fE] at h;obtain ⟨a,vs,e,ha,r⟩:=h;exact ⟨a,vs,e,.inl ha,r⟩
end
theorem aI.nil {H:Hp}:aI H [] []:=by simp only [aI]
theorem aI.cons {H:Hp} {d:PyData} {ds:List PyData} {v:V} {vs:List V} (h:Rp H d v) (t:aI H ds vs):aI H (d::ds) (v::vs):=by simp only [aI];exact ⟨v,vs,rfl,h,t⟩
theorem aI.nil_inv {H:Hp} {vs:List V} (h:aI H [] vs):vs=[]:=by simpa only [aI] using h
theorem aI.cons_inv {H:Hp} {d:PyData} {ds:List PyData} {vs:List V} (h:aI H (d::ds) vs):∃ v r,vs=v::r/\Rp H d v/\aI H ds r:=by simpa only [aI] using h
theorem aI.length {H:Hp}:∀ {ds:List PyData} {vs:List V},aI H ds vs->vs.length=ds.length
  | [],vs,h=>by rw [h.nil_inv];rfl
  | d::ds,vs,h=>by
    obtain ⟨v,r,rfl,_,t⟩:=h.cons_inv;rw [List.length_cons,List.length_cons,aI.length t]
theorem aI.get {H:Hp}:∀ {ds:List PyData} {vs:List V} {i:Nat} {d:PyData},aI H ds vs->ds[i]?=some d->∃ v,vs[i]?=some v/\Rp H d v
  | [],vs,i,d,h,e=>by simp at e
  | d0::ds,vs,0,d,h,e=>by
    obtain ⟨v,r,rfl,p,_⟩:=h.cons_inv;simp at e;subst e;exact ⟨v,rfl,p⟩
  | d0::ds,vs,i+1,d,h,e=>by
    obtain ⟨v,r,rfl,_,t⟩:=h.cons_inv;obtain ⟨u,e1,p⟩:=aI.get (i:=i) t (by simpa using e);exact ⟨u,by simpa using e1,p⟩
theorem aI.append {H:Hp}:∀ {ds es:List PyData} {vs us:List V},aI H ds vs->aI H es us->aI H (ds++es) (vs++us)
  | [],es,vs,us,h,g=>by rw [h.nil_inv];exact g
  | d::ds,es,vs,us,h,g=>by
    obtain ⟨v,r,rfl,p,t⟩:=h.cons_inv;exact aI.cons p (aI.append t g)
theorem aI.take {H:Hp}:∀ {ds:List PyData} {vs:List V} (n:Nat),aI H ds vs->aI H (ds.take n) (vs.take n)
  | ds,vs,0,h=>by simp only [List.take_zero];exact aI.nil
  | [],vs,n+1,h=>by rw [h.nil_inv];exact aI.nil
  | d::ds,vs,n+1,h=>by
    obtain ⟨v,r,rfl,p,t⟩:=h.cons_inv;exact aI.cons p (aI.take n t)
theorem aI.drop {H:Hp}:∀ {ds:List PyData} {vs:List V} (n:Nat),aI H ds vs->aI H (ds.drop n) (vs.drop n)
  | ds,vs,0,h=>h
  | [],vs,n+1,h=>by rw [h.nil_inv];exact aI.nil
  | d::ds,vs,n+1,h=>by
    obtain ⟨v,r,rfl,p,t⟩:=h.cons_inv;exact aI.drop n t
theorem aI.reverse {H:Hp}:∀ {ds:List PyData} {vs:List V},aI H ds vs->aI H ds.reverse vs.reverse
  | [],vs,h=>by rw [h.nil_inv];exact aI.nil
  | d::ds,vs,h=>by
    obtain ⟨v,r,rfl,p,t⟩:=h.cons_inv;rw [List.reverse_cons,List.reverse_cons];exact aI.append (aI.reverse t) (aI.cons p aI.nil)
theorem aI.rep {H:Hp} {ds:List PyData} {vs:List V} (h:aI H ds vs):∀ k:Nat,aI H (List.replicate k ds).flatten (List.replicate k vs).flatten
  | 0=>aI.nil
  | k+1=>by rw [List.replicate_succ,List.replicate_succ,List.flatten_cons,List.flatten_cons];exact aI.append h (aI.rep h k)
theorem aI.ints {H:Hp}:∀ ns:List Int,aI H (ns.map PyData.int) (ns.map V.int)
  | []=>aI.nil
  | n::ns=>aI.cons (by simp only [Rp]) (aI.ints ns)
theorem bJ {H:Hp} {p:Addr} (h:H p=none) (o:HO):al H (bP H p o):=fun b u q=>by rw [am (aq q h)];exact q
theorem df {H:Hp} {p:Addr} {ds:List PyData} {vs:List V} (h:H p=none) (r:aI H ds vs):Rp (bP H p (.tup vs)) (.tuple ds) (.ref p):=by
  simp only [Rp];exact ⟨p,vs,rfl,aW,r.mono (bJ h _)⟩
theorem dh {H:Hp} {p:Addr} {ds:List PyData} {vs:List V} (h:H p=none) (r:aI H ds vs):uZ H (bP H p (.lst vs)) (.list ds) (.ref p):=by
  refine ⟨?_,p,rfl,h⟩;simp only [fE];exact ⟨p,vs,rfl,aW,r.mono (bJ h _)⟩
section
variable {P:Program} {w:World} {H:Hp} {h:Heap}
mutual
theorem lq (ok:dk P w H h):∀ (d:PyData) (v:V) (u:Value),d.canLay0=true->Rp H d v->aJ v u->∃ as,Reads h u d as
  | .none,v,u,_,r,e=>by simp only [Rp] at r;subst r;cases e;exact ⟨_,.none⟩
  | .bool b,v,u,_,r,e=>by simp only [Rp] at r;subst r;cases e;exact ⟨_,.bool b⟩
  | .int i,v,u,_,r,e=>by simp only [Rp] at r;subst r;obtain ⟨t,rfl⟩:=e;exact ⟨_,.int i t⟩
  | .str x,v,u,_,r,e=>by simp only [Rp] at r;subst r;obtain ⟨t,rfl⟩:=e;exact ⟨_,.str x t⟩
  | .tuple ds,v,u,c,r,e=>by
    simp only [Rp] at r;obtain ⟨a,vs,rfl,ha,r⟩:=r;cases e;obtain ⟨_,its,rv,o,h1,h2,⟨n,h3⟩,_⟩:=(show aQ P w H h a (.tup vs) from ok a _ ha)
    obtain ⟨as,q⟩:=di ok ds vs its (by simpa only [PyData.canLay0] using c) r rv;exact ⟨as,.tuple h1 h2 h3 (by simpa using q)⟩
  | .list ds,v,u,c,r,e=>by
    simp only [Rp] at r;obtain ⟨a,ob,vs,rfl,ha,r⟩:=r;cases e;obtain ⟨_,_,its,n,rv,h1⟩:=(show aQ P w H h a (.frz ob (.lst vs)) from ok a _ ha)
    obtain ⟨as,q⟩:=di ok ds vs its (by simpa only [PyData.canLay0] using c) r rv;exact ⟨a::as,.list h1 rfl rfl (by simpa using q)⟩
  | .dict kvs,v,u,c,r,e=>by simp [PyData.canLay0] at c
theorem di (ok:dk P w H h):∀ (ds:List PyData) (vs:List V) (us:List Value),PyData.canLayAll0 ds=true->aI H ds vs->aF vs us->∃ as,ReadsAll h us ds as
  | [],vs,us,_,r,e=>by rw [r.nil_inv] at e;cases e;exact ⟨_,.nil⟩
  | d::ds,vs,us,c,r,e=>by
    obtain ⟨v,r',rfl,p,t⟩:=r.cons_inv;have c':d.canLay0=true/\PyData.canLayAll0 ds=true:=by simpa [PyData.canLayAll0] using c
    cases e with
    | cons e1 e2 =>
      obtain ⟨as,q1⟩:=lq ok d v _ c'.1 p e1;obtain ⟨bs,q2⟩:=di ok ds r' _ c'.2 t e2;exact ⟨as++bs,.cons q1 q2⟩
end
theorem fA (ok:dk P w H h) {d:PyData} {v:V} {u:Value} (c:d.canLay0=true) (r:eI H d v) (e:aJ v u):∃ as,Reads h u d as:=by
  rcases r with r | r
  · exact lq ok d v u c r e
  · cases d <;> simp only [fE] at r
    · rename_i ds;obtain ⟨a,vs,rfl,ha,r⟩:=r;cases e;obtain ⟨_,its,n,rv,h1⟩:=(show aQ P w H h a (.lst vs) from ok a _ ha)
      obtain ⟨as,q⟩:=di ok ds vs its (by simpa only [PyData.canLay0] using c) r rv;exact ⟨a::as,.list h1 rfl rfl (by simpa using q)⟩
    · simp [PyData.canLay0] at c
end
noncomputable def eF:PyData->Option bu
  | .int i=>some (.inl i)
  | .str y=>some (.inr y)
  | _=>none
noncomputable def dg:PyData->PyData->Bool
  | .int i,.int j=>decide (i=j)
  | .str i,.str j=>decide (i=j)
  | _,_=>false
noncomputable def mo (kvs:List (PyData×PyData)) (k v:PyData):List (PyData×PyData) :=
  if (kvs.any fun kv=>dg kv.1 k)=true then kvs.map (fun kv=>if dg kv.1 k=true then (kv.1,v) else kv) else kvs++[(k,v)]
theorem fu (κ κ':bu):dg (cS κ) (cS κ')=decide (κ=κ'):=by
  cases κ with
  | inl i =>
    cases κ' with
    | inl j=>simp [cS,dg]
    | inr j=>simp [cS,dg]
  | inr i =>
    cases κ' with
    | inl j=>simp [cS,dg]
    | inr j=>simp [cS,dg]
theorem bU.cons {H:Hp} {k d:PyData} {kvs:List (PyData×PyData)} {κ:bu} {v:V} {ks:List (bu×V)} (e:k=cS κ) (h:Rp H d v) (t:bU H kvs ks):bU H ((k,d)::kvs) ((κ,v)::ks):=by
  simp only [bU,qZ];exact ⟨κ,v,ks,rfl,⟨e,h⟩,t⟩
theorem bU.cons_inv {H:Hp} {k d:PyData} {kvs:List (PyData×PyData)} {ks:List (bu×V)} (h:bU H ((k,d)::kvs) ks):∃ κ v r,ks=(κ,v)::r/\k=cS κ/\Rp H d v/\bU H kvs r:=by
  simp only [bU,qZ] at h;obtain ⟨κ,v,r,e,⟨e1,p⟩,t⟩:=h;exact ⟨κ,v,r,e,e1,p,t⟩
theorem bU.nil_inv {H:Hp} {ks:List (bu×V)} (h:bU H [] ks):ks=[]:=by simpa only [bU] using h
theorem bU.any {H:Hp} (κ:bu):∀ {kvs:List (PyData×PyData)} {ks:List (bu×V)},bU H kvs ks->(kvs.any fun kv=>dg kv.1 (cS κ))=ks.any fun kv=>decide (kv.1=κ)
  | [],ks,h=>by rw [h.nil_inv];rfl
  | (k,d)::kvs,ks,h=>by
    obtain ⟨κ',v,r,rfl,rfl,p,t⟩:=h.cons_inv;rw [List.any_cons,List.any_cons,bU.any κ t,fu]
theorem bU.repl {H:Hp} (κ:bu) {d:PyData} {v:V} (hv:Rp H d v):∀ {kvs:List (PyData×PyData)} {ks:List (bu×V)},bU H kvs ks ->
    bU H (kvs.map fun kv=>if dg kv.1 (cS κ)=true then (kv.1,d) else kv) (ks.map fun kv=>if kv.1=κ then (kv.1,v) else kv)
  | [],ks,h=>by rw [h.nil_inv];simp only [List.map_nil,bU]
  | (k,d')::kvs,ks,h=>by
    obtain ⟨κ',v',r,rfl,rfl,p,t⟩:=h.cons_inv;rw [List.map_cons,List.map_cons];dsimp only;rw [fu];by_cases e:κ'=κ
    · rw [if_pos (decide_eq_true e),if_pos e];exact bU.cons rfl hv (bU.repl κ hv t)
    · rw [if_neg (by rw [decide_eq_false e];exact Bool.false_ne_true),if_neg e];exact bU.cons rfl p (bU.repl κ hv t)
theorem bU.snoc {H:Hp} {κ:bu} {d:PyData} {v:V} (hv:Rp H d v):∀ {kvs:List (PyData×PyData)} {ks:List (bu×V)},bU H kvs ks->bU H (kvs++[(cS κ,d)]) (ks++[(κ,v)])
  | [],ks,h=>by rw [h.nil_inv];exact bU.cons rfl hv (by simp only [bU])
  | (k,d')::kvs,ks,h=>by
    obtain ⟨κ',v',r,rfl,rfl,p,t⟩:=h.cons_inv;exact bU.cons rfl p (bU.snoc hv t)
theorem bU.put {H:Hp} (κ:bu) {d:PyData} {v:V} (hv:Rp H d v) {kvs:List (PyData×PyData)} {ks:List (bu×V)} (h:bU H kvs ks):bU H (mo kvs (cS κ) d) (gn ks κ v):=by
  unfold mo gn;rw [h.any κ];split
  · exact h.repl κ hv
  · exact h.snoc hv
noncomputable def jv (kvs:List (PyData×PyData)) (k:PyData):Option PyData:=(kvs.find? fun kv=>dg kv.1 k).map (·.2)
theorem bU.look {H:Hp} (κ:bu):∀ {kvs:List (PyData×PyData)} {ks:List (bu×V)},bU H kvs ks->(jv kvs (cS κ)=none/\fD ks κ=none)\/∃ d v,jv kvs (cS κ)=some d/\fD ks κ=some v/\Rp H d v
  | [],ks,h=>.inl (by rw [h.nil_inv];exact ⟨rfl,rfl⟩)
  | (k,d)::kvs,ks,h=>by
    obtain ⟨κ',v,r,rfl,rfl,p,t⟩:=h.cons_inv;unfold jv fD;by_cases e:κ'=κ
    · rw [List.find?_cons_of_pos (by rw [fu];exact decide_eq_true e),List.find?_cons_of_pos (by exact decide_eq_true e)];exact .inr ⟨d,v,rfl,rfl,p⟩
    · rw [List.find?_cons_of_neg (by rw [fu,decide_eq_false e];exact Bool.false_ne_true),List.find?_cons_of_neg (by rw [decide_eq_false e];exact Bool.false_ne_true)];exact bU.look κ t
theorem pX {d:PyData} {κ:bu} (h:eF d=some κ):d=cS κ:=by
  cases d <;> simp only [eF] at h <;> cases h <;> rfl
theorem re {H:Hp} {d:PyData} {x:V} {κ:bu} (h:eI H d x) (e:eF d=some κ):x=kV κ:=by
  cases d <;> simp only [eF] at e <;> cases e
  · exact aE h
  · exact dO h
theorem rA {H:Hp} {a:Addr} {kvs:List (PyData×PyData)} {ks:List (bu×V)} {κ:bu} (h:Rd H a (.dK ks)) (r:bU H kvs ks):∃ o,kh H a (kV κ) o/\o.isSome=(jv kvs (cS κ)).isSome/\∀ d,jv kvs (cS κ)=some d->∃ v,o=some v/\Rp H d v:=by
  refine ⟨fD ks κ,.inl ⟨ks,κ,h,rfl,rfl⟩,?_⟩;rcases r.look κ with ⟨e1,e2⟩ | ⟨d,v,e1,e2,p⟩
  · rw [e1,e2];exact ⟨rfl,fun d z=>by cases z⟩
  · rw [e1,e2];exact ⟨rfl,fun d z=>by cases z;exact ⟨v,rfl,p⟩⟩
noncomputable def jR:PyData->PyData->R PyData
  | .int i,.int j=>.ok (.int (i-j))
  | _,_=>.no
noncomputable def dQ:PyData->PyData->R PyData
  | .int i,.int j=>if 0 < j then .ok (.int (i%j)) else .no
  | _,_=>.no
noncomputable def iY:PyData->PyData->R PyData
  | .int i,.int j=>if 0 < j/\j < 1073741824 then .ok (.int (i / j)) else .no
  | _,_=>.no
noncomputable def eV (p:Int->Int->Bool):PyData->PyData->R PyData
  | .int i,.int j=>.ok (.bool (p i j))
  | _,_=>.no
noncomputable def jT (x y:PyData):Bool:=x.canLay0&&y.canLay0&&decide (min x.depth y.depth<=60)
noncomputable def kQ (x y:PyData):R PyData:=if jT x y=true then .ok (.bool (PyData.eqv x y)) else .no
noncomputable def kR (x y:PyData):R PyData:=if jT x y=true then .ok (.bool (!PyData.eqv x y)) else .no
noncomputable def bI:PyData->Bool
  | .none=>true
  | _=>false
noncomputable def iZ (x y:PyData):R PyData:=if bI y=true then .ok (.bool (bI x)) else .no
noncomputable def cy (x y:PyData):R PyData:=if bI y=true then .ok (.bool (!bI x)) else .no
section
variable {X:Cx} {a b c:Expr} {fa fb fc:Fe} {pos:Pos}
theorem bw {H:Hp} {i:Int}:Rp H (.int i) (.int i):=by simp only [Rp]
theorem eA {H:Hp} {i:Bool}:Rp H (.bool i) (.bl i):=by simp only [Rp]
theorem qz {H:Hp} {i:Str}:Rp H (.str i) (.str i):=by simp only [Rp]
theorem uP:aT X eJ (qT fun i j=>.int (i-j)) jR:=fun H x y dx dy Q hx hy q=>by
  unfold jR at q;split at q
  · exact ⟨_,_,aE hx,aE hy,q _ H (al.refl _) bw⟩
  · exact q.elim
theorem uL:aT X eJ (rI (fun _ j=>0 < j) fun i j=>.int (i%j)) dQ:=fun H x y dx dy Q hx hy q=>by
  unfold dQ at q;split at q
  · split at q
    · rename_i h;exact ⟨_,_,aE hx,aE hy,h,q _ H (al.refl _) bw⟩
    · exact q.elim
  · exact q.elim
theorem uJ:aT X eJ (rI va fun i j=>.int (i / j)) iY:=fun H x y dx dy Q hx hy q=>by
  unfold iY at q;split at q
  · split at q
    · rename_i h;exact ⟨_,_,aE hx,aE hy,h,q _ H (al.refl _) bw⟩
    · exact q.elim
  · exact q.elim
theorem iK {p:Int->Int->Bool}:aT X eJ (qT fun i j=>.bl (p i j)) (eV p):=fun H x y dx dy Q hx hy q=>by
  unfold eV at q;split at q
  · exact ⟨_,_,aE hx,aE hy,q _ H (al.refl _) eA⟩
  · exact q.elim
theorem fZ (ha:Z.bS X a fa) (hb:Z.bS X b fb):Z.bD X (.BinOp a .Sub b pos) (e2 jR fa fb):=⟨have ha:=ha.un;have hb:=hb.un;gB cu ui uP ha hb⟩
theorem bp (ha:Z.bS X a fa) (hb:Z.bS X b fb):Z.bD X (.BinOp a .Mod b pos) (e2 dQ fa fb):=⟨have ha:=ha.un;have hb:=hb.un;gB cu ue uL ha hb⟩
theorem dC (ha:Z.bS X a fa) (hb:Z.bS X b fb):Z.bD X (.BinOp a .FloorDiv b pos) (e2 iY fa fb):=⟨have ha:=ha.un;have hb:=hb.un;gB cu rX uJ ha hb⟩
noncomputable abbrev yQ:Int->Int->Bool:=fun i j=>decide (i < j)
noncomputable abbrev r9:Int->Int->Bool:=fun i j=>decide (i<=j)
noncomputable abbrev r8:Int->Int->Bool:=fun i j=>decide (j < i)
theorem o7 (ha:Z.bS X a fa) (hb:Z.bS X b fb):Z.h9 X (.Compare a [.Lt] [b] pos) (tE (e2 (eV yQ) fa fb)):=⟨have ha:=ha.un;have hb:=hb.un;dU wa iK ha hb (eY _)⟩
theorem o6 (ha:Z.bS X a fa) (hb:Z.bS X b fb):Z.h9 X (.Compare a [.LtE] [b] pos) (tE (e2 (eV r9) fa fb)):=⟨have ha:=ha.un;have hb:=hb.un;dU qi iK ha hb (eY _)⟩
theorem kL (ha:Z.bS X a fa) (hb:Z.bS X b fb):Z.h9 X (.Compare a [.Gt] [b] pos) (tE (e2 (eV r8) fa fb)):=⟨have ha:=ha.un;have hb:=hb.un;dU v9 iK ha hb (eY _)⟩
noncomputable def sv (X:Cx) (neg:Bool):R2:=fun x y H Q=>∃ dx dy,eI H dx x/\eI H dy y/\jT dx dy=true/\Q (.bl (if neg then !PyData.eqv dx dy else PyData.eqv dx dy)) H
theorem ir {x y:PyData} (h:jT x y=true):x.canLay0=true/\y.canLay0=true/\min x.depth y.depth<=60:=by
  unfold jT at h;rw [Bool.and_eq_true,Bool.and_eq_true,decide_eq_true_eq] at h;exact ⟨h.1.1,h.1.2,h.2⟩
theorem qh (hu:X.A.units+64 < cLine):eS X (compareOp .Eq) (sv X false):=by
  intro pins s σ H x y v u Q I rx ry h;obtain ⟨dx,dy,hx,hy,ho,q⟩:=h;obtain ⟨c1,c2,c3⟩:=ir ho;obtain ⟨as,r1⟩:=fA I.hok c1 hx rx;obtain ⟨bs,r2⟩:=fA I.hok c2 hy ry;exact PySem.SeqAt.compareEq_reads r1 r2 c1 c2 (by omega) ⟨.bl _,H,I,rfl,q⟩
theorem ug (hu:X.A.units+64 < cLine):eS X (compareOp .NotEq) (sv X true):=by
  intro pins s σ H x y v u Q I rx ry h;obtain ⟨dx,dy,hx,hy,ho,q⟩:=h;obtain ⟨c1,c2,c3⟩:=ir ho;obtain ⟨as,r1⟩:=fA I.hok c1 hx rx;obtain ⟨bs,r2⟩:=fA I.hok c2 hy ry;exact PySem.SeqAt.compareNe_reads r1 r2 c1 c2 (by omega) ⟨.bl _,H,I,rfl,q⟩
theorem s8:aT X eJ (sv X false) kQ:=fun H x y dx dy Q hx hy q=>by
  unfold kQ at q;split at q
  · rename_i h;exact ⟨dx,dy,hx,hy,h,q _ H (al.refl _) eA⟩
  · exact q.elim
theorem wD:aT X eJ (sv X true) kR:=fun H x y dx dy Q hx hy q=>by
  unfold kR at q;split at q
  · rename_i h;exact ⟨dx,dy,hx,hy,h,q _ H (al.refl _) eA⟩
  · exact q.elim
theorem jH (hu:X.A.units+64 < cLine) (ha:Z.bS X a fa) (hb:Z.bS X b fb):Z.bD X (.Compare a [.Eq] [b] pos) (e2 kQ fa fb):=⟨have ha:=ha.un;have hb:=hb.un;tT (qh hu) s8 ha hb (eY _)⟩
theorem gc (hu:X.A.units+64 < cLine) (ha:Z.bS X a fa) (hb:Z.bS X b fb):Z.h9 X (.Compare a [.Eq] [b] pos) (tE (e2 kQ fa fb)):=⟨have ha:=ha.un;have hb:=hb.un;dU (qh hu) s8 ha hb (eY _)⟩
theorem eU (hu:X.A.units+64 < cLine) (ha:Z.bS X a fa) (hb:Z.bS X b fb):Z.h9 X (.Compare a [.NotEq] [b] pos) (tE (e2 kR fa fb)):=⟨have ha:=ha.un;have hb:=hb.un;dU (ug hu) wD ha hb (eY _)⟩
theorem na {H:Hp} {d:PyData} {x:V} (h:eI H d x):decide (x=.non)=bI d:=by
  cases d with
  | none=>rw [gf h];rfl
  | bool b=>rw [ik h];rfl
  | int i=>rw [aE h];rfl
  | str y=>rw [dO h];rfl
  | tuple ds=>obtain ⟨a,vs,rfl,_⟩:=ce h;rfl
  | list ds=>obtain ⟨a,vs,rfl,_⟩:=bV (K:=default) h;rfl
  | dict kvs=>obtain ⟨a,rfl⟩:=pe h;rfl
theorem uK:aT X eJ (fun x y H Q=>y=.non/\Q (.bl (decide (x=.non))) H) iZ:=fun H x y dx dy Q hx hy q=>by
  unfold iZ at q;split at q
  · rename_i h;cases dy <;> simp only [bI,Bool.false_eq_true] at h;exact ⟨gf hy,by rw [na hx];exact q _ H (al.refl _) eA⟩
  · exact q.elim
theorem sF:aT X eJ (fun x y H Q=>y=.non/\Q (.bl (!decide (x=.non))) H) cy:=fun H x y dx dy Q hx hy q=>by
  unfold cy at q;split at q
  · rename_i h;cases dy <;> simp only [bI,Bool.false_eq_true] at h;exact ⟨gf hy,by rw [na hx];exact q _ H (al.refl _) eA⟩
  · exact q.elim
theorem jc (ha:Z.bS X a fa) (hb:Z.bS X b fb):Z.h9 X (.Compare a [.Is] [b] pos) (tE (e2 iZ fa fb)):=⟨have ha:=ha.un;have hb:=hb.un;dU ud uK ha hb (eY _)⟩
theorem dL (ha:Z.bS X a fa) (hb:Z.bS X b fb):Z.h9 X (.Compare a [.IsNot] [b] pos) (tE (e2 cy fa fb)):=⟨have ha:=ha.un;have hb:=hb.un;dU rY sF ha hb (eY _)⟩
end
inductive mF where
  | nx (ρ:ar)
  | rt (d:PyData)
  | bk (ρ:ar)
  | ct (ρ:ar)
noncomputable abbrev Fs:=ar->R mF
structure dG (Fm H:Hp) (σ:St) (ρ:ar):Prop where
  fm:al Fm H
  sl:Sl H σ ρ
  own:∀ (i:Nat) (d:PyData) (a:Addr),ρ[i]?=some (.own d)->σ[i]?=some (some (.ref a))->Fm a=none
  apart:∀ (i j:Nat) (d e:PyData) (a:Addr),ρ[i]?=some (.own d)->ρ[j]?=some (.own e)->σ[i]?=some (some (.ref a))->σ[j]?=some (some (.ref a))->i=j
theorem dG.mono {Fm H H':Hp} {σ:St} {ρ:ar} (h:dG Fm H σ ρ) (s:al H H'):dG Fm H' σ ρ:=⟨h.fm.trans s,h.sl.mono s,h.own,h.apart⟩
noncomputable def sw (X:Cx) (Fm:Hp) (r:R mF) (D:kr):Prop :=
  match r with
  | .ok (.nx ρ)=>∀ σ H,dG Fm H σ ρ->D.nx σ H
  | .ok (.rt d)=>∀ v H,al Fm H->Rp H d v->D.rt v H
  | .ok (.bk ρ)=>∀ σ H,dG Fm H σ ρ->D.bk σ H
  | .ok (.ct ρ)=>∀ σ H,dG Fm H σ ρ->D.ct σ H
  | .ex c=>Xw X c Fm/\u5 X c Fm
  | .no=>False
noncomputable def sY (X:Cx) (Fm:Hp) (g:Fs):TS:=fun D σ H=>∃ ρ,dG Fm H σ ρ/\sw X Fm (g ρ) D
noncomputable def iQ (X:Cx) (st:Stmt) (g:Fs):Prop:=∀ Fm,PS X st (sY X Fm g)
structure Z.iQ (X:Cx) (st:Stmt) (g:Fs):Prop where
  un:D2.iQ X st g
noncomputable def fI (X:Cx) (st:List Stmt) (g:Fs):Prop:=∀ Fm,jE X st (sY X Fm g)
structure Z.fI (X:Cx) (st:List Stmt) (g:Fs):Prop where
  un:D2.fI X st g
theorem PS.imp {X:Cx} {e:Stmt} {t t':TS} (h:PS X e t) (i:∀ D σ H,t' D σ H->t D σ H):PS X e t':=fun pins s σ H D I q=>h pins s σ H D I (i D σ H q)
theorem jE.imp {X:Cx} {e:List Stmt} {t t':TS} (h:jE X e t) (i:∀ D σ H,t' D σ H->t D σ H):jE X e t':=fun pins s σ H D I q=>h pins s σ H D I (i D σ H q)
section
variable {X:Cx} {Fm:Hp} {σ:St} {H:Hp} {D:kr}
theorem lU {P:Hp->Hp->PyData->V->Prop} {f:Fe} {k:ar->PyData->R mF} (h:sY X Fm (fun ρ=>f ρ>>=k ρ) D σ H) :
    eZ X P f σ H (fun v H1=>∃ ρ d,dG Fm H1 σ ρ/\al H H1/\P H H1 d v/\sw X Fm (k ρ d) D):=by
  obtain ⟨ρ,sl,q⟩:=h;refine ⟨ρ,sl.sl,?_⟩;dsimp only at q;cases e:f ρ with
  | ok d=>rw [e] at q;exact fun v H1 s p=>⟨ρ,d,sl.mono s,s,p,q⟩
  | ex c=>rw [e] at q;exact q.1.mono sl.fm
  | no=>rw [e] at q;exact q
theorem mK {f:ar->R Bool} {k:ar->Bool->R mF} (h:sY X Fm (fun ρ=>f ρ>>=k ρ) D σ H):sx X f σ H (fun b H1=>∃ ρ,dG Fm H1 σ ρ/\al H H1/\sw X Fm (k ρ b) D):=by
  obtain ⟨ρ,sl,q⟩:=h;refine ⟨ρ,sl.sl,?_⟩;dsimp only at q;cases e:f ρ with
  | ok d=>rw [e] at q;exact fun H1 s=>⟨ρ,sl.mono s,s,q⟩
  | ex c=>rw [e] at q;exact q.1.mono sl.fm
  | no=>rw [e] at q;exact q
end
noncomputable def cz:Fs:=fun ρ=>.ok (.nx ρ)
noncomputable def jB (h:Fs):mF->R mF
  | .nx ρ=>h ρ
  | o=>.ok o
noncomputable def aS (g h:Fs):Fs:=fun ρ=>g ρ>>=jB h
noncomputable def jy (t:ar->R Bool) (g h:Fs):Fs:=fun ρ=>t ρ>>=fun b=>if b=true then g ρ else h ρ
noncomputable def bW (f:Fe):Fs:=fun ρ=>f ρ>>=fun d=>.ok (.rt d)
noncomputable def wx:Fs:=fun _=>.ok (.rt .none)
noncomputable def wv (f:Fe):Fs:=fun ρ=>f ρ>>=fun _=>.ok (.nx ρ)
noncomputable def uE:Fs:=fun ρ=>.ok (.bk ρ)
noncomputable def wq:Fs:=fun ρ=>.ok (.ct ρ)
noncomputable def bC (i:Nat) (f:Fe):Fs:=fun ρ=>f ρ>>=fun d=>.ok (.nx (ρ.set i (.val d)))
noncomputable def gJ (i:Nat) (f:Fe):Fs:=fun ρ=>f ρ>>=fun d=>.ok (.nx (ρ.set i (.own d)))
section
variable {X:Cx} {nl:Nat} {G:List Str} {st:Stmt} {sts:List Stmt} {g h:Fs} {f:Fe} {e:Expr} {pos pos':Pos} {x:Str}
theorem bK  : Z.fI X [] cz:=⟨fun Fm=>jE.imp sq fun D σ H ⟨ρ,sl,q⟩=>q σ H sl⟩
theorem aj (h1:Z.iQ X st g) (h2:Z.fI X sts h):Z.fI X (st::sts) (aS g h):=⟨have h1:=h1.un;have h2:=h2.un;fun Fm=>by
  refine jE.imp (qr (h1 Fm) (h2 Fm)) fun D σ H ⟨ρ,sl,q⟩=>⟨ρ,sl,?_⟩
  unfold aS at q;cases e:g ρ with
  | ex c=>rw [e] at q;exact q
  | no=>rw [e] at q;exact q
  | ok o =>
    rw [e] at q;cases o with
    | nx ρ'=>exact fun σ' H' s'=>⟨ρ',s',q⟩
    | rt d=>exact q
    | bk ρ'=>exact q
    | ct ρ'=>exact q⟩
theorem av (h1:Z.iQ X st g):Z.fI X [st] g:=⟨have h1:=h1.un;fun Fm=>sr (h1 Fm)⟩
theorem aA (he:Z.bD X e f):Z.iQ X (.Return (some e) pos) (bW f):=⟨have he:=he.un;fun Fm =>
  PS.imp (uw he) fun D σ H h=>(lU (P:=eJ) (f:=f) (k:=fun _ d=>.ok (.rt d)) h).post fun v H1 ⟨ρ,d,sl,_,p,q⟩=>q v H1 sl.fm p⟩
theorem bZ {c:Expr} {a b:List Stmt} {t:ar->R Bool} (hc:Z.h9 X c t) (ha:Z.fI X a g) (hb:Z.fI X b h):Z.iQ X (.If c a b pos) (jy t g h):=⟨have hc:=hc.un;have ha:=ha.un;have hb:=hb.un;fun Fm =>
  PS.imp (wk hc (ha Fm) (hb Fm)) fun D σ H q=>(mK (f:=t) (k:=fun ρ b=>if b=true then g ρ else h ρ) q).post fun b H1 ⟨ρ,sl,_,q⟩=>by
    cases b with
    | true=>exact ⟨ρ,sl,q⟩
    | false=>exact ⟨ρ,sl,q⟩⟩
theorem Sl.set {H:Hp} {σ:St} {ρ:ar} {c:cg} {o:Option V} (h:Sl H σ ρ) (i:Nat) (hc:eN H c o):Sl H (σ.set i o) (ρ.set i c):=by
  refine ⟨by rw [List.length_set,List.length_set];exact h.1,fun j c' o' h1 h2=>?_⟩;rw [List.getElem?_set] at h1 h2;by_cases hij:i=j
  · rw [if_pos hij] at h1 h2;by_cases hi:i < ρ.length
    · rw [if_pos hi] at h1;rw [if_pos (by rw [h.1];exact hi)] at h2;cases h1;cases h2;exact hc
    · rw [if_neg hi] at h1;cases h1
  · rw [if_neg hij] at h1 h2;exact h.2 j c' o' h1 h2
theorem ba {ρ:ar} {i j:Nat} {c:cg} {d:PyData} (hc:∀ e,c≠.own e) (h:(ρ.set i c)[j]?=some (.own d)):i≠j/\ρ[j]?=some (.own d):=by
  rw [List.getElem?_set] at h;by_cases hij:i=j
  · rw [if_pos hij] at h;split at h
    · exact absurd (Option.some.inj h) (hc d)
    · cases h
  · rw [if_neg hij] at h;exact ⟨hij,h⟩
theorem dG.set {Fm H:Hp} {σ:St} {ρ:ar} {c:cg} {o:Option V} (h:dG Fm H σ ρ) (i:Nat) (hn:∀ e,c≠.own e) (hc:eN H c o):dG Fm H (σ.set i o) (ρ.set i c):=by
  refine ⟨h.fm,h.sl.set i hc,fun j d a h1 h2=>?_,fun j k d e a h1 h2 h3 h4=>?_⟩
  · obtain ⟨ne,h1⟩:=ba hn h1;rw [List.getElem?_set,if_neg ne] at h2;exact h.own j d a h1 h2
  · obtain ⟨ne,h1⟩:=ba hn h1;obtain ⟨ne',h2⟩:=ba hn h2;rw [List.getElem?_set,if_neg ne] at h3;rw [List.getElem?_set,if_neg ne'] at h4;exact h.apart j k d e a h1 h2 h3 h4
theorem jY {H:Hp} {d:PyData} {v:V} (h:fE H d v):∃ a o,v=.ref a/\H a=some o:=by
  cases d <;> simp only [fE] at h
  · obtain ⟨a,vs,e,ha,_⟩:=h;exact ⟨a,_,e,ha⟩
  · obtain ⟨a,vs,e,ha,_⟩:=h;exact ⟨a,_,e,ha⟩
theorem dG.setOwn {Fm H0 H:Hp} {σ:St} {ρ:ar} {d:PyData} {v:V} (h0:dG Fm H0 σ ρ) (h:dG Fm H σ ρ) (hs:al H0 H) (i:Nat) (hn:uZ H0 H d v):dG Fm H (σ.set i (some v)) (ρ.set i (.own d)):=by
  obtain ⟨p,a,rfl,ha⟩:=hn;have old:∀ (j:Nat) (e:PyData) (b:Addr),i≠j->(ρ.set i (.own d))[j]?=some (.own e)->(σ.set i (some (.ref a)))[j]?=some (some (.ref b))->ρ[j]?=some (.own e)/\σ[j]?=some (some (.ref b)):=fun j e b ne h1 h2=>by
    rw [List.getElem?_set,if_neg ne] at h1 h2;exact ⟨h1,h2⟩
  have notA:∀ (j:Nat) (e:PyData),ρ[j]?=some (.own e)->σ[j]?=some (some (.ref a))->False:=fun j e h1 h2=>by
    obtain ⟨u,e1,q⟩:=h0.sl.2 j _ _ h1 h2;cases e1;obtain ⟨b,o,e2,hb⟩:=jY q;cases e2;rw [ha] at hb;cases hb
  have here:∀ (b:Addr),(σ.set i (some (.ref a)))[i]?=some (some (.ref b))->b=a:=fun b h2=>by
    rw [List.getElem?_set,if_pos rfl] at h2;split at h2
    · cases h2;rfl
    · cases h2
  refine ⟨h.fm,h.sl.set i ⟨_,rfl,p⟩,fun j e b h1 h2=>?_,fun j k e f b h1 h2 h3 h4=>?_⟩
  · by_cases hij:i=j
    · subst hij;rw [here b h2];exact (h0.fm).free ha
    · obtain ⟨h1,h2⟩:=old j e b hij h1 h2;exact h.own j e b h1 h2
  · by_cases hij:i=j
    · subst hij;have eb:=here b h3;by_cases hik:i=k
      · exact hik
      · obtain ⟨h2,h4⟩:=old k f b hik h2 h4;rw [eb] at h4;exact (notA k f h2 h4).elim
    · obtain ⟨h1,h3⟩:=old j e b hij h1 h3;by_cases hik:i=k
      · subst hik;have eb:=here b h4;rw [eb] at h3;exact (notA j e h1 h3).elim
      · obtain ⟨h2,h4⟩:=old k f b hik h2 h4;exact h.apart j k e f b h1 h2 h3 h4
theorem aH (T:Tb X nl G) (i:Nat) (hN:(X.N.take nl)[i]?=some x) (he:Z.bD X e f) (hs:swapsWith e (some (.Name x pos')) pos.line X.env=pure false:=by rfl):Z.iQ X (.Assign [.Name x pos'] e pos) (bC i f):=⟨have he:=he.un;fun Fm=>by
  have hm:=T.loc x (List.mem_of_getElem? hN);have hi:X.N[i]?=some x:=by
    rw [List.getElem?_take] at hN;split at hN
    · exact hN
    · cases hN
  exact PS.imp (qo T.nd hi hm.1 he hs hm.2) fun D σ H h=>(lU (P:=eJ) (f:=f) (k:=fun ρ d=>.ok (.nx (ρ.set i (.val d)))) h).post fun v H1 ⟨ρ,d,sl,_,p,q⟩ =>
    q _ H1 (sl.set i (fun e z=>by cases z) ⟨v,rfl,p⟩)⟩
theorem oZ (T:Tb X nl G) (i:Nat) (hN:(X.N.take nl)[i]?=some x) (he:Z.g8 X e f) (hs:swapsWith e (some (.Name x pos')) pos.line X.env=pure false:=by rfl):Z.iQ X (.Assign [.Name x pos'] e pos) (gJ i f):=⟨have he:=he.un;fun Fm=>by
  have hm:=T.loc x (List.mem_of_getElem? hN);have hi:X.N[i]?=some x:=by
    rw [List.getElem?_take] at hN;split at hN
    · exact hN
    · cases hN
  refine PS.imp (qo T.nd hi hm.1 he hs hm.2) fun D σ H h=>?_
  obtain ⟨ρ0,sl0,q0⟩:=h;refine ⟨ρ0,sl0.sl,?_⟩;unfold gJ at q0;cases ef:f ρ0 with
  | ex c=>rw [ef] at q0;exact q0.1.mono sl0.fm
  | no=>rw [ef] at q0;exact q0
  | ok d =>
    rw [ef] at q0;exact fun v H1 s p=>q0 _ H1 (dG.setOwn sl0 (sl0.mono s) s i p)⟩
end
structure sK (J:It) (Gd:Hp->Prop) (ds:List PyData):Prop where
  go:∀ i H,Gd H->i < ds.length->J.go i H
  yld:∀ i H x H' d,Gd H->ds[i]?=some d->J.yld i H x H'->al H H'/\Rp H' d x
  stop:∀ i H,Gd H->ds.length<=i->J.stop i H
noncomputable def w5 (H0:Hp) (B:Addr->Prop) (Gd:Hp->Prop):Prop:=∀ H,Kp H0 H->(∀ b o,B b->H0 b=some o->H b=some o)->Gd H
noncomputable def yS (X:Cx) (f:ar->R (List PyData)):TI:=fun σ H Rk=>∃ ρ,Sl H σ ρ/\match f ρ with
  | .ok ds=>∀ J H',al H H'->(∃ Gd,sK J Gd ds/\w5 H' (fun _=>False) Gd)->Rk J H'
  | .ex c=>Xw X c H
  | .no=>False
noncomputable def mE (X:Cx) (tg iter:Expr) (f:ar->R (List PyData)):Prop:=PI X tg iter (yS X f)
structure Z.mE (X:Cx) (tg iter:Expr) (f:ar->R (List PyData)):Prop where
  un:D2.mE X tg iter f
noncomputable def yR (X:Cx) (b:PyData->ar->Option ar):TG:=fun v σ H Q=>∃ ρ d,Sl H σ ρ/\Rp H d v/\match b d ρ with
  | some ρ'=>∀ σ',Sl H σ' ρ'->(∀ (i:Nat) (e:PyData),ρ'[i]?=some (.own e)->ρ[i]?=some (.own e)/\σ'[i]?=σ[i]?)->Q σ' H
  | none=>False
noncomputable def mD (X:Cx) (tg:Expr) (b:PyData->ar->Option ar):Prop:=PG X tg (yR X b)
structure Z.mD (X:Cx) (tg:Expr) (b:PyData->ar->Option ar):Prop where
  un:D2.mD X tg b
noncomputable def bq (i:Nat):PyData->ar->Option ar:=fun d ρ=>some (ρ.set i (.val d))
theorem PG.imp {X:Cx} {e:Expr} {t t':TG} (h:PG X e t) (i:∀ v σ H Q,t' v σ H Q->t v σ H Q):PG X e t':=fun pins s σ H v u Q I r q=>h pins s σ H v u Q I r (i v σ H Q q)
theorem PI.imp {X:Cx} {tg e:Expr} {t t':TI} (h:PI X tg e t) (i:∀ σ H Q,t' σ H Q->t σ H Q):PI X tg e t':=fun pins s σ H Q I q=>h pins s σ H Q I (i σ H Q q)
section
variable {X:Cx} {nl:Nat} {G:List Str} {x:Str} {pos:Pos}
theorem Tb.nm (T:Tb X nl G) {i:Nat} (hN:(X.N.take nl)[i]?=some x):X.N[i]?=some x/\tx X.env.scope x/\(X.fn x=true\/X.env.scope.names.lookup x=some .local):=by
  have hm:=T.loc x (List.mem_of_getElem? hN);have hi:X.N[i]?=some x:=by
    rw [List.getElem?_take] at hN;split at hN
    · exact hN
    · cases hN
  exact ⟨hi,hm⟩
theorem bH (T:Tb X nl G) (i:Nat) (hN:(X.N.take nl)[i]?=some x):Z.mD X (.Name x pos) (bq i):=⟨by
  obtain ⟨hi,h1,h2⟩:=T.nm hN;refine PG.imp (h7 T.nd hi h1 h2) fun v σ H Q zq0=>?_
  obtain ⟨ρ,d,sl,p,q⟩:=zq0;refine q _ (sl.set i ⟨v,rfl,p⟩) fun j e h=>?_
  obtain ⟨ne,h⟩:=ba (fun e z=>by cases z) h;exact ⟨h,by rw [List.getElem?_set,if_neg ne]⟩⟩
end
noncomputable def dW (b:PyData->ar->Option ar) (g:Fs):List PyData->Fs
  | [],ρ=>.ok (.nx ρ)
  | d::ds,ρ=>match b d ρ with
    | none=>.no
    | some ρ1=>g ρ1>>=fun o=>match o with
      | .nx ρ2=>dW b g ds ρ2
      | .ct ρ2=>dW b g ds ρ2
      | .bk ρ2=>.ok (.nx ρ2)
      | .rt r=>.ok (.rt r)
noncomputable def qA (it:ar->R (List PyData)) (b:PyData->ar->Option ar) (g:Fs):Fs:=fun ρ=>it ρ>>=fun ds=>dW b g ds ρ
noncomputable def stab (Fm H:Hp):Hp:=fun b=>match H b with
  | some (.tup xs)=>some (.tup xs)
  | some (.frz o u)=>some (.frz o u)
  | _=>Fm b
theorem oC {Fm H:Hp} (h:al Fm H):al (stab Fm H) H:=fun b o e=>by
  unfold stab at e;split at e
  · rename_i q;rw [q];exact e
  · rename_i q;rw [q];exact e
  · exact h b o e
theorem sE {Fm H:Hp}:Kp H (stab Fm H):=⟨fun b xs e=>by unfold stab;rw [e],fun b o u e=>by unfold stab;rw [e]⟩
theorem sD {Fm H:Hp} (h:al Fm H):al Fm (stab Fm H):=fun b o e=>by
  have:=h b o e;unfold stab;split
  · rename_i q;rw [this] at q;exact q.symm
  · rename_i q;rw [this] at q;exact q.symm
  · exact e
theorem dG.stab {Fm H:Hp} {σ:St} {ρ:ar} (h:dG Fm H σ ρ):dG (stab Fm H) H σ ρ:=by
  refine ⟨oC h.fm,h.sl,fun i d a h1 h2=>?_,h.apart⟩;have f:=h.own i d a h1 h2;obtain ⟨u,e1,q⟩:=h.sl.2 i _ _ h1 h2;cases e1;unfold D2.stab;cases d <;> simp only [fE] at q
  · obtain ⟨b,vs,e,hb,_⟩:=q;cases e;rw [hb];exact f
  · obtain ⟨b,vs,e,hb,_⟩:=q;cases e;rw [hb];exact f
theorem dG.unstab {Fm F H:Hp} {σ:St} {ρ:ar} (hF:al Fm F) (h:dG F H σ ρ):dG Fm H σ ρ:=⟨hF.trans h.fm,h.sl,fun i d a h1 h2=>hF.free (h.own i d a h1 h2),h.apart⟩
theorem kD {X:Cx} {tg iter:Expr} {body:List Stmt} {it:ar->R (List PyData)} {b:PyData->ar->Option ar} {g:Fs} {pos:Pos} (hp:PassesOwn (model X.prog X.w) X.A X.env X.xe) (hc:X.calm=true) (hi:Z.mE X tg iter it) (hg:Z.mD X tg b) (hb:Z.fI X body g) (hs:∀ x,foldedSetIterable iter X.env x=pure x:=by intro _;rfl):Z.iQ X (.For tg iter body [] pos) (qA it b g):=⟨have hi:=hi.un;have hg:=hg.un;have hb:=hb.un;fun Fm=>by
  intro pins s σ H D I h;obtain ⟨ρ,sl,q⟩:=h;unfold qA at q
  -- the frame: what is stable at the loop's eG is only known behind the iterator's making: the body is taken at every frame
  refine uv (wi:=yS X it) (g:=yR X b) (tb:=fun D' σ' H'=>∃ F,sY X F g D' σ' H') hp hc hi hg (fun pins' s' σ' H' D' I' ⟨F,q'⟩=>hb F pins' s' σ' H' D' I' q') hs pins s σ H D I ?_;refine ⟨ρ,sl.sl,?_⟩;cases ei:it ρ with
  | ex c=>rw [ei] at q;exact q.1.mono sl.fm
  | no=>rw [ei] at q;exact q
  | ok ds =>
    rw [ei] at q;intro J H1 s1 ⟨Gd,idt,sta⟩;have sl1:=sl.mono s1;let F:=stab Fm H1
    have hF:al Fm F:=sD sl1.fm
    -- the word: so many items are taken,and the rest gives what the whole gives
    refine ⟨fun i m σ' H'=>m=ds.length-i/\i<=ds.length/\∃ ρ',dG F H' σ' ρ'/\sw X Fm (dW b g (ds.drop i) ρ') D,⟨ds.length,by simp,Nat.zero_le _,ρ,sl1.stab,by simpa using q⟩,?_⟩;rintro i m σ2 H2 ⟨rfl,hi',ρ2,sl2,q2⟩;have gd:Gd H2:=sta H2 (Kp.trans sE (Kp.of sl2.fm)) fun _ _ z=>z.elim
    by_cases hlt:i < ds.length
    · refine .inr ⟨idt.go i H2 gd hlt,fun σ' H'=>i+1<=ds.length/\∃ ρ',dG F H' σ' ρ'/\sw X Fm (dW b g (ds.drop (i+1)) ρ') D,fun σ' H' ⟨z,p⟩=>⟨ds.length-(i+1),by omega,rfl,z,p⟩,fun x H3 y=>?_⟩;obtain ⟨d,hd⟩:∃ d,ds[i]?=some d:=⟨ds[i],List.getElem?_eq_getElem hlt⟩
      obtain ⟨s3,p3⟩:=idt.yld i H2 x H3 d gd hd y;have hdrop:ds.drop i=d::ds.drop (i+1):=by
        rw [List.drop_eq_getElem_cons hlt];congr 1;exact Option.some.inj ((List.getElem?_eq_getElem hlt).symm.trans hd)
      rw [hdrop] at q2;unfold dW at q2;have sl3:=sl2.mono s3;refine ⟨ρ2,d,sl3.sl,p3,?_⟩;cases eb:b d ρ2 with
      | none=>rw [eb] at q2;exact q2
      | some ρ3 =>
        rw [eb] at q2;intro σ4 sl4 hown;refine ⟨F,ρ3,⟨sl3.fm,sl4,fun j e a h1 h2=>?_,fun j k e f a h1 h2 h3 h4=>?_⟩,?_⟩
        · obtain ⟨z1,z2⟩:=hown j e h1;exact sl3.own j e a z1 (by rw [<- z2];exact h2)
        · obtain ⟨z1,z2⟩:=hown j e h1;obtain ⟨z3,z4⟩:=hown k f h2;exact sl3.apart j k e f a z1 z3 (by rw [<- z2];exact h3) (by rw [<- z4];exact h4)
        · have q3:sw X Fm (g ρ3>>=fun o=>match o with
            | .nx ρ2=>dW b g (ds.drop (i+1)) ρ2
            | .ct ρ2=>dW b g (ds.drop (i+1)) ρ2
            | .bk ρ2=>.ok (.nx ρ2)
            | .rt r=>.ok (.rt r)) D:=q2
          cases eg:g ρ3 with
          | ex c=>rw [eg] at q3;exact ⟨q3.1.mono hF,q3.2.mono hF⟩
          | no=>rw [eg] at q3;exact q3
          | ok o =>
            rw [eg] at q3;cases o with
            | nx ρ4=>exact fun σ' H' s'=>⟨hlt,ρ4,s',q3⟩
            | ct ρ4=>exact fun σ' H' s'=>⟨hlt,ρ4,s',q3⟩
            | bk ρ4=>exact fun σ' H' s'=>q3 σ' H' (s'.unstab hF)
            | rt r=>exact fun v H' s' p'=>q3 v H' (hF.trans s') p'
    · have e:i=ds.length:=by omega
      subst e;refine .inl ⟨idt.stop _ H2 gd (Nat.le_refl _),?_⟩;rw [List.drop_length] at q2;exact q2 σ2 H2 (sl2.unstab hF)⟩
noncomputable def eL (n:Nat) (g:Fs):List PyData->R PyData:=fun ds=>g (ds.map cg.val++List.replicate (n-ds.length) .non)>>=fun o=>match o with
  | .rt d=>.ok d
  | .nx _=>.ok .none
  | _=>.no
noncomputable def eM (F:List PyData->R PyData) (n:Nat):Sp:=fun vs H Q E=>∃ ds,aI H ds vs/\ds.length=n/\match F ds with
  | .ok d=>∀ v H',al H H'->Rp H' d v->Q v H'
  | .ex c=>∀ H',al H H'->E (.str c 0) none H'
  | .no=>False
theorem lw {H:Hp} {N:List Str}:∀ {ds:List PyData} {vs:List V},aI H ds vs->Sl H (L2.eG N vs) (ds.map cg.val++List.replicate (N.length-ds.length) .non):=fun {ds vs} r=>by
  have hl:=r.length;refine ⟨by unfold L2.eG;rw [List.length_append,List.length_append,List.length_map,List.length_map,List.length_replicate,List.length_replicate,hl],fun i c o h1 h2=>?_⟩;by_cases hi:i < ds.length
  · rw [List.getElem?_append_left (by simpa using hi),List.getElem?_map] at h1;cases e:ds[i]? with
    | none=>rw [e] at h1;cases h1
    | some d =>
      rw [e] at h1;cases h1;obtain ⟨v,e1,p⟩:=r.get e;unfold L2.eG at h2;rw [List.getElem?_append_left (by rw [List.length_map,hl];exact hi),List.getElem?_map,e1] at h2;cases h2;exact ⟨v,rfl,p⟩
  · rw [List.getElem?_append_right (by simpa using hi),List.getElem?_replicate] at h1;split at h1
    · cases h1;exact True.intro
    · cases h1
section
variable {P:Program} {w:World} {H:Hp} {h:Heap} {a:Addr}
theorem ml:∀ {o:HO},aQ P w H h a o->∃ u,h.get? a=some u
  | .lst xs,x=>by obtain ⟨_,_,_,_,e⟩:=x;exact ⟨_,e⟩
  | .tup xs,x=>by obtain ⟨_,_,_,o,e,_⟩:=x;exact ⟨_,e⟩
  | .dK kvs,x=>by obtain ⟨_,_,_,_,o,_,_,e,_⟩:=x;exact ⟨_,e⟩
  | .dT kvs,x=>by obtain ⟨_,_,_,_,o,_,_,e,_⟩:=x;exact ⟨_,e⟩
  | .set S n,x=>by obtain ⟨o,_,_,_,e,_⟩:=x;exact ⟨_,e⟩
  | .ins C dx fs,x=>by obtain ⟨_,_,_,e,_⟩:=x;exact ⟨_,e⟩
  | .own y,x=>by obtain ⟨_,e⟩:=x;exact ⟨_,e⟩
  | .xd fs,x=>by obtain ⟨_,⟨_,_,_,e,_⟩,_⟩:=x;exact ⟨_,e⟩
  | .rng lo hi,x=>by obtain ⟨_,_,_,e⟩:=x;exact ⟨_,e⟩
  | .frz ob u,x=>by obtain ⟨e,_⟩:=x;exact ⟨_,e⟩
  | .tbl ps,x=>by obtain ⟨_,e,_⟩:=x;exact ⟨_,e⟩
  | .met f y,x=>⟨_,(show h.get? a=some _ from x)⟩
  | .ext φ,x=>by obtain ⟨_,⟨_,e⟩,_⟩:=x;exact ⟨_,e⟩
end
theorem i9.un {P:Program} {w:World} {outer:List Env} {H H':Hp} {s s':Shared} {C:Addr} {e:Value} (f:i9 P w outer H s C H' e s'):Un (gk outer) [] H H' s.heap s'.heap:=by
  obtain ⟨p,a0,B,_,fl,ok,_,cov⟩:=f.ex;refine ⟨fun b o q n hb _=>fl.1 _ _ (cov b o q n hb).1,fun b o q n hb _=>(f.slot b o q n hb).1,fun b o q n _=>?_,fun b o q _=>?_,fun b xs q=>f.same _ _ q,fun b o u q=>f.same _ _ q,fun b ps q=>f.same _ _ q⟩
  · by_cases hb:b∈gk outer
    · exact (f.slot b o q n hb).2
    · exact (cov b o q n hb).2
  · cases n:H b with
    | none =>
      by_cases hb:b∈gk outer
      · obtain ⟨sl,z⟩:=(f.slot b o q n hb).1;exact ⟨_,z⟩
      · exact ⟨o,fl.1 _ _ (cov b o q n hb).1⟩
    | some u =>
      obtain ⟨o',z⟩:=ml (ok b u (f.same _ _ n));exact ⟨o',fl.1 _ _ z⟩
theorem i9.hok {P:Program} {w:World} {outer:List Env} {H H':Hp} {s s':Shared} {C:Addr} {e:Value} (f:i9 P w outer H s C H' e s'):dk P w H' s'.heap:=by
  obtain ⟨p,a0,B,_,fl,ok,_,_⟩:=f.ex;exact ok.kept fun b u q=>fl.1 b u q
theorem oS.un {P:Program} {w:World} {outer:List Env} {H H':Hp} {s s':Shared} {C:Addr} {e:Value} (f:oS P w outer H s C H' e s'):Un (gk outer) [] H H' s.heap s'.heap:=f.hld.un
theorem oS.hok {P:Program} {w:World} {outer:List Env} {H H':Hp} {s s':Shared} {C:Addr} {e:Value} (f:oS P w outer H s C H' e s'):dk P w H' s'.heap:=f.hld.hok
theorem i9.inv {X:Cx} {pins:List (Addr×Obj)} {σ:St} {Hc H1:Hp} {sc s':Shared} {C:Addr} {e:Value} (f:i9 X.prog X.w X.stack Hc sc C H1 e s') (I:ap X pins σ Hc sc):ap X pins σ H1 s' :=
  I.call' f.os f.un f.hok f.bare fun b z=>absurd z (by simp)
section
variable {P:Program} {w:World} {l:List Env} {H H':Hp} {s s':Shared} {C p:Addr} {e:Value}
theorem i9.again {a0:Value} {B h':Heap} (f:i9 P w l H s C H' e s') (t:kC B l p (.ref C) a0 s'.heap) (t':kC B l p (.ref C) a0 h') (up:s'.heap.UpToSlots h') (okB:dk P w H' B) (hp:H' p=none)
    (cov:∀ b o,s.heap.get? b=some o->H b=none->b∉gk l->B.get? b=some o/\H' b=none):i9 P w l H s C H' (.ref p) { s' with heap:=h' }:=by
  refine ⟨f.os,f.bare,f.same,⟨p,a0,B,rfl,t',okB,hp,cov⟩,fun b o q n hb=>?_⟩;obtain ⟨⟨sl,q2⟩,n2⟩:=f.slot b o q n hb;obtain ⟨_,o3,q3,nf⟩:=t.2.2.1.mem hb;rw [q2] at q3;cases q3;obtain ⟨sl3,q4⟩:=up b _ q2 nf;exact ⟨⟨sl3,q4⟩,n2⟩
theorem qe {x:Value} {env env0:Env} (h:env.frame=env0.frame):noteFrame x env=noteFrame x env0:=by
  unfold noteFrame PySem.frameOf;rw [h]
theorem i9.note {M:Model} {A:Around} {E:Value->Shared->Prop} {Q:Unit->Shared->Prop} {env env0:Env} {outer:List Env} {L:Addr} (f:i9 P w l H s C H' e s') (hl:l=env0::outer) (hfr:A.frames=some l) (h0:env0.frame=some L) (h1:env.frame=some L)
    (k:∀ h',i9 P w l H s C H' e { s' with heap:=h' }->s'.heap.UpToSlots h'->Q () { s' with heap:=h' }):wpAny M A (noteFrame e env) Q E s':=by
  subst hl;obtain ⟨p,a0,B,rfl,t,okB,hp,cov⟩:=f.ex;rw [qe (h1.trans h0.symm)];exact lB hfr h0 t fun h' t' up=>k h' (f.again t t' up okB hp cov) up
theorem i9.pass {α:Type} {M:Model} {A:Around} {E:Value->Shared->Prop} {Q:α->Shared->Prop} {env:Env} {what:String} (f:i9 P w l H s C H' e s') (k:∀ h',i9 P w l H s C H' e { s' with heap:=h' }->E e { s' with heap:=h' }):wpAny M A (PySem.passOn what e env:Sem α) Q E s':=by
  obtain ⟨p,a0,B,rfl,t,okB,hp,cov⟩:=f.ex;exact qL t fun h' t' up=>k h' (f.again t t' up okB hp cov)
end
section
variable {P:Program} {w:World} {K:PySem.W.Frag} {mg:Str->Option Value} {base:Heap} {N:List Str} {qual:Str} {sc:Scope} {f:Addr} {cdv:Value} {A:Around} {outer:List Env} {s:Shared} {H:Hp} {E:XK} {c:Str}
theorem qO (h:∀ H',al H H'->E (.str c 0) none H'):Xw (ci (cN P w mg) P w K mg base N qual sc f cdv A outer s H E) c H:=by
  intro H1 s1 C hm pins σ Hc sc' e s' I fl;obtain ⟨p,a0,B,rfl,fly,okB,hp,cov⟩:=fl.ex;have old:∀ b o,s.heap.get? b=some o->b≠s.heap.objs.size:=fun b o q=>Nat.ne_of_lt (Heap.lt_size q)
  refine oG I.ok.frames rfl fly fun h' fl' up=>⟨c,C,H1,hm,⟨fl.os.trans I.os,fl.bare,s1,⟨p,a0,B,rfl,fl',okB,hp,fun b o q n hb=>?_⟩,fun b o q n hb=>?_⟩,h H1 s1⟩
  · have q1:=I.base.keep b o q n hb (by simp [ci]);have n1:=I.base.free b o q n (by simp [ci]);refine cov b o q1 n1 fun z=>?_
    have z':b∈(s.heap.objs.size::gk outer):=z;rcases List.mem_cons.mp z' with z2 | z2
    · exact old b o q z2
    · exact hb z2
  · obtain ⟨sl,q1⟩:=I.base.slot b o q n hb (by simp [ci]);have n1:=I.base.free b o q n (by simp [ci]);have hb':b∈gk (ci (cN P w mg) P w K mg base N qual sc f cdv A outer s H E).stack:=List.mem_cons_of_mem _ hb;obtain ⟨⟨sl',q2⟩,n2⟩:=fl.slot b _ q1 n1 hb';obtain ⟨_,o3,q3,nf⟩:=fly.2.2.1.mem hb';rw [q2] at q3;cases q3;obtain ⟨sl3,q4⟩:=up b _ q2 nf;exact ⟨⟨sl3,q4⟩,n2⟩
theorem np (h:∀ H',al H H'->E (.str c 0) none H'):u5 (ci (cN P w mg) P w K mg base N qual sc f cdv A outer s H E) c H:=by
  intro C hm pins σ Hm sm sH I h' p vs hx;have hin:∀ env∈(ci (cN P w mg) P w K mg base N qual sc f cdv A outer s H E).stack,∀ b,env.frame=some b->b∈gk (ci (cN P w mg) P w K mg base N qual sc f cdv A outer s H E).stack:=fun env he b hb=>List.mem_filterMap.mpr ⟨env,he,hb⟩
  have old:∀ b o,s.heap.get? b=some o->b≠s.heap.objs.size:=fun b o q=>Nat.ne_of_lt (Heap.lt_size q)
  refine wpAny_leaves_madeW (s:={ sm with heap:=h' }) (base:=PySem.W.hideAll sm.heap (gk (ci (cN P w mg) P w K mg base N qual sc f cdv A outer s H E).stack)) I.ok.frames rfl (fun b o q=>PySem.W.of_hideAll _ q) (PySem.W.funFrames_hide I.stack hin) hx fun h'' t fl' _ _ up =>
    ⟨c,C,Hm,hm,⟨I.os,I.bare,sH,⟨p,.ref t,_,rfl,fl',fun b u q=>?_,?_,fun b o q n hb=>?_⟩,fun b o q n hb=>?_⟩,h Hm sH⟩
  · refine (I.hok b u q).stay (fun c' v hc z=>PySem.W.hideAll_get _ z fun m=>?_) (fun _ z=>z) fun _ _ z=>z
    have hn:=I.stkFree c' m;rcases hc with rfl | hc
    · rw [hn] at q;cases q
    · rw [hn] at hc;cases hc
  · cases q:Hm p with
    | none=>rfl
    | some u =>
      obtain ⟨o',z⟩:=ml (I.hok p u q);rw [hx.new] at z;cases z
  · have q1:=I.base.keep b o q n hb (by simp [ci]);have n1:=I.base.free b o q n (by simp [ci]);refine ⟨PySem.W.hideAll_get _ q1 fun z=>?_,n1⟩;have z':b∈(s.heap.objs.size::gk outer):=z;rcases List.mem_cons.mp z' with z2 | z2
    · exact old b o q z2
    · exact hb z2
  · obtain ⟨sl,q1⟩:=I.base.slot b o q n hb (by simp [ci]);have n1:=I.base.free b o q n (by simp [ci]);have hb':b∈gk (ci (cN P w mg) P w K mg base N qual sc f cdv A outer s H E).stack:=List.mem_cons_of_mem _ hb;obtain ⟨_,o3,q3,nf⟩:=I.stack.mem hb';rw [q1] at q3;cases q3;obtain ⟨sl3,q4⟩:=up b _ (hx.keeps _ _ q1) nf;exact ⟨⟨sl3,q4⟩,n1⟩
end
theorem rH {P:Program} {w:World} {K:PySem.W.Frag} {mg:Str->Option Value} {base:Heap} {x qual:Str} {st:Stmt} {f:Addr} {fd:FuncData} {N ps:List Str} {k:Nat} {g:Fs} (F:gM K x qual st f fd) (S:aO N ps (ah st))
    (body:∀ (cdv:Value) (A:Around) (outer:List Env) (s:Shared) (H:Hp) (E:XK),cH k (A.deeper (envOfC qual (ah st) s.heap.objs.size f cdv)) ->
      fI (ci (cN P w mg) P w K mg base N qual (ah st) f cdv A outer s H E) (bi st) g):bj P w K mg base (cN P w mg) (k+1) f fd ps (eM (eL N.length g) ps.length):=by
  obtain ⟨oc,od,kV,doc,pm,an,cdv,ct,osl,rfl,lk,hcd⟩:=F.ex;refine pJ lk hcd S (fun vs H Q E ⟨ds,r,hl,_⟩=>by rw [r.length];exact hl) fun A outer s H vs Q E hr h=>?_
  obtain ⟨ds,r,hl,q⟩:=h;have noOwn:∀ (i:Nat) (d:PyData),(ds.map cg.val++List.replicate (N.length-ds.length) cg.non)[i]?=some (.own d)->False:=fun i d h1=>by
    by_cases hi:i < ds.length
    · rw [List.getElem?_append_left (by simpa using hi),List.getElem?_map] at h1;cases e:ds[i]? with
      | none=>rw [e] at h1;cases h1
      | some d=>rw [e] at h1;cases h1
    · rw [List.getElem?_append_right (by simpa using hi),List.getElem?_replicate] at h1;split at h1
      · cases h1
      · cases h1
  refine ⟨_,body cdv A outer s H E hr H,_,⟨al.refl _,lw r,fun i d a h1 h2=>(noOwn i d h1).elim,fun i j d e a h1 h2 h3 h4=>(noOwn i d h1).elim⟩,?_⟩;unfold eL at q;cases eg:g (ds.map cg.val++List.replicate (N.length-ds.length) .non) with
  | ex c=>rw [eg] at q;exact ⟨qO q,np q⟩
  | no=>rw [eg] at q;exact q.elim
  | ok o =>
    rw [eg] at q;cases o with
    | rt d=>exact fun v H' s' p=>q v H' s' p
    | nx ρ=>exact fun σ' H' s'=>q .non H' s'.fm (by simp only [Rp])
    | bk ρ=>exact q.elim
    | ct ρ=>exact q.elim
noncomputable def br (F:List PyData->R PyData) (fs:ar->R (List PyData)):Fe:=fun ρ=>fs ρ>>=F
theorem rG {X:Cx} {k n:Nat} {f:Addr} {fd:FuncData} {ps:List Str} {F:List PyData->R PyData} {x:Str} {p pos:Pos} {e:Expr} {es:List Expr} {fs:ar->R (List PyData)} {nl:Nat} {G:List Str}
    (C:bj X.prog X.w X.K X.mg X.base (cN X.prog X.w X.mg) k f fd ps (eM F n)) (hr:cH k X.A) (T:Tb X nl G) (j:Nat) (hG:G[j]?=some x) (hm:X.mg x=some (.ref f)) (hk:PySem.W.keepIn X.K (.ref f)=true) (hb:bQ X.K fd ps []) (ha:mC X (e::es) fs)
    (hlen:(e::es).length=n) (hfs:∀ ρ ds,fs ρ=.ok ds->ds.length=n)
    (he:(e::es).all ax=true:=by rfl):bD X (.Call (.Name x p) (e::es) [] pos) (br F fs):=by
  rw [List.all_cons,Bool.and_eq_true] at he;have g:=T.gl x (List.mem_of_getElem? hG);refine PE.imp (sf C hr g.1 hm hk hb .nil sd ha g.2.1 (aL he.1) (iJ he.2)) fun σ H Q zq0=>?_
  obtain ⟨ρ,sl,q⟩:=zq0;refine ⟨ρ,sl,?_⟩;unfold br at q;cases e1:fs ρ with
  | ex c=>rw [e1] at q;exact q
  | no=>rw [e1] at q;exact q
  | ok ds =>
    rw [e1] at q;intro vs H1 s1 r1;rw [List.append_nil];refine ⟨ds,j8.mp r1,hfs ρ ds e1,?_⟩;have q':lG X eJ (F ds) H Q:=q;cases e2:F ds with
    | ok d=>rw [e2] at q';exact fun v H' s' p'=>q' v H' (s1.trans s') p'
    | ex c=>rw [e2] at q';exact fun H' s'=>Xw.ex q' H' (s1.trans s')
    | no=>rw [e2] at q';exact q'
theorem aR:∀ ρ ds,be ρ=.ok ds->ds.length=0:=fun ρ ds e=>by cases e;rfl
theorem ao {f:Fe} {g:ar->R (List PyData)} {n:Nat} (h:∀ ρ ds,g ρ=.ok ds->ds.length=n):∀ ρ ds,ak f g ρ=.ok ds->ds.length=n+1:=fun ρ ds e=>by
  unfold ak at e;cases e1:f ρ with
  | ex c=>rw [e1] at e;cases e
  | no=>rw [e1] at e;cases e
  | ok d =>
    rw [e1] at e;cases e2:g ρ with
    | ex c=>rw [e2] at e;cases e
    | no=>rw [e2] at e;cases e
    | ok ds'=>rw [e2] at e;cases e;rw [List.length_cons,h ρ ds' e2]
theorem lX {scope:Scope} {env:Env} (h:∀ x∈scope.names,x.2=.free->∃ c,env.cells.lookup x.1=some c) :
    ∃ cl,closureFor scope env=pure cl/\(∀ x c,cl.lookup x=some c->env.cells.lookup x=some c)/\∀ x∈scope.names,x.2=.free->∃ c,cl.lookup x.1=some c:=by
  suffices gen:∀ (names:List (Str×NameKind)) (acc:List (Str×Addr)),(∀ x∈names,x.2=.free->∃ c,env.cells.lookup x.1=some c)->(∀ x c,acc.lookup x=some c->env.cells.lookup x=some c) ->
      ∃ cl,(forIn names acc fun x r=>if (x.snd==NameKind.free)=true then do let a <- cellOf env x.fst;pure (ForInStep.yield ((x.fst,a)::r)) else pure (ForInStep.yield r):Sem (List (Str×Addr)))=pure cl /\
        (∀ x c,cl.lookup x=some c->env.cells.lookup x=some c)/\(∀ x c,acc.lookup x=some c->∃ c',cl.lookup x=some c')/\∀ x∈names,x.2=.free->∃ c,cl.lookup x.1=some c by
    obtain ⟨cl,h1,h2,_,h4⟩:=gen scope.names [] h fun x c e=>by simp at e
    refine ⟨cl,?_,h2,h4⟩;simp only [closureFor];rw [h1];rfl
  intro names;induction names with
  | nil=>intro acc _ ha;exact ⟨acc,rfl,ha,fun x c e=>⟨c,e⟩,fun x hx=>by cases hx⟩
  | cons y r ih =>
    intro acc hn ha;obtain ⟨n,k⟩:=y;by_cases hk:k=.free
    · subst hk;obtain ⟨c,hc⟩:=hn (n,.free) List.mem_cons_self rfl;obtain ⟨cl,e1,e2,e3,e4⟩:=ih ((n,c)::acc) (fun x hx=>hn x (List.mem_cons_of_mem _ hx)) (fun x c' e=>by
        rw [List.lookup_cons] at e;split at e
        · rename_i q;have:x=n:=by simpa using q
          subst this;cases e;exact hc
        · exact ha x c' e)
      refine ⟨cl,?_,e2,fun x c' e=>?_,fun x hx hf=>?_⟩
      · rw [List.forIn_cons];have:cellOf env n=pure c:=by unfold cellOf;rw [hc]
        simp only [beq_self_eq_true,if_true,this,pure_bind];exact e1
      · by_cases hx:x=n
        · subst hx;exact e3 x c (by rw [List.lookup_cons];simp)
        · have hb:(x==n)=false:=by simpa using hx
          exact e3 x c' (by rw [List.lookup_cons,hb];exact e)
      · rcases List.mem_cons.mp hx with rfl | hx
        · exact e3 n c (by rw [List.lookup_cons];simp)
        · exact e4 x hx hf
    · obtain ⟨cl,e1,e2,e3,e4⟩:=ih acc (fun x hx=>hn x (List.mem_cons_of_mem _ hx)) ha;refine ⟨cl,?_,e2,e3,fun x hx hf=>?_⟩
      · rw [List.forIn_cons];have:(k==NameKind.free)=false:=by simpa using hk
        simp only [this,Bool.false_eq_true,if_false,pure_bind];exact e1
      · rcases List.mem_cons.mp hx with rfl | hx
        · exact absurd hf hk
        · exact e4 x hx hf
noncomputable def wp (env:Env) (p:Str×NameKind):NameKind:=if (p.2==.free&&env.scope.kind==.function&&env.kindOf p.1==some .cell)=true then .cell else p.2
theorem i6 (scope:Scope) (env:Env):(relabel scope env).names=scope.names.map fun p=>(p.1,wp env p):=by
  unfold relabel;refine List.map_congr_left fun p _=>?_
  obtain ⟨n,k⟩:=p;unfold wp;dsimp only;split <;> rfl
theorem gR (g:Str×NameKind->NameKind) (x:Str):∀ l:List (Str×NameKind),(l.map fun p=>(p.1,g p)).lookup x=(l.lookup x).map fun k=>g (x,k)
  | []=>rfl
  | (n,k)::r=>by
    rw [List.map_cons];cases hx:x==n with
    | true =>
      have e:x=n:=by simpa using hx
      subst e;simp
    | false =>
      have ne:¬ x=n:=by simpa using hx
      simp only [List.lookup_cons,hx];exact gR g x r
theorem fU (scope:Scope) (env:Env) (x:Str):(relabel scope env).names.lookup x=(scope.names.lookup x).map fun k=>wp env (x,k):=by
  rw [i6];exact gR _ _ _
theorem cq {scope:Scope} {env:Env} {x:Str} {k:NameKind} (h:scope.names.lookup x=some k) (hk:k≠.free):(relabel scope env).names.lookup x=some k:=by
  rw [fU,h];have:(k==NameKind.free)=false:=by simpa using hk
  simp only [wp,this,Bool.false_and,Bool.false_eq_true,if_false,Option.map_some]
theorem gq {scope:Scope} {env:Env} {x:Str} (h:scope.names.lookup x=some .free):(relabel scope env).names.lookup x=some .free\/(relabel scope env).names.lookup x=some .cell:=by
  rw [fU,h];unfold wp;dsimp only [Option.map_some];split
  · exact .inr rfl
  · exact .inl rfl
theorem lr {scope:Scope} {env:Env} {x:Str} (hc:∀ y∈scope.names,y.2≠.cell) (h:(relabel scope env).names.lookup x=some .free\/(relabel scope env).names.lookup x=some .cell):(x,NameKind.free)∈scope.names:=by
  cases e:scope.names.lookup x with
  | none =>
    rw [fU,e] at h;rcases h with h | h <;> cases h
  | some k =>
    by_cases hk:k=.free
    · subst hk;exact PySem.mem_of_lookup e
    · exfalso;have:=cq (env:=env) e hk;rw [this] at h;rcases h with h | h
      · cases h;exact hk rfl
      · cases h;exact hc _ (PySem.mem_of_lookup e) rfl
noncomputable def aw (X:Cx) (N:List Str) (scope:Scope) (cl:List (Str×Addr)) (C:Addr) (s:Shared) (H:Hp) (fp:List Addr) (E:Value->Shared->Prop:=fun _ _=>False):Cx :=
  { X with N:=N,s₀:=s,H₀:=H,env:=compEnvC scope cl C X.env,outer:=X.stack,stack:=X.stack,ex:=fp,fn:=fun _=>false,pn:=[],xe:=E }
noncomputable def cA (sc:Scope) (N:List Str) (own:Nat) (G:List Str) (oN:List Str) (fr:List Nat):Prop :=
  sc.kind=.function/\(∀ y∈sc.names,y.2≠.cell)/\(∀ y∈sc.names,y.2=.local->sc.names.lookup y.1=some .local)/\N.Nodup/\(∀ x∈N.take own,sc.names.lookup x=some .local)/\(∀ x∈N.drop own,sc.names.lookup x=some .free) /\
  (∀ x∈N,(x==("__debug__" : Str))=false/\(x==("__classdict__" : Str))=false)/\(∀ x∈G,sc.names.lookup x=some .globalImplicit/\(x==("__debug__" : Str))=false/\x≠("__name__" : Str)) /\
  own<=N.length/\(N.drop own).map some=fr.map fun i=>oN[i]?
noncomputable instance {sc:Scope} {N:List Str} {own:Nat} {G oN:List Str} {fr:List Nat}:Decidable (cA sc N own G oN fr):=by unfold cA;infer_instance
theorem rm {X:Cx} {nl:Nat} {G0:List Str} (T:Tb X nl G0) {sc:Scope} {N:List Str} {own:Nat} {G oN:List Str} {fr:List Nat} (ck:cA sc N own G oN fr) (cl:List (Str×Addr)) (C:Addr) (s:Shared) (H:Hp) (fp:List Addr) :
    Tb (aw X N sc cl C s H fp) own G:=by
  obtain ⟨_,_,_,nd,l,f,db,g,_,_⟩:=ck;refine ⟨T.hu,T.calm,nd,fun x hx=>?_,fun x hx=>?_,fun x hx=>?_⟩
  · refine ⟨?_,db x hx⟩;have hx':x∈N.take own++N.drop own:=by rw [List.take_append_drop];exact hx
    rcases List.mem_append.mp hx' with z | z
    · exact .inl (cq (l x z) (by decide))
    · rcases gq (env:=X.env) (f x z) with q | q
      · exact .inr (.inr q)
      · exact .inr (.inl q)
  · have q:=cq (env:=X.env) (l x hx) (by decide);exact ⟨.inl q,.inr q⟩
  · obtain ⟨g1,g2,g3⟩:=g x hx;exact ⟨cq (env:=X.env) g1 (by decide),g2,g3⟩
theorem pr {X:Cx} {nl:Nat} {G0:List Str} (T:Tb X nl G0) {sc:Scope} {N:List Str} {own:Nat} {G oN:List Str} {fr:List Nat} (ck:cA sc N own G oN fr) (cl:List (Str×Addr)) (C:Addr) (s:Shared) (H:Hp) (fp:List Addr) (E:Value->Shared->Prop) :
    Tb (aw X N sc cl C s H fp E) own G:=let T1:=rm T ck cl C s H fp;⟨T1.hu,T1.calm,T1.nd,T1.vis,T1.loc,T1.gl⟩
noncomputable def yX (X:Cx) (ifs:List Expr) (t:TT):Prop :=
  ∀ (pins:List (Addr×Obj)) (s:Shared) (σ:St) (H:Hp) (Q:Bool->Hp->Prop),ap X pins σ H s->t σ H Q->wpAny (model X.prog X.w) X.A (forIn ifs true fun c r=>if r=true then do let ok <- isTrue c X.env (eval c X.env);pure (ForInStep.yield ok) else pure (ForInStep.yield r))
    (TP X pins σ Q) X.xe s
noncomputable def oM (X:Cx) (ifs:List Expr) (t:ar->R Bool):Prop:=yX X ifs (sx X t)
structure Z.oM (X:Cx) (ifs:List Expr) (t:ar->R Bool):Prop where
  un:D2.oM X ifs t
theorem cj {X:Cx}:Z.oM X [] (fun _=>.ok true):=⟨fun pins s σ H Q I ⟨ρ,sl,q⟩=>wpAny_tests_nil ⟨H,I,q H (al.refl _)⟩⟩
noncomputable def bz (b:PyData->ar->Option ar) (t:ar->R Bool) (f:Fe) (ρ:ar):List PyData->R (List PyData)
  | []=>.ok []
  | d::ds=>match b d ρ with
    | none=>.no
    | some ρ1=>t ρ1>>=fun k=>if k=true then f ρ1>>=fun x=>bz b t f ρ ds>>=fun xs=>.ok (x::xs) else bz b t f ρ ds
noncomputable def au (own:Nat) (fr:List Nat) (ρ:ar):ar:=List.replicate own .non++fr.map fun i=>ρ.getD i .non
noncomputable def oq {α:Type}:R α->R α
  | .ex _=>.no
  | r=>r
noncomputable def bF (it:ar->R (List PyData)) (own:Nat) (fr:List Nat) (b:PyData->ar->Option ar) (t:ar->R Bool) (f:Fe):Fe:=fun ρ =>
  oq (it ρ)>>=fun ds=>if ds.length<=sizeLine then match bz b t f (au own fr ρ) ds with
    | .ok xs=>.ok (.list xs)
    | .ex c=>.ex c
    | .no=>.no
  else .no
noncomputable def dr (own:Nat) (fr:List Nat) (σ:St):St:=List.replicate own none++fr.map fun i=>(σ[i]?).join
theorem rj {H:Hp} {σ:St} {ρ:ar} (h:Sl H σ ρ) (own:Nat) (fr:List Nat) (hin:∀ i∈fr,i < ρ.length):Sl H (dr own fr σ) (au own fr ρ):=by
  refine ⟨by simp [dr,au],fun i c o h1 h2=>?_⟩;unfold au at h1;unfold dr at h2;by_cases hi:i < own
  · rw [List.getElem?_append_left (by simpa using hi),List.getElem?_replicate,if_pos hi] at h1;cases h1;exact True.intro
  · rw [List.getElem?_append_right (by simpa using hi),List.getElem?_map,List.length_replicate] at h1 h2;cases e:fr[i-own]? with
    | none=>rw [e] at h1;cases h1
    | some j =>
      rw [e] at h1 h2;have hj:=hin j (List.mem_of_getElem? e);have hj':j < σ.length:=by rw [h.1];exact hj
      cases h1;cases h2;refine h.2 j _ _ ?_ ?_
      · show ρ[j]?=some (ρ.getD j .non);rw [List.getD_eq_getElem?_getD,List.getElem?_eq_getElem hj];rfl
      · show σ[j]?=some ((σ[j]?).join);rw [List.getElem?_eq_getElem hj'];rfl
section
variable {X:Cx} {pins:List (Addr×Obj)} {σ:St} {H:Hp} {s:Shared} {nl:Nat} {G0:List Str} {sc:Scope} {N:List Str} {own:Nat} {G:List Str} {fr:List Nat} {cl:List (Str×Addr)} {fp:List Addr} {a C:Addr} {h4:Heap} {t4:Nat} {m:Str->Option Value}
theorem pQ (I:ap X pins σ H s) (ck:cA sc N own G X.N fr) (hf:∀ b∈fp,gV X pins H b) (hob:∀ b∈fp,b < s.heap.objs.size) (hcl1:∀ x c,cl.lookup x=some c->X.env.cells.lookup x=some c) (hcl2:∀ x∈sc.names,x.2=.free->∃ c,cl.lookup x.1=some c)
    (vis:∀ x∈X.N,u4 X.env.scope x) (hout:∀ y∈sc.names,y.2=.free->X.env.kindOf y.1=some .cell\/X.env.kindOf y.1=some .free)
    (ha:s.heap.objs.size<=a) (hC:s.heap.objs.size<=C) (hac:a≠C) (keep:∀ b o,s.heap.get? b=some o->h4.get? b=some o) (hl:h4.get? a=some { cls:=.type "list",data:=.seq #[] 0 }) (hn:h4.Ns C m) :
    ap (aw X N sc cl C s H fp) [] (dr own fr σ) (bP H a (.lst [])) { s with heap:=h4,toks:=t4 }:=by
  obtain ⟨ck1,ck2,ck3,nd,l,f,db,g,ol,ofr⟩:=ck;have hHa:H a=none:=I.hok.fresh ha;have hHC:H C=none:=I.hok.fresh hC;have lt:∀ {b:Addr} {o:Obj},s.heap.get? b=some o->b < s.heap.objs.size:=fun e=>Heap.lt_size e
  have cellLt:∀ x c,cl.lookup x=some c->c < s.heap.objs.size:=fun x c e=>by
    obtain ⟨v,q⟩:=I.cell x c (hcl1 x c e);exact q.lt
  refine ⟨⟨I.ok.mod,ck1,I.ok.glob,I.ok.blt,hC,fun x y c h1 h2=>I.ok.inj x y c (hcl1 x c h1) (hcl1 y c h2),fun x hx=>?_,fun x c hx=>(Bool.false_ne_true hx).elim,I.ok.hd,I.ok.frames,.inl rfl,fun b hb=>⟨?_,fun x c e=>?_⟩,I.bs,Nat.le_trans I.ok.bsz I.sz,fun b o e hb=>?_,fun b hb hs=>?_,I.stack,I.stkFree,fun x hx c P e=>I.base.tbls _ _ (I.ok.tab x hx c P e)⟩,
    rfl,I.bare,Un.laid keep ha hHa,⟨m,hn,fun i x v h1 h2 h3=>?_⟩,fun x c e=>?_,?_,fun x c e=>?_,fun p hp=>?_,?_,?_⟩
  · have q:=lr (env:=X.env) ck2 (show (relabel sc X.env).names.lookup x=some .free\/(relabel sc X.env).names.lookup x=some .cell from hx.elim .inr .inl);exact hcl2 _ q rfl
  · exact Nat.ne_of_lt (Nat.lt_of_lt_of_le (hob b hb) hC)
  · exact (hf b hb).2.2.2.2.1 x c (hcl1 x c e)
  · rcases (hf b hb).2.2.2.1 with z | z
    · exact I.ok.noex b o e z
    · exact absurd (Nat.lt_of_lt_of_le (Heap.lt_size e) I.ok.bsz) (Nat.not_lt.mpr z)
  · rcases List.mem_cons.mp (I.stkSub b hs) with z | z
    · exact (hf b hb).2.1 z
    · exact (hf b hb).2.2.1 z
  · -- a captured name
    have hi:¬ i < own:=fun hi=>by
      unfold dr at h2;rw [List.getElem?_append_left (by simpa using hi),List.getElem?_replicate,if_pos hi] at h2;cases h2
    unfold dr at h2;rw [List.getElem?_append_right (by simpa using hi),List.getElem?_map,List.length_replicate] at h2;cases e:fr[i-own]? with
    | none=>rw [e] at h2;cases h2
    | some j =>
      rw [e] at h2;have h2':(σ[j]?).join=some v:=Option.some.inj h2;have hσ:σ[j]?=some (some v):=by
        cases q:σ[j]? with
        | none=>rw [q] at h2';cases h2'
        | some o=>rw [q] at h2';exact congrArg some h2'
      have hx:(N.drop own)[i-own]?=some x:=by
        rw [List.getElem?_drop];have:own+(i-own)=i:=by omega
        rw [this];exact h1
      have hj:X.N[j]?=some x:=by
        have q:=congrArg (fun l=>l[i-own]?) ofr;simp only [List.getElem?_map,hx,e,Option.map_some] at q;exact (Option.some.inj q).symm
      have hfree:=f x (List.mem_of_getElem? hx);obtain ⟨c,hc⟩:=hcl2 _ (PySem.mem_of_lookup hfree) rfl;have hXc:=hcl1 x c hc;obtain ⟨m0,hn0,hl0⟩:=I.loc;obtain ⟨u,ru,lk⟩:=hl0 j x v hj hσ (vis x (List.mem_of_getElem? hj));have ko:=hout _ (PySem.mem_of_lookup hfree) rfl;refine ⟨u,ru,.inr ⟨(gq (env:=X.env) hfree).symm,c,hc,?_⟩⟩;rcases lk with ⟨k1,_⟩ | ⟨_,c',e1,ob,q1,q2⟩
      · exfalso;rcases ko with k | k <;> (rw [k] at k1;cases k1)
      · rw [hXc] at e1;cases e1;exact ⟨ob,keep _ _ q1,q2⟩
  · obtain ⟨v,o,q,d⟩:=I.cell x c (hcl1 x c e);exact ⟨v,o,keep _ _ q,d⟩
  · show bP H a (.lst []) C=none;rw [am (Ne.symm hac)];exact hHC
  · have q:=I.freeC x c (hcl1 x c e);show bP H a (.lst []) c=none;rw [am (Nat.ne_of_lt (Nat.lt_of_lt_of_le (cellLt x c e) ha))];exact q
  · exact absurd (show p∈([]:List (Addr×Obj)) from hp) (by simp)
  · exact I.hok.laid keep ha ⟨Nat.zero_le _,[],0,.nil,hl⟩
  · show (dr own fr σ).length=N.length;have q:=congrArg List.length ofr;rw [List.length_map,List.length_map,List.length_drop] at q;unfold dr;rw [List.length_append,List.length_replicate,List.length_map];omega
end
noncomputable def ia (ρ0 ρ1:ar):Prop:=ρ1.length=ρ0.length/\∀ (i:Nat) (c:cg),ρ0[i]?=some c->c=.non\/ρ1[i]?=some c
theorem Sl.unfit {H:Hp} {σ:St} {ρ0 ρ1:ar} (h:Sl H σ ρ1) (f:ia ρ0 ρ1):Sl H σ ρ0:=by
  refine ⟨h.1.trans f.1,fun i c o h1 h2=>?_⟩;rcases f.2 i c h1 with rfl | q
  · exact True.intro
  · exact h.2 i c o q h2
noncomputable def oV (H0:Hp) (σ:St) (ρ:ar):Prop:=∀ (i:Nat) (e:PyData),ρ[i]?=some (.own e)->∃ v,σ[i]?=some (some v)/\fE H0 e v
inductive yV (X:Cx) (tn:Nat->Heap->Prop) (fp:List Addr) (a:Addr) (b:PyData->ar->Option ar) (t:ar->R Bool) (f:Fe) (ds:List PyData) (r:R (List PyData)) (H0:Hp) (ρ0:ar) (n:Nat) (s:Shared):Prop
  | mk (i:Nat) (acc:List PyData) (σ:St) (H:Hp) (vs:List V) (hn:n=ds.length-i) (hi:i<=ds.length) (hal:acc.length<=i) (I:ap X [] σ H s) (st:tn i s.heap) (fr:∀ b∈fp,H b=none) (s0:al H0 H) (hla:H a=some (.lst vs)) (ra:aI H acc vs) (hc:(bz b t f ρ0 (ds.drop i)>>=fun rest=>.ok (acc++rest))=r) (sl:Sl H σ ρ0) (ow:oV H0 σ ρ0)
theorem nN {X:Cx} {J:It} {tn:Nat->Heap->Prop} {it a:Addr} {fp:List Addr} {tg iter elt:Expr} {ifs:List Expr} {scope:Scope} {pos:Pos} {b:PyData->ar->Option ar} {t:ar->R Bool} {f:Fe} {ds:List PyData} {r:R (List PyData)} {Gd:Hp->Prop} {H0:Hp} {ρ0:ar}
    {Rk:Result->Shared->Prop} (T:nu X.prog X.w X.K tg J fp it tn) (calm:X.calm=true) (hfp:∀ H:Hp,(∀ b∈fp,H b=none)->∀ b∈fp,gV X [] H b) (hxe:∀ e s',X.xe e s'->notedBy (model X.prog X.w) X.A X.env (fun x s'=>Rk (.error x) s') e s') (hX:∀ c,r=.ex c->Xw X c H0) (hno:r≠.no) (hg:mD X tg b) (ht:oM X ifs t) (hf:bD X elt f)
    (idt:sK J Gd ds) (sta:w5 H0 (fun _=>False) Gd) (hsz:ds.length<=sizeLine) (ha0:H0 a=none) (hb0:∀ d ρ1,b d ρ0=some ρ1->ia ρ0 ρ1)
    (fin:∀ xs s' σ' H' vs,r=.ok xs->ap X [] σ' H' s'->al H0 H'->H' a=some (.lst vs)->aI H' xs vs->Rk (.ok .next) s') :
    ∀ {s:Shared} {σ:St} {H:Hp},ap X [] σ H s->tn 0 s.heap->(∀ b∈fp,H b=none)->al H0 H->H a=some (.lst [])->bz b t f ρ0 ds=r->Sl H σ ρ0->oV H0 σ ρ0 ->
      codeAny (model X.prog X.w) X.A (.compLoop (.ListComp elt [⟨tg,iter,ifs,0⟩] scope pos) 0 (.ref it) (.ref a) X.env) Rk s:=by
  intro s σ H I st fr s0 hla hc sl ow;refine codeAny_loop rfl (yV X tn fp a b t f ds r H0 ρ0) (fun n s hI=>?_) ds.length ⟨0,[],σ,H,[],by simp,Nat.zero_le _,Nat.le_refl _,I,st,fr,s0,hla,aI.nil,by rw [List.drop_zero,hc];cases r <;> rfl,sl,ow⟩;clear I st fr s0 hla hc sl ow;obtain ⟨i,acc,σ,H,vs,rfl,hi,hal,I,st,fr,s0,hla,ra,hc,sl,ow⟩:=hI;show wpAny _ X.A ((compTurn (.ListComp elt [⟨tg,iter,ifs,0⟩] scope pos) 0 (.ref it) (.ref a) X.env).onRaise (fun x=>do noteFrame x X.env;theTreesLotGoes x)) _ _ s;refine wpAny_noted ?_;rw [compTurn_list];have gd:Gd H:=sta H (Kp.of s0) fun _ _ z=>z.elim
  have noex:∀ {α:Type} {m:Sem α} {Q Q':α->Shared->Prop} {s:Shared},wpAny (model X.prog X.w) X.A m Q X.xe s->(∀ v s,Q v s->Q' v s)->wpAny (model X.prog X.w) X.A m Q' (notedBy (model X.prog X.w) X.A X.env (fun x s'=>Rk (.error x) s')) s:=fun h k =>
    wpAny_mono h k hxe
  by_cases hlt:i < ds.length
  · obtain ⟨d,hd⟩:∃ d,ds[i]?=some d:=⟨ds[i],List.getElem?_eq_getElem hlt⟩
    have hdrop:ds.drop i=d::ds.drop (i+1):=by
      rw [List.drop_eq_getElem_cons hlt];congr 1;exact Option.some.inj ((List.getElem?_eq_getElem hlt).symm.trans hd)
    rw [hdrop] at hc;unfold bz at hc;refine wpAny_bind (wpAny_standAt (wpAny_bind (bX (T.item X rfl rfl rfl calm i [] s σ H _ I (hfp H fr) st (idt.go i H gd hlt)) fun r s1 zq0=>?_)));obtain ⟨u,hr,h1⟩:=zq0;subst hr;refine wpAny_bind (bX h1 fun _ s2 zq0=>?_);obtain ⟨x,H2,I2,r2,y2,st2,fr2⟩:=zq0;obtain ⟨s02,p2⟩:=idt.yld i H x H2 d gd hd y2;have I2':=I2.pinned (hfp H2 fr2) (T.obj _ _ st2);have back:∀ {σ':St} {H':Hp} {s':Shared},ap X ([]++iG fp s2.heap) σ' H' s'->ap X [] σ' H' s'/\tn (i+1) s'.heap/\∀ b∈fp,H' b=none:=fun {σ' H' s'} J' =>
      ⟨J'.unpinned,T.keep _ _ _ st2 fun b hb o e=>(J'.pin (b,o) (List.mem_append_right _ (List.mem_append_right _ (ej hb e)))).1,fun b hb=>by
        obtain ⟨o,e,_⟩:=T.obj _ _ st2 b hb;exact (J'.pin (b,o) (List.mem_append_right _ (List.mem_append_right _ (ej hb e)))).2.1⟩
    cases eb:b d ρ0 with
    | none=>rw [eb] at hc;exact absurd hc.symm hno
    | some ρ1 =>
      rw [eb] at hc;dsimp only at hc;have hfit:=hb0 d ρ1 eb;refine wpAny_bind (noex (hg _ s2 σ H2 x u (fun σ' H'=>H'=H2/\Sl H2 σ' ρ1/\∀ (i:Nat) (e:PyData),ρ1[i]?=some (.own e)->ρ0[i]?=some (.own e)/\σ'[i]?=σ[i]?) I2' r2 ⟨ρ0,d,sl.mono s02,p2,by rw [eb];exact fun σ' sl' w'=>⟨rfl,sl',w'⟩⟩) fun _ s3 ⟨σ3,H3,I3,e3,sl3,w3⟩=>?_);subst e3;have ow3:oV H0 σ3 ρ0:=fun j e h=>by
        obtain ⟨v,z1,z2⟩:=ow j e h;rcases hfit.2 j _ h with z | z
        · cases z
        · exact ⟨v,by rw [(w3 j e z).2];exact z1,z2⟩
      cases et:t ρ1 with
      | no=>rw [et] at hc;exact absurd hc.symm hno
      | ex c =>
        rw [et] at hc;exact wpAny_bind (noex (ht _ s3 σ3 H3 (fun _ _=>False) I3 ⟨ρ1,sl3,by rw [et];exact (hX c hc.symm).mono (s0.trans s02)⟩) fun ok s4 ⟨H4,I4,z⟩=>z.elim)
      | ok k =>
        rw [et] at hc;refine wpAny_bind (noex (ht _ s3 σ3 H3 (fun b' H'=>b'=k/\al H3 H') I3 ⟨ρ1,sl3,by rw [et];exact fun H' s'=>⟨rfl,s'⟩⟩) fun ok s4 ⟨H4,I4,e4,s34⟩=>?_);subst e4;have s04:=(s0.trans s02).trans s34;have hla4:H4 a=some (.lst vs):=s34 _ _ (s02 _ _ hla);have ra4:aI H4 acc vs:=(ra.mono s02).mono s34;cases ok with
        | false =>
          obtain ⟨J1,J2,J3⟩:=back I4;have hc':(bz b t f ρ0 (ds.drop (i+1))>>=fun rest=>.ok (acc++rest))=r:=hc;exact wpAny_pure ⟨rfl,ds.length-(i+1),by omega,i+1,acc,σ3,H4,vs,rfl,hlt,by omega,J1,J2,J3,s04,hla4,ra4,hc',(sl3.unfit hfit).mono s34,ow3⟩
        | true =>
          have hc':((f ρ1>>=fun x=>bz b t f ρ0 (ds.drop (i+1))>>=fun xs=>.ok (x::xs))>>=fun rest=>.ok (acc++rest))=r:=hc;cases ef:f ρ1 with
          | no=>rw [ef] at hc';exact absurd hc'.symm hno
          | ex c =>
            rw [ef] at hc';exact wpAny_bind (wpAny_bind (noex (hf _ s4 σ3 H4 (fun _ _=>False) I4 ⟨ρ1,sl3.mono s34,by rw [ef];exact (hX c hc'.symm).mono s04⟩) fun yv s5 ⟨v5,H5,I5,r5,z⟩=>z.elim))
          | ok y =>
              rw [ef,R.ok_bind] at hc';have hc2:(bz b t f ρ0 (ds.drop (i+1))>>=fun rest=>.ok ((acc++[y])++rest))=r:=by
                rw [<- hc'];cases bz b t f ρ0 (ds.drop (i+1)) with
                | ok rest=>simp only [R.ok_bind,List.append_assoc,List.singleton_append]
                | ex c=>rfl
                | no=>rfl
              refine wpAny_bind (wpAny_bind (noex (hf _ s4 σ3 H4 (fun v H'=>al H4 H'/\Rp H' y v) I4 ⟨ρ1,sl3.mono s34,by rw [ef];exact fun v H' s' p'=>⟨s',p'⟩⟩) fun yv s5 ⟨v5,H5,I5,r5,s45,p5⟩=>?_));have hla5:H5 a=some (.lst vs):=s45 _ _ hla4;have hlen:vs.length < sizeLine:=by
                rw [ra.length];omega
              refine wpAny_bind (noex (oh _ s5 σ3 H5 (.ref a) [v5] (.ref a) [yv] (fun _ H'=>H'=bP H5 a (.lst (vs++[v5]))) I5 rfl (.cons r5 .nil) ⟨a,vs,v5,rfl,rfl,hla5,hlen,rfl⟩) fun _ s6 zq0=>?_);obtain ⟨v6,H6,I6,r6,e6⟩:=zq0;subst e6;obtain ⟨J1,J2,J3⟩:=back I6;have kp:Kp H5 (bP H5 a (.lst (vs++[v5]))):=fS hla5 (.inl ⟨_,rfl⟩);have s06:al H0 (bP H5 a (.lst (vs++[v5]))):=fun b o e=>by
                rw [am (aq e ha0)];exact (s04.trans s45) b o e
              refine wpAny_pure (wpAny_pure ⟨rfl,ds.length-(i+1),by omega,i+1,acc++[y],σ3,_,vs++[v5],rfl,hlt,by rw [List.length_append,List.length_singleton];omega,J1,J2,J3,s06,aW,?_,hc2,?_,ow3⟩)
              · exact aI.append (aI.kp kp _ _ (ra4.mono s45)) (aI.cons (Rp.kp kp _ _ p5) aI.nil)
              · have sl5:Sl H5 σ3 ρ0:=((sl3.unfit hfit).mono s34).mono s45;refine ⟨sl5.1,fun j c o h1 h2=>?_⟩;cases c with
                | exc p=>exact sl5.2 j _ o h1 h2
                | non=>exact True.intro
                | val d' =>
                  obtain ⟨v',z1,z2⟩:=sl5.2 j _ o h1 h2;exact ⟨v',z1,Rp.kp kp _ _ z2⟩
                | own e' =>
                  obtain ⟨v',z1,z2⟩:=ow3 j e' h1;rw [z1] at h2;cases h2;exact ⟨v',rfl,z2.mono s06⟩
  · have e:i=ds.length:=by omega
    subst e;rw [List.drop_length] at hc;have hr':r=.ok acc:=by rw [<- hc];simp only [bz,R.ok_bind,List.append_nil]
    refine wpAny_bind (wpAny_standAt (wpAny_bind (bX (T.done X rfl rfl rfl calm _ [] s σ H _ I (hfp H fr) st (idt.stop _ H gd (Nat.le_refl _))) fun r s1 zq0=>?_)));obtain ⟨hr,I1⟩:=zq0;subst hr;exact wpAny_pure (fin acc s1 σ H vs hr' I1 s0 hla ra)
theorem dk.but {P:Program} {w:World} {H:Hp} {h1 h2:Heap} {C:Addr} (ok:dk P w H h1) (hC:H C=none) (sb:∀ b o,b≠C->h1.get? b=some o->h2.get? b=some o):dk P w H h2:=fun a o e =>
  (ok a o e).stay (fun b u hb q=>sb b u (by
    rcases hb with rfl | hb
    · exact aq e hC
    · exact aq hb hC) q) (fun _ q=>q) fun _ _ q=>q
theorem fG {h h' base:Heap} {C:Addr} (tp:∀ b o,b≠C->h.get? b=some o->h'.get? b=some o):∀ {l:List Env},C∉gk l->h.FunFrames base l->h'.FunFrames base l
  | [],_,_=>trivial
  | env::l,hC,⟨hk,⟨L,o,hf,hn,ho,hd⟩,hr⟩=>⟨hk,⟨L,o,hf,hn,tp L o (fun z=>hC (List.mem_filterMap.mpr ⟨env,List.mem_cons_self,by rw [hf,z]⟩)) ho,hd⟩,fG tp (fun z=>hC (by
    obtain ⟨e,he,hz⟩:=List.mem_filterMap.mp z;exact List.mem_filterMap.mpr ⟨e,List.mem_cons_of_mem _ he,hz⟩)) hr⟩
theorem gi {X:Cx} {tg iter elt:Expr} {ifs:List Expr} {sc:Scope} {pos pos':Pos} {it:ar->R (List PyData)} {b:PyData->ar->Option ar} {t:ar->R Bool} {f:Fe} {N:List Str} {own:Nat} {G G0:List Str} {fr:List Nat} {nl:Nat}
    (T:Tb X nl G0) (ck:cA sc N own G X.N fr) (hout:∀ y∈sc.names,y.2=.free->X.env.kindOf y.1=some .cell\/X.env.kindOf y.1=some .free) (hi:mE X tg iter it)
    (hb0:∀ ρ d ρ1,b d (au own fr ρ)=some ρ1->ia (au own fr ρ) ρ1)
    (hbody:∀ cl C s H fp E,Tb (aw X N sc cl C s H fp E) own G->mD (aw X N sc cl C s H fp E) tg b/\oM (aw X N sc cl C s H fp E) ifs t/\bD (aw X N sc cl C s H fp E) elt f)
    (hs:∀ x,foldedSetIterable iter X.env x=pure x) {use:Option (Value->Sem Unit)} {Qc:Value->Shared->Prop} {pins:List (Addr×Obj)} {s:Shared} {σ:St} {H:Hp} (I:ap X pins σ H s) {ρ:ar} {ds:List PyData} {r:R (List PyData)} (sl:Sl H σ ρ) (ei:it ρ=.ok ds)
    (hsz:ds.length<=sizeLine) (ec:bz b t f (au own fr ρ) ds=r) (hX:∀ c,r=.ex c->Xw X c H) (hno:r≠.no) (hstk:∃ env0 outer0 L,X.stack=env0::outer0/\env0.frame=some L/\X.env.frame=some L)
    (fin:∀ (xs:List PyData) (a C:Addr) (H':Hp) (s':Shared) (m:Str->Option Value) (vs:List V),r=.ok xs->ap X pins σ H' s'->gV X pins H' C->s'.heap.Ns C m->al H H'->H a=none->H' a=some (.lst vs)->aI H' xs vs->compPost (model X.prog X.w) X.A X.xe use Qc (.ref a) C (.ok .next) s') :
    wpAny (model X.prog X.w) X.A (comprehension (.ListComp elt [⟨tg,iter,ifs,0⟩] sc pos) sc X.env pos' (newList []) false (eval iter X.env) use) Qc X.xe s:=by
  obtain ⟨cl,hcl,hcl1,hcl2⟩:=lX (scope:=sc) (env:=X.env) fun x hx hf=>I.ok.has _ (hout x hx hf)
  have ck':=ck;obtain ⟨ck1,ck2,ck3,_,_,_,_,_,_,ofr⟩:=ck';have hin:∀ i∈fr,i < ρ.length:=fun i hi=>by
    have e1:ρ.length=X.N.length:=by rw [<- sl.1];exact I.len
    rw [e1];obtain ⟨k,hk⟩:=List.getElem?_of_mem hi;have q:=congrArg (fun l=>l[k]?) ofr;simp only [List.getElem?_map,hk,Option.map_some] at q;cases z:(N.drop own)[k]? with
    | none=>rw [z] at q;cases q
    | some y =>
      rw [z] at q;have q':some y=X.N[i]?:=Option.some.inj q;exact (List.getElem?_eq_some_iff.mp q'.symm).1
  refine wpAny_comprehension_free (use:=use) rfl hs hcl ck1 ck3 ?_;refine bX (hi pins s σ H (fun J H1=>al H H1/\∃ Gd,sK J Gd ds/\w5 H1 (fun _=>False) Gd) I ⟨ρ,sl,by rw [ei];exact fun J H1 s1 z=>⟨s1,z⟩⟩) fun xv s1 h1=>bX h1 fun itv s2 h2=>?_
  obtain ⟨itA,fp,tn,J,H2,e,I2,T2,st2,f2,s02,Gd,idt,sta⟩:=h2;subst e;refine wpAny_newObj_type (wpAny_newFunctionEnv ck2 (by intro y hy;simp at hy) (fun h₁ hns₁ hsb₁=>?_) ck1);dsimp only at hns₁ hsb₁ ⊢;generalize hHp:s2.heap.push { cls:=.type "list",dict:=none,data:=.seq ([]:List Value).toArray }=Hp2 at hns₁ hsb₁ ⊢;have hC:Hp2.objs.size=s2.heap.objs.size+1:=by rw [<- hHp,Heap.size_push]
  have hDC:s2.heap.objs.size≠Hp2.objs.size:=by rw [hC];exact Nat.ne_of_lt (Nat.lt_succ_self _)
  have hCle:s2.heap.objs.size<=Hp2.objs.size:=by rw [hC];exact Nat.le_succ _
  have below:∀ b,b < s2.heap.objs.size->b≠Hp2.objs.size:=fun b hb=>by rw [hC];exact Nat.ne_of_lt (Nat.lt_succ_of_lt hb)
  have old:∀ b o,s2.heap.get? b=some o->h₁.get? b=some o:=fun b o e=>hsb₁.extBut b o (below b (Heap.lt_size e)) (Heap.get?_push_of_some _ (hHp ▸ Heap.get?_push_of_some _ e))
  have hacc:h₁.get? s2.heap.objs.size=some { cls:=.type "list",dict:=none,data:=.seq ([]:List Value).toArray }:=hsb₁.extBut _ _ hDC (Heap.get?_push_of_some _ (hHp ▸ Heap.get?_push_size _ rfl));have hob:∀ b∈fp,b < s2.heap.objs.size:=fun b hb=>by
    obtain ⟨o,e,_⟩:=T2.obj _ _ st2 b hb;exact Heap.lt_size e
  have sl2:Sl H2 σ ρ:=sl.mono s02;have IC:ap (aw X N sc cl Hp2.objs.size s2 H2 fp) [] (dr own fr σ) (bP H2 s2.heap.objs.size (.lst [])) { s2 with heap:=h₁,toks:=s2.toks+([]:List (Str×Value)).length } :=
    pQ I2 ck f2 hob hcl1 hcl2 (fun x hx=>(T.vis x hx).1) hout (Nat.le_refl _) hCle hDC old hacc hns₁
  let E:Value->Shared->Prop:=fun e s'=>∃ c Ce pins' σ' H' s1 H1,r=.ex c/\X.mg c=some (.ref Ce)/\ap (aw X N sc cl Hp2.objs.size s2 H2 fp) pins' σ' H' s1/\al H2 H1/\i9 X.prog X.w X.stack H' s1 Ce H1 e s'
  obtain ⟨hg,ht,hf⟩:=hbody cl Hp2.objs.size s2 H2 fp E (pr T ck cl Hp2.objs.size s2 H2 fp E);have ha0:H2 s2.heap.objs.size=none:=I2.hok.fresh (Nat.le_refl _);have hfp:∀ H':Hp,(∀ b∈fp,H' b=none)->∀ b∈fp,gV (aw X N sc cl Hp2.objs.size s2 H2 fp E) [] H' b:=fun H' hn b hb =>
    ⟨hn b hb,below b (hob b hb),fun z=>by
      rcases List.mem_cons.mp (I2.stkSub b z) with y | y
      · exact (f2 b hb).2.1 y
      · exact (f2 b hb).2.2.1 y,.inl hb,fun x c e=>(f2 b hb).2.2.2.2.1 x c (hcl1 x c e),fun p hp=>absurd (show p∈([]:List (Addr×Obj)) from hp) (by simp)⟩
  have st3:tn 0 h₁:=T2.keep _ _ _ st2 fun b _ o e=>old b o e
  have slC:Sl H2 (dr own fr σ) (au own fr ρ):=rj sl2 own fr hin;have fin':∀ xs s' σ' H' vs,r=.ok xs->ap (aw X N sc cl Hp2.objs.size s2 H2 fp E) [] σ' H' s'->al H2 H'->H' s2.heap.objs.size=some (.lst vs)->aI H' xs vs ->
      compPost (model X.prog X.w) X.A X.xe use Qc (.ref s2.heap.objs.size) Hp2.objs.size (.ok .next) s':=fun xs s' σ' H' vs hr J' s2' hv rv=>by
    obtain ⟨m,hn,_⟩:=J'.loc;exact fin xs _ _ H' s' m vs hr (I2.call' (s':=s') (ch:=fp) J'.os J'.base J'.hok J'.bare (fun b hb=>⟨(f2 b hb).2.2.2.1,(f2 b hb).2.1,(f2 b hb).2.2.2.2.1,(f2 b hb).2.2.2.2.2⟩)) (I2.fpOk hCle J'.free) hn (s02.trans s2') (s02.free ha0) hv rv
  have hXc:∀ c,r=.ex c->Xw (aw X N sc cl Hp2.objs.size s2 H2 fp E) c H2:=fun c hr H1 s1 Ce hm pins' σ' H' s1' e s' J f =>
    ⟨c,Ce,pins',σ',H',s1',H1,hr,hm,J.unwish,s1,f⟩
  have hxe:∀ e s',E e s'->notedBy (model X.prog X.w) X.A (compEnvC sc cl Hp2.objs.size X.env) (fun x s'=>compPost (model X.prog X.w) X.A X.xe use Qc (.ref s2.heap.objs.size) Hp2.objs.size (.error x) s') e s':=fun e s' hE=>by
    obtain ⟨c,Ce,pins',σ',H',s1,H1,hr,hm,J,same1,f⟩:=hE;obtain ⟨env0,outer0,L,k1,k2,k3⟩:=hstk;refine f.note k1 I.ok.frames k2 k3 fun h4 f4 up=>?_
    obtain ⟨m,hn,_⟩:=(f4.inv (X:=aw X N sc cl Hp2.objs.size s2 H2 fp) J).loc;refine ⟨m,hn,fun h5 sb cenv _=>?_⟩;have fC:=I2.fpOk hCle J.free;have fC1:H1 Hp2.objs.size=none:=(f4.inv (X:=aw X N sc cl Hp2.objs.size s2 H2 fp) J).free;have nfr:Hp2.objs.size∉gk X.stack:=fun z=>by
      rcases List.mem_cons.mp (I2.stkSub _ z) with y | y
      · exact fC.2.1 y
      · exact fC.2.2.1 y
    have Io:=I2.call' (s':=s1) (ch:=fp) J.os J.base J.hok J.bare (fun b hb=>⟨(f2 b hb).2.2.2.1,(f2 b hb).2.1,(f2 b hb).2.2.2.2.1,(f2 b hb).2.2.2.2.2⟩);have Io2:ap X pins σ H' { s1 with heap:=PySem.W.hideAll s1.heap [Hp2.objs.size],toks:=s1.toks }:=by
      obtain ⟨g0,g1,g2,g3,g4,g5⟩:=fC;exact Io.turned (t':=s1.toks) (fun b o hb q=>PySem.W.hideAll_get _ q (by simpa using hb)) g0 g1 g3 g4 g5
    obtain ⟨p,a0,B,rfl,t,okB,hp,cov⟩:=f4.ex;have stB:(PySem.W.hideAll B [Hp2.objs.size]).StaysIn B:=fun b o q=>PySem.W.of_hideAll _ q
    have hid:∀ {h:Heap} {b:Addr} {o:Obj},(PySem.W.hideAll h [Hp2.objs.size]).get? b=some o->b≠Hp2.objs.size:=fun {h b o} q z=>by
      rw [PySem.W.hideAll_none _ (by rw [z];exact List.mem_singleton.mpr rfl)] at q;cases q
    have tp:∀ b o,b≠Hp2.objs.size->h4.get? b=some o->h5.get? b=some o:=fun b o hb q=>(sb.2 b hb).trans q
    have ne_e:p≠Hp2.objs.size:=fun z=>by
      obtain ⟨oe,vs,q1,_,q2,_⟩:=t.first;obtain ⟨o,es,ep,q3,q4,_⟩:=hn;have q3':h4.get? Hp2.objs.size=some o:=q3;rw [<- z,q1] at q3';cases q3';rw [q2] at q4;cases q4
    have f5:i9 X.prog X.w X.stack H' { s1 with heap:=PySem.W.hideAll s1.heap [Hp2.objs.size],toks:=s1.toks } Ce H1 (.ref p) { s' with heap:=h5 }:=by
      refine ⟨f4.os,f4.bare,f4.same,⟨p,a0,PySem.W.hideAll B [Hp2.objs.size],rfl,?_,?_,hp,fun b o q n hb=>?_⟩,fun b o q n hb=>?_⟩
      · obtain ⟨t1,t2,t3,fl,oe,vs,T',oT,ts,a1,a2,a3,a4,a5,a6,a7,a8,a9⟩:=t;refine ⟨fun b o q=>tp b o (hid q) (t1 b o (stB b o q)),PySem.W.fresh_of_stays stB t2,fG tp nfr (PySem.W.funFrames_base stB t3),fl,oe,vs,T',oT,ts,tp _ _ ne_e a1,a2,a3,a4,PySem.W.fresh_of_stays stB a5,a6,tp _ _ ?_ a7,a8,a9⟩;intro z;obtain ⟨o,es,ep,q3,q4,_⟩:=hn;have q3':h4.get? Hp2.objs.size=some o:=q3;have a7':h4.get? T'=some oT:=a7;rw [<- z,a7'] at q3';cases q3';rw [a8] at q4;cases q4
      · exact dk.but okB fC1 fun b o hb q=>PySem.W.hideAll_get _ q (by simpa using hb)
      · obtain ⟨z1,z2⟩:=cov b o (PySem.W.of_hideAll _ q) n hb;exact ⟨PySem.W.hideAll_get _ z1 (by simpa using hid q),z2⟩
      · obtain ⟨⟨sl',z1⟩,z2⟩:=f4.slot b o (PySem.W.of_hideAll _ q) n hb;exact ⟨⟨sl',tp b _ (hid q) z1⟩,z2⟩
    refine f5.pass fun h6 f6=>?_
    exact hX c hr H1 (s02.trans same1) Ce hm pins σ H' _ _ _ Io2 f6
  have loop:=nN (X:=aw X N sc cl Hp2.objs.size s2 H2 fp E) (iter:=iter) (scope:=sc) (pos:=pos) T2 T.calm hfp hxe hXc hno hg ht hf idt sta hsz ha0 (fun d ρ1 e=>hb0 ρ d ρ1 e) fin' (IC.wish E) st3 (fun b hb=>by
      show bP H2 s2.heap.objs.size (.lst []) b=none;rw [am (Nat.ne_of_lt (hob b hb))];exact (f2 b hb).1) (bJ ha0 _) aW ec (slC.mono (bJ ha0 _)) (fun i e h=>by
      obtain ⟨o,z1,v,rfl,z2⟩:=slC.at h;exact ⟨v,z1,z2⟩)
  exact codeAny_compStart_list loop (T2.self _ 0 _ _ _ st3 loop)
theorem k9 {X:Cx} {tg iter elt:Expr} {ifs:List Expr} {sc:Scope} {pos:Pos} {it:ar->R (List PyData)} {b:PyData->ar->Option ar} {t:ar->R Bool} {f:Fe} {N:List Str} {own:Nat} {G G0:List Str} {fr:List Nat} {nl:Nat}
    (T:Tb X nl G0) (ck:cA sc N own G X.N fr) (hout:∀ y∈sc.names,y.2=.free->X.env.kindOf y.1=some .cell\/X.env.kindOf y.1=some .free) (hi:mE X tg iter it)
    (hb0:∀ ρ d ρ1,b d (au own fr ρ)=some ρ1->ia (au own fr ρ) ρ1)
    (hbody:∀ cl C s H fp E,Tb (aw X N sc cl C s H fp E) own G->mD (aw X N sc cl C s H fp E) tg b/\oM (aw X N sc cl C s H fp E) ifs t/\bD (aw X N sc cl C s H fp E) elt f)
    (hs:∀ x,foldedSetIterable iter X.env x=pure x:=by intro _;rfl) (hstk:∃ env0 outer0 L,X.stack=env0::outer0/\env0.frame=some L/\X.env.frame=some L:=by exact ⟨_,_,_,rfl,rfl,rfl⟩):g8 X (.ListComp elt [⟨tg,iter,ifs,0⟩] sc pos) (bF it own fr b t f):=by
  intro pins s σ H Q I h;obtain ⟨ρ,sl,q⟩:=h;unfold bF at q;rw [eval_ListComp];cases ei:it ρ with
  | ex c=>rw [ei] at q;exact q.elim
  | no=>rw [ei] at q;exact q.elim
  | ok ds =>
    rw [ei] at q;simp only [oq,R.ok_bind] at q;split at q
    · rename_i hsz;cases ec:bz b t f (au own fr ρ) ds with
      | no=>rw [ec] at q;exact q.elim
      | ex c =>
        rw [ec] at q;exact gi (use:=none) T ck hout hi hb0 hbody hs I sl ei hsz ec (fun c' hr=>by cases hr;exact q) (fun z=>nomatch z) hstk fun xs a C H' s' m vs hr=>by cases hr
      | ok xs =>
        rw [ec] at q;refine gi (use:=none) T ck hout hi hb0 hbody hs I sl ei hsz ec (fun c' hr=>by cases hr) (fun z=>nomatch z) hstk fun xs' a C H' s' m vs hr I' fC hn s2' ha hv rv=>?_
        cases hr;obtain ⟨f0,f1,f2,f3,f4,f5⟩:=fC;refine ⟨m,hn,fun h' sb=>⟨.ref a,H',I'.turned (t':=s'.toks) (fun b o hb e=>sb.extBut b o hb e) f0 f1 f3 f4 f5,rfl,?_⟩⟩;refine q _ H' s2' ⟨?_,_,rfl,ha⟩;simp only [fE];exact ⟨_,vs,rfl,hv,rv⟩
    · exact q.elim
theorem tH {X:Cx} {tg iter elt:Expr} {ifs:List Expr} {sc:Scope} {pos:Pos} {it:ar->R (List PyData)} {b:PyData->ar->Option ar} {t:ar->R Bool} {f:Fe} {N:List Str} {own:Nat} {G G0:List Str} {fr:List Nat} {nl:Nat} (T:Tb X nl G0) (ck:cA sc N own G X.N fr) (hout:∀ y∈sc.names,y.2=.free->X.env.kindOf y.1=some .cell\/X.env.kindOf y.1=some .free) (hi:Z.mE X tg iter it) (hb0:∀ ρ d ρ1,b d (au own fr ρ)=some ρ1->ia (au own fr ρ) ρ1) (hbody:∀ cl C s H fp E,Tb (aw X N sc cl C s H fp E) own G->Z.mD (aw X N sc cl C s H fp E) tg b/\Z.oM (aw X N sc cl C s H fp E) ifs t/\Z.bD (aw X N sc cl C s H fp E) elt f) (hs:∀ x,foldedSetIterable iter X.env x=pure x:=by intro _;rfl) (hstk:∃ env0 outer0 L,X.stack=env0::outer0/\env0.frame=some L/\X.env.frame=some L:=by exact ⟨_,_,_,rfl,rfl,rfl⟩):Z.g8 X (.ListComp elt [⟨tg,iter,ifs,0⟩] sc pos) (bF it own fr b t f) :=
  ⟨D2.k9 T ck hout hi.un hb0 (fun cl C s H fp E T=>let ⟨q1,q2,q3⟩:=hbody cl C s H fp E T;⟨q1.un,q2.un,q3.un⟩) hs hstk⟩
theorem rE {X:Cx} {tg iter elt:Expr} {ifs:List Expr} {sc:Scope} {pos py spos:Pos} {it:ar->R (List PyData)} {b:PyData->ar->Option ar} {t:ar->R Bool} {f:Fe} {N:List Str} {own:Nat} {G G0:List Str} {fr:List Nat} {nl:Nat} {y:Str} {i:Nat}
    (T:Tb X nl G0) (ck:cA sc N own G X.N fr) (hout:∀ y∈sc.names,y.2=.free->X.env.kindOf y.1=some .cell\/X.env.kindOf y.1=some .free) (hi:mE X tg iter it)
    (hb0:∀ ρ d ρ1,b d (au own fr ρ)=some ρ1->ia (au own fr ρ) ρ1)
    (hbody:∀ cl C s H fp E,Tb (aw X N sc cl C s H fp E) own G->mD (aw X N sc cl C s H fp E) tg b/\oM (aw X N sc cl C s H fp E) ifs t/\bD (aw X N sc cl C s H fp E) elt f)
    (hN:(X.N.take nl)[i]?=some y) (hsw:swapsWith (.ListComp elt [⟨tg,iter,ifs,0⟩] sc pos) (some (.Name y py)) spos.line X.env=pure true)
    (hs:∀ x,foldedSetIterable iter X.env x=pure x:=by intro _;rfl) (hstk:∃ env0 outer0 L,X.stack=env0::outer0/\env0.frame=some L/\X.env.frame=some L:=by exact ⟨_,_,_,rfl,rfl,rfl⟩):iQ X (.Assign [.Name y py] (.ListComp elt [⟨tg,iter,ifs,0⟩] sc pos) spos) (gJ i (bF it own fr b t f)):=fun Fm=>by
  intro pins s σ H D I h;obtain ⟨ρ,sl,q⟩:=h;unfold gJ bF at q;obtain ⟨hNi,hl,hf⟩:=T.nm hN;cases ei:it ρ with
  | ex c=>rw [ei] at q;exact q.elim
  | no=>rw [ei] at q;exact q.elim
  | ok ds =>
    rw [ei] at q;simp only [oq,R.ok_bind] at q;by_cases hsz:ds.length<=sizeLine
    · rw [if_pos hsz] at q;cases ec:bz b t f (au own fr ρ) ds with
      | no=>rw [ec] at q;exact q.elim
      | ex c =>
        rw [ec] at q;rw [exec_Assign_Name_used _ _ _ _ hsw];refine wpAny_bind (wpAny_standAt (wpAny_bind ?_));show wpAny _ X.A (do let _ <- comprehension (.ListComp elt [⟨tg,iter,ifs,0⟩] sc pos) sc X.env _ (newList []) false (eval iter X.env) (some (assign (.Name y py) X.env))) _ _ s;exact wpAny_bind (bX (gi (use:=some (assign (.Name y py) X.env)) (Qc:=fun _ s'=>False) T ck hout hi hb0 hbody hs I sl.sl ei hsz ec (fun c' hr=>by cases hr;exact q.1.mono sl.fm) (fun z=>nomatch z) hstk fun xs a C H' s' m vs hr=>by cases hr) fun _ s' hq=>hq.elim)
      | ok xs =>
        rw [ec] at q;rw [exec_Assign_Name_used _ _ _ _ hsw];refine wpAny_bind (wpAny_standAt (wpAny_bind ?_));show wpAny _ X.A (do let _ <- comprehension (.ListComp elt [⟨tg,iter,ifs,0⟩] sc pos) sc X.env _ (newList []) false (eval iter X.env) (some (assign (.Name y py) X.env))) _ _ s;refine wpAny_bind (bX (gi (use:=some (assign (.Name y py) X.env)) (Qc:=fun _ s'=>SP X pins D .next s') T ck hout hi hb0 hbody hs I sl.sl ei hsz ec (fun c' hr=>by cases hr) (fun z=>nomatch z) hstk fun xs' a C H' s' m vs hr I' fC hn s2' ha hv rv=>?_) fun _ s' hq=>wpAny_pure (wpAny_pure hq));cases hr;obtain ⟨f0,f1,f2,f3,f4,f5⟩:=fC;show wpAny _ X.A (assign (.Name y py) X.env (.ref a)) _ _ _;refine wpAny_assign_Name (jA I' T.nd hNi hl (v:=.ref a) rfl (fun s'' I'' k=>?_) hf);have sls:dG Fm H' (σ.set i (some (.ref a))) (ρ.set i (.own (.list xs))):=dG.setOwn sl (sl.mono s2') s2' i ⟨by simp only [fE];exact ⟨a,vs,rfl,hv,rv⟩,a,rfl,ha⟩;refine ⟨m,?_,fun h' sb=>⟨_,H',I''.turned (t':=s''.toks) (fun b o hb e=>sb.extBut b o hb e) f0 f1 f3 f4 f5,q _ H' sls⟩⟩;obtain ⟨a',sb',ha'⟩:=k;refine hn.sameBut sb' ?_;rcases ha' with rfl | ha'
        · exact f1
        · exact Ne.symm (f4 y a' ha')
    · rw [if_neg hsz] at q;exact q.elim
theorem dG.freeze {Fm H:Hp} {σ:St} {ρ:ar} {i:Nat} {d:PyData} {a:Addr} {u:HO} {o:Obj} (h:dG Fm H σ ρ) (h1:ρ[i]?=some (.own d)) (h2:σ[i]?=some (some (.ref a))) (hu:H a=some u) (hm:(∃ xs,u=.lst xs)\/∃ ks,u=.dK ks)
    (hr:Rp (bP H a (.frz o u)) d (.ref a)):dG Fm (bP H a (.frz o u)) σ (ρ.set i (.val d)):=by
  have hFa:=h.own i d a h1 h2;have kp:Kp H (bP H a (.frz o u)):=fS hu hm;refine ⟨fun b x e=>?_,⟨by rw [List.length_set];exact h.sl.1,fun j c w' e1 e2=>?_⟩,fun j e b e1 e2=>?_,fun j k e f b e1 e2 e3 e4=>?_⟩
  · rw [am (aq e hFa)];exact h.fm b x e
  · rw [List.getElem?_set] at e1;by_cases hij:i=j
    · subst hij;rw [if_pos rfl] at e1;split at e1
      · cases e1;rw [h2] at e2;cases e2;exact ⟨_,rfl,hr⟩
      · cases e1
    · rw [if_neg hij] at e1;have q:=h.sl.2 j c w' e1 e2;cases c with
      | exc p=>exact q
      | non=>exact True.intro
      | val d'=>obtain ⟨v,z1,z2⟩:=q;exact ⟨v,z1,Rp.kp kp _ _ z2⟩
      | own d' =>
        obtain ⟨v,z1,z2⟩:=q;subst z1;obtain ⟨b,ob,rfl,hb⟩:=jY z2;have nb:b≠a:=fun z=>hij (by subst z;exact h.apart i j d d' b h1 e1 h2 e2)
        refine ⟨_,rfl,?_⟩;cases d' <;> simp only [fE] at z2 ⊢
        · obtain ⟨b',vs,e,hb',r⟩:=z2;cases e;exact ⟨b,vs,rfl,by rw [am nb];exact hb',aI.kp kp _ _ r⟩
        · obtain ⟨b',vs,e,hb',r⟩:=z2;cases e;exact ⟨b,vs,rfl,by rw [am nb];exact hb',bU.kp kp _ _ r⟩
  · obtain ⟨ne,e1⟩:=ba (fun e z=>by cases z) e1;exact h.own j e b e1 e2
  · obtain ⟨ne,e1⟩:=ba (fun e z=>by cases z) e1;obtain ⟨ne',e2⟩:=ba (fun e z=>by cases z) e2;exact h.apart j k e f b e1 e2 e3 e4
theorem vE {X:Cx} {pins:List (Addr×Obj)} {s:Shared} {Fm H:Hp} {σ:St} {ρ:ar} {i:Nat} {d:PyData} (I:ap X pins σ H s) (h:dG Fm H σ ρ) (h1:ρ[i]?=some (.own d)) :
    ∃ H' v,ap X pins σ H' s/\dG Fm H' σ (ρ.set i (.val d))/\σ[i]?=some (some v)/\Rp H' d v:=by
  obtain ⟨w',h2,v,rfl,q⟩:=h.sl.at h1;cases d <;> simp only [fE] at q
  · rename_i ds;obtain ⟨a,vs,rfl,ha,r⟩:=q;obtain ⟨o,J⟩:=fR I ha (.inl ⟨_,rfl⟩);have hr:Rp (bP H a (.frz o (.lst vs))) (.list ds) (.ref a):=by
      simp only [Rp];exact ⟨a,o,vs,rfl,aW,aI.kp (fS ha (.inl ⟨_,rfl⟩)) _ _ r⟩
    exact ⟨_,_,J,h.freeze h1 h2 ha (.inl ⟨_,rfl⟩) hr,h2,hr⟩
  · rename_i ds;obtain ⟨a,vs,rfl,ha,r⟩:=q;obtain ⟨o,J⟩:=fR I ha (.inr ⟨_,rfl⟩);have hr:Rp (bP H a (.frz o (.dK vs))) (.dict ds) (.ref a):=by
      simp only [Rp];exact .inl ⟨a,o,vs,rfl,aW,bU.kp (fS ha (.inr ⟨_,rfl⟩)) _ _ r⟩
    exact ⟨_,_,J,h.freeze h1 h2 ha (.inr ⟨_,rfl⟩) hr,h2,hr⟩
theorem iQ.fz {X:Cx} {st:Stmt} {i:Nat} {f:Fe} (h:iQ X st (gJ i f)) (hi:i < X.N.length):iQ X st (bC i f):=fun Fm=>by
  intro pins s σ H D I ⟨ρ,sl,q⟩;unfold bC at q;cases ef:f ρ with
  | ex c=>rw [ef] at q;exact h Fm pins s σ H D I ⟨ρ,sl,by unfold gJ;rw [ef];exact q⟩
  | no=>rw [ef] at q;exact q.elim
  | ok d =>
    rw [ef] at q;have hr:sY X Fm (gJ i f) { nx:=fun σ' H'=>dG Fm H' σ' (ρ.set i (.own d)),rt:=fun _ _=>False } σ H:=⟨ρ,sl,by unfold gJ;rw [ef];exact fun σ' H' s'=>s'⟩
    refine bX (h Fm pins s σ H _ I hr) fun fl s' z=>?_
    cases fl with
    | next =>
      obtain ⟨σ',H',I',sls⟩:=z;have hi':i < ρ.length:=by rw [<- sl.sl.1,I.len];exact hi
      obtain ⟨H2,v,I2,sl2,_,_⟩:=vE I' sls (i:=i) (d:=d) (by rw [List.getElem?_set,if_pos rfl,if_pos hi']);rw [List.set_set] at sl2;exact ⟨σ',H2,I2,q σ' H2 sl2⟩
    | brk=>obtain ⟨_,_,_,z⟩:=z;exact z.elim
    | cont=>obtain ⟨_,_,_,z⟩:=z;exact z.elim
    | ret u=>obtain ⟨_,_,_,_,_,z⟩:=z;exact z.elim
theorem fY {X:Cx} {st:Stmt} {i:Nat} {f:Fe} (h:Z.iQ X st (gJ i f)) (hi:i < X.N.length):Z.iQ X st (bC i f) :=
  ⟨D2.iQ.fz h.un hi⟩
theorem nT {X:Cx} {tg iter elt:Expr} {ifs:List Expr} {sc:Scope} {pos:Pos} {it:ar->R (List PyData)} {b:PyData->ar->Option ar} {t:ar->R Bool} {f:Fe} {N:List Str} {own:Nat} {G G0:List Str} {fr:List Nat} {nl:Nat}
    (T:Tb X nl G0) {oN:List Str} {on:List (Str×NameKind)} (hoN:X.N=oN) (hon:X.env.scope.names=on)
    (ck:cA sc N own G oN fr/\∀ y∈sc.names,y.2=.free->on.lookup y.1=some .cell\/on.lookup y.1=some .free) (hi:mE X tg iter it)
    (hb0:∀ ρ d ρ1,b d (au own fr ρ)=some ρ1->ia (au own fr ρ) ρ1)
    (hbody:∀ cl C s H fp E,Tb (aw X N sc cl C s H fp E) own G->mD (aw X N sc cl C s H fp E) tg b/\oM (aw X N sc cl C s H fp E) ifs t/\bD (aw X N sc cl C s H fp E) elt f)
    (hs:∀ x,foldedSetIterable iter X.env x=pure x:=by intro _;rfl) (hstk:∃ env0 outer0 L,X.stack=env0::outer0/\env0.frame=some L/\X.env.frame=some L:=by exact ⟨_,_,_,rfl,rfl,rfl⟩):g8 X (.ListComp elt [⟨tg,iter,ifs,0⟩] sc pos) (bF it own fr b t f) :=
  k9 T (by rw [hoN];exact ck.1) (fun y hy hf=>by unfold Env.kindOf;rw [hon];exact ck.2 y hy hf) hi hb0 hbody hs hstk
theorem cJ {X:Cx} {tg iter elt:Expr} {ifs:List Expr} {sc:Scope} {pos:Pos} {it:ar->R (List PyData)} {b:PyData->ar->Option ar} {t:ar->R Bool} {f:Fe} {N:List Str} {own:Nat} {G G0:List Str} {fr:List Nat} {nl:Nat} (T:Tb X nl G0) {oN:List Str} {on:List (Str×NameKind)} (hoN:X.N=oN) (hon:X.env.scope.names=on) (ck:cA sc N own G oN fr/\∀ y∈sc.names,y.2=.free->on.lookup y.1=some .cell\/on.lookup y.1=some .free) (hi:Z.mE X tg iter it) (hb0:∀ ρ d ρ1,b d (au own fr ρ)=some ρ1->ia (au own fr ρ) ρ1) (hbody:∀ cl C s H fp E,Tb (aw X N sc cl C s H fp E) own G->Z.mD (aw X N sc cl C s H fp E) tg b/\Z.oM (aw X N sc cl C s H fp E) ifs t/\Z.bD (aw X N sc cl C s H fp E) elt f) (hs:∀ x,foldedSetIterable iter X.env x=pure x:=by intro _;rfl) (hstk:∃ env0 outer0 L,X.stack=env0::outer0/\env0.frame=some L/\X.env.frame=some L:=by exact ⟨_,_,_,rfl,rfl,rfl⟩):Z.g8 X (.ListComp elt [⟨tg,iter,ifs,0⟩] sc pos) (bF it own fr b t f) :=
  ⟨D2.nT T hoN hon ck hi.un hb0 (fun cl C s H fp E T=>let ⟨q1,q2,q3⟩:=hbody cl C s H fp E T;⟨q1.un,q2.un,q3.un⟩) hs hstk⟩
theorem rF {X:Cx} {tg iter elt:Expr} {ifs:List Expr} {sc:Scope} {pos py spos:Pos} {it:ar->R (List PyData)} {b:PyData->ar->Option ar} {t:ar->R Bool} {f:Fe} {N:List Str} {own:Nat} {G G0:List Str} {fr:List Nat} {nl:Nat} {y:Str} (i:Nat)
    (hN:(X.N.take nl)[i]?=some y) (T:Tb X nl G0) {oN:List Str} {on:List (Str×NameKind)} (hoN:X.N=oN) (hon:X.env.scope.names=on)
    (ck:cA sc N own G oN fr/\∀ y∈sc.names,y.2=.free->on.lookup y.1=some .cell\/on.lookup y.1=some .free) (hi:mE X tg iter it)
    (hb0:∀ ρ d ρ1,b d (au own fr ρ)=some ρ1->ia (au own fr ρ) ρ1)
    (hbody:∀ cl C s H fp E,Tb (aw X N sc cl C s H fp E) own G->mD (aw X N sc cl C s H fp E) tg b/\oM (aw X N sc cl C s H fp E) ifs t/\bD (aw X N sc cl C s H fp E) elt f)
    (hsw:swapsWith (.ListComp elt [⟨tg,iter,ifs,0⟩] sc pos) (some (.Name y py)) spos.line X.env=pure true:=by rfl)
    (hs:∀ x,foldedSetIterable iter X.env x=pure x:=by intro _;rfl) (hstk:∃ env0 outer0 L,X.stack=env0::outer0/\env0.frame=some L/\X.env.frame=some L:=by exact ⟨_,_,_,rfl,rfl,rfl⟩):iQ X (.Assign [.Name y py] (.ListComp elt [⟨tg,iter,ifs,0⟩] sc pos) spos) (gJ i (bF it own fr b t f)) :=
  rE T (by rw [hoN];exact ck.1) (fun y hy hf=>by unfold Env.kindOf;rw [hon];exact ck.2 y hy hf) hi hb0 hbody hN hsw hs hstk
theorem fh {X:Cx} {tg iter elt:Expr} {ifs:List Expr} {sc:Scope} {pos py spos:Pos} {it:ar->R (List PyData)} {b:PyData->ar->Option ar} {t:ar->R Bool} {f:Fe} {N:List Str} {own:Nat} {G G0:List Str} {fr:List Nat} {nl:Nat} {y:Str} (i:Nat) (hN:(X.N.take nl)[i]?=some y) (T:Tb X nl G0) {oN:List Str} {on:List (Str×NameKind)} (hoN:X.N=oN) (hon:X.env.scope.names=on) (ck:cA sc N own G oN fr/\∀ y∈sc.names,y.2=.free->on.lookup y.1=some .cell\/on.lookup y.1=some .free) (hi:Z.mE X tg iter it) (hb0:∀ ρ d ρ1,b d (au own fr ρ)=some ρ1->ia (au own fr ρ) ρ1) (hbody:∀ cl C s H fp E,Tb (aw X N sc cl C s H fp E) own G->Z.mD (aw X N sc cl C s H fp E) tg b/\Z.oM (aw X N sc cl C s H fp E) ifs t/\Z.bD (aw X N sc cl C s H fp E) elt f) (hsw:swapsWith (.ListComp elt [⟨tg,iter,ifs,0⟩] sc pos) (some (.Name y py)) spos.line X.env=pure true:=by rfl) (hs:∀ x,foldedSetIterable iter X.env x=pure x:=by intro _;rfl) (hstk:∃ env0 outer0 L,X.stack=env0::outer0/\env0.frame=some L/\X.env.frame=some L:=by exact ⟨_,_,_,rfl,rfl,rfl⟩):Z.iQ X (.Assign [.Name y py] (.ListComp elt [⟨tg,iter,ifs,0⟩] sc pos) spos) (gJ i (bF it own fr b t f)) :=
  ⟨D2.rF i hN T hoN hon ck hi.un hb0 (fun cl C s H fp E T=>let ⟨q1,q2,q3⟩:=hbody cl C s H fp E T;⟨q1.un,q2.un,q3.un⟩) hsw hs hstk⟩
theorem bN {own:Nat} {fr:List Nat} {i:Nat} (h:i < own):∀ ρ d ρ1,bq i d (au own fr ρ)=some ρ1->ia (au own fr ρ) ρ1:=fun ρ d ρ1 e=>by
  have e':ρ1=(au own fr ρ).set i (.val d):=(Option.some.inj e).symm;subst e';refine ⟨by rw [List.length_set],fun j c hj=>?_⟩;by_cases hij:i=j
  · subst hij;left;unfold au at hj;rw [List.getElem?_append_left (by simpa using h),List.getElem?_replicate,if_pos h] at hj;exact (Option.some.inj hj).symm
  · right;rw [List.getElem?_set,if_neg hij];exact hj
noncomputable def kn (sc:Scope) (N G:List Str):Prop :=
  N.Nodup/\(∀ x∈N,(sc.names.lookup x=some .local\/sc.names.lookup x=some .cell)/\(x==("__debug__" : Str))=false/\(x==("__classdict__" : Str))=false)/\∀ x∈G,sc.names.lookup x=some .globalImplicit/\(x==("__debug__" : Str))=false/\x≠("__name__" : Str)
noncomputable instance {sc:Scope} {N G:List Str}:Decidable (kn sc N G):=by unfold kn;infer_instance
theorem pD {P:Program} {w:World} {K:PySem.W.Frag} {mg:Str->Option Value} {base:Heap} {N:List Str} {qual:Str} {sc:Scope} {f:Addr} {cdv:Value} {A:Around} {outer:List Env} {s:Shared} {H:Hp} {E:XK} {G:List Str} {k:Nat}
    (hr:cH k (A.deeper (envOfC qual sc s.heap.objs.size f cdv))) (ck:kn sc N G):Tb (ci (cN P w mg) P w K mg base N qual sc f cdv A outer s H E) N.length G:=by
  obtain ⟨nd,l,g⟩:=ck;refine ⟨hr.units,rfl,nd,fun x hx=>⟨?_,(l x hx).2⟩,fun x hx=>⟨?_,.inl rfl⟩,fun x hx=>?_⟩
  · rcases (l x hx).1 with q | q
    · exact .inl q
    · exact .inr (.inl q)
  · exact (l x (List.mem_of_mem_take hx)).1
  · exact g x hx
section
variable {X:Cx} {a b c:Expr} {fa fb fc:Fe} {pos:Pos}
noncomputable def mH (X:Cx) (P:Hp->Hp->PyData->V->Prop) (r:V->Hp->VK->Prop) (g:PyData->R PyData):Prop:=∀ H x dx Q,eI H dx x->lG X P (g dx) H Q->r x H Q
theorem yo {P:Hp->Hp->PyData->V->Prop} {r:V->Hp->VK->Prop} {g:PyData->R PyData} (hP:Dn P) (hg:mH X P r g) (σ:St) (H:Hp) (Q:VK) (h:eZ X P (e1 g fa) σ H Q):yT r (eZ X lL fa) σ H Q :=
  (cR (P:=lL) (k:=fun _ x=>g x) (cX (X:=X) hP Q) h).post fun v H1 ⟨_,d1,_,_,p1,q1⟩=>hg H1 v d1 Q p1 q1
noncomputable def kS:PyData->R PyData
  | .int i=>.ok (.int (-i))
  | _=>.no
theorem uN:mH X eJ (rU fun i=>.int (-i)) kS:=fun H x dx Q hx q=>by
  unfold kS at q;split at q
  · exact ⟨_,aE hx,q _ H (al.refl _) bw⟩
  · exact q.elim
theorem kG (ha:Z.bS X a fa):Z.bD X (.UnaryOp .USub a pos) (e1 kS fa):=⟨have ha:=ha.un;PE.imp (wg uX ha) (yo cu uN)⟩
noncomputable def io (g g':PyData->PyData->R PyData) (fa fb fc:Fe):Fe:=fun ρ=>fa ρ>>=fun x=>fb ρ>>=fun y=>g x y>>=fun d=>kM d>>=fun k=>if k=true then fc ρ>>=fun z=>g' y z else .ok (.bool false)
theorem pk {r r':R2} {g g':PyData->PyData->R PyData} (hg:aT X eJ r g) (hg':aT X eJ r' g') (σ:St) (H:Hp) (Q:VK) (h:eZ X eJ (io g g' fa fb fc) σ H Q) :
    qI r r' (eZ X lL fa) (eZ X lL fb) (eZ X lL fc) σ H Q :=
  (cR (P:=lL) (k:=fun ρ x=>fb ρ>>=fun y=>g x y>>=fun d=>kM d>>=fun k=>if k=true then fc ρ>>=fun z=>g' y z else .ok (.bool false)) (cX (X:=X) cu Q) h).post fun v H1 ⟨ρ1,d1,sl1,_,p1,q1⟩ =>
    (cR (P:=lL) (f:=fb) (k:=fun ρ y=>g d1 y>>=fun d=>kM d>>=fun k=>if k=true then fc ρ>>=fun z=>g' y z else .ok (.bool false)) (cX (X:=X) cu Q) ⟨ρ1,sl1,q1⟩).post fun u H2 ⟨ρ2,d2,sl2,s2,p2,q2⟩=>by
      refine hg H2 v u d1 d2 _ (eI.mono p1 s2) p2 ?_;cases e:g d1 d2 with
      | ex c=>rw [e] at q2;exact q2
      | no=>rw [e] at q2;exact q2
      | ok d =>
        rw [e] at q2;intro w' H3 s3 p3;have q3:lG X eJ (kM d>>=fun k=>if k=true then fc ρ2>>=fun z=>g' d2 z else .ok (.bool false)) H2 Q:=q2;cases d with
        | bool k =>
          have e3:w'=.bl k:=by simpa only [Rp] using p3
          refine ⟨k,e3,?_⟩;cases k with
          | false=>exact q3 _ H3 s3 eA
          | true =>
            have q4:lG X eJ (fc ρ2>>=fun z=>g' d2 z) H2 Q:=q3;exact (cR (P:=lL) (f:=fc) (k:=fun _ z=>g' d2 z) (cX (X:=X) cu Q) ⟨ρ2,sl2.mono s3,(cX (X:=X) cu Q).mono _ _ _ q4 s3⟩).post fun z H4 ⟨_,d4,_,s4,p4,q5⟩=>hg' H4 u z d2 d4 Q (eI.mono p2 (s3.trans s4)) p4 q5
        | none=>exact q3.elim
        | int i=>exact q3.elim
        | str i=>exact q3.elim
        | list i=>exact q3.elim
        | tuple i=>exact q3.elim
        | dict i=>exact q3.elim
theorem kK {op op':CmpOp} {r r':R2} {g g':PyData->PyData->R PyData} (ho:eS X (compareOp op) r) (hg:aT X eJ r g) (ho':eS X (compareOp op') r') (hg':aT X eJ r' g') (ha:Z.bS X a fa) (hb:Z.bS X b fb) (hc:Z.bS X c fc) (hm:lastMarks [op,op'] [b,c]=false:=by with_unfolding_all rfl):Z.h9 X (.Compare a [op,op'] [b,c] pos) (tE (io g g' fa fb fc)):=⟨have ha:=ha.un;have hb:=hb.un;have hc:=hc.un;PT.imp (qt ho ho' ha hb hc hm) fun σ H Q h=>pk hg hg' σ H _ (j9 h)⟩
variable {es:List Expr} {fs:ar->R (List PyData)}
noncomputable def rC (fs:ar->R (List PyData)):Fe:=fun ρ=>fs ρ>>=fun ds=>if ds.length<=sizeLine then .ok (.tuple ds) else .no
noncomputable def tS (fs:ar->R (List PyData)):Fe:=fun ρ=>fs ρ>>=fun ds=>if ds.length<=sizeLine then .ok (.list ds) else .no
theorem kI {x1} (h:Z.mC X es fs):Z.bD X (.Tuple es x1 pos) (rC fs):=⟨have h:=h.un;PE.imp (uq h) fun σ H Q q=>(gx (I:=Rp) (f:=fs) (k:=fun _ ds=>if ds.length<=sizeLine then .ok (.tuple ds) else .no) (cX (X:=X) cu Q) q).post fun vs H1 ⟨_,ds,_,_,p,q1⟩=>by
    have p:=j8.mp p;split at q1
    · rename_i hz;exact ⟨by rw [p.length];exact hz,fun a ha=>q1 _ _ (bJ ha _) (df ha p)⟩
    · exact q1.elim⟩
theorem nA (h:Z.mC X es fs):Z.g8 X (.List es pos) (tS fs):=⟨have h:=h.un;PE.imp (ul h) fun σ H Q q=>(gx (I:=Rp) (f:=fs) (k:=fun _ ds=>if ds.length<=sizeLine then .ok (.list ds) else .no) (cX (X:=X) tR Q) q).post fun vs H1 ⟨_,ds,_,_,p,q1⟩=>by
    have p:=j8.mp p;split at q1
    · rename_i hz;exact ⟨by rw [p.length];exact hz,fun a ha=>q1 _ _ (bJ ha _) (dh ha p)⟩
    · exact q1.elim⟩
theorem kJ  : Z.g8 X (.Dict [] [] pos) (eC (.dict [])):=⟨PE.imp qk fun σ H Q ⟨ρ,sl,q⟩ p hp=>q _ _ (bJ hp _) ⟨by simp only [fE];exact ⟨p,[],rfl,aW,by simp only [bU]⟩,p,rfl,hp⟩⟩
noncomputable def cF:PyData->PyData->R PyData
  | .list ds,.int i=>match atI ds i with
    | some d=>.ok d
    | none=>.no
  | .tuple ds,.int i=>match atI ds i with
    | some d=>.ok d
    | none=>.no
  | .str z,.int i=>if z.length<=sizeLine then match atI z.cps.toList i with
    | some c=>.ok (.str ⟨#[c]⟩)
    | none=>.no else .no
  | .dict kvs,k=>if iA kvs=true then .no else match eF k with
    | some _=>match jv kvs k with
      | some d=>.ok d
      | none=>.no
    | none=>.no
  | _,_=>.no
theorem aI.atI {H:Hp} {ds:List PyData} {vs:List V} {i:Int} {d:PyData} (r:aI H ds vs) (e:L2.atI ds i=some d):∃ v,L2.atI vs i=some v/\Rp H d v:=by
  unfold L2.atI at e ⊢;rw [r.length];cases h:sR ds.length i with
  | none=>rw [h] at e;cases e
  | some j =>
    rw [h] at e;obtain ⟨v,e1,p⟩:=r.get (show ds[j]?=some d from e);exact ⟨v,e1,p⟩
noncomputable def wl:R2:=fun x y H Q=>∃ a v,x=.ref a/\kh H a y (some v)/\Q v H
theorem rO (hu:X.A.units+1 < cLine):qX X wl:=by
  intro value slice pins s σ H x y v u Q I rx ry h hs;obtain ⟨a,z,rfl,g,q⟩:=h;cases rx;exact tail_any (kU I g) PySem.F.slot_dict_getitem.lookup (nQ hu I g ry fun w' s3 I3 rw'=>⟨z,H,I3,rw',q⟩) hs
theorem wC:aT X eJ (fun x y H Q=>wm X.K x y H Q\/wo X.K x y H Q\/wn x y H Q\/wl x y H Q) cF:=fun H x y dx dy Q hx hy q=>by
  unfold cF at q;split at q
  · rename_i ds i;split at q
    · rename_i d e;obtain ⟨a,vs,rfl,hq,r⟩:=bV (K:=X.K) hx;obtain ⟨v,e1,p⟩:=r.atI e;exact .inl ⟨a,vs,i,v,rfl,aE hy,hq,e1,q v H (al.refl _) p⟩
    · exact q.elim
  · rename_i ds i;split at q
    · rename_i d e;obtain ⟨a,vs,rfl,hq,r⟩:=ce hx;obtain ⟨v,e1,p⟩:=r.atI e;exact .inr (.inl ⟨a,vs,i,v,rfl,aE hy,cx.of hq,e1,q v H (al.refl _) p⟩)
    · exact q.elim
  · rename_i z i;split at q
    · rename_i hz;split at q
      · rename_i c e;exact .inr (.inr (.inl ⟨z,i,c,dO hx,aE hy,hz,e,q _ H (al.refl _) qz⟩))
      · exact q.elim
    · exact q.elim
  · rename_i kvs k;split at q
    · exact q.elim
    rename_i hi;split at q
    · rename_i κ e;split at q
      · rename_i d e1;obtain ⟨a,ks,rfl,h,r⟩:=il (Bool.not_eq_true _ ▸ hi) hx;obtain ⟨o,g,_,e2⟩:=rA (κ:=κ) h r;rw [pX e] at e1;obtain ⟨v,rfl,p⟩:=e2 d e1;rw [<- re hy e] at g;exact .inr (.inr (.inr ⟨a,v,rfl,g,q v H (al.refl _) p⟩))
      · exact q.elim
    · exact q.elim
  · exact q.elim
theorem aK (hu:X.A.units+64 < cLine) (ha:Z.bS X a fa) (hb:Z.bS X b fb) (hs:mG b):Z.bD X (.Subscript a b pos) (e2 cF fa fb):=⟨have ha:=ha.un;have hb:=hb.un;PE.imp (we (rP.or (tY.or (tX.or (rO (by omega))))) ha hb hs) (xA cu wC)⟩
variable {nl:Nat} {G:List Str} {x:Str} {p:Pos}
noncomputable def jG (X:Cx) (P:Hp->Hp->PyData->V->Prop) (r:List V->Hp->VK->Prop) (g:List PyData->R PyData):Prop:=∀ H xs ds Q,RA eI H ds xs->lG X P (g ds) H Q->r xs H Q
theorem pf {P:Hp->Hp->PyData->V->Prop} {r:List V->Hp->VK->Prop} {g:List PyData->R PyData} (hP:Dn P) (hg:jG X P r g) (σ:St) (H:Hp) (Q:VK) (h:eZ X P (fun ρ=>fs ρ>>=g) σ H Q):yw r (qU X eI fs) σ H Q :=
  (gx (I:=eI) (k:=fun _=>g) (cX (X:=X) hP Q) h).post fun vs H1 ⟨_,ds,_,_,p1,q1⟩=>hg H1 vs ds Q p1 q1
noncomputable def one (g:PyData->R PyData):List PyData->R PyData
  | [d]=>g d
  | _=>.no
noncomputable def uU (g:PyData->PyData->R PyData):List PyData->R PyData
  | [d,e]=>g d e
  | _=>.no
theorem qf (g:PyData->R PyData) (fa:Fe):(fun ρ=>ak fa be ρ>>=one g)=e1 g fa:=by
  funext ρ;unfold ak be e1;cases fa ρ <;> rfl
theorem uV (g:PyData->PyData->R PyData) (fa fb:Fe):(fun ρ=>ak fa (ak fb be) ρ>>=uU g)=e2 g fa fb:=by
  funext ρ;unfold ak be e2;cases fa ρ with
  | ok a=>cases fb ρ <;> rfl
  | ex c=>rfl
  | no=>rfl
theorem qH {P:Hp->Hp->PyData->V->Prop} {r:List V->Hp->VK->Prop} {g:PyData->R PyData} (h:∀ H x d Q,eI H d x->lG X P (g d) H Q->r [x] H Q):jG X P r (one g):=fun H xs ds Q ra q=>by
  unfold one at q;split at q
  · rename_i d;simp only [RA] at ra;obtain ⟨v,r',e,p,e2⟩:=ra;subst e2;subst e;exact h H v d Q p q
  · exact q.elim
theorem uQ {P:Hp->Hp->PyData->V->Prop} {r:List V->Hp->VK->Prop} {g:PyData->PyData->R PyData} (h:∀ H x y d e Q,eI H d x->eI H e y->lG X P (g d e) H Q->r [x,y] H Q):jG X P r (uU g):=fun H xs ds Q ra q=>by
  unfold uU at q;split at q
  · rename_i d e;simp only [RA] at ra;obtain ⟨v,r',e1,p,v',r'',e2,p',e3⟩:=ra;subst e3;subst e2;subst e1;exact h H v v' d e Q p p' q
  · exact q.elim
section
variable {P:Hp->Hp->PyData->V->Prop} {r:List V->Hp->VK->Prop} {g:PyData->R PyData} {g2:PyData->PyData->R PyData} {id ty:String}
theorem pd (T:Tb X nl G) (j:Nat) (hG:G[j]?=some x) (hm:X.mg x=none) (hP:Dn P) (hv:bootBuiltins x=some (.builtin id)) (hc:bR X (.builtin id) r) (hg:∀ H x d Q,eI H d x->lG X P (g d) H Q->r [x] H Q) (ha:bS X a fa)
    (he:ax a=true:=by rfl):PE X (.Call (.Name x p) [a] [] pos) (eZ X P (e1 g fa)):=by
  have q:=T.gl x (List.mem_of_getElem? hG);rw [<- qf];exact PE.imp (iE hc q.1 hm hv (hR ha lY he) q.2.2 q.2.1 (aL he)) (pf hP (qH hg))
theorem wW (T:Tb X nl G) (j:Nat) (hG:G[j]?=some x) (hm:X.mg x=none) (hP:Dn P) (hv:bootBuiltins x=some (.type ty)) (hc:bR X (.type ty) r) (hg:∀ H x d Q,eI H d x->lG X P (g d) H Q->r [x] H Q) (ha:bS X a fa)
    (he:ax a=true:=by rfl):PE X (.Call (.Name x p) [a] [] pos) (eZ X P (e1 g fa)):=by
  have q:=T.gl x (List.mem_of_getElem? hG);rw [<- qf];exact PE.imp (ov hc q.1 hm hv (hR ha lY he) q.2.2 q.2.1 (aL he)) (pf hP (qH hg))
theorem vm (T:Tb X nl G) (j:Nat) (hG:G[j]?=some x) (hm:X.mg x=none) (hP:Dn P) (hv:bootBuiltins x=some (.builtin id)) (hc:bR X (.builtin id) r) (hg:∀ H x y d e Q,eI H d x->eI H e y->lG X P (g2 d e) H Q->r [x,y] H Q) (ha:bS X a fa) (hb:bS X b fb)
    (he:ax a=true:=by rfl) (he2:ax b=true:=by rfl):PE X (.Call (.Name x p) [a,b] [] pos) (eZ X P (e2 g2 fa fb)):=by
  have q:=T.gl x (List.mem_of_getElem? hG);rw [<- uV];exact PE.imp (iE hc q.1 hm hv (hR ha (hR hb lY he2) he) q.2.2 q.2.1 (aL he) (iJ (by rw [List.all_cons,he2];rfl))) (pf hP (uQ hg))
end
end
theorem gH:fillsNumberSlot (.type "tuple") "mul" = pure false :=
  PySem.fillsNumberSlot_seq (id := "tuple.__mul__") (r:=some (.builtin "tuple.__rmul__")) F.slot_tuple_mul.lookup (by decide +kernel) F.slot_tuple_rmul.lookup (by decide +kernel)
theorem ka:seqRepeat? (.type "tuple")=pure (some (.builtin "tuple.__mul__")):=by
  unfold seqRepeat?;rw [PySem.seqSlot_of (T := "tuple") (name := "__mul__") (id := "tuple.__mul__") F.slot_tuple_mul.lookup (by decide +kernel),PySem.seqSlot_of (T := "tuple") (name := "__rmul__") (id := "tuple.__rmul__") F.slot_tuple_rmul.lookup (by decide +kernel)];rfl
theorem iz (a:Int) (t:Tok) (l:Addr) (items:Array Value) (n:Nat) (dd:Option Addr) (sl:Array (Option Value)) :
    Meets (Builtin.«int.__rmul__» ⟨[.int a t,.ref l],[]⟩) (fun _ R s=>s.heap.get? l=some { cls:=.type "tuple",dict:=dd,data:=.seq items n,slots:=sl }/\R (.ok (.ret Value.notImplemented)) s) :=
  .of_wp fun prog w A R s h=>by obtain ⟨hp,g,d,tk,os⟩:=s;obtain ⟨hl,h⟩:=h;wp_walk;exact ⟨_,rfl,h⟩
theorem mv (l:Addr) (items:Array Value) (n:Nat) (dd:Option Addr) (sl:Array (Option Value)) (x:Int) (u:Tok) (h1:2<=x) (h2:x < 2 ^ 63) (h0:¬ items.isEmpty=true) (hc1:¬ (items.size:Int)*x > (2 ^ 63-1) / 8) (hbig:Builtin.Tuple.tupleTooMany ((items.size:Int)*x)=false) (hsz:¬ (List.foldl (fun x1 x2=>x1++x2) #[] (List.replicate x.toNat items)).size > sizeLine) :
    Meets (Builtin.«tuple.__mul__» ⟨[.ref l,.int x u],[]⟩) (fun _ R s=>s.heap.get? l=some { cls:=.type "tuple",dict:=dd,data:=.seq items n,slots:=sl }/\R (.ok (.ret (Value.ref s.heap.objs.size))) { s with heap:=s.heap.push { cls:=Value.type "tuple",data:=Data.seq (List.foldl (fun x1 x2=>x1++x2) #[] (List.replicate x.toNat items)) },toks:=s.toks }) :=
  .of_wp fun prog w A R s h=>by
    obtain ⟨hp,g,d,tk,os⟩:=s;obtain ⟨hl,h⟩:=h;have f1:=AutoSeq1.idx_int;have f2:=AutoSeq1.sub_tuple_tuple;have f3:=AutoSeq1.sub_list_list;have f4:=AutoSeq1.sub_tuple_list;have f5:=AutoSeq1.sub_list_tuple;have e0:(decide (x < -2 ^ 63)||decide (x>=2 ^ 63))=false:=by
      rw [decide_eq_false (by omega),decide_eq_false (by omega)];rfl
    have e1:(items.isEmpty||x==1)=false:=by
      have:(x==1)=false:=by simp;omega
      rw [this,Bool.or_false];exact Bool.eq_false_iff.mpr h0
    have e2:(decide (x<=0)||items.isEmpty)=false:=by
      rw [decide_eq_false (by omega),Bool.false_or];exact Bool.eq_false_iff.mpr h0
    have e3:decide ((items.size:Int)*x > (2 ^ 63-1) / 8)=false:=decide_eq_false hc1;have e4:Builtin.Tuple.tupleTooMany ((items.size:Int)*x)=false:=hbig
    wp_walk using wpAny_loadPart' hl
    refine wpAny_ite_false (decide_eq_false (by rw [e0];exact Bool.false_ne_true)) ?_
    wp_walk using wpAny_loadPart' hl
    refine wpAny_ite_false (decide_eq_false (by rw [e1];exact Bool.false_ne_true)) ?_
    wp_walk using wpAny_loadPart' hl
    refine wpAny_ite_false (decide_eq_false (by rw [e2];exact Bool.false_ne_true)) ?_
    wp_walk using wpAny_loadPart' hl
    refine wpAny_ite_false e3 ?_
    wp_walk using wpAny_loadPart' hl
    exact ⟨_,rfl,h⟩
section
variable {X:Cx} {a b c:Expr} {fa fb fc:Fe} {pos:Pos} {nl:Nat} {G:List Str} {x:Str} {p:Pos}
noncomputable def sX (K:PySem.W.Frag):R2:=fun x y H Q=>∃ l k xs,x=.ref l/\y=.int k/\cx K H l xs/\xs≠[]/\2<=k/\k < 2 ^ 63/\xs.length*k.toNat<=sizeLine/\∀ p,H p=none->Q (.ref p) (bP H p (.tup (List.replicate k.toNat xs).flatten))
theorem rZ:eS X (binaryOp .Mult) (sX X.K):=by
  intro pins s σ H x y v u Q I rx ry h;obtain ⟨l,k,xs,rfl,rfl,hH,hne,h1,h2,hz,q⟩:=h;cases rx;obtain ⟨t,rfl⟩:=ry;obtain ⟨its,r,pl,hz0⟩:=I.tuple hH;obtain ⟨⟨cls,dd,data,sl⟩,e,hc,n,hd⟩:=id pl;simp only at hc hd;subst hc hd;have hl:=r.length;have hnew:List.foldl (fun x1 x2=>x1++x2) #[] (List.replicate k.toNat its.toArray)=(List.replicate k.toNat its).flatten.toArray:=by
    have:=jq its k.toNat [];rw [List.nil_append] at this;exact this
  have hlen:(List.replicate k.toNat its).flatten.length<=sizeLine:=by rw [mX,<- hl,Nat.mul_comm];exact hz
  have hprod:(its.length:Int)*k<=(sizeLine:Int):=by
    have h3:((its.length*k.toNat:Nat):Int)<=(sizeLine:Int):=by rw [<- hl];exact Int.ofNat_le.mpr hz
    have h4:((k.toNat:Nat):Int)=k:=Int.toNat_of_nonneg (by omega);rw [Int.natCast_mul,h4] at h3;exact h3
  have hcap:¬ (its.toArray.size:Int)*k > (2 ^ 63-1) / 8:=by
    rw [List.size_toArray];have hs:sizeLine=16777216:=sizeLine_eq;omega
  have hbig:Builtin.Tuple.tupleTooMany ((its.toArray.size:Int)*k)=false:=by
    unfold Builtin.Tuple.tupleTooMany;rw [List.size_toArray];exact decide_eq_false (by omega)
  refine wpAny_binaryOp_repeat_ref (T := "tuple") (U := "int") (by decide) ⟨_,e,rfl⟩ (fun s'=>typeIs_int s' k t) gH F.fills_int_mul F.slot_int_rmul ka F.slot_int_index.lookup
    (call_meets F.slot_int_rmul (typeIs_int s k t) F.entry_int_rmul (F.args_int_rmul_2 _ _) (iz k t l its.toArray n dd sl)
      ⟨e,rfl,⟨_,e,rfl⟩,call_meets F.slot_tuple_mul ⟨_,e,rfl⟩ F.entry_tuple_mul (F.args_tuple_mul_2 _ _) (mv l its.toArray n dd sl k t h1 h2 (by
        intro z;apply hne;have:its=[]:=by simpa using z
        rw [this] at hl;exact List.length_eq_zero_iff.mp hl) hcap hbig (by rw [hnew,List.size_toArray];omega)) ⟨e,?_⟩⟩)
  rw [hnew];refine ⟨.ref s.heap.objs.size,_,I.laid (t':=s.toks) (o:=.tup (List.replicate k.toNat xs).flatten) (fun b ob q=>Heap.get?_push_of_some _ q) (Nat.le_refl _) ?_,rfl,q _ (I.hok.fresh (Nat.le_refl _))⟩;exact ⟨by rw [mX,Nat.mul_comm];exact hz,_,r.rep k.toNat,dm.new _ _⟩
noncomputable def cY:PyData->PyData->R PyData
  | .int i,.int j=>if (-(2 ^ 64) < i/\i < 2 ^ 64)\/(-(2 ^ 64) < j/\j < 2 ^ 64) then .ok (.int (i*j)) else .no
  | .tuple xs,.int k=>if xs≠[]/\2<=k/\k < 2 ^ 63/\xs.length*k.toNat<=sizeLine then .ok (.tuple (List.replicate k.toNat xs).flatten) else .no
  | _,_=>.no
theorem uM:aT X eJ (fun x y H Q=>rI qV (fun i j=>.int (i*j)) x y H Q\/sX X.K x y H Q) cY:=fun H x y dx dy Q hx hy q=>by
  cases dx with
  | int i =>
    cases dy with
    | int j =>
      simp only [cY] at q;split at q
      · rename_i h;exact .inl ⟨_,_,aE hx,aE hy,h,q _ H (al.refl _) bw⟩
      · exact q.elim
    | _=>exact q.elim
  | tuple xs =>
    cases dy with
    | int k =>
      simp only [cY] at q;split at q
      · rename_i h;obtain ⟨a,vs,rfl,ha,r⟩:=ce hx;have hl:=r.length;refine .inr ⟨a,k,vs,rfl,aE hy,cx.of ha,fun z=>h.1 ?_,h.2.1,h.2.2.1,by rw [hl];exact h.2.2.2,fun p hp=>q _ _ (bJ hp _) (df hp (r.rep _))⟩;rw [z] at hl;exact List.length_eq_zero_iff.mp hl.symm
      · exact q.elim
    | _=>exact q.elim
  | _=>exact q.elim
theorem cm (ha:Z.bS X a fa) (hb:Z.bS X b fb):Z.bD X (.BinOp a .Mult b pos) (e2 cY fa fb):=⟨have ha:=ha.un;have hb:=hb.un;gB cu (uf.or rZ) uM ha hb⟩
theorem rT:eS X (binaryOp .Add) (fun x y H Q=>∃ i j,x=.str i/\y=.str j/\i.length+j.length<=sizeLine/\Q (.str (i++j)) H):=by
  intro pins s σ H x y v u Q I rx ry h;obtain ⟨i,j,rfl,rfl,hz,q⟩:=h;obtain ⟨t,rfl⟩:=rx;obtain ⟨t',rfl⟩:=ry;exact PyProof.Rows.add_str (fun t' tk=>⟨.str (i++j),H,I.tok _,⟨_,rfl⟩,q⟩) hz
noncomputable def qv (K:PySem.W.Frag):R2:=fun x y H Q=>∃ a b ys,x=.ref a/\y=.ref b/\cx K H a []/\cx K H b ys/\Q (.ref b) H
theorem qg:eS X (binaryOp .Add) (qv X.K):=by
  intro pins s σ H x y v u Q I rx ry h;obtain ⟨a,b,ys,rfl,rfl,ha,hb,q⟩:=h;cases rx;cases ry;obtain ⟨its,r1,p1,_⟩:=I.tuple ha;obtain ⟨its2,r2,p2,_⟩:=I.tuple hb;cases r1;obtain ⟨⟨cls,dd,data,sl⟩,ho,hc,n,hd⟩:=id p1;obtain ⟨⟨cls2,dd2,data2,sl2⟩,ho2,hc2,n2,hd2⟩:=id p2;simp only at hc hd hc2 hd2;subst hc hd hc2 hd2;exact concat_meets ⟨_,ho,rfl⟩ ⟨_,ho2,rfl⟩ noFill_tuple_add seq_tuple_add PySem.F.slot_tuple_add PySem.F.entry_tuple_add (PySem.F.args_tuple_add_2 _ _)
    (tuple_addW0 a b _ its2.toArray n n2 dd dd2 sl sl2 (by rfl)) ⟨ho,ho2,⟨.ref b,H,I,rfl,q⟩⟩
noncomputable def sV (K:PySem.W.Frag):R2:=fun x y H Q=>∃ l b xs zs,x=.ref l/\y=.ref b/\Rd H l (.lst xs)/\Rd H b (.lst zs)/\xs.length+zs.length<=sizeLine/\∀ p,H p=none->Q (.ref p) (bP H p (.lst (xs++zs)))
theorem rV:eS X (binaryOp .Add) (sV X.K):=by
  intro pins s σ H x y v u Q I rx ry h;obtain ⟨l,b,xs,zs,rfl,rfl,hH,hB,hz,q⟩:=h;cases rx;cases ry;obtain ⟨z,its,n,r,e⟩:=hH.ok I.hok;obtain ⟨z2,its2,n2,r2,e2⟩:=hB.ok I.hok;have hl:=r.length;have hl2:=r2.length;refine PySem.P.add_list e e2 ?_ (by rw [List.size_toArray,List.size_toArray];omega);have ea:its.toArray++its2.toArray=(its++its2).toArray:=by simp
  rw [ea];exact ⟨.ref _,_,I.lnew (t':=s.toks) (r.append r2) (by rw [List.length_append];omega),rfl,q _ I.fresh⟩
noncomputable def dc:PyData->PyData->R PyData
  | .int i,.int j=>.ok (.int (i+j))
  | .str x,.str y=>if x.length+y.length<=sizeLine then .ok (.str (x++y)) else .no
  | .tuple xs,.tuple ys=>if xs.length+ys.length<=sizeLine then .ok (.tuple (xs++ys)) else .no
  | .list xs,.list ys=>if xs.length+ys.length<=sizeLine then .ok (.list (xs++ys)) else .no
  | _,_=>.no
theorem jN {H:Hp} {ds:List PyData} {x:V} (h:eI H (.list ds) x):∃ a vs,x=.ref a/\Rd H a (.lst vs)/\aI H ds vs:=by
  rcases h with h | h
  · simp only [Rp] at h;obtain ⟨a,o,vs,e,ha,r⟩:=h;exact ⟨a,vs,e,.inr ⟨o,ha⟩,r⟩
  · simp only [fE] at h;obtain ⟨a,vs,e,ha,r⟩:=h;exact ⟨a,vs,e,.inl ha,r⟩
theorem uI:aT X wZ (fun x y H Q=>qT (fun i j=>.int (i+j)) x y H Q\/(∃ i j,x=.str i/\y=.str j/\i.length+j.length<=sizeLine/\Q (.str (i++j)) H)\/sW X.K x y H Q\/qv X.K x y H Q\/sV X.K x y H Q) dc:=fun H x y dx dy Q hx hy q=>by
  cases dx with
  | int i =>
    cases dy with
    | int j=>exact .inl ⟨_,_,aE hx,aE hy,q _ H (al.refl _) (.inl bw)⟩
    | _=>exact q.elim
  | str i =>
    cases dy with
    | str j =>
      simp only [dc] at q;split at q
      · rename_i h;exact .inr (.inl ⟨_,_,dO hx,dO hy,h,q _ H (al.refl _) (.inl qz)⟩)
      · exact q.elim
    | _=>exact q.elim
  | tuple xs =>
    cases dy with
    | tuple ys =>
      simp only [dc] at q;split at q
      · rename_i h;have hx':=hx;obtain ⟨a,vs,rfl,ha,r⟩:=ce hx;obtain ⟨b,us,rfl,hb,r2⟩:=ce hy;cases xs with
        | nil =>
          have:=r.nil_inv;subst this;refine .inr (.inr (.inr (.inl ⟨a,b,us,rfl,rfl,cx.of ha,cx.of hb,q _ H (al.refl _) (.inl ?_)⟩)));simp only [Rp,List.nil_append];exact ⟨b,us,rfl,hb,r2⟩
        | cons d ds =>
          refine .inr (.inr (.inl ⟨a,b,vs,us,rfl,rfl,cx.of ha,cx.of hb,fun z=>?_,by rw [r.length,r2.length];exact h,fun z=>?_,fun _ p hp=>q _ _ (bJ hp _) (.inl (df hp (r.append r2)))⟩))
          · rw [z] at r;obtain ⟨_,_,e,_⟩:=r.cons_inv;cases e
          · have hy0:ys=[]:=by
              have:=r2.length;rw [z] at this;exact List.length_eq_zero_iff.mp this.symm
            refine q _ H (al.refl _) (.inl ?_);rw [hy0,List.append_nil];simp only [Rp];exact ⟨a,vs,rfl,ha,r⟩
      · exact q.elim
    | _=>exact q.elim
  | list xs =>
    cases dy with
    | list ys =>
      simp only [dc] at q;split at q
      · rename_i h;obtain ⟨a,vs,rfl,ha,r⟩:=jN hx;obtain ⟨b,us,rfl,hb,r2⟩:=jN hy;exact .inr (.inr (.inr (.inr ⟨a,b,vs,us,rfl,rfl,ha,hb,by rw [r.length,r2.length];exact h,fun p hp=>q _ _ (bJ hp _) (.inr (dh hp (r.append r2)))⟩)))
      · exact q.elim
    | _=>exact q.elim
  | _=>exact q.elim
theorem bo (ha:Z.bS X a fa) (hb:Z.bS X b fb):Z.bD X (.BinOp a .Add b pos) (e2 dc fa fb):=⟨have ha:=ha.un;have hb:=hb.un;oR.e (gB yb (uc.or (rT.or (rW.or (qg.or rV)))) uI ha hb)⟩
end
section
variable {X:Cx} {a b c:Expr} {fa fb fc:Fe} {pos p2:Pos} {nl:Nat} {G:List Str} {x:Str} {p:Pos}
noncomputable def pA (xs:List PyData) (lo hi:Option Int):List PyData:=(xs.drop (HT.sIx xs.length 0 lo)).take (HT.sIx xs.length xs.length hi-HT.sIx xs.length 0 lo)
noncomputable def xc:PyData->Option Int->Option Int->R PyData
  | .str x,lo,hi=>if x.length<=sizeLine then .ok (.str (Txt.slice x lo hi)) else .no
  | .tuple xs,lo,hi=>.ok (.tuple (pA xs lo hi))
  | .list xs,lo,hi=>.ok (.list (pA xs lo hi))
  | _,_,_=>.no
noncomputable abbrev Fo:=ar->R (Option Int)
noncomputable def vY:Fo:=fun _=>.ok none
noncomputable def xJ:PyData->R Int
  | .int i=>.ok i
  | _=>.no
noncomputable def v4 (f:Fe):Fo:=fun ρ=>f ρ>>=fun d=>xJ d>>=fun i=>.ok (some i)
noncomputable def zf (f:Fe) (lo hi:Fo):Fe:=fun ρ=>f ρ>>=fun d=>lo ρ>>=fun l=>hi ρ>>=fun u=>xc d l u
noncomputable def xZ:PyData->R PyData
  | .tuple xs=>.ok (.tuple xs.reverse)
  | _=>.no
end
section
variable {X:Cx} {a b c:Expr} {fa fb fc:Fe} {pos p2:Pos} {nl:Nat} {G:List Str} {x:Str} {p:Pos}
theorem nF:bR X (.builtin "len") (fun xs H Q=>∃ a kvs,xs=[V.ref a]/\Rd H a (.dK kvs)/\Q (.int kvs.length) H):=by
  intro pins s σ H xs us Q I r h;obtain ⟨a,kvs,rfl,ha,q⟩:=h;obtain ⟨u,rfl,ru⟩:=dE r;cases ru;exact vq I ha fun t s' I'=>⟨.int kvs.length,H,I',⟨t,rfl⟩,q⟩
theorem bU.length {H:Hp}:∀ {kvs:List (PyData×PyData)} {ks:List (bu×V)},bU H kvs ks->ks.length=kvs.length
  | [],ks,h=>by simp only [bU] at h;rw [h];rfl
  | kd::kvs,ks,h=>by
    simp only [bU] at h;obtain ⟨x,v,r,rfl,_,t⟩:=h;rw [List.length_cons,List.length_cons,bU.length t]
noncomputable def gA:PyData->R PyData
  | .list ds=>.ok (.int ds.length)
  | .tuple ds=>.ok (.int ds.length)
  | .dict kvs=>if iA kvs=true then .no else .ok (.int kvs.length)
  | .str y=>if y.length<=sizeLine then .ok (.int y.length) else .no
  | _=>.no
theorem da (T:Tb X nl G) (j:Nat) (hG:G[j]?=some ("len" : Str)) (hm:X.mg "len" = none) (ha:Z.bS X a fa) (he:ax a=true:=by rfl):Z.bD X (.Call (.Name "len" p) [a] [] pos) (e1 gA fa):=⟨have ha:=ha.un;by
  refine pd T j hG hm cu PySem.boot_len (jP.or (jQ.or nF)) (fun H x d Q hx q=>?_) ha he;cases d with
  | list ds =>
    obtain ⟨a',vs,rfl,h,r⟩:=bV (K:=X.K) hx;exact .inl ⟨a',vs,rfl,.inl h,by rw [r.length];exact q _ H (al.refl _) bw⟩
  | tuple ds =>
    obtain ⟨a',vs,rfl,h,r⟩:=ce hx;exact .inl ⟨a',vs,rfl,.inr (cx.of h),by rw [r.length];exact q _ H (al.refl _) bw⟩
  | dict kvs =>
    simp only [gA] at q;split at q
    · exact q.elim
    rename_i hi;obtain ⟨a',vs,rfl,h,r⟩:=il (Bool.not_eq_true _ ▸ hi) hx;exact .inr (.inr ⟨a',vs,rfl,h,by rw [r.length];exact q _ H (al.refl _) bw⟩)
  | str y =>
    simp only [gA] at q;split at q
    · rename_i hz;exact .inr (.inl ⟨y,by rw [dO hx],hz,q _ H (al.refl _) bw⟩)
    · exact q.elim
  | _=>exact q.elim⟩
noncomputable def ro:PyData->R PyData
  | .int i=>.ok (.int i)
  | .bool k=>.ok (.int (if k then 1 else 0))
  | _=>.no
theorem ny (T:Tb X nl G) (j:Nat) (hG:G[j]?=some ("int" : Str)) (hm:X.mg "int" = none) (ha:Z.bS X a fa) (he:ax a=true:=by rfl):Z.bD X (.Call (.Name "int" p) [a] [] pos) (e1 ro fa):=⟨have ha:=ha.un;by
  refine wW T j hG hm cu PyProof.Rows.boot_int nE (fun H x d Q hx q=>?_) ha he;cases d with
  | int i=>exact .inl ⟨i,by rw [aE hx],q _ H (al.refl _) bw⟩
  | bool k=>exact .inr ⟨k,by rw [ik hx],q _ H (al.refl _) bw⟩
  | _=>exact q.elim⟩
noncomputable def zd:PyData->R PyData
  | .int i=>if i.natAbs.log2 < 1920 then .ok (.str (toString i)) else .no
  | _=>.no
noncomputable def rz:PyData->PyData->R PyData
  | .int i,.int j=>.ok (.int (if j < i then j else i))
  | _,_=>.no
noncomputable def i0:PyData->PyData->R PyData
  | .int i,.int j=>.ok (.int (if j > i then j else i))
  | _,_=>.no
theorem kF (T:Tb X nl G) (j:Nat) (hG:G[j]?=some ("min" : Str)) (hm:X.mg "min" = none) (ha:Z.bS X a fa) (hb:Z.bS X b fb) (he:ax a=true:=by rfl) (he2:ax b=true:=by rfl):Z.bD X (.Call (.Name "min" p) [a,b] [] pos) (e2 rz fa fb):=⟨have ha:=ha.un;have hb:=hb.un;by
  refine vm T j hG hm cu PyProof.Rows.boot_min (nJ T.calm) (fun H x y d e Q hx hy q=>?_) ha hb he he2;cases d with
  | int i =>
    cases e with
    | int j=>exact ⟨i,j,by rw [aE hx,aE hy],q _ H (al.refl _) bw⟩
    | _=>exact q.elim
  | _=>exact q.elim⟩
theorem eT (T:Tb X nl G) (j:Nat) (hG:G[j]?=some ("max" : Str)) (hm:X.mg "max" = none) (ha:Z.bS X a fa) (hb:Z.bS X b fb) (he:ax a=true:=by rfl) (he2:ax b=true:=by rfl):Z.bD X (.Call (.Name "max" p) [a,b] [] pos) (e2 i0 fa fb):=⟨have ha:=ha.un;have hb:=hb.un;by
  refine vm T j hG hm cu PyProof.Rows.boot_max (nH T.calm) (fun H x y d e Q hx hy q=>?_) ha hb he he2;cases d with
  | int i =>
    cases e with
    | int j=>exact ⟨i,j,by rw [aE hx,aE hy],q _ H (al.refl _) bw⟩
    | _=>exact q.elim
  | _=>exact q.elim⟩
noncomputable def fO:PyData->R PyData
  | .list ds=>.ok (.tuple ds)
  | .tuple ds=>.ok (.tuple ds)
  | _=>.no
theorem dJ (T:Tb X nl G) (j:Nat) (hG:G[j]?=some ("tuple" : Str)) (hm:X.mg "tuple" = none) (ha:Z.bS X a fa) (he:ax a=true:=by rfl):Z.bD X (.Call (.Name "tuple" p) [a] [] pos) (e1 fO fa):=⟨have ha:=ha.un;by
  refine wW T j hG hm cu PyProof.Rows.boot_tuple iX (fun H x d Q hx q=>?_) ha he;cases d with
  | list ds =>
    obtain ⟨a',vs,rfl,h,r⟩:=bV (K:=X.K) hx;exact ⟨a',vs,rfl,.inl ⟨h,fun l hl=>q _ _ (bJ hl _) (df hl r)⟩⟩
  | tuple ds =>
    obtain ⟨a',vs,rfl,h,r⟩:=ce hx;exact ⟨a',vs,rfl,.inr ⟨cx.of h,q _ H (al.refl _) (by simp only [Rp];exact ⟨a',vs,rfl,h,r⟩)⟩⟩
  | _=>exact q.elim⟩
noncomputable def sN:PyData->R PyData
  | .list ds=>.ok (.list ds)
  | .tuple ds=>.ok (.list ds)
  | _=>.no
inductive Ty where
  | int | bool | str | list | tuple
noncomputable def Ty.nm:Ty->String
  | .int => "int"
  | .bool => "bool"
  | .str => "str"
  | .list => "list"
  | .tuple => "tuple"
noncomputable def vT:Ty->PyData->Bool
  | .int,.int _=>true
  | .int,.bool _=>true
  | .bool,.bool _=>true
  | .str,.str _=>true
  | .list,.list _=>true
  | .tuple,.tuple _=>true
  | _,_=>false
noncomputable def eW (T:Ty):PyData->R PyData
  | .dict _=>.no
  | d=>.ok (.bool (vT T d))
theorem ph:bR X (.builtin "isinstance") (fun xs H Q=>∃ x t T k,xs=[x,.ty T]/\fX X.K H x t/\PySem.W.kitOne X.K t (.type T)=some k/\Q (.bl k) H):=by
  intro pins s σ H xs us Q I r h;obtain ⟨x,t,T,k,rfl,ty,e,q⟩:=h;obtain ⟨u,w',rfl,rx,ry⟩:=qM r;cases ry;exact nY I rx ty e fun tk=>⟨.bl k,H,I.tok tk,rfl,q⟩
theorem wV {K:PySem.W.Frag} {H:Hp} {d:PyData} {v:V} (h:eI H d v):(∃ kvs,d=.dict kvs)\/∃ t,fX K H v t/\∀ T:Ty,PySem.W.kitOne K t (.type T.nm)=some (vT T d):=by
  cases d with
  | none=>rw [gf h];exact .inr ⟨_,.non,fun T=>by cases T <;> rfl⟩
  | bool k=>rw [ik h];exact .inr ⟨_,.bl k,fun T=>by cases T <;> rfl⟩
  | int i=>rw [aE h];exact .inr ⟨_,.int i,fun T=>by cases T <;> rfl⟩
  | str y=>rw [dO h];exact .inr ⟨_,.str y,fun T=>by cases T <;> rfl⟩
  | tuple ds=>obtain ⟨a,vs,rfl,ha,_⟩:=ce h;exact .inr ⟨_,.tup ha,fun T=>by cases T <;> rfl⟩
  | list ds =>
    obtain ⟨a,vs,rfl,ha,_⟩:=jN h;rcases ha with ha | ⟨o,ha⟩
    · exact .inr ⟨_,.lst ha,fun T=>by cases T <;> rfl⟩
    · exact .inr ⟨_,.frz ha,fun T=>by cases T <;> rfl⟩
  | dict kvs=>exact .inl ⟨kvs,rfl⟩
theorem lZ (ty:Ty) {y:Str} {py:Pos} (T:Tb X nl G) (j:Nat) (hG:G[j]?=some ("isinstance" : Str)) (hm:X.mg "isinstance" = none) (hy:bootBuiltins y=some (.type ty.nm)) (T':Tb X nl G) (j':Nat) (hG':G[j']?=some y) (hm':X.mg y=none) (ha:bS X a fa)
    (he:ax a=true:=by rfl):bD X (.Call (.Name "isinstance" p) [a,.Name y py] [] pos) (e1 (eW ty) fa):=by
  have g:=T.gl _ (List.mem_of_getElem? hG);have g':=T.gl _ (List.mem_of_getElem? hG');have hp:PE X (.Name y py) (tC (.ty ty.nm)):=se g'.1 hm' hy rfl g'.2.2 g'.2.1;refine PE.imp (iE ph g.1 hm PyProof.Rows.boot_isinstance (j0 ha (j0 hp qj) (aL he)) g.2.2 g.2.1 (aL he)) fun σ H Q h=>?_
  refine (cR (P:=lL) (f:=fa) (k:=fun _ d=>eW ty d) (cX (X:=X) cu Q) h).post fun v H1 zq0=>?_
  obtain ⟨_,d,_,_,p1,q1⟩:=zq0;show ∃ x t T k,_/\_/\_/\_;rcases wV (K:=X.K) p1 with ⟨kvs,rfl⟩ | ⟨t,ht,hk⟩
  · exact q1.elim
  · refine ⟨v,t,ty.nm,vT ty d,rfl,ht,hk ty,?_⟩;cases d with
    | dict kvs=>exact q1.elim
    | _=>exact q1 _ H1 (al.refl _) eA
theorem jI {py:Pos} (T:Tb X nl G) (j:Nat) (hG:G[j]?=some ("isinstance" : Str)) (hm:X.mg "isinstance" = none) (T':Tb X nl G) (j':Nat) (hG':G[j']?=some ("int" : Str)) (hm':X.mg "int" = none) (ha:Z.bS X a fa) (he:ax a=true:=by rfl):Z.bD X (.Call (.Name "isinstance" p) [a,.Name "int" py] [] pos) (e1 (eW .int) fa):=⟨have ha:=ha.un;lZ .int T j hG hm PyProof.Rows.boot_int T' j' hG' hm' ha he⟩
theorem iW {py:Pos} (T:Tb X nl G) (j:Nat) (hG:G[j]?=some ("isinstance" : Str)) (hm:X.mg "isinstance" = none) (T':Tb X nl G) (j':Nat) (hG':G[j']?=some ("bool" : Str)) (hm':X.mg "bool" = none) (ha:Z.bS X a fa) (he:ax a=true:=by rfl):Z.bD X (.Call (.Name "isinstance" p) [a,.Name "bool" py] [] pos) (e1 (eW .bool) fa):=⟨have ha:=ha.un;lZ .bool T j hG hm PyProof.Rows.boot_bool T' j' hG' hm' ha he⟩
theorem c9 {py:Pos} (T:Tb X nl G) (j:Nat) (hG:G[j]?=some ("isinstance" : Str)) (hm:X.mg "isinstance" = none) (T':Tb X nl G) (j':Nat) (hG':G[j']?=some ("tuple" : Str)) (hm':X.mg "tuple" = none) (ha:Z.bS X a fa) (he:ax a=true:=by rfl):Z.bD X (.Call (.Name "isinstance" p) [a,.Name "tuple" py] [] pos) (e1 (eW .tuple) fa):=⟨have ha:=ha.un;lZ .tuple T j hG hm PyProof.Rows.boot_tuple T' j' hG' hm' ha he⟩
end
section
variable {X:Cx} {tg a b c:Expr} {fa fb fc:Fe} {pos p2:Pos} {nl:Nat} {G:List Str} {x:Str} {p:Pos} {fs:ar->R (List PyData)} {es:List Expr}
noncomputable def iI:PyData->R (List PyData)
  | .list ds=>.ok ds
  | .tuple ds=>.ok ds
  | _=>.no
noncomputable def fQ (f:Fe):ar->R (List PyData):=fun ρ=>f ρ>>=iI
theorem pU {K:PySem.W.Frag} {a:Addr} {ds:List PyData}:sK (xC K a) (fun H=>∃ o vs,H a=some (.frz o (.lst vs))/\aI H ds vs) ds where
  go:=fun i H ⟨o,vs,h,r⟩ hi=>by
    have hl:=r.length;exact ⟨vs,vs[i],.inl (.inr ⟨o,h⟩),List.getElem?_eq_getElem (by omega)⟩
  yld:=fun i H x H' d ⟨o,vs,h,r⟩ hd ⟨e,y⟩=>by
    subst e;obtain ⟨v,e1,p⟩:=r.get hd;have:=y vs (.inl (.inr ⟨o,h⟩));rw [e1] at this;cases this;exact ⟨al.refl _,p⟩
  stop:=fun i H ⟨o,vs,h,r⟩ hi=>⟨vs,.inl (.inr ⟨o,h⟩),by rw [r.length];exact hi⟩
theorem rM {K:PySem.W.Frag} {a:Addr} {ds:List PyData}:sK (xD K a) (fun H=>∃ vs,H a=some (.tup vs)/\aI H ds vs) ds where
  go:=fun i H ⟨vs,h,r⟩ hi=>by
    have hl:=r.length;exact ⟨vs,vs[i],cx.of h,List.getElem?_eq_getElem (by omega)⟩
  yld:=fun i H x H' d ⟨vs,h,r⟩ hd ⟨e,y⟩=>by
    subst e;obtain ⟨v,e1,p⟩:=r.get hd;have:=y vs (cx.of h);rw [e1] at this;cases this;exact ⟨al.refl _,p⟩
  stop:=fun i H ⟨vs,h,r⟩ hi=>⟨vs,cx.of h,by rw [r.length];exact hi⟩
noncomputable def zg (K:PySem.W.Frag) (tl:TE):TI:=fun σ H R=>tl σ H fun x H1=>∃ a,x=.ref a/\((∃ xs,iR K H1 a xs/\R (xC K a) H1)\/∃ xs,cx K H1 a xs/\R (xD K a) H1)
theorem wj {l:Expr} {tl:TE} (hl:PE X l tl):PI X tg l (zg X.K tl):=by
  intro pins s σ H R I h;refine bX (hl pins s σ H _ I h) fun v s1 zq0=>?_
  obtain ⟨x,H1,I1,r1,q1⟩:=zq0;obtain ⟨a,e,q⟩:=q1;subst e;cases r1;rcases q with ⟨xs,hq,q⟩ | ⟨xs,hq,q⟩
  · obtain ⟨its,rv,p,hz⟩:=I1.list hq;refine wpAny_pyIter_list p.isList ?_;refine ⟨s1.heap.objs.size,[s1.heap.objs.size],_,_,H1,rfl,I1.kept (t':=s1.toks) fun b o e=>Heap.get?_push_of_some _ e,oH a _,⟨_,Heap.get?_push_size _ rfl,rfl,rfl⟩,fun b hb=>?_,q⟩;have e:b=s1.heap.objs.size:=by simpa using hb
    subst e;exact I1.fpOk (Nat.le_refl _) (I1.hok.fresh (Nat.le_refl _))
  · obtain ⟨its,rv,p,hz⟩:=I1.tuple hq;refine wpAny_pyIter_tuple (show s1.heap.IsTuple a its.toArray from p) ?_;refine ⟨s1.heap.objs.size,[s1.heap.objs.size],_,_,H1,rfl,I1.kept (t':=s1.toks) fun b o e=>Heap.get?_push_of_some _ e,my a _,⟨_,Heap.get?_push_size _ rfl,rfl,rfl⟩,fun b hb=>?_,q⟩;have e:b=s1.heap.objs.size:=by simpa using hb
    subst e;exact I1.fpOk (Nat.le_refl _) (I1.hok.fresh (Nat.le_refl _))
theorem wM (Rk:It->Hp->Prop):tG X (fun (r:R (List PyData)) H=>match r with | .ok ds=>∀ J H',al H H'->(∃ Gd,sK J Gd ds/\w5 H' (fun _=>False) Gd)->Rk J H' | .ex c=>Xw X c H | .no=>False) where
  mono:=fun r H H' h s=>by
    cases r with
    | ok d=>exact fun J H2 s2=>h J H2 (s.trans s2)
    | ex c=>exact Xw.mono h s
    | no=>exact h
  ex:=fun c H h=>h
  no:=fun H h=>h
theorem cI (ha:Z.bD X a fa):Z.mE X tg a (fQ fa):=⟨have ha:=ha.un;PI.imp (wj ha) fun σ H Rk h=>(cR (P:=eJ) (f:=fa) (k:=fun _=>iI) (wM (X:=X) Rk) h).post fun v H1 ⟨_,d,_,_,p1,q1⟩=>by
    cases d with
    | list ds =>
      simp only [Rp] at p1;obtain ⟨a',o,vs,rfl,h,r⟩:=p1;exact ⟨a',rfl,.inl ⟨vs,.inl (.inr ⟨o,h⟩),q1 _ H1 (al.refl _) ⟨_,pU,fun H2 k _=>⟨o,vs,k.2 _ _ _ h,aI.kp k _ _ r⟩⟩⟩⟩
    | tuple ds =>
      simp only [Rp] at p1;obtain ⟨a',vs,rfl,h,r⟩:=p1;exact ⟨a',rfl,.inr ⟨vs,cx.of h,q1 _ H1 (al.refl _) ⟨_,rM,fun H2 k _=>⟨vs,k.1 _ _ h,aI.kp k _ _ r⟩⟩⟩⟩
    | _=>exact q1.elim⟩
noncomputable def bB (lo:Int) (n:Nat):List PyData:=(List.range n).map fun (k:Nat)=>.int (lo+k)
noncomputable def oz:List PyData->R (List PyData)
  | [.int j]=>if -(2 ^ 62)<=j/\j < 2 ^ 62 then .ok (bB 0 j.toNat) else .no
  | [.int i,.int j]=>if -(2 ^ 62)<=i/\i < 2 ^ 62/\-(2 ^ 62)<=j/\j < 2 ^ 62 then .ok (bB i (j-i).toNat) else .no
  | _=>.no
noncomputable def iy (fs:ar->R (List PyData)):ar->R (List PyData):=fun ρ=>fs ρ>>=oz
theorem nZ {lo:Int} {n:Nat}:sK (wY lo n) (fun _=>True) (bB lo n) where
  go:=fun i H _ hi=>by
    show i < n;simpa [bB] using hi
  yld:=fun i H x H' d _ hd ⟨e,y⟩=>by
    subst e;subst y;refine ⟨al.refl _,?_⟩;unfold bB at hd;rw [List.getElem?_map] at hd;cases h:(List.range n)[i]? with
    | none=>rw [h] at hd;cases hd
    | some k =>
      rw [h] at hd;have hk:k=i:=by
        rw [List.getElem?_range] at h
        · exact (Option.some.inj h).symm
        · have:=(List.getElem?_eq_some_iff.mp h).1;simpa using this
      subst hk;cases hd;exact bw
  stop:=fun i H _ hi=>by
    show n<=i;simpa [bB] using hi
theorem gN (T:Tb X nl G) (j:Nat) (hG:G[j]?=some ("range" : Str)) (hm:X.mg "range" = none) (ha:Z.mC X [a] fs) (hl:∀ ρ ds,fs ρ=.ok ds->ds.length=1) (hs:ax a=true:=by rfl):Z.mE X tg (.Call (.Name "range" p) [a] [] pos) (iy fs):=⟨have ha:=ha.un;PI.imp (ox (T.gl _ (List.mem_of_getElem? hG)).1 hm ha (aL hs)) fun σ H Rk ⟨ρ,sl,q⟩=>by
    refine ⟨ρ,sl,?_⟩;dsimp only [iy] at q;cases e:fs ρ with
    | ex c=>rw [e] at q;exact q
    | no=>rw [e] at q;exact q
    | ok ds =>
      rw [e] at q;have hlen:=hl ρ ds e;intro vs H1 s1 r1
      match ds,hlen with
      | [d],_ =>
        simp only [RA] at r1;obtain ⟨v,r',rfl,p1,rfl⟩:=r1;cases d with
        | int j =>
          have ev:v=.int j:=by simpa only [Rp] using p1
          subst ev;by_cases hz:-(2 ^ 62)<=j/\j < 2 ^ 62
          · have e2:oz [.int j]=.ok (bB 0 j.toNat):=if_pos hz;rw [R.ok_bind,e2] at q;exact ⟨j,rfl,hz.1,hz.2,q _ H1 s1 ⟨_,nZ,fun _ _ _=>True.intro⟩⟩
          · have e2:oz [.int j]=.no:=if_neg hz;rw [R.ok_bind,e2] at q;exact q.elim
        | _=>exact q.elim⟩
end
noncomputable def l5 (x:Int):List Int->List Int
  | []=>[x]
  | y::r=>if x<=y then x::y::r else y::l5 x r
noncomputable def cW:List Int->List Int
  | []=>[]
  | x::r=>l5 x (cW r)
theorem gC (x:Int):∀ l,(l5 x l).Perm (x::l)
  | []=>List.Perm.refl _
  | y::r=>by
    unfold l5;split
    · exact List.Perm.refl _
    · exact ((gC x r).cons y).trans (List.Perm.swap x y r)
theorem cD:∀ l,(cW l).Perm l
  | []=>List.Perm.refl _
  | x::r=>(gC x (cW r)).trans ((cD r).cons x)
theorem gO (x:Int):∀ l,l.Pairwise (·<=·)->(l5 x l).Pairwise (·<=·)
  | [],_=>by unfold l5;exact List.pairwise_singleton _ _
  | y::r,h=>by
    have h':=List.pairwise_cons.mp h;unfold l5;split
    · rename_i hxy;refine List.pairwise_cons.mpr ⟨fun z hz=>?_,h⟩;rcases List.mem_cons.mp hz with rfl | hz
      · exact hxy
      · exact Int.le_trans hxy (h'.1 z hz)
    · rename_i hxy;refine List.pairwise_cons.mpr ⟨fun z hz=>?_,gO x r h'.2⟩;rcases List.mem_cons.mp ((gC x r).mem_iff.mp hz) with rfl | hz
      · omega
      · exact h'.1 z hz
theorem eB:∀ l,(cW l).Pairwise (·<=·)
  | []=>List.Pairwise.nil
  | x::r=>gO x _ (eB r)
theorem lu {a b:List Int} (hp:a.Perm b) (hs:a.Pairwise (·<=·)):a=cW b:=PySem.W.ksm_same (hp.trans (cD b).symm) hs (eB b)
section
variable {prog:Program} {w:World} {A:Around} {E:Value->Shared->Prop} {s:Shared}
theorem lv {d:Addr} {kvs:List (bu×Value)} {ns:List Int} {Q:Value->Shared->Prop} (hh:A.handled=none) (lo:(d==sysModules)=false) (hd:s.heap.DictOf (bA prog w) d kvs) (hk:kvs.map (·.1)=ns.map Sum.inl) (h64:ns.length < 64)
    (h:∀ (D:Addr) (h':Heap) (tk:Nat) (vs:List Value) (e:Nat),s.heap.get? D=none->(∀ b o,s.heap.get? b=some o->h'.get? b=some o)->h'.get? D=some (seqObj "list" vs.toArray e)->IntsAre vs (cW ns)->Q (.ref D) { s with heap:=h',toks:=tk }) :
    wpAny (model prog w) A (call (.builtin "sorted") [.ref d]) Q E s:=by
  obtain ⟨ep,hat⟩:=hd.dictAt;have hlen:kvs.length=ns.length:=by have:=congrArg List.length hk;simpa using this
  have hn:kvs.length<=sizeLine:=by rw [sizeLine_eq];omega
  refine Calls.call_function_entry kind_sorted plain_sorted entry_sorted (args_sorted1 _) ?_;unfold Builtin.«sorted»;refine wpAny_bind (m:=checkCount "sorted" 1 1 _) (wpAny_pure ?_);refine wpAny_bind (PySem.W.kdu_collect (A:=A.in1) (PySem.W.kdl_dict (knd:=bA prog w) (kvs:=kvs) (ep:=ep) lo) hh hat hn fun h1 tk acc hk1 hacc=>?_);have hl:acc.toList.length=kvs.length:=by rw [Array.length_toList];exact hacc.1
  have hI:IntsAre acc.toList ns:=by
    have key:∀ (l:List Value) (ms:List Int) (k:Nat),l.length=ms.length->(∀ (j:Nat) (v:Value),l[j]?=some v->∃ n:Int,ms[j]?=some n/\∃ t,v=Value.int n t)->IntsAre l ms:=by
      intro l;induction l with
      | nil=>intro ms k e _;have:ms=[]:=List.length_eq_zero_iff.mp e.symm;subst this;exact .nil
      | cons v r ih =>
        intro ms k e hv;cases ms with
        | nil=>cases e
        | cons n ms =>
          obtain ⟨n',e1,t,rfl⟩:=hv 0 v rfl;have:n=n':=Option.some.inj e1;subst this;exact .cons n t (ih ms (k+1) (by simpa using e) fun j u hu=>hv (j+1) u (by simpa using hu))
    refine key acc.toList ns 0 (by rw [hl,hlen]) fun j v hv=>?_
    obtain ⟨κ,x,hx,his⟩:=hacc.2 j v (by rw [<- Array.getElem?_toList];exact hv);have e1:(kvs.map (·.1))[j]?=some κ:=by rw [List.getElem?_map,hx];rfl
    rw [hk,List.getElem?_map] at e1;cases e2:ns[j]? with
    | none=>rw [e2] at e1;cases e1
    | some n =>
      rw [e2] at e1;have e3:Sum.inl n=κ:=Option.some.inj e1;subst e3;rcases bc (show iB (Sum.inl n) v=true from his) with ⟨i,t,e4,e5⟩ | ⟨y,t,e4,_⟩
      · cases e4;exact ⟨n,rfl,t,e5⟩
      · cases e4
  refine wpAny_bind (wpAny_newList ?_ (by rw [hl];exact hn));have hoL:(h1.push (seqObj "list" acc.toList.toArray 0)).get? h1.objs.size=some (seqObj "list" acc.toList.toArray 0):=Heap.get?_push_size _ rfl;show wpAny _ _ _ _ _ { s with heap:=h1.push (seqObj "list" acc.toList.toArray 0),toks:=tk };refine wpAny_bind (wpAny_holding (wpAny_call_entry slot_list_sort ⟨_,hoL,rfl⟩ entry_list_sort (list_sort_tree hoL hI (by rw [hl,hlen];exact h64) fun out ns' a1 a2 a3=>⟨_,rfl,?_⟩) (args_list_sort _)));refine wpAny_pure ⟨_,rfl,?_⟩;obtain ⟨e,he⟩:=sortedHeap_at (out:=out) hoL;have hsz:s.heap.get? h1.objs.size=none:=by
    cases q:s.heap.get? h1.objs.size with
    | none=>rfl
    | some o=>exact absurd (Heap.lt_size (hk1 _ _ q)) (Nat.lt_irrefl _)
  refine h h1.objs.size _ tk out.toList e hsz (fun b o q=>?_) he (by rw [lu a2 a3] at a1;exact a1);have q1:=hk1 b o q;have hlt:b < h1.objs.size:=Heap.lt_size q1;show (sortedHeap (h1.push (seqObj "list" acc.toList.toArray 0)) h1.objs.size acc.toList out).get? b=some o;rw [sortedHeap_old (Nat.ne_of_lt hlt) (by rw [size_push'];exact Nat.lt_succ_of_lt hlt)];exact Heap.get?_push_of_some _ q1
end
theorem sI {fs ex:List Addr} {H:Hp} {h h':Heap} {a:Addr} {o:HO} (k:∀ b u,h.get? b=some u->h'.get? b=some u) (hg:h.get? a=none) (hn:H a=none):Un fs ex H (bP H a o) h h':=by
  have ne:∀ {b:Addr} {u:Obj},h.get? b=some u->b≠a:=fun e z=>by subst z;rw [hg] at e;cases e
  exact ⟨fun b u q _ _ _=>k b u q,fun b u q _ _ _=>⟨u.slots,k b u q⟩,fun b u q n _=>by rw [am (ne q)];exact n,fun b u q _=>⟨u,k b u q⟩,fun b xs q=>by rw [am (aq q hn)];exact q,fun b u xs q=>by rw [am (aq q hn)];exact q,
    fun b ps q=>by rw [am (aq q hn)];exact q⟩
theorem pR {X:Cx} {pins:List (Addr×Obj)} {σ:St} {H:Hp} {s:Shared} {h':Heap} {a:Addr} {o:HO} {t':Nat} (I:ap X pins σ H s) (k:∀ b u,s.heap.get? b=some u->h'.get? b=some u) (hg:s.heap.get? a=none) (hn:H a=none)
    (new:aQ X.prog X.w (bP H a o) h' a o):ap X pins σ (bP H a o) { s with heap:=h',toks:=t' }:=by
  refine I.un (sI k hg hn) fun b u e=>?_
  by_cases hb:b=a
  · subst hb;rw [aW] at e;cases e;exact new
  · rw [am hb] at e;exact (I.hok b u e).stay (fun c v _ q=>k c v q) (fun c q=>by rw [am (aq q hn)];exact q) fun c xs q=>by rw [am (aq q hn)];exact q
theorem pS {X:Cx} {pins:List (Addr×Obj)} {σ:St} {H:Hp} {s:Shared} {a:Addr} (I:ap X pins σ H s) (hg:s.heap.get? a=none):H a=none:=by
  cases q:H a with
  | none=>rfl
  | some o=>obtain ⟨u,e⟩:=ml (I.hok a o q);rw [hg] at e;cases e
section
variable {X:Cx} {a b c:Expr} {fa fb fc:Fe} {pos p2:Pos} {nl:Nat} {G:List Str} {x:Str} {p:Pos}
noncomputable def bh:List PyData->Option (List Int)
  | []=>some []
  | .int i::ds=>(bh ds).map fun r=>i::r
  | _=>none
theorem bL:∀ {ds:List PyData} {ns:List Int},bh ds=some ns->ds=ns.map PyData.int
  | [],ns,h=>by cases h;rfl
  | d::ds,ns,h=>by
    cases d with
    | int i =>
      simp only [bh] at h;cases e:bh ds with
      | none=>rw [e] at h;cases h
      | some r =>
        rw [e] at h;cases h;rw [List.map_cons,bL e]
    | _=>cases h
theorem cf:∀ ns:List Int,bh (ns.map PyData.int)=some ns
  | []=>rfl
  | n::ns=>by simp only [List.map_cons,bh,cf ns,Option.map_some]
noncomputable def gj:PyData->R PyData
  | .list ds=>match bh ds with
    | some ns=>if ns.length < 64 then .ok (.list ((cW ns).map PyData.int)) else .no
    | none=>.no
  | .dict kvs=>match bh (kvs.map (·.1)) with
    | some ns=>if ns.length < 64 then .ok (.list ((cW ns).map PyData.int)) else .no
    | none=>.no
  | _=>.no
noncomputable def uA (K:PySem.W.Frag):List V->Hp->VK->Prop:=fun xs H Q=>∃ p ns,xs=[.ref p]/\iR K H p (ns.map V.int)/\ns.length < 64/\∀ l,H l=none->Q (.ref l) (bP H l (.lst ((cW ns).map V.int)))
noncomputable def uz:List V->Hp->VK->Prop:=fun xs H Q=>∃ p ks ns,xs=[.ref p]/\Rd H p (.dK ks)/\ks.map (·.1)=ns.map Sum.inl/\ns.length < 64/\∀ l,H l=none->Q (.ref l) (bP H l (.lst ((cW ns).map V.int)))
theorem jz (ns:List Int):(cW ns).length=ns.length:=(cD ns).length_eq
theorem lW:bR X (.builtin "sorted") (uA X.K):=by
  intro pins s σ H xs us Q I r h;obtain ⟨p,ns,rfl,hq,h64,q⟩:=h;obtain ⟨u,rfl,rx⟩:=dE r;cases rx;obtain ⟨its,rv,pl,hz⟩:=I.list hq;have hI:IntsAre its ns:=de rv;have hl:=IntsAre.length hI;refine sorted_ints pl.isList hI (by omega) fun out ns' a1 a2 a3=>?_
  rw [lu a2 a3] at a1;obtain ⟨e,he⟩:=sortedAll_at s.heap its out;refine ⟨.ref (s.heap.objs.size+1),_,I.laid (t':=s.toks) (o:=.lst ((cW ns).map V.int)) (fun b o e=>sortedAll_old e) (Nat.le_succ _) ⟨?_,out.toList,e,fB a1,by simpa [seqObj] using he⟩,rfl,q _ (I.hok.fresh (Nat.le_succ _))⟩;rw [List.length_map,jz,sizeLine_eq];omega
theorem lV (hc:X.calm=true):bR X (.builtin "sorted") uz:=by
  intro pins s σ H xs us Q I r h;obtain ⟨p,ks,ns,rfl,hq,hk,h64,q⟩:=h;obtain ⟨u,rfl,rx⟩:=dE r;cases rx;obtain ⟨hz,hlo,vs,kv,hd⟩:=kW I.hok hq;refine lv (I.ok.hd hc) hlo hd (by rw [<- kv.keys];exact hk) h64 fun D h' tk vs' e hg kp hD hI=>?_
  have hn:=pS I hg;refine ⟨.ref D,_,pR (t':=tk) (o:=.lst ((cW ns).map V.int)) I kp hg hn ⟨?_,vs',e,fB hI,by simpa [seqObj] using hD⟩,rfl,q _ hn⟩;rw [List.length_map,jz,sizeLine_eq];omega
theorem dD:∀ {H:Hp} {ns:List Int} {vs:List V},aI H (ns.map PyData.int) vs->vs=ns.map V.int
  | H,[],vs,r=>by rw [List.map_nil] at r;rw [r.nil_inv];rfl
  | H,n::ns,vs,r=>by
    rw [List.map_cons] at r;obtain ⟨v,r',rfl,p,t⟩:=r.cons_inv;have:v=.int n:=by simpa only [Rp] using p
    rw [this,dD t];rfl
theorem ls:∀ {H:Hp} {kvs:List (PyData×PyData)} {ks:List (bu×V)},bU H kvs ks->kvs.map (·.1)=ks.map fun k=>cS k.1
  | H,[],ks,r=>by simp only [bU] at r;rw [r];rfl
  | H,(k,d)::kvs,ks,r=>by
    simp only [bU,qZ] at r;obtain ⟨x,v,r',rfl,⟨e,_⟩,t⟩:=r;rw [List.map_cons,List.map_cons,ls t,e]
theorem ju:∀ {ks:List (bu×V)} {ns:List Int},(ks.map fun k=>cS k.1)=ns.map PyData.int->ks.map (·.1)=ns.map Sum.inl
  | [],[],_=>rfl
  | [],_::_,h=>by cases h
  | _::_,[],h=>by cases h
  | (k,v)::ks,n::ns,h=>by
    rw [List.map_cons,List.map_cons] at h;injection h with h1 h2
    rw [List.map_cons,List.map_cons,ju h2];cases k with
    | inl i=>simp only [cS] at h1;cases h1;rfl
    | inr y=>simp only [cS] at h1;cases h1
theorem jJ (T:Tb X nl G) (j:Nat) (hG:G[j]?=some ("sorted" : Str)) (hm:X.mg "sorted" = none) (ha:Z.bS X a fa) (he:ax a=true:=by rfl):Z.g8 X (.Call (.Name "sorted" p) [a] [] pos) (e1 gj fa):=⟨have ha:=ha.un;by
  refine pd T j hG hm tR PyProof.Rows.boot_sorted (lW.or (lV T.calm)) (fun H x d Q hx q=>?_) ha he;cases d with
  | list ds =>
    simp only [gj] at q;cases ei:bh ds with
    | none=>rw [ei] at q;exact q.elim
    | some ns =>
      rw [ei] at q;dsimp only at q;by_cases h64:ns.length < 64
      · rw [if_pos h64] at q;obtain ⟨a',vs,rfl,h,r⟩:=bV (K:=X.K) hx;rw [bL ei] at r;rw [dD r] at h;exact .inl ⟨a',ns,rfl,h,h64,fun l hl=>q _ _ (bJ hl _) (dh hl (aI.ints _))⟩
      · rw [if_neg h64] at q;exact q.elim
  | dict kvs =>
    simp only [gj] at q;cases ei:bh (kvs.map (·.1)) with
    | none=>rw [ei] at q;exact q.elim
    | some ns =>
      rw [ei] at q;dsimp only at q;by_cases h64:ns.length < 64
      · rw [if_pos h64] at q;have hi:iA kvs=false:=by
          cases kvs with
          | nil=>rfl
          | cons kd kvs =>
            obtain ⟨k,d⟩:=kd;cases k <;> first | rfl | (simp [bh] at ei)
        obtain ⟨a',ks,rfl,h,r⟩:=il hi hx;have hk:=ju ((ls r).symm.trans (bL ei));exact .inr ⟨a',ks,ns,rfl,h,hk,h64,fun l hl=>q _ _ (bJ hl _) (dh hl (aI.ints _))⟩
      · rw [if_neg h64] at q;exact q.elim
  | _=>exact q.elim⟩
end
section
variable {X:Cx} {a b c:Expr} {fa fb fc:Fe} {pos p2:Pos} {nl:Nat} {G:List Str} {x:Str} {p:Pos}
theorem dG.change {Fm H:Hp} {σ:St} {ρ:ar} {i:Nat} {d d':PyData} {a:Addr} {u u':HO} (h:dG Fm H σ ρ) (h1:ρ[i]?=some (.own d)) (h2:σ[i]?=some (some (.ref a))) (hu:H a=some u) (hm:(∃ xs,u=.lst xs)\/∃ ks,u=.dK ks)
    (hr:fE (bP H a u') d' (.ref a)):dG Fm (bP H a u') σ (ρ.set i (.own d')):=by
  have hFa:=h.own i d a h1 h2;have kp:Kp H (bP H a u'):=fS hu hm;have at_i:∀ (j:Nat) (e:PyData),(ρ.set i (.own d'))[j]?=some (.own e)->∃ e0,ρ[j]?=some (.own e0):=fun j e q=>by
    rw [List.getElem?_set] at q;by_cases hij:i=j
    · subst hij;exact ⟨d,h1⟩
    · rw [if_neg hij] at q;exact ⟨e,q⟩
  refine ⟨fun b x e=>?_,⟨by rw [List.length_set];exact h.sl.1,fun j c w' e1 e2=>?_⟩,fun j e b e1 e2=>?_,fun j k e f b e1 e2 e3 e4=>?_⟩
  · rw [am (aq e hFa)];exact h.fm b x e
  · rw [List.getElem?_set] at e1;by_cases hij:i=j
    · subst hij;rw [if_pos rfl] at e1;split at e1
      · cases e1;rw [h2] at e2;cases e2;exact ⟨_,rfl,hr⟩
      · cases e1
    · rw [if_neg hij] at e1;have q:=h.sl.2 j c w' e1 e2;cases c with
      | exc p=>exact q
      | non=>exact True.intro
      | val d1=>obtain ⟨v,z1,z2⟩:=q;exact ⟨v,z1,Rp.kp kp _ _ z2⟩
      | own d1 =>
        obtain ⟨v,z1,z2⟩:=q;subst z1;obtain ⟨b,ob,rfl,hb⟩:=jY z2;have nb:b≠a:=fun z=>hij (by subst z;exact h.apart i j d d1 b h1 e1 h2 e2)
        refine ⟨_,rfl,?_⟩;cases d1 <;> simp only [fE] at z2 ⊢
        · obtain ⟨b',vs,e,hb',r⟩:=z2;cases e;exact ⟨b,vs,rfl,by rw [am nb];exact hb',aI.kp kp _ _ r⟩
        · obtain ⟨b',vs,e,hb',r⟩:=z2;cases e;exact ⟨b,vs,rfl,by rw [am nb];exact hb',bU.kp kp _ _ r⟩
  · obtain ⟨e0,q⟩:=at_i j e e1;exact h.own j e0 b q e2
  · obtain ⟨e0,q⟩:=at_i j e e1;obtain ⟨f0,q'⟩:=at_i k f e2;exact h.apart j k e0 f0 b q q' e3 e4
noncomputable def sB (i:Nat) (fk fv:Fe):Fs:=fun ρ=>fv ρ>>=fun v=>oq (fk ρ)>>=fun k=>match ρ[i]? with
  | some (.own (.dict kvs))=>match eF k with
    | some _=>if kvs.length < sizeLine then .ok (.nx (ρ.set i (.own (.dict (mo kvs k v))))) else .no
    | none=>.no
  | _=>.no
theorem n5 {k:PyData} {κ:bu} (h:eF k=some κ):k=cS κ:=by
  cases k <;> simp only [eF] at h <;> cases h <;> rfl
theorem uC {H:Hp} {κ:bu} {y:V} (h:Rp H (cS κ) y):y=kV κ:=by
  cases κ <;> simp only [cS,Rp] at h <;> exact h
theorem o2 {k v:Expr} {fk fv:Fe} {q1 q2 q3:Pos} (T:Tb X nl G) (n:Nat) (hN:X.N[n]?=some x) (hk:Z.bD X k fk) (hv:Z.bD X v fv) (hs:swapsWith v (some (.Subscript (.Name x q1) k q2)) q3.line X.env=pure false:=by rfl):Z.iQ X (.Assign [.Subscript (.Name x q1) k q2] v q3) (sB n fk fv):=⟨have hk:=hk.un;have hv:=hv.un;fun Fm=>by
  have hm:=T.vis x (List.mem_of_getElem? hN);refine PS.imp (sk (by have:=T.hu;omega) (j5 hN hm.1 hm.2.1 hm.2.2) hk hv hs) fun D σ H h=>?_
  refine (lU (P:=eJ) (f:=fv) (k:=fun ρ v=>oq (fk ρ)>>=fun k=>match ρ[n]? with
    | some (.own (.dict kvs))=>match eF k with
      | some _=>if kvs.length < sizeLine then .ok (.nx (ρ.set n (.own (.dict (mo kvs k v))))) else .no
      | none=>.no
    | _=>.no) h).post fun vv H1 ⟨ρ1,dv,sl1,_,p1,q1⟩=>?_
  have sl0:sY X Fm (fun ρ=>oq (fk ρ)>>=fun k=>match ρ[n]? with
    | some (.own (.dict kvs))=>match eF k with
      | some _=>if kvs.length < sizeLine then .ok (.nx (ρ.set n (.own (.dict (mo kvs k dv))))) else .no
      | none=>.no
    | _=>.no) D σ H1:=⟨ρ1,sl1,q1⟩
  cases e:ρ1[n]? with
  | none =>
    exfalso;rw [e] at q1;cases e2:fk ρ1 with
    | ok _=>rw [e2] at q1;exact q1
    | ex _=>rw [e2] at q1;exact q1
    | no=>rw [e2] at q1;exact q1
  | some c =>
    rw [e] at q1;cases c with
    | own d =>
      cases d with
      | dict kvs =>
        obtain ⟨o,h2,w',rfl,p2⟩:=sl1.sl.at e;simp only [fE] at p2;obtain ⟨a',ks,rfl,ha,r⟩:=p2;refine ⟨.ref a',h2,?_⟩;refine ⟨ρ1,sl1.sl,?_⟩;cases e2:fk ρ1 with
        | ex _=>rw [e2] at q1;exact q1.elim
        | no=>rw [e2] at q1;exact q1
        | ok kd =>
          rw [e2] at q1;simp only [oq,R.ok_bind] at q1;intro yv H3 s3 p3;cases e3:eF kd with
          | none=>rw [e3] at q1;exact q1.elim
          | some κ =>
            rw [e3] at q1;dsimp only at q1;by_cases hz:kvs.length < sizeLine
            · rw [if_pos hz] at q1;have ek:=n5 e3;subst ek;have ey:=uC p3;subst ey;have ha3:=s3 _ _ ha;have r3:bU H3 kvs ks:=bU.kp (Kp.of s3) _ _ r;refine ⟨a',_,rfl,lH.k ha3 (by rw [r3.length];exact hz),q1 _ _ ((sl1.mono s3).change e h2 ha3 (.inr ⟨_,rfl⟩) ?_)⟩;simp only [fE];exact ⟨a',_,rfl,aW,bU.kp (fS ha3 (.inr ⟨_,rfl⟩)) _ _ (bU.put κ (p1.mono s3) r3)⟩
            · rw [if_neg hz] at q1;exact q1.elim
      | _ =>
        exfalso;cases e2:fk ρ1 with
        | ok _=>rw [e2] at q1;exact q1
        | ex _=>rw [e2] at q1;exact q1
        | no=>rw [e2] at q1;exact q1
    | _ =>
      exfalso;cases e2:fk ρ1 with
      | ok _=>rw [e2] at q1;exact q1
      | ex _=>rw [e2] at q1;exact q1
      | no=>rw [e2] at q1;exact q1⟩
end
section
variable {prog:Program} {w:World} {A:Around} {E:Value->Shared->Prop} {s:Shared}
theorem mi {it t:Addr} {i:Nat} {items:Array Value} {x:Value} {Q:Value->Shared->Prop} (hit:s.heap.IsTupleIter it t i) (ht:s.heap.IsTuple t items) (hx:items[i]?=some x)
    (hQ:∀ h',h'.IsTupleIter it t (i+1)->Heap.SameBut it s.heap h'->Q x { s with heap:=h' }):wpAny (model prog w) A (Builtin.SmallTypes.nextOf (.ref it)) Q E s:=by
  obtain ⟨ob,hob,hcl,hdt⟩:=id hit;obtain ⟨ot,hot,_,nt,hdtt⟩:=ht;unfold Builtin.SmallTypes.nextOf;refine wpAny_bind (wpAny_callSpecial?_slot (name:=Str.ofString "__next__") hit.typeIs F.slot_tuple_iterator_next (wpAny_call_entry F.slot_tuple_iterator_next hit.typeIs F.entry_tuple_iterator_next ?_ (F.args_tuple_iterator_next_1 _)));show wpAny _ _ (field (Value.ref it) 0>>=_) _ _ s;refine wpAny_bind (wpAny_field hob hdt (x:=Value.ref t) rfl ?_);show wpAny _ _ (if (Value.ref t==Value.none)=true then _ else _) _ _ s;rw [if_neg (by intro z;cases z)];show wpAny _ _ (field (Value.ref it) 1>>=_) _ _ s;refine wpAny_bind (wpAny_field hob hdt (x:=Value.int i 0) rfl ?_);show wpAny _ _ (seqItems? (Value.ref t)>>=_) _ _ s;refine wpAny_bind (wpAny_seqItems hot hdtt ?_);simp only [hx,Int.toNat_natCast];refine wpAny_bind (wpAny_setField hob hdt (by simp) (wpAny_pure ⟨x,rfl,wpAny_pure (hQ _ ⟨_,Heap.get?_update_self _ hob (Obj.isFreed_of_fields (Obj.data_mapFields hdt _)),(Obj.cls_mapFields ..).trans hcl,?_⟩ (Heap.SameBut.update ..))⟩));rw [Obj.data_mapFields hdt];simp [rawInt]
theorem iD {it t:Addr} {i:Nat} {items:Array Value} {Q:Value->Shared->Prop} (hh:A.handled=none) (hit:s.heap.IsTupleIter it t i) (ht:s.heap.IsTuple t items) (hx:items[i]?=none)
    (hE:∀ h' e,Heap.ExtBut it s.heap h'->(∃ o,h'.get? e=some o/\o.cls=.type "StopIteration")->E (.ref e) { s with heap:=h' }):wpAny (model prog w) A (Builtin.SmallTypes.nextOf (.ref it)) Q E s:=by
  obtain ⟨ob,hob,hcl,hdt⟩:=id hit;obtain ⟨ot,hot,_,nt,hdtt⟩:=ht;unfold Builtin.SmallTypes.nextOf;refine wpAny_bind (wpAny_callSpecial?_slot (name:=Str.ofString "__next__") hit.typeIs F.slot_tuple_iterator_next (wpAny_call_entry F.slot_tuple_iterator_next hit.typeIs F.entry_tuple_iterator_next ?_ (F.args_tuple_iterator_next_1 _)));show wpAny _ _ (field (Value.ref it) 0>>=_) _ _ s;refine wpAny_bind (wpAny_field hob hdt (x:=Value.ref t) rfl ?_);show wpAny _ _ (if (Value.ref t==Value.none)=true then _ else _) _ _ s;rw [if_neg (by intro z;cases z)];show wpAny _ _ (field (Value.ref it) 1>>=_) _ _ s;refine wpAny_bind (wpAny_field hob hdt (x:=Value.int i 0) rfl ?_);show wpAny _ _ (seqItems? (Value.ref t)>>=_) _ _ s;refine wpAny_bind (wpAny_seqItems hot hdtt ?_);simp only [hx,Int.toNat_natCast];refine wpAny_bind (wpAny_rule (wpAny_bind (wpAny_setField hob hdt (by simp) ?_)));show wpAny _ _ (newExc (Value.type "StopIteration") []>>=_) _ _ _;refine wpAny_bind ?_;simp only [newTuple,newExc];refine wpAny_bind (wpAny_newObj_type ?_ (by size_fits));refine wpAny_bind (m:=firstArgMember _ _) (wpAny_of_eq (a:=Value.none) (by first | rfl | (simp only [firstArgMember];rfl)) ?_);refine wpAny_newObj_type ?_ (by size_fits);simp only [raiseNew];refine wpAny_bind (wpAny_handled ?_)
  first | rw [show A.in1.handled=none from hh] | rw [hh]
  exact wpAny_bind (wpAny_pure (wpAny_throw (hE _ _ (((Heap.SameBut.update ..).extBut.push _).push _) ⟨_,Heap.get?_push_size _ rfl,rfl⟩)))
end
noncomputable def hJ (h:Heap) (i l:Addr) (k:Nat) (xs:Array Value):Prop:=(h.IsListIter i l k/\h.IsList l xs)\/(h.IsTupleIter i l k/\h.IsTuple l xs)
section
variable {h h':Heap} {i l:Addr} {k:Nat} {xs:Array Value}
theorem hJ.keep (x:hJ h i l k xs) (hi:∀ o,h.get? i=some o->h'.get? i=some o) (hl:∀ o,h.get? l=some o->h'.get? l=some o):hJ h' i l k xs:=by
  rcases x with ⟨⟨o,e,r⟩,⟨o',e',r'⟩⟩ | ⟨⟨o,e,r⟩,⟨o',e',r'⟩⟩
  · exact .inl ⟨⟨o,hi _ e,r⟩,⟨o',hl _ e',r'⟩⟩
  · exact .inr ⟨⟨o,hi _ e,r⟩,⟨o',hl _ e',r'⟩⟩
theorem hJ.there (x:hJ h i l k xs):(∃ o,h.get? i=some o/\∀ v,o.data≠.cell v)/\∃ o,h.get? l=some o:=by
  rcases x with ⟨⟨o,e,c,d⟩,⟨o',e',r'⟩⟩ | ⟨⟨o,e,c,d⟩,⟨o',e',r'⟩⟩
  · exact ⟨⟨o,e,fun v z=>by rw [d] at z;cases z⟩,⟨o',e'⟩⟩
  · exact ⟨⟨o,e,fun v z=>by rw [d] at z;cases z⟩,⟨o',e'⟩⟩
end
section
variable {prog:Program} {w:World} {A:Around} {E:Value->Shared->Prop} {s:Shared} {i l:Addr} {k:Nat} {xs:Array Value}
theorem lj {x:Value} {Q:Value->Shared->Prop} (it:hJ s.heap i l k xs) (hne:l≠i) (hx:xs[k]?=some x) (hQ:∀ h',hJ h' i l (k+1) xs->Heap.SameBut i s.heap h'->Q x { s with heap:=h' }) :
    wpAny (model prog w) A (Builtin.SmallTypes.nextOf (.ref i)) Q E s:=by
  rcases it with ⟨h1,h2⟩ | ⟨h1,h2⟩
  · exact wpAny_nextOf_list_item h1 h2 hx fun h' a b=>hQ h' (.inl ⟨a,h2.extBut b.extBut hne⟩) b
  · exact mi h1 h2 hx fun h' a b=>hQ h' (.inr ⟨a,h2.extBut b.extBut hne⟩) b
theorem gG {Q:Value->Shared->Prop} (hh:A.handled=none) (it:hJ s.heap i l k xs) (hx:xs[k]?=none)
    (hE:∀ h' e,Heap.ExtBut i s.heap h'->(∃ o,h'.get? e=some o/\o.cls=.type "StopIteration")->E (.ref e) { s with heap:=h' }):wpAny (model prog w) A (Builtin.SmallTypes.nextOf (.ref i)) Q E s:=by
  rcases it with ⟨h1,h2⟩ | ⟨h1,h2⟩
  · exact wpAny_nextOf_list_end hh h1 h2 hx hE
  · exact iD hh h1 h2 hx hE
end
section
variable {X:Cx} {pins:List (Addr×Obj)} {σ:St} {H:Hp} {s:Shared} {h':Heap}
theorem gP {t':Nat} {fp:List Addr} (I:ap X pins σ H s) (k:∀ b o,b∉fp->s.heap.get? b=some o->h'.get? b=some o) (hf:∀ b∈fp,gV X pins H b):ap X pins σ H { s with heap:=h',toks:=t' }:=by
  have away:∀ b u,H b=some u->b∉fp:=fun b u e z=>by rw [(hf b z).1] at e;cases e
  have frame:X.env.locals∉fp:=fun z=>(hf _ z).2.1 rfl
  refine I.step (g':=s.gens) (d':=s.drawn) (ch:=fp) (fun b hb=>⟨(hf b hb).2.2.2.1,(hf b hb).2.1,(hf b hb).2.2.2.2.1,(hf b hb).2.2.2.2.2⟩) (fun b o _ _ hc e _=>k b o hc e) (fun b o _ _ hc e _=>⟨o.slots,k b o hc e⟩) (fun _ _ _ _ n=>n)
    (fun b o hc e=>⟨o,k b o hc e⟩) (fun _ _ e=>e) (fun _ _ _ e=>e) (fun _ _ e=>e) (fun m ⟨o,es,ep,ho,r⟩=>⟨o,es,ep,k _ o frame ho,r⟩) (fun b u e=>?_) I.bare
  refine (I.hok b u e).stay (fun c v hc q=>k c v ?_ q) (fun _ q=>q) fun _ _ q=>q
  rcases hc with z | z
  · rw [z];exact away b u e
  · exact away c _ z
theorem qu {h:Heap} {o o':Obj} {b:Addr} (hb:b≠h.objs.size) (e:(h.push o).get? b=some o'):h.get? b=some o':=by
  unfold Heap.get? Heap.push at e;unfold Heap.get?;simp only [Array.getElem?_push] at e;rw [if_neg hb] at e;exact e
end
noncomputable def kw (h:Heap) (i l:Addr) (k:Nat):Bool->Prop
  | true=>h.IsTupleIter i l k
  | false=>h.IsListIter i l k
theorem kw.keep {h h':Heap} {i l:Addr} {k:Nat} {b:Bool} (x:kw h i l k b) (hi:∀ o,h.get? i=some o->h'.get? i=some o):kw h' i l k b:=by
  cases b
  · obtain ⟨o,e,r⟩:=x;exact ⟨o,hi _ e,r⟩
  · obtain ⟨o,e,r⟩:=x;exact ⟨o,hi _ e,r⟩
theorem kw.there {h:Heap} {i l:Addr} {k:Nat} {b:Bool} (x:kw h i l k b):∃ o,h.get? i=some o/\∀ v,o.data≠.cell v:=by
  cases b
  · obtain ⟨o,e,c,d⟩:=x;exact ⟨o,e,fun v z=>by rw [d] at z;cases z⟩
  · obtain ⟨o,e,c,d⟩:=x;exact ⟨o,e,fun v z=>by rw [d] at z;cases z⟩
section
variable {X:Cx} {pins:List (Addr×Obj)} {σ:St} {H:Hp} {s:Shared}
theorem ma {h:Heap} {l:Addr} {xs ys:Array Value} (a:h.IsList l xs) (b:h.IsTuple l ys):False:=by
  obtain ⟨o,e,c,_⟩:=a;obtain ⟨o',e',c',_⟩:=b;rw [e] at e';cases e';rw [c] at c';injection c' with z
  exact absurd z (by decide)
end
noncomputable def wb (p:PyData×PyData):PyData:=.tuple [p.1,p.2]
noncomputable def wX (xs ys:List PyData):List PyData:=(xs.zip ys).map wb
section
variable {X:Cx} {elts:List Expr} {x1:Nat} {tp:Pos} {a b:Expr} {fa fb:Fe} {pos p:Pos} {nl:Nat} {G:List Str} {fs:ar->R (List PyData)}
noncomputable def yj (fa fb:Fe):ar->R (List PyData):=fun ρ=>fa ρ>>=fun x=>fb ρ>>=fun y=>iI x>>=fun xs=>iI y>>=fun ys=>.ok (wX xs ys)
end
open AutoSeq1 (wpAny_loadPart')
end D2
namespace D2
open PySem PySem.Spec PyProof.Rows L2
noncomputable def pG:Nat->List PyData->List PyData
  | _,[]=>[]
  | k,d::ds=>.tuple [.int k,d]::pG (k+1) ds
section
variable {X:Cx} {elts:List Expr} {x1:Nat} {tp:Pos} {a b:Expr} {fa fb:Fe} {pos p:Pos} {nl:Nat} {G:List Str} {fs:ar->R (List PyData)}
noncomputable def vI (fa:Fe):ar->R (List PyData):=fun ρ=>fa ρ>>=fun x=>iI x>>=fun xs=>.ok (pG 0 xs)
end
noncomputable abbrev cw (h:Heap) (T:Addr) (a b c:Value):Prop:=h.get? T=some { cls:=.type "tuple",data:=.seq #[a,b,c] }
structure Z3 (h:Heap) (N l m o:Nat) (f0:Value) (k:Nat) (xs ys zs:Array Value):Prop where
  zz:IsZip h (N+5) (N+3) (N+4) f0
  pp:cw h (N+3) (.ref N) (.ref (N+1)) (.ref (N+2))
  qq:∃ a b c,cw h (N+4) a b c
  ii:hJ h N l k xs
  jj:hJ h (N+1) m k ys
  kk:hJ h (N+2) o k zs
theorem iN (a b c:Value):checkTypeCall "zip" ⟨[a,b,c],[]⟩=pure ():=by kernel_rfl
theorem i5 (a b c:Value):checkBuiltinCall "zip.__new__" ⟨[.type "zip",a,b,c],[]⟩=pure ():=by kernel_rfl
theorem fL (a b c d:Value):argsOk "object.__init__" ⟨[a,b,c,d],[]⟩:=by unfold argsOk;kernel_rfl
section
variable {prog:Program} {w:World} {A:Around} {E:Value->Shared->Prop} {s:Shared} {N l m o:Nat} {k:Nat} {xs ys zs:Array Value}
theorem bY {T:Addr} {a b c x:Value} {k:Nat} {Q:Unit->Shared->Prop} (hT:cw s.heap T a b c)
    (h:∀ h',h'.get? T=some { cls:=.type "tuple",data:=.seq ((#[a,b,c]:Array Value).setIfInBounds k x) }->Heap.SameBut T s.heap h'->Q () { s with heap:=h' }) :
    wpAny (model prog w) A (updateSeq T (·.setIfInBounds k x)) Q E s:=by
  refine wpAny_updateSeq hT rfl (h _ ?_ (Heap.SameBut.update ..));rw [Heap.get?_update_self _ hT rfl];simp [Obj.mapSeq]
theorem oJ {x y v:Value} {Q:Value->Shared->Prop} (hl:l < N) (hm:m < N) (ho:o < N) (S:Z3 s.heap N l m o .none k xs ys zs) (hx:xs[k]?=some x) (hy:ys[k]?=some y) (hv:zs[k]?=some v)
    (hQ:∀ h',Z3 h' N l m o (rawInt s.heap.objs.size) (k+1) xs ys zs->cw h' s.heap.objs.size x y v->(∀ (c:Nat) o,c≠N+5->c≠N+4->c≠N->c≠N+1->c≠N+2->s.heap.get? c=some o->h'.get? c=some o)->Q (.ref s.heap.objs.size) { s with heap:=h' }) :
    wpAny (model prog w) A (Builtin.«zip.__next__» ⟨[.ref (N+5)],[]⟩) (fun fin s'=>∃ v,fin=.done (.ret v)/\Q v s') E s:=by
  obtain ⟨hz,hp,⟨a,b,c,hq⟩,hi,hj,hk⟩:=S;have n1:∀ {a b:Nat},a≠b->(show Addr from a)≠(show Addr from b):=fun h=>h
  show wpAny _ _ (field (Value.ref (N+5)) 2>>=_) _ _ _;refine wpAny_bind (wpAny_field hz rfl (x:=Value.bool false) rfl ?_);show wpAny _ _ (field (Value.ref (N+5)) 3>>=_) _ _ _;refine wpAny_bind (wpAny_field hz rfl (x:=Value.ref (N+3)) rfl ?_);refine wpAny_bind (wpAny_seqItems hp rfl ?_);show wpAny _ _ (Builtin.SmallTypes.ownedTupleIsFree (Value.ref (N+5))>>=_) _ _ _;refine wpAny_bind ?_;unfold Builtin.SmallTypes.ownedTupleIsFree;refine wpAny_bind (wpAny_field hz rfl (x:=Value.none) rfl (wpAny_pure ?_));simp only [if_true];refine wpAny_bind (wpAny_rule ?_);refine wpAny_bind (wpAny_field hz rfl (x:=Value.ref (N+4)) rfl ?_);refine wpAny_bind (wpAny_setField_rec hz (by simp) fun g1 z1 s1=>?_);replace z1:IsZip g1 (N+5) (N+3) (N+4) .ellipsis:=z1;refine wpAny_bind ?_;simp only [List.zipIdx_cons,List.zipIdx_nil,List.forIn_cons,List.forIn_nil];refine wpAny_bind (wpAny_bind (wpAny_onRaise ?_));show wpAny _ _ (Builtin.SmallTypes.nextOf (Value.ref N)>>=_) _ _ _;have hi1:hJ g1 N l k xs:=hi.keep (fun o e=>s1.extBut _ _ (n1 (by omega)) e) fun o e=>s1.extBut _ _ (n1 (by omega)) e
  refine wpAny_bind (lj hi1 (n1 (by omega)) hx fun g2 i2 s2=>wpAny_pure ?_);have q2:cw g2 (N+4) a b c:=s2.extBut _ _ (n1 (by omega)) (s1.extBut _ _ (n1 (by omega)) hq);refine wpAny_bind (wpAny_seqItems q2 rfl ?_);refine wpAny_bind (bY q2 fun g3 q3 s3=>?_);replace q3:cw g3 (N+4) x b c:=q3;refine wpAny_bind (wpAny_letGo (wpAny_pure ?_));refine wpAny_bind (wpAny_bind (wpAny_onRaise ?_));show wpAny _ _ (Builtin.SmallTypes.nextOf (Value.ref (N+1))>>=_) _ _ _;have hj3:hJ g3 (N+1) m k ys:=hj.keep (fun o e=>s3.extBut _ _ (n1 (by omega)) (s2.extBut _ _ (n1 (by omega)) (s1.extBut _ _ (n1 (by omega)) e))) fun o e=>s3.extBut _ _ (n1 (by omega)) (s2.extBut _ _ (n1 (by omega)) (s1.extBut _ _ (n1 (by omega)) e))
  refine wpAny_bind (lj hj3 (n1 (by omega)) hy fun g4 j4 s4=>wpAny_pure ?_);have q4:cw g4 (N+4) x b c:=s4.extBut _ _ (n1 (by omega)) q3;refine wpAny_bind (wpAny_seqItems q4 rfl ?_);refine wpAny_bind (bY q4 fun g5 q5 s5=>?_);replace q5:cw g5 (N+4) x y c:=q5;refine wpAny_bind (wpAny_letGo (wpAny_pure ?_));refine wpAny_bind (wpAny_bind (wpAny_onRaise ?_));show wpAny _ _ (Builtin.SmallTypes.nextOf (Value.ref (N+2))>>=_) _ _ _;have hk5:hJ g5 (N+2) o k zs:=hk.keep (fun o e=>s5.extBut _ _ (n1 (by omega)) (s4.extBut _ _ (n1 (by omega)) (s3.extBut _ _ (n1 (by omega)) (s2.extBut _ _ (n1 (by omega)) (s1.extBut _ _ (n1 (by omega)) e))))) fun o e=>s5.extBut _ _ (n1 (by omega)) (s4.extBut _ _ (n1 (by omega)) (s3.extBut _ _ (n1 (by omega)) (s2.extBut _ _ (n1 (by omega)) (s1.extBut _ _ (n1 (by omega)) e))))
  refine wpAny_bind (lj hk5 (n1 (by omega)) hv fun g6 k6 s6=>wpAny_pure ?_);have q6:cw g6 (N+4) x y c:=s6.extBut _ _ (n1 (by omega)) q5;refine wpAny_bind (wpAny_seqItems q6 rfl ?_);refine wpAny_bind (bY q6 fun g7 q7 s7=>?_);replace q7:cw g7 (N+4) x y v:=q7;refine wpAny_bind (wpAny_letGo (wpAny_pure (wpAny_pure ?_)));refine wpAny_bind (wpAny_seqItems q7 rfl ?_);refine wpAny_bind (wpAny_newTuple ?_);have hsz:g7.objs.size=s.heap.objs.size:=by rw [s7.1,s6.1,s5.1,s4.1,s3.1,s2.1,s1.1]
  have z7:IsZip g7 (N+5) (N+3) (N+4) .ellipsis:=s7.extBut _ _ (n1 (by omega)) (s6.extBut _ _ (n1 (by omega)) (s5.extBut _ _ (n1 (by omega)) (s4.extBut _ _ (n1 (by omega)) (s3.extBut _ _ (n1 (by omega)) (s2.extBut _ _ (n1 (by omega)) z1)))));have k7:∀ (c:Nat) o,c≠N+5->c≠N+4->c≠N->c≠N+1->c≠N+2->s.heap.get? c=some o->g7.get? c=some o:=fun c o c1 c2 c3 c4 c5 e=>s7.extBut _ _ (n1 c2) (s6.extBut _ _ (n1 c5) (s5.extBut _ _ (n1 c2) (s4.extBut _ _ (n1 c4) (s3.extBut _ _ (n1 c2) (s2.extBut _ _ (n1 c3) (s1.extBut _ _ (n1 c1) e))))))
  have i7:hJ g7 N l (k+1) xs:=i2.keep (fun o e=>s7.extBut _ _ (n1 (by omega)) (s6.extBut _ _ (n1 (by omega)) (s5.extBut _ _ (n1 (by omega)) (s4.extBut _ _ (n1 (by omega)) (s3.extBut _ _ (n1 (by omega)) e))))) fun o e=>s7.extBut _ _ (n1 (by omega)) (s6.extBut _ _ (n1 (by omega)) (s5.extBut _ _ (n1 (by omega)) (s4.extBut _ _ (n1 (by omega)) (s3.extBut _ _ (n1 (by omega)) e))))
  have j7:hJ g7 (N+1) m (k+1) ys:=j4.keep (fun o e=>s7.extBut _ _ (n1 (by omega)) (s6.extBut _ _ (n1 (by omega)) (s5.extBut _ _ (n1 (by omega)) e))) fun o e=>s7.extBut _ _ (n1 (by omega)) (s6.extBut _ _ (n1 (by omega)) (s5.extBut _ _ (n1 (by omega)) e))
  have l7:hJ g7 (N+2) o (k+1) zs:=k6.keep (fun o e=>s7.extBut _ _ (n1 (by omega)) e) fun o e=>s7.extBut _ _ (n1 (by omega)) e
  have zlt:N+5 < g7.objs.size:=Heap.lt_size z7;show wpAny _ _ (Builtin.SmallTypes.ownedTupleHandOut (Value.ref (N+5)) (Value.ref g7.objs.size)>>=_) _ _ _;refine wpAny_bind ?_;unfold Builtin.SmallTypes.ownedTupleHandOut;have z8:IsZip (g7.push { cls:=.type "tuple",data:=.seq #[x,y,v] }) (N+5) (N+3) (N+4) .ellipsis:=Heap.get?_push_of_some _ z7;refine wpAny_bind (wpAny_setField_rec z8 (by simp) fun g9 z9 s9=>?_);replace z9:IsZip g9 (N+5) (N+3) (N+4) (rawInt g7.objs.size):=z9;refine wpAny_setField_rec z9 (by simp) fun g10 z10 s10=>?_
  replace z10:IsZip g10 (N+5) (N+3) (N+4) (rawInt g7.objs.size):=z10;have up:∀ (c:Nat) o,c≠N+5->g7.get? c=some o->g10.get? c=some o:=fun c o c1 e=>s10.extBut _ _ (n1 c1) (s9.extBut _ _ (n1 c1) (Heap.get?_push_of_some _ e))
  have t10:cw g10 g7.objs.size x y v:=s10.extBut _ _ (Nat.ne_of_gt zlt) (s9.extBut _ _ (Nat.ne_of_gt zlt) (Heap.get?_push_size _ rfl));rw [hsz] at z10 t10;refine wpAny_pure ⟨_,rfl,?_⟩;show Q (.ref g7.objs.size) _;rw [hsz];exact hQ g10 ⟨z10,up _ _ (by omega) (k7 _ _ (by omega) (by omega) (by omega) (by omega) (by omega) hp),⟨x,y,v,up _ _ (by omega) q7⟩,i7.keep (fun o e=>up _ _ (by omega) e) fun o e=>up _ _ (by omega) e,j7.keep (fun o e=>up _ _ (by omega) e) fun o e=>up _ _ (by omega) e,
    l7.keep (fun o e=>up _ _ (by omega) e) fun o e=>up _ _ (by omega) e⟩ t10 fun c o c1 c2 c3 c4 c5 e=>up c o c1 (k7 c o c1 c2 c3 c4 c5 e)
theorem qP {Q:PySem.Fin->Shared->Prop} (hh:A.handled=none) (hl:l < N) (hm:m < N) (ho:o < N) (S:Z3 s.heap N l m o .none k xs ys zs) (hend:xs[k]?=none\/ys[k]?=none\/zs[k]?=none)
    (hE:∀ h' e,(∀ (c:Nat) o,c≠N+5->c≠N+4->c≠N->c≠N+1->c≠N+2->s.heap.get? c=some o->h'.get? c=some o)->(∃ o,h'.get? e=some o/\o.cls=.type "StopIteration")->E (.ref e) { s with heap:=h' }) :
    wpAny (model prog w) A (Builtin.«zip.__next__» ⟨[.ref (N+5)],[]⟩) Q E s:=by
  obtain ⟨hz,hp,⟨a,b,c,hq⟩,hi,hj,hk⟩:=S;have n1:∀ {a b:Nat},a≠b->(show Addr from a)≠(show Addr from b):=fun h=>h
  show wpAny _ _ (field (Value.ref (N+5)) 2>>=_) _ _ _;refine wpAny_bind (wpAny_field hz rfl (x:=Value.bool false) rfl ?_);show wpAny _ _ (field (Value.ref (N+5)) 3>>=_) _ _ _;refine wpAny_bind (wpAny_field hz rfl (x:=Value.ref (N+3)) rfl ?_);refine wpAny_bind (wpAny_seqItems hp rfl ?_);show wpAny _ _ (Builtin.SmallTypes.ownedTupleIsFree (Value.ref (N+5))>>=_) _ _ _;refine wpAny_bind ?_;unfold Builtin.SmallTypes.ownedTupleIsFree;refine wpAny_bind (wpAny_field hz rfl (x:=Value.none) rfl (wpAny_pure ?_));simp only [if_true];refine wpAny_bind (wpAny_rule ?_);refine wpAny_bind (wpAny_field hz rfl (x:=Value.ref (N+4)) rfl ?_);refine wpAny_bind (wpAny_setField_rec hz (by simp) fun g1 z1 s1=>?_);replace z1:IsZip g1 (N+5) (N+3) (N+4) .ellipsis:=z1;refine wpAny_bind ?_;simp only [List.zipIdx_cons,List.zipIdx_nil,List.forIn_cons,List.forIn_nil];refine wpAny_bind (wpAny_bind (wpAny_onRaise ?_));show wpAny _ _ (Builtin.SmallTypes.nextOf (Value.ref N)>>=_) _ _ _;have hi1:hJ g1 N l k xs:=hi.keep (fun o e=>s1.extBut _ _ (n1 (by omega)) e) fun o e=>s1.extBut _ _ (n1 (by omega)) e
  cases hx:xs[k]? with
  | none =>
    refine wpAny_bind (gG hh hi1 hx fun g2 e s2 he=>?_);obtain ⟨oe,hoe,hce⟩:=he;have z2:IsZip g2 (N+5) (N+3) (N+4) .ellipsis:=s2 _ _ (n1 (by omega)) z1;have hez:e≠(N+5:Nat):=fun t=>by subst t;rw [z2] at hoe;cases hoe;simp at hce
    exact wpAny_setField_rec z2 (by simp) fun g3 _ s3=>hE g3 e (fun c o c1 _ c3 _ _ t=>s3.extBut _ _ (n1 c1) (s2 _ _ (n1 c3) (s1.extBut _ _ (n1 c1) t))) ⟨oe,s3.extBut _ _ hez hoe,hce⟩
  | some x =>
    refine wpAny_bind (lj hi1 (n1 (by omega)) hx fun g2 i2 s2=>wpAny_pure ?_);have q2:cw g2 (N+4) a b c:=s2.extBut _ _ (n1 (by omega)) (s1.extBut _ _ (n1 (by omega)) hq);refine wpAny_bind (wpAny_seqItems q2 rfl ?_);refine wpAny_bind (bY q2 fun g3 q3 s3=>?_);replace q3:cw g3 (N+4) x b c:=q3;refine wpAny_bind (wpAny_letGo (wpAny_pure ?_));refine wpAny_bind (wpAny_bind (wpAny_onRaise ?_));show wpAny _ _ (Builtin.SmallTypes.nextOf (Value.ref (N+1))>>=_) _ _ _;have hj3:hJ g3 (N+1) m k ys:=hj.keep (fun o e=>s3.extBut _ _ (n1 (by omega)) (s2.extBut _ _ (n1 (by omega)) (s1.extBut _ _ (n1 (by omega)) e))) fun o e=>s3.extBut _ _ (n1 (by omega)) (s2.extBut _ _ (n1 (by omega)) (s1.extBut _ _ (n1 (by omega)) e))
    have z3:IsZip g3 (N+5) (N+3) (N+4) .ellipsis:=s3.extBut _ _ (n1 (by omega)) (s2.extBut _ _ (n1 (by omega)) z1);have k3:∀ (c:Nat) o,c≠N+5->c≠N+4->c≠N->s.heap.get? c=some o->g3.get? c=some o:=fun c o c1 c2 c3 t=>s3.extBut _ _ (n1 c2) (s2.extBut _ _ (n1 c3) (s1.extBut _ _ (n1 c1) t))
    cases hy:ys[k]? with
    | none =>
      refine wpAny_bind (gG hh hj3 hy fun g4 e s4 he=>?_);obtain ⟨oe,hoe,hce⟩:=he;have z4:IsZip g4 (N+5) (N+3) (N+4) .ellipsis:=s4 _ _ (n1 (by omega)) z3;have hez:e≠(N+5:Nat):=fun t=>by subst t;rw [z4] at hoe;cases hoe;simp at hce
      exact wpAny_setField_rec z4 (by simp) fun g5 _ s5=>hE g5 e (fun c o c1 c2 c3 c4 _ t=>s5.extBut _ _ (n1 c1) (s4 _ _ (n1 c4) (k3 c o c1 c2 c3 t))) ⟨oe,s5.extBut _ _ hez hoe,hce⟩
    | some y =>
      have hv:zs[k]?=none:=by
        rcases hend with t | t | t
        · rw [hx] at t;cases t
        · rw [hy] at t;cases t
        · exact t
      refine wpAny_bind (lj hj3 (n1 (by omega)) hy fun g4 j4 s4=>wpAny_pure ?_);have q4:cw g4 (N+4) x b c:=s4.extBut _ _ (n1 (by omega)) q3;refine wpAny_bind (wpAny_seqItems q4 rfl ?_);refine wpAny_bind (bY q4 fun g5 q5 s5=>?_);refine wpAny_bind (wpAny_letGo (wpAny_pure ?_));refine wpAny_bind (wpAny_bind (wpAny_onRaise ?_));show wpAny _ _ (Builtin.SmallTypes.nextOf (Value.ref (N+2))>>=_) _ _ _;have hk5:hJ g5 (N+2) o k zs:=hk.keep (fun o e=>s5.extBut _ _ (n1 (by omega)) (s4.extBut _ _ (n1 (by omega)) (k3 _ o (by omega) (by omega) (by omega) e))) fun o e=>s5.extBut _ _ (n1 (by omega)) (s4.extBut _ _ (n1 (by omega)) (k3 _ o (by omega) (by omega) (by omega) e))
      refine wpAny_bind (gG hh hk5 hv fun g6 e s6 he=>?_);obtain ⟨oe,hoe,hce⟩:=he;have z6:IsZip g6 (N+5) (N+3) (N+4) .ellipsis:=s6 _ _ (n1 (by omega)) (s5.extBut _ _ (n1 (by omega)) (s4.extBut _ _ (n1 (by omega)) z3));have hez:e≠(N+5:Nat):=fun t=>by subst t;rw [z6] at hoe;cases hoe;simp at hce
      exact wpAny_setField_rec z6 (by simp) fun g7 _ s7=>hE g7 e (fun c o c1 c2 c3 c4 c5 t=>s7.extBut _ _ (n1 c1) (s6 _ _ (n1 c5) (s5.extBut _ _ (n1 c2) (s4.extBut _ _ (n1 c4) (k3 c o c1 c2 c3 t))))) ⟨oe,s7.extBut _ _ hez hoe,hce⟩
theorem lF {x y v:Value} {Q:Option Value->Shared->Prop} (hl:l < N) (hm:m < N) (ho:o < N) (S:Z3 s.heap N l m o .none k xs ys zs) (hx:xs[k]?=some x) (hy:ys[k]?=some y) (hv:zs[k]?=some v)
    (hQ:∀ h',Z3 h' N l m o (rawInt s.heap.objs.size) (k+1) xs ys zs->cw h' s.heap.objs.size x y v->(∀ (c:Nat) o,c≠N+5->c≠N+4->c≠N->c≠N+1->c≠N+2->s.heap.get? c=some o->h'.get? c=some o)->Q (some (.ref s.heap.objs.size)) { s with heap:=h' }) :
    wpAny (model prog w) A (pyNext (.ref (N+5))) Q E s:=by
  have hT:s.TypeIs (.ref (N+5)) "zip" := ⟨_,S.zz,rfl⟩
  unfold pyNext;exact wpAny_bind (wpAny_attempt (wpAny_callSpecial?_slot (name:=Str.ofString "__next__") hT F.slot_zip_next (wpAny_call_entry F.slot_zip_next hT F.entry_zip_next (oJ hl hm ho S hx hy hv fun h' a b c=>wpAny_pure (hQ h' a b c)) (F.args_zip_next_1 _))))
theorem mz {Q:Option Value->Shared->Prop} (hh:A.handled=none) (hl:l < N) (hm:m < N) (ho:o < N) (S:Z3 s.heap N l m o .none k xs ys zs) (hend:xs[k]?=none\/ys[k]?=none\/zs[k]?=none)
    (hQ:∀ h',(∀ (c:Nat) o,c≠N+5->c≠N+4->c≠N->c≠N+1->c≠N+2->s.heap.get? c=some o->h'.get? c=some o)->Q none { s with heap:=h' }):wpAny (model prog w) A (pyNext (.ref (N+5))) Q E s:=by
  have hT:s.TypeIs (.ref (N+5)) "zip" := ⟨_,S.zz,rfl⟩
  unfold pyNext;refine wpAny_bind (wpAny_attempt (wpAny_callSpecial?_slot (name:=Str.ofString "__next__") hT F.slot_zip_next (wpAny_call_entry F.slot_zip_next hT F.entry_zip_next (qP hh hl hm ho S hend fun h' e hk he=>?_) (F.args_zip_next_1 _))));obtain ⟨o,ho,hc⟩:=he;exact wpAny_bind (wpAny_isInstance (T := "StopIteration") (b:=true) ⟨o,ho,hc⟩ isSubtype_stop (wpAny_pure (hQ _ hk)))
theorem qQ (l m o:Addr) (xs ys zs:Array Value):Meets (Builtin.«zip.__new__» ⟨[.type "zip",.ref l,.ref m,.ref o],[]⟩) (fun _ R s=>s.heap.IsTuple l xs/\s.heap.IsTuple m ys/\s.heap.IsTuple o zs /\
    ∀ h',h'.objs.size=s.heap.objs.size+6->Z3 h' s.heap.objs.size l m o .none 0 xs ys zs->(∀ c o,s.heap.get? c=some o->h'.get? c=some o) ->
      R (.ok (.ret (.ref (s.heap.objs.size+5)))) { s with heap:=h' }) :=
  .of_wp fun prog w A R s h=>by
    obtain ⟨hp,g,d,tk,os⟩:=s;obtain ⟨h1,h2,h3,h⟩:=h;have hsub:=sub_zip;have l1:Heap.IsTuple (Shared.heap ⟨hp,g,d,tk,os⟩) l xs:=h1;have l2:Heap.IsTuple (Shared.heap ⟨hp.push { cls:=.type "tuple_iterator",data:=.fields #[.ref l,.int 0 0] },g,d,tk,os⟩) m ys:=Heap.IsTuple.push h2 _;have l3:Heap.IsTuple (Shared.heap ⟨(hp.push { cls:=.type "tuple_iterator",data:=.fields #[.ref l,.int 0 0] }).push { cls:=.type "tuple_iterator",data:=.fields #[.ref m,.int 0 0] },g,d,tk,os⟩) o zs:=Heap.IsTuple.push (Heap.IsTuple.push h3 _) _;have fin:∀ (oi oj ok:Obj),hJ (hp.push oi) hp.objs.size l 0 xs->hJ ((hp.push oi).push oj) (hp.push oi).objs.size m 0 ys->hJ (((hp.push oi).push oj).push ok) ((hp.push oi).push oj).objs.size o 0 zs ->
        R (.ok (.ret (.ref (((((hp.push oi).push oj).push ok).push { cls:=.type "tuple",data:=.seq #[.ref hp.objs.size,.ref (hp.push oi).objs.size,.ref ((hp.push oi).push oj).objs.size] }).push { cls:=.type "tuple",data:=.seq #[.none,.none,.none] }).objs.size)))
          ⟨(((((hp.push oi).push oj).push ok).push { cls:=.type "tuple",data:=.seq #[.ref hp.objs.size,.ref (hp.push oi).objs.size,.ref ((hp.push oi).push oj).objs.size] }).push { cls:=.type "tuple",data:=.seq #[.none,.none,.none] }).push { cls:=.type "zip",data:=.fields #[.none,.bool false,.bool false,.ref (((hp.push oi).push oj).push ok).objs.size,.ref ((((hp.push oi).push oj).push ok).push { cls:=.type "tuple",data:=.seq #[.ref hp.objs.size,.ref (hp.push oi).objs.size,.ref ((hp.push oi).push oj).objs.size] }).objs.size] },g,d,tk,os⟩:=fun oi oj ok hi hj hk=>by
      have e1:(hp.push oi).objs.size=hp.objs.size+1:=Heap.size_push ..;have e2:((hp.push oi).push oj).objs.size=hp.objs.size+2:=by rw [Heap.size_push,e1]
      rw [e2] at hk ⊢;rw [e1] at hj ⊢;generalize hT:({ cls:=.type "tuple",data:=.seq #[.ref hp.objs.size,.ref (hp.objs.size+1),.ref (hp.objs.size+2)] }:Obj)=T;have e3:(((hp.push oi).push oj).push ok).objs.size=hp.objs.size+3:=by rw [Heap.size_push,e2]
      have e4:((((hp.push oi).push oj).push ok).push T).objs.size=hp.objs.size+4:=by rw [Heap.size_push,e3]
      have e5:(((((hp.push oi).push oj).push ok).push T).push { cls:=.type "tuple",data:=.seq #[.none,.none,.none] }).objs.size=hp.objs.size+5:=by rw [Heap.size_push,e4]
      rw [e5,e4,e3];have kk:∀ (c:Addr) (o' a b c':Obj),(((hp.push oi).push oj).push ok).get? c=some o'->((((((hp.push oi).push oj).push ok).push a).push b).push c').get? c=some o':=fun c o' a b c' e=>Heap.get?_push_of_some _ (Heap.get?_push_of_some _ (Heap.get?_push_of_some _ e))
      refine h _ (by rw [Heap.size_push,e5]) ⟨?_,?_,⟨.none,.none,.none,?_⟩,?_,?_,?_⟩ fun c o' e=>kk _ _ _ _ _ (Heap.get?_push_of_some _ (Heap.get?_push_of_some _ (Heap.get?_push_of_some _ e)))
      · show Heap.get? _ (hp.objs.size+5)=_;rw [<- e5];exact Heap.get?_push_size _ rfl
      · refine Heap.get?_push_of_some _ (Heap.get?_push_of_some _ ?_);show Heap.get? _ (hp.objs.size+3)=_;rw [<- e3,hT];exact Heap.get?_push_size _ (by rw [<- hT];rfl)
      · refine Heap.get?_push_of_some _ ?_;show Heap.get? _ (hp.objs.size+4)=_;rw [<- e4];exact Heap.get?_push_size _ rfl
      · exact hi.keep (fun o' e=>kk _ _ _ _ _ (Heap.get?_push_of_some _ (Heap.get?_push_of_some _ e))) fun o' e=>kk _ _ _ _ _ (Heap.get?_push_of_some _ (Heap.get?_push_of_some _ e))
      · exact hj.keep (fun o' e=>kk _ _ _ _ _ (Heap.get?_push_of_some _ e)) fun o' e=>kk _ _ _ _ _ (Heap.get?_push_of_some _ e)
      · exact hk.keep (fun o' e=>kk _ _ _ _ _ e) fun o' e=>kk _ _ _ _ _ e
    wp_walk using wpAny_pyIter_tuple l1,wpAny_pyIter_tuple l2,wpAny_pyIter_tuple l3
    exact ⟨_,rfl,fin _ _ _ (.inr ⟨⟨_,Heap.get?_push_size _ rfl,rfl,rfl⟩,Heap.IsTuple.push h1 _⟩) (.inr ⟨⟨_,Heap.get?_push_size _ rfl,rfl,rfl⟩,Heap.IsTuple.push l2 _⟩) (.inr ⟨⟨_,Heap.get?_push_size _ rfl,rfl,rfl⟩,Heap.IsTuple.push l3 _⟩)⟩
theorem nL {Q:Value->Shared->Prop} {l m o:Addr} (h1:s.heap.IsTuple l xs) (h2:s.heap.IsTuple m ys) (h3:s.heap.IsTuple o zs)
    (h:∀ h',h'.objs.size=s.heap.objs.size+6->Z3 h' s.heap.objs.size l m o .none 0 xs ys zs->(∀ c o,s.heap.get? c=some o->h'.get? c=some o)->Q (.ref (s.heap.objs.size+5)) { s with heap:=h' }):wpAny (model prog w) A (call (.type "zip") [.ref l,.ref m,.ref o]) Q E s:=by
  refine callType_new F.called_zip (by decide) (iN _ _ _) (i5 _ _ _) (fun obj=>fL obj _ _ _) F.entry_zip_new (qQ l m o xs ys zs) ⟨h1,h2,h3,fun h' e S k=>?_⟩;exact ⟨⟨_,S.zz,rfl⟩,h h' e S k⟩
end
section
variable {X:Cx} {pins:List (Addr×Obj)} {σ:St} {H:Hp} {s:Shared} {h':Heap}
theorem pT {t':Nat} {fp:List Addr} {u1 u2 u3:Value} {v1 v2 v3:V} (I:ap X pins σ H s) (hf:∀ b∈fp,gV X pins H b) (hob:∀ b∈fp,b < s.heap.objs.size) (ht:cw h' s.heap.objs.size u1 u2 u3) (k:∀ b o,b∉fp->s.heap.get? b=some o->h'.get? b=some o)
    (r1:aJ v1 u1) (r2:aJ v2 u2) (r3:aJ v3 u3):ap X pins σ (bP H s.heap.objs.size (.tup [v1,v2,v3])) { s with heap:=h',toks:=t' }:=by
  have I1:ap X pins σ (bP H s.heap.objs.size (.tup [v1,v2,v3])) { s with heap:=s.heap.push { cls:=.type "tuple",data:=.seq #[u1,u2,u3] },toks:=s.toks } :=
    I.laid (fun b u e=>Heap.get?_push_of_some _ e) (Nat.le_refl _) ⟨by show 3<=sizeLine;decide,[u1,u2,u3],.cons r1 (.cons r2 (.cons r3 .nil)),_,Heap.get?_push_size _ rfl,rfl,⟨_,rfl⟩,rfl⟩
  refine gP (fp:=fp) (s:={ s with heap:=s.heap.push { cls:=.type "tuple",data:=.seq #[u1,u2,u3] },toks:=s.toks }) I1 (fun b o hb e=>?_) fun b hb=>?_
  · by_cases hz:b=s.heap.objs.size
    · subst hz;have e':(s.heap.push { cls:=.type "tuple",data:=.seq #[u1,u2,u3] }).get? s.heap.objs.size=some o:=e;rw [Heap.get?_push_size _ rfl] at e';cases e';exact ht
    · exact k b o hb (qu hz e)
  · obtain ⟨f0,f1,f2,f3,f4,f5⟩:=hf b hb;exact ⟨by rw [am (Nat.ne_of_lt (hob b hb))];exact f0,f1,f2,f3,f4,f5⟩
end
noncomputable def tu (K:PySem.W.Frag) (l m o:Addr):It :=
  ⟨fun i H=>∃ xs ys zs x y z,cx K H l xs/\cx K H m ys/\cx K H o zs/\xs[i]?=some x/\ys[i]?=some y/\zs[i]?=some z,
   fun i H v H'=>∃ a x y z,H a=none/\v=.ref a/\H'=bP H a (.tup [x,y,z])/\(∀ xs,cx K H l xs->xs[i]?=some x)/\(∀ ys,cx K H m ys->ys[i]?=some y)/\∀ zs,cx K H o zs->zs[i]?=some z,
   fun i H=>∃ xs ys zs,cx K H l xs/\cx K H m ys/\cx K H o zs/\(xs.length<=i\/ys.length<=i\/zs.length<=i)⟩
structure xH (N l m o:Nat) (k:Nat) (h:Heap):Prop where
  zz:IsZip h (N+5) (N+3) (N+4) .none
  pp:cw h (N+3) (.ref N) (.ref (N+1)) (.ref (N+2))
  qq:∃ a b c,cw h (N+4) a b c
  ii:h.IsTupleIter N l k
  jj:h.IsTupleIter (N+1) m k
  kk:h.IsTupleIter (N+2) o k
theorem cE {h:Heap} {i l:Addr} {k:Nat} {xs ys:Array Value} (x:hJ h i l k xs) (t:h.IsTuple l ys):h.IsTupleIter i l k:=by
  rcases x with ⟨z,w⟩ | ⟨z,w⟩
  · exact (ma w t).elim
  · exact z
theorem bO {h h':Heap} {i l:Addr} {k:Nat} (x:h.IsTupleIter i l k) (hi:∀ o,h.get? i=some o->h'.get? i=some o):h'.IsTupleIter i l k:=by
  obtain ⟨o,e,r⟩:=x;exact ⟨o,hi _ e,r⟩
theorem dw {h:Heap} {i l:Addr} {k:Nat} (x:h.IsTupleIter i l k):∃ o,h.get? i=some o/\∀ v,o.data≠.cell v:=by
  obtain ⟨o,e,c,d⟩:=x;exact ⟨o,e,fun v z=>by rw [d] at z;cases z⟩
noncomputable abbrev qS (N:Nat):List Addr:=[N+5,N+3,N+4,N,N+1,N+2]
theorem oI {P:Program} {w:World} {K:PySem.W.Frag} {elts:List Expr} {x1} {pos:Pos} {N l m o:Nat} (hl:l < N) (hm:m < N) (ho:o < N):nu P w K (.Tuple elts x1 pos) (tu K l m o) (qS N) (N+5) (xH N l m o) where
  mem:=by simp
  obj:=fun k h st a ha=>by
    simp only [qS,List.mem_cons,List.not_mem_nil,or_false] at ha;rcases ha with rfl | rfl | rfl | rfl | rfl | rfl
    · exact ⟨_,st.zz,fun v e=>by cases e⟩
    · exact ⟨_,st.pp,fun v e=>by cases e⟩
    · obtain ⟨_,_,_,e⟩:=st.qq;exact ⟨_,e,fun v e=>by cases e⟩
    · exact dw st.ii
    · exact dw st.jj
    · exact dw st.kk
  keep:=fun k h h' st kp=>⟨kp (N+5) (by simp) _ st.zz,kp (N+3) (by simp) _ st.pp,let ⟨a,b,c,e⟩:=st.qq;⟨a,b,c,kp (N+4) (by simp) _ e⟩,bO st.ii fun o e=>kp N (by simp) o e,bO st.jj fun o e=>kp (N+1) (by simp) o e,bO st.kk fun o e=>kp (N+2) (by simp) o e⟩
  item:=by
    intro X hP hw hK hc k pins s σ H E I hf st hg;subst hP hw hK;obtain ⟨xs,ys,zs,x,y,z,h1,h2,h3,hx,hy,hz⟩:=hg;obtain ⟨its,rv,t1,_⟩:=I.tuple h1;obtain ⟨jts,rw',t2,_⟩:=I.tuple h2;obtain ⟨kts,rz',t3,_⟩:=I.tuple h3;obtain ⟨u,hu,ru⟩:=rv.get hx;obtain ⟨v,hv,ry⟩:=rw'.get hy;obtain ⟨q,hq,rq⟩:=rz'.get hz;have S:Z3 s.heap N l m o .none k its.toArray jts.toArray kts.toArray:=⟨st.zz,st.pp,st.qq,.inr ⟨st.ii,t1⟩,.inr ⟨st.jj,t2⟩,.inr ⟨st.kk,t3⟩⟩
    refine lF hl hm ho S (x:=u) (y:=v) (v:=q) (by simpa using hu) (by simpa using hv) (by simpa using hq) fun h' S' hp kp=>⟨_,rfl,?_⟩
    have zlt:N+5 < s.heap.objs.size:=Heap.lt_size st.zz;refine wpAny_letOwnedTupleGo_zip (s:={ s with heap:=h' }) S'.zz fun h2' hz2 sb=>?_
    have up:∀ (a:Nat) o,a≠N+5->h'.get? a=some o->h2'.get? a=some o:=fun a o ha e=>sb.extBut a o ha e
    have hob:∀ a∈qS N,a < s.heap.objs.size:=fun a ha=>by
      have:∃ j:Nat,a=N+j/\j<=5:=by
        simp only [qS,List.mem_cons,List.not_mem_nil,or_false] at ha;rcases ha with rfl | rfl | rfl | rfl | rfl | rfl
        · exact ⟨5,rfl,by omega⟩
        · exact ⟨3,rfl,by omega⟩
        · exact ⟨4,rfl,by omega⟩
        · exact ⟨0,rfl,by omega⟩
        · exact ⟨1,rfl,by omega⟩
        · exact ⟨2,rfl,by omega⟩
      obtain ⟨j,rfl,hj⟩:=this;exact Nat.lt_of_le_of_lt (Nat.add_le_add_left hj N) zlt
    have hn:H s.heap.objs.size=none:=I.hok.fresh (Nat.le_refl _);have kq:∀ (a:Nat) o,a < N->s.heap.get? a=some o->h'.get? a=some o:=fun a o ha e=>kp a o (by omega) (by omega) (by omega) (by omega) (by omega) e
    refine ⟨.ref s.heap.objs.size,_,pT (s:=s) (t':=s.toks) (fp:=qS N) (h':=h2') (u1:=u) (u2:=v) (u3:=q) (v1:=x) (v2:=y) (v3:=z) I hf hob (up _ _ (Nat.ne_of_gt zlt) hp) (fun a o ha e=>?_) ru ry rq,rfl,⟨_,x,y,z,hn,rfl,rfl,fun zs hz=>by rw [I.tuple_inj hz h1];exact hx,fun zs hz=>by rw [I.tuple_inj hz h2];exact hy,fun zs hz'=>by rw [I.tuple_inj hz' h3];exact hz⟩,?_,fun a ha=>?_⟩
    · simp only [qS,List.mem_cons,List.not_mem_nil,or_false,not_or] at ha;exact up a o ha.1 (kp a o ha.1 ha.2.2.1 ha.2.2.2.1 ha.2.2.2.2.1 ha.2.2.2.2.2 e)
    · have i2:h'.IsTupleIter N l (k+1):=cE S'.ii (ys:=its.toArray) (by obtain ⟨o,e,r⟩:=t1;exact ⟨o,kq _ _ hl e,r⟩);have j2:h'.IsTupleIter (N+1) m (k+1):=cE S'.jj (ys:=jts.toArray) (by obtain ⟨o,e,r⟩:=t2;exact ⟨o,kq _ _ hm e,r⟩);have k2:h'.IsTupleIter (N+2) o (k+1):=cE S'.kk (ys:=kts.toArray) (by obtain ⟨o,e,r⟩:=t3;exact ⟨o,kq _ _ ho e,r⟩);exact ⟨hz2,up _ _ (by omega) S'.pp,let ⟨a,b,c,e⟩:=S'.qq;⟨a,b,c,up _ _ (by omega) e⟩,bO i2 fun o e=>up _ _ (by omega) e,bO j2 fun o e=>up _ _ (by omega) e,bO k2 fun o e=>up _ _ (by omega) e⟩
    · rw [am (Nat.ne_of_lt (hob a ha))];exact (hf a ha).1
  done:=by
    intro X hP hw hK hc k pins s σ H E I hf st hg;subst hP hw hK;obtain ⟨xs,ys,zs,h1,h2,h3,hle⟩:=hg;obtain ⟨its,rv,t1,_⟩:=I.tuple h1;obtain ⟨jts,rw',t2,_⟩:=I.tuple h2;obtain ⟨kts,rz',t3,_⟩:=I.tuple h3;have S:Z3 s.heap N l m o .none k its.toArray jts.toArray kts.toArray:=⟨st.zz,st.pp,st.qq,.inr ⟨st.ii,t1⟩,.inr ⟨st.jj,t2⟩,.inr ⟨st.kk,t3⟩⟩
    have e1:=rv.length;have e2:=rw'.length;have e3:=rz'.length;refine mz (I.ok.hd hc) hl hm ho S ?_ fun h' kp=>⟨rfl,gP (t':=s.toks) (fp:=qS N) I (fun a o ha e=>?_) hf⟩
    · rcases hle with z | z | z
      · left;simp;omega
      · right;left;simp;omega
      · right;right;simp;omega
    · simp only [qS,List.mem_cons,List.not_mem_nil,or_false,not_or] at ha;exact kp a o ha.1 ha.2.2.1 ha.2.2.2.1 ha.2.2.2.2.1 ha.2.2.2.2.2 e
  self:=fun _ _ _ _ _ st h=>wpAny_pyIter_zip st.zz h
noncomputable def cM:List PyData->List PyData->List PyData->List PyData
  | x::xs,y::ys,z::zs=>.tuple [x,y,z]::cM xs ys zs
  | _,_,_=>[]
theorem jC:∀ {xs ys zs:List PyData} {i:Nat} {d:PyData},(cM xs ys zs)[i]?=some d->∃ x y z,xs[i]?=some x/\ys[i]?=some y/\zs[i]?=some z/\d=.tuple [x,y,z]
  | x::xs,y::ys,z::zs,0,d,h=>by
    simp only [cM,List.getElem?_cons_zero] at h;cases h;exact ⟨x,y,z,rfl,rfl,rfl,rfl⟩
  | x::xs,y::ys,z::zs,i+1,d,h=>by
    simp only [cM,List.getElem?_cons_succ] at h;obtain ⟨a,b,c,h1,h2,h3,h4⟩:=jC h;exact ⟨a,b,c,by simpa using h1,by simpa using h2,by simpa using h3,h4⟩
  | [],_,_,i,d,h=>by simp [cM] at h
  | _::_,[],_,i,d,h=>by simp [cM] at h
  | _::_,_::_,[],i,d,h=>by simp [cM] at h
theorem gL:∀ (xs ys zs:List PyData),(cM xs ys zs).length=min xs.length (min ys.length zs.length)
  | x::xs,y::ys,z::zs=>by simp only [cM,List.length_cons,gL xs ys zs];omega
  | [],_,_=>by simp [cM]
  | _::_,[],_=>by simp [cM]
  | _::_,_::_,[]=>by simp [cM]
noncomputable def lO (H:Hp) (a:Addr) (ds:List PyData):Prop:=∃ vs,H a=some (.tup vs)/\aI H ds vs
theorem lO.kp {H H':Hp} {a:Addr} {ds:List PyData} (h:lO H a ds) (k:Kp H H'):lO H' a ds:=by
  obtain ⟨vs,e,r⟩:=h;exact ⟨vs,k.1 _ _ e,aI.kp k _ _ r⟩
theorem pV {K:PySem.W.Frag} {l m o:Addr} {xs ys zs:List PyData}:sK (tu K l m o) (fun H=>lO H l xs/\lO H m ys/\lO H o zs) (cM xs ys zs) where
  go:=fun i H ⟨⟨vs,e1,r1⟩,⟨us,e2,r2⟩,⟨ws,e3,r3⟩⟩ hi=>by
    rw [gL] at hi;obtain ⟨x,hx,_⟩:=r1.get (List.getElem?_eq_getElem (show i < xs.length by omega));obtain ⟨y,hy,_⟩:=r2.get (List.getElem?_eq_getElem (show i < ys.length by omega));obtain ⟨z,hz,_⟩:=r3.get (List.getElem?_eq_getElem (show i < zs.length by omega));exact ⟨vs,us,ws,x,y,z,cx.of e1,cx.of e2,cx.of e3,hx,hy,hz⟩
  yld:=fun i H v H' d ⟨⟨vs,e1,r1⟩,⟨us,e2,r2⟩,⟨ws,e3,r3⟩⟩ hd h=>by
    obtain ⟨a,x,y,z,ha,rfl,rfl,k1,k2,k3⟩:=h;obtain ⟨dx,dy,dz,g1,g2,g3,rfl⟩:=jC hd;obtain ⟨x',hx,px⟩:=r1.get g1;obtain ⟨y',hy,py⟩:=r2.get g2;obtain ⟨z',hz,pz⟩:=r3.get g3;have q1:=k1 vs (cx.of e1);have q2:=k2 us (cx.of e2);have q3:=k3 ws (cx.of e3);rw [hx] at q1;rw [hy] at q2;rw [hz] at q3;cases q1;cases q2;cases q3;exact ⟨bJ ha _,df ha (aI.cons px (aI.cons py (aI.cons pz aI.nil)))⟩
  stop:=fun i H ⟨⟨vs,e1,r1⟩,⟨us,e2,r2⟩,⟨ws,e3,r3⟩⟩ hi=>by
    rw [gL] at hi;have l1:=r1.length;have l2:=r2.length;have l3:=r3.length;exact ⟨vs,us,ws,cx.of e1,cx.of e2,cx.of e3,by omega⟩
theorem uY {a b c:V} {us:List Value} (r:aF [a,b,c] us):∃ u v w,us=[u,v,w]/\aJ a u/\aJ b v/\aJ c w:=by
  cases r with
  | cons r1 r =>
    cases r with
    | cons r2 r =>
      cases r with
      | cons r3 r =>
        cases r;exact ⟨_,_,_,rfl,r1,r2,r3⟩
section
variable {X:Cx} {elts:List Expr} {x1:Nat} {tp:Pos} {a b c:Expr} {fa fb fc:Fe} {pos p:Pos} {nl:Nat} {G:List Str} {fs:ar->R (List PyData)}
noncomputable def yk (K:PySem.W.Frag) (ta:TA):TI:=fun σ H R=>ta σ H fun vs H1=>∃ l m o xs ys zs,vs=[.ref l,.ref m,.ref o]/\cx K H1 l xs/\cx K H1 m ys/\cx K H1 o zs/\R (tu K l m o) H1
theorem sj {ta:TA} (hg:Gl X "zip") (hm:X.mg "zip" = none) (ha:PA X [a,b,c] ta) (hs:starEach [a,b,c] X.env=(false,eval a X.env)::starEach [b,c] X.env) (hs2:(backTo pos (starEach [b,c] X.env)).any (·.1)=false) :
    PI X (.Tuple elts x1 tp) (.Call (.Name "zip" p) [a,b,c] [] pos) (yk X.K ta):=by
  intro pins s σ H R I h;refine Call_ (gE I hg hm boot_zip (PyProof.Rows.callWith_type1 (bX (ha pos pins s σ H _ I h) fun us s1 zq0=>?_) hs hs2));obtain ⟨vs,H1,I1,r1,q1⟩:=zq0;obtain ⟨l,m,o,xs,ys,zs,e,h1,h2,h3,q⟩:=q1;subst e;obtain ⟨u,v,w,rfl,ru,rv,rw'⟩:=uY r1;cases ru;cases rv;cases rw';obtain ⟨its,w1,p1,g1⟩:=I1.tuple h1;obtain ⟨jts,w2,p2,g2⟩:=I1.tuple h2;obtain ⟨kts,w3,p3,g3⟩:=I1.tuple h3;have ll:l < s1.heap.objs.size:=by obtain ⟨o,e,_⟩:=p1;exact Heap.lt_size e
  have lm:m < s1.heap.objs.size:=by obtain ⟨o,e,_⟩:=p2;exact Heap.lt_size e
  have lo:o < s1.heap.objs.size:=by obtain ⟨o,e,_⟩:=p3;exact Heap.lt_size e
  refine nL p1 p2 p3 fun h' hz S kp=>wpAny_pyIter_zip S.zz ?_
  have I2:ap X pins σ H1 { s1 with heap:=h' }:=I1.kept (t':=s1.toks) kp;have kt:∀ {l:Addr} {xs:Array Value},s1.heap.IsTuple l xs->h'.IsTuple l xs:=fun ⟨o,e,r⟩=>⟨o,kp _ _ e,r⟩
  refine ⟨_,qS s1.heap.objs.size,_,_,H1,rfl,I2,oI ll lm lo,⟨S.zz,S.pp,S.qq,cE S.ii (kt p1),cE S.jj (kt p2),cE S.kk (kt p3)⟩,fun a ha=>?_,q⟩;have hle:s1.heap.objs.size<=a:=by
    simp only [qS,List.mem_cons,List.not_mem_nil,or_false] at ha;rcases ha with rfl | rfl | rfl | rfl | rfl | rfl
    · exact Nat.le_add_right _ 5
    · exact Nat.le_add_right _ 3
    · exact Nat.le_add_right _ 4
    · exact Nat.le_refl _
    · exact Nat.le_add_right _ 1
    · exact Nat.le_add_right _ 2
  exact I1.fpOk hle (I1.hok.fresh hle)
noncomputable def gZ:PyData->R (List PyData)
  | .tuple ds=>.ok ds
  | _=>.no
noncomputable def mT (fa fb fc:Fe):ar->R (List PyData):=fun ρ=>fa ρ>>=fun x=>fb ρ>>=fun y=>fc ρ>>=fun z=>gZ x>>=fun xs=>gZ y>>=fun ys=>gZ z>>=fun zs=>.ok (cM xs ys zs)
theorem kb {H:Hp} {d:PyData} {v:V} {ds:List PyData} (h:Rp H d v) (e:gZ d=.ok ds):∃ a,v=.ref a/\lO H a ds:=by
  cases d with
  | tuple xs =>
    cases e;simp only [Rp] at h;obtain ⟨a,vs,rfl,h,r⟩:=h;exact ⟨a,rfl,vs,h,r⟩
  | _=>cases e
theorem kg {d:PyData} {c:Str} (e:gZ d=.ex c):False:=by cases d <;> cases e
theorem nv (T:Tb X nl G) (j:Nat) (hG:G[j]?=some ("zip" : Str)) (hm:X.mg "zip" = none) (ha:Z.bD X a fa) (hb:Z.bD X b fb) (hc:Z.bD X c fc) (h1:ax a=true:=by rfl) (h2:ax b=true:=by rfl) (h3:ax c=true:=by rfl):Z.mE X (.Tuple elts x1 tp) (.Call (.Name "zip" p) [a,b,c] [] pos) (mT fa fb fc):=⟨have ha:=ha.un;have hb:=hb.un;have hc:=hc.un;by
  have g:=T.gl _ (List.mem_of_getElem? hG);refine PI.imp (sj g.1 hm (ft ha (ft hb (ft hc jS h3) h2) h1) (aL h1) (by rw [aL h2,aL h3];rfl)) fun σ H Rk h=>?_
  obtain ⟨ρ,sl,q⟩:=h;unfold mT at q;refine ⟨ρ,sl,?_⟩;unfold ak be;cases e1:fa ρ with
  | ex c=>rw [e1] at q;exact q
  | no=>rw [e1] at q;exact q
  | ok x =>
    rw [e1] at q;simp only [R.ok_bind] at q ⊢;cases e2:fb ρ with
    | ex c=>rw [e2] at q;exact q
    | no=>rw [e2] at q;exact q
    | ok y =>
      rw [e2] at q;simp only [R.ok_bind] at q ⊢;cases e3:fc ρ with
      | ex c=>rw [e3] at q;exact q
      | no=>rw [e3] at q;exact q
      | ok z =>
        rw [e3] at q;simp only [R.ok_bind] at q ⊢;cases g1:gZ x with
        | ex c=>exact (kg g1).elim
        | no=>rw [g1] at q;exact q.elim
        | ok xs =>
          rw [g1] at q;simp only [R.ok_bind] at q;cases g2:gZ y with
          | ex c=>exact (kg g2).elim
          | no=>rw [g2] at q;exact q.elim
          | ok ys =>
            rw [g2] at q;simp only [R.ok_bind] at q;cases g3:gZ z with
            | ex c=>exact (kg g3).elim
            | no=>rw [g3] at q;exact q.elim
            | ok zs =>
              rw [g3] at q;simp only [R.ok_bind] at q;intro vs H1 s1 ra;simp only [RA] at ra;obtain ⟨v,r',rfl,p1,v',r'',rfl,p2,v'',r3,rfl,p3,rfl⟩:=ra;obtain ⟨l,rfl,d1⟩:=kb p1 g1;obtain ⟨m,rfl,d2⟩:=kb p2 g2;obtain ⟨o,rfl,d3⟩:=kb p3 g3;obtain ⟨us,u1,_⟩:=id d1;obtain ⟨ws,u2,_⟩:=id d2;obtain ⟨ts,u3,_⟩:=id d3;exact ⟨l,m,o,us,ws,ts,rfl,cx.of u1,cx.of u2,cx.of u3,q _ H1 s1 ⟨_,pV,fun H2 k _=>⟨d1.kp k,d2.kp k,d3.kp k⟩⟩⟩⟩
end
noncomputable def nD (i j k:Nat):PyData->ar->Option ar
  | .tuple [x,y,z],ρ=>some (((ρ.set i (.val x)).set j (.val y)).set k (.val z))
  | _,_=>none
section
variable {X:Cx} {nl:Nat} {G:List Str} {x y z:Str} {kx:Nat} {p1 p2 p3 pos:Pos}
theorem oY (T:Tb X nl G) (i j k:Nat) (hi:(X.N.take nl)[i]?=some x) (hj:(X.N.take nl)[j]?=some y) (hk:(X.N.take nl)[k]?=some z):Z.mD X (.Tuple [.Name x p1,.Name y p2,.Name z p3] kx pos) (nD i j k):=⟨by
  obtain ⟨i1,i2,i3⟩:=T.nm hi;obtain ⟨j1,j2,j3⟩:=T.nm hj;obtain ⟨k1,k2,k3⟩:=T.nm hk;refine PG.imp (ur T.calm (iF (h7 T.nd i1 i2 i3) (iF (h7 T.nd j1 j2 j3) (iF (h7 T.nd k1 k2 k3) si)))) fun v σ H Q zq0=>?_
  obtain ⟨ρ,d,sl,p,q⟩:=zq0;unfold nD at q;split at q
  · rename_i e;split at e
    · rename_i ρ0 dx dy dz;cases e;simp only [Rp] at p;obtain ⟨a,vs,rfl,ha,r⟩:=p;obtain ⟨u,r1,rfl,pu,r⟩:=r.cons_inv;obtain ⟨w,r2,rfl,pw,r⟩:=r.cons_inv;obtain ⟨t,r3,rfl,pt,r⟩:=r.cons_inv;rw [r.nil_inv] at ha;refine ⟨a,[u,w,t],rfl,cx.of ha,rfl,u,[w,t],rfl,w,[t],rfl,t,[],rfl,rfl,?_⟩;refine q _ (Sl.set (c:=.val dz) (o:=some t) (Sl.set (c:=.val dy) (o:=some w) (Sl.set (c:=.val dx) (o:=some u) sl i ⟨u,rfl,pu⟩) j ⟨w,rfl,pw⟩) k ⟨t,rfl,pt⟩) fun n e h=>?_
      obtain ⟨n1,h⟩:=ba (fun e z=>by cases z) h;obtain ⟨n2,h⟩:=ba (fun e z=>by cases z) h;obtain ⟨n3,h⟩:=ba (fun e z=>by cases z) h;exact ⟨h,by rw [List.getElem?_set,if_neg n1,List.getElem?_set,if_neg n2,List.getElem?_set,if_neg n3]⟩
    · cases e
  · exact q.elim⟩
end
noncomputable def xF (X:Cx):Value->Shared->Prop:=fun e s'=>(∃ c C pins σ H s H1,X.mg c=some (.ref C)/\Xw X c H1/\ap X pins σ H s/\i9 X.prog X.w X.stack H s C H1 e s') \/
  ∃ c C pins σ H s h' p vs,X.mg c=some (.ref C)/\Xw X c H/\u5 X c H/\ap X pins σ H s/\Heap.MadeExcOf s.heap h' p (.ref C) vs/\e=.ref p/\s'={ s with heap:=h' }
noncomputable abbrev Cx.fly (X:Cx):Cx:=X.wish (xF X)
theorem Tb.fly {X:Cx} {nl:Nat} {G:List Str} (T:Tb X nl G):Tb (Cx.fly X) nl G:=⟨T.hu,T.calm,T.nd,T.vis,T.loc,T.gl⟩
noncomputable def mq (g:Fs):Fs:=fun ρ=>oq (g ρ)
theorem Tb.nox {X:Cx} {nl:Nat} {G:List Str} (T:Tb X nl G):Tb X.nox nl G:=⟨T.hu,T.calm,T.nd,T.vis,T.loc,T.gl⟩
section
variable {X:Cx} {nl:Nat} {G:List Str} {st:Stmt} {g:Fs} {pos:Pos}
theorem gv (h:Z.iQ X.nox st g):Z.iQ X st (mq g):=⟨have h:=h.un;fun Fm=>by
  intro pins s σ H D I ⟨ρ,sl,q⟩;refine wpAny_mono (h Fm pins s σ H D (I.wish _) ⟨ρ,sl,?_⟩) (fun _ _ q=>q.unwish) fun _ _ z=>False.elim z
  unfold mq at q;cases e:g ρ with
  | ok o =>
    rw [e] at q;cases o <;> exact q
  | ex c=>rw [e] at q;exact q.elim
  | no=>rw [e] at q;exact q.elim⟩
noncomputable def bT (t:ar->R Bool) (g:Fs):Nat->Fs
  | 0,_=>.no
  | n+1,ρ=>t ρ>>=fun b=>if b=true then g ρ>>=fun o=>(match o with
      | .nx ρ2=>bT t g n ρ2
      | .ct ρ2=>bT t g n ρ2
      | .bk ρ2=>.ok (.nx ρ2)
      | .rt r=>.ok (.rt r)) else .ok (.nx ρ)
noncomputable def kc (n:Nat) (t:ar->R Bool) (g:Fs):Fs:=bT t g n
theorem lP {c:Expr} {body:List Stmt} {t:ar->R Bool} (n:Nat) (hp:PassesOwn (model X.prog X.w) X.A X.env X.xe) (ht:Z.h9 X c t) (hb:Z.fI X body g):Z.iQ X (.While c body [] pos) (kc n t g):=⟨have ht:=ht.un;have hb:=hb.un;fun Fm=>by
  refine PS.imp (qp hp ht (hb Fm)) fun D σ H ⟨ρ,sl,q⟩=>⟨fun m σ' H'=>∃ ρ',dG Fm H' σ' ρ'/\sw X Fm (bT t g m ρ') D,⟨n,ρ,sl,q⟩,fun m σ1 H1 zq0=>?_⟩
  obtain ⟨ρ1,sl1,q1⟩:=zq0;cases m with
  | zero=>exact q1.elim
  | succ k =>
    have q2:sY X Fm (fun ρ=>t ρ>>=fun b=>if b=true then g ρ>>=fun o=>(match o with
      | .nx ρ2=>bT t g k ρ2
      | .ct ρ2=>bT t g k ρ2
      | .bk ρ2=>.ok (.nx ρ2)
      | .rt r=>.ok (.rt r)) else .ok (.nx ρ)) D σ1 H1:=⟨ρ1,sl1,q1⟩
    refine (mK (f:=t) (k:=fun ρ b=>if b=true then g ρ>>=fun o=>(match o with
      | .nx ρ2=>bT t g k ρ2
      | .ct ρ2=>bT t g k ρ2
      | .bk ρ2=>.ok (.nx ρ2)
      | .rt r=>.ok (.rt r)) else .ok (.nx ρ)) q2).post fun b H2 ⟨ρ2,sl2,_,q3⟩=>?_
    cases b with
    | false=>exact q3 σ1 H2 sl2
    | true =>
      have q4:sw X Fm (g ρ2>>=fun o=>(match o with
      | .nx ρ2=>bT t g k ρ2
      | .ct ρ2=>bT t g k ρ2
      | .bk ρ2=>.ok (.nx ρ2)
      | .rt r=>.ok (.rt r))) D:=q3
      show if true=true then _ else _
      rw [if_pos rfl];refine ⟨fun σ' H'=>∃ ρ',dG Fm H' σ' ρ'/\sw X Fm (bT t g k ρ') D,fun σ' H' z=>⟨k,Nat.lt_succ_self k,z⟩,ρ2,sl2,?_⟩;cases eg:g ρ2 with
      | ex c=>rw [eg] at q4;exact q4
      | no=>rw [eg] at q4;exact q4
      | ok o =>
        rw [eg] at q4;cases o with
        | nx ρ4=>exact fun σ' H' s'=>⟨ρ4,s',q4⟩
        | ct ρ4=>exact fun σ' H' s'=>⟨ρ4,s',q4⟩
        | bk ρ4=>exact q4
        | rt r=>exact q4⟩
end
abbrev zc:List Value:=[.type "ValueError",.type "Exception",.type "BaseException",.type "object"]
abbrev zh:String := "ValueError.__new__"
section
variable {K:PySem.W.Frag} {h:Heap} {C:Addr}
inductive oQ (h:Heap) (C:Addr) (bm:List Value):Prop
  | mk (N nm q bs hdct sn sub ab col dd k0 k1 k2 k3 k5 mN) (e:h.get? C=some (excClassObj nm q C N bs bm hdct sn sub ab col dd k0 k1 k2 k3 k5 zh)) (n:h.Ns N mN) (i:mN "__init__" = none) (t:OwnTail h zc bm)
theorem oQ.keep {h':Heap} {bm:List Value} (c:oQ h C bm) (k:∀ b o,h.get? b=some o->h'.get? b=some o):oQ h' C bm :=
  let ⟨N,nm,q,bs,hdct,sn,sub,ab,col,dd,k0,k1,k2,k3,k5,mN,hC,hN,hni,T⟩:=c
  ⟨N,nm,q,bs,hdct,sn,sub,ab,col,dd,k0,k1,k2,k3,k5,mN,k _ _ hC,hN.keeps k,hni,T.keeps k⟩
end
section
variable {P:Program} {w:World} {l:List Env} {H H':Hp} {s s':Shared} {C p:Addr} {e:Value}
theorem oS.obj (f:oS P w l H s C H' (.ref p) s'):∃ ob vs,s'.heap.get? p=some ob/\ob.cls=.ref C/\ob.data=.fields vs/\H' p=none/\p∉gk l:=by
  obtain ⟨p',a0,B,ep,fly,okB,hp,cov⟩:=f.ex;cases ep;obtain ⟨oe,ws,h1,h2,h3,_⟩:=fly.first;refine ⟨oe,ws,h1,h2,h3,hp,fun hm=>?_⟩;obtain ⟨_,o,ho,hnf⟩:=fly.2.2.1.mem hm;rw [h1] at ho;cases ho;exact hnf ws h3
end
noncomputable def Xh (X:Cx) (p:Addr) (ob:Obj):Cx:={ X with A:=X.A.mark (some (.ref p)),calm:=false,xe:=fun _ _=>False,pn:=(p,ob)::X.pn }
structure za (X:Cx) (nl:Nat) (G:List Str):Prop where
  hu:X.A.units+64 < cLine
  nd:X.N.Nodup
  vis:∀ x∈X.N,u4 X.env.scope x/\(x==("__debug__" : Str))=false/\(x==("__classdict__" : Str))=false
  loc:∀ x∈X.N.take nl,tx X.env.scope x/\(X.fn x=true\/X.env.scope.names.lookup x=some .local)
  gl:∀ x∈G,Gl X x/\(x==("__debug__" : Str))=false/\x≠("__name__" : Str)
theorem Tb.h {X:Cx} {nl:Nat} {G:List Str} (T:Tb X nl G) (p:Addr) (ob:Obj):za (Xh X p ob) nl G:=⟨T.hu,T.nd,T.vis,T.loc,T.gl⟩
noncomputable def yH (X:Cx) (C:Addr) (hs:List ExceptHandler) (F:Addr->ar->R PyData):Prop :=
  ∀ (pins:List (Addr×Obj)) (σ:St) (Hc H:Hp) (sc s:Shared) (p:Addr) (Fm:Hp) (ρ:ar) (D:kr),ap X pins σ Hc sc->oS X.prog X.w X.stack Hc sc C H (.ref p) s->dG Fm H σ ρ ->
    (match F p ρ with
      | .ok d=>∀ v H',al Fm H'->Rp H' d v->D.rt v H'
      | _=>False)->wpAny (model X.prog X.w) X.A (handleBy (.ref p) X.env hs) (SP X pins D) X.xe s
noncomputable abbrev Hs:=List (Str×(Addr->ar->R PyData))
inductive nr (X:Cx) (src:List ExceptHandler):Hs->Prop
  | nil:nr X src []
  | cons {c:Str} {C:Addr} {h:Addr->ar->R PyData} {hs:Hs} (hm:X.mg c=some (.ref C)) (he:yH X C src h) (r:nr X src hs):nr X src ((c,h)::hs)
theorem nr.at {X:Cx} {src:List ExceptHandler} {c:Str} {h:Addr->ar->R PyData}:∀ {hs:Hs},nr X src hs->hs.lookup c=some h->∃ C,X.mg c=some (.ref C)/\yH X C src h
  | _,.nil,e=>by cases e
  | _,.cons (c:=c') hm he r,e=>by
    rw [List.lookup_cons] at e;split at e
    · rename_i q;have:c=c':=by simpa using q
      subst this;cases e;exact ⟨_,hm,he⟩
    · exact nr.at r e
noncomputable def ij (p:Int->Int->Bool) (n:Int) (ns:List Int):Int:=ns.foldl (fun a b=>if p b a=true then b else a) n
theorem fM {p:Int->Int->Bool} {le:Int->Int->Prop} (h1:∀ a b,p b a=true->le b a) (h2:∀ a b,¬ p b a=true->le a b) (tr:∀ a b c,le a b->le b c->le a c) (rf:∀ a,le a a):∀ (ns:List Int) (n:Int),ij p n ns∈n::ns/\∀ a∈n::ns,le (ij p n ns) a
  | [],n=>⟨by simp [ij],fun a ha=>by simp at ha;subst ha;exact rf _⟩
  | m::ns,n=>by
    obtain ⟨g1,g2⟩:=fM h1 h2 tr rf ns (if p m n=true then m else n);have e:ij p n (m::ns)=ij p (if p m n=true then m else n) ns:=rfl;rw [e];refine ⟨?_,fun a ha=>?_⟩
    · rcases List.mem_cons.mp g1 with z | z
      · rw [z];split <;> simp
      · exact List.mem_cons_of_mem _ (List.mem_cons_of_mem _ z)
    · have k:=g2 _ List.mem_cons_self;rcases List.mem_cons.mp ha with rfl | ha
      · refine tr _ _ _ k ?_;split
        · rename_i z;exact h1 _ _ z
        · exact rf _
      · rcases List.mem_cons.mp ha with rfl | ha
        · refine tr _ _ _ k ?_;split
          · exact rf _
          · rename_i z;exact h2 _ _ z
        · exact g2 a (List.mem_cons_of_mem _ ha)
noncomputable def mh (n:Int) (ns:List Int):Int:=ij (fun b a=>decide (b < a)) n ns
noncomputable def md (n:Int) (ns:List Int):Int:=ij (fun b a=>decide (a < b)) n ns
theorem jx (n:Int) (ns:List Int):mh n ns∈n::ns/\∀ a∈n::ns,mh n ns<=a :=
  fM (le:=(·<=·)) (fun a b h=>by simp at h;omega) (fun a b h=>by simp at h;omega) (fun a b c=>Int.le_trans) Int.le_refl ns n
theorem jw (n:Int) (ns:List Int):md n ns∈n::ns/\∀ a∈n::ns,a<=md n ns :=
  fM (le:=fun a b=>b<=a) (fun a b h=>by simp at h;omega) (fun a b h=>by simp at h;omega) (fun a b c h1 h2=>Int.le_trans h2 h1) Int.le_refl ns n
section
variable {X:Cx} {a b c:Expr} {fa fb fc:Fe} {pos p2:Pos} {nl:Nat} {G:List Str} {x:Str} {p:Pos}
theorem dY:∀ {its:List Value} {ns:List Int},IntsAre its ns->∃ ys:List (Int×Tok),its=ys.map (fun p=>Value.int p.1 p.2)/\ys.map (·.1)=ns
  | _,_,.nil=>⟨[],rfl,rfl⟩
  | _,_,.cons n t h=>by
    obtain ⟨ys,e1,e2⟩:=dY h;exact ⟨(n,t)::ys,by rw [List.map_cons,e1],by rw [List.map_cons,e2]⟩
theorem nI (hc:X.calm=true):bR X (.builtin "min") (fun xs H Q=>∃ p n ns,xs=[.ref p]/\iR X.K H p ((n::ns).map V.int)/\Q (.int (mh n ns)) H):=by
  intro pins s σ H xs us Q I r h;obtain ⟨p,n,ns,rfl,hq,q⟩:=h;obtain ⟨u,rfl,rx⟩:=dE r;cases rx;obtain ⟨its,rv,pl,hz⟩:=I.list hq;obtain ⟨ys,e1,e2⟩:=dY (de rv);have hl:s.heap.IsList p (intItems ys.toArray):=by
    have:intItems ys.toArray=its.toArray:=by rw [e1];simp [intItems]
    rw [this];exact pl.isList
  have hlen:ys.length=ns.length+1:=by have:=congrArg List.length e2;simpa using this
  refine min_intList (I.ok.hd hc) hl (by simp;omega) fun v h' tk hv hk=>?_
  obtain ⟨t,rfl⟩:=intItems_at hv;obtain ⟨g1,g2⟩:=argBest_lt (numAt ys.toArray) (ys.toArray.size-1);generalize argBest (fun i j=>decide (numAt ys.toArray i < numAt ys.toArray j)) (ys.toArray.size-1)=w at g1 g2 hv ⊢;have el:ys.toArray.toList.map (·.1)=n::ns:=e2;have m1:numAt ys.toArray w∈n::ns:=by
    rw [numAt_eq,el];refine getD_mem ?_;simp at g1 ⊢;omega
  obtain ⟨k1,k2⟩:=jx n ns;have e3:numAt ys.toArray w=mh n ns:=by
    refine Int.le_antisymm ?_ (k2 _ m1);obtain ⟨j,hj,e⟩:=mem_getD k1;have:=g2 j (by simp at hj ⊢;omega);rw [numAt_eq ys.toArray j,el,e] at this;exact this
  rw [e3];exact ⟨.int _,H,I.kept hk,⟨_,rfl⟩,q⟩
theorem nG (hc:X.calm=true):bR X (.builtin "max") (fun xs H Q=>∃ p n ns,xs=[.ref p]/\iR X.K H p ((n::ns).map V.int)/\Q (.int (md n ns)) H):=by
  intro pins s σ H xs us Q I r h;obtain ⟨p,n,ns,rfl,hq,q⟩:=h;obtain ⟨u,rfl,rx⟩:=dE r;cases rx;obtain ⟨its,rv,pl,hz⟩:=I.list hq;obtain ⟨ys,e1,e2⟩:=dY (de rv);have hl:s.heap.IsList p (intItems ys.toArray):=by
    have:intItems ys.toArray=its.toArray:=by rw [e1];simp [intItems]
    rw [this];exact pl.isList
  have hlen:ys.length=ns.length+1:=by have:=congrArg List.length e2;simpa using this
  refine max_intList (I.ok.hd hc) hl (by simp;omega) fun v h' tk hv hk=>?_
  obtain ⟨t,rfl⟩:=intItems_at hv;obtain ⟨g1,g2⟩:=argBest_gt (numAt ys.toArray) (ys.toArray.size-1);generalize argBest (fun i j=>decide (numAt ys.toArray i > numAt ys.toArray j)) (ys.toArray.size-1)=w at g1 g2 hv ⊢;have el:ys.toArray.toList.map (·.1)=n::ns:=e2;have m1:numAt ys.toArray w∈n::ns:=by
    rw [numAt_eq,el];refine getD_mem ?_;simp at g1 ⊢;omega
  obtain ⟨k1,k2⟩:=jw n ns;have e3:numAt ys.toArray w=md n ns:=by
    refine Int.le_antisymm (k2 _ m1) ?_;obtain ⟨j,hj,e⟩:=mem_getD k1;have:=g2 j (by simp at hj ⊢;omega);rw [numAt_eq ys.toArray j,el,e] at this;exact this
  rw [e3];exact ⟨.int _,H,I.kept hk,⟨_,rfl⟩,q⟩
noncomputable def jk:PyData->R PyData
  | .list ds=>match bh ds with
    | some (n::ns)=>.ok (.int (mh n ns))
    | _=>.no
  | _=>.no
noncomputable def ji:PyData->R PyData
  | .list ds=>match bh ds with
    | some (n::ns)=>.ok (.int (md n ns))
    | _=>.no
  | _=>.no
theorem jb (T:Tb X nl G) (j:Nat) (hG:G[j]?=some ("min" : Str)) (hm:X.mg "min" = none) (ha:Z.bS X a fa) (he:ax a=true:=by rfl):Z.bD X (.Call (.Name "min" p) [a] [] pos) (e1 jk fa):=⟨have ha:=ha.un;by
  refine pd T j hG hm cu PyProof.Rows.boot_min (nI T.calm) (fun H x d Q hx q=>?_) ha he;cases d with
  | list ds =>
    simp only [jk] at q;split at q
    · rename_i n ns ei;rw [bL ei] at hx;obtain ⟨a',vs,rfl,h,r⟩:=bV (K:=X.K) hx;rw [dD r] at h;exact ⟨a',n,ns,rfl,h,q _ H (al.refl _) bw⟩
    · exact q.elim
  | _=>exact q.elim⟩
theorem ja (T:Tb X nl G) (j:Nat) (hG:G[j]?=some ("max" : Str)) (hm:X.mg "max" = none) (ha:Z.bS X a fa) (he:ax a=true:=by rfl):Z.bD X (.Call (.Name "max" p) [a] [] pos) (e1 ji fa):=⟨have ha:=ha.un;by
  refine pd T j hG hm cu PyProof.Rows.boot_max (nG T.calm) (fun H x d Q hx q=>?_) ha he;cases d with
  | list ds =>
    simp only [ji] at q;split at q
    · rename_i n ns ei;rw [bL ei] at hx;obtain ⟨a',vs,rfl,h,r⟩:=bV (K:=X.K) hx;rw [dD r] at h;exact ⟨a',n,ns,rfl,h,q _ H (al.refl _) bw⟩
    · exact q.elim
  | _=>exact q.elim⟩
end
section
variable {X:Cx} {a b c:Expr} {fa fb fc:Fe} {pos p2:Pos} {nl:Nat} {G:List Str} {x:Str} {p:Pos} {fs:ar->R (List PyData)} {pos2:Pos}
noncomputable def xt (mk:List PyData->PyData):List PyData->R PyData
  | [.int j]=>if j<=16777216/\-(2 ^ 62)<=j then .ok (mk (bB 0 j.toNat)) else .no
  | _=>.no
noncomputable def vC (fs:ar->R (List PyData)):Fe:=fun ρ=>fs ρ>>=xt .tuple
noncomputable def vA (fs:ar->R (List PyData)):Fe:=fun ρ=>fs ρ>>=xt .list
end
section
variable {X:Cx} {a b:Expr} {fa fb:Fe} {pos p2:Pos}
noncomputable def vo:PyData->Option Int->Option Int->R PyData
  | .list xs,lo,hi=>.ok (.list (pA xs lo hi))
  | _,_,_=>.no
noncomputable def yf (fa:Fe) (lo hi:Fo):Fe:=fun ρ=>fa ρ>>=fun d=>lo ρ>>=fun l=>hi ρ>>=fun u=>vo d l u
end
theorem aI.set {H:Hp} {d:PyData} {v:V} (p:Rp H d v):∀ {ds:List PyData} {vs:List V} (j:Nat),aI H ds vs->aI H (ds.set j d) (vs.set j v)
  | [],vs,j,r=>by rw [r.nil_inv];exact aI.nil
  | d'::ds,vs,j,r=>by
    obtain ⟨v',r',rfl,p',t⟩:=r.cons_inv;cases j with
    | zero=>exact aI.cons p t
    | succ j=>exact aI.cons p' (aI.set p j t)
section
variable {X:Cx} {nl:Nat} {G:List Str} {x:Str} {f:Fe} {e:Expr}
noncomputable def xS (g:Int->Int->Int):PyData->PyData->R PyData
  | .int i,.int j=>.ok (.int (g i j))
  | _,_=>.no
noncomputable def yr (i:Nat) (g:Int->Int->Int) (f:Fe):Fs:=fun ρ=>ag i ρ>>=fun x=>f ρ>>=fun y=>xS g x y>>=fun z=>.ok (.nx (ρ.set i (.val z)))
end
section
variable {X:Cx} {a b:Expr} {fa fb:Fe} {pos p:Pos} {nl:Nat} {G:List Str}
noncomputable def yN:PyData->PyData->R PyData
  | .str z,.int k=>if k=0\/k=1 then .ok (.str (if k=1 then z else Str.empty)) else .no
  | _,_=>.no
end
section
variable {X:Cx} {o e:Expr} {fo fe:Fe} {apos cpos:Pos}
theorem qb:yI X "list.index" (fun x xs H Q=>∃ (l:Addr) (ns:List Int) (k:Int),x=.ref l/\xs=[.int k]/\iR X.K H l (ns.map V.int)/\PyData.layable0 (.list (ns.map .int))=true/\k∈ns/\Q (.int (ns.idxOf k:Nat)) H):=by
  intro pins s σ H x xs v us Q I rx rs h;obtain ⟨l,ns,k,rfl,rfl,hq,hlay,hk,q⟩:=h;cases rx;obtain ⟨u,rfl,t,rfl⟩:=dE rs;obtain ⟨its,rv,pl,hz⟩:=I.list hq;exact index_list_ints pl.isList (de rv) hlay hk ⟨.int _,H,I.tok _,⟨_,rfl⟩,q⟩
noncomputable def vS:PyData->R Unit
  | .list _=>.ok ()
  | _=>.no
noncomputable def dP:PyData->PyData->R PyData
  | .list ds,.int k=>match bh ds with
    | some ns=>if PyData.layable0 (.list ds)=true/\k∈ns then .ok (.int (ns.idxOf k:Nat)) else .no
    | none=>.no
  | _,_=>.no
noncomputable def ip (fo fe:Fe):Fe:=fun ρ=>fo ρ>>=fun x=>vS x>>=fun _=>fe ρ>>=fun y=>dP x y
theorem lQ (ho:Z.bS X o fo) (he:Z.bD X e fe) (hb:attributeBase o "index" X.env (eval o X.env)=eval o X.env:=by rfl) (hst:ax e=true:=by rfl) (hline:(apos.endLine==cpos.line)=true:=by rfl):Z.bD X (.Call (.Attribute o "index" apos) [e] [] cpos) (ip fo fe):=⟨have ho:=ho.un;have he:=he.un;by
  have sc:starEach [e] X.env=(false,eval e X.env)::starEach [] X.env:=aL hst;refine PE.imp (wd PySem.F.plainAttrs_list PySem.F.slot_list_index PySem.F.type_list_index qb ho (ft he jS hst) hb (by rw [sc];rfl) hline sc rfl) fun σ H Q h=>?_
  refine (cR (P:=lL) (f:=fo) (k:=fun ρ x=>vS x>>=fun _=>fe ρ>>=fun y=>dP x y) (cX (X:=X) cu Q) h).post fun v H1 zq0=>?_
  obtain ⟨ρ1,d1,sl1,_,p1,q1⟩:=zq0;cases d1 with
  | list ds =>
    obtain ⟨a,vs,rfl,h1,r1⟩:=bV (K:=X.K) p1;refine ⟨.inl ⟨rfl,_,h1⟩,?_⟩;have q1:lG X eJ (ak fe be ρ1>>=one (dP (.list ds))) H1 Q:=by
      have e0:(ak fe be ρ1>>=one (dP (.list ds)))=(fe ρ1>>=fun y=>dP (.list ds) y):=by
        unfold ak be;cases fe ρ1 <;> rfl
      rw [e0];exact q1
    refine (gx (I:=Rp) (f:=ak fe be) (k:=fun _=>one (dP (.list ds))) (cX (X:=X) cu Q) ⟨ρ1,sl1,q1⟩).post fun us H2 zq0=>?_
    obtain ⟨_,ds2,_,s2,p2,q2⟩:=zq0;unfold one at q2;split at q2
    · rename_i d2;simp only [RA] at p2;obtain ⟨w,r',rfl,p2,rfl⟩:=p2;cases d2 with
      | int k =>
        have ew:w=.int k:=by simpa only [Rp] using p2
        subst ew;simp only [dP] at q2;cases ei:bh ds with
        | none=>rw [ei] at q2;exact q2.elim
        | some ns =>
          rw [ei] at q2;dsimp only at q2;split at q2
          · rename_i hz;have p3:=eI.mono p1 s2;rw [bL ei] at p3;obtain ⟨a',vs',ea,h3,r3⟩:=bV (K:=X.K) p3;cases ea;rw [dD r3] at h3;exact ⟨a,ns,k,rfl,rfl,h3,by rw [<- bL ei];exact hz.1,hz.2,q2 _ H2 (al.refl _) bw⟩
          · exact q2.elim
      | _=>exact q2.elim
    · exact q2.elim
  | _=>exact q1.elim⟩
end
section
variable {X:Cx} {a b:Expr} {fa fb:Fe} {pos p:Pos} {nl:Nat} {G:List Str}
noncomputable def pC:PyData->PyData->R PyData
  | .int i,.int j=>if 0<=j/\j<=1000000/\i.natAbs < 2 ^ 64 then .ok (.int (i ^ j.toNat)) else .no
  | _,_=>.no
theorem uO:aT X eJ (rI vb fun i j=>.int (i ^ j.toNat)) pC:=fun H x y dx dy Q hx hy q=>by
  unfold pC at q;split at q
  · split at q
    · rename_i h;exact ⟨_,_,aE hx,aE hy,h,q _ H (al.refl _) bw⟩
    · exact q.elim
  · exact q.elim
theorem o5 (ha:Z.bS X a fa) (hb:Z.bS X b fb):Z.bD X (.BinOp a .Pow b pos) (e2 pC fa fb):=⟨have ha:=ha.un;have hb:=hb.un;gB cu uh uO ha hb⟩
noncomputable def mf (n:Int):Bool:=decide (-(2 ^ 40)<=n/\n<=2 ^ 40)
theorem ly:∀ (ns:List Int),(∀ n∈ns,mf n=true)->-(2 ^ 40)*(ns.length:Int)<=ns.sum/\ns.sum<=2 ^ 40*(ns.length:Int)
  | [],_=>by simp
  | n::ns,h=>by
    have h1:=h n List.mem_cons_self;have h2:=ly ns fun x hx=>h x (List.mem_cons_of_mem _ hx)
    simp only [mf,decide_eq_true_eq] at h1;rw [List.sum_cons,List.length_cons]
    push_cast
    omega
theorem nK (hc:X.calm=true):bR X (.builtin "sum") (fun xs H Q=>∃ (p:Addr) (ns:List Int),xs=[.ref p]/\iR X.K H p (ns.map V.int)/\ns.length<=1000000/\(∀ n∈ns,mf n=true)/\Q (.int ns.sum) H):=by
  intro pins s σ H xs us Q I r h;obtain ⟨p,ns,rfl,hq,hl,hm,q⟩:=h;obtain ⟨u,rfl,rx⟩:=dE r;cases rx;obtain ⟨its,rv,pl,hz⟩:=I.list hq;obtain ⟨ys,e1,e2⟩:=dY (de rv);have hL:s.heap.IsList p (intItems ys.toArray):=by
    have:intItems ys.toArray=its.toArray:=by rw [e1];simp [intItems]
    rw [this];exact pl.isList
  have el:ys.toArray.toList.map (·.1)=ns:=e2;have hlen:ys.length=ns.length:=by have:=congrArg List.length e2;simpa using this
  have long:∀ i:Int,-(2 ^ 40)*1000000<=i->i<=2 ^ 40*1000000->InLong i:=fun i h1 h2=>by
    unfold InLong;constructor <;> omega
  refine sum_intList (I.ok.hd hc) hL (fun j hj=>?_) fun h' tk t' hk=>?_
  · rw [numAt_eq,preSum_eq,el];have hjn:j < ns.length:=by simp at hj;omega
    have m1:=hm _ (getD_mem hjn);simp only [mf,decide_eq_true_eq] at m1;have m2:=ly (ns.take (j+1)) fun x hx=>hm x (List.mem_of_mem_take hx)
    have m3:((ns.take (j+1)).length:Int)<=1000000:=by rw [List.length_take];omega
    exact ⟨long _ (by omega) (by omega),long _ (by omega) (by omega)⟩
  · rw [preSum_eq,el];have:ns.take ys.toArray.size=ns:=List.take_of_length_le (by simp;omega);rw [this];exact ⟨.int _,H,I.kept hk,⟨_,rfl⟩,q⟩
noncomputable def nO:PyData->R PyData
  | .list ds=>match bh ds with
    | some ns=>if ns.length<=1000000/\ns.all mf=true then .ok (.int ns.sum) else .no
    | none=>.no
  | _=>.no
theorem kH (T:Tb X nl G) (j:Nat) (hG:G[j]?=some ("sum" : Str)) (hm:X.mg "sum" = none) (ha:Z.bS X a fa) (he:ax a=true:=by rfl):Z.bD X (.Call (.Name "sum" p) [a] [] pos) (e1 nO fa):=⟨have ha:=ha.un;by
  refine pd T j hG hm cu PyProof.Rows.boot_sum (nK T.calm) (fun H x d Q hx q=>?_) ha he;cases d with
  | list ds =>
    simp only [nO] at q;cases ei:bh ds with
    | none=>rw [ei] at q;exact q.elim
    | some ns =>
      rw [ei] at q;dsimp only at q;split at q
      · rename_i hz;rw [bL ei] at hx;obtain ⟨a',vs,rfl,h,r⟩:=bV (K:=X.K) hx;rw [dD r] at h;exact ⟨a',ns,rfl,h,hz.1,fun n hn=>List.all_eq_true.mp hz.2 n hn,q _ H (al.refl _) bw⟩
      · exact q.elim
  | _=>exact q.elim⟩
end
noncomputable abbrev lJ:=List PyData->R PyData
structure mB (P:Program) (w:World) (K:PySem.W.Frag) (mg:Str->Option Value) (base:Heap) (k:Nat) (x:Str) (ps:List Str) (F:lJ) (f:Addr) (fd:FuncData):Prop where
  ok:bj P w K mg base (cN P w mg) k f fd ps (eM F ps.length)
  m:mg x=some (.ref f)
  kp:PySem.W.keepIn K (.ref f)=true
  b:bQ K fd ps []
theorem bg {X:Cx} {k:Nat} {f:Addr} {fd:FuncData} {ps:List Str} {F:lJ} {x:Str} {p pos:Pos} {e:Expr} {es:List Expr} {fs:ar->R (List PyData)} {nl:Nat} {G:List Str} (C:mB X.prog X.w X.K X.mg X.base k x ps F f fd) (hr:cH k X.A) (T:Tb X nl G) (j:Nat) (hG:G[j]?=some x) (ha:Z.mC X (e::es) fs) (hlen:(e::es).length=ps.length) (hfs:∀ ρ ds,fs ρ=.ok ds->ds.length=ps.length) (he:(e::es).all ax=true:=by rfl):Z.bD X (.Call (.Name x p) (e::es) [] pos) (br F fs):=⟨have ha:=ha.un;rG C.ok hr T j hG C.m C.kp C.b ha hlen hfs he⟩
structure dB (K:PySem.W.Frag) (x:Str) (st:Stmt) (f:Addr) (fd:FuncData):Prop where
  ns:PySem.W.nsIn K mainGlobals x=some (some (.ref f))
  fn:gM K x x st f fd
theorem bE {K:PySem.W.Frag} {x:Str} {st:Stmt} {f:Addr} {oc:Value} {od an:Option Addr} {osl:Array (Option Value)} {kV doc pm cdv ct:Value} (a:PySem.W.nsIn K mainGlobals x=some (some (.ref f))) (l:K.lookup f=some ⟨oc,od,.func (PySem.W.fnOf x x (ca st) (bi st) (ah st) .none kV doc pm an cdv ct),osl⟩) (c:PySem.W.codeIn K cdv x=true) (k:PySem.W.keepIn K (.ref f)=true) :
    dB K x st f (PySem.W.fnOf x x (ca st) (bi st) (ah st) .none kV doc pm an cdv ct):=⟨a,pL l c k⟩
end D2
namespace D2
open PySem PySem.Spec PySem.Calls PySem.W PyProof.Rows L2 Builtin Builtin.ObjectAttr Builtin.Getset_descriptor
end D2
namespace D2
open PySem PySem.Spec PyProof.Rows L2 PySem.Builtin PySem.Builtin.Str
end D2
set_option maxHeartbeats 400000
namespace D2
open PySem PySem.Spec PyProof.Rows L2 PySem.Builtin
end D2
namespace D2
open PySem PySem.Spec PyProof.Rows L2
section
variable {X:Cx} {tg o:Expr} {fo:Fe} {apos cpos:Pos}
noncomputable def sS:PyData->R (List PyData)
  | .dict kvs=>if iA kvs=true then .no else .ok (kvs.map (·.1))
  | _=>.no
noncomputable def tq:PyData->R (List PyData)
  | .dict kvs=>if iA kvs=true then .no else .ok (kvs.map (·.2))
  | _=>.no
noncomputable def vK (f:Fe):ar->R (List PyData):=fun ρ=>f ρ>>=sS
noncomputable def vQ (f:Fe):ar->R (List PyData):=fun ρ=>f ρ>>=tq
end
end D2
namespace HT
open PySem PySem.Spec PyProof.Rows L2
section
open PySem.SeqAt
open PySem.AutoSeq1 (wpAny_loadPart')
open PySem.MeetsSeq PySem.MeetsSeq2 PySem.MeetsSeq3
end
end HT
namespace D2
open PySem PySem.Spec PyProof.Rows L2
section
variable {X:Cx} {tg a b c:Expr} {fa fb fc:Fe} {pos p2:Pos} {nl:Nat} {G:List Str} {x:Str} {p:Pos} {fs:ar->R (List PyData)}
noncomputable def vw (lo:Int) (n:Nat):List PyData:=(List.range n).map fun (k:Nat)=>.int (lo-k)
noncomputable def vy:List PyData->R (List PyData)
  | [.int i,.int j,.int k]=>if k=-1/\-(2 ^ 62)<=i/\i < 2 ^ 62/\-(2 ^ 62)<=j/\j < 2 ^ 62 then .ok (vw i (i-j).toNat) else .no
  | _=>.no
noncomputable def vG (fs:ar->R (List PyData)):ar->R (List PyData):=fun ρ=>fs ρ>>=vy
end
noncomputable def ib (H:Hp):List V->List (List Int)->Prop
  | [],rs=>rs=[]
  | v::vs,rs=>∃ a r rs',v=.ref a/\rs=r::rs'/\H a=some (.tup (r.map V.int))/\ib H vs rs'
theorem ib.len {H:Hp}:∀ {vs:List V} {rs:List (List Int)},ib H vs rs->vs.length=rs.length
  | [],rs,h=>by simp only [ib] at h;rw [h];rfl
  | v::vs,rs,h=>by
    simp only [ib] at h;obtain ⟨a,r,rs',_,rfl,_,t⟩:=h;rw [List.length_cons,List.length_cons,t.len]
noncomputable def wA (a b c:Int):Nat:=(if a < b then (b-a-1) / c+1 else 0).toNat
section
variable {X:Cx} {tg a b c:Expr} {fa fb fc:Fe} {pos p2:Pos} {nl:Nat} {G:List Str} {x:Str} {p:Pos} {fs:ar->R (List PyData)}
noncomputable abbrev tD (i j k:Int):Prop:=1<=k/\k < 1000000/\-(2 ^ 40)<=i/\i < 2 ^ 40/\-(2 ^ 40)<=j/\j < 2 ^ 40
noncomputable def wz (lo st:Int) (n:Nat):List PyData:=(List.range n).map fun (k:Nat)=>.int (lo+k*st)
noncomputable def wB:List PyData->R (List PyData)
  | [.int i,.int j,.int k]=>if tD i j k then .ok (wz i k (wA i j k)) else .no
  | _=>.no
noncomputable def vO (fs:ar->R (List PyData)):ar->R (List PyData):=fun ρ=>fs ρ>>=wB
end
end D2
namespace D2
open PySem PySem.Spec PyProof.Rows
noncomputable def Rs (xs:Array Nat):Prop:=∀ i j:Nat,i < j->j < xs.size->xs.getD i 0 < xs.getD j 0
noncomputable def zb (b:Bool) (t:SetTable):Prop:=t.led=b/\Rs t.place
noncomputable def vU:Value->Int
  | .int n _=>n
  | _=>0
noncomputable def tf (es:Array (Int×Value)):List Int:=es.toList.map fun e=>vU e.2
section
variable (prog:Program) (w:World)
structure vf (h:Heap) (S:Addr) (led:Bool) (es:Array (Int×Value)) (t:SetTable):Prop where
  obj:∃ u ep,h.get? S=some u/\u.ExactSet/\u.data=.set es ep t
  elm:ElemsOf (intKind prog w) es.toList
  few:es.size < scanBound
  fit:t.fits es.size=true
  tab:zb led t
end
section
variable {prog:Program} {w:World} {A:Around} {E:Value->Shared->Prop} {s:Shared} {S:Addr} {led:Bool}
theorem mV {k:Int} {v:Value} (q:(intKind prog w).is k v=true):vU v=k:=by
  obtain ⟨_,rfl⟩:=Value.isInt_shape (k:=k) (v:=v) q;rfl
theorem vf.mem {h:Heap} {es:Array (Int×Value)} {t:SetTable} (I:vf prog w h S led es t) (k:Int):k∈tf es<->(es.toList.findIdx? fun e=>(intKind prog w).is k e.2).isSome=true:=by
  rw [List.findIdx?_isSome,List.any_eq_true];unfold tf;rw [List.mem_map];constructor
  · rintro ⟨e,me,rfl⟩;obtain ⟨⟨j,isj,_⟩,_⟩:=I.elm e me;exact ⟨e,me,by rw [mV isj];exact isj⟩
  · rintro ⟨e,me,isk⟩;exact ⟨e,me,mV isk⟩
end
section
variable {prog:Program} {w:World} {A:Around} {E:Value->Shared->Prop} {s:Shared} {S it:Addr} {es:Array (Int×Value)} {ep:Nat} {t:SetTable}
structure Si (h:Heap) (S:Addr) (es:Array (Int×Value)) (ep:Nat) (t:SetTable):Prop where
  obj:∃ u,h.get? S=some u/\u.ExactSet/\u.data=.set es ep t
  fit:t.fits es.size=true
theorem Si.keep {h g:Heap} (I:Si h S es ep t) (k:∀ u,h.get? S=some u->g.get? S=some u):Si g S es ep t:=by
  obtain ⟨u,hu,r⟩:=I.obj;exact ⟨⟨u,k u hu,r⟩,I.fit⟩
end
section
variable {prog:Program} {w:World} {A:Around} {E:Value->Shared->Prop} {s:Shared} {S:Addr} {es:Array (Int×Value)} {t:SetTable}
theorem vf.keep {h g:Heap} {b:Bool} (L:vf prog w h S b es t) (k:∀ u,h.get? S=some u->g.get? S=some u):vf prog w g S b es t:=by
  obtain ⟨u,ep,hu,r⟩:=L.obj;exact ⟨⟨u,ep,k u hu,r⟩,L.elm,L.few,L.fit,L.tab⟩
end
end D2
namespace D2
open PySem PySem.Spec PyProof.Rows L2
section
variable {prog:Program} {w:World} {A:Around} {E:Value->Shared->Prop} {s:Shared}
theorem pZ {f c' cn l:Addr} {name qual n g:Str} {params:Arguments} {scope:Scope} {pm ctv x:Value} {items:Array Value} {k:Int} {t:Tok} {p1 p2 p3:Pos} {Q:Value->Shared->Prop}
    (hroom:A.depth < recursionLimit) (ho:s.heap.get? f=some (PySem.W.kla_obj name qual params (.Subscript (.Name n p1) (.Name g p2) p3) scope [(n,cn)] pm c' ctv)) (hcd:s.heap.CodeRec (.ref c') qual) (lim:s.heap.NoLimit)
    (hcell:s.heap.IsCell cn (some (.ref l))) (hl:s.heap.IsList l items) (h0:0<=k) (hfit:k < 2 ^ 63) (hx:items[k.toNat]?=some x)
    (hco:scope.isCoroutine=false) (hgen:scope.isGenerator=false) (hk:scope.kind=.function) (hnc:∀ x∈scope.names,x.2≠.cell) (hg:scope.names.lookup g=some .local) (hn:scope.names.lookup n=some .free)
    (hbind:∀ v:Value,bindArgs (PySem.W.kla_fn name qual params (.Subscript (.Name n p1) (.Name g p2) p3) scope [(n,cn)] pm (.ref c') ctv) ⟨[v],[]⟩=pure [(g,v)])
    (d1:(n==("__debug__" : Str))=false) (d2:(g==("__debug__" : Str))=false) (d3:(n==("__classdict__" : Str))=false)
    (hQ:∀ h' tk,(∀ b o,s.heap.get? b=some o->h'.get? b=some o)->Q x { s with heap:=h',toks:=tk }) :
    wpAny (model prog w) A (call (.ref f) [.int k t]) Q E s:=by
  refine wpAny_call (PySem.W.kla_callFunE hroom ho rfl hco hgen rfl hcd ?_);rw [hbind];refine wpAny_pure (wpAny_newFunctionEnv hnc (fun y hy=>?_) (fun h₁ hns hsb=>⟨lim.fresh _ hsb,?_⟩) hk)
  · rw [List.mem_singleton.mp hy];exact hg
  have hk₁:∀ b o,s.heap.get? b=some o->h₁.get? b=some o:=fun b o e=>hsb.extBut b o (Nat.ne_of_lt (Heap.lt_size e)) (Heap.get?_push_of_some _ e)
  refine PySem.W.kla_codeExpr ?_;refine Subscript_ ?_;refine wpAny_Name (wpAny_loadName_free hk hn ?_ (hcell.keeps hk₁) ?_ d3) d1
  · show List.lookup n [(n,cn)]=some cn;simp
  refine wpAny_Name (wpAny_loadName_local (v:=.int k t) hk hg hns ?_ ?_) d2
  · show List.lookup g [(g,Value.int k t)].reverse=some (Value.int k t);simp
  refine item_listR (let ⟨o,e,r⟩:=hl;⟨o,hk₁ _ _ e,r⟩) h0 hfit hx ?_ rfl;exact hQ _ _ hk₁
end
section
variable {prog:Program} {w:World} {A:Around} {R:Result->Shared->Prop} {I q:Addr} {fp wr:List Addr} {n:Nat} {P:Nat->Value->Prop} {St:Nat->Heap->Prop} {Gd:Heap->Prop}
noncomputable def vd (prog:Program) (w:World) (A:Around) (q:Addr) (P:Nat->Value->Prop) (kf:Nat->Int) (n:Nat) (Gd:Heap->Prop):Prop :=
  ∀ (i:Nat) (v:Value) (s:Shared) (Q E:Value->Shared->Prop),i < n->Gd s.heap->P i v->(∀ t h' tk,(∀ b o,s.heap.get? b=some o->h'.get? b=some o)->Q (.int (kf i) t) { s with heap:=h',toks:=tk })->wpAny (model prog w) A (call (.ref q) [v]) Q E s
theorem qa (W:Walks prog w A.in1 I fp wr n P St) (kf:Nat->Int) (ck:vd prog w A.in1 q P kf n Gd) (S:Addr) (nS:S∉fp) (hG:∀ h h',Gd h->(∀ b o,b∉wr->b≠S->h.get? b=some o->h'.get? b=some o)->Gd h') :
    ∀ (left at_:Nat) (s:Shared) (bst:Value) (tb:Tok) (c:Nat),n-(at_+1)=left->at_+1<=n->Gd s.heap->St (at_+1) s.heap->P (argBest (fun i j=>decide (kf i < kf j)) at_) bst ->
    s.heap.get? S=some { cls:=.type "list",dict:=none,data:=.seq #[bst,.int (kf (argBest (fun i j=>decide (kf i < kf j)) at_)) tb] c,slots:=#[] } ->
    (∀ v h' tk,P (argBest (fun i j=>decide (kf i < kf j)) (n-1)) v->(∀ b o,b∉wr->b≠S->s.heap.get? b=some o->h'.get? b=some o)->R (.ok (.ret v)) { s with heap:=h',toks:=tk }) ->
    codeAny (model prog w) A (.builtin "min.loop" ⟨[.ref I,.ref q,.ref S],[]⟩) R s:=by
  have nW:S∉wr:=fun z=>nS (W.sub _ z)
  have nm:(toString "min" ++ toString ".loop" : String) = "min.loop" := by decide
  generalize hbt:(fun i j=>decide (kf i < kf j))=bt;have hb0:∀ i j,bt i j=decide (kf i < kf j):=fun i j=>by rw [<- hbt]
  intro left;induction left with
  | zero =>
    intro at_ s bst tb c e1 e2 g st pb hS fin;have en:at_+1=n:=by omega
    refine codeAny_builtin PySem.F.entry_min_loop ?_;rw [Around.under_plainId PySem.F.plain_min_loop _];show wpAny _ A.in1 (seqItems? (.ref S)>>=_) _ _ s;refine wpAny_bind (wpAny_seqItems hS rfl ?_);show wpAny _ A.in1 (tryCatch (pyNext (.ref I)) _>>=_) _ _ s;refine wpAny_bind (wpAny_tryCatch (W.done s _ _ (en ▸ st) fun h' tk kp=>?_));have hS2:=kp S _ nW hS;show wpAny _ A.in1 (updateSeq S (fun _=>#[])>>=_) _ _ _;exact wpAny_bind (wpAny_updateSeq hS2 rfl (wpAny_bind (wpAny_letGo (wpAny_pure (fin bst _ tk (by rw [<- en];exact pb) fun b o nb ns e=>(Heap.get?_update_other _ _ (Ne.symm ns)).trans (kp b o nb e))))))
  | succ left ih =>
    intro at_ s bst tb c e1 e2 g st pb hS fin;have lt:at_+1 < n:=by omega
    refine codeAny_builtin PySem.F.entry_min_loop ?_;rw [Around.under_plainId PySem.F.plain_min_loop _];show wpAny _ A.in1 (seqItems? (.ref S)>>=_) _ _ s;refine wpAny_bind (wpAny_seqItems hS rfl ?_);show wpAny _ A.in1 (tryCatch (pyNext (.ref I)) _>>=_) _ _ s;refine wpAny_bind (wpAny_tryCatch (W.item (at_+1) s _ _ lt st fun v h' tk pv st2 kp=>?_));have hS2:=kp S _ nW hS;have g2:Gd h':=hG _ _ g fun b o nb _ e=>kp b o nb e
    show wpAny _ A.in1 (tryCatch (holding [v] (call (.ref q) [v])) _>>=_) _ _ _;refine wpAny_bind (wpAny_tryCatch (wpAny_holding (ck (at_+1) v _ _ _ lt g2 pv fun t2 h2 tk2 kp2=>?_)));have g3:Gd h2:=hG _ _ g2 fun b o _ _ e=>kp2 b o e
    have hS3:=kp2 S _ hS2;have st3:=W.frame _ _ h2 st2 fun b _ o e=>kp2 b o e
    show wpAny _ A.in1 (tryCatch (holding [v,.int (kf (at_+1)) t2] (richCompare .Lt (.int (kf (at_+1)) t2) (.int (kf (argBest bt at_)) tb)>>=_)) _>>=_) _ _ _;refine wpAny_bind (wpAny_tryCatch (wpAny_holding (wpAny_bind (CmpOf.ints_lt (prog:=prog) (w:=w) (A:=A.in1) (P:=fun i v=>∃ t,v=.int (kf i) t) kf (fun i v h=>h) (at_+1) (argBest bt at_) _ _ _ _ _ ⟨t2,rfl⟩ ⟨tb,rfl⟩ ?_))));refine wpAny_bind (wpAny_holding (wpAny_truthy_bool (wpAny_bind (wpAny_letGo (wpAny_pure ?_)))));cases hb:bt (at_+1) (argBest bt at_) with
    | true =>
      rw [hbt,hb];simp only [if_true];refine wpAny_bind (wpAny_updateSeq hS3 rfl (wpAny_bind (wpAny_letGo ?_)));rw [nm];refine wpAny_pure ⟨plainId_quiet PySem.F.plain_min_loop _,ih (at_+1) _ v t2 _ (by omega) lt (hG _ _ g3 fun b o _ ns e=>(Heap.get?_update_other _ _ (Ne.symm ns)).trans e) (W.frame _ _ _ st3 fun b hf o e=>(Heap.get?_update_other _ _ (fun z:S=b=>nS (by rw [z];exact hf))).trans e) (by simp only [argBest,hb,if_true];exact pv) (by simp only [argBest,hb,if_true];exact Heap.get?_update_self _ hS3 rfl)
        fun v' h4 tk4 pv' kp4=>fin v' h4 tk4 pv' fun b o nb ns e=>kp4 b o nb ns ((Heap.get?_update_other _ _ (Ne.symm ns)).trans (kp2 b o (kp b o nb e)))⟩
    | false =>
      rw [hbt,hb];simp only [Bool.false_eq_true,if_false];refine wpAny_bind (wpAny_letGo ?_);rw [nm];exact wpAny_pure ⟨plainId_quiet PySem.F.plain_min_loop _,ih (at_+1) _ bst tb c (by omega) lt g3 st3 (by simp only [argBest,hb,Bool.false_eq_true,if_false];exact pb) (by simp only [argBest,hb,Bool.false_eq_true,if_false];exact hS3) fun v' h4 tk4 pv' kp4=>fin v' h4 tk4 pv' fun b o nb ns e=>kp4 b o nb ns (kp2 b o (kp b o nb e))⟩
theorem qN {x:Value} {Q:Value->Shared->Prop} {E:Value->Shared->Prop} {s:Shared}
    (h:wpAny (model prog w) A.in1 (pyIter x) (fun it s₂=>∃ I fp wr n P St kf Gd,it=.ref I/\Walks prog w A.in1 I fp wr n P St/\St 0 s₂.heap/\(∀ b∈fp,b < s₂.heap.objs.size)/\0 < n/\vd prog w A.in1 q P kf n Gd/\Gd s₂.heap /\
      (∀ h h',Gd h->(∀ b o,b∉wr->b≠s₂.heap.objs.size->h.get? b=some o->h'.get? b=some o)->Gd h') /\
      ∀ v h' tk,P (argBest (fun i j=>decide (kf i < kf j)) (n-1)) v->(∀ b o,b∉wr->s₂.heap.get? b=some o->h'.get? b=some o)->Q v { s₂ with heap:=h',toks:=tk }) E s) :
    wpAny (model prog w) A (call (.builtin "min") [x] [(Str.ofString "key",.ref q)]) Q E s:=by
  have nm:(toString "min" ++ toString ".loop" : String) = "min.loop" := by decide
  refine kmk_tree PySem.F.kind_min PySem.F.plain_min PySem.F.entry_min (kmk_min_key _ _) ?_;show wpAny _ A.in1 (Builtin.Builtins.bindParams "min" ["key","default"] 0 ⟨[],[(Str.ofString "key",.ref q)]⟩>>=_) _ _ s;refine wpAny_bind (wpAny_of_eq (show Builtin.Builtins.bindParams "min" ["key","default"] 0 ⟨[],[(Str.ofString "key",.ref q)]⟩=pure [some (.ref q),none] from rfl) ?_);refine wpAny_bind (wpAny_pure ?_);refine wpAny_bind (wpAny_mono h (fun it s₂ q=>?_) fun _ _ e=>e);obtain ⟨I,fp,wr,n,P,St,kf,Gd,rfl,W,st,hfp,hn,ck,g,hG,fin⟩:=q;refine wpAny_bind (wpAny_newObj_type ?_);have nS:s₂.heap.objs.size∉fp:=fun z=>Nat.lt_irrefl _ (hfp _ z)
  have nW:s₂.heap.objs.size∉wr:=fun z=>nS (W.sub _ z)
  rw [nm];refine wpAny_pure ⟨plainId_quiet PySem.F.plain_min_loop _,?_⟩;have gp:Gd (s₂.heap.push { cls:=.type "list",data:=.seq #[] }):=hG _ _ g fun b o _ _ e=>Heap.get?_push_of_some _ e
  have oE:=W.frame 0 _ (s₂.heap.push { cls:=.type "list",data:=.seq #[] }) st fun b _ o e=>Heap.get?_push_of_some _ e
  have hS:(s₂.heap.push { cls:=.type "list",data:=.seq #[] }).get? s₂.heap.objs.size=some { cls:=.type "list",dict:=none,data:=.seq #[] 0,slots:=#[] }:=Heap.get?_push_size _ rfl;refine codeAny_builtin PySem.F.entry_min_loop ?_;rw [Around.under_plainId PySem.F.plain_min_loop _];show wpAny _ A.in1 (seqItems? (.ref s₂.heap.objs.size)>>=_) _ _ _;refine wpAny_bind (wpAny_seqItems hS rfl ?_);show wpAny _ A.in1 (tryCatch (pyNext (.ref I)) _>>=_) _ _ _;refine wpAny_bind (wpAny_tryCatch (W.item 0 _ _ _ hn oE fun v h' tk pv st2 kp=>?_));have hS2:=kp _ _ nW hS;have g2:Gd h':=hG _ _ gp fun b o nb _ e=>kp b o nb e
  show wpAny _ A.in1 (tryCatch (holding [v] (call (.ref _) [v])) _>>=_) _ _ _;refine wpAny_bind (wpAny_tryCatch (wpAny_holding (ck 0 v _ _ _ hn g2 pv fun t2 h2 tk2 kp2=>?_)));have g3:Gd h2:=hG _ _ g2 fun b o _ _ e=>kp2 b o e
  have hS3:=kp2 _ _ hS2;have st3:=W.frame _ _ h2 st2 fun b _ o e=>kp2 b o e
  show wpAny _ A.in1 (updateSeq s₂.heap.objs.size (fun _=>#[v,.int (kf 0) t2])>>=_) _ _ _;refine wpAny_bind (wpAny_updateSeq hS3 rfl ?_);rw [nm];refine wpAny_pure ⟨plainId_quiet PySem.F.plain_min_loop _,qa W kf ck s₂.heap.objs.size nS hG _ 0 _ v t2 _ rfl hn (hG _ _ g3 fun b o nb ns e=>(Heap.get?_update_other _ _ (Ne.symm ns)).trans e) (W.frame _ _ _ st3 fun b hf o e=>(Heap.get?_update_other _ _ (fun z:s₂.heap.objs.size=b=>nS (by rw [z];exact hf))).trans e) pv (Heap.get?_update_self _ hS3 rfl) fun v' h4 tk4 pv' kp4=>?_⟩;exact fin v' h4 tk4 pv' fun b o nb e=>kp4 b o nb (Nat.ne_of_lt (Heap.lt_size e)) ((Heap.get?_update_other _ _ (Nat.ne_of_gt (Heap.lt_size e))).trans (kp2 b o (kp b o nb (Heap.get?_push_of_some _ e))))
end
theorem lT {pos:Pos} {a b:Int} {c cv:Value} (l:List Value) (h:TriplesOk l) (e:codeAmong pos (l++[rawInt a,rawInt b,c])=some cv):codeAmong pos l=some cv\/cv=c:=by
  fun_induction TriplesOk l with
  | case1 =>
    simp only [List.nil_append,rawInt,codeAmong] at e;split at e
    · exact .inr (Option.some.inj e).symm
    · cases e
  | case2 a' t b' u x rest ih =>
    simp only [List.cons_append,codeAmong] at e ⊢;split at e
    · rename_i hc;rw [if_pos hc];exact .inl e
    · rename_i hc;rw [if_neg hc];exact ih h e
  | case3 l h1 h2=>exact h.elim
section
variable {X:Cx} {pins:List (Addr×Obj)} {σ:L2.St} {H:Hp} {s:Shared}
theorem l6 {c P:Addr} {params:Arguments} {body:Expr} {scope:Scope} {pos:Pos} {clos:List (Str×Addr)} {Q:Value->Shared->Prop} {E:Value->Shared->Prop}
    (I:ap X pins σ H s) (hcode:X.env.code=.ref c) (C:PySem.W.CodeHd X.base c P) (hH:H P=some (.tbl (X.env.qual ++ "<lambda>"))) (hdef:defaultsOf params X.env=([],[])) (hcl:closureFor scope X.env=pure clos)
    (h:∀ f c' ctv h' H' tk,ap X pins σ H' { s with heap:=h',toks:=tk }->al H H'->(∀ b o,b≠P->s.heap.get? b=some o->h'.get? b=some o) ->
      h'.get? f=some (PySem.W.kla_obj "<lambda>" (X.env.qual ++ "<lambda>") params body scope clos ((X.mg "__name__").getD .none) c' ctv)->h'.CodeRec (.ref c') (X.env.qual ++ "<lambda>")->Q (.ref f) { s with heap:=h',toks:=tk }) :
    wpAny (model X.prog X.w) X.A (eval (.Lambda params body scope pos) X.env) Q E s:=by
  refine PySem.W.kla_eval hdef ?_;obtain ⟨ps,hP,ht,hk⟩:=I.hok P _ hH;have hg:s.heap.Ns mainGlobals X.mg:=I.mod.glob.keeps I.bk;obtain ⟨og,_,_,hog,hogd,_⟩:=id I.mod.glob;have hgP:mainGlobals≠P:=fun z=>by
    have e:=(I.bs _ _ hog).2;rw [z,hH] at e;cases e
  obtain ⟨bm,ob,b1,b2,b3,b4,b5,b6⟩:=I.mod.bmain;have hbG:bm≠mainGlobals:=fun z=>by rw [z,hog] at b3;cases b3;rw [hogd] at b6;cases b6
  have hbP:bm≠P:=fun z=>by
    have e:=(I.bs _ _ b3).2;rw [z,hH] at e;cases e
  have hb:s.heap.BuiltinsAt X.mg P:=⟨bm,ob,b1,b2,hbG,hbP,I.bk _ _ b3,b4,b5,b6⟩
  have hlt:P < s.heap.objs.size:=I.hok.lt hH;cases hca:codeAmong pos ps.toList with
  | none =>
    refine PySem.W.kla_makeFunction hcl I.ok.glob hg hcode (C.keeps I.bk) hP ht hca hgP hb fun c' ctv h' tk hx hge hlt' hrec htb=>?_
    have nc':H c'=none:=I.hok.fresh hge;have cP:c'≠P:=fun z=>by rw [z] at hge;exact absurd hlt (Nat.not_lt.mpr hge)
    have nP:∀ b,H b=none->b≠P:=fun b n z=>by rw [z,hH] at n;cases n
    have old:∀ b o,b≠P->s.heap.get? b=some o->(h'.push (PySem.W.kla_obj "<lambda>" (X.env.qual ++ "<lambda>") params body scope clos ((X.mg "__name__").getD .none) c' ctv)).get? b=some o:=fun b o hb e=>Heap.get?_push_of_some _ (hx b o hb e)
    have tP:=Heap.get?_push_of_some (PySem.W.kla_obj "<lambda>" (X.env.qual ++ "<lambda>") params body scope clos ((X.mg "__name__").getD .none) c' ctv) htb;have un:Un X.fs [] H (bP H c' (.own P)) s.heap (h'.push (PySem.W.kla_obj "<lambda>" (X.env.qual ++ "<lambda>") params body scope clos ((X.mg "__name__").getD .none) c' ctv)):=by
      refine ⟨fun b o e n _ _=>old b o (nP b n) e,fun b o e n _ _=>⟨o.slots,old b o (nP b n) e⟩,fun b o e n _=>?_,fun b o e _=>?_,fun b xs q=>?_,fun b o u q=>?_,fun b q' q=>?_⟩
      · rw [am (Nat.ne_of_lt (Nat.lt_of_lt_of_le (Heap.lt_size e) hge))];exact n
      · by_cases hb:b=P
        · subst hb;exact ⟨_,tP⟩
        · exact ⟨o,old b o hb e⟩
      · rw [am (aq q nc')];exact q
      · rw [am (aq q nc')];exact q
      · rw [am (aq q nc')];exact q
    obtain ⟨c₂,oc,vs,t,e2,hoc,hd,hv⟩:=id hrec;cases e2;have hoc':=Heap.get?_push_of_some (PySem.W.kla_obj "<lambda>" (X.env.qual ++ "<lambda>") params body scope clos ((X.mg "__name__").getD .none) c' ctv) hoc;have ok:dk X.prog X.w (bP H c' (.own P)) (h'.push (PySem.W.kla_obj "<lambda>" (X.env.qual ++ "<lambda>") params body scope clos ((X.mg "__name__").getD .none) c' ctv)):=fun b u e=>by
      by_cases hb:b=c'
      · subst hb;rw [aW] at e;cases e;exact ⟨_,hoc'⟩
      · rw [am hb] at e;by_cases hbP:b=P
        · subst hbP;rw [hH] at e;cases e;refine ⟨_,tP,?_,fun pos' cv z=>?_⟩
          · rw [Array.toList_append];exact TriplesOk_snoc _ _ _ _ ht
          · rw [Array.toList_append] at z;rcases lT _ ht z with z | z
            · obtain ⟨c1,o1,vs1,t1,k1,k2,k3,k4⟩:=hk pos' cv z;have hne:c1≠b:=fun y=>by rw [y,hH] at k2;cases k2
              exact ⟨c1,o1,vs1,t1,k1,by rw [am (aq k2 nc')];exact k2,old _ _ hne k3,k4⟩
            · exact ⟨c',oc,vs,t,z,aW,hoc',hd,hv⟩
        · refine (I.hok b u e).stay (fun d v hd' q=>old d v ?_ q) (fun d q=>by rw [am (aq q nc')];exact q) fun d xs q=>by rw [am (aq q nc')];exact q
          rcases hd' with z | z
          · rw [z];exact hbP
          · intro y;rw [y,hH] at z;cases z
    exact h _ c' ctv _ _ tk (I.un un ok) (fun b o e=>by rw [am (aq e nc')];exact e) old (Heap.get?_push_size _ rfl) (hrec.push _)
  | some cv =>
    obtain ⟨c1,o1,vs1,t1,k1,k2,k3,k4⟩:=hk pos cv hca;subst k1;refine PySem.W.kla_makeFunctionHit hcl I.ok.glob hg hcode (C.keeps I.bk) hP ht hca hb fun ctv h' tk hkp hsz=>?_
    have old:=fun b o (e:s.heap.get? b=some o)=>Heap.get?_push_of_some (PySem.W.kla_obj "<lambda>" (X.env.qual ++ "<lambda>") params body scope clos ((X.mg "__name__").getD .none) c1 ctv) (hkp b o e)
    exact h _ c1 ctv _ H tk (I.kept old) (al.refl _) (fun b o _ e=>old b o e) (Heap.get?_push_size _ rfl) ⟨c1,o1,vs1,t1,rfl,old _ _ k3,k4⟩
end
noncomputable def jt (ks:List PyData):PyData->Bool
  | .int i=>decide (0<=i)&&(match ks[i.toNat]? with | some (.int _)=>true | _=>false)
  | _=>false
noncomputable def dZ (ks:List PyData):PyData->Int
  | .int i=>(match ks[i.toNat]? with | some (.int k)=>k | _=>0)
  | _=>0
noncomputable def im:PyData->PyData->R PyData
  | .list ks,.tuple gs=>if gs.isEmpty=false/\gs.all (jt ks)=true then .ok (gs.getD (argBest (fun i j=>decide (dZ ks (gs.getD i .none) < dZ ks (gs.getD j .none))) (gs.length-1)) .none) else .no
  | _,_=>.no
noncomputable def jn (i:Nat) (fe:Fe):Fe:=fun ρ=>fe ρ>>=fun d=>ag i ρ>>=fun nd=>im nd d
noncomputable def ve (X:Cx):Prop:=∃ c P x,x∈jW/\X.env.code=.ref c/\PySem.W.codeHdIn X.K c P=true/\PySem.W.tabIn X.K x=some (c,P)/\X.env.qual=x ++ ".<locals>."
theorem pY {ks:List PyData} {d:PyData} (h:jt ks d=true):∃ i k,d=.int i/\0<=i/\ks[i.toNat]?=some (.int k)/\dZ ks d=k:=by
  cases d with
  | int i =>
    simp only [jt,Bool.and_eq_true,decide_eq_true_eq] at h;obtain ⟨h1,h2⟩:=h;split at h2
    · rename_i k e;exact ⟨i,k,rfl,h1,e,by simp only [dZ,e]⟩
    · cases h2
  | _=>cases h
theorem mJ {bt:Nat->Nat->Bool}:∀ k,argBest bt k<=k
  | 0=>Nat.le_refl _
  | k+1=>by
    simp only [argBest];split
    · exact Nat.le_refl _
    · exact Nat.le_succ_of_le (mJ k)
section
variable {X:Cx} {nl:Nat} {G:List Str}
theorem nz {e:Expr} {fe:Fe} {n g:Str} {params:Arguments} {scope:Scope} {p1 p2 p3 p4 p5 p6 p7:Pos} (T:Tb X nl G) (j:Nat) (hG:G[j]?=some ("min" : Str)) (hm:X.mg "min" = none) (i:Nat) (hN:X.N[i]?=some n) (hr:X.A.in1.depth < recursionLimit) (L:ve X) (hcl:∃ cn,closureFor scope X.env=pure [(n,cn)]/\X.env.cells.lookup n=some cn/\X.env.kindOf n=some .cell) (hdef:defaultsOf params X.env=([],[])) (hco:scope.isCoroutine=false) (hgen:scope.isGenerator=false) (hk:scope.kind=.function) (hnc:∀ x∈scope.names,x.2≠.cell) (hg:scope.names.lookup g=some .local) (hn:scope.names.lookup n=some .free) (hbind:∀ (cl:List (Str×Addr)) (pm ctv:Value) (q:Str) (c':Addr) (v:Value),bindArgs (PySem.W.kla_fn "<lambda>" q params (.Subscript (.Name n p2) (.Name g p3) p4) scope cl pm (.ref c') ctv) ⟨[v],[]⟩=pure [(g,v)]) (d1:(n==("__debug__" : Str))=false) (d2:(g==("__debug__" : Str))=false) (d3:(n==("__classdict__" : Str))=false) (he:Z.bD X e fe) (hs:ax e=true:=by rfl):Z.bD X (.Call (.Name "min" p1) [e] [⟨some "key",.Lambda params (.Subscript (.Name n p2) (.Name g p3) p4) scope p5,p6⟩] p7) (jn i fe):=⟨have he:=he.un;by
  intro pins s σ H Q I hq;obtain ⟨c,P,x,hxl,hcode,hch,htab,hqual⟩:=L;obtain ⟨cn,hclo,hcel,hkind⟩:=hcl;have gg:=T.gl "min" (List.mem_of_getElem? hG);refine wpAny_Call_Name_kw (gE I gg.1 hm PyProof.Rows.boot_min ?_ gg.2.2 gg.2.1);have C:PySem.W.CodeHd X.base c P:=PySem.W.codeHd_of_K I.mod.kin hch;have hh:X.A.in1.handled=none:=I.ok.hd T.calm;refine PyProof.Rows.callWith_kw (id := "min") (e:=e) (rest:=[]) ?_ (by rw [aL hs];rfl) (iJ (by simp [hs])) rfl rfl;have ha:mC X [e] (ak fe be):=ft he jS hs;refine bX (ha p7 pins s σ H _ I (gx (I:=Rp) (f:=ak fe be) (k:=fun ρ ds=>one (fun d=>ag i ρ>>=fun nd=>im nd d) ds) (cX (X:=X) cu Q) ?_)) fun us s1 ⟨vs,H1,I1,r1,ρ1,ds,sl1,S1,p1,q1⟩=>?_
  · obtain ⟨ρ,sl,q⟩:=hq;refine ⟨ρ,sl,?_⟩;have ee:(ak fe be ρ>>=fun ds=>one (fun d=>ag i ρ>>=fun nd=>im nd d) ds)=jn i fe ρ:=by
      unfold ak be jn;cases fe ρ <;> rfl
    rw [ee];exact q
  have hds:∃ d,ds=[d]:=by
    match ds,q1 with
    | [d],_=>exact ⟨d,rfl⟩
    | [],q1=>exact q1.elim
    | _::_::_,q1=>exact q1.elim
  obtain ⟨d,rfl⟩:=hds;have q2:lG X eJ (ag i ρ1>>=fun nd=>im nd d) H1 Q:=q1;simp only [RA] at p1;obtain ⟨v,r',ev,pv,er⟩:=p1;subst er;subst ev;obtain ⟨u,rfl,ru⟩:=dE r1;unfold ag at q2;split at q2
  case h_2=>exact q2.elim
  rename_i nd eρ;obtain ⟨o0,eσ,v2,eo,pn⟩:=sl1.at eρ;subst eo;have q3:lG X eJ (im nd d) H1 Q:=q2;cases nd with
  | list ks =>
    cases d with
    | tuple gs =>
      simp only [im] at q3;split at q3
      case isFalse=>exact q3.elim
      rename_i hcond;obtain ⟨hne,hall⟩:=hcond;simp only [Rp] at pv pn;obtain ⟨a,gvs,rfl,ha1,rg⟩:=pv;obtain ⟨l,ol,kvs,rfl,hl1,rk⟩:=pn;cases ru;have hH:H1 P=some (.tbl (X.env.qual ++ "<lambda>")):=by
        rw [hqual];exact I1.base.tbls _ _ (I1.ok.tab x hxl c P htab)
      refine wpAny_evalAll_cons (wpAny_bind (l6 I1 hcode C hH hdef hclo fun f c' ctv h' H2 tk I2 S2 keep hf hrec=>?_));refine wpAny_bind (wpAny_standAt (wpAny_pure (wpAny_evalAll_nil ?_)));show wpAny _ _ (call (.builtin "min") [.ref a] [(Str.ofString "key",.ref f)]) _ _ _;obtain ⟨its,rv,pt,hz⟩:=I2.tuple (cx.of (S2 _ _ ha1));obtain ⟨lits,rl,pl,hzl⟩:=I2.list (.inl (.inr ⟨ol,S2 _ _ hl1⟩));have hlen:its.length=gs.length:=by rw [<- rv.length,rg.length]
      have llen:lits.length=ks.length:=by rw [<- rl.length,rk.length]
      have pos:0 < gs.length:=by
        cases gs with
        | nil=>cases hne
        | cons=>simp
      have hcell:h'.IsCell cn (some (.ref l)):=by
        obtain ⟨m,hn',hl'⟩:=I2.loc;obtain ⟨u,ru,lk⟩:=hl' i n _ hN eσ (.inr (.inl hkind));cases ru;rcases lk with ⟨k1,_⟩ | ⟨_,c2,k2,k3⟩
        · rw [hkind] at k1;cases k1
        · rw [hcel] at k2;cases k2;exact k3
      have lim:h'.NoLimit:=I2.nolimit;have key:∀ j,j < gs.length->∃ k kk w,gs[j]?=some (.int k)/\0<=k/\k < 2 ^ 63/\lits[k.toNat]?=some w/\(∃ t,w=.int kk t)/\dZ ks (gs.getD j .none)=kk/\∃ t,its[j]?=some (.int k t):=fun j hj=>by
        have e1:gs[j]?=some gs[j]:=List.getElem?_eq_getElem hj;obtain ⟨k,kk,ed,k0,ek,ei⟩:=pY (List.all_eq_true.mp hall gs[j] (List.getElem_mem hj));obtain ⟨v,g1,g2⟩:=rg.get e1;rw [ed] at g2;simp only [Rp] at g2;subst g2;obtain ⟨u,g3,t,g4⟩:=rv.get g1;obtain ⟨v',l1,l2⟩:=rk.get ek;simp only [Rp] at l2;subst l2;obtain ⟨u',l3,l4⟩:=rl.get l1;have hk':k.toNat < ks.length:=(List.getElem?_eq_some_iff.mp ek).1;have hn:=gF;have hz':=hzl;rw [rk.length] at hz';refine ⟨k,kk,u',by rw [e1,ed],k0,by omega,l3,l4,?_,t,by rw [g3,g4]⟩;rw [List.getD_eq_getElem?_getD,e1];exact ei
      refine qN (wpAny_pyIter_tuple pt ?_);have alt:a < h'.objs.size:=by obtain ⟨o,e,_⟩:=pt;exact Heap.lt_size e
      refine ⟨h'.objs.size,_,_,its.toArray.size,_,_,fun j=>dZ ks (gs.getD j .none),fun h=>∀ b o,h'.get? b=some o->h.get? b=some o,rfl,Walks.tuple hh h'.objs.size a (Nat.ne_of_lt alt) its.toArray,⟨⟨_,Heap.get?_push_size _ rfl,rfl,rfl⟩,?_⟩,fun b hb=>?_,by rw [List.size_toArray,hlen];exact pos,fun j v s' Q' E' hj g' pv fin=>?_,fun b o e=>Heap.get?_push_of_some _ e,fun h1 h2 g' k b o e=>k b o ?_ ?_ (g' b o e),fun v h3 tk3 pv kp=>?_⟩
      · obtain ⟨o,e,r⟩:=pt;exact ⟨o,Heap.get?_push_of_some _ e,r⟩
      · rcases List.mem_cons.mp hb with z | z
        · rw [z];simp [Heap.size_push]
        · rw [List.mem_singleton.mp z];simp only [Heap.size_push];exact Nat.lt_succ_of_lt alt
      · rw [List.size_toArray,hlen] at hj;obtain ⟨k,kk,w,e1,k0,k1,l1,⟨tw,l2⟩,e2,t,e3⟩:=key j hj;have pv':its[j]?=some v:=by simpa using pv
        rw [e3] at pv';cases pv';subst l2;obtain ⟨oo,ee,rr⟩:=pl.isList;refine pZ (x:=.int kk tw) (items:=lits.toArray) hr (g' _ _ hf) (hrec.keeps g') (lim.keeps g') (hcell.keeps g') ⟨oo,g' _ _ ee,rr⟩ k0 k1 (by simpa using l1) hco hgen hk hnc hg hn (fun v=>hbind _ _ _ _ _ v) d1 d2 d3 fun h4 tk4 kp4=>?_
        have:=fin tw h4 tk4 kp4;dsimp only at this;rw [e2] at this;exact this
      · rw [List.mem_singleton];exact Nat.ne_of_lt (Heap.lt_size e)
      · refine Nat.ne_of_lt ?_;simp only [Heap.size_push];exact Nat.lt_succ_of_lt (Heap.lt_size e)
      · have hb1:=mJ (bt:=fun i j=>decide (dZ ks (gs.getD i .none) < dZ ks (gs.getD j .none))) (gs.length-1);rw [List.size_toArray,hlen] at pv;generalize hB:argBest (fun i j=>decide (dZ ks (gs.getD i .none) < dZ ks (gs.getD j .none))) (gs.length-1)=B at pv hb1 q3;have hB2:B < gs.length:=by omega
        obtain ⟨k,kk,w,e1,k0,k1,l1,l2,e2,t,e3⟩:=key B hB2;have pv':its[B]?=some v:=by simpa using pv
        rw [e3] at pv';cases pv';have ed:gs.getD B .none=.int k:=by rw [List.getD_eq_getElem?_getD,e1];rfl
        rw [ed] at q3;refine ⟨.int k,H2,I2.kept fun b o e=>?_,⟨t,rfl⟩,q3 _ H2 S2 (by simp only [Rp])⟩;exact kp b o (by rw [List.mem_singleton];exact Nat.ne_of_lt (Heap.lt_size e)) (Heap.get?_push_of_some _ e)
    | _=>exact q3.elim
  | _=>exact q3.elim⟩
end
theorem nB {P:Program} {w:World} {K:PySem.W.Frag} {mg:Str->Option Value} {base:Heap} {x qual:Str} {st:Stmt} {f:Addr} {fd:FuncData} {N ps:List Str} {k:Nat} {g:Fs} (F:gM K x qual st f fd) (S:aO N ps (ah st))
    (body:∀ (cdv:Value) (A:Around) (outer:List Env) (s:Shared) (H:Hp) (E:XK),cH k (A.deeper (envOfC qual (ah st) s.heap.objs.size f cdv)) ->
      Z.fI (ci (cN P w mg) P w K mg base N qual (ah st) f cdv A outer s H E) (bi st) g):bj P w K mg base (cN P w mg) (k+1) f fd ps (eM (eL N.length g) ps.length) :=
  D2.rH F S fun cdv A outer s H E hr=>(body cdv A outer s H E hr).un
theorem aU {P:Program} {w:World} {K:PySem.W.Frag} {mg:Str->Option Value} {base:Heap} {x qual:Str} {st:Stmt} {f:Addr} {fd:FuncData} {N ps:List Str} {k:Nat} {g:Fs} {G:List Str} (F:gM K x qual st f fd) (S:aO N ps (ah st)) (ck:kn (ah st) N G)
    (body:∀ (cdv:Value) (A:Around) (outer:List Env) (s:Shared) (H:Hp) (E:XK),cH k (A.deeper (envOfC qual (ah st) s.heap.objs.size f cdv))->Tb (ci (cN P w mg) P w K mg base N qual (ah st) f cdv A outer s H E) N.length G ->
      Z.fI (ci (cN P w mg) P w K mg base N qual (ah st) f cdv A outer s H E) (bi st) g):bj P w K mg base (cN P w mg) (k+1) f fd ps (eM (eL N.length g) ps.length) :=
  nB F S fun cdv A outer s H E hr=>body cdv A outer s H E hr (pD hr ck)
theorem lA {K:PySem.W.Frag} {x:Str} {f c P:Addr} {oc oc':Value} {od od':Option Addr} {fd:FuncData} {osl sl':Array (Option Value)} {vs:Array Value} (a:PySem.W.nsIn K mainGlobals x=some (some (.ref f))) (l:K.lookup f=some ⟨oc,od,.func fd,osl⟩) (hc:fd.code=.ref c)
    (lc:K.lookup c=some ⟨oc',od',.fields vs,sl'⟩) (h:(vs[11]?:Option Value)=some (.ref P)):PySem.W.tabIn K x=some (c,P):=by
  unfold PySem.W.tabIn;simp only [a,l,hc,lc,h]
theorem nM {K:PySem.W.Frag} {c P:Addr} {od':Option Addr} {sl':Array (Option Value)} {vs:Array Value} (lc:K.lookup c=some ⟨.type "code",od',.fields vs,sl'⟩) (h:((match (vs[11]?:Option Value) with | some (.ref P')=>P'==P | _=>false) &&
      (match vs.getD 18 .none with | .str _ _=>true | _=>false)&&(match vs.getD 7 .none with | .int _ _=>true | _=>false) &&
      (match vs.getD 9 .none with | .bool _=>true | _=>false)&&(match vs.getD 10 .none with | .int _ _=>true | _=>false)&&c != P)=true):PySem.W.codeHdIn K c P=true:=by
  unfold PySem.W.codeHdIn;rw [lc];exact h
theorem qy {k:Nat} {A:Around} (r:cH k A):A.in1.depth < recursionLimit:=Nat.lt_of_le_of_lt (show A.depth<=A.depth+3*k+5 by omega) r.dp
theorem pI {P:Program} {w:World} {K:PySem.W.Frag} {mg:Str->Option Value} {base:Heap} {x qual:Str} {st:Stmt} {f:Addr} {fd:FuncData} {N ps:List Str} {k:Nat} {g:Fs} {C:Value->Prop} (ex:∃ (oc:Value) (od:Option Addr) (kV doc pm:Value) (an:Option Addr) (cdv ct:Value) (osl:Array (Option Value)),fd=PySem.W.fnOf x qual (ca st) (bi st) (ah st) .none kV doc pm an cdv ct/\K.lookup f=some ⟨oc,od,.func fd,osl⟩/\PySem.W.codeIn K cdv qual=true/\C cdv) (S:aO N ps (ah st))
    (body:∀ (cdv:Value),C cdv->∀ (A:Around) (outer:List Env) (s:Shared) (H:Hp) (E:XK),cH k (A.deeper (envOfC qual (ah st) s.heap.objs.size f cdv)) ->
      fI (ci (cN P w mg) P w K mg base N qual (ah st) f cdv A outer s H E) (bi st) g):bj P w K mg base (cN P w mg) (k+1) f fd ps (eM (eL N.length g) ps.length):=by
  obtain ⟨oc,od,kV,doc,pm,an,cdv,ct,osl,rfl,lk,hcd,hC⟩:=ex;refine pJ lk hcd S (fun vs H Q E ⟨ds,r,hl,_⟩=>by rw [r.length];exact hl) fun A outer s H vs Q E hr h=>?_
  obtain ⟨ds,r,hl,q⟩:=h;have noOwn:∀ (i:Nat) (d:PyData),(ds.map cg.val++List.replicate (N.length-ds.length) cg.non)[i]?=some (.own d)->False:=fun i d h1=>by
    by_cases hi:i < ds.length
    · rw [List.getElem?_append_left (by simpa using hi),List.getElem?_map] at h1;cases e:ds[i]? with
      | none=>rw [e] at h1;cases h1
      | some d=>rw [e] at h1;cases h1
    · rw [List.getElem?_append_right (by simpa using hi),List.getElem?_replicate] at h1;split at h1
      · cases h1
      · cases h1
  refine ⟨_,body cdv hC A outer s H E hr H,_,⟨al.refl _,lw r,fun i d a h1 h2=>(noOwn i d h1).elim,fun i j d e a h1 h2 h3 h4=>(noOwn i d h1).elim⟩,?_⟩;unfold eL at q;cases eg:g (ds.map cg.val++List.replicate (N.length-ds.length) .non) with
  | ex c=>rw [eg] at q;exact ⟨qO q,np q⟩
  | no=>rw [eg] at q;exact q.elim
  | ok o =>
    rw [eg] at q;cases o with
    | rt d=>exact fun v H' s' p=>q v H' s' p
    | nx ρ=>exact fun σ' H' s'=>q .non H' s'.fm (by simp only [Rp])
    | bk ρ=>exact q.elim
    | ct ρ=>exact q.elim
theorem lS {P:Program} {w:World} {K:PySem.W.Frag} {mg:Str->Option Value} {base:Heap} {x:Str} {st:Stmt} {f c T:Addr} {fd:FuncData} {N ps:List Str} {k:Nat} {g:Fs} {G:List Str} (F:gM K x x st f fd) (S:aO N ps (ah st)) (ck:kn (ah st) N G)
    (hx:x∈jW) (ns:PySem.W.nsIn K mainGlobals x=some (some (.ref f))) (tb:PySem.W.tabIn K x=some (c,T)) (ch:PySem.W.codeHdIn K c T=true)
    (body:∀ (cdv:Value) (A:Around) (outer:List Env) (s:Shared) (H:Hp) (E:XK),cH k (A.deeper (envOfC x (ah st) s.heap.objs.size f cdv))->Tb (ci (cN P w mg) P w K mg base N x (ah st) f cdv A outer s H E) N.length G->ve (ci (cN P w mg) P w K mg base N x (ah st) f cdv A outer s H E) ->
      Z.fI (ci (cN P w mg) P w K mg base N x (ah st) f cdv A outer s H E) (bi st) g):bj P w K mg base (cN P w mg) (k+1) f fd ps (eM (eL N.length g) ps.length):=by
  obtain ⟨oc,od,kV,doc,pm,an,cdv,ct,osl,e,lk,hcd⟩:=F.ex;have ec:cdv=.ref c:=by
    have t:=tb;unfold PySem.W.tabIn at t;rw [ns] at t;simp only [lk,e,PySem.W.fnOf] at t;cases cdv with
    | ref c0 =>
      simp only at t;split at t
      · split at t
        · cases t;rfl
        · cases t
      · cases t
    | _=>cases t
  refine D2.pI (C:=fun cd=>cd=.ref c) ⟨oc,od,kV,doc,pm,an,cdv,ct,osl,e,lk,hcd,ec⟩ S fun cd hc A outer s H E hr=>?_
  exact (body cd A outer s H E hr (pD hr ck) ⟨c,T,x,hx,hc,ch,tb,rfl⟩).un
noncomputable def hZ (K:PySem.W.Frag):Bool:=K.all fun p=>match p.2.cls with
  | .type n=>!(n == "list")
  | _=>true
theorem iC {α β:Type} [BEq α] {a:α} {o:β}:∀ {K:List (α×β)},K.lookup a=some o->∃ p∈K,p.2=o
  | [],e=>by cases e
  | (b,x)::r,e=>by
    rw [List.lookup_cons] at e;split at e
    · cases e;exact ⟨_,List.mem_cons_self,rfl⟩
    · obtain ⟨p,h1,h2⟩:=iC e;exact ⟨p,List.mem_cons_of_mem _ h1,h2⟩
theorem mj {K:PySem.W.Frag} (h:hZ K=true) {a:Addr} {o:Obj} (e:K.lookup a=some o) (c:o.cls=.type "list"):False:=by
  obtain ⟨p,m,rfl⟩:=iC e;have q:=List.all_eq_true.mp h _ m;simp only [c] at q;simp at q
noncomputable def sT (F:List PyData->R PyData):Prop:=∀ ns:List Int,ns.length<=63->F [.list (ns.map .int)]=.ok (.bool true)
theorem yF {l:PySem.W.OpenLaw} {q:Program} {loose:List Str} {XP:(Str->Option Value)->Heap->Prop} {YP:World->Heap->Prop} {d:DefRec} {K:Params->PySem.W.Frag} {k:Nat} {x:Str} {F:List PyData->R PyData} {dl:DefRec} {c T:Addr} (hn:l.most=some 63) (hdf:d.params.defaults=[])
    (hr:cH k callerA) (hY:∀ (w:World) (h:Heap),YP w h->(K w.params).In h) (hF:sT F) (hq:(recsOf q).find? (fun e=>e.name==("cheapest_goal" : Str))=some dl) (ht:∀ w:World,PySem.W.tabIn (K w.params) "cheapest_goal" = some (c,T)) (nt:∀ w:World,PySem.W.noTabs (K w.params)=true)
    (G:∀ (w:World) (mg:Str->Option Value) (fa:Addr) (h:Heap),(K w.params).In h->h.Ns mainGlobals mg->mg d.name=some (.ref fa) ->
      hZ (K w.params)=true/\∃ fd:FuncData,(∀ (s:Shared) (u:Value),BindsTo s fd ⟨[u],[]⟩ [(x,u)])/\∀ base:Heap,(K w.params).In base->base.Ns mainGlobals mg->bj l.prog w (K w.params) mg base (cN l.prog w mg) k fa fd [x] (eM F 1)) :
    PySem.W.WalkO q loose XP YP l.row.toRowW d [] (fun f vs=>PySem.call f vs):=by
  refine Att.attach_call hn hdf fun w s₀ s₁ mg mb fa o pm cd doc a vs ns G0 Y ho hd hcd hmg hobj hints hlen hg=>?_
  have KX:=hY w _ Y;obtain ⟨nl,fd,hb,hG⟩:=G w mg fa _ KX G0.T.g hmg;obtain ⟨hC,hTb⟩:=PySem.W.tab_of G0.T KX hq (ht w);refine L2.p0 (sp:=eM F 1) (q0 := "cheapest_goal" ++ ".<locals>." ++ "<lambda>") KX G0.T.g G0.T.b G0.T.builtins G0.T.nolimit G0.T.bmain hg hobj hints (Nat.le_trans hlen (by decide)) hr (nt w) hC hTb (fun H h y hy c' P' e=>by
    obtain rfl:y = "cheapest_goal" := List.mem_singleton.mp hy;rw [ht w] at e;cases e;exact h) hG hb (fun H hO hS=>?_) fun H e s' ⟨_,_,_,_,_,z⟩=>z
  refine ⟨[.list (ns.map .int)],aI.cons ?_ aI.nil,rfl,?_⟩
  · rcases hS with (h | ⟨o,h⟩) | ⟨o,its,n,h,c,_⟩
    · rcases hO a with z | ⟨o,xs,z⟩ | ⟨_,q,z⟩
      · rw [z] at h;cases h
      · rw [z] at h;cases h
      · rw [z] at h;cases h
    · simp only [Rp];exact ⟨a,o,_,rfl,h,aI.ints ns⟩
    · exact (mj nl h c).elim
  · rw [hF ns hlen];intro v H' _ r;simpa only [Rp] using r
section
variable {K:PySem.W.Frag} {x qual:Str} {st:Stmt} {f:Addr} {fd:FuncData} {p1 p2 p3 p4 p5 p6 p7:Str}
theorem xK (F:gM K x qual st f fd) (h:∀ (kV doc pm:Value) (an:Option Addr) (cdv ct:Value) (a1:Value),bindArgs (PySem.W.fnOf x qual (ca st) (bi st) (ah st) .none kV doc pm an cdv ct) ⟨[a1],[]⟩=pure [(p1,a1)]):bQ K fd [p1] []:=F.binds fun kV doc pm an cdv ct us hl=>by
    obtain ⟨a1,r0,rfl,q0⟩:=D2.n6 hl;obtain rfl:=List.eq_nil_of_length_eq_zero q0;exact h kV doc pm an cdv ct a1
theorem tM (F:gM K x qual st f fd) (h:∀ (kV doc pm:Value) (an:Option Addr) (cdv ct:Value) (a1 a2:Value),bindArgs (PySem.W.fnOf x qual (ca st) (bi st) (ah st) .none kV doc pm an cdv ct) ⟨[a1,a2],[]⟩=pure [(p1,a1),(p2,a2)]):bQ K fd [p1,p2] []:=F.binds fun kV doc pm an cdv ct us hl=>by
    obtain ⟨a1,r0,rfl,q0⟩:=D2.n6 hl;obtain ⟨a2,r1,rfl,q1⟩:=D2.n6 q0;obtain rfl:=List.eq_nil_of_length_eq_zero q1;exact h kV doc pm an cdv ct a1 a2
theorem yL (F:gM K x qual st f fd) (h:∀ (kV doc pm:Value) (an:Option Addr) (cdv ct:Value) (a1 a2 a3:Value),bindArgs (PySem.W.fnOf x qual (ca st) (bi st) (ah st) .none kV doc pm an cdv ct) ⟨[a1,a2,a3],[]⟩=pure [(p1,a1),(p2,a2),(p3,a3)]):bQ K fd [p1,p2,p3] []:=F.binds fun kV doc pm an cdv ct us hl=>by
    obtain ⟨a1,r0,rfl,q0⟩:=D2.n6 hl;obtain ⟨a2,r1,rfl,q1⟩:=D2.n6 q0;obtain ⟨a3,r2,rfl,q2⟩:=D2.n6 q1;obtain rfl:=List.eq_nil_of_length_eq_zero q2;exact h kV doc pm an cdv ct a1 a2 a3
end
@[simp] theorem fT {α:Type} (a:α):oq (R.ok a)=.ok a:=rfl
@[simp] theorem yn {α:Type}:oq (R.no:R α)=.no:=rfl
@[simp] theorem ym {α:Type} (c:Str):oq (R.ex c:R α)=.no:=rfl
noncomputable def uB:mF->R PyData
  | .rt d=>.ok d
  | .nx _=>.ok .none
  | _=>.no
theorem dt (n:Nat) (g:Fs) (ds:List PyData):eL n g ds=(g (ds.map cg.val++List.replicate (n-ds.length) .non)>>=uB):=by
  unfold eL;congr 1
@[simp] theorem xr (d:PyData):uB (.rt d)=.ok d:=rfl
@[simp] theorem xq (r:ar):uB (.nx r)=.ok .none:=rfl
section
variable (f g h:Fe) (ρ:ar) (i j:Nat) (t u:ar->R Bool) (a b:Fs) (fs:ar->R (List PyData)) (F:List PyData->R PyData) (d e:PyData)
@[simp] theorem jm:eC d ρ=.ok d:=rfl
@[simp] theorem cC:ag 0 (.val d::ρ)=.ok d:=rfl
@[simp] theorem dS (c:cg):ag (i+1) (c::ρ)=ag i ρ:=rfl
@[simp] theorem xk:iq 0 (.val d::ρ)=.ok d:=rfl
@[simp] theorem xl:iq 0 (.own d::ρ)=.ok d:=rfl
@[simp] theorem xm (c:cg):iq (i+1) (c::ρ)=iq i ρ:=rfl
@[simp] theorem kY (k:PyData->R PyData):e1 k f ρ=(f ρ>>=fun x=>k x):=rfl
@[simp] theorem jl (k:PyData->PyData->R PyData):e2 k f g ρ=(f ρ>>=fun x=>g ρ>>=fun y=>k x y):=rfl
@[simp] theorem ti:tE f ρ=(f ρ>>=kM):=rfl
@[simp] theorem sL (k:Bool):kM (.bool k)=.ok k:=rfl
@[simp] theorem wE:fH t u ρ=(t ρ>>=fun k=>if k=true then u ρ else .ok false):=rfl
@[simp] theorem xy:lz t u ρ=(t ρ>>=fun k=>if k=true then .ok true else u ρ):=rfl
@[simp] theorem wJ:gS t ρ=(t ρ>>=fun k=>.ok (!k)):=rfl
@[simp] theorem xf:rB f g ρ=(f ρ>>=fun d=>kM d>>=fun k=>if k=true then g ρ else .ok (.bool false)):=rfl
@[simp] theorem ye:ze f g ρ=(f ρ>>=fun d=>kM d>>=fun k=>if k=true then .ok (.bool true) else g ρ):=rfl
@[simp] theorem xh:yd f ρ=(f ρ>>=fun d=>kM d>>=fun k=>.ok (.bool (!k))):=rfl
@[simp] theorem yc:sP t f g ρ=(t ρ>>=fun k=>if k=true then f ρ else g ρ):=rfl
@[simp] theorem w9:be ρ=.ok []:=rfl
@[simp] theorem vj:ak f fs ρ=(f ρ>>=fun d=>fs ρ>>=fun ds=>.ok (d::ds)):=rfl
@[simp] theorem vz:br F fs ρ=(fs ρ>>=F):=rfl
@[simp] theorem u6 (p q:PyData->PyData->R PyData):io p q f g h ρ=(f ρ>>=fun x=>g ρ>>=fun y=>p x y>>=fun d=>kM d>>=fun k=>if k=true then h ρ>>=fun z=>q y z else .ok (.bool false)):=rfl
@[simp] theorem xj:rC fs ρ=(fs ρ>>=fun ds=>if ds.length<=sizeLine then .ok (.tuple ds) else .no):=rfl
@[simp] theorem xg:tS fs ρ=(fs ρ>>=fun ds=>if ds.length<=sizeLine then .ok (.list ds) else .no):=rfl
@[simp] theorem vZ:vY ρ=.ok none:=rfl
@[simp] theorem v7:v4 f ρ=(f ρ>>=fun d=>xJ d>>=fun i=>.ok (some i)):=rfl
@[simp] theorem yK (k:Int):xJ (.int k)=.ok k:=rfl
@[simp] theorem yg (lo hi:Fo):zf f lo hi ρ=(f ρ>>=fun d=>lo ρ>>=fun l=>hi ρ>>=fun u=>xc d l u):=rfl
@[simp] theorem qC:cz ρ=.ok (.nx ρ):=rfl
@[simp] theorem ni:aS a b ρ=(a ρ>>=jB b):=rfl
@[simp] theorem wP:jB b (.nx ρ)=b ρ:=rfl
@[simp] theorem wQ:jB b (.rt d)=.ok (.rt d):=rfl
@[simp] theorem wN:jB b (.bk ρ)=.ok (.bk ρ):=rfl
@[simp] theorem wO:jB b (.ct ρ)=.ok (.ct ρ):=rfl
@[simp] theorem qB:jy t a b ρ=(t ρ>>=fun k=>if k=true then a ρ else b ρ):=rfl
@[simp] theorem nh:bW f ρ=(f ρ>>=fun d=>.ok (.rt d)):=rfl
@[simp] theorem wy:wx ρ=.ok (.rt .none):=rfl
@[simp] theorem ww:wv f ρ=(f ρ>>=fun _=>.ok (.nx ρ)):=rfl
@[simp] theorem u9:uE ρ=.ok (.bk ρ):=rfl
@[simp] theorem wt:wq ρ=.ok (.ct ρ):=rfl
@[simp] theorem cZ:bC i f ρ=(f ρ>>=fun d=>.ok (.nx (ρ.set i (.val d)))):=rfl
@[simp] theorem xw:gJ i f ρ=(f ρ>>=fun d=>.ok (.nx (ρ.set i (.own d)))):=rfl
@[simp] theorem dX:fQ f ρ=(f ρ>>=iI):=rfl
@[simp] theorem u7:iy fs ρ=(fs ρ>>=oz):=rfl
@[simp] theorem vP:vO fs ρ=(fs ρ>>=wB):=rfl
@[simp] theorem vH:vG fs ρ=(fs ρ>>=vy):=rfl
@[simp] theorem vL:vK f ρ=(f ρ>>=sS):=rfl
@[simp] theorem vR:vQ f ρ=(f ρ>>=tq):=rfl
@[simp] theorem gK (ds:List PyData):iI (.tuple ds)=.ok ds:=rfl
@[simp] theorem uF (ds:List PyData):iI (.list ds)=.ok ds:=rfl
@[simp] theorem vk:bq i d ρ=some (ρ.set i (.val d)):=rfl
@[simp] theorem ng:mq a ρ=oq (a ρ):=rfl
theorem nc (it:ar->R (List PyData)) (bb:PyData->ar->Option ar):qA it bb a ρ=(it ρ>>=fun ds=>dW bb a ds ρ):=rfl
@[simp] theorem la (bb:PyData->ar->Option ar):dW bb a [] ρ=.ok (.nx ρ):=by unfold dW;rfl
noncomputable def iM (k:ar->R mF):mF->R mF
  | .nx ρ=>k ρ
  | .ct ρ=>k ρ
  | .bk ρ=>.ok (.nx ρ)
  | .rt r=>.ok (.rt r)
@[simp] theorem wT (k:ar->R mF):iM k (.nx ρ)=k ρ:=rfl
@[simp] theorem wS (k:ar->R mF):iM k (.ct ρ)=k ρ:=rfl
@[simp] theorem wR (k:ar->R mF):iM k (.bk ρ)=.ok (.nx ρ):=rfl
@[simp] theorem wU (k:ar->R mF):iM k (.rt d)=.ok (.rt d):=rfl
theorem nU (i:Nat) (ds:List PyData):dW (bq i) a (d::ds) ρ=(a (ρ.set i (.val d))>>=iM (dW (bq i) a ds)):=by
  rw [dW];show (a (ρ.set i (.val d))>>=_)=_;congr 1
theorem aY {a b:Fs} {ρ ρ':ar} (h:a ρ=.ok (.nx ρ')):aS a b ρ=b ρ':=by rw [ni,h];rfl
theorem uG {a b:Fs} {ρ:ar} {d:PyData} (h:a ρ=.ok (.rt d)):aS a b ρ=.ok (.rt d):=by rw [ni,h];rfl
theorem jp {n:Nat} {g:Fs} {ds:List PyData} {d:PyData} (h:g (ds.map cg.val++List.replicate (n-ds.length) .non)=.ok (.rt d)):eL n g ds=.ok d:=by rw [dt,h];rfl
theorem gz (bb:PyData->ar->Option ar):bz bb t f ρ []=.ok []:=by unfold bz;rfl
theorem fN (i:Nat) (ds:List PyData):bz (bq i) t f ρ (d::ds)=(t (ρ.set i (.val d))>>=fun k=>if k=true then f (ρ.set i (.val d))>>=fun x=>bz (bq i) t f ρ ds>>=fun xs=>.ok (x::xs) else bz (bq i) t f ρ ds):=by
  rw [bz];rfl
theorem pK (i j k:Nat) (x y z:PyData) (ds:List PyData):dW (nD i j k) a (.tuple [x,y,z]::ds) ρ=(a (((ρ.set i (.val x)).set j (.val y)).set k (.val z))>>=iM (dW (nD i j k) a ds)):=by
  rw [dW];show (a (((ρ.set i (.val x)).set j (.val y)).set k (.val z))>>=_)=_;congr 1
@[simp] theorem pO:mT f g h ρ=(f ρ>>=fun x=>g ρ>>=fun y=>h ρ>>=fun z=>gZ x>>=fun xs=>gZ y>>=fun ys=>gZ z>>=fun zs=>.ok (cM xs ys zs)):=rfl
@[simp] theorem uT (ds:List PyData):gZ (.tuple ds)=.ok ds:=rfl
@[simp] theorem vD:vC fs ρ=(fs ρ>>=xt .tuple):=rfl
@[simp] theorem vB:vA fs ρ=(fs ρ>>=xt .list):=rfl
@[simp] theorem xi (lo hi:Fo):yf f lo hi ρ=(f ρ>>=fun d=>lo ρ>>=fun l=>hi ρ>>=fun u=>vo d l u):=rfl
@[simp] theorem xu (op:Int->Int->Int):yr i op f ρ=(ag i ρ>>=fun x=>f ρ>>=fun y=>xS op x y>>=fun z=>.ok (.nx (ρ.set i (.val z)))):=rfl
@[simp] theorem yM (op:Int->Int->Int) (m n:Int):xS op (.int m) (.int n)=.ok (.int (op m n)):=rfl
@[simp] theorem xn:yj f g ρ=(f ρ>>=fun x=>g ρ>>=fun y=>iI x>>=fun xs=>iI y>>=fun ys=>.ok (wX xs ys)):=rfl
@[simp] theorem vJ:vI f ρ=(f ρ>>=fun x=>iI x>>=fun xs=>.ok (pG 0 xs)):=rfl
noncomputable def t8:R (List PyData)->R PyData
  | .ok xs=>.ok (.list xs)
  | .ex c=>.ex c
  | .no=>.no
@[simp] theorem xo (c:Str):t8 (.ex c)=.ex c:=rfl
@[simp] theorem fy (xs:List PyData):t8 (.ok xs)=.ok (.list xs):=rfl
theorem cK (it:ar->R (List PyData)) (own:Nat) (fr:List Nat) (bb:PyData->ar->Option ar):bF it own fr bb t f ρ=(oq (it ρ)>>=fun ds=>if ds.length<=sizeLine then t8 (bz bb t f (au own fr ρ) ds) else .no):=by
  unfold bF;congr 1
theorem gy (i:Nat) (G:PyData->PyData):∀ (ds:List PyData),(∀ d∈ds,f (ρ.set i (.val d))=.ok (G d))->bz (bq i) (fun _=>.ok true) f ρ ds=.ok (ds.map G)
  | [],_=>gz ..
  | d::ds,hh=>by
    rw [fN,hh d List.mem_cons_self,gy i G ds fun x hx=>hh x (List.mem_cons_of_mem _ hx)];rfl
end
section
variable (i j:Int) (xs ys:List PyData)
@[simp] theorem xY:kS (.int i)=.ok (.int (-i)):=rfl
@[simp] theorem xL:dc (.int i) (.int j)=.ok (.int (i+j)):=rfl
@[simp] theorem xN:dc (.tuple xs) (.tuple ys)=if xs.length+ys.length<=sizeLine then .ok (.tuple (xs++ys)) else .no:=rfl
@[simp] theorem xM:dc (.list xs) (.list ys)=if xs.length+ys.length<=sizeLine then .ok (.list (xs++ys)) else .no:=rfl
@[simp] theorem ya:jR (.int i) (.int j)=.ok (.int (i-j)):=rfl
@[simp] theorem xX:dQ (.int i) (.int j)=if 0 < j then .ok (.int (i%j)) else .no:=rfl
@[simp] theorem xP:iY (.int i) (.int j)=if 0 < j/\j < 1073741824 then .ok (.int (i / j)) else .no:=rfl
theorem tO:cY (.int i) (.int j)=if (-(2 ^ 64) < i/\i < 2 ^ 64)\/(-(2 ^ 64) < j/\j < 2 ^ 64) then .ok (.int (i*j)) else .no:=rfl
@[simp] theorem xO (p:Int->Int->Bool):eV p (.int i) (.int j)=.ok (.bool (p i j)):=rfl
@[simp] theorem xW:rz (.int i) (.int j)=.ok (.int (if j < i then j else i)):=rfl
@[simp] theorem xV:i0 (.int i) (.int j)=.ok (.int (if j > i then j else i)):=rfl
@[simp] theorem xU:gA (.tuple xs)=.ok (.int xs.length):=rfl
@[simp] theorem xT:gA (.list xs)=.ok (.int xs.length):=rfl
@[simp] theorem kT:fO (.list xs)=.ok (.tuple xs):=rfl
@[simp] theorem vp:fO (.tuple xs)=.ok (.tuple xs):=rfl
@[simp] theorem xa:sN (.list xs)=.ok (.list xs):=rfl
@[simp] theorem xb:sN (.tuple xs)=.ok (.list xs):=rfl
@[simp] theorem xR:ro (.int i)=.ok (.int i):=rfl
@[simp] theorem xQ (k:Bool):ro (.bool k)=.ok (.int (if k then 1 else 0)):=rfl
@[simp] theorem yP (lo hi:Option Int):xc (.tuple xs) lo hi=.ok (.tuple (pA xs lo hi)):=rfl
@[simp] theorem yO (lo hi:Option Int):xc (.list xs) lo hi=.ok (.list (pA xs lo hi)):=rfl
@[simp] theorem x0:xZ (.tuple xs)=.ok (.tuple xs.reverse):=rfl
theorem jL {α:Type} {xs:List α} {i:Int} (h0:0<=i) (h1:i < xs.length):L2.atI xs i=some (xs[i.toNat]'(by omega)):=by
  unfold L2.atI sR;rw [if_pos h0,if_pos h1];exact List.getElem?_eq_getElem (by omega)
theorem sM {xs:List PyData} {i:Int} (h0:0<=i) (h1:i < xs.length):cF (.tuple xs) (.int i)=.ok (xs[i.toNat]'(by omega)):=by
  show (match L2.atI xs i with | some d=>R.ok d | none=>.no)=_;rw [jL h0 h1]
theorem pB {xs:List PyData} {i:Int} (h0:0<=i) (h1:i < xs.length):cF (.list xs) (.int i)=.ok (xs[i.toNat]'(by omega)):=by
  show (match L2.atI xs i with | some d=>R.ok d | none=>.no)=_;rw [jL h0 h1]
theorem jU:PyData.eqv (.int i) (.int j)=decide (i=j):=by
  simp only [PyData.eqv];by_cases h:i=j
  · subst h;simp
  · simp [h]
theorem fF:kQ (.int i) (.int j)=.ok (.bool (decide (i=j))):=by
  unfold kQ;rw [if_pos (by rfl),jU]
theorem mP:kR (.int i) (.int j)=.ok (.bool (!decide (i=j))):=by
  unfold kR;rw [if_pos (by rfl),jU]
end
end D2
namespace G
open PySem PySem.Spec PyProof.Rows L2 D2
noncomputable abbrev fW (d:PyData):Prop:=d.canLay0=true
theorem mS:∀ {ds:List PyData},PyData.canLayAll0 ds=true->∀ x∈ds,fW x
  | [],_,x,hx=>by cases hx
  | d::ds,h,x,hx=>by
    have h':d.canLay0=true/\PyData.canLayAll0 ds=true:=by simpa [PyData.canLayAll0] using h
    rcases List.mem_cons.mp hx with rfl | hx
    · exact h'.1
    · exact mS h'.2 x hx
theorem ie:∀ {ds:List PyData},(∀ x∈ds,fW x)->PyData.canLayAll0 ds=true
  | [],_=>by simp [PyData.canLayAll0]
  | d::ds,h=>by
    have h1:=h d List.mem_cons_self;have h2:=ie fun x hx=>h x (List.mem_cons_of_mem _ hx)
    simp only [PyData.canLayAll0,Bool.and_eq_true];exact ⟨h1,h2⟩
theorem ix {ds:List PyData}:fW (.tuple ds)<->∀ x∈ds,fW x:=by
  constructor
  · intro h;exact mS (by simpa [fW,PyData.canLay0] using h)
  · intro h;simp only [fW,PyData.canLay0];exact ie h
theorem iw (i:Int):fW (.int i):=by simp [fW,PyData.canLay0]
theorem jr:fW .none:=by simp [fW,PyData.canLay0]
theorem dj {n:Nat} (h:n<=1000):n<=sizeLine:=Nat.le_trans h (by decide)
noncomputable abbrev oA (ns:List Int):PyData:=.list (ns.map .int)
theorem dR {i j:Int} (h:(-(2 ^ 64) < i/\i < 2 ^ 64)\/(-(2 ^ 64) < j/\j < 2 ^ 64)):cY (.int i) (.int j)=.ok (.int (i*j)):=by rw [tO,if_pos h]
structure lK (c:Int) (n:Nat) (kvs:List (PyData×PyData)):Prop where
  ex:∃ ns:List Int,kvs.map (·.1)=ns.map PyData.int/\(∀ x∈ns,0<=x/\x < c)/\ns.length<=n/\(n=0\/ns≠[])/\ns.Nodup
theorem lK.put {c:Int} {n:Nat} {kvs:List (PyData×PyData)} (h:lK c n kvs) {k:Int} (h0:0<=k) (h1:k < c) (v:PyData):lK c (n+1) (mo kvs (.int k) v):=by
  obtain ⟨ns,e,hb,hl,hn,nd⟩:=h.ex;have hany:(kvs.any fun kv=>dg kv.1 (.int k))=ns.any fun i=>decide (i=k):=by
    have:(kvs.any fun kv=>dg kv.1 (.int k))=(kvs.map (·.1)).any fun d=>dg d (.int k):=by rw [List.any_map];rfl
    rw [this,e,List.any_map];rfl
  unfold mo;rw [hany];by_cases hm:k∈ns
  · have ha:(ns.any fun i=>decide (i=k))=true:=by simp;exact hm
    rw [if_pos ha];refine ⟨ns,?_,hb,by omega,.inr (by intro z;rw [z] at hm;cases hm),nd⟩;rw [<- e,List.map_map];apply List.map_congr_left;intro kv _;show (if dg kv.1 (.int k)=true then (kv.1,v) else kv).1=kv.1;split <;> rfl
  · have ha:¬ (ns.any fun i=>decide (i=k))=true:=by simp;exact hm
    rw [if_neg ha];refine ⟨ns++[k],by rw [List.map_append,List.map_append,e];rfl,fun x hx=>?_,by simp;omega,.inr (by simp),?_⟩
    · rcases List.mem_append.mp hx with z | z
      · exact hb x z
      · simp at z;subst z;exact ⟨h0,h1⟩
    · rw [List.nodup_append];refine ⟨nd,by simp,fun a hma b hb'=>?_⟩;simp at hb';subst hb';rintro rfl;exact hm hma
theorem lK.len {c:Int} {n:Nat} {kvs:List (PyData×PyData)} (h:lK c n kvs):kvs.length<=n:=by
  obtain ⟨ns,e,_,hl,_⟩:=h.ex;have:=congrArg List.length e;simp at this;omega
theorem lp (lo:Int) (n:Nat):∀ d∈bB lo n,∃ k,d=.int k:=fun d hd=>by
  unfold bB at hd;obtain ⟨k,_,rfl⟩:=List.mem_map.mp hd;exact ⟨_,rfl⟩
theorem eu (lo:Int) (n:Nat):(bB lo n).length=n:=by unfold bB;simp
theorem rp {xs:List PyData} {i:Int} (h0:0<=i) (h1:i < xs.length):∃ x∈xs,cF (.list xs) (.int i)=.ok x:=⟨_,List.getElem_mem _,pB h0 h1⟩
structure P4 where
  w:Int
  m:Int
  g:Int
  ns:List Int
noncomputable def P4.d (p:P4):PyData:=.tuple [.int p.w,.int p.m,.int p.g,.tuple (p.ns.map .int)]
structure Pl (c hi:Int) (p:P4):Prop where
  w0:0<=p.w
  w1:p.w<=1
  m0:0<=p.m
  m1:p.m<=hi
  g0:-20<=p.g
  g1:p.g<=20
  ne:p.ns≠[]
  so:p.ns.Pairwise (· < ·)
  inn:∀ x∈p.ns,0<=x/\x < c
theorem iH:∀ (ns:List Int) (l c:Int),ns.Pairwise (· < ·)->(∀ x∈ns,l<=x/\x < c)->ns=[]\/l+(ns.length:Int)<=c
  | [],_,_,_,_=>.inl rfl
  | x::r,l,c,hp,hb=>by
    right;obtain ⟨h1,h2⟩:=List.pairwise_cons.mp hp;have hx:=hb x List.mem_cons_self;rcases iH r (x+1) c h2 (fun y hy=>⟨by have:=h1 y hy;omega,(hb y (List.mem_cons_of_mem _ hy)).2⟩) with rfl | z
    · simp;omega
    · rw [List.length_cons];omega
theorem Pl.len {c hi:Int} {p:P4} (h:Pl c hi p):(p.ns.length:Int)<=c:=by
  rcases iH p.ns 0 c h.so h.inn with z | z
  · exact absurd z h.ne
  · omega
noncomputable abbrev gD (ps:List P4):PyData:=.tuple (ps.map P4.d)
theorem oF {ns:List Int} (h:ns.Pairwise (·<=·)) (nd:ns.Nodup):ns.Pairwise (· < ·):=by
  have:=h.and nd;exact this.imp fun ⟨a,b⟩=>by omega
end G
noncomputable section
namespace G
open PySem PySem.Spec PyProof.Rows L2 D2
noncomputable def dn:Fs :=
  (aS (jy (tE (e2 (eV yQ) (ag 1) (e1 gA (ag 0)))) (bW (e2 cF (ag 0) (ag 1))) cz) (bW (eC (.int 0))))
noncomputable def aM:List PyData->R PyData:=eL 2 (dn)
noncomputable def eQ (aM:List PyData->R PyData):Fs :=
  (aS (bC 2 (e2 dQ (e2 cY (e2 dc (e2 dc (br aM (ak (ag 0) (ak (ag 1) be))) (e2 cY (eC (.int 7919)) (ag 1))) (eC (.int 1))) (eC (.int 48271))) (eC (.int 2147483647)))) (bW (e2 dQ (e2 dc (e2 dc (e2 cY (ag 2) (ag 2)) (e2 cY (eC (.int 7)) (ag 2))) (ag 1)) (eC (.int 2147483629)))))
noncomputable def aP:List PyData->R PyData:=eL 3 (eQ aM)
noncomputable def eO:Fs :=
  (aS (bC 2 (e2 dQ (e2 cY (e2 dc (e2 dc (ag 0) (e2 cY (eC (.int 104729)) (ag 1))) (eC (.int 17))) (eC (.int 69621))) (eC (.int 2147483647)))) (bW (e2 dQ (e2 dc (e2 dc (e2 cY (ag 2) (ag 2)) (e2 cY (eC (.int 3)) (ag 2))) (ag 1)) (eC (.int 2147483629)))))
noncomputable def az:List PyData->R PyData:=eL 3 (eO)
noncomputable def eP (az:List PyData->R PyData):Fs :=
  (aS (gJ 2 (eC (.dict []))) (aS (mq (qA (iy (ak (e2 dc (e2 dc (eC (.int 1)) (e2 dQ (ag 0) (eC (.int 3)))) (e2 cY (eC (.int 20)) (e1 ro (e2 (kQ) (e2 dQ (e2 iY (ag 0) (eC (.int 3))) (eC (.int 29))) (eC (.int 7)))))) be)) (bq 3) (sB 2 (e2 dQ (br az (ak (ag 0) (ak (ag 3) be))) (ag 1)) (eC (.bool true))))) (bW (e1 fO (e1 gj (iq 2))))))
noncomputable def bn:List PyData->R PyData:=eL 4 (eP az)
noncomputable def eR (az:List PyData->R PyData) (bn:List PyData->R PyData):Fs :=
  (aS (bC 3 (e2 jR (e2 dQ (e2 iY (ag 0) (eC (.int 26))) (eC (.int 9))) (eC (.int 4)))) (aS (jy (tE (e2 (kQ) (e2 dQ (e2 iY (ag 0) (eC (.int 234))) (eC (.int 11))) (eC (.int 3)))) (bC 3 (e2 jR (e2 dQ (e2 iY (ag 0) (eC (.int 26))) (eC (.int 41))) (eC (.int 20)))) cz) (bW (rC (ak (e2 dQ (ag 0) (eC (.int 2))) (ak (e2 dQ (e2 iY (ag 0) (eC (.int 2))) (e2 dc (ag 2) (eC (.int 1)))) (ak (ag 3) (ak (br bn (ak (br az (ak (ag 0) (ak (eC (.int 9)) be))) (ak (ag 1) be))) be))))))))
noncomputable def aZ:List PyData->R PyData:=eL 4 (eR az bn)
noncomputable def dF (aP:List PyData->R PyData) (aZ:List PyData->R PyData):Fs :=
  (aS (bC 2 (br aP (ak (ag 0) (ak (eC (.int 0)) be)))) (aS (bC 3 (e2 dc (eC (.int 1)) (e2 dQ (ag 2) (e2 rz (ag 1) (e2 i0 (eC (.int 4)) (e1 gA (ag 0))))))) (aS (bC 4 (e2 cF (tS (ak (eC (.int 1)) (ak (eC (.int 2)) (ak (eC (.int 3)) (ak (eC (.int 5)) (ak (eC (.int 12)) (ak (eC (.int 12)) be))))))) (e2 dQ (e2 iY (ag 2) (eC (.int 24))) (eC (.int 6))))) (bW (e1 fO (bF (iy (ak (ag 3) be)) 1 [0,3,4] (bq 0) (fun _=>.ok true) (br aZ (ak (br aP (ak (ag 1) (ak (e2 dc (eC (.int 3)) (ag 0)) be))) (ak (ag 2) (ak (ag 3) be))))))))))
noncomputable def aX:List PyData->R PyData:=eL 5 (dF aP aZ)
noncomputable def fJ:Fs :=
  (aS (jy (tE (e2 (iZ) (ag 0) (eC .none))) (bW (e2 pC (eC (.int 10)) (eC (.int 6)))) cz) (bW (ag 0)))
noncomputable def bf:List PyData->R PyData:=eL 1 (fJ)
noncomputable def cO:Fs :=
  (bW (jn 1 (e2 cF (ag 0) (eC (.int 3)))))
noncomputable def aB:List PyData->R PyData:=eL 2 (cO)
noncomputable def dq:Fs :=
  (bW (e1 nO (bF (fQ (ag 0)) 1 [] (bq 0) (fun _=>.ok true) (e2 i0 (eC (.int 0)) (e1 kS (e2 cF (ag 0) (eC (.int 2))))))))
noncomputable def aN:List PyData->R PyData:=eL 1 (dq)
noncomputable def c8:Fs :=
  (aS (bC 3 (bF (fQ (e2 cF (ag 0) (eC (.int 3)))) 1 [1] (bq 0) (fun _=>.ok true) (e2 cF (ag 1) (ag 0)))) (aS (bC 4 (sP (tE (e2 (kQ) (e2 cF (ag 0) (eC (.int 0))) (eC (.int 0)))) (e1 jk (ag 3)) (e1 ji (ag 3)))) (aS (jy (tE (e2 (eV r8) (ag 4) (ag 2))) (bW (ag 4)) cz) (bW (e2 rz (e2 dc (ag 2) (eC (.int 1))) (e2 i0 (eC (.int 0)) (e2 jR (ag 4) (e2 cF (ag 0) (eC (.int 2))))))))))
noncomputable def ay:List PyData->R PyData:=eL 5 (c8)
noncomputable def cB (ay:List PyData->R PyData):Fs :=
  (aS (bC 2 (eC .none)) (aS (bC 3 (bF (fQ (ag 0)) 1 [] (bq 0) (fun _=>.ok true) (eC (.int 0)))) (aS (mq (kc 1000000 (tE (e2 (kR) (ag 3) (ag 2))) (aS (bC 2 (ag 3)) (bC 3 (bF (fQ (ag 0)) 1 [2,1] (bq 0) (fun _=>.ok true) (br ay (ak (ag 0) (ak (ag 1) (ak (ag 2) be))))))))) (bW (ag 2)))))
noncomputable def aD:List PyData->R PyData:=eL 4 (cB ay)
noncomputable def cQ (aB:List PyData->R PyData) (aN:List PyData->R PyData) (aD:List PyData->R PyData):Fs :=
  (aS (bC 1 (br aN (ak (ag 0) be))) (aS (bC 2 (br aD (ak (ag 0) (ak (ag 1) be)))) (aS (bC 3 (e1 fO (bF (fQ (ag 2)) 1 [1] (bq 0) (fun _=>.ok true) (sP (tE (e2 (eV r8) (ag 0) (ag 1))) (eC .none) (ag 0))))) (aS (bC 4 (e1 fO (bF (fQ (ag 0)) 1 [2] (bq 0) (fun _=>.ok true) (sP (tE (e2 (kQ) (e2 cF (ag 0) (eC (.int 0))) (eC (.int 0)))) (br aB (ak (ag 0) (ak (ag 1) be))) (eC .none))))) (bW (rC (ak (ag 3) (ak (ag 4) be))))))))
noncomputable def aC:List PyData->R PyData:=eL 5 (cQ aB aN aD)
noncomputable def oU (aX:List PyData->R PyData) (bf:List PyData->R PyData) (aC:List PyData->R PyData):Fs :=
  (aS (bC 1 (br aX (ak (ag 0) (ak (eC (.int 16)) be)))) (aS (bC 2 (br aC (ak (ag 1) be))) (aS (jy (lz (gS (tE (e1 (eW .tuple) (ag 2)))) (lz (tE (e2 (kR) (e1 gA (ag 2)) (eC (.int 2)))) (gS (tE (e1 (eW .tuple) (e2 cF (ag 2) (eC (.int 0)))))))) (bW (eC (.bool false))) cz) (aS (jy (tE (e2 (kR) (e1 gA (e2 cF (ag 2) (eC (.int 0)))) (e1 gA (ag 1)))) (bW (eC (.bool false))) cz) (aS (bC 3 (e1 nO (bF (fQ (ag 1)) 1 [] (bq 0) (fun _=>.ok true) (e2 i0 (eC (.int 0)) (e1 kS (e2 cF (ag 0) (eC (.int 2)))))))) (aS (mq (qA (mT (ag 1) (e2 cF (ag 2) (eC (.int 0))) (e2 cF (ag 2) (eC (.int 1)))) (nD 4 5 6) (aS (jy (lz (tE (e1 (eW .bool) (ag 5))) (fH (tE (e2 (cy) (ag 5) (eC .none))) (gS (tE (e1 (eW .int) (ag 5)))))) (bW (eC (.bool false))) cz) (aS (jy (fH (tE (e2 (cy) (ag 5) (eC .none))) (gS (tE (io (eV r9) (eV r9) (eC (.int 0)) (ag 5) (ag 3))))) (bW (eC (.bool false))) cz) (aS (bC 7 (bF (fQ (e2 cF (ag 4) (eC (.int 3)))) 1 [2] (bq 0) (fun _=>.ok true) (br bf (ak (e2 cF (e2 cF (ag 1) (eC (.int 0))) (ag 0)) be)))) (aS (bC 8 (e1 ji (ag 7))) (aS (jy (tE (e2 (kQ) (e2 cF (ag 4) (eC (.int 0))) (eC (.int 0)))) (aS (bC 8 (e1 jk (ag 7))) (jy (tE (e2 (kR) (ag 6) (e2 cF (e2 cF (ag 4) (eC (.int 3))) (ip (ag 7) (ag 8))))) (bW (eC (.bool false))) cz)) (jy (tE (e2 (cy) (ag 6) (eC .none))) (bW (eC (.bool false))) cz)) (aS (bC 9 (e2 i0 (eC (.int 0)) (e2 jR (ag 8) (e2 cF (ag 4) (eC (.int 2)))))) (jy (lz (fH (tE (e2 (iZ) (ag 5) (eC .none))) (tE (e2 (eV r9) (ag 9) (ag 3)))) (fH (tE (e2 (cy) (ag 5) (eC .none))) (tE (e2 (kR) (ag 5) (ag 9))))) (bW (eC (.bool false))) cz))))))))) (bW (rB (e1 (eW .tuple) (e2 cF (ag 2) (eC (.int 1)))) (rB (e2 (kQ) (e1 gA (e2 cF (ag 2) (eC (.int 1)))) (e1 gA (ag 1))) (e2 (kQ) (br aC (ak (ag 1) be)) (ag 2)))))))))))
noncomputable def ku:List PyData->R PyData:=eL 10 (oU aX bf aC)
end G
end
namespace G
open PySem PySem.Spec PyProof.Rows L2 D2
theorem rh (ns:List Int) {k:Int} (hk:0<=k):∃ v,aM [oA ns,.int k]=.ok (.int v):=by
  unfold aM dn;by_cases h:k < ns.length
  · refine ⟨ns[k.toNat]'(by omega),?_⟩;have hx:=pB (xs:=ns.map PyData.int) (i:=k) hk (by simpa using h);rw [dt];simp [h,hx]
  · refine ⟨0,?_⟩;rw [dt];simp [h]
theorem li (ns:List Int) {k:Int} (hk:0<=k):∃ v,aP [oA ns,.int k]=.ok (.int v)/\0<=v/\v < 2147483629:=by
  obtain ⟨c,hc⟩:=rh ns hk;unfold aP eQ;have m1:cY (.int 7919) (.int k)=.ok (.int (7919*k)):=dR (.inl (by omega));have m2:cY (.int (c+7919*k+1)) (.int 48271)=.ok (.int ((c+7919*k+1)*48271)):=dR (.inr (by omega));generalize hd:(c+7919*k+1)*48271%2147483647=d;have hd0:0<=d:=by omega
  have hd1:d < 2147483647:=by omega
  have m3:cY (.int d) (.int d)=.ok (.int (d*d)):=dR (.inl (by omega));have m4:cY (.int 7) (.int d)=.ok (.int (7*d)):=dR (.inl (by omega));refine ⟨(d*d+7*d+k)%2147483629,?_,by omega,by omega⟩;rw [dt];simp [hc,m1,m2,hd,m3,m4,List.replicate]
theorem kX (n k:Int):∃ v,az [.int n,.int k]=.ok (.int v)/\0<=v/\v < 2147483629:=by
  unfold az eO;have m1:cY (.int 104729) (.int k)=.ok (.int (104729*k)):=dR (.inl (by omega));have m2:cY (.int (n+104729*k+17)) (.int 69621)=.ok (.int ((n+104729*k+17)*69621)):=dR (.inr (by omega));generalize hd:(n+104729*k+17)*69621%2147483647=d;have hd0:0<=d:=by omega
  have hd1:d < 2147483647:=by omega
  have m3:cY (.int d) (.int d)=.ok (.int (d*d)):=dR (.inl (by omega));have m4:cY (.int 3) (.int d)=.ok (.int (3*d)):=dR (.inl (by omega));refine ⟨(d*d+3*d+k)%2147483629,?_,by omega,by omega⟩;rw [dt];simp [m1,m2,hd,m3,m4,List.replicate]
theorem iu (n c:Int) (hc:1<=c):∀ (ds:List PyData) (m:Nat) (kvs:List (PyData×PyData)) (x:cg),lK c m kvs->(∀ d∈ds,∃ k,d=.int k)->m+ds.length<=1000 ->
    ∃ kvs' x',lK c (m+ds.length) kvs'/\dW (bq 3) (sB 2 (e2 dQ (br az (ak (ag 0) (ak (ag 3) be))) (ag 1)) (eC (.bool true))) ds [.val (.int n),.val (.int c),.own (.dict kvs),x]
      = .ok (.nx [.val (.int n),.val (.int c),.own (.dict kvs'),x'])
  | [],m,kvs,x,hk,_,_=>⟨kvs,x,hk,by rw [la]⟩
  | d::ds,m,kvs,x,hk,hi,hl=>by
    obtain ⟨k,rfl⟩:=hi d List.mem_cons_self;obtain ⟨v,hv,v0,v1⟩:=kX n k;have hk':=hk.put (k:=v%c) (Int.emod_nonneg _ (by omega)) (Int.emod_lt_of_pos _ (by omega)) (.bool true);obtain ⟨kvs',x',h1,h2⟩:=iu n c hc ds (m+1) _ (.val (.int k)) hk' (fun d hd=>hi d (List.mem_cons_of_mem _ hd)) (by simp at hl;omega);refine ⟨kvs',x',by rw [List.length_cons];simpa [Nat.add_comm,Nat.add_left_comm,Nat.add_assoc] using h1,?_⟩;have hlen:=hk.len;have hsz:kvs.length < sizeLine:=Nat.lt_of_le_of_lt (show kvs.length<=1000 by simp at hl;omega) (by decide);have hc':0 < c:=by omega
    rw [nU,<- h2];simp [sB,hv,hc',eF,hsz]
theorem n8 {n c:Int} (hn:0<=n) (hc:1<=c):∃ ns:List Int,bn [.int n,.int c]=.ok (.tuple (ns.map .int))/\(∀ x∈ns,0<=x/\x < c)/\ns≠[]/\ns.Pairwise (· < ·):=by
  unfold bn eP;have m1:∀ k:Int,cY (.int 20) (.int k)=.ok (.int (20*k)):=fun k=>dR (.inl (by omega))
  generalize hN:(1+n%3+20*(if n / 3%29=7 then 1 else 0):Int)=N;have hN0:1<=N:=by split at hN <;> omega
  have hN1:N<=23:=by split at hN <;> omega
  obtain ⟨kvs,x,hk,hf⟩:=iu n c hc (bB 0 N.toNat) 0 [] .non ⟨[],rfl,by simp,by simp,.inl rfl,by simp⟩ (lp _ _) (by rw [eu];omega);obtain ⟨ns,e,hb,hl,hz,nd⟩:=hk.ex;rw [eu] at hl hz;have hi:bh (kvs.map (·.1))=some ns:=by rw [e,cf]
  have hs:gj (.dict kvs)=.ok (.list ((cW ns).map PyData.int)):=by
    show (match bh (kvs.map (·.1)) with | some ns=>if ns.length < 64 then R.ok (PyData.list ((cW ns).map PyData.int)) else .no | none=>.no)=_;rw [hi];exact if_pos (by omega)
  have hr:-(2 ^ 62)<=N/\N < 2 ^ 62:=by omega
  refine ⟨cW ns,?_,fun x hx=>hb x ((cD ns).mem_iff.mp hx),?_,oF (eB ns) ((cD ns).nodup_iff.mpr nd)⟩
  · rw [dt];have hg:oz [.int N]=.ok (bB 0 N.toNat):=by
      show (if -(2 ^ 62)<=N/\N < 2 ^ 62 then R.ok (bB 0 N.toNat) else .no)=_;rw [if_pos hr]
    simp [nc,fF,m1,List.replicate,hN,hg,hf,hs]
  · intro z;have:=(cD ns).length_eq;rw [z] at this;rcases hz with q | q
    · omega
    · exact q (List.eq_nil_of_length_eq_zero this.symm)
theorem oa {n c h:Int} (hn:0<=n) (hc:1<=c) (h0:0<=h):∃ p:P4,aZ [.int n,.int c,.int h]=.ok p.d/\Pl c h p:=by
  obtain ⟨v,hv,v0,v1⟩:=kX n 9;obtain ⟨ns,hg,hb,hne,hso⟩:=n8 (n:=v) (c:=c) v0 hc;unfold aZ eR;have hh:0 < h+1:=by omega
  have s4:4<=sizeLine:=by decide
  have a1:=Int.emod_nonneg (n / 2) (show h+1≠0 by omega);have a2:=Int.emod_lt_of_pos (n / 2) hh;by_cases hq:n / 234%11=3
  · refine ⟨⟨n%2,n / 2%(h+1),n / 26%41-20,ns⟩,?_,⟨by dsimp only;omega,by dsimp only;omega,a1,by dsimp only;omega,by dsimp only;omega,by dsimp only;omega,hne,hso,hb⟩⟩;rw [dt];simp [hh,fF,hq,hv,hg,s4,P4.d]
  · refine ⟨⟨n%2,n / 2%(h+1),n / 26%9-4,ns⟩,?_,⟨by dsimp only;omega,by dsimp only;omega,a1,by dsimp only;omega,by dsimp only;omega,by dsimp only;omega,hne,hso,hb⟩⟩;rw [dt];simp [hh,fF,hq,hv,hg,s4,P4.d]
theorem kO (f:Fe) (ρ:ar) (i:Nat) (P:P4->Prop):∀ ds:List PyData,(∀ d∈ds,∃ p:P4,f (ρ.set i (.val d))=.ok p.d/\P p)->∃ ps:List P4,bz (bq i) (fun _=>.ok true) f ρ ds=.ok (ps.map P4.d)/\ps.length=ds.length/\∀ p∈ps,P p
  | [],_=>⟨[],gz ..,rfl,by simp⟩
  | d::ds,h=>by
    obtain ⟨x,h1,h2⟩:=h d List.mem_cons_self;obtain ⟨xs,h3,h4,h5⟩:=kO f ρ i P ds fun d hd=>h d (List.mem_cons_of_mem _ hd)
    refine ⟨x::xs,?_,by simp [h4],fun y hy=>?_⟩
    · rw [fN,h1,h3];rfl
    · rcases List.mem_cons.mp hy with rfl | hy
      · exact h2
      · exact h5 y hy
theorem l9 (ns:List Int) {most:Int} (hm0:1<=most) (hm1:most<=24):∃ (ps:List P4) (hi:Int),aX [oA ns,.int most]=.ok (gD ps)/\(∀ p∈ps,Pl ps.length hi p)/\1<=ps.length/\(ps.length:Int)<=most/\0<=hi/\hi<=12:=by
  obtain ⟨v,hv,v0,v1⟩:=li ns (k:=0) (by omega);unfold aX dF;generalize hm:(if (if (ns.length:Int) > 4 then (ns.length:Int) else 4) < most then (if (ns.length:Int) > 4 then (ns.length:Int) else 4) else most)=m;have m0:0 < m:=by split at hm <;> split at hm <;> omega
  have m1:m<=most:=by split at hm <;> split at hm <;> omega
  generalize hc:1+v%m=c;have c0:1<=c:=by have:=Int.emod_nonneg v (show m≠0 by omega);omega
  have c1:c<=most:=by have:=Int.emod_lt_of_pos v m0;omega
  have hix:∃ h,cF (.list [.int 1,.int 2,.int 3,.int 5,.int 12,.int 12]) (.int (v / 24%6))=.ok (.int h)/\0<=h/\h<=12:=by
    obtain ⟨x,hx,e⟩:=rp (xs:=[.int 1,.int 2,.int 3,.int 5,.int 12,.int 12]) (i:=v / 24%6) (by omega) (by simp;omega);rw [e];simp at hx;rcases hx with rfl | rfl | rfl | rfl | rfl <;> exact ⟨_,rfl,by decide,by decide⟩
  obtain ⟨h,hh,h0,h1⟩:=hix;have s6:6<=sizeLine:=by decide
  have hr:oz [.int c]=.ok (bB 0 c.toNat):=by
    show (if -(2 ^ 62)<=c/\c < 2 ^ 62 then R.ok (bB 0 c.toNat) else .no)=_;rw [if_pos (by omega)]
  obtain ⟨xs,e1,e2,e3⟩:=kO (br aZ (ak (br aP (ak (ag 1) (ak (e2 dc (eC (.int 3)) (ag 0)) be))) (ak (ag 2) (ak (ag 3) be)))) (au 1 [0,3,4] [.val (oA ns),.val (.int most),.val (.int v),.val (.int c),.val (.int h)]) 0 (Pl c h) (bB 0 c.toNat) fun d hd=>by
    unfold bB at hd;obtain ⟨k,_,rfl⟩:=List.mem_map.mp hd;obtain ⟨w,hw,w0,w1⟩:=li ns (k:=3+(0+(k:Int))) (by omega);obtain ⟨d,hd1,hd2⟩:=oa (n:=w) (c:=c) (h:=h) w0 c0 h0;refine ⟨d,?_,hd2⟩;simp at hw;simp [au,List.replicate,hw,hd1]
  rw [eu] at e2;have ec:(xs.length:Int)=c:=by omega
  refine ⟨xs,h,?_,by rw [ec];exact e3,by omega,by omega,h0,h1⟩;rw [dt];simp [hv,hm,m0,hc,s6,hh,List.replicate,cK,hr,eu,dj (show c.toNat<=1000 by omega),e1]
theorem eX:∀ ns:List Int,PyData.depthAll (ns.map .int)=0
  | []=>by simp [PyData.depthAll]
  | n::ns=>by simp [PyData.depthAll,PyData.depth,eX ns]
theorem fP (ns:List Int):PyData.canLayAll0 (ns.map .int)=true:=ie fun x hx=>by
  obtain ⟨i,_,rfl⟩:=List.mem_map.mp hx;exact iw i
theorem k8:∀ ns ms:List Int,PyData.eqvAll (ns.map .int) (ms.map .int)=decide (ns=ms)
  | [],[]=>by simp [PyData.eqvAll]
  | [],_::_=>by simp [PyData.eqvAll]
  | _::_,[]=>by simp [PyData.eqvAll]
  | n::ns,m::ms=>by
    simp only [List.map_cons,PyData.eqvAll,k8 ns ms,jU];by_cases h:n=m <;> by_cases h2:ns=ms <;> simp [h,h2]
theorem rD (ns ms:List Int):jT (.list (ns.map .int)) (.list (ms.map .int))=true:=by
  unfold jT;simp [PyData.canLay0,fP,PyData.depth,eX]
theorem vW (ns ms:List Int):kR (.list (ns.map .int)) (.list (ms.map .int))=.ok (.bool (!decide (ns=ms))):=by
  unfold kR;rw [if_pos (rD ns ms)];simp only [PyData.eqv,k8]
theorem jZ (p:P4):cF p.d (.int 3)=.ok (.tuple (p.ns.map .int)):=rfl
theorem gI (p:P4):cF p.d (.int 0)=.ok (.int p.w):=rfl
noncomputable def cp (cs:List Int) (i:Int):Int:=cs.getD i.toNat 0
noncomputable def mn:List Int->Int
  | []=>0
  | n::ns=>mh n ns
noncomputable def mx:List Int->Int
  | []=>0
  | n::ns=>md n ns
theorem hV {ns:List Int} (h:ns≠[]):mn ns∈ns/\∀ a∈ns,mn ns<=a:=by
  cases ns with
  | nil=>exact absurd rfl h
  | cons n ns=>exact jx n ns
theorem hW {ns:List Int} (h:ns≠[]):mx ns∈ns/\∀ a∈ns,a<=mx ns:=by
  cases ns with
  | nil=>exact absurd rfl h
  | cons n ns=>exact jw n ns
noncomputable def eK (cs:List Int) (p:P4):Int:=if p.w=0 then mn (p.ns.map (cp cs)) else mx (p.ns.map (cp cs))
noncomputable def tN (M x:Int):Int:=if x < M+1 then x else M+1
noncomputable def cU (x:Int):Int:=if x > 0 then x else 0
noncomputable def ig (M a g:Int):Int:=if M < a then a else tN M (cU (a-g))
noncomputable def eD (M:Int) (cs:List Int) (p:P4):Int:=ig M (eK cs p) p.g
noncomputable def oE (M:Int) (ps:List P4) (cs:List Int):List Int:=ps.map (eD M cs)
noncomputable def cV (M:Int) (ps:List P4):Nat->List Int
  | 0=>ps.map fun _=>0
  | k+1=>oE M ps (cV M ps k)
structure Bd (M:Int) (n:Nat) (cs:List Int):Prop where
  len:cs.length=n
  bd:∀ x∈cs,0<=x/\x<=M+1
theorem Bd.at {M:Int} {n:Nat} {cs:List Int} (h:Bd M n cs) (hM:0<=M) (i:Int):0<=cp cs i/\cp cs i<=M+1:=by
  unfold cp;rw [List.getD_eq_getElem?_getD];cases e:cs[i.toNat]? with
  | none=>simp;omega
  | some x=>exact h.bd x (List.mem_of_getElem? e)
theorem eh {ns:List Int} (h:ns≠[]) (f:Int->Int):ns.map f≠[]:=fun z=>h (List.map_eq_nil_iff.mp z)
theorem dN {cs:List Int} {p:P4} (h:p.ns≠[]):∃ g∈p.ns,eK cs p=cp cs g:=by
  unfold eK;split
  · obtain ⟨g,h1,h2⟩:=List.mem_map.mp (hV (eh h (cp cs))).1;exact ⟨g,h1,h2.symm⟩
  · obtain ⟨g,h1,h2⟩:=List.mem_map.mp (hW (eh h (cp cs))).1;exact ⟨g,h1,h2.symm⟩
theorem o8 {cs:List Int} {p:P4} (h:p.ns≠[]) (hw:p.w=0):∀ g∈p.ns,eK cs p<=cp cs g:=fun g hg=>by
  unfold eK;rw [if_pos hw];exact (hV (eh h (cp cs))).2 _ (List.mem_map_of_mem hg)
theorem tI {cs:List Int} {p:P4} (h:p.ns≠[]) (hw:p.w≠0):∀ g∈p.ns,cp cs g<=eK cs p:=fun g hg=>by
  unfold eK;rw [if_neg hw];exact (hW (eh h (cp cs))).2 _ (List.mem_map_of_mem hg)
theorem mI {M a g:Int} (hM:0<=M) (h0:0<=a) (h1:a<=M+1):0<=ig M a g/\ig M a g<=M+1:=by
  unfold ig tN cU;split
  · omega
  · split <;> split <;> omega
theorem nC {M a b g:Int} (hM:0<=M) (h0:0<=a) (h1:a<=b) (h2:b<=M+1):ig M a g<=ig M b g:=by
  unfold ig tN cU;split <;> split <;> (try split) <;> (try split) <;> (try split) <;> (try split) <;> omega
structure oW (ps:List P4):Prop where
  ne:∀ p∈ps,p.ns≠[]
  go:∀ p∈ps,∀ x∈p.ns,0<=x/\x < ps.length
  g0:∀ p∈ps,-20<=p.g
  g1:∀ p∈ps,p.g<=20
  w0:∀ p∈ps,0<=p.w
  w1:∀ p∈ps,p.w<=1
  n24:ps.length<=24
  l24:∀ p∈ps,p.ns.length<=24
section
variable {M:Int} {ps:List P4} (hM:0<=M) (hp:∀ p∈ps,p.ns≠[])
theorem uH (hM:0<=M) (hp:∀ p∈ps,p.ns≠[]) {n:Nat} {cs:List Int} (h:Bd M n cs):Bd M ps.length (oE M ps cs):=⟨by unfold oE;simp,fun x hx=>by
  obtain ⟨p,h1,rfl⟩:=List.mem_map.mp hx;obtain ⟨g,_,e⟩:=dN (cs:=cs) (hp p h1);unfold eD;rw [e];exact mI hM (h.at hM g).1 (h.at hM g).2⟩
theorem eE (hM:0<=M) (hp:∀ p∈ps,p.ns≠[]):∀ k,Bd M ps.length (cV M ps k)
  | 0=>⟨by simp [cV],fun x hx=>by
      obtain ⟨_,_,rfl⟩:=List.mem_map.mp hx;omega⟩
  | k+1=>uH hM hp (eE hM hp k)
theorem o9 {cs ds:List Int} {p:P4} (h:∀ i,cp cs i<=cp ds i) (hne:p.ns≠[]):eK cs p<=eK ds p:=by
  by_cases hw:p.w=0
  · obtain ⟨g,hg,e⟩:=dN (cs:=ds) hne;rw [e];exact Int.le_trans (o8 hne hw g hg) (h g)
  · obtain ⟨g,hg,e⟩:=dN (cs:=cs) hne;rw [e];exact Int.le_trans (h g) (tI hne hw g hg)
theorem jO {f:P4->Int} (i:Int):cp (ps.map f) i=(ps[i.toNat]?.map f).getD 0:=by
  unfold cp;rw [List.getD_eq_getElem?_getD,List.getElem?_map]
theorem qD (hM:0<=M) (hp:∀ p∈ps,p.ns≠[]) {n m:Nat} {cs ds:List Int} (b1:Bd M n cs) (b2:Bd M m ds) (h:∀ i,cp cs i<=cp ds i) (i:Int):cp (oE M ps cs) i<=cp (oE M ps ds) i:=by
  unfold oE;rw [jO,jO];cases e:ps[i.toNat]? with
  | none=>simp
  | some p =>
    have hm:=List.mem_of_getElem? e;show eD M cs p<=eD M ds p;unfold eD;obtain ⟨g,_,e1⟩:=dN (cs:=cs) (hp p hm);obtain ⟨g',_,e2⟩:=dN (cs:=ds) (hp p hm);exact nC hM (by rw [e1];exact (b1.at hM g).1) (o9 h (hp p hm)) (by rw [e2];exact (b2.at hM g').2)
theorem mU (hM:0<=M) (hp:∀ p∈ps,p.ns≠[]):∀ k i,cp (cV M ps k) i<=cp (cV M ps (k+1)) i
  | 0,i=>by
    have h1:=((eE hM hp 1).at hM i).1;have h0:cp (cV M ps 0) i=0:=by
      unfold cV;rw [jO];cases ps[i.toNat]? <;> rfl
    rw [h0];exact h1
  | k+1,i=>qD hM hp (eE hM hp k) (eE hM hp (k+1)) (fun i=>mU hM hp k i) i
theorem qG:∀ (cs ds:List Int),cs.length=ds.length->(∀ i:Nat,cs.getD i 0<=ds.getD i 0)->cs.sum<=ds.sum/\(cs≠ds->cs.sum < ds.sum)
  | [],[],_,_=>⟨Int.le_refl _,fun h=>absurd rfl h⟩
  | [],_::_,h,_=>by simp at h
  | _::_,[],h,_=>by simp at h
  | c::cs,d::ds,h,hh=>by
    have h0:=hh 0;simp at h0;obtain ⟨h1,h2⟩:=qG cs ds (by simpa using h) fun i=>by simpa using hh (i+1)
    rw [List.sum_cons,List.sum_cons];refine ⟨by omega,fun ne=>?_⟩;by_cases e:c=d
    · subst e;have:=h2 fun z=>ne (by rw [z])
      omega
    · omega
theorem qF {B:Int}:∀ (cs:List Int),(∀ x∈cs,x<=B)->cs.sum<=cs.length*B
  | [],_=>by simp
  | c::cs,h=>by
    have h1:=h c List.mem_cons_self;have h2:=qF cs fun x hx=>h x (List.mem_cons_of_mem _ hx)
    rw [List.sum_cons,List.length_cons,Int.natCast_succ,Int.add_mul];omega
theorem rK (hM:0<=M) (hp:∀ p∈ps,p.ns≠[]) (k:Nat) (ne:cV M ps (k+1)≠cV M ps k):(cV M ps k).sum+1<=(cV M ps (k+1)).sum:=by
  have:=(qG (cV M ps k) (cV M ps (k+1)) (by rw [(eE hM hp k).len,(eE hM hp (k+1)).len]) fun i=>by
    have:=mU hM hp k (i:Int);unfold cp at this;simpa using this).2 (Ne.symm ne)
  omega
theorem tW (hM:0<=M) (hp:∀ p∈ps,p.ns≠[]) (hM2:M<=1000) (hn:ps.length<=24) (k:Nat):(cV M ps k).sum<=30000:=by
  have b:=eE hM hp k;have h:=qF (B:=1001) (cV M ps k) fun x hx=>by have:=(b.bd x hx).2;omega
  rw [b.len] at h;omega
theorem rL (hM:0<=M) (hp:∀ p∈ps,p.ns≠[]):∀ k,0<=(cV M ps k).sum:=fun k=>by
  have b:=eE hM hp k;have:∀ cs:List Int,(∀ x∈cs,0<=x)->0<=cs.sum:=by
    intro cs;induction cs with
    | nil=>intro _;simp
    | cons c cs ih =>
      intro h;have h1:=h c List.mem_cons_self;have h2:=ih fun x hx=>h x (List.mem_cons_of_mem _ hx)
      rw [List.sum_cons];omega
  exact this _ fun x hx=>(b.bd x hx).1
end
noncomputable def aV (ps:List P4):Int:=(ps.map fun p=>cU (-p.g)).sum
theorem jX:∀ (ps:List P4),(∀ p∈ps,-20<=p.g)->0<=aV ps/\aV ps<=20*ps.length/\∀ p∈ps,cU (-p.g)<=aV ps
  | [],_=>by simp [aV]
  | p::ps,h=>by
    obtain ⟨h1,h2,h3⟩:=jX ps fun q hq=>h q (List.mem_cons_of_mem _ hq)
    have hg:=h p List.mem_cons_self;have e:aV (p::ps)=cU (-p.g)+aV ps:=by unfold aV;rw [List.map_cons,List.sum_cons]
    have t0:0<=cU (-p.g)/\cU (-p.g)<=20:=by unfold cU;split <;> omega
    rw [e,List.length_cons];refine ⟨by omega,by omega,fun q hq=>?_⟩;rcases List.mem_cons.mp hq with rfl | hq
    · omega
    · have:=h3 q hq;omega
theorem jd (kk:Nat->Int):∀ k,argBest (fun i j=>decide (kk i < kk j)) k<=k/\(∀ j,j<=k->kk (argBest (fun i j=>decide (kk i < kk j)) k)<=kk j)/\∀ j,j < argBest (fun i j=>decide (kk i < kk j)) k->kk (argBest (fun i j=>decide (kk i < kk j)) k) < kk j
  | 0=>by
    refine ⟨Nat.le_refl _,fun j hj=>?_,fun j hj=>?_⟩
    · have e:j=0:=by omega
      subst e;exact Int.le_refl _
    · simp [argBest] at hj
  | k+1=>by
    obtain ⟨h1,h2,h3⟩:=jd kk k;simp only [argBest];by_cases h:kk (k+1) < kk (argBest (fun i j=>decide (kk i < kk j)) k)
    · rw [if_pos (decide_eq_true h)];refine ⟨Nat.le_refl _,fun j hj=>?_,fun j hj=>?_⟩
      · by_cases e:j=k+1
        · rw [e];exact Int.le_refl _
        · have:=h2 j (by omega);omega
      · have:=h2 j (by omega);omega
    · rw [if_neg (by simpa using h)];refine ⟨by omega,fun j hj=>?_,h3⟩;by_cases e:j=k+1
      · rw [e];omega
      · exact h2 j (by omega)
noncomputable def pj (cs:List Int) (ns:List Int):Nat:=argBest (fun i j=>decide (dZ (cs.map .int) ((ns.map PyData.int).getD i .none) < dZ (cs.map .int) ((ns.map PyData.int).getD j .none))) (ns.length-1)
noncomputable def oP (cs:List Int) (ns:List Int):Int:=ns.getD (pj cs ns) 0
theorem rQ (cs:List Int) (j:Int):dZ (cs.map .int) (.int j)=cp cs j:=by
  show (match (cs.map PyData.int)[j.toNat]? with | some (.int k)=>k | _=>0)=_;unfold cp;rw [List.getElem?_map,List.getD_eq_getElem?_getD];cases cs[j.toNat]? <;> rfl
theorem lb {ns:List Int} {i:Nat} (h:i < ns.length):(ns.map PyData.int).getD i .none=.int (ns[i]):=by
  rw [List.getD_eq_getElem?_getD,List.getElem?_map,List.getElem?_eq_getElem h];rfl
theorem gh {cs ns:List Int} (h:ns≠[]):∃ hB:pj cs ns < ns.length,oP cs ns=ns[pj cs ns]/\(∀ g∈ns,cp cs (oP cs ns)<=cp cs g)/\∀ (j:Nat) (hj:j < pj cs ns),cp cs (oP cs ns) < cp cs (ns[j]'(by omega)):=by
  have hl:0 < ns.length:=List.length_pos_iff.mpr h;obtain ⟨h1,h2,h3⟩:=jd (fun i=>dZ (cs.map .int) ((ns.map PyData.int).getD i .none)) (ns.length-1);have e:pj cs ns=argBest (fun i j=>decide (dZ (cs.map .int) ((ns.map PyData.int).getD i .none) < dZ (cs.map .int) ((ns.map PyData.int).getD j .none))) (ns.length-1):=rfl;rw [<- e] at h1 h2 h3;have hB:pj cs ns < ns.length:=by omega
  have kk:∀ (j:Nat) (hj:j < ns.length),dZ (cs.map .int) ((ns.map PyData.int).getD j .none)=cp cs ns[j]:=fun j hj=>by rw [lb hj,rQ]
  have ec:oP cs ns=ns[pj cs ns]:=by
    unfold oP;rw [List.getD_eq_getElem?_getD,List.getElem?_eq_getElem hB];rfl
  refine ⟨hB,ec,fun g hg=>?_,fun j hj=>?_⟩
  · obtain ⟨j,hj,rfl⟩:=List.getElem_of_mem hg;have:=h2 j (by omega);rw [kk _ hB,kk j hj,<- ec] at this;exact this
  · have:=h3 j hj;rw [kk _ hB,kk j (by omega),<- ec] at this;exact this
theorem mL {cs ns:List Int} (h:ns≠[]):oP cs ns∈ns:=by
  obtain ⟨hB,e,_⟩:=gh (cs:=cs) h;rw [e];exact List.getElem_mem hB
theorem ri {cs:List Int} {p:P4} (h:p.ns≠[]) (hw:p.w=0):cp cs (oP cs p.ns)=eK cs p:=by
  obtain ⟨_,_,h2,_⟩:=gh (cs:=cs) h;have a:=o8 (cs:=cs) h hw _ (mL (cs:=cs) h);obtain ⟨g,hg,e⟩:=dN (cs:=cs) h;have b:=h2 g hg;omega
theorem lE (t:ar->R Bool) (g:Fs) (n:Nat) (ρ:ar):bT t g (n+1) ρ=(t ρ>>=fun b=>if b=true then g ρ>>=iM (bT t g n) else .ok (.nx ρ)):=by
  rw [bT];congr 1
noncomputable abbrev iL (cs:List Int):PyData:=.list (cs.map .int)
theorem mO {ns:List Int} (h:ns≠[]):jk (iL ns)=.ok (.int (mn ns)):=by
  show (match bh (ns.map .int) with | some (n::ns)=>R.ok (PyData.int (mh n ns)) | _=>.no)=_;rw [cf];cases ns with
  | nil=>exact absurd rfl h
  | cons n ns=>rfl
theorem mM {ns:List Int} (h:ns≠[]):ji (iL ns)=.ok (.int (mx ns)):=by
  show (match bh (ns.map .int) with | some (n::ns)=>R.ok (PyData.int (md n ns)) | _=>.no)=_;rw [cf];cases ns with
  | nil=>exact absurd rfl h
  | cons n ns=>rfl
theorem mm (p:P4):cF p.d (.int 2)=.ok (.int p.g):=rfl
theorem lf (f:Fe) (ρ:ar) (h:Int->Int) (ns:List Int) (hh:∀ x∈ns,f ((cg.non::ρ).set 0 (.val (.int x)))=.ok (.int (h x))):bz (bq 0) (fun _=>.ok true) f (.non::ρ) (ns.map .int)=.ok ((ns.map h).map .int):=by
  have:=gy f (.non::ρ) 0 (fun d=>match d with | .int i=>.int (h i) | d=>d) (ns.map .int) fun d hd=>by
    obtain ⟨x,hx,rfl⟩:=List.mem_map.mp hd;exact hh x hx
  rw [this,List.map_map,List.map_map];rfl
theorem j6 (f:Fe) (ρ:ar) (h:P4->PyData) (ps:List P4) (hh:∀ p∈ps,f ((cg.non::ρ).set 0 (.val p.d))=.ok (h p)):bz (bq 0) (fun _=>.ok true) f (.non::ρ) (ps.map P4.d)=.ok (ps.map h):=by
  induction ps with
  | nil=>exact gz ..
  | cons p ps ih =>
    rw [List.map_cons,fN,hh p List.mem_cons_self,ih fun q hq=>hh q (List.mem_cons_of_mem _ hq)];rfl
theorem vM {cs:List Int} {i:Int} (h0:0<=i) (h1:i < cs.length):cF (iL cs) (.int i)=.ok (.int (cp cs i)):=by
  rw [pB h0 (by simpa using h1)];unfold cp;rw [List.getElem_map,List.getD_eq_getElem?_getD,List.getElem?_eq_getElem (by omega)];rfl
theorem qE {ns:List Int} (h:ns.length<=1000) (hb:∀ x∈ns,0<=x/\x<=20):nO (iL ns)=.ok (.int ns.sum):=by
  show (match bh (ns.map .int) with | some ns=>if ns.length<=1000000/\ns.all mf=true then R.ok (PyData.int ns.sum) else .no | none=>.no)=_;rw [cf];refine if_pos ⟨by omega,List.all_eq_true.mpr fun x hx=>?_⟩;have:=hb x hx;unfold mf;exact decide_eq_true (by omega)
theorem sG {g:Int} (h0:-20<=g):0<=cU (-g)/\cU (-g)<=20:=by unfold cU;split <;> omega
theorem fw {ps:List P4} (hp:oW ps) {f:Fe} {ρ:ar} (hf:f ρ=.ok (gD ps)):e1 nO (bF (fQ f) 1 [] (bq 0) (fun _=>.ok true) (e2 i0 (eC (.int 0)) (e1 kS (e2 cF (ag 0) (eC (.int 2)))))) ρ=.ok (.int (aV ps)):=by
  have hc:=j6 (e2 i0 (eC (.int 0)) (e1 kS (e2 cF (ag 0) (eC (.int 2))))) [] (fun p=>.int (cU (-p.g))) ps fun p hp=>by
    simp [mm,cU]
  have hl:ps.length<=sizeLine:=dj (by have:=hp.n24;omega);have hs:=qE (ns:=ps.map fun p=>cU (-p.g)) (by rw [List.length_map];have:=hp.n24;omega) fun x hx=>by
    obtain ⟨p,h1,rfl⟩:=List.mem_map.mp hx;exact sG (hp.g0 p h1)
  have e:(ps.map fun p=>PyData.int (cU (-p.g)))=(ps.map fun p=>cU (-p.g)).map .int:=by rw [List.map_map];rfl
  rw [e] at hc;simp only [kY,cK,dX,hf,R.ok_bind,gK,fT,List.length_map,hl,if_true];rw [show au 1 [] ρ=[.non] from rfl,hc,fy,R.ok_bind,hs];rfl
theorem rR {ps:List P4} (hp:oW ps):aN [gD ps]=.ok (.int (aV ps)):=by
  unfold aN dq;refine jp ?_;show bW _ [.val (gD ps)]=_;rw [nh,fw hp (ρ:=[.val (gD ps)]) rfl];rfl
theorem pc {M:Int} {cs:List Int} {p:P4} (hne:p.ns≠[]) (hgo:∀ x∈p.ns,0<=x/\x < cs.length) (hl:p.ns.length<=24):ay [p.d,iL cs,.int M]=.ok (.int (eD M cs p)):=by
  unfold ay c8;refine jp ?_;have h1:bF (fQ (e2 cF (ag 0) (eC (.int 3)))) 1 [1] (bq 0) (fun _=>.ok true) (e2 cF (ag 1) (ag 0)) [.val p.d,.val (iL cs),.val (.int M),.non,.non]=.ok (iL (p.ns.map (cp cs))):=by
    have hc:=lf (e2 cF (ag 1) (ag 0)) [.val (iL cs)] (cp cs) p.ns fun x hx=>by
      have:=hgo x hx;simp [vM this.1 this.2]
    rw [cK];simp only [dX,jl,cC,R.ok_bind,jm,jZ,gK,fT,List.length_map];rw [if_pos (dj (by omega)),show au 1 [1] [.val p.d,.val (iL cs),.val (.int M),.non,.non]=[.non,.val (iL cs)] from rfl,hc];rfl
  show aS (bC 3 _) _ [.val p.d,.val (iL cs),.val (.int M),.non,.non]=_;rw [aY (ρ':=[.val p.d,.val (iL cs),.val (.int M),.val (iL (p.ns.map (cp cs))),.non]) (by rw [cZ,h1];rfl)];have hm:=eh hne (cp cs);rw [aY (ρ':=[.val p.d,.val (iL cs),.val (.int M),.val (iL (p.ns.map (cp cs))),.val (.int (eK cs p))]) (by
    by_cases hw:p.w=0
    · simp [gI,hw,fF,mO hm,eK]
    · simp [gI,hw,fF,mM hm,eK])]
  by_cases h:M < eK cs p
  · refine uG ?_;have e:eD M cs p=eK cs p:=by unfold eD ig;rw [if_pos h]
    rw [e];simp [r8,h]
  · rw [aY (ρ':=[.val p.d,.val (iL cs),.val (.int M),.val (iL (p.ns.map (cp cs))),.val (.int (eK cs p))]) (by simp [r8,h])];have e:eD M cs p=tN M (cU (eK cs p-p.g)):=by unfold eD ig;rw [if_neg h]
    rw [e];simp [mm,tN,cU]
theorem oD {M:Int} {ps:List P4} (hp:oW ps) {cs:List Int} (hl:cs.length=ps.length) (x:cg):bF (fQ (ag 0)) 1 [2,1] (bq 0) (fun _=>.ok true) (br ay (ak (ag 0) (ak (ag 1) (ak (ag 2) be)))) [.val (gD ps),.val (.int M),.val (iL cs),x]=.ok (iL (oE M ps cs)):=by
  have hc:=j6 (br ay (ak (ag 0) (ak (ag 1) (ak (ag 2) be)))) [.val (iL cs),.val (.int M)] (fun p=>.int (eD M cs p)) ps fun p hm=>by
    have:=pc (M:=M) (cs:=cs) (hp.ne p hm) (fun x hx=>by rw [hl];exact hp.go p hm x hx) (hp.l24 p hm);simpa using this
  rw [cK];simp only [dX,cC,R.ok_bind,gK,fT,List.length_map];rw [if_pos (dj (by have:=hp.n24;omega)),show au 1 [2,1] [.val (gD ps),.val (.int M),.val (iL cs),x]=[.non,.val (iL cs),.val (.int M)] from rfl,hc,fy];unfold iL oE;rw [List.map_map];rfl
noncomputable abbrev u8:ar->R Bool:=tE (e2 (kR) (ag 3) (ag 2))
noncomputable abbrev sU:Fs:=aS (bC 2 (ag 3)) (bC 3 (bF (fQ (ag 0)) 1 [2,1] (bq 0) (fun _=>.ok true) (br ay (ak (ag 0) (ak (ag 1) (ak (ag 2) be))))))
theorem qc {M:Int} {ps:List P4} (hp:oW ps) {cs:List Int} (hl:cs.length=ps.length) (x:cg):sU [.val (gD ps),.val (.int M),x,.val (iL cs)]=.ok (.nx [.val (gD ps),.val (.int M),.val (iL cs),.val (iL (oE M ps cs))]):=by
  unfold sU;rw [aY (ρ':=[.val (gD ps),.val (.int M),.val (iL cs),.val (iL cs)]) (by simp),cZ,oD hp hl];rfl
theorem mZ {M:Int} {ps:List P4} (hM:0<=M) (hM2:M<=1000) (hp:oW ps):∀ (fuel k:Nat),(30001-(cV M ps k).sum).toNat < fuel ->
    ∃ j,cV M ps (j+1)=cV M ps j/\bT u8 sU fuel [.val (gD ps),.val (.int M),.val (iL (cV M ps k)),.val (iL (cV M ps (k+1)))]=.ok (.nx [.val (gD ps),.val (.int M),.val (iL (cV M ps j)),.val (iL (cV M ps j))])
  | 0,k,h=>absurd h (Nat.not_lt_zero _)
  | fuel+1,k,h=>by
    rw [lE];have ht:u8 [.val (gD ps),.val (.int M),.val (iL (cV M ps k)),.val (iL (cV M ps (k+1)))]=.ok (!decide (cV M ps (k+1)=cV M ps k)):=by
      have:=vW (cV M ps (k+1)) (cV M ps k);simp [this]
    rw [ht,R.ok_bind];by_cases e:cV M ps (k+1)=cV M ps k
    · refine ⟨k,e,?_⟩;rw [decide_eq_true e,e];rfl
    · rw [decide_eq_false e];have g:=rK hM hp.ne k e;have s1:=tW hM hp.ne hM2 hp.n24 (k+1);obtain ⟨j,h1,h2⟩:=mZ hM hM2 hp fuel (k+1) (by omega);refine ⟨j,h1,?_⟩;rw [<- h2];show (sU _>>=_)=_;rw [qc hp (eE hM hp.ne (k+1)).len];rfl
theorem om {M:Int} {ps:List P4} (hM:0<=M) (hM2:M<=1000) (hp:oW ps):∃ j,cV M ps (j+1)=cV M ps j/\aD [gD ps,.int M]=.ok (iL (cV M ps j)):=by
  have s0:=rL hM hp.ne 0;obtain ⟨j,h1,h2⟩:=mZ hM hM2 hp 999999 0 (by omega);refine ⟨j,h1,?_⟩;unfold aD cB;refine jp ?_;show aS (bC 2 (eC .none)) _ [.val (gD ps),.val (.int M),.non,.non]=_;rw [aY (ρ':=[.val (gD ps),.val (.int M),.val .none,.non]) (by simp)];have hc:=j6 (eC (.int 0)) [] (fun _=>.int 0) ps fun p _=>rfl
  rw [aY (ρ':=[.val (gD ps),.val (.int M),.val .none,.val (iL (cV M ps 0))]) (by
    rw [cZ,cK];simp only [dX,cC,R.ok_bind,gK,fT,List.length_map];rw [if_pos (dj (by have:=hp.n24;omega)),show au 1 [] [.val (gD ps),.val (.int M),.val .none,.non]=[.non] from rfl,hc,fy];unfold iL cV;rw [List.map_map];rfl)]
  have ht:u8 [.val (gD ps),.val (.int M),.val .none,.val (iL (cV M ps 0))]=.ok true:=by
    have:kR (iL (cV M ps 0)) .none=.ok (.bool true):=by
      unfold kR;rw [if_pos (by unfold jT;simp [PyData.canLay0,fP,PyData.depth])];simp [PyData.eqv]
    simp [this]
  have hw:kc 1000000 u8 sU [.val (gD ps),.val (.int M),.val .none,.val (iL (cV M ps 0))]=.ok (.nx [.val (gD ps),.val (.int M),.val (iL (cV M ps j)),.val (iL (cV M ps j))]):=by
    show bT u8 sU (999999+1) _=_;rw [lE,ht,R.ok_bind];show (sU _>>=_)=_;rw [qc hp (eE hM hp.ne 0).len];exact h2
  rw [aY (ρ':=[.val (gD ps),.val (.int M),.val (iL (cV M ps j)),.val (iL (cV M ps j))]) (by
    show mq (kc 1000000 u8 sU) _=_;rw [ng,hw];rfl)]
  simp
theorem pq {cs:List Int} {p:P4} (hne:p.ns≠[]) (hgo:∀ x∈p.ns,0<=x/\x < cs.length):aB [p.d,iL cs]=.ok (.int (oP cs p.ns)):=by
  unfold aB cO;refine jp ?_;have hk:(p.ns.map PyData.int).all (jt (cs.map .int))=true:=List.all_eq_true.mpr fun d hd=>by
    obtain ⟨x,hx,rfl⟩:=List.mem_map.mp hd;have:=hgo x hx;simp only [jt,this.1,decide_true,Bool.true_and,List.getElem?_map,List.getElem?_eq_getElem (show x.toNat < cs.length by omega),Option.map_some]
  have he:(p.ns.map PyData.int).isEmpty=false:=by
    cases h:p.ns with
    | nil=>exact absurd h hne
    | cons=>rfl
  obtain ⟨hB,ec,_⟩:=gh (cs:=cs) hne;have hd:im (iL cs) (.tuple (p.ns.map .int))=.ok (.int (oP cs p.ns)):=by
    show (if (p.ns.map PyData.int).isEmpty=false/\(p.ns.map PyData.int).all (jt (cs.map .int))=true then R.ok ((p.ns.map PyData.int).getD (argBest (fun i j=>decide (dZ (cs.map .int) ((p.ns.map PyData.int).getD i .none) < dZ (cs.map .int) ((p.ns.map PyData.int).getD j .none))) ((p.ns.map PyData.int).length-1)) .none) else .no)=_;rw [if_pos ⟨he,hk⟩,List.length_map];show R.ok ((p.ns.map PyData.int).getD (pj cs p.ns) .none)=_;rw [lb hB,<- ec]
  show bW (jn 1 _) [.val p.d,.val (iL cs)]=_;rw [nh];unfold jn;simp only [jl,cC,jm,R.ok_bind,jZ,dS,hd]
noncomputable def lD (M c:Int):PyData:=if M < c then .none else .int c
noncomputable def gm (cs:List Int) (p:P4):PyData:=if p.w=0 then .int (oP cs p.ns) else .none
noncomputable abbrev ez (M:Int) (ps:List P4) (cs:List Int):PyData:=.tuple [.tuple (cs.map (lD M)),.tuple (ps.map (gm cs))]
theorem p9 {ps:List P4} (hp:oW ps):∃ j,cV (aV ps) ps (j+1)=cV (aV ps) ps j/\aC [gD ps]=.ok (ez (aV ps) ps (cV (aV ps) ps j)):=by
  obtain ⟨l0,l1,_⟩:=jX ps hp.g0;have n24:=hp.n24;obtain ⟨j,h1,h2⟩:=om (M:=aV ps) l0 (by omega) hp;refine ⟨j,h1,?_⟩;have bd:=eE l0 hp.ne j;generalize hcs:cV (aV ps) ps j=cs at *;unfold aC cQ;refine jp ?_;show aS (bC 1 _) _ [.val (gD ps),.non,.non,.non,.non]=_;rw [aY (ρ':=[.val (gD ps),.val (.int (aV ps)),.non,.non,.non]) (by have:=rR hp;simp [this])];rw [aY (ρ':=[.val (gD ps),.val (.int (aV ps)),.val (iL cs),.non,.non]) (by simp [h2])];have c1:=gy (sP (tE (e2 (eV r8) (ag 0) (ag 1))) (eC .none) (ag 0)) [.non,.val (.int (aV ps))] 0 (fun d=>match d with | .int i=>lD (aV ps) i | d=>d) (cs.map .int) fun d hd=>by
    obtain ⟨x,hx,rfl⟩:=List.mem_map.mp hd;by_cases h:aV ps < x
    · simp [r8,h,lD]
    · simp [r8,h,lD]
  rw [List.map_map] at c1;have c1':bz (bq 0) (fun _=>.ok true) (sP (tE (e2 (eV r8) (ag 0) (ag 1))) (eC .none) (ag 0)) [.non,.val (.int (aV ps))] (cs.map .int)=.ok (cs.map (lD (aV ps))):=c1;rw [aY (ρ':=[.val (gD ps),.val (.int (aV ps)),.val (iL cs),.val (.tuple (cs.map (lD (aV ps)))),.non]) (by
    rw [cZ,kY,cK];simp only [dX,dS,cC,R.ok_bind,uF,fT,List.length_map];rw [if_pos (dj (by have:=bd.len;omega)),show au 1 [1] [.val (gD ps),.val (.int (aV ps)),.val (iL cs),.non,.non]=[.non,.val (.int (aV ps))] from rfl,c1',fy,R.ok_bind,kT];rfl)]
  have c2:=j6 (sP (tE (e2 (kQ) (e2 cF (ag 0) (eC (.int 0))) (eC (.int 0)))) (br aB (ak (ag 0) (ak (ag 1) be))) (eC .none)) [.val (iL cs)] (gm cs) ps fun p hm=>by
    have:=pq (cs:=cs) (hp.ne p hm) fun x hx=>by rw [bd.len];exact hp.go p hm x hx
    by_cases h:p.w=0
    · simp [gI,h,fF,this,gm]
    · simp [gI,h,fF,gm]
  rw [aY (ρ':=[.val (gD ps),.val (.int (aV ps)),.val (iL cs),.val (.tuple (cs.map (lD (aV ps)))),.val (.tuple (ps.map (gm cs)))]) (by
    rw [cZ,kY,cK];simp only [dX,cC,R.ok_bind,gK,fT,List.length_map];rw [if_pos (dj (by omega)),show au 1 [2] [.val (gD ps),.val (.int (aV ps)),.val (iL cs),.val (.tuple (cs.map (lD (aV ps)))),.non]=[.non,.val (iL cs)] from rfl,c2,fy,R.ok_bind,kT];rfl)]
  have s2:2<=sizeLine:=by decide
  simp [s2,ez]
theorem uu {ps:List P4} {hi:Int} (hp:∀ p∈ps,Pl ps.length hi p) (h24:(ps.length:Int)<=24):oW ps :=
  ⟨fun p h=>(hp p h).ne,fun p h=>(hp p h).inn,fun p h=>(hp p h).g0,fun p h=>(hp p h).g1,fun p h=>(hp p h).w0,fun p h=>(hp p h).w1,by omega,fun p h=>by have:=(hp p h).len;omega⟩
noncomputable def dA (M x:Int):Int:=if M < x then 1000000 else x
theorem qm {M x y:Int} (hM:M<=1000) (h:x<=y) (hy:y<=M+1):dA M x<=dA M y:=by unfold dA;split <;> split <;> omega
theorem ut {M x y:Int} (hM:M<=1000) (h:x < y) (hy:y<=M+1):dA M x < dA M y:=by unfold dA;split <;> split <;> omega
theorem t9 {l:List Int} (f:Int->Int) (hne:l≠[]) (h:∀ x∈l,∀ y∈l,x<=y->f x<=f y):mn (l.map f)=f (mn l):=by
  obtain ⟨a1,a2⟩:=hV hne;obtain ⟨b1,b2⟩:=hV (eh hne f);obtain ⟨y,hy,e⟩:=List.mem_map.mp b1;have c1:=b2 (f (mn l)) (List.mem_map_of_mem a1);have c2:=h _ a1 y hy (a2 y hy);omega
theorem ua {l:List Int} (f:Int->Int) (hne:l≠[]) (h:∀ x∈l,∀ y∈l,x<=y->f x<=f y):mx (l.map f)=f (mx l):=by
  obtain ⟨a1,a2⟩:=hW hne;obtain ⟨b1,b2⟩:=hW (eh hne f);obtain ⟨y,hy,e⟩:=List.mem_map.mp b1;have c1:=b2 (f (mx l)) (List.mem_map_of_mem a1);have c2:=h y hy _ a1 (a2 y hy);omega
theorem pP {k:Int}:∀ (l:List Int) (B:Nat) (hB:B < l.length),l[B]=k->(∀ (j:Nat) (hj:j < B),l[j]'(by omega)≠k)->l.idxOf k=B
  | [],B,hB,_,_=>absurd hB (Nat.not_lt_zero _)
  | x::l,0,hB,h1,_=>by
    have:x=k:=h1;subst this;simp
  | x::l,B+1,hB,h1,h2=>by
    have hx:x≠k:=h2 0 (Nat.succ_pos _);have ih:=pP l B (by simpa using hB) (by simpa using h1) fun j hj=>by simpa using h2 (j+1) (by omega)
    have hb:(x==k)=false:=by simp [hx]
    rw [List.idxOf_cons,hb,ih];rfl
theorem nk:∀ {ns:List Int},(∀ x∈ns,0<=x/\x<=1000000)->PyData.weightAll (ns.map .int)<=22*ns.length
  | [],_=>by simp [PyData.weightAll]
  | n::ns,h=>by
    have ih:=nk fun x hx=>h x (List.mem_cons_of_mem _ hx)
    have hn:=h n List.mem_cons_self;have h1:PyData.weight (.int n)<=21:=by
      simp only [PyData.weight];split
      · omega
      · rename_i hz;have h2:n.natAbs≠0:=by
          intro z;apply hz;have:n=0:=by omega
          rw [this];rfl
        have:=(Nat.log2_lt h2 (k:=20)).mpr (by omega);omega
    simp only [List.map_cons,PyData.weightAll,List.length_cons];omega
theorem tU {ns:List Int} {k:Int} (h:ns.length<=1000) (hb:∀ x∈ns,0<=x/\x<=1000000) (hk:k∈ns):dP (iL ns) (.int k)=.ok (.int (ns.idxOf k:Nat)):=by
  have hw:=nk hb;have e1:(PyData.list (ns.map .int)).canLay0=true:=by simp only [PyData.canLay0];exact fP ns
  have e2:(PyData.list (ns.map .int)).depth<=64:=by simp only [PyData.depth,eX];omega
  have e3:(PyData.list (ns.map .int)).weight<=2 ^ 20:=by simp only [PyData.weight];omega
  have hl:PyData.layable0 (.list (ns.map .int))=true:=by
    unfold PyData.layable0;rw [e1,decide_eq_true e2,decide_eq_true e3];rfl
  show (match bh (ns.map .int) with | some ns'=>if PyData.layable0 (.list (ns.map .int))=true/\k∈ns' then R.ok (PyData.int (ns'.idxOf k:Nat)) else .no | none=>.no)=_;rw [cf];exact if_pos ⟨hl,hk⟩
theorem sC (M x:Int):bf [lD M x]=.ok (.int (dA M x)):=by
  unfold bf fJ;rw [dt];by_cases h:M < x
  · have e:lD M x=.none:=by unfold lD;rw [if_pos h]
    have e2:dA M x=1000000:=by unfold dA;rw [if_pos h]
    rw [e,e2];have:iZ .none .none=.ok (.bool true):=rfl;have hp:pC (.int 10) (.int 6)=.ok (.int 1000000):=by
      show (if (0:Int)<=6/\(6:Int)<=1000000/\(10:Int).natAbs < 2 ^ 64 then R.ok (PyData.int (10 ^ (6:Int).toNat)) else .no)=_;rw [if_pos (by decide)];rfl
    simp [this,hp]
  · have e:lD M x=.int x:=by unfold lD;rw [if_neg h]
    have e2:dA M x=x:=by unfold dA;rw [if_neg h]
    rw [e,e2];have:iZ (.int x) .none=.ok (.bool false):=rfl;simp [this]
theorem nq (f g h:P4->PyData):∀ ps:List P4,cM (ps.map f) (ps.map g) (ps.map h)=ps.map fun p=>.tuple [f p,g p,h p]
  | []=>rfl
  | p::ps=>by rw [List.map_cons,List.map_cons,List.map_cons,List.map_cons,<- nq f g h ps];rfl
theorem vV {M:Int} {cs:List Int} {i:Int} (h0:0<=i) (h1:i < cs.length):cF (.tuple (cs.map (lD M))) (.int i)=.ok (lD M (cp cs i)):=by
  rw [sM h0 (by simpa using h1)];unfold cp;rw [List.getElem_map,List.getD_eq_getElem?_getD,List.getElem?_eq_getElem (by omega)];rfl
section
variable {M:Int} {ps:List P4} {cs:List Int}
noncomputable abbrev hU:Fs:=(aS (jy (lz (tE (e1 (eW .bool) (ag 5))) (fH (tE (e2 (cy) (ag 5) (eC .none))) (gS (tE (e1 (eW .int) (ag 5)))))) (bW (eC (.bool false))) cz) (aS (jy (fH (tE (e2 (cy) (ag 5) (eC .none))) (gS (tE (io (eV r9) (eV r9) (eC (.int 0)) (ag 5) (ag 3))))) (bW (eC (.bool false))) cz) (aS (bC 7 (bF (fQ (e2 cF (ag 4) (eC (.int 3)))) 1 [2] (bq 0) (fun _=>.ok true) (br bf (ak (e2 cF (e2 cF (ag 1) (eC (.int 0))) (ag 0)) be)))) (aS (bC 8 (e1 ji (ag 7))) (aS (jy (tE (e2 (kQ) (e2 cF (ag 4) (eC (.int 0))) (eC (.int 0)))) (aS (bC 8 (e1 jk (ag 7))) (jy (tE (e2 (kR) (ag 6) (e2 cF (e2 cF (ag 4) (eC (.int 3))) (ip (ag 7) (ag 8))))) (bW (eC (.bool false))) cz)) (jy (tE (e2 (cy) (ag 6) (eC .none))) (bW (eC (.bool false))) cz)) (aS (bC 9 (e2 i0 (eC (.int 0)) (e2 jR (ag 8) (e2 cF (ag 4) (eC (.int 2)))))) (jy (lz (fH (tE (e2 (iZ) (ag 5) (eC .none))) (tE (e2 (eV r9) (ag 9) (ag 3)))) (fH (tE (e2 (cy) (ag 5) (eC .none))) (tE (e2 (kR) (ag 5) (ag 9))))) (bW (eC (.bool false))) cz)))))))
theorem rc (hM:0<=M) (hM2:M<=1000) (hp:oW ps) (bd:Bd M ps.length cs) (A B:cg) {p:P4} (hm:p∈ps) (x7 x8 x9:cg):∃ y7 y8 y9,
    hU [A,B,.val (ez M ps cs),.val (.int M),.val p.d,.val (lD M (eD M cs p)),.val (gm cs p),x7,x8,x9]=.ok (.nx [A,B,.val (ez M ps cs),.val (.int M),.val p.d,.val (lD M (eD M cs p)),.val (gm cs p),y7,y8,y9]):=by
  have hne:=hp.ne p hm;have hgo:∀ x∈p.ns,0<=x/\x < cs.length:=fun x hx=>by rw [bd.len];exact hp.go p hm x hx
  have hl:=hp.l24 p hm;obtain ⟨g0,_,eg0⟩:=dN (cs:=cs) hne;have a0:0<=eK cs p:=by rw [eg0];exact (bd.at hM g0).1
  have a1:eK cs p<=M+1:=by rw [eg0];exact (bd.at hM g0).2
  have cb:0<=eD M cs p:=(mI hM a0 a1).1;have hgg0:=hp.g0 p hm;have hgg1:=hp.g1 p hm;have hmono:∀ x∈p.ns.map (cp cs),∀ y∈p.ns.map (cp cs),x<=y->dA M x<=dA M y:=fun x _ y hy h=>by
    obtain ⟨g,_,rfl⟩:=List.mem_map.mp hy;exact qm hM2 h (bd.at hM g).2
  have hm':=eh hne (cp cs);have hm2:=eh hm' (dA M);generalize hX:ez M ps cs=X;have hX0:cF X (.int 0)=.ok (.tuple (cs.map (lD M))):=by rw [<- hX];rfl
  refine ⟨.val (iL ((p.ns.map (cp cs)).map (dA M))),.val (.int (dA M (eK cs p))),.val (.int (cU (dA M (eK cs p)-p.g))),?_⟩;unfold hU;rw [aY (ρ':=[A,B,.val X,.val (.int M),.val p.d,.val (lD M (eD M cs p)),.val (gm cs p),x7,x8,x9]) (by
    unfold lD;by_cases h:M < eD M cs p
    · simp [h,eW,vT,cy,bI]
    · simp [h,eW,vT,cy,bI])]
  rw [aY (ρ':=[A,B,.val X,.val (.int M),.val p.d,.val (lD M (eD M cs p)),.val (gm cs p),x7,x8,x9]) (by
    unfold lD;by_cases h:M < eD M cs p
    · simp [h,cy,bI]
    · have h':eD M cs p<=M:=by omega
      simp [h,cy,bI,r9,cb,h'])]
  rw [aY (ρ':=[A,B,.val X,.val (.int M),.val p.d,.val (lD M (eD M cs p)),.val (gm cs p),.val (iL ((p.ns.map (cp cs)).map (dA M))),x8,x9]) (by
    have hc:=lf (br bf (ak (e2 cF (e2 cF (ag 1) (eC (.int 0))) (ag 0)) be)) [.val X] (fun g=>dA M (cp cs g)) p.ns fun g hg=>by
      have:=hgo g hg;simp [hX0,vV this.1 this.2,sC]
    rw [cZ,cK];simp only [dX,jl,dS,cC,R.ok_bind,jm,jZ,gK,fT,List.length_map];rw [if_pos (dj (by omega)),show au 1 [2] [A,B,.val X,.val (.int M),.val p.d,.val (lD M (eD M cs p)),.val (gm cs p),x7,x8,x9]=[.non,.val X] from rfl,hc,fy,R.ok_bind];unfold iL;rw [List.map_map (g:=dA M)];rfl)]
  rw [aY (ρ':=[A,B,.val X,.val (.int M),.val p.d,.val (lD M (eD M cs p)),.val (gm cs p),.val (iL ((p.ns.map (cp cs)).map (dA M))),.val (.int (dA M (mx (p.ns.map (cp cs))))),x9]) (by
    have:=mM hm2;rw [ua _ hm' hmono] at this;rw [cZ,kY];simp only [dS,cC,R.ok_bind,this];rfl)]
  rw [aY (ρ':=[A,B,.val X,.val (.int M),.val p.d,.val (lD M (eD M cs p)),.val (gm cs p),.val (iL ((p.ns.map (cp cs)).map (dA M))),.val (.int (dA M (eK cs p))),x9]) (by
    by_cases hw:p.w=0
    · have hmin:=mO hm2;rw [t9 _ hm' hmono] at hmin;have ea:eK cs p=mn (p.ns.map (cp cs)):=by unfold eK;rw [if_pos hw]
      rw [<- ea] at hmin;obtain ⟨hB,ec,_,h3⟩:=gh (cs:=cs) hne;have hch:=ri (cs:=cs) hne hw;have hidx:((p.ns.map (cp cs)).map (dA M)).idxOf (dA M (eK cs p))=pj cs p.ns:=by
        refine pP _ _ (by simpa using hB) ?_ fun j hj=>?_
        · simp only [List.getElem_map];rw [<- ec,hch]
        · simp only [List.getElem_map];have h5:=h3 j hj;rw [hch] at h5;have:=ut hM2 h5 (bd.at hM _).2;omega
      have hmem:dA M (eK cs p)∈(p.ns.map (cp cs)).map (dA M):=by
        rw [<- hch];exact List.mem_map_of_mem (List.mem_map_of_mem (mL hne))
      have hi:=tU (ns:=(p.ns.map (cp cs)).map (dA M)) (k:=dA M (eK cs p)) (by simp;omega) (fun x hx=>by
        obtain ⟨y,hy,rfl⟩:=List.mem_map.mp hx;obtain ⟨g,_,rfl⟩:=List.mem_map.mp hy;have:=bd.at hM g;unfold dA;split <;> omega) hmem
      rw [hidx] at hi;have hx:cF (.tuple (p.ns.map .int)) (.int (pj cs p.ns:Nat))=.ok (.int (oP cs p.ns)):=by
        rw [sM (by omega) (by simp;omega)];simp only [Int.toNat_natCast,List.getElem_map];rw [ec]
      have hE:ip (ag 7) (ag 8) [A,B,.val X,.val (.int M),.val p.d,.val (lD M (eD M cs p)),.val (gm cs p),.val (iL ((p.ns.map (cp cs)).map (dA M))),.val (.int (dA M (eK cs p))),x9]=.ok (.int (pj cs p.ns:Nat)):=by
        unfold ip;simp only [dS,cC,R.ok_bind];show (R.ok ()>>=fun _=>dP _ _)=_;rw [R.ok_bind];exact hi
      rw [qB];simp only [ti,jl,dS,cC,jm,R.ok_bind,gI,fF,hw,decide_true,sL,if_true];rw [aY (ρ':=[A,B,.val X,.val (.int M),.val p.d,.val (lD M (eD M cs p)),.val (gm cs p),.val (iL ((p.ns.map (cp cs)).map (dA M))),.val (.int (dA M (eK cs p))),x9]) (by
        rw [cZ,kY];simp only [dS,cC,R.ok_bind,hmin];rfl)]
      have hmv:gm cs p=.int (oP cs p.ns):=by unfold gm;rw [if_pos hw]
      rw [hmv] at hE ⊢;rw [qB];simp only [ti,jl,dS,cC,jm,R.ok_bind,jZ,hE,hx,mP,decide_true,Bool.not_true,sL,Bool.false_eq_true,if_false,qC]
    · have ea:eK cs p=mx (p.ns.map (cp cs)):=by unfold eK;rw [if_neg hw]
      have hmv:gm cs p=.none:=by unfold gm;rw [if_neg hw]
      rw [hmv,<- ea];simp [gI,fF,hw,cy,bI])]
  rw [aY (ρ':=[A,B,.val X,.val (.int M),.val p.d,.val (lD M (eD M cs p)),.val (gm cs p),.val (iL ((p.ns.map (cp cs)).map (dA M))),.val (.int (dA M (eK cs p))),.val (.int (cU (dA M (eK cs p)-p.g)))]) (by simp [mm,cU])];by_cases h:M < eD M cs p
  · have e:lD M (eD M cs p)=.none:=by unfold lD;rw [if_pos h]
    have h2:¬ cU (dA M (eK cs p)-p.g)<=M:=by
      unfold eD ig tN at h;unfold dA;by_cases h3:M < eK cs p
      · rw [if_pos h3];unfold cU;split <;> omega
      · rw [if_neg h3] at h ⊢;split at h <;> omega
    rw [e];simp [iZ,cy,bI,r9,h2]
  · have e:lD M (eD M cs p)=.int (eD M cs p):=by unfold lD;rw [if_neg h]
    have h2:eD M cs p=cU (dA M (eK cs p)-p.g):=by
      unfold eD ig tN at h ⊢;unfold dA;by_cases h3:M < eK cs p
      · rw [if_pos h3] at h;omega
      · rw [if_neg h3] at h;rw [if_neg h3,if_neg h3];split at h
        · rename_i h4;rw [if_pos h4]
        · omega
    rw [e];simp [iZ,cy,bI,mP,h2]
theorem mY (hM:0<=M) (hM2:M<=1000) (hp:oW ps) (bd:Bd M ps.length cs) (A B:cg):∀ (qs:List P4),(∀ p∈qs,p∈ps)->∀ x4 x5 x6 x7 x8 x9:cg,∃ y4 y5 y6 y7 y8 y9,
    dW (nD 4 5 6) hU (qs.map fun p=>.tuple [p.d,lD M (eD M cs p),gm cs p]) [A,B,.val (ez M ps cs),.val (.int M),x4,x5,x6,x7,x8,x9]=.ok (.nx [A,B,.val (ez M ps cs),.val (.int M),y4,y5,y6,y7,y8,y9])
  | [],_,x4,x5,x6,x7,x8,x9=>⟨x4,x5,x6,x7,x8,x9,by rw [List.map_nil,la]⟩
  | p::qs,hq,x4,x5,x6,x7,x8,x9=>by
    obtain ⟨y7,y8,y9,e⟩:=rc hM hM2 hp bd A B (hq p List.mem_cons_self) x7 x8 x9;obtain ⟨z4,z5,z6,z7,z8,z9,e2⟩:=mY hM hM2 hp bd A B qs (fun q h=>hq q (List.mem_cons_of_mem _ h)) (.val p.d) (.val (lD M (eD M cs p))) (.val (gm cs p)) y7 y8 y9;refine ⟨z4,z5,z6,z7,z8,z9,?_⟩;rw [List.map_cons,pK,<- e2];show (hU [A,B,.val (ez M ps cs),.val (.int M),.val p.d,.val (lD M (eD M cs p)),.val (gm cs p),x7,x8,x9]>>=_)=_;rw [e];rfl
end
theorem jo {ds:List PyData} (h:∀ x∈ds,fW x/\x.depth=0):fW (.tuple ds)/\(PyData.tuple ds).depth=1:=by
  have dep:∀ es:List PyData,(∀ x∈es,fW x/\x.depth=0)->PyData.depthAll es=0:=by
    intro es;induction es with
    | nil=>intro _;simp [PyData.depthAll]
    | cons d es ih=>intro h;simp [PyData.depthAll,(h d List.mem_cons_self).2,ih fun x hx=>h x (List.mem_cons_of_mem _ hx)]
  exact ⟨ix.mpr fun x hx=>(h x hx).1,by simp [PyData.depth,dep ds h]⟩
theorem qx (M:Int) (ps:List P4) (cs:List Int):kQ (ez M ps cs) (ez M ps cs)=.ok (.bool true):=by
  have h1:=jo (ds:=cs.map (lD M)) fun x hx=>by
    obtain ⟨c,_,rfl⟩:=List.mem_map.mp hx;unfold lD;split
    · exact ⟨jr,by simp [PyData.depth]⟩
    · exact ⟨iw _,by simp [PyData.depth]⟩
  have h2:=jo (ds:=ps.map (gm cs)) fun x hx=>by
    obtain ⟨c,_,rfl⟩:=List.mem_map.mp hx;unfold gm;split
    · exact ⟨iw _,by simp [PyData.depth]⟩
    · exact ⟨jr,by simp [PyData.depth]⟩
  have hg:fW (ez M ps cs):=ix.mpr fun x hx=>by
    simp at hx;rcases hx with rfl | rfl
    · exact h1.1
    · exact h2.1
  have hd:(ez M ps cs).depth<=60:=by
    simp only [ez,PyData.depth,PyData.depthAll];have a:=h1.2;have b:=h2.2;simp only [PyData.depth] at a b;omega
  unfold kQ;rw [if_pos (by unfold jT;rw [hg];simp;exact hd),PySem.SeqAt.eqv_refl _ hg]
theorem p8:sT ku:=fun ns _=>by
  obtain ⟨ps,hi,hg,hpl,n1,n16,_,_⟩:=l9 ns (most:=16) (by omega) (by omega);have hp:oW ps:=uu hpl (by omega);obtain ⟨j,fx,hr⟩:=p9 hp;obtain ⟨l0,l1,_⟩:=jX ps hp.g0;have bd:=eE l0 hp.ne j;have fx':cV (aV ps) ps j=oE (aV ps) ps (cV (aV ps) ps j):=fx.symm;generalize hcs:cV (aV ps) ps j=cs at *;have n24:=hp.n24;unfold ku oU;refine jp ?_;show aS (bC 1 _) _ [.val (oA ns),.non,.non,.non,.non,.non,.non,.non,.non,.non]=_;rw [aY (ρ':=[.val (oA ns),.val (gD ps),.non,.non,.non,.non,.non,.non,.non,.non]) (by simp [hg])];rw [aY (ρ':=[.val (oA ns),.val (gD ps),.val (ez (aV ps) ps cs),.non,.non,.non,.non,.non,.non,.non]) (by simp [hr])];have hX0:cF (ez (aV ps) ps cs) (.int 0)=.ok (.tuple (cs.map (lD (aV ps)))):=rfl;have hX1:cF (ez (aV ps) ps cs) (.int 1)=.ok (.tuple (ps.map (gm cs))):=rfl;have hlen:gA (ez (aV ps) ps cs)=.ok (.int 2):=rfl;have hisi:eW .tuple (ez (aV ps) ps cs)=.ok (.bool true):=rfl;have hisi0:eW .tuple (.tuple (cs.map (lD (aV ps))))=.ok (.bool true):=rfl;have hisi1:eW .tuple (.tuple (ps.map (gm cs)))=.ok (.bool true):=rfl;have hsame:=qx (aV ps) ps cs;have hz:cM (ps.map P4.d) (cs.map (lD (aV ps))) (ps.map (gm cs))=ps.map fun p=>.tuple [p.d,lD (aV ps) (eD (aV ps) cs p),gm cs p]:=by
    have e:cs.map (lD (aV ps))=ps.map fun p=>lD (aV ps) (eD (aV ps) cs p):=by
      conv=>lhs;rw [fx']
      unfold oE;rw [List.map_map];rfl
    rw [e,nq]
  have hla:∀ x,fw hp (f:=ag 1) (ρ:=x)=fw hp (f:=ag 1) (ρ:=x):=fun _=>rfl
  generalize hX:ez (aV ps) ps cs=X at *;rw [aY (ρ':=[.val (oA ns),.val (gD ps),.val X,.non,.non,.non,.non,.non,.non,.non]) (by simp [hisi,hlen,mP,hX0,hisi0])];rw [aY (ρ':=[.val (oA ns),.val (gD ps),.val X,.non,.non,.non,.non,.non,.non,.non]) (by simp [hX0,mP,bd.len])];rw [aY (ρ':=[.val (oA ns),.val (gD ps),.val X,.val (.int (aV ps)),.non,.non,.non,.non,.non,.non]) (by
    rw [cZ,fw hp (f:=ag 1) (ρ:=[.val (oA ns),.val (gD ps),.val X,.non,.non,.non,.non,.non,.non,.non]) rfl];rfl)]
  obtain ⟨y4,y5,y6,y7,y8,y9,hf⟩:=mY l0 (by omega) hp bd (.val (oA ns)) (.val (gD ps)) ps (fun _ h=>h) .non .non .non .non .non .non;rw [hX] at hf;rw [aY (ρ':=[.val (oA ns),.val (gD ps),.val X,.val (.int (aV ps)),y4,y5,y6,y7,y8,y9]) (by
    rw [ng,nc];simp only [pO,jl,dS,cC,jm,R.ok_bind,hX0,hX1,uT,hz];rw [hf];rfl)]
  simp [hX1,hisi1,fF,hr,hsame]
noncomputable def vn:List Stmt:=PySem.Challenge.pw_duelground_k60_credits.main.body
noncomputable abbrev top (i:Nat):Stmt:=vn.getD i (.Pass ⟨0,0,0,0⟩)
noncomputable abbrev du:Stmt:=top 10
noncomputable abbrev ff:Stmt:=top 11
noncomputable abbrev e8:Stmt:=top 12
noncomputable abbrev e9:Stmt:=top 13
noncomputable abbrev fg:Stmt:=top 14
noncomputable abbrev c6:Stmt:=top 15
noncomputable abbrev fV:Stmt:=top 17
noncomputable abbrev cT:Stmt:=top 7
noncomputable abbrev cG:Stmt:=top 4
noncomputable abbrev cr:Stmt:=top 5
noncomputable abbrev bx:Stmt:=top 6
noncomputable abbrev bG:Stmt:=top 8
noncomputable abbrev e7:Stmt:=top 18
section
variable {P:Program} {w:World} {K:PySem.W.Frag} {mg:Str->Option Value} {base:Heap} {f:Addr} {fd:FuncData} {k:Nat}
theorem iU:aO ["_law_script","_law_k"] ["_law_script","_law_k"] (ah du):=⟨rfl,rfl,rfl,by decide +kernel,rfl,by decide +kernel,by decide +kernel⟩
theorem iS (W:gM K "_law_cell_at" "_law_cell_at" du f fd) (b_len:mg "len" = none) :
    bj P w K mg base (cN P w mg) (k+1) f fd ["_law_script","_law_k"] (eM (eL 2 (dn)) 2):=by
  refine aU W iU (G:=["len"]) (by decide +kernel) fun cdv A outer s H E hr T=>?_
  exact (aj (bZ (o7 (aa (ae T 1 rfl)) (aa (da T 0 rfl b_len (aa (ae T 0 rfl))))) (av (aA (aK T.hu (aa (ae T 0 rfl)) (aa (ae T 1 rfl)) (fun _ _=>rfl)))) bK)
      (av (aA af)))
theorem kA:aO ["_law_script","_law_k","_law_drawn_here"] ["_law_script","_law_k"] (ah ff):=⟨rfl,rfl,rfl,by decide +kernel,rfl,by decide +kernel,by decide +kernel⟩
theorem kl (W:gM K "_law_mixed" "_law_mixed" ff f fd) {f5:Addr} {d5:FuncData} {aM:lJ} (C5:mB P w K mg base k "_law_cell_at" ["_law_script","_law_k"] aM f5 d5) :
    bj P w K mg base (cN P w mg) (k+1) f fd ["_law_script","_law_k"] (eM (eL 3 (eQ aM)) 2):=by
  refine aU W kA (G:=["_law_cell_at"]) (by decide +kernel) fun cdv A outer s H E hr T=>?_
  exact (aj (aH T 2 rfl (bp (aa (cm (aa (bo (aa (bo (aa (bg C5 hr T 0 rfl (ai (ae T 0 rfl) (ai (ae T 1 rfl) aG)) rfl (ao (ao aR)))) (aa (cm (aa af) (aa (ae T 1 rfl)))))) (aa af))) (aa af))) (aa af)))
      (av (aA (bp (aa (bo (aa (bo (aa (cm (aa (ae T 2 rfl)) (aa (ae T 2 rfl)))) (aa (cm (aa af) (aa (ae T 2 rfl)))))) (aa (ae T 1 rfl)))) (aa af)))))
theorem ky:aO ["_law_number","_law_k","_law_drawn_here"] ["_law_number","_law_k"] (ah e8):=⟨rfl,rfl,rfl,by decide +kernel,rfl,by decide +kernel,by decide +kernel⟩
theorem ki (W:gM K "_law_drawn" "_law_drawn" e8 f fd) :
    bj P w K mg base (cN P w mg) (k+1) f fd ["_law_number","_law_k"] (eM (eL 3 (eO)) 2):=by
  refine aU W ky (G:=[]) (by decide +kernel) fun cdv A outer s H E hr T=>?_
  exact (aj (aH T 2 rfl (bp (aa (cm (aa (bo (aa (bo (aa (ae T 0 rfl)) (aa (cm (aa af) (aa (ae T 1 rfl)))))) (aa af))) (aa af))) (aa af)))
      (av (aA (bp (aa (bo (aa (bo (aa (cm (aa (ae T 2 rfl)) (aa (ae T 2 rfl)))) (aa (cm (aa af) (aa (ae T 2 rfl)))))) (aa (ae T 1 rfl)))) (aa af)))))
theorem kz:aO ["_law_number","_law_count","_law_found","_law_k"] ["_law_number","_law_count"] (ah e9):=⟨rfl,rfl,rfl,by decide +kernel,rfl,by decide +kernel,by decide +kernel⟩
theorem kj (W:gM K "_law_goals" "_law_goals" e9 f fd) {f7:Addr} {d7:FuncData} {az:lJ} (C7:mB P w K mg base k "_law_drawn" ["_law_number","_law_k"] az f7 d7) (b_int:mg "int" = none) (b_range:mg "range" = none) (b_sorted:mg "sorted" = none) (b_tuple:mg "tuple" = none) :
    bj P w K mg base (cN P w mg) (k+1) f fd ["_law_number","_law_count"] (eM (eL 4 (eP az)) 2):=by
  refine aU W kz (G:=["range","int","_law_drawn","tuple","sorted"]) (by decide +kernel) fun cdv A outer s H E hr T=>?_
  exact (aj (oZ T 2 rfl kJ)
      (aj (gv (have T:=T.nox;kD PassesOwn.never T.calm (gN T 0 rfl b_range (ai (bo (aa (bo (aa af) (aa (bp (aa (ae T 0 rfl)) (aa af))))) (aa (cm (aa af) (aa (ny T 1 rfl b_int (aa (jH T.hu (aa (bp (aa (dC (aa (ae T 0 rfl)) (aa af))) (aa af))) (aa af)))))))) aG) (ao aR)) (bH T 3 rfl) (av (o2 T 2 rfl (bp (aa (bg C7 hr T 2 rfl (ai (ae T 0 rfl) (ai (ae T 3 rfl) aG)) rfl (ao (ao aR)))) (aa (ae T 1 rfl))) cc))))
      (av (aA (dJ T 3 rfl b_tuple (dH (jJ T 4 rfl b_sorted (lR T 2 rfl))))))))
theorem kB:aO ["_law_number","_law_count","_law_high","_law_gain"] ["_law_number","_law_count","_law_high"] (ah fg):=⟨rfl,rfl,rfl,by decide +kernel,rfl,by decide +kernel,by decide +kernel⟩
theorem km (W:gM K "_law_place" "_law_place" fg f fd) {f7:Addr} {d7:FuncData} {az:lJ} (C7:mB P w K mg base k "_law_drawn" ["_law_number","_law_k"] az f7 d7) {f8:Addr} {d8:FuncData} {bn:lJ} (C8:mB P w K mg base k "_law_goals" ["_law_number","_law_count"] bn f8 d8) :
    bj P w K mg base (cN P w mg) (k+1) f fd ["_law_number","_law_count","_law_high"] (eM (eL 4 (eR az bn)) 3):=by
  refine aU W kB (G:=["_law_goals","_law_drawn"]) (by decide +kernel) fun cdv A outer s H E hr T=>?_
  exact (aj (aH T 3 rfl (fZ (aa (bp (aa (dC (aa (ae T 0 rfl)) (aa af))) (aa af))) (aa af)))
      (aj (bZ (gc T.hu (aa (bp (aa (dC (aa (ae T 0 rfl)) (aa af))) (aa af))) (aa af)) (av (aH T 3 rfl (fZ (aa (bp (aa (dC (aa (ae T 0 rfl)) (aa af))) (aa af))) (aa af)))) bK)
      (av (aA (kI (ai (bp (aa (ae T 0 rfl)) (aa af)) (ai (bp (aa (dC (aa (ae T 0 rfl)) (aa af))) (aa (bo (aa (ae T 2 rfl)) (aa af)))) (ai (ae T 3 rfl) (ai (bg C8 hr T 0 rfl (ai (bg C7 hr T 1 rfl (ai (ae T 0 rfl) (ai af aG)) rfl (ao (ao aR))) (ai (ae T 1 rfl) aG)) rfl (ao (ao aR))) aG)))))))))
theorem jF:aO ["_law_script","_law_most","_law_number","_law_count","_law_high"] ["_law_script","_law_most"] (ah c6):=⟨rfl,rfl,rfl,by decide +kernel,rfl,by decide +kernel,by decide +kernel⟩
theorem jD (W:gM K "_law_ground" "_law_ground" c6 f fd) {f6:Addr} {d6:FuncData} {aP:lJ} (C6:mB P w K mg base k "_law_mixed" ["_law_script","_law_k"] aP f6 d6) {f9:Addr} {d9:FuncData} {aZ:lJ} (C9:mB P w K mg base k "_law_place" ["_law_number","_law_count","_law_high"] aZ f9 d9) (b_len:mg "len" = none) (b_max:mg "max" = none) (b_min:mg "min" = none) (b_range:mg "range" = none) (b_tuple:mg "tuple" = none) :
    bj P w K mg base (cN P w mg) (k+1) f fd ["_law_script","_law_most"] (eM (eL 5 (dF aP aZ)) 2):=by
  refine aU W jF (G:=["_law_mixed","min","max","len","tuple","range"]) (by decide +kernel) fun cdv A outer s H E hr T=>?_
  exact (aj (aH T 2 rfl (bg C6 hr T 0 rfl (ai (ae T 0 rfl) (ai af aG)) rfl (ao (ao aR))))
      (aj (aH T 3 rfl (bo (aa af) (aa (bp (aa (ae T 2 rfl)) (aa (kF T 1 rfl b_min (aa (ae T 1 rfl)) (aa (eT T 2 rfl b_max (aa af) (aa (da T 3 rfl b_len (aa (ae T 0 rfl))))))))))))
      (aj (aH T 4 rfl (aK T.hu (dH (nA (ai af (ai af (ai af (ai af (ai af (ai af aG)))))))) (aa (bp (aa (dC (aa (ae T 2 rfl)) (aa af))) (aa af))) (fun _ _=>rfl)))
      (av (aA (dJ T 4 rfl b_tuple (dH (cJ (N:=["_law_k","_law_script","_law_count","_law_high"]) (own:=1) (G:=["_law_place","_law_mixed"]) (fr:=[0,3,4]) T rfl rfl (oN:=["_law_script","_law_most","_law_number","_law_count","_law_high"]) (on:=(ah c6).names) (by decide +kernel) (gN T 5 rfl b_range (ai (ae T 3 rfl) aG) (ao aR)) (bN (by decide)) (fun cl C s' H' fp E' T=>⟨(bH T 0 rfl),cj,(bg C9 hr T 0 rfl (ai (bg C6 hr T 1 rfl (ai (ae T 1 rfl) (ai (bo (aa af) (aa (ae T 0 rfl))) aG)) rfl (ao (ao aR))) (ai (ae T 2 rfl) (ai (ae T 3 rfl) aG))) rfl (ao (ao (ao aR))))⟩)))))))))
theorem lN:aO ["_law_credit"] ["_law_credit"] (ah fV):=⟨rfl,rfl,rfl,by decide +kernel,rfl,by decide +kernel,by decide +kernel⟩
theorem lI (W:gM K "_law_size" "_law_size" fV f fd) :
    bj P w K mg base (cN P w mg) (k+1) f fd ["_law_credit"] (eM (eL 1 (fJ)) 1):=by
  refine aU W lN (G:=[]) (by decide +kernel) fun cdv A outer s H E hr T=>?_
  exact (aj (bZ (jc (aa (ae T 0 rfl)) (aa bM)) (av (aA (o5 (aa af) (aa af)))) bK)
      (av (aA (ae T 0 rfl))))
theorem gW:aO ["place","needed"] ["place","needed"] (ah cT):=⟨rfl,rfl,rfl,by decide +kernel,rfl,by decide +kernel,by decide +kernel⟩
theorem gT (W:gM K "cheapest_goal" "cheapest_goal" cT f fd) {t_GOALS:Tok} (g_GOALS:mg "GOALS" = some (.int 3 t_GOALS)) (b_min:mg "min" = none) {cL tL:Addr} (nsL:PySem.W.nsIn K mainGlobals "cheapest_goal" = some (some (.ref f))) (tbL:PySem.W.tabIn K "cheapest_goal" = some (cL,tL)) (chL:PySem.W.codeHdIn K cL tL=true) :
    bj P w K mg base (cN P w mg) (k+1) f fd ["place","needed"] (eM (eL 2 (cO)) 2):=by
  refine lS W gW (G:=["min","GOALS"]) (by decide +kernel) (.head _) nsL tbL chL fun cdv A outer s H E hr T LX=>?_
  exact (av (aA (nz T 0 rfl b_min 1 rfl (qy hr) LX ⟨_,rfl,rfl,rfl⟩ rfl rfl rfl rfl (by decide +kernel) rfl rfl (fun _ _ _ _ _ _=>rfl) (by decide +kernel) (by decide +kernel) (by decide +kernel) (aK T.hu (aa (ae T 0 rfl)) (aa (c7 T 1 rfl g_GOALS)) (fun _ _=>rfl)))))
theorem iV:aO ["ground"] ["ground"] (ah cG):=⟨rfl,rfl,rfl,by decide +kernel,rfl,by decide +kernel,by decide +kernel⟩
theorem iT (W:gM K "most_needed" "most_needed" cG f fd) {t_GAIN:Tok} (g_GAIN:mg "GAIN" = some (.int 2 t_GAIN)) (b_max:mg "max" = none) (b_sum:mg "sum" = none) :
    bj P w K mg base (cN P w mg) (k+1) f fd ["ground"] (eM (eL 1 (dq)) 1):=by
  refine aU W iV (G:=["sum"]) (by decide +kernel) fun cdv A outer s H E hr T=>?_
  exact (av (aA (kH T 0 rfl b_sum (dH (cJ (N:=["place"]) (own:=1) (G:=["max","GAIN"]) (fr:=[]) T rfl rfl (oN:=["ground"]) (on:=(ah cG).names) (by decide +kernel) (cI (ae T 0 rfl)) (bN (by decide)) (fun cl C s' H' fp E' T=>⟨(bH T 0 rfl),cj,(eT T 0 rfl b_max (aa af) (aa (kG (aa (aK T.hu (aa (ae T 0 rfl)) (aa (c7 T 1 rfl g_GAIN)) (fun _ _=>rfl))))))⟩))))))
theorem ic:aO ["place","needed","most","asked","ahead"] ["place","needed","most"] (ah cr):=⟨rfl,rfl,rfl,by decide +kernel,rfl,by decide +kernel,by decide +kernel⟩
theorem h8 (W:gM K "credit_asked" "credit_asked" cr f fd) {t_GAIN:Tok} (g_GAIN:mg "GAIN" = some (.int 2 t_GAIN)) {t_GOALS:Tok} (g_GOALS:mg "GOALS" = some (.int 3 t_GOALS)) {t_WHO:Tok} (g_WHO:mg "WHO" = some (.int 0 t_WHO)) (b_max:mg "max" = none) (b_min:mg "min" = none) :
    bj P w K mg base (cN P w mg) (k+1) f fd ["place","needed","most"] (eM (eL 5 (c8)) 3):=by
  refine aU W ic (G:=["GOALS","WHO","min","max","GAIN"]) (by decide +kernel) fun cdv A outer s H E hr T=>?_
  exact (aj (fY (fh 3 rfl (N:=["goal","needed"]) (own:=1) (G:=[]) (fr:=[1]) T rfl rfl (oN:=["place","needed","most","asked","ahead"]) (on:=(ah cr).names) (by decide +kernel) (cI (aK T.hu (aa (ae T 0 rfl)) (aa (c7 T 0 rfl g_GOALS)) (fun _ _=>rfl))) (bN (by decide)) (fun cl C s' H' fp E' T=>⟨(bH T 0 rfl),cj,(aK T.hu (aa (ae T 1 rfl)) (aa (ae T 0 rfl)) (fun _ _=>rfl))⟩)) (show 3 < 5 by decide))
      (aj (aH T 4 rfl (fK (gc T.hu (aa (aK T.hu (aa (ae T 0 rfl)) (aa (c7 T 1 rfl g_WHO)) (fun _ _=>rfl))) (aa af)) (jb T 2 rfl b_min (aa (ae T 3 rfl))) (ja T 3 rfl b_max (aa (ae T 3 rfl)))))
      (aj (bZ (kL (aa (ae T 4 rfl)) (aa (ae T 2 rfl))) (av (aA (ae T 4 rfl))) bK)
      (av (aA (kF T 2 rfl b_min (aa (bo (aa (ae T 2 rfl)) (aa af))) (aa (eT T 3 rfl b_max (aa af) (aa (fZ (aa (ae T 4 rfl)) (aa (aK T.hu (aa (ae T 0 rfl)) (aa (c7 T 4 rfl g_GAIN)) (fun _ _=>rfl)))))))))))))
theorem gu:aO ["ground","most","needed","asked"] ["ground","most"] (ah bx):=⟨rfl,rfl,rfl,by decide +kernel,rfl,by decide +kernel,by decide +kernel⟩
theorem gr (W:gM K "needed_credits" "needed_credits" bx f fd) {f1:Addr} {d1:FuncData} {ay:lJ} (C1:mB P w K mg base k "credit_asked" ["place","needed","most"] ay f1 d1) :
    bj P w K mg base (cN P w mg) (k+1) f fd ["ground","most"] (eM (eL 4 (cB ay)) 2):=by
  refine aU W gu (G:=[]) (by decide +kernel) fun cdv A outer s H E hr T=>?_
  exact (aj (aH T 2 rfl bM)
      (aj (fY (fh 3 rfl (N:=["place"]) (own:=1) (G:=[]) (fr:=[]) T rfl rfl (oN:=["ground","most","needed","asked"]) (on:=(ah bx).names) (by decide +kernel) (cI (ae T 0 rfl)) (bN (by decide)) (fun cl C s' H' fp E' T=>⟨(bH T 0 rfl),cj,af⟩)) (show 3 < 4 by decide))
      (aj (gv (have T:=T.nox;lP 1000000 PassesOwn.never (eU T.hu (aa (ae T 3 rfl)) (aa (ae T 2 rfl))) (aj (aH T 2 rfl (ae T 3 rfl))
      (av (fY (fh 3 rfl (N:=["place","needed","most"]) (own:=1) (G:=["credit_asked"]) (fr:=[2,1]) T rfl rfl (oN:=["ground","most","needed","asked"]) (on:=(ah bx).names) (by decide +kernel) (cI (ae T 0 rfl)) (bN (by decide)) (fun cl C s' H' fp E' T=>⟨(bH T 0 rfl),cj,(bg C1 hr T 0 rfl (ai (ae T 0 rfl) (ai (ae T 1 rfl) (ai (ae T 2 rfl) aG))) rfl (ao (ao (ao aR))))⟩)) (show 3 < 4 by decide))))))
      (av (aA (ae T 2 rfl))))))
theorem gX:aO ["ground","most","needed","least","moves"] ["ground"] (ah bG):=⟨rfl,rfl,rfl,by decide +kernel,rfl,by decide +kernel,by decide +kernel⟩
theorem gU (W:gM K "least_credits" "least_credits" bG f fd) {f3:Addr} {d3:FuncData} {aB:lJ} (C3:mB P w K mg base k "cheapest_goal" ["place","needed"] aB f3 d3) {f0:Addr} {d0:FuncData} {aN:lJ} (C0:mB P w K mg base k "most_needed" ["ground"] aN f0 d0) {f2:Addr} {d2:FuncData} {aD:lJ} (C2:mB P w K mg base k "needed_credits" ["ground","most"] aD f2 d2) {t_WHO:Tok} (g_WHO:mg "WHO" = some (.int 0 t_WHO)) (b_tuple:mg "tuple" = none) :
    bj P w K mg base (cN P w mg) (k+1) f fd ["ground"] (eM (eL 5 (cQ aB aN aD)) 1):=by
  refine aU W gX (G:=["most_needed","needed_credits","tuple"]) (by decide +kernel) fun cdv A outer s H E hr T=>?_
  exact (aj (aH T 1 rfl (bg C0 hr T 0 rfl (ai (ae T 0 rfl) aG) rfl (ao aR)))
      (aj (aH T 2 rfl (bg C2 hr T 1 rfl (ai (ae T 0 rfl) (ai (ae T 1 rfl) aG)) rfl (ao (ao aR))))
      (aj (aH T 3 rfl (dJ T 2 rfl b_tuple (dH (cJ (N:=["credit","most"]) (own:=1) (G:=[]) (fr:=[1]) T rfl rfl (oN:=["ground","most","needed","least","moves"]) (on:=(ah bG).names) (by decide +kernel) (cI (ae T 2 rfl)) (bN (by decide)) (fun cl C s' H' fp E' T=>⟨(bH T 0 rfl),cj,(fK (kL (aa (ae T 0 rfl)) (aa (ae T 1 rfl))) bM (ae T 0 rfl))⟩)))))
      (aj (aH T 4 rfl (dJ T 2 rfl b_tuple (dH (cJ (N:=["place","needed"]) (own:=1) (G:=["WHO","cheapest_goal"]) (fr:=[2]) T rfl rfl (oN:=["ground","most","needed","least","moves"]) (on:=(ah bG).names) (by decide +kernel) (cI (ae T 0 rfl)) (bN (by decide)) (fun cl C s' H' fp E' T=>⟨(bH T 0 rfl),cj,(fK (gc T.hu (aa (aK T.hu (aa (ae T 0 rfl)) (aa (c7 T 0 rfl g_WHO)) (fun _ _=>rfl))) (aa af)) (bg C3 hr T 1 rfl (ai (ae T 0 rfl) (ai (ae T 1 rfl) aG)) rfl (ao (ao aR))) bM)⟩)))))
      (av (aA (kI (ai (ae T 3 rfl) (ai (ae T 4 rfl) aG)))))))))
theorem vi:aO ["_law_script","_law_ground_here","_law_found","_law_cap","_law_place_here","_law_credit","_law_move","_law_sizes","_law_best","_law_asked"] ["_law_script"] (ah e7):=⟨rfl,rfl,rfl,by decide +kernel,rfl,by decide +kernel,by decide +kernel⟩
theorem vc (W:gM K "law" "law" e7 f fd) {f10:Addr} {d10:FuncData} {aX:lJ} (C10:mB P w K mg base k "_law_ground" ["_law_script","_law_most"] aX f10 d10) {f12:Addr} {d12:FuncData} {bf:lJ} (C12:mB P w K mg base k "_law_size" ["_law_credit"] bf f12 d12) {f4:Addr} {d4:FuncData} {aC:lJ} (C4:mB P w K mg base k "least_credits" ["ground"] aC f4 d4) (b_bool:mg "bool" = none) (b_int:mg "int" = none) (b_isinstance:mg "isinstance" = none) (b_len:mg "len" = none) (b_max:mg "max" = none) (b_min:mg "min" = none) (b_sum:mg "sum" = none) (b_tuple:mg "tuple" = none) (b_zip:mg "zip" = none) :
    bj P w K mg base (cN P w mg) (k+1) f fd ["_law_script"] (eM (eL 10 (oU aX bf aC)) 1):=by
  refine aU W vi (G:=["_law_ground","least_credits","isinstance","tuple","len","sum","zip","bool","int","max","min"]) (by decide +kernel) fun cdv A outer s H E hr T=>?_
  exact (aj (aH T 1 rfl (bg C10 hr T 0 rfl (ai (ae T 0 rfl) (ai af aG)) rfl (ao (ao aR))))
      (aj (aH T 2 rfl (bg C4 hr T 1 rfl (ai (ae T 1 rfl) aG) rfl (ao aR)))
      (aj (bZ (dI (ge (fi (fj (c9 T 2 rfl b_isinstance T 3 rfl b_tuple (aa (ae T 2 rfl))))) (ge (eU T.hu (aa (da T 4 rfl b_len (aa (ae T 2 rfl)))) (aa af)) (gw (fi (fj (c9 T 2 rfl b_isinstance T 3 rfl b_tuple (aa (aK T.hu (aa (ae T 2 rfl)) (aa af) (fun _ _=>rfl)))))))))) (av (aA cc)) bK)
      (aj (bZ (eU T.hu (aa (da T 4 rfl b_len (aa (aK T.hu (aa (ae T 2 rfl)) (aa af) (fun _ _=>rfl))))) (aa (da T 4 rfl b_len (aa (ae T 1 rfl))))) (av (aA cc)) bK)
      (aj (aH T 3 rfl (kH T 5 rfl b_sum (dH (cJ (N:=["_law_place_here"]) (own:=1) (G:=["max"]) (fr:=[]) T rfl rfl (oN:=["_law_script","_law_ground_here","_law_found","_law_cap","_law_place_here","_law_credit","_law_move","_law_sizes","_law_best","_law_asked"]) (on:=(ah e7).names) (by decide +kernel) (cI (ae T 1 rfl)) (bN (by decide)) (fun cl C s' H' fp E' T=>⟨(bH T 0 rfl),cj,(eT T 0 rfl b_max (aa af) (aa (kG (aa (aK T.hu (aa (ae T 0 rfl)) (aa af) (fun _ _=>rfl))))))⟩)))))
      (aj (gv (have T:=T.nox;kD PassesOwn.never T.calm (nv T 6 rfl b_zip (ae T 1 rfl) (aK T.hu (aa (ae T 2 rfl)) (aa af) (fun _ _=>rfl)) (aK T.hu (aa (ae T 2 rfl)) (aa af) (fun _ _=>rfl))) (oY T 4 5 6 rfl rfl rfl) (aj (bZ (dI (ge (fj (iW T 2 rfl b_isinstance T 7 rfl b_bool (aa (ae T 5 rfl)))) (gw (dI (fq (dL (aa (ae T 5 rfl)) (aa bM)) (dM (fi (fj (jI T 2 rfl b_isinstance T 8 rfl b_int (aa (ae T 5 rfl))))))))))) (av (aA cc)) bK)
      (aj (bZ (dI (fq (dL (aa (ae T 5 rfl)) (aa bM)) (dM (fi (kK qi iK qi iK (aa af) (aa (ae T 5 rfl)) (aa (ae T 3 rfl))))))) (av (aA cc)) bK)
      (aj (fY (fh 7 rfl (N:=["_law_goal","_law_found"]) (own:=1) (G:=["_law_size"]) (fr:=[2]) T rfl rfl (oN:=["_law_script","_law_ground_here","_law_found","_law_cap","_law_place_here","_law_credit","_law_move","_law_sizes","_law_best","_law_asked"]) (on:=(ah e7).names) (by decide +kernel) (cI (aK T.hu (aa (ae T 4 rfl)) (aa af) (fun _ _=>rfl))) (bN (by decide)) (fun cl C s' H' fp E' T=>⟨(bH T 0 rfl),cj,(bg C12 hr T 0 rfl (ai (aK T.hu (aa (aK T.hu (aa (ae T 1 rfl)) (aa af) (fun _ _=>rfl))) (aa (ae T 0 rfl)) (fun _ _=>rfl)) aG) rfl (ao aR))⟩)) (show 7 < 10 by decide))
      (aj (aH T 8 rfl (ja T 9 rfl b_max (aa (ae T 7 rfl))))
      (aj (bZ (gc T.hu (aa (aK T.hu (aa (ae T 4 rfl)) (aa af) (fun _ _=>rfl))) (aa af)) (aj (aH T 8 rfl (jb T 10 rfl b_min (aa (ae T 7 rfl))))
      (av (bZ (eU T.hu (aa (ae T 6 rfl)) (aa (aK T.hu (aa (aK T.hu (aa (ae T 4 rfl)) (aa af) (fun _ _=>rfl))) (aa (lQ (aa (ae T 7 rfl)) (ae T 8 rfl))) (fun _ _=>rfl)))) (av (aA cc)) bK))) (av (bZ (dL (aa (ae T 6 rfl)) (aa bM)) (av (aA cc)) bK)))
      (aj (aH T 9 rfl (eT T 9 rfl b_max (aa af) (aa (fZ (aa (ae T 8 rfl)) (aa (aK T.hu (aa (ae T 4 rfl)) (aa af) (fun _ _=>rfl)))))))
      (av (bZ (dI (ge (dI (fq (jc (aa (ae T 5 rfl)) (aa bM)) (dM (o6 (aa (ae T 9 rfl)) (aa (ae T 3 rfl)))))) (gw (dI (fq (dL (aa (ae T 5 rfl)) (aa bM)) (dM (eU T.hu (aa (ae T 5 rfl)) (aa (ae T 9 rfl))))))))) (av (aA cc)) bK))))))))))
      (av (aA (kE (c9 T 2 rfl b_isinstance T 3 rfl b_tuple (aa (aK T.hu (aa (ae T 2 rfl)) (aa af) (fun _ _=>rfl)))) (kE (jH T.hu (aa (da T 4 rfl b_len (aa (aK T.hu (aa (ae T 2 rfl)) (aa af) (fun _ _=>rfl))))) (aa (da T 4 rfl b_len (aa (ae T 1 rfl))))) (o4 (jH T.hu (aa (bg C4 hr T 1 rfl (ai (ae T 1 rfl) aG) rfl (ao aR))) (aa (ae T 2 rfl))))))))))))))
end
theorem tJ {l:PySem.W.OpenLaw} {w:World} {K:PySem.W.Frag} {h:Heap} {mg:Str->Option Value} {fa:Addr} (X:K.In h) (G:h.Ns mainGlobals mg) (hfa:mg "law" = some (.ref fa))
    {f12:Addr} {od12 an12:Option Addr} {sl12:Array (Option Value)} {oc12 kV12 dc12 pm12 cd12 ct12:Value}
    {f0:Addr} {d0:FuncData} (q0:dB K "_law_cell_at" du f0 d0)
    {f1:Addr} {d1:FuncData} (q1:dB K "_law_mixed" ff f1 d1)
    {f2:Addr} {d2:FuncData} (q2:dB K "_law_drawn" e8 f2 d2)
    {f3:Addr} {d3:FuncData} (q3:dB K "_law_goals" e9 f3 d3)
    {f4:Addr} {d4:FuncData} (q4:dB K "_law_place" fg f4 d4)
    {f5:Addr} {d5:FuncData} (q5:dB K "_law_ground" c6 f5 d5)
    {f6:Addr} {d6:FuncData} (q6:dB K "_law_size" fV f6 d6)
    {f7:Addr} {d7:FuncData} (q7:dB K "cheapest_goal" cT f7 d7)
    {cL tL:Addr} (qtb:PySem.W.tabIn K "cheapest_goal" = some (cL,tL)) (qch:PySem.W.codeHdIn K cL tL=true)
    {f8:Addr} {d8:FuncData} (q8:dB K "most_needed" cG f8 d8)
    {f9:Addr} {d9:FuncData} (q9:dB K "credit_asked" cr f9 d9)
    {f10:Addr} {d10:FuncData} (q10:dB K "needed_credits" bx f10 d10)
    {f11:Addr} {d11:FuncData} (q11:dB K "least_credits" bG f11 d11)
    (a12:PySem.W.nsIn K mainGlobals "law" = some (some (.ref f12))) (l12:K.lookup f12=some ⟨oc12,od12,.func (PySem.W.fnOf "law" "law" (ca e7) (bi e7) (ah e7) .none kV12 dc12 pm12 an12 cd12 ct12),sl12⟩) (c12:PySem.W.codeIn K cd12 "law" = true) (k12:PySem.W.keepIn K (.ref f12)=true)
    {t0:Tok} (qg0:PySem.W.nsIn K mainGlobals "GAIN" = some (some (.int 2 t0)))
    {t1:Tok} (qg1:PySem.W.nsIn K mainGlobals "GOALS" = some (some (.int 3 t1)))
    {t2:Tok} (qg2:PySem.W.nsIn K mainGlobals "WHO" = some (some (.int 0 t2)))
    (qz0:PySem.W.nsIn K mainGlobals "bool" = some none)
    (qz1:PySem.W.nsIn K mainGlobals "int" = some none)
    (qz2:PySem.W.nsIn K mainGlobals "isinstance" = some none)
    (qz3:PySem.W.nsIn K mainGlobals "len" = some none)
    (qz4:PySem.W.nsIn K mainGlobals "max" = some none)
    (qz5:PySem.W.nsIn K mainGlobals "min" = some none)
    (qz6:PySem.W.nsIn K mainGlobals "range" = some none)
    (qz7:PySem.W.nsIn K mainGlobals "sorted" = some none)
    (qz8:PySem.W.nsIn K mainGlobals "sum" = some none)
    (qz9:PySem.W.nsIn K mainGlobals "tuple" = some none)
    (qz10:PySem.W.nsIn K mainGlobals "zip" = some none)
    (nl:hZ K=true) :
    hZ K=true/\∃ fd:FuncData,(∀ (s:Shared) (v:Value),BindsTo s fd ⟨[v],[]⟩ [("_law_script",v)])/\∀ base:Heap,K.In base->base.Ns mainGlobals mg->bj l.prog w K mg base (cN l.prog w mg) 5 fa fd ["_law_script"] (eM ku 1):=by
  have e:=hfa.symm.trans (PySem.W.mg_of X G a12);cases e;have b0:bQ K d0 ["_law_script","_law_k"] []:=tM q0.fn fun _ _ _ _ _ _ _ _=>rfl
  have m0:=PySem.W.mg_of X G q0.ns;have b1:bQ K d1 ["_law_script","_law_k"] []:=tM q1.fn fun _ _ _ _ _ _ _ _=>rfl
  have m1:=PySem.W.mg_of X G q1.ns;have b2:bQ K d2 ["_law_number","_law_k"] []:=tM q2.fn fun _ _ _ _ _ _ _ _=>rfl
  have m2:=PySem.W.mg_of X G q2.ns;have b3:bQ K d3 ["_law_number","_law_count"] []:=tM q3.fn fun _ _ _ _ _ _ _ _=>rfl
  have m3:=PySem.W.mg_of X G q3.ns;have b4:bQ K d4 ["_law_number","_law_count","_law_high"] []:=yL q4.fn fun _ _ _ _ _ _ _ _ _=>rfl
  have m4:=PySem.W.mg_of X G q4.ns;have b5:bQ K d5 ["_law_script","_law_most"] []:=tM q5.fn fun _ _ _ _ _ _ _ _=>rfl
  have m5:=PySem.W.mg_of X G q5.ns;have b6:bQ K d6 ["_law_credit"] []:=xK q6.fn fun _ _ _ _ _ _ _=>rfl
  have m6:=PySem.W.mg_of X G q6.ns;have b7:bQ K d7 ["place","needed"] []:=tM q7.fn fun _ _ _ _ _ _ _ _=>rfl
  have m7:=PySem.W.mg_of X G q7.ns;have b8:bQ K d8 ["ground"] []:=xK q8.fn fun _ _ _ _ _ _ _=>rfl
  have m8:=PySem.W.mg_of X G q8.ns;have b9:bQ K d9 ["place","needed","most"] []:=yL q9.fn fun _ _ _ _ _ _ _ _ _=>rfl
  have m9:=PySem.W.mg_of X G q9.ns;have b10:bQ K d10 ["ground","most"] []:=tM q10.fn fun _ _ _ _ _ _ _ _=>rfl
  have m10:=PySem.W.mg_of X G q10.ns;have b11:bQ K d11 ["ground"] []:=xK q11.fn fun _ _ _ _ _ _ _=>rfl
  have m11:=PySem.W.mg_of X G q11.ns;have F12:=pL (st:=e7) l12 c12 k12;have h0:=PySem.W.mg_of X G qg0;have h1:=PySem.W.mg_of X G qg1;have h2:=PySem.W.mg_of X G qg2;have y0:=PySem.W.mg_none_of X G qz0;have y1:=PySem.W.mg_none_of X G qz1;have y2:=PySem.W.mg_none_of X G qz2;have y3:=PySem.W.mg_none_of X G qz3;have y4:=PySem.W.mg_none_of X G qz4;have y5:=PySem.W.mg_none_of X G qz5;have y6:=PySem.W.mg_none_of X G qz6;have y7:=PySem.W.mg_none_of X G qz7;have y8:=PySem.W.mg_none_of X G qz8;have y9:=PySem.W.mg_none_of X G qz9;have y10:=PySem.W.mg_none_of X G qz10;refine ⟨nl,PySem.W.fnOf "law" "law" (ca e7) (bi e7) (ah e7) .none kV12 dc12 pm12 an12 cd12 ct12,fun s v=>.of_eq rfl,fun base _ _=>?_⟩;have Q0:bj l.prog w K mg base (cN l.prog w mg) 1 f0 _ ["_law_script","_law_k"] (eM aM 2):=iS (k:=0) (W:=q0.fn) (b_len:=y3);have Q1:bj l.prog w K mg base (cN l.prog w mg) 2 f1 _ ["_law_script","_law_k"] (eM aP 2):=kl (k:=1) (W:=q1.fn) (C5:=⟨Q0.mono (by decide),m0,q0.fn.kp,b0⟩);have Q2:bj l.prog w K mg base (cN l.prog w mg) 1 f2 _ ["_law_number","_law_k"] (eM az 2):=ki (k:=0) (W:=q2.fn);have Q3:bj l.prog w K mg base (cN l.prog w mg) 2 f3 _ ["_law_number","_law_count"] (eM bn 2):=kj (k:=1) (W:=q3.fn) (C7:=⟨Q2.mono (by decide),m2,q2.fn.kp,b2⟩) (b_int:=y1) (b_range:=y6) (b_sorted:=y7) (b_tuple:=y9);have Q4:bj l.prog w K mg base (cN l.prog w mg) 3 f4 _ ["_law_number","_law_count","_law_high"] (eM aZ 3):=km (k:=2) (W:=q4.fn) (C7:=⟨Q2.mono (by decide),m2,q2.fn.kp,b2⟩) (C8:=⟨Q3.mono (by decide),m3,q3.fn.kp,b3⟩);have Q5:bj l.prog w K mg base (cN l.prog w mg) 4 f5 _ ["_law_script","_law_most"] (eM aX 2):=jD (k:=3) (W:=q5.fn) (C6:=⟨Q1.mono (by decide),m1,q1.fn.kp,b1⟩) (C9:=⟨Q4.mono (by decide),m4,q4.fn.kp,b4⟩) (b_len:=y3) (b_max:=y4) (b_min:=y5) (b_range:=y6) (b_tuple:=y9);have Q6:bj l.prog w K mg base (cN l.prog w mg) 1 f6 _ ["_law_credit"] (eM bf 1):=lI (k:=0) (W:=q6.fn);have Q7:bj l.prog w K mg base (cN l.prog w mg) 1 f7 _ ["place","needed"] (eM aB 2):=gT (k:=0) (W:=q7.fn) (nsL:=q7.ns) (tbL:=qtb) (chL:=qch) (g_GOALS:=h1) (b_min:=y5);have Q8:bj l.prog w K mg base (cN l.prog w mg) 1 f8 _ ["ground"] (eM aN 1):=iT (k:=0) (W:=q8.fn) (g_GAIN:=h0) (b_max:=y4) (b_sum:=y8);have Q9:bj l.prog w K mg base (cN l.prog w mg) 1 f9 _ ["place","needed","most"] (eM ay 3):=h8 (k:=0) (W:=q9.fn) (g_GAIN:=h0) (g_GOALS:=h1) (g_WHO:=h2) (b_max:=y4) (b_min:=y5);have Q10:bj l.prog w K mg base (cN l.prog w mg) 2 f10 _ ["ground","most"] (eM aD 2):=gr (k:=1) (W:=q10.fn) (C1:=⟨Q9.mono (by decide),m9,q9.fn.kp,b9⟩);have Q11:bj l.prog w K mg base (cN l.prog w mg) 3 f11 _ ["ground"] (eM aC 1):=gU (k:=2) (W:=q11.fn) (C3:=⟨Q7.mono (by decide),m7,q7.fn.kp,b7⟩) (C0:=⟨Q8.mono (by decide),m8,q8.fn.kp,b8⟩) (C2:=⟨Q10.mono (by decide),m10,q10.fn.kp,b10⟩) (g_WHO:=h2) (b_tuple:=y9);have Q12:bj l.prog w K mg base (cN l.prog w mg) 5 fa _ ["_law_script"] (eM ku 1):=vc (k:=4) (W:=F12) (C10:=⟨Q5.mono (by decide),m5,q5.fn.kp,b5⟩) (C12:=⟨Q6.mono (by decide),m6,q6.fn.kp,b6⟩) (C4:=⟨Q11.mono (by decide),m11,q11.fn.kp,b11⟩) (b_bool:=y0) (b_int:=y1) (b_isinstance:=y2) (b_len:=y3) (b_max:=y4) (b_min:=y5) (b_sum:=y8) (b_tuple:=y9) (b_zip:=y10);exact Q12
end G
open PySem PySem.W PyProof.Rows
set_option maxRecDepth 100000 in
set_option maxHeartbeats 0 in
theorem PySem.Challenge.cw_duelground_k60_credits_holds : PySem.Challenge.rw_duelground_k60_credits.Holds := by
  w_on;o_law;k_head;(case hw=>w_witness2)
  k_fill
  refine' D2.yF (l:=PySem.Challenge.rw_duelground_k60_credits) (k:=5) (x := "_law_script") (F:=G.ku) rfl rfl ⟨rfl,by decide,by decide⟩ (fun w h Y=>PySem.W.km_in_of Y) G.p8 ?hq ?ht ?nt ?F
  (case hq=>exact rfl)
  (case ht=>intro w;refine' D2.lA ?xxa ?xxb ?xxc ?xxd ?xxe;(case xxa=>k_is);(case xxb=>k_is);(case xxc=>exact rfl);(case xxd=>k_is);(case xxe=>exact rfl))
  (case nt=>intro w;first | rfl | k_is | decide)
  case F =>
    intro w mg fa h KX GG hmg;refine' G.tJ KX GG hmg ?q0 ?q1 ?q2 ?q3 ?q4 ?q5 ?q6 ?q7 ?qtb ?qch ?q8 ?q9 ?q10 ?q11 ?a12 ?l12 ?c12 ?k12 ?qg0 ?qg1 ?qg2 ?qz0 ?qz1 ?qz2 ?qz3 ?qz4 ?qz5 ?qz6 ?qz7 ?qz8 ?qz9 ?qz10 ?nl
    (case q0=>refine' D2.bE ?a ?l ?c ?k;(case a=>k_is);(case l=>k_is);(case c=>k_is);(case k=>k_is))
    (case q1=>refine' D2.bE ?a ?l ?c ?k;(case a=>k_is);(case l=>k_is);(case c=>k_is);(case k=>k_is))
    (case q2=>refine' D2.bE ?a ?l ?c ?k;(case a=>k_is);(case l=>k_is);(case c=>k_is);(case k=>k_is))
    (case q3=>refine' D2.bE ?a ?l ?c ?k;(case a=>k_is);(case l=>k_is);(case c=>k_is);(case k=>k_is))
    (case q4=>refine' D2.bE ?a ?l ?c ?k;(case a=>k_is);(case l=>k_is);(case c=>k_is);(case k=>k_is))
    (case q5=>refine' D2.bE ?a ?l ?c ?k;(case a=>k_is);(case l=>k_is);(case c=>k_is);(case k=>k_is))
    (case q6=>refine' D2.bE ?a ?l ?c ?k;(case a=>k_is);(case l=>k_is);(case c=>k_is);(case k=>k_is))
    (case q7=>refine' D2.bE ?a ?l ?c ?k;(case a=>k_is);(case l=>k_is);(case c=>k_is);(case k=>k_is))
    (case qtb=>refine' D2.lA ?yya ?yyb ?yyc ?yyd ?yye;(case yya=>k_is);(case yyb=>k_is);(case yyc=>exact rfl);(case yyd=>k_is);(case yye=>exact rfl))
    (case qch=>refine' D2.nM ?zza ?zzb;(case zza=>k_is);(case zzb=>exact rfl))
    (case q8=>refine' D2.bE ?a ?l ?c ?k;(case a=>k_is);(case l=>k_is);(case c=>k_is);(case k=>k_is))
    (case q9=>refine' D2.bE ?a ?l ?c ?k;(case a=>k_is);(case l=>k_is);(case c=>k_is);(case k=>k_is))
    (case q10=>refine' D2.bE ?a ?l ?c ?k;(case a=>k_is);(case l=>k_is);(case c=>k_is);(case k=>k_is))
    (case q11=>refine' D2.bE ?a ?l ?c ?k;(case a=>k_is);(case l=>k_is);(case c=>k_is);(case k=>k_is))
    (case a12=>k_is)
    (case l12=>k_is)
    (case c12=>k_is)
    (case k12=>k_is)
    (case qg0=>k_is)
    (case qg1=>k_is)
    (case qg2=>k_is)
    (case qz0=>k_is)
    (case qz1=>k_is)
    (case qz2=>k_is)
    (case qz3=>k_is)
    (case qz4=>k_is)
    (case qz5=>k_is)
    (case qz6=>k_is)
    (case qz7=>k_is)
    (case qz8=>k_is)
    (case qz9=>k_is)
    (case qz10=>k_is)
    (case nl=>first | rfl | k_is | decide)

import PyProof.Rows.All
import Wide.All
import OpenK.AllK
import Wide.FinOn
import Lean
import PyProof.EqAt
import PyProof.EqKinds
import PyProof.TupleCall
import PySem.Challenge.RW_duelground_k84_whole_watched_again
set_option Elab.async false
set_option linter.all false
set_option maxRecDepth 100000
set_option bootstrap.genMatcherCode false
set_option genSizeOf false
set_option genSizeOfSpec false
local macro_rules | `(tactic| omega) => `(tactic| first | lia | omega +splitDisjunctions)
namespace L2
open PySem PySem.Spec PyProof.Rows
noncomputable abbrev dq:=Sum Int Str
noncomputable def nW:dq->Value->Bool
  | .inl k,v=>Value.isInt k v
  | .inr x,v=>Value.isStrOf x v
noncomputable def F2 (w:World):dq->Int
  | .inl k=>hashInt k
  | .inr x=>hashStr w x
theorem cN:∀ {k:dq} {v:Value},nW k v=true->(∃ i t,k=Sum.inl i/\v=Value.int i t)\/(∃ x t,k=Sum.inr x/\v=Value.str x t)
  | .inl i,v,h=>by
    obtain ⟨t,e⟩:=Value.isInt_shape (k:=i) (v:=v) h;exact .inl ⟨i,t,rfl,e⟩
  | .inr x,v,h=>by
    obtain ⟨t,e⟩:=Value.isStrOf_shape (x:=x) (v:=v) h;exact .inr ⟨x,t,rfl,e⟩
theorem w6 (i:Int) (t:Tok):nW (.inl i) (.int i t)=true:=by simp [nW,Value.isInt]
theorem w8 (x:Str) (t:Tok):nW (.inr x) (.str x t)=true:=by simp [nW,Value.isStrOf]
theorem Co (a b:Int):decide ((Sum.inl a:dq)=Sum.inl b)=(a==b):=by
  by_cases e:a=b
  · subst e;simp
  · have h:¬ (Sum.inl a:dq)=Sum.inl b:=fun q=>e (Sum.inl.inj q)
    rw [decide_eq_false h];exact (beq_eq_false_iff_ne.mpr e).symm
theorem Cr (a b:Str):decide ((Sum.inr a:dq)=Sum.inr b)=decide (a=b):=by
  by_cases e:a=b
  · subst e;simp
  · have h:¬ (Sum.inr a:dq)=Sum.inr b:=fun q=>e (Sum.inr.inj q)
    rw [decide_eq_false h,decide_eq_false e]
theorem Cp (a:Int) (b:Str):decide ((Sum.inl a:dq)=Sum.inr b)=false:=decide_eq_false (fun q=>nomatch q)
theorem Cq (a:Str) (b:Int):decide ((Sum.inr a:dq)=Sum.inl b)=false:=decide_eq_false (fun q=>nomatch q)
noncomputable def dC (prog:Program) (w:World):PySem.KeyKind prog w dq where
  is:=nW
  hash:=F2 w
  inj:=fun v a b ha hb=>by
    rcases cN ha with ⟨i,t,rfl,rfl⟩ | ⟨x,t,rfl,rfl⟩
    · rcases cN hb with ⟨j,u,rfl,e⟩ | ⟨y,u,rfl,e⟩
      · injection e with e1 _;rw [e1]
      · exact nomatch e
    · rcases cN hb with ⟨j,u,rfl,e⟩ | ⟨y,u,rfl,e⟩
      · exact nomatch e
      · injection e with e1 _;rw [e1]
  byValue:=fun k v h=>by
    rcases cN h with ⟨i,t,rfl,rfl⟩ | ⟨x,t,rfl,rfl⟩ <;> rfl
  pyHash:=fun hv h=>by
    rcases cN hv with ⟨i,t,rfl,rfl⟩ | ⟨x,t,rfl,rfl⟩
    · exact wpAny_pyHash_int h
    · exact wpAny_pyHash_str h
  eqBool:=fun hu hv h=>by
    rcases cN hu with ⟨i,t,rfl,rfl⟩ | ⟨x,t,rfl,rfl⟩
    · rcases cN hv with ⟨j,u,rfl,rfl⟩ | ⟨y,u,rfl,rfl⟩
      · rw [Co] at h;exact wpAny_eqBool_int h
      · rw [Cp] at h;exact SeqAt.EqAt.int_str i t y u _ _ _ _ h
    · rcases cN hv with ⟨j,u,rfl,rfl⟩ | ⟨y,u,rfl,rfl⟩
      · rw [Cq] at h;exact SeqAt.EqAt.str_int x t j u _ _ _ _ h
      · rw [Cr] at h;exact wpAny_eqBool_str h
  «strs»:=fun k x t v h=>by
    rcases cN h with ⟨i,u,rfl,e⟩ | ⟨y,u,rfl,e⟩
    · exact nomatch e
    · injection e with e1 _
      subst e1;cases v <;> rfl
theorem sK (prog:Program) (w:World) (i:Int) (t:Tok):(dC prog w).is (.inl i) (.int i t)=true:=w6 i t
theorem sL (prog:Program) (w:World) (x:Str) (t:Tok):(dC prog w).is (.inr x) (.str x t)=true:=w8 x t
inductive V where
  | non | bl (b:Bool) | int (i:Int) | str (x:Str) | byt (b:Array UInt8) | flt (b:UInt64) | ref (a:Addr) | ty (n:String)
  deriving DecidableEq
noncomputable def bM:V->Value->Prop
  | .non,u=>u=Value.none
  | .bl b,u=>u=Value.bool b
  | .int i,u=>∃ t,u=Value.int i t
  | .str x,u=>∃ t,u=Value.str x t
  | .byt b,u=>∃ t,u=Value.bytes b t
  | .flt b,u=>∃ t,u=Value.float b t
  | .ref a,u=>u=Value.ref a
  | .ty n,u=>u=Value.type n
noncomputable abbrev bA:List V->List Value->Prop:=Paired bM
theorem bA.length {xs:List V} {us:List Value} (r:bA xs us):xs.length=us.length:=Paired.length r
theorem bA.get:∀ {xs:List V} {us:List Value} {i:Nat} {x:V},bA xs us->xs[i]?=some x->∃ u,us[i]?=some u/\bM x u
  | _,_,_,_,.nil,e=>by simp at e
  | _,_,0,_,.cons r _,e=>by simp at e;subst e;exact ⟨_,rfl,r⟩
  | _,_,i+1,x,.cons _ t,e=>by
    obtain ⟨u,h1,h2⟩:=bA.get (i:=i) (x:=x) t (by simpa using e);exact ⟨u,by simpa using h1,h2⟩
theorem bA.set {x:V} {u:Value} (r:bM x u):∀ {xs:List V} {us:List Value} (i:Nat),bA xs us->bA (xs.set i x) (us.set i u)
  | _,_,_,.nil=>.nil
  | _,_,0,.cons _ t=>.cons r t
  | _,_,i+1,.cons q t=>.cons q (bA.set r i t)
theorem bA.append:∀ {xs ys:List V} {us ws:List Value},bA xs us->bA ys ws->bA (xs++ys) (us++ws)
  | _,_,_,_,.nil,s=>s
  | _,_,_,_,.cons r t,s=>.cons r (bA.append t s)
theorem bA.take:∀ {xs:List V} {us:List Value} (n:Nat),bA xs us->bA (xs.take n) (us.take n)
  | _,_,0,_=>.nil
  | _,_,_+1,.nil=>.nil
  | _,_,n+1,.cons r t=>.cons r (bA.take n t)
theorem bA.drop:∀ {xs:List V} {us:List Value} (n:Nat),bA xs us->bA (xs.drop n) (us.drop n)
  | _,_,0,r=>r
  | _,_,_+1,.nil=>.nil
  | _,_,n+1,.cons _ t=>bA.drop n t
noncomputable def ki:Option V->Option Value->Prop
  | some v,some u=>bM v u
  | none,none=>True
  | _,_=>False
noncomputable def KV {κ:Type}:List (κ×V)->List (κ×Value)->Prop:=Paired fun (p:κ×V) (q:κ×Value)=>p.1=q.1/\bM p.2 q.2
noncomputable def kV:dq->V
  | .inl i=>.int i
  | .inr x=>.str x
inductive HO where
  /-- a list -/
  | lst (xs:List V)
  /-- a tuple (never changes) -/
  | tup (xs:List V)
  /-- a dict whose keys are ints and texts;one whose keys are tuples of ints and texts (the empty one is both) -/
  | dK (kvs:List (dq×V)) | dT (kvs:List (List dq×V))
  /-- a set of ints: its members,its size -/
  | set (S:Int->Bool) (n:Nat)
  /-- an instance of the class at C,its dict at dx,its attributes -/
  | ins (C dx:Addr) (fs:List (Str×V))
  /-- the dict of the instance at x -/
  | own (x:Addr)
  /-- the dict of an exception -/
  | xd (fs:List (Str×V))
  /-- a bound method,f of x -/
  | met (f x:Addr)
  /-- a range object lo,lo+1,.. below hi -/
  | rng (lo hi:Int)
  /-- a thing that is known to the object (the script;a dict while a loop walks it): read,never written while it is so -/
  | frz (o:Obj) (u:HO)
  /-- a code object's table -/
  | tbl (ps:Array Value)
  /-- any other thing,by what is true of its one object (a def of one's own: SetO a S n:=HO.ext fun h=>..) -/
  | ext (φ:Heap->Prop)
noncomputable abbrev Hp:=Addr->Option HO
noncomputable def cP (H:Hp) (a:Addr) (o:HO):Hp:=fun b=>if b=a then some o else H b
theorem bd {H:Hp} {a:Addr} {o:HO}:cP H a o a=some o:=by unfold cP;rw [if_pos rfl]
theorem av {H:Hp} {a b:Addr} {o:HO} (h:b≠a):cP H a o b=H b:=by unfold cP;rw [if_neg h]
theorem Ei {H:Hp} {a b:Addr} {o u:HO} (h:H a=some o) (h':H b=some u) (d:o≠u):a≠b:=by
  intro e;subst e;rw [h] at h';exact d (Option.some.inj h')
theorem aW {H:Hp} {a b:Addr} {o:HO} (h:H a=some o) (h':H b=none):a≠b:=by
  intro e;subst e;rw [h] at h';cases h'
noncomputable def gn (h:Heap) (a:Addr) (items:Array Value):Prop:=∃ o,h.get? a=some o/\o.cls=.type "tuple" /\ (∃ n,o.data=.seq items n)/\o.dict=none
theorem gn.is {h:Heap} {a:Addr} {items:Array Value} (x:gn h a items):IsTup h a items:=by
  obtain ⟨o,e,c,n,_⟩:=x;exact ⟨o,e,c,n⟩
theorem gn.lt {h:Heap} {a:Addr} {items:Array Value} (x:gn h a items):a < h.objs.size:=by
  obtain ⟨o,e,_⟩:=x;exact Heap.lt_size e
theorem gn.new (h:Heap) (items:Array Value):gn (h.push { cls:=.type "tuple",data:=.seq items }) h.objs.size items:=⟨_,Heap.get?_push_size _ rfl,rfl,⟨_,rfl⟩,rfl⟩
section
variable (P:Program) (w:World)
noncomputable def bV (H:Hp) (h:Heap) (a:Addr):HO->Prop
  | .lst xs=>xs.length<=sizeLine/\∃ (its:List Value) (n:Nat),bA xs its/\h.get? a=some { cls:=.type "list",data:=.seq its.toArray n }
  | .tup xs=>xs.length<=sizeLine/\∃ its:List Value,bA xs its/\gn h a its.toArray
  | .dK kvs=>kvs.length<=sizeLine/\(a==sysModules)=false/\∃ vs,KV kvs vs/\h.DictOf (dC P w) a vs
  | .dT kvs=>kvs.length<=sizeLine/\(a==sysModules)=false/\∃ xs:List (List dq×Addr×Value),
      Paired (fun (p:List dq×V) (q:List dq×Addr×Value)=>p.1=q.1/\H q.2.1=some (.tup (p.1.map kV))/\bM p.2 q.2.2) kvs xs /\
      ∃ o es ep,h.get? a=some o/\o.ExactDict/\o.data=.dict es ep/\es.toList=xs.map (entryOfKey (tupleKind (dC P w)))/\(xs.map (·.1)).Nodup
  | .set S n=>h.SetOf (intKind P w) a S n
  | .ins C dx fs=>H dx=some (.own a)/\fs.length<=1000/\dx≠a/\h.get? a=some (PySem.W.instObj C dx) /\
      ∃ mA,h.Ns1 dx mA/\(∀ f,ki (fs.lookup f) (mA f))/\PySem.Within mA (fs.map (·.1))
  | .own _=>∃ o,h.get? a=some o
  | .xd fs=>∃ mA,h.Ns1 a mA/\∀ f,ki (fs.lookup f) (mA f)
  | .rng lo hi=>∃ t u v,h.get? a=some { cls:=.type "range",data:=.fields #[.int lo t,.int hi u,.int 1 v] }
  | .frz o u=>h.get? a=some o/\bV H h a u
  | .tbl ps=>h.get? a=some { cls:=.none,data:=.fields ps }
  | .met f x=>h.get? a=some (PySem.W.methodObj (.ref f) (.ref x))
  | .ext φ=>φ h/\(∃ o,h.get? a=some o)/\∀ h1 h2:Heap,φ h1->(∀ o,h1.get? a=some o->h2.get? a=some o)->φ h2
noncomputable def gX (H:Hp) (h:Heap):Prop:=∀ a o,H a=some o->bV P w H h a o
end
section
variable {P:Program} {w:World} {H H':Hp} {h h':Heap} {a:Addr} {o:HO}
theorem bV.lt (x:bV P w H h a o):a < h.objs.size:=by
  cases o with
  | lst xs=>obtain ⟨_,_,_,_,e⟩:=x;exact Heap.lt_size e
  | tup xs=>obtain ⟨_,_,_,p⟩:=x;exact p.lt
  | dK kvs=>obtain ⟨_,_,_,_,o,_,_,e,_⟩:=x;exact Heap.lt_size e
  | dT kvs=>obtain ⟨_,_,_,_,o,_,_,e,_⟩:=x;exact Heap.lt_size e
  | set S n=>obtain ⟨o,_,_,_,e,_⟩:=x;exact Heap.lt_size e
  | ins C dx fs=>obtain ⟨_,_,_,e,_⟩:=x;exact Heap.lt_size e
  | own y=>obtain ⟨_,e⟩:=x;exact Heap.lt_size e
  | xd fs=>obtain ⟨_,⟨_,_,_,e,_⟩,_⟩:=x;exact Heap.lt_size e
  | rng lo hi=>obtain ⟨_,_,_,e⟩:=x;exact Heap.lt_size e
  | frz ob u=>obtain ⟨e,_⟩:=x;exact Heap.lt_size e
  | tbl ps=>exact Heap.lt_size (show h.get? a=some _ from x)
  | met f y=>exact Heap.lt_size (show h.get? a=some _ from x)
  | ext φ=>obtain ⟨_,⟨_,e⟩,_⟩:=x;exact Heap.lt_size e
theorem Paired.mapP {α β:Type} {F G:α->β->Prop}:∀ {l₁:List α} {l₂:List β},Paired F l₁ l₂->(∀ a b,F a b->G a b)->Paired G l₁ l₂
  | _,_,.nil,_=>.nil
  | _,_,.cons r t,f=>.cons (f _ _ r) (Paired.mapP t f)
theorem bV.stay (x:bV P w H h a o) (k:∀ b u,(b=a\/H b=some (.own a))->h.get? b=some u->h'.get? b=some u)
    (ho:∀ b,H b=some (.own a)->H' b=some (.own a)) (ht:∀ b xs,H b=some (.tup xs)->H' b=some (.tup xs)):bV P w H' h' a o:=by
  induction o with
  | lst xs=>obtain ⟨z,its,n,r,e⟩:=x;exact ⟨z,its,n,r,k _ _ (.inl rfl) e⟩
  | tup xs=>obtain ⟨z,its,r,ob,e,c⟩:=x;exact ⟨z,its,r,ob,k _ _ (.inl rfl) e,c⟩
  | dK kvs=>obtain ⟨z,y,vs,r,ob,es,ep,e,c⟩:=x;exact ⟨z,y,vs,r,ob,es,ep,k _ _ (.inl rfl) e,c⟩
  | dT kvs =>
    obtain ⟨z,y,xs,r,ob,es,ep,e,c⟩:=x;exact ⟨z,y,xs,Paired.mapP r fun p q z=>⟨z.1,ht _ _ z.2.1,z.2.2⟩,ob,es,ep,k _ _ (.inl rfl) e,c⟩
  | set S n=>obtain ⟨ob,es,ep,t,e,c⟩:=x;exact ⟨ob,es,ep,t,k _ _ (.inl rfl) e,c⟩
  | ins C dx fs =>
    obtain ⟨d,z,ne,e,mA,⟨od,es,ep,e2,c⟩,r⟩:=x;exact ⟨ho _ d,z,ne,k _ _ (.inl rfl) e,mA,⟨od,es,ep,k _ _ (.inr d) e2,c⟩,r⟩
  | own y=>obtain ⟨ob,e⟩:=x;exact ⟨ob,k _ _ (.inl rfl) e⟩
  | xd fs=>obtain ⟨mA,⟨od,es,ep,e,c⟩,r⟩:=x;exact ⟨mA,⟨od,es,ep,k _ _ (.inl rfl) e,c⟩,r⟩
  | rng lo hi=>obtain ⟨t,u,v,e⟩:=x;exact ⟨t,u,v,k _ _ (.inl rfl) e⟩
  | frz ob u ih=>obtain ⟨e,q⟩:=x;exact ⟨k _ _ (.inl rfl) e,ih q⟩
  | tbl ps =>
    have e:h.get? a=some { cls:=.none,data:=.fields ps }:=x;show h'.get? a=some { cls:=.none,data:=.fields ps };exact k a _ (.inl rfl) e
  | met f y =>
    have e:h.get? a=some (PySem.W.methodObj (.ref f) (.ref y)):=x;show h'.get? a=some (PySem.W.methodObj (.ref f) (.ref y));exact k a _ (.inl rfl) e
  | ext φ=>obtain ⟨p,⟨o,e⟩,st⟩:=x;exact ⟨st _ _ p fun o q=>k _ _ (.inl rfl) q,⟨o,k _ _ (.inl rfl) e⟩,st⟩
theorem gX.lt (x:gX P w H h) (e:H a=some o):a < h.objs.size:=(x a o e).lt
theorem gX.fresh (x:gX P w H h) (e:h.objs.size<=a):H a=none:=by
  cases q:H a with
  | none=>rfl
  | some u=>exact absurd (Nat.lt_of_lt_of_le (x.lt q) e) (Nat.lt_irrefl _)
theorem gX.kept (x:gX P w H h) (k:∀ b u,h.get? b=some u->h'.get? b=some u):gX P w H h':=fun a o e =>
  (x a o e).stay (fun b u _ q=>k b u q) (fun _ q=>q) fun _ _ q=>q
theorem gX.laid (x:gX P w H h) (k:∀ b u,h.get? b=some u->h'.get? b=some u) (hp:h.objs.size<=a) (new:bV P w (cP H a o) h' a o):gX P w (cP H a o) h':=fun b u e=>by
  have hn:=x.fresh hp;by_cases hb:b=a
  · subst hb;rw [bd] at e;cases e;exact new
  · rw [av hb] at e;exact (x b u e).stay (fun c v _ q=>k c v q) (fun c q=>by rw [av (aW q hn)];exact q) fun c xs q=>by rw [av (aW q hn)];exact q
end
noncomputable def Rd (H:Hp) (a:Addr) (u:HO):Prop:=H a=some u\/∃ o,H a=some (.frz o u)
theorem Rd.ok {P:Program} {w:World} {H:Hp} {h:Heap} {a:Addr} {u:HO} (r:Rd H a u) (x:gX P w H h):bV P w H h a u:=by
  rcases r with r | ⟨o,r⟩
  · exact x a u r
  · obtain ⟨_,q⟩:=x a _ r;exact q
noncomputable def DG:Option HO->Prop
  | some (.lst _)=>True
  | some (.dK _)=>True
  | some (.dT _)=>True
  | some (.set _ _)=>True
  | some (.ins _ _ _)=>True
  | some (.ext _)=>True
  | _=>False
section
variable {P:Program} {w:World} {H:Hp} {h h':Heap} {x e:Addr} {o':HO}
theorem gX.write (ok:gX P w H h) (mu:DG (H x)) (he:e=x\/H e=some (.own x)) (k:∀ b u,b≠e->h.get? b=some u->h'.get? b=some u) (heo:∃ u,h'.get? e=some u)
    (new:bV P w (cP H x o') h' x o'):gX P w (cP H x o') h':=fun b u q=>by
  have nown:∀ c y,H c=some (.own y)->c≠x:=fun c y r z=>by subst z;rw [r] at mu;exact mu
  have ntup:∀ c xs,H c=some (.tup xs)->c≠x:=fun c xs r z=>by subst z;rw [r] at mu;exact mu
  by_cases hb:b=x
  · subst hb;rw [bd] at q;cases q;exact new
  · rw [av hb] at q;by_cases hbe:b=e
    · have q':H b=some (.own x):=by
        rcases he with z | z
        · exact absurd (hbe.trans z) hb
        · rw [hbe];exact z
      rw [q] at q';cases q';obtain ⟨v,hv⟩:=heo;exact ⟨v,by rw [hbe];exact hv⟩
    · refine (ok b u q).stay (fun c v hc r=>k c v ?_ r) (fun c r=>by rw [av (nown c b r)];exact r) fun c xs r=>by rw [av (ntup c xs r)];exact r
      rcases hc with rfl | hc
      · exact hbe
      · rintro rfl;rcases he with z | z
        · exact nown c b hc z
        · rw [hc] at z;cases z;exact hb rfl
end
structure Un (fs ex:List Addr) (H H':Hp) (h h':Heap):Prop where
  keep:∀ b o,h.get? b=some o->H b=none->b∉fs->b∉ex->h'.get? b=some o
  slot:∀ b o,h.get? b=some o->H b=none->b∈fs->b∉ex->∃ sl,h'.get? b=some { o with slots:=sl }
  free:∀ b o,h.get? b=some o->H b=none->b∉ex->H' b=none
  there:∀ b o,h.get? b=some o->b∉ex->∃ o',h'.get? b=some o'
  tups:∀ b xs,H b=some (.tup xs)->H' b=some (.tup xs)
  frzs:∀ b o u,H b=some (.frz o u)->H' b=some (.frz o u)
  tbls:∀ b ps,H b=some (.tbl ps)->∃ more,H' b=some (.tbl (ps++more))
section
variable {fs fs' ex ex':List Addr} {H H1 H2:Hp} {h h1 h2 h':Heap} {a x e:Addr} {o:HO}
theorem Un.any (u:Un fs ex H H1 h h1) {b:Addr} {ob:Obj} (q:h.get? b=some ob) (n:H b=none) (hx:b∉ex):∃ sl,h1.get? b=some { ob with slots:=sl }:=by
  by_cases hb:b∈fs
  · exact u.slot b ob q n hb hx
  · exact ⟨ob.slots,u.keep b ob q n hb hx⟩
theorem Un.kept (k:∀ b u,h.get? b=some u->h'.get? b=some u):Un fs ex H H h h' :=
  ⟨fun b ob q _ _ _=>k b ob q,fun b ob q _ _ _=>⟨ob.slots,k b ob q⟩,fun _ _ _ n _=>n,fun b ob q _=>⟨ob,k b ob q⟩,fun _ _ q=>q,fun _ _ _ q=>q,fun _ ps q=>⟨#[],by rw [q];simp⟩⟩
theorem Un.refl:Un fs ex H H h h:=Un.kept fun _ _ q=>q
theorem Un.laid (k:∀ b u,h.get? b=some u->h'.get? b=some u) (hp:h.objs.size<=a) (hn:H a=none):Un fs ex H (cP H a o) h h' where
  keep:=fun b u q _ _ _=>k b u q
  slot:=fun b u q _ _ _=>⟨u.slots,k b u q⟩
  free:=fun b u q n _=>by rw [av (Nat.ne_of_lt (Nat.lt_of_lt_of_le (Heap.lt_size q) hp))];exact n
  there:=fun b u q _=>⟨u,k b u q⟩
  tups:=fun b xs q=>by rw [av (aW q hn)];exact q
  frzs:=fun b u xs q=>by rw [av (aW q hn)];exact q
  tbls:=fun b ps q=>⟨#[],by rw [av (aW q hn),q];simp⟩
theorem Un.write (mu:DG (H x)) (he:e=x\/H e=some (.own x)) (k:∀ b u,b≠e->h.get? b=some u->h'.get? b=some u) (heo:∃ u,h'.get? e=some u):Un fs ex H (cP H x o) h h':=by
  have hx:∀ b,H b=none->b≠x:=fun b n z=>by subst z;rw [n] at mu;exact mu
  have hb:∀ b,H b=none->b≠e:=fun b n z=>by
    subst z;rcases he with r | r
    · exact hx b n r
    · rw [n] at r;cases r
  have hm:∀ b u,H b=some u->¬ DG (some u)->b≠x:=fun b u q nm z=>by subst z;rw [q] at mu;exact nm mu
  refine ⟨fun b u q n _ _=>k b u (hb b n) q,fun b u q n _ _=>⟨u.slots,k b u (hb b n) q⟩,fun b u q n _=>by rw [av (hx b n)];exact n,fun b u q _=>?_,
    fun b xs q=>by rw [av (hm b _ q fun z=>z)];exact q,fun b u xs q=>by rw [av (hm b _ q fun z=>z)];exact q,fun b ps q=>⟨#[],by rw [av (hm b _ q fun z=>z),q];simp⟩⟩
  by_cases hbe:b=e
  · subst hbe;exact heo
  · exact ⟨u,k b u hbe q⟩
end
noncomputable def FB (h:Heap) (H:Hp):List Addr:=(List.range h.objs.size).filter fun a=>(H a).isSome
noncomputable def qM (h:Heap) (H:Hp):Heap:=PySem.W.hideAll h (FB h H)
theorem wY (h:Heap) (H:Hp):(qM h H).objs.size=h.objs.size:=PySem.W.hideAll_size _ _
theorem ym {h:Heap} {H:Hp} {b:Addr} {o:Obj} (e:h.get? b=some o) (n:H b=none):(qM h H).get? b=some o :=
  PySem.W.hideAll_get _ e fun hm=>by
    have q:(H b).isSome=true:=(List.mem_filter.mp hm).2;rw [n] at q;simp at q
theorem AI {h:Heap} {H:Hp} {b:Addr} {o:Obj} (e:(qM h H).get? b=some o):h.get? b=some o/\H b=none:=by
  have e':h.get? b=some o:=PySem.W.of_hideAll (FB h H) e;refine ⟨e',?_⟩;cases q:H b with
  | none=>rfl
  | some x =>
    have hm:b∈FB h H:=List.mem_filter.mpr ⟨List.mem_range.mpr (Heap.lt_size e'),by simp [q]⟩;have z:(qM h H).get? b=none:=PySem.W.hideAll_none (FB h H) hm;rw [z] at e;cases e
noncomputable def Ab (g h:Heap) (L:Addr):List (Addr×Obj):=(List.range h.objs.size).filterMap fun a=>if a=L\/(g.get? a).isSome=true then none else (h.get? a).map fun o=>(a,o)
noncomputable def fG (g h:Heap) (L d:Addr):List (Addr×Obj):=(Ab g h L).filter fun p=>decide (p.1≠d)
structure Mod (K:PySem.W.Frag) (mg:Str->Option Value) (base:Heap):Prop where
  kin:K.In base
  glob:base.Ns mainGlobals mg
  blt:∃ mb,base.Ns builtinsNs mb/\∀ x:Str,x ≠ "__name__" -> mb x=bootBuiltins x
  nolimit:base.NoLimit
structure Cx where
  prog:Program
  w:World
  K:PySem.W.Frag
  mg:Str->Option Value
  base:Heap
  A:Around
  N:List Str
  s₀:Shared
  H₀:Hp
  env:Env
  outer:List Env
  stack:List Env
  ex:List Addr
  fn:Str->Bool
  calm:Bool
  pn:List (Addr×Obj)
  xe:Value->Shared->Prop
noncomputable def lx (l:List Env):List Addr:=l.filterMap (·.frame)
noncomputable abbrev Cx.fs (X:Cx):List Addr:=lx X.outer
noncomputable def BV (sc:Scope) (x:Str):Prop:=sc.names.lookup x=some .local\/sc.names.lookup x=some .cell\/sc.names.lookup x=some .free
noncomputable def Bo (sc:Scope) (x:Str):Prop:=sc.names.lookup x=some .local\/sc.names.lookup x=some .cell
noncomputable def FG (env:Env) (h:Heap) (m:Str->Option Value) (x:Str) (u:Value):Prop :=
  (env.kindOf x=some .local/\m x=some u)\/((env.kindOf x=some .cell\/env.kindOf x=some .free)/\∃ c,env.cells.lookup x=some c/\h.IsCell c (some u))
structure Cx.Ok (X:Cx):Prop where
  mod:Mod X.K X.mg X.base
  kind:X.env.scope.kind=.function
  glob:X.env.globals=mainGlobals
  blt:X.env.builtins=builtinsNs
  above:X.s₀.heap.objs.size<=X.env.locals
  inj:∀ x y c,X.env.cells.lookup x=some c->X.env.cells.lookup y=some c->x=y
  has:∀ x,(X.env.kindOf x=some .cell\/X.env.kindOf x=some .free)->∃ c,X.env.cells.lookup x=some c
  cab:∀ x c,X.fn x=true->X.env.cells.lookup x=some c->X.s₀.heap.objs.size<=c
  hd:X.calm=true->X.A.handled=none
  frames:X.A.frames=some X.stack
  stk:X.stack=X.outer\/(X.stack=X.env::X.outer/\X.env.frame=some X.env.locals)
  exf:∀ b∈X.ex,b≠X.env.locals/\∀ x c,X.env.cells.lookup x=some c->c≠b
  bs:∀ b o,X.base.get? b=some o->X.s₀.heap.get? b=some o/\X.H₀ b=none
  bsz:X.base.objs.size<=X.s₀.heap.objs.size
  noex:∀ b o,X.base.get? b=some o->b∉X.ex
  exfs:∀ b∈X.ex,b∉X.fs
  funs:X.s₀.heap.FunFrames X.base X.outer
  frf:∀ b∈X.fs,X.H₀ b=none
structure aL (X:Cx) (pins:List (Addr×Obj)) (σ:List (Option V)) (H:Hp) (s:Shared):Prop where
  ok:X.Ok
  os:s.os=X.s₀.os
  bare:AllBare s.gens
  base:Un X.fs X.ex X.H₀ H X.s₀.heap s.heap
  loc:∃ m,s.heap.Ns X.env.locals m/\∀ (i:Nat) (x:Str) (v:V),X.N[i]?=some x->σ[i]?=some (some v)->BV X.env.scope x->∃ u,bM v u/\FG X.env s.heap m x u
  cell:∀ x c,X.env.cells.lookup x=some c->∃ v,s.heap.IsCell c v
  free:H X.env.locals=none
  freeC:∀ x c,X.env.cells.lookup x=some c->H c=none
  pin:∀ p∈X.pn++pins,s.heap.get? p.1=some p.2/\H p.1=none/\p.1≠X.env.locals/\p.1∉X.fs/\∀ v,p.2.data≠.cell v
  hok:gX X.prog X.w H s.heap
  len:σ.length=X.N.length
section
variable {X:Cx} {pins:List (Addr×Obj)} {σ:List (Option V)} {H H':Hp} {s:Shared} {h':Heap}
theorem Cx.Ok.nofr (ok:X.Ok) {b:Addr} {o:Obj} (e:X.base.get? b=some o):b∉X.fs:=fun hb=>by
  have:=(ok.funs.mem hb).1;rw [e] at this;cases this
theorem aL.bs (I:aL X pins σ H s):∀ b o,X.base.get? b=some o->s.heap.get? b=some o/\H b=none:=fun b o e =>
  ⟨I.base.keep b o (I.ok.bs b o e).1 (I.ok.bs b o e).2 (I.ok.nofr e) (I.ok.noex b o e),I.base.free b o (I.ok.bs b o e).1 (I.ok.bs b o e).2 (I.ok.noex b o e)⟩
theorem aL.bk (I:aL X pins σ H s):∀ b o,X.base.get? b=some o->s.heap.get? b=some o:=fun b o e=>(I.bs b o e).1
theorem aL.mod (I:aL X pins σ H s):Mod X.K X.mg X.base:=I.ok.mod
theorem aL.kIn (I:aL X pins σ H s):X.K.In s.heap:=I.ok.mod.kin.keeps I.bk
theorem aL.lt (I:aL X pins σ H s):X.env.locals < s.heap.objs.size:=let ⟨_,hn,_⟩:=I.loc;hn.lt
theorem aL.sz (I:aL X pins σ H s):X.s₀.heap.objs.size<=s.heap.objs.size:=Nat.le_trans I.ok.above (Nat.le_of_lt I.lt)
theorem aL.nofs (I:aL X pins σ H s) {a:Addr} (h:s.heap.objs.size<=a):a∉X.fs:=fun hb=>by
  obtain ⟨_,o,ho,_⟩:=I.ok.funs.mem hb;exact absurd (Nat.lt_of_lt_of_le (Heap.lt_size ho) (Nat.le_trans I.sz h)) (Nat.lt_irrefl _)
theorem aL.cne (I:aL X pins σ H s):∀ x c,X.env.cells.lookup x=some c->c≠X.env.locals:=fun x c e z=>by
  obtain ⟨v,o,ho,hd⟩:=I.cell x c e;obtain ⟨m,⟨o',es,ep,ho',hd',_⟩,_⟩:=I.loc;rw [z,ho'] at ho;cases ho;rw [hd'] at hd;cases hd
theorem aL.funs (I:aL X pins σ H s):s.heap.FunFrames X.base X.outer:=by
  have all:∀ (l:List Env),(∀ b∈lx l,b∈X.fs)->X.s₀.heap.FunFrames X.base l->s.heap.FunFrames X.base l:=by
    intro l;induction l with
    | nil=>intro _ _;trivial
    | cons env r ih =>
      intro hs hl;obtain ⟨hk,⟨L,o,hf,hn,ho,hd⟩,hr⟩:=hl;have hL:L∈X.fs:=hs L (by unfold lx;rw [List.filterMap_cons,hf];exact List.mem_cons_self);obtain ⟨sl,e⟩:=I.base.slot L o ho (I.ok.frf L hL) hL fun z=>I.ok.exfs L z hL
      exact ⟨hk,⟨L,_,hf,hn,e,hd⟩,ih (fun b hb=>hs b (by unfold lx;rw [List.filterMap_cons,hf];exact List.mem_cons_of_mem _ hb)) hr⟩
  exact all X.outer (fun _ hb=>hb) I.ok.funs
theorem aL.stack (I:aL X pins σ H s):s.heap.FunFrames X.base X.stack:=by
  rcases I.ok.stk with e | ⟨e,hf⟩
  · rw [e];exact I.funs
  · rw [e];obtain ⟨m,hn,_⟩:=I.loc;refine .cons (by rw [I.ok.kind];decide) hf hn ?_ I.funs;exact Heap.get?_none_of_le (Nat.le_trans I.ok.bsz I.ok.above)
theorem aL.stkSub (I:aL X pins σ H s):∀ b∈lx X.stack,b∈X.env.locals::X.fs:=fun b hb=>by
  rcases I.ok.stk with e | ⟨e,hf⟩
  · rw [e] at hb;exact List.mem_cons_of_mem _ hb
  · rw [e] at hb;unfold lx at hb;rw [List.filterMap_cons,hf] at hb;exact hb
theorem aL.stkFree (I:aL X pins σ H s):∀ b∈lx X.stack,H b=none:=fun b hb=>by
  rcases List.mem_cons.mp (I.stkSub b hb) with e | hb
  · rw [e];exact I.free
  · obtain ⟨_,o,ho,_⟩:=I.ok.funs.mem hb;exact I.base.free b o ho (I.ok.frf b hb) fun z=>I.ok.exfs b z hb
theorem aL.step {g':Array GenState} {t':Nat} {d':Drawn} {ch:List Addr} (I:aL X pins σ H s)
    (hch:∀ b∈ch,(b∈X.ex\/X.s₀.heap.objs.size<=b)/\b≠X.env.locals/\(∀ x c,X.env.cells.lookup x=some c->c≠b)/\∀ p∈X.pn++pins,p.1≠b)
    (keep:∀ b o,b≠X.env.locals->b∉X.fs->b∉ch->s.heap.get? b=some o->H b=none->h'.get? b=some o)
    (slot:∀ b o,b≠X.env.locals->b∈X.fs->b∉ch->s.heap.get? b=some o->H b=none->∃ sl,h'.get? b=some { o with slots:=sl }) (free:∀ b o,b∉ch->s.heap.get? b=some o->H b=none->H' b=none)
    (there:∀ b o,b∉ch->s.heap.get? b=some o->∃ o',h'.get? b=some o')
    (tups:∀ b xs,H b=some (.tup xs)->H' b=some (.tup xs)) (frzs:∀ b o u,H b=some (.frz o u)->H' b=some (.frz o u)) (tbls:∀ b ps,H b=some (.tbl ps)->∃ more,H' b=some (.tbl (ps++more)))
    (ns:∀ m,s.heap.Ns X.env.locals m->h'.Ns X.env.locals m) (hok:gX X.prog X.w H' h') (hg:AllBare g') :
    aL X pins σ H' { s with heap:=h',gens:=g',drawn:=d',toks:=t' }:=by
  have neL:∀ b o,X.s₀.heap.get? b=some o->b≠X.env.locals:=fun b o e=>Nat.ne_of_lt (Nat.lt_of_lt_of_le (Heap.lt_size e) I.ok.above)
  have neC:∀ b o,X.s₀.heap.get? b=some o->b∉X.ex->b∉ch:=fun b o e hx hb=>by
    rcases (hch b hb).1 with z | z
    · exact hx z
    · exact absurd (Nat.lt_of_lt_of_le (Heap.lt_size e) z) (Nat.lt_irrefl _)
  have cellK:∀ x c,X.env.cells.lookup x=some c->∀ v,s.heap.IsCell c v->h'.IsCell c v:=fun x c e v ⟨o,ho,hd⟩=>by
    have nch:c∉ch:=fun z=>(hch c z).2.2.1 x c e rfl
    by_cases hc:c∈X.fs
    · obtain ⟨sl,q⟩:=slot c o (I.cne x c e) hc nch ho (I.freeC x c e);exact ⟨_,q,hd⟩
    · exact ⟨o,keep c o (I.cne x c e) hc nch ho (I.freeC x c e),hd⟩
  refine ⟨I.ok,I.os,hg,⟨fun b o e n hb hx=>?_,fun b o e n hb hx=>?_,fun b o e n hx=>?_,fun b o e hx=>?_,fun b xs e=>tups b xs (I.base.tups b xs e),fun b o xs e=>frzs b o xs (I.base.frzs b o xs e),fun b ps e=>?_⟩,?_,fun x c e=>?_,?_,fun x c e=>?_,fun p hp=>?_,hok,I.len⟩
  · exact keep b o (neL b o e) hb (neC b o e hx) (I.base.keep b o e n hb hx) (I.base.free b o e n hx)
  · obtain ⟨sl,e1⟩:=I.base.slot b o e n hb hx;obtain ⟨sl',e2⟩:=slot b _ (neL b o e) hb (neC b o e hx) e1 (I.base.free b o e n hx);exact ⟨sl',e2⟩
  · obtain ⟨o',e1⟩:=I.base.there b o e hx;exact free b o' (neC b o e hx) e1 (I.base.free b o e n hx)
  · obtain ⟨o',e1⟩:=I.base.there b o e hx;exact there b o' (neC b o e hx) e1
  · obtain ⟨m1,e1⟩:=I.base.tbls b ps e;obtain ⟨m2,e2⟩:=tbls b _ e1;exact ⟨m1++m2,by rw [e2,Array.append_assoc]⟩
  · obtain ⟨m,hn,hl⟩:=I.loc;refine ⟨m,ns m hn,fun i x v e1 e2 e3=>?_⟩;obtain ⟨u,r,l⟩:=hl i x v e1 e2 e3;refine ⟨u,r,?_⟩;rcases l with l | ⟨k,c,e,z⟩
    · exact .inl l
    · exact .inr ⟨k,c,e,cellK x c e _ z⟩
  · obtain ⟨v,z⟩:=I.cell x c e;exact ⟨v,cellK x c e v z⟩
  · obtain ⟨m,⟨o,_,_,ho,_⟩,_⟩:=I.loc;exact free _ o (fun z=>(hch _ z).2.1 rfl) ho I.free
  · obtain ⟨v,o,ho,hd⟩:=I.cell x c e;exact free c o (fun z=>(hch c z).2.2.1 x c e rfl) ho (I.freeC x c e)
  · obtain ⟨e,n,ne,nf,d⟩:=I.pin p hp;have nch:p.1∉ch:=fun z=>(hch p.1 z).2.2.2 p hp rfl
    exact ⟨keep p.1 p.2 ne nf nch e n,free p.1 p.2 nch e n,ne,nf,d⟩
theorem aL.un {t':Nat} (I:aL X pins σ H s) (u:Un X.fs [] H H' s.heap h') (hok:gX X.prog X.w H' h'):aL X pins σ H' { s with heap:=h',toks:=t' }:=by
  obtain ⟨m,⟨o,es,ep,ho,r⟩,_⟩:=id I.loc;obtain ⟨sl,hL⟩:=u.any ho I.free (by simp);exact I.step (g':=s.gens) (d':=s.drawn) (ch:=[]) (fun _ z=>nomatch z) (fun b o _ hb _ e n=>u.keep b o e n hb (by simp)) (fun b o _ hb _ e n=>u.slot b o e n hb (by simp)) (fun b o _ e n=>u.free b o e n (by simp)) (fun b o _ e=>u.there b o e (by simp)) u.tups u.frzs u.tbls (fun m' hm=>by
    obtain ⟨o',es',ep',ho',r'⟩:=hm;rw [ho] at ho';cases ho';exact ⟨_,es',ep',hL,r'⟩) hok I.bare
theorem aL.call {g':Array GenState} {t':Nat} {d':Drawn} {ch:List Addr} (I:aL X pins σ H s) (u:Un (lx X.stack) ch H H' s.heap h') (hok:gX X.prog X.w H' h') (hg:AllBare g')
    (hch:∀ b∈ch,(b∈X.ex\/X.s₀.heap.objs.size<=b)/\b≠X.env.locals/\(∀ x c,X.env.cells.lookup x=some c->c≠b)/\∀ p∈X.pn++pins,p.1≠b) :
    aL X pins σ H' { s with heap:=h',gens:=g',drawn:=d',toks:=t' }:=by
  obtain ⟨m,⟨o,es,ep,ho,r⟩,_⟩:=id I.loc;obtain ⟨sl,hL⟩:=u.any ho I.free fun z=>(hch _ z).2.1 rfl
  exact I.step (ch:=ch) hch (fun b o hL hb hc e n=>u.keep b o e n (fun z=>(List.mem_cons.mp (I.stkSub b z)).elim hL hb) hc) (fun b o _ _ hc e n=>u.any e n hc) (fun b o hc e n=>u.free b o e n hc) (fun b o hc e=>u.there b o e hc) u.tups u.frzs u.tbls (fun m' hm=>by
    obtain ⟨o',es',ep',ho',r'⟩:=hm;rw [ho] at ho';cases ho';exact ⟨_,es',ep',hL,r'⟩) hok hg
theorem aL.turned {t':Nat} {it:Addr} (I:aL X pins σ H s) (k:∀ b o,b≠it->s.heap.get? b=some o->h'.get? b=some o) (hn:H it=none) (hL:it≠X.env.locals)
    (h1:it∈X.ex\/X.s₀.heap.objs.size<=it) (h2:∀ x c,X.env.cells.lookup x=some c->c≠it) (h3:∀ p∈X.pn++pins,p.1≠it):aL X pins σ H { s with heap:=h',toks:=t' }:=by
  have nit:∀ b u,H b=some u->b≠it:=fun b u e z=>by rw [z,hn] at e;cases e
  refine I.step (g':=s.gens) (d':=s.drawn) (ch:=[it]) (fun b hb=>?_) (fun b o _ _ hc e _=>k b o (fun z=>hc (by simp [z])) e) (fun b o _ _ hc e _=>⟨o.slots,k b o (fun z=>hc (by simp [z])) e⟩) (fun _ _ _ _ n=>n)
    (fun b o hc e=>⟨o,k b o (fun z=>hc (by simp [z])) e⟩) (fun _ _ e=>e) (fun _ _ _ e=>e) (fun b ps e=>⟨#[],by rw [e];simp⟩) (fun m hm=>?_) (fun b u e=>?_) I.bare
  · have e:b=it:=by simpa using hb
    subst e;exact ⟨h1,hL,h2,h3⟩
  · obtain ⟨o,es,ep,ho,r⟩:=hm;exact ⟨o,es,ep,k _ o (Ne.symm hL) ho,r⟩
  · refine (I.hok b u e).stay (fun c v hc q=>k c v ?_ q) (fun _ q=>q) fun _ _ q=>q
    rcases hc with z | z
    · rw [z];exact nit b u e
    · exact nit c _ z
theorem aL.tok (I:aL X pins σ H s) (t:Nat):aL X pins σ H { s with toks:=t }:=I.un (h':=s.heap) (t':=t) Un.refl I.hok
theorem aL.kept {t':Nat} (I:aL X pins σ H s) (k:∀ b u,s.heap.get? b=some u->h'.get? b=some u):aL X pins σ H { s with heap:=h',toks:=t' }:=I.un (Un.kept k) (I.hok.kept k)
theorem aL.laid {a:Addr} {o:HO} {t':Nat} (I:aL X pins σ H s) (k:∀ b u,s.heap.get? b=some u->h'.get? b=some u) (hp:s.heap.objs.size<=a) (new:bV X.prog X.w (cP H a o) h' a o) :
    aL X pins σ (cP H a o) { s with heap:=h',toks:=t' }:=I.un (Un.laid k hp (I.hok.fresh hp)) (I.hok.laid k hp new)
theorem aL.write {x e:Addr} {o:HO} {t':Nat} (I:aL X pins σ H s) (mu:DG (H x)) (he:e=x\/H e=some (.own x)) (k:∀ b u,b≠e->s.heap.get? b=some u->h'.get? b=some u) (heo:∃ u,h'.get? e=some u)
    (new:bV X.prog X.w (cP H x o) h' x o):aL X pins σ (cP H x o) { s with heap:=h',toks:=t' }:=I.un (Un.write mu he k heo) (I.hok.write mu he k heo new)
theorem aL.pins_of {pins':List (Addr×Obj)} (I:aL X pins σ H s) (h:∀ p∈pins',s.heap.get? p.1=some p.2/\H p.1=none/\p.1≠X.env.locals/\p.1∉X.fs/\∀ v,p.2.data≠.cell v):aL X pins' σ H s :=
  ⟨I.ok,I.os,I.bare,I.base,I.loc,I.cell,I.free,I.freeC,fun p hp=>(List.mem_append.mp hp).elim (fun z=>I.pin p (List.mem_append_left _ z)) (h p),I.hok,I.len⟩
theorem sP {N:List Str} (hN:N.Nodup) {i j:Nat} {x:Str} (a:N[i]?=some x) (b:N[j]?=some x):i=j:=by
  obtain ⟨h1,e1⟩:=List.getElem?_eq_some_iff.mp a;obtain ⟨h2,e2⟩:=List.getElem?_eq_some_iff.mp b;exact (List.getElem_inj hN).mp (e1.trans e2.symm)
theorem pS {M:Model} {A:Around} {E:Value->Shared->Prop} {i:Nat} {x:Str} {v:V} {u:Value} {Q:Unit->Shared->Prop} (I:aL X pins σ H s) (hN:X.N.Nodup) (hi:X.N[i]?=some x) (hx:Bo X.env.scope x) (r:bM v u)
    (h:∀ s',aL X pins (σ.set i (some v)) H s'->(∃ a,Heap.SameBut a s.heap s'.heap/\(a=X.env.locals\/X.env.cells.lookup x=some a))->Q () s') (hf:X.fn x=true\/X.env.scope.names.lookup x=some .local:=by first | exact .inl rfl | exact .inr rfl | assumption):wpAny M A (storeName X.env x u) Q E s:=by
  obtain ⟨m,hn,hl⟩:=id I.loc;have hcls:(X.env.scope.kind==.class||(X.env.scope.kind==.module&&X.env.locals != X.env.globals))=false:=by rw [I.ok.kind];rfl
  have hiσ:i < σ.length:=by rw [I.len];exact (List.getElem?_eq_some_iff.mp hi).1
  have cne:=I.cne;have tracked:∀ {a:Addr} {h':Heap},(∃ o,s.heap.get? a=some o/\H a=none)->Heap.SameBut a s.heap h'->gX X.prog X.w H h':=fun {a h'} ha hs b ob e=>by
    obtain ⟨_,_,hfree⟩:=ha;refine (I.hok b ob e).stay (fun c w' hc q=>(hs.2 c ?_).trans q) (fun _ q=>q) fun _ _ q=>q
    rintro rfl;rcases hc with rfl | hc
    · rw [hfree] at e;cases e
    · rw [hfree] at hc;cases hc
  rcases hx with hk | hk
  · refine wpAny_storeName_local hk hn (fun h' hn' hs=>?_) hcls;obtain ⟨oL,_,_,hoL,_⟩:=id hn;refine h _ ⟨I.ok,I.os,I.bare,⟨fun b o e n hb hx=>?_,fun b o e n hb hx=>?_,I.base.free,fun b o e hx=>?_,I.base.tups,I.base.frzs,I.base.tbls⟩,⟨_,hn',fun j y v' e1 e2 e3=>?_⟩,fun y c e=>?_,I.free,I.freeC,fun p hp=>?_,tracked ⟨oL,hoL,I.free⟩ hs,by simpa using I.len⟩ ⟨_,hs,.inl rfl⟩
    · exact (hs.2 b (Nat.ne_of_lt (Nat.lt_of_lt_of_le (Heap.lt_size e) I.ok.above))).trans (I.base.keep b o e n hb hx)
    · obtain ⟨sl,e1⟩:=I.base.slot b o e n hb hx;exact ⟨sl,(hs.2 b (Nat.ne_of_lt (Nat.lt_of_lt_of_le (Heap.lt_size e) I.ok.above))).trans e1⟩
    · obtain ⟨o',e1⟩:=I.base.there b o e hx;exact ⟨o',(hs.2 b (Nat.ne_of_lt (Nat.lt_of_lt_of_le (Heap.lt_size e) I.ok.above))).trans e1⟩
    · by_cases hj:j=i
      · subst hj;rw [hi] at e1;cases e1;rw [List.getElem?_set_self hiσ] at e2;cases e2;exact ⟨u,r,.inl ⟨hk,by simp⟩⟩
      · rw [List.getElem?_set_ne (Ne.symm hj)] at e2;obtain ⟨u',r',q⟩:=hl j y v' e1 e2 e3;refine ⟨u',r',?_⟩;rcases q with ⟨k,e⟩ | ⟨k,c,e,z⟩
        · refine .inl ⟨k,?_⟩;have:y≠x:=fun e=>hj (sP hN e1 (e ▸ hi))
          simp [this,e]
        · exact .inr ⟨k,c,e,z.sameBut hs (cne y c e)⟩
    · obtain ⟨w',z⟩:=I.cell y c e;exact ⟨w',z.sameBut hs (cne y c e)⟩
    · obtain ⟨e,n,ne,nf,d⟩:=I.pin p hp;exact ⟨(hs.2 p.1 ne).trans e,n,ne,nf,d⟩
  · have hfn:X.fn x=true:=by
      rcases hf with z | z
      · exact z
      · rw [z] at hk;cases hk
    obtain ⟨c,hc⟩:=I.ok.has x (.inl hk);obtain ⟨w',z⟩:=I.cell x c hc;refine wpAny_storeName_cell I.ok.kind hk hc z (fun h' hc' hs=>?_);obtain ⟨oc,hoc,hocd⟩:=id z;refine h { s with heap:=h' } ⟨I.ok,I.os,I.bare,⟨fun b o e n hb hx=>?_,fun b o e n hb hx=>?_,I.base.free,fun b o e hx=>?_,I.base.tups,I.base.frzs,I.base.tbls⟩,⟨m,hn.sameBut hs (Ne.symm (cne x c hc)),fun j y v' e1 e2 e3=>?_⟩,fun y c' e=>?_,I.free,I.freeC,fun p hp=>?_,tracked ⟨oc,hoc,I.freeC x c hc⟩ hs,by simpa using I.len⟩ ⟨c,hs,.inr hc⟩
    · exact (hs.2 b (Nat.ne_of_lt (Nat.lt_of_lt_of_le (Heap.lt_size e) (I.ok.cab x c hfn hc)))).trans (I.base.keep b o e n hb hx)
    · obtain ⟨sl,e1⟩:=I.base.slot b o e n hb hx;exact ⟨sl,(hs.2 b (Nat.ne_of_lt (Nat.lt_of_lt_of_le (Heap.lt_size e) (I.ok.cab x c hfn hc)))).trans e1⟩
    · obtain ⟨o',e1⟩:=I.base.there b o e hx;exact ⟨o',(hs.2 b (Nat.ne_of_lt (Nat.lt_of_lt_of_le (Heap.lt_size e) (I.ok.cab x c hfn hc)))).trans e1⟩
    · by_cases hj:j=i
      · subst hj;rw [hi] at e1;cases e1;rw [List.getElem?_set_self hiσ] at e2;cases e2;exact ⟨u,r,.inr ⟨.inl hk,c,hc,hc'⟩⟩
      · rw [List.getElem?_set_ne (Ne.symm hj)] at e2;obtain ⟨u',r',q⟩:=hl j y v' e1 e2 e3;refine ⟨u',r',?_⟩;rcases q with q | ⟨k,c',e,z'⟩
        · exact .inl q
        · refine .inr ⟨k,c',e,z'.sameBut hs ?_⟩;rintro rfl;exact hj (sP hN e1 (I.ok.inj _ _ _ e hc ▸ hi))
    · by_cases hcc:c'=c
      · subst hcc;exact ⟨_,hc'⟩
      · obtain ⟨w2,z2⟩:=I.cell y c' e;exact ⟨w2,z2.sameBut hs hcc⟩
    · obtain ⟨e,n,ne,nf,d⟩:=I.pin p hp;refine ⟨(hs.2 p.1 ?_).trans e,n,ne,nf,d⟩;intro q;rw [q,hoc] at e;have q':oc=p.2:=Option.some.inj e;exact d w' (by rw [<- q'];exact hocd)
theorem oC {M:Model} {A:Around} {E:Value->Shared->Prop} {i:Nat} {x:Str} {v:V} {u:Value} {Q:Unit->Shared->Prop} (I:aL X pins σ H s) (hN:X.N.Nodup) (hi:X.N[i]?=some x) (hx:Bo X.env.scope x) (r:bM v u)
    (h:∀ s',aL X pins (σ.set i (some v)) H s'->Q () s') (hf:X.fn x=true\/X.env.scope.names.lookup x=some .local:=by first | exact .inl rfl | exact .inr rfl | assumption):wpAny M A (storeName X.env x u) Q E s :=
  pS I hN hi hx r (fun s' I' _=>h s' I') hf
theorem aL.call' {s':Shared} {ch:List Addr} (I:aL X pins σ H s) (ho:s'.os=s.os) (u:Un (lx X.stack) ch H H' s.heap s'.heap) (hok:gX X.prog X.w H' s'.heap) (hg:AllBare s'.gens)
    (hch:∀ b∈ch,(b∈X.ex\/X.s₀.heap.objs.size<=b)/\b≠X.env.locals/\(∀ x c,X.env.cells.lookup x=some c->c≠b)/\∀ p∈X.pn++pins,p.1≠b):aL X pins σ H' s':=by
  obtain ⟨h',g',d',t',o'⟩:=s';have e:o'=s.os:=ho;subst e;exact I.call (g':=g') (t':=t') (d':=d') u hok hg hch
end
noncomputable abbrev XK:=Value->Option Addr->Hp->Prop
noncomputable abbrev St:=List (Option V)
noncomputable abbrev VK:=V->Hp->Prop
noncomputable abbrev TE:=St->Hp->VK->Prop
noncomputable abbrev TT:=St->Hp->(Bool->Hp->Prop)->Prop
noncomputable abbrev TA:=St->Hp->(List V->Hp->Prop)->Prop
structure rC where
  nx:St->Hp->Prop
  rt:VK
  bk:St->Hp->Prop:=fun _ _=>False
  ct:St->Hp->Prop:=fun _ _=>False
noncomputable abbrev TS:=rC->St->Hp->Prop
inductive EP (X:Cx) (pins:List (Addr×Obj)) (σ:St) (Q:VK) (u:Value) (s':Shared):Prop
  | mk (v:V) (H':Hp) (I:aL X pins σ H' s') (r:bM v u) (q:Q v H')
inductive TP (X:Cx) (pins:List (Addr×Obj)) (σ:St) (Q:Bool->Hp->Prop) (b:Bool) (s':Shared):Prop
  | mk (H':Hp) (I:aL X pins σ H' s') (q:Q b H')
inductive AP (X:Cx) (pins:List (Addr×Obj)) (σ:St) (Q:List V->Hp->Prop) (us:List Value) (s':Shared):Prop
  | mk (vs:List V) (H':Hp) (I:aL X pins σ H' s') (r:bA vs us) (q:Q vs H')
noncomputable def SP (X:Cx) (pins:List (Addr×Obj)) (D:rC) (f:Flow) (s':Shared):Prop :=
  match f with
  | .next=>∃ σ' H',aL X pins σ' H' s'/\D.nx σ' H'
  | .brk=>∃ σ' H',aL X pins σ' H' s'/\D.bk σ' H'
  | .cont=>∃ σ' H',aL X pins σ' H' s'/\D.ct σ' H'
  | .ret u=>∃ v σ' H',aL X pins σ' H' s'/\bM v u/\D.rt v H'
noncomputable def PE (X:Cx) (e:Expr) (t:TE):Prop :=
  ∀ (pins:List (Addr×Obj)) (s:Shared) (σ:St) (H:Hp) (Q:VK),aL X pins σ H s->t σ H Q->wpAny (model X.prog X.w) X.A (eval e X.env) (EP X pins σ Q) X.xe s
noncomputable def PT (X:Cx) (e:Expr) (t:TT):Prop :=
  ∀ (pins:List (Addr×Obj)) (s:Shared) (σ:St) (H:Hp) (Q:Bool->Hp->Prop),aL X pins σ H s->t σ H Q->wpAny (model X.prog X.w) X.A (isTrue e X.env (eval e X.env)) (TP X pins σ Q) X.xe s
noncomputable def PW (X:Cx) (e:Expr) (t:TT):Prop :=
  ∀ (whole:Sem Value) (pins:List (Addr×Obj)) (s:Shared) (σ:St) (H:Hp) (Q:Bool->Hp->Prop),aL X pins σ H s->t σ H Q->wpAny (model X.prog X.w) X.A (isTrue e X.env whole) (TP X pins σ Q) X.xe s
theorem PW.pt {X:Cx} {e:Expr} {t:TT} (h:PW X e t):PT X e t:=h _
noncomputable def PA (X:Cx) (es:List Expr) (t:TA):Prop :=
  ∀ (pos:Pos) (pins:List (Addr×Obj)) (s:Shared) (σ:St) (H:Hp) (Q:List V->Hp->Prop),aL X pins σ H s->t σ H Q->wpAny (model X.prog X.w) X.A (spliced (backTo pos (starEach es X.env))) (AP X pins σ Q) X.xe s
noncomputable def PS (X:Cx) (st:Stmt) (t:TS):Prop :=
  ∀ (pins:List (Addr×Obj)) (s:Shared) (σ:St) (H:Hp) (D:rC),aL X pins σ H s->t D σ H->wpAny (model X.prog X.w) X.A (exec st X.env) (SP X pins D) X.xe s
noncomputable def qe (X:Cx) (st:List Stmt) (t:TS):Prop :=
  ∀ (pins:List (Addr×Obj)) (s:Shared) (σ:St) (H:Hp) (D:rC),aL X pins σ H s->t D σ H->wpAny (model X.prog X.w) X.A (execs st X.env) (SP X pins D) X.xe s
theorem dm {α:Type} {t:Sem α} {Q Q':α->Shared->Prop} {M:Model} {A:Around} {E:Value->Shared->Prop} {s:Shared} (h:wpAny M A t Q E s) (hQ:∀ a s,Q a s->Q' a s):wpAny M A t Q' E s:=wpAny_mono h hQ fun _ _ x=>x
section
variable {X:Cx}
theorem GY {a b:Expr} {ta tb:TE} (ha:PE X a ta) (hb:PE X b tb) {pins:List (Addr×Obj)} {s:Shared} {σ:St} {H:Hp} {R:V->V->Hp->Prop} (I:aL X pins σ H s) (h:ta σ H fun x H1=>tb σ H1 fun y H2=>R x y H2)
    {α:Type} {Q:α->Shared->Prop} {f:Value->Value->Sem α}
    (hf:∀ v u s2 x y H2,aL X pins σ H2 s2->bM x v->bM y u->R x y H2->wpAny (model X.prog X.w) X.A (f v u) Q X.xe s2) :
    wpAny (model X.prog X.w) X.A (eval a X.env) (fun v s₁=>wpAny (model X.prog X.w) X.A (eval b X.env) (fun u s₂=>wpAny (model X.prog X.w) X.A (f v u) Q X.xe s₂) X.xe s₁) X.xe s:=by
  refine dm (ha pins s σ H _ I h) fun v s1 zq0=>?_
  obtain ⟨x,H1,I1,r1,q1⟩:=zq0;refine dm (hb pins s1 σ H1 _ I1 q1) fun u s2 zq0=>?_
  obtain ⟨y,H2,I2,r2,q2⟩:=zq0;exact hf v u s2 x y H2 I2 r1 r2 q2
noncomputable def E1 (i:Nat):TE:=fun σ H Q=>∃ v,σ[i]?=some (some v)/\Q v H
noncomputable def tC (v:V):TE:=fun _ H Q=>Q v H
theorem kz {i:Nat} {x:Str} {pos:Pos} (hN:X.N[i]?=some x) (hv:BV X.env.scope x) (hd:(x==("__debug__" : Str))=false:=by decide) (hcd:(x==("__classdict__" : Str))=false:=by decide):PE X (.Name x pos) (E1 i):=by
  intro pins s σ H Q I h;obtain ⟨v,e,h⟩:=h;obtain ⟨m,hn,hl⟩:=I.loc;obtain ⟨u,r,l⟩:=hl i x v hN e hv;have fin:EP X pins σ Q u s:=⟨v,H,I,r,h⟩
  rcases l with ⟨hk,hm⟩ | ⟨hk,c,hc,hcell⟩
  · exact wpAny_Name (wpAny_loadName_local I.ok.kind hk hn hm fin) hd
  · rcases hk with hk | hk
    · exact wpAny_Name (wpAny_loadName_cell I.ok.kind hk hc hcell fin) hd
    · exact wpAny_Name (wpAny_loadName_free I.ok.kind hk hc hcell fin hcd) hd
theorem CF {i j pos}:PE X (.Constant (.int i) j pos) (tC (.int i)):=fun _ _ _ H _ I h=>wpAny_Constant_int ⟨.int i,H,I.tok _,⟨_,rfl⟩,h⟩
theorem Eo {b j pos}:PE X (.Constant (.bool b) j pos) (tC (.bl b)):=fun _ _ _ H _ I h=>Constant_bool ⟨.bl b,H,I,rfl,h⟩
theorem CH {j pos}:PE X (.Constant .none j pos) (tC .non):=fun _ _ _ H _ I h=>Constant_none ⟨.non,H,I,rfl,h⟩
theorem CK {x j pos}:PE X (.Constant (.str x) j pos) (tC (.str x)):=fun _ _ _ H _ I h=>Calls.Constant_str ⟨.str x,H,I.tok _,⟨_,rfl⟩,h⟩
noncomputable def Gl (X:Cx) (x:Str):Prop:=X.env.kindOf x=some .globalImplicit
theorem mK {E:Value->Shared->Prop} {pins:List (Addr×Obj)} {s:Shared} {σ:St} {H:Hp} {x:Str} {u:Value} {pos:Pos} {Q:Value->Shared->Prop} (I:aL X pins σ H s) (hg:Gl X x) (hm:X.mg x=some u) (h:Q u s)
    (hd:(x==("__debug__" : Str))=false:=by decide):wpAny (model X.prog X.w) X.A (eval (.Name x pos) X.env) Q E s :=
  Calls.Name_function_global I.ok.kind hg (Calls.loadGlobal_global (by rw [I.ok.glob];exact I.mod.glob.keeps I.bk) hm h) hd
theorem iN {E:Value->Shared->Prop} {pins:List (Addr×Obj)} {s:Shared} {σ:St} {H:Hp} {x:Str} {u:Value} {pos:Pos} {Q:Value->Shared->Prop} (I:aL X pins σ H s) (hg:Gl X x) (hm:X.mg x=none) (hv:bootBuiltins x=some u) (h:Q u s)
    (hn:x ≠ "__name__" := by decide) (hd:(x==("__debug__" : Str))=false:=by decide):wpAny (model X.prog X.w) X.A (eval (.Name x pos) X.env) Q E s:=by
  obtain ⟨mb,h1,h2⟩:=I.mod.blt;exact Calls.Name_function_global I.ok.kind hg (Calls.loadGlobal_builtin (by rw [I.ok.glob];exact I.mod.glob.keeps I.bk) hm (by rw [I.ok.blt];exact h1.keeps I.bk) ((h2 x hn).trans hv) h) hd
theorem AU {x:Str} {v:V} {u:Value} {pos:Pos} (hg:Gl X x) (hm:X.mg x=some u) (r:bM v u) (hd:(x==("__debug__" : Str))=false:=by decide):PE X (.Name x pos) (tC v) :=
  fun _ _ _ H _ I h=>mK I hg hm ⟨v,H,I,r,h⟩ hd
theorem AQ {x:Str} {v:V} {u:Value} {pos:Pos} (hg:Gl X x) (hm:X.mg x=none) (hv:bootBuiltins x=some u) (r:bM v u) (hn:x ≠ "__name__" := by decide) (hd:(x==("__debug__" : Str))=false:=by decide):PE X (.Name x pos) (tC v) :=
  fun _ _ _ H _ I h=>iN I hg hm hv ⟨v,H,I,r,h⟩ hn hd
variable {a b:Expr} {ta tb:TE} {pos:Pos}
noncomputable def PC (X:Cx) (op:CmpOp) (a b:Expr) (t:TE):Prop :=
  ∀ (pins:List (Addr×Obj)) (s:Shared) (σ:St) (H:Hp) (Q:VK),aL X pins σ H s->t σ H Q ->
    wpAny (model X.prog X.w) X.A (eval a X.env) (fun v s₁=>wpAny (model X.prog X.w) X.A (eval b X.env) (fun u s₂=>wpAny (model X.prog X.w) X.A (compareOp op v u) (EP X pins σ Q) X.xe s₂) X.xe s₁) X.xe s
theorem yE (b:Expr) {op:CmpOp} (h:op≠.In) (h2:op≠.NotIn):behindInMarks op b=false:=by
  have e1:(op==CmpOp.In)=false:=by cases op <;> first | rfl | exact absurd rfl h
  have e2:(op==CmpOp.NotIn)=false:=by cases op <;> first | rfl | exact absurd rfl h2
  cases b <;> simp [behindInMarks,e1,e2]
noncomputable def tB (t:TE):TT:=fun σ H Q=>t σ H fun x H1=>∃ c,x=.bl c/\Q c H1
theorem F7 {op:CmpOp} {t:TE} (h:PC X op a b t) (h1:behindInMarks op b=false:=by first | exact yE _ (by decide) (by decide) | rfl):PT X (.Compare a [op] [b] pos) (tB t):=by
  intro pins s σ H Q I hw;refine wpAny_isTrue_Compare1 (dm (h pins s σ H _ I hw) fun v s1 h1=>dm h1 fun u s2 h2=>dm h2 fun c s3 zq0=>?_) h1;obtain ⟨x,H1,I1,r1,q1⟩:=zq0;obtain ⟨d,rfl,q⟩:=q1;cases r1;exact wpAny_truthy_bool ⟨H1,I1,q⟩
theorem CV {e:Expr} {t:TE} (h:PE X e t) (he:∀ whole,isTrue e X.env whole=(do let v <- whole;standAt e.pos;holding [v] (truthy v)):=by intro _;rfl):PT X e (tB t):=by
  intro pins s σ H Q I hw;refine isTrue_plain (dm (h pins s σ H _ I hw) fun v s1 zq0=>?_) (he _);obtain ⟨x,H1,I1,r1,q1⟩:=zq0;obtain ⟨d,rfl,q⟩:=q1;cases r1;exact wpAny_truthy_bool ⟨H1,I1,q⟩
variable {tA tB':TT} {fG:List Expr}
noncomputable def Ge (t u:TT):TT:=fun σ H Q=>t σ H fun c H1=>if c=true then u σ H1 Q else Q false H1
noncomputable def GW (t u:TT):TT:=fun σ H Q=>t σ H fun c H1=>if c=true then Q true H1 else u σ H1 Q
noncomputable def Gm (t:TT):TT:=fun σ H Q=>t σ H fun c H1=>Q (!c) H1
theorem pw_and1 (ha:PT X a tA):PW X (.BoolOp .And [a] pos) tA:=by
  intro wh pins s σ H Q I h;refine isTrue_and (dm (ha pins s σ H Q I h) fun c s1 e=>?_);cases c with
  | true=>exact isTrue_and_nil e
  | false=>exact e
theorem pw_or1 (ha:PT X a tA):PW X (.BoolOp .Or [a] pos) tA:=by
  intro wh pins s σ H Q I h;refine isTrue_or (dm (ha pins s σ H Q I h) fun c s1 e=>?_);cases c with
  | false=>exact isTrue_or_nil e
  | true=>exact e
theorem pw_and (ha:PT X a tA) (hb:PW X (.BoolOp .And (b::fG) pos) tB'):PW X (.BoolOp .And (a::b::fG) pos) (Ge tA tB'):=by
  intro wh pins s σ H Q I h;refine isTrue_and (dm (ha pins s σ H _ I h) fun c s1 zq0=>?_);obtain ⟨H1,I1,q1⟩:=zq0;cases c with
  | true=>exact hb wh pins s1 σ H1 Q I1 q1
  | false=>exact ⟨H1,I1,q1⟩
theorem pw_or (ha:PT X a tA) (hb:PW X (.BoolOp .Or (b::fG) pos) tB'):PW X (.BoolOp .Or (a::b::fG) pos) (GW tA tB'):=by
  intro wh pins s σ H Q I h;refine isTrue_or (dm (ha pins s σ H _ I h) fun c s1 zq0=>?_);obtain ⟨H1,I1,q1⟩:=zq0;cases c with
  | true=>exact ⟨H1,I1,q1⟩
  | false=>exact hb wh pins s1 σ H1 Q I1 q1
theorem CU (ha:PT X a tA):PT X (.UnaryOp .Not a pos) (Gm tA):=by
  intro pins s σ H Q I h;refine isTrue_not (dm (ha pins s σ H (fun c H1=>Q (!c) H1) I h) fun c s1 z=>?_);obtain ⟨H1,I1,q1⟩:=z;exact ⟨H1,I1,q1⟩
noncomputable def EN (ta tb:TE):TE:=fun σ H Q=>ta σ H fun x H1=>∃ c,x=.bl c/\if c=true then tb σ H1 Q else Q (.bl false) H1
noncomputable def EW (ta:TE):TE:=fun σ H Q=>ta σ H fun x H1=>∃ c,x=.bl c/\Q (.bl (!c)) H1
theorem CJ {op} {t:TE} (h:PE X a t):PE X (.BoolOp op [a] pos) t:=fun pins s σ H Q I hw=>BoolOp_one (h pins s σ H Q I hw)
theorem CD (ha:PE X a ta) (hb:PE X (.BoolOp .And (b::fG) pos) tb):PE X (.BoolOp .And (a::b::fG) pos) (EN ta tb):=by
  intro pins s σ H Q I h;refine BoolOp_and (dm (ha pins s σ H _ I h) fun v s1 zq0=>?_);obtain ⟨x,H1,I1,r1,q1⟩:=zq0;obtain ⟨c,rfl,q1⟩:=q1;cases r1;refine wpAny_truthy_bool ?_;cases c with
  | true=>exact hb pins s1 σ H1 Q I1 q1
  | false=>exact ⟨.bl false,H1,I1,rfl,q1⟩
theorem CI (ha:PE X a ta):PE X (.UnaryOp .Not a pos) (EW ta):=by
  intro pins s σ H Q I h;refine UnaryOp_ (dm (ha pins s σ H _ I h) fun v s1 zq0=>?_);obtain ⟨x,H1,I1,r1,q1⟩:=zq0;obtain ⟨c,rfl,q1⟩:=q1;cases r1;exact not_of (wpAny_truthy_bool ⟨.bl (!c),H1,I1,rfl,q1⟩)
noncomputable def GV (t:TT) (ta tb:TE):TE:=fun σ H Q=>t σ H fun c H1=>if c=true then ta σ H1 Q else tb σ H1 Q
theorem yT {c:Expr} (hc:PT X c tA) (ha:PE X a ta) (hb:PE X b tb):PE X (.IfExp c a b pos) (GV tA ta tb):=by
  intro pins s σ H Q I h;refine wpAny_IfExp (dm (hc pins s σ H _ I h) fun d s1 zq0=>?_);obtain ⟨H1,I1,q1⟩:=zq0;cases d with
  | true=>exact ha pins s1 σ H1 Q I1 q1
  | false=>exact hb pins s1 σ H1 Q I1 q1
end
noncomputable def mY (K:PySem.W.Frag) (H:Hp) (a:Addr) (xs:List V):Prop :=
  Rd H a (.lst xs) \/
    ∃ (o:Obj) (its:Array Value) (n:Nat),K.lookup a=some o/\o.cls=.type "list" /\ o.dict=none/\o.data=.seq its n/\its.size<=sizeLine/\bA xs its.toList
noncomputable def iC (K:PySem.W.Frag) (H:Hp) (a:Addr) (xs:List V):Prop :=
  Rd H a (.tup xs) \/
    ∃ (o:Obj) (its:Array Value) (n:Nat),K.lookup a=some o/\o.cls=.type "tuple" /\ o.data=.seq its n/\its.size<=sizeLine/\bA xs its.toList
noncomputable def FI:Value->Option V
  | .none=>some .non
  | .bool b=>some (.bl b)
  | .int i _=>some (.int i)
  | .str x _=>some (.str x)
  | .bytes b _=>some (.byt b)
  | .float b _=>some (.flt b)
  | .ref a=>some (.ref a)
  | .type n=>some (.ty n)
  | _=>none
theorem bM.abs {x:V} {u:Value} (r:bM x u):FI u=some x:=by
  cases x with
  | non=>cases r;rfl
  | bl _=>cases r;rfl
  | int _=>obtain ⟨t,rfl⟩:=r;rfl
  | str _=>obtain ⟨t,rfl⟩:=r;rfl
  | byt _=>obtain ⟨t,rfl⟩:=r;rfl
  | flt _=>obtain ⟨t,rfl⟩:=r;rfl
  | ref _=>cases r;rfl
  | ty _=>cases r;rfl
theorem bM.inj {x y:V} {u:Value} (r:bM x u) (q:bM y u):x=y:=Option.some.inj (r.abs.symm.trans q.abs)
theorem bA.inj:∀ {xs ys:List V} {us:List Value},bA xs us->bA ys us->xs=ys
  | _,_,_,.nil,.nil=>rfl
  | _,_,_,.cons r t,.cons r' t'=>by rw [r.inj r',bA.inj t t']
section
variable {X:Cx} {pins:List (Addr×Obj)} {σ:St} {H:Hp} {s:Shared} {a:Addr} {xs ys:List V}
theorem mY.of {K:PySem.W.Frag} (h:H a=some (.lst xs)):mY K H a xs:=.inl (.inl h)
theorem iC.of {K:PySem.W.Frag} (h:H a=some (.tup xs)):iC K H a xs:=.inl (.inl h)
theorem aL.list (I:aL X pins σ H s) (h:mY X.K H a xs):∃ its:List Value,bA xs its/\PlainL s.heap a its.toArray/\xs.length<=sizeLine:=by
  rcases h with h | ⟨o,its,n,hk,hc,hd,hs,hz,r⟩
  · obtain ⟨z,its,n,r,e⟩:=h.ok I.hok;exact ⟨its,r,⟨_,n,e,rfl,rfl,rfl⟩,z⟩
  · refine ⟨its.toList,r,⟨o,n,I.kIn a o hk,hc,hd,by simpa using hs⟩,?_⟩;have e:=r.length;simp only [Array.length_toList] at e;omega
theorem aL.tuple (I:aL X pins σ H s) (h:iC X.K H a xs):∃ its:List Value,bA xs its/\IsTup s.heap a its.toArray/\xs.length<=sizeLine:=by
  rcases h with h | ⟨o,its,n,hk,hc,hs,hz,r⟩
  · obtain ⟨z,its,r,p⟩:=h.ok I.hok;exact ⟨its,r,p.is,z⟩
  · refine ⟨its.toList,r,⟨o,I.kIn a o hk,hc,n,by simpa using hs⟩,?_⟩;have e:=r.length;simp only [Array.length_toList] at e;omega
theorem aL.list_inj (I:aL X pins σ H s) (h:mY X.K H a xs) (h':mY X.K H a ys):xs=ys:=by
  obtain ⟨its,r,⟨o,n,e,_,_,d⟩,_⟩:=I.list h;obtain ⟨its',r',⟨o',n',e',_,_,d'⟩,_⟩:=I.list h';rw [e] at e';cases e';rw [d] at d';injection d' with d1 _
  have:its=its':=by simpa using congrArg Array.toList d1
  subst this;exact r.inj r'
theorem aL.tuple_inj (I:aL X pins σ H s) (h:iC X.K H a xs) (h':iC X.K H a ys):xs=ys:=by
  obtain ⟨its,r,⟨o,e,_,n,d⟩,_⟩:=I.tuple h;obtain ⟨its',r',⟨o',e',_,n',d'⟩,_⟩:=I.tuple h';rw [e] at e';cases e';rw [d] at d';injection d' with d1 _
  have:its=its':=by simpa using congrArg Array.toList d1
  subst this;exact r.inj r'
end
noncomputable abbrev Cx.wish (X:Cx) (E:Value->Shared->Prop):Cx:={ X with xe:=E }
noncomputable abbrev Cx.nox (X:Cx):Cx:=X.wish fun _ _=>False
theorem Cx.Ok.wish {X:Cx} (ok:X.Ok) (E:Value->Shared->Prop):(X.wish E).Ok :=
  ⟨ok.mod,ok.kind,ok.glob,ok.blt,ok.above,ok.inj,ok.has,ok.cab,ok.hd,ok.frames,ok.stk,ok.exf,ok.bs,ok.bsz,ok.noex,ok.exfs,ok.funs,ok.frf⟩
theorem Cx.Ok.unwish {X:Cx} {E:Value->Shared->Prop} (ok:(X.wish E).Ok):X.Ok :=
  ⟨ok.mod,ok.kind,ok.glob,ok.blt,ok.above,ok.inj,ok.has,ok.cab,ok.hd,ok.frames,ok.stk,ok.exf,ok.bs,ok.bsz,ok.noex,ok.exfs,ok.funs,ok.frf⟩
section
variable {X:Cx} {pins:List (Addr×Obj)} {σ:St} {H:Hp} {s:Shared} {E:Value->Shared->Prop}
theorem aL.wish (I:aL X pins σ H s) (E:Value->Shared->Prop):aL (X.wish E) pins σ H s:=⟨I.ok.wish E,I.os,I.bare,I.base,I.loc,I.cell,I.free,I.freeC,I.pin,I.hok,I.len⟩
theorem aL.unwish (I:aL (X.wish E) pins σ H s):aL X pins σ H s:=⟨I.ok.unwish,I.os,I.bare,I.base,I.loc,I.cell,I.free,I.freeC,I.pin,I.hok,I.len⟩
theorem SP.unwish {D:rC} {f:Flow} {s':Shared} (h:SP (X.wish E) pins D f s'):SP X pins D f s':=by
  cases f with
  | next=>obtain ⟨σ',H',I,q⟩:=h;exact ⟨σ',H',I.unwish,q⟩
  | brk=>obtain ⟨σ',H',I,q⟩:=h;exact ⟨σ',H',I.unwish,q⟩
  | cont=>obtain ⟨σ',H',I,q⟩:=h;exact ⟨σ',H',I.unwish,q⟩
  | ret u=>obtain ⟨v,σ',H',I,r,q⟩:=h;exact ⟨v,σ',H',I.unwish,r,q⟩
theorem PE.nox {e:Expr} {t:TE} (h:PE X.nox e t):PE X e t:=fun pins s σ H Q I hw =>
  wpAny_mono (h pins s σ H Q (I.wish _) hw) (fun _ _ ⟨v,H',I',r,q⟩=>⟨v,H',I'.unwish,r,q⟩) fun _ _ z=>False.elim z
theorem PT.nox {e:Expr} {t:TT} (h:PT X.nox e t):PT X e t:=fun pins s σ H Q I hw =>
  wpAny_mono (h pins s σ H Q (I.wish _) hw) (fun _ _ ⟨H',I',q⟩=>⟨H',I'.unwish,q⟩) fun _ _ z=>False.elim z
theorem qe.nox {st:List Stmt} {t:TS} (h:qe X.nox st t):qe X st t:=fun pins s σ H D I hw =>
  wpAny_mono (h pins s σ H D (I.wish _) hw) (fun _ _ q=>q.unwish) fun _ _ z=>False.elim z
end
section
variable {X:Cx} {st:Stmt} {fG:List Stmt} {t u:TS} {e:Expr} {te:TE} {pos:Pos}
noncomputable def EV:TS:=fun D σ H=>D.nx σ H
noncomputable def Gp (t u:TS):TS:=fun D σ H=>t { D with nx:=u D } σ H
theorem A0:qe X [] EV:=fun _ _ σ H _ I h=>wpAny_execs_nil ⟨σ,H,I,h⟩
theorem oa (h1:PS X st t) (h2:qe X fG u):qe X (st::fG) (Gp t u):=by
  intro pins s σ H D I h;refine wpAny_execs_cons (dm (h1 pins s σ H { D with nx:=u D } I h) fun f s1 q=>?_);cases f with
  | next =>
    obtain ⟨σ',H',I',q⟩:=q;exact h2 pins s1 σ' H' D I' q
  | ret v=>exact q
  | brk=>exact q
  | cont=>exact q
theorem vZ (h1:PS X st t):qe X [st] t:=by
  intro pins s σ H D I h;refine wpAny_execs_cons (dm (h1 pins s σ H D I h) fun f s1 q=>?_);cases f with
  | next=>exact wpAny_execs_nil q
  | ret v=>exact q
  | brk=>exact q
  | cont=>exact q
theorem aL.quiet {pins:List (Addr×Obj)} {σ:St} {H:Hp} {s:Shared} (I:aL X pins σ H s):interactive X.env=false:=by simp [interactive,I.ok.kind]
noncomputable def ES (te:TE):TS:=fun D σ H=>te σ H fun _ H1=>D.nx σ H1
theorem vY (he:PE X e te) (hs:swapsWith e none pos.line X.env=pure false:=by rfl):PS X (.Expr e pos) (ES te):=by
  intro pins s σ H D I h;exact wpAny_Expr_any (dm (he pins s σ H _ I h) fun v s1 ⟨x,H1,I1,r1,q1⟩=>⟨σ,H1,I1,q1⟩) I.quiet hs
noncomputable def Gn (te:TE):TS:=fun D σ H=>te σ H D.rt
theorem CT (he:PE X e te):PS X (.Return (some e) pos) (Gn te):=by
  intro pins s σ H D I h;exact wpAny_Return_some (dm (he pins s σ H _ I h) fun v s1 ⟨x,H1,I1,r1,q1⟩=>⟨x,σ,H1,I1,r1,q1⟩)
noncomputable def Gi (c:TT) (t u:TS):TS:=fun D σ H=>c σ H fun b H1=>if b=true then t D σ H1 else u D σ H1
theorem Et {c:Expr} {a b:List Stmt} {tc:TT} (hc:PT X c tc) (ha:qe X a t) (hb:qe X b u):PS X (.If c a b pos) (Gi tc t u):=by
  intro pins s σ H D I h;refine wpAny_If (dm (hc pins s σ H _ I h) fun d s1 zq0=>?_);obtain ⟨H1,I1,q1⟩:=zq0;cases d with
  | true=>exact ha pins s1 σ H1 D I1 q1
  | false=>exact hb pins s1 σ H1 D I1 q1
end
noncomputable abbrev TG:=V->St->Hp->(St->Hp->Prop)->Prop
noncomputable abbrev BT:=List V->St->Hp->(St->Hp->Prop)->Prop
noncomputable def PG (X:Cx) (target:Expr) (t:TG):Prop :=
  ∀ (pins:List (Addr×Obj)) (s:Shared) (σ:St) (H:Hp) (v:V) (u:Value) (Q:St->Hp->Prop),aL X pins σ H s->bM v u->t v σ H Q ->
    wpAny (model X.prog X.w) X.A (assign target X.env u) (fun _ s'=>∃ σ' H',aL X pins σ' H' s'/\Q σ' H') X.xe s
noncomputable def Fg (X:Cx) (ts:List Expr) (t:BT):Prop :=
  ∀ (pins:List (Addr×Obj)) (s:Shared) (σ:St) (H:Hp) (vs:List V) (us:List Value) (Q:St->Hp->Prop),aL X pins σ H s->bA vs us->t vs σ H Q ->
    wpAny (model X.prog X.w) X.A (assignInOrder ((assignEach ts X.env).map (·.2)) us) (fun _ s'=>∃ σ' H',aL X pins σ' H' s'/\Q σ' H') X.xe s
noncomputable abbrev BU:=V->V->V->Hp->(Hp->Prop)->Prop
noncomputable def DI (X:Cx) (t:BU):Prop :=
  ∀ (pins:List (Addr×Obj)) (s:Shared) (σ:St) (H:Hp) (o i v:V) (ov iv u:Value) (Q:Hp->Prop),aL X pins σ H s->bM o ov->bM i iv->bM v u->t o i v H Q ->
    wpAny (model X.prog X.w) X.A (setItem ov iv u) (fun _ s'=>∃ H',aL X pins σ H' s'/\Q H') X.xe s
noncomputable abbrev Fi:=V->V->Hp->VK->Prop
noncomputable def FH (X:Cx) (op:Operator) (t:Fi):Prop :=
  ∀ (pins:List (Addr×Obj)) (s:Shared) (σ:St) (H:Hp) (x y:V) (v u:Value) (Q:VK),aL X pins σ H s->bM x v->bM y u->t x y H Q ->
    wpAny (model X.prog X.w) X.A (inplaceOp op v u) (EP X pins σ Q) X.xe s
section
variable {X:Cx} {pos:Pos}
noncomputable def Bu (i:Nat):TG:=fun v σ H Q=>Q (σ.set i (some v)) H
theorem qZ {i:Nat} {x:Str} (hN:X.N.Nodup) (hi:X.N[i]?=some x) (hx:Bo X.env.scope x) (hf:X.fn x=true\/X.env.scope.names.lookup x=some .local:=by first | exact .inl rfl | exact .inr rfl | assumption):PG X (.Name x pos) (Bu i):=by
  intro pins s σ H v u Q I r h;exact wpAny_assign_Name (oC I hN hi hx r (fun s' I'=>⟨_,H,I',h⟩) hf)
noncomputable def FW:BT:=fun vs σ H Q=>vs=[]/\Q σ H
noncomputable def D5 (t:TG) (u:BT):BT:=fun vs σ H Q=>∃ v r,vs=v::r/\t v σ H fun σ' H'=>u r σ' H' Q
theorem AW:Fg X [] FW:=by
  intro pins s σ H vs us Q I r h;obtain ⟨e,h⟩:=h;subst e;cases r;exact assignInOrder_nil ⟨σ,H,I,h⟩
theorem sR {e:Expr} {es:List Expr} {t:TG} {u:BT} (h1:PG X e t) (h2:Fg X es u)
    (hs:(assignEach (e::es) X.env).map (·.2)=assign e X.env::(assignEach es X.env).map (·.2):=by rfl):Fg X (e::es) (D5 t u):=by
  intro pins s σ H vs us Q I r h;obtain ⟨v,vr,e1,h⟩:=h;subst e1;cases r with
  | cons r rr =>
    rw [hs];refine assignInOrder_cons (dm (h1 pins s σ H _ _ _ I r h) fun _ s1 zq0=>?_);obtain ⟨σ1,H1,I1,q1⟩:=zq0;exact h2 pins s1 σ1 H1 _ _ Q I1 rr q1
noncomputable def FY (K:PySem.W.Frag) (n:Nat) (t:BT):TG:=fun v σ H Q=>∃ a xs,v=.ref a/\iC K H a xs/\xs.length=n/\t xs σ H Q
theorem CN {es:List Expr} {k:Nat} {t:BT} {n:Nat} (hc:X.calm=true) (h:Fg X es t)
    (hn:(assignEach es X.env).length=n:=by rfl) (hst:(assignEach es X.env).findIdx? (·.1)=none:=by rfl):PG X (.Tuple es k pos) (FY X.K n t):=by
  intro pins s σ H v u Q I r hw;obtain ⟨a,xs,e1,hq,hl,hw⟩:=hw;subst e1;cases r;obtain ⟨its,rv,ht,hz⟩:=I.tuple hq;refine assign_Tuple_tuple (I.ok.hd hc) ht (by simp [hn,<- hl,rv.length]) hst fun h' hx=>?_
  have I1:aL X pins σ H { s with heap:=h' }:=I.kept (t':=s.toks) fun b o e=>hx b o (Nat.ne_of_lt (Heap.lt_size e)) e
  exact h pins _ σ H xs _ Q I1 (by simpa using rv) hw
noncomputable def FX (to ti:TE) (t:BU):TG:=fun v σ H Q=>to σ H fun o H1=>ti σ H1 fun i H2=>t o i v H2 fun H3=>Q σ H3
theorem CM {o i:Expr} {to ti:TE} {t:BU} (ho:PE X o to) (hi:PE X i ti) (hs:DI X t)
    (ha:∀ v,assign (.Subscript o i pos) X.env v=(do
      let ov <- holding [v] (eval o X.env)
      let iv <- holding [v,ov] (eval i X.env)
      standAt pos
      holding [v,ov,iv] (setItem ov iv v)
      release [v,ov,iv] []):=by intro _;rfl):PG X (.Subscript o i pos) (FX to ti t):=by
  intro pins s σ H v u Q I r h;rw [ha];refine wpAny_bind (wpAny_holding (dm (ho pins s σ H _ I h) fun ov s1 zq0=>?_));obtain ⟨x,H1,I1,r1,q1⟩:=zq0;refine wpAny_bind (wpAny_holding (dm (hi pins s1 σ H1 _ I1 q1) fun iv s2 zq0=>?_));obtain ⟨y,H2,I2,r2,q2⟩:=zq0;refine wpAny_bind (wpAny_standAt (wpAny_bind (wpAny_holding (dm (hs pins s2 σ H2 x y v ov iv u _ I2 r1 r2 r q2) fun _ s3 zq0=>?_))));obtain ⟨H3,I3,q3⟩:=zq0;exact wpAny_release ⟨σ,H3,I3,q3⟩
noncomputable def EO (te:TE) (g:TG):TS:=fun D σ H=>te σ H fun x H1=>g x σ H1 D.nx
theorem CP {tg e:Expr} {te:TE} {g:TG} (he:PE X e te) (hg:PG X tg g) (hs:swapsWithSole [tg] e pos.line X.env=pure false:=by rfl) (hw:swappedStores [tg] e X.env=pure none:=by rfl)
    (h1:(assignEach [tg] X.env).map (·.2)=[assign tg X.env]:=by rfl):PS X (.Assign [tg] e pos) (EO te g):=by
  intro pins s σ H D I h;refine wpAny_Assign_stores (dm (he pins s σ H _ I h) fun v s1 zq0=>?_) hs hw;obtain ⟨x,H1,I1,r1,q1⟩:=zq0;rw [h1];exact dm (hg pins s1 σ H1 x v _ I1 r1 q1) fun _ s2 q=>q
theorem yX {i:Nat} {x:Str} {e:Expr} {te:TE} {pos':Pos} (hN:X.N.Nodup) (hi:X.N[i]?=some x) (hx:Bo X.env.scope x) (he:PE X e te) (hs:swapsWith e (some (.Name x pos')) pos.line X.env=pure false:=by rfl) (hf:X.fn x=true\/X.env.scope.names.lookup x=some .local:=by first | exact .inl rfl | exact .inr rfl | assumption) :
    PS X (.Assign [.Name x pos'] e pos) (EO te (Bu i)):=by
  intro pins s σ H D I h;refine wpAny_Assign_Name (dm (he pins s σ H _ I h) fun v s1 zq0=>?_) hs;obtain ⟨y,H1,I1,r1,q1⟩:=zq0;exact oC I1 hN hi hx r1 (fun s2 I2=>⟨_,H1,I2,q1⟩) hf
noncomputable def Gf (i:Nat) (te:TE) (ti:Fi):TS:=fun D σ H=>∃ x,σ[i]?=some (some x)/\te σ H fun y H1=>ti x y H1 fun z H2=>D.nx (σ.set i (some z)) H2
theorem CQ {i:Nat} {x:Str} {e:Expr} {te:TE} {op:Operator} {ti:Fi} {pos':Pos} (hN:X.N.Nodup) (hi:X.N[i]?=some x) (hx:Bo X.env.scope x) (he:PE X e te) (ho:FH X op ti) (hf:X.fn x=true\/X.env.scope.names.lookup x=some .local:=by first | exact .inl rfl | exact .inr rfl | assumption) :
    PS X (.AugAssign (.Name x pos') op e pos) (Gf i te ti):=by
  intro pins s σ H D I h;obtain ⟨v,e1,h⟩:=h;obtain ⟨m,hn,hl⟩:=I.loc;have vis:BV X.env.scope x:=by rcases hx with k | k;exact .inl k;exact .inr (.inl k)
  obtain ⟨u,r,l⟩:=hl i x v hi e1 vis;refine wpAny_AugAssign_Name ?_;have go:wpAny (model X.prog X.w) X.A (eval e X.env) (fun w s₂=>wpAny (model X.prog X.w) X.A (inplaceOp op u w) (fun r s₃=>wpAny (model X.prog X.w) X.A (storeName X.env x r) (fun _=>SP X pins D .next) X.xe s₃) X.xe s₂) X.xe s:=by
    refine dm (he pins s σ H _ I h) fun w s1 zq0=>?_
    obtain ⟨y,H1,I1,r1,q1⟩:=zq0;refine dm (ho pins s1 σ H1 v y u w _ I1 r r1 q1) fun z s2 zq0=>?_
    obtain ⟨zv,H2,I2,r2,q2⟩:=zq0;exact oC I2 hN hi hx r2 (fun s3 I3=>⟨_,H2,I3,q2⟩) hf
  rcases l with ⟨hk,hm⟩ | ⟨hk,c,hc,hcell⟩
  · exact wpAny_loadName_local I.ok.kind hk hn hm go
  · rcases hk with hk | hk
    · exact wpAny_loadName_cell I.ok.kind hk hc hcell go
    · rcases hx with k | k
      · have:X.env.scope.names.lookup x=some .free:=hk;rw [k] at this;cases this
      · have:X.env.scope.names.lookup x=some .free:=hk;rw [k] at this;cases this
noncomputable def GC (f:Int->Int->Int):Fi:=fun x y H Q=>∃ i j,x=.int i/\y=.int j/\Q (.int (f i j)) H
theorem Cj:FH X .Add (GC fun i j=>i+j):=by
  intro pins s σ H x y v u Q I r1 r2 h;obtain ⟨i,j,e1,e2,q⟩:=h;subst e1;subst e2;obtain ⟨t,rfl⟩:=r1;obtain ⟨t',rfl⟩:=r2;exact iadd_int ⟨.int _,H,I.tok _,⟨_,rfl⟩,q⟩
end
section
variable {X:Cx} {pos:Pos}
noncomputable def Dr (c:TT) (tb:TS):TS:=fun D σ H=>∃ W:Nat->St->Hp->Prop,(∃ m,W m σ H)/\∀ m σ H,W m σ H ->
  c σ H fun b H1=>if b=true then ∃ N:St->Hp->Prop,(∀ σ' H',N σ' H'->∃ m',m' < m/\W m' σ' H')/\tb { D with nx:=N,ct:=N,bk:=D.nx } σ H1 else D.nx σ H1
theorem yY {c:Expr} {body:List Stmt} {tc:TT} {tb:TS} (hp:PassesOwn (model X.prog X.w) X.A X.env X.xe) (hc:PT X c tc) (hb:qe X body tb):PS X (.While c body [] pos) (Dr tc tb):=by
  intro pins s σ H D I h;obtain ⟨W,⟨m0,w0⟩,turn⟩:=h;refine wpAny_While (codeAny_whileLoop (fun n s'=>∃ σ' H',aL X pins σ' H' s'/\W n σ' H') ?_ m0 ⟨σ,H,I,w0⟩);rintro n s1 ⟨σ1,H1,I1,w1⟩;refine wpAny_passesOwn hp (dm (hc pins s1 σ1 H1 _ I1 (turn n σ1 H1 w1)) fun b s2 zq0=>?_);obtain ⟨H2,I2,q2⟩:=zq0;cases b with
  | true =>
    obtain ⟨N,hN,q2⟩:=q2;rw [if_pos rfl];refine wpAny_passesOwn hp (dm (hb pins s2 σ1 H2 _ I2 q2) fun f s3 q3=>?_);cases f with
    | next =>
      obtain ⟨σ3,H3,I3,n3⟩:=q3;obtain ⟨m',hm,w3⟩:=hN σ3 H3 n3;exact ⟨m',hm,σ3,H3,I3,w3⟩
    | cont =>
      obtain ⟨σ3,H3,I3,n3⟩:=q3;obtain ⟨m',hm,w3⟩:=hN σ3 H3 n3;exact ⟨m',hm,σ3,H3,I3,w3⟩
    | brk=>exact q3
    | ret v=>exact q3
  | false =>
    rw [if_neg Bool.false_ne_true];exact wpAny_execs_nil ⟨σ1,H2,I2,q2⟩
end
structure It where
  go:Nat->Hp->Prop
  yld:Nat->Hp->V->Hp->Prop
  stop:Nat->Hp->Prop
noncomputable def mn (X:Cx) (pins:List (Addr×Obj)) (H:Hp) (b:Addr):Prop :=
  H b=none/\b≠X.env.locals/\b∉X.fs/\(b∈X.ex\/X.s₀.heap.objs.size<=b)/\(∀ x c,X.env.cells.lookup x=some c->c≠b)/\∀ p∈X.pn++pins,p.1≠b
theorem aL.fpOk {X:Cx} {pins:List (Addr×Obj)} {σ:St} {H H':Hp} {s:Shared} {b:Addr} (I:aL X pins σ H s) (hb:s.heap.objs.size<=b) (hn:H' b=none):mn X pins H' b:=by
  refine ⟨hn,Nat.ne_of_gt (Nat.lt_of_lt_of_le I.lt hb),I.nofs hb,.inr (Nat.le_trans I.sz hb),fun x c e z=>?_,fun p hp z=>?_⟩
  · obtain ⟨v,q⟩:=I.cell x c e;exact absurd (Nat.lt_of_lt_of_le q.lt (by rw [z];exact hb)) (Nat.lt_irrefl _)
  · exact absurd (Nat.lt_of_lt_of_le (Heap.lt_size (I.pin p hp).1) (by rw [z];exact hb)) (Nat.lt_irrefl _)
structure rQ (P:Program) (w:World) (K:PySem.W.Frag) (tg:Expr) (J:It) (fp:List Addr) (it:Addr) (tn:Nat->Heap->Prop):Prop where
  mem:it∈fp
  obj:∀ i h,tn i h->∀ b∈fp,∃ o,h.get? b=some o/\∀ v,o.data≠.cell v
  keep:∀ i h h',tn i h->(∀ b∈fp,∀ o,h.get? b=some o->h'.get? b=some o)->tn i h'
  item:∀ (X:Cx),X.prog=P->X.w=w->X.K=K->X.calm=true->∀ (i:Nat) (pins:List (Addr×Obj)) (s:Shared) (σ:St) (H:Hp) (E:Value->Shared->Prop),aL X pins σ H s->(∀ b∈fp,mn X pins H b)->tn i s.heap->J.go i H ->
    wpAny (model P w) X.A (pyNext (.ref it)) (fun r s1=>∃ u,r=some u /\
      wpAny (model P w) X.A (letOwnedTupleGo tg (.ref it) u) (fun _ s2=>∃ x H',aL X pins σ H' s2/\bM x u/\J.yld i H x H'/\tn (i+1) s2.heap/\∀ b∈fp,H' b=none) E s1) E s
  done:∀ (X:Cx),X.prog=P->X.w=w->X.K=K->X.calm=true->∀ (i:Nat) (pins:List (Addr×Obj)) (s:Shared) (σ:St) (H:Hp) (E:Value->Shared->Prop),aL X pins σ H s->(∀ b∈fp,mn X pins H b)->tn i s.heap->J.stop i H ->
    wpAny (model P w) X.A (pyNext (.ref it)) (fun r s1=>r=none/\aL X pins σ H s1) E s
  self:∀ (A:Around) (i:Nat) (s:Shared) (Q:Value->Shared->Prop) (E:Value->Shared->Prop),tn i s.heap->Q (.ref it) s->wpAny (model P w) A (pyIter (.ref it)) Q E s
noncomputable abbrev TI:=St->Hp->(It->Hp->Prop)->Prop
noncomputable def Gz (X:Cx) (pins:List (Addr×Obj)) (σ:St) (tg:Expr) (R:It->Hp->Prop) (itv:Value) (s2:Shared):Prop :=
  ∃ (it:Addr) (fp:List Addr) (tn:Nat->Heap->Prop) (J:It) (H':Hp),itv=.ref it/\aL X pins σ H' s2/\rQ X.prog X.w X.K tg J fp it tn/\tn 0 s2.heap/\(∀ b∈fp,mn X pins H' b)/\R J H'
noncomputable def PI (X:Cx) (tg iter:Expr) (wi:TI):Prop :=
  ∀ (pins:List (Addr×Obj)) (s:Shared) (σ:St) (H:Hp) (R:It->Hp->Prop),aL X pins σ H s->wi σ H R ->
    wpAny (model X.prog X.w) X.A (eval iter X.env) (fun v s1=>wpAny (model X.prog X.w) X.A (pyIter v) (Gz X pins σ tg R) X.xe s1) X.xe s
theorem vC {M:Model} {A:Around} {E:Value->Shared->Prop} {s:Shared} {tg:Expr} {it:Addr} {u:Value} {o:Obj} {n:String} {vs:Array Value} {Q:Unit->Shared->Prop} (ho:s.heap.get? it=some o) (hc:o.cls=.type n) (hd:o.data=.fields vs)
    (hn:["enumerate","zip","dict_itemiterator","dict_reverseitemiterator","odict_iterator","itertools.zip_longest","itertools.pairwise"].contains n=false) (hQ:Q () s):wpAny M A (letOwnedTupleGo tg (.ref it) u) Q E s:=by
  unfold letOwnedTupleGo;cases tg <;> first
    | exact wpAny_pure hQ
    | (cases u <;> first
        | exact wpAny_pure hQ
        | (refine wpAny_bind (wpAny_load ho ?_)
           rw [hc,hd];show wpAny M A (if (["enumerate","zip","dict_itemiterator","dict_reverseitemiterator","odict_iterator","itertools.zip_longest","itertools.pairwise"].contains n&&vs[0]?==some (rawInt _))=true then _ else _) Q E s;rw [if_neg (by intro h;rw [hn,Bool.false_and] at h;cases h)];exact wpAny_pure hQ))
noncomputable def FE (K:PySem.W.Frag) (a:Addr):It :=
  ⟨fun i H=>∃ xs x,mY K H a xs/\xs[i]?=some x,fun i H x H'=>H'=H/\∀ xs,mY K H a xs->xs[i]?=some x,fun i H=>∃ xs,mY K H a xs/\xs.length<=i⟩
noncomputable def FF (K:PySem.W.Frag) (a:Addr):It :=
  ⟨fun i H=>∃ xs x,iC K H a xs/\xs[i]?=some x,fun i H x H'=>H'=H/\∀ xs,iC K H a xs->xs[i]?=some x,fun i H=>∃ xs,iC K H a xs/\xs.length<=i⟩
noncomputable def Fd (lo:Int) (n:Nat):It:=⟨fun i _=>i < n,fun i H x H'=>H'=H/\x=.int (lo+i),fun i _=>n<=i⟩
theorem xA {P:Program} {w:World} {K:PySem.W.Frag} {tg:Expr} (a it:Addr):rQ P w K tg (FE K a) [it] it (fun i h=>h.IsListIter it a i) where
  mem:=by simp
  obj:=fun i h st b hb=>by
    have e:b=it:=by simpa using hb
    subst e;obtain ⟨o,e,c,d⟩:=st;exact ⟨o,e,fun v z=>by rw [d] at z;cases z⟩
  keep:=fun i h h' st k=>st.at fun o e=>k it (by simp) o e
  item:=by
    intro X hP hw hK hc i pins s σ H E I hf st hg;subst hP hw hK;obtain ⟨xs,x,hq,hx⟩:=hg;obtain ⟨its,rv,p,hz⟩:=I.list hq;obtain ⟨u,hu,ru⟩:=rv.get hx;obtain ⟨f0,f1,f2,f3,f4,f5⟩:=hf it (by simp);refine wpAny_pyNext_list_item st p.isList (x:=u) (by simpa using hu) fun h' st' sb=>?_
    have I1:aL X pins σ H { s with heap:=h' }:=I.turned (t':=s.toks) (fun b o hb e=>(sb.2 b hb).trans e) f0 f1 f3 f4 f5;obtain ⟨o,e,c,d⟩:=id st';exact ⟨u,rfl,vC (s:={ s with heap:=h' }) e c d (by decide) ⟨x,H,I1,ru,⟨rfl,fun ys hy=>by rw [I.list_inj hy hq];exact hx⟩,st',fun b hb=>(hf b hb).1⟩⟩
  done:=by
    intro X hP hw hK hc i pins s σ H E I hf st hg;subst hP hw hK;obtain ⟨xs,hq,hx⟩:=hg;obtain ⟨its,rv,p,hz⟩:=I.list hq;obtain ⟨f0,f1,f2,f3,f4,f5⟩:=hf it (by simp);have hl:=rv.length;exact wpAny_pyNext_list_end (I.ok.hd hc) st p.isList (by simp;omega) fun h' eb=>⟨rfl,I.turned (t':=s.toks) (fun b o hb e=>eb b o hb e) f0 f1 f3 f4 f5⟩
  self:=fun _ _ _ _ _ st h=>wpAny_pyIter_listiter st h
theorem u6 {P:Program} {w:World} {K:PySem.W.Frag} {tg:Expr} (a it:Addr):rQ P w K tg (FF K a) [it] it (fun i h=>h.IsTupleIter it a i) where
  mem:=by simp
  obj:=fun i h st b hb=>by
    have e:b=it:=by simpa using hb
    subst e;obtain ⟨o,e,c,d⟩:=st;exact ⟨o,e,fun v z=>by rw [d] at z;cases z⟩
  keep:=fun i h h' st k=>st.at fun o e=>k it (by simp) o e
  item:=by
    intro X hP hw hK hc i pins s σ H E I hf st hg;subst hP hw hK;obtain ⟨xs,x,hq,hx⟩:=hg;obtain ⟨its,rv,p,hz⟩:=I.tuple hq;obtain ⟨u,hu,ru⟩:=rv.get hx;obtain ⟨f0,f1,f2,f3,f4,f5⟩:=hf it (by simp);refine wpAny_pyNext_tuple_item st (show s.heap.IsTuple a its.toArray from p) (x:=u) (by simpa using hu) fun h' st' sb=>?_
    have I1:aL X pins σ H { s with heap:=h' }:=I.turned (t':=s.toks) (fun b o hb e=>(sb.2 b hb).trans e) f0 f1 f3 f4 f5;obtain ⟨o,e,c,d⟩:=id st';exact ⟨u,rfl,vC (s:={ s with heap:=h' }) e c d (by decide) ⟨x,H,I1,ru,⟨rfl,fun ys hy=>by rw [I.tuple_inj hy hq];exact hx⟩,st',fun b hb=>(hf b hb).1⟩⟩
  done:=by
    intro X hP hw hK hc i pins s σ H E I hf st hg;subst hP hw hK;obtain ⟨xs,hq,hx⟩:=hg;obtain ⟨its,rv,p,hz⟩:=I.tuple hq;obtain ⟨f0,f1,f2,f3,f4,f5⟩:=hf it (by simp);have hl:=rv.length;exact wpAny_pyNext_tuple_end (I.ok.hd hc) st (show s.heap.IsTuple a its.toArray from p) (by simp;omega) fun h' eb=>⟨rfl,I.turned (t':=s.toks) (fun b o hb e=>eb b o hb e) f0 f1 f3 f4 f5⟩
  self:=fun _ _ _ _ _ st h=>wpAny_pyIter_tupleiter st h
theorem u5 {P:Program} {w:World} {K:PySem.W.Frag} {tg:Expr} (it:Addr) (lo:Int) (n:Nat):rQ P w K tg (Fd lo n) [it] it (fun i h=>IsRangeIter h it (lo+(i:Nat)*1) ((n:Int)-(i:Nat)) 1) where
  mem:=by simp
  obj:=fun i h st b hb=>by
    have e:b=it:=by simpa using hb
    subst e;exact ⟨_,st,fun v z=>by
      have z':Data.fields _=Data.cell v:=z;cases z'⟩
  keep:=fun i h h' st k=>k it (by simp) _ st
  item:=by
    intro X hP hw hK hc i pins s σ H E I hf st hg;subst hP hw hK;obtain ⟨f0,f1,f2,f3,f4,f5⟩:=hf it (by simp);have W:=Walks.range (prog:=X.prog) (w:=X.w) (I.ok.hd hc) it lo 1 n;refine W.item i s _ _ hg st fun v h' tk hv st' kk=>?_
    obtain ⟨t,rfl⟩:=hv;have I1:aL X pins σ H { s with heap:=h',toks:=tk }:=I.turned (fun b o hb e=>kk b o (by simpa using hb) e) f0 f1 f3 f4 f5;refine ⟨_,rfl,vC (s:={ s with heap:=h',toks:=tk }) (n := "range_iterator") st' rfl rfl (by decide) ⟨.int (lo+i),H,I1,⟨t,?_⟩,⟨rfl,rfl⟩,st',fun b hb=>(hf b hb).1⟩⟩;rw [Int.mul_one]
  done:=by
    intro X hP hw hK hc i pins s σ H E I hf st hg;subst hP hw hK;obtain ⟨f0,f1,f2,f3,f4,f5⟩:=hf it (by simp);exact wpAny_pyNext_range_end (I.ok.hd hc) st (by have:n<=i:=hg;omega) fun h' eb=>⟨rfl,I.turned (t':=s.toks) (fun b o hb e=>eb b o hb e) f0 f1 f3 f4 f5⟩
  self:=fun _ _ _ _ _ st h=>wpAny_pyIter_rangeiter st h
section
variable {X:Cx} {tg:Expr}
theorem zb {pins:List (Addr×Obj)} {σ:St} {H:Hp} {s:Shared} {R:It->Hp->Prop} {E:Value->Shared->Prop} {lo hi:Int} {t u v:Tok} {tk:Nat} (I:aL X pins σ H s) (h1:-(2 ^ 62)<=lo) (h2:lo < 2 ^ 62) (h3:-(2 ^ 62)<=hi) (h4:hi < 2 ^ 62)
    (q:R (Fd lo (hi-lo).toNat) H):wpAny (model X.prog X.w) X.A (pyIter (.ref s.heap.objs.size)) (Gz X pins σ tg R) E { s with heap:=s.heap.push { cls:=.type "range",data:=.fields #[.int lo t,.int hi u,.int 1 v] },toks:=tk }:=by
  refine wpAny_pyIter_range (IsRange.new ..) (small_one h1 h2 h3 h4) ?_;have I1:aL X pins σ H { s with heap:=s.heap.push { cls:=.type "range",data:=.fields #[.int lo t,.int hi u,.int 1 v] },toks:=tk }:=I.kept fun b o e=>Heap.get?_push_of_some _ e
  refine ⟨(s.heap.push { cls:=.type "range",data:=.fields #[.int lo t,.int hi u,.int 1 v] }).objs.size,[(s.heap.push { cls:=.type "range",data:=.fields #[.int lo t,.int hi u,.int 1 v] }).objs.size],_,_,H,rfl,
    I1.kept (t':=tk) fun b o e=>Heap.get?_push_of_some _ e,u5 _ lo (hi-lo).toNat,?_,fun b hb=>?_,q⟩
  · have e1:lo+((0:Nat):Int)*1=lo:=by simp
    have e2:(((hi-lo).toNat:Nat):Int)-((0:Nat):Int)=Builtin.Range.rangeSize lo hi 1:=by rw [rangeSize_one];split <;> omega
    show IsRangeIter _ _ (lo+((0:Nat):Int)*1) ((((hi-lo).toNat:Nat):Int)-((0:Nat):Int)) 1;rw [e1,e2];exact Heap.get?_push_size _ rfl
  · have e:b=(s.heap.push { cls:=.type "range",data:=.fields #[.int lo t,.int hi u,.int 1 v] }).objs.size:=by simpa using hb
    subst e;exact I1.fpOk (Nat.le_refl _) (I1.hok.fresh (Nat.le_refl _))
noncomputable def Eb (ta:TA):TI:=fun σ H R=>ta σ H fun vs H1=>∃ j:Int,vs=[.int j]/\-(2 ^ 62)<=j/\j < 2 ^ 62/\R (Fd 0 j.toNat) H1
theorem xk {a:Expr} {ta:TA} {p pos:Pos} (hg:Gl X "range") (hm:X.mg "range" = none) (ha:PA X [a] ta) (hs:starEach [a] X.env=[(false,eval a X.env)]:=by rfl):PI X tg (.Call (.Name "range" p) [a] [] pos) (Eb ta):=by
  intro pins s σ H R I h;refine Call_ (iN I hg hm boot_range (PyProof.Rows.callWith_type1 (dm (ha pos pins s σ H _ I h) fun us s1 zq0=>?_) hs rfl));obtain ⟨vs,H1,I1,r1,q1⟩:=zq0;obtain ⟨j,e,q1,q2,q⟩:=q1;subst e;cases r1 with
  | cons r rr =>
    cases rr;obtain ⟨t,rfl⟩:=r;exact call_range_1 (zb I1 (by omega) (by omega) q1 q2 (by simpa using q))
noncomputable def Gh (wi:TI) (g:TG) (tb:TS):TS:=fun D σ H=>wi σ H fun J H1=>∃ W:Nat->Nat->St->Hp->Prop,(∃ m,W 0 m σ H1)/\∀ i m σ H,W i m σ H ->
  (J.stop i H/\D.nx σ H)\/(J.go i H/\∃ N:St->Hp->Prop,(∀ σ' H',N σ' H'->∃ m',m' < m/\W (i+1) m' σ' H')/\∀ x H',J.yld i H x H'->g x σ H' fun σ2 H2=>tb { D with nx:=N,ct:=N,bk:=D.nx } σ2 H2)
noncomputable def n9 (fp:List Addr) (h:Heap):List (Addr×Obj):=fp.filterMap fun b=>(h.get? b).map fun o=>(b,o)
theorem iQ {fp:List Addr} {h:Heap} {b:Addr} {o:Obj} (hb:b∈fp) (e:h.get? b=some o):(b,o)∈n9 fp h:=List.mem_filterMap.mpr ⟨b,hb,by rw [e];rfl⟩
theorem xg {fp:List Addr} {h:Heap} {p:Addr×Obj} (hp:p∈n9 fp h):p.1∈fp/\h.get? p.1=some p.2:=by
  obtain ⟨b,hb,e⟩:=List.mem_filterMap.mp hp;cases q:h.get? b with
  | none=>rw [q] at e;cases e
  | some o =>
    rw [q] at e;have e':(b,o)=p:=Option.some.inj e;subst e';exact ⟨hb,q⟩
theorem aL.pinned {pins:List (Addr×Obj)} {σ:St} {H:Hp} {s:Shared} {fp:List Addr} (I:aL X pins σ H s) (hf:∀ b∈fp,mn X pins H b) (ho:∀ b∈fp,∃ o,s.heap.get? b=some o/\∀ v,o.data≠.cell v):aL X (pins++n9 fp s.heap) σ H s :=
  I.pins_of fun p hp=>(List.mem_append.mp hp).elim (fun z=>I.pin p (List.mem_append_right _ z)) fun z=>by
    obtain ⟨hb,e⟩:=xg z;obtain ⟨f0,f1,f2,_⟩:=hf p.1 hb;obtain ⟨o,e',d⟩:=ho p.1 hb;rw [e] at e';cases e';exact ⟨e,f0,f1,f2,d⟩
theorem aL.unpinned {pins pl:List (Addr×Obj)} {σ:St} {H:Hp} {s:Shared} (I:aL X (pins++pl) σ H s):aL X pins σ H s:=I.pins_of fun p hp=>I.pin p (List.mem_append_right _ (List.mem_append_left _ hp))
theorem CS {iter:Expr} {body:List Stmt} {wi:TI} {g:TG} {tb:TS} {pos:Pos} (hp:PassesOwn (model X.prog X.w) X.A X.env X.xe) (hc:X.calm=true) (hi:PI X tg iter wi) (hg:PG X tg g) (hb:qe X body tb)
    (hs:∀ x,foldedSetIterable iter X.env x=pure x:=by intro _;rfl):PS X (.For tg iter body [] pos) (Gh wi g tb):=by
  intro pins s σ H D I h;refine wpAny_For (dm (hi pins s σ H _ I h) fun v s1 h1=>dm h1 fun itv s2 h2=>?_) hs;obtain ⟨it,fp,tn,J,H2,e,I2,T,st2,f2,W,⟨m0,w0⟩,turn⟩:=h2;subst e
  -- what stays true of the iterator's objects through the loop
  have stat:∀ {H':Hp},(∀ b∈fp,H' b=none)->∀ b∈fp,mn X pins H' b:=fun hn b hb=>⟨hn b hb,(f2 b hb).2⟩
  refine codeAny_forLoop_any (fun n s'=>∃ i σ' H',aL X pins σ' H' s'/\tn i s'.heap/\(∀ b∈fp,H' b=none)/\W i n σ' H') ?_ m0 ⟨0,σ,H2,I2,st2,fun b hb=>(f2 b hb).1,w0⟩;rintro n s3 ⟨i,σ3,H3,I3,st3,fr3,w3⟩;rcases turn i n σ3 H3 w3 with ⟨stop,qn⟩ | ⟨go,N,hN,step⟩
  · refine wpAny_passesOwn hp (dm (T.done X rfl rfl rfl hc i pins s3 σ3 H3 X.xe I3 (stat fr3) st3 stop) fun r s4 zq0=>?_);obtain ⟨hr,I4⟩:=zq0;subst hr;exact wpAny_execs_nil ⟨σ3,H3,I4,qn⟩
  · refine wpAny_passesOwn hp (dm (T.item X rfl rfl rfl hc i pins s3 σ3 H3 X.xe I3 (stat fr3) st3 go) fun r s4 zq0=>?_);obtain ⟨u,hr,h4⟩:=zq0;subst hr;refine wpAny_passesOwn hp (dm h4 fun _ s5 zq0=>?_);obtain ⟨x,H5,I5,r5,y5,st5,fr5⟩:=zq0;have I5':=I5.pinned (stat fr5) (T.obj _ _ st5);refine wpAny_passesOwn hp (dm (hg _ s5 σ3 H5 x u _ I5' r5 (step x H5 y5)) fun _ s6 zq0=>?_);obtain ⟨σ6,H6,I6,q6⟩:=zq0;refine wpAny_passesOwn hp (dm (hb _ s6 σ6 H6 _ I6 q6) fun f s7 q7=>?_);have again:∀ {σ7:St} {H7:Hp},aL X (pins++n9 fp s5.heap) σ7 H7 s7->N σ7 H7->∃ m,m < n/\∃ i σ' H',aL X pins σ' H' s7/\tn i s7.heap/\(∀ b∈fp,H' b=none)/\W i m σ' H':=fun {σ7 H7} I7 n7=>by
      obtain ⟨m',hm,w7⟩:=hN σ7 H7 n7;refine ⟨m',hm,i+1,σ7,H7,I7.unpinned,T.keep _ _ _ st5 fun b hb o e=>(I7.pin (b,o) (List.mem_append_right _ (List.mem_append_right _ (iQ hb e)))).1,fun b hb=>?_,w7⟩;obtain ⟨o,e,d⟩:=T.obj _ _ st5 b hb;exact (I7.pin (b,o) (List.mem_append_right _ (List.mem_append_right _ (iQ hb e)))).2.1
    cases f with
    | next=>obtain ⟨σ7,H7,I7,n7⟩:=q7;exact again I7 n7
    | cont=>obtain ⟨σ7,H7,I7,n7⟩:=q7;exact again I7 n7
    | brk=>obtain ⟨σ7,H7,I7,q7⟩:=q7;exact ⟨σ7,H7,I7.unpinned,q7⟩
    | ret v=>obtain ⟨x7,σ7,H7,I7,r7,q7⟩:=q7;exact ⟨x7,σ7,H7,I7.unpinned,r7,q7⟩
end
noncomputable abbrev R2:=V->V->Hp->VK->Prop
noncomputable def i8 (X:Cx) (f:Value->Value->Sem Value) (r:R2):Prop :=
  ∀ (pins:List (Addr×Obj)) (s:Shared) (σ:St) (H:Hp) (x y:V) (v u:Value) (Q:VK),aL X pins σ H s->bM x v->bM y u->r x y H Q ->
    wpAny (model X.prog X.w) X.A (f v u) (EP X pins σ Q) X.xe s
noncomputable def eJ (X:Cx) (f:Value) (r:List V->Hp->VK->Prop):Prop :=
  ∀ (pins:List (Addr×Obj)) (s:Shared) (σ:St) (H:Hp) (xs:List V) (us:List Value) (Q:VK),aL X pins σ H s->bA xs us->r xs H Q ->
    wpAny (model X.prog X.w) X.A (call f us) (EP X pins σ Q) X.xe s
noncomputable def EY (r:R2) (ta tb:TE):TE:=fun σ H Q=>ta σ H fun x H1=>tb σ H1 fun y H2=>r x y H2 Q
noncomputable def rI (C:Int->Int->Prop) (g:Int->Int->V):R2:=fun x y H Q=>∃ i j,x=.int i/\y=.int j/\C i j/\Q (g i j) H
noncomputable def zQ (g:Int->Int->V):R2:=fun x y H Q=>∃ i j,x=.int i/\y=.int j/\Q (g i j) H
section
variable {X:Cx} {a b c:Expr} {ta tb tc:TE} {pos:Pos}
theorem B0 (ha:PE X a ta) (hb:PE X b tb) {pins:List (Addr×Obj)} {s:Shared} {σ:St} {H:Hp} {R:V->V->Hp->Prop} (I:aL X pins σ H s)
    (h:ta σ H fun x H1=>tb σ H1 fun y H2=>R x y H2) {Q:Value->Shared->Prop} {f:Value->Value->Sem Value}
    (hf:∀ v u s2 x y H2,aL X pins σ H2 s2->bM x v->bM y u->R x y H2->wpAny (model X.prog X.w) X.A (f v u) Q X.xe s2) :
    wpAny (model X.prog X.w) X.A (eval a X.env) (fun v s₁=>wpAny (model X.prog X.w) X.A (eval b X.env) (fun u s₂=>wpAny (model X.prog X.w) X.A (f v u) Q X.xe s₂) X.xe s₁) X.xe s:=by
  refine dm (ha pins s σ H _ I h) fun v s1 zq0=>?_
  obtain ⟨x,H1,I1,r1,q1⟩:=zq0;refine dm (hb pins s1 σ H1 _ I1 q1) fun u s2 zq0=>?_
  obtain ⟨y,H2,I2,r2,q2⟩:=zq0;exact hf v u s2 x y H2 I2 r1 r2 q2
theorem Er {op:Operator} {r:R2} (ho:i8 X (binaryOp op) r) (ha:PE X a ta) (hb:PE X b tb):PE X (.BinOp a op b pos) (EY r ta tb):=by
  intro pins s σ H Q I h;exact wpAny_BinOp (B0 ha hb I h fun v u s2 x y H2 I2 rx ry q=>ho pins s2 σ H2 x y v u Q I2 rx ry q)
theorem F5 {f:Value->Value->Sem Value} {C:Int->Int->Prop} {g:Int->Int->Int}
    (rule:∀ (i j:Int) (t u:Tok) (s:Shared) (Q:Value->Shared->Prop) (E:Value->Shared->Prop),C i j->Q (.int (g i j) s.toks) { s with toks:=s.toks+1 }->wpAny (model X.prog X.w) X.A (f (.int i t) (.int j u)) Q E s) :
    i8 X f (rI C fun i j=>.int (g i j)):=by
  intro pins s σ H x y v u Q I rx ry h;obtain ⟨i,j,rfl,rfl,hc,q⟩:=h;obtain ⟨t,rfl⟩:=rx;obtain ⟨t',rfl⟩:=ry;exact rule i j t t' s _ _ hc ⟨.int (g i j),H,I.tok _,⟨_,rfl⟩,q⟩
theorem El {f:Value->Value->Sem Value} {g:Int->Int->Int}
    (rule:∀ (i j:Int) (t u:Tok) (s:Shared) (Q:Value->Shared->Prop) (E:Value->Shared->Prop),Q (.int (g i j) s.toks) { s with toks:=s.toks+1 }->wpAny (model X.prog X.w) X.A (f (.int i t) (.int j u)) Q E s) :
    i8 X f (zQ fun i j=>.int (g i j)):=by
  intro pins s σ H x y v u Q I rx ry h;obtain ⟨i,j,rfl,rfl,q⟩:=h;obtain ⟨t,rfl⟩:=rx;obtain ⟨t',rfl⟩:=ry;exact rule i j t t' s _ _ ⟨.int (g i j),H,I.tok _,⟨_,rfl⟩,q⟩
theorem Ct {f:Value->Value->Sem Value} {g:Int->Int->Bool}
    (rule:∀ (i j:Int) (t u:Tok) (s:Shared) (Q:Value->Shared->Prop) (E:Value->Shared->Prop),Q (.bool (g i j)) s->wpAny (model X.prog X.w) X.A (f (.int i t) (.int j u)) Q E s) :
    i8 X f (zQ fun i j=>.bl (g i j)):=by
  intro pins s σ H x y v u Q I rx ry h;obtain ⟨i,j,rfl,rfl,q⟩:=h;obtain ⟨t,rfl⟩:=rx;obtain ⟨t',rfl⟩:=ry;exact rule i j t t' s _ _ ⟨.bl (g i j),H,I,rfl,q⟩
noncomputable def DB (i j:Int):Prop:=0 < j/\j < 1073741824
noncomputable def zR (i j:Int):Prop:=(-(2 ^ 64) < i/\i < 2 ^ 64)\/(-(2 ^ 64) < j/\j < 2 ^ 64)
theorem zR.ok {i j:Int} (h:zR i j):IntMulOk i j:=by
  rcases h with ⟨h1,h2⟩ | ⟨h1,h2⟩
  · exact .of_left (intBits_le_64 h1 h2)
  · exact .of_right (intBits_le_64 h1 h2)
theorem Cu:i8 X (binaryOp .Add) (zQ fun i j=>.int (i+j)):=El fun _ _ _ _ _ _ _ q=>add_int q
theorem CB:i8 X (binaryOp .Sub) (zQ fun i j=>.int (i-j)):=El fun _ _ _ _ _ _ _ q=>sub_int q
theorem Cz:i8 X (binaryOp .Mult) (rI zR fun i j=>.int (i*j)):=F5 fun _ _ _ _ _ _ _ hc q=>mul_int q hc.ok
theorem AM:i8 X (binaryOp .FloorDiv) (rI DB fun i j=>.int (i / j)):=F5 fun i j _ _ _ _ _ hc q=>by
  have h1:(0:Int) < j:=hc.1;have h2:j < 1073741824:=hc.2;exact floordiv_int (by omega) (by rw [Int.fdiv_eq_ediv_of_nonneg i (by omega)];exact q) (.inl (PyProof.noPylong_small (by omega)))
theorem Cy:i8 X (binaryOp .Mod) (rI (fun _ j=>0 < j) fun i j=>.int (i%j)):=F5 fun i j _ _ _ _ _ hc q=>by
  have h1:(0:Int) < j:=hc;exact mod_int' (by omega) (by rw [Int.fmod_eq_emod_of_nonneg i (by omega)];exact q)
end
section
variable {X:Cx} {a b c:Expr} {ta tb tc:TE} {pos:Pos}
theorem yj {pins:List (Addr×Obj)} {σ:St} {H:Hp} {s:Shared} {Q:VK} {k k':Bool} (I:aL X pins σ H s) (q:Q (.bl k) H) (e:k=k'):EP X pins σ Q (.bool k') s:=by
  subst e;exact ⟨.bl k,H,I,rfl,q⟩
theorem Em:i8 X (compareOp .Lt) (zQ fun i j=>.bl (decide (i < j))):=Ct fun _ _ _ _ _ _ _ q=>lt_int q
theorem vT:i8 X (compareOp .LtE) (zQ fun i j=>.bl (decide (i<=j))):=Ct fun _ _ _ _ _ _ _ q=>le_int q
theorem By:i8 X (compareOp .Gt) (zQ fun i j=>.bl (decide (j < i))):=Ct fun _ _ _ _ _ _ _ q=>gt_int q
theorem Cw:i8 X (compareOp .Is) (fun x y H Q=>y=.non/\Q (.bl (decide (x=.non))) H):=by
  intro pins s σ H x y v u Q I rx ry h;obtain ⟨rfl,q⟩:=h;cases ry;refine is_none_gen (yj I q ?_);cases x <;> first
    | (cases rx;rfl)
    | (obtain ⟨t,rfl⟩:=rx;rfl)
theorem AN:i8 X (compareOp .IsNot) (fun x y H Q=>y=.non/\Q (.bl (!decide (x=.non))) H):=by
  intro pins s σ H x y v u Q I rx ry h;obtain ⟨rfl,q⟩:=h;cases ry;refine isnot_none_gen (yj I q ?_);cases x <;> first
    | (cases rx;rfl)
    | (obtain ⟨t,rfl⟩:=rx;rfl)
theorem i8.or {f:Value->Value->Sem Value} {r r':R2} (h:i8 X f r) (h':i8 X f r'):i8 X f (fun x y H Q=>r x y H Q\/r' x y H Q):=by
  intro pins s σ H x y v u Q I rx ry q;rcases q with q | q
  · exact h pins s σ H x y v u Q I rx ry q
  · exact h' pins s σ H x y v u Q I rx ry q
theorem ju (b:Expr) {op:CmpOp} (h:op≠.In:=by decide) (h2:op≠.NotIn:=by decide):behindInMarks op b=false:=by
  have e1:(op==CmpOp.In)=false:=by cases op <;> first | rfl | exact absurd rfl h
  have e2:(op==CmpOp.NotIn)=false:=by cases op <;> first | rfl | exact absurd rfl h2
  cases b <;> simp [behindInMarks,e1,e2]
theorem AS {op:CmpOp} {r:R2} (ho:i8 X (compareOp op) r) (ha:PE X a ta) (hb:PE X b tb) (hm:behindInMarks op b=false):PE X (.Compare a [op] [b] pos) (EY r ta tb):=by
  intro pins s σ H Q I h;exact wpAny_Compare1 (B0 ha hb I h fun v u s2 x y H2 I2 rx ry q=>ho pins s2 σ H2 x y v u Q I2 rx ry q) hm
noncomputable def E0 (t:TE):TT:=fun σ H Q=>t σ H fun x H'=>∃ k,x=.bl k/\Q k H'
theorem A1 {op:CmpOp} {r:R2} (ho:i8 X (compareOp op) r) (ha:PE X a ta) (hb:PE X b tb) (hm:behindInMarks op b=false):PT X (.Compare a [op] [b] pos) (E0 (EY r ta tb)):=by
  intro pins s σ H Q I h;refine wpAny_isTrue_Compare1 (dm (ha pins s σ H _ I h) fun v s1 ⟨x,H1,I1,r1,q1⟩=>dm (hb pins s1 σ H1 _ I1 q1) fun u s2 ⟨y,H2,I2,r2,q2⟩ =>
    dm (ho pins s2 σ H2 x y v u _ I2 r1 r2 q2) fun c s3 ⟨z,H3,I3,r3,k,e,q3⟩=>?_) hm
  subst e;cases r3;exact wpAny_truthy_bool ⟨H3,I3,q3⟩
noncomputable def zr (r r':R2) (ta tb tc:TE):TE:=fun σ H Q=>ta σ H fun x H1=>tb σ H1 fun y H2=>r x y H2 fun z H3=>∃ k,z=.bl k /\
  (if k=true then tc σ H3 fun w' H4=>r' y w' H4 Q else Q (.bl false) H3)
theorem yR {op op':CmpOp} {r r':R2} (ho:i8 X (compareOp op) r) (ho':i8 X (compareOp op') r') (ha:PE X a ta) (hb:PE X b tb) (hc:PE X c tc)
    (hm:lastMarks [op,op'] [b,c]=false:=by with_unfolding_all rfl):PE X (.Compare a [op,op'] [b,c] pos) (zr r r' ta tb tc):=by
  intro pins s σ H Q I h;refine Compare_chain (dm (ha pins s σ H _ I h) fun v s1 ⟨x,H1,I1,r1,q1⟩=>chain_link (dm (hb pins s1 σ H1 _ I1 q1) fun u s2 ⟨y,H2,I2,r2,q2⟩ =>
    dm (ho pins s2 σ H2 x y v u _ I2 r1 r2 q2) fun d s3 ⟨z,H3,I3,r3,k,e,q3⟩=>?_)) hm
  subst e;cases r3;refine wpAny_truthy_bool ?_;cases k with
  | false=>exact ite_ff ⟨.bl false,H3,I3,rfl,q3⟩
  | true=>exact ite_tt (chain_last (dm (hc pins s3 σ H3 _ I3 q3) fun w' s4 ⟨z',H4,I4,r4,q4⟩=>ho' pins s4 σ H4 y z' u w' Q I4 r2 r4 q4))
theorem lM:(sizeLine:Nat) < 2 ^ 63:=by rw [sizeLine_eq];decide
theorem il {x:V} {us:List Value} (r:bA [x] us):∃ u,us=[u]/\bM x u:=by
  cases r with
  | cons r1 r2=>cases r2;exact ⟨_,rfl,r1⟩
theorem wm {x y:V} {us:List Value} (r:bA [x,y] us):∃ u w',us=[u,w']/\bM x u/\bM y w':=by
  cases r with
  | cons r1 r2 =>
    cases r2 with
    | cons r3 r4=>cases r4;exact ⟨_,_,rfl,r1,r3⟩
theorem wJ (hc:X.calm=true):eJ X (.builtin "max") (fun xs H Q=>∃ i j,xs=[.int i,.int j]/\Q (.int (if j > i then j else i)) H):=by
  intro pins s σ H xs us Q I r h;obtain ⟨i,j,rfl,q⟩:=h;obtain ⟨u,w',rfl,⟨t,rfl⟩,⟨t',rfl⟩⟩:=wm r;refine max_two_ints (I.ok.hd hc) fun h' tk k=>⟨_,H,I.kept k,?_,q⟩
  by_cases hj:j > i
  · rw [if_pos hj,if_pos hj];exact ⟨_,rfl⟩
  · rw [if_neg hj,if_neg hj];exact ⟨_,rfl⟩
theorem wK (hc:X.calm=true):eJ X (.builtin "min") (fun xs H Q=>∃ i j,xs=[.int i,.int j]/\Q (.int (if j < i then j else i)) H):=by
  intro pins s σ H xs us Q I r h;obtain ⟨i,j,rfl,q⟩:=h;obtain ⟨u,w',rfl,⟨t,rfl⟩,⟨t',rfl⟩⟩:=wm r;refine min_two_ints (I.ok.hd hc) fun h' tk k=>⟨_,H,I.kept k,?_,q⟩
  by_cases hj:j < i
  · rw [if_pos hj,if_pos hj];exact ⟨_,rfl⟩
  · rw [if_neg hj,if_neg hj];exact ⟨_,rfl⟩
theorem wH:eJ X (.type "int") (fun xs H Q=>(∃ i,xs=[.int i]/\Q (.int i) H)\/∃ k,xs=[.bl k]/\Q (.int (if k then 1 else 0)) H):=by
  intro pins s σ H xs us Q I r h;rcases h with ⟨i,rfl,q⟩ | ⟨k,rfl,q⟩
  · obtain ⟨u,rfl,t,rfl⟩:=il r;exact call_int_int ⟨.int i,H,I,⟨_,rfl⟩,q⟩
  · obtain ⟨u,rfl,r1⟩:=il r;cases r1;exact call_int_bool ⟨.int (if k then 1 else 0),H,I.tok _,⟨_,rfl⟩,q⟩
end
structure wv (h:Heap) (x dx C:Addr) (mA:Str->Option Value):Prop where
  obj:h.get? x=some (PySem.W.instObj C dx)
  ns:h.Ns1 dx mA
  ne:dx≠x
theorem xb {h:Heap} {dx:Addr} {mA:Str->Option Value} (n:h.Ns1 dx mA):∃ od,h.get? dx=some od/\∀ name,PySem.W.lookIn name od=some (mA name):=by
  obtain ⟨o,es,ep,ho,hd,hk,_,hm⟩:=n;refine ⟨o,ho,fun name=>?_⟩;have e:=hm name;unfold nsFind findBy at e;rw [<- Array.find?_toList] at e;unfold PySem.W.lookIn;rw [hd];dsimp only;split
  · rename_i y q;rw [q] at e;exact congrArg some e
  · rename_i q;rw [q] at e;have a:es.toList.any (·.refKey)=false:=by
      rw [List.any_eq_false];intro y hy;obtain ⟨z,t,hkey⟩:=hk y (Array.mem_toList_iff.mp hy);simp [DictEntry.refKey,hkey]
    have a':¬ es.toList.any (·.refKey)=true:=by rw [a];exact Bool.false_ne_true
    rw [if_neg a'];exact congrArg some e
theorem wv.look {h:Heap} {x dx C:Addr} {mA:Str->Option Value} (I:wv h x dx C mA):∃ od,PySem.W.InstAt h x (PySem.W.instObj C dx) C (some od)/\∀ name,PySem.W.lookIn name od=some (mA name) :=
  let ⟨od,ho,hl⟩:=xb I.ns
  ⟨od,⟨I.obj,rfl,rfl,ho⟩,hl⟩
section
variable {prog:Program} {w:World} {A:Around} {E:Value->Shared->Prop} {s:Shared} {K:PySem.W.Frag} {x dx C f:Addr} {mA:Str->Option Value} {name:Str} {v:Value}
theorem Au {expr:Bool} {Q:Value->Shared->Prop} (X:K.In s.heap) (I:wv s.heap x dx C mA) (hg:PySem.W.plainGet K C name=true) (hh:PySem.W.hasDictIn K C=true)
    (ha:PySem.W.findIn K (.ref C) name=some none) (hv:mA name=some v) (hv':PySem.W.handedIn v=true) (h:Q v { s with toks:=s.toks+1 }) :
    wpAny (model prog w) A (getAttr (.ref x) name expr) Q E s:=by
  obtain ⟨od,J,hl⟩:=I.look;exact PySem.W.get_value X J (PySem.W.plainGet_of hg).1 (PySem.W.findObj_own hh ha rfl (by rw [hl,hv])) hv' h
theorem Ba {ns:List Str} {Q:Unit->Shared->Prop} (X:K.In s.heap) (I:wv s.heap x dx C mA)
    (hs:PySem.W.findIn K (.ref C) "__setattr__" = some (some (.builtin "object.__setattr__"))) (hp:PySem.W.plainOver K C=true) (ht:PySem.W.takerIn K C name=some none) (hh:PySem.W.hasDictIn K C=true)
    (hw:PySem.Within mA ns) (hsz:ns.length<=sizeLine)
    (h:∀ h',wv h' x dx C (fun y=>if y=name then some v else mA y)->Heap.SameBut dx s.heap h'->Q () { s with heap:=h',toks:=s.toks+2 }) :
    wpAny (model prog w) A (setAttr (.ref x) name v) Q E s:=by
  obtain ⟨od,J,hl⟩:=I.look;refine PySem.W.set_plain X J hs (PySem.W.osa_open (s:={ s with toks:=s.toks+1 }) (r:=none) X J hp ht fun b=>?_);obtain ⟨cd,hc,hd'⟩:=PySem.W.any_some hh;have hx:s.heap.get? x=some ⟨.ref C,some dx,.plain,#[]⟩:=I.obj;refine wpAny_bind (wpAny_pure (wpAny_bind (wpAny_bind (wpAny_loadPart hx (wpAny_bind (PySem.W.Looks.here (s:={ s with toks:=s.toks+1 }) (PySem.W.looks_clsIn X hc) ?_))))));rw [hd'];refine wpAny_pure (a:=some dx) (wpAny_bind (wpAny_pure (wpAny_bind ?_)));refine wpAny_nsSet1 (s:={ s with toks:=s.toks+1 }) I.ns fun h' hn2 hs2=>?_
  obtain ⟨oD,esD,epD,hoD,hdD,hcD⟩:=hn2.count (PySem.Within.cons name v hw);refine wpAny_bind (wpAny_lookBehind hoD (by rw [hdD];exact pastItsLine_dict (Nat.le_trans hcD (by rw [List.length_cons];omega))) ?_);exact wpAny_pure (h _ ⟨(hs2.2 _ (Ne.symm I.ne)).trans I.obj,hn2,I.ne⟩ hs2)
theorem yC {R:Result->Shared->Prop} {vs:List Value} {kw:List (Str×Value)} (X:K.In s.heap) (hm:PySem.W.makesIn K C=true)
    (hi:PySem.W.findIn K (.ref C) "__init__" = some (some (.ref f))) (hf:PySem.W.typeIn K (.ref f)=some (.type "function"))
    (h:codeAny (model prog w) (A.under (.builtin "type.__call__" ⟨.ref C::vs,kw⟩)) (.call (.ref f) ⟨.ref (s.heap.objs.size+1)::vs,kw⟩) (PySem.W.InitBack (s.heap.objs.size+1) R)
      { s with heap:=(s.heap.push PySem.W.emptyDict).push (PySem.W.instObj C s.heap.objs.size) }) :
    codeAny (model prog w) A (.call (.ref C) ⟨vs,kw⟩) R s:=by
  obtain ⟨hh,g,d,t,os⟩:=s;exact PySem.W.make_core (PySem.W.makes_of X hm) (PySem.W.looks_findIn X hi) (fun self=>PySem.W.bind_fn X self hf) (.inl rfl) h
end
noncomputable def h9 (f:Str) (v:V):List (Str×V)->List (Str×V)
  | []=>[(f,v)]
  | (g,x)::r=>if g=f then (g,v)::r else (g,x)::h9 f v r
theorem l9 (f g:Str) (v:V):∀ fs:List (Str×V),(h9 f v fs).lookup g=if g=f then some v else fs.lookup g
  | []=>by
    show List.lookup g [(f,v)]=_;by_cases h:g=f
    · have hb:(g==f)=true:=beq_iff_eq.mpr h;simp only [List.lookup,hb,if_pos h]
    · have hb:(g==f)=false:=beq_eq_false_iff_ne.mpr h;simp only [List.lookup,hb,if_neg h]
  | (k,x)::r=>by
    have ih:=l9 f g v r;rw [show h9 f v ((k,x)::r)=(if k=f then (k,v)::r else (k,x)::h9 f v r) from rfl];by_cases hk:k=f
    · rw [if_pos hk];by_cases h:g=k
      · have hb:(g==k)=true:=beq_iff_eq.mpr h;simp only [List.lookup,hb,if_pos (h.trans hk)]
      · have hb:(g==k)=false:=beq_eq_false_iff_ne.mpr h;simp only [List.lookup,hb,if_neg (fun e:g=f=>h (e.trans hk.symm))]
    · rw [if_neg hk];by_cases h:g=k
      · have hb:(g==k)=true:=beq_iff_eq.mpr h;simp only [List.lookup,hb,if_neg (fun e:g=f=>hk (h.symm.trans e))]
      · have hb:(g==k)=false:=beq_eq_false_iff_ne.mpr h;simp only [List.lookup,hb];exact ih
theorem lL (f:Str) (v:V):∀ fs:List (Str×V),f∈(h9 f v fs).map (·.1)/\∀ g,g∈fs.map (·.1)->g∈(h9 f v fs).map (·.1)
  | []=>⟨by simp [h9],fun g h=>by simp at h⟩
  | (k,x)::r=>by
    obtain ⟨i1,i2⟩:=lL f v r;rw [show h9 f v ((k,x)::r)=(if k=f then (k,v)::r else (k,x)::h9 f v r) from rfl];by_cases hk:k=f
    · rw [if_pos hk];subst hk;exact ⟨by simp,fun g h=>by simpa using h⟩
    · rw [if_neg hk];refine ⟨?_,fun g h=>?_⟩
      · rw [List.map_cons];exact List.mem_cons_of_mem _ i1
      · rw [List.map_cons] at h ⊢;rcases List.mem_cons.mp h with e | e
        · exact List.mem_cons.mpr (.inl e)
        · exact List.mem_cons_of_mem _ (i2 g e)
theorem gA (f:Str) (v:V):∀ fs:List (Str×V),(h9 f v fs).length<=fs.length+1
  | []=>by simp [h9]
  | (k,x)::r=>by
    have ih:=gA f v r;rw [show h9 f v ((k,x)::r)=(if k=f then (k,v)::r else (k,x)::h9 f v r) from rfl];by_cases hk:k=f
    · rw [if_pos hk,List.length_cons,List.length_cons];omega
    · rw [if_neg hk,List.length_cons,List.length_cons];omega
theorem ki.some_of {v:V} {o:Option Value} (r:ki (some v) o):∃ u,o=some u/\bM v u:=by
  cases o with
  | none=>exact (show False from r).elim
  | some u=>exact ⟨u,rfl,r⟩
theorem wX {v:V} {u:Value} (r:bM v u):PySem.W.handedIn u=true:=by
  cases v with
  | non=>cases (show u=Value.none from r);rfl
  | bl b=>cases (show u=Value.bool b from r);rfl
  | int i=>obtain ⟨t,e⟩:=(show ∃ t,u=Value.int i t from r);cases e;rfl
  | str x=>obtain ⟨t,e⟩:=(show ∃ t,u=Value.str x t from r);cases e;rfl
  | byt b=>obtain ⟨t,e⟩:=(show ∃ t,u=Value.bytes b t from r);cases e;rfl
  | flt b=>obtain ⟨t,e⟩:=(show ∃ t,u=Value.float b t from r);cases e;rfl
  | ref a=>cases (show u=Value.ref a from r);rfl
  | ty n=>cases (show u=Value.type n from r);rfl
section
variable {P:Program} {w:World} {H H':Hp} {h h':Heap} {a C dx:Addr} {fs fs':List (Str×V)}
theorem vH (hok:gX P w H h) (e:H a=some (.ins C dx fs)):∃ mA,wv h a dx C mA/\(∀ f,ki (fs.lookup f) (mA f))/\PySem.Within mA (fs.map (·.1))/\fs.length<=1000/\H dx=some (.own a):=by
  obtain ⟨d,z,ne,ob,mA,n,r,q⟩:=(show bV P w H h a (.ins C dx fs) from hok a _ e)
  exact ⟨mA,⟨ob,n,ne⟩,r,q,z,d⟩
end
structure xE (K:PySem.W.Frag) (C:Addr):Prop where
  pg:PySem.W.plainGet K C Str.empty=true
  hd:PySem.W.hasDictIn K C=true
  po:PySem.W.plainOver K C=true
  sa:PySem.W.findIn K (.ref C) "__setattr__" = some (some (.builtin "object.__setattr__"))
theorem xE.get {K:PySem.W.Frag} {C:Addr} (c:xE K C) (f:Str):PySem.W.plainGet K C f=true:=c.pg
noncomputable def eE (K:PySem.W.Frag) (C:Addr) (f:Str):Prop:=PySem.W.findIn K (.ref C) f=some none
theorem eE.taker {K:PySem.W.Frag} {C:Addr} {f:Str} (n:eE K C f):PySem.W.takerIn K C f=some none:=by
  unfold PySem.W.takerIn;rw [show PySem.W.findIn K (.ref C) f=some none from n];rfl
structure kb (K:PySem.W.Frag) (C:Addr) (f:Str) (v:V) (u:Value):Prop where
  at_:PySem.W.findIn K (.ref C) f=some (some u)
  rel:bM v u
  get:PySem.W.specialIn K u "__get__" = some none
  cp:PySem.W.copiedNames.contains f=false
section
variable {X:Cx} {pins:List (Addr×Obj)} {σ:St} {H:Hp} {s:Shared} {a C dx:Addr} {fs:List (Str×V)} {f:Str} {v:V} {A:Around} {E:Value->Shared->Prop}
theorem uU {y:V} {u:Value} {Q:Unit->Shared->Prop} (I:aL X pins σ H s) (e:H a=some (.ins C dx fs)) (c:xE X.K C) (n:eE X.K C f) (hl:fs.length < 1000) (ry:bM y u)
    (h:∀ s',aL X pins σ (cP H a (.ins C dx (h9 f y fs))) s'->Q () s'):wpAny (model X.prog X.w) A (setAttr (.ref a) f u) Q E s:=by
  obtain ⟨mA,O,r,wi,_,ho⟩:=vH I.hok e;have hz:(fs.map (·.1)).length<=sizeLine:=by rw [List.length_map,sizeLine_eq];omega
  refine Ba I.kIn O c.sa c.po n.taker c.hd wi hz fun h' O' sb=>h _ ?_
  have hd:∃ o,h'.get? dx=some o:=let ⟨o,_,_,e',_⟩:=O'.ns;⟨o,e'⟩
  refine I.write (x:=a) (e:=dx) (by rw [e];exact True.intro) (.inr ho) (fun b q hb z=>(sb.2 b hb).trans z) hd ?_;refine ⟨by rw [av O.ne];exact ho,?_,O.ne,O'.obj,_,O'.ns,fun g=>?_,fun g hg=>?_⟩
  · have:=gA f y fs;omega
  · show ki ((h9 f y fs).lookup g) (if g=f then some u else mA g);rw [l9];by_cases q:g=f
    · rw [if_pos q,if_pos q];exact ry
    · rw [if_neg q,if_neg q];exact r g
  · by_cases q:g=f
    · rw [q];exact (lL f y fs).1
    · refine (lL f y fs).2 g (wi g fun z=>hg ?_);show (if g=f then some u else mA g)=none;rw [if_neg q];exact z
theorem aL.made (I:aL X pins σ H s):aL X pins σ (cP (cP H s.heap.objs.size (.own (s.heap.objs.size+1))) (s.heap.objs.size+1) (.ins C s.heap.objs.size []))
    { s with heap:=(s.heap.push PySem.W.emptyDict).push (PySem.W.instObj C s.heap.objs.size) }:=by
  have e1:(s.heap.push PySem.W.emptyDict).get? s.heap.objs.size=some PySem.W.emptyDict:=Heap.get?_push_size s.heap rfl;have e2:((s.heap.push PySem.W.emptyDict).push (PySem.W.instObj C s.heap.objs.size)).get? (s.heap.objs.size+1)=some (PySem.W.instObj C s.heap.objs.size):=by
    have:=Heap.get?_push_size (s.heap.push PySem.W.emptyDict) (o:=PySem.W.instObj C s.heap.objs.size) rfl
    rwa [Heap.size_push] at this
  have e3:(s.heap.push PySem.W.emptyDict).Ns s.heap.objs.size (fun _=>none):=⟨PySem.W.emptyDict,#[],_,e1,rfl,(fun e he=>absurd he (by simp)),fun _=>rfl⟩
  have I1:=I.laid (a:=s.heap.objs.size) (o:=.own (s.heap.objs.size+1)) (h':=s.heap.push PySem.W.emptyDict) (t':=s.toks) (fun b u q=>Heap.get?_push_of_some _ q) (Nat.le_refl _) ⟨_,e1⟩;refine I1.laid (a:=s.heap.objs.size+1) (o:=.ins C s.heap.objs.size []) (t':=s.toks) (fun b u q=>Heap.get?_push_of_some _ q) (Nat.le_of_eq (Heap.size_push _ _)) ?_;have ne:s.heap.objs.size≠s.heap.objs.size+1:=Nat.ne_of_lt (Nat.lt_succ_self _);refine ⟨by rw [av ne,bd],Nat.zero_le _,ne,e2,fun _=>none,(Heap.Ns1.of_empty e3).at fun o q=>Heap.get?_push_of_some _ q,fun _=>True.intro,fun y hy=>absurd rfl hy⟩
theorem Ad {prog:Program} {w:World} {env:Env} {e:Expr} {f:Str} {pos:Pos} {s:Shared} {Q:Value->Shared->Prop} (hb:attributeBase e f env (eval e env)=eval e env)
    (h:wpAny (model prog w) A (eval e env) (fun o s₁=>wpAny (model prog w) A (getAttr o f true) Q E s₁) E s):wpAny (model prog w) A (eval (.Attribute e f pos) env) Q E s :=
  Attribute_any_ h (by rw [arm_eval_Attribute,hb])
end
noncomputable def Gc (K:PySem.W.Frag) (ta tv:TE) (f:Str):TS:=fun D σ H=>tv σ H fun y H1=>ta σ H1 fun x H2=>∃ a C dx fs,x=.ref a/\H2 a=some (.ins C dx fs)/\xE K C/\eE K C f/\fs.length < 1000 /\
  D.nx σ (cP H2 a (.ins C dx (h9 f y fs)))
section
variable {X:Cx} {o e value:Expr} {f:Str} {pos pos' tpos:Pos} {ta tv:TE}
theorem uN (ha:PE X o ta) (hv:PE X value tv) (hs:swapsWith value (some (.Attribute o f pos')) pos.line X.env=pure false):PS X (.Assign [.Attribute o f pos'] value pos) (Gc X.K ta tv f):=by
  intro pins s σ H D I h;refine plainObj_wpAny_Assign_Attribute (dm (hv pins s σ H _ I h) fun u s1 ⟨y,H1,I1,ry,q⟩=>dm (ha pins s1 σ H1 _ I1 q) fun ov s2 zq0=>?_) hs;obtain ⟨x,H2,I2,rx,a,C,dx,fs,ex,ea,c,n,l,q2⟩:=zq0;subst ex;obtain rfl:ov=Value.ref a:=rx;exact uU I2 ea c n l ry fun s3 I3=>⟨σ,_,I3,q2⟩
end
section
variable {X:Cx} {pins:List (Addr×Obj)} {σ:St} {H:Hp} {s:Shared} {A:Around} {E:Value->Shared->Prop} {Q:Value->Shared->Prop} {c:Value} {b:Bool}
inductive kN (K:PySem.W.Frag) (H:Hp):V->Value->Prop where
  | non:kN K H .non (.type "NoneType")
  | bl (x:Bool):kN K H (.bl x) (.type "bool")
  | int (i:Int):kN K H (.int i) (.type "int")
  | str (x:Str):kN K H (.str x) (.type "str")
  | flt (x:UInt64):kN K H (.flt x) (.type "float")
  | lst {a:Addr} {xs:List V} (e:H a=some (.lst xs)):kN K H (.ref a) (.type "list")
  | frz {a:Addr} {o:Obj} {xs:List V} (e:H a=some (.frz o (.lst xs))):kN K H (.ref a) (.type "list")
  | tup {a:Addr} {xs:List V} (e:H a=some (.tup xs)):kN K H (.ref a) (.type "tuple")
  | dK {a:Addr} {kvs:List (dq×V)} (e:H a=some (.dK kvs)):kN K H (.ref a) (.type "dict")
  | dT {a:Addr} {kvs:List (List dq×V)} (e:H a=some (.dT kvs)):kN K H (.ref a) (.type "dict")
  | ins {a C dx:Addr} {fs:List (Str×V)} (e:H a=some (.ins C dx fs)) (cl:xE K C) (ha:PySem.W.findIn K (.ref C) "__class__" = some (some (.builtin "object.__class__")))
      (hn:PySem.W.specialIn K (.builtin "object.__class__") "__get__" = some (some (.builtin "getset_descriptor.__get__"))) (htk:PySem.W.takesIn K (.builtin "object.__class__")=some true)
      (hm:PySem.W.mroIn K C (.type "object")=some true):kN K H (.ref a) (.ref C)
theorem w4 {x:V} {u t:Value} (I:aL X pins σ H s) (rx:bM x u) (ty:kN X.K H x t) (e:PySem.W.kitOne X.K t c=some b) (h:∀ tk,Q (.bool b) { s with toks:=tk }) :
    wpAny (model X.prog X.w) A (call (.builtin "isinstance") [u,c]) Q E s:=by
  cases ty with
  | non=>cases (show u=Value.none from rx);exact PySem.W.kia_one PySem.W.kitx_none I.kIn True.intro e (fun z=>nomatch z) h
  | bl y=>cases (show u=Value.bool y from rx);exact PySem.W.kia_one PySem.W.kitx_bool I.kIn True.intro e (fun z=>nomatch z) h
  | int i=>obtain ⟨t,q⟩:=(show ∃ t,u=Value.int i t from rx);cases q;exact PySem.W.kia_one PySem.W.kitx_int I.kIn True.intro e (fun z=>nomatch z) h
  | str y=>obtain ⟨t,q⟩:=(show ∃ t,u=Value.str y t from rx);cases q;exact PySem.W.kia_one PySem.W.kitx_str I.kIn True.intro e (fun z=>nomatch z) h
  | flt y=>obtain ⟨t,q⟩:=(show ∃ t,u=Value.float y t from rx);cases q;exact PySem.W.kia_one PySem.W.kitx_float I.kIn True.intro e (fun z=>nomatch z) h
  | @lst a xs ea =>
    cases (show u=Value.ref a from rx);obtain ⟨_,_,n,_,h1⟩:=(show bV X.prog X.w H s.heap a (.lst xs) from I.hok a _ ea)
    exact PySem.W.kia_one PySem.W.kitx_list I.kIn ⟨_,h1,rfl⟩ e (fun z=>nomatch z) h
  | @frz a ob xs ea =>
    cases (show u=Value.ref a from rx);obtain ⟨_,_,_,n,_,h1⟩:=(show bV X.prog X.w H s.heap a (.frz ob (.lst xs)) from I.hok a _ ea)
    exact PySem.W.kia_one PySem.W.kitx_list I.kIn ⟨_,h1,rfl⟩ e (fun z=>nomatch z) h
  | @tup a xs ea =>
    cases (show u=Value.ref a from rx);obtain ⟨_,_,_,p⟩:=(show bV X.prog X.w H s.heap a (.tup xs) from I.hok a _ ea)
    obtain ⟨o,h1,h2,_⟩:=p;exact PySem.W.kia_one PySem.W.kitx_tuple I.kIn ⟨o,h1,h2⟩ e (fun z=>nomatch z) h
  | @dK a kvs ea =>
    cases (show u=Value.ref a from rx);obtain ⟨_,_,vs,_,p⟩:=(show bV X.prog X.w H s.heap a (.dK kvs) from I.hok a _ ea)
    obtain ⟨o,es,ep,h1,h2,_⟩:=p;exact PySem.W.kia_one PySem.W.kitx_dict I.kIn ⟨o,h1,h2.1⟩ e (fun z=>nomatch z) h
  | @dT a kvs ea =>
    cases (show u=Value.ref a from rx);obtain ⟨_,_,xs,_,o,es,ep,h1,h2,_⟩:=(show bV X.prog X.w H s.heap a (.dT kvs) from I.hok a _ ea)
    exact PySem.W.kia_one PySem.W.kitx_dict I.kIn ⟨o,h1,h2.1⟩ e (fun z=>nomatch z) h
  | @ins a C dx fs ea cl ha hn htk hm =>
    cases (show u=Value.ref a from rx);obtain ⟨mA,O,_⟩:=vH I.hok ea;obtain ⟨od,J,_⟩:=O.look;exact PySem.W.kia_one (PySem.W.kitx_own (cl.get _) cl.hd ha hn htk hm) I.kIn J e (fun z=>nomatch z) h
end
structure e8 (k:Nat) (A:Around):Prop where
  hd:A.handled=none
  dp:A.depth+3*k+5 < recursionLimit
  un:A.units+16*k+200 < cLine
theorem e8.mono {j k:Nat} {A:Around} (r:e8 k A) (h:j<=k):e8 j A:=⟨r.hd,by have:=r.dp;omega,by have:=r.un;omega⟩
theorem e8.deeper {k:Nat} {A:Around} (r:e8 (k+1) A) (env:Env):e8 k (A.deeper env) :=
  ⟨r.hd,by have:=r.dp;show A.depth+1+3*k+5 < _;omega,by have:=r.un;show A.units+3+16*k+200 < _;omega⟩
theorem uC {A:Around} {C:Addr} {us:List Value} {kw:List (Str×Value)}:(A.under (.builtin "type.__call__" ⟨.ref C::us,kw⟩)).depth=A.depth+1:=by
  first | rfl | simp [Around.under,Code.weight,Code.isCreation,Code.isGuard,Code.isCaller,Code.frames,Code.isFrame,guardIds]
theorem uD {A:Around} {C:Addr} {us:List Value} {kw:List (Str×Value)}:(A.under (.builtin "type.__call__" ⟨.ref C::us,kw⟩)).units=A.units+1:=by
  first | rfl | simp [Around.under,Code.cUnits,Code.frames,Code.isFrame]
theorem e8.make {k:Nat} {A:Around} (r:e8 (k+1) A) (C:Addr) (us:List Value) (kw:List (Str×Value)):e8 k (A.under (.builtin "type.__call__" ⟨.ref C::us,kw⟩)) :=
  ⟨r.hd,by have:=r.dp;rw [uC];omega,by have:=r.un;rw [uD];omega⟩
theorem e8.depth {k:Nat} {A:Around} (r:e8 k A):A.depth < recursionLimit:=by have:=r.dp;omega
theorem e8.units {k:Nat} {A:Around} (r:e8 k A):A.units+64 < cLine:=by have:=r.un;omega
noncomputable def Gk:TA:=fun _ H Q=>Q [] H
noncomputable def ER (ta:TE) (tr:TA):TA:=fun σ H Q=>ta σ H fun x H1=>tr σ H1 fun xs H2=>Q (x::xs) H2
section
variable {X:Cx} {e:Expr} {es:List Expr} {te:TE} {t:TA} {pos:Pos}
theorem yQ:PA X [] Gk:=fun _ _ _ _ H Q I h=>Calls.spliced_nil ⟨[],H,I,.nil,h⟩
theorem qY (ha:PE X e te) (hr:PA X es t) (hs:starEach (e::es) X.env=(false,eval e X.env)::starEach es X.env:=by rfl):PA X (e::es) (ER te t):=by
  intro pos pins s σ H Q I h;rw [hs];show wpAny _ _ (spliced ((false,eval e X.env)::backTo pos (starEach es X.env))) _ _ s;refine Calls.spliced_cons (dm (ha pins s σ H _ I h) fun u s1 zq0=>?_);obtain ⟨x,H1,I1,r1,q1⟩:=zq0;exact dm (hr pos pins s1 σ H1 _ I1 q1) fun us s2 ⟨xs,H2,I2,r2,q2⟩=>⟨x::xs,H2,I2,.cons r1 r2,q2⟩
noncomputable def Gq (t:TA):TE:=fun σ H Q=>t σ H fun xs H1=>xs.length<=sizeLine/\∀ p,H1 p=none->Q (.ref p) (cP H1 p (.tup xs))
noncomputable def Gj (t:TA):TE:=fun σ H Q=>t σ H fun xs H1=>xs.length<=sizeLine/\∀ p,H1 p=none->Q (.ref p) (cP H1 p (.lst xs))
theorem CL {x1} (h:PA X es t):PE X (.Tuple es x1 pos) (Gq t):=by
  intro pins s σ H Q I hq;refine wpAny_Tuple_spliced (dm (h pos pins s σ H _ I hq) fun us s1 ⟨xs,H1,I1,r,z,q⟩=>⟨by rw [<- r.length];exact z,?_⟩);have hf:H1 s1.heap.objs.size=none:=I1.hok.fresh (Nat.le_refl _);refine ⟨.ref s1.heap.objs.size,cP H1 s1.heap.objs.size (.tup xs),I1.laid (t':=s1.toks) (fun b u e=>Heap.get?_push_of_some _ e) (Nat.le_refl _) ?_,rfl,q _ hf⟩;exact ⟨z,us,r,⟨_,Heap.get?_push_size _ rfl,rfl,⟨_,rfl⟩,rfl⟩⟩
theorem CG (h:PA X es t):PE X (.List es pos) (Gj t):=by
  intro pins s σ H Q I hq;refine wpAny_List_spliced (dm (h pos pins s σ H _ I hq) fun us s1 ⟨xs,H1,I1,r,z,q⟩=>⟨by rw [<- r.length];exact z,?_⟩);have hf:H1 s1.heap.objs.size=none:=I1.hok.fresh (Nat.le_refl _);refine ⟨.ref s1.heap.objs.size,cP H1 s1.heap.objs.size (.lst xs),I1.laid (t':=s1.toks) (fun b u e=>Heap.get?_push_of_some _ e) (Nat.le_refl _) ?_,rfl,q _ hf⟩;exact ⟨z,us,0,r,Heap.get?_push_size _ rfl⟩
end
noncomputable abbrev Sp:=List V->Hp->VK->XK->Prop
noncomputable abbrev xD:=List Env->Hp->Shared->XK->Value->Shared->Prop
structure tP (P:Program) (w:World) (K:PySem.W.Frag) (mg:Str->Option Value) (base:Heap) (A:Around) (outer:List Env) (s:Shared) (H:Hp):Prop where
  frames:A.frames=some outer
  mod:Mod K mg base
  bs:∀ b o,base.get? b=some o->s.heap.get? b=some o/\H b=none
  bsz:base.objs.size<=s.heap.objs.size
  funs:s.heap.FunFrames base outer
  frf:∀ b∈lx outer,H b=none
  hok:gX P w H s.heap
  bare:AllBare s.gens
noncomputable def CE (outer:List Env) (P:Program) (w:World) (H:Hp) (s:Shared) (Q:VK) (u:Value) (s':Shared):Prop :=
  ∃ v H',s'.os=s.os/\AllBare s'.gens/\Un (lx outer) [] H H' s.heap s'.heap/\gX P w H' s'.heap/\bM v u/\Q v H'
noncomputable def CR (CX:xD) (outer:List Env) (P:Program) (w:World) (H:Hp) (s:Shared) (Q:VK) (E:XK) (r:Result) (s':Shared):Prop :=
  match r with
  | .ok (.ret u)=>CE outer P w H s Q u s'
  | .ok _=>False
  | .error e=>CX outer H s E e s'
structure aY (P:Program) (w:World) (K:PySem.W.Frag) (mg:Str->Option Value) (base:Heap) (CX:xD) (k:Nat) (f:Addr) (fd:FuncData) (ps:List Str) (sp:Sp):Prop where
  len:∀ vs H Q E,sp vs H Q E->vs.length=ps.length
  run:∀ (A:Around) (outer:List Env) (s:Shared) (H:Hp) (args:Args) (us:List Value) (vs:List V) (Q:VK) (E:XK),e8 k A->tP P w K mg base A outer s H->BindsTo s fd args (ps.zip us)->bA vs us->sp vs H Q E ->
    codeAny (model P w) A (.call (.ref f) args) (CR CX outer P w H s Q E) s
theorem aY.mono {P:Program} {w:World} {K:PySem.W.Frag} {mg:Str->Option Value} {base:Heap} {CX:xD} {j k:Nat} {f:Addr} {fd:FuncData} {ps:List Str} {sp:Sp} (F:aY P w K mg base CX j f fd ps sp) (h:j<=k) :
    aY P w K mg base CX k f fd ps sp:=⟨F.len,fun A outer s H args us vs Q E hr=>F.run A outer s H args us vs Q E (hr.mono h)⟩
theorem aY.imp {P:Program} {w:World} {K:PySem.W.Frag} {mg:Str->Option Value} {base:Heap} {CX:xD} {k:Nat} {f:Addr} {fd:FuncData} {ps:List Str} {sp sp':Sp} (F:aY P w K mg base CX k f fd ps sp)
    (h:∀ vs H Q E,sp' vs H Q E->sp vs H Q E):aY P w K mg base CX k f fd ps sp' :=
  ⟨fun vs H Q E q=>F.len vs H Q E (h _ _ _ _ q),fun A outer s H args us vs Q E hr he hb hv hs=>F.run A outer s H args us vs Q E hr he hb hv (h _ _ _ _ hs)⟩
theorem tP.make {P:Program} {w:World} {K:PySem.W.Frag} {mg:Str->Option Value} {base:Heap} {A:Around} {outer:List Env} {s:Shared} {H:Hp} (e:tP P w K mg base A outer s H) (C:Addr) (us:List Value) (kw:List (Str×Value)) :
    tP P w K mg base (A.under (.builtin "type.__call__" ⟨.ref C::us,kw⟩)) outer s H:=⟨by first | exact e.frames | (simpa [Around.under,Code.envs,Code.isFrame,pushEnvs] using e.frames),e.mod,e.bs,e.bsz,e.funs,e.frf,e.hok,e.bare⟩
section
variable {X:Cx} {pins:List (Addr×Obj)} {σ:St} {H:Hp} {s s':Shared}
theorem aL.env0 (I:aL X pins σ H s):tP X.prog X.w X.K X.mg X.base X.A X.stack s H :=
  ⟨I.ok.frames,I.ok.mod,I.bs,Nat.le_trans I.ok.bsz I.sz,I.stack,I.stkFree,I.hok,I.bare⟩
theorem aL.after {Q:VK} {u:Value} (I:aL X pins σ H s) (h:CE X.stack X.prog X.w H s Q u s'):EP X pins σ Q u s':=by
  obtain ⟨v,H',os,bare,un,hok,r,q⟩:=h;obtain ⟨hh,g,d,t,os'⟩:=s';obtain rfl:os'=s.os:=os;exact ⟨v,H',I.call (h':=hh) (g':=g) (d':=d) (t':=t) (ch:=[]) un hok bare (fun b z=>absurd z (by simp)),r,q⟩
end
noncomputable def EQ (sp:Sp) (dvs:List V) (E:XK) (t:TA):TE:=fun σ H Q=>t σ H fun vs H1=>sp (vs++dvs) H1 Q E
noncomputable def EU (C:Addr) (sp:Sp) (dvs:List V) (E:XK) (t:TA):TE:=fun σ H Q=>t σ H fun vs H1=>∀ x dx,H1 x=none->H1 dx=none->dx≠x ->
  sp (.ref x::(vs++dvs)) (cP (cP H1 dx (.own x)) x (.ins C dx [])) (fun v H2=>v=.non/\Q (.ref x) H2) E
noncomputable def bB (K:PySem.W.Frag) (fd:FuncData) (ps:List Str) (ds:List Value):Prop :=
  ∀ (s:Shared) (us:List Value),K.In s.heap->(us++ds).length=ps.length->BindsTo s fd ⟨us,[]⟩ (ps.zip (us++ds))
theorem bB.all {K:PySem.W.Frag} {fd:FuncData} {ps:List Str} (h:∀ us:List Value,us.length=ps.length->bindArgs fd ⟨us,[]⟩=pure (ps.zip us)):bB K fd ps []:=fun s us _ hl=>by
  rw [List.append_nil] at hl ⊢;exact .of_eq (h us hl)
noncomputable def mW (CX:xD) (X:Cx) (E:XK):Prop:=∀ (pins:List (Addr×Obj)) (σ:St) (H:Hp) (s:Shared) (e:Value) (s':Shared),aL X pins σ H s->CX X.stack H s E e s'->X.xe e s'
section
variable {X:Cx} {CX:xD} {k:Nat} {f C:Addr} {fd:FuncData} {ps:List Str} {sp:Sp} {dvs:List V} {ds:List Value} {E:XK} {x m:Str} {p pos apos:Pos} {e o:Expr} {es:List Expr} {ta:TE} {t:TA}
theorem Dc {pins:List (Addr×Obj)} {σ:St} {H:Hp} {s:Shared} {Q:VK} {us:List Value} {vs:List V} (F:aY X.prog X.w X.K X.mg X.base CX k f fd ps sp) (hr:e8 k X.A) (hb:bB X.K fd ps ds) (hd:bA dvs ds) (hx:mW CX X E)
    (I:aL X pins σ H s) (r:bA vs us) (h:sp (vs++dvs) H Q E):wpAny (model X.prog X.w) X.A (call (.ref f) us) (EP X pins σ Q) X.xe s:=by
  have r2:bA (vs++dvs) (us++ds):=r.append hd;have hl:(us++ds).length=ps.length:=by rw [<- r2.length];exact F.len _ _ _ _ h
  refine wpAny_call (codeAny_mono (F.run X.A X.stack s H ⟨us,[]⟩ (us++ds) (vs++dvs) Q E hr I.env0 (hb s us I.kIn hl) r2 h) fun r s' hq=>?_);cases r with
  | error e=>exact hx pins σ H s e s' I hq
  | ok fl =>
    cases fl with
    | ret u=>exact I.after hq
    | next=>exact False.elim hq
    | brk=>exact False.elim hq
    | cont=>exact False.elim hq
theorem AR (F:aY X.prog X.w X.K X.mg X.base CX k f fd ps sp) (hr:e8 k X.A) (hg:Gl X x) (hm:X.mg x=some (.ref f)) (hk:PySem.W.keepIn X.K (.ref f)=true) (hb:bB X.K fd ps ds) (hd:bA dvs ds) (hx:mW CX X E)
    (ha:PA X (e::es) t) (hdb:(x==("__debug__" : Str))=false:=by decide) (he:starEach (e::es) X.env=(false,eval e X.env)::starEach es X.env:=by rfl) (hpl:(backTo pos (starEach es X.env)).any (·.1)=false:=by rfl) :
    PE X (.Call (.Name x p) (e::es) [] pos) (EQ sp dvs E t):=by
  intro pins s σ H Q I h;refine wpAny_Call_Name_kw (mK I hg hm ?_ hdb);refine PySem.W.callWith_K (h₀:=X.base) I.ok.mod.kin hk (dm (ha pos pins s σ H _ I h) fun us s1 ⟨vs,H1,I1,r,q⟩=>⟨I1.kIn,?_⟩) he hpl;exact Dc F hr hb hd hx I1 r q
structure Mk (K:PySem.W.Frag) (C f:Addr):Prop where
  makes:PySem.W.makesIn K C=true
  init:PySem.W.findIn K (.ref C) "__init__" = some (some (.ref f))
  fn:PySem.W.isFn K (.ref f)=true
  kp:PySem.W.keepIn K (.ref C)=true
theorem zg {pins:List (Addr×Obj)} {σ:St} {H:Hp} {s:Shared} {Q:VK} {us:List Value} {vs:List V} (M:Mk X.K C f) (F:aY X.prog X.w X.K X.mg X.base CX k f fd ps sp) (hr:e8 (k+1) X.A) (hb:bB X.K fd ps ds) (hd:bA dvs ds)
    (hx:mW CX X E) (I:aL X pins σ H s) (r:bA vs us)
    (h:∀ x dx,H x=none->H dx=none->dx≠x->sp (.ref x::(vs++dvs)) (cP (cP H dx (.own x)) x (.ins C dx [])) (fun v H2=>v=.non/\Q (.ref x) H2) E) :
    wpAny (model X.prog X.w) X.A (call (.ref C) us) (EP X pins σ Q) X.xe s:=by
  have hq:=h (s.heap.objs.size+1) s.heap.objs.size (I.hok.fresh (Nat.le_succ _)) (I.hok.fresh (Nat.le_refl _)) (Nat.ne_of_lt (Nat.lt_succ_self _));have I2:=aL.made (C:=C) I;have r2:bA (V.ref (s.heap.objs.size+1)::(vs++dvs)) (Value.ref (s.heap.objs.size+1)::(us++ds)):=.cons rfl (r.append hd);have hl:(Value.ref (s.heap.objs.size+1)::us++ds).length=ps.length:=by
    have e:=r2.length;rw [F.len _ _ _ _ hq] at e;exact e.symm
  refine wpAny_call (yC (f:=f) I.kIn M.makes M.init (beq_iff_eq.mp M.fn) (codeAny_mono (F.run _ X.stack _ _ ⟨Value.ref (s.heap.objs.size+1)::us,[]⟩ (Value.ref (s.heap.objs.size+1)::(us++ds)) _ _ E (hr.make C us [])
    (I2.env0.make C us []) (hb _ (Value.ref (s.heap.objs.size+1)::us) I2.kIn hl) r2 hq) fun r s' hq'=>?_))
  cases r with
  | error e=>exact hx pins σ _ _ e s' I2 hq'
  | ok fl =>
    cases fl with
    | ret u =>
      obtain ⟨v,H',I3,rv,ev,q3⟩:=I2.after hq';subst ev;exact ⟨rv,⟨V.ref (s.heap.objs.size+1),H',I3,rfl,q3⟩⟩
    | next=>exact False.elim hq'
    | brk=>exact False.elim hq'
    | cont=>exact False.elim hq'
theorem AV (M:Mk X.K C f) (F:aY X.prog X.w X.K X.mg X.base CX k f fd ps sp) (hr:e8 (k+1) X.A) (hg:Gl X x) (hm:X.mg x=some (.ref C)) (hb:bB X.K fd ps ds) (hd:bA dvs ds) (hx:mW CX X E)
    (ha:PA X (e::es) t) (hdb:(x==("__debug__" : Str))=false:=by decide) (he:starEach (e::es) X.env=(false,eval e X.env)::starEach es X.env:=by rfl) (hpl:(backTo pos (starEach es X.env)).any (·.1)=false:=by rfl) :
    PE X (.Call (.Name x p) (e::es) [] pos) (EU C sp dvs E t):=by
  intro pins s σ H Q I h;refine wpAny_Call_Name_kw (mK I hg hm ?_ hdb);refine PySem.W.callWith_K (h₀:=X.base) I.ok.mod.kin M.kp (dm (ha pos pins s σ H _ I h) fun us s1 ⟨vs,H1,I1,r,q⟩=>⟨I1.kIn,?_⟩) he hpl;exact zg M F hr hb hd hx I1 r q
end
structure aS (N P:List Str) (sc:Scope):Prop where
  kind:sc.kind=.function
  co:sc.isCoroutine=false
  gen:sc.isGenerator=false
  nd:N.Nodup
  pre:N.take P.length=P
  par:∀ x∈P,sc.names.lookup x=some .local\/sc.names.lookup x=some .cell
  nofree:∀ y∈sc.names,y.2≠.free
theorem pf {kindOf:Str->Option NameKind} {x:Str}:∀ {binds:List (Str×Value)} {m:Str->Option Value},(∀ v,(x,v)∉binds)->bindL kindOf binds m x=m x
  | [],_,_=>rfl
  | (n,v)::r,m,h=>by
    unfold bindL;rw [pf fun w hw=>h w (List.mem_cons_of_mem _ hw)];split
    · have:x≠n:=by rintro rfl;exact h v List.mem_cons_self
      simp [this]
    · rfl
theorem pd {kindOf:Str->Option NameKind} {x:Str}:∀ {binds:List (Str×Value)} {m:Str->Option Value},(∀ v,(x,v)∉binds)->bindC kindOf binds m x=m x
  | [],_,_=>rfl
  | (n,v)::r,m,h=>by
    unfold bindC;rw [pd fun w hw=>h w (List.mem_cons_of_mem _ hw)];split
    · rfl
    · have:x≠n:=by rintro rfl;exact h v List.mem_cons_self
      simp [this]
theorem pe {kindOf:Str->Option NameKind} {x:Str} {v:Value}:∀ {P:List Str} {vs:List Value} {i:Nat} {m:Str->Option Value},P.Nodup->P[i]?=some x->vs[i]?=some v->kindOf x=some .local ->
    bindL kindOf (P.zip vs) m x=some v
  | [],_,_,_,_,h,_,_=>by simp at h
  | _::_,[],_,_,_,_,h,_=>by simp at h
  | p::P,w::vs,0,m,nd,h1,h2,hk=>by
    simp at h1 h2;subst h1;subst h2;show bindL kindOf ((p,w)::P.zip vs) m p=_;unfold bindL;rw [pf fun v hv=>(List.nodup_cons.mp nd).1 (List.of_mem_zip hv).1,if_pos hk];simp
  | p::P,w::vs,i+1,m,nd,h1,h2,hk=>by
    show bindL kindOf ((p,w)::P.zip vs) m x=_;unfold bindL;exact pe (i:=i) (List.nodup_cons.mp nd).2 (by simpa using h1) (by simpa using h2) hk
theorem pc {kindOf:Str->Option NameKind} {x:Str} {v:Value}:∀ {P:List Str} {vs:List Value} {i:Nat} {m:Str->Option Value},P.Nodup->P[i]?=some x->vs[i]?=some v->kindOf x≠some .local ->
    bindC kindOf (P.zip vs) m x=some v
  | [],_,_,_,_,h,_,_=>by simp at h
  | _::_,[],_,_,_,_,h,_=>by simp at h
  | p::P,w::vs,0,m,nd,h1,h2,hk=>by
    simp at h1 h2;subst h1;subst h2;show bindC kindOf ((p,w)::P.zip vs) m p=_;unfold bindC;rw [pd fun v hv=>(List.nodup_cons.mp nd).1 (List.of_mem_zip hv).1,if_neg hk];simp
  | p::P,w::vs,i+1,m,nd,h1,h2,hk=>by
    show bindC kindOf ((p,w)::P.zip vs) m x=_;unfold bindC;exact pc (i:=i) (List.nodup_cons.mp nd).2 (by simpa using h1) (by simpa using h2) hk
noncomputable def i6 (N:List Str) (vs:List V):St:=vs.map some++List.replicate (N.length-vs.length) none
noncomputable def fN (CX:xD) (P:Program) (w:World) (K:PySem.W.Frag) (mg:Str->Option Value) (base:Heap) (N:List Str) (qual:Str) (scope:Scope) (f:Addr) (cd:Value) (A:Around) (outer:List Env) (s:Shared) (H:Hp) (E:XK):Cx where
  prog:=P
  w:=w
  K:=K
  mg:=mg
  base:=base
  A:=A.deeper (envOfC qual scope s.heap.objs.size f cd)
  N:=N
  s₀:=s
  H₀:=H
  env:=envOfC qual scope s.heap.objs.size f cd
  outer:=outer
  stack:=envOfC qual scope s.heap.objs.size f cd::outer
  ex:=[]
  calm:=true
  fn:=fun _=>true
  pn:=[]
  xe:=fun e s'=>wpAny (model P w) (A.deeper (envOfC qual scope s.heap.objs.size f cd)) (leaving (envOfC qual scope s.heap.objs.size f cd) e) (fun _ s''=>CX outer H s E e s'') (fun e' s''=>CX outer H s E e' s'') s'
theorem sf {sc:Scope} {n:Nat} {x:Str} (h:sc.names.lookup x=some .cell):∃ c,(cellsFrom n sc.names []).lookup x=some c:=by
  have q:=PySem.W.cellsFrom_some sc.names n [] (.inl h);exact Option.isSome_iff_exists.mp q
theorem wZ {CX:xD} {P:Program} {w:World} {K:PySem.W.Frag} {mg:Str->Option Value} {base:Heap} {N ps:List Str} {qual:Str} {scope:Scope} {f:Addr} {cd:Value} {A:Around} {outer:List Env} {s s1:Shared} {H:Hp} {E:XK} {us:List Value} {vs:List V}
    (S:aS N ps scope) (hd:A.handled=none) (e0:tP P w K mg base A outer s H) (hl:vs.length=ps.length) (r:bA vs us)
    (x:InCallC s s.heap.objs.size (bindL (envOfC qual scope s.heap.objs.size f cd).kindOf (ps.zip us) fun _=>none) (cellsFrom (s.heap.objs.size+1) scope.names []) (bindC (envOfC qual scope s.heap.objs.size f cd).kindOf (ps.zip us) fun _=>none) s1) :
    aL (fN CX P w K mg base N qual scope f cd A outer s H E) [] (i6 N vs) H s1:=by
  have hpl:ps.length<=N.length:=by have:=congrArg List.length S.pre;rw [List.length_take] at this;omega
  obtain ⟨h1,tk,rfl,hk⟩:=x.done;have noA:∀ b:Addr,b∉(fN CX P w K mg base N qual scope f cd A outer s H E).ex:=fun b z=>absurd (show b∈([]:List Addr) from z) (by simp)
  refine ⟨⟨e0.mod,S.kind,rfl,rfl,Nat.le_refl _,fun y z c h1 h2=>?_,fun y hy=>?_,fun y c _ h=>?_,fun _=>hd,Around.frames_deeper e0.frames,.inr ⟨rfl,rfl⟩,fun b z=>absurd z (noA b),e0.bs,e0.bsz,fun b _ _=>noA b,fun b z=>absurd z (noA b),e0.funs,e0.frf⟩,
    rfl,e0.bare,Un.kept hk,⟨_,x.toInCall.ns,fun i y v h1 h2 h3=>?_⟩,fun y c h=>⟨_,x.cell y c h⟩,e0.hok.fresh (Nat.le_refl _),fun y c h=>?_,fun p hp=>absurd (show p∈([]:List (Addr×Obj)) from hp) (by simp),e0.hok.kept hk,?_⟩
  · exact name_of_addr x.apart (PySem.mem_of_lookup h1) (PySem.mem_of_lookup h2)
  · have hy:scope.names.lookup y=some .cell\/scope.names.lookup y=some .free:=hy;rcases hy with hy | hy
    · exact sf hy
    · exact absurd rfl (S.nofree _ (PySem.mem_of_lookup hy))
  · exact Nat.le_of_lt (x.above y c (PySem.mem_of_lookup h))
  · have hi:i < vs.length:=by
      unfold i6 at h2;by_cases hi:i < vs.length
      · exact hi
      · rw [List.getElem?_append_right (by simpa using hi)] at h2;rw [List.getElem?_replicate] at h2;split at h2 <;> cases h2
    have ha:vs[i]?=some v:=by
      unfold i6 at h2;rw [List.getElem?_append_left (by simpa using hi),List.getElem?_map] at h2;cases e:vs[i]? with
      | none=>rw [e] at h2;cases h2
      | some a=>rw [e] at h2;cases h2;rfl
    obtain ⟨u,hu,rv⟩:=r.get ha;have hp:ps[i]?=some y:=by
      rw [<- S.pre,List.getElem?_take_of_lt (by omega)];exact h1
    have ndP:ps.Nodup:=by rw [<- S.pre];exact S.nd.sublist (List.take_sublist _ _)
    refine ⟨u,rv,?_⟩;rcases S.par y (List.mem_of_getElem? hp) with k | k
    · exact .inl ⟨k,pe ndP hp hu k⟩
    · obtain ⟨c,e⟩:=sf (n:=s.heap.objs.size+1) k;refine .inr ⟨.inl k,c,e,?_⟩;have q:=x.cell y c e;rw [pc ndP hp hu (by show scope.names.lookup y≠_;rw [k];decide)] at q;exact q
  · exact e0.hok.fresh (Nat.le_of_lt (x.above y c (PySem.mem_of_lookup h)))
  · unfold i6;show _=N.length;rw [List.length_append,List.length_map,List.length_replicate];omega
theorem yk {CX:xD} {P:Program} {w:World} {K:PySem.W.Frag} {mg:Str->Option Value} {base:Heap} {k:Nat} {f:Addr} {name qual:Str} {params:Arguments} {body:List Stmt} {scope:Scope} {dV kV doc pm cdv ct oc:Value} {an od:Option Addr}
    {osl:Array (Option Value)} {N ps:List Str} {sp:Sp} (lk:K.lookup f=some ⟨oc,od,.func (PySem.W.fnOf name qual params body scope dV kV doc pm an cdv ct),osl⟩) (hcd:PySem.W.codeIn K cdv qual=true) (S:aS N ps scope)
    (len:∀ vs H Q E,sp vs H Q E->vs.length=ps.length)
    (hbody:∀ (A:Around) (outer:List Env) (s:Shared) (H:Hp) (vs:List V) (Q:VK) (E:XK),e8 k (A.deeper (envOfC qual scope s.heap.objs.size f cdv))->sp vs H Q E ->
      ∃ t,qe (fN CX P w K mg base N qual scope f cdv A outer s H E) body t/\t { nx:=fun _ H'=>Q .non H',rt:=Q } (i6 N vs) H) :
    aY P w K mg base CX (k+1) f (PySem.W.fnOf name qual params body scope dV kV doc pm an cdv ct) ps sp:=by
  refine ⟨len,fun A outer s H args us vs Q E hr e0 hb r hsp=>?_⟩;have hl:=len _ _ _ _ hsp;have KX:K.In s.heap:=e0.mod.kin.keeps fun b o e=>(e0.bs b o e).1
  have lim:s.heap.NoLimit:=e0.mod.nolimit.keeps fun b o e=>(e0.bs b o e).1
  have hkind:∀ y∈ps.zip us,scope.names.lookup y.1=some .local\/(scope.names.lookup y.1=some .cell/\((cellsFrom (s.heap.objs.size+1) scope.names []).lookup y.1).isSome=true):=fun ⟨n,v⟩ hy=>by
    rcases S.par n (List.of_mem_zip hy).1 with q | q
    · exact .inl q
    · exact .inr ⟨q,PySem.W.cellsFrom_some _ _ _ (.inl q)⟩
  refine codeAny_call_function hr.depth (KX _ _ lk) rfl S.co S.gen rfl (PySem.W.codeRec_of KX hcd) (hb _ _ _ _ ?_);refine wpAny_newFunctionEnv_cells S.kind hkind fun env he s1 x=>?_
  subst he;refine ⟨lim.keeps x.toInCall.keep,codeAny_func ?_⟩;obtain ⟨t,ht,hq⟩:=hbody A outer s H vs Q E (hr.deeper _) hsp;have I:aL (fN CX P w K mg base N qual scope f cdv A outer s H E) [] (i6 N vs) H s1:=wZ S hr.hd e0 hl r x;refine wpAny_mono (ht [] s1 (i6 N vs) H _ I hq) (fun fl s' hs=>?_) fun e s' hs=>hs
  have fin:∀ {σ':St} {H':Hp} {v:V} {u:Value},aL (fN CX P w K mg base N qual scope f cdv A outer s H E) [] σ' H' s'->bM v u->Q v H'->CE outer P w H s Q u s' :=
    fun {σ' H' v u} J rv q=>⟨v,H',J.os,J.bare,J.base,J.hok,rv,q⟩
  cases fl with
  | ret u =>
    obtain ⟨v,σ',H',J,rv,q⟩:=hs;exact fin J rv q
  | next =>
    obtain ⟨σ',H',J,q⟩:=hs;exact fin (v:=V.non) (u:=Value.none) J rfl q
  | brk =>
    obtain ⟨_,_,_,q⟩:=hs;exact False.elim q
  | cont =>
    obtain ⟨_,_,_,q⟩:=hs;exact False.elim q
section
variable {X:Cx} {x:Str} {p pos:Pos} {e:Expr} {es:List Expr} {t:TA} {id T:String} {r:List V->Hp->VK->Prop}
noncomputable def Gg (r:List V->Hp->VK->Prop) (t:TA):TE:=fun σ H Q=>t σ H fun vs H1=>r vs H1 Q
theorem n8 (hc:eJ X (.builtin id) r) (hg:Gl X x) (hm:X.mg x=none) (hv:bootBuiltins x=some (.builtin id)) (ha:PA X (e::es) t) (hn:x ≠ "__name__" := by decide) (hdb:(x==("__debug__" : Str))=false:=by decide)
    (he:starEach (e::es) X.env=(false,eval e X.env)::starEach es X.env:=by rfl) (hpl:(backTo pos (starEach es X.env)).any (·.1)=false:=by rfl):PE X (.Call (.Name x p) (e::es) [] pos) (Gg r t):=by
  intro pins s σ H Q I h;refine wpAny_Call_Name_kw (iN I hg hm hv ?_ hn hdb);exact PyProof.Rows.callWith_builtin1 (dm (ha pos pins s σ H _ I h) fun us s1 ⟨vs,H1,I1,r1,q1⟩=>hc pins s1 σ H1 vs us Q I1 r1 q1) he hpl
theorem xj (hc:eJ X (.type T) r) (hg:Gl X x) (hm:X.mg x=none) (hv:bootBuiltins x=some (.type T)) (ha:PA X (e::es) t) (hn:x ≠ "__name__" := by decide) (hdb:(x==("__debug__" : Str))=false:=by decide)
    (he:starEach (e::es) X.env=(false,eval e X.env)::starEach es X.env:=by rfl) (hpl:(backTo pos (starEach es X.env)).any (·.1)=false:=by rfl):PE X (.Call (.Name x p) (e::es) [] pos) (Gg r t):=by
  intro pins s σ H Q I h;refine wpAny_Call_Name_kw (iN I hg hm hv ?_ hn hdb);exact PyProof.Rows.callWith_type1 (dm (ha pos pins s σ H _ I h) fun us s1 ⟨vs,H1,I1,r1,q1⟩=>hc pins s1 σ H1 vs us Q I1 r1 q1) he hpl
end
end L2
namespace HT
open PySem PyProof.Rows
section
open PySem.SeqAt
open PySem.AutoSeq1 (wpAny_loadPart')
open PySem.MeetsSeq PySem.MeetsSeq2 PySem.MeetsSeq3
end
section
variable {prog:Program} {w:World} {A:Around} {E:Value->Shared->Prop} {s:Shared}
theorem cat_tup {t b:Addr} {vs ws:List Value} {Q:Value->Shared->Prop} (ht:IsTup s.heap t vs.toArray) (hb:IsTup s.heap b ws.toArray) (hv:vs≠[])
    (h1:ws=[]->Q (.ref t) s) (h2:ws≠[]->Q (.ref s.heap.objs.size) { s with heap:=s.heap.push { cls:=.type "tuple",data:=.seq (vs++ws).toArray } })
    (hsz:vs.length+ws.length<=sizeLine):wpAny (model prog w) A (binaryOp .Add (.ref t) (.ref b)) Q E s:=by
  obtain ⟨⟨cls,dd,data,sl⟩,ho,hc,n,hd⟩:=id ht;obtain ⟨⟨cls2,dd2,data2,sl2⟩,ho2,hc2,n2,hd2⟩:=id hb;simp only at hc hd hc2 hd2;subst hc hd hc2 hd2;have e:vs.toArray++ws.toArray=(vs++ws).toArray:=by simp
  by_cases hw:ws=[]
  · exact concat_meets ⟨_,ho,rfl⟩ ⟨_,ho2,rfl⟩ noFill_tuple_add seq_tuple_add PySem.F.slot_tuple_add PySem.F.entry_tuple_add (PySem.F.args_tuple_add_2 _ _)
      (tuple_addW1 t b vs.toArray ws.toArray n n2 dd dd2 sl sl2 (by simpa using hv) (by simp [hw])) ⟨ho,ho2,h1 hw⟩
  · refine concat_meets ⟨_,ho,rfl⟩ ⟨_,ho2,rfl⟩ noFill_tuple_add seq_tuple_add PySem.F.slot_tuple_add PySem.F.entry_tuple_add (PySem.F.args_tuple_add_2 _ _)
      (tuple_addW2 t b vs.toArray ws.toArray n n2 dd dd2 sl sl2 (by simpa using hv) (by simpa using hw) (by rw [List.size_toArray,List.size_toArray];exact hsz)) ⟨ho,ho2,?_⟩
    rw [e];exact h2 hw
noncomputable def sIx (n d:Nat):Option Int->Nat
  | none=>d
  | some v=>if v < 0 then (v+(n:Int)).toNat else min v.toNat n
theorem sIx_nat (n d k:Nat):sIx n d (some (k:Int))=min k n:=by
  show (if (k:Int) < 0 then ((k:Int)+(n:Int)).toNat else min (k:Int).toNat n)=min k n;rw [if_neg (by omega),Int.toNat_natCast]
theorem De (n d:Nat) (hd:d<=n) (o:Option Int):sIx n d o<=n:=by
  cases o with
  | none=>exact hd
  | some v =>
    show (if v < 0 then (v+(n:Int)).toNat else min v.toNat n)<=n;by_cases hv:v < 0
    · rw [if_pos hv];omega
    · rw [if_neg hv];exact Nat.min_le_right _ _
theorem vn (v:Int) (n d:Nat):(if v < 0 then max (v+(n:Int)) 0 else min v (n:Int))=((sIx n d (some v):Nat):Int):=by
  show (if v < 0 then max (v+(n:Int)) 0 else min v (n:Int))=(((if v < 0 then (v+(n:Int)).toNat else min v.toNat n):Nat):Int)
  by_cases hv:v < 0
  · simp only [if_pos hv];omega
  · simp only [if_neg hv];omega
theorem ud (lo hi:Option Int) (n:Nat):Builtin.Slice.sliceAdjust lo hi 1 (n:Int)=(((sIx n 0 lo:Nat):Int),((sIx n n hi:Nat):Int)):=by
  have h1:¬ ((1:Int) < 0):=by omega
  unfold Builtin.Slice.sliceAdjust;simp only [h1,if_false];refine Prod.ext ?_ ?_
  · cases lo with
    | none=>rfl
    | some v=>exact vn v n 0
  · cases hi with
    | none=>rfl
    | some v=>exact vn v n n
theorem uL (i j:Nat):Builtin.Slice.slicePlaces (i:Int) (j:Int) 1=j-i:=by
  unfold Builtin.Slice.slicePlaces;have h1:(1:Int) > 0:=by omega
  simp only [h1,if_true,Int.ediv_one];split <;> omega
theorem oq {v:Value} {o:Option Int} {Q:Option Int->Shared->Prop} (p:IsPart v o) (h:Q o s):wpAny (model prog w) A (Builtin.Slice.slicePartIndex v) Q E s:=by
  cases p with
  | none=>exact slicePart_none h
  | int i t=>exact slicePart_int h
theorem sliceApplied_gen {sl:Addr} {vl vu:Value} {lo hi:Option Int} {n:Nat} {Q:Int×Int×Nat->Shared->Prop} (hs:s.heap.IsSliceOf sl vl vu .none) (pl:IsPart vl lo) (pu:IsPart vu hi)
    (h:Q (((sIx n 0 lo:Nat):Int),1,sIx n n hi-sIx n 0 lo) s):wpAny (model prog w) A (Builtin.Slice.sliceApplied (.ref sl) (pure (n:Int))) Q E s:=by
  obtain ⟨os,hos,hcs,hds⟩:=id hs;unfold Builtin.Slice.sliceApplied Builtin.Slice.sliceFields;refine wpAny_bind (wpAny_bind (wpAny_field hos hds (x:=vl) rfl (wpAny_bind (wpAny_field hos hds (x:=vu) rfl (wpAny_bind (wpAny_field hos hds (x:=.none) rfl (wpAny_pure ?_)))))));refine wpAny_bind (slicePart_none ?_);show wpAny _ _ (if ((1:Int)==0)=true then _ else _) _ _ s;rw [if_neg (by decide)];refine wpAny_bind (oq pl (wpAny_bind (oq pu (wpAny_bind (wpAny_pure ?_)))));show wpAny _ _ (match Builtin.Slice.sliceAdjust lo hi 1 (n:Int) with | (lo,hi)=>pure (lo,(1:Int),Builtin.Slice.slicePlaces lo hi 1)) _ _ s;rw [ud lo hi n];show wpAny _ _ (pure (((sIx n 0 lo:Nat):Int),(1:Int),Builtin.Slice.slicePlaces ((sIx n 0 lo:Nat):Int) ((sIx n n hi:Nat):Int) 1)) _ _ s;rw [uL];exact wpAny_pure h
theorem yW (xs:Array Value) (i k:Nat):((List.range k).filterMap fun (m:Nat)=>xs[((i:Int)+(m:Int)*1).toNat]?).toArray=((xs.toList.drop i).take k).toArray:=by
  have e:(fun (m:Nat)=>xs[((i:Int)+(m:Int)*1).toNat]?)=fun m=>xs[i+m]?:=by
    funext m;have:((i:Int)+(m:Int)*1).toNat=i+m:=by omega
    rw [this]
  rw [e];have:=pick_run xs i k;rw [List.filterMap_map] at this;have e2:((fun x=>xs[x]?)∘fun x=>i+x)=fun m=>xs[i+m]?:=rfl
  rw [e2] at this;rw [this]
theorem getItem_tuple_cut {t sl:Addr} {items:Array Value} {vl vu:Value} {lo hi:Option Int} {Q:Value->Shared->Prop} (ht:IsTup s.heap t items) (hs:s.heap.IsSliceOf sl vl vu .none) (pl:IsPart vl lo) (pu:IsPart vu hi)
    (hw:¬ (sIx items.size 0 lo=0/\sIx items.size items.size hi=items.size))
    (h:Q (.ref s.heap.objs.size) { s with heap:=s.heap.push { cls:=.type "tuple",data:=.seq ((items.toList.drop (sIx items.size 0 lo)).take (sIx items.size items.size hi-sIx items.size 0 lo)).toArray } })
    (hsz:items.size<=sizeLine):wpAny (model prog w) A (getItem (.ref t) (.ref sl)) Q E s:=by
  have htake:sizeOk (.seq ((items.toList.drop (sIx items.size 0 lo)).take (sIx items.size items.size hi-sIx items.size 0 lo)).toArray):=by
    show ((items.toList.drop (sIx items.size 0 lo)).take (sIx items.size items.size hi-sIx items.size 0 lo)).toArray.size<=sizeLine;rw [List.size_toArray,List.length_take,List.length_drop,Array.length_toList];omega
  have hj:sIx items.size items.size hi<=items.size:=De _ _ (Nat.le_refl _) hi;obtain ⟨os,hos,hcs,hds⟩:=id hs;have hTs:s.TypeIs (.ref sl) "slice" := ⟨os,hos,hcs⟩
  unfold getItem
  try with_reducible refine wpAny_holding ?_
  first | refine wpAny_bind (wpAny_pure ?_) | skip
  refine wpAny_bind (wpAny_sequenceKey ht.typeIs (by decide) ?_);refine wpAny_bind (wpAny_callSpecial?_slot (name:=Str.ofString "__getitem__") ht.typeIs PyProof.Rows.slot_tuple_getitem
    (wpAny_call_entry PyProof.Rows.slot_tuple_getitem ht.typeIs entry_tuple_getitem ?_ (args_tuple_getitem _ _)))
  show wpAny _ _ (Builtin.Tuple.tupleItemsOf (.ref t)>>=_) _ _ s;refine wpAny_bind (tupleItemsOf_ ht ?_);refine wpAny_bind (wpAny_typeOf hTs ?_);rw [if_pos (by decide)];refine wpAny_bind (sliceApplied_gen hs pl pu ?_);have hno:¬ ((((sIx items.size 0 lo:Nat):Int)==0&&(1:Int)==1&&(sIx items.size items.size hi-sIx items.size 0 lo)==items.size)=true):=by
    intro q;rw [Bool.and_eq_true,Bool.and_eq_true] at q;have q1:((sIx items.size 0 lo:Nat):Int)=0:=eq_of_beq q.1.1;have q2:sIx items.size items.size hi-sIx items.size 0 lo=items.size:=eq_of_beq q.2;exact hw ⟨by omega,by omega⟩
  show wpAny _ _ (if (((sIx items.size 0 lo:Nat):Int)==0&&(1:Int)==1&&(sIx items.size items.size hi-sIx items.size 0 lo)==items.size)=true then _ else _) _ _ s;rw [if_neg hno,yW]
  first
    | exact wpAny_bind (m:=Builtin.Tuple.tupleExact _) (wpAny_newObj_type (wpAny_pure ⟨_,rfl,wpAny_pure h⟩) htake)
    | exact wpAny_bind (m:=Builtin.Tuple.tupleExact _) (wpAny_newObj_type (wpAny_bind (wpAny_pure (wpAny_pure ⟨_,rfl,wpAny_pure h⟩))) htake)
    | exact wpAny_bind (wpAny_bind (m:=Builtin.Tuple.tupleExact _) (wpAny_newObj_type (wpAny_pure (wpAny_pure ⟨_,rfl,wpAny_pure h⟩)) htake))
    | exact wpAny_bind (wpAny_bind (m:=Builtin.Tuple.tupleExact _) (wpAny_newObj_type (wpAny_pure ⟨_,rfl,wpAny_pure h⟩) htake))
end
end HT
namespace L2
open PySem PySem.Spec PyProof.Rows
noncomputable abbrev TO:=St->Hp->(Option Int->Hp->Prop)->Prop
noncomputable def PO (X:Cx) (e:Option Expr) (t:TO):Prop :=
  ∀ (pins:List (Addr×Obj)) (s:Shared) (σ:St) (H:Hp) (Q:Option Int->Hp->Prop),aL X pins σ H s->t σ H Q ->
    wpAny (model X.prog X.w) X.A (evalPart e X.env) (fun u s'=>∃ o H',aL X pins σ H' s'/\IsPart u o/\Q o H') X.xe s
noncomputable def EZ (t:TE):TO:=fun σ H Q=>t σ H fun x H1=>∃ i,x=.int i/\Q (some i) H1
theorem uy {ns:List Int}:∀ {us:List Value},bA (ns.map V.int) us->IntsAre us ns:=by
  induction ns with
  | nil=>intro us r;rw [List.map_nil] at r;cases r;exact .nil
  | cons n ns ih =>
    intro us r;rw [List.map_cons] at r;cases r with
    | cons r1 r2 =>
      obtain ⟨t,e⟩:=r1;subst e;exact .cons n t (ih r2)
section
variable {X:Cx} {e:Expr} {te:TE} {lo hi:Option Expr} {tl th:TO} {pos p2:Pos}
theorem AY (h:PE X e te):PO X (some e) (EZ te):=by
  intro pins s σ H Q I hw;rw [evalPart_some];refine dm (h pins s σ H _ I hw) fun u s1 zq0=>?_
  obtain ⟨x,H1,I1,r1,q1⟩:=zq0;obtain ⟨i,rfl,q⟩:=q1;obtain ⟨t,rfl⟩:=r1;exact ⟨some i,H1,I1,.int i t,q⟩
noncomputable def zY (X:Cx) (r:V->Option Int->Option Int->Hp->VK->Prop):Prop :=
  ∀ (pins:List (Addr×Obj)) (s:Shared) (σ:St) (H:Hp) (x:V) (v vl vu:Value) (lo hi:Option Int) (sl:Addr) (Q:VK),aL X pins σ H s->bM x v->s.heap.IsSliceOf sl vl vu .none->IsPart vl lo->IsPart vu hi->r x lo hi H Q ->
    ∃ T id,typeLookup (.type T) "__getitem__" = pure (some (.builtin id))/\s.TypeIs v T/\wpAny (model X.prog X.w) X.A (getItem v (.ref sl)) (EP X pins σ Q) X.xe s
theorem zY.or {r r':V->Option Int->Option Int->Hp->VK->Prop} (h:zY X r) (h':zY X r'):zY X (fun x lo hi H Q=>r x lo hi H Q\/r' x lo hi H Q):=by
  intro pins s σ H x v vl vu lo hi sl Q I rx hs pl pu q;rcases q with q | q
  · exact h pins s σ H x v vl vu lo hi sl Q I rx hs pl pu q
  · exact h' pins s σ H x v vl vu lo hi sl Q I rx hs pl pu q
noncomputable def GX (r:V->Option Int->Option Int->Hp->VK->Prop) (te:TE) (tl th:TO):TE:=fun σ H Q=>te σ H fun x H1=>tl σ H1 fun l H2=>th σ H2 fun u H3=>r x l u H3 Q
theorem yU {r:V->Option Int->Option Int->Hp->VK->Prop} (hr:zY X r) (he:PE X e te) (hl:PO X lo tl) (hu:PO X hi th):PE X (.Subscript e (.Slice lo hi none p2) pos) (GX r te tl th):=by
  intro pins s σ H Q I h;refine Subscript_ (dm (he pins s σ H _ I h) fun v s1 zq0=>?_);obtain ⟨x,H1,I1,r1,q1⟩:=zq0;refine wpAny_Slice (dm (hl pins s1 σ H1 _ I1 q1) fun vl s2 ⟨l,H2,I2,pl,q2⟩=>dm (hu pins s2 σ H2 _ I2 q2) fun vu s3 zq0=>?_);obtain ⟨u,H3,I3,pu,q3⟩:=zq0;rw [evalPart_none];refine wpAny_pure ?_;have I4:aL X pins σ H3 { s3 with heap:=s3.heap.push { cls:=.type "slice",data:=.fields #[vl,vu,.none] } }:=I3.kept (t':=s3.toks) fun b ob q=>Heap.get?_push_of_some _ q
  obtain ⟨T,id,hT,ht,hg⟩:=hr pins { s3 with heap:=s3.heap.push { cls:=.type "slice",data:=.fields #[vl,vu,.none] } } σ H3 x v vl vu l u s3.heap.objs.size Q I4 r1 (Heap.IsSliceOf.new ..) pl pu q3;show wpAny (model X.prog X.w) X.A (subscriptTail e (.Slice lo hi none p2) v (.ref s3.heap.objs.size)) (EP X pins σ Q) X.xe { s3 with heap:=s3.heap.push { cls:=.type "slice",data:=.fields #[vl,vu,.none] } };exact tail_any (ops:=[.ref s3.heap.objs.size,v]) ht hT hg (by with_unfolding_all rfl)
noncomputable def sh (xs:List V) (lo hi:Option Int):List V:=(xs.drop (HT.sIx xs.length 0 lo)).take (HT.sIx xs.length xs.length hi-HT.sIx xs.length 0 lo)
theorem lV (xs:List V) (lo hi:Option Int):(sh xs lo hi).length<=xs.length:=by
  unfold sh;rw [List.length_take,List.length_drop];omega
noncomputable def Ga (K:PySem.W.Frag):V->Option Int->Option Int->Hp->VK->Prop:=fun x lo hi H Q=>∃ a xs,x=.ref a/\iC K H a xs /\
  ¬ (HT.sIx xs.length 0 lo=0/\HT.sIx xs.length xs.length hi=xs.length)/\∀ p,H p=none->Q (.ref p) (cP H p (.tup (sh xs lo hi)))
theorem Dg:zY X (Ga X.K):=by
  intro pins s σ H x v vl vu lo hi sl Q I rx hs pl pu h;obtain ⟨a,xs,rfl,hx,hw,q⟩:=h;cases rx;obtain ⟨its,r,ht,hz⟩:=I.tuple hx;have hlen:its.toArray.size=xs.length:=by rw [List.size_toArray];exact r.length.symm
  refine ⟨"tuple",_,PyProof.Rows.slot_tuple_getitem.lookup,ht.typeIs,?_⟩;refine HT.getItem_tuple_cut ht hs pl pu (by rw [hlen];exact hw) ?_ (by rw [hlen];exact hz);rw [hlen];refine ⟨.ref s.heap.objs.size,_,I.laid (t':=s.toks) (o:=.tup (sh xs lo hi)) (fun b ob q=>Heap.get?_push_of_some _ q) (Nat.le_refl _) ?_,rfl,q _ (I.hok.fresh (Nat.le_refl _))⟩;exact ⟨Nat.le_trans (lV xs lo hi) hz,_,(r.drop (HT.sIx xs.length 0 lo)).take (HT.sIx xs.length xs.length hi-HT.sIx xs.length 0 lo),gn.new _ _⟩
noncomputable def BC (K:PySem.W.Frag):R2:=fun x y H Q=>∃ a b xs ys,x=.ref a/\y=.ref b/\iC K H a xs/\iC K H b ys/\xs≠[]/\xs.length+ys.length<=sizeLine /\
  (ys=[]->Q (.ref a) H)/\(ys≠[]->∀ p,H p=none->Q (.ref p) (cP H p (.tup (xs++ys))))
theorem bA.nil_iff {xs:List V} {us:List Value} (r:bA xs us):us=[]<->xs=[]:=by
  cases r with
  | nil=>simp
  | cons _ _=>simp
theorem AL:i8 X (binaryOp .Add) (BC X.K):=by
  intro pins s σ H x y v u Q I rx ry h;obtain ⟨a,b,xs,ys,rfl,rfl,ha,hb,hx,hz,q1,q2⟩:=h;cases rx;cases ry;obtain ⟨its,r1,p1,_⟩:=I.tuple ha;obtain ⟨its2,r2,p2,_⟩:=I.tuple hb;refine HT.cat_tup p1 p2 (fun z=>hx (r1.nil_iff.mp z)) (fun z=>⟨.ref a,H,I,rfl,q1 (r2.nil_iff.mp z)⟩) (fun z=>?_) (by rw [<- r1.length,<- r2.length];exact hz);refine ⟨.ref s.heap.objs.size,_,I.laid (t':=s.toks) (o:=.tup (xs++ys)) (fun b ob q=>Heap.get?_push_of_some _ q) (Nat.le_refl _) ?_,rfl,q2 (fun w=>z (r2.nil_iff.mpr w)) _ (I.hok.fresh (Nat.le_refl _))⟩;exact ⟨by rw [List.length_append];exact hz,_,r1.append r2,gn.new _ _⟩
end
noncomputable def vJ (n:Nat) (i:Int):Option Nat:=if 0<=i then (if i < n then some i.toNat else none) else if -(n:Int)<=i then some (i+n).toNat else none
noncomputable def atI {α:Type} (xs:List α) (i:Int):Option α:=(vJ xs.length i).bind fun j=>xs[j]?
theorem vK {n:Nat} {i:Int} {j:Nat} (h:vJ n i=some j):seqIndex? i n=some j/\j < n/\-(n:Int)<=i/\i < n:=by
  unfold vJ at h;by_cases h0:0<=i
  · rw [if_pos h0] at h;by_cases h1:i < n
    · rw [if_pos h1] at h;have e:i.toNat=j:=Option.some.inj h;exact ⟨by rw [seqIndex_of h0 h1,e],by omega,by omega,h1⟩
    · rw [if_neg h1] at h;cases h
  · rw [if_neg h0] at h;by_cases h1:-(n:Int)<=i
    · rw [if_pos h1] at h;have e:(i+n).toNat=j:=Option.some.inj h;exact ⟨by rw [seqIndex_neg (by omega) h1,e],by omega,h1,by omega⟩
    · rw [if_neg h1] at h;cases h
theorem qx {α:Type} {xs:List α} {i:Int} {v:α} (h:atI xs i=some v):∃ j,seqIndex? i xs.length=some j/\xs[j]?=some v/\j < xs.length/\-(xs.length:Int)<=i/\i < xs.length:=by
  unfold atI at h;cases e:vJ xs.length i with
  | none=>rw [e] at h;cases h
  | some j =>
    rw [e] at h;obtain ⟨h1,h2,h3,h4⟩:=vK e;exact ⟨j,h1,h,h2,h3,h4⟩
theorem qy {α:Type} {xs:List α} {j:Nat} {v:α} (h:xs[j]?=some v):atI xs (j:Int)=some v:=by
  have hj:j < xs.length:=(List.getElem?_eq_some_iff.mp h).1;have e:vJ xs.length (j:Int)=some j:=by
    unfold vJ;rw [if_pos (by omega),if_pos (by omega)];simp
  unfold atI;rw [e];exact h
noncomputable def ve (b:Expr):Prop:=∀ o i,subscripted b false o i=operate [o,i] (getItem o i)
noncomputable def zV (X:Cx) (r:R2):Prop :=
  ∀ (value slice:Expr) (pins:List (Addr×Obj)) (s:Shared) (σ:St) (H:Hp) (x y:V) (v u:Value) (Q:VK),aL X pins σ H s->bM x v->bM y u->r x y H Q ->
    subscripted slice false v u=operate [v,u] (getItem v u)->wpAny (model X.prog X.w) X.A (subscriptTail value slice v u) (EP X pins σ Q) X.xe s
noncomputable def GK (X:Cx) (id:String) (r:V->List V->Hp->VK->Prop):Prop :=
  ∀ (pins:List (Addr×Obj)) (s:Shared) (σ:St) (H:Hp) (x:V) (xs:List V) (v:Value) (us:List Value) (Q:VK),aL X pins σ H s->bM x v->bA xs us->r x xs H Q ->
    wpAny (model X.prog X.w) X.A (call (.builtin id) (v::us)) (EP X pins σ Q) X.xe s
section
variable {X:Cx} {a b:Expr} {ta tb:TE} {pos:Pos}
theorem zV.or {r r':R2} (h:zV X r) (h':zV X r'):zV X (fun x y H Q=>r x y H Q\/r' x y H Q):=by
  intro value slice pins s σ H x y v u Q I rx ry q hs;rcases q with q | q
  · exact h value slice pins s σ H x y v u Q I rx ry q hs
  · exact h' value slice pins s σ H x y v u Q I rx ry q hs
theorem Ep {r:R2} (hr:zV X r) (ha:PE X a ta) (hb:PE X b tb) (hs:ve b):PE X (.Subscript a b pos) (EY r ta tb):=by
  intro pins s σ H Q I h;exact Subscript_ (B0 ha hb I h fun v u s2 x y H2 I2 rx ry q=>hr a b pins s2 σ H2 x y v u Q I2 rx ry q (hs _ _))
noncomputable def Ew (K:PySem.W.Frag):R2:=fun x y H Q=>∃ p xs i v,x=.ref p/\y=.int i/\mY K H p xs/\atI xs i=some v/\Q v H
noncomputable def Ey (K:PySem.W.Frag):R2:=fun x y H Q=>∃ p xs i v,x=.ref p/\y=.int i/\iC K H p xs/\atI xs i=some v/\Q v H
noncomputable def Ex:R2:=fun x y H Q=>∃ z i c,x=.str z/\y=.int i/\z.length<=sizeLine/\atI z.cps.toList i=some c/\Q (.str ⟨#[c]⟩) H
theorem AC:zV X (Ew X.K):=by
  intro value slice pins s σ H x y v u Q I rx ry h hs;obtain ⟨p,xs,i,z,rfl,rfl,hq,he,q⟩:=h;cases rx;obtain ⟨t,rfl⟩:=ry;obtain ⟨its,r,pl,hz⟩:=I.list hq;obtain ⟨j,h1,h2,h3,h4,h5⟩:=qx he;obtain ⟨w,ew,rw'⟩:=r.get h2;have hl:=r.length;have hn:=lM;have fin:EP X pins σ Q w s:=⟨z,H,I,rw',q⟩
  by_cases h0:0<=i
  · have hj:i.toNat=j:=by
      rw [seqIndex_of h0 h5] at h1;exact Option.some.inj h1
    exact item_listR pl.isList h0 (by omega) (by rw [hj];simpa using ew) fin hs
  · have hj:(i+(its.toArray.size:Int)).toNat=j:=by
      rw [seqIndex_neg (by omega) h4] at h1;rw [List.size_toArray,<- hl];exact Option.some.inj h1
    exact subscriptTail_builtinR (x:=w) pl.isList.typeIs slot_list_getitem.lookup
      (wpAny_getItem_list_neg (Q:=fun r s'=>r=w/\EP X pins σ Q r s') pl.isList (by omega) (by rw [List.size_toArray] <;> omega) (by omega) (by rw [hj];simpa using ew) ⟨rfl,fin⟩) hs
theorem Cn:zV X (Ey X.K):=by
  intro value slice pins s σ H x y v u Q I rx ry h hs;obtain ⟨p,xs,i,z,rfl,rfl,hq,he,q⟩:=h;cases rx;obtain ⟨t,rfl⟩:=ry;obtain ⟨its,r,pl,hz⟩:=I.tuple hq;obtain ⟨j,h1,h2,h3,h4,h5⟩:=qx he;obtain ⟨w,ew,rw'⟩:=r.get h2;have hl:=r.length;have hn:=lM;have fin:EP X pins σ Q w s:=⟨z,H,I,rw',q⟩
  exact subscriptTail_builtinR (x:=w) pl.typeIs slot_tuple_getitem.lookup
    (getItem_tuple (j:=j) (Q:=fun r s'=>r=w/\EP X pins σ Q r s') pl (by omega) (by omega) (by rw [List.size_toArray,<- hl];exact h1) (by simpa using ew) ⟨rfl,fin⟩) hs
theorem Cm:zV X Ex:=by
  intro value slice pins s σ H x y v u Q I rx ry h hs;obtain ⟨z,i,c,rfl,rfl,hz,he,q⟩:=h;obtain ⟨t,rfl⟩:=rx;obtain ⟨t',rfl⟩:=ry;obtain ⟨j,h1,h2,h3,h4,h5⟩:=qx he;have hl:z.cps.toList.length=z.length:=by simp [Str.length]
  rw [hl] at h1 h4 h5;have hn:=lM;exact tail_any (typeIs_str s z t) slot_str_getitem.lookup (getItem_str (c:=c) (by
    have e1:decide (i < -(2 ^ 63:Int))=false:=decide_eq_false (by omega);have e2:decide (i>=2 ^ 63)=false:=decide_eq_false (by omega);rw [e1,e2,Bool.or_false]) (by rw [h1];simpa using h2) ⟨.str ⟨#[c]⟩,H,I.tok _,⟨_,rfl⟩,q⟩) hs
theorem uE (its:List Value) (n j:Nat) (u:Value):Obj.mapSeq (·.setIfInBounds j u) { cls:=.type "list",data:=.seq its.toArray n }={ cls:=.type "list",data:=.seq (its.set j u).toArray n }:=by
  simp [Obj.mapSeq]
theorem aL.lst {pins:List (Addr×Obj)} {σ:St} {H:Hp} {s:Shared} {p:Addr} {xs:List V} (I:aL X pins σ H s) (h:H p=some (.lst xs)) :
    ∃ (its:List Value) (n:Nat),bA xs its/\s.heap.get? p=some { cls:=.type "list",data:=.seq its.toArray n }/\xs.length<=sizeLine:=by
  obtain ⟨z,its,n,r,e⟩:=I.hok p _ h;exact ⟨its,n,r,e,z⟩
theorem aL.lstUpd {pins:List (Addr×Obj)} {σ:St} {H:Hp} {s:Shared} {p:Addr} {xs ys:List V} {its its':List Value} {n n':Nat} {f:Obj->Obj} (I:aL X pins σ H s) (h:H p=some (.lst xs))
    (ho:s.heap.get? p=some { cls:=.type "list",data:=.seq its.toArray n }) (hf:f { cls:=.type "list",data:=.seq its.toArray n }={ cls:=.type "list",data:=.seq its'.toArray n' }) (r:bA ys its') (hz:ys.length<=sizeLine) (t:Nat) :
    aL X pins σ (cP H p (.lst ys)) { s with heap:=s.heap.update p f,toks:=t }:=by
  have e:(s.heap.update p f).get? p=some { cls:=.type "list",data:=.seq its'.toArray n' }:=by
    rw [Heap.get?_update_self f ho (by rw [hf] <;> rfl),hf]
  refine I.write (x:=p) (e:=p) (by rw [h];trivial) (.inl rfl) (fun b u hb q=>(Heap.get?_update_other _ _ (Ne.symm hb)).trans q) ⟨_,e⟩ ?_;exact ⟨hz,its',n',r,e⟩
noncomputable def EA:V->V->V->Hp->(Hp->Prop)->Prop:=fun o i v H Q=>∃ p xs k j,o=.ref p/\i=.int k/\H p=some (.lst xs)/\vJ xs.length k=some j/\Q (cP H p (.lst (xs.set j v)))
theorem zi:DI X EA:=by
  intro pins s σ H o i v ov iv u Q I ro ri rv h;obtain ⟨p,xs,k,j,rfl,rfl,hp,hj,q⟩:=h;cases ro;obtain ⟨t,rfl⟩:=ri;obtain ⟨its,n,r,ho,hz⟩:=I.lst hp;obtain ⟨h1,h2,h3,h4⟩:=vK hj;have hl:=r.length;have hn:=lM;have I':aL X pins σ (cP H p (.lst (xs.set j v))) { s with heap:=s.heap.update p (Obj.mapSeq (·.setIfInBounds j u)) } :=
    I.lstUpd hp ho (uE its n j u) (r.set rv j) (by rw [List.length_set];exact hz) s.toks
  by_cases h0:0<=k
  · have hk:k.toNat=j:=by
      rw [seqIndex_of h0 h4] at h1;exact Option.some.inj h1
    exact PySem.W.ki_setAt ho h0 (by omega) (by rw [List.size_toArray,<- hl];exact h4) (by rw [hk];exact ⟨_,I',q⟩)
  · have hk:(k+(its.toArray.size:Int)).toNat=j:=by
      rw [seqIndex_neg (by omega) h3] at h1;rw [List.size_toArray,<- hl];exact Option.some.inj h1
    exact PySem.W.ki_setBack ho (by omega) (by rw [List.size_toArray,<- hl];exact h3) (by omega) (by rw [hk];exact ⟨_,I',q⟩)
theorem rh (lo hi:Option Int) (n:Nat):(sliceBounds lo hi none n).1=((HT.sIx n 0 lo:Nat):Int)/\(sliceBounds lo hi none n).2.1=((HT.sIx n n hi:Nat):Int)/\(sliceBounds lo hi none n).2.2=1:=by
  refine ⟨?_,?_,rfl⟩
  · cases lo with
    | none=>simp [sliceBounds,HT.sIx]
    | some i =>
      simp only [sliceBounds,HT.sIx,Option.getD_none,show (1:Int) > 0 by decide,if_true];by_cases h:i < 0
      · simp only [h,if_true] <;> omega
      · simp only [h,if_false] <;> omega
  · cases hi with
    | none=>simp [sliceBounds,HT.sIx]
    | some i =>
      simp only [sliceBounds,HT.sIx,Option.getD_none,show (1:Int) > 0 by decide,if_true];by_cases h:i < 0
      · simp only [h,if_true] <;> omega
      · simp only [h,if_false] <;> omega
theorem o5 (its:List Value) (lo hi:Option Int):slicePick its.toArray lo hi none=((its.drop (HT.sIx its.length 0 lo)).take (HT.sIx its.length its.length hi-HT.sIx its.length 0 lo)).toArray:=by
  obtain ⟨h1,h2,h3⟩:=rh lo hi its.toArray.size;unfold slicePick;rw [h1,h2,h3];simp only [sliceRange_one,pick_run,List.size_toArray] <;> rfl
noncomputable def F9 (K:PySem.W.Frag):V->Option Int->Option Int->Hp->VK->Prop:=fun x lo hi H Q=>∃ a xs,x=.ref a/\mY K H a xs/\∀ p,H p=none->Q (.ref p) (cP H p (.lst (sh xs lo hi)))
theorem Bc:zY X (F9 X.K):=by
  intro pins s σ H x v vl vu lo hi sl Q I rx hs pl pu h;obtain ⟨a,xs,rfl,hx,q⟩:=h;cases rx;obtain ⟨its,r,ht,hz⟩:=I.list hx;have hlen:=r.length;refine ⟨"list",_,slot_list_getitem.lookup,ht.isList.typeIs,?_⟩;refine wpAny_getItem_list_slice ht.isList hs pl pu .none (by simp) ?_ (by rw [List.size_toArray] <;> omega);rw [o5,<- hlen];refine ⟨.ref s.heap.objs.size,_,I.laid (t':=s.toks) (o:=.lst (sh xs lo hi)) (fun b ob q=>Heap.get?_push_of_some _ q) (Nat.le_refl _) ?_,rfl,q _ (I.hok.fresh (Nat.le_refl _))⟩;exact ⟨Nat.le_trans (lV xs lo hi) hz,_,0,(r.drop (HT.sIx xs.length 0 lo)).take (HT.sIx xs.length xs.length hi-HT.sIx xs.length 0 lo),Heap.get?_push_size _ rfl⟩
theorem qF:eJ X (.builtin "len") (fun xs H Q=>∃ p ys,xs=[.ref p]/\(mY X.K H p ys\/iC X.K H p ys)/\Q (.int ys.length) H):=by
  intro pins s σ H xs us Q I r h;obtain ⟨p,ys,rfl,hq,q⟩:=h;obtain ⟨u,rfl,rx⟩:=il r;cases rx;have hn:=lM;rcases hq with hq | hq
  · obtain ⟨its,r',pl,hz⟩:=I.list hq;have hlen:=r'.length;exact Calls.call_len_list pl.isList (by simp only [List.size_toArray] <;> omega) ⟨.int ys.length,H,I.tok _,⟨s.toks+1,by rw [List.size_toArray,hlen]⟩,q⟩
  · obtain ⟨its,r',pl,hz⟩:=I.tuple hq;have hlen:=r'.length;exact len_tuple pl (by simp only [List.size_toArray] <;> omega) ⟨.int ys.length,H,I.tok _,⟨s.toks+1,by rw [List.size_toArray,hlen]⟩,q⟩
theorem qG:eJ X (.builtin "len") (fun xs H Q=>∃ z,xs=[.str z]/\z.length<=sizeLine/\Q (.int z.length) H):=by
  intro pins s σ H xs us Q I r h;obtain ⟨z,rfl,hz,q⟩:=h;obtain ⟨u,rfl,t,rfl⟩:=il r;have hn:=lM;exact len_str (by omega) ⟨.int z.length,H,I.tok _,⟨_,rfl⟩,q⟩
theorem eJ.or {f:Value} {r r':List V->Hp->VK->Prop} (h:eJ X f r) (h':eJ X f r'):eJ X f (fun xs H Q=>r xs H Q\/r' xs H Q):=by
  intro pins s σ H xs us Q I rs q;rcases q with q | q
  · exact h pins s σ H xs us Q I rs q
  · exact h' pins s σ H xs us Q I rs q
theorem qH:eJ X (.type "list") (fun xs H Q=>∃ p ys,xs=[.ref p]/\(mY X.K H p ys\/iC X.K H p ys)/\∀ l,H l=none->Q (.ref l) (cP H l (.lst ys))):=by
  intro pins s σ H xs us Q I r h;obtain ⟨p,ys,rfl,hq,q⟩:=h;obtain ⟨u,rfl,rx⟩:=il r;cases rx;have fin:∀ (its:List Value),bA ys its->ys.length<=sizeLine->∀ (h':Heap) (c':Nat),(∀ b o',s.heap.get? b=some o'->h'.get? b=some o') ->
      h'.get? s.heap.objs.size=some { cls:=.type "list",dict:=none,data:=.seq its.toArray c',slots:=#[] }->EP X pins σ Q (.ref s.heap.objs.size) { s with heap:=h' }:=fun its r' hz h' c' kp e =>
    ⟨.ref s.heap.objs.size,_,I.laid (t':=s.toks) kp (Nat.le_refl _) (show bV X.prog X.w _ h' _ (.lst ys) from ⟨hz,its,c',r',e⟩),rfl,q _ (I.hok.fresh (Nat.le_refl _))⟩
  rcases hq with hq | hq
  · obtain ⟨its,r',pl,hz⟩:=I.list hq;have hlen:=r'.length;obtain ⟨o,ho,hc,n,hd⟩:=pl.isList;exact call_list_seq p (.inl rfl) ho hc hd (fun h' c' kp e=>fin its r' hz h' c' kp e) (by simp only [List.size_toArray] <;> omega)
  · obtain ⟨its,r',pl,hz⟩:=I.tuple hq;have hlen:=r'.length;obtain ⟨o,ho,hc,n,hd⟩:=pl;exact call_list_seq p (.inr rfl) ho hc hd (fun h' c' kp e=>fin its r' hz h' c' kp e) (by simp only [List.size_toArray] <;> omega)
theorem oY:eJ X (.type "tuple") (fun xs H Q=>∃ p ys,xs=[.ref p]/\((mY X.K H p ys/\∀ l,H l=none->Q (.ref l) (cP H l (.tup ys)))\/(iC X.K H p ys/\Q (.ref p) H))):=by
  intro pins s σ H xs us Q I r h;obtain ⟨p,ys,rfl,h⟩:=h;obtain ⟨u,rfl,rx⟩:=il r;cases rx;rcases h with ⟨hq,q⟩ | ⟨hq,q⟩
  · obtain ⟨its,r',pl,hz⟩:=I.list hq;have hlen:=r'.length;refine call_tuple_list pl.isList (fun h' kp=>?_) (by simp only [List.size_toArray] <;> omega);have I1:aL X pins σ H { s with heap:=h' }:=I.kept (t':=s.toks) kp;have I2:aL X pins σ (cP H h'.objs.size (.tup ys)) { s with heap:=h'.push { cls:=.type "tuple",data:=.seq its.toArray } } :=
      I1.laid (t':=s.toks) (fun b o e=>Heap.get?_push_of_some _ e) (Nat.le_refl _) (show bV X.prog X.w _ _ _ (.tup ys) from ⟨hz,its,r',gn.new _ _⟩)
    exact ⟨.ref h'.objs.size,_,I2,rfl,q _ (I1.hok.fresh (Nat.le_refl _))⟩
  · obtain ⟨its,r',pl,hz⟩:=I.tuple hq;exact call_tuple_same pl ⟨.ref p,H,I,rfl,q⟩
noncomputable def GH (K:PySem.W.Frag) (T:String) (x:V) (H:Hp):Prop:=match x with
  | .str _=>T = "str"
  | .int _=>T = "int"
  | .ref p=>(T = "list" /\ ∃ xs,mY K H p xs)\/(T = "tuple" /\ ((∃ o,K.lookup p=some o/\o.cls=.type "tuple" /\ o.dict=none)\/∃ xs,H p=some (.tup xs))) \/
      (T = "dict" /\ ((∃ kvs,H p=some (.dK kvs))\/∃ kvs,H p=some (.dT kvs)))\/(T = "set" /\ ∃ S n,H p=some (.set S n))
  | _=>False
theorem Du {pins:List (Addr×Obj)} {σ:St} {H:Hp} {s:Shared} {T:String} {x:V} {v:Value} (I:aL X pins σ H s) (r:bM x v) (ty:GH X.K T x H) :
    s.TypeIs v T/\∀ a,v=.ref a->∃ ob,s.heap.get? a=some ob/\ob.dict=none:=by
  cases x with
  | str z =>
    obtain ⟨t,rfl⟩:=r;cases (show T = "str" from ty);exact ⟨typeIs_str s z t,fun _ e=>nomatch e⟩
  | int i =>
    obtain ⟨t,rfl⟩:=r;cases (show T = "int" from ty);exact ⟨typeIs_int s i t,fun _ e=>nomatch e⟩
  | ref p =>
    cases r;rcases ty with ⟨rfl,xs,hq⟩ | ⟨rfl,⟨o,hk,hc,hd⟩ | ⟨xs,hk⟩⟩ | ⟨rfl,hk⟩ | ⟨rfl,S,n,hk⟩
    · obtain ⟨its,_,pl,_⟩:=I.list hq;refine ⟨pl.isList.typeIs,fun a e=>?_⟩;cases e;obtain ⟨o,n,e,c,hd,_⟩:=pl;exact ⟨o,e,hd⟩
    · refine ⟨⟨o,I.kIn p o hk,hc⟩,fun a e=>?_⟩;cases e;exact ⟨o,I.kIn _ o hk,hd⟩
    · obtain ⟨_,_,_,o,e1,e2,_,e3⟩:=(show bV X.prog X.w H s.heap p (.tup xs) from I.hok p _ hk)
      refine ⟨⟨o,e1,e2⟩,fun a e=>?_⟩;cases e;exact ⟨o,e1,e3⟩
    · have z:∃ o,s.heap.get? p=some o/\o.ExactDict:=by
        rcases hk with ⟨kvs,hk⟩ | ⟨kvs,hk⟩
        · obtain ⟨_,_,_,_,o,_,_,e,ex,_⟩:=I.hok p _ hk;exact ⟨o,e,ex⟩
        · obtain ⟨_,_,_,_,o,_,_,e,ex,_⟩:=I.hok p _ hk;exact ⟨o,e,ex⟩
      obtain ⟨o,e,ex⟩:=z;refine ⟨⟨o,e,ex.1⟩,fun a e2=>?_⟩;cases e2;exact ⟨o,e,ex.2.1⟩
    · obtain ⟨o,_,_,_,e,ex,_⟩:=I.hok p _ hk;refine ⟨⟨o,e,ex.1⟩,fun a e2=>?_⟩;cases e2;exact ⟨o,e,ex.2.1⟩
  | _=>exact False.elim ty
noncomputable def GU (K:PySem.W.Frag) (T:String) (r:V->List V->Hp->VK->Prop) (to:TE) (t:TA):TE:=fun σ H Q=>to σ H fun x H1=>GH K T x H1/\t σ H1 fun xs H2=>r x xs H2 Q
variable {o e:Expr} {es:List Expr} {to:TE} {t:TA} {name:Str} {apos cpos:Pos} {T id:String} {r:V->List V->Hp->VK->Prop}
theorem BA (pa:PlainAttrs T) (slot:Slot T name id) (hty:typeOf (.builtin id)=pure (.type "method_descriptor")) (hm:GK X id r) (ho:PE X o to) (ha:PA X (e::es) t)
    (hbase:attributeBase o name X.env (eval o X.env)=eval o X.env:=by rfl)
    (hfew:((backTo cpos (starEach (e::es) X.env)).all (fun x=>!x.1)&&(backToKw cpos (keywordEach [] X.env)).all (fun x=>x.1.isSome)
      && decide ((e::es).length+([]:List Keyword).length+(if ([]:List Keyword).isEmpty then 0 else 1) < 30))=true:=by rfl)
    (hline:(apos.endLine==cpos.line)=true:=by rfl) (hs:starEach (e::es) X.env=(false,eval e X.env)::starEach es X.env:=by rfl) (hplain:(backTo cpos (starEach es X.env)).any (·.1)=false:=by rfl) :
    PE X (.Call (.Attribute o name apos) (e::es) [] cpos) (GU X.K T r to t):=by
  intro pins s σ H Q I h;refine wpAny_Call_method_late hbase hfew hline rfl (dm (ho pins s σ H _ I h) fun v s1 zq0=>?_);obtain ⟨x,H1,I1,r1,ty,q1⟩:=zq0;obtain ⟨h1,h2⟩:=Du I1 r1 ty;refine ⟨T,id,pa,slot,hty,h1,h2,?_⟩;have hA:=ha cpos pins s1 σ H1 _ I1 q1;rw [hs] at hA ⊢;refine Calls.callWith_builtin (by show (false||(backTo cpos (starEach es X.env)).any (·.1))=false;rw [hplain] <;> rfl) (Calls.evalArgs_plain ?_);exact dm hA fun us s2 ⟨vs,H2,I2,r2,q2⟩=>hm pins s2 σ H2 x vs v us Q I2 r1 r2 q2
end
noncomputable def Gy (X:Cx) (id:String) (r:V->List V->Hp->VK->Prop):Prop :=
  ∀ (pins:List (Addr×Obj)) (s:Shared) (σ:St) (H:Hp) (x:V) (xs:List V) (v:Value) (us:List Value) (Q:VK),aL X pins σ H s->bM x v->bA xs us->r x xs H Q ->
    wpAny (model X.prog X.w) X.A (call (.builtin id) (v::us)) (EP X pins σ Q) X.xe s
theorem bA.one:∀ {x:V} {us:List Value},bA [x] us->∃ u,us=[u]/\bM x u
  | _,_,.cons r .nil=>⟨_,rfl,r⟩
theorem bA.reverse {xs:List V} {us:List Value} (h:bA xs us):bA xs.reverse us.reverse:=by
  induction h with
  | nil=>exact .nil
  | cons r t ih=>rw [List.reverse_cons,List.reverse_cons];exact bA.append ih (.cons r .nil)
theorem bA.rep {xs:List V} {us:List Value} (h:bA xs us):∀ k:Nat,bA (List.replicate k xs).flatten (List.replicate k us).flatten
  | 0=>.nil
  | k+1=>by
    rw [List.replicate_succ,List.replicate_succ,List.flatten_cons,List.flatten_cons];exact bA.append h (bA.rep h k)
theorem pr (its:List Value):∀ (k:Nat) (acc:List Value),
    List.foldl (fun x1 x2=>x1++x2) acc.toArray (List.replicate k its.toArray)=(acc++(List.replicate k its).flatten).toArray
  | 0,acc=>by simp
  | k+1,acc=>by
    have e:acc.toArray++its.toArray=(acc++its).toArray:=by simp
    have e2:(acc++its)++(List.replicate k its).flatten=acc++(List.replicate (k+1) its).flatten:=by
      rw [List.replicate_succ,List.flatten_cons,List.append_assoc]
    rw [<- e2,<- pr its k (acc++its),<- e,List.replicate_succ,List.foldl_cons]
section
variable {X:Cx} {pins:List (Addr×Obj)} {σ:St} {H:Hp} {s:Shared} {l b:Addr} {xs ys zs:List V}
theorem aL.lset {its its':List Value} {n:Nat} {f:Array Value->Array Value} {t':Nat} (I:aL X pins σ H s) (hH:H l=some (.lst xs))
    (e:s.heap.get? l=some { cls:=.type "list",data:=.seq its.toArray n }) (hf:f its.toArray=its'.toArray) (hv:bA ys its') (hz:ys.length<=sizeLine) :
    aL X pins σ (cP H l (.lst ys)) { s with heap:=s.heap.update l (Obj.mapSeq f),toks:=t' }:=by
  have q:=PySem.IsL.update e f;rw [hf] at q;refine I.write (x:=l) (e:=l) (by rw [hH];exact trivial) (.inl rfl) (fun b' u hb hu=>(Heap.get?_update_other s.heap (Obj.mapSeq f) (Ne.symm hb)).trans hu) ⟨_,q⟩ ?_;exact ⟨hz,its',_,hv,q⟩
theorem aL.lnew {its:List Value} {t':Nat} (I:aL X pins σ H s) (hv:bA ys its) (hz:ys.length<=sizeLine) :
    aL X pins σ (cP H s.heap.objs.size (.lst ys)) { s with heap:=s.heap.push { cls:=.type "list",data:=.seq its.toArray },toks:=t' } :=
  I.laid (fun _ _ q=>Heap.get?_push_of_some _ q) (Nat.le_refl _) ⟨hz,its,0,hv,Heap.get?_push_size _ rfl⟩
theorem aL.fresh (I:aL X pins σ H s):H s.heap.objs.size=none:=I.hok.fresh (Nat.le_refl _)
theorem aL.lstM (I:aL X pins σ H s) (hH:H l=some (.lst xs)):xs.length<=sizeLine/\∃ (its:List Value) (n:Nat),bA xs its/\xs.length=its.length/\s.heap.get? l=some { cls:=.type "list",data:=.seq its.toArray n }:=by
  obtain ⟨z,its,n,r,e⟩:=I.hok l _ hH;exact ⟨z,its,n,r,r.length,e⟩
theorem yG {n:Nat} (h:n<=sizeLine):Builtin.List.listTooLong n=false:=by
  unfold Builtin.List.listTooLong;exact decide_eq_false (by omega)
end
section
variable {X:Cx}
noncomputable def A2:V->List V->Hp->VK->Prop:=fun x vs H Q=>∃ l xs y,x=.ref l/\vs=[y]/\H l=some (.lst xs)/\xs.length < sizeLine/\Q .non (cP H l (.lst (xs++[y])))
theorem pJ:Gy X "list.append" A2:=by
  intro pins s σ H x vs v us Q I rx rv h;obtain ⟨l,xs,y,rfl,rfl,hH,hz,q⟩:=h;cases rx;obtain ⟨u,rfl,ru⟩:=rv.one;obtain ⟨z,its,n,r,hl,e⟩:=I.lstM hH;refine call_meets F.slot_list_append ⟨_,e,rfl⟩ F.entry_list_append (F.args_list_append_2 _ _) (PySem.list_append l its.toArray n u (by rw [List.size_toArray];omega)) ⟨e,?_⟩;refine ⟨.non,_,I.lset (its':=its++[u]) hH e (by simp) (r.append (.cons ru .nil)) ?_,rfl,q⟩;rw [List.length_append,List.length_singleton];omega
theorem vL {α:Type} (xs:List α) (k:Nat):(List.replicate k xs).flatten.length=k*xs.length:=by
  induction k with
  | zero=>simp
  | succ k ih=>rw [List.replicate_succ,List.flatten_cons,List.length_append,ih,Nat.succ_mul,Nat.add_comm]
end
end L2
namespace Att
open PySem PySem.W PySem.Calls PyProof.Rows
theorem mx {P:Params} {h:Heap}:∀ (ns:List Int) (vs:List Value),WellAll P h vs (ns.map WData.int)->IntsAre vs ns:=by
  intro ns;induction ns with
  | nil =>
    intro vs w;rw [List.map_nil] at w;cases w;exact .nil
  | cons n ns ih =>
    intro vs w;rw [List.map_cons] at w;cases w with
    | cons a b =>
      cases a;exact .cons _ _ (ih _ b)
theorem xq {l:OpenLaw} {n:Nat} (hn:l.most=some n) {P:Params} {h:Heap} {args:List WData} {vals:List Value}
    (hpre:l.row.toRowW.claim.pre args=true) (hwl:WellAll P h vals args) :
    ∃ a vs ns,vals=[Value.ref a]/\args=[WData.list (ns.map WData.int)]/\h.get? a=some { cls:=.type "list",data:=.seq vs.toArray }/\IntsAre vs ns/\ns.length<=n:=by
  have hsh:WShape.hasAll [] args [.list .int]=true:=(pre_splitW hpre).1;have hc:l.pre.holds [] { args:=args }=true:=(pre_splitW hpre).2;obtain ⟨d,r,rfl,h1,h2⟩:=hasAllW_cons hsh;obtain rfl:=hasAllW_nil h2;obtain ⟨xs,rfl,h3⟩:=hasW_list h1;obtain ⟨ns,rfl⟩:=items_int h3;have hlen:ns.length<=n:=by
    unfold OpenLaw.pre at hc;have h4:(WTm.not (.lt (.lit (.int (n:Int))) (.len (.arg 0)))).holds [] { args:=[.list (ns.map .int)] }=true:=by
      have h4:=(holds_andW hc).1;rw [hn] at h4;exact h4
    have h5:=condW_of h4 (w_not (w_lt w_lit (w_len_list (w_arg rfl))));rw [List.length_map] at h5;refine Nat.le_of_not_lt fun q=>?_
    have q':(n:Int) < ((ns.length:Nat):Int):=by omega
    first
      | (rw [decide_eq_true q'] at h5;exact absurd h5 (by decide))
      | (simp at h5;omega)
  cases hwl with
  | cons w1 w2 =>
    cases w2;cases w1 with
    | list ho hall=>exact ⟨_,_,ns,rfl,rfl,ho,mx ns _ hall,hlen⟩
theorem xm (l:OpenLaw) (args:List WData):l.row.toRowW.claim.post args (.bool true) args=true :=
  postW_of (r:=l.row.toRowW) (X:=(true==true))
    (show WShape.has [] (.bool true) .bool=true by first | rfl | decide | simp [WShape.has,WShape.arms,WShape.armsAll])
    (show (WTm.eq .res (.lit (.bool true))).value [] { args:=args,res:=some (.bool true),after:=args }=some (.bool (true==true)) from w_eq_bool (w_res rfl) w_lit) rfl
theorem attach_call {l:OpenLaw} {n:Nat} {q:Program} {loose:List Str} {XP:(Str->Option Value)->Heap->Prop} {YP:World->Heap->Prop} {d:DefRec}
    (hn:l.most=some n) (hdf:d.params.defaults=[])
    (call:∀ (w:World) (s₀ s₁:Shared) (mg mb:Str->Option Value) (fa:Addr) (o:Obj) (pm cd doc:Value) (a:Addr) (vs:List Value) (ns:List Int),
      Ground q loose [] XP w s₀ mg mb s₁.heap->YP w s₁.heap ->
      s₁.heap.get? fa=some o->o.data=.func (docDef d.name d.params d.body d.scope pm cd doc)->s₁.heap.CodeRec cd d.name->mg d.name=some (.ref fa) ->
      s₁.heap.get? a=some { cls:=.type "list",data:=.seq vs.toArray }->IntsAre vs ns->ns.length<=n->s₁.gens=#[] ->
      codeAny (model l.prog w) callerA (.call (.ref fa) ⟨[.ref a],[]⟩) (fun r s'=>r=.ok (.ret (.bool true))/\OldK s₁.heap s'.heap/\s'.os=s₁.os/\AllBare s'.gens) s₁) :
    WalkO q loose XP YP l.row.toRowW d [] (fun f vs=>PySem.call f vs):=by
  intro w s₀ s₁ mg mb G Y fa o pm cd doc dV kV ho hd hcd hD hmg hg args vals as hpre hlay hrd hwl hlo;obtain rfl:dV=.none:=Dflts.none hD hdf;obtain rfl:kV=.none:=Dflts.noKw hD;obtain ⟨a,vs,ns,rfl,rfl,hobj,hints,hlen⟩:=xq hn hpre hwl;refine enter_call (codeAny_mono (call w s₀ s₁ mg mb fa o pm cd doc a vs ns G Y ho (fd_plain hd) hcd hmg hobj hints hlen hg) fun r s' hq=>?_);obtain ⟨rfl,h2,h3,h4⟩:=hq;exact ⟨.inl ⟨.bool true,.bool true,[],rfl,fun _=>rfl,.bool true,xm l _,fun _=>⟨List.Pairwise.nil,fun _ hm=>(nomatch hm)⟩⟩,h2,h3,h4⟩
end Att
namespace L2
open PySem PySem.Spec PyProof.Rows
theorem jS:∀ {vs:List Value} {ns:List Int},IntsAre vs ns->bA (ns.map V.int) vs
  | _,_,.nil=>.nil
  | _,_,.cons n t h=>.cons ⟨t,rfl⟩ (jS h)
noncomputable def DH (H:Hp):Prop:=∀ b,H b=none\/∃ o xs,H b=some (.frz o (.lst xs))
theorem yz {P:Program} {w:World} {K:PySem.W.Frag} {mg mb:Str->Option Value} {CX:xD} {k:Nat} {fa a:Addr} {fd:FuncData} {x:Str} {sp:Sp} {s₁:Shared} {vs:List Value} {ns:List Int}
    (KX:K.In s₁.heap) (hns:s₁.heap.Ns mainGlobals mg) (hb:s₁.heap.Ns builtinsNs mb) (hbb:∀ x:Str,x ≠ "__name__" -> mb x=bootBuiltins x) (hlim:s₁.heap.NoLimit) (hg:s₁.gens=#[])
    (ha:s₁.heap.get? a=some { cls:=.type "list",data:=.seq vs.toArray }) (hi:IntsAre vs ns) (hl:ns.length<=sizeLine) (hr:e8 k callerA)
    (F:∀ base:Heap,K.In base->base.Ns mainGlobals mg->aY P w K mg base CX k fa fd [x] sp) (hbind:∀ (s:Shared) (u:Value),BindsTo s fd ⟨[u],[]⟩ [(x,u)])
    (hsp:∀ H:Hp,DH H->mY K H a (ns.map V.int)->sp [.ref a] H (fun v _=>v=.bl true) fun _ _ _=>False)
    (hCX:∀ H e s',CX [] H s₁ (fun _ _ _=>False) e s'->False) :
    codeAny (model P w) callerA (.call (.ref fa) ⟨[.ref a],[]⟩) (fun r s'=>r=.ok (.ret (.bool true))/\OldK s₁.heap s'.heap/\s'.os=s₁.os/\AllBare s'.gens) s₁:=by
  have rv:=jS hi;have lenV:=hi.length
  -- from an abstract heap in which nothing but the script may be tracked
  have core:∀ H:Hp,DH H->mY K H a (ns.map V.int)->gX P w H s₁.heap->(∀ b,H b≠none->b=a)->(H a≠none->K.lookup a=none) ->
      codeAny (model P w) callerA (.call (.ref fa) ⟨[.ref a],[]⟩) (fun r s'=>r=.ok (.ret (.bool true))/\OldK s₁.heap s'.heap/\s'.os=s₁.os/\AllBare s'.gens) s₁:=by
    intro H hO hS hok hA hK;have base_of:∀ {b:Addr} {o:Obj},s₁.heap.get? b=some o->H b=none->(qM s₁.heap H).get? b=some o:=fun e n=>ym e n
    have noA:∀ {b:Addr} {o:Obj} {es:Array DictEntry} {ep:Nat},s₁.heap.get? b=some o->o.data=.dict es ep->H b=none:=fun {b o es ep} e d=>by
      cases q:H b with
      | none=>rfl
      | some u =>
        have e':b=a:=hA b (by rw [q];simp);subst e';rw [ha] at e;cases e;have d':Data.seq vs.toArray _=Data.dict es ep:=d;cases d'
    have nsK:∀ {b:Addr} {m:Str->Option Value},s₁.heap.Ns b m->(qM s₁.heap H).Ns b m:=fun {b m} ⟨o,es,ep,e,d,r⟩=>⟨o,es,ep,base_of e (noA e d),d,r⟩
    have hKb:K.In (qM s₁.heap H):=fun b o e=>base_of (KX b o e) (by
      cases q:H b with
      | none=>rfl
      | some u =>
        have e':b=a:=hA b (by rw [q];simp);subst e';rw [hK (by rw [q];simp)] at e;cases e)
    have hM:Mod K mg (qM s₁.heap H):=⟨hKb,nsK hns,⟨mb,nsK hb,hbb⟩,let ⟨mc,h1,h2⟩:=hlim;⟨mc,nsK h1,h2⟩⟩
    have e0:tP P w K mg (qM s₁.heap H) callerA [] s₁ H:=⟨rfl,hM,fun b o e=>AI e,Nat.le_of_eq (wY _ _),trivial,fun b hb=>absurd (show b∈([]:List Addr) from hb) (by simp),hok,.of_eq hg⟩
    refine codeAny_mono ((F _ hKb (nsK hns)).run callerA [] s₁ H ⟨[.ref a],[]⟩ [.ref a] [.ref a] _ _ hr e0 (hbind s₁ (.ref a)) (.cons rfl .nil) (hsp H hO hS)) fun r s' h=>?_
    cases r with
    | error e=>exact (hCX H e s' h).elim
    | ok fl =>
      cases fl with
      | next=>exact False.elim h
      | brk=>exact False.elim h
      | cont=>exact False.elim h
      | ret u =>
        obtain ⟨v,H',os,bare,un,hok',r',q⟩:=h;have q':v=.bl true:=q;subst q';obtain rfl:u=Value.bool true:=r';refine ⟨rfl,OldK.of_keep fun b o e=>?_,os,bare⟩;cases q:H b with
        | none=>exact un.keep b o e q (by intro z;exact absurd (show b∈([]:List Addr) from z) (by simp)) (by simp)
        | some u =>
          rcases hO b with z | ⟨ob,xs,z⟩
          · rw [q] at z;cases z
          · have z2:=un.frzs b ob _ z;obtain ⟨e1,_⟩:=hok b _ z;obtain ⟨e2,_⟩:=hok' b _ z2;rw [e] at e1;cases e1;exact e2
  cases hk:K.lookup a with
  | some o =>
    -- the script is one of the module's own objects
    have e:=KX a o hk;rw [ha] at e;cases e;refine core (fun _=>none) (fun _=>.inl rfl) (.inr ⟨_,vs.toArray,_,hk,rfl,rfl,rfl,by rw [List.size_toArray,lenV];exact hl,by simpa using rv⟩) (fun b u z=>by have z':(none:Option HO)=some u:=z;cases z') (fun b z=>absurd rfl z) fun z=>absurd rfl z
  | none =>
    refine core (fun b=>if b=a then some (.frz { cls:=.type "list",data:=.seq vs.toArray } (.lst (ns.map V.int))) else none) (fun b=>?_) (.inl (.inr ⟨{ cls:=.type "list",data:=.seq vs.toArray },if_pos rfl⟩)) (fun b u z=>?_) (fun b z=>?_) fun _=>hk
    · by_cases hb:b=a
      · exact .inr ⟨_,_,if_pos hb⟩
      · exact .inl (if_neg hb)
    · by_cases hb:b=a
      · have z':=(if_pos hb).symm.trans z;cases z';subst hb;exact ⟨ha,by rw [List.length_map];exact hl,vs,_,rv,ha⟩
      · have z':=(if_neg hb).symm.trans z;cases z'
    · by_cases hb:b=a
      · exact hb
      · exact absurd (if_neg hb) z
noncomputable def Ay (s:Stmt) (j:Nat):Stmt:=match s with
  | .ClassDef _ _ _ body _ _ _ _ _ _ _=>body.getD j (.Pass ⟨0,0,0,0⟩)
  | _=>.Pass ⟨0,0,0,0⟩
noncomputable def eo (s:Stmt):Arguments:=match s with
  | .FunctionDef _ a _ _ _ _ _ _ _ _=>a
  | _=>{ posonlyargs:=[],args:=[],vararg:=none,kwonlyargs:=[],kw_defaults:=[],kwarg:=none,defaults:=[] }
noncomputable def de (s:Stmt):List Stmt:=match s with
  | .FunctionDef _ _ b _ _ _ _ _ _ _=>b
  | _=>[]
noncomputable def ai (s:Stmt):Scope:=match s with
  | .FunctionDef _ _ _ _ _ _ sc _ _ _=>sc
  | _=>{ kind:=.function,names:=[],isGenerator:=false,isCoroutine:=false }
noncomputable abbrev Gw:xD:=fun _ _ _ _ _ _=>False
structure fX (K:PySem.W.Frag) (x qual:Str) (st:Stmt) (f:Addr) (fd:FuncData):Prop where
  ex:∃ (oc:Value) (od:Option Addr) (kV doc pm:Value) (an:Option Addr) (cdv ct:Value) (osl:Array (Option Value)),
    fd=PySem.W.fnOf x qual (eo st) (de st) (ai st) .none kV doc pm an cdv ct/\K.lookup f=some ⟨oc,od,.func fd,osl⟩/\PySem.W.codeIn K cdv qual=true
  kp:PySem.W.keepIn K (.ref f)=true
section
variable {P:Program} {w:World} {K:PySem.W.Frag} {mg:Str->Option Value} {base:Heap}
theorem fX.ok {x qual:Str} {st:Stmt} {f:Addr} {fd:FuncData} {N ps:List Str} {k:Nat} {sp:Sp} (F:fX K x qual st f fd) (S:aS N ps (ai st)) (len:∀ vs H Q E,sp vs H Q E->vs.length=ps.length)
    (hbody:∀ (cdv:Value) (A:Around) (outer:List Env) (s:Shared) (H:Hp) (vs:List V) (Q:VK) (E:XK),e8 k (A.deeper (envOfC qual (ai st) s.heap.objs.size f cdv))->sp vs H Q E ->
      ∃ t,qe (fN Gw P w K mg base N qual (ai st) f cdv A outer s H E).nox (de st) t/\t { nx:=fun _ H'=>Q .non H',rt:=Q } (i6 N vs) H):aY P w K mg base Gw (k+1) f fd ps sp:=by
  obtain ⟨oc,od,kV,doc,pm,an,cdv,ct,osl,rfl,lk,hcd⟩:=F.ex;refine yk lk hcd S len fun A outer s H vs Q E hr hsp=>?_
  obtain ⟨t,h,q⟩:=hbody cdv A outer s H vs Q E hr hsp;exact ⟨t,h.nox,q⟩
theorem fX.binds {x qual:Str} {st:Stmt} {f:Addr} {fd:FuncData} {ps:List Str} (F:fX K x qual st f fd)
    (h:∀ (kV doc pm:Value) (an:Option Addr) (cdv ct:Value) (us:List Value),us.length=ps.length->bindArgs (PySem.W.fnOf x qual (eo st) (de st) (ai st) .none kV doc pm an cdv ct) ⟨us,[]⟩=pure (ps.zip us)):bB K fd ps []:=by
  obtain ⟨oc,od,kV,doc,pm,an,cdv,ct,osl,rfl,lk,hcd⟩:=F.ex;exact .all (h kV doc pm an cdv ct)
theorem uu {x qual:Str} {st:Stmt} {f:Addr} {oc:Value} {od an:Option Addr} {osl:Array (Option Value)} {kV doc pm cdv ct:Value} (l:K.lookup f=some ⟨oc,od,.func (PySem.W.fnOf x qual (eo st) (de st) (ai st) .none kV doc pm an cdv ct),osl⟩)
    (c:PySem.W.codeIn K cdv qual=true) (k:PySem.W.keepIn K (.ref f)=true):fX K x qual st f (PySem.W.fnOf x qual (eo st) (de st) (ai st) .none kV doc pm an cdv ct):=⟨⟨oc,od,kV,doc,pm,an,cdv,ct,osl,rfl,l,c⟩,k⟩
end
section
variable {X:Cx}
theorem pv (i:Nat) {x:Str} {pos:Pos} (hN:X.N[i]?=some x:=by rfl) (hv:BV X.env.scope x:=by first | exact Or.inl rfl | exact Or.inr (Or.inl rfl) | exact Or.inr (Or.inr rfl)) (hd:(x==("__debug__" : Str))=false:=by decide)
    (hcd:(x==("__classdict__" : Str))=false:=by decide):PE X (.Name x pos) (E1 i):=kz hN hv hd hcd
end
noncomputable def aF (H H':Hp):Prop:=∀ b o,H b=some o->H' b=some o
theorem aF.refl (H:Hp):aF H H:=fun _ _ h=>h
theorem aF.trans {H H1 H2:Hp} (a:aF H H1) (b:aF H1 H2):aF H H2:=fun c o h=>b c o (a c o h)
theorem aF.free {H H':Hp} (e:aF H H') {l:Addr} (h:H' l=Option.none):H l=Option.none:=by
  cases q:H l with
  | none=>rfl
  | some o =>
    rw [e l o q] at h;cases h
section
variable {κ:Type} [DecidableEq κ]
noncomputable def jZ (kvs:List (κ×V)) (k:κ):Option V:=(kvs.find? fun kv=>decide (kv.1=k)).map (·.2)
noncomputable def lf (kvs:List (κ×V)) (k:κ) (v:V):List (κ×V) :=
  if (kvs.any fun kv=>decide (kv.1=k))=true then kvs.map (fun kv=>if kv.1=k then (kv.1,v) else kv) else kvs++[(k,v)]
theorem oH {p:κ×V} {r:List (κ×V)} {k:κ} (e:p.1=k):jZ (p::r) k=some p.2:=by simp [jZ,List.find?_cons,e]
theorem oG {p:κ×V} {r:List (κ×V)} {k:κ} (e:¬ p.1=k):jZ (p::r) k=jZ r k:=by simp [jZ,List.find?_cons,e]
theorem tu (k:κ):∀ kvs:List (κ×V),(kvs.any fun kv=>decide (kv.1=k))=(jZ kvs k).isSome
  | []=>rfl
  | p::r=>by
    rw [List.any_cons];by_cases e:p.1=k
    · simp only [oH e,decide_eq_true e,Bool.true_or,Option.isSome_some]
    · rw [oG e,decide_eq_false e,Bool.false_or];exact tu k r
theorem l5 (kvs:List (κ×V)) (k:κ) (v:V):(lf kvs k v).length<=kvs.length+1:=by
  unfold lf;split
  · rw [List.length_map];omega
  · rw [List.length_append,List.length_cons,List.length_nil];omega
theorem ki.isSome_eq {o:Option V} {u:Option Value} (r:ki o u):o.isSome=u.isSome:=by
  cases o with
  | none=>cases u with
    | none=>rfl
    | some _=>exact (show False from r).elim
  | some _=>cases u with
    | none=>exact (show False from r).elim
    | some _=>rfl
theorem ki.getD {o:Option V} {u:Option Value} {d:V} {d':Value} (r:ki o u) (rd:bM d d'):bM (o.getD d) (u.getD d'):=by
  cases o with
  | none=>cases u with
    | none=>exact rd
    | some _=>exact (show False from r).elim
  | some _=>cases u with
    | none=>exact (show False from r).elim
    | some _=>exact r
theorem KV.val {kvs:List (κ×V)} {vs:List (κ×Value)} (r:KV kvs vs) (k:κ):ki (jZ kvs k) (valueAt vs k):=by
  unfold KV at r;induction r with
  | nil=>exact True.intro
  | @cons p q ps qs h t ih =>
    obtain ⟨h1,h2⟩:=h;by_cases e:p.1=k
    · have e':q.1=k:=h1.symm.trans e;have b:valueAt (q::qs) k=some q.2:=by simp [valueAt,List.find?_cons,e']
      rw [oH e,b];exact h2
    · have e':¬ q.1=k:=fun z=>e (h1.trans z)
      have b:valueAt (q::qs) k=valueAt qs k:=by simp [valueAt,List.find?_cons,e']
      rw [oG e,b];exact ih
theorem KV.any {kvs:List (κ×V)} {vs:List (κ×Value)} (r:KV kvs vs) (k:κ):(kvs.any fun kv=>decide (kv.1=k))=vs.any fun kv=>decide (kv.1=k):=by
  unfold KV at r;induction r with
  | nil=>rfl
  | cons h t ih=>rw [List.any_cons,List.any_cons,ih,h.1]
theorem KV.repl {kvs:List (κ×V)} {vs:List (κ×Value)} (r:KV kvs vs) (k:κ) {y:V} {u:Value} (ry:bM y u) :
    KV (kvs.map fun kv=>if kv.1=k then (kv.1,y) else kv) (vs.map fun kv=>if kv.1=k then (kv.1,u) else kv):=by
  unfold KV at r ⊢;induction r with
  | nil=>exact .nil
  | @cons p q ps qs h t ih =>
    rw [List.map_cons,List.map_cons];refine .cons ?_ ih;obtain ⟨h1,h2⟩:=h;by_cases e:p.1=k
    · rw [if_pos e,if_pos (h1.symm.trans e)];exact ⟨h1,ry⟩
    · rw [if_neg e,if_neg (fun z=>e (h1.trans z))];exact ⟨h1,h2⟩
theorem KV.put {kvs:List (κ×V)} {vs:List (κ×Value)} (r:KV kvs vs) (k:κ) {y:V} {u:Value} (ry:bM y u):KV (lf kvs k y) (stored vs k u):=by
  unfold lf stored;rw [r.any k];by_cases e:(vs.any fun kv=>decide (kv.1=k))=true
  · rw [if_pos e,if_pos e];exact r.repl k ry
  · rw [if_neg e,if_neg e];exact Paired.snoc r ⟨rfl,ry⟩
theorem KV.keys {kvs:List (κ×V)} {vs:List (κ×Value)} (r:KV kvs vs):kvs.map (·.1)=vs.map (·.1):=by
  unfold KV at r;induction r with
  | nil=>rfl
  | cons h t ih=>rw [List.map_cons,List.map_cons,ih,h.1]
theorem KV.length {kvs:List (κ×V)} {vs:List (κ×Value)} (r:KV kvs vs):kvs.length=vs.length:=Paired.length r
end
theorem sI {P:Program} {w:World} {k:dq} {u:Value} (r:bM (kV k) u):(dC P w).is k u=true:=by
  cases k with
  | inl i=>obtain ⟨t,e⟩:=(show ∃ t,u=Value.int i t from r);subst e;exact sK P w i t
  | inr x=>obtain ⟨t,e⟩:=(show ∃ t,u=Value.str x t from r);subst e;exact sL P w x t
theorem pD {P:Program} {w:World}:∀ {ks:List dq} {us:List Value},bA (ks.map kV) us->ItemsAre (dC P w) ks us
  | [],_,r=>by rw [List.map_nil] at r;cases r;exact .nil
  | k::ks,_,r=>by
    rw [List.map_cons] at r;cases r with
    | cons h t=>exact .cons (sI h) (pD t)
noncomputable abbrev KT (H:Hp):List (List dq×V)->List (List dq×Addr×Value)->Prop:=Paired fun p q=>p.1=q.1/\H q.2.1=some (.tup (p.1.map kV))/\bM p.2 q.2.2
theorem KT.val {H:Hp} {kvs:List (List dq×V)} {xs:List (List dq×Addr×Value)} (r:KT H kvs xs) (k:List dq):ki (jZ kvs k) ((atKey xs k).map (·.2)):=by
  induction r with
  | nil=>exact True.intro
  | @cons p q ps qs h t ih =>
    obtain ⟨h1,_,h2⟩:=h;by_cases e:p.1=k
    · have e':q.1=k:=h1.symm.trans e;have b:atKey (q::qs) k=some q.2:=by simp [atKey,List.find?_cons,e']
      rw [oH e,b];exact h2
    · have e':¬ q.1=k:=fun z=>e (h1.trans z)
      have b:atKey (q::qs) k=atKey qs k:=by simp [atKey,List.find?_cons,e']
      rw [oG e,b];exact ih
theorem KT.repl {H:Hp} {kvs:List (List dq×V)} {xs:List (List dq×Addr×Value)} (r:KT H kvs xs) (k:List dq) {y:V} {u:Value} (ry:bM y u) :
    KT H (kvs.map fun kv=>if kv.1=k then (kv.1,y) else kv) (xs.map (putAt k u)):=by
  induction r with
  | nil=>exact .nil
  | @cons p q ps qs h t ih =>
    rw [List.map_cons,List.map_cons];refine .cons ?_ ih;obtain ⟨h1,h2,h3⟩:=h;unfold putAt;by_cases e:p.1=k
    · rw [if_pos e,if_pos (h1.symm.trans e)];exact ⟨h1,h2,ry⟩
    · rw [if_neg e,if_neg (fun z=>e (h1.trans z))];exact ⟨h1,h2,h3⟩
theorem KT.put {H:Hp} {kvs:List (List dq×V)} {xs:List (List dq×Addr×Value)} (r:KT H kvs xs) (k:List dq) {b:Addr} {y:V} {u:Value} (hb:H b=some (.tup (k.map kV))) (ry:bM y u) :
    KT H (lf kvs k y) (storedH xs k b u):=by
  have e:(kvs.any fun kv=>decide (kv.1=k))=(atKey xs k).isSome:=by
    rw [tu,(r.val k).isSome_eq,Option.isSome_map]
  unfold lf storedH;rw [e];by_cases q:(atKey xs k).isSome=true
  · rw [if_pos q,if_pos q];exact r.repl k ry
  · rw [if_neg q,if_neg q];exact Paired.snoc r ⟨rfl,hb,ry⟩
theorem KT.keeps {H H':Hp} {kvs:List (List dq×V)} {xs:List (List dq×Addr×Value)} (r:KT H kvs xs) (ht:∀ b ys,H b=some (.tup ys)->H' b=some (.tup ys)):KT H' kvs xs :=
  Paired.mapP r fun _ _ z=>⟨z.1,ht _ _ z.2.1,z.2.2⟩
section
variable {P:Program} {w:World} {H:Hp} {h:Heap} {a:Addr}
theorem BF {u:HO} (ok:gX P w H h) (e:Rd H a u):bV P w H h a u:=e.ok ok
theorem nH {kvs:List (dq×V)} (ok:gX P w H h) (e:Rd H a (.dK kvs)):kvs.length<=sizeLine/\(a==sysModules)=false/\∃ vs,KV kvs vs/\h.DictOf (dC P w) a vs :=
  show bV P w H h a (.dK kvs) from BF ok e
theorem DW {kvs:List (dq×V)} (ok:gX P w H h) (e:H a=some (.dK kvs)):kvs.length<=sizeLine/\(a==sysModules)=false/\∃ vs,KV kvs vs/\h.DictOf (dC P w) a vs:=nH ok (.inl e)
theorem nX {ks:List dq} (ok:gX P w H h) (e:H a=some (.tup (ks.map kV))):(tupleKind (dC P w)).is h ks a:=by
  obtain ⟨_,its,r,o,h1,h2,⟨n,h3⟩,_⟩:=(show bV P w H h a (.tup (ks.map kV)) from ok a _ e)
  exact ⟨o,its.toArray,n,h1,h2,h3,by simpa using pD r⟩
theorem su {kvs:List (List dq×V)} (ok:gX P w H h) (e:Rd H a (.dT kvs)):kvs.length<=sizeLine/\(a==sysModules)=false /\
    ∃ xs,KT H kvs xs/\h.DictOfH (tupleKind (dC P w)) a xs:=by
  obtain ⟨z,y,xs,r,o,es,ep,h1,h2,h3,h4,h5⟩:=(show bV P w H h a (.dT kvs) from BF ok e)
  refine ⟨z,y,xs,r,o,es,ep,h1,h2,h3,h4,fun x hx=>?_,h5⟩;have all:∀ {l:List (List dq×V)} {m:List (List dq×Addr×Value)},KT H l m->∀ x∈m,(tupleKind (dC P w)).is h x.1 x.2.1:=by
    intro l m q;induction q with
    | nil=>intro x hx;exact nomatch hx
    | @cons p q ps qs hq t ih =>
      intro x hx;rcases List.mem_cons.mp hx with e | hx
      · subst e;exact nX ok (by rw [<- hq.1];exact hq.2.1)
      · exact ih x hx
  exact all r x hx
theorem DY {kvs:List (List dq×V)} (ok:gX P w H h) (e:H a=some (.dT kvs)):kvs.length<=sizeLine/\(a==sysModules)=false /\
    ∃ xs,KT H kvs xs/\h.DictOfH (tupleKind (dC P w)) a xs:=su ok (.inl e)
end
noncomputable def mS (H:Hp) (a:Addr) (y:V) (r:Option V):Prop :=
  (∃ kvs k,Rd H a (.dK kvs)/\y=kV k/\r=jZ kvs k)\/∃ kvs k b,Rd H a (.dT kvs)/\y=.ref b/\H b=some (.tup (k.map kV))/\r=jZ kvs k
noncomputable def tI (H:Hp) (a:Addr) (y v:V) (H':Hp):Prop :=
  (∃ kvs k,H a=some (.dK kvs)/\y=kV k/\kvs.length < sizeLine/\H'=cP H a (.dK (lf kvs k v))) \/
  ∃ kvs k b,H a=some (.dT kvs)/\y=.ref b/\H b=some (.tup (k.map kV))/\kvs.length < sizeLine/\H'=cP H a (.dT (lf kvs k v))
theorem mS.k {H:Hp} {a:Addr} {kvs:List (dq×V)} {k:dq} (e:H a=some (.dK kvs)):mS H a (kV k) (jZ kvs k):=.inl ⟨kvs,k,.inl e,rfl,rfl⟩
theorem mS.t {H:Hp} {a b:Addr} {kvs:List (List dq×V)} {k:List dq} (e:H a=some (.dT kvs)) (eb:H b=some (.tup (k.map kV))):mS H a (.ref b) (jZ kvs k):=.inr ⟨kvs,k,b,.inl e,rfl,eb,rfl⟩
theorem tI.k {H:Hp} {a:Addr} {kvs:List (dq×V)} {k:dq} {v:V} (e:H a=some (.dK kvs)) (hl:kvs.length < sizeLine):tI H a (kV k) v (cP H a (.dK (lf kvs k v))):=.inl ⟨kvs,k,e,rfl,hl,rfl⟩
theorem tI.t {H:Hp} {a b:Addr} {kvs:List (List dq×V)} {k:List dq} {v:V} (e:H a=some (.dT kvs)) (eb:H b=some (.tup (k.map kV))) (hl:kvs.length < sizeLine) :
    tI H a (.ref b) v (cP H a (.dT (lf kvs k v))):=.inr ⟨kvs,k,b,e,rfl,eb,hl,rfl⟩
section
variable {X:Cx} {pins:List (Addr×Obj)} {σ:St} {H:Hp} {s:Shared} {a:Addr} {y v:V} {u r:Value} {o:Option V} {A:Around} {E:Value->Shared->Prop}
theorem aL.big (I:aL X pins σ H s):sysModules < s.heap.objs.size:=by
  have h:mainGlobals < s.heap.objs.size:=(I.mod.glob.keeps I.bk).lt;exact Nat.lt_trans (by decide) h
theorem wO {Q:Value->Shared->Prop} (hu:A.units+1 < cLine) (I:aL X pins σ H s) (g:mS H a y (some v)) (ry:bM y u) (h:∀ w' s',aL X pins σ H s'->bM v w'->Q w' s') :
    wpAny (model X.prog X.w) A (getItem (.ref a) u) Q E s:=by
  rcases g with ⟨kvs,k,e,ey,l⟩ | ⟨kvs,k,b,e,ey,eb,l⟩
  · subst ey;obtain ⟨z,hd,vs,rel,dd⟩:=nH I.hok e;obtain ⟨w',hw,rw'⟩:=ki.some_of (v:=v) (o:=valueAt vs k) (by rw [l];exact rel.val k);exact wpAny_getItem_of (sI ry) dd.mapOf hw (h w' _ (I.tok _) rw')
  · subst ey;cases (show u=Value.ref b from ry);obtain ⟨z,hd,xs,rel,dd⟩:=su I.hok e;obtain ⟨w',hw,rw'⟩:=ki.some_of (v:=v) (o:=(atKey xs k).map (·.2)) (by rw [l];exact rel.val k);obtain ⟨p,hp,hp2⟩:=Option.map_eq_some_iff.mp hw;refine wpAny_getItem_heap (tupleKind_room_in1 hu) (nX I.hok eb) dd hp ?_;rw [hp2];exact h w' _ (I.tok _) rw'
theorem FT {Q:Value->Shared->Prop} (hu:A.units+1 < cLine) (I:aL X pins σ H s) (g:mS H a y o) (ry:bM y u) (h:∀ s',aL X pins σ H s'->Q (.bool o.isSome) s') :
    wpAny (model X.prog X.w) A (compareOp .In u (.ref a)) Q E s:=by
  rcases g with ⟨kvs,k,e,ey,l⟩ | ⟨kvs,k,b,e,ey,eb,l⟩
  · subst ey;obtain ⟨z,hd,vs,rel,dd⟩:=nH I.hok e;refine wpAny_in_of (sI ry) hd dd.mapOf ?_;rw [<- (rel.val k).isSome_eq,<- l];exact h _ (I.tok _)
  · subst ey;cases (show u=Value.ref b from ry);obtain ⟨z,hd,xs,rel,dd⟩:=su I.hok e;refine wpAny_in_heap (tupleKind_room_in1 hu) (nX I.hok eb) hd dd ?_;have q:=(rel.val k).isSome_eq;rw [Option.isSome_map] at q;rw [<- q,<- l];exact h _ (I.tok _)
theorem Al {Q:Value->Shared->Prop} (hu:A.units+1 < cLine) (I:aL X pins σ H s) (g:mS H a y o) (ry:bM y u) (h:∀ s',aL X pins σ H s'->Q (.bool (!o.isSome)) s') :
    wpAny (model X.prog X.w) A (compareOp .NotIn u (.ref a)) Q E s:=by
  rcases g with ⟨kvs,k,e,ey,l⟩ | ⟨kvs,k,b,e,ey,eb,l⟩
  · subst ey;obtain ⟨z,hd,vs,rel,dd⟩:=nH I.hok e;refine wpAny_notIn_of (sI ry) hd dd.mapOf ?_;rw [<- (rel.val k).isSome_eq,<- l];exact h _ (I.tok _)
  · subst ey;cases (show u=Value.ref b from ry);obtain ⟨z,hd,xs,rel,dd⟩:=su I.hok e;refine wpAny_notIn_heap (tupleKind_room_in1 hu) (nX I.hok eb) hd dd ?_;have q:=(rel.val k).isSome_eq;rw [Option.isSome_map] at q;rw [<- q,<- l];exact h _ (I.tok _)
theorem vo {h':Heap} {t':Nat} {ob:HO} (I:aL X pins σ H s) (mu:DG (H a)) (hs:Heap.SameBut a s.heap h') (he:∃ q,h'.get? a=some q) (new:bV X.prog X.w (cP H a ob) h' a ob) :
    aL X pins σ (cP H a ob) { s with heap:=h',toks:=t' } :=
  I.write (x:=a) (e:=a) mu (.inl rfl) (fun b q hb z=>(hs.2 b hb).trans z) he new
theorem Cb {P:Program} {w:World} {H':Hp} {h':Heap} {kvs:List (dq×V)} {vs:List (dq×Value)} (z:kvs.length<=sizeLine) (hd:(a==sysModules)=false) (rel:KV kvs vs) (dd:h'.DictOf (dC P w) a vs) :
    bV P w H' h' a (.dK kvs):=⟨z,hd,vs,rel,dd⟩
theorem wP {H':Hp} {Q:Unit->Shared->Prop} (hu:A.units+1 < cLine) (I:aL X pins σ H s) (g:tI H a y v H') (ry:bM y u) (rv:bM v r) (h:∀ s',aL X pins σ H' s'->Q () s') :
    wpAny (model X.prog X.w) A (setItem (.ref a) u r) Q E s:=by
  rcases g with ⟨kvs,k,e,ey,l,eH⟩ | ⟨kvs,k,b,e,ey,eb,l,eH⟩
  · subst ey eH;obtain ⟨z,hd,vs,rel,dd⟩:=DW I.hok e;have hz:vs.length<=sizeLine:=by rw [<- rel.length];exact z
    have hl:(lf kvs k v).length<=sizeLine:=by have:=l5 kvs k v;omega
    refine wpAny_setItem_pairs (hsz:=hz) (sI ry) dd fun h' dd' hs=>h _ ?_
    have he:∃ q,h'.get? a=some q:=let ⟨q,_,_,hq,_⟩:=dd';⟨q,hq⟩
    exact vo I (by rw [e];exact True.intro) hs he (Cb hl hd (rel.put k rv) dd')
  · subst ey eH;cases (show u=Value.ref b from ry);obtain ⟨z,hd,xs,rel,dd⟩:=DY I.hok e;have hz:xs.length<=sizeLine:=by rw [<- Paired.length rel];exact z
    have hl:(lf kvs k v).length<=sizeLine:=by have:=l5 kvs k v;omega
    refine wpAny_setItem_heap (hsz:=hz) (tupleKind_room_in1 hu) (nX I.hok eb) dd fun h' dd' hs=>h _ ?_
    obtain ⟨q,es,ep,hq,h2,h3,h4,_,h5⟩:=dd';refine vo I (by rw [e];exact True.intro) hs ⟨q,hq⟩ ⟨hl,hd,_,(rel.put k eb rv).keeps fun c ys ec=>?_,q,es,ep,hq,h2,h3,h4,h5⟩;rw [av (Ei ec e (fun z=>nomatch z))];exact ec
end
section
variable {X:Cx} {pins:List (Addr×Obj)} {σ:St} {H:Hp} {s:Shared} {a:Addr} {kvs:List (dq×V)} {k:dq} {u:Value} {A:Around} {E:Value->Shared->Prop}
theorem DV {Q:Value->Shared->Prop} (I:aL X pins σ H s) (e:Rd H a (.dK kvs)) (h:∀ t s',aL X pins σ H s'->Q (.int kvs.length t) s'):wpAny (model X.prog X.w) A (call (.builtin "len") [.ref a]) Q E s:=by
  obtain ⟨z,hd,vs,rel,dd⟩:=nH I.hok e;refine call_len_dict hd dd (by rw [<- rel.length];rw [sizeLine_eq] at z;omega) ?_;rw [<- rel.length];exact h _ _ (I.tok _)
end
theorem sr {X:Cx} {pins:List (Addr×Obj)} {σ:St} {H:Hp} {s:Shared} {a:Addr} {y:V} {o:Option V} (I:aL X pins σ H s) (g:mS H a y o):s.TypeIs (.ref a) "dict" := by
  rcases g with ⟨kvs,k,e,_,_⟩ | ⟨kvs,k,b,e,_,_,_⟩
  · obtain ⟨_,_,vs,_,dd⟩:=nH I.hok e;exact dd.typeIs
  · obtain ⟨_,_,xs,_,dd⟩:=su I.hok e;exact dd.typeIs
noncomputable def EG (td ty tv:TE):TS:=fun D σ H=>tv σ H fun v H1=>td σ H1 fun x H2=>ty σ H2 fun y H3=>∃ a H4,x=.ref a/\tI H3 a y v H4/\D.nx σ H4
section
variable {X:Cx} {o i e value:Expr} {pos pos' tpos:Pos} {td ty tv:TE}
theorem AZ (hu:X.A.units+1 < cLine) (ho:PE X o td) (hi:PE X i ty) (hv:PE X value tv) (hs:swapsWith value (some (.Subscript o i pos')) pos.line X.env=pure false) :
    PS X (.Assign [.Subscript o i pos'] value pos) (EG td ty tv):=by
  intro pins s σ H D I h;refine wpAny_Assign_Subscript (dm (hv pins s σ H _ I h) fun r s1 ⟨v,H1,I1,rv,q1⟩=>dm (ho pins s1 σ H1 _ I1 q1) fun u s2 ⟨x,H2,I2,rx,q2⟩=>dm (hi pins s2 σ H2 _ I2 q2) fun iv s3 zq0=>?_) hs;obtain ⟨y,H3,I3,ry,a,H4,ex,g,q3⟩:=zq0;subst ex;obtain rfl:u=Value.ref a:=rx;exact wP hu I3 g ry rv fun s4 I4=>⟨σ,H4,I4,q3⟩
end
theorem yc {P:Program} {w:World} {H:Hp} (h:Heap) (hb:sysModules < h.objs.size):bV P w H (h.push { cls:=.type "dict",data:=.dict #[] }) h.objs.size (.dK []) :=
  ⟨Nat.zero_le _,beq_eq_false_iff_ne.mpr (Ne.symm (Nat.ne_of_lt hb)),[],.nil,Heap.DictOf.new h⟩
noncomputable def Dq:TE:=fun _ H Q=>∀ p,H p=none->Q (.ref p) (cP H p (.dK []))
section
variable {X:Cx} {pos:Pos}
theorem yS:PE X (.Dict [] [] pos) Dq:=fun pins s σ H Q I h =>
  wpAny_Dict_empty ⟨.ref s.heap.objs.size,_,I.laid (a:=s.heap.objs.size) (o:=.dK []) (t':=s.toks) (fun _ _ q=>Heap.get?_push_of_some _ q) (Nat.le_refl _) (yc s.heap I.big),rfl,h _ (I.hok.fresh (Nat.le_refl _))⟩
end
end L2
set_option maxHeartbeats 4000000
namespace D2
open PySem PySem.Spec PyProof.Rows L2
noncomputable def rP (base:Heap) (l:List Env) (e:Addr) (cls a0:Value) (h:Heap):Prop:=base.StaysIn h/\base.get? e=none/\h.FunFrames base l/\∃ fl,h.TracedAtW base e cls a0 fl
theorem rP.of {base h:Heap} {l:List Env} {e:Addr} {cls a0:Value} (x:Heap.FlyingW base l e cls a0 h):rP base l e cls a0 h:=⟨x.1,x.2.1,x.2.2.1,.none,x.2.2.2⟩
section
variable {M:Model} {A:Around} {E:Value->Shared->Prop} {s:Shared} {base:Heap} {l:List Env} {env:Env} {outer:List Env} {L e:Addr} {cls a0:Value} {Q:Unit->Shared->Prop}
theorem Bk {h:Heap}:h.UpToSlots h:=fun b o hb _=>⟨o.slots,hb⟩
theorem tt (hfr:A.frames=some (env::outer)) (hf:env.frame=some L) (t:rP base (env::outer) e cls a0 s.heap)
    (hQ:∀ h',rP base (env::outer) e cls a0 h'->s.heap.UpToSlots h'->Q () { s with heap:=h' }):wpAny M A (noteFrame (.ref e) env) Q E s:=by
  have t':=t;obtain ⟨hkb,hen,hl,fl,oe,vs,T,oT,ts,he,⟨hcls,h0⟩,hd,h1,hnT,hTe,hT,hdT,h3⟩:=t;subst hcls;unfold noteFrame;simp only [hf];refine wpAny_bind (wpAny_field he hd h1 ?_);rw [if_pos (show (Value.ref T != Value.none)=true from by simp)];refine wpAny_bind (wpAny_field hT hdT h3 ?_);by_cases hfl:(fl==rawInt L)=true
  · rw [if_pos hfl];exact wpAny_pure (hQ s.heap t' Bk)
  · rw [if_neg hfl];refine wpAny_bind (wpAny_setField hT hdT (Array.getElem?_eq_some_iff.mp h3).1 ?_);have other:∀ b,b≠T->(s.heap.update T (Obj.mapFields (·.setIfInBounds 3 Value.none))).get? b=s.heap.get? b:=fun b hb=>Heap.get?_update_other _ _ (Ne.symm hb)
    have noRecord:∀ b o,s.heap.get? b=some o->(∀ vs,o.data≠.fields vs)->b≠T:=fun b o hb hnf q=>by
      rw [q,hT] at hb;injection hb with hb;subst hb;exact hnf ts hdT
    refine wpAny_entryW hfr (hl.of_keeps fun b o hb hnf=>⟨o,(other b (noRecord b o hb hnf)).trans hb,rfl⟩) hf ((other e (Ne.symm hTe)).trans he)
      (fun b o hbo=>(other b fun q=>by rw [q,hnT] at hbo;cases hbo).trans (hkb b o hbo)) hen hd (Array.getElem?_eq_some_iff.mp h1).1 h0
      fun h' ⟨x1,x2,x3,x4⟩=>hQ h' ⟨x1,hen,x2,_,x3⟩ fun b o hb hnf=>x4 b o ((other b (noRecord b o hb hnf)).trans hb) hnf
theorem u0 (f:Option Addr) (t:rP base l e cls a0 s.heap) (hQ:∀ h',rP base l e cls a0 h'->s.heap.UpToSlots h'->Q () { s with heap:=h' }):wpAny M A (setFlight (.ref e) f) Q E s:=by
  obtain ⟨hkb,hen,hl,fl,oe,vs,T,oT,ts,he,hcls,hd,h1,hnT,hTe,hT,hdT,h3⟩:=t;have hsz3:3 < ts.size:=(Array.getElem?_eq_some_iff.mp h3).1;have other:∀ b,b≠T->(s.heap.update T (Obj.mapFields (·.setIfInBounds 3 (f.elim Value.none fun f=>rawInt f)))).get? b=s.heap.get? b :=
    fun b hb=>Heap.get?_update_other _ _ (Ne.symm hb)
  have noRecord:∀ b o,s.heap.get? b=some o->(∀ vs,o.data≠.fields vs)->b≠T:=fun b o hb hnf q=>by
    rw [q,hT] at hb;injection hb with hb;subst hb;exact hnf ts hdT
  unfold setFlight;refine wpAny_bind (wpAny_field he hd h1 ?_);rw [if_pos (show (Value.ref T != Value.none)=true from by simp)];refine wpAny_setField hT hdT hsz3 (hQ _ ⟨fun b o hbo=>(other b fun q=>by rw [q,hnT] at hbo;cases hbo).trans (hkb b o hbo),hen,
    hl.of_keeps fun b o hb hnf=>⟨o,(other b (noRecord b o hb hnf)).trans hb,rfl⟩,(f.elim Value.none fun f=>rawInt f),?_⟩ fun b o hb hnf=>⟨o.slots,(other b (noRecord b o hb hnf)).trans hb⟩)
  exact ⟨oe,vs,T,_,_,(other e (Ne.symm hTe)).trans he,hcls,hd,h1,hnT,hTe,Heap.get?_update_self _ hT (Obj.isFreed_of_fields (Obj.data_mapFields hdT _)),Obj.data_mapFields hdT _,by simp [hsz3]⟩
theorem zx (t:rP base l e cls a0 s.heap) (hQ:∀ h',Heap.FlyingW base l e cls a0 h'->s.heap.UpToSlots h'->Q () { s with heap:=h' }):wpAny M A (setFlight (.ref e) none) Q E s:=by
  obtain ⟨hkb,hen,hl,fl,ht⟩:=t;exact wpAny_setFlight_noneW hkb hl ht fun h' k1 k2 k3 k4=>hQ h' ⟨k1,hen,k2,k3⟩ fun b o hb hn=>⟨o.slots,k4 b o hb hn⟩
theorem xy (hfr:A.frames=some (env::outer)) (hf:env.frame=some L) (t:rP base (env::outer) e cls a0 s.heap)
    (hQ:∀ h',Heap.FlyingW base outer e cls a0 h'->s.heap.UpToSlots h'->Q () { s with heap:=h' }):wpAny M A (leaving env (.ref e)) Q E s:=by
  unfold leaving;refine wpAny_bind (tt hfr hf t fun h1 t1 u1=>?_);refine zx (s:={ s with heap:=h1 }) t1 fun h2 t2 u2=>?_
  obtain ⟨k1,k2,⟨_,_,k3⟩,k4⟩:=t2;exact hQ h2 ⟨k1,k2,k3,k4⟩ (u1.trans u2)
theorem zw {α:Type} {k:Value->Sem α} {Q:α->Shared->Prop} (t:rP base l e cls a0 s.heap) (hQ:∀ T,wpAny M A (k (.ref T)) Q E s):wpAny M A (field (.ref e) 1>>=k) Q E s:=by
  obtain ⟨hkb,hen,hl,fl,oe,vs,T,oT,ts,he,hcls,hd,h1,r⟩:=t;exact wpAny_bind (wpAny_field he hd h1 (hQ T))
theorem zy {α:Type} {what:String} {Q:α->Shared->Prop} (t:rP base l e cls a0 s.heap) (hQ:∀ h',rP base l e cls a0 h'->s.heap.UpToSlots h'->E (.ref e) { s with heap:=h' }):wpAny M A (PySem.passOn what (.ref e) env:Sem α) Q E s:=by
  unfold PySem.passOn;refine zw t fun T=>?_
  rw [if_neg (show ¬ ((Value.ref T==Value.none)=true) from by simp)];refine wpAny_bind (u0 _ t fun h' t' u=>?_);exact wpAny_throw (hQ h' t' u)
theorem rP.first {h:Heap} (x:rP base l e cls a0 h):∃ oe vs,h.get? e=some oe/\oe.cls=cls/\oe.data=.fields vs/\vs[0]?=some a0 :=
  let ⟨_,_,_,_,oe,vs,_,_,_,he,hc,hd,_⟩:=x;⟨oe,vs,he,hc.1,hd,hc.2⟩
end
noncomputable abbrev St:=L2.St
noncomputable abbrev aL:=@L2.aL
noncomputable def fU:dq->PyData
  | .inl i=>.int i
  | .inr x=>.str x
mutual
noncomputable def Rp (H:Hp):PyData->V->Prop
  | .none,v=>v=.non
  | .bool b,v=>v=.bl b
  | .int i,v=>v=.int i
  | .str x,v=>v=.str x
  | .tuple ds,v=>∃ a vs,v=.ref a/\H a=some (.tup vs)/\bx H ds vs
  | .list ds,v=>∃ a o vs,v=.ref a/\H a=some (.frz o (.lst vs))/\bx H ds vs
  | .dict kvs,v=>(∃ a o ks,v=.ref a/\H a=some (.frz o (.dK ks))/\eF H kvs ks)\/∃ a o C dx fs,v=.ref a/\H a=some (.frz o (.ins C dx fs))/\xG H C fs kvs
noncomputable def bx (H:Hp):List PyData->List V->Prop
  | [],vs=>vs=[]
  | d::ds,vs=>∃ v r,vs=v::r/\Rp H d v/\bx H ds r
noncomputable def eF (H:Hp):List (PyData×PyData)->List (dq×V)->Prop
  | [],ks=>ks=[]
  | kd::kvs,ks=>∃ x v r,ks=(x,v)::r/\zK H kd x v/\eF H kvs r
noncomputable def zK (H:Hp):PyData×PyData->dq->V->Prop
  | (k,d),x,v=>k=fU x/\Rp H d v
noncomputable def xG (H:Hp) (C:Addr) (fs:List (Str×V)):List (PyData×PyData)->Prop
  | []=>False
  | kd::kvs=>kd=(.none,.int C)/\tD H kvs fs
noncomputable def tD (H:Hp):List (PyData×PyData)->List (Str×V)->Prop
  | [],fs=>fs=[]
  | kd::kvs,fs=>∃ x v r,fs=(x,v)::r/\Bp H kd x v/\tD H kvs r
noncomputable def Bp (H:Hp):PyData×PyData->Str->V->Prop
  | (k,d),x,v=>k=.str x/\Rp H d v
end
noncomputable def l4:List (PyData×PyData)->Bool
  | (.none,_)::_=>true
  | _=>false
noncomputable def Kp (H H':Hp):Prop:=(∀ b xs,H b=some (.tup xs)->H' b=some (.tup xs))/\∀ b o u,H b=some (.frz o u)->H' b=some (.frz o u)
theorem Kp.trans {H H1 H2:Hp} (a:Kp H H1) (b:Kp H1 H2):Kp H H2:=⟨fun c xs h=>b.1 c xs (a.1 c xs h),fun c o u h=>b.2 c o u (a.2 c o u h)⟩
theorem Kp.of {H H':Hp} (s:aF H H'):Kp H H':=⟨fun b xs h=>s b _ h,fun b o u h=>s b _ h⟩
mutual
theorem Rp.kp {H H':Hp} (k:Kp H H'):∀ (d:PyData) (v:V),Rp H d v->Rp H' d v
  | .none,v,h=>by simpa only [Rp] using h
  | .bool b,v,h=>by simpa only [Rp] using h
  | .int i,v,h=>by simpa only [Rp] using h
  | .str x,v,h=>by simpa only [Rp] using h
  | .tuple ds,v,h=>by
    simp only [Rp] at h ⊢;obtain ⟨a,vs,e,ha,r⟩:=h;exact ⟨a,vs,e,k.1 _ _ ha,bx.kp k ds vs r⟩
  | .list ds,v,h=>by
    simp only [Rp] at h ⊢;obtain ⟨a,o,vs,e,ha,r⟩:=h;exact ⟨a,o,vs,e,k.2 _ _ _ ha,bx.kp k ds vs r⟩
  | .dict kvs,v,h=>by
    simp only [Rp] at h ⊢;rcases h with ⟨a,o,ks,e,ha,r⟩ | ⟨a,o,C,dx,fs,e,ha,r⟩
    · exact .inl ⟨a,o,ks,e,k.2 _ _ _ ha,eF.kp k kvs ks r⟩
    · exact .inr ⟨a,o,C,dx,fs,e,k.2 _ _ _ ha,xG.kp k C fs kvs r⟩
theorem bx.kp {H H':Hp} (k:Kp H H'):∀ (ds:List PyData) (vs:List V),bx H ds vs->bx H' ds vs
  | [],vs,h=>by simpa only [bx] using h
  | d::ds,vs,h=>by
    simp only [bx] at h ⊢;obtain ⟨v,r,e,h1,h2⟩:=h;exact ⟨v,r,e,Rp.kp k d v h1,bx.kp k ds r h2⟩
theorem eF.kp {H H':Hp} (k:Kp H H'):∀ (kvs:List (PyData×PyData)) (ks:List (dq×V)),eF H kvs ks->eF H' kvs ks
  | [],ks,h=>by simpa only [eF] using h
  | kd::kvs,ks,h=>by
    simp only [eF] at h ⊢;obtain ⟨x,v,r,e,h1,h2⟩:=h;exact ⟨x,v,r,e,zK.kp k kd x v h1,eF.kp k kvs r h2⟩
theorem zK.kp {H H':Hp} (k:Kp H H'):∀ (kd:PyData×PyData) (x:dq) (v:V),zK H kd x v->zK H' kd x v
  | (c,d),x,v,h=>by
    simp only [zK] at h ⊢;exact ⟨h.1,Rp.kp k d v h.2⟩
theorem xG.kp {H H':Hp} (k:Kp H H') (C:Addr) (fs:List (Str×V)):∀ (kvs:List (PyData×PyData)),xG H C fs kvs->xG H' C fs kvs
  | [],h=>by simpa only [xG] using h
  | kd::kvs,h=>by
    simp only [xG] at h ⊢;exact ⟨h.1,tD.kp k kvs fs h.2⟩
theorem tD.kp {H H':Hp} (k:Kp H H'):∀ (kvs:List (PyData×PyData)) (fs:List (Str×V)),tD H kvs fs->tD H' kvs fs
  | [],fs,h=>by simpa only [tD] using h
  | kd::kvs,fs,h=>by
    simp only [tD] at h ⊢;obtain ⟨x,v,r,e,h1,h2⟩:=h;exact ⟨x,v,r,e,Bp.kp k kd x v h1,tD.kp k kvs r h2⟩
theorem Bp.kp {H H':Hp} (k:Kp H H'):∀ (kd:PyData×PyData) (x:Str) (v:V),Bp H kd x v->Bp H' kd x v
  | (c,d),x,v,h=>by
    simp only [Bp] at h ⊢;exact ⟨h.1,Rp.kp k d v h.2⟩
end
theorem Rp.mono {H H':Hp} {d:PyData} {v:V} (h:Rp H d v) (s:aF H H'):Rp H' d v:=Rp.kp (Kp.of s) d v h
theorem bx.mono {H H':Hp} {ds:List PyData} {vs:List V} (h:bx H ds vs) (s:aF H H'):bx H' ds vs:=bx.kp (Kp.of s) ds vs h
noncomputable def iA (H:Hp):PyData->V->Prop
  | .list ds,v=>∃ a vs,v=.ref a/\H a=some (.lst vs)/\bx H ds vs
  | .dict kvs,v=>∃ a ks,v=.ref a/\H a=some (.dK ks)/\eF H kvs ks
  | _,_=>False
theorem iA.mono {H H':Hp} {d:PyData} {v:V} (h:iA H d v) (s:aF H H'):iA H' d v:=by
  cases d <;> simp only [iA] at h ⊢
  · obtain ⟨a,vs,e,ha,r⟩:=h;exact ⟨a,vs,e,s _ _ ha,bx.mono r s⟩
  · obtain ⟨a,vs,e,ha,r⟩:=h;exact ⟨a,vs,e,s _ _ ha,eF.kp (Kp.of s) _ _ r⟩
noncomputable def gW (H:Hp) (d:PyData) (v:V):Prop:=Rp H d v\/iA H d v
theorem gW.mono {H H':Hp} {d:PyData} {v:V} (h:gW H d v) (s:aF H H'):gW H' d v:=h.elim (fun h=>.inl (h.mono s)) fun h=>.inr (h.mono s)
noncomputable def Dy (H H':Hp) (d:PyData) (v:V):Prop:=iA H' d v/\∃ a,v=.ref a/\H a=none
inductive bt where
  | non
  | val (d:PyData)
  | own (d:PyData)
  | exc (p:Addr)
noncomputable abbrev aT:=List bt
noncomputable def i9 (H:Hp):bt->Option V->Prop
  | .non,_=>True
  | .val d,o=>∃ v,o=some v/\Rp H d v
  | .own d,o=>∃ v,o=some v/\iA H d v
  | .exc p,o=>o=some (.ref p)
noncomputable def Sl (H:Hp) (σ:St) (ρ:aT):Prop:=σ.length=ρ.length/\∀ (i:Nat) (c:bt) (o:Option V),ρ[i]?=some c->σ[i]?=some o->i9 H c o
theorem i9.mono {H H':Hp} {c:bt} {o:Option V} (h:i9 H c o) (s:aF H H'):i9 H' c o:=by
  cases c <;> simp only [i9] at h ⊢
  · obtain ⟨v,e,h⟩:=h;exact ⟨v,e,h.mono s⟩
  · obtain ⟨v,e,h⟩:=h;exact ⟨v,e,h.mono s⟩
  · exact h
theorem Sl.mono {H H':Hp} {σ:St} {ρ:aT} (h:Sl H σ ρ) (s:aF H H'):Sl H' σ ρ:=⟨h.1,fun i c o h1 h2=>(h.2 i c o h1 h2).mono s⟩
inductive R (α:Type) where
  | ok (a:α)
  | ex (c:Str)
  | no
noncomputable def R.bind {α β:Type}:R α->(α->R β)->R β
  | .ok a,f=>f a
  | .ex c,_=>.ex c
  | .no,_=>.no
noncomputable instance:Monad R where
  pure:=.ok
  bind:=R.bind
@[simp] theorem R.ok_bind {α β:Type} (a:α) (f:α->R β):(R.ok a>>=f)=f a:=rfl
@[simp] theorem R.ex_bind {α β:Type} (c:Str) (f:α->R β):((R.ex c:R α)>>=f)=.ex c:=rfl
@[simp] theorem R.no_bind {α β:Type} (f:α->R β):((R.no:R α)>>=f)=.no:=rfl
@[simp] theorem R.pure_ok {α:Type} (a:α):(pure a:R α)=.ok a:=rfl
structure BR (P:Program) (w:World) (outer:List Env) (H:Hp) (s:Shared) (C:Addr) (H':Hp) (e:Value) (s':Shared):Prop where
  os:s'.os=s.os
  bare:AllBare s'.gens
  same:aF H H'
  ex:∃ (p:Addr) (a0:Value) (B:Heap),e=.ref p/\Heap.FlyingW B outer p (.ref C) a0 s'.heap/\gX P w H' B/\H' p=none/\∀ b o,s.heap.get? b=some o->H b=none->b∉lx outer->B.get? b=some o/\H' b=none
  slot:∀ b o,s.heap.get? b=some o->H b=none->b∈lx outer->(∃ sl,s'.heap.get? b=some { o with slots:=sl })/\H' b=none
structure qc (P:Program) (w:World) (outer:List Env) (H:Hp) (s:Shared) (C:Addr) (H':Hp) (e:Value) (s':Shared):Prop where
  os:s'.os=s.os
  bare:AllBare s'.gens
  same:aF H H'
  ex:∃ (p:Addr) (a0:Value) (B:Heap),e=.ref p/\rP B outer p (.ref C) a0 s'.heap/\gX P w H' B/\H' p=none/\∀ b o,s.heap.get? b=some o->H b=none->b∉lx outer->B.get? b=some o/\H' b=none
  slot:∀ b o,s.heap.get? b=some o->H b=none->b∈lx outer->(∃ sl,s'.heap.get? b=some { o with slots:=sl })/\H' b=none
theorem BR.hld {P:Program} {w:World} {outer:List Env} {H:Hp} {s:Shared} {C:Addr} {H':Hp} {e:Value} {s':Shared} (f:BR P w outer H s C H' e s'):qc P w outer H s C H' e s' :=
  ⟨f.os,f.bare,f.same,let ⟨p,a0,B,h1,h2,h3⟩:=f.ex;⟨p,a0,B,h1,rP.of h2,h3⟩,f.slot⟩
noncomputable def cQ (P:Program) (w:World) (mg:Str->Option Value):xD:=fun outer H s E e s'=>∃ n C H',mg n=some (.ref C)/\BR P w outer H s C H' e s'/\E (.str n 0) none H'
noncomputable def EX (X:Cx):XK:=fun v _ H'=>∀ (n:Str) (C:Addr),v=.str n 0->X.mg n=some (.ref C)->∀ (pins:List (Addr×Obj)) (σ:St) (H:Hp) (s:Shared) (e:Value) (s':Shared),aL X pins σ H s->BR X.prog X.w X.stack H s C H' e s'->X.xe e s'
theorem vV {X:Cx}:mW (cQ X.prog X.w X.mg) X (EX X):=fun pins σ H s e s' I ⟨n,C,H',hm,f,q⟩=>q n C rfl hm pins σ H s e s' I f
noncomputable def Xw (X:Cx) (c:Str) (H:Hp):Prop:=∀ H1,aF H H1->∀ (C:Addr),X.mg c=some (.ref C)->∀ (pins:List (Addr×Obj)) (σ:St) (Hc:Hp) (s:Shared) (e:Value) (s':Shared),aL X pins σ Hc s->qc X.prog X.w X.stack Hc s C H1 e s'->X.xe e s'
theorem Xw.mono {X:Cx} {c:Str} {H H':Hp} (h:Xw X c H) (s:aF H H'):Xw X c H':=fun H1 s1=>h H1 (s.trans s1)
theorem Xw.ex {X:Cx} {c:Str} {H:Hp} (h:Xw X c H):∀ H1,aF H H1->EX X (.str c 0) none H1:=fun H1 s1 n C en hm pins σ Hc s e s' I f=>by
  have en':c=n:=by injection en
  subst en';exact h H1 s1 C hm pins σ Hc s e s' I f.hld
noncomputable def DK (X:Cx) (c:Str) (Fm:Hp):Prop:=∀ C,X.mg c=some (.ref C)->∀ (pins:List (Addr×Obj)) (σ:St) (H:Hp) (s:Shared),aF Fm H->aL X pins σ H s->∀ (h':Heap) (p:Addr) (vs:List Value),Heap.MadeExcOf s.heap h' p (.ref C) vs->X.xe (.ref p) { s with heap:=h' }
theorem DK.mono {X:Cx} {c:Str} {H H':Hp} (h:DK X c H) (s:aF H H'):DK X c H':=fun C hm pins σ H1 s1 e=>h C hm pins σ H1 s1 (s.trans e)
noncomputable def v7 (X:Cx) (P:Hp->Hp->PyData->V->Prop) (r:R PyData) (H:Hp) (Q:VK):Prop :=
  match r with
  | .ok d=>∀ v H',aF H H'->P H H' d v->Q v H'
  | .ex c=>Xw X c H
  | .no=>False
noncomputable abbrev im:Hp->Hp->PyData->V->Prop:=fun _ H' d v=>Rp H' d v
noncomputable abbrev ww:Hp->Hp->PyData->V->Prop:=fun _ H' d v=>gW H' d v
noncomputable abbrev Ff:Hp->Hp->PyData->V->Prop:=fun H H' d v=>Rp H' d v\/Dy H H' d v
noncomputable abbrev Fe:=aT->R PyData
noncomputable def jY (X:Cx) (P:Hp->Hp->PyData->V->Prop) (f:Fe):TE:=fun σ H Q=>∃ ρ,Sl H σ ρ/\v7 X P (f ρ) H Q
noncomputable def cY (X:Cx) (e:Expr) (f:Fe):Prop:=PE X e (jY X im f)
structure Z.cY (X:Cx) (e:Expr) (f:Fe):Prop where
  un:D2.cY X e f
noncomputable def eu (X:Cx) (e:Expr) (f:Fe):Prop:=PE X e (jY X ww f)
structure Z.eu (X:Cx) (e:Expr) (f:Fe):Prop where
  un:D2.eu X e f
noncomputable def zU (X:Cx) (e:Expr) (f:Fe):Prop:=PE X e (jY X Ff f)
structure Z.zU (X:Cx) (e:Expr) (f:Fe):Prop where
  un:D2.zU X e f
noncomputable def oO (X:Cx) (e:Expr) (f:Fe):Prop:=PE X e (jY X Dy f)
structure Z.oO (X:Cx) (e:Expr) (f:Fe):Prop where
  un:D2.oO X e f
noncomputable def RA (I:Hp->PyData->V->Prop) (H:Hp):List PyData->List V->Prop
  | [],vs=>vs=[]
  | d::ds,vs=>∃ v r,vs=v::r/\I H d v/\RA I H ds r
theorem og {H:Hp}:∀ {ds:List PyData} {vs:List V},RA Rp H ds vs<->bx H ds vs
  | [],vs=>by simp only [RA,bx]
  | d::ds,vs=>by simp only [RA,bx,og (ds:=ds)]
noncomputable def zc (X:Cx) (I:Hp->PyData->V->Prop) (f:aT->R (List PyData)):TA:=fun σ H Q=>∃ ρ,Sl H σ ρ/\match f ρ with
  | .ok ds=>∀ vs H',aF H H'->RA I H' ds vs->Q vs H'
  | .ex c=>Xw X c H
  | .no=>False
noncomputable def tx (X:Cx) (es:List Expr) (f:aT->R (List PyData)):Prop:=PA X es (zc X Rp f)
structure Z.tx (X:Cx) (es:List Expr) (f:aT->R (List PyData)):Prop where
  un:D2.tx X es f
noncomputable def BQ (X:Cx) (es:List Expr) (f:aT->R (List PyData)):Prop:=PA X es (zc X gW f)
noncomputable def A5 (X:Cx) (f:aT->R Bool):TT:=fun σ H Q=>∃ ρ,Sl H σ ρ/\match f ρ with
  | .ok b=>∀ H',aF H H'->Q b H'
  | .ex c=>Xw X c H
  | .no=>False
noncomputable def mD (X:Cx) (e:Expr) (f:aT->R Bool):Prop:=PT X e (A5 X f)
structure Z.mD (X:Cx) (e:Expr) (f:aT->R Bool):Prop where
  un:D2.mD X e f
noncomputable def xF (X:Cx) (e:Expr) (f:aT->R Bool):Prop:=PW X e (A5 X f)
structure Z.xF (X:Cx) (e:Expr) (f:aT->R Bool):Prop where
  un:D2.xF X e f
theorem PE.imp {X:Cx} {e:Expr} {t t':TE} (h:PE X e t) (i:∀ σ H Q,t' σ H Q->t σ H Q):PE X e t':=fun pins s σ H Q I q=>h pins s σ H Q I (i σ H Q q)
theorem PT.imp {X:Cx} {e:Expr} {t t':TT} (h:PT X e t) (i:∀ σ H Q,t' σ H Q->t σ H Q):PT X e t':=fun pins s σ H Q I q=>h pins s σ H Q I (i σ H Q q)
theorem PW.imp {X:Cx} {e:Expr} {t t':TT} (h:PW X e t) (i:∀ σ H Q,t' σ H Q->t σ H Q):PW X e t':=fun wh pins s σ H Q I q=>h wh pins s σ H Q I (i σ H Q q)
theorem PA.imp {X:Cx} {e:List Expr} {t t':TA} (h:PA X e t) (i:∀ σ H Q,t' σ H Q->t σ H Q):PA X e t':=fun pos pins s σ H Q I q=>h pos pins s σ H Q I (i σ H Q q)
theorem jY.post {X:Cx} {P:Hp->Hp->PyData->V->Prop} {f:Fe} {σ:St} {H:Hp} {Q Q':VK} (h:jY X P f σ H Q) (i:∀ v H',Q v H'->Q' v H'):jY X P f σ H Q':=by
  obtain ⟨ρ,sl,q⟩:=h;refine ⟨ρ,sl,?_⟩;cases e:f ρ with
  | ok d=>rw [e] at q;exact fun v H' s p=>i _ _ (q v H' s p)
  | ex c=>rw [e] at q;exact q
  | no=>rw [e] at q;exact q
theorem A5.post {X:Cx} {f:aT->R Bool} {σ:St} {H:Hp} {Q Q':Bool->Hp->Prop} (h:A5 X f σ H Q) (i:∀ b H',Q b H'->Q' b H'):A5 X f σ H Q':=by
  obtain ⟨ρ,sl,q⟩:=h;refine ⟨ρ,sl,?_⟩;cases e:f ρ with
  | ok d=>rw [e] at q;exact fun H' s=>i _ _ (q H' s)
  | ex c=>rw [e] at q;exact q
  | no=>rw [e] at q;exact q
theorem zc.post {X:Cx} {I:Hp->PyData->V->Prop} {f:aT->R (List PyData)} {σ:St} {H:Hp} {Q Q':List V->Hp->Prop} (h:zc X I f σ H Q) (i:∀ vs H',Q vs H'->Q' vs H'):zc X I f σ H Q':=by
  obtain ⟨ρ,sl,q⟩:=h;refine ⟨ρ,sl,?_⟩;cases e:f ρ with
  | ok d=>rw [e] at q;exact fun vs H' s p=>i _ _ (q vs H' s p)
  | ex c=>rw [e] at q;exact q
  | no=>rw [e] at q;exact q
theorem jY.weaken {X:Cx} {P P':Hp->Hp->PyData->V->Prop} {f:Fe} (h:∀ H H' d v,P H H' d v->P' H H' d v) (σ:St) (H:Hp) (Q:VK) (q:jY X P' f σ H Q):jY X P f σ H Q:=by
  obtain ⟨ρ,sl,q⟩:=q;refine ⟨ρ,sl,?_⟩;cases e:f ρ with
  | ok d=>rw [e] at q;exact fun v H' s p=>q v H' s (h _ _ _ _ p)
  | ex c=>rw [e] at q;exact q
  | no=>rw [e] at q;exact q
section
variable {X:Cx} {e:Expr} {f:Fe}
theorem cY.b (h:cY X e f):eu X e f:=PE.imp h (jY.weaken fun _ _ _ _ p=>Or.inl p)
theorem ad (h:Z.cY X e f):Z.eu X e f :=
  ⟨D2.cY.b h.un⟩
theorem oO.b (h:oO X e f):eu X e f:=PE.imp h (jY.weaken fun _ _ _ _ p=>Or.inr p.1)
theorem cT (h:Z.oO X e f):Z.eu X e f :=
  ⟨D2.oO.b h.un⟩
theorem oO.toF (h:oO X e f):zU X e f:=PE.imp h (jY.weaken fun _ _ _ _ p=>Or.inr p)
end
section
variable {X:Cx} {pins:List (Addr×Obj)} {σ:St} {H:Hp} {s:Shared} {a:Addr} {u:HO}
theorem gv (I:aL X pins σ H s) (h:H a=some u) (hm:(∃ xs,u=.lst xs)\/∃ ks,u=.dK ks):∃ o,aL X pins σ (cP H a (.frz o u)) s:=by
  have ob:=I.hok a u h;have hg:∃ o,s.heap.get? a=some o:=by
    rcases hm with ⟨xs,rfl⟩ | ⟨ks,rfl⟩
    · obtain ⟨_,_,_,_,e⟩:=ob;exact ⟨_,e⟩
    · obtain ⟨_,_,_,_,o,_,_,e,_⟩:=ob;exact ⟨_,e⟩
  obtain ⟨o,hg⟩:=hg;have nt:∀ b xs,H b=some (.tup xs)->b≠a:=fun b xs q z=>by subst z;rw [h] at q;rcases hm with ⟨_,rfl⟩ | ⟨_,rfl⟩ <;> cases q
  have nf:∀ b o' u',H b=some (.frz o' u')->b≠a:=fun b o' u' q z=>by subst z;rw [h] at q;rcases hm with ⟨_,rfl⟩ | ⟨_,rfl⟩ <;> cases q
  have nb:∀ b ps,H b=some (.tbl ps)->b≠a:=fun b ps q z=>by subst z;rw [h] at q;rcases hm with ⟨_,rfl⟩ | ⟨_,rfl⟩ <;> cases q
  have nw:∀ b y,H b=some (.own y)->b≠a:=fun b y q z=>by subst z;rw [h] at q;rcases hm with ⟨_,rfl⟩ | ⟨_,rfl⟩ <;> cases q
  have nn:∀ b,H b=none->b≠a:=fun b q z=>by subst z;rw [h] at q;cases q
  have st:∀ b x,bV X.prog X.w H s.heap b x->bV X.prog X.w (cP H a (.frz o u)) s.heap b x:=fun b x q =>
    q.stay (fun c v _ e=>e) (fun c e=>by rw [av (nw _ _ e)];exact e) fun c xs e=>by rw [av (nt _ _ e)];exact e
  refine ⟨o,⟨I.ok,I.os,I.bare,⟨I.base.keep,I.base.slot,fun b ob' e n hx=>?_,I.base.there,fun b xs e=>?_,fun b ob' v e=>?_,fun b ps e=>?_⟩,I.loc,I.cell,?_,fun x c e=>?_,fun p hp=>?_,fun b x e=>?_,I.len⟩⟩
  · have:=I.base.free b ob' e n hx;rw [av (nn _ this)];exact this
  · have:=I.base.tups b xs e;rw [av (nt _ _ this)];exact this
  · have:=I.base.frzs b ob' v e;rw [av (nf _ _ _ this)];exact this
  · obtain ⟨m,q⟩:=I.base.tbls b ps e;exact ⟨m,by rw [av (nb _ _ q)];exact q⟩
  · rw [av (nn _ I.free)];exact I.free
  · rw [av (nn _ (I.freeC x c e))];exact I.freeC x c e
  · obtain ⟨p1,p2,p3⟩:=I.pin p hp;exact ⟨p1,by rw [av (nn _ p2)];exact p2,p3⟩
  · by_cases hb:b=a
    · subst hb;rw [bd] at e;cases e;exact ⟨hg,st b u ob⟩
    · rw [av hb] at e;exact st b x (I.hok b x e)
theorem fV {o':HO} (h:H a=some u) (hm:(∃ xs,u=.lst xs)\/∃ ks,u=.dK ks):Kp H (cP H a o'):=by
  refine ⟨fun b xs e=>?_,fun b o v e=>?_⟩
  · rw [av];exact e;rintro rfl;rw [h] at e;rcases hm with ⟨_,rfl⟩ | ⟨_,rfl⟩ <;> cases e
  · rw [av];exact e;rintro rfl;rw [h] at e;rcases hm with ⟨_,rfl⟩ | ⟨_,rfl⟩ <;> cases e
theorem Ci {H0:Hp} {d:PyData} {v:V} (I:aL X pins σ H s) (hs:aF H0 H) (n:Dy H0 H d v):∃ H',aL X pins σ H' s/\aF H0 H'/\Rp H' d v:=by
  obtain ⟨n,a,rfl,h0⟩:=n;have go:∀ u:HO,H a=some u->((∃ xs,u=.lst xs)\/∃ ks,u=.dK ks)->∃ o,aL X pins σ (cP H a (.frz o u)) s/\aF H0 (cP H a (.frz o u))/\Kp H (cP H a (.frz o u)):=fun u hu hm=>by
    obtain ⟨o,J⟩:=gv I hu hm;refine ⟨o,J,fun b x e=>?_,fV hu hm⟩;rw [av (aW e h0)];exact hs b x e
  cases d <;> simp only [iA] at n
  · obtain ⟨a',vs,e,ha,r⟩:=n;cases e;obtain ⟨o,J,S,K⟩:=go _ ha (.inl ⟨_,rfl⟩);refine ⟨_,J,S,?_⟩;simp only [Rp];exact ⟨a,o,vs,rfl,bd,bx.kp K _ _ r⟩
  · obtain ⟨a',vs,e,ha,r⟩:=n;cases e;obtain ⟨o,J,S,K⟩:=go _ ha (.inr ⟨_,rfl⟩);refine ⟨_,J,S,?_⟩;simp only [Rp];exact .inl ⟨a,o,vs,rfl,bd,eF.kp K _ _ r⟩
end
theorem zU.e {X:Cx} {e:Expr} {f:Fe} (h:zU X e f):cY X e f:=by
  intro pins s σ H Q I q;obtain ⟨ρ,sl,q⟩:=q;cases ef:f ρ with
  | ok d =>
    rw [ef] at q;refine dm (h pins s σ H (fun v H'=>aF H H'/\Ff H H' d v) I ⟨ρ,sl,by rw [ef];exact fun v H' hs p=>⟨hs,p⟩⟩) fun u s' ⟨v,H',I',r,hs,p⟩=>?_
    rcases p with p | p
    · exact ⟨v,H',I',r,q v H' hs p⟩
    · obtain ⟨H2,I2,S2,p2⟩:=Ci I' hs p;exact ⟨v,H2,I2,r,q v H2 S2 p2⟩
  | ex c=>rw [ef] at q;exact dm (h pins s σ H (fun _ _=>False) I ⟨ρ,sl,by rw [ef];exact q⟩) fun u s' ⟨v,H',I',r,z⟩=>z.elim
  | no=>rw [ef] at q;exact q.elim
theorem Fj {X:Cx} {e:Expr} {f:Fe} (h:Z.zU X e f):Z.cY X e f :=
  ⟨D2.zU.e h.un⟩
theorem oO.e {X:Cx} {e:Expr} {f:Fe} (h:oO X e f):cY X e f:=(oO.toF h).e
theorem kO {X:Cx} {e:Expr} {f:Fe} (h:Z.oO X e f):Z.cY X e f :=
  ⟨D2.oO.e h.un⟩
structure z0 {β:Type} (X:Cx) (T:R β->Hp->Prop):Prop where
  mono:∀ r H H',T r H->aF H H'->T r H'
  ex:∀ c H,T (.ex c) H->Xw X c H
  no:∀ H,¬ T .no H
noncomputable def Dn (P:Hp->Hp->PyData->V->Prop):Prop:=∀ H H1 H' d v,aF H H1->P H1 H' d v->P H H' d v
theorem gt:Dn im:=fun _ _ _ _ _ _ p=>p
theorem An:Dn Dy:=fun _ _ _ _ _ s p=>⟨p.1,let ⟨a,e,h⟩:=p.2;⟨a,e,s.free h⟩⟩
theorem Am:Dn Ff:=fun _ _ _ _ _ s p=>p.elim .inl fun p=>.inr (An _ _ _ _ _ s p)
section
variable {X:Cx} {σ:St} {H:Hp}
theorem fO {P:Hp->Hp->PyData->V->Prop} (hP:Dn P) (Q:VK):z0 X (fun r H=>v7 X P r H Q) where
  mono:=fun r H H' h s=>by
    cases r with
    | ok d=>exact fun v H2 s2 p=>h v H2 (s.trans s2) (hP _ _ _ _ _ s p)
    | ex c=>exact Xw.mono h s
    | no=>exact h
  ex:=fun c H h=>h
  no:=fun H h=>h
theorem wk (Q:Bool->Hp->Prop):z0 X (fun (r:R Bool) H=>match r with | .ok b=>∀ H',aF H H'->Q b H' | .ex c=>Xw X c H | .no=>False) where
  mono:=fun r H H' h s=>by
    cases r with
    | ok d=>exact fun H2 s2=>h H2 (s.trans s2)
    | ex c=>exact Xw.mono h s
    | no=>exact h
  ex:=fun c H h=>h
  no:=fun H h=>h
theorem BN (I:Hp->PyData->V->Prop) (Q:List V->Hp->Prop):z0 X (fun (r:R (List PyData)) H=>match r with | .ok ds=>∀ vs H',aF H H'->RA I H' ds vs->Q vs H' | .ex c=>Xw X c H | .no=>False) where
  mono:=fun r H H' h s=>by
    cases r with
    | ok d=>exact fun vs H2 s2=>h vs H2 (s.trans s2)
    | ex c=>exact Xw.mono h s
    | no=>exact h
  ex:=fun c H h=>h
  no:=fun H h=>h
theorem fD {β:Type} {T:R β->Hp->Prop} (t:z0 X T) {P:Hp->Hp->PyData->V->Prop} {f:Fe} {k:aT->PyData->R β} (h:∃ ρ,Sl H σ ρ/\T (f ρ>>=k ρ) H) :
    jY X P f σ H (fun v H1=>∃ ρ d,Sl H1 σ ρ/\aF H H1/\P H H1 d v/\T (k ρ d) H1):=by
  obtain ⟨ρ,sl,q⟩:=h;refine ⟨ρ,sl,?_⟩;cases e:f ρ with
  | ok d=>rw [e] at q;exact fun v H1 s p=>⟨ρ,d,sl.mono s,s,p,t.mono _ _ _ q s⟩
  | ex c=>rw [e] at q;exact t.ex _ _ q
  | no=>rw [e] at q;exact (t.no _ q).elim
theorem qC {β:Type} {T:R β->Hp->Prop} (t:z0 X T) {f:aT->R Bool} {k:aT->Bool->R β} (h:∃ ρ,Sl H σ ρ/\T (f ρ>>=k ρ) H) :
    A5 X f σ H (fun b H1=>∃ ρ,Sl H1 σ ρ/\aF H H1/\T (k ρ b) H1):=by
  obtain ⟨ρ,sl,q⟩:=h;refine ⟨ρ,sl,?_⟩;cases e:f ρ with
  | ok d=>rw [e] at q;exact fun H1 s=>⟨ρ,sl.mono s,s,t.mono _ _ _ q s⟩
  | ex c=>rw [e] at q;exact t.ex _ _ q
  | no=>rw [e] at q;exact (t.no _ q).elim
theorem nC {β:Type} {T:R β->Hp->Prop} (t:z0 X T) {I:Hp->PyData->V->Prop} {f:aT->R (List PyData)} {k:aT->List PyData->R β} (h:∃ ρ,Sl H σ ρ/\T (f ρ>>=k ρ) H) :
    zc X I f σ H (fun vs H1=>∃ ρ ds,Sl H1 σ ρ/\aF H H1/\RA I H1 ds vs/\T (k ρ ds) H1):=by
  obtain ⟨ρ,sl,q⟩:=h;refine ⟨ρ,sl,?_⟩;cases e:f ρ with
  | ok d=>rw [e] at q;exact fun vs H1 s p=>⟨ρ,d,sl.mono s,s,p,t.mono _ _ _ q s⟩
  | ex c=>rw [e] at q;exact t.ex _ _ q
  | no=>rw [e] at q;exact (t.no _ q).elim
end
noncomputable def ag (i:Nat):Fe:=fun ρ=>match ρ[i]? with
  | some (.val d)=>.ok d
  | _=>.no
noncomputable def fg (i:Nat):Fe:=fun ρ=>match ρ[i]? with
  | some (.val d)=>.ok d
  | some (.own d)=>.ok d
  | _=>.no
noncomputable def eC (d:PyData):Fe:=fun _=>.ok d
structure Tb (X:Cx) (nl:Nat) (G:List Str):Prop where
  hu:X.A.units+64 < cLine
  calm:X.calm=true
  nd:X.N.Nodup
  vis:∀ x∈X.N,BV X.env.scope x/\(x==("__debug__" : Str))=false/\(x==("__classdict__" : Str))=false
  loc:∀ x∈X.N.take nl,Bo X.env.scope x/\(X.fn x=true\/X.env.scope.names.lookup x=some .local)
  gl:∀ x∈G,Gl X x/\(x==("__debug__" : Str))=false/\x≠("__name__" : Str)
section
variable {X:Cx} {nl:Nat} {G:List Str} {x:Str} {pos:Pos}
theorem Sl.at {H:Hp} {σ:St} {ρ:aT} {i:Nat} {c:bt} (h:Sl H σ ρ) (e:ρ[i]?=some c):∃ o,σ[i]?=some o/\i9 H c o:=by
  have hi:i < σ.length:=by rw [h.1];exact (List.getElem?_eq_some_iff.mp e).1
  exact ⟨σ[i],List.getElem?_eq_getElem hi,h.2 i c _ e (List.getElem?_eq_getElem hi)⟩
theorem aa (T:Tb X nl G) (i:Nat) (hN:X.N[i]?=some x):Z.cY X (.Name x pos) (ag i):=⟨by
  have hm:=T.vis x (List.mem_of_getElem? hN);refine PE.imp (kz hN hm.1 hm.2.1 hm.2.2) fun σ H Q zq0=>?_
  obtain ⟨ρ,sl,q⟩:=zq0;unfold ag at q;split at q
  · rename_i d e;obtain ⟨o,h1,v,rfl,h2⟩:=sl.at e;exact ⟨v,h1,q v H (aF.refl H) h2⟩
  · exact q.elim⟩
theorem dA (T:Tb X nl G) (i:Nat) (hN:X.N[i]?=some x):Z.eu X (.Name x pos) (fg i):=⟨by
  have hm:=T.vis x (List.mem_of_getElem? hN);refine PE.imp (kz hN hm.1 hm.2.1 hm.2.2) fun σ H Q zq0=>?_
  obtain ⟨ρ,sl,q⟩:=zq0;unfold fg at q;split at q
  · rename_i d e;obtain ⟨o,h1,v,rfl,h2⟩:=sl.at e;exact ⟨v,h1,q v H (aF.refl H) (.inl h2)⟩
  · rename_i d e;obtain ⟨o,h1,v,rfl,h2⟩:=sl.at e;exact ⟨v,h1,q v H (aF.refl H) (.inr h2)⟩
  · exact q.elim⟩
theorem nN {e:Expr} {d:PyData} {v:V} (h:PE X e (tC v)) (r:∀ H,Rp H d v):cY X e (eC d) :=
  PE.imp h fun σ H Q ⟨ρ,sl,q⟩=>q v H (aF.refl H) (r H)
theorem aj {i j}:Z.cY X (.Constant (.int i) j pos) (eC (.int i)):=⟨nN CF fun H=>by simp only [Rp]⟩
theorem ed {b j}:Z.cY X (.Constant (.bool b) j pos) (eC (.bool b)):=⟨nN Eo fun H=>by simp only [Rp]⟩
theorem dI {j}:Z.cY X (.Constant .none j pos) (eC .none):=⟨nN CH fun H=>by simp only [Rp]⟩
theorem nk {y j}:Z.cY X (.Constant (.str y) j pos) (eC (.str y)):=⟨nN CK fun H=>by simp only [Rp]⟩
theorem ba {i:Int} {t:Tok} (T:Tb X nl G) (j:Nat) (hG:G[j]?=some x) (hm:X.mg x=some (.int i t)):Z.cY X (.Name x pos) (eC (.int i)):=⟨by
  have g:=T.gl x (List.mem_of_getElem? hG);exact nN (AU g.1 hm (v:=.int i) ⟨t,rfl⟩ g.2.1) fun H=>by simp only [Rp]⟩
end
section
variable {X:Cx} {a b c:Expr} {fa fb fc:Fe} {pos:Pos}
noncomputable def e2 (g:PyData->PyData->R PyData) (fa fb:Fe):Fe:=fun ρ=>fa ρ>>=fun x=>fb ρ>>=fun y=>g x y
noncomputable def e1 (g:PyData->R PyData) (fa:Fe):Fe:=fun ρ=>fa ρ>>=fun x=>g x
noncomputable def cz (X:Cx) (P:Hp->Hp->PyData->V->Prop) (r:R2) (g:PyData->PyData->R PyData):Prop :=
  ∀ H x y dx dy Q,gW H dx x->gW H dy y->v7 X P (g dx dy) H Q->r x y H Q
theorem two {P:Hp->Hp->PyData->V->Prop} {r:R2} {g:PyData->PyData->R PyData} (hP:Dn P) (hg:cz X P r g) (σ:St) (H:Hp) (Q:VK) (h:jY X P (e2 g fa fb) σ H Q) :
    EY r (jY X ww fa) (jY X ww fb) σ H Q :=
  (fD (P:=ww) (fO (X:=X) hP Q) h).post fun v H1 ⟨ρ1,d1,sl1,_,p1,q1⟩ =>
    (fD (P:=ww) (f:=fb) (k:=fun _ y=>g d1 y) (fO (X:=X) hP Q) ⟨ρ1,sl1,q1⟩).post fun u H2 ⟨_,d2,_,s2,p2,q2⟩=>hg H2 v u d1 d2 Q (gW.mono p1 s2) p2 q2
theorem nM {op:Operator} {P:Hp->Hp->PyData->V->Prop} {r:R2} {g:PyData->PyData->R PyData} (hP:Dn P) (ho:i8 X (binaryOp op) r) (hg:cz X P r g) (ha:eu X a fa) (hb:eu X b fb) :
    PE X (.BinOp a op b pos) (jY X P (e2 g fa fb)):=PE.imp (Er ho ha hb) (two hP hg)
theorem yi {op:CmpOp} {r:R2} {g:PyData->PyData->R PyData} (ho:i8 X (compareOp op) r) (hg:cz X im r g) (ha:eu X a fa) (hb:eu X b fb) (hm:behindInMarks op b=false) :
    cY X (.Compare a [op] [b] pos) (e2 g fa fb):=PE.imp (AS ho ha hb hm) (two gt hg)
end
noncomputable def r8:PyData->R Bool
  | .bool b=>.ok b
  | _=>.no
noncomputable def tE (f:Fe):aT->R Bool:=fun ρ=>f ρ>>=r8
theorem v9 {X:Cx} {f:Fe} {σ:St} {H:Hp} {Q:Bool->Hp->Prop} (h:A5 X (tE f) σ H Q):jY X im f σ H (fun x H'=>∃ k,x=.bl k/\Q k H') :=
  (fD (P:=im) (f:=f) (k:=fun _=>r8) (wk (X:=X) Q) h).post fun v H1 ⟨ρ1,d1,_,_,p1,q1⟩=>by
    cases d1 with
    | bool b =>
      have p2:v=.bl b:=by simpa only [Rp] using p1
      exact ⟨b,p2,q1 H1 (aF.refl _)⟩
    | _=>exact q1.elim
section
variable {X:Cx} {a b c:Expr} {fa fb fc:Fe} {pos:Pos}
theorem gy {op:CmpOp} {r:R2} {g:PyData->PyData->R PyData} (ho:i8 X (compareOp op) r) (hg:cz X im r g) (ha:eu X a fa) (hb:eu X b fb) (hm:behindInMarks op b=false) :
    mD X (.Compare a [op] [b] pos) (tE (e2 g fa fb)) :=
  PT.imp (A1 ho ha hb hm) fun σ H Q h=>two gt hg σ H _ (v9 h)
theorem eh {e:Expr} {f:Fe} (h:Z.cY X e f) (he:∀ whole,isTrue e X.env whole=(do let v <- whole;standAt e.pos;holding [v] (truthy v)):=by intro _;rfl):Z.mD X e (tE f):=⟨have h:=h.un;PT.imp (CV h he) fun σ H Q h=>v9 h⟩
noncomputable def oE (f g:aT->R Bool):aT->R Bool:=fun ρ=>f ρ>>=fun b=>if b=true then g ρ else .ok false
noncomputable def zt (f g:aT->R Bool):aT->R Bool:=fun ρ=>f ρ>>=fun b=>if b=true then .ok true else g ρ
noncomputable def jD (f:aT->R Bool):aT->R Bool:=fun ρ=>f ρ>>=fun b=>.ok (!b)
variable {ga gb:aT->R Bool} {fG:List Expr}
theorem ny (ha:Z.mD X a ga):Z.xF X (.BoolOp .And [a] pos) ga:=⟨have ha:=ha.un;pw_and1 ha⟩
theorem o9 (ha:Z.mD X a ga):Z.xF X (.BoolOp .Or [a] pos) ga:=⟨have ha:=ha.un;pw_or1 ha⟩
theorem o8 (ha:Z.mD X a ga) (hb:Z.xF X (.BoolOp .And (b::fG) pos) gb):Z.xF X (.BoolOp .And (a::b::fG) pos) (oE ga gb):=⟨have ha:=ha.un;have hb:=hb.un;PW.imp (pw_and ha hb) fun σ H Q h=>(qC (f:=ga) (k:=fun ρ b=>if b=true then gb ρ else .ok false) (wk (X:=X) Q) h).post fun d H1 ⟨ρ1,sl1,_,q1⟩=>by
    cases d with
    | true=>exact ⟨ρ1,sl1,q1⟩
    | false=>exact q1 H1 (aF.refl _)⟩
theorem rW (ha:Z.mD X a ga) (hb:Z.xF X (.BoolOp .Or (b::fG) pos) gb):Z.xF X (.BoolOp .Or (a::b::fG) pos) (zt ga gb):=⟨have ha:=ha.un;have hb:=hb.un;PW.imp (pw_or ha hb) fun σ H Q h=>(qC (f:=ga) (k:=fun ρ b=>if b=true then .ok true else gb ρ) (wk (X:=X) Q) h).post fun d H1 ⟨ρ1,sl1,_,q1⟩=>by
    cases d with
    | false=>exact ⟨ρ1,sl1,q1⟩
    | true=>exact q1 H1 (aF.refl _)⟩
theorem xF.t {e:Expr} (h:xF X e ga):mD X e ga:=PW.pt h
theorem mE {e:Expr} (h:Z.xF X e ga):Z.mD X e ga :=
  ⟨D2.xF.t h.un⟩
theorem eU (ha:Z.mD X a ga):Z.mD X (.UnaryOp .Not a pos) (jD ga):=⟨have ha:=ha.un;PT.imp (CU ha) fun σ H Q h=>(qC (f:=ga) (k:=fun _ b=>.ok (!b)) (wk (X:=X) Q) h).post fun d H1 ⟨ρ1,sl1,_,q1⟩=>q1 H1 (aF.refl _)⟩
noncomputable def um (f g:Fe):Fe:=fun ρ=>f ρ>>=fun d=>r8 d>>=fun b=>if b=true then g ρ else .ok (.bool false)
noncomputable def GQ (f g:Fe):Fe:=fun ρ=>f ρ>>=fun d=>r8 d>>=fun b=>if b=true then .ok (.bool true) else g ρ
noncomputable def Cc (f:Fe):Fe:=fun ρ=>f ρ>>=fun d=>r8 d>>=fun b=>.ok (.bool (!b))
theorem v8 {k:aT->Bool->R PyData} {f:Fe} {σ:St} {H:Hp} {Q:VK} (h:jY X im (fun ρ=>f ρ>>=fun d=>r8 d>>=fun b=>k ρ b) σ H Q) :
    jY X im f σ H (fun x H'=>∃ c,x=.bl c/\jY X im (fun ρ=>k ρ c) σ H' Q) :=
  (fD (P:=im) (f:=f) (k:=fun ρ d=>r8 d>>=fun b=>k ρ b) (fO (X:=X) gt Q) h).post fun v H1 ⟨ρ1,d1,sl1,_,p1,q1⟩=>by
    cases d1 with
    | bool b =>
      have p2:v=.bl b:=by simpa only [Rp] using p1
      exact ⟨b,p2,ρ1,sl1,q1⟩
    | _=>exact q1.elim
theorem jn {op} (h:Z.cY X a fa):Z.cY X (.BoolOp op [a] pos) fa:=⟨have h:=h.un;CJ h⟩
theorem jl (ha:Z.cY X a fa) (hb:Z.cY X (.BoolOp .And (b::fG) pos) fb):Z.cY X (.BoolOp .And (a::b::fG) pos) (um fa fb):=⟨have ha:=ha.un;have hb:=hb.un;PE.imp (CD ha hb) fun σ H Q h=>(v8 (k:=fun ρ b=>if b=true then fb ρ else .ok (.bool false)) h).post fun v H1 ⟨c,e1,q1⟩=>by
    refine ⟨c,e1,?_⟩;cases c with
    | true=>exact q1
    | false =>
      obtain ⟨_,_,q2⟩:=q1;exact q2 _ H1 (aF.refl _) (by simp only [Rp])⟩
theorem xS (ha:Z.cY X a fa):Z.cY X (.UnaryOp .Not a pos) (Cc fa):=⟨have ha:=ha.un;PE.imp (CI ha) fun σ H Q h=>(v8 (k:=fun ρ b=>.ok (.bool (!b))) h).post fun v H1 ⟨c,e1,_,_,q2⟩=>⟨c,e1,q2 _ H1 (aF.refl _) (by simp only [Rp])⟩⟩
noncomputable def zN (t:aT->R Bool) (f g:Fe):Fe:=fun ρ=>t ρ>>=fun b=>if b=true then f ρ else g ρ
theorem iD {e:Expr} (hc:Z.mD X e ga) (ha:Z.cY X a fa) (hb:Z.cY X b fb):Z.cY X (.IfExp e a b pos) (zN ga fa fb):=⟨have hc:=hc.un;have ha:=ha.un;have hb:=hb.un;PE.imp (yT hc ha hb) fun σ H Q h=>(qC (f:=ga) (k:=fun ρ b=>if b=true then fa ρ else fb ρ) (fO (X:=X) gt Q) h).post fun d H1 ⟨ρ1,sl1,_,q1⟩=>by
    cases d with
    | true=>exact ⟨ρ1,sl1,q1⟩
    | false=>exact ⟨ρ1,sl1,q1⟩⟩
end
noncomputable def aX:Expr->Bool
  | .Starred ..=>false
  | _=>true
theorem bq {e:Expr} {es:List Expr} {env:Env} (h:aX e=true):starEach (e::es) env=(false,eval e env)::starEach es env:=by
  cases e <;> first | rfl | (cases h)
theorem oy {es:List Expr} {env:Env} {pos:Pos} (h:es.all aX=true):(backTo pos (starEach es env)).any (·.1)=false:=by
  induction es with
  | nil=>rfl
  | cons e es ih =>
    rw [List.all_cons,Bool.and_eq_true] at h;rw [bq h.1];have:=ih h.2;simpa [backTo] using this
noncomputable def aH:aT->R (List PyData):=fun _=>.ok []
noncomputable def ah (f:Fe) (g:aT->R (List PyData)):aT->R (List PyData):=fun ρ=>f ρ>>=fun d=>g ρ>>=fun ds=>.ok (d::ds)
section
variable {X:Cx} {e:Expr} {es:List Expr} {f:Fe} {g:aT->R (List PyData)}
theorem vq {I:Hp->PyData->V->Prop}:PA X [] (zc X I aH):=PA.imp yQ fun σ H Q ⟨ρ,sl,q⟩=>q [] H (aF.refl _) (by simp only [RA])
theorem lJ:tx X [] aH:=vq
theorem ak  : Z.tx X [] aH :=
  ⟨D2.lJ⟩
theorem uq:BQ X [] aH:=vq
theorem sv {I:Hp->PyData->V->Prop} (hI:∀ H H' d v,I H d v->aF H H'->I H' d v) (ha:PE X e (jY X (fun _ H' d v=>I H' d v) f)) (hr:PA X es (zc X I g))
    (hs:starEach (e::es) X.env=(false,eval e X.env)::starEach es X.env:=by rfl):PA X (e::es) (zc X I (ah f g)) :=
  PA.imp (qY ha hr hs) fun σ H Q h =>
    (fD (P:=fun _ H' d v=>I H' d v) (f:=f) (k:=fun ρ d=>g ρ>>=fun ds=>.ok (d::ds)) (BN (X:=X) I Q) h).post fun v H1 ⟨ρ1,d1,sl1,_,p1,q1⟩ =>
      (nC (I:=I) (f:=g) (k:=fun _ ds=>.ok (d1::ds)) (BN (X:=X) I Q) ⟨ρ1,sl1,q1⟩).post fun vs H2 ⟨_,ds1,_,s2,p3,q3⟩ =>
        q3 (v::vs) H2 (aF.refl _) (by simp only [RA];exact ⟨v,vs,rfl,hI _ _ _ _ p1 s2,p3⟩)
theorem iI (ha:cY X e f) (hr:tx X es g) (hs:aX e=true:=by rfl):tx X (e::es) (ah f g):=sv (fun _ _ _ _ h s=>h.mono s) ha hr (bq hs)
theorem ae (ha:Z.cY X e f) (hr:Z.tx X es g) (hs:aX e=true:=by rfl):Z.tx X (e::es) (ah f g) :=
  ⟨D2.iI ha.un hr.un hs⟩
theorem mJ (ha:eu X e f) (hr:BQ X es g) (hs:aX e=true:=by rfl):BQ X (e::es) (ah f g):=sv (fun _ _ _ _ h s=>h.mono s) ha hr (bq hs)
end
section
variable {K:PySem.W.Frag} {H:Hp} {x:V}
theorem kX (h:gW H .none x):x=.non:=by
  rcases h with h | h
  · simpa only [Rp] using h
  · simp only [iA] at h
theorem nE {b:Bool} (h:gW H (.bool b) x):x=.bl b:=by
  rcases h with h | h
  · simpa only [Rp] using h
  · simp only [iA] at h
theorem bX {i:Int} (h:gW H (.int i) x):x=.int i:=by
  rcases h with h | h
  · simpa only [Rp] using h
  · simp only [iA] at h
theorem gx {y:Str} (h:gW H (.str y) x):x=.str y:=by
  rcases h with h | h
  · simpa only [Rp] using h
  · simp only [iA] at h
theorem dJ {ds:List PyData} (h:gW H (.tuple ds) x):∃ a vs,x=.ref a/\H a=some (.tup vs)/\bx H ds vs:=by
  rcases h with h | h
  · simpa only [Rp] using h
  · simp only [iA] at h
theorem fL {ds:List PyData} (h:gW H (.list ds) x):∃ a vs,x=.ref a/\mY K H a vs/\bx H ds vs:=by
  rcases h with h | h
  · simp only [Rp] at h;obtain ⟨a,o,vs,e,ha,r⟩:=h;exact ⟨a,vs,e,.inl (.inr ⟨o,ha⟩),r⟩
  · simp only [iA] at h;obtain ⟨a,vs,e,ha,r⟩:=h;exact ⟨a,vs,e,.inl (.inl ha),r⟩
theorem A7 {C:Addr} {fs:List (Str×V)} {kvs:List (PyData×PyData)} (h:xG H C fs kvs):l4 kvs=true:=by
  cases kvs with
  | nil=>simp only [xG] at h
  | cons kd kvs=>simp only [xG] at h;rw [h.1];rfl
theorem xW {kvs:List (PyData×PyData)} (h:gW H (.dict kvs) x):∃ a,x=.ref a:=by
  rcases h with h | h
  · simp only [Rp] at h;rcases h with ⟨a,o,vs,e,_⟩ | ⟨a,o,C,dx,fs,e,_⟩
    · exact ⟨a,e⟩
    · exact ⟨a,e⟩
  · simp only [iA] at h;obtain ⟨a,vs,e,_⟩:=h;exact ⟨a,e⟩
theorem kW {kvs:List (PyData×PyData)} (hi:l4 kvs=false) (h:gW H (.dict kvs) x):∃ a ks,x=.ref a/\Rd H a (.dK ks)/\eF H kvs ks:=by
  rcases h with h | h
  · simp only [Rp] at h;rcases h with ⟨a,o,vs,e,ha,r⟩ | ⟨a,o,C,dx,fs,e,ha,r⟩
    · exact ⟨a,vs,e,.inr ⟨o,ha⟩,r⟩
    · rw [A7 r] at hi;cases hi
  · simp only [iA] at h;obtain ⟨a,vs,e,ha,r⟩:=h;exact ⟨a,vs,e,.inl ha,r⟩
end
theorem bx.nil {H:Hp}:bx H [] []:=by simp only [bx]
theorem bx.cons {H:Hp} {d:PyData} {ds:List PyData} {v:V} {vs:List V} (h:Rp H d v) (t:bx H ds vs):bx H (d::ds) (v::vs):=by simp only [bx];exact ⟨v,vs,rfl,h,t⟩
theorem bx.nil_inv {H:Hp} {vs:List V} (h:bx H [] vs):vs=[]:=by simpa only [bx] using h
theorem bx.cons_inv {H:Hp} {d:PyData} {ds:List PyData} {vs:List V} (h:bx H (d::ds) vs):∃ v r,vs=v::r/\Rp H d v/\bx H ds r:=by simpa only [bx] using h
theorem bx.length {H:Hp}:∀ {ds:List PyData} {vs:List V},bx H ds vs->vs.length=ds.length
  | [],vs,h=>by rw [h.nil_inv];rfl
  | d::ds,vs,h=>by
    obtain ⟨v,r,rfl,_,t⟩:=h.cons_inv;rw [List.length_cons,List.length_cons,bx.length t]
theorem bx.get {H:Hp}:∀ {ds:List PyData} {vs:List V} {i:Nat} {d:PyData},bx H ds vs->ds[i]?=some d->∃ v,vs[i]?=some v/\Rp H d v
  | [],vs,i,d,h,e=>by simp at e
  | d0::ds,vs,0,d,h,e=>by
    obtain ⟨v,r,rfl,p,_⟩:=h.cons_inv;simp at e;subst e;exact ⟨v,rfl,p⟩
  | d0::ds,vs,i+1,d,h,e=>by
    obtain ⟨v,r,rfl,_,t⟩:=h.cons_inv;obtain ⟨u,e1,p⟩:=bx.get (i:=i) t (by simpa using e);exact ⟨u,by simpa using e1,p⟩
theorem bx.append {H:Hp}:∀ {ds es:List PyData} {vs us:List V},bx H ds vs->bx H es us->bx H (ds++es) (vs++us)
  | [],es,vs,us,h,g=>by rw [h.nil_inv];exact g
  | d::ds,es,vs,us,h,g=>by
    obtain ⟨v,r,rfl,p,t⟩:=h.cons_inv;exact bx.cons p (bx.append t g)
theorem bx.take {H:Hp}:∀ {ds:List PyData} {vs:List V} (n:Nat),bx H ds vs->bx H (ds.take n) (vs.take n)
  | ds,vs,0,h=>by simp only [List.take_zero];exact bx.nil
  | [],vs,n+1,h=>by rw [h.nil_inv];exact bx.nil
  | d::ds,vs,n+1,h=>by
    obtain ⟨v,r,rfl,p,t⟩:=h.cons_inv;exact bx.cons p (bx.take n t)
theorem bx.drop {H:Hp}:∀ {ds:List PyData} {vs:List V} (n:Nat),bx H ds vs->bx H (ds.drop n) (vs.drop n)
  | ds,vs,0,h=>h
  | [],vs,n+1,h=>by rw [h.nil_inv];exact bx.nil
  | d::ds,vs,n+1,h=>by
    obtain ⟨v,r,rfl,p,t⟩:=h.cons_inv;exact bx.drop n t
theorem bx.reverse {H:Hp}:∀ {ds:List PyData} {vs:List V},bx H ds vs->bx H ds.reverse vs.reverse
  | [],vs,h=>by rw [h.nil_inv];exact bx.nil
  | d::ds,vs,h=>by
    obtain ⟨v,r,rfl,p,t⟩:=h.cons_inv;rw [List.reverse_cons,List.reverse_cons];exact bx.append (bx.reverse t) (bx.cons p bx.nil)
theorem bx.rep {H:Hp} {ds:List PyData} {vs:List V} (h:bx H ds vs):∀ k:Nat,bx H (List.replicate k ds).flatten (List.replicate k vs).flatten
  | 0=>bx.nil
  | k+1=>by rw [List.replicate_succ,List.replicate_succ,List.flatten_cons,List.flatten_cons];exact bx.append h (bx.rep h k)
theorem bx.ints {H:Hp}:∀ ns:List Int,bx H (ns.map PyData.int) (ns.map V.int)
  | []=>bx.nil
  | n::ns=>bx.cons (by simp only [Rp]) (bx.ints ns)
theorem cA {H:Hp} {p:Addr} (h:H p=none) (o:HO):aF H (cP H p o):=fun b u q=>by rw [av (aW q h)];exact q
theorem dX {H:Hp} {p:Addr} {ds:List PyData} {vs:List V} (h:H p=none) (r:bx H ds vs):Rp (cP H p (.tup vs)) (.tuple ds) (.ref p):=by
  simp only [Rp];exact ⟨p,vs,rfl,bd,r.mono (cA h _)⟩
theorem dW {H:Hp} {p:Addr} {ds:List PyData} {vs:List V} (h:H p=none) (r:bx H ds vs):Dy H (cP H p (.lst vs)) (.list ds) (.ref p):=by
  refine ⟨?_,p,rfl,h⟩;simp only [iA];exact ⟨p,vs,rfl,bd,r.mono (cA h _)⟩
section
variable {P:Program} {w:World} {H:Hp} {h:Heap}
mutual
theorem sV (ok:gX P w H h):∀ (d:PyData) (v:V) (u:Value),d.canLay0=true->Rp H d v->bM v u->∃ as,Reads h u d as
  | .none,v,u,_,r,e=>by simp only [Rp] at r;subst r;cases e;exact ⟨_,.none⟩
  | .bool b,v,u,_,r,e=>by simp only [Rp] at r;subst r;cases e;exact ⟨_,.bool b⟩
  | .int i,v,u,_,r,e=>by simp only [Rp] at r;subst r;obtain ⟨t,rfl⟩:=e;exact ⟨_,.int i t⟩
  | .str x,v,u,_,r,e=>by simp only [Rp] at r;subst r;obtain ⟨t,rfl⟩:=e;exact ⟨_,.str x t⟩
  | .tuple ds,v,u,c,r,e=>by
    simp only [Rp] at r;obtain ⟨a,vs,rfl,ha,r⟩:=r;cases e;obtain ⟨_,its,rv,o,h1,h2,⟨n,h3⟩,_⟩:=(show bV P w H h a (.tup vs) from ok a _ ha)
    obtain ⟨as,q⟩:=gB ok ds vs its (by simpa only [PyData.canLay0] using c) r rv;exact ⟨as,.tuple h1 h2 h3 (by simpa using q)⟩
  | .list ds,v,u,c,r,e=>by
    simp only [Rp] at r;obtain ⟨a,ob,vs,rfl,ha,r⟩:=r;cases e;obtain ⟨_,_,its,n,rv,h1⟩:=(show bV P w H h a (.frz ob (.lst vs)) from ok a _ ha)
    obtain ⟨as,q⟩:=gB ok ds vs its (by simpa only [PyData.canLay0] using c) r rv;exact ⟨a::as,.list h1 rfl rfl (by simpa using q)⟩
  | .dict kvs,v,u,c,r,e=>by simp [PyData.canLay0] at c
theorem gB (ok:gX P w H h):∀ (ds:List PyData) (vs:List V) (us:List Value),PyData.canLayAll0 ds=true->bx H ds vs->bA vs us->∃ as,ReadsAll h us ds as
  | [],vs,us,_,r,e=>by rw [r.nil_inv] at e;cases e;exact ⟨_,.nil⟩
  | d::ds,vs,us,c,r,e=>by
    obtain ⟨v,r',rfl,p,t⟩:=r.cons_inv;have c':d.canLay0=true/\PyData.canLayAll0 ds=true:=by simpa [PyData.canLayAll0] using c
    cases e with
    | cons e1 e2 =>
      obtain ⟨as,q1⟩:=sV ok d v _ c'.1 p e1;obtain ⟨bs,q2⟩:=gB ok ds r' _ c'.2 t e2;exact ⟨as++bs,.cons q1 q2⟩
end
theorem dL (ok:gX P w H h) {d:PyData} {v:V} {u:Value} (c:d.canLay0=true) (r:gW H d v) (e:bM v u):∃ as,Reads h u d as:=by
  rcases r with r | r
  · exact sV ok d v u c r e
  · cases d <;> simp only [iA] at r
    · rename_i ds;obtain ⟨a,vs,rfl,ha,r⟩:=r;cases e;obtain ⟨_,its,n,rv,h1⟩:=(show bV P w H h a (.lst vs) from ok a _ ha)
      obtain ⟨as,q⟩:=gB ok ds vs its (by simpa only [PyData.canLay0] using c) r rv;exact ⟨a::as,.list h1 rfl rfl (by simpa using q)⟩
    · simp [PyData.canLay0] at c
end
noncomputable def hR:PyData->Option dq
  | .int i=>some (.inl i)
  | .str y=>some (.inr y)
  | _=>none
noncomputable def gz:PyData->PyData->Bool
  | .int i,.int j=>decide (i=j)
  | .str i,.str j=>decide (i=j)
  | _,_=>false
noncomputable def uO (kvs:List (PyData×PyData)) (k v:PyData):List (PyData×PyData) :=
  if (kvs.any fun kv=>gz kv.1 k)=true then kvs.map (fun kv=>if gz kv.1 k=true then (kv.1,v) else kv) else kvs++[(k,v)]
theorem jM (κ κ':dq):gz (fU κ) (fU κ')=decide (κ=κ'):=by
  cases κ with
  | inl i =>
    cases κ' with
    | inl j=>simp [fU,gz]
    | inr j=>simp [fU,gz]
  | inr i =>
    cases κ' with
    | inl j=>simp [fU,gz]
    | inr j=>simp [fU,gz]
theorem eF.cons {H:Hp} {k d:PyData} {kvs:List (PyData×PyData)} {κ:dq} {v:V} {ks:List (dq×V)} (e:k=fU κ) (h:Rp H d v) (t:eF H kvs ks):eF H ((k,d)::kvs) ((κ,v)::ks):=by
  simp only [eF,zK];exact ⟨κ,v,ks,rfl,⟨e,h⟩,t⟩
theorem eF.cons_inv {H:Hp} {k d:PyData} {kvs:List (PyData×PyData)} {ks:List (dq×V)} (h:eF H ((k,d)::kvs) ks):∃ κ v r,ks=(κ,v)::r/\k=fU κ/\Rp H d v/\eF H kvs r:=by
  simp only [eF,zK] at h;obtain ⟨κ,v,r,e,⟨e1,p⟩,t⟩:=h;exact ⟨κ,v,r,e,e1,p,t⟩
theorem eF.nil_inv {H:Hp} {ks:List (dq×V)} (h:eF H [] ks):ks=[]:=by simpa only [eF] using h
theorem eF.any {H:Hp} (κ:dq):∀ {kvs:List (PyData×PyData)} {ks:List (dq×V)},eF H kvs ks->(kvs.any fun kv=>gz kv.1 (fU κ))=ks.any fun kv=>decide (kv.1=κ)
  | [],ks,h=>by rw [h.nil_inv];rfl
  | (k,d)::kvs,ks,h=>by
    obtain ⟨κ',v,r,rfl,rfl,p,t⟩:=h.cons_inv;rw [List.any_cons,List.any_cons,eF.any κ t,jM]
theorem eF.repl {H:Hp} (κ:dq) {d:PyData} {v:V} (hv:Rp H d v):∀ {kvs:List (PyData×PyData)} {ks:List (dq×V)},eF H kvs ks ->
    eF H (kvs.map fun kv=>if gz kv.1 (fU κ)=true then (kv.1,d) else kv) (ks.map fun kv=>if kv.1=κ then (kv.1,v) else kv)
  | [],ks,h=>by rw [h.nil_inv];simp only [List.map_nil,eF]
  | (k,d')::kvs,ks,h=>by
    obtain ⟨κ',v',r,rfl,rfl,p,t⟩:=h.cons_inv;rw [List.map_cons,List.map_cons];dsimp only;rw [jM];by_cases e:κ'=κ
    · rw [if_pos (decide_eq_true e),if_pos e];exact eF.cons rfl hv (eF.repl κ hv t)
    · rw [if_neg (by rw [decide_eq_false e];exact Bool.false_ne_true),if_neg e];exact eF.cons rfl p (eF.repl κ hv t)
theorem eF.snoc {H:Hp} {κ:dq} {d:PyData} {v:V} (hv:Rp H d v):∀ {kvs:List (PyData×PyData)} {ks:List (dq×V)},eF H kvs ks->eF H (kvs++[(fU κ,d)]) (ks++[(κ,v)])
  | [],ks,h=>by rw [h.nil_inv];exact eF.cons rfl hv (by simp only [eF])
  | (k,d')::kvs,ks,h=>by
    obtain ⟨κ',v',r,rfl,rfl,p,t⟩:=h.cons_inv;exact eF.cons rfl p (eF.snoc hv t)
theorem eF.put {H:Hp} (κ:dq) {d:PyData} {v:V} (hv:Rp H d v) {kvs:List (PyData×PyData)} {ks:List (dq×V)} (h:eF H kvs ks):eF H (uO kvs (fU κ) d) (lf ks κ v):=by
  unfold uO lf;rw [h.any κ];split
  · exact h.repl κ hv
  · exact h.snoc hv
noncomputable def l6 (kvs:List (PyData×PyData)) (k:PyData):Option PyData:=(kvs.find? fun kv=>gz kv.1 k).map (·.2)
theorem eF.look {H:Hp} (κ:dq):∀ {kvs:List (PyData×PyData)} {ks:List (dq×V)},eF H kvs ks->(l6 kvs (fU κ)=none/\jZ ks κ=none)\/∃ d v,l6 kvs (fU κ)=some d/\jZ ks κ=some v/\Rp H d v
  | [],ks,h=>.inl (by rw [h.nil_inv];exact ⟨rfl,rfl⟩)
  | (k,d)::kvs,ks,h=>by
    obtain ⟨κ',v,r,rfl,rfl,p,t⟩:=h.cons_inv;unfold l6 jZ;by_cases e:κ'=κ
    · rw [List.find?_cons_of_pos (by rw [jM];exact decide_eq_true e),List.find?_cons_of_pos (by exact decide_eq_true e)];exact .inr ⟨d,v,rfl,rfl,p⟩
    · rw [List.find?_cons_of_neg (by rw [jM,decide_eq_false e];exact Bool.false_ne_true),List.find?_cons_of_neg (by rw [decide_eq_false e];exact Bool.false_ne_true)];exact eF.look κ t
theorem sJ {d:PyData} {κ:dq} (h:hR d=some κ):d=fU κ:=by
  cases d <;> simp only [hR] at h <;> cases h <;> rfl
theorem vk {H:Hp} {d:PyData} {x:V} {κ:dq} (h:gW H d x) (e:hR d=some κ):x=kV κ:=by
  cases d <;> simp only [hR] at e <;> cases e
  · exact bX h
  · exact gx h
theorem vp {H:Hp} {a:Addr} {kvs:List (PyData×PyData)} {ks:List (dq×V)} {κ:dq} (h:Rd H a (.dK ks)) (r:eF H kvs ks):∃ o,mS H a (kV κ) o/\o.isSome=(l6 kvs (fU κ)).isSome/\∀ d,l6 kvs (fU κ)=some d->∃ v,o=some v/\Rp H d v:=by
  refine ⟨jZ ks κ,.inl ⟨ks,κ,h,rfl,rfl⟩,?_⟩;rcases r.look κ with ⟨e1,e2⟩ | ⟨d,v,e1,e2,p⟩
  · rw [e1,e2];exact ⟨rfl,fun d z=>by cases z⟩
  · rw [e1,e2];exact ⟨rfl,fun d z=>by cases z;exact ⟨v,rfl,p⟩⟩
noncomputable def km:PyData->PyData->R PyData
  | .int i,.int j=>.ok (.int (i-j))
  | _,_=>.no
noncomputable def fT:PyData->PyData->R PyData
  | .int i,.int j=>if 0 < j then .ok (.int (i%j)) else .no
  | _,_=>.no
noncomputable def lG:PyData->PyData->R PyData
  | .int i,.int j=>if 0 < j/\j < 1073741824 then .ok (.int (i / j)) else .no
  | _,_=>.no
noncomputable def ge (p:Int->Int->Bool):PyData->PyData->R PyData
  | .int i,.int j=>.ok (.bool (p i j))
  | _,_=>.no
noncomputable def wT (x y:PyData):Bool:=x.canLay0&&y.canLay0&&decide (min x.depth y.depth<=60)
noncomputable def lw (x y:PyData):R PyData:=if wT x y=true then .ok (.bool (PyData.eqv x y)) else .no
noncomputable def uk (x y:PyData):R PyData:=if wT x y=true then .ok (.bool (!PyData.eqv x y)) else .no
noncomputable def iM:PyData->Bool
  | .none=>true
  | _=>false
noncomputable def nG (x y:PyData):R PyData:=if iM y=true then .ok (.bool (iM x)) else .no
noncomputable def lW (x y:PyData):R PyData:=if iM y=true then .ok (.bool (!iM x)) else .no
noncomputable def qO (xs:List PyData) (d:PyData):Bool:=PyData.canLayAll0 xs&&d.canLay0&&decide (min (PyData.depthAll xs) d.depth<=60)
noncomputable def qK (neg:Bool) (d:PyData):PyData->R PyData
  | .list xs=>if qO xs d=true then .ok (.bool (if neg then !(xs.any fun y=>PyData.eqv y d) else xs.any fun y=>PyData.eqv y d)) else .no
  | .tuple xs=>if qO xs d=true then .ok (.bool (if neg then !(xs.any fun y=>PyData.eqv y d) else xs.any fun y=>PyData.eqv y d)) else .no
  | .dict kvs=>if l4 kvs=true then .no else match hR d with
    | some _=>.ok (.bool (if neg then !(l6 kvs d).isSome else (l6 kvs d).isSome))
    | none=>.no
  | _=>.no
section
variable {X:Cx} {a b c:Expr} {fa fb fc:Fe} {pos:Pos}
theorem dN {H:Hp} {i:Int}:Rp H (.int i) (.int i):=by simp only [Rp]
theorem ft {H:Hp} {i:Bool}:Rp H (.bool i) (.bl i):=by simp only [Rp]
theorem zf {H:Hp} {i:Str}:Rp H (.str i) (.str i):=by simp only [Rp]
theorem Do:cz X im (zQ fun i j=>.int (i-j)) km:=fun H x y dx dy Q hx hy q=>by
  unfold km at q;split at q
  · exact ⟨_,_,bX hx,bX hy,q _ H (aF.refl _) dN⟩
  · exact q.elim
theorem Dl:cz X im (rI (fun _ j=>0 < j) fun i j=>.int (i%j)) fT:=fun H x y dx dy Q hx hy q=>by
  unfold fT at q;split at q
  · split at q
    · rename_i h;exact ⟨_,_,bX hx,bX hy,h,q _ H (aF.refl _) dN⟩
    · exact q.elim
  · exact q.elim
theorem Dj:cz X im (rI DB fun i j=>.int (i / j)) lG:=fun H x y dx dy Q hx hy q=>by
  unfold lG at q;split at q
  · split at q
    · rename_i h;exact ⟨_,_,bX hx,bX hy,h,q _ H (aF.refl _) dN⟩
    · exact q.elim
  · exact q.elim
theorem kH {p:Int->Int->Bool}:cz X im (zQ fun i j=>.bl (p i j)) (ge p):=fun H x y dx dy Q hx hy q=>by
  unfold ge at q;split at q
  · exact ⟨_,_,bX hx,bX hy,q _ H (aF.refl _) ft⟩
  · exact q.elim
theorem gq (ha:Z.eu X a fa) (hb:Z.eu X b fb):Z.cY X (.BinOp a .Sub b pos) (e2 km fa fb):=⟨have ha:=ha.un;have hb:=hb.un;nM gt CB Do ha hb⟩
theorem cw (ha:Z.eu X a fa) (hb:Z.eu X b fb):Z.cY X (.BinOp a .Mod b pos) (e2 fT fa fb):=⟨have ha:=ha.un;have hb:=hb.un;nM gt Cy Dl ha hb⟩
theorem gp (ha:Z.eu X a fa) (hb:Z.eu X b fb):Z.cY X (.BinOp a .FloorDiv b pos) (e2 lG fa fb):=⟨have ha:=ha.un;have hb:=hb.un;nM gt AM Dj ha hb⟩
noncomputable abbrev GD:Int->Int->Bool:=fun i j=>decide (i < j)
noncomputable abbrev Fw:Int->Int->Bool:=fun i j=>decide (i<=j)
noncomputable abbrev uJ:Int->Int->Bool:=fun i j=>decide (j < i)
theorem Aa (ha:Z.eu X a fa) (hb:Z.eu X b fb):Z.cY X (.Compare a [.Gt] [b] pos) (e2 (ge uJ) fa fb):=⟨have ha:=ha.un;have hb:=hb.un;yi By kH ha hb (ju _)⟩
theorem xT (ha:Z.eu X a fa) (hb:Z.eu X b fb):Z.mD X (.Compare a [.Lt] [b] pos) (tE (e2 (ge GD) fa fb)):=⟨have ha:=ha.un;have hb:=hb.un;gy Em kH ha hb (ju _)⟩
theorem nr (ha:Z.eu X a fa) (hb:Z.eu X b fb):Z.mD X (.Compare a [.Gt] [b] pos) (tE (e2 (ge uJ) fa fb)):=⟨have ha:=ha.un;have hb:=hb.un;gy By kH ha hb (ju _)⟩
noncomputable def A3 (X:Cx) (neg:Bool):R2:=fun x y H Q=>∃ dx dy,gW H dx x/\gW H dy y/\wT dx dy=true/\Q (.bl (if neg then !PyData.eqv dx dy else PyData.eqv dx dy)) H
theorem nL {x y:PyData} (h:wT x y=true):x.canLay0=true/\y.canLay0=true/\min x.depth y.depth<=60:=by
  unfold wT at h;rw [Bool.and_eq_true,Bool.and_eq_true,decide_eq_true_eq] at h;exact ⟨h.1.1,h.1.2,h.2⟩
theorem yM (hu:X.A.units+64 < cLine):i8 X (compareOp .Eq) (A3 X false):=by
  intro pins s σ H x y v u Q I rx ry h;obtain ⟨dx,dy,hx,hy,ho,q⟩:=h;obtain ⟨c1,c2,c3⟩:=nL ho;obtain ⟨as,r1⟩:=dL I.hok c1 hx rx;obtain ⟨bs,r2⟩:=dL I.hok c2 hy ry;exact PySem.SeqAt.compareEq_reads r1 r2 c1 c2 (by omega) ⟨.bl _,H,I,rfl,q⟩
theorem CA (hu:X.A.units+64 < cLine):i8 X (compareOp .NotEq) (A3 X true):=by
  intro pins s σ H x y v u Q I rx ry h;obtain ⟨dx,dy,hx,hy,ho,q⟩:=h;obtain ⟨c1,c2,c3⟩:=nL ho;obtain ⟨as,r1⟩:=dL I.hok c1 hx rx;obtain ⟨bs,r2⟩:=dL I.hok c2 hy ry;exact PySem.SeqAt.compareNe_reads r1 r2 c1 c2 (by omega) ⟨.bl _,H,I,rfl,q⟩
theorem BJ:cz X im (A3 X false) lw:=fun H x y dx dy Q hx hy q=>by
  unfold lw at q;split at q
  · rename_i h;exact ⟨dx,dy,hx,hy,h,q _ H (aF.refl _) ft⟩
  · exact q.elim
theorem EM:cz X im (A3 X true) uk:=fun H x y dx dy Q hx hy q=>by
  unfold uk at q;split at q
  · rename_i h;exact ⟨dx,dy,hx,hy,h,q _ H (aF.refl _) ft⟩
  · exact q.elim
theorem vf (hu:X.A.units+64 < cLine) (ha:Z.eu X a fa) (hb:Z.eu X b fb):Z.cY X (.Compare a [.Eq] [b] pos) (e2 lw fa fb):=⟨have ha:=ha.un;have hb:=hb.un;yi (yM hu) BJ ha hb (ju _)⟩
theorem e9 (hu:X.A.units+64 < cLine) (ha:Z.eu X a fa) (hb:Z.eu X b fb):Z.mD X (.Compare a [.Eq] [b] pos) (tE (e2 lw fa fb)):=⟨have ha:=ha.un;have hb:=hb.un;gy (yM hu) BJ ha hb (ju _)⟩
theorem nu (hu:X.A.units+64 < cLine) (ha:Z.eu X a fa) (hb:Z.eu X b fb):Z.mD X (.Compare a [.NotEq] [b] pos) (tE (e2 uk fa fb)):=⟨have ha:=ha.un;have hb:=hb.un;gy (CA hu) EM ha hb (ju _)⟩
theorem vQ {H:Hp} {d:PyData} {x:V} (h:gW H d x):decide (x=.non)=iM d:=by
  cases d with
  | none=>rw [kX h];rfl
  | bool b=>rw [nE h];rfl
  | int i=>rw [bX h];rfl
  | str y=>rw [gx h];rfl
  | tuple ds=>obtain ⟨a,vs,rfl,_⟩:=dJ h;rfl
  | list ds=>obtain ⟨a,vs,rfl,_⟩:=fL (K:=default) h;rfl
  | dict kvs=>obtain ⟨a,rfl⟩:=xW h;rfl
theorem Dk:cz X im (fun x y H Q=>y=.non/\Q (.bl (decide (x=.non))) H) nG:=fun H x y dx dy Q hx hy q=>by
  unfold nG at q;split at q
  · rename_i h;cases dy <;> simp only [iM,Bool.false_eq_true] at h;exact ⟨kX hy,by rw [vQ hx];exact q _ H (aF.refl _) ft⟩
  · exact q.elim
theorem Bg:cz X im (fun x y H Q=>y=.non/\Q (.bl (!decide (x=.non))) H) lW:=fun H x y dx dy Q hx hy q=>by
  unfold lW at q;split at q
  · rename_i h;cases dy <;> simp only [iM,Bool.false_eq_true] at h;exact ⟨kX hy,by rw [vQ hx];exact q _ H (aF.refl _) ft⟩
  · exact q.elim
theorem lD (ha:Z.eu X a fa) (hb:Z.eu X b fb):Z.mD X (.Compare a [.Is] [b] pos) (tE (e2 nG fa fb)):=⟨have ha:=ha.un;have hb:=hb.un;gy Cw Dk ha hb (ju _)⟩
theorem nv (ha:Z.eu X a fa) (hb:Z.eu X b fb):Z.mD X (.Compare a [.IsNot] [b] pos) (tE (e2 lW fa fb)):=⟨have ha:=ha.un;have hb:=hb.un;gy AN Bg ha hb (ju _)⟩
noncomputable def F8 (X:Cx) (neg:Bool):R2:=fun x y H Q=>∃ d xs,gW H d x/\(gW H (.list xs) y\/gW H (.tuple xs) y)/\qO xs d=true/\Q (.bl (if neg then !(xs.any fun z=>PyData.eqv z d) else xs.any fun z=>PyData.eqv z d)) H
noncomputable def CW (X:Cx) (neg:Bool):R2:=fun x y H Q=>F8 X neg x y H Q\/∃ a o,y=.ref a/\mS H a x o/\Q (.bl (if neg then !o.isSome else o.isSome)) H
theorem nS {xs:List PyData} {d:PyData} (h:qO xs d=true):PyData.canLayAll0 xs=true/\d.canLay0=true/\min (PyData.depthAll xs) d.depth<=60:=by
  unfold qO at h;rw [Bool.and_eq_true,Bool.and_eq_true,decide_eq_true_eq] at h;exact ⟨h.1.1,h.1.2,h.2⟩
theorem Cv (hu:X.A.units+64 < cLine):i8 X (compareOp .In) (CW X false):=by
  intro pins s σ H x y v u Q I rx ry h;rcases h with h | ⟨a,o,rfl,g,q⟩
  case inr =>
    cases ry;exact FT (by omega) I g rx fun s' I'=>⟨.bl _,H,I',rfl,q⟩
  obtain ⟨d,xs,hx,hy,ho,q⟩:=h;obtain ⟨c1,c2,c3⟩:=nS ho;obtain ⟨as,r1⟩:=dL I.hok c2 hx rx;rcases hy with hy | hy
  · obtain ⟨bs,r2⟩:=dL I.hok (d:=.list xs) (by simpa only [PyData.canLay0] using c1) hy ry;exact PySem.SeqAt.in_list_reads r2 r1 c1 c2 (by omega) ⟨.bl _,H,I,rfl,q⟩
  · obtain ⟨bs,r2⟩:=dL I.hok (d:=.tuple xs) (by simpa only [PyData.canLay0] using c1) hy ry;exact PySem.SeqAt.in_tuple_reads r2 r1 c1 c2 (by omega) ⟨.bl _,H,I,rfl,q⟩
theorem xi (hu:X.A.units+64 < cLine):i8 X (compareOp .NotIn) (CW X true):=by
  intro pins s σ H x y v u Q I rx ry h;rcases h with h | ⟨a,o,rfl,g,q⟩
  case inr =>
    cases ry;exact Al (by omega) I g rx fun s' I'=>⟨.bl _,H,I',rfl,q⟩
  obtain ⟨d,xs,hx,hy,ho,q⟩:=h;obtain ⟨c1,c2,c3⟩:=nS ho;obtain ⟨as,r1⟩:=dL I.hok c2 hx rx;rcases hy with hy | hy
  · obtain ⟨bs,r2⟩:=dL I.hok (d:=.list xs) (by simpa only [PyData.canLay0] using c1) hy ry;exact PySem.SeqAt.notIn_list_reads r2 r1 c1 c2 (by omega) ⟨.bl _,H,I,rfl,q⟩
  · obtain ⟨bs,r2⟩:=dL I.hok (d:=.tuple xs) (by simpa only [PyData.canLay0] using c1) hy ry;exact PySem.SeqAt.notIn_tuple_reads r2 r1 c1 c2 (by omega) ⟨.bl _,H,I,rfl,q⟩
theorem BK {neg:Bool}:cz X im (CW X neg) (qK neg):=fun H x y dx dy Q hx hy q=>by
  unfold qK at q;split at q
  · split at q
    · rename_i h;exact .inl ⟨dx,_,hx,.inl hy,h,q _ H (aF.refl _) ft⟩
    · exact q.elim
  · split at q
    · rename_i h;exact .inl ⟨dx,_,hx,.inr hy,h,q _ H (aF.refl _) ft⟩
    · exact q.elim
  · split at q
    · exact q.elim
    rename_i hi;split at q
    · rename_i κ e;obtain ⟨a,ks,rfl,h,r⟩:=kW (Bool.not_eq_true _ ▸ hi) hy;obtain ⟨o,g,e1,_⟩:=vp (κ:=κ) h r;rw [<- vk hx e] at g;rw [<- sJ e] at e1;exact .inr ⟨a,o,rfl,g,by rw [e1];exact q _ H (aF.refl _) ft⟩
    · exact q.elim
  · exact q.elim
theorem kT (hu:X.A.units+64 < cLine) (ha:Z.eu X a fa) (hb:Z.eu X b fb) (hm:behindInMarks .In b=false):Z.mD X (.Compare a [.In] [b] pos) (tE (e2 (qK false) fa fb)):=⟨have ha:=ha.un;have hb:=hb.un;gy (Cv hu) BK ha hb hm⟩
theorem rV (hu:X.A.units+64 < cLine) (ha:Z.eu X a fa) (hb:Z.eu X b fb) (hm:behindInMarks .NotIn b=false):Z.mD X (.Compare a [.NotIn] [b] pos) (tE (e2 (qK true) fa fb)):=⟨have ha:=ha.un;have hb:=hb.un;gy (xi hu) BK ha hb hm⟩
end
inductive tT where
  | nx (ρ:aT)
  | rt (d:PyData)
  | bk (ρ:aT)
  | ct (ρ:aT)
noncomputable abbrev Fs:=aT->R tT
structure iB (Fm H:Hp) (σ:St) (ρ:aT):Prop where
  fm:aF Fm H
  sl:Sl H σ ρ
  own:∀ (i:Nat) (d:PyData) (a:Addr),ρ[i]?=some (.own d)->σ[i]?=some (some (.ref a))->Fm a=none
  apart:∀ (i j:Nat) (d e:PyData) (a:Addr),ρ[i]?=some (.own d)->ρ[j]?=some (.own e)->σ[i]?=some (some (.ref a))->σ[j]?=some (some (.ref a))->i=j
theorem iB.mono {Fm H H':Hp} {σ:St} {ρ:aT} (h:iB Fm H σ ρ) (s:aF H H'):iB Fm H' σ ρ:=⟨h.fm.trans s,h.sl.mono s,h.own,h.apart⟩
noncomputable def A4 (X:Cx) (Fm:Hp) (r:R tT) (D:rC):Prop :=
  match r with
  | .ok (.nx ρ)=>∀ σ H,iB Fm H σ ρ->D.nx σ H
  | .ok (.rt d)=>∀ v H,aF Fm H->Rp H d v->D.rt v H
  | .ok (.bk ρ)=>∀ σ H,iB Fm H σ ρ->D.bk σ H
  | .ok (.ct ρ)=>∀ σ H,iB Fm H σ ρ->D.ct σ H
  | .ex c=>Xw X c Fm/\DK X c Fm
  | .no=>False
noncomputable def BE (X:Cx) (Fm:Hp) (g:Fs):TS:=fun D σ H=>∃ ρ,iB Fm H σ ρ/\A4 X Fm (g ρ) D
noncomputable def kI (X:Cx) (st:Stmt) (g:Fs):Prop:=∀ Fm,PS X st (BE X Fm g)
structure Z.kI (X:Cx) (st:Stmt) (g:Fs):Prop where
  un:D2.kI X st g
noncomputable def ly (X:Cx) (st:List Stmt) (g:Fs):Prop:=∀ Fm,qe X st (BE X Fm g)
structure Z.ly (X:Cx) (st:List Stmt) (g:Fs):Prop where
  un:D2.ly X st g
theorem PS.imp {X:Cx} {e:Stmt} {t t':TS} (h:PS X e t) (i:∀ D σ H,t' D σ H->t D σ H):PS X e t':=fun pins s σ H D I q=>h pins s σ H D I (i D σ H q)
theorem qe.imp {X:Cx} {e:List Stmt} {t t':TS} (h:qe X e t) (i:∀ D σ H,t' D σ H->t D σ H):qe X e t':=fun pins s σ H D I q=>h pins s σ H D I (i D σ H q)
section
variable {X:Cx} {Fm:Hp} {σ:St} {H:Hp} {D:rC}
theorem nD {P:Hp->Hp->PyData->V->Prop} {f:Fe} {k:aT->PyData->R tT} (h:BE X Fm (fun ρ=>f ρ>>=k ρ) D σ H) :
    jY X P f σ H (fun v H1=>∃ ρ d,iB Fm H1 σ ρ/\aF H H1/\P H H1 d v/\A4 X Fm (k ρ d) D):=by
  obtain ⟨ρ,sl,q⟩:=h;refine ⟨ρ,sl.sl,?_⟩;dsimp only at q;cases e:f ρ with
  | ok d=>rw [e] at q;exact fun v H1 s p=>⟨ρ,d,sl.mono s,s,p,q⟩
  | ex c=>rw [e] at q;exact q.1.mono sl.fm
  | no=>rw [e] at q;exact q
theorem vj {f:aT->R Bool} {k:aT->Bool->R tT} (h:BE X Fm (fun ρ=>f ρ>>=k ρ) D σ H):A5 X f σ H (fun b H1=>∃ ρ,iB Fm H1 σ ρ/\aF H H1/\A4 X Fm (k ρ b) D):=by
  obtain ⟨ρ,sl,q⟩:=h;refine ⟨ρ,sl.sl,?_⟩;dsimp only at q;cases e:f ρ with
  | ok d=>rw [e] at q;exact fun H1 s=>⟨ρ,sl.mono s,s,q⟩
  | ex c=>rw [e] at q;exact q.1.mono sl.fm
  | no=>rw [e] at q;exact q
end
noncomputable def eB:Fs:=fun ρ=>.ok (.nx ρ)
noncomputable def pV (h:Fs):tT->R tT
  | .nx ρ=>h ρ
  | o=>.ok o
noncomputable def bn (g h:Fs):Fs:=fun ρ=>g ρ>>=pV h
noncomputable def oP (t:aT->R Bool) (g h:Fs):Fs:=fun ρ=>t ρ>>=fun b=>if b=true then g ρ else h ρ
noncomputable def cD (f:Fe):Fs:=fun ρ=>f ρ>>=fun d=>.ok (.rt d)
noncomputable def EJ:Fs:=fun _=>.ok (.rt .none)
noncomputable def EH (f:Fe):Fs:=fun ρ=>f ρ>>=fun _=>.ok (.nx ρ)
noncomputable def Dd:Fs:=fun ρ=>.ok (.bk ρ)
noncomputable def EE:Fs:=fun ρ=>.ok (.ct ρ)
noncomputable def cm (i:Nat) (f:Fe):Fs:=fun ρ=>f ρ>>=fun d=>.ok (.nx (ρ.set i (.val d)))
noncomputable def ia (i:Nat) (f:Fe):Fs:=fun ρ=>f ρ>>=fun d=>.ok (.nx (ρ.set i (.own d)))
section
variable {X:Cx} {nl:Nat} {G:List Str} {st:Stmt} {sts:List Stmt} {g h:Fs} {f:Fe} {e:Expr} {pos pos':Pos} {x:Str}
theorem cR  : Z.ly X [] eB:=⟨fun Fm=>qe.imp A0 fun D σ H ⟨ρ,sl,q⟩=>q σ H sl⟩
theorem am (h1:Z.kI X st g) (h2:Z.ly X sts h):Z.ly X (st::sts) (bn g h):=⟨have h1:=h1.un;have h2:=h2.un;fun Fm=>by
  refine qe.imp (oa (h1 Fm) (h2 Fm)) fun D σ H ⟨ρ,sl,q⟩=>⟨ρ,sl,?_⟩
  unfold bn at q;cases e:g ρ with
  | ex c=>rw [e] at q;exact q
  | no=>rw [e] at q;exact q
  | ok o =>
    rw [e] at q;cases o with
    | nx ρ'=>exact fun σ' H' s'=>⟨ρ',s',q⟩
    | rt d=>exact q
    | bk ρ'=>exact q
    | ct ρ'=>exact q⟩
theorem ap (h1:Z.kI X st g):Z.ly X [st] g:=⟨have h1:=h1.un;fun Fm=>vZ (h1 Fm)⟩
theorem aE (he:Z.cY X e f):Z.kI X (.Return (some e) pos) (cD f):=⟨have he:=he.un;fun Fm =>
  PS.imp (CT he) fun D σ H h=>(nD (P:=im) (f:=f) (k:=fun _ d=>.ok (.rt d)) h).post fun v H1 ⟨ρ,d,sl,_,p,q⟩=>q v H1 sl.fm p⟩
theorem dz {c:Expr} {a b:List Stmt} {t:aT->R Bool} (hc:Z.mD X c t) (ha:Z.ly X a g) (hb:Z.ly X b h):Z.kI X (.If c a b pos) (oP t g h):=⟨have hc:=hc.un;have ha:=ha.un;have hb:=hb.un;fun Fm =>
  PS.imp (Et hc (ha Fm) (hb Fm)) fun D σ H q=>(vj (f:=t) (k:=fun ρ b=>if b=true then g ρ else h ρ) q).post fun b H1 ⟨ρ,sl,_,q⟩=>by
    cases b with
    | true=>exact ⟨ρ,sl,q⟩
    | false=>exact ⟨ρ,sl,q⟩⟩
theorem Sl.set {H:Hp} {σ:St} {ρ:aT} {c:bt} {o:Option V} (h:Sl H σ ρ) (i:Nat) (hc:i9 H c o):Sl H (σ.set i o) (ρ.set i c):=by
  refine ⟨by rw [List.length_set,List.length_set];exact h.1,fun j c' o' h1 h2=>?_⟩;rw [List.getElem?_set] at h1 h2;by_cases hij:i=j
  · rw [if_pos hij] at h1 h2;by_cases hi:i < ρ.length
    · rw [if_pos hi] at h1;rw [if_pos (by rw [h.1];exact hi)] at h2;cases h1;cases h2;exact hc
    · rw [if_neg hi] at h1;cases h1
  · rw [if_neg hij] at h1 h2;exact h.2 j c' o' h1 h2
theorem df {ρ:aT} {i j:Nat} {c:bt} {d:PyData} (hc:∀ e,c≠.own e) (h:(ρ.set i c)[j]?=some (.own d)):i≠j/\ρ[j]?=some (.own d):=by
  rw [List.getElem?_set] at h;by_cases hij:i=j
  · rw [if_pos hij] at h;split at h
    · exact absurd (Option.some.inj h) (hc d)
    · cases h
  · rw [if_neg hij] at h;exact ⟨hij,h⟩
theorem iB.set {Fm H:Hp} {σ:St} {ρ:aT} {c:bt} {o:Option V} (h:iB Fm H σ ρ) (i:Nat) (hn:∀ e,c≠.own e) (hc:i9 H c o):iB Fm H (σ.set i o) (ρ.set i c):=by
  refine ⟨h.fm,h.sl.set i hc,fun j d a h1 h2=>?_,fun j k d e a h1 h2 h3 h4=>?_⟩
  · obtain ⟨ne,h1⟩:=df hn h1;rw [List.getElem?_set,if_neg ne] at h2;exact h.own j d a h1 h2
  · obtain ⟨ne,h1⟩:=df hn h1;obtain ⟨ne',h2⟩:=df hn h2;rw [List.getElem?_set,if_neg ne] at h3;rw [List.getElem?_set,if_neg ne'] at h4;exact h.apart j k d e a h1 h2 h3 h4
theorem qW {H:Hp} {d:PyData} {v:V} (h:iA H d v):∃ a o,v=.ref a/\H a=some o:=by
  cases d <;> simp only [iA] at h
  · obtain ⟨a,vs,e,ha,_⟩:=h;exact ⟨a,_,e,ha⟩
  · obtain ⟨a,vs,e,ha,_⟩:=h;exact ⟨a,_,e,ha⟩
theorem iB.setOwn {Fm H0 H:Hp} {σ:St} {ρ:aT} {d:PyData} {v:V} (h0:iB Fm H0 σ ρ) (h:iB Fm H σ ρ) (hs:aF H0 H) (i:Nat) (hn:Dy H0 H d v):iB Fm H (σ.set i (some v)) (ρ.set i (.own d)):=by
  obtain ⟨p,a,rfl,ha⟩:=hn;have old:∀ (j:Nat) (e:PyData) (b:Addr),i≠j->(ρ.set i (.own d))[j]?=some (.own e)->(σ.set i (some (.ref a)))[j]?=some (some (.ref b))->ρ[j]?=some (.own e)/\σ[j]?=some (some (.ref b)):=fun j e b ne h1 h2=>by
    rw [List.getElem?_set,if_neg ne] at h1 h2;exact ⟨h1,h2⟩
  have notA:∀ (j:Nat) (e:PyData),ρ[j]?=some (.own e)->σ[j]?=some (some (.ref a))->False:=fun j e h1 h2=>by
    obtain ⟨u,e1,q⟩:=h0.sl.2 j _ _ h1 h2;cases e1;obtain ⟨b,o,e2,hb⟩:=qW q;cases e2;rw [ha] at hb;cases hb
  have here:∀ (b:Addr),(σ.set i (some (.ref a)))[i]?=some (some (.ref b))->b=a:=fun b h2=>by
    rw [List.getElem?_set,if_pos rfl] at h2;split at h2
    · cases h2;rfl
    · cases h2
  refine ⟨h.fm,h.sl.set i ⟨_,rfl,p⟩,fun j e b h1 h2=>?_,fun j k e f b h1 h2 h3 h4=>?_⟩
  · by_cases hij:i=j
    · subst hij;rw [here b h2];exact (h0.fm).free ha
    · obtain ⟨h1,h2⟩:=old j e b hij h1 h2;exact h.own j e b h1 h2
  · by_cases hij:i=j
    · subst hij;have eb:=here b h3;by_cases hik:i=k
      · exact hik
      · obtain ⟨h2,h4⟩:=old k f b hik h2 h4;rw [eb] at h4;exact (notA k f h2 h4).elim
    · obtain ⟨h1,h3⟩:=old j e b hij h1 h3;by_cases hik:i=k
      · subst hik;have eb:=here b h4;rw [eb] at h3;exact (notA j e h1 h3).elim
      · obtain ⟨h2,h4⟩:=old k f b hik h2 h4;exact h.apart j k e f b h1 h2 h3 h4
theorem aP (T:Tb X nl G) (i:Nat) (hN:(X.N.take nl)[i]?=some x) (he:Z.cY X e f) (hs:swapsWith e (some (.Name x pos')) pos.line X.env=pure false:=by rfl):Z.kI X (.Assign [.Name x pos'] e pos) (cm i f):=⟨have he:=he.un;fun Fm=>by
  have hm:=T.loc x (List.mem_of_getElem? hN);have hi:X.N[i]?=some x:=by
    rw [List.getElem?_take] at hN;split at hN
    · exact hN
    · cases hN
  exact PS.imp (yX T.nd hi hm.1 he hs hm.2) fun D σ H h=>(nD (P:=im) (f:=f) (k:=fun ρ d=>.ok (.nx (ρ.set i (.val d)))) h).post fun v H1 ⟨ρ,d,sl,_,p,q⟩ =>
    q _ H1 (sl.set i (fun e z=>by cases z) ⟨v,rfl,p⟩)⟩
theorem gZ (T:Tb X nl G) (i:Nat) (hN:(X.N.take nl)[i]?=some x) (he:Z.oO X e f) (hs:swapsWith e (some (.Name x pos')) pos.line X.env=pure false:=by rfl):Z.kI X (.Assign [.Name x pos'] e pos) (ia i f):=⟨have he:=he.un;fun Fm=>by
  have hm:=T.loc x (List.mem_of_getElem? hN);have hi:X.N[i]?=some x:=by
    rw [List.getElem?_take] at hN;split at hN
    · exact hN
    · cases hN
  refine PS.imp (yX T.nd hi hm.1 he hs hm.2) fun D σ H h=>?_
  obtain ⟨ρ0,sl0,q0⟩:=h;refine ⟨ρ0,sl0.sl,?_⟩;unfold ia at q0;cases ef:f ρ0 with
  | ex c=>rw [ef] at q0;exact q0.1.mono sl0.fm
  | no=>rw [ef] at q0;exact q0
  | ok d =>
    rw [ef] at q0;exact fun v H1 s p=>q0 _ H1 (iB.setOwn sl0 (sl0.mono s) s i p)⟩
end
structure zJ (J:It) (Gd:Hp->Prop) (ds:List PyData):Prop where
  go:∀ i H,Gd H->i < ds.length->J.go i H
  yld:∀ i H x H' d,Gd H->ds[i]?=some d->J.yld i H x H'->aF H H'/\Rp H' d x
  stop:∀ i H,Gd H->ds.length<=i->J.stop i H
noncomputable def Fh (H0:Hp) (B:Addr->Prop) (Gd:Hp->Prop):Prop:=∀ H,Kp H0 H->(∀ b o,B b->H0 b=some o->H b=some o)->Gd H
noncomputable def GF (X:Cx) (f:aT->R (List PyData)):TI:=fun σ H Rk=>∃ ρ,Sl H σ ρ/\match f ρ with
  | .ok ds=>∀ J H',aF H H'->(∃ Gd,zJ J Gd ds/\Fh H' (fun _=>False) Gd)->Rk J H'
  | .ex c=>Xw X c H
  | .no=>False
noncomputable def tz (X:Cx) (tg iter:Expr) (f:aT->R (List PyData)):Prop:=PI X tg iter (GF X f)
structure Z.tz (X:Cx) (tg iter:Expr) (f:aT->R (List PyData)):Prop where
  un:D2.tz X tg iter f
noncomputable def GE (X:Cx) (b:PyData->aT->Option aT):TG:=fun v σ H Q=>∃ ρ d,Sl H σ ρ/\Rp H d v/\match b d ρ with
  | some ρ'=>∀ σ',Sl H σ' ρ'->(∀ (i:Nat) (e:PyData),ρ'[i]?=some (.own e)->ρ[i]?=some (.own e)/\σ'[i]?=σ[i]?)->Q σ' H
  | none=>False
noncomputable def vb (X:Cx) (tg:Expr) (b:PyData->aT->Option aT):Prop:=PG X tg (GE X b)
structure Z.vb (X:Cx) (tg:Expr) (b:PyData->aT->Option aT):Prop where
  un:D2.vb X tg b
noncomputable def aQ (i:Nat):PyData->aT->Option aT:=fun d ρ=>some (ρ.set i (.val d))
theorem PG.imp {X:Cx} {e:Expr} {t t':TG} (h:PG X e t) (i:∀ v σ H Q,t' v σ H Q->t v σ H Q):PG X e t':=fun pins s σ H v u Q I r q=>h pins s σ H v u Q I r (i v σ H Q q)
theorem PI.imp {X:Cx} {tg e:Expr} {t t':TI} (h:PI X tg e t) (i:∀ σ H Q,t' σ H Q->t σ H Q):PI X tg e t':=fun pins s σ H Q I q=>h pins s σ H Q I (i σ H Q q)
section
variable {X:Cx} {nl:Nat} {G:List Str} {x:Str} {pos:Pos}
theorem Tb.nm (T:Tb X nl G) {i:Nat} (hN:(X.N.take nl)[i]?=some x):X.N[i]?=some x/\Bo X.env.scope x/\(X.fn x=true\/X.env.scope.names.lookup x=some .local):=by
  have hm:=T.loc x (List.mem_of_getElem? hN);have hi:X.N[i]?=some x:=by
    rw [List.getElem?_take] at hN;split at hN
    · exact hN
    · cases hN
  exact ⟨hi,hm⟩
theorem aO (T:Tb X nl G) (i:Nat) (hN:(X.N.take nl)[i]?=some x):Z.vb X (.Name x pos) (aQ i):=⟨by
  obtain ⟨hi,h1,h2⟩:=T.nm hN;refine PG.imp (qZ T.nd hi h1 h2) fun v σ H Q zq0=>?_
  obtain ⟨ρ,d,sl,p,q⟩:=zq0;refine q _ (sl.set i ⟨v,rfl,p⟩) fun j e h=>?_
  obtain ⟨ne,h⟩:=df (fun e z=>by cases z) h;exact ⟨h,by rw [List.getElem?_set,if_neg ne]⟩⟩
end
noncomputable def gf (b:PyData->aT->Option aT) (g:Fs):List PyData->Fs
  | [],ρ=>.ok (.nx ρ)
  | d::ds,ρ=>match b d ρ with
    | none=>.no
    | some ρ1=>g ρ1>>=fun o=>match o with
      | .nx ρ2=>gf b g ds ρ2
      | .ct ρ2=>gf b g ds ρ2
      | .bk ρ2=>.ok (.nx ρ2)
      | .rt r=>.ok (.rt r)
noncomputable def kC (it:aT->R (List PyData)) (b:PyData->aT->Option aT) (g:Fs):Fs:=fun ρ=>it ρ>>=fun ds=>gf b g ds ρ
noncomputable def stab (Fm H:Hp):Hp:=fun b=>match H b with
  | some (.tup xs)=>some (.tup xs)
  | some (.frz o u)=>some (.frz o u)
  | _=>Fm b
theorem xu {Fm H:Hp} (h:aF Fm H):aF (stab Fm H) H:=fun b o e=>by
  unfold stab at e;split at e
  · rename_i q;rw [q];exact e
  · rename_i q;rw [q];exact e
  · exact h b o e
theorem Be {Fm H:Hp}:Kp H (stab Fm H):=⟨fun b xs e=>by unfold stab;rw [e],fun b o u e=>by unfold stab;rw [e]⟩
theorem Bd {Fm H:Hp} (h:aF Fm H):aF Fm (stab Fm H):=fun b o e=>by
  have:=h b o e;unfold stab;split
  · rename_i q;rw [this] at q;exact q.symm
  · rename_i q;rw [this] at q;exact q.symm
  · exact e
theorem iB.stab {Fm H:Hp} {σ:St} {ρ:aT} (h:iB Fm H σ ρ):iB (stab Fm H) H σ ρ:=by
  refine ⟨xu h.fm,h.sl,fun i d a h1 h2=>?_,h.apart⟩;have f:=h.own i d a h1 h2;obtain ⟨u,e1,q⟩:=h.sl.2 i _ _ h1 h2;cases e1;unfold D2.stab;cases d <;> simp only [iA] at q
  · obtain ⟨b,vs,e,hb,_⟩:=q;cases e;rw [hb];exact f
  · obtain ⟨b,vs,e,hb,_⟩:=q;cases e;rw [hb];exact f
theorem iB.unstab {Fm F H:Hp} {σ:St} {ρ:aT} (hF:aF Fm F) (h:iB F H σ ρ):iB Fm H σ ρ:=⟨hF.trans h.fm,h.sl,fun i d a h1 h2=>hF.free (h.own i d a h1 h2),h.apart⟩
theorem eL {X:Cx} {tg iter:Expr} {body:List Stmt} {it:aT->R (List PyData)} {b:PyData->aT->Option aT} {g:Fs} {pos:Pos} (hp:PassesOwn (model X.prog X.w) X.A X.env X.xe) (hc:X.calm=true) (hi:Z.tz X tg iter it) (hg:Z.vb X tg b) (hb:Z.ly X body g) (hs:∀ x,foldedSetIterable iter X.env x=pure x:=by intro _;rfl):Z.kI X (.For tg iter body [] pos) (kC it b g):=⟨have hi:=hi.un;have hg:=hg.un;have hb:=hb.un;fun Fm=>by
  intro pins s σ H D I h;obtain ⟨ρ,sl,q⟩:=h;unfold kC at q
  -- the frame: what is stable at the loop's i6 is only known behind the iterator's making: the body is taken at every frame
  refine CS (wi:=GF X it) (g:=GE X b) (tb:=fun D' σ' H'=>∃ F,BE X F g D' σ' H') hp hc hi hg (fun pins' s' σ' H' D' I' ⟨F,q'⟩=>hb F pins' s' σ' H' D' I' q') hs pins s σ H D I ?_;refine ⟨ρ,sl.sl,?_⟩;cases ei:it ρ with
  | ex c=>rw [ei] at q;exact q.1.mono sl.fm
  | no=>rw [ei] at q;exact q
  | ok ds =>
    rw [ei] at q;intro J H1 s1 ⟨Gd,idt,sta⟩;have sl1:=sl.mono s1;let F:=stab Fm H1
    have hF:aF Fm F:=Bd sl1.fm
    -- the word: so many items are taken,and the fG gives what the whole gives
    refine ⟨fun i m σ' H'=>m=ds.length-i/\i<=ds.length/\∃ ρ',iB F H' σ' ρ'/\A4 X Fm (gf b g (ds.drop i) ρ') D,⟨ds.length,by simp,Nat.zero_le _,ρ,sl1.stab,by simpa using q⟩,?_⟩;rintro i m σ2 H2 ⟨rfl,hi',ρ2,sl2,q2⟩;have gd:Gd H2:=sta H2 (Kp.trans Be (Kp.of sl2.fm)) fun _ _ z=>z.elim
    by_cases hlt:i < ds.length
    · refine .inr ⟨idt.go i H2 gd hlt,fun σ' H'=>i+1<=ds.length/\∃ ρ',iB F H' σ' ρ'/\A4 X Fm (gf b g (ds.drop (i+1)) ρ') D,fun σ' H' ⟨z,p⟩=>⟨ds.length-(i+1),by omega,rfl,z,p⟩,fun x H3 y=>?_⟩;obtain ⟨d,hd⟩:∃ d,ds[i]?=some d:=⟨ds[i],List.getElem?_eq_getElem hlt⟩
      obtain ⟨s3,p3⟩:=idt.yld i H2 x H3 d gd hd y;have hdrop:ds.drop i=d::ds.drop (i+1):=by
        rw [List.drop_eq_getElem_cons hlt];congr 1;exact Option.some.inj ((List.getElem?_eq_getElem hlt).symm.trans hd)
      rw [hdrop] at q2;unfold gf at q2;have sl3:=sl2.mono s3;refine ⟨ρ2,d,sl3.sl,p3,?_⟩;cases eb:b d ρ2 with
      | none=>rw [eb] at q2;exact q2
      | some ρ3 =>
        rw [eb] at q2;intro σ4 sl4 hown;refine ⟨F,ρ3,⟨sl3.fm,sl4,fun j e a h1 h2=>?_,fun j k e f a h1 h2 h3 h4=>?_⟩,?_⟩
        · obtain ⟨z1,z2⟩:=hown j e h1;exact sl3.own j e a z1 (by rw [<- z2];exact h2)
        · obtain ⟨z1,z2⟩:=hown j e h1;obtain ⟨z3,z4⟩:=hown k f h2;exact sl3.apart j k e f a z1 z3 (by rw [<- z2];exact h3) (by rw [<- z4];exact h4)
        · have q3:A4 X Fm (g ρ3>>=fun o=>match o with
            | .nx ρ2=>gf b g (ds.drop (i+1)) ρ2
            | .ct ρ2=>gf b g (ds.drop (i+1)) ρ2
            | .bk ρ2=>.ok (.nx ρ2)
            | .rt r=>.ok (.rt r)) D:=q2
          cases eg:g ρ3 with
          | ex c=>rw [eg] at q3;exact ⟨q3.1.mono hF,q3.2.mono hF⟩
          | no=>rw [eg] at q3;exact q3
          | ok o =>
            rw [eg] at q3;cases o with
            | nx ρ4=>exact fun σ' H' s'=>⟨hlt,ρ4,s',q3⟩
            | ct ρ4=>exact fun σ' H' s'=>⟨hlt,ρ4,s',q3⟩
            | bk ρ4=>exact fun σ' H' s'=>q3 σ' H' (s'.unstab hF)
            | rt r=>exact fun v H' s' p'=>q3 v H' (hF.trans s') p'
    · have e:i=ds.length:=by omega
      subst e;refine .inl ⟨idt.stop _ H2 gd (Nat.le_refl _),?_⟩;rw [List.drop_length] at q2;exact q2 σ2 H2 (sl2.unstab hF)⟩
noncomputable def dB (n:Nat) (g:Fs):List PyData->R PyData:=fun ds=>g (ds.map bt.val++List.replicate (n-ds.length) .non)>>=fun o=>match o with
  | .rt d=>.ok d
  | .nx _=>.ok .none
  | _=>.no
noncomputable def dw (F:List PyData->R PyData) (n:Nat):Sp:=fun vs H Q E=>∃ ds,bx H ds vs/\ds.length=n/\match F ds with
  | .ok d=>∀ v H',aF H H'->Rp H' d v->Q v H'
  | .ex c=>∀ H',aF H H'->E (.str c 0) none H'
  | .no=>False
theorem zl {H:Hp} {N:List Str}:∀ {ds:List PyData} {vs:List V},bx H ds vs->Sl H (L2.i6 N vs) (ds.map bt.val++List.replicate (N.length-ds.length) .non):=fun {ds vs} r=>by
  have hl:=r.length;refine ⟨by unfold L2.i6;rw [List.length_append,List.length_append,List.length_map,List.length_map,List.length_replicate,List.length_replicate,hl],fun i c o h1 h2=>?_⟩;by_cases hi:i < ds.length
  · rw [List.getElem?_append_left (by simpa using hi),List.getElem?_map] at h1;cases e:ds[i]? with
    | none=>rw [e] at h1;cases h1
    | some d =>
      rw [e] at h1;cases h1;obtain ⟨v,e1,p⟩:=r.get e;unfold L2.i6 at h2;rw [List.getElem?_append_left (by rw [List.length_map,hl];exact hi),List.getElem?_map,e1] at h2;cases h2;exact ⟨v,rfl,p⟩
  · rw [List.getElem?_append_right (by simpa using hi),List.getElem?_replicate] at h1;split at h1
    · cases h1;exact True.intro
    · cases h1
section
variable {P:Program} {w:World} {H:Hp} {h:Heap} {a:Addr}
theorem qV:∀ {o:HO},bV P w H h a o->∃ u,h.get? a=some u
  | .lst xs,x=>by obtain ⟨_,_,_,_,e⟩:=x;exact ⟨_,e⟩
  | .tup xs,x=>by obtain ⟨_,_,_,o,e,_⟩:=x;exact ⟨_,e⟩
  | .dK kvs,x=>by obtain ⟨_,_,_,_,o,_,_,e,_⟩:=x;exact ⟨_,e⟩
  | .dT kvs,x=>by obtain ⟨_,_,_,_,o,_,_,e,_⟩:=x;exact ⟨_,e⟩
  | .set S n,x=>by obtain ⟨o,_,_,_,e,_⟩:=x;exact ⟨_,e⟩
  | .ins C dx fs,x=>by obtain ⟨_,_,_,e,_⟩:=x;exact ⟨_,e⟩
  | .own y,x=>by obtain ⟨_,e⟩:=x;exact ⟨_,e⟩
  | .xd fs,x=>by obtain ⟨_,⟨_,_,_,e,_⟩,_⟩:=x;exact ⟨_,e⟩
  | .rng lo hi,x=>by obtain ⟨_,_,_,e⟩:=x;exact ⟨_,e⟩
  | .frz ob u,x=>by obtain ⟨e,_⟩:=x;exact ⟨_,e⟩
  | .tbl ps,x=>⟨_,(show h.get? a=some _ from x)⟩
  | .met f y,x=>⟨_,(show h.get? a=some _ from x)⟩
  | .ext φ,x=>by obtain ⟨_,⟨_,e⟩,_⟩:=x;exact ⟨_,e⟩
end
theorem qc.un {P:Program} {w:World} {outer:List Env} {H H':Hp} {s s':Shared} {C:Addr} {e:Value} (f:qc P w outer H s C H' e s'):Un (lx outer) [] H H' s.heap s'.heap:=by
  obtain ⟨p,a0,B,_,fl,ok,_,cov⟩:=f.ex;refine ⟨fun b o q n hb _=>fl.1 _ _ (cov b o q n hb).1,fun b o q n hb _=>(f.slot b o q n hb).1,fun b o q n _=>?_,fun b o q _=>?_,fun b xs q=>f.same _ _ q,fun b o u q=>f.same _ _ q,fun b ps q=>⟨#[],by rw [f.same _ _ q];simp⟩⟩
  · by_cases hb:b∈lx outer
    · exact (f.slot b o q n hb).2
    · exact (cov b o q n hb).2
  · cases n:H b with
    | none =>
      by_cases hb:b∈lx outer
      · obtain ⟨sl,z⟩:=(f.slot b o q n hb).1;exact ⟨_,z⟩
      · exact ⟨o,fl.1 _ _ (cov b o q n hb).1⟩
    | some u =>
      obtain ⟨o',z⟩:=qV (ok b u (f.same _ _ n));exact ⟨o',fl.1 _ _ z⟩
theorem qc.hok {P:Program} {w:World} {outer:List Env} {H H':Hp} {s s':Shared} {C:Addr} {e:Value} (f:qc P w outer H s C H' e s'):gX P w H' s'.heap:=by
  obtain ⟨p,a0,B,_,fl,ok,_,_⟩:=f.ex;exact ok.kept fun b u q=>fl.1 b u q
theorem BR.un {P:Program} {w:World} {outer:List Env} {H H':Hp} {s s':Shared} {C:Addr} {e:Value} (f:BR P w outer H s C H' e s'):Un (lx outer) [] H H' s.heap s'.heap:=f.hld.un
theorem qc.inv {X:Cx} {pins:List (Addr×Obj)} {σ:St} {Hc H1:Hp} {sc s':Shared} {C:Addr} {e:Value} (f:qc X.prog X.w X.stack Hc sc C H1 e s') (I:aL X pins σ Hc sc):aL X pins σ H1 s' :=
  I.call' f.os f.un f.hok f.bare fun b z=>absurd z (by simp)
section
variable {P:Program} {w:World} {l:List Env} {H H':Hp} {s s':Shared} {C p:Addr} {e:Value}
theorem qc.again {a0:Value} {B h':Heap} (f:qc P w l H s C H' e s') (t:rP B l p (.ref C) a0 s'.heap) (t':rP B l p (.ref C) a0 h') (up:s'.heap.UpToSlots h') (okB:gX P w H' B) (hp:H' p=none)
    (cov:∀ b o,s.heap.get? b=some o->H b=none->b∉lx l->B.get? b=some o/\H' b=none):qc P w l H s C H' (.ref p) { s' with heap:=h' }:=by
  refine ⟨f.os,f.bare,f.same,⟨p,a0,B,rfl,t',okB,hp,cov⟩,fun b o q n hb=>?_⟩;obtain ⟨⟨sl,q2⟩,n2⟩:=f.slot b o q n hb;obtain ⟨_,o3,q3,nf⟩:=t.2.2.1.mem hb;rw [q2] at q3;cases q3;obtain ⟨sl3,q4⟩:=up b _ q2 nf;exact ⟨⟨sl3,q4⟩,n2⟩
theorem yH {x:Value} {env env0:Env} (h:env.frame=env0.frame):noteFrame x env=noteFrame x env0:=by
  unfold noteFrame PySem.frameOf;rw [h]
theorem qc.note {M:Model} {A:Around} {E:Value->Shared->Prop} {Q:Unit->Shared->Prop} {env env0:Env} {outer:List Env} {L:Addr} (f:qc P w l H s C H' e s') (hl:l=env0::outer) (hfr:A.frames=some l) (h0:env0.frame=some L) (h1:env.frame=some L)
    (k:∀ h',qc P w l H s C H' e { s' with heap:=h' }->s'.heap.UpToSlots h'->Q () { s' with heap:=h' }):wpAny M A (noteFrame e env) Q E s':=by
  subst hl;obtain ⟨p,a0,B,rfl,t,okB,hp,cov⟩:=f.ex;rw [yH (h1.trans h0.symm)];exact tt hfr h0 t fun h' t' up=>k h' (f.again t t' up okB hp cov) up
theorem qc.pass {α:Type} {M:Model} {A:Around} {E:Value->Shared->Prop} {Q:α->Shared->Prop} {env:Env} {what:String} (f:qc P w l H s C H' e s') (k:∀ h',qc P w l H s C H' e { s' with heap:=h' }->E e { s' with heap:=h' }):wpAny M A (PySem.passOn what e env:Sem α) Q E s':=by
  obtain ⟨p,a0,B,rfl,t,okB,hp,cov⟩:=f.ex;exact zy t fun h' t' up=>k h' (f.again t t' up okB hp cov)
end
section
variable {P:Program} {w:World} {K:PySem.W.Frag} {mg:Str->Option Value} {base:Heap} {N:List Str} {qual:Str} {sc:Scope} {f:Addr} {cdv:Value} {A:Around} {outer:List Env} {s:Shared} {H:Hp} {E:XK} {c:Str}
theorem Dw (h:∀ H',aF H H'->E (.str c 0) none H'):Xw (fN (cQ P w mg) P w K mg base N qual sc f cdv A outer s H E) c H:=by
  intro H1 s1 C hm pins σ Hc sc' e s' I fl;obtain ⟨p,a0,B,rfl,fly,okB,hp,cov⟩:=fl.ex;have old:∀ b o,s.heap.get? b=some o->b≠s.heap.objs.size:=fun b o q=>Nat.ne_of_lt (Heap.lt_size q)
  refine xy I.ok.frames rfl fly fun h' fl' up=>⟨c,C,H1,hm,⟨fl.os.trans I.os,fl.bare,s1,⟨p,a0,B,rfl,fl',okB,hp,fun b o q n hb=>?_⟩,fun b o q n hb=>?_⟩,h H1 s1⟩
  · have q1:=I.base.keep b o q n hb (by simp [fN]);have n1:=I.base.free b o q n (by simp [fN]);refine cov b o q1 n1 fun z=>?_
    have z':b∈(s.heap.objs.size::lx outer):=z;rcases List.mem_cons.mp z' with z2 | z2
    · exact old b o q z2
    · exact hb z2
  · obtain ⟨sl,q1⟩:=I.base.slot b o q n hb (by simp [fN]);have n1:=I.base.free b o q n (by simp [fN]);have hb':b∈lx (fN (cQ P w mg) P w K mg base N qual sc f cdv A outer s H E).stack:=List.mem_cons_of_mem _ hb;obtain ⟨⟨sl',q2⟩,n2⟩:=fl.slot b _ q1 n1 hb';obtain ⟨_,o3,q3,nf⟩:=fly.2.2.1.mem hb';rw [q2] at q3;cases q3;obtain ⟨sl3,q4⟩:=up b _ q2 nf;exact ⟨⟨sl3,q4⟩,n2⟩
theorem Bl (h:∀ H',aF H H'->E (.str c 0) none H'):DK (fN (cQ P w mg) P w K mg base N qual sc f cdv A outer s H E) c H:=by
  intro C hm pins σ Hm sm sH I h' p vs hx;have hin:∀ env∈(fN (cQ P w mg) P w K mg base N qual sc f cdv A outer s H E).stack,∀ b,env.frame=some b->b∈lx (fN (cQ P w mg) P w K mg base N qual sc f cdv A outer s H E).stack:=fun env he b hb=>List.mem_filterMap.mpr ⟨env,he,hb⟩
  have old:∀ b o,s.heap.get? b=some o->b≠s.heap.objs.size:=fun b o q=>Nat.ne_of_lt (Heap.lt_size q)
  refine wpAny_leaves_madeW (s:={ sm with heap:=h' }) (base:=PySem.W.hideAll sm.heap (lx (fN (cQ P w mg) P w K mg base N qual sc f cdv A outer s H E).stack)) I.ok.frames rfl (fun b o q=>PySem.W.of_hideAll _ q) (PySem.W.funFrames_hide I.stack hin) hx fun h'' t fl' _ _ up =>
    ⟨c,C,Hm,hm,⟨I.os,I.bare,sH,⟨p,.ref t,_,rfl,fl',fun b u q=>?_,?_,fun b o q n hb=>?_⟩,fun b o q n hb=>?_⟩,h Hm sH⟩
  · refine (I.hok b u q).stay (fun c' v hc z=>PySem.W.hideAll_get _ z fun m=>?_) (fun _ z=>z) fun _ _ z=>z
    have hn:=I.stkFree c' m;rcases hc with rfl | hc
    · rw [hn] at q;cases q
    · rw [hn] at hc;cases hc
  · cases q:Hm p with
    | none=>rfl
    | some u =>
      obtain ⟨o',z⟩:=qV (I.hok p u q);rw [hx.new] at z;cases z
  · have q1:=I.base.keep b o q n hb (by simp [fN]);have n1:=I.base.free b o q n (by simp [fN]);refine ⟨PySem.W.hideAll_get _ q1 fun z=>?_,n1⟩;have z':b∈(s.heap.objs.size::lx outer):=z;rcases List.mem_cons.mp z' with z2 | z2
    · exact old b o q z2
    · exact hb z2
  · obtain ⟨sl,q1⟩:=I.base.slot b o q n hb (by simp [fN]);have n1:=I.base.free b o q n (by simp [fN]);have hb':b∈lx (fN (cQ P w mg) P w K mg base N qual sc f cdv A outer s H E).stack:=List.mem_cons_of_mem _ hb;obtain ⟨_,o3,q3,nf⟩:=I.stack.mem hb';rw [q1] at q3;cases q3;obtain ⟨sl3,q4⟩:=up b _ (hx.keeps _ _ q1) nf;exact ⟨⟨sl3,q4⟩,n1⟩
end
theorem At {P:Program} {w:World} {K:PySem.W.Frag} {mg:Str->Option Value} {base:Heap} {x qual:Str} {st:Stmt} {f:Addr} {fd:FuncData} {N ps:List Str} {k:Nat} {g:Fs} (F:fX K x qual st f fd) (S:aS N ps (ai st))
    (body:∀ (cdv:Value) (A:Around) (outer:List Env) (s:Shared) (H:Hp) (E:XK),e8 k (A.deeper (envOfC qual (ai st) s.heap.objs.size f cdv)) ->
      ly (fN (cQ P w mg) P w K mg base N qual (ai st) f cdv A outer s H E) (de st) g):aY P w K mg base (cQ P w mg) (k+1) f fd ps (dw (dB N.length g) ps.length):=by
  obtain ⟨oc,od,kV,doc,pm,an,cdv,ct,osl,rfl,lk,hcd⟩:=F.ex;refine yk lk hcd S (fun vs H Q E ⟨ds,r,hl,_⟩=>by rw [r.length];exact hl) fun A outer s H vs Q E hr h=>?_
  obtain ⟨ds,r,hl,q⟩:=h;have noOwn:∀ (i:Nat) (d:PyData),(ds.map bt.val++List.replicate (N.length-ds.length) bt.non)[i]?=some (.own d)->False:=fun i d h1=>by
    by_cases hi:i < ds.length
    · rw [List.getElem?_append_left (by simpa using hi),List.getElem?_map] at h1;cases e:ds[i]? with
      | none=>rw [e] at h1;cases h1
      | some d=>rw [e] at h1;cases h1
    · rw [List.getElem?_append_right (by simpa using hi),List.getElem?_replicate] at h1;split at h1
      · cases h1
      · cases h1
  refine ⟨_,body cdv A outer s H E hr H,_,⟨aF.refl _,zl r,fun i d a h1 h2=>(noOwn i d h1).elim,fun i j d e a h1 h2 h3 h4=>(noOwn i d h1).elim⟩,?_⟩;unfold dB at q;cases eg:g (ds.map bt.val++List.replicate (N.length-ds.length) .non) with
  | ex c=>rw [eg] at q;exact ⟨Dw q,Bl q⟩
  | no=>rw [eg] at q;exact q.elim
  | ok o =>
    rw [eg] at q;cases o with
    | rt d=>exact fun v H' s' p=>q v H' s' p
    | nx ρ=>exact fun σ' H' s'=>q .non H' s'.fm (by simp only [Rp])
    | bk ρ=>exact q.elim
    | ct ρ=>exact q.elim
noncomputable def aD (F:List PyData->R PyData) (fs:aT->R (List PyData)):Fe:=fun ρ=>fs ρ>>=F
theorem Ar {X:Cx} {k n:Nat} {f:Addr} {fd:FuncData} {ps:List Str} {F:List PyData->R PyData} {x:Str} {p pos:Pos} {e:Expr} {es:List Expr} {fs:aT->R (List PyData)} {nl:Nat} {G:List Str}
    (C:aY X.prog X.w X.K X.mg X.base (cQ X.prog X.w X.mg) k f fd ps (dw F n)) (hr:e8 k X.A) (T:Tb X nl G) (j:Nat) (hG:G[j]?=some x) (hm:X.mg x=some (.ref f)) (hk:PySem.W.keepIn X.K (.ref f)=true) (hb:bB X.K fd ps []) (ha:tx X (e::es) fs)
    (hlen:(e::es).length=n) (hfs:∀ ρ ds,fs ρ=.ok ds->ds.length=n)
    (he:(e::es).all aX=true:=by rfl):cY X (.Call (.Name x p) (e::es) [] pos) (aD F fs):=by
  rw [List.all_cons,Bool.and_eq_true] at he;have g:=T.gl x (List.mem_of_getElem? hG);refine PE.imp (AR C hr g.1 hm hk hb .nil vV ha g.2.1 (bq he.1) (oy he.2)) fun σ H Q zq0=>?_
  obtain ⟨ρ,sl,q⟩:=zq0;refine ⟨ρ,sl,?_⟩;unfold aD at q;cases e1:fs ρ with
  | ex c=>rw [e1] at q;exact q
  | no=>rw [e1] at q;exact q
  | ok ds =>
    rw [e1] at q;intro vs H1 s1 r1;rw [List.append_nil];refine ⟨ds,og.mp r1,hfs ρ ds e1,?_⟩;have q':v7 X im (F ds) H Q:=q;cases e2:F ds with
    | ok d=>rw [e2] at q';exact fun v H' s' p'=>q' v H' (s1.trans s') p'
    | ex c=>rw [e2] at q';exact fun H' s'=>Xw.ex q' H' (s1.trans s')
    | no=>rw [e2] at q';exact q'
theorem ao:∀ ρ ds,aH ρ=.ok ds->ds.length=0:=fun ρ ds e=>by cases e;rfl
theorem af {f:Fe} {g:aT->R (List PyData)} {n:Nat} (h:∀ ρ ds,g ρ=.ok ds->ds.length=n):∀ ρ ds,ah f g ρ=.ok ds->ds.length=n+1:=fun ρ ds e=>by
  unfold ah at e;cases e1:f ρ with
  | ex c=>rw [e1] at e;cases e
  | no=>rw [e1] at e;cases e
  | ok d =>
    rw [e1] at e;cases e2:g ρ with
    | ex c=>rw [e2] at e;cases e
    | no=>rw [e2] at e;cases e
    | ok ds'=>rw [e2] at e;cases e;rw [List.length_cons,h ρ ds' e2]
theorem ug {scope:Scope} {env:Env} (h:∀ x∈scope.names,x.2=.free->∃ c,env.cells.lookup x.1=some c) :
    ∃ cl,closureFor scope env=pure cl/\(∀ x c,cl.lookup x=some c->env.cells.lookup x=some c)/\∀ x∈scope.names,x.2=.free->∃ c,cl.lookup x.1=some c:=by
  suffices gen:∀ (names:List (Str×NameKind)) (acc:List (Str×Addr)),(∀ x∈names,x.2=.free->∃ c,env.cells.lookup x.1=some c)->(∀ x c,acc.lookup x=some c->env.cells.lookup x=some c) ->
      ∃ cl,(forIn names acc fun x r=>if (x.snd==NameKind.free)=true then do let a <- cellOf env x.fst;pure (ForInStep.yield ((x.fst,a)::r)) else pure (ForInStep.yield r):Sem (List (Str×Addr)))=pure cl /\
        (∀ x c,cl.lookup x=some c->env.cells.lookup x=some c)/\(∀ x c,acc.lookup x=some c->∃ c',cl.lookup x=some c')/\∀ x∈names,x.2=.free->∃ c,cl.lookup x.1=some c by
    obtain ⟨cl,h1,h2,_,h4⟩:=gen scope.names [] h fun x c e=>by simp at e
    refine ⟨cl,?_,h2,h4⟩;simp only [closureFor];rw [h1];rfl
  intro names;induction names with
  | nil=>intro acc _ ha;exact ⟨acc,rfl,ha,fun x c e=>⟨c,e⟩,fun x hx=>by cases hx⟩
  | cons y r ih =>
    intro acc hn ha;obtain ⟨n,k⟩:=y;by_cases hk:k=.free
    · subst hk;obtain ⟨c,hc⟩:=hn (n,.free) List.mem_cons_self rfl;obtain ⟨cl,e1,e2,e3,e4⟩:=ih ((n,c)::acc) (fun x hx=>hn x (List.mem_cons_of_mem _ hx)) (fun x c' e=>by
        rw [List.lookup_cons] at e;split at e
        · rename_i q;have:x=n:=by simpa using q
          subst this;cases e;exact hc
        · exact ha x c' e)
      refine ⟨cl,?_,e2,fun x c' e=>?_,fun x hx hf=>?_⟩
      · rw [List.forIn_cons];have:cellOf env n=pure c:=by unfold cellOf;rw [hc]
        simp only [beq_self_eq_true,if_true,this,pure_bind];exact e1
      · by_cases hx:x=n
        · subst hx;exact e3 x c (by rw [List.lookup_cons];simp)
        · have hb:(x==n)=false:=by simpa using hx
          exact e3 x c' (by rw [List.lookup_cons,hb];exact e)
      · rcases List.mem_cons.mp hx with rfl | hx
        · exact e3 n c (by rw [List.lookup_cons];simp)
        · exact e4 x hx hf
    · obtain ⟨cl,e1,e2,e3,e4⟩:=ih acc (fun x hx=>hn x (List.mem_cons_of_mem _ hx)) ha;refine ⟨cl,?_,e2,e3,fun x hx hf=>?_⟩
      · rw [List.forIn_cons];have:(k==NameKind.free)=false:=by simpa using hk
        simp only [this,Bool.false_eq_true,if_false,pure_bind];exact e1
      · rcases List.mem_cons.mp hx with rfl | hx
        · exact absurd hf hk
        · exact e4 x hx hf
noncomputable def EB (env:Env) (p:Str×NameKind):NameKind:=if (p.2==.free&&env.scope.kind==.function&&env.kindOf p.1==some .cell)=true then .cell else p.2
theorem o4 (scope:Scope) (env:Env):(relabel scope env).names=scope.names.map fun p=>(p.1,EB env p):=by
  unfold relabel;refine List.map_congr_left fun p _=>?_
  obtain ⟨n,k⟩:=p;unfold EB;dsimp only;split <;> rfl
theorem l8 (g:Str×NameKind->NameKind) (x:Str):∀ l:List (Str×NameKind),(l.map fun p=>(p.1,g p)).lookup x=(l.lookup x).map fun k=>g (x,k)
  | []=>rfl
  | (n,k)::r=>by
    rw [List.map_cons];cases hx:x==n with
    | true =>
      have e:x=n:=by simpa using hx
      subst e;simp
    | false =>
      have ne:¬ x=n:=by simpa using hx
      simp only [List.lookup_cons,hx];exact l8 g x r
theorem kA (scope:Scope) (env:Env) (x:Str):(relabel scope env).names.lookup x=(scope.names.lookup x).map fun k=>EB env (x,k):=by
  rw [o4];exact l8 _ _ _
theorem fj {scope:Scope} {env:Env} {x:Str} {k:NameKind} (h:scope.names.lookup x=some k) (hk:k≠.free):(relabel scope env).names.lookup x=some k:=by
  rw [kA,h];have:(k==NameKind.free)=false:=by simpa using hk
  simp only [EB,this,Bool.false_and,Bool.false_eq_true,if_false,Option.map_some]
theorem lg {scope:Scope} {env:Env} {x:Str} (h:scope.names.lookup x=some .free):(relabel scope env).names.lookup x=some .free\/(relabel scope env).names.lookup x=some .cell:=by
  rw [kA,h];unfold EB;dsimp only [Option.map_some];split
  · exact .inr rfl
  · exact .inl rfl
theorem sW {scope:Scope} {env:Env} {x:Str} (hc:∀ y∈scope.names,y.2≠.cell) (h:(relabel scope env).names.lookup x=some .free\/(relabel scope env).names.lookup x=some .cell):(x,NameKind.free)∈scope.names:=by
  cases e:scope.names.lookup x with
  | none =>
    rw [kA,e] at h;rcases h with h | h <;> cases h
  | some k =>
    by_cases hk:k=.free
    · subst hk;exact PySem.mem_of_lookup e
    · exfalso;have:=fj (env:=env) e hk;rw [this] at h;rcases h with h | h
      · cases h;exact hk rfl
      · cases h;exact hc _ (PySem.mem_of_lookup e) rfl
noncomputable def bi (X:Cx) (N:List Str) (scope:Scope) (cl:List (Str×Addr)) (C:Addr) (s:Shared) (H:Hp) (fp:List Addr) (E:Value->Shared->Prop:=fun _ _=>False):Cx :=
  { X with N:=N,s₀:=s,H₀:=H,env:=compEnvC scope cl C X.env,outer:=X.stack,stack:=X.stack,ex:=fp,fn:=fun _=>false,pn:=[],xe:=E }
noncomputable def fA (sc:Scope) (N:List Str) (own:Nat) (G:List Str) (oN:List Str) (fr:List Nat):Prop :=
  sc.kind=.function/\(∀ y∈sc.names,y.2≠.cell)/\(∀ y∈sc.names,y.2=.local->sc.names.lookup y.1=some .local)/\N.Nodup/\(∀ x∈N.take own,sc.names.lookup x=some .local)/\(∀ x∈N.drop own,sc.names.lookup x=some .free) /\
  (∀ x∈N,(x==("__debug__" : Str))=false/\(x==("__classdict__" : Str))=false)/\(∀ x∈G,sc.names.lookup x=some .globalImplicit/\(x==("__debug__" : Str))=false/\x≠("__name__" : Str)) /\
  own<=N.length/\(N.drop own).map some=fr.map fun i=>oN[i]?
noncomputable instance {sc:Scope} {N:List Str} {own:Nat} {G oN:List Str} {fr:List Nat}:Decidable (fA sc N own G oN fr):=by unfold fA;infer_instance
theorem Ag {X:Cx} {nl:Nat} {G0:List Str} (T:Tb X nl G0) {sc:Scope} {N:List Str} {own:Nat} {G oN:List Str} {fr:List Nat} (ck:fA sc N own G oN fr) (cl:List (Str×Addr)) (C:Addr) (s:Shared) (H:Hp) (fp:List Addr) :
    Tb (bi X N sc cl C s H fp) own G:=by
  obtain ⟨_,_,_,nd,l,f,db,g,_,_⟩:=ck;refine ⟨T.hu,T.calm,nd,fun x hx=>?_,fun x hx=>?_,fun x hx=>?_⟩
  · refine ⟨?_,db x hx⟩;have hx':x∈N.take own++N.drop own:=by rw [List.take_append_drop];exact hx
    rcases List.mem_append.mp hx' with z | z
    · exact .inl (fj (l x z) (by decide))
    · rcases lg (env:=X.env) (f x z) with q | q
      · exact .inr (.inr q)
      · exact .inr (.inl q)
  · have q:=fj (env:=X.env) (l x hx) (by decide);exact ⟨.inl q,.inr q⟩
  · obtain ⟨g1,g2,g3⟩:=g x hx;exact ⟨fj (env:=X.env) g1 (by decide),g2,g3⟩
theorem x9 {X:Cx} {nl:Nat} {G0:List Str} (T:Tb X nl G0) {sc:Scope} {N:List Str} {own:Nat} {G oN:List Str} {fr:List Nat} (ck:fA sc N own G oN fr) (cl:List (Str×Addr)) (C:Addr) (s:Shared) (H:Hp) (fp:List Addr) (E:Value->Shared->Prop) :
    Tb (bi X N sc cl C s H fp E) own G:=let T1:=Ag T ck cl C s H fp;⟨T1.hu,T1.calm,T1.nd,T1.vis,T1.loc,T1.gl⟩
noncomputable def GL (X:Cx) (ifs:List Expr) (t:TT):Prop :=
  ∀ (pins:List (Addr×Obj)) (s:Shared) (σ:St) (H:Hp) (Q:Bool->Hp->Prop),aL X pins σ H s->t σ H Q->wpAny (model X.prog X.w) X.A (forIn ifs true fun c r=>if r=true then do let ok <- isTrue c X.env (eval c X.env);pure (ForInStep.yield ok) else pure (ForInStep.yield r))
    (TP X pins σ Q) X.xe s
noncomputable def wt (X:Cx) (ifs:List Expr) (t:aT->R Bool):Prop:=GL X ifs (A5 X t)
structure Z.wt (X:Cx) (ifs:List Expr) (t:aT->R Bool):Prop where
  un:D2.wt X ifs t
theorem cv {X:Cx}:Z.wt X [] (fun _=>.ok true):=⟨fun pins s σ H Q I ⟨ρ,sl,q⟩=>wpAny_tests_nil ⟨H,I,q H (aF.refl _)⟩⟩
theorem eK {X:Cx} {c:Expr} {t:aT->R Bool} (h:Z.mD X c t):Z.wt X [c] t:=⟨have h:=h.un;fun pins s σ H Q I q=>wpAny_tests_one (h pins s σ H Q I q)⟩
noncomputable def bC (b:PyData->aT->Option aT) (t:aT->R Bool) (f:Fe) (ρ:aT):List PyData->R (List PyData)
  | []=>.ok []
  | d::ds=>match b d ρ with
    | none=>.no
    | some ρ1=>t ρ1>>=fun k=>if k=true then f ρ1>>=fun x=>bC b t f ρ ds>>=fun xs=>.ok (x::xs) else bC b t f ρ ds
noncomputable def ax (own:Nat) (fr:List Nat) (ρ:aT):aT:=List.replicate own .non++fr.map fun i=>ρ.getD i .non
noncomputable def lc {α:Type}:R α->R α
  | .ex _=>.no
  | r=>r
noncomputable def bN (it:aT->R (List PyData)) (own:Nat) (fr:List Nat) (b:PyData->aT->Option aT) (t:aT->R Bool) (f:Fe):Fe:=fun ρ =>
  lc (it ρ)>>=fun ds=>if ds.length<=sizeLine then match bC b t f (ax own fr ρ) ds with
    | .ok xs=>.ok (.list xs)
    | .ex c=>.ex c
    | .no=>.no
  else .no
noncomputable def gM (own:Nat) (fr:List Nat) (σ:St):St:=List.replicate own none++fr.map fun i=>(σ[i]?).join
theorem Af {H:Hp} {σ:St} {ρ:aT} (h:Sl H σ ρ) (own:Nat) (fr:List Nat) (hin:∀ i∈fr,i < ρ.length):Sl H (gM own fr σ) (ax own fr ρ):=by
  refine ⟨by simp [gM,ax],fun i c o h1 h2=>?_⟩;unfold ax at h1;unfold gM at h2;by_cases hi:i < own
  · rw [List.getElem?_append_left (by simpa using hi),List.getElem?_replicate,if_pos hi] at h1;cases h1;exact True.intro
  · rw [List.getElem?_append_right (by simpa using hi),List.getElem?_map,List.length_replicate] at h1 h2;cases e:fr[i-own]? with
    | none=>rw [e] at h1;cases h1
    | some j =>
      rw [e] at h1 h2;have hj:=hin j (List.mem_of_getElem? e);have hj':j < σ.length:=by rw [h.1];exact hj
      cases h1;cases h2;refine h.2 j _ _ ?_ ?_
      · show ρ[j]?=some (ρ.getD j .non);rw [List.getD_eq_getElem?_getD,List.getElem?_eq_getElem hj];rfl
      · show σ[j]?=some ((σ[j]?).join);rw [List.getElem?_eq_getElem hj'];rfl
section
variable {X:Cx} {pins:List (Addr×Obj)} {σ:St} {H:Hp} {s:Shared} {nl:Nat} {G0:List Str} {sc:Scope} {N:List Str} {own:Nat} {G:List Str} {fr:List Nat} {cl:List (Str×Addr)} {fp:List Addr} {a C:Addr} {h4:Heap} {t4:Nat} {m:Str->Option Value}
theorem yp (I:aL X pins σ H s) (ck:fA sc N own G X.N fr) (hf:∀ b∈fp,mn X pins H b) (hob:∀ b∈fp,b < s.heap.objs.size) (hcl1:∀ x c,cl.lookup x=some c->X.env.cells.lookup x=some c) (hcl2:∀ x∈sc.names,x.2=.free->∃ c,cl.lookup x.1=some c)
    (vis:∀ x∈X.N,BV X.env.scope x) (hout:∀ y∈sc.names,y.2=.free->X.env.kindOf y.1=some .cell\/X.env.kindOf y.1=some .free)
    (ha:s.heap.objs.size<=a) (hC:s.heap.objs.size<=C) (hac:a≠C) (keep:∀ b o,s.heap.get? b=some o->h4.get? b=some o) (hl:h4.get? a=some { cls:=.type "list",data:=.seq #[] 0 }) (hn:h4.Ns C m) :
    aL (bi X N sc cl C s H fp) [] (gM own fr σ) (cP H a (.lst [])) { s with heap:=h4,toks:=t4 }:=by
  obtain ⟨ck1,ck2,ck3,nd,l,f,db,g,ol,ofr⟩:=ck;have hHa:H a=none:=I.hok.fresh ha;have hHC:H C=none:=I.hok.fresh hC;have lt:∀ {b:Addr} {o:Obj},s.heap.get? b=some o->b < s.heap.objs.size:=fun e=>Heap.lt_size e
  have cellLt:∀ x c,cl.lookup x=some c->c < s.heap.objs.size:=fun x c e=>by
    obtain ⟨v,q⟩:=I.cell x c (hcl1 x c e);exact q.lt
  refine ⟨⟨I.ok.mod,ck1,I.ok.glob,I.ok.blt,hC,fun x y c h1 h2=>I.ok.inj x y c (hcl1 x c h1) (hcl1 y c h2),fun x hx=>?_,fun x c hx=>(Bool.false_ne_true hx).elim,I.ok.hd,I.ok.frames,.inl rfl,fun b hb=>⟨?_,fun x c e=>?_⟩,I.bs,Nat.le_trans I.ok.bsz I.sz,fun b o e hb=>?_,fun b hb hs=>?_,I.stack,I.stkFree⟩,
    rfl,I.bare,Un.laid keep ha hHa,⟨m,hn,fun i x v h1 h2 h3=>?_⟩,fun x c e=>?_,?_,fun x c e=>?_,fun p hp=>?_,?_,?_⟩
  · have q:=sW (env:=X.env) ck2 (show (relabel sc X.env).names.lookup x=some .free\/(relabel sc X.env).names.lookup x=some .cell from hx.elim .inr .inl);exact hcl2 _ q rfl
  · exact Nat.ne_of_lt (Nat.lt_of_lt_of_le (hob b hb) hC)
  · exact (hf b hb).2.2.2.2.1 x c (hcl1 x c e)
  · rcases (hf b hb).2.2.2.1 with z | z
    · exact I.ok.noex b o e z
    · exact absurd (Nat.lt_of_lt_of_le (Heap.lt_size e) I.ok.bsz) (Nat.not_lt.mpr z)
  · rcases List.mem_cons.mp (I.stkSub b hs) with z | z
    · exact (hf b hb).2.1 z
    · exact (hf b hb).2.2.1 z
  · -- a captured name
    have hi:¬ i < own:=fun hi=>by
      unfold gM at h2;rw [List.getElem?_append_left (by simpa using hi),List.getElem?_replicate,if_pos hi] at h2;cases h2
    unfold gM at h2;rw [List.getElem?_append_right (by simpa using hi),List.getElem?_map,List.length_replicate] at h2;cases e:fr[i-own]? with
    | none=>rw [e] at h2;cases h2
    | some j =>
      rw [e] at h2;have h2':(σ[j]?).join=some v:=Option.some.inj h2;have hσ:σ[j]?=some (some v):=by
        cases q:σ[j]? with
        | none=>rw [q] at h2';cases h2'
        | some o=>rw [q] at h2';exact congrArg some h2'
      have hx:(N.drop own)[i-own]?=some x:=by
        rw [List.getElem?_drop];have:own+(i-own)=i:=by omega
        rw [this];exact h1
      have hj:X.N[j]?=some x:=by
        have q:=congrArg (fun l=>l[i-own]?) ofr;simp only [List.getElem?_map,hx,e,Option.map_some] at q;exact (Option.some.inj q).symm
      have hfree:=f x (List.mem_of_getElem? hx);obtain ⟨c,hc⟩:=hcl2 _ (PySem.mem_of_lookup hfree) rfl;have hXc:=hcl1 x c hc;obtain ⟨m0,hn0,hl0⟩:=I.loc;obtain ⟨u,ru,lk⟩:=hl0 j x v hj hσ (vis x (List.mem_of_getElem? hj));have ko:=hout _ (PySem.mem_of_lookup hfree) rfl;refine ⟨u,ru,.inr ⟨(lg (env:=X.env) hfree).symm,c,hc,?_⟩⟩;rcases lk with ⟨k1,_⟩ | ⟨_,c',e1,ob,q1,q2⟩
      · exfalso;rcases ko with k | k <;> (rw [k] at k1;cases k1)
      · rw [hXc] at e1;cases e1;exact ⟨ob,keep _ _ q1,q2⟩
  · obtain ⟨v,o,q,d⟩:=I.cell x c (hcl1 x c e);exact ⟨v,o,keep _ _ q,d⟩
  · show cP H a (.lst []) C=none;rw [av (Ne.symm hac)];exact hHC
  · have q:=I.freeC x c (hcl1 x c e);show cP H a (.lst []) c=none;rw [av (Nat.ne_of_lt (Nat.lt_of_lt_of_le (cellLt x c e) ha))];exact q
  · exact absurd (show p∈([]:List (Addr×Obj)) from hp) (by simp)
  · exact I.hok.laid keep ha ⟨Nat.zero_le _,[],0,.nil,hl⟩
  · show (gM own fr σ).length=N.length;have q:=congrArg List.length ofr;rw [List.length_map,List.length_map,List.length_drop] at q;unfold gM;rw [List.length_append,List.length_replicate,List.length_map];omega
end
noncomputable def mm (ρ0 ρ1:aT):Prop:=ρ1.length=ρ0.length/\∀ (i:Nat) (c:bt),ρ0[i]?=some c->c=.non\/ρ1[i]?=some c
theorem Sl.unfit {H:Hp} {σ:St} {ρ0 ρ1:aT} (h:Sl H σ ρ1) (f:mm ρ0 ρ1):Sl H σ ρ0:=by
  refine ⟨h.1.trans f.1,fun i c o h1 h2=>?_⟩;rcases f.2 i c h1 with rfl | q
  · exact True.intro
  · exact h.2 i c o q h2
noncomputable def xL (H0:Hp) (σ:St) (ρ:aT):Prop:=∀ (i:Nat) (e:PyData),ρ[i]?=some (.own e)->∃ v,σ[i]?=some (some v)/\iA H0 e v
inductive GI (X:Cx) (tn:Nat->Heap->Prop) (fp:List Addr) (a:Addr) (b:PyData->aT->Option aT) (t:aT->R Bool) (f:Fe) (ds:List PyData) (r:R (List PyData)) (H0:Hp) (ρ0:aT) (n:Nat) (s:Shared):Prop
  | mk (i:Nat) (acc:List PyData) (σ:St) (H:Hp) (vs:List V) (hn:n=ds.length-i) (hi:i<=ds.length) (hal:acc.length<=i) (I:aL X [] σ H s) (st:tn i s.heap) (fr:∀ b∈fp,H b=none) (s0:aF H0 H) (hla:H a=some (.lst vs)) (ra:bx H acc vs) (hc:(bC b t f ρ0 (ds.drop i)>>=fun fG=>.ok (acc++fG))=r) (sl:Sl H σ ρ0) (ow:xL H0 σ ρ0)
theorem wN {X:Cx} {J:It} {tn:Nat->Heap->Prop} {it a:Addr} {fp:List Addr} {tg iter elt:Expr} {ifs:List Expr} {scope:Scope} {pos:Pos} {b:PyData->aT->Option aT} {t:aT->R Bool} {f:Fe} {ds:List PyData} {r:R (List PyData)} {Gd:Hp->Prop} {H0:Hp} {ρ0:aT}
    {Rk:Result->Shared->Prop} (T:rQ X.prog X.w X.K tg J fp it tn) (calm:X.calm=true) (hfp:∀ H:Hp,(∀ b∈fp,H b=none)->∀ b∈fp,mn X [] H b) (hxe:∀ e s',X.xe e s'->notedBy (model X.prog X.w) X.A X.env (fun x s'=>Rk (.error x) s') e s') (hX:∀ c,r=.ex c->Xw X c H0) (hno:r≠.no) (hg:vb X tg b) (ht:wt X ifs t) (hf:cY X elt f)
    (idt:zJ J Gd ds) (sta:Fh H0 (fun _=>False) Gd) (hsz:ds.length<=sizeLine) (ha0:H0 a=none) (hb0:∀ d ρ1,b d ρ0=some ρ1->mm ρ0 ρ1)
    (fin:∀ xs s' σ' H' vs,r=.ok xs->aL X [] σ' H' s'->aF H0 H'->H' a=some (.lst vs)->bx H' xs vs->Rk (.ok .next) s') :
    ∀ {s:Shared} {σ:St} {H:Hp},aL X [] σ H s->tn 0 s.heap->(∀ b∈fp,H b=none)->aF H0 H->H a=some (.lst [])->bC b t f ρ0 ds=r->Sl H σ ρ0->xL H0 σ ρ0 ->
      codeAny (model X.prog X.w) X.A (.compLoop (.ListComp elt [⟨tg,iter,ifs,0⟩] scope pos) 0 (.ref it) (.ref a) X.env) Rk s:=by
  intro s σ H I st fr s0 hla hc sl ow;refine codeAny_loop rfl (GI X tn fp a b t f ds r H0 ρ0) (fun n s hI=>?_) ds.length ⟨0,[],σ,H,[],by simp,Nat.zero_le _,Nat.le_refl _,I,st,fr,s0,hla,bx.nil,by rw [List.drop_zero,hc];cases r <;> rfl,sl,ow⟩;clear I st fr s0 hla hc sl ow;obtain ⟨i,acc,σ,H,vs,rfl,hi,hal,I,st,fr,s0,hla,ra,hc,sl,ow⟩:=hI;show wpAny _ X.A ((compTurn (.ListComp elt [⟨tg,iter,ifs,0⟩] scope pos) 0 (.ref it) (.ref a) X.env).onRaise (fun x=>do noteFrame x X.env;theTreesLotGoes x)) _ _ s;refine wpAny_noted ?_;rw [compTurn_list];have gd:Gd H:=sta H (Kp.of s0) fun _ _ z=>z.elim
  have noex:∀ {α:Type} {m:Sem α} {Q Q':α->Shared->Prop} {s:Shared},wpAny (model X.prog X.w) X.A m Q X.xe s->(∀ v s,Q v s->Q' v s)->wpAny (model X.prog X.w) X.A m Q' (notedBy (model X.prog X.w) X.A X.env (fun x s'=>Rk (.error x) s')) s:=fun h k =>
    wpAny_mono h k hxe
  by_cases hlt:i < ds.length
  · obtain ⟨d,hd⟩:∃ d,ds[i]?=some d:=⟨ds[i],List.getElem?_eq_getElem hlt⟩
    have hdrop:ds.drop i=d::ds.drop (i+1):=by
      rw [List.drop_eq_getElem_cons hlt];congr 1;exact Option.some.inj ((List.getElem?_eq_getElem hlt).symm.trans hd)
    rw [hdrop] at hc;unfold bC at hc;refine wpAny_bind (wpAny_standAt (wpAny_bind (dm (T.item X rfl rfl rfl calm i [] s σ H _ I (hfp H fr) st (idt.go i H gd hlt)) fun r s1 zq0=>?_)));obtain ⟨u,hr,h1⟩:=zq0;subst hr;refine wpAny_bind (dm h1 fun _ s2 zq0=>?_);obtain ⟨x,H2,I2,r2,y2,st2,fr2⟩:=zq0;obtain ⟨s02,p2⟩:=idt.yld i H x H2 d gd hd y2;have I2':=I2.pinned (hfp H2 fr2) (T.obj _ _ st2);have back:∀ {σ':St} {H':Hp} {s':Shared},aL X ([]++n9 fp s2.heap) σ' H' s'->aL X [] σ' H' s'/\tn (i+1) s'.heap/\∀ b∈fp,H' b=none:=fun {σ' H' s'} J' =>
      ⟨J'.unpinned,T.keep _ _ _ st2 fun b hb o e=>(J'.pin (b,o) (List.mem_append_right _ (List.mem_append_right _ (iQ hb e)))).1,fun b hb=>by
        obtain ⟨o,e,_⟩:=T.obj _ _ st2 b hb;exact (J'.pin (b,o) (List.mem_append_right _ (List.mem_append_right _ (iQ hb e)))).2.1⟩
    cases eb:b d ρ0 with
    | none=>rw [eb] at hc;exact absurd hc.symm hno
    | some ρ1 =>
      rw [eb] at hc;dsimp only at hc;have hfit:=hb0 d ρ1 eb;refine wpAny_bind (noex (hg _ s2 σ H2 x u (fun σ' H'=>H'=H2/\Sl H2 σ' ρ1/\∀ (i:Nat) (e:PyData),ρ1[i]?=some (.own e)->ρ0[i]?=some (.own e)/\σ'[i]?=σ[i]?) I2' r2 ⟨ρ0,d,sl.mono s02,p2,by rw [eb];exact fun σ' sl' w'=>⟨rfl,sl',w'⟩⟩) fun _ s3 ⟨σ3,H3,I3,e3,sl3,w3⟩=>?_);subst e3;have ow3:xL H0 σ3 ρ0:=fun j e h=>by
        obtain ⟨v,z1,z2⟩:=ow j e h;rcases hfit.2 j _ h with z | z
        · cases z
        · exact ⟨v,by rw [(w3 j e z).2];exact z1,z2⟩
      cases et:t ρ1 with
      | no=>rw [et] at hc;exact absurd hc.symm hno
      | ex c =>
        rw [et] at hc;exact wpAny_bind (noex (ht _ s3 σ3 H3 (fun _ _=>False) I3 ⟨ρ1,sl3,by rw [et];exact (hX c hc.symm).mono (s0.trans s02)⟩) fun ok s4 ⟨H4,I4,z⟩=>z.elim)
      | ok k =>
        rw [et] at hc;refine wpAny_bind (noex (ht _ s3 σ3 H3 (fun b' H'=>b'=k/\aF H3 H') I3 ⟨ρ1,sl3,by rw [et];exact fun H' s'=>⟨rfl,s'⟩⟩) fun ok s4 ⟨H4,I4,e4,s34⟩=>?_);subst e4;have s04:=(s0.trans s02).trans s34;have hla4:H4 a=some (.lst vs):=s34 _ _ (s02 _ _ hla);have ra4:bx H4 acc vs:=(ra.mono s02).mono s34;cases ok with
        | false =>
          obtain ⟨J1,J2,J3⟩:=back I4;have hc':(bC b t f ρ0 (ds.drop (i+1))>>=fun fG=>.ok (acc++fG))=r:=hc;exact wpAny_pure ⟨rfl,ds.length-(i+1),by omega,i+1,acc,σ3,H4,vs,rfl,hlt,by omega,J1,J2,J3,s04,hla4,ra4,hc',(sl3.unfit hfit).mono s34,ow3⟩
        | true =>
          have hc':((f ρ1>>=fun x=>bC b t f ρ0 (ds.drop (i+1))>>=fun xs=>.ok (x::xs))>>=fun fG=>.ok (acc++fG))=r:=hc;cases ef:f ρ1 with
          | no=>rw [ef] at hc';exact absurd hc'.symm hno
          | ex c =>
            rw [ef] at hc';exact wpAny_bind (wpAny_bind (noex (hf _ s4 σ3 H4 (fun _ _=>False) I4 ⟨ρ1,sl3.mono s34,by rw [ef];exact (hX c hc'.symm).mono s04⟩) fun yv s5 ⟨v5,H5,I5,r5,z⟩=>z.elim))
          | ok y =>
              rw [ef,R.ok_bind] at hc';have hc2:(bC b t f ρ0 (ds.drop (i+1))>>=fun fG=>.ok ((acc++[y])++fG))=r:=by
                rw [<- hc'];cases bC b t f ρ0 (ds.drop (i+1)) with
                | ok fG=>simp only [R.ok_bind,List.append_assoc,List.singleton_append]
                | ex c=>rfl
                | no=>rfl
              refine wpAny_bind (wpAny_bind (noex (hf _ s4 σ3 H4 (fun v H'=>aF H4 H'/\Rp H' y v) I4 ⟨ρ1,sl3.mono s34,by rw [ef];exact fun v H' s' p'=>⟨s',p'⟩⟩) fun yv s5 ⟨v5,H5,I5,r5,s45,p5⟩=>?_));have hla5:H5 a=some (.lst vs):=s45 _ _ hla4;have hlen:vs.length < sizeLine:=by
                rw [ra.length];omega
              refine wpAny_bind (noex (pJ _ s5 σ3 H5 (.ref a) [v5] (.ref a) [yv] (fun _ H'=>H'=cP H5 a (.lst (vs++[v5]))) I5 rfl (.cons r5 .nil) ⟨a,vs,v5,rfl,rfl,hla5,hlen,rfl⟩) fun _ s6 zq0=>?_);obtain ⟨v6,H6,I6,r6,e6⟩:=zq0;subst e6;obtain ⟨J1,J2,J3⟩:=back I6;have kp:Kp H5 (cP H5 a (.lst (vs++[v5]))):=fV hla5 (.inl ⟨_,rfl⟩);have s06:aF H0 (cP H5 a (.lst (vs++[v5]))):=fun b o e=>by
                rw [av (aW e ha0)];exact (s04.trans s45) b o e
              refine wpAny_pure (wpAny_pure ⟨rfl,ds.length-(i+1),by omega,i+1,acc++[y],σ3,_,vs++[v5],rfl,hlt,by rw [List.length_append,List.length_singleton];omega,J1,J2,J3,s06,bd,?_,hc2,?_,ow3⟩)
              · exact bx.append (bx.kp kp _ _ (ra4.mono s45)) (bx.cons (Rp.kp kp _ _ p5) bx.nil)
              · have sl5:Sl H5 σ3 ρ0:=((sl3.unfit hfit).mono s34).mono s45;refine ⟨sl5.1,fun j c o h1 h2=>?_⟩;cases c with
                | exc p=>exact sl5.2 j _ o h1 h2
                | non=>exact True.intro
                | val d' =>
                  obtain ⟨v',z1,z2⟩:=sl5.2 j _ o h1 h2;exact ⟨v',z1,Rp.kp kp _ _ z2⟩
                | own e' =>
                  obtain ⟨v',z1,z2⟩:=ow3 j e' h1;rw [z1] at h2;cases h2;exact ⟨v',rfl,z2.mono s06⟩
  · have e:i=ds.length:=by omega
    subst e;rw [List.drop_length] at hc;have hr':r=.ok acc:=by rw [<- hc];simp only [bC,R.ok_bind,List.append_nil]
    refine wpAny_bind (wpAny_standAt (wpAny_bind (dm (T.done X rfl rfl rfl calm _ [] s σ H _ I (hfp H fr) st (idt.stop _ H gd (Nat.le_refl _))) fun r s1 zq0=>?_)));obtain ⟨hr,I1⟩:=zq0;subst hr;exact wpAny_pure (fin acc s1 σ H vs hr' I1 s0 hla ra)
theorem gX.but {P:Program} {w:World} {H:Hp} {h1 h2:Heap} {C:Addr} (ok:gX P w H h1) (hC:H C=none) (sb:∀ b o,b≠C->h1.get? b=some o->h2.get? b=some o):gX P w H h2:=fun a o e =>
  (ok a o e).stay (fun b u hb q=>sb b u (by
    rcases hb with rfl | hb
    · exact aW e hC
    · exact aW hb hC) q) (fun _ q=>q) fun _ _ q=>q
theorem j8 {h h' base:Heap} {C:Addr} (tp:∀ b o,b≠C->h.get? b=some o->h'.get? b=some o):∀ {l:List Env},C∉lx l->h.FunFrames base l->h'.FunFrames base l
  | [],_,_=>trivial
  | env::l,hC,⟨hk,⟨L,o,hf,hn,ho,hd⟩,hr⟩=>⟨hk,⟨L,o,hf,hn,tp L o (fun z=>hC (List.mem_filterMap.mpr ⟨env,List.mem_cons_self,by rw [hf,z]⟩)) ho,hd⟩,j8 tp (fun z=>hC (by
    obtain ⟨e,he,hz⟩:=List.mem_filterMap.mp z;exact List.mem_filterMap.mpr ⟨e,List.mem_cons_of_mem _ he,hz⟩)) hr⟩
theorem kZ {X:Cx} {tg iter elt:Expr} {ifs:List Expr} {sc:Scope} {pos pos':Pos} {it:aT->R (List PyData)} {b:PyData->aT->Option aT} {t:aT->R Bool} {f:Fe} {N:List Str} {own:Nat} {G G0:List Str} {fr:List Nat} {nl:Nat}
    (T:Tb X nl G0) (ck:fA sc N own G X.N fr) (hout:∀ y∈sc.names,y.2=.free->X.env.kindOf y.1=some .cell\/X.env.kindOf y.1=some .free) (hi:tz X tg iter it)
    (hb0:∀ ρ d ρ1,b d (ax own fr ρ)=some ρ1->mm (ax own fr ρ) ρ1)
    (hbody:∀ cl C s H fp E,Tb (bi X N sc cl C s H fp E) own G->vb (bi X N sc cl C s H fp E) tg b/\wt (bi X N sc cl C s H fp E) ifs t/\cY (bi X N sc cl C s H fp E) elt f)
    (hs:∀ x,foldedSetIterable iter X.env x=pure x) {use:Option (Value->Sem Unit)} {Qc:Value->Shared->Prop} {pins:List (Addr×Obj)} {s:Shared} {σ:St} {H:Hp} (I:aL X pins σ H s) {ρ:aT} {ds:List PyData} {r:R (List PyData)} (sl:Sl H σ ρ) (ei:it ρ=.ok ds)
    (hsz:ds.length<=sizeLine) (ec:bC b t f (ax own fr ρ) ds=r) (hX:∀ c,r=.ex c->Xw X c H) (hno:r≠.no) (hstk:∃ env0 outer0 L,X.stack=env0::outer0/\env0.frame=some L/\X.env.frame=some L)
    (fin:∀ (xs:List PyData) (a C:Addr) (H':Hp) (s':Shared) (m:Str->Option Value) (vs:List V),r=.ok xs->aL X pins σ H' s'->mn X pins H' C->s'.heap.Ns C m->aF H H'->H a=none->H' a=some (.lst vs)->bx H' xs vs->compPost (model X.prog X.w) X.A X.xe use Qc (.ref a) C (.ok .next) s') :
    wpAny (model X.prog X.w) X.A (comprehension (.ListComp elt [⟨tg,iter,ifs,0⟩] sc pos) sc X.env pos' (newList []) false (eval iter X.env) use) Qc X.xe s:=by
  obtain ⟨cl,hcl,hcl1,hcl2⟩:=ug (scope:=sc) (env:=X.env) fun x hx hf=>I.ok.has _ (hout x hx hf)
  have ck':=ck;obtain ⟨ck1,ck2,ck3,_,_,_,_,_,_,ofr⟩:=ck';have hin:∀ i∈fr,i < ρ.length:=fun i hi=>by
    have e1:ρ.length=X.N.length:=by rw [<- sl.1];exact I.len
    rw [e1];obtain ⟨k,hk⟩:=List.getElem?_of_mem hi;have q:=congrArg (fun l=>l[k]?) ofr;simp only [List.getElem?_map,hk,Option.map_some] at q;cases z:(N.drop own)[k]? with
    | none=>rw [z] at q;cases q
    | some y =>
      rw [z] at q;have q':some y=X.N[i]?:=Option.some.inj q;exact (List.getElem?_eq_some_iff.mp q'.symm).1
  refine wpAny_comprehension_free (use:=use) rfl hs hcl ck1 ck3 ?_;refine dm (hi pins s σ H (fun J H1=>aF H H1/\∃ Gd,zJ J Gd ds/\Fh H1 (fun _=>False) Gd) I ⟨ρ,sl,by rw [ei];exact fun J H1 s1 z=>⟨s1,z⟩⟩) fun xv s1 h1=>dm h1 fun itv s2 h2=>?_
  obtain ⟨itA,fp,tn,J,H2,e,I2,T2,st2,f2,s02,Gd,idt,sta⟩:=h2;subst e;refine wpAny_newObj_type (wpAny_newFunctionEnv ck2 (by intro y hy;simp at hy) (fun h₁ hns₁ hsb₁=>?_) ck1);dsimp only at hns₁ hsb₁ ⊢;generalize hHp:s2.heap.push { cls:=.type "list",dict:=none,data:=.seq ([]:List Value).toArray }=Hp2 at hns₁ hsb₁ ⊢;have hC:Hp2.objs.size=s2.heap.objs.size+1:=by rw [<- hHp,Heap.size_push]
  have hDC:s2.heap.objs.size≠Hp2.objs.size:=by rw [hC];exact Nat.ne_of_lt (Nat.lt_succ_self _)
  have hCle:s2.heap.objs.size<=Hp2.objs.size:=by rw [hC];exact Nat.le_succ _
  have below:∀ b,b < s2.heap.objs.size->b≠Hp2.objs.size:=fun b hb=>by rw [hC];exact Nat.ne_of_lt (Nat.lt_succ_of_lt hb)
  have old:∀ b o,s2.heap.get? b=some o->h₁.get? b=some o:=fun b o e=>hsb₁.extBut b o (below b (Heap.lt_size e)) (Heap.get?_push_of_some _ (hHp ▸ Heap.get?_push_of_some _ e))
  have hacc:h₁.get? s2.heap.objs.size=some { cls:=.type "list",dict:=none,data:=.seq ([]:List Value).toArray }:=hsb₁.extBut _ _ hDC (Heap.get?_push_of_some _ (hHp ▸ Heap.get?_push_size _ rfl));have hob:∀ b∈fp,b < s2.heap.objs.size:=fun b hb=>by
    obtain ⟨o,e,_⟩:=T2.obj _ _ st2 b hb;exact Heap.lt_size e
  have sl2:Sl H2 σ ρ:=sl.mono s02;have IC:aL (bi X N sc cl Hp2.objs.size s2 H2 fp) [] (gM own fr σ) (cP H2 s2.heap.objs.size (.lst [])) { s2 with heap:=h₁,toks:=s2.toks+([]:List (Str×Value)).length } :=
    yp I2 ck f2 hob hcl1 hcl2 (fun x hx=>(T.vis x hx).1) hout (Nat.le_refl _) hCle hDC old hacc hns₁
  let E:Value->Shared->Prop:=fun e s'=>∃ c Ce pins' σ' H' s1 H1,r=.ex c/\X.mg c=some (.ref Ce)/\aL (bi X N sc cl Hp2.objs.size s2 H2 fp) pins' σ' H' s1/\aF H2 H1/\qc X.prog X.w X.stack H' s1 Ce H1 e s'
  obtain ⟨hg,ht,hf⟩:=hbody cl Hp2.objs.size s2 H2 fp E (x9 T ck cl Hp2.objs.size s2 H2 fp E);have ha0:H2 s2.heap.objs.size=none:=I2.hok.fresh (Nat.le_refl _);have hfp:∀ H':Hp,(∀ b∈fp,H' b=none)->∀ b∈fp,mn (bi X N sc cl Hp2.objs.size s2 H2 fp E) [] H' b:=fun H' hn b hb =>
    ⟨hn b hb,below b (hob b hb),fun z=>by
      rcases List.mem_cons.mp (I2.stkSub b z) with y | y
      · exact (f2 b hb).2.1 y
      · exact (f2 b hb).2.2.1 y,.inl hb,fun x c e=>(f2 b hb).2.2.2.2.1 x c (hcl1 x c e),fun p hp=>absurd (show p∈([]:List (Addr×Obj)) from hp) (by simp)⟩
  have st3:tn 0 h₁:=T2.keep _ _ _ st2 fun b _ o e=>old b o e
  have slC:Sl H2 (gM own fr σ) (ax own fr ρ):=Af sl2 own fr hin;have fin':∀ xs s' σ' H' vs,r=.ok xs->aL (bi X N sc cl Hp2.objs.size s2 H2 fp E) [] σ' H' s'->aF H2 H'->H' s2.heap.objs.size=some (.lst vs)->bx H' xs vs ->
      compPost (model X.prog X.w) X.A X.xe use Qc (.ref s2.heap.objs.size) Hp2.objs.size (.ok .next) s':=fun xs s' σ' H' vs hr J' s2' hv rv=>by
    obtain ⟨m,hn,_⟩:=J'.loc;exact fin xs _ _ H' s' m vs hr (I2.call' (s':=s') (ch:=fp) J'.os J'.base J'.hok J'.bare (fun b hb=>⟨(f2 b hb).2.2.2.1,(f2 b hb).2.1,(f2 b hb).2.2.2.2.1,(f2 b hb).2.2.2.2.2⟩)) (I2.fpOk hCle J'.free) hn (s02.trans s2') (s02.free ha0) hv rv
  have hXc:∀ c,r=.ex c->Xw (bi X N sc cl Hp2.objs.size s2 H2 fp E) c H2:=fun c hr H1 s1 Ce hm pins' σ' H' s1' e s' J f =>
    ⟨c,Ce,pins',σ',H',s1',H1,hr,hm,J.unwish,s1,f⟩
  have hxe:∀ e s',E e s'->notedBy (model X.prog X.w) X.A (compEnvC sc cl Hp2.objs.size X.env) (fun x s'=>compPost (model X.prog X.w) X.A X.xe use Qc (.ref s2.heap.objs.size) Hp2.objs.size (.error x) s') e s':=fun e s' hE=>by
    obtain ⟨c,Ce,pins',σ',H',s1,H1,hr,hm,J,same1,f⟩:=hE;obtain ⟨env0,outer0,L,k1,k2,k3⟩:=hstk;refine f.note k1 I.ok.frames k2 k3 fun h4 f4 up=>?_
    obtain ⟨m,hn,_⟩:=(f4.inv (X:=bi X N sc cl Hp2.objs.size s2 H2 fp) J).loc;refine ⟨m,hn,fun h5 sb cenv _=>?_⟩;have fC:=I2.fpOk hCle J.free;have fC1:H1 Hp2.objs.size=none:=(f4.inv (X:=bi X N sc cl Hp2.objs.size s2 H2 fp) J).free;have nfr:Hp2.objs.size∉lx X.stack:=fun z=>by
      rcases List.mem_cons.mp (I2.stkSub _ z) with y | y
      · exact fC.2.1 y
      · exact fC.2.2.1 y
    have Io:=I2.call' (s':=s1) (ch:=fp) J.os J.base J.hok J.bare (fun b hb=>⟨(f2 b hb).2.2.2.1,(f2 b hb).2.1,(f2 b hb).2.2.2.2.1,(f2 b hb).2.2.2.2.2⟩);have Io2:aL X pins σ H' { s1 with heap:=PySem.W.hideAll s1.heap [Hp2.objs.size],toks:=s1.toks }:=by
      obtain ⟨g0,g1,g2,g3,g4,g5⟩:=fC;exact Io.turned (t':=s1.toks) (fun b o hb q=>PySem.W.hideAll_get _ q (by simpa using hb)) g0 g1 g3 g4 g5
    obtain ⟨p,a0,B,rfl,t,okB,hp,cov⟩:=f4.ex;have stB:(PySem.W.hideAll B [Hp2.objs.size]).StaysIn B:=fun b o q=>PySem.W.of_hideAll _ q
    have hid:∀ {h:Heap} {b:Addr} {o:Obj},(PySem.W.hideAll h [Hp2.objs.size]).get? b=some o->b≠Hp2.objs.size:=fun {h b o} q z=>by
      rw [PySem.W.hideAll_none _ (by rw [z];exact List.mem_singleton.mpr rfl)] at q;cases q
    have tp:∀ b o,b≠Hp2.objs.size->h4.get? b=some o->h5.get? b=some o:=fun b o hb q=>(sb.2 b hb).trans q
    have ne_e:p≠Hp2.objs.size:=fun z=>by
      obtain ⟨oe,vs,q1,_,q2,_⟩:=t.first;obtain ⟨o,es,ep,q3,q4,_⟩:=hn;have q3':h4.get? Hp2.objs.size=some o:=q3;rw [<- z,q1] at q3';cases q3';rw [q2] at q4;cases q4
    have f5:qc X.prog X.w X.stack H' { s1 with heap:=PySem.W.hideAll s1.heap [Hp2.objs.size],toks:=s1.toks } Ce H1 (.ref p) { s' with heap:=h5 }:=by
      refine ⟨f4.os,f4.bare,f4.same,⟨p,a0,PySem.W.hideAll B [Hp2.objs.size],rfl,?_,?_,hp,fun b o q n hb=>?_⟩,fun b o q n hb=>?_⟩
      · obtain ⟨t1,t2,t3,fl,oe,vs,T',oT,ts,a1,a2,a3,a4,a5,a6,a7,a8,a9⟩:=t;refine ⟨fun b o q=>tp b o (hid q) (t1 b o (stB b o q)),PySem.W.fresh_of_stays stB t2,j8 tp nfr (PySem.W.funFrames_base stB t3),fl,oe,vs,T',oT,ts,tp _ _ ne_e a1,a2,a3,a4,PySem.W.fresh_of_stays stB a5,a6,tp _ _ ?_ a7,a8,a9⟩;intro z;obtain ⟨o,es,ep,q3,q4,_⟩:=hn;have q3':h4.get? Hp2.objs.size=some o:=q3;have a7':h4.get? T'=some oT:=a7;rw [<- z,a7'] at q3';cases q3';rw [a8] at q4;cases q4
      · exact gX.but okB fC1 fun b o hb q=>PySem.W.hideAll_get _ q (by simpa using hb)
      · obtain ⟨z1,z2⟩:=cov b o (PySem.W.of_hideAll _ q) n hb;exact ⟨PySem.W.hideAll_get _ z1 (by simpa using hid q),z2⟩
      · obtain ⟨⟨sl',z1⟩,z2⟩:=f4.slot b o (PySem.W.of_hideAll _ q) n hb;exact ⟨⟨sl',tp b _ (hid q) z1⟩,z2⟩
    refine f5.pass fun h6 f6=>?_
    exact hX c hr H1 (s02.trans same1) Ce hm pins σ H' _ _ _ Io2 f6
  have loop:=wN (X:=bi X N sc cl Hp2.objs.size s2 H2 fp E) (iter:=iter) (scope:=sc) (pos:=pos) T2 T.calm hfp hxe hXc hno hg ht hf idt sta hsz ha0 (fun d ρ1 e=>hb0 ρ d ρ1 e) fin' (IC.wish E) st3 (fun b hb=>by
      show cP H2 s2.heap.objs.size (.lst []) b=none;rw [av (Nat.ne_of_lt (hob b hb))];exact (f2 b hb).1) (cA ha0 _) bd ec (slC.mono (cA ha0 _)) (fun i e h=>by
      obtain ⟨o,z1,v,rfl,z2⟩:=slC.at h;exact ⟨v,z1,z2⟩)
  exact codeAny_compStart_list loop (T2.self _ 0 _ _ _ st3 loop)
theorem sx {X:Cx} {tg iter elt:Expr} {ifs:List Expr} {sc:Scope} {pos:Pos} {it:aT->R (List PyData)} {b:PyData->aT->Option aT} {t:aT->R Bool} {f:Fe} {N:List Str} {own:Nat} {G G0:List Str} {fr:List Nat} {nl:Nat}
    (T:Tb X nl G0) (ck:fA sc N own G X.N fr) (hout:∀ y∈sc.names,y.2=.free->X.env.kindOf y.1=some .cell\/X.env.kindOf y.1=some .free) (hi:tz X tg iter it)
    (hb0:∀ ρ d ρ1,b d (ax own fr ρ)=some ρ1->mm (ax own fr ρ) ρ1)
    (hbody:∀ cl C s H fp E,Tb (bi X N sc cl C s H fp E) own G->vb (bi X N sc cl C s H fp E) tg b/\wt (bi X N sc cl C s H fp E) ifs t/\cY (bi X N sc cl C s H fp E) elt f)
    (hs:∀ x,foldedSetIterable iter X.env x=pure x:=by intro _;rfl) (hstk:∃ env0 outer0 L,X.stack=env0::outer0/\env0.frame=some L/\X.env.frame=some L:=by exact ⟨_,_,_,rfl,rfl,rfl⟩):oO X (.ListComp elt [⟨tg,iter,ifs,0⟩] sc pos) (bN it own fr b t f):=by
  intro pins s σ H Q I h;obtain ⟨ρ,sl,q⟩:=h;unfold bN at q;rw [eval_ListComp];cases ei:it ρ with
  | ex c=>rw [ei] at q;exact q.elim
  | no=>rw [ei] at q;exact q.elim
  | ok ds =>
    rw [ei] at q;simp only [lc,R.ok_bind] at q;split at q
    · rename_i hsz;cases ec:bC b t f (ax own fr ρ) ds with
      | no=>rw [ec] at q;exact q.elim
      | ex c =>
        rw [ec] at q;exact kZ (use:=none) T ck hout hi hb0 hbody hs I sl ei hsz ec (fun c' hr=>by cases hr;exact q) (fun z=>nomatch z) hstk fun xs a C H' s' m vs hr=>by cases hr
      | ok xs =>
        rw [ec] at q;refine kZ (use:=none) T ck hout hi hb0 hbody hs I sl ei hsz ec (fun c' hr=>by cases hr) (fun z=>nomatch z) hstk fun xs' a C H' s' m vs hr I' fC hn s2' ha hv rv=>?_
        cases hr;obtain ⟨f0,f1,f2,f3,f4,f5⟩:=fC;refine ⟨m,hn,fun h' sb=>⟨.ref a,H',I'.turned (t':=s'.toks) (fun b o hb e=>sb.extBut b o hb e) f0 f1 f3 f4 f5,rfl,?_⟩⟩;refine q _ H' s2' ⟨?_,_,rfl,ha⟩;simp only [iA];exact ⟨_,vs,rfl,hv,rv⟩
    · exact q.elim
theorem BW {X:Cx} {tg iter elt:Expr} {ifs:List Expr} {sc:Scope} {pos:Pos} {it:aT->R (List PyData)} {b:PyData->aT->Option aT} {t:aT->R Bool} {f:Fe} {N:List Str} {own:Nat} {G G0:List Str} {fr:List Nat} {nl:Nat} (T:Tb X nl G0) (ck:fA sc N own G X.N fr) (hout:∀ y∈sc.names,y.2=.free->X.env.kindOf y.1=some .cell\/X.env.kindOf y.1=some .free) (hi:Z.tz X tg iter it) (hb0:∀ ρ d ρ1,b d (ax own fr ρ)=some ρ1->mm (ax own fr ρ) ρ1) (hbody:∀ cl C s H fp E,Tb (bi X N sc cl C s H fp E) own G->Z.vb (bi X N sc cl C s H fp E) tg b/\Z.wt (bi X N sc cl C s H fp E) ifs t/\Z.cY (bi X N sc cl C s H fp E) elt f) (hs:∀ x,foldedSetIterable iter X.env x=pure x:=by intro _;rfl) (hstk:∃ env0 outer0 L,X.stack=env0::outer0/\env0.frame=some L/\X.env.frame=some L:=by exact ⟨_,_,_,rfl,rfl,rfl⟩):Z.oO X (.ListComp elt [⟨tg,iter,ifs,0⟩] sc pos) (bN it own fr b t f) :=
  ⟨D2.sx T ck hout hi.un hb0 (fun cl C s H fp E T=>let ⟨q1,q2,q3⟩:=hbody cl C s H fp E T;⟨q1.un,q2.un,q3.un⟩) hs hstk⟩
theorem Ap {X:Cx} {tg iter elt:Expr} {ifs:List Expr} {sc:Scope} {pos py spos:Pos} {it:aT->R (List PyData)} {b:PyData->aT->Option aT} {t:aT->R Bool} {f:Fe} {N:List Str} {own:Nat} {G G0:List Str} {fr:List Nat} {nl:Nat} {y:Str} {i:Nat}
    (T:Tb X nl G0) (ck:fA sc N own G X.N fr) (hout:∀ y∈sc.names,y.2=.free->X.env.kindOf y.1=some .cell\/X.env.kindOf y.1=some .free) (hi:tz X tg iter it)
    (hb0:∀ ρ d ρ1,b d (ax own fr ρ)=some ρ1->mm (ax own fr ρ) ρ1)
    (hbody:∀ cl C s H fp E,Tb (bi X N sc cl C s H fp E) own G->vb (bi X N sc cl C s H fp E) tg b/\wt (bi X N sc cl C s H fp E) ifs t/\cY (bi X N sc cl C s H fp E) elt f)
    (hN:(X.N.take nl)[i]?=some y) (hsw:swapsWith (.ListComp elt [⟨tg,iter,ifs,0⟩] sc pos) (some (.Name y py)) spos.line X.env=pure true)
    (hs:∀ x,foldedSetIterable iter X.env x=pure x:=by intro _;rfl) (hstk:∃ env0 outer0 L,X.stack=env0::outer0/\env0.frame=some L/\X.env.frame=some L:=by exact ⟨_,_,_,rfl,rfl,rfl⟩):kI X (.Assign [.Name y py] (.ListComp elt [⟨tg,iter,ifs,0⟩] sc pos) spos) (ia i (bN it own fr b t f)):=fun Fm=>by
  intro pins s σ H D I h;obtain ⟨ρ,sl,q⟩:=h;unfold ia bN at q;obtain ⟨hNi,hl,hf⟩:=T.nm hN;cases ei:it ρ with
  | ex c=>rw [ei] at q;exact q.elim
  | no=>rw [ei] at q;exact q.elim
  | ok ds =>
    rw [ei] at q;simp only [lc,R.ok_bind] at q;by_cases hsz:ds.length<=sizeLine
    · rw [if_pos hsz] at q;cases ec:bC b t f (ax own fr ρ) ds with
      | no=>rw [ec] at q;exact q.elim
      | ex c =>
        rw [ec] at q;rw [exec_Assign_Name_used _ _ _ _ hsw];refine wpAny_bind (wpAny_standAt (wpAny_bind ?_));show wpAny _ X.A (do let _ <- comprehension (.ListComp elt [⟨tg,iter,ifs,0⟩] sc pos) sc X.env _ (newList []) false (eval iter X.env) (some (assign (.Name y py) X.env))) _ _ s;exact wpAny_bind (dm (kZ (use:=some (assign (.Name y py) X.env)) (Qc:=fun _ s'=>False) T ck hout hi hb0 hbody hs I sl.sl ei hsz ec (fun c' hr=>by cases hr;exact q.1.mono sl.fm) (fun z=>nomatch z) hstk fun xs a C H' s' m vs hr=>by cases hr) fun _ s' hq=>hq.elim)
      | ok xs =>
        rw [ec] at q;rw [exec_Assign_Name_used _ _ _ _ hsw];refine wpAny_bind (wpAny_standAt (wpAny_bind ?_));show wpAny _ X.A (do let _ <- comprehension (.ListComp elt [⟨tg,iter,ifs,0⟩] sc pos) sc X.env _ (newList []) false (eval iter X.env) (some (assign (.Name y py) X.env))) _ _ s;refine wpAny_bind (dm (kZ (use:=some (assign (.Name y py) X.env)) (Qc:=fun _ s'=>SP X pins D .next s') T ck hout hi hb0 hbody hs I sl.sl ei hsz ec (fun c' hr=>by cases hr) (fun z=>nomatch z) hstk fun xs' a C H' s' m vs hr I' fC hn s2' ha hv rv=>?_) fun _ s' hq=>wpAny_pure (wpAny_pure hq));cases hr;obtain ⟨f0,f1,f2,f3,f4,f5⟩:=fC;show wpAny _ X.A (assign (.Name y py) X.env (.ref a)) _ _ _;refine wpAny_assign_Name (pS I' T.nd hNi hl (v:=.ref a) rfl (fun s'' I'' k=>?_) hf);have sls:iB Fm H' (σ.set i (some (.ref a))) (ρ.set i (.own (.list xs))):=iB.setOwn sl (sl.mono s2') s2' i ⟨by simp only [iA];exact ⟨a,vs,rfl,hv,rv⟩,a,rfl,ha⟩;refine ⟨m,?_,fun h' sb=>⟨_,H',I''.turned (t':=s''.toks) (fun b o hb e=>sb.extBut b o hb e) f0 f1 f3 f4 f5,q _ H' sls⟩⟩;obtain ⟨a',sb',ha'⟩:=k;refine hn.sameBut sb' ?_;rcases ha' with rfl | ha'
        · exact f1
        · exact Ne.symm (f4 y a' ha')
    · rw [if_neg hsz] at q;exact q.elim
theorem iB.freeze {Fm H:Hp} {σ:St} {ρ:aT} {i:Nat} {d:PyData} {a:Addr} {u:HO} {o:Obj} (h:iB Fm H σ ρ) (h1:ρ[i]?=some (.own d)) (h2:σ[i]?=some (some (.ref a))) (hu:H a=some u) (hm:(∃ xs,u=.lst xs)\/∃ ks,u=.dK ks)
    (hr:Rp (cP H a (.frz o u)) d (.ref a)):iB Fm (cP H a (.frz o u)) σ (ρ.set i (.val d)):=by
  have hFa:=h.own i d a h1 h2;have kp:Kp H (cP H a (.frz o u)):=fV hu hm;refine ⟨fun b x e=>?_,⟨by rw [List.length_set];exact h.sl.1,fun j c w' e1 e2=>?_⟩,fun j e b e1 e2=>?_,fun j k e f b e1 e2 e3 e4=>?_⟩
  · rw [av (aW e hFa)];exact h.fm b x e
  · rw [List.getElem?_set] at e1;by_cases hij:i=j
    · subst hij;rw [if_pos rfl] at e1;split at e1
      · cases e1;rw [h2] at e2;cases e2;exact ⟨_,rfl,hr⟩
      · cases e1
    · rw [if_neg hij] at e1;have q:=h.sl.2 j c w' e1 e2;cases c with
      | exc p=>exact q
      | non=>exact True.intro
      | val d'=>obtain ⟨v,z1,z2⟩:=q;exact ⟨v,z1,Rp.kp kp _ _ z2⟩
      | own d' =>
        obtain ⟨v,z1,z2⟩:=q;subst z1;obtain ⟨b,ob,rfl,hb⟩:=qW z2;have nb:b≠a:=fun z=>hij (by subst z;exact h.apart i j d d' b h1 e1 h2 e2)
        refine ⟨_,rfl,?_⟩;cases d' <;> simp only [iA] at z2 ⊢
        · obtain ⟨b',vs,e,hb',r⟩:=z2;cases e;exact ⟨b,vs,rfl,by rw [av nb];exact hb',bx.kp kp _ _ r⟩
        · obtain ⟨b',vs,e,hb',r⟩:=z2;cases e;exact ⟨b,vs,rfl,by rw [av nb];exact hb',eF.kp kp _ _ r⟩
  · obtain ⟨ne,e1⟩:=df (fun e z=>by cases z) e1;exact h.own j e b e1 e2
  · obtain ⟨ne,e1⟩:=df (fun e z=>by cases z) e1;obtain ⟨ne',e2⟩:=df (fun e z=>by cases z) e2;exact h.apart j k e f b e1 e2 e3 e4
theorem Bs {X:Cx} {pins:List (Addr×Obj)} {s:Shared} {Fm H:Hp} {σ:St} {ρ:aT} {i:Nat} {d:PyData} (I:aL X pins σ H s) (h:iB Fm H σ ρ) (h1:ρ[i]?=some (.own d)) :
    ∃ H' v,aL X pins σ H' s/\iB Fm H' σ (ρ.set i (.val d))/\σ[i]?=some (some v)/\Rp H' d v:=by
  obtain ⟨w',h2,v,rfl,q⟩:=h.sl.at h1;cases d <;> simp only [iA] at q
  · rename_i ds;obtain ⟨a,vs,rfl,ha,r⟩:=q;obtain ⟨o,J⟩:=gv I ha (.inl ⟨_,rfl⟩);have hr:Rp (cP H a (.frz o (.lst vs))) (.list ds) (.ref a):=by
      simp only [Rp];exact ⟨a,o,vs,rfl,bd,bx.kp (fV ha (.inl ⟨_,rfl⟩)) _ _ r⟩
    exact ⟨_,_,J,h.freeze h1 h2 ha (.inl ⟨_,rfl⟩) hr,h2,hr⟩
  · rename_i ds;obtain ⟨a,vs,rfl,ha,r⟩:=q;obtain ⟨o,J⟩:=gv I ha (.inr ⟨_,rfl⟩);have hr:Rp (cP H a (.frz o (.dK vs))) (.dict ds) (.ref a):=by
      simp only [Rp];exact .inl ⟨a,o,vs,rfl,bd,eF.kp (fV ha (.inr ⟨_,rfl⟩)) _ _ r⟩
    exact ⟨_,_,J,h.freeze h1 h2 ha (.inr ⟨_,rfl⟩) hr,h2,hr⟩
theorem kI.fz {X:Cx} {st:Stmt} {i:Nat} {f:Fe} (h:kI X st (ia i f)) (hi:i < X.N.length):kI X st (cm i f):=fun Fm=>by
  intro pins s σ H D I ⟨ρ,sl,q⟩;unfold cm at q;cases ef:f ρ with
  | ex c=>rw [ef] at q;exact h Fm pins s σ H D I ⟨ρ,sl,by unfold ia;rw [ef];exact q⟩
  | no=>rw [ef] at q;exact q.elim
  | ok d =>
    rw [ef] at q;have hr:BE X Fm (ia i f) { nx:=fun σ' H'=>iB Fm H' σ' (ρ.set i (.own d)),rt:=fun _ _=>False } σ H:=⟨ρ,sl,by unfold ia;rw [ef];exact fun σ' H' s'=>s'⟩
    refine dm (h Fm pins s σ H _ I hr) fun fl s' z=>?_
    cases fl with
    | next =>
      obtain ⟨σ',H',I',sls⟩:=z;have hi':i < ρ.length:=by rw [<- sl.sl.1,I.len];exact hi
      obtain ⟨H2,v,I2,sl2,_,_⟩:=Bs I' sls (i:=i) (d:=d) (by rw [List.getElem?_set,if_pos rfl,if_pos hi']);rw [List.set_set] at sl2;exact ⟨σ',H2,I2,q σ' H2 sl2⟩
    | brk=>obtain ⟨_,_,_,z⟩:=z;exact z.elim
    | cont=>obtain ⟨_,_,_,z⟩:=z;exact z.elim
    | ret u=>obtain ⟨_,_,_,_,_,z⟩:=z;exact z.elim
theorem jk {X:Cx} {st:Stmt} {i:Nat} {f:Fe} (h:Z.kI X st (ia i f)) (hi:i < X.N.length):Z.kI X st (cm i f) :=
  ⟨D2.kI.fz h.un hi⟩
theorem wU {X:Cx} {tg iter elt:Expr} {ifs:List Expr} {sc:Scope} {pos:Pos} {it:aT->R (List PyData)} {b:PyData->aT->Option aT} {t:aT->R Bool} {f:Fe} {N:List Str} {own:Nat} {G G0:List Str} {fr:List Nat} {nl:Nat}
    (T:Tb X nl G0) {oN:List Str} {on:List (Str×NameKind)} (hoN:X.N=oN) (hon:X.env.scope.names=on)
    (ck:fA sc N own G oN fr/\∀ y∈sc.names,y.2=.free->on.lookup y.1=some .cell\/on.lookup y.1=some .free) (hi:tz X tg iter it)
    (hb0:∀ ρ d ρ1,b d (ax own fr ρ)=some ρ1->mm (ax own fr ρ) ρ1)
    (hbody:∀ cl C s H fp E,Tb (bi X N sc cl C s H fp E) own G->vb (bi X N sc cl C s H fp E) tg b/\wt (bi X N sc cl C s H fp E) ifs t/\cY (bi X N sc cl C s H fp E) elt f)
    (hs:∀ x,foldedSetIterable iter X.env x=pure x:=by intro _;rfl) (hstk:∃ env0 outer0 L,X.stack=env0::outer0/\env0.frame=some L/\X.env.frame=some L:=by exact ⟨_,_,_,rfl,rfl,rfl⟩):oO X (.ListComp elt [⟨tg,iter,ifs,0⟩] sc pos) (bN it own fr b t f) :=
  sx T (by rw [hoN];exact ck.1) (fun y hy hf=>by unfold Env.kindOf;rw [hon];exact ck.2 y hy hf) hi hb0 hbody hs hstk
theorem bc {X:Cx} {tg iter elt:Expr} {ifs:List Expr} {sc:Scope} {pos:Pos} {it:aT->R (List PyData)} {b:PyData->aT->Option aT} {t:aT->R Bool} {f:Fe} {N:List Str} {own:Nat} {G G0:List Str} {fr:List Nat} {nl:Nat} (T:Tb X nl G0) {oN:List Str} {on:List (Str×NameKind)} (hoN:X.N=oN) (hon:X.env.scope.names=on) (ck:fA sc N own G oN fr/\∀ y∈sc.names,y.2=.free->on.lookup y.1=some .cell\/on.lookup y.1=some .free) (hi:Z.tz X tg iter it) (hb0:∀ ρ d ρ1,b d (ax own fr ρ)=some ρ1->mm (ax own fr ρ) ρ1) (hbody:∀ cl C s H fp E,Tb (bi X N sc cl C s H fp E) own G->Z.vb (bi X N sc cl C s H fp E) tg b/\Z.wt (bi X N sc cl C s H fp E) ifs t/\Z.cY (bi X N sc cl C s H fp E) elt f) (hs:∀ x,foldedSetIterable iter X.env x=pure x:=by intro _;rfl) (hstk:∃ env0 outer0 L,X.stack=env0::outer0/\env0.frame=some L/\X.env.frame=some L:=by exact ⟨_,_,_,rfl,rfl,rfl⟩):Z.oO X (.ListComp elt [⟨tg,iter,ifs,0⟩] sc pos) (bN it own fr b t f) :=
  ⟨D2.wU T hoN hon ck hi.un hb0 (fun cl C s H fp E T=>let ⟨q1,q2,q3⟩:=hbody cl C s H fp E T;⟨q1.un,q2.un,q3.un⟩) hs hstk⟩
theorem Aq {X:Cx} {tg iter elt:Expr} {ifs:List Expr} {sc:Scope} {pos py spos:Pos} {it:aT->R (List PyData)} {b:PyData->aT->Option aT} {t:aT->R Bool} {f:Fe} {N:List Str} {own:Nat} {G G0:List Str} {fr:List Nat} {nl:Nat} {y:Str} (i:Nat)
    (hN:(X.N.take nl)[i]?=some y) (T:Tb X nl G0) {oN:List Str} {on:List (Str×NameKind)} (hoN:X.N=oN) (hon:X.env.scope.names=on)
    (ck:fA sc N own G oN fr/\∀ y∈sc.names,y.2=.free->on.lookup y.1=some .cell\/on.lookup y.1=some .free) (hi:tz X tg iter it)
    (hb0:∀ ρ d ρ1,b d (ax own fr ρ)=some ρ1->mm (ax own fr ρ) ρ1)
    (hbody:∀ cl C s H fp E,Tb (bi X N sc cl C s H fp E) own G->vb (bi X N sc cl C s H fp E) tg b/\wt (bi X N sc cl C s H fp E) ifs t/\cY (bi X N sc cl C s H fp E) elt f)
    (hsw:swapsWith (.ListComp elt [⟨tg,iter,ifs,0⟩] sc pos) (some (.Name y py)) spos.line X.env=pure true:=by rfl)
    (hs:∀ x,foldedSetIterable iter X.env x=pure x:=by intro _;rfl) (hstk:∃ env0 outer0 L,X.stack=env0::outer0/\env0.frame=some L/\X.env.frame=some L:=by exact ⟨_,_,_,rfl,rfl,rfl⟩):kI X (.Assign [.Name y py] (.ListComp elt [⟨tg,iter,ifs,0⟩] sc pos) spos) (ia i (bN it own fr b t f)) :=
  Ap T (by rw [hoN];exact ck.1) (fun y hy hf=>by unfold Env.kindOf;rw [hon];exact ck.2 y hy hf) hi hb0 hbody hN hsw hs hstk
theorem fB {X:Cx} {tg iter elt:Expr} {ifs:List Expr} {sc:Scope} {pos py spos:Pos} {it:aT->R (List PyData)} {b:PyData->aT->Option aT} {t:aT->R Bool} {f:Fe} {N:List Str} {own:Nat} {G G0:List Str} {fr:List Nat} {nl:Nat} {y:Str} (i:Nat) (hN:(X.N.take nl)[i]?=some y) (T:Tb X nl G0) {oN:List Str} {on:List (Str×NameKind)} (hoN:X.N=oN) (hon:X.env.scope.names=on) (ck:fA sc N own G oN fr/\∀ y∈sc.names,y.2=.free->on.lookup y.1=some .cell\/on.lookup y.1=some .free) (hi:Z.tz X tg iter it) (hb0:∀ ρ d ρ1,b d (ax own fr ρ)=some ρ1->mm (ax own fr ρ) ρ1) (hbody:∀ cl C s H fp E,Tb (bi X N sc cl C s H fp E) own G->Z.vb (bi X N sc cl C s H fp E) tg b/\Z.wt (bi X N sc cl C s H fp E) ifs t/\Z.cY (bi X N sc cl C s H fp E) elt f) (hsw:swapsWith (.ListComp elt [⟨tg,iter,ifs,0⟩] sc pos) (some (.Name y py)) spos.line X.env=pure true:=by rfl) (hs:∀ x,foldedSetIterable iter X.env x=pure x:=by intro _;rfl) (hstk:∃ env0 outer0 L,X.stack=env0::outer0/\env0.frame=some L/\X.env.frame=some L:=by exact ⟨_,_,_,rfl,rfl,rfl⟩):Z.kI X (.Assign [.Name y py] (.ListComp elt [⟨tg,iter,ifs,0⟩] sc pos) spos) (ia i (bN it own fr b t f)) :=
  ⟨D2.Aq i hN T hoN hon ck hi.un hb0 (fun cl C s H fp E T=>let ⟨q1,q2,q3⟩:=hbody cl C s H fp E T;⟨q1.un,q2.un,q3.un⟩) hsw hs hstk⟩
theorem bu {own:Nat} {fr:List Nat} {i:Nat} (h:i < own):∀ ρ d ρ1,aQ i d (ax own fr ρ)=some ρ1->mm (ax own fr ρ) ρ1:=fun ρ d ρ1 e=>by
  have e':ρ1=(ax own fr ρ).set i (.val d):=(Option.some.inj e).symm;subst e';refine ⟨by rw [List.length_set],fun j c hj=>?_⟩;by_cases hij:i=j
  · subst hij;left;unfold ax at hj;rw [List.getElem?_append_left (by simpa using h),List.getElem?_replicate,if_pos h] at hj;exact (Option.some.inj hj).symm
  · right;rw [List.getElem?_set,if_neg hij];exact hj
noncomputable def va (sc:Scope) (N G:List Str):Prop :=
  N.Nodup/\(∀ x∈N,(sc.names.lookup x=some .local\/sc.names.lookup x=some .cell)/\(x==("__debug__" : Str))=false/\(x==("__classdict__" : Str))=false)/\∀ x∈G,sc.names.lookup x=some .globalImplicit/\(x==("__debug__" : Str))=false/\x≠("__name__" : Str)
noncomputable instance {sc:Scope} {N G:List Str}:Decidable (va sc N G):=by unfold va;infer_instance
theorem B9 {P:Program} {w:World} {K:PySem.W.Frag} {mg:Str->Option Value} {base:Heap} {N:List Str} {qual:Str} {sc:Scope} {f:Addr} {cdv:Value} {A:Around} {outer:List Env} {s:Shared} {H:Hp} {E:XK} {G:List Str} {k:Nat}
    (hr:e8 k (A.deeper (envOfC qual sc s.heap.objs.size f cdv))) (ck:va sc N G):Tb (fN (cQ P w mg) P w K mg base N qual sc f cdv A outer s H E) N.length G:=by
  obtain ⟨nd,l,g⟩:=ck;refine ⟨hr.units,rfl,nd,fun x hx=>⟨?_,(l x hx).2⟩,fun x hx=>⟨?_,.inl rfl⟩,fun x hx=>?_⟩
  · rcases (l x hx).1 with q | q
    · exact .inl q
    · exact .inr (.inl q)
  · exact (l x (List.mem_of_mem_take hx)).1
  · exact g x hx
section
variable {X:Cx} {a b c:Expr} {fa fb fc:Fe} {pos:Pos}
noncomputable def FP:PyData->R PyData
  | .int i=>.ok (.int (-i))
  | _=>.no
noncomputable def nJ (g g':PyData->PyData->R PyData) (fa fb fc:Fe):Fe:=fun ρ=>fa ρ>>=fun x=>fb ρ>>=fun y=>g x y>>=fun d=>r8 d>>=fun k=>if k=true then fc ρ>>=fun z=>g' y z else .ok (.bool false)
theorem x6 {r r':R2} {g g':PyData->PyData->R PyData} (hg:cz X im r g) (hg':cz X im r' g') (σ:St) (H:Hp) (Q:VK) (h:jY X im (nJ g g' fa fb fc) σ H Q) :
    zr r r' (jY X ww fa) (jY X ww fb) (jY X ww fc) σ H Q :=
  (fD (P:=ww) (k:=fun ρ x=>fb ρ>>=fun y=>g x y>>=fun d=>r8 d>>=fun k=>if k=true then fc ρ>>=fun z=>g' y z else .ok (.bool false)) (fO (X:=X) gt Q) h).post fun v H1 ⟨ρ1,d1,sl1,_,p1,q1⟩ =>
    (fD (P:=ww) (f:=fb) (k:=fun ρ y=>g d1 y>>=fun d=>r8 d>>=fun k=>if k=true then fc ρ>>=fun z=>g' y z else .ok (.bool false)) (fO (X:=X) gt Q) ⟨ρ1,sl1,q1⟩).post fun u H2 ⟨ρ2,d2,sl2,s2,p2,q2⟩=>by
      refine hg H2 v u d1 d2 _ (gW.mono p1 s2) p2 ?_;cases e:g d1 d2 with
      | ex c=>rw [e] at q2;exact q2
      | no=>rw [e] at q2;exact q2
      | ok d =>
        rw [e] at q2;intro w' H3 s3 p3;have q3:v7 X im (r8 d>>=fun k=>if k=true then fc ρ2>>=fun z=>g' d2 z else .ok (.bool false)) H2 Q:=q2;cases d with
        | bool k =>
          have e3:w'=.bl k:=by simpa only [Rp] using p3
          refine ⟨k,e3,?_⟩;cases k with
          | false=>exact q3 _ H3 s3 ft
          | true =>
            have q4:v7 X im (fc ρ2>>=fun z=>g' d2 z) H2 Q:=q3;exact (fD (P:=ww) (f:=fc) (k:=fun _ z=>g' d2 z) (fO (X:=X) gt Q) ⟨ρ2,sl2.mono s3,(fO (X:=X) gt Q).mono _ _ _ q4 s3⟩).post fun z H4 ⟨_,d4,_,s4,p4,q5⟩=>hg' H4 u z d2 d4 Q (gW.mono p2 (s3.trans s4)) p4 q5
        | none=>exact q3.elim
        | int i=>exact q3.elim
        | str i=>exact q3.elim
        | list i=>exact q3.elim
        | tuple i=>exact q3.elim
        | dict i=>exact q3.elim
theorem ni {op op':CmpOp} {r r':R2} {g g':PyData->PyData->R PyData} (ho:i8 X (compareOp op) r) (hg:cz X im r g) (ho':i8 X (compareOp op') r') (hg':cz X im r' g') (ha:Z.eu X a fa) (hb:Z.eu X b fb) (hc:Z.eu X c fc) (hm:lastMarks [op,op'] [b,c]=false:=by with_unfolding_all rfl):Z.cY X (.Compare a [op,op'] [b,c] pos) (nJ g g' fa fb fc):=⟨have ha:=ha.un;have hb:=hb.un;have hc:=hc.un;PE.imp (yR ho ho' ha hb hc hm) (x6 hg hg')⟩
variable {es:List Expr} {fs:aT->R (List PyData)}
noncomputable def k7 (fs:aT->R (List PyData)):Fe:=fun ρ=>fs ρ>>=fun ds=>if ds.length<=sizeLine then .ok (.tuple ds) else .no
noncomputable def wQ (fs:aT->R (List PyData)):Fe:=fun ρ=>fs ρ>>=fun ds=>if ds.length<=sizeLine then .ok (.list ds) else .no
theorem eM {x1} (h:Z.tx X es fs):Z.cY X (.Tuple es x1 pos) (k7 fs):=⟨have h:=h.un;PE.imp (CL h) fun σ H Q q=>(nC (I:=Rp) (f:=fs) (k:=fun _ ds=>if ds.length<=sizeLine then .ok (.tuple ds) else .no) (fO (X:=X) gt Q) q).post fun vs H1 ⟨_,ds,_,_,p,q1⟩=>by
    have p:=og.mp p;split at q1
    · rename_i hz;exact ⟨by rw [p.length];exact hz,fun a ha=>q1 _ _ (cA ha _) (dX ha p)⟩
    · exact q1.elim⟩
theorem jH (h:Z.tx X es fs):Z.oO X (.List es pos) (wQ fs):=⟨have h:=h.un;PE.imp (CG h) fun σ H Q q=>(nC (I:=Rp) (f:=fs) (k:=fun _ ds=>if ds.length<=sizeLine then .ok (.list ds) else .no) (fO (X:=X) An Q) q).post fun vs H1 ⟨_,ds,_,_,p,q1⟩=>by
    have p:=og.mp p;split at q1
    · rename_i hz;exact ⟨by rw [p.length];exact hz,fun a ha=>q1 _ _ (cA ha _) (dW ha p)⟩
    · exact q1.elim⟩
theorem rU  : Z.oO X (.Dict [] [] pos) (eC (.dict [])):=⟨PE.imp yS fun σ H Q ⟨ρ,sl,q⟩ p hp=>q _ _ (cA hp _) ⟨by simp only [iA];exact ⟨p,[],rfl,bd,by simp only [eF]⟩,p,rfl,hp⟩⟩
noncomputable def bK:PyData->PyData->R PyData
  | .list ds,.int i=>match atI ds i with
    | some d=>.ok d
    | none=>.no
  | .tuple ds,.int i=>match atI ds i with
    | some d=>.ok d
    | none=>.no
  | .str z,.int i=>if z.length<=sizeLine then match atI z.cps.toList i with
    | some c=>.ok (.str ⟨#[c]⟩)
    | none=>.no else .no
  | .dict kvs,k=>if l4 kvs=true then .no else match hR k with
    | some _=>match l6 kvs k with
      | some d=>.ok d
      | none=>.no
    | none=>.no
  | _,_=>.no
theorem bx.atI {H:Hp} {ds:List PyData} {vs:List V} {i:Int} {d:PyData} (r:bx H ds vs) (e:L2.atI ds i=some d):∃ v,L2.atI vs i=some v/\Rp H d v:=by
  unfold L2.atI at e ⊢;rw [r.length];cases h:vJ ds.length i with
  | none=>rw [h] at e;cases e
  | some j =>
    rw [h] at e;obtain ⟨v,e1,p⟩:=r.get (show ds[j]?=some d from e);exact ⟨v,e1,p⟩
noncomputable def Ev:R2:=fun x y H Q=>∃ a v,x=.ref a/\mS H a y (some v)/\Q v H
theorem AB (hu:X.A.units+1 < cLine):zV X Ev:=by
  intro value slice pins s σ H x y v u Q I rx ry h hs;obtain ⟨a,z,rfl,g,q⟩:=h;cases rx;exact tail_any (sr I g) PySem.F.slot_dict_getitem.lookup (wO hu I g ry fun w' s3 I3 rw'=>⟨z,H,I3,rw',q⟩) hs
theorem EL:cz X im (fun x y H Q=>Ew X.K x y H Q\/Ey X.K x y H Q\/Ex x y H Q\/Ev x y H Q) bK:=fun H x y dx dy Q hx hy q=>by
  unfold bK at q;split at q
  · rename_i ds i;split at q
    · rename_i d e;obtain ⟨a,vs,rfl,hq,r⟩:=fL (K:=X.K) hx;obtain ⟨v,e1,p⟩:=r.atI e;exact .inl ⟨a,vs,i,v,rfl,bX hy,hq,e1,q v H (aF.refl _) p⟩
    · exact q.elim
  · rename_i ds i;split at q
    · rename_i d e;obtain ⟨a,vs,rfl,hq,r⟩:=dJ hx;obtain ⟨v,e1,p⟩:=r.atI e;exact .inr (.inl ⟨a,vs,i,v,rfl,bX hy,iC.of hq,e1,q v H (aF.refl _) p⟩)
    · exact q.elim
  · rename_i z i;split at q
    · rename_i hz;split at q
      · rename_i c e;exact .inr (.inr (.inl ⟨z,i,c,gx hx,bX hy,hz,e,q _ H (aF.refl _) zf⟩))
      · exact q.elim
    · exact q.elim
  · rename_i kvs k;split at q
    · exact q.elim
    rename_i hi;split at q
    · rename_i κ e;split at q
      · rename_i d e1;obtain ⟨a,ks,rfl,h,r⟩:=kW (Bool.not_eq_true _ ▸ hi) hx;obtain ⟨o,g,_,e2⟩:=vp (κ:=κ) h r;rw [sJ e] at e1;obtain ⟨v,rfl,p⟩:=e2 d e1;rw [<- vk hy e] at g;exact .inr (.inr (.inr ⟨a,v,rfl,g,q v H (aF.refl _) p⟩))
      · exact q.elim
    · exact q.elim
  · exact q.elim
theorem aG (hu:X.A.units+64 < cLine) (ha:Z.eu X a fa) (hb:Z.eu X b fb) (hs:ve b):Z.cY X (.Subscript a b pos) (e2 bK fa fb):=⟨have ha:=ha.un;have hb:=hb.un;PE.imp (Ep (AC.or (Cn.or (Cm.or (AB (by omega))))) ha hb hs) (two gt EL)⟩
variable {nl:Nat} {G:List Str} {x:Str} {p:Pos}
noncomputable def qr (X:Cx) (P:Hp->Hp->PyData->V->Prop) (r:List V->Hp->VK->Prop) (g:List PyData->R PyData):Prop:=∀ H xs ds Q,RA gW H ds xs->v7 X P (g ds) H Q->r xs H Q
theorem xY {P:Hp->Hp->PyData->V->Prop} {r:List V->Hp->VK->Prop} {g:List PyData->R PyData} (hP:Dn P) (hg:qr X P r g) (σ:St) (H:Hp) (Q:VK) (h:jY X P (fun ρ=>fs ρ>>=g) σ H Q):Gg r (zc X gW fs) σ H Q :=
  (nC (I:=gW) (k:=fun _=>g) (fO (X:=X) hP Q) h).post fun vs H1 ⟨_,ds,_,_,p1,q1⟩=>hg H1 vs ds Q p1 q1
noncomputable def one (g:PyData->R PyData):List PyData->R PyData
  | [d]=>g d
  | _=>.no
noncomputable def Ds (g:PyData->PyData->R PyData):List PyData->R PyData
  | [d,e]=>g d e
  | _=>.no
theorem yK (g:PyData->R PyData) (fa:Fe):(fun ρ=>ah fa aH ρ>>=one g)=e1 g fa:=by
  funext ρ;unfold ah aH e1;cases fa ρ <;> rfl
theorem Dt (g:PyData->PyData->R PyData) (fa fb:Fe):(fun ρ=>ah fa (ah fb aH) ρ>>=Ds g)=e2 g fa fb:=by
  funext ρ;unfold ah aH e2;cases fa ρ with
  | ok a=>cases fb ρ <;> rfl
  | ex c=>rfl
  | no=>rfl
theorem zp {P:Hp->Hp->PyData->V->Prop} {r:List V->Hp->VK->Prop} {g:PyData->R PyData} (h:∀ H x d Q,gW H d x->v7 X P (g d) H Q->r [x] H Q):qr X P r (one g):=fun H xs ds Q ra q=>by
  unfold one at q;split at q
  · rename_i d;simp only [RA] at ra;obtain ⟨v,r',e,p,e2⟩:=ra;subst e2;subst e;exact h H v d Q p q
  · exact q.elim
theorem Dp {P:Hp->Hp->PyData->V->Prop} {r:List V->Hp->VK->Prop} {g:PyData->PyData->R PyData} (h:∀ H x y d e Q,gW H d x->gW H e y->v7 X P (g d e) H Q->r [x,y] H Q):qr X P r (Ds g):=fun H xs ds Q ra q=>by
  unfold Ds at q;split at q
  · rename_i d e;simp only [RA] at ra;obtain ⟨v,r',e1,p,v',r'',e2,p',e3⟩:=ra;subst e3;subst e2;subst e1;exact h H v v' d e Q p p' q
  · exact q.elim
section
variable {P:Hp->Hp->PyData->V->Prop} {r:List V->Hp->VK->Prop} {g:PyData->R PyData} {g2:PyData->PyData->R PyData} {id ty:String}
theorem B1 (T:Tb X nl G) (j:Nat) (hG:G[j]?=some x) (hm:X.mg x=none) (hP:Dn P) (hv:bootBuiltins x=some (.builtin id)) (hc:eJ X (.builtin id) r) (hg:∀ H x d Q,gW H d x->v7 X P (g d) H Q->r [x] H Q) (ha:eu X a fa)
    (he:aX a=true:=by rfl):PE X (.Call (.Name x p) [a] [] pos) (jY X P (e1 g fa)):=by
  have q:=T.gl x (List.mem_of_getElem? hG);rw [<- yK];exact PE.imp (n8 hc q.1 hm hv (mJ ha uq he) q.2.2 q.2.1 (bq he)) (xY hP (zp hg))
theorem Dv (T:Tb X nl G) (j:Nat) (hG:G[j]?=some x) (hm:X.mg x=none) (hP:Dn P) (hv:bootBuiltins x=some (.type ty)) (hc:eJ X (.type ty) r) (hg:∀ H x d Q,gW H d x->v7 X P (g d) H Q->r [x] H Q) (ha:eu X a fa)
    (he:aX a=true:=by rfl):PE X (.Call (.Name x p) [a] [] pos) (jY X P (e1 g fa)):=by
  have q:=T.gl x (List.mem_of_getElem? hG);rw [<- yK];exact PE.imp (xj hc q.1 hm hv (mJ ha uq he) q.2.2 q.2.1 (bq he)) (xY hP (zp hg))
theorem DN (T:Tb X nl G) (j:Nat) (hG:G[j]?=some x) (hm:X.mg x=none) (hP:Dn P) (hv:bootBuiltins x=some (.builtin id)) (hc:eJ X (.builtin id) r) (hg:∀ H x y d e Q,gW H d x->gW H e y->v7 X P (g2 d e) H Q->r [x,y] H Q) (ha:eu X a fa) (hb:eu X b fb)
    (he:aX a=true:=by rfl) (he2:aX b=true:=by rfl):PE X (.Call (.Name x p) [a,b] [] pos) (jY X P (e2 g2 fa fb)):=by
  have q:=T.gl x (List.mem_of_getElem? hG);rw [<- Dt];exact PE.imp (n8 hc q.1 hm hv (mJ ha (mJ hb uq he2) he) q.2.2 q.2.1 (bq he) (oy (by rw [List.all_cons,he2];rfl))) (xY hP (Dp hg))
end
end
theorem lO:fillsNumberSlot (.type "tuple") "mul" = pure false :=
  PySem.fillsNumberSlot_seq (id := "tuple.__mul__") (r:=some (.builtin "tuple.__rmul__")) F.slot_tuple_mul.lookup (by decide +kernel) F.slot_tuple_rmul.lookup (by decide +kernel)
theorem rc:seqRepeat? (.type "tuple")=pure (some (.builtin "tuple.__mul__")):=by
  unfold seqRepeat?;rw [PySem.seqSlot_of (T := "tuple") (name := "__mul__") (id := "tuple.__mul__") F.slot_tuple_mul.lookup (by decide +kernel),PySem.seqSlot_of (T := "tuple") (name := "__rmul__") (id := "tuple.__rmul__") F.slot_tuple_rmul.lookup (by decide +kernel)];rfl
theorem nT (a:Int) (t:Tok) (l:Addr) (items:Array Value) (n:Nat) (dd:Option Addr) (sl:Array (Option Value)) :
    Meets (Builtin.«int.__rmul__» ⟨[.int a t,.ref l],[]⟩) (fun _ R s=>s.heap.get? l=some { cls:=.type "tuple",dict:=dd,data:=.seq items n,slots:=sl }/\R (.ok (.ret Value.notImplemented)) s) :=
  .of_wp fun prog w A R s h=>by obtain ⟨hp,g,d,tk,os⟩:=s;obtain ⟨hl,h⟩:=h;wp_walk;exact ⟨_,rfl,h⟩
theorem u4 (l:Addr) (items:Array Value) (n:Nat) (dd:Option Addr) (sl:Array (Option Value)) (x:Int) (u:Tok) (h1:2<=x) (h2:x < 2 ^ 63) (h0:¬ items.isEmpty=true) (hc1:¬ (items.size:Int)*x > (2 ^ 63-1) / 8) (hbig:Builtin.Tuple.tupleTooMany ((items.size:Int)*x)=false) (hsz:¬ (List.foldl (fun x1 x2=>x1++x2) #[] (List.replicate x.toNat items)).size > sizeLine) :
    Meets (Builtin.«tuple.__mul__» ⟨[.ref l,.int x u],[]⟩) (fun _ R s=>s.heap.get? l=some { cls:=.type "tuple",dict:=dd,data:=.seq items n,slots:=sl }/\R (.ok (.ret (Value.ref s.heap.objs.size))) { s with heap:=s.heap.push { cls:=Value.type "tuple",data:=Data.seq (List.foldl (fun x1 x2=>x1++x2) #[] (List.replicate x.toNat items)) },toks:=s.toks }) :=
  .of_wp fun prog w A R s h=>by
    obtain ⟨hp,g,d,tk,os⟩:=s;obtain ⟨hl,h⟩:=h;have f1:=AutoSeq1.idx_int;have f2:=AutoSeq1.sub_tuple_tuple;have f3:=AutoSeq1.sub_list_list;have f4:=AutoSeq1.sub_tuple_list;have f5:=AutoSeq1.sub_list_tuple;have e0:(decide (x < -2 ^ 63)||decide (x>=2 ^ 63))=false:=by
      rw [decide_eq_false (by omega),decide_eq_false (by omega)];rfl
    have e1:(items.isEmpty||x==1)=false:=by
      have:(x==1)=false:=by simp;omega
      rw [this,Bool.or_false];exact Bool.eq_false_iff.mpr h0
    have e2:(decide (x<=0)||items.isEmpty)=false:=by
      rw [decide_eq_false (by omega),Bool.false_or];exact Bool.eq_false_iff.mpr h0
    have e3:decide ((items.size:Int)*x > (2 ^ 63-1) / 8)=false:=decide_eq_false hc1;have e4:Builtin.Tuple.tupleTooMany ((items.size:Int)*x)=false:=hbig
    wp_walk using wpAny_loadPart' hl
    refine wpAny_ite_false (decide_eq_false (by rw [e0];exact Bool.false_ne_true)) ?_
    wp_walk using wpAny_loadPart' hl
    refine wpAny_ite_false (decide_eq_false (by rw [e1];exact Bool.false_ne_true)) ?_
    wp_walk using wpAny_loadPart' hl
    refine wpAny_ite_false (decide_eq_false (by rw [e2];exact Bool.false_ne_true)) ?_
    wp_walk using wpAny_loadPart' hl
    refine wpAny_ite_false e3 ?_
    wp_walk using wpAny_loadPart' hl
    exact ⟨_,rfl,h⟩
section
variable {X:Cx} {a b c:Expr} {fa fb fc:Fe} {pos:Pos} {nl:Nat} {G:List Str} {x:Str} {p:Pos}
noncomputable def BD (K:PySem.W.Frag):R2:=fun x y H Q=>∃ l k xs,x=.ref l/\y=.int k/\iC K H l xs/\xs≠[]/\2<=k/\k < 2 ^ 63/\xs.length*k.toNat<=sizeLine/\∀ p,H p=none->Q (.ref p) (cP H p (.tup (List.replicate k.toNat xs).flatten))
theorem AO:i8 X (binaryOp .Mult) (BD X.K):=by
  intro pins s σ H x y v u Q I rx ry h;obtain ⟨l,k,xs,rfl,rfl,hH,hne,h1,h2,hz,q⟩:=h;cases rx;obtain ⟨t,rfl⟩:=ry;obtain ⟨its,r,pl,hz0⟩:=I.tuple hH;obtain ⟨⟨cls,dd,data,sl⟩,e,hc,n,hd⟩:=id pl;simp only at hc hd;subst hc hd;have hl:=r.length;have hnew:List.foldl (fun x1 x2=>x1++x2) #[] (List.replicate k.toNat its.toArray)=(List.replicate k.toNat its).flatten.toArray:=by
    have:=pr its k.toNat [];rw [List.nil_append] at this;exact this
  have hlen:(List.replicate k.toNat its).flatten.length<=sizeLine:=by rw [vL,<- hl,Nat.mul_comm];exact hz
  have hprod:(its.length:Int)*k<=(sizeLine:Int):=by
    have h3:((its.length*k.toNat:Nat):Int)<=(sizeLine:Int):=by rw [<- hl];exact Int.ofNat_le.mpr hz
    have h4:((k.toNat:Nat):Int)=k:=Int.toNat_of_nonneg (by omega);rw [Int.natCast_mul,h4] at h3;exact h3
  have hcap:¬ (its.toArray.size:Int)*k > (2 ^ 63-1) / 8:=by
    rw [List.size_toArray];have hs:sizeLine=16777216:=sizeLine_eq;omega
  have hbig:Builtin.Tuple.tupleTooMany ((its.toArray.size:Int)*k)=false:=by
    unfold Builtin.Tuple.tupleTooMany;rw [List.size_toArray];exact decide_eq_false (by omega)
  refine wpAny_binaryOp_repeat_ref (T := "tuple") (U := "int") (by decide) ⟨_,e,rfl⟩ (fun s'=>typeIs_int s' k t) lO F.fills_int_mul F.slot_int_rmul rc F.slot_int_index.lookup
    (call_meets F.slot_int_rmul (typeIs_int s k t) F.entry_int_rmul (F.args_int_rmul_2 _ _) (nT k t l its.toArray n dd sl)
      ⟨e,rfl,⟨_,e,rfl⟩,call_meets F.slot_tuple_mul ⟨_,e,rfl⟩ F.entry_tuple_mul (F.args_tuple_mul_2 _ _) (u4 l its.toArray n dd sl k t h1 h2 (by
        intro z;apply hne;have:its=[]:=by simpa using z
        rw [this] at hl;exact List.length_eq_zero_iff.mp hl) hcap hbig (by rw [hnew,List.size_toArray];omega)) ⟨e,?_⟩⟩)
  rw [hnew];refine ⟨.ref s.heap.objs.size,_,I.laid (t':=s.toks) (o:=.tup (List.replicate k.toNat xs).flatten) (fun b ob q=>Heap.get?_push_of_some _ q) (Nat.le_refl _) ?_,rfl,q _ (I.hok.fresh (Nat.le_refl _))⟩;exact ⟨by rw [vL,Nat.mul_comm];exact hz,_,r.rep k.toNat,gn.new _ _⟩
noncomputable def ff:PyData->PyData->R PyData
  | .int i,.int j=>if (-(2 ^ 64) < i/\i < 2 ^ 64)\/(-(2 ^ 64) < j/\j < 2 ^ 64) then .ok (.int (i*j)) else .no
  | .tuple xs,.int k=>if xs≠[]/\2<=k/\k < 2 ^ 63/\xs.length*k.toNat<=sizeLine then .ok (.tuple (List.replicate k.toNat xs).flatten) else .no
  | _,_=>.no
theorem Dm:cz X im (fun x y H Q=>rI zR (fun i j=>.int (i*j)) x y H Q\/BD X.K x y H Q) ff:=fun H x y dx dy Q hx hy q=>by
  cases dx with
  | int i =>
    cases dy with
    | int j =>
      simp only [ff] at q;split at q
      · rename_i h;exact .inl ⟨_,_,bX hx,bX hy,h,q _ H (aF.refl _) dN⟩
      · exact q.elim
    | _=>exact q.elim
  | tuple xs =>
    cases dy with
    | int k =>
      simp only [ff] at q;split at q
      · rename_i h;obtain ⟨a,vs,rfl,ha,r⟩:=dJ hx;have hl:=r.length;refine .inr ⟨a,k,vs,rfl,bX hy,iC.of ha,fun z=>h.1 ?_,h.2.1,h.2.2.1,by rw [hl];exact h.2.2.2,fun p hp=>q _ _ (cA hp _) (dX hp (r.rep _))⟩;rw [z] at hl;exact List.length_eq_zero_iff.mp hl.symm
      · exact q.elim
    | _=>exact q.elim
  | _=>exact q.elim
theorem dS (ha:Z.eu X a fa) (hb:Z.eu X b fb):Z.cY X (.BinOp a .Mult b pos) (e2 ff fa fb):=⟨have ha:=ha.un;have hb:=hb.un;nM gt (Cz.or AO) Dm ha hb⟩
theorem AJ:i8 X (binaryOp .Add) (fun x y H Q=>∃ i j,x=.str i/\y=.str j/\i.length+j.length<=sizeLine/\Q (.str (i++j)) H):=by
  intro pins s σ H x y v u Q I rx ry h;obtain ⟨i,j,rfl,rfl,hz,q⟩:=h;obtain ⟨t,rfl⟩:=rx;obtain ⟨t',rfl⟩:=ry;exact PyProof.Rows.add_str (fun t' tk=>⟨.str (i++j),H,I.tok _,⟨_,rfl⟩,q⟩) hz
noncomputable def za (K:PySem.W.Frag):R2:=fun x y H Q=>∃ a b ys,x=.ref a/\y=.ref b/\iC K H a []/\iC K H b ys/\Q (.ref b) H
theorem yL:i8 X (binaryOp .Add) (za X.K):=by
  intro pins s σ H x y v u Q I rx ry h;obtain ⟨a,b,ys,rfl,rfl,ha,hb,q⟩:=h;cases rx;cases ry;obtain ⟨its,r1,p1,_⟩:=I.tuple ha;obtain ⟨its2,r2,p2,_⟩:=I.tuple hb;cases r1;obtain ⟨⟨cls,dd,data,sl⟩,ho,hc,n,hd⟩:=id p1;obtain ⟨⟨cls2,dd2,data2,sl2⟩,ho2,hc2,n2,hd2⟩:=id p2;simp only at hc hd hc2 hd2;subst hc hd hc2 hd2;exact concat_meets ⟨_,ho,rfl⟩ ⟨_,ho2,rfl⟩ noFill_tuple_add seq_tuple_add PySem.F.slot_tuple_add PySem.F.entry_tuple_add (PySem.F.args_tuple_add_2 _ _)
    (tuple_addW0 a b _ its2.toArray n n2 dd dd2 sl sl2 (by rfl)) ⟨ho,ho2,⟨.ref b,H,I,rfl,q⟩⟩
noncomputable def BB (K:PySem.W.Frag):R2:=fun x y H Q=>∃ l b xs zs,x=.ref l/\y=.ref b/\Rd H l (.lst xs)/\Rd H b (.lst zs)/\xs.length+zs.length<=sizeLine/\∀ p,H p=none->Q (.ref p) (cP H p (.lst (xs++zs)))
theorem AK:i8 X (binaryOp .Add) (BB X.K):=by
  intro pins s σ H x y v u Q I rx ry h;obtain ⟨l,b,xs,zs,rfl,rfl,hH,hB,hz,q⟩:=h;cases rx;cases ry;obtain ⟨z,its,n,r,e⟩:=hH.ok I.hok;obtain ⟨z2,its2,n2,r2,e2⟩:=hB.ok I.hok;have hl:=r.length;have hl2:=r2.length;refine PySem.P.add_list e e2 ?_ (by rw [List.size_toArray,List.size_toArray];omega);have ea:its.toArray++its2.toArray=(its++its2).toArray:=by simp
  rw [ea];exact ⟨.ref _,_,I.lnew (t':=s.toks) (r.append r2) (by rw [List.length_append];omega),rfl,q _ I.fresh⟩
noncomputable def eN:PyData->PyData->R PyData
  | .int i,.int j=>.ok (.int (i+j))
  | .str x,.str y=>if x.length+y.length<=sizeLine then .ok (.str (x++y)) else .no
  | .tuple xs,.tuple ys=>if xs.length+ys.length<=sizeLine then .ok (.tuple (xs++ys)) else .no
  | .list xs,.list ys=>if xs.length+ys.length<=sizeLine then .ok (.list (xs++ys)) else .no
  | _,_=>.no
theorem qE {H:Hp} {ds:List PyData} {x:V} (h:gW H (.list ds) x):∃ a vs,x=.ref a/\Rd H a (.lst vs)/\bx H ds vs:=by
  rcases h with h | h
  · simp only [Rp] at h;obtain ⟨a,o,vs,e,ha,r⟩:=h;exact ⟨a,vs,e,.inr ⟨o,ha⟩,r⟩
  · simp only [iA] at h;obtain ⟨a,vs,e,ha,r⟩:=h;exact ⟨a,vs,e,.inl ha,r⟩
theorem Di:cz X Ff (fun x y H Q=>zQ (fun i j=>.int (i+j)) x y H Q\/(∃ i j,x=.str i/\y=.str j/\i.length+j.length<=sizeLine/\Q (.str (i++j)) H)\/BC X.K x y H Q\/za X.K x y H Q\/BB X.K x y H Q) eN:=fun H x y dx dy Q hx hy q=>by
  cases dx with
  | int i =>
    cases dy with
    | int j=>exact .inl ⟨_,_,bX hx,bX hy,q _ H (aF.refl _) (.inl dN)⟩
    | _=>exact q.elim
  | str i =>
    cases dy with
    | str j =>
      simp only [eN] at q;split at q
      · rename_i h;exact .inr (.inl ⟨_,_,gx hx,gx hy,h,q _ H (aF.refl _) (.inl zf)⟩)
      · exact q.elim
    | _=>exact q.elim
  | tuple xs =>
    cases dy with
    | tuple ys =>
      simp only [eN] at q;split at q
      · rename_i h;have hx':=hx;obtain ⟨a,vs,rfl,ha,r⟩:=dJ hx;obtain ⟨b,us,rfl,hb,r2⟩:=dJ hy;cases xs with
        | nil =>
          have:=r.nil_inv;subst this;refine .inr (.inr (.inr (.inl ⟨a,b,us,rfl,rfl,iC.of ha,iC.of hb,q _ H (aF.refl _) (.inl ?_)⟩)));simp only [Rp,List.nil_append];exact ⟨b,us,rfl,hb,r2⟩
        | cons d ds =>
          refine .inr (.inr (.inl ⟨a,b,vs,us,rfl,rfl,iC.of ha,iC.of hb,fun z=>?_,by rw [r.length,r2.length];exact h,fun z=>?_,fun _ p hp=>q _ _ (cA hp _) (.inl (dX hp (r.append r2)))⟩))
          · rw [z] at r;obtain ⟨_,_,e,_⟩:=r.cons_inv;cases e
          · have hy0:ys=[]:=by
              have:=r2.length;rw [z] at this;exact List.length_eq_zero_iff.mp this.symm
            refine q _ H (aF.refl _) (.inl ?_);rw [hy0,List.append_nil];simp only [Rp];exact ⟨a,vs,rfl,ha,r⟩
      · exact q.elim
    | _=>exact q.elim
  | list xs =>
    cases dy with
    | list ys =>
      simp only [eN] at q;split at q
      · rename_i h;obtain ⟨a,vs,rfl,ha,r⟩:=qE hx;obtain ⟨b,us,rfl,hb,r2⟩:=qE hy;exact .inr (.inr (.inr (.inr ⟨a,b,vs,us,rfl,rfl,ha,hb,by rw [r.length,r2.length];exact h,fun p hp=>q _ _ (cA hp _) (.inr (dW hp (r.append r2)))⟩)))
      · exact q.elim
    | _=>exact q.elim
  | _=>exact q.elim
theorem cg (ha:Z.eu X a fa) (hb:Z.eu X b fb):Z.cY X (.BinOp a .Add b pos) (e2 eN fa fb):=⟨have ha:=ha.un;have hb:=hb.un;zU.e (nM Am (Cu.or (AJ.or (AL.or (yL.or AK)))) Di ha hb)⟩
end
section
variable {prog:Program} {w:World} {A:Around} {E:Value->Shared->Prop} {s:Shared}
theorem jX {t sl:Addr} {items:Array Value} {vl vu:Value} {lo hi:Option Int} {Q:Value->Shared->Prop} (ht:IsTup s.heap t items) (hs:s.heap.IsSliceOf sl vl vu .none) (pl:IsPart vl lo) (pu:IsPart vu hi)
    (hw:HT.sIx items.size 0 lo=0/\HT.sIx items.size items.size hi=items.size) (h:Q (.ref t) s):wpAny (model prog w) A (getItem (.ref t) (.ref sl)) Q E s:=by
  obtain ⟨os,hos,hcs,hds⟩:=id hs;have hTs:s.TypeIs (.ref sl) "slice" := ⟨os,hos,hcs⟩
  unfold getItem
  try with_reducible refine wpAny_holding ?_
  first | refine wpAny_bind (wpAny_pure ?_) | skip
  refine wpAny_bind (wpAny_sequenceKey ht.typeIs (by decide) ?_);refine wpAny_bind (wpAny_callSpecial?_slot (name:=Str.ofString "__getitem__") ht.typeIs PyProof.Rows.slot_tuple_getitem
    (wpAny_call_entry PyProof.Rows.slot_tuple_getitem ht.typeIs entry_tuple_getitem ?_ (args_tuple_getitem _ _)))
  show wpAny _ _ (Builtin.Tuple.tupleItemsOf (.ref t)>>=_) _ _ s;refine wpAny_bind (tupleItemsOf_ ht ?_);refine wpAny_bind (wpAny_typeOf hTs ?_);rw [if_pos (by decide)];refine wpAny_bind (HT.sliceApplied_gen hs pl pu ?_);have hyes:(((HT.sIx items.size 0 lo:Nat):Int)==0&&(1:Int)==1&&(HT.sIx items.size items.size hi-HT.sIx items.size 0 lo)==items.size)=true:=by
    rw [hw.1,hw.2];simp
  show wpAny _ _ (if (((HT.sIx items.size 0 lo:Nat):Int)==0&&(1:Int)==1&&(HT.sIx items.size items.size hi-HT.sIx items.size 0 lo)==items.size)=true then _ else _) _ _ s;rw [if_pos hyes];refine wpAny_bind (m:=Builtin.Tuple.tupleIsExact _) ?_;unfold Builtin.Tuple.tupleIsExact;refine wpAny_bind (wpAny_typeOf ht.typeIs (wpAny_pure ?_));show wpAny _ _ (if (Value.type "tuple" == Value.type "tuple")=true then _ else _) _ _ s;rw [if_pos (by decide)];refine wpAny_bind (wpAny_rule ?_)
  first
    | exact wpAny_pure ⟨_,rfl,wpAny_pure h⟩
    | exact wpAny_bind (wpAny_pure (wpAny_pure ⟨_,rfl,wpAny_pure h⟩))
end
section
variable {X:Cx} {a b c:Expr} {fa fb fc:Fe} {pos p2:Pos} {nl:Nat} {G:List Str} {x:Str} {p:Pos}
noncomputable def nF (xs:List PyData) (lo hi:Option Int):List PyData:=(xs.drop (HT.sIx xs.length 0 lo)).take (HT.sIx xs.length xs.length hi-HT.sIx xs.length 0 lo)
theorem bx.cut {H:Hp} {ds:List PyData} {vs:List V} (r:bx H ds vs) (lo hi:Option Int):bx H (nF ds lo hi) (sh vs lo hi):=by
  unfold nF sh;rw [r.length];exact (r.drop _).take _
noncomputable def Gb (K:PySem.W.Frag):V->Option Int->Option Int->Hp->VK->Prop:=fun x lo hi H Q=>∃ a xs,x=.ref a/\iC K H a xs/\(HT.sIx xs.length 0 lo=0/\HT.sIx xs.length xs.length hi=xs.length)/\Q (.ref a) H
theorem zj:zY X (Gb X.K):=by
  intro pins s σ H x v vl vu lo hi sl Q I rx hs pl pu h;obtain ⟨a,xs,rfl,hx,hw,q⟩:=h;cases rx;obtain ⟨its,r,ht,hz⟩:=I.tuple hx;have hlen:its.toArray.size=xs.length:=by rw [List.size_toArray];exact r.length.symm
  refine ⟨"tuple",_,PyProof.Rows.slot_tuple_getitem.lookup,ht.typeIs,?_⟩;exact jX ht hs pl pu (by rw [hlen];exact hw) ⟨.ref a,H,I,rfl,q⟩
theorem Df:zY X (fun x lo hi H Q=>∃ xx,x=.str xx/\xx.length<=sizeLine/\Q (.str (Txt.slice xx lo hi)) H):=by
  intro pins s σ H x v vl vu lo hi sl Q I rx hs pl pu h;obtain ⟨xx,rfl,hz,q⟩:=h;obtain ⟨t,rfl⟩:=rx;refine ⟨"str",_,PySem.F.slot_str_getitem.lookup,typeIs_str _ _ _,?_⟩;have fin:∀ t' k,EP X pins σ Q (.str (Txt.slice xx lo hi) t') { s with toks:=k }:=fun t' k=>⟨.str _,H,I.tok k,⟨t',rfl⟩,q⟩
  cases pl with
  | none =>
    cases pu with
    | none=>exact wpAny_getItem_str_slice (l:=none) (u:=none) (st:=none) hs rfl (post_val_or_str ⟨Nat.le_trans (Txt.slice_le xx _ _) hz,fin⟩)
    | int j uj=>exact wpAny_getItem_str_slice (l:=none) (u:=some (j,uj)) (st:=none) hs rfl (post_val_or_str ⟨Nat.le_trans (Txt.slice_le xx _ _) hz,fin⟩)
  | int i ui =>
    cases pu with
    | none=>exact wpAny_getItem_str_slice (l:=some (i,ui)) (u:=none) (st:=none) hs rfl (post_val_or_str ⟨Nat.le_trans (Txt.slice_le xx _ _) hz,fin⟩)
    | int j uj=>exact wpAny_getItem_str_slice (l:=some (i,ui)) (u:=some (j,uj)) (st:=none) hs rfl (post_val_or_str ⟨Nat.le_trans (Txt.slice_le xx _ _) hz,fin⟩)
noncomputable def zM:PyData->Option Int->Option Int->R PyData
  | .str x,lo,hi=>if x.length<=sizeLine then .ok (.str (Txt.slice x lo hi)) else .no
  | .tuple xs,lo,hi=>.ok (.tuple (nF xs lo hi))
  | .list xs,lo,hi=>.ok (.list (nF xs lo hi))
  | _,_,_=>.no
noncomputable abbrev Fo:=aT->R (Option Int)
noncomputable def Ej:Fo:=fun _=>.ok none
noncomputable def Fk:PyData->R Int
  | .int i=>.ok i
  | _=>.no
noncomputable def md (f:Fe):Fo:=fun ρ=>f ρ>>=fun d=>Fk d>>=fun i=>.ok (some i)
noncomputable def zd (X:Cx) (f:Fo):TO:=fun σ H Q=>∃ ρ,Sl H σ ρ/\match f ρ with
  | .ok o=>∀ H',aF H H'->Q o H'
  | .ex c=>Xw X c H
  | .no=>False
noncomputable def DE (X:Cx) (e:Option Expr) (f:Fo):Prop:=PO X e (zd X f)
structure Z.DE (X:Cx) (e:Option Expr) (f:Fo):Prop where
  un:D2.DE X e f
theorem E3 (Q:Option Int->Hp->Prop):z0 X (fun (r:R (Option Int)) H=>match r with | .ok b=>∀ H',aF H H'->Q b H' | .ex c=>Xw X c H | .no=>False) where
  mono:=fun r H H' h s=>by
    cases r with
    | ok d=>exact fun H2 s2=>h H2 (s.trans s2)
    | ex c=>exact Xw.mono h s
    | no=>exact h
  ex:=fun c H h=>h
  no:=fun H h=>h
theorem o7 {e:Expr} {f:Fe} (h:Z.cY X e f):Z.DE X (some e) (md f):=⟨have h:=h.un;fun pins s σ H Q I q =>
  AY h pins s σ H Q I ((fD (P:=im) (f:=f) (k:=fun _ d=>Fk d>>=fun i=>.ok (some i)) (E3 (X:=X) Q) q).post fun v H1 ⟨_,d,_,_,p,q1⟩=>by
    cases d with
    | int i =>
      have e1:v=.int i:=by simpa only [Rp] using p
      exact ⟨i,e1,q1 H1 (aF.refl _)⟩
    | _=>exact q1.elim)⟩
noncomputable def D4 (f:Fe) (lo hi:Fo):Fe:=fun ρ=>f ρ>>=fun d=>lo ρ>>=fun l=>hi ρ>>=fun u=>zM d l u
theorem xV {β:Type} {Tg:R β->Hp->Prop} {σ:St} {H:Hp} (t:z0 X Tg) {f:Fo} {k:aT->Option Int->R β} (h:∃ ρ,Sl H σ ρ/\Tg (f ρ>>=k ρ) H):zd X f σ H (fun o H1=>∃ ρ,Sl H1 σ ρ/\aF H H1/\Tg (k ρ o) H1):=by
  obtain ⟨ρ,sl,q⟩:=h;refine ⟨ρ,sl,?_⟩;cases e:f ρ with
  | ok d=>rw [e] at q;exact fun H1 s=>⟨ρ,sl.mono s,s,t.mono _ _ _ q s⟩
  | ex c=>rw [e] at q;exact t.ex _ _ q
  | no=>rw [e] at q;exact (t.no _ q).elim
theorem zd.post {f:Fo} {σ:St} {H:Hp} {Q Q':Option Int->Hp->Prop} (h:zd X f σ H Q) (i:∀ b H',Q b H'->Q' b H'):zd X f σ H Q':=by
  obtain ⟨ρ,sl,q⟩:=h;refine ⟨ρ,sl,?_⟩;cases e:f ρ with
  | ok d=>rw [e] at q;exact fun H' s=>i _ _ (q H' s)
  | ex c=>rw [e] at q;exact q
  | no=>rw [e] at q;exact q
theorem ub {lo hi:Option Expr} {fl fh:Fo} (ha:Z.eu X a fa) (hl:Z.DE X lo fl) (hu:Z.DE X hi fh):Z.cY X (.Subscript a (.Slice lo hi none p2) pos) (D4 fa fl fh):=⟨have ha:=ha.un;have hl:=hl.un;have hu:=hu.un;by
  refine zU.e (PE.imp (yU (zj.or (Dg.or (Bc.or Df))) ha hl hu) fun σ H Q h=>?_);refine (fD (P:=ww) (f:=fa) (k:=fun ρ d=>fl ρ>>=fun l=>fh ρ>>=fun u=>zM d l u) (fO (X:=X) Am Q) h).post fun v H1 zq0=>?_
  obtain ⟨ρ1,d1,sl1,_,p1,q1⟩:=zq0;refine (xV (f:=fl) (k:=fun ρ l=>fh ρ>>=fun u=>zM d1 l u) (fO (X:=X) Am Q) ⟨ρ1,sl1,q1⟩).post fun l H2 zq0=>?_
  obtain ⟨ρ2,sl2,s2,q2⟩:=zq0;refine (xV (f:=fh) (k:=fun ρ u=>zM d1 l u) (fO (X:=X) Am Q) ⟨ρ2,sl2,q2⟩).post fun u H3 zq0=>?_
  obtain ⟨ρ3,sl3,s3,q3⟩:=zq0;have p3:gW H3 d1 v:=gW.mono (gW.mono p1 s2) s3;cases d1 with
  | tuple xs =>
    obtain ⟨a',vs,rfl,ha',r⟩:=dJ p3;have hlen:=r.length;by_cases hw:HT.sIx vs.length 0 l=0/\HT.sIx vs.length vs.length u=vs.length
    · refine .inl ⟨a',vs,rfl,iC.of ha',hw,q3 _ H3 (aF.refl _) (.inl ?_)⟩;have e:nF xs l u=xs:=by
        unfold nF;rw [<- hlen,hw.1,hw.2];simp [hlen]
      rw [e];simp only [Rp];exact ⟨a',vs,rfl,ha',r⟩
    · exact .inr (.inl ⟨a',vs,rfl,iC.of ha',hw,fun p hp=>q3 _ _ (cA hp _) (.inl (dX hp (r.cut l u)))⟩)
  | list xs =>
    obtain ⟨a',vs,rfl,ha',r⟩:=fL (K:=X.K) p3;exact .inr (.inr (.inl ⟨a',vs,rfl,ha',fun p hp=>q3 _ _ (cA hp _) (.inr (dW hp (r.cut l u)))⟩))
  | str xx =>
    simp only [zM] at q3;split at q3
    · rename_i hz;exact .inr (.inr (.inr ⟨xx,gx p3,hz,q3 _ H3 (aF.refl _) (.inl (by simp only [Rp]))⟩))
    · exact q3.elim
  | _=>exact q3.elim⟩
noncomputable def FR:PyData->R PyData
  | .tuple xs=>.ok (.tuple xs.reverse)
  | _=>.no
end
section
variable {X:Cx} {a b c:Expr} {fa fb fc:Fe} {pos p2:Pos} {nl:Nat} {G:List Str} {x:Str} {p:Pos}
theorem wI:eJ X (.builtin "len") (fun xs H Q=>∃ a kvs,xs=[V.ref a]/\Rd H a (.dK kvs)/\Q (.int kvs.length) H):=by
  intro pins s σ H xs us Q I r h;obtain ⟨a,kvs,rfl,ha,q⟩:=h;obtain ⟨u,rfl,ru⟩:=il r;cases ru;exact DV I ha fun t s' I'=>⟨.int kvs.length,H,I',⟨t,rfl⟩,q⟩
theorem eF.length {H:Hp}:∀ {kvs:List (PyData×PyData)} {ks:List (dq×V)},eF H kvs ks->ks.length=kvs.length
  | [],ks,h=>by simp only [eF] at h;rw [h];rfl
  | kd::kvs,ks,h=>by
    simp only [eF] at h;obtain ⟨x,v,r,rfl,_,t⟩:=h;rw [List.length_cons,List.length_cons,eF.length t]
noncomputable def dl:PyData->R PyData
  | .list ds=>.ok (.int ds.length)
  | .tuple ds=>.ok (.int ds.length)
  | .dict kvs=>if l4 kvs=true then .no else .ok (.int kvs.length)
  | .str y=>if y.length<=sizeLine then .ok (.int y.length) else .no
  | _=>.no
theorem bY (T:Tb X nl G) (j:Nat) (hG:G[j]?=some ("len" : Str)) (hm:X.mg "len" = none) (ha:Z.eu X a fa) (he:aX a=true:=by rfl):Z.cY X (.Call (.Name "len" p) [a] [] pos) (e1 dl fa):=⟨have ha:=ha.un;by
  refine B1 T j hG hm gt PySem.boot_len (qF.or (qG.or wI)) (fun H x d Q hx q=>?_) ha he;cases d with
  | list ds =>
    obtain ⟨a',vs,rfl,h,r⟩:=fL (K:=X.K) hx;exact .inl ⟨a',vs,rfl,.inl h,by rw [r.length];exact q _ H (aF.refl _) dN⟩
  | tuple ds =>
    obtain ⟨a',vs,rfl,h,r⟩:=dJ hx;exact .inl ⟨a',vs,rfl,.inr (iC.of h),by rw [r.length];exact q _ H (aF.refl _) dN⟩
  | dict kvs =>
    simp only [dl] at q;split at q
    · exact q.elim
    rename_i hi;obtain ⟨a',vs,rfl,h,r⟩:=kW (Bool.not_eq_true _ ▸ hi) hx;exact .inr (.inr ⟨a',vs,rfl,h,by rw [r.length];exact q _ H (aF.refl _) dN⟩)
  | str y =>
    simp only [dl] at q;split at q
    · rename_i hz;exact .inr (.inl ⟨y,by rw [gx hx],hz,q _ H (aF.refl _) dN⟩)
    · exact q.elim
  | _=>exact q.elim⟩
noncomputable def Ai:PyData->R PyData
  | .int i=>.ok (.int i)
  | .bool k=>.ok (.int (if k then 1 else 0))
  | _=>.no
theorem wB (T:Tb X nl G) (j:Nat) (hG:G[j]?=some ("int" : Str)) (hm:X.mg "int" = none) (ha:Z.eu X a fa) (he:aX a=true:=by rfl):Z.cY X (.Call (.Name "int" p) [a] [] pos) (e1 Ai fa):=⟨have ha:=ha.un;by
  refine Dv T j hG hm gt PyProof.Rows.boot_int wH (fun H x d Q hx q=>?_) ha he;cases d with
  | int i=>exact .inl ⟨i,by rw [bX hx],q _ H (aF.refl _) dN⟩
  | bool k=>exact .inr ⟨k,by rw [nE hx],q _ H (aF.refl _) dN⟩
  | _=>exact q.elim⟩
noncomputable def GO:PyData->R PyData
  | .int i=>if i.natAbs.log2 < 1920 then .ok (.str (toString i)) else .no
  | _=>.no
noncomputable def B6:PyData->PyData->R PyData
  | .int i,.int j=>.ok (.int (if j < i then j else i))
  | _,_=>.no
noncomputable def B5:PyData->PyData->R PyData
  | .int i,.int j=>.ok (.int (if j > i then j else i))
  | _,_=>.no
theorem xR (T:Tb X nl G) (j:Nat) (hG:G[j]?=some ("min" : Str)) (hm:X.mg "min" = none) (ha:Z.eu X a fa) (hb:Z.eu X b fb) (he:aX a=true:=by rfl) (he2:aX b=true:=by rfl):Z.cY X (.Call (.Name "min" p) [a,b] [] pos) (e2 B6 fa fb):=⟨have ha:=ha.un;have hb:=hb.un;by
  refine DN T j hG hm gt PyProof.Rows.boot_min (wK T.calm) (fun H x y d e Q hx hy q=>?_) ha hb he he2;cases d with
  | int i =>
    cases e with
    | int j=>exact ⟨i,j,by rw [bX hx,bX hy],q _ H (aF.refl _) dN⟩
    | _=>exact q.elim
  | _=>exact q.elim⟩
theorem xQ (T:Tb X nl G) (j:Nat) (hG:G[j]?=some ("max" : Str)) (hm:X.mg "max" = none) (ha:Z.eu X a fa) (hb:Z.eu X b fb) (he:aX a=true:=by rfl) (he2:aX b=true:=by rfl):Z.cY X (.Call (.Name "max" p) [a,b] [] pos) (e2 B5 fa fb):=⟨have ha:=ha.un;have hb:=hb.un;by
  refine DN T j hG hm gt PyProof.Rows.boot_max (wJ T.calm) (fun H x y d e Q hx hy q=>?_) ha hb he he2;cases d with
  | int i =>
    cases e with
    | int j=>exact ⟨i,j,by rw [bX hx,bX hy],q _ H (aF.refl _) dN⟩
    | _=>exact q.elim
  | _=>exact q.elim⟩
noncomputable def ce:PyData->R PyData
  | .list ds=>.ok (.tuple ds)
  | .tuple ds=>.ok (.tuple ds)
  | _=>.no
theorem bh (T:Tb X nl G) (j:Nat) (hG:G[j]?=some ("tuple" : Str)) (hm:X.mg "tuple" = none) (ha:Z.eu X a fa) (he:aX a=true:=by rfl):Z.cY X (.Call (.Name "tuple" p) [a] [] pos) (e1 ce fa):=⟨have ha:=ha.un;by
  refine Dv T j hG hm gt PyProof.Rows.boot_tuple oY (fun H x d Q hx q=>?_) ha he;cases d with
  | list ds =>
    obtain ⟨a',vs,rfl,h,r⟩:=fL (K:=X.K) hx;exact ⟨a',vs,rfl,.inl ⟨h,fun l hl=>q _ _ (cA hl _) (dX hl r)⟩⟩
  | tuple ds =>
    obtain ⟨a',vs,rfl,h,r⟩:=dJ hx;exact ⟨a',vs,rfl,.inr ⟨iC.of h,q _ H (aF.refl _) (by simp only [Rp];exact ⟨a',vs,rfl,h,r⟩)⟩⟩
  | _=>exact q.elim⟩
noncomputable def ph:PyData->R PyData
  | .list ds=>.ok (.list ds)
  | .tuple ds=>.ok (.list ds)
  | _=>.no
theorem nq (T:Tb X nl G) (j:Nat) (hG:G[j]?=some ("list" : Str)) (hm:X.mg "list" = none) (ha:Z.eu X a fa) (he:aX a=true:=by rfl):Z.oO X (.Call (.Name "list" p) [a] [] pos) (e1 ph fa):=⟨have ha:=ha.un;by
  refine Dv T j hG hm An PyProof.Rows.boot_list qH (fun H x d Q hx q=>?_) ha he;cases d with
  | list ds =>
    obtain ⟨a',vs,rfl,h,r⟩:=fL (K:=X.K) hx;exact ⟨a',vs,rfl,.inl h,fun l hl=>q _ _ (cA hl _) (dW hl r)⟩
  | tuple ds =>
    obtain ⟨a',vs,rfl,h,r⟩:=dJ hx;exact ⟨a',vs,rfl,.inr (iC.of h),fun l hl=>q _ _ (cA hl _) (dW hl r)⟩
  | _=>exact q.elim⟩
inductive Ty where
  | int | bool | str | list | tuple
noncomputable def Ty.nm:Ty->String
  | .int => "int"
  | .bool => "bool"
  | .str => "str"
  | .list => "list"
  | .tuple => "tuple"
noncomputable def Ck:Ty->PyData->Bool
  | .int,.int _=>true
  | .int,.bool _=>true
  | .bool,.bool _=>true
  | .str,.str _=>true
  | .list,.list _=>true
  | .tuple,.tuple _=>true
  | _,_=>false
noncomputable def lH (T:Ty):PyData->R PyData
  | .dict _=>.no
  | d=>.ok (.bool (Ck T d))
theorem xZ:eJ X (.builtin "isinstance") (fun xs H Q=>∃ x t T k,xs=[x,.ty T]/\kN X.K H x t/\PySem.W.kitOne X.K t (.type T)=some k/\Q (.bl k) H):=by
  intro pins s σ H xs us Q I r h;obtain ⟨x,t,T,k,rfl,ty,e,q⟩:=h;obtain ⟨u,w',rfl,rx,ry⟩:=wm r;cases ry;exact w4 I rx ty e fun tk=>⟨.bl k,H,I.tok tk,rfl,q⟩
theorem Fb {K:PySem.W.Frag} {H:Hp} {d:PyData} {v:V} (h:gW H d v):(∃ kvs,d=.dict kvs)\/∃ t,kN K H v t/\∀ T:Ty,PySem.W.kitOne K t (.type T.nm)=some (Ck T d):=by
  cases d with
  | none=>rw [kX h];exact .inr ⟨_,.non,fun T=>by cases T <;> rfl⟩
  | bool k=>rw [nE h];exact .inr ⟨_,.bl k,fun T=>by cases T <;> rfl⟩
  | int i=>rw [bX h];exact .inr ⟨_,.int i,fun T=>by cases T <;> rfl⟩
  | str y=>rw [gx h];exact .inr ⟨_,.str y,fun T=>by cases T <;> rfl⟩
  | tuple ds=>obtain ⟨a,vs,rfl,ha,_⟩:=dJ h;exact .inr ⟨_,.tup ha,fun T=>by cases T <;> rfl⟩
  | list ds =>
    obtain ⟨a,vs,rfl,ha,_⟩:=qE h;rcases ha with ha | ⟨o,ha⟩
    · exact .inr ⟨_,.lst ha,fun T=>by cases T <;> rfl⟩
    · exact .inr ⟨_,.frz ha,fun T=>by cases T <;> rfl⟩
  | dict kvs=>exact .inl ⟨kvs,rfl⟩
theorem ur (ty:Ty) {y:Str} {py:Pos} (T:Tb X nl G) (j:Nat) (hG:G[j]?=some ("isinstance" : Str)) (hm:X.mg "isinstance" = none) (hy:bootBuiltins y=some (.type ty.nm)) (T':Tb X nl G) (j':Nat) (hG':G[j']?=some y) (hm':X.mg y=none) (ha:eu X a fa)
    (he:aX a=true:=by rfl):cY X (.Call (.Name "isinstance" p) [a,.Name y py] [] pos) (e1 (lH ty) fa):=by
  have g:=T.gl _ (List.mem_of_getElem? hG);have g':=T.gl _ (List.mem_of_getElem? hG');have hp:PE X (.Name y py) (tC (.ty ty.nm)):=AQ g'.1 hm' hy rfl g'.2.2 g'.2.1;refine PE.imp (n8 xZ g.1 hm PyProof.Rows.boot_isinstance (qY ha (qY hp yQ) (bq he)) g.2.2 g.2.1 (bq he)) fun σ H Q h=>?_
  refine (fD (P:=ww) (f:=fa) (k:=fun _ d=>lH ty d) (fO (X:=X) gt Q) h).post fun v H1 zq0=>?_
  obtain ⟨_,d,_,_,p1,q1⟩:=zq0;show ∃ x t T k,_/\_/\_/\_;rcases Fb (K:=X.K) p1 with ⟨kvs,rfl⟩ | ⟨t,ht,hk⟩
  · exact q1.elim
  · refine ⟨v,t,ty.nm,Ck ty d,rfl,ht,hk ty,?_⟩;cases d with
    | dict kvs=>exact q1.elim
    | _=>exact q1 _ H1 (aF.refl _) ft
theorem qt {py:Pos} (T:Tb X nl G) (j:Nat) (hG:G[j]?=some ("isinstance" : Str)) (hm:X.mg "isinstance" = none) (T':Tb X nl G) (j':Nat) (hG':G[j']?=some ("int" : Str)) (hm':X.mg "int" = none) (ha:Z.eu X a fa) (he:aX a=true:=by rfl):Z.cY X (.Call (.Name "isinstance" p) [a,.Name "int" py] [] pos) (e1 (lH .int) fa):=⟨have ha:=ha.un;ur .int T j hG hm PyProof.Rows.boot_int T' j' hG' hm' ha he⟩
theorem oW {py:Pos} (T:Tb X nl G) (j:Nat) (hG:G[j]?=some ("isinstance" : Str)) (hm:X.mg "isinstance" = none) (T':Tb X nl G) (j':Nat) (hG':G[j']?=some ("bool" : Str)) (hm':X.mg "bool" = none) (ha:Z.eu X a fa) (he:aX a=true:=by rfl):Z.cY X (.Call (.Name "isinstance" p) [a,.Name "bool" py] [] pos) (e1 (lH .bool) fa):=⟨have ha:=ha.un;ur .bool T j hG hm PyProof.Rows.boot_bool T' j' hG' hm' ha he⟩
theorem jm {py:Pos} (T:Tb X nl G) (j:Nat) (hG:G[j]?=some ("isinstance" : Str)) (hm:X.mg "isinstance" = none) (T':Tb X nl G) (j':Nat) (hG':G[j']?=some ("tuple" : Str)) (hm':X.mg "tuple" = none) (ha:Z.eu X a fa) (he:aX a=true:=by rfl):Z.cY X (.Call (.Name "isinstance" p) [a,.Name "tuple" py] [] pos) (e1 (lH .tuple) fa):=⟨have ha:=ha.un;ur .tuple T j hG hm PyProof.Rows.boot_tuple T' j' hG' hm' ha he⟩
noncomputable def qv:List PyData->Option Bool
  | []=>some true
  | .bool k::ds=>(qv ds).map fun r=>k&&r
  | _=>none
noncomputable def si:PyData->R PyData
  | .list ds=>match qv ds with
    | some k=>.ok (.bool k)
    | none=>.no
  | _=>.no
end
section
variable {X:Cx} {tg a b c:Expr} {fa fb fc:Fe} {pos p2:Pos} {nl:Nat} {G:List Str} {x:Str} {p:Pos} {fs:aT->R (List PyData)} {es:List Expr}
noncomputable def iX:PyData->R (List PyData)
  | .list ds=>.ok ds
  | .tuple ds=>.ok ds
  | _=>.no
noncomputable def eI (f:Fe):aT->R (List PyData):=fun ρ=>f ρ>>=iX
theorem yt {K:PySem.W.Frag} {a:Addr} {ds:List PyData}:zJ (FE K a) (fun H=>∃ o vs,H a=some (.frz o (.lst vs))/\bx H ds vs) ds where
  go:=fun i H ⟨o,vs,h,r⟩ hi=>by
    have hl:=r.length;exact ⟨vs,vs[i],.inl (.inr ⟨o,h⟩),List.getElem?_eq_getElem (by omega)⟩
  yld:=fun i H x H' d ⟨o,vs,h,r⟩ hd ⟨e,y⟩=>by
    subst e;obtain ⟨v,e1,p⟩:=r.get hd;have:=y vs (.inl (.inr ⟨o,h⟩));rw [e1] at this;cases this;exact ⟨aF.refl _,p⟩
  stop:=fun i H ⟨o,vs,h,r⟩ hi=>⟨vs,.inl (.inr ⟨o,h⟩),by rw [r.length];exact hi⟩
theorem Az {K:PySem.W.Frag} {a:Addr} {ds:List PyData}:zJ (FF K a) (fun H=>∃ vs,H a=some (.tup vs)/\bx H ds vs) ds where
  go:=fun i H ⟨vs,h,r⟩ hi=>by
    have hl:=r.length;exact ⟨vs,vs[i],iC.of h,List.getElem?_eq_getElem (by omega)⟩
  yld:=fun i H x H' d ⟨vs,h,r⟩ hd ⟨e,y⟩=>by
    subst e;obtain ⟨v,e1,p⟩:=r.get hd;have:=y vs (iC.of h);rw [e1] at this;cases this;exact ⟨aF.refl _,p⟩
  stop:=fun i H ⟨vs,h,r⟩ hi=>⟨vs,iC.of h,by rw [r.length];exact hi⟩
noncomputable def GS (K:PySem.W.Frag) (tl:TE):TI:=fun σ H R=>tl σ H fun x H1=>∃ a,x=.ref a/\((∃ xs,mY K H1 a xs/\R (FE K a) H1)\/∃ xs,iC K H1 a xs/\R (FF K a) H1)
theorem Es {l:Expr} {tl:TE} (hl:PE X l tl):PI X tg l (GS X.K tl):=by
  intro pins s σ H R I h;refine dm (hl pins s σ H _ I h) fun v s1 zq0=>?_
  obtain ⟨x,H1,I1,r1,q1⟩:=zq0;obtain ⟨a,e,q⟩:=q1;subst e;cases r1;rcases q with ⟨xs,hq,q⟩ | ⟨xs,hq,q⟩
  · obtain ⟨its,rv,p,hz⟩:=I1.list hq;refine wpAny_pyIter_list p.isList ?_;refine ⟨s1.heap.objs.size,[s1.heap.objs.size],_,_,H1,rfl,I1.kept (t':=s1.toks) fun b o e=>Heap.get?_push_of_some _ e,xA a _,⟨_,Heap.get?_push_size _ rfl,rfl,rfl⟩,fun b hb=>?_,q⟩;have e:b=s1.heap.objs.size:=by simpa using hb
    subst e;exact I1.fpOk (Nat.le_refl _) (I1.hok.fresh (Nat.le_refl _))
  · obtain ⟨its,rv,p,hz⟩:=I1.tuple hq;refine wpAny_pyIter_tuple (show s1.heap.IsTuple a its.toArray from p) ?_;refine ⟨s1.heap.objs.size,[s1.heap.objs.size],_,_,H1,rfl,I1.kept (t':=s1.toks) fun b o e=>Heap.get?_push_of_some _ e,u6 a _,⟨_,Heap.get?_push_size _ rfl,rfl,rfl⟩,fun b hb=>?_,q⟩;have e:b=s1.heap.objs.size:=by simpa using hb
    subst e;exact I1.fpOk (Nat.le_refl _) (I1.hok.fresh (Nat.le_refl _))
theorem E2 (Rk:It->Hp->Prop):z0 X (fun (r:R (List PyData)) H=>match r with | .ok ds=>∀ J H',aF H H'->(∃ Gd,zJ J Gd ds/\Fh H' (fun _=>False) Gd)->Rk J H' | .ex c=>Xw X c H | .no=>False) where
  mono:=fun r H H' h s=>by
    cases r with
    | ok d=>exact fun J H2 s2=>h J H2 (s.trans s2)
    | ex c=>exact Xw.mono h s
    | no=>exact h
  ex:=fun c H h=>h
  no:=fun H h=>h
theorem bF (ha:Z.cY X a fa):Z.tz X tg a (eI fa):=⟨have ha:=ha.un;PI.imp (Es ha) fun σ H Rk h=>(fD (P:=im) (f:=fa) (k:=fun _=>iX) (E2 (X:=X) Rk) h).post fun v H1 ⟨_,d,_,_,p1,q1⟩=>by
    cases d with
    | list ds =>
      simp only [Rp] at p1;obtain ⟨a',o,vs,rfl,h,r⟩:=p1;exact ⟨a',rfl,.inl ⟨vs,.inl (.inr ⟨o,h⟩),q1 _ H1 (aF.refl _) ⟨_,yt,fun H2 k _=>⟨o,vs,k.2 _ _ _ h,bx.kp k _ _ r⟩⟩⟩⟩
    | tuple ds =>
      simp only [Rp] at p1;obtain ⟨a',vs,rfl,h,r⟩:=p1;exact ⟨a',rfl,.inr ⟨vs,iC.of h,q1 _ H1 (aF.refl _) ⟨_,Az,fun H2 k _=>⟨vs,k.1 _ _ h,bx.kp k _ _ r⟩⟩⟩⟩
    | _=>exact q1.elim⟩
noncomputable def bL (lo:Int) (n:Nat):List PyData:=(List.range n).map fun (k:Nat)=>.int (lo+k)
noncomputable def lh:List PyData->R (List PyData)
  | [.int j]=>if -(2 ^ 62)<=j/\j < 2 ^ 62 then .ok (bL 0 j.toNat) else .no
  | [.int i,.int j]=>if -(2 ^ 62)<=i/\i < 2 ^ 62/\-(2 ^ 62)<=j/\j < 2 ^ 62 then .ok (bL i (j-i).toNat) else .no
  | _=>.no
noncomputable def gN (fs:aT->R (List PyData)):aT->R (List PyData):=fun ρ=>fs ρ>>=lh
theorem w5 {lo:Int} {n:Nat}:zJ (Fd lo n) (fun _=>True) (bL lo n) where
  go:=fun i H _ hi=>by
    show i < n;simpa [bL] using hi
  yld:=fun i H x H' d _ hd ⟨e,y⟩=>by
    subst e;subst y;refine ⟨aF.refl _,?_⟩;unfold bL at hd;rw [List.getElem?_map] at hd;cases h:(List.range n)[i]? with
    | none=>rw [h] at hd;cases hd
    | some k =>
      rw [h] at hd;have hk:k=i:=by
        rw [List.getElem?_range] at h
        · exact (Option.some.inj h).symm
        · have:=(List.getElem?_eq_some_iff.mp h).1;simpa using this
      subst hk;cases hd;exact dN
  stop:=fun i H _ hi=>by
    show n<=i;simpa [bL] using hi
theorem dR (T:Tb X nl G) (j:Nat) (hG:G[j]?=some ("range" : Str)) (hm:X.mg "range" = none) (ha:Z.tx X [a] fs) (hl:∀ ρ ds,fs ρ=.ok ds->ds.length=1) (hs:aX a=true:=by rfl):Z.tz X tg (.Call (.Name "range" p) [a] [] pos) (gN fs):=⟨have ha:=ha.un;PI.imp (xk (T.gl _ (List.mem_of_getElem? hG)).1 hm ha (bq hs)) fun σ H Rk ⟨ρ,sl,q⟩=>by
    refine ⟨ρ,sl,?_⟩;dsimp only [gN] at q;cases e:fs ρ with
    | ex c=>rw [e] at q;exact q
    | no=>rw [e] at q;exact q
    | ok ds =>
      rw [e] at q;have hlen:=hl ρ ds e;intro vs H1 s1 r1
      match ds,hlen with
      | [d],_ =>
        simp only [RA] at r1;obtain ⟨v,r',rfl,p1,rfl⟩:=r1;cases d with
        | int j =>
          have ev:v=.int j:=by simpa only [Rp] using p1
          subst ev;by_cases hz:-(2 ^ 62)<=j/\j < 2 ^ 62
          · have e2:lh [.int j]=.ok (bL 0 j.toNat):=if_pos hz;rw [R.ok_bind,e2] at q;exact ⟨j,rfl,hz.1,hz.2,q _ H1 s1 ⟨_,w5,fun _ _ _=>True.intro⟩⟩
          · have e2:lh [.int j]=.no:=if_neg hz;rw [R.ok_bind,e2] at q;exact q.elim
        | _=>exact q.elim⟩
end
noncomputable def ux (x:Int):List Int->List Int
  | []=>[x]
  | y::r=>if x<=y then x::y::r else y::ux x r
noncomputable def dH:List Int->List Int
  | []=>[]
  | x::r=>ux x (dH r)
theorem lK (x:Int):∀ l,(ux x l).Perm (x::l)
  | []=>List.Perm.refl _
  | y::r=>by
    unfold ux;split
    · exact List.Perm.refl _
    · exact ((lK x r).cons y).trans (List.Perm.swap x y r)
theorem dE:∀ l,(dH l).Perm l
  | []=>List.Perm.refl _
  | x::r=>(lK x (dH r)).trans ((dE r).cons x)
theorem l0 (x:Int):∀ l,l.Pairwise (·<=·)->(ux x l).Pairwise (·<=·)
  | [],_=>by unfold ux;exact List.pairwise_singleton _ _
  | y::r,h=>by
    have h':=List.pairwise_cons.mp h;unfold ux;split
    · rename_i hxy;refine List.pairwise_cons.mpr ⟨fun z hz=>?_,h⟩;rcases List.mem_cons.mp hz with rfl | hz
      · exact hxy
      · exact Int.le_trans hxy (h'.1 z hz)
    · rename_i hxy;refine List.pairwise_cons.mpr ⟨fun z hz=>?_,l0 x r h'.2⟩;rcases List.mem_cons.mp ((lK x r).mem_iff.mp hz) with rfl | hz
      · omega
      · exact h'.1 z hz
theorem gj:∀ l,(dH l).Pairwise (·<=·)
  | []=>List.Pairwise.nil
  | x::r=>l0 x _ (gj r)
theorem s9 {a b:List Int} (hp:a.Perm b) (hs:a.Pairwise (·<=·)):a=dH b:=PySem.W.ksm_same (hp.trans (dE b).symm) hs (gj b)
section
variable {prog:Program} {w:World} {A:Around} {E:Value->Shared->Prop} {s:Shared}
theorem tf {d:Addr} {kvs:List (dq×Value)} {ns:List Int} {Q:Value->Shared->Prop} (hh:A.handled=none) (lo:(d==sysModules)=false) (hd:s.heap.DictOf (dC prog w) d kvs) (hk:kvs.map (·.1)=ns.map Sum.inl) (h64:ns.length < 64)
    (h:∀ (D:Addr) (h':Heap) (tk:Nat) (vs:List Value) (e:Nat),s.heap.get? D=none->(∀ b o,s.heap.get? b=some o->h'.get? b=some o)->h'.get? D=some (seqObj "list" vs.toArray e)->IntsAre vs (dH ns)->Q (.ref D) { s with heap:=h',toks:=tk }) :
    wpAny (model prog w) A (call (.builtin "sorted") [.ref d]) Q E s:=by
  obtain ⟨ep,hat⟩:=hd.dictAt;have hlen:kvs.length=ns.length:=by have:=congrArg List.length hk;simpa using this
  have hn:kvs.length<=sizeLine:=by rw [sizeLine_eq];omega
  refine Calls.call_function_entry kind_sorted plain_sorted entry_sorted (args_sorted1 _) ?_;unfold Builtin.«sorted»;refine wpAny_bind (m:=checkCount "sorted" 1 1 _) (wpAny_pure ?_);refine wpAny_bind (PySem.W.kdu_collect (A:=A.in1) (PySem.W.kdl_dict (knd:=dC prog w) (kvs:=kvs) (ep:=ep) lo) hh hat hn fun h1 tk acc hk1 hacc=>?_);have hl:acc.toList.length=kvs.length:=by rw [Array.length_toList];exact hacc.1
  have hI:IntsAre acc.toList ns:=by
    have key:∀ (l:List Value) (ms:List Int) (k:Nat),l.length=ms.length->(∀ (j:Nat) (v:Value),l[j]?=some v->∃ n:Int,ms[j]?=some n/\∃ t,v=Value.int n t)->IntsAre l ms:=by
      intro l;induction l with
      | nil=>intro ms k e _;have:ms=[]:=List.length_eq_zero_iff.mp e.symm;subst this;exact .nil
      | cons v r ih =>
        intro ms k e hv;cases ms with
        | nil=>cases e
        | cons n ms =>
          obtain ⟨n',e1,t,rfl⟩:=hv 0 v rfl;have:n=n':=Option.some.inj e1;subst this;exact .cons n t (ih ms (k+1) (by simpa using e) fun j u hu=>hv (j+1) u (by simpa using hu))
    refine key acc.toList ns 0 (by rw [hl,hlen]) fun j v hv=>?_
    obtain ⟨κ,x,hx,his⟩:=hacc.2 j v (by rw [<- Array.getElem?_toList];exact hv);have e1:(kvs.map (·.1))[j]?=some κ:=by rw [List.getElem?_map,hx];rfl
    rw [hk,List.getElem?_map] at e1;cases e2:ns[j]? with
    | none=>rw [e2] at e1;cases e1
    | some n =>
      rw [e2] at e1;have e3:Sum.inl n=κ:=Option.some.inj e1;subst e3;rcases cN (show nW (Sum.inl n) v=true from his) with ⟨i,t,e4,e5⟩ | ⟨y,t,e4,_⟩
      · cases e4;exact ⟨n,rfl,t,e5⟩
      · cases e4
  refine wpAny_bind (wpAny_newList ?_ (by rw [hl];exact hn));have hoL:(h1.push (seqObj "list" acc.toList.toArray 0)).get? h1.objs.size=some (seqObj "list" acc.toList.toArray 0):=Heap.get?_push_size _ rfl;show wpAny _ _ _ _ _ { s with heap:=h1.push (seqObj "list" acc.toList.toArray 0),toks:=tk };refine wpAny_bind (wpAny_holding (wpAny_call_entry slot_list_sort ⟨_,hoL,rfl⟩ entry_list_sort (list_sort_tree hoL hI (by rw [hl,hlen];exact h64) fun out ns' a1 a2 a3=>⟨_,rfl,?_⟩) (args_list_sort _)));refine wpAny_pure ⟨_,rfl,?_⟩;obtain ⟨e,he⟩:=sortedHeap_at (out:=out) hoL;have hsz:s.heap.get? h1.objs.size=none:=by
    cases q:s.heap.get? h1.objs.size with
    | none=>rfl
    | some o=>exact absurd (Heap.lt_size (hk1 _ _ q)) (Nat.lt_irrefl _)
  refine h h1.objs.size _ tk out.toList e hsz (fun b o q=>?_) he (by rw [s9 a2 a3] at a1;exact a1);have q1:=hk1 b o q;have hlt:b < h1.objs.size:=Heap.lt_size q1;show (sortedHeap (h1.push (seqObj "list" acc.toList.toArray 0)) h1.objs.size acc.toList out).get? b=some o;rw [sortedHeap_old (Nat.ne_of_lt hlt) (by rw [size_push'];exact Nat.lt_succ_of_lt hlt)];exact Heap.get?_push_of_some _ q1
end
theorem Bj {fs ex:List Addr} {H:Hp} {h h':Heap} {a:Addr} {o:HO} (k:∀ b u,h.get? b=some u->h'.get? b=some u) (hg:h.get? a=none) (hn:H a=none):Un fs ex H (cP H a o) h h':=by
  have ne:∀ {b:Addr} {u:Obj},h.get? b=some u->b≠a:=fun e z=>by subst z;rw [hg] at e;cases e
  exact ⟨fun b u q _ _ _=>k b u q,fun b u q _ _ _=>⟨u.slots,k b u q⟩,fun b u q n _=>by rw [av (ne q)];exact n,fun b u q _=>⟨u,k b u q⟩,fun b xs q=>by rw [av (aW q hn)];exact q,fun b u xs q=>by rw [av (aW q hn)];exact q,
    fun b ps q=>⟨#[],by rw [av (aW q hn),q];simp⟩⟩
theorem sE {X:Cx} {pins:List (Addr×Obj)} {σ:St} {H:Hp} {s:Shared} {h':Heap} {a:Addr} {o:HO} {t':Nat} (I:aL X pins σ H s) (k:∀ b u,s.heap.get? b=some u->h'.get? b=some u) (hg:s.heap.get? a=none) (hn:H a=none)
    (new:bV X.prog X.w (cP H a o) h' a o):aL X pins σ (cP H a o) { s with heap:=h',toks:=t' }:=by
  refine I.un (Bj k hg hn) fun b u e=>?_
  by_cases hb:b=a
  · subst hb;rw [bd] at e;cases e;exact new
  · rw [av hb] at e;exact (I.hok b u e).stay (fun c v _ q=>k c v q) (fun c q=>by rw [av (aW q hn)];exact q) fun c xs q=>by rw [av (aW q hn)];exact q
theorem sF {X:Cx} {pins:List (Addr×Obj)} {σ:St} {H:Hp} {s:Shared} {a:Addr} (I:aL X pins σ H s) (hg:s.heap.get? a=none):H a=none:=by
  cases q:H a with
  | none=>rfl
  | some o=>obtain ⟨u,e⟩:=qV (I.hok a o q);rw [hg] at e;cases e
section
variable {X:Cx} {a b c:Expr} {fa fb fc:Fe} {pos p2:Pos} {nl:Nat} {G:List Str} {x:Str} {p:Pos}
noncomputable def du:List PyData->Option (List Int)
  | []=>some []
  | .int i::ds=>(du ds).map fun r=>i::r
  | _=>none
theorem iK:∀ {ds:List PyData} {ns:List Int},du ds=some ns->ds=ns.map PyData.int
  | [],ns,h=>by cases h;rfl
  | d::ds,ns,h=>by
    cases d with
    | int i =>
      simp only [du] at h;cases e:du ds with
      | none=>rw [e] at h;cases h
      | some r =>
        rw [e] at h;cases h;rw [List.map_cons,iK e]
    | _=>cases h
theorem jq:∀ ns:List Int,du (ns.map PyData.int)=some ns
  | []=>rfl
  | n::ns=>by simp only [List.map_cons,du,jq ns,Option.map_some]
noncomputable def iG:PyData->R PyData
  | .list ds=>match du ds with
    | some ns=>if ns.length < 64 then .ok (.list ((dH ns).map PyData.int)) else .no
    | none=>.no
  | .dict kvs=>match du (kvs.map (·.1)) with
    | some ns=>if ns.length < 64 then .ok (.list ((dH ns).map PyData.int)) else .no
    | none=>.no
  | _=>.no
noncomputable def CZ (K:PySem.W.Frag):List V->Hp->VK->Prop:=fun xs H Q=>∃ p ns,xs=[.ref p]/\mY K H p (ns.map V.int)/\ns.length < 64/\∀ l,H l=none->Q (.ref l) (cP H l (.lst ((dH ns).map V.int)))
noncomputable def CY:List V->Hp->VK->Prop:=fun xs H Q=>∃ p ks ns,xs=[.ref p]/\Rd H p (.dK ks)/\ks.map (·.1)=ns.map Sum.inl/\ns.length < 64/\∀ l,H l=none->Q (.ref l) (cP H l (.lst ((dH ns).map V.int)))
theorem jR (ns:List Int):(dH ns).length=ns.length:=(dE ns).length_eq
theorem uf:eJ X (.builtin "sorted") (CZ X.K):=by
  intro pins s σ H xs us Q I r h;obtain ⟨p,ns,rfl,hq,h64,q⟩:=h;obtain ⟨u,rfl,rx⟩:=il r;cases rx;obtain ⟨its,rv,pl,hz⟩:=I.list hq;have hI:IntsAre its ns:=uy rv;have hl:=IntsAre.length hI;refine sorted_ints pl.isList hI (by omega) fun out ns' a1 a2 a3=>?_
  rw [s9 a2 a3] at a1;obtain ⟨e,he⟩:=sortedAll_at s.heap its out;refine ⟨.ref (s.heap.objs.size+1),_,I.laid (t':=s.toks) (o:=.lst ((dH ns).map V.int)) (fun b o e=>sortedAll_old e) (Nat.le_succ _) ⟨?_,out.toList,e,jS a1,by simpa [seqObj] using he⟩,rfl,q _ (I.hok.fresh (Nat.le_succ _))⟩;rw [List.length_map,jR,sizeLine_eq];omega
theorem ue (hc:X.calm=true):eJ X (.builtin "sorted") CY:=by
  intro pins s σ H xs us Q I r h;obtain ⟨p,ks,ns,rfl,hq,hk,h64,q⟩:=h;obtain ⟨u,rfl,rx⟩:=il r;cases rx;obtain ⟨hz,hlo,vs,kv,hd⟩:=nH I.hok hq;refine tf (I.ok.hd hc) hlo hd (by rw [<- kv.keys];exact hk) h64 fun D h' tk vs' e hg kp hD hI=>?_
  have hn:=sF I hg;refine ⟨.ref D,_,sE (t':=tk) (o:=.lst ((dH ns).map V.int)) I kp hg hn ⟨?_,vs',e,jS hI,by simpa [seqObj] using hD⟩,rfl,q _ hn⟩;rw [List.length_map,jR,sizeLine_eq];omega
theorem sX:∀ {H:Hp} {ns:List Int} {vs:List V},bx H (ns.map PyData.int) vs->vs=ns.map V.int
  | H,[],vs,r=>by rw [List.map_nil] at r;rw [r.nil_inv];rfl
  | H,n::ns,vs,r=>by
    rw [List.map_cons] at r;obtain ⟨v,r',rfl,p,t⟩:=r.cons_inv;have:v=.int n:=by simpa only [Rp] using p
    rw [this,sX t];rfl
theorem sY:∀ {H:Hp} {kvs:List (PyData×PyData)} {ks:List (dq×V)},eF H kvs ks->kvs.map (·.1)=ks.map fun k=>fU k.1
  | H,[],ks,r=>by simp only [eF] at r;rw [r];rfl
  | H,(k,d)::kvs,ks,r=>by
    simp only [eF,zK] at r;obtain ⟨x,v,r',rfl,⟨e,_⟩,t⟩:=r;rw [List.map_cons,List.map_cons,sY t,e]
theorem pG:∀ {ks:List (dq×V)} {ns:List Int},(ks.map fun k=>fU k.1)=ns.map PyData.int->ks.map (·.1)=ns.map Sum.inl
  | [],[],_=>rfl
  | [],_::_,h=>by cases h
  | _::_,[],h=>by cases h
  | (k,v)::ks,n::ns,h=>by
    rw [List.map_cons,List.map_cons] at h;injection h with h1 h2
    rw [List.map_cons,List.map_cons,pG h2];cases k with
    | inl i=>simp only [fU] at h1;cases h1;rfl
    | inr y=>simp only [fU] at h1;cases h1
theorem kS (T:Tb X nl G) (j:Nat) (hG:G[j]?=some ("sorted" : Str)) (hm:X.mg "sorted" = none) (ha:Z.eu X a fa) (he:aX a=true:=by rfl):Z.oO X (.Call (.Name "sorted" p) [a] [] pos) (e1 iG fa):=⟨have ha:=ha.un;by
  refine B1 T j hG hm An PyProof.Rows.boot_sorted (uf.or (ue T.calm)) (fun H x d Q hx q=>?_) ha he;cases d with
  | list ds =>
    simp only [iG] at q;cases ei:du ds with
    | none=>rw [ei] at q;exact q.elim
    | some ns =>
      rw [ei] at q;dsimp only at q;by_cases h64:ns.length < 64
      · rw [if_pos h64] at q;obtain ⟨a',vs,rfl,h,r⟩:=fL (K:=X.K) hx;rw [iK ei] at r;rw [sX r] at h;exact .inl ⟨a',ns,rfl,h,h64,fun l hl=>q _ _ (cA hl _) (dW hl (bx.ints _))⟩
      · rw [if_neg h64] at q;exact q.elim
  | dict kvs =>
    simp only [iG] at q;cases ei:du (kvs.map (·.1)) with
    | none=>rw [ei] at q;exact q.elim
    | some ns =>
      rw [ei] at q;dsimp only at q;by_cases h64:ns.length < 64
      · rw [if_pos h64] at q;have hi:l4 kvs=false:=by
          cases kvs with
          | nil=>rfl
          | cons kd kvs =>
            obtain ⟨k,d⟩:=kd;cases k <;> first | rfl | (simp [du] at ei)
        obtain ⟨a',ks,rfl,h,r⟩:=kW hi hx;have hk:=pG ((sY r).symm.trans (iK ei));exact .inr ⟨a',ks,ns,rfl,h,hk,h64,fun l hl=>q _ _ (cA hl _) (dW hl (bx.ints _))⟩
      · rw [if_neg h64] at q;exact q.elim
  | _=>exact q.elim⟩
theorem wF (hc:X.calm=true):eJ X (.builtin "all") (fun xs H Q=>∃ (p:Addr) (bs:List Bool),xs=[.ref p]/\mY X.K H p (bs.map V.bl)/\Q (.bl (bs.all id)) H):=by
  intro pins s σ H xs us Q I r h;obtain ⟨p,bs,rfl,hq,q⟩:=h;obtain ⟨u,rfl,rx⟩:=il r;cases rx;obtain ⟨its,rv,pl,hz⟩:=I.list hq;have hh:X.A.in1.handled=none:=I.ok.hd hc;have hlt:p≠s.heap.objs.size:=by obtain ⟨o,e,_⟩:=pl.isList;exact Nat.ne_of_lt (Heap.lt_size e)
  have hits:its=bs.map Value.bool:=by
    have key:∀ (bs:List Bool) (us:List Value),bA (bs.map V.bl) us->us=bs.map Value.bool:=by
      intro bs;induction bs with
      | nil=>intro us r;cases r;rfl
      | cons k bs ih=>intro us r;rw [List.map_cons] at r;cases r with | cons r1 r2=>rw [ih _ r2];cases r1;rfl
    exact key bs its rv
  refine call_all_walk (wpAny_pyIter_list pl.isList ?_);refine ⟨s.heap.objs.size,_,_,its.toArray.size,_,_,fun i=>(bs[i]?).getD true,rfl,Walks.list hh s.heap.objs.size p hlt its.toArray,⟨⟨_,Heap.get?_push_size _ rfl,rfl,rfl⟩,?_⟩,fun i v s' Q' E' hv hQ'=>?_,fun h' tk kp=>?_⟩
  · obtain ⟨o,e,r'⟩:=pl.isList;exact ⟨o,Heap.get?_push_of_some _ e,r'⟩
  · have hv':its[i]?=some v:=by simpa using hv
    rw [hits,List.getElem?_map] at hv';cases e:bs[i]? with
    | none=>rw [e] at hv';cases hv'
    | some k =>
      rw [e] at hv';cases hv';dsimp only at hQ';rw [e] at hQ';exact wpAny_truthy_bool hQ'
  · have e:((List.range its.toArray.size).all fun i=>(bs[i]?).getD true)=bs.all id:=by
      rw [List.size_toArray,hits,List.length_map];have key:∀ (l:List Bool),((List.range l.length).all fun i=>(l[i]?).getD true)=l.all id:=by
        intro l;induction l with
        | nil=>rfl
        | cons k l ih =>
          rw [List.length_cons,List.range_succ_eq_map,List.all_cons,List.all_map,List.all_cons,<- ih];rfl
      exact key bs
    rw [e];refine ⟨.bl (bs.all id),H,I.kept (t':=tk) fun b o g=>kp b o (fun z=>?_) (Heap.get?_push_of_some _ g),rfl,q⟩;rw [List.mem_singleton.mp z] at g;exact absurd (Heap.lt_size g) (Nat.lt_irrefl _)
theorem rZ:∀ {ds:List PyData} {k:Bool},qv ds=some k->∃ bs:List Bool,ds=bs.map PyData.bool/\k=bs.all id
  | [],k,h=>by cases h;exact ⟨[],rfl,rfl⟩
  | d::ds,k,h=>by
    cases d with
    | bool j =>
      simp only [qv] at h;cases e:qv ds with
      | none=>rw [e] at h;cases h
      | some r =>
        rw [e] at h;cases h;obtain ⟨bs,e1,e2⟩:=rZ e;exact ⟨j::bs,by rw [e1];rfl,by rw [e2];rfl⟩
    | _=>cases h
theorem pM:∀ {H:Hp} {ns:List Bool} {vs:List V},bx H (ns.map PyData.bool) vs->vs=ns.map V.bl
  | H,[],vs,r=>by rw [List.map_nil] at r;rw [r.nil_inv];rfl
  | H,n::ns,vs,r=>by
    rw [List.map_cons] at r;obtain ⟨v,r',rfl,p,t⟩:=r.cons_inv;have:v=.bl n:=by simpa only [Rp] using p
    rw [this,pM t];rfl
theorem nh (T:Tb X nl G) (j:Nat) (hG:G[j]?=some ("all" : Str)) (hm:X.mg "all" = none) (ha:Z.eu X a fa) (he:aX a=true:=by rfl):Z.cY X (.Call (.Name "all" p) [a] [] pos) (e1 si fa):=⟨have ha:=ha.un;by
  refine B1 T j hG hm gt PyProof.Rows.boot_all (wF T.calm) (fun H x d Q hx q=>?_) ha he;cases d with
  | list ds =>
    simp only [si] at q;cases ei:qv ds with
    | none=>rw [ei] at q;exact q.elim
    | some k =>
      rw [ei] at q;obtain ⟨bs,e1,e2⟩:=rZ ei;obtain ⟨a',vs,rfl,h,r⟩:=fL (K:=X.K) hx;rw [e1] at r;rw [pM r] at h;refine ⟨a',bs,rfl,h,?_⟩;rw [<- e2];exact q _ H (aF.refl _) ft
  | _=>exact q.elim⟩
end
section
variable {X:Cx} {a b c:Expr} {fa fb fc:Fe} {pos p2:Pos} {nl:Nat} {G:List Str} {x:Str} {p:Pos}
theorem iB.change {Fm H:Hp} {σ:St} {ρ:aT} {i:Nat} {d d':PyData} {a:Addr} {u u':HO} (h:iB Fm H σ ρ) (h1:ρ[i]?=some (.own d)) (h2:σ[i]?=some (some (.ref a))) (hu:H a=some u) (hm:(∃ xs,u=.lst xs)\/∃ ks,u=.dK ks)
    (hr:iA (cP H a u') d' (.ref a)):iB Fm (cP H a u') σ (ρ.set i (.own d')):=by
  have hFa:=h.own i d a h1 h2;have kp:Kp H (cP H a u'):=fV hu hm;have at_i:∀ (j:Nat) (e:PyData),(ρ.set i (.own d'))[j]?=some (.own e)->∃ e0,ρ[j]?=some (.own e0):=fun j e q=>by
    rw [List.getElem?_set] at q;by_cases hij:i=j
    · subst hij;exact ⟨d,h1⟩
    · rw [if_neg hij] at q;exact ⟨e,q⟩
  refine ⟨fun b x e=>?_,⟨by rw [List.length_set];exact h.sl.1,fun j c w' e1 e2=>?_⟩,fun j e b e1 e2=>?_,fun j k e f b e1 e2 e3 e4=>?_⟩
  · rw [av (aW e hFa)];exact h.fm b x e
  · rw [List.getElem?_set] at e1;by_cases hij:i=j
    · subst hij;rw [if_pos rfl] at e1;split at e1
      · cases e1;rw [h2] at e2;cases e2;exact ⟨_,rfl,hr⟩
      · cases e1
    · rw [if_neg hij] at e1;have q:=h.sl.2 j c w' e1 e2;cases c with
      | exc p=>exact q
      | non=>exact True.intro
      | val d1=>obtain ⟨v,z1,z2⟩:=q;exact ⟨v,z1,Rp.kp kp _ _ z2⟩
      | own d1 =>
        obtain ⟨v,z1,z2⟩:=q;subst z1;obtain ⟨b,ob,rfl,hb⟩:=qW z2;have nb:b≠a:=fun z=>hij (by subst z;exact h.apart i j d d1 b h1 e1 h2 e2)
        refine ⟨_,rfl,?_⟩;cases d1 <;> simp only [iA] at z2 ⊢
        · obtain ⟨b',vs,e,hb',r⟩:=z2;cases e;exact ⟨b,vs,rfl,by rw [av nb];exact hb',bx.kp kp _ _ r⟩
        · obtain ⟨b',vs,e,hb',r⟩:=z2;cases e;exact ⟨b,vs,rfl,by rw [av nb];exact hb',eF.kp kp _ _ r⟩
  · obtain ⟨e0,q⟩:=at_i j e e1;exact h.own j e0 b q e2
  · obtain ⟨e0,q⟩:=at_i j e e1;obtain ⟨f0,q'⟩:=at_i k f e2;exact h.apart j k e0 f0 b q q' e3 e4
noncomputable def A9 (i:Nat) (fk fv:Fe):Fs:=fun ρ=>fv ρ>>=fun v=>lc (fk ρ)>>=fun k=>match ρ[i]? with
  | some (.own (.dict kvs))=>match hR k with
    | some _=>if kvs.length < sizeLine then .ok (.nx (ρ.set i (.own (.dict (uO kvs k v))))) else .no
    | none=>.no
  | _=>.no
theorem w9 {k:PyData} {κ:dq} (h:hR k=some κ):k=fU κ:=by
  cases k <;> simp only [hR] at h <;> cases h <;> rfl
theorem Db {H:Hp} {κ:dq} {y:V} (h:Rp H (fU κ) y):y=kV κ:=by
  cases κ <;> simp only [fU,Rp] at h <;> exact h
theorem xP {k v:Expr} {fk fv:Fe} {q1 q2 q3:Pos} (T:Tb X nl G) (n:Nat) (hN:X.N[n]?=some x) (hk:Z.cY X k fk) (hv:Z.cY X v fv) (hs:swapsWith v (some (.Subscript (.Name x q1) k q2)) q3.line X.env=pure false:=by rfl):Z.kI X (.Assign [.Subscript (.Name x q1) k q2] v q3) (A9 n fk fv):=⟨have hk:=hk.un;have hv:=hv.un;fun Fm=>by
  have hm:=T.vis x (List.mem_of_getElem? hN);refine PS.imp (AZ (by have:=T.hu;omega) (kz hN hm.1 hm.2.1 hm.2.2) hk hv hs) fun D σ H h=>?_
  refine (nD (P:=im) (f:=fv) (k:=fun ρ v=>lc (fk ρ)>>=fun k=>match ρ[n]? with
    | some (.own (.dict kvs))=>match hR k with
      | some _=>if kvs.length < sizeLine then .ok (.nx (ρ.set n (.own (.dict (uO kvs k v))))) else .no
      | none=>.no
    | _=>.no) h).post fun vv H1 ⟨ρ1,dv,sl1,_,p1,q1⟩=>?_
  have sl0:BE X Fm (fun ρ=>lc (fk ρ)>>=fun k=>match ρ[n]? with
    | some (.own (.dict kvs))=>match hR k with
      | some _=>if kvs.length < sizeLine then .ok (.nx (ρ.set n (.own (.dict (uO kvs k dv))))) else .no
      | none=>.no
    | _=>.no) D σ H1:=⟨ρ1,sl1,q1⟩
  cases e:ρ1[n]? with
  | none =>
    exfalso;rw [e] at q1;cases e2:fk ρ1 with
    | ok _=>rw [e2] at q1;exact q1
    | ex _=>rw [e2] at q1;exact q1
    | no=>rw [e2] at q1;exact q1
  | some c =>
    rw [e] at q1;cases c with
    | own d =>
      cases d with
      | dict kvs =>
        obtain ⟨o,h2,w',rfl,p2⟩:=sl1.sl.at e;simp only [iA] at p2;obtain ⟨a',ks,rfl,ha,r⟩:=p2;refine ⟨.ref a',h2,?_⟩;refine ⟨ρ1,sl1.sl,?_⟩;cases e2:fk ρ1 with
        | ex _=>rw [e2] at q1;exact q1.elim
        | no=>rw [e2] at q1;exact q1
        | ok kd =>
          rw [e2] at q1;simp only [lc,R.ok_bind] at q1;intro yv H3 s3 p3;cases e3:hR kd with
          | none=>rw [e3] at q1;exact q1.elim
          | some κ =>
            rw [e3] at q1;dsimp only at q1;by_cases hz:kvs.length < sizeLine
            · rw [if_pos hz] at q1;have ek:=w9 e3;subst ek;have ey:=Db p3;subst ey;have ha3:=s3 _ _ ha;have r3:eF H3 kvs ks:=eF.kp (Kp.of s3) _ _ r;refine ⟨a',_,rfl,tI.k ha3 (by rw [r3.length];exact hz),q1 _ _ ((sl1.mono s3).change e h2 ha3 (.inr ⟨_,rfl⟩) ?_)⟩;simp only [iA];exact ⟨a',_,rfl,bd,eF.kp (fV ha3 (.inr ⟨_,rfl⟩)) _ _ (eF.put κ (p1.mono s3) r3)⟩
            · rw [if_neg hz] at q1;exact q1.elim
      | _ =>
        exfalso;cases e2:fk ρ1 with
        | ok _=>rw [e2] at q1;exact q1
        | ex _=>rw [e2] at q1;exact q1
        | no=>rw [e2] at q1;exact q1
    | _ =>
      exfalso;cases e2:fk ρ1 with
      | ok _=>rw [e2] at q1;exact q1
      | ex _=>rw [e2] at q1;exact q1
      | no=>rw [e2] at q1;exact q1⟩
noncomputable def gE (i:Nat) (f:Fe):Fs:=fun ρ=>lc (f ρ)>>=fun d=>match ρ[i]? with
  | some (.own (.list ds))=>if ds.length < sizeLine then .ok (.nx (ρ.set i (.own (.list (ds++[d]))))) else .no
  | _=>.no
end
section
variable {prog:Program} {w:World} {A:Around} {E:Value->Shared->Prop} {s:Shared}
theorem uG {it t:Addr} {i:Nat} {items:Array Value} {x:Value} {Q:Value->Shared->Prop} (hit:s.heap.IsTupleIter it t i) (ht:s.heap.IsTuple t items) (hx:items[i]?=some x)
    (hQ:∀ h',h'.IsTupleIter it t (i+1)->Heap.SameBut it s.heap h'->Q x { s with heap:=h' }):wpAny (model prog w) A (Builtin.SmallTypes.nextOf (.ref it)) Q E s:=by
  obtain ⟨ob,hob,hcl,hdt⟩:=id hit;obtain ⟨ot,hot,_,nt,hdtt⟩:=ht;unfold Builtin.SmallTypes.nextOf;refine wpAny_bind (wpAny_callSpecial?_slot (name:=Str.ofString "__next__") hit.typeIs F.slot_tuple_iterator_next (wpAny_call_entry F.slot_tuple_iterator_next hit.typeIs F.entry_tuple_iterator_next ?_ (F.args_tuple_iterator_next_1 _)));show wpAny _ _ (field (Value.ref it) 0>>=_) _ _ s;refine wpAny_bind (wpAny_field hob hdt (x:=Value.ref t) rfl ?_);show wpAny _ _ (if (Value.ref t==Value.none)=true then _ else _) _ _ s;rw [if_neg (by intro z;cases z)];show wpAny _ _ (field (Value.ref it) 1>>=_) _ _ s;refine wpAny_bind (wpAny_field hob hdt (x:=Value.int i 0) rfl ?_);show wpAny _ _ (seqItems? (Value.ref t)>>=_) _ _ s;refine wpAny_bind (wpAny_seqItems hot hdtt ?_);simp only [hx,Int.toNat_natCast];refine wpAny_bind (wpAny_setField hob hdt (by simp) (wpAny_pure ⟨x,rfl,wpAny_pure (hQ _ ⟨_,Heap.get?_update_self _ hob (Obj.isFreed_of_fields (Obj.data_mapFields hdt _)),(Obj.cls_mapFields ..).trans hcl,?_⟩ (Heap.SameBut.update ..))⟩));rw [Obj.data_mapFields hdt];simp [rawInt]
theorem n5 {it t:Addr} {i:Nat} {items:Array Value} {Q:Value->Shared->Prop} (hh:A.handled=none) (hit:s.heap.IsTupleIter it t i) (ht:s.heap.IsTuple t items) (hx:items[i]?=none)
    (hE:∀ h' e,Heap.ExtBut it s.heap h'->(∃ o,h'.get? e=some o/\o.cls=.type "StopIteration")->E (.ref e) { s with heap:=h' }):wpAny (model prog w) A (Builtin.SmallTypes.nextOf (.ref it)) Q E s:=by
  obtain ⟨ob,hob,hcl,hdt⟩:=id hit;obtain ⟨ot,hot,_,nt,hdtt⟩:=ht;unfold Builtin.SmallTypes.nextOf;refine wpAny_bind (wpAny_callSpecial?_slot (name:=Str.ofString "__next__") hit.typeIs F.slot_tuple_iterator_next (wpAny_call_entry F.slot_tuple_iterator_next hit.typeIs F.entry_tuple_iterator_next ?_ (F.args_tuple_iterator_next_1 _)));show wpAny _ _ (field (Value.ref it) 0>>=_) _ _ s;refine wpAny_bind (wpAny_field hob hdt (x:=Value.ref t) rfl ?_);show wpAny _ _ (if (Value.ref t==Value.none)=true then _ else _) _ _ s;rw [if_neg (by intro z;cases z)];show wpAny _ _ (field (Value.ref it) 1>>=_) _ _ s;refine wpAny_bind (wpAny_field hob hdt (x:=Value.int i 0) rfl ?_);show wpAny _ _ (seqItems? (Value.ref t)>>=_) _ _ s;refine wpAny_bind (wpAny_seqItems hot hdtt ?_);simp only [hx,Int.toNat_natCast];refine wpAny_bind (wpAny_rule (wpAny_bind (wpAny_setField hob hdt (by simp) ?_)));show wpAny _ _ (newExc (Value.type "StopIteration") []>>=_) _ _ _;refine wpAny_bind ?_;simp only [newTuple,newExc];refine wpAny_bind (wpAny_newObj_type ?_ (by size_fits));refine wpAny_bind (m:=firstArgMember _ _) (wpAny_of_eq (a:=Value.none) (by first | rfl | (simp only [firstArgMember];rfl)) ?_);refine wpAny_newObj_type ?_ (by size_fits);simp only [raiseNew];refine wpAny_bind (wpAny_handled ?_)
  first | rw [show A.in1.handled=none from hh] | rw [hh]
  exact wpAny_bind (wpAny_pure (wpAny_throw (hE _ _ (((Heap.SameBut.update ..).extBut.push _).push _) ⟨_,Heap.get?_push_size _ rfl,rfl⟩)))
end
noncomputable def lv (h:Heap) (i l:Addr) (k:Nat) (xs:Array Value):Prop:=(h.IsListIter i l k/\h.IsList l xs)\/(h.IsTupleIter i l k/\h.IsTuple l xs)
section
variable {h h':Heap} {i l:Addr} {k:Nat} {xs:Array Value}
theorem lv.keep (x:lv h i l k xs) (hi:∀ o,h.get? i=some o->h'.get? i=some o) (hl:∀ o,h.get? l=some o->h'.get? l=some o):lv h' i l k xs:=by
  rcases x with ⟨⟨o,e,r⟩,⟨o',e',r'⟩⟩ | ⟨⟨o,e,r⟩,⟨o',e',r'⟩⟩
  · exact .inl ⟨⟨o,hi _ e,r⟩,⟨o',hl _ e',r'⟩⟩
  · exact .inr ⟨⟨o,hi _ e,r⟩,⟨o',hl _ e',r'⟩⟩
end
section
variable {prog:Program} {w:World} {A:Around} {E:Value->Shared->Prop} {s:Shared} {i l:Addr} {k:Nat} {xs:Array Value}
theorem vO {x:Value} {Q:Value->Shared->Prop} (it:lv s.heap i l k xs) (hne:l≠i) (hx:xs[k]?=some x) (hQ:∀ h',lv h' i l (k+1) xs->Heap.SameBut i s.heap h'->Q x { s with heap:=h' }) :
    wpAny (model prog w) A (Builtin.SmallTypes.nextOf (.ref i)) Q E s:=by
  rcases it with ⟨h1,h2⟩ | ⟨h1,h2⟩
  · exact wpAny_nextOf_list_item h1 h2 hx fun h' a b=>hQ h' (.inl ⟨a,h2.extBut b.extBut hne⟩) b
  · exact uG h1 h2 hx fun h' a b=>hQ h' (.inr ⟨a,h2.extBut b.extBut hne⟩) b
theorem lN {Q:Value->Shared->Prop} (hh:A.handled=none) (it:lv s.heap i l k xs) (hx:xs[k]?=none)
    (hE:∀ h' e,Heap.ExtBut i s.heap h'->(∃ o,h'.get? e=some o/\o.cls=.type "StopIteration")->E (.ref e) { s with heap:=h' }):wpAny (model prog w) A (Builtin.SmallTypes.nextOf (.ref i)) Q E s:=by
  rcases it with ⟨h1,h2⟩ | ⟨h1,h2⟩
  · exact wpAny_nextOf_list_end hh h1 h2 hx hE
  · exact n5 hh h1 h2 hx hE
noncomputable def t9 (h:Heap) (l:Addr) (xs:Array Value):Prop:=h.IsList l xs\/h.IsTuple l xs
end
structure ZA (z p q i j l m:Addr):Prop where
  pz:p≠z
  qz:q≠z
  iz:i≠z
  jz:j≠z
  pq:p≠q
  pi:p≠i
  pj:p≠j
  qi:q≠i
  qj:q≠j
  ij:i≠j
  lz:l≠z
  lq:l≠q
  li:l≠i
  lj:l≠j
  mz:m≠z
  mq:m≠q
  mi:m≠i
  mj:m≠j
structure zL (h:Heap) (z p q i j l m:Addr) (f0:Value) (k:Nat) (xs ys:Array Value):Prop where
  zz:IsZip h z p q f0
  pp:IsPair h p (.ref i) (.ref j)
  qq:∃ a b,IsPair h q a b
  ii:lv h i l k xs
  jj:lv h j m k ys
section
variable {prog:Program} {w:World} {A:Around} {E:Value->Shared->Prop} {s:Shared} {z p q i j l m:Addr} {k:Nat} {xs ys:Array Value}
theorem zI {x y:Value} {Q:Value->Shared->Prop} (D:ZA z p q i j l m) (S:zL s.heap z p q i j l m .none k xs ys) (hx:xs[k]?=some x) (hy:ys[k]?=some y)
    (hQ:∀ h',zL h' z p q i j l m (rawInt s.heap.objs.size) (k+1) xs ys->IsPair h' s.heap.objs.size x y->(∀ c o,c≠z->c≠q->c≠i->c≠j->s.heap.get? c=some o->h'.get? c=some o)->Q (.ref s.heap.objs.size) { s with heap:=h' }) :
    wpAny (model prog w) A (Builtin.«zip.__next__» ⟨[.ref z],[]⟩) (fun fin s'=>∃ v,fin=.done (.ret v)/\Q v s') E s:=by
  obtain ⟨hz,hp,⟨a,b,hq⟩,hi,hj⟩:=S;show wpAny _ _ (field (Value.ref z) 2>>=_) _ _ _;refine wpAny_bind (wpAny_field hz rfl (x:=Value.bool false) rfl ?_);show wpAny _ _ (field (Value.ref z) 3>>=_) _ _ _;refine wpAny_bind (wpAny_field hz rfl (x:=Value.ref p) rfl ?_);refine wpAny_bind (wpAny_seqItems hp rfl ?_);show wpAny _ _ (Builtin.SmallTypes.ownedTupleIsFree (Value.ref z)>>=_) _ _ _;refine wpAny_bind ?_;unfold Builtin.SmallTypes.ownedTupleIsFree;refine wpAny_bind (wpAny_field hz rfl (x:=Value.none) rfl (wpAny_pure ?_));simp only [if_true];refine wpAny_bind (wpAny_rule ?_);refine wpAny_bind (wpAny_field hz rfl (x:=Value.ref q) rfl ?_);refine wpAny_bind (wpAny_setField_rec hz (by simp) fun g1 z1 s1=>?_);replace z1:IsZip g1 z p q .ellipsis:=z1;refine wpAny_bind ?_;simp only [List.zipIdx_cons,List.zipIdx_nil,List.forIn_cons,List.forIn_nil];refine wpAny_bind (wpAny_bind (wpAny_onRaise ?_));show wpAny _ _ (Builtin.SmallTypes.nextOf (Value.ref i)>>=_) _ _ _;have hi1:lv g1 i l k xs:=hi.keep (fun o e=>s1.extBut _ _ D.iz e) fun o e=>s1.extBut _ _ D.lz e
  refine wpAny_bind (vO hi1 D.li hx fun g2 i2 s2=>wpAny_pure ?_);have q2:IsPair g2 q a b:=s2.extBut _ _ D.qi (s1.extBut _ _ D.qz hq);refine wpAny_bind (wpAny_seqItems q2 rfl ?_);refine wpAny_bind (wpAny_updateSeq_pair q2 fun g3 q3 s3=>?_);replace q3:IsPair g3 q x b:=q3;refine wpAny_bind (wpAny_letGo (wpAny_pure ?_));refine wpAny_bind (wpAny_bind (wpAny_onRaise ?_));show wpAny _ _ (Builtin.SmallTypes.nextOf (Value.ref j)>>=_) _ _ _;have hj3:lv g3 j m k ys:=hj.keep (fun o e=>s3.extBut _ _ D.qj.symm (s2.extBut _ _ D.ij.symm (s1.extBut _ _ D.jz e))) fun o e=>s3.extBut _ _ D.mq (s2.extBut _ _ D.mi (s1.extBut _ _ D.mz e))
  refine wpAny_bind (vO hj3 D.mj hy fun g4 j4 s4=>wpAny_pure ?_);have q4:IsPair g4 q x b:=s4.extBut _ _ D.qj q3;refine wpAny_bind (wpAny_seqItems q4 rfl ?_);refine wpAny_bind (wpAny_updateSeq_pair q4 fun g5 q5 s5=>?_);replace q5:IsPair g5 q x y:=q5;refine wpAny_bind (wpAny_letGo (wpAny_pure (wpAny_pure ?_)));refine wpAny_bind (wpAny_seqItems q5 rfl ?_);refine wpAny_bind (wpAny_newTuple ?_);have hsz:g5.objs.size=s.heap.objs.size:=by rw [s5.1,s4.1,s3.1,s2.1,s1.1]
  have z5:IsZip g5 z p q .ellipsis:=s5.extBut _ _ D.qz.symm (s4.extBut _ _ D.jz.symm (s3.extBut _ _ D.qz.symm (s2.extBut _ _ D.iz.symm z1)));have k5:∀ c o,c≠z->c≠q->c≠i->c≠j->s.heap.get? c=some o->g5.get? c=some o:=fun c o c1 c2 c3 c4 e=>s5.extBut _ _ c2 (s4.extBut _ _ c4 (s3.extBut _ _ c2 (s2.extBut _ _ c3 (s1.extBut _ _ c1 e))))
  have i5:lv g5 i l (k+1) xs:=i2.keep (fun o e=>s5.extBut _ _ D.qi.symm (s4.extBut _ _ D.ij (s3.extBut _ _ D.qi.symm e))) fun o e=>s5.extBut _ _ D.lq (s4.extBut _ _ D.lj (s3.extBut _ _ D.lq e))
  have j5:lv g5 j m (k+1) ys:=j4.keep (fun o e=>s5.extBut _ _ D.qj.symm e) fun o e=>s5.extBut _ _ D.mq e
  have zlt:z < g5.objs.size:=Heap.lt_size z5;show wpAny _ _ (Builtin.SmallTypes.ownedTupleHandOut (Value.ref z) (Value.ref g5.objs.size)>>=_) _ _ _;refine wpAny_bind ?_;unfold Builtin.SmallTypes.ownedTupleHandOut;have z6:IsZip (g5.push { cls:=.type "tuple",data:=.seq #[x,y] }) z p q .ellipsis:=Heap.get?_push_of_some _ z5;refine wpAny_bind (wpAny_setField_rec z6 (by simp) fun g7 z7 s7=>?_);replace z7:IsZip g7 z p q (rawInt g5.objs.size):=z7;refine wpAny_setField_rec z7 (by simp) fun g8 z8 s8=>?_
  replace z8:IsZip g8 z p q (rawInt g5.objs.size):=z8;have up:∀ c o,c≠z->g5.get? c=some o->g8.get? c=some o:=fun c o c1 e=>s8.extBut _ _ c1 (s7.extBut _ _ c1 (Heap.get?_push_of_some _ e))
  have t8:IsPair g8 g5.objs.size x y:=s8.extBut _ _ (Nat.ne_of_gt zlt) (s7.extBut _ _ (Nat.ne_of_gt zlt) (Heap.get?_push_size _ rfl));rw [hsz] at z8 t8;refine wpAny_pure ⟨_,rfl,?_⟩;show Q (.ref g5.objs.size) _;rw [hsz];exact hQ g8 ⟨z8,up _ _ D.pz (k5 _ _ D.pz D.pq D.pi D.pj hp),⟨x,y,up _ _ D.qz q5⟩,i5.keep (fun o e=>up _ _ D.iz e) fun o e=>up _ _ D.lz e,j5.keep (fun o e=>up _ _ D.jz e) fun o e=>up _ _ D.mz e⟩ t8 fun c o c1 c2 c3 c4 e=>up c o c1 (k5 c o c1 c2 c3 c4 e)
theorem Bm {Q:PySem.Fin->Shared->Prop} (hh:A.handled=none) (D:ZA z p q i j l m) (S:zL s.heap z p q i j l m .none k xs ys) (hend:xs[k]?=none\/ys[k]?=none)
    (hE:∀ h' e,(∀ c o,c≠z->c≠q->c≠i->c≠j->s.heap.get? c=some o->h'.get? c=some o)->(∃ o,h'.get? e=some o/\o.cls=.type "StopIteration")->E (.ref e) { s with heap:=h' }) :
    wpAny (model prog w) A (Builtin.«zip.__next__» ⟨[.ref z],[]⟩) Q E s:=by
  obtain ⟨hz,hp,⟨a,b,hq⟩,hi,hj⟩:=S;show wpAny _ _ (field (Value.ref z) 2>>=_) _ _ _;refine wpAny_bind (wpAny_field hz rfl (x:=Value.bool false) rfl ?_);show wpAny _ _ (field (Value.ref z) 3>>=_) _ _ _;refine wpAny_bind (wpAny_field hz rfl (x:=Value.ref p) rfl ?_);refine wpAny_bind (wpAny_seqItems hp rfl ?_);show wpAny _ _ (Builtin.SmallTypes.ownedTupleIsFree (Value.ref z)>>=_) _ _ _;refine wpAny_bind ?_;unfold Builtin.SmallTypes.ownedTupleIsFree;refine wpAny_bind (wpAny_field hz rfl (x:=Value.none) rfl (wpAny_pure ?_));simp only [if_true];refine wpAny_bind (wpAny_rule ?_);refine wpAny_bind (wpAny_field hz rfl (x:=Value.ref q) rfl ?_);refine wpAny_bind (wpAny_setField_rec hz (by simp) fun g1 z1 s1=>?_);replace z1:IsZip g1 z p q .ellipsis:=z1;refine wpAny_bind ?_;simp only [List.zipIdx_cons,List.zipIdx_nil,List.forIn_cons,List.forIn_nil];refine wpAny_bind (wpAny_bind (wpAny_onRaise ?_));show wpAny _ _ (Builtin.SmallTypes.nextOf (Value.ref i)>>=_) _ _ _;have hi1:lv g1 i l k xs:=hi.keep (fun o e=>s1.extBut _ _ D.iz e) fun o e=>s1.extBut _ _ D.lz e
  cases hx:xs[k]? with
  | none =>
    refine wpAny_bind (lN hh hi1 hx fun g2 e s2 he=>?_);obtain ⟨oe,hoe,hce⟩:=he;have z2:IsZip g2 z p q .ellipsis:=s2 _ _ D.iz.symm z1;have hez:e≠z:=fun t=>by subst t;rw [z2] at hoe;cases hoe;simp at hce
    exact wpAny_setField_rec z2 (by simp) fun g3 _ s3=>hE g3 e (fun c o c1 _ c3 _ t=>s3.extBut _ _ c1 (s2 _ _ c3 (s1.extBut _ _ c1 t))) ⟨oe,s3.extBut _ _ hez hoe,hce⟩
  | some x =>
    have hy:ys[k]?=none:=by rcases hend with t | t;rw [hx] at t;cases t;exact t
    refine wpAny_bind (vO hi1 D.li hx fun g2 i2 s2=>wpAny_pure ?_);have q2:IsPair g2 q a b:=s2.extBut _ _ D.qi (s1.extBut _ _ D.qz hq);refine wpAny_bind (wpAny_seqItems q2 rfl ?_);refine wpAny_bind (wpAny_updateSeq_pair q2 fun g3 q3 s3=>?_);refine wpAny_bind (wpAny_letGo (wpAny_pure ?_));refine wpAny_bind (wpAny_bind (wpAny_onRaise ?_));show wpAny _ _ (Builtin.SmallTypes.nextOf (Value.ref j)>>=_) _ _ _;have hj3:lv g3 j m k ys:=hj.keep (fun o e=>s3.extBut _ _ D.qj.symm (s2.extBut _ _ D.ij.symm (s1.extBut _ _ D.jz e))) fun o e=>s3.extBut _ _ D.mq (s2.extBut _ _ D.mi (s1.extBut _ _ D.mz e))
    refine wpAny_bind (lN hh hj3 hy fun g4 e s4 he=>?_);obtain ⟨oe,hoe,hce⟩:=he;have z4:IsZip g4 z p q .ellipsis:=s4 _ _ D.jz.symm (s3.extBut _ _ D.qz.symm (s2.extBut _ _ D.iz.symm z1));have hez:e≠z:=fun t=>by subst t;rw [z4] at hoe;cases hoe;simp at hce
    exact wpAny_setField_rec z4 (by simp) fun g5 _ s5=>hE g5 e (fun c o c1 c2 c3 c4 t=>s5.extBut _ _ c1 (s4 _ _ c4 (s3.extBut _ _ c2 (s2.extBut _ _ c3 (s1.extBut _ _ c1 t))))) ⟨oe,s5.extBut _ _ hez hoe,hce⟩
theorem u9 {x y:Value} {Q:Option Value->Shared->Prop} (D:ZA z p q i j l m) (S:zL s.heap z p q i j l m .none k xs ys) (hx:xs[k]?=some x) (hy:ys[k]?=some y)
    (hQ:∀ h',zL h' z p q i j l m (rawInt s.heap.objs.size) (k+1) xs ys->IsPair h' s.heap.objs.size x y->(∀ c o,c≠z->c≠q->c≠i->c≠j->s.heap.get? c=some o->h'.get? c=some o)->Q (some (.ref s.heap.objs.size)) { s with heap:=h' }) :
    wpAny (model prog w) A (pyNext (.ref z)) Q E s:=by
  have hT:s.TypeIs (.ref z) "zip" := ⟨_,S.zz,rfl⟩
  unfold pyNext;exact wpAny_bind (wpAny_attempt (wpAny_callSpecial?_slot (name:=Str.ofString "__next__") hT F.slot_zip_next (wpAny_call_entry F.slot_zip_next hT F.entry_zip_next (zI D S hx hy fun h' a b c=>wpAny_pure (hQ h' a b c)) (F.args_zip_next_1 _))))
theorem xC {Q:Option Value->Shared->Prop} (hh:A.handled=none) (D:ZA z p q i j l m) (S:zL s.heap z p q i j l m .none k xs ys) (hend:xs[k]?=none\/ys[k]?=none)
    (hQ:∀ h',(∀ c o,c≠z->c≠q->c≠i->c≠j->s.heap.get? c=some o->h'.get? c=some o)->Q none { s with heap:=h' }):wpAny (model prog w) A (pyNext (.ref z)) Q E s:=by
  have hT:s.TypeIs (.ref z) "zip" := ⟨_,S.zz,rfl⟩
  unfold pyNext;refine wpAny_bind (wpAny_attempt (wpAny_callSpecial?_slot (name:=Str.ofString "__next__") hT F.slot_zip_next (wpAny_call_entry F.slot_zip_next hT F.entry_zip_next (Bm hh D S hend fun h' e hk he=>?_) (F.args_zip_next_1 _))));obtain ⟨o,ho,hc⟩:=he;exact wpAny_bind (wpAny_isInstance (T := "StopIteration") (b:=true) ⟨o,ho,hc⟩ isSubtype_stop (wpAny_pure (hQ _ hk)))
theorem Bn (l m:Addr) (xs ys:Array Value):Meets (Builtin.«zip.__new__» ⟨[.type "zip",.ref l,.ref m],[]⟩) (fun _ R s=>t9 s.heap l xs/\t9 s.heap m ys /\
    ∀ h',h'.objs.size=s.heap.objs.size+5->zL h' (s.heap.objs.size+4) (s.heap.objs.size+2) (s.heap.objs.size+3) s.heap.objs.size (s.heap.objs.size+1) l m .none 0 xs ys->(∀ c o,s.heap.get? c=some o->h'.get? c=some o) ->
      R (.ok (.ret (.ref (s.heap.objs.size+4)))) { s with heap:=h' }) :=
  .of_wp fun prog w A R s h=>by
    obtain ⟨hp,g,d,tk,os⟩:=s;obtain ⟨h1,h2,h⟩:=h;have hsub:=sub_zip;have fin:∀ (oi oj:Obj),lv (hp.push oi) hp.objs.size l 0 xs->lv ((hp.push oi).push oj) (hp.push oi).objs.size m 0 ys ->
        R (.ok (.ret (.ref ((((hp.push oi).push oj).push { cls:=.type "tuple",data:=.seq #[.ref hp.objs.size,.ref (hp.push oi).objs.size] }).push { cls:=.type "tuple",data:=.seq #[.none,.none] }).objs.size)))
          ⟨((((hp.push oi).push oj).push { cls:=.type "tuple",data:=.seq #[.ref hp.objs.size,.ref (hp.push oi).objs.size] }).push { cls:=.type "tuple",data:=.seq #[.none,.none] }).push { cls:=.type "zip",data:=.fields #[.none,.bool false,.bool false,.ref ((hp.push oi).push oj).objs.size,.ref (((hp.push oi).push oj).push { cls:=.type "tuple",data:=.seq #[.ref hp.objs.size,.ref (hp.push oi).objs.size] }).objs.size] },g,d,tk,os⟩:=fun oi oj hi hj=>by
      have e1:(hp.push oi).objs.size=hp.objs.size+1:=Heap.size_push ..;have e2:((hp.push oi).push oj).objs.size=hp.objs.size+2:=by rw [Heap.size_push,e1]
      have e3:(((hp.push oi).push oj).push { cls:=.type "tuple",data:=.seq #[.ref hp.objs.size,.ref (hp.push oi).objs.size] }).objs.size=hp.objs.size+3:=by rw [Heap.size_push,e2]
      have e4:((((hp.push oi).push oj).push { cls:=.type "tuple",data:=.seq #[.ref hp.objs.size,.ref (hp.push oi).objs.size] }).push { cls:=.type "tuple",data:=.seq #[.none,.none] }).objs.size=hp.objs.size+4:=by rw [Heap.size_push,e3]
      rw [e4,e3,e2];rw [e1] at hj ⊢;have kk:∀ (c:Addr) (o a b c':Obj),((hp.push oi).push oj).get? c=some o->(((((hp.push oi).push oj).push a).push b).push c').get? c=some o:=fun c o a b c' e=>Heap.get?_push_of_some _ (Heap.get?_push_of_some _ (Heap.get?_push_of_some _ e))
      refine h _ (by rw [Heap.size_push,Heap.size_push,Heap.size_push,e2]) ⟨?_,?_,⟨.none,.none,?_⟩,?_,?_⟩ fun c o e=>kk _ _ _ _ _ (Heap.get?_push_of_some _ (Heap.get?_push_of_some _ e))
      · have:hp.objs.size+4=((((hp.push oi).push oj).push { cls:=.type "tuple",data:=.seq #[.ref hp.objs.size,.ref (hp.objs.size+1)] }).push { cls:=.type "tuple",data:=.seq #[.none,.none] }).objs.size:=by rw [Heap.size_push,Heap.size_push,e2]
        show Heap.get? _ (hp.objs.size+4)=_;rw [this];exact Heap.get?_push_size _ rfl
      · refine Heap.get?_push_of_some _ (Heap.get?_push_of_some _ ?_);show Heap.get? _ (hp.objs.size+2)=_;rw [<- e2];exact Heap.get?_push_size _ rfl
      · refine Heap.get?_push_of_some _ ?_;have:hp.objs.size+3=(((hp.push oi).push oj).push { cls:=.type "tuple",data:=.seq #[.ref hp.objs.size,.ref (hp.objs.size+1)] }).objs.size:=by rw [Heap.size_push,e2]
        show Heap.get? _ (hp.objs.size+3)=_;rw [this];exact Heap.get?_push_size _ rfl
      · exact hi.keep (fun o e=>kk _ _ _ _ _ (Heap.get?_push_of_some _ e)) fun o e=>kk _ _ _ _ _ (Heap.get?_push_of_some _ e)
      · exact hj.keep (fun o e=>kk _ _ _ _ _ e) fun o e=>kk _ _ _ _ _ e
    rcases h1 with h1 | h1 <;> rcases h2 with h2 | h2
    · have l1:Heap.IsList (Shared.heap ⟨hp,g,d,tk,os⟩) l xs:=h1;have l2:Heap.IsList (Shared.heap ⟨hp.push { cls:=.type "list_iterator",data:=.fields #[.ref l,.int 0 0] },g,d,tk,os⟩) m ys:=Heap.IsList.push h2 _
      wp_walk using wpAny_pyIter_list l1,wpAny_pyIter_list l2
      exact ⟨_,rfl,fin _ _ (.inl ⟨⟨_,Heap.get?_push_size _ rfl,rfl,rfl⟩,Heap.IsList.push h1 _⟩) (.inl ⟨⟨_,Heap.get?_push_size _ rfl,rfl,rfl⟩,Heap.IsList.push l2 _⟩)⟩
    · have l1:Heap.IsList (Shared.heap ⟨hp,g,d,tk,os⟩) l xs:=h1;have l2:Heap.IsTuple (Shared.heap ⟨hp.push { cls:=.type "list_iterator",data:=.fields #[.ref l,.int 0 0] },g,d,tk,os⟩) m ys:=Heap.IsTuple.push h2 _
      wp_walk using wpAny_pyIter_list l1,wpAny_pyIter_tuple l2
      exact ⟨_,rfl,fin _ _ (.inl ⟨⟨_,Heap.get?_push_size _ rfl,rfl,rfl⟩,Heap.IsList.push h1 _⟩) (.inr ⟨⟨_,Heap.get?_push_size _ rfl,rfl,rfl⟩,Heap.IsTuple.push l2 _⟩)⟩
    · have l1:Heap.IsTuple (Shared.heap ⟨hp,g,d,tk,os⟩) l xs:=h1;have l2:Heap.IsList (Shared.heap ⟨hp.push { cls:=.type "tuple_iterator",data:=.fields #[.ref l,.int 0 0] },g,d,tk,os⟩) m ys:=Heap.IsList.push h2 _
      wp_walk using wpAny_pyIter_tuple l1,wpAny_pyIter_list l2
      exact ⟨_,rfl,fin _ _ (.inr ⟨⟨_,Heap.get?_push_size _ rfl,rfl,rfl⟩,Heap.IsTuple.push h1 _⟩) (.inl ⟨⟨_,Heap.get?_push_size _ rfl,rfl,rfl⟩,Heap.IsList.push l2 _⟩)⟩
    · have l1:Heap.IsTuple (Shared.heap ⟨hp,g,d,tk,os⟩) l xs:=h1;have l2:Heap.IsTuple (Shared.heap ⟨hp.push { cls:=.type "tuple_iterator",data:=.fields #[.ref l,.int 0 0] },g,d,tk,os⟩) m ys:=Heap.IsTuple.push h2 _
      wp_walk using wpAny_pyIter_tuple l1,wpAny_pyIter_tuple l2
      exact ⟨_,rfl,fin _ _ (.inr ⟨⟨_,Heap.get?_push_size _ rfl,rfl,rfl⟩,Heap.IsTuple.push h1 _⟩) (.inr ⟨⟨_,Heap.get?_push_size _ rfl,rfl,rfl⟩,Heap.IsTuple.push l2 _⟩)⟩
theorem x5 {Q:Value->Shared->Prop} {l m:Addr} (h1:t9 s.heap l xs) (h2:t9 s.heap m ys)
    (h:∀ h',h'.objs.size=s.heap.objs.size+5->zL h' (s.heap.objs.size+4) (s.heap.objs.size+2) (s.heap.objs.size+3) s.heap.objs.size (s.heap.objs.size+1) l m .none 0 xs ys->(∀ c o,s.heap.get? c=some o->h'.get? c=some o) ->
      Q (.ref (s.heap.objs.size+4)) { s with heap:=h' }):wpAny (model prog w) A (call (.type "zip") [.ref l,.ref m]) Q E s:=by
  refine callType_new F.called_zip (by decide) (F.typeCall_zip_2 _ _) (F.newCall_zip_2 _ _) (fun obj=>F.args_object_init_3 obj _ _) F.entry_zip_new (Bn l m xs ys) ⟨h1,h2,fun h' e S k=>?_⟩;exact ⟨⟨_,S.zz,rfl⟩,h h' e S k⟩
end
section
variable {X:Cx} {pins:List (Addr×Obj)} {σ:St} {H:Hp} {s:Shared} {h':Heap}
theorem jr {t':Nat} {fp:List Addr} (I:aL X pins σ H s) (k:∀ b o,b∉fp->s.heap.get? b=some o->h'.get? b=some o) (hf:∀ b∈fp,mn X pins H b):aL X pins σ H { s with heap:=h',toks:=t' }:=by
  have away:∀ b u,H b=some u->b∉fp:=fun b u e z=>by rw [(hf b z).1] at e;cases e
  have frame:X.env.locals∉fp:=fun z=>(hf _ z).2.1 rfl
  refine I.step (g':=s.gens) (d':=s.drawn) (ch:=fp) (fun b hb=>⟨(hf b hb).2.2.2.1,(hf b hb).2.1,(hf b hb).2.2.2.2.1,(hf b hb).2.2.2.2.2⟩) (fun b o _ _ hc e _=>k b o hc e) (fun b o _ _ hc e _=>⟨o.slots,k b o hc e⟩) (fun _ _ _ _ n=>n)
    (fun b o hc e=>⟨o,k b o hc e⟩) (fun _ _ e=>e) (fun _ _ _ e=>e) (fun b ps e=>⟨#[],by rw [e];simp⟩) (fun m ⟨o,es,ep,ho,r⟩=>⟨o,es,ep,k _ o frame ho,r⟩) (fun b u e=>?_) I.bare
  refine (I.hok b u e).stay (fun c v hc q=>k c v ?_ q) (fun _ q=>q) fun _ _ q=>q
  rcases hc with z | z
  · rw [z];exact away b u e
  · exact away c _ z
theorem yZ {h:Heap} {o o':Obj} {b:Addr} (hb:b≠h.objs.size) (e:(h.push o).get? b=some o'):h.get? b=some o':=by
  unfold Heap.get? Heap.push at e;unfold Heap.get?;simp only [Array.getElem?_push] at e;rw [if_neg hb] at e;exact e
theorem vI {t':Nat} {fp:List Addr} {u1 u2:Value} {v1 v2:V} (I:aL X pins σ H s) (hf:∀ b∈fp,mn X pins H b) (hob:∀ b∈fp,b < s.heap.objs.size) (ht:IsPair h' s.heap.objs.size u1 u2) (k:∀ b o,b∉fp->s.heap.get? b=some o->h'.get? b=some o)
    (r1:bM v1 u1) (r2:bM v2 u2):aL X pins σ (cP H s.heap.objs.size (.tup [v1,v2])) { s with heap:=h',toks:=t' }:=by
  have I1:aL X pins σ (cP H s.heap.objs.size (.tup [v1,v2])) { s with heap:=s.heap.push { cls:=.type "tuple",data:=.seq #[u1,u2] },toks:=s.toks } :=
    I.laid (fun b u e=>Heap.get?_push_of_some _ e) (Nat.le_refl _) ⟨by show 2<=sizeLine;decide,[u1,u2],.cons r1 (.cons r2 .nil),_,Heap.get?_push_size _ rfl,rfl,⟨_,rfl⟩,rfl⟩
  refine jr (fp:=fp) (s:={ s with heap:=s.heap.push { cls:=.type "tuple",data:=.seq #[u1,u2] },toks:=s.toks }) I1 (fun b o hb e=>?_) fun b hb=>?_
  · by_cases hz:b=s.heap.objs.size
    · subst hz;have e':(s.heap.push { cls:=.type "tuple",data:=.seq #[u1,u2] }).get? s.heap.objs.size=some o:=e;rw [Heap.get?_push_size _ rfl] at e';cases e';exact ht
    · exact k b o hb (yZ hz e)
  · obtain ⟨f0,f1,f2,f3,f4,f5⟩:=hf b hb;exact ⟨by rw [av (Nat.ne_of_lt (hob b hb))];exact f0,f1,f2,f3,f4,f5⟩
end
noncomputable def rO (K:PySem.W.Frag) (H:Hp) (a:Addr) (xs:List V):Bool->Prop
  | true=>iC K H a xs
  | false=>mY K H a xs
noncomputable def fY (h:Heap) (i l:Addr) (k:Nat):Bool->Prop
  | true=>h.IsTupleIter i l k
  | false=>h.IsListIter i l k
theorem fY.keep {h h':Heap} {i l:Addr} {k:Nat} {b:Bool} (x:fY h i l k b) (hi:∀ o,h.get? i=some o->h'.get? i=some o):fY h' i l k b:=by
  cases b
  · obtain ⟨o,e,r⟩:=x;exact ⟨o,hi _ e,r⟩
  · obtain ⟨o,e,r⟩:=x;exact ⟨o,hi _ e,r⟩
theorem fY.there {h:Heap} {i l:Addr} {k:Nat} {b:Bool} (x:fY h i l k b):∃ o,h.get? i=some o/\∀ v,o.data≠.cell v:=by
  cases b
  · obtain ⟨o,e,c,d⟩:=x;exact ⟨o,e,fun v z=>by rw [d] at z;cases z⟩
  · obtain ⟨o,e,c,d⟩:=x;exact ⟨o,e,fun v z=>by rw [d] at z;cases z⟩
section
variable {X:Cx} {pins:List (Addr×Obj)} {σ:St} {H:Hp} {s:Shared}
theorem iL {a:Addr} {xs:List V} {b:Bool} (I:aL X pins σ H s) (h:rO X.K H a xs b):∃ its:List Value,bA xs its/\t9 s.heap a its.toArray/\∀ (i:Addr) (k:Nat),fY s.heap i a k b->lv s.heap i a k its.toArray:=by
  cases b
  · obtain ⟨its,rv,p,_⟩:=I.list h;exact ⟨its,rv,.inl p.isList,fun i k z=>.inl ⟨z,p.isList⟩⟩
  · obtain ⟨its,rv,p,_⟩:=I.tuple h;exact ⟨its,rv,.inr p,fun i k z=>.inr ⟨z,p⟩⟩
theorem ku {a:Addr} {xs ys:List V} {b:Bool} (I:aL X pins σ H s) (h:rO X.K H a xs b) (h':rO X.K H a ys b):ys=xs:=by
  cases b
  · exact I.list_inj h' h
  · exact I.tuple_inj h' h
theorem lv.toB {h:Heap} {i l:Addr} {k:Nat} {xs:Array Value} {b:Bool} (hl:∀ ys,(b=true->¬ h.IsList l ys)/\(b=false->¬ h.IsTuple l ys)) (x:lv h i l k xs):fY h i l k b:=by
  cases b
  · rcases x with ⟨z,w⟩ | ⟨z,w⟩
    · exact z
    · exact absurd w ((hl xs).2 rfl)
  · rcases x with ⟨z,w⟩ | ⟨z,w⟩
    · exact absurd w ((hl xs).1 rfl)
    · exact z
theorem dU {h:Heap} {l:Addr} {xs ys:Array Value} (a:h.IsList l xs) (b:h.IsTuple l ys):False:=by
  obtain ⟨o,e,c,_⟩:=a;obtain ⟨o',e',c',_⟩:=b;rw [e] at e';cases e';rw [c] at c';injection c' with z
  exact absurd z (by decide)
theorem nU {a:Addr} {xs:List V} {b:Bool} (I:aL X pins σ H s) (h:rO X.K H a xs b) {h':Heap} (kp:∀ c o,s.heap.get? c=some o->h'.get? c=some o):∀ ys,(b=true->¬ h'.IsList a ys)/\(b=false->¬ h'.IsTuple a ys):=fun ys=>by
  cases b
  · obtain ⟨its,rv,p,_⟩:=I.list h;refine ⟨fun z=>(by cases z),fun _ w=>?_⟩;obtain ⟨o,e,r⟩:=p.isList;exact dU (h:=h') (xs:=its.toArray) ⟨o,kp _ _ e,r⟩ w
  · obtain ⟨its,rv,p,_⟩:=I.tuple h;refine ⟨fun _ w=>?_,fun z=>by cases z⟩;obtain ⟨o,e,r⟩:=p;exact dU (h:=h') w ⟨o,kp _ _ e,r⟩
end
noncomputable def FD (K:PySem.W.Frag) (l m:Addr) (b c:Bool):It :=
  ⟨fun i H=>∃ xs ys x y,rO K H l xs b/\rO K H m ys c/\xs[i]?=some x/\ys[i]?=some y,
   fun i H v H'=>∃ a x y,H a=none/\v=.ref a/\H'=cP H a (.tup [x,y])/\(∀ xs,rO K H l xs b->xs[i]?=some x)/\∀ ys,rO K H m ys c->ys[i]?=some y,
   fun i H=>∃ xs ys,rO K H l xs b/\rO K H m ys c/\(xs.length<=i\/ys.length<=i)⟩
structure GN (z p q i j l m:Addr) (b c:Bool) (k:Nat) (h:Heap):Prop where
  zz:IsZip h z p q .none
  pp:IsPair h p (.ref i) (.ref j)
  qq:∃ a b,IsPair h q a b
  ii:fY h i l k b
  jj:fY h j m k c
theorem zA {P:Program} {w:World} {K:PySem.W.Frag} {elts:List Expr} {x1} {pos:Pos} {z p q i j l m:Addr} {b c:Bool} (D:ZA z p q i j l m):rQ P w K (.Tuple elts x1 pos) (FD K l m b c) [z,p,q,i,j] z (GN z p q i j l m b c) where
  mem:=by simp
  obj:=fun k h st a ha=>by
    simp only [List.mem_cons,List.not_mem_nil,or_false] at ha;rcases ha with rfl | rfl | rfl | rfl | rfl
    · exact ⟨_,st.zz,fun v e=>by cases e⟩
    · exact ⟨_,st.pp,fun v e=>by cases e⟩
    · obtain ⟨_,_,e⟩:=st.qq;exact ⟨_,e,fun v e=>by cases e⟩
    · exact st.ii.there
    · exact st.jj.there
  keep:=fun k h h' st kp=>⟨kp z (by simp) _ st.zz,kp p (by simp) _ st.pp,let ⟨a,b,e⟩:=st.qq;⟨a,b,kp q (by simp) _ e⟩,st.ii.keep fun o e=>kp i (by simp) o e,st.jj.keep fun o e=>kp j (by simp) o e⟩
  item:=by
    intro X hP hw hK hc k pins s σ H E I hf st hg;subst hP hw hK;obtain ⟨xs,ys,x,y,h1,h2,hx,hy⟩:=hg;obtain ⟨its,rv,_,p1⟩:=iL I h1;obtain ⟨jts,rw',_,p2⟩:=iL I h2;obtain ⟨u,hu,ru⟩:=rv.get hx;obtain ⟨v,hv,ry⟩:=rw'.get hy;have S:zL s.heap z p q i j l m .none k its.toArray jts.toArray:=⟨st.zz,st.pp,st.qq,p1 _ _ st.ii,p2 _ _ st.jj⟩
    refine u9 D S (x:=u) (y:=v) (by simpa using hu) (by simpa using hv) fun h' S' hp kp=>⟨_,rfl,?_⟩
    have zlt:z < s.heap.objs.size:=Heap.lt_size st.zz;refine wpAny_letOwnedTupleGo_zip (s:={ s with heap:=h' }) S'.zz fun h2' hz2 sb=>?_
    have up:∀ a o,a≠z->h'.get? a=some o->h2'.get? a=some o:=fun a o ha e=>sb.extBut a o ha e
    have hob:∀ a∈[z,p,q,i,j],a < s.heap.objs.size:=fun a ha=>by
      simp only [List.mem_cons,List.not_mem_nil,or_false] at ha;rcases ha with rfl | rfl | rfl | rfl | rfl
      · exact Heap.lt_size st.zz
      · exact Heap.lt_size st.pp
      · obtain ⟨_,_,e⟩:=st.qq;exact Heap.lt_size e
      · obtain ⟨o,e,_⟩:=st.ii.there;exact Heap.lt_size e
      · obtain ⟨o,e,_⟩:=st.jj.there;exact Heap.lt_size e
    have hn:H s.heap.objs.size=none:=I.hok.fresh (Nat.le_refl _);refine ⟨.ref s.heap.objs.size,_,vI (s:=s) (t':=s.toks) (fp:=[z,p,q,i,j]) (h':=h2') (u1:=u) (u2:=v) (v1:=x) (v2:=y) I hf hob (up _ _ (Nat.ne_of_gt zlt) hp) (fun a o ha e=>?_) ru ry,rfl,⟨_,x,y,hn,rfl,rfl,fun zs hz=>by rw [ku I h1 hz];exact hx,fun zs hz=>by rw [ku I h2 hz];exact hy⟩,?_,fun a ha=>?_⟩
    · simp only [List.mem_cons,List.not_mem_nil,or_false,not_or] at ha;exact up a o ha.1 (kp a o ha.1 ha.2.2.1 ha.2.2.2.1 ha.2.2.2.2 e)
    · have i2:fY h' i l (k+1) b:=by
        refine S'.ii.toB fun ys=>?_
        cases hb:b
        · subst hb;refine ⟨fun z=>(by cases z),fun _ w=>?_⟩;obtain ⟨_,_,pl,_⟩:=I.list h1;obtain ⟨o,e,r⟩:=pl.isList;exact dU (h:=h') (xs:=_) ⟨o,kp _ _ D.lz D.lq D.li D.lj e,r⟩ w
        · subst hb;refine ⟨fun _ w=>?_,fun z=>by cases z⟩;obtain ⟨_,_,pl,_⟩:=I.tuple h1;obtain ⟨o,e,r⟩:=pl;exact dU (h:=h') w ⟨o,kp _ _ D.lz D.lq D.li D.lj e,r⟩
      have j2:fY h' j m (k+1) c:=by
        refine S'.jj.toB fun ys=>?_
        cases hb:c
        · subst hb;refine ⟨fun z=>(by cases z),fun _ w=>?_⟩;obtain ⟨_,_,pl,_⟩:=I.list h2;obtain ⟨o,e,r⟩:=pl.isList;exact dU (h:=h') (xs:=_) ⟨o,kp _ _ D.mz D.mq D.mi D.mj e,r⟩ w
        · subst hb;refine ⟨fun _ w=>?_,fun z=>by cases z⟩;obtain ⟨_,_,pl,_⟩:=I.tuple h2;obtain ⟨o,e,r⟩:=pl;exact dU (h:=h') w ⟨o,kp _ _ D.mz D.mq D.mi D.mj e,r⟩
      exact ⟨hz2,up _ _ D.pz S'.pp,let ⟨a,b,e⟩:=S'.qq;⟨a,b,up _ _ D.qz e⟩,i2.keep fun o e=>up _ _ D.iz e,j2.keep fun o e=>up _ _ D.jz e⟩
    · rw [av (Nat.ne_of_lt (hob a ha))];exact (hf a ha).1
  done:=by
    intro X hP hw hK hc k pins s σ H E I hf st hg;subst hP hw hK;obtain ⟨xs,ys,h1,h2,hl⟩:=hg;obtain ⟨its,rv,_,p1⟩:=iL I h1;obtain ⟨jts,rw',_,p2⟩:=iL I h2;have S:zL s.heap z p q i j l m .none k its.toArray jts.toArray:=⟨st.zz,st.pp,st.qq,p1 _ _ st.ii,p2 _ _ st.jj⟩
    have e1:=rv.length;have e2:=rw'.length;refine xC (I.ok.hd hc) D S ?_ fun h' kp=>⟨rfl,jr (t':=s.toks) (fp:=[z,p,q,i,j]) I (fun a o ha e=>?_) hf⟩
    · rcases hl with hl | hl
      · left;simp;omega
      · right;simp;omega
    · simp only [List.mem_cons,List.not_mem_nil,or_false,not_or] at ha;exact kp a o ha.1 ha.2.2.1 ha.2.2.2.1 ha.2.2.2.2 e
  self:=fun _ _ _ _ _ st h=>wpAny_pyIter_zip st.zz h
noncomputable def zZ (H:Hp) (a:Addr) (ds:List PyData):Bool->Prop
  | true=>∃ vs,H a=some (.tup vs)/\bx H ds vs
  | false=>∃ o vs,H a=some (.frz o (.lst vs))/\bx H ds vs
theorem zZ.sq {K:PySem.W.Frag} {H:Hp} {a:Addr} {ds:List PyData} {b:Bool} (h:zZ H a ds b):∃ vs,rO K H a vs b/\bx H ds vs:=by
  cases b
  · obtain ⟨o,vs,e,r⟩:=h;exact ⟨vs,.inl (.inr ⟨o,e⟩),r⟩
  · obtain ⟨vs,e,r⟩:=h;exact ⟨vs,iC.of e,r⟩
theorem zZ.kp {H H':Hp} {a:Addr} {ds:List PyData} {b:Bool} (h:zZ H a ds b) (k:Kp H H'):zZ H' a ds b:=by
  cases b
  · obtain ⟨o,vs,e,r⟩:=h;exact ⟨o,vs,k.2 _ _ _ e,bx.kp k _ _ r⟩
  · obtain ⟨vs,e,r⟩:=h;exact ⟨vs,k.1 _ _ e,bx.kp k _ _ r⟩
noncomputable def En (p:PyData×PyData):PyData:=.tuple [p.1,p.2]
noncomputable def mC (xs ys:List PyData):List PyData:=(xs.zip ys).map En
theorem zH {xs ys:List PyData} {i:Nat} {d:PyData} (h:(mC xs ys)[i]?=some d):∃ x y,xs[i]?=some x/\ys[i]?=some y/\d=.tuple [x,y]:=by
  unfold mC at h;rw [List.getElem?_map] at h;cases e:(xs.zip ys)[i]? with
  | none=>rw [e] at h;cases h
  | some p =>
    rw [e] at h;obtain ⟨h1,h2⟩:=List.getElem?_zip_eq_some.mp e;exact ⟨p.1,p.2,h1,h2,(Option.some.inj h).symm⟩
theorem oM (xs ys:List PyData):(mC xs ys).length=min xs.length ys.length:=by unfold mC;simp
theorem AA {K:PySem.W.Frag} {l m:Addr} {b c:Bool} {xs ys:List PyData}:zJ (FD K l m b c) (fun H=>zZ H l xs b/\zZ H m ys c) (mC xs ys) where
  go:=fun i H ⟨h1,h2⟩ hi=>by
    rw [oM] at hi;obtain ⟨vs,s1,r1⟩:=h1.sq (K:=K);obtain ⟨us,s2,r2⟩:=h2.sq (K:=K);obtain ⟨x,hx,_⟩:=r1.get (List.getElem?_eq_getElem (show i < xs.length by omega));obtain ⟨y,hy,_⟩:=r2.get (List.getElem?_eq_getElem (show i < ys.length by omega));exact ⟨vs,us,x,y,s1,s2,hx,hy⟩
  yld:=fun i H v H' d ⟨h1,h2⟩ hd h=>by
    obtain ⟨a,x,y,ha,rfl,rfl,k1,k2⟩:=h;obtain ⟨vs,s1,r1⟩:=h1.sq (K:=K);obtain ⟨us,s2,r2⟩:=h2.sq (K:=K);obtain ⟨dx,dy,e1,e2,rfl⟩:=zH hd;obtain ⟨x',hx,px⟩:=r1.get e1;obtain ⟨y',hy,py⟩:=r2.get e2;have q1:=k1 vs s1;have q2:=k2 us s2;rw [hx] at q1;rw [hy] at q2;cases q1;cases q2;exact ⟨cA ha _,dX ha (bx.cons px (bx.cons py bx.nil))⟩
  stop:=fun i H ⟨h1,h2⟩ hi=>by
    rw [oM] at hi;obtain ⟨vs,s1,r1⟩:=h1.sq (K:=K);obtain ⟨us,s2,r2⟩:=h2.sq (K:=K);have l1:=r1.length;have l2:=r2.length;exact ⟨vs,us,s1,s2,by omega⟩
theorem Dx {n l m:Nat} (hl:l < n) (hm:m < n):ZA (n+4) (n+2) (n+3) n (n+1) l m:=by
  refine ⟨?_,?_,?_,?_,?_,?_,?_,?_,?_,?_,?_,?_,?_,?_,?_,?_,?_,?_⟩ <;> (intro z;have z':(_:Nat)=_:=z;omega)
section
variable {X:Cx} {elts:List Expr} {x1:Nat} {tp:Pos} {a b:Expr} {fa fb:Fe} {pos p:Pos} {nl:Nat} {G:List Str} {fs:aT->R (List PyData)}
noncomputable def GT (K:PySem.W.Frag) (ta:TA):TI:=fun σ H R=>ta σ H fun vs H1=>∃ l m xs ys b c,vs=[.ref l,.ref m]/\rO K H1 l xs b/\rO K H1 m ys c/\R (FD K l m b c) H1
theorem CO {ta:TA} (hg:Gl X "zip") (hm:X.mg "zip" = none) (ha:PA X [a,b] ta) (hs:starEach [a,b] X.env=[(false,eval a X.env),(false,eval b X.env)]) (hs2:starEach [b] X.env=[(false,eval b X.env)]) :
    PI X (.Tuple elts x1 tp) (.Call (.Name "zip" p) [a,b] [] pos) (GT X.K ta):=by
  intro pins s σ H R I h;refine Call_ (iN I hg hm boot_zip (PyProof.Rows.callWith_type1 (dm (ha pos pins s σ H _ I h) fun us s1 ⟨vs,H1,I1,r1,q1⟩=>?_) (by rw [hs,hs2]) (by rw [hs2];rfl)));obtain ⟨l,m,xs,ys,b,c,e,h1,h2,q⟩:=q1;subst e;obtain ⟨u,v,rfl,ru,rv⟩:=wm r1;cases ru;cases rv;obtain ⟨its,w1,p1,g1⟩:=iL I1 h1;obtain ⟨jts,w2,p2,g2⟩:=iL I1 h2;have ll:l < s1.heap.objs.size:=by rcases p1 with ⟨o,e,_⟩ | ⟨o,e,_⟩ <;> exact Heap.lt_size e
  have lm:m < s1.heap.objs.size:=by rcases p2 with ⟨o,e,_⟩ | ⟨o,e,_⟩ <;> exact Heap.lt_size e
  refine x5 p1 p2 fun h' hz S kp=>wpAny_pyIter_zip S.zz ?_
  have D:=Dx ll lm;have I2:aL X pins σ H1 { s1 with heap:=h' }:=I1.kept (t':=s1.toks) kp;have i2:fY h' s1.heap.objs.size l 0 b:=S.ii.toB (nU I1 h1 kp);have j2:fY h' (s1.heap.objs.size+1) m 0 c:=S.jj.toB (nU I1 h2 kp);refine ⟨_,[s1.heap.objs.size+4,s1.heap.objs.size+2,s1.heap.objs.size+3,s1.heap.objs.size,s1.heap.objs.size+1],_,_,H1,rfl,I2,zA (b:=b) (c:=c) D,⟨S.zz,S.pp,S.qq,i2,j2⟩,fun a ha=>?_,q⟩;have hle:s1.heap.objs.size<=a:=by
    simp only [List.mem_cons,List.not_mem_nil,or_false] at ha;rcases ha with rfl | rfl | rfl | rfl | rfl
    · exact Nat.le_add_right _ 4
    · exact Nat.le_add_right _ 2
    · exact Nat.le_add_right _ 3
    · exact Nat.le_refl _
    · exact Nat.le_add_right _ 1
  exact I1.fpOk hle (I1.hok.fresh hle)
noncomputable def Av (fa fb:Fe):aT->R (List PyData):=fun ρ=>fa ρ>>=fun x=>fb ρ>>=fun y=>iX x>>=fun xs=>iX y>>=fun ys=>.ok (mC xs ys)
theorem uR {H:Hp} {d:PyData} {v:V} {ds:List PyData} (h:Rp H d v) (e:iX d=.ok ds):∃ a b,v=.ref a/\zZ H a ds b:=by
  cases d with
  | list xs =>
    cases e;simp only [Rp] at h;obtain ⟨a,o,vs,rfl,h,r⟩:=h;exact ⟨a,false,rfl,o,vs,h,r⟩
  | tuple xs =>
    cases e;simp only [Rp] at h;obtain ⟨a,vs,rfl,h,r⟩:=h;exact ⟨a,true,rfl,vs,h,r⟩
  | _=>cases e
theorem xO (T:Tb X nl G) (j:Nat) (hG:G[j]?=some ("zip" : Str)) (hm:X.mg "zip" = none) (ha:Z.cY X a fa) (hb:Z.cY X b fb) (h1:aX a=true:=by rfl) (h2:aX b=true:=by rfl):Z.tz X (.Tuple elts x1 tp) (.Call (.Name "zip" p) [a,b] [] pos) (Av fa fb):=⟨have ha:=ha.un;have hb:=hb.un;by
  have g:=T.gl _ (List.mem_of_getElem? hG);refine PI.imp (CO g.1 hm (iI ha (iI hb lJ h2) h1) (by rw [bq h1,bq h2];rfl) (by rw [bq h2];rfl)) fun σ H Rk h=>?_
  obtain ⟨ρ,sl,q⟩:=h;unfold Av at q;refine ⟨ρ,sl,?_⟩;unfold ah aH;cases e1:fa ρ with
  | ex c=>rw [e1] at q;exact q
  | no=>rw [e1] at q;exact q
  | ok x =>
    rw [e1] at q;simp only [R.ok_bind] at q ⊢;cases e2:fb ρ with
    | ex c=>rw [e2] at q;exact q
    | no=>rw [e2] at q;exact q
    | ok y =>
      rw [e2] at q;simp only [R.ok_bind] at q ⊢;cases e3:iX x with
      | ex c=>exact absurd e3 (by cases x <;> simp [iX])
      | no=>rw [e3] at q;exact q.elim
      | ok xs =>
        rw [e3] at q;simp only [R.ok_bind] at q;cases e4:iX y with
        | ex c=>exact absurd e4 (by cases y <;> simp [iX])
        | no=>rw [e4] at q;exact q.elim
        | ok ys =>
          rw [e4] at q;simp only [R.ok_bind] at q;intro vs H1 s1 ra;simp only [RA] at ra;obtain ⟨v,r',rfl,p1,v',r'',rfl,p2,rfl⟩:=ra;obtain ⟨l,b1,rfl,d1⟩:=uR p1 e3;obtain ⟨m,b2,rfl,d2⟩:=uR p2 e4;obtain ⟨us,u1,_⟩:=d1.sq (K:=X.K);obtain ⟨ws,u2,_⟩:=d2.sq (K:=X.K);exact ⟨l,m,us,ws,b1,b2,rfl,u1,u2,q _ H1 s1 ⟨_,AA,fun H2 k _=>⟨d1.kp k,d2.kp k⟩⟩⟩⟩
end
noncomputable def eV (i j:Nat):PyData->aT->Option aT
  | .tuple [x,y],ρ=>some ((ρ.set i (.val x)).set j (.val y))
  | _,_=>none
section
variable {X:Cx} {nl:Nat} {G:List Str} {x y:Str} {k:Nat} {p1 p2 pos:Pos}
theorem gY (T:Tb X nl G) (i j:Nat) (hi:(X.N.take nl)[i]?=some x) (hj:(X.N.take nl)[j]?=some y):Z.vb X (.Tuple [.Name x p1,.Name y p2] k pos) (eV i j):=⟨by
  obtain ⟨i1,i2,i3⟩:=T.nm hi;obtain ⟨j1,j2,j3⟩:=T.nm hj;refine PG.imp (CN T.calm (sR (qZ T.nd i1 i2 i3) (sR (qZ T.nd j1 j2 j3) AW))) fun v σ H Q zq0=>?_
  obtain ⟨ρ,d,sl,p,q⟩:=zq0;unfold eV at q;split at q
  · rename_i e;split at e
    · rename_i ρ0 dx dy;cases e;simp only [Rp] at p;obtain ⟨a,vs,rfl,ha,r⟩:=p;obtain ⟨u,r1,rfl,pu,r⟩:=r.cons_inv;obtain ⟨w,r2,rfl,pw,r⟩:=r.cons_inv;rw [r.nil_inv] at ha;refine ⟨a,[u,w],rfl,iC.of ha,rfl,u,[w],rfl,w,[],rfl,rfl,?_⟩;refine q _ (Sl.set (c:=.val dy) (o:=some w) (Sl.set (c:=.val dx) (o:=some u) sl i ⟨u,rfl,pu⟩) j ⟨w,rfl,pw⟩) fun n e h=>?_
      obtain ⟨n1,h⟩:=df (fun e z=>by cases z) h;obtain ⟨n2,h⟩:=df (fun e z=>by cases z) h;exact ⟨h,by rw [List.getElem?_set,if_neg n1,List.getElem?_set,if_neg n2]⟩
    · cases e
  · exact q.elim⟩
end
theorem hJ {own:Nat} {fr:List Nat} {i j:Nat} (hi:i < own) (hj:j < own):∀ ρ d ρ1,eV i j d (ax own fr ρ)=some ρ1->mm (ax own fr ρ) ρ1:=fun ρ d ρ1 e=>by
  unfold eV at e;split at e
  · rename_i x y _;cases e;refine ⟨by rw [List.length_set,List.length_set],fun n c hn=>?_⟩;have at_own:n < own->c=.non:=fun h=>by
      unfold ax at hn;rw [List.getElem?_append_left (by simpa using h),List.getElem?_replicate,if_pos h] at hn;exact (Option.some.inj hn).symm
    by_cases h1:j=n
    · exact .inl (at_own (by omega))
    · by_cases h2:i=n
      · exact .inl (at_own (by omega))
      · exact .inr (by rw [List.getElem?_set,if_neg h1,List.getElem?_set,if_neg h2];exact hn)
  · cases e
open AutoSeq1 (wpAny_loadPart')
noncomputable abbrev jV (h:Heap) (e i:Addr) (k:Int) (f0 old:Value):Prop:=h.get? e=some { cls:=.type "enumerate",dict:=none,data:=.fields #[f0,.bool false,.ref i,rawInt k,.none,old],slots:=#[] }
section
variable {prog:Program} {w:World} {A:Around} {E:Value->Shared->Prop} {s:Shared} {e i l:Addr} {k:Nat} {xs:Array Value}
theorem wR {x old:Value} {Q:Value->Shared->Prop} (he:jV s.heap e i k .none old) (it:lv s.heap i l k xs) (hli:l≠i) (hle:l≠e) (hei:e≠i) (hx:xs[k]?=some x)
    (hQ:∀ h' old',jV h' e i ((k:Int)+1) (rawInt s.heap.objs.size) old'->lv h' i l (k+1) xs->IsPair h' s.heap.objs.size (.int k s.toks) x->(∀ c o,c≠e->c≠i->s.heap.get? c=some o->h'.get? c=some o)->Q (.ref s.heap.objs.size) { s with heap:=h',toks:=s.toks+1 }) :
    wpAny (model prog w) A (Builtin.«enumerate.__next__» ⟨[.ref e],[]⟩) (fun fin s'=>∃ v,fin=.done (.ret v)/\Q v s') E s:=by
  obtain ⟨hp,g,d,tk,os⟩:=s;show wpAny _ _ (field (Value.ref e) 2>>=_) _ _ _;refine wpAny_bind (wpAny_field he rfl (x:=Value.ref i) rfl ?_);refine wpAny_bind (vO it hli hx fun g1 i1 s1=>?_);replace s1:Heap.SameBut i hp g1:=s1;have e1:jV g1 e i k .none old:=(s1.2 e hei).trans he;show wpAny _ _ (field (Value.ref e) 3>>=_) _ _ (Shared.mk g1 g d tk os);refine wpAny_bind (wpAny_field e1 rfl (x:=rawInt (k:Int)) rfl ?_);show wpAny _ _ (field (Value.ref e) 4>>=_) _ _ (Shared.mk g1 g d tk os);refine wpAny_bind (wpAny_field e1 rfl (x:=Value.none) rfl ?_);show wpAny _ _ (mkInt (k:Int)>>=_) _ _ (Shared.mk g1 g d tk os);refine wpAny_bind (wpAny_mkInt ?_);show wpAny _ _ (setField (Value.ref e) 3 (rawInt ((k:Int)+1))>>=_) _ _ (Shared.mk g1 g d (tk+1) os);refine wpAny_bind (wpAny_setField_rec e1 (by simp) fun g2 e2 s2=>?_);replace s2:Heap.SameBut e g1 g2:=s2;replace e2:jV g2 e i ((k:Int)+1) .none old:=e2;show wpAny _ _ (setField (Value.ref e) 4 Value.none>>=_) _ _ (Shared.mk g2 g d (tk+1) os);refine wpAny_bind (wpAny_setField_rec e2 (by simp) fun g3 e3 s3=>?_);replace s3:Heap.SameBut e g2 g3:=s3;replace e3:jV g3 e i ((k:Int)+1) .none old:=e3;show wpAny _ _ (newTuple [Value.int k tk,x]>>=_) _ _ (Shared.mk g3 g d (tk+1) os);refine wpAny_bind (wpAny_newTuple ?_);have hsz:g3.objs.size=hp.objs.size:=by rw [s3.1,s2.1,s1.1]
  have elt:e < g3.objs.size:=Heap.lt_size e3;have e4:jV (g3.push { cls:=.type "tuple",data:=.seq #[.int k tk,x] }) e i ((k:Int)+1) .none old:=Heap.get?_push_of_some _ e3;have t4:IsPair (g3.push { cls:=.type "tuple",data:=.seq #[.int k tk,x] }) g3.objs.size (.int k tk) x:=Heap.get?_push_size _ rfl;have i3:lv g3 i l (k+1) xs:=i1.keep (fun o q=>s3.extBut _ _ hei.symm (s2.extBut _ _ hei.symm q)) fun o q=>s3.extBut _ _ hle (s2.extBut _ _ hle q)
  have k3:∀ c o,c≠e->c≠i->hp.get? c=some o->g3.get? c=some o:=fun c o c1 c2 q=>s3.extBut _ _ c1 (s2.extBut _ _ c1 (s1.extBut _ _ c2 q))
  show wpAny _ _ (Builtin.SmallTypes.ownedTupleIsFree (Value.ref e)>>=_) _ _ (Shared.mk (g3.push { cls:=.type "tuple",data:=.seq #[.int k tk,x] }) g d (tk+1) os);refine wpAny_bind ?_;unfold Builtin.SmallTypes.ownedTupleIsFree;refine wpAny_bind (wpAny_field e4 rfl (x:=Value.none) rfl (wpAny_pure ?_));simp only [if_true];refine wpAny_bind (wpAny_rule ?_);refine wpAny_bind (wpAny_field e4 rfl (x:=old) rfl ?_);refine wpAny_bind (wpAny_setField_rec e4 (by simp) fun g5 e5 s5=>?_);replace s5:Heap.SameBut e (g3.push { cls:=.type "tuple",data:=.seq #[.int k tk,x] }) g5:=s5;replace e5:jV g5 e i ((k:Int)+1) .none x:=e5;show wpAny _ _ (Builtin.SmallTypes.ownedTupleHandOut (Value.ref e) (Value.ref g3.objs.size)>>=_) _ _ (Shared.mk g5 g d (tk+1) os);refine wpAny_bind ?_;unfold Builtin.SmallTypes.ownedTupleHandOut;refine wpAny_bind (wpAny_setField_rec e5 (by simp) fun g6 e6 s6=>?_);replace s6:Heap.SameBut e g5 g6:=s6;replace e6:jV g6 e i ((k:Int)+1) (rawInt g3.objs.size) x:=e6;refine wpAny_setField_rec e6 (by simp) fun g7 e7 s7=>?_
  replace s7:Heap.SameBut e g6 g7:=s7;replace e7:jV g7 e i ((k:Int)+1) (rawInt g3.objs.size) x:=e7;have up:∀ c o,c≠e->g3.get? c=some o->g7.get? c=some o:=fun c o c1 q=>s7.extBut _ _ c1 (s6.extBut _ _ c1 (s5.extBut _ _ c1 (Heap.get?_push_of_some _ q)))
  have t7:IsPair g7 g3.objs.size (.int k tk) x:=s7.extBut _ _ (Nat.ne_of_gt elt) (s6.extBut _ _ (Nat.ne_of_gt elt) (s5.extBut _ _ (Nat.ne_of_gt elt) t4));rw [hsz] at e7 t7;refine wpAny_bind (wpAny_letGo (wpAny_pure ⟨_,rfl,?_⟩));show Q (.ref g3.objs.size) _;rw [hsz];exact hQ g7 x e7 (i3.keep (fun o q=>up _ _ hei.symm q) fun o q=>up _ _ hle q) t7 fun c o c1 c2 q=>up c o c1 (k3 c o c1 c2 q)
theorem wS {x old:Value} {Q:Option Value->Shared->Prop} (he:jV s.heap e i k .none old) (it:lv s.heap i l k xs) (hli:l≠i) (hle:l≠e) (hei:e≠i) (hx:xs[k]?=some x)
    (hQ:∀ h' old',jV h' e i ((k:Int)+1) (rawInt s.heap.objs.size) old'->lv h' i l (k+1) xs->IsPair h' s.heap.objs.size (.int k s.toks) x->(∀ c o,c≠e->c≠i->s.heap.get? c=some o->h'.get? c=some o)->Q (some (.ref s.heap.objs.size)) { s with heap:=h',toks:=s.toks+1 }) :
    wpAny (model prog w) A (pyNext (.ref e)) Q E s:=by
  have hT:s.TypeIs (.ref e) "enumerate" := ⟨_,he,rfl⟩
  unfold pyNext;exact wpAny_bind (wpAny_attempt (wpAny_callSpecial?_slot (name:=Str.ofString "__next__") hT F.slot_enumerate_next (wpAny_call_entry F.slot_enumerate_next hT F.entry_enumerate_next (wR he it hli hle hei hx fun h' o a b c d=>wpAny_pure (hQ h' o a b c d)) (F.args_enumerate_next_1 _))))
theorem yg {old:Value} {Q:Option Value->Shared->Prop} (hh:A.handled=none) (he:jV s.heap e i k .none old) (it:lv s.heap i l k xs) (hx:xs[k]?=none) (hQ:∀ h',(∀ c o,c≠i->s.heap.get? c=some o->h'.get? c=some o)->Q none { s with heap:=h' }) :
    wpAny (model prog w) A (pyNext (.ref e)) Q E s:=by
  have hT:s.TypeIs (.ref e) "enumerate" := ⟨_,he,rfl⟩
  unfold pyNext;refine wpAny_bind (wpAny_attempt (wpAny_callSpecial?_slot (name:=Str.ofString "__next__") hT F.slot_enumerate_next (wpAny_call_entry F.slot_enumerate_next hT F.entry_enumerate_next ?_ (F.args_enumerate_next_1 _))));show wpAny _ _ (field (Value.ref e) 2>>=_) _ _ _;refine wpAny_bind (wpAny_field he rfl (x:=Value.ref i) rfl ?_);refine wpAny_bind (lN hh it hx fun h' x k1 zq0=>?_);obtain ⟨o,ho,hc⟩:=zq0;exact wpAny_bind (wpAny_isInstance (T := "StopIteration") (b:=true) ⟨o,ho,hc⟩ isSubtype_stop (wpAny_pure (hQ _ fun c o c1 q=>k1 c o c1 q)))
theorem yh (l:Addr) (xs:Array Value):Meets (Builtin.«enumerate.__new__» ⟨[.type "enumerate",.ref l],[]⟩) (fun _ R s=>t9 s.heap l xs /\
    ∀ h',jV h' (s.heap.objs.size+1) s.heap.objs.size 0 .none .none->lv h' s.heap.objs.size l 0 xs->(∀ c o,s.heap.get? c=some o->h'.get? c=some o)->R (.ok (.ret (.ref (s.heap.objs.size+1)))) { s with heap:=h' }) :=
  .of_wp fun prog w A R s h=>by
    obtain ⟨hp,g,d,tk,os⟩:=s;obtain ⟨h1,h⟩:=h;have hsub:=sub_enumerate;have fin:∀ oi:Obj,lv (hp.push oi) hp.objs.size l 0 xs->R (.ok (.ret (.ref (hp.push oi).objs.size))) ⟨(hp.push oi).push { cls:=.type "enumerate",data:=.fields #[.none,.bool false,.ref hp.objs.size,rawInt 0,.none,.none] },g,d,tk,os⟩:=fun oi hi=>by
      have e1:(hp.push oi).objs.size=hp.objs.size+1:=Heap.size_push ..;rw [e1];refine h _ ?_ (hi.keep (fun o q=>Heap.get?_push_of_some _ q) fun o q=>Heap.get?_push_of_some _ q) fun c o q=>Heap.get?_push_of_some _ (Heap.get?_push_of_some _ q)
      show Heap.get? _ (hp.objs.size+1)=_;rw [<- e1];exact Heap.get?_push_size _ rfl
    rcases h1 with h1 | h1
    · have l1:Heap.IsList (Shared.heap ⟨hp,g,d,tk,os⟩) l xs:=h1;obtain ⟨o,ho,_,_,_⟩:=id h1;have ho':(Shared.heap ⟨hp,g,d,tk,os⟩).get? l=some o:=ho
      wp_walk using wpAny_loadPart' ho'
      refine wpAny_stack_any fun st=>wpAny_pure ?_
      split
      · rename_i c _ _ _ _ _;cases (c==Value.type "enumerate")
        · wp_walk using wpAny_loadPart' ho',wpAny_pyIter_list l1
          exact ⟨_,rfl,fin _ (.inl ⟨⟨_,Heap.get?_push_size _ rfl,rfl,rfl⟩,Heap.IsList.push h1 _⟩)⟩
        · wp_walk using wpAny_loadPart' ho',wpAny_pyIter_list l1
          exact ⟨_,rfl,fin _ (.inl ⟨⟨_,Heap.get?_push_size _ rfl,rfl,rfl⟩,Heap.IsList.push h1 _⟩)⟩
      · wp_walk using wpAny_loadPart' ho',wpAny_pyIter_list l1
        exact ⟨_,rfl,fin _ (.inl ⟨⟨_,Heap.get?_push_size _ rfl,rfl,rfl⟩,Heap.IsList.push h1 _⟩)⟩
    · have l1:Heap.IsTuple (Shared.heap ⟨hp,g,d,tk,os⟩) l xs:=h1;obtain ⟨o,ho,_,_,_⟩:=id h1;have ho':(Shared.heap ⟨hp,g,d,tk,os⟩).get? l=some o:=ho
      wp_walk using wpAny_loadPart' ho'
      refine wpAny_stack_any fun st=>wpAny_pure ?_
      split
      · rename_i c _ _ _ _ _;cases (c==Value.type "enumerate")
        · wp_walk using wpAny_loadPart' ho',wpAny_pyIter_tuple l1
          exact ⟨_,rfl,fin _ (.inr ⟨⟨_,Heap.get?_push_size _ rfl,rfl,rfl⟩,Heap.IsTuple.push h1 _⟩)⟩
        · wp_walk using wpAny_loadPart' ho',wpAny_pyIter_tuple l1
          exact ⟨_,rfl,fin _ (.inr ⟨⟨_,Heap.get?_push_size _ rfl,rfl,rfl⟩,Heap.IsTuple.push h1 _⟩)⟩
      · wp_walk using wpAny_loadPart' ho',wpAny_pyIter_tuple l1
        exact ⟨_,rfl,fin _ (.inr ⟨⟨_,Heap.get?_push_size _ rfl,rfl,rfl⟩,Heap.IsTuple.push h1 _⟩)⟩
theorem wG {Q:Value->Shared->Prop} {l:Addr} (h1:t9 s.heap l xs)
    (h:∀ h',jV h' (s.heap.objs.size+1) s.heap.objs.size 0 .none .none->lv h' s.heap.objs.size l 0 xs->(∀ c o,s.heap.get? c=some o->h'.get? c=some o)->Q (.ref (s.heap.objs.size+1)) { s with heap:=h' }) :
    wpAny (model prog w) A (call (.type "enumerate") [.ref l]) Q E s:=by
  refine callType_new F.called_enumerate (by decide) (F.typeCall_enumerate_1 _) (F.newCall_enumerate_1 _) (fun obj=>F.args_object_init_2 obj _) F.entry_enumerate_new (yh l xs) ⟨h1,fun h' e S k=>?_⟩;exact ⟨⟨_,e,rfl⟩,h h' e S k⟩
end
end D2
namespace D2
open PySem PySem.Spec PyProof.Rows L2
noncomputable def FC (K:PySem.W.Frag) (l:Addr) (b:Bool):It :=
  ⟨fun i H=>∃ xs x,rO K H l xs b/\xs[i]?=some x,fun i H v H'=>∃ a x,H a=none/\v=.ref a/\H'=cP H a (.tup [.int i,x])/\∀ xs,rO K H l xs b->xs[i]?=some x,fun i H=>∃ xs,rO K H l xs b/\xs.length<=i⟩
structure GJ (e i l:Addr) (b:Bool) (k:Nat) (h:Heap):Prop where
  ee:∃ old,jV h e i k .none old
  ii:fY h i l k b
theorem xz {P:Program} {w:World} {K:PySem.W.Frag} {elts:List Expr} {x1} {pos:Pos} {e i l:Addr} {b:Bool} (hei:e≠i) (hle:l≠e) (hli:l≠i):rQ P w K (.Tuple elts x1 pos) (FC K l b) [e,i] e (GJ e i l b) where
  mem:=by simp
  obj:=fun k h st a ha=>by
    simp only [List.mem_cons,List.not_mem_nil,or_false] at ha;rcases ha with rfl | rfl
    · obtain ⟨_,q⟩:=st.ee;exact ⟨_,q,fun v e=>by cases e⟩
    · exact st.ii.there
  keep:=fun k h h' st kp=>⟨let ⟨o,q⟩:=st.ee;⟨o,kp e (by simp) _ q⟩,st.ii.keep fun o q=>kp i (by simp) o q⟩
  item:=by
    intro X hP hw hK hc k pins s σ H E I hf st hg;subst hP hw hK;obtain ⟨xs,x,h1,hx⟩:=hg;obtain ⟨its,rv,_,p1⟩:=iL I h1;obtain ⟨u,hu,ru⟩:=rv.get hx;obtain ⟨old,he⟩:=st.ee;refine wS he (p1 _ _ st.ii) hli hle hei (x:=u) (by simpa using hu) fun h' old' e' i' hp kp=>⟨_,rfl,?_⟩
    have elt:e < s.heap.objs.size:=Heap.lt_size he;have hob:∀ a∈[e,i],a < s.heap.objs.size:=fun a ha=>by
      simp only [List.mem_cons,List.not_mem_nil,or_false] at ha;rcases ha with rfl | rfl
      · exact elt
      · obtain ⟨o,q,_⟩:=st.ii.there;exact Heap.lt_size q
    have hn:H s.heap.objs.size=none:=I.hok.fresh (Nat.le_refl _);refine wpAny_letOwnedTupleGo_enum (s:={ s with heap:=h',toks:=s.toks+1 }) e' fun h2' e2 sb=>?_
    have up:∀ a o,a≠e->h'.get? a=some o->h2'.get? a=some o:=fun a o ha q=>sb.extBut a o ha q
    refine ⟨.ref s.heap.objs.size,_,vI (s:=s) (t':=s.toks+1) (fp:=[e,i]) (h':=h2') (u1:=.int k s.toks) (u2:=u) (v1:=.int k) (v2:=x) I hf hob (up _ _ (Nat.ne_of_gt elt) hp) (fun a o ha q=>?_) ⟨_,rfl⟩ ru,rfl,⟨_,x,hn,rfl,rfl,fun zs hz=>by rw [ku I h1 hz];exact hx⟩,?_,fun a ha=>?_⟩
    · simp only [List.mem_cons,List.not_mem_nil,or_false,not_or] at ha;exact up a o ha.1 (kp a o ha.1 ha.2 q)
    · have i2:fY h' i l (k+1) b:=by
        refine i'.toB fun ys=>?_
        cases hb:b
        · subst hb;refine ⟨fun z=>(by cases z),fun _ w=>?_⟩;obtain ⟨_,_,pl,_⟩:=I.list h1;obtain ⟨o,q,r⟩:=pl.isList;exact dU (h:=h') (xs:=_) ⟨o,kp _ _ hle hli q,r⟩ w
        · subst hb;refine ⟨fun _ w=>?_,fun z=>by cases z⟩;obtain ⟨_,_,pl,_⟩:=I.tuple h1;obtain ⟨o,q,r⟩:=pl;exact dU (h:=h') w ⟨o,kp _ _ hle hli q,r⟩
      exact ⟨⟨_,by have q:jV h2' e i ((k:Int)+1) .none old':=e2;simpa using q⟩,i2.keep fun o q=>up _ _ hei.symm q⟩
    · rw [av (Nat.ne_of_lt (hob a ha))];exact (hf a ha).1
  done:=by
    intro X hP hw hK hc k pins s σ H E I hf st hg;subst hP hw hK;obtain ⟨xs,h1,hl⟩:=hg;obtain ⟨its,rv,_,p1⟩:=iL I h1;obtain ⟨old,he⟩:=st.ee;have e1:=rv.length;refine yg (I.ok.hd hc) he (p1 _ _ st.ii) (by simp;omega) fun h' kp=>⟨rfl,jr (t':=s.toks) (fp:=[e,i]) I (fun a o ha q=>?_) hf⟩
    simp only [List.mem_cons,List.not_mem_nil,or_false,not_or] at ha;exact kp a o ha.2 q
  self:=fun _ _ _ _ _ st h=>let ⟨_,q⟩:=st.ee;wpAny_pyIter_enum q h
noncomputable def cS:Nat->List PyData->List PyData
  | _,[]=>[]
  | k,d::ds=>.tuple [.int k,d]::cS (k+1) ds
theorem gk:∀ (k:Nat) (ds:List PyData),(cS k ds).length=ds.length
  | _,[]=>rfl
  | k,d::ds=>by unfold cS;rw [List.length_cons,List.length_cons,gk]
theorem pk:∀ {k:Nat} {ds:List PyData} {i:Nat} {d:PyData},(cS k ds)[i]?=some d->∃ x,ds[i]?=some x/\d=.tuple [.int ((k+i:Nat):Int),x]
  | k,[],i,d,h=>by unfold cS at h;simp at h
  | k,x::ds,0,d,h=>by
    unfold cS at h;simp at h;exact ⟨x,rfl,by rw [<- h];simp⟩
  | k,x::ds,i+1,d,h=>by
    unfold cS at h;rw [List.getElem?_cons_succ] at h;obtain ⟨y,h1,h2⟩:=pk h;refine ⟨y,by simpa using h1,?_⟩;rw [h2];have:k+1+i=k+(i+1):=by omega
    rw [this]
theorem yr {K:PySem.W.Frag} {l:Addr} {b:Bool} {xs:List PyData}:zJ (FC K l b) (fun H=>zZ H l xs b) (cS 0 xs) where
  go:=fun i H h1 hi=>by
    rw [gk] at hi;obtain ⟨vs,s1,r1⟩:=h1.sq (K:=K);obtain ⟨x,hx,_⟩:=r1.get (List.getElem?_eq_getElem hi);exact ⟨vs,x,s1,hx⟩
  yld:=fun i H v H' d h1 hd h=>by
    obtain ⟨a,x,ha,rfl,rfl,k1⟩:=h;obtain ⟨vs,s1,r1⟩:=h1.sq (K:=K);obtain ⟨dx,e1,rfl⟩:=pk hd;obtain ⟨x',hx,px⟩:=r1.get e1;have q1:=k1 vs s1;rw [hx] at q1;cases q1;refine ⟨cA ha _,dX ha (bx.cons ?_ (bx.cons px bx.nil))⟩;rw [Nat.zero_add];exact dN
  stop:=fun i H h1 hi=>by
    rw [gk] at hi;obtain ⟨vs,s1,r1⟩:=h1.sq (K:=K);have l1:=r1.length;exact ⟨vs,s1,by omega⟩
section
variable {X:Cx} {elts:List Expr} {x1:Nat} {tp:Pos} {a b:Expr} {fa fb:Fe} {pos p:Pos} {nl:Nat} {G:List Str} {fs:aT->R (List PyData)}
noncomputable def GR (K:PySem.W.Frag) (ta:TA):TI:=fun σ H R=>ta σ H fun vs H1=>∃ l xs b,vs=[.ref l]/\rO K H1 l xs b/\R (FC K l b) H1
theorem AX {ta:TA} (hg:Gl X "enumerate") (hm:X.mg "enumerate" = none) (ha:PA X [a] ta) (hs:starEach [a] X.env=[(false,eval a X.env)]):PI X (.Tuple elts x1 tp) (.Call (.Name "enumerate" p) [a] [] pos) (GR X.K ta):=by
  intro pins s σ H R I h;refine Call_ (iN I hg hm boot_enumerate (PyProof.Rows.callWith_type1 (dm (ha pos pins s σ H _ I h) fun us s1 zq0=>?_) hs rfl));obtain ⟨vs,H1,I1,r1,q1⟩:=zq0;obtain ⟨l,xs,b,e,h1,q⟩:=q1;subst e;obtain ⟨u,rfl,ru⟩:=il r1;cases ru;obtain ⟨its,w1,p1,g1⟩:=iL I1 h1;have ll:l < s1.heap.objs.size:=by rcases p1 with ⟨o,e,_⟩ | ⟨o,e,_⟩ <;> exact Heap.lt_size e
  refine wG p1 fun h' hz S kp=>wpAny_pyIter_enum hz ?_
  have I2:aL X pins σ H1 { s1 with heap:=h' }:=I1.kept (t':=s1.toks) kp;have i2:fY h' s1.heap.objs.size l 0 b:=S.toB (nU I1 h1 kp);refine ⟨_,[s1.heap.objs.size+1,s1.heap.objs.size],_,_,H1,rfl,I2,xz (b:=b) (Nat.ne_of_gt (Nat.lt_succ_self _)) (Nat.ne_of_lt (Nat.lt_succ_of_lt ll)) (Nat.ne_of_lt ll),⟨⟨_,hz⟩,i2⟩,fun a ha=>?_,q⟩;have hle:s1.heap.objs.size<=a:=by
    simp only [List.mem_cons,List.not_mem_nil,or_false] at ha;rcases ha with rfl | rfl
    · exact Nat.le_add_right _ 1
    · exact Nat.le_refl _
  exact I1.fpOk hle (I1.hok.fresh hle)
noncomputable def lZ (fa:Fe):aT->R (List PyData):=fun ρ=>fa ρ>>=fun x=>iX x>>=fun xs=>.ok (cS 0 xs)
theorem jF (T:Tb X nl G) (j:Nat) (hG:G[j]?=some ("enumerate" : Str)) (hm:X.mg "enumerate" = none) (ha:Z.cY X a fa) (h1:aX a=true:=by rfl):Z.tz X (.Tuple elts x1 tp) (.Call (.Name "enumerate" p) [a] [] pos) (lZ fa):=⟨have ha:=ha.un;by
  have g:=T.gl _ (List.mem_of_getElem? hG);refine PI.imp (AX g.1 hm (iI ha lJ h1) (by rw [bq h1];rfl)) fun σ H Rk h=>?_
  obtain ⟨ρ,sl,q⟩:=h;unfold lZ at q;refine ⟨ρ,sl,?_⟩;unfold ah aH;cases e1:fa ρ with
  | ex c=>rw [e1] at q;exact q
  | no=>rw [e1] at q;exact q
  | ok x =>
    rw [e1] at q;simp only [R.ok_bind] at q ⊢;cases e3:iX x with
    | ex c=>exact absurd e3 (by cases x <;> simp [iX])
    | no=>rw [e3] at q;exact q.elim
    | ok xs =>
      rw [e3] at q;simp only [R.ok_bind] at q;intro vs H1 s1 ra;simp only [RA] at ra;obtain ⟨v,r',rfl,p1,rfl⟩:=ra;obtain ⟨l,b1,rfl,d1⟩:=uR p1 e3;obtain ⟨us,u1,_⟩:=d1.sq (K:=X.K);exact ⟨l,us,b1,rfl,u1,q _ H1 s1 ⟨_,yr,fun H2 k _=>d1.kp k⟩⟩⟩
end
noncomputable def zG:List PyData->List PyData->List PyData->List PyData
  | x::xs,y::ys,z::zs=>.tuple [x,y,z]::zG xs ys zs
  | _,_,_=>[]
section
variable {X:Cx} {elts:List Expr} {x1:Nat} {tp:Pos} {a b c:Expr} {fa fb fc:Fe} {pos p:Pos} {nl:Nat} {G:List Str} {fs:aT->R (List PyData)}
noncomputable def u3:PyData->R (List PyData)
  | .tuple ds=>.ok ds
  | _=>.no
noncomputable def Ef (fa fb fc:Fe):aT->R (List PyData):=fun ρ=>fa ρ>>=fun x=>fb ρ>>=fun y=>fc ρ>>=fun z=>u3 x>>=fun xs=>u3 y>>=fun ys=>u3 z>>=fun zs=>.ok (zG xs ys zs)
end
section
variable {X:Cx} {nl:Nat} {G:List Str} {x:Str} {e:Expr} {f:Fe} {q1 q2 q3 q4:Pos}
theorem lR (T:Tb X nl G) (n:Nat) (hN:X.N[n]?=some x) (he:Z.cY X e f) (hst:aX e=true:=by rfl) (hline:(q2.endLine==q3.line)=true:=by rfl) (hs:swapsWith (.Call (.Attribute (.Name x q1) "append" q2) [e] [] q3) none q4.line X.env=pure false:=by rfl) (hbase:attributeBase (.Name x q1) "append" X.env (eval (.Name x q1) X.env)=eval (.Name x q1) X.env:=by rfl):Z.kI X (.Expr (.Call (.Attribute (.Name x q1) "append" q2) [e] [] q3) q4) (gE n f):=⟨have he:=he.un;fun Fm=>by
  have hm:=T.vis x (List.mem_of_getElem? hN);have sc:starEach [e] X.env=(false,eval e X.env)::starEach [] X.env:=bq hst;refine PS.imp (vY (BA PySem.F.plainAttrs_list PySem.F.slot_list_append PySem.F.type_list_append pJ (kz hN hm.1 hm.2.1 hm.2.2) (iI he lJ hst) hbase (by rw [sc];rfl) hline sc rfl) hs) fun D σ H h=>?_
  obtain ⟨ρ,sl,q⟩:=h;unfold gE at q;cases ef:f ρ with
  | ex c=>rw [ef] at q;exact q.elim
  | no=>rw [ef] at q;exact q.elim
  | ok d =>
    rw [ef] at q;simp only [lc,R.ok_bind] at q;cases er:ρ[n]? with
    | none=>rw [er] at q;exact q.elim
    | some c =>
      rw [er] at q;cases c with
      | non=>exact q.elim
      | exc p=>exact q.elim
      | val d'=>exact q.elim
      | own d' =>
        cases d' with
        | list ds =>
          dsimp only at q;by_cases hz:ds.length < sizeLine
          · rw [if_pos hz] at q;obtain ⟨o,h2,w',rfl,p2⟩:=sl.sl.at er;simp only [iA] at p2;obtain ⟨a',vs,rfl,ha,r⟩:=p2;refine ⟨.ref a',h2,.inl ⟨rfl,_,mY.of ha⟩,ρ,sl.sl,?_⟩;unfold ah aH;rw [ef];intro us H1 s1 ra;simp only [RA] at ra;obtain ⟨v,r',rfl,p1,rfl⟩:=ra;have ha1:=s1 _ _ ha;refine ⟨a',vs,v,rfl,rfl,ha1,by rw [r.length];exact hz,q _ _ ((sl.mono s1).change er h2 ha1 (.inl ⟨_,rfl⟩) ?_)⟩;simp only [iA];exact ⟨a',_,rfl,bd,bx.kp (fV ha1 (.inl ⟨_,rfl⟩)) _ _ (bx.append (r.mono s1) (bx.cons p1 bx.nil))⟩
          · rw [if_neg hz] at q;exact q.elim
        | _=>exact q.elim⟩
end
noncomputable def jw (g:Fs):Fs:=fun ρ=>lc (g ρ)
theorem Tb.nox {X:Cx} {nl:Nat} {G:List Str} (T:Tb X nl G):Tb X.nox nl G:=⟨T.hu,T.calm,T.nd,T.vis,T.loc,T.gl⟩
section
variable {X:Cx} {nl:Nat} {G:List Str} {st:Stmt} {g:Fs} {pos:Pos}
theorem cW (h:Z.kI X.nox st g):Z.kI X st (jw g):=⟨have h:=h.un;fun Fm=>by
  intro pins s σ H D I ⟨ρ,sl,q⟩;refine wpAny_mono (h Fm pins s σ H D (I.wish _) ⟨ρ,sl,?_⟩) (fun _ _ q=>q.unwish) fun _ _ z=>False.elim z
  unfold jw at q;cases e:g ρ with
  | ok o =>
    rw [e] at q;cases o <;> exact q
  | ex c=>rw [e] at q;exact q.elim
  | no=>rw [e] at q;exact q.elim⟩
noncomputable def dO (t:aT->R Bool) (g:Fs):Nat->Fs
  | 0,_=>.no
  | n+1,ρ=>t ρ>>=fun b=>if b=true then g ρ>>=fun o=>(match o with
      | .nx ρ2=>dO t g n ρ2
      | .ct ρ2=>dO t g n ρ2
      | .bk ρ2=>.ok (.nx ρ2)
      | .rt r=>.ok (.rt r)) else .ok (.nx ρ)
noncomputable def uS (n:Nat) (t:aT->R Bool) (g:Fs):Fs:=dO t g n
theorem nc {c:Expr} {body:List Stmt} {t:aT->R Bool} (n:Nat) (hp:PassesOwn (model X.prog X.w) X.A X.env X.xe) (ht:Z.mD X c t) (hb:Z.ly X body g):Z.kI X (.While c body [] pos) (uS n t g):=⟨have ht:=ht.un;have hb:=hb.un;fun Fm=>by
  refine PS.imp (yY hp ht (hb Fm)) fun D σ H ⟨ρ,sl,q⟩=>⟨fun m σ' H'=>∃ ρ',iB Fm H' σ' ρ'/\A4 X Fm (dO t g m ρ') D,⟨n,ρ,sl,q⟩,fun m σ1 H1 zq0=>?_⟩
  obtain ⟨ρ1,sl1,q1⟩:=zq0;cases m with
  | zero=>exact q1.elim
  | succ k =>
    have q2:BE X Fm (fun ρ=>t ρ>>=fun b=>if b=true then g ρ>>=fun o=>(match o with
      | .nx ρ2=>dO t g k ρ2
      | .ct ρ2=>dO t g k ρ2
      | .bk ρ2=>.ok (.nx ρ2)
      | .rt r=>.ok (.rt r)) else .ok (.nx ρ)) D σ1 H1:=⟨ρ1,sl1,q1⟩
    refine (vj (f:=t) (k:=fun ρ b=>if b=true then g ρ>>=fun o=>(match o with
      | .nx ρ2=>dO t g k ρ2
      | .ct ρ2=>dO t g k ρ2
      | .bk ρ2=>.ok (.nx ρ2)
      | .rt r=>.ok (.rt r)) else .ok (.nx ρ)) q2).post fun b H2 ⟨ρ2,sl2,_,q3⟩=>?_
    cases b with
    | false=>exact q3 σ1 H2 sl2
    | true =>
      have q4:A4 X Fm (g ρ2>>=fun o=>(match o with
      | .nx ρ2=>dO t g k ρ2
      | .ct ρ2=>dO t g k ρ2
      | .bk ρ2=>.ok (.nx ρ2)
      | .rt r=>.ok (.rt r))) D:=q3
      show if true=true then _ else _
      rw [if_pos rfl];refine ⟨fun σ' H'=>∃ ρ',iB Fm H' σ' ρ'/\A4 X Fm (dO t g k ρ') D,fun σ' H' z=>⟨k,Nat.lt_succ_self k,z⟩,ρ2,sl2,?_⟩;cases eg:g ρ2 with
      | ex c=>rw [eg] at q4;exact q4
      | no=>rw [eg] at q4;exact q4
      | ok o =>
        rw [eg] at q4;cases o with
        | nx ρ4=>exact fun σ' H' s'=>⟨ρ4,s',q4⟩
        | ct ρ4=>exact fun σ' H' s'=>⟨ρ4,s',q4⟩
        | bk ρ4=>exact q4
        | rt r=>exact q4⟩
end
abbrev Bq:List Value:=[.type "ValueError",.type "Exception",.type "BaseException",.type "object"]
abbrev Ax:String := "ValueError.__new__"
section
variable {K:PySem.W.Frag} {h:Heap} {C:Addr}
inductive DC (h:Heap) (C:Addr) (bm:List Value):Prop
  | mk (N nm q bs hdct sn sub ab col dd k0 k1 k2 k3 k5 mN) (e:h.get? C=some (excClassObj nm q C N bs bm hdct sn sub ab col dd k0 k1 k2 k3 k5 Ax)) (n:h.Ns N mN) (i:mN "__init__" = none) (t:OwnTail h Bq bm)
noncomputable def uh (K:PySem.W.Frag) (C:Addr):List Value:=match K.lookup C with
  | some ⟨_,_,.cls cd,_⟩=>cd.mro.drop 1
  | _=>[]
theorem x8 (X:K.In h) (q:PySem.W.excIn K C Bq Ax=true):DC h C (uh K C):=by
  unfold PySem.W.excIn at q;unfold uh;cases hk:K.lookup C with
  | none=>rw [hk] at q;cases q
  | some ob =>
    rw [hk] at q;split at q
    · rename_i dd cd sl ho;cases ho;split at q
      · rename_i C' bm k0 k1 k2 k3 n k5 hm hs;simp only [Bool.not_eq_true',beq_iff_eq,Bool.and_eq_true] at q;obtain ⟨⟨⟨⟨⟨e1,e2⟩,hdel⟩,ht⟩,hok⟩,hni⟩:=q;subst e1;subst e2;obtain ⟨nm,bs,mro,ns,qn,hd,sn,sub,ab,col,del⟩:=cd;dsimp only at hm hdel hok hni ⊢;subst hm;subst hdel;have hsl:sl=#[k0,k1,k2,k3,some (.builtin Ax),k5]:=by
          obtain ⟨l⟩:=sl;simp only at hs;rw [hs]
        subst hsl;exact ⟨ns,nm,qn,bs,hd,sn,sub,ab,col,dd,k0,k1,k2,k3,k5,_,X _ _ hk,.of_isNs (PySem.W.isNs_of_in X hok),PySem.W.nsMap_none_of_in X hok hni,PySem.W.tail_of_in X ht⟩
      · cases q
    · cases q
end
noncomputable def oo (x:Str) (f:Fe):Fs:=fun ρ=>lc (f ρ)>>=fun _=>.ex x
section
variable {X:Cx} {nl:Nat} {G:List Str} {x:Str} {e:Expr} {f:Fe} {np cp pos:Pos} {C:Addr}
theorem kj (T:Tb X nl G) (j:Nat) (hG:G[j]?=some x) (hm:X.mg x=some (.ref C)) (hq:PySem.W.excIn X.K C Bq Ax=true) (he:Z.cY X.nox e f) (hst:aX e=true:=by rfl):Z.kI X (.Raise (some (.Call (.Name x np) [e] [] cp)) none pos) (oo x f):=⟨have he:=he.un;fun Fm=>by
  intro pins s σ H D I ⟨ρ,sl,q⟩;have hg:=T.gl x (List.mem_of_getElem? hG);have sc:starEach [e] X.env=(false,eval e X.env)::starEach [] X.env:=bq hst;obtain ⟨N,nm,qn,bs,hdct,sn,sub,ab,col,dd,k0,k1,k2,k3,k5,mN,hC,hN,hni,TL⟩:=x8 (I.ok.mod.kin) hq;unfold oo at q;cases ef:f ρ with
  | ex c=>rw [ef] at q;exact q.elim
  | no=>rw [ef] at q;exact q.elim
  | ok d =>
    rw [ef] at q;simp only [lc,R.ok_bind] at q;refine wpAny_Raise_call_subT (C:=C) (nm:=nm) (q:=qn) (N:=N) (bs:=bs) (bm:=uh X.K C) (hdct:=hdct) (sn:=sn) (sub:=sub) (ab:=ab) (col:=col) (dd:=dd) (k0:=k0) (k1:=k1) (k2:=k2) (k3:=k3) (k5:=k5) PySem.F.excBase_ValueError (mN:=mN) (TL.hasType rfl) (I.ok.hd T.calm) (by rw [sc];rfl) hni (mK I hg.1 hm ⟨rfl,?_⟩ hg.2.1);rw [sc];refine Calls.evalArgs_plain (wpAny_mono ?_ (fun vs s2 z=>⟨rfl,z⟩) fun _ _ y=>y);have ha:PA X.nox [e] (zc X.nox Rp (ah f aH)):=iI he lJ hst;have hw:=ha cp pins s σ H (fun vs H'=>vs.length=1/\aF H H') (I.wish _) ⟨ρ,sl.sl,by
      unfold ah aH;rw [ef];intro vs H' s' ra;simp only [RA] at ra;obtain ⟨v,r,rfl,_,rfl⟩:=ra;exact ⟨rfl,s'⟩⟩
    rw [show (X.nox.env)=X.env from rfl,sc] at hw;refine wpAny_mono hw (fun us s2 zq0=>?_) fun _ _ z=>False.elim z
    obtain ⟨vs,H2,I2,r2,hl,s12⟩:=zq0;have I2:=I2.unwish;have hlen:us.length=1:=by rw [<- r2.length];exact hl
    exact ⟨by rw [hlen];decide,I2.bk _ _ hC,hN.keeps I2.bk,TL.keeps I2.bk,fun h' p mk=>q.2 C hm pins σ H2 s2 (sl.fm.trans s12) I2 h' p us mk⟩⟩
end
noncomputable def Xh (X:Cx) (p:Addr) (ob:Obj):Cx:={ X with A:=X.A.mark (some (.ref p)),calm:=false,xe:=fun _ _=>False,pn:=(p,ob)::X.pn }
structure GM (X:Cx) (nl:Nat) (G:List Str):Prop where
  hu:X.A.units+64 < cLine
  nd:X.N.Nodup
  vis:∀ x∈X.N,BV X.env.scope x/\(x==("__debug__" : Str))=false/\(x==("__classdict__" : Str))=false
  loc:∀ x∈X.N.take nl,Bo X.env.scope x/\(X.fn x=true\/X.env.scope.names.lookup x=some .local)
  gl:∀ x∈G,Gl X x/\(x==("__debug__" : Str))=false/\x≠("__name__" : Str)
theorem Tb.h {X:Cx} {nl:Nat} {G:List Str} (T:Tb X nl G) (p:Addr) (ob:Obj):GM (Xh X p ob) nl G:=⟨T.hu,T.nd,T.vis,T.loc,T.gl⟩
noncomputable def Gx (X:Cx) (C:Addr) (hs:List ExceptHandler) (F:Addr->aT->R PyData):Prop :=
  ∀ (pins:List (Addr×Obj)) (σ:St) (Hc H:Hp) (sc s:Shared) (p:Addr) (Fm:Hp) (ρ:aT) (D:rC),aL X pins σ Hc sc->BR X.prog X.w X.stack Hc sc C H (.ref p) s->iB Fm H σ ρ ->
    (match F p ρ with
      | .ok d=>∀ v H',aF Fm H'->Rp H' d v->D.rt v H'
      | _=>False)->wpAny (model X.prog X.w) X.A (handleBy (.ref p) X.env hs) (SP X pins D) X.xe s
noncomputable abbrev Hs:=List (Str×(Addr->aT->R PyData))
inductive wu (X:Cx) (src:List ExceptHandler):Hs->Prop
  | nil:wu X src []
  | cons {c:Str} {C:Addr} {h:Addr->aT->R PyData} {hs:Hs} (hm:X.mg c=some (.ref C)) (he:Gx X C src h) (r:wu X src hs):wu X src ((c,h)::hs)
theorem wu.at {X:Cx} {src:List ExceptHandler} {c:Str} {h:Addr->aT->R PyData}:∀ {hs:Hs},wu X src hs->hs.lookup c=some h->∃ C,X.mg c=some (.ref C)/\Gx X C src h
  | _,.nil,e=>by cases e
  | _,.cons (c:=c') hm he r,e=>by
    rw [List.lookup_cons] at e;split at e
    · rename_i q;have:c=c':=by simpa using q
      subst this;cases e;exact ⟨_,hm,he⟩
    · exact wu.at r e
noncomputable def zo:List PyData->Option (List Str)
  | []=>some []
  | .str y::ds=>(zo ds).map fun r=>y::r
  | _=>none
noncomputable def GA (sep:Str):PyData->R PyData
  | .list ds=>match zo ds with
    | some ys=>if (ys.map (·.length)).sum+ys.length*sep.length<=16777216 then .ok (.str (Txt.join sep ys)) else .no
    | none=>.no
  | _=>.no
noncomputable def lp (i:Nat) (f:Fe):Fs:=fun ρ=>lc (f ρ)>>=fun d=>match ρ[i]? with
  | some (.own (.list ds))=>match d with
    | .list es=>if ds.length+es.length<=sizeLine then .ok (.nx (ρ.set i (.own (.list (ds++es))))) else .no
    | _=>.no
  | _=>.no
section
variable {X:Cx} {nl:Nat} {G:List Str} {x:Str} {e:Expr} {f:Fe} {q1 q2 q3 q4:Pos}
theorem AE:Gy X "list.extend" (fun x vs H Q=>∃ l b xs zs,x=.ref l/\vs=[.ref b]/\H l=some (.lst xs)/\Rd H b (.lst zs)/\xs.length+zs.length<=sizeLine/\Q .non (cP H l (.lst (xs++zs)))):=by
  intro pins s σ H x vs v us Q I rx rv h;obtain ⟨l,b,xs,zs,rfl,rfl,hH,hB,hz,q⟩:=h;cases rx;obtain ⟨u,rfl,ru⟩:=il rv;cases ru;obtain ⟨z,its,n,r,hl,e1⟩:=I.lstM hH;obtain ⟨z2,its2,n2,r2,e2⟩:=hB.ok I.hok;have hl2:=r2.length;have fits:its.toArray.size+its2.toArray.size<=sizeLine:=by simp only [List.size_toArray];omega
  have door:¬ (!its.toArray.isEmpty&&Builtin.List.listTooLong (its.toArray.size+its2.toArray.size))=true:=by
    rw [yG fits,Bool.and_false];exact Bool.false_ne_true
  refine call_meets F.slot_list_extend ⟨_,e1,rfl⟩ F.entry_list_extend (F.args_list_extend_2 _ _) (AutoSeq1.list_extend_list_list_0 l its.toArray n b its2.toArray n2 door (by simp only [List.size_toArray];omega) (by omega)) ⟨e1,e2,?_⟩;refine ⟨.non,_,I.lset (its':=its++its2) hH e1 (by simp) (r.append r2) ?_,rfl,q⟩;rw [List.length_append];exact hz
theorem rS (T:Tb X nl G) (n:Nat) (hN:X.N[n]?=some x) (he:Z.cY X e f) (hst:aX e=true:=by rfl) (hline:(q2.endLine==q3.line)=true:=by rfl) (hs:swapsWith (.Call (.Attribute (.Name x q1) "extend" q2) [e] [] q3) none q4.line X.env=pure false:=by rfl) (hbase:attributeBase (.Name x q1) "extend" X.env (eval (.Name x q1) X.env)=eval (.Name x q1) X.env:=by rfl):Z.kI X (.Expr (.Call (.Attribute (.Name x q1) "extend" q2) [e] [] q3) q4) (lp n f):=⟨have he:=he.un;fun Fm=>by
  have hm:=T.vis x (List.mem_of_getElem? hN);have sc:starEach [e] X.env=(false,eval e X.env)::starEach [] X.env:=bq hst;refine PS.imp (vY (BA PySem.F.plainAttrs_list PySem.F.slot_list_extend PySem.F.type_list_extend AE (kz hN hm.1 hm.2.1 hm.2.2) (iI he lJ hst) hbase (by rw [sc];rfl) hline sc rfl) hs) fun D σ H h=>?_
  obtain ⟨ρ,sl,q⟩:=h;unfold lp at q;cases ef:f ρ with
  | ex c=>rw [ef] at q;exact q.elim
  | no=>rw [ef] at q;exact q.elim
  | ok d =>
    rw [ef] at q;simp only [lc,R.ok_bind] at q;cases er:ρ[n]? with
    | none=>rw [er] at q;exact q.elim
    | some c =>
      rw [er] at q;cases c with
      | non=>exact q.elim
      | exc p=>exact q.elim
      | val d'=>exact q.elim
      | own d' =>
        cases d' with
        | list ds =>
          cases d with
          | list es =>
            dsimp only at q;by_cases hz:ds.length+es.length<=sizeLine
            · rw [if_pos hz] at q;obtain ⟨o,h2,w',rfl,p2⟩:=sl.sl.at er;simp only [iA] at p2;obtain ⟨a',vs,rfl,ha,r⟩:=p2;refine ⟨.ref a',h2,.inl ⟨rfl,_,mY.of ha⟩,ρ,sl.sl,?_⟩;unfold ah aH;rw [ef];intro us H1 s1 ra;simp only [RA] at ra;obtain ⟨v,r',rfl,p1,rfl⟩:=ra;have ha1:=s1 _ _ ha;simp only [Rp] at p1;obtain ⟨b,o2,ws,rfl,hb,rb⟩:=p1;refine ⟨a',b,vs,ws,rfl,rfl,ha1,.inr ⟨o2,hb⟩,by rw [r.length,rb.length];exact hz,q _ _ ((sl.mono s1).change er h2 ha1 (.inl ⟨_,rfl⟩) ?_)⟩;simp only [iA];exact ⟨a',_,rfl,bd,bx.kp (fV ha1 (.inl ⟨_,rfl⟩)) _ _ (bx.append (r.mono s1) rb)⟩
            · rw [if_neg hz] at q;exact q.elim
          | _=>exact q.elim
        | _=>exact q.elim⟩
end
section
variable {X:Cx} {a b c:Expr} {fa fb fc:Fe} {pos p2:Pos} {nl:Nat} {G:List Str} {x:Str} {p:Pos}
theorem wo:∀ {xs:List V} {vs:List Value},vs.length=xs.length->(∀ (j:Nat) (v:Value),vs[j]?=some v->∃ x,xs[j]?=some x/\bM x v)->bA xs vs
  | [],[],_,_=>.nil
  | [],_::_,e,_=>by cases e
  | _::_,[],e,_=>by cases e
  | x::xs,v::vs,e,h=>by
    obtain ⟨y,e1,r⟩:=h 0 v rfl;cases e1;exact .cons r (wo (by simpa using e) fun j u hu=>by
      obtain ⟨z,e2,r2⟩:=h (j+1) u (by simpa using hu);exact ⟨z,by simpa using e2,r2⟩)
end
section
variable {prog:Program} {w:World} {A:Around} {E:Value->Shared->Prop} {s:Shared}
theorem oZ {R:List Value->Shared->Prop} {r:Addr} {a b c:Int} {t u v:Tok} {n:Nat} (hh:A.handled=none) (hr:IsRange s.heap r a b c t u v) (hsmall:Builtin.Range.small a b c=true)
    (hn:Builtin.Range.rangeSize a b c=n) (hlen:n<=2 ^ 24)
    (h:∀ (h':Heap) (tk:Nat) (acc:Array Value),(∀ b o,s.heap.get? b=some o->h'.get? b=some o)->ItemsOf (fun i v=>∃ t,v=.int (a+i*c) t) acc n->R acc.toList { s with heap:=h',toks:=tk }) :
    wpAny (model prog w) A (collect (.ref r)) R E s:=by
  unfold collect;refine wpAny_bind (wpAny_runValue (codeAny_builtin F.entry_proto_collect ?_));rw [Around.under_plainId PySem.F.plain_proto_collect _];show wpAny _ A.in1 (newList []>>=fun l=>again (.builtin "list.__iadd__" ⟨[l,.ref r],[]⟩)) _ _ s;refine wpAny_bind (wpAny_newObj_type ?_);refine wpAny_pure ⟨plainId_quiet PySem.F.plain_list_iadd _,codeAny_builtin F.entry_list_iadd ?_⟩;rw [Around.under_plainId PySem.F.plain_list_iadd _];have hS₁:(s.heap.push { cls:=.type "list",data:=.seq ([]:List Value).toArray }).get? s.heap.objs.size=some { cls:=.type "list",data:=.seq #[] }:=Heap.get?_push_size _ rfl;show wpAny _ A.in1 (Builtin.List.listExtendWith (.ref s.heap.objs.size) (.ref r) (.ref s.heap.objs.size)) _ _ _;have key:=wpAny_extend_range (prog:=prog) (w:=w) (A:=A) (s:={ s with heap:=s.heap.push { cls:=.type "list",data:=.seq ([]:List Value).toArray } })
    (R:=fun (q:Result) (s':Shared)=>∃ (h':Heap) (tk:Nat) (acc':Array Value) (c':Nat),q=.ok (.ret (.ref s.heap.objs.size))/\s'={ s with heap:=h',toks:=tk } /\
      (∀ b o,s.heap.get? b=some o->h'.get? b=some o)/\h'.get? s.heap.objs.size=some { cls:=.type "list",dict:=none,data:=.seq acc' c',slots:=#[] }/\ItemsOf (fun i v=>∃ t,v=.int (a+i*c) t) acc' n)
    hh (Heap.get?_push_of_some _ hr) hsmall hn hlen s.heap.objs.size (.ref s.heap.objs.size) 0 hS₁
    (fun h' tk acc' c' hk hS' hacc=>⟨h',tk,acc',c',rfl,rfl,fun b o e=>hk b o (Nat.ne_of_lt (Heap.lt_size e)) (Heap.get?_push_of_some _ e),hS',hacc⟩)
  refine wpAny_mono key (fun fin s' x=>?_) fun e s' x=>?_
  · cases fin with
    | done f =>
      obtain ⟨h',tk,acc',c',e,rfl,hk,hS',hacc⟩:=x;cases e;show wpAny _ A (load s.heap.objs.size>>=_) _ _ _;refine wpAny_bind (wpAny_load hS' ?_);exact wpAny_pure (h h' tk acc' hk hacc)
    | again c' =>
      obtain ⟨hq,hc⟩:=x;refine ⟨hq,codeAny_mono hc fun q s' zq0=>?_⟩;obtain ⟨h',tk,acc',c',e,e2,hk,hS',hacc⟩:=zq0;subst e e2;show wpAny _ A (load s.heap.objs.size>>=_) _ _ _;refine wpAny_bind (wpAny_load hS' ?_);exact wpAny_pure (h h' tk acc' hk hacc)
  · obtain ⟨h',tk,acc',c',e,_⟩:=x;cases e
theorem mB (r:Addr) (a b c:Int) (t u v:Tok) (n:Nat) (hsmall:Builtin.Range.small a b c=true) (hn:Builtin.Range.rangeSize a b c=n) (hlen:n<=2 ^ 24):Meets (Builtin.«tuple.__new__» ⟨[.type "tuple",.ref r],[]⟩)
      (fun A R s=>A.handled=none/\IsRange s.heap r a b c t u v/\∀ (h':Heap) (tk:Nat) (acc:Array Value),(∀ b o,s.heap.get? b=some o->h'.get? b=some o)->ItemsOf (fun i v=>∃ t,v=.int (a+i*c) t) acc n ->
        R (.ok (.ret (.ref h'.objs.size))) { s with heap:=h'.push { cls:=.type "tuple",data:=.seq acc },toks:=tk }) :=
  .of_wp fun prog w A R s h=>by
    obtain ⟨hh,hr,h⟩:=h;have hsub:=sub_tuple_self;have hinit:=init_tuple_lookup;have hmh:=madeHere_tuple;have hT:s.TypeIs (.ref r) "range" := ⟨_,hr,rfl⟩
    have hh1:A.in1.handled=none:=hh
    wp_walk using wpAny_typeOf hT,oZ hh1 hr hsmall hn hlen
    intro h' tk acc hk hacc;show wpAny _ _ (Builtin.Tuple.tupleExact acc.toList.toArray>>=fun v=>ret v) _ _ _;unfold Builtin.Tuple.tupleExact;refine wpAny_bind (wpAny_newObj_type ?_ (show acc.toList.toArray.size<=sizeLine by simp only [Array.toArray_toList];rw [hacc.1,sizeLine_eq];omega));refine wpAny_pure ⟨_,rfl,?_⟩;have e:acc.toList.toArray=acc:=by simp
    rw [e];exact h h' tk acc hk hacc
theorem lE {Q:Value->Shared->Prop} {r:Addr} {a b c:Int} {t u v:Tok} {n:Nat} (hh:A.handled=none) (hr:IsRange s.heap r a b c t u v) (hsmall:Builtin.Range.small a b c=true) (hn:Builtin.Range.rangeSize a b c=n) (hlen:n<=2 ^ 24)
    (h:∀ (h':Heap) (tk:Nat) (acc:Array Value),(∀ b o,s.heap.get? b=some o->h'.get? b=some o)->ItemsOf (fun i v=>∃ t,v=.int (a+i*c) t) acc n->Q (.ref h'.objs.size) { s with heap:=h'.push { cls:=.type "tuple",data:=.seq acc },toks:=tk }) :
    wpAny (model prog w) A (call (.type "tuple") [.ref r]) Q E s:=by
  refine callType_new F.called_tuple (by decide) (F.typeCall_tuple_1 _) (F.newCall_tuple_1 _) (fun obj=>F.args_object_init_2 obj _) F.entry_tuple_new
    (mB r a b c t u v n hsmall hn hlen) ⟨hh,hr,fun h' tk acc hk hacc=>⟨⟨_,Heap.get?_push_size _ rfl,rfl⟩,h h' tk acc hk hacc⟩⟩
end
section
variable {X:Cx} {a b c:Expr} {fa fb fc:Fe} {pos p2:Pos} {nl:Nat} {G:List Str} {x:Str} {p:Pos} {fs:aT->R (List PyData)} {pos2:Pos}
noncomputable def jv (lo:Int) (n:Nat):List V:=(List.range n).map fun (k:Nat)=>.int (lo+k)
theorem xn {H:Hp} (lo:Int) (n:Nat):bx H (bL lo n) (jv lo n):=by
  have key:∀ l:List Nat,bx H (l.map fun (k:Nat)=>PyData.int (lo+k)) (l.map fun (k:Nat)=>V.int (lo+k)):=by
    intro l;induction l with
    | nil=>exact bx.nil
    | cons k l ih=>exact bx.cons dN ih
  exact key _
theorem u8 {lo:Int} {n:Nat} {acc:Array Value} (h:ItemsOf (fun i v=>∃ t,v=.int (lo+(i:Int)*1) t) acc n):bA (jv lo n) acc.toList:=by
  refine wo (by rw [Array.length_toList,h.1];simp [jv]) fun j v hj=>?_
  obtain ⟨t,e⟩:=h.2 j v (by rw [<- Array.getElem?_toList];exact hj);have hjn:j < n:=by
    have:=(List.getElem?_eq_some_iff.mp hj).1;rw [Array.length_toList,h.1] at this;exact this
  refine ⟨.int (lo+j),?_,t,by rw [e];simp⟩;unfold jv;rw [List.getElem?_map,List.getElem?_range hjn];rfl
theorem uP (lo:Int) (n:Nat):(jv lo n).length=n:=by simp [jv]
noncomputable def Go (mk:List V->HO) (ta:TA):TE:=fun σ H Q=>ta σ H fun vs H1=>∃ j:Int,vs=[.int j]/\j<=16777216/\-(2 ^ 62)<=j/\∀ l,H1 l=none->Q (.ref l) (cP H1 l (mk (jv 0 j.toNat)))
theorem yV {ta:TA} (T:Tb X nl G) (i:Nat) (hGi:G[i]?=some ("tuple" : Str)) (hmi:X.mg "tuple" = none) (j:Nat) (hG:G[j]?=some ("range" : Str)) (hm:X.mg "range" = none) (ha:PA X [a] ta) (hs:aX a=true:=by rfl) :
    PE X (.Call (.Name "tuple" p) [.Call (.Name "range" p2) [a] [] pos2] [] pos) (Go .tup ta):=by
  intro pins s σ H Q I h;have g1:=T.gl _ (List.mem_of_getElem? hGi);have g2:=T.gl _ (List.mem_of_getElem? hG);have sc:starEach [Expr.Call (.Name "range" p2) [a] [] pos2] X.env=(false,eval (Expr.Call (.Name "range" p2) [a] [] pos2) X.env)::starEach [] X.env:=bq (by rfl);refine Call_ (iN I g1.1 hmi PyProof.Rows.boot_tuple (PyProof.Rows.callWith_type1 ?_ sc rfl));rw [sc];refine Calls.spliced_cons ?_;refine Call_ (iN I g2.1 hm boot_range (PyProof.Rows.callWith_type1 (dm (ha pos2 pins s σ H _ I h) fun us s1 zq0=>?_) (bq hs) rfl));obtain ⟨vs,H1,I1,r1,q1⟩:=zq0;obtain ⟨n,e,h1,h2,q⟩:=q1;subst e;obtain ⟨u,rfl,t,rfl⟩:=il r1;refine call_range_1 (Calls.spliced_nil ?_);have hsz:Builtin.Range.rangeSize 0 n 1=n.toNat:=by rw [rangeSize_one];split <;> omega
  refine lE (n:=n.toNat) (I1.ok.hd T.calm) (IsRange.new ..) (small_one (by omega) (by omega) (by omega) (by omega)) hsz (by omega) fun h' tk acc kp hacc=>?_
  have kp':∀ b o,s1.heap.get? b=some o->h'.get? b=some o:=fun b o e=>kp b o (Heap.get?_push_of_some _ e)
  have hg:s1.heap.get? h'.objs.size=none:=by
    cases e:s1.heap.get? h'.objs.size with
    | none=>rfl
    | some o=>exact absurd (Heap.lt_size (kp' _ _ e)) (Nat.lt_irrefl _)
  have hn:=sF I1 hg;refine ⟨.ref h'.objs.size,_,sE (s:=s1) (t':=tk) (o:=.tup (jv 0 n.toNat)) I1 (fun b o e=>Heap.get?_push_of_some _ (kp' b o e)) hg hn ⟨by rw [uP,sizeLine_eq];omega,acc.toList,u8 hacc,_,Heap.get?_push_size _ rfl,rfl,⟨_,by simp;rfl⟩,rfl⟩,rfl,q _ hn⟩
noncomputable def BG (mk:List PyData->PyData):List PyData->R PyData
  | [.int j]=>if j<=16777216/\-(2 ^ 62)<=j then .ok (mk (bL 0 j.toNat)) else .no
  | _=>.no
noncomputable def ye (fs:aT->R (List PyData)):Fe:=fun ρ=>fs ρ>>=BG .tuple
noncomputable def D0 (fs:aT->R (List PyData)):Fe:=fun ρ=>fs ρ>>=BG .list
theorem wC (T:Tb X nl G) (i:Nat) (hGi:G[i]?=some ("tuple" : Str)) (hmi:X.mg "tuple" = none) (j:Nat) (hG:G[j]?=some ("range" : Str)) (hm:X.mg "range" = none) (ha:Z.tx X [a] fs) (hs:aX a=true:=by rfl):Z.cY X (.Call (.Name "tuple" p) [.Call (.Name "range" p2) [a] [] pos2] [] pos) (ye fs):=⟨have ha:=ha.un;PE.imp (yV T i hGi hmi j hG hm ha hs) fun σ H Q h=>(nC (I:=Rp) (f:=fs) (k:=fun _=>BG .tuple) (fO (X:=X) gt Q) h).post fun vs H1 ⟨_,ds,_,_,p1,q1⟩=>by
    unfold BG at q1;split at q1
    · rename_i n;split at q1
      · rename_i hz;simp only [RA] at p1;obtain ⟨v,r',rfl,p,rfl⟩:=p1;have ev:v=.int n:=by simpa only [Rp] using p
        subst ev;exact ⟨n,rfl,hz.1,hz.2,fun l hl=>q1 _ _ (cA hl _) (dX hl (xn 0 n.toNat))⟩
      · exact q1.elim
    · exact q1.elim⟩
end
section
variable {X:Cx} {a b:Expr} {fa fb:Fe} {pos p2:Pos}
noncomputable def GB:PyData->PyData->R PyData
  | .list xs,.int k=>if -(2 ^ 63)<=k/\k < 2 ^ 63/\xs.length*k.toNat<=sizeLine then .ok (.list (List.replicate k.toNat xs).flatten) else .no
  | _,_=>.no
noncomputable def DR:PyData->Option Int->Option Int->R PyData
  | .list xs,lo,hi=>.ok (.list (nF xs lo hi))
  | _,_,_=>.no
noncomputable def FV (fa:Fe) (lo hi:Fo):Fe:=fun ρ=>fa ρ>>=fun d=>lo ρ>>=fun l=>hi ρ>>=fun u=>DR d l u
end
theorem bx.set {H:Hp} {d:PyData} {v:V} (p:Rp H d v):∀ {ds:List PyData} {vs:List V} (j:Nat),bx H ds vs->bx H (ds.set j d) (vs.set j v)
  | [],vs,j,r=>by rw [r.nil_inv];exact bx.nil
  | d'::ds,vs,j,r=>by
    obtain ⟨v',r',rfl,p',t⟩:=r.cons_inv;cases j with
    | zero=>exact bx.cons p t
    | succ j=>exact bx.cons p' (bx.set p j t)
noncomputable def ib (i:Nat) (fk fv:Fe):Fs:=fun ρ=>fv ρ>>=fun v=>lc (fk ρ)>>=fun k=>match ρ[i]?,k with
  | some (.own (.list ds)),.int n=>match vJ ds.length n with
    | some j=>.ok (.nx (ρ.set i (.own (.list (ds.set j v)))))
    | none=>.no
  | _,_=>.no
section
variable {X:Cx} {nl:Nat} {G:List Str} {x:Str} {f:Fe} {e:Expr}
theorem jG {k v:Expr} {fk fv:Fe} {q1 q2 q3:Pos} (T:Tb X nl G) (n:Nat) (hN:X.N[n]?=some x) (hk:Z.cY X.nox k fk) (hv:Z.cY X v fv) (hs:swapsWithSole [.Subscript (.Name x q1) k q2] v q3.line X.env=pure false:=by rfl) (hw:swappedStores [.Subscript (.Name x q1) k q2] v X.env=pure none:=by rfl) (h1:(assignEach [.Subscript (.Name x q1) k q2] X.env).map (·.2)=[assign (.Subscript (.Name x q1) k q2) X.env]:=by rfl) (ha:∀ v,assign (.Subscript (.Name x q1) k q2) X.env v=(do
      let ov <- holding [v] (eval (.Name x q1) X.env)
      let iv <- holding [v,ov] (eval k X.env)
      standAt q2
      holding [v,ov,iv] (setItem ov iv v)
      release [v,ov,iv] []):=by intro _;rfl):Z.kI X (.Assign [.Subscript (.Name x q1) k q2] v q3) (ib n fk fv):=⟨have hk:=hk.un;have hv:=hv.un;fun Fm=>by
  have hm:=T.vis x (List.mem_of_getElem? hN);have hkX:PE X k (fun σ H Q=>jY X.nox im fk σ H Q):=fun pins s σ H Q I h=>wpAny_mono (hk pins s σ H Q (I.wish _) h) (fun v s' ⟨y,H',I',r,q⟩=>⟨y,H',I'.unwish,r,q⟩) fun _ _ z=>False.elim z
  refine PS.imp (CP hv (CM (kz hN hm.1 hm.2.1 hm.2.2) hkX zi ha) hs hw h1) fun D σ H h=>?_
  refine (nD (P:=im) (f:=fv) (k:=fun ρ v=>lc (fk ρ)>>=fun k=>match ρ[n]?,k with
    | some (.own (.list ds)),.int m=>match vJ ds.length m with
      | some j=>.ok (.nx (ρ.set n (.own (.list (ds.set j v)))))
      | none=>.no
    | _,_=>.no) h).post fun vv H1 ⟨ρ1,dv,sl1,_,p1,q1⟩=>?_
  cases ef:fk ρ1 with
  | ex c=>rw [ef] at q1;exact q1.elim
  | no=>rw [ef] at q1;exact q1.elim
  | ok kd =>
    rw [ef] at q1;simp only [lc,R.ok_bind] at q1;cases er:ρ1[n]? with
    | none=>rw [er] at q1;exact q1.elim
    | some c =>
      rw [er] at q1;cases c with
      | non=>exact q1.elim
      | exc p=>exact q1.elim
      | val d'=>exact q1.elim
      | own d' =>
        cases d' with
        | list ds =>
          cases kd with
          | int m =>
            dsimp only at q1;cases ei:vJ ds.length m with
            | none=>rw [ei] at q1;exact q1.elim
            | some j =>
              rw [ei] at q1;obtain ⟨o,h2,w',rfl,p2⟩:=sl1.sl.at er;simp only [iA] at p2;obtain ⟨a',vs,rfl,ha',r⟩:=p2;refine ⟨.ref a',h2,ρ1,sl1.sl,?_⟩;rw [ef];intro yv H3 s3 p3;have ev:yv=.int m:=by simpa only [Rp] using p3
              have ha3:=s3 _ _ ha';have r3:=r.mono s3;refine ⟨a',vs,m,j,rfl,ev,ha3,by rw [r.length];exact ei,q1 _ _ ((sl1.mono s3).change er h2 ha3 (.inl ⟨_,rfl⟩) ?_)⟩;simp only [iA];exact ⟨a',_,rfl,bd,bx.kp (fV ha3 (.inl ⟨_,rfl⟩)) _ _ (bx.set (p1.mono s3) j r3)⟩
          | _=>exact q1.elim
        | _=>exact q1.elim⟩
noncomputable def Fl (g:Int->Int->Int):PyData->PyData->R PyData
  | .int i,.int j=>.ok (.int (g i j))
  | _,_=>.no
noncomputable def xo (i:Nat) (g:Int->Int->Int) (f:Fe):Fs:=fun ρ=>ag i ρ>>=fun x=>f ρ>>=fun y=>Fl g x y>>=fun z=>.ok (.nx (ρ.set i (.val z)))
theorem Ao {op:Operator} {g:Int->Int->Int} {pos pos':Pos} (ho:FH X op (GC g)) (T:Tb X nl G) (i:Nat) (hN:(X.N.take nl)[i]?=some x) (he:cY X e f):kI X (.AugAssign (.Name x pos') op e pos) (xo i g f):=fun Fm=>by
  obtain ⟨n1,n2,n3⟩:=T.nm hN;refine PS.imp (CQ T.nd n1 n2 he ho n3) fun D σ H h=>?_
  obtain ⟨ρ,sl,q⟩:=h;unfold xo at q;cases ev:ag i ρ with
  | ex c=>exact absurd ev (by unfold ag;split <;> simp)
  | no=>rw [ev] at q;exact q.elim
  | ok dx =>
    rw [ev] at q;simp only [R.ok_bind] at q;have hc:ρ[i]?=some (.val dx):=by
      unfold ag at ev;split at ev
      · rename_i d hd;cases ev;exact hd
      · cases ev
    obtain ⟨o,h2,w',rfl,p2⟩:=sl.sl.at hc;refine ⟨w',h2,?_⟩;refine (nD (P:=im) (f:=f) (k:=fun ρ y=>Fl g dx y>>=fun z=>.ok (.nx (ρ.set i (.val z)))) ⟨ρ,sl,q⟩).post fun v H1 zq0=>?_
    obtain ⟨ρ1,d,sl1,s1,p,q1⟩:=zq0;cases dx with
    | int a =>
      cases d with
      | int b =>
        have e1:w'=.int a:=by simpa only [Rp] using p2
        have e2:v=.int b:=by simpa only [Rp] using p
        subst e1;subst e2;exact ⟨a,b,rfl,rfl,q1 _ H1 (sl1.set i (fun e z=>by cases z) ⟨.int (g a b),rfl,dN⟩)⟩
      | _=>exact q1.elim
    | _=>exact q1.elim
theorem wA {pos pos':Pos} (T:Tb X nl G) (i:Nat) (hN:(X.N.take nl)[i]?=some x) (he:Z.cY X e f):Z.kI X (.AugAssign (.Name x pos') .Add e pos) (xo i (fun a b=>a+b) f):=⟨have he:=he.un;Ao Cj T i hN he⟩
end
noncomputable def Bx:bt->bt
  | .own _=>.non
  | c=>c
noncomputable def iO (i:Nat) (d:PyData) (ρ:aT):aT:=(ρ.map Bx).set i (.val d)
noncomputable def kU:PyData->R PyData
  | .none=>.ok .none
  | .bool b=>.ok (.bool b)
  | .int k=>.ok (.int k)
  | .str x=>.ok (.str x)
  | .tuple ds=>match du ds with
    | some _=>.ok (.tuple ds)
    | none=>.no
  | _=>.no
theorem xU {d:PyData} {c:Str}:kU d≠.ex c:=by
  cases d with
  | tuple ds =>
    show (match du ds with | some _=>R.ok (PyData.tuple ds) | none=>.no)≠_;cases du ds <;> exact fun z=>nomatch z
  | _=>exact fun z=>nomatch z
noncomputable def j7 (i:Nat) (f:Fe):Fe:=fun ρ=>match ρ[i]? with
  | some (.own d)=>lc (f (iO i d ρ))>>=kU
  | _=>f ρ
section
variable {X:Cx} {pins:List (Addr×Obj)} {σ:St} {H H1:Hp} {s s':Shared} {a:Addr} {u:HO} {o:Obj}
theorem xp (h:H a=some u) (S:aF (cP H a (.frz o u)) H1):aF H (cP H1 a u):=fun b x e=>by
  by_cases hb:b=a
  · subst hb;rw [bd];rw [h] at e;exact e
  · rw [av hb];exact S b x (by rw [av hb];exact e)
theorem yq (I:aL X pins σ H s) (h:H a=some u) (hm:(∃ xs,u=.lst xs)\/∃ ks,u=.dK ks) (S:aF (cP H a (.frz o u)) H1) (J:aL X pins σ H1 s'):aL X pins σ (cP H1 a u) s':=by
  have ha:H1 a=some (.frz o u):=S a _ bd;have nt:∀ b xs,H1 b=some (.tup xs)->b≠a:=fun b xs q z=>by subst z;rw [ha] at q;cases q
  have nb:∀ b ps,H1 b=some (.tbl ps)->b≠a:=fun b ps q z=>by subst z;rw [ha] at q;cases q
  have nw:∀ b y,H1 b=some (.own y)->b≠a:=fun b y q z=>by subst z;rw [ha] at q;cases q
  have nn:∀ b,H1 b=none->b≠a:=fun b q z=>by subst z;rw [ha] at q;cases q
  have st:∀ b x,bV X.prog X.w H1 s'.heap b x->bV X.prog X.w (cP H1 a u) s'.heap b x:=fun b x q =>
    q.stay (fun c v _ e=>e) (fun c e=>by rw [av (nw _ _ e)];exact e) fun c xs e=>by rw [av (nt _ _ e)];exact e
  refine ⟨J.ok,J.os,J.bare,⟨J.base.keep,J.base.slot,fun b ob' e n hx=>?_,J.base.there,fun b xs e=>?_,fun b ob' v e=>?_,fun b ps e=>?_⟩,J.loc,J.cell,?_,fun x c e=>?_,fun p hp=>?_,fun b x e=>?_,J.len⟩
  · have:=J.base.free b ob' e n hx;rw [av (nn _ this)];exact this
  · have:=J.base.tups b xs e;rw [av (nt _ _ this)];exact this
  · have q:=I.base.frzs b ob' v e;have hb:b≠a:=fun z=>by subst z;rw [h] at q;rcases hm with ⟨_,rfl⟩ | ⟨_,rfl⟩ <;> cases q
    rw [av hb];exact J.base.frzs b ob' v e
  · obtain ⟨m,q⟩:=J.base.tbls b ps e;exact ⟨m,by rw [av (nb _ _ q)];exact q⟩
  · rw [av (nn _ J.free)];exact J.free
  · rw [av (nn _ (J.freeC x c e))];exact J.freeC x c e
  · obtain ⟨p1,p2,p3⟩:=J.pin p hp;exact ⟨p1,by rw [av (nn _ p2)];exact p2,p3⟩
  · by_cases hb:b=a
    · subst hb;rw [bd] at e;cases e;obtain ⟨_,q⟩:=(show bV X.prog X.w H1 s'.heap b (.frz o u) from J.hok b _ ha)
      exact st b u q
    · rw [av hb] at e;exact st b x (J.hok b x e)
theorem vM {ρ:aT} {i:Nat} {d:PyData} {v:V} (sl:Sl H σ ρ) (k:Kp H H1) (hv:σ[i]?=some (some v)) (hr:Rp H1 d v):Sl H1 σ (iO i d ρ):=by
  unfold iO;refine ⟨by rw [List.length_set,List.length_map];exact sl.1,fun j c w' e1 e2=>?_⟩;rw [List.getElem?_set] at e1;by_cases hij:i=j
  · subst hij;rw [if_pos rfl] at e1;split at e1
    · cases e1;rw [hv] at e2;cases e2;exact ⟨_,rfl,hr⟩
    · cases e1
  · rw [if_neg hij,List.getElem?_map] at e1;cases ec:ρ[j]? with
    | none=>rw [ec] at e1;cases e1
    | some c' =>
      rw [ec] at e1;have e1':Bx c'=c:=Option.some.inj e1;subst e1';have q:=sl.2 j c' w' ec e2;cases c' with
      | exc p=>exact q
      | non=>exact True.intro
      | val d'=>obtain ⟨v,z1,z2⟩:=q;exact ⟨v,z1,Rp.kp k _ _ z2⟩
      | own d'=>exact True.intro
end
theorem pN {H H':Hp}:∀ {ns:List Int} {vs:List V},bx H (ns.map .int) vs->bx H' (ns.map .int) vs
  | [],vs,r=>by rw [r.nil_inv];exact bx.nil
  | n::ns,vs,r=>by
    rw [List.map_cons] at r;obtain ⟨v,r',rfl,p,t⟩:=r.cons_inv;exact bx.cons (by simp only [Rp] at p ⊢;exact p) (pN t)
theorem Ac {H H':Hp} {d d':PyData} {v:V} (kt:∀ b xs,H b=some (.tup xs)->H' b=some (.tup xs)) (h:kU d=.ok d') (r:Rp H d v):Rp H' d' v:=by
  cases d with
  | tuple ds =>
    cases ei:du ds with
    | none =>
      rw [show kU (.tuple ds)=(match du ds with | some _=>R.ok (PyData.tuple ds) | none=>.no) from rfl,ei] at h;cases h
    | some ns =>
      rw [show kU (.tuple ds)=(match du ds with | some _=>R.ok (PyData.tuple ds) | none=>.no) from rfl,ei] at h;cases h;simp only [Rp] at r ⊢;obtain ⟨a,vs,e,ha,q⟩:=r;rw [iK ei] at q ⊢;exact ⟨a,vs,e,kt a vs ha,pN q⟩
  | none=>cases h;simp only [Rp] at r ⊢;exact r
  | bool b=>cases h;simp only [Rp] at r ⊢;exact r
  | int i=>cases h;simp only [Rp] at r ⊢;exact r
  | str x=>cases h;simp only [Rp] at r ⊢;exact r
  | list ds=>cases h
  | dict kvs=>cases h
theorem cY.lent {X:Cx} {e:Expr} {f:Fe} (i:Nat) (h:cY X e f):cY X e (j7 i f):=by
  intro pins s σ H Q I q;obtain ⟨ρ,sl,q⟩:=q;by_cases ho:∃ d,ρ[i]?=some (.own d)
  · obtain ⟨d,ho⟩:=ho;have el:j7 i f ρ=(lc (f (iO i d ρ))>>=kU):=by unfold j7;rw [ho]
    rw [el] at q;have go:∀ (a:Addr) (u:HO) (hu:H a=some u) (hm:(∃ xs,u=.lst xs)\/∃ ks,u=.dK ks) (o:Obj) (J:aL X pins σ (cP H a (.frz o u)) s) (sl1:Sl (cP H a (.frz o u)) σ (iO i d ρ)),wpAny (model X.prog X.w) X.A (eval e X.env) (EP X pins σ Q) X.xe s:=fun a u hu hm o J sl1=>by
      cases ef:f (iO i d ρ) with
      | no=>rw [ef] at q;exact q.elim
      | ex c=>rw [ef] at q;exact q.elim
      | ok d1 =>
        rw [ef] at q;change v7 X im (kU d1) H Q at q;cases ea:kU d1 with
        | no=>rw [ea] at q;exact q.elim
        | ex c=>exact (xU ea).elim
        | ok d2 =>
          rw [ea] at q;refine dm (h pins s σ (cP H a (.frz o u)) (fun v H'=>aF (cP H a (.frz o u)) H'/\Rp H' d1 v) J ⟨iO i d ρ,sl1,by rw [ef];exact fun v H' hs p=>⟨hs,p⟩⟩) fun w s' ⟨v,H',J',r,hs,p⟩=>?_
          exact ⟨v,cP H' a u,yq I hu hm hs J',r,q v _ (xp hu hs) (Ac (fun b xs e=>by
            have hb:b≠a:=fun z=>by subst z;rw [hs b _ bd] at e;cases e
            rw [av hb];exact e) ea p)⟩
    obtain ⟨w',h2,v,rfl,qo⟩:=sl.at ho;cases d <;> simp only [iA] at qo
    · rename_i ds;obtain ⟨a,vs,rfl,ha,r⟩:=qo;obtain ⟨o,J⟩:=gv I ha (.inl ⟨_,rfl⟩);have kp:=fV (o':=.frz o (.lst vs)) ha (.inl ⟨_,rfl⟩);have hr:Rp (cP H a (.frz o (.lst vs))) (.list ds) (.ref a):=by
        simp only [Rp];exact ⟨a,o,vs,rfl,bd,bx.kp kp _ _ r⟩
      exact go a _ ha (.inl ⟨_,rfl⟩) o J (vM sl kp h2 hr)
    · rename_i ds;obtain ⟨a,vs,rfl,ha,r⟩:=qo;obtain ⟨o,J⟩:=gv I ha (.inr ⟨_,rfl⟩);have kp:=fV (o':=.frz o (.dK vs)) ha (.inr ⟨_,rfl⟩);have hr:Rp (cP H a (.frz o (.dK vs))) (.dict ds) (.ref a):=by
        simp only [Rp];exact .inl ⟨a,o,vs,rfl,bd,eF.kp kp _ _ r⟩
      exact go a _ ha (.inr ⟨_,rfl⟩) o J (vM sl kp h2 hr)
  · have el:j7 i f ρ=f ρ:=by
      unfold j7;split
      · rename_i d e1;exact (ho ⟨d,e1⟩).elim
      · rfl
    rw [el] at q;exact h pins s σ H Q I ⟨ρ,sl,q⟩
theorem ua {X:Cx} {e:Expr} {f:Fe} (i:Nat) (h:Z.cY X e f):Z.cY X e (j7 i f) :=
  ⟨D2.cY.lent i h.un⟩
noncomputable def yo (C:Addr) (names:List Str) (ds:List PyData):PyData:=.dict ((.none,.int C)::(names.zip ds).map fun p=>(.str p.1,p.2))
noncomputable def ut (f:Str):List (PyData×PyData)->R PyData
  | []=>.no
  | (.str x,d)::r=>if x=f then .ok d else ut f r
  | _::_=>.no
noncomputable def kq (C:Addr) (f:Str):PyData->R PyData
  | .dict ((.none,.int c)::kvs)=>if c=(C:Int) then ut f kvs else .no
  | _=>.no
noncomputable def yd (C:Addr) (names:List Str) (fs:aT->R (List PyData)):Fe:=fun ρ=>fs ρ>>=fun ds=>.ok (yo C names ds)
noncomputable def FA (C:Addr) (names:List Str):Sp:=fun vs H Q _=>∃ x dx ws,vs=.ref x::ws/\H x=some (.ins C dx [])/\ws.length=names.length/\∀ H',H' x=some (.ins C dx (names.zip ws))->(∀ b,b≠x->H' b=H b)->Q .non H'
section
variable {X:Cx} {pins:List (Addr×Obj)} {σ:St} {H:Hp} {s:Shared} {a C dx:Addr} {fs:List (Str×V)}
theorem sD (I:aL X pins σ H s) (h:H a=some (.ins C dx fs)):∃ o,aL X pins σ (cP H a (.frz o (.ins C dx fs))) s:=by
  have ob:=I.hok a _ h;obtain ⟨o,hg⟩:=qV ob;have nt:∀ b xs,H b=some (.tup xs)->b≠a:=fun b xs q z=>by subst z;rw [h] at q;cases q
  have nf:∀ b o' u',H b=some (.frz o' u')->b≠a:=fun b o' u' q z=>by subst z;rw [h] at q;cases q
  have nb:∀ b ps,H b=some (.tbl ps)->b≠a:=fun b ps q z=>by subst z;rw [h] at q;cases q
  have nw:∀ b y,H b=some (.own y)->b≠a:=fun b y q z=>by subst z;rw [h] at q;cases q
  have nn:∀ b,H b=none->b≠a:=fun b q z=>by subst z;rw [h] at q;cases q
  have st:∀ b x,bV X.prog X.w H s.heap b x->bV X.prog X.w (cP H a (.frz o (.ins C dx fs))) s.heap b x:=fun b x q =>
    q.stay (fun c v _ e=>e) (fun c e=>by rw [av (nw _ _ e)];exact e) fun c xs e=>by rw [av (nt _ _ e)];exact e
  refine ⟨o,⟨I.ok,I.os,I.bare,⟨I.base.keep,I.base.slot,fun b ob' e n hx=>?_,I.base.there,fun b xs e=>?_,fun b ob' v e=>?_,fun b ps e=>?_⟩,I.loc,I.cell,?_,fun x c e=>?_,fun p hp=>?_,fun b x e=>?_,I.len⟩⟩
  · have:=I.base.free b ob' e n hx;rw [av (nn _ this)];exact this
  · have:=I.base.tups b xs e;rw [av (nt _ _ this)];exact this
  · have:=I.base.frzs b ob' v e;rw [av (nf _ _ _ this)];exact this
  · obtain ⟨m,q⟩:=I.base.tbls b ps e;exact ⟨m,by rw [av (nb _ _ q)];exact q⟩
  · rw [av (nn _ I.free)];exact I.free
  · rw [av (nn _ (I.freeC x c e))];exact I.freeC x c e
  · obtain ⟨p1,p2,p3⟩:=I.pin p hp;exact ⟨p1,by rw [av (nn _ p2)];exact p2,p3⟩
  · by_cases hb:b=a
    · subst hb;rw [bd] at e;cases e;exact ⟨hg,st b _ ob⟩
    · rw [av hb] at e;exact st b x (I.hok b x e)
theorem AD {o':HO} (h:H a=some (.ins C dx fs)):Kp H (cP H a o'):=by
  refine ⟨fun b xs e=>?_,fun b o v e=>?_⟩
  · rw [av];exact e;rintro rfl;rw [h] at e;cases e
  · rw [av];exact e;rintro rfl;rw [h] at e;cases e
end
theorem wb {H:Hp}:∀ {names:List Str} {ds:List PyData} {vs:List V},bx H ds vs->tD H ((names.zip ds).map fun p=>(.str p.1,p.2)) (names.zip vs)
  | [],ds,vs,_=>by simp only [List.zip_nil_left,List.map_nil,tD]
  | n::names,[],vs,r=>by
    simp only [bx] at r;subst r;simp only [List.zip_nil_right,List.map_nil,tD]
  | n::names,d::ds,vs,r=>by
    simp only [bx] at r;obtain ⟨v,t,rfl,p,q⟩:=r;simp only [List.zip_cons_cons,List.map_cons,tD,Bp];exact ⟨n,v,_,rfl,⟨rfl,p⟩,wb q⟩
theorem vy {H:Hp} {f:Str} {d:PyData}:∀ {kvs:List (PyData×PyData)} {fs:List (Str×V)},tD H kvs fs->ut f kvs=.ok d->∃ v,fs.lookup f=some v/\Rp H d v
  | [],fs,_,e=>by cases e
  | (k,d')::kvs,fs,r,e=>by
    simp only [tD,Bp] at r;obtain ⟨x,v,t,rfl,⟨rfl,p⟩,q⟩:=r;simp only [ut] at e;by_cases h:x=f
    · rw [if_pos h] at e;cases e;subst h;exact ⟨v,by rw [List.lookup_cons_self],p⟩
    · rw [if_neg h] at e;obtain ⟨w,w1,w2⟩:=vy q e;refine ⟨w,?_,w2⟩;rw [List.lookup_cons];have:(f==x)=false:=by
        cases z:f==x with
        | false=>rfl
        | true=>exact (h (eq_of_beq z).symm).elim
      rw [this];exact w1
theorem vx {f:Str} {c:Str}:∀ {kvs:List (PyData×PyData)},ut f kvs≠.ex c
  | [],e=>by cases e
  | (k,d)::kvs,e=>by
    cases k <;> simp only [ut] at e <;> try cases e
    split at e
    · cases e
    · exact vx e
section
variable {X:Cx} {e:Expr} {es:List Expr} {fe:Fe} {pos p:Pos} {nl:Nat} {G:List Str} {x:Str}
theorem rT {k:Nat} {C f:Addr} {fd:FuncData} {ps names:List Str} {fs:aT->R (List PyData)} (M:Mk X.K C f) (F:aY X.prog X.w X.K X.mg X.base (cQ X.prog X.w X.mg) k f fd ps (FA C names)) (hr:e8 (k+1) X.A) (T:Tb X nl G) (j:Nat) (hG:G[j]?=some x) (hm:X.mg x=some (.ref C)) (hb:bB X.K fd ps []) (ha:Z.tx X (e::es) fs) (hfs:∀ ρ ds,fs ρ=.ok ds->ds.length=names.length) (he:(e::es).all aX=true:=by rfl):Z.cY X (.Call (.Name x p) (e::es) [] pos) (yd C names fs):=⟨have ha:=ha.un;by
  rw [List.all_cons,Bool.and_eq_true] at he;have g:=T.gl x (List.mem_of_getElem? hG);intro pins s σ H Q I ⟨ρ,sl,q⟩;unfold yd at q;have base:=AV (p:=p) (pos:=pos) M F hr g.1 hm hb .nil vV ha g.2.1 (bq he.1) (oy he.2);cases e1:fs ρ with
  | ex c=>rw [e1] at q;exact dm (base pins s σ H (fun _ _=>False) I ⟨ρ,sl,by rw [e1];exact q⟩) fun u s' ⟨v,H',I',r,z⟩=>z.elim
  | no=>rw [e1] at q;exact q.elim
  | ok ds =>
    rw [e1] at q;have q':v7 X im (.ok (yo C names ds)) H Q:=q;refine dm (base pins s σ H (fun v H'=>∃ a dx vs,v=.ref a/\H a=none/\H' a=some (.ins C dx (names.zip vs))/\bx H' ds vs/\aF H H') I ⟨ρ,sl,?_⟩) fun u s' ⟨v,H',I',r,a,dx,vs,ev,hn,ha',rp,sm⟩=>?_
    · rw [e1];intro vs H1 s1 r1 y dy hy hdy hne;rw [List.append_nil];have r2:=og.mp r1;refine ⟨y,dy,vs,rfl,bd,by rw [r2.length];exact hfs ρ ds e1,fun H' h1 h2=>⟨rfl,y,dy,vs,rfl,s1.free hy,h1,?_,?_⟩⟩
      · have sm:aF H1 H':=fun b o eb=>by
          rw [h2 b (aW eb hy),av (aW eb hy),av (aW eb hdy)];exact eb
        exact r2.mono sm
      · intro b o eb;have eb1:=s1 b o eb;rw [h2 b (aW eb1 hy),av (aW eb1 hy),av (aW eb1 hdy)];exact eb1
    · subst ev;obtain ⟨o,J⟩:=sD I' ha';have kp:=AD (o':=.frz o (.ins C dx (names.zip vs))) ha';refine ⟨.ref a,_,J,r,q' _ _ (fun b x eb=>by rw [av (aW eb hn)];exact sm b x eb) ?_⟩;show Rp _ (yo C names ds) _;unfold yo;simp only [Rp];refine .inr ⟨a,o,C,dx,_,rfl,bd,?_⟩;simp only [xG];exact ⟨True.intro,tD.kp kp _ _ (wb rp)⟩⟩
noncomputable def ET (K:PySem.W.Frag) (ta:TE) (f:Str):TE:=fun σ H Q=>ta σ H fun x H1=>∃ a o C dx fs v,x=.ref a/\H1 a=some (.frz o (.ins C dx fs))/\xE K C/\eE K C f/\fs.lookup f=some v/\Q v H1
theorem AT {f:Str} {ta:TE} (he:PE X e ta) (hb:attributeBase e f X.env (eval e X.env)=eval e X.env):PE X (.Attribute e f pos) (ET X.K ta f):=by
  intro pins s σ H Q I h;refine Ad hb (dm (he pins s σ H _ I h) fun u s1 zq0=>?_);obtain ⟨x,H1,I1,rx,a,o,C,dx,fs,v,ex,ea,c,n,l,q⟩:=zq0;subst ex;obtain rfl:u=Value.ref a:=rx;obtain ⟨_,d,z,ne,ob,mA,nn,r,qq⟩:=(show bV X.prog X.w H1 s1.heap a (.frz o (.ins C dx fs)) from I1.hok a _ ea)
  obtain ⟨u',hu,ru⟩:=ki.some_of (v:=v) (o:=mA f) (by rw [<- l];exact r f);exact Au I1.kIn ⟨ob,nn,ne⟩ (c.get f) c.hd n hu (wX ru) ⟨v,H1,I1.tok _,ru,q⟩
theorem kQ {C:Addr} {f:Str} (cl:xE X.K C) (na:eE X.K C f) (he:Z.cY X e fe) (hb:attributeBase e f X.env (eval e X.env)=eval e X.env:=by rfl):Z.cY X (.Attribute e f pos) (e1 (kq C f) fe):=⟨have he:=he.un;by
  refine PE.imp (AT he hb) fun σ H Q h=>?_
  refine (fD (P:=im) (f:=fe) (k:=fun _ x=>kq C f x) (fO (X:=X) gt Q) h).post fun v H1 zq0=>?_
  obtain ⟨_,d1,_,_,p1,q1⟩:=zq0;unfold kq at q1;split at q1
  · rename_i c kvs;split at q1
    · rename_i hc;cases ef:ut f kvs with
      | no=>rw [ef] at q1;exact q1.elim
      | ex c=>exact (vx ef).elim
      | ok d =>
        rw [ef] at q1;have p2:Rp H1 (.dict ((.none,.int c)::kvs)) v:=p1;simp only [Rp] at p2;rcases p2 with ⟨a,o,ks,rfl,ha,r⟩ | ⟨a,o,C',dx,fs,rfl,ha,r⟩
        · simp only [eF,zK] at r;obtain ⟨κ,_,_,_,⟨r1,_⟩,_⟩:=r;cases κ <;> cases r1
        · simp only [xG] at r;obtain ⟨r1,r2⟩:=r;have hC:c=(C':Int):=by injection r1 with _ r3;injection r3
          have hCC:C'=C:=by
            have:(C':Int)=(C:Int):=hC.symm.trans hc;exact Int.ofNat.inj this
          subst hCC;obtain ⟨w,w1,w2⟩:=vy r2 ef;exact ⟨a,o,C',dx,fs,w,rfl,ha,cl,na,w1,q1 w H1 (aF.refl _) w2⟩
    · exact q1.elim
  · exact q1.elim⟩
end
theorem Eu {a b c:Str} {x y z:V} (h1:¬ a=b) (h2:¬ a=c) (h3:¬ b=c):h9 c z (h9 b y (h9 a x []))=[(a,x),(b,y),(c,z)]:=by
  simp only [h9,if_neg h1,if_neg h2,if_neg h3]
noncomputable abbrev fK:=List PyData->R PyData
structure fP (P:Program) (w:World) (K:PySem.W.Frag) (mg:Str->Option Value) (base:Heap) (k:Nat) (x:Str) (ps:List Str) (F:fK) (f:Addr) (fd:FuncData):Prop where
  ok:aY P w K mg base (cQ P w mg) k f fd ps (dw F ps.length)
  m:mg x=some (.ref f)
  kp:PySem.W.keepIn K (.ref f)=true
  b:bB K fd ps []
theorem aq {X:Cx} {k:Nat} {f:Addr} {fd:FuncData} {ps:List Str} {F:fK} {x:Str} {p pos:Pos} {e:Expr} {es:List Expr} {fs:aT->R (List PyData)} {nl:Nat} {G:List Str} (C:fP X.prog X.w X.K X.mg X.base k x ps F f fd) (hr:e8 k X.A) (T:Tb X nl G) (j:Nat) (hG:G[j]?=some x) (ha:Z.tx X (e::es) fs) (hlen:(e::es).length=ps.length) (hfs:∀ ρ ds,fs ρ=.ok ds->ds.length=ps.length) (he:(e::es).all aX=true:=by rfl):Z.cY X (.Call (.Name x p) (e::es) [] pos) (aD F fs):=⟨have ha:=ha.un;Ar C.ok hr T j hG C.m C.kp C.b ha hlen hfs he⟩
structure cn (K:PySem.W.Frag) (x:Str) (st:Stmt) (f:Addr) (fd:FuncData):Prop where
  ns:PySem.W.nsIn K mainGlobals x=some (some (.ref f))
  fn:fX K x x st f fd
theorem aU {K:PySem.W.Frag} {x:Str} {st:Stmt} {f:Addr} {oc:Value} {od an:Option Addr} {osl:Array (Option Value)} {kV doc pm cdv ct:Value} (a:PySem.W.nsIn K mainGlobals x=some (some (.ref f))) (l:K.lookup f=some ⟨oc,od,.func (PySem.W.fnOf x x (eo st) (de st) (ai st) .none kV doc pm an cdv ct),osl⟩) (c:PySem.W.codeIn K cdv x=true) (k:PySem.W.keepIn K (.ref f)=true) :
    cn K x st f (PySem.W.fnOf x x (eo st) (de st) (ai st) .none kV doc pm an cdv ct):=⟨a,uu l c k⟩
noncomputable def Fz (i:Nat) (g:Fs):Fs:=fun ρ=>match ρ[i]? with
  | some (.own d)=>g (ρ.set i (.val d))
  | _=>g ρ
theorem z9 {X:Cx} {st:Stmt} {g:Fs} (i:Nat) (h:Z.kI X st g):Z.kI X st (Fz i g):=⟨have h:=h.un;fun Fm=>by
  intro pins s σ H D I ⟨ρ,sl,q⟩;unfold Fz at q;split at q
  · rename_i d e;obtain ⟨H2,v,I2,sl2,_,_⟩:=Bs I sl e;exact h Fm pins s σ H2 D I2 ⟨_,sl2,q⟩
  · exact h Fm pins s σ H D I ⟨ρ,sl,q⟩⟩
end D2
namespace D2
open PySem PySem.Spec PySem.Calls PySem.W PyProof.Rows L2 Builtin Builtin.ObjectAttr Builtin.Getset_descriptor
end D2
namespace D2
open PySem PySem.Spec PyProof.Rows L2 PySem.Builtin PySem.Builtin.Str
end D2
set_option maxHeartbeats 400000
namespace D2
open PySem PySem.Spec PyProof.Rows L2 PySem.Builtin
end D2
namespace D2
open PySem PySem.Spec PyProof.Rows L2
section
variable {X:Cx} {tg o:Expr} {fo:Fe} {apos cpos:Pos}
noncomputable def Bw:PyData->R (List PyData)
  | .dict kvs=>if l4 kvs=true then .no else .ok (kvs.map (·.1))
  | _=>.no
noncomputable def BO:PyData->R (List PyData)
  | .dict kvs=>if l4 kvs=true then .no else .ok (kvs.map (·.2))
  | _=>.no
noncomputable def D9 (f:Fe):aT->R (List PyData):=fun ρ=>f ρ>>=Bw
noncomputable def Ed (f:Fe):aT->R (List PyData):=fun ρ=>f ρ>>=BO
end
end D2
namespace HT
open PySem PySem.Spec PyProof.Rows L2
section
open PySem.SeqAt
open PySem.AutoSeq1 (wpAny_loadPart')
open PySem.MeetsSeq PySem.MeetsSeq2 PySem.MeetsSeq3
end
end HT
namespace D2
open PySem PySem.Spec PyProof.Rows L2
section
variable {X:Cx} {tg a b c:Expr} {fa fb fc:Fe} {pos p2:Pos} {nl:Nat} {G:List Str} {x:Str} {p:Pos} {fs:aT->R (List PyData)}
noncomputable def DX (lo:Int) (n:Nat):List PyData:=(List.range n).map fun (k:Nat)=>.int (lo-k)
noncomputable def DZ:List PyData->R (List PyData)
  | [.int i,.int j,.int k]=>if k=-1/\-(2 ^ 62)<=i/\i < 2 ^ 62/\-(2 ^ 62)<=j/\j < 2 ^ 62 then .ok (DX i (i-j).toNat) else .no
  | _=>.no
noncomputable def D7 (fs:aT->R (List PyData)):aT->R (List PyData):=fun ρ=>fs ρ>>=DZ
end
noncomputable def mX (H:Hp):List V->List (List Int)->Prop
  | [],rs=>rs=[]
  | v::vs,rs=>∃ a r rs',v=.ref a/\rs=r::rs'/\H a=some (.tup (r.map V.int))/\mX H vs rs'
theorem mX.len {H:Hp}:∀ {vs:List V} {rs:List (List Int)},mX H vs rs->vs.length=rs.length
  | [],rs,h=>by simp only [mX] at h;rw [h];rfl
  | v::vs,rs,h=>by
    simp only [mX] at h;obtain ⟨a,r,rs',_,rfl,_,t⟩:=h;rw [List.length_cons,List.length_cons,t.len]
noncomputable def BS (lo st:Int) (n:Nat):It:=⟨fun i _=>i < n,fun i H x H'=>H'=H/\x=.int (lo+i*st),fun i _=>n<=i⟩
theorem xB {P:Program} {w:World} {K:PySem.W.Frag} {tg:Expr} (it:Addr) (lo stp:Int) (n:Nat):rQ P w K tg (BS lo stp n) [it] it (fun i h=>IsRangeIter h it (lo+(i:Nat)*stp) ((n:Int)-(i:Nat)) stp) where
  mem:=by simp
  obj:=fun i h st b hb=>by
    have e:b=it:=by simpa using hb
    subst e;exact ⟨_,st,fun v z=>by
      have z':Data.fields _=Data.cell v:=z;cases z'⟩
  keep:=fun i h h' st k=>k it (by simp) _ st
  item:=by
    intro X hP hw hK hc i pins s σ H E I hf st hg;subst hP hw hK;obtain ⟨f0,f1,f2,f3,f4,f5⟩:=hf it (by simp);have W:=Walks.range (prog:=X.prog) (w:=X.w) (I.ok.hd hc) it lo stp n;refine W.item i s _ _ hg st fun v h' tk hv st' kk=>?_
    obtain ⟨t,rfl⟩:=hv;have I1:aL X pins σ H { s with heap:=h',toks:=tk }:=I.turned (fun b o hb e=>kk b o (by simpa using hb) e) f0 f1 f3 f4 f5;exact ⟨_,rfl,vC (s:={ s with heap:=h',toks:=tk }) (n := "range_iterator") st' rfl rfl (by decide) ⟨.int (lo+i*stp),H,I1,⟨t,rfl⟩,⟨rfl,rfl⟩,st',fun b hb=>(hf b hb).1⟩⟩
  done:=by
    intro X hP hw hK hc i pins s σ H E I hf st hg;subst hP hw hK;obtain ⟨f0,f1,f2,f3,f4,f5⟩:=hf it (by simp);exact wpAny_pyNext_range_end (I.ok.hd hc) st (by have:n<=i:=hg;omega) fun h' eb=>⟨rfl,I.turned (t':=s.toks) (fun b o hb e=>eb b o hb e) f0 f1 f3 f4 f5⟩
  self:=fun _ _ _ _ _ st h=>wpAny_pyIter_rangeiter st h
noncomputable def ik (a b c:Int):Nat:=(if a < b then (b-a-1) / c+1 else 0).toNat
theorem pQ {a b c:Int} (hc:1<=c):Builtin.Range.rangeSize a b c=(ik a b c:Int):=by
  unfold Builtin.Range.rangeSize ik;rw [if_pos (by omega)];split
  · have:=Int.ediv_nonneg (a:=b-a-1) (b:=c) (by omega) (by omega);omega
  · rfl
theorem Bf {a b c:Int} (hc:1<=c):(ik a b c:Int)<=(if a < b then b-a else 0)/\(ik a b c:Int)*c<=(if a < b then b-a-1+c else 0):=by
  unfold ik;split
  · have h0:=Int.ediv_nonneg (a:=b-a-1) (b:=c) (by omega) (by omega);have h1:(b-a-1) / c<=b-a-1:=Int.ediv_le_self _ (by omega);have h2:(b-a-1) / c*c<=b-a-1:=Int.ediv_mul_le _ (by omega);have e:(((b-a-1) / c+1).toNat:Int)=(b-a-1) / c+1:=by omega
    rw [e];refine ⟨by omega,?_⟩;rw [Int.add_mul,Int.one_mul];omega
  · simp
theorem uW {a b c:Int} (ha:-(2 ^ 40)<=a) (ha':a < 2 ^ 40) (hb:-(2 ^ 40)<=b) (hb':b < 2 ^ 40) (hc:1<=c) (hc':c < 1000000):Builtin.Range.small a b c=true:=by
  unfold Builtin.Range.small;rw [pQ hc];have h:=Bf (a:=a) (b:=b) hc;simp only [Builtin.Range.rangeFitsLong,Bool.and_eq_true,Bool.or_eq_true,decide_eq_true_eq,beq_iff_eq,show c > 0 by omega,if_true];split at h <;> omega
section
variable {X:Cx} {tg a b c:Expr} {fa fb fc:Fe} {pos p2:Pos} {nl:Nat} {G:List Str} {x:Str} {p:Pos} {fs:aT->R (List PyData)}
noncomputable abbrev mZ (i j k:Int):Prop:=1<=k/\k < 1000000/\-(2 ^ 40)<=i/\i < 2 ^ 40/\-(2 ^ 40)<=j/\j < 2 ^ 40
noncomputable def Ec (ta:TA):TI:=fun σ H R=>ta σ H fun vs H1=>∃ i j k:Int,vs=[.int i,.int j,.int k]/\mZ i j k/\R (BS i k (ik i j k)) H1
theorem xl {ta:TA} (hg:Gl X "range") (hm:X.mg "range" = none) (ha:PA X [a,b,c] ta) (hs:starEach [a,b,c] X.env=[(false,eval a X.env),(false,eval b X.env),(false,eval c X.env)]) (hs2:starEach [b,c] X.env=[(false,eval b X.env),(false,eval c X.env)]) :
    PI X tg (.Call (.Name "range" p) [a,b,c] [] pos) (Ec ta):=by
  intro pins s σ H R I h;refine Call_ (iN I hg hm boot_range (PyProof.Rows.callWith_type1 (dm (ha pos pins s σ H _ I h) fun us s1 ⟨vs,H1,I1,r1,q1⟩=>?_) (by rw [hs,hs2]) (by rw [hs2];rfl)));obtain ⟨i,j,k,e,⟨k1,k2,q1,q2,q3,q4⟩,q⟩:=q1;subst e;cases r1 with
  | cons r rr =>
    cases rr with
    | cons r' rr =>
      cases rr with
      | cons r'' rr =>
        cases rr;obtain ⟨t,rfl⟩:=r;obtain ⟨t',rfl⟩:=r';obtain ⟨t'',rfl⟩:=r'';refine call_range_3 (by omega) ?_ (.inl (PyProof.noPylong_small (by omega)));refine wpAny_pyIter_range (IsRange.new ..) (uW q1 q2 q3 q4 k1 k2) ?_;have I2:aL X pins σ H1 { s1 with heap:=s1.heap.push { cls:=.type "range",data:=.fields #[.int i t,.int j t',.int k t''] },toks:=s1.toks }:=I1.kept fun b o e=>Heap.get?_push_of_some _ e
        refine ⟨_,[_],_,_,H1,rfl,I2.kept (t':=s1.toks) fun b o e=>Heap.get?_push_of_some _ e,xB _ i k (ik i j k),?_,fun b hb=>?_,q⟩
        · have e1:i+((0:Nat):Int)*k=i:=by simp
          have e2:((ik i j k:Nat):Int)-((0:Nat):Int)=Builtin.Range.rangeSize i j k:=by rw [pQ k1];simp
          rw [e1,e2];exact Heap.get?_push_size _ rfl
        · have e:=List.mem_singleton.mp hb;subst e;exact I2.fpOk (Nat.le_refl _) (I2.hok.fresh (Nat.le_refl _))
noncomputable def ig (lo st:Int) (n:Nat):List PyData:=(List.range n).map fun (k:Nat)=>.int (lo+k*st)
noncomputable def zn:List PyData->R (List PyData)
  | [.int i,.int j,.int k]=>if mZ i j k then .ok (ig i k (ik i j k)) else .no
  | _=>.no
noncomputable def vF (fs:aT->R (List PyData)):aT->R (List PyData):=fun ρ=>fs ρ>>=zn
theorem yu {lo st:Int} {n:Nat}:zJ (BS lo st n) (fun _=>True) (ig lo st n) where
  go:=fun i H _ hi=>by
    show i < n;simpa [ig] using hi
  yld:=fun i H x H' d _ hd ⟨e,y⟩=>by
    subst e;subst y;refine ⟨aF.refl _,?_⟩;unfold ig at hd;rw [List.getElem?_map] at hd;cases h:(List.range n)[i]? with
    | none=>rw [h] at hd;cases hd
    | some k =>
      rw [h] at hd;have hk:k=i:=by
        rw [List.getElem?_range] at h
        · exact (Option.some.inj h).symm
        · have:=(List.getElem?_eq_some_iff.mp h).1;simpa using this
      subst hk;cases hd;exact dN
  stop:=fun i H _ hi=>by
    show n<=i;simpa [ig] using hi
theorem rR (T:Tb X nl G) (j:Nat) (hG:G[j]?=some ("range" : Str)) (hm:X.mg "range" = none) (ha:Z.tx X [a,b,c] fs) (hl:∀ ρ ds,fs ρ=.ok ds->ds.length=3) (hs:aX a=true:=by rfl) (hs2:aX b=true:=by rfl) (hs3:aX c=true:=by rfl):Z.tz X tg (.Call (.Name "range" p) [a,b,c] [] pos) (vF fs):=⟨have ha:=ha.un;by
  have sc:starEach [c] X.env=[(false,eval c X.env)]:=bq hs3;have sb:starEach [b,c] X.env=[(false,eval b X.env),(false,eval c X.env)]:=(bq hs2).trans (by rw [sc]);have sa:starEach [a,b,c] X.env=[(false,eval a X.env),(false,eval b X.env),(false,eval c X.env)]:=(bq hs).trans (by rw [sb]);refine PI.imp (xl (T.gl _ (List.mem_of_getElem? hG)).1 hm ha sa sb) fun σ H Rk zq0=>?_
  obtain ⟨ρ,sl,q⟩:=zq0;refine ⟨ρ,sl,?_⟩;dsimp only [vF] at q;cases e:fs ρ with
  | ex c=>rw [e] at q;exact q
  | no=>rw [e] at q;exact q
  | ok ds =>
    rw [e] at q;have hlen:=hl ρ ds e;intro vs H1 s1 r1
    match ds,hlen with
    | [d1,d2,d3],_ =>
      simp only [RA] at r1;obtain ⟨v1,r',rfl,p1,v2,r'',rfl,p2,v3,r''',rfl,p3,rfl⟩:=r1;cases d1 with
      | int i =>
        cases d2 with
        | int j =>
          cases d3 with
          | int k =>
            have e1:v1=.int i:=by simpa only [Rp] using p1
            have e2:v2=.int j:=by simpa only [Rp] using p2
            have e3:v3=.int k:=by simpa only [Rp] using p3
            subst e1 e2 e3;by_cases hz:mZ i j k
            · rw [R.ok_bind,show zn [.int i,.int j,.int k]=.ok (ig i k (ik i j k)) from if_pos hz] at q;exact ⟨i,j,k,rfl,hz,q _ H1 s1 ⟨_,yu,fun _ _ _=>True.intro⟩⟩
            · rw [R.ok_bind,show zn [.int i,.int j,.int k]=.no from if_neg hz] at q;exact q.elim
          | _=>exact q.elim
        | _=>exact q.elim
      | _=>exact q.elim⟩
end
end D2
namespace D2
open PySem PySem.Spec PyProof.Rows
theorem getD_some {xs:Array Nat} {i j:Nat} (h:xs[i]?=some j):i < xs.size/\xs.getD i 0=j:=by
  obtain ⟨h1,h2⟩:=Array.getElem?_eq_some_iff.mp h;exact ⟨h1,by simp [Array.getD,h1,h2]⟩
end D2
namespace D2
open PySem PySem.Spec PyProof.Rows L2
theorem wE {P:Program} {w:World} {K:PySem.W.Frag} {mg:Str->Option Value} {base:Heap} {x qual:Str} {st:Stmt} {f:Addr} {fd:FuncData} {N ps:List Str} {k:Nat} {g:Fs} (F:fX K x qual st f fd) (S:aS N ps (ai st))
    (body:∀ (cdv:Value) (A:Around) (outer:List Env) (s:Shared) (H:Hp) (E:XK),e8 k (A.deeper (envOfC qual (ai st) s.heap.objs.size f cdv)) ->
      Z.ly (fN (cQ P w mg) P w K mg base N qual (ai st) f cdv A outer s H E) (de st) g):aY P w K mg base (cQ P w mg) (k+1) f fd ps (dw (dB N.length g) ps.length) :=
  D2.At F S fun cdv A outer s H E hr=>(body cdv A outer s H E hr).un
theorem aC {P:Program} {w:World} {K:PySem.W.Frag} {mg:Str->Option Value} {base:Heap} {x qual:Str} {st:Stmt} {f:Addr} {fd:FuncData} {N ps:List Str} {k:Nat} {g:Fs} {G:List Str} (F:fX K x qual st f fd) (S:aS N ps (ai st)) (ck:va (ai st) N G)
    (body:∀ (cdv:Value) (A:Around) (outer:List Env) (s:Shared) (H:Hp) (E:XK),e8 k (A.deeper (envOfC qual (ai st) s.heap.objs.size f cdv))->Tb (fN (cQ P w mg) P w K mg base N qual (ai st) f cdv A outer s H E) N.length G ->
      Z.ly (fN (cQ P w mg) P w K mg base N qual (ai st) f cdv A outer s H E) (de st) g):aY P w K mg base (cQ P w mg) (k+1) f fd ps (dw (dB N.length g) ps.length) :=
  wE F S fun cdv A outer s H E hr=>body cdv A outer s H E hr (B9 hr ck)
noncomputable def mM (K:PySem.W.Frag):Bool:=K.all fun p=>match p.2.cls with
  | .type n=>!(n == "list")
  | _=>true
theorem nZ {α β:Type} [BEq α] {a:α} {o:β}:∀ {K:List (α×β)},K.lookup a=some o->∃ p∈K,p.2=o
  | [],e=>by cases e
  | (b,x)::r,e=>by
    rw [List.lookup_cons] at e;split at e
    · cases e;exact ⟨_,List.mem_cons_self,rfl⟩
    · obtain ⟨p,h1,h2⟩:=nZ e;exact ⟨p,List.mem_cons_of_mem _ h1,h2⟩
theorem uH {K:PySem.W.Frag} (h:mM K=true) {a:Addr} {o:Obj} (e:K.lookup a=some o) (c:o.cls=.type "list"):False:=by
  obtain ⟨p,m,rfl⟩:=nZ e;have q:=List.all_eq_true.mp h _ m;simp only [c] at q;simp at q
noncomputable def yy (F:List PyData->R PyData):Prop:=∀ ns:List Int,ns.length<=63->F [.list (ns.map .int)]=.ok (.bool true)
theorem Gv {l:PySem.W.OpenLaw} {q:Program} {loose:List Str} {XP:(Str->Option Value)->Heap->Prop} {YP:World->Heap->Prop} {d:DefRec} {K:Params->PySem.W.Frag} {k:Nat} {x:Str} {F:List PyData->R PyData} (hn:l.most=some 63) (hdf:d.params.defaults=[])
    (hr:e8 k callerA) (hY:∀ (w:World) (h:Heap),YP w h->(K w.params).In h) (hF:yy F)
    (G:∀ (w:World) (mg:Str->Option Value) (fa:Addr) (h:Heap),(K w.params).In h->h.Ns mainGlobals mg->mg d.name=some (.ref fa) ->
      mM (K w.params)=true/\∃ fd:FuncData,(∀ (s:Shared) (u:Value),BindsTo s fd ⟨[u],[]⟩ [(x,u)])/\∀ base:Heap,(K w.params).In base->base.Ns mainGlobals mg->aY l.prog w (K w.params) mg base (cQ l.prog w mg) k fa fd [x] (dw F 1)) :
    PySem.W.WalkO q loose XP YP l.row.toRowW d [] (fun f vs=>PySem.call f vs):=by
  refine Att.attach_call hn hdf fun w s₀ s₁ mg mb fa o pm cd doc a vs ns G0 Y ho hd hcd hmg hobj hints hlen hg=>?_
  have KX:=hY w _ Y;obtain ⟨nl,fd,hb,hG⟩:=G w mg fa _ KX G0.T.g hmg;refine L2.yz (sp:=dw F 1) KX G0.T.g G0.T.b G0.T.builtins G0.T.nolimit hg hobj hints (Nat.le_trans hlen (by decide)) hr hG hb (fun H hO hS=>?_) fun H e s' ⟨_,_,_,_,_,z⟩=>z
  refine ⟨[.list (ns.map .int)],bx.cons ?_ bx.nil,rfl,?_⟩
  · rcases hS with (h | ⟨o,h⟩) | ⟨o,its,n,h,c,_⟩
    · rcases hO a with z | ⟨o,xs,z⟩
      · rw [z] at h;cases h
      · rw [z] at h;cases h
    · simp only [Rp];exact ⟨a,o,_,rfl,h,bx.ints ns⟩
    · exact (uH nl h c).elim
  · rw [hF ns hlen];intro v H' _ r;simpa only [Rp] using r
section
variable {K:PySem.W.Frag} {x qual:Str} {st:Stmt} {f:Addr} {fd:FuncData} {p1 p2 p3 p4 p5 p6 p7:Str}
theorem B2 (F:fX K x qual st f fd) (h:∀ (kV doc pm:Value) (an:Option Addr) (cdv ct:Value) (a1:Value),bindArgs (PySem.W.fnOf x qual (eo st) (de st) (ai st) .none kV doc pm an cdv ct) ⟨[a1],[]⟩=pure [(p1,a1)]):bB K fd [p1] []:=F.binds fun kV doc pm an cdv ct us hl=>match us,hl with | [a1],_=>h kV doc pm an cdv ct a1
theorem r9 (F:fX K x qual st f fd) (h:∀ (kV doc pm:Value) (an:Option Addr) (cdv ct:Value) (a1 a2:Value),bindArgs (PySem.W.fnOf x qual (eo st) (de st) (ai st) .none kV doc pm an cdv ct) ⟨[a1,a2],[]⟩=pure [(p1,a1),(p2,a2)]):bB K fd [p1,p2] []:=F.binds fun kV doc pm an cdv ct us hl=>match us,hl with | [a1,a2],_=>h kV doc pm an cdv ct a1 a2
theorem Br (F:fX K x qual st f fd) (h:∀ (kV doc pm:Value) (an:Option Addr) (cdv ct:Value) (a1 a2 a3:Value),bindArgs (PySem.W.fnOf x qual (eo st) (de st) (ai st) .none kV doc pm an cdv ct) ⟨[a1,a2,a3],[]⟩=pure [(p1,a1),(p2,a2),(p3,a3)]):bB K fd [p1,p2,p3] []:=F.binds fun kV doc pm an cdv ct us hl=>match us,hl with | [a1,a2,a3],_=>h kV doc pm an cdv ct a1 a2 a3
theorem FJ (F:fX K x qual st f fd) (h:∀ (kV doc pm:Value) (an:Option Addr) (cdv ct:Value) (a1 a2 a3 a4:Value),bindArgs (PySem.W.fnOf x qual (eo st) (de st) (ai st) .none kV doc pm an cdv ct) ⟨[a1,a2,a3,a4],[]⟩=pure [(p1,a1),(p2,a2),(p3,a3),(p4,a4)]):bB K fd [p1,p2,p3,p4] []:=F.binds fun kV doc pm an cdv ct us hl=>match us,hl with | [a1,a2,a3,a4],_=>h kV doc pm an cdv ct a1 a2 a3 a4
end
@[simp] theorem R.ite_bind {α β:Type} {c:Prop} [Decidable c] (x y:R α) (k:α->R β):((if c then x else y)>>=k)=if c then x>>=k else y>>=k:=by
  by_cases h:c
  · rw [if_pos h,if_pos h]
  · rw [if_neg h,if_neg h]
@[simp] theorem cC {α:Type} (a:α):lc (R.ok a)=.ok a:=rfl
@[simp] theorem F4 {α:Type}:lc (R.no:R α)=.no:=rfl
@[simp] theorem F3 {α:Type} (c:Str):lc (R.ex c:R α)=.no:=rfl
noncomputable def Da:tT->R PyData
  | .rt d=>.ok d
  | .nx _=>.ok .none
  | _=>.no
theorem eG (n:Nat) (g:Fs) (ds:List PyData):dB n g ds=(g (ds.map bt.val++List.replicate (n-ds.length) .non)>>=Da):=by
  unfold dB;congr 1
@[simp] theorem Fy (d:PyData):Da (.rt d)=.ok d:=rfl
@[simp] theorem Fx (r:aT):Da (.nx r)=.ok .none:=rfl
section
variable (f g h:Fe) (ρ:aT) (i j:Nat) (t u:aT->R Bool) (a b:Fs) (fs:aT->R (List PyData)) (F:List PyData->R PyData) (d e:PyData)
@[simp] theorem cj:eC d ρ=.ok d:=rfl
@[simp] theorem ar:ag 0 (.val d::ρ)=.ok d:=rfl
@[simp] theorem ay (c:bt):ag (i+1) (c::ρ)=ag i ρ:=rfl
@[simp] theorem Fu:fg 0 (.val d::ρ)=.ok d:=rfl
@[simp] theorem mH:fg 0 (.own d::ρ)=.ok d:=rfl
@[simp] theorem mI (c:bt):fg (i+1) (c::ρ)=fg i ρ:=rfl
@[simp] theorem bZ (k:PyData->R PyData):e1 k f ρ=(f ρ>>=fun x=>k x):=rfl
@[simp] theorem ca (k:PyData->PyData->R PyData):e2 k f g ρ=(f ρ>>=fun x=>g ρ>>=fun y=>k x y):=rfl
@[simp] theorem dY:tE f ρ=(f ρ>>=r8):=rfl
@[simp] theorem ez (k:Bool):r8 (.bool k)=.ok k:=rfl
@[simp] theorem tq:oE t u ρ=(t ρ>>=fun k=>if k=true then u ρ else .ok false):=rfl
@[simp] theorem wj:zt t u ρ=(t ρ>>=fun k=>if k=true then .ok true else u ρ):=rfl
@[simp] theorem oF:jD t ρ=(t ρ>>=fun k=>.ok (!k)):=rfl
@[simp] theorem Fp:um f g ρ=(f ρ>>=fun d=>r8 d>>=fun k=>if k=true then g ρ else .ok (.bool false)):=rfl
@[simp] theorem FU:GQ f g ρ=(f ρ>>=fun d=>r8 d>>=fun k=>if k=true then .ok (.bool true) else g ρ):=rfl
@[simp] theorem Fr:Cc f ρ=(f ρ>>=fun d=>r8 d>>=fun k=>.ok (.bool (!k))):=rfl
@[simp] theorem uo:zN t f g ρ=(t ρ>>=fun k=>if k=true then f ρ else g ρ):=rfl
@[simp] theorem aV:aH ρ=.ok []:=rfl
@[simp] theorem aI:ah f fs ρ=(f ρ>>=fun d=>fs ρ>>=fun ds=>.ok (d::ds)):=rfl
@[simp] theorem bj:aD F fs ρ=(fs ρ>>=F):=rfl
@[simp] theorem Dz (p q:PyData->PyData->R PyData):nJ p q f g h ρ=(f ρ>>=fun x=>g ρ>>=fun y=>p x y>>=fun d=>r8 d>>=fun k=>if k=true then h ρ>>=fun z=>q y z else .ok (.bool false)):=rfl
@[simp] theorem iH:k7 fs ρ=(fs ρ>>=fun ds=>if ds.length<=sizeLine then .ok (.tuple ds) else .no):=rfl
@[simp] theorem Fq:wQ fs ρ=(fs ρ>>=fun ds=>if ds.length<=sizeLine then .ok (.list ds) else .no):=rfl
@[simp] theorem Ek:Ej ρ=.ok none:=rfl
@[simp] theorem yI:md f ρ=(f ρ>>=fun d=>Fk d>>=fun i=>.ok (some i)):=rfl
@[simp] theorem DL (k:Int):Fk (.int k)=.ok k:=rfl
@[simp] theorem Cd (lo hi:Fo):D4 f lo hi ρ=(f ρ>>=fun d=>lo ρ>>=fun l=>hi ρ>>=fun u=>zM d l u):=rfl
@[simp] theorem sZ:eB ρ=.ok (.nx ρ):=rfl
@[simp] theorem wc:bn a b ρ=(a ρ>>=pV b):=rfl
@[simp] theorem E6:pV b (.nx ρ)=b ρ:=rfl
@[simp] theorem E7:pV b (.rt d)=.ok (.rt d):=rfl
@[simp] theorem E4:pV b (.bk ρ)=.ok (.bk ρ):=rfl
@[simp] theorem E5:pV b (.ct ρ)=.ok (.ct ρ):=rfl
@[simp] theorem gw:oP t a b ρ=(t ρ>>=fun k=>if k=true then a ρ else b ρ):=rfl
@[simp] theorem cK:cD f ρ=(f ρ>>=fun d=>.ok (.rt d)):=rfl
@[simp] theorem EK:EJ ρ=.ok (.rt .none):=rfl
@[simp] theorem EI:EH f ρ=(f ρ>>=fun _=>.ok (.nx ρ)):=rfl
@[simp] theorem DA:Dd ρ=.ok (.bk ρ):=rfl
@[simp] theorem EF:EE ρ=.ok (.ct ρ):=rfl
@[simp] theorem bG:cm i f ρ=(f ρ>>=fun d=>.ok (.nx (ρ.set i (.val d)))):=rfl
@[simp] theorem mO:ia i f ρ=(f ρ>>=fun d=>.ok (.nx (ρ.set i (.own d)))):=rfl
@[simp] theorem cs:eI f ρ=(f ρ>>=iX):=rfl
@[simp] theorem jL:gN fs ρ=(fs ρ>>=lh):=rfl
@[simp] theorem yn:vF fs ρ=(fs ρ>>=zn):=rfl
@[simp] theorem D8:D7 fs ρ=(fs ρ>>=DZ):=rfl
@[simp] theorem Ea:D9 f ρ=(f ρ>>=Bw):=rfl
@[simp] theorem Ee:Ed f ρ=(f ρ>>=BO):=rfl
@[simp] theorem dD (ds:List PyData):iX (.tuple ds)=.ok ds:=rfl
@[simp] theorem uT (ds:List PyData):iX (.list ds)=.ok ds:=rfl
@[simp] theorem DM:aQ i d ρ=some (ρ.set i (.val d)):=rfl
@[simp] theorem fI:jw a ρ=lc (a ρ):=rfl
theorem fH (it:aT->R (List PyData)) (bb:PyData->aT->Option aT):kC it bb a ρ=(it ρ>>=fun ds=>gf bb a ds ρ):=rfl
@[simp] theorem eO (bb:PyData->aT->Option aT):gf bb a [] ρ=.ok (.nx ρ):=by unfold gf;rfl
noncomputable def pW (k:aT->R tT):tT->R tT
  | .nx ρ=>k ρ
  | .ct ρ=>k ρ
  | .bk ρ=>.ok (.nx ρ)
  | .rt r=>.ok (.rt r)
@[simp] theorem dZ (k:aT->R tT):pW k (.nx ρ)=k ρ:=rfl
@[simp] theorem E9 (k:aT->R tT):pW k (.ct ρ)=k ρ:=rfl
@[simp] theorem E8 (k:aT->R tT):pW k (.bk ρ)=.ok (.nx ρ):=rfl
@[simp] theorem Fa (k:aT->R tT):pW k (.rt d)=.ok (.rt d):=rfl
theorem cX (i:Nat) (ds:List PyData):gf (aQ i) a (d::ds) ρ=(a (ρ.set i (.val d))>>=pW (gf (aQ i) a ds)):=by
  rw [gf];show (a (ρ.set i (.val d))>>=_)=_;congr 1
theorem aR {a b:Fs} {ρ ρ':aT} (h:a ρ=.ok (.nx ρ')):bn a b ρ=b ρ':=by rw [wc,h];rfl
theorem zh {a b:Fs} {ρ:aT} {d:PyData} (h:a ρ=.ok (.rt d)):bn a b ρ=.ok (.rt d):=by rw [wc,h];rfl
theorem eA {n:Nat} {g:Fs} {ds:List PyData} {d:PyData} (h:g (ds.map bt.val++List.replicate (n-ds.length) .non)=.ok (.rt d)):dB n g ds=.ok d:=by rw [eG,h];rfl
theorem dt (bb:PyData->aT->Option aT):bC bb t f ρ []=.ok []:=by unfold bC;rfl
theorem eS (i:Nat) (ds:List PyData):bC (aQ i) t f ρ (d::ds)=(t (ρ.set i (.val d))>>=fun k=>if k=true then f (ρ.set i (.val d))>>=fun x=>bC (aQ i) t f ρ ds>>=fun xs=>.ok (x::xs) else bC (aQ i) t f ρ ds):=by
  rw [bC];rfl
theorem iF (i j:Nat) (x y:PyData) (ds:List PyData):bC (eV i j) t f ρ (.tuple [x,y]::ds)=(t ((ρ.set i (.val x)).set j (.val y))>>=fun k=>if k=true then f ((ρ.set i (.val x)).set j (.val y))>>=fun x=>bC (eV i j) t f ρ ds>>=fun xs=>.ok (x::xs) else bC (eV i j) t f ρ ds):=by
  rw [bC];rfl
@[simp] theorem Eg:Ef f g h ρ=(f ρ>>=fun x=>g ρ>>=fun y=>h ρ>>=fun z=>u3 x>>=fun xs=>u3 y>>=fun ys=>u3 z>>=fun zs=>.ok (zG xs ys zs)):=rfl
@[simp] theorem Gu (ds:List PyData):u3 (.tuple ds)=.ok ds:=rfl
@[simp] theorem yf:ye fs ρ=(fs ρ>>=BG .tuple):=rfl
@[simp] theorem D1:D0 fs ρ=(fs ρ>>=BG .list):=rfl
theorem EC {mk:List PyData->PyData} {n:Int} (h0:0<=n) (h1:n<=1000000):BG mk [.int n]=.ok (mk (bL 0 n.toNat)):=by
  show (if n<=16777216/\-(2 ^ 62)<=n then R.ok (mk (bL 0 n.toNat)) else .no)=_;rw [if_pos (by omega)]
@[simp] theorem Ft (lo hi:Fo):FV f lo hi ρ=(f ρ>>=fun d=>lo ρ>>=fun l=>hi ρ>>=fun u=>DR d l u):=rfl
@[simp] theorem A8 (op:Int->Int->Int):xo i op f ρ=(ag i ρ>>=fun x=>f ρ>>=fun y=>Fl op x y>>=fun z=>.ok (.nx (ρ.set i (.val z)))):=rfl
@[simp] theorem DP (op:Int->Int->Int) (m n:Int):Fl op (.int m) (.int n)=.ok (.int (op m n)):=rfl
theorem mP {ρ:aT} {i:Nat} {ds:List PyData} {fk fv:Fe} {n:Int} {v:PyData} (h:ρ[i]?=some (.own (.list ds))) (hk:fk ρ=.ok (.int n)) (hv:fv ρ=.ok v) (h0:0<=n) (h1:n < ds.length):ib i fk fv ρ=.ok (.nx (ρ.set i (.own (.list (ds.set n.toNat v))))):=by
  unfold ib;rw [hv,hk,h];simp only [lc,R.ok_bind];have:L2.vJ ds.length n=some n.toNat:=by unfold L2.vJ;rw [if_pos h0,if_pos h1]
  rw [this]
@[simp] theorem Aw:Av f g ρ=(f ρ>>=fun x=>g ρ>>=fun y=>iX x>>=fun xs=>iX y>>=fun ys=>.ok (mC xs ys)):=rfl
@[simp] theorem k8:lZ f ρ=(f ρ>>=fun x=>iX x>>=fun xs=>.ok (cS 0 xs)):=rfl
theorem pO {ρ:aT} {i:Nat} {ds:List PyData} (f:Fe) (h:ρ[i]?=some (.own (.list ds))) (hz:ds.length < sizeLine):gE i f ρ=(lc (f ρ)>>=fun d=>.ok (.nx (ρ.set i (.own (.list (ds++[d])))))):=by
  unfold gE;congr 1;funext d;rw [h];exact if_pos hz
noncomputable def Cs:R (List PyData)->R PyData
  | .ok xs=>.ok (.list xs)
  | .ex c=>.ex c
  | .no=>.no
@[simp] theorem Fv (c:Str):Cs (.ex c)=.ex c:=rfl
@[simp] theorem mL (xs:List PyData):Cs (.ok xs)=.ok (.list xs):=rfl
theorem bp (it:aT->R (List PyData)) (own:Nat) (fr:List Nat) (bb:PyData->aT->Option aT):bN it own fr bb t f ρ=(lc (it ρ)>>=fun ds=>if ds.length<=sizeLine then Cs (bC bb t f (ax own fr ρ) ds) else .no):=by
  unfold bN;congr 1
theorem ej (i:Nat) (G:PyData->PyData):∀ (ds:List PyData),(∀ d∈ds,f (ρ.set i (.val d))=.ok (G d))->bC (aQ i) (fun _=>.ok true) f ρ ds=.ok (ds.map G)
  | [],_=>dt ..
  | d::ds,hh=>by
    rw [eS,hh d List.mem_cons_self,ej i G ds fun x hx=>hh x (List.mem_cons_of_mem _ hx)];rfl
end
section
variable (i j:Int) (xs ys:List PyData)
@[simp] theorem FQ:FP (.int i)=.ok (.int (-i)):=rfl
@[simp] theorem ya:eN (.int i) (.int j)=.ok (.int (i+j)):=rfl
@[simp] theorem B3:eN (.tuple xs) (.tuple ys)=if xs.length+ys.length<=sizeLine then .ok (.tuple (xs++ys)) else .no:=rfl
@[simp] theorem FK:eN (.list xs) (.list ys)=if xs.length+ys.length<=sizeLine then .ok (.list (xs++ys)) else .no:=rfl
@[simp] theorem ul:km (.int i) (.int j)=.ok (.int (i-j)):=rfl
@[simp] theorem B7:fT (.int i) (.int j)=if 0 < j then .ok (.int (i%j)) else .no:=rfl
@[simp] theorem B4:lG (.int i) (.int j)=if 0 < j/\j < 1073741824 then .ok (.int (i / j)) else .no:=rfl
theorem B8:ff (.int i) (.int j)=if (-(2 ^ 64) < i/\i < 2 ^ 64)\/(-(2 ^ 64) < j/\j < 2 ^ 64) then .ok (.int (i*j)) else .no:=rfl
@[simp] theorem qJ (p:Int->Int->Bool):ge p (.int i) (.int j)=.ok (.bool (p i j)):=rfl
@[simp] theorem FO:B6 (.int i) (.int j)=.ok (.int (if j < i then j else i)):=rfl
@[simp] theorem FN:B5 (.int i) (.int j)=.ok (.int (if j > i then j else i)):=rfl
@[simp] theorem lI:dl (.tuple xs)=.ok (.int xs.length):=rfl
@[simp] theorem qL:dl (.list xs)=.ok (.int xs.length):=rfl
@[simp] theorem k6:ce (.list xs)=.ok (.tuple xs):=rfl
@[simp] theorem DU:ce (.tuple xs)=.ok (.tuple xs):=rfl
@[simp] theorem Fn:ph (.list xs)=.ok (.list xs):=rfl
@[simp] theorem Ak:ph (.tuple xs)=.ok (.list xs):=rfl
@[simp] theorem FM:Ai (.int i)=.ok (.int i):=rfl
@[simp] theorem FL (k:Bool):Ai (.bool k)=.ok (.int (if k then 1 else 0)):=rfl
@[simp] theorem DT (lo hi:Option Int):zM (.tuple xs) lo hi=.ok (.tuple (nF xs lo hi)):=rfl
@[simp] theorem DS (lo hi:Option Int):zM (.list xs) lo hi=.ok (.list (nF xs lo hi)):=rfl
@[simp] theorem FS:FR (.tuple xs)=.ok (.tuple xs.reverse):=rfl
theorem qy {α:Type} {xs:List α} {i:Int} (h0:0<=i) (h1:i < xs.length):L2.atI xs i=some (xs[i.toNat]'(by omega)):=by
  unfold L2.atI vJ;rw [if_pos h0,if_pos h1];exact List.getElem?_eq_getElem (by omega)
theorem sk {xs:List PyData} {i:Int} (h0:0<=i) (h1:i < xs.length):bK (.tuple xs) (.int i)=.ok (xs[i.toNat]'(by omega)):=by
  show (match L2.atI xs i with | some d=>R.ok d | none=>.no)=_;rw [qy h0 h1]
theorem sj {xs:List PyData} {i:Int} (h0:0<=i) (h1:i < xs.length):bK (.list xs) (.int i)=.ok (xs[i.toNat]'(by omega)):=by
  show (match L2.atI xs i with | some d=>R.ok d | none=>.no)=_;rw [qy h0 h1]
theorem vw:PyData.eqv (.int i) (.int j)=decide (i=j):=by
  simp only [PyData.eqv];by_cases h:i=j
  · subst h;simp
  · simp [h]
theorem g9:lw (.int i) (.int j)=.ok (.bool (decide (i=j))):=by
  unfold lw;rw [if_pos (by rfl),vw]
theorem DQ:uk (.int i) (.int j)=.ok (.bool (!decide (i=j))):=by
  unfold uk;rw [if_pos (by rfl),vw]
end
end D2
namespace G
open PySem PySem.Spec PyProof.Rows L2 D2
noncomputable def F1:PyData->Bool
  | .int _=>true
  | _=>false
noncomputable def noD:PyData->Prop
  | .dict _=>False
  | _=>True
noncomputable def tG (d:PyData) (lo hi:Int):Bool:=match d with
  | .int i=>decide (lo<=i)&&decide (i<=hi)
  | _=>false
noncomputable def my (c:Int):Int->List PyData->Bool
  | _,[]=>true
  | l,d::r=>match d with
    | .int i=>(decide (l<=i)&&decide (i < c))&&my c (i+1) r
    | _=>false
@[simp] noncomputable def we (c:Int):PyData->Bool
  | .tuple ds=>my c 0 ds
  | _=>false
noncomputable abbrev gc (d:PyData):Prop:=d.canLay0=true
theorem gc.noD {d:PyData} (h:gc d):noD d:=by
  cases d <;> first | trivial | (simp [gc,PyData.canLay0] at h)
theorem vD:∀ {ds:List PyData},PyData.canLayAll0 ds=true->∀ x∈ds,gc x
  | [],_,x,hx=>by cases hx
  | d::ds,h,x,hx=>by
    have h':d.canLay0=true/\PyData.canLayAll0 ds=true:=by simpa [PyData.canLayAll0] using h
    rcases List.mem_cons.mp hx with rfl | hx
    · exact h'.1
    · exact vD h'.2 x hx
theorem nA:∀ {ds:List PyData},(∀ x∈ds,gc x)->PyData.canLayAll0 ds=true
  | [],_=>by simp [PyData.canLayAll0]
  | d::ds,h=>by
    have h1:=h d List.mem_cons_self;have h2:=nA fun x hx=>h x (List.mem_cons_of_mem _ hx)
    simp only [PyData.canLayAll0,Bool.and_eq_true];exact ⟨h1,h2⟩
theorem fE {ds:List PyData}:gc (.tuple ds)<->∀ x∈ds,gc x:=by
  constructor
  · intro h;exact vD (by simpa [gc,PyData.canLay0] using h)
  · intro h;simp only [gc,PyData.canLay0];exact nA h
theorem nR (i:Int):gc (.int i):=by simp [gc,PyData.canLay0]
theorem pA:gc .none:=by simp [gc,PyData.canLay0]
theorem mF (p:PyData->Bool):∀ ds:List PyData,D2.qv (ds.map fun d=>.bool (p d))=some (ds.all p)
  | []=>rfl
  | d::ds=>by
    simp only [List.map_cons,D2.qv,mF p ds,List.all_cons,Option.map_some]
theorem bS {n:Nat} (h:n<=1000):n<=sizeLine:=Nat.le_trans h (by decide)
noncomputable abbrev pP (ns:List Int):PyData:=.list (ns.map .int)
theorem gr {i j:Int} (h:(-(2 ^ 64) < i/\i < 2 ^ 64)\/(-(2 ^ 64) < j/\j < 2 ^ 64)):ff (.int i) (.int j)=.ok (.int (i*j)):=by rw [B8,if_pos h]
structure tS (c:Int) (n:Nat) (kvs:List (PyData×PyData)):Prop where
  ex:∃ ns:List Int,kvs.map (·.1)=ns.map PyData.int/\(∀ x∈ns,0<=x/\x < c)/\ns.length<=n/\(n=0\/ns≠[])/\ns.Nodup
theorem tS.put {c:Int} {n:Nat} {kvs:List (PyData×PyData)} (h:tS c n kvs) {k:Int} (h0:0<=k) (h1:k < c) (v:PyData):tS c (n+1) (uO kvs (.int k) v):=by
  obtain ⟨ns,e,hb,hl,hn,nd⟩:=h.ex;have hany:(kvs.any fun kv=>gz kv.1 (.int k))=ns.any fun i=>decide (i=k):=by
    have:(kvs.any fun kv=>gz kv.1 (.int k))=(kvs.map (·.1)).any fun d=>gz d (.int k):=by rw [List.any_map];rfl
    rw [this,e,List.any_map];rfl
  unfold uO;rw [hany];by_cases hm:k∈ns
  · have ha:(ns.any fun i=>decide (i=k))=true:=by simp;exact hm
    rw [if_pos ha];refine ⟨ns,?_,hb,by omega,.inr (by intro z;rw [z] at hm;cases hm),nd⟩;rw [<- e,List.map_map];apply List.map_congr_left;intro kv _;show (if gz kv.1 (.int k)=true then (kv.1,v) else kv).1=kv.1;split <;> rfl
  · have ha:¬ (ns.any fun i=>decide (i=k))=true:=by simp;exact hm
    rw [if_neg ha];refine ⟨ns++[k],by rw [List.map_append,List.map_append,e];rfl,fun x hx=>?_,by simp;omega,.inr (by simp),?_⟩
    · rcases List.mem_append.mp hx with z | z
      · exact hb x z
      · simp at z;subst z;exact ⟨h0,h1⟩
    · rw [List.nodup_append];refine ⟨nd,by simp,fun a hma b hb'=>?_⟩;simp at hb';subst hb';rintro rfl;exact hm hma
theorem tS.len {c:Int} {n:Nat} {kvs:List (PyData×PyData)} (h:tS c n kvs):kvs.length<=n:=by
  obtain ⟨ns,e,_,hl,_⟩:=h.ex;have:=congrArg List.length e;simp at this;omega
theorem sT (lo:Int) (n:Nat):∀ d∈bL lo n,∃ k,d=.int k:=fun d hd=>by
  unfold bL at hd;obtain ⟨k,_,rfl⟩:=List.mem_map.mp hd;exact ⟨_,rfl⟩
theorem fF (lo:Int) (n:Nat):(bL lo n).length=n:=by unfold bL;simp
theorem Aj {xs:List PyData} {i:Int} (h0:0<=i) (h1:i < xs.length):∃ x∈xs,bK (.list xs) (.int i)=.ok x:=⟨_,List.getElem_mem _,sj h0 h1⟩
inductive rD:PyData->Prop
  | int (i:Int) (h1:-20<=i) (h2:i<=24):rD (.int i)
  | none:rD .none
  | tuple (ds:List PyData) (h:ds.length<=100) (ha:∀ x∈ds,rD x):rD (.tuple ds)
theorem rD.good {d:PyData} (h:rD d):gc d:=by
  induction h with
  | int i=>exact nR i
  | none=>exact pA
  | tuple ds _ _ ih=>exact fE.mpr ih
structure P4 where
  w:Int
  m:Int
  g:Int
  ns:List Int
noncomputable def P4.d (p:P4):PyData:=.tuple [.int p.w,.int p.m,.int p.g,.tuple (p.ns.map .int)]
structure Pl (c hi:Int) (p:P4):Prop where
  w0:0<=p.w
  w1:p.w<=1
  m0:0<=p.m
  m1:p.m<=hi
  g0:-20<=p.g
  g1:p.g<=20
  ne:p.ns≠[]
  so:p.ns.Pairwise (· < ·)
  inn:∀ x∈p.ns,0<=x/\x < c
theorem kB:∀ (ns:List Int) (l c:Int),ns.Pairwise (· < ·)->(∀ x∈ns,l<=x/\x < c)->ns=[]\/l+(ns.length:Int)<=c
  | [],_,_,_,_=>.inl rfl
  | x::r,l,c,hp,hb=>by
    right;obtain ⟨h1,h2⟩:=List.pairwise_cons.mp hp;have hx:=hb x List.mem_cons_self;rcases kB r (x+1) c h2 (fun y hy=>⟨by have:=h1 y hy;omega,(hb y (List.mem_cons_of_mem _ hy)).2⟩) with rfl | z
    · simp;omega
    · rw [List.length_cons];omega
theorem Pl.len {c hi:Int} {p:P4} (h:Pl c hi p):(p.ns.length:Int)<=c:=by
  rcases kB p.ns 0 c h.so h.inn with z | z
  · exact absurd z h.ne
  · omega
noncomputable abbrev gD (ps:List P4):PyData:=.tuple (ps.map P4.d)
theorem pT {ns:List Int} (h:ns.Pairwise (·<=·)) (nd:ns.Nodup):ns.Pairwise (· < ·):=by
  have:=h.and nd;exact this.imp fun ⟨a,b⟩=>by omega
theorem re (c:Int):∀ (ns:List Int) (l:Int),ns.Pairwise (· < ·)->(∀ x∈ns,l<=x/\x < c)->my c l (ns.map .int)=true
  | [],_,_,_=>rfl
  | x::r,l,hp,hb=>by
    obtain ⟨h1,h2⟩:=List.pairwise_cons.mp hp;have hx:=hb x List.mem_cons_self;simp only [List.map_cons,my,Bool.and_eq_true,decide_eq_true_eq];exact ⟨⟨hx.1,hx.2⟩,re c r (x+1) h2 fun y hy=>⟨by have:=h1 y hy;omega,(hb y (List.mem_cons_of_mem _ hy)).2⟩⟩
end G
noncomputable section
namespace G
open PySem PySem.Spec PyProof.Rows L2 D2
noncomputable def gL:Fs :=
  (bn (oP (tE (e2 (ge GD) (ag 1) (e1 dl (ag 0)))) (cD (e2 bK (ag 0) (ag 1))) eB) (cD (eC (.int 0))))
noncomputable def cq:List PyData->R PyData:=dB 2 (gL)
noncomputable def jh (cq:List PyData->R PyData):Fs :=
  (bn (cm 2 (e2 fT (e2 ff (e2 eN (e2 eN (aD cq (ah (ag 0) (ah (ag 1) aH))) (e2 ff (eC (.int 7919)) (ag 1))) (eC (.int 1))) (eC (.int 48271))) (eC (.int 2147483647)))) (cD (e2 fT (e2 eN (e2 eN (e2 ff (ag 2) (ag 2)) (e2 ff (eC (.int 7)) (ag 2))) (ag 1)) (eC (.int 2147483629)))))
noncomputable def aZ:List PyData->R PyData:=dB 3 (jh cq)
noncomputable def je:Fs :=
  (bn (cm 2 (e2 fT (e2 ff (e2 eN (e2 eN (ag 0) (e2 ff (eC (.int 104729)) (ag 1))) (eC (.int 17))) (eC (.int 69621))) (eC (.int 2147483647)))) (cD (e2 fT (e2 eN (e2 eN (e2 ff (ag 2) (ag 2)) (e2 ff (eC (.int 3)) (ag 2))) (ag 1)) (eC (.int 2147483629)))))
noncomputable def aM:List PyData->R PyData:=dB 3 (je)
noncomputable def jf (aM:List PyData->R PyData):Fs :=
  (bn (ia 2 (eC (.dict []))) (bn (jw (kC (gN (ah (e2 eN (e2 eN (eC (.int 1)) (e2 fT (ag 0) (eC (.int 3)))) (e2 ff (eC (.int 20)) (e1 Ai (e2 (lw) (e2 fT (e2 lG (ag 0) (eC (.int 3))) (eC (.int 29))) (eC (.int 7)))))) aH)) (aQ 3) (A9 2 (e2 fT (aD aM (ah (ag 0) (ah (ag 3) aH))) (ag 1)) (eC (.bool true))))) (cD (e1 ce (e1 iG (fg 2))))))
noncomputable def dc:List PyData->R PyData:=dB 4 (jf aM)
noncomputable def ji (aM:List PyData->R PyData) (dc:List PyData->R PyData):Fs :=
  (bn (cm 3 (e2 km (e2 fT (e2 lG (ag 0) (eC (.int 26))) (eC (.int 9))) (eC (.int 4)))) (bn (oP (tE (e2 (lw) (e2 fT (e2 lG (ag 0) (eC (.int 234))) (eC (.int 11))) (eC (.int 3)))) (cm 3 (e2 km (e2 fT (e2 lG (ag 0) (eC (.int 26))) (eC (.int 41))) (eC (.int 20)))) eB) (cD (k7 (ah (e2 fT (ag 0) (eC (.int 2))) (ah (e2 fT (e2 lG (ag 0) (eC (.int 2))) (e2 eN (ag 2) (eC (.int 1)))) (ah (ag 3) (ah (aD dc (ah (aD aM (ah (ag 0) (ah (eC (.int 9)) aH))) (ah (ag 1) aH))) aH))))))))
noncomputable def cM:List PyData->R PyData:=dB 4 (ji aM dc)
noncomputable def iu (aZ:List PyData->R PyData) (cM:List PyData->R PyData):Fs :=
  (bn (cm 2 (aD aZ (ah (ag 0) (ah (eC (.int 0)) aH)))) (bn (cm 3 (e2 eN (eC (.int 1)) (e2 fT (ag 2) (e2 B6 (ag 1) (e2 B5 (eC (.int 4)) (e1 dl (ag 0))))))) (bn (cm 4 (e2 bK (wQ (ah (eC (.int 1)) (ah (eC (.int 2)) (ah (eC (.int 3)) (ah (eC (.int 5)) (ah (eC (.int 12)) (ah (eC (.int 12)) aH))))))) (e2 fT (e2 lG (ag 2) (eC (.int 24))) (eC (.int 6))))) (cD (e1 ce (bN (gN (ah (ag 3) aH)) 1 [0,3,4] (aQ 0) (fun _=>.ok true) (aD cM (ah (aD aZ (ah (ag 1) (ah (e2 eN (eC (.int 3)) (ag 0)) aH))) (ah (ag 2) (ah (ag 3) aH))))))))))
noncomputable def cr:List PyData->R PyData:=dB 5 (iu aZ cM)
noncomputable def jg (aM:List PyData->R PyData):Fs :=
  (cD (e1 ce (bN (gN (ah (eC (.int 13)) aH)) 1 [0] (aQ 0) (tE (e2 (lw) (e2 fT (aD aM (ah (ag 1) (ah (ag 0) aH))) (eC (.int 3))) (eC (.int 0)))) (ag 0))))
noncomputable def cu:List PyData->R PyData:=dB 1 (jg aM)
noncomputable def io:Fs :=
  (cD (ye (ah (e1 dl (ag 0)) aH)))
noncomputable def cF:List PyData->R PyData:=dB 1 (io)
noncomputable def mU:Fs :=
  (cD (um (e1 (lH .int) (ag 0)) (Cc (e1 (lH .bool) (ag 0)))))
noncomputable def dQ:List PyData->R PyData:=dB 1 (mU)
noncomputable def iq (dQ:List PyData->R PyData):Fs :=
  (cD (um (aD dQ (ah (ag 0) aH)) (nJ (ge Fw) (ge Fw) (ag 1) (ag 0) (ag 2))))
noncomputable def aJ:List PyData->R PyData:=dB 3 (iq dQ)
noncomputable def kc (aJ:List PyData->R PyData):Fs :=
  (bn (oP (jD (tE (e1 (lH .tuple) (ag 0)))) (cD (eC (.bool false))) eB) (bn (cm 2 (eC (.int 0))) (bn (jw (kC (eI (ag 0)) (aQ 3) (bn (oP (jD (tE (aD aJ (ah (ag 3) (ah (ag 2) (ah (e2 km (ag 1) (eC (.int 1))) aH)))))) (cD (eC (.bool false))) eB) (cm 2 (e2 eN (ag 3) (eC (.int 1))))))) (cD (eC (.bool true))))))
noncomputable def bH:List PyData->R PyData:=dB 4 (kc aJ)
noncomputable def mT:Fs :=
  (cD (e1 ce (bN (eI (ag 0)) 1 [1] (aQ 0) (tE (e2 (qK false) (ag 0) (ag 1))) (ag 0))))
noncomputable def bD:List PyData->R PyData:=dB 2 (mT)
noncomputable def fQ:Fs :=
  (cD (e1 ce (bN (Av (ag 0) (ag 1)) 2 [] (eV 0 1) (fun _=>.ok true) (zN (tE (e2 (nG) (ag 0) (eC .none))) (ag 1) (ag 0)))))
noncomputable def aN:List PyData->R PyData:=dB 2 (fQ)
noncomputable def mV:Fs :=
  (cD (e1 ce (bN (lZ (ag 0)) 2 [] (eV 0 1) (tE (e2 (lW) (ag 1) (eC .none))) (ag 0))))
noncomputable def cE:List PyData->R PyData:=dB 1 (mV)
noncomputable def fR (cE:List PyData->R PyData):Fs :=
  (bn (ia 3 (bN (eI (ag 2)) 1 [] (aQ 0) (fun _=>.ok true) (eC .none))) (bn (jw (kC (eI (aD cE (ah (ag 2) aH))) (aQ 4) (oP (oE (tE (e2 (lw) (e2 bK (e2 bK (ag 0) (ag 4)) (eC (.int 0))) (ag 1))) (tE (e2 (ge uJ) (e2 bK (ag 2) (ag 4)) (eC (.int 0))))) (ib 3 (ag 4) (e2 bK (bN (eI (e2 bK (e2 bK (ag 0) (ag 4)) (eC (.int 3)))) 1 [2,4] (aQ 0) (tE (e2 (lw) (e2 bK (ag 1) (ag 0)) (e2 km (e2 bK (ag 1) (ag 2)) (eC (.int 1))))) (ag 0)) (eC (.int 0)))) eB))) (cD (e1 ce (fg 3)))))
noncomputable def bI:List PyData->R PyData:=dB 5 (fR cE)
noncomputable def jd:Fs :=
  (bn (cm 4 (bN (eI (ag 1)) 1 [3] (aQ 0) (tE (e2 (lW) (e2 bK (ag 1) (ag 0)) (eC .none))) (ag 0))) (bn (oP (tE (e2 (lw) (e2 bK (ag 0) (eC (.int 0))) (ag 2))) (cD (e2 (ge uJ) (e1 dl (ag 4)) (eC (.int 0)))) eB) (cD (e2 (lw) (e1 dl (ag 4)) (e1 dl (ag 1))))))
noncomputable def bU:List PyData->R PyData:=dB 5 (jd)
noncomputable def kg (bD:List PyData->R PyData) (bU:List PyData->R PyData):Fs :=
  (bn (cm 4 (bN (eI (ag 0)) 1 [1] (aQ 0) (fun _=>.ok true) (aD bD (ah (e2 bK (ag 0) (eC (.int 3))) (ah (ag 1) aH))))) (bn (ia 5 (bN (gN (ah (e1 dl (ag 0)) aH)) 1 [3] (aQ 0) (fun _=>.ok true) (zN (tE (e2 (qK false) (ag 0) (ag 1))) (eC (.int 0)) (eC .none)))) (bn (cm 6 (eC (.int 0))) (bn (cm 7 (e1 ph (ag 3))) (bn (jw (uS 1000000 (tE (e2 (ge uJ) (e1 dl (ag 7)) (eC (.int 0)))) (bn (xo 6 (fun a b=>a+b) (eC (.int 1))) (bn (cm 8 (bN (eI (ag 1)) 1 [5] (aQ 0) (tE (e2 (nG) (e2 bK (fg 1) (ag 0)) (eC .none))) (ag 0))) (bn (cm 7 (bN (eI (ag 8)) 1 [0,4,2,5] (aQ 0) (tE (j7 4 (aD bU (ah (e2 bK (ag 1) (ag 0)) (ah (e2 bK (ag 2) (ag 0)) (ah (ag 3) (ah (ag 4) aH))))))) (ag 0))) (jw (kC (eI (ag 7)) (aQ 9) (ib 5 (ag 9) (ag 6))))))))) (cD (e1 ce (fg 5))))))))
noncomputable def di:List PyData->R PyData:=dB 10 (kg bD bU)
noncomputable def kf:Fs :=
  (cD (e1 ce (bN (eI (ag 0)) 1 [] (aQ 0) (fun _=>.ok true) (eC .none))))
noncomputable def bT:List PyData->R PyData:=dB 1 (kf)
noncomputable def fS (bD:List PyData->R PyData) (bT:List PyData->R PyData):Fs :=
  (bn (ia 3 (e1 ph (aD bT (ah (ag 0) aH)))) (bn (jw (kC (eI (ag 2)) (aQ 4) (oP (tE (e2 (lw) (e2 bK (e2 bK (ag 0) (ag 4)) (eC (.int 0))) (ag 1))) (ib 3 (ag 4) (e2 bK (aD bD (ah (e2 bK (e2 bK (ag 0) (ag 4)) (eC (.int 3))) (ah (ag 2) aH))) (eC (.int 0)))) eB))) (cD (e1 ce (fg 3)))))
noncomputable def bJ:List PyData->R PyData:=dB 5 (fS bD bT)
noncomputable def lC:Fs :=
  (cD (e1 ce (bN (eI (ag 0)) 1 [1] (aQ 0) (tE (e2 (qK true) (ag 0) (ag 1))) (ag 0))))
noncomputable def cc:List PyData->R PyData:=dB 2 (lC)
noncomputable def eZ (bD:List PyData->R PyData) (aN:List PyData->R PyData) (bI:List PyData->R PyData) (cE:List PyData->R PyData) (di:List PyData->R PyData) (bJ:List PyData->R PyData) (cc:List PyData->R PyData) (c_Share:Addr):Fs :=
  (bn (cm 4 (aD di (ah (ag 0) (ah (ag 1) (ah (ag 2) (ah (aD bD (ah (ag 3) (ah (ag 1) aH))) aH)))))) (bn (cm 5 (aD cc (ah (ag 1) (ah (aD cE (ah (ag 4) aH)) aH)))) (bn (oP (tE (e2 (lw) (e1 dl (ag 5)) (eC (.int 0)))) (bn (cm 6 (aD aN (ah (aD bI (ah (ag 0) (ah (ag 2) (ah (ag 4) aH)))) (ah (aD bJ (ah (ag 0) (ah (ag 2) (ah (ag 1) aH)))) aH)))) (cD (yd c_Share ["who","places","moves"] (ah (ag 2) (ah (ag 1) (ah (ag 6) aH)))))) eB) (bn (cm 7 (e2 km (eC (.int 1)) (ag 2))) (bn (cm 4 (aD di (ah (ag 0) (ah (ag 1) (ah (ag 7) (ah (ag 5) aH)))))) (bn (cm 6 (aD aN (ah (aD bI (ah (ag 0) (ah (ag 7) (ah (ag 4) aH)))) (ah (aD bJ (ah (ag 0) (ah (ag 7) (ah (ag 5) aH)))) aH)))) (cD (yd c_Share ["who","places","moves"] (ah (ag 7) (ah (aD cE (ah (ag 4) aH)) (ah (ag 6) aH)))))))))))
noncomputable def br (c_Share:Addr):List PyData->R PyData:=dB 8 (eZ bD aN bI cE di bJ cc c_Share)
noncomputable def eD (aN:List PyData->R PyData) (bT:List PyData->R PyData) (c_Share:Addr):Fs :=
  (bn (ia 2 (bN (eI (ag 0)) 1 [] (aQ 0) (fun _=>.ok true) (eC .none))) (bn (cm 3 (aD bT (ah (ag 0) aH))) (bn (jw (kC (eI (ag 1)) (aQ 4) (bn (jw (kC (eI (e1 (kq c_Share "places") (ag 4))) (aQ 5) (ib 2 (ag 5) (e1 (kq c_Share "who") (ag 4))))) (cm 3 (aD aN (ah (ag 3) (ah (e1 (kq c_Share "moves") (ag 4)) aH))))))) (cD (k7 (ah (e1 ce (fg 2)) (ah (ag 3) aH)))))))
noncomputable def bo (c_Share:Addr):List PyData->R PyData:=dB 6 (eD aN bT c_Share)
noncomputable def qd (cF:List PyData->R PyData) (bH:List PyData->R PyData) (br:List PyData->R PyData) (bo:List PyData->R PyData) (cc:List PyData->R PyData) (c_Share:Addr):Fs :=
  (bn (oP (jD (tE (aD bH (ah (ag 2) (ah (e1 dl (ag 0)) aH))))) (oo (PySem.Str.ofString "NoPart") (eC (.str (PySem.Str.ofString "goals are not some places")))) eB) (bn (ia 3 (wQ aH)) (bn (cm 4 (aD cF (ah (ag 0) aH))) (bn (jw (uS 1000000 (tE (e2 (ge uJ) (e1 dl (ag 4)) (eC (.int 0)))) (bn (cm 5 (aD br (ah (ag 0) (ah (ag 4) (ah (ag 1) (ah (ag 2) aH)))))) (bn (gE 3 (ag 5)) (cm 4 (aD cc (ah (ag 4) (ah (e1 (kq c_Share "places") (ag 5)) aH)))))))) (Fz 3 (cD (aD bo (ah (ag 0) (ah (ag 3) aH)))))))))
noncomputable def cZ (c_Share:Addr):List PyData->R PyData:=dB 6 (qd cF bH (br c_Share) (bo c_Share) cc c_Share)
noncomputable def jc:Fs :=
  (cD (e1 ce (bN (vF (ah (eC (.int 0)) (ah (e1 dl (ag 0)) (ah (ag 1) aH)))) 1 [0,1] (aQ 0) (fun _=>.ok true) (e1 ce (D4 (ag 1) (md (ag 0)) (md (e2 eN (ag 0) (ag 2))))))))
noncomputable def cL:List PyData->R PyData:=dB 2 (jc)
noncomputable def ip:Fs :=
  (bn (cm 2 (e1 dl (ag 0))) (cD (e1 ce (bN (gN (ah (e2 ff (ag 2) (e1 dl (ag 1))) aH)) 1 [1,2] (aQ 0) (tE (e2 (lw) (e2 bK (e2 bK (ag 1) (e2 lG (ag 0) (ag 2))) (eC (.int 0))) (eC (.int 1)))) (ag 0)))))
noncomputable def cG:List PyData->R PyData:=dB 3 (ip)
noncomputable def iy:Fs :=
  (cD (k7 (ah (e2 bK (ag 0) (eC (.int 0))) (ah (e2 bK (ag 0) (eC (.int 1))) (ah (e2 bK (ag 0) (eC (.int 2))) (ah (e1 ce (ag 1)) aH))))))
noncomputable def cI:List PyData->R PyData:=dB 2 (iy)
noncomputable def lA (cI:List PyData->R PyData):Fs :=
  (bn (cm 3 (bN (eI (e2 bK (ag 2) (eC (.int 3)))) 1 [1,0] (aQ 0) (fun _=>.ok true) (e2 eN (e2 ff (e2 bK (e2 bK (ag 1) (eC (.int 1))) (e2 bK (e2 bK (ag 2) (ag 0)) (eC (.int 1)))) (e1 dl (ag 2))) (ag 0)))) (cD (aD cI (ah (ag 2) (ah (e1 iG (ag 3)) aH)))))
noncomputable def cU:List PyData->R PyData:=dB 4 (lA cI)
noncomputable def eY (cU:List PyData->R PyData):Fs :=
  (bn (ia 2 (wQ aH)) (bn (jw (kC (eI (ag 1)) (aQ 3) (lp 2 (bN (eI (ag 0)) 1 [0,3] (aQ 0) (fun _=>.ok true) (aD cU (ah (ag 1) (ah (ag 2) (ah (ag 0) aH)))))))) (cD (e1 ce (fg 2)))))
noncomputable def bE:List PyData->R PyData:=dB 4 (eY cU)
noncomputable def gK:Fs :=
  (cD (um (e1 (lH .tuple) (ag 0)) (nJ (ge Fw) (ge Fw) (ag 1) (e1 dl (ag 0)) (ag 2))))
noncomputable def aB:List PyData->R PyData:=dB 3 (gK)
noncomputable def jb (aJ:List PyData->R PyData) (aB:List PyData->R PyData):Fs :=
  (bn (oP (jD (tE (aD aB (ah (ag 0) (ah (eC (.int 13)) (ah (eC (.int 13)) aH)))))) (cD (eC (.bool false))) eB) (cD (e1 si (bN (eI (ag 0)) 1 [1] (aQ 0) (fun _=>.ok true) (aD aJ (ah (ag 0) (ah (eC (.int 0)) (ah (e2 km (ag 1) (eC (.int 1))) aH))))))))
noncomputable def da:List PyData->R PyData:=dB 2 (jb aJ aB)
noncomputable def ke (da:List PyData->R PyData) (aJ:List PyData->R PyData) (aB:List PyData->R PyData):Fs :=
  (bn (oP (jD (tE (aD aB (ah (ag 0) (ah (eC (.int 2)) (ah (eC (.int 2)) aH)))))) (cD (eC (.bool false))) eB) (cD (um (aD aJ (ah (e2 bK (ag 0) (eC (.int 0))) (ah (eC (.int 0)) (ah (eC (.int 1)) aH)))) (aD da (ah (e2 bK (ag 0) (eC (.int 1))) (ah (ag 1) aH))))))
noncomputable def dh:List PyData->R PyData:=dB 2 (ke da aJ aB)
noncomputable def ir (dh:List PyData->R PyData) (aB:List PyData->R PyData):Fs :=
  (cD (um (aD aB (ah (ag 0) (ah (eC (.int 1)) (ah (eC (.int 6)) aH)))) (e1 si (bN (eI (ag 0)) 1 [0] (aQ 0) (fun _=>.ok true) (aD dh (ah (ag 0) (ah (e1 dl (ag 1)) aH)))))))
noncomputable def cH:List PyData->R PyData:=dB 1 (ir dh aB)
noncomputable def lB (cZ:List PyData->R PyData) (cL:List PyData->R PyData) (cG:List PyData->R PyData) (bE:List PyData->R PyData) (cH:List PyData->R PyData):Fs :=
  (bn (oP (jD (tE (aD cH (ah (ag 1) aH)))) (oo (PySem.Str.ofString "NoWatcher") (eC (.str (PySem.Str.ofString "this is no watcher")))) eB) (bn (cm 3 (e1 dl (ag 0))) (bn (cm 4 (aD cZ (ah (aD bE (ah (ag 0) (ah (ag 1) aH))) (ah (ag 2) (ah (aD cG (ah (ag 0) (ah (ag 1) aH))) aH))))) (bn (cm 5 (aD cL (ah (e2 bK (ag 4) (eC (.int 0))) (ah (ag 3) aH)))) (bn (cm 6 (aD cL (ah (bN (eI (e2 bK (ag 4) (eC (.int 1)))) 1 [3] (aQ 0) (fun _=>.ok true) (zN (tE (e2 (nG) (ag 0) (eC .none))) (eC .none) (e2 fT (ag 0) (ag 1)))) (ah (ag 3) aH)))) (bn (cm 7 (e2 bK (e2 bK (ag 1) (eC (.int 0))) (eC (.int 1)))) (bn (cm 8 (e1 ce (bN (lZ (ag 0)) 2 [5,7] (eV 0 1) (fun _=>.ok true) (e2 bK (e2 bK (ag 2) (e2 bK (ag 3) (e2 bK (ag 1) (eC (.int 1))))) (ag 0))))) (cD (k7 (ah (ag 8) (ah (ag 5) (ah (ag 6) aH))))))))))))
noncomputable def cV (c_Share:Addr):List PyData->R PyData:=dB 9 (lB (cZ c_Share) cL cG bE cH)
noncomputable def kh:Fs :=
  (cD (e1 ce (bN (gN (ah (eC (.int 13)) aH)) 1 [0,1] (aQ 0) (fun _=>.ok true) (zN (tE (e2 (qK false) (ag 0) (ag 1))) (e2 eN (ag 2) (eC (.int 1))) (ag 2)))))
noncomputable def dj:List PyData->R PyData:=dB 2 (kh)
noncomputable def iw (bH:List PyData->R PyData) (aB:List PyData->R PyData) (dj:List PyData->R PyData):Fs :=
  (bn (oP (zt (jD (tE (aD aB (ah (ag 0) (ah (eC (.int 1)) (ah (e2 km (eC (.int 6)) (eC (.int 1))) aH)))))) (jD (tE (e1 si (bN (eI (ag 0)) 1 [] (aQ 0) (fun _=>.ok true) (aD bH (ah (ag 0) (ah (eC (.int 13)) aH)))))))) (oo (PySem.Str.ofString "NoWatcher") (eC (.str (PySem.Str.ofString "these are no groups of marks")))) eB) (bn (cm 1 (bN (lZ (ag 0)) 2 [] (eV 0 1) (fun _=>.ok true) (k7 (ah (eC (.int 0)) (ah (aD dj (ah (ag 1) (ah (ag 0) aH))) aH))))) (cD (e2 eN (e1 ce (ag 1)) (k7 (ah (k7 (ah (eC (.int 1)) (ah (e2 bK (e2 bK (ag 1) (eC (.int 0))) (eC (.int 1))) aH))) aH))))))
noncomputable def bR:List PyData->R PyData:=dB 2 (iw bH aB dj)
noncomputable def vd (cr:List PyData->R PyData) (cu:List PyData->R PyData) (aZ:List PyData->R PyData) (cZ:List PyData->R PyData) (cV:List PyData->R PyData) (bR:List PyData->R PyData):Fs :=
  (bn (cm 1 (aD cr (ah (ag 0) (ah (eC (.int 12)) aH)))) (bn (cm 2 (e2 fT (aD aZ (ah (ag 0) (ah (eC (.int 1)) aH))) (eC (.int 2)))) (bn (cm 3 (aD cu (ah (aD aZ (ah (ag 0) (ah (eC (.int 1)) aH))) aH))) (bn (cm 4 (aD cu (ah (aD aZ (ah (ag 0) (ah (eC (.int 2)) aH))) aH))) (bn (ia 5 (wQ aH)) (bn (jw (kC (eI (k7 (ah (ag 3) (ah (ag 4) aH)))) (aQ 6) (bn (cm 7 (e1 ce (bN (lZ (ag 1)) 2 [6] (eV 0 1) (tE (e2 (qK false) (e2 bK (ag 1) (eC (.int 1))) (ag 2))) (ag 0)))) (bn (cm 8 (e2 bK (aD cZ (ah (ag 1) (ah (ag 2) (ah (ag 7) aH)))) (eC (.int 0)))) (bn (oP (tE (e2 (uk) (e2 bK (aD cV (ah (ag 1) (ah (aD bR (ah (k7 (ah (ag 6) aH)) aH)) (ah (ag 2) aH)))) (eC (.int 0))) (ag 8))) (cD (eC (.bool false))) eB) (gE 5 (ag 8))))))) (bn (cm 9 (e2 bK (aD cV (ah (ag 1) (ah (aD bR (ah (k7 (ah (ag 3) (ah (ag 4) aH))) aH)) (ah (ag 2) aH)))) (eC (.int 0)))) (bn (jw (kC (gN (ah (e1 dl (ag 1)) aH)) (aQ 10) (oP (oE (tE (e2 (lw) (e2 bK (ag 9) (ag 10)) (ag 2))) (zt (tE (e2 (uk) (e2 bK (e2 bK (fg 5) (eC (.int 0))) (ag 10)) (ag 2))) (tE (e2 (uk) (e2 bK (e2 bK (fg 5) (eC (.int 1))) (ag 10)) (ag 2))))) (cD (eC (.bool false))) eB))) (cD (eC (.bool true)))))))))))
noncomputable def xK (c_Share:Addr):List PyData->R PyData:=dB 11 (vd cr cu aZ (cZ c_Share) (cV c_Share) bR)
end G
end
namespace G
open PySem PySem.Spec PyProof.Rows L2 D2
theorem Ae (ns:List Int) {k:Int} (hk:0<=k):∃ v,cq [pP ns,.int k]=.ok (.int v):=by
  unfold cq gL;by_cases h:k < ns.length
  · refine ⟨ns[k.toNat]'(by omega),?_⟩;have hx:=sj (xs:=ns.map PyData.int) (i:=k) hk (by simpa using h);rw [eG];simp [h,hx]
  · refine ⟨0,?_⟩;rw [eG];simp [h]
theorem la (ns:List Int) {k:Int} (hk:0<=k):∃ v,aZ [pP ns,.int k]=.ok (.int v)/\0<=v/\v < 2147483629:=by
  obtain ⟨c,hc⟩:=Ae ns hk;unfold aZ jh;have m1:ff (.int 7919) (.int k)=.ok (.int (7919*k)):=gr (.inl (by omega));have m2:ff (.int (c+7919*k+1)) (.int 48271)=.ok (.int ((c+7919*k+1)*48271)):=gr (.inr (by omega));generalize hd:(c+7919*k+1)*48271%2147483647=d;have hd0:0<=d:=by omega
  have hd1:d < 2147483647:=by omega
  have m3:ff (.int d) (.int d)=.ok (.int (d*d)):=gr (.inl (by omega));have m4:ff (.int 7) (.int d)=.ok (.int (7*d)):=gr (.inl (by omega));refine ⟨(d*d+7*d+k)%2147483629,?_,by omega,by omega⟩;rw [eG];simp [hc,m1,m2,hd,m3,m4,List.replicate]
theorem nI (n k:Int):∃ v,aM [.int n,.int k]=.ok (.int v)/\0<=v/\v < 2147483629:=by
  unfold aM je;have m1:ff (.int 104729) (.int k)=.ok (.int (104729*k)):=gr (.inl (by omega));have m2:ff (.int (n+104729*k+17)) (.int 69621)=.ok (.int ((n+104729*k+17)*69621)):=gr (.inr (by omega));generalize hd:(n+104729*k+17)*69621%2147483647=d;have hd0:0<=d:=by omega
  have hd1:d < 2147483647:=by omega
  have m3:ff (.int d) (.int d)=.ok (.int (d*d)):=gr (.inl (by omega));have m4:ff (.int 3) (.int d)=.ok (.int (3*d)):=gr (.inl (by omega));refine ⟨(d*d+3*d+k)%2147483629,?_,by omega,by omega⟩;rw [eG];simp [m1,m2,hd,m3,m4,List.replicate]
theorem nQ (n c:Int) (hc:1<=c):∀ (ds:List PyData) (m:Nat) (kvs:List (PyData×PyData)) (x:bt),tS c m kvs->(∀ d∈ds,∃ k,d=.int k)->m+ds.length<=1000 ->
    ∃ kvs' x',tS c (m+ds.length) kvs'/\gf (aQ 3) (A9 2 (e2 fT (aD aM (ah (ag 0) (ah (ag 3) aH))) (ag 1)) (eC (.bool true))) ds [.val (.int n),.val (.int c),.own (.dict kvs),x]
      = .ok (.nx [.val (.int n),.val (.int c),.own (.dict kvs'),x'])
  | [],m,kvs,x,hk,_,_=>⟨kvs,x,hk,by rw [eO]⟩
  | d::ds,m,kvs,x,hk,hi,hl=>by
    obtain ⟨k,rfl⟩:=hi d List.mem_cons_self;obtain ⟨v,hv,v0,v1⟩:=nI n k;have hk':=hk.put (k:=v%c) (Int.emod_nonneg _ (by omega)) (Int.emod_lt_of_pos _ (by omega)) (.bool true);obtain ⟨kvs',x',h1,h2⟩:=nQ n c hc ds (m+1) _ (.val (.int k)) hk' (fun d hd=>hi d (List.mem_cons_of_mem _ hd)) (by simp at hl;omega);refine ⟨kvs',x',by rw [List.length_cons];simpa [Nat.add_comm,Nat.add_left_comm,Nat.add_assoc] using h1,?_⟩;have hlen:=hk.len;have hsz:kvs.length < sizeLine:=Nat.lt_of_le_of_lt (show kvs.length<=1000 by simp at hl;omega) (by decide);have hc':0 < c:=by omega
    rw [cX,<- h2];simp [A9,hv,hc',hR,hsz]
theorem xa {n c:Int} (hn:0<=n) (hc:1<=c):∃ ns:List Int,dc [.int n,.int c]=.ok (.tuple (ns.map .int))/\(∀ x∈ns,0<=x/\x < c)/\ns≠[]/\ns.Pairwise (· < ·):=by
  unfold dc jf;have m1:∀ k:Int,ff (.int 20) (.int k)=.ok (.int (20*k)):=fun k=>gr (.inl (by omega))
  generalize hN:(1+n%3+20*(if n / 3%29=7 then 1 else 0):Int)=N;have hN0:1<=N:=by split at hN <;> omega
  have hN1:N<=23:=by split at hN <;> omega
  obtain ⟨kvs,x,hk,hf⟩:=nQ n c hc (bL 0 N.toNat) 0 [] .non ⟨[],rfl,by simp,by simp,.inl rfl,by simp⟩ (sT _ _) (by rw [fF];omega);obtain ⟨ns,e,hb,hl,hz,nd⟩:=hk.ex;rw [fF] at hl hz;have hi:du (kvs.map (·.1))=some ns:=by rw [e,jq]
  have hs:iG (.dict kvs)=.ok (.list ((dH ns).map PyData.int)):=by
    show (match du (kvs.map (·.1)) with | some ns=>if ns.length < 64 then R.ok (PyData.list ((dH ns).map PyData.int)) else .no | none=>.no)=_;rw [hi];exact if_pos (by omega)
  have hr:-(2 ^ 62)<=N/\N < 2 ^ 62:=by omega
  refine ⟨dH ns,?_,fun x hx=>hb x ((dE ns).mem_iff.mp hx),?_,pT (gj ns) ((dE ns).nodup_iff.mpr nd)⟩
  · rw [eG];have hg:lh [.int N]=.ok (bL 0 N.toNat):=by
      show (if -(2 ^ 62)<=N/\N < 2 ^ 62 then R.ok (bL 0 N.toNat) else .no)=_;rw [if_pos hr]
    simp [fH,g9,m1,List.replicate,hN,hg,hf,hs]
  · intro z;have:=(dE ns).length_eq;rw [z] at this;rcases hz with q | q
    · omega
    · exact q (List.eq_nil_of_length_eq_zero this.symm)
theorem xc {n c h:Int} (hn:0<=n) (hc:1<=c) (h0:0<=h):∃ p:P4,cM [.int n,.int c,.int h]=.ok p.d/\Pl c h p:=by
  obtain ⟨v,hv,v0,v1⟩:=nI n 9;obtain ⟨ns,hg,hb,hne,hso⟩:=xa (n:=v) (c:=c) v0 hc;unfold cM ji;have hh:0 < h+1:=by omega
  have s4:4<=sizeLine:=by decide
  have a1:=Int.emod_nonneg (n / 2) (show h+1≠0 by omega);have a2:=Int.emod_lt_of_pos (n / 2) hh;by_cases hq:n / 234%11=3
  · refine ⟨⟨n%2,n / 2%(h+1),n / 26%41-20,ns⟩,?_,⟨by dsimp only;omega,by dsimp only;omega,a1,by dsimp only;omega,by dsimp only;omega,by dsimp only;omega,hne,hso,hb⟩⟩;rw [eG];simp [hh,g9,hq,hv,hg,s4,P4.d]
  · refine ⟨⟨n%2,n / 2%(h+1),n / 26%9-4,ns⟩,?_,⟨by dsimp only;omega,by dsimp only;omega,a1,by dsimp only;omega,by dsimp only;omega,by dsimp only;omega,hne,hso,hb⟩⟩;rw [eG];simp [hh,g9,hq,hv,hg,s4,P4.d]
theorem sg (f:Fe) (ρ:aT) (i:Nat) (P:P4->Prop):∀ ds:List PyData,(∀ d∈ds,∃ p:P4,f (ρ.set i (.val d))=.ok p.d/\P p)->∃ ps:List P4,bC (aQ i) (fun _=>.ok true) f ρ ds=.ok (ps.map P4.d)/\ps.length=ds.length/\∀ p∈ps,P p
  | [],_=>⟨[],dt ..,rfl,by simp⟩
  | d::ds,h=>by
    obtain ⟨x,h1,h2⟩:=h d List.mem_cons_self;obtain ⟨xs,h3,h4,h5⟩:=sg f ρ i P ds fun d hd=>h d (List.mem_cons_of_mem _ hd)
    refine ⟨x::xs,?_,by simp [h4],fun y hy=>?_⟩
    · rw [eS,h1,h3];rfl
    · rcases List.mem_cons.mp hy with rfl | hy
      · exact h2
      · exact h5 y hy
theorem uB (ns:List Int) {most:Int} (hm0:1<=most) (hm1:most<=24):∃ (ps:List P4) (hi:Int),cr [pP ns,.int most]=.ok (gD ps)/\(∀ p∈ps,Pl ps.length hi p)/\1<=ps.length/\(ps.length:Int)<=most/\0<=hi/\hi<=12:=by
  obtain ⟨v,hv,v0,v1⟩:=la ns (k:=0) (by omega);unfold cr iu;generalize hm:(if (if (ns.length:Int) > 4 then (ns.length:Int) else 4) < most then (if (ns.length:Int) > 4 then (ns.length:Int) else 4) else most)=m;have m0:0 < m:=by split at hm <;> split at hm <;> omega
  have m1:m<=most:=by split at hm <;> split at hm <;> omega
  generalize hc:1+v%m=c;have c0:1<=c:=by have:=Int.emod_nonneg v (show m≠0 by omega);omega
  have c1:c<=most:=by have:=Int.emod_lt_of_pos v m0;omega
  have hix:∃ h,bK (.list [.int 1,.int 2,.int 3,.int 5,.int 12,.int 12]) (.int (v / 24%6))=.ok (.int h)/\0<=h/\h<=12:=by
    obtain ⟨x,hx,e⟩:=Aj (xs:=[.int 1,.int 2,.int 3,.int 5,.int 12,.int 12]) (i:=v / 24%6) (by omega) (by simp;omega);rw [e];simp at hx;rcases hx with rfl | rfl | rfl | rfl | rfl <;> exact ⟨_,rfl,by decide,by decide⟩
  obtain ⟨h,hh,h0,h1⟩:=hix;have s6:6<=sizeLine:=by decide
  have hr:lh [.int c]=.ok (bL 0 c.toNat):=by
    show (if -(2 ^ 62)<=c/\c < 2 ^ 62 then R.ok (bL 0 c.toNat) else .no)=_;rw [if_pos (by omega)]
  obtain ⟨xs,e1,e2,e3⟩:=sg (aD cM (ah (aD aZ (ah (ag 1) (ah (e2 eN (eC (.int 3)) (ag 0)) aH))) (ah (ag 2) (ah (ag 3) aH)))) (ax 1 [0,3,4] [.val (pP ns),.val (.int most),.val (.int v),.val (.int c),.val (.int h)]) 0 (Pl c h) (bL 0 c.toNat) fun d hd=>by
    unfold bL at hd;obtain ⟨k,_,rfl⟩:=List.mem_map.mp hd;obtain ⟨w,hw,w0,w1⟩:=la ns (k:=3+(0+(k:Int))) (by omega);obtain ⟨d,hd1,hd2⟩:=xc (n:=w) (c:=c) (h:=h) w0 c0 h0;refine ⟨d,?_,hd2⟩;simp at hw;simp [ax,List.replicate,hw,hd1]
  rw [fF] at e2;have ec:(xs.length:Int)=c:=by omega
  refine ⟨xs,h,?_,by rw [ec];exact e3,by omega,by omega,h0,h1⟩;rw [eG];simp [hv,hm,m0,hc,s6,hh,List.replicate,bp,hr,fF,bS (show c.toNat<=1000 by omega),e1]
noncomputable def cy (ns:List Int) (i:Int):Bool:=ns.any fun j=>decide (j=i)
theorem bW {ns:List Int} {i:Int}:cy ns i=true<->i∈ns:=by
  unfold cy;rw [List.any_eq_true];constructor
  · rintro ⟨j,hj,e⟩;have:=of_decide_eq_true e;exact this ▸ hj
  · exact fun h=>⟨i,h,decide_eq_true rfl⟩
theorem lX:∀ ns:List Int,PyData.depthAll (ns.map .int)=0
  | []=>by simp [PyData.depthAll]
  | n::ns=>by simp [PyData.depthAll,PyData.depth,lX ns]
theorem uv (ns:List Int):PyData.canLayAll0 (ns.map .int)=true:=nA fun x hx=>by
  obtain ⟨i,_,rfl⟩:=List.mem_map.mp hx;exact nR i
theorem pB (ns:List Int) (i:Int):qO (ns.map .int) (.int i)=true:=by
  unfold qO;rw [uv,lX];simp [PyData.canLay0]
theorem r0 (ns:List Int) (i:Int):((ns.map PyData.int).any fun y=>PyData.eqv y (.int i))=cy ns i:=by
  rw [List.any_map];congr 1
theorem Ch (ns:List Int) (i:Int) (neg:Bool):qK neg (.int i) (.tuple (ns.map .int))=.ok (.bool (if neg then !cy ns i else cy ns i)):=by
  show (if qO (ns.map .int) (.int i)=true then R.ok (PyData.bool _) else .no)=_;rw [if_pos (pB ns i),r0]
theorem FZ (ns:List Int) (i:Int) (neg:Bool):qK neg (.int i) (.list (ns.map .int))=.ok (.bool (if neg then !cy ns i else cy ns i)):=by
  show (if qO (ns.map .int) (.int i)=true then R.ok (PyData.bool _) else .no)=_;rw [if_pos (pB ns i),r0]
theorem dg {t:aT->R Bool} {ρ:aT} {p:Int->Bool}:∀ ns:List Int,(∀ x∈ns,t ((bt.non::ρ).set 0 (.val (.int x)))=.ok (p x))->bC (aQ 0) t (ag 0) (.non::ρ) (ns.map .int)=.ok ((ns.filter p).map .int)
  | [],_=>dt ..
  | x::ns,h=>by
    rw [List.map_cons,eS,h x List.mem_cons_self,dg ns fun y hy=>h y (List.mem_cons_of_mem _ hy)];cases hp:p x with
    | true=>rw [List.filter_cons_of_pos hp];rfl
    | false=>rw [List.filter_cons_of_neg (by rw [hp];simp)];rfl
theorem iR (c:Nat):bL 0 c=((List.range c).map fun (k:Nat)=>(k:Int)).map .int:=by
  unfold bL;rw [List.map_map];apply List.map_congr_left;intro k _;simp
noncomputable def bg (ps:List P4) (i:Int):List Int:=(ps[i.toNat]?.map (·.ns)).getD []
theorem pE {ps:List P4} {i:Int} (h0:0<=i) (h1:i < ps.length):bK (gD ps) (.int i)=.ok (ps[i.toNat]'(by omega)).d:=by
  rw [sk h0 (by simpa using h1)];simp
theorem gu {ps:List P4} {i:Int} (h0:0<=i) (h1:i < ps.length):bg ps i=(ps[i.toNat]'(by omega)).ns:=by
  unfold bg;rw [List.getElem?_eq_getElem (by omega)];rfl
theorem qX (p:P4):bK p.d (.int 3)=.ok (.tuple (p.ns.map .int)):=rfl
theorem n6 (p:P4):bK p.d (.int 0)=.ok (.int p.w):=rfl
noncomputable def az (ps:List P4) (i:Int):Int:=(ps[i.toNat]?.map (·.w)).getD 0
theorem ky {ps:List P4} {i:Int} (h0:0<=i) (h1:i < ps.length):az ps i=(ps[i.toNat]'(by omega)).w:=by
  unfold az;rw [List.getElem?_eq_getElem (by omega)];rfl
noncomputable def bP (ps:List P4) (js:List Int) (i:Int):List Int:=(bg ps i).filter (cy js)
noncomputable def lY (ps:List P4) (js kn:List Int) (i:Int):List Int:=(bP ps js i).filter (cy kn)
noncomputable def jo (ps:List P4) (js:List Int) (who:Int) (kn:List Int) (i:Int):Bool :=
  !cy kn i&&(decide (0 < (lY ps js kn i).length)&&(decide (az ps i=who)||decide ((lY ps js kn i).length=(bP ps js i).length)))
noncomputable def eX (ps:List P4) (js:List Int) (who:Int) (kn is:List Int):List Int:=is.filter (jo ps js who kn)
noncomputable def dk (ps:List P4) (js:List Int) (who r:Int) (kvs:List (Int×Int)):List (Int×Int):=kvs++(eX ps js who (kvs.map (·.1)) js).map fun i=>(i,r)
noncomputable def gC (ps:List P4) (js:List Int) (who:Int):Int->Nat->List (Int×Int)->List (Int×Int)
  | _,0,kvs=>kvs
  | r,n+1,kvs=>gC ps js who (r+1) n (dk ps js who r kvs)
theorem jN:∀ {l m:List Int},l.Nodup->(∀ x∈l,x∈m)->l.length<=m.length
  | [],m,_,_=>Nat.zero_le _
  | x::l,m,nd,h=>by
    obtain ⟨n1,n2⟩:=List.nodup_cons.mp nd;have hx:=h x List.mem_cons_self;have:=jN (m:=m.erase x) n2 fun y hy=>(List.mem_erase_of_ne (by rintro rfl;exact n1 hy)).mpr (h y (List.mem_cons_of_mem _ hy))
    rw [List.length_erase_of_mem hx] at this;have hp:=List.length_pos_of_mem hx;rw [List.length_cons];omega
structure ja (js:List Int) (kvs:List (Int×Int)):Prop where
  nd:(kvs.map (·.1)).Nodup
  sub:∀ x∈kvs.map (·.1),x∈js
theorem ja.len {js:List Int} {kvs:List (Int×Int)} (h:ja js kvs) (nj:js.Nodup):kvs.length<=js.length:=by
  have:=jN h.nd h.sub;simpa using this
theorem kx (ps:List P4) (js:List Int) (who r:Int) (kvs:List (Int×Int)):(dk ps js who r kvs).map (·.1)=kvs.map (·.1)++eX ps js who (kvs.map (·.1)) js:=by
  unfold dk;rw [List.map_append,List.map_map];congr 1;exact List.map_id _
theorem n4 {ps:List P4} {js:List Int} {who:Int} {kn is:List Int} {x:Int} (h:x∈eX ps js who kn is):x∈is/\x∉kn:=by
  obtain ⟨h1,h2⟩:=List.mem_filter.mp h;refine ⟨h1,fun z=>?_⟩;unfold jo at h2;rw [bW.mpr z] at h2;simp at h2
theorem ja.round {ps:List P4} {js:List Int} {who r:Int} {kvs:List (Int×Int)} (h:ja js kvs) (nj:js.Nodup):ja js (dk ps js who r kvs):=by
  refine ⟨?_,fun x hx=>?_⟩
  · rw [kx,List.nodup_append];refine ⟨h.nd,List.Pairwise.filter _ nj,fun a ha b hb e=>?_⟩;subst e;exact (n4 hb).2 ha
  · rw [kx,List.mem_append] at hx;rcases hx with z | z
    · exact h.sub x z
    · exact (n4 z).1
theorem ln (ps:List P4) (js:List Int) (who:Int):∀ (n:Nat) (r:Int) (kvs:List (Int×Int)),gC ps js who r (n+1) kvs=dk ps js who (r+n) (gC ps js who r n kvs)
  | 0,r,kvs=>by
    show dk ps js who r kvs=dk ps js who (r+((0:Nat):Int)) kvs;simp
  | n+1,r,kvs=>by
    show gC ps js who (r+1) (n+1) (dk ps js who r kvs)=_;rw [ln ps js who n (r+1)];show dk ps js who (r+1+n) _=dk ps js who (r+((n+1:Nat):Int)) _;rw [show r+1+(n:Int)=r+((n+1:Nat):Int) by omega];rfl
noncomputable def aK (ps:List P4) (js:List Int) (who:Int) (gs:List Int):Nat->List Int
  | 0=>gs
  | m+1=>aK ps js who gs m++eX ps js who (aK ps js who gs m) js
noncomputable def xt (ps:List P4) (js:List Int) (who:Int) (gs:List Int) (m:Nat):List (Int×Int):=gC ps js who 1 m (gs.map fun i=>(i,0))
theorem ox (ps:List P4) (js:List Int) (who:Int) (gs:List Int) (m:Nat):xt ps js who gs (m+1)=dk ps js who (m+1) (xt ps js who gs m):=by
  unfold xt;rw [ln];congr 1;omega
theorem fx (ps:List P4) (js:List Int) (who:Int) (gs:List Int):∀ m,(xt ps js who gs m).map (·.1)=aK ps js who gs m
  | 0=>by
    show (gs.map fun i=>((i,0):Int×Int)).map (·.1)=gs;rw [List.map_map];exact List.map_id _
  | m+1=>by
    rw [ox,kx,fx ps js who gs m];rfl
noncomputable def look (kvs:List (Int×Int)) (i:Int):Option Int:=(kvs.find? fun q=>decide (q.1=i)).map (·.2)
theorem l7 (a b:List (Int×Int)) (i:Int):look (a++b) i=(look a i).or (look b i):=by
  unfold look;rw [List.find?_append];cases a.find? _ <;> rfl
theorem gm {kvs:List (Int×Int)} {i:Int}:look kvs i=none<->i∉kvs.map (·.1):=by
  unfold look;rw [Option.map_eq_none_iff,List.find?_eq_none];constructor
  · intro h z;obtain ⟨q,hq,e⟩:=List.mem_map.mp z;exact h q hq (decide_eq_true e)
  · intro h q hq e;exact h (List.mem_map.mpr ⟨q,hq,of_decide_eq_true e⟩)
theorem iP (r:Int) (i:Int):∀ l:List Int,look (l.map fun j=>(j,r)) i=if i∈l then some r else none
  | []=>rfl
  | j::l=>by
    have ih:=iP r i l;unfold look at ih ⊢;by_cases h:j=i
    · subst h;rw [List.map_cons,List.find?_cons_of_pos (by simp)];simp
    · rw [List.map_cons,List.find?_cons_of_neg (by simpa using h),ih];by_cases h2:i∈l
      · simp [h2]
      · have:¬ (i=j):=fun z=>h z.symm
        simp [h2,this]
section
variable {ps:List P4} {js:List Int} {who:Int} {gs:List Int}
theorem jI {i:Int} {k:Nat} (h:i∈aK ps js who gs k):∀ {m:Nat},k<=m->i∈aK ps js who gs m
  | 0,hm=>by
    have:k=0:=by omega
    subst this;exact h
  | m+1,hm=>by
    by_cases e:k=m+1
    · subst e;exact h
    · show i∈aK ps js who gs m++_;exact List.mem_append_left _ (jI h (by omega))
theorem fi {i:Int}:∀ {m:Nat} {q:Int},look (xt ps js who gs m) i=some q<->∃ k:Nat,q=k/\k<=m/\i∈aK ps js who gs k/\(k=0\/i∉aK ps js who gs (k-1))
  | 0,q=>by
    show look (gs.map fun j=>(j,0)) i=some q<->_;rw [iP];constructor
    · intro h;split at h
      · rename_i hi;cases h;exact ⟨0,rfl,Nat.le_refl _,hi,.inl rfl⟩
      · cases h
    · rintro ⟨k,rfl,hk,hi,_⟩;have:k=0:=by omega
      subst this;rw [if_pos (show i∈gs from hi)];rfl
  | m+1,q=>by
    have ih:=fun q=>fi (i:=i) (m:=m) (q:=q)
    have e:xt ps js who gs (m+1)=xt ps js who gs m++(eX ps js who (aK ps js who gs m) js).map fun j=>(j,((m+1:Nat):Int)):=by
      rw [ox];unfold dk;rw [fx];rfl
    rw [e,l7,iP];by_cases hi:i∈aK ps js who gs m
    · cases h0:look (xt ps js who gs m) i with
      | none=>rw [gm,fx] at h0;exact (h0 hi).elim
      | some q0 =>
        rw [Option.some_or,<- h0,ih q];constructor
        · rintro ⟨k,a,b,c,d⟩;exact ⟨k,a,by omega,c,d⟩
        · rintro ⟨k,a,b,c,d⟩;refine ⟨k,a,?_,c,d⟩;by_cases hk:k=m+1
          · subst hk;rcases d with d | d
            · omega
            · exact (d hi).elim
          · omega
    · have h0:look (xt ps js who gs m) i=none:=by rw [gm,fx];exact hi
      rw [h0,Option.none_or];constructor
      · intro h;split at h
        · rename_i hn;cases h;exact ⟨m+1,rfl,Nat.le_refl _,List.mem_append_right _ hn,.inr hi⟩
        · cases h
      · rintro ⟨k,rfl,b,c,d⟩;have hk:k=m+1:=by
          by_cases hk:k=m+1
          · exact hk
          · exact (hi (jI c (by omega))).elim
        subst hk;have c':i∈aK ps js who gs m++eX ps js who (aK ps js who gs m) js:=c;rw [if_pos ((List.mem_append.mp c').elim (fun z=>(hi z).elim) id)]
theorem vh {k:Nat} (h:eX ps js who (aK ps js who gs k) js=[]):∀ d,aK ps js who gs (k+d)=aK ps js who gs k
  | 0=>rfl
  | d+1=>by
    show aK ps js who gs (k+d)++eX ps js who (aK ps js who gs (k+d)) js=_;rw [vh h d,h,List.append_nil]
theorem qu (ng:gs.Nodup) (hg:∀ x∈gs,x∈js) (nj:js.Nodup):∀ m,ja js (xt ps js who gs m)
  | 0=>⟨by rw [fx];exact ng,fun x hx=>by rw [fx] at hx;exact hg x hx⟩
  | m+1=>by rw [ox];exact (qu ng hg nj m).round nj
theorem uc (ng:gs.Nodup) (hg:∀ x∈gs,x∈js) (nj:js.Nodup) {m:Nat} {i:Int} (h:i∈aK ps js who gs m):i∈js:=by
  have:=(qu (ps:=ps) (who:=who) ng hg nj m).sub;rw [fx] at this;exact this i h
theorem BY (ng:gs.Nodup) (hg:∀ x∈gs,x∈js) (nj:js.Nodup) (m:Nat):(aK ps js who gs m).length<=js.length:=by
  have:=(qu (ps:=ps) (who:=who) ng hg nj m).len nj;rw [<- fx,List.length_map];exact this
theorem vg:∀ m,(∀ k,k < m->eX ps js who (aK ps js who gs k) js≠[])->m+gs.length<=(aK ps js who gs m).length
  | 0,_=>by show 0+gs.length<=gs.length;omega
  | m+1,h=>by
    have:=vg m fun k hk=>h k (by omega)
    have h1:=h m (by omega);have h2:=List.length_pos_iff.mpr h1;show _<=(aK ps js who gs m++eX ps js who (aK ps js who gs m) js).length;rw [List.length_append];omega
theorem BX (ng:gs.Nodup) (hg:∀ x∈gs,x∈js) (nj:js.Nodup) {n:Nat} (hn:js.length<=n):eX ps js who (aK ps js who gs n) js=[]:=by
  by_cases h:eX ps js who (aK ps js who gs n) js=[]
  · exact h
  · have:=vg (ps:=ps) (js:=js) (who:=who) (gs:=gs) (n+1) fun k hk e=>h (by
      have s:=vh e (n-k);rw [show k+(n-k)=n by omega] at s;rw [s];exact e)
    have:=BY (ps:=ps) (who:=who) ng hg nj (n+1);omega
theorem gO {α:Type} (p:α->Bool):∀ l:List α,(l.filter p).length=l.length<->∀ x∈l,p x=true
  | []=>by simp
  | x::l=>by
    have ih:=gO p l;have le:=List.length_filter_le p l;cases h:p x with
    | true=>rw [List.filter_cons_of_pos h];simp [ih,h]
    | false=>rw [List.filter_cons_of_neg (by rw [h];simp)];simp [h];omega
theorem nY {α:Type} (p:α->Bool) (l:List α):0 < (l.filter p).length<->∃ x∈l,p x=true:=by
  rw [List.length_pos_iff_exists_mem];simp [List.mem_filter]
theorem fM {kn:List Int} {i:Int}:jo ps js who kn i=true<->i∉kn/\(∃ g∈bP ps js i,g∈kn)/\(az ps i=who\/∀ g∈bP ps js i,g∈kn):=by
  unfold jo lY;rw [Bool.and_eq_true,Bool.and_eq_true,Bool.or_eq_true,decide_eq_true_iff,decide_eq_true_iff,decide_eq_true_iff,nY,gO,Bool.not_eq_true',<- Bool.not_eq_true,bW];simp only [bW]
noncomputable def rK (ps:List P4) (js:List Int) (who:Int) (gs:List Int) (i:Int):Option Int:=look (xt ps js who gs ps.length) i
structure tH (ps:List P4) (js:List Int) (who:Int) (gs:List Int) (rk:Int->Option Int):Prop where
  nneg:∀ i q,rk i=some q->0<=q
  sub:∀ i q,rk i=some q->i∈js
  zero:∀ i,rk i=some 0<->i∈gs
  own:∀ i q,rk i=some q->0 < q->az ps i=who->∃ g∈bP ps js i,rk g=some (q-1)
  low:∀ i q g t,rk i=some q->0 < q->az ps i=who->g∈bP ps js i->rk g=some t->q-1<=t
  oth:∀ i q,rk i=some q->0 < q->az ps i≠who->(∃ g,g∈bP ps js i)/\∀ g∈bP ps js i,∃ t,rk g=some t/\t < q
  outO:∀ i,i∈js->rk i=none->az ps i=who->∀ g∈bP ps js i,rk g=none
  outX:∀ i,i∈js->rk i=none->az ps i≠who->(∃ g,g∈bP ps js i)->∃ g∈bP ps js i,rk g=none
theorem Ez (hn:js.length<=ps.length) {i q:Int} (h:rK ps js who gs i=some q):q<=ps.length:=by
  obtain ⟨k,rfl,b,_⟩:=fi.mp h;omega
theorem vi (ng:gs.Nodup) (hg:∀ x∈gs,x∈js) (nj:js.Nodup) (hn:js.length<=ps.length):tH ps js who gs (rK ps js who gs):=by
  have ex:∀ {i k},i∈aK ps js who gs k->k<=ps.length->∃ t:Nat,t<=k/\rK ps js who gs i=some (t:Int):=fun {i}=>by
    intro k;induction k with
    | zero=>exact fun h _=>⟨0,Nat.le_refl _,fi.mpr ⟨0,rfl,by omega,h,.inl rfl⟩⟩
    | succ k ih =>
      intro h hk;by_cases h1:i∈aK ps js who gs k
      · obtain ⟨t,a,b⟩:=ih h1 (by omega);exact ⟨t,by omega,b⟩
      · exact ⟨k+1,Nat.le_refl _,fi.mpr ⟨k+1,rfl,hk,h,.inr h1⟩⟩
  have nm:∀ {i},rK ps js who gs i=none<->i∉aK ps js who gs ps.length:=fun {i}=>by
    unfold rK;rw [gm,fx]
  have fix:=BX (ps:=ps) (who:=who) ng hg nj hn;have new:∀ {i k},i∈aK ps js who gs (k+1)->i∉aK ps js who gs k->jo ps js who (aK ps js who gs k) i=true:=fun {i k} h1 h2=>by
    have h1':i∈aK ps js who gs k++eX ps js who (aK ps js who gs k) js:=h1;rcases List.mem_append.mp h1' with z | z
    · exact (h2 z).elim
    · exact (List.mem_filter.mp z).2
  have not:∀ {i k},i∈js->i∉aK ps js who gs (k+1)->¬ jo ps js who (aK ps js who gs k) i=true:=fun {i k} h1 h2 h3 =>
    h2 (show i∈aK ps js who gs k++eX ps js who (aK ps js who gs k) js from List.mem_append_right _ (List.mem_filter.mpr ⟨h1,h3⟩))
  have pos:∀ {i q},rK ps js who gs i=some q->0 < q->∃ k:Nat,q=((k+1:Nat):Int)/\k+1<=ps.length/\i∈aK ps js who gs (k+1)/\i∉aK ps js who gs k:=fun {i q} h hq=>by
    obtain ⟨k,rfl,b,c,d⟩:=fi.mp h;cases k with
    | zero=>omega
    | succ k =>
      rcases d with d | d
      · omega
      · exact ⟨k,rfl,b,c,d⟩
  refine ⟨fun i q h=>?_,fun i q h=>?_,fun i=>?_,fun i q h hq ho=>?_,fun i q g t h hq ho hg' ht=>?_,fun i q h hq ho=>?_,fun i hi h ho g hg'=>?_,fun i hi h ho hw=>?_⟩
  · obtain ⟨k,rfl,_⟩:=fi.mp h;omega
  · obtain ⟨k,rfl,_,c,_⟩:=fi.mp h;exact uc ng hg nj c
  · constructor
    · intro h;obtain ⟨k,e,_,c,_⟩:=fi.mp h;have:k=0:=by omega
      subst this;exact c
    · exact fun h=>fi.mpr ⟨0,rfl,by omega,h,.inl rfl⟩
  · obtain ⟨k,rfl,b,c,d⟩:=pos h hq;obtain ⟨_,⟨g,hg1,hg2⟩,_⟩:=fM.mp (new c d);obtain ⟨t,ht,hr⟩:=ex hg2 (by omega);refine ⟨g,hg1,?_⟩;by_cases e:t=k
    · subst e;rw [hr];congr 1;omega
    · exfalso;cases k with
      | zero=>omega
      | succ k =>
        obtain ⟨t',e',_,c',_⟩:=fi.mp hr;have e'':t=t':=by omega
        subst e'';exact not (uc ng hg nj c) d (fM.mpr ⟨fun z=>d (jI z (by omega)),⟨g,hg1,jI c' (by omega)⟩,.inl ho⟩)
  · obtain ⟨k,rfl,b,c,d⟩:=pos h hq;obtain ⟨t',rfl,_,c',_⟩:=fi.mp ht;by_cases e:k<=t'
    · omega
    · exfalso;cases k with
      | zero=>omega
      | succ k=>exact not (uc ng hg nj c) d (fM.mpr ⟨fun z=>d (jI z (by omega)),⟨g,hg',jI c' (by omega)⟩,.inl ho⟩)
  · obtain ⟨k,rfl,b,c,d⟩:=pos h hq;obtain ⟨_,⟨g,hg1,_⟩,o⟩:=fM.mp (new c d);refine ⟨⟨g,hg1⟩,fun g' hg'=>?_⟩;obtain ⟨t,ht,hr⟩:=ex ((o.resolve_left ho) g' hg') (by omega);exact ⟨t,hr,by omega⟩
  · rw [nm] at h ⊢;intro hz;have:i∈eX ps js who (aK ps js who gs ps.length) js:=List.mem_filter.mpr ⟨hi,fM.mpr ⟨h,⟨g,hg',hz⟩,.inl ho⟩⟩;rw [fix] at this;cases this
  · rw [nm] at h;by_cases hz:∃ g∈bP ps js i,rK ps js who gs g=none
    · exact hz
    · exfalso;have all:∀ g∈bP ps js i,g∈aK ps js who gs ps.length:=fun g hg'=>by
        by_cases z:g∈aK ps js who gs ps.length
        · exact z
        · exact (hz ⟨g,hg',nm.mpr z⟩).elim
      obtain ⟨g,hg'⟩:=hw;have:i∈eX ps js who (aK ps js who gs ps.length) js:=List.mem_filter.mpr ⟨hi,fM.mpr ⟨h,⟨g,hg',all g hg'⟩,.inr all⟩⟩;rw [fix] at this;cases this
end
noncomputable abbrev ids (n:Nat):List Int:=(List.range n).map fun (k:Nat)=>(k:Int)
theorem bO {n:Nat} {i:Int}:i∈ids n<->0<=i/\i < n:=by
  constructor
  · intro h;obtain ⟨k,hk,rfl⟩:=List.mem_map.mp h;have:=List.mem_range.mp hk;omega
  · rintro ⟨h0,h1⟩;exact List.mem_map.mpr ⟨i.toNat,List.mem_range.mpr (by omega),by omega⟩
theorem iJ (n:Nat):(ids n).length=n:=by simp
theorem vG {n k:Nat} (h:k < n):(ids n)[k]?=some (k:Int):=by
  rw [List.getElem?_map,List.getElem?_range h];rfl
theorem Cg (n:Nat):(ids n).Pairwise (· < ·):=by
  rw [List.pairwise_map];exact (List.pairwise_lt_range).imp fun h=>by omega
theorem yF {l:List Int} (h:l.Pairwise (· < ·)):l.Nodup:=h.imp fun h=>by omega
noncomputable def cf (f:Int->PyData) (n:Nat):List PyData:=(ids n).map f
theorem bz (f:Int->PyData) (n:Nat):(cf f n).length=n:=by unfold cf;rw [List.length_map,iJ]
theorem fJ {f:Int->PyData} {n:Nat} {i:Int} (h0:0<=i) (h1:i < n):(cf f n)[i.toNat]'(by rw [bz];omega)=f i:=by
  have h:=vG (n:=n) (k:=i.toNat) (by omega);have:(cf f n)[i.toNat]?=some (f i):=by
    unfold cf;rw [List.getElem?_map,h,Option.map_some];congr 2;omega
  exact Option.some.inj ((List.getElem?_eq_getElem _).symm.trans this)
theorem pU {f:Int->PyData} {n:Nat} {i:Int} (h0:0<=i) (h1:i < n):bK (.tuple (cf f n)) (.int i)=.ok (f i):=by
  rw [sk h0 (by rw [bz];exact h1),fJ h0 h1]
theorem zu {f:Int->PyData} {n:Nat} {i:Int} (h0:0<=i) (h1:i < n):bK (.list (cf f n)) (.int i)=.ok (f i):=by
  rw [sj h0 (by rw [bz];exact h1),fJ h0 h1]
theorem dM {f g:Int->PyData} {n:Nat} (h:∀ i:Int,0<=i->i < n->f i=g i):cf f n=cf g n :=
  List.map_congr_left fun i hi=>h i (bO.mp hi).1 (bO.mp hi).2
theorem mQ {f:Int->PyData} {n:Nat} {i:Int} {v:PyData} (h0:0<=i) (h1:i < n):(cf f n).set i.toNat v=cf (fun j=>if j=i then v else f j) n:=by
  refine List.ext_getElem (by rw [List.length_set,bz,bz]) fun k hk1 hk2=>?_
  rw [bz] at hk2;have e:=fJ (f:=fun j=>if j=i then v else f j) (n:=n) (i:=(k:Int)) (by omega) (by omega);have e2:=fJ (f:=f) (n:=n) (i:=(k:Int)) (by omega) (by omega);simp only [Int.toNat_natCast] at e e2;rw [e,List.getElem_set];by_cases h:i.toNat=k
  · rw [if_pos h,if_pos (by omega)]
  · rw [if_neg h,if_neg (by omega),e2]
theorem oh (f:Int->PyData) (ρ:aT) (g:Fe) (n:Nat) (h:∀ i:Int,0<=i->i < n->g (ρ.set 0 (.val (.int i)))=.ok (f i)):bC (aQ 0) (fun _=>.ok true) g ρ (bL 0 n)=.ok (cf f n):=by
  have:=ej g ρ 0 (fun d=>match d with | .int i=>f i | d=>d) (bL 0 n) fun d hd=>by
    unfold bL at hd;obtain ⟨k,hk,rfl⟩:=List.mem_map.mp hd;have:=List.mem_range.mp hk;exact h _ (by omega) (by omega)
  rw [this];unfold cf;rw [iR,List.map_map];rfl
noncomputable def oD:Option Int->PyData
  | none=>.none
  | some k=>.int k
theorem vR (o:Option Int):lW (oD o) .none=.ok (.bool o.isSome):=by cases o <;> rfl
theorem uz (o:Option Int):nG (oD o) .none=.ok (.bool o.isNone):=by cases o <;> rfl
noncomputable def uw (k m:Nat):List Int:=(List.range m).map fun (j:Nat)=>((k+j:Nat):Int)
theorem sC (k m:Nat):uw k (m+1)=(k:Int)::uw (k+1) m:=by
  unfold uw;rw [List.range_succ_eq_map,List.map_cons,List.map_map];congr 1;apply List.map_congr_left;intro j _;show ((k+(j+1):Nat):Int)=((k+1+j:Nat):Int)
  omega
theorem qN (n:Nat):uw 0 n=ids n:=by
  unfold uw;apply List.map_congr_left;intro j _;simp
theorem jp {t:aT->R Bool} {ρ:aT} {p:Int->Bool} {g:Int->PyData}:∀ (m k:Nat),(∀ j:Nat,k<=j->j < k+m->t (.val (.int j)::.val (g j)::ρ)=.ok (p j)) ->
    bC (eV 0 1) t (ag 0) (.non::.non::ρ) (cS k ((uw k m).map g))=.ok (((uw k m).filter p).map .int)
  | 0,k,_=>by unfold uw;simp [cS,dt]
  | m+1,k,h=>by
    rw [sC,List.map_cons];have e:cS k (g k::(uw (k+1) m).map g)=.tuple [.int k,g k]::cS (k+1) ((uw (k+1) m).map g):=rfl;rw [e,iF,jp m (k+1) fun j h1 h2=>h j (by omega) (by omega)];have hk:=h k (Nat.le_refl _) (by omega);simp only [List.set_cons_zero,List.set_cons_succ,hk,R.ok_bind,ar];cases hp:p k with
    | true=>rw [List.filter_cons_of_pos hp];rfl
    | false=>rw [List.filter_cons_of_neg (by rw [hp];simp)];rfl
theorem sw {fe:Fe} {ρ:aT} {g h:Int->PyData}:∀ (m k:Nat),(∀ j:Nat,k<=j->j < k+m->fe (.val (.int j)::.val (g j)::ρ)=.ok (h j)) ->
    bC (eV 0 1) (fun _=>.ok true) fe (.non::.non::ρ) (cS k ((uw k m).map g))=.ok ((uw k m).map h)
  | 0,k,_=>by unfold uw;simp [cS,dt]
  | m+1,k,hh=>by
    rw [sC,List.map_cons];have e:cS k (g k::(uw (k+1) m).map g)=.tuple [.int k,g k]::cS (k+1) ((uw (k+1) m).map g):=rfl;rw [e,iF,sw m (k+1) fun j h1 h2=>hh j (by omega) (by omega)];have hk:=hh k (Nat.le_refl _) (by omega);simp only [R.ok_bind,if_true,List.set_cons_zero,List.set_cons_succ,hk];rfl
theorem Bi {f g h:Int->PyData} {n:Nat} {fe:Fe} {ρ:aT} (hh:∀ i:Int,0<=i->i < n->fe (.val (f i)::.val (g i)::ρ)=.ok (h i)):bC (eV 0 1) (fun _=>.ok true) fe (.non::.non::ρ) (mC (cf f n) (cf g n))=.ok (cf h n):=by
  have go:∀ is:List Int,(∀ i∈is,0<=i/\i < n)->bC (eV 0 1) (fun _=>.ok true) fe (.non::.non::ρ) (mC (is.map f) (is.map g))=.ok (is.map h):=by
    intro is;induction is with
    | nil=>intro _;unfold mC;simp [dt]
    | cons i is ih =>
      intro hb;have e:mC ((i::is).map f) ((i::is).map g)=.tuple [f i,g i]::mC (is.map f) (is.map g):=rfl;rw [e,iF,ih fun x hx=>hb x (List.mem_cons_of_mem _ hx)];have:=hh i (hb i List.mem_cons_self).1 (hb i List.mem_cons_self).2;simp only [R.ok_bind,if_true,List.set_cons_zero,List.set_cons_succ,this];rfl
  exact go (ids n) fun i hi=>bO.mp hi
theorem oJ (t:aT->R Bool) (g:Fs) (n:Nat) (ρ:aT):dO t g (n+1) ρ=(t ρ>>=fun b=>if b=true then g ρ>>=pW (dO t g n) else .ok (.nx ρ)):=by
  rw [dO];congr 1
noncomputable def tF (s:PyData) (js:List Int):Prop:=s=.tuple (js.map .int)\/s=.list (js.map .int)
theorem tF.inn {s:PyData} {js:List Int} (h:tF s js) (neg:Bool) (k:Int):qK neg (.int k) s=.ok (.bool (if neg then !cy js k else cy js k)):=by
  rcases h with rfl | rfl
  · exact Ch ..
  · exact FZ ..
theorem tF.seq {s:PyData} {js:List Int} (h:tF s js):iX s=.ok (js.map .int):=by
  rcases h with rfl | rfl <;> rfl
theorem tF.len {s:PyData} {js:List Int} (h:tF s js):dl s=.ok (.int js.length):=by
  rcases h with rfl | rfl <;> simp
structure cB (n:Nat) (js:List Int):Prop where
  lt:js.Pairwise (· < ·)
  inn:∀ x∈js,0<=x/\x < n
theorem cB.nd {n:Nat} {js:List Int} (h:cB n js):js.Nodup:=yF h.lt
theorem cB.len {n:Nat} {js:List Int} (h:cB n js):js.length<=n:=by
  have:=kB js 0 n h.lt h.inn;rcases this with z | z
  · rw [z];simp
  · omega
theorem cB.filter {n:Nat} {js:List Int} (h:cB n js) (p:Int->Bool):cB n (js.filter p):=⟨h.lt.filter _,fun x hx=>h.inn x (List.mem_filter.mp hx).1⟩
theorem cB.ids (n:Nat):cB n (ids n):=⟨Cg n,fun x hx=>bO.mp hx⟩
noncomputable def iZ (ps:List P4) (js:List Int):Prop:=∀ i∈js,∃ g,g∈bP ps js i
noncomputable abbrev oT (f:Int->Option Int) (n:Nat):PyData:=.tuple (cf (fun i=>oD (f i)) n)
theorem vt (o:Option Int) (k:Int):lw (oD o) (.int k)=.ok (.bool (decide (o=some k))):=by
  cases o with
  | none=>rfl
  | some q =>
    show lw (.int q) (.int k)=_;rw [g9];congr 2;simp
structure Gr (ps:List P4):Prop where
  hl:∀ p∈ps,p.ns.length<=100
  hgo:∀ p∈ps,∀ x∈p.ns,0<=x/\x < ps.length
  hp:ps.length<=60
  lt:∀ p∈ps,p.ns.Pairwise (· < ·)
  ne:∀ p∈ps,p.ns≠[]
theorem Gr.goals {ps:List P4} (G:Gr ps) {i x:Int} (h:x∈bg ps i):0<=x/\x < ps.length:=by
  unfold bg at h;cases e:ps[i.toNat]? with
  | none=>rw [e] at h;cases h
  | some p=>rw [e] at h;exact G.hgo p (List.mem_of_getElem? e) x h
theorem Gr.glen {ps:List P4} (G:Gr ps) (i:Int):(bg ps i).length<=100:=by
  unfold bg;cases e:ps[i.toNat]? with
  | none=>simp
  | some p=>exact G.hl p (List.mem_of_getElem? e)
noncomputable def aA (ps:List P4) (i:Int):Int:=(ps[i.toNat]?.map (·.m)).getD 0
theorem yN (p:P4):bK p.d (.int 1)=.ok (.int p.m):=rfl
theorem pI {ps:List P4} {i:Int} (h0:0<=i) (h1:i < ps.length):aA ps i=(ps[i.toNat]'(by omega)).m:=by
  unfold aA;rw [List.getElem?_eq_getElem (by omega)];rfl
noncomputable def eP (f:Int->Option Int) (n:Nat):List Int:=(ids n).filter fun i=>(f i).isSome
theorem ou (f:Int->Option Int) (n:Nat):cB n (eP f n):=(cB.ids n).filter _
theorem eW {f:Int->Option Int} {n:Nat} {i:Int}:i∈eP f n<->(0<=i/\i < n)/\∃ q,f i=some q:=by
  unfold eP;rw [List.mem_filter,bO,Option.isSome_iff_exists]
noncomputable def gS (ps:List P4) (who:Int) (f:Int->Option Int) (i:Int):Option Int:=match f i with
  | some q=>if az ps i=who/\0 < q then ((bg ps i).filter fun g=>decide (f g=some (q-1))).head? else none
  | none=>none
theorem kl {ps:List P4} {js:List Int} {who:Int} {gs:List Int} {rk:Int->Option Int} (A:tH ps js who gs rk):∀ i q,rk i=some q->0 < q->az ps i=who->∃ g∈bg ps i,rk g=some (q-1):=fun i q h1 h2 h3=>by
  obtain ⟨g,hg,e⟩:=A.own i q h1 h2 h3;exact ⟨g,(List.mem_filter.mp hg).1,e⟩
noncomputable def fy (js:List Int) (some:List Int):List Int:=js.filter fun i=>!cy some i
theorem hU {js some:List Int} {i:Int}:i∈fy js some<->i∈js/\i∉some:=by
  unfold fy;rw [List.mem_filter,Bool.not_eq_true',<- Bool.not_eq_true,bW]
noncomputable def cb (ps:List P4) (who:Int) (part:List Int) (i:Int):Option Int:=if i∈part/\az ps i=who then (bP ps part i).head? else none
structure Sh where
  w:Int
  pl:List Int
  mv:Int->Option Int
noncomputable def ci (f g:Int->Option Int) (i:Int):Option Int:=(f i).or (g i)
theorem lF {s t:PyData} {ns js:List Int} (hs:tF s ns) (ht:tF t js) (hl:ns.length<=1000):bD [s,t]=.ok (.tuple ((ns.filter (cy js)).map .int)):=by
  have hcmp:=dg (t:=tE (e2 (qK false) (ag 0) (ag 1))) (ρ:=[.val t]) (p:=cy js) ns fun k hk=>by simp [ht.inn]
  unfold bD mT;refine eA ?_;rw [show ([s,t].map bt.val++List.replicate (2 - [s,t].length) bt.non)=[.val s,.val t] from rfl];rw [cK,bZ,bp,show ax 1 [1] [.val s,.val t]=[.non,.val t] from rfl];simp -implicitDefEqProofs only [cs,ar,R.ok_bind,hs.seq,cC];rw [if_pos (by rw [List.length_map];exact bS hl),hcmp];rfl
theorem oK {s t:PyData} {ns js:List Int} (hs:tF s ns) (ht:tF t js) (hl:ns.length<=1000):cc [s,t]=.ok (.tuple ((ns.filter fun i=>!cy js i).map .int)):=by
  have hcmp:=dg (t:=tE (e2 (qK true) (ag 0) (ag 1))) (ρ:=[.val t]) (p:=fun i=>!cy js i) ns fun k hk=>by simp [ht.inn]
  unfold cc lC;refine eA ?_;rw [show ([s,t].map bt.val++List.replicate (2 - [s,t].length) bt.non)=[.val s,.val t] from rfl];rw [cK,bZ,bp,show ax 1 [1] [.val s,.val t]=[.non,.val t] from rfl];simp -implicitDefEqProofs only [cs,ar,R.ok_bind,hs.seq,cC];rw [if_pos (by rw [List.length_map];exact bS hl),hcmp];rfl
theorem qP {p:P4} {ws:List Int} {who:Int} {f:Int->Option Int} {n:Nat} (hw:∀ g∈ws,0<=g/\g < n) (hl:ws.length<=1000) :
    bU [p.d,.tuple (ws.map .int),.int who,.list (cf (fun i=>oD (f i)) n)]=.ok (.bool (if p.w=who then decide (0 < (ws.filter fun g=>(f g).isSome).length) else decide ((ws.filter fun g=>(f g).isSome).length=ws.length))):=by
  have hcmp:=dg (t:=tE (e2 (lW) (e2 bK (ag 1) (ag 0)) (eC .none))) (ρ:=[.val (.list (cf (fun i=>oD (f i)) n))]) (p:=fun g=>(f g).isSome) ws fun k hk=>by
    simp only [List.set_cons_zero,dY,ca,ar,ay,cj,R.ok_bind,zu (hw k hk).1 (hw k hk).2,vR,ez]
  unfold bU jd;refine eA ?_;rw [show ([p.d,.tuple (ws.map .int),.int who,.list (cf (fun i=>oD (f i)) n)].map bt.val++List.replicate (5 - [p.d,.tuple (ws.map .int),.int who,.list (cf (fun i=>oD (f i)) n)].length) bt.non)=[.val p.d,.val (.tuple (ws.map .int)),.val (.int who),.val (.list (cf (fun i=>oD (f i)) n)),.non] from rfl];rw [aR (ρ':=[.val p.d,.val (.tuple (ws.map .int)),.val (.int who),.val (.list (cf (fun i=>oD (f i)) n)),.val (.list ((ws.filter fun g=>(f g).isSome).map .int))]) (by
    rw [bG,bp,show ax 1 [3] [.val p.d,.val (.tuple (ws.map .int)),.val (.int who),.val (.list (cf (fun i=>oD (f i)) n)),.non]=[.non,.val (.list (cf (fun i=>oD (f i)) n))] from rfl];simp only [cs,ar,ay,R.ok_bind,dD,cC];rw [if_pos (by rw [List.length_map];exact bS hl),hcmp];rfl)]
  by_cases h:p.w=who
  · rw [if_pos h];refine zh ?_;simp only [gw,dY,ca,bZ,ar,ay,cj,R.ok_bind,n6,g9,ez,h,decide_true,if_true,cK,qL,qJ,List.length_map];congr 3;simp
  · rw [if_neg h,aR (ρ':=[.val p.d,.val (.tuple (ws.map .int)),.val (.int who),.val (.list (cf (fun i=>oD (f i)) n)),.val (.list ((ws.filter fun g=>(f g).isSome).map .int))]) (by
      simp only [gw,dY,ca,bZ,ar,ay,cj,R.ok_bind,n6,g9,ez,h,decide_false];rfl)]
    simp only [cK,ca,bZ,ar,ay,R.ok_bind,qL,lI,g9,List.length_map];congr 3;exact decide_eq_decide.mpr (by omega)
theorem tw {d:PyData} (h:noD d):dQ [d]=.ok (.bool (F1 d)):=by
  cases d <;> first | rfl | cases h
theorem iE {d:PyData} (h:noD d) (lo hi:Int):aJ [d,.int lo,.int hi]=.ok (.bool (tG d lo hi)):=by
  unfold aJ iq;rw [eG];cases d with
  | int i =>
    by_cases h1:lo<=i <;> by_cases h2:i<=hi <;> simp [tw h,F1,h1,h2,tG]
  | dict k=>cases h
  | _=>simp [tw h,F1,tG]
theorem pR (t:PyData) (c:Int):∀ (ds:List PyData) (l:Int) (x:bt),(∀ d∈ds,noD d) ->
    ∃ ρ,gf (aQ 3) (bn (oP (jD (tE (aD aJ (ah (ag 3) (ah (ag 2) (ah (e2 km (ag 1) (eC (.int 1))) aH)))))) (cD (eC (.bool false))) eB) (cm 2 (e2 eN (ag 3) (eC (.int 1))))) ds
      [.val t,.val (.int c),.val (.int l),x]=if my c l ds=true then .ok (.nx ρ) else .ok (.rt (.bool false))
  | [],l,x,_=>⟨_,by rw [eO];rfl⟩
  | d::ds,l,x,h=>by
    have hd:=h d List.mem_cons_self;cases hb:tG d l (c-1) with
    | false =>
      refine ⟨[],?_⟩;have hr:my c l (d::ds)=false:=by
        cases d with
        | int i =>
          simp only [tG] at hb;simp only [my];rcases (Bool.and_eq_false_iff.mp hb) with z | z
          · rw [z];rfl
          · have:decide (i < c)=false:=by simp at z ⊢;omega
            rw [this];simp
        | _=>rfl
      rw [cX,hr];simp [iE hd,hb]
    | true =>
      cases d with
      | int i =>
        simp only [tG,Bool.and_eq_true,decide_eq_true_eq] at hb;obtain ⟨ρ,e⟩:=pR t c ds (i+1) (.val (.int i)) fun d hd=>h d (List.mem_cons_of_mem _ hd)
        refine ⟨ρ,?_⟩;have hr:my c l (.int i::ds)=my c (i+1) ds:=by
          simp only [my];rw [decide_eq_true hb.1,decide_eq_true (show i < c by omega)];simp
        have hb':tG (.int i) l (c-1)=true:=by simp [tG];omega
        rw [cX,hr,<- e];simp [iE hd,hb']
      | _=>cases hb
theorem lS {d:PyData} (c:Int) (h:∀ ds,d=.tuple ds->∀ x∈ds,noD x) (hd:noD d):bH [d,.int c]=.ok (.bool (we c d)):=by
  unfold bH kc;rw [eG];cases d with
  | tuple ds =>
    obtain ⟨ρ,e⟩:=pR (.tuple ds) c ds 0 .non (h ds rfl);simp [lH,Ck,fH,List.replicate];rw [e];cases my c 0 ds <;> simp
  | dict k=>cases hd
  | _=>simp [lH,Ck,List.replicate]
theorem cB.some {n:Nat} {js:List Int} (h:cB n js):bH [.tuple (js.map .int),.int n]=.ok (.bool true):=by
  rw [lS (d:=.tuple (js.map .int)) n (fun ds e x hx=>by
    cases e;obtain ⟨i,_,rfl⟩:=List.mem_map.mp hx;exact True.intro) True.intro]
  show R.ok (PyData.bool (my n 0 (js.map .int)))=_;rw [re n js 0 h.lt fun x hx=>h.inn x hx]
theorem ED {c:Int} (h0:0<=c) (h1:c<=1000):lh [.int c]=.ok (bL 0 c.toNat):=by
  show (if -(2 ^ 62)<=c/\c < 2 ^ 62 then R.ok (bL 0 c.toNat) else .no)=_;rw [if_pos (by omega)]
noncomputable def wf:Fs:=(bn (xo 6 (fun a b=>a+b) (eC (.int 1))) (bn (cm 8 (bN (eI (ag 1)) 1 [5] (aQ 0) (tE (e2 (nG) (e2 bK (fg 1) (ag 0)) (eC .none))) (ag 0))) (bn (cm 7 (bN (eI (ag 8)) 1 [0,4,2,5] (aQ 0) (tE (j7 4 (aD bU (ah (e2 bK (ag 1) (ag 0)) (ah (e2 bK (ag 2) (ag 0)) (ah (ag 3) (ah (ag 4) aH))))))) (ag 0))) (jw (kC (eI (ag 7)) (aQ 9) (ib 5 (ag 9) (ag 6)))))))
noncomputable abbrev lu (ps:List P4) (js:List Int):PyData:=.list (cf (fun i=>.tuple ((bP ps js i).map .int)) ps.length)
noncomputable abbrev ze (kvs:List (Int×Int)) (n:Nat):List PyData:=cf (fun i=>oD (look kvs i)) n
noncomputable abbrev tR (ps:List P4) (s:PyData) (js:List Int) (who:Int) (g:PyData) (kvs:List (Int×Int)) (r:Int) (fs:List Int) (c8 c9:bt):aT :=
  [.val (gD ps),.val s,.val (.int who),.val g,.val (lu ps js),.own (.list (ze kvs ps.length)),.val (.int r),.val (.list (fs.map .int)),c8,c9]
theorem yB {kvs:List (Int×Int)} {i r:Int} (h:i∉kvs.map (·.1)) (j:Int):look (kvs++[(i,r)]) j=if j=i then some r else look kvs j:=by
  rw [l7];by_cases e:j=i
  · subst e;rw [if_pos rfl,gm.mpr h,Option.none_or];unfold look;simp
  · rw [if_neg e];have:look [(i,r)] j=none:=by
      unfold look;have:¬ i=j:=fun z=>e z.symm
      simp [this]
    rw [this,Option.or_none]
theorem BM {ps:List P4} {s:PyData} {js:List Int} {who:Int} {g:PyData} {r:Int} {fs0:List Int} {c8:bt}:∀ (fs:List Int) (kvs:List (Int×Int)) (c9:bt),fs.Nodup->(∀ x∈fs,x∉kvs.map (·.1))->(∀ x∈fs,0<=x/\x < ps.length) ->
    ∃ c9',gf (aQ 9) (ib 5 (ag 9) (ag 6)) (fs.map .int) (tR ps s js who g kvs r fs0 c8 c9)=.ok (.nx (tR ps s js who g (kvs++fs.map fun i=>(i,r)) r fs0 c8 c9'))
  | [],kvs,c9,_,_,_=>⟨c9,by rw [List.map_nil,eO];simp⟩
  | i::fs,kvs,c9,nd,hn,hb=>by
    obtain ⟨n1,n2⟩:=List.nodup_cons.mp nd;have hi:=hb i List.mem_cons_self;obtain ⟨c9',e⟩:=BM (ps:=ps) (s:=s) (js:=js) (who:=who) (g:=g) (r:=r) (fs0:=fs0) (c8:=c8) fs (kvs++[(i,r)]) (.val (.int i)) n2 (fun x hx=>by
      rw [List.map_append,List.mem_append];rintro (z | z)
      · exact hn x (List.mem_cons_of_mem _ hx) z
      · simp at z;subst z;exact n1 hx) fun x hx=>hb x (List.mem_cons_of_mem _ hx)
    refine ⟨c9',?_⟩;rw [List.map_cons,cX];rw [show ((tR ps s js who g kvs r fs0 c8 c9).set 9 (.val (.int i)))=tR ps s js who g kvs r fs0 c8 (.val (.int i)) from rfl];rw [mP (ds:=ze kvs ps.length) (n:=i) (v:=.int r) rfl rfl rfl hi.1 (by rw [bz];exact hi.2),R.ok_bind,dZ,mQ hi.1 hi.2];rw [dM (g:=fun j=>oD (look (kvs++[(i,r)]) j)) fun j _ _=>by
      rw [yB (hn i List.mem_cons_self)];split <;> rfl]
    refine Eq.trans ?_ (e.trans (by simp));rfl
theorem nV {kvs:List (Int×Int)} {i:Int}:(look kvs i).isNone=!cy (kvs.map (·.1)) i:=by
  cases h:cy (kvs.map (·.1)) i with
  | true =>
    cases h2:look kvs i with
    | none=>exact (gm.mp h2 (bW.mp h)).elim
    | some q=>rfl
  | false =>
    rw [gm.mpr fun z=>by rw [bW.mpr z] at h;cases h];rfl
theorem uA {kvs:List (Int×Int)} {i:Int}:(look kvs i).isSome=cy (kvs.map (·.1)) i:=by
  have:=nV (kvs:=kvs) (i:=i);cases h:look kvs i <;> rw [h] at this <;> cases h2:cy (kvs.map (·.1)) i <;> rw [h2] at this <;> simp_all
theorem sA {ps:List P4} {js:List Int} {who:Int} {kn:List Int} {i:Int} (hw:∃ g,g∈bP ps js i) :
    (!cy kn i&&(if az ps i=who then decide (0 < (lY ps js kn i).length) else decide ((lY ps js kn i).length=(bP ps js i).length)))=jo ps js who kn i:=by
  obtain ⟨g,hg⟩:=hw;have hp:=List.length_pos_of_mem hg;unfold jo;by_cases ho:az ps i=who
  · simp [ho]
  · by_cases he:(lY ps js kn i).length=(bP ps js i).length
    · simp [ho,he,hp]
    · simp [ho,he]
theorem zq {ps:List P4} (hl:∀ p∈ps,p.ns.length<=100) (hgo:∀ p∈ps,∀ x∈p.ns,0<=x/\x < ps.length) (hp:ps.length<=60) {s:PyData} {js:List Int} (hs:tF s js) (hj:cB ps.length js) (hw:iZ ps js) {who:Int} {g:PyData} {kvs:List (Int×Int)} {r:Int} {fs:List Int} (c8 c9:bt) :
    ∃ c8' c9',wf (tR ps s js who g kvs r fs c8 c9)=.ok (.nx (tR ps s js who g (dk ps js who (r+1) kvs) (r+1) (eX ps js who (kvs.map (·.1)) js) c8' c9')):=by
  have hlen:=hj.len;have h1:=dg (t:=tE (e2 (nG) (e2 bK (fg 1) (ag 0)) (eC .none))) (ρ:=[.own (.list (ze kvs ps.length))]) (p:=fun i=>!cy (kvs.map (·.1)) i) js fun k hk=>by
    simp only [List.set_cons_zero,dY,ca,ar,mI,mH,cj,R.ok_bind,zu (hj.inn k hk).1 (hj.inn k hk).2,uz,ez,nV]
  have h2:=dg (t:=tE (j7 4 (aD bU (ah (e2 bK (ag 1) (ag 0)) (ah (e2 bK (ag 2) (ag 0)) (ah (ag 3) (ah (ag 4) aH))))))) (ρ:=[.val (gD ps),.val (lu ps js),.val (.int who),.own (.list (ze kvs ps.length))])
    (p:=jo ps js who (kvs.map (·.1))) (js.filter fun i=>!cy (kvs.map (·.1)) i) fun k hk=>by
    obtain ⟨hkj,hkn⟩:=List.mem_filter.mp hk;have hb:=hj.inn k hkj;have hg:=gu hb.1 hb.2;have hwl:(bP ps js k).length<=1000:=by
      refine Nat.le_trans (List.length_filter_le ..) ?_;rw [hg];have:=hl _ (List.getElem_mem (show k.toNat < ps.length by omega));omega
    have hwb:∀ x∈bP ps js k,0<=x/\x < ps.length:=fun x hx=>by
      have:=(List.mem_filter.mp hx).1;rw [hg] at this;exact hgo _ (List.getElem_mem _) x this
    have hf:=qP (p:=ps[k.toNat]'(by omega)) (who:=who) (f:=look kvs) hwb hwl;have ho:=ky hb.1 hb.2;have hgk:((bP ps js k).filter fun g=>(look kvs g).isSome)=lY ps js (kvs.map (·.1)) k:=by
      unfold lY;congr 1;funext g;exact uA
    rw [hgk,<- ho] at hf;have e4:j7 4 (aD bU (ah (e2 bK (ag 1) (ag 0)) (ah (e2 bK (ag 2) (ag 0)) (ah (ag 3) (ah (ag 4) aH))))) [.val (.int k),.val (gD ps),.val (lu ps js),.val (.int who),.own (.list (ze kvs ps.length))]
      = (lc (aD bU (ah (e2 bK (ag 1) (ag 0)) (ah (e2 bK (ag 2) (ag 0)) (ah (ag 3) (ah (ag 4) aH)))) [.val (.int k),.val (gD ps),.val (lu ps js),.val (.int who),.val (.list (ze kvs ps.length))])>>=kU):=rfl
    have hc:=sA (who:=who) (kn:=kvs.map (·.1)) (hw k hkj);rw [hkn,Bool.true_and] at hc;rw [List.set_cons_zero,dY,e4,bj];simp only [aI,aV,ca,ar,ay,R.ok_bind,pE hb.1 hb.2,zu hb.1 hb.2];rw [hf,hc];rfl
  have hfil:(js.filter fun i=>!cy (kvs.map (·.1)) i).filter (jo ps js who (kvs.map (·.1)))=eX ps js who (kvs.map (·.1)) js:=by
    unfold eX;rw [List.filter_filter];apply List.filter_congr;intro x _;unfold jo;cases cy (kvs.map (·.1)) x <;> simp
  rw [hfil] at h2;have hnew:cB ps.length (eX ps js who (kvs.map (·.1)) js):=hj.filter _;obtain ⟨c9',e⟩:=BM (ps:=ps) (s:=s) (js:=js) (who:=who) (g:=g) (r:=r+1) (fs0:=eX ps js who (kvs.map (·.1)) js) (c8:=.val (.list ((js.filter fun i=>!cy (kvs.map (·.1)) i).map .int))) (eX ps js who (kvs.map (·.1)) js) kvs c9 hnew.nd (fun x hx=>(n4 hx).2) hnew.inn;refine ⟨.val (.list ((js.filter fun i=>!cy (kvs.map (·.1)) i).map .int)),c9',?_⟩;unfold wf;rw [aR (ρ':=tR ps s js who g kvs (r+1) fs c8 c9) (by simp only [A8,ay,ar,cj,R.ok_bind,DP];rfl)];rw [aR (ρ':=tR ps s js who g kvs (r+1) fs (.val (.list ((js.filter fun i=>!cy (kvs.map (·.1)) i).map .int))) c9) (by
    rw [bG,bp,show ax 1 [5] (tR ps s js who g kvs (r+1) fs c8 c9)=[.non,.own (.list (ze kvs ps.length))] from rfl];simp -implicitDefEqProofs only [cs,ay,ar,R.ok_bind,hs.seq,cC];rw [if_pos (by rw [List.length_map];exact bS (by omega)),h1];rfl)]
  rw [aR (ρ':=tR ps s js who g kvs (r+1) (eX ps js who (kvs.map (·.1)) js) (.val (.list ((js.filter fun i=>!cy (kvs.map (·.1)) i).map .int))) c9) (by
    rw [bG,bp,show ax 1 [0,4,2,5] (tR ps s js who g kvs (r+1) fs (.val (.list ((js.filter fun i=>!cy (kvs.map (·.1)) i).map .int))) c9)=[.non,.val (gD ps),.val (lu ps js),.val (.int who),.own (.list (ze kvs ps.length))] from rfl];simp only [cs,ay,ar,R.ok_bind,uT,cC];rw [if_pos (by rw [List.length_map];exact bS (Nat.le_trans (List.length_filter_le ..) (by omega))),h2];rfl)]
  rw [fI,fH,cs,ay,ay,ay,ay,ay,ay,ay,ar,R.ok_bind,uT,R.ok_bind,e];rfl
theorem fq {ps:List P4} {js:List Int} {who:Int} {kvs:List (Int×Int)} (h:eX ps js who (kvs.map (·.1)) js=[]):∀ (n:Nat) (r:Int),gC ps js who r n kvs=kvs
  | 0,r=>rfl
  | n+1,r=>by
    show gC ps js who (r+1) n (dk ps js who r kvs)=kvs;have:dk ps js who r kvs=kvs:=by unfold dk;rw [h];simp
    rw [this,fq h n]
theorem BL {ps:List P4} (hl:∀ p∈ps,p.ns.length<=100) (hgo:∀ p∈ps,∀ x∈p.ns,0<=x/\x < ps.length) (hp:ps.length<=60) {s:PyData} {js:List Int} (hs:tF s js) (hj:cB ps.length js) (hw:iZ ps js) {who:Int} {g:PyData} :
    ∀ (k n:Nat) (kvs:List (Int×Int)) (r:Int) (fs:List Int) (c8 c9:bt),ja js kvs->js.length-kvs.length<=k->(fs=[]->eX ps js who (kvs.map (·.1)) js=[])->k+3<=n ->
    ∃ K r' fs' c8' c9',dO (tE (e2 (ge uJ) (e1 dl (ag 7)) (eC (.int 0)))) wf n (tR ps s js who g kvs r fs c8 c9)=.ok (.nx (tR ps s js who g K r' fs' c8' c9'))/\∀ N,k+1<=N->gC ps js who (r+1) N kvs=K
  | k,0,kvs,r,fs,c8,c9,_,_,_,h=>by omega
  | k,n+1,kvs,r,fs,c8,c9,hk,hm,hf,hn=>by
    rw [oJ];have ht:tE (e2 (ge uJ) (e1 dl (ag 7)) (eC (.int 0))) (tR ps s js who g kvs r fs c8 c9)=.ok (decide (0 < fs.length)):=by
      simp only [dY,ca,bZ,ay,ar,cj,R.ok_bind,qL,qJ,ez,List.length_map];congr 1;simp
    rw [ht,R.ok_bind];by_cases h0:fs=[]
    · have hs0:=hf h0;subst h0;exact ⟨kvs,r,[],c8,c9,rfl,fun N _=>fq hs0 N _⟩
    · rw [if_pos (decide_eq_true (List.length_pos_iff.mpr h0))];obtain ⟨c8',c9',e⟩:=zq hl hgo hp hs hj hw (who:=who) (g:=g) (kvs:=kvs) (r:=r) (fs:=fs) c8 c9;rw [e,R.ok_bind,dZ];by_cases h1:eX ps js who (kvs.map (·.1)) js=[]
      · have w1:dk ps js who (r+1) kvs=kvs:=by unfold dk;rw [h1];simp
        rw [h1,w1];refine ⟨kvs,r+1,[],c8',c9',?_,fun N _=>fq h1 N _⟩;cases n with
        | zero=>omega
        | succ n =>
          rw [oJ];have ht2:tE (e2 (ge uJ) (e1 dl (ag 7)) (eC (.int 0))) (tR ps s js who g kvs (r+1) [] c8' c9')=.ok false:=rfl;rw [ht2,R.ok_bind];rfl
      · have hk':=hk.round (ps:=ps) (who:=who) (r:=r+1) hj.nd;have hkl:=hk'.len hj.nd;have hgrow:kvs.length+1<=(dk ps js who (r+1) kvs).length:=by
          unfold dk;rw [List.length_append,List.length_map];have:=List.length_pos_iff.mpr h1;omega
        obtain ⟨K,r',fs',d8,d9,w2,w3⟩:=BL hl hgo hp hs hj hw (who:=who) (g:=g) (k-1) n (dk ps js who (r+1) kvs) (r+1) (eX ps js who (kvs.map (·.1)) js) c8' c9' hk' (by omega) (fun z=>(h1 z).elim) (by omega);refine ⟨K,r',fs',d8,d9,w2,fun N hN=>?_⟩;cases N with
        | zero=>omega
        | succ N=>exact w3 N (by omega)
theorem me {ps:List P4} (hl:∀ p∈ps,p.ns.length<=100) (hgo:∀ p∈ps,∀ x∈p.ns,0<=x/\x < ps.length) (hp:ps.length<=60) {s g:PyData} {js gs:List Int} (hs:tF s js) (hsg:tF g gs) (hj:cB ps.length js) (hg:cB ps.length gs) (hsub:∀ x∈gs,x∈js) (hw:iZ ps js) {who:Int} :
    di [gD ps,s,.int who,g]=.ok (.tuple (cf (fun i=>oD (rK ps js who gs i)) ps.length)):=by
  have hlen:=hj.len;have hglen:=hg.len;have hgj:gs.length<=js.length:=jN hg.nd hsub;have hk0:ja js (gs.map fun i=>((i,0):Int×Int)):=by
    have e:(gs.map fun i=>((i,0):Int×Int)).map (·.1)=gs:=by rw [List.map_map];exact List.map_id _
    exact ⟨by rw [e];exact hg.nd,by rw [e];exact hsub⟩
  have hk0e:(gs.map fun i=>((i,0):Int×Int)).map (·.1)=gs:=by rw [List.map_map];exact List.map_id _
  obtain ⟨K,r',fs',d8,d9,w2,w3⟩:=BL hl hgo hp hs hj hw (who:=who) (g:=g) (js.length-gs.length) 1000000 (gs.map fun i=>(i,0)) 0 gs .non .non hk0 (by rw [List.length_map];exact Nat.le_refl _) (fun z=>by
    rw [hk0e,z];unfold eX;rw [List.filter_eq_nil_iff];intro i _;rw [fM];rintro ⟨_,⟨g,_,hz⟩,_⟩;cases hz) (by omega)
  have hK:K=xt ps js who gs ps.length:=by
    by_cases h0:gs=[]
    · subst h0;have hz:eX ps js who (([]:List (Int×Int)).map (·.1)) js=[]:=by
        unfold eX;rw [List.filter_eq_nil_iff];intro i _;rw [fM];rintro ⟨_,⟨g,_,hz⟩,_⟩;cases hz
      have e4:=w3 (js.length-0+1) (Nat.le_refl _);rw [List.map_nil,fq hz] at e4;rw [<- e4];unfold xt;rw [List.map_nil,fq hz]
    · have:=List.length_pos_iff.mpr h0;have e4:=w3 ps.length (by omega);rw [<- e4];rfl
  have hways:bC (aQ 0) (fun _=>.ok true) (aD bD (ah (e2 bK (ag 0) (eC (.int 3))) (ah (ag 1) aH))) [.non,.val s] (ps.map P4.d)=.ok (cf (fun i=>.tuple ((bP ps js i).map .int)) ps.length):=by
    have go:∀ qs:List P4,(∀ p∈qs,p.ns.length<=100)->bC (aQ 0) (fun _=>.ok true) (aD bD (ah (e2 bK (ag 0) (eC (.int 3))) (ah (ag 1) aH))) [.non,.val s] (qs.map P4.d)=.ok (qs.map fun p=>.tuple ((p.ns.filter (cy js)).map .int)):=by
      intro qs;induction qs with
      | nil=>exact fun _=>dt ..
      | cons p qs ih =>
        intro h;have hc:=lF (s:=.tuple (p.ns.map .int)) (ns:=p.ns) (.inl rfl) hs (by have:=h p List.mem_cons_self;omega);rw [List.map_cons,eS,ih fun q hq=>h q (List.mem_cons_of_mem _ hq)];simp only [R.ok_bind,if_true,List.set_cons_zero,bj,aI,aV,ca,ar,ay,cj,qX,hc];rfl
    rw [go ps hl];congr 1;refine List.ext_getElem (by rw [List.length_map,bz]) fun k h1 h2=>?_
    rw [bz] at h2;have e:=fJ (f:=fun i=>.tuple ((bP ps js i).map .int)) (n:=ps.length) (i:=(k:Int)) (by omega) (by omega);simp only [Int.toNat_natCast] at e;rw [e,List.getElem_map];unfold bP;rw [gu (by omega) (by omega)];simp
  have hinit:bC (aQ 0) (fun _=>.ok true) (zN (tE (e2 (qK false) (ag 0) (ag 1))) (eC (.int 0)) (eC .none)) [.non,.val g] (bL 0 ps.length)=.ok (ze (gs.map fun i=>(i,0)) ps.length) :=
    oh _ _ _ _ fun i h0 h1=>by
      simp only [List.set_cons_zero,uo,dY,ca,ar,ay,cj,R.ok_bind,hsg.inn,ez,iP];cases hm:cy gs i with
      | true=>rw [if_pos (bW.mp hm)];rfl
      | false=>rw [if_neg (show ¬ i∈gs from fun z=>by rw [bW.mpr z] at hm;cases hm)];rfl
  have hr:lh [.int (ps.length:Int)]=.ok (bL 0 ps.length):=by
    rw [ED (by omega) (by omega),Int.toNat_natCast]
  have hlst:ph g=.ok (.list (gs.map .int)):=by rcases hsg with rfl | rfl <;> rfl
  unfold di kg;refine eA ?_;rw [show ([gD ps,s,.int who,g].map bt.val++List.replicate (10 - [gD ps,s,.int who,g].length) bt.non)=[.val (gD ps),.val s,.val (.int who),.val g,.non,.non,.non,.non,.non,.non] from rfl];rw [aR (ρ':=[.val (gD ps),.val s,.val (.int who),.val g,.val (lu ps js),.non,.non,.non,.non,.non]) (by
    rw [bG,bp,show ax 1 [1] [.val (gD ps),.val s,.val (.int who),.val g,.non,.non,.non,.non,.non,.non]=[.non,.val s] from rfl];simp only [cs,ar,R.ok_bind,dD,cC];rw [if_pos (by rw [List.length_map];exact bS (by omega)),hways];rfl)]
  rw [aR (ρ':=[.val (gD ps),.val s,.val (.int who),.val g,.val (lu ps js),.own (.list (ze (gs.map fun i=>(i,0)) ps.length)),.non,.non,.non,.non]) (by
    rw [mO,bp,show ax 1 [3] [.val (gD ps),.val s,.val (.int who),.val g,.val (lu ps js),.non,.non,.non,.non,.non]=[.non,.val g] from rfl];simp -implicitDefEqProofs only [jL,aI,aV,bZ,ar,R.ok_bind,lI,List.length_map,hr,cC];rw [if_pos (by rw [fF];exact bS (by omega)),hinit];rfl)]
  rw [aR (ρ':=[.val (gD ps),.val s,.val (.int who),.val g,.val (lu ps js),.own (.list (ze (gs.map fun i=>(i,0)) ps.length)),.val (.int 0),.non,.non,.non]) (by rfl)];rw [aR (ρ':=tR ps s js who g (gs.map fun i=>(i,0)) 0 gs .non .non) (by
    simp only [bG,bZ,ay,ar,R.ok_bind,hlst];rfl)]
  rw [aR (ρ':=tR ps s js who g K r' fs' d8 d9) (by
    rw [fI];show lc (dO (tE (e2 (ge uJ) (e1 dl (ag 7)) (eC (.int 0)))) wf 1000000 _)=_;rw [w2];rfl)]
  rw [hK];rfl
theorem lP {f:Int->Option Int} {n:Nat} (hn:n<=1000):cE [oT f n]=.ok (.tuple ((eP f n).map .int)):=by
  have hc:=jp (t:=tE (e2 (lW) (ag 1) (eC .none))) (ρ:=[]) (p:=fun i=>(f i).isSome) (g:=fun i=>oD (f i)) n 0 fun j _ _=>by
    simp only [dY,ca,ay,ar,cj,R.ok_bind,vR,ez]
  rw [qN] at hc;unfold cE mV;refine eA ?_;rw [show ([oT f n].map bt.val++List.replicate (1 - [oT f n].length) bt.non)=[.val (oT f n)] from rfl];rw [cK,bZ,bp,show ax 2 [] [.val (oT f n)]=[.non,.non] from rfl];simp only [k8,ar,R.ok_bind,dD,cC];rw [if_pos (by rw [gk,bz];exact bS hn)];rw [show cS 0 (cf (fun i=>oD (f i)) n)=cS 0 ((ids n).map fun i=>oD (f i)) from rfl,hc];rfl
noncomputable def vU:Fs:=(oP (oE (tE (e2 (lw) (e2 bK (e2 bK (ag 0) (ag 4)) (eC (.int 0))) (ag 1))) (tE (e2 (ge uJ) (e2 bK (ag 2) (ag 4)) (eC (.int 0))))) (ib 3 (ag 4) (e2 bK (bN (eI (e2 bK (e2 bK (ag 0) (ag 4)) (eC (.int 3)))) 1 [2,4] (aQ 0) (tE (e2 (lw) (e2 bK (ag 1) (ag 0)) (e2 km (e2 bK (ag 1) (ag 2)) (eC (.int 1))))) (ag 0)) (eC (.int 0)))) eB)
theorem yP {ps:List P4} (G:Gr ps) {who:Int} {f:Int->Option Int} (hne:∀ i q,f i=some q->0 < q->az ps i=who->∃ g∈bg ps i,f g=some (q-1)):∀ (is:List Int) (h:Int->PyData) (c4:bt),is.Nodup->(∀ x∈is,(0<=x/\x < ps.length)/\(∃ q,f x=some q)/\h x=.none) ->
    ∃ c4',gf (aQ 4) vU (is.map .int) [.val (gD ps),.val (.int who),.val (oT f ps.length),.own (.list (cf h ps.length)),c4]=.ok (.nx [.val (gD ps),.val (.int who),.val (oT f ps.length),.own (.list (cf (fun j=>if j∈is then oD (gS ps who f j) else h j) ps.length)),c4'])
  | [],h,c4,_,_=>⟨c4,by rw [List.map_nil,eO];simp⟩
  | i::is,h,c4,nd,hb=>by
    obtain ⟨n1,n2⟩:=List.nodup_cons.mp nd;obtain ⟨hi,⟨q,hq⟩,hh⟩:=hb i List.mem_cons_self;have ho:=ky hi.1 hi.2;have hg:=gu hi.1 hi.2;obtain ⟨c4',e⟩:=yP G hne is (fun j=>if j=i then oD (gS ps who f i) else h j) (.val (.int i)) n2 (fun x hx=>⟨(hb x (List.mem_cons_of_mem _ hx)).1,(hb x (List.mem_cons_of_mem _ hx)).2.1,by
      have:x≠i:=by rintro rfl;exact n1 hx
      show (if x=i then _ else h x)=_;rw [if_neg this];exact (hb x (List.mem_cons_of_mem _ hx)).2.2⟩)
    refine ⟨c4',?_⟩;have fin:cf (fun j=>if j∈is then oD (gS ps who f j) else (fun j=>if j=i then oD (gS ps who f i) else h j) j) ps.length=cf (fun j=>if j∈i::is then oD (gS ps who f j) else h j) ps.length:=dM fun j _ _=>by
      by_cases h1:j=i
      · subst h1;simp [n1]
      · by_cases h2:j∈is <;> simp [h1,h2]
    rw [fin] at e;rw [<- e,List.map_cons,cX,show (([.val (gD ps),.val (.int who),.val (oT f ps.length),.own (.list (cf h ps.length)),c4]:aT).set 4 (.val (.int i)))=[.val (gD ps),.val (.int who),.val (oT f ps.length),.own (.list (cf h ps.length)),.val (.int i)] from rfl];have ht:(oE (tE (e2 (lw) (e2 bK (e2 bK (ag 0) (ag 4)) (eC (.int 0))) (ag 1))) (tE (e2 (ge uJ) (e2 bK (ag 2) (ag 4)) (eC (.int 0))))) [.val (gD ps),.val (.int who),.val (oT f ps.length),.own (.list (cf h ps.length)),.val (.int i)]=.ok (decide (az ps i=who/\0 < q)):=by
      have hrk:bK (oT f ps.length) (.int i)=.ok (.int q):=by rw [pU hi.1 hi.2,hq];rfl
      simp only [tq,dY,ca,ar,ay,cj,R.ok_bind,pE hi.1 hi.2,n6,g9,ez,hrk,qJ];rw [<- ho];by_cases h1:az ps i=who
      · by_cases h2:0 < q <;> simp [h1,h2]
      · simp [h1]
    have hb1:vU [.val (gD ps),.val (.int who),.val (oT f ps.length),.own (.list (cf h ps.length)),.val (.int i)]=.ok (.nx [.val (gD ps),.val (.int who),.val (oT f ps.length),.own (.list (cf (fun j=>if j=i then oD (gS ps who f i) else h j) ps.length)),.val (.int i)]):=by
      unfold vU;rw [gw,ht,R.ok_bind];by_cases hc:az ps i=who/\0 < q
      · rw [if_pos (decide_eq_true hc)];have hcmp:=dg (t:=tE (e2 (lw) (e2 bK (ag 1) (ag 0)) (e2 km (e2 bK (ag 1) (ag 2)) (eC (.int 1))))) (ρ:=[.val (oT f ps.length),.val (.int i)]) (p:=fun g=>decide (f g=some (q-1))) (bg ps i) fun k hk=>by
          have hkb:=G.goals hk;have hrk:bK (oT f ps.length) (.int i)=.ok (.int q):=by rw [pU hi.1 hi.2,hq];rfl
          simp only [List.set_cons_zero,dY,ca,ar,ay,cj,R.ok_bind,pU hkb.1 hkb.2,hrk,ul,vt,ez]
        obtain ⟨g,hg1,hg2⟩:=hne i q hq hc.2 hc.1;have hm:gS ps who f i=((bg ps i).filter fun g=>decide (f g=some (q-1))).head?:=by
          unfold gS;rw [hq];exact if_pos hc
        have hmem:g∈(bg ps i).filter fun g=>decide (f g=some (q-1)):=List.mem_filter.mpr ⟨hg1,decide_eq_true hg2⟩
        cases hL:(bg ps i).filter fun g=>decide (f g=some (q-1)) with
        | nil=>rw [hL] at hmem;cases hmem
        | cons v r =>
          rw [hL] at hm hcmp;rw [mP (ds:=cf h ps.length) (n:=i) (v:=.int v) rfl rfl ?_ hi.1 (by rw [bz];exact hi.2),mQ hi.1 hi.2,hm]
          · rfl
          · rw [ca,bp,show ax 1 [2,4] [.val (gD ps),.val (.int who),.val (oT f ps.length),.own (.list (cf h ps.length)),.val (.int i)]=[.non,.val (oT f ps.length),.val (.int i)] from rfl];simp only [cs,ca,ar,ay,cj,R.ok_bind,pE hi.1 hi.2,qX,dD,cC];rw [<- hg,if_pos (by rw [List.length_map];exact bS (by have:=G.glen i;omega)),hcmp,mL,R.ok_bind,sj (by omega) (by simp)];rfl
      · rw [if_neg (by rw [decide_eq_true_iff];exact hc)];have hm:gS ps who f i=none:=by
          unfold gS;rw [hq];exact if_neg hc
        rw [sZ,hm];congr 3;rw [dM fun j _ _=>?_];by_cases h1:j=i
        · subst h1;rw [if_pos rfl,hh];rfl
        · rw [if_neg h1]
    rw [hb1,R.ok_bind,dZ]
theorem hZ {ps:List P4} (G:Gr ps) {who:Int} {f:Int->Option Int} (hne:∀ i q,f i=some q->0 < q->az ps i=who->∃ g∈bg ps i,f g=some (q-1)) :
    bI [gD ps,.int who,oT f ps.length]=.ok (oT (gS ps who f) ps.length):=by
  have hp:=G.hp;have h0:bC (aQ 0) (fun _=>.ok true) (eC .none) [.non] (cf (fun i=>oD (f i)) ps.length)=.ok (cf (fun _=>.none) ps.length):=by
    have:=ej (eC .none) [.non] 0 (fun _=>.none) (cf (fun i=>oD (f i)) ps.length) fun d _=>rfl
    rw [this];unfold cf;rw [List.map_map];rfl
  obtain ⟨c4,e⟩:=yP G hne (eP f ps.length) (fun _=>.none) .non (ou f ps.length).nd fun x hx=>⟨(eW.mp hx).1,(eW.mp hx).2,rfl⟩
  have fin:cf (fun j=>if j∈eP f ps.length then oD (gS ps who f j) else .none) ps.length=cf (fun j=>oD (gS ps who f j)) ps.length:=dM fun j h1 h2=>by
    by_cases h:j∈eP f ps.length
    · rw [if_pos h]
    · rw [if_neg h];have:f j=none:=by
        cases hf:f j with
        | none=>rfl
        | some q=>exact (h (eW.mpr ⟨⟨h1,h2⟩,q,hf⟩)).elim
      unfold gS;rw [this];rfl
  rw [fin] at e;unfold bI fR;refine eA ?_;rw [show ([gD ps,.int who,oT f ps.length].map bt.val++List.replicate (5 - [gD ps,.int who,oT f ps.length].length) bt.non)=[.val (gD ps),.val (.int who),.val (oT f ps.length),.non,.non] from rfl];rw [aR (ρ':=[.val (gD ps),.val (.int who),.val (oT f ps.length),.own (.list (cf (fun _=>.none) ps.length)),.non]) (by
    rw [mO,bp,show ax 1 [] [.val (gD ps),.val (.int who),.val (oT f ps.length),.non,.non]=[.non] from rfl];simp only [cs,ar,ay,R.ok_bind,dD,cC];rw [if_pos (by rw [bz];exact bS (by omega)),h0];rfl)]
  rw [aR (ρ':=[.val (gD ps),.val (.int who),.val (oT f ps.length),.own (.list (cf (fun j=>oD (gS ps who f j)) ps.length)),c4]) (by
    rw [fI,fH,cs];simp only [bj,aI,aV,ar,ay,R.ok_bind,lP (show ps.length<=1000 by omega),dD];unfold vU at e;rw [e];rfl)]
  rfl
theorem yb {d:PyData} (hg:gc d) (hd:d.depth<=60):uk d d=.ok (.bool false):=by
  unfold uk;rw [if_pos (by unfold wT;rw [hg];simp;exact hd),PySem.SeqAt.eqv_refl d hg];rfl
noncomputable def tQ:List PyData->Prop:=fun ds=>∀ x∈ds,gc x/\x.depth=0
theorem tQ.dep:∀ {ds:List PyData},tQ ds->PyData.depthAll ds=0
  | [],_=>by simp [PyData.depthAll]
  | d::ds,h=>by simp [PyData.depthAll,(h d List.mem_cons_self).2,tQ.dep fun x hx=>h x (List.mem_cons_of_mem _ hx)]
theorem tQ.good {ds:List PyData} (h:tQ ds):gc (.tuple ds):=fE.mpr fun x hx=>(h x hx).1
theorem vS (o:Option Int):gc (oD o)/\(oD o).depth=0:=by
  cases o
  · exact ⟨pA,by simp [oD,PyData.depth]⟩
  · exact ⟨nR _,by simp [oD,PyData.depth]⟩
theorem sy (f:Int->Option Int) (n:Nat):tQ (cf (fun i=>oD (f i)) n):=fun x hx=>by
  obtain ⟨i,_,rfl⟩:=List.mem_map.mp hx;exact vS _
theorem wV (ns:List Int):tQ (ns.map .int):=fun x hx=>by
  obtain ⟨i,_,rfl⟩:=List.mem_map.mp hx;exact vS (some i)
theorem AH (f:Int->Option Int) (n:Nat):gc (oT f n):=(sy f n).good
theorem yJ (f:Int->Option Int) (n:Nat):(oT f n).depth=1:=by simp [PyData.depth,(sy f n).dep]
theorem wg (ns:List Int):gc (.tuple (ns.map .int)):=(wV ns).good
theorem Gr.gne {ps:List P4} (G:Gr ps) {i:Int} (h0:0<=i) (h1:i < ps.length):∃ g,g∈bg ps i:=by
  have:=G.ne _ (List.getElem_mem (show i.toNat < ps.length by omega));rw [<- gu h0 h1] at this;exact List.exists_mem_of_ne_nil _ this
theorem jT {ps:List P4} (G:Gr ps):iZ ps (ids ps.length):=fun i hi=>by
  obtain ⟨h0,h1⟩:=bO.mp hi;obtain ⟨g,hg⟩:=G.gne h0 h1;exact ⟨g,List.mem_filter.mpr ⟨hg,bW.mpr (bO.mpr (G.goals hg))⟩⟩
theorem sU {n:Nat} (h:n<=1000):BG .tuple [.int (n:Int)]=.ok (.tuple ((ids n).map .int)):=by
  rw [EC (by omega) (by omega),iR];rfl
theorem ma {ps:List P4} (hp:ps.length<=1000):bT [gD ps]=.ok (.tuple (cf (fun _=>.none) ps.length)):=by
  have h0:bC (aQ 0) (fun _=>.ok true) (eC .none) [.non] (ps.map P4.d)=.ok (cf (fun _=>.none) ps.length):=by
    have:=ej (eC .none) [.non] 0 (fun _=>.none) (ps.map P4.d) fun d _=>rfl
    rw [this];congr 1;refine List.ext_getElem (by rw [List.length_map,List.length_map,bz]) fun k h1 h2=>?_
    rw [bz] at h2;have e:=fJ (f:=fun _=>.none) (n:=ps.length) (i:=(k:Int)) (by omega) (by omega);simp only [Int.toNat_natCast] at e;rw [e,List.getElem_map]
  unfold bT kf;refine eA ?_;rw [show ([gD ps].map bt.val++List.replicate (1 - [gD ps].length) bt.non)=[.val (gD ps)] from rfl];rw [cK,bZ,bp,show ax 1 [] [.val (gD ps)]=[.non] from rfl];simp only [cs,ar,R.ok_bind,dD,cC];rw [if_pos (by rw [List.length_map];exact bS hp),h0];rfl
noncomputable def wl:Fs:=(oP (tE (e2 (lw) (e2 bK (e2 bK (ag 0) (ag 4)) (eC (.int 0))) (ag 1))) (ib 3 (ag 4) (e2 bK (aD bD (ah (e2 bK (e2 bK (ag 0) (ag 4)) (eC (.int 3))) (ah (ag 2) aH))) (eC (.int 0)))) eB)
theorem zB {ps:List P4} (G:Gr ps) {who:Int} {s:PyData} {part:List Int} (hs:tF s part) (hj:cB ps.length part) (hne:∀ i∈part,az ps i=who->∃ g,g∈bP ps part i):∀ (is:List Int) (h:Int->PyData) (c4:bt),is.Nodup->(∀ x∈is,x∈part/\h x=.none) ->
    ∃ c4',gf (aQ 4) wl (is.map .int) [.val (gD ps),.val (.int who),.val s,.own (.list (cf h ps.length)),c4]=.ok (.nx [.val (gD ps),.val (.int who),.val s,.own (.list (cf (fun j=>if j∈is then oD (cb ps who part j) else h j) ps.length)),c4'])
  | [],h,c4,_,_=>⟨c4,by rw [List.map_nil,eO];simp⟩
  | i::is,h,c4,nd,hb=>by
    obtain ⟨n1,n2⟩:=List.nodup_cons.mp nd;obtain ⟨hip,hh⟩:=hb i List.mem_cons_self;have hi:=hj.inn i hip;have ho:=ky hi.1 hi.2;have hg:=gu hi.1 hi.2;obtain ⟨c4',e⟩:=zB G hs hj hne is (fun j=>if j=i then oD (cb ps who part i) else h j) (.val (.int i)) n2 (fun x hx=>⟨(hb x (List.mem_cons_of_mem _ hx)).1,by
      have:x≠i:=by rintro rfl;exact n1 hx
      show (if x=i then _ else h x)=_;rw [if_neg this];exact (hb x (List.mem_cons_of_mem _ hx)).2⟩)
    refine ⟨c4',?_⟩;have fin:cf (fun j=>if j∈is then oD (cb ps who part j) else (fun j=>if j=i then oD (cb ps who part i) else h j) j) ps.length=cf (fun j=>if j∈i::is then oD (cb ps who part j) else h j) ps.length:=dM fun j _ _=>by
      by_cases h1:j=i
      · subst h1;simp [n1]
      · by_cases h2:j∈is <;> simp [h1,h2]
    rw [fin] at e;rw [<- e,List.map_cons,cX,show (([.val (gD ps),.val (.int who),.val s,.own (.list (cf h ps.length)),c4]:aT).set 4 (.val (.int i)))=[.val (gD ps),.val (.int who),.val s,.own (.list (cf h ps.length)),.val (.int i)] from rfl];have ht:(tE (e2 (lw) (e2 bK (e2 bK (ag 0) (ag 4)) (eC (.int 0))) (ag 1))) [.val (gD ps),.val (.int who),.val s,.own (.list (cf h ps.length)),.val (.int i)]=.ok (decide (az ps i=who)):=by
      simp only [dY,ca,ar,ay,cj,R.ok_bind,pE hi.1 hi.2,n6,g9,ez];rw [<- ho]
    have hb1:wl [.val (gD ps),.val (.int who),.val s,.own (.list (cf h ps.length)),.val (.int i)]=.ok (.nx [.val (gD ps),.val (.int who),.val s,.own (.list (cf (fun j=>if j=i then oD (cb ps who part i) else h j) ps.length)),.val (.int i)]):=by
      unfold wl;rw [gw,ht,R.ok_bind];by_cases hc:az ps i=who
      · rw [if_pos (decide_eq_true hc)];have hcm:=lF (s:=.tuple ((bg ps i).map .int)) (ns:=bg ps i) (.inl rfl) hs (by have:=G.glen i;omega);obtain ⟨g,hg1⟩:=hne i hip hc;have hm:cb ps who part i=(bP ps part i).head?:=if_pos ⟨hip,hc⟩;have hw:(bg ps i).filter (cy part)=bP ps part i:=rfl;rw [hw] at hcm;cases hL:bP ps part i with
        | nil=>rw [hL] at hg1;cases hg1
        | cons v r =>
          rw [hL] at hm hcm;rw [mP (ds:=cf h ps.length) (n:=i) (v:=.int v) rfl rfl ?_ hi.1 (by rw [bz];exact hi.2),mQ hi.1 hi.2,hm]
          · rfl
          · simp only [ca,bj,aI,aV,ar,ay,cj,R.ok_bind,pE hi.1 hi.2,qX];rw [<- hg,hcm,R.ok_bind,sk (by omega) (by simp)];rfl
      · rw [if_neg (by rw [decide_eq_true_iff];exact hc)];have hm:cb ps who part i=none:=if_neg fun z=>hc z.2
        rw [sZ,hm];congr 3;rw [dM fun j _ _=>?_];by_cases h1:j=i
        · subst h1;rw [if_pos rfl,hh];rfl
        · rw [if_neg h1]
    rw [hb1,R.ok_bind,dZ]
theorem ie {ps:List P4} (G:Gr ps) {who:Int} {s:PyData} {part:List Int} (hs:tF s part) (hj:cB ps.length part) (hne:∀ i∈part,az ps i=who->∃ g,g∈bP ps part i) :
    bJ [gD ps,.int who,s]=.ok (oT (cb ps who part) ps.length):=by
  have hp:=G.hp;have hn:=ma (ps:=ps) (by omega);obtain ⟨c4,e⟩:=zB G hs hj hne part (fun _=>.none) .non hj.nd fun x hx=>⟨hx,rfl⟩
  have fin:cf (fun j=>if j∈part then oD (cb ps who part j) else .none) ps.length=cf (fun j=>oD (cb ps who part j)) ps.length:=dM fun j h1 h2=>by
    by_cases h:j∈part
    · rw [if_pos h]
    · rw [if_neg h];have:cb ps who part j=none:=if_neg fun z=>h z.1
      rw [this];rfl
  rw [fin] at e;unfold bJ fS;refine eA ?_;rw [show ([gD ps,.int who,s].map bt.val++List.replicate (5 - [gD ps,.int who,s].length) bt.non)=[.val (gD ps),.val (.int who),.val s,.non,.non] from rfl];rw [aR (ρ':=[.val (gD ps),.val (.int who),.val s,.own (.list (cf (fun _=>.none) ps.length)),.non]) (by
    simp only [mO,bZ,bj,aI,aV,ar,R.ok_bind,hn,Ak];rfl)]
  rw [aR (ρ':=[.val (gD ps),.val (.int who),.val s,.own (.list (cf (fun j=>oD (cb ps who part j)) ps.length)),c4]) (by
    rw [fI,fH,cs];simp only [ar,ay,R.ok_bind,hs.seq];unfold wl at e;rw [e];rfl)]
  rfl
noncomputable abbrev Bb:List Str:=["who","places","moves"]
noncomputable def jC (c:Addr) (n:Nat) (s:Sh):PyData:=yo c Bb [.int s.w,.tuple (s.pl.map .int),oT s.mv n]
theorem uV (c:Addr) (n:Nat) (s:Sh):jC c n s=.dict [(.none,.int c),(.str "who",.int s.w),(.str "places",.tuple (s.pl.map .int)),(.str "moves",oT s.mv n)]:=rfl
theorem As (c:Addr) (n:Nat) (s:Sh):kq c "who" (jC c n s)=.ok (.int s.w):=by
  rw [uV];show (if (c:Int)=(c:Int) then (if ("who" : Str) = "who" then R.ok _ else _) else .no)=_;rw [if_pos rfl,if_pos rfl]
theorem nO (c:Addr) (n:Nat) (s:Sh):kq c "places" (jC c n s)=.ok (.tuple (s.pl.map .int)):=by
  rw [uV];show (if (c:Int)=(c:Int) then (if ("who" : Str) = "places" then _ else if ("places" : Str) = "places" then R.ok _ else _) else .no)=_;rw [if_pos rfl,if_neg (by decide +kernel),if_pos rfl]
theorem wW (c:Addr) (n:Nat) (s:Sh):kq c "moves" (jC c n s)=.ok (oT s.mv n):=by
  rw [uV];show (if (c:Int)=(c:Int) then (if ("who" : Str) = "moves" then _ else if ("places" : Str) = "moves" then _ else if ("moves" : Str) = "moves" then R.ok _ else _) else .no)=_;rw [if_pos rfl,if_neg (by decide +kernel),if_neg (by decide +kernel),if_pos rfl]
theorem qD {f g:Int->Option Int} {n:Nat} (hn:n<=1000):aN [oT f n,oT g n]=.ok (oT (ci f g) n):=by
  have hc:=Bi (f:=fun i=>oD (f i)) (g:=fun i=>oD (g i)) (h:=fun i=>oD (ci f g i)) (n:=n) (ρ:=[]) (fe:=zN (tE (e2 (nG) (ag 0) (eC .none))) (ag 1) (ag 0)) fun i _ _=>by
    simp only [uo,dY,ca,ar,ay,cj,R.ok_bind,uz,ez];unfold ci;cases f i <;> rfl
  unfold aN fQ;refine eA ?_;rw [show ([oT f n,oT g n].map bt.val++List.replicate (2 - [oT f n,oT g n].length) bt.non)=[.val (oT f n),.val (oT g n)] from rfl];rw [cK,bZ,bp,show ax 2 [] [.val (oT f n),.val (oT g n)]=[.non,.non] from rfl];simp only [Aw,ar,ay,R.ok_bind,dD,cC];rw [if_pos (by rw [oM,bz,bz,Nat.min_self];exact bS hn),hc];rfl
theorem oX {ps:List P4} (hp:ps.length<=1000):cF [gD ps]=.ok (.tuple ((ids ps.length).map .int)):=by
  have hrt:=sU (n:=ps.length) hp;have hlen:dl (gD ps)=.ok (.int ps.length):=by simp
  unfold cF io;refine eA ?_;rw [show ([gD ps].map bt.val++List.replicate (1 - [gD ps].length) bt.non)=[.val (gD ps)] from rfl];simp only [cK,yf,aI,aV,bZ,ar,R.ok_bind,hlen,hrt]
noncomputable def zF (s:Sh) (f:Int->Option Int) (i:Int):Option Int:=if i∈s.pl then some s.w else f i
noncomputable def i7:(Int->Option Int)->List Sh->Int->Option Int
  | f,[]=>f
  | f,s::l=>i7 (zF s f) l
noncomputable def qU:(Int->Option Int)->List Sh->Int->Option Int
  | f,[]=>f
  | f,s::l=>qU (ci f s.mv) l
theorem zD {c:Addr} {n:Nat} {a b m:PyData} {s:Sh}:∀ (is:List Int) (f:Int->Option Int) (c5:bt),(∀ x∈is,0<=x/\x < n) ->
    ∃ c5',gf (aQ 5) (ib 2 (ag 5) (e1 (kq c "who") (ag 4))) (is.map .int) [.val a,.val b,.own (.list (cf (fun i=>oD (f i)) n)),.val m,.val (jC c n s),c5]=.ok (.nx [.val a,.val b,.own (.list (cf (fun i=>oD (if i∈is then some s.w else f i)) n)),.val m,.val (jC c n s),c5'])
  | [],f,c5,_=>⟨c5,by rw [List.map_nil,eO];simp⟩
  | i::is,f,c5,hb=>by
    obtain ⟨h0,h1⟩:=hb i List.mem_cons_self;obtain ⟨c5',e⟩:=zD (c:=c) (n:=n) (a:=a) (b:=b) (m:=m) (s:=s) is (fun j=>if j=i then some s.w else f j) (.val (.int i)) fun x hx=>hb x (List.mem_cons_of_mem _ hx)
    refine ⟨c5',?_⟩;rw [List.map_cons,cX];rw [show (([.val a,.val b,.own (.list (cf (fun i=>oD (f i)) n)),.val m,.val (jC c n s),c5]:aT).set 5 (.val (.int i)))=[.val a,.val b,.own (.list (cf (fun i=>oD (f i)) n)),.val m,.val (jC c n s),.val (.int i)] from rfl];rw [mP (ds:=cf (fun i=>oD (f i)) n) (n:=i) (v:=.int s.w) rfl rfl (by simp only [bZ,ay,ar,R.ok_bind,As]) h0 (by rw [bz];exact h1),R.ok_bind,dZ,mQ h0 h1];have ht:cf (fun j=>if j=i then PyData.int s.w else oD (f j)) n=cf (fun j=>oD (if j=i then some s.w else f j)) n:=dM fun j _ _=>by split <;> rfl
    have ht2:cf (fun j=>oD (if j∈is then some s.w else if j=i then some s.w else f j)) n=cf (fun j=>oD (if j∈i::is then some s.w else f j)) n:=dM fun j _ _=>by
      by_cases z1:j∈is
      · simp [z1]
      · by_cases z2:j=i <;> simp [z1,z2]
    rw [ht,<- ht2];exact e
noncomputable def rg (c:Addr):Fs:=(bn (jw (kC (eI (e1 (kq c "places") (ag 4))) (aQ 5) (ib 2 (ag 5) (e1 (kq c "who") (ag 4))))) (cm 3 (aD aN (ah (ag 3) (ah (e1 (kq c "moves") (ag 4)) aH)))))
theorem wd {c:Addr} {n:Nat} (hn:n<=1000) {a b:PyData}:∀ (l:List Sh) (f m:Int->Option Int) (c4 c5:bt),(∀ s∈l,∀ x∈s.pl,0<=x/\x < n) ->
    ∃ c4' c5',gf (aQ 4) (rg c) (l.map (jC c n)) [.val a,.val b,.own (.list (cf (fun i=>oD (f i)) n)),.val (oT m n),c4,c5]=.ok (.nx [.val a,.val b,.own (.list (cf (fun i=>oD (i7 f l i)) n)),.val (oT (qU m l) n),c4',c5'])
  | [],f,m,c4,c5,_=>⟨c4,c5,by rw [List.map_nil,eO];rfl⟩
  | s::l,f,m,c4,c5,hb=>by
    obtain ⟨d5,e1⟩:=zD (c:=c) (n:=n) (a:=a) (b:=b) (m:=oT m n) (s:=s) s.pl f c5 (hb s List.mem_cons_self);obtain ⟨c4',c5',e⟩:=wd (c:=c) hn (a:=a) (b:=b) l (zF s f) (ci m s.mv) (.val (jC c n s)) d5 fun t ht=>hb t (List.mem_cons_of_mem _ ht)
    refine ⟨c4',c5',?_⟩;rw [List.map_cons,cX];rw [show (([.val a,.val b,.own (.list (cf (fun i=>oD (f i)) n)),.val (oT m n),c4,c5]:aT).set 4 (.val (jC c n s)))=[.val a,.val b,.own (.list (cf (fun i=>oD (f i)) n)),.val (oT m n),.val (jC c n s),c5] from rfl];have hb1:rg c [.val a,.val b,.own (.list (cf (fun i=>oD (f i)) n)),.val (oT m n),.val (jC c n s),c5]=.ok (.nx [.val a,.val b,.own (.list (cf (fun i=>oD (zF s f i)) n)),.val (oT (ci m s.mv) n),.val (jC c n s),d5]):=by
      unfold rg;rw [aR (ρ':=[.val a,.val b,.own (.list (cf (fun i=>oD (zF s f i)) n)),.val (oT m n),.val (jC c n s),d5]) (by
        rw [fI,fH,cs,bZ];simp only [ay,ar,R.ok_bind,nO,dD];rw [e1];rfl)]
      simp only [bG,bj,aI,aV,bZ,ay,ar,R.ok_bind,wW,qD hn];rfl
    rw [hb1,R.ok_bind,dZ,e];rfl
theorem Fc {ps:List P4} (hp:ps.length<=1000) {c:Addr} {l:List Sh} (hb:∀ s∈l,∀ x∈s.pl,0<=x/\x < ps.length) :
    bo c [gD ps,.list (l.map (jC c ps.length))]=.ok (.tuple [oT (i7 (fun _=>none) l) ps.length,oT (qU (fun _=>none) l) ps.length]):=by
  obtain ⟨c4,c5,e⟩:=wd (c:=c) hp (a:=gD ps) (b:=.list (l.map (jC c ps.length))) l (fun _=>none) (fun _=>none) .non .non hb;have h0:bC (aQ 0) (fun _=>.ok true) (eC .none) [.non] (ps.map P4.d)=.ok (cf (fun _=>oD none) ps.length):=by
    have:=ej (eC .none) [.non] 0 (fun _=>.none) (ps.map P4.d) fun d _=>rfl
    rw [this];congr 1;refine List.ext_getElem (by rw [List.length_map,List.length_map,bz]) fun k h1 h2=>?_
    rw [bz] at h2;have e:=fJ (f:=fun _=>oD none) (n:=ps.length) (i:=(k:Int)) (by omega) (by omega);simp only [Int.toNat_natCast] at e;rw [e,List.getElem_map];rfl
  have hn:=ma (ps:=ps) hp;unfold bo eD;refine eA ?_;rw [show ([gD ps,.list (l.map (jC c ps.length))].map bt.val++List.replicate (6 - [gD ps,.list (l.map (jC c ps.length))].length) bt.non)=[.val (gD ps),.val (.list (l.map (jC c ps.length))),.non,.non,.non,.non] from rfl];rw [aR (ρ':=[.val (gD ps),.val (.list (l.map (jC c ps.length))),.own (.list (cf (fun _=>oD none) ps.length)),.non,.non,.non]) (by
    rw [mO,bp,show ax 1 [] [.val (gD ps),.val (.list (l.map (jC c ps.length))),.non,.non,.non,.non]=[.non] from rfl];simp only [cs,ar,R.ok_bind,dD,cC];rw [if_pos (by rw [List.length_map];exact bS hp),h0];rfl)]
  rw [aR (ρ':=[.val (gD ps),.val (.list (l.map (jC c ps.length))),.own (.list (cf (fun _=>oD none) ps.length)),.val (oT (fun _=>none) ps.length),.non,.non]) (by
    simp only [bG,bj,aI,aV,ar,R.ok_bind,hn];rfl)]
  rw [aR (ρ':=[.val (gD ps),.val (.list (l.map (jC c ps.length))),.own (.list (cf (fun i=>oD (i7 (fun _=>none) l i)) ps.length)),.val (oT (qU (fun _=>none) l) ps.length),c4,c5]) (by
    rw [fI,fH,cs];simp only [ay,ar,R.ok_bind,uT];unfold rg at e;rw [e];rfl)]
  simp only [cK,iH,aI,aV,bZ,mI,mH,ay,ar,R.ok_bind,k6];rfl
noncomputable def Wy (ps:List P4) (js:List Int) (w:Int) (mv:Int->Option Int) (i g:Int):Prop:=(az ps i=w/\mv i=some g)\/(az ps i≠w/\g∈bP ps js i)
theorem jE {ps:List P4} {js:List Int} {i g:Int} (h:g∈bP ps js i):g∈js:=bW.mp (List.mem_filter.mp h).2
theorem lQ {ps:List P4} {js:List Int} {i g:Int} (h:g∈bP ps js i):g∈bg ps i:=(List.mem_filter.mp h).1
theorem mR {ps:List P4} {js:List Int} {i g:Int} (h:g∈bg ps i) (h2:g∈js):g∈bP ps js i:=List.mem_filter.mpr ⟨h,bW.mpr h2⟩
theorem AF {ps:List P4} {js gs:List Int} {who:Int} {rk:Int->Option Int} (A:tH ps js who gs rk) {i q:Int} (h:rk i=some q) (hq:0 < q) (ho:az ps i=who):∃ g,gS ps who rk i=some g/\g∈bP ps js i/\rk g=some (q-1):=by
  obtain ⟨g,g1,g2⟩:=kl A i q h hq ho;have hm:gS ps who rk i=((bg ps i).filter fun g=>decide (rk g=some (q-1))).head?:=by
    unfold gS;rw [h];exact if_pos ⟨ho,hq⟩
  have hmem:g∈(bg ps i).filter fun g=>decide (rk g=some (q-1)):=List.mem_filter.mpr ⟨g1,decide_eq_true g2⟩
  cases hL:(bg ps i).filter fun g=>decide (rk g=some (q-1)) with
  | nil=>rw [hL] at hmem;cases hmem
  | cons v r =>
    rw [hL] at hm;have hv:v∈(bg ps i).filter fun g=>decide (rk g=some (q-1)):=by rw [hL];exact List.mem_cons_self
    have h2:=of_decide_eq_true (List.mem_filter.mp hv).2;exact ⟨v,hm,mR (List.mem_filter.mp hv).1 (A.sub v _ h2),h2⟩
theorem lb {ps:List P4} {who:Int} {rk:Int->Option Int} {i:Int} (h:az ps i≠who\/rk i=none\/rk i=some 0):gS ps who rk i=none:=by
  unfold gS;rcases h with h | h | h
  · cases rk i with
    | none=>rfl
    | some q=>exact if_neg fun z=>h z.1
  · rw [h]
  · rw [h];exact if_neg fun z=>by omega
theorem xw {ps:List P4} {who:Int} {part:List Int} {i:Int} (hi:i∈part) (ho:az ps i=who) (hw:∃ g,g∈bP ps part i):∃ g,cb ps who part i=some g/\g∈bP ps part i:=by
  have hm:cb ps who part i=(bP ps part i).head?:=if_pos ⟨hi,ho⟩;obtain ⟨g,hg⟩:=hw;cases hL:bP ps part i with
  | nil=>rw [hL] at hg;cases hg
  | cons v r =>
    rw [hL] at hm;exact ⟨v,hm,List.mem_cons_self⟩
theorem kG {ps:List P4} {who:Int} {part:List Int} {i:Int} (h:i∉part\/az ps i≠who):cb ps who part i=none:=if_neg fun z=>h.elim (fun y=>y z.1) fun y=>y z.2
theorem sd {ps:List P4} {js gs:List Int} {who:Int} {rk:Int->Option Int} (A:tH ps js who gs rk) {part:List Int} {i q:Int} (h:rk i=some q) (ho:az ps i=who) (h0:q=0->i∈part/\∃ g,g∈bP ps part i) :
    ∃ g,ci (gS ps who rk) (cb ps who part) i=some g/\g∈bg ps i/\((0 < q/\g∈js/\rk g=some (q-1))\/(q=0/\g∈part)):=by
  unfold ci;by_cases hq:0 < q
  · obtain ⟨g,g1,g2,g3⟩:=AF A h hq ho;exact ⟨g,by rw [g1];rfl,lQ g2,.inl ⟨hq,jE g2,g3⟩⟩
  · have hq0:q=0:=by have:=A.nneg i q h;omega
    obtain ⟨p1,p2⟩:=h0 hq0;obtain ⟨g,g1,g2⟩:=xw p1 ho p2;exact ⟨g,by rw [lb (.inr (.inr (by rw [h,hq0]))),g1];rfl,lQ g2,.inr ⟨hq0,jE g2⟩⟩
noncomputable def bf (gs js:List Int):List Int:=gs.filter (cy js)
noncomputable def cx (ps:List P4) (js:List Int) (who:Int) (gs:List Int):List Int:=fy js (eP (rK ps js who (bf gs js)) ps.length)
noncomputable def bw (ps:List P4) (js:List Int) (who:Int) (gs:List Int):Sh :=
  if cx ps js who gs=[] then ⟨who,js,ci (gS ps who (rK ps js who (bf gs js))) (cb ps who js)⟩
  else ⟨1-who,eP (rK ps js (1-who) (cx ps js who gs)) ps.length,ci (gS ps (1-who) (rK ps js (1-who) (cx ps js who gs))) (cb ps (1-who) (cx ps js who gs))⟩
section
variable {ps:List P4} (G:Gr ps) {js gs:List Int} (hj:cB ps.length js) (hg:cB ps.length gs) (hw:iZ ps js) {who:Int}
include hg in
theorem sB:cB ps.length (bf gs js):=hg.filter _
theorem vA:∀ x∈bf gs js,x∈js:=fun x hx=>bW.mp (List.mem_filter.mp hx).2
include hj in
theorem jK:cB ps.length (cx ps js who gs):=hj.filter _
theorem nB:∀ x∈cx ps js who gs,x∈js:=fun x hx=>(hU.mp hx).1
include hj in
theorem k9 {i:Int}:i∈cx ps js who gs<->i∈js/\rK ps js who (bf gs js) i=none:=by
  unfold cx;rw [hU,eW];constructor
  · rintro ⟨h1,h2⟩;refine ⟨h1,?_⟩;cases h:rK ps js who (bf gs js) i with
    | none=>rfl
    | some q=>exact (h2 ⟨hj.inn i h1,q,h⟩).elim
  · rintro ⟨h1,h2⟩;refine ⟨h1,?_⟩;rintro ⟨_,q,hq⟩;rw [h2] at hq;cases hq
include hj hg in
theorem qA:tH ps js who (bf gs js) (rK ps js who (bf gs js)):=vi (sB hg).nd vA hj.nd hj.len
include hj in
theorem jJ:tH ps js (1-who) (cx ps js who gs) (rK ps js (1-who) (cx ps js who gs)):=vi (jK hj).nd nB hj.nd hj.len
include hj hg hw in
theorem pb {i:Int} (hi:i∈cx ps js who gs) (ho:az ps i≠who):∃ g,g∈bP ps (cx ps js who gs) i:=by
  obtain ⟨h1,h2⟩:=(k9 hj).mp hi;obtain ⟨g,g1,g2⟩:=(qA hj hg).outX i h1 h2 ho (hw i h1);obtain ⟨g3,g4⟩:=List.mem_filter.mp g1;exact ⟨g,List.mem_filter.mpr ⟨g3,bW.mpr ((k9 hj).mpr ⟨bW.mp g4,g2⟩)⟩⟩
include G hj hg hw in
theorem wL {c:Addr}:br c [gD ps,.tuple (js.map .int),.int who,.tuple (gs.map .int)]=.ok (jC c ps.length (bw ps js who gs)):=by
  have hp:=G.hp;have hjl:=hj.len;have hgl:=hg.len;have h0:=lF (s:=.tuple (gs.map .int)) (t:=.tuple (js.map .int)) (.inl rfl) (.inl rfl) (by omega);have h1:=me G.hl G.hgo G.hp (s:=.tuple (js.map .int)) (g:=.tuple ((bf gs js).map .int)) (.inl rfl) (.inl rfl) hj (sB hg) vA hw (who:=who);have h2:=lP (f:=rK ps js who (bf gs js)) (n:=ps.length) (by omega);have h3:=oK (s:=.tuple (js.map .int)) (t:=.tuple ((eP (rK ps js who (bf gs js)) ps.length).map .int)) (.inl rfl) (.inl rfl) (by omega);have h4:=hZ G (kl (qA (who:=who) hj hg));unfold br eZ;refine eA ?_;rw [show ([gD ps,.tuple (js.map .int),.int who,.tuple (gs.map .int)].map bt.val++List.replicate (8 - [gD ps,.tuple (js.map .int),.int who,.tuple (gs.map .int)].length) bt.non)=[.val (gD ps),.val (.tuple (js.map .int)),.val (.int who),.val (.tuple (gs.map .int)),.non,.non,.non,.non] from rfl];rw [aR (ρ':=[.val (gD ps),.val (.tuple (js.map .int)),.val (.int who),.val (.tuple (gs.map .int)),.val (oT (rK ps js who (bf gs js)) ps.length),.non,.non,.non]) (by
    simp only [bG,bj,aI,aV,ar,ay,R.ok_bind,h0];rw [show gs.filter (cy js)=bf gs js from rfl,h1];rfl)]
  rw [aR (ρ':=[.val (gD ps),.val (.tuple (js.map .int)),.val (.int who),.val (.tuple (gs.map .int)),.val (oT (rK ps js who (bf gs js)) ps.length),.val (.tuple ((cx ps js who gs).map .int)),.non,.non]) (by
    simp only [bG,bj,aI,aV,ar,ay,R.ok_bind,h2,h3];rfl)]
  by_cases ha:cx ps js who gs=[]
  · have h5:=ie G (who:=who) (s:=.tuple (js.map .int)) (.inl rfl) hj fun i hi _=>hw i hi
    rw [show bw ps js who gs=⟨who,js,ci (gS ps who (rK ps js who (bf gs js))) (cb ps who js)⟩ from if_pos ha];refine zh ?_;rw [gw,dY,ca,bZ];simp only [ar,ay,cj,R.ok_bind,ha,List.map_nil,lI,List.length_nil,g9,ez];rw [if_pos (by decide)];rw [aR (ρ':=[.val (gD ps),.val (.tuple (js.map .int)),.val (.int who),.val (.tuple (gs.map .int)),.val (oT (rK ps js who (bf gs js)) ps.length),.val (.tuple []),.val (oT (ci (gS ps who (rK ps js who (bf gs js))) (cb ps who js)) ps.length),.non]) (by
      simp only [bG,bj,aI,aV,ar,ay,R.ok_bind,h4,h5,qD (show ps.length<=1000 by omega)];rfl)]
    rfl
  · have h5:=me G.hl G.hgo G.hp (s:=.tuple (js.map .int)) (g:=.tuple ((cx ps js who gs).map .int)) (.inl rfl) (.inl rfl) hj (jK hj) nB hw (who:=1-who);have h6:=lP (f:=rK ps js (1-who) (cx ps js who gs)) (n:=ps.length) (by omega);have h7:=hZ G (kl (jJ (gs:=gs) (who:=who) hj));have h8:=ie G (who:=1-who) (s:=.tuple ((cx ps js who gs).map .int)) (.inl rfl) (jK hj) fun i hi ho=>pb hj hg hw hi (by omega)
    rw [show bw ps js who gs=⟨1-who,eP (rK ps js (1-who) (cx ps js who gs)) ps.length,ci (gS ps (1-who) (rK ps js (1-who) (cx ps js who gs))) (cb ps (1-who) (cx ps js who gs))⟩ from if_neg ha];have hlen:¬ ((cx ps js who gs).length:Int)=0:=by
      have:=List.length_pos_iff.mpr ha;omega
    rw [aR (ρ':=[.val (gD ps),.val (.tuple (js.map .int)),.val (.int who),.val (.tuple (gs.map .int)),.val (oT (rK ps js who (bf gs js)) ps.length),.val (.tuple ((cx ps js who gs).map .int)),.non,.non]) (by
      rw [gw,dY,ca,bZ];simp only [ar,ay,cj,R.ok_bind,lI,List.length_map,g9,ez,decide_eq_false hlen];rfl)]
    rw [aR (ρ':=[.val (gD ps),.val (.tuple (js.map .int)),.val (.int who),.val (.tuple (gs.map .int)),.val (oT (rK ps js who (bf gs js)) ps.length),.val (.tuple ((cx ps js who gs).map .int)),.non,.val (.int (1-who))]) (by
      simp only [bG,ca,ar,ay,cj,R.ok_bind,ul];rfl)]
    rw [aR (ρ':=[.val (gD ps),.val (.tuple (js.map .int)),.val (.int who),.val (.tuple (gs.map .int)),.val (oT (rK ps js (1-who) (cx ps js who gs)) ps.length),.val (.tuple ((cx ps js who gs).map .int)),.non,.val (.int (1-who))]) (by
      simp only [bG,bj,aI,aV,ar,ay,R.ok_bind,h5];rfl)]
    rw [aR (ρ':=[.val (gD ps),.val (.tuple (js.map .int)),.val (.int who),.val (.tuple (gs.map .int)),.val (oT (rK ps js (1-who) (cx ps js who gs)) ps.length),.val (.tuple ((cx ps js who gs).map .int)),.val (oT (ci (gS ps (1-who) (rK ps js (1-who) (cx ps js who gs))) (cb ps (1-who) (cx ps js who gs))) ps.length),.val (.int (1-who))]) (by
      simp only [bG,bj,aI,aV,ar,ay,R.ok_bind,h7,h8,qD (show ps.length<=1000 by omega)];rfl)]
    unfold yd;simp only [cK,bj,aI,aV,ar,ay,R.ok_bind,h6];rfl
end
noncomputable def cJ (ps:List P4) (who:Int) (gs:List Int):Nat->List Int->List Sh
  | 0,_=>[]
  | k+1,js=>if js=[] then [] else bw ps js who gs::cJ ps who gs k (fy js (bw ps js who gs).pl)
theorem uQ {ps:List P4} {js gs:List Int} {who:Int} {rk:Int->Option Int} (hj:cB ps.length js) (hw:iZ ps js) (A:tH ps js who gs rk):iZ ps (fy js (eP rk ps.length)):=by
  intro i hi;obtain ⟨h1,h2⟩:=hU.mp hi;have hn:rk i=none:=by
    cases h:rk i with
    | none=>rfl
    | some q=>exact (h2 (eW.mpr ⟨hj.inn i h1,q,h⟩)).elim
  have fin:∀ g,g∈bP ps js i->rk g=none->∃ g,g∈bP ps (fy js (eP rk ps.length)) i:=fun g g1 g2=>by
    obtain ⟨g3,g4⟩:=List.mem_filter.mp g1;refine ⟨g,List.mem_filter.mpr ⟨g3,bW.mpr (hU.mpr ⟨bW.mp g4,fun z=>?_⟩)⟩⟩;obtain ⟨_,q,hq⟩:=eW.mp z;rw [g2] at hq;cases hq
  by_cases ho:az ps i=who
  · obtain ⟨g,hg⟩:=hw i h1;exact fin g hg (A.outO i h1 hn ho g hg)
  · obtain ⟨g,g1,g2⟩:=A.outX i h1 hn ho (hw i h1);exact fin g g1 g2
theorem om (js:List Int):fy js js=[]:=by
  unfold fy;rw [List.filter_eq_nil_iff];intro x hx;rw [bW.mpr hx];simp
theorem lU {ps:List P4} {js gs:List Int} {who:Int} (hj:cB ps.length js) (hw:iZ ps js):iZ ps (fy js (bw ps js who gs).pl):=by
  unfold bw;split
  · rw [om];intro i hi;cases hi
  · exact uQ hj hw (jJ hj)
theorem wM {ps:List P4} {js gs:List Int} {who:Int} (hj:cB ps.length js):cB ps.length (bw ps js who gs).pl:=by
  unfold bw;split
  · exact hj
  · exact ou _ _
theorem lT {ps:List P4} {js gs:List Int} {who:Int} (hj:cB ps.length js) (hne:js≠[]):(fy js (bw ps js who gs).pl).length < js.length:=by
  have ex:∃ i∈js,i∈(bw ps js who gs).pl:=by
    unfold bw;split
    · exact let ⟨i,hi⟩:=List.exists_mem_of_ne_nil _ hne;⟨i,hi,hi⟩
    · rename_i ha;obtain ⟨i,hi⟩:=List.exists_mem_of_ne_nil _ ha;exact ⟨i,nB i hi,eW.mpr ⟨(jK hj).inn i hi,0,((jJ hj).zero i).mpr hi⟩⟩
  obtain ⟨i,h1,h2⟩:=ex;refine Nat.lt_of_le_of_ne (List.length_filter_le ..) fun z=>?_
  have:=(gO _ js).mp z i h1;rw [bW.mpr h2] at this;cases this
noncomputable def vz (c:Addr):Fs:=(bn (cm 5 (aD (br c) (ah (ag 0) (ah (ag 4) (ah (ag 1) (ah (ag 2) aH)))))) (bn (gE 3 (ag 5)) (cm 4 (aD cc (ah (ag 4) (ah (e1 (kq c "places") (ag 5)) aH))))))
noncomputable abbrev gR (ps:List P4) (c:Addr) (who:Int) (gs:List Int) (acc:List Sh) (js:List Int) (c5:bt):aT :=
  [.val (gD ps),.val (.int who),.val (.tuple (gs.map .int)),.own (.list (acc.map (jC c ps.length))),.val (.tuple (js.map .int)),c5]
theorem Bt {ps:List P4} (G:Gr ps) {gs:List Int} (hg:cB ps.length gs) {who:Int} {c:Addr}:∀ (k n:Nat) (js:List Int) (acc:List Sh) (c5:bt),cB ps.length js->iZ ps js->js.length<=k->k+1<=n->acc.length+k<=1000 ->
    ∃ c5',dO (tE (e2 (ge uJ) (e1 dl (ag 4)) (eC (.int 0)))) (vz c) n (gR ps c who gs acc js c5)=.ok (.nx (gR ps c who gs (acc++cJ ps who gs k js) [] c5'))
  | k,0,js,acc,c5,_,_,_,h,_=>by omega
  | k,n+1,js,acc,c5,hj,hw,hk,hn,hz=>by
    have hp:=G.hp;rw [oJ];have ht:tE (e2 (ge uJ) (e1 dl (ag 4)) (eC (.int 0))) (gR ps c who gs acc js c5)=.ok (decide (0 < js.length)):=by
      simp only [dY,ca,bZ,ay,ar,cj,R.ok_bind,lI,qJ,ez,List.length_map];congr 1;simp
    rw [ht,R.ok_bind];by_cases h0:js=[]
    · subst h0;refine ⟨c5,?_⟩;have:cJ ps who gs k []=[]:=by cases k <;> rfl
      rw [this,List.append_nil];rfl
    · have hpos:=List.length_pos_iff.mpr h0;rw [if_pos (decide_eq_true hpos)];cases k with
      | zero=>omega
      | succ k =>
        have hl:=lT (gs:=gs) (who:=who) hj h0;obtain ⟨c5',e⟩:=Bt G hg (who:=who) (c:=c) k n (fy js (bw ps js who gs).pl) (acc++[bw ps js who gs]) (.val (jC c ps.length (bw ps js who gs))) (hj.filter _) (lU hj hw) (by omega) (by omega) (by simp;omega);refine ⟨c5',?_⟩;have h1:=wL G hj hg hw (who:=who) (c:=c);have h2:=oK (s:=.tuple (js.map .int)) (t:=.tuple ((bw ps js who gs).pl.map .int)) (.inl rfl) (.inl rfl) (by have:=hj.len;omega);have hb:vz c (gR ps c who gs acc js c5)=.ok (.nx (gR ps c who gs (acc++[bw ps js who gs]) (fy js (bw ps js who gs).pl) (.val (jC c ps.length (bw ps js who gs))))):=by
          unfold vz;rw [aR (ρ':=gR ps c who gs acc js (.val (jC c ps.length (bw ps js who gs)))) (by
            simp only [bG,bj,aI,aV,ar,ay,R.ok_bind,h1];rfl)]
          rw [aR (ρ':=gR ps c who gs (acc++[bw ps js who gs]) js (.val (jC c ps.length (bw ps js who gs)))) (by
            rw [pO (ds:=acc.map (jC c ps.length)) (ag 5) rfl (Nat.lt_of_lt_of_le (show _ < 1001 by rw [List.length_map];omega) (by decide))];simp -implicitDefEqProofs only [ar,ay,cC,R.ok_bind];rw [show acc.map (jC c ps.length)++[jC c ps.length (bw ps js who gs)]=(acc++[bw ps js who gs]).map (jC c ps.length) by simp];rfl)]
          simp only [bG,bj,aI,aV,bZ,ar,ay,R.ok_bind,nO,h2];rfl
        rw [hb,R.ok_bind,dZ,e];rw [show cJ ps who gs (k+1) js=bw ps js who gs::cJ ps who gs k (fy js (bw ps js who gs).pl) from if_neg h0];simp
theorem rY {ps:List P4} {gs:List Int} {who:Int}:∀ (k:Nat) (js:List Int),cB ps.length js->∀ s∈cJ ps who gs k js,∀ x∈s.pl,0<=x/\x < ps.length
  | 0,js,_,s,hs=>by cases hs
  | k+1,js,hj,s,hs=>by
    unfold cJ at hs;split at hs
    · cases hs
    · rcases List.mem_cons.mp hs with rfl | z
      · exact (wM hj).inn
      · exact rY k _ (hj.filter _) s z
theorem rX {ps:List P4} (G:Gr ps) {gs:List Int} (hg:cB ps.length gs) (hw:iZ ps (ids ps.length)) {who:Int} {c:Addr} :
    cZ c [gD ps,.int who,.tuple (gs.map .int)]=.ok (.tuple [oT (i7 (fun _=>none) (cJ ps who gs ps.length (ids ps.length))) ps.length,oT (qU (fun _=>none) (cJ ps who gs ps.length (ids ps.length))) ps.length]):=by
  have hp:=G.hp;obtain ⟨c5,e⟩:=Bt G hg (who:=who) (c:=c) ps.length 1000000 (ids ps.length) [] .non (cB.ids _) hw (by rw [iJ];exact Nat.le_refl _) (by omega) (by simp;omega);rw [List.nil_append] at e;have h1:=hg.some;have h2:=oX (ps:=ps) (by omega);have h3:=Fc (ps:=ps) (by omega) (c:=c) (rY (gs:=gs) (who:=who) ps.length (ids ps.length) (cB.ids _));have hlen:dl (gD ps)=.ok (.int ps.length):=by simp
  unfold cZ qd;refine eA ?_;rw [show ([gD ps,.int who,.tuple (gs.map .int)].map bt.val++List.replicate (6 - [gD ps,.int who,.tuple (gs.map .int)].length) bt.non)=[.val (gD ps),.val (.int who),.val (.tuple (gs.map .int)),.non,.non,.non] from rfl];rw [aR (ρ':=[.val (gD ps),.val (.int who),.val (.tuple (gs.map .int)),.non,.non,.non]) (by
    simp only [gw,oF,dY,bj,aI,aV,bZ,ar,ay,R.ok_bind,hlen,h1,ez];rfl)]
  rw [aR (ρ':=[.val (gD ps),.val (.int who),.val (.tuple (gs.map .int)),.own (.list []),.non,.non]) (by rfl)];rw [aR (ρ':=gR ps c who gs [] (ids ps.length) .non) (by
    simp only [bG,bj,aI,aV,ar,R.ok_bind,h2];rfl)]
  rw [aR (ρ':=gR ps c who gs (cJ ps who gs ps.length (ids ps.length)) [] c5) (by
    rw [fI];show lc (dO (tE (e2 (ge uJ) (e1 dl (ag 4)) (eC (.int 0)))) (vz c) 1000000 _)=_;rw [e];rfl)]
  unfold Fz;show cD _ (((gR ps c who gs (cJ ps who gs ps.length (ids ps.length)) [] c5)).set 3 (.val (.list ((cJ ps who gs ps.length (ids ps.length)).map (jC c ps.length)))))=_;simp only [List.set_cons_succ,List.set_cons_zero,cK,bj,aI,aV,ar,ay,R.ok_bind,h3]
structure fZ (ps:List P4) (who:Int) (gs js:List Int) (l:List Sh) (win:Int->Int) (mv:Int->Option Int) (φ ψ:Int->Int):Prop where
  wins:∀ f i,i7 f l i=if i∈js then some (win i) else f i
  mvs:∀ m i,(i∈js->m i=none)->qU m l i=if i∈js then mv i else m i
  two:∀ i∈js,win i=who\/win i=1-who
  has:∀ i∈js,az ps i=win i->∃ g,mv i=some g/\g∈bg ps i
  non:∀ i∈js,az ps i≠win i->mv i=none
  stay:∀ i∈js,∀ g,Wy ps js (win i) mv i g->g∈js/\win g=win i
  mine:∀ i∈js,win i=who->i∉gs->∀ g,Wy ps js who mv i g->φ g < φ i
  nn:∀ i∈js,win i=1-who->0<=ψ i
  oth:∀ i∈js,win i=1-who->∀ g,Wy ps js (1-who) mv i g->ψ g<=ψ i/\(i∈gs->ψ g < ψ i)
theorem nz {ps:List P4} {who:Int} (h01:who=0\/who=1) {gs:List Int} (hg:cB ps.length gs):∀ (k:Nat) (js:List Int),cB ps.length js->iZ ps js->js.length<=k->(∀ i∈js,az ps i=0\/az ps i=1) ->
    ∃ win mv φ ψ,fZ ps who gs js (cJ ps who gs k js) win mv φ ψ
  | k,[],_,_,_,_=>by
    have:cJ ps who gs k []=[]:=by cases k <;> rfl
    rw [this];refine ⟨fun _=>0,fun _=>none,fun _=>0,fun _=>0,⟨fun f i=>by simp [i7],fun m i _=>by simp [qU],?_,?_,?_,?_,?_,?_,?_⟩⟩ <;> intro i hi <;> cases hi
  | 0,j::js,_,_,hk,_=>by simp at hk
  | k+1,j0::js0,hj,hw,hk,hown=>by
    obtain ⟨js,ejs⟩:∃ js,js=j0::js0:=⟨_,rfl⟩
    have hne:js≠[]:=by rw [ejs];simp
    rw [<- ejs] at hj hw hk hown ⊢;rw [show cJ ps who gs (k+1) js=bw ps js who gs::cJ ps who gs k (fy js (bw ps js who gs).pl) from if_neg hne];have A:=qA (who:=who) hj hg;by_cases ha:cx ps js who gs=[]
    · have hs:bw ps js who gs=⟨who,js,ci (gS ps who (rK ps js who (bf gs js))) (cb ps who js)⟩:=if_pos ha;have hr:fy js (bw ps js who gs).pl=[]:=by rw [hs];exact om js
      have hl:cJ ps who gs k []=[]:=by cases k <;> rfl
      rw [hr,hl,hs];have hrk:∀ i∈js,∃ q,rK ps js who (bf gs js) i=some q:=fun i hi=>by
        cases h:rK ps js who (bf gs js) i with
        | some q=>exact ⟨q,rfl⟩
        | none =>
          have:=(k9 (gs:=gs) (who:=who) hj).mpr ⟨hi,h⟩;rw [ha] at this;cases this
      have own:∀ i∈js,az ps i=who->∃ q g,rK ps js who (bf gs js) i=some q/\ci (gS ps who (rK ps js who (bf gs js))) (cb ps who js) i=some g/\g∈bg ps i/\((0 < q/\g∈js/\rK ps js who (bf gs js) g=some (q-1))\/(q=0/\g∈js)):=fun i hi ho=>by
        obtain ⟨q,hq⟩:=hrk i hi;obtain ⟨g,g1,g2,g3⟩:=sd A (part:=js) hq ho fun _=>⟨hi,hw i hi⟩
        exact ⟨q,g,hq,g1,g2,g3⟩
      have nom:∀ i,(i∉js\/az ps i≠who)->ci (gS ps who (rK ps js who (bf gs js))) (cb ps who js) i=none:=fun i hi=>by
        unfold ci;rw [kG hi,lb]
        · rfl
        · rcases hi with hi | hi
          · right;left;cases h:rK ps js who (bf gs js) i with
            | none=>rfl
            | some q=>exact (hi (A.sub i q h)).elim
          · exact .inl hi
      refine ⟨fun _=>who,ci (gS ps who (rK ps js who (bf gs js))) (cb ps who js),fun i=>(rK ps js who (bf gs js) i).getD 0,fun _=>0,⟨fun f i=>rfl,fun m i hm=>?_,fun i _=>.inl rfl,fun i hi ho=>?_,fun i _ ho=>nom i (.inr ho),fun i hi g hgw=>⟨?_,rfl⟩,fun i hi _ hgs g hgw=>?_,fun i _ _=>by simp,fun i _ h=>by omega⟩⟩
      · show ci m (ci (gS ps who (rK ps js who (bf gs js))) (cb ps who js)) i=_;by_cases hi:i∈js
        · rw [if_pos hi];show (m i).or _=_;rw [hm hi,Option.none_or]
        · rw [if_neg hi];show (m i).or _=_;rw [nom i (.inl hi),Option.or_none]
      · obtain ⟨q,g,_,g1,g2,_⟩:=own i hi ho;exact ⟨g,g1,g2⟩
      · rcases hgw with ⟨ho,hm⟩ | ⟨_,hm⟩
        · obtain ⟨q,g',_,g1,_,g3⟩:=own i hi ho;rw [g1] at hm;cases hm;rcases g3 with ⟨_,z,_⟩ | ⟨_,z⟩ <;> exact z
        · exact jE hm
      · have hpos:∀ q,rK ps js who (bf gs js) i=some q->0 < q:=fun q hq=>by
          have h0:=A.nneg i q hq;by_cases z:q=0
          · subst z;exact (hgs (List.mem_filter.mp ((A.zero i).mp hq)).1).elim
          · omega
        rcases hgw with ⟨ho,hm⟩ | ⟨ho,hm⟩
        · obtain ⟨q,g',hq,g1,_,g3⟩:=own i hi ho;rw [g1] at hm;cases hm;have:=hpos q hq;rcases g3 with ⟨_,_,z⟩ | ⟨z,_⟩
          · show (rK ps js who (bf gs js) g).getD 0 < (rK ps js who (bf gs js) i).getD 0;rw [hq,z];show q-1 < q;omega
          · omega
        · obtain ⟨q,hq⟩:=hrk i hi;obtain ⟨t,t1,t2⟩:=(A.oth i q hq (hpos q hq) ho).2 g hm;show (rK ps js who (bf gs js) g).getD 0 < (rK ps js who (bf gs js) i).getD 0;rw [hq,t1];exact t2
    · -- the other one's share
      have hs:bw ps js who gs=⟨1-who,eP (rK ps js (1-who) (cx ps js who gs)) ps.length,ci (gS ps (1-who) (rK ps js (1-who) (cx ps js who gs))) (cb ps (1-who) (cx ps js who gs))⟩:=if_neg ha;have hless:=lT (gs:=gs) (who:=who) hj hne;have hrw:=lU (gs:=gs) (who:=who) hj hw;rw [hs] at hless hrw ⊢;have B:=jJ (gs:=gs) (who:=who) hj;obtain ⟨rk,erk⟩:∃ rk,rk=rK ps js (1-who) (cx ps js who gs):=⟨_,rfl⟩
      obtain ⟨aw,eaw⟩:∃ aw,aw=cx ps js who gs:=⟨_,rfl⟩
      have maw:∀ i,i∈aw<->i∈js/\rK ps js who (bf gs js) i=none:=fun i=>by rw [eaw];exact k9 hj
      have waw:∀ i∈aw,az ps i≠who->∃ g,g∈bP ps aw i:=fun i hi ho=>by rw [eaw] at hi ⊢;exact pb hj hg hw hi ho
      rw [<- eaw] at B hless hrw erk ⊢;rw [<- erk] at B hless hrw ⊢;have hle:∀ i q,rk i=some q->q<=ps.length:=fun i q h=>by rw [erk] at h;exact Ez hj.len h
      have memP:∀ i,i∈eP rk ps.length<->∃ q,rk i=some q:=fun i=>by
        rw [eW];exact ⟨fun h=>h.2,fun ⟨q,hq⟩=>⟨hj.inn i (B.sub i q hq),q,hq⟩⟩
      obtain ⟨js',ejs'⟩:∃ js',js'=fy js (eP rk ps.length):=⟨_,rfl⟩
      have mem':∀ i,i∈js'<->i∈js/\rk i=none:=fun i=>by
        rw [ejs',hU,memP];constructor
        · rintro ⟨h1,h2⟩;refine ⟨h1,?_⟩;cases h:rk i with
          | none=>rfl
          | some q=>exact (h2 ⟨q,h⟩).elim
        · rintro ⟨h1,h2⟩;exact ⟨h1,fun ⟨q,hq⟩=>by rw [h2] at hq;cases hq⟩
      have hless':js'.length < js.length:=by rw [ejs'];exact hless
      obtain ⟨win,mv,φ,ψ,I⟩:=nz h01 hg k js' (by rw [ejs'];exact hj.filter _) (by rw [ejs'];exact hrw) (by omega) fun i hi=>hown i ((mem' i).mp hi).1
      rw [ejs'] at I;rw [<- ejs'] at I;have nom:∀ i,rk i=none->ci (gS ps (1-who) rk) (cb ps (1-who) aw) i=none:=fun i hi=>by
        unfold ci;rw [lb (.inr (.inl hi)),kG]
        · rfl
        · left;intro z;have:=(B.zero i).mpr z;rw [hi] at this;cases this
      have awP:∀ i∈aw,rk i=some 0:=fun i hi=>(B.zero i).mpr hi
      have own:∀ i q,rk i=some q->az ps i=1-who->∃ g,ci (gS ps (1-who) rk) (cb ps (1-who) aw) i=some g/\g∈bg ps i/\((0 < q/\g∈js/\rk g=some (q-1))\/(q=0/\g∈aw)):=fun i q hq ho =>
        sd B (part:=aw) hq ho fun h0=>by
          have hi:i∈aw:=(B.zero i).mp (by rw [hq,h0]);exact ⟨hi,waw i hi (by omega)⟩
      -- from a place of the share
      have goP:∀ i q g,rk i=some q->Wy ps js (1-who) (ci (gS ps (1-who) rk) (cb ps (1-who) aw)) i g->∃ t,rk g=some t/\t<=q/\(i∈gs->t < q):=fun i q g hq hgw=>by
        have hi:=B.sub i q hq;have hgs0:q=0->i∉gs:=fun h0 z=>by
          have hi':i∈aw:=(B.zero i).mp (by rw [hq,h0]);have h1:=((maw i).mp hi').2;have:=(A.zero i).mpr (List.mem_filter.mpr ⟨z,bW.mpr hi⟩);rw [h1] at this;cases this
        have hq0:=B.nneg i q hq;rcases hgw with ⟨ho,hm⟩ | ⟨ho,hm⟩
        · obtain ⟨g',g1,_,g3⟩:=own i q hq ho;rw [g1] at hm;cases hm;rcases g3 with ⟨z1,_,z2⟩ | ⟨z1,z2⟩
          · exact ⟨q-1,z2,by omega,fun _=>by omega⟩
          · exact ⟨0,awP g z2,by omega,fun z=>(hgs0 z1 z).elim⟩
        · by_cases hp:0 < q
          · obtain ⟨t,t1,t2⟩:=(B.oth i q hq hp ho).2 g hm;exact ⟨t,t1,by omega,fun _=>t2⟩
          · have h0:q=0:=by omega
            have hi':i∈aw:=(B.zero i).mp (by rw [hq,h0]);have how:az ps i=who:=by have:=hown i hi;omega
            have:=A.outO i hi ((maw i).mp hi').2 how g hm;exact ⟨0,awP g ((maw g).mpr ⟨jE hm,this⟩),by omega,fun z=>(hgs0 h0 z).elim⟩
      have hPs:∀ {i q},rk i=some q->i∈js/\i∉js':=fun {i q} hq=>⟨B.sub i q hq,fun z=>by have:=((mem' i).mp z).2;rw [hq] at this;cases this⟩
      -- from a place that is left
      have goR:∀ i g,i∈js'->Wy ps js (win i) mv i g->(g∈js'/\Wy ps js' (win i) mv i g)\/(win i=1-who/\∃ t,rk g=some t):=fun i g hi hgw=>by
        obtain ⟨hi1,hi2⟩:=(mem' i).mp hi;rcases hgw with ⟨ho,hm⟩ | ⟨ho,hm⟩
        · have w:Wy ps js' (win i) mv i g:=.inl ⟨ho,hm⟩;exact .inl ⟨(I.stay i hi g w).1,w⟩
        · cases hr:rk g with
          | none =>
            have hg':g∈js':=(mem' g).mpr ⟨jE hm,hr⟩;exact .inl ⟨hg',.inr ⟨ho,mR (lQ hm) hg'⟩⟩
          | some t =>
            right;refine ⟨?_,t,rfl⟩;rcases I.two i hi with z | z
            · have how:az ps i=1-who:=by have:=hown i hi1;omega
              have:=B.outO i hi1 hi2 how g hm;rw [hr] at this;cases this
            · exact z
      have wcongr:∀ {i g} {m1 m2:Int->Option Int} {w:Int} {K:List Int},m1 i=m2 i->Wy ps K w m1 i g->Wy ps K w m2 i g:=fun e h=>by
        rcases h with ⟨a,b⟩ | h
        · exact .inl ⟨a,by rw [<- e];exact b⟩
        · exact .inr h
      refine ⟨fun i=>if (rk i).isSome then 1-who else win i,fun i=>if (rk i).isSome then ci (gS ps (1-who) rk) (cb ps (1-who) aw) i else mv i,φ,fun i=>match rk i with | some q=>q | none=>ψ i+(ps.length+1),?_⟩;have atP:∀ {i q},rk i=some q->(if (rk i).isSome then (1-who:Int) else win i)=1-who:=fun h=>by rw [h];rfl
      have atR:∀ {i},rk i=none->(if (rk i).isSome then (1-who:Int) else win i)=win i:=fun h=>by rw [h];rfl
      have mtP:∀ {i q},rk i=some q->(if (rk i).isSome then ci (gS ps (1-who) rk) (cb ps (1-who) aw) i else mv i)=ci (gS ps (1-who) rk) (cb ps (1-who) aw) i:=fun h=>by rw [h];rfl
      have mtR:∀ {i},rk i=none->(if (rk i).isSome then ci (gS ps (1-who) rk) (cb ps (1-who) aw) i else mv i)=mv i:=fun h=>by rw [h];rfl
      refine ⟨fun f i=>?_,fun m i hm=>?_,fun i hi=>?_,fun i hi ho=>?_,fun i hi ho=>?_,fun i hi g hgw=>?_,fun i hi hwi hgs g hgw=>?_,fun i hi hwi=>?_,fun i hi hwi g hgw=>?_⟩
      · show i7 (zF ⟨1-who,eP rk ps.length,ci (gS ps (1-who) rk) (cb ps (1-who) aw)⟩ f) (cJ ps who gs k (fy js (eP rk ps.length))) i=_;rw [<- ejs',I.wins];cases hr:rk i with
        | some q =>
          rw [if_neg (hPs hr).2,if_pos (hPs hr).1];show (if i∈eP rk ps.length then some (1-who) else f i)=_;rw [if_pos ((memP i).mpr ⟨q,hr⟩)];rfl
        | none =>
          by_cases hi:i∈js
          · rw [if_pos ((mem' i).mpr ⟨hi,hr⟩),if_pos hi];rfl
          · rw [if_neg fun z=>hi ((mem' i).mp z).1,if_neg hi];show (if i∈eP rk ps.length then some (1-who) else f i)=_;rw [if_neg fun z=>by obtain ⟨q,hq⟩:=(memP i).mp z;rw [hr] at hq;cases hq]
      · show qU (ci m (ci (gS ps (1-who) rk) (cb ps (1-who) aw))) (cJ ps who gs k (fy js (eP rk ps.length))) i=_;rw [<- ejs',I.mvs (ci m (ci (gS ps (1-who) rk) (cb ps (1-who) aw))) i fun z=>by
          obtain ⟨z1,z2⟩:=(mem' i).mp z;show (m i).or _=none;rw [hm z1,Option.none_or,nom i z2]]
        cases hr:rk i with
        | some q =>
          rw [if_neg (hPs hr).2,if_pos (hPs hr).1];show (m i).or _=_;rw [hm (hPs hr).1,Option.none_or];rfl
        | none =>
          by_cases hi:i∈js
          · rw [if_pos ((mem' i).mpr ⟨hi,hr⟩),if_pos hi];rfl
          · rw [if_neg fun z=>hi ((mem' i).mp z).1,if_neg hi];show (m i).or _=_;rw [nom i hr,Option.or_none]
      · cases hr:rk i with
        | some q=>exact .inr rfl
        | none=>exact I.two i ((mem' i).mpr ⟨hi,hr⟩)
      · cases hr:rk i with
        | some q =>
          have ho':az ps i=1-who:=ho.trans (atP hr);obtain ⟨g,g1,g2,_⟩:=own i q hr ho';exact ⟨g,g1,g2⟩
        | none=>exact I.has i ((mem' i).mpr ⟨hi,hr⟩) (ho.trans (atR hr))
      · cases hr:rk i with
        | some q =>
          have ho':az ps i≠1-who:=fun z=>ho (z.trans (atP hr).symm)
          show ci _ _ i=none;unfold ci;rw [lb (.inl ho'),kG (.inr ho')];rfl
        | none=>exact I.non i ((mem' i).mpr ⟨hi,hr⟩) fun z=>ho (z.trans (atR hr).symm)
      · cases hr:rk i with
        | some q =>
          rw [atP hr] at hgw;obtain ⟨t,t1,_⟩:=goP i q g hr (wcongr (mtP hr) hgw);refine ⟨(hPs t1).1,?_⟩;rw [atP t1];rfl
        | none =>
          have hi':=(mem' i).mpr ⟨hi,hr⟩;rw [atR hr] at hgw;rcases goR i g hi' (wcongr (mtR hr) hgw) with ⟨z1,z2⟩ | ⟨z1,t,z2⟩
          · obtain ⟨y1,y2⟩:=(mem' g).mp z1;refine ⟨y1,?_⟩;rw [atR y2];exact (I.stay i hi' g z2).2
          · refine ⟨(hPs z2).1,?_⟩;rw [atP z2];exact z1.symm
      · cases hr:rk i with
        | some q=>rw [atP hr] at hwi;omega
        | none =>
          have hi':=(mem' i).mpr ⟨hi,hr⟩;rw [atR hr] at hwi;rcases goR i g hi' (by rw [hwi];exact wcongr (mtR hr) hgw) with ⟨z1,z2⟩ | ⟨z1,_⟩
          · rw [hwi] at z2;exact I.mine i hi' hwi hgs g z2
          · omega
      · cases hr:rk i with
        | some q=>exact B.nneg i q hr
        | none =>
          have:=I.nn i ((mem' i).mpr ⟨hi,hr⟩) ((atR hr).symm.trans hwi);show 0<=ψ i+_;omega
      · cases hr:rk i with
        | some q =>
          obtain ⟨t,t1,t2,t3⟩:=goP i q g hr (wcongr (mtP hr) hgw);show (match rk g with | some q=>q | none=>_)<=q/\(i∈gs->(match rk g with | some q=>q | none=>_) < q)
          rw [t1];exact ⟨t2,t3⟩
        | none =>
          have hi':=(mem' i).mpr ⟨hi,hr⟩;rw [atR hr] at hwi;show (match rk g with | some q=>q | none=>ψ g+(ps.length+1))<=ψ i+(ps.length+1)/\(i∈gs->(match rk g with | some q=>q | none=>ψ g+(ps.length+1)) < ψ i+(ps.length+1))
          rcases goR i g hi' (by rw [hwi];exact wcongr (mtR hr) hgw) with ⟨z1,z2⟩ | ⟨_,t,z2⟩
          · rw [hwi] at z2;obtain ⟨y1,y2⟩:=I.oth i hi' hwi g z2;rw [((mem' g).mp z1).2];exact ⟨by show ψ g+_<=_;omega,fun z=>by have:=y2 z;show ψ g+_ < _;omega⟩
          · rw [z2];have h1:=hle g t z2;have h2:=I.nn i hi' hwi;exact ⟨by show t<=_;omega,fun _=>by show t < _;omega⟩
inductive oS (E:Int->Int->Prop) (al:Int->Prop) (s:Int):Int->Prop
  | one {x:Int}:E s x->al x->oS E al s x
  | more {x y:Int}:oS E al s x->E x y->al y->oS E al s y
theorem oS.al {E:Int->Int->Prop} {al:Int->Prop} {s x:Int} (h:oS E al s x):al x:=by cases h <;> assumption
theorem oS.imp {E E':Int->Int->Prop} {al al':Int->Prop} {s t:Int} (h:oS E al s t) (h1:∀ y,E s y->al y->E' s y/\al' y) (h2:∀ x y,al x->E x y->al y->E' x y/\al' y):oS E' al' s t:=by
  induction h with
  | one a b=>exact .one (h1 _ a b).1 (h1 _ a b).2
  | more r a b ih=>exact .more ih (h2 _ _ r.al a b).1 (h2 _ _ r.al a b).2
theorem oS.less {E:Int->Int->Prop} {al:Int->Prop} {s t:Int} {φ:Int->Int} (h:oS E al s t) (h1:∀ y,E s y->al y->φ y < φ s) (h2:∀ x y,al x->E x y->al y->φ y<=φ x):φ t < φ s:=by
  induction h with
  | one a b=>exact h1 _ a b
  | more r a b ih =>
    have:=h2 _ _ r.al a b;omega
noncomputable def CC (ps:List P4) (i:Int):PyData:=(ps[i.toNat]?.map P4.d).getD .none
theorem yl (ps:List P4):ps.map P4.d=cf (CC ps) ps.length:=by
  refine List.ext_getElem (by rw [List.length_map,bz]) fun k h1 h2=>?_
  rw [bz] at h2;have e:=fJ (f:=CC ps) (n:=ps.length) (i:=(k:Int)) (by omega) (by omega);simp only [Int.toNat_natCast] at e;rw [e,List.getElem_map];unfold CC;rw [List.getElem?_eq_getElem (by omega)];simp
noncomputable def Cl (nx:Int->Int) (s:Int):Nat->Int
  | 0=>s
  | k+1=>nx (Cl nx s k)
theorem Eh {n:Nat} {S:Int->Prop} {nx:Int->Int} (hS:∀ x,S x->x∈ids n) (hn:∀ x,S x->S (nx x)) {s:Int} (hs:S s):∃ x,S x/\oS (fun a b=>b=nx a) S x x:=by
  have all:∀ k,S (Cl nx s k):=fun k=>by
    induction k with
    | zero=>exact hs
    | succ k ih=>exact hn _ ih
  have path:∀ p d,oS (fun a b=>b=nx a) S (Cl nx s p) (Cl nx s (p+d+1)):=fun p d=>by
    induction d with
    | zero=>exact .one rfl (all (p+1))
    | succ d ih=>exact .more ih rfl (all (p+d+1+1))
  by_cases h:∃ p q,p < q/\q<=n/\Cl nx s p=Cl nx s q
  · obtain ⟨p,q,hpq,_,e⟩:=h;have:=path p (q-p-1);rw [show p+(q-p-1)+1=q by omega,<- e] at this;exact ⟨_,all p,this⟩
  · exfalso;have nd:((List.range (n+1)).map (Cl nx s)).Nodup:=by
      unfold List.Nodup;rw [List.pairwise_map];exact List.Pairwise.imp_of_mem (fun {a b} _ hb hab e=>h ⟨a,b,hab,by have:=List.mem_range.mp hb;omega,e⟩) List.pairwise_lt_range
    have:=jN nd (m:=ids n) fun x hx=>by
      obtain ⟨k,_,rfl⟩:=List.mem_map.mp hx;exact hS _ (all k)
    rw [List.length_map,List.length_range,iJ] at this;omega
theorem oS.le {E:Int->Int->Prop} {al:Int->Prop} {s t:Int} {ψ:Int->Int} (h:oS E al s t) (h1:∀ a b,(a=s\/al a)->E a b->al b->ψ b<=ψ a):ψ t<=ψ s:=by
  induction h with
  | one a b=>exact h1 _ _ (.inl rfl) a b
  | more r a b ih =>
    have:=h1 _ _ (.inr r.al) a b;omega
theorem Ca {E:Int->Int->Prop} {al:Int->Prop} {gs:List Int} {s t:Int} {ψ:Int->Int} (h:oS E al s t) (h1:∀ a b,(a=s\/al a)->E a b->al b->ψ b<=ψ a/\(a∈gs->ψ b < ψ a)):ψ t < ψ s\/oS (fun a b=>E a b/\a∉gs) al s t:=by
  induction h with
  | one a b =>
    by_cases z:s∈gs
    · exact .inl ((h1 _ _ (.inl rfl) a b).2 z)
    · exact .inr (.one ⟨a,z⟩ b)
  | more r a b ih =>
    rename_i x y;obtain ⟨l1,l2⟩:=h1 _ _ (.inr r.al) a b;have l3:=r.le fun a b c d e=>(h1 a b c d e).1
    rcases ih with z | z
    · exact .inl (by omega)
    · by_cases y1:x∈gs
      · have:=l2 y1;exact .inl (by omega)
      · exact .inr (.more z ⟨a,y1⟩ b)
theorem vP {E:Int->Int->Prop} {al:Int->Prop} {gs:List Int} {s t:Int} (h:oS (fun a b=>E a b/\a∉gs) al s t) (ht:t∉gs):oS E (fun x=>al x/\x∉gs) s t:=by
  induction h with
  | one a b=>exact .one a.1 ⟨b,ht⟩
  | more r a b ih=>exact .more (ih a.2) a.1 ⟨b,ht⟩
theorem v4 {E:Int->Int->Prop} {al:Int->Prop} {gs:List Int} {s t:Int} (h:oS (fun a b=>E a b/\a∉gs) al s t):s∉gs:=by
  induction h with
  | one a b=>exact a.2
  | more _ _ _ ih=>exact ih
structure St where
  g:Int
  st:List Int
noncomputable def St.d (s:St):PyData:=.tuple [.int s.g,.tuple (s.st.map .int)]
noncomputable abbrev wD (ss:List St):PyData:=.tuple (ss.map St.d)
structure Wt (ss:List St):Prop where
  g0:∀ s∈ss,0<=s.g/\s.g<=1
  l:∀ s∈ss,s.st.length=13
  inn:∀ s∈ss,∀ x∈s.st,0<=x/\x < ss.length
  n0:1<=ss.length
  n1:ss.length<=6
noncomputable def oA (c:Int):PyData->Bool
  | .tuple ds=>decide (ds.length=13)&&ds.all fun d=>tG d 0 (c-1)
  | _=>false
noncomputable def iY (c:Int):PyData->Bool
  | .tuple [g,s]=>tG g 0 1&&oA c s
  | _=>false
noncomputable def zE:PyData->Bool
  | .tuple ds=>(decide (1<=ds.length)&&decide (ds.length<=6))&&ds.all (iY ds.length)
  | _=>false
noncomputable def gV (a b:Int):PyData->Bool
  | .tuple ds=>decide (a<=ds.length)&&decide ((ds.length:Int)<=b)
  | _=>false
theorem gJ {d:PyData} (h:noD d) (a b:Int):aB [d,.int a,.int b]=.ok (.bool (gV a b d)):=by
  unfold aB gK;rw [eG];cases d with
  | tuple ds =>
    by_cases h1:a<=ds.length <;> simp [lH,Ck,h1,gV]
  | dict k=>cases h
  | _=>simp [lH,Ck,gV]
theorem qw {d:PyData} (hg:gc d) (c:Int):da [d,.int c]=.ok (.bool (oA c d)):=by
  unfold da jb;rw [eG];have ht:=gJ hg.noD 13 13;cases d with
  | tuple ds =>
    have h:=fE.mp hg;have s13:13<=sizeLine:=by decide
    by_cases hl:ds.length=13
    · have hb:gV 13 13 (.tuple ds)=true:=by simp [gV];omega
      have hc:bC (aQ 0) (fun _=>.ok true) (aD aJ (ah (ag 0) (ah (eC (.int 0)) (ah (e2 km (ag 1) (eC (.int 1))) aH)))) (ax 1 [1] [.val (.tuple ds),.val (.int c)]) ds=.ok (ds.map fun d=>.bool (tG d 0 (c-1))) :=
        ej _ _ _ _ _ fun d hd=>by simp [ax,List.replicate,iE (h d hd).noD]
      simp [ht,hb,bp,s13,hc,si,mF,oA,hl]
    · have hb:gV 13 13 (.tuple ds)=false:=by simp [gV];omega
      simp [ht,hb,oA,hl]
  | dict k=>exact hg.noD.elim
  | _=>simp [ht,gV,oA]
theorem sG {d:PyData} (hg:gc d) (c:Int):dh [d,.int c]=.ok (.bool (iY c d)):=by
  unfold dh ke;rw [eG];have ht:=gJ hg.noD 2 2;cases d with
  | tuple ds =>
    match ds,hg,ht with
    | [g,s],hg,ht =>
      have h:=fE.mp hg;have i0:bK (.tuple [g,s]) (.int 0)=.ok g:=rfl;have i1:bK (.tuple [g,s]) (.int 1)=.ok s:=rfl;have hb:gV 2 2 (.tuple [g,s])=true:=rfl;simp [ht,hb,i0,i1,iE (h g (by simp)).noD,qw (h s (by simp)),iY];cases tG g 0 1 <;> simp
    | [],_,ht=>simp [ht,gV,iY]
    | [a],_,ht=>simp [ht,gV,iY]
    | a::b::e::r,_,ht =>
      have hb:gV 2 2 (.tuple (a::b::e::r))=false:=by simp [gV];omega
      simp [ht,hb,iY]
  | dict k=>exact hg.noD.elim
  | _=>simp [ht,gV,iY]
theorem o1 {d:PyData} (hg:gc d):cH [d]=.ok (.bool (zE d)):=by
  unfold cH ir;rw [eG];have ht:=gJ hg.noD 1 6;cases d with
  | tuple ds =>
    have h:=fE.mp hg;by_cases hl:1<=ds.length/\ds.length<=6
    · have hb:gV 1 6 (.tuple ds)=true:=by simp [gV];omega
      have hc:bC (aQ 0) (fun _=>.ok true) (aD dh (ah (ag 0) (ah (e1 dl (ag 1)) aH))) (ax 1 [0] [.val (.tuple ds)]) ds=.ok (ds.map fun d=>.bool (iY ds.length d)) :=
        ej _ _ _ _ _ fun d hd=>by simp [ax,List.replicate,sG (h d hd)]
      simp [ht,hb,bp,bS (show ds.length<=1000 by omega),hc,si,mF,zE,hl.1,hl.2]
    · have hb:gV 1 6 (.tuple ds)=false:=by
        simp [gV];omega
      have hw:zE (.tuple ds)=false:=by
        show ((decide (1<=ds.length)&&decide (ds.length<=6))&&_)=false;by_cases h1:1<=ds.length
        · rw [decide_eq_false (show ¬ ds.length<=6 by omega)];simp
        · rw [decide_eq_false h1];simp
      simp [ht,hb,hw]
  | dict k=>exact hg.noD.elim
  | _=>simp [ht,gV,zE]
theorem vm {i lo hi:Int} (h0:lo<=i) (h1:i<=hi):tG (.int i) lo hi=true:=by simp [tG,h0,h1]
theorem Wt.wat {ss:List St} (W:Wt ss):zE (wD ss)=true:=by
  show ((decide (1<=(ss.map St.d).length)&&decide ((ss.map St.d).length<=6))&&(ss.map St.d).all (iY (ss.map St.d).length))=true;rw [List.length_map,decide_eq_true W.n0,decide_eq_true W.n1,Bool.true_and,Bool.true_and,List.all_map,List.all_eq_true];intro s hs;have hb:=W.g0 s hs;show (tG (.int s.g) 0 1&&(decide ((s.st.map PyData.int).length=13)&&(s.st.map PyData.int).all fun d=>tG d 0 ((ss.length:Int)-1)))=true;rw [vm hb.1 hb.2,List.length_map,decide_eq_true (W.l s hs),Bool.true_and,Bool.true_and,List.all_map,List.all_eq_true];intro x hx;have:=W.inn s hs x hx;exact vm this.1 (by omega)
theorem St.nice {s:St} (h:0<=s.g/\s.g<=1) (hl:s.st.length=13) (hi:∀ x∈s.st,0<=x/\x < 6):rD s.d:=by
  refine .tuple _ (by simp) fun x hx=>?_
  simp at hx;rcases hx with rfl | rfl
  · exact .int _ (by omega) (by omega)
  · refine .tuple _ (by simp;omega) fun x hx=>?_
    obtain ⟨i,hm,rfl⟩:=List.mem_map.mp hx;have:=hi i hm;exact .int _ (by omega) (by omega)
theorem Wt.nice {ss:List St} (W:Wt ss):rD (wD ss):=by
  have:=W.n1;refine .tuple _ (by simp;omega) fun x hx=>?_
  obtain ⟨s,hs,rfl⟩:=List.mem_map.mp hx;exact St.nice (W.g0 s hs) (W.l s hs) fun x hx=>by have:=W.inn s hs x hx;omega
theorem Wt.good {ss:List St} (W:Wt ss):gc (wD ss):=W.nice.good
theorem uX (s:St):bK s.d (.int 1)=.ok (.tuple (s.st.map .int)):=rfl
theorem Dh (s:St):bK s.d (.int 0)=.ok (.int s.g):=rfl
noncomputable def bQ (ss:List St) (i m:Int):Int:=((ss[i.toNat]?.map (·.st)).getD []).getD m.toNat 0
theorem zC {ss:List St} {i:Int} (h0:0<=i) (h1:i < ss.length):bK (wD ss) (.int i)=.ok (ss[i.toNat]'(by omega)).d:=by
  rw [sk h0 (by simpa using h1)];simp
theorem oz {ss:List St} {i m:Int} (h0:0<=i) (h1:i < ss.length):bQ ss i m=(ss[i.toNat]'(by omega)).st.getD m.toNat 0:=by
  unfold bQ;rw [List.getElem?_eq_getElem (by omega)];rfl
theorem qQ {xs:List Int} {m:Int} (h0:0<=m) (h1:m < xs.length):bK (.tuple (xs.map .int)) (.int m)=.ok (.int (xs.getD m.toNat 0)):=by
  rw [sk h0 (by simpa using h1)];simp [List.getD,List.getElem?_eq_getElem (show m.toNat < xs.length by omega)]
theorem Wt.ix {ss:List St} (W:Wt ss) {i m:Int} (h0:0<=i) (h1:i < ss.length) (m0:0<=m) (m1:m < 13) :
    ∃ s:St,bK (wD ss) (.int i)=.ok s.d/\bK (.tuple (s.st.map .int)) (.int m)=.ok (.int (bQ ss i m)):=by
  have hl:=W.l _ (List.getElem_mem (show i.toNat < ss.length by omega));exact ⟨_,zC h0 h1,by rw [qQ m0 (by omega),oz h0 h1]⟩
theorem Wt.step {ss:List St} (W:Wt ss) {i m:Int} (h0:0<=i) (h1:i < ss.length) (m0:0<=m) (m1:m < 13):0<=bQ ss i m/\bQ ss i m < ss.length:=by
  have hm:=List.getElem_mem (show i.toNat < ss.length by omega);have hl:=W.l _ hm;rw [oz h0 h1];refine W.inn _ hm _ ?_;rw [List.getD,List.getElem?_eq_getElem (show m.toNat < (ss[i.toNat]'(by omega)).st.length by omega)];exact List.getElem_mem _
noncomputable def dF (g:List Int) (k:Int):List Int:=(ids 13).map fun m=>if cy g m then k+1 else k
theorem tm (g:List Int) (k:Int):dj [.tuple (g.map .int),.int k]=.ok (.tuple ((dF g k).map .int)):=by
  unfold dj kh;rw [eG];have hr:lh [.int 13]=.ok (bL 0 13):=rfl;have hc:=oh (fun m=>.int (if cy g m then k+1 else k)) (ax 1 [0,1] [.val (.tuple (g.map .int)),.val (.int k)]) (zN (tE (e2 (qK false) (ag 0) (ag 1))) (e2 eN (ag 2) (eC (.int 1))) (ag 2)) 13 fun i _ _=>by
    cases hm:cy g i <;> simp [ax,List.replicate,Ch,hm]
  have s13:(13:Nat)<=sizeLine:=by decide
  have e:cf (fun m=>PyData.int (if cy g m then k+1 else k)) 13=(dF g k).map .int:=by
    unfold cf dF;rw [List.map_map];rfl
  rw [e] at hc;simp [bp,hr,fF,s13,hc]
noncomputable abbrev zO (gs:List (List Int)):PyData:=.tuple (gs.map fun g=>.tuple (g.map .int))
structure Gs (gs:List (List Int)):Prop where
  n0:1<=gs.length
  n1:gs.length<=5
  ok:∀ g∈gs,cB 13 g
noncomputable def jt:Nat->List (List Int)->List St
  | _,[]=>[]
  | k,g::gs=>⟨0,dF g k⟩::jt (k+1) gs
noncomputable def gQ (gs:List (List Int)):List St:=jt 0 gs++[⟨1,dF (gs.headD []) 0⟩]
theorem hV:∀ (k:Nat) (gs:List (List Int)),(jt k gs).length=gs.length
  | _,[]=>rfl
  | k,g::gs=>by simp [jt,hV (k+1) gs]
theorem qS (gs:List (List Int)):(gQ gs).length=gs.length+1:=by simp [gQ,hV]
theorem uY (g:List Int) (k:Int):(dF g k).length=13:=by simp [dF]
theorem uZ {g:List Int} {k x:Int} (h:x∈dF g k):x=k\/x=k+1:=by
  obtain ⟨m,_,rfl⟩:=List.mem_map.mp h;split
  · exact .inr rfl
  · exact .inl rfl
theorem sN:∀ (k:Nat) (gs:List (List Int)) (s:St),s∈jt k gs->s.g=0/\∃ j g,k<=j/\j < k+gs.length/\s.st=dF g (j:Nat)
  | k,[],s,h=>by cases h
  | k,g::gs,s,h=>by
    rcases List.mem_cons.mp h with rfl | h
    · exact ⟨rfl,k,g,Nat.le_refl _,by simp,rfl⟩
    · obtain ⟨h1,j,g',h2,h3,h4⟩:=sN (k+1) gs s h;exact ⟨h1,j,g',by omega,by rw [List.length_cons];omega,h4⟩
theorem qT {gs:List (List Int)} (h:Gs gs):Wt (gQ gs):=by
  have h0:=h.n0;have h1:=h.n1;have hm:∀ s∈gQ gs,(s.g=0\/s.g=1)/\∃ (j:Nat) (g:List Int),j < gs.length/\s.st=dF g j:=fun s hs=>by
    rcases List.mem_append.mp hs with z | z
    · obtain ⟨a,j,g,b,c,d⟩:=sN 0 gs s z;exact ⟨.inl a,j,g,by omega,d⟩
    · simp at z;subst z;exact ⟨.inr rfl,0,gs.headD [],by omega,by simp⟩
  refine ⟨fun s hs=>?_,fun s hs=>?_,fun s hs x hx=>?_,by rw [qS];omega,by rw [qS];omega⟩
  · rcases (hm s hs).1 with z | z <;> omega
  · obtain ⟨_,j,g,_,e⟩:=hm s hs;rw [e,uY]
  · obtain ⟨_,j,g,hj,e⟩:=hm s hs;rw [e] at hx;rw [qS];rcases uZ hx with z | z <;> omega
theorem vN:∀ (gs:List (List Int)) (k:Nat),bC (eV 0 1) (fun _=>.ok true) (k7 (ah (eC (.int 0)) (ah (aD dj (ah (ag 1) (ah (ag 0) aH))) aH))) [.non,.non] (cS k (gs.map fun g=>PyData.tuple (g.map .int)))=.ok ((jt k gs).map St.d)
  | [],k=>by simp [cS,dt,jt]
  | g::gs,k=>by
    have e:cS k ((g::gs).map fun g=>PyData.tuple (g.map .int))=.tuple [.int k,.tuple (g.map .int)]::cS (k+1) (gs.map fun g=>PyData.tuple (g.map .int)):=rfl;have s2:2<=sizeLine:=by decide
    rw [e,iF,vN gs (k+1)];simp [tm,s2,jt,St.d]
theorem gk (xs:List PyData):∀ k,(cS k xs).length=xs.length:=by
  induction xs with
  | nil=>intro k;rfl
  | cons x xs ih=>intro k;show (_::cS (k+1) xs).length=_;simp [ih]
theorem xr {n:Nat} {js:List Int} (h:cB n js):we n (.tuple (js.map .int))=true:=re n js 0 h.lt h.inn
theorem ka {gs:List (List Int)} (h:Gs gs):bR [zO gs]=.ok (wD (gQ gs)):=by
  have h0:=h.n0;have h1:=h.n1;have ht:=gJ (d:=zO gs) trivial 1 5;have hb:gV 1 5 (zO gs)=true:=by simp [gV];omega
  have hc:bC (aQ 0) (fun _=>.ok true) (aD bH (ah (ag 0) (ah (eC (.int 13)) aH))) [.non] (gs.map fun g=>PyData.tuple (g.map .int))=.ok ((gs.map fun g=>PyData.tuple (g.map .int)).map fun d=>.bool (we 13 d)) :=
    ej _ _ _ _ _ fun d hd=>by
      obtain ⟨g,hg,rfl⟩:=List.mem_map.mp hd;have hs:=lS 13 (d:=.tuple (g.map .int)) (fun ds e x hx=>((fE.mp (e ▸ wg g)) x hx).noD) (wg g).noD;simp [hs]
  have ha:D2.qv ((gs.map fun g=>PyData.tuple (g.map .int)).map fun d=>.bool (we 13 d))=some true:=by
    rw [mF];congr 1;rw [List.all_map,List.all_eq_true];intro g hg;exact xr (n:=13) (h.ok g hg)
  have hsz:(gs.map fun g=>PyData.tuple (g.map .int)).length<=sizeLine:=bS (by simp;omega);have hsz2:(cS 0 (gs.map fun g=>PyData.tuple (g.map .int))).length<=sizeLine:=by rw [gk];exact hsz
  have hm:=vN gs 0;have s1:1<=sizeLine:=by decide
  have s2:2<=sizeLine:=by decide
  unfold bR iw;refine eA ?_;rw [show ([zO gs].map bt.val++List.replicate (2 - [zO gs].length) bt.non)=[.val (zO gs),.non] from rfl];rw [aR (ρ':=[.val (zO gs),.non]) (by
    simp only [gw,wj,oF,dY,bj,aI,aV,ar,cj,ca,ul,R.ok_bind,show (6-1:Int)=5 from rfl,ht,hb,ez,bZ,bp,cs,dD,cC,if_pos hsz,ax,List.replicate,List.map_nil,List.append_nil,hc,mL,si,ha];rfl)]
  rw [aR (ρ':=[.val (zO gs),.val (.list ((jt 0 gs).map St.d))]) (by
    simp only [bG,bp,k8,ar,R.ok_bind,dD,cC,if_pos hsz2,ax,List.replicate,List.map_nil,List.append_nil,hm,mL];rfl)]
  cases gs with
  | nil=>simp at h0
  | cons g gs =>
    have hl:(jt 0 (g::gs)).length=gs.length+1:=by rw [hV];rfl
    have hsum:((jt 0 (g::gs)).map St.d).length+1<=sizeLine:=bS (by rw [List.length_map,hl];simp at h1;omega);have i0:bK (.list ((jt 0 (g::gs)).map St.d)) (.int 0)=.ok (St.d ⟨0,dF g (0:Nat)⟩):=by
      rw [sj (by omega) (by rw [List.length_map,hl];omega)];rfl
    simp only [cK,ca,bZ,ar,ay,R.ok_bind,k6,iH,aI,aV,cj,i0,uX,List.length_cons,List.length_nil,Nat.zero_add,if_pos s1,if_pos s2,B3,if_pos hsum];have e:wD (gQ (g::gs))=.tuple ((jt 0 (g::gs)).map St.d++[St.d ⟨1,dF g 0⟩]):=by
      show PyData.tuple ((jt 0 (g::gs)++[_]).map St.d)=_;rw [List.map_append];rfl
    rw [e];rfl
theorem sM:∀ (gs:List (List Int)) (k j:Nat),j < gs.length->(jt k gs)[j]?=some ⟨0,dF (gs.getD j []) ((k+j:Nat):Int)⟩
  | [],_,_,h=>by simp at h
  | g::gs,k,0,_=>by simp [jt]
  | g::gs,k,j+1,h=>by
    simp only [jt,List.getElem?_cons_succ];rw [sM gs (k+1) j (by simpa using h)];simp only [List.getD_cons_succ];rw [show k+1+j=k+(j+1) by omega]
theorem oB {g:List Int} {k m:Int} (h0:0<=m) (h1:m < 13):(dF g k).getD m.toNat 0=if cy g m then k+1 else k:=by
  have h:=vG (n:=13) (k:=m.toNat) (by omega);unfold dF;rw [List.getD,List.getElem?_map,h,Option.map_some,Option.getD_some];rw [show ((m.toNat:Nat):Int)=m by omega]
theorem sO {gs:List (List Int)} {i m:Int} (h0:0<=i) (h1:i<=gs.length) (hn:1<=gs.length) (m0:0<=m) (m1:m < 13):bQ (gQ gs) i m=if cy (gs.getD (i%gs.length).toNat []) m then i%gs.length+1 else i%gs.length:=by
  unfold bQ;by_cases h:i < gs.length
  · have e:(gQ gs)[i.toNat]?=some ⟨0,dF (gs.getD i.toNat []) ((0+i.toNat:Nat):Int)⟩:=by
      unfold gQ;rw [List.getElem?_append_left (by rw [hV];omega),sM gs 0 i.toNat (by omega)]
    rw [e,Int.emod_eq_of_lt h0 h];show (dF (gs.getD i.toNat []) _).getD m.toNat 0=_;rw [oB m0 m1];rw [show ((0+i.toNat:Nat):Int)=i by omega]
  · have hi:i=gs.length:=by omega
    have e:(gQ gs)[i.toNat]?=some ⟨1,dF (gs.headD []) 0⟩:=by
      unfold gQ;rw [List.getElem?_append_right (by rw [hV];omega),hV,show i.toNat-gs.length=0 by omega];rfl
    have h00:i%gs.length=0:=by rw [hi];exact Int.emod_self
    rw [e,h00];show (dF (gs.headD []) 0).getD m.toNat 0=_;rw [oB m0 m1];cases gs with
    | nil=>simp at hn
    | cons g gs=>simp
theorem pC {f:Fe} {ρ:aT} {h:Int->Int}:∀ ns:List Int,(∀ x∈ns,f (.val (.int x)::ρ)=.ok (.int (h x)))->bC (aQ 0) (fun _=>.ok true) f (.non::ρ) (ns.map .int)=.ok ((ns.map h).map .int)
  | [],_=>dt ..
  | x::ns,hh=>by
    rw [List.map_cons,eS,pC ns fun y hy=>hh y (List.mem_cons_of_mem _ hy)];show (R.ok true>>=fun k=>if k=true then f (.val (.int x)::ρ)>>=fun x=>R.ok ((ns.map h).map .int)>>=fun xs=>.ok (x::xs) else _)=_;rw [hh x List.mem_cons_self];rfl
theorem yO {f:Fe} {ρ:aT} {h:P4->P4}:∀ qs:List P4,(∀ q∈qs,f (.val q.d::ρ)=.ok (h q).d)->bC (aQ 0) (fun _=>.ok true) f (.non::ρ) (qs.map P4.d)=.ok ((qs.map h).map P4.d)
  | [],_=>dt ..
  | q::qs,hh=>by
    rw [List.map_cons,eS,yO qs fun y hy=>hh y (List.mem_cons_of_mem _ hy)];show (R.ok true>>=fun k=>if k=true then f (.val q.d::ρ)>>=fun x=>R.ok ((qs.map h).map P4.d)>>=fun xs=>.ok (x::xs) else _)=_;rw [hh q List.mem_cons_self];rfl
theorem zk {L:List Int} (h:L.length < 64):iG (.list (L.map .int))=.ok (.list ((dH L).map .int)):=by
  show (match du (L.map .int) with | some ns=>if ns.length < 64 then R.ok (PyData.list ((dH ns).map PyData.int)) else .no | none=>.no)=_;rw [jq];exact if_pos h
noncomputable def BP (p:P4) (L:List Int):P4:=⟨p.w,p.m,p.g,L⟩
theorem o6 (p:P4) (L:List Int):cI [p.d,.list (L.map .int)]=.ok (BP p L).d:=by
  have s4:4<=sizeLine:=by decide
  have i2:bK p.d (.int 2)=.ok (.int p.g):=rfl;unfold cI iy;refine eA ?_;rw [show ([p.d,PyData.list (L.map .int)].map bt.val++List.replicate (2 - [p.d,PyData.list (L.map .int)].length) bt.non)=[.val p.d,.val (.list (L.map .int))] from rfl];simp only [cK,iH,aI,aV,ca,bZ,ar,ay,cj,R.ok_bind,n6,yN,i2,k6,List.length_cons,List.length_nil,Nat.zero_add,Nat.reduceAdd,if_pos s4];rfl
noncomputable def F6 (ps:List P4) (s:St) (p:P4):List Int:=dH (p.ns.map fun g=>s.st.getD (aA ps g).toNat 0*ps.length+g)
noncomputable def i4 (ps:List P4) (s:St) (p:P4):P4:=BP p (F6 ps s p)
section
variable {ps:List P4} (G:Gr ps) (hm:∀ i∈ids ps.length,0<=aA ps i/\aA ps i < 13)
include G hm in
theorem uK {s:St} {p:P4} (hl:s.st.length=13) (hb:∀ x∈s.st,0<=x/\x < 6) (hp:p∈ps) (h64:p.ns.length < 64):cU [gD ps,s.d,p.d]=.ok (i4 ps s p).d:=by
  have hn:=G.hp;have hlen:dl (gD ps)=.ok (.int ps.length):=by simp
  have hc:=pC (f:=e2 eN (e2 ff (e2 bK (e2 bK (ag 1) (eC (.int 1))) (e2 bK (e2 bK (ag 2) (ag 0)) (eC (.int 1)))) (e1 dl (ag 2))) (ag 0)) (ρ:=[.val s.d,.val (gD ps)]) (h:=fun g=>s.st.getD (aA ps g).toNat 0*ps.length+g) p.ns fun g hg=>by
    obtain ⟨g0,g1⟩:=G.hgo p hp g hg;obtain ⟨m0,m1⟩:=hm g (bO.mpr ⟨g0,g1⟩);have e1':=qQ (xs:=s.st) m0 (by omega);have e2':ff (.int (s.st.getD (aA ps g).toNat 0)) (.int ps.length)=.ok (.int (s.st.getD (aA ps g).toNat 0*ps.length)):=gr (.inr (by omega));simp only [ca,bZ,ar,ay,cj,R.ok_bind,uX,pE g0 g1,yN,<- pI g0 g1,e1',hlen,e2',ya]
  have hw:=o6 p (F6 ps s p);have hs:=zk (L:=p.ns.map fun g=>s.st.getD (aA ps g).toNat 0*ps.length+g) (by rw [List.length_map];exact h64);unfold cU lA;refine eA ?_;rw [show ([gD ps,s.d,p.d].map bt.val++List.replicate (4 - [gD ps,s.d,p.d].length) bt.non)=[.val (gD ps),.val s.d,.val p.d,.non] from rfl];rw [aR (ρ':=[.val (gD ps),.val s.d,.val p.d,.val (.list ((p.ns.map fun g=>s.st.getD (aA ps g).toNat 0*ps.length+g).map .int))]) (by
    rw [bG,bp,show ax 1 [1,0] [.val (gD ps),.val s.d,.val p.d,.non]=[.non,.val s.d,.val (gD ps)] from rfl];simp only [cs,ca,ar,ay,cj,R.ok_bind,qX,dD,cC];rw [if_pos (bS (by rw [List.length_map];omega)),hc];rfl)]
  simp only [cK,bj,aI,aV,bZ,ar,ay,R.ok_bind,hs];rw [show dH (p.ns.map fun g=>s.st.getD (aA ps g).toNat 0*ps.length+g)=F6 ps s p from rfl,hw];rfl
noncomputable def cO (ps:List P4):List St->List P4
  | []=>[]
  | s::ss=>ps.map (i4 ps s)++cO ps ss
theorem hW:∀ ss:List St,(cO ps ss).length=ss.length*ps.length
  | []=>by simp [cO]
  | s::ss=>by rw [cO,List.length_append,List.length_map,hW ss,List.length_cons,Nat.succ_mul,Nat.add_comm]
noncomputable def nP:Fs:=(lp 2 (bN (eI (ag 0)) 1 [0,3] (aQ 0) (fun _=>.ok true) (aD cU (ah (ag 1) (ah (ag 2) (ah (ag 0) aH))))))
include G hm in
theorem vB (h64:∀ p∈ps,p.ns.length < 64) (w:PyData):∀ (ss:List St) (acc:List P4) (c:bt),(∀ s∈ss,s.st.length=13/\∀ x∈s.st,0<=x/\x < 6)->acc.length+ss.length*ps.length<=1000 ->
    ∃ c',gf (aQ 3) nP (ss.map St.d) [.val (gD ps),.val w,.own (.list (acc.map P4.d)),c]=.ok (.nx [.val (gD ps),.val w,.own (.list ((acc++cO ps ss).map P4.d)),c'])
  | [],acc,c,_,_=>⟨c,by rw [List.map_nil,eO,cO,List.append_nil]⟩
  | s::ss,acc,c,hs,hl=>by
    have hn:=G.hp;rw [List.length_cons,Nat.succ_mul] at hl;obtain ⟨c',e⟩:=vB h64 w ss (acc++ps.map (i4 ps s)) (.val s.d) (fun t ht=>hs t (List.mem_cons_of_mem _ ht)) (by rw [List.length_append,List.length_map];omega);refine ⟨c',?_⟩;have hc:=yO (f:=aD cU (ah (ag 1) (ah (ag 2) (ah (ag 0) aH)))) (ρ:=[.val (gD ps),.val s.d]) (h:=i4 ps s) ps fun q hq=>by
      have:=uK G hm (hs s List.mem_cons_self).1 (hs s List.mem_cons_self).2 hq (h64 q hq);simp only [bj,aI,aV,ar,ay,R.ok_bind,this]
    rw [List.map_cons,cX];rw [List.append_assoc] at e;rw [show cO ps (s::ss)=ps.map (i4 ps s)++cO ps ss from rfl,<- e];show (nP [.val (gD ps),.val w,.own (.list (acc.map P4.d)),.val s.d]>>=_)=_;have hb:nP [.val (gD ps),.val w,.own (.list (acc.map P4.d)),.val s.d]=.ok (.nx [.val (gD ps),.val w,.own (.list ((acc++ps.map (i4 ps s)).map P4.d)),.val s.d]):=by
      have hcomp:bN (eI (ag 0)) 1 [0,3] (aQ 0) (fun _=>.ok true) (aD cU (ah (ag 1) (ah (ag 2) (ah (ag 0) aH)))) [.val (gD ps),.val w,.own (.list (acc.map P4.d)),.val s.d]=.ok (.list ((ps.map (i4 ps s)).map P4.d)):=by
        rw [bp,show ax 1 [0,3] [.val (gD ps),.val w,.own (.list (acc.map P4.d)),.val s.d]=[.non,.val (gD ps),.val s.d] from rfl];simp only [cs,ar,R.ok_bind,dD,cC];rw [if_pos (bS (by rw [List.length_map];omega)),hc];rfl
      unfold nP lp;rw [hcomp,cC,R.ok_bind];show (if (acc.map P4.d).length+((ps.map (i4 ps s)).map P4.d).length<=sizeLine then R.ok (tT.nx _) else .no)=_;rw [if_pos (bS (by rw [List.length_map,List.length_map,List.length_map];omega)),List.map_append];rfl
    rw [hb,R.ok_bind,dZ]
include G hm in
theorem Cf (h64:∀ p∈ps,p.ns.length < 64) {ss:List St} (W:Wt ss):bE [gD ps,wD ss]=.ok (gD (cO ps ss)):=by
  have hn:=G.hp;have h6:=W.n1;have hz:ss.length*ps.length<=6*60:=Nat.mul_le_mul h6 hn;obtain ⟨c,e⟩:=vB G hm h64 (wD ss) ss [] .non (fun s hs=>⟨W.l s hs,fun x hx=>by have:=W.inn s hs x hx;omega⟩) (by simp;omega);unfold bE eY;refine eA ?_;rw [show ([gD ps,wD ss].map bt.val++List.replicate (4 - [gD ps,wD ss].length) bt.non)=[.val (gD ps),.val (wD ss),.non,.non] from rfl];rw [aR (ρ':=[.val (gD ps),.val (wD ss),.own (.list []),.non]) (by rfl)];rw [aR (ρ':=[.val (gD ps),.val (wD ss),.own (.list (([]++cO ps ss).map P4.d)),c]) (by
    rw [fI,fH,cs,ay,ar,R.ok_bind,dD,R.ok_bind];unfold nP at e;rw [List.map_nil] at e;rw [e];rfl)]
  simp only [cK,bZ,mI,mH,R.ok_bind,k6];rfl
end
theorem pK {ps:List P4}:∀ (ss:List St) (s i:Nat) (hs:s < ss.length) (hi:i < ps.length),(cO ps ss)[s*ps.length+i]?=some (i4 ps ss[s] ps[i])
  | [],_,_,h,_=>by simp at h
  | t::ss,0,i,_,hi=>by
    rw [cO,Nat.zero_mul,Nat.zero_add,List.getElem?_append_left (by rw [List.length_map];exact hi),List.getElem?_map,List.getElem?_eq_getElem hi];rfl
  | t::ss,s+1,i,hs,hi=>by
    rw [cO,Nat.succ_mul,List.getElem?_append_right (by rw [List.length_map];omega),List.length_map];rw [show s*ps.length+ps.length+i-ps.length=s*ps.length+i by omega];rw [pK ss s i (by simpa using hs) hi];rfl
theorem eR {n:Nat} {x:Int} (h0:0<=x) {k:Nat} (h1:x < k*n):0<=x / n/\x / n < k/\0<=x%n/\x%n < n/\x.toNat=(x / n).toNat*n+(x%n).toNat/\x / n*n+x%n=x:=by
  have hn:(0:Int) < n:=by
    rcases Nat.eq_zero_or_pos n with z | z
    · rw [z] at h1;simp at h1;omega
    · omega
  have a0:=Int.ediv_nonneg h0 (Int.le_of_lt hn);have a1:=Int.emod_nonneg x (show (n:Int)≠0 by omega);have a2:=Int.emod_lt_of_pos x hn;have a3:x / n*n+x%n=x:=Int.ediv_mul_add_emod x n;have a4:x / n < k:=Int.ediv_lt_of_lt_mul hn h1;refine ⟨a0,a4,a1,a2,?_,a3⟩;have:((x / n).toNat*n+(x%n).toNat:Nat)=x:=by
    rw [Int.natCast_add,Int.natCast_mul,Int.toNat_of_nonneg a0,Int.toNat_of_nonneg a1];exact a3
  omega
section
variable {ps:List P4} {ss:List St} {x:Int}
theorem vW (h0:0<=x) (h1:x < ss.length*ps.length):∃ (hs:(x / ps.length).toNat < ss.length) (hi:(x%ps.length).toNat < ps.length),(cO ps ss)[x.toNat]?=some (i4 ps ss[(x / ps.length).toNat] ps[(x%ps.length).toNat]):=by
  obtain ⟨a0,a1,a2,a3,a4,_⟩:=eR h0 h1;refine ⟨by omega,by omega,?_⟩;rw [a4];exact pK ss _ _ (by omega) (by omega)
theorem sS (h0:0<=x) (h1:x < ss.length*ps.length):az (cO ps ss) x=az ps (x%ps.length):=by
  obtain ⟨hs,hi,e⟩:=vW h0 h1;unfold az;rw [e,List.getElem?_eq_getElem hi];rfl
theorem uM (h0:0<=x) (h1:x < ss.length*ps.length):bg (cO ps ss) x=dH ((bg ps (x%ps.length)).map fun g=>bQ ss (x / ps.length) (aA ps g)*ps.length+g):=by
  obtain ⟨hs,hi,e⟩:=vW h0 h1;unfold bg bQ;rw [e,List.getElem?_eq_getElem hi,List.getElem?_eq_getElem hs];rfl
theorem pL (h0:0<=x) (h1:x < ss.length*ps.length) {y:Int}:y∈bg (cO ps ss) x<->∃ g∈bg ps (x%ps.length),y=bQ ss (x / ps.length) (aA ps g)*ps.length+g:=by
  rw [uM h0 h1,(dE _).mem_iff,List.mem_map];exact ⟨fun ⟨g,a,b⟩=>⟨g,a,b.symm⟩,fun ⟨g,a,b⟩=>⟨g,a,b.symm⟩⟩
end
theorem mG {n:Nat} {s g:Int} (g0:0<=g) (g1:g < n):(s*n+g) / n=s/\(s*n+g)%n=g:=by
  have hn:(n:Int)≠0:=by omega
  refine ⟨?_,?_⟩
  · rw [Int.add_comm,Int.add_mul_ediv_right _ _ hn,Int.ediv_eq_zero_of_lt g0 g1];omega
  · rw [Int.add_comm,Int.add_mul_emod_self_right];exact Int.emod_eq_of_lt g0 g1
theorem qI {n k:Nat} {s g:Int} (s0:0<=s) (s1:s < k) (g0:0<=g) (g1:g < n):0<=s*n+g/\s*n+g < k*n:=by
  have h0:=Int.mul_nonneg s0 (show (0:Int)<=n by omega);have h1:(s+1)*n<=k*n:=Int.mul_le_mul_of_nonneg_right (by omega) (by omega);rw [Int.add_mul,Int.one_mul] at h1;omega
theorem vX {ps:List P4} (G:Gr ps) (hm:∀ i∈ids ps.length,0<=aA ps i/\aA ps i < 13) {ss:List St} (W:Wt ss) (hz:ss.length*ps.length<=60):Gr (cO ps ss):=by
  have all:∀ q∈cO ps ss,∃ s∈ss,∃ p∈ps,q=i4 ps s p:=by
    intro q;have:∀ l:List St,q∈cO ps l->∃ s∈l,∃ p∈ps,q=i4 ps s p:=by
      intro l;induction l with
      | nil=>intro h;cases h
      | cons t l ih =>
        intro h;rcases List.mem_append.mp h with z | z
        · obtain ⟨p,hp,rfl⟩:=List.mem_map.mp z;exact ⟨t,List.mem_cons_self,p,hp,rfl⟩
        · obtain ⟨s,hs,r⟩:=ih z;exact ⟨s,List.mem_cons_of_mem _ hs,r⟩
    exact this ss
  have step:∀ {s:St} {g:Int},s∈ss->0<=g/\g < ps.length->0<=s.st.getD (aA ps g).toNat 0/\s.st.getD (aA ps g).toNat 0 < ss.length:=fun {s g} hs hg=>by
    have hl:=W.l s hs;obtain ⟨m0,m1⟩:=hm g (bO.mpr hg);refine W.inn s hs _ ?_;rw [List.getD,List.getElem?_eq_getElem (show (aA ps g).toNat < s.st.length by omega)];exact List.getElem_mem _
  refine ⟨fun q hq=>?_,fun q hq=>?_,by rw [hW];exact hz,fun q hq=>?_,fun q hq=>?_⟩ <;> obtain ⟨s,hs,p,hp,rfl⟩:=all q hq
  · show (dH _).length<=100;rw [jR,List.length_map];exact G.hl p hp
  · intro x hx;have hx':x∈dH (p.ns.map fun g=>s.st.getD (aA ps g).toNat 0*ps.length+g):=hx;rw [(dE _).mem_iff] at hx';obtain ⟨g,hg,rfl⟩:=List.mem_map.mp hx';have hgo:=G.hgo p hp g hg;obtain ⟨a,b⟩:=step hs hgo;rw [hW,Int.natCast_mul];exact qI a b hgo.1 hgo.2
  · show (dH (p.ns.map fun g=>s.st.getD (aA ps g).toNat 0*ps.length+g)).Pairwise (· < ·);refine pT (gj _) ((dE _).nodup_iff.mpr ?_);unfold List.Nodup;rw [List.pairwise_map];refine List.Pairwise.imp_of_mem (fun {a b} ha hb hab e=>?_) (G.lt p hp);have h1:=(mG (s:=s.st.getD (aA ps a).toNat 0) (G.hgo p hp a ha).1 (G.hgo p hp a ha).2).2;have h2:=(mG (s:=s.st.getD (aA ps b).toNat 0) (G.hgo p hp b hb).1 (G.hgo p hp b hb).2).2;rw [e] at h1;omega
  · show dH _≠[];intro z;have:=congrArg List.length z;rw [jR,List.length_map] at this;exact G.ne p hp (List.eq_nil_of_length_eq_zero this)
noncomputable def kr (ss:List St) (s:Int):Int:=(ss[s.toNat]?.map (·.g)).getD 0
noncomputable def xH (ps:List P4) (ss:List St):List Int:=(ids (ss.length*ps.length)).filter fun x=>decide (kr ss (x / ps.length)=1)
theorem vE (ps:List P4) (ss:List St):cB (ss.length*ps.length) (xH ps ss):=(cB.ids _).filter _
theorem qR {ps:List P4} {ss:List St} {x:Int}:x∈xH ps ss<->(0<=x/\x < ss.length*ps.length)/\kr ss (x / ps.length)=1:=by
  unfold xH;rw [List.mem_filter,bO,decide_eq_true_eq,Int.natCast_mul]
theorem A6 {c:Int} (h0:0<=c) (h1:c<=1000):lh [.int c]=.ok (bL 0 c.toNat):=by
  show (if -(2 ^ 62)<=c/\c < 2 ^ 62 then R.ok (bL 0 c.toNat) else .no)=_;rw [if_pos (by omega)]
theorem wa {N:Nat} (h:N<=1000):lh [.int N]=.ok ((ids N).map .int):=by
  rw [A6 (by omega) (by omega),Int.toNat_natCast,iR]
theorem o0 {ps:List P4} {ss:List St} (h0:1<=ps.length) (hz:ss.length*ps.length<=1000) (h6:ss.length<=6):cG [gD ps,wD ss]=.ok (.tuple ((xH ps ss).map .int)):=by
  have hlen:dl (gD ps)=.ok (.int ps.length):=by simp
  have hlw:dl (wD ss)=.ok (.int ss.length):=by simp
  have hb:ps.length<=1000\/ss.length=0:=by
    rcases Nat.eq_zero_or_pos ss.length with z | z
    · exact .inr z
    · left;have:=Nat.mul_le_mul_right ps.length z;omega
  have hmul:ff (.int ps.length) (.int ss.length)=.ok (.int (ss.length*ps.length:Nat)):=by
    rw [gr (.inr (by omega)),Int.natCast_mul,Int.mul_comm]
  have hr:lh [.int (ss.length*ps.length:Nat)]=.ok ((ids (ss.length*ps.length)).map .int):=wa hz;have hc:=dg (t:=tE (e2 (lw) (e2 bK (e2 bK (ag 1) (e2 lG (ag 0) (ag 2))) (eC (.int 0))) (eC (.int 1)))) (ρ:=[.val (wD ss),.val (.int ps.length)]) (p:=fun x=>decide (kr ss (x / ps.length)=1)) (ids (ss.length*ps.length)) fun x hx=>by
    obtain ⟨x0,x1⟩:=bO.mp hx;rw [Int.natCast_mul] at x1;obtain ⟨a0,a1,_⟩:=eR x0 x1;have hpos:0 < ps.length:=h0;have hss:ss.length≠0:=by omega
    have hdiv:lG (.int x) (.int ps.length)=.ok (.int (x / ps.length)):=by rw [B4,if_pos (by omega)]
    have hg:kr ss (x / ps.length)=(ss[(x / ps.length).toNat]'(by omega)).g:=by
      unfold kr;rw [List.getElem?_eq_getElem (by omega)];rfl
    show tE _ [.val (.int x),.val (wD ss),.val (.int ps.length)]=_;simp only [dY,ca,ar,ay,cj,R.ok_bind,hdiv,zC a0 a1,Dh,g9,ez];rw [hg]
  unfold cG ip;refine eA ?_;rw [show ([gD ps,wD ss].map bt.val++List.replicate (3 - [gD ps,wD ss].length) bt.non)=[.val (gD ps),.val (wD ss),.non] from rfl];rw [aR (ρ':=[.val (gD ps),.val (wD ss),.val (.int ps.length)]) (by simp only [bG,bZ,ar,R.ok_bind,hlen];rfl)];rw [cK,bZ,bp,show ax 1 [1,2] [.val (gD ps),.val (wD ss),.val (.int ps.length)]=[.non,.val (wD ss),.val (.int ps.length)] from rfl,jL];simp -implicitDefEqProofs only [aI,aV,ca,bZ,ar,ay,R.ok_bind,hlw,hmul,hr,cC];rw [if_pos (bS (by rw [List.length_map,iJ];exact hz)),hc];rfl
theorem Ah {f:Int->PyData} {N a m:Nat} (h:a+m<=N):D2.nF (cf f N) (some (a:Int)) (some ((a:Int)+m))=cf (fun i=>f (a+i)) m:=by
  unfold D2.nF;have e1':HT.sIx (cf f N).length 0 (some (a:Int))=a:=by rw [HT.sIx_nat,bz];omega
  have e2':HT.sIx (cf f N).length (cf f N).length (some ((a:Int)+m))=a+m:=by
    rw [show (a:Int)+m=((a+m:Nat):Int) by omega,HT.sIx_nat,bz];omega
  rw [e1',e2',show a+m-a=m by omega];refine List.ext_getElem (by rw [List.length_take,List.length_drop,bz,bz];omega) fun k h1 h2=>?_
  rw [bz] at h2;have e3:=fJ (f:=fun i=>f (a+i)) (n:=m) (i:=(k:Int)) (by omega) (by omega);have e4:=fJ (f:=f) (n:=N) (i:=((a+k:Nat):Int)) (by omega) (by omega);simp only [Int.toNat_natCast] at e3 e4;rw [e3,List.getElem_take,List.getElem_drop,e4];congr 1
theorem zm {k n:Nat} (hn:1<=n) (hk:1<=k):ik 0 ((k*n:Nat):Int) (n:Int)=k:=by
  unfold ik;have hp:1<=k*n:=Nat.mul_le_mul hk hn;rw [if_pos (by omega)];have:(((k*n:Nat):Int)-0-1) / (n:Int)=(k:Int)-1:=by
    have e:((k*n:Nat):Int)-0-1=((n:Int)-1)+((k:Int)-1)*n:=by
      rw [Int.natCast_mul,Int.sub_mul];omega
    rw [e,Int.add_mul_ediv_right _ _ (by omega),Int.ediv_eq_zero_of_lt (by omega) (by omega)];omega
  rw [this];omega
theorem kY {f:Int->PyData} {k n:Nat} (hn:1<=n) (hk:1<=k) (hz:k*n<=1000) {d:PyData} (hd:d=.tuple (cf f (k*n))\/d=.list (cf f (k*n))) :
    cL [d,.int n]=.ok (.tuple (cf (fun s=>.tuple (cf (fun i=>f (s*n+i)) n)) k)):=by
  have hkn:k<=k*n:=Nat.le_mul_of_pos_right k hn;have hnk:n<=k*n:=Nat.le_mul_of_pos_left n hk;have hlen:dl d=.ok (.int (k*n:Nat)):=by
    rcases hd with rfl | rfl
    · rw [lI,bz]
    · rw [qL,bz]
  have hs:zn [.int 0,.int (k*n:Nat),.int n]=.ok (D2.ig 0 n k):=by
    have:mZ 0 (k*n:Nat) n:=⟨by omega,by omega,by omega,by omega,by omega,by omega⟩
    show (if mZ 0 (k*n:Nat) n then R.ok (D2.ig 0 n (ik 0 (k*n:Nat) n)) else .no)=_;rw [if_pos this,zm hn hk]
  have hc:bC (aQ 0) (fun _=>.ok true) (e1 ce (D4 (ag 1) (md (ag 0)) (md (e2 eN (ag 0) (ag 2))))) [.non,.val d,.val (.int n)] (D2.ig 0 n k)=.ok (cf (fun s=>.tuple (cf (fun i=>f (s*n+i)) n)) k):=by
    have:=ej (e1 ce (D4 (ag 1) (md (ag 0)) (md (e2 eN (ag 0) (ag 2))))) [.non,.val d,.val (.int n)] 0 (fun x=>match x with | .int j=>.tuple (cf (fun i=>f (j+i)) n) | x=>x) (D2.ig 0 n k) fun x hx=>by
      unfold D2.ig at hx;obtain ⟨t,ht,rfl⟩:=List.mem_map.mp hx;have ht':=List.mem_range.mp ht;have hm:(t+1)*n<=k*n:=Nat.mul_le_mul_right n ht';rw [Nat.succ_mul] at hm;have ec:=Ah (f:=f) (N:=k*n) (a:=t*n) (m:=n) hm;have e0:(0:Int)+(t:Int)*n=((t*n:Nat):Int):=by rw [Int.natCast_mul];omega
      rw [e0];have hsl:zM d (some ((t*n:Nat):Int)) (some (((t*n:Nat):Int)+n))=.ok (.tuple (cf (fun i=>f (((t*n:Nat):Int)+i)) n))\/zM d (some ((t*n:Nat):Int)) (some (((t*n:Nat):Int)+n))=.ok (.list (cf (fun i=>f (((t*n:Nat):Int)+i)) n)):=by
        rcases hd with rfl | rfl
        · exact .inl (by rw [DT,ec])
        · exact .inr (by rw [DS,ec])
      show e1 ce _ [.val (.int ((t*n:Nat):Int)),.val d,.val (.int n)]=_;simp only [bZ,Cd,yI,ca,ar,ay,R.ok_bind,DL,ya];rcases hsl with z | z <;> rw [z] <;> rfl
    rw [this];congr 1;unfold D2.ig cf;rw [List.map_map,List.map_map];apply List.map_congr_left;intro t _;show PyData.tuple ((ids n).map fun i=>f (0+(t:Int)*n+i))=PyData.tuple ((ids n).map fun i=>f ((t:Int)*n+i));rw [Int.zero_add]
  unfold cL jc;refine eA ?_;rw [show ([d,.int n].map bt.val++List.replicate (2 - [d,PyData.int n].length) bt.non)=[.val d,.val (.int n)] from rfl];rw [cK,bZ,bp,show ax 1 [0,1] [.val d,.val (.int n)]=[.non,.val d,.val (.int n)] from rfl,yn];simp -implicitDefEqProofs only [aI,aV,bZ,cj,ar,ay,R.ok_bind,hlen,hs,cC];rw [if_pos (bS (by unfold D2.ig;rw [List.length_map,List.length_range];omega)),hc];rfl
theorem Bh {f:Fe} {ρ:aT} {g h:Int->PyData} {n:Nat} (hh:∀ i:Int,0<=i->i < n->f (.val (g i)::ρ)=.ok (h i)):bC (aQ 0) (fun _=>.ok true) f (.non::ρ) (cf g n)=.ok (cf h n):=by
  have go:∀ is:List Int,(∀ i∈is,0<=i/\i < n)->bC (aQ 0) (fun _=>.ok true) f (.non::ρ) (is.map g)=.ok (is.map h):=by
    intro is;induction is with
    | nil=>intro _;exact dt ..
    | cons i is ih =>
      intro hb;rw [List.map_cons,eS,ih fun x hx=>hb x (List.mem_cons_of_mem _ hx)];show (R.ok true>>=fun k=>if k=true then f (.val (g i)::ρ)>>=fun x=>R.ok (is.map h)>>=fun xs=>.ok (x::xs) else _)=_;rw [hh i (hb i List.mem_cons_self).1 (hb i List.mem_cons_self).2];rfl
  exact go (ids n) fun i hi=>bO.mp hi
theorem Bz {ps:List P4} {i:Int} (h0:0<=i) (h1:i < ps.length):bK (CC ps i) (.int 1)=.ok (.int (aA ps i)):=by
  unfold CC;rw [List.getElem?_eq_getElem (show i.toNat < ps.length by omega),pI h0 h1];rfl
theorem nK (xs:List PyData):∀ k,(cS k xs).length=xs.length:=by
  induction xs with
  | nil=>intro k;rfl
  | cons x xs ih=>intro k;show (_::cS (k+1) xs).length=_;simp [ih]
noncomputable def zP (ps:List P4) (ss:List St) (who:Int):Int->Option Int:=i7 (fun _=>none) (cJ (cO ps ss) who (xH ps ss) (ss.length*ps.length) (ids (ss.length*ps.length)))
theorem oI {ps:List P4} (G:Gr ps) (hm:∀ i∈ids ps.length,0<=aA ps i/\aA ps i < 13) (h64:∀ p∈ps,p.ns.length < 64) (h0:1<=ps.length) {ss:List St} (W:Wt ss) (hz:ss.length*ps.length<=60) {who:Int} {c:Addr} :
    ∃ d2 d3,cV c [gD ps,wD ss,.int who]=.ok (.tuple [oT (fun i=>zP ps ss who (bQ ss 0 (aA ps i)*ps.length+i)) ps.length,d2,d3]):=by
  have k0:=W.n0;have k1:=W.n1;have hn:=G.hp;have GP:=vX G hm W hz;have hlP:=hW (ps:=ps) ss;have hga:=rX GP (gs:=xH ps ss) (by rw [hlP];exact vE ps ss) (jT GP) (who:=who) (c:=c);rw [hlP] at hga;obtain ⟨mv,emv⟩:∃ mv,mv=qU (fun _=>none) (cJ (cO ps ss) who (xH ps ss) (ss.length*ps.length) (ids (ss.length*ps.length))):=⟨_,rfl⟩
  rw [<- emv,show i7 (fun _=>none) (cJ (cO ps ss) who (xH ps ss) (ss.length*ps.length) (ids (ss.length*ps.length)))=zP ps ss who from rfl] at hga;obtain ⟨wn,ewn⟩:∃ wn,wn=zP ps ss who:=⟨_,rfl⟩
  rw [<- ewn] at hga ⊢;have hgo:=Cf G hm h64 W;have hgp:=o0 h0 (show ss.length*ps.length<=1000 by omega) k1;have hlen:dl (gD ps)=.ok (.int ps.length):=by simp
  have hb1:=kY (f:=fun x=>oD (wn x)) h0 k0 (show ss.length*ps.length<=1000 by omega) (d:=oT wn (ss.length*ps.length)) (.inl rfl);have hcm:=Bh (f:=zN (tE (e2 (nG) (ag 0) (eC .none))) (eC .none) (e2 fT (ag 0) (ag 1))) (ρ:=[.val (.int ps.length)]) (g:=fun x=>oD (mv x)) (h:=fun x=>oD ((mv x).map (·%(ps.length:Int)))) (n:=ss.length*ps.length) fun i _ _=>by
    have hp:(0:Int) < ps.length:=by omega
    simp only [uo,dY,ca,ar,ay,cj,R.ok_bind,uz,ez];cases mv i with
    | none=>rfl
    | some y =>
      show (fT (.int y) (.int ps.length))=_;rw [B7,if_pos hp];rfl
  have hb2:=kY (f:=fun x=>oD ((mv x).map (·%(ps.length:Int)))) h0 k0 (show ss.length*ps.length<=1000 by omega) (d:=.list (cf (fun x=>oD ((mv x).map (·%(ps.length:Int)))) (ss.length*ps.length))) (.inr rfl);generalize hD2:(PyData.tuple (cf (fun s=>.tuple (cf (fun i=>oD (wn (s*ps.length+i))) ps.length)) ss.length))=D2' at hb1;generalize hD3:(PyData.tuple (cf (fun s=>.tuple (cf (fun i=>oD ((mv (s*ps.length+i)).map (·%(ps.length:Int)))) ps.length)) ss.length))=D3 at hb2;refine ⟨D2',D3,?_⟩;have ix0:=zC (ss:=ss) (i:=0) (by omega) (by omega);generalize hs0:ss[(0:Int).toNat]'(by omega)=s0 at ix0;have hs0m:s0∈ss:=by rw [<- hs0];exact List.getElem_mem _
  have hl0:=W.l s0 hs0m;have hst:∀ m:Int,bQ ss 0 m=s0.st.getD m.toNat 0:=fun m=>by rw [oz (by omega) (by omega),hs0]
  unfold cV lB;refine eA ?_;rw [show ([gD ps,wD ss,PyData.int who].map bt.val++List.replicate (9 - [gD ps,wD ss,PyData.int who].length) bt.non)=[.val (gD ps),.val (wD ss),.val (.int who),.non,.non,.non,.non,.non,.non] from rfl];rw [aR (ρ':=[.val (gD ps),.val (wD ss),.val (.int who),.non,.non,.non,.non,.non,.non]) (by
    simp only [gw,oF,dY,bj,aI,aV,ar,ay,R.ok_bind,o1 W.good,W.wat,ez];rfl)]
  rw [aR (ρ':=[.val (gD ps),.val (wD ss),.val (.int who),.val (.int ps.length),.non,.non,.non,.non,.non]) (by
    simp only [bG,bZ,ar,R.ok_bind,hlen];rfl)]
  rw [aR (ρ':=[.val (gD ps),.val (wD ss),.val (.int who),.val (.int ps.length),.val (.tuple [oT wn (ss.length*ps.length),oT mv (ss.length*ps.length)]),.non,.non,.non,.non]) (by
    simp -implicitDefEqProofs only [bG,bj,aI,aV,ar,ay,R.ok_bind,hgo,hgp,hga];rfl)]
  rw [aR (ρ':=[.val (gD ps),.val (wD ss),.val (.int who),.val (.int ps.length),.val (.tuple [oT wn (ss.length*ps.length),oT mv (ss.length*ps.length)]),.val D2',.non,.non,.non]) (by
    have i0:bK (.tuple [oT wn (ss.length*ps.length),oT mv (ss.length*ps.length)]) (.int 0)=.ok (oT wn (ss.length*ps.length)):=rfl;simp only [bG,bj,aI,aV,ca,ar,ay,cj,R.ok_bind,i0,hb1];rfl)]
  rw [aR (ρ':=[.val (gD ps),.val (wD ss),.val (.int who),.val (.int ps.length),.val (.tuple [oT wn (ss.length*ps.length),oT mv (ss.length*ps.length)]),.val D2',.val D3,.non,.non]) (by
    have i1:bK (.tuple [oT wn (ss.length*ps.length),oT mv (ss.length*ps.length)]) (.int 1)=.ok (oT mv (ss.length*ps.length)):=rfl;rw [bG,bj,aI,bp,show ax 1 [3] [.val (gD ps),.val (wD ss),.val (.int who),.val (.int ps.length),.val (.tuple [oT wn (ss.length*ps.length),oT mv (ss.length*ps.length)]),.val D2',.non,.non,.non]=[.non,.val (.int ps.length)] from rfl];simp only [cs,aI,aV,ca,ar,ay,cj,R.ok_bind,i1,dD,cC];rw [if_pos (bS (by rw [bz];omega)),hcm];simp only [mL,R.ok_bind,hb2];rfl)]
  rw [aR (ρ':=[.val (gD ps),.val (wD ss),.val (.int who),.val (.int ps.length),.val (.tuple [oT wn (ss.length*ps.length),oT mv (ss.length*ps.length)]),.val D2',.val D3,.val (.tuple (s0.st.map .int)),.non]) (by
    simp only [bG,ca,ar,ay,cj,R.ok_bind,ix0,uX];rfl)]
  have hcw:bC (eV 0 1) (fun _=>.ok true) (e2 bK (e2 bK (ag 2) (e2 bK (ag 3) (e2 bK (ag 1) (eC (.int 1))))) (ag 0)) [.non,.non,.val D2',.val (.tuple (s0.st.map .int))] (cS 0 (ps.map P4.d))=.ok (cf (fun i=>oD (wn (bQ ss 0 (aA ps i)*ps.length+i))) ps.length):=by
    have hen:=sw (fe:=e2 bK (e2 bK (ag 2) (e2 bK (ag 3) (e2 bK (ag 1) (eC (.int 1))))) (ag 0)) (ρ:=[.val D2',.val (.tuple (s0.st.map .int))]) (g:=CC ps) (h:=fun i=>oD (wn (bQ ss 0 (aA ps i)*ps.length+i))) ps.length 0 fun j _ hj=>by
      have j0:(0:Int)<=j:=by omega
      have j1:(j:Int) < ps.length:=by omega
      obtain ⟨m0,m1⟩:=hm j (bO.mpr ⟨j0,j1⟩);have e1':=qQ (xs:=s0.st) m0 (by omega);rw [<- hst] at e1';obtain ⟨t0,t1⟩:=W.step (i:=0) (by omega) (by omega) m0 m1;have e2':=pU (f:=fun s=>PyData.tuple (cf (fun i=>oD (wn (s*ps.length+i))) ps.length)) (n:=ss.length) t0 t1;rw [hD2] at e2';have e3':=pU (f:=fun i=>oD (wn (bQ ss 0 (aA ps j)*ps.length+i))) (n:=ps.length) j0 j1;simp only [ca,ar,ay,cj,R.ok_bind,Bz j0 j1,e1',e2',e3']
    rw [qN] at hen;rw [yl ps];exact hen
  rw [aR (ρ':=[.val (gD ps),.val (wD ss),.val (.int who),.val (.int ps.length),.val (.tuple [oT wn (ss.length*ps.length),oT mv (ss.length*ps.length)]),.val D2',.val D3,.val (.tuple (s0.st.map .int)),.val (oT (fun i=>wn (bQ ss 0 (aA ps i)*ps.length+i)) ps.length)]) (by
    rw [bG,bZ,bp,show ax 2 [5,7] [.val (gD ps),.val (wD ss),.val (.int who),.val (.int ps.length),.val (.tuple [oT wn (ss.length*ps.length),oT mv (ss.length*ps.length)]),.val D2',.val D3,.val (.tuple (s0.st.map .int)),.non]=[.non,.non,.val D2',.val (.tuple (s0.st.map .int))] from rfl];simp only [k8,ar,R.ok_bind,dD,cC];rw [if_pos (by rw [nK,List.length_map];exact bS (by omega)),hcw];rfl)]
  have s3:3<=sizeLine:=by decide
  simp only [cK,iH,aI,aV,ar,ay,R.ok_bind,List.length_cons,List.length_nil,Nat.zero_add,Nat.reduceAdd,if_pos s3]
section
variable {ps:List P4} {ss:List St} {who:Int} {gs Gd:List Int} {l L:List Sh} {win Wn:Int->Int} {mv M:Int->Option Int} {φ ψ Φ Ψ:Int->Int}
noncomputable def kb (ps:List P4) (ss:List St) (Wn win:Int->Int) (w v:Int) (x:Int):Prop:=x∈ids (ss.length*ps.length)/\Wn x=w/\win (x%ps.length)=v
theorem kb.b {w v x:Int} (h:kb ps ss Wn win w v x):0<=x/\x < (ss.length:Int)*ps.length:=by
  have:=bO.mp h.1;rw [Int.natCast_mul] at this;exact this
theorem kb.pl {w v x:Int} (h:kb ps ss Wn win w v x):x%ps.length∈ids ps.length:=by
  obtain ⟨_,_,a,b,_⟩:=eR h.b.1 h.b.2;exact bO.mpr ⟨a,b⟩
theorem yw (G:Gr ps) (hm:∀ i∈ids ps.length,0<=aA ps i/\aA ps i < 13) (W:Wt ss) (A:fZ ps who gs (ids ps.length) l win mv φ ψ) (B:fZ (cO ps ss) who Gd (ids (ss.length*ps.length)) L Wn M Φ Ψ)
    (hown:∀ i∈ids ps.length,az ps i=0\/az ps i=1) {w v:Int} (hw:w=0\/w=1) (hv:v=1-w) {x0:Int} (hx0:kb ps ss Wn win w v x0) :
    ∃ nx:Int->Int,(∀ a,kb ps ss Wn win w v a->Wy (cO ps ss) (ids (ss.length*ps.length)) w M a (nx a)/\Wy ps (ids ps.length) v mv (a%ps.length) (nx a%ps.length)/\nx a / ps.length=bQ ss (a / ps.length) (aA ps (nx a%ps.length))/\kb ps ss Wn win w v (nx a)) /\
      ∃ x,kb ps ss Wn win w v x/\oS (fun a b=>b=nx a) (kb ps ss Wn win w v) x x:=by
  have step:∀ a,kb ps ss Wn win w v a->∃ y,Wy (cO ps ss) (ids (ss.length*ps.length)) w M a y/\Wy ps (ids ps.length) v mv (a%ps.length) (y%ps.length)/\y / ps.length=bQ ss (a / ps.length) (aA ps (y%ps.length)):=fun a ha=>by
    obtain ⟨b0,b1⟩:=ha.b;obtain ⟨s0,s1,p0,p1,_⟩:=eR b0 b1;have hpl:=ha.pl;have ho:=sS b0 b1;have hon:=hown _ hpl;have fin:∀ g∈bg ps (a%ps.length),(bQ ss (a / ps.length) (aA ps g)*ps.length+g) / ps.length=bQ ss (a / ps.length) (aA ps g)/\(bQ ss (a / ps.length) (aA ps g)*ps.length+g)%ps.length=g/\bQ ss (a / ps.length) (aA ps g)*ps.length+g∈ids (ss.length*ps.length)/\bQ ss (a / ps.length) (aA ps g)*ps.length+g∈bg (cO ps ss) a:=fun g hg=>by
      obtain ⟨g0,g1⟩:=G.goals hg;obtain ⟨m0,m1⟩:=hm g (bO.mpr ⟨g0,g1⟩);obtain ⟨t0,t1⟩:=W.step s0 s1 m0 m1;obtain ⟨c0,c1⟩:=mG (s:=bQ ss (a / ps.length) (aA ps g)) g0 g1;obtain ⟨d0,d1⟩:=qI t0 t1 g0 g1;exact ⟨c0,c1,bO.mpr ⟨d0,by rw [Int.natCast_mul];exact d1⟩,(pL b0 b1).mpr ⟨g,hg,rfl⟩⟩
    by_cases z:az ps (a%ps.length)=w
    · obtain ⟨y,y1,y2⟩:=B.has a ha.1 (by rw [ho,z,ha.2.1]);obtain ⟨g,hg,rfl⟩:=(pL b0 b1).mp y2;obtain ⟨f1,f2,f3,f4⟩:=fin g hg;refine ⟨_,.inl ⟨by rw [ho];exact z,y1⟩,?_,?_⟩
      · rw [f2];exact .inr ⟨by omega,mR hg (bO.mpr (G.goals hg))⟩
      · rw [f2];exact f1
    · have z2:az ps (a%ps.length)=v:=by omega
      obtain ⟨g,g1,hg⟩:=A.has _ hpl (by rw [z2,ha.2.2]);obtain ⟨f1,f2,f3,f4⟩:=fin g hg;refine ⟨_,.inr ⟨by rw [ho];exact z,mR f4 f3⟩,?_,?_⟩
      · rw [f2];exact .inl ⟨z2,g1⟩
      · rw [f2];exact f1
  obtain ⟨nx,hnx⟩:∃ nx:Int->Int,∀ a,kb ps ss Wn win w v a->Wy (cO ps ss) (ids (ss.length*ps.length)) w M a (nx a)/\Wy ps (ids ps.length) v mv (a%ps.length) (nx a%ps.length)/\nx a / ps.length=bQ ss (a / ps.length) (aA ps (nx a%ps.length)):=by
    classical
    exact ⟨fun a=>if h:kb ps ss Wn win w v a then (step a h).choose else 0,fun a h=>by
      dsimp only;rw [dif_pos h];exact (step a h).choose_spec⟩
  have stay:∀ a,kb ps ss Wn win w v a->kb ps ss Wn win w v (nx a):=fun a h=>by
    obtain ⟨y1,y2,_⟩:=hnx a h;obtain ⟨s1,s2⟩:=B.stay a h.1 (nx a) (by rw [h.2.1];exact y1);obtain ⟨_,s4⟩:=A.stay _ h.pl (nx a%ps.length) (by rw [h.2.2];exact y2);exact ⟨s1,s2.trans h.2.1,s4.trans h.2.2⟩
  refine ⟨nx,fun a h=>⟨(hnx a h).1,(hnx a h).2.1,(hnx a h).2.2,stay a h⟩,?_⟩;exact Eh (n:=ss.length*ps.length) (S:=kb ps ss Wn win w v) (nx:=nx) (fun x h=>h.1) stay hx0
theorem uI (G:Gr ps) (hm:∀ i∈ids ps.length,0<=aA ps i/\aA ps i < 13) (W:Wt ss) (A:fZ ps who gs (ids ps.length) l win mv φ ψ) (B:fZ (cO ps ss) who Gd (ids (ss.length*ps.length)) L Wn M Φ Ψ)
    (hown:∀ i∈ids ps.length,az ps i=0\/az ps i=1) (h01:who=0\/who=1) {x0:Int} (hx0:kb ps ss Wn win who (1-who) x0) (θ:Int->Int)
    (hθ:∀ a b:Int,0<=a / ps.length->a / ps.length < ss.length->b%ps.length∈ids ps.length->b / ps.length=bQ ss (a / ps.length) (aA ps (b%ps.length))->b%ps.length∉gs->θ (b / ps.length)<=θ (a / ps.length)/\(a∈Gd->θ (b / ps.length) < θ (a / ps.length))):False:=by
  obtain ⟨nx,hnx,x,hx,hp⟩:=yw G hm W A B hown h01 rfl hx0;obtain ⟨gs',egs⟩:∃ gs',gs'=(ids (ss.length*ps.length)).filter fun y=>cy gs (y%ps.length):=⟨_,rfl⟩
  have mgs:∀ y,kb ps ss Wn win who (1-who) y->(y∈gs'<->y%ps.length∈gs):=fun y hy=>by
    rw [egs,List.mem_filter,bW];exact ⟨fun z=>z.2,fun z=>⟨hy.1,z⟩⟩
  have st1:∀ a b,(a=x\/kb ps ss Wn win who (1-who) a)->b=nx a->kb ps ss Wn win who (1-who) b->ψ (b%ps.length)<=ψ (a%ps.length)/\(a∈gs'->ψ (b%ps.length) < ψ (a%ps.length)):=fun a b ha e _=>by
    have ha':kb ps ss Wn win who (1-who) a:=ha.elim (fun z=>by rw [z];exact hx) id;subst e;have:=A.oth _ ha'.pl ha'.2.2 _ (hnx a ha').2.1;exact ⟨this.1,fun z=>this.2 ((mgs a ha').mp z)⟩
  rcases Ca (gs:=gs') (ψ:=fun y=>ψ (y%ps.length)) hp st1 with z | z
  · exact absurd z (Int.lt_irrefl _)
  have hxg:=v4 z;have p2:=vP z hxg;have st2:∀ a b,(a=x\/(kb ps ss Wn win who (1-who) a/\a∉gs'))->b=nx a->(kb ps ss Wn win who (1-who) b/\b∉gs')->θ (b / ps.length)<=θ (a / ps.length)/\(a∈Gd->θ (b / ps.length) < θ (a / ps.length)):=fun a b ha e hb=>by
    have ha':kb ps ss Wn win who (1-who) a:=ha.elim (fun z=>by rw [z];exact hx) fun z=>z.1
    subst e;obtain ⟨c0,c1,_⟩:=eR ha'.b.1 ha'.b.2;exact hθ a (nx a) c0 c1 hb.1.pl (hnx a ha').2.2.1 fun z=>hb.2 ((mgs _ hb.1).mpr z)
  rcases Ca (gs:=Gd) (ψ:=fun y=>θ (y / ps.length)) p2 st2 with z2 | z2
  · exact absurd z2 (Int.lt_irrefl _)
  have:=z2.less (φ:=Φ) (fun y e _=>by
    obtain ⟨e1',e2'⟩:=e;subst e1';exact B.mine x hx.1 hx.2.1 e2' _ (hnx x hx).1) fun a b ha e _=>by
    obtain ⟨e1',e2'⟩:=e;subst e1';exact Int.le_of_lt (B.mine a ha.1.1 ha.1.2.1 e2' _ (hnx a ha.1).1)
  exact absurd this (Int.lt_irrefl _)
theorem yD (G:Gr ps) (hm:∀ i∈ids ps.length,0<=aA ps i/\aA ps i < 13) (W:Wt ss) (A:fZ ps who gs (ids ps.length) l win mv φ ψ) (B:fZ (cO ps ss) who Gd (ids (ss.length*ps.length)) L Wn M Φ Ψ)
    (hown:∀ i∈ids ps.length,az ps i=0\/az ps i=1) (h01:who=0\/who=1) {x0:Int} (hx0:kb ps ss Wn win (1-who) who x0)
    (hg:∀ a b:Int,0<=a / ps.length->a / ps.length < ss.length->b∈ids (ss.length*ps.length)->b%ps.length∈ids ps.length->b / ps.length=bQ ss (a / ps.length) (aA ps (b%ps.length))->b∉Gd->b%ps.length∉gs):False:=by
  obtain ⟨nx,hnx,x,hx,hp⟩:=yw G hm W A B hown (w:=1-who) (v:=who) (by omega) (by omega) hx0;have st1:∀ a b,(a=x\/kb ps ss Wn win (1-who) who a)->b=nx a->kb ps ss Wn win (1-who) who b->Ψ b<=Ψ a/\(a∈Gd->Ψ b < Ψ a):=fun a b ha e _=>by
    have ha':kb ps ss Wn win (1-who) who a:=ha.elim (fun z=>by rw [z];exact hx) id;subst e;exact B.oth a ha'.1 ha'.2.1 _ (hnx a ha').1
  rcases Ca (gs:=Gd) (ψ:=Ψ) hp st1 with z | z
  · exact absurd z (Int.lt_irrefl _)
  have hxg:=v4 z;have p2:=vP z hxg;have hgo:∀ a b,kb ps ss Wn win (1-who) who a->b=nx a->(kb ps ss Wn win (1-who) who b/\b∉Gd)->b%ps.length∉gs:=fun a b ha e hb=>by
    subst e;obtain ⟨c0,c1,_⟩:=eR ha.b.1 ha.b.2;exact hg a (nx a) c0 c1 hb.1.1 hb.1.pl (hnx a ha).2.2.1 hb.2
  have p3:oS (fun a b=>b=nx a) (fun y=>kb ps ss Wn win (1-who) who y/\y%ps.length∉gs) x x :=
    p2.imp (fun y e a=>⟨e,a.1,hgo x y hx e a⟩) fun u y au e a=>⟨e,a.1,hgo u y au.1 e a⟩
  have hxn:=p3.al.2;have:=p3.less (φ:=fun y=>φ (y%ps.length)) (fun y e _=>by
    subst e;exact A.mine _ hx.pl hx.2.2 hxn _ (hnx x hx).2.1) fun a b ha e _=>by
    subst e;exact Int.le_of_lt (A.mine _ ha.1.pl ha.1.2.2 ha.2 _ (hnx a ha.1).2.1)
  exact absurd this (Int.lt_irrefl _)
end
theorem BH {g:List Int} {s m:Int} (h0:0<=s) (h1:s < 2) (m0:0<=m) (m1:m < 13):bQ (gQ [g]) s m=if cy g m then 1 else 0:=by
  rw [sO h0 (by simp;omega) (by simp) m0 m1];simp [Int.emod_one]
theorem D6 {g:List Int} {s:Int} (h0:0<=s) (h1:s < 2):kr (gQ [g]) s=s:=by
  have:s=0\/s=1:=by omega
  rcases this with rfl | rfl <;> rfl
theorem BI {g k:List Int} {s m:Int} (h0:0<=s) (h1:s < 3) (m0:0<=m) (m1:m < 13):bQ (gQ [g,k]) s m=if s=1 then (if cy k m then 2 else 1) else (if cy g m then 1 else 0):=by
  rw [sO h0 (by simp;omega) (by simp) m0 m1];have:s=0\/s=1\/s=2:=by omega
  rcases this with rfl | rfl | rfl <;> simp
theorem Bv {g k:List Int} {s:Int} (h0:0<=s) (h1:s < 3):kr (gQ [g,k]) s=if s=2 then 1 else 0:=by
  have:s=0\/s=1\/s=2:=by omega
  rcases this with rfl | rfl | rfl <;> rfl
noncomputable def xf (ps:List P4) (g:List Int):List Int:=(ids ps.length).filter fun i=>cy g (aA ps i)
theorem uF {ps:List P4} {g:List Int} {i:Int} (hi:i∈ids ps.length):i∈xf ps g<->cy g (aA ps i)=true:=by
  unfold xf;rw [List.mem_filter];exact ⟨fun z=>z.2,fun z=>⟨hi,z⟩⟩
noncomputable def j6 (ps:List P4) (who:Int) (g:List Int):Int->Option Int:=i7 (fun _=>none) (cJ ps who (xf ps g) ps.length (ids ps.length))
section
variable {ps:List P4} (G:Gr ps) (hm:∀ i∈ids ps.length,0<=aA ps i/\aA ps i < 13) (hown:∀ i∈ids ps.length,az ps i=0\/az ps i=1) {who:Int} (h01:who=0\/who=1)
include G hown h01 in
theorem qB (g:List Int):∃ l win mv φ ψ,fZ ps who (xf ps g) (ids ps.length) l win mv φ ψ/\∀ i∈ids ps.length,j6 ps who g i=some (win i):=by
  obtain ⟨win,mv,φ,ψ,A⟩:=nz h01 (gs:=xf ps g) ((cB.ids _).filter _) ps.length (ids ps.length) (cB.ids _) (jT G) (by rw [iJ];exact Nat.le_refl _) hown;exact ⟨_,win,mv,φ,ψ,A,fun i hi=>(A.wins _ i).trans (if_pos hi)⟩
include G hm hown h01 in
theorem sQ {ss:List St} (W:Wt ss) (hz:ss.length*ps.length<=60):∃ L Wn M Φ Ψ,fZ (cO ps ss) who (xH ps ss) (ids (ss.length*ps.length)) L Wn M Φ Ψ/\∀ x∈ids (ss.length*ps.length),zP ps ss who x=some (Wn x):=by
  have GP:=vX G hm W hz;have hlP:=hW (ps:=ps) ss;have hw:=jT GP;rw [hlP] at hw;obtain ⟨Wn,M,Φ,Ψ,B⟩:=nz (ps:=cO ps ss) h01 (gs:=xH ps ss) (by rw [hlP];exact vE ps ss) (ss.length*ps.length) (ids (ss.length*ps.length)) (by rw [hlP];exact cB.ids _) hw (by rw [iJ];exact Nat.le_refl _) fun x hx=>by
    have hb:=bO.mp hx;rw [Int.natCast_mul] at hb;obtain ⟨_,_,a,b,_⟩:=eR hb.1 hb.2;rw [sS hb.1 hb.2];exact hown _ (bO.mpr ⟨a,b⟩)
  exact ⟨_,Wn,M,Φ,Ψ,B,fun x hx=>(B.wins _ x).trans (if_pos hx)⟩
theorem tj {ss:List St} (W:Wt ss) (hm:∀ i∈ids ps.length,0<=aA ps i/\aA ps i < 13) {i:Int} (hi:i∈ids ps.length):bQ ss 0 (aA ps i)*ps.length+i∈ids (ss.length*ps.length)/\(bQ ss 0 (aA ps i)*ps.length+i)%ps.length=i:=by
  obtain ⟨i0,i1⟩:=bO.mp hi;obtain ⟨m0,m1⟩:=hm i hi;have n0:=W.n0;obtain ⟨t0,t1⟩:=W.step (i:=0) (by omega) (by omega) m0 m1;obtain ⟨d0,d1⟩:=qI t0 t1 i0 i1;exact ⟨bO.mpr ⟨d0,by rw [Int.natCast_mul];exact d1⟩,(mG i0 i1).2⟩
include G hm hown h01 in
theorem xh {g:List Int} (hg:cB 13 g) (h12:ps.length<=12) {i:Int} (hi:i∈ids ps.length):zP ps (gQ [g]) who (bQ (gQ [g]) 0 (aA ps i)*ps.length+i)=j6 ps who g i:=by
  have W:Wt (gQ [g]):=qT ⟨by simp,by simp,fun k hk=>by simp at hk;rw [hk];exact hg⟩;have hl:(gQ [g]).length=2:=rfl;obtain ⟨l,win,mv,φ,ψ,A,ha⟩:=qB G hown h01 g;obtain ⟨L,Wn,M,Φ,Ψ,B,hb⟩:=sQ G hm hown h01 W (by rw [hl];omega);obtain ⟨x1,x2⟩:=tj W hm hi;rw [ha i hi,hb _ x1];congr 1;by_cases he:Wn (bQ (gQ [g]) 0 (aA ps i)*ps.length+i)=win i
  · exact he
  exfalso;have hB:=B.two _ x1;have hA:=A.two i hi;by_cases hw:Wn (bQ (gQ [g]) 0 (aA ps i)*ps.length+i)=who
  · refine uI G hm W A B hown h01 (x0:=bQ (gQ [g]) 0 (aA ps i)*ps.length+i) ⟨x1,hw,by rw [x2];omega⟩ (fun s=>s) fun a b a0 a1 hbi e hn=>?_
    obtain ⟨m0,m1⟩:=hm _ hbi;rw [BH a0 (by rw [hl] at a1;omega) m0 m1] at e;have hmb:cy g (aA ps (b%ps.length))=false:=by
      cases h:cy g (aA ps (b%ps.length)) with
      | false=>rfl
      | true=>exact (hn ((uF hbi).mpr h)).elim
    rw [hmb] at e;refine ⟨by rw [e];exact a0,fun z=>?_⟩;have:=(qR.mp z).2;rw [D6 a0 (by rw [hl] at a1;omega)] at this;rw [e,this];decide
  · refine yD G hm W A B hown h01 (x0:=bQ (gQ [g]) 0 (aA ps i)*ps.length+i) ⟨x1,by omega,by rw [x2];omega⟩ fun a b a0 a1 hbb hbi e hn=>?_
    obtain ⟨m0,m1⟩:=hm _ hbi;rw [BH a0 (by rw [hl] at a1;omega) m0 m1] at e;intro z;rw [(uF hbi).mp z,if_pos rfl] at e;refine hn (qR.mpr ⟨?_,?_⟩)
    · have:=bO.mp hbb;rw [Int.natCast_mul] at this;exact this
    · rw [e];rfl
include G hm hown h01 in
theorem u7 {g k:List Int} (hg:cB 13 g) (hk:cB 13 k) (h12:ps.length<=12) {i:Int} (hi:i∈ids ps.length) (hw:zP ps (gQ [g,k]) who (bQ (gQ [g,k]) 0 (aA ps i)*ps.length+i)=some who):j6 ps who g i=some who/\j6 ps who k i=some who:=by
  have W:Wt (gQ [g,k]):=qT ⟨by simp,by simp,fun q hq=>by simp at hq;exact hq.elim (fun z=>z ▸ hg) fun z=>z ▸ hk⟩;have hl:(gQ [g,k]).length=3:=rfl;obtain ⟨L,Wn,M,Φ,Ψ,B,hb⟩:=sQ G hm hown h01 W (by rw [hl];omega);obtain ⟨x1,x2⟩:=tj W hm hi;rw [hb _ x1] at hw;have hw':=Option.some.inj hw;have noM:∀ {q:List Int} {b:Int},b%ps.length∈ids ps.length->b%ps.length∉xf ps q->cy q (aA ps (b%ps.length))=false:=fun {q b} hbi hn=>by
    cases h:cy q (aA ps (b%ps.length)) with
    | false=>rfl
    | true=>exact (hn ((uF hbi).mpr h)).elim
  constructor
  · obtain ⟨l,win,mv,φ,ψ,A,ha⟩:=qB G hown h01 g;rw [ha i hi];congr 1;have hA:=A.two i hi;by_cases he:win i=who
    · exact he
    exfalso;refine uI G hm W A B hown h01 (x0:=bQ (gQ [g,k]) 0 (aA ps i)*ps.length+i) ⟨x1,hw',by rw [x2];omega⟩ (fun s=>if s=1 then 2 else if s=2 then 1 else 0) fun a b a0 a1 hbi e hn=>?_
    obtain ⟨m0,m1⟩:=hm _ hbi;have a3:a / ps.length < 3:=by rw [hl] at a1;omega
    rw [BI a0 a3 m0 m1,noM hbi hn] at e;have hgd:a∈xH ps (gQ [g,k])->a / ps.length=2:=fun z=>by
      have:=(qR.mp z).2;rw [Bv a0 a3] at this;by_cases y:a / ps.length=2
      · exact y
      · rw [if_neg y] at this;cases this
    have:a / ps.length=0\/a / ps.length=1\/a / ps.length=2:=by omega
    rcases this with q | q | q
    · rw [q] at e hgd ⊢;have e':b / ps.length=0:=e;rw [e'];exact ⟨Int.le_refl _,fun z=>by have:=hgd z;omega⟩
    · rw [q] at e hgd ⊢;have e':b / ps.length=1\/b / ps.length=2:=by
        rw [if_pos rfl] at e;split at e
        · exact .inr e
        · exact .inl e
      refine ⟨?_,fun z=>by have:=hgd z;omega⟩;rcases e' with e' | e' <;> rw [e'] <;> decide
    · rw [q] at e ⊢;have e':b / ps.length=0:=e;rw [e'];exact ⟨by decide,fun _=>by decide⟩
  · obtain ⟨l,win,mv,φ,ψ,A,ha⟩:=qB G hown h01 k;rw [ha i hi];congr 1;have hA:=A.two i hi;by_cases he:win i=who
    · exact he
    exfalso;refine uI G hm W A B hown h01 (x0:=bQ (gQ [g,k]) 0 (aA ps i)*ps.length+i) ⟨x1,hw',by rw [x2];omega⟩ (fun s=>if s=1 then 0 else if s=2 then 2 else 1) fun a b a0 a1 hbi e hn=>?_
    obtain ⟨m0,m1⟩:=hm _ hbi;have a3:a / ps.length < 3:=by rw [hl] at a1;omega
    rw [BI a0 a3 m0 m1,noM hbi hn] at e;have hgd:a∈xH ps (gQ [g,k])->a / ps.length=2:=fun z=>by
      have:=(qR.mp z).2;rw [Bv a0 a3] at this;by_cases y:a / ps.length=2
      · exact y
      · rw [if_neg y] at this;cases this
    have:a / ps.length=0\/a / ps.length=1\/a / ps.length=2:=by omega
    rcases this with q | q | q
    · rw [q] at e hgd ⊢;have e':b / ps.length=1\/b / ps.length=0:=by
        rw [if_neg (by decide)] at e;split at e
        · exact .inl e
        · exact .inr e
      refine ⟨?_,fun z=>by have:=hgd z;omega⟩;rcases e' with e' | e' <;> rw [e'] <;> decide
    · rw [q] at e hgd ⊢;have e':b / ps.length=1:=e;rw [e'];exact ⟨by decide,fun z=>by have:=hgd z;omega⟩
    · rw [q] at e ⊢;have e':b / ps.length=1\/b / ps.length=0:=by
        rw [if_neg (by decide)] at e;split at e
        · exact .inl e
        · exact .inr e
      rcases e' with e' | e' <;> rw [e'] <;> exact ⟨by decide,fun _=>by decide⟩
end
theorem pH (v:Int):∃ g,cu [.int v]=.ok (.tuple (g.map .int))/\cB 13 g:=by
  have hx:∀ k:Int,∃ q,aM [.int v,.int k]=.ok (.int q):=fun k=>let ⟨q,h,_⟩:=nI v k;⟨q,h⟩
  obtain ⟨dr,hdr⟩:∃ dr:Int->Int,∀ k,aM [.int v,.int k]=.ok (.int (dr k)):=⟨fun k=>(hx k).choose,fun k=>(hx k).choose_spec⟩
  have hr:lh [.int 13]=.ok ((ids 13).map .int):=by rw [<- iR];rfl
  have hcm:=dg (t:=tE (e2 (lw) (e2 fT (aD aM (ah (ag 1) (ah (ag 0) aH))) (eC (.int 3))) (eC (.int 0)))) (ρ:=[.val (.int v)]) (p:=fun m=>decide (dr m%3=0)) (ids 13) fun m _=>by
    simp [hdr,g9]
  have s13:((ids 13).map PyData.int).length<=sizeLine:=by rw [List.length_map,iJ];decide
  refine ⟨_,?_,(cB.ids 13).filter (fun m=>decide (dr m%3=0))⟩;unfold cu jg;refine eA ?_;rw [show ([PyData.int v].map bt.val++List.replicate (1 - [PyData.int v].length) bt.non)=[.val (.int v)] from rfl];rw [cK,bZ,bp,jL];simp -implicitDefEqProofs only [aI,aV,cj,R.ok_bind,hr,cC,if_pos s13];rw [show ax 1 [0] [.val (.int v)]=[.non,.val (.int v)] from rfl,hcm];rfl
noncomputable abbrev kR (a:PyData) (ps:List P4) (who:Int) (g k:List Int) (rows:List PyData) (c6 c7 c8 c9 c10:bt):aT:=[.val a,.val (gD ps),.val (.int who),.val (.tuple (g.map .int)),.val (.tuple (k.map .int)),.own (.list rows),c6,c7,c8,c9,c10]
noncomputable def pF (c:Addr):Fs:=(bn (cm 7 (e1 ce (bN (lZ (ag 1)) 2 [6] (eV 0 1) (tE (e2 (qK false) (e2 bK (ag 1) (eC (.int 1))) (ag 2))) (ag 0)))) (bn (cm 8 (e2 bK (aD (cZ c) (ah (ag 1) (ah (ag 2) (ah (ag 7) aH)))) (eC (.int 0)))) (bn (oP (tE (e2 (uk) (e2 bK (aD (cV c) (ah (ag 1) (ah (aD bR (ah (k7 (ah (ag 6) aH)) aH)) (ah (ag 2) aH)))) (eC (.int 0))) (ag 8))) (cD (eC (.bool false))) eB) (gE 5 (ag 8)))))
section
variable {ps:List P4} (G:Gr ps) (hm:∀ i∈ids ps.length,0<=aA ps i/\aA ps i < 13) (h64:∀ p∈ps,p.ns.length < 64) (hown:∀ i∈ids ps.length,az ps i=0\/az ps i=1) (h0:1<=ps.length) (h12:ps.length<=12) {who:Int} (h01:who=0\/who=1)
include G hm h64 hown h0 h12 h01 in
theorem yx {a:PyData} {g k q:List Int} (hq:cB 13 q) {rows:List PyData} (hr:rows.length<=100) {c7 c8 c9 c10:bt} {c:Addr}:∃ c7',pF c (kR a ps who g k rows (.val (.tuple (q.map .int))) c7 c8 c9 c10)=.ok (.nx (kR a ps who g k (rows++[oT (j6 ps who q) ps.length]) (.val (.tuple (q.map .int))) c7' (.val (oT (j6 ps who q) ps.length)) c9 c10)):=by
  have W:Wt (gQ [q]):=qT ⟨by simp,by simp,fun k hk=>by simp at hk;rw [hk];exact hq⟩;have hl:(gQ [q]).length=2:=rfl;refine ⟨.val (.tuple ((xf ps q).map .int)),?_⟩;have hcm:bC (eV 0 1) (tE (e2 (qK false) (e2 bK (ag 1) (eC (.int 1))) (ag 2))) (ag 0) [.non,.non,.val (.tuple (q.map .int))] (cS 0 (ps.map P4.d))=.ok ((xf ps q).map .int):=by
    have:=jp (t:=tE (e2 (qK false) (e2 bK (ag 1) (eC (.int 1))) (ag 2))) (ρ:=[.val (.tuple (q.map .int))]) (p:=fun i=>cy q (aA ps i)) (g:=CC ps) ps.length 0 fun j _ hj=>by
      have j0:(0:Int)<=j:=by omega
      have j1:(j:Int) < ps.length:=by omega
      simp only [dY,ca,ar,ay,cj,R.ok_bind,Bz j0 j1,Ch,ez];rfl
    rw [qN] at this;rw [yl ps];exact this
  have hga:=rX G (gs:=xf ps q) ((cB.ids _).filter _) (jT G) (who:=who) (c:=c);rw [show i7 (fun _=>none) (cJ ps who (xf ps q) ps.length (ids ps.length))=j6 ps who q from rfl] at hga;obtain ⟨d2,d3,hwa⟩:=oI G hm h64 h0 W (by rw [hl];omega) (who:=who) (c:=c);have he:oT (fun i=>zP ps (gQ [q]) who (bQ (gQ [q]) 0 (aA ps i)*ps.length+i)) ps.length=oT (j6 ps who q) ps.length :=
    congrArg PyData.tuple (dM fun i i0 i1=>congrArg oD (xh G hm hown h01 hq h12 (bO.mpr ⟨i0,i1⟩)))
  rw [he] at hwa;have hwo:=ka (gs:=[q]) ⟨by simp,by simp,fun k hk=>by simp at hk;rw [hk];exact hq⟩;have s1:1<=sizeLine:=by decide
  unfold pF;rw [aR (ρ':=kR a ps who g k rows (.val (.tuple (q.map .int))) (.val (.tuple ((xf ps q).map .int))) c8 c9 c10) (by
    rw [bG,bZ,bp,show ax 2 [6] (kR a ps who g k rows (.val (.tuple (q.map .int))) c7 c8 c9 c10)=[.non,.non,.val (.tuple (q.map .int))] from rfl];simp only [k8,ar,ay,R.ok_bind,dD,cC];rw [if_pos (by rw [nK,List.length_map];exact bS (by omega)),hcm];rfl)]
  rw [aR (ρ':=kR a ps who g k rows (.val (.tuple (q.map .int))) (.val (.tuple ((xf ps q).map .int))) (.val (oT (j6 ps who q) ps.length)) c9 c10) (by
    simp only [bG,ca,bj,aI,aV,ar,ay,cj,R.ok_bind,hga];rfl)]
  rw [aR (ρ':=kR a ps who g k rows (.val (.tuple (q.map .int))) (.val (.tuple ((xf ps q).map .int))) (.val (oT (j6 ps who q) ps.length)) c9 c10) (by
    have i0:bK (.tuple [oT (j6 ps who q) ps.length,d2,d3]) (.int 0)=.ok (oT (j6 ps who q) ps.length):=rfl;simp only [gw,dY,ca,bj,aI,aV,iH,ar,ay,cj,R.ok_bind,List.length_cons,List.length_nil,Nat.zero_add,if_pos s1];rw [show PyData.tuple [PyData.tuple (q.map .int)]=zO [q] from rfl,hwo];simp only [R.ok_bind,hwa,i0,yb (AH _ _) (show (oT (j6 ps who q) ps.length).depth<=60 by rw [yJ];omega),ez];rfl)]
  rw [pO (ds:=rows) _ rfl (Nat.lt_of_lt_of_le (show _ < 1001 by omega) (by decide))];rfl
noncomputable def se:Fs:=(oP (oE (tE (e2 (lw) (e2 bK (ag 9) (ag 10)) (ag 2))) (zt (tE (e2 (uk) (e2 bK (e2 bK (fg 5) (eC (.int 0))) (ag 10)) (ag 2))) (tE (e2 (uk) (e2 bK (e2 bK (fg 5) (eC (.int 1))) (ag 10)) (ag 2))))) (cD (eC (.bool false))) eB)
theorem AG (o:Option Int) (k:Int):uk (oD o) (.int k)=.ok (.bool (!decide (o=some k))):=by
  cases o with
  | none=>rfl
  | some q =>
    show uk (.int q) (.int k)=_;rw [DQ];congr 3;simp
theorem xX {a:PyData} {g k:List Int} {A B C:Int->Option Int} {c6 c7 c8:bt} (h:∀ i∈ids ps.length,C i=some who->A i=some who/\B i=some who):∀ (is:List Int) (c10:bt),(∀ i∈is,i∈ids ps.length) ->
    ∃ c10',gf (aQ 10) se (is.map .int) (kR a ps who g k [oT A ps.length,oT B ps.length] c6 c7 c8 (.val (oT C ps.length)) c10)=.ok (.nx (kR a ps who g k [oT A ps.length,oT B ps.length] c6 c7 c8 (.val (oT C ps.length)) c10'))
  | [],c10,_=>⟨c10,by rw [List.map_nil,eO]⟩
  | i::is,c10,hb=>by
    have hi:=hb i List.mem_cons_self;obtain ⟨i0,i1⟩:=bO.mp hi;obtain ⟨c10',e⟩:=xX h is (.val (.int i)) fun j hj=>hb j (List.mem_cons_of_mem _ hj)
    refine ⟨c10',?_⟩;rw [List.map_cons,cX,<- e];show (se (kR a ps who g k [oT A ps.length,oT B ps.length] c6 c7 c8 (.val (oT C ps.length)) (.val (.int i)))>>=_)=_;have j0:bK (.list [oT A ps.length,oT B ps.length]) (.int 0)=.ok (oT A ps.length):=rfl;have j1:bK (.list [oT A ps.length,oT B ps.length]) (.int 1)=.ok (oT B ps.length):=rfl;have hbd:se (kR a ps who g k [oT A ps.length,oT B ps.length] c6 c7 c8 (.val (oT C ps.length)) (.val (.int i)))=.ok (.nx (kR a ps who g k [oT A ps.length,oT B ps.length] c6 c7 c8 (.val (oT C ps.length)) (.val (.int i)))):=by
      unfold se;simp only [gw,tq,wj,dY,ca,ar,ay,mI,mH,cj,R.ok_bind,j0,j1,pU i0 i1,vt,AG,ez];by_cases z:C i=some who
      · obtain ⟨z1,z2⟩:=h i hi z;simp [z,z1,z2]
      · simp [z]
    rw [hbd,R.ok_bind,dZ]
end
theorem yA (c:Addr):yy (xK c):=by
  intro ns hl;obtain ⟨ps,hi,hg,hP,hl0,hl1,e0,e1'⟩:=uB ns (most:=12) (by omega) (by omega);have h12:ps.length<=12:=by omega
  obtain ⟨v1,hv1,a1,b1⟩:=la ns (k:=1) (by omega);obtain ⟨v2,hv2,a2,b2⟩:=la ns (k:=2) (by omega);obtain ⟨g,hgm,gP⟩:=pH v1;obtain ⟨k,hkm,kP⟩:=pH v2;have G:Gr ps:=⟨fun p hp=>by have:=(hP p hp).len;omega,fun p hp x hx=>(hP p hp).inn x hx,by omega,fun p hp=>(hP p hp).so,fun p hp=>(hP p hp).ne⟩
  have at':∀ i∈ids ps.length,∃ p∈ps,ps[i.toNat]?=some p:=fun i hi=>by
    obtain ⟨i0,i1⟩:=bO.mp hi;exact ⟨_,List.getElem_mem (show i.toNat < ps.length by omega),List.getElem?_eq_getElem _⟩
  have hm:∀ i∈ids ps.length,0<=aA ps i/\aA ps i < 13:=fun i hi=>by
    obtain ⟨p,hp,e⟩:=at' i hi;unfold aA;rw [e];have:=hP p hp;exact ⟨this.m0,by have:=this.m1;show p.m < 13;omega⟩
  have hown:∀ i∈ids ps.length,az ps i=0\/az ps i=1:=fun i hi=>by
    obtain ⟨p,hp,e⟩:=at' i hi;unfold az;rw [e];have h0:=(hP p hp).w0;have h1:=(hP p hp).w1;show p.w=0\/p.w=1;omega
  have h64:∀ p∈ps,p.ns.length < 64:=fun p hp=>by have:=(hP p hp).len;omega
  obtain ⟨who,ew⟩:∃ who,who=v1%2:=⟨_,rfl⟩
  have h01:who=0\/who=1:=by omega
  have W:Wt (gQ [g,k]):=qT ⟨by simp,by simp,fun q hq=>by simp at hq;exact hq.elim (fun z=>z ▸ gP) fun z=>z ▸ kP⟩;have hlw:(gQ [g,k]).length=3:=rfl;obtain ⟨d2,d3,hwa⟩:=oI G hm h64 hl0 W (by rw [hlw];omega) (who:=who) (c:=c);have hwo:=ka (gs:=[g,k]) ⟨by simp,by simp,fun q hq=>by simp at hq;exact hq.elim (fun z=>z ▸ gP) fun z=>z ▸ kP⟩;have s2:2<=sizeLine:=by decide
  refine eA ?_;show vd cr cu aZ (cZ c) (cV c) bR [.val (pP ns),.non,.non,.non,.non,.non,.non,.non,.non,.non,.non]=_;unfold vd;rw [aR (ρ':=[.val (pP ns),.val (gD ps),.non,.non,.non,.non,.non,.non,.non,.non,.non]) (by simp [hg])];rw [aR (ρ':=[.val (pP ns),.val (gD ps),.val (.int who),.non,.non,.non,.non,.non,.non,.non,.non]) (by rw [ew];simp [hv1])];rw [aR (ρ':=[.val (pP ns),.val (gD ps),.val (.int who),.val (.tuple (g.map .int)),.non,.non,.non,.non,.non,.non,.non]) (by simp [hv1,hgm])];rw [aR (ρ':=[.val (pP ns),.val (gD ps),.val (.int who),.val (.tuple (g.map .int)),.val (.tuple (k.map .int)),.non,.non,.non,.non,.non,.non]) (by simp [hv2,hkm])];rw [aR (ρ':=kR (pP ns) ps who g k [] .non .non .non .non .non) (by rfl)];obtain ⟨c7,t1⟩:=yx G hm h64 hown hl0 h12 h01 (a:=pP ns) (g:=g) (k:=k) (q:=g) gP (rows:=[]) (by simp) (c7:=.non) (c8:=.non) (c9:=.non) (c10:=.non) (c:=c);obtain ⟨c7',t2⟩:=yx G hm h64 hown hl0 h12 h01 (a:=pP ns) (g:=g) (k:=k) (q:=k) kP (rows:=[oT (j6 ps who g) ps.length]) (by simp) (c7:=c7) (c8:=.val (oT (j6 ps who g) ps.length)) (c9:=.non) (c10:=.non) (c:=c);have hfor:gf (aQ 6) (pF c) [.tuple (g.map .int),.tuple (k.map .int)] (kR (pP ns) ps who g k [] .non .non .non .non .non)=.ok (.nx (kR (pP ns) ps who g k [oT (j6 ps who g) ps.length,oT (j6 ps who k) ps.length] (.val (.tuple (k.map .int))) c7' (.val (oT (j6 ps who k) ps.length)) .non .non)):=by
    rw [cX];show (pF c (kR (pP ns) ps who g k [] (.val (.tuple (g.map .int))) .non .non .non .non)>>=_)=_;rw [t1,R.ok_bind,dZ,cX];show (pF c (kR (pP ns) ps who g k [oT (j6 ps who g) ps.length] (.val (.tuple (k.map .int))) c7 (.val (oT (j6 ps who g) ps.length)) .non .non)>>=_)=_;rw [t2,R.ok_bind,dZ,eO];rfl
  rw [aR (ρ':=kR (pP ns) ps who g k [oT (j6 ps who g) ps.length,oT (j6 ps who k) ps.length] (.val (.tuple (k.map .int))) c7' (.val (oT (j6 ps who k) ps.length)) .non .non) (by
    rw [fI,fH,cs,iH];simp only [aI,aV,ar,ay,R.ok_bind,List.length_cons,List.length_nil,Nat.zero_add,Nat.reduceAdd,if_pos s2,dD];unfold pF at hfor;rw [hfor];rfl)]
  rw [aR (ρ':=kR (pP ns) ps who g k [oT (j6 ps who g) ps.length,oT (j6 ps who k) ps.length] (.val (.tuple (k.map .int))) c7' (.val (oT (j6 ps who k) ps.length)) (.val (oT (fun i=>zP ps (gQ [g,k]) who (bQ (gQ [g,k]) 0 (aA ps i)*ps.length+i)) ps.length)) .non) (by
    simp only [bG,ca,bj,aI,aV,iH,ar,ay,cj,R.ok_bind,List.length_cons,List.length_nil,Nat.zero_add,Nat.reduceAdd,if_pos s2];rw [show PyData.tuple [PyData.tuple (g.map .int),PyData.tuple (k.map .int)]=zO [g,k] from rfl,hwo];simp only [R.ok_bind,hwa];rfl)]
  obtain ⟨c10,hcl⟩:=xX (ps:=ps) (who:=who) (a:=pP ns) (g:=g) (k:=k) (A:=j6 ps who g) (B:=j6 ps who k) (C:=fun i=>zP ps (gQ [g,k]) who (bQ (gQ [g,k]) 0 (aA ps i)*ps.length+i)) (c6:=.val (.tuple (k.map .int))) (c7:=c7') (c8:=.val (oT (j6 ps who k) ps.length)) (fun i hi hw=>u7 G hm hown h01 gP kP h12 hi hw) (ids ps.length) .non fun i hi=>hi
  have hr:lh [.int ps.length]=.ok ((ids ps.length).map .int):=wa (by omega);have hlen:dl (gD ps)=.ok (.int ps.length):=by simp
  rw [aR (ρ':=kR (pP ns) ps who g k [oT (j6 ps who g) ps.length,oT (j6 ps who k) ps.length] (.val (.tuple (k.map .int))) c7' (.val (oT (j6 ps who k) ps.length)) (.val (oT (fun i=>zP ps (gQ [g,k]) who (bQ (gQ [g,k]) 0 (aA ps i)*ps.length+i)) ps.length)) c10) (by
    rw [fI,fH,jL];simp -implicitDefEqProofs only [aI,aV,bZ,ar,ay,R.ok_bind,hlen,hr];unfold se at hcl;rw [hcl];rfl)]
  rfl
noncomputable def DO:List Stmt:=PySem.Challenge.pw_duelground_k84_whole_watched_again.main.body
noncomputable abbrev top (i:Nat):Stmt:=DO.getD i (.Pass ⟨0,0,0,0⟩)
noncomputable abbrev gU:Stmt:=top 49
noncomputable abbrev jA:Stmt:=top 50
noncomputable abbrev jx:Stmt:=top 51
noncomputable abbrev jy:Stmt:=top 52
noncomputable abbrev jB:Stmt:=top 53
noncomputable abbrev gi:Stmt:=top 54
noncomputable abbrev gI:Stmt:=top 56
noncomputable abbrev iS:Stmt:=top 14
noncomputable abbrev kF:Stmt:=top 9
noncomputable abbrev iT:Stmt:=top 10
noncomputable abbrev kD:Stmt:=top 11
noncomputable abbrev lr:Stmt:=top 15
noncomputable abbrev eQ:Stmt:=top 18
noncomputable abbrev ls:Stmt:=top 24
noncomputable abbrev dG:Stmt:=top 25
noncomputable abbrev gH:Stmt:=top 22
noncomputable abbrev eT:Stmt:=top 23
noncomputable abbrev iU:Stmt:=top 17
noncomputable abbrev fW:Stmt:=top 19
noncomputable abbrev jQ:Stmt:=top 16
noncomputable abbrev fu:Stmt:=top 27
noncomputable abbrev dn:Stmt:=top 20
noncomputable abbrev rf:Stmt:=top 28
noncomputable abbrev gG:Stmt:=top 46
noncomputable abbrev gg:Stmt:=top 45
noncomputable abbrev iW:Stmt:=top 30
noncomputable abbrev jP:Stmt:=top 43
noncomputable abbrev dP:Stmt:=top 44
noncomputable abbrev gT:Stmt:=top 37
noncomputable abbrev gF:Stmt:=top 38
noncomputable abbrev kE:Stmt:=top 39
noncomputable abbrev gh:Stmt:=top 40
noncomputable abbrev ic:Stmt:=top 47
noncomputable abbrev iV:Stmt:=top 41
noncomputable abbrev fw:Stmt:=top 42
noncomputable abbrev j9:Stmt:=top 57
section
variable {P:Program} {w:World} {K:PySem.W.Frag} {mg:Str->Option Value} {base:Heap} {f:Addr} {fd:FuncData} {k:Nat}
noncomputable abbrev jO:Stmt:=Ay (top 13) 0
theorem zW:aS ["self","who","places","moves"] ["self","who","places","moves"] (ai jO):=⟨rfl,rfl,rfl,by decide +kernel,rfl,by decide +kernel,by decide +kernel⟩
theorem zS {P:Program} {w:World} {K:PySem.W.Frag} {mg:Str->Option Value} {base:Heap} {f C:Addr} {fd:FuncData} (F:fX K "__init__" "Share.__init__" jO f fd) (cl:xE K C) (n0:eE K C "who") (n1:eE K C "places") (n2:eE K C "moves") :
    aY P w K mg base (cQ P w mg) 1 f fd ["self","who","places","moves"] (FA C ["who","places","moves"]):=by
  obtain ⟨oc,od,kV,doc,pm,an,cdv,ct,osl,rfl,lk,hcd⟩:=F.ex;refine yk (k:=0) lk hcd zW (fun vs H Q E h=>?_) fun A outer s H vs Q E hr h=>?_
  · obtain ⟨x,dx,ws,rfl,_,hl,_⟩:=h;rw [List.length_cons,hl];rfl
  · obtain ⟨x,dx,ws,rfl,hx,hl,k⟩:=h
    match ws,hl with
    | [w1,w2,w3],_ =>
      refine ⟨_,oa (uN (pv 0) (pv 1) rfl) (oa (uN (pv 0) (pv 2) rfl) (vZ (uN (pv 0) (pv 3) rfl))),?_⟩;refine ⟨_,rfl,_,rfl,x,C,dx,[],rfl,hx,cl,n0,(by show 0 < 1000;decide),_,rfl,_,rfl,x,C,dx,_,rfl,bd,cl,n1,(by show 1 < 1000;decide),_,rfl,_,rfl,x,C,dx,_,rfl,bd,cl,n2,(by refine Nat.lt_of_le_of_lt (gA _ _ _) ?_;exact Nat.lt_of_le_of_lt (Nat.succ_le_succ (gA _ _ _)) (by show 2 < 1000;decide)),?_⟩;refine k _ (by rw [bd,Eu (by decide +kernel) (by decide +kernel) (by decide +kernel)];rfl) fun b hb=>?_
      rw [av hb,av hb,av hb]
theorem oV:aS ["_law_script","_law_k"] ["_law_script","_law_k"] (ai gU):=⟨rfl,rfl,rfl,by decide +kernel,rfl,by decide +kernel,by decide +kernel⟩
theorem oR (W:fX K "_law_cell_at" "_law_cell_at" gU f fd) (b_len:mg "len" = none) :
    aY P w K mg base (cQ P w mg) (k+1) f fd ["_law_script","_law_k"] (dw (dB 2 (gL)) 2):=by
  refine aC W oV (G:=["len"]) (by decide +kernel) fun cdv A outer s H E hr T=>?_
  exact (am (dz (xT (ad (aa T 1 rfl)) (ad (bY T 0 rfl b_len (ad (aa T 0 rfl))))) (ap (aE (aG T.hu (ad (aa T 0 rfl)) (ad (aa T 1 rfl)) (fun _ _=>rfl)))) cR)
      (ap (aE aj)))
theorem rM:aS ["_law_script","_law_k","_law_drawn_here"] ["_law_script","_law_k"] (ai jA):=⟨rfl,rfl,rfl,by decide +kernel,rfl,by decide +kernel,by decide +kernel⟩
theorem rA (W:fX K "_law_mixed" "_law_mixed" jA f fd) {f28:Addr} {d28:FuncData} {cq:fK} (C28:fP P w K mg base k "_law_cell_at" ["_law_script","_law_k"] cq f28 d28) :
    aY P w K mg base (cQ P w mg) (k+1) f fd ["_law_script","_law_k"] (dw (dB 3 (jh cq)) 2):=by
  refine aC W rM (G:=["_law_cell_at"]) (by decide +kernel) fun cdv A outer s H E hr T=>?_
  exact (am (aP T 2 rfl (cw (ad (dS (ad (cg (ad (cg (ad (aq C28 hr T 0 rfl (ae (aa T 0 rfl) (ae (aa T 1 rfl) ak)) rfl (af (af ao)))) (ad (dS (ad aj) (ad (aa T 1 rfl)))))) (ad aj))) (ad aj))) (ad aj)))
      (ap (aE (cw (ad (cg (ad (cg (ad (dS (ad (aa T 2 rfl)) (ad (aa T 2 rfl)))) (ad (dS (ad aj) (ad (aa T 2 rfl)))))) (ad (aa T 1 rfl)))) (ad aj)))))
theorem rH:aS ["_law_number","_law_k","_law_drawn_here"] ["_law_number","_law_k"] (ai jx):=⟨rfl,rfl,rfl,by decide +kernel,rfl,by decide +kernel,by decide +kernel⟩
theorem rn (W:fX K "_law_drawn" "_law_drawn" jx f fd) :
    aY P w K mg base (cQ P w mg) (k+1) f fd ["_law_number","_law_k"] (dw (dB 3 (je)) 2):=by
  refine aC W rH (G:=[]) (by decide +kernel) fun cdv A outer s H E hr T=>?_
  exact (am (aP T 2 rfl (cw (ad (dS (ad (cg (ad (cg (ad (aa T 0 rfl)) (ad (dS (ad aj) (ad (aa T 1 rfl)))))) (ad aj))) (ad aj))) (ad aj)))
      (ap (aE (cw (ad (cg (ad (cg (ad (dS (ad (aa T 2 rfl)) (ad (aa T 2 rfl)))) (ad (dS (ad aj) (ad (aa T 2 rfl)))))) (ad (aa T 1 rfl)))) (ad aj)))))
theorem rJ:aS ["_law_number","_law_count","_law_found","_law_k"] ["_law_number","_law_count"] (ai jy):=⟨rfl,rfl,rfl,by decide +kernel,rfl,by decide +kernel,by decide +kernel⟩
theorem rq (W:fX K "_law_goals" "_law_goals" jy f fd) {f30:Addr} {d30:FuncData} {aM:fK} (C30:fP P w K mg base k "_law_drawn" ["_law_number","_law_k"] aM f30 d30) (b_int:mg "int" = none) (b_range:mg "range" = none) (b_sorted:mg "sorted" = none) (b_tuple:mg "tuple" = none) :
    aY P w K mg base (cQ P w mg) (k+1) f fd ["_law_number","_law_count"] (dw (dB 4 (jf aM)) 2):=by
  refine aC W rJ (G:=["range","int","_law_drawn","tuple","sorted"]) (by decide +kernel) fun cdv A outer s H E hr T=>?_
  exact (am (gZ T 2 rfl rU)
      (am (cW (have T:=T.nox;eL PassesOwn.never T.calm (dR T 0 rfl b_range (ae (cg (ad (cg (ad aj) (ad (cw (ad (aa T 0 rfl)) (ad aj))))) (ad (dS (ad aj) (ad (wB T 1 rfl b_int (ad (vf T.hu (ad (cw (ad (gp (ad (aa T 0 rfl)) (ad aj))) (ad aj))) (ad aj)))))))) ak) (af ao)) (aO T 3 rfl) (ap (xP T 2 rfl (cw (ad (aq C30 hr T 2 rfl (ae (aa T 0 rfl) (ae (aa T 3 rfl) ak)) rfl (af (af ao)))) (ad (aa T 1 rfl))) ed))))
      (ap (aE (bh T 3 rfl b_tuple (cT (kS T 4 rfl b_sorted (dA T 2 rfl))))))))
theorem rN:aS ["_law_number","_law_count","_law_high","_law_gain"] ["_law_number","_law_count","_law_high"] (ai jB):=⟨rfl,rfl,rfl,by decide +kernel,rfl,by decide +kernel,by decide +kernel⟩
theorem rB (W:fX K "_law_place" "_law_place" jB f fd) {f30:Addr} {d30:FuncData} {aM:fK} (C30:fP P w K mg base k "_law_drawn" ["_law_number","_law_k"] aM f30 d30) {f31:Addr} {d31:FuncData} {dc:fK} (C31:fP P w K mg base k "_law_goals" ["_law_number","_law_count"] dc f31 d31) :
    aY P w K mg base (cQ P w mg) (k+1) f fd ["_law_number","_law_count","_law_high"] (dw (dB 4 (ji aM dc)) 3):=by
  refine aC W rN (G:=["_law_goals","_law_drawn"]) (by decide +kernel) fun cdv A outer s H E hr T=>?_
  exact (am (aP T 3 rfl (gq (ad (cw (ad (gp (ad (aa T 0 rfl)) (ad aj))) (ad aj))) (ad aj)))
      (am (dz (e9 T.hu (ad (cw (ad (gp (ad (aa T 0 rfl)) (ad aj))) (ad aj))) (ad aj)) (ap (aP T 3 rfl (gq (ad (cw (ad (gp (ad (aa T 0 rfl)) (ad aj))) (ad aj))) (ad aj)))) cR)
      (ap (aE (eM (ae (cw (ad (aa T 0 rfl)) (ad aj)) (ae (cw (ad (gp (ad (aa T 0 rfl)) (ad aj))) (ad (cg (ad (aa T 2 rfl)) (ad aj)))) (ae (aa T 3 rfl) (ae (aq C31 hr T 0 rfl (ae (aq C30 hr T 1 rfl (ae (aa T 0 rfl) (ae aj ak)) rfl (af (af ao))) (ae (aa T 1 rfl) ak)) rfl (af (af ao))) ak)))))))))
theorem ql:aS ["_law_script","_law_most","_law_number","_law_count","_law_high"] ["_law_script","_law_most"] (ai gi):=⟨rfl,rfl,rfl,by decide +kernel,rfl,by decide +kernel,by decide +kernel⟩
theorem p9 (W:fX K "_law_ground" "_law_ground" gi f fd) {f29:Addr} {d29:FuncData} {aZ:fK} (C29:fP P w K mg base k "_law_mixed" ["_law_script","_law_k"] aZ f29 d29) {f32:Addr} {d32:FuncData} {cM:fK} (C32:fP P w K mg base k "_law_place" ["_law_number","_law_count","_law_high"] cM f32 d32) (b_len:mg "len" = none) (b_max:mg "max" = none) (b_min:mg "min" = none) (b_range:mg "range" = none) (b_tuple:mg "tuple" = none) :
    aY P w K mg base (cQ P w mg) (k+1) f fd ["_law_script","_law_most"] (dw (dB 5 (iu aZ cM)) 2):=by
  refine aC W ql (G:=["_law_mixed","min","max","len","tuple","range"]) (by decide +kernel) fun cdv A outer s H E hr T=>?_
  exact (am (aP T 2 rfl (aq C29 hr T 0 rfl (ae (aa T 0 rfl) (ae aj ak)) rfl (af (af ao))))
      (am (aP T 3 rfl (cg (ad aj) (ad (cw (ad (aa T 2 rfl)) (ad (xR T 1 rfl b_min (ad (aa T 1 rfl)) (ad (xQ T 2 rfl b_max (ad aj) (ad (bY T 3 rfl b_len (ad (aa T 0 rfl))))))))))))
      (am (aP T 4 rfl (aG T.hu (cT (jH (ae aj (ae aj (ae aj (ae aj (ae aj (ae aj ak)))))))) (ad (cw (ad (gp (ad (aa T 2 rfl)) (ad aj))) (ad aj))) (fun _ _=>rfl)))
      (ap (aE (bh T 4 rfl b_tuple (cT (bc (N:=["_law_k","_law_script","_law_count","_law_high"]) (own:=1) (G:=["_law_place","_law_mixed"]) (fr:=[0,3,4]) T rfl rfl (oN:=["_law_script","_law_most","_law_number","_law_count","_law_high"]) (on:=(ai gi).names) (by decide +kernel) (dR T 5 rfl b_range (ae (aa T 3 rfl) ak) (af ao)) (bu (by decide)) (fun cl C s' H' fp E' T=>⟨(aO T 0 rfl),cv,(aq C32 hr T 0 rfl (ae (aq C29 hr T 1 rfl (ae (aa T 1 rfl) (ae (cg (ad aj) (ad (aa T 0 rfl))) ak)) rfl (af (af ao))) (ae (aa T 2 rfl) (ae (aa T 3 rfl) ak))) rfl (af (af (af ao))))⟩)))))))))
theorem rL:aS ["_law_number"] ["_law_number"] (ai gI):=⟨rfl,rfl,rfl,by decide +kernel,rfl,by decide +kernel,by decide +kernel⟩
theorem rz (W:fX K "_law_marks" "_law_marks" gI f fd) {f30:Addr} {d30:FuncData} {aM:fK} (C30:fP P w K mg base k "_law_drawn" ["_law_number","_law_k"] aM f30 d30) (b_range:mg "range" = none) (b_tuple:mg "tuple" = none) :
    aY P w K mg base (cQ P w mg) (k+1) f fd ["_law_number"] (dw (dB 1 (jg aM)) 1):=by
  refine aC W rL (G:=["tuple","range"]) (by decide +kernel) fun cdv A outer s H E hr T=>?_
  exact (ap (aE (bh T 0 rfl b_tuple (cT (bc (N:=["_law_mark","_law_number"]) (own:=1) (G:=["_law_drawn"]) (fr:=[0]) T rfl rfl (oN:=["_law_number"]) (on:=(ai gI).names) (by decide +kernel) (dR T 1 rfl b_range (ae aj ak) (af ao)) (bu (by decide)) (fun cl C s' H' fp E' T=>⟨(aO T 0 rfl),(eK (e9 T.hu (ad (cw (ad (aq C30 hr T 0 rfl (ae (aa T 1 rfl) (ae (aa T 0 rfl) ak)) rfl (af (af ao)))) (ad aj))) (ad aj))),(aa T 0 rfl)⟩))))))
theorem qf:aS ["ground"] ["ground"] (ai iS):=⟨rfl,rfl,rfl,by decide +kernel,rfl,by decide +kernel,by decide +kernel⟩
theorem pX (W:fX K "all_places" "all_places" iS f fd) (b_len:mg "len" = none) (b_range:mg "range" = none) (b_tuple:mg "tuple" = none) :
    aY P w K mg base (cQ P w mg) (k+1) f fd ["ground"] (dw (dB 1 (io)) 1):=by
  refine aC W qf (G:=["tuple","range","len"]) (by decide +kernel) fun cdv A outer s H E hr T=>?_
  exact (ap (aE (wC T 0 rfl b_tuple 1 rfl b_range (ae (bY T 2 rfl b_len (ad (aa T 0 rfl))) ak))))
theorem tW:aS ["thing"] ["thing"] (ai kF):=⟨rfl,rfl,rfl,by decide +kernel,rfl,by decide +kernel,by decide +kernel⟩
theorem tL (W:fX K "is_whole" "is_whole" kF f fd) (b_bool:mg "bool" = none) (b_int:mg "int" = none) (b_isinstance:mg "isinstance" = none) :
    aY P w K mg base (cQ P w mg) (k+1) f fd ["thing"] (dw (dB 1 (mU)) 1):=by
  refine aC W tW (G:=["isinstance","int","bool"]) (by decide +kernel) fun cdv A outer s H E hr T=>?_
  exact (ap (aE (jl (qt T 0 rfl b_isinstance T 1 rfl b_int (ad (aa T 0 rfl))) (jn (xS (oW T 0 rfl b_isinstance T 2 rfl b_bool (ad (aa T 0 rfl))))))))
theorem qh:aS ["thing","low","high"] ["thing","low","high"] (ai iT):=⟨rfl,rfl,rfl,by decide +kernel,rfl,by decide +kernel,by decide +kernel⟩
theorem pZ (W:fX K "is_between" "is_between" iT f fd) {f0:Addr} {d0:FuncData} {dQ:fK} (C0:fP P w K mg base k "is_whole" ["thing"] dQ f0 d0) :
    aY P w K mg base (cQ P w mg) (k+1) f fd ["thing","low","high"] (dw (dB 3 (iq dQ)) 3):=by
  refine aC W qh (G:=["is_whole"]) (by decide +kernel) fun cdv A outer s H E hr T=>?_
  exact (ap (aE (jl (aq C0 hr T 0 rfl (ae (aa T 0 rfl) ak) rfl (af ao)) (jn (ni vT kH vT kH (ad (aa T 1 rfl)) (ad (aa T 0 rfl)) (ad (aa T 2 rfl)))))))
theorem tU:aS ["thing","count","least","number"] ["thing","count"] (ai kD):=⟨rfl,rfl,rfl,by decide +kernel,rfl,by decide +kernel,by decide +kernel⟩
theorem tJ (W:fX K "are_some" "are_some" kD f fd) {f1:Addr} {d1:FuncData} {aJ:fK} (C1:fP P w K mg base k "is_between" ["thing","low","high"] aJ f1 d1) (b_isinstance:mg "isinstance" = none) (b_tuple:mg "tuple" = none) :
    aY P w K mg base (cQ P w mg) (k+1) f fd ["thing","count"] (dw (dB 4 (kc aJ)) 2):=by
  refine aC W tU (G:=["isinstance","tuple","is_between"]) (by decide +kernel) fun cdv A outer s H E hr T=>?_
  exact (am (dz (eU (eh (jm T 0 rfl b_isinstance T 1 rfl b_tuple (ad (aa T 0 rfl))))) (ap (aE ed)) cR)
      (am (aP T 2 rfl aj)
      (am (cW (have T:=T.nox;eL PassesOwn.never T.calm (bF (aa T 0 rfl)) (aO T 3 rfl) (am (dz (eU (eh (aq C1 hr T 2 rfl (ae (aa T 3 rfl) (ae (aa T 2 rfl) (ae (gq (ad (aa T 1 rfl)) (ad aj)) ak))) rfl (af (af (af ao)))))) (ap (aE ed)) cR)
      (ap (aP T 2 rfl (cg (ad (aa T 3 rfl)) (ad aj)))))))
      (ap (aE ed)))))
theorem xM:aS ["some","others"] ["some","others"] (ai lr):=⟨rfl,rfl,rfl,by decide +kernel,rfl,by decide +kernel,by decide +kernel⟩
theorem xI (W:fX K "common" "common" lr f fd) (b_tuple:mg "tuple" = none) :
    aY P w K mg base (cQ P w mg) (k+1) f fd ["some","others"] (dw (dB 2 (mT)) 2):=by
  refine aC W xM (G:=["tuple"]) (by decide +kernel) fun cdv A outer s H E hr T=>?_
  exact (ap (aE (bh T 0 rfl b_tuple (cT (bc (N:=["number","others"]) (own:=1) (G:=[]) (fr:=[1]) T rfl rfl (oN:=["some","others"]) (on:=(ai lr).names) (by decide +kernel) (bF (aa T 0 rfl)) (bu (by decide)) (fun cl C s' H' fp E' T=>⟨(aO T 0 rfl),(eK (kT T.hu (ad (aa T 0 rfl)) (ad (aa T 1 rfl)) (by with_unfolding_all rfl))),(aa T 0 rfl)⟩))))))
theorem mo:aS ["moves","others"] ["moves","others"] (ai eQ):=⟨rfl,rfl,rfl,by decide +kernel,rfl,by decide +kernel,by decide +kernel⟩
theorem mf (W:fX K "moves_of_both" "moves_of_both" eQ f fd) (b_tuple:mg "tuple" = none) (b_zip:mg "zip" = none) :
    aY P w K mg base (cQ P w mg) (k+1) f fd ["moves","others"] (dw (dB 2 (fQ)) 2):=by
  refine aC W mo (G:=["tuple","zip"]) (by decide +kernel) fun cdv A outer s H E hr T=>?_
  exact (ap (aE (bh T 0 rfl b_tuple (cT (bc (N:=["move","other"]) (own:=2) (G:=[]) (fr:=[]) T rfl rfl (oN:=["moves","others"]) (on:=(ai eQ).names) (by decide +kernel) (xO T 1 rfl b_zip (aa T 0 rfl) (aa T 1 rfl)) (hJ (by decide) (by decide)) (fun cl C s' H' fp E' T=>⟨(gY T 0 1 rfl rfl),cv,(iD (lD (ad (aa T 0 rfl)) (ad dI)) (aa T 1 rfl) (aa T 0 rfl))⟩))))))
theorem xN:aS ["ranks"] ["ranks"] (ai ls):=⟨rfl,rfl,rfl,by decide +kernel,rfl,by decide +kernel,by decide +kernel⟩
theorem xJ (W:fX K "ranked" "ranked" ls f fd) (b_enumerate:mg "enumerate" = none) (b_tuple:mg "tuple" = none) :
    aY P w K mg base (cQ P w mg) (k+1) f fd ["ranks"] (dw (dB 1 (mV)) 1):=by
  refine aC W xN (G:=["tuple","enumerate"]) (by decide +kernel) fun cdv A outer s H E hr T=>?_
  exact (ap (aE (bh T 0 rfl b_tuple (cT (bc (N:=["number","rank"]) (own:=2) (G:=[]) (fr:=[]) T rfl rfl (oN:=["ranks"]) (on:=(ai ls).names) (by decide +kernel) (jF T 1 rfl b_enumerate (aa T 0 rfl)) (hJ (by decide) (by decide)) (fun cl C s' H' fp E' T=>⟨(gY T 0 1 rfl rfl),(eK (nv (ad (aa T 1 rfl)) (ad dI))),(aa T 0 rfl)⟩))))))
theorem mr:aS ["ground","who","ranks","moves","number"] ["ground","who","ranks"] (ai dG):=⟨rfl,rfl,rfl,by decide +kernel,rfl,by decide +kernel,by decide +kernel⟩
theorem mh (W:fX K "pulling_moves" "pulling_moves" dG f fd) {f12:Addr} {d12:FuncData} {cE:fK} (C12:fP P w K mg base k "ranked" ["ranks"] cE f12 d12) {t_GOALS:Tok} (g_GOALS:mg "GOALS" = some (.int 3 t_GOALS)) {t_WHO:Tok} (g_WHO:mg "WHO" = some (.int 0 t_WHO)) (b_tuple:mg "tuple" = none) :
    aY P w K mg base (cQ P w mg) (k+1) f fd ["ground","who","ranks"] (dw (dB 5 (fR cE)) 3):=by
  refine aC W mr (G:=["ranked","WHO","GOALS","tuple"]) (by decide +kernel) fun cdv A outer s H E hr T=>?_
  exact (am (fB 3 rfl (N:=["rank"]) (own:=1) (G:=[]) (fr:=[]) T rfl rfl (oN:=["ground","who","ranks","moves","number"]) (on:=(ai dG).names) (by decide +kernel) (bF (aa T 2 rfl)) (bu (by decide)) (fun cl C s' H' fp E' T=>⟨(aO T 0 rfl),cv,dI⟩))
      (am (cW (have T:=T.nox;eL PassesOwn.never T.calm (bF (aq C12 hr T 0 rfl (ae (aa T 2 rfl) ak) rfl (af ao))) (aO T 4 rfl) (ap (dz (mE (o8 (e9 T.hu (ad (aG T.hu (ad (aG T.hu (ad (aa T 0 rfl)) (ad (aa T 4 rfl)) (fun _ _=>rfl))) (ad (ba T 1 rfl g_WHO)) (fun _ _=>rfl))) (ad (aa T 1 rfl))) (ny (nr (ad (aG T.hu (ad (aa T 2 rfl)) (ad (aa T 4 rfl)) (fun _ _=>rfl))) (ad aj))))) (ap (jG T 3 rfl (have T:=T.nox;(aa T 4 rfl)) (aG T.hu (cT (bc (N:=["goal","ranks","number"]) (own:=1) (G:=[]) (fr:=[2,4]) T rfl rfl (oN:=["ground","who","ranks","moves","number"]) (on:=(ai dG).names) (by decide +kernel) (bF (aG T.hu (ad (aG T.hu (ad (aa T 0 rfl)) (ad (aa T 4 rfl)) (fun _ _=>rfl))) (ad (ba T 2 rfl g_GOALS)) (fun _ _=>rfl))) (bu (by decide)) (fun cl C s' H' fp E' T=>⟨(aO T 0 rfl),(eK (e9 T.hu (ad (aG T.hu (ad (aa T 1 rfl)) (ad (aa T 0 rfl)) (fun _ _=>rfl))) (ad (gq (ad (aG T.hu (ad (aa T 1 rfl)) (ad (aa T 2 rfl)) (fun _ _=>rfl))) (ad aj))))),(aa T 0 rfl)⟩))) (ad aj) (fun _ _=>rfl)))) cR))))
      (ap (aE (bh T 3 rfl b_tuple (dA T 3 rfl))))))
theorem rG:aS ["place","ways","who","ranks","known"] ["place","ways","who","ranks"] (ai gH):=⟨rfl,rfl,rfl,by decide +kernel,rfl,by decide +kernel,by decide +kernel⟩
theorem rm (W:fX K "is_forced" "is_forced" gH f fd) {t_WHO:Tok} (g_WHO:mg "WHO" = some (.int 0 t_WHO)) (b_len:mg "len" = none) :
    aY P w K mg base (cQ P w mg) (k+1) f fd ["place","ways","who","ranks"] (dw (dB 5 (jd)) 4):=by
  refine aC W rG (G:=["WHO","len"]) (by decide +kernel) fun cdv A outer s H E hr T=>?_
  exact (am (jk (fB 4 rfl (N:=["goal","ranks"]) (own:=1) (G:=[]) (fr:=[3]) T rfl rfl (oN:=["place","ways","who","ranks","known"]) (on:=(ai gH).names) (by decide +kernel) (bF (aa T 1 rfl)) (bu (by decide)) (fun cl C s' H' fp E' T=>⟨(aO T 0 rfl),(eK (nv (ad (aG T.hu (ad (aa T 1 rfl)) (ad (aa T 0 rfl)) (fun _ _=>rfl))) (ad dI))),(aa T 0 rfl)⟩)) (show 4 < 5 by decide))
      (am (dz (e9 T.hu (ad (aG T.hu (ad (aa T 0 rfl)) (ad (ba T 0 rfl g_WHO)) (fun _ _=>rfl))) (ad (aa T 2 rfl))) (ap (aE (Aa (ad (bY T 1 rfl b_len (ad (aa T 4 rfl)))) (ad aj)))) cR)
      (ap (aE (vf T.hu (ad (bY T 1 rfl b_len (ad (aa T 4 rfl)))) (ad (bY T 1 rfl b_len (ad (aa T 1 rfl)))))))))
theorem tY:aS ["ground","inside","who","goals","ways","ranks","rank","found","unranked","number"] ["ground","inside","who","goals"] (ai eT):=⟨rfl,rfl,rfl,by decide +kernel,rfl,by decide +kernel,by decide +kernel⟩
theorem tN (W:fX K "ranks_to" "ranks_to" eT f fd) {f4:Addr} {d4:FuncData} {bD:fK} (C4:fP P w K mg base k "common" ["some","others"] bD f4 d4) {f10:Addr} {d10:FuncData} {bU:fK} (C10:fP P w K mg base k "is_forced" ["place","ways","who","ranks"] bU f10 d10) {t_GOALS:Tok} (g_GOALS:mg "GOALS" = some (.int 3 t_GOALS)) (b_len:mg "len" = none) (b_list:mg "list" = none) (b_range:mg "range" = none) (b_tuple:mg "tuple" = none) :
    aY P w K mg base (cQ P w mg) (k+1) f fd ["ground","inside","who","goals"] (dw (dB 10 (kg bD bU)) 4):=by
  refine aC W tY (G:=["range","len","list","tuple"]) (by decide +kernel) fun cdv A outer s H E hr T=>?_
  exact (am (aP T 4 rfl (kO (bc (N:=["place","inside"]) (own:=1) (G:=["common","GOALS"]) (fr:=[1]) T rfl rfl (oN:=["ground","inside","who","goals","ways","ranks","rank","found","unranked","number"]) (on:=(ai eT).names) (by decide +kernel) (bF (aa T 0 rfl)) (bu (by decide)) (fun cl C s' H' fp E' T=>⟨(aO T 0 rfl),cv,(aq C4 hr T 0 rfl (ae (aG T.hu (ad (aa T 0 rfl)) (ad (ba T 1 rfl g_GOALS)) (fun _ _=>rfl)) (ae (aa T 1 rfl) ak)) rfl (af (af ao)))⟩))))
      (am (gZ T 5 rfl (bc (N:=["number","goals"]) (own:=1) (G:=[]) (fr:=[3]) T rfl rfl (oN:=["ground","inside","who","goals","ways","ranks","rank","found","unranked","number"]) (on:=(ai eT).names) (by decide +kernel) (dR T 0 rfl b_range (ae (bY T 1 rfl b_len (ad (aa T 0 rfl))) ak) (af ao)) (bu (by decide)) (fun cl C s' H' fp E' T=>⟨(aO T 0 rfl),cv,(iD (kT T.hu (ad (aa T 0 rfl)) (ad (aa T 1 rfl)) (by with_unfolding_all rfl)) aj dI)⟩)))
      (am (aP T 6 rfl aj)
      (am (aP T 7 rfl (kO (nq T 2 rfl b_list (ad (aa T 3 rfl)))))
      (am (cW (have T:=T.nox;nc 1000000 PassesOwn.never (nr (ad (bY T 1 rfl b_len (ad (aa T 7 rfl)))) (ad aj)) (am (wA T 6 rfl aj)
      (am (jk (fB 8 rfl (N:=["number","ranks"]) (own:=1) (G:=[]) (fr:=[5]) T rfl rfl (oN:=["ground","inside","who","goals","ways","ranks","rank","found","unranked","number"]) (on:=(ai eT).names) (by decide +kernel) (bF (aa T 1 rfl)) (bu (by decide)) (fun cl C s' H' fp E' T=>⟨(aO T 0 rfl),(eK (lD (ad (aG T.hu (dA T 1 rfl) (ad (aa T 0 rfl)) (fun _ _=>rfl))) (ad dI))),(aa T 0 rfl)⟩)) (show 8 < 10 by decide))
      (am (jk (fB 7 rfl (N:=["number","ground","ways","who","ranks"]) (own:=1) (G:=["is_forced"]) (fr:=[0,4,2,5]) T rfl rfl (oN:=["ground","inside","who","goals","ways","ranks","rank","found","unranked","number"]) (on:=(ai eT).names) (by decide +kernel) (bF (aa T 8 rfl)) (bu (by decide)) (fun cl C s' H' fp E' T=>⟨(aO T 0 rfl),(eK (eh (ua 4 (aq C10 hr T 0 rfl (ae (aG T.hu (ad (aa T 1 rfl)) (ad (aa T 0 rfl)) (fun _ _=>rfl)) (ae (aG T.hu (ad (aa T 2 rfl)) (ad (aa T 0 rfl)) (fun _ _=>rfl)) (ae (aa T 3 rfl) (ae (aa T 4 rfl) ak)))) rfl (af (af (af (af ao)))))))),(aa T 0 rfl)⟩)) (show 7 < 10 by decide))
      (ap (cW (have T:=T.nox;eL PassesOwn.never T.calm (bF (aa T 7 rfl)) (aO T 9 rfl) (ap (jG T 5 rfl (have T:=T.nox;(aa T 9 rfl)) (aa T 6 rfl)))))))))))
      (ap (aE (bh T 3 rfl b_tuple (dA T 5 rfl)))))))))
theorem tX:aS ["ground"] ["ground"] (ai iU):=⟨rfl,rfl,rfl,by decide +kernel,rfl,by decide +kernel,by decide +kernel⟩
theorem tM (W:fX K "no_moves" "no_moves" iU f fd) (b_tuple:mg "tuple" = none) :
    aY P w K mg base (cQ P w mg) (k+1) f fd ["ground"] (dw (dB 1 (kf)) 1):=by
  refine aC W tX (G:=["tuple"]) (by decide +kernel) fun cdv A outer s H E hr T=>?_
  exact (ap (aE (bh T 0 rfl b_tuple (cT (bc (N:=["place"]) (own:=1) (G:=[]) (fr:=[]) T rfl rfl (oN:=["ground"]) (on:=(ai iU).names) (by decide +kernel) (bF (aa T 0 rfl)) (bu (by decide)) (fun cl C s' H' fp E' T=>⟨(aO T 0 rfl),cv,dI⟩))))))
theorem mw:aS ["ground","who","part","moves","number"] ["ground","who","part"] (ai fW):=⟨rfl,rfl,rfl,by decide +kernel,rfl,by decide +kernel,by decide +kernel⟩
theorem ml (W:fX K "staying_moves" "staying_moves" fW f fd) {f4:Addr} {d4:FuncData} {bD:fK} (C4:fP P w K mg base k "common" ["some","others"] bD f4 d4) {f6:Addr} {d6:FuncData} {bT:fK} (C6:fP P w K mg base k "no_moves" ["ground"] bT f6 d6) {t_GOALS:Tok} (g_GOALS:mg "GOALS" = some (.int 3 t_GOALS)) {t_WHO:Tok} (g_WHO:mg "WHO" = some (.int 0 t_WHO)) (b_list:mg "list" = none) (b_tuple:mg "tuple" = none) :
    aY P w K mg base (cQ P w mg) (k+1) f fd ["ground","who","part"] (dw (dB 5 (fS bD bT)) 3):=by
  refine aC W mw (G:=["list","no_moves","WHO","common","GOALS","tuple"]) (by decide +kernel) fun cdv A outer s H E hr T=>?_
  exact (am (gZ T 3 rfl (nq T 0 rfl b_list (ad (aq C6 hr T 1 rfl (ae (aa T 0 rfl) ak) rfl (af ao)))))
      (am (cW (have T:=T.nox;eL PassesOwn.never T.calm (bF (aa T 2 rfl)) (aO T 4 rfl) (ap (dz (e9 T.hu (ad (aG T.hu (ad (aG T.hu (ad (aa T 0 rfl)) (ad (aa T 4 rfl)) (fun _ _=>rfl))) (ad (ba T 2 rfl g_WHO)) (fun _ _=>rfl))) (ad (aa T 1 rfl))) (ap (jG T 3 rfl (have T:=T.nox;(aa T 4 rfl)) (aG T.hu (ad (aq C4 hr T 3 rfl (ae (aG T.hu (ad (aG T.hu (ad (aa T 0 rfl)) (ad (aa T 4 rfl)) (fun _ _=>rfl))) (ad (ba T 4 rfl g_GOALS)) (fun _ _=>rfl)) (ae (aa T 2 rfl) ak)) rfl (af (af ao)))) (ad aj) (fun _ _=>rfl)))) cR))))
      (ap (aE (bh T 5 rfl b_tuple (dA T 3 rfl))))))
theorem wz:aS ["some","others"] ["some","others"] (ai jQ):=⟨rfl,rfl,rfl,by decide +kernel,rfl,by decide +kernel,by decide +kernel⟩
theorem wr (W:fX K "without" "without" jQ f fd) (b_tuple:mg "tuple" = none) :
    aY P w K mg base (cQ P w mg) (k+1) f fd ["some","others"] (dw (dB 2 (lC)) 2):=by
  refine aC W wz (G:=["tuple"]) (by decide +kernel) fun cdv A outer s H E hr T=>?_
  exact (ap (aE (bh T 0 rfl b_tuple (cT (bc (N:=["number","others"]) (own:=1) (G:=[]) (fr:=[1]) T rfl rfl (oN:=["some","others"]) (on:=(ai jQ).names) (by decide +kernel) (bF (aa T 0 rfl)) (bu (by decide)) (fun cl C s' H' fp E' T=>⟨(aO T 0 rfl),(eK (rV T.hu (ad (aa T 0 rfl)) (ad (aa T 1 rfl)) (by with_unfolding_all rfl))),(aa T 0 rfl)⟩))))))
theorem kM:aS ["ground","inside","who","goals","ranks","away","moves","other"] ["ground","inside","who","goals"] (ai fu):=⟨rfl,rfl,rfl,by decide +kernel,rfl,by decide +kernel,by decide +kernel⟩
theorem kK (W:fX K "share_by_coming" "share_by_coming" fu f fd) {f4:Addr} {d4:FuncData} {bD:fK} (C4:fP P w K mg base k "common" ["some","others"] bD f4 d4) {f7:Addr} {d7:FuncData} {aN:fK} (C7:fP P w K mg base k "moves_of_both" ["moves","others"] aN f7 d7) {f13:Addr} {d13:FuncData} {bI:fK} (C13:fP P w K mg base k "pulling_moves" ["ground","who","ranks"] bI f13 d13) {f12:Addr} {d12:FuncData} {cE:fK} (C12:fP P w K mg base k "ranked" ["ranks"] cE f12 d12) {f11:Addr} {d11:FuncData} {di:fK} (C11:fP P w K mg base k "ranks_to" ["ground","inside","who","goals"] di f11 d11) {f8:Addr} {d8:FuncData} {bJ:fK} (C8:fP P w K mg base k "staying_moves" ["ground","who","part"] bJ f8 d8) {f5:Addr} {d5:FuncData} {cc:fK} (C5:fP P w K mg base k "without" ["some","others"] cc f5 d5) (b_len:mg "len" = none) {c_Share:Addr} (cl_Share:xE K c_Share) (n_Share_moves:eE K c_Share "moves") (n_Share_places:eE K c_Share "places") (n_Share_who:eE K c_Share "who") (m_Share:mg "Share" = some (.ref c_Share)) {fi_Share:Addr} {di_Share:FuncData} (MK_Share:Mk K c_Share fi_Share) (I_Share:aY P w K mg base (cQ P w mg) 1 fi_Share di_Share ["self","who","places","moves"] (FA c_Share ["who","places","moves"])) (B_Share:bB K di_Share ["self","who","places","moves"] []) (hk:2<=k) :
    aY P w K mg base (cQ P w mg) (k+1) f fd ["ground","inside","who","goals"] (dw (dB 8 (eZ bD aN bI cE di bJ cc c_Share)) 4):=by
  refine aC W kM (G:=["ranks_to","common","without","ranked","len","moves_of_both","pulling_moves","staying_moves","Share"]) (by decide +kernel) fun cdv A outer s H E hr T=>?_
  exact (am (aP T 4 rfl (aq C11 hr T 0 rfl (ae (aa T 0 rfl) (ae (aa T 1 rfl) (ae (aa T 2 rfl) (ae (aq C4 hr T 1 rfl (ae (aa T 3 rfl) (ae (aa T 1 rfl) ak)) rfl (af (af ao))) ak)))) rfl (af (af (af (af ao))))))
      (am (aP T 5 rfl (aq C5 hr T 2 rfl (ae (aa T 1 rfl) (ae (aq C12 hr T 3 rfl (ae (aa T 4 rfl) ak) rfl (af ao)) ak)) rfl (af (af ao))))
      (am (dz (e9 T.hu (ad (bY T 4 rfl b_len (ad (aa T 5 rfl)))) (ad aj)) (am (aP T 6 rfl (aq C7 hr T 5 rfl (ae (aq C13 hr T 6 rfl (ae (aa T 0 rfl) (ae (aa T 2 rfl) (ae (aa T 4 rfl) ak))) rfl (af (af (af ao)))) (ae (aq C8 hr T 7 rfl (ae (aa T 0 rfl) (ae (aa T 2 rfl) (ae (aa T 1 rfl) ak))) rfl (af (af (af ao)))) ak)) rfl (af (af ao))))
      (ap (aE (rT MK_Share I_Share (hr.mono hk) T 8 rfl m_Share B_Share (ae (aa T 2 rfl) (ae (aa T 1 rfl) (ae (aa T 6 rfl) ak))) (af (af (af ao))))))) cR)
      (am (aP T 7 rfl (gq (ad aj) (ad (aa T 2 rfl))))
      (am (aP T 4 rfl (aq C11 hr T 0 rfl (ae (aa T 0 rfl) (ae (aa T 1 rfl) (ae (aa T 7 rfl) (ae (aa T 5 rfl) ak)))) rfl (af (af (af (af ao))))))
      (am (aP T 6 rfl (aq C7 hr T 5 rfl (ae (aq C13 hr T 6 rfl (ae (aa T 0 rfl) (ae (aa T 7 rfl) (ae (aa T 4 rfl) ak))) rfl (af (af (af ao)))) (ae (aq C8 hr T 7 rfl (ae (aa T 0 rfl) (ae (aa T 7 rfl) (ae (aa T 5 rfl) ak))) rfl (af (af (af ao)))) ak)) rfl (af (af ao))))
      (ap (aE (rT MK_Share I_Share (hr.mono hk) T 8 rfl m_Share B_Share (ae (aa T 7 rfl) (ae (aq C12 hr T 3 rfl (ae (aa T 4 rfl) ak) rfl (af ao)) (ae (aa T 6 rfl) ak))) (af (af (af ao))))))))))))
theorem jW:aS ["ground","shares","winners","moves","share","number"] ["ground","shares"] (ai dn):=⟨rfl,rfl,rfl,by decide +kernel,rfl,by decide +kernel,by decide +kernel⟩
theorem jU (W:fX K "winners_and_moves" "winners_and_moves" dn f fd) {f7:Addr} {d7:FuncData} {aN:fK} (C7:fP P w K mg base k "moves_of_both" ["moves","others"] aN f7 d7) {f6:Addr} {d6:FuncData} {bT:fK} (C6:fP P w K mg base k "no_moves" ["ground"] bT f6 d6) (b_tuple:mg "tuple" = none) {c_Share:Addr} (cl_Share:xE K c_Share) (n_Share_moves:eE K c_Share "moves") (n_Share_places:eE K c_Share "places") (n_Share_who:eE K c_Share "who") :
    aY P w K mg base (cQ P w mg) (k+1) f fd ["ground","shares"] (dw (dB 6 (eD aN bT c_Share)) 2):=by
  refine aC W jW (G:=["no_moves","moves_of_both","tuple"]) (by decide +kernel) fun cdv A outer s H E hr T=>?_
  exact (am (fB 2 rfl (N:=["place"]) (own:=1) (G:=[]) (fr:=[]) T rfl rfl (oN:=["ground","shares","winners","moves","share","number"]) (on:=(ai dn).names) (by decide +kernel) (bF (aa T 0 rfl)) (bu (by decide)) (fun cl C s' H' fp E' T=>⟨(aO T 0 rfl),cv,dI⟩))
      (am (aP T 3 rfl (aq C6 hr T 0 rfl (ae (aa T 0 rfl) ak) rfl (af ao)))
      (am (cW (have T:=T.nox;eL PassesOwn.never T.calm (bF (aa T 1 rfl)) (aO T 4 rfl) (am (cW (have T:=T.nox;eL PassesOwn.never T.calm (bF (kQ cl_Share n_Share_places (aa T 4 rfl))) (aO T 5 rfl) (ap (jG T 2 rfl (have T:=T.nox;(aa T 5 rfl)) (kQ cl_Share n_Share_who (aa T 4 rfl))))))
      (ap (aP T 3 rfl (aq C7 hr T 1 rfl (ae (aa T 3 rfl) (ae (kQ cl_Share n_Share_moves (aa T 4 rfl)) ak)) rfl (af (af ao))))))))
      (ap (aE (eM (ae (bh T 2 rfl b_tuple (dA T 2 rfl)) (ae (aa T 3 rfl) ak))))))))
theorem zX:aS ["ground","who","goals","shares","inside","share"] ["ground","who","goals"] (ai rf):=⟨rfl,rfl,rfl,by decide +kernel,rfl,by decide +kernel,by decide +kernel⟩
theorem zT (W:fX K "again" "again" rf f fd) {f3:Addr} {d3:FuncData} {cF:fK} (C3:fP P w K mg base k "all_places" ["ground"] cF f3 d3) {f2:Addr} {d2:FuncData} {bH:fK} (C2:fP P w K mg base k "are_some" ["thing","count"] bH f2 d2) {f14:Addr} {d14:FuncData} {br:fK} (C14:fP P w K mg base k "share_by_coming" ["ground","inside","who","goals"] br f14 d14) {f9:Addr} {d9:FuncData} {bo:fK} (C9:fP P w K mg base k "winners_and_moves" ["ground","shares"] bo f9 d9) {f5:Addr} {d5:FuncData} {cc:fK} (C5:fP P w K mg base k "without" ["some","others"] cc f5 d5) (b_len:mg "len" = none) {c_NoPart:Addr} (m_NoPart:mg "NoPart" = some (.ref c_NoPart)) (q_NoPart:PySem.W.excIn K c_NoPart Bq Ax=true) {c_Share:Addr} (cl_Share:xE K c_Share) (n_Share_places:eE K c_Share "places") :
    aY P w K mg base (cQ P w mg) (k+1) f fd ["ground","who","goals"] (dw (dB 6 (qd cF bH br bo cc c_Share)) 3):=by
  refine aC W zX (G:=["are_some","len","NoPart","all_places","share_by_coming","without","winners_and_moves"]) (by decide +kernel) fun cdv A outer s H E hr T=>?_
  exact (am (dz (eU (eh (aq C2 hr T 0 rfl (ae (aa T 2 rfl) (ae (bY T 1 rfl b_len (ad (aa T 0 rfl))) ak)) rfl (af (af ao))))) (ap (kj T 2 rfl m_NoPart q_NoPart (have T:=T.nox;nk))) cR)
      (am (gZ T 3 rfl (jH ak))
      (am (aP T 4 rfl (aq C3 hr T 3 rfl (ae (aa T 0 rfl) ak) rfl (af ao)))
      (am (cW (have T:=T.nox;nc 1000000 PassesOwn.never (nr (ad (bY T 1 rfl b_len (ad (aa T 4 rfl)))) (ad aj)) (am (aP T 5 rfl (aq C14 hr T 4 rfl (ae (aa T 0 rfl) (ae (aa T 4 rfl) (ae (aa T 1 rfl) (ae (aa T 2 rfl) ak)))) rfl (af (af (af (af ao))))))
      (am (lR T 3 rfl (aa T 5 rfl))
      (ap (aP T 4 rfl (aq C5 hr T 5 rfl (ae (aa T 4 rfl) (ae (kQ cl_Share n_Share_places (aa T 5 rfl)) ak)) rfl (af (af ao)))))))))
      (ap (z9 3 (aE (aq C9 hr T 6 rfl (ae (aa T 0 rfl) (ae (aa T 3 rfl) ak)) rfl (af (af ao))))))))))
theorem rF:aS ["told","count"] ["told","count"] (ai gG):=⟨rfl,rfl,rfl,by decide +kernel,rfl,by decide +kernel,by decide +kernel⟩
theorem rl (W:fX K "by_states" "by_states" gG f fd) (b_len:mg "len" = none) (b_range:mg "range" = none) (b_tuple:mg "tuple" = none) :
    aY P w K mg base (cQ P w mg) (k+1) f fd ["told","count"] (dw (dB 2 (jc)) 2):=by
  refine aC W rF (G:=["tuple","range","len"]) (by decide +kernel) fun cdv A outer s H E hr T=>?_
  exact (ap (aE (bh T 0 rfl b_tuple (cT (bc (N:=["first","told","count"]) (own:=1) (G:=["tuple"]) (fr:=[0,1]) T rfl rfl (oN:=["told","count"]) (on:=(ai gG).names) (by decide +kernel) (rR T 1 rfl b_range (ae aj (ae (bY T 2 rfl b_len (ad (aa T 0 rfl))) (ae (aa T 1 rfl) ak))) (af (af (af ao)))) (bu (by decide)) (fun cl C s' H' fp E' T=>⟨(aO T 0 rfl),cv,(bh T 0 rfl b_tuple (ad (ub (ad (aa T 1 rfl)) (o7 (aa T 0 rfl)) (o7 (cg (ad (aa T 0 rfl)) (ad (aa T 2 rfl)))))))⟩))))))
theorem qg:aS ["ground","watcher","count"] ["ground","watcher"] (ai gg):=⟨rfl,rfl,rfl,by decide +kernel,rfl,by decide +kernel,by decide +kernel⟩
theorem pY (W:fX K "good_pairs" "good_pairs" gg f fd) {t_GOOD:Tok} (g_GOOD:mg "GOOD" = some (.int 0 t_GOOD)) (b_len:mg "len" = none) (b_range:mg "range" = none) (b_tuple:mg "tuple" = none) :
    aY P w K mg base (cQ P w mg) (k+1) f fd ["ground","watcher"] (dw (dB 3 (ip)) 2):=by
  refine aC W qg (G:=["len","tuple","range"]) (by decide +kernel) fun cdv A outer s H E hr T=>?_
  exact (am (aP T 2 rfl (bY T 0 rfl b_len (ad (aa T 0 rfl))))
      (ap (aE (bh T 1 rfl b_tuple (cT (bc (N:=["pair","watcher","count"]) (own:=1) (G:=["GOOD"]) (fr:=[1,2]) T rfl rfl (oN:=["ground","watcher","count"]) (on:=(ai gg).names) (by decide +kernel) (dR T 2 rfl b_range (ae (dS (ad (aa T 2 rfl)) (ad (bY T 0 rfl b_len (ad (aa T 1 rfl))))) ak) (af ao)) (bu (by decide)) (fun cl C s' H' fp E' T=>⟨(aO T 0 rfl),(eK (e9 T.hu (ad (aG T.hu (ad (aG T.hu (ad (aa T 1 rfl)) (ad (gp (ad (aa T 0 rfl)) (ad (aa T 2 rfl)))) (fun _ _=>rfl))) (ad (ba T 0 rfl g_GOOD)) (fun _ _=>rfl))) (ad aj))),(aa T 0 rfl)⟩)))))))
theorem qp:aS ["place","goals"] ["place","goals"] (ai iW):=⟨rfl,rfl,rfl,by decide +kernel,rfl,by decide +kernel,by decide +kernel⟩
theorem qb (W:fX K "with_goals" "with_goals" iW f fd) {t_GAIN:Tok} (g_GAIN:mg "GAIN" = some (.int 2 t_GAIN)) {t_MARK:Tok} (g_MARK:mg "MARK" = some (.int 1 t_MARK)) {t_WHO:Tok} (g_WHO:mg "WHO" = some (.int 0 t_WHO)) (b_tuple:mg "tuple" = none) :
    aY P w K mg base (cQ P w mg) (k+1) f fd ["place","goals"] (dw (dB 2 (iy)) 2):=by
  refine aC W qp (G:=["WHO","MARK","GAIN","tuple"]) (by decide +kernel) fun cdv A outer s H E hr T=>?_
  exact (ap (aE (eM (ae (aG T.hu (ad (aa T 0 rfl)) (ad (ba T 0 rfl g_WHO)) (fun _ _=>rfl)) (ae (aG T.hu (ad (aa T 0 rfl)) (ad (ba T 1 rfl g_MARK)) (fun _ _=>rfl)) (ae (aG T.hu (ad (aa T 0 rfl)) (ad (ba T 2 rfl g_GAIN)) (fun _ _=>rfl)) (ae (bh T 3 rfl b_tuple (ad (aa T 1 rfl))) ak)))))))
theorem wx:aS ["ground","state","place","goals"] ["ground","state","place"] (ai jP):=⟨rfl,rfl,rfl,by decide +kernel,rfl,by decide +kernel,by decide +kernel⟩
theorem wp (W:fX K "pair_of" "pair_of" jP f fd) {f16:Addr} {d16:FuncData} {cI:fK} (C16:fP P w K mg base k "with_goals" ["place","goals"] cI f16 d16) {t_GOALS:Tok} (g_GOALS:mg "GOALS" = some (.int 3 t_GOALS)) {t_MARK:Tok} (g_MARK:mg "MARK" = some (.int 1 t_MARK)) {t_STEPS:Tok} (g_STEPS:mg "STEPS" = some (.int 1 t_STEPS)) (b_len:mg "len" = none) (b_sorted:mg "sorted" = none) :
    aY P w K mg base (cQ P w mg) (k+1) f fd ["ground","state","place"] (dw (dB 4 (lA cI)) 3):=by
  refine aC W wx (G:=["GOALS","with_goals","sorted"]) (by decide +kernel) fun cdv A outer s H E hr T=>?_
  exact (am (jk (fB 3 rfl (N:=["goal","state","ground"]) (own:=1) (G:=["STEPS","MARK","len"]) (fr:=[1,0]) T rfl rfl (oN:=["ground","state","place","goals"]) (on:=(ai jP).names) (by decide +kernel) (bF (aG T.hu (ad (aa T 2 rfl)) (ad (ba T 0 rfl g_GOALS)) (fun _ _=>rfl))) (bu (by decide)) (fun cl C s' H' fp E' T=>⟨(aO T 0 rfl),cv,(cg (ad (dS (ad (aG T.hu (ad (aG T.hu (ad (aa T 1 rfl)) (ad (ba T 0 rfl g_STEPS)) (fun _ _=>rfl))) (ad (aG T.hu (ad (aG T.hu (ad (aa T 2 rfl)) (ad (aa T 0 rfl)) (fun _ _=>rfl))) (ad (ba T 1 rfl g_MARK)) (fun _ _=>rfl))) (fun _ _=>rfl))) (ad (bY T 2 rfl b_len (ad (aa T 2 rfl)))))) (ad (aa T 0 rfl)))⟩)) (show 3 < 4 by decide))
      (ap (aE (aq C16 hr T 1 rfl (ae (aa T 2 rfl) (ae (kO (kS T 2 rfl b_sorted (ad (aa T 3 rfl)))) ak)) rfl (af (af ao))))))
theorem kL:aS ["ground","watcher","pairs","state"] ["ground","watcher"] (ai dP):=⟨rfl,rfl,rfl,by decide +kernel,rfl,by decide +kernel,by decide +kernel⟩
theorem kJ (W:fX K "ground_of_pairs" "ground_of_pairs" dP f fd) {f23:Addr} {d23:FuncData} {cU:fK} (C23:fP P w K mg base k "pair_of" ["ground","state","place"] cU f23 d23) (b_tuple:mg "tuple" = none) :
    aY P w K mg base (cQ P w mg) (k+1) f fd ["ground","watcher"] (dw (dB 4 (eY cU)) 2):=by
  refine aC W kL (G:=["tuple"]) (by decide +kernel) fun cdv A outer s H E hr T=>?_
  exact (am (gZ T 2 rfl (jH ak))
      (am (cW (have T:=T.nox;eL PassesOwn.never T.calm (bF (aa T 1 rfl)) (aO T 3 rfl) (ap (rS T 2 rfl (kO (bc (N:=["place","ground","state"]) (own:=1) (G:=["pair_of"]) (fr:=[0,3]) T rfl rfl (oN:=["ground","watcher","pairs","state"]) (on:=(ai dP).names) (by decide +kernel) (bF (aa T 0 rfl)) (bu (by decide)) (fun cl C s' H' fp E' T=>⟨(aO T 0 rfl),cv,(aq C23 hr T 0 rfl (ae (aa T 1 rfl) (ae (aa T 2 rfl) (ae (aa T 0 rfl) ak))) rfl (af (af (af ao))))⟩)))))))
      (ap (aE (bh T 0 rfl b_tuple (dA T 2 rfl))))))
theorem oU:aS ["thing","least","most"] ["thing","least","most"] (ai gT):=⟨rfl,rfl,rfl,by decide +kernel,rfl,by decide +kernel,by decide +kernel⟩
theorem oQ (W:fX K "is_tuple_of" "is_tuple_of" gT f fd) (b_isinstance:mg "isinstance" = none) (b_len:mg "len" = none) (b_tuple:mg "tuple" = none) :
    aY P w K mg base (cQ P w mg) (k+1) f fd ["thing","least","most"] (dw (dB 3 (gK)) 3):=by
  refine aC W oU (G:=["isinstance","tuple","len"]) (by decide +kernel) fun cdv A outer s H E hr T=>?_
  exact (ap (aE (jl (jm T 0 rfl b_isinstance T 1 rfl b_tuple (ad (aa T 0 rfl))) (jn (ni vT kH vT kH (ad (aa T 1 rfl)) (ad (bY T 2 rfl b_len (ad (aa T 0 rfl)))) (ad (aa T 2 rfl)))))))
theorem rE:aS ["thing","count"] ["thing","count"] (ai gF):=⟨rfl,rfl,rfl,by decide +kernel,rfl,by decide +kernel,by decide +kernel⟩
theorem rj (W:fX K "are_steps" "are_steps" gF f fd) {f1:Addr} {d1:FuncData} {aJ:fK} (C1:fP P w K mg base k "is_between" ["thing","low","high"] aJ f1 d1) {f17:Addr} {d17:FuncData} {aB:fK} (C17:fP P w K mg base k "is_tuple_of" ["thing","least","most"] aB f17 d17) {t_COUNT_OF_MARKS:Tok} (g_COUNT_OF_MARKS:mg "COUNT_OF_MARKS" = some (.int 13 t_COUNT_OF_MARKS)) (b_all:mg "all" = none) :
    aY P w K mg base (cQ P w mg) (k+1) f fd ["thing","count"] (dw (dB 2 (jb aJ aB)) 2):=by
  refine aC W rE (G:=["is_tuple_of","COUNT_OF_MARKS","all"]) (by decide +kernel) fun cdv A outer s H E hr T=>?_
  exact (am (dz (eU (eh (aq C17 hr T 0 rfl (ae (aa T 0 rfl) (ae (ba T 1 rfl g_COUNT_OF_MARKS) (ae (ba T 1 rfl g_COUNT_OF_MARKS) ak))) rfl (af (af (af ao)))))) (ap (aE ed)) cR)
      (ap (aE (nh T 2 rfl b_all (cT (bc (N:=["step","count"]) (own:=1) (G:=["is_between"]) (fr:=[1]) T rfl rfl (oN:=["thing","count"]) (on:=(ai gF).names) (by decide +kernel) (bF (aa T 0 rfl)) (bu (by decide)) (fun cl C s' H' fp E' T=>⟨(aO T 0 rfl),cv,(aq C1 hr T 0 rfl (ae (aa T 0 rfl) (ae aj (ae (gq (ad (aa T 1 rfl)) (ad aj)) ak))) rfl (af (af (af ao))))⟩)))))))
theorem tV:aS ["thing","count"] ["thing","count"] (ai kE):=⟨rfl,rfl,rfl,by decide +kernel,rfl,by decide +kernel,by decide +kernel⟩
theorem tK (W:fX K "is_state" "is_state" kE f fd) {f18:Addr} {d18:FuncData} {da:fK} (C18:fP P w K mg base k "are_steps" ["thing","count"] da f18 d18) {f1:Addr} {d1:FuncData} {aJ:fK} (C1:fP P w K mg base k "is_between" ["thing","low","high"] aJ f1 d1) {f17:Addr} {d17:FuncData} {aB:fK} (C17:fP P w K mg base k "is_tuple_of" ["thing","least","most"] aB f17 d17) {t_GOOD:Tok} (g_GOOD:mg "GOOD" = some (.int 0 t_GOOD)) {t_PARTS_OF_STATE:Tok} (g_PARTS_OF_STATE:mg "PARTS_OF_STATE" = some (.int 2 t_PARTS_OF_STATE)) {t_STEPS:Tok} (g_STEPS:mg "STEPS" = some (.int 1 t_STEPS)) :
    aY P w K mg base (cQ P w mg) (k+1) f fd ["thing","count"] (dw (dB 2 (ke da aJ aB)) 2):=by
  refine aC W tV (G:=["is_tuple_of","PARTS_OF_STATE","is_between","GOOD","are_steps","STEPS"]) (by decide +kernel) fun cdv A outer s H E hr T=>?_
  exact (am (dz (eU (eh (aq C17 hr T 0 rfl (ae (aa T 0 rfl) (ae (ba T 1 rfl g_PARTS_OF_STATE) (ae (ba T 1 rfl g_PARTS_OF_STATE) ak))) rfl (af (af (af ao)))))) (ap (aE ed)) cR)
      (ap (aE (jl (aq C1 hr T 2 rfl (ae (aG T.hu (ad (aa T 0 rfl)) (ad (ba T 3 rfl g_GOOD)) (fun _ _=>rfl)) (ae aj (ae aj ak))) rfl (af (af (af ao)))) (jn (aq C18 hr T 4 rfl (ae (aG T.hu (ad (aa T 0 rfl)) (ad (ba T 5 rfl g_STEPS)) (fun _ _=>rfl)) (ae (aa T 1 rfl) ak)) rfl (af (af ao))))))))
theorem qk:aS ["thing"] ["thing"] (ai gh):=⟨rfl,rfl,rfl,by decide +kernel,rfl,by decide +kernel,by decide +kernel⟩
theorem p8 (W:fX K "is_watcher" "is_watcher" gh f fd) {f19:Addr} {d19:FuncData} {dh:fK} (C19:fP P w K mg base k "is_state" ["thing","count"] dh f19 d19) {f17:Addr} {d17:FuncData} {aB:fK} (C17:fP P w K mg base k "is_tuple_of" ["thing","least","most"] aB f17 d17) {t_MOST_STATES:Tok} (g_MOST_STATES:mg "MOST_STATES" = some (.int 6 t_MOST_STATES)) (b_all:mg "all" = none) (b_len:mg "len" = none) :
    aY P w K mg base (cQ P w mg) (k+1) f fd ["thing"] (dw (dB 1 (ir dh aB)) 1):=by
  refine aC W qk (G:=["is_tuple_of","MOST_STATES","all"]) (by decide +kernel) fun cdv A outer s H E hr T=>?_
  exact (ap (aE (jl (aq C17 hr T 0 rfl (ae (aa T 0 rfl) (ae aj (ae (ba T 1 rfl g_MOST_STATES) ak))) rfl (af (af (af ao)))) (jn (nh T 2 rfl b_all (cT (bc (N:=["state","thing"]) (own:=1) (G:=["is_state","len"]) (fr:=[0]) T rfl rfl (oN:=["thing"]) (on:=(ai gh).names) (by decide +kernel) (bF (aa T 0 rfl)) (bu (by decide)) (fun cl C s' H' fp E' T=>⟨(aO T 0 rfl),cv,(aq C19 hr T 0 rfl (ae (aa T 0 rfl) (ae (bY T 1 rfl b_len (ad (aa T 1 rfl))) ak)) rfl (af (af ao)))⟩))))))))
theorem wy:aS ["ground","watcher","who","count","told","pairs","moves","begun","winners"] ["ground","watcher","who"] (ai ic):=⟨rfl,rfl,rfl,by decide +kernel,rfl,by decide +kernel,by decide +kernel⟩
theorem wq (W:fX K "watched" "watched" ic f fd) {f15:Addr} {d15:FuncData} {cZ:fK} (C15:fP P w K mg base k "again" ["ground","who","goals"] cZ f15 d15) {f26:Addr} {d26:FuncData} {cL:fK} (C26:fP P w K mg base k "by_states" ["told","count"] cL f26 d26) {f25:Addr} {d25:FuncData} {cG:fK} (C25:fP P w K mg base k "good_pairs" ["ground","watcher"] cG f25 d25) {f24:Addr} {d24:FuncData} {bE:fK} (C24:fP P w K mg base k "ground_of_pairs" ["ground","watcher"] bE f24 d24) {f20:Addr} {d20:FuncData} {cH:fK} (C20:fP P w K mg base k "is_watcher" ["thing"] cH f20 d20) {t_MARK:Tok} (g_MARK:mg "MARK" = some (.int 1 t_MARK)) {t_STEPS:Tok} (g_STEPS:mg "STEPS" = some (.int 1 t_STEPS)) (b_enumerate:mg "enumerate" = none) (b_len:mg "len" = none) (b_tuple:mg "tuple" = none) {c_NoWatcher:Addr} (m_NoWatcher:mg "NoWatcher" = some (.ref c_NoWatcher)) (q_NoWatcher:PySem.W.excIn K c_NoWatcher Bq Ax=true) :
    aY P w K mg base (cQ P w mg) (k+1) f fd ["ground","watcher","who"] (dw (dB 9 (lB cZ cL cG bE cH)) 3):=by
  refine aC W wy (G:=["is_watcher","NoWatcher","len","again","ground_of_pairs","good_pairs","by_states","STEPS","tuple","enumerate"]) (by decide +kernel) fun cdv A outer s H E hr T=>?_
  exact (am (dz (eU (eh (aq C20 hr T 0 rfl (ae (aa T 1 rfl) ak) rfl (af ao)))) (ap (kj T 1 rfl m_NoWatcher q_NoWatcher (have T:=T.nox;nk))) cR)
      (am (aP T 3 rfl (bY T 2 rfl b_len (ad (aa T 0 rfl))))
      (am (aP T 4 rfl (aq C15 hr T 3 rfl (ae (aq C24 hr T 4 rfl (ae (aa T 0 rfl) (ae (aa T 1 rfl) ak)) rfl (af (af ao))) (ae (aa T 2 rfl) (ae (aq C25 hr T 5 rfl (ae (aa T 0 rfl) (ae (aa T 1 rfl) ak)) rfl (af (af ao))) ak))) rfl (af (af (af ao)))))
      (am (aP T 5 rfl (aq C26 hr T 6 rfl (ae (aG T.hu (ad (aa T 4 rfl)) (ad aj) (fun _ _=>rfl)) (ae (aa T 3 rfl) ak)) rfl (af (af ao))))
      (am (aP T 6 rfl (aq C26 hr T 6 rfl (ae (kO (bc (N:=["goal","count"]) (own:=1) (G:=[]) (fr:=[3]) T rfl rfl (oN:=["ground","watcher","who","count","told","pairs","moves","begun","winners"]) (on:=(ai ic).names) (by decide +kernel) (bF (aG T.hu (ad (aa T 4 rfl)) (ad aj) (fun _ _=>rfl))) (bu (by decide)) (fun cl C s' H' fp E' T=>⟨(aO T 0 rfl),cv,(iD (lD (ad (aa T 0 rfl)) (ad dI)) dI (cw (ad (aa T 0 rfl)) (ad (aa T 1 rfl))))⟩))) (ae (aa T 3 rfl) ak)) rfl (af (af ao))))
      (am (aP T 7 rfl (aG T.hu (ad (aG T.hu (ad (aa T 1 rfl)) (ad aj) (fun _ _=>rfl))) (ad (ba T 7 rfl g_STEPS)) (fun _ _=>rfl)))
      (am (aP T 8 rfl (bh T 8 rfl b_tuple (cT (bc (N:=["number","place","pairs","begun"]) (own:=2) (G:=["MARK"]) (fr:=[5,7]) T rfl rfl (oN:=["ground","watcher","who","count","told","pairs","moves","begun","winners"]) (on:=(ai ic).names) (by decide +kernel) (jF T 9 rfl b_enumerate (aa T 0 rfl)) (hJ (by decide) (by decide)) (fun cl C s' H' fp E' T=>⟨(gY T 0 1 rfl rfl),cv,(aG T.hu (ad (aG T.hu (ad (aa T 2 rfl)) (ad (aG T.hu (ad (aa T 3 rfl)) (ad (aG T.hu (ad (aa T 1 rfl)) (ad (ba T 0 rfl g_MARK)) (fun _ _=>rfl))) (fun _ _=>rfl))) (fun _ _=>rfl))) (ad (aa T 0 rfl)) (fun _ _=>rfl))⟩)))))
      (ap (aE (eM (ae (aa T 8 rfl) (ae (aa T 5 rfl) (ae (aa T 6 rfl) ak)))))))))))))
theorem tZ:aS ["group","state"] ["group","state"] (ai iV):=⟨rfl,rfl,rfl,by decide +kernel,rfl,by decide +kernel,by decide +kernel⟩
theorem tO (W:fX K "steps_by" "steps_by" iV f fd) {t_COUNT_OF_MARKS:Tok} (g_COUNT_OF_MARKS:mg "COUNT_OF_MARKS" = some (.int 13 t_COUNT_OF_MARKS)) (b_range:mg "range" = none) (b_tuple:mg "tuple" = none) :
    aY P w K mg base (cQ P w mg) (k+1) f fd ["group","state"] (dw (dB 2 (kh)) 2):=by
  refine aC W tZ (G:=["tuple","range","COUNT_OF_MARKS"]) (by decide +kernel) fun cdv A outer s H E hr T=>?_
  exact (ap (aE (bh T 0 rfl b_tuple (cT (bc (N:=["mark","group","state"]) (own:=1) (G:=[]) (fr:=[0,1]) T rfl rfl (oN:=["group","state"]) (on:=(ai iV).names) (by decide +kernel) (dR T 1 rfl b_range (ae (ba T 2 rfl g_COUNT_OF_MARKS) ak) (af ao)) (bu (by decide)) (fun cl C s' H' fp E' T=>⟨(aO T 0 rfl),cv,(iD (kT T.hu (ad (aa T 0 rfl)) (ad (aa T 1 rfl)) (by with_unfolding_all rfl)) (cg (ad (aa T 2 rfl)) (ad aj)) (aa T 2 rfl))⟩))))))
theorem qm:aS ["groups","states"] ["groups"] (ai fw):=⟨rfl,rfl,rfl,by decide +kernel,rfl,by decide +kernel,by decide +kernel⟩
theorem qa (W:fX K "watcher_of" "watcher_of" fw f fd) {f2:Addr} {d2:FuncData} {bH:fK} (C2:fP P w K mg base k "are_some" ["thing","count"] bH f2 d2) {f17:Addr} {d17:FuncData} {aB:fK} (C17:fP P w K mg base k "is_tuple_of" ["thing","least","most"] aB f17 d17) {f21:Addr} {d21:FuncData} {dj:fK} (C21:fP P w K mg base k "steps_by" ["group","state"] dj f21 d21) {t_COUNT_OF_MARKS:Tok} (g_COUNT_OF_MARKS:mg "COUNT_OF_MARKS" = some (.int 13 t_COUNT_OF_MARKS)) {t_MOST_STATES:Tok} (g_MOST_STATES:mg "MOST_STATES" = some (.int 6 t_MOST_STATES)) {t_STEPS:Tok} (g_STEPS:mg "STEPS" = some (.int 1 t_STEPS)) (b_all:mg "all" = none) (b_enumerate:mg "enumerate" = none) (b_tuple:mg "tuple" = none) {c_NoWatcher:Addr} (m_NoWatcher:mg "NoWatcher" = some (.ref c_NoWatcher)) (q_NoWatcher:PySem.W.excIn K c_NoWatcher Bq Ax=true) :
    aY P w K mg base (cQ P w mg) (k+1) f fd ["groups"] (dw (dB 2 (iw bH aB dj)) 1):=by
  refine aC W qm (G:=["is_tuple_of","MOST_STATES","all","NoWatcher","enumerate","tuple","STEPS"]) (by decide +kernel) fun cdv A outer s H E hr T=>?_
  exact (am (dz (mE (rW (eU (eh (aq C17 hr T 0 rfl (ae (aa T 0 rfl) (ae aj (ae (gq (ad (ba T 1 rfl g_MOST_STATES)) (ad aj)) ak))) rfl (af (af (af ao)))))) (o9 (eU (eh (nh T 2 rfl b_all (cT (bc (N:=["group"]) (own:=1) (G:=["are_some","COUNT_OF_MARKS"]) (fr:=[]) T rfl rfl (oN:=["groups","states"]) (on:=(ai fw).names) (by decide +kernel) (bF (aa T 0 rfl)) (bu (by decide)) (fun cl C s' H' fp E' T=>⟨(aO T 0 rfl),cv,(aq C2 hr T 0 rfl (ae (aa T 0 rfl) (ae (ba T 1 rfl g_COUNT_OF_MARKS) ak)) rfl (af (af ao)))⟩))))))))) (ap (kj T 3 rfl m_NoWatcher q_NoWatcher (have T:=T.nox;nk))) cR)
      (am (jk (fB 1 rfl (N:=["state","group"]) (own:=2) (G:=["steps_by"]) (fr:=[]) T rfl rfl (oN:=["groups","states"]) (on:=(ai fw).names) (by decide +kernel) (jF T 4 rfl b_enumerate (aa T 0 rfl)) (hJ (by decide) (by decide)) (fun cl C s' H' fp E' T=>⟨(gY T 0 1 rfl rfl),cv,(eM (ae aj (ae (aq C21 hr T 0 rfl (ae (aa T 1 rfl) (ae (aa T 0 rfl) ak)) rfl (af (af ao))) ak)))⟩)) (show 1 < 2 by decide))
      (ap (aE (cg (ad (bh T 5 rfl b_tuple (ad (aa T 1 rfl)))) (ad (eM (ae (eM (ae aj (ae (aG T.hu (ad (aG T.hu (ad (aa T 1 rfl)) (ad aj) (fun _ _=>rfl))) (ad (ba T 6 rfl g_STEPS)) (fun _ _=>rfl)) ak))) ak))))))))
theorem DJ:aS ["_law_script","_law_ground_here","_law_who","_law_one","_law_other","_law_rows","_law_marks_here","_law_goals_here","_law_winners","_law_both","_law_place_here"] ["_law_script"] (ai j9):=⟨rfl,rfl,rfl,by decide +kernel,rfl,by decide +kernel,by decide +kernel⟩
theorem DD (W:fX K "law" "law" j9 f fd) {f33:Addr} {d33:FuncData} {cr:fK} (C33:fP P w K mg base k "_law_ground" ["_law_script","_law_most"] cr f33 d33) {f35:Addr} {d35:FuncData} {cu:fK} (C35:fP P w K mg base k "_law_marks" ["_law_number"] cu f35 d35) {f29:Addr} {d29:FuncData} {aZ:fK} (C29:fP P w K mg base k "_law_mixed" ["_law_script","_law_k"] aZ f29 d29) {f15:Addr} {d15:FuncData} {cZ:fK} (C15:fP P w K mg base k "again" ["ground","who","goals"] cZ f15 d15) {f27:Addr} {d27:FuncData} {cV:fK} (C27:fP P w K mg base k "watched" ["ground","watcher","who"] cV f27 d27) {f22:Addr} {d22:FuncData} {bR:fK} (C22:fP P w K mg base k "watcher_of" ["groups"] bR f22 d22) (b_enumerate:mg "enumerate" = none) (b_len:mg "len" = none) (b_range:mg "range" = none) (b_tuple:mg "tuple" = none) :
    aY P w K mg base (cQ P w mg) (k+1) f fd ["_law_script"] (dw (dB 11 (vd cr cu aZ cZ cV bR)) 1):=by
  refine aC W DJ (G:=["_law_ground","_law_mixed","_law_marks","tuple","enumerate","again","watched","watcher_of","range","len"]) (by decide +kernel) fun cdv A outer s H E hr T=>?_
  exact (am (aP T 1 rfl (aq C33 hr T 0 rfl (ae (aa T 0 rfl) (ae aj ak)) rfl (af (af ao))))
      (am (aP T 2 rfl (cw (ad (aq C29 hr T 1 rfl (ae (aa T 0 rfl) (ae aj ak)) rfl (af (af ao)))) (ad aj)))
      (am (aP T 3 rfl (aq C35 hr T 2 rfl (ae (aq C29 hr T 1 rfl (ae (aa T 0 rfl) (ae aj ak)) rfl (af (af ao))) ak) rfl (af ao)))
      (am (aP T 4 rfl (aq C35 hr T 2 rfl (ae (aq C29 hr T 1 rfl (ae (aa T 0 rfl) (ae aj ak)) rfl (af (af ao))) ak) rfl (af ao)))
      (am (gZ T 5 rfl (jH ak))
      (am (cW (have T:=T.nox;eL PassesOwn.never T.calm (bF (eM (ae (aa T 3 rfl) (ae (aa T 4 rfl) ak)))) (aO T 6 rfl) (am (aP T 7 rfl (bh T 3 rfl b_tuple (cT (bc (N:=["_law_k","_law_place_here","_law_marks_here"]) (own:=2) (G:=[]) (fr:=[6]) T rfl rfl (oN:=["_law_script","_law_ground_here","_law_who","_law_one","_law_other","_law_rows","_law_marks_here","_law_goals_here","_law_winners","_law_both","_law_place_here"]) (on:=(ai j9).names) (by decide +kernel) (jF T 4 rfl b_enumerate (aa T 1 rfl)) (hJ (by decide) (by decide)) (fun cl C s' H' fp E' T=>⟨(gY T 0 1 rfl rfl),(eK (kT T.hu (ad (aG T.hu (ad (aa T 1 rfl)) (ad aj) (fun _ _=>rfl))) (ad (aa T 2 rfl)) (by with_unfolding_all rfl))),(aa T 0 rfl)⟩)))))
      (am (aP T 8 rfl (aG T.hu (ad (aq C15 hr T 5 rfl (ae (aa T 1 rfl) (ae (aa T 2 rfl) (ae (aa T 7 rfl) ak))) rfl (af (af (af ao))))) (ad aj) (fun _ _=>rfl)))
      (am (dz (nu T.hu (ad (aG T.hu (ad (aq C27 hr T 6 rfl (ae (aa T 1 rfl) (ae (aq C22 hr T 7 rfl (ae (eM (ae (aa T 6 rfl) ak)) ak) rfl (af ao)) (ae (aa T 2 rfl) ak))) rfl (af (af (af ao))))) (ad aj) (fun _ _=>rfl))) (ad (aa T 8 rfl))) (ap (aE ed)) cR)
      (ap (lR T 5 rfl (aa T 8 rfl))))))))
      (am (aP T 9 rfl (aG T.hu (ad (aq C27 hr T 6 rfl (ae (aa T 1 rfl) (ae (aq C22 hr T 7 rfl (ae (eM (ae (aa T 3 rfl) (ae (aa T 4 rfl) ak))) ak) rfl (af ao)) (ae (aa T 2 rfl) ak))) rfl (af (af (af ao))))) (ad aj) (fun _ _=>rfl)))
      (am (cW (have T:=T.nox;eL PassesOwn.never T.calm (dR T 8 rfl b_range (ae (bY T 9 rfl b_len (ad (aa T 1 rfl))) ak) (af ao)) (aO T 10 rfl) (ap (dz (mE (o8 (e9 T.hu (ad (aG T.hu (ad (aa T 9 rfl)) (ad (aa T 10 rfl)) (fun _ _=>rfl))) (ad (aa T 2 rfl))) (ny (mE (rW (nu T.hu (ad (aG T.hu (ad (aG T.hu (dA T 5 rfl) (ad aj) (fun _ _=>rfl))) (ad (aa T 10 rfl)) (fun _ _=>rfl))) (ad (aa T 2 rfl))) (o9 (nu T.hu (ad (aG T.hu (ad (aG T.hu (dA T 5 rfl) (ad aj) (fun _ _=>rfl))) (ad (aa T 10 rfl)) (fun _ _=>rfl))) (ad (aa T 2 rfl))))))))) (ap (aE ed)) cR))))
      (ap (aE ed))))))))))
end
noncomputable def F0:List PyData->R PyData:=fun ds=>open Classical in if ∃ ns:List Int,ns.length<=63/\ds=[.list (ns.map .int)] then .ok (.bool true) else .no
theorem vc:yy F0:=fun ns h=>if_pos ⟨ns,h,rfl⟩
theorem DF {c_Share:Addr} (vs:List V) (H:Hp) (Q:VK) (E:XK) (h:dw F0 1 vs H Q E):dw (xK c_Share) 1 vs H Q E:=by
  obtain ⟨ds,r,hl,q⟩:=h;refine ⟨ds,r,hl,?_⟩;by_cases hd:∃ ns:List Int,ns.length<=63/\ds=[.list (ns.map .int)]
  · obtain ⟨ns,h1,rfl⟩:=hd;rw [vc ns h1] at q;rw [yA c_Share ns h1];exact q
  · unfold F0 at q;rw [if_neg hd] at q;exact q.elim
theorem BZ {l:PySem.W.OpenLaw} {w:World} {K:PySem.W.Frag} {h:Heap} {mg:Str->Option Value} {fa:Addr} (X:K.In h) (G:h.Ns mainGlobals mg) (hfa:mg "law" = some (.ref fa))
    {f35:Addr} {od35 an35:Option Addr} {sl35:Array (Option Value)} {oc35 kV35 dc35 pm35 cd35 ct35:Value}
    {f0:Addr} {d0:FuncData} (q0:cn K "_law_cell_at" gU f0 d0)
    {f1:Addr} {d1:FuncData} (q1:cn K "_law_mixed" jA f1 d1)
    {f2:Addr} {d2:FuncData} (q2:cn K "_law_drawn" jx f2 d2)
    {f3:Addr} {d3:FuncData} (q3:cn K "_law_goals" jy f3 d3)
    {f4:Addr} {d4:FuncData} (q4:cn K "_law_place" jB f4 d4)
    {f5:Addr} {d5:FuncData} (q5:cn K "_law_ground" gi f5 d5)
    {f6:Addr} {d6:FuncData} (q6:cn K "_law_marks" gI f6 d6)
    {f7:Addr} {d7:FuncData} (q7:cn K "all_places" iS f7 d7)
    {f8:Addr} {d8:FuncData} (q8:cn K "is_whole" kF f8 d8)
    {f9:Addr} {d9:FuncData} (q9:cn K "is_between" iT f9 d9)
    {f10:Addr} {d10:FuncData} (q10:cn K "are_some" kD f10 d10)
    {f11:Addr} {d11:FuncData} (q11:cn K "common" lr f11 d11)
    {f12:Addr} {d12:FuncData} (q12:cn K "moves_of_both" eQ f12 d12)
    {f13:Addr} {d13:FuncData} (q13:cn K "ranked" ls f13 d13)
    {f14:Addr} {d14:FuncData} (q14:cn K "pulling_moves" dG f14 d14)
    {f15:Addr} {d15:FuncData} (q15:cn K "is_forced" gH f15 d15)
    {f16:Addr} {d16:FuncData} (q16:cn K "ranks_to" eT f16 d16)
    {f17:Addr} {d17:FuncData} (q17:cn K "no_moves" iU f17 d17)
    {f18:Addr} {d18:FuncData} (q18:cn K "staying_moves" fW f18 d18)
    {f19:Addr} {d19:FuncData} (q19:cn K "without" jQ f19 d19)
    {f20:Addr} {d20:FuncData} (q20:cn K "share_by_coming" fu f20 d20)
    {f21:Addr} {d21:FuncData} (q21:cn K "winners_and_moves" dn f21 d21)
    {f22:Addr} {d22:FuncData} (q22:cn K "again" rf f22 d22)
    {f23:Addr} {d23:FuncData} (q23:cn K "by_states" gG f23 d23)
    {f24:Addr} {d24:FuncData} (q24:cn K "good_pairs" gg f24 d24)
    {f25:Addr} {d25:FuncData} (q25:cn K "with_goals" iW f25 d25)
    {f26:Addr} {d26:FuncData} (q26:cn K "pair_of" jP f26 d26)
    {f27:Addr} {d27:FuncData} (q27:cn K "ground_of_pairs" dP f27 d27)
    {f28:Addr} {d28:FuncData} (q28:cn K "is_tuple_of" gT f28 d28)
    {f29:Addr} {d29:FuncData} (q29:cn K "are_steps" gF f29 d29)
    {f30:Addr} {d30:FuncData} (q30:cn K "is_state" kE f30 d30)
    {f31:Addr} {d31:FuncData} (q31:cn K "is_watcher" gh f31 d31)
    {f32:Addr} {d32:FuncData} (q32:cn K "watched" ic f32 d32)
    {f33:Addr} {d33:FuncData} (q33:cn K "steps_by" iV f33 d33)
    {f34:Addr} {d34:FuncData} (q34:cn K "watcher_of" fw f34 d34)
    (a35:PySem.W.nsIn K mainGlobals "law" = some (some (.ref f35))) (l35:K.lookup f35=some ⟨oc35,od35,.func (PySem.W.fnOf "law" "law" (eo j9) (de j9) (ai j9) .none kV35 dc35 pm35 an35 cd35 ct35),sl35⟩) (c35:PySem.W.codeIn K cd35 "law" = true) (k35:PySem.W.keepIn K (.ref f35)=true)
    {t0:Tok} (qg0:PySem.W.nsIn K mainGlobals "COUNT_OF_MARKS" = some (some (.int 13 t0)))
    {t1:Tok} (qg1:PySem.W.nsIn K mainGlobals "GAIN" = some (some (.int 2 t1)))
    {t2:Tok} (qg2:PySem.W.nsIn K mainGlobals "GOALS" = some (some (.int 3 t2)))
    {t3:Tok} (qg3:PySem.W.nsIn K mainGlobals "GOOD" = some (some (.int 0 t3)))
    {t4:Tok} (qg4:PySem.W.nsIn K mainGlobals "MARK" = some (some (.int 1 t4)))
    {t5:Tok} (qg5:PySem.W.nsIn K mainGlobals "MOST_STATES" = some (some (.int 6 t5)))
    {t6:Tok} (qg6:PySem.W.nsIn K mainGlobals "PARTS_OF_STATE" = some (some (.int 2 t6)))
    {t7:Tok} (qg7:PySem.W.nsIn K mainGlobals "STEPS" = some (some (.int 1 t7)))
    {t8:Tok} (qg8:PySem.W.nsIn K mainGlobals "WHO" = some (some (.int 0 t8)))
    (qz0:PySem.W.nsIn K mainGlobals "all" = some none)
    (qz1:PySem.W.nsIn K mainGlobals "bool" = some none)
    (qz2:PySem.W.nsIn K mainGlobals "enumerate" = some none)
    (qz3:PySem.W.nsIn K mainGlobals "int" = some none)
    (qz4:PySem.W.nsIn K mainGlobals "isinstance" = some none)
    (qz5:PySem.W.nsIn K mainGlobals "len" = some none)
    (qz6:PySem.W.nsIn K mainGlobals "list" = some none)
    (qz7:PySem.W.nsIn K mainGlobals "max" = some none)
    (qz8:PySem.W.nsIn K mainGlobals "min" = some none)
    (qz9:PySem.W.nsIn K mainGlobals "range" = some none)
    (qz10:PySem.W.nsIn K mainGlobals "sorted" = some none)
    (qz11:PySem.W.nsIn K mainGlobals "tuple" = some none)
    (qz12:PySem.W.nsIn K mainGlobals "zip" = some none)
    {cc0:Addr} (qm0:PySem.W.nsIn K mainGlobals "NoPart" = some (some (.ref cc0))) (qq0:PySem.W.excIn K cc0 Bq Ax=true)
    {cc1:Addr} (qm1:PySem.W.nsIn K mainGlobals "NoWatcher" = some (some (.ref cc1))) (qq1:PySem.W.excIn K cc1 Bq Ax=true)
    {c_Share fi_Share:Addr} {od_Share an_Share:Option Addr} {sl_Share:Array (Option Value)} {oc_Share kV_Share dc_Share pm_Share cd_Share ct_Share:Value}
    (qa_Share:PySem.W.nsIn K mainGlobals "Share" = some (some (.ref c_Share)))
    (qi_Share:PySem.W.findIn K (.ref c_Share) "__init__" = some (some (.ref fi_Share))) (qf_Share:PySem.W.isFn K (.ref fi_Share)=true)
    (ql_Share:K.lookup fi_Share=some ⟨oc_Share,od_Share,.func (PySem.W.fnOf "__init__" "Share.__init__" (eo jO) (de jO) (ai jO) .none kV_Share dc_Share pm_Share an_Share cd_Share ct_Share),sl_Share⟩)
    (qc_Share:PySem.W.codeIn K cd_Share "Share.__init__" = true) (qk_Share:PySem.W.keepIn K (.ref fi_Share)=true)
    (qpg_Share:PySem.W.plainGet K c_Share Str.empty=true) (qhd_Share:PySem.W.hasDictIn K c_Share=true) (qpo_Share:PySem.W.plainOver K c_Share=true) (qsa_Share:PySem.W.findIn K (.ref c_Share) "__setattr__" = some (some (.builtin "object.__setattr__"))) (qmk_Share:PySem.W.makesIn K c_Share=true) (qkc_Share:PySem.W.keepIn K (.ref c_Share)=true)
    (qn_Share_who:PySem.W.findIn K (.ref c_Share) "who" = some none)
    (qn_Share_places:PySem.W.findIn K (.ref c_Share) "places" = some none)
    (qn_Share_moves:PySem.W.findIn K (.ref c_Share) "moves" = some none)
    (nl:mM K=true) :
    mM K=true/\∃ fd:FuncData,(∀ (s:Shared) (v:Value),BindsTo s fd ⟨[v],[]⟩ [("_law_script",v)])/\∀ base:Heap,K.In base->base.Ns mainGlobals mg->aY l.prog w K mg base (cQ l.prog w mg) 7 fa fd ["_law_script"] (dw F0 1):=by
  have e:=hfa.symm.trans (PySem.W.mg_of X G a35);cases e;have b0:bB K d0 ["_law_script","_law_k"] []:=r9 q0.fn fun _ _ _ _ _ _ _ _=>rfl
  have m0:=PySem.W.mg_of X G q0.ns;have b1:bB K d1 ["_law_script","_law_k"] []:=r9 q1.fn fun _ _ _ _ _ _ _ _=>rfl
  have m1:=PySem.W.mg_of X G q1.ns;have b2:bB K d2 ["_law_number","_law_k"] []:=r9 q2.fn fun _ _ _ _ _ _ _ _=>rfl
  have m2:=PySem.W.mg_of X G q2.ns;have b3:bB K d3 ["_law_number","_law_count"] []:=r9 q3.fn fun _ _ _ _ _ _ _ _=>rfl
  have m3:=PySem.W.mg_of X G q3.ns;have b4:bB K d4 ["_law_number","_law_count","_law_high"] []:=Br q4.fn fun _ _ _ _ _ _ _ _ _=>rfl
  have m4:=PySem.W.mg_of X G q4.ns;have b5:bB K d5 ["_law_script","_law_most"] []:=r9 q5.fn fun _ _ _ _ _ _ _ _=>rfl
  have m5:=PySem.W.mg_of X G q5.ns;have b6:bB K d6 ["_law_number"] []:=B2 q6.fn fun _ _ _ _ _ _ _=>rfl
  have m6:=PySem.W.mg_of X G q6.ns;have b7:bB K d7 ["ground"] []:=B2 q7.fn fun _ _ _ _ _ _ _=>rfl
  have m7:=PySem.W.mg_of X G q7.ns;have b8:bB K d8 ["thing"] []:=B2 q8.fn fun _ _ _ _ _ _ _=>rfl
  have m8:=PySem.W.mg_of X G q8.ns;have b9:bB K d9 ["thing","low","high"] []:=Br q9.fn fun _ _ _ _ _ _ _ _ _=>rfl
  have m9:=PySem.W.mg_of X G q9.ns;have b10:bB K d10 ["thing","count"] []:=r9 q10.fn fun _ _ _ _ _ _ _ _=>rfl
  have m10:=PySem.W.mg_of X G q10.ns;have b11:bB K d11 ["some","others"] []:=r9 q11.fn fun _ _ _ _ _ _ _ _=>rfl
  have m11:=PySem.W.mg_of X G q11.ns;have b12:bB K d12 ["moves","others"] []:=r9 q12.fn fun _ _ _ _ _ _ _ _=>rfl
  have m12:=PySem.W.mg_of X G q12.ns;have b13:bB K d13 ["ranks"] []:=B2 q13.fn fun _ _ _ _ _ _ _=>rfl
  have m13:=PySem.W.mg_of X G q13.ns;have b14:bB K d14 ["ground","who","ranks"] []:=Br q14.fn fun _ _ _ _ _ _ _ _ _=>rfl
  have m14:=PySem.W.mg_of X G q14.ns;have b15:bB K d15 ["place","ways","who","ranks"] []:=FJ q15.fn fun _ _ _ _ _ _ _ _ _ _=>rfl
  have m15:=PySem.W.mg_of X G q15.ns;have b16:bB K d16 ["ground","inside","who","goals"] []:=FJ q16.fn fun _ _ _ _ _ _ _ _ _ _=>rfl
  have m16:=PySem.W.mg_of X G q16.ns;have b17:bB K d17 ["ground"] []:=B2 q17.fn fun _ _ _ _ _ _ _=>rfl
  have m17:=PySem.W.mg_of X G q17.ns;have b18:bB K d18 ["ground","who","part"] []:=Br q18.fn fun _ _ _ _ _ _ _ _ _=>rfl
  have m18:=PySem.W.mg_of X G q18.ns;have b19:bB K d19 ["some","others"] []:=r9 q19.fn fun _ _ _ _ _ _ _ _=>rfl
  have m19:=PySem.W.mg_of X G q19.ns;have b20:bB K d20 ["ground","inside","who","goals"] []:=FJ q20.fn fun _ _ _ _ _ _ _ _ _ _=>rfl
  have m20:=PySem.W.mg_of X G q20.ns;have b21:bB K d21 ["ground","shares"] []:=r9 q21.fn fun _ _ _ _ _ _ _ _=>rfl
  have m21:=PySem.W.mg_of X G q21.ns;have b22:bB K d22 ["ground","who","goals"] []:=Br q22.fn fun _ _ _ _ _ _ _ _ _=>rfl
  have m22:=PySem.W.mg_of X G q22.ns;have b23:bB K d23 ["told","count"] []:=r9 q23.fn fun _ _ _ _ _ _ _ _=>rfl
  have m23:=PySem.W.mg_of X G q23.ns;have b24:bB K d24 ["ground","watcher"] []:=r9 q24.fn fun _ _ _ _ _ _ _ _=>rfl
  have m24:=PySem.W.mg_of X G q24.ns;have b25:bB K d25 ["place","goals"] []:=r9 q25.fn fun _ _ _ _ _ _ _ _=>rfl
  have m25:=PySem.W.mg_of X G q25.ns;have b26:bB K d26 ["ground","state","place"] []:=Br q26.fn fun _ _ _ _ _ _ _ _ _=>rfl
  have m26:=PySem.W.mg_of X G q26.ns;have b27:bB K d27 ["ground","watcher"] []:=r9 q27.fn fun _ _ _ _ _ _ _ _=>rfl
  have m27:=PySem.W.mg_of X G q27.ns;have b28:bB K d28 ["thing","least","most"] []:=Br q28.fn fun _ _ _ _ _ _ _ _ _=>rfl
  have m28:=PySem.W.mg_of X G q28.ns;have b29:bB K d29 ["thing","count"] []:=r9 q29.fn fun _ _ _ _ _ _ _ _=>rfl
  have m29:=PySem.W.mg_of X G q29.ns;have b30:bB K d30 ["thing","count"] []:=r9 q30.fn fun _ _ _ _ _ _ _ _=>rfl
  have m30:=PySem.W.mg_of X G q30.ns;have b31:bB K d31 ["thing"] []:=B2 q31.fn fun _ _ _ _ _ _ _=>rfl
  have m31:=PySem.W.mg_of X G q31.ns;have b32:bB K d32 ["ground","watcher","who"] []:=Br q32.fn fun _ _ _ _ _ _ _ _ _=>rfl
  have m32:=PySem.W.mg_of X G q32.ns;have b33:bB K d33 ["group","state"] []:=r9 q33.fn fun _ _ _ _ _ _ _ _=>rfl
  have m33:=PySem.W.mg_of X G q33.ns;have b34:bB K d34 ["groups"] []:=B2 q34.fn fun _ _ _ _ _ _ _=>rfl
  have m34:=PySem.W.mg_of X G q34.ns;have F35:=uu (st:=j9) l35 c35 k35;have FF_Share:=uu (st:=jO) ql_Share qc_Share qk_Share;have bb_Share:=FF_Share.binds (ps:=["self","who","places","moves"]) fun _ _ _ _ _ _ us hl=>match us,hl with | [_,_,_,_],_=>rfl
  have mm_Share:=PySem.W.mg_of X G qa_Share;have ccl_Share:xE K c_Share:=⟨qpg_Share,qhd_Share,qpo_Share,qsa_Share⟩
  have h0:=PySem.W.mg_of X G qg0;have h1:=PySem.W.mg_of X G qg1;have h2:=PySem.W.mg_of X G qg2;have h3:=PySem.W.mg_of X G qg3;have h4:=PySem.W.mg_of X G qg4;have h5:=PySem.W.mg_of X G qg5;have h6:=PySem.W.mg_of X G qg6;have h7:=PySem.W.mg_of X G qg7;have h8:=PySem.W.mg_of X G qg8;have n0:=PySem.W.mg_of X G qm0;have n1:=PySem.W.mg_of X G qm1;have y0:=PySem.W.mg_none_of X G qz0;have y1:=PySem.W.mg_none_of X G qz1;have y2:=PySem.W.mg_none_of X G qz2;have y3:=PySem.W.mg_none_of X G qz3;have y4:=PySem.W.mg_none_of X G qz4;have y5:=PySem.W.mg_none_of X G qz5;have y6:=PySem.W.mg_none_of X G qz6;have y7:=PySem.W.mg_none_of X G qz7;have y8:=PySem.W.mg_none_of X G qz8;have y9:=PySem.W.mg_none_of X G qz9;have y10:=PySem.W.mg_none_of X G qz10;have y11:=PySem.W.mg_none_of X G qz11;have y12:=PySem.W.mg_none_of X G qz12;refine ⟨nl,PySem.W.fnOf "law" "law" (eo j9) (de j9) (ai j9) .none kV35 dc35 pm35 an35 cd35 ct35,fun s v=>.of_eq rfl,fun base _ _=>?_⟩;have QI_Share:aY l.prog w K mg base (cQ l.prog w mg) 1 fi_Share _ ["self","who","places","moves"] (FA c_Share ["who","places","moves"]):=zS FF_Share ccl_Share qn_Share_who qn_Share_places qn_Share_moves;have Q0:aY l.prog w K mg base (cQ l.prog w mg) 1 f0 _ ["_law_script","_law_k"] (dw cq 2):=oR (k:=0) (W:=q0.fn) (b_len:=y5);have Q1:aY l.prog w K mg base (cQ l.prog w mg) 2 f1 _ ["_law_script","_law_k"] (dw aZ 2):=rA (k:=1) (W:=q1.fn) (C28:=⟨Q0.mono (by decide),m0,q0.fn.kp,b0⟩);have Q2:aY l.prog w K mg base (cQ l.prog w mg) 1 f2 _ ["_law_number","_law_k"] (dw aM 2):=rn (k:=0) (W:=q2.fn);have Q3:aY l.prog w K mg base (cQ l.prog w mg) 2 f3 _ ["_law_number","_law_count"] (dw dc 2):=rq (k:=1) (W:=q3.fn) (C30:=⟨Q2.mono (by decide),m2,q2.fn.kp,b2⟩) (b_int:=y3) (b_range:=y9) (b_sorted:=y10) (b_tuple:=y11);have Q4:aY l.prog w K mg base (cQ l.prog w mg) 3 f4 _ ["_law_number","_law_count","_law_high"] (dw cM 3):=rB (k:=2) (W:=q4.fn) (C30:=⟨Q2.mono (by decide),m2,q2.fn.kp,b2⟩) (C31:=⟨Q3.mono (by decide),m3,q3.fn.kp,b3⟩);have Q5:aY l.prog w K mg base (cQ l.prog w mg) 4 f5 _ ["_law_script","_law_most"] (dw cr 2):=p9 (k:=3) (W:=q5.fn) (C29:=⟨Q1.mono (by decide),m1,q1.fn.kp,b1⟩) (C32:=⟨Q4.mono (by decide),m4,q4.fn.kp,b4⟩) (b_len:=y5) (b_max:=y7) (b_min:=y8) (b_range:=y9) (b_tuple:=y11);have Q6:aY l.prog w K mg base (cQ l.prog w mg) 2 f6 _ ["_law_number"] (dw cu 1):=rz (k:=1) (W:=q6.fn) (C30:=⟨Q2.mono (by decide),m2,q2.fn.kp,b2⟩) (b_range:=y9) (b_tuple:=y11);have Q7:aY l.prog w K mg base (cQ l.prog w mg) 1 f7 _ ["ground"] (dw cF 1):=pX (k:=0) (W:=q7.fn) (b_len:=y5) (b_range:=y9) (b_tuple:=y11);have Q8:aY l.prog w K mg base (cQ l.prog w mg) 1 f8 _ ["thing"] (dw dQ 1):=tL (k:=0) (W:=q8.fn) (b_bool:=y1) (b_int:=y3) (b_isinstance:=y4);have Q9:aY l.prog w K mg base (cQ l.prog w mg) 2 f9 _ ["thing","low","high"] (dw aJ 3):=pZ (k:=1) (W:=q9.fn) (C0:=⟨Q8.mono (by decide),m8,q8.fn.kp,b8⟩);have Q10:aY l.prog w K mg base (cQ l.prog w mg) 3 f10 _ ["thing","count"] (dw bH 2):=tJ (k:=2) (W:=q10.fn) (C1:=⟨Q9.mono (by decide),m9,q9.fn.kp,b9⟩) (b_isinstance:=y4) (b_tuple:=y11);have Q11:aY l.prog w K mg base (cQ l.prog w mg) 1 f11 _ ["some","others"] (dw bD 2):=xI (k:=0) (W:=q11.fn) (b_tuple:=y11);have Q12:aY l.prog w K mg base (cQ l.prog w mg) 1 f12 _ ["moves","others"] (dw aN 2):=mf (k:=0) (W:=q12.fn) (b_tuple:=y11) (b_zip:=y12);have Q13:aY l.prog w K mg base (cQ l.prog w mg) 1 f13 _ ["ranks"] (dw cE 1):=xJ (k:=0) (W:=q13.fn) (b_enumerate:=y2) (b_tuple:=y11);have Q14:aY l.prog w K mg base (cQ l.prog w mg) 2 f14 _ ["ground","who","ranks"] (dw bI 3):=mh (k:=1) (W:=q14.fn) (C12:=⟨Q13.mono (by decide),m13,q13.fn.kp,b13⟩) (g_GOALS:=h2) (g_WHO:=h8) (b_tuple:=y11);have Q15:aY l.prog w K mg base (cQ l.prog w mg) 1 f15 _ ["place","ways","who","ranks"] (dw bU 4):=rm (k:=0) (W:=q15.fn) (g_WHO:=h8) (b_len:=y5);have Q16:aY l.prog w K mg base (cQ l.prog w mg) 2 f16 _ ["ground","inside","who","goals"] (dw di 4):=tN (k:=1) (W:=q16.fn) (C4:=⟨Q11.mono (by decide),m11,q11.fn.kp,b11⟩) (C10:=⟨Q15.mono (by decide),m15,q15.fn.kp,b15⟩) (g_GOALS:=h2) (b_len:=y5) (b_list:=y6) (b_range:=y9) (b_tuple:=y11);have Q17:aY l.prog w K mg base (cQ l.prog w mg) 1 f17 _ ["ground"] (dw bT 1):=tM (k:=0) (W:=q17.fn) (b_tuple:=y11);have Q18:aY l.prog w K mg base (cQ l.prog w mg) 2 f18 _ ["ground","who","part"] (dw bJ 3):=ml (k:=1) (W:=q18.fn) (C4:=⟨Q11.mono (by decide),m11,q11.fn.kp,b11⟩) (C6:=⟨Q17.mono (by decide),m17,q17.fn.kp,b17⟩) (g_GOALS:=h2) (g_WHO:=h8) (b_list:=y6) (b_tuple:=y11);have Q19:aY l.prog w K mg base (cQ l.prog w mg) 1 f19 _ ["some","others"] (dw cc 2):=wr (k:=0) (W:=q19.fn) (b_tuple:=y11);have Q20:aY l.prog w K mg base (cQ l.prog w mg) 3 f20 _ ["ground","inside","who","goals"] (dw (br c_Share) 4):=kK (k:=2) (W:=q20.fn) (C4:=⟨Q11.mono (by decide),m11,q11.fn.kp,b11⟩) (C7:=⟨Q12.mono (by decide),m12,q12.fn.kp,b12⟩) (C13:=⟨Q14.mono (by decide),m14,q14.fn.kp,b14⟩) (C12:=⟨Q13.mono (by decide),m13,q13.fn.kp,b13⟩) (C11:=⟨Q16.mono (by decide),m16,q16.fn.kp,b16⟩) (C8:=⟨Q18.mono (by decide),m18,q18.fn.kp,b18⟩) (C5:=⟨Q19.mono (by decide),m19,q19.fn.kp,b19⟩) (b_len:=y5) (cl_Share:=ccl_Share) (n_Share_moves:=qn_Share_moves) (n_Share_places:=qn_Share_places) (n_Share_who:=qn_Share_who) (m_Share:=mm_Share) (MK_Share:=⟨qmk_Share,qi_Share,qf_Share,qkc_Share⟩) (I_Share:=QI_Share) (B_Share:=bb_Share) (hk:=by decide);have Q21:aY l.prog w K mg base (cQ l.prog w mg) 2 f21 _ ["ground","shares"] (dw (bo c_Share) 2):=jU (k:=1) (W:=q21.fn) (C7:=⟨Q12.mono (by decide),m12,q12.fn.kp,b12⟩) (C6:=⟨Q17.mono (by decide),m17,q17.fn.kp,b17⟩) (b_tuple:=y11) (cl_Share:=ccl_Share) (n_Share_moves:=qn_Share_moves) (n_Share_places:=qn_Share_places) (n_Share_who:=qn_Share_who);have Q22:aY l.prog w K mg base (cQ l.prog w mg) 4 f22 _ ["ground","who","goals"] (dw (cZ c_Share) 3):=zT (k:=3) (W:=q22.fn) (C3:=⟨Q7.mono (by decide),m7,q7.fn.kp,b7⟩) (C2:=⟨Q10.mono (by decide),m10,q10.fn.kp,b10⟩) (C14:=⟨Q20.mono (by decide),m20,q20.fn.kp,b20⟩) (C9:=⟨Q21.mono (by decide),m21,q21.fn.kp,b21⟩) (C5:=⟨Q19.mono (by decide),m19,q19.fn.kp,b19⟩) (b_len:=y5) (m_NoPart:=n0) (q_NoPart:=qq0) (cl_Share:=ccl_Share) (n_Share_places:=qn_Share_places);have Q23:aY l.prog w K mg base (cQ l.prog w mg) 1 f23 _ ["told","count"] (dw cL 2):=rl (k:=0) (W:=q23.fn) (b_len:=y5) (b_range:=y9) (b_tuple:=y11);have Q24:aY l.prog w K mg base (cQ l.prog w mg) 1 f24 _ ["ground","watcher"] (dw cG 2):=pY (k:=0) (W:=q24.fn) (g_GOOD:=h3) (b_len:=y5) (b_range:=y9) (b_tuple:=y11);have Q25:aY l.prog w K mg base (cQ l.prog w mg) 1 f25 _ ["place","goals"] (dw cI 2):=qb (k:=0) (W:=q25.fn) (g_GAIN:=h1) (g_MARK:=h4) (g_WHO:=h8) (b_tuple:=y11);have Q26:aY l.prog w K mg base (cQ l.prog w mg) 2 f26 _ ["ground","state","place"] (dw cU 3):=wp (k:=1) (W:=q26.fn) (C16:=⟨Q25.mono (by decide),m25,q25.fn.kp,b25⟩) (g_GOALS:=h2) (g_MARK:=h4) (g_STEPS:=h7) (b_len:=y5) (b_sorted:=y10);have Q27:aY l.prog w K mg base (cQ l.prog w mg) 3 f27 _ ["ground","watcher"] (dw bE 2):=kJ (k:=2) (W:=q27.fn) (C23:=⟨Q26.mono (by decide),m26,q26.fn.kp,b26⟩) (b_tuple:=y11);have Q28:aY l.prog w K mg base (cQ l.prog w mg) 1 f28 _ ["thing","least","most"] (dw aB 3):=oQ (k:=0) (W:=q28.fn) (b_isinstance:=y4) (b_len:=y5) (b_tuple:=y11);have Q29:aY l.prog w K mg base (cQ l.prog w mg) 3 f29 _ ["thing","count"] (dw da 2):=rj (k:=2) (W:=q29.fn) (C1:=⟨Q9.mono (by decide),m9,q9.fn.kp,b9⟩) (C17:=⟨Q28.mono (by decide),m28,q28.fn.kp,b28⟩) (g_COUNT_OF_MARKS:=h0) (b_all:=y0);have Q30:aY l.prog w K mg base (cQ l.prog w mg) 4 f30 _ ["thing","count"] (dw dh 2):=tK (k:=3) (W:=q30.fn) (C18:=⟨Q29.mono (by decide),m29,q29.fn.kp,b29⟩) (C1:=⟨Q9.mono (by decide),m9,q9.fn.kp,b9⟩) (C17:=⟨Q28.mono (by decide),m28,q28.fn.kp,b28⟩) (g_GOOD:=h3) (g_PARTS_OF_STATE:=h6) (g_STEPS:=h7);have Q31:aY l.prog w K mg base (cQ l.prog w mg) 5 f31 _ ["thing"] (dw cH 1):=p8 (k:=4) (W:=q31.fn) (C19:=⟨Q30.mono (by decide),m30,q30.fn.kp,b30⟩) (C17:=⟨Q28.mono (by decide),m28,q28.fn.kp,b28⟩) (g_MOST_STATES:=h5) (b_all:=y0) (b_len:=y5);have Q32:aY l.prog w K mg base (cQ l.prog w mg) 6 f32 _ ["ground","watcher","who"] (dw (cV c_Share) 3):=wq (k:=5) (W:=q32.fn) (C15:=⟨Q22.mono (by decide),m22,q22.fn.kp,b22⟩) (C26:=⟨Q23.mono (by decide),m23,q23.fn.kp,b23⟩) (C25:=⟨Q24.mono (by decide),m24,q24.fn.kp,b24⟩) (C24:=⟨Q27.mono (by decide),m27,q27.fn.kp,b27⟩) (C20:=⟨Q31.mono (by decide),m31,q31.fn.kp,b31⟩) (g_MARK:=h4) (g_STEPS:=h7) (b_enumerate:=y2) (b_len:=y5) (b_tuple:=y11) (m_NoWatcher:=n1) (q_NoWatcher:=qq1);have Q33:aY l.prog w K mg base (cQ l.prog w mg) 1 f33 _ ["group","state"] (dw dj 2):=tO (k:=0) (W:=q33.fn) (g_COUNT_OF_MARKS:=h0) (b_range:=y9) (b_tuple:=y11);have Q34:aY l.prog w K mg base (cQ l.prog w mg) 4 f34 _ ["groups"] (dw bR 1):=qa (k:=3) (W:=q34.fn) (C2:=⟨Q10.mono (by decide),m10,q10.fn.kp,b10⟩) (C17:=⟨Q28.mono (by decide),m28,q28.fn.kp,b28⟩) (C21:=⟨Q33.mono (by decide),m33,q33.fn.kp,b33⟩) (g_COUNT_OF_MARKS:=h0) (g_MOST_STATES:=h5) (g_STEPS:=h7) (b_all:=y0) (b_enumerate:=y2) (b_tuple:=y11) (m_NoWatcher:=n1) (q_NoWatcher:=qq1);have Q35:aY l.prog w K mg base (cQ l.prog w mg) 7 fa _ ["_law_script"] (dw (xK c_Share) 1):=DD (k:=6) (W:=F35) (C33:=⟨Q5.mono (by decide),m5,q5.fn.kp,b5⟩) (C35:=⟨Q6.mono (by decide),m6,q6.fn.kp,b6⟩) (C29:=⟨Q1.mono (by decide),m1,q1.fn.kp,b1⟩) (C15:=⟨Q22.mono (by decide),m22,q22.fn.kp,b22⟩) (C27:=⟨Q32.mono (by decide),m32,q32.fn.kp,b32⟩) (C22:=⟨Q34.mono (by decide),m34,q34.fn.kp,b34⟩) (b_enumerate:=y2) (b_len:=y5) (b_range:=y9) (b_tuple:=y11);exact Q35.imp DF
end G
open PySem PySem.W PyProof.Rows
set_option maxRecDepth 100000 in
set_option maxHeartbeats 0 in
theorem PySem.Challenge.cw_duelground_k84_whole_watched_again_holds : PySem.Challenge.rw_duelground_k84_whole_watched_again.Holds := by
  w_on;o_law;k_head;(case hw=>w_witness2)
  k_fill
  refine D2.Gv (l:=PySem.Challenge.rw_duelground_k84_whole_watched_again) (k:=7) (x := "_law_script") (F:=G.F0) rfl rfl ⟨rfl,by decide,by decide⟩ (fun w h Y=>PySem.W.kIn_of Y) G.vc ?F
  case F =>
    intro w mg fa h KX GG hmg;refine' G.BZ KX GG hmg ?q0 ?q1 ?q2 ?q3 ?q4 ?q5 ?q6 ?q7 ?q8 ?q9 ?q10 ?q11 ?q12 ?q13 ?q14 ?q15 ?q16 ?q17 ?q18 ?q19 ?q20 ?q21 ?q22 ?q23 ?q24 ?q25 ?q26 ?q27 ?q28 ?q29 ?q30 ?q31 ?q32 ?q33 ?q34 ?a35 ?l35 ?c35 ?k35 ?qg0 ?qg1 ?qg2 ?qg3 ?qg4 ?qg5 ?qg6 ?qg7 ?qg8 ?qz0 ?qz1 ?qz2 ?qz3 ?qz4 ?qz5 ?qz6 ?qz7 ?qz8 ?qz9 ?qz10 ?qz11 ?qz12 ?qm0 ?qq0 ?qm1 ?qq1 ?qa_Share ?qi_Share ?qf_Share ?ql_Share ?qc_Share ?qk_Share ?qpg_Share ?qhd_Share ?qpo_Share ?qsa_Share ?qmk_Share ?qkc_Share ?qn_Share_who ?qn_Share_places ?qn_Share_moves ?nl
    (case q0=>refine' D2.aU ?a ?l ?c ?k;(case a=>k_is);(case l=>k_is);(case c=>k_is);(case k=>k_is))
    (case q1=>refine' D2.aU ?a ?l ?c ?k;(case a=>k_is);(case l=>k_is);(case c=>k_is);(case k=>k_is))
    (case q2=>refine' D2.aU ?a ?l ?c ?k;(case a=>k_is);(case l=>k_is);(case c=>k_is);(case k=>k_is))
    (case q3=>refine' D2.aU ?a ?l ?c ?k;(case a=>k_is);(case l=>k_is);(case c=>k_is);(case k=>k_is))
    (case q4=>refine' D2.aU ?a ?l ?c ?k;(case a=>k_is);(case l=>k_is);(case c=>k_is);(case k=>k_is))
    (case q5=>refine' D2.aU ?a ?l ?c ?k;(case a=>k_is);(case l=>k_is);(case c=>k_is);(case k=>k_is))
    (case q6=>refine' D2.aU ?a ?l ?c ?k;(case a=>k_is);(case l=>k_is);(case c=>k_is);(case k=>k_is))
    (case q7=>refine' D2.aU ?a ?l ?c ?k;(case a=>k_is);(case l=>k_is);(case c=>k_is);(case k=>k_is))
    (case q8=>refine' D2.aU ?a ?l ?c ?k;(case a=>k_is);(case l=>k_is);(case c=>k_is);(case k=>k_is))
    (case q9=>refine' D2.aU ?a ?l ?c ?k;(case a=>k_is);(case l=>k_is);(case c=>k_is);(case k=>k_is))
    (case q10=>refine' D2.aU ?a ?l ?c ?k;(case a=>k_is);(case l=>k_is);(case c=>k_is);(case k=>k_is))
    (case q11=>refine' D2.aU ?a ?l ?c ?k;(case a=>k_is);(case l=>k_is);(case c=>k_is);(case k=>k_is))
    (case q12=>refine' D2.aU ?a ?l ?c ?k;(case a=>k_is);(case l=>k_is);(case c=>k_is);(case k=>k_is))
    (case q13=>refine' D2.aU ?a ?l ?c ?k;(case a=>k_is);(case l=>k_is);(case c=>k_is);(case k=>k_is))
    (case q14=>refine' D2.aU ?a ?l ?c ?k;(case a=>k_is);(case l=>k_is);(case c=>k_is);(case k=>k_is))
    (case q15=>refine' D2.aU ?a ?l ?c ?k;(case a=>k_is);(case l=>k_is);(case c=>k_is);(case k=>k_is))
    (case q16=>refine' D2.aU ?a ?l ?c ?k;(case a=>k_is);(case l=>k_is);(case c=>k_is);(case k=>k_is))
    (case q17=>refine' D2.aU ?a ?l ?c ?k;(case a=>k_is);(case l=>k_is);(case c=>k_is);(case k=>k_is))
    (case q18=>refine' D2.aU ?a ?l ?c ?k;(case a=>k_is);(case l=>k_is);(case c=>k_is);(case k=>k_is))
    (case q19=>refine' D2.aU ?a ?l ?c ?k;(case a=>k_is);(case l=>k_is);(case c=>k_is);(case k=>k_is))
    (case q20=>refine' D2.aU ?a ?l ?c ?k;(case a=>k_is);(case l=>k_is);(case c=>k_is);(case k=>k_is))
    (case q21=>refine' D2.aU ?a ?l ?c ?k;(case a=>k_is);(case l=>k_is);(case c=>k_is);(case k=>k_is))
    (case q22=>refine' D2.aU ?a ?l ?c ?k;(case a=>k_is);(case l=>k_is);(case c=>k_is);(case k=>k_is))
    (case q23=>refine' D2.aU ?a ?l ?c ?k;(case a=>k_is);(case l=>k_is);(case c=>k_is);(case k=>k_is))
    (case q24=>refine' D2.aU ?a ?l ?c ?k;(case a=>k_is);(case l=>k_is);(case c=>k_is);(case k=>k_is))
    (case q25=>refine' D2.aU ?a ?l ?c ?k;(case a=>k_is);(case l=>k_is);(case c=>k_is);(case k=>k_is))
    (case q26=>refine' D2.aU ?a ?l ?c ?k;(case a=>k_is);(case l=>k_is);(case c=>k_is);(case k=>k_is))
    (case q27=>refine' D2.aU ?a ?l ?c ?k;(case a=>k_is);(case l=>k_is);(case c=>k_is);(case k=>k_is))
    (case q28=>refine' D2.aU ?a ?l ?c ?k;(case a=>k_is);(case l=>k_is);(case c=>k_is);(case k=>k_is))
    (case q29=>refine' D2.aU ?a ?l ?c ?k;(case a=>k_is);(case l=>k_is);(case c=>k_is);(case k=>k_is))
    (case q30=>refine' D2.aU ?a ?l ?c ?k;(case a=>k_is);(case l=>k_is);(case c=>k_is);(case k=>k_is))
    (case q31=>refine' D2.aU ?a ?l ?c ?k;(case a=>k_is);(case l=>k_is);(case c=>k_is);(case k=>k_is))
    (case q32=>refine' D2.aU ?a ?l ?c ?k;(case a=>k_is);(case l=>k_is);(case c=>k_is);(case k=>k_is))
    (case q33=>refine' D2.aU ?a ?l ?c ?k;(case a=>k_is);(case l=>k_is);(case c=>k_is);(case k=>k_is))
    (case q34=>refine' D2.aU ?a ?l ?c ?k;(case a=>k_is);(case l=>k_is);(case c=>k_is);(case k=>k_is))
    (case a35=>k_is)
    (case l35=>k_is)
    (case c35=>k_is)
    (case k35=>k_is)
    (case qg0=>k_is)
    (case qg1=>k_is)
    (case qg2=>k_is)
    (case qg3=>k_is)
    (case qg4=>k_is)
    (case qg5=>k_is)
    (case qg6=>k_is)
    (case qg7=>k_is)
    (case qg8=>k_is)
    (case qz0=>k_is)
    (case qz1=>k_is)
    (case qz2=>k_is)
    (case qz3=>k_is)
    (case qz4=>k_is)
    (case qz5=>k_is)
    (case qz6=>k_is)
    (case qz7=>k_is)
    (case qz8=>k_is)
    (case qz9=>k_is)
    (case qz10=>k_is)
    (case qz11=>k_is)
    (case qz12=>k_is)
    (case qm0=>k_is)
    (case qq0=>k_exc)
    (case qm1=>k_is)
    (case qq1=>k_exc)
    (case qa_Share=>k_is)
    (case qi_Share=>k_is)
    (case qf_Share=>k_is)
    (case ql_Share=>k_is)
    (case qc_Share=>k_is)
    (case qk_Share=>k_is)
    (case qpg_Share=>k_is)
    (case qhd_Share=>k_is)
    (case qpo_Share=>k_is)
    (case qsa_Share=>k_is)
    (case qmk_Share=>k_is)
    (case qkc_Share=>k_is)
    (case qn_Share_who=>k_is)
    (case qn_Share_places=>k_is)
    (case qn_Share_moves=>k_is)
    (case nl=>first | rfl | k_is | decide)

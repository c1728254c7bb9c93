import PyProof.Rows.All
import Wide.All
import OpenK.AllK
import Wide.FinOn
import Lean
import PyProof.EqAt
import PyProof.EqKinds
import PyProof.TupleCall
import PySem.Challenge.RW_duelground_k61_whole_least_credit
set_option Elab.async false
set_option linter.all false
set_option maxRecDepth 100000
set_option bootstrap.genMatcherCode false
set_option genSizeOf false
set_option genInjectivity false
set_option compiler.extract_closed false
set_option genSizeOfSpec false
local macro_rules | `(tactic| omega) => `(tactic| first | lia | omega +splitDisjunctions)
namespace L2
open PySem PySem.Spec PyProof.Rows
noncomputable abbrev bI:=Sum Int Str
noncomputable def im:bI->Value->Bool
  | .inl k,v=>Value.isInt k v
  | .inr x,v=>Value.isStrOf x v
noncomputable def wH (w:World):bI->Int
  | .inl k=>hashInt k
  | .inr x=>hashStr w x
theorem bj:∀ {k:bI} {v:Value},im k v=true->(∃ i t,k=Sum.inl i/\v=Value.int i t)\/(∃ x t,k=Sum.inr x/\v=Value.str x t)
  | .inl i,v,h=>by
    obtain ⟨t,e⟩:=Value.isInt_shape (k:=i) (v:=v) h;exact .inl ⟨i,t,rfl,e⟩
  | .inr x,v,h=>by
    obtain ⟨t,e⟩:=Value.isStrOf_shape (x:=x) (v:=v) h;exact .inr ⟨x,t,rfl,e⟩
theorem nh (i:Int) (t:Tok):im (.inl i) (.int i t)=true:=by simp [im,Value.isInt]
theorem ni (x:Str) (t:Tok):im (.inr x) (.str x t)=true:=by simp [im,Value.isStrOf]
theorem sC (a b:Int):decide ((Sum.inl a:bI)=Sum.inl b)=(a==b):=by
  by_cases e:a=b
  · subst e;simp
  · have h:¬ (Sum.inl a:bI)=Sum.inl b:=fun q=>e (Sum.inl.inj q)
    rw [decide_eq_false h];exact (beq_eq_false_iff_ne.mpr e).symm
theorem sF (a b:Str):decide ((Sum.inr a:bI)=Sum.inr b)=decide (a=b):=by
  by_cases e:a=b
  · subst e;simp
  · have h:¬ (Sum.inr a:bI)=Sum.inr b:=fun q=>e (Sum.inr.inj q)
    rw [decide_eq_false h,decide_eq_false e]
theorem sD (a:Int) (b:Str):decide ((Sum.inl a:bI)=Sum.inr b)=false:=decide_eq_false (fun q=>nomatch q)
theorem sE (a:Str) (b:Int):decide ((Sum.inr a:bI)=Sum.inl b)=false:=decide_eq_false (fun q=>nomatch q)
noncomputable def bL (prog:Program) (w:World):PySem.KeyKind prog w bI where
  is:=im
  hash:=wH w
  inj:=fun v a b ha hb=>by
    rcases bj ha with ⟨i,t,rfl,rfl⟩ | ⟨x,t,rfl,rfl⟩
    · rcases bj hb with ⟨j,u,rfl,e⟩ | ⟨y,u,rfl,e⟩
      · injection e with e1 _;rw [e1]
      · exact nomatch e
    · rcases bj hb with ⟨j,u,rfl,e⟩ | ⟨y,u,rfl,e⟩
      · exact nomatch e
      · injection e with e1 _;rw [e1]
  byValue:=fun k v h=>by
    rcases bj h with ⟨i,t,rfl,rfl⟩ | ⟨x,t,rfl,rfl⟩ <;> rfl
  pyHash:=fun hv h=>by
    rcases bj hv with ⟨i,t,rfl,rfl⟩ | ⟨x,t,rfl,rfl⟩
    · exact wpAny_pyHash_int h
    · exact wpAny_pyHash_str h
  eqBool:=fun hu hv h=>by
    rcases bj hu with ⟨i,t,rfl,rfl⟩ | ⟨x,t,rfl,rfl⟩
    · rcases bj hv with ⟨j,u,rfl,rfl⟩ | ⟨y,u,rfl,rfl⟩
      · rw [sC] at h;exact wpAny_eqBool_int h
      · rw [sD] at h;exact SeqAt.EqAt.int_str i t y u _ _ _ _ h
    · rcases bj hv with ⟨j,u,rfl,rfl⟩ | ⟨y,u,rfl,rfl⟩
      · rw [sE] at h;exact SeqAt.EqAt.str_int x t j u _ _ _ _ h
      · rw [sF] at h;exact wpAny_eqBool_str h
  «strs»:=fun k x t v h=>by
    rcases bj h with ⟨i,u,rfl,e⟩ | ⟨y,u,rfl,e⟩
    · exact nomatch e
    · injection e with e1 _
      subst e1;cases v <;> rfl
theorem kE (prog:Program) (w:World) (i:Int) (t:Tok):(bL prog w).is (.inl i) (.int i t)=true:=nh i t
theorem kF (prog:Program) (w:World) (x:Str) (t:Tok):(bL prog w).is (.inr x) (.str x t)=true:=ni x t
inductive V where
  | non | bl (b:Bool) | int (i:Int) | str (x:Str) | byt (b:Array UInt8) | flt (b:UInt64) | ref (a:Addr) | ty (n:String)
  deriving DecidableEq
noncomputable def be:V->Value->Prop
  | .non,u=>u=Value.none
  | .bl b,u=>u=Value.bool b
  | .int i,u=>∃ t,u=Value.int i t
  | .str x,u=>∃ t,u=Value.str x t
  | .byt b,u=>∃ t,u=Value.bytes b t
  | .flt b,u=>∃ t,u=Value.float b t
  | .ref a,u=>u=Value.ref a
  | .ty n,u=>u=Value.type n
noncomputable abbrev aH:List V->List Value->Prop:=Paired be
theorem aH.length {xs:List V} {us:List Value} (r:aH xs us):xs.length=us.length:=Paired.length r
theorem aH.get:∀ {xs:List V} {us:List Value} {i:Nat} {x:V},aH xs us->xs[i]?=some x->∃ u,us[i]?=some u/\be x u
  | _,_,_,_,.nil,e=>by simp at e
  | _,_,0,_,.cons r _,e=>by simp at e;subst e;exact ⟨_,rfl,r⟩
  | _,_,i+1,x,.cons _ t,e=>by
    obtain ⟨u,h1,h2⟩:=aH.get (i:=i) (x:=x) t (by simpa using e);exact ⟨u,by simpa using h1,h2⟩
theorem aH.set {x:V} {u:Value} (r:be x u):∀ {xs:List V} {us:List Value} (i:Nat),aH xs us->aH (xs.set i x) (us.set i u)
  | _,_,_,.nil=>.nil
  | _,_,0,.cons _ t=>.cons r t
  | _,_,i+1,.cons q t=>.cons q (aH.set r i t)
theorem aH.append:∀ {xs ys:List V} {us ws:List Value},aH xs us->aH ys ws->aH (xs++ys) (us++ws)
  | _,_,_,_,.nil,s=>s
  | _,_,_,_,.cons r t,s=>.cons r (aH.append t s)
theorem aH.take:∀ {xs:List V} {us:List Value} (n:Nat),aH xs us->aH (xs.take n) (us.take n)
  | _,_,0,_=>.nil
  | _,_,_+1,.nil=>.nil
  | _,_,n+1,.cons r t=>.cons r (aH.take n t)
theorem aH.drop:∀ {xs:List V} {us:List Value} (n:Nat),aH xs us->aH (xs.drop n) (us.drop n)
  | _,_,0,r=>r
  | _,_,_+1,.nil=>.nil
  | _,_,n+1,.cons _ t=>aH.drop n t
noncomputable def iK:Option V->Option Value->Prop
  | some v,some u=>be v u
  | none,none=>True
  | _,_=>False
noncomputable def KV {κ:Type}:List (κ×V)->List (κ×Value)->Prop:=Paired fun (p:κ×V) (q:κ×Value)=>p.1=q.1/\be p.2 q.2
noncomputable def kV:bI->V
  | .inl i=>.int i
  | .inr x=>.str x
inductive HO where
  /-- a list -/
  | lst (xs:List V)
  /-- a tuple (never changes) -/
  | tup (xs:List V)
  /-- a dict whose keys are ints and texts;one whose keys are tuples of ints and texts (the empty one is both) -/
  | dK (kvs:List (bI×V)) | dT (kvs:List (List bI×V))
  /-- a set of ints: its members,its size -/
  | set (S:Int->Bool) (n:Nat)
  /-- an instance of the class at C,its dict at dx,its attributes -/
  | ins (C dx:Addr) (fs:List (Str×V))
  /-- the dict of the instance at x -/
  | own (x:Addr)
  /-- the dict of an exception -/
  | xd (fs:List (Str×V))
  /-- a bound method,f of x -/
  | met (f x:Addr)
  /-- a range object lo,lo+1,.. below hi -/
  | rng (lo hi:Int)
  /-- a thing that is known to the object (the script;a dict while a loop walks it): read,never written while it is so -/
  | frz (o:Obj) (u:HO)
  /-- a code object's table -/
  | tbl (q:Str)
  /-- any other thing,by what is true of its one object (a def of one's own: SetO a S n:=HO.ext fun h=>..) -/
  | ext (φ:Heap->Prop)
noncomputable abbrev Hp:=Addr->Option HO
noncomputable def ca (H:Hp) (a:Addr) (o:HO):Hp:=fun b=>if b=a then some o else H b
theorem bc {H:Hp} {a:Addr} {o:HO}:ca H a o a=some o:=by unfold ca;rw [if_pos rfl]
theorem am {H:Hp} {a b:Addr} {o:HO} (h:b≠a):ca H a o b=H b:=by unfold ca;rw [if_neg h]
theorem uO {H:Hp} {a b:Addr} {o u:HO} (h:H a=some o) (h':H b=some u) (d:o≠u):a≠b:=by
  intro e;subst e;rw [h] at h';exact d (Option.some.inj h')
theorem ar {H:Hp} {a b:Addr} {o:HO} (h:H a=some o) (h':H b=none):a≠b:=by
  intro e;subst e;rw [h] at h';cases h'
noncomputable def c4 (h:Heap) (a:Addr) (items:Array Value):Prop:=∃ o,h.get? a=some o/\o.cls=.type "tuple" /\ (∃ n,o.data=.seq items n)/\o.dict=none
theorem c4.is {h:Heap} {a:Addr} {items:Array Value} (x:c4 h a items):IsTup h a items:=by
  obtain ⟨o,e,c,n,_⟩:=x;exact ⟨o,e,c,n⟩
theorem c4.lt {h:Heap} {a:Addr} {items:Array Value} (x:c4 h a items):a < h.objs.size:=by
  obtain ⟨o,e,_⟩:=x;exact Heap.lt_size e
theorem c4.new (h:Heap) (items:Array Value):c4 (h.push { cls:=.type "tuple",data:=.seq items }) h.objs.size items:=⟨_,Heap.get?_push_size _ rfl,rfl,⟨_,rfl⟩,rfl⟩
section
variable (P:Program) (w:World)
noncomputable def bw (H:Hp) (h:Heap) (a:Addr):HO->Prop
  | .lst xs=>xs.length<=sizeLine/\∃ (its:List Value) (n:Nat),aH xs its/\h.get? a=some { cls:=.type "list",data:=.seq its.toArray n }
  | .tup xs=>xs.length<=sizeLine/\∃ its:List Value,aH xs its/\c4 h a its.toArray
  | .dK kvs=>kvs.length<=sizeLine/\(a==sysModules)=false/\∃ vs,KV kvs vs/\h.DictOf (bL P w) a vs
  | .dT kvs=>kvs.length<=sizeLine/\(a==sysModules)=false/\∃ xs:List (List bI×Addr×Value),
      Paired (fun (p:List bI×V) (q:List bI×Addr×Value)=>p.1=q.1/\H q.2.1=some (.tup (p.1.map kV))/\be p.2 q.2.2) kvs xs /\
      ∃ o es ep,h.get? a=some o/\o.ExactDict/\o.data=.dict es ep/\es.toList=xs.map (entryOfKey (tupleKind (bL P w)))/\(xs.map (·.1)).Nodup
  | .set S n=>h.SetOf (intKind P w) a S n
  | .ins C dx fs=>H dx=some (.own a)/\fs.length<=1000/\dx≠a/\h.get? a=some (PySem.W.instObj C dx) /\
      ∃ mA,h.Ns1 dx mA/\(∀ f,iK (fs.lookup f) (mA f))/\PySem.Within mA (fs.map (·.1))
  | .own _=>∃ o,h.get? a=some o
  | .xd fs=>∃ mA,h.Ns1 a mA/\∀ f,iK (fs.lookup f) (mA f)
  | .rng lo hi=>∃ t u v,h.get? a=some { cls:=.type "range",data:=.fields #[.int lo t,.int hi u,.int 1 v] }
  | .frz o u=>h.get? a=some o/\bw H h a u
  | .tbl q=>∃ ps:Array Value,h.get? a=some { cls:=.none,data:=.fields ps }/\TriplesOk ps.toList/\∀ pos cv,codeAmong pos ps.toList=some cv->∃ c o vs t,cv=.ref c/\H c=some (.own a)/\h.get? c=some o/\o.data=.fields vs/\vs[1]?=some (.str q t)
  | .met f x=>h.get? a=some (PySem.W.methodObj (.ref f) (.ref x))
  | .ext φ=>φ h/\(∃ o,h.get? a=some o)/\∀ h1 h2:Heap,φ h1->(∀ o,h1.get? a=some o->h2.get? a=some o)->φ h2
noncomputable def dt (H:Hp) (h:Heap):Prop:=∀ a o,H a=some o->bw P w H h a o
end
section
variable {P:Program} {w:World} {H H':Hp} {h h':Heap} {a:Addr} {o:HO}
theorem bw.lt (x:bw P w H h a o):a < h.objs.size:=by
  cases o with
  | lst xs=>obtain ⟨_,_,_,_,e⟩:=x;exact Heap.lt_size e
  | tup xs=>obtain ⟨_,_,_,p⟩:=x;exact p.lt
  | dK kvs=>obtain ⟨_,_,_,_,o,_,_,e,_⟩:=x;exact Heap.lt_size e
  | dT kvs=>obtain ⟨_,_,_,_,o,_,_,e,_⟩:=x;exact Heap.lt_size e
  | set S n=>obtain ⟨o,_,_,_,e,_⟩:=x;exact Heap.lt_size e
  | ins C dx fs=>obtain ⟨_,_,_,e,_⟩:=x;exact Heap.lt_size e
  | own y=>obtain ⟨_,e⟩:=x;exact Heap.lt_size e
  | xd fs=>obtain ⟨_,⟨_,_,_,e,_⟩,_⟩:=x;exact Heap.lt_size e
  | rng lo hi=>obtain ⟨_,_,_,e⟩:=x;exact Heap.lt_size e
  | frz ob u=>obtain ⟨e,_⟩:=x;exact Heap.lt_size e
  | tbl q=>obtain ⟨_,e,_⟩:=x;exact Heap.lt_size e
  | met f y=>exact Heap.lt_size (show h.get? a=some _ from x)
  | ext φ=>obtain ⟨_,⟨_,e⟩,_⟩:=x;exact Heap.lt_size e
theorem Paired.mapP {α β:Type} {F G:α->β->Prop}:∀ {l₁:List α} {l₂:List β},Paired F l₁ l₂->(∀ a b,F a b->G a b)->Paired G l₁ l₂
  | _,_,.nil,_=>.nil
  | _,_,.cons r t,f=>.cons (f _ _ r) (Paired.mapP t f)
theorem bw.stay (x:bw P w H h a o) (k:∀ b u,(b=a\/H b=some (.own a))->h.get? b=some u->h'.get? b=some u)
    (ho:∀ b,H b=some (.own a)->H' b=some (.own a)) (ht:∀ b xs,H b=some (.tup xs)->H' b=some (.tup xs)):bw P w H' h' a o:=by
  induction o with
  | lst xs=>obtain ⟨z,its,n,r,e⟩:=x;exact ⟨z,its,n,r,k _ _ (.inl rfl) e⟩
  | tup xs=>obtain ⟨z,its,r,ob,e,c⟩:=x;exact ⟨z,its,r,ob,k _ _ (.inl rfl) e,c⟩
  | dK kvs=>obtain ⟨z,y,vs,r,ob,es,ep,e,c⟩:=x;exact ⟨z,y,vs,r,ob,es,ep,k _ _ (.inl rfl) e,c⟩
  | dT kvs =>
    obtain ⟨z,y,xs,r,ob,es,ep,e,c⟩:=x;exact ⟨z,y,xs,Paired.mapP r fun p q z=>⟨z.1,ht _ _ z.2.1,z.2.2⟩,ob,es,ep,k _ _ (.inl rfl) e,c⟩
  | set S n=>obtain ⟨ob,es,ep,t,e,c⟩:=x;exact ⟨ob,es,ep,t,k _ _ (.inl rfl) e,c⟩
  | ins C dx fs =>
    obtain ⟨d,z,ne,e,mA,⟨od,es,ep,e2,c⟩,r⟩:=x;exact ⟨ho _ d,z,ne,k _ _ (.inl rfl) e,mA,⟨od,es,ep,k _ _ (.inr d) e2,c⟩,r⟩
  | own y=>obtain ⟨ob,e⟩:=x;exact ⟨ob,k _ _ (.inl rfl) e⟩
  | xd fs=>obtain ⟨mA,⟨od,es,ep,e,c⟩,r⟩:=x;exact ⟨mA,⟨od,es,ep,k _ _ (.inl rfl) e,c⟩,r⟩
  | rng lo hi=>obtain ⟨t,u,v,e⟩:=x;exact ⟨t,u,v,k _ _ (.inl rfl) e⟩
  | frz ob u ih=>obtain ⟨e,q⟩:=x;exact ⟨k _ _ (.inl rfl) e,ih q⟩
  | tbl q =>
    obtain ⟨ps,e,t,c⟩:=x;refine ⟨ps,k _ _ (.inl rfl) e,t,fun pos cv z=>?_⟩;obtain ⟨c',o,vs,t',e1,e2,e3,e4⟩:=c pos cv z;exact ⟨c',o,vs,t',e1,ho _ e2,k _ _ (.inr e2) e3,e4⟩
  | met f y =>
    have e:h.get? a=some (PySem.W.methodObj (.ref f) (.ref y)):=x;show h'.get? a=some (PySem.W.methodObj (.ref f) (.ref y));exact k a _ (.inl rfl) e
  | ext φ=>obtain ⟨p,⟨o,e⟩,st⟩:=x;exact ⟨st _ _ p fun o q=>k _ _ (.inl rfl) q,⟨o,k _ _ (.inl rfl) e⟩,st⟩
theorem dt.lt (x:dt P w H h) (e:H a=some o):a < h.objs.size:=(x a o e).lt
theorem dt.fresh (x:dt P w H h) (e:h.objs.size<=a):H a=none:=by
  cases q:H a with
  | none=>rfl
  | some u=>exact absurd (Nat.lt_of_lt_of_le (x.lt q) e) (Nat.lt_irrefl _)
theorem dt.kept (x:dt P w H h) (k:∀ b u,h.get? b=some u->h'.get? b=some u):dt P w H h':=fun a o e =>
  (x a o e).stay (fun b u _ q=>k b u q) (fun _ q=>q) fun _ _ q=>q
theorem dt.laid (x:dt P w H h) (k:∀ b u,h.get? b=some u->h'.get? b=some u) (hp:h.objs.size<=a) (new:bw P w (ca H a o) h' a o):dt P w (ca H a o) h':=fun b u e=>by
  have hn:=x.fresh hp;by_cases hb:b=a
  · subst hb;rw [bc] at e;cases e;exact new
  · rw [am hb] at e;exact (x b u e).stay (fun c v _ q=>k c v q) (fun c q=>by rw [am (ar q hn)];exact q) fun c xs q=>by rw [am (ar q hn)];exact q
end
noncomputable def Rd (H:Hp) (a:Addr) (u:HO):Prop:=H a=some u\/∃ o,H a=some (.frz o u)
theorem Rd.ok {P:Program} {w:World} {H:Hp} {h:Heap} {a:Addr} {u:HO} (r:Rd H a u) (x:dt P w H h):bw P w H h a u:=by
  rcases r with r | ⟨o,r⟩
  · exact x a u r
  · obtain ⟨_,q⟩:=x a _ r;exact q
noncomputable def ua:Option HO->Prop
  | some (.lst _)=>True
  | some (.dK _)=>True
  | some (.dT _)=>True
  | some (.set _ _)=>True
  | some (.ins _ _ _)=>True
  | some (.ext _)=>True
  | _=>False
section
variable {P:Program} {w:World} {H:Hp} {h h':Heap} {x e:Addr} {o':HO}
theorem dt.write (ok:dt P w H h) (mu:ua (H x)) (he:e=x\/H e=some (.own x)) (k:∀ b u,b≠e->h.get? b=some u->h'.get? b=some u) (heo:∃ u,h'.get? e=some u)
    (new:bw P w (ca H x o') h' x o'):dt P w (ca H x o') h':=fun b u q=>by
  have nown:∀ c y,H c=some (.own y)->c≠x:=fun c y r z=>by subst z;rw [r] at mu;exact mu
  have ntup:∀ c xs,H c=some (.tup xs)->c≠x:=fun c xs r z=>by subst z;rw [r] at mu;exact mu
  by_cases hb:b=x
  · subst hb;rw [bc] at q;cases q;exact new
  · rw [am hb] at q;by_cases hbe:b=e
    · have q':H b=some (.own x):=by
        rcases he with z | z
        · exact absurd (hbe.trans z) hb
        · rw [hbe];exact z
      rw [q] at q';cases q';obtain ⟨v,hv⟩:=heo;exact ⟨v,by rw [hbe];exact hv⟩
    · refine (ok b u q).stay (fun c v hc r=>k c v ?_ r) (fun c r=>by rw [am (nown c b r)];exact r) fun c xs r=>by rw [am (ntup c xs r)];exact r
      rcases hc with rfl | hc
      · exact hbe
      · rintro rfl;rcases he with z | z
        · exact nown c b hc z
        · rw [hc] at z;cases z;exact hb rfl
end
structure Un (fs ex:List Addr) (H H':Hp) (h h':Heap):Prop where
  keep:∀ b o,h.get? b=some o->H b=none->b∉fs->b∉ex->h'.get? b=some o
  slot:∀ b o,h.get? b=some o->H b=none->b∈fs->b∉ex->∃ sl,h'.get? b=some { o with slots:=sl }
  free:∀ b o,h.get? b=some o->H b=none->b∉ex->H' b=none
  there:∀ b o,h.get? b=some o->b∉ex->∃ o',h'.get? b=some o'
  tups:∀ b xs,H b=some (.tup xs)->H' b=some (.tup xs)
  frzs:∀ b o u,H b=some (.frz o u)->H' b=some (.frz o u)
  tbls:∀ b ps,H b=some (.tbl ps)->H' b=some (.tbl ps)
section
variable {fs fs' ex ex':List Addr} {H H1 H2:Hp} {h h1 h2 h':Heap} {a x e:Addr} {o:HO}
theorem Un.any (u:Un fs ex H H1 h h1) {b:Addr} {ob:Obj} (q:h.get? b=some ob) (n:H b=none) (hx:b∉ex):∃ sl,h1.get? b=some { ob with slots:=sl }:=by
  by_cases hb:b∈fs
  · exact u.slot b ob q n hb hx
  · exact ⟨ob.slots,u.keep b ob q n hb hx⟩
theorem Un.kept (k:∀ b u,h.get? b=some u->h'.get? b=some u):Un fs ex H H h h' :=
  ⟨fun b ob q _ _ _=>k b ob q,fun b ob q _ _ _=>⟨ob.slots,k b ob q⟩,fun _ _ _ n _=>n,fun b ob q _=>⟨ob,k b ob q⟩,fun _ _ q=>q,fun _ _ _ q=>q,fun _ _ q=>q⟩
theorem Un.refl:Un fs ex H H h h:=Un.kept fun _ _ q=>q
theorem Un.laid (k:∀ b u,h.get? b=some u->h'.get? b=some u) (hp:h.objs.size<=a) (hn:H a=none):Un fs ex H (ca H a o) h h' where
  keep:=fun b u q _ _ _=>k b u q
  slot:=fun b u q _ _ _=>⟨u.slots,k b u q⟩
  free:=fun b u q n _=>by rw [am (Nat.ne_of_lt (Nat.lt_of_lt_of_le (Heap.lt_size q) hp))];exact n
  there:=fun b u q _=>⟨u,k b u q⟩
  tups:=fun b xs q=>by rw [am (ar q hn)];exact q
  frzs:=fun b u xs q=>by rw [am (ar q hn)];exact q
  tbls:=fun b ps q=>by rw [am (ar q hn)];exact q
theorem Un.write (mu:ua (H x)) (he:e=x\/H e=some (.own x)) (k:∀ b u,b≠e->h.get? b=some u->h'.get? b=some u) (heo:∃ u,h'.get? e=some u):Un fs ex H (ca H x o) h h':=by
  have hx:∀ b,H b=none->b≠x:=fun b n z=>by subst z;rw [n] at mu;exact mu
  have hb:∀ b,H b=none->b≠e:=fun b n z=>by
    subst z;rcases he with r | r
    · exact hx b n r
    · rw [n] at r;cases r
  have hm:∀ b u,H b=some u->¬ ua (some u)->b≠x:=fun b u q nm z=>by subst z;rw [q] at mu;exact nm mu
  refine ⟨fun b u q n _ _=>k b u (hb b n) q,fun b u q n _ _=>⟨u.slots,k b u (hb b n) q⟩,fun b u q n _=>by rw [am (hx b n)];exact n,fun b u q _=>?_,
    fun b xs q=>by rw [am (hm b _ q fun z=>z)];exact q,fun b u xs q=>by rw [am (hm b _ q fun z=>z)];exact q,fun b ps q=>by rw [am (hm b _ q fun z=>z)];exact q⟩
  by_cases hbe:b=e
  · subst hbe;exact heo
  · exact ⟨u,k b u hbe q⟩
end
noncomputable def wg (h:Heap) (H:Hp):List Addr:=(List.range h.objs.size).filter fun a=>(H a).isSome
noncomputable def iV (h:Heap) (H:Hp):Heap:=PySem.W.hideAll h (wg h H)
theorem na (h:Heap) (H:Hp):(iV h H).objs.size=h.objs.size:=PySem.W.hideAll_size _ _
theorem oB {h:Heap} {H:Hp} {b:Addr} {o:Obj} (e:h.get? b=some o) (n:H b=none):(iV h H).get? b=some o :=
  PySem.W.hideAll_get _ e fun hm=>by
    have q:(H b).isSome=true:=(List.mem_filter.mp hm).2;rw [n] at q;simp at q
theorem qB {h:Heap} {H:Hp} {b:Addr} {o:Obj} (e:(iV h H).get? b=some o):h.get? b=some o/\H b=none:=by
  have e':h.get? b=some o:=PySem.W.of_hideAll (wg h H) e;refine ⟨e',?_⟩;cases q:H b with
  | none=>rfl
  | some x =>
    have hm:b∈wg h H:=List.mem_filter.mpr ⟨List.mem_range.mpr (Heap.lt_size e'),by simp [q]⟩;have z:(iV h H).get? b=none:=PySem.W.hideAll_none (wg h H) hm;rw [z] at e;cases e
noncomputable def pZ (g h:Heap) (L:Addr):List (Addr×Obj):=(List.range h.objs.size).filterMap fun a=>if a=L\/(g.get? a).isSome=true then none else (h.get? a).map fun o=>(a,o)
noncomputable def rest (g h:Heap) (L d:Addr):List (Addr×Obj):=(pZ g h L).filter fun p=>decide (p.1≠d)
structure Mod (K:PySem.W.Frag) (mg:Str->Option Value) (base:Heap):Prop where
  kin:K.In base
  glob:base.Ns mainGlobals mg
  blt:∃ mb,base.Ns builtinsNs mb/\∀ x:Str,x ≠ "__name__" -> mb x=bootBuiltins x
  nolimit:base.NoLimit
  bmain:∃ bm ob,mg "__builtins__" = some (.ref bm)/\bm≠builtinsNs/\base.get? bm=some ob/\ob.cls=.type "module" /\ ob.dict=some builtinsNs/\ob.data=.plain
structure Cx where
  prog:Program
  w:World
  K:PySem.W.Frag
  mg:Str->Option Value
  base:Heap
  A:Around
  N:List Str
  s₀:Shared
  H₀:Hp
  env:Env
  outer:List Env
  stack:List Env
  ex:List Addr
  fn:Str->Bool
  calm:Bool
  pn:List (Addr×Obj)
  xe:Value->Shared->Prop
noncomputable def fY (l:List Env):List Addr:=l.filterMap (·.frame)
noncomputable abbrev Cx.fs (X:Cx):List Addr:=fY X.outer
noncomputable def tV (sc:Scope) (x:Str):Prop:=sc.names.lookup x=some .local\/sc.names.lookup x=some .cell\/sc.names.lookup x=some .free
noncomputable def sa (sc:Scope) (x:Str):Prop:=sc.names.lookup x=some .local\/sc.names.lookup x=some .cell
noncomputable def wl (env:Env) (h:Heap) (m:Str->Option Value) (x:Str) (u:Value):Prop :=
  (env.kindOf x=some .local/\m x=some u)\/((env.kindOf x=some .cell\/env.kindOf x=some .free)/\∃ c,env.cells.lookup x=some c/\h.IsCell c (some u))
noncomputable def jM:List Str:=["cheapest_goal"]
noncomputable def nQ (K:PySem.W.Frag) (H:Hp):Prop:=∀ x∈jM,∀ c P,PySem.W.tabIn K x=some (c,P)->H P=some (.tbl (x ++ ".<locals>." ++ "<lambda>"))
structure Cx.Ok (X:Cx):Prop where
  mod:Mod X.K X.mg X.base
  kind:X.env.scope.kind=.function
  glob:X.env.globals=mainGlobals
  blt:X.env.builtins=builtinsNs
  above:X.s₀.heap.objs.size<=X.env.locals
  inj:∀ x y c,X.env.cells.lookup x=some c->X.env.cells.lookup y=some c->x=y
  has:∀ x,(X.env.kindOf x=some .cell\/X.env.kindOf x=some .free)->∃ c,X.env.cells.lookup x=some c
  cab:∀ x c,X.fn x=true->X.env.cells.lookup x=some c->X.s₀.heap.objs.size<=c
  hd:X.calm=true->X.A.handled=none
  frames:X.A.frames=some X.stack
  stk:X.stack=X.outer\/(X.stack=X.env::X.outer/\X.env.frame=some X.env.locals)
  exf:∀ b∈X.ex,b≠X.env.locals/\∀ x c,X.env.cells.lookup x=some c->c≠b
  bs:∀ b o,X.base.get? b=some o->X.s₀.heap.get? b=some o/\X.H₀ b=none
  bsz:X.base.objs.size<=X.s₀.heap.objs.size
  noex:∀ b o,X.base.get? b=some o->b∉X.ex
  exfs:∀ b∈X.ex,b∉X.fs
  funs:X.s₀.heap.FunFrames X.base X.outer
  frf:∀ b∈X.fs,X.H₀ b=none
  tab:nQ X.K X.H₀
structure aq (X:Cx) (pins:List (Addr×Obj)) (σ:List (Option V)) (H:Hp) (s:Shared):Prop where
  ok:X.Ok
  os:s.os=X.s₀.os
  bare:AllBare s.gens
  base:Un X.fs X.ex X.H₀ H X.s₀.heap s.heap
  loc:∃ m,s.heap.Ns X.env.locals m/\∀ (i:Nat) (x:Str) (v:V),X.N[i]?=some x->σ[i]?=some (some v)->tV X.env.scope x->∃ u,be v u/\wl X.env s.heap m x u
  cell:∀ x c,X.env.cells.lookup x=some c->∃ v,s.heap.IsCell c v
  free:H X.env.locals=none
  freeC:∀ x c,X.env.cells.lookup x=some c->H c=none
  pin:∀ p∈X.pn++pins,s.heap.get? p.1=some p.2/\H p.1=none/\p.1≠X.env.locals/\p.1∉X.fs/\∀ v,p.2.data≠.cell v
  hok:dt X.prog X.w H s.heap
  len:σ.length=X.N.length
section
variable {X:Cx} {pins:List (Addr×Obj)} {σ:List (Option V)} {H H':Hp} {s:Shared} {h':Heap}
theorem Cx.Ok.nofr (ok:X.Ok) {b:Addr} {o:Obj} (e:X.base.get? b=some o):b∉X.fs:=fun hb=>by
  have:=(ok.funs.mem hb).1;rw [e] at this;cases this
theorem aq.bs (I:aq X pins σ H s):∀ b o,X.base.get? b=some o->s.heap.get? b=some o/\H b=none:=fun b o e =>
  ⟨I.base.keep b o (I.ok.bs b o e).1 (I.ok.bs b o e).2 (I.ok.nofr e) (I.ok.noex b o e),I.base.free b o (I.ok.bs b o e).1 (I.ok.bs b o e).2 (I.ok.noex b o e)⟩
theorem aq.bk (I:aq X pins σ H s):∀ b o,X.base.get? b=some o->s.heap.get? b=some o:=fun b o e=>(I.bs b o e).1
theorem aq.mod (I:aq X pins σ H s):Mod X.K X.mg X.base:=I.ok.mod
theorem aq.kIn (I:aq X pins σ H s):X.K.In s.heap:=I.ok.mod.kin.keeps I.bk
theorem aq.nolimit (I:aq X pins σ H s):s.heap.NoLimit:=I.ok.mod.nolimit.keeps I.bk
theorem aq.lt (I:aq X pins σ H s):X.env.locals < s.heap.objs.size:=let ⟨_,hn,_⟩:=I.loc;hn.lt
theorem aq.sz (I:aq X pins σ H s):X.s₀.heap.objs.size<=s.heap.objs.size:=Nat.le_trans I.ok.above (Nat.le_of_lt I.lt)
theorem aq.nofs (I:aq X pins σ H s) {a:Addr} (h:s.heap.objs.size<=a):a∉X.fs:=fun hb=>by
  obtain ⟨_,o,ho,_⟩:=I.ok.funs.mem hb;exact absurd (Nat.lt_of_lt_of_le (Heap.lt_size ho) (Nat.le_trans I.sz h)) (Nat.lt_irrefl _)
theorem aq.cne (I:aq X pins σ H s):∀ x c,X.env.cells.lookup x=some c->c≠X.env.locals:=fun x c e z=>by
  obtain ⟨v,o,ho,hd⟩:=I.cell x c e;obtain ⟨m,⟨o',es,ep,ho',hd',_⟩,_⟩:=I.loc;rw [z,ho'] at ho;cases ho;rw [hd'] at hd;cases hd
theorem aq.funs (I:aq X pins σ H s):s.heap.FunFrames X.base X.outer:=by
  have all:∀ (l:List Env),(∀ b∈fY l,b∈X.fs)->X.s₀.heap.FunFrames X.base l->s.heap.FunFrames X.base l:=by
    intro l;induction l with
    | nil=>intro _ _;trivial
    | cons env r ih =>
      intro hs hl;obtain ⟨hk,⟨L,o,hf,hn,ho,hd⟩,hr⟩:=hl;have hL:L∈X.fs:=hs L (by unfold fY;rw [List.filterMap_cons,hf];exact List.mem_cons_self);obtain ⟨sl,e⟩:=I.base.slot L o ho (I.ok.frf L hL) hL fun z=>I.ok.exfs L z hL
      exact ⟨hk,⟨L,_,hf,hn,e,hd⟩,ih (fun b hb=>hs b (by unfold fY;rw [List.filterMap_cons,hf];exact List.mem_cons_of_mem _ hb)) hr⟩
  exact all X.outer (fun _ hb=>hb) I.ok.funs
theorem aq.stack (I:aq X pins σ H s):s.heap.FunFrames X.base X.stack:=by
  rcases I.ok.stk with e | ⟨e,hf⟩
  · rw [e];exact I.funs
  · rw [e];obtain ⟨m,hn,_⟩:=I.loc;refine .cons (by rw [I.ok.kind];decide) hf hn ?_ I.funs;exact Heap.get?_none_of_le (Nat.le_trans I.ok.bsz I.ok.above)
theorem aq.stkSub (I:aq X pins σ H s):∀ b∈fY X.stack,b∈X.env.locals::X.fs:=fun b hb=>by
  rcases I.ok.stk with e | ⟨e,hf⟩
  · rw [e] at hb;exact List.mem_cons_of_mem _ hb
  · rw [e] at hb;unfold fY at hb;rw [List.filterMap_cons,hf] at hb;exact hb
theorem aq.stkFree (I:aq X pins σ H s):∀ b∈fY X.stack,H b=none:=fun b hb=>by
  rcases List.mem_cons.mp (I.stkSub b hb) with e | hb
  · rw [e];exact I.free
  · obtain ⟨_,o,ho,_⟩:=I.ok.funs.mem hb;exact I.base.free b o ho (I.ok.frf b hb) fun z=>I.ok.exfs b z hb
theorem aq.step {g':Array GenState} {t':Nat} {d':Drawn} {ch:List Addr} (I:aq X pins σ H s)
    (hch:∀ b∈ch,(b∈X.ex\/X.s₀.heap.objs.size<=b)/\b≠X.env.locals/\(∀ x c,X.env.cells.lookup x=some c->c≠b)/\∀ p∈X.pn++pins,p.1≠b)
    (keep:∀ b o,b≠X.env.locals->b∉X.fs->b∉ch->s.heap.get? b=some o->H b=none->h'.get? b=some o)
    (slot:∀ b o,b≠X.env.locals->b∈X.fs->b∉ch->s.heap.get? b=some o->H b=none->∃ sl,h'.get? b=some { o with slots:=sl }) (free:∀ b o,b∉ch->s.heap.get? b=some o->H b=none->H' b=none)
    (there:∀ b o,b∉ch->s.heap.get? b=some o->∃ o',h'.get? b=some o')
    (tups:∀ b xs,H b=some (.tup xs)->H' b=some (.tup xs)) (frzs:∀ b o u,H b=some (.frz o u)->H' b=some (.frz o u)) (tbls:∀ b ps,H b=some (.tbl ps)->H' b=some (.tbl ps))
    (ns:∀ m,s.heap.Ns X.env.locals m->h'.Ns X.env.locals m) (hok:dt X.prog X.w H' h') (hg:AllBare g') :
    aq X pins σ H' { s with heap:=h',gens:=g',drawn:=d',toks:=t' }:=by
  have neL:∀ b o,X.s₀.heap.get? b=some o->b≠X.env.locals:=fun b o e=>Nat.ne_of_lt (Nat.lt_of_lt_of_le (Heap.lt_size e) I.ok.above)
  have neC:∀ b o,X.s₀.heap.get? b=some o->b∉X.ex->b∉ch:=fun b o e hx hb=>by
    rcases (hch b hb).1 with z | z
    · exact hx z
    · exact absurd (Nat.lt_of_lt_of_le (Heap.lt_size e) z) (Nat.lt_irrefl _)
  have cellK:∀ x c,X.env.cells.lookup x=some c->∀ v,s.heap.IsCell c v->h'.IsCell c v:=fun x c e v ⟨o,ho,hd⟩=>by
    have nch:c∉ch:=fun z=>(hch c z).2.2.1 x c e rfl
    by_cases hc:c∈X.fs
    · obtain ⟨sl,q⟩:=slot c o (I.cne x c e) hc nch ho (I.freeC x c e);exact ⟨_,q,hd⟩
    · exact ⟨o,keep c o (I.cne x c e) hc nch ho (I.freeC x c e),hd⟩
  refine ⟨I.ok,I.os,hg,⟨fun b o e n hb hx=>?_,fun b o e n hb hx=>?_,fun b o e n hx=>?_,fun b o e hx=>?_,fun b xs e=>tups b xs (I.base.tups b xs e),fun b o xs e=>frzs b o xs (I.base.frzs b o xs e),fun b ps e=>?_⟩,?_,fun x c e=>?_,?_,fun x c e=>?_,fun p hp=>?_,hok,I.len⟩
  · exact keep b o (neL b o e) hb (neC b o e hx) (I.base.keep b o e n hb hx) (I.base.free b o e n hx)
  · obtain ⟨sl,e1⟩:=I.base.slot b o e n hb hx;obtain ⟨sl',e2⟩:=slot b _ (neL b o e) hb (neC b o e hx) e1 (I.base.free b o e n hx);exact ⟨sl',e2⟩
  · obtain ⟨o',e1⟩:=I.base.there b o e hx;exact free b o' (neC b o e hx) e1 (I.base.free b o e n hx)
  · obtain ⟨o',e1⟩:=I.base.there b o e hx;exact there b o' (neC b o e hx) e1
  · exact tbls b ps (I.base.tbls b ps e)
  · obtain ⟨m,hn,hl⟩:=I.loc;refine ⟨m,ns m hn,fun i x v e1 e2 e3=>?_⟩;obtain ⟨u,r,l⟩:=hl i x v e1 e2 e3;refine ⟨u,r,?_⟩;rcases l with l | ⟨k,c,e,z⟩
    · exact .inl l
    · exact .inr ⟨k,c,e,cellK x c e _ z⟩
  · obtain ⟨v,z⟩:=I.cell x c e;exact ⟨v,cellK x c e v z⟩
  · obtain ⟨m,⟨o,_,_,ho,_⟩,_⟩:=I.loc;exact free _ o (fun z=>(hch _ z).2.1 rfl) ho I.free
  · obtain ⟨v,o,ho,hd⟩:=I.cell x c e;exact free c o (fun z=>(hch c z).2.2.1 x c e rfl) ho (I.freeC x c e)
  · obtain ⟨e,n,ne,nf,d⟩:=I.pin p hp;have nch:p.1∉ch:=fun z=>(hch p.1 z).2.2.2 p hp rfl
    exact ⟨keep p.1 p.2 ne nf nch e n,free p.1 p.2 nch e n,ne,nf,d⟩
theorem aq.un {t':Nat} (I:aq X pins σ H s) (u:Un X.fs [] H H' s.heap h') (hok:dt X.prog X.w H' h'):aq X pins σ H' { s with heap:=h',toks:=t' }:=by
  obtain ⟨m,⟨o,es,ep,ho,r⟩,_⟩:=id I.loc;obtain ⟨sl,hL⟩:=u.any ho I.free (by simp);exact I.step (g':=s.gens) (d':=s.drawn) (ch:=[]) (fun _ z=>nomatch z) (fun b o _ hb _ e n=>u.keep b o e n hb (by simp)) (fun b o _ hb _ e n=>u.slot b o e n hb (by simp)) (fun b o _ e n=>u.free b o e n (by simp)) (fun b o _ e=>u.there b o e (by simp)) u.tups u.frzs u.tbls (fun m' hm=>by
    obtain ⟨o',es',ep',ho',r'⟩:=hm;rw [ho] at ho';cases ho';exact ⟨_,es',ep',hL,r'⟩) hok I.bare
theorem aq.call {g':Array GenState} {t':Nat} {d':Drawn} {ch:List Addr} (I:aq X pins σ H s) (u:Un (fY X.stack) ch H H' s.heap h') (hok:dt X.prog X.w H' h') (hg:AllBare g')
    (hch:∀ b∈ch,(b∈X.ex\/X.s₀.heap.objs.size<=b)/\b≠X.env.locals/\(∀ x c,X.env.cells.lookup x=some c->c≠b)/\∀ p∈X.pn++pins,p.1≠b) :
    aq X pins σ H' { s with heap:=h',gens:=g',drawn:=d',toks:=t' }:=by
  obtain ⟨m,⟨o,es,ep,ho,r⟩,_⟩:=id I.loc;obtain ⟨sl,hL⟩:=u.any ho I.free fun z=>(hch _ z).2.1 rfl
  exact I.step (ch:=ch) hch (fun b o hL hb hc e n=>u.keep b o e n (fun z=>(List.mem_cons.mp (I.stkSub b z)).elim hL hb) hc) (fun b o _ _ hc e n=>u.any e n hc) (fun b o hc e n=>u.free b o e n hc) (fun b o hc e=>u.there b o e hc) u.tups u.frzs u.tbls (fun m' hm=>by
    obtain ⟨o',es',ep',ho',r'⟩:=hm;rw [ho] at ho';cases ho';exact ⟨_,es',ep',hL,r'⟩) hok hg
theorem aq.turned {t':Nat} {it:Addr} (I:aq X pins σ H s) (k:∀ b o,b≠it->s.heap.get? b=some o->h'.get? b=some o) (hn:H it=none) (hL:it≠X.env.locals)
    (h1:it∈X.ex\/X.s₀.heap.objs.size<=it) (h2:∀ x c,X.env.cells.lookup x=some c->c≠it) (h3:∀ p∈X.pn++pins,p.1≠it):aq X pins σ H { s with heap:=h',toks:=t' }:=by
  have nit:∀ b u,H b=some u->b≠it:=fun b u e z=>by rw [z,hn] at e;cases e
  refine I.step (g':=s.gens) (d':=s.drawn) (ch:=[it]) (fun b hb=>?_) (fun b o _ _ hc e _=>k b o (fun z=>hc (by simp [z])) e) (fun b o _ _ hc e _=>⟨o.slots,k b o (fun z=>hc (by simp [z])) e⟩) (fun _ _ _ _ n=>n)
    (fun b o hc e=>⟨o,k b o (fun z=>hc (by simp [z])) e⟩) (fun _ _ e=>e) (fun _ _ _ e=>e) (fun _ _ e=>e) (fun m hm=>?_) (fun b u e=>?_) I.bare
  · have e:b=it:=by simpa using hb
    subst e;exact ⟨h1,hL,h2,h3⟩
  · obtain ⟨o,es,ep,ho,r⟩:=hm;exact ⟨o,es,ep,k _ o (Ne.symm hL) ho,r⟩
  · refine (I.hok b u e).stay (fun c v hc q=>k c v ?_ q) (fun _ q=>q) fun _ _ q=>q
    rcases hc with z | z
    · rw [z];exact nit b u e
    · exact nit c _ z
theorem aq.tok (I:aq X pins σ H s) (t:Nat):aq X pins σ H { s with toks:=t }:=I.un (h':=s.heap) (t':=t) Un.refl I.hok
theorem aq.kept {t':Nat} (I:aq X pins σ H s) (k:∀ b u,s.heap.get? b=some u->h'.get? b=some u):aq X pins σ H { s with heap:=h',toks:=t' }:=I.un (Un.kept k) (I.hok.kept k)
theorem aq.laid {a:Addr} {o:HO} {t':Nat} (I:aq X pins σ H s) (k:∀ b u,s.heap.get? b=some u->h'.get? b=some u) (hp:s.heap.objs.size<=a) (new:bw X.prog X.w (ca H a o) h' a o) :
    aq X pins σ (ca H a o) { s with heap:=h',toks:=t' }:=I.un (Un.laid k hp (I.hok.fresh hp)) (I.hok.laid k hp new)
theorem aq.write {x e:Addr} {o:HO} {t':Nat} (I:aq X pins σ H s) (mu:ua (H x)) (he:e=x\/H e=some (.own x)) (k:∀ b u,b≠e->s.heap.get? b=some u->h'.get? b=some u) (heo:∃ u,h'.get? e=some u)
    (new:bw X.prog X.w (ca H x o) h' x o):aq X pins σ (ca H x o) { s with heap:=h',toks:=t' }:=I.un (Un.write mu he k heo) (I.hok.write mu he k heo new)
theorem aq.pins_of {pins':List (Addr×Obj)} (I:aq X pins σ H s) (h:∀ p∈pins',s.heap.get? p.1=some p.2/\H p.1=none/\p.1≠X.env.locals/\p.1∉X.fs/\∀ v,p.2.data≠.cell v):aq X pins' σ H s :=
  ⟨I.ok,I.os,I.bare,I.base,I.loc,I.cell,I.free,I.freeC,fun p hp=>(List.mem_append.mp hp).elim (fun z=>I.pin p (List.mem_append_left _ z)) (h p),I.hok,I.len⟩
theorem kH {N:List Str} (hN:N.Nodup) {i j:Nat} {x:Str} (a:N[i]?=some x) (b:N[j]?=some x):i=j:=by
  obtain ⟨h1,e1⟩:=List.getElem?_eq_some_iff.mp a;obtain ⟨h2,e2⟩:=List.getElem?_eq_some_iff.mp b;exact (List.getElem_inj hN).mp (e1.trans e2.symm)
theorem jp {M:Model} {A:Around} {E:Value->Shared->Prop} {i:Nat} {x:Str} {v:V} {u:Value} {Q:Unit->Shared->Prop} (I:aq X pins σ H s) (hN:X.N.Nodup) (hi:X.N[i]?=some x) (hx:sa X.env.scope x) (r:be v u)
    (h:∀ s',aq X pins (σ.set i (some v)) H s'->(∃ a,Heap.SameBut a s.heap s'.heap/\(a=X.env.locals\/X.env.cells.lookup x=some a))->Q () s') (hf:X.fn x=true\/X.env.scope.names.lookup x=some .local:=by first | exact .inl rfl | exact .inr rfl | assumption):wpAny M A (storeName X.env x u) Q E s:=by
  obtain ⟨m,hn,hl⟩:=id I.loc;have hcls:(X.env.scope.kind==.class||(X.env.scope.kind==.module&&X.env.locals != X.env.globals))=false:=by rw [I.ok.kind];rfl
  have hiσ:i < σ.length:=by rw [I.len];exact (List.getElem?_eq_some_iff.mp hi).1
  have cne:=I.cne;have tracked:∀ {a:Addr} {h':Heap},(∃ o,s.heap.get? a=some o/\H a=none)->Heap.SameBut a s.heap h'->dt X.prog X.w H h':=fun {a h'} ha hs b ob e=>by
    obtain ⟨_,_,hfree⟩:=ha;refine (I.hok b ob e).stay (fun c w' hc q=>(hs.2 c ?_).trans q) (fun _ q=>q) fun _ _ q=>q
    rintro rfl;rcases hc with rfl | hc
    · rw [hfree] at e;cases e
    · rw [hfree] at hc;cases hc
  rcases hx with hk | hk
  · refine wpAny_storeName_local hk hn (fun h' hn' hs=>?_) hcls;obtain ⟨oL,_,_,hoL,_⟩:=id hn;refine h _ ⟨I.ok,I.os,I.bare,⟨fun b o e n hb hx=>?_,fun b o e n hb hx=>?_,I.base.free,fun b o e hx=>?_,I.base.tups,I.base.frzs,I.base.tbls⟩,⟨_,hn',fun j y v' e1 e2 e3=>?_⟩,fun y c e=>?_,I.free,I.freeC,fun p hp=>?_,tracked ⟨oL,hoL,I.free⟩ hs,by simpa using I.len⟩ ⟨_,hs,.inl rfl⟩
    · exact (hs.2 b (Nat.ne_of_lt (Nat.lt_of_lt_of_le (Heap.lt_size e) I.ok.above))).trans (I.base.keep b o e n hb hx)
    · obtain ⟨sl,e1⟩:=I.base.slot b o e n hb hx;exact ⟨sl,(hs.2 b (Nat.ne_of_lt (Nat.lt_of_lt_of_le (Heap.lt_size e) I.ok.above))).trans e1⟩
    · obtain ⟨o',e1⟩:=I.base.there b o e hx;exact ⟨o',(hs.2 b (Nat.ne_of_lt (Nat.lt_of_lt_of_le (Heap.lt_size e) I.ok.above))).trans e1⟩
    · by_cases hj:j=i
      · subst hj;rw [hi] at e1;cases e1;rw [List.getElem?_set_self hiσ] at e2;cases e2;exact ⟨u,r,.inl ⟨hk,by simp⟩⟩
      · rw [List.getElem?_set_ne (Ne.symm hj)] at e2;obtain ⟨u',r',q⟩:=hl j y v' e1 e2 e3;refine ⟨u',r',?_⟩;rcases q with ⟨k,e⟩ | ⟨k,c,e,z⟩
        · refine .inl ⟨k,?_⟩;have:y≠x:=fun e=>hj (kH hN e1 (e ▸ hi))
          simp [this,e]
        · exact .inr ⟨k,c,e,z.sameBut hs (cne y c e)⟩
    · obtain ⟨w',z⟩:=I.cell y c e;exact ⟨w',z.sameBut hs (cne y c e)⟩
    · obtain ⟨e,n,ne,nf,d⟩:=I.pin p hp;exact ⟨(hs.2 p.1 ne).trans e,n,ne,nf,d⟩
  · have hfn:X.fn x=true:=by
      rcases hf with z | z
      · exact z
      · rw [z] at hk;cases hk
    obtain ⟨c,hc⟩:=I.ok.has x (.inl hk);obtain ⟨w',z⟩:=I.cell x c hc;refine wpAny_storeName_cell I.ok.kind hk hc z (fun h' hc' hs=>?_);obtain ⟨oc,hoc,hocd⟩:=id z;refine h { s with heap:=h' } ⟨I.ok,I.os,I.bare,⟨fun b o e n hb hx=>?_,fun b o e n hb hx=>?_,I.base.free,fun b o e hx=>?_,I.base.tups,I.base.frzs,I.base.tbls⟩,⟨m,hn.sameBut hs (Ne.symm (cne x c hc)),fun j y v' e1 e2 e3=>?_⟩,fun y c' e=>?_,I.free,I.freeC,fun p hp=>?_,tracked ⟨oc,hoc,I.freeC x c hc⟩ hs,by simpa using I.len⟩ ⟨c,hs,.inr hc⟩
    · exact (hs.2 b (Nat.ne_of_lt (Nat.lt_of_lt_of_le (Heap.lt_size e) (I.ok.cab x c hfn hc)))).trans (I.base.keep b o e n hb hx)
    · obtain ⟨sl,e1⟩:=I.base.slot b o e n hb hx;exact ⟨sl,(hs.2 b (Nat.ne_of_lt (Nat.lt_of_lt_of_le (Heap.lt_size e) (I.ok.cab x c hfn hc)))).trans e1⟩
    · obtain ⟨o',e1⟩:=I.base.there b o e hx;exact ⟨o',(hs.2 b (Nat.ne_of_lt (Nat.lt_of_lt_of_le (Heap.lt_size e) (I.ok.cab x c hfn hc)))).trans e1⟩
    · by_cases hj:j=i
      · subst hj;rw [hi] at e1;cases e1;rw [List.getElem?_set_self hiσ] at e2;cases e2;exact ⟨u,r,.inr ⟨.inl hk,c,hc,hc'⟩⟩
      · rw [List.getElem?_set_ne (Ne.symm hj)] at e2;obtain ⟨u',r',q⟩:=hl j y v' e1 e2 e3;refine ⟨u',r',?_⟩;rcases q with q | ⟨k,c',e,z'⟩
        · exact .inl q
        · refine .inr ⟨k,c',e,z'.sameBut hs ?_⟩;rintro rfl;exact hj (kH hN e1 (I.ok.inj _ _ _ e hc ▸ hi))
    · by_cases hcc:c'=c
      · subst hcc;exact ⟨_,hc'⟩
      · obtain ⟨w2,z2⟩:=I.cell y c' e;exact ⟨w2,z2.sameBut hs hcc⟩
    · obtain ⟨e,n,ne,nf,d⟩:=I.pin p hp;refine ⟨(hs.2 p.1 ?_).trans e,n,ne,nf,d⟩;intro q;rw [q,hoc] at e;have q':oc=p.2:=Option.some.inj e;exact d w' (by rw [<- q'];exact hocd)
theorem kS {M:Model} {A:Around} {E:Value->Shared->Prop} {i:Nat} {x:Str} {v:V} {u:Value} {Q:Unit->Shared->Prop} (I:aq X pins σ H s) (hN:X.N.Nodup) (hi:X.N[i]?=some x) (hx:sa X.env.scope x) (r:be v u)
    (h:∀ s',aq X pins (σ.set i (some v)) H s'->Q () s') (hf:X.fn x=true\/X.env.scope.names.lookup x=some .local:=by first | exact .inl rfl | exact .inr rfl | assumption):wpAny M A (storeName X.env x u) Q E s :=
  jp I hN hi hx r (fun s' I' _=>h s' I') hf
theorem aq.call' {s':Shared} {ch:List Addr} (I:aq X pins σ H s) (ho:s'.os=s.os) (u:Un (fY X.stack) ch H H' s.heap s'.heap) (hok:dt X.prog X.w H' s'.heap) (hg:AllBare s'.gens)
    (hch:∀ b∈ch,(b∈X.ex\/X.s₀.heap.objs.size<=b)/\b≠X.env.locals/\(∀ x c,X.env.cells.lookup x=some c->c≠b)/\∀ p∈X.pn++pins,p.1≠b):aq X pins σ H' s':=by
  obtain ⟨h',g',d',t',o'⟩:=s';have e:o'=s.os:=ho;subst e;exact I.call (g':=g') (t':=t') (d':=d') u hok hg hch
end
noncomputable abbrev XK:=Value->Option Addr->Hp->Prop
noncomputable abbrev St:=List (Option V)
noncomputable abbrev VK:=V->Hp->Prop
noncomputable abbrev TE:=St->Hp->VK->Prop
noncomputable abbrev TT:=St->Hp->(Bool->Hp->Prop)->Prop
noncomputable abbrev TA:=St->Hp->(List V->Hp->Prop)->Prop
structure j6 where
  nx:St->Hp->Prop
  rt:VK
  bk:St->Hp->Prop:=fun _ _=>False
  ct:St->Hp->Prop:=fun _ _=>False
noncomputable abbrev TS:=j6->St->Hp->Prop
noncomputable def EP (X:Cx) (pins:List (Addr×Obj)) (σ:St) (Q:VK) (u:Value) (s':Shared):Prop:=∃ v H',aq X pins σ H' s'/\be v u/\Q v H'
noncomputable def TP (X:Cx) (pins:List (Addr×Obj)) (σ:St) (Q:Bool->Hp->Prop) (b:Bool) (s':Shared):Prop:=∃ H',aq X pins σ H' s'/\Q b H'
noncomputable def AP (X:Cx) (pins:List (Addr×Obj)) (σ:St) (Q:List V->Hp->Prop) (us:List Value) (s':Shared):Prop:=∃ vs H',aq X pins σ H' s'/\aH vs us/\Q vs H'
noncomputable def SP (X:Cx) (pins:List (Addr×Obj)) (D:j6) (f:Flow) (s':Shared):Prop :=
  match f with
  | .next=>∃ σ' H',aq X pins σ' H' s'/\D.nx σ' H'
  | .brk=>∃ σ' H',aq X pins σ' H' s'/\D.bk σ' H'
  | .cont=>∃ σ' H',aq X pins σ' H' s'/\D.ct σ' H'
  | .ret u=>∃ v σ' H',aq X pins σ' H' s'/\be v u/\D.rt v H'
noncomputable def PE (X:Cx) (e:Expr) (t:TE):Prop :=
  ∀ (pins:List (Addr×Obj)) (s:Shared) (σ:St) (H:Hp) (Q:VK),aq X pins σ H s->t σ H Q->wpAny (model X.prog X.w) X.A (eval e X.env) (EP X pins σ Q) X.xe s
noncomputable def PT (X:Cx) (e:Expr) (t:TT):Prop :=
  ∀ (pins:List (Addr×Obj)) (s:Shared) (σ:St) (H:Hp) (Q:Bool->Hp->Prop),aq X pins σ H s->t σ H Q->wpAny (model X.prog X.w) X.A (isTrue e X.env (eval e X.env)) (TP X pins σ Q) X.xe s
noncomputable def PW (X:Cx) (e:Expr) (t:TT):Prop :=
  ∀ (whole:Sem Value) (pins:List (Addr×Obj)) (s:Shared) (σ:St) (H:Hp) (Q:Bool->Hp->Prop),aq X pins σ H s->t σ H Q->wpAny (model X.prog X.w) X.A (isTrue e X.env whole) (TP X pins σ Q) X.xe s
theorem PW.pt {X:Cx} {e:Expr} {t:TT} (h:PW X e t):PT X e t:=h _
noncomputable def PA (X:Cx) (es:List Expr) (t:TA):Prop :=
  ∀ (pos:Pos) (pins:List (Addr×Obj)) (s:Shared) (σ:St) (H:Hp) (Q:List V->Hp->Prop),aq X pins σ H s->t σ H Q->wpAny (model X.prog X.w) X.A (spliced (backTo pos (starEach es X.env))) (AP X pins σ Q) X.xe s
noncomputable def PS (X:Cx) (st:Stmt) (t:TS):Prop :=
  ∀ (pins:List (Addr×Obj)) (s:Shared) (σ:St) (H:Hp) (D:j6),aq X pins σ H s->t D σ H->wpAny (model X.prog X.w) X.A (exec st X.env) (SP X pins D) X.xe s
noncomputable def ju (X:Cx) (st:List Stmt) (t:TS):Prop :=
  ∀ (pins:List (Addr×Obj)) (s:Shared) (σ:St) (H:Hp) (D:j6),aq X pins σ H s->t D σ H->wpAny (model X.prog X.w) X.A (execs st X.env) (SP X pins D) X.xe s
theorem cq {α:Type} {t:Sem α} {Q Q':α->Shared->Prop} {M:Model} {A:Around} {E:Value->Shared->Prop} {s:Shared} (h:wpAny M A t Q E s) (hQ:∀ a s,Q a s->Q' a s):wpAny M A t Q' E s:=wpAny_mono h hQ fun _ _ x=>x
section
variable {X:Cx}
theorem xy {a b:Expr} {ta tb:TE} (ha:PE X a ta) (hb:PE X b tb) {pins:List (Addr×Obj)} {s:Shared} {σ:St} {H:Hp} {R:V->V->Hp->Prop} (I:aq X pins σ H s) (h:ta σ H fun x H1=>tb σ H1 fun y H2=>R x y H2)
    {α:Type} {Q:α->Shared->Prop} {f:Value->Value->Sem α}
    (hf:∀ v u s2 x y H2,aq X pins σ H2 s2->be x v->be y u->R x y H2->wpAny (model X.prog X.w) X.A (f v u) Q X.xe s2) :
    wpAny (model X.prog X.w) X.A (eval a X.env) (fun v s₁=>wpAny (model X.prog X.w) X.A (eval b X.env) (fun u s₂=>wpAny (model X.prog X.w) X.A (f v u) Q X.xe s₂) X.xe s₁) X.xe s:=by
  refine cq (ha pins s σ H _ I h) fun v s1 zq0=>?_
  obtain ⟨x,H1,I1,r1,q1⟩:=zq0;refine cq (hb pins s1 σ H1 _ I1 q1) fun u s2 zq0=>?_
  obtain ⟨y,H2,I2,r2,q2⟩:=zq0;exact hf v u s2 x y H2 I2 r1 r2 q2
noncomputable def vB (i:Nat):TE:=fun σ H Q=>∃ v,σ[i]?=some (some v)/\Q v H
noncomputable def tC (v:V):TE:=fun _ H Q=>Q v H
theorem iq {i:Nat} {x:Str} {pos:Pos} (hN:X.N[i]?=some x) (hv:tV X.env.scope x) (hd:(x==("__debug__" : Str))=false:=by decide) (hcd:(x==("__classdict__" : Str))=false:=by decide):PE X (.Name x pos) (vB i):=by
  intro pins s σ H Q I h;obtain ⟨v,e,h⟩:=h;obtain ⟨m,hn,hl⟩:=I.loc;obtain ⟨u,r,l⟩:=hl i x v hN e hv;have fin:EP X pins σ Q u s:=⟨v,H,I,r,h⟩
  rcases l with ⟨hk,hm⟩ | ⟨hk,c,hc,hcell⟩
  · exact wpAny_Name (wpAny_loadName_local I.ok.kind hk hn hm fin) hd
  · rcases hk with hk | hk
    · exact wpAny_Name (wpAny_loadName_cell I.ok.kind hk hc hcell fin) hd
    · exact wpAny_Name (wpAny_loadName_free I.ok.kind hk hc hcell fin hcd) hd
theorem sN {i j pos}:PE X (.Constant (.int i) j pos) (tC (.int i)):=fun _ _ _ H _ I h=>wpAny_Constant_int ⟨.int i,H,I.tok _,⟨_,rfl⟩,h⟩
theorem uU {b j pos}:PE X (.Constant (.bool b) j pos) (tC (.bl b)):=fun _ _ _ H _ I h=>Constant_bool ⟨.bl b,H,I,rfl,h⟩
theorem sP {j pos}:PE X (.Constant .none j pos) (tC .non):=fun _ _ _ H _ I h=>Constant_none ⟨.non,H,I,rfl,h⟩
noncomputable def Gl (X:Cx) (x:Str):Prop:=X.env.kindOf x=some .globalImplicit
theorem mo {E:Value->Shared->Prop} {pins:List (Addr×Obj)} {s:Shared} {σ:St} {H:Hp} {x:Str} {u:Value} {pos:Pos} {Q:Value->Shared->Prop} (I:aq X pins σ H s) (hg:Gl X x) (hm:X.mg x=some u) (h:Q u s)
    (hd:(x==("__debug__" : Str))=false:=by decide):wpAny (model X.prog X.w) X.A (eval (.Name x pos) X.env) Q E s :=
  Calls.Name_function_global I.ok.kind hg (Calls.loadGlobal_global (by rw [I.ok.glob];exact I.mod.glob.keeps I.bk) hm h) hd
theorem jN {E:Value->Shared->Prop} {pins:List (Addr×Obj)} {s:Shared} {σ:St} {H:Hp} {x:Str} {u:Value} {pos:Pos} {Q:Value->Shared->Prop} (I:aq X pins σ H s) (hg:Gl X x) (hm:X.mg x=none) (hv:bootBuiltins x=some u) (h:Q u s)
    (hn:x ≠ "__name__" := by decide) (hd:(x==("__debug__" : Str))=false:=by decide):wpAny (model X.prog X.w) X.A (eval (.Name x pos) X.env) Q E s:=by
  obtain ⟨mb,h1,h2⟩:=I.mod.blt;exact Calls.Name_function_global I.ok.kind hg (Calls.loadGlobal_builtin (by rw [I.ok.glob];exact I.mod.glob.keeps I.bk) hm (by rw [I.ok.blt];exact h1.keeps I.bk) ((h2 x hn).trans hv) h) hd
theorem qM {x:Str} {v:V} {u:Value} {pos:Pos} (hg:Gl X x) (hm:X.mg x=some u) (r:be v u) (hd:(x==("__debug__" : Str))=false:=by decide):PE X (.Name x pos) (tC v) :=
  fun _ _ _ H _ I h=>mo I hg hm ⟨v,H,I,r,h⟩ hd
variable {a b:Expr} {ta tb:TE} {pos:Pos}
noncomputable def PC (X:Cx) (op:CmpOp) (a b:Expr) (t:TE):Prop :=
  ∀ (pins:List (Addr×Obj)) (s:Shared) (σ:St) (H:Hp) (Q:VK),aq X pins σ H s->t σ H Q ->
    wpAny (model X.prog X.w) X.A (eval a X.env) (fun v s₁=>wpAny (model X.prog X.w) X.A (eval b X.env) (fun u s₂=>wpAny (model X.prog X.w) X.A (compareOp op v u) (EP X pins σ Q) X.xe s₂) X.xe s₁) X.xe s
theorem oS (b:Expr) {op:CmpOp} (h:op≠.In) (h2:op≠.NotIn):behindInMarks op b=false:=by
  have e1:(op==CmpOp.In)=false:=by cases op <;> first | rfl | exact absurd rfl h
  have e2:(op==CmpOp.NotIn)=false:=by cases op <;> first | rfl | exact absurd rfl h2
  cases b <;> simp [behindInMarks,e1,e2]
noncomputable def tB (t:TE):TT:=fun σ H Q=>t σ H fun x H1=>∃ c,x=.bl c/\Q c H1
theorem wM {op:CmpOp} {t:TE} (h:PC X op a b t) (h1:behindInMarks op b=false:=by first | exact oS _ (by decide) (by decide) | rfl):PT X (.Compare a [op] [b] pos) (tB t):=by
  intro pins s σ H Q I hw;refine wpAny_isTrue_Compare1 (cq (h pins s σ H _ I hw) fun v s1 h1=>cq h1 fun u s2 h2=>cq h2 fun c s3 zq0=>?_) h1;obtain ⟨x,H1,I1,r1,q1⟩:=zq0;obtain ⟨d,rfl,q⟩:=q1;cases r1;exact wpAny_truthy_bool ⟨H1,I1,q⟩
theorem sV {e:Expr} {t:TE} (h:PE X e t) (he:∀ whole,isTrue e X.env whole=(do let v <- whole;standAt e.pos;holding [v] (truthy v)):=by intro _;rfl):PT X e (tB t):=by
  intro pins s σ H Q I hw;refine isTrue_plain (cq (h pins s σ H _ I hw) fun v s1 zq0=>?_) (he _);obtain ⟨x,H1,I1,r1,q1⟩:=zq0;obtain ⟨d,rfl,q⟩:=q1;cases r1;exact wpAny_truthy_bool ⟨H1,I1,q⟩
variable {tA tB':TT} {rest:List Expr}
noncomputable def xt (t:TT) (ta tb:TE):TE:=fun σ H Q=>t σ H fun c H1=>if c=true then ta σ H1 Q else tb σ H1 Q
theorem o5 {c:Expr} (hc:PT X c tA) (ha:PE X a ta) (hb:PE X b tb):PE X (.IfExp c a b pos) (xt tA ta tb):=by
  intro pins s σ H Q I h;refine wpAny_IfExp (cq (hc pins s σ H _ I h) fun d s1 zq0=>?_);obtain ⟨H1,I1,q1⟩:=zq0;cases d with
  | true=>exact ha pins s1 σ H1 Q I1 q1
  | false=>exact hb pins s1 σ H1 Q I1 q1
end
noncomputable def iE (K:PySem.W.Frag) (H:Hp) (a:Addr) (xs:List V):Prop :=
  Rd H a (.lst xs) \/
    ∃ (o:Obj) (its:Array Value) (n:Nat),K.lookup a=some o/\o.cls=.type "list" /\ o.dict=none/\o.data=.seq its n/\its.size<=sizeLine/\aH xs its.toList
noncomputable def eh (K:PySem.W.Frag) (H:Hp) (a:Addr) (xs:List V):Prop :=
  Rd H a (.tup xs) \/
    ∃ (o:Obj) (its:Array Value) (n:Nat),K.lookup a=some o/\o.cls=.type "tuple" /\ o.data=.seq its n/\its.size<=sizeLine/\aH xs its.toList
noncomputable def wn:Value->Option V
  | .none=>some .non
  | .bool b=>some (.bl b)
  | .int i _=>some (.int i)
  | .str x _=>some (.str x)
  | .bytes b _=>some (.byt b)
  | .float b _=>some (.flt b)
  | .ref a=>some (.ref a)
  | .type n=>some (.ty n)
  | _=>none
theorem be.abs {x:V} {u:Value} (r:be x u):wn u=some x:=by
  cases x with
  | non=>cases r;rfl
  | bl _=>cases r;rfl
  | int _=>obtain ⟨t,rfl⟩:=r;rfl
  | str _=>obtain ⟨t,rfl⟩:=r;rfl
  | byt _=>obtain ⟨t,rfl⟩:=r;rfl
  | flt _=>obtain ⟨t,rfl⟩:=r;rfl
  | ref _=>cases r;rfl
  | ty _=>cases r;rfl
theorem be.inj {x y:V} {u:Value} (r:be x u) (q:be y u):x=y:=Option.some.inj (r.abs.symm.trans q.abs)
theorem aH.inj:∀ {xs ys:List V} {us:List Value},aH xs us->aH ys us->xs=ys
  | _,_,_,.nil,.nil=>rfl
  | _,_,_,.cons r t,.cons r' t'=>by rw [r.inj r',aH.inj t t']
section
variable {X:Cx} {pins:List (Addr×Obj)} {σ:St} {H:Hp} {s:Shared} {a:Addr} {xs ys:List V}
theorem iE.of {K:PySem.W.Frag} (h:H a=some (.lst xs)):iE K H a xs:=.inl (.inl h)
theorem eh.of {K:PySem.W.Frag} (h:H a=some (.tup xs)):eh K H a xs:=.inl (.inl h)
theorem aq.list (I:aq X pins σ H s) (h:iE X.K H a xs):∃ its:List Value,aH xs its/\PlainL s.heap a its.toArray/\xs.length<=sizeLine:=by
  rcases h with h | ⟨o,its,n,hk,hc,hd,hs,hz,r⟩
  · obtain ⟨z,its,n,r,e⟩:=h.ok I.hok;exact ⟨its,r,⟨_,n,e,rfl,rfl,rfl⟩,z⟩
  · refine ⟨its.toList,r,⟨o,n,I.kIn a o hk,hc,hd,by simpa using hs⟩,?_⟩;have e:=r.length;simp only [Array.length_toList] at e;omega
theorem aq.tuple (I:aq X pins σ H s) (h:eh X.K H a xs):∃ its:List Value,aH xs its/\IsTup s.heap a its.toArray/\xs.length<=sizeLine:=by
  rcases h with h | ⟨o,its,n,hk,hc,hs,hz,r⟩
  · obtain ⟨z,its,r,p⟩:=h.ok I.hok;exact ⟨its,r,p.is,z⟩
  · refine ⟨its.toList,r,⟨o,I.kIn a o hk,hc,n,by simpa using hs⟩,?_⟩;have e:=r.length;simp only [Array.length_toList] at e;omega
theorem aq.list_inj (I:aq X pins σ H s) (h:iE X.K H a xs) (h':iE X.K H a ys):xs=ys:=by
  obtain ⟨its,r,⟨o,n,e,_,_,d⟩,_⟩:=I.list h;obtain ⟨its',r',⟨o',n',e',_,_,d'⟩,_⟩:=I.list h';rw [e] at e';cases e';rw [d] at d';injection d' with d1 _
  have:its=its':=by simpa using congrArg Array.toList d1
  subst this;exact r.inj r'
theorem aq.tuple_inj (I:aq X pins σ H s) (h:eh X.K H a xs) (h':eh X.K H a ys):xs=ys:=by
  obtain ⟨its,r,⟨o,e,_,n,d⟩,_⟩:=I.tuple h;obtain ⟨its',r',⟨o',e',_,n',d'⟩,_⟩:=I.tuple h';rw [e] at e';cases e';rw [d] at d';injection d' with d1 _
  have:its=its':=by simpa using congrArg Array.toList d1
  subst this;exact r.inj r'
end
noncomputable abbrev Cx.wish (X:Cx) (E:Value->Shared->Prop):Cx:={ X with xe:=E }
noncomputable abbrev Cx.nox (X:Cx):Cx:=X.wish fun _ _=>False
theorem Cx.Ok.wish {X:Cx} (ok:X.Ok) (E:Value->Shared->Prop):(X.wish E).Ok :=
  ⟨ok.mod,ok.kind,ok.glob,ok.blt,ok.above,ok.inj,ok.has,ok.cab,ok.hd,ok.frames,ok.stk,ok.exf,ok.bs,ok.bsz,ok.noex,ok.exfs,ok.funs,ok.frf,ok.tab⟩
theorem Cx.Ok.unwish {X:Cx} {E:Value->Shared->Prop} (ok:(X.wish E).Ok):X.Ok :=
  ⟨ok.mod,ok.kind,ok.glob,ok.blt,ok.above,ok.inj,ok.has,ok.cab,ok.hd,ok.frames,ok.stk,ok.exf,ok.bs,ok.bsz,ok.noex,ok.exfs,ok.funs,ok.frf,ok.tab⟩
section
variable {X:Cx} {pins:List (Addr×Obj)} {σ:St} {H:Hp} {s:Shared} {E:Value->Shared->Prop}
theorem aq.wish (I:aq X pins σ H s) (E:Value->Shared->Prop):aq (X.wish E) pins σ H s:=⟨I.ok.wish E,I.os,I.bare,I.base,I.loc,I.cell,I.free,I.freeC,I.pin,I.hok,I.len⟩
theorem aq.unwish (I:aq (X.wish E) pins σ H s):aq X pins σ H s:=⟨I.ok.unwish,I.os,I.bare,I.base,I.loc,I.cell,I.free,I.freeC,I.pin,I.hok,I.len⟩
theorem SP.unwish {D:j6} {f:Flow} {s':Shared} (h:SP (X.wish E) pins D f s'):SP X pins D f s':=by
  cases f with
  | next=>obtain ⟨σ',H',I,q⟩:=h;exact ⟨σ',H',I.unwish,q⟩
  | brk=>obtain ⟨σ',H',I,q⟩:=h;exact ⟨σ',H',I.unwish,q⟩
  | cont=>obtain ⟨σ',H',I,q⟩:=h;exact ⟨σ',H',I.unwish,q⟩
  | ret u=>obtain ⟨v,σ',H',I,r,q⟩:=h;exact ⟨v,σ',H',I.unwish,r,q⟩
theorem PE.nox {e:Expr} {t:TE} (h:PE X.nox e t):PE X e t:=fun pins s σ H Q I hw =>
  wpAny_mono (h pins s σ H Q (I.wish _) hw) (fun _ _ ⟨v,H',I',r,q⟩=>⟨v,H',I'.unwish,r,q⟩) fun _ _ z=>False.elim z
theorem PT.nox {e:Expr} {t:TT} (h:PT X.nox e t):PT X e t:=fun pins s σ H Q I hw =>
  wpAny_mono (h pins s σ H Q (I.wish _) hw) (fun _ _ ⟨H',I',q⟩=>⟨H',I'.unwish,q⟩) fun _ _ z=>False.elim z
theorem ju.nox {st:List Stmt} {t:TS} (h:ju X.nox st t):ju X st t:=fun pins s σ H D I hw =>
  wpAny_mono (h pins s σ H D (I.wish _) hw) (fun _ _ q=>q.unwish) fun _ _ z=>False.elim z
end
section
variable {X:Cx} {st:Stmt} {rest:List Stmt} {t u:TS} {e:Expr} {te:TE} {pos:Pos}
noncomputable def vt:TS:=fun D σ H=>D.nx σ H
noncomputable def wY (t u:TS):TS:=fun D σ H=>t { D with nx:=u D } σ H
theorem qS:ju X [] vt:=fun _ _ σ H _ I h=>wpAny_execs_nil ⟨σ,H,I,h⟩
theorem pd (h1:PS X st t) (h2:ju X rest u):ju X (st::rest) (wY t u):=by
  intro pins s σ H D I h;refine wpAny_execs_cons (cq (h1 pins s σ H { D with nx:=u D } I h) fun f s1 q=>?_);cases f with
  | next =>
    obtain ⟨σ',H',I',q⟩:=q;exact h2 pins s1 σ' H' D I' q
  | ret v=>exact q
  | brk=>exact q
  | cont=>exact q
theorem qT (h1:PS X st t):ju X [st] t:=by
  intro pins s σ H D I h;refine wpAny_execs_cons (cq (h1 pins s σ H D I h) fun f s1 q=>?_);cases f with
  | next=>exact wpAny_execs_nil q
  | ret v=>exact q
  | brk=>exact q
  | cont=>exact q
theorem aq.quiet {pins:List (Addr×Obj)} {σ:St} {H:Hp} {s:Shared} (I:aq X pins σ H s):interactive X.env=false:=by simp [interactive,I.ok.kind]
noncomputable def vq (te:TE):TS:=fun D σ H=>te σ H fun _ H1=>D.nx σ H1
theorem qR (he:PE X e te) (hs:swapsWith e none pos.line X.env=pure false:=by rfl):PS X (.Expr e pos) (vq te):=by
  intro pins s σ H D I h;exact wpAny_Expr_any (cq (he pins s σ H _ I h) fun v s1 ⟨x,H1,I1,r1,q1⟩=>⟨σ,H1,I1,q1⟩) I.quiet hs
noncomputable def wX (te:TE):TS:=fun D σ H=>te σ H D.rt
theorem sU (he:PE X e te):PS X (.Return (some e) pos) (wX te):=by
  intro pins s σ H D I h;exact wpAny_Return_some (cq (he pins s σ H _ I h) fun v s1 ⟨x,H1,I1,r1,q1⟩=>⟨x,σ,H1,I1,r1,q1⟩)
noncomputable def wT (c:TT) (t u:TS):TS:=fun D σ H=>c σ H fun b H1=>if b=true then t D σ H1 else u D σ H1
theorem u0 {c:Expr} {a b:List Stmt} {tc:TT} (hc:PT X c tc) (ha:ju X a t) (hb:ju X b u):PS X (.If c a b pos) (wT tc t u):=by
  intro pins s σ H D I h;refine wpAny_If (cq (hc pins s σ H _ I h) fun d s1 zq0=>?_);obtain ⟨H1,I1,q1⟩:=zq0;cases d with
  | true=>exact ha pins s1 σ H1 D I1 q1
  | false=>exact hb pins s1 σ H1 D I1 q1
end
noncomputable abbrev TG:=V->St->Hp->(St->Hp->Prop)->Prop
noncomputable abbrev se:=List V->St->Hp->(St->Hp->Prop)->Prop
noncomputable def PG (X:Cx) (target:Expr) (t:TG):Prop :=
  ∀ (pins:List (Addr×Obj)) (s:Shared) (σ:St) (H:Hp) (v:V) (u:Value) (Q:St->Hp->Prop),aq X pins σ H s->be v u->t v σ H Q ->
    wpAny (model X.prog X.w) X.A (assign target X.env u) (fun _ s'=>∃ σ' H',aq X pins σ' H' s'/\Q σ' H') X.xe s
noncomputable def vR (X:Cx) (ts:List Expr) (t:se):Prop :=
  ∀ (pins:List (Addr×Obj)) (s:Shared) (σ:St) (H:Hp) (vs:List V) (us:List Value) (Q:St->Hp->Prop),aq X pins σ H s->aH vs us->t vs σ H Q ->
    wpAny (model X.prog X.w) X.A (assignInOrder ((assignEach ts X.env).map (·.2)) us) (fun _ s'=>∃ σ' H',aq X pins σ' H' s'/\Q σ' H') X.xe s
section
variable {X:Cx} {pos:Pos}
noncomputable def rF (i:Nat):TG:=fun v σ H Q=>Q (σ.set i (some v)) H
theorem jQ {i:Nat} {x:Str} (hN:X.N.Nodup) (hi:X.N[i]?=some x) (hx:sa X.env.scope x) (hf:X.fn x=true\/X.env.scope.names.lookup x=some .local:=by first | exact .inl rfl | exact .inr rfl | assumption):PG X (.Name x pos) (rF i):=by
  intro pins s σ H v u Q I r h;exact wpAny_assign_Name (kS I hN hi hx r (fun s' I'=>⟨_,H,I',h⟩) hf)
noncomputable def wE:se:=fun vs σ H Q=>vs=[]/\Q σ H
noncomputable def uy (t:TG) (u:se):se:=fun vs σ H Q=>∃ v r,vs=v::r/\t v σ H fun σ' H'=>u r σ' H' Q
theorem qN:vR X [] wE:=by
  intro pins s σ H vs us Q I r h;obtain ⟨e,h⟩:=h;subst e;cases r;exact assignInOrder_nil ⟨σ,H,I,h⟩
theorem kJ {e:Expr} {es:List Expr} {t:TG} {u:se} (h1:PG X e t) (h2:vR X es u)
    (hs:(assignEach (e::es) X.env).map (·.2)=assign e X.env::(assignEach es X.env).map (·.2):=by rfl):vR X (e::es) (uy t u):=by
  intro pins s σ H vs us Q I r h;obtain ⟨v,vr,e1,h⟩:=h;subst e1;cases r with
  | cons r rr =>
    rw [hs];refine assignInOrder_cons (cq (h1 pins s σ H _ _ _ I r h) fun _ s1 zq0=>?_);obtain ⟨σ1,H1,I1,q1⟩:=zq0;exact h2 pins s1 σ1 H1 _ _ Q I1 rr q1
noncomputable def wF (K:PySem.W.Frag) (n:Nat) (t:se):TG:=fun v σ H Q=>∃ a xs,v=.ref a/\eh K H a xs/\xs.length=n/\t xs σ H Q
theorem sR {es:List Expr} {k:Nat} {t:se} {n:Nat} (hc:X.calm=true) (h:vR X es t)
    (hn:(assignEach es X.env).length=n:=by rfl) (hst:(assignEach es X.env).findIdx? (·.1)=none:=by rfl):PG X (.Tuple es k pos) (wF X.K n t):=by
  intro pins s σ H v u Q I r hw;obtain ⟨a,xs,e1,hq,hl,hw⟩:=hw;subst e1;cases r;obtain ⟨its,rv,ht,hz⟩:=I.tuple hq;refine assign_Tuple_tuple (I.ok.hd hc) ht (by simp [hn,<- hl,rv.length]) hst fun h' hx=>?_
  have I1:aq X pins σ H { s with heap:=h' }:=I.kept (t':=s.toks) fun b o e=>hx b o (Nat.ne_of_lt (Heap.lt_size e)) e
  exact h pins _ σ H xs _ Q I1 (by simpa using rv) hw
noncomputable def vn (te:TE) (g:TG):TS:=fun D σ H=>te σ H fun x H1=>g x σ H1 D.nx
theorem sS {tg e:Expr} {te:TE} {g:TG} (he:PE X e te) (hg:PG X tg g) (hs:swapsWithSole [tg] e pos.line X.env=pure false:=by rfl) (hw:swappedStores [tg] e X.env=pure none:=by rfl)
    (h1:(assignEach [tg] X.env).map (·.2)=[assign tg X.env]:=by rfl):PS X (.Assign [tg] e pos) (vn te g):=by
  intro pins s σ H D I h;refine wpAny_Assign_stores (cq (he pins s σ H _ I h) fun v s1 zq0=>?_) hs hw;obtain ⟨x,H1,I1,r1,q1⟩:=zq0;rw [h1];exact cq (hg pins s1 σ H1 x v _ I1 r1 q1) fun _ s2 q=>q
theorem o9 {i:Nat} {x:Str} {e:Expr} {te:TE} {pos':Pos} (hN:X.N.Nodup) (hi:X.N[i]?=some x) (hx:sa X.env.scope x) (he:PE X e te) (hs:swapsWith e (some (.Name x pos')) pos.line X.env=pure false:=by rfl) (hf:X.fn x=true\/X.env.scope.names.lookup x=some .local:=by first | exact .inl rfl | exact .inr rfl | assumption) :
    PS X (.Assign [.Name x pos'] e pos) (vn te (rF i)):=by
  intro pins s σ H D I h;refine wpAny_Assign_Name (cq (he pins s σ H _ I h) fun v s1 zq0=>?_) hs;obtain ⟨y,H1,I1,r1,q1⟩:=zq0;exact kS I1 hN hi hx r1 (fun s2 I2=>⟨_,H1,I2,q1⟩) hf
end
section
variable {X:Cx} {pos:Pos}
noncomputable def tI (c:TT) (tb:TS):TS:=fun D σ H=>∃ W:Nat->St->Hp->Prop,(∃ m,W m σ H)/\∀ m σ H,W m σ H ->
  c σ H fun b H1=>if b=true then ∃ N:St->Hp->Prop,(∀ σ' H',N σ' H'->∃ m',m' < m/\W m' σ' H')/\tb { D with nx:=N,ct:=N,bk:=D.nx } σ H1 else D.nx σ H1
theorem pc {c:Expr} {body:List Stmt} {tc:TT} {tb:TS} (hp:PassesOwn (model X.prog X.w) X.A X.env X.xe) (hc:PT X c tc) (hb:ju X body tb):PS X (.While c body [] pos) (tI tc tb):=by
  intro pins s σ H D I h;obtain ⟨W,⟨m0,w0⟩,turn⟩:=h;refine wpAny_While (codeAny_whileLoop (fun n s'=>∃ σ' H',aq X pins σ' H' s'/\W n σ' H') ?_ m0 ⟨σ,H,I,w0⟩);rintro n s1 ⟨σ1,H1,I1,w1⟩;refine wpAny_passesOwn hp (cq (hc pins s1 σ1 H1 _ I1 (turn n σ1 H1 w1)) fun b s2 zq0=>?_);obtain ⟨H2,I2,q2⟩:=zq0;cases b with
  | true =>
    obtain ⟨N,hN,q2⟩:=q2;rw [if_pos rfl];refine wpAny_passesOwn hp (cq (hb pins s2 σ1 H2 _ I2 q2) fun f s3 q3=>?_);cases f with
    | next =>
      obtain ⟨σ3,H3,I3,n3⟩:=q3;obtain ⟨m',hm,w3⟩:=hN σ3 H3 n3;exact ⟨m',hm,σ3,H3,I3,w3⟩
    | cont =>
      obtain ⟨σ3,H3,I3,n3⟩:=q3;obtain ⟨m',hm,w3⟩:=hN σ3 H3 n3;exact ⟨m',hm,σ3,H3,I3,w3⟩
    | brk=>exact q3
    | ret v=>exact q3
  | false =>
    rw [if_neg Bool.false_ne_true];exact wpAny_execs_nil ⟨σ1,H2,I2,q2⟩
end
structure It where
  go:Nat->Hp->Prop
  yld:Nat->Hp->V->Hp->Prop
  stop:Nat->Hp->Prop
noncomputable def iJ (X:Cx) (pins:List (Addr×Obj)) (H:Hp) (b:Addr):Prop :=
  H b=none/\b≠X.env.locals/\b∉X.fs/\(b∈X.ex\/X.s₀.heap.objs.size<=b)/\(∀ x c,X.env.cells.lookup x=some c->c≠b)/\∀ p∈X.pn++pins,p.1≠b
theorem aq.fpOk {X:Cx} {pins:List (Addr×Obj)} {σ:St} {H H':Hp} {s:Shared} {b:Addr} (I:aq X pins σ H s) (hb:s.heap.objs.size<=b) (hn:H' b=none):iJ X pins H' b:=by
  refine ⟨hn,Nat.ne_of_gt (Nat.lt_of_lt_of_le I.lt hb),I.nofs hb,.inr (Nat.le_trans I.sz hb),fun x c e z=>?_,fun p hp z=>?_⟩
  · obtain ⟨v,q⟩:=I.cell x c e;exact absurd (Nat.lt_of_lt_of_le q.lt (by rw [z];exact hb)) (Nat.lt_irrefl _)
  · exact absurd (Nat.lt_of_lt_of_le (Heap.lt_size (I.pin p hp).1) (by rw [z];exact hb)) (Nat.lt_irrefl _)
structure nR (P:Program) (w:World) (K:PySem.W.Frag) (tg:Expr) (J:It) (fp:List Addr) (it:Addr) (tn:Nat->Heap->Prop):Prop where
  mem:it∈fp
  obj:∀ i h,tn i h->∀ b∈fp,∃ o,h.get? b=some o/\∀ v,o.data≠.cell v
  keep:∀ i h h',tn i h->(∀ b∈fp,∀ o,h.get? b=some o->h'.get? b=some o)->tn i h'
  item:∀ (X:Cx),X.prog=P->X.w=w->X.K=K->X.calm=true->∀ (i:Nat) (pins:List (Addr×Obj)) (s:Shared) (σ:St) (H:Hp) (E:Value->Shared->Prop),aq X pins σ H s->(∀ b∈fp,iJ X pins H b)->tn i s.heap->J.go i H ->
    wpAny (model P w) X.A (pyNext (.ref it)) (fun r s1=>∃ u,r=some u /\
      wpAny (model P w) X.A (letOwnedTupleGo tg (.ref it) u) (fun _ s2=>∃ x H',aq X pins σ H' s2/\be x u/\J.yld i H x H'/\tn (i+1) s2.heap/\∀ b∈fp,H' b=none) E s1) E s
  done:∀ (X:Cx),X.prog=P->X.w=w->X.K=K->X.calm=true->∀ (i:Nat) (pins:List (Addr×Obj)) (s:Shared) (σ:St) (H:Hp) (E:Value->Shared->Prop),aq X pins σ H s->(∀ b∈fp,iJ X pins H b)->tn i s.heap->J.stop i H ->
    wpAny (model P w) X.A (pyNext (.ref it)) (fun r s1=>r=none/\aq X pins σ H s1) E s
  self:∀ (A:Around) (i:Nat) (s:Shared) (Q:Value->Shared->Prop) (E:Value->Shared->Prop),tn i s.heap->Q (.ref it) s->wpAny (model P w) A (pyIter (.ref it)) Q E s
noncomputable abbrev TI:=St->Hp->(It->Hp->Prop)->Prop
noncomputable def w9 (X:Cx) (pins:List (Addr×Obj)) (σ:St) (tg:Expr) (R:It->Hp->Prop) (itv:Value) (s2:Shared):Prop :=
  ∃ (it:Addr) (fp:List Addr) (tn:Nat->Heap->Prop) (J:It) (H':Hp),itv=.ref it/\aq X pins σ H' s2/\nR X.prog X.w X.K tg J fp it tn/\tn 0 s2.heap/\(∀ b∈fp,iJ X pins H' b)/\R J H'
noncomputable def PI (X:Cx) (tg iter:Expr) (wi:TI):Prop :=
  ∀ (pins:List (Addr×Obj)) (s:Shared) (σ:St) (H:Hp) (R:It->Hp->Prop),aq X pins σ H s->wi σ H R ->
    wpAny (model X.prog X.w) X.A (eval iter X.env) (fun v s1=>wpAny (model X.prog X.w) X.A (pyIter v) (w9 X pins σ tg R) X.xe s1) X.xe s
theorem oA {M:Model} {A:Around} {E:Value->Shared->Prop} {s:Shared} {tg:Expr} {it:Addr} {u:Value} {o:Obj} {n:String} {vs:Array Value} {Q:Unit->Shared->Prop} (ho:s.heap.get? it=some o) (hc:o.cls=.type n) (hd:o.data=.fields vs)
    (hn:["enumerate","zip","dict_itemiterator","dict_reverseitemiterator","odict_iterator","itertools.zip_longest","itertools.pairwise"].contains n=false) (hQ:Q () s):wpAny M A (letOwnedTupleGo tg (.ref it) u) Q E s:=by
  unfold letOwnedTupleGo;cases tg <;> first
    | exact wpAny_pure hQ
    | (cases u <;> first
        | exact wpAny_pure hQ
        | (refine wpAny_bind (wpAny_load ho ?_)
           rw [hc,hd];show wpAny M A (if (["enumerate","zip","dict_itemiterator","dict_reverseitemiterator","odict_iterator","itertools.zip_longest","itertools.pairwise"].contains n&&vs[0]?==some (rawInt _))=true then _ else _) Q E s;rw [if_neg (by intro h;rw [hn,Bool.false_and] at h;cases h)];exact wpAny_pure hQ))
noncomputable def wj (K:PySem.W.Frag) (a:Addr):It :=
  ⟨fun i H=>∃ xs x,iE K H a xs/\xs[i]?=some x,fun i H x H'=>H'=H/\∀ xs,iE K H a xs->xs[i]?=some x,fun i H=>∃ xs,iE K H a xs/\xs.length<=i⟩
noncomputable def wk (K:PySem.W.Frag) (a:Addr):It :=
  ⟨fun i H=>∃ xs x,eh K H a xs/\xs[i]?=some x,fun i H x H'=>H'=H/\∀ xs,eh K H a xs->xs[i]?=some x,fun i H=>∃ xs,eh K H a xs/\xs.length<=i⟩
noncomputable def vP (lo:Int) (n:Nat):It:=⟨fun i _=>i < n,fun i H x H'=>H'=H/\x=.int (lo+i),fun i _=>n<=i⟩
theorem nJ {P:Program} {w:World} {K:PySem.W.Frag} {tg:Expr} (a it:Addr):nR P w K tg (wj K a) [it] it (fun i h=>h.IsListIter it a i) where
  mem:=by simp
  obj:=fun i h st b hb=>by
    have e:b=it:=by simpa using hb
    subst e;obtain ⟨o,e,c,d⟩:=st;exact ⟨o,e,fun v z=>by rw [d] at z;cases z⟩
  keep:=fun i h h' st k=>st.at fun o e=>k it (by simp) o e
  item:=by
    intro X hP hw hK hc i pins s σ H E I hf st hg;subst hP hw hK;obtain ⟨xs,x,hq,hx⟩:=hg;obtain ⟨its,rv,p,hz⟩:=I.list hq;obtain ⟨u,hu,ru⟩:=rv.get hx;obtain ⟨f0,f1,f2,f3,f4,f5⟩:=hf it (by simp);refine wpAny_pyNext_list_item st p.isList (x:=u) (by simpa using hu) fun h' st' sb=>?_
    have I1:aq X pins σ H { s with heap:=h' }:=I.turned (t':=s.toks) (fun b o hb e=>(sb.2 b hb).trans e) f0 f1 f3 f4 f5;obtain ⟨o,e,c,d⟩:=id st';exact ⟨u,rfl,oA (s:={ s with heap:=h' }) e c d (by decide) ⟨x,H,I1,ru,⟨rfl,fun ys hy=>by rw [I.list_inj hy hq];exact hx⟩,st',fun b hb=>(hf b hb).1⟩⟩
  done:=by
    intro X hP hw hK hc i pins s σ H E I hf st hg;subst hP hw hK;obtain ⟨xs,hq,hx⟩:=hg;obtain ⟨its,rv,p,hz⟩:=I.list hq;obtain ⟨f0,f1,f2,f3,f4,f5⟩:=hf it (by simp);have hl:=rv.length;exact wpAny_pyNext_list_end (I.ok.hd hc) st p.isList (by simp;omega) fun h' eb=>⟨rfl,I.turned (t':=s.toks) (fun b o hb e=>eb b o hb e) f0 f1 f3 f4 f5⟩
  self:=fun _ _ _ _ _ st h=>wpAny_pyIter_listiter st h
theorem lQ {P:Program} {w:World} {K:PySem.W.Frag} {tg:Expr} (a it:Addr):nR P w K tg (wk K a) [it] it (fun i h=>h.IsTupleIter it a i) where
  mem:=by simp
  obj:=fun i h st b hb=>by
    have e:b=it:=by simpa using hb
    subst e;obtain ⟨o,e,c,d⟩:=st;exact ⟨o,e,fun v z=>by rw [d] at z;cases z⟩
  keep:=fun i h h' st k=>st.at fun o e=>k it (by simp) o e
  item:=by
    intro X hP hw hK hc i pins s σ H E I hf st hg;subst hP hw hK;obtain ⟨xs,x,hq,hx⟩:=hg;obtain ⟨its,rv,p,hz⟩:=I.tuple hq;obtain ⟨u,hu,ru⟩:=rv.get hx;obtain ⟨f0,f1,f2,f3,f4,f5⟩:=hf it (by simp);refine wpAny_pyNext_tuple_item st (show s.heap.IsTuple a its.toArray from p) (x:=u) (by simpa using hu) fun h' st' sb=>?_
    have I1:aq X pins σ H { s with heap:=h' }:=I.turned (t':=s.toks) (fun b o hb e=>(sb.2 b hb).trans e) f0 f1 f3 f4 f5;obtain ⟨o,e,c,d⟩:=id st';exact ⟨u,rfl,oA (s:={ s with heap:=h' }) e c d (by decide) ⟨x,H,I1,ru,⟨rfl,fun ys hy=>by rw [I.tuple_inj hy hq];exact hx⟩,st',fun b hb=>(hf b hb).1⟩⟩
  done:=by
    intro X hP hw hK hc i pins s σ H E I hf st hg;subst hP hw hK;obtain ⟨xs,hq,hx⟩:=hg;obtain ⟨its,rv,p,hz⟩:=I.tuple hq;obtain ⟨f0,f1,f2,f3,f4,f5⟩:=hf it (by simp);have hl:=rv.length;exact wpAny_pyNext_tuple_end (I.ok.hd hc) st (show s.heap.IsTuple a its.toArray from p) (by simp;omega) fun h' eb=>⟨rfl,I.turned (t':=s.toks) (fun b o hb e=>eb b o hb e) f0 f1 f3 f4 f5⟩
  self:=fun _ _ _ _ _ st h=>wpAny_pyIter_tupleiter st h
theorem lP {P:Program} {w:World} {K:PySem.W.Frag} {tg:Expr} (it:Addr) (lo:Int) (n:Nat):nR P w K tg (vP lo n) [it] it (fun i h=>IsRangeIter h it (lo+(i:Nat)*1) ((n:Int)-(i:Nat)) 1) where
  mem:=by simp
  obj:=fun i h st b hb=>by
    have e:b=it:=by simpa using hb
    subst e;exact ⟨_,st,fun v z=>by
      have z':Data.fields _=Data.cell v:=z;cases z'⟩
  keep:=fun i h h' st k=>k it (by simp) _ st
  item:=by
    intro X hP hw hK hc i pins s σ H E I hf st hg;subst hP hw hK;obtain ⟨f0,f1,f2,f3,f4,f5⟩:=hf it (by simp);have W:=Walks.range (prog:=X.prog) (w:=X.w) (I.ok.hd hc) it lo 1 n;refine W.item i s _ _ hg st fun v h' tk hv st' kk=>?_
    obtain ⟨t,rfl⟩:=hv;have I1:aq X pins σ H { s with heap:=h',toks:=tk }:=I.turned (fun b o hb e=>kk b o (by simpa using hb) e) f0 f1 f3 f4 f5;refine ⟨_,rfl,oA (s:={ s with heap:=h',toks:=tk }) (n := "range_iterator") st' rfl rfl (by decide) ⟨.int (lo+i),H,I1,⟨t,?_⟩,⟨rfl,rfl⟩,st',fun b hb=>(hf b hb).1⟩⟩;rw [Int.mul_one]
  done:=by
    intro X hP hw hK hc i pins s σ H E I hf st hg;subst hP hw hK;obtain ⟨f0,f1,f2,f3,f4,f5⟩:=hf it (by simp);exact wpAny_pyNext_range_end (I.ok.hd hc) st (by have:n<=i:=hg;omega) fun h' eb=>⟨rfl,I.turned (t':=s.toks) (fun b o hb e=>eb b o hb e) f0 f1 f3 f4 f5⟩
  self:=fun _ _ _ _ _ st h=>wpAny_pyIter_rangeiter st h
section
variable {X:Cx} {tg:Expr}
theorem pf {pins:List (Addr×Obj)} {σ:St} {H:Hp} {s:Shared} {R:It->Hp->Prop} {E:Value->Shared->Prop} {lo hi:Int} {t u v:Tok} {tk:Nat} (I:aq X pins σ H s) (h1:-(2 ^ 62)<=lo) (h2:lo < 2 ^ 62) (h3:-(2 ^ 62)<=hi) (h4:hi < 2 ^ 62)
    (q:R (vP lo (hi-lo).toNat) H):wpAny (model X.prog X.w) X.A (pyIter (.ref s.heap.objs.size)) (w9 X pins σ tg R) E { s with heap:=s.heap.push { cls:=.type "range",data:=.fields #[.int lo t,.int hi u,.int 1 v] },toks:=tk }:=by
  refine wpAny_pyIter_range (IsRange.new ..) (small_one h1 h2 h3 h4) ?_;have I1:aq X pins σ H { s with heap:=s.heap.push { cls:=.type "range",data:=.fields #[.int lo t,.int hi u,.int 1 v] },toks:=tk }:=I.kept fun b o e=>Heap.get?_push_of_some _ e
  refine ⟨(s.heap.push { cls:=.type "range",data:=.fields #[.int lo t,.int hi u,.int 1 v] }).objs.size,[(s.heap.push { cls:=.type "range",data:=.fields #[.int lo t,.int hi u,.int 1 v] }).objs.size],_,_,H,rfl,
    I1.kept (t':=tk) fun b o e=>Heap.get?_push_of_some _ e,lP _ lo (hi-lo).toNat,?_,fun b hb=>?_,q⟩
  · have e1:lo+((0:Nat):Int)*1=lo:=by simp
    have e2:(((hi-lo).toNat:Nat):Int)-((0:Nat):Int)=Builtin.Range.rangeSize lo hi 1:=by rw [rangeSize_one];split <;> omega
    show IsRangeIter _ _ (lo+((0:Nat):Int)*1) ((((hi-lo).toNat:Nat):Int)-((0:Nat):Int)) 1;rw [e1,e2];exact Heap.get?_push_size _ rfl
  · have e:b=(s.heap.push { cls:=.type "range",data:=.fields #[.int lo t,.int hi u,.int 1 v] }).objs.size:=by simpa using hb
    subst e;exact I1.fpOk (Nat.le_refl _) (I1.hok.fresh (Nat.le_refl _))
noncomputable def uF (ta:TA):TI:=fun σ H R=>ta σ H fun vs H1=>∃ j:Int,vs=[.int j]/\-(2 ^ 62)<=j/\j < 2 ^ 62/\R (vP 0 j.toNat) H1
theorem nv {a:Expr} {ta:TA} {p pos:Pos} (hg:Gl X "range") (hm:X.mg "range" = none) (ha:PA X [a] ta) (hs:starEach [a] X.env=[(false,eval a X.env)]:=by rfl):PI X tg (.Call (.Name "range" p) [a] [] pos) (uF ta):=by
  intro pins s σ H R I h;refine Call_ (jN I hg hm boot_range (PyProof.Rows.callWith_type1 (cq (ha pos pins s σ H _ I h) fun us s1 zq0=>?_) hs rfl));obtain ⟨vs,H1,I1,r1,q1⟩:=zq0;obtain ⟨j,e,q1,q2,q⟩:=q1;subst e;cases r1 with
  | cons r rr =>
    cases rr;obtain ⟨t,rfl⟩:=r;exact call_range_1 (pf I1 (by omega) (by omega) q1 q2 (by simpa using q))
noncomputable def wS (wi:TI) (g:TG) (tb:TS):TS:=fun D σ H=>wi σ H fun J H1=>∃ W:Nat->Nat->St->Hp->Prop,(∃ m,W 0 m σ H1)/\∀ i m σ H,W i m σ H ->
  (J.stop i H/\D.nx σ H)\/(J.go i H/\∃ N:St->Hp->Prop,(∀ σ' H',N σ' H'->∃ m',m' < m/\W (i+1) m' σ' H')/\∀ x H',J.yld i H x H'->g x σ H' fun σ2 H2=>tb { D with nx:=N,ct:=N,bk:=D.nx } σ2 H2)
noncomputable def ir (fp:List Addr) (h:Heap):List (Addr×Obj):=fp.filterMap fun b=>(h.get? b).map fun o=>(b,o)
theorem dO {fp:List Addr} {h:Heap} {b:Addr} {o:Obj} (hb:b∈fp) (e:h.get? b=some o):(b,o)∈ir fp h:=List.mem_filterMap.mpr ⟨b,hb,by rw [e];rfl⟩
theorem nr {fp:List Addr} {h:Heap} {p:Addr×Obj} (hp:p∈ir fp h):p.1∈fp/\h.get? p.1=some p.2:=by
  obtain ⟨b,hb,e⟩:=List.mem_filterMap.mp hp;cases q:h.get? b with
  | none=>rw [q] at e;cases e
  | some o =>
    rw [q] at e;have e':(b,o)=p:=Option.some.inj e;subst e';exact ⟨hb,q⟩
theorem aq.pinned {pins:List (Addr×Obj)} {σ:St} {H:Hp} {s:Shared} {fp:List Addr} (I:aq X pins σ H s) (hf:∀ b∈fp,iJ X pins H b) (ho:∀ b∈fp,∃ o,s.heap.get? b=some o/\∀ v,o.data≠.cell v):aq X (pins++ir fp s.heap) σ H s :=
  I.pins_of fun p hp=>(List.mem_append.mp hp).elim (fun z=>I.pin p (List.mem_append_right _ z)) fun z=>by
    obtain ⟨hb,e⟩:=nr z;obtain ⟨f0,f1,f2,_⟩:=hf p.1 hb;obtain ⟨o,e',d⟩:=ho p.1 hb;rw [e] at e';cases e';exact ⟨e,f0,f1,f2,d⟩
theorem aq.unpinned {pins pl:List (Addr×Obj)} {σ:St} {H:Hp} {s:Shared} (I:aq X (pins++pl) σ H s):aq X pins σ H s:=I.pins_of fun p hp=>I.pin p (List.mem_append_right _ (List.mem_append_left _ hp))
theorem sT {iter:Expr} {body:List Stmt} {wi:TI} {g:TG} {tb:TS} {pos:Pos} (hp:PassesOwn (model X.prog X.w) X.A X.env X.xe) (hc:X.calm=true) (hi:PI X tg iter wi) (hg:PG X tg g) (hb:ju X body tb)
    (hs:∀ x,foldedSetIterable iter X.env x=pure x:=by intro _;rfl):PS X (.For tg iter body [] pos) (wS wi g tb):=by
  intro pins s σ H D I h;refine wpAny_For (cq (hi pins s σ H _ I h) fun v s1 h1=>cq h1 fun itv s2 h2=>?_) hs;obtain ⟨it,fp,tn,J,H2,e,I2,T,st2,f2,W,⟨m0,w0⟩,turn⟩:=h2;subst e
  -- what stays true of the iterator's objects through the loop
  have stat:∀ {H':Hp},(∀ b∈fp,H' b=none)->∀ b∈fp,iJ X pins H' b:=fun hn b hb=>⟨hn b hb,(f2 b hb).2⟩
  refine codeAny_forLoop_any (fun n s'=>∃ i σ' H',aq X pins σ' H' s'/\tn i s'.heap/\(∀ b∈fp,H' b=none)/\W i n σ' H') ?_ m0 ⟨0,σ,H2,I2,st2,fun b hb=>(f2 b hb).1,w0⟩;rintro n s3 ⟨i,σ3,H3,I3,st3,fr3,w3⟩;rcases turn i n σ3 H3 w3 with ⟨stop,qn⟩ | ⟨go,N,hN,step⟩
  · refine wpAny_passesOwn hp (cq (T.done X rfl rfl rfl hc i pins s3 σ3 H3 X.xe I3 (stat fr3) st3 stop) fun r s4 zq0=>?_);obtain ⟨hr,I4⟩:=zq0;subst hr;exact wpAny_execs_nil ⟨σ3,H3,I4,qn⟩
  · refine wpAny_passesOwn hp (cq (T.item X rfl rfl rfl hc i pins s3 σ3 H3 X.xe I3 (stat fr3) st3 go) fun r s4 zq0=>?_);obtain ⟨u,hr,h4⟩:=zq0;subst hr;refine wpAny_passesOwn hp (cq h4 fun _ s5 zq0=>?_);obtain ⟨x,H5,I5,r5,y5,st5,fr5⟩:=zq0;have I5':=I5.pinned (stat fr5) (T.obj _ _ st5);refine wpAny_passesOwn hp (cq (hg _ s5 σ3 H5 x u _ I5' r5 (step x H5 y5)) fun _ s6 zq0=>?_);obtain ⟨σ6,H6,I6,q6⟩:=zq0;refine wpAny_passesOwn hp (cq (hb _ s6 σ6 H6 _ I6 q6) fun f s7 q7=>?_);have again:∀ {σ7:St} {H7:Hp},aq X (pins++ir fp s5.heap) σ7 H7 s7->N σ7 H7->∃ m,m < n/\∃ i σ' H',aq X pins σ' H' s7/\tn i s7.heap/\(∀ b∈fp,H' b=none)/\W i m σ' H':=fun {σ7 H7} I7 n7=>by
      obtain ⟨m',hm,w7⟩:=hN σ7 H7 n7;refine ⟨m',hm,i+1,σ7,H7,I7.unpinned,T.keep _ _ _ st5 fun b hb o e=>(I7.pin (b,o) (List.mem_append_right _ (List.mem_append_right _ (dO hb e)))).1,fun b hb=>?_,w7⟩;obtain ⟨o,e,d⟩:=T.obj _ _ st5 b hb;exact (I7.pin (b,o) (List.mem_append_right _ (List.mem_append_right _ (dO hb e)))).2.1
    cases f with
    | next=>obtain ⟨σ7,H7,I7,n7⟩:=q7;exact again I7 n7
    | cont=>obtain ⟨σ7,H7,I7,n7⟩:=q7;exact again I7 n7
    | brk=>obtain ⟨σ7,H7,I7,q7⟩:=q7;exact ⟨σ7,H7,I7.unpinned,q7⟩
    | ret v=>obtain ⟨x7,σ7,H7,I7,r7,q7⟩:=q7;exact ⟨x7,σ7,H7,I7.unpinned,r7,q7⟩
end
noncomputable abbrev R2:=V->V->Hp->VK->Prop
noncomputable def fX (X:Cx) (f:Value->Value->Sem Value) (r:R2):Prop :=
  ∀ (pins:List (Addr×Obj)) (s:Shared) (σ:St) (H:Hp) (x y:V) (v u:Value) (Q:VK),aq X pins σ H s->be x v->be y u->r x y H Q ->
    wpAny (model X.prog X.w) X.A (f v u) (EP X pins σ Q) X.xe s
noncomputable def wm (X:Cx) (f:Value->Sem Value) (r:V->Hp->VK->Prop):Prop :=
  ∀ (pins:List (Addr×Obj)) (s:Shared) (σ:St) (H:Hp) (x:V) (v:Value) (Q:VK),aq X pins σ H s->be x v->r x H Q ->
    wpAny (model X.prog X.w) X.A (f v) (EP X pins σ Q) X.xe s
noncomputable def cb (X:Cx) (f:Value) (r:List V->Hp->VK->Prop):Prop :=
  ∀ (pins:List (Addr×Obj)) (s:Shared) (σ:St) (H:Hp) (xs:List V) (us:List Value) (Q:VK),aq X pins σ H s->aH xs us->r xs H Q ->
    wpAny (model X.prog X.w) X.A (call f us) (EP X pins σ Q) X.xe s
noncomputable def vy (r:R2) (ta tb:TE):TE:=fun σ H Q=>ta σ H fun x H1=>tb σ H1 fun y H2=>r x y H2 Q
noncomputable def xi (r:V->Hp->VK->Prop) (ta:TE):TE:=fun σ H Q=>ta σ H fun x H1=>r x H1 Q
noncomputable def rI (C:Int->Int->Prop) (g:Int->Int->V):R2:=fun x y H Q=>∃ i j,x=.int i/\y=.int j/\C i j/\Q (g i j) H
noncomputable def qX (g:Int->Int->V):R2:=fun x y H Q=>∃ i j,x=.int i/\y=.int j/\Q (g i j) H
noncomputable def rU (g:Int->V):V->Hp->VK->Prop:=fun x H Q=>∃ i,x=.int i/\Q (g i) H
section
variable {X:Cx} {a b c:Expr} {ta tb tc:TE} {pos:Pos}
theorem sh (ha:PE X a ta) (hb:PE X b tb) {pins:List (Addr×Obj)} {s:Shared} {σ:St} {H:Hp} {R:V->V->Hp->Prop} (I:aq X pins σ H s)
    (h:ta σ H fun x H1=>tb σ H1 fun y H2=>R x y H2) {Q:Value->Shared->Prop} {f:Value->Value->Sem Value}
    (hf:∀ v u s2 x y H2,aq X pins σ H2 s2->be x v->be y u->R x y H2->wpAny (model X.prog X.w) X.A (f v u) Q X.xe s2) :
    wpAny (model X.prog X.w) X.A (eval a X.env) (fun v s₁=>wpAny (model X.prog X.w) X.A (eval b X.env) (fun u s₂=>wpAny (model X.prog X.w) X.A (f v u) Q X.xe s₂) X.xe s₁) X.xe s:=by
  refine cq (ha pins s σ H _ I h) fun v s1 zq0=>?_
  obtain ⟨x,H1,I1,r1,q1⟩:=zq0;refine cq (hb pins s1 σ H1 _ I1 q1) fun u s2 zq0=>?_
  obtain ⟨y,H2,I2,r2,q2⟩:=zq0;exact hf v u s2 x y H2 I2 r1 r2 q2
theorem uX {op:Operator} {r:R2} (ho:fX X (binaryOp op) r) (ha:PE X a ta) (hb:PE X b tb):PE X (.BinOp a op b pos) (vy r ta tb):=by
  intro pins s σ H Q I h;exact wpAny_BinOp (sh ha hb I h fun v u s2 x y H2 I2 rx ry q=>ho pins s2 σ H2 x y v u Q I2 rx ry q)
theorem uY {op:UnaryOp} {r:V->Hp->VK->Prop} (ho:wm X (unaryOp op) r) (ha:PE X a ta):PE X (.UnaryOp op a pos) (xi r ta):=by
  intro pins s σ H Q I h;exact UnaryOp_ (cq (ha pins s σ H _ I h) fun v s1 ⟨x,H1,I1,r1,q1⟩=>ho pins s1 σ H1 x v Q I1 r1 q1)
theorem wL {f:Value->Value->Sem Value} {C:Int->Int->Prop} {g:Int->Int->Int}
    (rule:∀ (i j:Int) (t u:Tok) (s:Shared) (Q:Value->Shared->Prop) (E:Value->Shared->Prop),C i j->Q (.int (g i j) s.toks) { s with toks:=s.toks+1 }->wpAny (model X.prog X.w) X.A (f (.int i t) (.int j u)) Q E s) :
    fX X f (rI C fun i j=>.int (g i j)):=by
  intro pins s σ H x y v u Q I rx ry h;obtain ⟨i,j,rfl,rfl,hc,q⟩:=h;obtain ⟨t,rfl⟩:=rx;obtain ⟨t',rfl⟩:=ry;exact rule i j t t' s _ _ hc ⟨.int (g i j),H,I.tok _,⟨_,rfl⟩,q⟩
theorem uQ {f:Value->Value->Sem Value} {g:Int->Int->Int}
    (rule:∀ (i j:Int) (t u:Tok) (s:Shared) (Q:Value->Shared->Prop) (E:Value->Shared->Prop),Q (.int (g i j) s.toks) { s with toks:=s.toks+1 }->wpAny (model X.prog X.w) X.A (f (.int i t) (.int j u)) Q E s) :
    fX X f (qX fun i j=>.int (g i j)):=by
  intro pins s σ H x y v u Q I rx ry h;obtain ⟨i,j,rfl,rfl,q⟩:=h;obtain ⟨t,rfl⟩:=rx;obtain ⟨t',rfl⟩:=ry;exact rule i j t t' s _ _ ⟨.int (g i j),H,I.tok _,⟨_,rfl⟩,q⟩
theorem uP {f:Value->Value->Sem Value} {g:Int->Int->Bool}
    (rule:∀ (i j:Int) (t u:Tok) (s:Shared) (Q:Value->Shared->Prop) (E:Value->Shared->Prop),Q (.bool (g i j)) s->wpAny (model X.prog X.w) X.A (f (.int i t) (.int j u)) Q E s) :
    fX X f (qX fun i j=>.bl (g i j)):=by
  intro pins s σ H x y v u Q I rx ry h;obtain ⟨i,j,rfl,rfl,q⟩:=h;obtain ⟨t,rfl⟩:=rx;obtain ⟨t',rfl⟩:=ry;exact rule i j t t' s _ _ ⟨.bl (g i j),H,I,rfl,q⟩
noncomputable def t6 (i j:Int):Prop:=0 < j/\j < 1073741824
noncomputable def pN (i j:Int):Prop:=(-(2 ^ 64) < i/\i < 2 ^ 64)\/(-(2 ^ 64) < j/\j < 2 ^ 64)
theorem pN.ok {i j:Int} (h:pN i j):IntMulOk i j:=by
  rcases h with ⟨h1,h2⟩ | ⟨h1,h2⟩
  · exact .of_left (intBits_le_64 h1 h2)
  · exact .of_right (intBits_le_64 h1 h2)
theorem sI:fX X (binaryOp .Add) (qX fun i j=>.int (i+j)):=uQ fun _ _ _ _ _ _ _ q=>add_int q
theorem sL:fX X (binaryOp .Sub) (qX fun i j=>.int (i-j)):=uQ fun _ _ _ _ _ _ _ q=>sub_int q
theorem sK:fX X (binaryOp .Mult) (rI pN fun i j=>.int (i*j)):=wL fun _ _ _ _ _ _ _ hc q=>mul_int q hc.ok
theorem qF:fX X (binaryOp .FloorDiv) (rI t6 fun i j=>.int (i / j)):=wL fun i j _ _ _ _ _ hc q=>by
  have h1:(0:Int) < j:=hc.1;have h2:j < 1073741824:=hc.2;exact floordiv_int (by omega) (by rw [Int.fdiv_eq_ediv_of_nonneg i (by omega)];exact q) (.inl (PyProof.noPylong_small (by omega)))
theorem sJ:fX X (binaryOp .Mod) (rI (fun _ j=>0 < j) fun i j=>.int (i%j)):=wL fun i j _ _ _ _ _ hc q=>by
  have h1:(0:Int) < j:=hc;exact mod_int' (by omega) (by rw [Int.fmod_eq_emod_of_nonneg i (by omega)];exact q)
theorem xw {f:Value->Sem Value} {g:Int->Int}
    (rule:∀ (i:Int) (t:Tok) (s:Shared) (Q:Value->Shared->Prop) (E:Value->Shared->Prop),Q (.int (g i) s.toks) { s with toks:=s.toks+1 }->wpAny (model X.prog X.w) X.A (f (.int i t)) Q E s) :
    wm X f (rU fun i=>.int (g i)):=by
  intro pins s σ H x v Q I rx h;obtain ⟨i,rfl,q⟩:=h;obtain ⟨t,rfl⟩:=rx;exact rule i t s _ _ ⟨.int (g i),H,I.tok _,⟨_,rfl⟩,q⟩
theorem tQ:wm X (unaryOp .USub) (rU fun i=>.int (-i)):=xw fun _ _ _ _ _ q=>neg_int q
end
section
variable {X:Cx} {a b c:Expr} {ta tb tc:TE} {pos:Pos}
theorem sw {pins:List (Addr×Obj)} {σ:St} {H:Hp} {s:Shared} {Q:VK} {k k':Bool} (I:aq X pins σ H s) (q:Q (.bl k) H) (e:k=k'):EP X pins σ Q (.bool k') s:=by
  subst e;exact ⟨.bl k,H,I,rfl,q⟩
theorem uR:fX X (compareOp .Lt) (qX fun i j=>.bl (decide (i < j))):=uP fun _ _ _ _ _ _ _ q=>lt_int q
theorem rN:fX X (compareOp .Gt) (qX fun i j=>.bl (decide (j < i))):=uP fun _ _ _ _ _ _ _ q=>gt_int q
theorem qG:fX X (compareOp .IsNot) (fun x y H Q=>y=.non/\Q (.bl (!decide (x=.non))) H):=by
  intro pins s σ H x y v u Q I rx ry h;obtain ⟨rfl,q⟩:=h;cases ry;refine isnot_none_gen (sw I q ?_);cases x <;> first
    | (cases rx;rfl)
    | (obtain ⟨t,rfl⟩:=rx;rfl)
theorem fX.or {f:Value->Value->Sem Value} {r r':R2} (h:fX X f r) (h':fX X f r'):fX X f (fun x y H Q=>r x y H Q\/r' x y H Q):=by
  intro pins s σ H x y v u Q I rx ry q;rcases q with q | q
  · exact h pins s σ H x y v u Q I rx ry q
  · exact h' pins s σ H x y v u Q I rx ry q
theorem eM (b:Expr) {op:CmpOp} (h:op≠.In:=by decide) (h2:op≠.NotIn:=by decide):behindInMarks op b=false:=by
  have e1:(op==CmpOp.In)=false:=by cases op <;> first | rfl | exact absurd rfl h
  have e2:(op==CmpOp.NotIn)=false:=by cases op <;> first | rfl | exact absurd rfl h2
  cases b <;> simp [behindInMarks,e1,e2]
theorem qL {op:CmpOp} {r:R2} (ho:fX X (compareOp op) r) (ha:PE X a ta) (hb:PE X b tb) (hm:behindInMarks op b=false):PE X (.Compare a [op] [b] pos) (vy r ta tb):=by
  intro pins s σ H Q I h;exact wpAny_Compare1 (sh ha hb I h fun v u s2 x y H2 I2 rx ry q=>ho pins s2 σ H2 x y v u Q I2 rx ry q) hm
noncomputable def vA (t:TE):TT:=fun σ H Q=>t σ H fun x H'=>∃ k,x=.bl k/\Q k H'
theorem qU {op:CmpOp} {r:R2} (ho:fX X (compareOp op) r) (ha:PE X a ta) (hb:PE X b tb) (hm:behindInMarks op b=false):PT X (.Compare a [op] [b] pos) (vA (vy r ta tb)):=by
  intro pins s σ H Q I h;refine wpAny_isTrue_Compare1 (cq (ha pins s σ H _ I h) fun v s1 ⟨x,H1,I1,r1,q1⟩=>cq (hb pins s1 σ H1 _ I1 q1) fun u s2 ⟨y,H2,I2,r2,q2⟩ =>
    cq (ho pins s2 σ H2 x y v u _ I2 r1 r2 q2) fun c s3 ⟨z,H3,I3,r3,k,e,q3⟩=>?_) hm
  subst e;cases r3;exact wpAny_truthy_bool ⟨H3,I3,q3⟩
theorem gm:(sizeLine:Nat) < 2 ^ 63:=by rw [sizeLine_eq];decide
theorem dX {x:V} {us:List Value} (r:aH [x] us):∃ u,us=[u]/\be x u:=by
  cases r with
  | cons r1 r2=>cases r2;exact ⟨_,rfl,r1⟩
theorem rX {x y:V} {us:List Value} (r:aH [x,y] us):∃ u w',us=[u,w']/\be x u/\be y w':=by
  cases r with
  | cons r1 r2 =>
    cases r2 with
    | cons r3 r4=>cases r4;exact ⟨_,_,rfl,r1,r3⟩
theorem mP (hc:X.calm=true):cb X (.builtin "max") (fun xs H Q=>∃ i j,xs=[.int i,.int j]/\Q (.int (if j > i then j else i)) H):=by
  intro pins s σ H xs us Q I r h;obtain ⟨i,j,rfl,q⟩:=h;obtain ⟨u,w',rfl,⟨t,rfl⟩,⟨t',rfl⟩⟩:=rX r;refine max_two_ints (I.ok.hd hc) fun h' tk k=>⟨_,H,I.kept k,?_,q⟩
  by_cases hj:j > i
  · rw [if_pos hj,if_pos hj];exact ⟨_,rfl⟩
  · rw [if_neg hj,if_neg hj];exact ⟨_,rfl⟩
theorem mR (hc:X.calm=true):cb X (.builtin "min") (fun xs H Q=>∃ i j,xs=[.int i,.int j]/\Q (.int (if j < i then j else i)) H):=by
  intro pins s σ H xs us Q I r h;obtain ⟨i,j,rfl,q⟩:=h;obtain ⟨u,w',rfl,⟨t,rfl⟩,⟨t',rfl⟩⟩:=rX r;refine min_two_ints (I.ok.hd hc) fun h' tk k=>⟨_,H,I.kept k,?_,q⟩
  by_cases hj:j < i
  · rw [if_pos hj,if_pos hj];exact ⟨_,rfl⟩
  · rw [if_neg hj,if_neg hj];exact ⟨_,rfl⟩
theorem mM:cb X (.type "int") (fun xs H Q=>(∃ i,xs=[.int i]/\Q (.int i) H)\/∃ k,xs=[.bl k]/\Q (.int (if k then 1 else 0)) H):=by
  intro pins s σ H xs us Q I r h;rcases h with ⟨i,rfl,q⟩ | ⟨k,rfl,q⟩
  · obtain ⟨u,rfl,t,rfl⟩:=dX r;exact call_int_int ⟨.int i,H,I,⟨_,rfl⟩,q⟩
  · obtain ⟨u,rfl,r1⟩:=dX r;cases r1;exact call_int_bool ⟨.int (if k then 1 else 0),H,I.tok _,⟨_,rfl⟩,q⟩
end
theorem iK.some_of {v:V} {o:Option Value} (r:iK (some v) o):∃ u,o=some u/\be v u:=by
  cases o with
  | none=>exact (show False from r).elim
  | some u=>exact ⟨u,rfl,r⟩
structure cG (k:Nat) (A:Around):Prop where
  hd:A.handled=none
  dp:A.depth+3*k+5 < recursionLimit
  un:A.units+16*k+200 < cLine
theorem cG.mono {j k:Nat} {A:Around} (r:cG k A) (h:j<=k):cG j A:=⟨r.hd,by have:=r.dp;omega,by have:=r.un;omega⟩
theorem cG.deeper {k:Nat} {A:Around} (r:cG (k+1) A) (env:Env):cG k (A.deeper env) :=
  ⟨r.hd,by have:=r.dp;show A.depth+1+3*k+5 < _;omega,by have:=r.un;show A.units+3+16*k+200 < _;omega⟩
theorem cG.depth {k:Nat} {A:Around} (r:cG k A):A.depth < recursionLimit:=by have:=r.dp;omega
theorem cG.units {k:Nat} {A:Around} (r:cG k A):A.units+64 < cLine:=by have:=r.un;omega
noncomputable def wV:TA:=fun _ H Q=>Q [] H
noncomputable def vp (ta:TE) (tr:TA):TA:=fun σ H Q=>ta σ H fun x H1=>tr σ H1 fun xs H2=>Q (x::xs) H2
section
variable {X:Cx} {e:Expr} {es:List Expr} {te:TE} {t:TA} {pos:Pos}
theorem sM:PA X [] wV:=fun _ _ _ _ H Q I h=>Calls.spliced_nil ⟨[],H,I,.nil,h⟩
theorem qI (ha:PE X e te) (hr:PA X es t) (hs:starEach (e::es) X.env=(false,eval e X.env)::starEach es X.env:=by rfl):PA X (e::es) (vp te t):=by
  intro pos pins s σ H Q I h;rw [hs];show wpAny _ _ (spliced ((false,eval e X.env)::backTo pos (starEach es X.env))) _ _ s;refine Calls.spliced_cons (cq (ha pins s σ H _ I h) fun u s1 zq0=>?_);obtain ⟨x,H1,I1,r1,q1⟩:=zq0;exact cq (hr pos pins s1 σ H1 _ I1 q1) fun us s2 ⟨xs,H2,I2,r2,q2⟩=>⟨x::xs,H2,I2,.cons r1 r2,q2⟩
noncomputable def wZ (t:TA):TE:=fun σ H Q=>t σ H fun xs H1=>xs.length<=sizeLine/\∀ p,H1 p=none->Q (.ref p) (ca H1 p (.tup xs))
noncomputable def wU (t:TA):TE:=fun σ H Q=>t σ H fun xs H1=>xs.length<=sizeLine/\∀ p,H1 p=none->Q (.ref p) (ca H1 p (.lst xs))
theorem sQ {x1} (h:PA X es t):PE X (.Tuple es x1 pos) (wZ t):=by
  intro pins s σ H Q I hq;refine wpAny_Tuple_spliced (cq (h pos pins s σ H _ I hq) fun us s1 ⟨xs,H1,I1,r,z,q⟩=>⟨by rw [<- r.length];exact z,?_⟩);have hf:H1 s1.heap.objs.size=none:=I1.hok.fresh (Nat.le_refl _);refine ⟨.ref s1.heap.objs.size,ca H1 s1.heap.objs.size (.tup xs),I1.laid (t':=s1.toks) (fun b u e=>Heap.get?_push_of_some _ e) (Nat.le_refl _) ?_,rfl,q _ hf⟩;exact ⟨z,us,r,⟨_,Heap.get?_push_size _ rfl,rfl,⟨_,rfl⟩,rfl⟩⟩
theorem sO (h:PA X es t):PE X (.List es pos) (wU t):=by
  intro pins s σ H Q I hq;refine wpAny_List_spliced (cq (h pos pins s σ H _ I hq) fun us s1 ⟨xs,H1,I1,r,z,q⟩=>⟨by rw [<- r.length];exact z,?_⟩);have hf:H1 s1.heap.objs.size=none:=I1.hok.fresh (Nat.le_refl _);refine ⟨.ref s1.heap.objs.size,ca H1 s1.heap.objs.size (.lst xs),I1.laid (t':=s1.toks) (fun b u e=>Heap.get?_push_of_some _ e) (Nat.le_refl _) ?_,rfl,q _ hf⟩;exact ⟨z,us,0,r,Heap.get?_push_size _ rfl⟩
end
noncomputable abbrev Sp:=List V->Hp->VK->XK->Prop
noncomputable abbrev nM:=List Env->Hp->Shared->XK->Value->Shared->Prop
structure pO (P:Program) (w:World) (K:PySem.W.Frag) (mg:Str->Option Value) (base:Heap) (A:Around) (outer:List Env) (s:Shared) (H:Hp):Prop where
  frames:A.frames=some outer
  mod:Mod K mg base
  bs:∀ b o,base.get? b=some o->s.heap.get? b=some o/\H b=none
  bsz:base.objs.size<=s.heap.objs.size
  funs:s.heap.FunFrames base outer
  frf:∀ b∈fY outer,H b=none
  hok:dt P w H s.heap
  bare:AllBare s.gens
  tab:nQ K H
noncomputable def CE (outer:List Env) (P:Program) (w:World) (H:Hp) (s:Shared) (Q:VK) (u:Value) (s':Shared):Prop :=
  ∃ v H',s'.os=s.os/\AllBare s'.gens/\Un (fY outer) [] H H' s.heap s'.heap/\dt P w H' s'.heap/\be v u/\Q v H'
noncomputable def CR (CX:nM) (outer:List Env) (P:Program) (w:World) (H:Hp) (s:Shared) (Q:VK) (E:XK) (r:Result) (s':Shared):Prop :=
  match r with
  | .ok (.ret u)=>CE outer P w H s Q u s'
  | .ok _=>False
  | .error e=>CX outer H s E e s'
structure bA (P:Program) (w:World) (K:PySem.W.Frag) (mg:Str->Option Value) (base:Heap) (CX:nM) (k:Nat) (f:Addr) (fd:FuncData) (ps:List Str) (sp:Sp):Prop where
  len:∀ vs H Q E,sp vs H Q E->vs.length=ps.length
  run:∀ (A:Around) (outer:List Env) (s:Shared) (H:Hp) (args:Args) (us:List Value) (vs:List V) (Q:VK) (E:XK),cG k A->pO P w K mg base A outer s H->BindsTo s fd args (ps.zip us)->aH vs us->sp vs H Q E ->
    codeAny (model P w) A (.call (.ref f) args) (CR CX outer P w H s Q E) s
theorem bA.mono {P:Program} {w:World} {K:PySem.W.Frag} {mg:Str->Option Value} {base:Heap} {CX:nM} {j k:Nat} {f:Addr} {fd:FuncData} {ps:List Str} {sp:Sp} (F:bA P w K mg base CX j f fd ps sp) (h:j<=k) :
    bA P w K mg base CX k f fd ps sp:=⟨F.len,fun A outer s H args us vs Q E hr=>F.run A outer s H args us vs Q E (hr.mono h)⟩
section
variable {X:Cx} {pins:List (Addr×Obj)} {σ:St} {H:Hp} {s s':Shared}
theorem aq.env0 (I:aq X pins σ H s):pO X.prog X.w X.K X.mg X.base X.A X.stack s H :=
  ⟨I.ok.frames,I.ok.mod,I.bs,Nat.le_trans I.ok.bsz I.sz,I.stack,I.stkFree,I.hok,I.bare,fun x hx c P e=>I.base.tbls _ _ (I.ok.tab x hx c P e)⟩
theorem aq.after {Q:VK} {u:Value} (I:aq X pins σ H s) (h:CE X.stack X.prog X.w H s Q u s'):EP X pins σ Q u s':=by
  obtain ⟨v,H',os,bare,un,hok,r,q⟩:=h;obtain ⟨hh,g,d,t,os'⟩:=s';obtain rfl:os'=s.os:=os;exact ⟨v,H',I.call (h':=hh) (g':=g) (d':=d) (t':=t) (ch:=[]) un hok bare (fun b z=>absurd z (by simp)),r,q⟩
end
noncomputable def vo (sp:Sp) (dvs:List V) (E:XK) (t:TA):TE:=fun σ H Q=>t σ H fun vs H1=>sp (vs++dvs) H1 Q E
noncomputable def bY (K:PySem.W.Frag) (fd:FuncData) (ps:List Str) (ds:List Value):Prop :=
  ∀ (s:Shared) (us:List Value),K.In s.heap->(us++ds).length=ps.length->BindsTo s fd ⟨us,[]⟩ (ps.zip (us++ds))
theorem bY.all {K:PySem.W.Frag} {fd:FuncData} {ps:List Str} (h:∀ us:List Value,us.length=ps.length->bindArgs fd ⟨us,[]⟩=pure (ps.zip us)):bY K fd ps []:=fun s us _ hl=>by
  rw [List.append_nil] at hl ⊢;exact .of_eq (h us hl)
noncomputable def lh (CX:nM) (X:Cx) (E:XK):Prop:=∀ (pins:List (Addr×Obj)) (σ:St) (H:Hp) (s:Shared) (e:Value) (s':Shared),aq X pins σ H s->CX X.stack H s E e s'->X.xe e s'
section
variable {X:Cx} {CX:nM} {k:Nat} {f C:Addr} {fd:FuncData} {ps:List Str} {sp:Sp} {dvs:List V} {ds:List Value} {E:XK} {x m:Str} {p pos apos:Pos} {e o:Expr} {es:List Expr} {ta:TE} {t:TA}
theorem s8 {pins:List (Addr×Obj)} {σ:St} {H:Hp} {s:Shared} {Q:VK} {us:List Value} {vs:List V} (F:bA X.prog X.w X.K X.mg X.base CX k f fd ps sp) (hr:cG k X.A) (hb:bY X.K fd ps ds) (hd:aH dvs ds) (hx:lh CX X E)
    (I:aq X pins σ H s) (r:aH vs us) (h:sp (vs++dvs) H Q E):wpAny (model X.prog X.w) X.A (call (.ref f) us) (EP X pins σ Q) X.xe s:=by
  have r2:aH (vs++dvs) (us++ds):=r.append hd;have hl:(us++ds).length=ps.length:=by rw [<- r2.length];exact F.len _ _ _ _ h
  refine wpAny_call (codeAny_mono (F.run X.A X.stack s H ⟨us,[]⟩ (us++ds) (vs++dvs) Q E hr I.env0 (hb s us I.kIn hl) r2 h) fun r s' hq=>?_);cases r with
  | error e=>exact hx pins σ H s e s' I hq
  | ok fl =>
    cases fl with
    | ret u=>exact I.after hq
    | next=>exact False.elim hq
    | brk=>exact False.elim hq
    | cont=>exact False.elim hq
theorem qK (F:bA X.prog X.w X.K X.mg X.base CX k f fd ps sp) (hr:cG k X.A) (hg:Gl X x) (hm:X.mg x=some (.ref f)) (hk:PySem.W.keepIn X.K (.ref f)=true) (hb:bY X.K fd ps ds) (hd:aH dvs ds) (hx:lh CX X E)
    (ha:PA X (e::es) t) (hdb:(x==("__debug__" : Str))=false:=by decide) (he:starEach (e::es) X.env=(false,eval e X.env)::starEach es X.env:=by rfl) (hpl:(backTo pos (starEach es X.env)).any (·.1)=false:=by rfl) :
    PE X (.Call (.Name x p) (e::es) [] pos) (vo sp dvs E t):=by
  intro pins s σ H Q I h;refine wpAny_Call_Name_kw (mo I hg hm ?_ hdb);refine PySem.W.callWith_K (h₀:=X.base) I.ok.mod.kin hk (cq (ha pos pins s σ H _ I h) fun us s1 ⟨vs,H1,I1,r,q⟩=>⟨I1.kIn,?_⟩) he hpl;exact s8 F hr hb hd hx I1 r q
end
structure aY (N P:List Str) (sc:Scope):Prop where
  kind:sc.kind=.function
  co:sc.isCoroutine=false
  gen:sc.isGenerator=false
  nd:N.Nodup
  pre:N.take P.length=P
  par:∀ x∈P,sc.names.lookup x=some .local\/sc.names.lookup x=some .cell
  nofree:∀ y∈sc.names,y.2≠.free
theorem i9 {kindOf:Str->Option NameKind} {x:Str}:∀ {binds:List (Str×Value)} {m:Str->Option Value},(∀ v,(x,v)∉binds)->bindL kindOf binds m x=m x
  | [],_,_=>rfl
  | (n,v)::r,m,h=>by
    unfold bindL;rw [i9 fun w hw=>h w (List.mem_cons_of_mem _ hw)];split
    · have:x≠n:=by rintro rfl;exact h v List.mem_cons_self
      simp [this]
    · rfl
theorem i7 {kindOf:Str->Option NameKind} {x:Str}:∀ {binds:List (Str×Value)} {m:Str->Option Value},(∀ v,(x,v)∉binds)->bindC kindOf binds m x=m x
  | [],_,_=>rfl
  | (n,v)::r,m,h=>by
    unfold bindC;rw [i7 fun w hw=>h w (List.mem_cons_of_mem _ hw)];split
    · rfl
    · have:x≠n:=by rintro rfl;exact h v List.mem_cons_self
      simp [this]
theorem i8 {kindOf:Str->Option NameKind} {x:Str} {v:Value}:∀ {P:List Str} {vs:List Value} {i:Nat} {m:Str->Option Value},P.Nodup->P[i]?=some x->vs[i]?=some v->kindOf x=some .local ->
    bindL kindOf (P.zip vs) m x=some v
  | [],_,_,_,_,h,_,_=>by simp at h
  | _::_,[],_,_,_,_,h,_=>by simp at h
  | p::P,w::vs,0,m,nd,h1,h2,hk=>by
    simp at h1 h2;subst h1;subst h2;show bindL kindOf ((p,w)::P.zip vs) m p=_;unfold bindL;rw [i9 fun v hv=>(List.nodup_cons.mp nd).1 (List.of_mem_zip hv).1,if_pos hk];simp
  | p::P,w::vs,i+1,m,nd,h1,h2,hk=>by
    show bindL kindOf ((p,w)::P.zip vs) m x=_;unfold bindL;exact i8 (i:=i) (List.nodup_cons.mp nd).2 (by simpa using h1) (by simpa using h2) hk
theorem i6 {kindOf:Str->Option NameKind} {x:Str} {v:Value}:∀ {P:List Str} {vs:List Value} {i:Nat} {m:Str->Option Value},P.Nodup->P[i]?=some x->vs[i]?=some v->kindOf x≠some .local ->
    bindC kindOf (P.zip vs) m x=some v
  | [],_,_,_,_,h,_,_=>by simp at h
  | _::_,[],_,_,_,_,h,_=>by simp at h
  | p::P,w::vs,0,m,nd,h1,h2,hk=>by
    simp at h1 h2;subst h1;subst h2;show bindC kindOf ((p,w)::P.zip vs) m p=_;unfold bindC;rw [i7 fun v hv=>(List.nodup_cons.mp nd).1 (List.of_mem_zip hv).1,if_neg hk];simp
  | p::P,w::vs,i+1,m,nd,h1,h2,hk=>by
    show bindC kindOf ((p,w)::P.zip vs) m x=_;unfold bindC;exact i6 (i:=i) (List.nodup_cons.mp nd).2 (by simpa using h1) (by simpa using h2) hk
noncomputable def dW (N:List Str) (vs:List V):St:=vs.map some++List.replicate (N.length-vs.length) none
noncomputable def cp (CX:nM) (P:Program) (w:World) (K:PySem.W.Frag) (mg:Str->Option Value) (base:Heap) (N:List Str) (qual:Str) (scope:Scope) (f:Addr) (cd:Value) (A:Around) (outer:List Env) (s:Shared) (H:Hp) (E:XK):Cx where
  prog:=P
  w:=w
  K:=K
  mg:=mg
  base:=base
  A:=A.deeper (envOfC qual scope s.heap.objs.size f cd)
  N:=N
  s₀:=s
  H₀:=H
  env:=envOfC qual scope s.heap.objs.size f cd
  outer:=outer
  stack:=envOfC qual scope s.heap.objs.size f cd::outer
  ex:=[]
  calm:=true
  fn:=fun _=>true
  pn:=[]
  xe:=fun e s'=>wpAny (model P w) (A.deeper (envOfC qual scope s.heap.objs.size f cd)) (leaving (envOfC qual scope s.heap.objs.size f cd) e) (fun _ s''=>CX outer H s E e s'') (fun e' s''=>CX outer H s E e' s'') s'
theorem kt {sc:Scope} {n:Nat} {x:Str} (h:sc.names.lookup x=some .cell):∃ c,(cellsFrom n sc.names []).lookup x=some c:=by
  have q:=PySem.W.cellsFrom_some sc.names n [] (.inl h);exact Option.isSome_iff_exists.mp q
theorem nc {CX:nM} {P:Program} {w:World} {K:PySem.W.Frag} {mg:Str->Option Value} {base:Heap} {N ps:List Str} {qual:Str} {scope:Scope} {f:Addr} {cd:Value} {A:Around} {outer:List Env} {s s1:Shared} {H:Hp} {E:XK} {us:List Value} {vs:List V}
    (S:aY N ps scope) (hd:A.handled=none) (e0:pO P w K mg base A outer s H) (hl:vs.length=ps.length) (r:aH vs us)
    (x:InCallC s s.heap.objs.size (bindL (envOfC qual scope s.heap.objs.size f cd).kindOf (ps.zip us) fun _=>none) (cellsFrom (s.heap.objs.size+1) scope.names []) (bindC (envOfC qual scope s.heap.objs.size f cd).kindOf (ps.zip us) fun _=>none) s1) :
    aq (cp CX P w K mg base N qual scope f cd A outer s H E) [] (dW N vs) H s1:=by
  have hpl:ps.length<=N.length:=by have:=congrArg List.length S.pre;rw [List.length_take] at this;omega
  obtain ⟨h1,tk,rfl,hk⟩:=x.done;have noA:∀ b:Addr,b∉(cp CX P w K mg base N qual scope f cd A outer s H E).ex:=fun b z=>absurd (show b∈([]:List Addr) from z) (by simp)
  refine ⟨⟨e0.mod,S.kind,rfl,rfl,Nat.le_refl _,fun y z c h1 h2=>?_,fun y hy=>?_,fun y c _ h=>?_,fun _=>hd,Around.frames_deeper e0.frames,.inr ⟨rfl,rfl⟩,fun b z=>absurd z (noA b),e0.bs,e0.bsz,fun b _ _=>noA b,fun b z=>absurd z (noA b),e0.funs,e0.frf,e0.tab⟩,
    rfl,e0.bare,Un.kept hk,⟨_,x.toInCall.ns,fun i y v h1 h2 h3=>?_⟩,fun y c h=>⟨_,x.cell y c h⟩,e0.hok.fresh (Nat.le_refl _),fun y c h=>?_,fun p hp=>absurd (show p∈([]:List (Addr×Obj)) from hp) (by simp),e0.hok.kept hk,?_⟩
  · exact name_of_addr x.apart (PySem.mem_of_lookup h1) (PySem.mem_of_lookup h2)
  · have hy:scope.names.lookup y=some .cell\/scope.names.lookup y=some .free:=hy;rcases hy with hy | hy
    · exact kt hy
    · exact absurd rfl (S.nofree _ (PySem.mem_of_lookup hy))
  · exact Nat.le_of_lt (x.above y c (PySem.mem_of_lookup h))
  · have hi:i < vs.length:=by
      unfold dW at h2;by_cases hi:i < vs.length
      · exact hi
      · rw [List.getElem?_append_right (by simpa using hi)] at h2;rw [List.getElem?_replicate] at h2;split at h2 <;> cases h2
    have ha:vs[i]?=some v:=by
      unfold dW at h2;rw [List.getElem?_append_left (by simpa using hi),List.getElem?_map] at h2;cases e:vs[i]? with
      | none=>rw [e] at h2;cases h2
      | some a=>rw [e] at h2;cases h2;rfl
    obtain ⟨u,hu,rv⟩:=r.get ha;have hp:ps[i]?=some y:=by
      rw [<- S.pre,List.getElem?_take_of_lt (by omega)];exact h1
    have ndP:ps.Nodup:=by rw [<- S.pre];exact S.nd.sublist (List.take_sublist _ _)
    refine ⟨u,rv,?_⟩;rcases S.par y (List.mem_of_getElem? hp) with k | k
    · exact .inl ⟨k,i8 ndP hp hu k⟩
    · obtain ⟨c,e⟩:=kt (n:=s.heap.objs.size+1) k;refine .inr ⟨.inl k,c,e,?_⟩;have q:=x.cell y c e;rw [i6 ndP hp hu (by show scope.names.lookup y≠_;rw [k];decide)] at q;exact q
  · exact e0.hok.fresh (Nat.le_of_lt (x.above y c (PySem.mem_of_lookup h)))
  · unfold dW;show _=N.length;rw [List.length_append,List.length_map,List.length_replicate];omega
theorem oy {CX:nM} {P:Program} {w:World} {K:PySem.W.Frag} {mg:Str->Option Value} {base:Heap} {k:Nat} {f:Addr} {name qual:Str} {params:Arguments} {body:List Stmt} {scope:Scope} {dV kV doc pm cdv ct oc:Value} {an od:Option Addr}
    {osl:Array (Option Value)} {N ps:List Str} {sp:Sp} (lk:K.lookup f=some ⟨oc,od,.func (PySem.W.fnOf name qual params body scope dV kV doc pm an cdv ct),osl⟩) (hcd:PySem.W.codeIn K cdv qual=true) (S:aY N ps scope)
    (len:∀ vs H Q E,sp vs H Q E->vs.length=ps.length)
    (hbody:∀ (A:Around) (outer:List Env) (s:Shared) (H:Hp) (vs:List V) (Q:VK) (E:XK),cG k (A.deeper (envOfC qual scope s.heap.objs.size f cdv))->sp vs H Q E ->
      ∃ t,ju (cp CX P w K mg base N qual scope f cdv A outer s H E) body t/\t { nx:=fun _ H'=>Q .non H',rt:=Q } (dW N vs) H) :
    bA P w K mg base CX (k+1) f (PySem.W.fnOf name qual params body scope dV kV doc pm an cdv ct) ps sp:=by
  refine ⟨len,fun A outer s H args us vs Q E hr e0 hb r hsp=>?_⟩;have hl:=len _ _ _ _ hsp;have KX:K.In s.heap:=e0.mod.kin.keeps fun b o e=>(e0.bs b o e).1
  have lim:s.heap.NoLimit:=e0.mod.nolimit.keeps fun b o e=>(e0.bs b o e).1
  have hkind:∀ y∈ps.zip us,scope.names.lookup y.1=some .local\/(scope.names.lookup y.1=some .cell/\((cellsFrom (s.heap.objs.size+1) scope.names []).lookup y.1).isSome=true):=fun ⟨n,v⟩ hy=>by
    rcases S.par n (List.of_mem_zip hy).1 with q | q
    · exact .inl q
    · exact .inr ⟨q,PySem.W.cellsFrom_some _ _ _ (.inl q)⟩
  refine codeAny_call_function hr.depth (KX _ _ lk) rfl S.co S.gen rfl (PySem.W.codeRec_of KX hcd) (hb _ _ _ _ ?_);refine wpAny_newFunctionEnv_cells S.kind hkind fun env he s1 x=>?_
  subst he;refine ⟨lim.keeps x.toInCall.keep,codeAny_func ?_⟩;obtain ⟨t,ht,hq⟩:=hbody A outer s H vs Q E (hr.deeper _) hsp;have I:aq (cp CX P w K mg base N qual scope f cdv A outer s H E) [] (dW N vs) H s1:=nc S hr.hd e0 hl r x;refine wpAny_mono (ht [] s1 (dW N vs) H _ I hq) (fun fl s' hs=>?_) fun e s' hs=>hs
  have fin:∀ {σ':St} {H':Hp} {v:V} {u:Value},aq (cp CX P w K mg base N qual scope f cdv A outer s H E) [] σ' H' s'->be v u->Q v H'->CE outer P w H s Q u s' :=
    fun {σ' H' v u} J rv q=>⟨v,H',J.os,J.bare,J.base,J.hok,rv,q⟩
  cases fl with
  | ret u =>
    obtain ⟨v,σ',H',J,rv,q⟩:=hs;exact fin J rv q
  | next =>
    obtain ⟨σ',H',J,q⟩:=hs;exact fin (v:=V.non) (u:=Value.none) J rfl q
  | brk =>
    obtain ⟨_,_,_,q⟩:=hs;exact False.elim q
  | cont =>
    obtain ⟨_,_,_,q⟩:=hs;exact False.elim q
section
variable {X:Cx} {x:Str} {p pos:Pos} {e:Expr} {es:List Expr} {t:TA} {id T:String} {r:List V->Hp->VK->Prop}
noncomputable def wR (r:List V->Hp->VK->Prop) (t:TA):TE:=fun σ H Q=>t σ H fun vs H1=>r vs H1 Q
theorem kI (hc:cb X (.builtin id) r) (hg:Gl X x) (hm:X.mg x=none) (hv:bootBuiltins x=some (.builtin id)) (ha:PA X (e::es) t) (hn:x ≠ "__name__" := by decide) (hdb:(x==("__debug__" : Str))=false:=by decide)
    (he:starEach (e::es) X.env=(false,eval e X.env)::starEach es X.env:=by rfl) (hpl:(backTo pos (starEach es X.env)).any (·.1)=false:=by rfl):PE X (.Call (.Name x p) (e::es) [] pos) (wR r t):=by
  intro pins s σ H Q I h;refine wpAny_Call_Name_kw (jN I hg hm hv ?_ hn hdb);exact PyProof.Rows.callWith_builtin1 (cq (ha pos pins s σ H _ I h) fun us s1 ⟨vs,H1,I1,r1,q1⟩=>hc pins s1 σ H1 vs us Q I1 r1 q1) he hpl
theorem nu (hc:cb X (.type T) r) (hg:Gl X x) (hm:X.mg x=none) (hv:bootBuiltins x=some (.type T)) (ha:PA X (e::es) t) (hn:x ≠ "__name__" := by decide) (hdb:(x==("__debug__" : Str))=false:=by decide)
    (he:starEach (e::es) X.env=(false,eval e X.env)::starEach es X.env:=by rfl) (hpl:(backTo pos (starEach es X.env)).any (·.1)=false:=by rfl):PE X (.Call (.Name x p) (e::es) [] pos) (wR r t):=by
  intro pins s σ H Q I h;refine wpAny_Call_Name_kw (jN I hg hm hv ?_ hn hdb);exact PyProof.Rows.callWith_type1 (cq (ha pos pins s σ H _ I h) fun us s1 ⟨vs,H1,I1,r1,q1⟩=>hc pins s1 σ H1 vs us Q I1 r1 q1) he hpl
end
end L2
namespace HT
open PySem PyProof.Rows
section
open PySem.SeqAt
open PySem.AutoSeq1 (wpAny_loadPart')
open PySem.MeetsSeq PySem.MeetsSeq2 PySem.MeetsSeq3
end
section
variable {prog:Program} {w:World} {A:Around} {E:Value->Shared->Prop} {s:Shared}
theorem cat_tup {t b:Addr} {vs ws:List Value} {Q:Value->Shared->Prop} (ht:IsTup s.heap t vs.toArray) (hb:IsTup s.heap b ws.toArray) (hv:vs≠[])
    (h1:ws=[]->Q (.ref t) s) (h2:ws≠[]->Q (.ref s.heap.objs.size) { s with heap:=s.heap.push { cls:=.type "tuple",data:=.seq (vs++ws).toArray } })
    (hsz:vs.length+ws.length<=sizeLine):wpAny (model prog w) A (binaryOp .Add (.ref t) (.ref b)) Q E s:=by
  obtain ⟨⟨cls,dd,data,sl⟩,ho,hc,n,hd⟩:=id ht;obtain ⟨⟨cls2,dd2,data2,sl2⟩,ho2,hc2,n2,hd2⟩:=id hb;simp only at hc hd hc2 hd2;subst hc hd hc2 hd2;have e:vs.toArray++ws.toArray=(vs++ws).toArray:=by simp
  by_cases hw:ws=[]
  · exact concat_meets ⟨_,ho,rfl⟩ ⟨_,ho2,rfl⟩ noFill_tuple_add seq_tuple_add PySem.F.slot_tuple_add PySem.F.entry_tuple_add (PySem.F.args_tuple_add_2 _ _)
      (tuple_addW1 t b vs.toArray ws.toArray n n2 dd dd2 sl sl2 (by simpa using hv) (by simp [hw])) ⟨ho,ho2,h1 hw⟩
  · refine concat_meets ⟨_,ho,rfl⟩ ⟨_,ho2,rfl⟩ noFill_tuple_add seq_tuple_add PySem.F.slot_tuple_add PySem.F.entry_tuple_add (PySem.F.args_tuple_add_2 _ _)
      (tuple_addW2 t b vs.toArray ws.toArray n n2 dd dd2 sl sl2 (by simpa using hv) (by simpa using hw) (by rw [List.size_toArray,List.size_toArray];exact hsz)) ⟨ho,ho2,?_⟩
    rw [e];exact h2 hw
noncomputable def sIx (n d:Nat):Option Int->Nat
  | none=>d
  | some v=>if v < 0 then (v+(n:Int)).toNat else min v.toNat n
theorem tf (n d:Nat) (hd:d<=n) (o:Option Int):sIx n d o<=n:=by
  cases o with
  | none=>exact hd
  | some v =>
    show (if v < 0 then (v+(n:Int)).toNat else min v.toNat n)<=n;by_cases hv:v < 0
    · rw [if_pos hv];omega
    · rw [if_neg hv];exact Nat.min_le_right _ _
theorem l6 (v:Int) (n d:Nat):(if v < 0 then max (v+(n:Int)) 0 else min v (n:Int))=((sIx n d (some v):Nat):Int):=by
  show (if v < 0 then max (v+(n:Int)) 0 else min v (n:Int))=(((if v < 0 then (v+(n:Int)).toNat else min v.toNat n):Nat):Int)
  by_cases hv:v < 0
  · simp only [if_pos hv];omega
  · simp only [if_neg hv];omega
theorem lj (lo hi:Option Int) (n:Nat):Builtin.Slice.sliceAdjust lo hi 1 (n:Int)=(((sIx n 0 lo:Nat):Int),((sIx n n hi:Nat):Int)):=by
  have h1:¬ ((1:Int) < 0):=by omega
  unfold Builtin.Slice.sliceAdjust;simp only [h1,if_false];refine Prod.ext ?_ ?_
  · cases lo with
    | none=>rfl
    | some v=>exact l6 v n 0
  · cases hi with
    | none=>rfl
    | some v=>exact l6 v n n
theorem lG (i j:Nat):Builtin.Slice.slicePlaces (i:Int) (j:Int) 1=j-i:=by
  unfold Builtin.Slice.slicePlaces;have h1:(1:Int) > 0:=by omega
  simp only [h1,if_true,Int.ediv_one];split <;> omega
theorem iz {v:Value} {o:Option Int} {Q:Option Int->Shared->Prop} (p:IsPart v o) (h:Q o s):wpAny (model prog w) A (Builtin.Slice.slicePartIndex v) Q E s:=by
  cases p with
  | none=>exact slicePart_none h
  | int i t=>exact slicePart_int h
theorem sliceApplied_gen {sl:Addr} {vl vu:Value} {lo hi:Option Int} {n:Nat} {Q:Int×Int×Nat->Shared->Prop} (hs:s.heap.IsSliceOf sl vl vu .none) (pl:IsPart vl lo) (pu:IsPart vu hi)
    (h:Q (((sIx n 0 lo:Nat):Int),1,sIx n n hi-sIx n 0 lo) s):wpAny (model prog w) A (Builtin.Slice.sliceApplied (.ref sl) (pure (n:Int))) Q E s:=by
  obtain ⟨os,hos,hcs,hds⟩:=id hs;unfold Builtin.Slice.sliceApplied Builtin.Slice.sliceFields;refine wpAny_bind (wpAny_bind (wpAny_field hos hds (x:=vl) rfl (wpAny_bind (wpAny_field hos hds (x:=vu) rfl (wpAny_bind (wpAny_field hos hds (x:=.none) rfl (wpAny_pure ?_)))))));refine wpAny_bind (slicePart_none ?_);show wpAny _ _ (if ((1:Int)==0)=true then _ else _) _ _ s;rw [if_neg (by decide)];refine wpAny_bind (iz pl (wpAny_bind (iz pu (wpAny_bind (wpAny_pure ?_)))));show wpAny _ _ (match Builtin.Slice.sliceAdjust lo hi 1 (n:Int) with | (lo,hi)=>pure (lo,(1:Int),Builtin.Slice.slicePlaces lo hi 1)) _ _ s;rw [lj lo hi n];show wpAny _ _ (pure (((sIx n 0 lo:Nat):Int),(1:Int),Builtin.Slice.slicePlaces ((sIx n 0 lo:Nat):Int) ((sIx n n hi:Nat):Int) 1)) _ _ s;rw [lG];exact wpAny_pure h
theorem o7 (xs:Array Value) (i k:Nat):((List.range k).filterMap fun (m:Nat)=>xs[((i:Int)+(m:Int)*1).toNat]?).toArray=((xs.toList.drop i).take k).toArray:=by
  have e:(fun (m:Nat)=>xs[((i:Int)+(m:Int)*1).toNat]?)=fun m=>xs[i+m]?:=by
    funext m;have:((i:Int)+(m:Int)*1).toNat=i+m:=by omega
    rw [this]
  rw [e];have:=pick_run xs i k;rw [List.filterMap_map] at this;have e2:((fun x=>xs[x]?)∘fun x=>i+x)=fun m=>xs[i+m]?:=rfl
  rw [e2] at this;rw [this]
theorem getItem_tuple_cut {t sl:Addr} {items:Array Value} {vl vu:Value} {lo hi:Option Int} {Q:Value->Shared->Prop} (ht:IsTup s.heap t items) (hs:s.heap.IsSliceOf sl vl vu .none) (pl:IsPart vl lo) (pu:IsPart vu hi)
    (hw:¬ (sIx items.size 0 lo=0/\sIx items.size items.size hi=items.size))
    (h:Q (.ref s.heap.objs.size) { s with heap:=s.heap.push { cls:=.type "tuple",data:=.seq ((items.toList.drop (sIx items.size 0 lo)).take (sIx items.size items.size hi-sIx items.size 0 lo)).toArray } })
    (hsz:items.size<=sizeLine):wpAny (model prog w) A (getItem (.ref t) (.ref sl)) Q E s:=by
  have htake:sizeOk (.seq ((items.toList.drop (sIx items.size 0 lo)).take (sIx items.size items.size hi-sIx items.size 0 lo)).toArray):=by
    show ((items.toList.drop (sIx items.size 0 lo)).take (sIx items.size items.size hi-sIx items.size 0 lo)).toArray.size<=sizeLine;rw [List.size_toArray,List.length_take,List.length_drop,Array.length_toList];omega
  have hj:sIx items.size items.size hi<=items.size:=tf _ _ (Nat.le_refl _) hi;obtain ⟨os,hos,hcs,hds⟩:=id hs;have hTs:s.TypeIs (.ref sl) "slice" := ⟨os,hos,hcs⟩
  unfold getItem
  try with_reducible refine wpAny_holding ?_
  first | refine wpAny_bind (wpAny_pure ?_) | skip
  refine wpAny_bind (wpAny_sequenceKey ht.typeIs (by decide) ?_);refine wpAny_bind (wpAny_callSpecial?_slot (name:=Str.ofString "__getitem__") ht.typeIs PyProof.Rows.slot_tuple_getitem
    (wpAny_call_entry PyProof.Rows.slot_tuple_getitem ht.typeIs entry_tuple_getitem ?_ (args_tuple_getitem _ _)))
  show wpAny _ _ (Builtin.Tuple.tupleItemsOf (.ref t)>>=_) _ _ s;refine wpAny_bind (tupleItemsOf_ ht ?_);refine wpAny_bind (wpAny_typeOf hTs ?_);rw [if_pos (by decide)];refine wpAny_bind (sliceApplied_gen hs pl pu ?_);have hno:¬ ((((sIx items.size 0 lo:Nat):Int)==0&&(1:Int)==1&&(sIx items.size items.size hi-sIx items.size 0 lo)==items.size)=true):=by
    intro q;rw [Bool.and_eq_true,Bool.and_eq_true] at q;have q1:((sIx items.size 0 lo:Nat):Int)=0:=eq_of_beq q.1.1;have q2:sIx items.size items.size hi-sIx items.size 0 lo=items.size:=eq_of_beq q.2;exact hw ⟨by omega,by omega⟩
  show wpAny _ _ (if (((sIx items.size 0 lo:Nat):Int)==0&&(1:Int)==1&&(sIx items.size items.size hi-sIx items.size 0 lo)==items.size)=true then _ else _) _ _ s;rw [if_neg hno,o7]
  first
    | exact wpAny_bind (m:=Builtin.Tuple.tupleExact _) (wpAny_newObj_type (wpAny_pure ⟨_,rfl,wpAny_pure h⟩) htake)
    | exact wpAny_bind (m:=Builtin.Tuple.tupleExact _) (wpAny_newObj_type (wpAny_bind (wpAny_pure (wpAny_pure ⟨_,rfl,wpAny_pure h⟩))) htake)
    | exact wpAny_bind (wpAny_bind (m:=Builtin.Tuple.tupleExact _) (wpAny_newObj_type (wpAny_pure (wpAny_pure ⟨_,rfl,wpAny_pure h⟩)) htake))
    | exact wpAny_bind (wpAny_bind (m:=Builtin.Tuple.tupleExact _) (wpAny_newObj_type (wpAny_pure ⟨_,rfl,wpAny_pure h⟩) htake))
end
end HT
namespace L2
open PySem PySem.Spec PyProof.Rows
noncomputable abbrev TO:=St->Hp->(Option Int->Hp->Prop)->Prop
noncomputable def PO (X:Cx) (e:Option Expr) (t:TO):Prop :=
  ∀ (pins:List (Addr×Obj)) (s:Shared) (σ:St) (H:Hp) (Q:Option Int->Hp->Prop),aq X pins σ H s->t σ H Q ->
    wpAny (model X.prog X.w) X.A (evalPart e X.env) (fun u s'=>∃ o H',aq X pins σ H' s'/\IsPart u o/\Q o H') X.xe s
noncomputable def rn:TO:=fun _ H Q=>Q none H
noncomputable def vz (t:TE):TO:=fun σ H Q=>t σ H fun x H1=>∃ i,x=.int i/\Q (some i) H1
theorem dL {ns:List Int}:∀ {us:List Value},aH (ns.map V.int) us->IntsAre us ns:=by
  induction ns with
  | nil=>intro us r;rw [List.map_nil] at r;cases r;exact .nil
  | cons n ns ih =>
    intro us r;rw [List.map_cons] at r;cases r with
    | cons r1 r2 =>
      obtain ⟨t,e⟩:=r1;subst e;exact .cons n t (ih r2)
section
variable {X:Cx} {e:Expr} {te:TE} {lo hi:Option Expr} {tl th:TO} {pos p2:Pos}
theorem qO:PO X none rn:=by
  intro pins s σ H Q I h;rw [evalPart_none];exact wpAny_pure ⟨none,H,I,.none,h⟩
theorem qP (h:PE X e te):PO X (some e) (vz te):=by
  intro pins s σ H Q I hw;rw [evalPart_some];refine cq (h pins s σ H _ I hw) fun u s1 zq0=>?_
  obtain ⟨x,H1,I1,r1,q1⟩:=zq0;obtain ⟨i,rfl,q⟩:=q1;obtain ⟨t,rfl⟩:=r1;exact ⟨some i,H1,I1,.int i t,q⟩
noncomputable def pT (X:Cx) (r:V->Option Int->Option Int->Hp->VK->Prop):Prop :=
  ∀ (pins:List (Addr×Obj)) (s:Shared) (σ:St) (H:Hp) (x:V) (v vl vu:Value) (lo hi:Option Int) (sl:Addr) (Q:VK),aq X pins σ H s->be x v->s.heap.IsSliceOf sl vl vu .none->IsPart vl lo->IsPart vu hi->r x lo hi H Q ->
    ∃ T id,typeLookup (.type T) "__getitem__" = pure (some (.builtin id))/\s.TypeIs v T/\wpAny (model X.prog X.w) X.A (getItem v (.ref sl)) (EP X pins σ Q) X.xe s
theorem pT.or {r r':V->Option Int->Option Int->Hp->VK->Prop} (h:pT X r) (h':pT X r'):pT X (fun x lo hi H Q=>r x lo hi H Q\/r' x lo hi H Q):=by
  intro pins s σ H x v vl vu lo hi sl Q I rx hs pl pu q;rcases q with q | q
  · exact h pins s σ H x v vl vu lo hi sl Q I rx hs pl pu q
  · exact h' pins s σ H x v vl vu lo hi sl Q I rx hs pl pu q
noncomputable def xu (r:V->Option Int->Option Int->Hp->VK->Prop) (te:TE) (tl th:TO):TE:=fun σ H Q=>te σ H fun x H1=>tl σ H1 fun l H2=>th σ H2 fun u H3=>r x l u H3 Q
theorem o6 {r:V->Option Int->Option Int->Hp->VK->Prop} (hr:pT X r) (he:PE X e te) (hl:PO X lo tl) (hu:PO X hi th):PE X (.Subscript e (.Slice lo hi none p2) pos) (xu r te tl th):=by
  intro pins s σ H Q I h;refine Subscript_ (cq (he pins s σ H _ I h) fun v s1 zq0=>?_);obtain ⟨x,H1,I1,r1,q1⟩:=zq0;refine wpAny_Slice (cq (hl pins s1 σ H1 _ I1 q1) fun vl s2 ⟨l,H2,I2,pl,q2⟩=>cq (hu pins s2 σ H2 _ I2 q2) fun vu s3 zq0=>?_);obtain ⟨u,H3,I3,pu,q3⟩:=zq0;rw [evalPart_none];refine wpAny_pure ?_;have I4:aq X pins σ H3 { s3 with heap:=s3.heap.push { cls:=.type "slice",data:=.fields #[vl,vu,.none] } }:=I3.kept (t':=s3.toks) fun b ob q=>Heap.get?_push_of_some _ q
  obtain ⟨T,id,hT,ht,hg⟩:=hr pins { s3 with heap:=s3.heap.push { cls:=.type "slice",data:=.fields #[vl,vu,.none] } } σ H3 x v vl vu l u s3.heap.objs.size Q I4 r1 (Heap.IsSliceOf.new ..) pl pu q3;show wpAny (model X.prog X.w) X.A (subscriptTail e (.Slice lo hi none p2) v (.ref s3.heap.objs.size)) (EP X pins σ Q) X.xe { s3 with heap:=s3.heap.push { cls:=.type "slice",data:=.fields #[vl,vu,.none] } };exact tail_any (ops:=[.ref s3.heap.objs.size,v]) ht hT hg (by with_unfolding_all rfl)
noncomputable def kw (xs:List V) (lo hi:Option Int):List V:=(xs.drop (HT.sIx xs.length 0 lo)).take (HT.sIx xs.length xs.length hi-HT.sIx xs.length 0 lo)
theorem gz (xs:List V) (lo hi:Option Int):(kw xs lo hi).length<=xs.length:=by
  unfold kw;rw [List.length_take,List.length_drop];omega
noncomputable def wO (K:PySem.W.Frag):V->Option Int->Option Int->Hp->VK->Prop:=fun x lo hi H Q=>∃ a xs,x=.ref a/\eh K H a xs /\
  ¬ (HT.sIx xs.length 0 lo=0/\HT.sIx xs.length xs.length hi=xs.length)/\∀ p,H p=none->Q (.ref p) (ca H p (.tup (kw xs lo hi)))
theorem tm:pT X (wO X.K):=by
  intro pins s σ H x v vl vu lo hi sl Q I rx hs pl pu h;obtain ⟨a,xs,rfl,hx,hw,q⟩:=h;cases rx;obtain ⟨its,r,ht,hz⟩:=I.tuple hx;have hlen:its.toArray.size=xs.length:=by rw [List.size_toArray];exact r.length.symm
  refine ⟨"tuple",_,PyProof.Rows.slot_tuple_getitem.lookup,ht.typeIs,?_⟩;refine HT.getItem_tuple_cut ht hs pl pu (by rw [hlen];exact hw) ?_ (by rw [hlen];exact hz);rw [hlen];refine ⟨.ref s.heap.objs.size,_,I.laid (t':=s.toks) (o:=.tup (kw xs lo hi)) (fun b ob q=>Heap.get?_push_of_some _ q) (Nat.le_refl _) ?_,rfl,q _ (I.hok.fresh (Nat.le_refl _))⟩;exact ⟨Nat.le_trans (gz xs lo hi) hz,_,(r.drop (HT.sIx xs.length 0 lo)).take (HT.sIx xs.length xs.length hi-HT.sIx xs.length 0 lo),c4.new _ _⟩
noncomputable def rP (K:PySem.W.Frag):R2:=fun x y H Q=>∃ a b xs ys,x=.ref a/\y=.ref b/\eh K H a xs/\eh K H b ys/\xs≠[]/\xs.length+ys.length<=sizeLine /\
  (ys=[]->Q (.ref a) H)/\(ys≠[]->∀ p,H p=none->Q (.ref p) (ca H p (.tup (xs++ys))))
theorem aH.nil_iff {xs:List V} {us:List Value} (r:aH xs us):us=[]<->xs=[]:=by
  cases r with
  | nil=>simp
  | cons _ _=>simp
theorem qE:fX X (binaryOp .Add) (rP X.K):=by
  intro pins s σ H x y v u Q I rx ry h;obtain ⟨a,b,xs,ys,rfl,rfl,ha,hb,hx,hz,q1,q2⟩:=h;cases rx;cases ry;obtain ⟨its,r1,p1,_⟩:=I.tuple ha;obtain ⟨its2,r2,p2,_⟩:=I.tuple hb;refine HT.cat_tup p1 p2 (fun z=>hx (r1.nil_iff.mp z)) (fun z=>⟨.ref a,H,I,rfl,q1 (r2.nil_iff.mp z)⟩) (fun z=>?_) (by rw [<- r1.length,<- r2.length];exact hz);refine ⟨.ref s.heap.objs.size,_,I.laid (t':=s.toks) (o:=.tup (xs++ys)) (fun b ob q=>Heap.get?_push_of_some _ q) (Nat.le_refl _) ?_,rfl,q2 (fun w=>z (r2.nil_iff.mpr w)) _ (I.hok.fresh (Nat.le_refl _))⟩;exact ⟨by rw [List.length_append];exact hz,_,r1.append r2,c4.new _ _⟩
end
noncomputable def rH (n:Nat) (i:Int):Option Nat:=if 0<=i then (if i < n then some i.toNat else none) else if -(n:Int)<=i then some (i+n).toNat else none
noncomputable def atI {α:Type} (xs:List α) (i:Int):Option α:=(rH xs.length i).bind fun j=>xs[j]?
theorem qu {n:Nat} {i:Int} {j:Nat} (h:rH n i=some j):seqIndex? i n=some j/\j < n/\-(n:Int)<=i/\i < n:=by
  unfold rH at h;by_cases h0:0<=i
  · rw [if_pos h0] at h;by_cases h1:i < n
    · rw [if_pos h1] at h;have e:i.toNat=j:=Option.some.inj h;exact ⟨by rw [seqIndex_of h0 h1,e],by omega,by omega,h1⟩
    · rw [if_neg h1] at h;cases h
  · rw [if_neg h0] at h;by_cases h1:-(n:Int)<=i
    · rw [if_pos h1] at h;have e:(i+n).toNat=j:=Option.some.inj h;exact ⟨by rw [seqIndex_neg (by omega) h1,e],by omega,h1,by omega⟩
    · rw [if_neg h1] at h;cases h
theorem jy {α:Type} {xs:List α} {i:Int} {v:α} (h:atI xs i=some v):∃ j,seqIndex? i xs.length=some j/\xs[j]?=some v/\j < xs.length/\-(xs.length:Int)<=i/\i < xs.length:=by
  unfold atI at h;cases e:rH xs.length i with
  | none=>rw [e] at h;cases h
  | some j =>
    rw [e] at h;obtain ⟨h1,h2,h3,h4⟩:=qu e;exact ⟨j,h1,h,h2,h3,h4⟩
theorem jz {α:Type} {xs:List α} {j:Nat} {v:α} (h:xs[j]?=some v):atI xs (j:Int)=some v:=by
  have hj:j < xs.length:=(List.getElem?_eq_some_iff.mp h).1;have e:rH xs.length (j:Int)=some j:=by
    unfold rH;rw [if_pos (by omega),if_pos (by omega)];simp
  unfold atI;rw [e];exact h
noncomputable def lS (b:Expr):Prop:=∀ o i,subscripted b false o i=operate [o,i] (getItem o i)
noncomputable def pQ (X:Cx) (r:R2):Prop :=
  ∀ (value slice:Expr) (pins:List (Addr×Obj)) (s:Shared) (σ:St) (H:Hp) (x y:V) (v u:Value) (Q:VK),aq X pins σ H s->be x v->be y u->r x y H Q ->
    subscripted slice false v u=operate [v,u] (getItem v u)->wpAny (model X.prog X.w) X.A (subscriptTail value slice v u) (EP X pins σ Q) X.xe s
noncomputable def xl (X:Cx) (id:String) (r:V->List V->Hp->VK->Prop):Prop :=
  ∀ (pins:List (Addr×Obj)) (s:Shared) (σ:St) (H:Hp) (x:V) (xs:List V) (v:Value) (us:List Value) (Q:VK),aq X pins σ H s->be x v->aH xs us->r x xs H Q ->
    wpAny (model X.prog X.w) X.A (call (.builtin id) (v::us)) (EP X pins σ Q) X.xe s
section
variable {X:Cx} {a b:Expr} {ta tb:TE} {pos:Pos}
theorem pQ.or {r r':R2} (h:pQ X r) (h':pQ X r'):pQ X (fun x y H Q=>r x y H Q\/r' x y H Q):=by
  intro value slice pins s σ H x y v u Q I rx ry q hs;rcases q with q | q
  · exact h value slice pins s σ H x y v u Q I rx ry q hs
  · exact h' value slice pins s σ H x y v u Q I rx ry q hs
theorem uW {r:R2} (hr:pQ X r) (ha:PE X a ta) (hb:PE X b tb) (hs:lS b):PE X (.Subscript a b pos) (vy r ta tb):=by
  intro pins s σ H Q I h;exact Subscript_ (sh ha hb I h fun v u s2 x y H2 I2 rx ry q=>hr a b pins s2 σ H2 x y v u Q I2 rx ry q (hs _ _))
noncomputable def u4 (K:PySem.W.Frag):R2:=fun x y H Q=>∃ p xs i v,x=.ref p/\y=.int i/\iE K H p xs/\atI xs i=some v/\Q v H
noncomputable def u6 (K:PySem.W.Frag):R2:=fun x y H Q=>∃ p xs i v,x=.ref p/\y=.int i/\eh K H p xs/\atI xs i=some v/\Q v H
noncomputable def u5:R2:=fun x y H Q=>∃ z i c,x=.str z/\y=.int i/\z.length<=sizeLine/\atI z.cps.toList i=some c/\Q (.str ⟨#[c]⟩) H
theorem qw:pQ X (u4 X.K):=by
  intro value slice pins s σ H x y v u Q I rx ry h hs;obtain ⟨p,xs,i,z,rfl,rfl,hq,he,q⟩:=h;cases rx;obtain ⟨t,rfl⟩:=ry;obtain ⟨its,r,pl,hz⟩:=I.list hq;obtain ⟨j,h1,h2,h3,h4,h5⟩:=jy he;obtain ⟨w,ew,rw'⟩:=r.get h2;have hl:=r.length;have hn:=gm;have fin:EP X pins σ Q w s:=⟨z,H,I,rw',q⟩
  by_cases h0:0<=i
  · have hj:i.toNat=j:=by
      rw [seqIndex_of h0 h5] at h1;exact Option.some.inj h1
    exact item_listR pl.isList h0 (by omega) (by rw [hj];simpa using ew) fin hs
  · have hj:(i+(its.toArray.size:Int)).toNat=j:=by
      rw [seqIndex_neg (by omega) h4] at h1;rw [List.size_toArray,<- hl];exact Option.some.inj h1
    exact subscriptTail_builtinR (x:=w) pl.isList.typeIs slot_list_getitem.lookup
      (wpAny_getItem_list_neg (Q:=fun r s'=>r=w/\EP X pins σ Q r s') pl.isList (by omega) (by rw [List.size_toArray] <;> omega) (by omega) (by rw [hj];simpa using ew) ⟨rfl,fin⟩) hs
theorem sB:pQ X (u6 X.K):=by
  intro value slice pins s σ H x y v u Q I rx ry h hs;obtain ⟨p,xs,i,z,rfl,rfl,hq,he,q⟩:=h;cases rx;obtain ⟨t,rfl⟩:=ry;obtain ⟨its,r,pl,hz⟩:=I.tuple hq;obtain ⟨j,h1,h2,h3,h4,h5⟩:=jy he;obtain ⟨w,ew,rw'⟩:=r.get h2;have hl:=r.length;have hn:=gm;have fin:EP X pins σ Q w s:=⟨z,H,I,rw',q⟩
  exact subscriptTail_builtinR (x:=w) pl.typeIs slot_tuple_getitem.lookup
    (getItem_tuple (j:=j) (Q:=fun r s'=>r=w/\EP X pins σ Q r s') pl (by omega) (by omega) (by rw [List.size_toArray,<- hl];exact h1) (by simpa using ew) ⟨rfl,fin⟩) hs
theorem sA:pQ X u5:=by
  intro value slice pins s σ H x y v u Q I rx ry h hs;obtain ⟨z,i,c,rfl,rfl,hz,he,q⟩:=h;obtain ⟨t,rfl⟩:=rx;obtain ⟨t',rfl⟩:=ry;obtain ⟨j,h1,h2,h3,h4,h5⟩:=jy he;have hl:z.cps.toList.length=z.length:=by simp [Str.length]
  rw [hl] at h1 h4 h5;have hn:=gm;exact tail_any (typeIs_str s z t) slot_str_getitem.lookup (getItem_str (c:=c) (by
    have e1:decide (i < -(2 ^ 63:Int))=false:=decide_eq_false (by omega);have e2:decide (i>=2 ^ 63)=false:=decide_eq_false (by omega);rw [e1,e2,Bool.or_false]) (by rw [h1];simpa using h2) ⟨.str ⟨#[c]⟩,H,I.tok _,⟨_,rfl⟩,q⟩) hs
theorem jW (lo hi:Option Int) (n:Nat):(sliceBounds lo hi none n).1=((HT.sIx n 0 lo:Nat):Int)/\(sliceBounds lo hi none n).2.1=((HT.sIx n n hi:Nat):Int)/\(sliceBounds lo hi none n).2.2=1:=by
  refine ⟨?_,?_,rfl⟩
  · cases lo with
    | none=>simp [sliceBounds,HT.sIx]
    | some i =>
      simp only [sliceBounds,HT.sIx,Option.getD_none,show (1:Int) > 0 by decide,if_true];by_cases h:i < 0
      · simp only [h,if_true] <;> omega
      · simp only [h,if_false] <;> omega
  · cases hi with
    | none=>simp [sliceBounds,HT.sIx]
    | some i =>
      simp only [sliceBounds,HT.sIx,Option.getD_none,show (1:Int) > 0 by decide,if_true];by_cases h:i < 0
      · simp only [h,if_true] <;> omega
      · simp only [h,if_false] <;> omega
theorem iX (its:List Value) (lo hi:Option Int):slicePick its.toArray lo hi none=((its.drop (HT.sIx its.length 0 lo)).take (HT.sIx its.length its.length hi-HT.sIx its.length 0 lo)).toArray:=by
  obtain ⟨h1,h2,h3⟩:=jW lo hi its.toArray.size;unfold slicePick;rw [h1,h2,h3];simp only [sliceRange_one,pick_run,List.size_toArray] <;> rfl
noncomputable def wN (K:PySem.W.Frag):V->Option Int->Option Int->Hp->VK->Prop:=fun x lo hi H Q=>∃ a xs,x=.ref a/\iE K H a xs/\∀ p,H p=none->Q (.ref p) (ca H p (.lst (kw xs lo hi)))
theorem rh:pT X (wN X.K):=by
  intro pins s σ H x v vl vu lo hi sl Q I rx hs pl pu h;obtain ⟨a,xs,rfl,hx,q⟩:=h;cases rx;obtain ⟨its,r,ht,hz⟩:=I.list hx;have hlen:=r.length;refine ⟨"list",_,slot_list_getitem.lookup,ht.isList.typeIs,?_⟩;refine wpAny_getItem_list_slice ht.isList hs pl pu .none (by simp) ?_ (by rw [List.size_toArray] <;> omega);rw [iX,<- hlen];refine ⟨.ref s.heap.objs.size,_,I.laid (t':=s.toks) (o:=.lst (kw xs lo hi)) (fun b ob q=>Heap.get?_push_of_some _ q) (Nat.le_refl _) ?_,rfl,q _ (I.hok.fresh (Nat.le_refl _))⟩;exact ⟨Nat.le_trans (gz xs lo hi) hz,_,0,(r.drop (HT.sIx xs.length 0 lo)).take (HT.sIx xs.length xs.length hi-HT.sIx xs.length 0 lo),Heap.get?_push_size _ rfl⟩
theorem jB:cb X (.builtin "len") (fun xs H Q=>∃ p ys,xs=[.ref p]/\(iE X.K H p ys\/eh X.K H p ys)/\Q (.int ys.length) H):=by
  intro pins s σ H xs us Q I r h;obtain ⟨p,ys,rfl,hq,q⟩:=h;obtain ⟨u,rfl,rx⟩:=dX r;cases rx;have hn:=gm;rcases hq with hq | hq
  · obtain ⟨its,r',pl,hz⟩:=I.list hq;have hlen:=r'.length;exact Calls.call_len_list pl.isList (by simp only [List.size_toArray] <;> omega) ⟨.int ys.length,H,I.tok _,⟨s.toks+1,by rw [List.size_toArray,hlen]⟩,q⟩
  · obtain ⟨its,r',pl,hz⟩:=I.tuple hq;have hlen:=r'.length;exact len_tuple pl (by simp only [List.size_toArray] <;> omega) ⟨.int ys.length,H,I.tok _,⟨s.toks+1,by rw [List.size_toArray,hlen]⟩,q⟩
theorem jC:cb X (.builtin "len") (fun xs H Q=>∃ z,xs=[.str z]/\z.length<=sizeLine/\Q (.int z.length) H):=by
  intro pins s σ H xs us Q I r h;obtain ⟨z,rfl,hz,q⟩:=h;obtain ⟨u,rfl,t,rfl⟩:=dX r;have hn:=gm;exact len_str (by omega) ⟨.int z.length,H,I.tok _,⟨_,rfl⟩,q⟩
theorem cb.or {f:Value} {r r':List V->Hp->VK->Prop} (h:cb X f r) (h':cb X f r'):cb X f (fun xs H Q=>r xs H Q\/r' xs H Q):=by
  intro pins s σ H xs us Q I rs q;rcases q with q | q
  · exact h pins s σ H xs us Q I rs q
  · exact h' pins s σ H xs us Q I rs q
theorem iP:cb X (.type "tuple") (fun xs H Q=>∃ p ys,xs=[.ref p]/\((iE X.K H p ys/\∀ l,H l=none->Q (.ref l) (ca H l (.tup ys)))\/(eh X.K H p ys/\Q (.ref p) H))):=by
  intro pins s σ H xs us Q I r h;obtain ⟨p,ys,rfl,h⟩:=h;obtain ⟨u,rfl,rx⟩:=dX r;cases rx;rcases h with ⟨hq,q⟩ | ⟨hq,q⟩
  · obtain ⟨its,r',pl,hz⟩:=I.list hq;have hlen:=r'.length;refine call_tuple_list pl.isList (fun h' kp=>?_) (by simp only [List.size_toArray] <;> omega);have I1:aq X pins σ H { s with heap:=h' }:=I.kept (t':=s.toks) kp;have I2:aq X pins σ (ca H h'.objs.size (.tup ys)) { s with heap:=h'.push { cls:=.type "tuple",data:=.seq its.toArray } } :=
      I1.laid (t':=s.toks) (fun b o e=>Heap.get?_push_of_some _ e) (Nat.le_refl _) (show bw X.prog X.w _ _ _ (.tup ys) from ⟨hz,its,r',c4.new _ _⟩)
    exact ⟨.ref h'.objs.size,_,I2,rfl,q _ (I1.hok.fresh (Nat.le_refl _))⟩
  · obtain ⟨its,r',pl,hz⟩:=I.tuple hq;exact call_tuple_same pl ⟨.ref p,H,I,rfl,q⟩
noncomputable def xj (K:PySem.W.Frag) (T:String) (x:V) (H:Hp):Prop:=match x with
  | .str _=>T = "str"
  | .int _=>T = "int"
  | .ref p=>(T = "list" /\ ∃ xs,iE K H p xs)\/(T = "tuple" /\ ((∃ o,K.lookup p=some o/\o.cls=.type "tuple" /\ o.dict=none)\/∃ xs,H p=some (.tup xs))) \/
      (T = "dict" /\ ((∃ kvs,H p=some (.dK kvs))\/∃ kvs,H p=some (.dT kvs)))\/(T = "set" /\ ∃ S n,H p=some (.set S n))
  | _=>False
theorem tO {pins:List (Addr×Obj)} {σ:St} {H:Hp} {s:Shared} {T:String} {x:V} {v:Value} (I:aq X pins σ H s) (r:be x v) (ty:xj X.K T x H) :
    s.TypeIs v T/\∀ a,v=.ref a->∃ ob,s.heap.get? a=some ob/\ob.dict=none:=by
  cases x with
  | str z =>
    obtain ⟨t,rfl⟩:=r;cases (show T = "str" from ty);exact ⟨typeIs_str s z t,fun _ e=>nomatch e⟩
  | int i =>
    obtain ⟨t,rfl⟩:=r;cases (show T = "int" from ty);exact ⟨typeIs_int s i t,fun _ e=>nomatch e⟩
  | ref p =>
    cases r;rcases ty with ⟨rfl,xs,hq⟩ | ⟨rfl,⟨o,hk,hc,hd⟩ | ⟨xs,hk⟩⟩ | ⟨rfl,hk⟩ | ⟨rfl,S,n,hk⟩
    · obtain ⟨its,_,pl,_⟩:=I.list hq;refine ⟨pl.isList.typeIs,fun a e=>?_⟩;cases e;obtain ⟨o,n,e,c,hd,_⟩:=pl;exact ⟨o,e,hd⟩
    · refine ⟨⟨o,I.kIn p o hk,hc⟩,fun a e=>?_⟩;cases e;exact ⟨o,I.kIn _ o hk,hd⟩
    · obtain ⟨_,_,_,o,e1,e2,_,e3⟩:=(show bw X.prog X.w H s.heap p (.tup xs) from I.hok p _ hk)
      refine ⟨⟨o,e1,e2⟩,fun a e=>?_⟩;cases e;exact ⟨o,e1,e3⟩
    · have z:∃ o,s.heap.get? p=some o/\o.ExactDict:=by
        rcases hk with ⟨kvs,hk⟩ | ⟨kvs,hk⟩
        · obtain ⟨_,_,_,_,o,_,_,e,ex,_⟩:=I.hok p _ hk;exact ⟨o,e,ex⟩
        · obtain ⟨_,_,_,_,o,_,_,e,ex,_⟩:=I.hok p _ hk;exact ⟨o,e,ex⟩
      obtain ⟨o,e,ex⟩:=z;refine ⟨⟨o,e,ex.1⟩,fun a e2=>?_⟩;cases e2;exact ⟨o,e,ex.2.1⟩
    · obtain ⟨o,_,_,_,e,ex,_⟩:=I.hok p _ hk;refine ⟨⟨o,e,ex.1⟩,fun a e2=>?_⟩;cases e2;exact ⟨o,e,ex.2.1⟩
  | _=>exact False.elim ty
noncomputable def xr (K:PySem.W.Frag) (T:String) (r:V->List V->Hp->VK->Prop) (to:TE) (t:TA):TE:=fun σ H Q=>to σ H fun x H1=>xj K T x H1/\t σ H1 fun xs H2=>r x xs H2 Q
variable {o e:Expr} {es:List Expr} {to:TE} {t:TA} {name:Str} {apos cpos:Pos} {T id:String} {r:V->List V->Hp->VK->Prop}
theorem uV (pa:PlainAttrs T) (slot:Slot T name id) (hty:typeOf (.builtin id)=pure (.type "method_descriptor")) (hm:xl X id r) (ho:PE X o to) (ha:PA X (e::es) t)
    (hbase:attributeBase o name X.env (eval o X.env)=eval o X.env:=by rfl)
    (hfew:((backTo cpos (starEach (e::es) X.env)).all (fun x=>!x.1)&&(backToKw cpos (keywordEach [] X.env)).all (fun x=>x.1.isSome)
      && decide ((e::es).length+([]:List Keyword).length+(if ([]:List Keyword).isEmpty then 0 else 1) < 30))=true:=by rfl)
    (hline:(apos.endLine==cpos.line)=true:=by rfl) (hs:starEach (e::es) X.env=(false,eval e X.env)::starEach es X.env:=by rfl) (hplain:(backTo cpos (starEach es X.env)).any (·.1)=false:=by rfl) :
    PE X (.Call (.Attribute o name apos) (e::es) [] cpos) (xr X.K T r to t):=by
  intro pins s σ H Q I h;refine wpAny_Call_method_late hbase hfew hline rfl (cq (ho pins s σ H _ I h) fun v s1 zq0=>?_);obtain ⟨x,H1,I1,r1,ty,q1⟩:=zq0;obtain ⟨h1,h2⟩:=tO I1 r1 ty;refine ⟨T,id,pa,slot,hty,h1,h2,?_⟩;have hA:=ha cpos pins s1 σ H1 _ I1 q1;rw [hs] at hA ⊢;refine Calls.callWith_builtin (by show (false||(backTo cpos (starEach es X.env)).any (·.1))=false;rw [hplain] <;> rfl) (Calls.evalArgs_plain ?_);exact cq hA fun us s2 ⟨vs,H2,I2,r2,q2⟩=>hm pins s2 σ H2 x vs v us Q I2 r1 r2 q2
end
noncomputable def xk (X:Cx) (id:String) (r:V->List V->Hp->VK->Prop):Prop :=
  ∀ (pins:List (Addr×Obj)) (s:Shared) (σ:St) (H:Hp) (x:V) (xs:List V) (v:Value) (us:List Value) (Q:VK),aq X pins σ H s->be x v->aH xs us->r x xs H Q ->
    wpAny (model X.prog X.w) X.A (call (.builtin id) (v::us)) (EP X pins σ Q) X.xe s
theorem aH.one:∀ {x:V} {us:List Value},aH [x] us->∃ u,us=[u]/\be x u
  | _,_,.cons r .nil=>⟨_,rfl,r⟩
theorem aH.zero:∀ {us:List Value},aH [] us->us=[]
  | _,.nil=>rfl
theorem aH.reverse {xs:List V} {us:List Value} (h:aH xs us):aH xs.reverse us.reverse:=by
  induction h with
  | nil=>exact .nil
  | cons r t ih=>rw [List.reverse_cons,List.reverse_cons];exact aH.append ih (.cons r .nil)
theorem aH.rep {xs:List V} {us:List Value} (h:aH xs us):∀ k:Nat,aH (List.replicate k xs).flatten (List.replicate k us).flatten
  | 0=>.nil
  | k+1=>by
    rw [List.replicate_succ,List.replicate_succ,List.flatten_cons,List.flatten_cons];exact aH.append h (aH.rep h k)
theorem jd (its:List Value):∀ (k:Nat) (acc:List Value),
    List.foldl (fun x1 x2=>x1++x2) acc.toArray (List.replicate k its.toArray)=(acc++(List.replicate k its).flatten).toArray
  | 0,acc=>by simp
  | k+1,acc=>by
    have e:acc.toArray++its.toArray=(acc++its).toArray:=by simp
    have e2:(acc++its)++(List.replicate k its).flatten=acc++(List.replicate (k+1) its).flatten:=by
      rw [List.replicate_succ,List.flatten_cons,List.append_assoc]
    rw [<- e2,<- jd its k (acc++its),<- e,List.replicate_succ,List.foldl_cons]
section
variable {X:Cx} {pins:List (Addr×Obj)} {σ:St} {H:Hp} {s:Shared} {l b:Addr} {xs ys zs:List V}
theorem aq.lset {its its':List Value} {n:Nat} {f:Array Value->Array Value} {t':Nat} (I:aq X pins σ H s) (hH:H l=some (.lst xs))
    (e:s.heap.get? l=some { cls:=.type "list",data:=.seq its.toArray n }) (hf:f its.toArray=its'.toArray) (hv:aH ys its') (hz:ys.length<=sizeLine) :
    aq X pins σ (ca H l (.lst ys)) { s with heap:=s.heap.update l (Obj.mapSeq f),toks:=t' }:=by
  have q:=PySem.IsL.update e f;rw [hf] at q;refine I.write (x:=l) (e:=l) (by rw [hH];exact trivial) (.inl rfl) (fun b' u hb hu=>(Heap.get?_update_other s.heap (Obj.mapSeq f) (Ne.symm hb)).trans hu) ⟨_,q⟩ ?_;exact ⟨hz,its',_,hv,q⟩
theorem aq.lnew {its:List Value} {t':Nat} (I:aq X pins σ H s) (hv:aH ys its) (hz:ys.length<=sizeLine) :
    aq X pins σ (ca H s.heap.objs.size (.lst ys)) { s with heap:=s.heap.push { cls:=.type "list",data:=.seq its.toArray },toks:=t' } :=
  I.laid (fun _ _ q=>Heap.get?_push_of_some _ q) (Nat.le_refl _) ⟨hz,its,0,hv,Heap.get?_push_size _ rfl⟩
theorem aq.fresh (I:aq X pins σ H s):H s.heap.objs.size=none:=I.hok.fresh (Nat.le_refl _)
theorem aq.lstM (I:aq X pins σ H s) (hH:H l=some (.lst xs)):xs.length<=sizeLine/\∃ (its:List Value) (n:Nat),aH xs its/\xs.length=its.length/\s.heap.get? l=some { cls:=.type "list",data:=.seq its.toArray n }:=by
  obtain ⟨z,its,n,r,e⟩:=I.hok l _ hH;exact ⟨z,its,n,r,r.length,e⟩
end
section
variable {X:Cx}
noncomputable def qV:V->List V->Hp->VK->Prop:=fun x vs H Q=>∃ l xs y,x=.ref l/\vs=[y]/\H l=some (.lst xs)/\xs.length < sizeLine/\Q .non (ca H l (.lst (xs++[y])))
theorem jm:xk X "list.append" qV:=by
  intro pins s σ H x vs v us Q I rx rv h;obtain ⟨l,xs,y,rfl,rfl,hH,hz,q⟩:=h;cases rx;obtain ⟨u,rfl,ru⟩:=rv.one;obtain ⟨z,its,n,r,hl,e⟩:=I.lstM hH;refine call_meets F.slot_list_append ⟨_,e,rfl⟩ F.entry_list_append (F.args_list_append_2 _ _) (PySem.list_append l its.toArray n u (by rw [List.size_toArray];omega)) ⟨e,?_⟩;refine ⟨.non,_,I.lset (its':=its++[u]) hH e (by simp) (r.append (.cons ru .nil)) ?_,rfl,q⟩;rw [List.length_append,List.length_singleton];omega
theorem mq {α:Type} (xs:List α) (k:Nat):(List.replicate k xs).flatten.length=k*xs.length:=by
  induction k with
  | zero=>simp
  | succ k ih=>rw [List.replicate_succ,List.flatten_cons,List.length_append,ih,Nat.succ_mul,Nat.add_comm]
end
end L2
namespace Att
open PySem PySem.W PySem.Calls PyProof.Rows
theorem gP {P:Params} {h:Heap}:∀ (ns:List Int) (vs:List Value),WellAll P h vs (ns.map WData.int)->IntsAre vs ns:=by
  intro ns;induction ns with
  | nil =>
    intro vs w;rw [List.map_nil] at w;cases w;exact .nil
  | cons n ns ih =>
    intro vs w;rw [List.map_cons] at w;cases w with
    | cons a b =>
      cases a;exact .cons _ _ (ih _ b)
theorem nE {l:OpenLaw} {n:Nat} (hn:l.most=some n) {P:Params} {h:Heap} {args:List WData} {vals:List Value}
    (hpre:l.row.toRowW.claim.pre args=true) (hwl:WellAll P h vals args) :
    ∃ a vs ns,vals=[Value.ref a]/\args=[WData.list (ns.map WData.int)]/\h.get? a=some { cls:=.type "list",data:=.seq vs.toArray }/\IntsAre vs ns/\ns.length<=n:=by
  have hsh:WShape.hasAll [] args [.list .int]=true:=(pre_splitW hpre).1;have hc:l.pre.holds [] { args:=args }=true:=(pre_splitW hpre).2;obtain ⟨d,r,rfl,h1,h2⟩:=hasAllW_cons hsh;obtain rfl:=hasAllW_nil h2;obtain ⟨xs,rfl,h3⟩:=hasW_list h1;obtain ⟨ns,rfl⟩:=items_int h3;have hlen:ns.length<=n:=by
    unfold OpenLaw.pre at hc;have h4:(WTm.not (.lt (.lit (.int (n:Int))) (.len (.arg 0)))).holds [] { args:=[.list (ns.map .int)] }=true:=by
      have h4:=(holds_andW hc).1;rw [hn] at h4;exact h4
    have h5:=condW_of h4 (w_not (w_lt w_lit (w_len_list (w_arg rfl))));rw [List.length_map] at h5;refine Nat.le_of_not_lt fun q=>?_
    have q':(n:Int) < ((ns.length:Nat):Int):=by omega
    first
      | (rw [decide_eq_true q'] at h5;exact absurd h5 (by decide))
      | (simp at h5;omega)
  cases hwl with
  | cons w1 w2 =>
    cases w2;cases w1 with
    | list ho hall=>exact ⟨_,_,ns,rfl,rfl,ho,gP ns _ hall,hlen⟩
theorem nz (l:OpenLaw) (args:List WData):l.row.toRowW.claim.post args (.bool true) args=true :=
  postW_of (r:=l.row.toRowW) (X:=(true==true))
    (show WShape.has [] (.bool true) .bool=true by first | rfl | decide | simp [WShape.has,WShape.arms,WShape.armsAll])
    (show (WTm.eq .res (.lit (.bool true))).value [] { args:=args,res:=some (.bool true),after:=args }=some (.bool (true==true)) from w_eq_bool (w_res rfl) w_lit) rfl
theorem attach_call {l:OpenLaw} {n:Nat} {q:Program} {loose:List Str} {XP:(Str->Option Value)->Heap->Prop} {YP:World->Heap->Prop} {d:DefRec}
    (hn:l.most=some n) (hdf:d.params.defaults=[])
    (call:∀ (w:World) (s₀ s₁:Shared) (mg mb:Str->Option Value) (fa:Addr) (o:Obj) (pm cd doc:Value) (a:Addr) (vs:List Value) (ns:List Int),
      Ground q loose [] XP w s₀ mg mb s₁.heap->YP w s₁.heap ->
      s₁.heap.get? fa=some o->o.data=.func (docDef d.name d.params d.body d.scope pm cd doc)->s₁.heap.CodeRec cd d.name->mg d.name=some (.ref fa) ->
      s₁.heap.get? a=some { cls:=.type "list",data:=.seq vs.toArray }->IntsAre vs ns->ns.length<=n->s₁.gens=#[] ->
      codeAny (model l.prog w) callerA (.call (.ref fa) ⟨[.ref a],[]⟩) (fun r s'=>r=.ok (.ret (.bool true))/\OldK s₁.heap s'.heap/\s'.os=s₁.os/\AllBare s'.gens) s₁) :
    WalkO q loose XP YP l.row.toRowW d [] (fun f vs=>PySem.call f vs):=by
  intro w s₀ s₁ mg mb G Y fa o pm cd doc dV kV ho hd hcd hD hmg hg args vals as hpre hlay hrd hwl hlo;obtain rfl:dV=.none:=Dflts.none hD hdf;obtain rfl:kV=.none:=Dflts.noKw hD;obtain ⟨a,vs,ns,rfl,rfl,hobj,hints,hlen⟩:=nE hn hpre hwl;refine enter_call (codeAny_mono (call w s₀ s₁ mg mb fa o pm cd doc a vs ns G Y ho (fd_plain hd) hcd hmg hobj hints hlen hg) fun r s' hq=>?_);obtain ⟨rfl,h2,h3,h4⟩:=hq;exact ⟨.inl ⟨.bool true,.bool true,[],rfl,fun _=>rfl,.bool true,nz l _,fun _=>⟨List.Pairwise.nil,fun _ hm=>(nomatch hm)⟩⟩,h2,h3,h4⟩
end Att
namespace L2
open PySem PySem.Spec PyProof.Rows
theorem fg:∀ {vs:List Value} {ns:List Int},IntsAre vs ns->aH (ns.map V.int) vs
  | _,_,.nil=>.nil
  | _,_,.cons n t h=>.cons ⟨t,rfl⟩ (fg h)
noncomputable def ub (T:Addr) (H:Hp):Prop:=∀ b,H b=none\/(∃ o xs,H b=some (.frz o (.lst xs)))\/(b=T/\∃ q,H b=some (.tbl q))
theorem oM {P:Program} {w:World} {K:PySem.W.Frag} {mg mb:Str->Option Value} {CX:nM} {k:Nat} {fa a c T:Addr} {q0:Str} {fd:FuncData} {x:Str} {sp:Sp} {s₁:Shared} {vs:List Value} {ns:List Int}
    (KX:K.In s₁.heap) (hns:s₁.heap.Ns mainGlobals mg) (hb:s₁.heap.Ns builtinsNs mb) (hbb:∀ x:Str,x ≠ "__name__" -> mb x=bootBuiltins x) (hlim:s₁.heap.NoLimit)
    (hbm:∃ bm ob,mg "__builtins__" = some (.ref bm)/\bm≠builtinsNs/\s₁.heap.get? bm=some ob/\ob.cls=.type "module" /\ ob.dict=some builtinsNs/\ob.data=.plain) (hg:s₁.gens=#[])
    (ha:s₁.heap.get? a=some { cls:=.type "list",data:=.seq vs.toArray }) (hi:IntsAre vs ns) (hl:ns.length<=sizeLine) (hr:cG k callerA)
    (nt:PySem.W.noTabs K=true) (hC:PySem.W.CodeHd s₁.heap c T) (hT:s₁.heap.get? T=some { cls:=.none,data:=.fields #[] }) (tb:∀ H:Hp,H T=some (.tbl q0)->nQ K H)
    (F:∀ base:Heap,K.In base->base.Ns mainGlobals mg->bA P w K mg base CX k fa fd [x] sp) (hbind:∀ (s:Shared) (u:Value),BindsTo s fd ⟨[u],[]⟩ [(x,u)])
    (hsp:∀ H:Hp,ub T H->iE K H a (ns.map V.int)->sp [.ref a] H (fun v _=>v=.bl true) fun _ _ _=>False)
    (hCX:∀ H e s',CX [] H s₁ (fun _ _ _=>False) e s'->False) :
    codeAny (model P w) callerA (.call (.ref fa) ⟨[.ref a],[]⟩) (fun r s'=>r=.ok (.ret (.bool true))/\OldK s₁.heap s'.heap/\s'.os=s₁.os/\AllBare s'.gens) s₁:=by
  have rv:=fg hi;have lenV:=hi.length;have hTK:K.lookup T=none:=by
    cases q:K.lookup T with
    | none=>rfl
    | some o =>
      have e:=KX T o q;rw [hT] at e;cases e;have h2:=List.all_eq_true.mp nt (T,_) (PySem.W.mem_of_lookupK q);exact absurd (show false=true from h2) Bool.false_ne_true
  have haT:a≠T:=fun z=>by subst z;rw [ha] at hT;cases hT
  have core:∀ H:Hp,ub T H->iE K H a (ns.map V.int)->dt P w H s₁.heap->(∀ b,H b≠none->b=a\/b=T)->(H a≠none->K.lookup a=none)->H T=some (.tbl q0) ->
      codeAny (model P w) callerA (.call (.ref fa) ⟨[.ref a],[]⟩) (fun r s'=>r=.ok (.ret (.bool true))/\OldK s₁.heap s'.heap/\s'.os=s₁.os/\AllBare s'.gens) s₁:=by
    intro H hO hS hok hA hK hHT;have base_of:∀ {b:Addr} {o:Obj},s₁.heap.get? b=some o->H b=none->(iV s₁.heap H).get? b=some o:=fun e n=>oB e n
    have noA':∀ {b:Addr} {o:Obj},s₁.heap.get? b=some o->(∀ its n,o.data≠.seq its n)->(∀ ps,o.data≠.fields ps)->H b=none:=fun {b o} e d1 d2=>by
      cases q:H b with
      | none=>rfl
      | some u =>
        rcases hA b (by rw [q];simp) with e' | e'
        · subst e';rw [ha] at e;cases e;exact absurd rfl (d1 _ _)
        · subst e';rw [hT] at e;cases e;exact absurd rfl (d2 _)
    have nsK:∀ {b:Addr} {m:Str->Option Value},s₁.heap.Ns b m->(iV s₁.heap H).Ns b m:=fun {b m} ⟨o,es,ep,e,d,r⟩=>⟨o,es,ep,base_of e (noA' e (fun its n z=>by rw [d] at z;cases z) fun ps z=>by rw [d] at z;cases z),d,r⟩
    have hKb:K.In (iV s₁.heap H):=fun b o e=>base_of (KX b o e) (by
      cases q:H b with
      | none=>rfl
      | some u =>
        rcases hA b (by rw [q];simp) with e' | e'
        · subst e';rw [hK (by rw [q];simp)] at e;cases e
        · subst e';rw [hTK] at e;cases e)
    have hBM:∃ bm ob,mg "__builtins__" = some (.ref bm)/\bm≠builtinsNs/\(iV s₁.heap H).get? bm=some ob/\ob.cls=.type "module" /\ ob.dict=some builtinsNs/\ob.data=.plain:=by
      obtain ⟨bm,ob,h1,h2,h3,h4,h5,h6⟩:=hbm;exact ⟨bm,ob,h1,h2,base_of h3 (noA' h3 (fun its n z=>by rw [h6] at z;cases z) fun ps z=>by rw [h6] at z;cases z),h4,h5,h6⟩
    have hM:Mod K mg (iV s₁.heap H):=⟨hKb,nsK hns,⟨mb,nsK hb,hbb⟩,let ⟨mc,h1,h2⟩:=hlim;⟨mc,nsK h1,h2⟩,hBM⟩
    have e0:pO P w K mg (iV s₁.heap H) callerA [] s₁ H:=⟨rfl,hM,fun b o e=>qB e,Nat.le_of_eq (na _ _),trivial,fun b hb=>absurd (show b∈([]:List Addr) from hb) (by simp),hok,.of_eq hg,tb H hHT⟩
    refine codeAny_mono ((F _ hKb (nsK hns)).run callerA [] s₁ H ⟨[.ref a],[]⟩ [.ref a] [.ref a] _ _ hr e0 (hbind s₁ (.ref a)) (.cons rfl .nil) (hsp H hO hS)) fun r s' h=>?_
    cases r with
    | error e=>exact (hCX H e s' h).elim
    | ok fl =>
      cases fl with
      | next=>exact False.elim h
      | brk=>exact False.elim h
      | cont=>exact False.elim h
      | ret u =>
        obtain ⟨v,H',os,bare,un,hok',r',q⟩:=h;have q':v=.bl true:=q;subst q';obtain rfl:u=Value.bool true:=r';have hold:∀ b o,s₁.heap.get? b=some o->asItWas s₁.heap s'.heap b o:=fun b o e=>by
          cases q:H b with
          | none=>exact .inl (un.keep b o e q (by intro z;exact absurd (show b∈([]:List Addr) from z) (by simp)) (by simp))
          | some u =>
            rcases hO b with z | ⟨ob,xs,z⟩ | ⟨rfl,qq,z⟩
            · rw [q] at z;cases z
            · have z2:=un.frzs b ob _ z;obtain ⟨e1,_⟩:=hok b _ z;obtain ⟨e2,_⟩:=hok' b _ z2;rw [e] at e1;cases e1;exact .inl e2
            · obtain ⟨ps,e2,_⟩:=hok' b _ (un.tbls b _ z);rw [hT] at e;cases e;exact .inr (.inl ⟨(hC.tab hT).isCodeTable,rfl,#[],ps,rfl,by rw [e2,Array.empty_append]⟩)
        exact ⟨rfl,⟨hold,fun b o e=>un.there b o e (by simp)⟩,os,bare⟩
  have tOk:∀ (H:Hp),H T=some (.tbl q0)->bw P w H s₁.heap T (.tbl q0):=fun H _=>⟨#[],hT,trivial,fun pos cv z=>by cases z⟩
  cases hk:K.lookup a with
  | some o =>
    have e:=KX a o hk;rw [ha] at e;cases e;refine core (fun b=>if b=T then some (.tbl q0) else none) (fun b=>?_) (.inr ⟨_,vs.toArray,_,hk,rfl,rfl,rfl,by rw [List.size_toArray,lenV];exact hl,by simpa using rv⟩) (fun b u z=>?_) (fun b z=>?_) (fun z=>?_) (if_pos rfl)
    · by_cases hb:b=T
      · exact .inr (.inr ⟨hb,_,if_pos hb⟩)
      · exact .inl (if_neg hb)
    · by_cases hb:b=T
      · have z':=(if_pos hb).symm.trans z;cases z';subst hb;exact tOk _ (if_pos rfl)
      · have z':=(if_neg hb).symm.trans z;cases z'
    · by_cases hb:b=T
      · exact .inr hb
      · exact absurd (if_neg hb) z
    · exact absurd (if_neg haT) z
  | none =>
    refine core (fun b=>if b=T then some (.tbl q0) else if b=a then some (.frz { cls:=.type "list",data:=.seq vs.toArray } (.lst (ns.map V.int))) else none) (fun b=>?_) (.inl (.inr ⟨{ cls:=.type "list",data:=.seq vs.toArray },?_⟩)) (fun b u z=>?_) (fun b z=>?_) (fun _=>hk) (if_pos rfl)
    · by_cases hT':b=T
      · exact .inr (.inr ⟨hT',_,if_pos hT'⟩)
      · by_cases hb:b=a
        · exact .inr (.inl ⟨_,_,(if_neg hT').trans (if_pos hb)⟩)
        · exact .inl ((if_neg hT').trans (if_neg hb))
    · exact (if_neg haT).trans (if_pos rfl)
    · by_cases hT':b=T
      · have z':=(if_pos hT').symm.trans z;cases z';subst hT';exact tOk _ (if_pos rfl)
      · by_cases hb:b=a
        · have z':=((if_neg hT').trans (if_pos hb)).symm.trans z;cases z';subst hb;exact ⟨ha,by rw [List.length_map];exact hl,vs,_,rv,ha⟩
        · have z':=((if_neg hT').trans (if_neg hb)).symm.trans z;cases z'
    · by_cases hT':b=T
      · exact .inr hT'
      · by_cases hb:b=a
        · exact .inl hb
        · exact absurd ((if_neg hT').trans (if_neg hb)) z
noncomputable def cg (s:Stmt):Arguments:=match s with
  | .FunctionDef _ a _ _ _ _ _ _ _ _=>a
  | _=>{ posonlyargs:=[],args:=[],vararg:=none,kwonlyargs:=[],kw_defaults:=[],kwarg:=none,defaults:=[] }
noncomputable def br (s:Stmt):List Stmt:=match s with
  | .FunctionDef _ _ b _ _ _ _ _ _ _=>b
  | _=>[]
noncomputable def ah (s:Stmt):Scope:=match s with
  | .FunctionDef _ _ _ _ _ _ sc _ _ _=>sc
  | _=>{ kind:=.function,names:=[],isGenerator:=false,isCoroutine:=false }
noncomputable abbrev w6:nM:=fun _ _ _ _ _ _=>False
structure gy (K:PySem.W.Frag) (x qual:Str) (st:Stmt) (f:Addr) (fd:FuncData):Prop where
  ex:∃ (oc:Value) (od:Option Addr) (kV doc pm:Value) (an:Option Addr) (cdv ct:Value) (osl:Array (Option Value)),
    fd=PySem.W.fnOf x qual (cg st) (br st) (ah st) .none kV doc pm an cdv ct/\K.lookup f=some ⟨oc,od,.func fd,osl⟩/\PySem.W.codeIn K cdv qual=true
  kp:PySem.W.keepIn K (.ref f)=true
section
variable {P:Program} {w:World} {K:PySem.W.Frag} {mg:Str->Option Value} {base:Heap}
theorem gy.ok {x qual:Str} {st:Stmt} {f:Addr} {fd:FuncData} {N ps:List Str} {k:Nat} {sp:Sp} (F:gy K x qual st f fd) (S:aY N ps (ah st)) (len:∀ vs H Q E,sp vs H Q E->vs.length=ps.length)
    (hbody:∀ (cdv:Value) (A:Around) (outer:List Env) (s:Shared) (H:Hp) (vs:List V) (Q:VK) (E:XK),cG k (A.deeper (envOfC qual (ah st) s.heap.objs.size f cdv))->sp vs H Q E ->
      ∃ t,ju (cp w6 P w K mg base N qual (ah st) f cdv A outer s H E).nox (br st) t/\t { nx:=fun _ H'=>Q .non H',rt:=Q } (dW N vs) H):bA P w K mg base w6 (k+1) f fd ps sp:=by
  obtain ⟨oc,od,kV,doc,pm,an,cdv,ct,osl,rfl,lk,hcd⟩:=F.ex;refine oy lk hcd S len fun A outer s H vs Q E hr hsp=>?_
  obtain ⟨t,h,q⟩:=hbody cdv A outer s H vs Q E hr hsp;exact ⟨t,h.nox,q⟩
theorem gy.binds {x qual:Str} {st:Stmt} {f:Addr} {fd:FuncData} {ps:List Str} (F:gy K x qual st f fd)
    (h:∀ (kV doc pm:Value) (an:Option Addr) (cdv ct:Value) (us:List Value),us.length=ps.length->bindArgs (PySem.W.fnOf x qual (cg st) (br st) (ah st) .none kV doc pm an cdv ct) ⟨us,[]⟩=pure (ps.zip us)):bY K fd ps []:=by
  obtain ⟨oc,od,kV,doc,pm,an,cdv,ct,osl,rfl,lk,hcd⟩:=F.ex;exact .all (h kV doc pm an cdv ct)
theorem oz {x qual:Str} {st:Stmt} {f:Addr} {oc:Value} {od an:Option Addr} {osl:Array (Option Value)} {kV doc pm cdv ct:Value} (l:K.lookup f=some ⟨oc,od,.func (PySem.W.fnOf x qual (cg st) (br st) (ah st) .none kV doc pm an cdv ct),osl⟩)
    (c:PySem.W.codeIn K cdv qual=true) (k:PySem.W.keepIn K (.ref f)=true):gy K x qual st f (PySem.W.fnOf x qual (cg st) (br st) (ah st) .none kV doc pm an cdv ct):=⟨⟨oc,od,kV,doc,pm,an,cdv,ct,osl,rfl,l,c⟩,k⟩
end
section
variable {X:Cx}
theorem pv (i:Nat) {x:Str} {pos:Pos} (hN:X.N[i]?=some x:=by rfl) (hv:tV X.env.scope x:=by first | exact Or.inl rfl | exact Or.inr (Or.inl rfl) | exact Or.inr (Or.inr rfl)) (hd:(x==("__debug__" : Str))=false:=by decide)
    (hcd:(x==("__classdict__" : Str))=false:=by decide):PE X (.Name x pos) (vB i):=iq hN hv hd hcd
end
noncomputable def al (H H':Hp):Prop:=∀ b o,H b=some o->H' b=some o
theorem al.refl (H:Hp):al H H:=fun _ _ h=>h
theorem al.trans {H H1 H2:Hp} (a:al H H1) (b:al H1 H2):al H H2:=fun c o h=>b c o (a c o h)
theorem al.free {H H':Hp} (e:al H H') {l:Addr} (h:H' l=Option.none):H l=Option.none:=by
  cases q:H l with
  | none=>rfl
  | some o =>
    rw [e l o q] at h;cases h
section
variable {κ:Type} [DecidableEq κ]
noncomputable def fq (kvs:List (κ×V)) (k:κ):Option V:=(kvs.find? fun kv=>decide (kv.1=k)).map (·.2)
noncomputable def fT (kvs:List (κ×V)) (k:κ) (v:V):List (κ×V) :=
  if (kvs.any fun kv=>decide (kv.1=k))=true then kvs.map (fun kv=>if kv.1=k then (kv.1,v) else kv) else kvs++[(k,v)]
theorem iD {p:κ×V} {r:List (κ×V)} {k:κ} (e:p.1=k):fq (p::r) k=some p.2:=by simp [fq,List.find?_cons,e]
theorem iC {p:κ×V} {r:List (κ×V)} {k:κ} (e:¬ p.1=k):fq (p::r) k=fq r k:=by simp [fq,List.find?_cons,e]
theorem kZ (k:κ):∀ kvs:List (κ×V),(kvs.any fun kv=>decide (kv.1=k))=(fq kvs k).isSome
  | []=>rfl
  | p::r=>by
    rw [List.any_cons];by_cases e:p.1=k
    · simp only [iD e,decide_eq_true e,Bool.true_or,Option.isSome_some]
    · rw [iC e,decide_eq_false e,Bool.false_or];exact kZ k r
theorem gC (kvs:List (κ×V)) (k:κ) (v:V):(fT kvs k v).length<=kvs.length+1:=by
  unfold fT;split
  · rw [List.length_map];omega
  · rw [List.length_append,List.length_cons,List.length_nil];omega
theorem iK.isSome_eq {o:Option V} {u:Option Value} (r:iK o u):o.isSome=u.isSome:=by
  cases o with
  | none=>cases u with
    | none=>rfl
    | some _=>exact (show False from r).elim
  | some _=>cases u with
    | none=>exact (show False from r).elim
    | some _=>rfl
theorem KV.val {kvs:List (κ×V)} {vs:List (κ×Value)} (r:KV kvs vs) (k:κ):iK (fq kvs k) (valueAt vs k):=by
  unfold KV at r;induction r with
  | nil=>exact True.intro
  | @cons p q ps qs h t ih =>
    obtain ⟨h1,h2⟩:=h;by_cases e:p.1=k
    · have e':q.1=k:=h1.symm.trans e;have b:valueAt (q::qs) k=some q.2:=by simp [valueAt,List.find?_cons,e']
      rw [iD e,b];exact h2
    · have e':¬ q.1=k:=fun z=>e (h1.trans z)
      have b:valueAt (q::qs) k=valueAt qs k:=by simp [valueAt,List.find?_cons,e']
      rw [iC e,b];exact ih
theorem KV.any {kvs:List (κ×V)} {vs:List (κ×Value)} (r:KV kvs vs) (k:κ):(kvs.any fun kv=>decide (kv.1=k))=vs.any fun kv=>decide (kv.1=k):=by
  unfold KV at r;induction r with
  | nil=>rfl
  | cons h t ih=>rw [List.any_cons,List.any_cons,ih,h.1]
theorem KV.repl {kvs:List (κ×V)} {vs:List (κ×Value)} (r:KV kvs vs) (k:κ) {y:V} {u:Value} (ry:be y u) :
    KV (kvs.map fun kv=>if kv.1=k then (kv.1,y) else kv) (vs.map fun kv=>if kv.1=k then (kv.1,u) else kv):=by
  unfold KV at r ⊢;induction r with
  | nil=>exact .nil
  | @cons p q ps qs h t ih =>
    rw [List.map_cons,List.map_cons];refine .cons ?_ ih;obtain ⟨h1,h2⟩:=h;by_cases e:p.1=k
    · rw [if_pos e,if_pos (h1.symm.trans e)];exact ⟨h1,ry⟩
    · rw [if_neg e,if_neg (fun z=>e (h1.trans z))];exact ⟨h1,h2⟩
theorem KV.put {kvs:List (κ×V)} {vs:List (κ×Value)} (r:KV kvs vs) (k:κ) {y:V} {u:Value} (ry:be y u):KV (fT kvs k y) (stored vs k u):=by
  unfold fT stored;rw [r.any k];by_cases e:(vs.any fun kv=>decide (kv.1=k))=true
  · rw [if_pos e,if_pos e];exact r.repl k ry
  · rw [if_neg e,if_neg e];exact Paired.snoc r ⟨rfl,ry⟩
theorem KV.keys {kvs:List (κ×V)} {vs:List (κ×Value)} (r:KV kvs vs):kvs.map (·.1)=vs.map (·.1):=by
  unfold KV at r;induction r with
  | nil=>rfl
  | cons h t ih=>rw [List.map_cons,List.map_cons,ih,h.1]
theorem KV.length {kvs:List (κ×V)} {vs:List (κ×Value)} (r:KV kvs vs):kvs.length=vs.length:=Paired.length r
end
theorem oH {P:Program} {w:World} {k:bI} {u:Value} (r:be (kV k) u):(bL P w).is k u=true:=by
  cases k with
  | inl i=>obtain ⟨t,e⟩:=(show ∃ t,u=Value.int i t from r);subst e;exact kE P w i t
  | inr x=>obtain ⟨t,e⟩:=(show ∃ t,u=Value.str x t from r);subst e;exact kF P w x t
theorem je {P:Program} {w:World}:∀ {ks:List bI} {us:List Value},aH (ks.map kV) us->ItemsAre (bL P w) ks us
  | [],_,r=>by rw [List.map_nil] at r;cases r;exact .nil
  | k::ks,_,r=>by
    rw [List.map_cons] at r;cases r with
    | cons h t=>exact .cons (oH h) (je t)
noncomputable abbrev KT (H:Hp):List (List bI×V)->List (List bI×Addr×Value)->Prop:=Paired fun p q=>p.1=q.1/\H q.2.1=some (.tup (p.1.map kV))/\be p.2 q.2.2
theorem KT.val {H:Hp} {kvs:List (List bI×V)} {xs:List (List bI×Addr×Value)} (r:KT H kvs xs) (k:List bI):iK (fq kvs k) ((atKey xs k).map (·.2)):=by
  induction r with
  | nil=>exact True.intro
  | @cons p q ps qs h t ih =>
    obtain ⟨h1,_,h2⟩:=h;by_cases e:p.1=k
    · have e':q.1=k:=h1.symm.trans e;have b:atKey (q::qs) k=some q.2:=by simp [atKey,List.find?_cons,e']
      rw [iD e,b];exact h2
    · have e':¬ q.1=k:=fun z=>e (h1.trans z)
      have b:atKey (q::qs) k=atKey qs k:=by simp [atKey,List.find?_cons,e']
      rw [iC e,b];exact ih
theorem KT.repl {H:Hp} {kvs:List (List bI×V)} {xs:List (List bI×Addr×Value)} (r:KT H kvs xs) (k:List bI) {y:V} {u:Value} (ry:be y u) :
    KT H (kvs.map fun kv=>if kv.1=k then (kv.1,y) else kv) (xs.map (putAt k u)):=by
  induction r with
  | nil=>exact .nil
  | @cons p q ps qs h t ih =>
    rw [List.map_cons,List.map_cons];refine .cons ?_ ih;obtain ⟨h1,h2,h3⟩:=h;unfold putAt;by_cases e:p.1=k
    · rw [if_pos e,if_pos (h1.symm.trans e)];exact ⟨h1,h2,ry⟩
    · rw [if_neg e,if_neg (fun z=>e (h1.trans z))];exact ⟨h1,h2,h3⟩
theorem KT.put {H:Hp} {kvs:List (List bI×V)} {xs:List (List bI×Addr×Value)} (r:KT H kvs xs) (k:List bI) {b:Addr} {y:V} {u:Value} (hb:H b=some (.tup (k.map kV))) (ry:be y u) :
    KT H (fT kvs k y) (storedH xs k b u):=by
  have e:(kvs.any fun kv=>decide (kv.1=k))=(atKey xs k).isSome:=by
    rw [kZ,(r.val k).isSome_eq,Option.isSome_map]
  unfold fT storedH;rw [e];by_cases q:(atKey xs k).isSome=true
  · rw [if_pos q,if_pos q];exact r.repl k ry
  · rw [if_neg q,if_neg q];exact Paired.snoc r ⟨rfl,hb,ry⟩
theorem KT.keeps {H H':Hp} {kvs:List (List bI×V)} {xs:List (List bI×Addr×Value)} (r:KT H kvs xs) (ht:∀ b ys,H b=some (.tup ys)->H' b=some (.tup ys)):KT H' kvs xs :=
  Paired.mapP r fun _ _ z=>⟨z.1,ht _ _ z.2.1,z.2.2⟩
section
variable {P:Program} {w:World} {H:Hp} {h:Heap} {a:Addr}
theorem rS {u:HO} (ok:dt P w H h) (e:Rd H a u):bw P w H h a u:=e.ok ok
theorem ky {kvs:List (bI×V)} (ok:dt P w H h) (e:Rd H a (.dK kvs)):kvs.length<=sizeLine/\(a==sysModules)=false/\∃ vs,KV kvs vs/\h.DictOf (bL P w) a vs :=
  show bw P w H h a (.dK kvs) from rS ok e
theorem uo {kvs:List (bI×V)} (ok:dt P w H h) (e:H a=some (.dK kvs)):kvs.length<=sizeLine/\(a==sysModules)=false/\∃ vs,KV kvs vs/\h.DictOf (bL P w) a vs:=ky ok (.inl e)
theorem lz {ks:List bI} (ok:dt P w H h) (e:H a=some (.tup (ks.map kV))):(tupleKind (bL P w)).is h ks a:=by
  obtain ⟨_,its,r,o,h1,h2,⟨n,h3⟩,_⟩:=(show bw P w H h a (.tup (ks.map kV)) from ok a _ e)
  exact ⟨o,its.toArray,n,h1,h2,h3,by simpa using je r⟩
theorem ou {kvs:List (List bI×V)} (ok:dt P w H h) (e:Rd H a (.dT kvs)):kvs.length<=sizeLine/\(a==sysModules)=false /\
    ∃ xs,KT H kvs xs/\h.DictOfH (tupleKind (bL P w)) a xs:=by
  obtain ⟨z,y,xs,r,o,es,ep,h1,h2,h3,h4,h5⟩:=(show bw P w H h a (.dT kvs) from rS ok e)
  refine ⟨z,y,xs,r,o,es,ep,h1,h2,h3,h4,fun x hx=>?_,h5⟩;have all:∀ {l:List (List bI×V)} {m:List (List bI×Addr×Value)},KT H l m->∀ x∈m,(tupleKind (bL P w)).is h x.1 x.2.1:=by
    intro l m q;induction q with
    | nil=>intro x hx;exact nomatch hx
    | @cons p q ps qs hq t ih =>
      intro x hx;rcases List.mem_cons.mp hx with e | hx
      · subst e;exact lz ok (by rw [<- hq.1];exact hq.2.1)
      · exact ih x hx
  exact all r x hx
theorem ur {kvs:List (List bI×V)} (ok:dt P w H h) (e:H a=some (.dT kvs)):kvs.length<=sizeLine/\(a==sysModules)=false /\
    ∃ xs,KT H kvs xs/\h.DictOfH (tupleKind (bL P w)) a xs:=ou ok (.inl e)
end
noncomputable def jX (H:Hp) (a:Addr) (y:V) (r:Option V):Prop :=
  (∃ kvs k,Rd H a (.dK kvs)/\y=kV k/\r=fq kvs k)\/∃ kvs k b,Rd H a (.dT kvs)/\y=.ref b/\H b=some (.tup (k.map kV))/\r=fq kvs k
noncomputable def lb (H:Hp) (a:Addr) (y v:V) (H':Hp):Prop :=
  (∃ kvs k,H a=some (.dK kvs)/\y=kV k/\kvs.length < sizeLine/\H'=ca H a (.dK (fT kvs k v))) \/
  ∃ kvs k b,H a=some (.dT kvs)/\y=.ref b/\H b=some (.tup (k.map kV))/\kvs.length < sizeLine/\H'=ca H a (.dT (fT kvs k v))
theorem jX.k {H:Hp} {a:Addr} {kvs:List (bI×V)} {k:bI} (e:H a=some (.dK kvs)):jX H a (kV k) (fq kvs k):=.inl ⟨kvs,k,.inl e,rfl,rfl⟩
theorem jX.t {H:Hp} {a b:Addr} {kvs:List (List bI×V)} {k:List bI} (e:H a=some (.dT kvs)) (eb:H b=some (.tup (k.map kV))):jX H a (.ref b) (fq kvs k):=.inr ⟨kvs,k,b,.inl e,rfl,eb,rfl⟩
theorem lb.k {H:Hp} {a:Addr} {kvs:List (bI×V)} {k:bI} {v:V} (e:H a=some (.dK kvs)) (hl:kvs.length < sizeLine):lb H a (kV k) v (ca H a (.dK (fT kvs k v))):=.inl ⟨kvs,k,e,rfl,hl,rfl⟩
theorem lb.t {H:Hp} {a b:Addr} {kvs:List (List bI×V)} {k:List bI} {v:V} (e:H a=some (.dT kvs)) (eb:H b=some (.tup (k.map kV))) (hl:kvs.length < sizeLine) :
    lb H a (.ref b) v (ca H a (.dT (fT kvs k v))):=.inr ⟨kvs,k,b,e,rfl,eb,hl,rfl⟩
section
variable {X:Cx} {pins:List (Addr×Obj)} {σ:St} {H:Hp} {s:Shared} {a:Addr} {y v:V} {u r:Value} {o:Option V} {A:Around} {E:Value->Shared->Prop}
theorem aq.big (I:aq X pins σ H s):sysModules < s.heap.objs.size:=by
  have h:mainGlobals < s.heap.objs.size:=(I.mod.glob.keeps I.bk).lt;exact Nat.lt_trans (by decide) h
theorem mW {Q:Value->Shared->Prop} (hu:A.units+1 < cLine) (I:aq X pins σ H s) (g:jX H a y (some v)) (ry:be y u) (h:∀ w' s',aq X pins σ H s'->be v w'->Q w' s') :
    wpAny (model X.prog X.w) A (getItem (.ref a) u) Q E s:=by
  rcases g with ⟨kvs,k,e,ey,l⟩ | ⟨kvs,k,b,e,ey,eb,l⟩
  · subst ey;obtain ⟨z,hd,vs,rel,dd⟩:=ky I.hok e;obtain ⟨w',hw,rw'⟩:=iK.some_of (v:=v) (o:=valueAt vs k) (by rw [l];exact rel.val k);exact wpAny_getItem_of (oH ry) dd.mapOf hw (h w' _ (I.tok _) rw')
  · subst ey;cases (show u=Value.ref b from ry);obtain ⟨z,hd,xs,rel,dd⟩:=ou I.hok e;obtain ⟨w',hw,rw'⟩:=iK.some_of (v:=v) (o:=(atKey xs k).map (·.2)) (by rw [l];exact rel.val k);obtain ⟨p,hp,hp2⟩:=Option.map_eq_some_iff.mp hw;refine wpAny_getItem_heap (tupleKind_room_in1 hu) (lz I.hok eb) dd hp ?_;rw [hp2];exact h w' _ (I.tok _) rw'
theorem md {h':Heap} {t':Nat} {ob:HO} (I:aq X pins σ H s) (mu:ua (H a)) (hs:Heap.SameBut a s.heap h') (he:∃ q,h'.get? a=some q) (new:bw X.prog X.w (ca H a ob) h' a ob) :
    aq X pins σ (ca H a ob) { s with heap:=h',toks:=t' } :=
  I.write (x:=a) (e:=a) mu (.inl rfl) (fun b q hb z=>(hs.2 b hb).trans z) he new
theorem sr {P:Program} {w:World} {H':Hp} {h':Heap} {kvs:List (bI×V)} {vs:List (bI×Value)} (z:kvs.length<=sizeLine) (hd:(a==sysModules)=false) (rel:KV kvs vs) (dd:h'.DictOf (bL P w) a vs) :
    bw P w H' h' a (.dK kvs):=⟨z,hd,vs,rel,dd⟩
theorem mX {H':Hp} {Q:Unit->Shared->Prop} (hu:A.units+1 < cLine) (I:aq X pins σ H s) (g:lb H a y v H') (ry:be y u) (rv:be v r) (h:∀ s',aq X pins σ H' s'->Q () s') :
    wpAny (model X.prog X.w) A (setItem (.ref a) u r) Q E s:=by
  rcases g with ⟨kvs,k,e,ey,l,eH⟩ | ⟨kvs,k,b,e,ey,eb,l,eH⟩
  · subst ey eH;obtain ⟨z,hd,vs,rel,dd⟩:=uo I.hok e;have hz:vs.length<=sizeLine:=by rw [<- rel.length];exact z
    have hl:(fT kvs k v).length<=sizeLine:=by have:=gC kvs k v;omega
    refine wpAny_setItem_pairs (hsz:=hz) (oH ry) dd fun h' dd' hs=>h _ ?_
    have he:∃ q,h'.get? a=some q:=let ⟨q,_,_,hq,_⟩:=dd';⟨q,hq⟩
    exact md I (by rw [e];exact True.intro) hs he (sr hl hd (rel.put k rv) dd')
  · subst ey eH;cases (show u=Value.ref b from ry);obtain ⟨z,hd,xs,rel,dd⟩:=ur I.hok e;have hz:xs.length<=sizeLine:=by rw [<- Paired.length rel];exact z
    have hl:(fT kvs k v).length<=sizeLine:=by have:=gC kvs k v;omega
    refine wpAny_setItem_heap (hsz:=hz) (tupleKind_room_in1 hu) (lz I.hok eb) dd fun h' dd' hs=>h _ ?_
    obtain ⟨q,es,ep,hq,h2,h3,h4,_,h5⟩:=dd';refine md I (by rw [e];exact True.intro) hs ⟨q,hq⟩ ⟨hl,hd,_,(rel.put k eb rv).keeps fun c ys ec=>?_,q,es,ep,hq,h2,h3,h4,h5⟩;rw [am (uO ec e (fun z=>nomatch z))];exact ec
end
section
variable {X:Cx} {pins:List (Addr×Obj)} {σ:St} {H:Hp} {s:Shared} {a:Addr} {kvs:List (bI×V)} {k:bI} {u:Value} {A:Around} {E:Value->Shared->Prop}
theorem um {Q:Value->Shared->Prop} (I:aq X pins σ H s) (e:Rd H a (.dK kvs)) (h:∀ t s',aq X pins σ H s'->Q (.int kvs.length t) s'):wpAny (model X.prog X.w) A (call (.builtin "len") [.ref a]) Q E s:=by
  obtain ⟨z,hd,vs,rel,dd⟩:=ky I.hok e;refine call_len_dict hd dd (by rw [<- rel.length];rw [sizeLine_eq] at z;omega) ?_;rw [<- rel.length];exact h _ _ (I.tok _)
end
theorem kx {X:Cx} {pins:List (Addr×Obj)} {σ:St} {H:Hp} {s:Shared} {a:Addr} {y:V} {o:Option V} (I:aq X pins σ H s) (g:jX H a y o):s.TypeIs (.ref a) "dict" := by
  rcases g with ⟨kvs,k,e,_,_⟩ | ⟨kvs,k,b,e,_,_,_⟩
  · obtain ⟨_,_,vs,_,dd⟩:=ky I.hok e;exact dd.typeIs
  · obtain ⟨_,_,xs,_,dd⟩:=ou I.hok e;exact dd.typeIs
noncomputable def vb (td ty tv:TE):TS:=fun D σ H=>tv σ H fun v H1=>td σ H1 fun x H2=>ty σ H2 fun y H3=>∃ a H4,x=.ref a/\lb H3 a y v H4/\D.nx σ H4
section
variable {X:Cx} {o i e value:Expr} {pos pos' tpos:Pos} {td ty tv:TE}
theorem qQ (hu:X.A.units+1 < cLine) (ho:PE X o td) (hi:PE X i ty) (hv:PE X value tv) (hs:swapsWith value (some (.Subscript o i pos')) pos.line X.env=pure false) :
    PS X (.Assign [.Subscript o i pos'] value pos) (vb td ty tv):=by
  intro pins s σ H D I h;refine wpAny_Assign_Subscript (cq (hv pins s σ H _ I h) fun r s1 ⟨v,H1,I1,rv,q1⟩=>cq (ho pins s1 σ H1 _ I1 q1) fun u s2 ⟨x,H2,I2,rx,q2⟩=>cq (hi pins s2 σ H2 _ I2 q2) fun iv s3 zq0=>?_) hs;obtain ⟨y,H3,I3,ry,a,H4,ex,g,q3⟩:=zq0;subst ex;obtain rfl:u=Value.ref a:=rx;exact mX hu I3 g ry rv fun s4 I4=>⟨σ,H4,I4,q3⟩
end
theorem ot {P:Program} {w:World} {H:Hp} (h:Heap) (hb:sysModules < h.objs.size):bw P w H (h.push { cls:=.type "dict",data:=.dict #[] }) h.objs.size (.dK []) :=
  ⟨Nat.zero_le _,beq_eq_false_iff_ne.mpr (Ne.symm (Nat.ne_of_lt hb)),[],.nil,Heap.DictOf.new h⟩
noncomputable def tH:TE:=fun _ H Q=>∀ p,H p=none->Q (.ref p) (ca H p (.dK []))
section
variable {X:Cx} {pos:Pos}
theorem o4:PE X (.Dict [] [] pos) tH:=fun pins s σ H Q I h =>
  wpAny_Dict_empty ⟨.ref s.heap.objs.size,_,I.laid (a:=s.heap.objs.size) (o:=.dK []) (t':=s.toks) (fun _ _ q=>Heap.get?_push_of_some _ q) (Nat.le_refl _) (ot s.heap I.big),rfl,h _ (I.hok.fresh (Nat.le_refl _))⟩
end
end L2
set_option maxHeartbeats 4000000
set_option genInjectivity true
namespace D2
open PySem PySem.Spec PyProof.Rows L2
noncomputable def ke (base:Heap) (l:List Env) (e:Addr) (cls a0:Value) (h:Heap):Prop:=base.StaysIn h/\base.get? e=none/\h.FunFrames base l/\∃ fl,h.TracedAtW base e cls a0 fl
theorem ke.of {base h:Heap} {l:List Env} {e:Addr} {cls a0:Value} (x:Heap.FlyingW base l e cls a0 h):ke base l e cls a0 h:=⟨x.1,x.2.1,x.2.2.1,.none,x.2.2.2⟩
section
variable {M:Model} {A:Around} {E:Value->Shared->Prop} {s:Shared} {base:Heap} {l:List Env} {env:Env} {outer:List Env} {L e:Addr} {cls a0:Value} {Q:Unit->Shared->Prop}
theorem rq {h:Heap}:h.UpToSlots h:=fun b o hb _=>⟨o.slots,hb⟩
theorem kX (hfr:A.frames=some (env::outer)) (hf:env.frame=some L) (t:ke base (env::outer) e cls a0 s.heap)
    (hQ:∀ h',ke base (env::outer) e cls a0 h'->s.heap.UpToSlots h'->Q () { s with heap:=h' }):wpAny M A (noteFrame (.ref e) env) Q E s:=by
  have t':=t;obtain ⟨hkb,hen,hl,fl,oe,vs,T,oT,ts,he,⟨hcls,h0⟩,hd,h1,hnT,hTe,hT,hdT,h3⟩:=t;subst hcls;unfold noteFrame;simp only [hf];refine wpAny_bind (wpAny_field he hd h1 ?_);rw [if_pos (show (Value.ref T != Value.none)=true from by simp)];refine wpAny_bind (wpAny_field hT hdT h3 ?_);by_cases hfl:(fl==rawInt L)=true
  · rw [if_pos hfl];exact wpAny_pure (hQ s.heap t' rq)
  · rw [if_neg hfl];refine wpAny_bind (wpAny_setField hT hdT (Array.getElem?_eq_some_iff.mp h3).1 ?_);have other:∀ b,b≠T->(s.heap.update T (Obj.mapFields (·.setIfInBounds 3 Value.none))).get? b=s.heap.get? b:=fun b hb=>Heap.get?_update_other _ _ (Ne.symm hb)
    have noRecord:∀ b o,s.heap.get? b=some o->(∀ vs,o.data≠.fields vs)->b≠T:=fun b o hb hnf q=>by
      rw [q,hT] at hb;injection hb with hb;subst hb;exact hnf ts hdT
    refine wpAny_entryW hfr (hl.of_keeps fun b o hb hnf=>⟨o,(other b (noRecord b o hb hnf)).trans hb,rfl⟩) hf ((other e (Ne.symm hTe)).trans he)
      (fun b o hbo=>(other b fun q=>by rw [q,hnT] at hbo;cases hbo).trans (hkb b o hbo)) hen hd (Array.getElem?_eq_some_iff.mp h1).1 h0
      fun h' ⟨x1,x2,x3,x4⟩=>hQ h' ⟨x1,hen,x2,_,x3⟩ fun b o hb hnf=>x4 b o ((other b (noRecord b o hb hnf)).trans hb) hnf
theorem lM (f:Option Addr) (t:ke base l e cls a0 s.heap) (hQ:∀ h',ke base l e cls a0 h'->s.heap.UpToSlots h'->Q () { s with heap:=h' }):wpAny M A (setFlight (.ref e) f) Q E s:=by
  obtain ⟨hkb,hen,hl,fl,oe,vs,T,oT,ts,he,hcls,hd,h1,hnT,hTe,hT,hdT,h3⟩:=t;have hsz3:3 < ts.size:=(Array.getElem?_eq_some_iff.mp h3).1;have other:∀ b,b≠T->(s.heap.update T (Obj.mapFields (·.setIfInBounds 3 (f.elim Value.none fun f=>rawInt f)))).get? b=s.heap.get? b :=
    fun b hb=>Heap.get?_update_other _ _ (Ne.symm hb)
  have noRecord:∀ b o,s.heap.get? b=some o->(∀ vs,o.data≠.fields vs)->b≠T:=fun b o hb hnf q=>by
    rw [q,hT] at hb;injection hb with hb;subst hb;exact hnf ts hdT
  unfold setFlight;refine wpAny_bind (wpAny_field he hd h1 ?_);rw [if_pos (show (Value.ref T != Value.none)=true from by simp)];refine wpAny_setField hT hdT hsz3 (hQ _ ⟨fun b o hbo=>(other b fun q=>by rw [q,hnT] at hbo;cases hbo).trans (hkb b o hbo),hen,
    hl.of_keeps fun b o hb hnf=>⟨o,(other b (noRecord b o hb hnf)).trans hb,rfl⟩,(f.elim Value.none fun f=>rawInt f),?_⟩ fun b o hb hnf=>⟨o.slots,(other b (noRecord b o hb hnf)).trans hb⟩)
  exact ⟨oe,vs,T,_,_,(other e (Ne.symm hTe)).trans he,hcls,hd,h1,hnT,hTe,Heap.get?_update_self _ hT (Obj.isFreed_of_fields (Obj.data_mapFields hdT _)),Obj.data_mapFields hdT _,by simp [hsz3]⟩
theorem pD (t:ke base l e cls a0 s.heap) (hQ:∀ h',Heap.FlyingW base l e cls a0 h'->s.heap.UpToSlots h'->Q () { s with heap:=h' }):wpAny M A (setFlight (.ref e) none) Q E s:=by
  obtain ⟨hkb,hen,hl,fl,ht⟩:=t;exact wpAny_setFlight_noneW hkb hl ht fun h' k1 k2 k3 k4=>hQ h' ⟨k1,hen,k2,k3⟩ fun b o hb hn=>⟨o.slots,k4 b o hb hn⟩
theorem nI (hfr:A.frames=some (env::outer)) (hf:env.frame=some L) (t:ke base (env::outer) e cls a0 s.heap)
    (hQ:∀ h',Heap.FlyingW base outer e cls a0 h'->s.heap.UpToSlots h'->Q () { s with heap:=h' }):wpAny M A (leaving env (.ref e)) Q E s:=by
  unfold leaving;refine wpAny_bind (kX hfr hf t fun h1 t1 u1=>?_);refine pD (s:={ s with heap:=h1 }) t1 fun h2 t2 u2=>?_
  obtain ⟨k1,k2,⟨_,_,k3⟩,k4⟩:=t2;exact hQ h2 ⟨k1,k2,k3,k4⟩ (u1.trans u2)
theorem pC {α:Type} {k:Value->Sem α} {Q:α->Shared->Prop} (t:ke base l e cls a0 s.heap) (hQ:∀ T,wpAny M A (k (.ref T)) Q E s):wpAny M A (field (.ref e) 1>>=k) Q E s:=by
  obtain ⟨hkb,hen,hl,fl,oe,vs,T,oT,ts,he,hcls,hd,h1,r⟩:=t;exact wpAny_bind (wpAny_field he hd h1 (hQ T))
theorem pE {α:Type} {what:String} {Q:α->Shared->Prop} (t:ke base l e cls a0 s.heap) (hQ:∀ h',ke base l e cls a0 h'->s.heap.UpToSlots h'->E (.ref e) { s with heap:=h' }):wpAny M A (PySem.passOn what (.ref e) env:Sem α) Q E s:=by
  unfold PySem.passOn;refine pC t fun T=>?_
  rw [if_neg (show ¬ ((Value.ref T==Value.none)=true) from by simp)];refine wpAny_bind (lM _ t fun h' t' u=>?_);exact wpAny_throw (hQ h' t' u)
theorem ke.first {h:Heap} (x:ke base l e cls a0 h):∃ oe vs,h.get? e=some oe/\oe.cls=cls/\oe.data=.fields vs/\vs[0]?=some a0 :=
  let ⟨_,_,_,_,oe,vs,_,_,_,he,hc,hd,_⟩:=x;⟨oe,vs,he,hc.1,hd,hc.2⟩
end
noncomputable abbrev St:=L2.St
noncomputable abbrev aq:=@L2.aq
noncomputable def cR:bI->PyData
  | .inl i=>.int i
  | .inr x=>.str x
mutual
noncomputable def Rp (H:Hp):PyData->V->Prop
  | .none,v=>v=.non
  | .bool b,v=>v=.bl b
  | .int i,v=>v=.int i
  | .str x,v=>v=.str x
  | .tuple ds,v=>∃ a vs,v=.ref a/\H a=some (.tup vs)/\aM H ds vs
  | .list ds,v=>∃ a o vs,v=.ref a/\H a=some (.frz o (.lst vs))/\aM H ds vs
  | .dict kvs,v=>(∃ a o ks,v=.ref a/\H a=some (.frz o (.dK ks))/\ce H kvs ks)\/∃ a o C dx fs,v=.ref a/\H a=some (.frz o (.ins C dx fs))/\pI H C fs kvs
noncomputable def aM (H:Hp):List PyData->List V->Prop
  | [],vs=>vs=[]
  | d::ds,vs=>∃ v r,vs=v::r/\Rp H d v/\aM H ds r
noncomputable def ce (H:Hp):List (PyData×PyData)->List (bI×V)->Prop
  | [],ks=>ks=[]
  | kd::kvs,ks=>∃ x v r,ks=(x,v)::r/\pS H kd x v/\ce H kvs r
noncomputable def pS (H:Hp):PyData×PyData->bI->V->Prop
  | (k,d),x,v=>k=cR x/\Rp H d v
noncomputable def pI (H:Hp) (C:Addr) (fs:List (Str×V)):List (PyData×PyData)->Prop
  | []=>False
  | kd::kvs=>kd=(.none,.int C)/\pR H kvs fs
noncomputable def pR (H:Hp):List (PyData×PyData)->List (Str×V)->Prop
  | [],fs=>fs=[]
  | kd::kvs,fs=>∃ x v r,fs=(x,v)::r/\tU H kd x v/\pR H kvs r
noncomputable def tU (H:Hp):PyData×PyData->Str->V->Prop
  | (k,d),x,v=>k=.str x/\Rp H d v
end
noncomputable def il:List (PyData×PyData)->Bool
  | (.none,_)::_=>true
  | _=>false
noncomputable def Kp (H H':Hp):Prop:=(∀ b xs,H b=some (.tup xs)->H' b=some (.tup xs))/\∀ b o u,H b=some (.frz o u)->H' b=some (.frz o u)
theorem Kp.trans {H H1 H2:Hp} (a:Kp H H1) (b:Kp H1 H2):Kp H H2:=⟨fun c xs h=>b.1 c xs (a.1 c xs h),fun c o u h=>b.2 c o u (a.2 c o u h)⟩
theorem Kp.of {H H':Hp} (s:al H H'):Kp H H':=⟨fun b xs h=>s b _ h,fun b o u h=>s b _ h⟩
mutual
theorem Rp.kp {H H':Hp} (k:Kp H H'):∀ (d:PyData) (v:V),Rp H d v->Rp H' d v
  | .none,v,h=>by simpa only [Rp] using h
  | .bool b,v,h=>by simpa only [Rp] using h
  | .int i,v,h=>by simpa only [Rp] using h
  | .str x,v,h=>by simpa only [Rp] using h
  | .tuple ds,v,h=>by
    simp only [Rp] at h ⊢;obtain ⟨a,vs,e,ha,r⟩:=h;exact ⟨a,vs,e,k.1 _ _ ha,aM.kp k ds vs r⟩
  | .list ds,v,h=>by
    simp only [Rp] at h ⊢;obtain ⟨a,o,vs,e,ha,r⟩:=h;exact ⟨a,o,vs,e,k.2 _ _ _ ha,aM.kp k ds vs r⟩
  | .dict kvs,v,h=>by
    simp only [Rp] at h ⊢;rcases h with ⟨a,o,ks,e,ha,r⟩ | ⟨a,o,C,dx,fs,e,ha,r⟩
    · exact .inl ⟨a,o,ks,e,k.2 _ _ _ ha,ce.kp k kvs ks r⟩
    · exact .inr ⟨a,o,C,dx,fs,e,k.2 _ _ _ ha,pI.kp k C fs kvs r⟩
theorem aM.kp {H H':Hp} (k:Kp H H'):∀ (ds:List PyData) (vs:List V),aM H ds vs->aM H' ds vs
  | [],vs,h=>by simpa only [aM] using h
  | d::ds,vs,h=>by
    simp only [aM] at h ⊢;obtain ⟨v,r,e,h1,h2⟩:=h;exact ⟨v,r,e,Rp.kp k d v h1,aM.kp k ds r h2⟩
theorem ce.kp {H H':Hp} (k:Kp H H'):∀ (kvs:List (PyData×PyData)) (ks:List (bI×V)),ce H kvs ks->ce H' kvs ks
  | [],ks,h=>by simpa only [ce] using h
  | kd::kvs,ks,h=>by
    simp only [ce] at h ⊢;obtain ⟨x,v,r,e,h1,h2⟩:=h;exact ⟨x,v,r,e,pS.kp k kd x v h1,ce.kp k kvs r h2⟩
theorem pS.kp {H H':Hp} (k:Kp H H'):∀ (kd:PyData×PyData) (x:bI) (v:V),pS H kd x v->pS H' kd x v
  | (c,d),x,v,h=>by
    simp only [pS] at h ⊢;exact ⟨h.1,Rp.kp k d v h.2⟩
theorem pI.kp {H H':Hp} (k:Kp H H') (C:Addr) (fs:List (Str×V)):∀ (kvs:List (PyData×PyData)),pI H C fs kvs->pI H' C fs kvs
  | [],h=>by simpa only [pI] using h
  | kd::kvs,h=>by
    simp only [pI] at h ⊢;exact ⟨h.1,pR.kp k kvs fs h.2⟩
theorem pR.kp {H H':Hp} (k:Kp H H'):∀ (kvs:List (PyData×PyData)) (fs:List (Str×V)),pR H kvs fs->pR H' kvs fs
  | [],fs,h=>by simpa only [pR] using h
  | kd::kvs,fs,h=>by
    simp only [pR] at h ⊢;obtain ⟨x,v,r,e,h1,h2⟩:=h;exact ⟨x,v,r,e,tU.kp k kd x v h1,pR.kp k kvs r h2⟩
theorem tU.kp {H H':Hp} (k:Kp H H'):∀ (kd:PyData×PyData) (x:Str) (v:V),tU H kd x v->tU H' kd x v
  | (c,d),x,v,h=>by
    simp only [tU] at h ⊢;exact ⟨h.1,Rp.kp k d v h.2⟩
end
theorem Rp.mono {H H':Hp} {d:PyData} {v:V} (h:Rp H d v) (s:al H H'):Rp H' d v:=Rp.kp (Kp.of s) d v h
theorem aM.mono {H H':Hp} {ds:List PyData} {vs:List V} (h:aM H ds vs) (s:al H H'):aM H' ds vs:=aM.kp (Kp.of s) ds vs h
noncomputable def eT (H:Hp):PyData->V->Prop
  | .list ds,v=>∃ a vs,v=.ref a/\H a=some (.lst vs)/\aM H ds vs
  | .dict kvs,v=>∃ a ks,v=.ref a/\H a=some (.dK ks)/\ce H kvs ks
  | _,_=>False
theorem eT.mono {H H':Hp} {d:PyData} {v:V} (h:eT H d v) (s:al H H'):eT H' d v:=by
  cases d <;> simp only [eT] at h ⊢
  · obtain ⟨a,vs,e,ha,r⟩:=h;exact ⟨a,vs,e,s _ _ ha,aM.mono r s⟩
  · obtain ⟨a,vs,e,ha,r⟩:=h;exact ⟨a,vs,e,s _ _ ha,ce.kp (Kp.of s) _ _ r⟩
noncomputable def dZ (H:Hp) (d:PyData) (v:V):Prop:=Rp H d v\/eT H d v
theorem dZ.mono {H H':Hp} {d:PyData} {v:V} (h:dZ H d v) (s:al H H'):dZ H' d v:=h.elim (fun h=>.inl (h.mono s)) fun h=>.inr (h.mono s)
noncomputable def tT (H H':Hp) (d:PyData) (v:V):Prop:=eT H' d v/\∃ a,v=.ref a/\H a=none
inductive bK where
  | non
  | val (d:PyData)
  | own (d:PyData)
  | exc (p:Addr)
noncomputable abbrev au:=List bK
noncomputable def ez (H:Hp):bK->Option V->Prop
  | .non,_=>True
  | .val d,o=>∃ v,o=some v/\Rp H d v
  | .own d,o=>∃ v,o=some v/\eT H d v
  | .exc p,o=>o=some (.ref p)
noncomputable def Sl (H:Hp) (σ:St) (ρ:au):Prop:=σ.length=ρ.length/\∀ (i:Nat) (c:bK) (o:Option V),ρ[i]?=some c->σ[i]?=some o->ez H c o
theorem ez.mono {H H':Hp} {c:bK} {o:Option V} (h:ez H c o) (s:al H H'):ez H' c o:=by
  cases c <;> simp only [ez] at h ⊢
  · obtain ⟨v,e,h⟩:=h;exact ⟨v,e,h.mono s⟩
  · obtain ⟨v,e,h⟩:=h;exact ⟨v,e,h.mono s⟩
  · exact h
theorem Sl.mono {H H':Hp} {σ:St} {ρ:au} (h:Sl H σ ρ) (s:al H H'):Sl H' σ ρ:=⟨h.1,fun i c o h1 h2=>(h.2 i c o h1 h2).mono s⟩
inductive R (α:Type) where
  | ok (a:α)
  | ex (c:Str)
  | no
noncomputable def R.bind {α β:Type}:R α->(α->R β)->R β
  | .ok a,f=>f a
  | .ex c,_=>.ex c
  | .no,_=>.no
noncomputable instance:Monad R where
  pure:=.ok
  bind:=R.bind
@[simp] theorem R.ok_bind {α β:Type} (a:α) (f:α->R β):(R.ok a>>=f)=f a:=rfl
@[simp] theorem R.ex_bind {α β:Type} (c:Str) (f:α->R β):((R.ex c:R α)>>=f)=.ex c:=rfl
@[simp] theorem R.no_bind {α β:Type} (f:α->R β):((R.no:R α)>>=f)=.no:=rfl
@[simp] theorem R.pure_ok {α:Type} (a:α):(pure a:R α)=.ok a:=rfl
structure r8 (P:Program) (w:World) (outer:List Env) (H:Hp) (s:Shared) (C:Addr) (H':Hp) (e:Value) (s':Shared):Prop where
  os:s'.os=s.os
  bare:AllBare s'.gens
  same:al H H'
  ex:∃ (p:Addr) (a0:Value) (B:Heap),e=.ref p/\Heap.FlyingW B outer p (.ref C) a0 s'.heap/\dt P w H' B/\H' p=none/\∀ b o,s.heap.get? b=some o->H b=none->b∉fY outer->B.get? b=some o/\H' b=none
  slot:∀ b o,s.heap.get? b=some o->H b=none->b∈fY outer->(∃ sl,s'.heap.get? b=some { o with slots:=sl })/\H' b=none
structure jt (P:Program) (w:World) (outer:List Env) (H:Hp) (s:Shared) (C:Addr) (H':Hp) (e:Value) (s':Shared):Prop where
  os:s'.os=s.os
  bare:AllBare s'.gens
  same:al H H'
  ex:∃ (p:Addr) (a0:Value) (B:Heap),e=.ref p/\ke B outer p (.ref C) a0 s'.heap/\dt P w H' B/\H' p=none/\∀ b o,s.heap.get? b=some o->H b=none->b∉fY outer->B.get? b=some o/\H' b=none
  slot:∀ b o,s.heap.get? b=some o->H b=none->b∈fY outer->(∃ sl,s'.heap.get? b=some { o with slots:=sl })/\H' b=none
theorem r8.hld {P:Program} {w:World} {outer:List Env} {H:Hp} {s:Shared} {C:Addr} {H':Hp} {e:Value} {s':Shared} (f:r8 P w outer H s C H' e s'):jt P w outer H s C H' e s' :=
  ⟨f.os,f.bare,f.same,let ⟨p,a0,B,h1,h2,h3⟩:=f.ex;⟨p,a0,B,h1,ke.of h2,h3⟩,f.slot⟩
noncomputable def cM (P:Program) (w:World) (mg:Str->Option Value):nM:=fun outer H s E e s'=>∃ n C H',mg n=some (.ref C)/\r8 P w outer H s C H' e s'/\E (.str n 0) none H'
noncomputable def EX (X:Cx):XK:=fun v _ H'=>∀ (n:Str) (C:Addr),v=.str n 0->X.mg n=some (.ref C)->∀ (pins:List (Addr×Obj)) (σ:St) (H:Hp) (s:Shared) (e:Value) (s':Shared),aq X pins σ H s->r8 X.prog X.w X.stack H s C H' e s'->X.xe e s'
theorem qJ {X:Cx}:lh (cM X.prog X.w X.mg) X (EX X):=fun pins σ H s e s' I ⟨n,C,H',hm,f,q⟩=>q n C rfl hm pins σ H s e s' I f
noncomputable def Xw (X:Cx) (c:Str) (H:Hp):Prop:=∀ H1,al H H1->∀ (C:Addr),X.mg c=some (.ref C)->∀ (pins:List (Addr×Obj)) (σ:St) (Hc:Hp) (s:Shared) (e:Value) (s':Shared),aq X pins σ Hc s->jt X.prog X.w X.stack Hc s C H1 e s'->X.xe e s'
theorem Xw.mono {X:Cx} {c:Str} {H H':Hp} (h:Xw X c H) (s:al H H'):Xw X c H':=fun H1 s1=>h H1 (s.trans s1)
theorem Xw.ex {X:Cx} {c:Str} {H:Hp} (h:Xw X c H):∀ H1,al H H1->EX X (.str c 0) none H1:=fun H1 s1 n C en hm pins σ Hc s e s' I f=>by
  have en':c=n:=by injection en
  subst en';exact h H1 s1 C hm pins σ Hc s e s' I f.hld
noncomputable def ud (X:Cx) (c:Str) (Fm:Hp):Prop:=∀ C,X.mg c=some (.ref C)->∀ (pins:List (Addr×Obj)) (σ:St) (H:Hp) (s:Shared),al Fm H->aq X pins σ H s->∀ (h':Heap) (p:Addr) (vs:List Value),Heap.MadeExcOf s.heap h' p (.ref C) vs->X.xe (.ref p) { s with heap:=h' }
theorem ud.mono {X:Cx} {c:Str} {H H':Hp} (h:ud X c H) (s:al H H'):ud X c H':=fun C hm pins σ H1 s1 e=>h C hm pins σ H1 s1 (s.trans e)
noncomputable def nA (X:Cx) (P:Hp->Hp->PyData->V->Prop) (r:R PyData) (H:Hp) (Q:VK):Prop :=
  match r with
  | .ok d=>∀ v H',al H H'->P H H' d v->Q v H'
  | .ex c=>Xw X c H
  | .no=>False
noncomputable abbrev gK:Hp->Hp->PyData->V->Prop:=fun _ H' d v=>Rp H' d v
noncomputable abbrev rz:Hp->Hp->PyData->V->Prop:=fun _ H' d v=>dZ H' d v
noncomputable abbrev vQ:Hp->Hp->PyData->V->Prop:=fun H H' d v=>Rp H' d v\/tT H H' d v
noncomputable abbrev Fe:=au->R PyData
noncomputable def gu (X:Cx) (P:Hp->Hp->PyData->V->Prop) (f:Fe):TE:=fun σ H Q=>∃ ρ,Sl H σ ρ/\nA X P (f ρ) H Q
noncomputable def cc (X:Cx) (e:Expr) (f:Fe):Prop:=PE X e (gu X gK f)
structure Z.cc (X:Cx) (e:Expr) (f:Fe):Prop where
  un:D2.cc X e f
noncomputable def cr (X:Cx) (e:Expr) (f:Fe):Prop:=PE X e (gu X rz f)
structure Z.cr (X:Cx) (e:Expr) (f:Fe):Prop where
  un:D2.cr X e f
noncomputable def pP (X:Cx) (e:Expr) (f:Fe):Prop:=PE X e (gu X vQ f)
structure Z.pP (X:Cx) (e:Expr) (f:Fe):Prop where
  un:D2.pP X e f
noncomputable def iI (X:Cx) (e:Expr) (f:Fe):Prop:=PE X e (gu X tT f)
structure Z.iI (X:Cx) (e:Expr) (f:Fe):Prop where
  un:D2.iI X e f
noncomputable def RA (I:Hp->PyData->V->Prop) (H:Hp):List PyData->List V->Prop
  | [],vs=>vs=[]
  | d::ds,vs=>∃ v r,vs=v::r/\I H d v/\RA I H ds r
theorem jR {H:Hp}:∀ {ds:List PyData} {vs:List V},RA Rp H ds vs<->aM H ds vs
  | [],vs=>by simp only [RA,aM]
  | d::ds,vs=>by simp only [RA,aM,jR (ds:=ds)]
noncomputable def pL (X:Cx) (I:Hp->PyData->V->Prop) (f:au->R (List PyData)):TA:=fun σ H Q=>∃ ρ,Sl H σ ρ/\match f ρ with
  | .ok ds=>∀ vs H',al H H'->RA I H' ds vs->Q vs H'
  | .ex c=>Xw X c H
  | .no=>False
noncomputable def lR (X:Cx) (es:List Expr) (f:au->R (List PyData)):Prop:=PA X es (pL X Rp f)
structure Z.lR (X:Cx) (es:List Expr) (f:au->R (List PyData)):Prop where
  un:D2.lR X es f
noncomputable def rZ (X:Cx) (es:List Expr) (f:au->R (List PyData)):Prop:=PA X es (pL X dZ f)
noncomputable def rb (X:Cx) (f:au->R Bool):TT:=fun σ H Q=>∃ ρ,Sl H σ ρ/\match f ρ with
  | .ok b=>∀ H',al H H'->Q b H'
  | .ex c=>Xw X c H
  | .no=>False
noncomputable def mE (X:Cx) (e:Expr) (f:au->R Bool):Prop:=PT X e (rb X f)
structure Z.mE (X:Cx) (e:Expr) (f:au->R Bool):Prop where
  un:D2.mE X e f
noncomputable def tS (X:Cx) (e:Expr) (f:au->R Bool):Prop:=PW X e (rb X f)
structure Z.tS (X:Cx) (e:Expr) (f:au->R Bool):Prop where
  un:D2.tS X e f
theorem PE.imp {X:Cx} {e:Expr} {t t':TE} (h:PE X e t) (i:∀ σ H Q,t' σ H Q->t σ H Q):PE X e t':=fun pins s σ H Q I q=>h pins s σ H Q I (i σ H Q q)
theorem PT.imp {X:Cx} {e:Expr} {t t':TT} (h:PT X e t) (i:∀ σ H Q,t' σ H Q->t σ H Q):PT X e t':=fun pins s σ H Q I q=>h pins s σ H Q I (i σ H Q q)
theorem PA.imp {X:Cx} {e:List Expr} {t t':TA} (h:PA X e t) (i:∀ σ H Q,t' σ H Q->t σ H Q):PA X e t':=fun pos pins s σ H Q I q=>h pos pins s σ H Q I (i σ H Q q)
theorem gu.post {X:Cx} {P:Hp->Hp->PyData->V->Prop} {f:Fe} {σ:St} {H:Hp} {Q Q':VK} (h:gu X P f σ H Q) (i:∀ v H',Q v H'->Q' v H'):gu X P f σ H Q':=by
  obtain ⟨ρ,sl,q⟩:=h;refine ⟨ρ,sl,?_⟩;cases e:f ρ with
  | ok d=>rw [e] at q;exact fun v H' s p=>i _ _ (q v H' s p)
  | ex c=>rw [e] at q;exact q
  | no=>rw [e] at q;exact q
theorem rb.post {X:Cx} {f:au->R Bool} {σ:St} {H:Hp} {Q Q':Bool->Hp->Prop} (h:rb X f σ H Q) (i:∀ b H',Q b H'->Q' b H'):rb X f σ H Q':=by
  obtain ⟨ρ,sl,q⟩:=h;refine ⟨ρ,sl,?_⟩;cases e:f ρ with
  | ok d=>rw [e] at q;exact fun H' s=>i _ _ (q H' s)
  | ex c=>rw [e] at q;exact q
  | no=>rw [e] at q;exact q
theorem pL.post {X:Cx} {I:Hp->PyData->V->Prop} {f:au->R (List PyData)} {σ:St} {H:Hp} {Q Q':List V->Hp->Prop} (h:pL X I f σ H Q) (i:∀ vs H',Q vs H'->Q' vs H'):pL X I f σ H Q':=by
  obtain ⟨ρ,sl,q⟩:=h;refine ⟨ρ,sl,?_⟩;cases e:f ρ with
  | ok d=>rw [e] at q;exact fun vs H' s p=>i _ _ (q vs H' s p)
  | ex c=>rw [e] at q;exact q
  | no=>rw [e] at q;exact q
theorem gu.weaken {X:Cx} {P P':Hp->Hp->PyData->V->Prop} {f:Fe} (h:∀ H H' d v,P H H' d v->P' H H' d v) (σ:St) (H:Hp) (Q:VK) (q:gu X P' f σ H Q):gu X P f σ H Q:=by
  obtain ⟨ρ,sl,q⟩:=q;refine ⟨ρ,sl,?_⟩;cases e:f ρ with
  | ok d=>rw [e] at q;exact fun v H' s p=>q v H' s (h _ _ _ _ p)
  | ex c=>rw [e] at q;exact q
  | no=>rw [e] at q;exact q
section
variable {X:Cx} {e:Expr} {f:Fe}
theorem cc.b (h:cc X e f):cr X e f:=PE.imp h (gu.weaken fun _ _ _ _ p=>Or.inl p)
theorem aa (h:Z.cc X e f):Z.cr X e f :=
  ⟨D2.cc.b h.un⟩
theorem iI.b (h:iI X e f):cr X e f:=PE.imp h (gu.weaken fun _ _ _ _ p=>Or.inr p.1)
theorem cu (h:Z.iI X e f):Z.cr X e f :=
  ⟨D2.iI.b h.un⟩
theorem iI.toF (h:iI X e f):pP X e f:=PE.imp h (gu.weaken fun _ _ _ _ p=>Or.inr p)
end
section
variable {X:Cx} {pins:List (Addr×Obj)} {σ:St} {H:Hp} {s:Shared} {a:Addr} {u:HO}
theorem fD (I:aq X pins σ H s) (h:H a=some u) (hm:(∃ xs,u=.lst xs)\/∃ ks,u=.dK ks):∃ o,aq X pins σ (ca H a (.frz o u)) s:=by
  have ob:=I.hok a u h;have hg:∃ o,s.heap.get? a=some o:=by
    rcases hm with ⟨xs,rfl⟩ | ⟨ks,rfl⟩
    · obtain ⟨_,_,_,_,e⟩:=ob;exact ⟨_,e⟩
    · obtain ⟨_,_,_,_,o,_,_,e,_⟩:=ob;exact ⟨_,e⟩
  obtain ⟨o,hg⟩:=hg;have nt:∀ b xs,H b=some (.tup xs)->b≠a:=fun b xs q z=>by subst z;rw [h] at q;rcases hm with ⟨_,rfl⟩ | ⟨_,rfl⟩ <;> cases q
  have nf:∀ b o' u',H b=some (.frz o' u')->b≠a:=fun b o' u' q z=>by subst z;rw [h] at q;rcases hm with ⟨_,rfl⟩ | ⟨_,rfl⟩ <;> cases q
  have nb:∀ b ps,H b=some (.tbl ps)->b≠a:=fun b ps q z=>by subst z;rw [h] at q;rcases hm with ⟨_,rfl⟩ | ⟨_,rfl⟩ <;> cases q
  have nw:∀ b y,H b=some (.own y)->b≠a:=fun b y q z=>by subst z;rw [h] at q;rcases hm with ⟨_,rfl⟩ | ⟨_,rfl⟩ <;> cases q
  have nn:∀ b,H b=none->b≠a:=fun b q z=>by subst z;rw [h] at q;cases q
  have st:∀ b x,bw X.prog X.w H s.heap b x->bw X.prog X.w (ca H a (.frz o u)) s.heap b x:=fun b x q =>
    q.stay (fun c v _ e=>e) (fun c e=>by rw [am (nw _ _ e)];exact e) fun c xs e=>by rw [am (nt _ _ e)];exact e
  refine ⟨o,⟨I.ok,I.os,I.bare,⟨I.base.keep,I.base.slot,fun b ob' e n hx=>?_,I.base.there,fun b xs e=>?_,fun b ob' v e=>?_,fun b ps e=>?_⟩,I.loc,I.cell,?_,fun x c e=>?_,fun p hp=>?_,fun b x e=>?_,I.len⟩⟩
  · have:=I.base.free b ob' e n hx;rw [am (nn _ this)];exact this
  · have:=I.base.tups b xs e;rw [am (nt _ _ this)];exact this
  · have:=I.base.frzs b ob' v e;rw [am (nf _ _ _ this)];exact this
  · have q:=I.base.tbls b ps e;rw [am (nb _ _ q)];exact q
  · rw [am (nn _ I.free)];exact I.free
  · rw [am (nn _ (I.freeC x c e))];exact I.freeC x c e
  · obtain ⟨p1,p2,p3⟩:=I.pin p hp;exact ⟨p1,by rw [am (nn _ p2)];exact p2,p3⟩
  · by_cases hb:b=a
    · subst hb;rw [bc] at e;cases e;exact ⟨hg,st b u ob⟩
    · rw [am hb] at e;exact st b x (I.hok b x e)
theorem eL {o':HO} (h:H a=some u) (hm:(∃ xs,u=.lst xs)\/∃ ks,u=.dK ks):Kp H (ca H a o'):=by
  refine ⟨fun b xs e=>?_,fun b o v e=>?_⟩
  · rw [am];exact e;rintro rfl;rw [h] at e;rcases hm with ⟨_,rfl⟩ | ⟨_,rfl⟩ <;> cases e
  · rw [am];exact e;rintro rfl;rw [h] at e;rcases hm with ⟨_,rfl⟩ | ⟨_,rfl⟩ <;> cases e
theorem sx {H0:Hp} {d:PyData} {v:V} (I:aq X pins σ H s) (hs:al H0 H) (n:tT H0 H d v):∃ H',aq X pins σ H' s/\al H0 H'/\Rp H' d v:=by
  obtain ⟨n,a,rfl,h0⟩:=n;have go:∀ u:HO,H a=some u->((∃ xs,u=.lst xs)\/∃ ks,u=.dK ks)->∃ o,aq X pins σ (ca H a (.frz o u)) s/\al H0 (ca H a (.frz o u))/\Kp H (ca H a (.frz o u)):=fun u hu hm=>by
    obtain ⟨o,J⟩:=fD I hu hm;refine ⟨o,J,fun b x e=>?_,eL hu hm⟩;rw [am (ar e h0)];exact hs b x e
  cases d <;> simp only [eT] at n
  · obtain ⟨a',vs,e,ha,r⟩:=n;cases e;obtain ⟨o,J,S,K⟩:=go _ ha (.inl ⟨_,rfl⟩);refine ⟨_,J,S,?_⟩;simp only [Rp];exact ⟨a,o,vs,rfl,bc,aM.kp K _ _ r⟩
  · obtain ⟨a',vs,e,ha,r⟩:=n;cases e;obtain ⟨o,J,S,K⟩:=go _ ha (.inr ⟨_,rfl⟩);refine ⟨_,J,S,?_⟩;simp only [Rp];exact .inl ⟨a,o,vs,rfl,bc,ce.kp K _ _ r⟩
end
theorem pP.e {X:Cx} {e:Expr} {f:Fe} (h:pP X e f):cc X e f:=by
  intro pins s σ H Q I q;obtain ⟨ρ,sl,q⟩:=q;cases ef:f ρ with
  | ok d =>
    rw [ef] at q;refine cq (h pins s σ H (fun v H'=>al H H'/\vQ H H' d v) I ⟨ρ,sl,by rw [ef];exact fun v H' hs p=>⟨hs,p⟩⟩) fun u s' ⟨v,H',I',r,hs,p⟩=>?_
    rcases p with p | p
    · exact ⟨v,H',I',r,q v H' hs p⟩
    · obtain ⟨H2,I2,S2,p2⟩:=sx I' hs p;exact ⟨v,H2,I2,r,q v H2 S2 p2⟩
  | ex c=>rw [ef] at q;exact cq (h pins s σ H (fun _ _=>False) I ⟨ρ,sl,by rw [ef];exact q⟩) fun u s' ⟨v,H',I',r,z⟩=>z.elim
  | no=>rw [ef] at q;exact q.elim
theorem vT {X:Cx} {e:Expr} {f:Fe} (h:Z.pP X e f):Z.cc X e f :=
  ⟨D2.pP.e h.un⟩
theorem iI.e {X:Cx} {e:Expr} {f:Fe} (h:iI X e f):cc X e f:=(iI.toF h).e
theorem pV {X:Cx} {e:Expr} {f:Fe} (h:Z.iI X e f):Z.cc X e f :=
  ⟨D2.iI.e h.un⟩
structure pU {β:Type} (X:Cx) (T:R β->Hp->Prop):Prop where
  mono:∀ r H H',T r H->al H H'->T r H'
  ex:∀ c H,T (.ex c) H->Xw X c H
  no:∀ H,¬ T .no H
noncomputable def Dn (P:Hp->Hp->PyData->V->Prop):Prop:=∀ H H1 H' d v,al H H1->P H1 H' d v->P H H' d v
theorem dI:Dn gK:=fun _ _ _ _ _ _ p=>p
theorem ss:Dn tT:=fun _ _ _ _ _ s p=>⟨p.1,let ⟨a,e,h⟩:=p.2;⟨a,e,s.free h⟩⟩
theorem qf:Dn vQ:=fun _ _ _ _ _ s p=>p.elim .inl fun p=>.inr (ss _ _ _ _ _ s p)
section
variable {X:Cx} {σ:St} {H:Hp}
theorem eS {P:Hp->Hp->PyData->V->Prop} (hP:Dn P) (Q:VK):pU X (fun r H=>nA X P r H Q) where
  mono:=fun r H H' h s=>by
    cases r with
    | ok d=>exact fun v H2 s2 p=>h v H2 (s.trans s2) (hP _ _ _ _ _ s p)
    | ex c=>exact Xw.mono h s
    | no=>exact h
  ex:=fun c H h=>h
  no:=fun H h=>h
theorem vE (Q:Bool->Hp->Prop):pU X (fun (r:R Bool) H=>match r with | .ok b=>∀ H',al H H'->Q b H' | .ex c=>Xw X c H | .no=>False) where
  mono:=fun r H H' h s=>by
    cases r with
    | ok d=>exact fun H2 s2=>h H2 (s.trans s2)
    | ex c=>exact Xw.mono h s
    | no=>exact h
  ex:=fun c H h=>h
  no:=fun H h=>h
theorem rW (I:Hp->PyData->V->Prop) (Q:List V->Hp->Prop):pU X (fun (r:R (List PyData)) H=>match r with | .ok ds=>∀ vs H',al H H'->RA I H' ds vs->Q vs H' | .ex c=>Xw X c H | .no=>False) where
  mono:=fun r H H' h s=>by
    cases r with
    | ok d=>exact fun vs H2 s2=>h vs H2 (s.trans s2)
    | ex c=>exact Xw.mono h s
    | no=>exact h
  ex:=fun c H h=>h
  no:=fun H h=>h
theorem eI {β:Type} {T:R β->Hp->Prop} (t:pU X T) {P:Hp->Hp->PyData->V->Prop} {f:Fe} {k:au->PyData->R β} (h:∃ ρ,Sl H σ ρ/\T (f ρ>>=k ρ) H) :
    gu X P f σ H (fun v H1=>∃ ρ d,Sl H1 σ ρ/\al H H1/\P H H1 d v/\T (k ρ d) H1):=by
  obtain ⟨ρ,sl,q⟩:=h;refine ⟨ρ,sl,?_⟩;cases e:f ρ with
  | ok d=>rw [e] at q;exact fun v H1 s p=>⟨ρ,d,sl.mono s,s,p,t.mono _ _ _ q s⟩
  | ex c=>rw [e] at q;exact t.ex _ _ q
  | no=>rw [e] at q;exact (t.no _ q).elim
theorem si {β:Type} {T:R β->Hp->Prop} (t:pU X T) {f:au->R Bool} {k:au->Bool->R β} (h:∃ ρ,Sl H σ ρ/\T (f ρ>>=k ρ) H) :
    rb X f σ H (fun b H1=>∃ ρ,Sl H1 σ ρ/\al H H1/\T (k ρ b) H1):=by
  obtain ⟨ρ,sl,q⟩:=h;refine ⟨ρ,sl,?_⟩;cases e:f ρ with
  | ok d=>rw [e] at q;exact fun H1 s=>⟨ρ,sl.mono s,s,t.mono _ _ _ q s⟩
  | ex c=>rw [e] at q;exact t.ex _ _ q
  | no=>rw [e] at q;exact (t.no _ q).elim
theorem hW {β:Type} {T:R β->Hp->Prop} (t:pU X T) {I:Hp->PyData->V->Prop} {f:au->R (List PyData)} {k:au->List PyData->R β} (h:∃ ρ,Sl H σ ρ/\T (f ρ>>=k ρ) H) :
    pL X I f σ H (fun vs H1=>∃ ρ ds,Sl H1 σ ρ/\al H H1/\RA I H1 ds vs/\T (k ρ ds) H1):=by
  obtain ⟨ρ,sl,q⟩:=h;refine ⟨ρ,sl,?_⟩;cases e:f ρ with
  | ok d=>rw [e] at q;exact fun vs H1 s p=>⟨ρ,d,sl.mono s,s,p,t.mono _ _ _ q s⟩
  | ex c=>rw [e] at q;exact t.ex _ _ q
  | no=>rw [e] at q;exact (t.no _ q).elim
end
noncomputable def ae (i:Nat):Fe:=fun ρ=>match ρ[i]? with
  | some (.val d)=>.ok d
  | _=>.no
noncomputable def fQ (i:Nat):Fe:=fun ρ=>match ρ[i]? with
  | some (.val d)=>.ok d
  | some (.own d)=>.ok d
  | _=>.no
noncomputable def eC (d:PyData):Fe:=fun _=>.ok d
structure Tb (X:Cx) (nl:Nat) (G:List Str):Prop where
  hu:X.A.units+64 < cLine
  calm:X.calm=true
  nd:X.N.Nodup
  vis:∀ x∈X.N,tV X.env.scope x/\(x==("__debug__" : Str))=false/\(x==("__classdict__" : Str))=false
  loc:∀ x∈X.N.take nl,sa X.env.scope x/\(X.fn x=true\/X.env.scope.names.lookup x=some .local)
  gl:∀ x∈G,Gl X x/\(x==("__debug__" : Str))=false/\x≠("__name__" : Str)
section
variable {X:Cx} {nl:Nat} {G:List Str} {x:Str} {pos:Pos}
theorem Sl.at {H:Hp} {σ:St} {ρ:au} {i:Nat} {c:bK} (h:Sl H σ ρ) (e:ρ[i]?=some c):∃ o,σ[i]?=some o/\ez H c o:=by
  have hi:i < σ.length:=by rw [h.1];exact (List.getElem?_eq_some_iff.mp e).1
  exact ⟨σ[i],List.getElem?_eq_getElem hi,h.2 i c _ e (List.getElem?_eq_getElem hi)⟩
theorem ab (T:Tb X nl G) (i:Nat) (hN:X.N[i]?=some x):Z.cc X (.Name x pos) (ae i):=⟨by
  have hm:=T.vis x (List.mem_of_getElem? hN);refine PE.imp (iq hN hm.1 hm.2.1 hm.2.2) fun σ H Q zq0=>?_
  obtain ⟨ρ,sl,q⟩:=zq0;unfold ae at q;split at q
  · rename_i d e;obtain ⟨o,h1,v,rfl,h2⟩:=sl.at e;exact ⟨v,h1,q v H (al.refl H) h2⟩
  · exact q.elim⟩
theorem hJ (T:Tb X nl G) (i:Nat) (hN:X.N[i]?=some x):Z.cr X (.Name x pos) (fQ i):=⟨by
  have hm:=T.vis x (List.mem_of_getElem? hN);refine PE.imp (iq hN hm.1 hm.2.1 hm.2.2) fun σ H Q zq0=>?_
  obtain ⟨ρ,sl,q⟩:=zq0;unfold fQ at q;split at q
  · rename_i d e;obtain ⟨o,h1,v,rfl,h2⟩:=sl.at e;exact ⟨v,h1,q v H (al.refl H) (.inl h2)⟩
  · rename_i d e;obtain ⟨o,h1,v,rfl,h2⟩:=sl.at e;exact ⟨v,h1,q v H (al.refl H) (.inr h2)⟩
  · exact q.elim⟩
theorem jK {e:Expr} {d:PyData} {v:V} (h:PE X e (tC v)) (r:∀ H,Rp H d v):cc X e (eC d) :=
  PE.imp h fun σ H Q ⟨ρ,sl,q⟩=>q v H (al.refl H) (r H)
theorem af {i j}:Z.cc X (.Constant (.int i) j pos) (eC (.int i)):=⟨jK sN fun H=>by simp only [Rp]⟩
theorem dw {b j}:Z.cc X (.Constant (.bool b) j pos) (eC (.bool b)):=⟨jK uU fun H=>by simp only [Rp]⟩
theorem dB {j}:Z.cc X (.Constant .none j pos) (eC .none):=⟨jK sP fun H=>by simp only [Rp]⟩
theorem cZ {i:Int} {t:Tok} (T:Tb X nl G) (j:Nat) (hG:G[j]?=some x) (hm:X.mg x=some (.int i t)):Z.cc X (.Name x pos) (eC (.int i)):=⟨by
  have g:=T.gl x (List.mem_of_getElem? hG);exact jK (qM g.1 hm (v:=.int i) ⟨t,rfl⟩ g.2.1) fun H=>by simp only [Rp]⟩
end
section
variable {X:Cx} {a b c:Expr} {fa fb fc:Fe} {pos:Pos}
noncomputable def e2 (g:PyData->PyData->R PyData) (fa fb:Fe):Fe:=fun ρ=>fa ρ>>=fun x=>fb ρ>>=fun y=>g x y
noncomputable def e1 (g:PyData->R PyData) (fa:Fe):Fe:=fun ρ=>fa ρ>>=fun x=>g x
noncomputable def bW (X:Cx) (P:Hp->Hp->PyData->V->Prop) (r:R2) (g:PyData->PyData->R PyData):Prop :=
  ∀ H x y dx dy Q,dZ H dx x->dZ H dy y->nA X P (g dx dy) H Q->r x y H Q
theorem wh {P:Hp->Hp->PyData->V->Prop} {r:R2} {g:PyData->PyData->R PyData} (hP:Dn P) (hg:bW X P r g) (σ:St) (H:Hp) (Q:VK) (h:gu X P (e2 g fa fb) σ H Q) :
    vy r (gu X rz fa) (gu X rz fb) σ H Q :=
  (eI (P:=rz) (eS (X:=X) hP Q) h).post fun v H1 ⟨ρ1,d1,sl1,_,p1,q1⟩ =>
    (eI (P:=rz) (f:=fb) (k:=fun _ y=>g d1 y) (eS (X:=X) hP Q) ⟨ρ1,sl1,q1⟩).post fun u H2 ⟨_,d2,_,s2,p2,q2⟩=>hg H2 v u d1 d2 Q (dZ.mono p1 s2) p2 q2
theorem ic {op:Operator} {P:Hp->Hp->PyData->V->Prop} {r:R2} {g:PyData->PyData->R PyData} (hP:Dn P) (ho:fX X (binaryOp op) r) (hg:bW X P r g) (ha:cr X a fa) (hb:cr X b fb) :
    PE X (.BinOp a op b pos) (gu X P (e2 g fa fb)):=PE.imp (uX ho ha hb) (wh hP hg)
theorem jJ {op:CmpOp} {r:R2} {g:PyData->PyData->R PyData} (ho:fX X (compareOp op) r) (hg:bW X gK r g) (ha:cr X a fa) (hb:cr X b fb) (hm:behindInMarks op b=false) :
    cc X (.Compare a [op] [b] pos) (e2 g fa fb):=PE.imp (qL ho ha hb hm) (wh dI hg)
end
noncomputable def nL:PyData->R Bool
  | .bool b=>.ok b
  | _=>.no
noncomputable def tE (f:Fe):au->R Bool:=fun ρ=>f ρ>>=nL
theorem my {X:Cx} {f:Fe} {σ:St} {H:Hp} {Q:Bool->Hp->Prop} (h:rb X (tE f) σ H Q):gu X gK f σ H (fun x H'=>∃ k,x=.bl k/\Q k H') :=
  (eI (P:=gK) (f:=f) (k:=fun _=>nL) (vE (X:=X) Q) h).post fun v H1 ⟨ρ1,d1,_,_,p1,q1⟩=>by
    cases d1 with
    | bool b =>
      have p2:v=.bl b:=by simpa only [Rp] using p1
      exact ⟨b,p2,q1 H1 (al.refl _)⟩
    | _=>exact q1.elim
section
variable {X:Cx} {a b c:Expr} {fa fb fc:Fe} {pos:Pos}
theorem gR {op:CmpOp} {r:R2} {g:PyData->PyData->R PyData} (ho:fX X (compareOp op) r) (hg:bW X gK r g) (ha:cr X a fa) (hb:cr X b fb) (hm:behindInMarks op b=false) :
    mE X (.Compare a [op] [b] pos) (tE (e2 g fa fb)) :=
  PT.imp (qU ho ha hb hm) fun σ H Q h=>wh dI hg σ H _ (my h)
theorem mJ {e:Expr} {f:Fe} (h:Z.cc X e f) (he:∀ whole,isTrue e X.env whole=(do let v <- whole;standAt e.pos;holding [v] (truthy v)):=by intro _;rfl):Z.mE X e (tE f):=⟨have h:=h.un;PT.imp (sV h he) fun σ H Q h=>my h⟩
noncomputable def vk (f g:au->R Bool):au->R Bool:=fun ρ=>f ρ>>=fun b=>if b=true then g ρ else .ok false
noncomputable def wW (f g:au->R Bool):au->R Bool:=fun ρ=>f ρ>>=fun b=>if b=true then .ok true else g ρ
noncomputable def vw (f:au->R Bool):au->R Bool:=fun ρ=>f ρ>>=fun b=>.ok (!b)
variable {ga gb:au->R Bool} {rest:List Expr}
theorem tS.t {e:Expr} (h:tS X e ga):mE X e ga:=PW.pt h
theorem vU {e:Expr} (h:Z.tS X e ga):Z.mE X e ga :=
  ⟨D2.tS.t h.un⟩
noncomputable def wz (f g:Fe):Fe:=fun ρ=>f ρ>>=fun d=>nL d>>=fun b=>if b=true then g ρ else .ok (.bool false)
noncomputable def xp (f g:Fe):Fe:=fun ρ=>f ρ>>=fun d=>nL d>>=fun b=>if b=true then .ok (.bool true) else g ρ
noncomputable def wB (f:Fe):Fe:=fun ρ=>f ρ>>=fun d=>nL d>>=fun b=>.ok (.bool (!b))
noncomputable def rC (t:au->R Bool) (f g:Fe):Fe:=fun ρ=>t ρ>>=fun b=>if b=true then f ρ else g ρ
theorem fy {e:Expr} (hc:Z.mE X e ga) (ha:Z.cc X a fa) (hb:Z.cc X b fb):Z.cc X (.IfExp e a b pos) (rC ga fa fb):=⟨have hc:=hc.un;have ha:=ha.un;have hb:=hb.un;PE.imp (o5 hc ha hb) fun σ H Q h=>(si (f:=ga) (k:=fun ρ b=>if b=true then fa ρ else fb ρ) (eS (X:=X) dI Q) h).post fun d H1 ⟨ρ1,sl1,_,q1⟩=>by
    cases d with
    | true=>exact ⟨ρ1,sl1,q1⟩
    | false=>exact ⟨ρ1,sl1,q1⟩⟩
end
noncomputable def aL:Expr->Bool
  | .Starred ..=>false
  | _=>true
theorem bU {e:Expr} {es:List Expr} {env:Env} (h:aL e=true):starEach (e::es) env=(false,eval e env)::starEach es env:=by
  cases e <;> first | rfl | (cases h)
theorem iA {es:List Expr} {env:Env} {pos:Pos} (h:es.all aL=true):(backTo pos (starEach es env)).any (·.1)=false:=by
  induction es with
  | nil=>rfl
  | cons e es ih =>
    rw [List.all_cons,Bool.and_eq_true] at h;rw [bU h.1];have:=ih h.2;simpa [backTo] using this
noncomputable def aO:au->R (List PyData):=fun _=>.ok []
noncomputable def ai (f:Fe) (g:au->R (List PyData)):au->R (List PyData):=fun ρ=>f ρ>>=fun d=>g ρ>>=fun ds=>.ok (d::ds)
section
variable {X:Cx} {e:Expr} {es:List Expr} {f:Fe} {g:au->R (List PyData)}
theorem mf {I:Hp->PyData->V->Prop}:PA X [] (pL X I aO):=PA.imp sM fun σ H Q ⟨ρ,sl,q⟩=>q [] H (al.refl _) (by simp only [RA])
theorem lu:lR X [] aO:=mf
theorem aw  : Z.lR X [] aO :=
  ⟨D2.lu⟩
theorem lv:rZ X [] aO:=mf
theorem kz {I:Hp->PyData->V->Prop} (hI:∀ H H' d v,I H d v->al H H'->I H' d v) (ha:PE X e (gu X (fun _ H' d v=>I H' d v) f)) (hr:PA X es (pL X I g))
    (hs:starEach (e::es) X.env=(false,eval e X.env)::starEach es X.env:=by rfl):PA X (e::es) (pL X I (ai f g)) :=
  PA.imp (qI ha hr hs) fun σ H Q h =>
    (eI (P:=fun _ H' d v=>I H' d v) (f:=f) (k:=fun ρ d=>g ρ>>=fun ds=>.ok (d::ds)) (rW (X:=X) I Q) h).post fun v H1 ⟨ρ1,d1,sl1,_,p1,q1⟩ =>
      (hW (I:=I) (f:=g) (k:=fun _ ds=>.ok (d1::ds)) (rW (X:=X) I Q) ⟨ρ1,sl1,q1⟩).post fun vs H2 ⟨_,ds1,_,s2,p3,q3⟩ =>
        q3 (v::vs) H2 (al.refl _) (by simp only [RA];exact ⟨v,vs,rfl,hI _ _ _ _ p1 s2,p3⟩)
theorem jH (ha:cc X e f) (hr:lR X es g) (hs:aL e=true:=by rfl):lR X (e::es) (ai f g):=kz (fun _ _ _ _ h s=>h.mono s) ha hr (bU hs)
theorem ag (ha:Z.cc X e f) (hr:Z.lR X es g) (hs:aL e=true:=by rfl):Z.lR X (e::es) (ai f g) :=
  ⟨D2.jH ha.un hr.un hs⟩
theorem gQ (ha:cr X e f) (hr:rZ X es g) (hs:aL e=true:=by rfl):rZ X (e::es) (ai f g):=kz (fun _ _ _ _ h s=>h.mono s) ha hr (bU hs)
end
section
variable {K:PySem.W.Frag} {H:Hp} {x:V}
theorem kr (h:dZ H .none x):x=.non:=by
  rcases h with h | h
  · simpa only [Rp] using h
  · simp only [eT] at h
theorem kq {b:Bool} (h:dZ H (.bool b) x):x=.bl b:=by
  rcases h with h | h
  · simpa only [Rp] using h
  · simp only [eT] at h
theorem aP {i:Int} (h:dZ H (.int i) x):x=.int i:=by
  rcases h with h | h
  · simpa only [Rp] using h
  · simp only [eT] at h
theorem dH {y:Str} (h:dZ H (.str y) x):x=.str y:=by
  rcases h with h | h
  · simpa only [Rp] using h
  · simp only [eT] at h
theorem cm {ds:List PyData} (h:dZ H (.tuple ds) x):∃ a vs,x=.ref a/\H a=some (.tup vs)/\aM H ds vs:=by
  rcases h with h | h
  · simpa only [Rp] using h
  · simp only [eT] at h
theorem cw {ds:List PyData} (h:dZ H (.list ds) x):∃ a vs,x=.ref a/\iE K H a vs/\aM H ds vs:=by
  rcases h with h | h
  · simp only [Rp] at h;obtain ⟨a,o,vs,e,ha,r⟩:=h;exact ⟨a,vs,e,.inl (.inr ⟨o,ha⟩),r⟩
  · simp only [eT] at h;obtain ⟨a,vs,e,ha,r⟩:=h;exact ⟨a,vs,e,.inl (.inl ha),r⟩
theorem rc {C:Addr} {fs:List (Str×V)} {kvs:List (PyData×PyData)} (h:pI H C fs kvs):il kvs=true:=by
  cases kvs with
  | nil=>simp only [pI] at h
  | cons kd kvs=>simp only [pI] at h;rw [h.1];rfl
theorem n6 {kvs:List (PyData×PyData)} (h:dZ H (.dict kvs) x):∃ a,x=.ref a:=by
  rcases h with h | h
  · simp only [Rp] at h;rcases h with ⟨a,o,vs,e,_⟩ | ⟨a,o,C,dx,fs,e,_⟩
    · exact ⟨a,e⟩
    · exact ⟨a,e⟩
  · simp only [eT] at h;obtain ⟨a,vs,e,_⟩:=h;exact ⟨a,e⟩
theorem hZ {kvs:List (PyData×PyData)} (hi:il kvs=false) (h:dZ H (.dict kvs) x):∃ a ks,x=.ref a/\Rd H a (.dK ks)/\ce H kvs ks:=by
  rcases h with h | h
  · simp only [Rp] at h;rcases h with ⟨a,o,vs,e,ha,r⟩ | ⟨a,o,C,dx,fs,e,ha,r⟩
    · exact ⟨a,vs,e,.inr ⟨o,ha⟩,r⟩
    · rw [rc r] at hi;cases hi
  · simp only [eT] at h;obtain ⟨a,vs,e,ha,r⟩:=h;exact ⟨a,vs,e,.inl ha,r⟩
end
theorem aM.nil {H:Hp}:aM H [] []:=by simp only [aM]
theorem aM.cons {H:Hp} {d:PyData} {ds:List PyData} {v:V} {vs:List V} (h:Rp H d v) (t:aM H ds vs):aM H (d::ds) (v::vs):=by simp only [aM];exact ⟨v,vs,rfl,h,t⟩
theorem aM.nil_inv {H:Hp} {vs:List V} (h:aM H [] vs):vs=[]:=by simpa only [aM] using h
theorem aM.cons_inv {H:Hp} {d:PyData} {ds:List PyData} {vs:List V} (h:aM H (d::ds) vs):∃ v r,vs=v::r/\Rp H d v/\aM H ds r:=by simpa only [aM] using h
theorem aM.length {H:Hp}:∀ {ds:List PyData} {vs:List V},aM H ds vs->vs.length=ds.length
  | [],vs,h=>by rw [h.nil_inv];rfl
  | d::ds,vs,h=>by
    obtain ⟨v,r,rfl,_,t⟩:=h.cons_inv;rw [List.length_cons,List.length_cons,aM.length t]
theorem aM.get {H:Hp}:∀ {ds:List PyData} {vs:List V} {i:Nat} {d:PyData},aM H ds vs->ds[i]?=some d->∃ v,vs[i]?=some v/\Rp H d v
  | [],vs,i,d,h,e=>by simp at e
  | d0::ds,vs,0,d,h,e=>by
    obtain ⟨v,r,rfl,p,_⟩:=h.cons_inv;simp at e;subst e;exact ⟨v,rfl,p⟩
  | d0::ds,vs,i+1,d,h,e=>by
    obtain ⟨v,r,rfl,_,t⟩:=h.cons_inv;obtain ⟨u,e1,p⟩:=aM.get (i:=i) t (by simpa using e);exact ⟨u,by simpa using e1,p⟩
theorem aM.append {H:Hp}:∀ {ds es:List PyData} {vs us:List V},aM H ds vs->aM H es us->aM H (ds++es) (vs++us)
  | [],es,vs,us,h,g=>by rw [h.nil_inv];exact g
  | d::ds,es,vs,us,h,g=>by
    obtain ⟨v,r,rfl,p,t⟩:=h.cons_inv;exact aM.cons p (aM.append t g)
theorem aM.take {H:Hp}:∀ {ds:List PyData} {vs:List V} (n:Nat),aM H ds vs->aM H (ds.take n) (vs.take n)
  | ds,vs,0,h=>by simp only [List.take_zero];exact aM.nil
  | [],vs,n+1,h=>by rw [h.nil_inv];exact aM.nil
  | d::ds,vs,n+1,h=>by
    obtain ⟨v,r,rfl,p,t⟩:=h.cons_inv;exact aM.cons p (aM.take n t)
theorem aM.drop {H:Hp}:∀ {ds:List PyData} {vs:List V} (n:Nat),aM H ds vs->aM H (ds.drop n) (vs.drop n)
  | ds,vs,0,h=>h
  | [],vs,n+1,h=>by rw [h.nil_inv];exact aM.nil
  | d::ds,vs,n+1,h=>by
    obtain ⟨v,r,rfl,p,t⟩:=h.cons_inv;exact aM.drop n t
theorem aM.reverse {H:Hp}:∀ {ds:List PyData} {vs:List V},aM H ds vs->aM H ds.reverse vs.reverse
  | [],vs,h=>by rw [h.nil_inv];exact aM.nil
  | d::ds,vs,h=>by
    obtain ⟨v,r,rfl,p,t⟩:=h.cons_inv;rw [List.reverse_cons,List.reverse_cons];exact aM.append (aM.reverse t) (aM.cons p aM.nil)
theorem aM.rep {H:Hp} {ds:List PyData} {vs:List V} (h:aM H ds vs):∀ k:Nat,aM H (List.replicate k ds).flatten (List.replicate k vs).flatten
  | 0=>aM.nil
  | k+1=>by rw [List.replicate_succ,List.replicate_succ,List.flatten_cons,List.flatten_cons];exact aM.append h (aM.rep h k)
theorem aM.ints {H:Hp}:∀ ns:List Int,aM H (ns.map PyData.int) (ns.map V.int)
  | []=>aM.nil
  | n::ns=>aM.cons (by simp only [Rp]) (aM.ints ns)
theorem bM {H:Hp} {p:Addr} (h:H p=none) (o:HO):al H (ca H p o):=fun b u q=>by rw [am (ar q h)];exact q
theorem c9 {H:Hp} {p:Addr} {ds:List PyData} {vs:List V} (h:H p=none) (r:aM H ds vs):Rp (ca H p (.tup vs)) (.tuple ds) (.ref p):=by
  simp only [Rp];exact ⟨p,vs,rfl,bc,r.mono (bM h _)⟩
theorem cJ {H:Hp} {p:Addr} {ds:List PyData} {vs:List V} (h:H p=none) (r:aM H ds vs):tT H (ca H p (.lst vs)) (.list ds) (.ref p):=by
  refine ⟨?_,p,rfl,h⟩;simp only [eT];exact ⟨p,vs,rfl,bc,r.mono (bM h _)⟩
section
variable {P:Program} {w:World} {H:Hp} {h:Heap}
mutual
theorem kL (ok:dt P w H h):∀ (d:PyData) (v:V) (u:Value),d.canLay0=true->Rp H d v->be v u->∃ as,Reads h u d as
  | .none,v,u,_,r,e=>by simp only [Rp] at r;subst r;cases e;exact ⟨_,.none⟩
  | .bool b,v,u,_,r,e=>by simp only [Rp] at r;subst r;cases e;exact ⟨_,.bool b⟩
  | .int i,v,u,_,r,e=>by simp only [Rp] at r;subst r;obtain ⟨t,rfl⟩:=e;exact ⟨_,.int i t⟩
  | .str x,v,u,_,r,e=>by simp only [Rp] at r;subst r;obtain ⟨t,rfl⟩:=e;exact ⟨_,.str x t⟩
  | .tuple ds,v,u,c,r,e=>by
    simp only [Rp] at r;obtain ⟨a,vs,rfl,ha,r⟩:=r;cases e;obtain ⟨_,its,rv,o,h1,h2,⟨n,h3⟩,_⟩:=(show bw P w H h a (.tup vs) from ok a _ ha)
    obtain ⟨as,q⟩:=dg ok ds vs its (by simpa only [PyData.canLay0] using c) r rv;exact ⟨as,.tuple h1 h2 h3 (by simpa using q)⟩
  | .list ds,v,u,c,r,e=>by
    simp only [Rp] at r;obtain ⟨a,ob,vs,rfl,ha,r⟩:=r;cases e;obtain ⟨_,_,its,n,rv,h1⟩:=(show bw P w H h a (.frz ob (.lst vs)) from ok a _ ha)
    obtain ⟨as,q⟩:=dg ok ds vs its (by simpa only [PyData.canLay0] using c) r rv;exact ⟨a::as,.list h1 rfl rfl (by simpa using q)⟩
  | .dict kvs,v,u,c,r,e=>by simp [PyData.canLay0] at c
theorem dg (ok:dt P w H h):∀ (ds:List PyData) (vs:List V) (us:List Value),PyData.canLayAll0 ds=true->aM H ds vs->aH vs us->∃ as,ReadsAll h us ds as
  | [],vs,us,_,r,e=>by rw [r.nil_inv] at e;cases e;exact ⟨_,.nil⟩
  | d::ds,vs,us,c,r,e=>by
    obtain ⟨v,r',rfl,p,t⟩:=r.cons_inv;have c':d.canLay0=true/\PyData.canLayAll0 ds=true:=by simpa [PyData.canLayAll0] using c
    cases e with
    | cons e1 e2 =>
      obtain ⟨as,q1⟩:=kL ok d v _ c'.1 p e1;obtain ⟨bs,q2⟩:=dg ok ds r' _ c'.2 t e2;exact ⟨as++bs,.cons q1 q2⟩
end
theorem e7 (ok:dt P w H h) {d:PyData} {v:V} {u:Value} (c:d.canLay0=true) (r:dZ H d v) (e:be v u):∃ as,Reads h u d as:=by
  rcases r with r | r
  · exact kL ok d v u c r e
  · cases d <;> simp only [eT] at r
    · rename_i ds;obtain ⟨a,vs,rfl,ha,r⟩:=r;cases e;obtain ⟨_,its,n,rv,h1⟩:=(show bw P w H h a (.lst vs) from ok a _ ha)
      obtain ⟨as,q⟩:=dg ok ds vs its (by simpa only [PyData.canLay0] using c) r rv;exact ⟨a::as,.list h1 rfl rfl (by simpa using q)⟩
    · simp [PyData.canLay0] at c
end
noncomputable def dU:PyData->Option bI
  | .int i=>some (.inl i)
  | .str y=>some (.inr y)
  | _=>none
noncomputable def df:PyData->PyData->Bool
  | .int i,.int j=>decide (i=j)
  | .str i,.str j=>decide (i=j)
  | _,_=>false
noncomputable def lH (kvs:List (PyData×PyData)) (k v:PyData):List (PyData×PyData) :=
  if (kvs.any fun kv=>df kv.1 k)=true then kvs.map (fun kv=>if df kv.1 k=true then (kv.1,v) else kv) else kvs++[(k,v)]
theorem eZ (κ κ':bI):df (cR κ) (cR κ')=decide (κ=κ'):=by
  cases κ with
  | inl i =>
    cases κ' with
    | inl j=>simp [cR,df]
    | inr j=>simp [cR,df]
  | inr i =>
    cases κ' with
    | inl j=>simp [cR,df]
    | inr j=>simp [cR,df]
theorem ce.cons {H:Hp} {k d:PyData} {kvs:List (PyData×PyData)} {κ:bI} {v:V} {ks:List (bI×V)} (e:k=cR κ) (h:Rp H d v) (t:ce H kvs ks):ce H ((k,d)::kvs) ((κ,v)::ks):=by
  simp only [ce,pS];exact ⟨κ,v,ks,rfl,⟨e,h⟩,t⟩
theorem ce.cons_inv {H:Hp} {k d:PyData} {kvs:List (PyData×PyData)} {ks:List (bI×V)} (h:ce H ((k,d)::kvs) ks):∃ κ v r,ks=(κ,v)::r/\k=cR κ/\Rp H d v/\ce H kvs r:=by
  simp only [ce,pS] at h;obtain ⟨κ,v,r,e,⟨e1,p⟩,t⟩:=h;exact ⟨κ,v,r,e,e1,p,t⟩
theorem ce.nil_inv {H:Hp} {ks:List (bI×V)} (h:ce H [] ks):ks=[]:=by simpa only [ce] using h
theorem ce.any {H:Hp} (κ:bI):∀ {kvs:List (PyData×PyData)} {ks:List (bI×V)},ce H kvs ks->(kvs.any fun kv=>df kv.1 (cR κ))=ks.any fun kv=>decide (kv.1=κ)
  | [],ks,h=>by rw [h.nil_inv];rfl
  | (k,d)::kvs,ks,h=>by
    obtain ⟨κ',v,r,rfl,rfl,p,t⟩:=h.cons_inv;rw [List.any_cons,List.any_cons,ce.any κ t,eZ]
theorem ce.repl {H:Hp} (κ:bI) {d:PyData} {v:V} (hv:Rp H d v):∀ {kvs:List (PyData×PyData)} {ks:List (bI×V)},ce H kvs ks ->
    ce H (kvs.map fun kv=>if df kv.1 (cR κ)=true then (kv.1,d) else kv) (ks.map fun kv=>if kv.1=κ then (kv.1,v) else kv)
  | [],ks,h=>by rw [h.nil_inv];simp only [List.map_nil,ce]
  | (k,d')::kvs,ks,h=>by
    obtain ⟨κ',v',r,rfl,rfl,p,t⟩:=h.cons_inv;rw [List.map_cons,List.map_cons];dsimp only;rw [eZ];by_cases e:κ'=κ
    · rw [if_pos (decide_eq_true e),if_pos e];exact ce.cons rfl hv (ce.repl κ hv t)
    · rw [if_neg (by rw [decide_eq_false e];exact Bool.false_ne_true),if_neg e];exact ce.cons rfl p (ce.repl κ hv t)
theorem ce.snoc {H:Hp} {κ:bI} {d:PyData} {v:V} (hv:Rp H d v):∀ {kvs:List (PyData×PyData)} {ks:List (bI×V)},ce H kvs ks->ce H (kvs++[(cR κ,d)]) (ks++[(κ,v)])
  | [],ks,h=>by rw [h.nil_inv];exact ce.cons rfl hv (by simp only [ce])
  | (k,d')::kvs,ks,h=>by
    obtain ⟨κ',v',r,rfl,rfl,p,t⟩:=h.cons_inv;exact ce.cons rfl p (ce.snoc hv t)
theorem ce.put {H:Hp} (κ:bI) {d:PyData} {v:V} (hv:Rp H d v) {kvs:List (PyData×PyData)} {ks:List (bI×V)} (h:ce H kvs ks):ce H (lH kvs (cR κ) d) (fT ks κ v):=by
  unfold lH fT;rw [h.any κ];split
  · exact h.repl κ hv
  · exact h.snoc hv
noncomputable def jh (kvs:List (PyData×PyData)) (k:PyData):Option PyData:=(kvs.find? fun kv=>df kv.1 k).map (·.2)
theorem ce.look {H:Hp} (κ:bI):∀ {kvs:List (PyData×PyData)} {ks:List (bI×V)},ce H kvs ks->(jh kvs (cR κ)=none/\fq ks κ=none)\/∃ d v,jh kvs (cR κ)=some d/\fq ks κ=some v/\Rp H d v
  | [],ks,h=>.inl (by rw [h.nil_inv];exact ⟨rfl,rfl⟩)
  | (k,d)::kvs,ks,h=>by
    obtain ⟨κ',v,r,rfl,rfl,p,t⟩:=h.cons_inv;unfold jh fq;by_cases e:κ'=κ
    · rw [List.find?_cons_of_pos (by rw [eZ];exact decide_eq_true e),List.find?_cons_of_pos (by exact decide_eq_true e)];exact .inr ⟨d,v,rfl,rfl,p⟩
    · rw [List.find?_cons_of_neg (by rw [eZ,decide_eq_false e];exact Bool.false_ne_true),List.find?_cons_of_neg (by rw [decide_eq_false e];exact Bool.false_ne_true)];exact ce.look κ t
theorem oI {d:PyData} {κ:bI} (h:dU d=some κ):d=cR κ:=by
  cases d <;> simp only [dU] at h <;> cases h <;> rfl
theorem p8 {H:Hp} {d:PyData} {x:V} {κ:bI} (h:dZ H d x) (e:dU d=some κ):x=kV κ:=by
  cases d <;> simp only [dU] at e <;> cases e
  · exact aP h
  · exact dH h
theorem qe {H:Hp} {a:Addr} {kvs:List (PyData×PyData)} {ks:List (bI×V)} {κ:bI} (h:Rd H a (.dK ks)) (r:ce H kvs ks):∃ o,jX H a (kV κ) o/\o.isSome=(jh kvs (cR κ)).isSome/\∀ d,jh kvs (cR κ)=some d->∃ v,o=some v/\Rp H d v:=by
  refine ⟨fq ks κ,.inl ⟨ks,κ,h,rfl,rfl⟩,?_⟩;rcases r.look κ with ⟨e1,e2⟩ | ⟨d,v,e1,e2,p⟩
  · rw [e1,e2];exact ⟨rfl,fun d z=>by cases z⟩
  · rw [e1,e2];exact ⟨rfl,fun d z=>by cases z;exact ⟨v,rfl,p⟩⟩
noncomputable def gi:PyData->PyData->R PyData
  | .int i,.int j=>.ok (.int (i-j))
  | _,_=>.no
noncomputable def cH:PyData->PyData->R PyData
  | .int i,.int j=>if 0 < j then .ok (.int (i%j)) else .no
  | _,_=>.no
noncomputable def iQ:PyData->PyData->R PyData
  | .int i,.int j=>if 0 < j/\j < 1073741824 then .ok (.int (i / j)) else .no
  | _,_=>.no
noncomputable def dm (p:Int->Int->Bool):PyData->PyData->R PyData
  | .int i,.int j=>.ok (.bool (p i j))
  | _,_=>.no
noncomputable def jI (x y:PyData):Bool:=x.canLay0&&y.canLay0&&decide (min x.depth y.depth<=60)
noncomputable def l7 (x y:PyData):R PyData:=if jI x y=true then .ok (.bool (PyData.eqv x y)) else .no
noncomputable def k9 (x y:PyData):R PyData:=if jI x y=true then .ok (.bool (!PyData.eqv x y)) else .no
noncomputable def gS:PyData->Bool
  | .none=>true
  | _=>false
noncomputable def h9 (x y:PyData):R PyData:=if gS y=true then .ok (.bool (!gS x)) else .no
section
variable {X:Cx} {a b c:Expr} {fa fb fc:Fe} {pos:Pos}
theorem bV {H:Hp} {i:Int}:Rp H (.int i) (.int i):=by simp only [Rp]
theorem gV {H:Hp} {i:Bool}:Rp H (.bool i) (.bl i):=by simp only [Rp]
theorem pk {H:Hp} {i:Str}:Rp H (.str i) (.str i):=by simp only [Rp]
theorem tF:bW X gK (qX fun i j=>.int (i-j)) gi:=fun H x y dx dy Q hx hy q=>by
  unfold gi at q;split at q
  · exact ⟨_,_,aP hx,aP hy,q _ H (al.refl _) bV⟩
  · exact q.elim
theorem tx:bW X gK (rI (fun _ j=>0 < j) fun i j=>.int (i%j)) cH:=fun H x y dx dy Q hx hy q=>by
  unfold cH at q;split at q
  · split at q
    · rename_i h;exact ⟨_,_,aP hx,aP hy,h,q _ H (al.refl _) bV⟩
    · exact q.elim
  · exact q.elim
theorem tu:bW X gK (rI t6 fun i j=>.int (i / j)) iQ:=fun H x y dx dy Q hx hy q=>by
  unfold iQ at q;split at q
  · split at q
    · rename_i h;exact ⟨_,_,aP hx,aP hy,h,q _ H (al.refl _) bV⟩
    · exact q.elim
  · exact q.elim
theorem lK {p:Int->Int->Bool}:bW X gK (qX fun i j=>.bl (p i j)) (dm p):=fun H x y dx dy Q hx hy q=>by
  unfold dm at q;split at q
  · exact ⟨_,_,aP hx,aP hy,q _ H (al.refl _) gV⟩
  · exact q.elim
theorem eG (ha:Z.cr X a fa) (hb:Z.cr X b fb):Z.cc X (.BinOp a .Sub b pos) (e2 gi fa fb):=⟨have ha:=ha.un;have hb:=hb.un;ic dI sL tF ha hb⟩
theorem ba (ha:Z.cr X a fa) (hb:Z.cr X b fb):Z.cc X (.BinOp a .Mod b pos) (e2 cH fa fb):=⟨have ha:=ha.un;have hb:=hb.un;ic dI sJ tx ha hb⟩
theorem dz (ha:Z.cr X a fa) (hb:Z.cr X b fb):Z.cc X (.BinOp a .FloorDiv b pos) (e2 iQ fa fb):=⟨have ha:=ha.un;have hb:=hb.un;ic dI qF tu ha hb⟩
noncomputable abbrev uS:Int->Int->Bool:=fun i j=>decide (i < j)
noncomputable abbrev gU:Int->Int->Bool:=fun i j=>decide (j < i)
theorem lU (ha:Z.cr X a fa) (hb:Z.cr X b fb):Z.cc X (.Compare a [.Gt] [b] pos) (e2 (dm gU) fa fb):=⟨have ha:=ha.un;have hb:=hb.un;jJ rN lK ha hb (eM _)⟩
theorem kl (ha:Z.cr X a fa) (hb:Z.cr X b fb):Z.mE X (.Compare a [.Lt] [b] pos) (tE (e2 (dm uS) fa fb)):=⟨have ha:=ha.un;have hb:=hb.un;gR uR lK ha hb (eM _)⟩
theorem hR (ha:Z.cr X a fa) (hb:Z.cr X b fb):Z.mE X (.Compare a [.Gt] [b] pos) (tE (e2 (dm gU) fa fb)):=⟨have ha:=ha.un;have hb:=hb.un;gR rN lK ha hb (eM _)⟩
noncomputable def qW (X:Cx) (neg:Bool):R2:=fun x y H Q=>∃ dx dy,dZ H dx x/\dZ H dy y/\jI dx dy=true/\Q (.bl (if neg then !PyData.eqv dx dy else PyData.eqv dx dy)) H
theorem ib {x y:PyData} (h:jI x y=true):x.canLay0=true/\y.canLay0=true/\min x.depth y.depth<=60:=by
  unfold jI at h;rw [Bool.and_eq_true,Bool.and_eq_true,decide_eq_true_eq] at h;exact ⟨h.1.1,h.1.2,h.2⟩
theorem oZ (hu:X.A.units+64 < cLine):fX X (compareOp .Eq) (qW X false):=by
  intro pins s σ H x y v u Q I rx ry h;obtain ⟨dx,dy,hx,hy,ho,q⟩:=h;obtain ⟨c1,c2,c3⟩:=ib ho;obtain ⟨as,r1⟩:=e7 I.hok c1 hx rx;obtain ⟨bs,r2⟩:=e7 I.hok c2 hy ry;exact PySem.SeqAt.compareEq_reads r1 r2 c1 c2 (by omega) ⟨.bl _,H,I,rfl,q⟩
theorem o2 (hu:X.A.units+64 < cLine):fX X (compareOp .NotEq) (qW X true):=by
  intro pins s σ H x y v u Q I rx ry h;obtain ⟨dx,dy,hx,hy,ho,q⟩:=h;obtain ⟨c1,c2,c3⟩:=ib ho;obtain ⟨as,r1⟩:=e7 I.hok c1 hx rx;obtain ⟨bs,r2⟩:=e7 I.hok c2 hy ry;exact PySem.SeqAt.compareNe_reads r1 r2 c1 c2 (by omega) ⟨.bl _,H,I,rfl,q⟩
theorem rT:bW X gK (qW X false) l7:=fun H x y dx dy Q hx hy q=>by
  unfold l7 at q;split at q
  · rename_i h;exact ⟨dx,dy,hx,hy,h,q _ H (al.refl _) gV⟩
  · exact q.elim
theorem rV:bW X gK (qW X true) k9:=fun H x y dx dy Q hx hy q=>by
  unfold k9 at q;split at q
  · rename_i h;exact ⟨dx,dy,hx,hy,h,q _ H (al.refl _) gV⟩
  · exact q.elim
theorem pX (hu:X.A.units+64 < cLine) (ha:Z.cr X a fa) (hb:Z.cr X b fb):Z.cc X (.Compare a [.Eq] [b] pos) (e2 l7 fa fb):=⟨have ha:=ha.un;have hb:=hb.un;jJ (oZ hu) rT ha hb (eM _)⟩
theorem pY (hu:X.A.units+64 < cLine) (ha:Z.cr X a fa) (hb:Z.cr X b fb):Z.cc X (.Compare a [.NotEq] [b] pos) (e2 k9 fa fb):=⟨have ha:=ha.un;have hb:=hb.un;jJ (o2 hu) rV ha hb (eM _)⟩
theorem fK (hu:X.A.units+64 < cLine) (ha:Z.cr X a fa) (hb:Z.cr X b fb):Z.mE X (.Compare a [.Eq] [b] pos) (tE (e2 l7 fa fb)):=⟨have ha:=ha.un;have hb:=hb.un;gR (oZ hu) rT ha hb (eM _)⟩
theorem km (hu:X.A.units+64 < cLine) (ha:Z.cr X a fa) (hb:Z.cr X b fb):Z.mE X (.Compare a [.NotEq] [b] pos) (tE (e2 k9 fa fb)):=⟨have ha:=ha.un;have hb:=hb.un;gR (o2 hu) rV ha hb (eM _)⟩
theorem qA {H:Hp} {d:PyData} {x:V} (h:dZ H d x):decide (x=.non)=gS d:=by
  cases d with
  | none=>rw [kr h];rfl
  | bool b=>rw [kq h];rfl
  | int i=>rw [aP h];rfl
  | str y=>rw [dH h];rfl
  | tuple ds=>obtain ⟨a,vs,rfl,_⟩:=cm h;rfl
  | list ds=>obtain ⟨a,vs,rfl,_⟩:=cw (K:=default) h;rfl
  | dict kvs=>obtain ⟨a,rfl⟩:=n6 h;rfl
theorem rm:bW X gK (fun x y H Q=>y=.non/\Q (.bl (!decide (x=.non))) H) h9:=fun H x y dx dy Q hx hy q=>by
  unfold h9 at q;split at q
  · rename_i h;cases dy <;> simp only [gS,Bool.false_eq_true] at h;exact ⟨kr hy,by rw [qA hx];exact q _ H (al.refl _) gV⟩
  · exact q.elim
theorem mI (ha:Z.cr X a fa) (hb:Z.cr X b fb):Z.cc X (.Compare a [.IsNot] [b] pos) (e2 h9 fa fb):=⟨have ha:=ha.un;have hb:=hb.un;jJ qG rm ha hb (eM _)⟩
end
inductive k6 where
  | nx (ρ:au)
  | rt (d:PyData)
  | bk (ρ:au)
  | ct (ρ:au)
noncomputable abbrev Fs:=au->R k6
structure dF (Fm H:Hp) (σ:St) (ρ:au):Prop where
  fm:al Fm H
  sl:Sl H σ ρ
  own:∀ (i:Nat) (d:PyData) (a:Addr),ρ[i]?=some (.own d)->σ[i]?=some (some (.ref a))->Fm a=none
  apart:∀ (i j:Nat) (d e:PyData) (a:Addr),ρ[i]?=some (.own d)->ρ[j]?=some (.own e)->σ[i]?=some (some (.ref a))->σ[j]?=some (some (.ref a))->i=j
theorem dF.mono {Fm H H':Hp} {σ:St} {ρ:au} (h:dF Fm H σ ρ) (s:al H H'):dF Fm H' σ ρ:=⟨h.fm.trans s,h.sl.mono s,h.own,h.apart⟩
noncomputable def qZ (X:Cx) (Fm:Hp) (r:R k6) (D:j6):Prop :=
  match r with
  | .ok (.nx ρ)=>∀ σ H,dF Fm H σ ρ->D.nx σ H
  | .ok (.rt d)=>∀ v H,al Fm H->Rp H d v->D.rt v H
  | .ok (.bk ρ)=>∀ σ H,dF Fm H σ ρ->D.bk σ H
  | .ok (.ct ρ)=>∀ σ H,dF Fm H σ ρ->D.ct σ H
  | .ex c=>Xw X c Fm/\ud X c Fm
  | .no=>False
noncomputable def rR (X:Cx) (Fm:Hp) (g:Fs):TS:=fun D σ H=>∃ ρ,dF Fm H σ ρ/\qZ X Fm (g ρ) D
noncomputable def gx (X:Cx) (st:Stmt) (g:Fs):Prop:=∀ Fm,PS X st (rR X Fm g)
structure Z.gx (X:Cx) (st:Stmt) (g:Fs):Prop where
  un:D2.gx X st g
noncomputable def fw (X:Cx) (st:List Stmt) (g:Fs):Prop:=∀ Fm,ju X st (rR X Fm g)
structure Z.fw (X:Cx) (st:List Stmt) (g:Fs):Prop where
  un:D2.fw X st g
theorem PS.imp {X:Cx} {e:Stmt} {t t':TS} (h:PS X e t) (i:∀ D σ H,t' D σ H->t D σ H):PS X e t':=fun pins s σ H D I q=>h pins s σ H D I (i D σ H q)
theorem ju.imp {X:Cx} {e:List Stmt} {t t':TS} (h:ju X e t) (i:∀ D σ H,t' D σ H->t D σ H):ju X e t':=fun pins s σ H D I q=>h pins s σ H D I (i D σ H q)
section
variable {X:Cx} {Fm:Hp} {σ:St} {H:Hp} {D:j6}
theorem jA {P:Hp->Hp->PyData->V->Prop} {f:Fe} {k:au->PyData->R k6} (h:rR X Fm (fun ρ=>f ρ>>=k ρ) D σ H) :
    gu X P f σ H (fun v H1=>∃ ρ d,dF Fm H1 σ ρ/\al H H1/\P H H1 d v/\qZ X Fm (k ρ d) D):=by
  obtain ⟨ρ,sl,q⟩:=h;refine ⟨ρ,sl.sl,?_⟩;dsimp only at q;cases e:f ρ with
  | ok d=>rw [e] at q;exact fun v H1 s p=>⟨ρ,d,sl.mono s,s,p,q⟩
  | ex c=>rw [e] at q;exact q.1.mono sl.fm
  | no=>rw [e] at q;exact q
theorem lX {f:au->R Bool} {k:au->Bool->R k6} (h:rR X Fm (fun ρ=>f ρ>>=k ρ) D σ H):rb X f σ H (fun b H1=>∃ ρ,dF Fm H1 σ ρ/\al H H1/\qZ X Fm (k ρ b) D):=by
  obtain ⟨ρ,sl,q⟩:=h;refine ⟨ρ,sl.sl,?_⟩;dsimp only at q;cases e:f ρ with
  | ok d=>rw [e] at q;exact fun H1 s=>⟨ρ,sl.mono s,s,q⟩
  | ex c=>rw [e] at q;exact q.1.mono sl.fm
  | no=>rw [e] at q;exact q
end
noncomputable def dD:Fs:=fun ρ=>.ok (.nx ρ)
noncomputable def jq (h:Fs):k6->R k6
  | .nx ρ=>h ρ
  | o=>.ok o
noncomputable def aJ (g h:Fs):Fs:=fun ρ=>g ρ>>=jq h
noncomputable def nD (t:au->R Bool) (g h:Fs):Fs:=fun ρ=>t ρ>>=fun b=>if b=true then g ρ else h ρ
noncomputable def da (f:Fe):Fs:=fun ρ=>f ρ>>=fun d=>.ok (.rt d)
noncomputable def ve:Fs:=fun _=>.ok (.rt .none)
noncomputable def vc (f:Fe):Fs:=fun ρ=>f ρ>>=fun _=>.ok (.nx ρ)
noncomputable def s9:Fs:=fun ρ=>.ok (.bk ρ)
noncomputable def u9:Fs:=fun ρ=>.ok (.ct ρ)
noncomputable def aR (i:Nat) (f:Fe):Fs:=fun ρ=>f ρ>>=fun d=>.ok (.nx (ρ.set i (.val d)))
noncomputable def fG (i:Nat) (f:Fe):Fs:=fun ρ=>f ρ>>=fun d=>.ok (.nx (ρ.set i (.own d)))
section
variable {X:Cx} {nl:Nat} {G:List Str} {st:Stmt} {sts:List Stmt} {g h:Fs} {f:Fe} {e:Expr} {pos pos':Pos} {x:Str}
theorem c6  : Z.fw X [] dD:=⟨fun Fm=>ju.imp qS fun D σ H ⟨ρ,sl,q⟩=>q σ H sl⟩
theorem aj (h1:Z.gx X st g) (h2:Z.fw X sts h):Z.fw X (st::sts) (aJ g h):=⟨have h1:=h1.un;have h2:=h2.un;fun Fm=>by
  refine ju.imp (pd (h1 Fm) (h2 Fm)) fun D σ H ⟨ρ,sl,q⟩=>⟨ρ,sl,?_⟩
  unfold aJ at q;cases e:g ρ with
  | ex c=>rw [e] at q;exact q
  | no=>rw [e] at q;exact q
  | ok o =>
    rw [e] at q;cases o with
    | nx ρ'=>exact fun σ' H' s'=>⟨ρ',s',q⟩
    | rt d=>exact q
    | bk ρ'=>exact q
    | ct ρ'=>exact q⟩
theorem az (h1:Z.gx X st g):Z.fw X [st] g:=⟨have h1:=h1.un;fun Fm=>qT (h1 Fm)⟩
theorem aZ (he:Z.cc X e f):Z.gx X (.Return (some e) pos) (da f):=⟨have he:=he.un;fun Fm =>
  PS.imp (sU he) fun D σ H h=>(jA (P:=gK) (f:=f) (k:=fun _ d=>.ok (.rt d)) h).post fun v H1 ⟨ρ,d,sl,_,p,q⟩=>q v H1 sl.fm p⟩
theorem dG {c:Expr} {a b:List Stmt} {t:au->R Bool} (hc:Z.mE X c t) (ha:Z.fw X a g) (hb:Z.fw X b h):Z.gx X (.If c a b pos) (nD t g h):=⟨have hc:=hc.un;have ha:=ha.un;have hb:=hb.un;fun Fm =>
  PS.imp (u0 hc (ha Fm) (hb Fm)) fun D σ H q=>(lX (f:=t) (k:=fun ρ b=>if b=true then g ρ else h ρ) q).post fun b H1 ⟨ρ,sl,_,q⟩=>by
    cases b with
    | true=>exact ⟨ρ,sl,q⟩
    | false=>exact ⟨ρ,sl,q⟩⟩
theorem Sl.set {H:Hp} {σ:St} {ρ:au} {c:bK} {o:Option V} (h:Sl H σ ρ) (i:Nat) (hc:ez H c o):Sl H (σ.set i o) (ρ.set i c):=by
  refine ⟨by rw [List.length_set,List.length_set];exact h.1,fun j c' o' h1 h2=>?_⟩;rw [List.getElem?_set] at h1 h2;by_cases hij:i=j
  · rw [if_pos hij] at h1 h2;by_cases hi:i < ρ.length
    · rw [if_pos hi] at h1;rw [if_pos (by rw [h.1];exact hi)] at h2;cases h1;cases h2;exact hc
    · rw [if_neg hi] at h1;cases h1
  · rw [if_neg hij] at h1 h2;exact h.2 j c' o' h1 h2
theorem bx {ρ:au} {i j:Nat} {c:bK} {d:PyData} (hc:∀ e,c≠.own e) (h:(ρ.set i c)[j]?=some (.own d)):i≠j/\ρ[j]?=some (.own d):=by
  rw [List.getElem?_set] at h;by_cases hij:i=j
  · rw [if_pos hij] at h;split at h
    · exact absurd (Option.some.inj h) (hc d)
    · cases h
  · rw [if_neg hij] at h;exact ⟨hij,h⟩
theorem dF.set {Fm H:Hp} {σ:St} {ρ:au} {c:bK} {o:Option V} (h:dF Fm H σ ρ) (i:Nat) (hn:∀ e,c≠.own e) (hc:ez H c o):dF Fm H (σ.set i o) (ρ.set i c):=by
  refine ⟨h.fm,h.sl.set i hc,fun j d a h1 h2=>?_,fun j k d e a h1 h2 h3 h4=>?_⟩
  · obtain ⟨ne,h1⟩:=bx hn h1;rw [List.getElem?_set,if_neg ne] at h2;exact h.own j d a h1 h2
  · obtain ⟨ne,h1⟩:=bx hn h1;obtain ⟨ne',h2⟩:=bx hn h2;rw [List.getElem?_set,if_neg ne] at h3;rw [List.getElem?_set,if_neg ne'] at h4;exact h.apart j k d e a h1 h2 h3 h4
theorem jO {H:Hp} {d:PyData} {v:V} (h:eT H d v):∃ a o,v=.ref a/\H a=some o:=by
  cases d <;> simp only [eT] at h
  · obtain ⟨a,vs,e,ha,_⟩:=h;exact ⟨a,_,e,ha⟩
  · obtain ⟨a,vs,e,ha,_⟩:=h;exact ⟨a,_,e,ha⟩
theorem dF.setOwn {Fm H0 H:Hp} {σ:St} {ρ:au} {d:PyData} {v:V} (h0:dF Fm H0 σ ρ) (h:dF Fm H σ ρ) (hs:al H0 H) (i:Nat) (hn:tT H0 H d v):dF Fm H (σ.set i (some v)) (ρ.set i (.own d)):=by
  obtain ⟨p,a,rfl,ha⟩:=hn;have old:∀ (j:Nat) (e:PyData) (b:Addr),i≠j->(ρ.set i (.own d))[j]?=some (.own e)->(σ.set i (some (.ref a)))[j]?=some (some (.ref b))->ρ[j]?=some (.own e)/\σ[j]?=some (some (.ref b)):=fun j e b ne h1 h2=>by
    rw [List.getElem?_set,if_neg ne] at h1 h2;exact ⟨h1,h2⟩
  have notA:∀ (j:Nat) (e:PyData),ρ[j]?=some (.own e)->σ[j]?=some (some (.ref a))->False:=fun j e h1 h2=>by
    obtain ⟨u,e1,q⟩:=h0.sl.2 j _ _ h1 h2;cases e1;obtain ⟨b,o,e2,hb⟩:=jO q;cases e2;rw [ha] at hb;cases hb
  have here:∀ (b:Addr),(σ.set i (some (.ref a)))[i]?=some (some (.ref b))->b=a:=fun b h2=>by
    rw [List.getElem?_set,if_pos rfl] at h2;split at h2
    · cases h2;rfl
    · cases h2
  refine ⟨h.fm,h.sl.set i ⟨_,rfl,p⟩,fun j e b h1 h2=>?_,fun j k e f b h1 h2 h3 h4=>?_⟩
  · by_cases hij:i=j
    · subst hij;rw [here b h2];exact (h0.fm).free ha
    · obtain ⟨h1,h2⟩:=old j e b hij h1 h2;exact h.own j e b h1 h2
  · by_cases hij:i=j
    · subst hij;have eb:=here b h3;by_cases hik:i=k
      · exact hik
      · obtain ⟨h2,h4⟩:=old k f b hik h2 h4;rw [eb] at h4;exact (notA k f h2 h4).elim
    · obtain ⟨h1,h3⟩:=old j e b hij h1 h3;by_cases hik:i=k
      · subst hik;have eb:=here b h4;rw [eb] at h3;exact (notA j e h1 h3).elim
      · obtain ⟨h2,h4⟩:=old k f b hik h2 h4;exact h.apart j k e f b h1 h2 h3 h4
theorem ay (T:Tb X nl G) (i:Nat) (hN:(X.N.take nl)[i]?=some x) (he:Z.cc X e f) (hs:swapsWith e (some (.Name x pos')) pos.line X.env=pure false:=by rfl):Z.gx X (.Assign [.Name x pos'] e pos) (aR i f):=⟨have he:=he.un;fun Fm=>by
  have hm:=T.loc x (List.mem_of_getElem? hN);have hi:X.N[i]?=some x:=by
    rw [List.getElem?_take] at hN;split at hN
    · exact hN
    · cases hN
  exact PS.imp (o9 T.nd hi hm.1 he hs hm.2) fun D σ H h=>(jA (P:=gK) (f:=f) (k:=fun ρ d=>.ok (.nx (ρ.set i (.val d)))) h).post fun v H1 ⟨ρ,d,sl,_,p,q⟩ =>
    q _ H1 (sl.set i (fun e z=>by cases z) ⟨v,rfl,p⟩)⟩
theorem kh (T:Tb X nl G) (i:Nat) (hN:(X.N.take nl)[i]?=some x) (he:Z.iI X e f) (hs:swapsWith e (some (.Name x pos')) pos.line X.env=pure false:=by rfl):Z.gx X (.Assign [.Name x pos'] e pos) (fG i f):=⟨have he:=he.un;fun Fm=>by
  have hm:=T.loc x (List.mem_of_getElem? hN);have hi:X.N[i]?=some x:=by
    rw [List.getElem?_take] at hN;split at hN
    · exact hN
    · cases hN
  refine PS.imp (o9 T.nd hi hm.1 he hs hm.2) fun D σ H h=>?_
  obtain ⟨ρ0,sl0,q0⟩:=h;refine ⟨ρ0,sl0.sl,?_⟩;unfold fG at q0;cases ef:f ρ0 with
  | ex c=>rw [ef] at q0;exact q0.1.mono sl0.fm
  | no=>rw [ef] at q0;exact q0
  | ok d =>
    rw [ef] at q0;exact fun v H1 s p=>q0 _ H1 (dF.setOwn sl0 (sl0.mono s) s i p)⟩
end
structure r9 (J:It) (Gd:Hp->Prop) (ds:List PyData):Prop where
  go:∀ i H,Gd H->i < ds.length->J.go i H
  yld:∀ i H x H' d,Gd H->ds[i]?=some d->J.yld i H x H'->al H H'/\Rp H' d x
  stop:∀ i H,Gd H->ds.length<=i->J.stop i H
noncomputable def vS (H0:Hp) (B:Addr->Prop) (Gd:Hp->Prop):Prop:=∀ H,Kp H0 H->(∀ b o,B b->H0 b=some o->H b=some o)->Gd H
noncomputable def xh (X:Cx) (f:au->R (List PyData)):TI:=fun σ H Rk=>∃ ρ,Sl H σ ρ/\match f ρ with
  | .ok ds=>∀ J H',al H H'->(∃ Gd,r9 J Gd ds/\vS H' (fun _=>False) Gd)->Rk J H'
  | .ex c=>Xw X c H
  | .no=>False
noncomputable def mD (X:Cx) (tg iter:Expr) (f:au->R (List PyData)):Prop:=PI X tg iter (xh X f)
structure Z.mD (X:Cx) (tg iter:Expr) (f:au->R (List PyData)):Prop where
  un:D2.mD X tg iter f
noncomputable def xg (X:Cx) (b:PyData->au->Option au):TG:=fun v σ H Q=>∃ ρ d,Sl H σ ρ/\Rp H d v/\match b d ρ with
  | some ρ'=>∀ σ',Sl H σ' ρ'->(∀ (i:Nat) (e:PyData),ρ'[i]?=some (.own e)->ρ[i]?=some (.own e)/\σ'[i]?=σ[i]?)->Q σ' H
  | none=>False
noncomputable def lf (X:Cx) (tg:Expr) (b:PyData->au->Option au):Prop:=PG X tg (xg X b)
structure Z.lf (X:Cx) (tg:Expr) (b:PyData->au->Option au):Prop where
  un:D2.lf X tg b
noncomputable def aI (i:Nat):PyData->au->Option au:=fun d ρ=>some (ρ.set i (.val d))
theorem PG.imp {X:Cx} {e:Expr} {t t':TG} (h:PG X e t) (i:∀ v σ H Q,t' v σ H Q->t v σ H Q):PG X e t':=fun pins s σ H v u Q I r q=>h pins s σ H v u Q I r (i v σ H Q q)
theorem PI.imp {X:Cx} {tg e:Expr} {t t':TI} (h:PI X tg e t) (i:∀ σ H Q,t' σ H Q->t σ H Q):PI X tg e t':=fun pins s σ H Q I q=>h pins s σ H Q I (i σ H Q q)
section
variable {X:Cx} {nl:Nat} {G:List Str} {x:Str} {pos:Pos}
theorem Tb.nm (T:Tb X nl G) {i:Nat} (hN:(X.N.take nl)[i]?=some x):X.N[i]?=some x/\sa X.env.scope x/\(X.fn x=true\/X.env.scope.names.lookup x=some .local):=by
  have hm:=T.loc x (List.mem_of_getElem? hN);have hi:X.N[i]?=some x:=by
    rw [List.getElem?_take] at hN;split at hN
    · exact hN
    · cases hN
  exact ⟨hi,hm⟩
theorem aN (T:Tb X nl G) (i:Nat) (hN:(X.N.take nl)[i]?=some x):Z.lf X (.Name x pos) (aI i):=⟨by
  obtain ⟨hi,h1,h2⟩:=T.nm hN;refine PG.imp (jQ T.nd hi h1 h2) fun v σ H Q zq0=>?_
  obtain ⟨ρ,d,sl,p,q⟩:=zq0;refine q _ (sl.set i ⟨v,rfl,p⟩) fun j e h=>?_
  obtain ⟨ne,h⟩:=bx (fun e z=>by cases z) h;exact ⟨h,by rw [List.getElem?_set,if_neg ne]⟩⟩
end
noncomputable def dY (b:PyData->au->Option au) (g:Fs):List PyData->Fs
  | [],ρ=>.ok (.nx ρ)
  | d::ds,ρ=>match b d ρ with
    | none=>.no
    | some ρ1=>g ρ1>>=fun o=>match o with
      | .nx ρ2=>dY b g ds ρ2
      | .ct ρ2=>dY b g ds ρ2
      | .bk ρ2=>.ok (.nx ρ2)
      | .rt r=>.ok (.rt r)
noncomputable def jU (it:au->R (List PyData)) (b:PyData->au->Option au) (g:Fs):Fs:=fun ρ=>it ρ>>=fun ds=>dY b g ds ρ
noncomputable def stab (Fm H:Hp):Hp:=fun b=>match H b with
  | some (.tup xs)=>some (.tup xs)
  | some (.frz o u)=>some (.frz o u)
  | _=>Fm b
theorem nF {Fm H:Hp} (h:al Fm H):al (stab Fm H) H:=fun b o e=>by
  unfold stab at e;split at e
  · rename_i q;rw [q];exact e
  · rename_i q;rw [q];exact e
  · exact h b o e
theorem rj {Fm H:Hp}:Kp H (stab Fm H):=⟨fun b xs e=>by unfold stab;rw [e],fun b o u e=>by unfold stab;rw [e]⟩
theorem ri {Fm H:Hp} (h:al Fm H):al Fm (stab Fm H):=fun b o e=>by
  have:=h b o e;unfold stab;split
  · rename_i q;rw [this] at q;exact q.symm
  · rename_i q;rw [this] at q;exact q.symm
  · exact e
theorem dF.stab {Fm H:Hp} {σ:St} {ρ:au} (h:dF Fm H σ ρ):dF (stab Fm H) H σ ρ:=by
  refine ⟨nF h.fm,h.sl,fun i d a h1 h2=>?_,h.apart⟩;have f:=h.own i d a h1 h2;obtain ⟨u,e1,q⟩:=h.sl.2 i _ _ h1 h2;cases e1;unfold D2.stab;cases d <;> simp only [eT] at q
  · obtain ⟨b,vs,e,hb,_⟩:=q;cases e;rw [hb];exact f
  · obtain ⟨b,vs,e,hb,_⟩:=q;cases e;rw [hb];exact f
theorem dF.unstab {Fm F H:Hp} {σ:St} {ρ:au} (hF:al Fm F) (h:dF F H σ ρ):dF Fm H σ ρ:=⟨hF.trans h.fm,h.sl,fun i d a h1 h2=>hF.free (h.own i d a h1 h2),h.apart⟩
theorem fH {X:Cx} {tg iter:Expr} {body:List Stmt} {it:au->R (List PyData)} {b:PyData->au->Option au} {g:Fs} {pos:Pos} (hp:PassesOwn (model X.prog X.w) X.A X.env X.xe) (hc:X.calm=true) (hi:Z.mD X tg iter it) (hg:Z.lf X tg b) (hb:Z.fw X body g) (hs:∀ x,foldedSetIterable iter X.env x=pure x:=by intro _;rfl):Z.gx X (.For tg iter body [] pos) (jU it b g):=⟨have hi:=hi.un;have hg:=hg.un;have hb:=hb.un;fun Fm=>by
  intro pins s σ H D I h;obtain ⟨ρ,sl,q⟩:=h;unfold jU at q
  -- the frame: what is stable at the loop's dW is only known behind the iterator's making: the body is taken at every frame
  refine sT (wi:=xh X it) (g:=xg X b) (tb:=fun D' σ' H'=>∃ F,rR X F g D' σ' H') hp hc hi hg (fun pins' s' σ' H' D' I' ⟨F,q'⟩=>hb F pins' s' σ' H' D' I' q') hs pins s σ H D I ?_;refine ⟨ρ,sl.sl,?_⟩;cases ei:it ρ with
  | ex c=>rw [ei] at q;exact q.1.mono sl.fm
  | no=>rw [ei] at q;exact q
  | ok ds =>
    rw [ei] at q;intro J H1 s1 ⟨Gd,idt,sta⟩;have sl1:=sl.mono s1;let F:=stab Fm H1
    have hF:al Fm F:=ri sl1.fm
    -- the word: so many items are taken,and the rest gives what the whole gives
    refine ⟨fun i m σ' H'=>m=ds.length-i/\i<=ds.length/\∃ ρ',dF F H' σ' ρ'/\qZ X Fm (dY b g (ds.drop i) ρ') D,⟨ds.length,by simp,Nat.zero_le _,ρ,sl1.stab,by simpa using q⟩,?_⟩;rintro i m σ2 H2 ⟨rfl,hi',ρ2,sl2,q2⟩;have gd:Gd H2:=sta H2 (Kp.trans rj (Kp.of sl2.fm)) fun _ _ z=>z.elim
    by_cases hlt:i < ds.length
    · refine .inr ⟨idt.go i H2 gd hlt,fun σ' H'=>i+1<=ds.length/\∃ ρ',dF F H' σ' ρ'/\qZ X Fm (dY b g (ds.drop (i+1)) ρ') D,fun σ' H' ⟨z,p⟩=>⟨ds.length-(i+1),by omega,rfl,z,p⟩,fun x H3 y=>?_⟩;obtain ⟨d,hd⟩:∃ d,ds[i]?=some d:=⟨ds[i],List.getElem?_eq_getElem hlt⟩
      obtain ⟨s3,p3⟩:=idt.yld i H2 x H3 d gd hd y;have hdrop:ds.drop i=d::ds.drop (i+1):=by
        rw [List.drop_eq_getElem_cons hlt];congr 1;exact Option.some.inj ((List.getElem?_eq_getElem hlt).symm.trans hd)
      rw [hdrop] at q2;unfold dY at q2;have sl3:=sl2.mono s3;refine ⟨ρ2,d,sl3.sl,p3,?_⟩;cases eb:b d ρ2 with
      | none=>rw [eb] at q2;exact q2
      | some ρ3 =>
        rw [eb] at q2;intro σ4 sl4 hown;refine ⟨F,ρ3,⟨sl3.fm,sl4,fun j e a h1 h2=>?_,fun j k e f a h1 h2 h3 h4=>?_⟩,?_⟩
        · obtain ⟨z1,z2⟩:=hown j e h1;exact sl3.own j e a z1 (by rw [<- z2];exact h2)
        · obtain ⟨z1,z2⟩:=hown j e h1;obtain ⟨z3,z4⟩:=hown k f h2;exact sl3.apart j k e f a z1 z3 (by rw [<- z2];exact h3) (by rw [<- z4];exact h4)
        · have q3:qZ X Fm (g ρ3>>=fun o=>match o with
            | .nx ρ2=>dY b g (ds.drop (i+1)) ρ2
            | .ct ρ2=>dY b g (ds.drop (i+1)) ρ2
            | .bk ρ2=>.ok (.nx ρ2)
            | .rt r=>.ok (.rt r)) D:=q2
          cases eg:g ρ3 with
          | ex c=>rw [eg] at q3;exact ⟨q3.1.mono hF,q3.2.mono hF⟩
          | no=>rw [eg] at q3;exact q3
          | ok o =>
            rw [eg] at q3;cases o with
            | nx ρ4=>exact fun σ' H' s'=>⟨hlt,ρ4,s',q3⟩
            | ct ρ4=>exact fun σ' H' s'=>⟨hlt,ρ4,s',q3⟩
            | bk ρ4=>exact fun σ' H' s'=>q3 σ' H' (s'.unstab hF)
            | rt r=>exact fun v H' s' p'=>q3 v H' (hF.trans s') p'
    · have e:i=ds.length:=by omega
      subst e;refine .inl ⟨idt.stop _ H2 gd (Nat.le_refl _),?_⟩;rw [List.drop_length] at q2;exact q2 σ2 H2 (sl2.unstab hF)⟩
noncomputable def ej (n:Nat) (g:Fs):List PyData->R PyData:=fun ds=>g (ds.map bK.val++List.replicate (n-ds.length) .non)>>=fun o=>match o with
  | .rt d=>.ok d
  | .nx _=>.ok .none
  | _=>.no
noncomputable def eu (F:List PyData->R PyData) (n:Nat):Sp:=fun vs H Q E=>∃ ds,aM H ds vs/\ds.length=n/\match F ds with
  | .ok d=>∀ v H',al H H'->Rp H' d v->Q v H'
  | .ex c=>∀ H',al H H'->E (.str c 0) none H'
  | .no=>False
theorem kR {H:Hp} {N:List Str}:∀ {ds:List PyData} {vs:List V},aM H ds vs->Sl H (L2.dW N vs) (ds.map bK.val++List.replicate (N.length-ds.length) .non):=fun {ds vs} r=>by
  have hl:=r.length;refine ⟨by unfold L2.dW;rw [List.length_append,List.length_append,List.length_map,List.length_map,List.length_replicate,List.length_replicate,hl],fun i c o h1 h2=>?_⟩;by_cases hi:i < ds.length
  · rw [List.getElem?_append_left (by simpa using hi),List.getElem?_map] at h1;cases e:ds[i]? with
    | none=>rw [e] at h1;cases h1
    | some d =>
      rw [e] at h1;cases h1;obtain ⟨v,e1,p⟩:=r.get e;unfold L2.dW at h2;rw [List.getElem?_append_left (by rw [List.length_map,hl];exact hi),List.getElem?_map,e1] at h2;cases h2;exact ⟨v,rfl,p⟩
  · rw [List.getElem?_append_right (by simpa using hi),List.getElem?_replicate] at h1;split at h1
    · cases h1;exact True.intro
    · cases h1
section
variable {P:Program} {w:World} {H:Hp} {h:Heap} {a:Addr}
theorem lF:∀ {o:HO},bw P w H h a o->∃ u,h.get? a=some u
  | .lst xs,x=>by obtain ⟨_,_,_,_,e⟩:=x;exact ⟨_,e⟩
  | .tup xs,x=>by obtain ⟨_,_,_,o,e,_⟩:=x;exact ⟨_,e⟩
  | .dK kvs,x=>by obtain ⟨_,_,_,_,o,_,_,e,_⟩:=x;exact ⟨_,e⟩
  | .dT kvs,x=>by obtain ⟨_,_,_,_,o,_,_,e,_⟩:=x;exact ⟨_,e⟩
  | .set S n,x=>by obtain ⟨o,_,_,_,e,_⟩:=x;exact ⟨_,e⟩
  | .ins C dx fs,x=>by obtain ⟨_,_,_,e,_⟩:=x;exact ⟨_,e⟩
  | .own y,x=>by obtain ⟨_,e⟩:=x;exact ⟨_,e⟩
  | .xd fs,x=>by obtain ⟨_,⟨_,_,_,e,_⟩,_⟩:=x;exact ⟨_,e⟩
  | .rng lo hi,x=>by obtain ⟨_,_,_,e⟩:=x;exact ⟨_,e⟩
  | .frz ob u,x=>by obtain ⟨e,_⟩:=x;exact ⟨_,e⟩
  | .tbl ps,x=>by obtain ⟨_,e,_⟩:=x;exact ⟨_,e⟩
  | .met f y,x=>⟨_,(show h.get? a=some _ from x)⟩
  | .ext φ,x=>by obtain ⟨_,⟨_,e⟩,_⟩:=x;exact ⟨_,e⟩
end
theorem jt.un {P:Program} {w:World} {outer:List Env} {H H':Hp} {s s':Shared} {C:Addr} {e:Value} (f:jt P w outer H s C H' e s'):Un (fY outer) [] H H' s.heap s'.heap:=by
  obtain ⟨p,a0,B,_,fl,ok,_,cov⟩:=f.ex;refine ⟨fun b o q n hb _=>fl.1 _ _ (cov b o q n hb).1,fun b o q n hb _=>(f.slot b o q n hb).1,fun b o q n _=>?_,fun b o q _=>?_,fun b xs q=>f.same _ _ q,fun b o u q=>f.same _ _ q,fun b ps q=>f.same _ _ q⟩
  · by_cases hb:b∈fY outer
    · exact (f.slot b o q n hb).2
    · exact (cov b o q n hb).2
  · cases n:H b with
    | none =>
      by_cases hb:b∈fY outer
      · obtain ⟨sl,z⟩:=(f.slot b o q n hb).1;exact ⟨_,z⟩
      · exact ⟨o,fl.1 _ _ (cov b o q n hb).1⟩
    | some u =>
      obtain ⟨o',z⟩:=lF (ok b u (f.same _ _ n));exact ⟨o',fl.1 _ _ z⟩
theorem jt.hok {P:Program} {w:World} {outer:List Env} {H H':Hp} {s s':Shared} {C:Addr} {e:Value} (f:jt P w outer H s C H' e s'):dt P w H' s'.heap:=by
  obtain ⟨p,a0,B,_,fl,ok,_,_⟩:=f.ex;exact ok.kept fun b u q=>fl.1 b u q
theorem r8.un {P:Program} {w:World} {outer:List Env} {H H':Hp} {s s':Shared} {C:Addr} {e:Value} (f:r8 P w outer H s C H' e s'):Un (fY outer) [] H H' s.heap s'.heap:=f.hld.un
theorem jt.inv {X:Cx} {pins:List (Addr×Obj)} {σ:St} {Hc H1:Hp} {sc s':Shared} {C:Addr} {e:Value} (f:jt X.prog X.w X.stack Hc sc C H1 e s') (I:aq X pins σ Hc sc):aq X pins σ H1 s' :=
  I.call' f.os f.un f.hok f.bare fun b z=>absurd z (by simp)
section
variable {P:Program} {w:World} {l:List Env} {H H':Hp} {s s':Shared} {C p:Addr} {e:Value}
theorem jt.again {a0:Value} {B h':Heap} (f:jt P w l H s C H' e s') (t:ke B l p (.ref C) a0 s'.heap) (t':ke B l p (.ref C) a0 h') (up:s'.heap.UpToSlots h') (okB:dt P w H' B) (hp:H' p=none)
    (cov:∀ b o,s.heap.get? b=some o->H b=none->b∉fY l->B.get? b=some o/\H' b=none):jt P w l H s C H' (.ref p) { s' with heap:=h' }:=by
  refine ⟨f.os,f.bare,f.same,⟨p,a0,B,rfl,t',okB,hp,cov⟩,fun b o q n hb=>?_⟩;obtain ⟨⟨sl,q2⟩,n2⟩:=f.slot b o q n hb;obtain ⟨_,o3,q3,nf⟩:=t.2.2.1.mem hb;rw [q2] at q3;cases q3;obtain ⟨sl3,q4⟩:=up b _ q2 nf;exact ⟨⟨sl3,q4⟩,n2⟩
theorem oU {x:Value} {env env0:Env} (h:env.frame=env0.frame):noteFrame x env=noteFrame x env0:=by
  unfold noteFrame PySem.frameOf;rw [h]
theorem jt.note {M:Model} {A:Around} {E:Value->Shared->Prop} {Q:Unit->Shared->Prop} {env env0:Env} {outer:List Env} {L:Addr} (f:jt P w l H s C H' e s') (hl:l=env0::outer) (hfr:A.frames=some l) (h0:env0.frame=some L) (h1:env.frame=some L)
    (k:∀ h',jt P w l H s C H' e { s' with heap:=h' }->s'.heap.UpToSlots h'->Q () { s' with heap:=h' }):wpAny M A (noteFrame e env) Q E s':=by
  subst hl;obtain ⟨p,a0,B,rfl,t,okB,hp,cov⟩:=f.ex;rw [oU (h1.trans h0.symm)];exact kX hfr h0 t fun h' t' up=>k h' (f.again t t' up okB hp cov) up
theorem jt.pass {α:Type} {M:Model} {A:Around} {E:Value->Shared->Prop} {Q:α->Shared->Prop} {env:Env} {what:String} (f:jt P w l H s C H' e s') (k:∀ h',jt P w l H s C H' e { s' with heap:=h' }->E e { s' with heap:=h' }):wpAny M A (PySem.passOn what e env:Sem α) Q E s':=by
  obtain ⟨p,a0,B,rfl,t,okB,hp,cov⟩:=f.ex;exact pE t fun h' t' up=>k h' (f.again t t' up okB hp cov)
end
section
variable {P:Program} {w:World} {K:PySem.W.Frag} {mg:Str->Option Value} {base:Heap} {N:List Str} {qual:Str} {sc:Scope} {f:Addr} {cdv:Value} {A:Around} {outer:List Env} {s:Shared} {H:Hp} {E:XK} {c:Str}
theorem pG (h:∀ H',al H H'->E (.str c 0) none H'):Xw (cp (cM P w mg) P w K mg base N qual sc f cdv A outer s H E) c H:=by
  intro H1 s1 C hm pins σ Hc sc' e s' I fl;obtain ⟨p,a0,B,rfl,fly,okB,hp,cov⟩:=fl.ex;have old:∀ b o,s.heap.get? b=some o->b≠s.heap.objs.size:=fun b o q=>Nat.ne_of_lt (Heap.lt_size q)
  refine nI I.ok.frames rfl fly fun h' fl' up=>⟨c,C,H1,hm,⟨fl.os.trans I.os,fl.bare,s1,⟨p,a0,B,rfl,fl',okB,hp,fun b o q n hb=>?_⟩,fun b o q n hb=>?_⟩,h H1 s1⟩
  · have q1:=I.base.keep b o q n hb (by simp [cp]);have n1:=I.base.free b o q n (by simp [cp]);refine cov b o q1 n1 fun z=>?_
    have z':b∈(s.heap.objs.size::fY outer):=z;rcases List.mem_cons.mp z' with z2 | z2
    · exact old b o q z2
    · exact hb z2
  · obtain ⟨sl,q1⟩:=I.base.slot b o q n hb (by simp [cp]);have n1:=I.base.free b o q n (by simp [cp]);have hb':b∈fY (cp (cM P w mg) P w K mg base N qual sc f cdv A outer s H E).stack:=List.mem_cons_of_mem _ hb;obtain ⟨⟨sl',q2⟩,n2⟩:=fl.slot b _ q1 n1 hb';obtain ⟨_,o3,q3,nf⟩:=fly.2.2.1.mem hb';rw [q2] at q3;cases q3;obtain ⟨sl3,q4⟩:=up b _ q2 nf;exact ⟨⟨sl3,q4⟩,n2⟩
theorem mC (h:∀ H',al H H'->E (.str c 0) none H'):ud (cp (cM P w mg) P w K mg base N qual sc f cdv A outer s H E) c H:=by
  intro C hm pins σ Hm sm sH I h' p vs hx;have hin:∀ env∈(cp (cM P w mg) P w K mg base N qual sc f cdv A outer s H E).stack,∀ b,env.frame=some b->b∈fY (cp (cM P w mg) P w K mg base N qual sc f cdv A outer s H E).stack:=fun env he b hb=>List.mem_filterMap.mpr ⟨env,he,hb⟩
  have old:∀ b o,s.heap.get? b=some o->b≠s.heap.objs.size:=fun b o q=>Nat.ne_of_lt (Heap.lt_size q)
  refine wpAny_leaves_madeW (s:={ sm with heap:=h' }) (base:=PySem.W.hideAll sm.heap (fY (cp (cM P w mg) P w K mg base N qual sc f cdv A outer s H E).stack)) I.ok.frames rfl (fun b o q=>PySem.W.of_hideAll _ q) (PySem.W.funFrames_hide I.stack hin) hx fun h'' t fl' _ _ up =>
    ⟨c,C,Hm,hm,⟨I.os,I.bare,sH,⟨p,.ref t,_,rfl,fl',fun b u q=>?_,?_,fun b o q n hb=>?_⟩,fun b o q n hb=>?_⟩,h Hm sH⟩
  · refine (I.hok b u q).stay (fun c' v hc z=>PySem.W.hideAll_get _ z fun m=>?_) (fun _ z=>z) fun _ _ z=>z
    have hn:=I.stkFree c' m;rcases hc with rfl | hc
    · rw [hn] at q;cases q
    · rw [hn] at hc;cases hc
  · cases q:Hm p with
    | none=>rfl
    | some u =>
      obtain ⟨o',z⟩:=lF (I.hok p u q);rw [hx.new] at z;cases z
  · have q1:=I.base.keep b o q n hb (by simp [cp]);have n1:=I.base.free b o q n (by simp [cp]);refine ⟨PySem.W.hideAll_get _ q1 fun z=>?_,n1⟩;have z':b∈(s.heap.objs.size::fY outer):=z;rcases List.mem_cons.mp z' with z2 | z2
    · exact old b o q z2
    · exact hb z2
  · obtain ⟨sl,q1⟩:=I.base.slot b o q n hb (by simp [cp]);have n1:=I.base.free b o q n (by simp [cp]);have hb':b∈fY (cp (cM P w mg) P w K mg base N qual sc f cdv A outer s H E).stack:=List.mem_cons_of_mem _ hb;obtain ⟨_,o3,q3,nf⟩:=I.stack.mem hb';rw [q1] at q3;cases q3;obtain ⟨sl3,q4⟩:=up b _ (hx.keeps _ _ q1) nf;exact ⟨⟨sl3,q4⟩,n1⟩
end
theorem qp {P:Program} {w:World} {K:PySem.W.Frag} {mg:Str->Option Value} {base:Heap} {x qual:Str} {st:Stmt} {f:Addr} {fd:FuncData} {N ps:List Str} {k:Nat} {g:Fs} (F:gy K x qual st f fd) (S:aY N ps (ah st))
    (body:∀ (cdv:Value) (A:Around) (outer:List Env) (s:Shared) (H:Hp) (E:XK),cG k (A.deeper (envOfC qual (ah st) s.heap.objs.size f cdv)) ->
      fw (cp (cM P w mg) P w K mg base N qual (ah st) f cdv A outer s H E) (br st) g):bA P w K mg base (cM P w mg) (k+1) f fd ps (eu (ej N.length g) ps.length):=by
  obtain ⟨oc,od,kV,doc,pm,an,cdv,ct,osl,rfl,lk,hcd⟩:=F.ex;refine oy lk hcd S (fun vs H Q E ⟨ds,r,hl,_⟩=>by rw [r.length];exact hl) fun A outer s H vs Q E hr h=>?_
  obtain ⟨ds,r,hl,q⟩:=h;have noOwn:∀ (i:Nat) (d:PyData),(ds.map bK.val++List.replicate (N.length-ds.length) bK.non)[i]?=some (.own d)->False:=fun i d h1=>by
    by_cases hi:i < ds.length
    · rw [List.getElem?_append_left (by simpa using hi),List.getElem?_map] at h1;cases e:ds[i]? with
      | none=>rw [e] at h1;cases h1
      | some d=>rw [e] at h1;cases h1
    · rw [List.getElem?_append_right (by simpa using hi),List.getElem?_replicate] at h1;split at h1
      · cases h1
      · cases h1
  refine ⟨_,body cdv A outer s H E hr H,_,⟨al.refl _,kR r,fun i d a h1 h2=>(noOwn i d h1).elim,fun i j d e a h1 h2 h3 h4=>(noOwn i d h1).elim⟩,?_⟩;unfold ej at q;cases eg:g (ds.map bK.val++List.replicate (N.length-ds.length) .non) with
  | ex c=>rw [eg] at q;exact ⟨pG q,mC q⟩
  | no=>rw [eg] at q;exact q.elim
  | ok o =>
    rw [eg] at q;cases o with
    | rt d=>exact fun v H' s' p=>q v H' s' p
    | nx ρ=>exact fun σ' H' s'=>q .non H' s'.fm (by simp only [Rp])
    | bk ρ=>exact q.elim
    | ct ρ=>exact q.elim
noncomputable def bh (F:List PyData->R PyData) (fs:au->R (List PyData)):Fe:=fun ρ=>fs ρ>>=F
theorem qm {X:Cx} {k n:Nat} {f:Addr} {fd:FuncData} {ps:List Str} {F:List PyData->R PyData} {x:Str} {p pos:Pos} {e:Expr} {es:List Expr} {fs:au->R (List PyData)} {nl:Nat} {G:List Str}
    (C:bA X.prog X.w X.K X.mg X.base (cM X.prog X.w X.mg) k f fd ps (eu F n)) (hr:cG k X.A) (T:Tb X nl G) (j:Nat) (hG:G[j]?=some x) (hm:X.mg x=some (.ref f)) (hk:PySem.W.keepIn X.K (.ref f)=true) (hb:bY X.K fd ps []) (ha:lR X (e::es) fs)
    (hlen:(e::es).length=n) (hfs:∀ ρ ds,fs ρ=.ok ds->ds.length=n)
    (he:(e::es).all aL=true:=by rfl):cc X (.Call (.Name x p) (e::es) [] pos) (bh F fs):=by
  rw [List.all_cons,Bool.and_eq_true] at he;have g:=T.gl x (List.mem_of_getElem? hG);refine PE.imp (qK C hr g.1 hm hk hb .nil qJ ha g.2.1 (bU he.1) (iA he.2)) fun σ H Q zq0=>?_
  obtain ⟨ρ,sl,q⟩:=zq0;refine ⟨ρ,sl,?_⟩;unfold bh at q;cases e1:fs ρ with
  | ex c=>rw [e1] at q;exact q
  | no=>rw [e1] at q;exact q
  | ok ds =>
    rw [e1] at q;intro vs H1 s1 r1;rw [List.append_nil];refine ⟨ds,jR.mp r1,hfs ρ ds e1,?_⟩;have q':nA X gK (F ds) H Q:=q;cases e2:F ds with
    | ok d=>rw [e2] at q';exact fun v H' s' p'=>q' v H' (s1.trans s') p'
    | ex c=>rw [e2] at q';exact fun H' s'=>Xw.ex q' H' (s1.trans s')
    | no=>rw [e2] at q';exact q'
theorem aG:∀ ρ ds,aO ρ=.ok ds->ds.length=0:=fun ρ ds e=>by cases e;rfl
theorem ak {f:Fe} {g:au->R (List PyData)} {n:Nat} (h:∀ ρ ds,g ρ=.ok ds->ds.length=n):∀ ρ ds,ai f g ρ=.ok ds->ds.length=n+1:=fun ρ ds e=>by
  unfold ai at e;cases e1:f ρ with
  | ex c=>rw [e1] at e;cases e
  | no=>rw [e1] at e;cases e
  | ok d =>
    rw [e1] at e;cases e2:g ρ with
    | ex c=>rw [e2] at e;cases e
    | no=>rw [e2] at e;cases e
    | ok ds'=>rw [e2] at e;cases e;rw [List.length_cons,h ρ ds' e2]
theorem lp {scope:Scope} {env:Env} (h:∀ x∈scope.names,x.2=.free->∃ c,env.cells.lookup x.1=some c) :
    ∃ cl,closureFor scope env=pure cl/\(∀ x c,cl.lookup x=some c->env.cells.lookup x=some c)/\∀ x∈scope.names,x.2=.free->∃ c,cl.lookup x.1=some c:=by
  suffices gen:∀ (names:List (Str×NameKind)) (acc:List (Str×Addr)),(∀ x∈names,x.2=.free->∃ c,env.cells.lookup x.1=some c)->(∀ x c,acc.lookup x=some c->env.cells.lookup x=some c) ->
      ∃ cl,(forIn names acc fun x r=>if (x.snd==NameKind.free)=true then do let a <- cellOf env x.fst;pure (ForInStep.yield ((x.fst,a)::r)) else pure (ForInStep.yield r):Sem (List (Str×Addr)))=pure cl /\
        (∀ x c,cl.lookup x=some c->env.cells.lookup x=some c)/\(∀ x c,acc.lookup x=some c->∃ c',cl.lookup x=some c')/\∀ x∈names,x.2=.free->∃ c,cl.lookup x.1=some c by
    obtain ⟨cl,h1,h2,_,h4⟩:=gen scope.names [] h fun x c e=>by simp at e
    refine ⟨cl,?_,h2,h4⟩;simp only [closureFor];rw [h1];rfl
  intro names;induction names with
  | nil=>intro acc _ ha;exact ⟨acc,rfl,ha,fun x c e=>⟨c,e⟩,fun x hx=>by cases hx⟩
  | cons y r ih =>
    intro acc hn ha;obtain ⟨n,k⟩:=y;by_cases hk:k=.free
    · subst hk;obtain ⟨c,hc⟩:=hn (n,.free) List.mem_cons_self rfl;obtain ⟨cl,e1,e2,e3,e4⟩:=ih ((n,c)::acc) (fun x hx=>hn x (List.mem_cons_of_mem _ hx)) (fun x c' e=>by
        rw [List.lookup_cons] at e;split at e
        · rename_i q;have:x=n:=by simpa using q
          subst this;cases e;exact hc
        · exact ha x c' e)
      refine ⟨cl,?_,e2,fun x c' e=>?_,fun x hx hf=>?_⟩
      · rw [List.forIn_cons];have:cellOf env n=pure c:=by unfold cellOf;rw [hc]
        simp only [beq_self_eq_true,if_true,this,pure_bind];exact e1
      · by_cases hx:x=n
        · subst hx;exact e3 x c (by rw [List.lookup_cons];simp)
        · have hb:(x==n)=false:=by simpa using hx
          exact e3 x c' (by rw [List.lookup_cons,hb];exact e)
      · rcases List.mem_cons.mp hx with rfl | hx
        · exact e3 n c (by rw [List.lookup_cons];simp)
        · exact e4 x hx hf
    · obtain ⟨cl,e1,e2,e3,e4⟩:=ih acc (fun x hx=>hn x (List.mem_cons_of_mem _ hx)) ha;refine ⟨cl,?_,e2,e3,fun x hx hf=>?_⟩
      · rw [List.forIn_cons];have:(k==NameKind.free)=false:=by simpa using hk
        simp only [this,Bool.false_eq_true,if_false,pure_bind];exact e1
      · rcases List.mem_cons.mp hx with rfl | hx
        · exact absurd hf hk
        · exact e4 x hx hf
noncomputable def u7 (env:Env) (p:Str×NameKind):NameKind:=if (p.2==.free&&env.scope.kind==.function&&env.kindOf p.1==some .cell)=true then .cell else p.2
theorem iW (scope:Scope) (env:Env):(relabel scope env).names=scope.names.map fun p=>(p.1,u7 env p):=by
  unfold relabel;refine List.map_congr_left fun p _=>?_
  obtain ⟨n,k⟩:=p;unfold u7;dsimp only;split <;> rfl
theorem gE (g:Str×NameKind->NameKind) (x:Str):∀ l:List (Str×NameKind),(l.map fun p=>(p.1,g p)).lookup x=(l.lookup x).map fun k=>g (x,k)
  | []=>rfl
  | (n,k)::r=>by
    rw [List.map_cons];cases hx:x==n with
    | true =>
      have e:x=n:=by simpa using hx
      subst e;simp
    | false =>
      have ne:¬ x=n:=by simpa using hx
      simp only [List.lookup_cons,hx];exact gE g x r
theorem fF (scope:Scope) (env:Env) (x:Str):(relabel scope env).names.lookup x=(scope.names.lookup x).map fun k=>u7 env (x,k):=by
  rw [iW];exact gE _ _ _
theorem cy {scope:Scope} {env:Env} {x:Str} {k:NameKind} (h:scope.names.lookup x=some k) (hk:k≠.free):(relabel scope env).names.lookup x=some k:=by
  rw [fF,h];have:(k==NameKind.free)=false:=by simpa using hk
  simp only [u7,this,Bool.false_and,Bool.false_eq_true,if_false,Option.map_some]
theorem fU {scope:Scope} {env:Env} {x:Str} (h:scope.names.lookup x=some .free):(relabel scope env).names.lookup x=some .free\/(relabel scope env).names.lookup x=some .cell:=by
  rw [fF,h];unfold u7;dsimp only [Option.map_some];split
  · exact .inr rfl
  · exact .inl rfl
theorem kM {scope:Scope} {env:Env} {x:Str} (hc:∀ y∈scope.names,y.2≠.cell) (h:(relabel scope env).names.lookup x=some .free\/(relabel scope env).names.lookup x=some .cell):(x,NameKind.free)∈scope.names:=by
  cases e:scope.names.lookup x with
  | none =>
    rw [fF,e] at h;rcases h with h | h <;> cases h
  | some k =>
    by_cases hk:k=.free
    · subst hk;exact PySem.mem_of_lookup e
    · exfalso;have:=cy (env:=env) e hk;rw [this] at h;rcases h with h | h
      · cases h;exact hk rfl
      · cases h;exact hc _ (PySem.mem_of_lookup e) rfl
noncomputable def ax (X:Cx) (N:List Str) (scope:Scope) (cl:List (Str×Addr)) (C:Addr) (s:Shared) (H:Hp) (fp:List Addr) (E:Value->Shared->Prop:=fun _ _=>False):Cx :=
  { X with N:=N,s₀:=s,H₀:=H,env:=compEnvC scope cl C X.env,outer:=X.stack,stack:=X.stack,ex:=fp,fn:=fun _=>false,pn:=[],xe:=E }
noncomputable def cA (sc:Scope) (N:List Str) (own:Nat) (G:List Str) (oN:List Str) (fr:List Nat):Prop :=
  sc.kind=.function/\(∀ y∈sc.names,y.2≠.cell)/\(∀ y∈sc.names,y.2=.local->sc.names.lookup y.1=some .local)/\N.Nodup/\(∀ x∈N.take own,sc.names.lookup x=some .local)/\(∀ x∈N.drop own,sc.names.lookup x=some .free) /\
  (∀ x∈N,(x==("__debug__" : Str))=false/\(x==("__classdict__" : Str))=false)/\(∀ x∈G,sc.names.lookup x=some .globalImplicit/\(x==("__debug__" : Str))=false/\x≠("__name__" : Str)) /\
  own<=N.length/\(N.drop own).map some=fr.map fun i=>oN[i]?
noncomputable instance {sc:Scope} {N:List Str} {own:Nat} {G oN:List Str} {fr:List Nat}:Decidable (cA sc N own G oN fr):=by unfold cA;infer_instance
theorem qc {X:Cx} {nl:Nat} {G0:List Str} (T:Tb X nl G0) {sc:Scope} {N:List Str} {own:Nat} {G oN:List Str} {fr:List Nat} (ck:cA sc N own G oN fr) (cl:List (Str×Addr)) (C:Addr) (s:Shared) (H:Hp) (fp:List Addr) :
    Tb (ax X N sc cl C s H fp) own G:=by
  obtain ⟨_,_,_,nd,l,f,db,g,_,_⟩:=ck;refine ⟨T.hu,T.calm,nd,fun x hx=>?_,fun x hx=>?_,fun x hx=>?_⟩
  · refine ⟨?_,db x hx⟩;have hx':x∈N.take own++N.drop own:=by rw [List.take_append_drop];exact hx
    rcases List.mem_append.mp hx' with z | z
    · exact .inl (cy (l x z) (by decide))
    · rcases fU (env:=X.env) (f x z) with q | q
      · exact .inr (.inr q)
      · exact .inr (.inl q)
  · have q:=cy (env:=X.env) (l x hx) (by decide);exact ⟨.inl q,.inr q⟩
  · obtain ⟨g1,g2,g3⟩:=g x hx;exact ⟨cy (env:=X.env) g1 (by decide),g2,g3⟩
theorem oh {X:Cx} {nl:Nat} {G0:List Str} (T:Tb X nl G0) {sc:Scope} {N:List Str} {own:Nat} {G oN:List Str} {fr:List Nat} (ck:cA sc N own G oN fr) (cl:List (Str×Addr)) (C:Addr) (s:Shared) (H:Hp) (fp:List Addr) (E:Value->Shared->Prop) :
    Tb (ax X N sc cl C s H fp E) own G:=let T1:=qc T ck cl C s H fp;⟨T1.hu,T1.calm,T1.nd,T1.vis,T1.loc,T1.gl⟩
noncomputable def xm (X:Cx) (ifs:List Expr) (t:TT):Prop :=
  ∀ (pins:List (Addr×Obj)) (s:Shared) (σ:St) (H:Hp) (Q:Bool->Hp->Prop),aq X pins σ H s->t σ H Q->wpAny (model X.prog X.w) X.A (forIn ifs true fun c r=>if r=true then do let ok <- isTrue c X.env (eval c X.env);pure (ForInStep.yield ok) else pure (ForInStep.yield r))
    (TP X pins σ Q) X.xe s
noncomputable def nK (X:Cx) (ifs:List Expr) (t:au->R Bool):Prop:=xm X ifs (rb X t)
structure Z.nK (X:Cx) (ifs:List Expr) (t:au->R Bool):Prop where
  un:D2.nK X ifs t
theorem bC {X:Cx}:Z.nK X [] (fun _=>.ok true):=⟨fun pins s σ H Q I ⟨ρ,sl,q⟩=>wpAny_tests_nil ⟨H,I,q H (al.refl _)⟩⟩
noncomputable def bE (b:PyData->au->Option au) (t:au->R Bool) (f:Fe) (ρ:au):List PyData->R (List PyData)
  | []=>.ok []
  | d::ds=>match b d ρ with
    | none=>.no
    | some ρ1=>t ρ1>>=fun k=>if k=true then f ρ1>>=fun x=>bE b t f ρ ds>>=fun xs=>.ok (x::xs) else bE b t f ρ ds
noncomputable def ap (own:Nat) (fr:List Nat) (ρ:au):au:=List.replicate own .non++fr.map fun i=>ρ.getD i .non
noncomputable def kG {α:Type}:R α->R α
  | .ex _=>.no
  | r=>r
noncomputable def bq (it:au->R (List PyData)) (own:Nat) (fr:List Nat) (b:PyData->au->Option au) (t:au->R Bool) (f:Fe):Fe:=fun ρ =>
  kG (it ρ)>>=fun ds=>if ds.length<=sizeLine then match bE b t f (ap own fr ρ) ds with
    | .ok xs=>.ok (.list xs)
    | .ex c=>.ex c
    | .no=>.no
  else .no
noncomputable def dk (own:Nat) (fr:List Nat) (σ:St):St:=List.replicate own none++fr.map fun i=>(σ[i]?).join
theorem qb {H:Hp} {σ:St} {ρ:au} (h:Sl H σ ρ) (own:Nat) (fr:List Nat) (hin:∀ i∈fr,i < ρ.length):Sl H (dk own fr σ) (ap own fr ρ):=by
  refine ⟨by simp [dk,ap],fun i c o h1 h2=>?_⟩;unfold ap at h1;unfold dk at h2;by_cases hi:i < own
  · rw [List.getElem?_append_left (by simpa using hi),List.getElem?_replicate,if_pos hi] at h1;cases h1;exact True.intro
  · rw [List.getElem?_append_right (by simpa using hi),List.getElem?_map,List.length_replicate] at h1 h2;cases e:fr[i-own]? with
    | none=>rw [e] at h1;cases h1
    | some j =>
      rw [e] at h1 h2;have hj:=hin j (List.mem_of_getElem? e);have hj':j < σ.length:=by rw [h.1];exact hj
      cases h1;cases h2;refine h.2 j _ _ ?_ ?_
      · show ρ[j]?=some (ρ.getD j .non);rw [List.getD_eq_getElem?_getD,List.getElem?_eq_getElem hj];rfl
      · show σ[j]?=some ((σ[j]?).join);rw [List.getElem?_eq_getElem hj'];rfl
section
variable {X:Cx} {pins:List (Addr×Obj)} {σ:St} {H:Hp} {s:Shared} {nl:Nat} {G0:List Str} {sc:Scope} {N:List Str} {own:Nat} {G:List Str} {fr:List Nat} {cl:List (Str×Addr)} {fp:List Addr} {a C:Addr} {h4:Heap} {t4:Nat} {m:Str->Option Value}
theorem oC (I:aq X pins σ H s) (ck:cA sc N own G X.N fr) (hf:∀ b∈fp,iJ X pins H b) (hob:∀ b∈fp,b < s.heap.objs.size) (hcl1:∀ x c,cl.lookup x=some c->X.env.cells.lookup x=some c) (hcl2:∀ x∈sc.names,x.2=.free->∃ c,cl.lookup x.1=some c)
    (vis:∀ x∈X.N,tV X.env.scope x) (hout:∀ y∈sc.names,y.2=.free->X.env.kindOf y.1=some .cell\/X.env.kindOf y.1=some .free)
    (ha:s.heap.objs.size<=a) (hC:s.heap.objs.size<=C) (hac:a≠C) (keep:∀ b o,s.heap.get? b=some o->h4.get? b=some o) (hl:h4.get? a=some { cls:=.type "list",data:=.seq #[] 0 }) (hn:h4.Ns C m) :
    aq (ax X N sc cl C s H fp) [] (dk own fr σ) (ca H a (.lst [])) { s with heap:=h4,toks:=t4 }:=by
  obtain ⟨ck1,ck2,ck3,nd,l,f,db,g,ol,ofr⟩:=ck;have hHa:H a=none:=I.hok.fresh ha;have hHC:H C=none:=I.hok.fresh hC;have lt:∀ {b:Addr} {o:Obj},s.heap.get? b=some o->b < s.heap.objs.size:=fun e=>Heap.lt_size e
  have cellLt:∀ x c,cl.lookup x=some c->c < s.heap.objs.size:=fun x c e=>by
    obtain ⟨v,q⟩:=I.cell x c (hcl1 x c e);exact q.lt
  refine ⟨⟨I.ok.mod,ck1,I.ok.glob,I.ok.blt,hC,fun x y c h1 h2=>I.ok.inj x y c (hcl1 x c h1) (hcl1 y c h2),fun x hx=>?_,fun x c hx=>(Bool.false_ne_true hx).elim,I.ok.hd,I.ok.frames,.inl rfl,fun b hb=>⟨?_,fun x c e=>?_⟩,I.bs,Nat.le_trans I.ok.bsz I.sz,fun b o e hb=>?_,fun b hb hs=>?_,I.stack,I.stkFree,fun x hx c P e=>I.base.tbls _ _ (I.ok.tab x hx c P e)⟩,
    rfl,I.bare,Un.laid keep ha hHa,⟨m,hn,fun i x v h1 h2 h3=>?_⟩,fun x c e=>?_,?_,fun x c e=>?_,fun p hp=>?_,?_,?_⟩
  · have q:=kM (env:=X.env) ck2 (show (relabel sc X.env).names.lookup x=some .free\/(relabel sc X.env).names.lookup x=some .cell from hx.elim .inr .inl);exact hcl2 _ q rfl
  · exact Nat.ne_of_lt (Nat.lt_of_lt_of_le (hob b hb) hC)
  · exact (hf b hb).2.2.2.2.1 x c (hcl1 x c e)
  · rcases (hf b hb).2.2.2.1 with z | z
    · exact I.ok.noex b o e z
    · exact absurd (Nat.lt_of_lt_of_le (Heap.lt_size e) I.ok.bsz) (Nat.not_lt.mpr z)
  · rcases List.mem_cons.mp (I.stkSub b hs) with z | z
    · exact (hf b hb).2.1 z
    · exact (hf b hb).2.2.1 z
  · -- a captured name
    have hi:¬ i < own:=fun hi=>by
      unfold dk at h2;rw [List.getElem?_append_left (by simpa using hi),List.getElem?_replicate,if_pos hi] at h2;cases h2
    unfold dk at h2;rw [List.getElem?_append_right (by simpa using hi),List.getElem?_map,List.length_replicate] at h2;cases e:fr[i-own]? with
    | none=>rw [e] at h2;cases h2
    | some j =>
      rw [e] at h2;have h2':(σ[j]?).join=some v:=Option.some.inj h2;have hσ:σ[j]?=some (some v):=by
        cases q:σ[j]? with
        | none=>rw [q] at h2';cases h2'
        | some o=>rw [q] at h2';exact congrArg some h2'
      have hx:(N.drop own)[i-own]?=some x:=by
        rw [List.getElem?_drop];have:own+(i-own)=i:=by omega
        rw [this];exact h1
      have hj:X.N[j]?=some x:=by
        have q:=congrArg (fun l=>l[i-own]?) ofr;simp only [List.getElem?_map,hx,e,Option.map_some] at q;exact (Option.some.inj q).symm
      have hfree:=f x (List.mem_of_getElem? hx);obtain ⟨c,hc⟩:=hcl2 _ (PySem.mem_of_lookup hfree) rfl;have hXc:=hcl1 x c hc;obtain ⟨m0,hn0,hl0⟩:=I.loc;obtain ⟨u,ru,lk⟩:=hl0 j x v hj hσ (vis x (List.mem_of_getElem? hj));have ko:=hout _ (PySem.mem_of_lookup hfree) rfl;refine ⟨u,ru,.inr ⟨(fU (env:=X.env) hfree).symm,c,hc,?_⟩⟩;rcases lk with ⟨k1,_⟩ | ⟨_,c',e1,ob,q1,q2⟩
      · exfalso;rcases ko with k | k <;> (rw [k] at k1;cases k1)
      · rw [hXc] at e1;cases e1;exact ⟨ob,keep _ _ q1,q2⟩
  · obtain ⟨v,o,q,d⟩:=I.cell x c (hcl1 x c e);exact ⟨v,o,keep _ _ q,d⟩
  · show ca H a (.lst []) C=none;rw [am (Ne.symm hac)];exact hHC
  · have q:=I.freeC x c (hcl1 x c e);show ca H a (.lst []) c=none;rw [am (Nat.ne_of_lt (Nat.lt_of_lt_of_le (cellLt x c e) ha))];exact q
  · exact absurd (show p∈([]:List (Addr×Obj)) from hp) (by simp)
  · exact I.hok.laid keep ha ⟨Nat.zero_le _,[],0,.nil,hl⟩
  · show (dk own fr σ).length=N.length;have q:=congrArg List.length ofr;rw [List.length_map,List.length_map,List.length_drop] at q;unfold dk;rw [List.length_append,List.length_replicate,List.length_map];omega
end
noncomputable def gX (ρ0 ρ1:au):Prop:=ρ1.length=ρ0.length/\∀ (i:Nat) (c:bK),ρ0[i]?=some c->c=.non\/ρ1[i]?=some c
theorem Sl.unfit {H:Hp} {σ:St} {ρ0 ρ1:au} (h:Sl H σ ρ1) (f:gX ρ0 ρ1):Sl H σ ρ0:=by
  refine ⟨h.1.trans f.1,fun i c o h1 h2=>?_⟩;rcases f.2 i c h1 with rfl | q
  · exact True.intro
  · exact h.2 i c o q h2
noncomputable def nO (H0:Hp) (σ:St) (ρ:au):Prop:=∀ (i:Nat) (e:PyData),ρ[i]?=some (.own e)->∃ v,σ[i]?=some (some v)/\eT H0 e v
theorem mU {X:Cx} {J:It} {tn:Nat->Heap->Prop} {it a:Addr} {fp:List Addr} {tg iter elt:Expr} {ifs:List Expr} {scope:Scope} {pos:Pos} {b:PyData->au->Option au} {t:au->R Bool} {f:Fe} {ds:List PyData} {r:R (List PyData)} {Gd:Hp->Prop} {H0:Hp} {ρ0:au}
    {Rk:Result->Shared->Prop} (T:nR X.prog X.w X.K tg J fp it tn) (calm:X.calm=true) (hfp:∀ H:Hp,(∀ b∈fp,H b=none)->∀ b∈fp,iJ X [] H b) (hxe:∀ e s',X.xe e s'->notedBy (model X.prog X.w) X.A X.env (fun x s'=>Rk (.error x) s') e s') (hX:∀ c,r=.ex c->Xw X c H0) (hno:r≠.no) (hg:lf X tg b) (ht:nK X ifs t) (hf:cc X elt f)
    (idt:r9 J Gd ds) (sta:vS H0 (fun _=>False) Gd) (hsz:ds.length<=sizeLine) (ha0:H0 a=none) (hb0:∀ d ρ1,b d ρ0=some ρ1->gX ρ0 ρ1)
    (fin:∀ xs s' σ' H' vs,r=.ok xs->aq X [] σ' H' s'->al H0 H'->H' a=some (.lst vs)->aM H' xs vs->Rk (.ok .next) s') :
    ∀ {s:Shared} {σ:St} {H:Hp},aq X [] σ H s->tn 0 s.heap->(∀ b∈fp,H b=none)->al H0 H->H a=some (.lst [])->bE b t f ρ0 ds=r->Sl H σ ρ0->nO H0 σ ρ0 ->
      codeAny (model X.prog X.w) X.A (.compLoop (.ListComp elt [⟨tg,iter,ifs,0⟩] scope pos) 0 (.ref it) (.ref a) X.env) Rk s:=by
  intro s σ H I st fr s0 hla hc sl ow;refine codeAny_loop rfl (fun n s=>∃ i acc σ H vs,n=ds.length-i/\i<=ds.length/\acc.length<=i/\aq X [] σ H s/\tn i s.heap/\(∀ b∈fp,H b=none)/\al H0 H/\H a=some (.lst vs)/\aM H acc vs/\(bE b t f ρ0 (ds.drop i)>>=fun rest=>.ok (acc++rest))=r /\
    Sl H σ ρ0/\nO H0 σ ρ0) (fun n s hI=>?_) ds.length ⟨0,[],σ,H,[],by simp,Nat.zero_le _,Nat.le_refl _,I,st,fr,s0,hla,aM.nil,by rw [List.drop_zero,hc];cases r <;> rfl,sl,ow⟩
  clear I st fr s0 hla hc sl ow;obtain ⟨i,acc,σ,H,vs,rfl,hi,hal,I,st,fr,s0,hla,ra,hc,sl,ow⟩:=hI;show wpAny _ X.A ((compTurn (.ListComp elt [⟨tg,iter,ifs,0⟩] scope pos) 0 (.ref it) (.ref a) X.env).onRaise (fun x=>do noteFrame x X.env;theTreesLotGoes x)) _ _ s;refine wpAny_noted ?_;rw [compTurn_list];have gd:Gd H:=sta H (Kp.of s0) fun _ _ z=>z.elim
  have noex:∀ {α:Type} {m:Sem α} {Q Q':α->Shared->Prop} {s:Shared},wpAny (model X.prog X.w) X.A m Q X.xe s->(∀ v s,Q v s->Q' v s)->wpAny (model X.prog X.w) X.A m Q' (notedBy (model X.prog X.w) X.A X.env (fun x s'=>Rk (.error x) s')) s:=fun h k =>
    wpAny_mono h k hxe
  by_cases hlt:i < ds.length
  · obtain ⟨d,hd⟩:∃ d,ds[i]?=some d:=⟨ds[i],List.getElem?_eq_getElem hlt⟩
    have hdrop:ds.drop i=d::ds.drop (i+1):=by
      rw [List.drop_eq_getElem_cons hlt];congr 1;exact Option.some.inj ((List.getElem?_eq_getElem hlt).symm.trans hd)
    rw [hdrop] at hc;unfold bE at hc;refine wpAny_bind (wpAny_standAt (wpAny_bind (cq (T.item X rfl rfl rfl calm i [] s σ H _ I (hfp H fr) st (idt.go i H gd hlt)) fun r s1 zq0=>?_)));obtain ⟨u,hr,h1⟩:=zq0;subst hr;refine wpAny_bind (cq h1 fun _ s2 zq0=>?_);obtain ⟨x,H2,I2,r2,y2,st2,fr2⟩:=zq0;obtain ⟨s02,p2⟩:=idt.yld i H x H2 d gd hd y2;have I2':=I2.pinned (hfp H2 fr2) (T.obj _ _ st2);have back:∀ {σ':St} {H':Hp} {s':Shared},aq X ([]++ir fp s2.heap) σ' H' s'->aq X [] σ' H' s'/\tn (i+1) s'.heap/\∀ b∈fp,H' b=none:=fun {σ' H' s'} J' =>
      ⟨J'.unpinned,T.keep _ _ _ st2 fun b hb o e=>(J'.pin (b,o) (List.mem_append_right _ (List.mem_append_right _ (dO hb e)))).1,fun b hb=>by
        obtain ⟨o,e,_⟩:=T.obj _ _ st2 b hb;exact (J'.pin (b,o) (List.mem_append_right _ (List.mem_append_right _ (dO hb e)))).2.1⟩
    cases eb:b d ρ0 with
    | none=>rw [eb] at hc;exact absurd hc.symm hno
    | some ρ1 =>
      rw [eb] at hc;dsimp only at hc;have hfit:=hb0 d ρ1 eb;refine wpAny_bind (noex (hg _ s2 σ H2 x u (fun σ' H'=>H'=H2/\Sl H2 σ' ρ1/\∀ (i:Nat) (e:PyData),ρ1[i]?=some (.own e)->ρ0[i]?=some (.own e)/\σ'[i]?=σ[i]?) I2' r2 ⟨ρ0,d,sl.mono s02,p2,by rw [eb];exact fun σ' sl' w'=>⟨rfl,sl',w'⟩⟩) fun _ s3 ⟨σ3,H3,I3,e3,sl3,w3⟩=>?_);subst e3;have ow3:nO H0 σ3 ρ0:=fun j e h=>by
        obtain ⟨v,z1,z2⟩:=ow j e h;rcases hfit.2 j _ h with z | z
        · cases z
        · exact ⟨v,by rw [(w3 j e z).2];exact z1,z2⟩
      cases et:t ρ1 with
      | no=>rw [et] at hc;exact absurd hc.symm hno
      | ex c =>
        rw [et] at hc;exact wpAny_bind (noex (ht _ s3 σ3 H3 (fun _ _=>False) I3 ⟨ρ1,sl3,by rw [et];exact (hX c hc.symm).mono (s0.trans s02)⟩) fun ok s4 ⟨H4,I4,z⟩=>z.elim)
      | ok k =>
        rw [et] at hc;refine wpAny_bind (noex (ht _ s3 σ3 H3 (fun b' H'=>b'=k/\al H3 H') I3 ⟨ρ1,sl3,by rw [et];exact fun H' s'=>⟨rfl,s'⟩⟩) fun ok s4 ⟨H4,I4,e4,s34⟩=>?_);subst e4;have s04:=(s0.trans s02).trans s34;have hla4:H4 a=some (.lst vs):=s34 _ _ (s02 _ _ hla);have ra4:aM H4 acc vs:=(ra.mono s02).mono s34;cases ok with
        | false =>
          obtain ⟨J1,J2,J3⟩:=back I4;have hc':(bE b t f ρ0 (ds.drop (i+1))>>=fun rest=>.ok (acc++rest))=r:=hc;exact wpAny_pure ⟨rfl,ds.length-(i+1),by omega,i+1,acc,σ3,H4,vs,rfl,hlt,by omega,J1,J2,J3,s04,hla4,ra4,hc',(sl3.unfit hfit).mono s34,ow3⟩
        | true =>
          have hc':((f ρ1>>=fun x=>bE b t f ρ0 (ds.drop (i+1))>>=fun xs=>.ok (x::xs))>>=fun rest=>.ok (acc++rest))=r:=hc;cases ef:f ρ1 with
          | no=>rw [ef] at hc';exact absurd hc'.symm hno
          | ex c =>
            rw [ef] at hc';exact wpAny_bind (wpAny_bind (noex (hf _ s4 σ3 H4 (fun _ _=>False) I4 ⟨ρ1,sl3.mono s34,by rw [ef];exact (hX c hc'.symm).mono s04⟩) fun yv s5 ⟨v5,H5,I5,r5,z⟩=>z.elim))
          | ok y =>
              rw [ef,R.ok_bind] at hc';have hc2:(bE b t f ρ0 (ds.drop (i+1))>>=fun rest=>.ok ((acc++[y])++rest))=r:=by
                rw [<- hc'];cases bE b t f ρ0 (ds.drop (i+1)) with
                | ok rest=>simp only [R.ok_bind,List.append_assoc,List.singleton_append]
                | ex c=>rfl
                | no=>rfl
              refine wpAny_bind (wpAny_bind (noex (hf _ s4 σ3 H4 (fun v H'=>al H4 H'/\Rp H' y v) I4 ⟨ρ1,sl3.mono s34,by rw [ef];exact fun v H' s' p'=>⟨s',p'⟩⟩) fun yv s5 ⟨v5,H5,I5,r5,s45,p5⟩=>?_));have hla5:H5 a=some (.lst vs):=s45 _ _ hla4;have hlen:vs.length < sizeLine:=by
                rw [ra.length];omega
              refine wpAny_bind (noex (jm _ s5 σ3 H5 (.ref a) [v5] (.ref a) [yv] (fun _ H'=>H'=ca H5 a (.lst (vs++[v5]))) I5 rfl (.cons r5 .nil) ⟨a,vs,v5,rfl,rfl,hla5,hlen,rfl⟩) fun _ s6 zq0=>?_);obtain ⟨v6,H6,I6,r6,e6⟩:=zq0;subst e6;obtain ⟨J1,J2,J3⟩:=back I6;have kp:Kp H5 (ca H5 a (.lst (vs++[v5]))):=eL hla5 (.inl ⟨_,rfl⟩);have s06:al H0 (ca H5 a (.lst (vs++[v5]))):=fun b o e=>by
                rw [am (ar e ha0)];exact (s04.trans s45) b o e
              refine wpAny_pure (wpAny_pure ⟨rfl,ds.length-(i+1),by omega,i+1,acc++[y],σ3,_,vs++[v5],rfl,hlt,by rw [List.length_append,List.length_singleton];omega,J1,J2,J3,s06,bc,?_,hc2,?_,ow3⟩)
              · exact aM.append (aM.kp kp _ _ (ra4.mono s45)) (aM.cons (Rp.kp kp _ _ p5) aM.nil)
              · have sl5:Sl H5 σ3 ρ0:=((sl3.unfit hfit).mono s34).mono s45;refine ⟨sl5.1,fun j c o h1 h2=>?_⟩;cases c with
                | exc p=>exact sl5.2 j _ o h1 h2
                | non=>exact True.intro
                | val d' =>
                  obtain ⟨v',z1,z2⟩:=sl5.2 j _ o h1 h2;exact ⟨v',z1,Rp.kp kp _ _ z2⟩
                | own e' =>
                  obtain ⟨v',z1,z2⟩:=ow3 j e' h1;rw [z1] at h2;cases h2;exact ⟨v',rfl,z2.mono s06⟩
  · have e:i=ds.length:=by omega
    subst e;rw [List.drop_length] at hc;have hr':r=.ok acc:=by rw [<- hc];simp only [bE,R.ok_bind,List.append_nil]
    refine wpAny_bind (wpAny_standAt (wpAny_bind (cq (T.done X rfl rfl rfl calm _ [] s σ H _ I (hfp H fr) st (idt.stop _ H gd (Nat.le_refl _))) fun r s1 zq0=>?_)));obtain ⟨hr,I1⟩:=zq0;subst hr;exact wpAny_pure (fin acc s1 σ H vs hr' I1 s0 hla ra)
theorem dt.but {P:Program} {w:World} {H:Hp} {h1 h2:Heap} {C:Addr} (ok:dt P w H h1) (hC:H C=none) (sb:∀ b o,b≠C->h1.get? b=some o->h2.get? b=some o):dt P w H h2:=fun a o e =>
  (ok a o e).stay (fun b u hb q=>sb b u (by
    rcases hb with rfl | hb
    · exact ar e hC
    · exact ar hb hC) q) (fun _ q=>q) fun _ _ q=>q
theorem ft {h h' base:Heap} {C:Addr} (tp:∀ b o,b≠C->h.get? b=some o->h'.get? b=some o):∀ {l:List Env},C∉fY l->h.FunFrames base l->h'.FunFrames base l
  | [],_,_=>trivial
  | env::l,hC,⟨hk,⟨L,o,hf,hn,ho,hd⟩,hr⟩=>⟨hk,⟨L,o,hf,hn,tp L o (fun z=>hC (List.mem_filterMap.mpr ⟨env,List.mem_cons_self,by rw [hf,z]⟩)) ho,hd⟩,ft tp (fun z=>hC (by
    obtain ⟨e,he,hz⟩:=List.mem_filterMap.mp z;exact List.mem_filterMap.mpr ⟨e,List.mem_cons_of_mem _ he,hz⟩)) hr⟩
theorem fM {X:Cx} {tg iter elt:Expr} {ifs:List Expr} {sc:Scope} {pos pos':Pos} {it:au->R (List PyData)} {b:PyData->au->Option au} {t:au->R Bool} {f:Fe} {N:List Str} {own:Nat} {G G0:List Str} {fr:List Nat} {nl:Nat}
    (T:Tb X nl G0) (ck:cA sc N own G X.N fr) (hout:∀ y∈sc.names,y.2=.free->X.env.kindOf y.1=some .cell\/X.env.kindOf y.1=some .free) (hi:mD X tg iter it)
    (hb0:∀ ρ d ρ1,b d (ap own fr ρ)=some ρ1->gX (ap own fr ρ) ρ1)
    (hbody:∀ cl C s H fp E,Tb (ax X N sc cl C s H fp E) own G->lf (ax X N sc cl C s H fp E) tg b/\nK (ax X N sc cl C s H fp E) ifs t/\cc (ax X N sc cl C s H fp E) elt f)
    (hs:∀ x,foldedSetIterable iter X.env x=pure x) {use:Option (Value->Sem Unit)} {Qc:Value->Shared->Prop} {pins:List (Addr×Obj)} {s:Shared} {σ:St} {H:Hp} (I:aq X pins σ H s) {ρ:au} {ds:List PyData} {r:R (List PyData)} (sl:Sl H σ ρ) (ei:it ρ=.ok ds)
    (hsz:ds.length<=sizeLine) (ec:bE b t f (ap own fr ρ) ds=r) (hX:∀ c,r=.ex c->Xw X c H) (hno:r≠.no) (hstk:∃ env0 outer0 L,X.stack=env0::outer0/\env0.frame=some L/\X.env.frame=some L)
    (fin:∀ (xs:List PyData) (a C:Addr) (H':Hp) (s':Shared) (m:Str->Option Value) (vs:List V),r=.ok xs->aq X pins σ H' s'->iJ X pins H' C->s'.heap.Ns C m->al H H'->H a=none->H' a=some (.lst vs)->aM H' xs vs->compPost (model X.prog X.w) X.A X.xe use Qc (.ref a) C (.ok .next) s') :
    wpAny (model X.prog X.w) X.A (comprehension (.ListComp elt [⟨tg,iter,ifs,0⟩] sc pos) sc X.env pos' (newList []) false (eval iter X.env) use) Qc X.xe s:=by
  obtain ⟨cl,hcl,hcl1,hcl2⟩:=lp (scope:=sc) (env:=X.env) fun x hx hf=>I.ok.has _ (hout x hx hf)
  have ck':=ck;obtain ⟨ck1,ck2,ck3,_,_,_,_,_,_,ofr⟩:=ck';have hin:∀ i∈fr,i < ρ.length:=fun i hi=>by
    have e1:ρ.length=X.N.length:=by rw [<- sl.1];exact I.len
    rw [e1];obtain ⟨k,hk⟩:=List.getElem?_of_mem hi;have q:=congrArg (fun l=>l[k]?) ofr;simp only [List.getElem?_map,hk,Option.map_some] at q;cases z:(N.drop own)[k]? with
    | none=>rw [z] at q;cases q
    | some y =>
      rw [z] at q;have q':some y=X.N[i]?:=Option.some.inj q;exact (List.getElem?_eq_some_iff.mp q'.symm).1
  refine wpAny_comprehension_free (use:=use) rfl hs hcl ck1 ck3 ?_;refine cq (hi pins s σ H (fun J H1=>al H H1/\∃ Gd,r9 J Gd ds/\vS H1 (fun _=>False) Gd) I ⟨ρ,sl,by rw [ei];exact fun J H1 s1 z=>⟨s1,z⟩⟩) fun xv s1 h1=>cq h1 fun itv s2 h2=>?_
  obtain ⟨itA,fp,tn,J,H2,e,I2,T2,st2,f2,s02,Gd,idt,sta⟩:=h2;subst e;refine wpAny_newObj_type (wpAny_newFunctionEnv ck2 (by intro y hy;simp at hy) (fun h₁ hns₁ hsb₁=>?_) ck1);dsimp only at hns₁ hsb₁ ⊢;generalize hHp:s2.heap.push { cls:=.type "list",dict:=none,data:=.seq ([]:List Value).toArray }=Hp2 at hns₁ hsb₁ ⊢;have hC:Hp2.objs.size=s2.heap.objs.size+1:=by rw [<- hHp,Heap.size_push]
  have hDC:s2.heap.objs.size≠Hp2.objs.size:=by rw [hC];exact Nat.ne_of_lt (Nat.lt_succ_self _)
  have hCle:s2.heap.objs.size<=Hp2.objs.size:=by rw [hC];exact Nat.le_succ _
  have below:∀ b,b < s2.heap.objs.size->b≠Hp2.objs.size:=fun b hb=>by rw [hC];exact Nat.ne_of_lt (Nat.lt_succ_of_lt hb)
  have old:∀ b o,s2.heap.get? b=some o->h₁.get? b=some o:=fun b o e=>hsb₁.extBut b o (below b (Heap.lt_size e)) (Heap.get?_push_of_some _ (hHp ▸ Heap.get?_push_of_some _ e))
  have hacc:h₁.get? s2.heap.objs.size=some { cls:=.type "list",dict:=none,data:=.seq ([]:List Value).toArray }:=hsb₁.extBut _ _ hDC (Heap.get?_push_of_some _ (hHp ▸ Heap.get?_push_size _ rfl));have hob:∀ b∈fp,b < s2.heap.objs.size:=fun b hb=>by
    obtain ⟨o,e,_⟩:=T2.obj _ _ st2 b hb;exact Heap.lt_size e
  have sl2:Sl H2 σ ρ:=sl.mono s02;have IC:aq (ax X N sc cl Hp2.objs.size s2 H2 fp) [] (dk own fr σ) (ca H2 s2.heap.objs.size (.lst [])) { s2 with heap:=h₁,toks:=s2.toks+([]:List (Str×Value)).length } :=
    oC I2 ck f2 hob hcl1 hcl2 (fun x hx=>(T.vis x hx).1) hout (Nat.le_refl _) hCle hDC old hacc hns₁
  let E:Value->Shared->Prop:=fun e s'=>∃ c Ce pins' σ' H' s1 H1,r=.ex c/\X.mg c=some (.ref Ce)/\aq (ax X N sc cl Hp2.objs.size s2 H2 fp) pins' σ' H' s1/\al H2 H1/\jt X.prog X.w X.stack H' s1 Ce H1 e s'
  obtain ⟨hg,ht,hf⟩:=hbody cl Hp2.objs.size s2 H2 fp E (oh T ck cl Hp2.objs.size s2 H2 fp E);have ha0:H2 s2.heap.objs.size=none:=I2.hok.fresh (Nat.le_refl _);have hfp:∀ H':Hp,(∀ b∈fp,H' b=none)->∀ b∈fp,iJ (ax X N sc cl Hp2.objs.size s2 H2 fp E) [] H' b:=fun H' hn b hb =>
    ⟨hn b hb,below b (hob b hb),fun z=>by
      rcases List.mem_cons.mp (I2.stkSub b z) with y | y
      · exact (f2 b hb).2.1 y
      · exact (f2 b hb).2.2.1 y,.inl hb,fun x c e=>(f2 b hb).2.2.2.2.1 x c (hcl1 x c e),fun p hp=>absurd (show p∈([]:List (Addr×Obj)) from hp) (by simp)⟩
  have st3:tn 0 h₁:=T2.keep _ _ _ st2 fun b _ o e=>old b o e
  have slC:Sl H2 (dk own fr σ) (ap own fr ρ):=qb sl2 own fr hin;have fin':∀ xs s' σ' H' vs,r=.ok xs->aq (ax X N sc cl Hp2.objs.size s2 H2 fp E) [] σ' H' s'->al H2 H'->H' s2.heap.objs.size=some (.lst vs)->aM H' xs vs ->
      compPost (model X.prog X.w) X.A X.xe use Qc (.ref s2.heap.objs.size) Hp2.objs.size (.ok .next) s':=fun xs s' σ' H' vs hr J' s2' hv rv=>by
    obtain ⟨m,hn,_⟩:=J'.loc;exact fin xs _ _ H' s' m vs hr (I2.call' (s':=s') (ch:=fp) J'.os J'.base J'.hok J'.bare (fun b hb=>⟨(f2 b hb).2.2.2.1,(f2 b hb).2.1,(f2 b hb).2.2.2.2.1,(f2 b hb).2.2.2.2.2⟩)) (I2.fpOk hCle J'.free) hn (s02.trans s2') (s02.free ha0) hv rv
  have hXc:∀ c,r=.ex c->Xw (ax X N sc cl Hp2.objs.size s2 H2 fp E) c H2:=fun c hr H1 s1 Ce hm pins' σ' H' s1' e s' J f =>
    ⟨c,Ce,pins',σ',H',s1',H1,hr,hm,J.unwish,s1,f⟩
  have hxe:∀ e s',E e s'->notedBy (model X.prog X.w) X.A (compEnvC sc cl Hp2.objs.size X.env) (fun x s'=>compPost (model X.prog X.w) X.A X.xe use Qc (.ref s2.heap.objs.size) Hp2.objs.size (.error x) s') e s':=fun e s' hE=>by
    obtain ⟨c,Ce,pins',σ',H',s1,H1,hr,hm,J,same1,f⟩:=hE;obtain ⟨env0,outer0,L,k1,k2,k3⟩:=hstk;refine f.note k1 I.ok.frames k2 k3 fun h4 f4 up=>?_
    obtain ⟨m,hn,_⟩:=(f4.inv (X:=ax X N sc cl Hp2.objs.size s2 H2 fp) J).loc;refine ⟨m,hn,fun h5 sb cenv _=>?_⟩;have fC:=I2.fpOk hCle J.free;have fC1:H1 Hp2.objs.size=none:=(f4.inv (X:=ax X N sc cl Hp2.objs.size s2 H2 fp) J).free;have nfr:Hp2.objs.size∉fY X.stack:=fun z=>by
      rcases List.mem_cons.mp (I2.stkSub _ z) with y | y
      · exact fC.2.1 y
      · exact fC.2.2.1 y
    have Io:=I2.call' (s':=s1) (ch:=fp) J.os J.base J.hok J.bare (fun b hb=>⟨(f2 b hb).2.2.2.1,(f2 b hb).2.1,(f2 b hb).2.2.2.2.1,(f2 b hb).2.2.2.2.2⟩);have Io2:aq X pins σ H' { s1 with heap:=PySem.W.hideAll s1.heap [Hp2.objs.size],toks:=s1.toks }:=by
      obtain ⟨g0,g1,g2,g3,g4,g5⟩:=fC;exact Io.turned (t':=s1.toks) (fun b o hb q=>PySem.W.hideAll_get _ q (by simpa using hb)) g0 g1 g3 g4 g5
    obtain ⟨p,a0,B,rfl,t,okB,hp,cov⟩:=f4.ex;have pM:(PySem.W.hideAll B [Hp2.objs.size]).StaysIn B:=fun b o q=>PySem.W.of_hideAll _ q
    have hid:∀ {h:Heap} {b:Addr} {o:Obj},(PySem.W.hideAll h [Hp2.objs.size]).get? b=some o->b≠Hp2.objs.size:=fun {h b o} q z=>by
      rw [PySem.W.hideAll_none _ (by rw [z];exact List.mem_singleton.mpr rfl)] at q;cases q
    have tp:∀ b o,b≠Hp2.objs.size->h4.get? b=some o->h5.get? b=some o:=fun b o hb q=>(sb.2 b hb).trans q
    have ne_e:p≠Hp2.objs.size:=fun z=>by
      obtain ⟨oe,vs,q1,_,q2,_⟩:=t.first;obtain ⟨o,es,ep,q3,q4,_⟩:=hn;have q3':h4.get? Hp2.objs.size=some o:=q3;rw [<- z,q1] at q3';cases q3';rw [q2] at q4;cases q4
    have f5:jt X.prog X.w X.stack H' { s1 with heap:=PySem.W.hideAll s1.heap [Hp2.objs.size],toks:=s1.toks } Ce H1 (.ref p) { s' with heap:=h5 }:=by
      refine ⟨f4.os,f4.bare,f4.same,⟨p,a0,PySem.W.hideAll B [Hp2.objs.size],rfl,?_,?_,hp,fun b o q n hb=>?_⟩,fun b o q n hb=>?_⟩
      · obtain ⟨t1,t2,t3,fl,oe,vs,T',oT,ts,a1,a2,a3,a4,a5,a6,a7,a8,a9⟩:=t;refine ⟨fun b o q=>tp b o (hid q) (t1 b o (pM b o q)),PySem.W.fresh_of_stays pM t2,ft tp nfr (PySem.W.funFrames_base pM t3),fl,oe,vs,T',oT,ts,tp _ _ ne_e a1,a2,a3,a4,PySem.W.fresh_of_stays pM a5,a6,tp _ _ ?_ a7,a8,a9⟩;intro z;obtain ⟨o,es,ep,q3,q4,_⟩:=hn;have q3':h4.get? Hp2.objs.size=some o:=q3;have a7':h4.get? T'=some oT:=a7;rw [<- z,a7'] at q3';cases q3';rw [a8] at q4;cases q4
      · exact dt.but okB fC1 fun b o hb q=>PySem.W.hideAll_get _ q (by simpa using hb)
      · obtain ⟨z1,z2⟩:=cov b o (PySem.W.of_hideAll _ q) n hb;exact ⟨PySem.W.hideAll_get _ z1 (by simpa using hid q),z2⟩
      · obtain ⟨⟨sl',z1⟩,z2⟩:=f4.slot b o (PySem.W.of_hideAll _ q) n hb;exact ⟨⟨sl',tp b _ (hid q) z1⟩,z2⟩
    refine f5.pass fun h6 f6=>?_
    exact hX c hr H1 (s02.trans same1) Ce hm pins σ H' _ _ _ Io2 f6
  have loop:=mU (X:=ax X N sc cl Hp2.objs.size s2 H2 fp E) (iter:=iter) (scope:=sc) (pos:=pos) T2 T.calm hfp hxe hXc hno hg ht hf idt sta hsz ha0 (fun d ρ1 e=>hb0 ρ d ρ1 e) fin' (IC.wish E) st3 (fun b hb=>by
      show ca H2 s2.heap.objs.size (.lst []) b=none;rw [am (Nat.ne_of_lt (hob b hb))];exact (f2 b hb).1) (bM ha0 _) bc ec (slC.mono (bM ha0 _)) (fun i e h=>by
      obtain ⟨o,z1,v,rfl,z2⟩:=slC.at h;exact ⟨v,z1,z2⟩)
  exact codeAny_compStart_list loop (T2.self _ 0 _ _ _ st3 loop)
theorem kB {X:Cx} {tg iter elt:Expr} {ifs:List Expr} {sc:Scope} {pos:Pos} {it:au->R (List PyData)} {b:PyData->au->Option au} {t:au->R Bool} {f:Fe} {N:List Str} {own:Nat} {G G0:List Str} {fr:List Nat} {nl:Nat}
    (T:Tb X nl G0) (ck:cA sc N own G X.N fr) (hout:∀ y∈sc.names,y.2=.free->X.env.kindOf y.1=some .cell\/X.env.kindOf y.1=some .free) (hi:mD X tg iter it)
    (hb0:∀ ρ d ρ1,b d (ap own fr ρ)=some ρ1->gX (ap own fr ρ) ρ1)
    (hbody:∀ cl C s H fp E,Tb (ax X N sc cl C s H fp E) own G->lf (ax X N sc cl C s H fp E) tg b/\nK (ax X N sc cl C s H fp E) ifs t/\cc (ax X N sc cl C s H fp E) elt f)
    (hs:∀ x,foldedSetIterable iter X.env x=pure x:=by intro _;rfl) (hstk:∃ env0 outer0 L,X.stack=env0::outer0/\env0.frame=some L/\X.env.frame=some L:=by exact ⟨_,_,_,rfl,rfl,rfl⟩):iI X (.ListComp elt [⟨tg,iter,ifs,0⟩] sc pos) (bq it own fr b t f):=by
  intro pins s σ H Q I h;obtain ⟨ρ,sl,q⟩:=h;unfold bq at q;rw [eval_ListComp];cases ei:it ρ with
  | ex c=>rw [ei] at q;exact q.elim
  | no=>rw [ei] at q;exact q.elim
  | ok ds =>
    rw [ei] at q;simp only [kG,R.ok_bind] at q;split at q
    · rename_i hsz;cases ec:bE b t f (ap own fr ρ) ds with
      | no=>rw [ec] at q;exact q.elim
      | ex c =>
        rw [ec] at q;exact fM (use:=none) T ck hout hi hb0 hbody hs I sl ei hsz ec (fun c' hr=>by cases hr;exact q) (fun z=>nomatch z) hstk fun xs a C H' s' m vs hr=>by cases hr
      | ok xs =>
        rw [ec] at q;refine fM (use:=none) T ck hout hi hb0 hbody hs I sl ei hsz ec (fun c' hr=>by cases hr) (fun z=>nomatch z) hstk fun xs' a C H' s' m vs hr I' fC hn s2' ha hv rv=>?_
        cases hr;obtain ⟨f0,f1,f2,f3,f4,f5⟩:=fC;refine ⟨m,hn,fun h' sb=>⟨.ref a,H',I'.turned (t':=s'.toks) (fun b o hb e=>sb.extBut b o hb e) f0 f1 f3 f4 f5,rfl,?_⟩⟩;refine q _ H' s2' ⟨?_,_,rfl,ha⟩;simp only [eT];exact ⟨_,vs,rfl,hv,rv⟩
    · exact q.elim
theorem sf {X:Cx} {tg iter elt:Expr} {ifs:List Expr} {sc:Scope} {pos:Pos} {it:au->R (List PyData)} {b:PyData->au->Option au} {t:au->R Bool} {f:Fe} {N:List Str} {own:Nat} {G G0:List Str} {fr:List Nat} {nl:Nat} (T:Tb X nl G0) (ck:cA sc N own G X.N fr) (hout:∀ y∈sc.names,y.2=.free->X.env.kindOf y.1=some .cell\/X.env.kindOf y.1=some .free) (hi:Z.mD X tg iter it) (hb0:∀ ρ d ρ1,b d (ap own fr ρ)=some ρ1->gX (ap own fr ρ) ρ1) (hbody:∀ cl C s H fp E,Tb (ax X N sc cl C s H fp E) own G->Z.lf (ax X N sc cl C s H fp E) tg b/\Z.nK (ax X N sc cl C s H fp E) ifs t/\Z.cc (ax X N sc cl C s H fp E) elt f) (hs:∀ x,foldedSetIterable iter X.env x=pure x:=by intro _;rfl) (hstk:∃ env0 outer0 L,X.stack=env0::outer0/\env0.frame=some L/\X.env.frame=some L:=by exact ⟨_,_,_,rfl,rfl,rfl⟩):Z.iI X (.ListComp elt [⟨tg,iter,ifs,0⟩] sc pos) (bq it own fr b t f) :=
  ⟨D2.kB T ck hout hi.un hb0 (fun cl C s H fp E T=>let ⟨q1,q2,q3⟩:=hbody cl C s H fp E T;⟨q1.un,q2.un,q3.un⟩) hs hstk⟩
theorem qk {X:Cx} {tg iter elt:Expr} {ifs:List Expr} {sc:Scope} {pos py spos:Pos} {it:au->R (List PyData)} {b:PyData->au->Option au} {t:au->R Bool} {f:Fe} {N:List Str} {own:Nat} {G G0:List Str} {fr:List Nat} {nl:Nat} {y:Str} {i:Nat}
    (T:Tb X nl G0) (ck:cA sc N own G X.N fr) (hout:∀ y∈sc.names,y.2=.free->X.env.kindOf y.1=some .cell\/X.env.kindOf y.1=some .free) (hi:mD X tg iter it)
    (hb0:∀ ρ d ρ1,b d (ap own fr ρ)=some ρ1->gX (ap own fr ρ) ρ1)
    (hbody:∀ cl C s H fp E,Tb (ax X N sc cl C s H fp E) own G->lf (ax X N sc cl C s H fp E) tg b/\nK (ax X N sc cl C s H fp E) ifs t/\cc (ax X N sc cl C s H fp E) elt f)
    (hN:(X.N.take nl)[i]?=some y) (hsw:swapsWith (.ListComp elt [⟨tg,iter,ifs,0⟩] sc pos) (some (.Name y py)) spos.line X.env=pure true)
    (hs:∀ x,foldedSetIterable iter X.env x=pure x:=by intro _;rfl) (hstk:∃ env0 outer0 L,X.stack=env0::outer0/\env0.frame=some L/\X.env.frame=some L:=by exact ⟨_,_,_,rfl,rfl,rfl⟩):gx X (.Assign [.Name y py] (.ListComp elt [⟨tg,iter,ifs,0⟩] sc pos) spos) (fG i (bq it own fr b t f)):=fun Fm=>by
  intro pins s σ H D I h;obtain ⟨ρ,sl,q⟩:=h;unfold fG bq at q;obtain ⟨hNi,hl,hf⟩:=T.nm hN;cases ei:it ρ with
  | ex c=>rw [ei] at q;exact q.elim
  | no=>rw [ei] at q;exact q.elim
  | ok ds =>
    rw [ei] at q;simp only [kG,R.ok_bind] at q;by_cases hsz:ds.length<=sizeLine
    · rw [if_pos hsz] at q;cases ec:bE b t f (ap own fr ρ) ds with
      | no=>rw [ec] at q;exact q.elim
      | ex c =>
        rw [ec] at q;rw [exec_Assign_Name_used _ _ _ _ hsw];refine wpAny_bind (wpAny_standAt (wpAny_bind ?_));show wpAny _ X.A (do let _ <- comprehension (.ListComp elt [⟨tg,iter,ifs,0⟩] sc pos) sc X.env _ (newList []) false (eval iter X.env) (some (assign (.Name y py) X.env))) _ _ s;exact wpAny_bind (cq (fM (use:=some (assign (.Name y py) X.env)) (Qc:=fun _ s'=>False) T ck hout hi hb0 hbody hs I sl.sl ei hsz ec (fun c' hr=>by cases hr;exact q.1.mono sl.fm) (fun z=>nomatch z) hstk fun xs a C H' s' m vs hr=>by cases hr) fun _ s' hq=>hq.elim)
      | ok xs =>
        rw [ec] at q;rw [exec_Assign_Name_used _ _ _ _ hsw];refine wpAny_bind (wpAny_standAt (wpAny_bind ?_));show wpAny _ X.A (do let _ <- comprehension (.ListComp elt [⟨tg,iter,ifs,0⟩] sc pos) sc X.env _ (newList []) false (eval iter X.env) (some (assign (.Name y py) X.env))) _ _ s;refine wpAny_bind (cq (fM (use:=some (assign (.Name y py) X.env)) (Qc:=fun _ s'=>SP X pins D .next s') T ck hout hi hb0 hbody hs I sl.sl ei hsz ec (fun c' hr=>by cases hr) (fun z=>nomatch z) hstk fun xs' a C H' s' m vs hr I' fC hn s2' ha hv rv=>?_) fun _ s' hq=>wpAny_pure (wpAny_pure hq));cases hr;obtain ⟨f0,f1,f2,f3,f4,f5⟩:=fC;show wpAny _ X.A (assign (.Name y py) X.env (.ref a)) _ _ _;refine wpAny_assign_Name (jp I' T.nd hNi hl (v:=.ref a) rfl (fun s'' I'' k=>?_) hf);have sls:dF Fm H' (σ.set i (some (.ref a))) (ρ.set i (.own (.list xs))):=dF.setOwn sl (sl.mono s2') s2' i ⟨by simp only [eT];exact ⟨a,vs,rfl,hv,rv⟩,a,rfl,ha⟩;refine ⟨m,?_,fun h' sb=>⟨_,H',I''.turned (t':=s''.toks) (fun b o hb e=>sb.extBut b o hb e) f0 f1 f3 f4 f5,q _ H' sls⟩⟩;obtain ⟨a',sb',ha'⟩:=k;refine hn.sameBut sb' ?_;rcases ha' with rfl | ha'
        · exact f1
        · exact Ne.symm (f4 y a' ha')
    · rw [if_neg hsz] at q;exact q.elim
theorem dF.freeze {Fm H:Hp} {σ:St} {ρ:au} {i:Nat} {d:PyData} {a:Addr} {u:HO} {o:Obj} (h:dF Fm H σ ρ) (h1:ρ[i]?=some (.own d)) (h2:σ[i]?=some (some (.ref a))) (hu:H a=some u) (hm:(∃ xs,u=.lst xs)\/∃ ks,u=.dK ks)
    (hr:Rp (ca H a (.frz o u)) d (.ref a)):dF Fm (ca H a (.frz o u)) σ (ρ.set i (.val d)):=by
  have hFa:=h.own i d a h1 h2;have kp:Kp H (ca H a (.frz o u)):=eL hu hm;refine ⟨fun b x e=>?_,⟨by rw [List.length_set];exact h.sl.1,fun j c w' e1 e2=>?_⟩,fun j e b e1 e2=>?_,fun j k e f b e1 e2 e3 e4=>?_⟩
  · rw [am (ar e hFa)];exact h.fm b x e
  · rw [List.getElem?_set] at e1;by_cases hij:i=j
    · subst hij;rw [if_pos rfl] at e1;split at e1
      · cases e1;rw [h2] at e2;cases e2;exact ⟨_,rfl,hr⟩
      · cases e1
    · rw [if_neg hij] at e1;have q:=h.sl.2 j c w' e1 e2;cases c with
      | exc p=>exact q
      | non=>exact True.intro
      | val d'=>obtain ⟨v,z1,z2⟩:=q;exact ⟨v,z1,Rp.kp kp _ _ z2⟩
      | own d' =>
        obtain ⟨v,z1,z2⟩:=q;subst z1;obtain ⟨b,ob,rfl,hb⟩:=jO z2;have nb:b≠a:=fun z=>hij (by subst z;exact h.apart i j d d' b h1 e1 h2 e2)
        refine ⟨_,rfl,?_⟩;cases d' <;> simp only [eT] at z2 ⊢
        · obtain ⟨b',vs,e,hb',r⟩:=z2;cases e;exact ⟨b,vs,rfl,by rw [am nb];exact hb',aM.kp kp _ _ r⟩
        · obtain ⟨b',vs,e,hb',r⟩:=z2;cases e;exact ⟨b,vs,rfl,by rw [am nb];exact hb',ce.kp kp _ _ r⟩
  · obtain ⟨ne,e1⟩:=bx (fun e z=>by cases z) e1;exact h.own j e b e1 e2
  · obtain ⟨ne,e1⟩:=bx (fun e z=>by cases z) e1;obtain ⟨ne',e2⟩:=bx (fun e z=>by cases z) e2;exact h.apart j k e f b e1 e2 e3 e4
theorem rE {X:Cx} {pins:List (Addr×Obj)} {s:Shared} {Fm H:Hp} {σ:St} {ρ:au} {i:Nat} {d:PyData} (I:aq X pins σ H s) (h:dF Fm H σ ρ) (h1:ρ[i]?=some (.own d)) :
    ∃ H' v,aq X pins σ H' s/\dF Fm H' σ (ρ.set i (.val d))/\σ[i]?=some (some v)/\Rp H' d v:=by
  obtain ⟨w',h2,v,rfl,q⟩:=h.sl.at h1;cases d <;> simp only [eT] at q
  · rename_i ds;obtain ⟨a,vs,rfl,ha,r⟩:=q;obtain ⟨o,J⟩:=fD I ha (.inl ⟨_,rfl⟩);have hr:Rp (ca H a (.frz o (.lst vs))) (.list ds) (.ref a):=by
      simp only [Rp];exact ⟨a,o,vs,rfl,bc,aM.kp (eL ha (.inl ⟨_,rfl⟩)) _ _ r⟩
    exact ⟨_,_,J,h.freeze h1 h2 ha (.inl ⟨_,rfl⟩) hr,h2,hr⟩
  · rename_i ds;obtain ⟨a,vs,rfl,ha,r⟩:=q;obtain ⟨o,J⟩:=fD I ha (.inr ⟨_,rfl⟩);have hr:Rp (ca H a (.frz o (.dK vs))) (.dict ds) (.ref a):=by
      simp only [Rp];exact .inl ⟨a,o,vs,rfl,bc,ce.kp (eL ha (.inr ⟨_,rfl⟩)) _ _ r⟩
    exact ⟨_,_,J,h.freeze h1 h2 ha (.inr ⟨_,rfl⟩) hr,h2,hr⟩
theorem gx.fz {X:Cx} {st:Stmt} {i:Nat} {f:Fe} (h:gx X st (fG i f)) (hi:i < X.N.length):gx X st (aR i f):=fun Fm=>by
  intro pins s σ H D I ⟨ρ,sl,q⟩;unfold aR at q;cases ef:f ρ with
  | ex c=>rw [ef] at q;exact h Fm pins s σ H D I ⟨ρ,sl,by unfold fG;rw [ef];exact q⟩
  | no=>rw [ef] at q;exact q.elim
  | ok d =>
    rw [ef] at q;have hr:rR X Fm (fG i f) { nx:=fun σ' H'=>dF Fm H' σ' (ρ.set i (.own d)),rt:=fun _ _=>False } σ H:=⟨ρ,sl,by unfold fG;rw [ef];exact fun σ' H' s'=>s'⟩
    refine cq (h Fm pins s σ H _ I hr) fun fl s' z=>?_
    cases fl with
    | next =>
      obtain ⟨σ',H',I',sls⟩:=z;have hi':i < ρ.length:=by rw [<- sl.sl.1,I.len];exact hi
      obtain ⟨H2,v,I2,sl2,_,_⟩:=rE I' sls (i:=i) (d:=d) (by rw [List.getElem?_set,if_pos rfl,if_pos hi']);rw [List.set_set] at sl2;exact ⟨σ',H2,I2,q σ' H2 sl2⟩
    | brk=>obtain ⟨_,_,_,z⟩:=z;exact z.elim
    | cont=>obtain ⟨_,_,_,z⟩:=z;exact z.elim
    | ret u=>obtain ⟨_,_,_,_,_,z⟩:=z;exact z.elim
theorem eF {X:Cx} {st:Stmt} {i:Nat} {f:Fe} (h:Z.gx X st (fG i f)) (hi:i < X.N.length):Z.gx X st (aR i f) :=
  ⟨D2.gx.fz h.un hi⟩
theorem mY {X:Cx} {tg iter elt:Expr} {ifs:List Expr} {sc:Scope} {pos:Pos} {it:au->R (List PyData)} {b:PyData->au->Option au} {t:au->R Bool} {f:Fe} {N:List Str} {own:Nat} {G G0:List Str} {fr:List Nat} {nl:Nat}
    (T:Tb X nl G0) {oN:List Str} {on:List (Str×NameKind)} (hoN:X.N=oN) (hon:X.env.scope.names=on)
    (ck:cA sc N own G oN fr/\∀ y∈sc.names,y.2=.free->on.lookup y.1=some .cell\/on.lookup y.1=some .free) (hi:mD X tg iter it)
    (hb0:∀ ρ d ρ1,b d (ap own fr ρ)=some ρ1->gX (ap own fr ρ) ρ1)
    (hbody:∀ cl C s H fp E,Tb (ax X N sc cl C s H fp E) own G->lf (ax X N sc cl C s H fp E) tg b/\nK (ax X N sc cl C s H fp E) ifs t/\cc (ax X N sc cl C s H fp E) elt f)
    (hs:∀ x,foldedSetIterable iter X.env x=pure x:=by intro _;rfl) (hstk:∃ env0 outer0 L,X.stack=env0::outer0/\env0.frame=some L/\X.env.frame=some L:=by exact ⟨_,_,_,rfl,rfl,rfl⟩):iI X (.ListComp elt [⟨tg,iter,ifs,0⟩] sc pos) (bq it own fr b t f) :=
  kB T (by rw [hoN];exact ck.1) (fun y hy hf=>by unfold Env.kindOf;rw [hon];exact ck.2 y hy hf) hi hb0 hbody hs hstk
theorem bJ {X:Cx} {tg iter elt:Expr} {ifs:List Expr} {sc:Scope} {pos:Pos} {it:au->R (List PyData)} {b:PyData->au->Option au} {t:au->R Bool} {f:Fe} {N:List Str} {own:Nat} {G G0:List Str} {fr:List Nat} {nl:Nat} (T:Tb X nl G0) {oN:List Str} {on:List (Str×NameKind)} (hoN:X.N=oN) (hon:X.env.scope.names=on) (ck:cA sc N own G oN fr/\∀ y∈sc.names,y.2=.free->on.lookup y.1=some .cell\/on.lookup y.1=some .free) (hi:Z.mD X tg iter it) (hb0:∀ ρ d ρ1,b d (ap own fr ρ)=some ρ1->gX (ap own fr ρ) ρ1) (hbody:∀ cl C s H fp E,Tb (ax X N sc cl C s H fp E) own G->Z.lf (ax X N sc cl C s H fp E) tg b/\Z.nK (ax X N sc cl C s H fp E) ifs t/\Z.cc (ax X N sc cl C s H fp E) elt f) (hs:∀ x,foldedSetIterable iter X.env x=pure x:=by intro _;rfl) (hstk:∃ env0 outer0 L,X.stack=env0::outer0/\env0.frame=some L/\X.env.frame=some L:=by exact ⟨_,_,_,rfl,rfl,rfl⟩):Z.iI X (.ListComp elt [⟨tg,iter,ifs,0⟩] sc pos) (bq it own fr b t f) :=
  ⟨D2.mY T hoN hon ck hi.un hb0 (fun cl C s H fp E T=>let ⟨q1,q2,q3⟩:=hbody cl C s H fp E T;⟨q1.un,q2.un,q3.un⟩) hs hstk⟩
theorem ql {X:Cx} {tg iter elt:Expr} {ifs:List Expr} {sc:Scope} {pos py spos:Pos} {it:au->R (List PyData)} {b:PyData->au->Option au} {t:au->R Bool} {f:Fe} {N:List Str} {own:Nat} {G G0:List Str} {fr:List Nat} {nl:Nat} {y:Str} (i:Nat)
    (hN:(X.N.take nl)[i]?=some y) (T:Tb X nl G0) {oN:List Str} {on:List (Str×NameKind)} (hoN:X.N=oN) (hon:X.env.scope.names=on)
    (ck:cA sc N own G oN fr/\∀ y∈sc.names,y.2=.free->on.lookup y.1=some .cell\/on.lookup y.1=some .free) (hi:mD X tg iter it)
    (hb0:∀ ρ d ρ1,b d (ap own fr ρ)=some ρ1->gX (ap own fr ρ) ρ1)
    (hbody:∀ cl C s H fp E,Tb (ax X N sc cl C s H fp E) own G->lf (ax X N sc cl C s H fp E) tg b/\nK (ax X N sc cl C s H fp E) ifs t/\cc (ax X N sc cl C s H fp E) elt f)
    (hsw:swapsWith (.ListComp elt [⟨tg,iter,ifs,0⟩] sc pos) (some (.Name y py)) spos.line X.env=pure true:=by rfl)
    (hs:∀ x,foldedSetIterable iter X.env x=pure x:=by intro _;rfl) (hstk:∃ env0 outer0 L,X.stack=env0::outer0/\env0.frame=some L/\X.env.frame=some L:=by exact ⟨_,_,_,rfl,rfl,rfl⟩):gx X (.Assign [.Name y py] (.ListComp elt [⟨tg,iter,ifs,0⟩] sc pos) spos) (fG i (bq it own fr b t f)) :=
  qk T (by rw [hoN];exact ck.1) (fun y hy hf=>by unfold Env.kindOf;rw [hon];exact ck.2 y hy hf) hi hb0 hbody hN hsw hs hstk
theorem du {X:Cx} {tg iter elt:Expr} {ifs:List Expr} {sc:Scope} {pos py spos:Pos} {it:au->R (List PyData)} {b:PyData->au->Option au} {t:au->R Bool} {f:Fe} {N:List Str} {own:Nat} {G G0:List Str} {fr:List Nat} {nl:Nat} {y:Str} (i:Nat) (hN:(X.N.take nl)[i]?=some y) (T:Tb X nl G0) {oN:List Str} {on:List (Str×NameKind)} (hoN:X.N=oN) (hon:X.env.scope.names=on) (ck:cA sc N own G oN fr/\∀ y∈sc.names,y.2=.free->on.lookup y.1=some .cell\/on.lookup y.1=some .free) (hi:Z.mD X tg iter it) (hb0:∀ ρ d ρ1,b d (ap own fr ρ)=some ρ1->gX (ap own fr ρ) ρ1) (hbody:∀ cl C s H fp E,Tb (ax X N sc cl C s H fp E) own G->Z.lf (ax X N sc cl C s H fp E) tg b/\Z.nK (ax X N sc cl C s H fp E) ifs t/\Z.cc (ax X N sc cl C s H fp E) elt f) (hsw:swapsWith (.ListComp elt [⟨tg,iter,ifs,0⟩] sc pos) (some (.Name y py)) spos.line X.env=pure true:=by rfl) (hs:∀ x,foldedSetIterable iter X.env x=pure x:=by intro _;rfl) (hstk:∃ env0 outer0 L,X.stack=env0::outer0/\env0.frame=some L/\X.env.frame=some L:=by exact ⟨_,_,_,rfl,rfl,rfl⟩):Z.gx X (.Assign [.Name y py] (.ListComp elt [⟨tg,iter,ifs,0⟩] sc pos) spos) (fG i (bq it own fr b t f)) :=
  ⟨D2.ql i hN T hoN hon ck hi.un hb0 (fun cl C s H fp E T=>let ⟨q1,q2,q3⟩:=hbody cl C s H fp E T;⟨q1.un,q2.un,q3.un⟩) hsw hs hstk⟩
theorem bo {own:Nat} {fr:List Nat} {i:Nat} (h:i < own):∀ ρ d ρ1,aI i d (ap own fr ρ)=some ρ1->gX (ap own fr ρ) ρ1:=fun ρ d ρ1 e=>by
  have e':ρ1=(ap own fr ρ).set i (.val d):=(Option.some.inj e).symm;subst e';refine ⟨by rw [List.length_set],fun j c hj=>?_⟩;by_cases hij:i=j
  · subst hij;left;unfold ap at hj;rw [List.getElem?_append_left (by simpa using h),List.getElem?_replicate,if_pos h] at hj;exact (Option.some.inj hj).symm
  · right;rw [List.getElem?_set,if_neg hij];exact hj
noncomputable def j5 (sc:Scope) (N G:List Str):Prop :=
  N.Nodup/\(∀ x∈N,(sc.names.lookup x=some .local\/sc.names.lookup x=some .cell)/\(x==("__debug__" : Str))=false/\(x==("__classdict__" : Str))=false)/\∀ x∈G,sc.names.lookup x=some .globalImplicit/\(x==("__debug__" : Str))=false/\x≠("__name__" : Str)
noncomputable instance {sc:Scope} {N G:List Str}:Decidable (j5 sc N G):=by unfold j5;infer_instance
theorem oq {P:Program} {w:World} {K:PySem.W.Frag} {mg:Str->Option Value} {base:Heap} {N:List Str} {qual:Str} {sc:Scope} {f:Addr} {cdv:Value} {A:Around} {outer:List Env} {s:Shared} {H:Hp} {E:XK} {G:List Str} {k:Nat}
    (hr:cG k (A.deeper (envOfC qual sc s.heap.objs.size f cdv))) (ck:j5 sc N G):Tb (cp (cM P w mg) P w K mg base N qual sc f cdv A outer s H E) N.length G:=by
  obtain ⟨nd,l,g⟩:=ck;refine ⟨hr.units,rfl,nd,fun x hx=>⟨?_,(l x hx).2⟩,fun x hx=>⟨?_,.inl rfl⟩,fun x hx=>?_⟩
  · rcases (l x hx).1 with q | q
    · exact .inl q
    · exact .inr (.inl q)
  · exact (l x (List.mem_of_mem_take hx)).1
  · exact g x hx
section
variable {X:Cx} {a b c:Expr} {fa fb fc:Fe} {pos:Pos}
noncomputable def lT (X:Cx) (P:Hp->Hp->PyData->V->Prop) (r:V->Hp->VK->Prop) (g:PyData->R PyData):Prop:=∀ H x dx Q,dZ H dx x->nA X P (g dx) H Q->r x H Q
theorem wK {P:Hp->Hp->PyData->V->Prop} {r:V->Hp->VK->Prop} {g:PyData->R PyData} (hP:Dn P) (hg:lT X P r g) (σ:St) (H:Hp) (Q:VK) (h:gu X P (e1 g fa) σ H Q):xi r (gu X rz fa) σ H Q :=
  (eI (P:=rz) (k:=fun _ x=>g x) (eS (X:=X) hP Q) h).post fun v H1 ⟨_,d1,_,_,p1,q1⟩=>hg H1 v d1 Q p1 q1
noncomputable def iT:PyData->R PyData
  | .int i=>.ok (.int (-i))
  | _=>.no
theorem tD:lT X gK (rU fun i=>.int (-i)) iT:=fun H x dx Q hx q=>by
  unfold iT at q;split at q
  · exact ⟨_,aP hx,q _ H (al.refl _) bV⟩
  · exact q.elim
theorem g7 (ha:Z.cr X a fa):Z.cc X (.UnaryOp .USub a pos) (e1 iT fa):=⟨have ha:=ha.un;PE.imp (uY tQ ha) (wK dI tD)⟩
noncomputable def su (g g':PyData->PyData->R PyData) (fa fb fc:Fe):Fe:=fun ρ=>fa ρ>>=fun x=>fb ρ>>=fun y=>g x y>>=fun d=>nL d>>=fun k=>if k=true then fc ρ>>=fun z=>g' y z else .ok (.bool false)
variable {es:List Expr} {fs:au->R (List PyData)}
noncomputable def ls (fs:au->R (List PyData)):Fe:=fun ρ=>fs ρ>>=fun ds=>if ds.length<=sizeLine then .ok (.tuple ds) else .no
noncomputable def iU (fs:au->R (List PyData)):Fe:=fun ρ=>fs ρ>>=fun ds=>if ds.length<=sizeLine then .ok (.list ds) else .no
theorem g9 {x1} (h:Z.lR X es fs):Z.cc X (.Tuple es x1 pos) (ls fs):=⟨have h:=h.un;PE.imp (sQ h) fun σ H Q q=>(hW (I:=Rp) (f:=fs) (k:=fun _ ds=>if ds.length<=sizeLine then .ok (.tuple ds) else .no) (eS (X:=X) dI Q) q).post fun vs H1 ⟨_,ds,_,_,p,q1⟩=>by
    have p:=jR.mp p;split at q1
    · rename_i hz;exact ⟨by rw [p.length];exact hz,fun a ha=>q1 _ _ (bM ha _) (c9 ha p)⟩
    · exact q1.elim⟩
theorem eV (h:Z.lR X es fs):Z.iI X (.List es pos) (iU fs):=⟨have h:=h.un;PE.imp (sO h) fun σ H Q q=>(hW (I:=Rp) (f:=fs) (k:=fun _ ds=>if ds.length<=sizeLine then .ok (.list ds) else .no) (eS (X:=X) ss Q) q).post fun vs H1 ⟨_,ds,_,_,p,q1⟩=>by
    have p:=jR.mp p;split at q1
    · rename_i hz;exact ⟨by rw [p.length];exact hz,fun a ha=>q1 _ _ (bM ha _) (cJ ha p)⟩
    · exact q1.elim⟩
theorem kj  : Z.iI X (.Dict [] [] pos) (eC (.dict [])):=⟨PE.imp o4 fun σ H Q ⟨ρ,sl,q⟩ p hp=>q _ _ (bM hp _) ⟨by simp only [eT];exact ⟨p,[],rfl,bc,by simp only [ce]⟩,p,rfl,hp⟩⟩
noncomputable def bT:PyData->PyData->R PyData
  | .list ds,.int i=>match atI ds i with
    | some d=>.ok d
    | none=>.no
  | .tuple ds,.int i=>match atI ds i with
    | some d=>.ok d
    | none=>.no
  | .str z,.int i=>if z.length<=sizeLine then match atI z.cps.toList i with
    | some c=>.ok (.str ⟨#[c]⟩)
    | none=>.no else .no
  | .dict kvs,k=>if il kvs=true then .no else match dU k with
    | some _=>match jh kvs k with
      | some d=>.ok d
      | none=>.no
    | none=>.no
  | _,_=>.no
theorem aM.atI {H:Hp} {ds:List PyData} {vs:List V} {i:Int} {d:PyData} (r:aM H ds vs) (e:L2.atI ds i=some d):∃ v,L2.atI vs i=some v/\Rp H d v:=by
  unfold L2.atI at e ⊢;rw [r.length];cases h:rH ds.length i with
  | none=>rw [h] at e;cases e
  | some j =>
    rw [h] at e;obtain ⟨v,e1,p⟩:=r.get (show ds[j]?=some d from e);exact ⟨v,e1,p⟩
noncomputable def u3:R2:=fun x y H Q=>∃ a v,x=.ref a/\jX H a y (some v)/\Q v H
theorem qv (hu:X.A.units+1 < cLine):pQ X u3:=by
  intro value slice pins s σ H x y v u Q I rx ry h hs;obtain ⟨a,z,rfl,g,q⟩:=h;cases rx;exact tail_any (kx I g) PySem.F.slot_dict_getitem.lookup (mW hu I g ry fun w' s3 I3 rw'=>⟨z,H,I3,rw',q⟩) hs
theorem vj:bW X gK (fun x y H Q=>u4 X.K x y H Q\/u6 X.K x y H Q\/u5 x y H Q\/u3 x y H Q) bT:=fun H x y dx dy Q hx hy q=>by
  unfold bT at q;split at q
  · rename_i ds i;split at q
    · rename_i d e;obtain ⟨a,vs,rfl,hq,r⟩:=cw (K:=X.K) hx;obtain ⟨v,e1,p⟩:=r.atI e;exact .inl ⟨a,vs,i,v,rfl,aP hy,hq,e1,q v H (al.refl _) p⟩
    · exact q.elim
  · rename_i ds i;split at q
    · rename_i d e;obtain ⟨a,vs,rfl,hq,r⟩:=cm hx;obtain ⟨v,e1,p⟩:=r.atI e;exact .inr (.inl ⟨a,vs,i,v,rfl,aP hy,eh.of hq,e1,q v H (al.refl _) p⟩)
    · exact q.elim
  · rename_i z i;split at q
    · rename_i hz;split at q
      · rename_i c e;exact .inr (.inr (.inl ⟨z,i,c,dH hx,aP hy,hz,e,q _ H (al.refl _) pk⟩))
      · exact q.elim
    · exact q.elim
  · rename_i kvs k;split at q
    · exact q.elim
    rename_i hi;split at q
    · rename_i κ e;split at q
      · rename_i d e1;obtain ⟨a,ks,rfl,h,r⟩:=hZ (Bool.not_eq_true _ ▸ hi) hx;obtain ⟨o,g,_,e2⟩:=qe (κ:=κ) h r;rw [oI e] at e1;obtain ⟨v,rfl,p⟩:=e2 d e1;rw [<- p8 hy e] at g;exact .inr (.inr (.inr ⟨a,v,rfl,g,q v H (al.refl _) p⟩))
      · exact q.elim
    · exact q.elim
  · exact q.elim
theorem aB (hu:X.A.units+64 < cLine) (ha:Z.cr X a fa) (hb:Z.cr X b fb) (hs:lS b):Z.cc X (.Subscript a b pos) (e2 bT fa fb):=⟨have ha:=ha.un;have hb:=hb.un;PE.imp (uW (qw.or (sB.or (sA.or (qv (by omega))))) ha hb hs) (wh dI vj)⟩
variable {nl:Nat} {G:List Str} {x:Str} {p:Pos}
noncomputable def jw (X:Cx) (P:Hp->Hp->PyData->V->Prop) (r:List V->Hp->VK->Prop) (g:List PyData->R PyData):Prop:=∀ H xs ds Q,RA dZ H ds xs->nA X P (g ds) H Q->r xs H Q
theorem n9 {P:Hp->Hp->PyData->V->Prop} {r:List V->Hp->VK->Prop} {g:List PyData->R PyData} (hP:Dn P) (hg:jw X P r g) (σ:St) (H:Hp) (Q:VK) (h:gu X P (fun ρ=>fs ρ>>=g) σ H Q):wR r (pL X dZ fs) σ H Q :=
  (hW (I:=dZ) (k:=fun _=>g) (eS (X:=X) hP Q) h).post fun vs H1 ⟨_,ds,_,_,p1,q1⟩=>hg H1 vs ds Q p1 q1
noncomputable def one (g:PyData->R PyData):List PyData->R PyData
  | [d]=>g d
  | _=>.no
noncomputable def tM (g:PyData->PyData->R PyData):List PyData->R PyData
  | [d,e]=>g d e
  | _=>.no
theorem oX (g:PyData->R PyData) (fa:Fe):(fun ρ=>ai fa aO ρ>>=one g)=e1 g fa:=by
  funext ρ;unfold ai aO e1;cases fa ρ <;> rfl
theorem tN (g:PyData->PyData->R PyData) (fa fb:Fe):(fun ρ=>ai fa (ai fb aO) ρ>>=tM g)=e2 g fa fb:=by
  funext ρ;unfold ai aO e2;cases fa ρ with
  | ok a=>cases fb ρ <;> rfl
  | ex c=>rfl
  | no=>rfl
theorem pA {P:Hp->Hp->PyData->V->Prop} {r:List V->Hp->VK->Prop} {g:PyData->R PyData} (h:∀ H x d Q,dZ H d x->nA X P (g d) H Q->r [x] H Q):jw X P r (one g):=fun H xs ds Q ra q=>by
  unfold one at q;split at q
  · rename_i d;simp only [RA] at ra;obtain ⟨v,r',e,p,e2⟩:=ra;subst e2;subst e;exact h H v d Q p q
  · exact q.elim
theorem tG {P:Hp->Hp->PyData->V->Prop} {r:List V->Hp->VK->Prop} {g:PyData->PyData->R PyData} (h:∀ H x y d e Q,dZ H d x->dZ H e y->nA X P (g d e) H Q->r [x,y] H Q):jw X P r (tM g):=fun H xs ds Q ra q=>by
  unfold tM at q;split at q
  · rename_i d e;simp only [RA] at ra;obtain ⟨v,r',e1,p,v',r'',e2,p',e3⟩:=ra;subst e3;subst e2;subst e1;exact h H v v' d e Q p p' q
  · exact q.elim
section
variable {P:Hp->Hp->PyData->V->Prop} {r:List V->Hp->VK->Prop} {g:PyData->R PyData} {g2:PyData->PyData->R PyData} {id ty:String}
theorem n4 (T:Tb X nl G) (j:Nat) (hG:G[j]?=some x) (hm:X.mg x=none) (hP:Dn P) (hv:bootBuiltins x=some (.builtin id)) (hc:cb X (.builtin id) r) (hg:∀ H x d Q,dZ H d x->nA X P (g d) H Q->r [x] H Q) (ha:cr X a fa)
    (he:aL a=true:=by rfl):PE X (.Call (.Name x p) [a] [] pos) (gu X P (e1 g fa)):=by
  have q:=T.gl x (List.mem_of_getElem? hG);rw [<- oX];exact PE.imp (kI hc q.1 hm hv (gQ ha lv he) q.2.2 q.2.1 (bU he)) (n9 hP (pA hg))
theorem vN (T:Tb X nl G) (j:Nat) (hG:G[j]?=some x) (hm:X.mg x=none) (hP:Dn P) (hv:bootBuiltins x=some (.type ty)) (hc:cb X (.type ty) r) (hg:∀ H x d Q,dZ H d x->nA X P (g d) H Q->r [x] H Q) (ha:cr X a fa)
    (he:aL a=true:=by rfl):PE X (.Call (.Name x p) [a] [] pos) (gu X P (e1 g fa)):=by
  have q:=T.gl x (List.mem_of_getElem? hG);rw [<- oX];exact PE.imp (nu hc q.1 hm hv (gQ ha lv he) q.2.2 q.2.1 (bU he)) (n9 hP (pA hg))
theorem ug (T:Tb X nl G) (j:Nat) (hG:G[j]?=some x) (hm:X.mg x=none) (hP:Dn P) (hv:bootBuiltins x=some (.builtin id)) (hc:cb X (.builtin id) r) (hg:∀ H x y d e Q,dZ H d x->dZ H e y->nA X P (g2 d e) H Q->r [x,y] H Q) (ha:cr X a fa) (hb:cr X b fb)
    (he:aL a=true:=by rfl) (he2:aL b=true:=by rfl):PE X (.Call (.Name x p) [a,b] [] pos) (gu X P (e2 g2 fa fb)):=by
  have q:=T.gl x (List.mem_of_getElem? hG);rw [<- tN];exact PE.imp (kI hc q.1 hm hv (gQ ha (gQ hb lv he2) he) q.2.2 q.2.1 (bU he) (iA (by rw [List.all_cons,he2];rfl))) (n9 hP (tG hg))
end
end
theorem gq:fillsNumberSlot (.type "tuple") "mul" = pure false :=
  PySem.fillsNumberSlot_seq (id := "tuple.__mul__") (r:=some (.builtin "tuple.__rmul__")) F.slot_tuple_mul.lookup (by decide +kernel) F.slot_tuple_rmul.lookup (by decide +kernel)
theorem jS:seqRepeat? (.type "tuple")=pure (some (.builtin "tuple.__mul__")):=by
  unfold seqRepeat?;rw [PySem.seqSlot_of (T := "tuple") (name := "__mul__") (id := "tuple.__mul__") F.slot_tuple_mul.lookup (by decide +kernel),PySem.seqSlot_of (T := "tuple") (name := "__rmul__") (id := "tuple.__rmul__") F.slot_tuple_rmul.lookup (by decide +kernel)];rfl
theorem ij (a:Int) (t:Tok) (l:Addr) (items:Array Value) (n:Nat) (dd:Option Addr) (sl:Array (Option Value)) :
    Meets (Builtin.«int.__rmul__» ⟨[.int a t,.ref l],[]⟩) (fun _ R s=>s.heap.get? l=some { cls:=.type "tuple",dict:=dd,data:=.seq items n,slots:=sl }/\R (.ok (.ret Value.notImplemented)) s) :=
  .of_wp fun prog w A R s h=>by obtain ⟨hp,g,d,tk,os⟩:=s;obtain ⟨hl,h⟩:=h;wp_walk;exact ⟨_,rfl,h⟩
theorem lO (l:Addr) (items:Array Value) (n:Nat) (dd:Option Addr) (sl:Array (Option Value)) (x:Int) (u:Tok) (h1:2<=x) (h2:x < 2 ^ 63) (h0:¬ items.isEmpty=true) (hc1:¬ (items.size:Int)*x > (2 ^ 63-1) / 8) (hbig:Builtin.Tuple.tupleTooMany ((items.size:Int)*x)=false) (hsz:¬ (List.foldl (fun x1 x2=>x1++x2) #[] (List.replicate x.toNat items)).size > sizeLine) :
    Meets (Builtin.«tuple.__mul__» ⟨[.ref l,.int x u],[]⟩) (fun _ R s=>s.heap.get? l=some { cls:=.type "tuple",dict:=dd,data:=.seq items n,slots:=sl }/\R (.ok (.ret (Value.ref s.heap.objs.size))) { s with heap:=s.heap.push { cls:=Value.type "tuple",data:=Data.seq (List.foldl (fun x1 x2=>x1++x2) #[] (List.replicate x.toNat items)) },toks:=s.toks }) :=
  .of_wp fun prog w A R s h=>by
    obtain ⟨hp,g,d,tk,os⟩:=s;obtain ⟨hl,h⟩:=h;have f1:=AutoSeq1.idx_int;have f2:=AutoSeq1.sub_tuple_tuple;have f3:=AutoSeq1.sub_list_list;have f4:=AutoSeq1.sub_tuple_list;have f5:=AutoSeq1.sub_list_tuple;have e0:(decide (x < -2 ^ 63)||decide (x>=2 ^ 63))=false:=by
      rw [decide_eq_false (by omega),decide_eq_false (by omega)];rfl
    have e1:(items.isEmpty||x==1)=false:=by
      have:(x==1)=false:=by simp;omega
      rw [this,Bool.or_false];exact Bool.eq_false_iff.mpr h0
    have e2:(decide (x<=0)||items.isEmpty)=false:=by
      rw [decide_eq_false (by omega),Bool.false_or];exact Bool.eq_false_iff.mpr h0
    have e3:decide ((items.size:Int)*x > (2 ^ 63-1) / 8)=false:=decide_eq_false hc1;have e4:Builtin.Tuple.tupleTooMany ((items.size:Int)*x)=false:=hbig
    wp_walk using wpAny_loadPart' hl
    refine wpAny_ite_false (decide_eq_false (by rw [e0];exact Bool.false_ne_true)) ?_
    wp_walk using wpAny_loadPart' hl
    refine wpAny_ite_false (decide_eq_false (by rw [e1];exact Bool.false_ne_true)) ?_
    wp_walk using wpAny_loadPart' hl
    refine wpAny_ite_false (decide_eq_false (by rw [e2];exact Bool.false_ne_true)) ?_
    wp_walk using wpAny_loadPart' hl
    refine wpAny_ite_false e3 ?_
    wp_walk using wpAny_loadPart' hl
    exact ⟨_,rfl,h⟩
section
variable {X:Cx} {a b c:Expr} {fa fb fc:Fe} {pos:Pos} {nl:Nat} {G:List Str} {x:Str} {p:Pos}
noncomputable def rQ (K:PySem.W.Frag):R2:=fun x y H Q=>∃ l k xs,x=.ref l/\y=.int k/\eh K H l xs/\xs≠[]/\2<=k/\k < 2 ^ 63/\xs.length*k.toNat<=sizeLine/\∀ p,H p=none->Q (.ref p) (ca H p (.tup (List.replicate k.toNat xs).flatten))
theorem qH:fX X (binaryOp .Mult) (rQ X.K):=by
  intro pins s σ H x y v u Q I rx ry h;obtain ⟨l,k,xs,rfl,rfl,hH,hne,h1,h2,hz,q⟩:=h;cases rx;obtain ⟨t,rfl⟩:=ry;obtain ⟨its,r,pl,hz0⟩:=I.tuple hH;obtain ⟨⟨cls,dd,data,sl⟩,e,hc,n,hd⟩:=id pl;simp only at hc hd;subst hc hd;have hl:=r.length;have hnew:List.foldl (fun x1 x2=>x1++x2) #[] (List.replicate k.toNat its.toArray)=(List.replicate k.toNat its).flatten.toArray:=by
    have:=jd its k.toNat [];rw [List.nil_append] at this;exact this
  have hlen:(List.replicate k.toNat its).flatten.length<=sizeLine:=by rw [mq,<- hl,Nat.mul_comm];exact hz
  have hprod:(its.length:Int)*k<=(sizeLine:Int):=by
    have h3:((its.length*k.toNat:Nat):Int)<=(sizeLine:Int):=by rw [<- hl];exact Int.ofNat_le.mpr hz
    have h4:((k.toNat:Nat):Int)=k:=Int.toNat_of_nonneg (by omega);rw [Int.natCast_mul,h4] at h3;exact h3
  have hcap:¬ (its.toArray.size:Int)*k > (2 ^ 63-1) / 8:=by
    rw [List.size_toArray];have hs:sizeLine=16777216:=sizeLine_eq;omega
  have hbig:Builtin.Tuple.tupleTooMany ((its.toArray.size:Int)*k)=false:=by
    unfold Builtin.Tuple.tupleTooMany;rw [List.size_toArray];exact decide_eq_false (by omega)
  refine wpAny_binaryOp_repeat_ref (T := "tuple") (U := "int") (by decide) ⟨_,e,rfl⟩ (fun s'=>typeIs_int s' k t) gq F.fills_int_mul F.slot_int_rmul jS F.slot_int_index.lookup
    (call_meets F.slot_int_rmul (typeIs_int s k t) F.entry_int_rmul (F.args_int_rmul_2 _ _) (ij k t l its.toArray n dd sl)
      ⟨e,rfl,⟨_,e,rfl⟩,call_meets F.slot_tuple_mul ⟨_,e,rfl⟩ F.entry_tuple_mul (F.args_tuple_mul_2 _ _) (lO l its.toArray n dd sl k t h1 h2 (by
        intro z;apply hne;have:its=[]:=by simpa using z
        rw [this] at hl;exact List.length_eq_zero_iff.mp hl) hcap hbig (by rw [hnew,List.size_toArray];omega)) ⟨e,?_⟩⟩)
  rw [hnew];refine ⟨.ref s.heap.objs.size,_,I.laid (t':=s.toks) (o:=.tup (List.replicate k.toNat xs).flatten) (fun b ob q=>Heap.get?_push_of_some _ q) (Nat.le_refl _) ?_,rfl,q _ (I.hok.fresh (Nat.le_refl _))⟩;exact ⟨by rw [mq,Nat.mul_comm];exact hz,_,r.rep k.toNat,c4.new _ _⟩
noncomputable def bX:PyData->PyData->R PyData
  | .int i,.int j=>if (-(2 ^ 64) < i/\i < 2 ^ 64)\/(-(2 ^ 64) < j/\j < 2 ^ 64) then .ok (.int (i*j)) else .no
  | .tuple xs,.int k=>if xs≠[]/\2<=k/\k < 2 ^ 63/\xs.length*k.toNat<=sizeLine then .ok (.tuple (List.replicate k.toNat xs).flatten) else .no
  | _,_=>.no
theorem tz:bW X gK (fun x y H Q=>rI pN (fun i j=>.int (i*j)) x y H Q\/rQ X.K x y H Q) bX:=fun H x y dx dy Q hx hy q=>by
  cases dx with
  | int i =>
    cases dy with
    | int j =>
      simp only [bX] at q;split at q
      · rename_i h;exact .inl ⟨_,_,aP hx,aP hy,h,q _ H (al.refl _) bV⟩
      · exact q.elim
    | _=>exact q.elim
  | tuple xs =>
    cases dy with
    | int k =>
      simp only [bX] at q;split at q
      · rename_i h;obtain ⟨a,vs,rfl,ha,r⟩:=cm hx;have hl:=r.length;refine .inr ⟨a,k,vs,rfl,aP hy,eh.of ha,fun z=>h.1 ?_,h.2.1,h.2.2.1,by rw [hl];exact h.2.2.2,fun p hp=>q _ _ (bM hp _) (c9 hp (r.rep _))⟩;rw [z] at hl;exact List.length_eq_zero_iff.mp hl.symm
      · exact q.elim
    | _=>exact q.elim
  | _=>exact q.elim
theorem bO (ha:Z.cr X a fa) (hb:Z.cr X b fb):Z.cc X (.BinOp a .Mult b pos) (e2 bX fa fb):=⟨have ha:=ha.un;have hb:=hb.un;ic dI (sK.or qH) tz ha hb⟩
theorem qC:fX X (binaryOp .Add) (fun x y H Q=>∃ i j,x=.str i/\y=.str j/\i.length+j.length<=sizeLine/\Q (.str (i++j)) H):=by
  intro pins s σ H x y v u Q I rx ry h;obtain ⟨i,j,rfl,rfl,hz,q⟩:=h;obtain ⟨t,rfl⟩:=rx;obtain ⟨t',rfl⟩:=ry;exact PyProof.Rows.add_str (fun t' tk=>⟨.str (i++j),H,I.tok _,⟨_,rfl⟩,q⟩) hz
noncomputable def pe (K:PySem.W.Frag):R2:=fun x y H Q=>∃ a b ys,x=.ref a/\y=.ref b/\eh K H a []/\eh K H b ys/\Q (.ref b) H
theorem oY:fX X (binaryOp .Add) (pe X.K):=by
  intro pins s σ H x y v u Q I rx ry h;obtain ⟨a,b,ys,rfl,rfl,ha,hb,q⟩:=h;cases rx;cases ry;obtain ⟨its,r1,p1,_⟩:=I.tuple ha;obtain ⟨its2,r2,p2,_⟩:=I.tuple hb;cases r1;obtain ⟨⟨cls,dd,data,sl⟩,ho,hc,n,hd⟩:=id p1;obtain ⟨⟨cls2,dd2,data2,sl2⟩,ho2,hc2,n2,hd2⟩:=id p2;simp only at hc hd hc2 hd2;subst hc hd hc2 hd2;exact concat_meets ⟨_,ho,rfl⟩ ⟨_,ho2,rfl⟩ noFill_tuple_add seq_tuple_add PySem.F.slot_tuple_add PySem.F.entry_tuple_add (PySem.F.args_tuple_add_2 _ _)
    (tuple_addW0 a b _ its2.toArray n n2 dd dd2 sl sl2 (by rfl)) ⟨ho,ho2,⟨.ref b,H,I,rfl,q⟩⟩
noncomputable def rO (K:PySem.W.Frag):R2:=fun x y H Q=>∃ l b xs zs,x=.ref l/\y=.ref b/\Rd H l (.lst xs)/\Rd H b (.lst zs)/\xs.length+zs.length<=sizeLine/\∀ p,H p=none->Q (.ref p) (ca H p (.lst (xs++zs)))
theorem qD:fX X (binaryOp .Add) (rO X.K):=by
  intro pins s σ H x y v u Q I rx ry h;obtain ⟨l,b,xs,zs,rfl,rfl,hH,hB,hz,q⟩:=h;cases rx;cases ry;obtain ⟨z,its,n,r,e⟩:=hH.ok I.hok;obtain ⟨z2,its2,n2,r2,e2⟩:=hB.ok I.hok;have hl:=r.length;have hl2:=r2.length;refine PySem.P.add_list e e2 ?_ (by rw [List.size_toArray,List.size_toArray];omega);have ea:its.toArray++its2.toArray=(its++its2).toArray:=by simp
  rw [ea];exact ⟨.ref _,_,I.lnew (t':=s.toks) (r.append r2) (by rw [List.length_append];omega),rfl,q _ I.fresh⟩
noncomputable def bp:PyData->PyData->R PyData
  | .int i,.int j=>.ok (.int (i+j))
  | .str x,.str y=>if x.length+y.length<=sizeLine then .ok (.str (x++y)) else .no
  | .tuple xs,.tuple ys=>if xs.length+ys.length<=sizeLine then .ok (.tuple (xs++ys)) else .no
  | .list xs,.list ys=>if xs.length+ys.length<=sizeLine then .ok (.list (xs++ys)) else .no
  | _,_=>.no
theorem lY {H:Hp} {ds:List PyData} {x:V} (h:dZ H (.list ds) x):∃ a vs,x=.ref a/\Rd H a (.lst vs)/\aM H ds vs:=by
  rcases h with h | h
  · simp only [Rp] at h;obtain ⟨a,o,vs,e,ha,r⟩:=h;exact ⟨a,vs,e,.inr ⟨o,ha⟩,r⟩
  · simp only [eT] at h;obtain ⟨a,vs,e,ha,r⟩:=h;exact ⟨a,vs,e,.inl ha,r⟩
theorem tt:bW X vQ (fun x y H Q=>qX (fun i j=>.int (i+j)) x y H Q\/(∃ i j,x=.str i/\y=.str j/\i.length+j.length<=sizeLine/\Q (.str (i++j)) H)\/rP X.K x y H Q\/pe X.K x y H Q\/rO X.K x y H Q) bp:=fun H x y dx dy Q hx hy q=>by
  cases dx with
  | int i =>
    cases dy with
    | int j=>exact .inl ⟨_,_,aP hx,aP hy,q _ H (al.refl _) (.inl bV)⟩
    | _=>exact q.elim
  | str i =>
    cases dy with
    | str j =>
      simp only [bp] at q;split at q
      · rename_i h;exact .inr (.inl ⟨_,_,dH hx,dH hy,h,q _ H (al.refl _) (.inl pk)⟩)
      · exact q.elim
    | _=>exact q.elim
  | tuple xs =>
    cases dy with
    | tuple ys =>
      simp only [bp] at q;split at q
      · rename_i h;have hx':=hx;obtain ⟨a,vs,rfl,ha,r⟩:=cm hx;obtain ⟨b,us,rfl,hb,r2⟩:=cm hy;cases xs with
        | nil =>
          have:=r.nil_inv;subst this;refine .inr (.inr (.inr (.inl ⟨a,b,us,rfl,rfl,eh.of ha,eh.of hb,q _ H (al.refl _) (.inl ?_)⟩)));simp only [Rp,List.nil_append];exact ⟨b,us,rfl,hb,r2⟩
        | cons d ds =>
          refine .inr (.inr (.inl ⟨a,b,vs,us,rfl,rfl,eh.of ha,eh.of hb,fun z=>?_,by rw [r.length,r2.length];exact h,fun z=>?_,fun _ p hp=>q _ _ (bM hp _) (.inl (c9 hp (r.append r2)))⟩))
          · rw [z] at r;obtain ⟨_,_,e,_⟩:=r.cons_inv;cases e
          · have hy0:ys=[]:=by
              have:=r2.length;rw [z] at this;exact List.length_eq_zero_iff.mp this.symm
            refine q _ H (al.refl _) (.inl ?_);rw [hy0,List.append_nil];simp only [Rp];exact ⟨a,vs,rfl,ha,r⟩
      · exact q.elim
    | _=>exact q.elim
  | list xs =>
    cases dy with
    | list ys =>
      simp only [bp] at q;split at q
      · rename_i h;obtain ⟨a,vs,rfl,ha,r⟩:=lY hx;obtain ⟨b,us,rfl,hb,r2⟩:=lY hy;exact .inr (.inr (.inr (.inr ⟨a,b,vs,us,rfl,rfl,ha,hb,by rw [r.length,r2.length];exact h,fun p hp=>q _ _ (bM hp _) (.inr (cJ hp (r.append r2)))⟩)))
      · exact q.elim
    | _=>exact q.elim
  | _=>exact q.elim
theorem aF (ha:Z.cr X a fa) (hb:Z.cr X b fb):Z.cc X (.BinOp a .Add b pos) (e2 bp fa fb):=⟨have ha:=ha.un;have hb:=hb.un;pP.e (ic qf (sI.or (qC.or (qE.or (oY.or qD)))) tt ha hb)⟩
end
section
variable {prog:Program} {w:World} {A:Around} {E:Value->Shared->Prop} {s:Shared}
theorem fi {t sl:Addr} {items:Array Value} {vl vu:Value} {lo hi:Option Int} {Q:Value->Shared->Prop} (ht:IsTup s.heap t items) (hs:s.heap.IsSliceOf sl vl vu .none) (pl:IsPart vl lo) (pu:IsPart vu hi)
    (hw:HT.sIx items.size 0 lo=0/\HT.sIx items.size items.size hi=items.size) (h:Q (.ref t) s):wpAny (model prog w) A (getItem (.ref t) (.ref sl)) Q E s:=by
  obtain ⟨os,hos,hcs,hds⟩:=id hs;have hTs:s.TypeIs (.ref sl) "slice" := ⟨os,hos,hcs⟩
  unfold getItem
  try with_reducible refine wpAny_holding ?_
  first | refine wpAny_bind (wpAny_pure ?_) | skip
  refine wpAny_bind (wpAny_sequenceKey ht.typeIs (by decide) ?_);refine wpAny_bind (wpAny_callSpecial?_slot (name:=Str.ofString "__getitem__") ht.typeIs PyProof.Rows.slot_tuple_getitem
    (wpAny_call_entry PyProof.Rows.slot_tuple_getitem ht.typeIs entry_tuple_getitem ?_ (args_tuple_getitem _ _)))
  show wpAny _ _ (Builtin.Tuple.tupleItemsOf (.ref t)>>=_) _ _ s;refine wpAny_bind (tupleItemsOf_ ht ?_);refine wpAny_bind (wpAny_typeOf hTs ?_);rw [if_pos (by decide)];refine wpAny_bind (HT.sliceApplied_gen hs pl pu ?_);have hyes:(((HT.sIx items.size 0 lo:Nat):Int)==0&&(1:Int)==1&&(HT.sIx items.size items.size hi-HT.sIx items.size 0 lo)==items.size)=true:=by
    rw [hw.1,hw.2];simp
  show wpAny _ _ (if (((HT.sIx items.size 0 lo:Nat):Int)==0&&(1:Int)==1&&(HT.sIx items.size items.size hi-HT.sIx items.size 0 lo)==items.size)=true then _ else _) _ _ s;rw [if_pos hyes];refine wpAny_bind (m:=Builtin.Tuple.tupleIsExact _) ?_;unfold Builtin.Tuple.tupleIsExact;refine wpAny_bind (wpAny_typeOf ht.typeIs (wpAny_pure ?_));show wpAny _ _ (if (Value.type "tuple" == Value.type "tuple")=true then _ else _) _ _ s;rw [if_pos (by decide)];refine wpAny_bind (wpAny_rule ?_)
  first
    | exact wpAny_pure ⟨_,rfl,wpAny_pure h⟩
    | exact wpAny_bind (wpAny_pure (wpAny_pure ⟨_,rfl,wpAny_pure h⟩))
end
section
variable {X:Cx} {a b c:Expr} {fa fb fc:Fe} {pos p2:Pos} {nl:Nat} {G:List Str} {x:Str} {p:Pos}
noncomputable def jD (xs:List PyData) (lo hi:Option Int):List PyData:=(xs.drop (HT.sIx xs.length 0 lo)).take (HT.sIx xs.length xs.length hi-HT.sIx xs.length 0 lo)
theorem aM.cut {H:Hp} {ds:List PyData} {vs:List V} (r:aM H ds vs) (lo hi:Option Int):aM H (jD ds lo hi) (kw vs lo hi):=by
  unfold jD kw;rw [r.length];exact (r.drop _).take _
noncomputable def wP (K:PySem.W.Frag):V->Option Int->Option Int->Hp->VK->Prop:=fun x lo hi H Q=>∃ a xs,x=.ref a/\eh K H a xs/\(HT.sIx xs.length 0 lo=0/\HT.sIx xs.length xs.length hi=xs.length)/\Q (.ref a) H
theorem po:pT X (wP X.K):=by
  intro pins s σ H x v vl vu lo hi sl Q I rx hs pl pu h;obtain ⟨a,xs,rfl,hx,hw,q⟩:=h;cases rx;obtain ⟨its,r,ht,hz⟩:=I.tuple hx;have hlen:its.toArray.size=xs.length:=by rw [List.size_toArray];exact r.length.symm
  refine ⟨"tuple",_,PyProof.Rows.slot_tuple_getitem.lookup,ht.typeIs,?_⟩;exact fi ht hs pl pu (by rw [hlen];exact hw) ⟨.ref a,H,I,rfl,q⟩
theorem tj:pT X (fun x lo hi H Q=>∃ xx,x=.str xx/\xx.length<=sizeLine/\Q (.str (Txt.slice xx lo hi)) H):=by
  intro pins s σ H x v vl vu lo hi sl Q I rx hs pl pu h;obtain ⟨xx,rfl,hz,q⟩:=h;obtain ⟨t,rfl⟩:=rx;refine ⟨"str",_,PySem.F.slot_str_getitem.lookup,typeIs_str _ _ _,?_⟩;have fin:∀ t' k,EP X pins σ Q (.str (Txt.slice xx lo hi) t') { s with toks:=k }:=fun t' k=>⟨.str _,H,I.tok k,⟨t',rfl⟩,q⟩
  cases pl with
  | none =>
    cases pu with
    | none=>exact wpAny_getItem_str_slice (l:=none) (u:=none) (st:=none) hs rfl (post_val_or_str ⟨Nat.le_trans (Txt.slice_le xx _ _) hz,fin⟩)
    | int j uj=>exact wpAny_getItem_str_slice (l:=none) (u:=some (j,uj)) (st:=none) hs rfl (post_val_or_str ⟨Nat.le_trans (Txt.slice_le xx _ _) hz,fin⟩)
  | int i ui =>
    cases pu with
    | none=>exact wpAny_getItem_str_slice (l:=some (i,ui)) (u:=none) (st:=none) hs rfl (post_val_or_str ⟨Nat.le_trans (Txt.slice_le xx _ _) hz,fin⟩)
    | int j uj=>exact wpAny_getItem_str_slice (l:=some (i,ui)) (u:=some (j,uj)) (st:=none) hs rfl (post_val_or_str ⟨Nat.le_trans (Txt.slice_le xx _ _) hz,fin⟩)
noncomputable def pK:PyData->Option Int->Option Int->R PyData
  | .str x,lo,hi=>if x.length<=sizeLine then .ok (.str (Txt.slice x lo hi)) else .no
  | .tuple xs,lo,hi=>.ok (.tuple (jD xs lo hi))
  | .list xs,lo,hi=>.ok (.list (jD xs lo hi))
  | _,_,_=>.no
noncomputable abbrev Fo:=au->R (Option Int)
noncomputable def gF:Fo:=fun _=>.ok none
noncomputable def vV:PyData->R Int
  | .int i=>.ok i
  | _=>.no
noncomputable def gG (f:Fe):Fo:=fun ρ=>f ρ>>=fun d=>vV d>>=fun i=>.ok (some i)
noncomputable def pg (X:Cx) (f:Fo):TO:=fun σ H Q=>∃ ρ,Sl H σ ρ/\match f ρ with
  | .ok o=>∀ H',al H H'->Q o H'
  | .ex c=>Xw X c H
  | .no=>False
noncomputable def tR (X:Cx) (e:Option Expr) (f:Fo):Prop:=PO X e (pg X f)
structure Z.tR (X:Cx) (e:Option Expr) (f:Fo):Prop where
  un:D2.tR X e f
theorem iY  : Z.tR X none gF:=⟨fun pins s σ H Q I ⟨ρ,sl,q⟩=>qO pins s σ H Q I (q H (al.refl _))⟩
theorem vD (Q:Option Int->Hp->Prop):pU X (fun (r:R (Option Int)) H=>match r with | .ok b=>∀ H',al H H'->Q b H' | .ex c=>Xw X c H | .no=>False) where
  mono:=fun r H H' h s=>by
    cases r with
    | ok d=>exact fun H2 s2=>h H2 (s.trans s2)
    | ex c=>exact Xw.mono h s
    | no=>exact h
  ex:=fun c H h=>h
  no:=fun H h=>h
theorem iZ {e:Expr} {f:Fe} (h:Z.cc X e f):Z.tR X (some e) (gG f):=⟨have h:=h.un;fun pins s σ H Q I q =>
  qP h pins s σ H Q I ((eI (P:=gK) (f:=f) (k:=fun _ d=>vV d>>=fun i=>.ok (some i)) (vD (X:=X) Q) q).post fun v H1 ⟨_,d,_,_,p,q1⟩=>by
    cases d with
    | int i =>
      have e1:v=.int i:=by simpa only [Rp] using p
      exact ⟨i,e1,q1 H1 (al.refl _)⟩
    | _=>exact q1.elim)⟩
noncomputable def rD (f:Fe) (lo hi:Fo):Fe:=fun ρ=>f ρ>>=fun d=>lo ρ>>=fun l=>hi ρ>>=fun u=>pK d l u
theorem n0 {β:Type} {Tg:R β->Hp->Prop} {σ:St} {H:Hp} (t:pU X Tg) {f:Fo} {k:au->Option Int->R β} (h:∃ ρ,Sl H σ ρ/\Tg (f ρ>>=k ρ) H):pg X f σ H (fun o H1=>∃ ρ,Sl H1 σ ρ/\al H H1/\Tg (k ρ o) H1):=by
  obtain ⟨ρ,sl,q⟩:=h;refine ⟨ρ,sl,?_⟩;cases e:f ρ with
  | ok d=>rw [e] at q;exact fun H1 s=>⟨ρ,sl.mono s,s,t.mono _ _ _ q s⟩
  | ex c=>rw [e] at q;exact t.ex _ _ q
  | no=>rw [e] at q;exact (t.no _ q).elim
theorem pg.post {f:Fo} {σ:St} {H:Hp} {Q Q':Option Int->Hp->Prop} (h:pg X f σ H Q) (i:∀ b H',Q b H'->Q' b H'):pg X f σ H Q':=by
  obtain ⟨ρ,sl,q⟩:=h;refine ⟨ρ,sl,?_⟩;cases e:f ρ with
  | ok d=>rw [e] at q;exact fun H' s=>i _ _ (q H' s)
  | ex c=>rw [e] at q;exact q
  | no=>rw [e] at q;exact q
theorem g8 {lo hi:Option Expr} {fl fh:Fo} (ha:Z.cr X a fa) (hl:Z.tR X lo fl) (hu:Z.tR X hi fh):Z.cc X (.Subscript a (.Slice lo hi none p2) pos) (rD fa fl fh):=⟨have ha:=ha.un;have hl:=hl.un;have hu:=hu.un;by
  refine pP.e (PE.imp (o6 (po.or (tm.or (rh.or tj))) ha hl hu) fun σ H Q h=>?_);refine (eI (P:=rz) (f:=fa) (k:=fun ρ d=>fl ρ>>=fun l=>fh ρ>>=fun u=>pK d l u) (eS (X:=X) qf Q) h).post fun v H1 zq0=>?_
  obtain ⟨ρ1,d1,sl1,_,p1,q1⟩:=zq0;refine (n0 (f:=fl) (k:=fun ρ l=>fh ρ>>=fun u=>pK d1 l u) (eS (X:=X) qf Q) ⟨ρ1,sl1,q1⟩).post fun l H2 zq0=>?_
  obtain ⟨ρ2,sl2,s2,q2⟩:=zq0;refine (n0 (f:=fh) (k:=fun ρ u=>pK d1 l u) (eS (X:=X) qf Q) ⟨ρ2,sl2,q2⟩).post fun u H3 zq0=>?_
  obtain ⟨ρ3,sl3,s3,q3⟩:=zq0;have p3:dZ H3 d1 v:=dZ.mono (dZ.mono p1 s2) s3;cases d1 with
  | tuple xs =>
    obtain ⟨a',vs,rfl,ha',r⟩:=cm p3;have hlen:=r.length;by_cases hw:HT.sIx vs.length 0 l=0/\HT.sIx vs.length vs.length u=vs.length
    · refine .inl ⟨a',vs,rfl,eh.of ha',hw,q3 _ H3 (al.refl _) (.inl ?_)⟩;have e:jD xs l u=xs:=by
        unfold jD;rw [<- hlen,hw.1,hw.2];simp [hlen]
      rw [e];simp only [Rp];exact ⟨a',vs,rfl,ha',r⟩
    · exact .inr (.inl ⟨a',vs,rfl,eh.of ha',hw,fun p hp=>q3 _ _ (bM hp _) (.inl (c9 hp (r.cut l u)))⟩)
  | list xs =>
    obtain ⟨a',vs,rfl,ha',r⟩:=cw (K:=X.K) p3;exact .inr (.inr (.inl ⟨a',vs,rfl,ha',fun p hp=>q3 _ _ (bM hp _) (.inr (cJ hp (r.cut l u)))⟩))
  | str xx =>
    simp only [pK] at q3;split at q3
    · rename_i hz;exact .inr (.inr (.inr ⟨xx,dH p3,hz,q3 _ H3 (al.refl _) (.inl (by simp only [Rp]))⟩))
    · exact q3.elim
  | _=>exact q3.elim⟩
noncomputable def wx:PyData->R PyData
  | .tuple xs=>.ok (.tuple xs.reverse)
  | _=>.no
end
section
variable {X:Cx} {a b c:Expr} {fa fb fc:Fe} {pos p2:Pos} {nl:Nat} {G:List Str} {x:Str} {p:Pos}
theorem mN:cb X (.builtin "len") (fun xs H Q=>∃ a kvs,xs=[V.ref a]/\Rd H a (.dK kvs)/\Q (.int kvs.length) H):=by
  intro pins s σ H xs us Q I r h;obtain ⟨a,kvs,rfl,ha,q⟩:=h;obtain ⟨u,rfl,ru⟩:=dX r;cases ru;exact um I ha fun t s' I'=>⟨.int kvs.length,H,I',⟨t,rfl⟩,q⟩
theorem ce.length {H:Hp}:∀ {kvs:List (PyData×PyData)} {ks:List (bI×V)},ce H kvs ks->ks.length=kvs.length
  | [],ks,h=>by simp only [ce] at h;rw [h];rfl
  | kd::kvs,ks,h=>by
    simp only [ce] at h;obtain ⟨x,v,r,rfl,_,t⟩:=h;rw [List.length_cons,List.length_cons,ce.length t]
noncomputable def iR:PyData->R PyData
  | .list ds=>.ok (.int ds.length)
  | .tuple ds=>.ok (.int ds.length)
  | .dict kvs=>if il kvs=true then .no else .ok (.int kvs.length)
  | .str y=>if y.length<=sizeLine then .ok (.int y.length) else .no
  | _=>.no
theorem fI (T:Tb X nl G) (j:Nat) (hG:G[j]?=some ("len" : Str)) (hm:X.mg "len" = none) (ha:Z.cr X a fa) (he:aL a=true:=by rfl):Z.cc X (.Call (.Name "len" p) [a] [] pos) (e1 iR fa):=⟨have ha:=ha.un;by
  refine n4 T j hG hm dI PySem.boot_len (jB.or (jC.or mN)) (fun H x d Q hx q=>?_) ha he;cases d with
  | list ds =>
    obtain ⟨a',vs,rfl,h,r⟩:=cw (K:=X.K) hx;exact .inl ⟨a',vs,rfl,.inl h,by rw [r.length];exact q _ H (al.refl _) bV⟩
  | tuple ds =>
    obtain ⟨a',vs,rfl,h,r⟩:=cm hx;exact .inl ⟨a',vs,rfl,.inr (eh.of h),by rw [r.length];exact q _ H (al.refl _) bV⟩
  | dict kvs =>
    simp only [iR] at q;split at q
    · exact q.elim
    rename_i hi;obtain ⟨a',vs,rfl,h,r⟩:=hZ (Bool.not_eq_true _ ▸ hi) hx;exact .inr (.inr ⟨a',vs,rfl,h,by rw [r.length];exact q _ H (al.refl _) bV⟩)
  | str y =>
    simp only [iR] at q;split at q
    · rename_i hz;exact .inr (.inl ⟨y,by rw [dH hx],hz,q _ H (al.refl _) bV⟩)
    · exact q.elim
  | _=>exact q.elim⟩
noncomputable def gO:PyData->R PyData
  | .int i=>.ok (.int i)
  | .bool k=>.ok (.int (if k then 1 else 0))
  | _=>.no
theorem eU (T:Tb X nl G) (j:Nat) (hG:G[j]?=some ("int" : Str)) (hm:X.mg "int" = none) (ha:Z.cr X a fa) (he:aL a=true:=by rfl):Z.cc X (.Call (.Name "int" p) [a] [] pos) (e1 gO fa):=⟨have ha:=ha.un;by
  refine vN T j hG hm dI PyProof.Rows.boot_int mM (fun H x d Q hx q=>?_) ha he;cases d with
  | int i=>exact .inl ⟨i,by rw [aP hx],q _ H (al.refl _) bV⟩
  | bool k=>exact .inr ⟨k,by rw [kq hx],q _ H (al.refl _) bV⟩
  | _=>exact q.elim⟩
noncomputable def xo:PyData->R PyData
  | .int i=>if i.natAbs.log2 < 1920 then .ok (.str (toString i)) else .no
  | _=>.no
noncomputable def iS:PyData->PyData->R PyData
  | .int i,.int j=>.ok (.int (if j < i then j else i))
  | _,_=>.no
noncomputable def gh:PyData->PyData->R PyData
  | .int i,.int j=>.ok (.int (if j > i then j else i))
  | _,_=>.no
theorem fJ (T:Tb X nl G) (j:Nat) (hG:G[j]?=some ("min" : Str)) (hm:X.mg "min" = none) (ha:Z.cr X a fa) (hb:Z.cr X b fb) (he:aL a=true:=by rfl) (he2:aL b=true:=by rfl):Z.cc X (.Call (.Name "min" p) [a,b] [] pos) (e2 iS fa fb):=⟨have ha:=ha.un;have hb:=hb.un;by
  refine ug T j hG hm dI PyProof.Rows.boot_min (mR T.calm) (fun H x y d e Q hx hy q=>?_) ha hb he he2;cases d with
  | int i =>
    cases e with
    | int j=>exact ⟨i,j,by rw [aP hx,aP hy],q _ H (al.refl _) bV⟩
    | _=>exact q.elim
  | _=>exact q.elim⟩
theorem dA (T:Tb X nl G) (j:Nat) (hG:G[j]?=some ("max" : Str)) (hm:X.mg "max" = none) (ha:Z.cr X a fa) (hb:Z.cr X b fb) (he:aL a=true:=by rfl) (he2:aL b=true:=by rfl):Z.cc X (.Call (.Name "max" p) [a,b] [] pos) (e2 gh fa fb):=⟨have ha:=ha.un;have hb:=hb.un;by
  refine ug T j hG hm dI PyProof.Rows.boot_max (mP T.calm) (fun H x y d e Q hx hy q=>?_) ha hb he he2;cases d with
  | int i =>
    cases e with
    | int j=>exact ⟨i,j,by rw [aP hx,aP hy],q _ H (al.refl _) bV⟩
    | _=>exact q.elim
  | _=>exact q.elim⟩
noncomputable def dn:PyData->R PyData
  | .list ds=>.ok (.tuple ds)
  | .tuple ds=>.ok (.tuple ds)
  | _=>.no
theorem cC (T:Tb X nl G) (j:Nat) (hG:G[j]?=some ("tuple" : Str)) (hm:X.mg "tuple" = none) (ha:Z.cr X a fa) (he:aL a=true:=by rfl):Z.cc X (.Call (.Name "tuple" p) [a] [] pos) (e1 dn fa):=⟨have ha:=ha.un;by
  refine vN T j hG hm dI PyProof.Rows.boot_tuple iP (fun H x d Q hx q=>?_) ha he;cases d with
  | list ds =>
    obtain ⟨a',vs,rfl,h,r⟩:=cw (K:=X.K) hx;exact ⟨a',vs,rfl,.inl ⟨h,fun l hl=>q _ _ (bM hl _) (c9 hl r)⟩⟩
  | tuple ds =>
    obtain ⟨a',vs,rfl,h,r⟩:=cm hx;exact ⟨a',vs,rfl,.inr ⟨eh.of h,q _ H (al.refl _) (by simp only [Rp];exact ⟨a',vs,rfl,h,r⟩)⟩⟩
  | _=>exact q.elim⟩
noncomputable def rB:PyData->R PyData
  | .list ds=>.ok (.list ds)
  | .tuple ds=>.ok (.list ds)
  | _=>.no
end
section
variable {X:Cx} {tg a b c:Expr} {fa fb fc:Fe} {pos p2:Pos} {nl:Nat} {G:List Str} {x:Str} {p:Pos} {fs:au->R (List PyData)} {es:List Expr}
noncomputable def iy:PyData->R (List PyData)
  | .list ds=>.ok ds
  | .tuple ds=>.ok ds
  | _=>.no
noncomputable def c7 (f:Fe):au->R (List PyData):=fun ρ=>f ρ>>=iy
theorem oG {K:PySem.W.Frag} {a:Addr} {ds:List PyData}:r9 (wj K a) (fun H=>∃ o vs,H a=some (.frz o (.lst vs))/\aM H ds vs) ds where
  go:=fun i H ⟨o,vs,h,r⟩ hi=>by
    have hl:=r.length;exact ⟨vs,vs[i],.inl (.inr ⟨o,h⟩),List.getElem?_eq_getElem (by omega)⟩
  yld:=fun i H x H' d ⟨o,vs,h,r⟩ hd ⟨e,y⟩=>by
    subst e;obtain ⟨v,e1,p⟩:=r.get hd;have:=y vs (.inl (.inr ⟨o,h⟩));rw [e1] at this;cases this;exact ⟨al.refl _,p⟩
  stop:=fun i H ⟨o,vs,h,r⟩ hi=>⟨vs,.inl (.inr ⟨o,h⟩),by rw [r.length];exact hi⟩
theorem qt {K:PySem.W.Frag} {a:Addr} {ds:List PyData}:r9 (wk K a) (fun H=>∃ vs,H a=some (.tup vs)/\aM H ds vs) ds where
  go:=fun i H ⟨vs,h,r⟩ hi=>by
    have hl:=r.length;exact ⟨vs,vs[i],eh.of h,List.getElem?_eq_getElem (by omega)⟩
  yld:=fun i H x H' d ⟨vs,h,r⟩ hd ⟨e,y⟩=>by
    subst e;obtain ⟨v,e1,p⟩:=r.get hd;have:=y vs (eh.of h);rw [e1] at this;cases this;exact ⟨al.refl _,p⟩
  stop:=fun i H ⟨vs,h,r⟩ hi=>⟨vs,eh.of h,by rw [r.length];exact hi⟩
noncomputable def xq (K:PySem.W.Frag) (tl:TE):TI:=fun σ H R=>tl σ H fun x H1=>∃ a,x=.ref a/\((∃ xs,iE K H1 a xs/\R (wj K a) H1)\/∃ xs,eh K H1 a xs/\R (wk K a) H1)
theorem uZ {l:Expr} {tl:TE} (hl:PE X l tl):PI X tg l (xq X.K tl):=by
  intro pins s σ H R I h;refine cq (hl pins s σ H _ I h) fun v s1 zq0=>?_
  obtain ⟨x,H1,I1,r1,q1⟩:=zq0;obtain ⟨a,e,q⟩:=q1;subst e;cases r1;rcases q with ⟨xs,hq,q⟩ | ⟨xs,hq,q⟩
  · obtain ⟨its,rv,p,hz⟩:=I1.list hq;refine wpAny_pyIter_list p.isList ?_;refine ⟨s1.heap.objs.size,[s1.heap.objs.size],_,_,H1,rfl,I1.kept (t':=s1.toks) fun b o e=>Heap.get?_push_of_some _ e,nJ a _,⟨_,Heap.get?_push_size _ rfl,rfl,rfl⟩,fun b hb=>?_,q⟩;have e:b=s1.heap.objs.size:=by simpa using hb
    subst e;exact I1.fpOk (Nat.le_refl _) (I1.hok.fresh (Nat.le_refl _))
  · obtain ⟨its,rv,p,hz⟩:=I1.tuple hq;refine wpAny_pyIter_tuple (show s1.heap.IsTuple a its.toArray from p) ?_;refine ⟨s1.heap.objs.size,[s1.heap.objs.size],_,_,H1,rfl,I1.kept (t':=s1.toks) fun b o e=>Heap.get?_push_of_some _ e,lQ a _,⟨_,Heap.get?_push_size _ rfl,rfl,rfl⟩,fun b hb=>?_,q⟩;have e:b=s1.heap.objs.size:=by simpa using hb
    subst e;exact I1.fpOk (Nat.le_refl _) (I1.hok.fresh (Nat.le_refl _))
theorem vC (Rk:It->Hp->Prop):pU X (fun (r:R (List PyData)) H=>match r with | .ok ds=>∀ J H',al H H'->(∃ Gd,r9 J Gd ds/\vS H' (fun _=>False) Gd)->Rk J H' | .ex c=>Xw X c H | .no=>False) where
  mono:=fun r H H' h s=>by
    cases r with
    | ok d=>exact fun J H2 s2=>h J H2 (s.trans s2)
    | ex c=>exact Xw.mono h s
    | no=>exact h
  ex:=fun c H h=>h
  no:=fun H h=>h
theorem bD (ha:Z.cc X a fa):Z.mD X tg a (c7 fa):=⟨have ha:=ha.un;PI.imp (uZ ha) fun σ H Rk h=>(eI (P:=gK) (f:=fa) (k:=fun _=>iy) (vC (X:=X) Rk) h).post fun v H1 ⟨_,d,_,_,p1,q1⟩=>by
    cases d with
    | list ds =>
      simp only [Rp] at p1;obtain ⟨a',o,vs,rfl,h,r⟩:=p1;exact ⟨a',rfl,.inl ⟨vs,.inl (.inr ⟨o,h⟩),q1 _ H1 (al.refl _) ⟨_,oG,fun H2 k _=>⟨o,vs,k.2 _ _ _ h,aM.kp k _ _ r⟩⟩⟩⟩
    | tuple ds =>
      simp only [Rp] at p1;obtain ⟨a',vs,rfl,h,r⟩:=p1;exact ⟨a',rfl,.inr ⟨vs,eh.of h,q1 _ H1 (al.refl _) ⟨_,qt,fun H2 k _=>⟨vs,k.1 _ _ h,aM.kp k _ _ r⟩⟩⟩⟩
    | _=>exact q1.elim⟩
noncomputable def bg (lo:Int) (n:Nat):List PyData:=(List.range n).map fun (k:Nat)=>.int (lo+k)
noncomputable def jT:List PyData->R (List PyData)
  | [.int j]=>if -(2 ^ 62)<=j/\j < 2 ^ 62 then .ok (bg 0 j.toNat) else .no
  | [.int i,.int j]=>if -(2 ^ 62)<=i/\i < 2 ^ 62/\-(2 ^ 62)<=j/\j < 2 ^ 62 then .ok (bg i (j-i).toNat) else .no
  | _=>.no
noncomputable def eK (fs:au->R (List PyData)):au->R (List PyData):=fun ρ=>fs ρ>>=jT
theorem ng {lo:Int} {n:Nat}:r9 (vP lo n) (fun _=>True) (bg lo n) where
  go:=fun i H _ hi=>by
    show i < n;simpa [bg] using hi
  yld:=fun i H x H' d _ hd ⟨e,y⟩=>by
    subst e;subst y;refine ⟨al.refl _,?_⟩;unfold bg at hd;rw [List.getElem?_map] at hd;cases h:(List.range n)[i]? with
    | none=>rw [h] at hd;cases hd
    | some k =>
      rw [h] at hd;have hk:k=i:=by
        rw [List.getElem?_range] at h
        · exact (Option.some.inj h).symm
        · have:=(List.getElem?_eq_some_iff.mp h).1;simpa using this
      subst hk;cases hd;exact bV
  stop:=fun i H _ hi=>by
    show n<=i;simpa [bg] using hi
theorem dc (T:Tb X nl G) (j:Nat) (hG:G[j]?=some ("range" : Str)) (hm:X.mg "range" = none) (ha:Z.lR X [a] fs) (hl:∀ ρ ds,fs ρ=.ok ds->ds.length=1) (hs:aL a=true:=by rfl):Z.mD X tg (.Call (.Name "range" p) [a] [] pos) (eK fs):=⟨have ha:=ha.un;PI.imp (nv (T.gl _ (List.mem_of_getElem? hG)).1 hm ha (bU hs)) fun σ H Rk ⟨ρ,sl,q⟩=>by
    refine ⟨ρ,sl,?_⟩;dsimp only [eK] at q;cases e:fs ρ with
    | ex c=>rw [e] at q;exact q
    | no=>rw [e] at q;exact q
    | ok ds =>
      rw [e] at q;have hlen:=hl ρ ds e;intro vs H1 s1 r1
      match ds,hlen with
      | [d],_ =>
        simp only [RA] at r1;obtain ⟨v,r',rfl,p1,rfl⟩:=r1;cases d with
        | int j =>
          have ev:v=.int j:=by simpa only [Rp] using p1
          subst ev;by_cases hz:-(2 ^ 62)<=j/\j < 2 ^ 62
          · have e2:jT [.int j]=.ok (bg 0 j.toNat):=if_pos hz;rw [R.ok_bind,e2] at q;exact ⟨j,rfl,hz.1,hz.2,q _ H1 s1 ⟨_,ng,fun _ _ _=>True.intro⟩⟩
          · have e2:jT [.int j]=.no:=if_neg hz;rw [R.ok_bind,e2] at q;exact q.elim
        | _=>exact q.elim⟩
end
noncomputable def lx (x:Int):List Int->List Int
  | []=>[x]
  | y::r=>if x<=y then x::y::r else y::lx x r
noncomputable def cU:List Int->List Int
  | []=>[]
  | x::r=>lx x (cU r)
theorem gk (x:Int):∀ l,(lx x l).Perm (x::l)
  | []=>List.Perm.refl _
  | y::r=>by
    unfold lx;split
    · exact List.Perm.refl _
    · exact ((gk x r).cons y).trans (List.Perm.swap x y r)
theorem cE:∀ l,(cU l).Perm l
  | []=>List.Perm.refl _
  | x::r=>(gk x (cU r)).trans ((cE r).cons x)
theorem gB (x:Int):∀ l,l.Pairwise (·<=·)->(lx x l).Pairwise (·<=·)
  | [],_=>by unfold lx;exact List.pairwise_singleton _ _
  | y::r,h=>by
    have h':=List.pairwise_cons.mp h;unfold lx;split
    · rename_i hxy;refine List.pairwise_cons.mpr ⟨fun z hz=>?_,h⟩;rcases List.mem_cons.mp hz with rfl | hz
      · exact hxy
      · exact Int.le_trans hxy (h'.1 z hz)
    · rename_i hxy;refine List.pairwise_cons.mpr ⟨fun z hz=>?_,gB x r h'.2⟩;rcases List.mem_cons.mp ((gk x r).mem_iff.mp hz) with rfl | hz
      · omega
      · exact h'.1 z hz
theorem dR:∀ l,(cU l).Pairwise (·<=·)
  | []=>List.Pairwise.nil
  | x::r=>gB x _ (dR r)
theorem kP {a b:List Int} (hp:a.Perm b) (hs:a.Pairwise (·<=·)):a=cU b:=PySem.W.ksm_same (hp.trans (cE b).symm) hs (dR b)
section
variable {prog:Program} {w:World} {A:Around} {E:Value->Shared->Prop} {s:Shared}
theorem kQ {d:Addr} {kvs:List (bI×Value)} {ns:List Int} {Q:Value->Shared->Prop} (hh:A.handled=none) (lo:(d==sysModules)=false) (hd:s.heap.DictOf (bL prog w) d kvs) (hk:kvs.map (·.1)=ns.map Sum.inl) (h64:ns.length < 64)
    (h:∀ (D:Addr) (h':Heap) (tk:Nat) (vs:List Value) (e:Nat),s.heap.get? D=none->(∀ b o,s.heap.get? b=some o->h'.get? b=some o)->h'.get? D=some (seqObj "list" vs.toArray e)->IntsAre vs (cU ns)->Q (.ref D) { s with heap:=h',toks:=tk }) :
    wpAny (model prog w) A (call (.builtin "sorted") [.ref d]) Q E s:=by
  obtain ⟨ep,hat⟩:=hd.dictAt;have hlen:kvs.length=ns.length:=by have:=congrArg List.length hk;simpa using this
  have hn:kvs.length<=sizeLine:=by rw [sizeLine_eq];omega
  refine Calls.call_function_entry kind_sorted plain_sorted entry_sorted (args_sorted1 _) ?_;unfold Builtin.«sorted»;refine wpAny_bind (m:=checkCount "sorted" 1 1 _) (wpAny_pure ?_);refine wpAny_bind (PySem.W.kdu_collect (A:=A.in1) (PySem.W.kdl_dict (knd:=bL prog w) (kvs:=kvs) (ep:=ep) lo) hh hat hn fun h1 tk acc hk1 hacc=>?_);have hl:acc.toList.length=kvs.length:=by rw [Array.length_toList];exact hacc.1
  have hI:IntsAre acc.toList ns:=by
    have key:∀ (l:List Value) (ms:List Int) (k:Nat),l.length=ms.length->(∀ (j:Nat) (v:Value),l[j]?=some v->∃ n:Int,ms[j]?=some n/\∃ t,v=Value.int n t)->IntsAre l ms:=by
      intro l;induction l with
      | nil=>intro ms k e _;have:ms=[]:=List.length_eq_zero_iff.mp e.symm;subst this;exact .nil
      | cons v r ih =>
        intro ms k e hv;cases ms with
        | nil=>cases e
        | cons n ms =>
          obtain ⟨n',e1,t,rfl⟩:=hv 0 v rfl;have:n=n':=Option.some.inj e1;subst this;exact .cons n t (ih ms (k+1) (by simpa using e) fun j u hu=>hv (j+1) u (by simpa using hu))
    refine key acc.toList ns 0 (by rw [hl,hlen]) fun j v hv=>?_
    obtain ⟨κ,x,hx,his⟩:=hacc.2 j v (by rw [<- Array.getElem?_toList];exact hv);have e1:(kvs.map (·.1))[j]?=some κ:=by rw [List.getElem?_map,hx];rfl
    rw [hk,List.getElem?_map] at e1;cases e2:ns[j]? with
    | none=>rw [e2] at e1;cases e1
    | some n =>
      rw [e2] at e1;have e3:Sum.inl n=κ:=Option.some.inj e1;subst e3;rcases bj (show im (Sum.inl n) v=true from his) with ⟨i,t,e4,e5⟩ | ⟨y,t,e4,_⟩
      · cases e4;exact ⟨n,rfl,t,e5⟩
      · cases e4
  refine wpAny_bind (wpAny_newList ?_ (by rw [hl];exact hn));have hoL:(h1.push (seqObj "list" acc.toList.toArray 0)).get? h1.objs.size=some (seqObj "list" acc.toList.toArray 0):=Heap.get?_push_size _ rfl;show wpAny _ _ _ _ _ { s with heap:=h1.push (seqObj "list" acc.toList.toArray 0),toks:=tk };refine wpAny_bind (wpAny_holding (wpAny_call_entry slot_list_sort ⟨_,hoL,rfl⟩ entry_list_sort (list_sort_tree hoL hI (by rw [hl,hlen];exact h64) fun out ns' a1 a2 a3=>⟨_,rfl,?_⟩) (args_list_sort _)));refine wpAny_pure ⟨_,rfl,?_⟩;obtain ⟨e,he⟩:=sortedHeap_at (out:=out) hoL;have hsz:s.heap.get? h1.objs.size=none:=by
    cases q:s.heap.get? h1.objs.size with
    | none=>rfl
    | some o=>exact absurd (Heap.lt_size (hk1 _ _ q)) (Nat.lt_irrefl _)
  refine h h1.objs.size _ tk out.toList e hsz (fun b o q=>?_) he (by rw [kP a2 a3] at a1;exact a1);have q1:=hk1 b o q;have hlt:b < h1.objs.size:=Heap.lt_size q1;show (sortedHeap (h1.push (seqObj "list" acc.toList.toArray 0)) h1.objs.size acc.toList out).get? b=some o;rw [sortedHeap_old (Nat.ne_of_lt hlt) (by rw [size_push'];exact Nat.lt_succ_of_lt hlt)];exact Heap.get?_push_of_some _ q1
end
theorem rp {fs ex:List Addr} {H:Hp} {h h':Heap} {a:Addr} {o:HO} (k:∀ b u,h.get? b=some u->h'.get? b=some u) (hg:h.get? a=none) (hn:H a=none):Un fs ex H (ca H a o) h h':=by
  have ne:∀ {b:Addr} {u:Obj},h.get? b=some u->b≠a:=fun e z=>by subst z;rw [hg] at e;cases e
  exact ⟨fun b u q _ _ _=>k b u q,fun b u q _ _ _=>⟨u.slots,k b u q⟩,fun b u q n _=>by rw [am (ne q)];exact n,fun b u q _=>⟨u,k b u q⟩,fun b xs q=>by rw [am (ar q hn)];exact q,fun b u xs q=>by rw [am (ar q hn)];exact q,
    fun b ps q=>by rw [am (ar q hn)];exact q⟩
theorem oD {X:Cx} {pins:List (Addr×Obj)} {σ:St} {H:Hp} {s:Shared} {h':Heap} {a:Addr} {o:HO} {t':Nat} (I:aq X pins σ H s) (k:∀ b u,s.heap.get? b=some u->h'.get? b=some u) (hg:s.heap.get? a=none) (hn:H a=none)
    (new:bw X.prog X.w (ca H a o) h' a o):aq X pins σ (ca H a o) { s with heap:=h',toks:=t' }:=by
  refine I.un (rp k hg hn) fun b u e=>?_
  by_cases hb:b=a
  · subst hb;rw [bc] at e;cases e;exact new
  · rw [am hb] at e;exact (I.hok b u e).stay (fun c v _ q=>k c v q) (fun c q=>by rw [am (ar q hn)];exact q) fun c xs q=>by rw [am (ar q hn)];exact q
theorem oE {X:Cx} {pins:List (Addr×Obj)} {σ:St} {H:Hp} {s:Shared} {a:Addr} (I:aq X pins σ H s) (hg:s.heap.get? a=none):H a=none:=by
  cases q:H a with
  | none=>rfl
  | some o=>obtain ⟨u,e⟩:=lF (I.hok a o q);rw [hg] at e;cases e
section
variable {X:Cx} {a b c:Expr} {fa fb fc:Fe} {pos p2:Pos} {nl:Nat} {G:List Str} {x:Str} {p:Pos}
noncomputable def bG:List PyData->Option (List Int)
  | []=>some []
  | .int i::ds=>(bG ds).map fun r=>i::r
  | _=>none
theorem cD:∀ {ds:List PyData} {ns:List Int},bG ds=some ns->ds=ns.map PyData.int
  | [],ns,h=>by cases h;rfl
  | d::ds,ns,h=>by
    cases d with
    | int i =>
      simp only [bG] at h;cases e:bG ds with
      | none=>rw [e] at h;cases h
      | some r =>
        rw [e] at h;cases h;rw [List.map_cons,cD e]
    | _=>cases h
theorem cI:∀ ns:List Int,bG (ns.map PyData.int)=some ns
  | []=>rfl
  | n::ns=>by simp only [List.map_cons,bG,cI ns,Option.map_some]
noncomputable def fO:PyData->R PyData
  | .list ds=>match bG ds with
    | some ns=>if ns.length < 64 then .ok (.list ((cU ns).map PyData.int)) else .no
    | none=>.no
  | .dict kvs=>match bG (kvs.map (·.1)) with
    | some ns=>if ns.length < 64 then .ok (.list ((cU ns).map PyData.int)) else .no
    | none=>.no
  | _=>.no
noncomputable def sX (K:PySem.W.Frag):List V->Hp->VK->Prop:=fun xs H Q=>∃ p ns,xs=[.ref p]/\iE K H p (ns.map V.int)/\ns.length < 64/\∀ l,H l=none->Q (.ref l) (ca H l (.lst ((cU ns).map V.int)))
noncomputable def sW:List V->Hp->VK->Prop:=fun xs H Q=>∃ p ks ns,xs=[.ref p]/\Rd H p (.dK ks)/\ks.map (·.1)=ns.map Sum.inl/\ns.length < 64/\∀ l,H l=none->Q (.ref l) (ca H l (.lst ((cU ns).map V.int)))
theorem jo (ns:List Int):(cU ns).length=ns.length:=(cE ns).length_eq
theorem ln:cb X (.builtin "sorted") (sX X.K):=by
  intro pins s σ H xs us Q I r h;obtain ⟨p,ns,rfl,hq,h64,q⟩:=h;obtain ⟨u,rfl,rx⟩:=dX r;cases rx;obtain ⟨its,rv,pl,hz⟩:=I.list hq;have hI:IntsAre its ns:=dL rv;have hl:=IntsAre.length hI;refine sorted_ints pl.isList hI (by omega) fun out ns' a1 a2 a3=>?_
  rw [kP a2 a3] at a1;obtain ⟨e,he⟩:=sortedAll_at s.heap its out;refine ⟨.ref (s.heap.objs.size+1),_,I.laid (t':=s.toks) (o:=.lst ((cU ns).map V.int)) (fun b o e=>sortedAll_old e) (Nat.le_succ _) ⟨?_,out.toList,e,fg a1,by simpa [seqObj] using he⟩,rfl,q _ (I.hok.fresh (Nat.le_succ _))⟩;rw [List.length_map,jo,sizeLine_eq];omega
theorem lm (hc:X.calm=true):cb X (.builtin "sorted") sW:=by
  intro pins s σ H xs us Q I r h;obtain ⟨p,ks,ns,rfl,hq,hk,h64,q⟩:=h;obtain ⟨u,rfl,rx⟩:=dX r;cases rx;obtain ⟨hz,hlo,vs,kv,hd⟩:=ky I.hok hq;refine kQ (I.ok.hd hc) hlo hd (by rw [<- kv.keys];exact hk) h64 fun D h' tk vs' e hg kp hD hI=>?_
  have hn:=oE I hg;refine ⟨.ref D,_,oD (t':=tk) (o:=.lst ((cU ns).map V.int)) I kp hg hn ⟨?_,vs',e,fg hI,by simpa [seqObj] using hD⟩,rfl,q _ hn⟩;rw [List.length_map,jo,sizeLine_eq];omega
theorem eN:∀ {H:Hp} {ns:List Int} {vs:List V},aM H (ns.map PyData.int) vs->vs=ns.map V.int
  | H,[],vs,r=>by rw [List.map_nil] at r;rw [r.nil_inv];rfl
  | H,n::ns,vs,r=>by
    rw [List.map_cons] at r;obtain ⟨v,r',rfl,p,t⟩:=r.cons_inv;have:v=.int n:=by simpa only [Rp] using p
    rw [this,eN t];rfl
theorem kN:∀ {H:Hp} {kvs:List (PyData×PyData)} {ks:List (bI×V)},ce H kvs ks->kvs.map (·.1)=ks.map fun k=>cR k.1
  | H,[],ks,r=>by simp only [ce] at r;rw [r];rfl
  | H,(k,d)::kvs,ks,r=>by
    simp only [ce,pS] at r;obtain ⟨x,v,r',rfl,⟨e,_⟩,t⟩:=r;rw [List.map_cons,List.map_cons,kN t,e]
theorem jg:∀ {ks:List (bI×V)} {ns:List Int},(ks.map fun k=>cR k.1)=ns.map PyData.int->ks.map (·.1)=ns.map Sum.inl
  | [],[],_=>rfl
  | [],_::_,h=>by cases h
  | _::_,[],h=>by cases h
  | (k,v)::ks,n::ns,h=>by
    rw [List.map_cons,List.map_cons] at h;injection h with h1 h2
    rw [List.map_cons,List.map_cons,jg h2];cases k with
    | inl i=>simp only [cR] at h1;cases h1;rfl
    | inr y=>simp only [cR] at h1;cases h1
theorem jx (T:Tb X nl G) (j:Nat) (hG:G[j]?=some ("sorted" : Str)) (hm:X.mg "sorted" = none) (ha:Z.cr X a fa) (he:aL a=true:=by rfl):Z.iI X (.Call (.Name "sorted" p) [a] [] pos) (e1 fO fa):=⟨have ha:=ha.un;by
  refine n4 T j hG hm ss PyProof.Rows.boot_sorted (ln.or (lm T.calm)) (fun H x d Q hx q=>?_) ha he;cases d with
  | list ds =>
    simp only [fO] at q;cases ei:bG ds with
    | none=>rw [ei] at q;exact q.elim
    | some ns =>
      rw [ei] at q;dsimp only at q;by_cases h64:ns.length < 64
      · rw [if_pos h64] at q;obtain ⟨a',vs,rfl,h,r⟩:=cw (K:=X.K) hx;rw [cD ei] at r;rw [eN r] at h;exact .inl ⟨a',ns,rfl,h,h64,fun l hl=>q _ _ (bM hl _) (cJ hl (aM.ints _))⟩
      · rw [if_neg h64] at q;exact q.elim
  | dict kvs =>
    simp only [fO] at q;cases ei:bG (kvs.map (·.1)) with
    | none=>rw [ei] at q;exact q.elim
    | some ns =>
      rw [ei] at q;dsimp only at q;by_cases h64:ns.length < 64
      · rw [if_pos h64] at q;have hi:il kvs=false:=by
          cases kvs with
          | nil=>rfl
          | cons kd kvs =>
            obtain ⟨k,d⟩:=kd;cases k <;> first | rfl | (simp [bG] at ei)
        obtain ⟨a',ks,rfl,h,r⟩:=hZ hi hx;have hk:=jg ((kN r).symm.trans (cD ei));exact .inr ⟨a',ks,ns,rfl,h,hk,h64,fun l hl=>q _ _ (bM hl _) (cJ hl (aM.ints _))⟩
      · rw [if_neg h64] at q;exact q.elim
  | _=>exact q.elim⟩
end
section
variable {X:Cx} {a b c:Expr} {fa fb fc:Fe} {pos p2:Pos} {nl:Nat} {G:List Str} {x:Str} {p:Pos}
theorem dF.change {Fm H:Hp} {σ:St} {ρ:au} {i:Nat} {d d':PyData} {a:Addr} {u u':HO} (h:dF Fm H σ ρ) (h1:ρ[i]?=some (.own d)) (h2:σ[i]?=some (some (.ref a))) (hu:H a=some u) (hm:(∃ xs,u=.lst xs)\/∃ ks,u=.dK ks)
    (hr:eT (ca H a u') d' (.ref a)):dF Fm (ca H a u') σ (ρ.set i (.own d')):=by
  have hFa:=h.own i d a h1 h2;have kp:Kp H (ca H a u'):=eL hu hm;have at_i:∀ (j:Nat) (e:PyData),(ρ.set i (.own d'))[j]?=some (.own e)->∃ e0,ρ[j]?=some (.own e0):=fun j e q=>by
    rw [List.getElem?_set] at q;by_cases hij:i=j
    · subst hij;exact ⟨d,h1⟩
    · rw [if_neg hij] at q;exact ⟨e,q⟩
  refine ⟨fun b x e=>?_,⟨by rw [List.length_set];exact h.sl.1,fun j c w' e1 e2=>?_⟩,fun j e b e1 e2=>?_,fun j k e f b e1 e2 e3 e4=>?_⟩
  · rw [am (ar e hFa)];exact h.fm b x e
  · rw [List.getElem?_set] at e1;by_cases hij:i=j
    · subst hij;rw [if_pos rfl] at e1;split at e1
      · cases e1;rw [h2] at e2;cases e2;exact ⟨_,rfl,hr⟩
      · cases e1
    · rw [if_neg hij] at e1;have q:=h.sl.2 j c w' e1 e2;cases c with
      | exc p=>exact q
      | non=>exact True.intro
      | val d1=>obtain ⟨v,z1,z2⟩:=q;exact ⟨v,z1,Rp.kp kp _ _ z2⟩
      | own d1 =>
        obtain ⟨v,z1,z2⟩:=q;subst z1;obtain ⟨b,ob,rfl,hb⟩:=jO z2;have nb:b≠a:=fun z=>hij (by subst z;exact h.apart i j d d1 b h1 e1 h2 e2)
        refine ⟨_,rfl,?_⟩;cases d1 <;> simp only [eT] at z2 ⊢
        · obtain ⟨b',vs,e,hb',r⟩:=z2;cases e;exact ⟨b,vs,rfl,by rw [am nb];exact hb',aM.kp kp _ _ r⟩
        · obtain ⟨b',vs,e,hb',r⟩:=z2;cases e;exact ⟨b,vs,rfl,by rw [am nb];exact hb',ce.kp kp _ _ r⟩
  · obtain ⟨e0,q⟩:=at_i j e e1;exact h.own j e0 b q e2
  · obtain ⟨e0,q⟩:=at_i j e e1;obtain ⟨f0,q'⟩:=at_i k f e2;exact h.apart j k e0 f0 b q q' e3 e4
noncomputable def re (i:Nat) (fk fv:Fe):Fs:=fun ρ=>fv ρ>>=fun v=>kG (fk ρ)>>=fun k=>match ρ[i]? with
  | some (.own (.dict kvs))=>match dU k with
    | some _=>if kvs.length < sizeLine then .ok (.nx (ρ.set i (.own (.dict (lH kvs k v))))) else .no
    | none=>.no
  | _=>.no
theorem nj {k:PyData} {κ:bI} (h:dU k=some κ):k=cR κ:=by
  cases k <;> simp only [dU] at h <;> cases h <;> rfl
theorem sZ {H:Hp} {κ:bI} {y:V} (h:Rp H (cR κ) y):y=kV κ:=by
  cases κ <;> simp only [cR,Rp] at h <;> exact h
theorem nU {k v:Expr} {fk fv:Fe} {q1 q2 q3:Pos} (T:Tb X nl G) (n:Nat) (hN:X.N[n]?=some x) (hk:Z.cc X k fk) (hv:Z.cc X v fv) (hs:swapsWith v (some (.Subscript (.Name x q1) k q2)) q3.line X.env=pure false:=by rfl):Z.gx X (.Assign [.Subscript (.Name x q1) k q2] v q3) (re n fk fv):=⟨have hk:=hk.un;have hv:=hv.un;fun Fm=>by
  have hm:=T.vis x (List.mem_of_getElem? hN);refine PS.imp (qQ (by have:=T.hu;omega) (iq hN hm.1 hm.2.1 hm.2.2) hk hv hs) fun D σ H h=>?_
  refine (jA (P:=gK) (f:=fv) (k:=fun ρ v=>kG (fk ρ)>>=fun k=>match ρ[n]? with
    | some (.own (.dict kvs))=>match dU k with
      | some _=>if kvs.length < sizeLine then .ok (.nx (ρ.set n (.own (.dict (lH kvs k v))))) else .no
      | none=>.no
    | _=>.no) h).post fun vv H1 ⟨ρ1,dv,sl1,_,p1,q1⟩=>?_
  have sl0:rR X Fm (fun ρ=>kG (fk ρ)>>=fun k=>match ρ[n]? with
    | some (.own (.dict kvs))=>match dU k with
      | some _=>if kvs.length < sizeLine then .ok (.nx (ρ.set n (.own (.dict (lH kvs k dv))))) else .no
      | none=>.no
    | _=>.no) D σ H1:=⟨ρ1,sl1,q1⟩
  cases e:ρ1[n]? with
  | none =>
    exfalso;rw [e] at q1;cases e2:fk ρ1 with
    | ok _=>rw [e2] at q1;exact q1
    | ex _=>rw [e2] at q1;exact q1
    | no=>rw [e2] at q1;exact q1
  | some c =>
    rw [e] at q1;cases c with
    | own d =>
      cases d with
      | dict kvs =>
        obtain ⟨o,h2,w',rfl,p2⟩:=sl1.sl.at e;simp only [eT] at p2;obtain ⟨a',ks,rfl,ha,r⟩:=p2;refine ⟨.ref a',h2,?_⟩;refine ⟨ρ1,sl1.sl,?_⟩;cases e2:fk ρ1 with
        | ex _=>rw [e2] at q1;exact q1.elim
        | no=>rw [e2] at q1;exact q1
        | ok kd =>
          rw [e2] at q1;simp only [kG,R.ok_bind] at q1;intro yv H3 s3 p3;cases e3:dU kd with
          | none=>rw [e3] at q1;exact q1.elim
          | some κ =>
            rw [e3] at q1;dsimp only at q1;by_cases hz:kvs.length < sizeLine
            · rw [if_pos hz] at q1;have ek:=nj e3;subst ek;have ey:=sZ p3;subst ey;have ha3:=s3 _ _ ha;have r3:ce H3 kvs ks:=ce.kp (Kp.of s3) _ _ r;refine ⟨a',_,rfl,lb.k ha3 (by rw [r3.length];exact hz),q1 _ _ ((sl1.mono s3).change e h2 ha3 (.inr ⟨_,rfl⟩) ?_)⟩;simp only [eT];exact ⟨a',_,rfl,bc,ce.kp (eL ha3 (.inr ⟨_,rfl⟩)) _ _ (ce.put κ (p1.mono s3) r3)⟩
            · rw [if_neg hz] at q1;exact q1.elim
      | _ =>
        exfalso;cases e2:fk ρ1 with
        | ok _=>rw [e2] at q1;exact q1
        | ex _=>rw [e2] at q1;exact q1
        | no=>rw [e2] at q1;exact q1
    | _ =>
      exfalso;cases e2:fk ρ1 with
      | ok _=>rw [e2] at q1;exact q1
      | ex _=>rw [e2] at q1;exact q1
      | no=>rw [e2] at q1;exact q1⟩
noncomputable def e8 (i:Nat) (f:Fe):Fs:=fun ρ=>kG (f ρ)>>=fun d=>match ρ[i]? with
  | some (.own (.list ds))=>if ds.length < sizeLine then .ok (.nx (ρ.set i (.own (.list (ds++[d]))))) else .no
  | _=>.no
end
noncomputable def uT (p:PyData×PyData):PyData:=.tuple [p.1,p.2]
noncomputable def vO (xs ys:List PyData):List PyData:=(xs.zip ys).map uT
section
variable {X:Cx} {elts:List Expr} {x1:Nat} {tp:Pos} {a b:Expr} {fa fb:Fe} {pos p:Pos} {nl:Nat} {G:List Str} {fs:au->R (List PyData)}
noncomputable def wG (fa fb:Fe):au->R (List PyData):=fun ρ=>fa ρ>>=fun x=>fb ρ>>=fun y=>iy x>>=fun xs=>iy y>>=fun ys=>.ok (vO xs ys)
end
noncomputable def lV (i j:Nat):PyData->au->Option au
  | .tuple [x,y],ρ=>some ((ρ.set i (.val x)).set j (.val y))
  | _,_=>none
section
variable {X:Cx} {nl:Nat} {G:List Str} {x y:Str} {k:Nat} {p1 p2 pos:Pos}
theorem mG (T:Tb X nl G) (i j:Nat) (hi:(X.N.take nl)[i]?=some x) (hj:(X.N.take nl)[j]?=some y):Z.lf X (.Tuple [.Name x p1,.Name y p2] k pos) (lV i j):=⟨by
  obtain ⟨i1,i2,i3⟩:=T.nm hi;obtain ⟨j1,j2,j3⟩:=T.nm hj;refine PG.imp (sR T.calm (kJ (jQ T.nd i1 i2 i3) (kJ (jQ T.nd j1 j2 j3) qN))) fun v σ H Q zq0=>?_
  obtain ⟨ρ,d,sl,p,q⟩:=zq0;unfold lV at q;split at q
  · rename_i e;split at e
    · rename_i ρ0 dx dy;cases e;simp only [Rp] at p;obtain ⟨a,vs,rfl,ha,r⟩:=p;obtain ⟨u,r1,rfl,pu,r⟩:=r.cons_inv;obtain ⟨w,r2,rfl,pw,r⟩:=r.cons_inv;rw [r.nil_inv] at ha;refine ⟨a,[u,w],rfl,eh.of ha,rfl,u,[w],rfl,w,[],rfl,rfl,?_⟩;refine q _ (Sl.set (c:=.val dy) (o:=some w) (Sl.set (c:=.val dx) (o:=some u) sl i ⟨u,rfl,pu⟩) j ⟨w,rfl,pw⟩) fun n e h=>?_
      obtain ⟨n1,h⟩:=bx (fun e z=>by cases z) h;obtain ⟨n2,h⟩:=bx (fun e z=>by cases z) h;exact ⟨h,by rw [List.getElem?_set,if_neg n1,List.getElem?_set,if_neg n2]⟩
    · cases e
  · exact q.elim⟩
end
open AutoSeq1 (wpAny_loadPart')
end D2
namespace D2
open PySem PySem.Spec PyProof.Rows L2
noncomputable def ov:Nat->List PyData->List PyData
  | _,[]=>[]
  | k,d::ds=>.tuple [.int k,d]::ov (k+1) ds
section
variable {X:Cx} {elts:List Expr} {x1:Nat} {tp:Pos} {a b:Expr} {fa fb:Fe} {pos p:Pos} {nl:Nat} {G:List Str} {fs:au->R (List PyData)}
noncomputable def uB (fa:Fe):au->R (List PyData):=fun ρ=>fa ρ>>=fun x=>iy x>>=fun xs=>.ok (ov 0 xs)
end
noncomputable def pH:List PyData->List PyData->List PyData->List PyData
  | x::xs,y::ys,z::zs=>.tuple [x,y,z]::pH xs ys zs
  | _,_,_=>[]
section
variable {X:Cx} {elts:List Expr} {x1:Nat} {tp:Pos} {a b c:Expr} {fa fb fc:Fe} {pos p:Pos} {nl:Nat} {G:List Str} {fs:au->R (List PyData)}
noncomputable def lN:PyData->R (List PyData)
  | .tuple ds=>.ok ds
  | _=>.no
noncomputable def uK (fa fb fc:Fe):au->R (List PyData):=fun ρ=>fa ρ>>=fun x=>fb ρ>>=fun y=>fc ρ>>=fun z=>lN x>>=fun xs=>lN y>>=fun ys=>lN z>>=fun zs=>.ok (pH xs ys zs)
end
section
variable {X:Cx} {nl:Nat} {G:List Str} {x:Str} {e:Expr} {f:Fe} {q1 q2 q3 q4:Pos}
theorem kg (T:Tb X nl G) (n:Nat) (hN:X.N[n]?=some x) (he:Z.cc X e f) (hst:aL e=true:=by rfl) (hline:(q2.endLine==q3.line)=true:=by rfl) (hs:swapsWith (.Call (.Attribute (.Name x q1) "append" q2) [e] [] q3) none q4.line X.env=pure false:=by rfl) (hbase:attributeBase (.Name x q1) "append" X.env (eval (.Name x q1) X.env)=eval (.Name x q1) X.env:=by rfl):Z.gx X (.Expr (.Call (.Attribute (.Name x q1) "append" q2) [e] [] q3) q4) (e8 n f):=⟨have he:=he.un;fun Fm=>by
  have hm:=T.vis x (List.mem_of_getElem? hN);have sc:starEach [e] X.env=(false,eval e X.env)::starEach [] X.env:=bU hst;refine PS.imp (qR (uV PySem.F.plainAttrs_list PySem.F.slot_list_append PySem.F.type_list_append jm (iq hN hm.1 hm.2.1 hm.2.2) (jH he lu hst) hbase (by rw [sc];rfl) hline sc rfl) hs) fun D σ H h=>?_
  obtain ⟨ρ,sl,q⟩:=h;unfold e8 at q;cases ef:f ρ with
  | ex c=>rw [ef] at q;exact q.elim
  | no=>rw [ef] at q;exact q.elim
  | ok d =>
    rw [ef] at q;simp only [kG,R.ok_bind] at q;cases er:ρ[n]? with
    | none=>rw [er] at q;exact q.elim
    | some c =>
      rw [er] at q;cases c with
      | non=>exact q.elim
      | exc p=>exact q.elim
      | val d'=>exact q.elim
      | own d' =>
        cases d' with
        | list ds =>
          dsimp only at q;by_cases hz:ds.length < sizeLine
          · rw [if_pos hz] at q;obtain ⟨o,h2,w',rfl,p2⟩:=sl.sl.at er;simp only [eT] at p2;obtain ⟨a',vs,rfl,ha,r⟩:=p2;refine ⟨.ref a',h2,.inl ⟨rfl,_,iE.of ha⟩,ρ,sl.sl,?_⟩;unfold ai aO;rw [ef];intro us H1 s1 ra;simp only [RA] at ra;obtain ⟨v,r',rfl,p1,rfl⟩:=ra;have ha1:=s1 _ _ ha;refine ⟨a',vs,v,rfl,rfl,ha1,by rw [r.length];exact hz,q _ _ ((sl.mono s1).change er h2 ha1 (.inl ⟨_,rfl⟩) ?_)⟩;simp only [eT];exact ⟨a',_,rfl,bc,aM.kp (eL ha1 (.inl ⟨_,rfl⟩)) _ _ (aM.append (r.mono s1) (aM.cons p1 aM.nil))⟩
          · rw [if_neg hz] at q;exact q.elim
        | _=>exact q.elim⟩
end
noncomputable def gv (g:Fs):Fs:=fun ρ=>kG (g ρ)
theorem Tb.nox {X:Cx} {nl:Nat} {G:List Str} (T:Tb X nl G):Tb X.nox nl G:=⟨T.hu,T.calm,T.nd,T.vis,T.loc,T.gl⟩
section
variable {X:Cx} {nl:Nat} {G:List Str} {st:Stmt} {g:Fs} {pos:Pos}
theorem cY (h:Z.gx X.nox st g):Z.gx X st (gv g):=⟨have h:=h.un;fun Fm=>by
  intro pins s σ H D I ⟨ρ,sl,q⟩;refine wpAny_mono (h Fm pins s σ H D (I.wish _) ⟨ρ,sl,?_⟩) (fun _ _ q=>q.unwish) fun _ _ z=>False.elim z
  unfold gv at q;cases e:g ρ with
  | ok o =>
    rw [e] at q;cases o <;> exact q
  | ex c=>rw [e] at q;exact q.elim
  | no=>rw [e] at q;exact q.elim⟩
noncomputable def bN (t:au->R Bool) (g:Fs):Nat->Fs
  | 0,_=>.no
  | n+1,ρ=>t ρ>>=fun b=>if b=true then g ρ>>=fun o=>(match o with
      | .nx ρ2=>bN t g n ρ2
      | .ct ρ2=>bN t g n ρ2
      | .bk ρ2=>.ok (.nx ρ2)
      | .rt r=>.ok (.rt r)) else .ok (.nx ρ)
noncomputable def gw (n:Nat) (t:au->R Bool) (g:Fs):Fs:=bN t g n
theorem g6 {c:Expr} {body:List Stmt} {t:au->R Bool} (n:Nat) (hp:PassesOwn (model X.prog X.w) X.A X.env X.xe) (ht:Z.mE X c t) (hb:Z.fw X body g):Z.gx X (.While c body [] pos) (gw n t g):=⟨have ht:=ht.un;have hb:=hb.un;fun Fm=>by
  refine PS.imp (pc hp ht (hb Fm)) fun D σ H ⟨ρ,sl,q⟩=>⟨fun m σ' H'=>∃ ρ',dF Fm H' σ' ρ'/\qZ X Fm (bN t g m ρ') D,⟨n,ρ,sl,q⟩,fun m σ1 H1 zq0=>?_⟩
  obtain ⟨ρ1,sl1,q1⟩:=zq0;cases m with
  | zero=>exact q1.elim
  | succ k =>
    have q2:rR X Fm (fun ρ=>t ρ>>=fun b=>if b=true then g ρ>>=fun o=>(match o with
      | .nx ρ2=>bN t g k ρ2
      | .ct ρ2=>bN t g k ρ2
      | .bk ρ2=>.ok (.nx ρ2)
      | .rt r=>.ok (.rt r)) else .ok (.nx ρ)) D σ1 H1:=⟨ρ1,sl1,q1⟩
    refine (lX (f:=t) (k:=fun ρ b=>if b=true then g ρ>>=fun o=>(match o with
      | .nx ρ2=>bN t g k ρ2
      | .ct ρ2=>bN t g k ρ2
      | .bk ρ2=>.ok (.nx ρ2)
      | .rt r=>.ok (.rt r)) else .ok (.nx ρ)) q2).post fun b H2 ⟨ρ2,sl2,_,q3⟩=>?_
    cases b with
    | false=>exact q3 σ1 H2 sl2
    | true =>
      have q4:qZ X Fm (g ρ2>>=fun o=>(match o with
      | .nx ρ2=>bN t g k ρ2
      | .ct ρ2=>bN t g k ρ2
      | .bk ρ2=>.ok (.nx ρ2)
      | .rt r=>.ok (.rt r))) D:=q3
      show if true=true then _ else _
      rw [if_pos rfl];refine ⟨fun σ' H'=>∃ ρ',dF Fm H' σ' ρ'/\qZ X Fm (bN t g k ρ') D,fun σ' H' z=>⟨k,Nat.lt_succ_self k,z⟩,ρ2,sl2,?_⟩;cases eg:g ρ2 with
      | ex c=>rw [eg] at q4;exact q4
      | no=>rw [eg] at q4;exact q4
      | ok o =>
        rw [eg] at q4;cases o with
        | nx ρ4=>exact fun σ' H' s'=>⟨ρ4,s',q4⟩
        | ct ρ4=>exact fun σ' H' s'=>⟨ρ4,s',q4⟩
        | bk ρ4=>exact q4
        | rt r=>exact q4⟩
end
noncomputable def Xh (X:Cx) (p:Addr) (ob:Obj):Cx:={ X with A:=X.A.mark (some (.ref p)),calm:=false,xe:=fun _ _=>False,pn:=(p,ob)::X.pn }
structure xn (X:Cx) (nl:Nat) (G:List Str):Prop where
  hu:X.A.units+64 < cLine
  nd:X.N.Nodup
  vis:∀ x∈X.N,tV X.env.scope x/\(x==("__debug__" : Str))=false/\(x==("__classdict__" : Str))=false
  loc:∀ x∈X.N.take nl,sa X.env.scope x/\(X.fn x=true\/X.env.scope.names.lookup x=some .local)
  gl:∀ x∈G,Gl X x/\(x==("__debug__" : Str))=false/\x≠("__name__" : Str)
theorem Tb.h {X:Cx} {nl:Nat} {G:List Str} (T:Tb X nl G) (p:Addr) (ob:Obj):xn (Xh X p ob) nl G:=⟨T.hu,T.nd,T.vis,T.loc,T.gl⟩
noncomputable def w8 (X:Cx) (C:Addr) (hs:List ExceptHandler) (F:Addr->au->R PyData):Prop :=
  ∀ (pins:List (Addr×Obj)) (σ:St) (Hc H:Hp) (sc s:Shared) (p:Addr) (Fm:Hp) (ρ:au) (D:j6),aq X pins σ Hc sc->r8 X.prog X.w X.stack Hc sc C H (.ref p) s->dF Fm H σ ρ ->
    (match F p ρ with
      | .ok d=>∀ v H',al Fm H'->Rp H' d v->D.rt v H'
      | _=>False)->wpAny (model X.prog X.w) X.A (handleBy (.ref p) X.env hs) (SP X pins D) X.xe s
noncomputable abbrev Hs:=List (Str×(Addr->au->R PyData))
inductive mF (X:Cx) (src:List ExceptHandler):Hs->Prop
  | nil:mF X src []
  | cons {c:Str} {C:Addr} {h:Addr->au->R PyData} {hs:Hs} (hm:X.mg c=some (.ref C)) (he:w8 X C src h) (r:mF X src hs):mF X src ((c,h)::hs)
theorem mF.at {X:Cx} {src:List ExceptHandler} {c:Str} {h:Addr->au->R PyData}:∀ {hs:Hs},mF X src hs->hs.lookup c=some h->∃ C,X.mg c=some (.ref C)/\w8 X C src h
  | _,.nil,e=>by cases e
  | _,.cons (c:=c') hm he r,e=>by
    rw [List.lookup_cons] at e;split at e
    · rename_i q;have:c=c':=by simpa using q
      subst this;cases e;exact ⟨_,hm,he⟩
    · exact mF.at r e
noncomputable def hV (p:Int->Int->Bool) (n:Int) (ns:List Int):Int:=ns.foldl (fun a b=>if p b a=true then b else a) n
theorem fA {p:Int->Int->Bool} {le:Int->Int->Prop} (h1:∀ a b,p b a=true->le b a) (h2:∀ a b,¬ p b a=true->le a b) (tr:∀ a b c,le a b->le b c->le a c) (rf:∀ a,le a a):∀ (ns:List Int) (n:Int),hV p n ns∈n::ns/\∀ a∈n::ns,le (hV p n ns) a
  | [],n=>⟨by simp [hV],fun a ha=>by simp at ha;subst ha;exact rf _⟩
  | m::ns,n=>by
    obtain ⟨g1,g2⟩:=fA h1 h2 tr rf ns (if p m n=true then m else n);have e:hV p n (m::ns)=hV p (if p m n=true then m else n) ns:=rfl;rw [e];refine ⟨?_,fun a ha=>?_⟩
    · rcases List.mem_cons.mp g1 with z | z
      · rw [z];split <;> simp
      · exact List.mem_cons_of_mem _ (List.mem_cons_of_mem _ z)
    · have k:=g2 _ List.mem_cons_self;rcases List.mem_cons.mp ha with rfl | ha
      · refine tr _ _ _ k ?_;split
        · rename_i z;exact h1 _ _ z
        · exact rf _
      · rcases List.mem_cons.mp ha with rfl | ha
        · refine tr _ _ _ k ?_;split
          · exact rf _
          · rename_i z;exact h2 _ _ z
        · exact g2 a (List.mem_cons_of_mem _ ha)
noncomputable def lC (n:Int) (ns:List Int):Int:=hV (fun b a=>decide (b < a)) n ns
noncomputable def lA (n:Int) (ns:List Int):Int:=hV (fun b a=>decide (a < b)) n ns
theorem jl (n:Int) (ns:List Int):lC n ns∈n::ns/\∀ a∈n::ns,lC n ns<=a :=
  fA (le:=(·<=·)) (fun a b h=>by simp at h;omega) (fun a b h=>by simp at h;omega) (fun a b c=>Int.le_trans) Int.le_refl ns n
theorem jj (n:Int) (ns:List Int):lA n ns∈n::ns/\∀ a∈n::ns,a<=lA n ns :=
  fA (le:=fun a b=>b<=a) (fun a b h=>by simp at h;omega) (fun a b h=>by simp at h;omega) (fun a b c h1 h2=>Int.le_trans h2 h1) Int.le_refl ns n
section
variable {X:Cx} {a b c:Expr} {fa fb fc:Fe} {pos p2:Pos} {nl:Nat} {G:List Str} {x:Str} {p:Pos}
theorem dM:∀ {its:List Value} {ns:List Int},IntsAre its ns->∃ ys:List (Int×Tok),its=ys.map (fun p=>Value.int p.1 p.2)/\ys.map (·.1)=ns
  | _,_,.nil=>⟨[],rfl,rfl⟩
  | _,_,.cons n t h=>by
    obtain ⟨ys,e1,e2⟩:=dM h;exact ⟨(n,t)::ys,by rw [List.map_cons,e1],by rw [List.map_cons,e2]⟩
theorem mQ (hc:X.calm=true):cb X (.builtin "min") (fun xs H Q=>∃ p n ns,xs=[.ref p]/\iE X.K H p ((n::ns).map V.int)/\Q (.int (lC n ns)) H):=by
  intro pins s σ H xs us Q I r h;obtain ⟨p,n,ns,rfl,hq,q⟩:=h;obtain ⟨u,rfl,rx⟩:=dX r;cases rx;obtain ⟨its,rv,pl,hz⟩:=I.list hq;obtain ⟨ys,e1,e2⟩:=dM (dL rv);have hl:s.heap.IsList p (intItems ys.toArray):=by
    have:intItems ys.toArray=its.toArray:=by rw [e1];simp [intItems]
    rw [this];exact pl.isList
  have hlen:ys.length=ns.length+1:=by have:=congrArg List.length e2;simpa using this
  refine min_intList (I.ok.hd hc) hl (by simp;omega) fun v h' tk hv hk=>?_
  obtain ⟨t,rfl⟩:=intItems_at hv;obtain ⟨g1,g2⟩:=argBest_lt (numAt ys.toArray) (ys.toArray.size-1);generalize argBest (fun i j=>decide (numAt ys.toArray i < numAt ys.toArray j)) (ys.toArray.size-1)=w at g1 g2 hv ⊢;have el:ys.toArray.toList.map (·.1)=n::ns:=e2;have m1:numAt ys.toArray w∈n::ns:=by
    rw [numAt_eq,el];refine getD_mem ?_;simp at g1 ⊢;omega
  obtain ⟨k1,k2⟩:=jl n ns;have e3:numAt ys.toArray w=lC n ns:=by
    refine Int.le_antisymm ?_ (k2 _ m1);obtain ⟨j,hj,e⟩:=mem_getD k1;have:=g2 j (by simp at hj ⊢;omega);rw [numAt_eq ys.toArray j,el,e] at this;exact this
  rw [e3];exact ⟨.int _,H,I.kept hk,⟨_,rfl⟩,q⟩
theorem mO (hc:X.calm=true):cb X (.builtin "max") (fun xs H Q=>∃ p n ns,xs=[.ref p]/\iE X.K H p ((n::ns).map V.int)/\Q (.int (lA n ns)) H):=by
  intro pins s σ H xs us Q I r h;obtain ⟨p,n,ns,rfl,hq,q⟩:=h;obtain ⟨u,rfl,rx⟩:=dX r;cases rx;obtain ⟨its,rv,pl,hz⟩:=I.list hq;obtain ⟨ys,e1,e2⟩:=dM (dL rv);have hl:s.heap.IsList p (intItems ys.toArray):=by
    have:intItems ys.toArray=its.toArray:=by rw [e1];simp [intItems]
    rw [this];exact pl.isList
  have hlen:ys.length=ns.length+1:=by have:=congrArg List.length e2;simpa using this
  refine max_intList (I.ok.hd hc) hl (by simp;omega) fun v h' tk hv hk=>?_
  obtain ⟨t,rfl⟩:=intItems_at hv;obtain ⟨g1,g2⟩:=argBest_gt (numAt ys.toArray) (ys.toArray.size-1);generalize argBest (fun i j=>decide (numAt ys.toArray i > numAt ys.toArray j)) (ys.toArray.size-1)=w at g1 g2 hv ⊢;have el:ys.toArray.toList.map (·.1)=n::ns:=e2;have m1:numAt ys.toArray w∈n::ns:=by
    rw [numAt_eq,el];refine getD_mem ?_;simp at g1 ⊢;omega
  obtain ⟨k1,k2⟩:=jj n ns;have e3:numAt ys.toArray w=lA n ns:=by
    refine Int.le_antisymm (k2 _ m1) ?_;obtain ⟨j,hj,e⟩:=mem_getD k1;have:=g2 j (by simp at hj ⊢;omega);rw [numAt_eq ys.toArray j,el,e] at this;exact this
  rw [e3];exact ⟨.int _,H,I.kept hk,⟨_,rfl⟩,q⟩
noncomputable def jb:PyData->R PyData
  | .list ds=>match bG ds with
    | some (n::ns)=>.ok (.int (lC n ns))
    | _=>.no
  | _=>.no
noncomputable def ja:PyData->R PyData
  | .list ds=>match bG ds with
    | some (n::ns)=>.ok (.int (lA n ns))
    | _=>.no
  | _=>.no
theorem i4 (T:Tb X nl G) (j:Nat) (hG:G[j]?=some ("min" : Str)) (hm:X.mg "min" = none) (ha:Z.cr X a fa) (he:aL a=true:=by rfl):Z.cc X (.Call (.Name "min" p) [a] [] pos) (e1 jb fa):=⟨have ha:=ha.un;by
  refine n4 T j hG hm dI PyProof.Rows.boot_min (mQ T.calm) (fun H x d Q hx q=>?_) ha he;cases d with
  | list ds =>
    simp only [jb] at q;split at q
    · rename_i n ns ei;rw [cD ei] at hx;obtain ⟨a',vs,rfl,h,r⟩:=cw (K:=X.K) hx;rw [eN r] at h;exact ⟨a',n,ns,rfl,h,q _ H (al.refl _) bV⟩
    · exact q.elim
  | _=>exact q.elim⟩
theorem i0 (T:Tb X nl G) (j:Nat) (hG:G[j]?=some ("max" : Str)) (hm:X.mg "max" = none) (ha:Z.cr X a fa) (he:aL a=true:=by rfl):Z.cc X (.Call (.Name "max" p) [a] [] pos) (e1 ja fa):=⟨have ha:=ha.un;by
  refine n4 T j hG hm dI PyProof.Rows.boot_max (mO T.calm) (fun H x d Q hx q=>?_) ha he;cases d with
  | list ds =>
    simp only [ja] at q;split at q
    · rename_i n ns ei;rw [cD ei] at hx;obtain ⟨a',vs,rfl,h,r⟩:=cw (K:=X.K) hx;rw [eN r] at h;exact ⟨a',n,ns,rfl,h,q _ H (al.refl _) bV⟩
    · exact q.elim
  | _=>exact q.elim⟩
end
section
variable {X:Cx} {a b c:Expr} {fa fb fc:Fe} {pos p2:Pos} {nl:Nat} {G:List Str} {x:Str} {p:Pos} {fs:au->R (List PyData)} {pos2:Pos}
noncomputable def wb (mk:List PyData->PyData):List PyData->R PyData
  | [.int j]=>if j<=16777216/\-(2 ^ 62)<=j then .ok (mk (bg 0 j.toNat)) else .no
  | _=>.no
noncomputable def uw (fs:au->R (List PyData)):Fe:=fun ρ=>fs ρ>>=wb .tuple
noncomputable def uu (fs:au->R (List PyData)):Fe:=fun ρ=>fs ρ>>=wb .list
end
noncomputable def rd (b:PyData->au->Option au) (f:Fe):Fs:=fun ρ=>f ρ>>=fun d=>match b d ρ with
  | some ρ'=>.ok (.nx ρ')
  | none=>.no
section
variable {X:Cx} {tg e:Expr} {f:Fe} {b:PyData->au->Option au} {pos:Pos}
theorem nT (he:Z.cc X e f) (hg:Z.lf X tg b) (hs:swapsWithSole [tg] e pos.line X.env=pure false:=by rfl) (hw:swappedStores [tg] e X.env=pure none:=by rfl) (h1:(assignEach [tg] X.env).map (·.2)=[assign tg X.env]:=by rfl):Z.gx X (.Assign [tg] e pos) (rd b f):=⟨have he:=he.un;have hg:=hg.un;fun Fm=>by
  refine PS.imp (sS he hg hs hw h1) fun D σ H h=>?_
  refine (jA (P:=gK) (f:=f) (k:=fun ρ d=>match b d ρ with | some ρ'=>.ok (.nx ρ') | none=>.no) h).post fun v H1 zq0=>?_
  obtain ⟨ρ,d,sl,_,p,q⟩:=zq0;refine ⟨ρ,d,sl.sl,p,?_⟩;cases eb:b d ρ with
  | none=>rw [eb] at q;exact q
  | some ρ3 =>
    rw [eb] at q;intro σ4 sl4 hown;refine q σ4 H1 ⟨sl.fm,sl4,fun j e a h1 h2=>?_,fun j k e f a h1 h2 h3 h4=>?_⟩
    · obtain ⟨z1,z2⟩:=hown j e h1;exact sl.own j e a z1 (by rw [<- z2];exact h2)
    · obtain ⟨z1,z2⟩:=hown j e h1;obtain ⟨z3,z4⟩:=hown k f h2;exact sl.apart j k e f a z1 z3 (by rw [<- z2];exact h3) (by rw [<- z4];exact h4)⟩
end
section
variable {X:Cx} {a b:Expr} {fa fb:Fe} {pos p2:Pos}
noncomputable def uk:PyData->Option Int->Option Int->R PyData
  | .list xs,lo,hi=>.ok (.list (jD xs lo hi))
  | _,_,_=>.no
noncomputable def wD (fa:Fe) (lo hi:Fo):Fe:=fun ρ=>fa ρ>>=fun d=>lo ρ>>=fun l=>hi ρ>>=fun u=>uk d l u
end
theorem aM.set {H:Hp} {d:PyData} {v:V} (p:Rp H d v):∀ {ds:List PyData} {vs:List V} (j:Nat),aM H ds vs->aM H (ds.set j d) (vs.set j v)
  | [],vs,j,r=>by rw [r.nil_inv];exact aM.nil
  | d'::ds,vs,j,r=>by
    obtain ⟨v',r',rfl,p',t⟩:=r.cons_inv;cases j with
    | zero=>exact aM.cons p t
    | succ j=>exact aM.cons p' (aM.set p j t)
section
variable {X:Cx} {nl:Nat} {G:List Str} {x:Str} {f:Fe} {e:Expr}
noncomputable def wu (g:Int->Int->Int):PyData->PyData->R PyData
  | .int i,.int j=>.ok (.int (g i j))
  | _,_=>.no
noncomputable def wQ (i:Nat) (g:Int->Int->Int) (f:Fe):Fs:=fun ρ=>ae i ρ>>=fun x=>f ρ>>=fun y=>wu g x y>>=fun z=>.ok (.nx (ρ.set i (.val z)))
end
section
variable {X:Cx} {a b:Expr} {fa fb:Fe} {pos p:Pos} {nl:Nat} {G:List Str}
noncomputable def lB (n:Int):Bool:=decide (-(2 ^ 40)<=n/\n<=2 ^ 40)
theorem kT:∀ (ns:List Int),(∀ n∈ns,lB n=true)->-(2 ^ 40)*(ns.length:Int)<=ns.sum/\ns.sum<=2 ^ 40*(ns.length:Int)
  | [],_=>by simp
  | n::ns,h=>by
    have h1:=h n List.mem_cons_self;have h2:=kT ns fun x hx=>h x (List.mem_cons_of_mem _ hx)
    simp only [lB,decide_eq_true_eq] at h1;rw [List.sum_cons,List.length_cons]
    push_cast
    omega
theorem mS (hc:X.calm=true):cb X (.builtin "sum") (fun xs H Q=>∃ (p:Addr) (ns:List Int),xs=[.ref p]/\iE X.K H p (ns.map V.int)/\ns.length<=1000000/\(∀ n∈ns,lB n=true)/\Q (.int ns.sum) H):=by
  intro pins s σ H xs us Q I r h;obtain ⟨p,ns,rfl,hq,hl,hm,q⟩:=h;obtain ⟨u,rfl,rx⟩:=dX r;cases rx;obtain ⟨its,rv,pl,hz⟩:=I.list hq;obtain ⟨ys,e1,e2⟩:=dM (dL rv);have hL:s.heap.IsList p (intItems ys.toArray):=by
    have:intItems ys.toArray=its.toArray:=by rw [e1];simp [intItems]
    rw [this];exact pl.isList
  have el:ys.toArray.toList.map (·.1)=ns:=e2;have hlen:ys.length=ns.length:=by have:=congrArg List.length e2;simpa using this
  have long:∀ i:Int,-(2 ^ 40)*1000000<=i->i<=2 ^ 40*1000000->InLong i:=fun i h1 h2=>by
    unfold InLong;constructor <;> omega
  refine sum_intList (I.ok.hd hc) hL (fun j hj=>?_) fun h' tk t' hk=>?_
  · rw [numAt_eq,preSum_eq,el];have hjn:j < ns.length:=by simp at hj;omega
    have m1:=hm _ (getD_mem hjn);simp only [lB,decide_eq_true_eq] at m1;have m2:=kT (ns.take (j+1)) fun x hx=>hm x (List.mem_of_mem_take hx)
    have m3:((ns.take (j+1)).length:Int)<=1000000:=by rw [List.length_take];omega
    exact ⟨long _ (by omega) (by omega),long _ (by omega) (by omega)⟩
  · rw [preSum_eq,el];have:ns.take ys.toArray.size=ns:=List.take_of_length_le (by simp;omega);rw [this];exact ⟨.int _,H,I.kept hk,⟨_,rfl⟩,q⟩
noncomputable def mV:PyData->R PyData
  | .list ds=>match bG ds with
    | some ns=>if ns.length<=1000000/\ns.all lB=true then .ok (.int ns.sum) else .no
    | none=>.no
  | _=>.no
theorem ki (T:Tb X nl G) (j:Nat) (hG:G[j]?=some ("sum" : Str)) (hm:X.mg "sum" = none) (ha:Z.cr X a fa) (he:aL a=true:=by rfl):Z.cc X (.Call (.Name "sum" p) [a] [] pos) (e1 mV fa):=⟨have ha:=ha.un;by
  refine n4 T j hG hm dI PyProof.Rows.boot_sum (mS T.calm) (fun H x d Q hx q=>?_) ha he;cases d with
  | list ds =>
    simp only [mV] at q;cases ei:bG ds with
    | none=>rw [ei] at q;exact q.elim
    | some ns =>
      rw [ei] at q;dsimp only at q;split at q
      · rename_i hz;rw [cD ei] at hx;obtain ⟨a',vs,rfl,h,r⟩:=cw (K:=X.K) hx;rw [eN r] at h;exact ⟨a',ns,rfl,h,hz.1,fun n hn=>List.all_eq_true.mp hz.2 n hn,q _ H (al.refl _) bV⟩
      · exact q.elim
  | _=>exact q.elim⟩
end
noncomputable abbrev j8:=List PyData->R PyData
structure k5 (P:Program) (w:World) (K:PySem.W.Frag) (mg:Str->Option Value) (base:Heap) (k:Nat) (x:Str) (ps:List Str) (F:j8) (f:Addr) (fd:FuncData):Prop where
  ok:bA P w K mg base (cM P w mg) k f fd ps (eu F ps.length)
  m:mg x=some (.ref f)
  kp:PySem.W.keepIn K (.ref f)=true
  b:bY K fd ps []
theorem aU {X:Cx} {k:Nat} {f:Addr} {fd:FuncData} {ps:List Str} {F:j8} {x:Str} {p pos:Pos} {e:Expr} {es:List Expr} {fs:au->R (List PyData)} {nl:Nat} {G:List Str} (C:k5 X.prog X.w X.K X.mg X.base k x ps F f fd) (hr:cG k X.A) (T:Tb X nl G) (j:Nat) (hG:G[j]?=some x) (ha:Z.lR X (e::es) fs) (hlen:(e::es).length=ps.length) (hfs:∀ ρ ds,fs ρ=.ok ds->ds.length=ps.length) (he:(e::es).all aL=true:=by rfl):Z.cc X (.Call (.Name x p) (e::es) [] pos) (bh F fs):=⟨have ha:=ha.un;qm C.ok hr T j hG C.m C.kp C.b ha hlen hfs he⟩
structure dr (K:PySem.W.Frag) (x:Str) (st:Stmt) (f:Addr) (fd:FuncData):Prop where
  ns:PySem.W.nsIn K mainGlobals x=some (some (.ref f))
  fn:gy K x x st f fd
theorem bQ {K:PySem.W.Frag} {x:Str} {st:Stmt} {f:Addr} {oc:Value} {od an:Option Addr} {osl:Array (Option Value)} {kV doc pm cdv ct:Value} (a:PySem.W.nsIn K mainGlobals x=some (some (.ref f))) (l:K.lookup f=some ⟨oc,od,.func (PySem.W.fnOf x x (cg st) (br st) (ah st) .none kV doc pm an cdv ct),osl⟩) (c:PySem.W.codeIn K cdv x=true) (k:PySem.W.keepIn K (.ref f)=true) :
    dr K x st f (PySem.W.fnOf x x (cg st) (br st) (ah st) .none kV doc pm an cdv ct):=⟨a,oz l c k⟩
noncomputable def wd (i:Nat) (g:Fs):Fs:=fun ρ=>match ρ[i]? with
  | some (.own d)=>g (ρ.set i (.val d))
  | _=>g ρ
theorem pW {X:Cx} {st:Stmt} {g:Fs} (i:Nat) (h:Z.gx X st g):Z.gx X st (wd i g):=⟨have h:=h.un;fun Fm=>by
  intro pins s σ H D I ⟨ρ,sl,q⟩;unfold wd at q;split at q
  · rename_i d e;obtain ⟨H2,v,I2,sl2,_,_⟩:=rE I sl e;exact h Fm pins s σ H2 D I2 ⟨_,sl2,q⟩
  · exact h Fm pins s σ H D I ⟨ρ,sl,q⟩⟩
end D2
namespace D2
open PySem PySem.Spec PySem.Calls PySem.W PyProof.Rows L2 Builtin Builtin.ObjectAttr Builtin.Getset_descriptor
end D2
namespace D2
open PySem PySem.Spec PyProof.Rows L2 PySem.Builtin PySem.Builtin.Str
end D2
set_option maxHeartbeats 400000
namespace D2
open PySem PySem.Spec PyProof.Rows L2 PySem.Builtin
end D2
namespace D2
open PySem PySem.Spec PyProof.Rows L2
section
variable {X:Cx} {tg o:Expr} {fo:Fe} {apos cpos:Pos}
noncomputable def rJ:PyData->R (List PyData)
  | .dict kvs=>if il kvs=true then .no else .ok (kvs.map (·.1))
  | _=>.no
noncomputable def rY:PyData->R (List PyData)
  | .dict kvs=>if il kvs=true then .no else .ok (kvs.map (·.2))
  | _=>.no
noncomputable def uD (f:Fe):au->R (List PyData):=fun ρ=>f ρ>>=rJ
noncomputable def uI (f:Fe):au->R (List PyData):=fun ρ=>f ρ>>=rY
end
end D2
namespace HT
open PySem PySem.Spec PyProof.Rows L2
section
open PySem.SeqAt
open PySem.AutoSeq1 (wpAny_loadPart')
open PySem.MeetsSeq PySem.MeetsSeq2 PySem.MeetsSeq3
end
end HT
namespace D2
open PySem PySem.Spec PyProof.Rows L2
section
variable {X:Cx} {tg a b c:Expr} {fa fb fc:Fe} {pos p2:Pos} {nl:Nat} {G:List Str} {x:Str} {p:Pos} {fs:au->R (List PyData)}
noncomputable def uq (lo:Int) (n:Nat):List PyData:=(List.range n).map fun (k:Nat)=>.int (lo-k)
noncomputable def ut:List PyData->R (List PyData)
  | [.int i,.int j,.int k]=>if k=-1/\-(2 ^ 62)<=i/\i < 2 ^ 62/\-(2 ^ 62)<=j/\j < 2 ^ 62 then .ok (uq i (i-j).toNat) else .no
  | _=>.no
noncomputable def uz (fs:au->R (List PyData)):au->R (List PyData):=fun ρ=>fs ρ>>=ut
end
noncomputable def gY (H:Hp):List V->List (List Int)->Prop
  | [],rs=>rs=[]
  | v::vs,rs=>∃ a r rs',v=.ref a/\rs=r::rs'/\H a=some (.tup (r.map V.int))/\gY H vs rs'
theorem gY.len {H:Hp}:∀ {vs:List V} {rs:List (List Int)},gY H vs rs->vs.length=rs.length
  | [],rs,h=>by simp only [gY] at h;rw [h];rfl
  | v::vs,rs,h=>by
    simp only [gY] at h;obtain ⟨a,r,rs',_,rfl,_,t⟩:=h;rw [List.length_cons,List.length_cons,t.len]
noncomputable def vh (a b c:Int):Nat:=(if a < b then (b-a-1) / c+1 else 0).toNat
section
variable {X:Cx} {tg a b c:Expr} {fa fb fc:Fe} {pos p2:Pos} {nl:Nat} {G:List Str} {x:Str} {p:Pos} {fs:au->R (List PyData)}
noncomputable abbrev sd (i j k:Int):Prop:=1<=k/\k < 1000000/\-(2 ^ 40)<=i/\i < 2 ^ 40/\-(2 ^ 40)<=j/\j < 2 ^ 40
noncomputable def vg (lo st:Int) (n:Nat):List PyData:=(List.range n).map fun (k:Nat)=>.int (lo+k*st)
noncomputable def vi:List PyData->R (List PyData)
  | [.int i,.int j,.int k]=>if sd i j k then .ok (vg i k (vh i j k)) else .no
  | _=>.no
noncomputable def uG (fs:au->R (List PyData)):au->R (List PyData):=fun ρ=>fs ρ>>=vi
end
end D2
namespace D2
open PySem PySem.Spec PyProof.Rows
end D2
namespace D2
open PySem PySem.Spec PyProof.Rows L2
section
variable {prog:Program} {w:World} {A:Around} {E:Value->Shared->Prop} {s:Shared}
theorem oK {f c' cn l:Addr} {name qual n g:Str} {params:Arguments} {scope:Scope} {pm ctv x:Value} {items:Array Value} {k:Int} {t:Tok} {p1 p2 p3:Pos} {Q:Value->Shared->Prop}
    (hroom:A.depth < recursionLimit) (ho:s.heap.get? f=some (PySem.W.kla_obj name qual params (.Subscript (.Name n p1) (.Name g p2) p3) scope [(n,cn)] pm c' ctv)) (hcd:s.heap.CodeRec (.ref c') qual) (lim:s.heap.NoLimit)
    (hcell:s.heap.IsCell cn (some (.ref l))) (hl:s.heap.IsList l items) (h0:0<=k) (hfit:k < 2 ^ 63) (hx:items[k.toNat]?=some x)
    (hco:scope.isCoroutine=false) (hgen:scope.isGenerator=false) (hk:scope.kind=.function) (hnc:∀ x∈scope.names,x.2≠.cell) (hg:scope.names.lookup g=some .local) (hn:scope.names.lookup n=some .free)
    (hbind:∀ v:Value,bindArgs (PySem.W.kla_fn name qual params (.Subscript (.Name n p1) (.Name g p2) p3) scope [(n,cn)] pm (.ref c') ctv) ⟨[v],[]⟩=pure [(g,v)])
    (d1:(n==("__debug__" : Str))=false) (d2:(g==("__debug__" : Str))=false) (d3:(n==("__classdict__" : Str))=false)
    (hQ:∀ h' tk,(∀ b o,s.heap.get? b=some o->h'.get? b=some o)->Q x { s with heap:=h',toks:=tk }) :
    wpAny (model prog w) A (call (.ref f) [.int k t]) Q E s:=by
  refine wpAny_call (PySem.W.kla_callFunE hroom ho rfl hco hgen rfl hcd ?_);rw [hbind];refine wpAny_pure (wpAny_newFunctionEnv hnc (fun y hy=>?_) (fun h₁ hns hsb=>⟨lim.fresh _ hsb,?_⟩) hk)
  · rw [List.mem_singleton.mp hy];exact hg
  have hk₁:∀ b o,s.heap.get? b=some o->h₁.get? b=some o:=fun b o e=>hsb.extBut b o (Nat.ne_of_lt (Heap.lt_size e)) (Heap.get?_push_of_some _ e)
  refine PySem.W.kla_codeExpr ?_;refine Subscript_ ?_;refine wpAny_Name (wpAny_loadName_free hk hn ?_ (hcell.keeps hk₁) ?_ d3) d1
  · show List.lookup n [(n,cn)]=some cn;simp
  refine wpAny_Name (wpAny_loadName_local (v:=.int k t) hk hg hns ?_ ?_) d2
  · show List.lookup g [(g,Value.int k t)].reverse=some (Value.int k t);simp
  refine item_listR (let ⟨o,e,r⟩:=hl;⟨o,hk₁ _ _ e,r⟩) h0 hfit hx ?_ rfl;exact hQ _ _ hk₁
end
section
variable {prog:Program} {w:World} {A:Around} {R:Result->Shared->Prop} {I q:Addr} {fp wr:List Addr} {n:Nat} {P:Nat->Value->Prop} {St:Nat->Heap->Prop} {Gd:Heap->Prop}
noncomputable def t8 (prog:Program) (w:World) (A:Around) (q:Addr) (P:Nat->Value->Prop) (kf:Nat->Int) (n:Nat) (Gd:Heap->Prop):Prop :=
  ∀ (i:Nat) (v:Value) (s:Shared) (Q E:Value->Shared->Prop),i < n->Gd s.heap->P i v->(∀ t h' tk,(∀ b o,s.heap.get? b=some o->h'.get? b=some o)->Q (.int (kf i) t) { s with heap:=h',toks:=tk })->wpAny (model prog w) A (call (.ref q) [v]) Q E s
theorem oQ (W:Walks prog w A.in1 I fp wr n P St) (kf:Nat->Int) (ck:t8 prog w A.in1 q P kf n Gd) (S:Addr) (nS:S∉fp) (hG:∀ h h',Gd h->(∀ b o,b∉wr->b≠S->h.get? b=some o->h'.get? b=some o)->Gd h') :
    ∀ (left at_:Nat) (s:Shared) (bst:Value) (tb:Tok) (c:Nat),n-(at_+1)=left->at_+1<=n->Gd s.heap->St (at_+1) s.heap->P (argBest (fun i j=>decide (kf i < kf j)) at_) bst ->
    s.heap.get? S=some { cls:=.type "list",dict:=none,data:=.seq #[bst,.int (kf (argBest (fun i j=>decide (kf i < kf j)) at_)) tb] c,slots:=#[] } ->
    (∀ v h' tk,P (argBest (fun i j=>decide (kf i < kf j)) (n-1)) v->(∀ b o,b∉wr->b≠S->s.heap.get? b=some o->h'.get? b=some o)->R (.ok (.ret v)) { s with heap:=h',toks:=tk }) ->
    codeAny (model prog w) A (.builtin "min.loop" ⟨[.ref I,.ref q,.ref S],[]⟩) R s:=by
  have nW:S∉wr:=fun z=>nS (W.sub _ z)
  have nm:(toString "min" ++ toString ".loop" : String) = "min.loop" := by decide
  generalize hbt:(fun i j=>decide (kf i < kf j))=bt;have hb0:∀ i j,bt i j=decide (kf i < kf j):=fun i j=>by rw [<- hbt]
  intro left;induction left with
  | zero =>
    intro at_ s bst tb c e1 e2 g st pb hS fin;have en:at_+1=n:=by omega
    refine codeAny_builtin PySem.F.entry_min_loop ?_;rw [Around.under_plainId PySem.F.plain_min_loop _];show wpAny _ A.in1 (seqItems? (.ref S)>>=_) _ _ s;refine wpAny_bind (wpAny_seqItems hS rfl ?_);show wpAny _ A.in1 (tryCatch (pyNext (.ref I)) _>>=_) _ _ s;refine wpAny_bind (wpAny_tryCatch (W.done s _ _ (en ▸ st) fun h' tk kp=>?_));have hS2:=kp S _ nW hS;show wpAny _ A.in1 (updateSeq S (fun _=>#[])>>=_) _ _ _;exact wpAny_bind (wpAny_updateSeq hS2 rfl (wpAny_bind (wpAny_letGo (wpAny_pure (fin bst _ tk (by rw [<- en];exact pb) fun b o nb ns e=>(Heap.get?_update_other _ _ (Ne.symm ns)).trans (kp b o nb e))))))
  | succ left ih =>
    intro at_ s bst tb c e1 e2 g st pb hS fin;have lt:at_+1 < n:=by omega
    refine codeAny_builtin PySem.F.entry_min_loop ?_;rw [Around.under_plainId PySem.F.plain_min_loop _];show wpAny _ A.in1 (seqItems? (.ref S)>>=_) _ _ s;refine wpAny_bind (wpAny_seqItems hS rfl ?_);show wpAny _ A.in1 (tryCatch (pyNext (.ref I)) _>>=_) _ _ s;refine wpAny_bind (wpAny_tryCatch (W.item (at_+1) s _ _ lt st fun v h' tk pv st2 kp=>?_));have hS2:=kp S _ nW hS;have g2:Gd h':=hG _ _ g fun b o nb _ e=>kp b o nb e
    show wpAny _ A.in1 (tryCatch (holding [v] (call (.ref q) [v])) _>>=_) _ _ _;refine wpAny_bind (wpAny_tryCatch (wpAny_holding (ck (at_+1) v _ _ _ lt g2 pv fun t2 h2 tk2 kp2=>?_)));have g3:Gd h2:=hG _ _ g2 fun b o _ _ e=>kp2 b o e
    have hS3:=kp2 S _ hS2;have st3:=W.frame _ _ h2 st2 fun b _ o e=>kp2 b o e
    show wpAny _ A.in1 (tryCatch (holding [v,.int (kf (at_+1)) t2] (richCompare .Lt (.int (kf (at_+1)) t2) (.int (kf (argBest bt at_)) tb)>>=_)) _>>=_) _ _ _;refine wpAny_bind (wpAny_tryCatch (wpAny_holding (wpAny_bind (CmpOf.ints_lt (prog:=prog) (w:=w) (A:=A.in1) (P:=fun i v=>∃ t,v=.int (kf i) t) kf (fun i v h=>h) (at_+1) (argBest bt at_) _ _ _ _ _ ⟨t2,rfl⟩ ⟨tb,rfl⟩ ?_))));refine wpAny_bind (wpAny_holding (wpAny_truthy_bool (wpAny_bind (wpAny_letGo (wpAny_pure ?_)))));cases hb:bt (at_+1) (argBest bt at_) with
    | true =>
      rw [hbt,hb];simp only [if_true];refine wpAny_bind (wpAny_updateSeq hS3 rfl (wpAny_bind (wpAny_letGo ?_)));rw [nm];refine wpAny_pure ⟨plainId_quiet PySem.F.plain_min_loop _,ih (at_+1) _ v t2 _ (by omega) lt (hG _ _ g3 fun b o _ ns e=>(Heap.get?_update_other _ _ (Ne.symm ns)).trans e) (W.frame _ _ _ st3 fun b hf o e=>(Heap.get?_update_other _ _ (fun z:S=b=>nS (by rw [z];exact hf))).trans e) (by simp only [argBest,hb,if_true];exact pv) (by simp only [argBest,hb,if_true];exact Heap.get?_update_self _ hS3 rfl)
        fun v' h4 tk4 pv' kp4=>fin v' h4 tk4 pv' fun b o nb ns e=>kp4 b o nb ns ((Heap.get?_update_other _ _ (Ne.symm ns)).trans (kp2 b o (kp b o nb e)))⟩
    | false =>
      rw [hbt,hb];simp only [Bool.false_eq_true,if_false];refine wpAny_bind (wpAny_letGo ?_);rw [nm];exact wpAny_pure ⟨plainId_quiet PySem.F.plain_min_loop _,ih (at_+1) _ bst tb c (by omega) lt g3 st3 (by simp only [argBest,hb,Bool.false_eq_true,if_false];exact pb) (by simp only [argBest,hb,Bool.false_eq_true,if_false];exact hS3) fun v' h4 tk4 pv' kp4=>fin v' h4 tk4 pv' fun b o nb ns e=>kp4 b o nb ns (kp2 b o (kp b o nb e))⟩
theorem pF {x:Value} {Q:Value->Shared->Prop} {E:Value->Shared->Prop} {s:Shared}
    (h:wpAny (model prog w) A.in1 (pyIter x) (fun it s₂=>∃ I fp wr n P St kf Gd,it=.ref I/\Walks prog w A.in1 I fp wr n P St/\St 0 s₂.heap/\(∀ b∈fp,b < s₂.heap.objs.size)/\0 < n/\t8 prog w A.in1 q P kf n Gd/\Gd s₂.heap /\
      (∀ h h',Gd h->(∀ b o,b∉wr->b≠s₂.heap.objs.size->h.get? b=some o->h'.get? b=some o)->Gd h') /\
      ∀ v h' tk,P (argBest (fun i j=>decide (kf i < kf j)) (n-1)) v->(∀ b o,b∉wr->s₂.heap.get? b=some o->h'.get? b=some o)->Q v { s₂ with heap:=h',toks:=tk }) E s) :
    wpAny (model prog w) A (call (.builtin "min") [x] [(Str.ofString "key",.ref q)]) Q E s:=by
  have nm:(toString "min" ++ toString ".loop" : String) = "min.loop" := by decide
  refine kmk_tree PySem.F.kind_min PySem.F.plain_min PySem.F.entry_min (kmk_min_key _ _) ?_;show wpAny _ A.in1 (Builtin.Builtins.bindParams "min" ["key","default"] 0 ⟨[],[(Str.ofString "key",.ref q)]⟩>>=_) _ _ s;refine wpAny_bind (wpAny_of_eq (show Builtin.Builtins.bindParams "min" ["key","default"] 0 ⟨[],[(Str.ofString "key",.ref q)]⟩=pure [some (.ref q),none] from rfl) ?_);refine wpAny_bind (wpAny_pure ?_);refine wpAny_bind (wpAny_mono h (fun it s₂ q=>?_) fun _ _ e=>e);obtain ⟨I,fp,wr,n,P,St,kf,Gd,rfl,W,st,hfp,hn,ck,g,hG,fin⟩:=q;refine wpAny_bind (wpAny_newObj_type ?_);have nS:s₂.heap.objs.size∉fp:=fun z=>Nat.lt_irrefl _ (hfp _ z)
  have nW:s₂.heap.objs.size∉wr:=fun z=>nS (W.sub _ z)
  rw [nm];refine wpAny_pure ⟨plainId_quiet PySem.F.plain_min_loop _,?_⟩;have gp:Gd (s₂.heap.push { cls:=.type "list",data:=.seq #[] }):=hG _ _ g fun b o _ _ e=>Heap.get?_push_of_some _ e
  have gH:=W.frame 0 _ (s₂.heap.push { cls:=.type "list",data:=.seq #[] }) st fun b _ o e=>Heap.get?_push_of_some _ e
  have hS:(s₂.heap.push { cls:=.type "list",data:=.seq #[] }).get? s₂.heap.objs.size=some { cls:=.type "list",dict:=none,data:=.seq #[] 0,slots:=#[] }:=Heap.get?_push_size _ rfl;refine codeAny_builtin PySem.F.entry_min_loop ?_;rw [Around.under_plainId PySem.F.plain_min_loop _];show wpAny _ A.in1 (seqItems? (.ref s₂.heap.objs.size)>>=_) _ _ _;refine wpAny_bind (wpAny_seqItems hS rfl ?_);show wpAny _ A.in1 (tryCatch (pyNext (.ref I)) _>>=_) _ _ _;refine wpAny_bind (wpAny_tryCatch (W.item 0 _ _ _ hn gH fun v h' tk pv st2 kp=>?_));have hS2:=kp _ _ nW hS;have g2:Gd h':=hG _ _ gp fun b o nb _ e=>kp b o nb e
  show wpAny _ A.in1 (tryCatch (holding [v] (call (.ref _) [v])) _>>=_) _ _ _;refine wpAny_bind (wpAny_tryCatch (wpAny_holding (ck 0 v _ _ _ hn g2 pv fun t2 h2 tk2 kp2=>?_)));have g3:Gd h2:=hG _ _ g2 fun b o _ _ e=>kp2 b o e
  have hS3:=kp2 _ _ hS2;have st3:=W.frame _ _ h2 st2 fun b _ o e=>kp2 b o e
  show wpAny _ A.in1 (updateSeq s₂.heap.objs.size (fun _=>#[v,.int (kf 0) t2])>>=_) _ _ _;refine wpAny_bind (wpAny_updateSeq hS3 rfl ?_);rw [nm];refine wpAny_pure ⟨plainId_quiet PySem.F.plain_min_loop _,oQ W kf ck s₂.heap.objs.size nS hG _ 0 _ v t2 _ rfl hn (hG _ _ g3 fun b o nb ns e=>(Heap.get?_update_other _ _ (Ne.symm ns)).trans e) (W.frame _ _ _ st3 fun b hf o e=>(Heap.get?_update_other _ _ (fun z:s₂.heap.objs.size=b=>nS (by rw [z];exact hf))).trans e) pv (Heap.get?_update_self _ hS3 rfl) fun v' h4 tk4 pv' kp4=>?_⟩;exact fin v' h4 tk4 pv' fun b o nb e=>kp4 b o nb (Nat.ne_of_lt (Heap.lt_size e)) ((Heap.get?_update_other _ _ (Nat.ne_of_gt (Heap.lt_size e))).trans (kp2 b o (kp b o nb (Heap.get?_push_of_some _ e))))
end
theorem ll {pos:Pos} {a b:Int} {c cv:Value} (l:List Value) (h:TriplesOk l) (e:codeAmong pos (l++[rawInt a,rawInt b,c])=some cv):codeAmong pos l=some cv\/cv=c:=by
  fun_induction TriplesOk l with
  | case1 =>
    simp only [List.nil_append,rawInt,codeAmong] at e;split at e
    · exact .inr (Option.some.inj e).symm
    · cases e
  | case2 a' t b' u x rest ih =>
    simp only [List.cons_append,codeAmong] at e ⊢;split at e
    · rename_i hc;rw [if_pos hc];exact .inl e
    · rename_i hc;rw [if_neg hc];exact ih h e
  | case3 l h1 h2=>exact h.elim
section
variable {X:Cx} {pins:List (Addr×Obj)} {σ:L2.St} {H:Hp} {s:Shared}
theorem ly {c P:Addr} {params:Arguments} {body:Expr} {scope:Scope} {pos:Pos} {clos:List (Str×Addr)} {Q:Value->Shared->Prop} {E:Value->Shared->Prop}
    (I:aq X pins σ H s) (hcode:X.env.code=.ref c) (C:PySem.W.CodeHd X.base c P) (hH:H P=some (.tbl (X.env.qual ++ "<lambda>"))) (hdef:defaultsOf params X.env=([],[])) (hcl:closureFor scope X.env=pure clos)
    (h:∀ f c' ctv h' H' tk,aq X pins σ H' { s with heap:=h',toks:=tk }->al H H'->(∀ b o,b≠P->s.heap.get? b=some o->h'.get? b=some o) ->
      h'.get? f=some (PySem.W.kla_obj "<lambda>" (X.env.qual ++ "<lambda>") params body scope clos ((X.mg "__name__").getD .none) c' ctv)->h'.CodeRec (.ref c') (X.env.qual ++ "<lambda>")->Q (.ref f) { s with heap:=h',toks:=tk }) :
    wpAny (model X.prog X.w) X.A (eval (.Lambda params body scope pos) X.env) Q E s:=by
  refine PySem.W.kla_eval hdef ?_;obtain ⟨ps,hP,ht,hk⟩:=I.hok P _ hH;have hg:s.heap.Ns mainGlobals X.mg:=I.mod.glob.keeps I.bk;obtain ⟨og,_,_,hog,hogd,_⟩:=id I.mod.glob;have hgP:mainGlobals≠P:=fun z=>by
    have e:=(I.bs _ _ hog).2;rw [z,hH] at e;cases e
  obtain ⟨bm,ob,b1,b2,b3,b4,b5,b6⟩:=I.mod.bmain;have hbG:bm≠mainGlobals:=fun z=>by rw [z,hog] at b3;cases b3;rw [hogd] at b6;cases b6
  have hbP:bm≠P:=fun z=>by
    have e:=(I.bs _ _ b3).2;rw [z,hH] at e;cases e
  have hb:s.heap.BuiltinsAt X.mg P:=⟨bm,ob,b1,b2,hbG,hbP,I.bk _ _ b3,b4,b5,b6⟩
  have hlt:P < s.heap.objs.size:=I.hok.lt hH;cases hca:codeAmong pos ps.toList with
  | none =>
    refine PySem.W.kla_makeFunction hcl I.ok.glob hg hcode (C.keeps I.bk) hP ht hca hgP hb fun c' ctv h' tk hx hge hlt' hrec htb=>?_
    have nc':H c'=none:=I.hok.fresh hge;have cP:c'≠P:=fun z=>by rw [z] at hge;exact absurd hlt (Nat.not_lt.mpr hge)
    have nP:∀ b,H b=none->b≠P:=fun b n z=>by rw [z,hH] at n;cases n
    have old:∀ b o,b≠P->s.heap.get? b=some o->(h'.push (PySem.W.kla_obj "<lambda>" (X.env.qual ++ "<lambda>") params body scope clos ((X.mg "__name__").getD .none) c' ctv)).get? b=some o:=fun b o hb e=>Heap.get?_push_of_some _ (hx b o hb e)
    have tP:=Heap.get?_push_of_some (PySem.W.kla_obj "<lambda>" (X.env.qual ++ "<lambda>") params body scope clos ((X.mg "__name__").getD .none) c' ctv) htb;have un:Un X.fs [] H (ca H c' (.own P)) s.heap (h'.push (PySem.W.kla_obj "<lambda>" (X.env.qual ++ "<lambda>") params body scope clos ((X.mg "__name__").getD .none) c' ctv)):=by
      refine ⟨fun b o e n _ _=>old b o (nP b n) e,fun b o e n _ _=>⟨o.slots,old b o (nP b n) e⟩,fun b o e n _=>?_,fun b o e _=>?_,fun b xs q=>?_,fun b o u q=>?_,fun b q' q=>?_⟩
      · rw [am (Nat.ne_of_lt (Nat.lt_of_lt_of_le (Heap.lt_size e) hge))];exact n
      · by_cases hb:b=P
        · subst hb;exact ⟨_,tP⟩
        · exact ⟨o,old b o hb e⟩
      · rw [am (ar q nc')];exact q
      · rw [am (ar q nc')];exact q
      · rw [am (ar q nc')];exact q
    obtain ⟨c₂,oc,vs,t,e2,hoc,hd,hv⟩:=id hrec;cases e2;have hoc':=Heap.get?_push_of_some (PySem.W.kla_obj "<lambda>" (X.env.qual ++ "<lambda>") params body scope clos ((X.mg "__name__").getD .none) c' ctv) hoc;have ok:dt X.prog X.w (ca H c' (.own P)) (h'.push (PySem.W.kla_obj "<lambda>" (X.env.qual ++ "<lambda>") params body scope clos ((X.mg "__name__").getD .none) c' ctv)):=fun b u e=>by
      by_cases hb:b=c'
      · subst hb;rw [bc] at e;cases e;exact ⟨_,hoc'⟩
      · rw [am hb] at e;by_cases hbP:b=P
        · subst hbP;rw [hH] at e;cases e;refine ⟨_,tP,?_,fun pos' cv z=>?_⟩
          · rw [Array.toList_append];exact TriplesOk_snoc _ _ _ _ ht
          · rw [Array.toList_append] at z;rcases ll _ ht z with z | z
            · obtain ⟨c1,o1,vs1,t1,k1,k2,k3,k4⟩:=hk pos' cv z;have hne:c1≠b:=fun y=>by rw [y,hH] at k2;cases k2
              exact ⟨c1,o1,vs1,t1,k1,by rw [am (ar k2 nc')];exact k2,old _ _ hne k3,k4⟩
            · exact ⟨c',oc,vs,t,z,bc,hoc',hd,hv⟩
        · refine (I.hok b u e).stay (fun d v hd' q=>old d v ?_ q) (fun d q=>by rw [am (ar q nc')];exact q) fun d xs q=>by rw [am (ar q nc')];exact q
          rcases hd' with z | z
          · rw [z];exact hbP
          · intro y;rw [y,hH] at z;cases z
    exact h _ c' ctv _ _ tk (I.un un ok) (fun b o e=>by rw [am (ar e nc')];exact e) old (Heap.get?_push_size _ rfl) (hrec.push _)
  | some cv =>
    obtain ⟨c1,o1,vs1,t1,k1,k2,k3,k4⟩:=hk pos cv hca;subst k1;refine PySem.W.kla_makeFunctionHit hcl I.ok.glob hg hcode (C.keeps I.bk) hP ht hca hb fun ctv h' tk hkp hsz=>?_
    have old:=fun b o (e:s.heap.get? b=some o)=>Heap.get?_push_of_some (PySem.W.kla_obj "<lambda>" (X.env.qual ++ "<lambda>") params body scope clos ((X.mg "__name__").getD .none) c1 ctv) (hkp b o e)
    exact h _ c1 ctv _ H tk (I.kept old) (al.refl _) (fun b o _ e=>old b o e) (Heap.get?_push_size _ rfl) ⟨c1,o1,vs1,t1,rfl,old _ _ k3,k4⟩
end
noncomputable def jf (ks:List PyData):PyData->Bool
  | .int i=>decide (0<=i)&&(match ks[i.toNat]? with | some (.int _)=>true | _=>false)
  | _=>false
noncomputable def dN (ks:List PyData):PyData->Int
  | .int i=>(match ks[i.toNat]? with | some (.int k)=>k | _=>0)
  | _=>0
noncomputable def h8:PyData->PyData->R PyData
  | .list ks,.tuple gs=>if gs.isEmpty=false/\gs.all (jf ks)=true then .ok (gs.getD (argBest (fun i j=>decide (dN ks (gs.getD i .none) < dN ks (gs.getD j .none))) (gs.length-1)) .none) else .no
  | _,_=>.no
noncomputable def jc (i:Nat) (fe:Fe):Fe:=fun ρ=>fe ρ>>=fun d=>ae i ρ>>=fun nd=>h8 nd d
noncomputable def t9 (X:Cx):Prop:=∃ c P x,x∈jM/\X.env.code=.ref c/\PySem.W.codeHdIn X.K c P=true/\PySem.W.tabIn X.K x=some (c,P)/\X.env.qual=x ++ ".<locals>."
theorem oJ {ks:List PyData} {d:PyData} (h:jf ks d=true):∃ i k,d=.int i/\0<=i/\ks[i.toNat]?=some (.int k)/\dN ks d=k:=by
  cases d with
  | int i =>
    simp only [jf,Bool.and_eq_true,decide_eq_true_eq] at h;obtain ⟨h1,h2⟩:=h;split at h2
    · rename_i k e;exact ⟨i,k,rfl,h1,e,by simp only [dN,e]⟩
    · cases h2
  | _=>cases h
theorem lW {bt:Nat->Nat->Bool}:∀ k,argBest bt k<=k
  | 0=>Nat.le_refl _
  | k+1=>by
    simp only [argBest];split
    · exact Nat.le_refl _
    · exact Nat.le_succ_of_le (lW k)
section
variable {X:Cx} {nl:Nat} {G:List Str}
theorem mH {e:Expr} {fe:Fe} {n g:Str} {params:Arguments} {scope:Scope} {p1 p2 p3 p4 p5 p6 p7:Pos} (T:Tb X nl G) (j:Nat) (hG:G[j]?=some ("min" : Str)) (hm:X.mg "min" = none) (i:Nat) (hN:X.N[i]?=some n) (hr:X.A.in1.depth < recursionLimit) (L:t9 X) (hcl:∃ cn,closureFor scope X.env=pure [(n,cn)]/\X.env.cells.lookup n=some cn/\X.env.kindOf n=some .cell) (hdef:defaultsOf params X.env=([],[])) (hco:scope.isCoroutine=false) (hgen:scope.isGenerator=false) (hk:scope.kind=.function) (hnc:∀ x∈scope.names,x.2≠.cell) (hg:scope.names.lookup g=some .local) (hn:scope.names.lookup n=some .free) (hbind:∀ (cl:List (Str×Addr)) (pm ctv:Value) (q:Str) (c':Addr) (v:Value),bindArgs (PySem.W.kla_fn "<lambda>" q params (.Subscript (.Name n p2) (.Name g p3) p4) scope cl pm (.ref c') ctv) ⟨[v],[]⟩=pure [(g,v)]) (d1:(n==("__debug__" : Str))=false) (d2:(g==("__debug__" : Str))=false) (d3:(n==("__classdict__" : Str))=false) (he:Z.cc X e fe) (hs:aL e=true:=by rfl):Z.cc X (.Call (.Name "min" p1) [e] [⟨some "key",.Lambda params (.Subscript (.Name n p2) (.Name g p3) p4) scope p5,p6⟩] p7) (jc i fe):=⟨have he:=he.un;by
  intro pins s σ H Q I hq;obtain ⟨c,P,x,hxl,hcode,hch,htab,hqual⟩:=L;obtain ⟨cn,hclo,hcel,hkind⟩:=hcl;have gg:=T.gl "min" (List.mem_of_getElem? hG);refine wpAny_Call_Name_kw (jN I gg.1 hm PyProof.Rows.boot_min ?_ gg.2.2 gg.2.1);have C:PySem.W.CodeHd X.base c P:=PySem.W.codeHd_of_K I.mod.kin hch;have hh:X.A.in1.handled=none:=I.ok.hd T.calm;refine PyProof.Rows.callWith_kw (id := "min") (e:=e) (rest:=[]) ?_ (by rw [bU hs];rfl) (iA (by simp [hs])) rfl rfl;have ha:lR X [e] (ai fe aO):=jH he lu hs;refine cq (ha p7 pins s σ H _ I (hW (I:=Rp) (f:=ai fe aO) (k:=fun ρ ds=>one (fun d=>ae i ρ>>=fun nd=>h8 nd d) ds) (eS (X:=X) dI Q) ?_)) fun us s1 ⟨vs,H1,I1,r1,ρ1,ds,sl1,S1,p1,q1⟩=>?_
  · obtain ⟨ρ,sl,q⟩:=hq;refine ⟨ρ,sl,?_⟩;have ee:(ai fe aO ρ>>=fun ds=>one (fun d=>ae i ρ>>=fun nd=>h8 nd d) ds)=jc i fe ρ:=by
      unfold ai aO jc;cases fe ρ <;> rfl
    rw [ee];exact q
  have hds:∃ d,ds=[d]:=by
    match ds,q1 with
    | [d],_=>exact ⟨d,rfl⟩
    | [],q1=>exact q1.elim
    | _::_::_,q1=>exact q1.elim
  obtain ⟨d,rfl⟩:=hds;have q2:nA X gK (ae i ρ1>>=fun nd=>h8 nd d) H1 Q:=q1;simp only [RA] at p1;obtain ⟨v,r',ev,pv,er⟩:=p1;subst er;subst ev;obtain ⟨u,rfl,ru⟩:=dX r1;unfold ae at q2;split at q2
  case h_2=>exact q2.elim
  rename_i nd eρ;obtain ⟨o0,eσ,v2,eo,pn⟩:=sl1.at eρ;subst eo;have q3:nA X gK (h8 nd d) H1 Q:=q2;cases nd with
  | list ks =>
    cases d with
    | tuple gs =>
      simp only [h8] at q3;split at q3
      case isFalse=>exact q3.elim
      rename_i hcond;obtain ⟨hne,hall⟩:=hcond;simp only [Rp] at pv pn;obtain ⟨a,gvs,rfl,ha1,rg⟩:=pv;obtain ⟨l,ol,kvs,rfl,hl1,rk⟩:=pn;cases ru;have hH:H1 P=some (.tbl (X.env.qual ++ "<lambda>")):=by
        rw [hqual];exact I1.base.tbls _ _ (I1.ok.tab x hxl c P htab)
      refine wpAny_evalAll_cons (wpAny_bind (ly I1 hcode C hH hdef hclo fun f c' ctv h' H2 tk I2 S2 keep hf hrec=>?_));refine wpAny_bind (wpAny_standAt (wpAny_pure (wpAny_evalAll_nil ?_)));show wpAny _ _ (call (.builtin "min") [.ref a] [(Str.ofString "key",.ref f)]) _ _ _;obtain ⟨its,rv,pt,hz⟩:=I2.tuple (eh.of (S2 _ _ ha1));obtain ⟨lits,rl,pl,hzl⟩:=I2.list (.inl (.inr ⟨ol,S2 _ _ hl1⟩));have hlen:its.length=gs.length:=by rw [<- rv.length,rg.length]
      have llen:lits.length=ks.length:=by rw [<- rl.length,rk.length]
      have pos:0 < gs.length:=by
        cases gs with
        | nil=>cases hne
        | cons=>simp
      have hcell:h'.IsCell cn (some (.ref l)):=by
        obtain ⟨m,hn',hl'⟩:=I2.loc;obtain ⟨u,ru,lk⟩:=hl' i n _ hN eσ (.inr (.inl hkind));cases ru;rcases lk with ⟨k1,_⟩ | ⟨_,c2,k2,k3⟩
        · rw [hkind] at k1;cases k1
        · rw [hcel] at k2;cases k2;exact k3
      have lim:h'.NoLimit:=I2.nolimit;have key:∀ j,j < gs.length->∃ k kk w,gs[j]?=some (.int k)/\0<=k/\k < 2 ^ 63/\lits[k.toNat]?=some w/\(∃ t,w=.int kk t)/\dN ks (gs.getD j .none)=kk/\∃ t,its[j]?=some (.int k t):=fun j hj=>by
        have e1:gs[j]?=some gs[j]:=List.getElem?_eq_getElem hj;obtain ⟨k,kk,ed,k0,ek,ei⟩:=oJ (List.all_eq_true.mp hall gs[j] (List.getElem_mem hj));obtain ⟨v,g1,g2⟩:=rg.get e1;rw [ed] at g2;simp only [Rp] at g2;subst g2;obtain ⟨u,g3,t,g4⟩:=rv.get g1;obtain ⟨v',l1,l2⟩:=rk.get ek;simp only [Rp] at l2;subst l2;obtain ⟨u',l3,l4⟩:=rl.get l1;have hk':k.toNat < ks.length:=(List.getElem?_eq_some_iff.mp ek).1;have hn:=gm;have hz':=hzl;rw [rk.length] at hz';refine ⟨k,kk,u',by rw [e1,ed],k0,by omega,l3,l4,?_,t,by rw [g3,g4]⟩;rw [List.getD_eq_getElem?_getD,e1];exact ei
      refine pF (wpAny_pyIter_tuple pt ?_);have alt:a < h'.objs.size:=by obtain ⟨o,e,_⟩:=pt;exact Heap.lt_size e
      refine ⟨h'.objs.size,_,_,its.toArray.size,_,_,fun j=>dN ks (gs.getD j .none),fun h=>∀ b o,h'.get? b=some o->h.get? b=some o,rfl,Walks.tuple hh h'.objs.size a (Nat.ne_of_lt alt) its.toArray,⟨⟨_,Heap.get?_push_size _ rfl,rfl,rfl⟩,?_⟩,fun b hb=>?_,by rw [List.size_toArray,hlen];exact pos,fun j v s' Q' E' hj g' pv fin=>?_,fun b o e=>Heap.get?_push_of_some _ e,fun h1 h2 g' k b o e=>k b o ?_ ?_ (g' b o e),fun v h3 tk3 pv kp=>?_⟩
      · obtain ⟨o,e,r⟩:=pt;exact ⟨o,Heap.get?_push_of_some _ e,r⟩
      · rcases List.mem_cons.mp hb with z | z
        · rw [z];simp [Heap.size_push]
        · rw [List.mem_singleton.mp z];simp only [Heap.size_push];exact Nat.lt_succ_of_lt alt
      · rw [List.size_toArray,hlen] at hj;obtain ⟨k,kk,w,e1,k0,k1,l1,⟨tw,l2⟩,e2,t,e3⟩:=key j hj;have pv':its[j]?=some v:=by simpa using pv
        rw [e3] at pv';cases pv';subst l2;obtain ⟨oo,ee,rr⟩:=pl.isList;refine oK (x:=.int kk tw) (items:=lits.toArray) hr (g' _ _ hf) (hrec.keeps g') (lim.keeps g') (hcell.keeps g') ⟨oo,g' _ _ ee,rr⟩ k0 k1 (by simpa using l1) hco hgen hk hnc hg hn (fun v=>hbind _ _ _ _ _ v) d1 d2 d3 fun h4 tk4 kp4=>?_
        have:=fin tw h4 tk4 kp4;dsimp only at this;rw [e2] at this;exact this
      · rw [List.mem_singleton];exact Nat.ne_of_lt (Heap.lt_size e)
      · refine Nat.ne_of_lt ?_;simp only [Heap.size_push];exact Nat.lt_succ_of_lt (Heap.lt_size e)
      · have hb1:=lW (bt:=fun i j=>decide (dN ks (gs.getD i .none) < dN ks (gs.getD j .none))) (gs.length-1);rw [List.size_toArray,hlen] at pv;generalize hB:argBest (fun i j=>decide (dN ks (gs.getD i .none) < dN ks (gs.getD j .none))) (gs.length-1)=B at pv hb1 q3;have hB2:B < gs.length:=by omega
        obtain ⟨k,kk,w,e1,k0,k1,l1,l2,e2,t,e3⟩:=key B hB2;have pv':its[B]?=some v:=by simpa using pv
        rw [e3] at pv';cases pv';have ed:gs.getD B .none=.int k:=by rw [List.getD_eq_getElem?_getD,e1];rfl
        rw [ed] at q3;refine ⟨.int k,H2,I2.kept fun b o e=>?_,⟨t,rfl⟩,q3 _ H2 S2 (by simp only [Rp])⟩;exact kp b o (by rw [List.mem_singleton];exact Nat.ne_of_lt (Heap.lt_size e)) (Heap.get?_push_of_some _ e)
    | _=>exact q3.elim
  | _=>exact q3.elim⟩
end
theorem mK {P:Program} {w:World} {K:PySem.W.Frag} {mg:Str->Option Value} {base:Heap} {x qual:Str} {st:Stmt} {f:Addr} {fd:FuncData} {N ps:List Str} {k:Nat} {g:Fs} (F:gy K x qual st f fd) (S:aY N ps (ah st))
    (body:∀ (cdv:Value) (A:Around) (outer:List Env) (s:Shared) (H:Hp) (E:XK),cG k (A.deeper (envOfC qual (ah st) s.heap.objs.size f cdv)) ->
      Z.fw (cp (cM P w mg) P w K mg base N qual (ah st) f cdv A outer s H E) (br st) g):bA P w K mg base (cM P w mg) (k+1) f fd ps (eu (ej N.length g) ps.length) :=
  D2.qp F S fun cdv A outer s H E hr=>(body cdv A outer s H E hr).un
theorem bf {P:Program} {w:World} {K:PySem.W.Frag} {mg:Str->Option Value} {base:Heap} {x qual:Str} {st:Stmt} {f:Addr} {fd:FuncData} {N ps:List Str} {k:Nat} {g:Fs} {G:List Str} (F:gy K x qual st f fd) (S:aY N ps (ah st)) (ck:j5 (ah st) N G)
    (body:∀ (cdv:Value) (A:Around) (outer:List Env) (s:Shared) (H:Hp) (E:XK),cG k (A.deeper (envOfC qual (ah st) s.heap.objs.size f cdv))->Tb (cp (cM P w mg) P w K mg base N qual (ah st) f cdv A outer s H E) N.length G ->
      Z.fw (cp (cM P w mg) P w K mg base N qual (ah st) f cdv A outer s H E) (br st) g):bA P w K mg base (cM P w mg) (k+1) f fd ps (eu (ej N.length g) ps.length) :=
  mK F S fun cdv A outer s H E hr=>body cdv A outer s H E hr (oq hr ck)
theorem kW {K:PySem.W.Frag} {x:Str} {f c P:Addr} {oc oc':Value} {od od':Option Addr} {fd:FuncData} {osl sl':Array (Option Value)} {vs:Array Value} (a:PySem.W.nsIn K mainGlobals x=some (some (.ref f))) (l:K.lookup f=some ⟨oc,od,.func fd,osl⟩) (hc:fd.code=.ref c)
    (lc:K.lookup c=some ⟨oc',od',.fields vs,sl'⟩) (h:(vs[11]?:Option Value)=some (.ref P)):PySem.W.tabIn K x=some (c,P):=by
  unfold PySem.W.tabIn;simp only [a,l,hc,lc,h]
theorem mT {K:PySem.W.Frag} {c P:Addr} {od':Option Addr} {sl':Array (Option Value)} {vs:Array Value} (lc:K.lookup c=some ⟨.type "code",od',.fields vs,sl'⟩) (h:((match (vs[11]?:Option Value) with | some (.ref P')=>P'==P | _=>false) &&
      (match vs.getD 18 .none with | .str _ _=>true | _=>false)&&(match vs.getD 7 .none with | .int _ _=>true | _=>false) &&
      (match vs.getD 9 .none with | .bool _=>true | _=>false)&&(match vs.getD 10 .none with | .int _ _=>true | _=>false)&&c != P)=true):PySem.W.codeHdIn K c P=true:=by
  unfold PySem.W.codeHdIn;rw [lc];exact h
theorem pj {k:Nat} {A:Around} (r:cG k A):A.in1.depth < recursionLimit:=Nat.lt_of_le_of_lt (show A.depth<=A.depth+3*k+5 by omega) r.dp
theorem ox {P:Program} {w:World} {K:PySem.W.Frag} {mg:Str->Option Value} {base:Heap} {x qual:Str} {st:Stmt} {f:Addr} {fd:FuncData} {N ps:List Str} {k:Nat} {g:Fs} {C:Value->Prop} (ex:∃ (oc:Value) (od:Option Addr) (kV doc pm:Value) (an:Option Addr) (cdv ct:Value) (osl:Array (Option Value)),fd=PySem.W.fnOf x qual (cg st) (br st) (ah st) .none kV doc pm an cdv ct/\K.lookup f=some ⟨oc,od,.func fd,osl⟩/\PySem.W.codeIn K cdv qual=true/\C cdv) (S:aY N ps (ah st))
    (body:∀ (cdv:Value),C cdv->∀ (A:Around) (outer:List Env) (s:Shared) (H:Hp) (E:XK),cG k (A.deeper (envOfC qual (ah st) s.heap.objs.size f cdv)) ->
      fw (cp (cM P w mg) P w K mg base N qual (ah st) f cdv A outer s H E) (br st) g):bA P w K mg base (cM P w mg) (k+1) f fd ps (eu (ej N.length g) ps.length):=by
  obtain ⟨oc,od,kV,doc,pm,an,cdv,ct,osl,rfl,lk,hcd,hC⟩:=ex;refine oy lk hcd S (fun vs H Q E ⟨ds,r,hl,_⟩=>by rw [r.length];exact hl) fun A outer s H vs Q E hr h=>?_
  obtain ⟨ds,r,hl,q⟩:=h;have noOwn:∀ (i:Nat) (d:PyData),(ds.map bK.val++List.replicate (N.length-ds.length) bK.non)[i]?=some (.own d)->False:=fun i d h1=>by
    by_cases hi:i < ds.length
    · rw [List.getElem?_append_left (by simpa using hi),List.getElem?_map] at h1;cases e:ds[i]? with
      | none=>rw [e] at h1;cases h1
      | some d=>rw [e] at h1;cases h1
    · rw [List.getElem?_append_right (by simpa using hi),List.getElem?_replicate] at h1;split at h1
      · cases h1
      · cases h1
  refine ⟨_,body cdv hC A outer s H E hr H,_,⟨al.refl _,kR r,fun i d a h1 h2=>(noOwn i d h1).elim,fun i j d e a h1 h2 h3 h4=>(noOwn i d h1).elim⟩,?_⟩;unfold ej at q;cases eg:g (ds.map bK.val++List.replicate (N.length-ds.length) .non) with
  | ex c=>rw [eg] at q;exact ⟨pG q,mC q⟩
  | no=>rw [eg] at q;exact q.elim
  | ok o =>
    rw [eg] at q;cases o with
    | rt d=>exact fun v H' s' p=>q v H' s' p
    | nx ρ=>exact fun σ' H' s'=>q .non H' s'.fm (by simp only [Rp])
    | bk ρ=>exact q.elim
    | ct ρ=>exact q.elim
theorem li {P:Program} {w:World} {K:PySem.W.Frag} {mg:Str->Option Value} {base:Heap} {x:Str} {st:Stmt} {f c T:Addr} {fd:FuncData} {N ps:List Str} {k:Nat} {g:Fs} {G:List Str} (F:gy K x x st f fd) (S:aY N ps (ah st)) (ck:j5 (ah st) N G)
    (hx:x∈jM) (ns:PySem.W.nsIn K mainGlobals x=some (some (.ref f))) (tb:PySem.W.tabIn K x=some (c,T)) (ch:PySem.W.codeHdIn K c T=true)
    (body:∀ (cdv:Value) (A:Around) (outer:List Env) (s:Shared) (H:Hp) (E:XK),cG k (A.deeper (envOfC x (ah st) s.heap.objs.size f cdv))->Tb (cp (cM P w mg) P w K mg base N x (ah st) f cdv A outer s H E) N.length G->t9 (cp (cM P w mg) P w K mg base N x (ah st) f cdv A outer s H E) ->
      Z.fw (cp (cM P w mg) P w K mg base N x (ah st) f cdv A outer s H E) (br st) g):bA P w K mg base (cM P w mg) (k+1) f fd ps (eu (ej N.length g) ps.length):=by
  obtain ⟨oc,od,kV,doc,pm,an,cdv,ct,osl,e,lk,hcd⟩:=F.ex;have ec:cdv=.ref c:=by
    have t:=tb;unfold PySem.W.tabIn at t;rw [ns] at t;simp only [lk,e,PySem.W.fnOf] at t;cases cdv with
    | ref c0 =>
      simp only at t;split at t
      · split at t
        · cases t;rfl
        · cases t
      · cases t
    | _=>cases t
  refine D2.ox (C:=fun cd=>cd=.ref c) ⟨oc,od,kV,doc,pm,an,cdv,ct,osl,e,lk,hcd,ec⟩ S fun cd hc A outer s H E hr=>?_
  exact (body cd A outer s H E hr (oq hr ck) ⟨c,T,x,hx,hc,ch,tb,rfl⟩).un
noncomputable def gT (K:PySem.W.Frag):Bool:=K.all fun p=>match p.2.cls with
  | .type n=>!(n == "list")
  | _=>true
theorem ip {α β:Type} [BEq α] {a:α} {o:β}:∀ {K:List (α×β)},K.lookup a=some o->∃ p∈K,p.2=o
  | [],e=>by cases e
  | (b,x)::r,e=>by
    rw [List.lookup_cons] at e;split at e
    · cases e;exact ⟨_,List.mem_cons_self,rfl⟩
    · obtain ⟨p,h1,h2⟩:=ip e;exact ⟨p,List.mem_cons_of_mem _ h1,h2⟩
theorem lE {K:PySem.W.Frag} (h:gT K=true) {a:Addr} {o:Obj} (e:K.lookup a=some o) (c:o.cls=.type "list"):False:=by
  obtain ⟨p,m,rfl⟩:=ip e;have q:=List.all_eq_true.mp h _ m;simp only [c] at q;simp at q
noncomputable def rK (F:List PyData->R PyData):Prop:=∀ ns:List Int,ns.length<=63->F [.list (ns.map .int)]=.ok (.bool true)
theorem w5 {l:PySem.W.OpenLaw} {q:Program} {loose:List Str} {XP:(Str->Option Value)->Heap->Prop} {YP:World->Heap->Prop} {d:DefRec} {K:Params->PySem.W.Frag} {k:Nat} {x:Str} {F:List PyData->R PyData} {dl:DefRec} {c T:Addr} (hn:l.most=some 63) (hdf:d.params.defaults=[])
    (hr:cG k callerA) (hY:∀ (w:World) (h:Heap),YP w h->(K w.params).In h) (hF:rK F) (hq:(recsOf q).find? (fun e=>e.name==("cheapest_goal" : Str))=some dl) (ht:∀ w:World,PySem.W.tabIn (K w.params) "cheapest_goal" = some (c,T)) (nt:∀ w:World,PySem.W.noTabs (K w.params)=true)
    (G:∀ (w:World) (mg:Str->Option Value) (fa:Addr) (h:Heap),(K w.params).In h->h.Ns mainGlobals mg->mg d.name=some (.ref fa) ->
      gT (K w.params)=true/\∃ fd:FuncData,(∀ (s:Shared) (u:Value),BindsTo s fd ⟨[u],[]⟩ [(x,u)])/\∀ base:Heap,(K w.params).In base->base.Ns mainGlobals mg->bA l.prog w (K w.params) mg base (cM l.prog w mg) k fa fd [x] (eu F 1)) :
    PySem.W.WalkO q loose XP YP l.row.toRowW d [] (fun f vs=>PySem.call f vs):=by
  refine Att.attach_call hn hdf fun w s₀ s₁ mg mb fa o pm cd doc a vs ns G0 Y ho hd hcd hmg hobj hints hlen hg=>?_
  have KX:=hY w _ Y;obtain ⟨nl,fd,hb,hG⟩:=G w mg fa _ KX G0.T.g hmg;obtain ⟨hC,hTb⟩:=PySem.W.tab_of G0.T KX hq (ht w);refine L2.oM (sp:=eu F 1) (q0 := "cheapest_goal" ++ ".<locals>." ++ "<lambda>") KX G0.T.g G0.T.b G0.T.builtins G0.T.nolimit G0.T.bmain hg hobj hints (Nat.le_trans hlen (by decide)) hr (nt w) hC hTb (fun H h y hy c' P' e=>by
    obtain rfl:y = "cheapest_goal" := List.mem_singleton.mp hy;rw [ht w] at e;cases e;exact h) hG hb (fun H hO hS=>?_) fun H e s' ⟨_,_,_,_,_,z⟩=>z
  refine ⟨[.list (ns.map .int)],aM.cons ?_ aM.nil,rfl,?_⟩
  · rcases hS with (h | ⟨o,h⟩) | ⟨o,its,n,h,c,_⟩
    · rcases hO a with z | ⟨o,xs,z⟩ | ⟨_,q,z⟩
      · rw [z] at h;cases h
      · rw [z] at h;cases h
      · rw [z] at h;cases h
    · simp only [Rp];exact ⟨a,o,_,rfl,h,aM.ints ns⟩
    · exact (lE nl h c).elim
  · rw [hF ns hlen];intro v H' _ r;simpa only [Rp] using r
section
variable {K:PySem.W.Frag} {x qual:Str} {st:Stmt} {f:Addr} {fd:FuncData} {p1 p2 p3 p4 p5 p6 p7:Str}
theorem wo (F:gy K x qual st f fd) (h:∀ (kV doc pm:Value) (an:Option Addr) (cdv ct:Value) (a1:Value),bindArgs (PySem.W.fnOf x qual (cg st) (br st) (ah st) .none kV doc pm an cdv ct) ⟨[a1],[]⟩=pure [(p1,a1)]):bY K fd [p1] []:=F.binds fun kV doc pm an cdv ct us hl=>match us,hl with | [a1],_=>h kV doc pm an cdv ct a1
theorem sj (F:gy K x qual st f fd) (h:∀ (kV doc pm:Value) (an:Option Addr) (cdv ct:Value) (a1 a2:Value),bindArgs (PySem.W.fnOf x qual (cg st) (br st) (ah st) .none kV doc pm an cdv ct) ⟨[a1,a2],[]⟩=pure [(p1,a1),(p2,a2)]):bY K fd [p1,p2] []:=F.binds fun kV doc pm an cdv ct us hl=>match us,hl with | [a1,a2],_=>h kV doc pm an cdv ct a1 a2
theorem xa (F:gy K x qual st f fd) (h:∀ (kV doc pm:Value) (an:Option Addr) (cdv ct:Value) (a1 a2 a3:Value),bindArgs (PySem.W.fnOf x qual (cg st) (br st) (ah st) .none kV doc pm an cdv ct) ⟨[a1,a2,a3],[]⟩=pure [(p1,a1),(p2,a2),(p3,a3)]):bY K fd [p1,p2,p3] []:=F.binds fun kV doc pm an cdv ct us hl=>match us,hl with | [a1,a2,a3],_=>h kV doc pm an cdv ct a1 a2 a3
end
@[simp] theorem c8 {α:Type} (a:α):kG (R.ok a)=.ok a:=rfl
@[simp] theorem wJ {α:Type}:kG (R.no:R α)=.no:=rfl
@[simp] theorem wI {α:Type} (c:Str):kG (R.ex c:R α)=.no:=rfl
noncomputable def sY:k6->R PyData
  | .rt d=>.ok d
  | .nx _=>.ok .none
  | _=>.no
theorem dJ (n:Nat) (g:Fs) (ds:List PyData):ej n g ds=(g (ds.map bK.val++List.replicate (n-ds.length) .non)>>=sY):=by
  unfold ej;congr 1
@[simp] theorem wa (d:PyData):sY (.rt d)=.ok d:=rfl
@[simp] theorem v9 (r:au):sY (.nx r)=.ok .none:=rfl
section
variable (f g h:Fe) (ρ:au) (i j:Nat) (t u:au->R Bool) (a b:Fs) (fs:au->R (List PyData)) (F:List PyData->R PyData) (d e:PyData)
@[simp] theorem cT:eC d ρ=.ok d:=rfl
@[simp] theorem aQ:ae 0 (.val d::ρ)=.ok d:=rfl
@[simp] theorem bF (c:bK):ae (i+1) (c::ρ)=ae i ρ:=rfl
@[simp] theorem qh:fQ 0 (.val d::ρ)=.ok d:=rfl
@[simp] theorem v4:fQ 0 (.own d::ρ)=.ok d:=rfl
@[simp] theorem qi (c:bK):fQ (i+1) (c::ρ)=fQ i ρ:=rfl
@[simp] theorem dS (k:PyData->R PyData):e1 k f ρ=(f ρ>>=fun x=>k x):=rfl
@[simp] theorem cx (k:PyData->PyData->R PyData):e2 k f g ρ=(f ρ>>=fun x=>g ρ>>=fun y=>k x y):=rfl
@[simp] theorem kU:tE f ρ=(f ρ>>=nL):=rfl
@[simp] theorem kn (k:Bool):nL (.bool k)=.ok k:=rfl
@[simp] theorem vm:vk t u ρ=(t ρ>>=fun k=>if k=true then u ρ else .ok false):=rfl
@[simp] theorem wf:wW t u ρ=(t ρ>>=fun k=>if k=true then .ok true else u ρ):=rfl
@[simp] theorem vx:vw t ρ=(t ρ>>=fun k=>.ok (!k)):=rfl
@[simp] theorem vY:wz f g ρ=(f ρ>>=fun d=>nL d>>=fun k=>if k=true then g ρ else .ok (.bool false)):=rfl
@[simp] theorem wC:xp f g ρ=(f ρ>>=fun d=>nL d>>=fun k=>if k=true then .ok (.bool true) else g ρ):=rfl
@[simp] theorem vZ:wB f ρ=(f ρ>>=fun d=>nL d>>=fun k=>.ok (.bool (!k))):=rfl
@[simp] theorem wA:rC t f g ρ=(t ρ>>=fun k=>if k=true then f ρ else g ρ):=rfl
@[simp] theorem cf:aO ρ=.ok []:=rfl
@[simp] theorem bP:ai f fs ρ=(f ρ>>=fun d=>fs ρ>>=fun ds=>.ok (d::ds)):=rfl
@[simp] theorem dC:bh F fs ρ=(fs ρ>>=F):=rfl
@[simp] theorem tW (p q:PyData->PyData->R PyData):su p q f g h ρ=(f ρ>>=fun x=>g ρ>>=fun y=>p x y>>=fun d=>nL d>>=fun k=>if k=true then h ρ>>=fun z=>q y z else .ok (.bool false)):=rfl
@[simp] theorem qg:ls fs ρ=(fs ρ>>=fun ds=>if ds.length<=sizeLine then .ok (.tuple ds) else .no):=rfl
@[simp] theorem me:iU fs ρ=(fs ρ>>=fun ds=>if ds.length<=sizeLine then .ok (.list ds) else .no):=rfl
@[simp] theorem oV:gF ρ=.ok none:=rfl
@[simp] theorem oW:gG f ρ=(f ρ>>=fun d=>vV d>>=fun i=>.ok (some i)):=rfl
@[simp] theorem ue (k:Int):vV (.int k)=.ok k:=rfl
@[simp] theorem sv (lo hi:Fo):rD f lo hi ρ=(f ρ>>=fun d=>lo ρ>>=fun l=>hi ρ>>=fun u=>pK d l u):=rfl
@[simp] theorem kO:dD ρ=.ok (.nx ρ):=rfl
@[simp] theorem mz:aJ a b ρ=(a ρ>>=jq b):=rfl
@[simp] theorem vI:jq b (.nx ρ)=b ρ:=rfl
@[simp] theorem vJ:jq b (.rt d)=.ok (.rt d):=rfl
@[simp] theorem vG:jq b (.bk ρ)=.ok (.bk ρ):=rfl
@[simp] theorem vH:jq b (.ct ρ)=.ok (.ct ρ):=rfl
@[simp] theorem ix:nD t a b ρ=(t ρ>>=fun k=>if k=true then a ρ else b ρ):=rfl
@[simp] theorem jV:da f ρ=(f ρ>>=fun d=>.ok (.rt d)):=rfl
@[simp] theorem vf:ve ρ=.ok (.rt .none):=rfl
@[simp] theorem vd:vc f ρ=(f ρ>>=fun _=>.ok (.nx ρ)):=rfl
@[simp] theorem tZ:s9 ρ=.ok (.bk ρ):=rfl
@[simp] theorem va:u9 ρ=.ok (.ct ρ):=rfl
@[simp] theorem bz:aR i f ρ=(f ρ>>=fun d=>.ok (.nx (ρ.set i (.val d)))):=rfl
@[simp] theorem we:fG i f ρ=(f ρ>>=fun d=>.ok (.nx (ρ.set i (.own d)))):=rfl
@[simp] theorem ci:c7 f ρ=(f ρ>>=iy):=rfl
@[simp] theorem gj:eK fs ρ=(fs ρ>>=jT):=rfl
@[simp] theorem uH:uG fs ρ=(fs ρ>>=vi):=rfl
@[simp] theorem uA:uz fs ρ=(fs ρ>>=ut):=rfl
@[simp] theorem uE:uD f ρ=(f ρ>>=rJ):=rfl
@[simp] theorem uJ:uI f ρ=(f ρ>>=rY):=rfl
@[simp] theorem dQ (ds:List PyData):iy (.tuple ds)=.ok ds:=rfl
@[simp] theorem lI (ds:List PyData):iy (.list ds)=.ok ds:=rfl
@[simp] theorem uf:aI i d ρ=some (ρ.set i (.val d)):=rfl
@[simp] theorem e9:gv a ρ=kG (a ρ):=rfl
theorem fV (it:au->R (List PyData)) (bb:PyData->au->Option au):jU it bb a ρ=(it ρ>>=fun ds=>dY bb a ds ρ):=rfl
@[simp] theorem eJ (bb:PyData->au->Option au):dY bb a [] ρ=.ok (.nx ρ):=by unfold dY;rfl
noncomputable def jr (k:au->R k6):k6->R k6
  | .nx ρ=>k ρ
  | .ct ρ=>k ρ
  | .bk ρ=>.ok (.nx ρ)
  | .rt r=>.ok (.rt r)
@[simp] theorem kY (k:au->R k6):jr k (.nx ρ)=k ρ:=rfl
@[simp] theorem vL (k:au->R k6):jr k (.ct ρ)=k ρ:=rfl
@[simp] theorem vK (k:au->R k6):jr k (.bk ρ)=.ok (.nx ρ):=rfl
@[simp] theorem vM (k:au->R k6):jr k (.rt d)=.ok (.rt d):=rfl
theorem eY (i:Nat) (ds:List PyData):dY (aI i) a (d::ds) ρ=(a (ρ.set i (.val d))>>=jr (dY (aI i) a ds)):=by
  rw [dY];show (a (ρ.set i (.val d))>>=_)=_;congr 1
theorem aC {a b:Fs} {ρ ρ':au} (h:a ρ=.ok (.nx ρ')):aJ a b ρ=b ρ':=by rw [mz,h];rfl
theorem ti {a b:Fs} {ρ:au} {d:PyData} (h:a ρ=.ok (.rt d)):aJ a b ρ=.ok (.rt d):=by rw [mz,h];rfl
theorem ie {n:Nat} {g:Fs} {ds:List PyData} {d:PyData} (h:g (ds.map bK.val++List.replicate (n-ds.length) .non)=.ok (.rt d)):ej n g ds=.ok d:=by rw [dJ,h];rfl
theorem gf (bb:PyData->au->Option au):bE bb t f ρ []=.ok []:=by unfold bE;rfl
theorem fB (i:Nat) (ds:List PyData):bE (aI i) t f ρ (d::ds)=(t (ρ.set i (.val d))>>=fun k=>if k=true then f (ρ.set i (.val d))>>=fun x=>bE (aI i) t f ρ ds>>=fun xs=>.ok (x::xs) else bE (aI i) t f ρ ds):=by
  rw [bE];rfl
@[simp] theorem uL:uK f g h ρ=(f ρ>>=fun x=>g ρ>>=fun y=>h ρ>>=fun z=>lN x>>=fun xs=>lN y>>=fun ys=>lN z>>=fun zs=>.ok (pH xs ys zs)):=rfl
@[simp] theorem w4 (ds:List PyData):lN (.tuple ds)=.ok ds:=rfl
@[simp] theorem ux:uw fs ρ=(fs ρ>>=wb .tuple):=rfl
@[simp] theorem uv:uu fs ρ=(fs ρ>>=wb .list):=rfl
@[simp] theorem nC (x y:PyData) (e:f ρ=.ok (.tuple [x,y])):rd (lV i j) f ρ=.ok (.nx ((ρ.set i (.val x)).set j (.val y))):=by unfold rd;rw [e];rfl
@[simp] theorem v3 (lo hi:Fo):wD f lo hi ρ=(f ρ>>=fun d=>lo ρ>>=fun l=>hi ρ>>=fun u=>uk d l u):=rfl
@[simp] theorem wc (op:Int->Int->Int):wQ i op f ρ=(ae i ρ>>=fun x=>f ρ>>=fun y=>wu op x y>>=fun z=>.ok (.nx (ρ.set i (.val z)))):=rfl
@[simp] theorem xb (op:Int->Int->Int) (m n:Int):wu op (.int m) (.int n)=.ok (.int (op m n)):=rfl
@[simp] theorem v7:wG f g ρ=(f ρ>>=fun x=>g ρ>>=fun y=>iy x>>=fun xs=>iy y>>=fun ys=>.ok (vO xs ys)):=rfl
@[simp] theorem uC:uB f ρ=(f ρ>>=fun x=>iy x>>=fun xs=>.ok (ov 0 xs)):=rfl
theorem nB {ρ:au} {i:Nat} {ds:List PyData} (f:Fe) (h:ρ[i]?=some (.own (.list ds))) (hz:ds.length < sizeLine):e8 i f ρ=(kG (f ρ)>>=fun d=>.ok (.nx (ρ.set i (.own (.list (ds++[d])))))):=by
  unfold e8;congr 1;funext d;rw [h];exact if_pos hz
noncomputable def sG:R (List PyData)->R PyData
  | .ok xs=>.ok (.list xs)
  | .ex c=>.ex c
  | .no=>.no
@[simp] theorem v8 (c:Str):sG (.ex c)=.ex c:=rfl
@[simp] theorem cW (xs:List PyData):sG (.ok xs)=.ok (.list xs):=rfl
theorem bR (it:au->R (List PyData)) (own:Nat) (fr:List Nat) (bb:PyData->au->Option au):bq it own fr bb t f ρ=(kG (it ρ)>>=fun ds=>if ds.length<=sizeLine then sG (bE bb t f (ap own fr ρ) ds) else .no):=by
  unfold bq;congr 1
theorem eX (i:Nat) (G:PyData->PyData):∀ (ds:List PyData),(∀ d∈ds,f (ρ.set i (.val d))=.ok (G d))->bE (aI i) (fun _=>.ok true) f ρ ds=.ok (ds.map G)
  | [],_=>gf ..
  | d::ds,hh=>by
    rw [fB,hh d List.mem_cons_self,eX i G ds fun x hx=>hh x (List.mem_cons_of_mem _ hx)];rfl
end
section
variable (i j:Int) (xs ys:List PyData)
@[simp] theorem ww:iT (.int i)=.ok (.int (-i)):=rfl
@[simp] theorem lq:bp (.int i) (.int j)=.ok (.int (i+j)):=rfl
@[simp] theorem oi:bp (.tuple xs) (.tuple ys)=if xs.length+ys.length<=sizeLine then .ok (.tuple (xs++ys)) else .no:=rfl
@[simp] theorem wp:bp (.list xs) (.list ys)=if xs.length+ys.length<=sizeLine then .ok (.list (xs++ys)) else .no:=rfl
@[simp] theorem lr:gi (.int i) (.int j)=.ok (.int (i-j)):=rfl
@[simp] theorem jG:cH (.int i) (.int j)=if 0 < j then .ok (.int (i%j)) else .no:=rfl
@[simp] theorem wq:iQ (.int i) (.int j)=if 0 < j/\j < 1073741824 then .ok (.int (i / j)) else .no:=rfl
theorem sq:bX (.int i) (.int j)=if (-(2 ^ 64) < i/\i < 2 ^ 64)\/(-(2 ^ 64) < j/\j < 2 ^ 64) then .ok (.int (i*j)) else .no:=rfl
@[simp] theorem jE (p:Int->Int->Bool):dm p (.int i) (.int j)=.ok (.bool (p i j)):=rfl
@[simp] theorem sn:iS (.int i) (.int j)=.ok (.int (if j < i then j else i)):=rfl
@[simp] theorem sk:gh (.int i) (.int j)=.ok (.int (if j > i then j else i)):=rfl
@[simp] theorem om:iR (.tuple xs)=.ok (.int xs.length):=rfl
@[simp] theorem wv:iR (.list xs)=.ok (.int xs.length):=rfl
@[simp] theorem fP:dn (.list xs)=.ok (.tuple xs):=rfl
@[simp] theorem ul:dn (.tuple xs)=.ok (.tuple xs):=rfl
@[simp] theorem vW:rB (.list xs)=.ok (.list xs):=rfl
@[simp] theorem vX:rB (.tuple xs)=.ok (.list xs):=rfl
@[simp] theorem wt:gO (.int i)=.ok (.int i):=rfl
@[simp] theorem jF (k:Bool):gO (.bool k)=.ok (.int (if k then 1 else 0)):=rfl
@[simp] theorem xf (lo hi:Option Int):pK (.tuple xs) lo hi=.ok (.tuple (jD xs lo hi)):=rfl
@[simp] theorem xc (lo hi:Option Int):pK (.list xs) lo hi=.ok (.list (jD xs lo hi)):=rfl
@[simp] theorem wy:wx (.tuple xs)=.ok (.tuple xs.reverse):=rfl
theorem jz {α:Type} {xs:List α} {i:Int} (h0:0<=i) (h1:i < xs.length):L2.atI xs i=some (xs[i.toNat]'(by omega)):=by
  unfold L2.atI rH;rw [if_pos h0,if_pos h1];exact List.getElem?_eq_getElem (by omega)
theorem l8 {xs:List PyData} {i:Int} (h0:0<=i) (h1:i < xs.length):bT (.tuple xs) (.int i)=.ok (xs[i.toNat]'(by omega)):=by
  show (match L2.atI xs i with | some d=>R.ok d | none=>.no)=_;rw [jz h0 h1]
theorem oj {xs:List PyData} {i:Int} (h0:0<=i) (h1:i < xs.length):bT (.list xs) (.int i)=.ok (xs[i.toNat]'(by omega)):=by
  show (match L2.atI xs i with | some d=>R.ok d | none=>.no)=_;rw [jz h0 h1]
theorem mh:PyData.eqv (.int i) (.int j)=decide (i=j):=by
  simp only [PyData.eqv];by_cases h:i=j
  · subst h;simp
  · simp [h]
theorem fN:l7 (.int i) (.int j)=.ok (.bool (decide (i=j))):=by
  unfold l7;rw [if_pos (by rfl),mh]
end
end D2
namespace G
open PySem PySem.Spec PyProof.Rows L2 D2
noncomputable abbrev gc (d:PyData):Prop:=d.canLay0=true
theorem mi:∀ {ds:List PyData},PyData.canLayAll0 ds=true->∀ x∈ds,gc x
  | [],_,x,hx=>by cases hx
  | d::ds,h,x,hx=>by
    have h':d.canLay0=true/\PyData.canLayAll0 ds=true:=by simpa [PyData.canLayAll0] using h
    rcases List.mem_cons.mp hx with rfl | hx
    · exact h'.1
    · exact mi h'.2 x hx
theorem hU:∀ {ds:List PyData},(∀ x∈ds,gc x)->PyData.canLayAll0 ds=true
  | [],_=>by simp [PyData.canLayAll0]
  | d::ds,h=>by
    have h1:=h d List.mem_cons_self;have h2:=hU fun x hx=>h x (List.mem_cons_of_mem _ hx)
    simp only [PyData.canLayAll0,Bool.and_eq_true];exact ⟨h1,h2⟩
theorem lw {ds:List PyData}:gc (.tuple ds)<->∀ x∈ds,gc x:=by
  constructor
  · intro h;exact mi (by simpa [gc,PyData.canLay0] using h)
  · intro h;simp only [gc,PyData.canLay0];exact hU h
theorem kD (i:Int):gc (.int i):=by simp [gc,PyData.canLay0]
theorem mZ:gc .none:=by simp [gc,PyData.canLay0]
theorem cj {n:Nat} (h:n<=1000):n<=sizeLine:=Nat.le_trans h (by decide)
noncomputable abbrev ff (ns:List Int):PyData:=.list (ns.map .int)
theorem cQ {i j:Int} (h:(-(2 ^ 64) < i/\i < 2 ^ 64)\/(-(2 ^ 64) < j/\j < 2 ^ 64)):bX (.int i) (.int j)=.ok (.int (i*j)):=by rw [sq,if_pos h]
structure lg (c:Int) (n:Nat) (kvs:List (PyData×PyData)):Prop where
  ex:∃ ns:List Int,kvs.map (·.1)=ns.map PyData.int/\(∀ x∈ns,0<=x/\x < c)/\ns.length<=n/\(n=0\/ns≠[])/\ns.Nodup
theorem lg.put {c:Int} {n:Nat} {kvs:List (PyData×PyData)} (h:lg c n kvs) {k:Int} (h0:0<=k) (h1:k < c) (v:PyData):lg c (n+1) (lH kvs (.int k) v):=by
  obtain ⟨ns,e,hb,hl,hn,nd⟩:=h.ex;have hany:(kvs.any fun kv=>df kv.1 (.int k))=ns.any fun i=>decide (i=k):=by
    have:(kvs.any fun kv=>df kv.1 (.int k))=(kvs.map (·.1)).any fun d=>df d (.int k):=by rw [List.any_map];rfl
    rw [this,e,List.any_map];rfl
  unfold lH;rw [hany];by_cases hm:k∈ns
  · have ha:(ns.any fun i=>decide (i=k))=true:=by simp;exact hm
    rw [if_pos ha];refine ⟨ns,?_,hb,by omega,.inr (by intro z;rw [z] at hm;cases hm),nd⟩;rw [<- e,List.map_map];apply List.map_congr_left;intro kv _;show (if df kv.1 (.int k)=true then (kv.1,v) else kv).1=kv.1;split <;> rfl
  · have ha:¬ (ns.any fun i=>decide (i=k))=true:=by simp;exact hm
    rw [if_neg ha];refine ⟨ns++[k],by rw [List.map_append,List.map_append,e];rfl,fun x hx=>?_,by simp;omega,.inr (by simp),?_⟩
    · rcases List.mem_append.mp hx with z | z
      · exact hb x z
      · simp at z;subst z;exact ⟨h0,h1⟩
    · rw [List.nodup_append];refine ⟨nd,by simp,fun a hma b hb'=>?_⟩;simp at hb';subst hb';rintro rfl;exact hm hma
theorem lg.len {c:Int} {n:Nat} {kvs:List (PyData×PyData)} (h:lg c n kvs):kvs.length<=n:=by
  obtain ⟨ns,e,_,hl,_⟩:=h.ex;have:=congrArg List.length e;simp at this;omega
theorem kK (lo:Int) (n:Nat):∀ d∈bg lo n,∃ k,d=.int k:=fun d hd=>by
  unfold bg at hd;obtain ⟨k,_,rfl⟩:=List.mem_map.mp hd;exact ⟨_,rfl⟩
theorem dP (lo:Int) (n:Nat):(bg lo n).length=n:=by unfold bg;simp
theorem qd {xs:List PyData} {i:Int} (h0:0<=i) (h1:i < xs.length):∃ x∈xs,bT (.list xs) (.int i)=.ok x:=⟨_,List.getElem_mem _,oj h0 h1⟩
structure P4 where
  w:Int
  m:Int
  g:Int
  ns:List Int
noncomputable def P4.d (p:P4):PyData:=.tuple [.int p.w,.int p.m,.int p.g,.tuple (p.ns.map .int)]
structure Pl (c hi:Int) (p:P4):Prop where
  w0:0<=p.w
  w1:p.w<=1
  m0:0<=p.m
  m1:p.m<=hi
  g0:-20<=p.g
  g1:p.g<=20
  ne:p.ns≠[]
  so:p.ns.Pairwise (· < ·)
  inn:∀ x∈p.ns,0<=x/\x < c
theorem iw:∀ (ns:List Int) (l c:Int),ns.Pairwise (· < ·)->(∀ x∈ns,l<=x/\x < c)->ns=[]\/l+(ns.length:Int)<=c
  | [],_,_,_,_=>.inl rfl
  | x::r,l,c,hp,hb=>by
    right;obtain ⟨h1,h2⟩:=List.pairwise_cons.mp hp;have hx:=hb x List.mem_cons_self;rcases iw r (x+1) c h2 (fun y hy=>⟨by have:=h1 y hy;omega,(hb y (List.mem_cons_of_mem _ hy)).2⟩) with rfl | z
    · simp;omega
    · rw [List.length_cons];omega
theorem Pl.len {c hi:Int} {p:P4} (h:Pl c hi p):(p.ns.length:Int)<=c:=by
  rcases iw p.ns 0 c h.so h.inn with z | z
  · exact absurd z h.ne
  · omega
noncomputable abbrev gD (ps:List P4):PyData:=.tuple (ps.map P4.d)
theorem nH {ns:List Int} (h:ns.Pairwise (·<=·)) (nd:ns.Nodup):ns.Pairwise (· < ·):=by
  have:=h.and nd;exact this.imp fun ⟨a,b⟩=>by omega
end G
noncomputable section
namespace G
open PySem PySem.Spec PyProof.Rows L2 D2
noncomputable def eA:Fs :=
  (aJ (aR 2 (e2 cH (e2 bX (e2 bp (e2 bp (ae 0) (e2 bX (eC (.int 104729)) (ae 1))) (eC (.int 17))) (eC (.int 69621))) (eC (.int 2147483647)))) (da (e2 cH (e2 bp (e2 bp (e2 bX (ae 2) (ae 2)) (e2 bX (eC (.int 3)) (ae 2))) (ae 1)) (eC (.int 2147483629)))))
noncomputable def ao:List PyData->R PyData:=ej 3 (eA)
noncomputable def dh:Fs :=
  (aJ (nD (tE (e2 (dm uS) (ae 1) (e1 iR (ae 0)))) (da (e2 bT (ae 0) (ae 1))) dD) (da (eC (.int 0))))
noncomputable def aV:List PyData->R PyData:=ej 2 (dh)
noncomputable def eD (aV:List PyData->R PyData):Fs :=
  (aJ (aR 2 (e2 cH (e2 bX (e2 bp (e2 bp (bh aV (ai (ae 0) (ai (ae 1) aO))) (e2 bX (eC (.int 7919)) (ae 1))) (eC (.int 1))) (eC (.int 48271))) (eC (.int 2147483647)))) (da (e2 cH (e2 bp (e2 bp (e2 bX (ae 2) (ae 2)) (e2 bX (eC (.int 7)) (ae 2))) (ae 1)) (eC (.int 2147483629)))))
noncomputable def av:List PyData->R PyData:=ej 3 (eD aV)
noncomputable def eB (ao:List PyData->R PyData):Fs :=
  (aJ (fG 2 (eC (.dict []))) (aJ (gv (jU (eK (ai (e2 bp (e2 bp (eC (.int 1)) (e2 cH (ae 0) (eC (.int 3)))) (e2 bX (eC (.int 20)) (e1 gO (e2 (l7) (e2 cH (e2 iQ (ae 0) (eC (.int 3))) (eC (.int 29))) (eC (.int 7)))))) aO)) (aI 3) (re 2 (e2 cH (bh ao (ai (ae 0) (ai (ae 3) aO))) (ae 1)) (eC (.bool true))))) (da (e1 dn (e1 fO (fQ 2))))))
noncomputable def bu:List PyData->R PyData:=ej 4 (eB ao)
noncomputable def eE (ao:List PyData->R PyData) (bu:List PyData->R PyData):Fs :=
  (aJ (aR 3 (e2 gi (e2 cH (e2 iQ (ae 0) (eC (.int 26))) (eC (.int 9))) (eC (.int 4)))) (aJ (nD (tE (e2 (l7) (e2 cH (e2 iQ (ae 0) (eC (.int 234))) (eC (.int 11))) (eC (.int 3)))) (aR 3 (e2 gi (e2 cH (e2 iQ (ae 0) (eC (.int 26))) (eC (.int 41))) (eC (.int 20)))) dD) (da (ls (ai (e2 cH (ae 0) (eC (.int 2))) (ai (e2 cH (e2 iQ (ae 0) (eC (.int 2))) (e2 bp (ae 2) (eC (.int 1)))) (ai (ae 3) (ai (bh bu (ai (bh ao (ai (ae 0) (ai (eC (.int 9)) aO))) (ai (ae 1) aO))) aO))))))))
noncomputable def bi:List PyData->R PyData:=ej 4 (eE ao bu)
noncomputable def dE (av:List PyData->R PyData) (bi:List PyData->R PyData):Fs :=
  (aJ (aR 2 (bh av (ai (ae 0) (ai (eC (.int 0)) aO)))) (aJ (aR 3 (e2 bp (eC (.int 1)) (e2 cH (ae 2) (e2 iS (ae 1) (e2 gh (eC (.int 4)) (e1 iR (ae 0))))))) (aJ (aR 4 (e2 bT (iU (ai (eC (.int 1)) (ai (eC (.int 2)) (ai (eC (.int 3)) (ai (eC (.int 5)) (ai (eC (.int 12)) (ai (eC (.int 12)) aO))))))) (e2 cH (e2 iQ (ae 2) (eC (.int 24))) (eC (.int 6))))) (da (e1 dn (bq (eK (ai (ae 3) aO)) 1 [0,3,4] (aI 0) (fun _=>.ok true) (bh bi (ai (bh av (ai (ae 1) (ai (e2 bp (eC (.int 3)) (ae 0)) aO))) (ai (ae 2) (ai (ae 3) aO))))))))))
noncomputable def aS:List PyData->R PyData:=ej 5 (dE av bi)
noncomputable def di:Fs :=
  (aJ (aR 1 (e1 mV (bq (c7 (ae 0)) 1 [] (aI 0) (fun _=>.ok true) (e2 gh (eC (.int 0)) (e1 iT (e2 bT (ae 0) (eC (.int 2)))))))) (aJ (aR 2 (bq (c7 (ae 0)) 1 [] (aI 0) (fun _=>.ok true) (e2 gh (eC (.int 0)) (e1 iT (e2 bT (ae 0) (eC (.int 2))))))) (aJ (aR 3 (eC (.bool true))) (aJ (gv (gw 1000000 (tE (ae 3)) (aJ (fG 4 (iU aO)) (aJ (gv (jU (c7 (ae 0)) (aI 5) (aJ (aR 6 (bq (c7 (e2 bT (ae 5) (eC (.int 3)))) 1 [2] (aI 0) (fun _=>.ok true) (e2 bT (ae 1) (ae 0)))) (aJ (aR 7 (e2 bT (iU (ai (e1 jb (ae 6)) (ai (e1 ja (ae 6)) aO))) (e2 bT (ae 5) (eC (.int 0))))) (e8 4 (e2 bp (e2 iS (e2 bp (ae 1) (eC (.int 1))) (e2 gh (eC (.int 0)) (e2 gi (ae 7) (e2 bT (ae 5) (eC (.int 2)))))) (e2 bX (e2 bp (ae 1) (eC (.int 1))) (e1 gO (e2 (dm gU) (ae 7) (ae 1)))))))))) (aJ (wd 4 (aR 4 (bq (c7 (ae 4)) 1 [1] (aI 0) (fun _=>.ok true) (e2 iS (ae 0) (e2 bp (ae 1) (eC (.int 1))))))) (aJ (aR 3 (e2 (k9) (fQ 4) (ae 2))) (aR 2 (ae 4)))))))) (da (e1 dn (bq (c7 (ae 2)) 1 [1] (aI 0) (fun _=>.ok true) (e2 bT (iU (ai (ae 0) (ai (eC .none) aO))) (e1 gO (e2 (dm gU) (ae 0) (ae 1)))))))))))
noncomputable def aW:List PyData->R PyData:=ej 8 (di)
noncomputable def cN:Fs :=
  (da (jc 1 (e2 bT (ae 0) (eC (.int 3)))))
noncomputable def aD:List PyData->R PyData:=ej 2 (cN)
noncomputable def dj:Fs :=
  (da (e1 mV (bq (c7 (ae 0)) 1 [] (aI 0) (fun _=>.ok true) (e2 gh (eC (.int 0)) (e1 iT (e2 bT (ae 0) (eC (.int 2))))))))
noncomputable def aX:List PyData->R PyData:=ej 1 (dj)
noncomputable def c5:Fs :=
  (aJ (aR 3 (bq (c7 (e2 bT (ae 0) (eC (.int 3)))) 1 [1] (aI 0) (fun _=>.ok true) (e2 bT (ae 1) (ae 0)))) (aJ (aR 4 (rC (tE (e2 (l7) (e2 bT (ae 0) (eC (.int 0))) (eC (.int 0)))) (e1 jb (ae 3)) (e1 ja (ae 3)))) (aJ (nD (tE (e2 (dm gU) (ae 4) (ae 2))) (da (ae 4)) dD) (da (e2 iS (e2 bp (ae 2) (eC (.int 1))) (e2 gh (eC (.int 0)) (e2 gi (ae 4) (e2 bT (ae 0) (eC (.int 2))))))))))
noncomputable def aA:List PyData->R PyData:=ej 5 (c5)
noncomputable def cB (aA:List PyData->R PyData):Fs :=
  (aJ (aR 2 (eC .none)) (aJ (aR 3 (bq (c7 (ae 0)) 1 [] (aI 0) (fun _=>.ok true) (eC (.int 0)))) (aJ (gv (gw 1000000 (tE (e2 (k9) (ae 3) (ae 2))) (aJ (aR 2 (ae 3)) (aR 3 (bq (c7 (ae 0)) 1 [2,1] (aI 0) (fun _=>.ok true) (bh aA (ai (ae 0) (ai (ae 1) (ai (ae 2) aO))))))))) (da (ae 2)))))
noncomputable def aE:List PyData->R PyData:=ej 4 (cB aA)
noncomputable def cO (aD:List PyData->R PyData) (aX:List PyData->R PyData) (aE:List PyData->R PyData):Fs :=
  (aJ (aR 1 (bh aX (ai (ae 0) aO))) (aJ (aR 2 (bh aE (ai (ae 0) (ai (ae 1) aO)))) (aJ (aR 3 (e1 dn (bq (c7 (ae 2)) 1 [1] (aI 0) (fun _=>.ok true) (rC (tE (e2 (dm gU) (ae 0) (ae 1))) (eC .none) (ae 0))))) (aJ (aR 4 (e1 dn (bq (c7 (ae 0)) 1 [2] (aI 0) (fun _=>.ok true) (rC (tE (e2 (l7) (e2 bT (ae 0) (eC (.int 0))) (eC (.int 0)))) (bh aD (ai (ae 0) (ai (ae 1) aO))) (eC .none))))) (da (ls (ai (ae 3) (ai (ae 4) aO))))))))
noncomputable def aK:List PyData->R PyData:=ej 5 (cO aD aX aE)
noncomputable def nN (ao:List PyData->R PyData) (aS:List PyData->R PyData) (av:List PyData->R PyData) (aW:List PyData->R PyData) (aK:List PyData->R PyData):Fs :=
  (aJ (aR 1 (bh aS (ai (ae 0) (ai (eC (.int 5)) aO)))) (aJ (nD (tE (e2 (dm gU) (e2 cH (bh av (ai (ae 0) (ai (eC (.int 2)) aO))) (eC (.int 3))) (eC (.int 0)))) (aR 1 (e1 dn (bq (c7 (bh aS (ai (ae 0) (ai (eC (.int 8)) aO)))) 1 [] (aI 0) (fun _=>.ok true) (e2 bp (e2 bp (rD (ae 0) gF (gG (eC (.int 2)))) (ls (ai (e2 gi (e2 cH (e2 bT (ae 0) (eC (.int 2))) (eC (.int 5))) (eC (.int 2))) aO))) (rD (ae 0) (gG (eC (.int 3))) gF))))) dD) (aJ (rd (lV 2 3) (bh aK (ai (ae 1) aO))) (aJ (nD (tE (e2 (k9) (ae 2) (bh aW (ai (ae 1) aO)))) (da (eC (.bool false))) dD) (aJ (gv (jU (eK (ai (e1 iR (ae 1)) aO)) (aI 4) (aJ (aR 5 (e2 bT (ae 2) (ae 4))) (aJ (aR 6 (ae 4)) (gv (jU (eK (ai (e2 bX (eC (.int 60)) (e1 gO (e2 (h9) (ae 5) (eC .none)))) aO)) (aI 7) (aJ (aR 5 (e2 bp (ae 5) (e2 bT (e2 bT (ae 1) (ae 6)) (eC (.int 2))))) (aJ (nD (tE (e2 (dm uS) (ae 5) (eC (.int 0)))) (da (eC (.bool false))) dD) (aJ (aR 8 (e2 bT (e2 bT (e2 bT (ae 1) (ae 6)) (eC (.int 3))) (e2 cH (bh ao (ai (bh av (ai (ae 0) (ai (eC (.int 1)) aO))) (ai (e2 bp (e2 bX (eC (.int 61)) (ae 4)) (ae 7)) aO))) (e1 iR (e2 bT (e2 bT (ae 1) (ae 6)) (eC (.int 3))))))) (aJ (nD (tE (e2 (l7) (e2 bT (e2 bT (ae 1) (ae 6)) (eC (.int 0))) (eC (.int 0)))) (aR 8 (e2 bT (ae 3) (ae 6))) dD) (aR 6 (ae 8)))))))))))) (da (eC (.bool true))))))))
noncomputable def j7:List PyData->R PyData:=ej 9 (nN ao aS av aW aK)
end G
end
namespace G
open PySem PySem.Spec PyProof.Rows L2 D2
theorem p9 (ns:List Int) {k:Int} (hk:0<=k):∃ v,aV [ff ns,.int k]=.ok (.int v):=by
  unfold aV dh;by_cases h:k < ns.length
  · refine ⟨ns[k.toNat]'(by omega),?_⟩;have hx:=oj (xs:=ns.map PyData.int) (i:=k) hk (by simpa using h);rw [dJ];simp [h,hx]
  · refine ⟨0,?_⟩;rw [dJ];simp [h]
theorem fS (ns:List Int) {k:Int} (hk:0<=k):∃ v,av [ff ns,.int k]=.ok (.int v)/\0<=v/\v < 2147483629:=by
  obtain ⟨c,hc⟩:=p9 ns hk;unfold av eD;have m1:bX (.int 7919) (.int k)=.ok (.int (7919*k)):=cQ (.inl (by omega));have m2:bX (.int (c+7919*k+1)) (.int 48271)=.ok (.int ((c+7919*k+1)*48271)):=cQ (.inr (by omega));generalize hd:(c+7919*k+1)*48271%2147483647=d;have hd0:0<=d:=by omega
  have hd1:d < 2147483647:=by omega
  have m3:bX (.int d) (.int d)=.ok (.int (d*d)):=cQ (.inl (by omega));have m4:bX (.int 7) (.int d)=.ok (.int (7*d)):=cQ (.inl (by omega));refine ⟨(d*d+7*d+k)%2147483629,?_,by omega,by omega⟩;rw [dJ];simp [hc,m1,m2,hd,m3,m4,List.replicate]
theorem ia (n k:Int):∃ v,ao [.int n,.int k]=.ok (.int v)/\0<=v/\v < 2147483629:=by
  unfold ao eA;have m1:bX (.int 104729) (.int k)=.ok (.int (104729*k)):=cQ (.inl (by omega));have m2:bX (.int (n+104729*k+17)) (.int 69621)=.ok (.int ((n+104729*k+17)*69621)):=cQ (.inr (by omega));generalize hd:(n+104729*k+17)*69621%2147483647=d;have hd0:0<=d:=by omega
  have hd1:d < 2147483647:=by omega
  have m3:bX (.int d) (.int d)=.ok (.int (d*d)):=cQ (.inl (by omega));have m4:bX (.int 3) (.int d)=.ok (.int (3*d)):=cQ (.inl (by omega));refine ⟨(d*d+3*d+k)%2147483629,?_,by omega,by omega⟩;rw [dJ];simp [m1,m2,hd,m3,m4,List.replicate]
theorem ig (n c:Int) (hc:1<=c):∀ (ds:List PyData) (m:Nat) (kvs:List (PyData×PyData)) (x:bK),lg c m kvs->(∀ d∈ds,∃ k,d=.int k)->m+ds.length<=1000 ->
    ∃ kvs' x',lg c (m+ds.length) kvs'/\dY (aI 3) (re 2 (e2 cH (bh ao (ai (ae 0) (ai (ae 3) aO))) (ae 1)) (eC (.bool true))) ds [.val (.int n),.val (.int c),.own (.dict kvs),x]
      = .ok (.nx [.val (.int n),.val (.int c),.own (.dict kvs'),x'])
  | [],m,kvs,x,hk,_,_=>⟨kvs,x,hk,by rw [eJ]⟩
  | d::ds,m,kvs,x,hk,hi,hl=>by
    obtain ⟨k,rfl⟩:=hi d List.mem_cons_self;obtain ⟨v,hv,v0,v1⟩:=ia n k;have hk':=hk.put (k:=v%c) (Int.emod_nonneg _ (by omega)) (Int.emod_lt_of_pos _ (by omega)) (.bool true);obtain ⟨kvs',x',h1,h2⟩:=ig n c hc ds (m+1) _ (.val (.int k)) hk' (fun d hd=>hi d (List.mem_cons_of_mem _ hd)) (by simp at hl;omega);refine ⟨kvs',x',by rw [List.length_cons];simpa [Nat.add_comm,Nat.add_left_comm,Nat.add_assoc] using h1,?_⟩;have hlen:=hk.len;have hsz:kvs.length < sizeLine:=Nat.lt_of_le_of_lt (show kvs.length<=1000 by simp at hl;omega) (by decide);have hc':0 < c:=by omega
    rw [eY,<- h2];simp [re,hv,hc',dU,hsz]
theorem nk {n c:Int} (hn:0<=n) (hc:1<=c):∃ ns:List Int,bu [.int n,.int c]=.ok (.tuple (ns.map .int))/\(∀ x∈ns,0<=x/\x < c)/\ns≠[]/\ns.Pairwise (· < ·):=by
  unfold bu eB;have m1:∀ k:Int,bX (.int 20) (.int k)=.ok (.int (20*k)):=fun k=>cQ (.inl (by omega))
  generalize hN:(1+n%3+20*(if n / 3%29=7 then 1 else 0):Int)=N;have hN0:1<=N:=by split at hN <;> omega
  have hN1:N<=23:=by split at hN <;> omega
  obtain ⟨kvs,x,hk,hf⟩:=ig n c hc (bg 0 N.toNat) 0 [] .non ⟨[],rfl,by simp,by simp,.inl rfl,by simp⟩ (kK _ _) (by rw [dP];omega);obtain ⟨ns,e,hb,hl,hz,nd⟩:=hk.ex;rw [dP] at hl hz;have hi:bG (kvs.map (·.1))=some ns:=by rw [e,cI]
  have hs:fO (.dict kvs)=.ok (.list ((cU ns).map PyData.int)):=by
    show (match bG (kvs.map (·.1)) with | some ns=>if ns.length < 64 then R.ok (PyData.list ((cU ns).map PyData.int)) else .no | none=>.no)=_;rw [hi];exact if_pos (by omega)
  have hr:-(2 ^ 62)<=N/\N < 2 ^ 62:=by omega
  refine ⟨cU ns,?_,fun x hx=>hb x ((cE ns).mem_iff.mp hx),?_,nH (dR ns) ((cE ns).nodup_iff.mpr nd)⟩
  · rw [dJ];have hg:jT [.int N]=.ok (bg 0 N.toNat):=by
      show (if -(2 ^ 62)<=N/\N < 2 ^ 62 then R.ok (bg 0 N.toNat) else .no)=_;rw [if_pos hr]
    simp [fV,fN,m1,List.replicate,hN,hg,hf,hs]
  · intro z;have:=(cE ns).length_eq;rw [z] at this;rcases hz with q | q
    · omega
    · exact q (List.eq_nil_of_length_eq_zero this.symm)
theorem np {n c h:Int} (hn:0<=n) (hc:1<=c) (h0:0<=h):∃ p:P4,bi [.int n,.int c,.int h]=.ok p.d/\Pl c h p:=by
  obtain ⟨v,hv,v0,v1⟩:=ia n 9;obtain ⟨ns,hg,hb,hne,hso⟩:=nk (n:=v) (c:=c) v0 hc;unfold bi eE;have hh:0 < h+1:=by omega
  have s4:4<=sizeLine:=by decide
  have a1:=Int.emod_nonneg (n / 2) (show h+1≠0 by omega);have a2:=Int.emod_lt_of_pos (n / 2) hh;by_cases hq:n / 234%11=3
  · refine ⟨⟨n%2,n / 2%(h+1),n / 26%41-20,ns⟩,?_,⟨by dsimp only;omega,by dsimp only;omega,a1,by dsimp only;omega,by dsimp only;omega,by dsimp only;omega,hne,hso,hb⟩⟩;rw [dJ];simp [hh,fN,hq,hv,hg,s4,P4.d]
  · refine ⟨⟨n%2,n / 2%(h+1),n / 26%9-4,ns⟩,?_,⟨by dsimp only;omega,by dsimp only;omega,a1,by dsimp only;omega,by dsimp only;omega,by dsimp only;omega,hne,hso,hb⟩⟩;rw [dJ];simp [hh,fN,hq,hv,hg,s4,P4.d]
theorem ku (f:Fe) (ρ:au) (i:Nat) (P:P4->Prop):∀ ds:List PyData,(∀ d∈ds,∃ p:P4,f (ρ.set i (.val d))=.ok p.d/\P p)->∃ ps:List P4,bE (aI i) (fun _=>.ok true) f ρ ds=.ok (ps.map P4.d)/\ps.length=ds.length/\∀ p∈ps,P p
  | [],_=>⟨[],gf ..,rfl,by simp⟩
  | d::ds,h=>by
    obtain ⟨x,h1,h2⟩:=h d List.mem_cons_self;obtain ⟨xs,h3,h4,h5⟩:=ku f ρ i P ds fun d hd=>h d (List.mem_cons_of_mem _ hd)
    refine ⟨x::xs,?_,by simp [h4],fun y hy=>?_⟩
    · rw [fB,h1,h3];rfl
    · rcases List.mem_cons.mp hy with rfl | hy
      · exact h2
      · exact h5 y hy
theorem io (ns:List Int) {most:Int} (hm0:1<=most) (hm1:most<=24):∃ (ps:List P4) (hi:Int),aS [ff ns,.int most]=.ok (gD ps)/\(∀ p∈ps,Pl ps.length hi p)/\1<=ps.length/\(ps.length:Int)<=most/\0<=hi/\hi<=12:=by
  obtain ⟨v,hv,v0,v1⟩:=fS ns (k:=0) (by omega);unfold aS dE;generalize hm:(if (if (ns.length:Int) > 4 then (ns.length:Int) else 4) < most then (if (ns.length:Int) > 4 then (ns.length:Int) else 4) else most)=m;have m0:0 < m:=by split at hm <;> split at hm <;> omega
  have m1:m<=most:=by split at hm <;> split at hm <;> omega
  generalize hc:1+v%m=c;have c0:1<=c:=by have:=Int.emod_nonneg v (show m≠0 by omega);omega
  have c1:c<=most:=by have:=Int.emod_lt_of_pos v m0;omega
  have hix:∃ h,bT (.list [.int 1,.int 2,.int 3,.int 5,.int 12,.int 12]) (.int (v / 24%6))=.ok (.int h)/\0<=h/\h<=12:=by
    obtain ⟨x,hx,e⟩:=qd (xs:=[.int 1,.int 2,.int 3,.int 5,.int 12,.int 12]) (i:=v / 24%6) (by omega) (by simp;omega);rw [e];simp at hx;rcases hx with rfl | rfl | rfl | rfl | rfl <;> exact ⟨_,rfl,by decide,by decide⟩
  obtain ⟨h,hh,h0,h1⟩:=hix;have s6:6<=sizeLine:=by decide
  have hr:jT [.int c]=.ok (bg 0 c.toNat):=by
    show (if -(2 ^ 62)<=c/\c < 2 ^ 62 then R.ok (bg 0 c.toNat) else .no)=_;rw [if_pos (by omega)]
  obtain ⟨xs,e1,e2,e3⟩:=ku (bh bi (ai (bh av (ai (ae 1) (ai (e2 bp (eC (.int 3)) (ae 0)) aO))) (ai (ae 2) (ai (ae 3) aO)))) (ap 1 [0,3,4] [.val (ff ns),.val (.int most),.val (.int v),.val (.int c),.val (.int h)]) 0 (Pl c h) (bg 0 c.toNat) fun d hd=>by
    unfold bg at hd;obtain ⟨k,_,rfl⟩:=List.mem_map.mp hd;obtain ⟨w,hw,w0,w1⟩:=fS ns (k:=3+(0+(k:Int))) (by omega);obtain ⟨d,hd1,hd2⟩:=np (n:=w) (c:=c) (h:=h) w0 c0 h0;refine ⟨d,?_,hd2⟩;simp at hw;simp [ap,List.replicate,hw,hd1]
  rw [dP] at e2;have ec:(xs.length:Int)=c:=by omega
  refine ⟨xs,h,?_,by rw [ec];exact e3,by omega,by omega,h0,h1⟩;rw [dJ];simp [hv,hm,m0,hc,s6,hh,List.replicate,bR,hr,dP,cj (show c.toNat<=1000 by omega),e1]
theorem gA:∀ ns:List Int,PyData.depthAll (ns.map .int)=0
  | []=>by simp [PyData.depthAll]
  | n::ns=>by simp [PyData.depthAll,PyData.depth,gA ns]
theorem ii (ns:List Int):PyData.canLayAll0 (ns.map .int)=true:=hU fun x hx=>by
  obtain ⟨i,_,rfl⟩:=List.mem_map.mp hx;exact kD i
theorem kA:∀ ns ms:List Int,PyData.eqvAll (ns.map .int) (ms.map .int)=decide (ns=ms)
  | [],[]=>by simp [PyData.eqvAll]
  | [],_::_=>by simp [PyData.eqvAll]
  | _::_,[]=>by simp [PyData.eqvAll]
  | n::ns,m::ms=>by
    simp only [List.map_cons,PyData.eqvAll,kA ns ms,mh];by_cases h:n=m <;> by_cases h2:ns=ms <;> simp [h,h2]
theorem qj (ns ms:List Int):jI (.list (ns.map .int)) (.list (ms.map .int))=true:=by
  unfold jI;simp [PyData.canLay0,ii,PyData.depth,gA]
theorem rM (ns ms:List Int):k9 (.list (ns.map .int)) (.list (ms.map .int))=.ok (.bool (!decide (ns=ms))):=by
  unfold k9;rw [if_pos (qj ns ms)];simp only [PyData.eqv,kA]
theorem iu (c:Nat):bg 0 c=((List.range c).map fun (k:Nat)=>(k:Int)).map .int:=by
  unfold bg;rw [List.map_map];apply List.map_congr_left;intro k _;simp
theorem uM {ps:List P4} {i:Int} (h0:0<=i) (h1:i < ps.length):bT (gD ps) (.int i)=.ok (ps[i.toNat]'(by omega)).d:=by
  rw [l8 h0 (by simpa using h1)];simp
theorem jP (p:P4):bT p.d (.int 3)=.ok (.tuple (p.ns.map .int)):=rfl
theorem fE (p:P4):bT p.d (.int 0)=.ok (.int p.w):=rfl
noncomputable def bZ (cs:List Int) (i:Int):Int:=cs.getD i.toNat 0
noncomputable def mn:List Int->Int
  | []=>0
  | n::ns=>lC n ns
noncomputable def mx:List Int->Int
  | []=>0
  | n::ns=>lA n ns
theorem mr {ns:List Int} (h:ns≠[]):mn ns∈ns/\∀ a∈ns,mn ns<=a:=by
  cases ns with
  | nil=>exact absurd rfl h
  | cons n ns=>exact jl n ns
theorem mv {ns:List Int} (h:ns≠[]):mx ns∈ns/\∀ a∈ns,a<=mx ns:=by
  cases ns with
  | nil=>exact absurd rfl h
  | cons n ns=>exact jj n ns
noncomputable def eW (cs:List Int) (p:P4):Int:=if p.w=0 then mn (p.ns.map (bZ cs)) else mx (p.ns.map (bZ cs))
noncomputable def pJ (M x:Int):Int:=if x < M+1 then x else M+1
noncomputable def cK (x:Int):Int:=if x > 0 then x else 0
noncomputable def gN (M a g:Int):Int:=if M < a then a else pJ M (cK (a-g))
noncomputable def k8 (M:Int) (cs:List Int) (p:P4):Int:=gN M (eW cs p) p.g
noncomputable def gH (M:Int) (ps:List P4) (cs:List Int):List Int:=ps.map (k8 M cs)
noncomputable def bB (M:Int) (ps:List P4):Nat->List Int
  | 0=>ps.map fun _=>0
  | k+1=>gH M ps (bB M ps k)
structure Bd (M:Int) (n:Nat) (cs:List Int):Prop where
  len:cs.length=n
  bd:∀ x∈cs,0<=x/\x<=M+1
theorem Bd.at {M:Int} {n:Nat} {cs:List Int} (h:Bd M n cs) (hM:0<=M) (i:Int):0<=bZ cs i/\bZ cs i<=M+1:=by
  unfold bZ;rw [List.getD_eq_getElem?_getD];cases e:cs[i.toNat]? with
  | none=>simp;omega
  | some x=>exact h.bd x (List.mem_of_getElem? e)
theorem gn {ns:List Int} (h:ns≠[]) (f:Int->Int):ns.map f≠[]:=fun z=>h (List.map_eq_nil_iff.mp z)
theorem cV {cs:List Int} {p:P4} (h:p.ns≠[]):∃ g∈p.ns,eW cs p=bZ cs g:=by
  unfold eW;split
  · obtain ⟨g,h1,h2⟩:=List.mem_map.mp (mr (gn h (bZ cs))).1;exact ⟨g,h1,h2.symm⟩
  · obtain ⟨g,h1,h2⟩:=List.mem_map.mp (mv (gn h (bZ cs))).1;exact ⟨g,h1,h2.symm⟩
theorem nX {cs:List Int} {p:P4} (h:p.ns≠[]) (hw:p.w=0):∀ g∈p.ns,eW cs p<=bZ cs g:=fun g hg=>by
  unfold eW;rw [if_pos hw];exact (mr (gn h (bZ cs))).2 _ (List.mem_map_of_mem hg)
theorem nV {cs:List Int} {p:P4} (h:p.ns≠[]) (hw:p.w≠0):∀ g∈p.ns,bZ cs g<=eW cs p:=fun g hg=>by
  unfold eW;rw [if_neg hw];exact (mv (gn h (bZ cs))).2 _ (List.mem_map_of_mem hg)
theorem p0 {M a g:Int} (hM:0<=M) (h0:0<=a) (h1:a<=M+1):0<=gN M a g/\gN M a g<=M+1:=by
  unfold gN pJ cK;split
  · omega
  · split <;> split <;> omega
theorem mL {M a b g:Int} (hM:0<=M) (h0:0<=a) (h1:a<=b) (h2:b<=M+1):gN M a g<=gN M b g:=by
  unfold gN pJ cK;split <;> split <;> (try split) <;> (try split) <;> (try split) <;> (try split) <;> omega
structure k7 (ps:List P4):Prop where
  ne:∀ p∈ps,p.ns≠[]
  go:∀ p∈ps,∀ x∈p.ns,0<=x/\x < ps.length
  g0:∀ p∈ps,-20<=p.g
  g1:∀ p∈ps,p.g<=20
  w0:∀ p∈ps,0<=p.w
  w1:∀ p∈ps,p.w<=1
  n24:ps.length<=24
  l24:∀ p∈ps,p.ns.length<=24
section
variable {M:Int} {ps:List P4} (hM:0<=M) (hp:∀ p∈ps,p.ns≠[])
theorem tq (hM:0<=M) (hp:∀ p∈ps,p.ns≠[]) {n:Nat} {cs:List Int} (h:Bd M n cs):Bd M ps.length (gH M ps cs):=⟨by unfold gH;simp,fun x hx=>by
  obtain ⟨p,h1,rfl⟩:=List.mem_map.mp hx;obtain ⟨g,_,e⟩:=cV (cs:=cs) (hp p h1);unfold k8;rw [e];exact p0 hM (h.at hM g).1 (h.at hM g).2⟩
theorem de (hM:0<=M) (hp:∀ p∈ps,p.ns≠[]):∀ k,Bd M ps.length (bB M ps k)
  | 0=>⟨by simp [bB],fun x hx=>by
      obtain ⟨_,_,rfl⟩:=List.mem_map.mp hx;omega⟩
  | k+1=>tq hM hp (de hM hp k)
theorem nY {cs ds:List Int} {p:P4} (h:∀ i,bZ cs i<=bZ ds i) (hne:p.ns≠[]):eW cs p<=eW ds p:=by
  by_cases hw:p.w=0
  · obtain ⟨g,hg,e⟩:=cV (cs:=ds) hne;rw [e];exact Int.le_trans (nX hne hw g hg) (h g)
  · obtain ⟨g,hg,e⟩:=cV (cs:=cs) hne;rw [e];exact Int.le_trans (h g) (nV hne hw g hg)
theorem fL {f:P4->Int} (i:Int):bZ (ps.map f) i=(ps[i.toNat]?.map f).getD 0:=by
  unfold bZ;rw [List.getD_eq_getElem?_getD,List.getElem?_map]
theorem pq (hM:0<=M) (hp:∀ p∈ps,p.ns≠[]) {n m:Nat} {cs ds:List Int} (b1:Bd M n cs) (b2:Bd M m ds) (h:∀ i,bZ cs i<=bZ ds i) (i:Int):bZ (gH M ps cs) i<=bZ (gH M ps ds) i:=by
  unfold gH;rw [fL,fL];cases e:ps[i.toNat]? with
  | none=>simp
  | some p =>
    have hm:=List.mem_of_getElem? e;show k8 M cs p<=k8 M ds p;unfold k8;obtain ⟨g,_,e1⟩:=cV (cs:=cs) (hp p hm);obtain ⟨g',_,e2⟩:=cV (cs:=ds) (hp p hm);exact mL hM (by rw [e1];exact (b1.at hM g).1) (nY h (hp p hm)) (by rw [e2];exact (b2.at hM g').2)
theorem ml (hM:0<=M) (hp:∀ p∈ps,p.ns≠[]):∀ k i,bZ (bB M ps k) i<=bZ (bB M ps (k+1)) i
  | 0,i=>by
    have h1:=((de hM hp 1).at hM i).1;have h0:bZ (bB M ps 0) i=0:=by
      unfold bB;rw [fL];cases ps[i.toNat]? <;> rfl
    rw [h0];exact h1
  | k+1,i=>pq hM hp (de hM hp k) (de hM hp (k+1)) (fun i=>ml hM hp k i) i
theorem pz:∀ (cs ds:List Int),cs.length=ds.length->(∀ i:Nat,cs.getD i 0<=ds.getD i 0)->cs.sum<=ds.sum/\(cs≠ds->cs.sum < ds.sum)
  | [],[],_,_=>⟨Int.le_refl _,fun h=>absurd rfl h⟩
  | [],_::_,h,_=>by simp at h
  | _::_,[],h,_=>by simp at h
  | c::cs,d::ds,h,hh=>by
    have h0:=hh 0;simp at h0;obtain ⟨h1,h2⟩:=pz cs ds (by simpa using h) fun i=>by simpa using hh (i+1)
    rw [List.sum_cons,List.sum_cons];refine ⟨by omega,fun ne=>?_⟩;by_cases e:c=d
    · subst e;have:=h2 fun z=>ne (by rw [z])
      omega
    · omega
theorem px {B:Int}:∀ (cs:List Int),(∀ x∈cs,x<=B)->cs.sum<=cs.length*B
  | [],_=>by simp
  | c::cs,h=>by
    have h1:=h c List.mem_cons_self;have h2:=px cs fun x hx=>h x (List.mem_cons_of_mem _ hx)
    rw [List.sum_cons,List.length_cons,Int.natCast_succ,Int.add_mul];omega
theorem mj (hM:0<=M) (hp:∀ p∈ps,p.ns≠[]) (k:Nat) (ne:bB M ps (k+1)≠bB M ps k):(bB M ps k).sum+1<=(bB M ps (k+1)).sum:=by
  have:=(pz (bB M ps k) (bB M ps (k+1)) (by rw [(de hM hp k).len,(de hM hp (k+1)).len]) fun i=>by
    have:=ml hM hp k (i:Int);unfold bZ at this;simpa using this).2 (Ne.symm ne)
  omega
theorem oF (hM:0<=M) (hp:∀ p∈ps,p.ns≠[]) (hM2:M<=1000) (hn:ps.length<=24) (k:Nat):(bB M ps k).sum<=30000:=by
  have b:=de hM hp k;have h:=px (B:=1001) (bB M ps k) fun x hx=>by have:=(b.bd x hx).2;omega
  rw [b.len] at h;omega
theorem mm (hM:0<=M) (hp:∀ p∈ps,p.ns≠[]):∀ k,0<=(bB M ps k).sum:=fun k=>by
  have b:=de hM hp k;have:∀ cs:List Int,(∀ x∈cs,0<=x)->0<=cs.sum:=by
    intro cs;induction cs with
    | nil=>intro _;simp
    | cons c cs ih =>
      intro h;have h1:=h c List.mem_cons_self;have h2:=ih fun x hx=>h x (List.mem_cons_of_mem _ hx)
      rw [List.sum_cons];omega
  exact this _ fun x hx=>(b.bd x hx).1
theorem jL {k:Nat} (h:bB M ps (k+1)=bB M ps k):∀ m,bB M ps (k+m)=bB M ps k
  | 0=>rfl
  | m+1=>by
    have e:bB M ps (k+(m+1))=gH M ps (bB M ps (k+m)):=rfl;rw [e,jL h m];exact h
theorem qr {j k:Nat} (h1:bB M ps (j+1)=bB M ps j) (h2:bB M ps (k+1)=bB M ps k):bB M ps j=bB M ps k:=by
  rcases Nat.le_total j k with h | h
  · obtain ⟨m,rfl⟩:=Nat.exists_eq_add_of_le h;exact (jL h1 m).symm
  · obtain ⟨m,rfl⟩:=Nat.exists_eq_add_of_le h;exact jL h2 m
end
noncomputable def aT (ps:List P4):Int:=(ps.map fun p=>cK (-p.g)).sum
theorem fR:∀ (ps:List P4),(∀ p∈ps,-20<=p.g)->0<=aT ps/\aT ps<=20*ps.length/\∀ p∈ps,cK (-p.g)<=aT ps
  | [],_=>by simp [aT]
  | p::ps,h=>by
    obtain ⟨h1,h2,h3⟩:=fR ps fun q hq=>h q (List.mem_cons_of_mem _ hq)
    have hg:=h p List.mem_cons_self;have e:aT (p::ps)=cK (-p.g)+aT ps:=by unfold aT;rw [List.map_cons,List.sum_cons]
    have t0:0<=cK (-p.g)/\cK (-p.g)<=20:=by unfold cK;split <;> omega
    rw [e,List.length_cons];refine ⟨by omega,by omega,fun q hq=>?_⟩;rcases List.mem_cons.mp hq with rfl | hq
    · omega
    · have:=h3 q hq;omega
theorem i5 (kk:Nat->Int):∀ k,argBest (fun i j=>decide (kk i < kk j)) k<=k/\(∀ j,j<=k->kk (argBest (fun i j=>decide (kk i < kk j)) k)<=kk j)/\∀ j,j < argBest (fun i j=>decide (kk i < kk j)) k->kk (argBest (fun i j=>decide (kk i < kk j)) k) < kk j
  | 0=>by
    refine ⟨Nat.le_refl _,fun j hj=>?_,fun j hj=>?_⟩
    · have e:j=0:=by omega
      subst e;exact Int.le_refl _
    · simp [argBest] at hj
  | k+1=>by
    obtain ⟨h1,h2,h3⟩:=i5 kk k;simp only [argBest];by_cases h:kk (k+1) < kk (argBest (fun i j=>decide (kk i < kk j)) k)
    · rw [if_pos (decide_eq_true h)];refine ⟨Nat.le_refl _,fun j hj=>?_,fun j hj=>?_⟩
      · by_cases e:j=k+1
        · rw [e];exact Int.le_refl _
        · have:=h2 j (by omega);omega
      · have:=h2 j (by omega);omega
    · rw [if_neg (by simpa using h)];refine ⟨by omega,fun j hj=>?_,h3⟩;by_cases e:j=k+1
      · rw [e];omega
      · exact h2 j (by omega)
noncomputable def rA (cs:List Int) (ns:List Int):Nat:=argBest (fun i j=>decide (dN (cs.map .int) ((ns.map PyData.int).getD i .none) < dN (cs.map .int) ((ns.map PyData.int).getD j .none))) (ns.length-1)
noncomputable def lZ (cs:List Int) (ns:List Int):Int:=ns.getD (rA cs ns) 0
theorem qx (cs:List Int) (j:Int):dN (cs.map .int) (.int j)=bZ cs j:=by
  show (match (cs.map PyData.int)[j.toNat]? with | some (.int k)=>k | _=>0)=_;unfold bZ;rw [List.getElem?_map,List.getD_eq_getElem?_getD];cases cs[j.toNat]? <;> rfl
theorem kC {ns:List Int} {i:Nat} (h:i < ns.length):(ns.map PyData.int).getD i .none=.int (ns[i]):=by
  rw [List.getD_eq_getElem?_getD,List.getElem?_map,List.getElem?_eq_getElem h];rfl
theorem h7 {cs ns:List Int} (h:ns≠[]):∃ hB:rA cs ns < ns.length,lZ cs ns=ns[rA cs ns]/\(∀ g∈ns,bZ cs (lZ cs ns)<=bZ cs g)/\∀ (j:Nat) (hj:j < rA cs ns),bZ cs (lZ cs ns) < bZ cs (ns[j]'(by omega)):=by
  have hl:0 < ns.length:=List.length_pos_iff.mpr h;obtain ⟨h1,h2,h3⟩:=i5 (fun i=>dN (cs.map .int) ((ns.map PyData.int).getD i .none)) (ns.length-1);have e:rA cs ns=argBest (fun i j=>decide (dN (cs.map .int) ((ns.map PyData.int).getD i .none) < dN (cs.map .int) ((ns.map PyData.int).getD j .none))) (ns.length-1):=rfl;rw [<- e] at h1 h2 h3;have hB:rA cs ns < ns.length:=by omega
  have kk:∀ (j:Nat) (hj:j < ns.length),dN (cs.map .int) ((ns.map PyData.int).getD j .none)=bZ cs ns[j]:=fun j hj=>by rw [kC hj,qx]
  have ec:lZ cs ns=ns[rA cs ns]:=by
    unfold lZ;rw [List.getD_eq_getElem?_getD,List.getElem?_eq_getElem hB];rfl
  refine ⟨hB,ec,fun g hg=>?_,fun j hj=>?_⟩
  · obtain ⟨j,hj,rfl⟩:=List.getElem_of_mem hg;have:=h2 j (by omega);rw [kk _ hB,kk j hj,<- ec] at this;exact this
  · have:=h3 j hj;rw [kk _ hB,kk j (by omega),<- ec] at this;exact this
theorem l5 {cs ns:List Int} (h:ns≠[]):lZ cs ns∈ns:=by
  obtain ⟨hB,e,_⟩:=h7 (cs:=cs) h;rw [e];exact List.getElem_mem hB
theorem qa {cs:List Int} {p:P4} (h:p.ns≠[]) (hw:p.w=0):bZ cs (lZ cs p.ns)=eW cs p:=by
  obtain ⟨_,_,h2,_⟩:=h7 (cs:=cs) h;have a:=nX (cs:=cs) h hw _ (l5 (cs:=cs) h);obtain ⟨g,hg,e⟩:=cV (cs:=cs) h;have b:=h2 g hg;omega
theorem fW (t:au->R Bool) (g:Fs) (n:Nat) (ρ:au):bN t g (n+1) ρ=(t ρ>>=fun b=>if b=true then g ρ>>=jr (bN t g n) else .ok (.nx ρ)):=by
  rw [bN];congr 1
noncomputable abbrev iL (cs:List Int):PyData:=.list (cs.map .int)
theorem ma {ns:List Int} (h:ns≠[]):jb (iL ns)=.ok (.int (mn ns)):=by
  show (match bG (ns.map .int) with | some (n::ns)=>R.ok (PyData.int (lC n ns)) | _=>.no)=_;rw [cI];cases ns with
  | nil=>exact absurd rfl h
  | cons n ns=>rfl
theorem l9 {ns:List Int} (h:ns≠[]):ja (iL ns)=.ok (.int (mx ns)):=by
  show (match bG (ns.map .int) with | some (n::ns)=>R.ok (PyData.int (lA n ns)) | _=>.no)=_;rw [cI];cases ns with
  | nil=>exact absurd rfl h
  | cons n ns=>rfl
theorem gr (p:P4):bT p.d (.int 2)=.ok (.int p.g):=rfl
theorem ik (f:Fe) (ρ:au) (h:Int->Int) (ns:List Int) (hh:∀ x∈ns,f ((bK.non::ρ).set 0 (.val (.int x)))=.ok (.int (h x))):bE (aI 0) (fun _=>.ok true) f (.non::ρ) (ns.map .int)=.ok ((ns.map h).map .int):=by
  have:=eX f (.non::ρ) 0 (fun d=>match d with | .int i=>.int (h i) | d=>d) (ns.map .int) fun d hd=>by
    obtain ⟨x,hx,rfl⟩:=List.mem_map.mp hd;exact hh x hx
  rw [this,List.map_map,List.map_map];rfl
theorem gt (f:Fe) (ρ:au) (h:P4->PyData) (ps:List P4) (hh:∀ p∈ps,f ((bK.non::ρ).set 0 (.val p.d))=.ok (h p)):bE (aI 0) (fun _=>.ok true) f (.non::ρ) (ps.map P4.d)=.ok (ps.map h):=by
  induction ps with
  | nil=>exact gf ..
  | cons p ps ih =>
    rw [List.map_cons,fB,hh p List.mem_cons_self,ih fun q hq=>hh q (List.mem_cons_of_mem _ hq)];rfl
theorem rG {cs:List Int} {i:Int} (h0:0<=i) (h1:i < cs.length):bT (iL cs) (.int i)=.ok (.int (bZ cs i)):=by
  rw [oj h0 (by simpa using h1)];unfold bZ;rw [List.getElem_map,List.getD_eq_getElem?_getD,List.getElem?_eq_getElem (by omega)];rfl
theorem pr {ns:List Int} (h:ns.length<=1000) (hb:∀ x∈ns,0<=x/\x<=20):mV (iL ns)=.ok (.int ns.sum):=by
  show (match bG (ns.map .int) with | some ns=>if ns.length<=1000000/\ns.all lB=true then R.ok (PyData.int ns.sum) else .no | none=>.no)=_;rw [cI];refine if_pos ⟨by omega,List.all_eq_true.mpr fun x hx=>?_⟩;have:=hb x hx;unfold lB;exact decide_eq_true (by omega)
theorem ro {g:Int} (h0:-20<=g):0<=cK (-g)/\cK (-g)<=20:=by unfold cK;split <;> omega
theorem ji {ps:List P4} (hp:k7 ps) {f:Fe} {ρ:au} (hf:f ρ=.ok (gD ps)):e1 mV (bq (c7 f) 1 [] (aI 0) (fun _=>.ok true) (e2 gh (eC (.int 0)) (e1 iT (e2 bT (ae 0) (eC (.int 2)))))) ρ=.ok (.int (aT ps)):=by
  have hc:=gt (e2 gh (eC (.int 0)) (e1 iT (e2 bT (ae 0) (eC (.int 2))))) [] (fun p=>.int (cK (-p.g))) ps fun p hp=>by
    simp [gr,cK]
  have hl:ps.length<=sizeLine:=cj (by have:=hp.n24;omega);have hs:=pr (ns:=ps.map fun p=>cK (-p.g)) (by rw [List.length_map];have:=hp.n24;omega) fun x hx=>by
    obtain ⟨p,h1,rfl⟩:=List.mem_map.mp hx;exact ro (hp.g0 p h1)
  have e:(ps.map fun p=>PyData.int (cK (-p.g)))=(ps.map fun p=>cK (-p.g)).map .int:=by rw [List.map_map];rfl
  rw [e] at hc;simp only [dS,bR,ci,hf,R.ok_bind,dQ,c8,List.length_map,hl,if_true];rw [show ap 1 [] ρ=[.non] from rfl,hc,cW,R.ok_bind,hs];rfl
theorem qz {ps:List P4} (hp:k7 ps):aX [gD ps]=.ok (.int (aT ps)):=by
  unfold aX dj;refine ie ?_;show da _ [.val (gD ps)]=_;rw [jV,ji hp (ρ:=[.val (gD ps)]) rfl];rfl
theorem nZ {M:Int} {cs:List Int} {p:P4} (hne:p.ns≠[]) (hgo:∀ x∈p.ns,0<=x/\x < cs.length) (hl:p.ns.length<=24):aA [p.d,iL cs,.int M]=.ok (.int (k8 M cs p)):=by
  unfold aA c5;refine ie ?_;have h1:bq (c7 (e2 bT (ae 0) (eC (.int 3)))) 1 [1] (aI 0) (fun _=>.ok true) (e2 bT (ae 1) (ae 0)) [.val p.d,.val (iL cs),.val (.int M),.non,.non]=.ok (iL (p.ns.map (bZ cs))):=by
    have hc:=ik (e2 bT (ae 1) (ae 0)) [.val (iL cs)] (bZ cs) p.ns fun x hx=>by
      have:=hgo x hx;simp [rG this.1 this.2]
    rw [bR];simp only [ci,cx,aQ,R.ok_bind,cT,jP,dQ,c8,List.length_map];rw [if_pos (cj (by omega)),show ap 1 [1] [.val p.d,.val (iL cs),.val (.int M),.non,.non]=[.non,.val (iL cs)] from rfl,hc];rfl
  show aJ (aR 3 _) _ [.val p.d,.val (iL cs),.val (.int M),.non,.non]=_;rw [aC (ρ':=[.val p.d,.val (iL cs),.val (.int M),.val (iL (p.ns.map (bZ cs))),.non]) (by rw [bz,h1];rfl)];have hm:=gn hne (bZ cs);rw [aC (ρ':=[.val p.d,.val (iL cs),.val (.int M),.val (iL (p.ns.map (bZ cs))),.val (.int (eW cs p))]) (by
    by_cases hw:p.w=0
    · simp [fE,hw,fN,ma hm,eW]
    · simp [fE,hw,fN,l9 hm,eW])]
  by_cases h:M < eW cs p
  · refine ti ?_;have e:k8 M cs p=eW cs p:=by unfold k8 gN;rw [if_pos h]
    rw [e];simp [gU,h]
  · rw [aC (ρ':=[.val p.d,.val (iL cs),.val (.int M),.val (iL (p.ns.map (bZ cs))),.val (.int (eW cs p))]) (by simp [gU,h])];have e:k8 M cs p=pJ M (cK (eW cs p-p.g)):=by unfold k8 gN;rw [if_neg h]
    rw [e];simp [gr,pJ,cK]
theorem nG {M:Int} {ps:List P4} (hp:k7 ps) {cs:List Int} (hl:cs.length=ps.length) (x:bK):bq (c7 (ae 0)) 1 [2,1] (aI 0) (fun _=>.ok true) (bh aA (ai (ae 0) (ai (ae 1) (ai (ae 2) aO)))) [.val (gD ps),.val (.int M),.val (iL cs),x]=.ok (iL (gH M ps cs)):=by
  have hc:=gt (bh aA (ai (ae 0) (ai (ae 1) (ai (ae 2) aO)))) [.val (iL cs),.val (.int M)] (fun p=>.int (k8 M cs p)) ps fun p hm=>by
    have:=nZ (M:=M) (cs:=cs) (hp.ne p hm) (fun x hx=>by rw [hl];exact hp.go p hm x hx) (hp.l24 p hm);simpa using this
  rw [bR];simp only [ci,aQ,R.ok_bind,dQ,c8,List.length_map];rw [if_pos (cj (by have:=hp.n24;omega)),show ap 1 [2,1] [.val (gD ps),.val (.int M),.val (iL cs),x]=[.non,.val (iL cs),.val (.int M)] from rfl,hc,cW];unfold iL gH;rw [List.map_map];rfl
noncomputable abbrev tX:au->R Bool:=tE (e2 (k9) (ae 3) (ae 2))
noncomputable abbrev rL:Fs:=aJ (aR 2 (ae 3)) (aR 3 (bq (c7 (ae 0)) 1 [2,1] (aI 0) (fun _=>.ok true) (bh aA (ai (ae 0) (ai (ae 1) (ai (ae 2) aO))))))
theorem oR {M:Int} {ps:List P4} (hp:k7 ps) {cs:List Int} (hl:cs.length=ps.length) (x:bK):rL [.val (gD ps),.val (.int M),x,.val (iL cs)]=.ok (.nx [.val (gD ps),.val (.int M),.val (iL cs),.val (iL (gH M ps cs))]):=by
  unfold rL;rw [aC (ρ':=[.val (gD ps),.val (.int M),.val (iL cs),.val (iL cs)]) (by simp),bz,nG hp hl];rfl
theorem mw {M:Int} {ps:List P4} (hM:0<=M) (hM2:M<=1000) (hp:k7 ps):∀ (fuel k:Nat),(30001-(bB M ps k).sum).toNat < fuel ->
    ∃ j,bB M ps (j+1)=bB M ps j/\bN tX rL fuel [.val (gD ps),.val (.int M),.val (iL (bB M ps k)),.val (iL (bB M ps (k+1)))]=.ok (.nx [.val (gD ps),.val (.int M),.val (iL (bB M ps j)),.val (iL (bB M ps j))])
  | 0,k,h=>absurd h (Nat.not_lt_zero _)
  | fuel+1,k,h=>by
    rw [fW];have ht:tX [.val (gD ps),.val (.int M),.val (iL (bB M ps k)),.val (iL (bB M ps (k+1)))]=.ok (!decide (bB M ps (k+1)=bB M ps k)):=by
      have:=rM (bB M ps (k+1)) (bB M ps k);simp [this]
    rw [ht,R.ok_bind];by_cases e:bB M ps (k+1)=bB M ps k
    · refine ⟨k,e,?_⟩;rw [decide_eq_true e,e];rfl
    · rw [decide_eq_false e];have g:=mj hM hp.ne k e;have s1:=oF hM hp.ne hM2 hp.n24 (k+1);obtain ⟨j,h1,h2⟩:=mw hM hM2 hp fuel (k+1) (by omega);refine ⟨j,h1,?_⟩;rw [<- h2];show (rL _>>=_)=_;rw [oR hp (de hM hp.ne (k+1)).len];rfl
theorem nq {M:Int} {ps:List P4} (hM:0<=M) (hM2:M<=1000) (hp:k7 ps):∃ j,bB M ps (j+1)=bB M ps j/\aE [gD ps,.int M]=.ok (iL (bB M ps j)):=by
  have s0:=mm hM hp.ne 0;obtain ⟨j,h1,h2⟩:=mw hM hM2 hp 999999 0 (by omega);refine ⟨j,h1,?_⟩;unfold aE cB;refine ie ?_;show aJ (aR 2 (eC .none)) _ [.val (gD ps),.val (.int M),.non,.non]=_;rw [aC (ρ':=[.val (gD ps),.val (.int M),.val .none,.non]) (by simp)];have hc:=gt (eC (.int 0)) [] (fun _=>.int 0) ps fun p _=>rfl
  rw [aC (ρ':=[.val (gD ps),.val (.int M),.val .none,.val (iL (bB M ps 0))]) (by
    rw [bz,bR];simp only [ci,aQ,R.ok_bind,dQ,c8,List.length_map];rw [if_pos (cj (by have:=hp.n24;omega)),show ap 1 [] [.val (gD ps),.val (.int M),.val .none,.non]=[.non] from rfl,hc,cW];unfold iL bB;rw [List.map_map];rfl)]
  have ht:tX [.val (gD ps),.val (.int M),.val .none,.val (iL (bB M ps 0))]=.ok true:=by
    have:k9 (iL (bB M ps 0)) .none=.ok (.bool true):=by
      unfold k9;rw [if_pos (by unfold jI;simp [PyData.canLay0,ii,PyData.depth])];simp [PyData.eqv]
    simp [this]
  have hw:gw 1000000 tX rL [.val (gD ps),.val (.int M),.val .none,.val (iL (bB M ps 0))]=.ok (.nx [.val (gD ps),.val (.int M),.val (iL (bB M ps j)),.val (iL (bB M ps j))]):=by
    show bN tX rL (999999+1) _=_;rw [fW,ht,R.ok_bind];show (rL _>>=_)=_;rw [oR hp (de hM hp.ne 0).len];exact h2
  rw [aC (ρ':=[.val (gD ps),.val (.int M),.val (iL (bB M ps j)),.val (iL (bB M ps j))]) (by
    show gv (gw 1000000 tX rL) _=_;rw [e9,hw];rfl)]
  simp
theorem oa {cs:List Int} {p:P4} (hne:p.ns≠[]) (hgo:∀ x∈p.ns,0<=x/\x < cs.length):aD [p.d,iL cs]=.ok (.int (lZ cs p.ns)):=by
  unfold aD cN;refine ie ?_;have hk:(p.ns.map PyData.int).all (jf (cs.map .int))=true:=List.all_eq_true.mpr fun d hd=>by
    obtain ⟨x,hx,rfl⟩:=List.mem_map.mp hd;have:=hgo x hx;simp only [jf,this.1,decide_true,Bool.true_and,List.getElem?_map,List.getElem?_eq_getElem (show x.toNat < cs.length by omega),Option.map_some]
  have he:(p.ns.map PyData.int).isEmpty=false:=by
    cases h:p.ns with
    | nil=>exact absurd h hne
    | cons=>rfl
  obtain ⟨hB,ec,_⟩:=h7 (cs:=cs) hne;have hd:h8 (iL cs) (.tuple (p.ns.map .int))=.ok (.int (lZ cs p.ns)):=by
    show (if (p.ns.map PyData.int).isEmpty=false/\(p.ns.map PyData.int).all (jf (cs.map .int))=true then R.ok ((p.ns.map PyData.int).getD (argBest (fun i j=>decide (dN (cs.map .int) ((p.ns.map PyData.int).getD i .none) < dN (cs.map .int) ((p.ns.map PyData.int).getD j .none))) ((p.ns.map PyData.int).length-1)) .none) else .no)=_;rw [if_pos ⟨he,hk⟩,List.length_map];show R.ok ((p.ns.map PyData.int).getD (rA cs p.ns) .none)=_;rw [kC hB,<- ec]
  show da (jc 1 _) [.val p.d,.val (iL cs)]=_;rw [jV];unfold jc;simp only [cx,aQ,cT,R.ok_bind,jP,bF,hd]
noncomputable def lD (M c:Int):PyData:=if M < c then .none else .int c
noncomputable def fj (cs:List Int) (p:P4):PyData:=if p.w=0 then .int (lZ cs p.ns) else .none
noncomputable abbrev u8 (M:Int) (ps:List P4) (cs:List Int):PyData:=.tuple [.tuple (cs.map (lD M)),.tuple (ps.map (fj cs))]
theorem oP {ps:List P4} (hp:k7 ps):∃ j,bB (aT ps) ps (j+1)=bB (aT ps) ps j/\aK [gD ps]=.ok (u8 (aT ps) ps (bB (aT ps) ps j)):=by
  obtain ⟨l0,l1,_⟩:=fR ps hp.g0;have n24:=hp.n24;obtain ⟨j,h1,h2⟩:=nq (M:=aT ps) l0 (by omega) hp;refine ⟨j,h1,?_⟩;have bd:=de l0 hp.ne j;generalize hcs:bB (aT ps) ps j=cs at *;unfold aK cO;refine ie ?_;show aJ (aR 1 _) _ [.val (gD ps),.non,.non,.non,.non]=_;rw [aC (ρ':=[.val (gD ps),.val (.int (aT ps)),.non,.non,.non]) (by have:=qz hp;simp [this])];rw [aC (ρ':=[.val (gD ps),.val (.int (aT ps)),.val (iL cs),.non,.non]) (by simp [h2])];have c1:=eX (rC (tE (e2 (dm gU) (ae 0) (ae 1))) (eC .none) (ae 0)) [.non,.val (.int (aT ps))] 0 (fun d=>match d with | .int i=>lD (aT ps) i | d=>d) (cs.map .int) fun d hd=>by
    obtain ⟨x,hx,rfl⟩:=List.mem_map.mp hd;by_cases h:aT ps < x
    · simp [gU,h,lD]
    · simp [gU,h,lD]
  rw [List.map_map] at c1;have c1':bE (aI 0) (fun _=>.ok true) (rC (tE (e2 (dm gU) (ae 0) (ae 1))) (eC .none) (ae 0)) [.non,.val (.int (aT ps))] (cs.map .int)=.ok (cs.map (lD (aT ps))):=c1;rw [aC (ρ':=[.val (gD ps),.val (.int (aT ps)),.val (iL cs),.val (.tuple (cs.map (lD (aT ps)))),.non]) (by
    rw [bz,dS,bR];simp only [ci,bF,aQ,R.ok_bind,lI,c8,List.length_map];rw [if_pos (cj (by have:=bd.len;omega)),show ap 1 [1] [.val (gD ps),.val (.int (aT ps)),.val (iL cs),.non,.non]=[.non,.val (.int (aT ps))] from rfl,c1',cW,R.ok_bind,fP];rfl)]
  have c2:=gt (rC (tE (e2 (l7) (e2 bT (ae 0) (eC (.int 0))) (eC (.int 0)))) (bh aD (ai (ae 0) (ai (ae 1) aO))) (eC .none)) [.val (iL cs)] (fj cs) ps fun p hm=>by
    have:=oa (cs:=cs) (hp.ne p hm) fun x hx=>by rw [bd.len];exact hp.go p hm x hx
    by_cases h:p.w=0
    · simp [fE,h,fN,this,fj]
    · simp [fE,h,fN,fj]
  rw [aC (ρ':=[.val (gD ps),.val (.int (aT ps)),.val (iL cs),.val (.tuple (cs.map (lD (aT ps)))),.val (.tuple (ps.map (fj cs)))]) (by
    rw [bz,dS,bR];simp only [ci,aQ,R.ok_bind,dQ,c8,List.length_map];rw [if_pos (cj (by omega)),show ap 1 [2] [.val (gD ps),.val (.int (aT ps)),.val (iL cs),.val (.tuple (cs.map (lD (aT ps)))),.non]=[.non,.val (iL cs)] from rfl,c2,cW,R.ok_bind,fP];rfl)]
  have s2:2<=sizeLine:=by decide
  simp [s2,u8]
theorem o8 {ps:List P4} {hi:Int} (hp:∀ p∈ps,Pl ps.length hi p) (h24:(ps.length:Int)<=24):k7 ps :=
  ⟨fun p h=>(hp p h).ne,fun p h=>(hp p h).inn,fun p h=>(hp p h).g0,fun p h=>(hp p h).g1,fun p h=>(hp p h).w0,fun p h=>(hp p h).w1,by omega,fun p h=>by have:=(hp p h).len;omega⟩
theorem sy {ps:List P4} (hp:k7 ps):bB (aT ps) ps 1=ps.map fun p=>cK (-p.g):=by
  obtain ⟨l0,_,l2⟩:=fR ps hp.g0;show gH (aT ps) ps (ps.map fun _=>0)=_;unfold gH;refine List.map_congr_left fun p hm=>?_
  obtain ⟨g,_,e⟩:=cV (cs:=ps.map fun _=>0) (hp.ne p hm);have z:eW (ps.map fun _=>0) p=0:=by
    rw [e,fL];cases ps[g.toNat]? <;> rfl
  have h2:=l2 p hm;unfold k8 gN pJ;rw [z,if_neg (by omega),Int.zero_sub,if_pos (by omega)]
noncomputable def la (M:Int) (cs:List Int) (p:P4):Int:=pJ M (cK (eW cs p-p.g))+(M+1)*(if M < eW cs p then 1 else 0)
theorem qY {M:Int} {cs:List Int} {p:P4} (hM:0<=M) (a0:0<=eW cs p) (a1:eW cs p<=M+1):(if M+1 < la M cs p then M+1 else la M cs p)=k8 M cs p:=by
  unfold la k8 gN pJ cK;by_cases h:M < eW cs p
  · rw [if_pos h,if_pos h];split <;> split <;> split <;> omega
  · rw [if_neg h,if_neg h];split <;> split <;> split <;> omega
noncomputable abbrev vF:Fs:=(aJ (aR 6 (bq (c7 (e2 bT (ae 5) (eC (.int 3)))) 1 [2] (aI 0) (fun _=>.ok true) (e2 bT (ae 1) (ae 0)))) (aJ (aR 7 (e2 bT (iU (ai (e1 jb (ae 6)) (ai (e1 ja (ae 6)) aO))) (e2 bT (ae 5) (eC (.int 0))))) (e8 4 (e2 bp (e2 iS (e2 bp (ae 1) (eC (.int 1))) (e2 gh (eC (.int 0)) (e2 gi (ae 7) (e2 bT (ae 5) (eC (.int 2)))))) (e2 bX (e2 bp (ae 1) (eC (.int 1))) (e1 gO (e2 (dm gU) (ae 7) (ae 1))))))))
theorem tJ {M:Int} {ps:List P4} {cs:List Int} (hM:0<=M) (hM2:M<=1000) (hp:k7 ps) (bd:Bd M ps.length cs) {p:P4} (hm:p∈ps) (A b:bK) (ds:List Int) (hd:ds.length<=100) (x6 x7:bK):∃ y6 y7,
    vF [A,.val (.int M),.val (iL cs),b,.own (iL ds),.val p.d,x6,x7]=.ok (.nx [A,.val (.int M),.val (iL cs),b,.own (iL (ds++[la M cs p])),.val p.d,y6,y7]):=by
  have hne:=hp.ne p hm;have hgo:∀ x∈p.ns,0<=x/\x < cs.length:=fun x hx=>by rw [bd.len];exact hp.go p hm x hx
  have hl:=hp.l24 p hm;have hm':=gn hne (bZ cs);refine ⟨.val (iL (p.ns.map (bZ cs))),.val (.int (eW cs p)),?_⟩;unfold vF;rw [aC (ρ':=[A,.val (.int M),.val (iL cs),b,.own (iL ds),.val p.d,.val (iL (p.ns.map (bZ cs))),x7]) (by
    have hc:=ik (e2 bT (ae 1) (ae 0)) [.val (iL cs)] (bZ cs) p.ns fun x hx=>by
      have:=hgo x hx;simp [rG this.1 this.2]
    rw [bz,bR];simp only [ci,cx,bF,aQ,R.ok_bind,cT,jP,dQ,c8,List.length_map];rw [if_pos (cj (by omega)),show ap 1 [2] [A,.val (.int M),.val (iL cs),b,.own (iL ds),.val p.d,x6,x7]=[.non,.val (iL cs)] from rfl,hc];rfl)]
  rw [aC (ρ':=[A,.val (.int M),.val (iL cs),b,.own (iL ds),.val p.d,.val (iL (p.ns.map (bZ cs))),.val (.int (eW cs p))]) (by
    have s2:2<=sizeLine:=by decide
    have w0:=hp.w0 p hm;have w1:=hp.w1 p hm;rw [bz];simp only [cx,me,bP,cf,dS,bF,aQ,R.ok_bind,cT,fE,ma hm',l9 hm'];rw [if_pos (show [PyData.int (mn (p.ns.map (bZ cs))),PyData.int (mx (p.ns.map (bZ cs)))].length<=sizeLine from s2),R.ok_bind];by_cases hw:p.w=0
    · rw [hw];have:eW cs p=mn (p.ns.map (bZ cs)):=by unfold eW;rw [if_pos hw]
      rw [this];rfl
    · have e:p.w=1:=by omega
      rw [e];have:eW cs p=mx (p.ns.map (bZ cs)):=by unfold eW;rw [if_neg hw]
      rw [this];rfl)]
  rw [nB _ (ds:=ds.map .int) rfl (by rw [List.length_map];exact Nat.lt_of_le_of_lt hd (by decide))];have m1:∀ k:Int,bX (.int (M+1)) (.int k)=.ok (.int ((M+1)*k)):=fun k=>cQ (.inl (by omega))
  have hv:e2 bp (e2 iS (e2 bp (ae 1) (eC (.int 1))) (e2 gh (eC (.int 0)) (e2 gi (ae 7) (e2 bT (ae 5) (eC (.int 2)))))) (e2 bX (e2 bp (ae 1) (eC (.int 1))) (e1 gO (e2 (dm gU) (ae 7) (ae 1)))) [A,.val (.int M),.val (iL cs),b,.own (iL ds),.val p.d,.val (iL (p.ns.map (bZ cs))),.val (.int (eW cs p))]=.ok (.int (la M cs p)):=by
    simp only [cx,dS,bF,aQ,cT,R.ok_bind,lq,lr,gr,sk,sn,jE,jF,m1];unfold la pJ cK gU;simp
  rw [hv];show R.ok (k6.nx [A,.val (.int M),.val (iL cs),b,.own (.list (ds.map .int++[.int (la M cs p)])),_,_,_])=_;rw [show ds.map PyData.int++[.int (la M cs p)]=(ds++[la M cs p]).map .int by rw [List.map_append];rfl]
theorem pB {M:Int} {ps:List P4} {cs:List Int} (hM:0<=M) (hM2:M<=1000) (hp:k7 ps) (bd:Bd M ps.length cs) (A b:bK):∀ (qs:List P4),(∀ p∈qs,p∈ps)->∀ (ds:List Int),ds.length+qs.length<=100->∀ x5 x6 x7:bK,∃ y5 y6 y7,
    dY (aI 5) vF (qs.map P4.d) [A,.val (.int M),.val (iL cs),b,.own (iL ds),x5,x6,x7]=.ok (.nx [A,.val (.int M),.val (iL cs),b,.own (iL (ds++qs.map (la M cs))),y5,y6,y7])
  | [],_,ds,_,x5,x6,x7=>⟨x5,x6,x7,by rw [List.map_nil,List.map_nil,List.append_nil,eJ]⟩
  | p::qs,hq,ds,hl,x5,x6,x7=>by
    obtain ⟨y6,y7,e⟩:=tJ hM hM2 hp bd (hq p List.mem_cons_self) A b ds (by simp at hl;omega) x6 x7;obtain ⟨z5,z6,z7,e2⟩:=pB hM hM2 hp bd A b qs (fun q h=>hq q (List.mem_cons_of_mem _ h)) (ds++[la M cs p]) (by simp at hl ⊢;omega) (.val p.d) y6 y7;refine ⟨z5,z6,z7,?_⟩;rw [List.map_cons,eY];show (vF [A,.val (.int M),.val (iL cs),b,.own (iL ds),.val p.d,x6,x7]>>=_)=_;rw [e,R.ok_bind,kY,e2,List.append_assoc];rfl
noncomputable abbrev t5:Fs:=(aJ (fG 4 (iU aO)) (aJ (gv (jU (c7 (ae 0)) (aI 5) vF)) (aJ (wd 4 (aR 4 (bq (c7 (ae 4)) 1 [1] (aI 0) (fun _=>.ok true) (e2 iS (ae 0) (e2 bp (ae 1) (eC (.int 1))))))) (aJ (aR 3 (e2 (k9) (fQ 4) (ae 2))) (aR 2 (ae 4))))))
theorem tK {M:Int} {ps:List P4} {cs:List Int} (hM:0<=M) (hM2:M<=1000) (hp:k7 ps) (bd:Bd M ps.length cs) (b x4 x5 x6 x7:bK):∃ y5 y6 y7,
    t5 [.val (gD ps),.val (.int M),.val (iL cs),b,x4,x5,x6,x7]=.ok (.nx [.val (gD ps),.val (.int M),.val (iL (gH M ps cs)),.val (.bool (!decide (gH M ps cs=cs))),.val (iL (gH M ps cs)),y5,y6,y7]):=by
  have n24:=hp.n24;obtain ⟨y5,y6,y7,hf⟩:=pB hM hM2 hp bd (.val (gD ps)) b ps (fun _ h=>h) [] (by simp;omega) x5 x6 x7;rw [List.nil_append] at hf;refine ⟨y5,y6,y7,?_⟩;unfold t5;rw [aC (ρ':=[.val (gD ps),.val (.int M),.val (iL cs),b,.own (iL []),x5,x6,x7]) (by
    have s0:0<=sizeLine:=Nat.zero_le _;simp [iL])]
  rw [aC (ρ':=[.val (gD ps),.val (.int M),.val (iL cs),b,.own (iL (ps.map (la M cs))),y5,y6,y7]) (by
    rw [e9,fV];simp only [ci,aQ,R.ok_bind,dQ];rw [hf];rfl)]
  rw [aC (ρ':=[.val (gD ps),.val (.int M),.val (iL cs),b,.val (iL (gH M ps cs)),y5,y6,y7]) (by
    show aR 4 _ [.val (gD ps),.val (.int M),.val (iL cs),b,.val (iL (ps.map (la M cs))),y5,y6,y7]=_;have hc:=ik (e2 iS (ae 0) (e2 bp (ae 1) (eC (.int 1)))) [.val (.int M)] (fun x=>if M+1 < x then M+1 else x) (ps.map (la M cs)) fun x _=>by simp
    rw [bz,bR];simp only [ci,bF,aQ,R.ok_bind,lI,c8,List.length_map];rw [if_pos (cj (by omega)),show ap 1 [1] [.val (gD ps),.val (.int M),.val (iL cs),b,.val (iL (ps.map (la M cs))),y5,y6,y7]=[.non,.val (.int M)] from rfl,hc,cW,R.ok_bind];have e:(ps.map (la M cs)).map (fun x=>if M+1 < x then M+1 else x)=gH M ps cs:=by
      unfold gH;rw [List.map_map];refine List.map_congr_left fun p hm=>?_
      obtain ⟨g0,_,eg0⟩:=cV (cs:=cs) (hp.ne p hm);exact qY hM (by rw [eg0];exact (bd.at hM g0).1) (by rw [eg0];exact (bd.at hM g0).2)
    rw [e];rfl)]
  have hn:=rM (gH M ps cs) cs;rw [aC (ρ':=[.val (gD ps),.val (.int M),.val (iL cs),.val (.bool (!decide (gH M ps cs=cs))),.val (iL (gH M ps cs)),y5,y6,y7]) (by
    rw [bz];simp only [cx,qi,qh,bF,aQ,R.ok_bind];show (k9 (.list ((gH M ps cs).map .int)) (.list (cs.map .int))>>=_)=_;rw [hn];rfl)]
  simp
theorem mB {M:Int} {ps:List P4} (hM:0<=M) (hM2:M<=1000) (hp:k7 ps):∀ (fuel k:Nat),(30001-(bB M ps k).sum).toNat+1 < fuel->∀ x4 x5 x6 x7:bK,
    ∃ j y4 y5 y6 y7,bB M ps (j+1)=bB M ps j/\bN (tE (ae 3)) t5 fuel [.val (gD ps),.val (.int M),.val (iL (bB M ps k)),.val (.bool true),x4,x5,x6,x7]=.ok (.nx [.val (gD ps),.val (.int M),.val (iL (bB M ps j)),.val (.bool false),y4,y5,y6,y7])
  | 0,k,h,x4,x5,x6,x7=>absurd h (Nat.not_lt_zero _)
  | fuel+1,k,h,x4,x5,x6,x7=>by
    obtain ⟨y5,y6,y7,hb⟩:=tK hM hM2 hp (de hM hp.ne k) (.val (.bool true)) x4 x5 x6 x7;rw [fW];have ht:tE (ae 3) [.val (gD ps),.val (.int M),.val (iL (bB M ps k)),.val (.bool true),x4,x5,x6,x7]=.ok true:=by simp
    rw [ht,R.ok_bind,if_pos rfl,hb,R.ok_bind,kY];show ∃ j z4 z5 z6 z7,bB M ps (j+1)=bB M ps j/\bN (tE (ae 3)) t5 fuel [.val (gD ps),.val (.int M),.val (iL (bB M ps (k+1))),.val (.bool (!decide (bB M ps (k+1)=bB M ps k))),.val (iL (bB M ps (k+1))),y5,y6,y7]=_;by_cases e:bB M ps (k+1)=bB M ps k
    · rw [decide_eq_true e]
      match fuel,h with
      | 0,h=>exact absurd h (by omega)
      | f+1,_ =>
        refine ⟨k,.val (iL (bB M ps (k+1))),y5,y6,y7,e,?_⟩;rw [fW];have ht2:tE (ae 3) [.val (gD ps),.val (.int M),.val (iL (bB M ps (k+1))),.val (.bool (!true)),.val (iL (bB M ps (k+1))),y5,y6,y7]=.ok false:=by simp
        rw [ht2,R.ok_bind,e];rfl
    · rw [decide_eq_false e];have g:=mj hM hp.ne k e;have s1:=oF hM hp.ne hM2 hp.n24 (k+1);exact mB hM hM2 hp fuel (k+1) (by omega) (.val (iL (bB M ps (k+1)))) y5 y6 y7
theorem lL {ps:List P4} (hp:k7 ps):∃ j,bB (aT ps) ps (j+1)=bB (aT ps) ps j/\aW [gD ps]=.ok (.tuple ((bB (aT ps) ps j).map (lD (aT ps)))):=by
  obtain ⟨l0,l1,_⟩:=fR ps hp.g0;have n24:=hp.n24;have s0:=mm l0 hp.ne 1;obtain ⟨j,y4,y5,y6,y7,fx,hw⟩:=mB l0 (by omega) hp 1000000 1 (by omega) .non .non .non .non;refine ⟨j,fx,?_⟩;have bd:=de l0 hp.ne j;unfold aW di;refine ie ?_;show aJ (aR 1 _) _ [.val (gD ps),.non,.non,.non,.non,.non,.non,.non]=_;rw [aC (ρ':=[.val (gD ps),.val (.int (aT ps)),.non,.non,.non,.non,.non,.non]) (by
    rw [bz,ji hp (ρ:=[.val (gD ps),.non,.non,.non,.non,.non,.non,.non]) rfl];rfl)]
  rw [aC (ρ':=[.val (gD ps),.val (.int (aT ps)),.val (iL (bB (aT ps) ps 1)),.non,.non,.non,.non,.non]) (by
    have hc:=gt (e2 gh (eC (.int 0)) (e1 iT (e2 bT (ae 0) (eC (.int 2))))) [] (fun p=>.int (cK (-p.g))) ps fun p hp=>by
      simp [gr,cK]
    rw [bz,bR];simp only [ci,aQ,R.ok_bind,dQ,c8,List.length_map];rw [if_pos (cj (by omega)),show ap 1 [] [.val (gD ps),.val (.int (aT ps)),.non,.non,.non,.non,.non,.non]=[.non] from rfl,hc,cW,R.ok_bind,sy hp];unfold iL;rw [List.map_map];rfl)]
  rw [aC (ρ':=[.val (gD ps),.val (.int (aT ps)),.val (iL (bB (aT ps) ps 1)),.val (.bool true),.non,.non,.non,.non]) (by simp)];rw [aC (ρ':=[.val (gD ps),.val (.int (aT ps)),.val (iL (bB (aT ps) ps j)),.val (.bool false),y4,y5,y6,y7]) (by
    show gv (gw 1000000 (tE (ae 3)) t5) _=_;rw [e9];show kG (bN (tE (ae 3)) t5 1000000 _)=_;rw [hw];rfl)]
  generalize bB (aT ps) ps j=cs at *;have s2:2<=sizeLine:=by decide
  have c1:=eX (e2 bT (iU (ai (ae 0) (ai (eC .none) aO))) (e1 gO (e2 (dm gU) (ae 0) (ae 1)))) [.non,.val (.int (aT ps))] 0 (fun d=>match d with | .int i=>lD (aT ps) i | d=>d) (cs.map .int) fun d hd=>by
    obtain ⟨x,hx,rfl⟩:=List.mem_map.mp hd;simp only [List.set_cons_zero,cx,me,bP,cf,cT,bF,aQ,dS,R.ok_bind,jE,jF];rw [if_pos (show [PyData.int x,PyData.none].length<=sizeLine from s2),R.ok_bind];unfold lD gU;by_cases h:aT ps < x
    · rw [if_pos h];simp only [h,decide_true,if_true];rfl
    · rw [if_neg h];simp only [h,decide_false,Bool.false_eq_true,if_false];rfl
  rw [List.map_map] at c1;have c1':bE (aI 0) (fun _=>.ok true) (e2 bT (iU (ai (ae 0) (ai (eC .none) aO))) (e1 gO (e2 (dm gU) (ae 0) (ae 1)))) [.non,.val (.int (aT ps))] (cs.map .int)=.ok (cs.map (lD (aT ps))):=c1;rw [jV,dS,bR];simp only [ci,bF,aQ,R.ok_bind,lI,c8,List.length_map];rw [if_pos (cj (by have:=bd.len;omega)),show ap 1 [1] [.val (gD ps),.val (.int (aT ps)),.val (iL cs),.val (.bool false),y4,y5,y6,y7]=[.non,.val (.int (aT ps))] from rfl,c1',cW,R.ok_bind,fP];rfl
theorem ph {n:Int} (h0:0<=n) (h1:n<=1000):jT [.int n]=.ok (bg 0 n.toNat):=by
  show (if -(2 ^ 62)<=n/\n < 2 ^ 62 then R.ok (bg 0 n.toNat) else .no)=_;rw [if_pos (by omega)]
theorem uN {M:Int} {cs:List Int} {i:Int} (h0:0<=i) (h1:i < cs.length):bT (.tuple (cs.map (lD M))) (.int i)=.ok (lD M (bZ cs i)):=by
  rw [l8 h0 (by simpa using h1)];unfold bZ;rw [List.getElem_map,List.getD_eq_getElem?_getD,List.getElem?_eq_getElem (by omega)];rfl
noncomputable abbrev tY:Fs:=(aJ (aR 5 (e2 bp (ae 5) (e2 bT (e2 bT (ae 1) (ae 6)) (eC (.int 2))))) (aJ (nD (tE (e2 (dm uS) (ae 5) (eC (.int 0)))) (da (eC (.bool false))) dD) (aJ (aR 8 (e2 bT (e2 bT (e2 bT (ae 1) (ae 6)) (eC (.int 3))) (e2 cH (bh ao (ai (bh av (ai (ae 0) (ai (eC (.int 1)) aO))) (ai (e2 bp (e2 bX (eC (.int 61)) (ae 4)) (ae 7)) aO))) (e1 iR (e2 bT (e2 bT (ae 1) (ae 6)) (eC (.int 3))))))) (aJ (nD (tE (e2 (l7) (e2 bT (e2 bT (ae 1) (ae 6)) (eC (.int 0))) (eC (.int 0)))) (aR 8 (e2 bT (ae 3) (ae 6))) dD) (aR 6 (ae 8))))))
structure Fx (M:Int) (ps:List P4) (cs:List Int):Prop where
  hM:0<=M
  hp:k7 ps
  bd:Bd M ps.length cs
  fx:cs=gH M ps cs
theorem ny {M:Int} {ps:List P4} {cs:List Int} (F:Fx M ps cs) (ns:List Int) (L:bK) {st k at_ c:Int} (h0:0<=at_) (h1:at_ < ps.length) (hc:bZ cs at_<=M) (hc2:bZ cs at_<=c) (x8:bK):∃ (c' at':Int) (x8':bK),
    0<=at'/\at' < ps.length/\bZ cs at'<=M/\bZ cs at'<=c' /\
    tY [.val (ff ns),.val (gD ps),L,.val (.tuple (ps.map (fj cs))),.val (.int st),.val (.int c),.val (.int at_),.val (.int k),x8]=.ok (.nx [.val (ff ns),.val (gD ps),L,.val (.tuple (ps.map (fj cs))),.val (.int st),.val (.int c'),.val (.int at'),.val (.int k),x8']):=by
  obtain ⟨hM,hp,bd,fx⟩:=F;have hlt:at_.toNat < ps.length:=by omega
  have hm:ps[at_.toNat]∈ps:=List.getElem_mem hlt;have hix:=uM (ps:=ps) h0 h1;have hmx:bT (.tuple (ps.map (fj cs))) (.int at_)=.ok (fj cs ps[at_.toNat]):=by
    rw [l8 h0 (by simpa using h1),List.getElem_map]
  have hask:bZ cs at_=k8 M cs ps[at_.toNat]:=by
    conv=>lhs;rw [fx]
    unfold gH;rw [fL,List.getElem?_eq_getElem hlt];rfl
  generalize ps[at_.toNat]=p at *;have hne:=hp.ne p hm;have hpos:0 < p.ns.length:=List.length_pos_iff.mpr hne;obtain ⟨g0,_,eg0⟩:=cV (cs:=cs) hne;have a0:0<=eW cs p:=by rw [eg0];exact (bd.at hM g0).1
  have key:eW cs p<=M/\eW cs p<=c+p.g:=by
    rw [hask] at hc hc2;unfold k8 gN pJ cK at hc hc2;by_cases h:M < eW cs p
    · rw [if_pos h] at hc;omega
    · rw [if_neg h] at hc hc2;refine ⟨by omega,?_⟩;split at hc <;> split at hc2 <;> split at hc2 <;> omega
  obtain ⟨v,hv,v0,_⟩:=fS ns (k:=1) (by omega);obtain ⟨w,hw,w0,_⟩:=ia v (61*st+k);have q0:=Int.emod_nonneg w (show (p.ns.length:Int)≠0 by omega);have q1:=Int.emod_lt_of_pos w (show (0:Int) < p.ns.length by omega);have hgo:bT (.tuple (p.ns.map .int)) (.int (w%p.ns.length))=.ok (.int (p.ns[(w%p.ns.length).toNat]'(by omega))):=by
    rw [l8 q0 (by simpa using q1),List.getElem_map]
  have hgm:p.ns[(w%p.ns.length).toNat]'(by omega)∈p.ns:=List.getElem_mem _;generalize p.ns[(w%p.ns.length).toNat]'(by omega)=g at *;have m1:bX (.int 61) (.int st)=.ok (.int (61*st)):=cQ (.inl (by omega));have s3:tY [.val (ff ns),.val (gD ps),L,.val (.tuple (ps.map (fj cs))),.val (.int st),.val (.int c),.val (.int at_),.val (.int k),x8] =
      (aJ (nD (tE (e2 (l7) (e2 bT (e2 bT (ae 1) (ae 6)) (eC (.int 0))) (eC (.int 0)))) (aR 8 (e2 bT (ae 3) (ae 6))) dD) (aR 6 (ae 8))) [.val (ff ns),.val (gD ps),L,.val (.tuple (ps.map (fj cs))),.val (.int st),.val (.int (c+p.g)),.val (.int at_),.val (.int k),.val (.int g)]:=by
    unfold tY;rw [aC (ρ':=[.val (ff ns),.val (gD ps),L,.val (.tuple (ps.map (fj cs))),.val (.int st),.val (.int (c+p.g)),.val (.int at_),.val (.int k),x8]) (by
      rw [bz];simp only [cx,bF,aQ,cT,R.ok_bind,hix,gr,lq];rfl)]
    have h5:¬ c+p.g < 0:=by omega
    rw [aC (ρ':=[.val (ff ns),.val (gD ps),L,.val (.tuple (ps.map (fj cs))),.val (.int st),.val (.int (c+p.g)),.val (.int at_),.val (.int k),x8]) (by simp [uS,h5])];rw [aC (ρ':=[.val (ff ns),.val (gD ps),L,.val (.tuple (ps.map (fj cs))),.val (.int st),.val (.int (c+p.g)),.val (.int at_),.val (.int k),.val (.int g)]) (by
      rw [bz];have hpos':(0:Int) < p.ns.length:=by omega
      simp only [cx,dS,dC,bP,cf,bF,aQ,cT,R.ok_bind,hix,jP,hv,m1,lq,hw,om,List.length_map,jG,hpos',if_true,hgo];rfl)]
  by_cases how:p.w=0
  · have hmv:fj cs p=.int (lZ cs p.ns):=by unfold fj;rw [if_pos how]
    have hcm:=l5 (cs:=cs) hne;have hca:=qa (cs:=cs) hne how;refine ⟨c+p.g,lZ cs p.ns,.val (.int (lZ cs p.ns)),(hp.go p hm _ hcm).1,(hp.go p hm _ hcm).2,by omega,by omega,?_⟩;rw [s3,aC (ρ':=[.val (ff ns),.val (gD ps),L,.val (.tuple (ps.map (fj cs))),.val (.int st),.val (.int (c+p.g)),.val (.int at_),.val (.int k),.val (.int (lZ cs p.ns))]) (by
      rw [ix];simp only [kU,cx,bF,aQ,cT,R.ok_bind,hix,fE,fN,how,decide_true,kn,if_true,bz,hmx,hmv];rfl)]
    simp
  · have hgh:=nV (cs:=cs) hne how g hgm;refine ⟨c+p.g,g,.val (.int g),(hp.go p hm _ hgm).1,(hp.go p hm _ hgm).2,by omega,by omega,?_⟩;rw [s3,aC (ρ':=[.val (ff ns),.val (gD ps),L,.val (.tuple (ps.map (fj cs))),.val (.int st),.val (.int (c+p.g)),.val (.int at_),.val (.int k),.val (.int g)]) (by
      rw [ix];simp only [kU,cx,bF,aQ,cT,R.ok_bind,hix,fE,fN,how,decide_false,kn,Bool.false_eq_true,if_false,kO])]
    simp
theorem jn {M:Int} {ps:List P4} {cs:List Int} (F:Fx M ps cs) (ns:List Int) (L:bK) {st:Int}:∀ (ks:List Int) (at_ c:Int),0<=at_->at_ < ps.length->bZ cs at_<=M->bZ cs at_<=c->∀ x7 x8:bK,∃ y5 y6 y7 y8,
    dY (aI 7) tY (ks.map .int) [.val (ff ns),.val (gD ps),L,.val (.tuple (ps.map (fj cs))),.val (.int st),.val (.int c),.val (.int at_),x7,x8]=.ok (.nx [.val (ff ns),.val (gD ps),L,.val (.tuple (ps.map (fj cs))),.val (.int st),y5,y6,y7,y8])
  | [],at_,c,_,_,_,_,x7,x8=>⟨.val (.int c),.val (.int at_),x7,x8,by rw [List.map_nil,eJ]⟩
  | k::ks,at_,c,h0,h1,h2,h3,x7,x8=>by
    obtain ⟨c',at',x8',g0,g1,g2,g3,e⟩:=ny F ns L (st:=st) (k:=k) h0 h1 h2 h3 x8;obtain ⟨y5,y6,y7,y8,e2⟩:=jn F ns L (st:=st) ks at' c' g0 g1 g2 g3 (.val (.int k)) x8';refine ⟨y5,y6,y7,y8,?_⟩;rw [List.map_cons,eY,<- e2];show (tY [.val (ff ns),.val (gD ps),L,.val (.tuple (ps.map (fj cs))),.val (.int st),.val (.int c),.val (.int at_),.val (.int k),x8]>>=_)=_;rw [e];rfl
noncomputable abbrev pM:Fs:=(aJ (aR 5 (e2 bT (ae 2) (ae 4))) (aJ (aR 6 (ae 4)) (gv (jU (eK (ai (e2 bX (eC (.int 60)) (e1 gO (e2 (h9) (ae 5) (eC .none)))) aO)) (aI 7) tY))))
theorem lJ {M:Int} {ps:List P4} {cs:List Int} (F:Fx M ps cs) (ns:List Int) {st:Int} (h0:0<=st) (h1:st < ps.length) (x5 x6 x7 x8:bK):∃ y5 y6 y7 y8,
    pM [.val (ff ns),.val (gD ps),.val (.tuple (cs.map (lD M))),.val (.tuple (ps.map (fj cs))),.val (.int st),x5,x6,x7,x8]=.ok (.nx [.val (ff ns),.val (gD ps),.val (.tuple (cs.map (lD M))),.val (.tuple (ps.map (fj cs))),.val (.int st),y5,y6,y7,y8]):=by
  have hx:=uN (M:=M) (cs:=cs) h0 (by rw [F.bd.len];exact h1);have go:∀ n:Nat,bg 0 n=((List.range n).map fun (k:Nat)=>(k:Int)).map .int:=iu;have m1:∀ k:Int,bX (.int 60) (.int k)=.ok (.int (60*k)):=fun k=>cQ (.inl (by omega))
  have r60:jT [.int 60]=.ok (bg 0 60):=ph (by omega) (by omega);have r0:jT [.int 0]=.ok []:=ph (by omega) (by omega);by_cases h:M < bZ cs st
  · have e:lD M (bZ cs st)=.none:=by unfold lD;rw [if_pos h]
    refine ⟨.val .none,.val (.int st),x7,x8,?_⟩;unfold pM;rw [aC (ρ':=[.val (ff ns),.val (gD ps),.val (.tuple (cs.map (lD M))),.val (.tuple (ps.map (fj cs))),.val (.int st),.val .none,x6,x7,x8]) (by
      rw [bz];simp only [cx,bF,aQ,R.ok_bind,hx,e];rfl)]
    rw [aC (ρ':=[.val (ff ns),.val (gD ps),.val (.tuple (cs.map (lD M))),.val (.tuple (ps.map (fj cs))),.val (.int st),.val .none,.val (.int st),x7,x8]) (by simp)];rw [e9,fV];have hn:h9 .none .none=.ok (.bool false):=rfl;simp only [gj,bP,cf,cx,dS,bF,aQ,cT,R.ok_bind,hn,jF,Bool.false_eq_true,if_false,m1,Int.mul_zero,r0];rw [eJ];rfl
  · have e:lD M (bZ cs st)=.int (bZ cs st):=by unfold lD;rw [if_neg h]
    obtain ⟨y5,y6,y7,y8,hf⟩:=jn F ns (.val (.tuple (cs.map (lD M)))) (st:=st) ((List.range 60).map fun (k:Nat)=>(k:Int)) st (bZ cs st) h0 h1 (by omega) (Int.le_refl _) x7 x8;refine ⟨y5,y6,y7,y8,?_⟩;unfold pM;rw [aC (ρ':=[.val (ff ns),.val (gD ps),.val (.tuple (cs.map (lD M))),.val (.tuple (ps.map (fj cs))),.val (.int st),.val (.int (bZ cs st)),x6,x7,x8]) (by
      rw [bz];simp only [cx,bF,aQ,R.ok_bind,hx,e];rfl)]
    rw [aC (ρ':=[.val (ff ns),.val (gD ps),.val (.tuple (cs.map (lD M))),.val (.tuple (ps.map (fj cs))),.val (.int st),.val (.int (bZ cs st)),.val (.int st),x7,x8]) (by simp)];rw [e9,fV];have hn:h9 (.int (bZ cs st)) .none=.ok (.bool true):=rfl;simp only [gj,bP,cf,cx,dS,bF,aQ,cT,R.ok_bind,hn,jF,if_true,m1,Int.mul_one,r60];rw [go,hf];rfl
theorem iB {M:Int} {ps:List P4} {cs:List Int} (F:Fx M ps cs) (ns:List Int):∀ (ks:List Int),(∀ k∈ks,0<=k/\k < ps.length)->∀ x4 x5 x6 x7 x8:bK,∃ y4 y5 y6 y7 y8,
    dY (aI 4) pM (ks.map .int) [.val (ff ns),.val (gD ps),.val (.tuple (cs.map (lD M))),.val (.tuple (ps.map (fj cs))),x4,x5,x6,x7,x8]=.ok (.nx [.val (ff ns),.val (gD ps),.val (.tuple (cs.map (lD M))),.val (.tuple (ps.map (fj cs))),y4,y5,y6,y7,y8])
  | [],_,x4,x5,x6,x7,x8=>⟨x4,x5,x6,x7,x8,by rw [List.map_nil,eJ]⟩
  | k::ks,h,x4,x5,x6,x7,x8=>by
    obtain ⟨y5,y6,y7,y8,e⟩:=lJ F ns (h k List.mem_cons_self).1 (h k List.mem_cons_self).2 x5 x6 x7 x8;obtain ⟨z4,z5,z6,z7,z8,e2⟩:=iB F ns ks (fun q hq=>h q (List.mem_cons_of_mem _ hq)) (.val (.int k)) y5 y6 y7 y8;refine ⟨z4,z5,z6,z7,z8,?_⟩;rw [List.map_cons,eY,<- e2];show (pM [.val (ff ns),.val (gD ps),.val (.tuple (cs.map (lD M))),.val (.tuple (ps.map (fj cs))),.val (.int k),x5,x6,x7,x8]>>=_)=_;rw [e];rfl
theorem qo {M:Int} (cs:List Int):k9 (.tuple (cs.map (lD M))) (.tuple (cs.map (lD M)))=.ok (.bool false):=by
  have h:∀ x∈cs.map (lD M),gc x/\x.depth=0:=fun x hx=>by
    obtain ⟨c,_,rfl⟩:=List.mem_map.mp hx;unfold lD;split
    · exact ⟨mZ,by simp [PyData.depth]⟩
    · exact ⟨kD _,by simp [PyData.depth]⟩
  have dep:∀ es:List PyData,(∀ x∈es,gc x/\x.depth=0)->PyData.depthAll es=0:=by
    intro es;induction es with
    | nil=>intro _;simp [PyData.depthAll]
    | cons d es ih=>intro h;simp [PyData.depthAll,(h d List.mem_cons_self).2,ih fun x hx=>h x (List.mem_cons_of_mem _ hx)]
  have hg:gc (.tuple (cs.map (lD M))):=lw.mpr fun x hx=>(h x hx).1
  have hd:(PyData.tuple (cs.map (lD M))).depth<=60:=by
    have:=dep _ h;simp only [PyData.depth];omega
  unfold k9;rw [if_pos (by unfold jI;rw [hg];simp;exact hd),PySem.SeqAt.eqv_refl _ hg];rfl
noncomputable def jk (p:P4):P4:=⟨p.w,p.m,p.g%5-2,p.ns⟩
theorem qy {c hi:Int} {p:P4} (h:Pl c hi p):Pl c hi (jk p) :=
  ⟨h.w0,h.w1,h.m0,h.m1,by show -20<=p.g%5-2;omega,by show p.g%5-2<=20;omega,h.ne,h.so,h.inn⟩
theorem oO:rK j7:=fun ns _=>by
  obtain ⟨ps5,hi5,hg5,hpl5,_,n5,_,_⟩:=io ns (most:=5) (by omega) (by omega);obtain ⟨ps8,hi8,hg8,hpl8,_,n8,_,_⟩:=io ns (most:=8) (by omega) (by omega);obtain ⟨v,hv,v0,_⟩:=fS ns (k:=2) (by omega);have ground:∃ ps,k7 ps/\(nD (tE (e2 (dm gU) (e2 cH (bh av (ai (ae 0) (ai (eC (.int 2)) aO))) (eC (.int 3))) (eC (.int 0)))) (aR 1 (e1 dn (bq (c7 (bh aS (ai (ae 0) (ai (eC (.int 8)) aO)))) 1 [] (aI 0) (fun _=>.ok true) (e2 bp (e2 bp (rD (ae 0) gF (gG (eC (.int 2)))) (ls (ai (e2 gi (e2 cH (e2 bT (ae 0) (eC (.int 2))) (eC (.int 5))) (eC (.int 2))) aO))) (rD (ae 0) (gG (eC (.int 3))) gF))))) dD) [.val (ff ns),.val (gD ps5),.non,.non,.non,.non,.non,.non,.non]=.ok (.nx [.val (ff ns),.val (gD ps),.non,.non,.non,.non,.non,.non,.non]):=by
    by_cases h:v%3 > 0
    · refine ⟨ps8.map jk,o8 (hi:=hi8) (fun p hm=>?_) (by rw [List.length_map];omega),?_⟩
      · obtain ⟨q,hq,rfl⟩:=List.mem_map.mp hm;rw [List.length_map];exact qy (hpl8 q hq)
      · have hc:=gt (e2 bp (e2 bp (rD (ae 0) gF (gG (eC (.int 2)))) (ls (ai (e2 gi (e2 cH (e2 bT (ae 0) (eC (.int 2))) (eC (.int 5))) (eC (.int 2))) aO))) (rD (ae 0) (gG (eC (.int 3))) gF)) [] (fun p=>(jk p).d) ps8 fun p _=>by
          have s1:1<=sizeLine:=by decide
          have c1:pK p.d none (some 2)=.ok (.tuple [.int p.w,.int p.m]):=rfl;have c2:pK p.d (some 3) none=.ok (.tuple [.tuple (p.ns.map .int)]):=rfl;have a1:∀ x y z:PyData,bp (.tuple [x,y]) (.tuple [z])=.ok (.tuple [x,y,z]):=fun x y z=>by
            rw [oi,if_pos (show [x,y].length+[z].length<=sizeLine from (by decide:3<=sizeLine))];rfl
          have a2:∀ x y z u:PyData,bp (.tuple [x,y,z]) (.tuple [u])=.ok (.tuple [x,y,z,u]):=fun x y z u=>by
            rw [oi,if_pos (show [x,y,z].length+[u].length<=sizeLine from (by decide:4<=sizeLine))];rfl
          simp -implicitDefEqProofs only [List.set_cons_zero,cx,sv,aQ,oV,oW,cT,R.ok_bind,ue,c1,c2,qg,bP,cf,gr,jG,lr];rw [if_pos (show (0:Int) < 5 by omega),R.ok_bind,lr,R.ok_bind,R.ok_bind,if_pos (show [PyData.int (p.g%5-2)].length<=sizeLine from s1),R.ok_bind,a1,R.ok_bind,a2];rfl
        rw [ix];simp -implicitDefEqProofs only [kU,cx,dC,bP,cf,aQ,cT,R.ok_bind,hv,jG];rw [if_pos (show (0:Int) < 3 by omega),R.ok_bind,jE,R.ok_bind];have hb:gU (v%3) 0=true:=by unfold gU;exact decide_eq_true h
        rw [hb,kn,R.ok_bind,if_pos rfl,bz,dS,bR];simp -implicitDefEqProofs only [ci,dC,bP,cf,aQ,cT,R.ok_bind,hg8,dQ,c8,List.length_map];rw [if_pos (cj (by omega)),show ap 1 [] [.val (ff ns),.val (gD ps5),.non,.non,.non,.non,.non,.non,.non]=[.non] from rfl,hc,cW,R.ok_bind,fP,R.ok_bind];show R.ok (k6.nx [.val (ff ns),.val (.tuple (ps8.map fun p=>(jk p).d)),.non,.non,.non,.non,.non,.non,.non])=_;rw [show gD (ps8.map jk)=.tuple (ps8.map fun p=>(jk p).d) by unfold gD;rw [List.map_map];rfl]
    · refine ⟨ps5,o8 hpl5 (by omega),?_⟩;rw [ix];simp -implicitDefEqProofs only [kU,cx,dC,bP,cf,aQ,cT,R.ok_bind,hv,jG];rw [if_pos (show (0:Int) < 3 by omega),R.ok_bind,jE,R.ok_bind];have hb:gU (v%3) 0=false:=by unfold gU;exact decide_eq_false h
      rw [hb,kn,R.ok_bind];rfl
  obtain ⟨ps,hp,hps⟩:=ground;obtain ⟨j,fx,hr⟩:=oP hp;obtain ⟨j2,fx2,hr2⟩:=lL hp;rw [qr fx2 fx] at hr2;obtain ⟨l0,l1,_⟩:=fR ps hp.g0;have F:Fx (aT ps) ps (bB (aT ps) ps j):=⟨l0,hp,de l0 hp.ne j,fx.symm⟩
  generalize bB (aT ps) ps j=cs at *;have n24:=hp.n24;unfold j7 nN;refine ie ?_;show aJ (aR 1 _) _ [.val (ff ns),.non,.non,.non,.non,.non,.non,.non,.non]=_;rw [aC (ρ':=[.val (ff ns),.val (gD ps5),.non,.non,.non,.non,.non,.non,.non]) (by simp -implicitDefEqProofs [hg5])];rw [aC hps];rw [aC (ρ':=[.val (ff ns),.val (gD ps),.val (.tuple (cs.map (lD (aT ps)))),.val (.tuple (ps.map (fj cs))),.non,.non,.non,.non,.non]) (by
    refine nC _ _ _ _ _ _ ?_;simp -implicitDefEqProofs only [dC,bP,cf,bF,aQ,R.ok_bind,hr])]
  rw [aC (ρ':=[.val (ff ns),.val (gD ps),.val (.tuple (cs.map (lD (aT ps)))),.val (.tuple (ps.map (fj cs))),.non,.non,.non,.non,.non]) (by
    rw [ix];simp -implicitDefEqProofs only [kU,cx,dC,bP,cf,bF,aQ,R.ok_bind,hr2,qo,kn,Bool.false_eq_true,if_false,kO])]
  obtain ⟨y4,y5,y6,y7,y8,hf⟩:=iB F ns ((List.range ps.length).map fun (k:Nat)=>(k:Int)) (fun k hk=>by
    obtain ⟨i,hi,rfl⟩:=List.mem_map.mp hk;have:=List.mem_range.mp hi;omega) .non .non .non .non .non
  rw [aC (ρ':=[.val (ff ns),.val (gD ps),.val (.tuple (cs.map (lD (aT ps)))),.val (.tuple (ps.map (fj cs))),y4,y5,y6,y7,y8]) (by
    rw [e9,fV];have hr:=ph (n:=(ps.length:Int)) (by omega) (by omega);rw [Int.toNat_natCast] at hr;simp -implicitDefEqProofs only [gj,bP,cf,dS,bF,aQ,R.ok_bind,om,List.length_map,hr];rw [iu,hf];rfl)]
  simp
noncomputable def uh:List Stmt:=PySem.Challenge.pw_duelground_k61_whole_least_credit.main.body
noncomputable abbrev top (i:Nat):Stmt:=uh.getD i (.Pass ⟨0,0,0,0⟩)
noncomputable abbrev eO:Stmt:=top 12
noncomputable abbrev dq:Stmt:=top 10
noncomputable abbrev eQ:Stmt:=top 11
noncomputable abbrev eP:Stmt:=top 13
noncomputable abbrev eR:Stmt:=top 14
noncomputable abbrev cX:Stmt:=top 15
noncomputable abbrev bn:Stmt:=top 17
noncomputable abbrev cS:Stmt:=top 7
noncomputable abbrev cF:Stmt:=top 4
noncomputable abbrev cz:Stmt:=top 5
noncomputable abbrev bH:Stmt:=top 6
noncomputable abbrev bS:Stmt:=top 8
noncomputable abbrev fu:Stmt:=top 18
section
variable {P:Program} {w:World} {K:PySem.W.Frag} {mg:Str->Option Value} {base:Heap} {f:Addr} {fd:FuncData} {k:Nat}
theorem j9:aY ["_law_number","_law_k","_law_drawn_here"] ["_law_number","_law_k"] (ah eO):=⟨rfl,rfl,rfl,by decide +kernel,rfl,by decide +kernel,by decide +kernel⟩
theorem jY (W:gy K "_law_drawn" "_law_drawn" eO f fd) :
    bA P w K mg base (cM P w mg) (k+1) f fd ["_law_number","_law_k"] (eu (ej 3 (eA)) 2):=by
  refine bf W j9 (G:=[]) (by decide +kernel) fun cdv A outer s H E hr T=>?_
  exact (aj (ay T 2 rfl (ba (aa (bO (aa (aF (aa (aF (aa (ab T 0 rfl)) (aa (bO (aa af) (aa (ab T 1 rfl)))))) (aa af))) (aa af))) (aa af)))
      (az (aZ (ba (aa (aF (aa (aF (aa (bO (aa (ab T 2 rfl)) (aa (ab T 2 rfl)))) (aa (bO (aa af) (aa (ab T 2 rfl)))))) (aa (ab T 1 rfl)))) (aa af)))))
theorem iM:aY ["_law_script","_law_k"] ["_law_script","_law_k"] (ah dq):=⟨rfl,rfl,rfl,by decide +kernel,rfl,by decide +kernel,by decide +kernel⟩
theorem iF (W:gy K "_law_cell_at" "_law_cell_at" dq f fd) (b_len:mg "len" = none) :
    bA P w K mg base (cM P w mg) (k+1) f fd ["_law_script","_law_k"] (eu (ej 2 (dh)) 2):=by
  refine bf W iM (G:=["len"]) (by decide +kernel) fun cdv A outer s H E hr T=>?_
  exact (aj (dG (kl (aa (ab T 1 rfl)) (aa (fI T 0 rfl b_len (aa (ab T 0 rfl))))) (az (aZ (aB T.hu (aa (ab T 0 rfl)) (aa (ab T 1 rfl)) (fun _ _=>rfl)))) c6)
      (az (aZ af)))
theorem kb:aY ["_law_script","_law_k","_law_drawn_here"] ["_law_script","_law_k"] (ah eQ):=⟨rfl,rfl,rfl,by decide +kernel,rfl,by decide +kernel,by decide +kernel⟩
theorem j0 (W:gy K "_law_mixed" "_law_mixed" eQ f fd) {f5:Addr} {d5:FuncData} {aV:j8} (C5:k5 P w K mg base k "_law_cell_at" ["_law_script","_law_k"] aV f5 d5) :
    bA P w K mg base (cM P w mg) (k+1) f fd ["_law_script","_law_k"] (eu (ej 3 (eD aV)) 2):=by
  refine bf W kb (G:=["_law_cell_at"]) (by decide +kernel) fun cdv A outer s H E hr T=>?_
  exact (aj (ay T 2 rfl (ba (aa (bO (aa (aF (aa (aF (aa (aU C5 hr T 0 rfl (ag (ab T 0 rfl) (ag (ab T 1 rfl) aw)) rfl (ak (ak aG)))) (aa (bO (aa af) (aa (ab T 1 rfl)))))) (aa af))) (aa af))) (aa af)))
      (az (aZ (ba (aa (aF (aa (aF (aa (bO (aa (ab T 2 rfl)) (aa (ab T 2 rfl)))) (aa (bO (aa af) (aa (ab T 2 rfl)))))) (aa (ab T 1 rfl)))) (aa af)))))
theorem ka:aY ["_law_number","_law_count","_law_found","_law_k"] ["_law_number","_law_count"] (ah eP):=⟨rfl,rfl,rfl,by decide +kernel,rfl,by decide +kernel,by decide +kernel⟩
theorem jZ (W:gy K "_law_goals" "_law_goals" eP f fd) {f7:Addr} {d7:FuncData} {ao:j8} (C7:k5 P w K mg base k "_law_drawn" ["_law_number","_law_k"] ao f7 d7) (b_int:mg "int" = none) (b_range:mg "range" = none) (b_sorted:mg "sorted" = none) (b_tuple:mg "tuple" = none) :
    bA P w K mg base (cM P w mg) (k+1) f fd ["_law_number","_law_count"] (eu (ej 4 (eB ao)) 2):=by
  refine bf W ka (G:=["range","int","_law_drawn","tuple","sorted"]) (by decide +kernel) fun cdv A outer s H E hr T=>?_
  exact (aj (kh T 2 rfl kj)
      (aj (cY (have T:=T.nox;fH PassesOwn.never T.calm (dc T 0 rfl b_range (ag (aF (aa (aF (aa af) (aa (ba (aa (ab T 0 rfl)) (aa af))))) (aa (bO (aa af) (aa (eU T 1 rfl b_int (aa (pX T.hu (aa (ba (aa (dz (aa (ab T 0 rfl)) (aa af))) (aa af))) (aa af)))))))) aw) (ak aG)) (aN T 3 rfl) (az (nU T 2 rfl (ba (aa (aU C7 hr T 2 rfl (ag (ab T 0 rfl) (ag (ab T 3 rfl) aw)) rfl (ak (ak aG)))) (aa (ab T 1 rfl))) dw))))
      (az (aZ (cC T 3 rfl b_tuple (cu (jx T 4 rfl b_sorted (hJ T 2 rfl))))))))
theorem kc:aY ["_law_number","_law_count","_law_high","_law_gain"] ["_law_number","_law_count","_law_high"] (ah eR):=⟨rfl,rfl,rfl,by decide +kernel,rfl,by decide +kernel,by decide +kernel⟩
theorem j4 (W:gy K "_law_place" "_law_place" eR f fd) {f7:Addr} {d7:FuncData} {ao:j8} (C7:k5 P w K mg base k "_law_drawn" ["_law_number","_law_k"] ao f7 d7) {f8:Addr} {d8:FuncData} {bu:j8} (C8:k5 P w K mg base k "_law_goals" ["_law_number","_law_count"] bu f8 d8) :
    bA P w K mg base (cM P w mg) (k+1) f fd ["_law_number","_law_count","_law_high"] (eu (ej 4 (eE ao bu)) 3):=by
  refine bf W kc (G:=["_law_goals","_law_drawn"]) (by decide +kernel) fun cdv A outer s H E hr T=>?_
  exact (aj (ay T 3 rfl (eG (aa (ba (aa (dz (aa (ab T 0 rfl)) (aa af))) (aa af))) (aa af)))
      (aj (dG (fK T.hu (aa (ba (aa (dz (aa (ab T 0 rfl)) (aa af))) (aa af))) (aa af)) (az (ay T 3 rfl (eG (aa (ba (aa (dz (aa (ab T 0 rfl)) (aa af))) (aa af))) (aa af)))) c6)
      (az (aZ (g9 (ag (ba (aa (ab T 0 rfl)) (aa af)) (ag (ba (aa (dz (aa (ab T 0 rfl)) (aa af))) (aa (aF (aa (ab T 2 rfl)) (aa af)))) (ag (ab T 3 rfl) (ag (aU C8 hr T 0 rfl (ag (aU C7 hr T 1 rfl (ag (ab T 0 rfl) (ag af aw)) rfl (ak (ak aG))) (ag (ab T 1 rfl) aw)) rfl (ak (ak aG))) aw)))))))))
theorem jv:aY ["_law_script","_law_most","_law_number","_law_count","_law_high"] ["_law_script","_law_most"] (ah cX):=⟨rfl,rfl,rfl,by decide +kernel,rfl,by decide +kernel,by decide +kernel⟩
theorem js (W:gy K "_law_ground" "_law_ground" cX f fd) {f6:Addr} {d6:FuncData} {av:j8} (C6:k5 P w K mg base k "_law_mixed" ["_law_script","_law_k"] av f6 d6) {f9:Addr} {d9:FuncData} {bi:j8} (C9:k5 P w K mg base k "_law_place" ["_law_number","_law_count","_law_high"] bi f9 d9) (b_len:mg "len" = none) (b_max:mg "max" = none) (b_min:mg "min" = none) (b_range:mg "range" = none) (b_tuple:mg "tuple" = none) :
    bA P w K mg base (cM P w mg) (k+1) f fd ["_law_script","_law_most"] (eu (ej 5 (dE av bi)) 2):=by
  refine bf W jv (G:=["_law_mixed","min","max","len","tuple","range"]) (by decide +kernel) fun cdv A outer s H E hr T=>?_
  exact (aj (ay T 2 rfl (aU C6 hr T 0 rfl (ag (ab T 0 rfl) (ag af aw)) rfl (ak (ak aG))))
      (aj (ay T 3 rfl (aF (aa af) (aa (ba (aa (ab T 2 rfl)) (aa (fJ T 1 rfl b_min (aa (ab T 1 rfl)) (aa (dA T 2 rfl b_max (aa af) (aa (fI T 3 rfl b_len (aa (ab T 0 rfl))))))))))))
      (aj (ay T 4 rfl (aB T.hu (cu (eV (ag af (ag af (ag af (ag af (ag af (ag af aw)))))))) (aa (ba (aa (dz (aa (ab T 2 rfl)) (aa af))) (aa af))) (fun _ _=>rfl)))
      (az (aZ (cC T 4 rfl b_tuple (cu (bJ (N:=["_law_k","_law_script","_law_count","_law_high"]) (own:=1) (G:=["_law_place","_law_mixed"]) (fr:=[0,3,4]) T rfl rfl (oN:=["_law_script","_law_most","_law_number","_law_count","_law_high"]) (on:=(ah cX).names) (by decide +kernel) (dc T 5 rfl b_range (ag (ab T 3 rfl) aw) (ak aG)) (bo (by decide)) (fun cl C s' H' fp E' T=>⟨(aN T 0 rfl),bC,(aU C9 hr T 0 rfl (ag (aU C6 hr T 1 rfl (ag (ab T 1 rfl) (ag (aF (aa af) (aa (ab T 0 rfl))) aw)) rfl (ak (ak aG))) (ag (ab T 2 rfl) (ag (ab T 3 rfl) aw))) rfl (ak (ak (ak aG))))⟩)))))))))
theorem iN:aY ["_law_ground_here","_law_cap","_law_least","_law_more","_law_found","_law_place_here","_law_sizes","_law_best"] ["_law_ground_here"] (ah bn):=⟨rfl,rfl,rfl,by decide +kernel,rfl,by decide +kernel,by decide +kernel⟩
theorem iG (W:gy K "_law_through" "_law_through" bn f fd) (b_int:mg "int" = none) (b_max:mg "max" = none) (b_min:mg "min" = none) (b_sum:mg "sum" = none) (b_tuple:mg "tuple" = none) :
    bA P w K mg base (cM P w mg) (k+1) f fd ["_law_ground_here"] (eu (ej 8 (di)) 1):=by
  refine bf W iN (G:=["sum","min","max","int","tuple"]) (by decide +kernel) fun cdv A outer s H E hr T=>?_
  exact (aj (ay T 1 rfl (ki T 0 rfl b_sum (cu (bJ (N:=["_law_place_here"]) (own:=1) (G:=["max"]) (fr:=[]) T rfl rfl (oN:=["_law_ground_here","_law_cap","_law_least","_law_more","_law_found","_law_place_here","_law_sizes","_law_best"]) (on:=(ah bn).names) (by decide +kernel) (bD (ab T 0 rfl)) (bo (by decide)) (fun cl C s' H' fp E' T=>⟨(aN T 0 rfl),bC,(dA T 0 rfl b_max (aa af) (aa (g7 (aa (aB T.hu (aa (ab T 0 rfl)) (aa af) (fun _ _=>rfl))))))⟩)))))
      (aj (ay T 2 rfl (pV (bJ (N:=["_law_place_here"]) (own:=1) (G:=["max"]) (fr:=[]) T rfl rfl (oN:=["_law_ground_here","_law_cap","_law_least","_law_more","_law_found","_law_place_here","_law_sizes","_law_best"]) (on:=(ah bn).names) (by decide +kernel) (bD (ab T 0 rfl)) (bo (by decide)) (fun cl C s' H' fp E' T=>⟨(aN T 0 rfl),bC,(dA T 0 rfl b_max (aa af) (aa (g7 (aa (aB T.hu (aa (ab T 0 rfl)) (aa af) (fun _ _=>rfl))))))⟩))))
      (aj (ay T 3 rfl dw)
      (aj (cY (have T:=T.nox;g6 1000000 PassesOwn.never (mJ (ab T 3 rfl)) (aj (kh T 4 rfl (eV aw))
      (aj (cY (have T:=T.nox;fH PassesOwn.never T.calm (bD (ab T 0 rfl)) (aN T 5 rfl) (aj (eF (du 6 rfl (N:=["_law_goal","_law_least"]) (own:=1) (G:=[]) (fr:=[2]) T rfl rfl (oN:=["_law_ground_here","_law_cap","_law_least","_law_more","_law_found","_law_place_here","_law_sizes","_law_best"]) (on:=(ah bn).names) (by decide +kernel) (bD (aB T.hu (aa (ab T 5 rfl)) (aa af) (fun _ _=>rfl))) (bo (by decide)) (fun cl C s' H' fp E' T=>⟨(aN T 0 rfl),bC,(aB T.hu (aa (ab T 1 rfl)) (aa (ab T 0 rfl)) (fun _ _=>rfl))⟩)) (show 6 < 8 by decide))
      (aj (ay T 7 rfl (aB T.hu (cu (eV (ag (i4 T 1 rfl b_min (aa (ab T 6 rfl))) (ag (i0 T 2 rfl b_max (aa (ab T 6 rfl))) aw)))) (aa (aB T.hu (aa (ab T 5 rfl)) (aa af) (fun _ _=>rfl))) (fun _ _=>rfl)))
      (az (kg T 4 rfl (aF (aa (fJ T 1 rfl b_min (aa (aF (aa (ab T 1 rfl)) (aa af))) (aa (dA T 2 rfl b_max (aa af) (aa (eG (aa (ab T 7 rfl)) (aa (aB T.hu (aa (ab T 5 rfl)) (aa af) (fun _ _=>rfl))))))))) (aa (bO (aa (aF (aa (ab T 1 rfl)) (aa af))) (aa (eU T 3 rfl b_int (aa (lU (aa (ab T 7 rfl)) (aa (ab T 1 rfl)))))))))))))))
      (aj (pW 4 (eF (du 4 rfl (N:=["_law_size","_law_cap"]) (own:=1) (G:=["min"]) (fr:=[1]) T rfl rfl (oN:=["_law_ground_here","_law_cap","_law_least","_law_more","_law_found","_law_place_here","_law_sizes","_law_best"]) (on:=(ah bn).names) (by decide +kernel) (bD (ab T 4 rfl)) (bo (by decide)) (fun cl C s' H' fp E' T=>⟨(aN T 0 rfl),bC,(fJ T 0 rfl b_min (aa (ab T 0 rfl)) (aa (aF (aa (ab T 1 rfl)) (aa af))))⟩)) (show 4 < 8 by decide)))
      (aj (ay T 3 rfl (pY T.hu (hJ T 4 rfl) (aa (ab T 2 rfl))))
      (az (ay T 2 rfl (ab T 4 rfl)))))))))
      (az (aZ (cC T 4 rfl b_tuple (cu (bJ (N:=["_law_size","_law_cap"]) (own:=1) (G:=["int"]) (fr:=[1]) T rfl rfl (oN:=["_law_ground_here","_law_cap","_law_least","_law_more","_law_found","_law_place_here","_law_sizes","_law_best"]) (on:=(ah bn).names) (by decide +kernel) (bD (ab T 2 rfl)) (bo (by decide)) (fun cl C s' H' fp E' T=>⟨(aN T 0 rfl),bC,(aB T.hu (cu (eV (ag (ab T 0 rfl) (ag dB aw)))) (aa (eU T 0 rfl b_int (aa (lU (aa (ab T 0 rfl)) (aa (ab T 1 rfl)))))) (fun _ _=>rfl))⟩))))))))))
theorem gL:aY ["place","needed"] ["place","needed"] (ah cS):=⟨rfl,rfl,rfl,by decide +kernel,rfl,by decide +kernel,by decide +kernel⟩
theorem gI (W:gy K "cheapest_goal" "cheapest_goal" cS f fd) {t_GOALS:Tok} (g_GOALS:mg "GOALS" = some (.int 3 t_GOALS)) (b_min:mg "min" = none) {cL tL:Addr} (nsL:PySem.W.nsIn K mainGlobals "cheapest_goal" = some (some (.ref f))) (tbL:PySem.W.tabIn K "cheapest_goal" = some (cL,tL)) (chL:PySem.W.codeHdIn K cL tL=true) :
    bA P w K mg base (cM P w mg) (k+1) f fd ["place","needed"] (eu (ej 2 (cN)) 2):=by
  refine li W gL (G:=["min","GOALS"]) (by decide +kernel) (.head _) nsL tbL chL fun cdv A outer s H E hr T LX=>?_
  exact (az (aZ (mH T 0 rfl b_min 1 rfl (pj hr) LX ⟨_,rfl,rfl,rfl⟩ rfl rfl rfl rfl (by decide +kernel) rfl rfl (fun _ _ _ _ _ _=>rfl) (by decide +kernel) (by decide +kernel) (by decide +kernel) (aB T.hu (aa (ab T 0 rfl)) (aa (cZ T 1 rfl g_GOALS)) (fun _ _=>rfl)))))
theorem iO:aY ["ground"] ["ground"] (ah cF):=⟨rfl,rfl,rfl,by decide +kernel,rfl,by decide +kernel,by decide +kernel⟩
theorem iH (W:gy K "most_needed" "most_needed" cF f fd) {t_GAIN:Tok} (g_GAIN:mg "GAIN" = some (.int 2 t_GAIN)) (b_max:mg "max" = none) (b_sum:mg "sum" = none) :
    bA P w K mg base (cM P w mg) (k+1) f fd ["ground"] (eu (ej 1 (dj)) 1):=by
  refine bf W iO (G:=["sum"]) (by decide +kernel) fun cdv A outer s H E hr T=>?_
  exact (az (aZ (ki T 0 rfl b_sum (cu (bJ (N:=["place"]) (own:=1) (G:=["max","GAIN"]) (fr:=[]) T rfl rfl (oN:=["ground"]) (on:=(ah cF).names) (by decide +kernel) (bD (ab T 0 rfl)) (bo (by decide)) (fun cl C s' H' fp E' T=>⟨(aN T 0 rfl),bC,(dA T 0 rfl b_max (aa af) (aa (g7 (aa (aB T.hu (aa (ab T 0 rfl)) (aa (cZ T 1 rfl g_GAIN)) (fun _ _=>rfl))))))⟩))))))
theorem gZ:aY ["place","needed","most","asked","ahead"] ["place","needed","most"] (ah cz):=⟨rfl,rfl,rfl,by decide +kernel,rfl,by decide +kernel,by decide +kernel⟩
theorem gW (W:gy K "credit_asked" "credit_asked" cz f fd) {t_GAIN:Tok} (g_GAIN:mg "GAIN" = some (.int 2 t_GAIN)) {t_GOALS:Tok} (g_GOALS:mg "GOALS" = some (.int 3 t_GOALS)) {t_WHO:Tok} (g_WHO:mg "WHO" = some (.int 0 t_WHO)) (b_max:mg "max" = none) (b_min:mg "min" = none) :
    bA P w K mg base (cM P w mg) (k+1) f fd ["place","needed","most"] (eu (ej 5 (c5)) 3):=by
  refine bf W gZ (G:=["GOALS","WHO","min","max","GAIN"]) (by decide +kernel) fun cdv A outer s H E hr T=>?_
  exact (aj (eF (du 3 rfl (N:=["goal","needed"]) (own:=1) (G:=[]) (fr:=[1]) T rfl rfl (oN:=["place","needed","most","asked","ahead"]) (on:=(ah cz).names) (by decide +kernel) (bD (aB T.hu (aa (ab T 0 rfl)) (aa (cZ T 0 rfl g_GOALS)) (fun _ _=>rfl))) (bo (by decide)) (fun cl C s' H' fp E' T=>⟨(aN T 0 rfl),bC,(aB T.hu (aa (ab T 1 rfl)) (aa (ab T 0 rfl)) (fun _ _=>rfl))⟩)) (show 3 < 5 by decide))
      (aj (ay T 4 rfl (fy (fK T.hu (aa (aB T.hu (aa (ab T 0 rfl)) (aa (cZ T 1 rfl g_WHO)) (fun _ _=>rfl))) (aa af)) (i4 T 2 rfl b_min (aa (ab T 3 rfl))) (i0 T 3 rfl b_max (aa (ab T 3 rfl)))))
      (aj (dG (hR (aa (ab T 4 rfl)) (aa (ab T 2 rfl))) (az (aZ (ab T 4 rfl))) c6)
      (az (aZ (fJ T 2 rfl b_min (aa (aF (aa (ab T 2 rfl)) (aa af))) (aa (dA T 3 rfl b_max (aa af) (aa (eG (aa (ab T 4 rfl)) (aa (aB T.hu (aa (ab T 0 rfl)) (aa (cZ T 4 rfl g_GAIN)) (fun _ _=>rfl)))))))))))))
theorem ge:aY ["ground","most","needed","asked"] ["ground","most"] (ah bH):=⟨rfl,rfl,rfl,by decide +kernel,rfl,by decide +kernel,by decide +kernel⟩
theorem fZ (W:gy K "needed_credits" "needed_credits" bH f fd) {f1:Addr} {d1:FuncData} {aA:j8} (C1:k5 P w K mg base k "credit_asked" ["place","needed","most"] aA f1 d1) :
    bA P w K mg base (cM P w mg) (k+1) f fd ["ground","most"] (eu (ej 4 (cB aA)) 2):=by
  refine bf W ge (G:=[]) (by decide +kernel) fun cdv A outer s H E hr T=>?_
  exact (aj (ay T 2 rfl dB)
      (aj (eF (du 3 rfl (N:=["place"]) (own:=1) (G:=[]) (fr:=[]) T rfl rfl (oN:=["ground","most","needed","asked"]) (on:=(ah bH).names) (by decide +kernel) (bD (ab T 0 rfl)) (bo (by decide)) (fun cl C s' H' fp E' T=>⟨(aN T 0 rfl),bC,af⟩)) (show 3 < 4 by decide))
      (aj (cY (have T:=T.nox;g6 1000000 PassesOwn.never (km T.hu (aa (ab T 3 rfl)) (aa (ab T 2 rfl))) (aj (ay T 2 rfl (ab T 3 rfl))
      (az (eF (du 3 rfl (N:=["place","needed","most"]) (own:=1) (G:=["credit_asked"]) (fr:=[2,1]) T rfl rfl (oN:=["ground","most","needed","asked"]) (on:=(ah bH).names) (by decide +kernel) (bD (ab T 0 rfl)) (bo (by decide)) (fun cl C s' H' fp E' T=>⟨(aN T 0 rfl),bC,(aU C1 hr T 0 rfl (ag (ab T 0 rfl) (ag (ab T 1 rfl) (ag (ab T 2 rfl) aw))) rfl (ak (ak (ak aG))))⟩)) (show 3 < 4 by decide))))))
      (az (aZ (ab T 2 rfl))))))
theorem gM:aY ["ground","most","needed","least","moves"] ["ground"] (ah bS):=⟨rfl,rfl,rfl,by decide +kernel,rfl,by decide +kernel,by decide +kernel⟩
theorem gJ (W:gy K "least_credits" "least_credits" bS f fd) {f3:Addr} {d3:FuncData} {aD:j8} (C3:k5 P w K mg base k "cheapest_goal" ["place","needed"] aD f3 d3) {f0:Addr} {d0:FuncData} {aX:j8} (C0:k5 P w K mg base k "most_needed" ["ground"] aX f0 d0) {f2:Addr} {d2:FuncData} {aE:j8} (C2:k5 P w K mg base k "needed_credits" ["ground","most"] aE f2 d2) {t_WHO:Tok} (g_WHO:mg "WHO" = some (.int 0 t_WHO)) (b_tuple:mg "tuple" = none) :
    bA P w K mg base (cM P w mg) (k+1) f fd ["ground"] (eu (ej 5 (cO aD aX aE)) 1):=by
  refine bf W gM (G:=["most_needed","needed_credits","tuple"]) (by decide +kernel) fun cdv A outer s H E hr T=>?_
  exact (aj (ay T 1 rfl (aU C0 hr T 0 rfl (ag (ab T 0 rfl) aw) rfl (ak aG)))
      (aj (ay T 2 rfl (aU C2 hr T 1 rfl (ag (ab T 0 rfl) (ag (ab T 1 rfl) aw)) rfl (ak (ak aG))))
      (aj (ay T 3 rfl (cC T 2 rfl b_tuple (cu (bJ (N:=["credit","most"]) (own:=1) (G:=[]) (fr:=[1]) T rfl rfl (oN:=["ground","most","needed","least","moves"]) (on:=(ah bS).names) (by decide +kernel) (bD (ab T 2 rfl)) (bo (by decide)) (fun cl C s' H' fp E' T=>⟨(aN T 0 rfl),bC,(fy (hR (aa (ab T 0 rfl)) (aa (ab T 1 rfl))) dB (ab T 0 rfl))⟩)))))
      (aj (ay T 4 rfl (cC T 2 rfl b_tuple (cu (bJ (N:=["place","needed"]) (own:=1) (G:=["WHO","cheapest_goal"]) (fr:=[2]) T rfl rfl (oN:=["ground","most","needed","least","moves"]) (on:=(ah bS).names) (by decide +kernel) (bD (ab T 0 rfl)) (bo (by decide)) (fun cl C s' H' fp E' T=>⟨(aN T 0 rfl),bC,(fy (fK T.hu (aa (aB T.hu (aa (ab T 0 rfl)) (aa (cZ T 0 rfl g_WHO)) (fun _ _=>rfl))) (aa af)) (aU C3 hr T 1 rfl (ag (ab T 0 rfl) (ag (ab T 1 rfl) aw)) rfl (ak (ak aG))) dB)⟩)))))
      (az (aZ (g9 (ag (ab T 3 rfl) (ag (ab T 4 rfl) aw)))))))))
theorem uc:aY ["_law_script","_law_ground_here","_law_least","_law_moves","_law_start","_law_credit","_law_at","_law_k","_law_going"] ["_law_script"] (ah fu):=⟨rfl,rfl,rfl,by decide +kernel,rfl,by decide +kernel,by decide +kernel⟩
theorem t7 (W:gy K "law" "law" fu f fd) {f7:Addr} {d7:FuncData} {ao:j8} (C7:k5 P w K mg base k "_law_drawn" ["_law_number","_law_k"] ao f7 d7) {f10:Addr} {d10:FuncData} {aS:j8} (C10:k5 P w K mg base k "_law_ground" ["_law_script","_law_most"] aS f10 d10) {f6:Addr} {d6:FuncData} {av:j8} (C6:k5 P w K mg base k "_law_mixed" ["_law_script","_law_k"] av f6 d6) {f12:Addr} {d12:FuncData} {aW:j8} (C12:k5 P w K mg base k "_law_through" ["_law_ground_here"] aW f12 d12) {f4:Addr} {d4:FuncData} {aK:j8} (C4:k5 P w K mg base k "least_credits" ["ground"] aK f4 d4) (b_int:mg "int" = none) (b_len:mg "len" = none) (b_range:mg "range" = none) (b_tuple:mg "tuple" = none) :
    bA P w K mg base (cM P w mg) (k+1) f fd ["_law_script"] (eu (ej 9 (nN ao aS av aW aK)) 1):=by
  refine bf W uc (G:=["_law_ground","_law_mixed","tuple","least_credits","_law_through","range","len","int","_law_drawn"]) (by decide +kernel) fun cdv A outer s H E hr T=>?_
  exact (aj (ay T 1 rfl (aU C10 hr T 0 rfl (ag (ab T 0 rfl) (ag af aw)) rfl (ak (ak aG))))
      (aj (dG (hR (aa (ba (aa (aU C6 hr T 1 rfl (ag (ab T 0 rfl) (ag af aw)) rfl (ak (ak aG)))) (aa af))) (aa af)) (az (ay T 1 rfl (cC T 2 rfl b_tuple (cu (bJ (N:=["_law_place_here"]) (own:=1) (G:=[]) (fr:=[]) T rfl rfl (oN:=["_law_script","_law_ground_here","_law_least","_law_moves","_law_start","_law_credit","_law_at","_law_k","_law_going"]) (on:=(ah fu).names) (by decide +kernel) (bD (aU C10 hr T 0 rfl (ag (ab T 0 rfl) (ag af aw)) rfl (ak (ak aG)))) (bo (by decide)) (fun cl C s' H' fp E' T=>⟨(aN T 0 rfl),bC,(aF (aa (aF (aa (g8 (aa (ab T 0 rfl)) iY (iZ af))) (aa (g9 (ag (eG (aa (ba (aa (aB T.hu (aa (ab T 0 rfl)) (aa af) (fun _ _=>rfl))) (aa af))) (aa af)) aw))))) (aa (g8 (aa (ab T 0 rfl)) (iZ af) iY)))⟩)))))) c6)
      (aj (nT (aU C4 hr T 3 rfl (ag (ab T 1 rfl) aw) rfl (ak aG)) (mG T 2 3 rfl rfl))
      (aj (dG (km T.hu (aa (ab T 2 rfl)) (aa (aU C12 hr T 4 rfl (ag (ab T 1 rfl) aw) rfl (ak aG)))) (az (aZ dw)) c6)
      (aj (cY (have T:=T.nox;fH PassesOwn.never T.calm (dc T 5 rfl b_range (ag (fI T 6 rfl b_len (aa (ab T 1 rfl))) aw) (ak aG)) (aN T 4 rfl) (aj (ay T 5 rfl (aB T.hu (aa (ab T 2 rfl)) (aa (ab T 4 rfl)) (fun _ _=>rfl)))
      (aj (ay T 6 rfl (ab T 4 rfl))
      (az (cY (have T:=T.nox;fH PassesOwn.never T.calm (dc T 5 rfl b_range (ag (bO (aa af) (aa (eU T 7 rfl b_int (aa (mI (aa (ab T 5 rfl)) (aa dB)))))) aw) (ak aG)) (aN T 7 rfl) (aj (ay T 5 rfl (aF (aa (ab T 5 rfl)) (aa (aB T.hu (aa (aB T.hu (aa (ab T 1 rfl)) (aa (ab T 6 rfl)) (fun _ _=>rfl))) (aa af) (fun _ _=>rfl)))))
      (aj (dG (kl (aa (ab T 5 rfl)) (aa af)) (az (aZ dw)) c6)
      (aj (ay T 8 rfl (aB T.hu (aa (aB T.hu (aa (aB T.hu (aa (ab T 1 rfl)) (aa (ab T 6 rfl)) (fun _ _=>rfl))) (aa af) (fun _ _=>rfl))) (aa (ba (aa (aU C7 hr T 8 rfl (ag (aU C6 hr T 1 rfl (ag (ab T 0 rfl) (ag af aw)) rfl (ak (ak aG))) (ag (aF (aa (bO (aa af) (aa (ab T 4 rfl)))) (aa (ab T 7 rfl))) aw)) rfl (ak (ak aG)))) (aa (fI T 6 rfl b_len (aa (aB T.hu (aa (aB T.hu (aa (ab T 1 rfl)) (aa (ab T 6 rfl)) (fun _ _=>rfl))) (aa af) (fun _ _=>rfl))))))) (fun _ _=>rfl)))
      (aj (dG (fK T.hu (aa (aB T.hu (aa (aB T.hu (aa (ab T 1 rfl)) (aa (ab T 6 rfl)) (fun _ _=>rfl))) (aa af) (fun _ _=>rfl))) (aa af)) (az (ay T 8 rfl (aB T.hu (aa (ab T 3 rfl)) (aa (ab T 6 rfl)) (fun _ _=>rfl)))) c6)
      (az (ay T 6 rfl (ab T 8 rfl))))))))))))))
      (az (aZ dw)))))))
end
theorem sg {l:PySem.W.OpenLaw} {w:World} {K:PySem.W.Frag} {h:Heap} {mg:Str->Option Value} {fa:Addr} (X:K.In h) (G:h.Ns mainGlobals mg) (hfa:mg "law" = some (.ref fa))
    {f12:Addr} {od12 an12:Option Addr} {sl12:Array (Option Value)} {oc12 kV12 dc12 pm12 cd12 ct12:Value}
    {f0:Addr} {d0:FuncData} (q0:dr K "_law_drawn" eO f0 d0)
    {f1:Addr} {d1:FuncData} (q1:dr K "_law_cell_at" dq f1 d1)
    {f2:Addr} {d2:FuncData} (q2:dr K "_law_mixed" eQ f2 d2)
    {f3:Addr} {d3:FuncData} (q3:dr K "_law_goals" eP f3 d3)
    {f4:Addr} {d4:FuncData} (q4:dr K "_law_place" eR f4 d4)
    {f5:Addr} {d5:FuncData} (q5:dr K "_law_ground" cX f5 d5)
    {f6:Addr} {d6:FuncData} (q6:dr K "_law_through" bn f6 d6)
    {f7:Addr} {d7:FuncData} (q7:dr K "cheapest_goal" cS f7 d7)
    {cL tL:Addr} (qtb:PySem.W.tabIn K "cheapest_goal" = some (cL,tL)) (qch:PySem.W.codeHdIn K cL tL=true)
    {f8:Addr} {d8:FuncData} (q8:dr K "most_needed" cF f8 d8)
    {f9:Addr} {d9:FuncData} (q9:dr K "credit_asked" cz f9 d9)
    {f10:Addr} {d10:FuncData} (q10:dr K "needed_credits" bH f10 d10)
    {f11:Addr} {d11:FuncData} (q11:dr K "least_credits" bS f11 d11)
    (a12:PySem.W.nsIn K mainGlobals "law" = some (some (.ref f12))) (l12:K.lookup f12=some ⟨oc12,od12,.func (PySem.W.fnOf "law" "law" (cg fu) (br fu) (ah fu) .none kV12 dc12 pm12 an12 cd12 ct12),sl12⟩) (c12:PySem.W.codeIn K cd12 "law" = true) (k12:PySem.W.keepIn K (.ref f12)=true)
    {t0:Tok} (qg0:PySem.W.nsIn K mainGlobals "GAIN" = some (some (.int 2 t0)))
    {t1:Tok} (qg1:PySem.W.nsIn K mainGlobals "GOALS" = some (some (.int 3 t1)))
    {t2:Tok} (qg2:PySem.W.nsIn K mainGlobals "WHO" = some (some (.int 0 t2)))
    (qz0:PySem.W.nsIn K mainGlobals "int" = some none)
    (qz1:PySem.W.nsIn K mainGlobals "len" = some none)
    (qz2:PySem.W.nsIn K mainGlobals "max" = some none)
    (qz3:PySem.W.nsIn K mainGlobals "min" = some none)
    (qz4:PySem.W.nsIn K mainGlobals "range" = some none)
    (qz5:PySem.W.nsIn K mainGlobals "sorted" = some none)
    (qz6:PySem.W.nsIn K mainGlobals "sum" = some none)
    (qz7:PySem.W.nsIn K mainGlobals "tuple" = some none)
    (nl:gT K=true) :
    gT K=true/\∃ fd:FuncData,(∀ (s:Shared) (v:Value),BindsTo s fd ⟨[v],[]⟩ [("_law_script",v)])/\∀ base:Heap,K.In base->base.Ns mainGlobals mg->bA l.prog w K mg base (cM l.prog w mg) 5 fa fd ["_law_script"] (eu j7 1):=by
  have e:=hfa.symm.trans (PySem.W.mg_of X G a12);cases e;have b0:bY K d0 ["_law_number","_law_k"] []:=sj q0.fn fun _ _ _ _ _ _ _ _=>rfl
  have m0:=PySem.W.mg_of X G q0.ns;have b1:bY K d1 ["_law_script","_law_k"] []:=sj q1.fn fun _ _ _ _ _ _ _ _=>rfl
  have m1:=PySem.W.mg_of X G q1.ns;have b2:bY K d2 ["_law_script","_law_k"] []:=sj q2.fn fun _ _ _ _ _ _ _ _=>rfl
  have m2:=PySem.W.mg_of X G q2.ns;have b3:bY K d3 ["_law_number","_law_count"] []:=sj q3.fn fun _ _ _ _ _ _ _ _=>rfl
  have m3:=PySem.W.mg_of X G q3.ns;have b4:bY K d4 ["_law_number","_law_count","_law_high"] []:=xa q4.fn fun _ _ _ _ _ _ _ _ _=>rfl
  have m4:=PySem.W.mg_of X G q4.ns;have b5:bY K d5 ["_law_script","_law_most"] []:=sj q5.fn fun _ _ _ _ _ _ _ _=>rfl
  have m5:=PySem.W.mg_of X G q5.ns;have b6:bY K d6 ["_law_ground_here"] []:=wo q6.fn fun _ _ _ _ _ _ _=>rfl
  have m6:=PySem.W.mg_of X G q6.ns;have b7:bY K d7 ["place","needed"] []:=sj q7.fn fun _ _ _ _ _ _ _ _=>rfl
  have m7:=PySem.W.mg_of X G q7.ns;have b8:bY K d8 ["ground"] []:=wo q8.fn fun _ _ _ _ _ _ _=>rfl
  have m8:=PySem.W.mg_of X G q8.ns;have b9:bY K d9 ["place","needed","most"] []:=xa q9.fn fun _ _ _ _ _ _ _ _ _=>rfl
  have m9:=PySem.W.mg_of X G q9.ns;have b10:bY K d10 ["ground","most"] []:=sj q10.fn fun _ _ _ _ _ _ _ _=>rfl
  have m10:=PySem.W.mg_of X G q10.ns;have b11:bY K d11 ["ground"] []:=wo q11.fn fun _ _ _ _ _ _ _=>rfl
  have m11:=PySem.W.mg_of X G q11.ns;have F12:=oz (st:=fu) l12 c12 k12;have h0:=PySem.W.mg_of X G qg0;have h1:=PySem.W.mg_of X G qg1;have h2:=PySem.W.mg_of X G qg2;have y0:=PySem.W.mg_none_of X G qz0;have y1:=PySem.W.mg_none_of X G qz1;have y2:=PySem.W.mg_none_of X G qz2;have y3:=PySem.W.mg_none_of X G qz3;have y4:=PySem.W.mg_none_of X G qz4;have y5:=PySem.W.mg_none_of X G qz5;have y6:=PySem.W.mg_none_of X G qz6;have y7:=PySem.W.mg_none_of X G qz7;refine ⟨nl,PySem.W.fnOf "law" "law" (cg fu) (br fu) (ah fu) .none kV12 dc12 pm12 an12 cd12 ct12,fun s v=>.of_eq rfl,fun base _ _=>?_⟩;have Q0:bA l.prog w K mg base (cM l.prog w mg) 1 f0 _ ["_law_number","_law_k"] (eu ao 2):=jY (k:=0) (W:=q0.fn);have Q1:bA l.prog w K mg base (cM l.prog w mg) 1 f1 _ ["_law_script","_law_k"] (eu aV 2):=iF (k:=0) (W:=q1.fn) (b_len:=y1);have Q2:bA l.prog w K mg base (cM l.prog w mg) 2 f2 _ ["_law_script","_law_k"] (eu av 2):=j0 (k:=1) (W:=q2.fn) (C5:=⟨Q1.mono (by decide),m1,q1.fn.kp,b1⟩);have Q3:bA l.prog w K mg base (cM l.prog w mg) 2 f3 _ ["_law_number","_law_count"] (eu bu 2):=jZ (k:=1) (W:=q3.fn) (C7:=⟨Q0.mono (by decide),m0,q0.fn.kp,b0⟩) (b_int:=y0) (b_range:=y4) (b_sorted:=y5) (b_tuple:=y7);have Q4:bA l.prog w K mg base (cM l.prog w mg) 3 f4 _ ["_law_number","_law_count","_law_high"] (eu bi 3):=j4 (k:=2) (W:=q4.fn) (C7:=⟨Q0.mono (by decide),m0,q0.fn.kp,b0⟩) (C8:=⟨Q3.mono (by decide),m3,q3.fn.kp,b3⟩);have Q5:bA l.prog w K mg base (cM l.prog w mg) 4 f5 _ ["_law_script","_law_most"] (eu aS 2):=js (k:=3) (W:=q5.fn) (C6:=⟨Q2.mono (by decide),m2,q2.fn.kp,b2⟩) (C9:=⟨Q4.mono (by decide),m4,q4.fn.kp,b4⟩) (b_len:=y1) (b_max:=y2) (b_min:=y3) (b_range:=y4) (b_tuple:=y7);have Q6:bA l.prog w K mg base (cM l.prog w mg) 1 f6 _ ["_law_ground_here"] (eu aW 1):=iG (k:=0) (W:=q6.fn) (b_int:=y0) (b_max:=y2) (b_min:=y3) (b_sum:=y6) (b_tuple:=y7);have Q7:bA l.prog w K mg base (cM l.prog w mg) 1 f7 _ ["place","needed"] (eu aD 2):=gI (k:=0) (W:=q7.fn) (nsL:=q7.ns) (tbL:=qtb) (chL:=qch) (g_GOALS:=h1) (b_min:=y3);have Q8:bA l.prog w K mg base (cM l.prog w mg) 1 f8 _ ["ground"] (eu aX 1):=iH (k:=0) (W:=q8.fn) (g_GAIN:=h0) (b_max:=y2) (b_sum:=y6);have Q9:bA l.prog w K mg base (cM l.prog w mg) 1 f9 _ ["place","needed","most"] (eu aA 3):=gW (k:=0) (W:=q9.fn) (g_GAIN:=h0) (g_GOALS:=h1) (g_WHO:=h2) (b_max:=y2) (b_min:=y3);have Q10:bA l.prog w K mg base (cM l.prog w mg) 2 f10 _ ["ground","most"] (eu aE 2):=fZ (k:=1) (W:=q10.fn) (C1:=⟨Q9.mono (by decide),m9,q9.fn.kp,b9⟩);have Q11:bA l.prog w K mg base (cM l.prog w mg) 3 f11 _ ["ground"] (eu aK 1):=gJ (k:=2) (W:=q11.fn) (C3:=⟨Q7.mono (by decide),m7,q7.fn.kp,b7⟩) (C0:=⟨Q8.mono (by decide),m8,q8.fn.kp,b8⟩) (C2:=⟨Q10.mono (by decide),m10,q10.fn.kp,b10⟩) (g_WHO:=h2) (b_tuple:=y7);have Q12:bA l.prog w K mg base (cM l.prog w mg) 5 fa _ ["_law_script"] (eu j7 1):=t7 (k:=4) (W:=F12) (C7:=⟨Q0.mono (by decide),m0,q0.fn.kp,b0⟩) (C10:=⟨Q5.mono (by decide),m5,q5.fn.kp,b5⟩) (C6:=⟨Q2.mono (by decide),m2,q2.fn.kp,b2⟩) (C12:=⟨Q6.mono (by decide),m6,q6.fn.kp,b6⟩) (C4:=⟨Q11.mono (by decide),m11,q11.fn.kp,b11⟩) (b_int:=y0) (b_len:=y1) (b_range:=y4) (b_tuple:=y7);exact Q12
end G
open PySem PySem.W PyProof.Rows
set_option maxRecDepth 100000 in
set_option maxHeartbeats 0 in
theorem PySem.Challenge.cw_duelground_k61_whole_least_credit_holds : PySem.Challenge.rw_duelground_k61_whole_least_credit.Holds := by
  w_on;o_law;k_head;(case hw=>w_witness2)
  k_fill
  refine' D2.w5 (l:=PySem.Challenge.rw_duelground_k61_whole_least_credit) (k:=5) (x := "_law_script") (F:=G.j7) rfl rfl ⟨rfl,by decide,by decide⟩ (fun w h Y=>PySem.W.km_in_of Y) G.oO ?hq ?ht ?nt ?F
  (case hq=>exact rfl)
  (case ht=>intro w;refine' D2.kW ?xxa ?xxb ?xxc ?xxd ?xxe;(case xxa=>k_is);(case xxb=>k_is);(case xxc=>exact rfl);(case xxd=>k_is);(case xxe=>exact rfl))
  (case nt=>intro w;first | rfl | k_is | decide)
  case F =>
    intro w mg fa h KX GG hmg;refine' G.sg KX GG hmg ?q0 ?q1 ?q2 ?q3 ?q4 ?q5 ?q6 ?q7 ?qtb ?qch ?q8 ?q9 ?q10 ?q11 ?a12 ?l12 ?c12 ?k12 ?qg0 ?qg1 ?qg2 ?qz0 ?qz1 ?qz2 ?qz3 ?qz4 ?qz5 ?qz6 ?qz7 ?nl
    (case q0=>refine' D2.bQ ?a ?l ?c ?k;(case a=>k_is);(case l=>k_is);(case c=>k_is);(case k=>k_is))
    (case q1=>refine' D2.bQ ?a ?l ?c ?k;(case a=>k_is);(case l=>k_is);(case c=>k_is);(case k=>k_is))
    (case q2=>refine' D2.bQ ?a ?l ?c ?k;(case a=>k_is);(case l=>k_is);(case c=>k_is);(case k=>k_is))
    (case q3=>refine' D2.bQ ?a ?l ?c ?k;(case a=>k_is);(case l=>k_is);(case c=>k_is);(case k=>k_is))
    (case q4=>refine' D2.bQ ?a ?l ?c ?k;(case a=>k_is);(case l=>k_is);(case c=>k_is);(case k=>k_is))
    (case q5=>refine' D2.bQ ?a ?l ?c ?k;(case a=>k_is);(case l=>k_is);(case c=>k_is);(case k=>k_is))
    (case q6=>refine' D2.bQ ?a ?l ?c ?k;(case a=>k_is);(case l=>k_is);(case c=>k_is);(case k=>k_is))
    (case q7=>refine' D2.bQ ?a ?l ?c ?k;(case a=>k_is);(case l=>k_is);(case c=>k_is);(case k=>k_is))
    (case qtb=>refine' D2.kW ?yya ?yyb ?yyc ?yyd ?yye;(case yya=>k_is);(case yyb=>k_is);(case yyc=>exact rfl);(case yyd=>k_is);(case yye=>exact rfl))
    (case qch=>refine' D2.mT ?zza ?zzb;(case zza=>k_is);(case zzb=>exact rfl))
    (case q8=>refine' D2.bQ ?a ?l ?c ?k;(case a=>k_is);(case l=>k_is);(case c=>k_is);(case k=>k_is))
    (case q9=>refine' D2.bQ ?a ?l ?c ?k;(case a=>k_is);(case l=>k_is);(case c=>k_is);(case k=>k_is))
    (case q10=>refine' D2.bQ ?a ?l ?c ?k;(case a=>k_is);(case l=>k_is);(case c=>k_is);(case k=>k_is))
    (case q11=>refine' D2.bQ ?a ?l ?c ?k;(case a=>k_is);(case l=>k_is);(case c=>k_is);(case k=>k_is))
    (case a12=>k_is)
    (case l12=>k_is)
    (case c12=>k_is)
    (case k12=>k_is)
    (case qg0=>k_is)
    (case qg1=>k_is)
    (case qg2=>k_is)
    (case qz0=>k_is)
    (case qz1=>k_is)
    (case qz2=>k_is)
    (case qz3=>k_is)
    (case qz4=>k_is)
    (case qz5=>k_is)
    (case qz6=>k_is)
    (case qz7=>k_is)
    (case nl=>first | rfl | k_is | decide)

import PyProof.Rows.All
import Wide.All
import OpenK.AllK
import Wide.FinOn
import Lean
import PyProof.EqAt
import PyProof.EqKinds
import PyProof.TupleCall
import PySem.Challenge.RW_duelground_k81_whole_folded
set_option Elab.async false
set_option linter.all false
set_option maxRecDepth 100000
set_option bootstrap.genMatcherCode false
set_option genSizeOf false
set_option compiler.extract_closed false
set_option genSizeOfSpec false
local macro_rules | `(tactic| omega) => `(tactic| first | lia | omega +splitDisjunctions)
namespace L2
open PySem PySem.Spec PyProof.Rows
noncomputable abbrev di:=Sum Int Str
noncomputable def oS:di->Value->Bool
  | .inl k,v=>Value.isInt k v
  | .inr x,v=>Value.isStrOf x v
noncomputable def Iv (w:World):di->Int
  | .inl k=>hashInt k
  | .inr x=>hashStr w x
theorem cK:∀ {k:di} {v:Value},oS k v=true->(∃ i t,k=Sum.inl i/\v=Value.int i t)\/(∃ x t,k=Sum.inr x/\v=Value.str x t)
  | .inl i,v,h=>by
    obtain ⟨t,e⟩:=Value.isInt_shape (k:=i) (v:=v) h;exact .inl ⟨i,t,rfl,e⟩
  | .inr x,v,h=>by
    obtain ⟨t,e⟩:=Value.isStrOf_shape (x:=x) (v:=v) h;exact .inr ⟨x,t,rfl,e⟩
theorem xP (i:Int) (t:Tok):oS (.inl i) (.int i t)=true:=by simp [oS,Value.isInt]
theorem xQ (x:Str) (t:Tok):oS (.inr x) (.str x t)=true:=by simp [oS,Value.isStrOf]
theorem Ee (a b:Int):decide ((Sum.inl a:di)=Sum.inl b)=(a==b):=by
  by_cases e:a=b
  · subst e;simp
  · have h:¬ (Sum.inl a:di)=Sum.inl b:=fun q=>e (Sum.inl.inj q)
    rw [decide_eq_false h];exact (beq_eq_false_iff_ne.mpr e).symm
theorem Eh (a b:Str):decide ((Sum.inr a:di)=Sum.inr b)=decide (a=b):=by
  by_cases e:a=b
  · subst e;simp
  · have h:¬ (Sum.inr a:di)=Sum.inr b:=fun q=>e (Sum.inr.inj q)
    rw [decide_eq_false h,decide_eq_false e]
theorem Ef (a:Int) (b:Str):decide ((Sum.inl a:di)=Sum.inr b)=false:=decide_eq_false (fun q=>nomatch q)
theorem Eg (a:Str) (b:Int):decide ((Sum.inr a:di)=Sum.inl b)=false:=decide_eq_false (fun q=>nomatch q)
noncomputable def dC (prog:Program) (w:World):PySem.KeyKind prog w di where
  is:=oS
  hash:=Iv w
  inj:=fun v a b ha hb=>by
    rcases cK ha with ⟨i,t,rfl,rfl⟩ | ⟨x,t,rfl,rfl⟩
    · rcases cK hb with ⟨j,u,rfl,e⟩ | ⟨y,u,rfl,e⟩
      · injection e with e1 _;rw [e1]
      · exact nomatch e
    · rcases cK hb with ⟨j,u,rfl,e⟩ | ⟨y,u,rfl,e⟩
      · exact nomatch e
      · injection e with e1 _;rw [e1]
  byValue:=fun k v h=>by
    rcases cK h with ⟨i,t,rfl,rfl⟩ | ⟨x,t,rfl,rfl⟩ <;> rfl
  pyHash:=fun hv h=>by
    rcases cK hv with ⟨i,t,rfl,rfl⟩ | ⟨x,t,rfl,rfl⟩
    · exact wpAny_pyHash_int h
    · exact wpAny_pyHash_str h
  eqBool:=fun hu hv h=>by
    rcases cK hu with ⟨i,t,rfl,rfl⟩ | ⟨x,t,rfl,rfl⟩
    · rcases cK hv with ⟨j,u,rfl,rfl⟩ | ⟨y,u,rfl,rfl⟩
      · rw [Ee] at h;exact wpAny_eqBool_int h
      · rw [Ef] at h;exact SeqAt.EqAt.int_str i t y u _ _ _ _ h
    · rcases cK hv with ⟨j,u,rfl,rfl⟩ | ⟨y,u,rfl,rfl⟩
      · rw [Eg] at h;exact SeqAt.EqAt.str_int x t j u _ _ _ _ h
      · rw [Eh] at h;exact wpAny_eqBool_str h
  «strs»:=fun k x t v h=>by
    rcases cK h with ⟨i,u,rfl,e⟩ | ⟨y,u,rfl,e⟩
    · exact nomatch e
    · injection e with e1 _
      subst e1;cases v <;> rfl
theorem tT (prog:Program) (w:World) (i:Int) (t:Tok):(dC prog w).is (.inl i) (.int i t)=true:=xP i t
theorem tU (prog:Program) (w:World) (x:Str) (t:Tok):(dC prog w).is (.inr x) (.str x t)=true:=xQ x t
inductive V where
  | non | bl (b:Bool) | int (i:Int) | str (x:Str) | byt (b:Array UInt8) | flt (b:UInt64) | ref (a:Addr) | ty (n:String)
  deriving DecidableEq
noncomputable def ca:V->Value->Prop
  | .non,u=>u=Value.none
  | .bl b,u=>u=Value.bool b
  | .int i,u=>∃ t,u=Value.int i t
  | .str x,u=>∃ t,u=Value.str x t
  | .byt b,u=>∃ t,u=Value.bytes b t
  | .flt b,u=>∃ t,u=Value.float b t
  | .ref a,u=>u=Value.ref a
  | .ty n,u=>u=Value.type n
noncomputable abbrev bH:List V->List Value->Prop:=Paired ca
theorem bH.length {xs:List V} {us:List Value} (r:bH xs us):xs.length=us.length:=Paired.length r
theorem bH.get:∀ {xs:List V} {us:List Value} {i:Nat} {x:V},bH xs us->xs[i]?=some x->∃ u,us[i]?=some u/\ca x u
  | _,_,_,_,.nil,e=>by simp at e
  | _,_,0,_,.cons r _,e=>by simp at e;subst e;exact ⟨_,rfl,r⟩
  | _,_,i+1,x,.cons _ t,e=>by
    obtain ⟨u,h1,h2⟩:=bH.get (i:=i) (x:=x) t (by simpa using e);exact ⟨u,by simpa using h1,h2⟩
theorem bH.set {x:V} {u:Value} (r:ca x u):∀ {xs:List V} {us:List Value} (i:Nat),bH xs us->bH (xs.set i x) (us.set i u)
  | _,_,_,.nil=>.nil
  | _,_,0,.cons _ t=>.cons r t
  | _,_,i+1,.cons q t=>.cons q (bH.set r i t)
theorem bH.append:∀ {xs ys:List V} {us ws:List Value},bH xs us->bH ys ws->bH (xs++ys) (us++ws)
  | _,_,_,_,.nil,s=>s
  | _,_,_,_,.cons r t,s=>.cons r (bH.append t s)
theorem bH.take:∀ {xs:List V} {us:List Value} (n:Nat),bH xs us->bH (xs.take n) (us.take n)
  | _,_,0,_=>.nil
  | _,_,_+1,.nil=>.nil
  | _,_,n+1,.cons r t=>.cons r (bH.take n t)
theorem bH.drop:∀ {xs:List V} {us:List Value} (n:Nat),bH xs us->bH (xs.drop n) (us.drop n)
  | _,_,0,r=>r
  | _,_,_+1,.nil=>.nil
  | _,_,n+1,.cons _ t=>bH.drop n t
noncomputable def lV:Option V->Option Value->Prop
  | some v,some u=>ca v u
  | none,none=>True
  | _,_=>False
noncomputable def KV {κ:Type}:List (κ×V)->List (κ×Value)->Prop:=Paired fun (p:κ×V) (q:κ×Value)=>p.1=q.1/\ca p.2 q.2
noncomputable def kV:di->V
  | .inl i=>.int i
  | .inr x=>.str x
inductive HO where
  /-- a list -/
  | lst (xs:List V)
  /-- a tuple (never changes) -/
  | tup (xs:List V)
  /-- a dict whose keys are ints and texts;one whose keys are tuples of ints and texts (the empty one is both) -/
  | dK (kvs:List (di×V)) | dT (kvs:List (List di×V))
  /-- a set of ints: its members,its size -/
  | set (S:Int->Bool) (n:Nat)
  /-- an instance of the class at C,its dict at dx,its attributes -/
  | ins (C dx:Addr) (fs:List (Str×V))
  /-- the dict of the instance at x -/
  | own (x:Addr)
  /-- the dict of an exception -/
  | xd (fs:List (Str×V))
  /-- a bound method,f of x -/
  | met (f x:Addr)
  /-- a range object lo,lo+1,.. below hi -/
  | rng (lo hi:Int)
  /-- a thing that is known to the object (the script;a dict while a loop walks it): read,never written while it is so -/
  | frz (o:Obj) (u:HO)
  /-- a code object's table -/
  | tbl (ps:Array Value)
  /-- any other thing,by what is true of its one object (a def of one's own: SetO a S n:=HO.ext fun h=>..) -/
  | ext (φ:Heap->Prop)
noncomputable abbrev Hp:=Addr->Option HO
noncomputable def cI (H:Hp) (a:Addr) (o:HO):Hp:=fun b=>if b=a then some o else H b
theorem bq {H:Hp} {a:Addr} {o:HO}:cI H a o a=some o:=by unfold cI;rw [if_pos rfl]
theorem aA {H:Hp} {a b:Addr} {o:HO} (h:b≠a):cI H a o b=H b:=by unfold cI;rw [if_neg h]
theorem F8 {H:Hp} {a b:Addr} {o u:HO} (h:H a=some o) (h':H b=some u) (d:o≠u):a≠b:=by
  intro e;subst e;rw [h] at h';exact d (Option.some.inj h')
theorem ba {H:Hp} {a b:Addr} {o:HO} (h:H a=some o) (h':H b=none):a≠b:=by
  intro e;subst e;rw [h] at h';cases h'
noncomputable def gT (h:Heap) (a:Addr) (items:Array Value):Prop:=∃ o,h.get? a=some o/\o.cls=.type "tuple" /\ (∃ n,o.data=.seq items n)/\o.dict=none
theorem gT.is {h:Heap} {a:Addr} {items:Array Value} (x:gT h a items):IsTup h a items:=by
  obtain ⟨o,e,c,n,_⟩:=x;exact ⟨o,e,c,n⟩
theorem gT.lt {h:Heap} {a:Addr} {items:Array Value} (x:gT h a items):a < h.objs.size:=by
  obtain ⟨o,e,_⟩:=x;exact Heap.lt_size e
theorem gT.new (h:Heap) (items:Array Value):gT (h.push { cls:=.type "tuple",data:=.seq items }) h.objs.size items:=⟨_,Heap.get?_push_size _ rfl,rfl,⟨_,rfl⟩,rfl⟩
section
variable (P:Program) (w:World)
noncomputable def cb (H:Hp) (h:Heap) (a:Addr):HO->Prop
  | .lst xs=>xs.length<=sizeLine/\∃ (its:List Value) (n:Nat),bH xs its/\h.get? a=some { cls:=.type "list",data:=.seq its.toArray n }
  | .tup xs=>xs.length<=sizeLine/\∃ its:List Value,bH xs its/\gT h a its.toArray
  | .dK kvs=>kvs.length<=sizeLine/\(a==sysModules)=false/\∃ vs,KV kvs vs/\h.DictOf (dC P w) a vs
  | .dT kvs=>kvs.length<=sizeLine/\(a==sysModules)=false/\∃ xs:List (List di×Addr×Value),
      Paired (fun (p:List di×V) (q:List di×Addr×Value)=>p.1=q.1/\H q.2.1=some (.tup (p.1.map kV))/\ca p.2 q.2.2) kvs xs /\
      ∃ o es ep,h.get? a=some o/\o.ExactDict/\o.data=.dict es ep/\es.toList=xs.map (entryOfKey (tupleKind (dC P w)))/\(xs.map (·.1)).Nodup
  | .set S n=>h.SetOf (intKind P w) a S n
  | .ins C dx fs=>H dx=some (.own a)/\fs.length<=1000/\dx≠a/\h.get? a=some (PySem.W.instObj C dx) /\
      ∃ mA,h.Ns1 dx mA/\(∀ f,lV (fs.lookup f) (mA f))/\PySem.Within mA (fs.map (·.1))
  | .own _=>∃ o,h.get? a=some o
  | .xd fs=>∃ mA,h.Ns1 a mA/\∀ f,lV (fs.lookup f) (mA f)
  | .rng lo hi=>∃ t u v,h.get? a=some { cls:=.type "range",data:=.fields #[.int lo t,.int hi u,.int 1 v] }
  | .frz o u=>h.get? a=some o/\cb H h a u
  | .tbl ps=>h.get? a=some { cls:=.none,data:=.fields ps }
  | .met f x=>h.get? a=some (PySem.W.methodObj (.ref f) (.ref x))
  | .ext φ=>φ h/\(∃ o,h.get? a=some o)/\∀ h1 h2:Heap,φ h1->(∀ o,h1.get? a=some o->h2.get? a=some o)->φ h2
noncomputable def hR (H:Hp) (h:Heap):Prop:=∀ a o,H a=some o->cb P w H h a o
end
section
variable {P:Program} {w:World} {H H':Hp} {h h':Heap} {a:Addr} {o:HO}
theorem cb.lt (x:cb P w H h a o):a < h.objs.size:=by
  cases o with
  | lst xs=>obtain ⟨_,_,_,_,e⟩:=x;exact Heap.lt_size e
  | tup xs=>obtain ⟨_,_,_,p⟩:=x;exact p.lt
  | dK kvs=>obtain ⟨_,_,_,_,o,_,_,e,_⟩:=x;exact Heap.lt_size e
  | dT kvs=>obtain ⟨_,_,_,_,o,_,_,e,_⟩:=x;exact Heap.lt_size e
  | set S n=>obtain ⟨o,_,_,_,e,_⟩:=x;exact Heap.lt_size e
  | ins C dx fs=>obtain ⟨_,_,_,e,_⟩:=x;exact Heap.lt_size e
  | own y=>obtain ⟨_,e⟩:=x;exact Heap.lt_size e
  | xd fs=>obtain ⟨_,⟨_,_,_,e,_⟩,_⟩:=x;exact Heap.lt_size e
  | rng lo hi=>obtain ⟨_,_,_,e⟩:=x;exact Heap.lt_size e
  | frz ob u=>obtain ⟨e,_⟩:=x;exact Heap.lt_size e
  | tbl ps=>exact Heap.lt_size (show h.get? a=some _ from x)
  | met f y=>exact Heap.lt_size (show h.get? a=some _ from x)
  | ext φ=>obtain ⟨_,⟨_,e⟩,_⟩:=x;exact Heap.lt_size e
theorem Paired.mapP {α β:Type} {F G:α->β->Prop}:∀ {l₁:List α} {l₂:List β},Paired F l₁ l₂->(∀ a b,F a b->G a b)->Paired G l₁ l₂
  | _,_,.nil,_=>.nil
  | _,_,.cons r t,f=>.cons (f _ _ r) (Paired.mapP t f)
theorem cb.stay (x:cb P w H h a o) (k:∀ b u,(b=a\/H b=some (.own a))->h.get? b=some u->h'.get? b=some u)
    (ho:∀ b,H b=some (.own a)->H' b=some (.own a)) (ht:∀ b xs,H b=some (.tup xs)->H' b=some (.tup xs)):cb P w H' h' a o:=by
  induction o with
  | lst xs=>obtain ⟨z,its,n,r,e⟩:=x;exact ⟨z,its,n,r,k _ _ (.inl rfl) e⟩
  | tup xs=>obtain ⟨z,its,r,ob,e,c⟩:=x;exact ⟨z,its,r,ob,k _ _ (.inl rfl) e,c⟩
  | dK kvs=>obtain ⟨z,y,vs,r,ob,es,ep,e,c⟩:=x;exact ⟨z,y,vs,r,ob,es,ep,k _ _ (.inl rfl) e,c⟩
  | dT kvs =>
    obtain ⟨z,y,xs,r,ob,es,ep,e,c⟩:=x;exact ⟨z,y,xs,Paired.mapP r fun p q z=>⟨z.1,ht _ _ z.2.1,z.2.2⟩,ob,es,ep,k _ _ (.inl rfl) e,c⟩
  | set S n=>obtain ⟨ob,es,ep,t,e,c⟩:=x;exact ⟨ob,es,ep,t,k _ _ (.inl rfl) e,c⟩
  | ins C dx fs =>
    obtain ⟨d,z,ne,e,mA,⟨od,es,ep,e2,c⟩,r⟩:=x;exact ⟨ho _ d,z,ne,k _ _ (.inl rfl) e,mA,⟨od,es,ep,k _ _ (.inr d) e2,c⟩,r⟩
  | own y=>obtain ⟨ob,e⟩:=x;exact ⟨ob,k _ _ (.inl rfl) e⟩
  | xd fs=>obtain ⟨mA,⟨od,es,ep,e,c⟩,r⟩:=x;exact ⟨mA,⟨od,es,ep,k _ _ (.inl rfl) e,c⟩,r⟩
  | rng lo hi=>obtain ⟨t,u,v,e⟩:=x;exact ⟨t,u,v,k _ _ (.inl rfl) e⟩
  | frz ob u ih=>obtain ⟨e,q⟩:=x;exact ⟨k _ _ (.inl rfl) e,ih q⟩
  | tbl ps =>
    have e:h.get? a=some { cls:=.none,data:=.fields ps }:=x;show h'.get? a=some { cls:=.none,data:=.fields ps };exact k a _ (.inl rfl) e
  | met f y =>
    have e:h.get? a=some (PySem.W.methodObj (.ref f) (.ref y)):=x;show h'.get? a=some (PySem.W.methodObj (.ref f) (.ref y));exact k a _ (.inl rfl) e
  | ext φ=>obtain ⟨p,⟨o,e⟩,st⟩:=x;exact ⟨st _ _ p fun o q=>k _ _ (.inl rfl) q,⟨o,k _ _ (.inl rfl) e⟩,st⟩
theorem hR.lt (x:hR P w H h) (e:H a=some o):a < h.objs.size:=(x a o e).lt
theorem hR.fresh (x:hR P w H h) (e:h.objs.size<=a):H a=none:=by
  cases q:H a with
  | none=>rfl
  | some u=>exact absurd (Nat.lt_of_lt_of_le (x.lt q) e) (Nat.lt_irrefl _)
theorem hR.kept (x:hR P w H h) (k:∀ b u,h.get? b=some u->h'.get? b=some u):hR P w H h':=fun a o e =>
  (x a o e).stay (fun b u _ q=>k b u q) (fun _ q=>q) fun _ _ q=>q
theorem hR.laid (x:hR P w H h) (k:∀ b u,h.get? b=some u->h'.get? b=some u) (hp:h.objs.size<=a) (new:cb P w (cI H a o) h' a o):hR P w (cI H a o) h':=fun b u e=>by
  have hn:=x.fresh hp;by_cases hb:b=a
  · subst hb;rw [bq] at e;cases e;exact new
  · rw [aA hb] at e;exact (x b u e).stay (fun c v _ q=>k c v q) (fun c q=>by rw [aA (ba q hn)];exact q) fun c xs q=>by rw [aA (ba q hn)];exact q
end
noncomputable def Rd (H:Hp) (a:Addr) (u:HO):Prop:=H a=some u\/∃ o,H a=some (.frz o u)
theorem Rd.ok {P:Program} {w:World} {H:Hp} {h:Heap} {a:Addr} {u:HO} (r:Rd H a u) (x:hR P w H h):cb P w H h a u:=by
  rcases r with r | ⟨o,r⟩
  · exact x a u r
  · obtain ⟨_,q⟩:=x a _ r;exact q
noncomputable def Ft:Option HO->Prop
  | some (.lst _)=>True
  | some (.dK _)=>True
  | some (.dT _)=>True
  | some (.set _ _)=>True
  | some (.ins _ _ _)=>True
  | some (.ext _)=>True
  | _=>False
section
variable {P:Program} {w:World} {H:Hp} {h h':Heap} {x e:Addr} {o':HO}
theorem hR.write (ok:hR P w H h) (mu:Ft (H x)) (he:e=x\/H e=some (.own x)) (k:∀ b u,b≠e->h.get? b=some u->h'.get? b=some u) (heo:∃ u,h'.get? e=some u)
    (new:cb P w (cI H x o') h' x o'):hR P w (cI H x o') h':=fun b u q=>by
  have nown:∀ c y,H c=some (.own y)->c≠x:=fun c y r z=>by subst z;rw [r] at mu;exact mu
  have ntup:∀ c xs,H c=some (.tup xs)->c≠x:=fun c xs r z=>by subst z;rw [r] at mu;exact mu
  by_cases hb:b=x
  · subst hb;rw [bq] at q;cases q;exact new
  · rw [aA hb] at q;by_cases hbe:b=e
    · have q':H b=some (.own x):=by
        rcases he with z | z
        · exact absurd (hbe.trans z) hb
        · rw [hbe];exact z
      rw [q] at q';cases q';obtain ⟨v,hv⟩:=heo;exact ⟨v,by rw [hbe];exact hv⟩
    · refine (ok b u q).stay (fun c v hc r=>k c v ?_ r) (fun c r=>by rw [aA (nown c b r)];exact r) fun c xs r=>by rw [aA (ntup c xs r)];exact r
      rcases hc with rfl | hc
      · exact hbe
      · rintro rfl;rcases he with z | z
        · exact nown c b hc z
        · rw [hc] at z;cases z;exact hb rfl
end
structure Un (fs ex:List Addr) (H H':Hp) (h h':Heap):Prop where
  keep:∀ b o,h.get? b=some o->H b=none->b∉fs->b∉ex->h'.get? b=some o
  slot:∀ b o,h.get? b=some o->H b=none->b∈fs->b∉ex->∃ sl,h'.get? b=some { o with slots:=sl }
  free:∀ b o,h.get? b=some o->H b=none->b∉ex->H' b=none
  there:∀ b o,h.get? b=some o->b∉ex->∃ o',h'.get? b=some o'
  tups:∀ b xs,H b=some (.tup xs)->H' b=some (.tup xs)
  frzs:∀ b o u,H b=some (.frz o u)->H' b=some (.frz o u)
  tbls:∀ b ps,H b=some (.tbl ps)->∃ more,H' b=some (.tbl (ps++more))
section
variable {fs fs' ex ex':List Addr} {H H1 H2:Hp} {h h1 h2 h':Heap} {a x e:Addr} {o:HO}
theorem Un.any (u:Un fs ex H H1 h h1) {b:Addr} {ob:Obj} (q:h.get? b=some ob) (n:H b=none) (hx:b∉ex):∃ sl,h1.get? b=some { ob with slots:=sl }:=by
  by_cases hb:b∈fs
  · exact u.slot b ob q n hb hx
  · exact ⟨ob.slots,u.keep b ob q n hb hx⟩
theorem Un.trans (a:Un fs ex H H1 h h1) (b:Un fs ex H1 H2 h1 h2):Un fs ex H H2 h h2 where
  keep:=fun c ob q n hc hx=>b.keep c ob (a.keep c ob q n hc hx) (a.free c ob q n hx) hc hx
  slot:=fun c ob q n hc hx=>by
    obtain ⟨sl,e1⟩:=a.slot c ob q n hc hx;obtain ⟨sl',e2⟩:=b.slot c _ e1 (a.free c ob q n hx) hc hx;exact ⟨sl',e2⟩
  free:=fun c ob q n hx=>by
    obtain ⟨o',e1⟩:=a.there c ob q hx;exact b.free c o' e1 (a.free c ob q n hx) hx
  there:=fun c ob q hx=>by
    obtain ⟨o',e1⟩:=a.there c ob q hx;exact b.there c o' e1 hx
  tups:=fun c xs q=>b.tups c xs (a.tups c xs q)
  frzs:=fun c ob xs q=>b.frzs c ob xs (a.frzs c ob xs q)
  tbls:=fun c ps q=>by
    obtain ⟨m1,e1⟩:=a.tbls c ps q;obtain ⟨m2,e2⟩:=b.tbls c _ e1;exact ⟨m1++m2,by rw [e2,Array.append_assoc]⟩
theorem Un.kept (k:∀ b u,h.get? b=some u->h'.get? b=some u):Un fs ex H H h h' :=
  ⟨fun b ob q _ _ _=>k b ob q,fun b ob q _ _ _=>⟨ob.slots,k b ob q⟩,fun _ _ _ n _=>n,fun b ob q _=>⟨ob,k b ob q⟩,fun _ _ q=>q,fun _ _ _ q=>q,fun _ ps q=>⟨#[],by rw [q];simp⟩⟩
theorem Un.refl:Un fs ex H H h h:=Un.kept fun _ _ q=>q
theorem Un.laid (k:∀ b u,h.get? b=some u->h'.get? b=some u) (hp:h.objs.size<=a) (hn:H a=none):Un fs ex H (cI H a o) h h' where
  keep:=fun b u q _ _ _=>k b u q
  slot:=fun b u q _ _ _=>⟨u.slots,k b u q⟩
  free:=fun b u q n _=>by rw [aA (Nat.ne_of_lt (Nat.lt_of_lt_of_le (Heap.lt_size q) hp))];exact n
  there:=fun b u q _=>⟨u,k b u q⟩
  tups:=fun b xs q=>by rw [aA (ba q hn)];exact q
  frzs:=fun b u xs q=>by rw [aA (ba q hn)];exact q
  tbls:=fun b ps q=>⟨#[],by rw [aA (ba q hn),q];simp⟩
theorem Un.write (mu:Ft (H x)) (he:e=x\/H e=some (.own x)) (k:∀ b u,b≠e->h.get? b=some u->h'.get? b=some u) (heo:∃ u,h'.get? e=some u):Un fs ex H (cI H x o) h h':=by
  have hx:∀ b,H b=none->b≠x:=fun b n z=>by subst z;rw [n] at mu;exact mu
  have hb:∀ b,H b=none->b≠e:=fun b n z=>by
    subst z;rcases he with r | r
    · exact hx b n r
    · rw [n] at r;cases r
  have hm:∀ b u,H b=some u->¬ Ft (some u)->b≠x:=fun b u q nm z=>by subst z;rw [q] at mu;exact nm mu
  refine ⟨fun b u q n _ _=>k b u (hb b n) q,fun b u q n _ _=>⟨u.slots,k b u (hb b n) q⟩,fun b u q n _=>by rw [aA (hx b n)];exact n,fun b u q _=>?_,
    fun b xs q=>by rw [aA (hm b _ q fun z=>z)];exact q,fun b u xs q=>by rw [aA (hm b _ q fun z=>z)];exact q,fun b ps q=>⟨#[],by rw [aA (hm b _ q fun z=>z),q];simp⟩⟩
  by_cases hbe:b=e
  · subst hbe;exact heo
  · exact ⟨u,k b u hbe q⟩
end
noncomputable def HK (h:Heap) (H:Hp):List Addr:=(List.range h.objs.size).filter fun a=>(H a).isSome
noncomputable def rS (h:Heap) (H:Hp):Heap:=PySem.W.hideAll h (HK h H)
theorem xG (h:Heap) (H:Hp):(rS h H).objs.size=h.objs.size:=PySem.W.hideAll_size _ _
theorem zE {h:Heap} {H:Hp} {b:Addr} {o:Obj} (e:h.get? b=some o) (n:H b=none):(rS h H).get? b=some o :=
  PySem.W.hideAll_get _ e fun hm=>by
    have q:(H b).isSome=true:=(List.mem_filter.mp hm).2;rw [n] at q;simp at q
theorem B0 {h:Heap} {H:Hp} {b:Addr} {o:Obj} (e:(rS h H).get? b=some o):h.get? b=some o/\H b=none:=by
  have e':h.get? b=some o:=PySem.W.of_hideAll (HK h H) e;refine ⟨e',?_⟩;cases q:H b with
  | none=>rfl
  | some x =>
    have hm:b∈HK h H:=List.mem_filter.mpr ⟨List.mem_range.mpr (Heap.lt_size e'),by simp [q]⟩;have z:(rS h H).get? b=none:=PySem.W.hideAll_none (HK h H) hm;rw [z] at e;cases e
noncomputable def Bi (g h:Heap) (L:Addr):List (Addr×Obj):=(List.range h.objs.size).filterMap fun a=>if a=L\/(g.get? a).isSome=true then none else (h.get? a).map fun o=>(a,o)
noncomputable def fE (g h:Heap) (L d:Addr):List (Addr×Obj):=(Bi g h L).filter fun p=>decide (p.1≠d)
structure Mod (K:PySem.W.Frag) (mg:Str->Option Value) (base:Heap):Prop where
  kin:K.In base
  glob:base.Ns mainGlobals mg
  blt:∃ mb,base.Ns builtinsNs mb/\∀ x:Str,x ≠ "__name__" -> mb x=bootBuiltins x
  nolimit:base.NoLimit
structure Cx where
  prog:Program
  w:World
  K:PySem.W.Frag
  mg:Str->Option Value
  base:Heap
  A:Around
  N:List Str
  s₀:Shared
  H₀:Hp
  env:Env
  outer:List Env
  stack:List Env
  ex:List Addr
  fn:Str->Bool
  calm:Bool
  pn:List (Addr×Obj)
  xe:Value->Shared->Prop
noncomputable def lK (l:List Env):List Addr:=l.filterMap (·.frame)
noncomputable abbrev Cx.fs (X:Cx):List Addr:=lK X.outer
noncomputable def DL (sc:Scope) (x:Str):Prop:=sc.names.lookup x=some .local\/sc.names.lookup x=some .cell\/sc.names.lookup x=some .free
noncomputable def CT (sc:Scope) (x:Str):Prop:=sc.names.lookup x=some .local\/sc.names.lookup x=some .cell
noncomputable def HQ (env:Env) (h:Heap) (m:Str->Option Value) (x:Str) (u:Value):Prop :=
  (env.kindOf x=some .local/\m x=some u)\/((env.kindOf x=some .cell\/env.kindOf x=some .free)/\∃ c,env.cells.lookup x=some c/\h.IsCell c (some u))
structure Cx.Ok (X:Cx):Prop where
  mod:Mod X.K X.mg X.base
  kind:X.env.scope.kind=.function
  glob:X.env.globals=mainGlobals
  blt:X.env.builtins=builtinsNs
  above:X.s₀.heap.objs.size<=X.env.locals
  inj:∀ x y c,X.env.cells.lookup x=some c->X.env.cells.lookup y=some c->x=y
  has:∀ x,(X.env.kindOf x=some .cell\/X.env.kindOf x=some .free)->∃ c,X.env.cells.lookup x=some c
  cab:∀ x c,X.fn x=true->X.env.cells.lookup x=some c->X.s₀.heap.objs.size<=c
  hd:X.calm=true->X.A.handled=none
  frames:X.A.frames=some X.stack
  stk:X.stack=X.outer\/(X.stack=X.env::X.outer/\X.env.frame=some X.env.locals)
  exf:∀ b∈X.ex,b≠X.env.locals/\∀ x c,X.env.cells.lookup x=some c->c≠b
  bs:∀ b o,X.base.get? b=some o->X.s₀.heap.get? b=some o/\X.H₀ b=none
  bsz:X.base.objs.size<=X.s₀.heap.objs.size
  noex:∀ b o,X.base.get? b=some o->b∉X.ex
  exfs:∀ b∈X.ex,b∉X.fs
  funs:X.s₀.heap.FunFrames X.base X.outer
  frf:∀ b∈X.fs,X.H₀ b=none
structure aU (X:Cx) (pins:List (Addr×Obj)) (σ:List (Option V)) (H:Hp) (s:Shared):Prop where
  ok:X.Ok
  os:s.os=X.s₀.os
  bare:AllBare s.gens
  base:Un X.fs X.ex X.H₀ H X.s₀.heap s.heap
  loc:∃ m,s.heap.Ns X.env.locals m/\∀ (i:Nat) (x:Str) (v:V),X.N[i]?=some x->σ[i]?=some (some v)->DL X.env.scope x->∃ u,ca v u/\HQ X.env s.heap m x u
  cell:∀ x c,X.env.cells.lookup x=some c->∃ v,s.heap.IsCell c v
  free:H X.env.locals=none
  freeC:∀ x c,X.env.cells.lookup x=some c->H c=none
  pin:∀ p∈X.pn++pins,s.heap.get? p.1=some p.2/\H p.1=none/\p.1≠X.env.locals/\p.1∉X.fs/\∀ v,p.2.data≠.cell v
  hok:hR X.prog X.w H s.heap
  len:σ.length=X.N.length
section
variable {X:Cx} {pins:List (Addr×Obj)} {σ:List (Option V)} {H H':Hp} {s:Shared} {h':Heap}
theorem Cx.Ok.nofr (ok:X.Ok) {b:Addr} {o:Obj} (e:X.base.get? b=some o):b∉X.fs:=fun hb=>by
  have:=(ok.funs.mem hb).1;rw [e] at this;cases this
theorem aU.bs (I:aU X pins σ H s):∀ b o,X.base.get? b=some o->s.heap.get? b=some o/\H b=none:=fun b o e =>
  ⟨I.base.keep b o (I.ok.bs b o e).1 (I.ok.bs b o e).2 (I.ok.nofr e) (I.ok.noex b o e),I.base.free b o (I.ok.bs b o e).1 (I.ok.bs b o e).2 (I.ok.noex b o e)⟩
theorem aU.bk (I:aU X pins σ H s):∀ b o,X.base.get? b=some o->s.heap.get? b=some o:=fun b o e=>(I.bs b o e).1
theorem aU.mod (I:aU X pins σ H s):Mod X.K X.mg X.base:=I.ok.mod
theorem aU.kIn (I:aU X pins σ H s):X.K.In s.heap:=I.ok.mod.kin.keeps I.bk
theorem aU.lt (I:aU X pins σ H s):X.env.locals < s.heap.objs.size:=let ⟨_,hn,_⟩:=I.loc;hn.lt
theorem aU.sz (I:aU X pins σ H s):X.s₀.heap.objs.size<=s.heap.objs.size:=Nat.le_trans I.ok.above (Nat.le_of_lt I.lt)
theorem aU.nofs (I:aU X pins σ H s) {a:Addr} (h:s.heap.objs.size<=a):a∉X.fs:=fun hb=>by
  obtain ⟨_,o,ho,_⟩:=I.ok.funs.mem hb;exact absurd (Nat.lt_of_lt_of_le (Heap.lt_size ho) (Nat.le_trans I.sz h)) (Nat.lt_irrefl _)
theorem aU.cne (I:aU X pins σ H s):∀ x c,X.env.cells.lookup x=some c->c≠X.env.locals:=fun x c e z=>by
  obtain ⟨v,o,ho,hd⟩:=I.cell x c e;obtain ⟨m,⟨o',es,ep,ho',hd',_⟩,_⟩:=I.loc;rw [z,ho'] at ho;cases ho;rw [hd'] at hd;cases hd
theorem aU.funs (I:aU X pins σ H s):s.heap.FunFrames X.base X.outer:=by
  have all:∀ (l:List Env),(∀ b∈lK l,b∈X.fs)->X.s₀.heap.FunFrames X.base l->s.heap.FunFrames X.base l:=by
    intro l;induction l with
    | nil=>intro _ _;trivial
    | cons env r ih =>
      intro hs hl;obtain ⟨hk,⟨L,o,hf,hn,ho,hd⟩,hr⟩:=hl;have hL:L∈X.fs:=hs L (by unfold lK;rw [List.filterMap_cons,hf];exact List.mem_cons_self);obtain ⟨sl,e⟩:=I.base.slot L o ho (I.ok.frf L hL) hL fun z=>I.ok.exfs L z hL
      exact ⟨hk,⟨L,_,hf,hn,e,hd⟩,ih (fun b hb=>hs b (by unfold lK;rw [List.filterMap_cons,hf];exact List.mem_cons_of_mem _ hb)) hr⟩
  exact all X.outer (fun _ hb=>hb) I.ok.funs
theorem aU.stack (I:aU X pins σ H s):s.heap.FunFrames X.base X.stack:=by
  rcases I.ok.stk with e | ⟨e,hf⟩
  · rw [e];exact I.funs
  · rw [e];obtain ⟨m,hn,_⟩:=I.loc;refine .cons (by rw [I.ok.kind];decide) hf hn ?_ I.funs;exact Heap.get?_none_of_le (Nat.le_trans I.ok.bsz I.ok.above)
theorem aU.stkSub (I:aU X pins σ H s):∀ b∈lK X.stack,b∈X.env.locals::X.fs:=fun b hb=>by
  rcases I.ok.stk with e | ⟨e,hf⟩
  · rw [e] at hb;exact List.mem_cons_of_mem _ hb
  · rw [e] at hb;unfold lK at hb;rw [List.filterMap_cons,hf] at hb;exact hb
theorem aU.stkFree (I:aU X pins σ H s):∀ b∈lK X.stack,H b=none:=fun b hb=>by
  rcases List.mem_cons.mp (I.stkSub b hb) with e | hb
  · rw [e];exact I.free
  · obtain ⟨_,o,ho,_⟩:=I.ok.funs.mem hb;exact I.base.free b o ho (I.ok.frf b hb) fun z=>I.ok.exfs b z hb
theorem aU.step {g':Array GenState} {t':Nat} {d':Drawn} {ch:List Addr} (I:aU X pins σ H s)
    (hch:∀ b∈ch,(b∈X.ex\/X.s₀.heap.objs.size<=b)/\b≠X.env.locals/\(∀ x c,X.env.cells.lookup x=some c->c≠b)/\∀ p∈X.pn++pins,p.1≠b)
    (keep:∀ b o,b≠X.env.locals->b∉X.fs->b∉ch->s.heap.get? b=some o->H b=none->h'.get? b=some o)
    (slot:∀ b o,b≠X.env.locals->b∈X.fs->b∉ch->s.heap.get? b=some o->H b=none->∃ sl,h'.get? b=some { o with slots:=sl }) (free:∀ b o,b∉ch->s.heap.get? b=some o->H b=none->H' b=none)
    (there:∀ b o,b∉ch->s.heap.get? b=some o->∃ o',h'.get? b=some o')
    (tups:∀ b xs,H b=some (.tup xs)->H' b=some (.tup xs)) (frzs:∀ b o u,H b=some (.frz o u)->H' b=some (.frz o u)) (tbls:∀ b ps,H b=some (.tbl ps)->∃ more,H' b=some (.tbl (ps++more)))
    (ns:∀ m,s.heap.Ns X.env.locals m->h'.Ns X.env.locals m) (hok:hR X.prog X.w H' h') (hg:AllBare g') :
    aU X pins σ H' { s with heap:=h',gens:=g',drawn:=d',toks:=t' }:=by
  have neL:∀ b o,X.s₀.heap.get? b=some o->b≠X.env.locals:=fun b o e=>Nat.ne_of_lt (Nat.lt_of_lt_of_le (Heap.lt_size e) I.ok.above)
  have neC:∀ b o,X.s₀.heap.get? b=some o->b∉X.ex->b∉ch:=fun b o e hx hb=>by
    rcases (hch b hb).1 with z | z
    · exact hx z
    · exact absurd (Nat.lt_of_lt_of_le (Heap.lt_size e) z) (Nat.lt_irrefl _)
  have cellK:∀ x c,X.env.cells.lookup x=some c->∀ v,s.heap.IsCell c v->h'.IsCell c v:=fun x c e v ⟨o,ho,hd⟩=>by
    have nch:c∉ch:=fun z=>(hch c z).2.2.1 x c e rfl
    by_cases hc:c∈X.fs
    · obtain ⟨sl,q⟩:=slot c o (I.cne x c e) hc nch ho (I.freeC x c e);exact ⟨_,q,hd⟩
    · exact ⟨o,keep c o (I.cne x c e) hc nch ho (I.freeC x c e),hd⟩
  refine ⟨I.ok,I.os,hg,⟨fun b o e n hb hx=>?_,fun b o e n hb hx=>?_,fun b o e n hx=>?_,fun b o e hx=>?_,fun b xs e=>tups b xs (I.base.tups b xs e),fun b o xs e=>frzs b o xs (I.base.frzs b o xs e),fun b ps e=>?_⟩,?_,fun x c e=>?_,?_,fun x c e=>?_,fun p hp=>?_,hok,I.len⟩
  · exact keep b o (neL b o e) hb (neC b o e hx) (I.base.keep b o e n hb hx) (I.base.free b o e n hx)
  · obtain ⟨sl,e1⟩:=I.base.slot b o e n hb hx;obtain ⟨sl',e2⟩:=slot b _ (neL b o e) hb (neC b o e hx) e1 (I.base.free b o e n hx);exact ⟨sl',e2⟩
  · obtain ⟨o',e1⟩:=I.base.there b o e hx;exact free b o' (neC b o e hx) e1 (I.base.free b o e n hx)
  · obtain ⟨o',e1⟩:=I.base.there b o e hx;exact there b o' (neC b o e hx) e1
  · obtain ⟨m1,e1⟩:=I.base.tbls b ps e;obtain ⟨m2,e2⟩:=tbls b _ e1;exact ⟨m1++m2,by rw [e2,Array.append_assoc]⟩
  · obtain ⟨m,hn,hl⟩:=I.loc;refine ⟨m,ns m hn,fun i x v e1 e2 e3=>?_⟩;obtain ⟨u,r,l⟩:=hl i x v e1 e2 e3;refine ⟨u,r,?_⟩;rcases l with l | ⟨k,c,e,z⟩
    · exact .inl l
    · exact .inr ⟨k,c,e,cellK x c e _ z⟩
  · obtain ⟨v,z⟩:=I.cell x c e;exact ⟨v,cellK x c e v z⟩
  · obtain ⟨m,⟨o,_,_,ho,_⟩,_⟩:=I.loc;exact free _ o (fun z=>(hch _ z).2.1 rfl) ho I.free
  · obtain ⟨v,o,ho,hd⟩:=I.cell x c e;exact free c o (fun z=>(hch c z).2.2.1 x c e rfl) ho (I.freeC x c e)
  · obtain ⟨e,n,ne,nf,d⟩:=I.pin p hp;have nch:p.1∉ch:=fun z=>(hch p.1 z).2.2.2 p hp rfl
    exact ⟨keep p.1 p.2 ne nf nch e n,free p.1 p.2 nch e n,ne,nf,d⟩
theorem aU.un {t':Nat} (I:aU X pins σ H s) (u:Un X.fs [] H H' s.heap h') (hok:hR X.prog X.w H' h'):aU X pins σ H' { s with heap:=h',toks:=t' }:=by
  obtain ⟨m,⟨o,es,ep,ho,r⟩,_⟩:=id I.loc;obtain ⟨sl,hL⟩:=u.any ho I.free (by simp);exact I.step (g':=s.gens) (d':=s.drawn) (ch:=[]) (fun _ z=>nomatch z) (fun b o _ hb _ e n=>u.keep b o e n hb (by simp)) (fun b o _ hb _ e n=>u.slot b o e n hb (by simp)) (fun b o _ e n=>u.free b o e n (by simp)) (fun b o _ e=>u.there b o e (by simp)) u.tups u.frzs u.tbls (fun m' hm=>by
    obtain ⟨o',es',ep',ho',r'⟩:=hm;rw [ho] at ho';cases ho';exact ⟨_,es',ep',hL,r'⟩) hok I.bare
theorem aU.call {g':Array GenState} {t':Nat} {d':Drawn} {ch:List Addr} (I:aU X pins σ H s) (u:Un (lK X.stack) ch H H' s.heap h') (hok:hR X.prog X.w H' h') (hg:AllBare g')
    (hch:∀ b∈ch,(b∈X.ex\/X.s₀.heap.objs.size<=b)/\b≠X.env.locals/\(∀ x c,X.env.cells.lookup x=some c->c≠b)/\∀ p∈X.pn++pins,p.1≠b) :
    aU X pins σ H' { s with heap:=h',gens:=g',drawn:=d',toks:=t' }:=by
  obtain ⟨m,⟨o,es,ep,ho,r⟩,_⟩:=id I.loc;obtain ⟨sl,hL⟩:=u.any ho I.free fun z=>(hch _ z).2.1 rfl
  exact I.step (ch:=ch) hch (fun b o hL hb hc e n=>u.keep b o e n (fun z=>(List.mem_cons.mp (I.stkSub b z)).elim hL hb) hc) (fun b o _ _ hc e n=>u.any e n hc) (fun b o hc e n=>u.free b o e n hc) (fun b o hc e=>u.there b o e hc) u.tups u.frzs u.tbls (fun m' hm=>by
    obtain ⟨o',es',ep',ho',r'⟩:=hm;rw [ho] at ho';cases ho';exact ⟨_,es',ep',hL,r'⟩) hok hg
theorem aU.turned {t':Nat} {it:Addr} (I:aU X pins σ H s) (k:∀ b o,b≠it->s.heap.get? b=some o->h'.get? b=some o) (hn:H it=none) (hL:it≠X.env.locals)
    (h1:it∈X.ex\/X.s₀.heap.objs.size<=it) (h2:∀ x c,X.env.cells.lookup x=some c->c≠it) (h3:∀ p∈X.pn++pins,p.1≠it):aU X pins σ H { s with heap:=h',toks:=t' }:=by
  have nit:∀ b u,H b=some u->b≠it:=fun b u e z=>by rw [z,hn] at e;cases e
  refine I.step (g':=s.gens) (d':=s.drawn) (ch:=[it]) (fun b hb=>?_) (fun b o _ _ hc e _=>k b o (fun z=>hc (by simp [z])) e) (fun b o _ _ hc e _=>⟨o.slots,k b o (fun z=>hc (by simp [z])) e⟩) (fun _ _ _ _ n=>n)
    (fun b o hc e=>⟨o,k b o (fun z=>hc (by simp [z])) e⟩) (fun _ _ e=>e) (fun _ _ _ e=>e) (fun b ps e=>⟨#[],by rw [e];simp⟩) (fun m hm=>?_) (fun b u e=>?_) I.bare
  · have e:b=it:=by simpa using hb
    subst e;exact ⟨h1,hL,h2,h3⟩
  · obtain ⟨o,es,ep,ho,r⟩:=hm;exact ⟨o,es,ep,k _ o (Ne.symm hL) ho,r⟩
  · refine (I.hok b u e).stay (fun c v hc q=>k c v ?_ q) (fun _ q=>q) fun _ _ q=>q
    rcases hc with z | z
    · rw [z];exact nit b u e
    · exact nit c _ z
theorem aU.tok (I:aU X pins σ H s) (t:Nat):aU X pins σ H { s with toks:=t }:=I.un (h':=s.heap) (t':=t) Un.refl I.hok
theorem aU.kept {t':Nat} (I:aU X pins σ H s) (k:∀ b u,s.heap.get? b=some u->h'.get? b=some u):aU X pins σ H { s with heap:=h',toks:=t' }:=I.un (Un.kept k) (I.hok.kept k)
theorem aU.laid {a:Addr} {o:HO} {t':Nat} (I:aU X pins σ H s) (k:∀ b u,s.heap.get? b=some u->h'.get? b=some u) (hp:s.heap.objs.size<=a) (new:cb X.prog X.w (cI H a o) h' a o) :
    aU X pins σ (cI H a o) { s with heap:=h',toks:=t' }:=I.un (Un.laid k hp (I.hok.fresh hp)) (I.hok.laid k hp new)
theorem aU.write {x e:Addr} {o:HO} {t':Nat} (I:aU X pins σ H s) (mu:Ft (H x)) (he:e=x\/H e=some (.own x)) (k:∀ b u,b≠e->s.heap.get? b=some u->h'.get? b=some u) (heo:∃ u,h'.get? e=some u)
    (new:cb X.prog X.w (cI H x o) h' x o):aU X pins σ (cI H x o) { s with heap:=h',toks:=t' }:=I.un (Un.write mu he k heo) (I.hok.write mu he k heo new)
theorem aU.pins_of {pins':List (Addr×Obj)} (I:aU X pins σ H s) (h:∀ p∈pins',s.heap.get? p.1=some p.2/\H p.1=none/\p.1≠X.env.locals/\p.1∉X.fs/\∀ v,p.2.data≠.cell v):aU X pins' σ H s :=
  ⟨I.ok,I.os,I.bare,I.base,I.loc,I.cell,I.free,I.freeC,fun p hp=>(List.mem_append.mp hp).elim (fun z=>I.pin p (List.mem_append_left _ z)) (h p),I.hok,I.len⟩
theorem tZ {N:List Str} (hN:N.Nodup) {i j:Nat} {x:Str} (a:N[i]?=some x) (b:N[j]?=some x):i=j:=by
  obtain ⟨h1,e1⟩:=List.getElem?_eq_some_iff.mp a;obtain ⟨h2,e2⟩:=List.getElem?_eq_some_iff.mp b;exact (List.getElem_inj hN).mp (e1.trans e2.symm)
theorem qN {M:Model} {A:Around} {E:Value->Shared->Prop} {i:Nat} {x:Str} {v:V} {u:Value} {Q:Unit->Shared->Prop} (I:aU X pins σ H s) (hN:X.N.Nodup) (hi:X.N[i]?=some x) (hx:CT X.env.scope x) (r:ca v u)
    (h:∀ s',aU X pins (σ.set i (some v)) H s'->(∃ a,Heap.SameBut a s.heap s'.heap/\(a=X.env.locals\/X.env.cells.lookup x=some a))->Q () s') (hf:X.fn x=true\/X.env.scope.names.lookup x=some .local:=by first | exact .inl rfl | exact .inr rfl | assumption):wpAny M A (storeName X.env x u) Q E s:=by
  obtain ⟨m,hn,hl⟩:=id I.loc;have hcls:(X.env.scope.kind==.class||(X.env.scope.kind==.module&&X.env.locals != X.env.globals))=false:=by rw [I.ok.kind];rfl
  have hiσ:i < σ.length:=by rw [I.len];exact (List.getElem?_eq_some_iff.mp hi).1
  have cne:=I.cne;have tracked:∀ {a:Addr} {h':Heap},(∃ o,s.heap.get? a=some o/\H a=none)->Heap.SameBut a s.heap h'->hR X.prog X.w H h':=fun {a h'} ha hs b ob e=>by
    obtain ⟨_,_,hfree⟩:=ha;refine (I.hok b ob e).stay (fun c w' hc q=>(hs.2 c ?_).trans q) (fun _ q=>q) fun _ _ q=>q
    rintro rfl;rcases hc with rfl | hc
    · rw [hfree] at e;cases e
    · rw [hfree] at hc;cases hc
  rcases hx with hk | hk
  · refine wpAny_storeName_local hk hn (fun h' hn' hs=>?_) hcls;obtain ⟨oL,_,_,hoL,_⟩:=id hn;refine h _ ⟨I.ok,I.os,I.bare,⟨fun b o e n hb hx=>?_,fun b o e n hb hx=>?_,I.base.free,fun b o e hx=>?_,I.base.tups,I.base.frzs,I.base.tbls⟩,⟨_,hn',fun j y v' e1 e2 e3=>?_⟩,fun y c e=>?_,I.free,I.freeC,fun p hp=>?_,tracked ⟨oL,hoL,I.free⟩ hs,by simpa using I.len⟩ ⟨_,hs,.inl rfl⟩
    · exact (hs.2 b (Nat.ne_of_lt (Nat.lt_of_lt_of_le (Heap.lt_size e) I.ok.above))).trans (I.base.keep b o e n hb hx)
    · obtain ⟨sl,e1⟩:=I.base.slot b o e n hb hx;exact ⟨sl,(hs.2 b (Nat.ne_of_lt (Nat.lt_of_lt_of_le (Heap.lt_size e) I.ok.above))).trans e1⟩
    · obtain ⟨o',e1⟩:=I.base.there b o e hx;exact ⟨o',(hs.2 b (Nat.ne_of_lt (Nat.lt_of_lt_of_le (Heap.lt_size e) I.ok.above))).trans e1⟩
    · by_cases hj:j=i
      · subst hj;rw [hi] at e1;cases e1;rw [List.getElem?_set_self hiσ] at e2;cases e2;exact ⟨u,r,.inl ⟨hk,by simp⟩⟩
      · rw [List.getElem?_set_ne (Ne.symm hj)] at e2;obtain ⟨u',r',q⟩:=hl j y v' e1 e2 e3;refine ⟨u',r',?_⟩;rcases q with ⟨k,e⟩ | ⟨k,c,e,z⟩
        · refine .inl ⟨k,?_⟩;have:y≠x:=fun e=>hj (tZ hN e1 (e ▸ hi))
          simp [this,e]
        · exact .inr ⟨k,c,e,z.sameBut hs (cne y c e)⟩
    · obtain ⟨w',z⟩:=I.cell y c e;exact ⟨w',z.sameBut hs (cne y c e)⟩
    · obtain ⟨e,n,ne,nf,d⟩:=I.pin p hp;exact ⟨(hs.2 p.1 ne).trans e,n,ne,nf,d⟩
  · have hfn:X.fn x=true:=by
      rcases hf with z | z
      · exact z
      · rw [z] at hk;cases hk
    obtain ⟨c,hc⟩:=I.ok.has x (.inl hk);obtain ⟨w',z⟩:=I.cell x c hc;refine wpAny_storeName_cell I.ok.kind hk hc z (fun h' hc' hs=>?_);obtain ⟨oc,hoc,hocd⟩:=id z;refine h { s with heap:=h' } ⟨I.ok,I.os,I.bare,⟨fun b o e n hb hx=>?_,fun b o e n hb hx=>?_,I.base.free,fun b o e hx=>?_,I.base.tups,I.base.frzs,I.base.tbls⟩,⟨m,hn.sameBut hs (Ne.symm (cne x c hc)),fun j y v' e1 e2 e3=>?_⟩,fun y c' e=>?_,I.free,I.freeC,fun p hp=>?_,tracked ⟨oc,hoc,I.freeC x c hc⟩ hs,by simpa using I.len⟩ ⟨c,hs,.inr hc⟩
    · exact (hs.2 b (Nat.ne_of_lt (Nat.lt_of_lt_of_le (Heap.lt_size e) (I.ok.cab x c hfn hc)))).trans (I.base.keep b o e n hb hx)
    · obtain ⟨sl,e1⟩:=I.base.slot b o e n hb hx;exact ⟨sl,(hs.2 b (Nat.ne_of_lt (Nat.lt_of_lt_of_le (Heap.lt_size e) (I.ok.cab x c hfn hc)))).trans e1⟩
    · obtain ⟨o',e1⟩:=I.base.there b o e hx;exact ⟨o',(hs.2 b (Nat.ne_of_lt (Nat.lt_of_lt_of_le (Heap.lt_size e) (I.ok.cab x c hfn hc)))).trans e1⟩
    · by_cases hj:j=i
      · subst hj;rw [hi] at e1;cases e1;rw [List.getElem?_set_self hiσ] at e2;cases e2;exact ⟨u,r,.inr ⟨.inl hk,c,hc,hc'⟩⟩
      · rw [List.getElem?_set_ne (Ne.symm hj)] at e2;obtain ⟨u',r',q⟩:=hl j y v' e1 e2 e3;refine ⟨u',r',?_⟩;rcases q with q | ⟨k,c',e,z'⟩
        · exact .inl q
        · refine .inr ⟨k,c',e,z'.sameBut hs ?_⟩;rintro rfl;exact hj (tZ hN e1 (I.ok.inj _ _ _ e hc ▸ hi))
    · by_cases hcc:c'=c
      · subst hcc;exact ⟨_,hc'⟩
      · obtain ⟨w2,z2⟩:=I.cell y c' e;exact ⟨w2,z2.sameBut hs hcc⟩
    · obtain ⟨e,n,ne,nf,d⟩:=I.pin p hp;refine ⟨(hs.2 p.1 ?_).trans e,n,ne,nf,d⟩;intro q;rw [q,hoc] at e;have q':oc=p.2:=Option.some.inj e;exact d w' (by rw [<- q'];exact hocd)
theorem pA {M:Model} {A:Around} {E:Value->Shared->Prop} {i:Nat} {x:Str} {v:V} {u:Value} {Q:Unit->Shared->Prop} (I:aU X pins σ H s) (hN:X.N.Nodup) (hi:X.N[i]?=some x) (hx:CT X.env.scope x) (r:ca v u)
    (h:∀ s',aU X pins (σ.set i (some v)) H s'->Q () s') (hf:X.fn x=true\/X.env.scope.names.lookup x=some .local:=by first | exact .inl rfl | exact .inr rfl | assumption):wpAny M A (storeName X.env x u) Q E s :=
  qN I hN hi hx r (fun s' I' _=>h s' I') hf
theorem aU.call' {s':Shared} {ch:List Addr} (I:aU X pins σ H s) (ho:s'.os=s.os) (u:Un (lK X.stack) ch H H' s.heap s'.heap) (hok:hR X.prog X.w H' s'.heap) (hg:AllBare s'.gens)
    (hch:∀ b∈ch,(b∈X.ex\/X.s₀.heap.objs.size<=b)/\b≠X.env.locals/\(∀ x c,X.env.cells.lookup x=some c->c≠b)/\∀ p∈X.pn++pins,p.1≠b):aU X pins σ H' s':=by
  obtain ⟨h',g',d',t',o'⟩:=s';have e:o'=s.os:=ho;subst e;exact I.call (g':=g') (t':=t') (d':=d') u hok hg hch
end
noncomputable abbrev XK:=Value->Option Addr->Hp->Prop
noncomputable abbrev St:=List (Option V)
noncomputable abbrev VK:=V->Hp->Prop
noncomputable abbrev TE:=St->Hp->VK->Prop
noncomputable abbrev TT:=St->Hp->(Bool->Hp->Prop)->Prop
noncomputable abbrev TA:=St->Hp->(List V->Hp->Prop)->Prop
structure sJ where
  nx:St->Hp->Prop
  rt:VK
  bk:St->Hp->Prop:=fun _ _=>False
  ct:St->Hp->Prop:=fun _ _=>False
noncomputable abbrev TS:=sJ->St->Hp->Prop
inductive EP (X:Cx) (pins:List (Addr×Obj)) (σ:St) (Q:VK) (u:Value) (s':Shared):Prop
  | mk (v:V) (H':Hp) (I:aU X pins σ H' s') (r:ca v u) (q:Q v H')
inductive TP (X:Cx) (pins:List (Addr×Obj)) (σ:St) (Q:Bool->Hp->Prop) (b:Bool) (s':Shared):Prop
  | mk (H':Hp) (I:aU X pins σ H' s') (q:Q b H')
inductive AP (X:Cx) (pins:List (Addr×Obj)) (σ:St) (Q:List V->Hp->Prop) (us:List Value) (s':Shared):Prop
  | mk (vs:List V) (H':Hp) (I:aU X pins σ H' s') (r:bH vs us) (q:Q vs H')
inductive NX (X:Cx) (pins:List (Addr×Obj)) (s':Shared) (P:St->Hp->Prop):Prop
  | mk (σ':St) (H':Hp) (I:aU X pins σ' H' s') (q:P σ' H')
inductive RX (X:Cx) (pins:List (Addr×Obj)) (s':Shared) (u:Value) (P:V->Hp->Prop):Prop
  | mk (v:V) (σ':St) (H':Hp) (I:aU X pins σ' H' s') (r:ca v u) (q:P v H')
noncomputable def SP (X:Cx) (pins:List (Addr×Obj)) (D:sJ) (f:Flow) (s':Shared):Prop :=
  match f with
  | .next=>NX X pins s' D.nx
  | .brk=>NX X pins s' D.bk
  | .cont=>NX X pins s' D.ct
  | .ret u=>RX X pins s' u D.rt
noncomputable def PE (X:Cx) (e:Expr) (t:TE):Prop :=
  ∀ (pins:List (Addr×Obj)) (s:Shared) (σ:St) (H:Hp) (Q:VK),aU X pins σ H s->t σ H Q->wpAny (model X.prog X.w) X.A (eval e X.env) (EP X pins σ Q) X.xe s
noncomputable def PT (X:Cx) (e:Expr) (t:TT):Prop :=
  ∀ (pins:List (Addr×Obj)) (s:Shared) (σ:St) (H:Hp) (Q:Bool->Hp->Prop),aU X pins σ H s->t σ H Q->wpAny (model X.prog X.w) X.A (isTrue e X.env (eval e X.env)) (TP X pins σ Q) X.xe s
noncomputable def PW (X:Cx) (e:Expr) (t:TT):Prop :=
  ∀ (whole:Sem Value) (pins:List (Addr×Obj)) (s:Shared) (σ:St) (H:Hp) (Q:Bool->Hp->Prop),aU X pins σ H s->t σ H Q->wpAny (model X.prog X.w) X.A (isTrue e X.env whole) (TP X pins σ Q) X.xe s
theorem PW.pt {X:Cx} {e:Expr} {t:TT} (h:PW X e t):PT X e t:=h _
noncomputable def PA (X:Cx) (es:List Expr) (t:TA):Prop :=
  ∀ (pos:Pos) (pins:List (Addr×Obj)) (s:Shared) (σ:St) (H:Hp) (Q:List V->Hp->Prop),aU X pins σ H s->t σ H Q->wpAny (model X.prog X.w) X.A (spliced (backTo pos (starEach es X.env))) (AP X pins σ Q) X.xe s
noncomputable def PS (X:Cx) (st:Stmt) (t:TS):Prop :=
  ∀ (pins:List (Addr×Obj)) (s:Shared) (σ:St) (H:Hp) (D:sJ),aU X pins σ H s->t D σ H->wpAny (model X.prog X.w) X.A (exec st X.env) (SP X pins D) X.xe s
noncomputable def rd (X:Cx) (st:List Stmt) (t:TS):Prop :=
  ∀ (pins:List (Addr×Obj)) (s:Shared) (σ:St) (H:Hp) (D:sJ),aU X pins σ H s->t D σ H->wpAny (model X.prog X.w) X.A (execs st X.env) (SP X pins D) X.xe s
theorem dq {α:Type} {t:Sem α} {Q Q':α->Shared->Prop} {M:Model} {A:Around} {E:Value->Shared->Prop} {s:Shared} (h:wpAny M A t Q E s) (hQ:∀ a s,Q a s->Q' a s):wpAny M A t Q' E s:=wpAny_mono h hQ fun _ _ x=>x
section
variable {X:Cx}
theorem JA {a b:Expr} {ta tb:TE} (ha:PE X a ta) (hb:PE X b tb) {pins:List (Addr×Obj)} {s:Shared} {σ:St} {H:Hp} {R:V->V->Hp->Prop} (I:aU X pins σ H s) (h:ta σ H fun x H1=>tb σ H1 fun y H2=>R x y H2)
    {α:Type} {Q:α->Shared->Prop} {f:Value->Value->Sem α}
    (hf:∀ v u s2 x y H2,aU X pins σ H2 s2->ca x v->ca y u->R x y H2->wpAny (model X.prog X.w) X.A (f v u) Q X.xe s2) :
    wpAny (model X.prog X.w) X.A (eval a X.env) (fun v s₁=>wpAny (model X.prog X.w) X.A (eval b X.env) (fun u s₂=>wpAny (model X.prog X.w) X.A (f v u) Q X.xe s₂) X.xe s₁) X.xe s:=by
  refine dq (ha pins s σ H _ I h) fun v s1 zq0=>?_
  obtain ⟨x,H1,I1,r1,q1⟩:=zq0;refine dq (hb pins s1 σ H1 _ I1 q1) fun u s2 zq0=>?_
  obtain ⟨y,H2,I2,r2,q2⟩:=zq0;exact hf v u s2 x y H2 I2 r1 r2 q2
noncomputable def G7 (i:Nat):TE:=fun σ H Q=>∃ v,σ[i]?=some (some v)/\Q v H
noncomputable def tC (v:V):TE:=fun _ H Q=>Q v H
theorem mh {i:Nat} {x:Str} {pos:Pos} (hN:X.N[i]?=some x) (hv:DL X.env.scope x) (hd:(x==("__debug__" : Str))=false:=by decide) (hcd:(x==("__classdict__" : Str))=false:=by decide):PE X (.Name x pos) (G7 i):=by
  intro pins s σ H Q I h;obtain ⟨v,e,h⟩:=h;obtain ⟨m,hn,hl⟩:=I.loc;obtain ⟨u,r,l⟩:=hl i x v hN e hv;have fin:EP X pins σ Q u s:=⟨v,H,I,r,h⟩
  rcases l with ⟨hk,hm⟩ | ⟨hk,c,hc,hcell⟩
  · exact wpAny_Name (wpAny_loadName_local I.ok.kind hk hn hm fin) hd
  · rcases hk with hk | hk
    · exact wpAny_Name (wpAny_loadName_cell I.ok.kind hk hc hcell fin) hd
    · exact wpAny_Name (wpAny_loadName_free I.ok.kind hk hc hcell fin hcd) hd
theorem Eu {i j pos}:PE X (.Constant (.int i) j pos) (tC (.int i)):=fun _ _ _ H _ I h=>wpAny_Constant_int ⟨.int i,H,I.tok _,⟨_,rfl⟩,h⟩
theorem Gm {b j pos}:PE X (.Constant (.bool b) j pos) (tC (.bl b)):=fun _ _ _ H _ I h=>Constant_bool ⟨.bl b,H,I,rfl,h⟩
theorem Ew {j pos}:PE X (.Constant .none j pos) (tC .non):=fun _ _ _ H _ I h=>Constant_none ⟨.non,H,I,rfl,h⟩
theorem Ez {x j pos}:PE X (.Constant (.str x) j pos) (tC (.str x)):=fun _ _ _ H _ I h=>Calls.Constant_str ⟨.str x,H,I.tok _,⟨_,rfl⟩,h⟩
noncomputable def Gl (X:Cx) (x:Str):Prop:=X.env.kindOf x=some .globalImplicit
theorem nG {E:Value->Shared->Prop} {pins:List (Addr×Obj)} {s:Shared} {σ:St} {H:Hp} {x:Str} {u:Value} {pos:Pos} {Q:Value->Shared->Prop} (I:aU X pins σ H s) (hg:Gl X x) (hm:X.mg x=some u) (h:Q u s)
    (hd:(x==("__debug__" : Str))=false:=by decide):wpAny (model X.prog X.w) X.A (eval (.Name x pos) X.env) Q E s :=
  Calls.Name_function_global I.ok.kind hg (Calls.loadGlobal_global (by rw [I.ok.glob];exact I.mod.glob.keeps I.bk) hm h) hd
theorem gX {E:Value->Shared->Prop} {pins:List (Addr×Obj)} {s:Shared} {σ:St} {H:Hp} {x:Str} {u:Value} {pos:Pos} {Q:Value->Shared->Prop} (I:aU X pins σ H s) (hg:Gl X x) (hm:X.mg x=none) (hv:bootBuiltins x=some u) (h:Q u s)
    (hn:x ≠ "__name__" := by decide) (hd:(x==("__debug__" : Str))=false:=by decide):wpAny (model X.prog X.w) X.A (eval (.Name x pos) X.env) Q E s:=by
  obtain ⟨mb,h1,h2⟩:=I.mod.blt;exact Calls.Name_function_global I.ok.kind hg (Calls.loadGlobal_builtin (by rw [I.ok.glob];exact I.mod.glob.keeps I.bk) hm (by rw [I.ok.blt];exact h1.keeps I.bk) ((h2 x hn).trans hv) h) hd
theorem Cf {x:Str} {v:V} {u:Value} {pos:Pos} (hg:Gl X x) (hm:X.mg x=some u) (r:ca v u) (hd:(x==("__debug__" : Str))=false:=by decide):PE X (.Name x pos) (tC v) :=
  fun _ _ _ H _ I h=>nG I hg hm ⟨v,H,I,r,h⟩ hd
theorem Ca {x:Str} {v:V} {u:Value} {pos:Pos} (hg:Gl X x) (hm:X.mg x=none) (hv:bootBuiltins x=some u) (r:ca v u) (hn:x ≠ "__name__" := by decide) (hd:(x==("__debug__" : Str))=false:=by decide):PE X (.Name x pos) (tC v) :=
  fun _ _ _ H _ I h=>gX I hg hm hv ⟨v,H,I,r,h⟩ hn hd
variable {a b:Expr} {ta tb:TE} {pos:Pos}
noncomputable def PC (X:Cx) (op:CmpOp) (a b:Expr) (t:TE):Prop :=
  ∀ (pins:List (Addr×Obj)) (s:Shared) (σ:St) (H:Hp) (Q:VK),aU X pins σ H s->t σ H Q ->
    wpAny (model X.prog X.w) X.A (eval a X.env) (fun v s₁=>wpAny (model X.prog X.w) X.A (eval b X.env) (fun u s₂=>wpAny (model X.prog X.w) X.A (compareOp op v u) (EP X pins σ Q) X.xe s₂) X.xe s₁) X.xe s
theorem Ac (b:Expr) {op:CmpOp} (h:op≠.In) (h2:op≠.NotIn):behindInMarks op b=false:=by
  have e1:(op==CmpOp.In)=false:=by cases op <;> first | rfl | exact absurd rfl h
  have e2:(op==CmpOp.NotIn)=false:=by cases op <;> first | rfl | exact absurd rfl h2
  cases b <;> simp [behindInMarks,e1,e2]
noncomputable def tB (t:TE):TT:=fun σ H Q=>t σ H fun x H1=>∃ c,x=.bl c/\Q c H1
theorem Iz {op:CmpOp} {t:TE} (h:PC X op a b t) (h1:behindInMarks op b=false:=by first | exact Ac _ (by decide) (by decide) | rfl):PT X (.Compare a [op] [b] pos) (tB t):=by
  intro pins s σ H Q I hw;refine wpAny_isTrue_Compare1 (dq (h pins s σ H _ I hw) fun v s1 h1=>dq h1 fun u s2 h2=>dq h2 fun c s3 zq0=>?_) h1;obtain ⟨x,H1,I1,r1,q1⟩:=zq0;obtain ⟨d,rfl,q⟩:=q1;cases r1;exact wpAny_truthy_bool ⟨H1,I1,q⟩
theorem EJ {e:Expr} {t:TE} (h:PE X e t) (he:∀ whole,isTrue e X.env whole=(do let v <- whole;standAt e.pos;holding [v] (truthy v)):=by intro _;rfl):PT X e (tB t):=by
  intro pins s σ H Q I hw;refine isTrue_plain (dq (h pins s σ H _ I hw) fun v s1 zq0=>?_) (he _);obtain ⟨x,H1,I1,r1,q1⟩:=zq0;obtain ⟨d,rfl,q⟩:=q1;cases r1;exact wpAny_truthy_bool ⟨H1,I1,q⟩
variable {tA tB':TT} {fE:List Expr}
noncomputable def IG (t u:TT):TT:=fun σ H Q=>t σ H fun c H1=>if c=true then u σ H1 Q else Q false H1
noncomputable def Jz (t u:TT):TT:=fun σ H Q=>t σ H fun c H1=>if c=true then Q true H1 else u σ H1 Q
noncomputable def IM (t:TT):TT:=fun σ H Q=>t σ H fun c H1=>Q (!c) H1
theorem pw_and1 (ha:PT X a tA):PW X (.BoolOp .And [a] pos) tA:=by
  intro wh pins s σ H Q I h;refine isTrue_and (dq (ha pins s σ H Q I h) fun c s1 e=>?_);cases c with
  | true=>exact isTrue_and_nil e
  | false=>exact e
theorem pw_or1 (ha:PT X a tA):PW X (.BoolOp .Or [a] pos) tA:=by
  intro wh pins s σ H Q I h;refine isTrue_or (dq (ha pins s σ H Q I h) fun c s1 e=>?_);cases c with
  | false=>exact isTrue_or_nil e
  | true=>exact e
theorem pw_and (ha:PT X a tA) (hb:PW X (.BoolOp .And (b::fE) pos) tB'):PW X (.BoolOp .And (a::b::fE) pos) (IG tA tB'):=by
  intro wh pins s σ H Q I h;refine isTrue_and (dq (ha pins s σ H _ I h) fun c s1 zq0=>?_);obtain ⟨H1,I1,q1⟩:=zq0;cases c with
  | true=>exact hb wh pins s1 σ H1 Q I1 q1
  | false=>exact ⟨H1,I1,q1⟩
theorem pw_or (ha:PT X a tA) (hb:PW X (.BoolOp .Or (b::fE) pos) tB'):PW X (.BoolOp .Or (a::b::fE) pos) (Jz tA tB'):=by
  intro wh pins s σ H Q I h;refine isTrue_or (dq (ha pins s σ H _ I h) fun c s1 zq0=>?_);obtain ⟨H1,I1,q1⟩:=zq0;cases c with
  | true=>exact ⟨H1,I1,q1⟩
  | false=>exact hb wh pins s1 σ H1 Q I1 q1
theorem EI (ha:PT X a tA):PT X (.UnaryOp .Not a pos) (IM tA):=by
  intro pins s σ H Q I h;refine isTrue_not (dq (ha pins s σ H (fun c H1=>Q (!c) H1) I h) fun c s1 z=>?_);obtain ⟨H1,I1,q1⟩:=z;exact ⟨H1,I1,q1⟩
noncomputable def GV (ta tb:TE):TE:=fun σ H Q=>ta σ H fun x H1=>∃ c,x=.bl c/\if c=true then tb σ H1 Q else Q (.bl false) H1
noncomputable def G4 (ta:TE):TE:=fun σ H Q=>ta σ H fun x H1=>∃ c,x=.bl c/\Q (.bl (!c)) H1
theorem Ey {op} {t:TE} (h:PE X a t):PE X (.BoolOp op [a] pos) t:=fun pins s σ H Q I hw=>BoolOp_one (h pins s σ H Q I hw)
theorem Et (ha:PE X a ta) (hb:PE X (.BoolOp .And (b::fE) pos) tb):PE X (.BoolOp .And (a::b::fE) pos) (GV ta tb):=by
  intro pins s σ H Q I h;refine BoolOp_and (dq (ha pins s σ H _ I h) fun v s1 zq0=>?_);obtain ⟨x,H1,I1,r1,q1⟩:=zq0;obtain ⟨c,rfl,q1⟩:=q1;cases r1;refine wpAny_truthy_bool ?_;cases c with
  | true=>exact hb pins s1 σ H1 Q I1 q1
  | false=>exact ⟨.bl false,H1,I1,rfl,q1⟩
theorem Ex (ha:PE X a ta):PE X (.UnaryOp .Not a pos) (G4 ta):=by
  intro pins s σ H Q I h;refine UnaryOp_ (dq (ha pins s σ H _ I h) fun v s1 zq0=>?_);obtain ⟨x,H1,I1,r1,q1⟩:=zq0;obtain ⟨c,rfl,q1⟩:=q1;cases r1;exact not_of (wpAny_truthy_bool ⟨.bl (!c),H1,I1,rfl,q1⟩)
noncomputable def Jy (t:TT) (ta tb:TE):TE:=fun σ H Q=>t σ H fun c H1=>if c=true then ta σ H1 Q else tb σ H1 Q
theorem An {c:Expr} (hc:PT X c tA) (ha:PE X a ta) (hb:PE X b tb):PE X (.IfExp c a b pos) (Jy tA ta tb):=by
  intro pins s σ H Q I h;refine wpAny_IfExp (dq (hc pins s σ H _ I h) fun d s1 zq0=>?_);obtain ⟨H1,I1,q1⟩:=zq0;cases d with
  | true=>exact ha pins s1 σ H1 Q I1 q1
  | false=>exact hb pins s1 σ H1 Q I1 q1
end
noncomputable def mB (K:PySem.W.Frag) (H:Hp) (a:Addr) (xs:List V):Prop :=
  Rd H a (.lst xs) \/
    ∃ (o:Obj) (its:Array Value) (n:Nat),K.lookup a=some o/\o.cls=.type "list" /\ o.dict=none/\o.data=.seq its n/\its.size<=sizeLine/\bH xs its.toList
noncomputable def i4 (K:PySem.W.Frag) (H:Hp) (a:Addr) (xs:List V):Prop :=
  Rd H a (.tup xs) \/
    ∃ (o:Obj) (its:Array Value) (n:Nat),K.lookup a=some o/\o.cls=.type "tuple" /\ o.data=.seq its n/\its.size<=sizeLine/\bH xs its.toList
noncomputable def HU:Value->Option V
  | .none=>some .non
  | .bool b=>some (.bl b)
  | .int i _=>some (.int i)
  | .str x _=>some (.str x)
  | .bytes b _=>some (.byt b)
  | .float b _=>some (.flt b)
  | .ref a=>some (.ref a)
  | .type n=>some (.ty n)
  | _=>none
theorem ca.abs {x:V} {u:Value} (r:ca x u):HU u=some x:=by
  cases x with
  | non=>cases r;rfl
  | bl _=>cases r;rfl
  | int _=>obtain ⟨t,rfl⟩:=r;rfl
  | str _=>obtain ⟨t,rfl⟩:=r;rfl
  | byt _=>obtain ⟨t,rfl⟩:=r;rfl
  | flt _=>obtain ⟨t,rfl⟩:=r;rfl
  | ref _=>cases r;rfl
  | ty _=>cases r;rfl
theorem ca.inj {x y:V} {u:Value} (r:ca x u) (q:ca y u):x=y:=Option.some.inj (r.abs.symm.trans q.abs)
theorem bH.inj:∀ {xs ys:List V} {us:List Value},bH xs us->bH ys us->xs=ys
  | _,_,_,.nil,.nil=>rfl
  | _,_,_,.cons r t,.cons r' t'=>by rw [r.inj r',bH.inj t t']
section
variable {X:Cx} {pins:List (Addr×Obj)} {σ:St} {H:Hp} {s:Shared} {a:Addr} {xs ys:List V}
theorem mB.of {K:PySem.W.Frag} (h:H a=some (.lst xs)):mB K H a xs:=.inl (.inl h)
theorem i4.of {K:PySem.W.Frag} (h:H a=some (.tup xs)):i4 K H a xs:=.inl (.inl h)
theorem aU.list (I:aU X pins σ H s) (h:mB X.K H a xs):∃ its:List Value,bH xs its/\PlainL s.heap a its.toArray/\xs.length<=sizeLine:=by
  rcases h with h | ⟨o,its,n,hk,hc,hd,hs,hz,r⟩
  · obtain ⟨z,its,n,r,e⟩:=h.ok I.hok;exact ⟨its,r,⟨_,n,e,rfl,rfl,rfl⟩,z⟩
  · refine ⟨its.toList,r,⟨o,n,I.kIn a o hk,hc,hd,by simpa using hs⟩,?_⟩;have e:=r.length;simp only [Array.length_toList] at e;omega
theorem aU.tuple (I:aU X pins σ H s) (h:i4 X.K H a xs):∃ its:List Value,bH xs its/\IsTup s.heap a its.toArray/\xs.length<=sizeLine:=by
  rcases h with h | ⟨o,its,n,hk,hc,hs,hz,r⟩
  · obtain ⟨z,its,r,p⟩:=h.ok I.hok;exact ⟨its,r,p.is,z⟩
  · refine ⟨its.toList,r,⟨o,I.kIn a o hk,hc,n,by simpa using hs⟩,?_⟩;have e:=r.length;simp only [Array.length_toList] at e;omega
theorem aU.list_inj (I:aU X pins σ H s) (h:mB X.K H a xs) (h':mB X.K H a ys):xs=ys:=by
  obtain ⟨its,r,⟨o,n,e,_,_,d⟩,_⟩:=I.list h;obtain ⟨its',r',⟨o',n',e',_,_,d'⟩,_⟩:=I.list h';rw [e] at e';cases e';rw [d] at d';injection d' with d1 _
  have:its=its':=by simpa using congrArg Array.toList d1
  subst this;exact r.inj r'
theorem aU.tuple_inj (I:aU X pins σ H s) (h:i4 X.K H a xs) (h':i4 X.K H a ys):xs=ys:=by
  obtain ⟨its,r,⟨o,e,_,n,d⟩,_⟩:=I.tuple h;obtain ⟨its',r',⟨o',e',_,n',d'⟩,_⟩:=I.tuple h';rw [e] at e';cases e';rw [d] at d';injection d' with d1 _
  have:its=its':=by simpa using congrArg Array.toList d1
  subst this;exact r.inj r'
end
noncomputable abbrev Cx.wish (X:Cx) (E:Value->Shared->Prop):Cx:={ X with xe:=E }
noncomputable abbrev Cx.nox (X:Cx):Cx:=X.wish fun _ _=>False
theorem Cx.Ok.wish {X:Cx} (ok:X.Ok) (E:Value->Shared->Prop):(X.wish E).Ok :=
  ⟨ok.mod,ok.kind,ok.glob,ok.blt,ok.above,ok.inj,ok.has,ok.cab,ok.hd,ok.frames,ok.stk,ok.exf,ok.bs,ok.bsz,ok.noex,ok.exfs,ok.funs,ok.frf⟩
theorem Cx.Ok.unwish {X:Cx} {E:Value->Shared->Prop} (ok:(X.wish E).Ok):X.Ok :=
  ⟨ok.mod,ok.kind,ok.glob,ok.blt,ok.above,ok.inj,ok.has,ok.cab,ok.hd,ok.frames,ok.stk,ok.exf,ok.bs,ok.bsz,ok.noex,ok.exfs,ok.funs,ok.frf⟩
section
variable {X:Cx} {pins:List (Addr×Obj)} {σ:St} {H:Hp} {s:Shared} {E:Value->Shared->Prop}
theorem aU.wish (I:aU X pins σ H s) (E:Value->Shared->Prop):aU (X.wish E) pins σ H s:=⟨I.ok.wish E,I.os,I.bare,I.base,I.loc,I.cell,I.free,I.freeC,I.pin,I.hok,I.len⟩
theorem aU.unwish (I:aU (X.wish E) pins σ H s):aU X pins σ H s:=⟨I.ok.unwish,I.os,I.bare,I.base,I.loc,I.cell,I.free,I.freeC,I.pin,I.hok,I.len⟩
theorem SP.unwish {D:sJ} {f:Flow} {s':Shared} (h:SP (X.wish E) pins D f s'):SP X pins D f s':=by
  cases f with
  | next=>obtain ⟨σ',H',I,q⟩:=h;exact ⟨σ',H',I.unwish,q⟩
  | brk=>obtain ⟨σ',H',I,q⟩:=h;exact ⟨σ',H',I.unwish,q⟩
  | cont=>obtain ⟨σ',H',I,q⟩:=h;exact ⟨σ',H',I.unwish,q⟩
  | ret u=>obtain ⟨v,σ',H',I,r,q⟩:=h;exact ⟨v,σ',H',I.unwish,r,q⟩
theorem PE.nox {e:Expr} {t:TE} (h:PE X.nox e t):PE X e t:=fun pins s σ H Q I hw =>
  wpAny_mono (h pins s σ H Q (I.wish _) hw) (fun _ _ ⟨v,H',I',r,q⟩=>⟨v,H',I'.unwish,r,q⟩) fun _ _ z=>False.elim z
theorem PT.nox {e:Expr} {t:TT} (h:PT X.nox e t):PT X e t:=fun pins s σ H Q I hw =>
  wpAny_mono (h pins s σ H Q (I.wish _) hw) (fun _ _ ⟨H',I',q⟩=>⟨H',I'.unwish,q⟩) fun _ _ z=>False.elim z
theorem rd.nox {st:List Stmt} {t:TS} (h:rd X.nox st t):rd X st t:=fun pins s σ H D I hw =>
  wpAny_mono (h pins s σ H D (I.wish _) hw) (fun _ _ q=>q.unwish) fun _ _ z=>False.elim z
end
section
variable {X:Cx} {st:Stmt} {fE:List Stmt} {t u:TS} {e:Expr} {te:TE} {pos:Pos}
noncomputable def G3:TS:=fun D σ H=>D.nx σ H
noncomputable def IQ (t u:TS):TS:=fun D σ H=>t { D with nx:=u D } σ H
theorem Cm:rd X [] G3:=fun _ _ σ H _ I h=>wpAny_execs_nil ⟨σ,H,I,h⟩
theorem o9 (h1:PS X st t) (h2:rd X fE u):rd X (st::fE) (IQ t u):=by
  intro pins s σ H D I h;refine wpAny_execs_cons (dq (h1 pins s σ H { D with nx:=u D } I h) fun f s1 q=>?_);cases f with
  | next =>
    obtain ⟨σ',H',I',q⟩:=q;exact h2 pins s1 σ' H' D I' q
  | ret v=>exact q
  | brk=>exact q
  | cont=>exact q
theorem wG (h1:PS X st t):rd X [st] t:=by
  intro pins s σ H D I h;refine wpAny_execs_cons (dq (h1 pins s σ H D I h) fun f s1 q=>?_);cases f with
  | next=>exact wpAny_execs_nil q
  | ret v=>exact q
  | brk=>exact q
  | cont=>exact q
theorem aU.quiet {pins:List (Addr×Obj)} {σ:St} {H:Hp} {s:Shared} (I:aU X pins σ H s):interactive X.env=false:=by simp [interactive,I.ok.kind]
noncomputable def GZ (te:TE):TS:=fun D σ H=>te σ H fun _ H1=>D.nx σ H1
theorem Ck (he:PE X e te) (hs:swapsWith e none pos.line X.env=pure false:=by rfl):PS X (.Expr e pos) (GZ te):=by
  intro pins s σ H D I h;exact wpAny_Expr_any (dq (he pins s σ H _ I h) fun v s1 ⟨x,H1,I1,r1,q1⟩=>⟨σ,H1,I1,q1⟩) I.quiet hs
noncomputable def IN (te:TE):TS:=fun D σ H=>te σ H D.rt
theorem EH (he:PE X e te):PS X (.Return (some e) pos) (IN te):=by
  intro pins s σ H D I h;exact wpAny_Return_some (dq (he pins s σ H _ I h) fun v s1 ⟨x,H1,I1,r1,q1⟩=>⟨x,σ,H1,I1,r1,q1⟩)
noncomputable def IJ (c:TT) (t u:TS):TS:=fun D σ H=>c σ H fun b H1=>if b=true then t D σ H1 else u D σ H1
theorem Gs {c:Expr} {a b:List Stmt} {tc:TT} (hc:PT X c tc) (ha:rd X a t) (hb:rd X b u):PS X (.If c a b pos) (IJ tc t u):=by
  intro pins s σ H D I h;refine wpAny_If (dq (hc pins s σ H _ I h) fun d s1 zq0=>?_);obtain ⟨H1,I1,q1⟩:=zq0;cases d with
  | true=>exact ha pins s1 σ H1 D I1 q1
  | false=>exact hb pins s1 σ H1 D I1 q1
end
noncomputable abbrev TG:=V->St->Hp->(St->Hp->Prop)->Prop
noncomputable abbrev DI:=List V->St->Hp->(St->Hp->Prop)->Prop
noncomputable def PG (X:Cx) (target:Expr) (t:TG):Prop :=
  ∀ (pins:List (Addr×Obj)) (s:Shared) (σ:St) (H:Hp) (v:V) (u:Value) (Q:St->Hp->Prop),aU X pins σ H s->ca v u->t v σ H Q ->
    wpAny (model X.prog X.w) X.A (assign target X.env u) (fun _ s'=>NX X pins s' Q) X.xe s
noncomputable def Ho (X:Cx) (ts:List Expr) (t:DI):Prop :=
  ∀ (pins:List (Addr×Obj)) (s:Shared) (σ:St) (H:Hp) (vs:List V) (us:List Value) (Q:St->Hp->Prop),aU X pins σ H s->bH vs us->t vs σ H Q ->
    wpAny (model X.prog X.w) X.A (assignInOrder ((assignEach ts X.env).map (·.2)) us) (fun _ s'=>NX X pins s' Q) X.xe s
noncomputable abbrev DJ:=V->V->V->Hp->(Hp->Prop)->Prop
noncomputable def Fv (X:Cx) (t:DJ):Prop :=
  ∀ (pins:List (Addr×Obj)) (s:Shared) (σ:St) (H:Hp) (o i v:V) (ov iv u:Value) (Q:Hp->Prop),aU X pins σ H s->ca o ov->ca i iv->ca v u->t o i v H Q ->
    wpAny (model X.prog X.w) X.A (setItem ov iv u) (fun _ s'=>∃ H',aU X pins σ H' s'/\Q H') X.xe s
noncomputable abbrev Hr:=V->V->Hp->VK->Prop
noncomputable def HR (X:Cx) (op:Operator) (t:Hr):Prop :=
  ∀ (pins:List (Addr×Obj)) (s:Shared) (σ:St) (H:Hp) (x y:V) (v u:Value) (Q:VK),aU X pins σ H s->ca x v->ca y u->t x y H Q ->
    wpAny (model X.prog X.w) X.A (inplaceOp op v u) (EP X pins σ Q) X.xe s
section
variable {X:Cx} {pos:Pos}
noncomputable def Dd (i:Nat):TG:=fun v σ H Q=>Q (σ.set i (some v)) H
theorem sh {i:Nat} {x:Str} (hN:X.N.Nodup) (hi:X.N[i]?=some x) (hx:CT X.env.scope x) (hf:X.fn x=true\/X.env.scope.names.lookup x=some .local:=by first | exact .inl rfl | exact .inr rfl | assumption):PG X (.Name x pos) (Dd i):=by
  intro pins s σ H v u Q I r h;exact wpAny_assign_Name (pA I hN hi hx r (fun s' I'=>⟨_,H,I',h⟩) hf)
noncomputable def Ik:DI:=fun vs σ H Q=>vs=[]/\Q σ H
noncomputable def FR (t:TG) (u:DI):DI:=fun vs σ H Q=>∃ v r,vs=v::r/\t v σ H fun σ' H'=>u r σ' H' Q
theorem Ch:Ho X [] Ik:=by
  intro pins s σ H vs us Q I r h;obtain ⟨e,h⟩:=h;subst e;cases r;exact assignInOrder_nil ⟨σ,H,I,h⟩
theorem t9 {e:Expr} {es:List Expr} {t:TG} {u:DI} (h1:PG X e t) (h2:Ho X es u)
    (hs:(assignEach (e::es) X.env).map (·.2)=assign e X.env::(assignEach es X.env).map (·.2):=by rfl):Ho X (e::es) (FR t u):=by
  intro pins s σ H vs us Q I r h;obtain ⟨v,vr,e1,h⟩:=h;subst e1;cases r with
  | cons r rr =>
    rw [hs];refine assignInOrder_cons (dq (h1 pins s σ H _ _ _ I r h) fun _ s1 zq0=>?_);obtain ⟨σ1,H1,I1,q1⟩:=zq0;exact h2 pins s1 σ1 H1 _ _ Q I1 rr q1
noncomputable def Im (K:PySem.W.Frag) (n:Nat) (t:DI):TG:=fun v σ H Q=>∃ a xs,v=.ref a/\i4 K H a xs/\xs.length=n/\t xs σ H Q
theorem EC {es:List Expr} {k:Nat} {t:DI} {n:Nat} (hc:X.calm=true) (h:Ho X es t)
    (hn:(assignEach es X.env).length=n:=by rfl) (hst:(assignEach es X.env).findIdx? (·.1)=none:=by rfl):PG X (.Tuple es k pos) (Im X.K n t):=by
  intro pins s σ H v u Q I r hw;obtain ⟨a,xs,e1,hq,hl,hw⟩:=hw;subst e1;cases r;obtain ⟨its,rv,ht,hz⟩:=I.tuple hq;refine assign_Tuple_tuple (I.ok.hd hc) ht (by simp [hn,<- hl,rv.length]) hst fun h' hx=>?_
  have I1:aU X pins σ H { s with heap:=h' }:=I.kept (t':=s.toks) fun b o e=>hx b o (Nat.ne_of_lt (Heap.lt_size e)) e
  exact h pins _ σ H xs _ Q I1 (by simpa using rv) hw
noncomputable def Il (to ti:TE) (t:DJ):TG:=fun v σ H Q=>to σ H fun o H1=>ti σ H1 fun i H2=>t o i v H2 fun H3=>Q σ H3
theorem EB {o i:Expr} {to ti:TE} {t:DJ} (ho:PE X o to) (hi:PE X i ti) (hs:Fv X t)
    (ha:∀ v,assign (.Subscript o i pos) X.env v=(do
      let ov <- holding [v] (eval o X.env)
      let iv <- holding [v,ov] (eval i X.env)
      standAt pos
      holding [v,ov,iv] (setItem ov iv v)
      release [v,ov,iv] []):=by intro _;rfl):PG X (.Subscript o i pos) (Il to ti t):=by
  intro pins s σ H v u Q I r h;rw [ha];refine wpAny_bind (wpAny_holding (dq (ho pins s σ H _ I h) fun ov s1 zq0=>?_));obtain ⟨x,H1,I1,r1,q1⟩:=zq0;refine wpAny_bind (wpAny_holding (dq (hi pins s1 σ H1 _ I1 q1) fun iv s2 zq0=>?_));obtain ⟨y,H2,I2,r2,q2⟩:=zq0;refine wpAny_bind (wpAny_standAt (wpAny_bind (wpAny_holding (dq (hs pins s2 σ H2 x y v ov iv u _ I2 r1 r2 r q2) fun _ s3 zq0=>?_))));obtain ⟨H3,I3,q3⟩:=zq0;exact wpAny_release ⟨σ,H3,I3,q3⟩
noncomputable def GW (te:TE) (g:TG):TS:=fun D σ H=>te σ H fun x H1=>g x σ H1 D.nx
theorem EE {tg e:Expr} {te:TE} {g:TG} (he:PE X e te) (hg:PG X tg g) (hs:swapsWithSole [tg] e pos.line X.env=pure false:=by rfl) (hw:swappedStores [tg] e X.env=pure none:=by rfl)
    (h1:(assignEach [tg] X.env).map (·.2)=[assign tg X.env]:=by rfl):PS X (.Assign [tg] e pos) (GW te g):=by
  intro pins s σ H D I h;refine wpAny_Assign_stores (dq (he pins s σ H _ I h) fun v s1 zq0=>?_) hs hw;obtain ⟨x,H1,I1,r1,q1⟩:=zq0;rw [h1];exact dq (hg pins s1 σ H1 x v _ I1 r1 q1) fun _ s2 q=>q
theorem Ar {i:Nat} {x:Str} {e:Expr} {te:TE} {pos':Pos} (hN:X.N.Nodup) (hi:X.N[i]?=some x) (hx:CT X.env.scope x) (he:PE X e te) (hs:swapsWith e (some (.Name x pos')) pos.line X.env=pure false:=by rfl) (hf:X.fn x=true\/X.env.scope.names.lookup x=some .local:=by first | exact .inl rfl | exact .inr rfl | assumption) :
    PS X (.Assign [.Name x pos'] e pos) (GW te (Dd i)):=by
  intro pins s σ H D I h;refine wpAny_Assign_Name (dq (he pins s σ H _ I h) fun v s1 zq0=>?_) hs;obtain ⟨y,H1,I1,r1,q1⟩:=zq0;exact pA I1 hN hi hx r1 (fun s2 I2=>⟨_,H1,I2,q1⟩) hf
noncomputable def IH (i:Nat) (te:TE) (ti:Hr):TS:=fun D σ H=>∃ x,σ[i]?=some (some x)/\te σ H fun y H1=>ti x y H1 fun z H2=>D.nx (σ.set i (some z)) H2
theorem EF {i:Nat} {x:Str} {e:Expr} {te:TE} {op:Operator} {ti:Hr} {pos':Pos} (hN:X.N.Nodup) (hi:X.N[i]?=some x) (hx:CT X.env.scope x) (he:PE X e te) (ho:HR X op ti) (hf:X.fn x=true\/X.env.scope.names.lookup x=some .local:=by first | exact .inl rfl | exact .inr rfl | assumption) :
    PS X (.AugAssign (.Name x pos') op e pos) (IH i te ti):=by
  intro pins s σ H D I h;obtain ⟨v,e1,h⟩:=h;obtain ⟨m,hn,hl⟩:=I.loc;have vis:DL X.env.scope x:=by rcases hx with k | k;exact .inl k;exact .inr (.inl k)
  obtain ⟨u,r,l⟩:=hl i x v hi e1 vis;refine wpAny_AugAssign_Name ?_;have go:wpAny (model X.prog X.w) X.A (eval e X.env) (fun w s₂=>wpAny (model X.prog X.w) X.A (inplaceOp op u w) (fun r s₃=>wpAny (model X.prog X.w) X.A (storeName X.env x r) (fun _=>SP X pins D .next) X.xe s₃) X.xe s₂) X.xe s:=by
    refine dq (he pins s σ H _ I h) fun w s1 zq0=>?_
    obtain ⟨y,H1,I1,r1,q1⟩:=zq0;refine dq (ho pins s1 σ H1 v y u w _ I1 r r1 q1) fun z s2 zq0=>?_
    obtain ⟨zv,H2,I2,r2,q2⟩:=zq0;exact pA I2 hN hi hx r2 (fun s3 I3=>⟨_,H2,I3,q2⟩) hf
  rcases l with ⟨hk,hm⟩ | ⟨hk,c,hc,hcell⟩
  · exact wpAny_loadName_local I.ok.kind hk hn hm go
  · rcases hk with hk | hk
    · exact wpAny_loadName_cell I.ok.kind hk hc hcell go
    · rcases hx with k | k
      · have:X.env.scope.names.lookup x=some .free:=hk;rw [k] at this;cases this
      · have:X.env.scope.names.lookup x=some .free:=hk;rw [k] at this;cases this
noncomputable def Jd (f:Int->Int->Int):Hr:=fun x y H Q=>∃ i j,x=.int i/\y=.int j/\Q (.int (f i j)) H
theorem D8:HR X .Add (Jd fun i j=>i+j):=by
  intro pins s σ H x y v u Q I r1 r2 h;obtain ⟨i,j,e1,e2,q⟩:=h;subst e1;subst e2;obtain ⟨t,rfl⟩:=r1;obtain ⟨t',rfl⟩:=r2;exact iadd_int ⟨.int _,H,I.tok _,⟨_,rfl⟩,q⟩
end
section
variable {X:Cx} {pos:Pos}
noncomputable def E8 (c:TT) (tb:TS):TS:=fun D σ H=>∃ W:Nat->St->Hp->Prop,(∃ m,W m σ H)/\∀ m σ H,W m σ H ->
  c σ H fun b H1=>if b=true then ∃ N:St->Hp->Prop,(∀ σ' H',N σ' H'->∃ m',m' < m/\W m' σ' H')/\tb { D with nx:=N,ct:=N,bk:=D.nx } σ H1 else D.nx σ H1
theorem As {c:Expr} {body:List Stmt} {tc:TT} {tb:TS} (hp:PassesOwn (model X.prog X.w) X.A X.env X.xe) (hc:PT X c tc) (hb:rd X body tb):PS X (.While c body [] pos) (E8 tc tb):=by
  intro pins s σ H D I h;obtain ⟨W,⟨m0,w0⟩,turn⟩:=h;refine wpAny_While (codeAny_whileLoop (fun n s'=>NX X pins s' (W n)) ?_ m0 ⟨σ,H,I,w0⟩);rintro n s1 ⟨σ1,H1,I1,w1⟩;refine wpAny_passesOwn hp (dq (hc pins s1 σ1 H1 _ I1 (turn n σ1 H1 w1)) fun b s2 zq0=>?_);obtain ⟨H2,I2,q2⟩:=zq0;cases b with
  | true =>
    obtain ⟨N,hN,q2⟩:=q2;rw [if_pos rfl];refine wpAny_passesOwn hp (dq (hb pins s2 σ1 H2 _ I2 q2) fun f s3 q3=>?_);cases f with
    | next =>
      obtain ⟨σ3,H3,I3,n3⟩:=q3;obtain ⟨m',hm,w3⟩:=hN σ3 H3 n3;exact ⟨m',hm,σ3,H3,I3,w3⟩
    | cont =>
      obtain ⟨σ3,H3,I3,n3⟩:=q3;obtain ⟨m',hm,w3⟩:=hN σ3 H3 n3;exact ⟨m',hm,σ3,H3,I3,w3⟩
    | brk=>exact q3
    | ret v=>exact q3
  | false =>
    rw [if_neg Bool.false_ne_true];exact wpAny_execs_nil ⟨σ1,H2,I2,q2⟩
end
structure It where
  go:Nat->Hp->Prop
  yld:Nat->Hp->V->Hp->Prop
  stop:Nat->Hp->Prop
noncomputable def nh (X:Cx) (pins:List (Addr×Obj)) (H:Hp) (b:Addr):Prop :=
  H b=none/\b≠X.env.locals/\b∉X.fs/\(b∈X.ex\/X.s₀.heap.objs.size<=b)/\(∀ x c,X.env.cells.lookup x=some c->c≠b)/\∀ p∈X.pn++pins,p.1≠b
theorem aU.fpOk {X:Cx} {pins:List (Addr×Obj)} {σ:St} {H H':Hp} {s:Shared} {b:Addr} (I:aU X pins σ H s) (hb:s.heap.objs.size<=b) (hn:H' b=none):nh X pins H' b:=by
  refine ⟨hn,Nat.ne_of_gt (Nat.lt_of_lt_of_le I.lt hb),I.nofs hb,.inr (Nat.le_trans I.sz hb),fun x c e z=>?_,fun p hp z=>?_⟩
  · obtain ⟨v,q⟩:=I.cell x c e;exact absurd (Nat.lt_of_lt_of_le q.lt (by rw [z];exact hb)) (Nat.lt_irrefl _)
  · exact absurd (Nat.lt_of_lt_of_le (Heap.lt_size (I.pin p hp).1) (by rw [z];exact hb)) (Nat.lt_irrefl _)
inductive Jo (X:Cx) (pins:List (Addr×Obj)) (σ:St) (u:Value) (J:It) (i:Nat) (H:Hp) (fp:List Addr) (tn:Nat->Heap->Prop) (s2:Shared):Prop
  | mk (x:V) (H':Hp) (I:aU X pins σ H' s2) (r:ca x u) (y:J.yld i H x H') (t:tn (i+1) s2.heap) (f:∀ b∈fp,H' b=none)
structure uO (P:Program) (w:World) (K:PySem.W.Frag) (tg:Expr) (J:It) (fp:List Addr) (it:Addr) (tn:Nat->Heap->Prop):Prop where
  mem:it∈fp
  obj:∀ i h,tn i h->∀ b∈fp,∃ o,h.get? b=some o/\∀ v,o.data≠.cell v
  keep:∀ i h h',tn i h->(∀ b∈fp,∀ o,h.get? b=some o->h'.get? b=some o)->tn i h'
  item:∀ (X:Cx),X.prog=P->X.w=w->X.K=K->X.calm=true->∀ (i:Nat) (pins:List (Addr×Obj)) (s:Shared) (σ:St) (H:Hp) (E:Value->Shared->Prop),aU X pins σ H s->(∀ b∈fp,nh X pins H b)->tn i s.heap->J.go i H ->
    wpAny (model P w) X.A (pyNext (.ref it)) (fun r s1=>∃ u,r=some u /\
      wpAny (model P w) X.A (letOwnedTupleGo tg (.ref it) u) (fun _ s2=>Jo X pins σ u J i H fp tn s2) E s1) E s
  done:∀ (X:Cx),X.prog=P->X.w=w->X.K=K->X.calm=true->∀ (i:Nat) (pins:List (Addr×Obj)) (s:Shared) (σ:St) (H:Hp) (E:Value->Shared->Prop),aU X pins σ H s->(∀ b∈fp,nh X pins H b)->tn i s.heap->J.stop i H ->
    wpAny (model P w) X.A (pyNext (.ref it)) (fun r s1=>r=none/\aU X pins σ H s1) E s
  self:∀ (A:Around) (i:Nat) (s:Shared) (Q:Value->Shared->Prop) (E:Value->Shared->Prop),tn i s.heap->Q (.ref it) s->wpAny (model P w) A (pyIter (.ref it)) Q E s
noncomputable abbrev TI:=St->Hp->(It->Hp->Prop)->Prop
inductive IX (X:Cx) (pins:List (Addr×Obj)) (σ:St) (tg:Expr) (R:It->Hp->Prop) (itv:Value) (s2:Shared):Prop
  | mk (it:Addr) (fp:List Addr) (tn:Nat->Heap->Prop) (J:It) (H':Hp) (e:itv=.ref it) (I:aU X pins σ H' s2) (T:uO X.prog X.w X.K tg J fp it tn) (t:tn 0 s2.heap) (f:∀ b∈fp,nh X pins H' b) (r:R J H')
noncomputable def PI (X:Cx) (tg iter:Expr) (wi:TI):Prop :=
  ∀ (pins:List (Addr×Obj)) (s:Shared) (σ:St) (H:Hp) (R:It->Hp->Prop),aU X pins σ H s->wi σ H R ->
    wpAny (model X.prog X.w) X.A (eval iter X.env) (fun v s1=>wpAny (model X.prog X.w) X.A (pyIter v) (IX X pins σ tg R) X.xe s1) X.xe s
theorem zD {M:Model} {A:Around} {E:Value->Shared->Prop} {s:Shared} {tg:Expr} {it:Addr} {u:Value} {o:Obj} {n:String} {vs:Array Value} {Q:Unit->Shared->Prop} (ho:s.heap.get? it=some o) (hc:o.cls=.type n) (hd:o.data=.fields vs)
    (hn:["enumerate","zip","dict_itemiterator","dict_reverseitemiterator","odict_iterator","itertools.zip_longest","itertools.pairwise"].contains n=false) (hQ:Q () s):wpAny M A (letOwnedTupleGo tg (.ref it) u) Q E s:=by
  unfold letOwnedTupleGo;cases tg <;> first
    | exact wpAny_pure hQ
    | (cases u <;> first
        | exact wpAny_pure hQ
        | (refine wpAny_bind (wpAny_load ho ?_)
           rw [hc,hd];show wpAny M A (if (["enumerate","zip","dict_itemiterator","dict_reverseitemiterator","odict_iterator","itertools.zip_longest","itertools.pairwise"].contains n&&vs[0]?==some (rawInt _))=true then _ else _) Q E s;rw [if_neg (by intro h;rw [hn,Bool.false_and] at h;cases h)];exact wpAny_pure hQ))
noncomputable def HN (K:PySem.W.Frag) (a:Addr):It :=
  ⟨fun i H=>∃ xs x,mB K H a xs/\xs[i]?=some x,fun i H x H'=>H'=H/\∀ xs,mB K H a xs->xs[i]?=some x,fun i H=>∃ xs,mB K H a xs/\xs.length<=i⟩
noncomputable def HP (K:PySem.W.Frag) (a:Addr):It :=
  ⟨fun i H=>∃ xs x,i4 K H a xs/\xs[i]?=some x,fun i H x H'=>H'=H/\∀ xs,i4 K H a xs->xs[i]?=some x,fun i H=>∃ xs,i4 K H a xs/\xs.length<=i⟩
noncomputable def Hk (lo:Int) (n:Nat):It:=⟨fun i _=>i < n,fun i H x H'=>H'=H/\x=.int (lo+i),fun i _=>n<=i⟩
theorem yu {P:Program} {w:World} {K:PySem.W.Frag} {tg:Expr} (a it:Addr):uO P w K tg (HN K a) [it] it (fun i h=>h.IsListIter it a i) where
  mem:=by simp
  obj:=fun i h st b hb=>by
    have e:b=it:=by simpa using hb
    subst e;obtain ⟨o,e,c,d⟩:=st;exact ⟨o,e,fun v z=>by rw [d] at z;cases z⟩
  keep:=fun i h h' st k=>st.at fun o e=>k it (by simp) o e
  item:=by
    intro X hP hw hK hc i pins s σ H E I hf st hg;subst hP hw hK;obtain ⟨xs,x,hq,hx⟩:=hg;obtain ⟨its,rv,p,hz⟩:=I.list hq;obtain ⟨u,hu,ru⟩:=rv.get hx;obtain ⟨f0,f1,f2,f3,f4,f5⟩:=hf it (by simp);refine wpAny_pyNext_list_item st p.isList (x:=u) (by simpa using hu) fun h' st' sb=>?_
    have I1:aU X pins σ H { s with heap:=h' }:=I.turned (t':=s.toks) (fun b o hb e=>(sb.2 b hb).trans e) f0 f1 f3 f4 f5;obtain ⟨o,e,c,d⟩:=id st';exact ⟨u,rfl,zD (s:={ s with heap:=h' }) e c d (by decide) ⟨x,H,I1,ru,⟨rfl,fun ys hy=>by rw [I.list_inj hy hq];exact hx⟩,st',fun b hb=>(hf b hb).1⟩⟩
  done:=by
    intro X hP hw hK hc i pins s σ H E I hf st hg;subst hP hw hK;obtain ⟨xs,hq,hx⟩:=hg;obtain ⟨its,rv,p,hz⟩:=I.list hq;obtain ⟨f0,f1,f2,f3,f4,f5⟩:=hf it (by simp);have hl:=rv.length;exact wpAny_pyNext_list_end (I.ok.hd hc) st p.isList (by simp;omega) fun h' eb=>⟨rfl,I.turned (t':=s.toks) (fun b o hb e=>eb b o hb e) f0 f1 f3 f4 f5⟩
  self:=fun _ _ _ _ _ st h=>wpAny_pyIter_listiter st h
theorem vJ {P:Program} {w:World} {K:PySem.W.Frag} {tg:Expr} (a it:Addr):uO P w K tg (HP K a) [it] it (fun i h=>h.IsTupleIter it a i) where
  mem:=by simp
  obj:=fun i h st b hb=>by
    have e:b=it:=by simpa using hb
    subst e;obtain ⟨o,e,c,d⟩:=st;exact ⟨o,e,fun v z=>by rw [d] at z;cases z⟩
  keep:=fun i h h' st k=>st.at fun o e=>k it (by simp) o e
  item:=by
    intro X hP hw hK hc i pins s σ H E I hf st hg;subst hP hw hK;obtain ⟨xs,x,hq,hx⟩:=hg;obtain ⟨its,rv,p,hz⟩:=I.tuple hq;obtain ⟨u,hu,ru⟩:=rv.get hx;obtain ⟨f0,f1,f2,f3,f4,f5⟩:=hf it (by simp);refine wpAny_pyNext_tuple_item st (show s.heap.IsTuple a its.toArray from p) (x:=u) (by simpa using hu) fun h' st' sb=>?_
    have I1:aU X pins σ H { s with heap:=h' }:=I.turned (t':=s.toks) (fun b o hb e=>(sb.2 b hb).trans e) f0 f1 f3 f4 f5;obtain ⟨o,e,c,d⟩:=id st';exact ⟨u,rfl,zD (s:={ s with heap:=h' }) e c d (by decide) ⟨x,H,I1,ru,⟨rfl,fun ys hy=>by rw [I.tuple_inj hy hq];exact hx⟩,st',fun b hb=>(hf b hb).1⟩⟩
  done:=by
    intro X hP hw hK hc i pins s σ H E I hf st hg;subst hP hw hK;obtain ⟨xs,hq,hx⟩:=hg;obtain ⟨its,rv,p,hz⟩:=I.tuple hq;obtain ⟨f0,f1,f2,f3,f4,f5⟩:=hf it (by simp);have hl:=rv.length;exact wpAny_pyNext_tuple_end (I.ok.hd hc) st (show s.heap.IsTuple a its.toArray from p) (by simp;omega) fun h' eb=>⟨rfl,I.turned (t':=s.toks) (fun b o hb e=>eb b o hb e) f0 f1 f3 f4 f5⟩
  self:=fun _ _ _ _ _ st h=>wpAny_pyIter_tupleiter st h
theorem vI {P:Program} {w:World} {K:PySem.W.Frag} {tg:Expr} (it:Addr) (lo:Int) (n:Nat):uO P w K tg (Hk lo n) [it] it (fun i h=>IsRangeIter h it (lo+(i:Nat)*1) ((n:Int)-(i:Nat)) 1) where
  mem:=by simp
  obj:=fun i h st b hb=>by
    have e:b=it:=by simpa using hb
    subst e;exact ⟨_,st,fun v z=>by
      have z':Data.fields _=Data.cell v:=z;cases z'⟩
  keep:=fun i h h' st k=>k it (by simp) _ st
  item:=by
    intro X hP hw hK hc i pins s σ H E I hf st hg;subst hP hw hK;obtain ⟨f0,f1,f2,f3,f4,f5⟩:=hf it (by simp);have W:=Walks.range (prog:=X.prog) (w:=X.w) (I.ok.hd hc) it lo 1 n;refine W.item i s _ _ hg st fun v h' tk hv st' kk=>?_
    obtain ⟨t,rfl⟩:=hv;have I1:aU X pins σ H { s with heap:=h',toks:=tk }:=I.turned (fun b o hb e=>kk b o (by simpa using hb) e) f0 f1 f3 f4 f5;refine ⟨_,rfl,zD (s:={ s with heap:=h',toks:=tk }) (n := "range_iterator") st' rfl rfl (by decide) ⟨.int (lo+i),H,I1,⟨t,?_⟩,⟨rfl,rfl⟩,st',fun b hb=>(hf b hb).1⟩⟩;rw [Int.mul_one]
  done:=by
    intro X hP hw hK hc i pins s σ H E I hf st hg;subst hP hw hK;obtain ⟨f0,f1,f2,f3,f4,f5⟩:=hf it (by simp);exact wpAny_pyNext_range_end (I.ok.hd hc) st (by have:n<=i:=hg;omega) fun h' eb=>⟨rfl,I.turned (t':=s.toks) (fun b o hb e=>eb b o hb e) f0 f1 f3 f4 f5⟩
  self:=fun _ _ _ _ _ st h=>wpAny_pyIter_rangeiter st h
section
variable {X:Cx} {tg:Expr}
theorem Ax {pins:List (Addr×Obj)} {σ:St} {H:Hp} {s:Shared} {R:It->Hp->Prop} {E:Value->Shared->Prop} {lo hi:Int} {t u v:Tok} {tk:Nat} (I:aU X pins σ H s) (h1:-(2 ^ 62)<=lo) (h2:lo < 2 ^ 62) (h3:-(2 ^ 62)<=hi) (h4:hi < 2 ^ 62)
    (q:R (Hk lo (hi-lo).toNat) H):wpAny (model X.prog X.w) X.A (pyIter (.ref s.heap.objs.size)) (IX X pins σ tg R) E { s with heap:=s.heap.push { cls:=.type "range",data:=.fields #[.int lo t,.int hi u,.int 1 v] },toks:=tk }:=by
  refine wpAny_pyIter_range (IsRange.new ..) (small_one h1 h2 h3 h4) ?_;have I1:aU X pins σ H { s with heap:=s.heap.push { cls:=.type "range",data:=.fields #[.int lo t,.int hi u,.int 1 v] },toks:=tk }:=I.kept fun b o e=>Heap.get?_push_of_some _ e
  refine ⟨(s.heap.push { cls:=.type "range",data:=.fields #[.int lo t,.int hi u,.int 1 v] }).objs.size,[(s.heap.push { cls:=.type "range",data:=.fields #[.int lo t,.int hi u,.int 1 v] }).objs.size],_,_,H,rfl,
    I1.kept (t':=tk) fun b o e=>Heap.get?_push_of_some _ e,vI _ lo (hi-lo).toNat,?_,fun b hb=>?_,q⟩
  · have e1:lo+((0:Nat):Int)*1=lo:=by simp
    have e2:(((hi-lo).toNat:Nat):Int)-((0:Nat):Int)=Builtin.Range.rangeSize lo hi 1:=by rw [rangeSize_one];split <;> omega
    show IsRangeIter _ _ (lo+((0:Nat):Int)*1) ((((hi-lo).toNat:Nat):Int)-((0:Nat):Int)) 1;rw [e1,e2];exact Heap.get?_push_size _ rfl
  · have e:b=(s.heap.push { cls:=.type "range",data:=.fields #[.int lo t,.int hi u,.int 1 v] }).objs.size:=by simpa using hb
    subst e;exact I1.fpOk (Nat.le_refl _) (I1.hok.fresh (Nat.le_refl _))
noncomputable def FX (ta:TA):TI:=fun σ H R=>ta σ H fun vs H1=>∃ j:Int,vs=[.int j]/\-(2 ^ 62)<=j/\j < 2 ^ 62/\R (Hk 0 j.toNat) H1
theorem ya {a:Expr} {ta:TA} {p pos:Pos} (hg:Gl X "range") (hm:X.mg "range" = none) (ha:PA X [a] ta) (hs:starEach [a] X.env=[(false,eval a X.env)]:=by rfl):PI X tg (.Call (.Name "range" p) [a] [] pos) (FX ta):=by
  intro pins s σ H R I h;refine Call_ (gX I hg hm boot_range (PyProof.Rows.callWith_type1 (dq (ha pos pins s σ H _ I h) fun us s1 zq0=>?_) hs rfl));obtain ⟨vs,H1,I1,r1,q1⟩:=zq0;obtain ⟨j,e,q1,q2,q⟩:=q1;subst e;cases r1 with
  | cons r rr =>
    cases rr;obtain ⟨t,rfl⟩:=r;exact call_range_1 (Ax I1 (by omega) (by omega) q1 q2 (by simpa using q))
noncomputable def II (wi:TI) (g:TG) (tb:TS):TS:=fun D σ H=>wi σ H fun J H1=>∃ W:Nat->Nat->St->Hp->Prop,(∃ m,W 0 m σ H1)/\∀ i m σ H,W i m σ H ->
  (J.stop i H/\D.nx σ H)\/(J.go i H/\∃ N:St->Hp->Prop,(∀ σ' H',N σ' H'->∃ m',m' < m/\W (i+1) m' σ' H')/\∀ x H',J.yld i H x H'->g x σ H' fun σ2 H2=>tb { D with nx:=N,ct:=N,bk:=D.nx } σ2 H2)
noncomputable def o8 (fp:List Addr) (h:Heap):List (Addr×Obj):=fp.filterMap fun b=>(h.get? b).map fun o=>(b,o)
theorem iK {fp:List Addr} {h:Heap} {b:Addr} {o:Obj} (hb:b∈fp) (e:h.get? b=some o):(b,o)∈o8 fp h:=List.mem_filterMap.mpr ⟨b,hb,by rw [e];rfl⟩
theorem x5 {fp:List Addr} {h:Heap} {p:Addr×Obj} (hp:p∈o8 fp h):p.1∈fp/\h.get? p.1=some p.2:=by
  obtain ⟨b,hb,e⟩:=List.mem_filterMap.mp hp;cases q:h.get? b with
  | none=>rw [q] at e;cases e
  | some o =>
    rw [q] at e;have e':(b,o)=p:=Option.some.inj e;subst e';exact ⟨hb,q⟩
theorem aU.pinned {pins:List (Addr×Obj)} {σ:St} {H:Hp} {s:Shared} {fp:List Addr} (I:aU X pins σ H s) (hf:∀ b∈fp,nh X pins H b) (ho:∀ b∈fp,∃ o,s.heap.get? b=some o/\∀ v,o.data≠.cell v):aU X (pins++o8 fp s.heap) σ H s :=
  I.pins_of fun p hp=>(List.mem_append.mp hp).elim (fun z=>I.pin p (List.mem_append_right _ z)) fun z=>by
    obtain ⟨hb,e⟩:=x5 z;obtain ⟨f0,f1,f2,_⟩:=hf p.1 hb;obtain ⟨o,e',d⟩:=ho p.1 hb;rw [e] at e';cases e';exact ⟨e,f0,f1,f2,d⟩
theorem aU.unpinned {pins pl:List (Addr×Obj)} {σ:St} {H:Hp} {s:Shared} (I:aU X (pins++pl) σ H s):aU X pins σ H s:=I.pins_of fun p hp=>I.pin p (List.mem_append_right _ (List.mem_append_left _ hp))
theorem EG {iter:Expr} {body:List Stmt} {wi:TI} {g:TG} {tb:TS} {pos:Pos} (hp:PassesOwn (model X.prog X.w) X.A X.env X.xe) (hc:X.calm=true) (hi:PI X tg iter wi) (hg:PG X tg g) (hb:rd X body tb)
    (hs:∀ x,foldedSetIterable iter X.env x=pure x:=by intro _;rfl):PS X (.For tg iter body [] pos) (II wi g tb):=by
  intro pins s σ H D I h;refine wpAny_For (dq (hi pins s σ H _ I h) fun v s1 h1=>dq h1 fun itv s2 h2=>?_) hs;obtain ⟨it,fp,tn,J,H2,e,I2,T,st2,f2,W,⟨m0,w0⟩,turn⟩:=h2;subst e
  -- what stays true of the iterator's objects through the loop
  have stat:∀ {H':Hp},(∀ b∈fp,H' b=none)->∀ b∈fp,nh X pins H' b:=fun hn b hb=>⟨hn b hb,(f2 b hb).2⟩
  refine codeAny_forLoop_any (fun n s'=>∃ i σ' H',aU X pins σ' H' s'/\tn i s'.heap/\(∀ b∈fp,H' b=none)/\W i n σ' H') ?_ m0 ⟨0,σ,H2,I2,st2,fun b hb=>(f2 b hb).1,w0⟩;rintro n s3 ⟨i,σ3,H3,I3,st3,fr3,w3⟩;rcases turn i n σ3 H3 w3 with ⟨stop,qn⟩ | ⟨go,N,hN,step⟩
  · refine wpAny_passesOwn hp (dq (T.done X rfl rfl rfl hc i pins s3 σ3 H3 X.xe I3 (stat fr3) st3 stop) fun r s4 zq0=>?_);obtain ⟨hr,I4⟩:=zq0;subst hr;exact wpAny_execs_nil ⟨σ3,H3,I4,qn⟩
  · refine wpAny_passesOwn hp (dq (T.item X rfl rfl rfl hc i pins s3 σ3 H3 X.xe I3 (stat fr3) st3 go) fun r s4 zq0=>?_);obtain ⟨u,hr,h4⟩:=zq0;subst hr;refine wpAny_passesOwn hp (dq h4 fun _ s5 zq0=>?_);obtain ⟨x,H5,I5,r5,y5,st5,fr5⟩:=zq0;have I5':=I5.pinned (stat fr5) (T.obj _ _ st5);refine wpAny_passesOwn hp (dq (hg _ s5 σ3 H5 x u _ I5' r5 (step x H5 y5)) fun _ s6 zq0=>?_);obtain ⟨σ6,H6,I6,q6⟩:=zq0;refine wpAny_passesOwn hp (dq (hb _ s6 σ6 H6 _ I6 q6) fun f s7 q7=>?_);have again:∀ {σ7:St} {H7:Hp},aU X (pins++o8 fp s5.heap) σ7 H7 s7->N σ7 H7->∃ m,m < n/\∃ i σ' H',aU X pins σ' H' s7/\tn i s7.heap/\(∀ b∈fp,H' b=none)/\W i m σ' H':=fun {σ7 H7} I7 n7=>by
      obtain ⟨m',hm,w7⟩:=hN σ7 H7 n7;refine ⟨m',hm,i+1,σ7,H7,I7.unpinned,T.keep _ _ _ st5 fun b hb o e=>(I7.pin (b,o) (List.mem_append_right _ (List.mem_append_right _ (iK hb e)))).1,fun b hb=>?_,w7⟩;obtain ⟨o,e,d⟩:=T.obj _ _ st5 b hb;exact (I7.pin (b,o) (List.mem_append_right _ (List.mem_append_right _ (iK hb e)))).2.1
    cases f with
    | next=>obtain ⟨σ7,H7,I7,n7⟩:=q7;exact again I7 n7
    | cont=>obtain ⟨σ7,H7,I7,n7⟩:=q7;exact again I7 n7
    | brk=>obtain ⟨σ7,H7,I7,q7⟩:=q7;exact ⟨σ7,H7,I7.unpinned,q7⟩
    | ret v=>obtain ⟨x7,σ7,H7,I7,r7,q7⟩:=q7;exact ⟨x7,σ7,H7,I7.unpinned,r7,q7⟩
end
noncomputable abbrev R2:=V->V->Hp->VK->Prop
noncomputable def i7 (X:Cx) (f:Value->Value->Sem Value) (r:R2):Prop :=
  ∀ (pins:List (Addr×Obj)) (s:Shared) (σ:St) (H:Hp) (x y:V) (v u:Value) (Q:VK),aU X pins σ H s->ca x v->ca y u->r x y H Q ->
    wpAny (model X.prog X.w) X.A (f v u) (EP X pins σ Q) X.xe s
noncomputable def dN (X:Cx) (f:Value) (r:List V->Hp->VK->Prop):Prop :=
  ∀ (pins:List (Addr×Obj)) (s:Shared) (σ:St) (H:Hp) (xs:List V) (us:List Value) (Q:VK),aU X pins σ H s->bH xs us->r xs H Q ->
    wpAny (model X.prog X.w) X.A (call f us) (EP X pins σ Q) X.xe s
noncomputable def G5 (r:R2) (ta tb:TE):TE:=fun σ H Q=>ta σ H fun x H1=>tb σ H1 fun y H2=>r x y H2 Q
noncomputable def rI (C:Int->Int->Prop) (g:Int->Int->V):R2:=fun x y H Q=>∃ i j,x=.int i/\y=.int j/\C i j/\Q (g i j) H
noncomputable def A8 (g:Int->Int->V):R2:=fun x y H Q=>∃ i j,x=.int i/\y=.int j/\Q (g i j) H
section
variable {X:Cx} {a b c:Expr} {ta tb tc:TE} {pos:Pos}
theorem DR (ha:PE X a ta) (hb:PE X b tb) {pins:List (Addr×Obj)} {s:Shared} {σ:St} {H:Hp} {R:V->V->Hp->Prop} (I:aU X pins σ H s)
    (h:ta σ H fun x H1=>tb σ H1 fun y H2=>R x y H2) {Q:Value->Shared->Prop} {f:Value->Value->Sem Value}
    (hf:∀ v u s2 x y H2,aU X pins σ H2 s2->ca x v->ca y u->R x y H2->wpAny (model X.prog X.w) X.A (f v u) Q X.xe s2) :
    wpAny (model X.prog X.w) X.A (eval a X.env) (fun v s₁=>wpAny (model X.prog X.w) X.A (eval b X.env) (fun u s₂=>wpAny (model X.prog X.w) X.A (f v u) Q X.xe s₂) X.xe s₁) X.xe s:=by
  refine dq (ha pins s σ H _ I h) fun v s1 zq0=>?_
  obtain ⟨x,H1,I1,r1,q1⟩:=zq0;refine dq (hb pins s1 σ H1 _ I1 q1) fun u s2 zq0=>?_
  obtain ⟨y,H2,I2,r2,q2⟩:=zq0;exact hf v u s2 x y H2 I2 r1 r2 q2
theorem Go {op:Operator} {r:R2} (ho:i7 X (binaryOp op) r) (ha:PE X a ta) (hb:PE X b tb):PE X (.BinOp a op b pos) (G5 r ta tb):=by
  intro pins s σ H Q I h;exact wpAny_BinOp (DR ha hb I h fun v u s2 x y H2 I2 rx ry q=>ho pins s2 σ H2 x y v u Q I2 rx ry q)
theorem Iy {f:Value->Value->Sem Value} {C:Int->Int->Prop} {g:Int->Int->Int}
    (rule:∀ (i j:Int) (t u:Tok) (s:Shared) (Q:Value->Shared->Prop) (E:Value->Shared->Prop),C i j->Q (.int (g i j) s.toks) { s with toks:=s.toks+1 }->wpAny (model X.prog X.w) X.A (f (.int i t) (.int j u)) Q E s) :
    i7 X f (rI C fun i j=>.int (g i j)):=by
  intro pins s σ H x y v u Q I rx ry h;obtain ⟨i,j,rfl,rfl,hc,q⟩:=h;obtain ⟨t,rfl⟩:=rx;obtain ⟨t',rfl⟩:=ry;exact rule i j t t' s _ _ hc ⟨.int (g i j),H,I.tok _,⟨_,rfl⟩,q⟩
theorem Gh {f:Value->Value->Sem Value} {g:Int->Int->Int}
    (rule:∀ (i j:Int) (t u:Tok) (s:Shared) (Q:Value->Shared->Prop) (E:Value->Shared->Prop),Q (.int (g i j) s.toks) { s with toks:=s.toks+1 }->wpAny (model X.prog X.w) X.A (f (.int i t) (.int j u)) Q E s) :
    i7 X f (A8 fun i j=>.int (g i j)):=by
  intro pins s σ H x y v u Q I rx ry h;obtain ⟨i,j,rfl,rfl,q⟩:=h;obtain ⟨t,rfl⟩:=rx;obtain ⟨t',rfl⟩:=ry;exact rule i j t t' s _ _ ⟨.int (g i j),H,I.tok _,⟨_,rfl⟩,q⟩
theorem Ek {f:Value->Value->Sem Value} {g:Int->Int->Bool}
    (rule:∀ (i j:Int) (t u:Tok) (s:Shared) (Q:Value->Shared->Prop) (E:Value->Shared->Prop),Q (.bool (g i j)) s->wpAny (model X.prog X.w) X.A (f (.int i t) (.int j u)) Q E s) :
    i7 X f (A8 fun i j=>.bl (g i j)):=by
  intro pins s σ H x y v u Q I rx ry h;obtain ⟨i,j,rfl,rfl,q⟩:=h;obtain ⟨t,rfl⟩:=rx;obtain ⟨t',rfl⟩:=ry;exact rule i j t t' s _ _ ⟨.bl (g i j),H,I,rfl,q⟩
noncomputable def Fl (i j:Int):Prop:=0 < j/\j < 1073741824
noncomputable def Bb (i j:Int):Prop:=(-(2 ^ 64) < i/\i < 2 ^ 64)\/(-(2 ^ 64) < j/\j < 2 ^ 64)
theorem Bb.ok {i j:Int} (h:Bb i j):IntMulOk i j:=by
  rcases h with ⟨h1,h2⟩ | ⟨h1,h2⟩
  · exact .of_left (intBits_le_64 h1 h2)
  · exact .of_right (intBits_le_64 h1 h2)
theorem El:i7 X (binaryOp .Add) (A8 fun i j=>.int (i+j)):=Gh fun _ _ _ _ _ _ _ q=>add_int q
theorem Es:i7 X (binaryOp .Sub) (A8 fun i j=>.int (i-j)):=Gh fun _ _ _ _ _ _ _ q=>sub_int q
theorem Ep:i7 X (binaryOp .Mult) (rI Bb fun i j=>.int (i*j)):=Iy fun _ _ _ _ _ _ _ hc q=>mul_int q hc.ok
theorem B5:i7 X (binaryOp .FloorDiv) (rI Fl fun i j=>.int (i / j)):=Iy fun i j _ _ _ _ _ hc q=>by
  have h1:(0:Int) < j:=hc.1;have h2:j < 1073741824:=hc.2;exact floordiv_int (by omega) (by rw [Int.fdiv_eq_ediv_of_nonneg i (by omega)];exact q) (.inl (PyProof.noPylong_small (by omega)))
theorem Eo:i7 X (binaryOp .Mod) (rI (fun _ j=>0 < j) fun i j=>.int (i%j)):=Iy fun i j _ _ _ _ _ hc q=>by
  have h1:(0:Int) < j:=hc;exact mod_int' (by omega) (by rw [Int.fmod_eq_emod_of_nonneg i (by omega)];exact q)
end
section
variable {X:Cx} {a b c:Expr} {ta tb tc:TE} {pos:Pos}
theorem zA {pins:List (Addr×Obj)} {σ:St} {H:Hp} {s:Shared} {Q:VK} {k k':Bool} (I:aU X pins σ H s) (q:Q (.bl k) H) (e:k=k'):EP X pins σ Q (.bool k') s:=by
  subst e;exact ⟨.bl k,H,I,rfl,q⟩
theorem Gi:i7 X (compareOp .Lt) (A8 fun i j=>.bl (decide (i < j))):=Ek fun _ _ _ _ _ _ _ q=>lt_int q
theorem Ag:i7 X (compareOp .LtE) (A8 fun i j=>.bl (decide (i<=j))):=Ek fun _ _ _ _ _ _ _ q=>le_int q
theorem Dk:i7 X (compareOp .Gt) (A8 fun i j=>.bl (decide (j < i))):=Ek fun _ _ _ _ _ _ _ q=>gt_int q
theorem En:i7 X (compareOp .Is) (fun x y H Q=>y=.non/\Q (.bl (decide (x=.non))) H):=by
  intro pins s σ H x y v u Q I rx ry h;obtain ⟨rfl,q⟩:=h;cases ry;refine is_none_gen (zA I q ?_);cases x <;> first
    | (cases rx;rfl)
    | (obtain ⟨t,rfl⟩:=rx;rfl)
theorem B6:i7 X (compareOp .IsNot) (fun x y H Q=>y=.non/\Q (.bl (!decide (x=.non))) H):=by
  intro pins s σ H x y v u Q I rx ry h;obtain ⟨rfl,q⟩:=h;cases ry;refine isnot_none_gen (zA I q ?_);cases x <;> first
    | (cases rx;rfl)
    | (obtain ⟨t,rfl⟩:=rx;rfl)
theorem i7.or {f:Value->Value->Sem Value} {r r':R2} (h:i7 X f r) (h':i7 X f r'):i7 X f (fun x y H Q=>r x y H Q\/r' x y H Q):=by
  intro pins s σ H x y v u Q I rx ry q;rcases q with q | q
  · exact h pins s σ H x y v u Q I rx ry q
  · exact h' pins s σ H x y v u Q I rx ry q
theorem iL (b:Expr) {op:CmpOp} (h:op≠.In:=by decide) (h2:op≠.NotIn:=by decide):behindInMarks op b=false:=by
  have e1:(op==CmpOp.In)=false:=by cases op <;> first | rfl | exact absurd rfl h
  have e2:(op==CmpOp.NotIn)=false:=by cases op <;> first | rfl | exact absurd rfl h2
  cases b <;> simp [behindInMarks,e1,e2]
theorem Cc {op:CmpOp} {r:R2} (ho:i7 X (compareOp op) r) (ha:PE X a ta) (hb:PE X b tb) (hm:behindInMarks op b=false):PE X (.Compare a [op] [b] pos) (G5 r ta tb):=by
  intro pins s σ H Q I h;exact wpAny_Compare1 (DR ha hb I h fun v u s2 x y H2 I2 rx ry q=>ho pins s2 σ H2 x y v u Q I2 rx ry q) hm
noncomputable def G6 (t:TE):TT:=fun σ H Q=>t σ H fun x H'=>∃ k,x=.bl k/\Q k H'
theorem Cn {op:CmpOp} {r:R2} (ho:i7 X (compareOp op) r) (ha:PE X a ta) (hb:PE X b tb) (hm:behindInMarks op b=false):PT X (.Compare a [op] [b] pos) (G6 (G5 r ta tb)):=by
  intro pins s σ H Q I h;refine wpAny_isTrue_Compare1 (dq (ha pins s σ H _ I h) fun v s1 ⟨x,H1,I1,r1,q1⟩=>dq (hb pins s1 σ H1 _ I1 q1) fun u s2 ⟨y,H2,I2,r2,q2⟩ =>
    dq (ho pins s2 σ H2 x y v u _ I2 r1 r2 q2) fun c s3 ⟨z,H3,I3,r3,k,e,q3⟩=>?_) hm
  subst e;cases r3;exact wpAny_truthy_bool ⟨H3,I3,q3⟩
noncomputable def AS (r r':R2) (ta tb tc:TE):TE:=fun σ H Q=>ta σ H fun x H1=>tb σ H1 fun y H2=>r x y H2 fun z H3=>∃ k,z=.bl k /\
  (if k=true then tc σ H3 fun w' H4=>r' y w' H4 Q else Q (.bl false) H3)
theorem Al {op op':CmpOp} {r r':R2} (ho:i7 X (compareOp op) r) (ho':i7 X (compareOp op') r') (ha:PE X a ta) (hb:PE X b tb) (hc:PE X c tc)
    (hm:lastMarks [op,op'] [b,c]=false:=by with_unfolding_all rfl):PE X (.Compare a [op,op'] [b,c] pos) (AS r r' ta tb tc):=by
  intro pins s σ H Q I h;refine Compare_chain (dq (ha pins s σ H _ I h) fun v s1 ⟨x,H1,I1,r1,q1⟩=>chain_link (dq (hb pins s1 σ H1 _ I1 q1) fun u s2 ⟨y,H2,I2,r2,q2⟩ =>
    dq (ho pins s2 σ H2 x y v u _ I2 r1 r2 q2) fun d s3 ⟨z,H3,I3,r3,k,e,q3⟩=>?_)) hm
  subst e;cases r3;refine wpAny_truthy_bool ?_;cases k with
  | false=>exact ite_ff ⟨.bl false,H3,I3,rfl,q3⟩
  | true=>exact ite_tt (chain_last (dq (hc pins s3 σ H3 _ I3 q3) fun w' s4 ⟨z',H4,I4,r4,q4⟩=>ho' pins s4 σ H4 y z' u w' Q I4 r2 r4 q4))
theorem l9:(sizeLine:Nat) < 2 ^ 63:=by rw [sizeLine_eq];decide
theorem fq {x:V} {us:List Value} (r:bH [x] us):∃ u,us=[u]/\ca x u:=by
  cases r with
  | cons r1 r2=>cases r2;exact ⟨_,rfl,r1⟩
theorem wT {x y:V} {us:List Value} (r:bH [x,y] us):∃ u w',us=[u,w']/\ca x u/\ca y w':=by
  cases r with
  | cons r1 r2 =>
    cases r2 with
    | cons r3 r4=>cases r4;exact ⟨_,_,rfl,r1,r3⟩
theorem xn (hc:X.calm=true):dN X (.builtin "max") (fun xs H Q=>∃ i j,xs=[.int i,.int j]/\Q (.int (if j > i then j else i)) H):=by
  intro pins s σ H xs us Q I r h;obtain ⟨i,j,rfl,q⟩:=h;obtain ⟨u,w',rfl,⟨t,rfl⟩,⟨t',rfl⟩⟩:=wT r;refine max_two_ints (I.ok.hd hc) fun h' tk k=>⟨_,H,I.kept k,?_,q⟩
  by_cases hj:j > i
  · rw [if_pos hj,if_pos hj];exact ⟨_,rfl⟩
  · rw [if_neg hj,if_neg hj];exact ⟨_,rfl⟩
theorem xo (hc:X.calm=true):dN X (.builtin "min") (fun xs H Q=>∃ i j,xs=[.int i,.int j]/\Q (.int (if j < i then j else i)) H):=by
  intro pins s σ H xs us Q I r h;obtain ⟨i,j,rfl,q⟩:=h;obtain ⟨u,w',rfl,⟨t,rfl⟩,⟨t',rfl⟩⟩:=wT r;refine min_two_ints (I.ok.hd hc) fun h' tk k=>⟨_,H,I.kept k,?_,q⟩
  by_cases hj:j < i
  · rw [if_pos hj,if_pos hj];exact ⟨_,rfl⟩
  · rw [if_neg hj,if_neg hj];exact ⟨_,rfl⟩
theorem xk:dN X (.type "int") (fun xs H Q=>(∃ i,xs=[.int i]/\Q (.int i) H)\/∃ k,xs=[.bl k]/\Q (.int (if k then 1 else 0)) H):=by
  intro pins s σ H xs us Q I r h;rcases h with ⟨i,rfl,q⟩ | ⟨k,rfl,q⟩
  · obtain ⟨u,rfl,t,rfl⟩:=fq r;exact call_int_int ⟨.int i,H,I,⟨_,rfl⟩,q⟩
  · obtain ⟨u,rfl,r1⟩:=fq r;cases r1;exact call_int_bool ⟨.int (if k then 1 else 0),H,I.tok _,⟨_,rfl⟩,q⟩
end
structure wZ (h:Heap) (x dx C:Addr) (mA:Str->Option Value):Prop where
  obj:h.get? x=some (PySem.W.instObj C dx)
  ns:h.Ns1 dx mA
  ne:dx≠x
theorem xU {h:Heap} {dx:Addr} {mA:Str->Option Value} (n:h.Ns1 dx mA):∃ od,h.get? dx=some od/\∀ name,PySem.W.lookIn name od=some (mA name):=by
  obtain ⟨o,es,ep,ho,hd,hk,_,hm⟩:=n;refine ⟨o,ho,fun name=>?_⟩;have e:=hm name;unfold nsFind findBy at e;rw [<- Array.find?_toList] at e;unfold PySem.W.lookIn;rw [hd];dsimp only;split
  · rename_i y q;rw [q] at e;exact congrArg some e
  · rename_i q;rw [q] at e;have a:es.toList.any (·.refKey)=false:=by
      rw [List.any_eq_false];intro y hy;obtain ⟨z,t,hkey⟩:=hk y (Array.mem_toList_iff.mp hy);simp [DictEntry.refKey,hkey]
    have a':¬ es.toList.any (·.refKey)=true:=by rw [a];exact Bool.false_ne_true
    rw [if_neg a'];exact congrArg some e
theorem wZ.look {h:Heap} {x dx C:Addr} {mA:Str->Option Value} (I:wZ h x dx C mA):∃ od,PySem.W.InstAt h x (PySem.W.instObj C dx) C (some od)/\∀ name,PySem.W.lookIn name od=some (mA name) :=
  let ⟨od,ho,hl⟩:=xU I.ns
  ⟨od,⟨I.obj,rfl,rfl,ho⟩,hl⟩
section
variable {prog:Program} {w:World} {A:Around} {E:Value->Shared->Prop} {s:Shared} {K:PySem.W.Frag} {x dx C f:Addr} {mA:Str->Option Value} {name:Str} {v:Value}
theorem BJ {expr:Bool} {Q:Value->Shared->Prop} (X:K.In s.heap) (I:wZ s.heap x dx C mA) (hg:PySem.W.plainGet K C name=true) (hh:PySem.W.hasDictIn K C=true)
    (ha:PySem.W.findIn K (.ref C) name=some none) (hv:mA name=some v) (hv':PySem.W.handedIn v=true) (h:Q v { s with toks:=s.toks+1 }) :
    wpAny (model prog w) A (getAttr (.ref x) name expr) Q E s:=by
  obtain ⟨od,J,hl⟩:=I.look;exact PySem.W.get_value X J (PySem.W.plainGet_of hg).1 (PySem.W.findObj_own hh ha rfl (by rw [hl,hv])) hv' h
theorem CA {ns:List Str} {Q:Unit->Shared->Prop} (X:K.In s.heap) (I:wZ s.heap x dx C mA)
    (hs:PySem.W.findIn K (.ref C) "__setattr__" = some (some (.builtin "object.__setattr__"))) (hp:PySem.W.plainOver K C=true) (ht:PySem.W.takerIn K C name=some none) (hh:PySem.W.hasDictIn K C=true)
    (hw:PySem.Within mA ns) (hsz:ns.length<=sizeLine)
    (h:∀ h',wZ h' x dx C (fun y=>if y=name then some v else mA y)->Heap.SameBut dx s.heap h'->Q () { s with heap:=h',toks:=s.toks+2 }) :
    wpAny (model prog w) A (setAttr (.ref x) name v) Q E s:=by
  obtain ⟨od,J,hl⟩:=I.look;refine PySem.W.set_plain X J hs (PySem.W.osa_open (s:={ s with toks:=s.toks+1 }) (r:=none) X J hp ht fun b=>?_);obtain ⟨cd,hc,hd'⟩:=PySem.W.any_some hh;have hx:s.heap.get? x=some ⟨.ref C,some dx,.plain,#[]⟩:=I.obj;refine wpAny_bind (wpAny_pure (wpAny_bind (wpAny_bind (wpAny_loadPart hx (wpAny_bind (PySem.W.Looks.here (s:={ s with toks:=s.toks+1 }) (PySem.W.looks_clsIn X hc) ?_))))));rw [hd'];refine wpAny_pure (a:=some dx) (wpAny_bind (wpAny_pure (wpAny_bind ?_)));refine wpAny_nsSet1 (s:={ s with toks:=s.toks+1 }) I.ns fun h' hn2 hs2=>?_
  obtain ⟨oD,esD,epD,hoD,hdD,hcD⟩:=hn2.count (PySem.Within.cons name v hw);refine wpAny_bind (wpAny_lookBehind hoD (by rw [hdD];exact pastItsLine_dict (Nat.le_trans hcD (by rw [List.length_cons];omega))) ?_);exact wpAny_pure (h _ ⟨(hs2.2 _ (Ne.symm I.ne)).trans I.obj,hn2,I.ne⟩ hs2)
theorem zX {R:Result->Shared->Prop} {vs:List Value} {kw:List (Str×Value)} (X:K.In s.heap) (hm:PySem.W.makesIn K C=true)
    (hi:PySem.W.findIn K (.ref C) "__init__" = some (some (.ref f))) (hf:PySem.W.typeIn K (.ref f)=some (.type "function"))
    (h:codeAny (model prog w) (A.under (.builtin "type.__call__" ⟨.ref C::vs,kw⟩)) (.call (.ref f) ⟨.ref (s.heap.objs.size+1)::vs,kw⟩) (PySem.W.InitBack (s.heap.objs.size+1) R)
      { s with heap:=(s.heap.push PySem.W.emptyDict).push (PySem.W.instObj C s.heap.objs.size) }) :
    codeAny (model prog w) A (.call (.ref C) ⟨vs,kw⟩) R s:=by
  obtain ⟨hh,g,d,t,os⟩:=s;exact PySem.W.make_core (PySem.W.makes_of X hm) (PySem.W.looks_findIn X hi) (fun self=>PySem.W.bind_fn X self hf) (.inl rfl) h
end
noncomputable def ik (f:Str) (v:V):List (Str×V)->List (Str×V)
  | []=>[(f,v)]
  | (g,x)::r=>if g=f then (g,v)::r else (g,x)::ik f v r
theorem mM (f g:Str) (v:V):∀ fs:List (Str×V),(ik f v fs).lookup g=if g=f then some v else fs.lookup g
  | []=>by
    show List.lookup g [(f,v)]=_;by_cases h:g=f
    · have hb:(g==f)=true:=beq_iff_eq.mpr h;simp only [List.lookup,hb,if_pos h]
    · have hb:(g==f)=false:=beq_eq_false_iff_ne.mpr h;simp only [List.lookup,hb,if_neg h]
  | (k,x)::r=>by
    have ih:=mM f g v r;rw [show ik f v ((k,x)::r)=(if k=f then (k,v)::r else (k,x)::ik f v r) from rfl];by_cases hk:k=f
    · rw [if_pos hk];by_cases h:g=k
      · have hb:(g==k)=true:=beq_iff_eq.mpr h;simp only [List.lookup,hb,if_pos (h.trans hk)]
      · have hb:(g==k)=false:=beq_eq_false_iff_ne.mpr h;simp only [List.lookup,hb,if_neg (fun e:g=f=>h (e.trans hk.symm))]
    · rw [if_neg hk];by_cases h:g=k
      · have hb:(g==k)=true:=beq_iff_eq.mpr h;simp only [List.lookup,hb,if_neg (fun e:g=f=>hk (h.symm.trans e))]
      · have hb:(g==k)=false:=beq_eq_false_iff_ne.mpr h;simp only [List.lookup,hb];exact ih
theorem l8 (f:Str) (v:V):∀ fs:List (Str×V),f∈(ik f v fs).map (·.1)/\∀ g,g∈fs.map (·.1)->g∈(ik f v fs).map (·.1)
  | []=>⟨by simp [ik],fun g h=>by simp at h⟩
  | (k,x)::r=>by
    obtain ⟨i1,i2⟩:=l8 f v r;rw [show ik f v ((k,x)::r)=(if k=f then (k,v)::r else (k,x)::ik f v r) from rfl];by_cases hk:k=f
    · rw [if_pos hk];subst hk;exact ⟨by simp,fun g h=>by simpa using h⟩
    · rw [if_neg hk];refine ⟨?_,fun g h=>?_⟩
      · rw [List.map_cons];exact List.mem_cons_of_mem _ i1
      · rw [List.map_cons] at h ⊢;rcases List.mem_cons.mp h with e | e
        · exact List.mem_cons.mpr (.inl e)
        · exact List.mem_cons_of_mem _ (i2 g e)
theorem gL (f:Str) (v:V):∀ fs:List (Str×V),(ik f v fs).length<=fs.length+1
  | []=>by simp [ik]
  | (k,x)::r=>by
    have ih:=gL f v r;rw [show ik f v ((k,x)::r)=(if k=f then (k,v)::r else (k,x)::ik f v r) from rfl];by_cases hk:k=f
    · rw [if_pos hk,List.length_cons,List.length_cons];omega
    · rw [if_neg hk,List.length_cons,List.length_cons];omega
theorem lV.some_of {v:V} {o:Option Value} (r:lV (some v) o):∃ u,o=some u/\ca v u:=by
  cases o with
  | none=>exact (show False from r).elim
  | some u=>exact ⟨u,rfl,r⟩
theorem xF {v:V} {u:Value} (r:ca v u):PySem.W.handedIn u=true:=by
  cases v with
  | non=>cases (show u=Value.none from r);rfl
  | bl b=>cases (show u=Value.bool b from r);rfl
  | int i=>obtain ⟨t,e⟩:=(show ∃ t,u=Value.int i t from r);cases e;rfl
  | str x=>obtain ⟨t,e⟩:=(show ∃ t,u=Value.str x t from r);cases e;rfl
  | byt b=>obtain ⟨t,e⟩:=(show ∃ t,u=Value.bytes b t from r);cases e;rfl
  | flt b=>obtain ⟨t,e⟩:=(show ∃ t,u=Value.float b t from r);cases e;rfl
  | ref a=>cases (show u=Value.ref a from r);rfl
  | ty n=>cases (show u=Value.type n from r);rfl
section
variable {P:Program} {w:World} {H H':Hp} {h h':Heap} {a C dx:Addr} {fs fs':List (Str×V)}
theorem wj (hok:hR P w H h) (e:H a=some (.ins C dx fs)):∃ mA,wZ h a dx C mA/\(∀ f,lV (fs.lookup f) (mA f))/\PySem.Within mA (fs.map (·.1))/\fs.length<=1000/\H dx=some (.own a):=by
  obtain ⟨d,z,ne,ob,mA,n,r,q⟩:=(show cb P w H h a (.ins C dx fs) from hok a _ e)
  exact ⟨mA,⟨ob,n,ne⟩,r,q,z,d⟩
end
structure yD (K:PySem.W.Frag) (C:Addr):Prop where
  pg:PySem.W.plainGet K C Str.empty=true
  hd:PySem.W.hasDictIn K C=true
  po:PySem.W.plainOver K C=true
  sa:PySem.W.findIn K (.ref C) "__setattr__" = some (some (.builtin "object.__setattr__"))
theorem yD.get {K:PySem.W.Frag} {C:Addr} (c:yD K C) (f:Str):PySem.W.plainGet K C f=true:=c.pg
noncomputable def eh (K:PySem.W.Frag) (C:Addr) (f:Str):Prop:=PySem.W.findIn K (.ref C) f=some none
theorem eh.taker {K:PySem.W.Frag} {C:Addr} {f:Str} (n:eh K C f):PySem.W.takerIn K C f=some none:=by
  unfold PySem.W.takerIn;rw [show PySem.W.findIn K (.ref C) f=some none from n];rfl
section
variable {X:Cx} {pins:List (Addr×Obj)} {σ:St} {H:Hp} {s:Shared} {a C dx:Addr} {fs:List (Str×V)} {f:Str} {v:V} {A:Around} {E:Value->Shared->Prop}
theorem vx {y:V} {u:Value} {Q:Unit->Shared->Prop} (I:aU X pins σ H s) (e:H a=some (.ins C dx fs)) (c:yD X.K C) (n:eh X.K C f) (hl:fs.length < 1000) (ry:ca y u)
    (h:∀ s',aU X pins σ (cI H a (.ins C dx (ik f y fs))) s'->Q () s'):wpAny (model X.prog X.w) A (setAttr (.ref a) f u) Q E s:=by
  obtain ⟨mA,O,r,wi,_,ho⟩:=wj I.hok e;have hz:(fs.map (·.1)).length<=sizeLine:=by rw [List.length_map,sizeLine_eq];omega
  refine CA I.kIn O c.sa c.po n.taker c.hd wi hz fun h' O' sb=>h _ ?_
  have hd:∃ o,h'.get? dx=some o:=let ⟨o,_,_,e',_⟩:=O'.ns;⟨o,e'⟩
  refine I.write (x:=a) (e:=dx) (by rw [e];exact True.intro) (.inr ho) (fun b q hb z=>(sb.2 b hb).trans z) hd ?_;refine ⟨by rw [aA O.ne];exact ho,?_,O.ne,O'.obj,_,O'.ns,fun g=>?_,fun g hg=>?_⟩
  · have:=gL f y fs;omega
  · show lV ((ik f y fs).lookup g) (if g=f then some u else mA g);rw [mM];by_cases q:g=f
    · rw [if_pos q,if_pos q];exact ry
    · rw [if_neg q,if_neg q];exact r g
  · by_cases q:g=f
    · rw [q];exact (l8 f y fs).1
    · refine (l8 f y fs).2 g (wi g fun z=>hg ?_);show (if g=f then some u else mA g)=none;rw [if_neg q];exact z
theorem aU.made (I:aU X pins σ H s):aU X pins σ (cI (cI H s.heap.objs.size (.own (s.heap.objs.size+1))) (s.heap.objs.size+1) (.ins C s.heap.objs.size []))
    { s with heap:=(s.heap.push PySem.W.emptyDict).push (PySem.W.instObj C s.heap.objs.size) }:=by
  have e1:(s.heap.push PySem.W.emptyDict).get? s.heap.objs.size=some PySem.W.emptyDict:=Heap.get?_push_size s.heap rfl;have e2:((s.heap.push PySem.W.emptyDict).push (PySem.W.instObj C s.heap.objs.size)).get? (s.heap.objs.size+1)=some (PySem.W.instObj C s.heap.objs.size):=by
    have:=Heap.get?_push_size (s.heap.push PySem.W.emptyDict) (o:=PySem.W.instObj C s.heap.objs.size) rfl
    rwa [Heap.size_push] at this
  have e3:(s.heap.push PySem.W.emptyDict).Ns s.heap.objs.size (fun _=>none):=⟨PySem.W.emptyDict,#[],_,e1,rfl,(fun e he=>absurd he (by simp)),fun _=>rfl⟩
  have I1:=I.laid (a:=s.heap.objs.size) (o:=.own (s.heap.objs.size+1)) (h':=s.heap.push PySem.W.emptyDict) (t':=s.toks) (fun b u q=>Heap.get?_push_of_some _ q) (Nat.le_refl _) ⟨_,e1⟩;refine I1.laid (a:=s.heap.objs.size+1) (o:=.ins C s.heap.objs.size []) (t':=s.toks) (fun b u q=>Heap.get?_push_of_some _ q) (Nat.le_of_eq (Heap.size_push _ _)) ?_;have ne:s.heap.objs.size≠s.heap.objs.size+1:=Nat.ne_of_lt (Nat.lt_succ_self _);refine ⟨by rw [aA ne,bq],Nat.zero_le _,ne,e2,fun _=>none,(Heap.Ns1.of_empty e3).at fun o q=>Heap.get?_push_of_some _ q,fun _=>True.intro,fun y hy=>absurd rfl hy⟩
theorem Bl {prog:Program} {w:World} {env:Env} {e:Expr} {f:Str} {pos:Pos} {s:Shared} {Q:Value->Shared->Prop} (hb:attributeBase e f env (eval e env)=eval e env)
    (h:wpAny (model prog w) A (eval e env) (fun o s₁=>wpAny (model prog w) A (getAttr o f true) Q E s₁) E s):wpAny (model prog w) A (eval (.Attribute e f pos) env) Q E s :=
  Attribute_any_ h (by rw [arm_eval_Attribute,hb])
end
noncomputable def ID (K:PySem.W.Frag) (ta tv:TE) (f:Str):TS:=fun D σ H=>tv σ H fun y H1=>ta σ H1 fun x H2=>∃ a C dx fs,x=.ref a/\H2 a=some (.ins C dx fs)/\yD K C/\eh K C f/\fs.length < 1000 /\
  D.nx σ (cI H2 a (.ins C dx (ik f y fs)))
section
variable {X:Cx} {o e value:Expr} {f:Str} {pos pos' tpos:Pos} {ta tv:TE}
theorem vo (ha:PE X o ta) (hv:PE X value tv) (hs:swapsWith value (some (.Attribute o f pos')) pos.line X.env=pure false):PS X (.Assign [.Attribute o f pos'] value pos) (ID X.K ta tv f):=by
  intro pins s σ H D I h;refine plainObj_wpAny_Assign_Attribute (dq (hv pins s σ H _ I h) fun u s1 ⟨y,H1,I1,ry,q⟩=>dq (ha pins s1 σ H1 _ I1 q) fun ov s2 zq0=>?_) hs;obtain ⟨x,H2,I2,rx,a,C,dx,fs,ex,ea,c,n,l,q2⟩:=zq0;subst ex;obtain rfl:ov=Value.ref a:=rx;exact vx I2 ea c n l ry fun s3 I3=>⟨σ,_,I3,q2⟩
end
section
variable {X:Cx} {pins:List (Addr×Obj)} {σ:St} {H:Hp} {s:Shared} {A:Around} {E:Value->Shared->Prop} {Q:Value->Shared->Prop} {c:Value} {b:Bool}
inductive kO (K:PySem.W.Frag) (H:Hp):V->Value->Prop where
  | non:kO K H .non (.type "NoneType")
  | bl (x:Bool):kO K H (.bl x) (.type "bool")
  | int (i:Int):kO K H (.int i) (.type "int")
  | str (x:Str):kO K H (.str x) (.type "str")
  | flt (x:UInt64):kO K H (.flt x) (.type "float")
  | lst {a:Addr} {xs:List V} (e:H a=some (.lst xs)):kO K H (.ref a) (.type "list")
  | frz {a:Addr} {o:Obj} {xs:List V} (e:H a=some (.frz o (.lst xs))):kO K H (.ref a) (.type "list")
  | tup {a:Addr} {xs:List V} (e:H a=some (.tup xs)):kO K H (.ref a) (.type "tuple")
  | dK {a:Addr} {kvs:List (di×V)} (e:H a=some (.dK kvs)):kO K H (.ref a) (.type "dict")
  | dT {a:Addr} {kvs:List (List di×V)} (e:H a=some (.dT kvs)):kO K H (.ref a) (.type "dict")
  | ins {a C dx:Addr} {fs:List (Str×V)} (e:H a=some (.ins C dx fs)) (cl:yD K C) (ha:PySem.W.findIn K (.ref C) "__class__" = some (some (.builtin "object.__class__")))
      (hn:PySem.W.specialIn K (.builtin "object.__class__") "__get__" = some (some (.builtin "getset_descriptor.__get__"))) (htk:PySem.W.takesIn K (.builtin "object.__class__")=some true)
      (hm:PySem.W.mroIn K C (.type "object")=some true):kO K H (.ref a) (.ref C)
theorem xL {x:V} {u t:Value} (I:aU X pins σ H s) (rx:ca x u) (ty:kO X.K H x t) (e:PySem.W.kitOne X.K t c=some b) (h:∀ tk,Q (.bool b) { s with toks:=tk }) :
    wpAny (model X.prog X.w) A (call (.builtin "isinstance") [u,c]) Q E s:=by
  cases ty with
  | non=>cases (show u=Value.none from rx);exact PySem.W.kia_one PySem.W.kitx_none I.kIn True.intro e (fun z=>nomatch z) h
  | bl y=>cases (show u=Value.bool y from rx);exact PySem.W.kia_one PySem.W.kitx_bool I.kIn True.intro e (fun z=>nomatch z) h
  | int i=>obtain ⟨t,q⟩:=(show ∃ t,u=Value.int i t from rx);cases q;exact PySem.W.kia_one PySem.W.kitx_int I.kIn True.intro e (fun z=>nomatch z) h
  | str y=>obtain ⟨t,q⟩:=(show ∃ t,u=Value.str y t from rx);cases q;exact PySem.W.kia_one PySem.W.kitx_str I.kIn True.intro e (fun z=>nomatch z) h
  | flt y=>obtain ⟨t,q⟩:=(show ∃ t,u=Value.float y t from rx);cases q;exact PySem.W.kia_one PySem.W.kitx_float I.kIn True.intro e (fun z=>nomatch z) h
  | @lst a xs ea =>
    cases (show u=Value.ref a from rx);obtain ⟨_,_,n,_,h1⟩:=(show cb X.prog X.w H s.heap a (.lst xs) from I.hok a _ ea)
    exact PySem.W.kia_one PySem.W.kitx_list I.kIn ⟨_,h1,rfl⟩ e (fun z=>nomatch z) h
  | @frz a ob xs ea =>
    cases (show u=Value.ref a from rx);obtain ⟨_,_,_,n,_,h1⟩:=(show cb X.prog X.w H s.heap a (.frz ob (.lst xs)) from I.hok a _ ea)
    exact PySem.W.kia_one PySem.W.kitx_list I.kIn ⟨_,h1,rfl⟩ e (fun z=>nomatch z) h
  | @tup a xs ea =>
    cases (show u=Value.ref a from rx);obtain ⟨_,_,_,p⟩:=(show cb X.prog X.w H s.heap a (.tup xs) from I.hok a _ ea)
    obtain ⟨o,h1,h2,_⟩:=p;exact PySem.W.kia_one PySem.W.kitx_tuple I.kIn ⟨o,h1,h2⟩ e (fun z=>nomatch z) h
  | @dK a kvs ea =>
    cases (show u=Value.ref a from rx);obtain ⟨_,_,vs,_,p⟩:=(show cb X.prog X.w H s.heap a (.dK kvs) from I.hok a _ ea)
    obtain ⟨o,es,ep,h1,h2,_⟩:=p;exact PySem.W.kia_one PySem.W.kitx_dict I.kIn ⟨o,h1,h2.1⟩ e (fun z=>nomatch z) h
  | @dT a kvs ea =>
    cases (show u=Value.ref a from rx);obtain ⟨_,_,xs,_,o,es,ep,h1,h2,_⟩:=(show cb X.prog X.w H s.heap a (.dT kvs) from I.hok a _ ea)
    exact PySem.W.kia_one PySem.W.kitx_dict I.kIn ⟨o,h1,h2.1⟩ e (fun z=>nomatch z) h
  | @ins a C dx fs ea cl ha hn htk hm =>
    cases (show u=Value.ref a from rx);obtain ⟨mA,O,_⟩:=wj I.hok ea;obtain ⟨od,J,_⟩:=O.look;exact PySem.W.kia_one (PySem.W.kitx_own (cl.get _) cl.hd ha hn htk hm) I.kIn J e (fun z=>nomatch z) h
end
structure eQ (k:Nat) (A:Around):Prop where
  hd:A.handled=none
  dp:A.depth+3*k+5 < recursionLimit
  un:A.units+16*k+200 < cLine
theorem eQ.mono {j k:Nat} {A:Around} (r:eQ k A) (h:j<=k):eQ j A:=⟨r.hd,by have:=r.dp;omega,by have:=r.un;omega⟩
theorem eQ.deeper {k:Nat} {A:Around} (r:eQ (k+1) A) (env:Env):eQ k (A.deeper env) :=
  ⟨r.hd,by have:=r.dp;show A.depth+1+3*k+5 < _;omega,by have:=r.un;show A.units+3+16*k+200 < _;omega⟩
theorem ve {A:Around} {C:Addr} {us:List Value} {kw:List (Str×Value)}:(A.under (.builtin "type.__call__" ⟨.ref C::us,kw⟩)).depth=A.depth+1:=by
  first | rfl | simp [Around.under,Code.weight,Code.isCreation,Code.isGuard,Code.isCaller,Code.frames,Code.isFrame,guardIds]
theorem vf {A:Around} {C:Addr} {us:List Value} {kw:List (Str×Value)}:(A.under (.builtin "type.__call__" ⟨.ref C::us,kw⟩)).units=A.units+1:=by
  first | rfl | simp [Around.under,Code.cUnits,Code.frames,Code.isFrame]
theorem eQ.make {k:Nat} {A:Around} (r:eQ (k+1) A) (C:Addr) (us:List Value) (kw:List (Str×Value)):eQ k (A.under (.builtin "type.__call__" ⟨.ref C::us,kw⟩)) :=
  ⟨r.hd,by have:=r.dp;rw [ve];omega,by have:=r.un;rw [vf];omega⟩
theorem eQ.depth {k:Nat} {A:Around} (r:eQ k A):A.depth < recursionLimit:=by have:=r.dp;omega
theorem eQ.units {k:Nat} {A:Around} (r:eQ k A):A.units+64 < cLine:=by have:=r.un;omega
noncomputable def IL:TA:=fun _ H Q=>Q [] H
noncomputable def GY (ta:TE) (tr:TA):TA:=fun σ H Q=>ta σ H fun x H1=>tr σ H1 fun xs H2=>Q (x::xs) H2
section
variable {X:Cx} {e:Expr} {es:List Expr} {te:TE} {t:TA} {pos:Pos}
theorem Ak:PA X [] IL:=fun _ _ _ _ H Q I h=>Calls.spliced_nil ⟨[],H,I,.nil,h⟩
theorem sg (ha:PE X e te) (hr:PA X es t) (hs:starEach (e::es) X.env=(false,eval e X.env)::starEach es X.env:=by rfl):PA X (e::es) (GY te t):=by
  intro pos pins s σ H Q I h;rw [hs];show wpAny _ _ (spliced ((false,eval e X.env)::backTo pos (starEach es X.env))) _ _ s;refine Calls.spliced_cons (dq (ha pins s σ H _ I h) fun u s1 zq0=>?_);obtain ⟨x,H1,I1,r1,q1⟩:=zq0;exact dq (hr pos pins s1 σ H1 _ I1 q1) fun us s2 ⟨xs,H2,I2,r2,q2⟩=>⟨x::xs,H2,I2,.cons r1 r2,q2⟩
noncomputable def IR (t:TA):TE:=fun σ H Q=>t σ H fun xs H1=>xs.length<=sizeLine/\∀ p,H1 p=none->Q (.ref p) (cI H1 p (.tup xs))
noncomputable def IK (t:TA):TE:=fun σ H Q=>t σ H fun xs H1=>xs.length<=sizeLine/\∀ p,H1 p=none->Q (.ref p) (cI H1 p (.lst xs))
theorem EA {x1} (h:PA X es t):PE X (.Tuple es x1 pos) (IR t):=by
  intro pins s σ H Q I hq;refine wpAny_Tuple_spliced (dq (h pos pins s σ H _ I hq) fun us s1 ⟨xs,H1,I1,r,z,q⟩=>⟨by rw [<- r.length];exact z,?_⟩);have hf:H1 s1.heap.objs.size=none:=I1.hok.fresh (Nat.le_refl _);refine ⟨.ref s1.heap.objs.size,cI H1 s1.heap.objs.size (.tup xs),I1.laid (t':=s1.toks) (fun b u e=>Heap.get?_push_of_some _ e) (Nat.le_refl _) ?_,rfl,q _ hf⟩;exact ⟨z,us,r,⟨_,Heap.get?_push_size _ rfl,rfl,⟨_,rfl⟩,rfl⟩⟩
theorem Ev (h:PA X es t):PE X (.List es pos) (IK t):=by
  intro pins s σ H Q I hq;refine wpAny_List_spliced (dq (h pos pins s σ H _ I hq) fun us s1 ⟨xs,H1,I1,r,z,q⟩=>⟨by rw [<- r.length];exact z,?_⟩);have hf:H1 s1.heap.objs.size=none:=I1.hok.fresh (Nat.le_refl _);refine ⟨.ref s1.heap.objs.size,cI H1 s1.heap.objs.size (.lst xs),I1.laid (t':=s1.toks) (fun b u e=>Heap.get?_push_of_some _ e) (Nat.le_refl _) ?_,rfl,q _ hf⟩;exact ⟨z,us,0,r,Heap.get?_push_size _ rfl⟩
end
noncomputable abbrev Sp:=List V->Hp->VK->XK->Prop
noncomputable abbrev yC:=List Env->Hp->Shared->XK->Value->Shared->Prop
structure uC (P:Program) (w:World) (K:PySem.W.Frag) (mg:Str->Option Value) (base:Heap) (A:Around) (outer:List Env) (s:Shared) (H:Hp):Prop where
  frames:A.frames=some outer
  mod:Mod K mg base
  bs:∀ b o,base.get? b=some o->s.heap.get? b=some o/\H b=none
  bsz:base.objs.size<=s.heap.objs.size
  funs:s.heap.FunFrames base outer
  frf:∀ b∈lK outer,H b=none
  hok:hR P w H s.heap
  bare:AllBare s.gens
noncomputable def CE (outer:List Env) (P:Program) (w:World) (H:Hp) (s:Shared) (Q:VK) (u:Value) (s':Shared):Prop :=
  ∃ v H',s'.os=s.os/\AllBare s'.gens/\Un (lK outer) [] H H' s.heap s'.heap/\hR P w H' s'.heap/\ca v u/\Q v H'
noncomputable def CR (CX:yC) (outer:List Env) (P:Program) (w:World) (H:Hp) (s:Shared) (Q:VK) (E:XK) (r:Result) (s':Shared):Prop :=
  match r with
  | .ok (.ret u)=>CE outer P w H s Q u s'
  | .ok _=>False
  | .error e=>CX outer H s E e s'
structure bi (P:Program) (w:World) (K:PySem.W.Frag) (mg:Str->Option Value) (base:Heap) (CX:yC) (k:Nat) (f:Addr) (fd:FuncData) (ps:List Str) (sp:Sp):Prop where
  len:∀ vs H Q E,sp vs H Q E->vs.length=ps.length
  run:∀ (A:Around) (outer:List Env) (s:Shared) (H:Hp) (args:Args) (us:List Value) (vs:List V) (Q:VK) (E:XK),eQ k A->uC P w K mg base A outer s H->BindsTo s fd args (ps.zip us)->bH vs us->sp vs H Q E ->
    codeAny (model P w) A (.call (.ref f) args) (CR CX outer P w H s Q E) s
theorem bi.mono {P:Program} {w:World} {K:PySem.W.Frag} {mg:Str->Option Value} {base:Heap} {CX:yC} {j k:Nat} {f:Addr} {fd:FuncData} {ps:List Str} {sp:Sp} (F:bi P w K mg base CX j f fd ps sp) (h:j<=k) :
    bi P w K mg base CX k f fd ps sp:=⟨F.len,fun A outer s H args us vs Q E hr=>F.run A outer s H args us vs Q E (hr.mono h)⟩
theorem bi.imp {P:Program} {w:World} {K:PySem.W.Frag} {mg:Str->Option Value} {base:Heap} {CX:yC} {k:Nat} {f:Addr} {fd:FuncData} {ps:List Str} {sp sp':Sp} (F:bi P w K mg base CX k f fd ps sp)
    (h:∀ vs H Q E,sp' vs H Q E->sp vs H Q E):bi P w K mg base CX k f fd ps sp' :=
  ⟨fun vs H Q E q=>F.len vs H Q E (h _ _ _ _ q),fun A outer s H args us vs Q E hr he hb hv hs=>F.run A outer s H args us vs Q E hr he hb hv (h _ _ _ _ hs)⟩
theorem uC.make {P:Program} {w:World} {K:PySem.W.Frag} {mg:Str->Option Value} {base:Heap} {A:Around} {outer:List Env} {s:Shared} {H:Hp} (e:uC P w K mg base A outer s H) (C:Addr) (us:List Value) (kw:List (Str×Value)) :
    uC P w K mg base (A.under (.builtin "type.__call__" ⟨.ref C::us,kw⟩)) outer s H:=⟨by first | exact e.frames | (simpa [Around.under,Code.envs,Code.isFrame,pushEnvs] using e.frames),e.mod,e.bs,e.bsz,e.funs,e.frf,e.hok,e.bare⟩
section
variable {X:Cx} {pins:List (Addr×Obj)} {σ:St} {H:Hp} {s s':Shared}
theorem aU.env0 (I:aU X pins σ H s):uC X.prog X.w X.K X.mg X.base X.A X.stack s H :=
  ⟨I.ok.frames,I.ok.mod,I.bs,Nat.le_trans I.ok.bsz I.sz,I.stack,I.stkFree,I.hok,I.bare⟩
theorem aU.after {Q:VK} {u:Value} (I:aU X pins σ H s) (h:CE X.stack X.prog X.w H s Q u s'):EP X pins σ Q u s':=by
  obtain ⟨v,H',os,bare,un,hok,r,q⟩:=h;obtain ⟨hh,g,d,t,os'⟩:=s';obtain rfl:os'=s.os:=os;exact ⟨v,H',I.call (h':=hh) (g':=g) (d':=d) (t':=t) (ch:=[]) un hok bare (fun b z=>absurd z (by simp)),r,q⟩
end
noncomputable def GX (sp:Sp) (dvs:List V) (E:XK) (t:TA):TE:=fun σ H Q=>t σ H fun vs H1=>sp (vs++dvs) H1 Q E
noncomputable def G2 (C:Addr) (sp:Sp) (dvs:List V) (E:XK) (t:TA):TE:=fun σ H Q=>t σ H fun vs H1=>∀ x dx,H1 x=none->H1 dx=none->dx≠x ->
  sp (.ref x::(vs++dvs)) (cI (cI H1 dx (.own x)) x (.ins C dx [])) (fun v H2=>v=.non/\Q (.ref x) H2) E
noncomputable def bM (K:PySem.W.Frag) (fd:FuncData) (ps:List Str) (ds:List Value):Prop :=
  ∀ (s:Shared) (us:List Value),K.In s.heap->(us++ds).length=ps.length->BindsTo s fd ⟨us,[]⟩ (ps.zip (us++ds))
theorem bM.all {K:PySem.W.Frag} {fd:FuncData} {ps:List Str} (h:∀ us:List Value,us.length=ps.length->bindArgs fd ⟨us,[]⟩=pure (ps.zip us)):bM K fd ps []:=fun s us _ hl=>by
  rw [List.append_nil] at hl ⊢;exact .of_eq (h us hl)
noncomputable def nU (CX:yC) (X:Cx) (E:XK):Prop:=∀ (pins:List (Addr×Obj)) (σ:St) (H:Hp) (s:Shared) (e:Value) (s':Shared),aU X pins σ H s->CX X.stack H s E e s'->X.xe e s'
section
variable {X:Cx} {CX:yC} {k:Nat} {f C:Addr} {fd:FuncData} {ps:List Str} {sp:Sp} {dvs:List V} {ds:List Value} {E:XK} {x m:Str} {p pos apos:Pos} {e o:Expr} {es:List Expr} {ta:TE} {t:TA}
theorem EO {pins:List (Addr×Obj)} {σ:St} {H:Hp} {s:Shared} {Q:VK} {us:List Value} {vs:List V} (F:bi X.prog X.w X.K X.mg X.base CX k f fd ps sp) (hr:eQ k X.A) (hb:bM X.K fd ps ds) (hd:bH dvs ds) (hx:nU CX X E)
    (I:aU X pins σ H s) (r:bH vs us) (h:sp (vs++dvs) H Q E):wpAny (model X.prog X.w) X.A (call (.ref f) us) (EP X pins σ Q) X.xe s:=by
  have r2:bH (vs++dvs) (us++ds):=r.append hd;have hl:(us++ds).length=ps.length:=by rw [<- r2.length];exact F.len _ _ _ _ h
  refine wpAny_call (codeAny_mono (F.run X.A X.stack s H ⟨us,[]⟩ (us++ds) (vs++dvs) Q E hr I.env0 (hb s us I.kIn hl) r2 h) fun r s' hq=>?_);cases r with
  | error e=>exact hx pins σ H s e s' I hq
  | ok fl =>
    cases fl with
    | ret u=>exact I.after hq
    | next=>exact False.elim hq
    | brk=>exact False.elim hq
    | cont=>exact False.elim hq
theorem Cb (F:bi X.prog X.w X.K X.mg X.base CX k f fd ps sp) (hr:eQ k X.A) (hg:Gl X x) (hm:X.mg x=some (.ref f)) (hk:PySem.W.keepIn X.K (.ref f)=true) (hb:bM X.K fd ps ds) (hd:bH dvs ds) (hx:nU CX X E)
    (ha:PA X (e::es) t) (hdb:(x==("__debug__" : Str))=false:=by decide) (he:starEach (e::es) X.env=(false,eval e X.env)::starEach es X.env:=by rfl) (hpl:(backTo pos (starEach es X.env)).any (·.1)=false:=by rfl) :
    PE X (.Call (.Name x p) (e::es) [] pos) (GX sp dvs E t):=by
  intro pins s σ H Q I h;refine wpAny_Call_Name_kw (nG I hg hm ?_ hdb);refine PySem.W.callWith_K (h₀:=X.base) I.ok.mod.kin hk (dq (ha pos pins s σ H _ I h) fun us s1 ⟨vs,H1,I1,r,q⟩=>⟨I1.kIn,?_⟩) he hpl;exact EO F hr hb hd hx I1 r q
structure Mk (K:PySem.W.Frag) (C f:Addr):Prop where
  makes:PySem.W.makesIn K C=true
  init:PySem.W.findIn K (.ref C) "__init__" = some (some (.ref f))
  fn:PySem.W.isFn K (.ref f)=true
  kp:PySem.W.keepIn K (.ref C)=true
theorem AE {pins:List (Addr×Obj)} {σ:St} {H:Hp} {s:Shared} {Q:VK} {us:List Value} {vs:List V} (M:Mk X.K C f) (F:bi X.prog X.w X.K X.mg X.base CX k f fd ps sp) (hr:eQ (k+1) X.A) (hb:bM X.K fd ps ds) (hd:bH dvs ds)
    (hx:nU CX X E) (I:aU X pins σ H s) (r:bH vs us)
    (h:∀ x dx,H x=none->H dx=none->dx≠x->sp (.ref x::(vs++dvs)) (cI (cI H dx (.own x)) x (.ins C dx [])) (fun v H2=>v=.non/\Q (.ref x) H2) E) :
    wpAny (model X.prog X.w) X.A (call (.ref C) us) (EP X pins σ Q) X.xe s:=by
  have hq:=h (s.heap.objs.size+1) s.heap.objs.size (I.hok.fresh (Nat.le_succ _)) (I.hok.fresh (Nat.le_refl _)) (Nat.ne_of_lt (Nat.lt_succ_self _));have I2:=aU.made (C:=C) I;have r2:bH (V.ref (s.heap.objs.size+1)::(vs++dvs)) (Value.ref (s.heap.objs.size+1)::(us++ds)):=.cons rfl (r.append hd);have hl:(Value.ref (s.heap.objs.size+1)::us++ds).length=ps.length:=by
    have e:=r2.length;rw [F.len _ _ _ _ hq] at e;exact e.symm
  refine wpAny_call (zX (f:=f) I.kIn M.makes M.init (beq_iff_eq.mp M.fn) (codeAny_mono (F.run _ X.stack _ _ ⟨Value.ref (s.heap.objs.size+1)::us,[]⟩ (Value.ref (s.heap.objs.size+1)::(us++ds)) _ _ E (hr.make C us [])
    (I2.env0.make C us []) (hb _ (Value.ref (s.heap.objs.size+1)::us) I2.kIn hl) r2 hq) fun r s' hq'=>?_))
  cases r with
  | error e=>exact hx pins σ _ _ e s' I2 hq'
  | ok fl =>
    cases fl with
    | ret u =>
      obtain ⟨v,H',I3,rv,ev,q3⟩:=I2.after hq';subst ev;exact ⟨rv,⟨V.ref (s.heap.objs.size+1),H',I3,rfl,q3⟩⟩
    | next=>exact False.elim hq'
    | brk=>exact False.elim hq'
    | cont=>exact False.elim hq'
theorem Cg (M:Mk X.K C f) (F:bi X.prog X.w X.K X.mg X.base CX k f fd ps sp) (hr:eQ (k+1) X.A) (hg:Gl X x) (hm:X.mg x=some (.ref C)) (hb:bM X.K fd ps ds) (hd:bH dvs ds) (hx:nU CX X E)
    (ha:PA X (e::es) t) (hdb:(x==("__debug__" : Str))=false:=by decide) (he:starEach (e::es) X.env=(false,eval e X.env)::starEach es X.env:=by rfl) (hpl:(backTo pos (starEach es X.env)).any (·.1)=false:=by rfl) :
    PE X (.Call (.Name x p) (e::es) [] pos) (G2 C sp dvs E t):=by
  intro pins s σ H Q I h;refine wpAny_Call_Name_kw (nG I hg hm ?_ hdb);refine PySem.W.callWith_K (h₀:=X.base) I.ok.mod.kin M.kp (dq (ha pos pins s σ H _ I h) fun us s1 ⟨vs,H1,I1,r,q⟩=>⟨I1.kIn,?_⟩) he hpl;exact AE M F hr hb hd hx I1 r q
end
structure aX (N P:List Str) (sc:Scope):Prop where
  kind:sc.kind=.function
  co:sc.isCoroutine=false
  gen:sc.isGenerator=false
  nd:N.Nodup
  pre:N.take P.length=P
  par:∀ x∈P,sc.names.lookup x=some .local\/sc.names.lookup x=some .cell
  nofree:∀ y∈sc.names,y.2≠.free
theorem qg {kindOf:Str->Option NameKind} {x:Str}:∀ {binds:List (Str×Value)} {m:Str->Option Value},(∀ v,(x,v)∉binds)->bindL kindOf binds m x=m x
  | [],_,_=>rfl
  | (n,v)::r,m,h=>by
    unfold bindL;rw [qg fun w hw=>h w (List.mem_cons_of_mem _ hw)];split
    · have:x≠n:=by rintro rfl;exact h v List.mem_cons_self
      simp [this]
    · rfl
theorem qe {kindOf:Str->Option NameKind} {x:Str}:∀ {binds:List (Str×Value)} {m:Str->Option Value},(∀ v,(x,v)∉binds)->bindC kindOf binds m x=m x
  | [],_,_=>rfl
  | (n,v)::r,m,h=>by
    unfold bindC;rw [qe fun w hw=>h w (List.mem_cons_of_mem _ hw)];split
    · rfl
    · have:x≠n:=by rintro rfl;exact h v List.mem_cons_self
      simp [this]
theorem qf {kindOf:Str->Option NameKind} {x:Str} {v:Value}:∀ {P:List Str} {vs:List Value} {i:Nat} {m:Str->Option Value},P.Nodup->P[i]?=some x->vs[i]?=some v->kindOf x=some .local ->
    bindL kindOf (P.zip vs) m x=some v
  | [],_,_,_,_,h,_,_=>by simp at h
  | _::_,[],_,_,_,_,h,_=>by simp at h
  | p::P,w::vs,0,m,nd,h1,h2,hk=>by
    simp at h1 h2;subst h1;subst h2;show bindL kindOf ((p,w)::P.zip vs) m p=_;unfold bindL;rw [qg fun v hv=>(List.nodup_cons.mp nd).1 (List.of_mem_zip hv).1,if_pos hk];simp
  | p::P,w::vs,i+1,m,nd,h1,h2,hk=>by
    show bindL kindOf ((p,w)::P.zip vs) m x=_;unfold bindL;exact qf (i:=i) (List.nodup_cons.mp nd).2 (by simpa using h1) (by simpa using h2) hk
theorem qd {kindOf:Str->Option NameKind} {x:Str} {v:Value}:∀ {P:List Str} {vs:List Value} {i:Nat} {m:Str->Option Value},P.Nodup->P[i]?=some x->vs[i]?=some v->kindOf x≠some .local ->
    bindC kindOf (P.zip vs) m x=some v
  | [],_,_,_,_,h,_,_=>by simp at h
  | _::_,[],_,_,_,_,h,_=>by simp at h
  | p::P,w::vs,0,m,nd,h1,h2,hk=>by
    simp at h1 h2;subst h1;subst h2;show bindC kindOf ((p,w)::P.zip vs) m p=_;unfold bindC;rw [qe fun v hv=>(List.nodup_cons.mp nd).1 (List.of_mem_zip hv).1,if_neg hk];simp
  | p::P,w::vs,i+1,m,nd,h1,h2,hk=>by
    show bindC kindOf ((p,w)::P.zip vs) m x=_;unfold bindC;exact qd (i:=i) (List.nodup_cons.mp nd).2 (by simpa using h1) (by simpa using h2) hk
noncomputable def iX (N:List Str) (vs:List V):St:=vs.map some++List.replicate (N.length-vs.length) none
noncomputable def fP (CX:yC) (P:Program) (w:World) (K:PySem.W.Frag) (mg:Str->Option Value) (base:Heap) (N:List Str) (qual:Str) (scope:Scope) (f:Addr) (cd:Value) (A:Around) (outer:List Env) (s:Shared) (H:Hp) (E:XK):Cx where
  prog:=P
  w:=w
  K:=K
  mg:=mg
  base:=base
  A:=A.deeper (envOfC qual scope s.heap.objs.size f cd)
  N:=N
  s₀:=s
  H₀:=H
  env:=envOfC qual scope s.heap.objs.size f cd
  outer:=outer
  stack:=envOfC qual scope s.heap.objs.size f cd::outer
  ex:=[]
  calm:=true
  fn:=fun _=>true
  pn:=[]
  xe:=fun e s'=>wpAny (model P w) (A.deeper (envOfC qual scope s.heap.objs.size f cd)) (leaving (envOfC qual scope s.heap.objs.size f cd) e) (fun _ s''=>CX outer H s E e s'') (fun e' s''=>CX outer H s E e' s'') s'
theorem tx {sc:Scope} {n:Nat} {x:Str} (h:sc.names.lookup x=some .cell):∃ c,(cellsFrom n sc.names []).lookup x=some c:=by
  have q:=PySem.W.cellsFrom_some sc.names n [] (.inl h);exact Option.isSome_iff_exists.mp q
theorem xK {CX:yC} {P:Program} {w:World} {K:PySem.W.Frag} {mg:Str->Option Value} {base:Heap} {N ps:List Str} {qual:Str} {scope:Scope} {f:Addr} {cd:Value} {A:Around} {outer:List Env} {s s1:Shared} {H:Hp} {E:XK} {us:List Value} {vs:List V}
    (S:aX N ps scope) (hd:A.handled=none) (e0:uC P w K mg base A outer s H) (hl:vs.length=ps.length) (r:bH vs us)
    (x:InCallC s s.heap.objs.size (bindL (envOfC qual scope s.heap.objs.size f cd).kindOf (ps.zip us) fun _=>none) (cellsFrom (s.heap.objs.size+1) scope.names []) (bindC (envOfC qual scope s.heap.objs.size f cd).kindOf (ps.zip us) fun _=>none) s1) :
    aU (fP CX P w K mg base N qual scope f cd A outer s H E) [] (iX N vs) H s1:=by
  have hpl:ps.length<=N.length:=by have:=congrArg List.length S.pre;rw [List.length_take] at this;omega
  obtain ⟨h1,tk,rfl,hk⟩:=x.done;have noA:∀ b:Addr,b∉(fP CX P w K mg base N qual scope f cd A outer s H E).ex:=fun b z=>absurd (show b∈([]:List Addr) from z) (by simp)
  refine ⟨⟨e0.mod,S.kind,rfl,rfl,Nat.le_refl _,fun y z c h1 h2=>?_,fun y hy=>?_,fun y c _ h=>?_,fun _=>hd,Around.frames_deeper e0.frames,.inr ⟨rfl,rfl⟩,fun b z=>absurd z (noA b),e0.bs,e0.bsz,fun b _ _=>noA b,fun b z=>absurd z (noA b),e0.funs,e0.frf⟩,
    rfl,e0.bare,Un.kept hk,⟨_,x.toInCall.ns,fun i y v h1 h2 h3=>?_⟩,fun y c h=>⟨_,x.cell y c h⟩,e0.hok.fresh (Nat.le_refl _),fun y c h=>?_,fun p hp=>absurd (show p∈([]:List (Addr×Obj)) from hp) (by simp),e0.hok.kept hk,?_⟩
  · exact name_of_addr x.apart (PySem.mem_of_lookup h1) (PySem.mem_of_lookup h2)
  · have hy:scope.names.lookup y=some .cell\/scope.names.lookup y=some .free:=hy;rcases hy with hy | hy
    · exact tx hy
    · exact absurd rfl (S.nofree _ (PySem.mem_of_lookup hy))
  · exact Nat.le_of_lt (x.above y c (PySem.mem_of_lookup h))
  · have hi:i < vs.length:=by
      unfold iX at h2;by_cases hi:i < vs.length
      · exact hi
      · rw [List.getElem?_append_right (by simpa using hi)] at h2;rw [List.getElem?_replicate] at h2;split at h2 <;> cases h2
    have ha:vs[i]?=some v:=by
      unfold iX at h2;rw [List.getElem?_append_left (by simpa using hi),List.getElem?_map] at h2;cases e:vs[i]? with
      | none=>rw [e] at h2;cases h2
      | some a=>rw [e] at h2;cases h2;rfl
    obtain ⟨u,hu,rv⟩:=r.get ha;have hp:ps[i]?=some y:=by
      rw [<- S.pre,List.getElem?_take_of_lt (by omega)];exact h1
    have ndP:ps.Nodup:=by rw [<- S.pre];exact S.nd.sublist (List.take_sublist _ _)
    refine ⟨u,rv,?_⟩;rcases S.par y (List.mem_of_getElem? hp) with k | k
    · exact .inl ⟨k,qf ndP hp hu k⟩
    · obtain ⟨c,e⟩:=tx (n:=s.heap.objs.size+1) k;refine .inr ⟨.inl k,c,e,?_⟩;have q:=x.cell y c e;rw [qd ndP hp hu (by show scope.names.lookup y≠_;rw [k];decide)] at q;exact q
  · exact e0.hok.fresh (Nat.le_of_lt (x.above y c (PySem.mem_of_lookup h)))
  · unfold iX;show _=N.length;rw [List.length_append,List.length_map,List.length_replicate];omega
theorem zB {CX:yC} {P:Program} {w:World} {K:PySem.W.Frag} {mg:Str->Option Value} {base:Heap} {k:Nat} {f:Addr} {name qual:Str} {params:Arguments} {body:List Stmt} {scope:Scope} {dV kV doc pm cdv ct oc:Value} {an od:Option Addr}
    {osl:Array (Option Value)} {N ps:List Str} {sp:Sp} (lk:K.lookup f=some ⟨oc,od,.func (PySem.W.fnOf name qual params body scope dV kV doc pm an cdv ct),osl⟩) (hcd:PySem.W.codeIn K cdv qual=true) (S:aX N ps scope)
    (len:∀ vs H Q E,sp vs H Q E->vs.length=ps.length)
    (hbody:∀ (A:Around) (outer:List Env) (s:Shared) (H:Hp) (vs:List V) (Q:VK) (E:XK),eQ k (A.deeper (envOfC qual scope s.heap.objs.size f cdv))->sp vs H Q E ->
      ∃ t,rd (fP CX P w K mg base N qual scope f cdv A outer s H E) body t/\t { nx:=fun _ H'=>Q .non H',rt:=Q } (iX N vs) H) :
    bi P w K mg base CX (k+1) f (PySem.W.fnOf name qual params body scope dV kV doc pm an cdv ct) ps sp:=by
  refine ⟨len,fun A outer s H args us vs Q E hr e0 hb r hsp=>?_⟩;have hl:=len _ _ _ _ hsp;have KX:K.In s.heap:=e0.mod.kin.keeps fun b o e=>(e0.bs b o e).1
  have lim:s.heap.NoLimit:=e0.mod.nolimit.keeps fun b o e=>(e0.bs b o e).1
  have hkind:∀ y∈ps.zip us,scope.names.lookup y.1=some .local\/(scope.names.lookup y.1=some .cell/\((cellsFrom (s.heap.objs.size+1) scope.names []).lookup y.1).isSome=true):=fun ⟨n,v⟩ hy=>by
    rcases S.par n (List.of_mem_zip hy).1 with q | q
    · exact .inl q
    · exact .inr ⟨q,PySem.W.cellsFrom_some _ _ _ (.inl q)⟩
  refine codeAny_call_function hr.depth (KX _ _ lk) rfl S.co S.gen rfl (PySem.W.codeRec_of KX hcd) (hb _ _ _ _ ?_);refine wpAny_newFunctionEnv_cells S.kind hkind fun env he s1 x=>?_
  subst he;refine ⟨lim.keeps x.toInCall.keep,codeAny_func ?_⟩;obtain ⟨t,ht,hq⟩:=hbody A outer s H vs Q E (hr.deeper _) hsp;have I:aU (fP CX P w K mg base N qual scope f cdv A outer s H E) [] (iX N vs) H s1:=xK S hr.hd e0 hl r x;refine wpAny_mono (ht [] s1 (iX N vs) H _ I hq) (fun fl s' hs=>?_) fun e s' hs=>hs
  have fin:∀ {σ':St} {H':Hp} {v:V} {u:Value},aU (fP CX P w K mg base N qual scope f cdv A outer s H E) [] σ' H' s'->ca v u->Q v H'->CE outer P w H s Q u s' :=
    fun {σ' H' v u} J rv q=>⟨v,H',J.os,J.bare,J.base,J.hok,rv,q⟩
  cases fl with
  | ret u =>
    obtain ⟨v,σ',H',J,rv,q⟩:=hs;exact fin J rv q
  | next =>
    obtain ⟨σ',H',J,q⟩:=hs;exact fin (v:=V.non) (u:=Value.none) J rfl q
  | brk =>
    obtain ⟨_,_,_,q⟩:=hs;exact False.elim q
  | cont =>
    obtain ⟨_,_,_,q⟩:=hs;exact False.elim q
section
variable {X:Cx} {x:Str} {p pos:Pos} {e:Expr} {es:List Expr} {t:TA} {id T:String} {r:List V->Hp->VK->Prop}
noncomputable def HJ (r:List V->Hp->VK->Prop) (t:TA):TE:=fun σ H Q=>t σ H fun vs H1=>r vs H1 Q
theorem o6 (hc:dN X (.builtin id) r) (hg:Gl X x) (hm:X.mg x=none) (hv:bootBuiltins x=some (.builtin id)) (ha:PA X (e::es) t) (hn:x ≠ "__name__" := by decide) (hdb:(x==("__debug__" : Str))=false:=by decide)
    (he:starEach (e::es) X.env=(false,eval e X.env)::starEach es X.env:=by rfl) (hpl:(backTo pos (starEach es X.env)).any (·.1)=false:=by rfl):PE X (.Call (.Name x p) (e::es) [] pos) (HJ r t):=by
  intro pins s σ H Q I h;refine wpAny_Call_Name_kw (gX I hg hm hv ?_ hn hdb);exact PyProof.Rows.callWith_builtin1 (dq (ha pos pins s σ H _ I h) fun us s1 ⟨vs,H1,I1,r1,q1⟩=>hc pins s1 σ H1 vs us Q I1 r1 q1) he hpl
theorem x8 (hc:dN X (.type T) r) (hg:Gl X x) (hm:X.mg x=none) (hv:bootBuiltins x=some (.type T)) (ha:PA X (e::es) t) (hn:x ≠ "__name__" := by decide) (hdb:(x==("__debug__" : Str))=false:=by decide)
    (he:starEach (e::es) X.env=(false,eval e X.env)::starEach es X.env:=by rfl) (hpl:(backTo pos (starEach es X.env)).any (·.1)=false:=by rfl):PE X (.Call (.Name x p) (e::es) [] pos) (HJ r t):=by
  intro pins s σ H Q I h;refine wpAny_Call_Name_kw (gX I hg hm hv ?_ hn hdb);exact PyProof.Rows.callWith_type1 (dq (ha pos pins s σ H _ I h) fun us s1 ⟨vs,H1,I1,r1,q1⟩=>hc pins s1 σ H1 vs us Q I1 r1 q1) he hpl
end
end L2
namespace HT
open PySem PyProof.Rows
section
open PySem.SeqAt
open PySem.AutoSeq1 (wpAny_loadPart')
open PySem.MeetsSeq PySem.MeetsSeq2 PySem.MeetsSeq3
end
section
variable {prog:Program} {w:World} {A:Around} {E:Value->Shared->Prop} {s:Shared}
theorem cat_tup {t b:Addr} {vs ws:List Value} {Q:Value->Shared->Prop} (ht:IsTup s.heap t vs.toArray) (hb:IsTup s.heap b ws.toArray) (hv:vs≠[])
    (h1:ws=[]->Q (.ref t) s) (h2:ws≠[]->Q (.ref s.heap.objs.size) { s with heap:=s.heap.push { cls:=.type "tuple",data:=.seq (vs++ws).toArray } })
    (hsz:vs.length+ws.length<=sizeLine):wpAny (model prog w) A (binaryOp .Add (.ref t) (.ref b)) Q E s:=by
  obtain ⟨⟨cls,dd,data,sl⟩,ho,hc,n,hd⟩:=id ht;obtain ⟨⟨cls2,dd2,data2,sl2⟩,ho2,hc2,n2,hd2⟩:=id hb;simp only at hc hd hc2 hd2;subst hc hd hc2 hd2;have e:vs.toArray++ws.toArray=(vs++ws).toArray:=by simp
  by_cases hw:ws=[]
  · exact concat_meets ⟨_,ho,rfl⟩ ⟨_,ho2,rfl⟩ noFill_tuple_add seq_tuple_add PySem.F.slot_tuple_add PySem.F.entry_tuple_add (PySem.F.args_tuple_add_2 _ _)
      (tuple_addW1 t b vs.toArray ws.toArray n n2 dd dd2 sl sl2 (by simpa using hv) (by simp [hw])) ⟨ho,ho2,h1 hw⟩
  · refine concat_meets ⟨_,ho,rfl⟩ ⟨_,ho2,rfl⟩ noFill_tuple_add seq_tuple_add PySem.F.slot_tuple_add PySem.F.entry_tuple_add (PySem.F.args_tuple_add_2 _ _)
      (tuple_addW2 t b vs.toArray ws.toArray n n2 dd dd2 sl sl2 (by simpa using hv) (by simpa using hw) (by rw [List.size_toArray,List.size_toArray];exact hsz)) ⟨ho,ho2,?_⟩
    rw [e];exact h2 hw
noncomputable def sIx (n d:Nat):Option Int->Nat
  | none=>d
  | some v=>if v < 0 then (v+(n:Int)).toNat else min v.toNat n
end
end HT
namespace L2
open PySem PySem.Spec PyProof.Rows
theorem eG {ns:List Int}:∀ {us:List Value},bH (ns.map V.int) us->IntsAre us ns:=by
  induction ns with
  | nil=>intro us r;rw [List.map_nil] at r;cases r;exact .nil
  | cons n ns ih =>
    intro us r;rw [List.map_cons] at r;cases r with
    | cons r1 r2 =>
      obtain ⟨t,e⟩:=r1;subst e;exact .cons n t (ih r2)
section
variable {X:Cx} {e:Expr} {te:TE} {lo hi:Option Expr} {tl th:TO} {pos p2:Pos}
noncomputable def Jn (X:Cx) (r:V->Option Int->Option Int->Hp->VK->Prop):Prop :=
  ∀ (pins:List (Addr×Obj)) (s:Shared) (σ:St) (H:Hp) (x:V) (v vl vu:Value) (lo hi:Option Int) (sl:Addr) (Q:VK),aU X pins σ H s->ca x v->s.heap.IsSliceOf sl vl vu .none->IsPart vl lo->IsPart vu hi->r x lo hi H Q ->
    ∃ T id,typeLookup (.type T) "__getitem__" = pure (some (.builtin id))/\s.TypeIs v T/\wpAny (model X.prog X.w) X.A (getItem v (.ref sl)) (EP X pins σ Q) X.xe s
noncomputable def Br (xs:List V) (lo hi:Option Int):List V:=(xs.drop (HT.sIx xs.length 0 lo)).take (HT.sIx xs.length xs.length hi-HT.sIx xs.length 0 lo)
theorem tF (xs:List V) (lo hi:Option Int):(Br xs lo hi).length<=xs.length:=by
  unfold Br;rw [List.length_take,List.length_drop];omega
noncomputable def Do (K:PySem.W.Frag):R2:=fun x y H Q=>∃ a b xs ys,x=.ref a/\y=.ref b/\i4 K H a xs/\i4 K H b ys/\xs≠[]/\xs.length+ys.length<=sizeLine /\
  (ys=[]->Q (.ref a) H)/\(ys≠[]->∀ p,H p=none->Q (.ref p) (cI H p (.tup (xs++ys))))
theorem bH.nil_iff {xs:List V} {us:List Value} (r:bH xs us):us=[]<->xs=[]:=by
  cases r with
  | nil=>simp
  | cons _ _=>simp
theorem B4:i7 X (binaryOp .Add) (Do X.K):=by
  intro pins s σ H x y v u Q I rx ry h;obtain ⟨a,b,xs,ys,rfl,rfl,ha,hb,hx,hz,q1,q2⟩:=h;cases rx;cases ry;obtain ⟨its,r1,p1,_⟩:=I.tuple ha;obtain ⟨its2,r2,p2,_⟩:=I.tuple hb;refine HT.cat_tup p1 p2 (fun z=>hx (r1.nil_iff.mp z)) (fun z=>⟨.ref a,H,I,rfl,q1 (r2.nil_iff.mp z)⟩) (fun z=>?_) (by rw [<- r1.length,<- r2.length];exact hz);refine ⟨.ref s.heap.objs.size,_,I.laid (t':=s.toks) (o:=.tup (xs++ys)) (fun b ob q=>Heap.get?_push_of_some _ q) (Nat.le_refl _) ?_,rfl,q2 (fun w=>z (r2.nil_iff.mpr w)) _ (I.hok.fresh (Nat.le_refl _))⟩;exact ⟨by rw [List.length_append];exact hz,_,r1.append r2,gT.new _ _⟩
end
noncomputable def wl (n:Nat) (i:Int):Option Nat:=if 0<=i then (if i < n then some i.toNat else none) else if -(n:Int)<=i then some (i+n).toNat else none
noncomputable def atI {α:Type} (xs:List α) (i:Int):Option α:=(wl xs.length i).bind fun j=>xs[j]?
theorem wm {n:Nat} {i:Int} {j:Nat} (h:wl n i=some j):seqIndex? i n=some j/\j < n/\-(n:Int)<=i/\i < n:=by
  unfold wl at h;by_cases h0:0<=i
  · rw [if_pos h0] at h;by_cases h1:i < n
    · rw [if_pos h1] at h;have e:i.toNat=j:=Option.some.inj h;exact ⟨by rw [seqIndex_of h0 h1,e],by omega,by omega,h1⟩
    · rw [if_neg h1] at h;cases h
  · rw [if_neg h0] at h;by_cases h1:-(n:Int)<=i
    · rw [if_pos h1] at h;have e:(i+n).toNat=j:=Option.some.inj h;exact ⟨by rw [seqIndex_neg (by omega) h1,e],by omega,h1,by omega⟩
    · rw [if_neg h1] at h;cases h
theorem rB {α:Type} {xs:List α} {i:Int} {v:α} (h:atI xs i=some v):∃ j,seqIndex? i xs.length=some j/\xs[j]?=some v/\j < xs.length/\-(xs.length:Int)<=i/\i < xs.length:=by
  unfold atI at h;cases e:wl xs.length i with
  | none=>rw [e] at h;cases h
  | some j =>
    rw [e] at h;obtain ⟨h1,h2,h3,h4⟩:=wm e;exact ⟨j,h1,h,h2,h3,h4⟩
theorem rC {α:Type} {xs:List α} {j:Nat} {v:α} (h:xs[j]?=some v):atI xs (j:Int)=some v:=by
  have hj:j < xs.length:=(List.getElem?_eq_some_iff.mp h).1;have e:wl xs.length (j:Int)=some j:=by
    unfold wl;rw [if_pos (by omega),if_pos (by omega)];simp
  unfold atI;rw [e];exact h
noncomputable def vR (b:Expr):Prop:=∀ o i,subscripted b false o i=operate [o,i] (getItem o i)
noncomputable def Be (X:Cx) (r:R2):Prop :=
  ∀ (value slice:Expr) (pins:List (Addr×Obj)) (s:Shared) (σ:St) (H:Hp) (x y:V) (v u:Value) (Q:VK),aU X pins σ H s->ca x v->ca y u->r x y H Q ->
    subscripted slice false v u=operate [v,u] (getItem v u)->wpAny (model X.prog X.w) X.A (subscriptTail value slice v u) (EP X pins σ Q) X.xe s
noncomputable def Hl (X:Cx) (id:String) (r:V->List V->Hp->VK->Prop):Prop :=
  ∀ (pins:List (Addr×Obj)) (s:Shared) (σ:St) (H:Hp) (x:V) (xs:List V) (v:Value) (us:List Value) (Q:VK),aU X pins σ H s->ca x v->bH xs us->r x xs H Q ->
    wpAny (model X.prog X.w) X.A (call (.builtin id) (v::us)) (EP X pins σ Q) X.xe s
section
variable {X:Cx} {a b:Expr} {ta tb:TE} {pos:Pos}
theorem Be.or {r r':R2} (h:Be X r) (h':Be X r'):Be X (fun x y H Q=>r x y H Q\/r' x y H Q):=by
  intro value slice pins s σ H x y v u Q I rx ry q hs;rcases q with q | q
  · exact h value slice pins s σ H x y v u Q I rx ry q hs
  · exact h' value slice pins s σ H x y v u Q I rx ry q hs
theorem Gn {r:R2} (hr:Be X r) (ha:PE X a ta) (hb:PE X b tb) (hs:vR b):PE X (.Subscript a b pos) (G5 r ta tb):=by
  intro pins s σ H Q I h;exact Subscript_ (DR ha hb I h fun v u s2 x y H2 I2 rx ry q=>hr a b pins s2 σ H2 x y v u Q I2 rx ry q (hs _ _))
noncomputable def Gx (K:PySem.W.Frag):R2:=fun x y H Q=>∃ p xs i v,x=.ref p/\y=.int i/\mB K H p xs/\atI xs i=some v/\Q v H
noncomputable def Gz (K:PySem.W.Frag):R2:=fun x y H Q=>∃ p xs i v,x=.ref p/\y=.int i/\i4 K H p xs/\atI xs i=some v/\Q v H
noncomputable def Gy:R2:=fun x y H Q=>∃ z i c,x=.str z/\y=.int i/\z.length<=sizeLine/\atI z.cps.toList i=some c/\Q (.str ⟨#[c]⟩) H
theorem BR:Be X (Gx X.K):=by
  intro value slice pins s σ H x y v u Q I rx ry h hs;obtain ⟨p,xs,i,z,rfl,rfl,hq,he,q⟩:=h;cases rx;obtain ⟨t,rfl⟩:=ry;obtain ⟨its,r,pl,hz⟩:=I.list hq;obtain ⟨j,h1,h2,h3,h4,h5⟩:=rB he;obtain ⟨w,ew,rw'⟩:=r.get h2;have hl:=r.length;have hn:=l9;have fin:EP X pins σ Q w s:=⟨z,H,I,rw',q⟩
  by_cases h0:0<=i
  · have hj:i.toNat=j:=by
      rw [seqIndex_of h0 h5] at h1;exact Option.some.inj h1
    exact item_listR pl.isList h0 (by omega) (by rw [hj];simpa using ew) fin hs
  · have hj:(i+(its.toArray.size:Int)).toNat=j:=by
      rw [seqIndex_neg (by omega) h4] at h1;rw [List.size_toArray,<- hl];exact Option.some.inj h1
    exact subscriptTail_builtinR (x:=w) pl.isList.typeIs slot_list_getitem.lookup
      (wpAny_getItem_list_neg (Q:=fun r s'=>r=w/\EP X pins σ Q r s') pl.isList (by omega) (by rw [List.size_toArray] <;> omega) (by omega) (by rw [hj];simpa using ew) ⟨rfl,fin⟩) hs
theorem Ed:Be X (Gz X.K):=by
  intro value slice pins s σ H x y v u Q I rx ry h hs;obtain ⟨p,xs,i,z,rfl,rfl,hq,he,q⟩:=h;cases rx;obtain ⟨t,rfl⟩:=ry;obtain ⟨its,r,pl,hz⟩:=I.tuple hq;obtain ⟨j,h1,h2,h3,h4,h5⟩:=rB he;obtain ⟨w,ew,rw'⟩:=r.get h2;have hl:=r.length;have hn:=l9;have fin:EP X pins σ Q w s:=⟨z,H,I,rw',q⟩
  exact subscriptTail_builtinR (x:=w) pl.typeIs slot_tuple_getitem.lookup
    (getItem_tuple (j:=j) (Q:=fun r s'=>r=w/\EP X pins σ Q r s') pl (by omega) (by omega) (by rw [List.size_toArray,<- hl];exact h1) (by simpa using ew) ⟨rfl,fin⟩) hs
theorem Ec:Be X Gy:=by
  intro value slice pins s σ H x y v u Q I rx ry h hs;obtain ⟨z,i,c,rfl,rfl,hz,he,q⟩:=h;obtain ⟨t,rfl⟩:=rx;obtain ⟨t',rfl⟩:=ry;obtain ⟨j,h1,h2,h3,h4,h5⟩:=rB he;have hl:z.cps.toList.length=z.length:=by simp [Str.length]
  rw [hl] at h1 h4 h5;have hn:=l9;exact tail_any (typeIs_str s z t) slot_str_getitem.lookup (getItem_str (c:=c) (by
    have e1:decide (i < -(2 ^ 63:Int))=false:=decide_eq_false (by omega);have e2:decide (i>=2 ^ 63)=false:=decide_eq_false (by omega);rw [e1,e2,Bool.or_false]) (by rw [h1];simpa using h2) ⟨.str ⟨#[c]⟩,H,I.tok _,⟨_,rfl⟩,q⟩) hs
theorem vg (its:List Value) (n j:Nat) (u:Value):Obj.mapSeq (·.setIfInBounds j u) { cls:=.type "list",data:=.seq its.toArray n }={ cls:=.type "list",data:=.seq (its.set j u).toArray n }:=by
  simp [Obj.mapSeq]
theorem aU.lst {pins:List (Addr×Obj)} {σ:St} {H:Hp} {s:Shared} {p:Addr} {xs:List V} (I:aU X pins σ H s) (h:H p=some (.lst xs)) :
    ∃ (its:List Value) (n:Nat),bH xs its/\s.heap.get? p=some { cls:=.type "list",data:=.seq its.toArray n }/\xs.length<=sizeLine:=by
  obtain ⟨z,its,n,r,e⟩:=I.hok p _ h;exact ⟨its,n,r,e,z⟩
theorem aU.lstUpd {pins:List (Addr×Obj)} {σ:St} {H:Hp} {s:Shared} {p:Addr} {xs ys:List V} {its its':List Value} {n n':Nat} {f:Obj->Obj} (I:aU X pins σ H s) (h:H p=some (.lst xs))
    (ho:s.heap.get? p=some { cls:=.type "list",data:=.seq its.toArray n }) (hf:f { cls:=.type "list",data:=.seq its.toArray n }={ cls:=.type "list",data:=.seq its'.toArray n' }) (r:bH ys its') (hz:ys.length<=sizeLine) (t:Nat) :
    aU X pins σ (cI H p (.lst ys)) { s with heap:=s.heap.update p f,toks:=t }:=by
  have e:(s.heap.update p f).get? p=some { cls:=.type "list",data:=.seq its'.toArray n' }:=by
    rw [Heap.get?_update_self f ho (by rw [hf] <;> rfl),hf]
  refine I.write (x:=p) (e:=p) (by rw [h];trivial) (.inl rfl) (fun b u hb q=>(Heap.get?_update_other _ _ (Ne.symm hb)).trans q) ⟨_,e⟩ ?_;exact ⟨hz,its',n',r,e⟩
noncomputable def GA:V->V->V->Hp->(Hp->Prop)->Prop:=fun o i v H Q=>∃ p xs k j,o=.ref p/\i=.int k/\H p=some (.lst xs)/\wl xs.length k=some j/\Q (cI H p (.lst (xs.set j v)))
theorem AI:Fv X GA:=by
  intro pins s σ H o i v ov iv u Q I ro ri rv h;obtain ⟨p,xs,k,j,rfl,rfl,hp,hj,q⟩:=h;cases ro;obtain ⟨t,rfl⟩:=ri;obtain ⟨its,n,r,ho,hz⟩:=I.lst hp;obtain ⟨h1,h2,h3,h4⟩:=wm hj;have hl:=r.length;have hn:=l9;have I':aU X pins σ (cI H p (.lst (xs.set j v))) { s with heap:=s.heap.update p (Obj.mapSeq (·.setIfInBounds j u)) } :=
    I.lstUpd hp ho (vg its n j u) (r.set rv j) (by rw [List.length_set];exact hz) s.toks
  by_cases h0:0<=k
  · have hk:k.toNat=j:=by
      rw [seqIndex_of h0 h4] at h1;exact Option.some.inj h1
    exact PySem.W.ki_setAt ho h0 (by omega) (by rw [List.size_toArray,<- hl];exact h4) (by rw [hk];exact ⟨_,I',q⟩)
  · have hk:(k+(its.toArray.size:Int)).toNat=j:=by
      rw [seqIndex_neg (by omega) h3] at h1;rw [List.size_toArray,<- hl];exact Option.some.inj h1
    exact PySem.W.ki_setBack ho (by omega) (by rw [List.size_toArray,<- hl];exact h3) (by omega) (by rw [hk];exact ⟨_,I',q⟩)
theorem sv (lo hi:Option Int) (n:Nat):(sliceBounds lo hi none n).1=((HT.sIx n 0 lo:Nat):Int)/\(sliceBounds lo hi none n).2.1=((HT.sIx n n hi:Nat):Int)/\(sliceBounds lo hi none n).2.2=1:=by
  refine ⟨?_,?_,rfl⟩
  · cases lo with
    | none=>simp [sliceBounds,HT.sIx]
    | some i =>
      simp only [sliceBounds,HT.sIx,Option.getD_none,show (1:Int) > 0 by decide,if_true];by_cases h:i < 0
      · simp only [h,if_true] <;> omega
      · simp only [h,if_false] <;> omega
  · cases hi with
    | none=>simp [sliceBounds,HT.sIx]
    | some i =>
      simp only [sliceBounds,HT.sIx,Option.getD_none,show (1:Int) > 0 by decide,if_true];by_cases h:i < 0
      · simp only [h,if_true] <;> omega
      · simp only [h,if_false] <;> omega
theorem pZ (its:List Value) (lo hi:Option Int):slicePick its.toArray lo hi none=((its.drop (HT.sIx its.length 0 lo)).take (HT.sIx its.length its.length hi-HT.sIx its.length 0 lo)).toArray:=by
  obtain ⟨h1,h2,h3⟩:=sv lo hi its.toArray.size;unfold slicePick;rw [h1,h2,h3];simp only [sliceRange_one,pick_run,List.size_toArray] <;> rfl
noncomputable def IB (K:PySem.W.Frag):V->Option Int->Option Int->Hp->VK->Prop:=fun x lo hi H Q=>∃ a xs,x=.ref a/\mB K H a xs/\∀ p,H p=none->Q (.ref p) (cI H p (.lst (Br xs lo hi)))
theorem HH:Jn X (IB X.K):=by
  intro pins s σ H x v vl vu lo hi sl Q I rx hs pl pu h;obtain ⟨a,xs,rfl,hx,q⟩:=h;cases rx;obtain ⟨its,r,ht,hz⟩:=I.list hx;have hlen:=r.length;refine ⟨"list",_,slot_list_getitem.lookup,ht.isList.typeIs,?_⟩;refine wpAny_getItem_list_slice ht.isList hs pl pu .none (by simp) ?_ (by rw [List.size_toArray] <;> omega);rw [pZ,<- hlen];refine ⟨.ref s.heap.objs.size,_,I.laid (t':=s.toks) (o:=.lst (Br xs lo hi)) (fun b ob q=>Heap.get?_push_of_some _ q) (Nat.le_refl _) ?_,rfl,q _ (I.hok.fresh (Nat.le_refl _))⟩;exact ⟨Nat.le_trans (tF xs lo hi) hz,_,0,(r.drop (HT.sIx xs.length 0 lo)).take (HT.sIx xs.length xs.length hi-HT.sIx xs.length 0 lo),Heap.get?_push_size _ rfl⟩
theorem rG:dN X (.builtin "len") (fun xs H Q=>∃ p ys,xs=[.ref p]/\(mB X.K H p ys\/i4 X.K H p ys)/\Q (.int ys.length) H):=by
  intro pins s σ H xs us Q I r h;obtain ⟨p,ys,rfl,hq,q⟩:=h;obtain ⟨u,rfl,rx⟩:=fq r;cases rx;have hn:=l9;rcases hq with hq | hq
  · obtain ⟨its,r',pl,hz⟩:=I.list hq;have hlen:=r'.length;exact Calls.call_len_list pl.isList (by simp only [List.size_toArray] <;> omega) ⟨.int ys.length,H,I.tok _,⟨s.toks+1,by rw [List.size_toArray,hlen]⟩,q⟩
  · obtain ⟨its,r',pl,hz⟩:=I.tuple hq;have hlen:=r'.length;exact len_tuple pl (by simp only [List.size_toArray] <;> omega) ⟨.int ys.length,H,I.tok _,⟨s.toks+1,by rw [List.size_toArray,hlen]⟩,q⟩
theorem rH:dN X (.builtin "len") (fun xs H Q=>∃ z,xs=[.str z]/\z.length<=sizeLine/\Q (.int z.length) H):=by
  intro pins s σ H xs us Q I r h;obtain ⟨z,rfl,hz,q⟩:=h;obtain ⟨u,rfl,t,rfl⟩:=fq r;have hn:=l9;exact len_str (by omega) ⟨.int z.length,H,I.tok _,⟨_,rfl⟩,q⟩
theorem dN.or {f:Value} {r r':List V->Hp->VK->Prop} (h:dN X f r) (h':dN X f r'):dN X f (fun xs H Q=>r xs H Q\/r' xs H Q):=by
  intro pins s σ H xs us Q I rs q;rcases q with q | q
  · exact h pins s σ H xs us Q I rs q
  · exact h' pins s σ H xs us Q I rs q
theorem rJ:dN X (.type "list") (fun xs H Q=>∃ p ys,xs=[.ref p]/\(mB X.K H p ys\/i4 X.K H p ys)/\∀ l,H l=none->Q (.ref l) (cI H l (.lst ys))):=by
  intro pins s σ H xs us Q I r h;obtain ⟨p,ys,rfl,hq,q⟩:=h;obtain ⟨u,rfl,rx⟩:=fq r;cases rx;have fin:∀ (its:List Value),bH ys its->ys.length<=sizeLine->∀ (h':Heap) (c':Nat),(∀ b o',s.heap.get? b=some o'->h'.get? b=some o') ->
      h'.get? s.heap.objs.size=some { cls:=.type "list",dict:=none,data:=.seq its.toArray c',slots:=#[] }->EP X pins σ Q (.ref s.heap.objs.size) { s with heap:=h' }:=fun its r' hz h' c' kp e =>
    ⟨.ref s.heap.objs.size,_,I.laid (t':=s.toks) kp (Nat.le_refl _) (show cb X.prog X.w _ h' _ (.lst ys) from ⟨hz,its,c',r',e⟩),rfl,q _ (I.hok.fresh (Nat.le_refl _))⟩
  rcases hq with hq | hq
  · obtain ⟨its,r',pl,hz⟩:=I.list hq;have hlen:=r'.length;obtain ⟨o,ho,hc,n,hd⟩:=pl.isList;exact call_list_seq p (.inl rfl) ho hc hd (fun h' c' kp e=>fin its r' hz h' c' kp e) (by simp only [List.size_toArray] <;> omega)
  · obtain ⟨its,r',pl,hz⟩:=I.tuple hq;have hlen:=r'.length;obtain ⟨o,ho,hc,n,hd⟩:=pl;exact call_list_seq p (.inr rfl) ho hc hd (fun h' c' kp e=>fin its r' hz h' c' kp e) (by simp only [List.size_toArray] <;> omega)
theorem pR:dN X (.type "tuple") (fun xs H Q=>∃ p ys,xs=[.ref p]/\((mB X.K H p ys/\∀ l,H l=none->Q (.ref l) (cI H l (.tup ys)))\/(i4 X.K H p ys/\Q (.ref p) H))):=by
  intro pins s σ H xs us Q I r h;obtain ⟨p,ys,rfl,h⟩:=h;obtain ⟨u,rfl,rx⟩:=fq r;cases rx;rcases h with ⟨hq,q⟩ | ⟨hq,q⟩
  · obtain ⟨its,r',pl,hz⟩:=I.list hq;have hlen:=r'.length;refine call_tuple_list pl.isList (fun h' kp=>?_) (by simp only [List.size_toArray] <;> omega);have I1:aU X pins σ H { s with heap:=h' }:=I.kept (t':=s.toks) kp;have I2:aU X pins σ (cI H h'.objs.size (.tup ys)) { s with heap:=h'.push { cls:=.type "tuple",data:=.seq its.toArray } } :=
      I1.laid (t':=s.toks) (fun b o e=>Heap.get?_push_of_some _ e) (Nat.le_refl _) (show cb X.prog X.w _ _ _ (.tup ys) from ⟨hz,its,r',gT.new _ _⟩)
    exact ⟨.ref h'.objs.size,_,I2,rfl,q _ (I1.hok.fresh (Nat.le_refl _))⟩
  · obtain ⟨its,r',pl,hz⟩:=I.tuple hq;exact call_tuple_same pl ⟨.ref p,H,I,rfl,q⟩
noncomputable def Ji (K:PySem.W.Frag) (T:String) (x:V) (H:Hp):Prop:=match x with
  | .str _=>T = "str"
  | .int _=>T = "int"
  | .ref p=>(T = "list" /\ ∃ xs,mB K H p xs)\/(T = "tuple" /\ ((∃ o,K.lookup p=some o/\o.cls=.type "tuple" /\ o.dict=none)\/∃ xs,H p=some (.tup xs))) \/
      (T = "dict" /\ ((∃ kvs,H p=some (.dK kvs))\/∃ kvs,H p=some (.dT kvs)))\/(T = "set" /\ ∃ S n,H p=some (.set S n))
  | _=>False
theorem Fb {pins:List (Addr×Obj)} {σ:St} {H:Hp} {s:Shared} {T:String} {x:V} {v:Value} (I:aU X pins σ H s) (r:ca x v) (ty:Ji X.K T x H) :
    s.TypeIs v T/\∀ a,v=.ref a->∃ ob,s.heap.get? a=some ob/\ob.dict=none:=by
  cases x with
  | str z =>
    obtain ⟨t,rfl⟩:=r;cases (show T = "str" from ty);exact ⟨typeIs_str s z t,fun _ e=>nomatch e⟩
  | int i =>
    obtain ⟨t,rfl⟩:=r;cases (show T = "int" from ty);exact ⟨typeIs_int s i t,fun _ e=>nomatch e⟩
  | ref p =>
    cases r;rcases ty with ⟨rfl,xs,hq⟩ | ⟨rfl,⟨o,hk,hc,hd⟩ | ⟨xs,hk⟩⟩ | ⟨rfl,hk⟩ | ⟨rfl,S,n,hk⟩
    · obtain ⟨its,_,pl,_⟩:=I.list hq;refine ⟨pl.isList.typeIs,fun a e=>?_⟩;cases e;obtain ⟨o,n,e,c,hd,_⟩:=pl;exact ⟨o,e,hd⟩
    · refine ⟨⟨o,I.kIn p o hk,hc⟩,fun a e=>?_⟩;cases e;exact ⟨o,I.kIn _ o hk,hd⟩
    · obtain ⟨_,_,_,o,e1,e2,_,e3⟩:=(show cb X.prog X.w H s.heap p (.tup xs) from I.hok p _ hk)
      refine ⟨⟨o,e1,e2⟩,fun a e=>?_⟩;cases e;exact ⟨o,e1,e3⟩
    · have z:∃ o,s.heap.get? p=some o/\o.ExactDict:=by
        rcases hk with ⟨kvs,hk⟩ | ⟨kvs,hk⟩
        · obtain ⟨_,_,_,_,o,_,_,e,ex,_⟩:=I.hok p _ hk;exact ⟨o,e,ex⟩
        · obtain ⟨_,_,_,_,o,_,_,e,ex,_⟩:=I.hok p _ hk;exact ⟨o,e,ex⟩
      obtain ⟨o,e,ex⟩:=z;refine ⟨⟨o,e,ex.1⟩,fun a e2=>?_⟩;cases e2;exact ⟨o,e,ex.2.1⟩
    · obtain ⟨o,_,_,_,e,ex,_⟩:=I.hok p _ hk;refine ⟨⟨o,e,ex.1⟩,fun a e2=>?_⟩;cases e2;exact ⟨o,e,ex.2.1⟩
  | _=>exact False.elim ty
noncomputable def Jx (K:PySem.W.Frag) (T:String) (r:V->List V->Hp->VK->Prop) (to:TE) (t:TA):TE:=fun σ H Q=>to σ H fun x H1=>Ji K T x H1/\t σ H1 fun xs H2=>r x xs H2 Q
variable {o e:Expr} {es:List Expr} {to:TE} {t:TA} {name:Str} {apos cpos:Pos} {T id:String} {r:V->List V->Hp->VK->Prop}
theorem wD (pa:PlainAttrs T) (slot:Slot T name id) (hty:typeOf (.builtin id)=pure (.type "method_descriptor")) (hm:Hl X id r) (ho:PE X o to) (ha:PA X (e::es) t)
    (hbase:attributeBase o name X.env (eval o X.env)=eval o X.env:=by rfl)
    (hfew:((backTo cpos (starEach (e::es) X.env)).all (fun x=>!x.1)&&(backToKw cpos (keywordEach [] X.env)).all (fun x=>x.1.isSome)
      && decide ((e::es).length+([]:List Keyword).length+(if ([]:List Keyword).isEmpty then 0 else 1) < 30))=true:=by rfl)
    (hline:(apos.endLine==cpos.line)=true:=by rfl) (hs:starEach (e::es) X.env=(false,eval e X.env)::starEach es X.env:=by rfl) (hplain:(backTo cpos (starEach es X.env)).any (·.1)=false:=by rfl) :
    PE X (.Call (.Attribute o name apos) (e::es) [] cpos) (Jx X.K T r to t):=by
  intro pins s σ H Q I h;refine wpAny_Call_method_late hbase hfew hline rfl (dq (ho pins s σ H _ I h) fun v s1 zq0=>?_);obtain ⟨x,H1,I1,r1,ty,q1⟩:=zq0;obtain ⟨h1,h2⟩:=Fb I1 r1 ty;refine ⟨T,id,pa,slot,hty,h1,h2,?_⟩;have hA:=ha cpos pins s1 σ H1 _ I1 q1;rw [hs] at hA ⊢;refine Calls.callWith_builtin (by show (false||(backTo cpos (starEach es X.env)).any (·.1))=false;rw [hplain] <;> rfl) (Calls.evalArgs_plain ?_);exact dq hA fun us s2 ⟨vs,H2,I2,r2,q2⟩=>hm pins s2 σ H2 x vs v us Q I2 r1 r2 q2
end
noncomputable def Jl (X:Cx) (id:String) (r:V->List V->Hp->VK->Prop):Prop :=
  ∀ (pins:List (Addr×Obj)) (s:Shared) (σ:St) (H:Hp) (x:V) (xs:List V) (v:Value) (us:List Value) (Q:VK),aU X pins σ H s->ca x v->bH xs us->r x xs H Q ->
    wpAny (model X.prog X.w) X.A (call (.builtin id) (v::us)) (EP X pins σ Q) X.xe s
theorem bH.one:∀ {x:V} {us:List Value},bH [x] us->∃ u,us=[u]/\ca x u
  | _,_,.cons r .nil=>⟨_,rfl,r⟩
theorem bH.reverse {xs:List V} {us:List Value} (h:bH xs us):bH xs.reverse us.reverse:=by
  induction h with
  | nil=>exact .nil
  | cons r t ih=>rw [List.reverse_cons,List.reverse_cons];exact bH.append ih (.cons r .nil)
theorem bH.rep {xs:List V} {us:List Value} (h:bH xs us):∀ k:Nat,bH (List.replicate k xs).flatten (List.replicate k us).flatten
  | 0=>.nil
  | k+1=>by
    rw [List.replicate_succ,List.replicate_succ,List.flatten_cons,List.flatten_cons];exact bH.append h (bH.rep h k)
theorem qp (its:List Value):∀ (k:Nat) (acc:List Value),
    List.foldl (fun x1 x2=>x1++x2) acc.toArray (List.replicate k its.toArray)=(acc++(List.replicate k its).flatten).toArray
  | 0,acc=>by simp
  | k+1,acc=>by
    have e:acc.toArray++its.toArray=(acc++its).toArray:=by simp
    have e2:(acc++its)++(List.replicate k its).flatten=acc++(List.replicate (k+1) its).flatten:=by
      rw [List.replicate_succ,List.flatten_cons,List.append_assoc]
    rw [<- e2,<- qp its k (acc++its),<- e,List.replicate_succ,List.foldl_cons]
section
variable {X:Cx} {pins:List (Addr×Obj)} {σ:St} {H:Hp} {s:Shared} {l b:Addr} {xs ys zs:List V}
theorem aU.lset {its its':List Value} {n:Nat} {f:Array Value->Array Value} {t':Nat} (I:aU X pins σ H s) (hH:H l=some (.lst xs))
    (e:s.heap.get? l=some { cls:=.type "list",data:=.seq its.toArray n }) (hf:f its.toArray=its'.toArray) (hv:bH ys its') (hz:ys.length<=sizeLine) :
    aU X pins σ (cI H l (.lst ys)) { s with heap:=s.heap.update l (Obj.mapSeq f),toks:=t' }:=by
  have q:=PySem.IsL.update e f;rw [hf] at q;refine I.write (x:=l) (e:=l) (by rw [hH];exact trivial) (.inl rfl) (fun b' u hb hu=>(Heap.get?_update_other s.heap (Obj.mapSeq f) (Ne.symm hb)).trans hu) ⟨_,q⟩ ?_;exact ⟨hz,its',_,hv,q⟩
theorem aU.lnew {its:List Value} {t':Nat} (I:aU X pins σ H s) (hv:bH ys its) (hz:ys.length<=sizeLine) :
    aU X pins σ (cI H s.heap.objs.size (.lst ys)) { s with heap:=s.heap.push { cls:=.type "list",data:=.seq its.toArray },toks:=t' } :=
  I.laid (fun _ _ q=>Heap.get?_push_of_some _ q) (Nat.le_refl _) ⟨hz,its,0,hv,Heap.get?_push_size _ rfl⟩
theorem aU.fresh (I:aU X pins σ H s):H s.heap.objs.size=none:=I.hok.fresh (Nat.le_refl _)
theorem aU.lstM (I:aU X pins σ H s) (hH:H l=some (.lst xs)):xs.length<=sizeLine/\∃ (its:List Value) (n:Nat),bH xs its/\xs.length=its.length/\s.heap.get? l=some { cls:=.type "list",data:=.seq its.toArray n }:=by
  obtain ⟨z,its,n,r,e⟩:=I.hok l _ hH;exact ⟨z,its,n,r,r.length,e⟩
end
section
variable {X:Cx}
noncomputable def Cq:V->List V->Hp->VK->Prop:=fun x vs H Q=>∃ l xs y,x=.ref l/\vs=[y]/\H l=some (.lst xs)/\xs.length < sizeLine/\Q .non (cI H l (.lst (xs++[y])))
theorem qA:Jl X "list.append" Cq:=by
  intro pins s σ H x vs v us Q I rx rv h;obtain ⟨l,xs,y,rfl,rfl,hH,hz,q⟩:=h;cases rx;obtain ⟨u,rfl,ru⟩:=rv.one;obtain ⟨z,its,n,r,hl,e⟩:=I.lstM hH;refine call_meets F.slot_list_append ⟨_,e,rfl⟩ F.entry_list_append (F.args_list_append_2 _ _) (PySem.list_append l its.toArray n u (by rw [List.size_toArray];omega)) ⟨e,?_⟩;refine ⟨.non,_,I.lset (its':=its++[u]) hH e (by simp) (r.append (.cons ru .nil)) ?_,rfl,q⟩;rw [List.length_append,List.length_singleton];omega
theorem wq {α:Type} (xs:List α) (k:Nat):(List.replicate k xs).flatten.length=k*xs.length:=by
  induction k with
  | zero=>simp
  | succ k ih=>rw [List.replicate_succ,List.flatten_cons,List.length_append,ih,Nat.succ_mul,Nat.add_comm]
end
end L2
namespace Att
open PySem PySem.W PySem.Calls PyProof.Rows
theorem ny {P:Params} {h:Heap}:∀ (ns:List Int) (vs:List Value),WellAll P h vs (ns.map WData.int)->IntsAre vs ns:=by
  intro ns;induction ns with
  | nil =>
    intro vs w;rw [List.map_nil] at w;cases w;exact .nil
  | cons n ns ih =>
    intro vs w;rw [List.map_cons] at w;cases w with
    | cons a b =>
      cases a;exact .cons _ _ (ih _ b)
theorem yh {l:OpenLaw} {n:Nat} (hn:l.most=some n) {P:Params} {h:Heap} {args:List WData} {vals:List Value}
    (hpre:l.row.toRowW.claim.pre args=true) (hwl:WellAll P h vals args) :
    ∃ a vs ns,vals=[Value.ref a]/\args=[WData.list (ns.map WData.int)]/\h.get? a=some { cls:=.type "list",data:=.seq vs.toArray }/\IntsAre vs ns/\ns.length<=n:=by
  have hsh:WShape.hasAll [] args [.list .int]=true:=(pre_splitW hpre).1;have hc:l.pre.holds [] { args:=args }=true:=(pre_splitW hpre).2;obtain ⟨d,r,rfl,h1,h2⟩:=hasAllW_cons hsh;obtain rfl:=hasAllW_nil h2;obtain ⟨xs,rfl,h3⟩:=hasW_list h1;obtain ⟨ns,rfl⟩:=items_int h3;have hlen:ns.length<=n:=by
    unfold OpenLaw.pre at hc;have h4:(WTm.not (.lt (.lit (.int (n:Int))) (.len (.arg 0)))).holds [] { args:=[.list (ns.map .int)] }=true:=by
      have h4:=(holds_andW hc).1;rw [hn] at h4;exact h4
    have h5:=condW_of h4 (w_not (w_lt w_lit (w_len_list (w_arg rfl))));rw [List.length_map] at h5;refine Nat.le_of_not_lt fun q=>?_
    have q':(n:Int) < ((ns.length:Nat):Int):=by omega
    first
      | (rw [decide_eq_true q'] at h5;exact absurd h5 (by decide))
      | (simp at h5;omega)
  cases hwl with
  | cons w1 w2 =>
    cases w2;cases w1 with
    | list ho hall=>exact ⟨_,_,ns,rfl,rfl,ho,ny ns _ hall,hlen⟩
theorem yc (l:OpenLaw) (args:List WData):l.row.toRowW.claim.post args (.bool true) args=true :=
  postW_of (r:=l.row.toRowW) (X:=(true==true))
    (show WShape.has [] (.bool true) .bool=true by first | rfl | decide | simp [WShape.has,WShape.arms,WShape.armsAll])
    (show (WTm.eq .res (.lit (.bool true))).value [] { args:=args,res:=some (.bool true),after:=args }=some (.bool (true==true)) from w_eq_bool (w_res rfl) w_lit) rfl
theorem attach_call {l:OpenLaw} {n:Nat} {q:Program} {loose:List Str} {XP:(Str->Option Value)->Heap->Prop} {YP:World->Heap->Prop} {d:DefRec}
    (hn:l.most=some n) (hdf:d.params.defaults=[])
    (call:∀ (w:World) (s₀ s₁:Shared) (mg mb:Str->Option Value) (fa:Addr) (o:Obj) (pm cd doc:Value) (a:Addr) (vs:List Value) (ns:List Int),
      Ground q loose [] XP w s₀ mg mb s₁.heap->YP w s₁.heap ->
      s₁.heap.get? fa=some o->o.data=.func (docDef d.name d.params d.body d.scope pm cd doc)->s₁.heap.CodeRec cd d.name->mg d.name=some (.ref fa) ->
      s₁.heap.get? a=some { cls:=.type "list",data:=.seq vs.toArray }->IntsAre vs ns->ns.length<=n->s₁.gens=#[] ->
      codeAny (model l.prog w) callerA (.call (.ref fa) ⟨[.ref a],[]⟩) (fun r s'=>r=.ok (.ret (.bool true))/\OldK s₁.heap s'.heap/\s'.os=s₁.os/\AllBare s'.gens) s₁) :
    WalkO q loose XP YP l.row.toRowW d [] (fun f vs=>PySem.call f vs):=by
  intro w s₀ s₁ mg mb G Y fa o pm cd doc dV kV ho hd hcd hD hmg hg args vals as hpre hlay hrd hwl hlo;obtain rfl:dV=.none:=Dflts.none hD hdf;obtain rfl:kV=.none:=Dflts.noKw hD;obtain ⟨a,vs,ns,rfl,rfl,hobj,hints,hlen⟩:=yh hn hpre hwl;refine enter_call (codeAny_mono (call w s₀ s₁ mg mb fa o pm cd doc a vs ns G Y ho (fd_plain hd) hcd hmg hobj hints hlen hg) fun r s' hq=>?_);obtain ⟨rfl,h2,h3,h4⟩:=hq;exact ⟨.inl ⟨.bool true,.bool true,[],rfl,fun _=>rfl,.bool true,yc l _,fun _=>⟨List.Pairwise.nil,fun _ hm=>(nomatch hm)⟩⟩,h2,h3,h4⟩
end Att
namespace L2
open PySem PySem.Spec PyProof.Rows
theorem io:∀ {vs:List Value} {ns:List Int},IntsAre vs ns->bH (ns.map V.int) vs
  | _,_,.nil=>.nil
  | _,_,.cons n t h=>.cons ⟨t,rfl⟩ (io h)
noncomputable def Fu (H:Hp):Prop:=∀ b,H b=none\/∃ o xs,H b=some (.frz o (.lst xs))
theorem zQ {P:Program} {w:World} {K:PySem.W.Frag} {mg mb:Str->Option Value} {CX:yC} {k:Nat} {fa a:Addr} {fd:FuncData} {x:Str} {sp:Sp} {s₁:Shared} {vs:List Value} {ns:List Int}
    (KX:K.In s₁.heap) (hns:s₁.heap.Ns mainGlobals mg) (hb:s₁.heap.Ns builtinsNs mb) (hbb:∀ x:Str,x ≠ "__name__" -> mb x=bootBuiltins x) (hlim:s₁.heap.NoLimit) (hg:s₁.gens=#[])
    (ha:s₁.heap.get? a=some { cls:=.type "list",data:=.seq vs.toArray }) (hi:IntsAre vs ns) (hl:ns.length<=sizeLine) (hr:eQ k callerA)
    (F:∀ base:Heap,K.In base->base.Ns mainGlobals mg->bi P w K mg base CX k fa fd [x] sp) (hbind:∀ (s:Shared) (u:Value),BindsTo s fd ⟨[u],[]⟩ [(x,u)])
    (hsp:∀ H:Hp,Fu H->mB K H a (ns.map V.int)->sp [.ref a] H (fun v _=>v=.bl true) fun _ _ _=>False)
    (hCX:∀ H e s',CX [] H s₁ (fun _ _ _=>False) e s'->False) :
    codeAny (model P w) callerA (.call (.ref fa) ⟨[.ref a],[]⟩) (fun r s'=>r=.ok (.ret (.bool true))/\OldK s₁.heap s'.heap/\s'.os=s₁.os/\AllBare s'.gens) s₁:=by
  have rv:=io hi;have lenV:=hi.length
  -- from an abstract heap in which nothing but the script may be tracked
  have core:∀ H:Hp,Fu H->mB K H a (ns.map V.int)->hR P w H s₁.heap->(∀ b,H b≠none->b=a)->(H a≠none->K.lookup a=none) ->
      codeAny (model P w) callerA (.call (.ref fa) ⟨[.ref a],[]⟩) (fun r s'=>r=.ok (.ret (.bool true))/\OldK s₁.heap s'.heap/\s'.os=s₁.os/\AllBare s'.gens) s₁:=by
    intro H hO hS hok hA hK;have base_of:∀ {b:Addr} {o:Obj},s₁.heap.get? b=some o->H b=none->(rS s₁.heap H).get? b=some o:=fun e n=>zE e n
    have noA:∀ {b:Addr} {o:Obj} {es:Array DictEntry} {ep:Nat},s₁.heap.get? b=some o->o.data=.dict es ep->H b=none:=fun {b o es ep} e d=>by
      cases q:H b with
      | none=>rfl
      | some u =>
        have e':b=a:=hA b (by rw [q];simp);subst e';rw [ha] at e;cases e;have d':Data.seq vs.toArray _=Data.dict es ep:=d;cases d'
    have nsK:∀ {b:Addr} {m:Str->Option Value},s₁.heap.Ns b m->(rS s₁.heap H).Ns b m:=fun {b m} ⟨o,es,ep,e,d,r⟩=>⟨o,es,ep,base_of e (noA e d),d,r⟩
    have hKb:K.In (rS s₁.heap H):=fun b o e=>base_of (KX b o e) (by
      cases q:H b with
      | none=>rfl
      | some u =>
        have e':b=a:=hA b (by rw [q];simp);subst e';rw [hK (by rw [q];simp)] at e;cases e)
    have hM:Mod K mg (rS s₁.heap H):=⟨hKb,nsK hns,⟨mb,nsK hb,hbb⟩,let ⟨mc,h1,h2⟩:=hlim;⟨mc,nsK h1,h2⟩⟩
    have e0:uC P w K mg (rS s₁.heap H) callerA [] s₁ H:=⟨rfl,hM,fun b o e=>B0 e,Nat.le_of_eq (xG _ _),trivial,fun b hb=>absurd (show b∈([]:List Addr) from hb) (by simp),hok,.of_eq hg⟩
    refine codeAny_mono ((F _ hKb (nsK hns)).run callerA [] s₁ H ⟨[.ref a],[]⟩ [.ref a] [.ref a] _ _ hr e0 (hbind s₁ (.ref a)) (.cons rfl .nil) (hsp H hO hS)) fun r s' h=>?_
    cases r with
    | error e=>exact (hCX H e s' h).elim
    | ok fl =>
      cases fl with
      | next=>exact False.elim h
      | brk=>exact False.elim h
      | cont=>exact False.elim h
      | ret u =>
        obtain ⟨v,H',os,bare,un,hok',r',q⟩:=h;have q':v=.bl true:=q;subst q';obtain rfl:u=Value.bool true:=r';refine ⟨rfl,OldK.of_keep fun b o e=>?_,os,bare⟩;cases q:H b with
        | none=>exact un.keep b o e q (by intro z;exact absurd (show b∈([]:List Addr) from z) (by simp)) (by simp)
        | some u =>
          rcases hO b with z | ⟨ob,xs,z⟩
          · rw [q] at z;cases z
          · have z2:=un.frzs b ob _ z;obtain ⟨e1,_⟩:=hok b _ z;obtain ⟨e2,_⟩:=hok' b _ z2;rw [e] at e1;cases e1;exact e2
  cases hk:K.lookup a with
  | some o =>
    -- the script is one of the module's own objects
    have e:=KX a o hk;rw [ha] at e;cases e;refine core (fun _=>none) (fun _=>.inl rfl) (.inr ⟨_,vs.toArray,_,hk,rfl,rfl,rfl,by rw [List.size_toArray,lenV];exact hl,by simpa using rv⟩) (fun b u z=>by have z':(none:Option HO)=some u:=z;cases z') (fun b z=>absurd rfl z) fun z=>absurd rfl z
  | none =>
    refine core (fun b=>if b=a then some (.frz { cls:=.type "list",data:=.seq vs.toArray } (.lst (ns.map V.int))) else none) (fun b=>?_) (.inl (.inr ⟨{ cls:=.type "list",data:=.seq vs.toArray },if_pos rfl⟩)) (fun b u z=>?_) (fun b z=>?_) fun _=>hk
    · by_cases hb:b=a
      · exact .inr ⟨_,_,if_pos hb⟩
      · exact .inl (if_neg hb)
    · by_cases hb:b=a
      · have z':=(if_pos hb).symm.trans z;cases z';subst hb;exact ⟨ha,by rw [List.length_map];exact hl,vs,_,rv,ha⟩
      · have z':=(if_neg hb).symm.trans z;cases z'
    · by_cases hb:b=a
      · exact hb
      · exact absurd (if_neg hb) z
noncomputable def BM (s:Stmt) (j:Nat):Stmt:=match s with
  | .ClassDef _ _ _ body _ _ _ _ _ _ _=>body.getD j (.Pass ⟨0,0,0,0⟩)
  | _=>.Pass ⟨0,0,0,0⟩
noncomputable def dW (s:Stmt):Arguments:=match s with
  | .FunctionDef _ a _ _ _ _ _ _ _ _=>a
  | _=>{ posonlyargs:=[],args:=[],vararg:=none,kwonlyargs:=[],kw_defaults:=[],kwarg:=none,defaults:=[] }
noncomputable def cX (s:Stmt):List Stmt:=match s with
  | .FunctionDef _ _ b _ _ _ _ _ _ _=>b
  | _=>[]
noncomputable def aj (s:Stmt):Scope:=match s with
  | .FunctionDef _ _ _ _ _ _ sc _ _ _=>sc
  | _=>{ kind:=.function,names:=[],isGenerator:=false,isCoroutine:=false }
noncomputable abbrev IV:yC:=fun _ _ _ _ _ _=>False
structure gp (K:PySem.W.Frag) (x qual:Str) (st:Stmt) (f:Addr) (fd:FuncData):Prop where
  ex:∃ (oc:Value) (od:Option Addr) (kV doc pm:Value) (an:Option Addr) (cdv ct:Value) (osl:Array (Option Value)),
    fd=PySem.W.fnOf x qual (dW st) (cX st) (aj st) .none kV doc pm an cdv ct/\K.lookup f=some ⟨oc,od,.func fd,osl⟩/\PySem.W.codeIn K cdv qual=true
  kp:PySem.W.keepIn K (.ref f)=true
section
variable {P:Program} {w:World} {K:PySem.W.Frag} {mg:Str->Option Value} {base:Heap}
theorem gp.ok {x qual:Str} {st:Stmt} {f:Addr} {fd:FuncData} {N ps:List Str} {k:Nat} {sp:Sp} (F:gp K x qual st f fd) (S:aX N ps (aj st)) (len:∀ vs H Q E,sp vs H Q E->vs.length=ps.length)
    (hbody:∀ (cdv:Value) (A:Around) (outer:List Env) (s:Shared) (H:Hp) (vs:List V) (Q:VK) (E:XK),eQ k (A.deeper (envOfC qual (aj st) s.heap.objs.size f cdv))->sp vs H Q E ->
      ∃ t,rd (fP IV P w K mg base N qual (aj st) f cdv A outer s H E).nox (cX st) t/\t { nx:=fun _ H'=>Q .non H',rt:=Q } (iX N vs) H):bi P w K mg base IV (k+1) f fd ps sp:=by
  obtain ⟨oc,od,kV,doc,pm,an,cdv,ct,osl,rfl,lk,hcd⟩:=F.ex;refine zB lk hcd S len fun A outer s H vs Q E hr hsp=>?_
  obtain ⟨t,h,q⟩:=hbody cdv A outer s H vs Q E hr hsp;exact ⟨t,h.nox,q⟩
theorem gp.binds {x qual:Str} {st:Stmt} {f:Addr} {fd:FuncData} {ps:List Str} (F:gp K x qual st f fd)
    (h:∀ (kV doc pm:Value) (an:Option Addr) (cdv ct:Value) (us:List Value),us.length=ps.length->bindArgs (PySem.W.fnOf x qual (dW st) (cX st) (aj st) .none kV doc pm an cdv ct) ⟨us,[]⟩=pure (ps.zip us)):bM K fd ps []:=by
  obtain ⟨oc,od,kV,doc,pm,an,cdv,ct,osl,rfl,lk,hcd⟩:=F.ex;exact .all (h kV doc pm an cdv ct)
theorem u6 {x qual:Str} {st:Stmt} {f:Addr} {oc:Value} {od an:Option Addr} {osl:Array (Option Value)} {kV doc pm cdv ct:Value} (l:K.lookup f=some ⟨oc,od,.func (PySem.W.fnOf x qual (dW st) (cX st) (aj st) .none kV doc pm an cdv ct),osl⟩)
    (c:PySem.W.codeIn K cdv qual=true) (k:PySem.W.keepIn K (.ref f)=true):gp K x qual st f (PySem.W.fnOf x qual (dW st) (cX st) (aj st) .none kV doc pm an cdv ct):=⟨⟨oc,od,kV,doc,pm,an,cdv,ct,osl,rfl,l,c⟩,k⟩
end
section
variable {X:Cx}
theorem pv (i:Nat) {x:Str} {pos:Pos} (hN:X.N[i]?=some x:=by rfl) (hv:DL X.env.scope x:=by first | exact Or.inl rfl | exact Or.inr (Or.inl rfl) | exact Or.inr (Or.inr rfl)) (hd:(x==("__debug__" : Str))=false:=by decide)
    (hcd:(x==("__classdict__" : Str))=false:=by decide):PE X (.Name x pos) (G7 i):=mh hN hv hd hcd
end
noncomputable def aM (H H':Hp):Prop:=∀ b o,H b=some o->H' b=some o
theorem aM.refl (H:Hp):aM H H:=fun _ _ h=>h
theorem aM.trans {H H1 H2:Hp} (a:aM H H1) (b:aM H1 H2):aM H H2:=fun c o h=>b c o (a c o h)
theorem aM.free {H H':Hp} (e:aM H H') {l:Addr} (h:H' l=Option.none):H l=Option.none:=by
  cases q:H l with
  | none=>rfl
  | some o =>
    rw [e l o q] at h;cases h
section
variable {κ:Type} [DecidableEq κ]
noncomputable def j6 (kvs:List (κ×V)) (k:κ):Option V:=(kvs.find? fun kv=>decide (kv.1=k)).map (·.2)
noncomputable def lw (kvs:List (κ×V)) (k:κ) (v:V):List (κ×V) :=
  if (kvs.any fun kv=>decide (kv.1=k))=true then kvs.map (fun kv=>if kv.1=k then (kv.1,v) else kv) else kvs++[(k,v)]
noncomputable def CZ (kvs:List (κ×V)) (k:κ):List (κ×V):=kvs.filter fun kv=>decide (kv.1≠k)
theorem pH {p:κ×V} {r:List (κ×V)} {k:κ} (e:p.1=k):j6 (p::r) k=some p.2:=by simp [j6,List.find?_cons,e]
theorem pG {p:κ×V} {r:List (κ×V)} {k:κ} (e:¬ p.1=k):j6 (p::r) k=j6 r k:=by simp [j6,List.find?_cons,e]
theorem uo (k:κ):∀ kvs:List (κ×V),(kvs.any fun kv=>decide (kv.1=k))=(j6 kvs k).isSome
  | []=>rfl
  | p::r=>by
    rw [List.any_cons];by_cases e:p.1=k
    · simp only [pH e,decide_eq_true e,Bool.true_or,Option.isSome_some]
    · rw [pG e,decide_eq_false e,Bool.false_or];exact uo k r
theorem mH (kvs:List (κ×V)) (k:κ) (v:V):(lw kvs k v).length<=kvs.length+1:=by
  unfold lw;split
  · rw [List.length_map];omega
  · rw [List.length_append,List.length_cons,List.length_nil];omega
theorem lV.isSome_eq {o:Option V} {u:Option Value} (r:lV o u):o.isSome=u.isSome:=by
  cases o with
  | none=>cases u with
    | none=>rfl
    | some _=>exact (show False from r).elim
  | some _=>cases u with
    | none=>exact (show False from r).elim
    | some _=>rfl
theorem KV.val {kvs:List (κ×V)} {vs:List (κ×Value)} (r:KV kvs vs) (k:κ):lV (j6 kvs k) (valueAt vs k):=by
  unfold KV at r;induction r with
  | nil=>exact True.intro
  | @cons p q ps qs h t ih =>
    obtain ⟨h1,h2⟩:=h;by_cases e:p.1=k
    · have e':q.1=k:=h1.symm.trans e;have b:valueAt (q::qs) k=some q.2:=by simp [valueAt,List.find?_cons,e']
      rw [pH e,b];exact h2
    · have e':¬ q.1=k:=fun z=>e (h1.trans z)
      have b:valueAt (q::qs) k=valueAt qs k:=by simp [valueAt,List.find?_cons,e']
      rw [pG e,b];exact ih
theorem KV.any {kvs:List (κ×V)} {vs:List (κ×Value)} (r:KV kvs vs) (k:κ):(kvs.any fun kv=>decide (kv.1=k))=vs.any fun kv=>decide (kv.1=k):=by
  unfold KV at r;induction r with
  | nil=>rfl
  | cons h t ih=>rw [List.any_cons,List.any_cons,ih,h.1]
theorem KV.repl {kvs:List (κ×V)} {vs:List (κ×Value)} (r:KV kvs vs) (k:κ) {y:V} {u:Value} (ry:ca y u) :
    KV (kvs.map fun kv=>if kv.1=k then (kv.1,y) else kv) (vs.map fun kv=>if kv.1=k then (kv.1,u) else kv):=by
  unfold KV at r ⊢;induction r with
  | nil=>exact .nil
  | @cons p q ps qs h t ih =>
    rw [List.map_cons,List.map_cons];refine .cons ?_ ih;obtain ⟨h1,h2⟩:=h;by_cases e:p.1=k
    · rw [if_pos e,if_pos (h1.symm.trans e)];exact ⟨h1,ry⟩
    · rw [if_neg e,if_neg (fun z=>e (h1.trans z))];exact ⟨h1,h2⟩
theorem KV.put {kvs:List (κ×V)} {vs:List (κ×Value)} (r:KV kvs vs) (k:κ) {y:V} {u:Value} (ry:ca y u):KV (lw kvs k y) (stored vs k u):=by
  unfold lw stored;rw [r.any k];by_cases e:(vs.any fun kv=>decide (kv.1=k))=true
  · rw [if_pos e,if_pos e];exact r.repl k ry
  · rw [if_neg e,if_neg e];exact Paired.snoc r ⟨rfl,ry⟩
theorem KV.drop {kvs:List (κ×V)} {vs:List (κ×Value)} (r:KV kvs vs) (k:κ):KV (CZ kvs k) (without vs k):=by
  unfold KV at r ⊢;unfold CZ without;induction r with
  | nil=>exact .nil
  | @cons p q ps qs h t ih =>
    obtain ⟨h1,h2⟩:=h;rw [List.filter_cons,List.filter_cons];by_cases e:p.1=k
    · have a:¬ decide (p.1≠k)=true:=by simp [e]
      have b:¬ decide (q.1≠k)=true:=by simp [h1.symm.trans e]
      rw [if_neg a,if_neg b];exact ih
    · have e':¬ q.1=k:=fun z=>e (h1.trans z)
      have a:decide (p.1≠k)=true:=by simp [e]
      have b:decide (q.1≠k)=true:=by simp [e']
      rw [if_pos a,if_pos b];exact .cons ⟨h1,h2⟩ ih
theorem KV.keys {kvs:List (κ×V)} {vs:List (κ×Value)} (r:KV kvs vs):kvs.map (·.1)=vs.map (·.1):=by
  unfold KV at r;induction r with
  | nil=>rfl
  | cons h t ih=>rw [List.map_cons,List.map_cons,ih,h.1]
theorem KV.length {kvs:List (κ×V)} {vs:List (κ×Value)} (r:KV kvs vs):kvs.length=vs.length:=Paired.length r
end
theorem tP {P:Program} {w:World} {k:di} {u:Value} (r:ca (kV k) u):(dC P w).is k u=true:=by
  cases k with
  | inl i=>obtain ⟨t,e⟩:=(show ∃ t,u=Value.int i t from r);subst e;exact tT P w i t
  | inr x=>obtain ⟨t,e⟩:=(show ∃ t,u=Value.str x t from r);subst e;exact tU P w x t
theorem qu {P:Program} {w:World}:∀ {ks:List di} {us:List Value},bH (ks.map kV) us->ItemsAre (dC P w) ks us
  | [],_,r=>by rw [List.map_nil] at r;cases r;exact .nil
  | k::ks,_,r=>by
    rw [List.map_cons] at r;cases r with
    | cons h t=>exact .cons (tP h) (qu t)
noncomputable abbrev KT (H:Hp):List (List di×V)->List (List di×Addr×Value)->Prop:=Paired fun p q=>p.1=q.1/\H q.2.1=some (.tup (p.1.map kV))/\ca p.2 q.2.2
theorem KT.val {H:Hp} {kvs:List (List di×V)} {xs:List (List di×Addr×Value)} (r:KT H kvs xs) (k:List di):lV (j6 kvs k) ((atKey xs k).map (·.2)):=by
  induction r with
  | nil=>exact True.intro
  | @cons p q ps qs h t ih =>
    obtain ⟨h1,_,h2⟩:=h;by_cases e:p.1=k
    · have e':q.1=k:=h1.symm.trans e;have b:atKey (q::qs) k=some q.2:=by simp [atKey,List.find?_cons,e']
      rw [pH e,b];exact h2
    · have e':¬ q.1=k:=fun z=>e (h1.trans z)
      have b:atKey (q::qs) k=atKey qs k:=by simp [atKey,List.find?_cons,e']
      rw [pG e,b];exact ih
theorem KT.repl {H:Hp} {kvs:List (List di×V)} {xs:List (List di×Addr×Value)} (r:KT H kvs xs) (k:List di) {y:V} {u:Value} (ry:ca y u) :
    KT H (kvs.map fun kv=>if kv.1=k then (kv.1,y) else kv) (xs.map (putAt k u)):=by
  induction r with
  | nil=>exact .nil
  | @cons p q ps qs h t ih =>
    rw [List.map_cons,List.map_cons];refine .cons ?_ ih;obtain ⟨h1,h2,h3⟩:=h;unfold putAt;by_cases e:p.1=k
    · rw [if_pos e,if_pos (h1.symm.trans e)];exact ⟨h1,h2,ry⟩
    · rw [if_neg e,if_neg (fun z=>e (h1.trans z))];exact ⟨h1,h2,h3⟩
theorem KT.put {H:Hp} {kvs:List (List di×V)} {xs:List (List di×Addr×Value)} (r:KT H kvs xs) (k:List di) {b:Addr} {y:V} {u:Value} (hb:H b=some (.tup (k.map kV))) (ry:ca y u) :
    KT H (lw kvs k y) (storedH xs k b u):=by
  have e:(kvs.any fun kv=>decide (kv.1=k))=(atKey xs k).isSome:=by
    rw [uo,(r.val k).isSome_eq,Option.isSome_map]
  unfold lw storedH;rw [e];by_cases q:(atKey xs k).isSome=true
  · rw [if_pos q,if_pos q];exact r.repl k ry
  · rw [if_neg q,if_neg q];exact Paired.snoc r ⟨rfl,hb,ry⟩
theorem KT.keeps {H H':Hp} {kvs:List (List di×V)} {xs:List (List di×Addr×Value)} (r:KT H kvs xs) (ht:∀ b ys,H b=some (.tup ys)->H' b=some (.tup ys)):KT H' kvs xs :=
  Paired.mapP r fun _ _ z=>⟨z.1,ht _ _ z.2.1,z.2.2⟩
section
variable {P:Program} {w:World} {H:Hp} {h:Heap} {a:Addr}
theorem Dr {u:HO} (ok:hR P w H h) (e:Rd H a u):cb P w H h a u:=e.ok ok
theorem oy {kvs:List (di×V)} (ok:hR P w H h) (e:Rd H a (.dK kvs)):kvs.length<=sizeLine/\(a==sysModules)=false/\∃ vs,KV kvs vs/\h.DictOf (dC P w) a vs :=
  show cb P w H h a (.dK kvs) from Dr ok e
theorem FL {kvs:List (di×V)} (ok:hR P w H h) (e:H a=some (.dK kvs)):kvs.length<=sizeLine/\(a==sysModules)=false/\∃ vs,KV kvs vs/\h.DictOf (dC P w) a vs:=oy ok (.inl e)
theorem oU {ks:List di} (ok:hR P w H h) (e:H a=some (.tup (ks.map kV))):(tupleKind (dC P w)).is h ks a:=by
  obtain ⟨_,its,r,o,h1,h2,⟨n,h3⟩,_⟩:=(show cb P w H h a (.tup (ks.map kV)) from ok a _ e)
  exact ⟨o,its.toArray,n,h1,h2,h3,by simpa using qu r⟩
theorem tI {kvs:List (List di×V)} (ok:hR P w H h) (e:Rd H a (.dT kvs)):kvs.length<=sizeLine/\(a==sysModules)=false /\
    ∃ xs,KT H kvs xs/\h.DictOfH (tupleKind (dC P w)) a xs:=by
  obtain ⟨z,y,xs,r,o,es,ep,h1,h2,h3,h4,h5⟩:=(show cb P w H h a (.dT kvs) from Dr ok e)
  refine ⟨z,y,xs,r,o,es,ep,h1,h2,h3,h4,fun x hx=>?_,h5⟩;have all:∀ {l:List (List di×V)} {m:List (List di×Addr×Value)},KT H l m->∀ x∈m,(tupleKind (dC P w)).is h x.1 x.2.1:=by
    intro l m q;induction q with
    | nil=>intro x hx;exact nomatch hx
    | @cons p q ps qs hq t ih =>
      intro x hx;rcases List.mem_cons.mp hx with e | hx
      · subst e;exact oU ok (by rw [<- hq.1];exact hq.2.1)
      · exact ih x hx
  exact all r x hx
theorem FN {kvs:List (List di×V)} (ok:hR P w H h) (e:H a=some (.dT kvs)):kvs.length<=sizeLine/\(a==sysModules)=false /\
    ∃ xs,KT H kvs xs/\h.DictOfH (tupleKind (dC P w)) a xs:=tI ok (.inl e)
end
noncomputable def nO (H:Hp) (a:Addr) (y:V) (r:Option V):Prop :=
  (∃ kvs k,Rd H a (.dK kvs)/\y=kV k/\r=j6 kvs k)\/∃ kvs k b,Rd H a (.dT kvs)/\y=.ref b/\H b=some (.tup (k.map kV))/\r=j6 kvs k
noncomputable def uv (H:Hp) (a:Addr) (y v:V) (H':Hp):Prop :=
  (∃ kvs k,H a=some (.dK kvs)/\y=kV k/\kvs.length < sizeLine/\H'=cI H a (.dK (lw kvs k v))) \/
  ∃ kvs k b,H a=some (.dT kvs)/\y=.ref b/\H b=some (.tup (k.map kV))/\kvs.length < sizeLine/\H'=cI H a (.dT (lw kvs k v))
theorem nO.k {H:Hp} {a:Addr} {kvs:List (di×V)} {k:di} (e:H a=some (.dK kvs)):nO H a (kV k) (j6 kvs k):=.inl ⟨kvs,k,.inl e,rfl,rfl⟩
theorem nO.t {H:Hp} {a b:Addr} {kvs:List (List di×V)} {k:List di} (e:H a=some (.dT kvs)) (eb:H b=some (.tup (k.map kV))):nO H a (.ref b) (j6 kvs k):=.inr ⟨kvs,k,b,.inl e,rfl,eb,rfl⟩
theorem uv.k {H:Hp} {a:Addr} {kvs:List (di×V)} {k:di} {v:V} (e:H a=some (.dK kvs)) (hl:kvs.length < sizeLine):uv H a (kV k) v (cI H a (.dK (lw kvs k v))):=.inl ⟨kvs,k,e,rfl,hl,rfl⟩
theorem uv.t {H:Hp} {a b:Addr} {kvs:List (List di×V)} {k:List di} {v:V} (e:H a=some (.dT kvs)) (eb:H b=some (.tup (k.map kV))) (hl:kvs.length < sizeLine) :
    uv H a (.ref b) v (cI H a (.dT (lw kvs k v))):=.inr ⟨kvs,k,b,e,rfl,eb,hl,rfl⟩
section
variable {X:Cx} {pins:List (Addr×Obj)} {σ:St} {H:Hp} {s:Shared} {a:Addr} {y v:V} {u r:Value} {o:Option V} {A:Around} {E:Value->Shared->Prop}
theorem aU.big (I:aU X pins σ H s):sysModules < s.heap.objs.size:=by
  have h:mainGlobals < s.heap.objs.size:=(I.mod.glob.keeps I.bk).lt;exact Nat.lt_trans (by decide) h
theorem xq {Q:Value->Shared->Prop} (hu:A.units+1 < cLine) (I:aU X pins σ H s) (g:nO H a y (some v)) (ry:ca y u) (h:∀ w' s',aU X pins σ H s'->ca v w'->Q w' s') :
    wpAny (model X.prog X.w) A (getItem (.ref a) u) Q E s:=by
  rcases g with ⟨kvs,k,e,ey,l⟩ | ⟨kvs,k,b,e,ey,eb,l⟩
  · subst ey;obtain ⟨z,hd,vs,rel,dd⟩:=oy I.hok e;obtain ⟨w',hw,rw'⟩:=lV.some_of (v:=v) (o:=valueAt vs k) (by rw [l];exact rel.val k);exact wpAny_getItem_of (tP ry) dd.mapOf hw (h w' _ (I.tok _) rw')
  · subst ey;cases (show u=Value.ref b from ry);obtain ⟨z,hd,xs,rel,dd⟩:=tI I.hok e;obtain ⟨w',hw,rw'⟩:=lV.some_of (v:=v) (o:=(atKey xs k).map (·.2)) (by rw [l];exact rel.val k);obtain ⟨p,hp,hp2⟩:=Option.map_eq_some_iff.mp hw;refine wpAny_getItem_heap (tupleKind_room_in1 hu) (oU I.hok eb) dd hp ?_;rw [hp2];exact h w' _ (I.tok _) rw'
theorem Ie {Q:Value->Shared->Prop} (hu:A.units+1 < cLine) (I:aU X pins σ H s) (g:nO H a y o) (ry:ca y u) (h:∀ s',aU X pins σ H s'->Q (.bool o.isSome) s') :
    wpAny (model X.prog X.w) A (compareOp .In u (.ref a)) Q E s:=by
  rcases g with ⟨kvs,k,e,ey,l⟩ | ⟨kvs,k,b,e,ey,eb,l⟩
  · subst ey;obtain ⟨z,hd,vs,rel,dd⟩:=oy I.hok e;refine wpAny_in_of (tP ry) hd dd.mapOf ?_;rw [<- (rel.val k).isSome_eq,<- l];exact h _ (I.tok _)
  · subst ey;cases (show u=Value.ref b from ry);obtain ⟨z,hd,xs,rel,dd⟩:=tI I.hok e;refine wpAny_in_heap (tupleKind_room_in1 hu) (oU I.hok eb) hd dd ?_;have q:=(rel.val k).isSome_eq;rw [Option.isSome_map] at q;rw [<- q,<- l];exact h _ (I.tok _)
theorem Bx {Q:Value->Shared->Prop} (hu:A.units+1 < cLine) (I:aU X pins σ H s) (g:nO H a y o) (ry:ca y u) (h:∀ s',aU X pins σ H s'->Q (.bool (!o.isSome)) s') :
    wpAny (model X.prog X.w) A (compareOp .NotIn u (.ref a)) Q E s:=by
  rcases g with ⟨kvs,k,e,ey,l⟩ | ⟨kvs,k,b,e,ey,eb,l⟩
  · subst ey;obtain ⟨z,hd,vs,rel,dd⟩:=oy I.hok e;refine wpAny_notIn_of (tP ry) hd dd.mapOf ?_;rw [<- (rel.val k).isSome_eq,<- l];exact h _ (I.tok _)
  · subst ey;cases (show u=Value.ref b from ry);obtain ⟨z,hd,xs,rel,dd⟩:=tI I.hok e;refine wpAny_notIn_heap (tupleKind_room_in1 hu) (oU I.hok eb) hd dd ?_;have q:=(rel.val k).isSome_eq;rw [Option.isSome_map] at q;rw [<- q,<- l];exact h _ (I.tok _)
theorem v4 {h':Heap} {t':Nat} {ob:HO} (I:aU X pins σ H s) (mu:Ft (H a)) (hs:Heap.SameBut a s.heap h') (he:∃ q,h'.get? a=some q) (new:cb X.prog X.w (cI H a ob) h' a ob) :
    aU X pins σ (cI H a ob) { s with heap:=h',toks:=t' } :=
  I.write (x:=a) (e:=a) mu (.inl rfl) (fun b q hb z=>(hs.2 b hb).trans z) he new
theorem D0 {P:Program} {w:World} {H':Hp} {h':Heap} {kvs:List (di×V)} {vs:List (di×Value)} (z:kvs.length<=sizeLine) (hd:(a==sysModules)=false) (rel:KV kvs vs) (dd:h'.DictOf (dC P w) a vs) :
    cb P w H' h' a (.dK kvs):=⟨z,hd,vs,rel,dd⟩
theorem xr {H':Hp} {Q:Unit->Shared->Prop} (hu:A.units+1 < cLine) (I:aU X pins σ H s) (g:uv H a y v H') (ry:ca y u) (rv:ca v r) (h:∀ s',aU X pins σ H' s'->Q () s') :
    wpAny (model X.prog X.w) A (setItem (.ref a) u r) Q E s:=by
  rcases g with ⟨kvs,k,e,ey,l,eH⟩ | ⟨kvs,k,b,e,ey,eb,l,eH⟩
  · subst ey eH;obtain ⟨z,hd,vs,rel,dd⟩:=FL I.hok e;have hz:vs.length<=sizeLine:=by rw [<- rel.length];exact z
    have hl:(lw kvs k v).length<=sizeLine:=by have:=mH kvs k v;omega
    refine wpAny_setItem_pairs (hsz:=hz) (tP ry) dd fun h' dd' hs=>h _ ?_
    have he:∃ q,h'.get? a=some q:=let ⟨q,_,_,hq,_⟩:=dd';⟨q,hq⟩
    exact v4 I (by rw [e];exact True.intro) hs he (D0 hl hd (rel.put k rv) dd')
  · subst ey eH;cases (show u=Value.ref b from ry);obtain ⟨z,hd,xs,rel,dd⟩:=FN I.hok e;have hz:xs.length<=sizeLine:=by rw [<- Paired.length rel];exact z
    have hl:(lw kvs k v).length<=sizeLine:=by have:=mH kvs k v;omega
    refine wpAny_setItem_heap (hsz:=hz) (tupleKind_room_in1 hu) (oU I.hok eb) dd fun h' dd' hs=>h _ ?_
    obtain ⟨q,es,ep,hq,h2,h3,h4,_,h5⟩:=dd';refine v4 I (by rw [e];exact True.intro) hs ⟨q,hq⟩ ⟨hl,hd,_,(rel.put k eb rv).keeps fun c ys ec=>?_,q,es,ep,hq,h2,h3,h4,h5⟩;rw [aA (F8 ec e (fun z=>nomatch z))];exact ec
end
section
variable {X:Cx} {pins:List (Addr×Obj)} {σ:St} {H:Hp} {s:Shared} {a:Addr} {kvs:List (di×V)} {k:di} {u:Value} {A:Around} {E:Value->Shared->Prop}
theorem FJ {Q:Value->Shared->Prop} (I:aU X pins σ H s) (e:Rd H a (.dK kvs)) (h:∀ t s',aU X pins σ H s'->Q (.int kvs.length t) s'):wpAny (model X.prog X.w) A (call (.builtin "len") [.ref a]) Q E s:=by
  obtain ⟨z,hd,vs,rel,dd⟩:=oy I.hok e;refine call_len_dict hd dd (by rw [<- rel.length];rw [sizeLine_eq] at z;omega) ?_;rw [<- rel.length];exact h _ _ (I.tok _)
end
theorem tG {X:Cx} {pins:List (Addr×Obj)} {σ:St} {H:Hp} {s:Shared} {a:Addr} {y:V} {o:Option V} (I:aU X pins σ H s) (g:nO H a y o):s.TypeIs (.ref a) "dict" := by
  rcases g with ⟨kvs,k,e,_,_⟩ | ⟨kvs,k,b,e,_,_,_⟩
  · obtain ⟨_,_,vs,_,dd⟩:=oy I.hok e;exact dd.typeIs
  · obtain ⟨_,_,xs,_,dd⟩:=tI I.hok e;exact dd.typeIs
noncomputable def GH (td ty tv:TE):TS:=fun D σ H=>tv σ H fun v H1=>td σ H1 fun x H2=>ty σ H2 fun y H3=>∃ a H4,x=.ref a/\uv H3 a y v H4/\D.nx σ H4
section
variable {X:Cx} {o i e value:Expr} {pos pos' tpos:Pos} {td ty tv:TE}
theorem Cj (hu:X.A.units+1 < cLine) (ho:PE X o td) (hi:PE X i ty) (hv:PE X value tv) (hs:swapsWith value (some (.Subscript o i pos')) pos.line X.env=pure false) :
    PS X (.Assign [.Subscript o i pos'] value pos) (GH td ty tv):=by
  intro pins s σ H D I h;refine wpAny_Assign_Subscript (dq (hv pins s σ H _ I h) fun r s1 ⟨v,H1,I1,rv,q1⟩=>dq (ho pins s1 σ H1 _ I1 q1) fun u s2 ⟨x,H2,I2,rx,q2⟩=>dq (hi pins s2 σ H2 _ I2 q2) fun iv s3 zq0=>?_) hs;obtain ⟨y,H3,I3,ry,a,H4,ex,g,q3⟩:=zq0;subst ex;obtain rfl:u=Value.ref a:=rx;exact xr hu I3 g ry rv fun s4 I4=>⟨σ,H4,I4,q3⟩
end
theorem zp {P:Program} {w:World} {H:Hp} (h:Heap) (hb:sysModules < h.objs.size):cb P w H (h.push { cls:=.type "dict",data:=.dict #[] }) h.objs.size (.dK []) :=
  ⟨Nat.zero_le _,beq_eq_false_iff_ne.mpr (Ne.symm (Nat.ne_of_lt hb)),[],.nil,Heap.DictOf.new h⟩
noncomputable def E6:TE:=fun _ H Q=>∀ p,H p=none->Q (.ref p) (cI H p (.dK []))
section
variable {X:Cx} {pos:Pos}
theorem Am:PE X (.Dict [] [] pos) E6:=fun pins s σ H Q I h =>
  wpAny_Dict_empty ⟨.ref s.heap.objs.size,_,I.laid (a:=s.heap.objs.size) (o:=.dK []) (t':=s.toks) (fun _ _ q=>Heap.get?_push_of_some _ q) (Nat.le_refl _) (zp s.heap I.big),rfl,h _ (I.hok.fresh (Nat.le_refl _))⟩
end
end L2
set_option maxHeartbeats 4000000
namespace D2
open PySem PySem.Spec PyProof.Rows L2
theorem ju {α:Type} {n:Nat} {us:List α} (h:us.length=n+1):∃ a r,us=a::r/\r.length=n:=by
  cases us with
  | nil=>cases h
  | cons a r=>exact ⟨a,r,rfl,Nat.succ.inj h⟩
noncomputable def sR (base:Heap) (l:List Env) (e:Addr) (cls a0:Value) (h:Heap):Prop:=base.StaysIn h/\base.get? e=none/\h.FunFrames base l/\∃ fl,h.TracedAtW base e cls a0 fl
theorem sR.of {base h:Heap} {l:List Env} {e:Addr} {cls a0:Value} (x:Heap.FlyingW base l e cls a0 h):sR base l e cls a0 h:=⟨x.1,x.2.1,x.2.2.1,.none,x.2.2.2⟩
section
variable {M:Model} {A:Around} {E:Value->Shared->Prop} {s:Shared} {base:Heap} {l:List Env} {env:Env} {outer:List Env} {L e:Addr} {cls a0:Value} {Q:Unit->Shared->Prop}
theorem CM {h:Heap}:h.UpToSlots h:=fun b o hb _=>⟨o.slots,hb⟩
theorem um (hfr:A.frames=some (env::outer)) (hf:env.frame=some L) (t:sR base (env::outer) e cls a0 s.heap)
    (hQ:∀ h',sR base (env::outer) e cls a0 h'->s.heap.UpToSlots h'->Q () { s with heap:=h' }):wpAny M A (noteFrame (.ref e) env) Q E s:=by
  have t':=t;obtain ⟨hkb,hen,hl,fl,oe,vs,T,oT,ts,he,⟨hcls,h0⟩,hd,h1,hnT,hTe,hT,hdT,h3⟩:=t;subst hcls;unfold noteFrame;simp only [hf];refine wpAny_bind (wpAny_field he hd h1 ?_);rw [if_pos (show (Value.ref T != Value.none)=true from by simp)];refine wpAny_bind (wpAny_field hT hdT h3 ?_);by_cases hfl:(fl==rawInt L)=true
  · rw [if_pos hfl];exact wpAny_pure (hQ s.heap t' CM)
  · rw [if_neg hfl];refine wpAny_bind (wpAny_setField hT hdT (Array.getElem?_eq_some_iff.mp h3).1 ?_);have other:∀ b,b≠T->(s.heap.update T (Obj.mapFields (·.setIfInBounds 3 Value.none))).get? b=s.heap.get? b:=fun b hb=>Heap.get?_update_other _ _ (Ne.symm hb)
    have noRecord:∀ b o,s.heap.get? b=some o->(∀ vs,o.data≠.fields vs)->b≠T:=fun b o hb hnf q=>by
      rw [q,hT] at hb;injection hb with hb;subst hb;exact hnf ts hdT
    refine wpAny_entryW hfr (hl.of_keeps fun b o hb hnf=>⟨o,(other b (noRecord b o hb hnf)).trans hb,rfl⟩) hf ((other e (Ne.symm hTe)).trans he)
      (fun b o hbo=>(other b fun q=>by rw [q,hnT] at hbo;cases hbo).trans (hkb b o hbo)) hen hd (Array.getElem?_eq_some_iff.mp h1).1 h0
      fun h' ⟨x1,x2,x3,x4⟩=>hQ h' ⟨x1,hen,x2,_,x3⟩ fun b o hb hnf=>x4 b o ((other b (noRecord b o hb hnf)).trans hb) hnf
theorem vF (f:Option Addr) (t:sR base l e cls a0 s.heap) (hQ:∀ h',sR base l e cls a0 h'->s.heap.UpToSlots h'->Q () { s with heap:=h' }):wpAny M A (setFlight (.ref e) f) Q E s:=by
  obtain ⟨hkb,hen,hl,fl,oe,vs,T,oT,ts,he,hcls,hd,h1,hnT,hTe,hT,hdT,h3⟩:=t;have hsz3:3 < ts.size:=(Array.getElem?_eq_some_iff.mp h3).1;have other:∀ b,b≠T->(s.heap.update T (Obj.mapFields (·.setIfInBounds 3 (f.elim Value.none fun f=>rawInt f)))).get? b=s.heap.get? b :=
    fun b hb=>Heap.get?_update_other _ _ (Ne.symm hb)
  have noRecord:∀ b o,s.heap.get? b=some o->(∀ vs,o.data≠.fields vs)->b≠T:=fun b o hb hnf q=>by
    rw [q,hT] at hb;injection hb with hb;subst hb;exact hnf ts hdT
  unfold setFlight;refine wpAny_bind (wpAny_field he hd h1 ?_);rw [if_pos (show (Value.ref T != Value.none)=true from by simp)];refine wpAny_setField hT hdT hsz3 (hQ _ ⟨fun b o hbo=>(other b fun q=>by rw [q,hnT] at hbo;cases hbo).trans (hkb b o hbo),hen,
    hl.of_keeps fun b o hb hnf=>⟨o,(other b (noRecord b o hb hnf)).trans hb,rfl⟩,(f.elim Value.none fun f=>rawInt f),?_⟩ fun b o hb hnf=>⟨o.slots,(other b (noRecord b o hb hnf)).trans hb⟩)
  exact ⟨oe,vs,T,_,_,(other e (Ne.symm hTe)).trans he,hcls,hd,h1,hnT,hTe,Heap.get?_update_self _ hT (Obj.isFreed_of_fields (Obj.data_mapFields hdT _)),Obj.data_mapFields hdT _,by simp [hsz3]⟩
theorem AV (t:sR base l e cls a0 s.heap) (hQ:∀ h',Heap.FlyingW base l e cls a0 h'->s.heap.UpToSlots h'->Q () { s with heap:=h' }):wpAny M A (setFlight (.ref e) none) Q E s:=by
  obtain ⟨hkb,hen,hl,fl,ht⟩:=t;exact wpAny_setFlight_noneW hkb hl ht fun h' k1 k2 k3 k4=>hQ h' ⟨k1,hen,k2,k3⟩ fun b o hb hn=>⟨o.slots,k4 b o hb hn⟩
theorem yr (hfr:A.frames=some (env::outer)) (hf:env.frame=some L) (t:sR base (env::outer) e cls a0 s.heap)
    (hQ:∀ h',Heap.FlyingW base outer e cls a0 h'->s.heap.UpToSlots h'->Q () { s with heap:=h' }):wpAny M A (leaving env (.ref e)) Q E s:=by
  unfold leaving;refine wpAny_bind (um hfr hf t fun h1 t1 u1=>?_);refine AV (s:={ s with heap:=h1 }) t1 fun h2 t2 u2=>?_
  obtain ⟨k1,k2,⟨_,_,k3⟩,k4⟩:=t2;exact hQ h2 ⟨k1,k2,k3,k4⟩ (u1.trans u2)
theorem AU {α:Type} {k:Value->Sem α} {Q:α->Shared->Prop} (t:sR base l e cls a0 s.heap) (hQ:∀ T,wpAny M A (k (.ref T)) Q E s):wpAny M A (field (.ref e) 1>>=k) Q E s:=by
  obtain ⟨hkb,hen,hl,fl,oe,vs,T,oT,ts,he,hcls,hd,h1,r⟩:=t;exact wpAny_bind (wpAny_field he hd h1 (hQ T))
theorem AW {α:Type} {what:String} {Q:α->Shared->Prop} (t:sR base l e cls a0 s.heap) (hQ:∀ h',sR base l e cls a0 h'->s.heap.UpToSlots h'->E (.ref e) { s with heap:=h' }):wpAny M A (PySem.passOn what (.ref e) env:Sem α) Q E s:=by
  unfold PySem.passOn;refine AU t fun T=>?_
  rw [if_neg (show ¬ ((Value.ref T==Value.none)=true) from by simp)];refine wpAny_bind (vF _ t fun h' t' u=>?_);exact wpAny_throw (hQ h' t' u)
theorem sR.first {h:Heap} (x:sR base l e cls a0 h):∃ oe vs,h.get? e=some oe/\oe.cls=cls/\oe.data=.fields vs/\vs[0]?=some a0 :=
  let ⟨_,_,_,_,oe,vs,_,_,_,he,hc,hd,_⟩:=x;⟨oe,vs,he,hc.1,hd,hc.2⟩
end
noncomputable abbrev St:=L2.St
noncomputable abbrev aU:=@L2.aU
noncomputable def fW:di->PyData
  | .inl i=>.int i
  | .inr x=>.str x
mutual
noncomputable def Rp (H:Hp):PyData->V->Prop
  | .none,v=>v=.non
  | .bool b,v=>v=.bl b
  | .int i,v=>v=.int i
  | .str x,v=>v=.str x
  | .tuple ds,v=>∃ a vs,v=.ref a/\H a=some (.tup vs)/\bK H ds vs
  | .list ds,v=>∃ a o vs,v=.ref a/\H a=some (.frz o (.lst vs))/\bK H ds vs
  | .dict kvs,v=>(∃ a o ks,v=.ref a/\H a=some (.frz o (.dK ks))/\ej H kvs ks)\/∃ a o C dx fs,v=.ref a/\H a=some (.frz o (.ins C dx fs))/\yF H C fs kvs
noncomputable def bK (H:Hp):List PyData->List V->Prop
  | [],vs=>vs=[]
  | d::ds,vs=>∃ v r,vs=v::r/\Rp H d v/\bK H ds r
noncomputable def ej (H:Hp):List (PyData×PyData)->List (di×V)->Prop
  | [],ks=>ks=[]
  | kd::kvs,ks=>∃ x v r,ks=(x,v)::r/\A5 H kd x v/\ej H kvs r
noncomputable def A5 (H:Hp):PyData×PyData->di->V->Prop
  | (k,d),x,v=>k=fW x/\Rp H d v
noncomputable def yF (H:Hp) (C:Addr) (fs:List (Str×V)):List (PyData×PyData)->Prop
  | []=>False
  | kd::kvs=>kd=(.none,.int C)/\ur H kvs fs
noncomputable def ur (H:Hp):List (PyData×PyData)->List (Str×V)->Prop
  | [],fs=>fs=[]
  | kd::kvs,fs=>∃ x v r,fs=(x,v)::r/\CU H kd x v/\ur H kvs r
noncomputable def CU (H:Hp):PyData×PyData->Str->V->Prop
  | (k,d),x,v=>k=.str x/\Rp H d v
end
noncomputable def mG:List (PyData×PyData)->Bool
  | (.none,_)::_=>true
  | _=>false
noncomputable def Kp (H H':Hp):Prop:=(∀ b xs,H b=some (.tup xs)->H' b=some (.tup xs))/\∀ b o u,H b=some (.frz o u)->H' b=some (.frz o u)
theorem Kp.trans {H H1 H2:Hp} (a:Kp H H1) (b:Kp H1 H2):Kp H H2:=⟨fun c xs h=>b.1 c xs (a.1 c xs h),fun c o u h=>b.2 c o u (a.2 c o u h)⟩
theorem Kp.of {H H':Hp} (s:aM H H'):Kp H H':=⟨fun b xs h=>s b _ h,fun b o u h=>s b _ h⟩
mutual
theorem Rp.kp {H H':Hp} (k:Kp H H'):∀ (d:PyData) (v:V),Rp H d v->Rp H' d v
  | .none,v,h=>by simpa only [Rp] using h
  | .bool b,v,h=>by simpa only [Rp] using h
  | .int i,v,h=>by simpa only [Rp] using h
  | .str x,v,h=>by simpa only [Rp] using h
  | .tuple ds,v,h=>by
    simp only [Rp] at h ⊢;obtain ⟨a,vs,e,ha,r⟩:=h;exact ⟨a,vs,e,k.1 _ _ ha,bK.kp k ds vs r⟩
  | .list ds,v,h=>by
    simp only [Rp] at h ⊢;obtain ⟨a,o,vs,e,ha,r⟩:=h;exact ⟨a,o,vs,e,k.2 _ _ _ ha,bK.kp k ds vs r⟩
  | .dict kvs,v,h=>by
    simp only [Rp] at h ⊢;rcases h with ⟨a,o,ks,e,ha,r⟩ | ⟨a,o,C,dx,fs,e,ha,r⟩
    · exact .inl ⟨a,o,ks,e,k.2 _ _ _ ha,ej.kp k kvs ks r⟩
    · exact .inr ⟨a,o,C,dx,fs,e,k.2 _ _ _ ha,yF.kp k C fs kvs r⟩
theorem bK.kp {H H':Hp} (k:Kp H H'):∀ (ds:List PyData) (vs:List V),bK H ds vs->bK H' ds vs
  | [],vs,h=>by simpa only [bK] using h
  | d::ds,vs,h=>by
    simp only [bK] at h ⊢;obtain ⟨v,r,e,h1,h2⟩:=h;exact ⟨v,r,e,Rp.kp k d v h1,bK.kp k ds r h2⟩
theorem ej.kp {H H':Hp} (k:Kp H H'):∀ (kvs:List (PyData×PyData)) (ks:List (di×V)),ej H kvs ks->ej H' kvs ks
  | [],ks,h=>by simpa only [ej] using h
  | kd::kvs,ks,h=>by
    simp only [ej] at h ⊢;obtain ⟨x,v,r,e,h1,h2⟩:=h;exact ⟨x,v,r,e,A5.kp k kd x v h1,ej.kp k kvs r h2⟩
theorem A5.kp {H H':Hp} (k:Kp H H'):∀ (kd:PyData×PyData) (x:di) (v:V),A5 H kd x v->A5 H' kd x v
  | (c,d),x,v,h=>by
    simp only [A5] at h ⊢;exact ⟨h.1,Rp.kp k d v h.2⟩
theorem yF.kp {H H':Hp} (k:Kp H H') (C:Addr) (fs:List (Str×V)):∀ (kvs:List (PyData×PyData)),yF H C fs kvs->yF H' C fs kvs
  | [],h=>by simpa only [yF] using h
  | kd::kvs,h=>by
    simp only [yF] at h ⊢;exact ⟨h.1,ur.kp k kvs fs h.2⟩
theorem ur.kp {H H':Hp} (k:Kp H H'):∀ (kvs:List (PyData×PyData)) (fs:List (Str×V)),ur H kvs fs->ur H' kvs fs
  | [],fs,h=>by simpa only [ur] using h
  | kd::kvs,fs,h=>by
    simp only [ur] at h ⊢;obtain ⟨x,v,r,e,h1,h2⟩:=h;exact ⟨x,v,r,e,CU.kp k kd x v h1,ur.kp k kvs r h2⟩
theorem CU.kp {H H':Hp} (k:Kp H H'):∀ (kd:PyData×PyData) (x:Str) (v:V),CU H kd x v->CU H' kd x v
  | (c,d),x,v,h=>by
    simp only [CU] at h ⊢;exact ⟨h.1,Rp.kp k d v h.2⟩
end
theorem Rp.mono {H H':Hp} {d:PyData} {v:V} (h:Rp H d v) (s:aM H H'):Rp H' d v:=Rp.kp (Kp.of s) d v h
theorem bK.mono {H H':Hp} {ds:List PyData} {vs:List V} (h:bK H ds vs) (s:aM H H'):bK H' ds vs:=bK.kp (Kp.of s) ds vs h
noncomputable def iZ (H:Hp):PyData->V->Prop
  | .list ds,v=>∃ a vs,v=.ref a/\H a=some (.lst vs)/\bK H ds vs
  | .dict kvs,v=>∃ a ks,v=.ref a/\H a=some (.dK ks)/\ej H kvs ks
  | _,_=>False
theorem iZ.mono {H H':Hp} {d:PyData} {v:V} (h:iZ H d v) (s:aM H H'):iZ H' d v:=by
  cases d <;> simp only [iZ] at h ⊢
  · obtain ⟨a,vs,e,ha,r⟩:=h;exact ⟨a,vs,e,s _ _ ha,bK.mono r s⟩
  · obtain ⟨a,vs,e,ha,r⟩:=h;exact ⟨a,vs,e,s _ _ ha,ej.kp (Kp.of s) _ _ r⟩
noncomputable def gS (H:Hp) (d:PyData) (v:V):Prop:=Rp H d v\/iZ H d v
theorem gS.mono {H H':Hp} {d:PyData} {v:V} (h:gS H d v) (s:aM H H'):gS H' d v:=h.elim (fun h=>.inl (h.mono s)) fun h=>.inr (h.mono s)
noncomputable def DG (H H':Hp) (d:PyData) (v:V):Prop:=iZ H' d v/\∃ a,v=.ref a/\H a=none
inductive br where
  | non
  | val (d:PyData)
  | own (d:PyData)
  | exc (p:Addr)
noncomputable abbrev aT:=List br
noncomputable def i8 (H:Hp):br->Option V->Prop
  | .non,_=>True
  | .val d,o=>∃ v,o=some v/\Rp H d v
  | .own d,o=>∃ v,o=some v/\iZ H d v
  | .exc p,o=>o=some (.ref p)
noncomputable def Sl (H:Hp) (σ:St) (ρ:aT):Prop:=σ.length=ρ.length/\∀ (i:Nat) (c:br) (o:Option V),ρ[i]?=some c->σ[i]?=some o->i8 H c o
theorem i8.mono {H H':Hp} {c:br} {o:Option V} (h:i8 H c o) (s:aM H H'):i8 H' c o:=by
  cases c <;> simp only [i8] at h ⊢
  · obtain ⟨v,e,h⟩:=h;exact ⟨v,e,h.mono s⟩
  · obtain ⟨v,e,h⟩:=h;exact ⟨v,e,h.mono s⟩
  · exact h
theorem Sl.mono {H H':Hp} {σ:St} {ρ:aT} (h:Sl H σ ρ) (s:aM H H'):Sl H' σ ρ:=⟨h.1,fun i c o h1 h2=>(h.2 i c o h1 h2).mono s⟩
inductive R (α:Type) where
  | ok (a:α)
  | ex (c:Str)
  | no
noncomputable def R.bind {α β:Type}:R α->(α->R β)->R β
  | .ok a,f=>f a
  | .ex c,_=>.ex c
  | .no,_=>.no
noncomputable instance:Monad R where
  pure:=.ok
  bind:=R.bind
@[simp] theorem R.ok_bind {α β:Type} (a:α) (f:α->R β):(R.ok a>>=f)=f a:=rfl
@[simp] theorem R.ex_bind {α β:Type} (c:Str) (f:α->R β):((R.ex c:R α)>>=f)=.ex c:=rfl
@[simp] theorem R.no_bind {α β:Type} (f:α->R β):((R.no:R α)>>=f)=.no:=rfl
@[simp] theorem R.pure_ok {α:Type} (a:α):(pure a:R α)=.ok a:=rfl
structure DF (P:Program) (w:World) (outer:List Env) (H:Hp) (s:Shared) (C:Addr) (H':Hp) (e:Value) (s':Shared):Prop where
  os:s'.os=s.os
  bare:AllBare s'.gens
  same:aM H H'
  ex:∃ (p:Addr) (a0:Value) (B:Heap),e=.ref p/\Heap.FlyingW B outer p (.ref C) a0 s'.heap/\hR P w H' B/\H' p=none/\∀ b o,s.heap.get? b=some o->H b=none->b∉lK outer->B.get? b=some o/\H' b=none
  slot:∀ b o,s.heap.get? b=some o->H b=none->b∈lK outer->(∃ sl,s'.heap.get? b=some { o with slots:=sl })/\H' b=none
structure qZ (P:Program) (w:World) (outer:List Env) (H:Hp) (s:Shared) (C:Addr) (H':Hp) (e:Value) (s':Shared):Prop where
  os:s'.os=s.os
  bare:AllBare s'.gens
  same:aM H H'
  ex:∃ (p:Addr) (a0:Value) (B:Heap),e=.ref p/\sR B outer p (.ref C) a0 s'.heap/\hR P w H' B/\H' p=none/\∀ b o,s.heap.get? b=some o->H b=none->b∉lK outer->B.get? b=some o/\H' b=none
  slot:∀ b o,s.heap.get? b=some o->H b=none->b∈lK outer->(∃ sl,s'.heap.get? b=some { o with slots:=sl })/\H' b=none
theorem DF.hld {P:Program} {w:World} {outer:List Env} {H:Hp} {s:Shared} {C:Addr} {H':Hp} {e:Value} {s':Shared} (f:DF P w outer H s C H' e s'):qZ P w outer H s C H' e s' :=
  ⟨f.os,f.bare,f.same,let ⟨p,a0,B,h1,h2,h3⟩:=f.ex;⟨p,a0,B,h1,sR.of h2,h3⟩,f.slot⟩
noncomputable def cQ (P:Program) (w:World) (mg:Str->Option Value):yC:=fun outer H s E e s'=>∃ n C H',mg n=some (.ref C)/\DF P w outer H s C H' e s'/\E (.str n 0) none H'
noncomputable def EX (X:Cx):XK:=fun v _ H'=>∀ (n:Str) (C:Addr),v=.str n 0->X.mg n=some (.ref C)->∀ (pins:List (Addr×Obj)) (σ:St) (H:Hp) (s:Shared) (e:Value) (s':Shared),aU X pins σ H s->DF X.prog X.w X.stack H s C H' e s'->X.xe e s'
theorem wC {X:Cx}:nU (cQ X.prog X.w X.mg) X (EX X):=fun pins σ H s e s' I ⟨n,C,H',hm,f,q⟩=>q n C rfl hm pins σ H s e s' I f
noncomputable def Xw (X:Cx) (c:Str) (H:Hp):Prop:=∀ H1,aM H H1->∀ (C:Addr),X.mg c=some (.ref C)->∀ (pins:List (Addr×Obj)) (σ:St) (Hc:Hp) (s:Shared) (e:Value) (s':Shared),aU X pins σ Hc s->qZ X.prog X.w X.stack Hc s C H1 e s'->X.xe e s'
theorem Xw.mono {X:Cx} {c:Str} {H H':Hp} (h:Xw X c H) (s:aM H H'):Xw X c H':=fun H1 s1=>h H1 (s.trans s1)
theorem Xw.ex {X:Cx} {c:Str} {H:Hp} (h:Xw X c H):∀ H1,aM H H1->EX X (.str c 0) none H1:=fun H1 s1 n C en hm pins σ Hc s e s' I f=>by
  have en':c=n:=by injection en
  subst en';exact h H1 s1 C hm pins σ Hc s e s' I f.hld
noncomputable def Fy (X:Cx) (c:Str) (Fm:Hp):Prop:=∀ C,X.mg c=some (.ref C)->∀ (pins:List (Addr×Obj)) (σ:St) (H:Hp) (s:Shared),aM Fm H->aU X pins σ H s->∀ (h':Heap) (p:Addr) (vs:List Value),Heap.MadeExcOf s.heap h' p (.ref C) vs->X.xe (.ref p) { s with heap:=h' }
theorem Fy.mono {X:Cx} {c:Str} {H H':Hp} (h:Fy X c H) (s:aM H H'):Fy X c H':=fun C hm pins σ H1 s1 e=>h C hm pins σ H1 s1 (s.trans e)
noncomputable def uc (X:Cx) (P:Hp->Hp->PyData->V->Prop) (r:R PyData) (H:Hp) (Q:VK):Prop :=
  match r with
  | .ok d=>∀ v H',aM H H'->P H H' d v->Q v H'
  | .ex c=>Xw X c H
  | .no=>False
noncomputable abbrev hJ:Hp->Hp->PyData->V->Prop:=fun _ H' d v=>Rp H' d v
noncomputable abbrev uG:Hp->Hp->PyData->V->Prop:=fun _ H' d v=>gS H' d v
noncomputable abbrev Hn:Hp->Hp->PyData->V->Prop:=fun H H' d v=>Rp H' d v\/DG H H' d v
noncomputable abbrev Fe:=aT->R PyData
noncomputable def jQ (X:Cx) (P:Hp->Hp->PyData->V->Prop) (f:Fe):TE:=fun σ H Q=>∃ ρ,Sl H σ ρ/\uc X P (f ρ) H Q
noncomputable def cL (X:Cx) (e:Expr) (f:Fe):Prop:=PE X e (jQ X hJ f)
structure Z.cL (X:Cx) (e:Expr) (f:Fe):Prop where
  un:D2.cL X e f
noncomputable def dL (X:Cx) (e:Expr) (f:Fe):Prop:=PE X e (jQ X uG f)
structure Z.dL (X:Cx) (e:Expr) (f:Fe):Prop where
  un:D2.dL X e f
noncomputable def CS (X:Cx) (e:Expr) (f:Fe):Prop:=PE X e (jQ X Hn f)
structure Z.CS (X:Cx) (e:Expr) (f:Fe):Prop where
  un:D2.CS X e f
noncomputable def lQ (X:Cx) (e:Expr) (f:Fe):Prop:=PE X e (jQ X DG f)
structure Z.lQ (X:Cx) (e:Expr) (f:Fe):Prop where
  un:D2.lQ X e f
noncomputable def RA (I:Hp->PyData->V->Prop) (H:Hp):List PyData->List V->Prop
  | [],vs=>vs=[]
  | d::ds,vs=>∃ v r,vs=v::r/\I H d v/\RA I H ds r
theorem pb {H:Hp}:∀ {ds:List PyData} {vs:List V},RA Rp H ds vs<->bK H ds vs
  | [],vs=>by simp only [RA,bK]
  | d::ds,vs=>by simp only [RA,bK,pb (ds:=ds)]
noncomputable def Az (X:Cx) (I:Hp->PyData->V->Prop) (f:aT->R (List PyData)):TA:=fun σ H Q=>∃ ρ,Sl H σ ρ/\match f ρ with
  | .ok ds=>∀ vs H',aM H H'->RA I H' ds vs->Q vs H'
  | .ex c=>Xw X c H
  | .no=>False
noncomputable def uD (X:Cx) (es:List Expr) (f:aT->R (List PyData)):Prop:=PA X es (Az X Rp f)
structure Z.uD (X:Cx) (es:List Expr) (f:aT->R (List PyData)):Prop where
  un:D2.uD X es f
noncomputable def DE (X:Cx) (es:List Expr) (f:aT->R (List PyData)):Prop:=PA X es (Az X gS f)
noncomputable def Ct (X:Cx) (f:aT->R Bool):TT:=fun σ H Q=>∃ ρ,Sl H σ ρ/\match f ρ with
  | .ok b=>∀ H',aM H H'->Q b H'
  | .ex c=>Xw X c H
  | .no=>False
noncomputable def nc (X:Cx) (e:Expr) (f:aT->R Bool):Prop:=PT X e (Ct X f)
structure Z.nc (X:Cx) (e:Expr) (f:aT->R Bool):Prop where
  un:D2.nc X e f
noncomputable def yE (X:Cx) (e:Expr) (f:aT->R Bool):Prop:=PW X e (Ct X f)
structure Z.yE (X:Cx) (e:Expr) (f:aT->R Bool):Prop where
  un:D2.yE X e f
theorem PE.imp {X:Cx} {e:Expr} {t t':TE} (h:PE X e t) (i:∀ σ H Q,t' σ H Q->t σ H Q):PE X e t':=fun pins s σ H Q I q=>h pins s σ H Q I (i σ H Q q)
theorem PT.imp {X:Cx} {e:Expr} {t t':TT} (h:PT X e t) (i:∀ σ H Q,t' σ H Q->t σ H Q):PT X e t':=fun pins s σ H Q I q=>h pins s σ H Q I (i σ H Q q)
theorem PW.imp {X:Cx} {e:Expr} {t t':TT} (h:PW X e t) (i:∀ σ H Q,t' σ H Q->t σ H Q):PW X e t':=fun wh pins s σ H Q I q=>h wh pins s σ H Q I (i σ H Q q)
theorem PA.imp {X:Cx} {e:List Expr} {t t':TA} (h:PA X e t) (i:∀ σ H Q,t' σ H Q->t σ H Q):PA X e t':=fun pos pins s σ H Q I q=>h pos pins s σ H Q I (i σ H Q q)
theorem jQ.post {X:Cx} {P:Hp->Hp->PyData->V->Prop} {f:Fe} {σ:St} {H:Hp} {Q Q':VK} (h:jQ X P f σ H Q) (i:∀ v H',Q v H'->Q' v H'):jQ X P f σ H Q':=by
  obtain ⟨ρ,sl,q⟩:=h;refine ⟨ρ,sl,?_⟩;cases e:f ρ with
  | ok d=>rw [e] at q;exact fun v H' s p=>i _ _ (q v H' s p)
  | ex c=>rw [e] at q;exact q
  | no=>rw [e] at q;exact q
theorem Ct.post {X:Cx} {f:aT->R Bool} {σ:St} {H:Hp} {Q Q':Bool->Hp->Prop} (h:Ct X f σ H Q) (i:∀ b H',Q b H'->Q' b H'):Ct X f σ H Q':=by
  obtain ⟨ρ,sl,q⟩:=h;refine ⟨ρ,sl,?_⟩;cases e:f ρ with
  | ok d=>rw [e] at q;exact fun H' s=>i _ _ (q H' s)
  | ex c=>rw [e] at q;exact q
  | no=>rw [e] at q;exact q
theorem Az.post {X:Cx} {I:Hp->PyData->V->Prop} {f:aT->R (List PyData)} {σ:St} {H:Hp} {Q Q':List V->Hp->Prop} (h:Az X I f σ H Q) (i:∀ vs H',Q vs H'->Q' vs H'):Az X I f σ H Q':=by
  obtain ⟨ρ,sl,q⟩:=h;refine ⟨ρ,sl,?_⟩;cases e:f ρ with
  | ok d=>rw [e] at q;exact fun vs H' s p=>i _ _ (q vs H' s p)
  | ex c=>rw [e] at q;exact q
  | no=>rw [e] at q;exact q
theorem jQ.weaken {X:Cx} {P P':Hp->Hp->PyData->V->Prop} {f:Fe} (h:∀ H H' d v,P H H' d v->P' H H' d v) (σ:St) (H:Hp) (Q:VK) (q:jQ X P' f σ H Q):jQ X P f σ H Q:=by
  obtain ⟨ρ,sl,q⟩:=q;refine ⟨ρ,sl,?_⟩;cases e:f ρ with
  | ok d=>rw [e] at q;exact fun v H' s p=>q v H' s (h _ _ _ _ p)
  | ex c=>rw [e] at q;exact q
  | no=>rw [e] at q;exact q
section
variable {X:Cx} {e:Expr} {f:Fe}
theorem cL.b (h:cL X e f):dL X e f:=PE.imp h (jQ.weaken fun _ _ _ _ p=>Or.inl p)
theorem ae (h:Z.cL X e f):Z.dL X e f :=
  ⟨D2.cL.b h.un⟩
theorem lQ.b (h:lQ X e f):dL X e f:=PE.imp h (jQ.weaken fun _ _ _ _ p=>Or.inr p.1)
theorem cG (h:Z.lQ X e f):Z.dL X e f :=
  ⟨D2.lQ.b h.un⟩
theorem lQ.toF (h:lQ X e f):CS X e f:=PE.imp h (jQ.weaken fun _ _ _ _ p=>Or.inr p)
end
section
variable {X:Cx} {pins:List (Addr×Obj)} {σ:St} {H:Hp} {s:Shared} {a:Addr} {u:HO}
theorem gx (I:aU X pins σ H s) (h:H a=some u) (hm:(∃ xs,u=.lst xs)\/∃ ks,u=.dK ks):∃ o,aU X pins σ (cI H a (.frz o u)) s:=by
  have ob:=I.hok a u h;have hg:∃ o,s.heap.get? a=some o:=by
    rcases hm with ⟨xs,rfl⟩ | ⟨ks,rfl⟩
    · obtain ⟨_,_,_,_,e⟩:=ob;exact ⟨_,e⟩
    · obtain ⟨_,_,_,_,o,_,_,e,_⟩:=ob;exact ⟨_,e⟩
  obtain ⟨o,hg⟩:=hg;have nt:∀ b xs,H b=some (.tup xs)->b≠a:=fun b xs q z=>by subst z;rw [h] at q;rcases hm with ⟨_,rfl⟩ | ⟨_,rfl⟩ <;> cases q
  have nf:∀ b o' u',H b=some (.frz o' u')->b≠a:=fun b o' u' q z=>by subst z;rw [h] at q;rcases hm with ⟨_,rfl⟩ | ⟨_,rfl⟩ <;> cases q
  have nb:∀ b ps,H b=some (.tbl ps)->b≠a:=fun b ps q z=>by subst z;rw [h] at q;rcases hm with ⟨_,rfl⟩ | ⟨_,rfl⟩ <;> cases q
  have nw:∀ b y,H b=some (.own y)->b≠a:=fun b y q z=>by subst z;rw [h] at q;rcases hm with ⟨_,rfl⟩ | ⟨_,rfl⟩ <;> cases q
  have nn:∀ b,H b=none->b≠a:=fun b q z=>by subst z;rw [h] at q;cases q
  have st:∀ b x,cb X.prog X.w H s.heap b x->cb X.prog X.w (cI H a (.frz o u)) s.heap b x:=fun b x q =>
    q.stay (fun c v _ e=>e) (fun c e=>by rw [aA (nw _ _ e)];exact e) fun c xs e=>by rw [aA (nt _ _ e)];exact e
  refine ⟨o,⟨I.ok,I.os,I.bare,⟨I.base.keep,I.base.slot,fun b ob' e n hx=>?_,I.base.there,fun b xs e=>?_,fun b ob' v e=>?_,fun b ps e=>?_⟩,I.loc,I.cell,?_,fun x c e=>?_,fun p hp=>?_,fun b x e=>?_,I.len⟩⟩
  · have:=I.base.free b ob' e n hx;rw [aA (nn _ this)];exact this
  · have:=I.base.tups b xs e;rw [aA (nt _ _ this)];exact this
  · have:=I.base.frzs b ob' v e;rw [aA (nf _ _ _ this)];exact this
  · obtain ⟨m,q⟩:=I.base.tbls b ps e;exact ⟨m,by rw [aA (nb _ _ q)];exact q⟩
  · rw [aA (nn _ I.free)];exact I.free
  · rw [aA (nn _ (I.freeC x c e))];exact I.freeC x c e
  · obtain ⟨p1,p2,p3⟩:=I.pin p hp;exact ⟨p1,by rw [aA (nn _ p2)];exact p2,p3⟩
  · by_cases hb:b=a
    · subst hb;rw [bq] at e;cases e;exact ⟨hg,st b u ob⟩
    · rw [aA hb] at e;exact st b x (I.hok b x e)
theorem gy {o':HO} (h:H a=some u) (hm:(∃ xs,u=.lst xs)\/∃ ks,u=.dK ks):Kp H (cI H a o'):=by
  refine ⟨fun b xs e=>?_,fun b o v e=>?_⟩
  · rw [aA];exact e;rintro rfl;rw [h] at e;rcases hm with ⟨_,rfl⟩ | ⟨_,rfl⟩ <;> cases e
  · rw [aA];exact e;rintro rfl;rw [h] at e;rcases hm with ⟨_,rfl⟩ | ⟨_,rfl⟩ <;> cases e
theorem D6 {H0:Hp} {d:PyData} {v:V} (I:aU X pins σ H s) (hs:aM H0 H) (n:DG H0 H d v):∃ H',aU X pins σ H' s/\aM H0 H'/\Rp H' d v:=by
  obtain ⟨n,a,rfl,h0⟩:=n;have go:∀ u:HO,H a=some u->((∃ xs,u=.lst xs)\/∃ ks,u=.dK ks)->∃ o,aU X pins σ (cI H a (.frz o u)) s/\aM H0 (cI H a (.frz o u))/\Kp H (cI H a (.frz o u)):=fun u hu hm=>by
    obtain ⟨o,J⟩:=gx I hu hm;refine ⟨o,J,fun b x e=>?_,gy hu hm⟩;rw [aA (ba e h0)];exact hs b x e
  cases d <;> simp only [iZ] at n
  · obtain ⟨a',vs,e,ha,r⟩:=n;cases e;obtain ⟨o,J,S,K⟩:=go _ ha (.inl ⟨_,rfl⟩);refine ⟨_,J,S,?_⟩;simp only [Rp];exact ⟨a,o,vs,rfl,bq,bK.kp K _ _ r⟩
  · obtain ⟨a',vs,e,ha,r⟩:=n;cases e;obtain ⟨o,J,S,K⟩:=go _ ha (.inr ⟨_,rfl⟩);refine ⟨_,J,S,?_⟩;simp only [Rp];exact .inl ⟨a,o,vs,rfl,bq,ej.kp K _ _ r⟩
end
theorem CS.e {X:Cx} {e:Expr} {f:Fe} (h:CS X e f):cL X e f:=by
  intro pins s σ H Q I q;obtain ⟨ρ,sl,q⟩:=q;cases ef:f ρ with
  | ok d =>
    rw [ef] at q;refine dq (h pins s σ H (fun v H'=>aM H H'/\Hn H H' d v) I ⟨ρ,sl,by rw [ef];exact fun v H' hs p=>⟨hs,p⟩⟩) fun u s' ⟨v,H',I',r,hs,p⟩=>?_
    rcases p with p | p
    · exact ⟨v,H',I',r,q v H' hs p⟩
    · obtain ⟨H2,I2,S2,p2⟩:=D6 I' hs p;exact ⟨v,H2,I2,r,q v H2 S2 p2⟩
  | ex c=>rw [ef] at q;exact dq (h pins s σ H (fun _ _=>False) I ⟨ρ,sl,by rw [ef];exact q⟩) fun u s' ⟨v,H',I',r,z⟩=>z.elim
  | no=>rw [ef] at q;exact q.elim
theorem Ht {X:Cx} {e:Expr} {f:Fe} (h:Z.CS X e f):Z.cL X e f :=
  ⟨D2.CS.e h.un⟩
theorem lQ.e {X:Cx} {e:Expr} {f:Fe} (h:lQ X e f):cL X e f:=(lQ.toF h).e
theorem gF {X:Cx} {e:Expr} {f:Fe} (h:Z.lQ X e f):Z.cL X e f :=
  ⟨D2.lQ.e h.un⟩
structure DK {β:Type} (X:Cx) (T:R β->Hp->Prop):Prop where
  mono:∀ r H H',T r H->aM H H'->T r H'
  ex:∀ c H,T (.ex c) H->Xw X c H
  no:∀ H,¬ T .no H
noncomputable def Dn (P:Hp->Hp->PyData->V->Prop):Prop:=∀ H H1 H' d v,aM H H1->P H1 H' d v->P H H' d v
theorem eO:Dn hJ:=fun _ _ _ _ _ _ p=>p
theorem zq:Dn DG:=fun _ _ _ _ _ s p=>⟨p.1,let ⟨a,e,h⟩:=p.2;⟨a,e,s.free h⟩⟩
theorem Ig:Dn Hn:=fun _ _ _ _ _ s p=>p.elim .inl fun p=>.inr (zq _ _ _ _ _ s p)
section
variable {X:Cx} {σ:St} {H:Hp}
theorem eL {P:Hp->Hp->PyData->V->Prop} (hP:Dn P) (Q:VK):DK X (fun r H=>uc X P r H Q) where
  mono:=fun r H H' h s=>by
    cases r with
    | ok d=>exact fun v H2 s2 p=>h v H2 (s.trans s2) (hP _ _ _ _ _ s p)
    | ex c=>exact Xw.mono h s
    | no=>exact h
  ex:=fun c H h=>h
  no:=fun H h=>h
theorem wQ (Q:Bool->Hp->Prop):DK X (fun (r:R Bool) H=>match r with | .ok b=>∀ H',aM H H'->Q b H' | .ex c=>Xw X c H | .no=>False) where
  mono:=fun r H H' h s=>by
    cases r with
    | ok d=>exact fun H2 s2=>h H2 (s.trans s2)
    | ex c=>exact Xw.mono h s
    | no=>exact h
  ex:=fun c H h=>h
  no:=fun H h=>h
theorem DA (I:Hp->PyData->V->Prop) (Q:List V->Hp->Prop):DK X (fun (r:R (List PyData)) H=>match r with | .ok ds=>∀ vs H',aM H H'->RA I H' ds vs->Q vs H' | .ex c=>Xw X c H | .no=>False) where
  mono:=fun r H H' h s=>by
    cases r with
    | ok d=>exact fun vs H2 s2=>h vs H2 (s.trans s2)
    | ex c=>exact Xw.mono h s
    | no=>exact h
  ex:=fun c H h=>h
  no:=fun H h=>h
theorem eT {β:Type} {T:R β->Hp->Prop} (t:DK X T) {P:Hp->Hp->PyData->V->Prop} {f:Fe} {k:aT->PyData->R β} (h:∃ ρ,Sl H σ ρ/\T (f ρ>>=k ρ) H) :
    jQ X P f σ H (fun v H1=>∃ ρ d,Sl H1 σ ρ/\aM H H1/\P H H1 d v/\T (k ρ d) H1):=by
  obtain ⟨ρ,sl,q⟩:=h;refine ⟨ρ,sl,?_⟩;cases e:f ρ with
  | ok d=>rw [e] at q;exact fun v H1 s p=>⟨ρ,d,sl.mono s,s,p,t.mono _ _ _ q s⟩
  | ex c=>rw [e] at q;exact t.ex _ _ q
  | no=>rw [e] at q;exact (t.no _ q).elim
theorem rD {β:Type} {T:R β->Hp->Prop} (t:DK X T) {f:aT->R Bool} {k:aT->Bool->R β} (h:∃ ρ,Sl H σ ρ/\T (f ρ>>=k ρ) H) :
    Ct X f σ H (fun b H1=>∃ ρ,Sl H1 σ ρ/\aM H H1/\T (k ρ b) H1):=by
  obtain ⟨ρ,sl,q⟩:=h;refine ⟨ρ,sl,?_⟩;cases e:f ρ with
  | ok d=>rw [e] at q;exact fun H1 s=>⟨ρ,sl.mono s,s,t.mono _ _ _ q s⟩
  | ex c=>rw [e] at q;exact t.ex _ _ q
  | no=>rw [e] at q;exact (t.no _ q).elim
theorem jk {β:Type} {T:R β->Hp->Prop} (t:DK X T) {I:Hp->PyData->V->Prop} {f:aT->R (List PyData)} {k:aT->List PyData->R β} (h:∃ ρ,Sl H σ ρ/\T (f ρ>>=k ρ) H) :
    Az X I f σ H (fun vs H1=>∃ ρ ds,Sl H1 σ ρ/\aM H H1/\RA I H1 ds vs/\T (k ρ ds) H1):=by
  obtain ⟨ρ,sl,q⟩:=h;refine ⟨ρ,sl,?_⟩;cases e:f ρ with
  | ok d=>rw [e] at q;exact fun vs H1 s p=>⟨ρ,d,sl.mono s,s,p,t.mono _ _ _ q s⟩
  | ex c=>rw [e] at q;exact t.ex _ _ q
  | no=>rw [e] at q;exact (t.no _ q).elim
end
noncomputable def af (i:Nat):Fe:=fun ρ=>match ρ[i]? with
  | some (.val d)=>.ok d
  | _=>.no
noncomputable def gI (i:Nat):Fe:=fun ρ=>match ρ[i]? with
  | some (.val d)=>.ok d
  | some (.own d)=>.ok d
  | _=>.no
noncomputable def eC (d:PyData):Fe:=fun _=>.ok d
structure Tb (X:Cx) (nl:Nat) (G:List Str):Prop where
  hu:X.A.units+64 < cLine
  calm:X.calm=true
  nd:X.N.Nodup
  vis:∀ x∈X.N,DL X.env.scope x/\(x==("__debug__" : Str))=false/\(x==("__classdict__" : Str))=false
  loc:∀ x∈X.N.take nl,CT X.env.scope x/\(X.fn x=true\/X.env.scope.names.lookup x=some .local)
  gl:∀ x∈G,Gl X x/\(x==("__debug__" : Str))=false/\x≠("__name__" : Str)
section
variable {X:Cx} {nl:Nat} {G:List Str} {x:Str} {pos:Pos}
theorem Sl.at {H:Hp} {σ:St} {ρ:aT} {i:Nat} {c:br} (h:Sl H σ ρ) (e:ρ[i]?=some c):∃ o,σ[i]?=some o/\i8 H c o:=by
  have hi:i < σ.length:=by rw [h.1];exact (List.getElem?_eq_some_iff.mp e).1
  exact ⟨σ[i],List.getElem?_eq_getElem hi,h.2 i c _ e (List.getElem?_eq_getElem hi)⟩
theorem aa (T:Tb X nl G) (i:Nat) (hN:X.N[i]?=some x):Z.cL X (.Name x pos) (af i):=⟨by
  have hm:=T.vis x (List.mem_of_getElem? hN);refine PE.imp (mh hN hm.1 hm.2.1 hm.2.2) fun σ H Q zq0=>?_
  obtain ⟨ρ,sl,q⟩:=zq0;unfold af at q;split at q
  · rename_i d e;obtain ⟨o,h1,v,rfl,h2⟩:=sl.at e;exact ⟨v,h1,q v H (aM.refl H) h2⟩
  · exact q.elim⟩
theorem fx (T:Tb X nl G) (i:Nat) (hN:X.N[i]?=some x):Z.dL X (.Name x pos) (gI i):=⟨by
  have hm:=T.vis x (List.mem_of_getElem? hN);refine PE.imp (mh hN hm.1 hm.2.1 hm.2.2) fun σ H Q zq0=>?_
  obtain ⟨ρ,sl,q⟩:=zq0;unfold gI at q;split at q
  · rename_i d e;obtain ⟨o,h1,v,rfl,h2⟩:=sl.at e;exact ⟨v,h1,q v H (aM.refl H) (.inl h2)⟩
  · rename_i d e;obtain ⟨o,h1,v,rfl,h2⟩:=sl.at e;exact ⟨v,h1,q v H (aM.refl H) (.inr h2)⟩
  · exact q.elim⟩
theorem oF {e:Expr} {d:PyData} {v:V} (h:PE X e (tC v)) (r:∀ H,Rp H d v):cL X e (eC d) :=
  PE.imp h fun σ H Q ⟨ρ,sl,q⟩=>q v H (aM.refl H) (r H)
theorem ak {i j}:Z.cL X (.Constant (.int i) j pos) (eC (.int i)):=⟨oF Eu fun H=>by simp only [Rp]⟩
theorem hV {b j}:Z.cL X (.Constant (.bool b) j pos) (eC (.bool b)):=⟨oF Gm fun H=>by simp only [Rp]⟩
theorem dI {j}:Z.cL X (.Constant .none j pos) (eC .none):=⟨oF Ew fun H=>by simp only [Rp]⟩
theorem nZ {y j}:Z.cL X (.Constant (.str y) j pos) (eC (.str y)):=⟨oF Ez fun H=>by simp only [Rp]⟩
theorem bW {i:Int} {t:Tok} (T:Tb X nl G) (j:Nat) (hG:G[j]?=some x) (hm:X.mg x=some (.int i t)):Z.cL X (.Name x pos) (eC (.int i)):=⟨by
  have g:=T.gl x (List.mem_of_getElem? hG);exact oF (Cf g.1 hm (v:=.int i) ⟨t,rfl⟩ g.2.1) fun H=>by simp only [Rp]⟩
end
section
variable {X:Cx} {a b c:Expr} {fa fb fc:Fe} {pos:Pos}
noncomputable def e2 (g:PyData->PyData->R PyData) (fa fb:Fe):Fe:=fun ρ=>fa ρ>>=fun x=>fb ρ>>=fun y=>g x y
noncomputable def e1 (g:PyData->R PyData) (fa:Fe):Fe:=fun ρ=>fa ρ>>=fun x=>g x
noncomputable def cA (X:Cx) (P:Hp->Hp->PyData->V->Prop) (r:R2) (g:PyData->PyData->R PyData):Prop :=
  ∀ H x y dx dy Q,gS H dx x->gS H dy y->uc X P (g dx dy) H Q->r x y H Q
theorem two {P:Hp->Hp->PyData->V->Prop} {r:R2} {g:PyData->PyData->R PyData} (hP:Dn P) (hg:cA X P r g) (σ:St) (H:Hp) (Q:VK) (h:jQ X P (e2 g fa fb) σ H Q) :
    G5 r (jQ X uG fa) (jQ X uG fb) σ H Q :=
  (eT (P:=uG) (eL (X:=X) hP Q) h).post fun v H1 ⟨ρ1,d1,sl1,_,p1,q1⟩ =>
    (eT (P:=uG) (f:=fb) (k:=fun _ y=>g d1 y) (eL (X:=X) hP Q) ⟨ρ1,sl1,q1⟩).post fun u H2 ⟨_,d2,_,s2,p2,q2⟩=>hg H2 v u d1 d2 Q (gS.mono p1 s2) p2 q2
theorem oE {op:Operator} {P:Hp->Hp->PyData->V->Prop} {r:R2} {g:PyData->PyData->R PyData} (hP:Dn P) (ho:i7 X (binaryOp op) r) (hg:cA X P r g) (ha:dL X a fa) (hb:dL X b fb) :
    PE X (.BinOp a op b pos) (jQ X P (e2 g fa fb)):=PE.imp (Go ho ha hb) (two hP hg)
theorem zy {op:CmpOp} {r:R2} {g:PyData->PyData->R PyData} (ho:i7 X (compareOp op) r) (hg:cA X hJ r g) (ha:dL X a fa) (hb:dL X b fb) (hm:behindInMarks op b=false) :
    cL X (.Compare a [op] [b] pos) (e2 g fa fb):=PE.imp (Cc ho ha hb hm) (two eO hg)
end
noncomputable def tu:PyData->R Bool
  | .bool b=>.ok b
  | _=>.no
noncomputable def tE (f:Fe):aT->R Bool:=fun ρ=>f ρ>>=tu
theorem wI {X:Cx} {f:Fe} {σ:St} {H:Hp} {Q:Bool->Hp->Prop} (h:Ct X (tE f) σ H Q):jQ X hJ f σ H (fun x H'=>∃ k,x=.bl k/\Q k H') :=
  (eT (P:=hJ) (f:=f) (k:=fun _=>tu) (wQ (X:=X) Q) h).post fun v H1 ⟨ρ1,d1,_,_,p1,q1⟩=>by
    cases d1 with
    | bool b =>
      have p2:v=.bl b:=by simpa only [Rp] using p1
      exact ⟨b,p2,q1 H1 (aM.refl _)⟩
    | _=>exact q1.elim
section
variable {X:Cx} {a b c:Expr} {fa fb fc:Fe} {pos:Pos}
theorem gg {op:CmpOp} {r:R2} {g:PyData->PyData->R PyData} (ho:i7 X (compareOp op) r) (hg:cA X hJ r g) (ha:dL X a fa) (hb:dL X b fb) (hm:behindInMarks op b=false) :
    nc X (.Compare a [op] [b] pos) (tE (e2 g fa fb)) :=
  PT.imp (Cn ho ha hb hm) fun σ H Q h=>two eO hg σ H _ (wI h)
theorem h7 {e:Expr} {f:Fe} (h:Z.cL X e f) (he:∀ whole,isTrue e X.env whole=(do let v <- whole;standAt e.pos;holding [v] (truthy v)):=by intro _;rfl):Z.nc X e (tE f):=⟨have h:=h.un;PT.imp (EJ h he) fun σ H Q h=>wI h⟩
noncomputable def pB (f g:aT->R Bool):aT->R Bool:=fun ρ=>f ρ>>=fun b=>if b=true then g ρ else .ok false
noncomputable def E7 (f g:aT->R Bool):aT->R Bool:=fun ρ=>f ρ>>=fun b=>if b=true then .ok true else g ρ
noncomputable def pC (f:aT->R Bool):aT->R Bool:=fun ρ=>f ρ>>=fun b=>.ok (!b)
variable {ga gb:aT->R Bool} {fE:List Expr}
theorem n9 (ha:Z.nc X a ga):Z.yE X (.BoolOp .And [a] pos) ga:=⟨have ha:=ha.un;pw_and1 ha⟩
theorem xc (ha:Z.nc X a ga):Z.yE X (.BoolOp .Or [a] pos) ga:=⟨have ha:=ha.un;pw_or1 ha⟩
theorem qa (ha:Z.nc X a ga) (hb:Z.yE X (.BoolOp .And (b::fE) pos) gb):Z.yE X (.BoolOp .And (a::b::fE) pos) (pB ga gb):=⟨have ha:=ha.un;have hb:=hb.un;PW.imp (pw_and ha hb) fun σ H Q h=>(rD (f:=ga) (k:=fun ρ b=>if b=true then gb ρ else .ok false) (wQ (X:=X) Q) h).post fun d H1 ⟨ρ1,sl1,_,q1⟩=>by
    cases d with
    | true=>exact ⟨ρ1,sl1,q1⟩
    | false=>exact q1 H1 (aM.refl _)⟩
theorem yZ (ha:Z.nc X a ga) (hb:Z.yE X (.BoolOp .Or (b::fE) pos) gb):Z.yE X (.BoolOp .Or (a::b::fE) pos) (E7 ga gb):=⟨have ha:=ha.un;have hb:=hb.un;PW.imp (pw_or ha hb) fun σ H Q h=>(rD (f:=ga) (k:=fun ρ b=>if b=true then .ok true else gb ρ) (wQ (X:=X) Q) h).post fun d H1 ⟨ρ1,sl1,_,q1⟩=>by
    cases d with
    | false=>exact ⟨ρ1,sl1,q1⟩
    | true=>exact q1 H1 (aM.refl _)⟩
theorem yE.t {e:Expr} (h:yE X e ga):nc X e ga:=PW.pt h
theorem rn {e:Expr} (h:Z.yE X e ga):Z.nc X e ga :=
  ⟨D2.yE.t h.un⟩
theorem jH (ha:Z.nc X a ga):Z.nc X (.UnaryOp .Not a pos) (pC ga):=⟨have ha:=ha.un;PT.imp (EI ha) fun σ H Q h=>(rD (f:=ga) (k:=fun _ b=>.ok (!b)) (wQ (X:=X) Q) h).post fun d H1 ⟨ρ1,sl1,_,q1⟩=>q1 H1 (aM.refl _)⟩
noncomputable def zr (f g:Fe):Fe:=fun ρ=>f ρ>>=fun d=>tu d>>=fun b=>if b=true then g ρ else .ok (.bool false)
noncomputable def Js (f g:Fe):Fe:=fun ρ=>f ρ>>=fun d=>tu d>>=fun b=>if b=true then .ok (.bool true) else g ρ
noncomputable def D3 (f:Fe):Fe:=fun ρ=>f ρ>>=fun d=>tu d>>=fun b=>.ok (.bool (!b))
theorem wH {k:aT->Bool->R PyData} {f:Fe} {σ:St} {H:Hp} {Q:VK} (h:jQ X hJ (fun ρ=>f ρ>>=fun d=>tu d>>=fun b=>k ρ b) σ H Q) :
    jQ X hJ f σ H (fun x H'=>∃ c,x=.bl c/\jQ X hJ (fun ρ=>k ρ c) σ H' Q) :=
  (eT (P:=hJ) (f:=f) (k:=fun ρ d=>tu d>>=fun b=>k ρ b) (eL (X:=X) eO Q) h).post fun v H1 ⟨ρ1,d1,sl1,_,p1,q1⟩=>by
    cases d1 with
    | bool b =>
      have p2:v=.bl b:=by simpa only [Rp] using p1
      exact ⟨b,p2,ρ1,sl1,q1⟩
    | _=>exact q1.elim
theorem nY {op} (h:Z.cL X a fa):Z.cL X (.BoolOp op [a] pos) fa:=⟨have h:=h.un;Ey h⟩
theorem nW (ha:Z.cL X a fa) (hb:Z.cL X (.BoolOp .And (b::fE) pos) fb):Z.cL X (.BoolOp .And (a::b::fE) pos) (zr fa fb):=⟨have ha:=ha.un;have hb:=hb.un;PE.imp (Et ha hb) fun σ H Q h=>(wH (k:=fun ρ b=>if b=true then fb ρ else .ok (.bool false)) h).post fun v H1 ⟨c,e1,q1⟩=>by
    refine ⟨c,e1,?_⟩;cases c with
    | true=>exact q1
    | false =>
      obtain ⟨_,_,q2⟩:=q1;exact q2 _ H1 (aM.refl _) (by simp only [Rp])⟩
theorem yW (ha:Z.cL X a fa):Z.cL X (.UnaryOp .Not a pos) (D3 fa):=⟨have ha:=ha.un;PE.imp (Ex ha) fun σ H Q h=>(wH (k:=fun ρ b=>.ok (.bool (!b))) h).post fun v H1 ⟨c,e1,_,_,q2⟩=>⟨c,e1,q2 _ H1 (aM.refl _) (by simp only [Rp])⟩⟩
noncomputable def Da (t:aT->R Bool) (f g:Fe):Fe:=fun ρ=>t ρ>>=fun b=>if b=true then f ρ else g ρ
theorem kj {e:Expr} (hc:Z.nc X e ga) (ha:Z.cL X a fa) (hb:Z.cL X b fb):Z.cL X (.IfExp e a b pos) (Da ga fa fb):=⟨have hc:=hc.un;have ha:=ha.un;have hb:=hb.un;PE.imp (An hc ha hb) fun σ H Q h=>(rD (f:=ga) (k:=fun ρ b=>if b=true then fa ρ else fb ρ) (eL (X:=X) eO Q) h).post fun d H1 ⟨ρ1,sl1,_,q1⟩=>by
    cases d with
    | true=>exact ⟨ρ1,sl1,q1⟩
    | false=>exact ⟨ρ1,sl1,q1⟩⟩
end
noncomputable def bc:Expr->Bool
  | .Starred ..=>false
  | _=>true
theorem bA {e:Expr} {es:List Expr} {env:Env} (h:bc e=true):starEach (e::es) env=(false,eval e env)::starEach es env:=by
  cases e <;> first | rfl | (cases h)
theorem pr {es:List Expr} {env:Env} {pos:Pos} (h:es.all bc=true):(backTo pos (starEach es env)).any (·.1)=false:=by
  induction es with
  | nil=>rfl
  | cons e es ih =>
    rw [List.all_cons,Bool.and_eq_true] at h;rw [bA h.1];have:=ih h.2;simpa [backTo] using this
noncomputable def aG:aT->R (List PyData):=fun _=>.ok []
noncomputable def ah (f:Fe) (g:aT->R (List PyData)):aT->R (List PyData):=fun ρ=>f ρ>>=fun d=>g ρ>>=fun ds=>.ok (d::ds)
section
variable {X:Cx} {e:Expr} {es:List Expr} {f:Fe} {g:aT->R (List PyData)}
theorem wa {I:Hp->PyData->V->Prop}:PA X [] (Az X I aG):=PA.imp Ak fun σ H Q ⟨ρ,sl,q⟩=>q [] H (aM.refl _) (by simp only [RA])
theorem jo:uD X [] aG:=wa
theorem ap  : Z.uD X [] aG :=
  ⟨D2.jo⟩
theorem rQ:DE X [] aG:=wa
theorem tK {I:Hp->PyData->V->Prop} (hI:∀ H H' d v,I H d v->aM H H'->I H' d v) (ha:PE X e (jQ X (fun _ H' d v=>I H' d v) f)) (hr:PA X es (Az X I g))
    (hs:starEach (e::es) X.env=(false,eval e X.env)::starEach es X.env:=by rfl):PA X (e::es) (Az X I (ah f g)) :=
  PA.imp (sg ha hr hs) fun σ H Q h =>
    (eT (P:=fun _ H' d v=>I H' d v) (f:=f) (k:=fun ρ d=>g ρ>>=fun ds=>.ok (d::ds)) (DA (X:=X) I Q) h).post fun v H1 ⟨ρ1,d1,sl1,_,p1,q1⟩ =>
      (jk (I:=I) (f:=g) (k:=fun _ ds=>.ok (d1::ds)) (DA (X:=X) I Q) ⟨ρ1,sl1,q1⟩).post fun vs H2 ⟨_,ds1,_,s2,p3,q3⟩ =>
        q3 (v::vs) H2 (aM.refl _) (by simp only [RA];exact ⟨v,vs,rfl,hI _ _ _ _ p1 s2,p3⟩)
theorem gf (ha:cL X e f) (hr:uD X es g) (hs:bc e=true:=by rfl):uD X (e::es) (ah f g):=tK (fun _ _ _ _ h s=>h.mono s) ha hr (bA hs)
theorem ag (ha:Z.cL X e f) (hr:Z.uD X es g) (hs:bc e=true:=by rfl):Z.uD X (e::es) (ah f g) :=
  ⟨D2.gf ha.un hr.un hs⟩
theorem k9 (ha:dL X e f) (hr:DE X es g) (hs:bc e=true:=by rfl):DE X (e::es) (ah f g):=tK (fun _ _ _ _ h s=>h.mono s) ha hr (bA hs)
end
section
variable {K:PySem.W.Frag} {H:Hp} {x:V}
theorem kX (h:gS H .none x):x=.non:=by
  rcases h with h | h
  · simpa only [Rp] using h
  · simp only [iZ] at h
theorem ou {b:Bool} (h:gS H (.bool b) x):x=.bl b:=by
  rcases h with h | h
  · simpa only [Rp] using h
  · simp only [iZ] at h
theorem cj {i:Int} (h:gS H (.int i) x):x=.int i:=by
  rcases h with h | h
  · simpa only [Rp] using h
  · simp only [iZ] at h
theorem iA {y:Str} (h:gS H (.str y) x):x=.str y:=by
  rcases h with h | h
  · simpa only [Rp] using h
  · simp only [iZ] at h
theorem cR {ds:List PyData} (h:gS H (.tuple ds) x):∃ a vs,x=.ref a/\H a=some (.tup vs)/\bK H ds vs:=by
  rcases h with h | h
  · simpa only [Rp] using h
  · simp only [iZ] at h
theorem dE {ds:List PyData} (h:gS H (.list ds) x):∃ a vs,x=.ref a/\mB K H a vs/\bK H ds vs:=by
  rcases h with h | h
  · simp only [Rp] at h;obtain ⟨a,o,vs,e,ha,r⟩:=h;exact ⟨a,vs,e,.inl (.inr ⟨o,ha⟩),r⟩
  · simp only [iZ] at h;obtain ⟨a,vs,e,ha,r⟩:=h;exact ⟨a,vs,e,.inl (.inl ha),r⟩
theorem Cu {C:Addr} {fs:List (Str×V)} {kvs:List (PyData×PyData)} (h:yF H C fs kvs):mG kvs=true:=by
  cases kvs with
  | nil=>simp only [yF] at h
  | cons kd kvs=>simp only [yF] at h;rw [h.1];rfl
theorem zd {kvs:List (PyData×PyData)} (h:gS H (.dict kvs) x):∃ a,x=.ref a:=by
  rcases h with h | h
  · simp only [Rp] at h;rcases h with ⟨a,o,vs,e,_⟩ | ⟨a,o,C,dx,fs,e,_⟩
    · exact ⟨a,e⟩
    · exact ⟨a,e⟩
  · simp only [iZ] at h;obtain ⟨a,vs,e,_⟩:=h;exact ⟨a,e⟩
theorem kW {kvs:List (PyData×PyData)} (hi:mG kvs=false) (h:gS H (.dict kvs) x):∃ a ks,x=.ref a/\Rd H a (.dK ks)/\ej H kvs ks:=by
  rcases h with h | h
  · simp only [Rp] at h;rcases h with ⟨a,o,vs,e,ha,r⟩ | ⟨a,o,C,dx,fs,e,ha,r⟩
    · exact ⟨a,vs,e,.inr ⟨o,ha⟩,r⟩
    · rw [Cu r] at hi;cases hi
  · simp only [iZ] at h;obtain ⟨a,vs,e,ha,r⟩:=h;exact ⟨a,vs,e,.inl ha,r⟩
end
theorem bK.nil {H:Hp}:bK H [] []:=by simp only [bK]
theorem bK.cons {H:Hp} {d:PyData} {ds:List PyData} {v:V} {vs:List V} (h:Rp H d v) (t:bK H ds vs):bK H (d::ds) (v::vs):=by simp only [bK];exact ⟨v,vs,rfl,h,t⟩
theorem bK.nil_inv {H:Hp} {vs:List V} (h:bK H [] vs):vs=[]:=by simpa only [bK] using h
theorem bK.cons_inv {H:Hp} {d:PyData} {ds:List PyData} {vs:List V} (h:bK H (d::ds) vs):∃ v r,vs=v::r/\Rp H d v/\bK H ds r:=by simpa only [bK] using h
theorem bK.length {H:Hp}:∀ {ds:List PyData} {vs:List V},bK H ds vs->vs.length=ds.length
  | [],vs,h=>by rw [h.nil_inv];rfl
  | d::ds,vs,h=>by
    obtain ⟨v,r,rfl,_,t⟩:=h.cons_inv;rw [List.length_cons,List.length_cons,bK.length t]
theorem bK.get {H:Hp}:∀ {ds:List PyData} {vs:List V} {i:Nat} {d:PyData},bK H ds vs->ds[i]?=some d->∃ v,vs[i]?=some v/\Rp H d v
  | [],vs,i,d,h,e=>by simp at e
  | d0::ds,vs,0,d,h,e=>by
    obtain ⟨v,r,rfl,p,_⟩:=h.cons_inv;simp at e;subst e;exact ⟨v,rfl,p⟩
  | d0::ds,vs,i+1,d,h,e=>by
    obtain ⟨v,r,rfl,_,t⟩:=h.cons_inv;obtain ⟨u,e1,p⟩:=bK.get (i:=i) t (by simpa using e);exact ⟨u,by simpa using e1,p⟩
theorem bK.append {H:Hp}:∀ {ds es:List PyData} {vs us:List V},bK H ds vs->bK H es us->bK H (ds++es) (vs++us)
  | [],es,vs,us,h,g=>by rw [h.nil_inv];exact g
  | d::ds,es,vs,us,h,g=>by
    obtain ⟨v,r,rfl,p,t⟩:=h.cons_inv;exact bK.cons p (bK.append t g)
theorem bK.take {H:Hp}:∀ {ds:List PyData} {vs:List V} (n:Nat),bK H ds vs->bK H (ds.take n) (vs.take n)
  | ds,vs,0,h=>by simp only [List.take_zero];exact bK.nil
  | [],vs,n+1,h=>by rw [h.nil_inv];exact bK.nil
  | d::ds,vs,n+1,h=>by
    obtain ⟨v,r,rfl,p,t⟩:=h.cons_inv;exact bK.cons p (bK.take n t)
theorem bK.drop {H:Hp}:∀ {ds:List PyData} {vs:List V} (n:Nat),bK H ds vs->bK H (ds.drop n) (vs.drop n)
  | ds,vs,0,h=>h
  | [],vs,n+1,h=>by rw [h.nil_inv];exact bK.nil
  | d::ds,vs,n+1,h=>by
    obtain ⟨v,r,rfl,p,t⟩:=h.cons_inv;exact bK.drop n t
theorem bK.reverse {H:Hp}:∀ {ds:List PyData} {vs:List V},bK H ds vs->bK H ds.reverse vs.reverse
  | [],vs,h=>by rw [h.nil_inv];exact bK.nil
  | d::ds,vs,h=>by
    obtain ⟨v,r,rfl,p,t⟩:=h.cons_inv;rw [List.reverse_cons,List.reverse_cons];exact bK.append (bK.reverse t) (bK.cons p bK.nil)
theorem bK.rep {H:Hp} {ds:List PyData} {vs:List V} (h:bK H ds vs):∀ k:Nat,bK H (List.replicate k ds).flatten (List.replicate k vs).flatten
  | 0=>bK.nil
  | k+1=>by rw [List.replicate_succ,List.replicate_succ,List.flatten_cons,List.flatten_cons];exact bK.append h (bK.rep h k)
theorem bK.ints {H:Hp}:∀ ns:List Int,bK H (ns.map PyData.int) (ns.map V.int)
  | []=>bK.nil
  | n::ns=>bK.cons (by simp only [Rp]) (bK.ints ns)
theorem cB {H:Hp} {p:Addr} (h:H p=none) (o:HO):aM H (cI H p o):=fun b u q=>by rw [aA (ba q h)];exact q
theorem eI {H:Hp} {p:Addr} {ds:List PyData} {vs:List V} (h:H p=none) (r:bK H ds vs):Rp (cI H p (.tup vs)) (.tuple ds) (.ref p):=by
  simp only [Rp];exact ⟨p,vs,rfl,bq,r.mono (cB h _)⟩
theorem dw {H:Hp} {p:Addr} {ds:List PyData} {vs:List V} (h:H p=none) (r:bK H ds vs):DG H (cI H p (.lst vs)) (.list ds) (.ref p):=by
  refine ⟨?_,p,rfl,h⟩;simp only [iZ];exact ⟨p,vs,rfl,bq,r.mono (cB h _)⟩
section
variable {P:Program} {w:World} {H:Hp} {h:Heap}
mutual
theorem ud (ok:hR P w H h):∀ (d:PyData) (v:V) (u:Value),d.canLay0=true->Rp H d v->ca v u->∃ as,Reads h u d as
  | .none,v,u,_,r,e=>by simp only [Rp] at r;subst r;cases e;exact ⟨_,.none⟩
  | .bool b,v,u,_,r,e=>by simp only [Rp] at r;subst r;cases e;exact ⟨_,.bool b⟩
  | .int i,v,u,_,r,e=>by simp only [Rp] at r;subst r;obtain ⟨t,rfl⟩:=e;exact ⟨_,.int i t⟩
  | .str x,v,u,_,r,e=>by simp only [Rp] at r;subst r;obtain ⟨t,rfl⟩:=e;exact ⟨_,.str x t⟩
  | .tuple ds,v,u,c,r,e=>by
    simp only [Rp] at r;obtain ⟨a,vs,rfl,ha,r⟩:=r;cases e;obtain ⟨_,its,rv,o,h1,h2,⟨n,h3⟩,_⟩:=(show cb P w H h a (.tup vs) from ok a _ ha)
    obtain ⟨as,q⟩:=gM ok ds vs its (by simpa only [PyData.canLay0] using c) r rv;exact ⟨as,.tuple h1 h2 h3 (by simpa using q)⟩
  | .list ds,v,u,c,r,e=>by
    simp only [Rp] at r;obtain ⟨a,ob,vs,rfl,ha,r⟩:=r;cases e;obtain ⟨_,_,its,n,rv,h1⟩:=(show cb P w H h a (.frz ob (.lst vs)) from ok a _ ha)
    obtain ⟨as,q⟩:=gM ok ds vs its (by simpa only [PyData.canLay0] using c) r rv;exact ⟨a::as,.list h1 rfl rfl (by simpa using q)⟩
  | .dict kvs,v,u,c,r,e=>by simp [PyData.canLay0] at c
theorem gM (ok:hR P w H h):∀ (ds:List PyData) (vs:List V) (us:List Value),PyData.canLayAll0 ds=true->bK H ds vs->bH vs us->∃ as,ReadsAll h us ds as
  | [],vs,us,_,r,e=>by rw [r.nil_inv] at e;cases e;exact ⟨_,.nil⟩
  | d::ds,vs,us,c,r,e=>by
    obtain ⟨v,r',rfl,p,t⟩:=r.cons_inv;have c':d.canLay0=true/\PyData.canLayAll0 ds=true:=by simpa [PyData.canLayAll0] using c
    cases e with
    | cons e1 e2 =>
      obtain ⟨as,q1⟩:=ud ok d v _ c'.1 p e1;obtain ⟨bs,q2⟩:=gM ok ds r' _ c'.2 t e2;exact ⟨as++bs,.cons q1 q2⟩
end
theorem cT (ok:hR P w H h) {d:PyData} {v:V} {u:Value} (c:d.canLay0=true) (r:gS H d v) (e:ca v u):∃ as,Reads h u d as:=by
  rcases r with r | r
  · exact ud ok d v u c r e
  · cases d <;> simp only [iZ] at r
    · rename_i ds;obtain ⟨a,vs,rfl,ha,r⟩:=r;cases e;obtain ⟨_,its,n,rv,h1⟩:=(show cb P w H h a (.lst vs) from ok a _ ha)
      obtain ⟨as,q⟩:=gM ok ds vs its (by simpa only [PyData.canLay0] using c) r rv;exact ⟨a::as,.list h1 rfl rfl (by simpa using q)⟩
    · simp [PyData.canLay0] at c
end
noncomputable def ia:PyData->Option di
  | .int i=>some (.inl i)
  | .str y=>some (.inr y)
  | _=>none
noncomputable def gK:PyData->PyData->Bool
  | .int i,.int j=>decide (i=j)
  | .str i,.str j=>decide (i=j)
  | _,_=>false
noncomputable def vp (kvs:List (PyData×PyData)) (k v:PyData):List (PyData×PyData) :=
  if (kvs.any fun kv=>gK kv.1 k)=true then kvs.map (fun kv=>if gK kv.1 k=true then (kv.1,v) else kv) else kvs++[(k,v)]
theorem jM (κ κ':di):gK (fW κ) (fW κ')=decide (κ=κ'):=by
  cases κ with
  | inl i =>
    cases κ' with
    | inl j=>simp [fW,gK]
    | inr j=>simp [fW,gK]
  | inr i =>
    cases κ' with
    | inl j=>simp [fW,gK]
    | inr j=>simp [fW,gK]
theorem ej.cons {H:Hp} {k d:PyData} {kvs:List (PyData×PyData)} {κ:di} {v:V} {ks:List (di×V)} (e:k=fW κ) (h:Rp H d v) (t:ej H kvs ks):ej H ((k,d)::kvs) ((κ,v)::ks):=by
  simp only [ej,A5];exact ⟨κ,v,ks,rfl,⟨e,h⟩,t⟩
theorem ej.cons_inv {H:Hp} {k d:PyData} {kvs:List (PyData×PyData)} {ks:List (di×V)} (h:ej H ((k,d)::kvs) ks):∃ κ v r,ks=(κ,v)::r/\k=fW κ/\Rp H d v/\ej H kvs r:=by
  simp only [ej,A5] at h;obtain ⟨κ,v,r,e,⟨e1,p⟩,t⟩:=h;exact ⟨κ,v,r,e,e1,p,t⟩
theorem ej.nil_inv {H:Hp} {ks:List (di×V)} (h:ej H [] ks):ks=[]:=by simpa only [ej] using h
theorem ej.any {H:Hp} (κ:di):∀ {kvs:List (PyData×PyData)} {ks:List (di×V)},ej H kvs ks->(kvs.any fun kv=>gK kv.1 (fW κ))=ks.any fun kv=>decide (kv.1=κ)
  | [],ks,h=>by rw [h.nil_inv];rfl
  | (k,d)::kvs,ks,h=>by
    obtain ⟨κ',v,r,rfl,rfl,p,t⟩:=h.cons_inv;rw [List.any_cons,List.any_cons,ej.any κ t,jM]
theorem ej.repl {H:Hp} (κ:di) {d:PyData} {v:V} (hv:Rp H d v):∀ {kvs:List (PyData×PyData)} {ks:List (di×V)},ej H kvs ks ->
    ej H (kvs.map fun kv=>if gK kv.1 (fW κ)=true then (kv.1,d) else kv) (ks.map fun kv=>if kv.1=κ then (kv.1,v) else kv)
  | [],ks,h=>by rw [h.nil_inv];simp only [List.map_nil,ej]
  | (k,d')::kvs,ks,h=>by
    obtain ⟨κ',v',r,rfl,rfl,p,t⟩:=h.cons_inv;rw [List.map_cons,List.map_cons];dsimp only;rw [jM];by_cases e:κ'=κ
    · rw [if_pos (decide_eq_true e),if_pos e];exact ej.cons rfl hv (ej.repl κ hv t)
    · rw [if_neg (by rw [decide_eq_false e];exact Bool.false_ne_true),if_neg e];exact ej.cons rfl p (ej.repl κ hv t)
theorem ej.snoc {H:Hp} {κ:di} {d:PyData} {v:V} (hv:Rp H d v):∀ {kvs:List (PyData×PyData)} {ks:List (di×V)},ej H kvs ks->ej H (kvs++[(fW κ,d)]) (ks++[(κ,v)])
  | [],ks,h=>by rw [h.nil_inv];exact ej.cons rfl hv (by simp only [ej])
  | (k,d')::kvs,ks,h=>by
    obtain ⟨κ',v',r,rfl,rfl,p,t⟩:=h.cons_inv;exact ej.cons rfl p (ej.snoc hv t)
theorem ej.put {H:Hp} (κ:di) {d:PyData} {v:V} (hv:Rp H d v) {kvs:List (PyData×PyData)} {ks:List (di×V)} (h:ej H kvs ks):ej H (vp kvs (fW κ) d) (lw ks κ v):=by
  unfold vp lw;rw [h.any κ];split
  · exact h.repl κ hv
  · exact h.snoc hv
noncomputable def mJ (kvs:List (PyData×PyData)) (k:PyData):Option PyData:=(kvs.find? fun kv=>gK kv.1 k).map (·.2)
theorem ej.look {H:Hp} (κ:di):∀ {kvs:List (PyData×PyData)} {ks:List (di×V)},ej H kvs ks->(mJ kvs (fW κ)=none/\j6 ks κ=none)\/∃ d v,mJ kvs (fW κ)=some d/\j6 ks κ=some v/\Rp H d v
  | [],ks,h=>.inl (by rw [h.nil_inv];exact ⟨rfl,rfl⟩)
  | (k,d)::kvs,ks,h=>by
    obtain ⟨κ',v,r,rfl,rfl,p,t⟩:=h.cons_inv;unfold mJ j6;by_cases e:κ'=κ
    · rw [List.find?_cons_of_pos (by rw [jM];exact decide_eq_true e),List.find?_cons_of_pos (by exact decide_eq_true e)];exact .inr ⟨d,v,rfl,rfl,p⟩
    · rw [List.find?_cons_of_neg (by rw [jM,decide_eq_false e];exact Bool.false_ne_true),List.find?_cons_of_neg (by rw [decide_eq_false e];exact Bool.false_ne_true)];exact ej.look κ t
theorem tQ {d:PyData} {κ:di} (h:ia d=some κ):d=fW κ:=by
  cases d <;> simp only [ia] at h <;> cases h <;> rfl
theorem vX {H:Hp} {d:PyData} {x:V} {κ:di} (h:gS H d x) (e:ia d=some κ):x=kV κ:=by
  cases d <;> simp only [ia] at e <;> cases e
  · exact cj h
  · exact iA h
theorem v7 {H:Hp} {a:Addr} {kvs:List (PyData×PyData)} {ks:List (di×V)} {κ:di} (h:Rd H a (.dK ks)) (r:ej H kvs ks):∃ o,nO H a (kV κ) o/\o.isSome=(mJ kvs (fW κ)).isSome/\∀ d,mJ kvs (fW κ)=some d->∃ v,o=some v/\Rp H d v:=by
  refine ⟨j6 ks κ,.inl ⟨ks,κ,h,rfl,rfl⟩,?_⟩;rcases r.look κ with ⟨e1,e2⟩ | ⟨d,v,e1,e2,p⟩
  · rw [e1,e2];exact ⟨rfl,fun d z=>by cases z⟩
  · rw [e1,e2];exact ⟨rfl,fun d z=>by cases z;exact ⟨v,rfl,p⟩⟩
noncomputable def nv:PyData->PyData->R PyData
  | .int i,.int j=>.ok (.int (i-j))
  | _,_=>.no
noncomputable def fy:PyData->PyData->R PyData
  | .int i,.int j=>if 0 < j then .ok (.int (i%j)) else .no
  | _,_=>.no
noncomputable def pT:PyData->PyData->R PyData
  | .int i,.int j=>if 0 < j/\j < 1073741824 then .ok (.int (i / j)) else .no
  | _,_=>.no
noncomputable def fj (p:Int->Int->Bool):PyData->PyData->R PyData
  | .int i,.int j=>.ok (.bool (p i j))
  | _,_=>.no
noncomputable def pV (x y:PyData):Bool:=x.canLay0&&y.canLay0&&decide (min x.depth y.depth<=60)
noncomputable def jK (x y:PyData):R PyData:=if pV x y=true then .ok (.bool (PyData.eqv x y)) else .no
noncomputable def ut (x y:PyData):R PyData:=if pV x y=true then .ok (.bool (!PyData.eqv x y)) else .no
noncomputable def iH:PyData->Bool
  | .none=>true
  | _=>false
noncomputable def rL (x y:PyData):R PyData:=if iH y=true then .ok (.bool (iH x)) else .no
noncomputable def mD (x y:PyData):R PyData:=if iH y=true then .ok (.bool (!iH x)) else .no
noncomputable def kz (xs:List PyData) (d:PyData):Bool:=PyData.canLayAll0 xs&&d.canLay0&&decide (min (PyData.depthAll xs) d.depth<=60)
noncomputable def uY (neg:Bool) (d:PyData):PyData->R PyData
  | .list xs=>if kz xs d=true then .ok (.bool (if neg then !(xs.any fun y=>PyData.eqv y d) else xs.any fun y=>PyData.eqv y d)) else .no
  | .tuple xs=>if kz xs d=true then .ok (.bool (if neg then !(xs.any fun y=>PyData.eqv y d) else xs.any fun y=>PyData.eqv y d)) else .no
  | .dict kvs=>if mG kvs=true then .no else match ia d with
    | some _=>.ok (.bool (if neg then !(mJ kvs d).isSome else (mJ kvs d).isSome))
    | none=>.no
  | _=>.no
section
variable {X:Cx} {a b c:Expr} {fa fb fc:Fe} {pos:Pos}
theorem de {H:Hp} {i:Int}:Rp H (.int i) (.int i):=by simp only [Rp]
theorem e9 {H:Hp} {i:Bool}:Rp H (.bool i) (.bl i):=by simp only [Rp]
theorem AD {H:Hp} {i:Str}:Rp H (.str i) (.str i):=by simp only [Rp]
theorem E4:cA X hJ (A8 fun i j=>.int (i-j)) nv:=fun H x y dx dy Q hx hy q=>by
  unfold nv at q;split at q
  · exact ⟨_,_,cj hx,cj hy,q _ H (aM.refl _) de⟩
  · exact q.elim
theorem E2:cA X hJ (rI (fun _ j=>0 < j) fun i j=>.int (i%j)) fy:=fun H x y dx dy Q hx hy q=>by
  unfold fy at q;split at q
  · split at q
    · rename_i h;exact ⟨_,_,cj hx,cj hy,h,q _ H (aM.refl _) de⟩
    · exact q.elim
  · exact q.elim
theorem E0:cA X hJ (rI Fl fun i j=>.int (i / j)) pT:=fun H x y dx dy Q hx hy q=>by
  unfold pT at q;split at q
  · split at q
    · rename_i h;exact ⟨_,_,cj hx,cj hy,h,q _ H (aM.refl _) de⟩
    · exact q.elim
  · exact q.elim
theorem mw {p:Int->Int->Bool}:cA X hJ (A8 fun i j=>.bl (p i j)) (fj p):=fun H x y dx dy Q hx hy q=>by
  unfold fj at q;split at q
  · exact ⟨_,_,cj hx,cj hy,q _ H (aM.refl _) e9⟩
  · exact q.elim
theorem ji (ha:Z.dL X a fa) (hb:Z.dL X b fb):Z.cL X (.BinOp a .Sub b pos) (e2 nv fa fb):=⟨have ha:=ha.un;have hb:=hb.un;oE eO Es E4 ha hb⟩
theorem cx (ha:Z.dL X a fa) (hb:Z.dL X b fb):Z.cL X (.BinOp a .Mod b pos) (e2 fy fa fb):=⟨have ha:=ha.un;have hb:=hb.un;oE eO Eo E2 ha hb⟩
theorem hW (ha:Z.dL X a fa) (hb:Z.dL X b fb):Z.cL X (.BinOp a .FloorDiv b pos) (e2 pT fa fb):=⟨have ha:=ha.un;have hb:=hb.un;oE eO B5 E0 ha hb⟩
noncomputable abbrev Je:Int->Int->Bool:=fun i j=>decide (i < j)
noncomputable abbrev Dl:Int->Int->Bool:=fun i j=>decide (i<=j)
noncomputable abbrev qF:Int->Int->Bool:=fun i j=>decide (j < i)
theorem vS (ha:Z.dL X a fa) (hb:Z.dL X b fb):Z.cL X (.Compare a [.Gt] [b] pos) (e2 (fj qF) fa fb):=⟨have ha:=ha.un;have hb:=hb.un;zy Dk mw ha hb (iL _)⟩
theorem yY (ha:Z.dL X a fa) (hb:Z.dL X b fb):Z.nc X (.Compare a [.Lt] [b] pos) (tE (e2 (fj Je) fa fb)):=⟨have ha:=ha.un;have hb:=hb.un;gg Gi mw ha hb (iL _)⟩
theorem yX (ha:Z.dL X a fa) (hb:Z.dL X b fb):Z.nc X (.Compare a [.LtE] [b] pos) (tE (e2 (fj Dl) fa fb)):=⟨have ha:=ha.un;have hb:=hb.un;gg Ag mw ha hb (iL _)⟩
theorem kR (ha:Z.dL X a fa) (hb:Z.dL X b fb):Z.nc X (.Compare a [.Gt] [b] pos) (tE (e2 (fj qF) fa fb)):=⟨have ha:=ha.un;have hb:=hb.un;gg Dk mw ha hb (iL _)⟩
noncomputable def Cr (X:Cx) (neg:Bool):R2:=fun x y H Q=>∃ dx dy,gS H dx x/\gS H dy y/\pV dx dy=true/\Q (.bl (if neg then !PyData.eqv dx dy else PyData.eqv dx dy)) H
theorem oB {x y:PyData} (h:pV x y=true):x.canLay0=true/\y.canLay0=true/\min x.depth y.depth<=60:=by
  unfold pV at h;rw [Bool.and_eq_true,Bool.and_eq_true,decide_eq_true_eq] at h;exact ⟨h.1.1,h.1.2,h.2⟩
theorem Af (hu:X.A.units+64 < cLine):i7 X (compareOp .Eq) (Cr X false):=by
  intro pins s σ H x y v u Q I rx ry h;obtain ⟨dx,dy,hx,hy,ho,q⟩:=h;obtain ⟨c1,c2,c3⟩:=oB ho;obtain ⟨as,r1⟩:=cT I.hok c1 hx rx;obtain ⟨bs,r2⟩:=cT I.hok c2 hy ry;exact PySem.SeqAt.compareEq_reads r1 r2 c1 c2 (by omega) ⟨.bl _,H,I,rfl,q⟩
theorem Er (hu:X.A.units+64 < cLine):i7 X (compareOp .NotEq) (Cr X true):=by
  intro pins s σ H x y v u Q I rx ry h;obtain ⟨dx,dy,hx,hy,ho,q⟩:=h;obtain ⟨c1,c2,c3⟩:=oB ho;obtain ⟨as,r1⟩:=cT I.hok c1 hx rx;obtain ⟨bs,r2⟩:=cT I.hok c2 hy ry;exact PySem.SeqAt.compareNe_reads r1 r2 c1 c2 (by omega) ⟨.bl _,H,I,rfl,q⟩
theorem Dw:cA X hJ (Cr X false) jK:=fun H x y dx dy Q hx hy q=>by
  unfold jK at q;split at q
  · rename_i h;exact ⟨dx,dy,hx,hy,h,q _ H (aM.refl _) e9⟩
  · exact q.elim
theorem GU:cA X hJ (Cr X true) ut:=fun H x y dx dy Q hx hy q=>by
  unfold ut at q;split at q
  · rename_i h;exact ⟨dx,dy,hx,hy,h,q _ H (aM.refl _) e9⟩
  · exact q.elim
theorem nD (hu:X.A.units+64 < cLine) (ha:Z.dL X a fa) (hb:Z.dL X b fb):Z.cL X (.Compare a [.Eq] [b] pos) (e2 jK fa fb):=⟨have ha:=ha.un;have hb:=hb.un;zy (Af hu) Dw ha hb (iL _)⟩
theorem ez (hu:X.A.units+64 < cLine) (ha:Z.dL X a fa) (hb:Z.dL X b fb):Z.nc X (.Compare a [.Eq] [b] pos) (tE (e2 jK fa fb)):=⟨have ha:=ha.un;have hb:=hb.un;gg (Af hu) Dw ha hb (iL _)⟩
theorem s9 (hu:X.A.units+64 < cLine) (ha:Z.dL X a fa) (hb:Z.dL X b fb):Z.nc X (.Compare a [.NotEq] [b] pos) (tE (e2 ut fa fb)):=⟨have ha:=ha.un;have hb:=hb.un;gg (Er hu) GU ha hb (iL _)⟩
theorem wx {H:Hp} {d:PyData} {x:V} (h:gS H d x):decide (x=.non)=iH d:=by
  cases d with
  | none=>rw [kX h];rfl
  | bool b=>rw [ou h];rfl
  | int i=>rw [cj h];rfl
  | str y=>rw [iA h];rfl
  | tuple ds=>obtain ⟨a,vs,rfl,_⟩:=cR h;rfl
  | list ds=>obtain ⟨a,vs,rfl,_⟩:=dE (K:=default) h;rfl
  | dict kvs=>obtain ⟨a,rfl⟩:=zd h;rfl
theorem E1:cA X hJ (fun x y H Q=>y=.non/\Q (.bl (decide (x=.non))) H) rL:=fun H x y dx dy Q hx hy q=>by
  unfold rL at q;split at q
  · rename_i h;cases dy <;> simp only [iH,Bool.false_eq_true] at h;exact ⟨kX hy,by rw [wx hx];exact q _ H (aM.refl _) e9⟩
  · exact q.elim
theorem CI:cA X hJ (fun x y H Q=>y=.non/\Q (.bl (!decide (x=.non))) H) mD:=fun H x y dx dy Q hx hy q=>by
  unfold mD at q;split at q
  · rename_i h;cases dy <;> simp only [iH,Bool.false_eq_true] at h;exact ⟨kX hy,by rw [wx hx];exact q _ H (aM.refl _) e9⟩
  · exact q.elim
theorem p9 (ha:Z.dL X a fa) (hb:Z.dL X b fb):Z.nc X (.Compare a [.Is] [b] pos) (tE (e2 rL fa fb)):=⟨have ha:=ha.un;have hb:=hb.un;gg En E1 ha hb (iL _)⟩
theorem n8 (ha:Z.dL X a fa) (hb:Z.dL X b fb):Z.nc X (.Compare a [.IsNot] [b] pos) (tE (e2 mD fa fb)):=⟨have ha:=ha.un;have hb:=hb.un;gg B6 CI ha hb (iL _)⟩
noncomputable def IA (X:Cx) (neg:Bool):R2:=fun x y H Q=>∃ d xs,gS H d x/\(gS H (.list xs) y\/gS H (.tuple xs) y)/\kz xs d=true/\Q (.bl (if neg then !(xs.any fun z=>PyData.eqv z d) else xs.any fun z=>PyData.eqv z d)) H
noncomputable def EK (X:Cx) (neg:Bool):R2:=fun x y H Q=>IA X neg x y H Q\/∃ a o,y=.ref a/\nO H a x o/\Q (.bl (if neg then !o.isSome else o.isSome)) H
theorem iF {xs:List PyData} {d:PyData} (h:kz xs d=true):PyData.canLayAll0 xs=true/\d.canLay0=true/\min (PyData.depthAll xs) d.depth<=60:=by
  unfold kz at h;rw [Bool.and_eq_true,Bool.and_eq_true,decide_eq_true_eq] at h;exact ⟨h.1.1,h.1.2,h.2⟩
theorem Em (hu:X.A.units+64 < cLine):i7 X (compareOp .In) (EK X false):=by
  intro pins s σ H x y v u Q I rx ry h;rcases h with h | ⟨a,o,rfl,g,q⟩
  case inr =>
    cases ry;exact Ie (by omega) I g rx fun s' I'=>⟨.bl _,H,I',rfl,q⟩
  obtain ⟨d,xs,hx,hy,ho,q⟩:=h;obtain ⟨c1,c2,c3⟩:=iF ho;obtain ⟨as,r1⟩:=cT I.hok c2 hx rx;rcases hy with hy | hy
  · obtain ⟨bs,r2⟩:=cT I.hok (d:=.list xs) (by simpa only [PyData.canLay0] using c1) hy ry;exact PySem.SeqAt.in_list_reads r2 r1 c1 c2 (by omega) ⟨.bl _,H,I,rfl,q⟩
  · obtain ⟨bs,r2⟩:=cT I.hok (d:=.tuple xs) (by simpa only [PyData.canLay0] using c1) hy ry;exact PySem.SeqAt.in_tuple_reads r2 r1 c1 c2 (by omega) ⟨.bl _,H,I,rfl,q⟩
theorem x6 (hu:X.A.units+64 < cLine):i7 X (compareOp .NotIn) (EK X true):=by
  intro pins s σ H x y v u Q I rx ry h;rcases h with h | ⟨a,o,rfl,g,q⟩
  case inr =>
    cases ry;exact Bx (by omega) I g rx fun s' I'=>⟨.bl _,H,I',rfl,q⟩
  obtain ⟨d,xs,hx,hy,ho,q⟩:=h;obtain ⟨c1,c2,c3⟩:=iF ho;obtain ⟨as,r1⟩:=cT I.hok c2 hx rx;rcases hy with hy | hy
  · obtain ⟨bs,r2⟩:=cT I.hok (d:=.list xs) (by simpa only [PyData.canLay0] using c1) hy ry;exact PySem.SeqAt.notIn_list_reads r2 r1 c1 c2 (by omega) ⟨.bl _,H,I,rfl,q⟩
  · obtain ⟨bs,r2⟩:=cT I.hok (d:=.tuple xs) (by simpa only [PyData.canLay0] using c1) hy ry;exact PySem.SeqAt.notIn_tuple_reads r2 r1 c1 c2 (by omega) ⟨.bl _,H,I,rfl,q⟩
theorem Dx {neg:Bool}:cA X hJ (EK X neg) (uY neg):=fun H x y dx dy Q hx hy q=>by
  unfold uY at q;split at q
  · split at q
    · rename_i h;exact .inl ⟨dx,_,hx,.inl hy,h,q _ H (aM.refl _) e9⟩
    · exact q.elim
  · split at q
    · rename_i h;exact .inl ⟨dx,_,hx,.inr hy,h,q _ H (aM.refl _) e9⟩
    · exact q.elim
  · split at q
    · exact q.elim
    rename_i hi;split at q
    · rename_i κ e;obtain ⟨a,ks,rfl,h,r⟩:=kW (Bool.not_eq_true _ ▸ hi) hy;obtain ⟨o,g,e1,_⟩:=v7 (κ:=κ) h r;rw [<- vX hx e] at g;rw [<- tQ e] at e1;exact .inr ⟨a,o,rfl,g,by rw [e1];exact q _ H (aM.refl _) e9⟩
    · exact q.elim
  · exact q.elim
theorem n6 (hu:X.A.units+64 < cLine) (ha:Z.dL X a fa) (hb:Z.dL X b fb) (hm:behindInMarks .In b=false):Z.nc X (.Compare a [.In] [b] pos) (tE (e2 (uY false) fa fb)):=⟨have ha:=ha.un;have hb:=hb.un;gg (Em hu) Dx ha hb hm⟩
theorem tf (hu:X.A.units+64 < cLine) (ha:Z.dL X a fa) (hb:Z.dL X b fb) (hm:behindInMarks .NotIn b=false):Z.nc X (.Compare a [.NotIn] [b] pos) (tE (e2 (uY true) fa fb)):=⟨have ha:=ha.un;have hb:=hb.un;gg (x6 hu) Dx ha hb hm⟩
end
inductive uF where
  | nx (ρ:aT)
  | rt (d:PyData)
  | bk (ρ:aT)
  | ct (ρ:aT)
noncomputable abbrev Fs:=aT->R uF
structure iy (Fm H:Hp) (σ:St) (ρ:aT):Prop where
  fm:aM Fm H
  sl:Sl H σ ρ
  own:∀ (i:Nat) (d:PyData) (a:Addr),ρ[i]?=some (.own d)->σ[i]?=some (some (.ref a))->Fm a=none
  apart:∀ (i j:Nat) (d e:PyData) (a:Addr),ρ[i]?=some (.own d)->ρ[j]?=some (.own e)->σ[i]?=some (some (.ref a))->σ[j]?=some (some (.ref a))->i=j
theorem iy.mono {Fm H H':Hp} {σ:St} {ρ:aT} (h:iy Fm H σ ρ) (s:aM H H'):iy Fm H' σ ρ:=⟨h.fm.trans s,h.sl.mono s,h.own,h.apart⟩
noncomputable def Cs (X:Cx) (Fm:Hp) (r:R uF) (D:sJ):Prop :=
  match r with
  | .ok (.nx ρ)=>∀ σ H,iy Fm H σ ρ->D.nx σ H
  | .ok (.rt d)=>∀ v H,aM Fm H->Rp H d v->D.rt v H
  | .ok (.bk ρ)=>∀ σ H,iy Fm H σ ρ->D.bk σ H
  | .ok (.ct ρ)=>∀ σ H,iy Fm H σ ρ->D.ct σ H
  | .ex c=>Xw X c Fm/\Fy X c Fm
  | .no=>False
noncomputable def Dq (X:Cx) (Fm:Hp) (g:Fs):TS:=fun D σ H=>∃ ρ,iy Fm H σ ρ/\Cs X Fm (g ρ) D
noncomputable def kN (X:Cx) (st:Stmt) (g:Fs):Prop:=∀ Fm,PS X st (Dq X Fm g)
structure Z.kN (X:Cx) (st:Stmt) (g:Fs):Prop where
  un:D2.kN X st g
noncomputable def lS (X:Cx) (st:List Stmt) (g:Fs):Prop:=∀ Fm,rd X st (Dq X Fm g)
structure Z.lS (X:Cx) (st:List Stmt) (g:Fs):Prop where
  un:D2.lS X st g
theorem PS.imp {X:Cx} {e:Stmt} {t t':TS} (h:PS X e t) (i:∀ D σ H,t' D σ H->t D σ H):PS X e t':=fun pins s σ H D I q=>h pins s σ H D I (i D σ H q)
theorem rd.imp {X:Cx} {e:List Stmt} {t t':TS} (h:rd X e t) (i:∀ D σ H,t' D σ H->t D σ H):rd X e t':=fun pins s σ H D I q=>h pins s σ H D I (i D σ H q)
section
variable {X:Cx} {Fm:Hp} {σ:St} {H:Hp} {D:sJ}
theorem oq {P:Hp->Hp->PyData->V->Prop} {f:Fe} {k:aT->PyData->R uF} (h:Dq X Fm (fun ρ=>f ρ>>=k ρ) D σ H) :
    jQ X P f σ H (fun v H1=>∃ ρ d,iy Fm H1 σ ρ/\aM H H1/\P H H1 d v/\Cs X Fm (k ρ d) D):=by
  obtain ⟨ρ,sl,q⟩:=h;refine ⟨ρ,sl.sl,?_⟩;dsimp only at q;cases e:f ρ with
  | ok d=>rw [e] at q;exact fun v H1 s p=>⟨ρ,d,sl.mono s,s,p,q⟩
  | ex c=>rw [e] at q;exact q.1.mono sl.fm
  | no=>rw [e] at q;exact q
theorem vW {f:aT->R Bool} {k:aT->Bool->R uF} (h:Dq X Fm (fun ρ=>f ρ>>=k ρ) D σ H):Ct X f σ H (fun b H1=>∃ ρ,iy Fm H1 σ ρ/\aM H H1/\Cs X Fm (k ρ b) D):=by
  obtain ⟨ρ,sl,q⟩:=h;refine ⟨ρ,sl.sl,?_⟩;dsimp only at q;cases e:f ρ with
  | ok d=>rw [e] at q;exact fun H1 s=>⟨ρ,sl.mono s,s,q⟩
  | ex c=>rw [e] at q;exact q.1.mono sl.fm
  | no=>rw [e] at q;exact q
end
noncomputable def ff:Fs:=fun ρ=>.ok (.nx ρ)
noncomputable def qP (h:Fs):uF->R uF
  | .nx ρ=>h ρ
  | o=>.ok o
noncomputable def bB (g h:Fs):Fs:=fun ρ=>g ρ>>=qP h
noncomputable def pY (t:aT->R Bool) (g h:Fs):Fs:=fun ρ=>t ρ>>=fun b=>if b=true then g ρ else h ρ
noncomputable def cM (f:Fe):Fs:=fun ρ=>f ρ>>=fun d=>.ok (.rt d)
noncomputable def GK:Fs:=fun _=>.ok (.rt .none)
noncomputable def GI (f:Fe):Fs:=fun ρ=>f ρ>>=fun _=>.ok (.nx ρ)
noncomputable def ET:Fs:=fun ρ=>.ok (.bk ρ)
noncomputable def GE:Fs:=fun ρ=>.ok (.ct ρ)
noncomputable def cf (i:Nat) (f:Fe):Fs:=fun ρ=>f ρ>>=fun d=>.ok (.nx (ρ.set i (.val d)))
noncomputable def i6 (i:Nat) (f:Fe):Fs:=fun ρ=>f ρ>>=fun d=>.ok (.nx (ρ.set i (.own d)))
section
variable {X:Cx} {nl:Nat} {G:List Str} {st:Stmt} {sts:List Stmt} {g h:Fs} {f:Fe} {e:Expr} {pos pos':Pos} {x:Str}
theorem dD  : Z.lS X [] ff:=⟨fun Fm=>rd.imp Cm fun D σ H ⟨ρ,sl,q⟩=>q σ H sl⟩
theorem ao (h1:Z.kN X st g) (h2:Z.lS X sts h):Z.lS X (st::sts) (bB g h):=⟨have h1:=h1.un;have h2:=h2.un;fun Fm=>by
  refine rd.imp (o9 (h1 Fm) (h2 Fm)) fun D σ H ⟨ρ,sl,q⟩=>⟨ρ,sl,?_⟩
  unfold bB at q;cases e:g ρ with
  | ex c=>rw [e] at q;exact q
  | no=>rw [e] at q;exact q
  | ok o =>
    rw [e] at q;cases o with
    | nx ρ'=>exact fun σ' H' s'=>⟨ρ',s',q⟩
    | rt d=>exact q
    | bk ρ'=>exact q
    | ct ρ'=>exact q⟩
theorem aw (h1:Z.kN X st g):Z.lS X [st] g:=⟨have h1:=h1.un;fun Fm=>wG (h1 Fm)⟩
theorem aQ (he:Z.cL X e f):Z.kN X (.Return (some e) pos) (cM f):=⟨have he:=he.un;fun Fm =>
  PS.imp (EH he) fun D σ H h=>(oq (P:=hJ) (f:=f) (k:=fun _ d=>.ok (.rt d)) h).post fun v H1 ⟨ρ,d,sl,_,p,q⟩=>q v H1 sl.fm p⟩
theorem dU {c:Expr} {a b:List Stmt} {t:aT->R Bool} (hc:Z.nc X c t) (ha:Z.lS X a g) (hb:Z.lS X b h):Z.kN X (.If c a b pos) (pY t g h):=⟨have hc:=hc.un;have ha:=ha.un;have hb:=hb.un;fun Fm =>
  PS.imp (Gs hc (ha Fm) (hb Fm)) fun D σ H q=>(vW (f:=t) (k:=fun ρ b=>if b=true then g ρ else h ρ) q).post fun b H1 ⟨ρ,sl,_,q⟩=>by
    cases b with
    | true=>exact ⟨ρ,sl,q⟩
    | false=>exact ⟨ρ,sl,q⟩⟩
theorem Sl.set {H:Hp} {σ:St} {ρ:aT} {c:br} {o:Option V} (h:Sl H σ ρ) (i:Nat) (hc:i8 H c o):Sl H (σ.set i o) (ρ.set i c):=by
  refine ⟨by rw [List.length_set,List.length_set];exact h.1,fun j c' o' h1 h2=>?_⟩;rw [List.getElem?_set] at h1 h2;by_cases hij:i=j
  · rw [if_pos hij] at h1 h2;by_cases hi:i < ρ.length
    · rw [if_pos hi] at h1;rw [if_pos (by rw [h.1];exact hi)] at h2;cases h1;cases h2;exact hc
    · rw [if_neg hi] at h1;cases h1
  · rw [if_neg hij] at h1 h2;exact h.2 j c' o' h1 h2
theorem cY {ρ:aT} {i j:Nat} {c:br} {d:PyData} (hc:∀ e,c≠.own e) (h:(ρ.set i c)[j]?=some (.own d)):i≠j/\ρ[j]?=some (.own d):=by
  rw [List.getElem?_set] at h;by_cases hij:i=j
  · rw [if_pos hij] at h;split at h
    · exact absurd (Option.some.inj h) (hc d)
    · cases h
  · rw [if_neg hij] at h;exact ⟨hij,h⟩
theorem iy.set {Fm H:Hp} {σ:St} {ρ:aT} {c:br} {o:Option V} (h:iy Fm H σ ρ) (i:Nat) (hn:∀ e,c≠.own e) (hc:i8 H c o):iy Fm H (σ.set i o) (ρ.set i c):=by
  refine ⟨h.fm,h.sl.set i hc,fun j d a h1 h2=>?_,fun j k d e a h1 h2 h3 h4=>?_⟩
  · obtain ⟨ne,h1⟩:=cY hn h1;rw [List.getElem?_set,if_neg ne] at h2;exact h.own j d a h1 h2
  · obtain ⟨ne,h1⟩:=cY hn h1;obtain ⟨ne',h2⟩:=cY hn h2;rw [List.getElem?_set,if_neg ne] at h3;rw [List.getElem?_set,if_neg ne'] at h4;exact h.apart j k d e a h1 h2 h3 h4
theorem r9 {H:Hp} {d:PyData} {v:V} (h:iZ H d v):∃ a o,v=.ref a/\H a=some o:=by
  cases d <;> simp only [iZ] at h
  · obtain ⟨a,vs,e,ha,_⟩:=h;exact ⟨a,_,e,ha⟩
  · obtain ⟨a,vs,e,ha,_⟩:=h;exact ⟨a,_,e,ha⟩
theorem iy.setOwn {Fm H0 H:Hp} {σ:St} {ρ:aT} {d:PyData} {v:V} (h0:iy Fm H0 σ ρ) (h:iy Fm H σ ρ) (hs:aM H0 H) (i:Nat) (hn:DG H0 H d v):iy Fm H (σ.set i (some v)) (ρ.set i (.own d)):=by
  obtain ⟨p,a,rfl,ha⟩:=hn;have old:∀ (j:Nat) (e:PyData) (b:Addr),i≠j->(ρ.set i (.own d))[j]?=some (.own e)->(σ.set i (some (.ref a)))[j]?=some (some (.ref b))->ρ[j]?=some (.own e)/\σ[j]?=some (some (.ref b)):=fun j e b ne h1 h2=>by
    rw [List.getElem?_set,if_neg ne] at h1 h2;exact ⟨h1,h2⟩
  have notA:∀ (j:Nat) (e:PyData),ρ[j]?=some (.own e)->σ[j]?=some (some (.ref a))->False:=fun j e h1 h2=>by
    obtain ⟨u,e1,q⟩:=h0.sl.2 j _ _ h1 h2;cases e1;obtain ⟨b,o,e2,hb⟩:=r9 q;cases e2;rw [ha] at hb;cases hb
  have here:∀ (b:Addr),(σ.set i (some (.ref a)))[i]?=some (some (.ref b))->b=a:=fun b h2=>by
    rw [List.getElem?_set,if_pos rfl] at h2;split at h2
    · cases h2;rfl
    · cases h2
  refine ⟨h.fm,h.sl.set i ⟨_,rfl,p⟩,fun j e b h1 h2=>?_,fun j k e f b h1 h2 h3 h4=>?_⟩
  · by_cases hij:i=j
    · subst hij;rw [here b h2];exact (h0.fm).free ha
    · obtain ⟨h1,h2⟩:=old j e b hij h1 h2;exact h.own j e b h1 h2
  · by_cases hij:i=j
    · subst hij;have eb:=here b h3;by_cases hik:i=k
      · exact hik
      · obtain ⟨h2,h4⟩:=old k f b hik h2 h4;rw [eb] at h4;exact (notA k f h2 h4).elim
    · obtain ⟨h1,h3⟩:=old j e b hij h1 h3;by_cases hik:i=k
      · subst hik;have eb:=here b h4;rw [eb] at h3;exact (notA j e h1 h3).elim
      · obtain ⟨h2,h4⟩:=old k f b hik h2 h4;exact h.apart j k e f b h1 h2 h3 h4
theorem aR (T:Tb X nl G) (i:Nat) (hN:(X.N.take nl)[i]?=some x) (he:Z.cL X e f) (hs:swapsWith e (some (.Name x pos')) pos.line X.env=pure false:=by rfl):Z.kN X (.Assign [.Name x pos'] e pos) (cf i f):=⟨have he:=he.un;fun Fm=>by
  have hm:=T.loc x (List.mem_of_getElem? hN);have hi:X.N[i]?=some x:=by
    rw [List.getElem?_take] at hN;split at hN
    · exact hN
    · cases hN
  exact PS.imp (Ar T.nd hi hm.1 he hs hm.2) fun D σ H h=>(oq (P:=hJ) (f:=f) (k:=fun ρ d=>.ok (.nx (ρ.set i (.val d)))) h).post fun v H1 ⟨ρ,d,sl,_,p,q⟩ =>
    q _ H1 (sl.set i (fun e z=>by cases z) ⟨v,rfl,p⟩)⟩
theorem kP (T:Tb X nl G) (i:Nat) (hN:(X.N.take nl)[i]?=some x) (he:Z.lQ X e f) (hs:swapsWith e (some (.Name x pos')) pos.line X.env=pure false:=by rfl):Z.kN X (.Assign [.Name x pos'] e pos) (i6 i f):=⟨have he:=he.un;fun Fm=>by
  have hm:=T.loc x (List.mem_of_getElem? hN);have hi:X.N[i]?=some x:=by
    rw [List.getElem?_take] at hN;split at hN
    · exact hN
    · cases hN
  refine PS.imp (Ar T.nd hi hm.1 he hs hm.2) fun D σ H h=>?_
  obtain ⟨ρ0,sl0,q0⟩:=h;refine ⟨ρ0,sl0.sl,?_⟩;unfold i6 at q0;cases ef:f ρ0 with
  | ex c=>rw [ef] at q0;exact q0.1.mono sl0.fm
  | no=>rw [ef] at q0;exact q0
  | ok d =>
    rw [ef] at q0;exact fun v H1 s p=>q0 _ H1 (iy.setOwn sl0 (sl0.mono s) s i p)⟩
end
structure Bd (J:It) (Gd:Hp->Prop) (ds:List PyData):Prop where
  go:∀ i H,Gd H->i < ds.length->J.go i H
  yld:∀ i H x H' d,Gd H->ds[i]?=some d->J.yld i H x H'->aM H H'/\Rp H' d x
  stop:∀ i H,Gd H->ds.length<=i->J.stop i H
noncomputable def Hq (H0:Hp) (B:Addr->Prop) (Gd:Hp->Prop):Prop:=∀ H,Kp H0 H->(∀ b o,B b->H0 b=some o->H b=some o)->Gd H
noncomputable def Jh (X:Cx) (f:aT->R (List PyData)):TI:=fun σ H Rk=>∃ ρ,Sl H σ ρ/\match f ρ with
  | .ok ds=>∀ J H',aM H H'->(∃ Gd,Bd J Gd ds/\Hq H' (fun _=>False) Gd)->Rk J H'
  | .ex c=>Xw X c H
  | .no=>False
noncomputable def qY (X:Cx) (tg iter:Expr) (f:aT->R (List PyData)):Prop:=PI X tg iter (Jh X f)
structure Z.qY (X:Cx) (tg iter:Expr) (f:aT->R (List PyData)):Prop where
  un:D2.qY X tg iter f
noncomputable def Jg (X:Cx) (b:PyData->aT->Option aT):TG:=fun v σ H Q=>∃ ρ d,Sl H σ ρ/\Rp H d v/\match b d ρ with
  | some ρ'=>∀ σ',Sl H σ' ρ'->(∀ (i:Nat) (e:PyData),ρ'[i]?=some (.own e)->ρ[i]?=some (.own e)/\σ'[i]?=σ[i]?)->Q σ' H
  | none=>False
noncomputable def sy (X:Cx) (tg:Expr) (b:PyData->aT->Option aT):Prop:=PG X tg (Jg X b)
structure Z.sy (X:Cx) (tg:Expr) (b:PyData->aT->Option aT):Prop where
  un:D2.sy X tg b
noncomputable def aW (i:Nat):PyData->aT->Option aT:=fun d ρ=>some (ρ.set i (.val d))
theorem PG.imp {X:Cx} {e:Expr} {t t':TG} (h:PG X e t) (i:∀ v σ H Q,t' v σ H Q->t v σ H Q):PG X e t':=fun pins s σ H v u Q I r q=>h pins s σ H v u Q I r (i v σ H Q q)
theorem PI.imp {X:Cx} {tg e:Expr} {t t':TI} (h:PI X tg e t) (i:∀ σ H Q,t' σ H Q->t σ H Q):PI X tg e t':=fun pins s σ H Q I q=>h pins s σ H Q I (i σ H Q q)
section
variable {X:Cx} {nl:Nat} {G:List Str} {x:Str} {pos:Pos}
theorem Tb.nm (T:Tb X nl G) {i:Nat} (hN:(X.N.take nl)[i]?=some x):X.N[i]?=some x/\CT X.env.scope x/\(X.fn x=true\/X.env.scope.names.lookup x=some .local):=by
  have hm:=T.loc x (List.mem_of_getElem? hN);have hi:X.N[i]?=some x:=by
    rw [List.getElem?_take] at hN;split at hN
    · exact hN
    · cases hN
  exact ⟨hi,hm⟩
theorem aV (T:Tb X nl G) (i:Nat) (hN:(X.N.take nl)[i]?=some x):Z.sy X (.Name x pos) (aW i):=⟨by
  obtain ⟨hi,h1,h2⟩:=T.nm hN;refine PG.imp (sh T.nd hi h1 h2) fun v σ H Q zq0=>?_
  obtain ⟨ρ,d,sl,p,q⟩:=zq0;refine q _ (sl.set i ⟨v,rfl,p⟩) fun j e h=>?_
  obtain ⟨ne,h⟩:=cY (fun e z=>by cases z) h;exact ⟨h,by rw [List.getElem?_set,if_neg ne]⟩⟩
end
noncomputable def fV (b:PyData->aT->Option aT) (g:Fs):List PyData->Fs
  | [],ρ=>.ok (.nx ρ)
  | d::ds,ρ=>match b d ρ with
    | none=>.no
    | some ρ1=>g ρ1>>=fun o=>match o with
      | .nx ρ2=>fV b g ds ρ2
      | .ct ρ2=>fV b g ds ρ2
      | .bk ρ2=>.ok (.nx ρ2)
      | .rt r=>.ok (.rt r)
noncomputable def mm (it:aT->R (List PyData)) (b:PyData->aT->Option aT) (g:Fs):Fs:=fun ρ=>it ρ>>=fun ds=>fV b g ds ρ
noncomputable def stab (Fm H:Hp):Hp:=fun b=>match H b with
  | some (.tup xs)=>some (.tup xs)
  | some (.frz o u)=>some (.frz o u)
  | _=>Fm b
theorem yn {Fm H:Hp} (h:aM Fm H):aM (stab Fm H) H:=fun b o e=>by
  unfold stab at e;split at e
  · rename_i q;rw [q];exact e
  · rename_i q;rw [q];exact e
  · exact h b o e
theorem CH {Fm H:Hp}:Kp H (stab Fm H):=⟨fun b xs e=>by unfold stab;rw [e],fun b o u e=>by unfold stab;rw [e]⟩
theorem CG {Fm H:Hp} (h:aM Fm H):aM Fm (stab Fm H):=fun b o e=>by
  have:=h b o e;unfold stab;split
  · rename_i q;rw [this] at q;exact q.symm
  · rename_i q;rw [this] at q;exact q.symm
  · exact e
theorem iy.stab {Fm H:Hp} {σ:St} {ρ:aT} (h:iy Fm H σ ρ):iy (stab Fm H) H σ ρ:=by
  refine ⟨yn h.fm,h.sl,fun i d a h1 h2=>?_,h.apart⟩;have f:=h.own i d a h1 h2;obtain ⟨u,e1,q⟩:=h.sl.2 i _ _ h1 h2;cases e1;unfold D2.stab;cases d <;> simp only [iZ] at q
  · obtain ⟨b,vs,e,hb,_⟩:=q;cases e;rw [hb];exact f
  · obtain ⟨b,vs,e,hb,_⟩:=q;cases e;rw [hb];exact f
theorem iy.unstab {Fm F H:Hp} {σ:St} {ρ:aT} (hF:aM Fm F) (h:iy F H σ ρ):iy Fm H σ ρ:=⟨hF.trans h.fm,h.sl,fun i d a h1 h2=>hF.free (h.own i d a h1 h2),h.apart⟩
theorem fN {X:Cx} {tg iter:Expr} {body:List Stmt} {it:aT->R (List PyData)} {b:PyData->aT->Option aT} {g:Fs} {pos:Pos} (hp:PassesOwn (model X.prog X.w) X.A X.env X.xe) (hc:X.calm=true) (hi:Z.qY X tg iter it) (hg:Z.sy X tg b) (hb:Z.lS X body g) (hs:∀ x,foldedSetIterable iter X.env x=pure x:=by intro _;rfl):Z.kN X (.For tg iter body [] pos) (mm it b g):=⟨have hi:=hi.un;have hg:=hg.un;have hb:=hb.un;fun Fm=>by
  intro pins s σ H D I h;obtain ⟨ρ,sl,q⟩:=h;unfold mm at q
  -- the frame: what is stable at the loop's iX is only known behind the iterator's making: the body is taken at every frame
  refine EG (wi:=Jh X it) (g:=Jg X b) (tb:=fun D' σ' H'=>∃ F,Dq X F g D' σ' H') hp hc hi hg (fun pins' s' σ' H' D' I' ⟨F,q'⟩=>hb F pins' s' σ' H' D' I' q') hs pins s σ H D I ?_;refine ⟨ρ,sl.sl,?_⟩;cases ei:it ρ with
  | ex c=>rw [ei] at q;exact q.1.mono sl.fm
  | no=>rw [ei] at q;exact q
  | ok ds =>
    rw [ei] at q;intro J H1 s1 ⟨Gd,idt,sta⟩;have sl1:=sl.mono s1;let F:=stab Fm H1
    have hF:aM Fm F:=CG sl1.fm
    -- the word: so many items are taken,and the fE gives what the whole gives
    refine ⟨fun i m σ' H'=>m=ds.length-i/\i<=ds.length/\∃ ρ',iy F H' σ' ρ'/\Cs X Fm (fV b g (ds.drop i) ρ') D,⟨ds.length,by simp,Nat.zero_le _,ρ,sl1.stab,by simpa using q⟩,?_⟩;rintro i m σ2 H2 ⟨rfl,hi',ρ2,sl2,q2⟩;have gd:Gd H2:=sta H2 (Kp.trans CH (Kp.of sl2.fm)) fun _ _ z=>z.elim
    by_cases hlt:i < ds.length
    · refine .inr ⟨idt.go i H2 gd hlt,fun σ' H'=>i+1<=ds.length/\∃ ρ',iy F H' σ' ρ'/\Cs X Fm (fV b g (ds.drop (i+1)) ρ') D,fun σ' H' ⟨z,p⟩=>⟨ds.length-(i+1),by omega,rfl,z,p⟩,fun x H3 y=>?_⟩;obtain ⟨d,hd⟩:∃ d,ds[i]?=some d:=⟨ds[i],List.getElem?_eq_getElem hlt⟩
      obtain ⟨s3,p3⟩:=idt.yld i H2 x H3 d gd hd y;have hdrop:ds.drop i=d::ds.drop (i+1):=by
        rw [List.drop_eq_getElem_cons hlt];congr 1;exact Option.some.inj ((List.getElem?_eq_getElem hlt).symm.trans hd)
      rw [hdrop] at q2;unfold fV at q2;have sl3:=sl2.mono s3;refine ⟨ρ2,d,sl3.sl,p3,?_⟩;cases eb:b d ρ2 with
      | none=>rw [eb] at q2;exact q2
      | some ρ3 =>
        rw [eb] at q2;intro σ4 sl4 hown;refine ⟨F,ρ3,⟨sl3.fm,sl4,fun j e a h1 h2=>?_,fun j k e f a h1 h2 h3 h4=>?_⟩,?_⟩
        · obtain ⟨z1,z2⟩:=hown j e h1;exact sl3.own j e a z1 (by rw [<- z2];exact h2)
        · obtain ⟨z1,z2⟩:=hown j e h1;obtain ⟨z3,z4⟩:=hown k f h2;exact sl3.apart j k e f a z1 z3 (by rw [<- z2];exact h3) (by rw [<- z4];exact h4)
        · have q3:Cs X Fm (g ρ3>>=fun o=>match o with
            | .nx ρ2=>fV b g (ds.drop (i+1)) ρ2
            | .ct ρ2=>fV b g (ds.drop (i+1)) ρ2
            | .bk ρ2=>.ok (.nx ρ2)
            | .rt r=>.ok (.rt r)) D:=q2
          cases eg:g ρ3 with
          | ex c=>rw [eg] at q3;exact ⟨q3.1.mono hF,q3.2.mono hF⟩
          | no=>rw [eg] at q3;exact q3
          | ok o =>
            rw [eg] at q3;cases o with
            | nx ρ4=>exact fun σ' H' s'=>⟨hlt,ρ4,s',q3⟩
            | ct ρ4=>exact fun σ' H' s'=>⟨hlt,ρ4,s',q3⟩
            | bk ρ4=>exact fun σ' H' s'=>q3 σ' H' (s'.unstab hF)
            | rt r=>exact fun v H' s' p'=>q3 v H' (hF.trans s') p'
    · have e:i=ds.length:=by omega
      subst e;refine .inl ⟨idt.stop _ H2 gd (Nat.le_refl _),?_⟩;rw [List.drop_length] at q2;exact q2 σ2 H2 (sl2.unstab hF)⟩
noncomputable def dF (n:Nat) (g:Fs):List PyData->R PyData:=fun ds=>g (ds.map br.val++List.replicate (n-ds.length) .non)>>=fun o=>match o with
  | .rt d=>.ok d
  | .nx _=>.ok .none
  | _=>.no
noncomputable def dt (F:List PyData->R PyData) (n:Nat):Sp:=fun vs H Q E=>∃ ds,bK H ds vs/\ds.length=n/\match F ds with
  | .ok d=>∀ v H',aM H H'->Rp H' d v->Q v H'
  | .ex c=>∀ H',aM H H'->E (.str c 0) none H'
  | .no=>False
theorem AN {H:Hp} {N:List Str}:∀ {ds:List PyData} {vs:List V},bK H ds vs->Sl H (L2.iX N vs) (ds.map br.val++List.replicate (N.length-ds.length) .non):=fun {ds vs} r=>by
  have hl:=r.length;refine ⟨by unfold L2.iX;rw [List.length_append,List.length_append,List.length_map,List.length_map,List.length_replicate,List.length_replicate,hl],fun i c o h1 h2=>?_⟩;by_cases hi:i < ds.length
  · rw [List.getElem?_append_left (by simpa using hi),List.getElem?_map] at h1;cases e:ds[i]? with
    | none=>rw [e] at h1;cases h1
    | some d =>
      rw [e] at h1;cases h1;obtain ⟨v,e1,p⟩:=r.get e;unfold L2.iX at h2;rw [List.getElem?_append_left (by rw [List.length_map,hl];exact hi),List.getElem?_map,e1] at h2;cases h2;exact ⟨v,rfl,p⟩
  · rw [List.getElem?_append_right (by simpa using hi),List.getElem?_replicate] at h1;split at h1
    · cases h1;exact True.intro
    · cases h1
section
variable {P:Program} {w:World} {H:Hp} {h:Heap} {a:Addr}
theorem r8:∀ {o:HO},cb P w H h a o->∃ u,h.get? a=some u
  | .lst xs,x=>by obtain ⟨_,_,_,_,e⟩:=x;exact ⟨_,e⟩
  | .tup xs,x=>by obtain ⟨_,_,_,o,e,_⟩:=x;exact ⟨_,e⟩
  | .dK kvs,x=>by obtain ⟨_,_,_,_,o,_,_,e,_⟩:=x;exact ⟨_,e⟩
  | .dT kvs,x=>by obtain ⟨_,_,_,_,o,_,_,e,_⟩:=x;exact ⟨_,e⟩
  | .set S n,x=>by obtain ⟨o,_,_,_,e,_⟩:=x;exact ⟨_,e⟩
  | .ins C dx fs,x=>by obtain ⟨_,_,_,e,_⟩:=x;exact ⟨_,e⟩
  | .own y,x=>by obtain ⟨_,e⟩:=x;exact ⟨_,e⟩
  | .xd fs,x=>by obtain ⟨_,⟨_,_,_,e,_⟩,_⟩:=x;exact ⟨_,e⟩
  | .rng lo hi,x=>by obtain ⟨_,_,_,e⟩:=x;exact ⟨_,e⟩
  | .frz ob u,x=>by obtain ⟨e,_⟩:=x;exact ⟨_,e⟩
  | .tbl ps,x=>⟨_,(show h.get? a=some _ from x)⟩
  | .met f y,x=>⟨_,(show h.get? a=some _ from x)⟩
  | .ext φ,x=>by obtain ⟨_,⟨_,e⟩,_⟩:=x;exact ⟨_,e⟩
end
theorem qZ.un {P:Program} {w:World} {outer:List Env} {H H':Hp} {s s':Shared} {C:Addr} {e:Value} (f:qZ P w outer H s C H' e s'):Un (lK outer) [] H H' s.heap s'.heap:=by
  obtain ⟨p,a0,B,_,fl,ok,_,cov⟩:=f.ex;refine ⟨fun b o q n hb _=>fl.1 _ _ (cov b o q n hb).1,fun b o q n hb _=>(f.slot b o q n hb).1,fun b o q n _=>?_,fun b o q _=>?_,fun b xs q=>f.same _ _ q,fun b o u q=>f.same _ _ q,fun b ps q=>⟨#[],by rw [f.same _ _ q];simp⟩⟩
  · by_cases hb:b∈lK outer
    · exact (f.slot b o q n hb).2
    · exact (cov b o q n hb).2
  · cases n:H b with
    | none =>
      by_cases hb:b∈lK outer
      · obtain ⟨sl,z⟩:=(f.slot b o q n hb).1;exact ⟨_,z⟩
      · exact ⟨o,fl.1 _ _ (cov b o q n hb).1⟩
    | some u =>
      obtain ⟨o',z⟩:=r8 (ok b u (f.same _ _ n));exact ⟨o',fl.1 _ _ z⟩
theorem qZ.hok {P:Program} {w:World} {outer:List Env} {H H':Hp} {s s':Shared} {C:Addr} {e:Value} (f:qZ P w outer H s C H' e s'):hR P w H' s'.heap:=by
  obtain ⟨p,a0,B,_,fl,ok,_,_⟩:=f.ex;exact ok.kept fun b u q=>fl.1 b u q
theorem DF.un {P:Program} {w:World} {outer:List Env} {H H':Hp} {s s':Shared} {C:Addr} {e:Value} (f:DF P w outer H s C H' e s'):Un (lK outer) [] H H' s.heap s'.heap:=f.hld.un
theorem qZ.inv {X:Cx} {pins:List (Addr×Obj)} {σ:St} {Hc H1:Hp} {sc s':Shared} {C:Addr} {e:Value} (f:qZ X.prog X.w X.stack Hc sc C H1 e s') (I:aU X pins σ Hc sc):aU X pins σ H1 s' :=
  I.call' f.os f.un f.hok f.bare fun b z=>absurd z (by simp)
section
variable {P:Program} {w:World} {l:List Env} {H H':Hp} {s s':Shared} {C p:Addr} {e:Value}
theorem qZ.again {a0:Value} {B h':Heap} (f:qZ P w l H s C H' e s') (t:sR B l p (.ref C) a0 s'.heap) (t':sR B l p (.ref C) a0 h') (up:s'.heap.UpToSlots h') (okB:hR P w H' B) (hp:H' p=none)
    (cov:∀ b o,s.heap.get? b=some o->H b=none->b∉lK l->B.get? b=some o/\H' b=none):qZ P w l H s C H' (.ref p) { s' with heap:=h' }:=by
  refine ⟨f.os,f.bare,f.same,⟨p,a0,B,rfl,t',okB,hp,cov⟩,fun b o q n hb=>?_⟩;obtain ⟨⟨sl,q2⟩,n2⟩:=f.slot b o q n hb;obtain ⟨_,o3,q3,nf⟩:=t.2.2.1.mem hb;rw [q2] at q3;cases q3;obtain ⟨sl3,q4⟩:=up b _ q2 nf;exact ⟨⟨sl3,q4⟩,n2⟩
theorem Ad {x:Value} {env env0:Env} (h:env.frame=env0.frame):noteFrame x env=noteFrame x env0:=by
  unfold noteFrame PySem.frameOf;rw [h]
theorem qZ.note {M:Model} {A:Around} {E:Value->Shared->Prop} {Q:Unit->Shared->Prop} {env env0:Env} {outer:List Env} {L:Addr} (f:qZ P w l H s C H' e s') (hl:l=env0::outer) (hfr:A.frames=some l) (h0:env0.frame=some L) (h1:env.frame=some L)
    (k:∀ h',qZ P w l H s C H' e { s' with heap:=h' }->s'.heap.UpToSlots h'->Q () { s' with heap:=h' }):wpAny M A (noteFrame e env) Q E s':=by
  subst hl;obtain ⟨p,a0,B,rfl,t,okB,hp,cov⟩:=f.ex;rw [Ad (h1.trans h0.symm)];exact um hfr h0 t fun h' t' up=>k h' (f.again t t' up okB hp cov) up
theorem qZ.pass {α:Type} {M:Model} {A:Around} {E:Value->Shared->Prop} {Q:α->Shared->Prop} {env:Env} {what:String} (f:qZ P w l H s C H' e s') (k:∀ h',qZ P w l H s C H' e { s' with heap:=h' }->E e { s' with heap:=h' }):wpAny M A (PySem.passOn what e env:Sem α) Q E s':=by
  obtain ⟨p,a0,B,rfl,t,okB,hp,cov⟩:=f.ex;exact AW t fun h' t' up=>k h' (f.again t t' up okB hp cov)
end
section
variable {P:Program} {w:World} {K:PySem.W.Frag} {mg:Str->Option Value} {base:Heap} {N:List Str} {qual:Str} {sc:Scope} {f:Addr} {cdv:Value} {A:Around} {outer:List Env} {s:Shared} {H:Hp} {E:XK} {c:Str}
theorem Ff (h:∀ H',aM H H'->E (.str c 0) none H'):Xw (fP (cQ P w mg) P w K mg base N qual sc f cdv A outer s H E) c H:=by
  intro H1 s1 C hm pins σ Hc sc' e s' I fl;obtain ⟨p,a0,B,rfl,fly,okB,hp,cov⟩:=fl.ex;have old:∀ b o,s.heap.get? b=some o->b≠s.heap.objs.size:=fun b o q=>Nat.ne_of_lt (Heap.lt_size q)
  refine yr I.ok.frames rfl fly fun h' fl' up=>⟨c,C,H1,hm,⟨fl.os.trans I.os,fl.bare,s1,⟨p,a0,B,rfl,fl',okB,hp,fun b o q n hb=>?_⟩,fun b o q n hb=>?_⟩,h H1 s1⟩
  · have q1:=I.base.keep b o q n hb (by simp [fP]);have n1:=I.base.free b o q n (by simp [fP]);refine cov b o q1 n1 fun z=>?_
    have z':b∈(s.heap.objs.size::lK outer):=z;rcases List.mem_cons.mp z' with z2 | z2
    · exact old b o q z2
    · exact hb z2
  · obtain ⟨sl,q1⟩:=I.base.slot b o q n hb (by simp [fP]);have n1:=I.base.free b o q n (by simp [fP]);have hb':b∈lK (fP (cQ P w mg) P w K mg base N qual sc f cdv A outer s H E).stack:=List.mem_cons_of_mem _ hb;obtain ⟨⟨sl',q2⟩,n2⟩:=fl.slot b _ q1 n1 hb';obtain ⟨_,o3,q3,nf⟩:=fly.2.2.1.mem hb';rw [q2] at q3;cases q3;obtain ⟨sl3,q4⟩:=up b _ q2 nf;exact ⟨⟨sl3,q4⟩,n2⟩
theorem CO (h:∀ H',aM H H'->E (.str c 0) none H'):Fy (fP (cQ P w mg) P w K mg base N qual sc f cdv A outer s H E) c H:=by
  intro C hm pins σ Hm sm sH I h' p vs hx;have hin:∀ env∈(fP (cQ P w mg) P w K mg base N qual sc f cdv A outer s H E).stack,∀ b,env.frame=some b->b∈lK (fP (cQ P w mg) P w K mg base N qual sc f cdv A outer s H E).stack:=fun env he b hb=>List.mem_filterMap.mpr ⟨env,he,hb⟩
  have old:∀ b o,s.heap.get? b=some o->b≠s.heap.objs.size:=fun b o q=>Nat.ne_of_lt (Heap.lt_size q)
  refine wpAny_leaves_madeW (s:={ sm with heap:=h' }) (base:=PySem.W.hideAll sm.heap (lK (fP (cQ P w mg) P w K mg base N qual sc f cdv A outer s H E).stack)) I.ok.frames rfl (fun b o q=>PySem.W.of_hideAll _ q) (PySem.W.funFrames_hide I.stack hin) hx fun h'' t fl' _ _ up =>
    ⟨c,C,Hm,hm,⟨I.os,I.bare,sH,⟨p,.ref t,_,rfl,fl',fun b u q=>?_,?_,fun b o q n hb=>?_⟩,fun b o q n hb=>?_⟩,h Hm sH⟩
  · refine (I.hok b u q).stay (fun c' v hc z=>PySem.W.hideAll_get _ z fun m=>?_) (fun _ z=>z) fun _ _ z=>z
    have hn:=I.stkFree c' m;rcases hc with rfl | hc
    · rw [hn] at q;cases q
    · rw [hn] at hc;cases hc
  · cases q:Hm p with
    | none=>rfl
    | some u =>
      obtain ⟨o',z⟩:=r8 (I.hok p u q);rw [hx.new] at z;cases z
  · have q1:=I.base.keep b o q n hb (by simp [fP]);have n1:=I.base.free b o q n (by simp [fP]);refine ⟨PySem.W.hideAll_get _ q1 fun z=>?_,n1⟩;have z':b∈(s.heap.objs.size::lK outer):=z;rcases List.mem_cons.mp z' with z2 | z2
    · exact old b o q z2
    · exact hb z2
  · obtain ⟨sl,q1⟩:=I.base.slot b o q n hb (by simp [fP]);have n1:=I.base.free b o q n (by simp [fP]);have hb':b∈lK (fP (cQ P w mg) P w K mg base N qual sc f cdv A outer s H E).stack:=List.mem_cons_of_mem _ hb;obtain ⟨_,o3,q3,nf⟩:=I.stack.mem hb';rw [q1] at q3;cases q3;obtain ⟨sl3,q4⟩:=up b _ (hx.keeps _ _ q1) nf;exact ⟨⟨sl3,q4⟩,n1⟩
end
theorem BH {P:Program} {w:World} {K:PySem.W.Frag} {mg:Str->Option Value} {base:Heap} {x qual:Str} {st:Stmt} {f:Addr} {fd:FuncData} {N ps:List Str} {k:Nat} {g:Fs} (F:gp K x qual st f fd) (S:aX N ps (aj st))
    (body:∀ (cdv:Value) (A:Around) (outer:List Env) (s:Shared) (H:Hp) (E:XK),eQ k (A.deeper (envOfC qual (aj st) s.heap.objs.size f cdv)) ->
      lS (fP (cQ P w mg) P w K mg base N qual (aj st) f cdv A outer s H E) (cX st) g):bi P w K mg base (cQ P w mg) (k+1) f fd ps (dt (dF N.length g) ps.length):=by
  obtain ⟨oc,od,kV,doc,pm,an,cdv,ct,osl,rfl,lk,hcd⟩:=F.ex;refine zB lk hcd S (fun vs H Q E ⟨ds,r,hl,_⟩=>by rw [r.length];exact hl) fun A outer s H vs Q E hr h=>?_
  obtain ⟨ds,r,hl,q⟩:=h;have noOwn:∀ (i:Nat) (d:PyData),(ds.map br.val++List.replicate (N.length-ds.length) br.non)[i]?=some (.own d)->False:=fun i d h1=>by
    by_cases hi:i < ds.length
    · rw [List.getElem?_append_left (by simpa using hi),List.getElem?_map] at h1;cases e:ds[i]? with
      | none=>rw [e] at h1;cases h1
      | some d=>rw [e] at h1;cases h1
    · rw [List.getElem?_append_right (by simpa using hi),List.getElem?_replicate] at h1;split at h1
      · cases h1
      · cases h1
  refine ⟨_,body cdv A outer s H E hr H,_,⟨aM.refl _,AN r,fun i d a h1 h2=>(noOwn i d h1).elim,fun i j d e a h1 h2 h3 h4=>(noOwn i d h1).elim⟩,?_⟩;unfold dF at q;cases eg:g (ds.map br.val++List.replicate (N.length-ds.length) .non) with
  | ex c=>rw [eg] at q;exact ⟨Ff q,CO q⟩
  | no=>rw [eg] at q;exact q.elim
  | ok o =>
    rw [eg] at q;cases o with
    | rt d=>exact fun v H' s' p=>q v H' s' p
    | nx ρ=>exact fun σ' H' s'=>q .non H' s'.fm (by simp only [Rp])
    | bk ρ=>exact q.elim
    | ct ρ=>exact q.elim
noncomputable def aF (F:List PyData->R PyData) (fs:aT->R (List PyData)):Fe:=fun ρ=>fs ρ>>=F
theorem BF {X:Cx} {k n:Nat} {f:Addr} {fd:FuncData} {ps:List Str} {F:List PyData->R PyData} {x:Str} {p pos:Pos} {e:Expr} {es:List Expr} {fs:aT->R (List PyData)} {nl:Nat} {G:List Str}
    (C:bi X.prog X.w X.K X.mg X.base (cQ X.prog X.w X.mg) k f fd ps (dt F n)) (hr:eQ k X.A) (T:Tb X nl G) (j:Nat) (hG:G[j]?=some x) (hm:X.mg x=some (.ref f)) (hk:PySem.W.keepIn X.K (.ref f)=true) (hb:bM X.K fd ps []) (ha:uD X (e::es) fs)
    (hlen:(e::es).length=n) (hfs:∀ ρ ds,fs ρ=.ok ds->ds.length=n)
    (he:(e::es).all bc=true:=by rfl):cL X (.Call (.Name x p) (e::es) [] pos) (aF F fs):=by
  rw [List.all_cons,Bool.and_eq_true] at he;have g:=T.gl x (List.mem_of_getElem? hG);refine PE.imp (Cb C hr g.1 hm hk hb .nil wC ha g.2.1 (bA he.1) (pr he.2)) fun σ H Q zq0=>?_
  obtain ⟨ρ,sl,q⟩:=zq0;refine ⟨ρ,sl,?_⟩;unfold aF at q;cases e1:fs ρ with
  | ex c=>rw [e1] at q;exact q
  | no=>rw [e1] at q;exact q
  | ok ds =>
    rw [e1] at q;intro vs H1 s1 r1;rw [List.append_nil];refine ⟨ds,pb.mp r1,hfs ρ ds e1,?_⟩;have q':uc X hJ (F ds) H Q:=q;cases e2:F ds with
    | ok d=>rw [e2] at q';exact fun v H' s' p'=>q' v H' (s1.trans s') p'
    | ex c=>rw [e2] at q';exact fun H' s'=>Xw.ex q' H' (s1.trans s')
    | no=>rw [e2] at q';exact q'
theorem av:∀ ρ ds,aG ρ=.ok ds->ds.length=0:=fun ρ ds e=>by cases e;rfl
theorem ai {f:Fe} {g:aT->R (List PyData)} {n:Nat} (h:∀ ρ ds,g ρ=.ok ds->ds.length=n):∀ ρ ds,ah f g ρ=.ok ds->ds.length=n+1:=fun ρ ds e=>by
  unfold ah at e;cases e1:f ρ with
  | ex c=>rw [e1] at e;cases e
  | no=>rw [e1] at e;cases e
  | ok d =>
    rw [e1] at e;cases e2:g ρ with
    | ex c=>rw [e2] at e;cases e
    | no=>rw [e2] at e;cases e
    | ok ds'=>rw [e2] at e;cases e;rw [List.length_cons,h ρ ds' e2]
theorem uW {scope:Scope} {env:Env} (h:∀ x∈scope.names,x.2=.free->∃ c,env.cells.lookup x.1=some c) :
    ∃ cl,closureFor scope env=pure cl/\(∀ x c,cl.lookup x=some c->env.cells.lookup x=some c)/\∀ x∈scope.names,x.2=.free->∃ c,cl.lookup x.1=some c:=by
  suffices gen:∀ (names:List (Str×NameKind)) (acc:List (Str×Addr)),(∀ x∈names,x.2=.free->∃ c,env.cells.lookup x.1=some c)->(∀ x c,acc.lookup x=some c->env.cells.lookup x=some c) ->
      ∃ cl,(forIn names acc fun x r=>if (x.snd==NameKind.free)=true then do let a <- cellOf env x.fst;pure (ForInStep.yield ((x.fst,a)::r)) else pure (ForInStep.yield r):Sem (List (Str×Addr)))=pure cl /\
        (∀ x c,cl.lookup x=some c->env.cells.lookup x=some c)/\(∀ x c,acc.lookup x=some c->∃ c',cl.lookup x=some c')/\∀ x∈names,x.2=.free->∃ c,cl.lookup x.1=some c by
    obtain ⟨cl,h1,h2,_,h4⟩:=gen scope.names [] h fun x c e=>by simp at e
    refine ⟨cl,?_,h2,h4⟩;simp only [closureFor];rw [h1];rfl
  intro names;induction names with
  | nil=>intro acc _ ha;exact ⟨acc,rfl,ha,fun x c e=>⟨c,e⟩,fun x hx=>by cases hx⟩
  | cons y r ih =>
    intro acc hn ha;obtain ⟨n,k⟩:=y;by_cases hk:k=.free
    · subst hk;obtain ⟨c,hc⟩:=hn (n,.free) List.mem_cons_self rfl;obtain ⟨cl,e1,e2,e3,e4⟩:=ih ((n,c)::acc) (fun x hx=>hn x (List.mem_cons_of_mem _ hx)) (fun x c' e=>by
        rw [List.lookup_cons] at e;split at e
        · rename_i q;have:x=n:=by simpa using q
          subst this;cases e;exact hc
        · exact ha x c' e)
      refine ⟨cl,?_,e2,fun x c' e=>?_,fun x hx hf=>?_⟩
      · rw [List.forIn_cons];have:cellOf env n=pure c:=by unfold cellOf;rw [hc]
        simp only [beq_self_eq_true,if_true,this,pure_bind];exact e1
      · by_cases hx:x=n
        · subst hx;exact e3 x c (by rw [List.lookup_cons];simp)
        · have hb:(x==n)=false:=by simpa using hx
          exact e3 x c' (by rw [List.lookup_cons,hb];exact e)
      · rcases List.mem_cons.mp hx with rfl | hx
        · exact e3 n c (by rw [List.lookup_cons];simp)
        · exact e4 x hx hf
    · obtain ⟨cl,e1,e2,e3,e4⟩:=ih acc (fun x hx=>hn x (List.mem_cons_of_mem _ hx)) ha;refine ⟨cl,?_,e2,e3,fun x hx hf=>?_⟩
      · rw [List.forIn_cons];have:(k==NameKind.free)=false:=by simpa using hk
        simp only [this,Bool.false_eq_true,if_false,pure_bind];exact e1
      · rcases List.mem_cons.mp hx with rfl | hx
        · exact absurd hf hk
        · exact e4 x hx hf
noncomputable def GB (env:Env) (p:Str×NameKind):NameKind:=if (p.2==.free&&env.scope.kind==.function&&env.kindOf p.1==some .cell)=true then .cell else p.2
theorem pX (scope:Scope) (env:Env):(relabel scope env).names=scope.names.map fun p=>(p.1,GB env p):=by
  unfold relabel;refine List.map_congr_left fun p _=>?_
  obtain ⟨n,k⟩:=p;unfold GB;dsimp only;split <;> rfl
theorem mL (g:Str×NameKind->NameKind) (x:Str):∀ l:List (Str×NameKind),(l.map fun p=>(p.1,g p)).lookup x=(l.lookup x).map fun k=>g (x,k)
  | []=>rfl
  | (n,k)::r=>by
    rw [List.map_cons];cases hx:x==n with
    | true =>
      have e:x=n:=by simpa using hx
      subst e;simp
    | false =>
      have ne:¬ x=n:=by simpa using hx
      simp only [List.lookup_cons,hx];exact mL g x r
theorem kH (scope:Scope) (env:Env) (x:Str):(relabel scope env).names.lookup x=(scope.names.lookup x).map fun k=>GB env (x,k):=by
  rw [pX];exact mL _ _ _
theorem eZ {scope:Scope} {env:Env} {x:Str} {k:NameKind} (h:scope.names.lookup x=some k) (hk:k≠.free):(relabel scope env).names.lookup x=some k:=by
  rw [kH,h];have:(k==NameKind.free)=false:=by simpa using hk
  simp only [GB,this,Bool.false_and,Bool.false_eq_true,if_false,Option.map_some]
theorem iN {scope:Scope} {env:Env} {x:Str} (h:scope.names.lookup x=some .free):(relabel scope env).names.lookup x=some .free\/(relabel scope env).names.lookup x=some .cell:=by
  rw [kH,h];unfold GB;dsimp only [Option.map_some];split
  · exact .inr rfl
  · exact .inl rfl
theorem ue {scope:Scope} {env:Env} {x:Str} (hc:∀ y∈scope.names,y.2≠.cell) (h:(relabel scope env).names.lookup x=some .free\/(relabel scope env).names.lookup x=some .cell):(x,NameKind.free)∈scope.names:=by
  cases e:scope.names.lookup x with
  | none =>
    rw [kH,e] at h;rcases h with h | h <;> cases h
  | some k =>
    by_cases hk:k=.free
    · subst hk;exact PySem.mem_of_lookup e
    · exfalso;have:=eZ (env:=env) e hk;rw [this] at h;rcases h with h | h
      · cases h;exact hk rfl
      · cases h;exact hc _ (PySem.mem_of_lookup e) rfl
noncomputable def aO (X:Cx) (N:List Str) (scope:Scope) (cl:List (Str×Addr)) (C:Addr) (s:Shared) (H:Hp) (fp:List Addr) (E:Value->Shared->Prop:=fun _ _=>False):Cx :=
  { X with N:=N,s₀:=s,H₀:=H,env:=compEnvC scope cl C X.env,outer:=X.stack,stack:=X.stack,ex:=fp,fn:=fun _=>false,pn:=[],xe:=E }
noncomputable def dJ (sc:Scope) (N:List Str) (own:Nat) (G:List Str) (oN:List Str) (fr:List Nat):Prop :=
  sc.kind=.function/\(∀ y∈sc.names,y.2≠.cell)/\(∀ y∈sc.names,y.2=.local->sc.names.lookup y.1=some .local)/\N.Nodup/\(∀ x∈N.take own,sc.names.lookup x=some .local)/\(∀ x∈N.drop own,sc.names.lookup x=some .free) /\
  (∀ x∈N,(x==("__debug__" : Str))=false/\(x==("__classdict__" : Str))=false)/\(∀ x∈G,sc.names.lookup x=some .globalImplicit/\(x==("__debug__" : Str))=false/\x≠("__name__" : Str)) /\
  own<=N.length/\(N.drop own).map some=fr.map fun i=>oN[i]?
noncomputable instance {sc:Scope} {N:List Str} {own:Nat} {G oN:List Str} {fr:List Nat}:Decidable (dJ sc N own G oN fr):=by unfold dJ;infer_instance
theorem Bq {X:Cx} {nl:Nat} {G0:List Str} (T:Tb X nl G0) {sc:Scope} {N:List Str} {own:Nat} {G oN:List Str} {fr:List Nat} (ck:dJ sc N own G oN fr) (cl:List (Str×Addr)) (C:Addr) (s:Shared) (H:Hp) (fp:List Addr) :
    Tb (aO X N sc cl C s H fp) own G:=by
  obtain ⟨_,_,_,nd,l,f,db,g,_,_⟩:=ck;refine ⟨T.hu,T.calm,nd,fun x hx=>?_,fun x hx=>?_,fun x hx=>?_⟩
  · refine ⟨?_,db x hx⟩;have hx':x∈N.take own++N.drop own:=by rw [List.take_append_drop];exact hx
    rcases List.mem_append.mp hx' with z | z
    · exact .inl (eZ (l x z) (by decide))
    · rcases iN (env:=X.env) (f x z) with q | q
      · exact .inr (.inr q)
      · exact .inr (.inl q)
  · have q:=eZ (env:=X.env) (l x hx) (by decide);exact ⟨.inl q,.inr q⟩
  · obtain ⟨g1,g2,g3⟩:=g x hx;exact ⟨eZ (env:=X.env) g1 (by decide),g2,g3⟩
theorem zj {X:Cx} {nl:Nat} {G0:List Str} (T:Tb X nl G0) {sc:Scope} {N:List Str} {own:Nat} {G oN:List Str} {fr:List Nat} (ck:dJ sc N own G oN fr) (cl:List (Str×Addr)) (C:Addr) (s:Shared) (H:Hp) (fp:List Addr) (E:Value->Shared->Prop) :
    Tb (aO X N sc cl C s H fp E) own G:=let T1:=Bq T ck cl C s H fp;⟨T1.hu,T1.calm,T1.nd,T1.vis,T1.loc,T1.gl⟩
noncomputable def Jm (X:Cx) (ifs:List Expr) (t:TT):Prop :=
  ∀ (pins:List (Addr×Obj)) (s:Shared) (σ:St) (H:Hp) (Q:Bool->Hp->Prop),aU X pins σ H s->t σ H Q->wpAny (model X.prog X.w) X.A (forIn ifs true fun c r=>if r=true then do let ok <- isTrue c X.env (eval c X.env);pure (ForInStep.yield ok) else pure (ForInStep.yield r))
    (TP X pins σ Q) X.xe s
noncomputable def sK (X:Cx) (ifs:List Expr) (t:aT->R Bool):Prop:=Jm X ifs (Ct X t)
structure Z.sK (X:Cx) (ifs:List Expr) (t:aT->R Bool):Prop where
  un:D2.sK X ifs t
theorem ci {X:Cx}:Z.sK X [] (fun _=>.ok true):=⟨fun pins s σ H Q I ⟨ρ,sl,q⟩=>wpAny_tests_nil ⟨H,I,q H (aM.refl _)⟩⟩
theorem eR {X:Cx} {c:Expr} {t:aT->R Bool} (h:Z.nc X c t):Z.sK X [c] t:=⟨have h:=h.un;fun pins s σ H Q I q=>wpAny_tests_one (h pins s σ H Q I q)⟩
noncomputable def bP (b:PyData->aT->Option aT) (t:aT->R Bool) (f:Fe) (ρ:aT):List PyData->R (List PyData)
  | []=>.ok []
  | d::ds=>match b d ρ with
    | none=>.no
    | some ρ1=>t ρ1>>=fun k=>if k=true then f ρ1>>=fun x=>bP b t f ρ ds>>=fun xs=>.ok (x::xs) else bP b t f ρ ds
noncomputable def ay (own:Nat) (fr:List Nat) (ρ:aT):aT:=List.replicate own .non++fr.map fun i=>ρ.getD i .non
noncomputable def lL {α:Type}:R α->R α
  | .ex _=>.no
  | r=>r
noncomputable def bE (it:aT->R (List PyData)) (own:Nat) (fr:List Nat) (b:PyData->aT->Option aT) (t:aT->R Bool) (f:Fe):Fe:=fun ρ =>
  lL (it ρ)>>=fun ds=>if ds.length<=sizeLine then match bP b t f (ay own fr ρ) ds with
    | .ok xs=>.ok (.list xs)
    | .ex c=>.ex c
    | .no=>.no
  else .no
noncomputable def gW (own:Nat) (fr:List Nat) (σ:St):St:=List.replicate own none++fr.map fun i=>(σ[i]?).join
theorem Bp {H:Hp} {σ:St} {ρ:aT} (h:Sl H σ ρ) (own:Nat) (fr:List Nat) (hin:∀ i∈fr,i < ρ.length):Sl H (gW own fr σ) (ay own fr ρ):=by
  refine ⟨by simp [gW,ay],fun i c o h1 h2=>?_⟩;unfold ay at h1;unfold gW at h2;by_cases hi:i < own
  · rw [List.getElem?_append_left (by simpa using hi),List.getElem?_replicate,if_pos hi] at h1;cases h1;exact True.intro
  · rw [List.getElem?_append_right (by simpa using hi),List.getElem?_map,List.length_replicate] at h1 h2;cases e:fr[i-own]? with
    | none=>rw [e] at h1;cases h1
    | some j =>
      rw [e] at h1 h2;have hj:=hin j (List.mem_of_getElem? e);have hj':j < σ.length:=by rw [h.1];exact hj
      cases h1;cases h2;refine h.2 j _ _ ?_ ?_
      · show ρ[j]?=some (ρ.getD j .non);rw [List.getD_eq_getElem?_getD,List.getElem?_eq_getElem hj];rfl
      · show σ[j]?=some ((σ[j]?).join);rw [List.getElem?_eq_getElem hj'];rfl
section
variable {X:Cx} {pins:List (Addr×Obj)} {σ:St} {H:Hp} {s:Shared} {nl:Nat} {G0:List Str} {sc:Scope} {N:List Str} {own:Nat} {G:List Str} {fr:List Nat} {cl:List (Str×Addr)} {fp:List Addr} {a C:Addr} {h4:Heap} {t4:Nat} {m:Str->Option Value}
theorem zH (I:aU X pins σ H s) (ck:dJ sc N own G X.N fr) (hf:∀ b∈fp,nh X pins H b) (hob:∀ b∈fp,b < s.heap.objs.size) (hcl1:∀ x c,cl.lookup x=some c->X.env.cells.lookup x=some c) (hcl2:∀ x∈sc.names,x.2=.free->∃ c,cl.lookup x.1=some c)
    (vis:∀ x∈X.N,DL X.env.scope x) (hout:∀ y∈sc.names,y.2=.free->X.env.kindOf y.1=some .cell\/X.env.kindOf y.1=some .free)
    (ha:s.heap.objs.size<=a) (hC:s.heap.objs.size<=C) (hac:a≠C) (keep:∀ b o,s.heap.get? b=some o->h4.get? b=some o) (hl:h4.get? a=some { cls:=.type "list",data:=.seq #[] 0 }) (hn:h4.Ns C m) :
    aU (aO X N sc cl C s H fp) [] (gW own fr σ) (cI H a (.lst [])) { s with heap:=h4,toks:=t4 }:=by
  obtain ⟨ck1,ck2,ck3,nd,l,f,db,g,ol,ofr⟩:=ck;have hHa:H a=none:=I.hok.fresh ha;have hHC:H C=none:=I.hok.fresh hC;have lt:∀ {b:Addr} {o:Obj},s.heap.get? b=some o->b < s.heap.objs.size:=fun e=>Heap.lt_size e
  have cellLt:∀ x c,cl.lookup x=some c->c < s.heap.objs.size:=fun x c e=>by
    obtain ⟨v,q⟩:=I.cell x c (hcl1 x c e);exact q.lt
  refine ⟨⟨I.ok.mod,ck1,I.ok.glob,I.ok.blt,hC,fun x y c h1 h2=>I.ok.inj x y c (hcl1 x c h1) (hcl1 y c h2),fun x hx=>?_,fun x c hx=>(Bool.false_ne_true hx).elim,I.ok.hd,I.ok.frames,.inl rfl,fun b hb=>⟨?_,fun x c e=>?_⟩,I.bs,Nat.le_trans I.ok.bsz I.sz,fun b o e hb=>?_,fun b hb hs=>?_,I.stack,I.stkFree⟩,
    rfl,I.bare,Un.laid keep ha hHa,⟨m,hn,fun i x v h1 h2 h3=>?_⟩,fun x c e=>?_,?_,fun x c e=>?_,fun p hp=>?_,?_,?_⟩
  · have q:=ue (env:=X.env) ck2 (show (relabel sc X.env).names.lookup x=some .free\/(relabel sc X.env).names.lookup x=some .cell from hx.elim .inr .inl);exact hcl2 _ q rfl
  · exact Nat.ne_of_lt (Nat.lt_of_lt_of_le (hob b hb) hC)
  · exact (hf b hb).2.2.2.2.1 x c (hcl1 x c e)
  · rcases (hf b hb).2.2.2.1 with z | z
    · exact I.ok.noex b o e z
    · exact absurd (Nat.lt_of_lt_of_le (Heap.lt_size e) I.ok.bsz) (Nat.not_lt.mpr z)
  · rcases List.mem_cons.mp (I.stkSub b hs) with z | z
    · exact (hf b hb).2.1 z
    · exact (hf b hb).2.2.1 z
  · -- a captured name
    have hi:¬ i < own:=fun hi=>by
      unfold gW at h2;rw [List.getElem?_append_left (by simpa using hi),List.getElem?_replicate,if_pos hi] at h2;cases h2
    unfold gW at h2;rw [List.getElem?_append_right (by simpa using hi),List.getElem?_map,List.length_replicate] at h2;cases e:fr[i-own]? with
    | none=>rw [e] at h2;cases h2
    | some j =>
      rw [e] at h2;have h2':(σ[j]?).join=some v:=Option.some.inj h2;have hσ:σ[j]?=some (some v):=by
        cases q:σ[j]? with
        | none=>rw [q] at h2';cases h2'
        | some o=>rw [q] at h2';exact congrArg some h2'
      have hx:(N.drop own)[i-own]?=some x:=by
        rw [List.getElem?_drop];have:own+(i-own)=i:=by omega
        rw [this];exact h1
      have hj:X.N[j]?=some x:=by
        have q:=congrArg (fun l=>l[i-own]?) ofr;simp only [List.getElem?_map,hx,e,Option.map_some] at q;exact (Option.some.inj q).symm
      have hfree:=f x (List.mem_of_getElem? hx);obtain ⟨c,hc⟩:=hcl2 _ (PySem.mem_of_lookup hfree) rfl;have hXc:=hcl1 x c hc;obtain ⟨m0,hn0,hl0⟩:=I.loc;obtain ⟨u,ru,lk⟩:=hl0 j x v hj hσ (vis x (List.mem_of_getElem? hj));have ko:=hout _ (PySem.mem_of_lookup hfree) rfl;refine ⟨u,ru,.inr ⟨(iN (env:=X.env) hfree).symm,c,hc,?_⟩⟩;rcases lk with ⟨k1,_⟩ | ⟨_,c',e1,ob,q1,q2⟩
      · exfalso;rcases ko with k | k <;> (rw [k] at k1;cases k1)
      · rw [hXc] at e1;cases e1;exact ⟨ob,keep _ _ q1,q2⟩
  · obtain ⟨v,o,q,d⟩:=I.cell x c (hcl1 x c e);exact ⟨v,o,keep _ _ q,d⟩
  · show cI H a (.lst []) C=none;rw [aA (Ne.symm hac)];exact hHC
  · have q:=I.freeC x c (hcl1 x c e);show cI H a (.lst []) c=none;rw [aA (Nat.ne_of_lt (Nat.lt_of_lt_of_le (cellLt x c e) ha))];exact q
  · exact absurd (show p∈([]:List (Addr×Obj)) from hp) (by simp)
  · exact I.hok.laid keep ha ⟨Nat.zero_le _,[],0,.nil,hl⟩
  · show (gW own fr σ).length=N.length;have q:=congrArg List.length ofr;rw [List.length_map,List.length_map,List.length_drop] at q;unfold gW;rw [List.length_append,List.length_replicate,List.length_map];omega
end
noncomputable def jW (ρ0 ρ1:aT):Prop:=ρ1.length=ρ0.length/\∀ (i:Nat) (c:br),ρ0[i]?=some c->c=.non\/ρ1[i]?=some c
theorem Sl.unfit {H:Hp} {σ:St} {ρ0 ρ1:aT} (h:Sl H σ ρ1) (f:jW ρ0 ρ1):Sl H σ ρ0:=by
  refine ⟨h.1.trans f.1,fun i c o h1 h2=>?_⟩;rcases f.2 i c h1 with rfl | q
  · exact True.intro
  · exact h.2 i c o q h2
noncomputable def yM (H0:Hp) (σ:St) (ρ:aT):Prop:=∀ (i:Nat) (e:PyData),ρ[i]?=some (.own e)->∃ v,σ[i]?=some (some v)/\iZ H0 e v
inductive Jj (X:Cx) (tn:Nat->Heap->Prop) (fp:List Addr) (a:Addr) (b:PyData->aT->Option aT) (t:aT->R Bool) (f:Fe) (ds:List PyData) (r:R (List PyData)) (H0:Hp) (ρ0:aT) (n:Nat) (s:Shared):Prop
  | mk (i:Nat) (acc:List PyData) (σ:St) (H:Hp) (vs:List V) (hn:n=ds.length-i) (hi:i<=ds.length) (hal:acc.length<=i) (I:aU X [] σ H s) (st:tn i s.heap) (fr:∀ b∈fp,H b=none) (s0:aM H0 H) (hla:H a=some (.lst vs)) (ra:bK H acc vs) (hc:(bP b t f ρ0 (ds.drop i)>>=fun fE=>.ok (acc++fE))=r) (sl:Sl H σ ρ0) (ow:yM H0 σ ρ0)
theorem xp {X:Cx} {J:It} {tn:Nat->Heap->Prop} {it a:Addr} {fp:List Addr} {tg iter elt:Expr} {ifs:List Expr} {scope:Scope} {pos:Pos} {b:PyData->aT->Option aT} {t:aT->R Bool} {f:Fe} {ds:List PyData} {r:R (List PyData)} {Gd:Hp->Prop} {H0:Hp} {ρ0:aT}
    {Rk:Result->Shared->Prop} (T:uO X.prog X.w X.K tg J fp it tn) (calm:X.calm=true) (hfp:∀ H:Hp,(∀ b∈fp,H b=none)->∀ b∈fp,nh X [] H b) (hxe:∀ e s',X.xe e s'->notedBy (model X.prog X.w) X.A X.env (fun x s'=>Rk (.error x) s') e s') (hX:∀ c,r=.ex c->Xw X c H0) (hno:r≠.no) (hg:sy X tg b) (ht:sK X ifs t) (hf:cL X elt f)
    (idt:Bd J Gd ds) (sta:Hq H0 (fun _=>False) Gd) (hsz:ds.length<=sizeLine) (ha0:H0 a=none) (hb0:∀ d ρ1,b d ρ0=some ρ1->jW ρ0 ρ1)
    (fin:∀ xs s' σ' H' vs,r=.ok xs->aU X [] σ' H' s'->aM H0 H'->H' a=some (.lst vs)->bK H' xs vs->Rk (.ok .next) s') :
    ∀ {s:Shared} {σ:St} {H:Hp},aU X [] σ H s->tn 0 s.heap->(∀ b∈fp,H b=none)->aM H0 H->H a=some (.lst [])->bP b t f ρ0 ds=r->Sl H σ ρ0->yM H0 σ ρ0 ->
      codeAny (model X.prog X.w) X.A (.compLoop (.ListComp elt [⟨tg,iter,ifs,0⟩] scope pos) 0 (.ref it) (.ref a) X.env) Rk s:=by
  intro s σ H I st fr s0 hla hc sl ow;refine codeAny_loop rfl (Jj X tn fp a b t f ds r H0 ρ0) (fun n s hI=>?_) ds.length ⟨0,[],σ,H,[],by simp,Nat.zero_le _,Nat.le_refl _,I,st,fr,s0,hla,bK.nil,by rw [List.drop_zero,hc];cases r <;> rfl,sl,ow⟩;clear I st fr s0 hla hc sl ow;obtain ⟨i,acc,σ,H,vs,rfl,hi,hal,I,st,fr,s0,hla,ra,hc,sl,ow⟩:=hI;show wpAny _ X.A ((compTurn (.ListComp elt [⟨tg,iter,ifs,0⟩] scope pos) 0 (.ref it) (.ref a) X.env).onRaise (fun x=>do noteFrame x X.env;theTreesLotGoes x)) _ _ s;refine wpAny_noted ?_;rw [compTurn_list];have gd:Gd H:=sta H (Kp.of s0) fun _ _ z=>z.elim
  have noex:∀ {α:Type} {m:Sem α} {Q Q':α->Shared->Prop} {s:Shared},wpAny (model X.prog X.w) X.A m Q X.xe s->(∀ v s,Q v s->Q' v s)->wpAny (model X.prog X.w) X.A m Q' (notedBy (model X.prog X.w) X.A X.env (fun x s'=>Rk (.error x) s')) s:=fun h k =>
    wpAny_mono h k hxe
  by_cases hlt:i < ds.length
  · obtain ⟨d,hd⟩:∃ d,ds[i]?=some d:=⟨ds[i],List.getElem?_eq_getElem hlt⟩
    have hdrop:ds.drop i=d::ds.drop (i+1):=by
      rw [List.drop_eq_getElem_cons hlt];congr 1;exact Option.some.inj ((List.getElem?_eq_getElem hlt).symm.trans hd)
    rw [hdrop] at hc;unfold bP at hc;refine wpAny_bind (wpAny_standAt (wpAny_bind (dq (T.item X rfl rfl rfl calm i [] s σ H _ I (hfp H fr) st (idt.go i H gd hlt)) fun r s1 zq0=>?_)));obtain ⟨u,hr,h1⟩:=zq0;subst hr;refine wpAny_bind (dq h1 fun _ s2 zq0=>?_);obtain ⟨x,H2,I2,r2,y2,st2,fr2⟩:=zq0;obtain ⟨s02,p2⟩:=idt.yld i H x H2 d gd hd y2;have I2':=I2.pinned (hfp H2 fr2) (T.obj _ _ st2);have back:∀ {σ':St} {H':Hp} {s':Shared},aU X ([]++o8 fp s2.heap) σ' H' s'->aU X [] σ' H' s'/\tn (i+1) s'.heap/\∀ b∈fp,H' b=none:=fun {σ' H' s'} J' =>
      ⟨J'.unpinned,T.keep _ _ _ st2 fun b hb o e=>(J'.pin (b,o) (List.mem_append_right _ (List.mem_append_right _ (iK hb e)))).1,fun b hb=>by
        obtain ⟨o,e,_⟩:=T.obj _ _ st2 b hb;exact (J'.pin (b,o) (List.mem_append_right _ (List.mem_append_right _ (iK hb e)))).2.1⟩
    cases eb:b d ρ0 with
    | none=>rw [eb] at hc;exact absurd hc.symm hno
    | some ρ1 =>
      rw [eb] at hc;dsimp only at hc;have hfit:=hb0 d ρ1 eb;refine wpAny_bind (noex (hg _ s2 σ H2 x u (fun σ' H'=>H'=H2/\Sl H2 σ' ρ1/\∀ (i:Nat) (e:PyData),ρ1[i]?=some (.own e)->ρ0[i]?=some (.own e)/\σ'[i]?=σ[i]?) I2' r2 ⟨ρ0,d,sl.mono s02,p2,by rw [eb];exact fun σ' sl' w'=>⟨rfl,sl',w'⟩⟩) fun _ s3 ⟨σ3,H3,I3,e3,sl3,w3⟩=>?_);subst e3;have ow3:yM H0 σ3 ρ0:=fun j e h=>by
        obtain ⟨v,z1,z2⟩:=ow j e h;rcases hfit.2 j _ h with z | z
        · cases z
        · exact ⟨v,by rw [(w3 j e z).2];exact z1,z2⟩
      cases et:t ρ1 with
      | no=>rw [et] at hc;exact absurd hc.symm hno
      | ex c =>
        rw [et] at hc;exact wpAny_bind (noex (ht _ s3 σ3 H3 (fun _ _=>False) I3 ⟨ρ1,sl3,by rw [et];exact (hX c hc.symm).mono (s0.trans s02)⟩) fun ok s4 ⟨H4,I4,z⟩=>z.elim)
      | ok k =>
        rw [et] at hc;refine wpAny_bind (noex (ht _ s3 σ3 H3 (fun b' H'=>b'=k/\aM H3 H') I3 ⟨ρ1,sl3,by rw [et];exact fun H' s'=>⟨rfl,s'⟩⟩) fun ok s4 ⟨H4,I4,e4,s34⟩=>?_);subst e4;have s04:=(s0.trans s02).trans s34;have hla4:H4 a=some (.lst vs):=s34 _ _ (s02 _ _ hla);have ra4:bK H4 acc vs:=(ra.mono s02).mono s34;cases ok with
        | false =>
          obtain ⟨J1,J2,J3⟩:=back I4;have hc':(bP b t f ρ0 (ds.drop (i+1))>>=fun fE=>.ok (acc++fE))=r:=hc;exact wpAny_pure ⟨rfl,ds.length-(i+1),by omega,i+1,acc,σ3,H4,vs,rfl,hlt,by omega,J1,J2,J3,s04,hla4,ra4,hc',(sl3.unfit hfit).mono s34,ow3⟩
        | true =>
          have hc':((f ρ1>>=fun x=>bP b t f ρ0 (ds.drop (i+1))>>=fun xs=>.ok (x::xs))>>=fun fE=>.ok (acc++fE))=r:=hc;cases ef:f ρ1 with
          | no=>rw [ef] at hc';exact absurd hc'.symm hno
          | ex c =>
            rw [ef] at hc';exact wpAny_bind (wpAny_bind (noex (hf _ s4 σ3 H4 (fun _ _=>False) I4 ⟨ρ1,sl3.mono s34,by rw [ef];exact (hX c hc'.symm).mono s04⟩) fun yv s5 ⟨v5,H5,I5,r5,z⟩=>z.elim))
          | ok y =>
              rw [ef,R.ok_bind] at hc';have hc2:(bP b t f ρ0 (ds.drop (i+1))>>=fun fE=>.ok ((acc++[y])++fE))=r:=by
                rw [<- hc'];cases bP b t f ρ0 (ds.drop (i+1)) with
                | ok fE=>simp only [R.ok_bind,List.append_assoc,List.singleton_append]
                | ex c=>rfl
                | no=>rfl
              refine wpAny_bind (wpAny_bind (noex (hf _ s4 σ3 H4 (fun v H'=>aM H4 H'/\Rp H' y v) I4 ⟨ρ1,sl3.mono s34,by rw [ef];exact fun v H' s' p'=>⟨s',p'⟩⟩) fun yv s5 ⟨v5,H5,I5,r5,s45,p5⟩=>?_));have hla5:H5 a=some (.lst vs):=s45 _ _ hla4;have hlen:vs.length < sizeLine:=by
                rw [ra.length];omega
              refine wpAny_bind (noex (qA _ s5 σ3 H5 (.ref a) [v5] (.ref a) [yv] (fun _ H'=>H'=cI H5 a (.lst (vs++[v5]))) I5 rfl (.cons r5 .nil) ⟨a,vs,v5,rfl,rfl,hla5,hlen,rfl⟩) fun _ s6 zq0=>?_);obtain ⟨v6,H6,I6,r6,e6⟩:=zq0;subst e6;obtain ⟨J1,J2,J3⟩:=back I6;have kp:Kp H5 (cI H5 a (.lst (vs++[v5]))):=gy hla5 (.inl ⟨_,rfl⟩);have s06:aM H0 (cI H5 a (.lst (vs++[v5]))):=fun b o e=>by
                rw [aA (ba e ha0)];exact (s04.trans s45) b o e
              refine wpAny_pure (wpAny_pure ⟨rfl,ds.length-(i+1),by omega,i+1,acc++[y],σ3,_,vs++[v5],rfl,hlt,by rw [List.length_append,List.length_singleton];omega,J1,J2,J3,s06,bq,?_,hc2,?_,ow3⟩)
              · exact bK.append (bK.kp kp _ _ (ra4.mono s45)) (bK.cons (Rp.kp kp _ _ p5) bK.nil)
              · have sl5:Sl H5 σ3 ρ0:=((sl3.unfit hfit).mono s34).mono s45;refine ⟨sl5.1,fun j c o h1 h2=>?_⟩;cases c with
                | exc p=>exact sl5.2 j _ o h1 h2
                | non=>exact True.intro
                | val d' =>
                  obtain ⟨v',z1,z2⟩:=sl5.2 j _ o h1 h2;exact ⟨v',z1,Rp.kp kp _ _ z2⟩
                | own e' =>
                  obtain ⟨v',z1,z2⟩:=ow3 j e' h1;rw [z1] at h2;cases h2;exact ⟨v',rfl,z2.mono s06⟩
  · have e:i=ds.length:=by omega
    subst e;rw [List.drop_length] at hc;have hr':r=.ok acc:=by rw [<- hc];simp only [bP,R.ok_bind,List.append_nil]
    refine wpAny_bind (wpAny_standAt (wpAny_bind (dq (T.done X rfl rfl rfl calm _ [] s σ H _ I (hfp H fr) st (idt.stop _ H gd (Nat.le_refl _))) fun r s1 zq0=>?_)));obtain ⟨hr,I1⟩:=zq0;subst hr;exact wpAny_pure (fin acc s1 σ H vs hr' I1 s0 hla ra)
theorem hR.but {P:Program} {w:World} {H:Hp} {h1 h2:Heap} {C:Addr} (ok:hR P w H h1) (hC:H C=none) (sb:∀ b o,b≠C->h1.get? b=some o->h2.get? b=some o):hR P w H h2:=fun a o e =>
  (ok a o e).stay (fun b u hb q=>sb b u (by
    rcases hb with rfl | hb
    · exact ba e hC
    · exact ba hb hC) q) (fun _ q=>q) fun _ _ q=>q
theorem j8 {h h' base:Heap} {C:Addr} (tp:∀ b o,b≠C->h.get? b=some o->h'.get? b=some o):∀ {l:List Env},C∉lK l->h.FunFrames base l->h'.FunFrames base l
  | [],_,_=>trivial
  | env::l,hC,⟨hk,⟨L,o,hf,hn,ho,hd⟩,hr⟩=>⟨hk,⟨L,o,hf,hn,tp L o (fun z=>hC (List.mem_filterMap.mpr ⟨env,List.mem_cons_self,by rw [hf,z]⟩)) ho,hd⟩,j8 tp (fun z=>hC (by
    obtain ⟨e,he,hz⟩:=List.mem_filterMap.mp z;exact List.mem_filterMap.mpr ⟨e,List.mem_cons_of_mem _ he,hz⟩)) hr⟩
theorem kY {X:Cx} {tg iter elt:Expr} {ifs:List Expr} {sc:Scope} {pos pos':Pos} {it:aT->R (List PyData)} {b:PyData->aT->Option aT} {t:aT->R Bool} {f:Fe} {N:List Str} {own:Nat} {G G0:List Str} {fr:List Nat} {nl:Nat}
    (T:Tb X nl G0) (ck:dJ sc N own G X.N fr) (hout:∀ y∈sc.names,y.2=.free->X.env.kindOf y.1=some .cell\/X.env.kindOf y.1=some .free) (hi:qY X tg iter it)
    (hb0:∀ ρ d ρ1,b d (ay own fr ρ)=some ρ1->jW (ay own fr ρ) ρ1)
    (hbody:∀ cl C s H fp E,Tb (aO X N sc cl C s H fp E) own G->sy (aO X N sc cl C s H fp E) tg b/\sK (aO X N sc cl C s H fp E) ifs t/\cL (aO X N sc cl C s H fp E) elt f)
    (hs:∀ x,foldedSetIterable iter X.env x=pure x) {use:Option (Value->Sem Unit)} {Qc:Value->Shared->Prop} {pins:List (Addr×Obj)} {s:Shared} {σ:St} {H:Hp} (I:aU X pins σ H s) {ρ:aT} {ds:List PyData} {r:R (List PyData)} (sl:Sl H σ ρ) (ei:it ρ=.ok ds)
    (hsz:ds.length<=sizeLine) (ec:bP b t f (ay own fr ρ) ds=r) (hX:∀ c,r=.ex c->Xw X c H) (hno:r≠.no) (hstk:∃ env0 outer0 L,X.stack=env0::outer0/\env0.frame=some L/\X.env.frame=some L)
    (fin:∀ (xs:List PyData) (a C:Addr) (H':Hp) (s':Shared) (m:Str->Option Value) (vs:List V),r=.ok xs->aU X pins σ H' s'->nh X pins H' C->s'.heap.Ns C m->aM H H'->H a=none->H' a=some (.lst vs)->bK H' xs vs->compPost (model X.prog X.w) X.A X.xe use Qc (.ref a) C (.ok .next) s') :
    wpAny (model X.prog X.w) X.A (comprehension (.ListComp elt [⟨tg,iter,ifs,0⟩] sc pos) sc X.env pos' (newList []) false (eval iter X.env) use) Qc X.xe s:=by
  obtain ⟨cl,hcl,hcl1,hcl2⟩:=uW (scope:=sc) (env:=X.env) fun x hx hf=>I.ok.has _ (hout x hx hf)
  have ck':=ck;obtain ⟨ck1,ck2,ck3,_,_,_,_,_,_,ofr⟩:=ck';have hin:∀ i∈fr,i < ρ.length:=fun i hi=>by
    have e1:ρ.length=X.N.length:=by rw [<- sl.1];exact I.len
    rw [e1];obtain ⟨k,hk⟩:=List.getElem?_of_mem hi;have q:=congrArg (fun l=>l[k]?) ofr;simp only [List.getElem?_map,hk,Option.map_some] at q;cases z:(N.drop own)[k]? with
    | none=>rw [z] at q;cases q
    | some y =>
      rw [z] at q;have q':some y=X.N[i]?:=Option.some.inj q;exact (List.getElem?_eq_some_iff.mp q'.symm).1
  refine wpAny_comprehension_free (use:=use) rfl hs hcl ck1 ck3 ?_;refine dq (hi pins s σ H (fun J H1=>aM H H1/\∃ Gd,Bd J Gd ds/\Hq H1 (fun _=>False) Gd) I ⟨ρ,sl,by rw [ei];exact fun J H1 s1 z=>⟨s1,z⟩⟩) fun xv s1 h1=>dq h1 fun itv s2 h2=>?_
  obtain ⟨itA,fp,tn,J,H2,e,I2,T2,st2,f2,s02,Gd,idt,sta⟩:=h2;subst e;refine wpAny_newObj_type (wpAny_newFunctionEnv ck2 (by intro y hy;simp at hy) (fun h₁ hns₁ hsb₁=>?_) ck1);dsimp only at hns₁ hsb₁ ⊢;generalize hHp:s2.heap.push { cls:=.type "list",dict:=none,data:=.seq ([]:List Value).toArray }=Hp2 at hns₁ hsb₁ ⊢;have hC:Hp2.objs.size=s2.heap.objs.size+1:=by rw [<- hHp,Heap.size_push]
  have hDC:s2.heap.objs.size≠Hp2.objs.size:=by rw [hC];exact Nat.ne_of_lt (Nat.lt_succ_self _)
  have hCle:s2.heap.objs.size<=Hp2.objs.size:=by rw [hC];exact Nat.le_succ _
  have below:∀ b,b < s2.heap.objs.size->b≠Hp2.objs.size:=fun b hb=>by rw [hC];exact Nat.ne_of_lt (Nat.lt_succ_of_lt hb)
  have old:∀ b o,s2.heap.get? b=some o->h₁.get? b=some o:=fun b o e=>hsb₁.extBut b o (below b (Heap.lt_size e)) (Heap.get?_push_of_some _ (hHp ▸ Heap.get?_push_of_some _ e))
  have hacc:h₁.get? s2.heap.objs.size=some { cls:=.type "list",dict:=none,data:=.seq ([]:List Value).toArray }:=hsb₁.extBut _ _ hDC (Heap.get?_push_of_some _ (hHp ▸ Heap.get?_push_size _ rfl));have hob:∀ b∈fp,b < s2.heap.objs.size:=fun b hb=>by
    obtain ⟨o,e,_⟩:=T2.obj _ _ st2 b hb;exact Heap.lt_size e
  have sl2:Sl H2 σ ρ:=sl.mono s02;have IC:aU (aO X N sc cl Hp2.objs.size s2 H2 fp) [] (gW own fr σ) (cI H2 s2.heap.objs.size (.lst [])) { s2 with heap:=h₁,toks:=s2.toks+([]:List (Str×Value)).length } :=
    zH I2 ck f2 hob hcl1 hcl2 (fun x hx=>(T.vis x hx).1) hout (Nat.le_refl _) hCle hDC old hacc hns₁
  let E:Value->Shared->Prop:=fun e s'=>∃ c Ce pins' σ' H' s1 H1,r=.ex c/\X.mg c=some (.ref Ce)/\aU (aO X N sc cl Hp2.objs.size s2 H2 fp) pins' σ' H' s1/\aM H2 H1/\qZ X.prog X.w X.stack H' s1 Ce H1 e s'
  obtain ⟨hg,ht,hf⟩:=hbody cl Hp2.objs.size s2 H2 fp E (zj T ck cl Hp2.objs.size s2 H2 fp E);have ha0:H2 s2.heap.objs.size=none:=I2.hok.fresh (Nat.le_refl _);have hfp:∀ H':Hp,(∀ b∈fp,H' b=none)->∀ b∈fp,nh (aO X N sc cl Hp2.objs.size s2 H2 fp E) [] H' b:=fun H' hn b hb =>
    ⟨hn b hb,below b (hob b hb),fun z=>by
      rcases List.mem_cons.mp (I2.stkSub b z) with y | y
      · exact (f2 b hb).2.1 y
      · exact (f2 b hb).2.2.1 y,.inl hb,fun x c e=>(f2 b hb).2.2.2.2.1 x c (hcl1 x c e),fun p hp=>absurd (show p∈([]:List (Addr×Obj)) from hp) (by simp)⟩
  have st3:tn 0 h₁:=T2.keep _ _ _ st2 fun b _ o e=>old b o e
  have slC:Sl H2 (gW own fr σ) (ay own fr ρ):=Bp sl2 own fr hin;have fin':∀ xs s' σ' H' vs,r=.ok xs->aU (aO X N sc cl Hp2.objs.size s2 H2 fp E) [] σ' H' s'->aM H2 H'->H' s2.heap.objs.size=some (.lst vs)->bK H' xs vs ->
      compPost (model X.prog X.w) X.A X.xe use Qc (.ref s2.heap.objs.size) Hp2.objs.size (.ok .next) s':=fun xs s' σ' H' vs hr J' s2' hv rv=>by
    obtain ⟨m,hn,_⟩:=J'.loc;exact fin xs _ _ H' s' m vs hr (I2.call' (s':=s') (ch:=fp) J'.os J'.base J'.hok J'.bare (fun b hb=>⟨(f2 b hb).2.2.2.1,(f2 b hb).2.1,(f2 b hb).2.2.2.2.1,(f2 b hb).2.2.2.2.2⟩)) (I2.fpOk hCle J'.free) hn (s02.trans s2') (s02.free ha0) hv rv
  have hXc:∀ c,r=.ex c->Xw (aO X N sc cl Hp2.objs.size s2 H2 fp E) c H2:=fun c hr H1 s1 Ce hm pins' σ' H' s1' e s' J f =>
    ⟨c,Ce,pins',σ',H',s1',H1,hr,hm,J.unwish,s1,f⟩
  have hxe:∀ e s',E e s'->notedBy (model X.prog X.w) X.A (compEnvC sc cl Hp2.objs.size X.env) (fun x s'=>compPost (model X.prog X.w) X.A X.xe use Qc (.ref s2.heap.objs.size) Hp2.objs.size (.error x) s') e s':=fun e s' hE=>by
    obtain ⟨c,Ce,pins',σ',H',s1,H1,hr,hm,J,same1,f⟩:=hE;obtain ⟨env0,outer0,L,k1,k2,k3⟩:=hstk;refine f.note k1 I.ok.frames k2 k3 fun h4 f4 up=>?_
    obtain ⟨m,hn,_⟩:=(f4.inv (X:=aO X N sc cl Hp2.objs.size s2 H2 fp) J).loc;refine ⟨m,hn,fun h5 sb cenv _=>?_⟩;have fC:=I2.fpOk hCle J.free;have fC1:H1 Hp2.objs.size=none:=(f4.inv (X:=aO X N sc cl Hp2.objs.size s2 H2 fp) J).free;have nfr:Hp2.objs.size∉lK X.stack:=fun z=>by
      rcases List.mem_cons.mp (I2.stkSub _ z) with y | y
      · exact fC.2.1 y
      · exact fC.2.2.1 y
    have Io:=I2.call' (s':=s1) (ch:=fp) J.os J.base J.hok J.bare (fun b hb=>⟨(f2 b hb).2.2.2.1,(f2 b hb).2.1,(f2 b hb).2.2.2.2.1,(f2 b hb).2.2.2.2.2⟩);have Io2:aU X pins σ H' { s1 with heap:=PySem.W.hideAll s1.heap [Hp2.objs.size],toks:=s1.toks }:=by
      obtain ⟨g0,g1,g2,g3,g4,g5⟩:=fC;exact Io.turned (t':=s1.toks) (fun b o hb q=>PySem.W.hideAll_get _ q (by simpa using hb)) g0 g1 g3 g4 g5
    obtain ⟨p,a0,B,rfl,t,okB,hp,cov⟩:=f4.ex;have stB:(PySem.W.hideAll B [Hp2.objs.size]).StaysIn B:=fun b o q=>PySem.W.of_hideAll _ q
    have hid:∀ {h:Heap} {b:Addr} {o:Obj},(PySem.W.hideAll h [Hp2.objs.size]).get? b=some o->b≠Hp2.objs.size:=fun {h b o} q z=>by
      rw [PySem.W.hideAll_none _ (by rw [z];exact List.mem_singleton.mpr rfl)] at q;cases q
    have tp:∀ b o,b≠Hp2.objs.size->h4.get? b=some o->h5.get? b=some o:=fun b o hb q=>(sb.2 b hb).trans q
    have ne_e:p≠Hp2.objs.size:=fun z=>by
      obtain ⟨oe,vs,q1,_,q2,_⟩:=t.first;obtain ⟨o,es,ep,q3,q4,_⟩:=hn;have q3':h4.get? Hp2.objs.size=some o:=q3;rw [<- z,q1] at q3';cases q3';rw [q2] at q4;cases q4
    have f5:qZ X.prog X.w X.stack H' { s1 with heap:=PySem.W.hideAll s1.heap [Hp2.objs.size],toks:=s1.toks } Ce H1 (.ref p) { s' with heap:=h5 }:=by
      refine ⟨f4.os,f4.bare,f4.same,⟨p,a0,PySem.W.hideAll B [Hp2.objs.size],rfl,?_,?_,hp,fun b o q n hb=>?_⟩,fun b o q n hb=>?_⟩
      · obtain ⟨t1,t2,t3,fl,oe,vs,T',oT,ts,a1,a2,a3,a4,a5,a6,a7,a8,a9⟩:=t;refine ⟨fun b o q=>tp b o (hid q) (t1 b o (stB b o q)),PySem.W.fresh_of_stays stB t2,j8 tp nfr (PySem.W.funFrames_base stB t3),fl,oe,vs,T',oT,ts,tp _ _ ne_e a1,a2,a3,a4,PySem.W.fresh_of_stays stB a5,a6,tp _ _ ?_ a7,a8,a9⟩;intro z;obtain ⟨o,es,ep,q3,q4,_⟩:=hn;have q3':h4.get? Hp2.objs.size=some o:=q3;have a7':h4.get? T'=some oT:=a7;rw [<- z,a7'] at q3';cases q3';rw [a8] at q4;cases q4
      · exact hR.but okB fC1 fun b o hb q=>PySem.W.hideAll_get _ q (by simpa using hb)
      · obtain ⟨z1,z2⟩:=cov b o (PySem.W.of_hideAll _ q) n hb;exact ⟨PySem.W.hideAll_get _ z1 (by simpa using hid q),z2⟩
      · obtain ⟨⟨sl',z1⟩,z2⟩:=f4.slot b o (PySem.W.of_hideAll _ q) n hb;exact ⟨⟨sl',tp b _ (hid q) z1⟩,z2⟩
    refine f5.pass fun h6 f6=>?_
    exact hX c hr H1 (s02.trans same1) Ce hm pins σ H' _ _ _ Io2 f6
  have loop:=xp (X:=aO X N sc cl Hp2.objs.size s2 H2 fp E) (iter:=iter) (scope:=sc) (pos:=pos) T2 T.calm hfp hxe hXc hno hg ht hf idt sta hsz ha0 (fun d ρ1 e=>hb0 ρ d ρ1 e) fin' (IC.wish E) st3 (fun b hb=>by
      show cI H2 s2.heap.objs.size (.lst []) b=none;rw [aA (Nat.ne_of_lt (hob b hb))];exact (f2 b hb).1) (cB ha0 _) bq ec (slC.mono (cB ha0 _)) (fun i e h=>by
      obtain ⟨o,z1,v,rfl,z2⟩:=slC.at h;exact ⟨v,z1,z2⟩)
  exact codeAny_compStart_list loop (T2.self _ 0 _ _ _ st3 loop)
theorem oG {X:Cx} {tg iter elt:Expr} {ifs:List Expr} {sc:Scope} {pos:Pos} {it:aT->R (List PyData)} {b:PyData->aT->Option aT} {t:aT->R Bool} {f:Fe} {N:List Str} {own:Nat} {G G0:List Str} {fr:List Nat} {nl:Nat}
    (T:Tb X nl G0) (ck:dJ sc N own G X.N fr) (hout:∀ y∈sc.names,y.2=.free->X.env.kindOf y.1=some .cell\/X.env.kindOf y.1=some .free) (hi:qY X tg iter it)
    (hb0:∀ ρ d ρ1,b d (ay own fr ρ)=some ρ1->jW (ay own fr ρ) ρ1)
    (hbody:∀ cl C s H fp E,Tb (aO X N sc cl C s H fp E) own G->sy (aO X N sc cl C s H fp E) tg b/\sK (aO X N sc cl C s H fp E) ifs t/\cL (aO X N sc cl C s H fp E) elt f)
    (hs:∀ x,foldedSetIterable iter X.env x=pure x:=by intro _;rfl) (hstk:∃ env0 outer0 L,X.stack=env0::outer0/\env0.frame=some L/\X.env.frame=some L:=by exact ⟨_,_,_,rfl,rfl,rfl⟩):lQ X (.ListComp elt [⟨tg,iter,ifs,0⟩] sc pos) (bE it own fr b t f):=by
  intro pins s σ H Q I h;obtain ⟨ρ,sl,q⟩:=h;unfold bE at q;rw [eval_ListComp];cases ei:it ρ with
  | ex c=>rw [ei] at q;exact q.elim
  | no=>rw [ei] at q;exact q.elim
  | ok ds =>
    rw [ei] at q;simp only [lL,R.ok_bind] at q;split at q
    · rename_i hsz;cases ec:bP b t f (ay own fr ρ) ds with
      | no=>rw [ec] at q;exact q.elim
      | ex c =>
        rw [ec] at q;exact kY (use:=none) T ck hout hi hb0 hbody hs I sl ei hsz ec (fun c' hr=>by cases hr;exact q) (fun z=>nomatch z) hstk fun xs a C H' s' m vs hr=>by cases hr
      | ok xs =>
        rw [ec] at q;refine kY (use:=none) T ck hout hi hb0 hbody hs I sl ei hsz ec (fun c' hr=>by cases hr) (fun z=>nomatch z) hstk fun xs' a C H' s' m vs hr I' fC hn s2' ha hv rv=>?_
        cases hr;obtain ⟨f0,f1,f2,f3,f4,f5⟩:=fC;refine ⟨m,hn,fun h' sb=>⟨.ref a,H',I'.turned (t':=s'.toks) (fun b o hb e=>sb.extBut b o hb e) f0 f1 f3 f4 f5,rfl,?_⟩⟩;refine q _ H' s2' ⟨?_,_,rfl,ha⟩;simp only [iZ];exact ⟨_,vs,rfl,hv,rv⟩
    · exact q.elim
theorem DM {X:Cx} {tg iter elt:Expr} {ifs:List Expr} {sc:Scope} {pos:Pos} {it:aT->R (List PyData)} {b:PyData->aT->Option aT} {t:aT->R Bool} {f:Fe} {N:List Str} {own:Nat} {G G0:List Str} {fr:List Nat} {nl:Nat} (T:Tb X nl G0) (ck:dJ sc N own G X.N fr) (hout:∀ y∈sc.names,y.2=.free->X.env.kindOf y.1=some .cell\/X.env.kindOf y.1=some .free) (hi:Z.qY X tg iter it) (hb0:∀ ρ d ρ1,b d (ay own fr ρ)=some ρ1->jW (ay own fr ρ) ρ1) (hbody:∀ cl C s H fp E,Tb (aO X N sc cl C s H fp E) own G->Z.sy (aO X N sc cl C s H fp E) tg b/\Z.sK (aO X N sc cl C s H fp E) ifs t/\Z.cL (aO X N sc cl C s H fp E) elt f) (hs:∀ x,foldedSetIterable iter X.env x=pure x:=by intro _;rfl) (hstk:∃ env0 outer0 L,X.stack=env0::outer0/\env0.frame=some L/\X.env.frame=some L:=by exact ⟨_,_,_,rfl,rfl,rfl⟩):Z.lQ X (.ListComp elt [⟨tg,iter,ifs,0⟩] sc pos) (bE it own fr b t f) :=
  ⟨D2.oG T ck hout hi.un hb0 (fun cl C s H fp E T=>let ⟨q1,q2,q3⟩:=hbody cl C s H fp E T;⟨q1.un,q2.un,q3.un⟩) hs hstk⟩
theorem BD {X:Cx} {tg iter elt:Expr} {ifs:List Expr} {sc:Scope} {pos py spos:Pos} {it:aT->R (List PyData)} {b:PyData->aT->Option aT} {t:aT->R Bool} {f:Fe} {N:List Str} {own:Nat} {G G0:List Str} {fr:List Nat} {nl:Nat} {y:Str} {i:Nat}
    (T:Tb X nl G0) (ck:dJ sc N own G X.N fr) (hout:∀ y∈sc.names,y.2=.free->X.env.kindOf y.1=some .cell\/X.env.kindOf y.1=some .free) (hi:qY X tg iter it)
    (hb0:∀ ρ d ρ1,b d (ay own fr ρ)=some ρ1->jW (ay own fr ρ) ρ1)
    (hbody:∀ cl C s H fp E,Tb (aO X N sc cl C s H fp E) own G->sy (aO X N sc cl C s H fp E) tg b/\sK (aO X N sc cl C s H fp E) ifs t/\cL (aO X N sc cl C s H fp E) elt f)
    (hN:(X.N.take nl)[i]?=some y) (hsw:swapsWith (.ListComp elt [⟨tg,iter,ifs,0⟩] sc pos) (some (.Name y py)) spos.line X.env=pure true)
    (hs:∀ x,foldedSetIterable iter X.env x=pure x:=by intro _;rfl) (hstk:∃ env0 outer0 L,X.stack=env0::outer0/\env0.frame=some L/\X.env.frame=some L:=by exact ⟨_,_,_,rfl,rfl,rfl⟩):kN X (.Assign [.Name y py] (.ListComp elt [⟨tg,iter,ifs,0⟩] sc pos) spos) (i6 i (bE it own fr b t f)):=fun Fm=>by
  intro pins s σ H D I h;obtain ⟨ρ,sl,q⟩:=h;unfold i6 bE at q;obtain ⟨hNi,hl,hf⟩:=T.nm hN;cases ei:it ρ with
  | ex c=>rw [ei] at q;exact q.elim
  | no=>rw [ei] at q;exact q.elim
  | ok ds =>
    rw [ei] at q;simp only [lL,R.ok_bind] at q;by_cases hsz:ds.length<=sizeLine
    · rw [if_pos hsz] at q;cases ec:bP b t f (ay own fr ρ) ds with
      | no=>rw [ec] at q;exact q.elim
      | ex c =>
        rw [ec] at q;rw [exec_Assign_Name_used _ _ _ _ hsw];refine wpAny_bind (wpAny_standAt (wpAny_bind ?_));show wpAny _ X.A (do let _ <- comprehension (.ListComp elt [⟨tg,iter,ifs,0⟩] sc pos) sc X.env _ (newList []) false (eval iter X.env) (some (assign (.Name y py) X.env))) _ _ s;exact wpAny_bind (dq (kY (use:=some (assign (.Name y py) X.env)) (Qc:=fun _ s'=>False) T ck hout hi hb0 hbody hs I sl.sl ei hsz ec (fun c' hr=>by cases hr;exact q.1.mono sl.fm) (fun z=>nomatch z) hstk fun xs a C H' s' m vs hr=>by cases hr) fun _ s' hq=>hq.elim)
      | ok xs =>
        rw [ec] at q;rw [exec_Assign_Name_used _ _ _ _ hsw];refine wpAny_bind (wpAny_standAt (wpAny_bind ?_));show wpAny _ X.A (do let _ <- comprehension (.ListComp elt [⟨tg,iter,ifs,0⟩] sc pos) sc X.env _ (newList []) false (eval iter X.env) (some (assign (.Name y py) X.env))) _ _ s;refine wpAny_bind (dq (kY (use:=some (assign (.Name y py) X.env)) (Qc:=fun _ s'=>SP X pins D .next s') T ck hout hi hb0 hbody hs I sl.sl ei hsz ec (fun c' hr=>by cases hr) (fun z=>nomatch z) hstk fun xs' a C H' s' m vs hr I' fC hn s2' ha hv rv=>?_) fun _ s' hq=>wpAny_pure (wpAny_pure hq));cases hr;obtain ⟨f0,f1,f2,f3,f4,f5⟩:=fC;show wpAny _ X.A (assign (.Name y py) X.env (.ref a)) _ _ _;refine wpAny_assign_Name (qN I' T.nd hNi hl (v:=.ref a) rfl (fun s'' I'' k=>?_) hf);have sls:iy Fm H' (σ.set i (some (.ref a))) (ρ.set i (.own (.list xs))):=iy.setOwn sl (sl.mono s2') s2' i ⟨by simp only [iZ];exact ⟨a,vs,rfl,hv,rv⟩,a,rfl,ha⟩;refine ⟨m,?_,fun h' sb=>⟨_,H',I''.turned (t':=s''.toks) (fun b o hb e=>sb.extBut b o hb e) f0 f1 f3 f4 f5,q _ H' sls⟩⟩;obtain ⟨a',sb',ha'⟩:=k;refine hn.sameBut sb' ?_;rcases ha' with rfl | ha'
        · exact f1
        · exact Ne.symm (f4 y a' ha')
    · rw [if_neg hsz] at q;exact q.elim
theorem iy.freeze {Fm H:Hp} {σ:St} {ρ:aT} {i:Nat} {d:PyData} {a:Addr} {u:HO} {o:Obj} (h:iy Fm H σ ρ) (h1:ρ[i]?=some (.own d)) (h2:σ[i]?=some (some (.ref a))) (hu:H a=some u) (hm:(∃ xs,u=.lst xs)\/∃ ks,u=.dK ks)
    (hr:Rp (cI H a (.frz o u)) d (.ref a)):iy Fm (cI H a (.frz o u)) σ (ρ.set i (.val d)):=by
  have hFa:=h.own i d a h1 h2;have kp:Kp H (cI H a (.frz o u)):=gy hu hm;refine ⟨fun b x e=>?_,⟨by rw [List.length_set];exact h.sl.1,fun j c w' e1 e2=>?_⟩,fun j e b e1 e2=>?_,fun j k e f b e1 e2 e3 e4=>?_⟩
  · rw [aA (ba e hFa)];exact h.fm b x e
  · rw [List.getElem?_set] at e1;by_cases hij:i=j
    · subst hij;rw [if_pos rfl] at e1;split at e1
      · cases e1;rw [h2] at e2;cases e2;exact ⟨_,rfl,hr⟩
      · cases e1
    · rw [if_neg hij] at e1;have q:=h.sl.2 j c w' e1 e2;cases c with
      | exc p=>exact q
      | non=>exact True.intro
      | val d'=>obtain ⟨v,z1,z2⟩:=q;exact ⟨v,z1,Rp.kp kp _ _ z2⟩
      | own d' =>
        obtain ⟨v,z1,z2⟩:=q;subst z1;obtain ⟨b,ob,rfl,hb⟩:=r9 z2;have nb:b≠a:=fun z=>hij (by subst z;exact h.apart i j d d' b h1 e1 h2 e2)
        refine ⟨_,rfl,?_⟩;cases d' <;> simp only [iZ] at z2 ⊢
        · obtain ⟨b',vs,e,hb',r⟩:=z2;cases e;exact ⟨b,vs,rfl,by rw [aA nb];exact hb',bK.kp kp _ _ r⟩
        · obtain ⟨b',vs,e,hb',r⟩:=z2;cases e;exact ⟨b,vs,rfl,by rw [aA nb];exact hb',ej.kp kp _ _ r⟩
  · obtain ⟨ne,e1⟩:=cY (fun e z=>by cases z) e1;exact h.own j e b e1 e2
  · obtain ⟨ne,e1⟩:=cY (fun e z=>by cases z) e1;obtain ⟨ne',e2⟩:=cY (fun e z=>by cases z) e2;exact h.apart j k e f b e1 e2 e3 e4
theorem Dc {X:Cx} {pins:List (Addr×Obj)} {s:Shared} {Fm H:Hp} {σ:St} {ρ:aT} {i:Nat} {d:PyData} (I:aU X pins σ H s) (h:iy Fm H σ ρ) (h1:ρ[i]?=some (.own d)) :
    ∃ H' v,aU X pins σ H' s/\iy Fm H' σ (ρ.set i (.val d))/\σ[i]?=some (some v)/\Rp H' d v:=by
  obtain ⟨w',h2,v,rfl,q⟩:=h.sl.at h1;cases d <;> simp only [iZ] at q
  · rename_i ds;obtain ⟨a,vs,rfl,ha,r⟩:=q;obtain ⟨o,J⟩:=gx I ha (.inl ⟨_,rfl⟩);have hr:Rp (cI H a (.frz o (.lst vs))) (.list ds) (.ref a):=by
      simp only [Rp];exact ⟨a,o,vs,rfl,bq,bK.kp (gy ha (.inl ⟨_,rfl⟩)) _ _ r⟩
    exact ⟨_,_,J,h.freeze h1 h2 ha (.inl ⟨_,rfl⟩) hr,h2,hr⟩
  · rename_i ds;obtain ⟨a,vs,rfl,ha,r⟩:=q;obtain ⟨o,J⟩:=gx I ha (.inr ⟨_,rfl⟩);have hr:Rp (cI H a (.frz o (.dK vs))) (.dict ds) (.ref a):=by
      simp only [Rp];exact .inl ⟨a,o,vs,rfl,bq,ej.kp (gy ha (.inr ⟨_,rfl⟩)) _ _ r⟩
    exact ⟨_,_,J,h.freeze h1 h2 ha (.inr ⟨_,rfl⟩) hr,h2,hr⟩
theorem kN.fz {X:Cx} {st:Stmt} {i:Nat} {f:Fe} (h:kN X st (i6 i f)) (hi:i < X.N.length):kN X st (cf i f):=fun Fm=>by
  intro pins s σ H D I ⟨ρ,sl,q⟩;unfold cf at q;cases ef:f ρ with
  | ex c=>rw [ef] at q;exact h Fm pins s σ H D I ⟨ρ,sl,by unfold i6;rw [ef];exact q⟩
  | no=>rw [ef] at q;exact q.elim
  | ok d =>
    rw [ef] at q;have hr:Dq X Fm (i6 i f) { nx:=fun σ' H'=>iy Fm H' σ' (ρ.set i (.own d)),rt:=fun _ _=>False } σ H:=⟨ρ,sl,by unfold i6;rw [ef];exact fun σ' H' s'=>s'⟩
    refine dq (h Fm pins s σ H _ I hr) fun fl s' z=>?_
    cases fl with
    | next =>
      obtain ⟨σ',H',I',sls⟩:=z;have hi':i < ρ.length:=by rw [<- sl.sl.1,I.len];exact hi
      obtain ⟨H2,v,I2,sl2,_,_⟩:=Dc I' sls (i:=i) (d:=d) (by rw [List.getElem?_set,if_pos rfl,if_pos hi']);rw [List.set_set] at sl2;exact ⟨σ',H2,I2,q σ' H2 sl2⟩
    | brk=>obtain ⟨_,_,_,z⟩:=z;exact z.elim
    | cont=>obtain ⟨_,_,_,z⟩:=z;exact z.elim
    | ret u=>obtain ⟨_,_,_,_,_,z⟩:=z;exact z.elim
theorem jg {X:Cx} {st:Stmt} {i:Nat} {f:Fe} (h:Z.kN X st (i6 i f)) (hi:i < X.N.length):Z.kN X st (cf i f) :=
  ⟨D2.kN.fz h.un hi⟩
theorem ql {X:Cx} {tg iter elt:Expr} {ifs:List Expr} {sc:Scope} {pos:Pos} {it:aT->R (List PyData)} {b:PyData->aT->Option aT} {t:aT->R Bool} {f:Fe} {N:List Str} {own:Nat} {G G0:List Str} {fr:List Nat} {nl:Nat}
    (T:Tb X nl G0) {oN:List Str} {on:List (Str×NameKind)} (hoN:X.N=oN) (hon:X.env.scope.names=on)
    (ck:dJ sc N own G oN fr/\∀ y∈sc.names,y.2=.free->on.lookup y.1=some .cell\/on.lookup y.1=some .free) (hi:qY X tg iter it)
    (hb0:∀ ρ d ρ1,b d (ay own fr ρ)=some ρ1->jW (ay own fr ρ) ρ1)
    (hbody:∀ cl C s H fp E,Tb (aO X N sc cl C s H fp E) own G->sy (aO X N sc cl C s H fp E) tg b/\sK (aO X N sc cl C s H fp E) ifs t/\cL (aO X N sc cl C s H fp E) elt f)
    (hs:∀ x,foldedSetIterable iter X.env x=pure x:=by intro _;rfl) (hstk:∃ env0 outer0 L,X.stack=env0::outer0/\env0.frame=some L/\X.env.frame=some L:=by exact ⟨_,_,_,rfl,rfl,rfl⟩):lQ X (.ListComp elt [⟨tg,iter,ifs,0⟩] sc pos) (bE it own fr b t f) :=
  oG T (by rw [hoN];exact ck.1) (fun y hy hf=>by unfold Env.kindOf;rw [hon];exact ck.2 y hy hf) hi hb0 hbody hs hstk
theorem bj {X:Cx} {tg iter elt:Expr} {ifs:List Expr} {sc:Scope} {pos:Pos} {it:aT->R (List PyData)} {b:PyData->aT->Option aT} {t:aT->R Bool} {f:Fe} {N:List Str} {own:Nat} {G G0:List Str} {fr:List Nat} {nl:Nat} (T:Tb X nl G0) {oN:List Str} {on:List (Str×NameKind)} (hoN:X.N=oN) (hon:X.env.scope.names=on) (ck:dJ sc N own G oN fr/\∀ y∈sc.names,y.2=.free->on.lookup y.1=some .cell\/on.lookup y.1=some .free) (hi:Z.qY X tg iter it) (hb0:∀ ρ d ρ1,b d (ay own fr ρ)=some ρ1->jW (ay own fr ρ) ρ1) (hbody:∀ cl C s H fp E,Tb (aO X N sc cl C s H fp E) own G->Z.sy (aO X N sc cl C s H fp E) tg b/\Z.sK (aO X N sc cl C s H fp E) ifs t/\Z.cL (aO X N sc cl C s H fp E) elt f) (hs:∀ x,foldedSetIterable iter X.env x=pure x:=by intro _;rfl) (hstk:∃ env0 outer0 L,X.stack=env0::outer0/\env0.frame=some L/\X.env.frame=some L:=by exact ⟨_,_,_,rfl,rfl,rfl⟩):Z.lQ X (.ListComp elt [⟨tg,iter,ifs,0⟩] sc pos) (bE it own fr b t f) :=
  ⟨D2.ql T hoN hon ck hi.un hb0 (fun cl C s H fp E T=>let ⟨q1,q2,q3⟩:=hbody cl C s H fp E T;⟨q1.un,q2.un,q3.un⟩) hs hstk⟩
theorem BE {X:Cx} {tg iter elt:Expr} {ifs:List Expr} {sc:Scope} {pos py spos:Pos} {it:aT->R (List PyData)} {b:PyData->aT->Option aT} {t:aT->R Bool} {f:Fe} {N:List Str} {own:Nat} {G G0:List Str} {fr:List Nat} {nl:Nat} {y:Str} (i:Nat)
    (hN:(X.N.take nl)[i]?=some y) (T:Tb X nl G0) {oN:List Str} {on:List (Str×NameKind)} (hoN:X.N=oN) (hon:X.env.scope.names=on)
    (ck:dJ sc N own G oN fr/\∀ y∈sc.names,y.2=.free->on.lookup y.1=some .cell\/on.lookup y.1=some .free) (hi:qY X tg iter it)
    (hb0:∀ ρ d ρ1,b d (ay own fr ρ)=some ρ1->jW (ay own fr ρ) ρ1)
    (hbody:∀ cl C s H fp E,Tb (aO X N sc cl C s H fp E) own G->sy (aO X N sc cl C s H fp E) tg b/\sK (aO X N sc cl C s H fp E) ifs t/\cL (aO X N sc cl C s H fp E) elt f)
    (hsw:swapsWith (.ListComp elt [⟨tg,iter,ifs,0⟩] sc pos) (some (.Name y py)) spos.line X.env=pure true:=by rfl)
    (hs:∀ x,foldedSetIterable iter X.env x=pure x:=by intro _;rfl) (hstk:∃ env0 outer0 L,X.stack=env0::outer0/\env0.frame=some L/\X.env.frame=some L:=by exact ⟨_,_,_,rfl,rfl,rfl⟩):kN X (.Assign [.Name y py] (.ListComp elt [⟨tg,iter,ifs,0⟩] sc pos) spos) (i6 i (bE it own fr b t f)) :=
  BD T (by rw [hoN];exact ck.1) (fun y hy hf=>by unfold Env.kindOf;rw [hon];exact ck.2 y hy hf) hi hb0 hbody hN hsw hs hstk
theorem fw {X:Cx} {tg iter elt:Expr} {ifs:List Expr} {sc:Scope} {pos py spos:Pos} {it:aT->R (List PyData)} {b:PyData->aT->Option aT} {t:aT->R Bool} {f:Fe} {N:List Str} {own:Nat} {G G0:List Str} {fr:List Nat} {nl:Nat} {y:Str} (i:Nat) (hN:(X.N.take nl)[i]?=some y) (T:Tb X nl G0) {oN:List Str} {on:List (Str×NameKind)} (hoN:X.N=oN) (hon:X.env.scope.names=on) (ck:dJ sc N own G oN fr/\∀ y∈sc.names,y.2=.free->on.lookup y.1=some .cell\/on.lookup y.1=some .free) (hi:Z.qY X tg iter it) (hb0:∀ ρ d ρ1,b d (ay own fr ρ)=some ρ1->jW (ay own fr ρ) ρ1) (hbody:∀ cl C s H fp E,Tb (aO X N sc cl C s H fp E) own G->Z.sy (aO X N sc cl C s H fp E) tg b/\Z.sK (aO X N sc cl C s H fp E) ifs t/\Z.cL (aO X N sc cl C s H fp E) elt f) (hsw:swapsWith (.ListComp elt [⟨tg,iter,ifs,0⟩] sc pos) (some (.Name y py)) spos.line X.env=pure true:=by rfl) (hs:∀ x,foldedSetIterable iter X.env x=pure x:=by intro _;rfl) (hstk:∃ env0 outer0 L,X.stack=env0::outer0/\env0.frame=some L/\X.env.frame=some L:=by exact ⟨_,_,_,rfl,rfl,rfl⟩):Z.kN X (.Assign [.Name y py] (.ListComp elt [⟨tg,iter,ifs,0⟩] sc pos) spos) (i6 i (bE it own fr b t f)) :=
  ⟨D2.BE i hN T hoN hon ck hi.un hb0 (fun cl C s H fp E T=>let ⟨q1,q2,q3⟩:=hbody cl C s H fp E T;⟨q1.un,q2.un,q3.un⟩) hsw hs hstk⟩
theorem bu {own:Nat} {fr:List Nat} {i:Nat} (h:i < own):∀ ρ d ρ1,aW i d (ay own fr ρ)=some ρ1->jW (ay own fr ρ) ρ1:=fun ρ d ρ1 e=>by
  have e':ρ1=(ay own fr ρ).set i (.val d):=(Option.some.inj e).symm;subst e';refine ⟨by rw [List.length_set],fun j c hj=>?_⟩;by_cases hij:i=j
  · subst hij;left;unfold ay at hj;rw [List.getElem?_append_left (by simpa using h),List.getElem?_replicate,if_pos h] at hj;exact (Option.some.inj hj).symm
  · right;rw [List.getElem?_set,if_neg hij];exact hj
noncomputable def vO (sc:Scope) (N G:List Str):Prop :=
  N.Nodup/\(∀ x∈N,(sc.names.lookup x=some .local\/sc.names.lookup x=some .cell)/\(x==("__debug__" : Str))=false/\(x==("__classdict__" : Str))=false)/\∀ x∈G,sc.names.lookup x=some .globalImplicit/\(x==("__debug__" : Str))=false/\x≠("__name__" : Str)
noncomputable instance {sc:Scope} {N G:List Str}:Decidable (vO sc N G):=by unfold vO;infer_instance
theorem DZ {P:Program} {w:World} {K:PySem.W.Frag} {mg:Str->Option Value} {base:Heap} {N:List Str} {qual:Str} {sc:Scope} {f:Addr} {cdv:Value} {A:Around} {outer:List Env} {s:Shared} {H:Hp} {E:XK} {G:List Str} {k:Nat}
    (hr:eQ k (A.deeper (envOfC qual sc s.heap.objs.size f cdv))) (ck:vO sc N G):Tb (fP (cQ P w mg) P w K mg base N qual sc f cdv A outer s H E) N.length G:=by
  obtain ⟨nd,l,g⟩:=ck;refine ⟨hr.units,rfl,nd,fun x hx=>⟨?_,(l x hx).2⟩,fun x hx=>⟨?_,.inl rfl⟩,fun x hx=>?_⟩
  · rcases (l x hx).1 with q | q
    · exact .inl q
    · exact .inr (.inl q)
  · exact (l x (List.mem_of_mem_take hx)).1
  · exact g x hx
section
variable {X:Cx} {a b c:Expr} {fa fb fc:Fe} {pos:Pos}
noncomputable def Ia:PyData->R PyData
  | .int i=>.ok (.int (-i))
  | _=>.no
noncomputable def rO (g g':PyData->PyData->R PyData) (fa fb fc:Fe):Fe:=fun ρ=>fa ρ>>=fun x=>fb ρ>>=fun y=>g x y>>=fun d=>tu d>>=fun k=>if k=true then fc ρ>>=fun z=>g' y z else .ok (.bool false)
theorem zg {r r':R2} {g g':PyData->PyData->R PyData} (hg:cA X hJ r g) (hg':cA X hJ r' g') (σ:St) (H:Hp) (Q:VK) (h:jQ X hJ (rO g g' fa fb fc) σ H Q) :
    AS r r' (jQ X uG fa) (jQ X uG fb) (jQ X uG fc) σ H Q :=
  (eT (P:=uG) (k:=fun ρ x=>fb ρ>>=fun y=>g x y>>=fun d=>tu d>>=fun k=>if k=true then fc ρ>>=fun z=>g' y z else .ok (.bool false)) (eL (X:=X) eO Q) h).post fun v H1 ⟨ρ1,d1,sl1,_,p1,q1⟩ =>
    (eT (P:=uG) (f:=fb) (k:=fun ρ y=>g d1 y>>=fun d=>tu d>>=fun k=>if k=true then fc ρ>>=fun z=>g' y z else .ok (.bool false)) (eL (X:=X) eO Q) ⟨ρ1,sl1,q1⟩).post fun u H2 ⟨ρ2,d2,sl2,s2,p2,q2⟩=>by
      refine hg H2 v u d1 d2 _ (gS.mono p1 s2) p2 ?_;cases e:g d1 d2 with
      | ex c=>rw [e] at q2;exact q2
      | no=>rw [e] at q2;exact q2
      | ok d =>
        rw [e] at q2;intro w' H3 s3 p3;have q3:uc X hJ (tu d>>=fun k=>if k=true then fc ρ2>>=fun z=>g' d2 z else .ok (.bool false)) H2 Q:=q2;cases d with
        | bool k =>
          have e3:w'=.bl k:=by simpa only [Rp] using p3
          refine ⟨k,e3,?_⟩;cases k with
          | false=>exact q3 _ H3 s3 e9
          | true =>
            have q4:uc X hJ (fc ρ2>>=fun z=>g' d2 z) H2 Q:=q3;exact (eT (P:=uG) (f:=fc) (k:=fun _ z=>g' d2 z) (eL (X:=X) eO Q) ⟨ρ2,sl2.mono s3,(eL (X:=X) eO Q).mono _ _ _ q4 s3⟩).post fun z H4 ⟨_,d4,_,s4,p4,q5⟩=>hg' H4 u z d2 d4 Q (gS.mono p2 (s3.trans s4)) p4 q5
        | none=>exact q3.elim
        | int i=>exact q3.elim
        | str i=>exact q3.elim
        | list i=>exact q3.elim
        | tuple i=>exact q3.elim
        | dict i=>exact q3.elim
theorem uQ {op op':CmpOp} {r r':R2} {g g':PyData->PyData->R PyData} (ho:i7 X (compareOp op) r) (hg:cA X hJ r g) (ho':i7 X (compareOp op') r') (hg':cA X hJ r' g') (ha:Z.dL X a fa) (hb:Z.dL X b fb) (hc:Z.dL X c fc) (hm:lastMarks [op,op'] [b,c]=false:=by with_unfolding_all rfl):Z.cL X (.Compare a [op,op'] [b,c] pos) (rO g g' fa fb fc):=⟨have ha:=ha.un;have hb:=hb.un;have hc:=hc.un;PE.imp (Al ho ho' ha hb hc hm) (zg hg hg')⟩
variable {es:List Expr} {fs:aT->R (List PyData)}
noncomputable def kr (fs:aT->R (List PyData)):Fe:=fun ρ=>fs ρ>>=fun ds=>if ds.length<=sizeLine then .ok (.tuple ds) else .no
noncomputable def BA (fs:aT->R (List PyData)):Fe:=fun ρ=>fs ρ>>=fun ds=>if ds.length<=sizeLine then .ok (.list ds) else .no
theorem hZ {x1} (h:Z.uD X es fs):Z.cL X (.Tuple es x1 pos) (kr fs):=⟨have h:=h.un;PE.imp (EA h) fun σ H Q q=>(jk (I:=Rp) (f:=fs) (k:=fun _ ds=>if ds.length<=sizeLine then .ok (.tuple ds) else .no) (eL (X:=X) eO Q) q).post fun vs H1 ⟨_,ds,_,_,p,q1⟩=>by
    have p:=pb.mp p;split at q1
    · rename_i hz;exact ⟨by rw [p.length];exact hz,fun a ha=>q1 _ _ (cB ha _) (eI ha p)⟩
    · exact q1.elim⟩
theorem p8 (h:Z.uD X es fs):Z.lQ X (.List es pos) (BA fs):=⟨have h:=h.un;PE.imp (Ev h) fun σ H Q q=>(jk (I:=Rp) (f:=fs) (k:=fun _ ds=>if ds.length<=sizeLine then .ok (.list ds) else .no) (eL (X:=X) zq Q) q).post fun vs H1 ⟨_,ds,_,_,p,q1⟩=>by
    have p:=pb.mp p;split at q1
    · rename_i hz;exact ⟨by rw [p.length];exact hz,fun a ha=>q1 _ _ (cB ha _) (dw ha p)⟩
    · exact q1.elim⟩
theorem sZ  : Z.lQ X (.Dict [] [] pos) (eC (.dict [])):=⟨PE.imp Am fun σ H Q ⟨ρ,sl,q⟩ p hp=>q _ _ (cB hp _) ⟨by simp only [iZ];exact ⟨p,[],rfl,bq,by simp only [ej]⟩,p,rfl,hp⟩⟩
noncomputable def bQ:PyData->PyData->R PyData
  | .list ds,.int i=>match atI ds i with
    | some d=>.ok d
    | none=>.no
  | .tuple ds,.int i=>match atI ds i with
    | some d=>.ok d
    | none=>.no
  | .str z,.int i=>if z.length<=sizeLine then match atI z.cps.toList i with
    | some c=>.ok (.str ⟨#[c]⟩)
    | none=>.no else .no
  | .dict kvs,k=>if mG kvs=true then .no else match ia k with
    | some _=>match mJ kvs k with
      | some d=>.ok d
      | none=>.no
    | none=>.no
  | _,_=>.no
theorem bK.atI {H:Hp} {ds:List PyData} {vs:List V} {i:Int} {d:PyData} (r:bK H ds vs) (e:L2.atI ds i=some d):∃ v,L2.atI vs i=some v/\Rp H d v:=by
  unfold L2.atI at e ⊢;rw [r.length];cases h:wl ds.length i with
  | none=>rw [h] at e;cases e
  | some j =>
    rw [h] at e;obtain ⟨v,e1,p⟩:=r.get (show ds[j]?=some d from e);exact ⟨v,e1,p⟩
noncomputable def Gw:R2:=fun x y H Q=>∃ a v,x=.ref a/\nO H a y (some v)/\Q v H
theorem BQ (hu:X.A.units+1 < cLine):Be X Gw:=by
  intro value slice pins s σ H x y v u Q I rx ry h hs;obtain ⟨a,z,rfl,g,q⟩:=h;cases rx;exact tail_any (tG I g) PySem.F.slot_dict_getitem.lookup (xq hu I g ry fun w' s3 I3 rw'=>⟨z,H,I3,rw',q⟩) hs
theorem GT:cA X hJ (fun x y H Q=>Gx X.K x y H Q\/Gz X.K x y H Q\/Gy x y H Q\/Gw x y H Q) bQ:=fun H x y dx dy Q hx hy q=>by
  unfold bQ at q;split at q
  · rename_i ds i;split at q
    · rename_i d e;obtain ⟨a,vs,rfl,hq,r⟩:=dE (K:=X.K) hx;obtain ⟨v,e1,p⟩:=r.atI e;exact .inl ⟨a,vs,i,v,rfl,cj hy,hq,e1,q v H (aM.refl _) p⟩
    · exact q.elim
  · rename_i ds i;split at q
    · rename_i d e;obtain ⟨a,vs,rfl,hq,r⟩:=cR hx;obtain ⟨v,e1,p⟩:=r.atI e;exact .inr (.inl ⟨a,vs,i,v,rfl,cj hy,i4.of hq,e1,q v H (aM.refl _) p⟩)
    · exact q.elim
  · rename_i z i;split at q
    · rename_i hz;split at q
      · rename_i c e;exact .inr (.inr (.inl ⟨z,i,c,iA hx,cj hy,hz,e,q _ H (aM.refl _) AD⟩))
      · exact q.elim
    · exact q.elim
  · rename_i kvs k;split at q
    · exact q.elim
    rename_i hi;split at q
    · rename_i κ e;split at q
      · rename_i d e1;obtain ⟨a,ks,rfl,h,r⟩:=kW (Bool.not_eq_true _ ▸ hi) hx;obtain ⟨o,g,_,e2⟩:=v7 (κ:=κ) h r;rw [tQ e] at e1;obtain ⟨v,rfl,p⟩:=e2 d e1;rw [<- vX hy e] at g;exact .inr (.inr (.inr ⟨a,v,rfl,g,q v H (aM.refl _) p⟩))
      · exact q.elim
    · exact q.elim
  · exact q.elim
theorem aN (hu:X.A.units+64 < cLine) (ha:Z.dL X a fa) (hb:Z.dL X b fb) (hs:vR b):Z.cL X (.Subscript a b pos) (e2 bQ fa fb):=⟨have ha:=ha.un;have hb:=hb.un;PE.imp (Gn (BR.or (Ed.or (Ec.or (BQ (by omega))))) ha hb hs) (two eO GT)⟩
variable {nl:Nat} {G:List Str} {x:Str} {p:Pos}
noncomputable def rm (X:Cx) (P:Hp->Hp->PyData->V->Prop) (r:List V->Hp->VK->Prop) (g:List PyData->R PyData):Prop:=∀ H xs ds Q,RA gS H ds xs->uc X P (g ds) H Q->r xs H Q
theorem vY {P:Hp->Hp->PyData->V->Prop} {r:List V->Hp->VK->Prop} {g:List PyData->R PyData} (hP:Dn P) (hg:rm X P r g) (σ:St) (H:Hp) (Q:VK) (h:jQ X P (fun ρ=>fs ρ>>=g) σ H Q):HJ r (Az X gS fs) σ H Q :=
  (jk (I:=gS) (k:=fun _=>g) (eL (X:=X) hP Q) h).post fun vs H1 ⟨_,ds,_,_,p1,q1⟩=>hg H1 vs ds Q p1 q1
noncomputable def one (g:PyData->R PyData):List PyData->R PyData
  | [d]=>g d
  | _=>.no
noncomputable def E9 (g:PyData->PyData->R PyData):List PyData->R PyData
  | [d,e]=>g d e
  | _=>.no
theorem vm (g:PyData->R PyData) (fa:Fe):(fun ρ=>ah fa aG ρ>>=one g)=e1 g fa:=by
  funext ρ;unfold ah aG e1;cases fa ρ <;> rfl
theorem Fa (g:PyData->PyData->R PyData) (fa fb:Fe):(fun ρ=>ah fa (ah fb aG) ρ>>=E9 g)=e2 g fa fb:=by
  funext ρ;unfold ah aG e2;cases fa ρ with
  | ok a=>cases fb ρ <;> rfl
  | ex c=>rfl
  | no=>rfl
theorem vD {P:Hp->Hp->PyData->V->Prop} {r:List V->Hp->VK->Prop} {g:PyData->R PyData} (h:∀ H x d Q,gS H d x->uc X P (g d) H Q->r [x] H Q):rm X P r (one g):=fun H xs ds Q ra q=>by
  unfold one at q;split at q
  · rename_i d;simp only [RA] at ra;obtain ⟨v,r',e,p,e2⟩:=ra;subst e2;subst e;exact h H v d Q p q
  · exact q.elim
theorem E5 {P:Hp->Hp->PyData->V->Prop} {r:List V->Hp->VK->Prop} {g:PyData->PyData->R PyData} (h:∀ H x y d e Q,gS H d x->gS H e y->uc X P (g d e) H Q->r [x,y] H Q):rm X P r (E9 g):=fun H xs ds Q ra q=>by
  unfold E9 at q;split at q
  · rename_i d e;simp only [RA] at ra;obtain ⟨v,r',e1,p,v',r'',e2,p',e3⟩:=ra;subst e3;subst e2;subst e1;exact h H v v' d e Q p p' q
  · exact q.elim
section
variable {P:Hp->Hp->PyData->V->Prop} {r:List V->Hp->VK->Prop} {g:PyData->R PyData} {g2:PyData->PyData->R PyData} {id ty:String}
theorem Bm (T:Tb X nl G) (j:Nat) (hG:G[j]?=some x) (hm:X.mg x=none) (hP:Dn P) (hv:bootBuiltins x=some (.builtin id)) (hc:dN X (.builtin id) r) (hg:∀ H x d Q,gS H d x->uc X P (g d) H Q->r [x] H Q) (ha:dL X a fa)
    (he:bc a=true:=by rfl):PE X (.Call (.Name x p) [a] [] pos) (jQ X P (e1 g fa)):=by
  have q:=T.gl x (List.mem_of_getElem? hG);rw [<- vm];exact PE.imp (o6 hc q.1 hm hv (k9 ha rQ he) q.2.2 q.2.1 (bA he)) (vY hP (vD hg))
theorem Fc (T:Tb X nl G) (j:Nat) (hG:G[j]?=some x) (hm:X.mg x=none) (hP:Dn P) (hv:bootBuiltins x=some (.type ty)) (hc:dN X (.type ty) r) (hg:∀ H x d Q,gS H d x->uc X P (g d) H Q->r [x] H Q) (ha:dL X a fa)
    (he:bc a=true:=by rfl):PE X (.Call (.Name x p) [a] [] pos) (jQ X P (e1 g fa)):=by
  have q:=T.gl x (List.mem_of_getElem? hG);rw [<- vm];exact PE.imp (x8 hc q.1 hm hv (k9 ha rQ he) q.2.2 q.2.1 (bA he)) (vY hP (vD hg))
theorem FD (T:Tb X nl G) (j:Nat) (hG:G[j]?=some x) (hm:X.mg x=none) (hP:Dn P) (hv:bootBuiltins x=some (.builtin id)) (hc:dN X (.builtin id) r) (hg:∀ H x y d e Q,gS H d x->gS H e y->uc X P (g2 d e) H Q->r [x,y] H Q) (ha:dL X a fa) (hb:dL X b fb)
    (he:bc a=true:=by rfl) (he2:bc b=true:=by rfl):PE X (.Call (.Name x p) [a,b] [] pos) (jQ X P (e2 g2 fa fb)):=by
  have q:=T.gl x (List.mem_of_getElem? hG);rw [<- Fa];exact PE.imp (o6 hc q.1 hm hv (k9 ha (k9 hb rQ he2) he) q.2.2 q.2.1 (bA he) (pr (by rw [List.all_cons,he2];rfl))) (vY hP (E5 hg))
end
end
theorem mf:fillsNumberSlot (.type "tuple") "mul" = pure false :=
  PySem.fillsNumberSlot_seq (id := "tuple.__mul__") (r:=some (.builtin "tuple.__rmul__")) F.slot_tuple_mul.lookup (by decide +kernel) F.slot_tuple_rmul.lookup (by decide +kernel)
theorem si:seqRepeat? (.type "tuple")=pure (some (.builtin "tuple.__mul__")):=by
  unfold seqRepeat?;rw [PySem.seqSlot_of (T := "tuple") (name := "__mul__") (id := "tuple.__mul__") F.slot_tuple_mul.lookup (by decide +kernel),PySem.seqSlot_of (T := "tuple") (name := "__rmul__") (id := "tuple.__rmul__") F.slot_tuple_rmul.lookup (by decide +kernel)];rfl
theorem oM (a:Int) (t:Tok) (l:Addr) (items:Array Value) (n:Nat) (dd:Option Addr) (sl:Array (Option Value)) :
    Meets (Builtin.«int.__rmul__» ⟨[.int a t,.ref l],[]⟩) (fun _ R s=>s.heap.get? l=some { cls:=.type "tuple",dict:=dd,data:=.seq items n,slots:=sl }/\R (.ok (.ret Value.notImplemented)) s) :=
  .of_wp fun prog w A R s h=>by obtain ⟨hp,g,d,tk,os⟩:=s;obtain ⟨hl,h⟩:=h;wp_walk;exact ⟨_,rfl,h⟩
theorem vH (l:Addr) (items:Array Value) (n:Nat) (dd:Option Addr) (sl:Array (Option Value)) (x:Int) (u:Tok) (h1:2<=x) (h2:x < 2 ^ 63) (h0:¬ items.isEmpty=true) (hc1:¬ (items.size:Int)*x > (2 ^ 63-1) / 8) (hbig:Builtin.Tuple.tupleTooMany ((items.size:Int)*x)=false) (hsz:¬ (List.foldl (fun x1 x2=>x1++x2) #[] (List.replicate x.toNat items)).size > sizeLine) :
    Meets (Builtin.«tuple.__mul__» ⟨[.ref l,.int x u],[]⟩) (fun _ R s=>s.heap.get? l=some { cls:=.type "tuple",dict:=dd,data:=.seq items n,slots:=sl }/\R (.ok (.ret (Value.ref s.heap.objs.size))) { s with heap:=s.heap.push { cls:=Value.type "tuple",data:=Data.seq (List.foldl (fun x1 x2=>x1++x2) #[] (List.replicate x.toNat items)) },toks:=s.toks }) :=
  .of_wp fun prog w A R s h=>by
    obtain ⟨hp,g,d,tk,os⟩:=s;obtain ⟨hl,h⟩:=h;have f1:=AutoSeq1.idx_int;have f2:=AutoSeq1.sub_tuple_tuple;have f3:=AutoSeq1.sub_list_list;have f4:=AutoSeq1.sub_tuple_list;have f5:=AutoSeq1.sub_list_tuple;have e0:(decide (x < -2 ^ 63)||decide (x>=2 ^ 63))=false:=by
      rw [decide_eq_false (by omega),decide_eq_false (by omega)];rfl
    have e1:(items.isEmpty||x==1)=false:=by
      have:(x==1)=false:=by simp;omega
      rw [this,Bool.or_false];exact Bool.eq_false_iff.mpr h0
    have e2:(decide (x<=0)||items.isEmpty)=false:=by
      rw [decide_eq_false (by omega),Bool.false_or];exact Bool.eq_false_iff.mpr h0
    have e3:decide ((items.size:Int)*x > (2 ^ 63-1) / 8)=false:=decide_eq_false hc1;have e4:Builtin.Tuple.tupleTooMany ((items.size:Int)*x)=false:=hbig
    wp_walk using wpAny_loadPart' hl
    refine wpAny_ite_false (decide_eq_false (by rw [e0];exact Bool.false_ne_true)) ?_
    wp_walk using wpAny_loadPart' hl
    refine wpAny_ite_false (decide_eq_false (by rw [e1];exact Bool.false_ne_true)) ?_
    wp_walk using wpAny_loadPart' hl
    refine wpAny_ite_false (decide_eq_false (by rw [e2];exact Bool.false_ne_true)) ?_
    wp_walk using wpAny_loadPart' hl
    refine wpAny_ite_false e3 ?_
    wp_walk using wpAny_loadPart' hl
    exact ⟨_,rfl,h⟩
section
variable {X:Cx} {a b c:Expr} {fa fb fc:Fe} {pos:Pos} {nl:Nat} {G:List Str} {x:Str} {p:Pos}
noncomputable def Dp (K:PySem.W.Frag):R2:=fun x y H Q=>∃ l k xs,x=.ref l/\y=.int k/\i4 K H l xs/\xs≠[]/\2<=k/\k < 2 ^ 63/\xs.length*k.toNat<=sizeLine/\∀ p,H p=none->Q (.ref p) (cI H p (.tup (List.replicate k.toNat xs).flatten))
theorem B7:i7 X (binaryOp .Mult) (Dp X.K):=by
  intro pins s σ H x y v u Q I rx ry h;obtain ⟨l,k,xs,rfl,rfl,hH,hne,h1,h2,hz,q⟩:=h;cases rx;obtain ⟨t,rfl⟩:=ry;obtain ⟨its,r,pl,hz0⟩:=I.tuple hH;obtain ⟨⟨cls,dd,data,sl⟩,e,hc,n,hd⟩:=id pl;simp only at hc hd;subst hc hd;have hl:=r.length;have hnew:List.foldl (fun x1 x2=>x1++x2) #[] (List.replicate k.toNat its.toArray)=(List.replicate k.toNat its).flatten.toArray:=by
    have:=qp its k.toNat [];rw [List.nil_append] at this;exact this
  have hlen:(List.replicate k.toNat its).flatten.length<=sizeLine:=by rw [wq,<- hl,Nat.mul_comm];exact hz
  have hprod:(its.length:Int)*k<=(sizeLine:Int):=by
    have h3:((its.length*k.toNat:Nat):Int)<=(sizeLine:Int):=by rw [<- hl];exact Int.ofNat_le.mpr hz
    have h4:((k.toNat:Nat):Int)=k:=Int.toNat_of_nonneg (by omega);rw [Int.natCast_mul,h4] at h3;exact h3
  have hcap:¬ (its.toArray.size:Int)*k > (2 ^ 63-1) / 8:=by
    rw [List.size_toArray];have hs:sizeLine=16777216:=sizeLine_eq;omega
  have hbig:Builtin.Tuple.tupleTooMany ((its.toArray.size:Int)*k)=false:=by
    unfold Builtin.Tuple.tupleTooMany;rw [List.size_toArray];exact decide_eq_false (by omega)
  refine wpAny_binaryOp_repeat_ref (T := "tuple") (U := "int") (by decide) ⟨_,e,rfl⟩ (fun s'=>typeIs_int s' k t) mf F.fills_int_mul F.slot_int_rmul si F.slot_int_index.lookup
    (call_meets F.slot_int_rmul (typeIs_int s k t) F.entry_int_rmul (F.args_int_rmul_2 _ _) (oM k t l its.toArray n dd sl)
      ⟨e,rfl,⟨_,e,rfl⟩,call_meets F.slot_tuple_mul ⟨_,e,rfl⟩ F.entry_tuple_mul (F.args_tuple_mul_2 _ _) (vH l its.toArray n dd sl k t h1 h2 (by
        intro z;apply hne;have:its=[]:=by simpa using z
        rw [this] at hl;exact List.length_eq_zero_iff.mp hl) hcap hbig (by rw [hnew,List.size_toArray];omega)) ⟨e,?_⟩⟩)
  rw [hnew];refine ⟨.ref s.heap.objs.size,_,I.laid (t':=s.toks) (o:=.tup (List.replicate k.toNat xs).flatten) (fun b ob q=>Heap.get?_push_of_some _ q) (Nat.le_refl _) ?_,rfl,q _ (I.hok.fresh (Nat.le_refl _))⟩;exact ⟨by rw [wq,Nat.mul_comm];exact hz,_,r.rep k.toNat,gT.new _ _⟩
noncomputable def ge:PyData->PyData->R PyData
  | .int i,.int j=>if (-(2 ^ 64) < i/\i < 2 ^ 64)\/(-(2 ^ 64) < j/\j < 2 ^ 64) then .ok (.int (i*j)) else .no
  | .tuple xs,.int k=>if xs≠[]/\2<=k/\k < 2 ^ 63/\xs.length*k.toNat<=sizeLine then .ok (.tuple (List.replicate k.toNat xs).flatten) else .no
  | _,_=>.no
theorem E3:cA X hJ (fun x y H Q=>rI Bb (fun i j=>.int (i*j)) x y H Q\/Dp X.K x y H Q) ge:=fun H x y dx dy Q hx hy q=>by
  cases dx with
  | int i =>
    cases dy with
    | int j =>
      simp only [ge] at q;split at q
      · rename_i h;exact .inl ⟨_,_,cj hx,cj hy,h,q _ H (aM.refl _) de⟩
      · exact q.elim
    | _=>exact q.elim
  | tuple xs =>
    cases dy with
    | int k =>
      simp only [ge] at q;split at q
      · rename_i h;obtain ⟨a,vs,rfl,ha,r⟩:=cR hx;have hl:=r.length;refine .inr ⟨a,k,vs,rfl,cj hy,i4.of ha,fun z=>h.1 ?_,h.2.1,h.2.2.1,by rw [hl];exact h.2.2.2,fun p hp=>q _ _ (cB hp _) (eI hp (r.rep _))⟩;rw [z] at hl;exact List.length_eq_zero_iff.mp hl.symm
      · exact q.elim
    | _=>exact q.elim
  | _=>exact q.elim
theorem eS (ha:Z.dL X a fa) (hb:Z.dL X b fb):Z.cL X (.BinOp a .Mult b pos) (e2 ge fa fb):=⟨have ha:=ha.un;have hb:=hb.un;oE eO (Ep.or B7) E3 ha hb⟩
theorem B1:i7 X (binaryOp .Add) (fun x y H Q=>∃ i j,x=.str i/\y=.str j/\i.length+j.length<=sizeLine/\Q (.str (i++j)) H):=by
  intro pins s σ H x y v u Q I rx ry h;obtain ⟨i,j,rfl,rfl,hz,q⟩:=h;obtain ⟨t,rfl⟩:=rx;obtain ⟨t',rfl⟩:=ry;exact PyProof.Rows.add_str (fun t' tk=>⟨.str (i++j),H,I.tok _,⟨_,rfl⟩,q⟩) hz
noncomputable def Aw (K:PySem.W.Frag):R2:=fun x y H Q=>∃ a b ys,x=.ref a/\y=.ref b/\i4 K H a []/\i4 K H b ys/\Q (.ref b) H
theorem Ae:i7 X (binaryOp .Add) (Aw X.K):=by
  intro pins s σ H x y v u Q I rx ry h;obtain ⟨a,b,ys,rfl,rfl,ha,hb,q⟩:=h;cases rx;cases ry;obtain ⟨its,r1,p1,_⟩:=I.tuple ha;obtain ⟨its2,r2,p2,_⟩:=I.tuple hb;cases r1;obtain ⟨⟨cls,dd,data,sl⟩,ho,hc,n,hd⟩:=id p1;obtain ⟨⟨cls2,dd2,data2,sl2⟩,ho2,hc2,n2,hd2⟩:=id p2;simp only at hc hd hc2 hd2;subst hc hd hc2 hd2;exact concat_meets ⟨_,ho,rfl⟩ ⟨_,ho2,rfl⟩ noFill_tuple_add seq_tuple_add PySem.F.slot_tuple_add PySem.F.entry_tuple_add (PySem.F.args_tuple_add_2 _ _)
    (tuple_addW0 a b _ its2.toArray n n2 dd dd2 sl sl2 (by rfl)) ⟨ho,ho2,⟨.ref b,H,I,rfl,q⟩⟩
noncomputable def Dm (K:PySem.W.Frag):R2:=fun x y H Q=>∃ l b xs zs,x=.ref l/\y=.ref b/\Rd H l (.lst xs)/\Rd H b (.lst zs)/\xs.length+zs.length<=sizeLine/\∀ p,H p=none->Q (.ref p) (cI H p (.lst (xs++zs)))
theorem B3:i7 X (binaryOp .Add) (Dm X.K):=by
  intro pins s σ H x y v u Q I rx ry h;obtain ⟨l,b,xs,zs,rfl,rfl,hH,hB,hz,q⟩:=h;cases rx;cases ry;obtain ⟨z,its,n,r,e⟩:=hH.ok I.hok;obtain ⟨z2,its2,n2,r2,e2⟩:=hB.ok I.hok;have hl:=r.length;have hl2:=r2.length;refine PySem.P.add_list e e2 ?_ (by rw [List.size_toArray,List.size_toArray];omega);have ea:its.toArray++its2.toArray=(its++its2).toArray:=by simp
  rw [ea];exact ⟨.ref _,_,I.lnew (t':=s.toks) (r.append r2) (by rw [List.length_append];omega),rfl,q _ I.fresh⟩
noncomputable def eU:PyData->PyData->R PyData
  | .int i,.int j=>.ok (.int (i+j))
  | .str x,.str y=>if x.length+y.length<=sizeLine then .ok (.str (x++y)) else .no
  | .tuple xs,.tuple ys=>if xs.length+ys.length<=sizeLine then .ok (.tuple (xs++ys)) else .no
  | .list xs,.list ys=>if xs.length+ys.length<=sizeLine then .ok (.list (xs++ys)) else .no
  | _,_=>.no
theorem rF {H:Hp} {ds:List PyData} {x:V} (h:gS H (.list ds) x):∃ a vs,x=.ref a/\Rd H a (.lst vs)/\bK H ds vs:=by
  rcases h with h | h
  · simp only [Rp] at h;obtain ⟨a,o,vs,e,ha,r⟩:=h;exact ⟨a,vs,e,.inr ⟨o,ha⟩,r⟩
  · simp only [iZ] at h;obtain ⟨a,vs,e,ha,r⟩:=h;exact ⟨a,vs,e,.inl ha,r⟩
theorem EZ:cA X Hn (fun x y H Q=>A8 (fun i j=>.int (i+j)) x y H Q\/(∃ i j,x=.str i/\y=.str j/\i.length+j.length<=sizeLine/\Q (.str (i++j)) H)\/Do X.K x y H Q\/Aw X.K x y H Q\/Dm X.K x y H Q) eU:=fun H x y dx dy Q hx hy q=>by
  cases dx with
  | int i =>
    cases dy with
    | int j=>exact .inl ⟨_,_,cj hx,cj hy,q _ H (aM.refl _) (.inl de)⟩
    | _=>exact q.elim
  | str i =>
    cases dy with
    | str j =>
      simp only [eU] at q;split at q
      · rename_i h;exact .inr (.inl ⟨_,_,iA hx,iA hy,h,q _ H (aM.refl _) (.inl AD)⟩)
      · exact q.elim
    | _=>exact q.elim
  | tuple xs =>
    cases dy with
    | tuple ys =>
      simp only [eU] at q;split at q
      · rename_i h;have hx':=hx;obtain ⟨a,vs,rfl,ha,r⟩:=cR hx;obtain ⟨b,us,rfl,hb,r2⟩:=cR hy;cases xs with
        | nil =>
          have:=r.nil_inv;subst this;refine .inr (.inr (.inr (.inl ⟨a,b,us,rfl,rfl,i4.of ha,i4.of hb,q _ H (aM.refl _) (.inl ?_)⟩)));simp only [Rp,List.nil_append];exact ⟨b,us,rfl,hb,r2⟩
        | cons d ds =>
          refine .inr (.inr (.inl ⟨a,b,vs,us,rfl,rfl,i4.of ha,i4.of hb,fun z=>?_,by rw [r.length,r2.length];exact h,fun z=>?_,fun _ p hp=>q _ _ (cB hp _) (.inl (eI hp (r.append r2)))⟩))
          · rw [z] at r;obtain ⟨_,_,e,_⟩:=r.cons_inv;cases e
          · have hy0:ys=[]:=by
              have:=r2.length;rw [z] at this;exact List.length_eq_zero_iff.mp this.symm
            refine q _ H (aM.refl _) (.inl ?_);rw [hy0,List.append_nil];simp only [Rp];exact ⟨a,vs,rfl,ha,r⟩
      · exact q.elim
    | _=>exact q.elim
  | list xs =>
    cases dy with
    | list ys =>
      simp only [eU] at q;split at q
      · rename_i h;obtain ⟨a,vs,rfl,ha,r⟩:=rF hx;obtain ⟨b,us,rfl,hb,r2⟩:=rF hy;exact .inr (.inr (.inr (.inr ⟨a,b,vs,us,rfl,rfl,ha,hb,by rw [r.length,r2.length];exact h,fun p hp=>q _ _ (cB hp _) (.inr (dw hp (r.append r2)))⟩)))
      · exact q.elim
    | _=>exact q.elim
  | _=>exact q.elim
theorem cw (ha:Z.dL X a fa) (hb:Z.dL X b fb):Z.cL X (.BinOp a .Add b pos) (e2 eU fa fb):=⟨have ha:=ha.un;have hb:=hb.un;CS.e (oE Ig (El.or (B1.or (B4.or (Ae.or B3)))) EZ ha hb)⟩
end
section
variable {X:Cx} {a b c:Expr} {fa fb fc:Fe} {pos p2:Pos} {nl:Nat} {G:List Str} {x:Str} {p:Pos}
noncomputable def zk (xs:List PyData) (lo hi:Option Int):List PyData:=(xs.drop (HT.sIx xs.length 0 lo)).take (HT.sIx xs.length xs.length hi-HT.sIx xs.length 0 lo)
noncomputable def Hx:PyData->Option Int->Option Int->R PyData
  | .str x,lo,hi=>if x.length<=sizeLine then .ok (.str (Txt.slice x lo hi)) else .no
  | .tuple xs,lo,hi=>.ok (.tuple (zk xs lo hi))
  | .list xs,lo,hi=>.ok (.list (zk xs lo hi))
  | _,_,_=>.no
noncomputable abbrev Fo:=aT->R (Option Int)
noncomputable def Gc:Fo:=fun _=>.ok none
noncomputable def HV:PyData->R Int
  | .int i=>.ok i
  | _=>.no
noncomputable def Gf (f:Fe):Fo:=fun ρ=>f ρ>>=fun d=>HV d>>=fun i=>.ok (some i)
noncomputable def Jt (f:Fe) (lo hi:Fo):Fe:=fun ρ=>f ρ>>=fun d=>lo ρ>>=fun l=>hi ρ>>=fun u=>Hx d l u
noncomputable def Ic:PyData->R PyData
  | .tuple xs=>.ok (.tuple xs.reverse)
  | _=>.no
end
section
variable {X:Cx} {a b c:Expr} {fa fb fc:Fe} {pos p2:Pos} {nl:Nat} {G:List Str} {x:Str} {p:Pos}
theorem xl:dN X (.builtin "len") (fun xs H Q=>∃ a kvs,xs=[V.ref a]/\Rd H a (.dK kvs)/\Q (.int kvs.length) H):=by
  intro pins s σ H xs us Q I r h;obtain ⟨a,kvs,rfl,ha,q⟩:=h;obtain ⟨u,rfl,ru⟩:=fq r;cases ru;exact FJ I ha fun t s' I'=>⟨.int kvs.length,H,I',⟨t,rfl⟩,q⟩
theorem ej.length {H:Hp}:∀ {kvs:List (PyData×PyData)} {ks:List (di×V)},ej H kvs ks->ks.length=kvs.length
  | [],ks,h=>by simp only [ej] at h;rw [h];rfl
  | kd::kvs,ks,h=>by
    simp only [ej] at h;obtain ⟨x,v,r,rfl,_,t⟩:=h;rw [List.length_cons,List.length_cons,ej.length t]
noncomputable def dg:PyData->R PyData
  | .list ds=>.ok (.int ds.length)
  | .tuple ds=>.ok (.int ds.length)
  | .dict kvs=>if mG kvs=true then .no else .ok (.int kvs.length)
  | .str y=>if y.length<=sizeLine then .ok (.int y.length) else .no
  | _=>.no
theorem cs (T:Tb X nl G) (j:Nat) (hG:G[j]?=some ("len" : Str)) (hm:X.mg "len" = none) (ha:Z.dL X a fa) (he:bc a=true:=by rfl):Z.cL X (.Call (.Name "len" p) [a] [] pos) (e1 dg fa):=⟨have ha:=ha.un;by
  refine Bm T j hG hm eO PySem.boot_len (rG.or (rH.or xl)) (fun H x d Q hx q=>?_) ha he;cases d with
  | list ds =>
    obtain ⟨a',vs,rfl,h,r⟩:=dE (K:=X.K) hx;exact .inl ⟨a',vs,rfl,.inl h,by rw [r.length];exact q _ H (aM.refl _) de⟩
  | tuple ds =>
    obtain ⟨a',vs,rfl,h,r⟩:=cR hx;exact .inl ⟨a',vs,rfl,.inr (i4.of h),by rw [r.length];exact q _ H (aM.refl _) de⟩
  | dict kvs =>
    simp only [dg] at q;split at q
    · exact q.elim
    rename_i hi;obtain ⟨a',vs,rfl,h,r⟩:=kW (Bool.not_eq_true _ ▸ hi) hx;exact .inr (.inr ⟨a',vs,rfl,h,by rw [r.length];exact q _ H (aM.refl _) de⟩)
  | str y =>
    simp only [dg] at q;split at q
    · rename_i hz;exact .inr (.inl ⟨y,by rw [iA hx],hz,q _ H (aM.refl _) de⟩)
    · exact q.elim
  | _=>exact q.elim⟩
noncomputable def Bt:PyData->R PyData
  | .int i=>.ok (.int i)
  | .bool k=>.ok (.int (if k then 1 else 0))
  | _=>.no
theorem w9 (T:Tb X nl G) (j:Nat) (hG:G[j]?=some ("int" : Str)) (hm:X.mg "int" = none) (ha:Z.dL X a fa) (he:bc a=true:=by rfl):Z.cL X (.Call (.Name "int" p) [a] [] pos) (e1 Bt fa):=⟨have ha:=ha.un;by
  refine Fc T j hG hm eO PyProof.Rows.boot_int xk (fun H x d Q hx q=>?_) ha he;cases d with
  | int i=>exact .inl ⟨i,by rw [cj hx],q _ H (aM.refl _) de⟩
  | bool k=>exact .inr ⟨k,by rw [ou hx],q _ H (aM.refl _) de⟩
  | _=>exact q.elim⟩
noncomputable def Jr:PyData->R PyData
  | .int i=>if i.natAbs.log2 < 1920 then .ok (.str (toString i)) else .no
  | _=>.no
noncomputable def DW:PyData->PyData->R PyData
  | .int i,.int j=>.ok (.int (if j < i then j else i))
  | _,_=>.no
noncomputable def DV:PyData->PyData->R PyData
  | .int i,.int j=>.ok (.int (if j > i then j else i))
  | _,_=>.no
theorem yV (T:Tb X nl G) (j:Nat) (hG:G[j]?=some ("min" : Str)) (hm:X.mg "min" = none) (ha:Z.dL X a fa) (hb:Z.dL X b fb) (he:bc a=true:=by rfl) (he2:bc b=true:=by rfl):Z.cL X (.Call (.Name "min" p) [a,b] [] pos) (e2 DW fa fb):=⟨have ha:=ha.un;have hb:=hb.un;by
  refine FD T j hG hm eO PyProof.Rows.boot_min (xo T.calm) (fun H x y d e Q hx hy q=>?_) ha hb he he2;cases d with
  | int i =>
    cases e with
    | int j=>exact ⟨i,j,by rw [cj hx,cj hy],q _ H (aM.refl _) de⟩
    | _=>exact q.elim
  | _=>exact q.elim⟩
theorem yU (T:Tb X nl G) (j:Nat) (hG:G[j]?=some ("max" : Str)) (hm:X.mg "max" = none) (ha:Z.dL X a fa) (hb:Z.dL X b fb) (he:bc a=true:=by rfl) (he2:bc b=true:=by rfl):Z.cL X (.Call (.Name "max" p) [a,b] [] pos) (e2 DV fa fb):=⟨have ha:=ha.un;have hb:=hb.un;by
  refine FD T j hG hm eO PyProof.Rows.boot_max (xn T.calm) (fun H x y d e Q hx hy q=>?_) ha hb he he2;cases d with
  | int i =>
    cases e with
    | int j=>exact ⟨i,j,by rw [cj hx,cj hy],q _ H (aM.refl _) de⟩
    | _=>exact q.elim
  | _=>exact q.elim⟩
noncomputable def cD:PyData->R PyData
  | .list ds=>.ok (.tuple ds)
  | .tuple ds=>.ok (.tuple ds)
  | _=>.no
theorem bC (T:Tb X nl G) (j:Nat) (hG:G[j]?=some ("tuple" : Str)) (hm:X.mg "tuple" = none) (ha:Z.dL X a fa) (he:bc a=true:=by rfl):Z.cL X (.Call (.Name "tuple" p) [a] [] pos) (e1 cD fa):=⟨have ha:=ha.un;by
  refine Fc T j hG hm eO PyProof.Rows.boot_tuple pR (fun H x d Q hx q=>?_) ha he;cases d with
  | list ds =>
    obtain ⟨a',vs,rfl,h,r⟩:=dE (K:=X.K) hx;exact ⟨a',vs,rfl,.inl ⟨h,fun l hl=>q _ _ (cB hl _) (eI hl r)⟩⟩
  | tuple ds =>
    obtain ⟨a',vs,rfl,h,r⟩:=cR hx;exact ⟨a',vs,rfl,.inr ⟨i4.of h,q _ H (aM.refl _) (by simp only [Rp];exact ⟨a',vs,rfl,h,r⟩)⟩⟩
  | _=>exact q.elim⟩
noncomputable def qh:PyData->R PyData
  | .list ds=>.ok (.list ds)
  | .tuple ds=>.ok (.list ds)
  | _=>.no
theorem n4 (T:Tb X nl G) (j:Nat) (hG:G[j]?=some ("list" : Str)) (hm:X.mg "list" = none) (ha:Z.dL X a fa) (he:bc a=true:=by rfl):Z.lQ X (.Call (.Name "list" p) [a] [] pos) (e1 qh fa):=⟨have ha:=ha.un;by
  refine Fc T j hG hm zq PyProof.Rows.boot_list rJ (fun H x d Q hx q=>?_) ha he;cases d with
  | list ds =>
    obtain ⟨a',vs,rfl,h,r⟩:=dE (K:=X.K) hx;exact ⟨a',vs,rfl,.inl h,fun l hl=>q _ _ (cB hl _) (dw hl r)⟩
  | tuple ds =>
    obtain ⟨a',vs,rfl,h,r⟩:=cR hx;exact ⟨a',vs,rfl,.inr (i4.of h),fun l hl=>q _ _ (cB hl _) (dw hl r)⟩
  | _=>exact q.elim⟩
inductive Ty where
  | int | bool | str | list | tuple
noncomputable def Ty.nm:Ty->String
  | .int => "int"
  | .bool => "bool"
  | .str => "str"
  | .list => "list"
  | .tuple => "tuple"
noncomputable def F5:Ty->PyData->Bool
  | .int,.int _=>true
  | .int,.bool _=>true
  | .bool,.bool _=>true
  | .str,.str _=>true
  | .list,.list _=>true
  | .tuple,.tuple _=>true
  | _,_=>false
noncomputable def pU (T:Ty):PyData->R PyData
  | .dict _=>.no
  | d=>.ok (.bool (F5 T d))
theorem ze:dN X (.builtin "isinstance") (fun xs H Q=>∃ x t T k,xs=[x,.ty T]/\kO X.K H x t/\PySem.W.kitOne X.K t (.type T)=some k/\Q (.bl k) H):=by
  intro pins s σ H xs us Q I r h;obtain ⟨x,t,T,k,rfl,ty,e,q⟩:=h;obtain ⟨u,w',rfl,rx,ry⟩:=wT r;cases ry;exact xL I rx ty e fun tk=>⟨.bl k,H,I.tok tk,rfl,q⟩
theorem Hg {K:PySem.W.Frag} {H:Hp} {d:PyData} {v:V} (h:gS H d v):(∃ kvs,d=.dict kvs)\/∃ t,kO K H v t/\∀ T:Ty,PySem.W.kitOne K t (.type T.nm)=some (F5 T d):=by
  cases d with
  | none=>rw [kX h];exact .inr ⟨_,.non,fun T=>by cases T <;> rfl⟩
  | bool k=>rw [ou h];exact .inr ⟨_,.bl k,fun T=>by cases T <;> rfl⟩
  | int i=>rw [cj h];exact .inr ⟨_,.int i,fun T=>by cases T <;> rfl⟩
  | str y=>rw [iA h];exact .inr ⟨_,.str y,fun T=>by cases T <;> rfl⟩
  | tuple ds=>obtain ⟨a,vs,rfl,ha,_⟩:=cR h;exact .inr ⟨_,.tup ha,fun T=>by cases T <;> rfl⟩
  | list ds =>
    obtain ⟨a,vs,rfl,ha,_⟩:=rF h;rcases ha with ha | ⟨o,ha⟩
    · exact .inr ⟨_,.lst ha,fun T=>by cases T <;> rfl⟩
    · exact .inr ⟨_,.frz ha,fun T=>by cases T <;> rfl⟩
  | dict kvs=>exact .inl ⟨kvs,rfl⟩
theorem u3 (ty:Ty) {y:Str} {py:Pos} (T:Tb X nl G) (j:Nat) (hG:G[j]?=some ("isinstance" : Str)) (hm:X.mg "isinstance" = none) (hy:bootBuiltins y=some (.type ty.nm)) (T':Tb X nl G) (j':Nat) (hG':G[j']?=some y) (hm':X.mg y=none) (ha:dL X a fa)
    (he:bc a=true:=by rfl):cL X (.Call (.Name "isinstance" p) [a,.Name y py] [] pos) (e1 (pU ty) fa):=by
  have g:=T.gl _ (List.mem_of_getElem? hG);have g':=T.gl _ (List.mem_of_getElem? hG');have hp:PE X (.Name y py) (tC (.ty ty.nm)):=Ca g'.1 hm' hy rfl g'.2.2 g'.2.1;refine PE.imp (o6 ze g.1 hm PyProof.Rows.boot_isinstance (sg ha (sg hp Ak) (bA he)) g.2.2 g.2.1 (bA he)) fun σ H Q h=>?_
  refine (eT (P:=uG) (f:=fa) (k:=fun _ d=>pU ty d) (eL (X:=X) eO Q) h).post fun v H1 zq0=>?_
  obtain ⟨_,d,_,_,p1,q1⟩:=zq0;show ∃ x t T k,_/\_/\_/\_;rcases Hg (K:=X.K) p1 with ⟨kvs,rfl⟩ | ⟨t,ht,hk⟩
  · exact q1.elim
  · refine ⟨v,t,ty.nm,F5 ty d,rfl,ht,hk ty,?_⟩;cases d with
    | dict kvs=>exact q1.elim
    | _=>exact q1 _ H1 (aM.refl _) e9
theorem rq {py:Pos} (T:Tb X nl G) (j:Nat) (hG:G[j]?=some ("isinstance" : Str)) (hm:X.mg "isinstance" = none) (T':Tb X nl G) (j':Nat) (hG':G[j']?=some ("int" : Str)) (hm':X.mg "int" = none) (ha:Z.dL X a fa) (he:bc a=true:=by rfl):Z.cL X (.Call (.Name "isinstance" p) [a,.Name "int" py] [] pos) (e1 (pU .int) fa):=⟨have ha:=ha.un;u3 .int T j hG hm PyProof.Rows.boot_int T' j' hG' hm' ha he⟩
theorem pP {py:Pos} (T:Tb X nl G) (j:Nat) (hG:G[j]?=some ("isinstance" : Str)) (hm:X.mg "isinstance" = none) (T':Tb X nl G) (j':Nat) (hG':G[j']?=some ("bool" : Str)) (hm':X.mg "bool" = none) (ha:Z.dL X a fa) (he:bc a=true:=by rfl):Z.cL X (.Call (.Name "isinstance" p) [a,.Name "bool" py] [] pos) (e1 (pU .bool) fa):=⟨have ha:=ha.un;u3 .bool T j hG hm PyProof.Rows.boot_bool T' j' hG' hm' ha he⟩
theorem nX {py:Pos} (T:Tb X nl G) (j:Nat) (hG:G[j]?=some ("isinstance" : Str)) (hm:X.mg "isinstance" = none) (T':Tb X nl G) (j':Nat) (hG':G[j']?=some ("tuple" : Str)) (hm':X.mg "tuple" = none) (ha:Z.dL X a fa) (he:bc a=true:=by rfl):Z.cL X (.Call (.Name "isinstance" p) [a,.Name "tuple" py] [] pos) (e1 (pU .tuple) fa):=⟨have ha:=ha.un;u3 .tuple T j hG hm PyProof.Rows.boot_tuple T' j' hG' hm' ha he⟩
noncomputable def tj:List PyData->Option Bool
  | []=>some true
  | .bool k::ds=>(tj ds).map fun r=>k&&r
  | _=>none
noncomputable def Bs:PyData->R PyData
  | .list ds=>match tj ds with
    | some k=>.ok (.bool k)
    | none=>.no
  | _=>.no
end
section
variable {X:Cx} {tg a b c:Expr} {fa fb fc:Fe} {pos p2:Pos} {nl:Nat} {G:List Str} {x:Str} {p:Pos} {fs:aT->R (List PyData)} {es:List Expr}
noncomputable def iT:PyData->R (List PyData)
  | .list ds=>.ok ds
  | .tuple ds=>.ok ds
  | _=>.no
noncomputable def dA (f:Fe):aT->R (List PyData):=fun ρ=>f ρ>>=iT
theorem zM {K:PySem.W.Frag} {a:Addr} {ds:List PyData}:Bd (HN K a) (fun H=>∃ o vs,H a=some (.frz o (.lst vs))/\bK H ds vs) ds where
  go:=fun i H ⟨o,vs,h,r⟩ hi=>by
    have hl:=r.length;exact ⟨vs,vs[i],.inl (.inr ⟨o,h⟩),List.getElem?_eq_getElem (by omega)⟩
  yld:=fun i H x H' d ⟨o,vs,h,r⟩ hd ⟨e,y⟩=>by
    subst e;obtain ⟨v,e1,p⟩:=r.get hd;have:=y vs (.inl (.inr ⟨o,h⟩));rw [e1] at this;cases this;exact ⟨aM.refl _,p⟩
  stop:=fun i H ⟨o,vs,h,r⟩ hi=>⟨vs,.inl (.inr ⟨o,h⟩),by rw [r.length];exact hi⟩
theorem BO {K:PySem.W.Frag} {a:Addr} {ds:List PyData}:Bd (HP K a) (fun H=>∃ vs,H a=some (.tup vs)/\bK H ds vs) ds where
  go:=fun i H ⟨vs,h,r⟩ hi=>by
    have hl:=r.length;exact ⟨vs,vs[i],i4.of h,List.getElem?_eq_getElem (by omega)⟩
  yld:=fun i H x H' d ⟨vs,h,r⟩ hd ⟨e,y⟩=>by
    subst e;obtain ⟨v,e1,p⟩:=r.get hd;have:=y vs (i4.of h);rw [e1] at this;cases this;exact ⟨aM.refl _,p⟩
  stop:=fun i H ⟨vs,h,r⟩ hi=>⟨vs,i4.of h,by rw [r.length];exact hi⟩
noncomputable def Jv (K:PySem.W.Frag) (tl:TE):TI:=fun σ H R=>tl σ H fun x H1=>∃ a,x=.ref a/\((∃ xs,mB K H1 a xs/\R (HN K a) H1)\/∃ xs,i4 K H1 a xs/\R (HP K a) H1)
theorem Gq {l:Expr} {tl:TE} (hl:PE X l tl):PI X tg l (Jv X.K tl):=by
  intro pins s σ H R I h;refine dq (hl pins s σ H _ I h) fun v s1 zq0=>?_
  obtain ⟨x,H1,I1,r1,q1⟩:=zq0;obtain ⟨a,e,q⟩:=q1;subst e;cases r1;rcases q with ⟨xs,hq,q⟩ | ⟨xs,hq,q⟩
  · obtain ⟨its,rv,p,hz⟩:=I1.list hq;refine wpAny_pyIter_list p.isList ?_;refine ⟨s1.heap.objs.size,[s1.heap.objs.size],_,_,H1,rfl,I1.kept (t':=s1.toks) fun b o e=>Heap.get?_push_of_some _ e,yu a _,⟨_,Heap.get?_push_size _ rfl,rfl,rfl⟩,fun b hb=>?_,q⟩;have e:b=s1.heap.objs.size:=by simpa using hb
    subst e;exact I1.fpOk (Nat.le_refl _) (I1.hok.fresh (Nat.le_refl _))
  · obtain ⟨its,rv,p,hz⟩:=I1.tuple hq;refine wpAny_pyIter_tuple (show s1.heap.IsTuple a its.toArray from p) ?_;refine ⟨s1.heap.objs.size,[s1.heap.objs.size],_,_,H1,rfl,I1.kept (t':=s1.toks) fun b o e=>Heap.get?_push_of_some _ e,vJ a _,⟨_,Heap.get?_push_size _ rfl,rfl,rfl⟩,fun b hb=>?_,q⟩;have e:b=s1.heap.objs.size:=by simpa using hb
    subst e;exact I1.fpOk (Nat.le_refl _) (I1.hok.fresh (Nat.le_refl _))
theorem G8 (Rk:It->Hp->Prop):DK X (fun (r:R (List PyData)) H=>match r with | .ok ds=>∀ J H',aM H H'->(∃ Gd,Bd J Gd ds/\Hq H' (fun _=>False) Gd)->Rk J H' | .ex c=>Xw X c H | .no=>False) where
  mono:=fun r H H' h s=>by
    cases r with
    | ok d=>exact fun J H2 s2=>h J H2 (s.trans s2)
    | ex c=>exact Xw.mono h s
    | no=>exact h
  ex:=fun c H h=>h
  no:=fun H h=>h
theorem bw (ha:Z.cL X a fa):Z.qY X tg a (dA fa):=⟨have ha:=ha.un;PI.imp (Gq ha) fun σ H Rk h=>(eT (P:=hJ) (f:=fa) (k:=fun _=>iT) (G8 (X:=X) Rk) h).post fun v H1 ⟨_,d,_,_,p1,q1⟩=>by
    cases d with
    | list ds =>
      simp only [Rp] at p1;obtain ⟨a',o,vs,rfl,h,r⟩:=p1;exact ⟨a',rfl,.inl ⟨vs,.inl (.inr ⟨o,h⟩),q1 _ H1 (aM.refl _) ⟨_,zM,fun H2 k _=>⟨o,vs,k.2 _ _ _ h,bK.kp k _ _ r⟩⟩⟩⟩
    | tuple ds =>
      simp only [Rp] at p1;obtain ⟨a',vs,rfl,h,r⟩:=p1;exact ⟨a',rfl,.inr ⟨vs,i4.of h,q1 _ H1 (aM.refl _) ⟨_,BO,fun H2 k _=>⟨vs,k.1 _ _ h,bK.kp k _ _ r⟩⟩⟩⟩
    | _=>exact q1.elim⟩
noncomputable def ce (lo:Int) (n:Nat):List PyData:=(List.range n).map fun (k:Nat)=>.int (lo+k)
noncomputable def ug:List PyData->R (List PyData)
  | [.int j]=>if -(2 ^ 62)<=j/\j < 2 ^ 62 then .ok (ce 0 j.toNat) else .no
  | [.int i,.int j]=>if -(2 ^ 62)<=i/\i < 2 ^ 62/\-(2 ^ 62)<=j/\j < 2 ^ 62 then .ok (ce i (j-i).toNat) else .no
  | _=>.no
noncomputable def l5 (fs:aT->R (List PyData)):aT->R (List PyData):=fun ρ=>fs ρ>>=ug
theorem xN {lo:Int} {n:Nat}:Bd (Hk lo n) (fun _=>True) (ce lo n) where
  go:=fun i H _ hi=>by
    show i < n;simpa [ce] using hi
  yld:=fun i H x H' d _ hd ⟨e,y⟩=>by
    subst e;subst y;refine ⟨aM.refl _,?_⟩;unfold ce at hd;rw [List.getElem?_map] at hd;cases h:(List.range n)[i]? with
    | none=>rw [h] at hd;cases hd
    | some k =>
      rw [h] at hd;have hk:k=i:=by
        rw [List.getElem?_range] at h
        · exact (Option.some.inj h).symm
        · have:=(List.getElem?_eq_some_iff.mp h).1;simpa using this
      subst hk;cases hd;exact de
  stop:=fun i H _ hi=>by
    show n<=i;simpa [ce] using hi
theorem jh (T:Tb X nl G) (j:Nat) (hG:G[j]?=some ("range" : Str)) (hm:X.mg "range" = none) (ha:Z.uD X [a] fs) (hl:∀ ρ ds,fs ρ=.ok ds->ds.length=1) (hs:bc a=true:=by rfl):Z.qY X tg (.Call (.Name "range" p) [a] [] pos) (l5 fs):=⟨have ha:=ha.un;PI.imp (ya (T.gl _ (List.mem_of_getElem? hG)).1 hm ha (bA hs)) fun σ H Rk ⟨ρ,sl,q⟩=>by
    refine ⟨ρ,sl,?_⟩;dsimp only [l5] at q;cases e:fs ρ with
    | ex c=>rw [e] at q;exact q
    | no=>rw [e] at q;exact q
    | ok ds =>
      rw [e] at q;have hlen:=hl ρ ds e;intro vs H1 s1 r1
      match ds,hlen with
      | [d],_ =>
        simp only [RA] at r1;obtain ⟨v,r',rfl,p1,rfl⟩:=r1;cases d with
        | int j =>
          have ev:v=.int j:=by simpa only [Rp] using p1
          subst ev;by_cases hz:-(2 ^ 62)<=j/\j < 2 ^ 62
          · have e2:ug [.int j]=.ok (ce 0 j.toNat):=if_pos hz;rw [R.ok_bind,e2] at q;exact ⟨j,rfl,hz.1,hz.2,q _ H1 s1 ⟨_,xN,fun _ _ _=>True.intro⟩⟩
          · have e2:ug [.int j]=.no:=if_neg hz;rw [R.ok_bind,e2] at q;exact q.elim
        | _=>exact q.elim⟩
end
noncomputable def va (x:Int):List Int->List Int
  | []=>[x]
  | y::r=>if x<=y then x::y::r else y::va x r
noncomputable def dM:List Int->List Int
  | []=>[]
  | x::r=>va x (dM r)
theorem l7 (x:Int):∀ l,(va x l).Perm (x::l)
  | []=>List.Perm.refl _
  | y::r=>by
    unfold va;split
    · exact List.Perm.refl _
    · exact ((l7 x r).cons y).trans (List.Perm.swap x y r)
theorem dQ:∀ l,(dM l).Perm l
  | []=>List.Perm.refl _
  | x::r=>(l7 x (dM r)).trans ((dQ r).cons x)
theorem mF (x:Int):∀ l,l.Pairwise (·<=·)->(va x l).Pairwise (·<=·)
  | [],_=>by unfold va;exact List.pairwise_singleton _ _
  | y::r,h=>by
    have h':=List.pairwise_cons.mp h;unfold va;split
    · rename_i hxy;refine List.pairwise_cons.mpr ⟨fun z hz=>?_,h⟩;rcases List.mem_cons.mp hz with rfl | hz
      · exact hxy
      · exact Int.le_trans hxy (h'.1 z hz)
    · rename_i hxy;refine List.pairwise_cons.mpr ⟨fun z hz=>?_,mF x r h'.2⟩;rcases List.mem_cons.mp ((l7 x r).mem_iff.mp hz) with rfl | hz
      · omega
      · exact h'.1 z hz
theorem gm:∀ l,(dM l).Pairwise (·<=·)
  | []=>List.Pairwise.nil
  | x::r=>mF x _ (gm r)
theorem jF {a b:List Int} (hp:a.Perm b) (hs:a.Pairwise (·<=·)):a=dM b:=PySem.W.ksm_same (hp.trans (dQ b).symm) hs (gm b)
section
variable {prog:Program} {w:World} {A:Around} {E:Value->Shared->Prop} {s:Shared}
theorem uj {d:Addr} {kvs:List (di×Value)} {ns:List Int} {Q:Value->Shared->Prop} (hh:A.handled=none) (lo:(d==sysModules)=false) (hd:s.heap.DictOf (dC prog w) d kvs) (hk:kvs.map (·.1)=ns.map Sum.inl) (h64:ns.length < 64)
    (h:∀ (D:Addr) (h':Heap) (tk:Nat) (vs:List Value) (e:Nat),s.heap.get? D=none->(∀ b o,s.heap.get? b=some o->h'.get? b=some o)->h'.get? D=some (seqObj "list" vs.toArray e)->IntsAre vs (dM ns)->Q (.ref D) { s with heap:=h',toks:=tk }) :
    wpAny (model prog w) A (call (.builtin "sorted") [.ref d]) Q E s:=by
  obtain ⟨ep,hat⟩:=hd.dictAt;have hlen:kvs.length=ns.length:=by have:=congrArg List.length hk;simpa using this
  have hn:kvs.length<=sizeLine:=by rw [sizeLine_eq];omega
  refine Calls.call_function_entry kind_sorted plain_sorted entry_sorted (args_sorted1 _) ?_;unfold Builtin.«sorted»;refine wpAny_bind (m:=checkCount "sorted" 1 1 _) (wpAny_pure ?_);refine wpAny_bind (PySem.W.kdu_collect (A:=A.in1) (PySem.W.kdl_dict (knd:=dC prog w) (kvs:=kvs) (ep:=ep) lo) hh hat hn fun h1 tk acc hk1 hacc=>?_);have hl:acc.toList.length=kvs.length:=by rw [Array.length_toList];exact hacc.1
  have hI:IntsAre acc.toList ns:=by
    have key:∀ (l:List Value) (ms:List Int) (k:Nat),l.length=ms.length->(∀ (j:Nat) (v:Value),l[j]?=some v->∃ n:Int,ms[j]?=some n/\∃ t,v=Value.int n t)->IntsAre l ms:=by
      intro l;induction l with
      | nil=>intro ms k e _;have:ms=[]:=List.length_eq_zero_iff.mp e.symm;subst this;exact .nil
      | cons v r ih =>
        intro ms k e hv;cases ms with
        | nil=>cases e
        | cons n ms =>
          obtain ⟨n',e1,t,rfl⟩:=hv 0 v rfl;have:n=n':=Option.some.inj e1;subst this;exact .cons n t (ih ms (k+1) (by simpa using e) fun j u hu=>hv (j+1) u (by simpa using hu))
    refine key acc.toList ns 0 (by rw [hl,hlen]) fun j v hv=>?_
    obtain ⟨κ,x,hx,his⟩:=hacc.2 j v (by rw [<- Array.getElem?_toList];exact hv);have e1:(kvs.map (·.1))[j]?=some κ:=by rw [List.getElem?_map,hx];rfl
    rw [hk,List.getElem?_map] at e1;cases e2:ns[j]? with
    | none=>rw [e2] at e1;cases e1
    | some n =>
      rw [e2] at e1;have e3:Sum.inl n=κ:=Option.some.inj e1;subst e3;rcases cK (show oS (Sum.inl n) v=true from his) with ⟨i,t,e4,e5⟩ | ⟨y,t,e4,_⟩
      · cases e4;exact ⟨n,rfl,t,e5⟩
      · cases e4
  refine wpAny_bind (wpAny_newList ?_ (by rw [hl];exact hn));have hoL:(h1.push (seqObj "list" acc.toList.toArray 0)).get? h1.objs.size=some (seqObj "list" acc.toList.toArray 0):=Heap.get?_push_size _ rfl;show wpAny _ _ _ _ _ { s with heap:=h1.push (seqObj "list" acc.toList.toArray 0),toks:=tk };refine wpAny_bind (wpAny_holding (wpAny_call_entry slot_list_sort ⟨_,hoL,rfl⟩ entry_list_sort (list_sort_tree hoL hI (by rw [hl,hlen];exact h64) fun out ns' a1 a2 a3=>⟨_,rfl,?_⟩) (args_list_sort _)));refine wpAny_pure ⟨_,rfl,?_⟩;obtain ⟨e,he⟩:=sortedHeap_at (out:=out) hoL;have hsz:s.heap.get? h1.objs.size=none:=by
    cases q:s.heap.get? h1.objs.size with
    | none=>rfl
    | some o=>exact absurd (Heap.lt_size (hk1 _ _ q)) (Nat.lt_irrefl _)
  refine h h1.objs.size _ tk out.toList e hsz (fun b o q=>?_) he (by rw [jF a2 a3] at a1;exact a1);have q1:=hk1 b o q;have hlt:b < h1.objs.size:=Heap.lt_size q1;show (sortedHeap (h1.push (seqObj "list" acc.toList.toArray 0)) h1.objs.size acc.toList out).get? b=some o;rw [sortedHeap_old (Nat.ne_of_lt hlt) (by rw [size_push'];exact Nat.lt_succ_of_lt hlt)];exact Heap.get?_push_of_some _ q1
end
theorem CL {fs ex:List Addr} {H:Hp} {h h':Heap} {a:Addr} {o:HO} (k:∀ b u,h.get? b=some u->h'.get? b=some u) (hg:h.get? a=none) (hn:H a=none):Un fs ex H (cI H a o) h h':=by
  have ne:∀ {b:Addr} {u:Obj},h.get? b=some u->b≠a:=fun e z=>by subst z;rw [hg] at e;cases e
  exact ⟨fun b u q _ _ _=>k b u q,fun b u q _ _ _=>⟨u.slots,k b u q⟩,fun b u q n _=>by rw [aA (ne q)];exact n,fun b u q _=>⟨u,k b u q⟩,fun b xs q=>by rw [aA (ba q hn)];exact q,fun b u xs q=>by rw [aA (ba q hn)];exact q,
    fun b ps q=>⟨#[],by rw [aA (ba q hn),q];simp⟩⟩
theorem oP {X:Cx} {pins:List (Addr×Obj)} {σ:St} {H:Hp} {s:Shared} {h':Heap} {a:Addr} {o:HO} {t':Nat} (I:aU X pins σ H s) (k:∀ b u,s.heap.get? b=some u->h'.get? b=some u) (hg:s.heap.get? a=none) (hn:H a=none)
    (new:cb X.prog X.w (cI H a o) h' a o):aU X pins σ (cI H a o) { s with heap:=h',toks:=t' }:=by
  refine I.un (CL k hg hn) fun b u e=>?_
  by_cases hb:b=a
  · subst hb;rw [bq] at e;cases e;exact new
  · rw [aA hb] at e;exact (I.hok b u e).stay (fun c v _ q=>k c v q) (fun c q=>by rw [aA (ba q hn)];exact q) fun c xs q=>by rw [aA (ba q hn)];exact q
theorem oQ {X:Cx} {pins:List (Addr×Obj)} {σ:St} {H:Hp} {s:Shared} {a:Addr} (I:aU X pins σ H s) (hg:s.heap.get? a=none):H a=none:=by
  cases q:H a with
  | none=>rfl
  | some o=>obtain ⟨u,e⟩:=r8 (I.hok a o q);rw [hg] at e;cases e
section
variable {X:Cx} {a b c:Expr} {fa fb fc:Fe} {pos p2:Pos} {nl:Nat} {G:List Str} {x:Str} {p:Pos}
noncomputable def bL:List PyData->Option (List Int)
  | []=>some []
  | .int i::ds=>(bL ds).map fun r=>i::r
  | _=>none
theorem da:∀ {ds:List PyData} {ns:List Int},bL ds=some ns->ds=ns.map PyData.int
  | [],ns,h=>by cases h;rfl
  | d::ds,ns,h=>by
    cases d with
    | int i =>
      simp only [bL] at h;cases e:bL ds with
      | none=>rw [e] at h;cases h
      | some r =>
        rw [e] at h;cases h;rw [List.map_cons,da e]
    | _=>cases h
theorem cy:∀ ns:List Int,bL (ns.map PyData.int)=some ns
  | []=>rfl
  | n::ns=>by simp only [List.map_cons,bL,cy ns,Option.map_some]
noncomputable def kZ:PyData->R PyData
  | .list ds=>match bL ds with
    | some ns=>if ns.length < 64 then .ok (.list ((dM ns).map PyData.int)) else .no
    | none=>.no
  | .dict kvs=>match bL (kvs.map (·.1)) with
    | some ns=>if ns.length < 64 then .ok (.list ((dM ns).map PyData.int)) else .no
    | none=>.no
  | _=>.no
noncomputable def EM (K:PySem.W.Frag):List V->Hp->VK->Prop:=fun xs H Q=>∃ p ns,xs=[.ref p]/\mB K H p (ns.map V.int)/\ns.length < 64/\∀ l,H l=none->Q (.ref l) (cI H l (.lst ((dM ns).map V.int)))
noncomputable def EL:List V->Hp->VK->Prop:=fun xs H Q=>∃ p ks ns,xs=[.ref p]/\Rd H p (.dK ks)/\ks.map (·.1)=ns.map Sum.inl/\ns.length < 64/\∀ l,H l=none->Q (.ref l) (cI H l (.lst ((dM ns).map V.int)))
theorem mo (ns:List Int):(dM ns).length=ns.length:=(dQ ns).length_eq
theorem uV:dN X (.builtin "sorted") (EM X.K):=by
  intro pins s σ H xs us Q I r h;obtain ⟨p,ns,rfl,hq,h64,q⟩:=h;obtain ⟨u,rfl,rx⟩:=fq r;cases rx;obtain ⟨its,rv,pl,hz⟩:=I.list hq;have hI:IntsAre its ns:=eG rv;have hl:=IntsAre.length hI;refine sorted_ints pl.isList hI (by omega) fun out ns' a1 a2 a3=>?_
  rw [jF a2 a3] at a1;obtain ⟨e,he⟩:=sortedAll_at s.heap its out;refine ⟨.ref (s.heap.objs.size+1),_,I.laid (t':=s.toks) (o:=.lst ((dM ns).map V.int)) (fun b o e=>sortedAll_old e) (Nat.le_succ _) ⟨?_,out.toList,e,io a1,by simpa [seqObj] using he⟩,rfl,q _ (I.hok.fresh (Nat.le_succ _))⟩;rw [List.length_map,mo,sizeLine_eq];omega
theorem uU (hc:X.calm=true):dN X (.builtin "sorted") EL:=by
  intro pins s σ H xs us Q I r h;obtain ⟨p,ks,ns,rfl,hq,hk,h64,q⟩:=h;obtain ⟨u,rfl,rx⟩:=fq r;cases rx;obtain ⟨hz,hlo,vs,kv,hd⟩:=oy I.hok hq;refine uj (I.ok.hd hc) hlo hd (by rw [<- kv.keys];exact hk) h64 fun D h' tk vs' e hg kp hD hI=>?_
  have hn:=oQ I hg;refine ⟨.ref D,_,oP (t':=tk) (o:=.lst ((dM ns).map V.int)) I kp hg hn ⟨?_,vs',e,io hI,by simpa [seqObj] using hD⟩,rfl,q _ hn⟩;rw [List.length_map,mo,sizeLine_eq];omega
theorem gB:∀ {H:Hp} {ns:List Int} {vs:List V},bK H (ns.map PyData.int) vs->vs=ns.map V.int
  | H,[],vs,r=>by rw [List.map_nil] at r;rw [r.nil_inv];rfl
  | H,n::ns,vs,r=>by
    rw [List.map_cons] at r;obtain ⟨v,r',rfl,p,t⟩:=r.cons_inv;have:v=.int n:=by simpa only [Rp] using p
    rw [this,gB t];rfl
theorem uh:∀ {H:Hp} {kvs:List (PyData×PyData)} {ks:List (di×V)},ej H kvs ks->kvs.map (·.1)=ks.map fun k=>fW k.1
  | H,[],ks,r=>by simp only [ej] at r;rw [r];rfl
  | H,(k,d)::kvs,ks,r=>by
    simp only [ej,A5] at r;obtain ⟨x,v,r',rfl,⟨e,_⟩,t⟩:=r;rw [List.map_cons,List.map_cons,uh t,e]
theorem qv:∀ {ks:List (di×V)} {ns:List Int},(ks.map fun k=>fW k.1)=ns.map PyData.int->ks.map (·.1)=ns.map Sum.inl
  | [],[],_=>rfl
  | [],_::_,h=>by cases h
  | _::_,[],h=>by cases h
  | (k,v)::ks,n::ns,h=>by
    rw [List.map_cons,List.map_cons] at h;injection h with h1 h2
    rw [List.map_cons,List.map_cons,qv h2];cases k with
    | inl i=>simp only [fW] at h1;cases h1;rfl
    | inr y=>simp only [fW] at h1;cases h1
theorem rz (T:Tb X nl G) (j:Nat) (hG:G[j]?=some ("sorted" : Str)) (hm:X.mg "sorted" = none) (ha:Z.dL X a fa) (he:bc a=true:=by rfl):Z.lQ X (.Call (.Name "sorted" p) [a] [] pos) (e1 kZ fa):=⟨have ha:=ha.un;by
  refine Bm T j hG hm zq PyProof.Rows.boot_sorted (uV.or (uU T.calm)) (fun H x d Q hx q=>?_) ha he;cases d with
  | list ds =>
    simp only [kZ] at q;cases ei:bL ds with
    | none=>rw [ei] at q;exact q.elim
    | some ns =>
      rw [ei] at q;dsimp only at q;by_cases h64:ns.length < 64
      · rw [if_pos h64] at q;obtain ⟨a',vs,rfl,h,r⟩:=dE (K:=X.K) hx;rw [da ei] at r;rw [gB r] at h;exact .inl ⟨a',ns,rfl,h,h64,fun l hl=>q _ _ (cB hl _) (dw hl (bK.ints _))⟩
      · rw [if_neg h64] at q;exact q.elim
  | dict kvs =>
    simp only [kZ] at q;cases ei:bL (kvs.map (·.1)) with
    | none=>rw [ei] at q;exact q.elim
    | some ns =>
      rw [ei] at q;dsimp only at q;by_cases h64:ns.length < 64
      · rw [if_pos h64] at q;have hi:mG kvs=false:=by
          cases kvs with
          | nil=>rfl
          | cons kd kvs =>
            obtain ⟨k,d⟩:=kd;cases k <;> first | rfl | (simp [bL] at ei)
        obtain ⟨a',ks,rfl,h,r⟩:=kW hi hx;have hk:=qv ((uh r).symm.trans (da ei));exact .inr ⟨a',ks,ns,rfl,h,hk,h64,fun l hl=>q _ _ (cB hl _) (dw hl (bK.ints _))⟩
      · rw [if_neg h64] at q;exact q.elim
  | _=>exact q.elim⟩
theorem xi (hc:X.calm=true):dN X (.builtin "all") (fun xs H Q=>∃ (p:Addr) (bs:List Bool),xs=[.ref p]/\mB X.K H p (bs.map V.bl)/\Q (.bl (bs.all id)) H):=by
  intro pins s σ H xs us Q I r h;obtain ⟨p,bs,rfl,hq,q⟩:=h;obtain ⟨u,rfl,rx⟩:=fq r;cases rx;obtain ⟨its,rv,pl,hz⟩:=I.list hq;have hh:X.A.in1.handled=none:=I.ok.hd hc;have hlt:p≠s.heap.objs.size:=by obtain ⟨o,e,_⟩:=pl.isList;exact Nat.ne_of_lt (Heap.lt_size e)
  have hits:its=bs.map Value.bool:=by
    have key:∀ (bs:List Bool) (us:List Value),bH (bs.map V.bl) us->us=bs.map Value.bool:=by
      intro bs;induction bs with
      | nil=>intro us r;cases r;rfl
      | cons k bs ih=>intro us r;rw [List.map_cons] at r;cases r with | cons r1 r2=>rw [ih _ r2];cases r1;rfl
    exact key bs its rv
  refine call_all_walk (wpAny_pyIter_list pl.isList ?_);refine ⟨s.heap.objs.size,_,_,its.toArray.size,_,_,fun i=>(bs[i]?).getD true,rfl,Walks.list hh s.heap.objs.size p hlt its.toArray,⟨⟨_,Heap.get?_push_size _ rfl,rfl,rfl⟩,?_⟩,fun i v s' Q' E' hv hQ'=>?_,fun h' tk kp=>?_⟩
  · obtain ⟨o,e,r'⟩:=pl.isList;exact ⟨o,Heap.get?_push_of_some _ e,r'⟩
  · have hv':its[i]?=some v:=by simpa using hv
    rw [hits,List.getElem?_map] at hv';cases e:bs[i]? with
    | none=>rw [e] at hv';cases hv'
    | some k =>
      rw [e] at hv';cases hv';dsimp only at hQ';rw [e] at hQ';exact wpAny_truthy_bool hQ'
  · have e:((List.range its.toArray.size).all fun i=>(bs[i]?).getD true)=bs.all id:=by
      rw [List.size_toArray,hits,List.length_map];have key:∀ (l:List Bool),((List.range l.length).all fun i=>(l[i]?).getD true)=l.all id:=by
        intro l;induction l with
        | nil=>rfl
        | cons k l ih =>
          rw [List.length_cons,List.range_succ_eq_map,List.all_cons,List.all_map,List.all_cons,<- ih];rfl
      exact key bs
    rw [e];refine ⟨.bl (bs.all id),H,I.kept (t':=tk) fun b o g=>kp b o (fun z=>?_) (Heap.get?_push_of_some _ g),rfl,q⟩;rw [List.mem_singleton.mp z] at g;exact absurd (Heap.lt_size g) (Nat.lt_irrefl _)
theorem tm:∀ {ds:List PyData} {k:Bool},tj ds=some k->∃ bs:List Bool,ds=bs.map PyData.bool/\k=bs.all id
  | [],k,h=>by cases h;exact ⟨[],rfl,rfl⟩
  | d::ds,k,h=>by
    cases d with
    | bool j =>
      simp only [tj] at h;cases e:tj ds with
      | none=>rw [e] at h;cases h
      | some r =>
        rw [e] at h;cases h;obtain ⟨bs,e1,e2⟩:=tm e;exact ⟨j::bs,by rw [e1];rfl,by rw [e2];rfl⟩
    | _=>cases h
theorem qI:∀ {H:Hp} {ns:List Bool} {vs:List V},bK H (ns.map PyData.bool) vs->vs=ns.map V.bl
  | H,[],vs,r=>by rw [List.map_nil] at r;rw [r.nil_inv];rfl
  | H,n::ns,vs,r=>by
    rw [List.map_cons] at r;obtain ⟨v,r',rfl,p,t⟩:=r.cons_inv;have:v=.bl n:=by simpa only [Rp] using p
    rw [this,qI t];rfl
theorem yT (T:Tb X nl G) (j:Nat) (hG:G[j]?=some ("all" : Str)) (hm:X.mg "all" = none) (ha:Z.dL X a fa) (he:bc a=true:=by rfl):Z.cL X (.Call (.Name "all" p) [a] [] pos) (e1 Bs fa):=⟨have ha:=ha.un;by
  refine Bm T j hG hm eO PyProof.Rows.boot_all (xi T.calm) (fun H x d Q hx q=>?_) ha he;cases d with
  | list ds =>
    simp only [Bs] at q;cases ei:tj ds with
    | none=>rw [ei] at q;exact q.elim
    | some k =>
      rw [ei] at q;obtain ⟨bs,e1,e2⟩:=tm ei;obtain ⟨a',vs,rfl,h,r⟩:=dE (K:=X.K) hx;rw [e1] at r;rw [qI r] at h;refine ⟨a',bs,rfl,h,?_⟩;rw [<- e2];exact q _ H (aM.refl _) e9
  | _=>exact q.elim⟩
end
section
variable {X:Cx} {a b c:Expr} {fa fb fc:Fe} {pos p2:Pos} {nl:Nat} {G:List Str} {x:Str} {p:Pos}
theorem iy.change {Fm H:Hp} {σ:St} {ρ:aT} {i:Nat} {d d':PyData} {a:Addr} {u u':HO} (h:iy Fm H σ ρ) (h1:ρ[i]?=some (.own d)) (h2:σ[i]?=some (some (.ref a))) (hu:H a=some u) (hm:(∃ xs,u=.lst xs)\/∃ ks,u=.dK ks)
    (hr:iZ (cI H a u') d' (.ref a)):iy Fm (cI H a u') σ (ρ.set i (.own d')):=by
  have hFa:=h.own i d a h1 h2;have kp:Kp H (cI H a u'):=gy hu hm;have at_i:∀ (j:Nat) (e:PyData),(ρ.set i (.own d'))[j]?=some (.own e)->∃ e0,ρ[j]?=some (.own e0):=fun j e q=>by
    rw [List.getElem?_set] at q;by_cases hij:i=j
    · subst hij;exact ⟨d,h1⟩
    · rw [if_neg hij] at q;exact ⟨e,q⟩
  refine ⟨fun b x e=>?_,⟨by rw [List.length_set];exact h.sl.1,fun j c w' e1 e2=>?_⟩,fun j e b e1 e2=>?_,fun j k e f b e1 e2 e3 e4=>?_⟩
  · rw [aA (ba e hFa)];exact h.fm b x e
  · rw [List.getElem?_set] at e1;by_cases hij:i=j
    · subst hij;rw [if_pos rfl] at e1;split at e1
      · cases e1;rw [h2] at e2;cases e2;exact ⟨_,rfl,hr⟩
      · cases e1
    · rw [if_neg hij] at e1;have q:=h.sl.2 j c w' e1 e2;cases c with
      | exc p=>exact q
      | non=>exact True.intro
      | val d1=>obtain ⟨v,z1,z2⟩:=q;exact ⟨v,z1,Rp.kp kp _ _ z2⟩
      | own d1 =>
        obtain ⟨v,z1,z2⟩:=q;subst z1;obtain ⟨b,ob,rfl,hb⟩:=r9 z2;have nb:b≠a:=fun z=>hij (by subst z;exact h.apart i j d d1 b h1 e1 h2 e2)
        refine ⟨_,rfl,?_⟩;cases d1 <;> simp only [iZ] at z2 ⊢
        · obtain ⟨b',vs,e,hb',r⟩:=z2;cases e;exact ⟨b,vs,rfl,by rw [aA nb];exact hb',bK.kp kp _ _ r⟩
        · obtain ⟨b',vs,e,hb',r⟩:=z2;cases e;exact ⟨b,vs,rfl,by rw [aA nb];exact hb',ej.kp kp _ _ r⟩
  · obtain ⟨e0,q⟩:=at_i j e e1;exact h.own j e0 b q e2
  · obtain ⟨e0,q⟩:=at_i j e e1;obtain ⟨f0,q'⟩:=at_i k f e2;exact h.apart j k e0 f0 b q q' e3 e4
noncomputable def Cz (i:Nat) (fk fv:Fe):Fs:=fun ρ=>fv ρ>>=fun v=>lL (fk ρ)>>=fun k=>match ρ[i]? with
  | some (.own (.dict kvs))=>match ia k with
    | some _=>if kvs.length < sizeLine then .ok (.nx (ρ.set i (.own (.dict (vp kvs k v))))) else .no
    | none=>.no
  | _=>.no
theorem xR {k:PyData} {κ:di} (h:ia k=some κ):k=fW κ:=by
  cases k <;> simp only [ia] at h <;> cases h <;> rfl
theorem EN {H:Hp} {κ:di} {y:V} (h:Rp H (fW κ) y):y=kV κ:=by
  cases κ <;> simp only [fW,Rp] at h <;> exact h
theorem yS {k v:Expr} {fk fv:Fe} {q1 q2 q3:Pos} (T:Tb X nl G) (n:Nat) (hN:X.N[n]?=some x) (hk:Z.cL X k fk) (hv:Z.cL X v fv) (hs:swapsWith v (some (.Subscript (.Name x q1) k q2)) q3.line X.env=pure false:=by rfl):Z.kN X (.Assign [.Subscript (.Name x q1) k q2] v q3) (Cz n fk fv):=⟨have hk:=hk.un;have hv:=hv.un;fun Fm=>by
  have hm:=T.vis x (List.mem_of_getElem? hN);refine PS.imp (Cj (by have:=T.hu;omega) (mh hN hm.1 hm.2.1 hm.2.2) hk hv hs) fun D σ H h=>?_
  refine (oq (P:=hJ) (f:=fv) (k:=fun ρ v=>lL (fk ρ)>>=fun k=>match ρ[n]? with
    | some (.own (.dict kvs))=>match ia k with
      | some _=>if kvs.length < sizeLine then .ok (.nx (ρ.set n (.own (.dict (vp kvs k v))))) else .no
      | none=>.no
    | _=>.no) h).post fun vv H1 ⟨ρ1,dv,sl1,_,p1,q1⟩=>?_
  have sl0:Dq X Fm (fun ρ=>lL (fk ρ)>>=fun k=>match ρ[n]? with
    | some (.own (.dict kvs))=>match ia k with
      | some _=>if kvs.length < sizeLine then .ok (.nx (ρ.set n (.own (.dict (vp kvs k dv))))) else .no
      | none=>.no
    | _=>.no) D σ H1:=⟨ρ1,sl1,q1⟩
  cases e:ρ1[n]? with
  | none =>
    exfalso;rw [e] at q1;cases e2:fk ρ1 with
    | ok _=>rw [e2] at q1;exact q1
    | ex _=>rw [e2] at q1;exact q1
    | no=>rw [e2] at q1;exact q1
  | some c =>
    rw [e] at q1;cases c with
    | own d =>
      cases d with
      | dict kvs =>
        obtain ⟨o,h2,w',rfl,p2⟩:=sl1.sl.at e;simp only [iZ] at p2;obtain ⟨a',ks,rfl,ha,r⟩:=p2;refine ⟨.ref a',h2,?_⟩;refine ⟨ρ1,sl1.sl,?_⟩;cases e2:fk ρ1 with
        | ex _=>rw [e2] at q1;exact q1.elim
        | no=>rw [e2] at q1;exact q1
        | ok kd =>
          rw [e2] at q1;simp only [lL,R.ok_bind] at q1;intro yv H3 s3 p3;cases e3:ia kd with
          | none=>rw [e3] at q1;exact q1.elim
          | some κ =>
            rw [e3] at q1;dsimp only at q1;by_cases hz:kvs.length < sizeLine
            · rw [if_pos hz] at q1;have ek:=xR e3;subst ek;have ey:=EN p3;subst ey;have ha3:=s3 _ _ ha;have r3:ej H3 kvs ks:=ej.kp (Kp.of s3) _ _ r;refine ⟨a',_,rfl,uv.k ha3 (by rw [r3.length];exact hz),q1 _ _ ((sl1.mono s3).change e h2 ha3 (.inr ⟨_,rfl⟩) ?_)⟩;simp only [iZ];exact ⟨a',_,rfl,bq,ej.kp (gy ha3 (.inr ⟨_,rfl⟩)) _ _ (ej.put κ (p1.mono s3) r3)⟩
            · rw [if_neg hz] at q1;exact q1.elim
      | _ =>
        exfalso;cases e2:fk ρ1 with
        | ok _=>rw [e2] at q1;exact q1
        | ex _=>rw [e2] at q1;exact q1
        | no=>rw [e2] at q1;exact q1
    | _ =>
      exfalso;cases e2:fk ρ1 with
      | ok _=>rw [e2] at q1;exact q1
      | ex _=>rw [e2] at q1;exact q1
      | no=>rw [e2] at q1;exact q1⟩
noncomputable def jR (i:Nat) (f:Fe):Fs:=fun ρ=>lL (f ρ)>>=fun d=>match ρ[i]? with
  | some (.own (.list ds))=>if ds.length < sizeLine then .ok (.nx (ρ.set i (.own (.list (ds++[d]))))) else .no
  | _=>.no
end
section
variable {prog:Program} {w:World} {A:Around} {E:Value->Shared->Prop} {s:Shared}
theorem vj {it t:Addr} {i:Nat} {items:Array Value} {x:Value} {Q:Value->Shared->Prop} (hit:s.heap.IsTupleIter it t i) (ht:s.heap.IsTuple t items) (hx:items[i]?=some x)
    (hQ:∀ h',h'.IsTupleIter it t (i+1)->Heap.SameBut it s.heap h'->Q x { s with heap:=h' }):wpAny (model prog w) A (Builtin.SmallTypes.nextOf (.ref it)) Q E s:=by
  obtain ⟨ob,hob,hcl,hdt⟩:=id hit;obtain ⟨ot,hot,_,nt,hdtt⟩:=ht;unfold Builtin.SmallTypes.nextOf;refine wpAny_bind (wpAny_callSpecial?_slot (name:=Str.ofString "__next__") hit.typeIs F.slot_tuple_iterator_next (wpAny_call_entry F.slot_tuple_iterator_next hit.typeIs F.entry_tuple_iterator_next ?_ (F.args_tuple_iterator_next_1 _)));show wpAny _ _ (field (Value.ref it) 0>>=_) _ _ s;refine wpAny_bind (wpAny_field hob hdt (x:=Value.ref t) rfl ?_);show wpAny _ _ (if (Value.ref t==Value.none)=true then _ else _) _ _ s;rw [if_neg (by intro z;cases z)];show wpAny _ _ (field (Value.ref it) 1>>=_) _ _ s;refine wpAny_bind (wpAny_field hob hdt (x:=Value.int i 0) rfl ?_);show wpAny _ _ (seqItems? (Value.ref t)>>=_) _ _ s;refine wpAny_bind (wpAny_seqItems hot hdtt ?_);simp only [hx,Int.toNat_natCast];refine wpAny_bind (wpAny_setField hob hdt (by simp) (wpAny_pure ⟨x,rfl,wpAny_pure (hQ _ ⟨_,Heap.get?_update_self _ hob (Obj.isFreed_of_fields (Obj.data_mapFields hdt _)),(Obj.cls_mapFields ..).trans hcl,?_⟩ (Heap.SameBut.update ..))⟩));rw [Obj.data_mapFields hdt];simp [rawInt]
theorem oZ {it t:Addr} {i:Nat} {items:Array Value} {Q:Value->Shared->Prop} (hh:A.handled=none) (hit:s.heap.IsTupleIter it t i) (ht:s.heap.IsTuple t items) (hx:items[i]?=none)
    (hE:∀ h' e,Heap.ExtBut it s.heap h'->(∃ o,h'.get? e=some o/\o.cls=.type "StopIteration")->E (.ref e) { s with heap:=h' }):wpAny (model prog w) A (Builtin.SmallTypes.nextOf (.ref it)) Q E s:=by
  obtain ⟨ob,hob,hcl,hdt⟩:=id hit;obtain ⟨ot,hot,_,nt,hdtt⟩:=ht;unfold Builtin.SmallTypes.nextOf;refine wpAny_bind (wpAny_callSpecial?_slot (name:=Str.ofString "__next__") hit.typeIs F.slot_tuple_iterator_next (wpAny_call_entry F.slot_tuple_iterator_next hit.typeIs F.entry_tuple_iterator_next ?_ (F.args_tuple_iterator_next_1 _)));show wpAny _ _ (field (Value.ref it) 0>>=_) _ _ s;refine wpAny_bind (wpAny_field hob hdt (x:=Value.ref t) rfl ?_);show wpAny _ _ (if (Value.ref t==Value.none)=true then _ else _) _ _ s;rw [if_neg (by intro z;cases z)];show wpAny _ _ (field (Value.ref it) 1>>=_) _ _ s;refine wpAny_bind (wpAny_field hob hdt (x:=Value.int i 0) rfl ?_);show wpAny _ _ (seqItems? (Value.ref t)>>=_) _ _ s;refine wpAny_bind (wpAny_seqItems hot hdtt ?_);simp only [hx,Int.toNat_natCast];refine wpAny_bind (wpAny_rule (wpAny_bind (wpAny_setField hob hdt (by simp) ?_)));show wpAny _ _ (newExc (Value.type "StopIteration") []>>=_) _ _ _;refine wpAny_bind ?_;simp only [newTuple,newExc];refine wpAny_bind (wpAny_newObj_type ?_ (by size_fits));refine wpAny_bind (m:=firstArgMember _ _) (wpAny_of_eq (a:=Value.none) (by first | rfl | (simp only [firstArgMember];rfl)) ?_);refine wpAny_newObj_type ?_ (by size_fits);simp only [raiseNew];refine wpAny_bind (wpAny_handled ?_)
  first | rw [show A.in1.handled=none from hh] | rw [hh]
  exact wpAny_bind (wpAny_pure (wpAny_throw (hE _ _ (((Heap.SameBut.update ..).extBut.push _).push _) ⟨_,Heap.get?_push_size _ rfl,rfl⟩)))
end
noncomputable def kM (h:Heap) (i l:Addr) (k:Nat) (xs:Array Value):Prop:=(h.IsListIter i l k/\h.IsList l xs)\/(h.IsTupleIter i l k/\h.IsTuple l xs)
section
variable {h h':Heap} {i l:Addr} {k:Nat} {xs:Array Value}
theorem kM.keep (x:kM h i l k xs) (hi:∀ o,h.get? i=some o->h'.get? i=some o) (hl:∀ o,h.get? l=some o->h'.get? l=some o):kM h' i l k xs:=by
  rcases x with ⟨⟨o,e,r⟩,⟨o',e',r'⟩⟩ | ⟨⟨o,e,r⟩,⟨o',e',r'⟩⟩
  · exact .inl ⟨⟨o,hi _ e,r⟩,⟨o',hl _ e',r'⟩⟩
  · exact .inr ⟨⟨o,hi _ e,r⟩,⟨o',hl _ e',r'⟩⟩
theorem kM.there (x:kM h i l k xs):(∃ o,h.get? i=some o/\∀ v,o.data≠.cell v)/\∃ o,h.get? l=some o:=by
  rcases x with ⟨⟨o,e,c,d⟩,⟨o',e',r'⟩⟩ | ⟨⟨o,e,c,d⟩,⟨o',e',r'⟩⟩
  · exact ⟨⟨o,e,fun v z=>by rw [d] at z;cases z⟩,⟨o',e'⟩⟩
  · exact ⟨⟨o,e,fun v z=>by rw [d] at z;cases z⟩,⟨o',e'⟩⟩
end
section
variable {prog:Program} {w:World} {A:Around} {E:Value->Shared->Prop} {s:Shared} {i l:Addr} {k:Nat} {xs:Array Value}
theorem ww {x:Value} {Q:Value->Shared->Prop} (it:kM s.heap i l k xs) (hne:l≠i) (hx:xs[k]?=some x) (hQ:∀ h',kM h' i l (k+1) xs->Heap.SameBut i s.heap h'->Q x { s with heap:=h' }) :
    wpAny (model prog w) A (Builtin.SmallTypes.nextOf (.ref i)) Q E s:=by
  rcases it with ⟨h1,h2⟩ | ⟨h1,h2⟩
  · exact wpAny_nextOf_list_item h1 h2 hx fun h' a b=>hQ h' (.inl ⟨a,h2.extBut b.extBut hne⟩) b
  · exact vj h1 h2 hx fun h' a b=>hQ h' (.inr ⟨a,h2.extBut b.extBut hne⟩) b
theorem md {Q:Value->Shared->Prop} (hh:A.handled=none) (it:kM s.heap i l k xs) (hx:xs[k]?=none)
    (hE:∀ h' e,Heap.ExtBut i s.heap h'->(∃ o,h'.get? e=some o/\o.cls=.type "StopIteration")->E (.ref e) { s with heap:=h' }):wpAny (model prog w) A (Builtin.SmallTypes.nextOf (.ref i)) Q E s:=by
  rcases it with ⟨h1,h2⟩ | ⟨h1,h2⟩
  · exact wpAny_nextOf_list_end hh h1 h2 hx hE
  · exact oZ hh h1 h2 hx hE
noncomputable def uN (h:Heap) (l:Addr) (xs:Array Value):Prop:=h.IsList l xs\/h.IsTuple l xs
end
structure ZA (z p q i j l m:Addr):Prop where
  pz:p≠z
  qz:q≠z
  iz:i≠z
  jz:j≠z
  pq:p≠q
  pi:p≠i
  pj:p≠j
  qi:q≠i
  qj:q≠j
  ij:i≠j
  lz:l≠z
  lq:l≠q
  li:l≠i
  lj:l≠j
  mz:m≠z
  mq:m≠q
  mi:m≠i
  mj:m≠j
structure A6 (h:Heap) (z p q i j l m:Addr) (f0:Value) (k:Nat) (xs ys:Array Value):Prop where
  zz:IsZip h z p q f0
  pp:IsPair h p (.ref i) (.ref j)
  qq:∃ a b,IsPair h q a b
  ii:kM h i l k xs
  jj:kM h j m k ys
section
variable {prog:Program} {w:World} {A:Around} {E:Value->Shared->Prop} {s:Shared} {z p q i j l m:Addr} {k:Nat} {xs ys:Array Value}
theorem A4 {x y:Value} {Q:Value->Shared->Prop} (D:ZA z p q i j l m) (S:A6 s.heap z p q i j l m .none k xs ys) (hx:xs[k]?=some x) (hy:ys[k]?=some y)
    (hQ:∀ h',A6 h' z p q i j l m (rawInt s.heap.objs.size) (k+1) xs ys->IsPair h' s.heap.objs.size x y->(∀ c o,c≠z->c≠q->c≠i->c≠j->s.heap.get? c=some o->h'.get? c=some o)->Q (.ref s.heap.objs.size) { s with heap:=h' }) :
    wpAny (model prog w) A (Builtin.«zip.__next__» ⟨[.ref z],[]⟩) (fun fin s'=>∃ v,fin=.done (.ret v)/\Q v s') E s:=by
  obtain ⟨hz,hp,⟨a,b,hq⟩,hi,hj⟩:=S;show wpAny _ _ (field (Value.ref z) 2>>=_) _ _ _;refine wpAny_bind (wpAny_field hz rfl (x:=Value.bool false) rfl ?_);show wpAny _ _ (field (Value.ref z) 3>>=_) _ _ _;refine wpAny_bind (wpAny_field hz rfl (x:=Value.ref p) rfl ?_);refine wpAny_bind (wpAny_seqItems hp rfl ?_);show wpAny _ _ (Builtin.SmallTypes.ownedTupleIsFree (Value.ref z)>>=_) _ _ _;refine wpAny_bind ?_;unfold Builtin.SmallTypes.ownedTupleIsFree;refine wpAny_bind (wpAny_field hz rfl (x:=Value.none) rfl (wpAny_pure ?_));simp only [if_true];refine wpAny_bind (wpAny_rule ?_);refine wpAny_bind (wpAny_field hz rfl (x:=Value.ref q) rfl ?_);refine wpAny_bind (wpAny_setField_rec hz (by simp) fun g1 z1 s1=>?_);replace z1:IsZip g1 z p q .ellipsis:=z1;refine wpAny_bind ?_;simp only [List.zipIdx_cons,List.zipIdx_nil,List.forIn_cons,List.forIn_nil];refine wpAny_bind (wpAny_bind (wpAny_onRaise ?_));show wpAny _ _ (Builtin.SmallTypes.nextOf (Value.ref i)>>=_) _ _ _;have hi1:kM g1 i l k xs:=hi.keep (fun o e=>s1.extBut _ _ D.iz e) fun o e=>s1.extBut _ _ D.lz e
  refine wpAny_bind (ww hi1 D.li hx fun g2 i2 s2=>wpAny_pure ?_);have q2:IsPair g2 q a b:=s2.extBut _ _ D.qi (s1.extBut _ _ D.qz hq);refine wpAny_bind (wpAny_seqItems q2 rfl ?_);refine wpAny_bind (wpAny_updateSeq_pair q2 fun g3 q3 s3=>?_);replace q3:IsPair g3 q x b:=q3;refine wpAny_bind (wpAny_letGo (wpAny_pure ?_));refine wpAny_bind (wpAny_bind (wpAny_onRaise ?_));show wpAny _ _ (Builtin.SmallTypes.nextOf (Value.ref j)>>=_) _ _ _;have hj3:kM g3 j m k ys:=hj.keep (fun o e=>s3.extBut _ _ D.qj.symm (s2.extBut _ _ D.ij.symm (s1.extBut _ _ D.jz e))) fun o e=>s3.extBut _ _ D.mq (s2.extBut _ _ D.mi (s1.extBut _ _ D.mz e))
  refine wpAny_bind (ww hj3 D.mj hy fun g4 j4 s4=>wpAny_pure ?_);have q4:IsPair g4 q x b:=s4.extBut _ _ D.qj q3;refine wpAny_bind (wpAny_seqItems q4 rfl ?_);refine wpAny_bind (wpAny_updateSeq_pair q4 fun g5 q5 s5=>?_);replace q5:IsPair g5 q x y:=q5;refine wpAny_bind (wpAny_letGo (wpAny_pure (wpAny_pure ?_)));refine wpAny_bind (wpAny_seqItems q5 rfl ?_);refine wpAny_bind (wpAny_newTuple ?_);have hsz:g5.objs.size=s.heap.objs.size:=by rw [s5.1,s4.1,s3.1,s2.1,s1.1]
  have z5:IsZip g5 z p q .ellipsis:=s5.extBut _ _ D.qz.symm (s4.extBut _ _ D.jz.symm (s3.extBut _ _ D.qz.symm (s2.extBut _ _ D.iz.symm z1)));have k5:∀ c o,c≠z->c≠q->c≠i->c≠j->s.heap.get? c=some o->g5.get? c=some o:=fun c o c1 c2 c3 c4 e=>s5.extBut _ _ c2 (s4.extBut _ _ c4 (s3.extBut _ _ c2 (s2.extBut _ _ c3 (s1.extBut _ _ c1 e))))
  have i5:kM g5 i l (k+1) xs:=i2.keep (fun o e=>s5.extBut _ _ D.qi.symm (s4.extBut _ _ D.ij (s3.extBut _ _ D.qi.symm e))) fun o e=>s5.extBut _ _ D.lq (s4.extBut _ _ D.lj (s3.extBut _ _ D.lq e))
  have j5:kM g5 j m (k+1) ys:=j4.keep (fun o e=>s5.extBut _ _ D.qj.symm e) fun o e=>s5.extBut _ _ D.mq e
  have zlt:z < g5.objs.size:=Heap.lt_size z5;show wpAny _ _ (Builtin.SmallTypes.ownedTupleHandOut (Value.ref z) (Value.ref g5.objs.size)>>=_) _ _ _;refine wpAny_bind ?_;unfold Builtin.SmallTypes.ownedTupleHandOut;have z6:IsZip (g5.push { cls:=.type "tuple",data:=.seq #[x,y] }) z p q .ellipsis:=Heap.get?_push_of_some _ z5;refine wpAny_bind (wpAny_setField_rec z6 (by simp) fun g7 z7 s7=>?_);replace z7:IsZip g7 z p q (rawInt g5.objs.size):=z7;refine wpAny_setField_rec z7 (by simp) fun g8 z8 s8=>?_
  replace z8:IsZip g8 z p q (rawInt g5.objs.size):=z8;have up:∀ c o,c≠z->g5.get? c=some o->g8.get? c=some o:=fun c o c1 e=>s8.extBut _ _ c1 (s7.extBut _ _ c1 (Heap.get?_push_of_some _ e))
  have t8:IsPair g8 g5.objs.size x y:=s8.extBut _ _ (Nat.ne_of_gt zlt) (s7.extBut _ _ (Nat.ne_of_gt zlt) (Heap.get?_push_size _ rfl));rw [hsz] at z8 t8;refine wpAny_pure ⟨_,rfl,?_⟩;show Q (.ref g5.objs.size) _;rw [hsz];exact hQ g8 ⟨z8,up _ _ D.pz (k5 _ _ D.pz D.pq D.pi D.pj hp),⟨x,y,up _ _ D.qz q5⟩,i5.keep (fun o e=>up _ _ D.iz e) fun o e=>up _ _ D.lz e,j5.keep (fun o e=>up _ _ D.jz e) fun o e=>up _ _ D.mz e⟩ t8 fun c o c1 c2 c3 c4 e=>up c o c1 (k5 c o c1 c2 c3 c4 e)
theorem CP {Q:PySem.Fin->Shared->Prop} (hh:A.handled=none) (D:ZA z p q i j l m) (S:A6 s.heap z p q i j l m .none k xs ys) (hend:xs[k]?=none\/ys[k]?=none)
    (hE:∀ h' e,(∀ c o,c≠z->c≠q->c≠i->c≠j->s.heap.get? c=some o->h'.get? c=some o)->(∃ o,h'.get? e=some o/\o.cls=.type "StopIteration")->E (.ref e) { s with heap:=h' }) :
    wpAny (model prog w) A (Builtin.«zip.__next__» ⟨[.ref z],[]⟩) Q E s:=by
  obtain ⟨hz,hp,⟨a,b,hq⟩,hi,hj⟩:=S;show wpAny _ _ (field (Value.ref z) 2>>=_) _ _ _;refine wpAny_bind (wpAny_field hz rfl (x:=Value.bool false) rfl ?_);show wpAny _ _ (field (Value.ref z) 3>>=_) _ _ _;refine wpAny_bind (wpAny_field hz rfl (x:=Value.ref p) rfl ?_);refine wpAny_bind (wpAny_seqItems hp rfl ?_);show wpAny _ _ (Builtin.SmallTypes.ownedTupleIsFree (Value.ref z)>>=_) _ _ _;refine wpAny_bind ?_;unfold Builtin.SmallTypes.ownedTupleIsFree;refine wpAny_bind (wpAny_field hz rfl (x:=Value.none) rfl (wpAny_pure ?_));simp only [if_true];refine wpAny_bind (wpAny_rule ?_);refine wpAny_bind (wpAny_field hz rfl (x:=Value.ref q) rfl ?_);refine wpAny_bind (wpAny_setField_rec hz (by simp) fun g1 z1 s1=>?_);replace z1:IsZip g1 z p q .ellipsis:=z1;refine wpAny_bind ?_;simp only [List.zipIdx_cons,List.zipIdx_nil,List.forIn_cons,List.forIn_nil];refine wpAny_bind (wpAny_bind (wpAny_onRaise ?_));show wpAny _ _ (Builtin.SmallTypes.nextOf (Value.ref i)>>=_) _ _ _;have hi1:kM g1 i l k xs:=hi.keep (fun o e=>s1.extBut _ _ D.iz e) fun o e=>s1.extBut _ _ D.lz e
  cases hx:xs[k]? with
  | none =>
    refine wpAny_bind (md hh hi1 hx fun g2 e s2 he=>?_);obtain ⟨oe,hoe,hce⟩:=he;have z2:IsZip g2 z p q .ellipsis:=s2 _ _ D.iz.symm z1;have hez:e≠z:=fun t=>by subst t;rw [z2] at hoe;cases hoe;simp at hce
    exact wpAny_setField_rec z2 (by simp) fun g3 _ s3=>hE g3 e (fun c o c1 _ c3 _ t=>s3.extBut _ _ c1 (s2 _ _ c3 (s1.extBut _ _ c1 t))) ⟨oe,s3.extBut _ _ hez hoe,hce⟩
  | some x =>
    have hy:ys[k]?=none:=by rcases hend with t | t;rw [hx] at t;cases t;exact t
    refine wpAny_bind (ww hi1 D.li hx fun g2 i2 s2=>wpAny_pure ?_);have q2:IsPair g2 q a b:=s2.extBut _ _ D.qi (s1.extBut _ _ D.qz hq);refine wpAny_bind (wpAny_seqItems q2 rfl ?_);refine wpAny_bind (wpAny_updateSeq_pair q2 fun g3 q3 s3=>?_);refine wpAny_bind (wpAny_letGo (wpAny_pure ?_));refine wpAny_bind (wpAny_bind (wpAny_onRaise ?_));show wpAny _ _ (Builtin.SmallTypes.nextOf (Value.ref j)>>=_) _ _ _;have hj3:kM g3 j m k ys:=hj.keep (fun o e=>s3.extBut _ _ D.qj.symm (s2.extBut _ _ D.ij.symm (s1.extBut _ _ D.jz e))) fun o e=>s3.extBut _ _ D.mq (s2.extBut _ _ D.mi (s1.extBut _ _ D.mz e))
    refine wpAny_bind (md hh hj3 hy fun g4 e s4 he=>?_);obtain ⟨oe,hoe,hce⟩:=he;have z4:IsZip g4 z p q .ellipsis:=s4 _ _ D.jz.symm (s3.extBut _ _ D.qz.symm (s2.extBut _ _ D.iz.symm z1));have hez:e≠z:=fun t=>by subst t;rw [z4] at hoe;cases hoe;simp at hce
    exact wpAny_setField_rec z4 (by simp) fun g5 _ s5=>hE g5 e (fun c o c1 c2 c3 c4 t=>s5.extBut _ _ c1 (s4 _ _ c4 (s3.extBut _ _ c2 (s2.extBut _ _ c3 (s1.extBut _ _ c1 t))))) ⟨oe,s5.extBut _ _ hez hoe,hce⟩
theorem vM {x y:Value} {Q:Option Value->Shared->Prop} (D:ZA z p q i j l m) (S:A6 s.heap z p q i j l m .none k xs ys) (hx:xs[k]?=some x) (hy:ys[k]?=some y)
    (hQ:∀ h',A6 h' z p q i j l m (rawInt s.heap.objs.size) (k+1) xs ys->IsPair h' s.heap.objs.size x y->(∀ c o,c≠z->c≠q->c≠i->c≠j->s.heap.get? c=some o->h'.get? c=some o)->Q (some (.ref s.heap.objs.size)) { s with heap:=h' }) :
    wpAny (model prog w) A (pyNext (.ref z)) Q E s:=by
  have hT:s.TypeIs (.ref z) "zip" := ⟨_,S.zz,rfl⟩
  unfold pyNext;exact wpAny_bind (wpAny_attempt (wpAny_callSpecial?_slot (name:=Str.ofString "__next__") hT F.slot_zip_next (wpAny_call_entry F.slot_zip_next hT F.entry_zip_next (A4 D S hx hy fun h' a b c=>wpAny_pure (hQ h' a b c)) (F.args_zip_next_1 _))))
theorem yB {Q:Option Value->Shared->Prop} (hh:A.handled=none) (D:ZA z p q i j l m) (S:A6 s.heap z p q i j l m .none k xs ys) (hend:xs[k]?=none\/ys[k]?=none)
    (hQ:∀ h',(∀ c o,c≠z->c≠q->c≠i->c≠j->s.heap.get? c=some o->h'.get? c=some o)->Q none { s with heap:=h' }):wpAny (model prog w) A (pyNext (.ref z)) Q E s:=by
  have hT:s.TypeIs (.ref z) "zip" := ⟨_,S.zz,rfl⟩
  unfold pyNext;refine wpAny_bind (wpAny_attempt (wpAny_callSpecial?_slot (name:=Str.ofString "__next__") hT F.slot_zip_next (wpAny_call_entry F.slot_zip_next hT F.entry_zip_next (CP hh D S hend fun h' e hk he=>?_) (F.args_zip_next_1 _))));obtain ⟨o,ho,hc⟩:=he;exact wpAny_bind (wpAny_isInstance (T := "StopIteration") (b:=true) ⟨o,ho,hc⟩ isSubtype_stop (wpAny_pure (hQ _ hk)))
theorem CQ (l m:Addr) (xs ys:Array Value):Meets (Builtin.«zip.__new__» ⟨[.type "zip",.ref l,.ref m],[]⟩) (fun _ R s=>uN s.heap l xs/\uN s.heap m ys /\
    ∀ h',h'.objs.size=s.heap.objs.size+5->A6 h' (s.heap.objs.size+4) (s.heap.objs.size+2) (s.heap.objs.size+3) s.heap.objs.size (s.heap.objs.size+1) l m .none 0 xs ys->(∀ c o,s.heap.get? c=some o->h'.get? c=some o) ->
      R (.ok (.ret (.ref (s.heap.objs.size+4)))) { s with heap:=h' }) :=
  .of_wp fun prog w A R s h=>by
    obtain ⟨hp,g,d,tk,os⟩:=s;obtain ⟨h1,h2,h⟩:=h;have hsub:=sub_zip;have fin:∀ (oi oj:Obj),kM (hp.push oi) hp.objs.size l 0 xs->kM ((hp.push oi).push oj) (hp.push oi).objs.size m 0 ys ->
        R (.ok (.ret (.ref ((((hp.push oi).push oj).push { cls:=.type "tuple",data:=.seq #[.ref hp.objs.size,.ref (hp.push oi).objs.size] }).push { cls:=.type "tuple",data:=.seq #[.none,.none] }).objs.size)))
          ⟨((((hp.push oi).push oj).push { cls:=.type "tuple",data:=.seq #[.ref hp.objs.size,.ref (hp.push oi).objs.size] }).push { cls:=.type "tuple",data:=.seq #[.none,.none] }).push { cls:=.type "zip",data:=.fields #[.none,.bool false,.bool false,.ref ((hp.push oi).push oj).objs.size,.ref (((hp.push oi).push oj).push { cls:=.type "tuple",data:=.seq #[.ref hp.objs.size,.ref (hp.push oi).objs.size] }).objs.size] },g,d,tk,os⟩:=fun oi oj hi hj=>by
      have e1:(hp.push oi).objs.size=hp.objs.size+1:=Heap.size_push ..;have e2:((hp.push oi).push oj).objs.size=hp.objs.size+2:=by rw [Heap.size_push,e1]
      have e3:(((hp.push oi).push oj).push { cls:=.type "tuple",data:=.seq #[.ref hp.objs.size,.ref (hp.push oi).objs.size] }).objs.size=hp.objs.size+3:=by rw [Heap.size_push,e2]
      have e4:((((hp.push oi).push oj).push { cls:=.type "tuple",data:=.seq #[.ref hp.objs.size,.ref (hp.push oi).objs.size] }).push { cls:=.type "tuple",data:=.seq #[.none,.none] }).objs.size=hp.objs.size+4:=by rw [Heap.size_push,e3]
      rw [e4,e3,e2];rw [e1] at hj ⊢;have kk:∀ (c:Addr) (o a b c':Obj),((hp.push oi).push oj).get? c=some o->(((((hp.push oi).push oj).push a).push b).push c').get? c=some o:=fun c o a b c' e=>Heap.get?_push_of_some _ (Heap.get?_push_of_some _ (Heap.get?_push_of_some _ e))
      refine h _ (by rw [Heap.size_push,Heap.size_push,Heap.size_push,e2]) ⟨?_,?_,⟨.none,.none,?_⟩,?_,?_⟩ fun c o e=>kk _ _ _ _ _ (Heap.get?_push_of_some _ (Heap.get?_push_of_some _ e))
      · have:hp.objs.size+4=((((hp.push oi).push oj).push { cls:=.type "tuple",data:=.seq #[.ref hp.objs.size,.ref (hp.objs.size+1)] }).push { cls:=.type "tuple",data:=.seq #[.none,.none] }).objs.size:=by rw [Heap.size_push,Heap.size_push,e2]
        show Heap.get? _ (hp.objs.size+4)=_;rw [this];exact Heap.get?_push_size _ rfl
      · refine Heap.get?_push_of_some _ (Heap.get?_push_of_some _ ?_);show Heap.get? _ (hp.objs.size+2)=_;rw [<- e2];exact Heap.get?_push_size _ rfl
      · refine Heap.get?_push_of_some _ ?_;have:hp.objs.size+3=(((hp.push oi).push oj).push { cls:=.type "tuple",data:=.seq #[.ref hp.objs.size,.ref (hp.objs.size+1)] }).objs.size:=by rw [Heap.size_push,e2]
        show Heap.get? _ (hp.objs.size+3)=_;rw [this];exact Heap.get?_push_size _ rfl
      · exact hi.keep (fun o e=>kk _ _ _ _ _ (Heap.get?_push_of_some _ e)) fun o e=>kk _ _ _ _ _ (Heap.get?_push_of_some _ e)
      · exact hj.keep (fun o e=>kk _ _ _ _ _ e) fun o e=>kk _ _ _ _ _ e
    rcases h1 with h1 | h1 <;> rcases h2 with h2 | h2
    · have l1:Heap.IsList (Shared.heap ⟨hp,g,d,tk,os⟩) l xs:=h1;have l2:Heap.IsList (Shared.heap ⟨hp.push { cls:=.type "list_iterator",data:=.fields #[.ref l,.int 0 0] },g,d,tk,os⟩) m ys:=Heap.IsList.push h2 _
      wp_walk using wpAny_pyIter_list l1,wpAny_pyIter_list l2
      exact ⟨_,rfl,fin _ _ (.inl ⟨⟨_,Heap.get?_push_size _ rfl,rfl,rfl⟩,Heap.IsList.push h1 _⟩) (.inl ⟨⟨_,Heap.get?_push_size _ rfl,rfl,rfl⟩,Heap.IsList.push l2 _⟩)⟩
    · have l1:Heap.IsList (Shared.heap ⟨hp,g,d,tk,os⟩) l xs:=h1;have l2:Heap.IsTuple (Shared.heap ⟨hp.push { cls:=.type "list_iterator",data:=.fields #[.ref l,.int 0 0] },g,d,tk,os⟩) m ys:=Heap.IsTuple.push h2 _
      wp_walk using wpAny_pyIter_list l1,wpAny_pyIter_tuple l2
      exact ⟨_,rfl,fin _ _ (.inl ⟨⟨_,Heap.get?_push_size _ rfl,rfl,rfl⟩,Heap.IsList.push h1 _⟩) (.inr ⟨⟨_,Heap.get?_push_size _ rfl,rfl,rfl⟩,Heap.IsTuple.push l2 _⟩)⟩
    · have l1:Heap.IsTuple (Shared.heap ⟨hp,g,d,tk,os⟩) l xs:=h1;have l2:Heap.IsList (Shared.heap ⟨hp.push { cls:=.type "tuple_iterator",data:=.fields #[.ref l,.int 0 0] },g,d,tk,os⟩) m ys:=Heap.IsList.push h2 _
      wp_walk using wpAny_pyIter_tuple l1,wpAny_pyIter_list l2
      exact ⟨_,rfl,fin _ _ (.inr ⟨⟨_,Heap.get?_push_size _ rfl,rfl,rfl⟩,Heap.IsTuple.push h1 _⟩) (.inl ⟨⟨_,Heap.get?_push_size _ rfl,rfl,rfl⟩,Heap.IsList.push l2 _⟩)⟩
    · have l1:Heap.IsTuple (Shared.heap ⟨hp,g,d,tk,os⟩) l xs:=h1;have l2:Heap.IsTuple (Shared.heap ⟨hp.push { cls:=.type "tuple_iterator",data:=.fields #[.ref l,.int 0 0] },g,d,tk,os⟩) m ys:=Heap.IsTuple.push h2 _
      wp_walk using wpAny_pyIter_tuple l1,wpAny_pyIter_tuple l2
      exact ⟨_,rfl,fin _ _ (.inr ⟨⟨_,Heap.get?_push_size _ rfl,rfl,rfl⟩,Heap.IsTuple.push h1 _⟩) (.inr ⟨⟨_,Heap.get?_push_size _ rfl,rfl,rfl⟩,Heap.IsTuple.push l2 _⟩)⟩
theorem zf {Q:Value->Shared->Prop} {l m:Addr} (h1:uN s.heap l xs) (h2:uN s.heap m ys)
    (h:∀ h',h'.objs.size=s.heap.objs.size+5->A6 h' (s.heap.objs.size+4) (s.heap.objs.size+2) (s.heap.objs.size+3) s.heap.objs.size (s.heap.objs.size+1) l m .none 0 xs ys->(∀ c o,s.heap.get? c=some o->h'.get? c=some o) ->
      Q (.ref (s.heap.objs.size+4)) { s with heap:=h' }):wpAny (model prog w) A (call (.type "zip") [.ref l,.ref m]) Q E s:=by
  refine callType_new F.called_zip (by decide) (F.typeCall_zip_2 _ _) (F.newCall_zip_2 _ _) (fun obj=>F.args_object_init_3 obj _ _) F.entry_zip_new (CQ l m xs ys) ⟨h1,h2,fun h' e S k=>?_⟩;exact ⟨⟨_,S.zz,rfl⟩,h h' e S k⟩
end
section
variable {X:Cx} {pins:List (Addr×Obj)} {σ:St} {H:Hp} {s:Shared} {h':Heap}
theorem jt {t':Nat} {fp:List Addr} (I:aU X pins σ H s) (k:∀ b o,b∉fp->s.heap.get? b=some o->h'.get? b=some o) (hf:∀ b∈fp,nh X pins H b):aU X pins σ H { s with heap:=h',toks:=t' }:=by
  have away:∀ b u,H b=some u->b∉fp:=fun b u e z=>by rw [(hf b z).1] at e;cases e
  have frame:X.env.locals∉fp:=fun z=>(hf _ z).2.1 rfl
  refine I.step (g':=s.gens) (d':=s.drawn) (ch:=fp) (fun b hb=>⟨(hf b hb).2.2.2.1,(hf b hb).2.1,(hf b hb).2.2.2.2.1,(hf b hb).2.2.2.2.2⟩) (fun b o _ _ hc e _=>k b o hc e) (fun b o _ _ hc e _=>⟨o.slots,k b o hc e⟩) (fun _ _ _ _ n=>n)
    (fun b o hc e=>⟨o,k b o hc e⟩) (fun _ _ e=>e) (fun _ _ _ e=>e) (fun b ps e=>⟨#[],by rw [e];simp⟩) (fun m ⟨o,es,ep,ho,r⟩=>⟨o,es,ep,k _ o frame ho,r⟩) (fun b u e=>?_) I.bare
  refine (I.hok b u e).stay (fun c v hc q=>k c v ?_ q) (fun _ q=>q) fun _ _ q=>q
  rcases hc with z | z
  · rw [z];exact away b u e
  · exact away c _ z
theorem Au {h:Heap} {o o':Obj} {b:Addr} (hb:b≠h.objs.size) (e:(h.push o).get? b=some o'):h.get? b=some o':=by
  unfold Heap.get? Heap.push at e;unfold Heap.get?;simp only [Array.getElem?_push] at e;rw [if_neg hb] at e;exact e
theorem wk {t':Nat} {fp:List Addr} {u1 u2:Value} {v1 v2:V} (I:aU X pins σ H s) (hf:∀ b∈fp,nh X pins H b) (hob:∀ b∈fp,b < s.heap.objs.size) (ht:IsPair h' s.heap.objs.size u1 u2) (k:∀ b o,b∉fp->s.heap.get? b=some o->h'.get? b=some o)
    (r1:ca v1 u1) (r2:ca v2 u2):aU X pins σ (cI H s.heap.objs.size (.tup [v1,v2])) { s with heap:=h',toks:=t' }:=by
  have I1:aU X pins σ (cI H s.heap.objs.size (.tup [v1,v2])) { s with heap:=s.heap.push { cls:=.type "tuple",data:=.seq #[u1,u2] },toks:=s.toks } :=
    I.laid (fun b u e=>Heap.get?_push_of_some _ e) (Nat.le_refl _) ⟨by show 2<=sizeLine;decide,[u1,u2],.cons r1 (.cons r2 .nil),_,Heap.get?_push_size _ rfl,rfl,⟨_,rfl⟩,rfl⟩
  refine jt (fp:=fp) (s:={ s with heap:=s.heap.push { cls:=.type "tuple",data:=.seq #[u1,u2] },toks:=s.toks }) I1 (fun b o hb e=>?_) fun b hb=>?_
  · by_cases hz:b=s.heap.objs.size
    · subst hz;have e':(s.heap.push { cls:=.type "tuple",data:=.seq #[u1,u2] }).get? s.heap.objs.size=some o:=e;rw [Heap.get?_push_size _ rfl] at e';cases e';exact ht
    · exact k b o hb (Au hz e)
  · obtain ⟨f0,f1,f2,f3,f4,f5⟩:=hf b hb;exact ⟨by rw [aA (Nat.ne_of_lt (hob b hb))];exact f0,f1,f2,f3,f4,f5⟩
end
noncomputable def sQ (K:PySem.W.Frag) (H:Hp) (a:Addr) (xs:List V):Bool->Prop
  | true=>i4 K H a xs
  | false=>mB K H a xs
noncomputable def fY (h:Heap) (i l:Addr) (k:Nat):Bool->Prop
  | true=>h.IsTupleIter i l k
  | false=>h.IsListIter i l k
theorem fY.keep {h h':Heap} {i l:Addr} {k:Nat} {b:Bool} (x:fY h i l k b) (hi:∀ o,h.get? i=some o->h'.get? i=some o):fY h' i l k b:=by
  cases b
  · obtain ⟨o,e,r⟩:=x;exact ⟨o,hi _ e,r⟩
  · obtain ⟨o,e,r⟩:=x;exact ⟨o,hi _ e,r⟩
theorem fY.there {h:Heap} {i l:Addr} {k:Nat} {b:Bool} (x:fY h i l k b):∃ o,h.get? i=some o/\∀ v,o.data≠.cell v:=by
  cases b
  · obtain ⟨o,e,c,d⟩:=x;exact ⟨o,e,fun v z=>by rw [d] at z;cases z⟩
  · obtain ⟨o,e,c,d⟩:=x;exact ⟨o,e,fun v z=>by rw [d] at z;cases z⟩
section
variable {X:Cx} {pins:List (Addr×Obj)} {σ:St} {H:Hp} {s:Shared}
theorem iG {a:Addr} {xs:List V} {b:Bool} (I:aU X pins σ H s) (h:sQ X.K H a xs b):∃ its:List Value,bH xs its/\uN s.heap a its.toArray/\∀ (i:Addr) (k:Nat),fY s.heap i a k b->kM s.heap i a k its.toArray:=by
  cases b
  · obtain ⟨its,rv,p,_⟩:=I.list h;exact ⟨its,rv,.inl p.isList,fun i k z=>.inl ⟨z,p.isList⟩⟩
  · obtain ⟨its,rv,p,_⟩:=I.tuple h;exact ⟨its,rv,.inr p,fun i k z=>.inr ⟨z,p⟩⟩
theorem kB {a:Addr} {xs ys:List V} {b:Bool} (I:aU X pins σ H s) (h:sQ X.K H a xs b) (h':sQ X.K H a ys b):ys=xs:=by
  cases b
  · exact I.list_inj h' h
  · exact I.tuple_inj h' h
theorem kM.toB {h:Heap} {i l:Addr} {k:Nat} {xs:Array Value} {b:Bool} (hl:∀ ys,(b=true->¬ h.IsList l ys)/\(b=false->¬ h.IsTuple l ys)) (x:kM h i l k xs):fY h i l k b:=by
  cases b
  · rcases x with ⟨z,w⟩ | ⟨z,w⟩
    · exact z
    · exact absurd w ((hl xs).2 rfl)
  · rcases x with ⟨z,w⟩ | ⟨z,w⟩
    · exact absurd w ((hl xs).1 rfl)
    · exact z
theorem dP {h:Heap} {l:Addr} {xs ys:Array Value} (a:h.IsList l xs) (b:h.IsTuple l ys):False:=by
  obtain ⟨o,e,c,_⟩:=a;obtain ⟨o',e',c',_⟩:=b;rw [e] at e';cases e';rw [c] at c';injection c' with z
  exact absurd z (by decide)
theorem oO {a:Addr} {xs:List V} {b:Bool} (I:aU X pins σ H s) (h:sQ X.K H a xs b) {h':Heap} (kp:∀ c o,s.heap.get? c=some o->h'.get? c=some o):∀ ys,(b=true->¬ h'.IsList a ys)/\(b=false->¬ h'.IsTuple a ys):=fun ys=>by
  cases b
  · obtain ⟨its,rv,p,_⟩:=I.list h;refine ⟨fun z=>(by cases z),fun _ w=>?_⟩;obtain ⟨o,e,r⟩:=p.isList;exact dP (h:=h') (xs:=its.toArray) ⟨o,kp _ _ e,r⟩ w
  · obtain ⟨its,rv,p,_⟩:=I.tuple h;refine ⟨fun _ w=>?_,fun z=>by cases z⟩;obtain ⟨o,e,r⟩:=p;exact dP (h:=h') w ⟨o,kp _ _ e,r⟩
end
noncomputable def HM (K:PySem.W.Frag) (l m:Addr) (b c:Bool):It :=
  ⟨fun i H=>∃ xs ys x y,sQ K H l xs b/\sQ K H m ys c/\xs[i]?=some x/\ys[i]?=some y,
   fun i H v H'=>∃ a x y,H a=none/\v=.ref a/\H'=cI H a (.tup [x,y])/\(∀ xs,sQ K H l xs b->xs[i]?=some x)/\∀ ys,sQ K H m ys c->ys[i]?=some y,
   fun i H=>∃ xs ys,sQ K H l xs b/\sQ K H m ys c/\(xs.length<=i\/ys.length<=i)⟩
structure Jq (z p q i j l m:Addr) (b c:Bool) (k:Nat) (h:Heap):Prop where
  zz:IsZip h z p q .none
  pp:IsPair h p (.ref i) (.ref j)
  qq:∃ a b,IsPair h q a b
  ii:fY h i l k b
  jj:fY h j m k c
theorem AX {P:Program} {w:World} {K:PySem.W.Frag} {elts:List Expr} {x1} {pos:Pos} {z p q i j l m:Addr} {b c:Bool} (D:ZA z p q i j l m):uO P w K (.Tuple elts x1 pos) (HM K l m b c) [z,p,q,i,j] z (Jq z p q i j l m b c) where
  mem:=by simp
  obj:=fun k h st a ha=>by
    simp only [List.mem_cons,List.not_mem_nil,or_false] at ha;rcases ha with rfl | rfl | rfl | rfl | rfl
    · exact ⟨_,st.zz,fun v e=>by cases e⟩
    · exact ⟨_,st.pp,fun v e=>by cases e⟩
    · obtain ⟨_,_,e⟩:=st.qq;exact ⟨_,e,fun v e=>by cases e⟩
    · exact st.ii.there
    · exact st.jj.there
  keep:=fun k h h' st kp=>⟨kp z (by simp) _ st.zz,kp p (by simp) _ st.pp,let ⟨a,b,e⟩:=st.qq;⟨a,b,kp q (by simp) _ e⟩,st.ii.keep fun o e=>kp i (by simp) o e,st.jj.keep fun o e=>kp j (by simp) o e⟩
  item:=by
    intro X hP hw hK hc k pins s σ H E I hf st hg;subst hP hw hK;obtain ⟨xs,ys,x,y,h1,h2,hx,hy⟩:=hg;obtain ⟨its,rv,_,p1⟩:=iG I h1;obtain ⟨jts,rw',_,p2⟩:=iG I h2;obtain ⟨u,hu,ru⟩:=rv.get hx;obtain ⟨v,hv,ry⟩:=rw'.get hy;have S:A6 s.heap z p q i j l m .none k its.toArray jts.toArray:=⟨st.zz,st.pp,st.qq,p1 _ _ st.ii,p2 _ _ st.jj⟩
    refine vM D S (x:=u) (y:=v) (by simpa using hu) (by simpa using hv) fun h' S' hp kp=>⟨_,rfl,?_⟩
    have zlt:z < s.heap.objs.size:=Heap.lt_size st.zz;refine wpAny_letOwnedTupleGo_zip (s:={ s with heap:=h' }) S'.zz fun h2' hz2 sb=>?_
    have up:∀ a o,a≠z->h'.get? a=some o->h2'.get? a=some o:=fun a o ha e=>sb.extBut a o ha e
    have hob:∀ a∈[z,p,q,i,j],a < s.heap.objs.size:=fun a ha=>by
      simp only [List.mem_cons,List.not_mem_nil,or_false] at ha;rcases ha with rfl | rfl | rfl | rfl | rfl
      · exact Heap.lt_size st.zz
      · exact Heap.lt_size st.pp
      · obtain ⟨_,_,e⟩:=st.qq;exact Heap.lt_size e
      · obtain ⟨o,e,_⟩:=st.ii.there;exact Heap.lt_size e
      · obtain ⟨o,e,_⟩:=st.jj.there;exact Heap.lt_size e
    have hn:H s.heap.objs.size=none:=I.hok.fresh (Nat.le_refl _);refine ⟨.ref s.heap.objs.size,_,wk (s:=s) (t':=s.toks) (fp:=[z,p,q,i,j]) (h':=h2') (u1:=u) (u2:=v) (v1:=x) (v2:=y) I hf hob (up _ _ (Nat.ne_of_gt zlt) hp) (fun a o ha e=>?_) ru ry,rfl,⟨_,x,y,hn,rfl,rfl,fun zs hz=>by rw [kB I h1 hz];exact hx,fun zs hz=>by rw [kB I h2 hz];exact hy⟩,?_,fun a ha=>?_⟩
    · simp only [List.mem_cons,List.not_mem_nil,or_false,not_or] at ha;exact up a o ha.1 (kp a o ha.1 ha.2.2.1 ha.2.2.2.1 ha.2.2.2.2 e)
    · have i2:fY h' i l (k+1) b:=by
        refine S'.ii.toB fun ys=>?_
        cases hb:b
        · subst hb;refine ⟨fun z=>(by cases z),fun _ w=>?_⟩;obtain ⟨_,_,pl,_⟩:=I.list h1;obtain ⟨o,e,r⟩:=pl.isList;exact dP (h:=h') (xs:=_) ⟨o,kp _ _ D.lz D.lq D.li D.lj e,r⟩ w
        · subst hb;refine ⟨fun _ w=>?_,fun z=>by cases z⟩;obtain ⟨_,_,pl,_⟩:=I.tuple h1;obtain ⟨o,e,r⟩:=pl;exact dP (h:=h') w ⟨o,kp _ _ D.lz D.lq D.li D.lj e,r⟩
      have j2:fY h' j m (k+1) c:=by
        refine S'.jj.toB fun ys=>?_
        cases hb:c
        · subst hb;refine ⟨fun z=>(by cases z),fun _ w=>?_⟩;obtain ⟨_,_,pl,_⟩:=I.list h2;obtain ⟨o,e,r⟩:=pl.isList;exact dP (h:=h') (xs:=_) ⟨o,kp _ _ D.mz D.mq D.mi D.mj e,r⟩ w
        · subst hb;refine ⟨fun _ w=>?_,fun z=>by cases z⟩;obtain ⟨_,_,pl,_⟩:=I.tuple h2;obtain ⟨o,e,r⟩:=pl;exact dP (h:=h') w ⟨o,kp _ _ D.mz D.mq D.mi D.mj e,r⟩
      exact ⟨hz2,up _ _ D.pz S'.pp,let ⟨a,b,e⟩:=S'.qq;⟨a,b,up _ _ D.qz e⟩,i2.keep fun o e=>up _ _ D.iz e,j2.keep fun o e=>up _ _ D.jz e⟩
    · rw [aA (Nat.ne_of_lt (hob a ha))];exact (hf a ha).1
  done:=by
    intro X hP hw hK hc k pins s σ H E I hf st hg;subst hP hw hK;obtain ⟨xs,ys,h1,h2,hl⟩:=hg;obtain ⟨its,rv,_,p1⟩:=iG I h1;obtain ⟨jts,rw',_,p2⟩:=iG I h2;have S:A6 s.heap z p q i j l m .none k its.toArray jts.toArray:=⟨st.zz,st.pp,st.qq,p1 _ _ st.ii,p2 _ _ st.jj⟩
    have e1:=rv.length;have e2:=rw'.length;refine yB (I.ok.hd hc) D S ?_ fun h' kp=>⟨rfl,jt (t':=s.toks) (fp:=[z,p,q,i,j]) I (fun a o ha e=>?_) hf⟩
    · rcases hl with hl | hl
      · left;simp;omega
      · right;simp;omega
    · simp only [List.mem_cons,List.not_mem_nil,or_false,not_or] at ha;exact kp a o ha.1 ha.2.2.1 ha.2.2.2.1 ha.2.2.2.2 e
  self:=fun _ _ _ _ _ st h=>wpAny_pyIter_zip st.zz h
noncomputable def Bg (H:Hp) (a:Addr) (ds:List PyData):Bool->Prop
  | true=>∃ vs,H a=some (.tup vs)/\bK H ds vs
  | false=>∃ o vs,H a=some (.frz o (.lst vs))/\bK H ds vs
theorem Bg.sq {K:PySem.W.Frag} {H:Hp} {a:Addr} {ds:List PyData} {b:Bool} (h:Bg H a ds b):∃ vs,sQ K H a vs b/\bK H ds vs:=by
  cases b
  · obtain ⟨o,vs,e,r⟩:=h;exact ⟨vs,.inl (.inr ⟨o,e⟩),r⟩
  · obtain ⟨vs,e,r⟩:=h;exact ⟨vs,i4.of e,r⟩
theorem Bg.kp {H H':Hp} {a:Addr} {ds:List PyData} {b:Bool} (h:Bg H a ds b) (k:Kp H H'):Bg H' a ds b:=by
  cases b
  · obtain ⟨o,vs,e,r⟩:=h;exact ⟨o,vs,k.2 _ _ _ e,bK.kp k _ _ r⟩
  · obtain ⟨vs,e,r⟩:=h;exact ⟨vs,k.1 _ _ e,bK.kp k _ _ r⟩
noncomputable def Gk (p:PyData×PyData):PyData:=.tuple [p.1,p.2]
noncomputable def nC (xs ys:List PyData):List PyData:=(xs.zip ys).map Gk
theorem A3 {xs ys:List PyData} {i:Nat} {d:PyData} (h:(nC xs ys)[i]?=some d):∃ x y,xs[i]?=some x/\ys[i]?=some y/\d=.tuple [x,y]:=by
  unfold nC at h;rw [List.getElem?_map] at h;cases e:(xs.zip ys)[i]? with
  | none=>rw [e] at h;cases h
  | some p =>
    rw [e] at h;obtain ⟨h1,h2⟩:=List.getElem?_zip_eq_some.mp e;exact ⟨p.1,p.2,h1,h2,(Option.some.inj h).symm⟩
theorem pK (xs ys:List PyData):(nC xs ys).length=min xs.length ys.length:=by unfold nC;simp
theorem BP {K:PySem.W.Frag} {l m:Addr} {b c:Bool} {xs ys:List PyData}:Bd (HM K l m b c) (fun H=>Bg H l xs b/\Bg H m ys c) (nC xs ys) where
  go:=fun i H ⟨h1,h2⟩ hi=>by
    rw [pK] at hi;obtain ⟨vs,s1,r1⟩:=h1.sq (K:=K);obtain ⟨us,s2,r2⟩:=h2.sq (K:=K);obtain ⟨x,hx,_⟩:=r1.get (List.getElem?_eq_getElem (show i < xs.length by omega));obtain ⟨y,hy,_⟩:=r2.get (List.getElem?_eq_getElem (show i < ys.length by omega));exact ⟨vs,us,x,y,s1,s2,hx,hy⟩
  yld:=fun i H v H' d ⟨h1,h2⟩ hd h=>by
    obtain ⟨a,x,y,ha,rfl,rfl,k1,k2⟩:=h;obtain ⟨vs,s1,r1⟩:=h1.sq (K:=K);obtain ⟨us,s2,r2⟩:=h2.sq (K:=K);obtain ⟨dx,dy,e1,e2,rfl⟩:=A3 hd;obtain ⟨x',hx,px⟩:=r1.get e1;obtain ⟨y',hy,py⟩:=r2.get e2;have q1:=k1 vs s1;have q2:=k2 us s2;rw [hx] at q1;rw [hy] at q2;cases q1;cases q2;exact ⟨cB ha _,eI ha (bK.cons px (bK.cons py bK.nil))⟩
  stop:=fun i H ⟨h1,h2⟩ hi=>by
    rw [pK] at hi;obtain ⟨vs,s1,r1⟩:=h1.sq (K:=K);obtain ⟨us,s2,r2⟩:=h2.sq (K:=K);have l1:=r1.length;have l2:=r2.length;exact ⟨vs,us,s1,s2,by omega⟩
theorem Fg {n l m:Nat} (hl:l < n) (hm:m < n):ZA (n+4) (n+2) (n+3) n (n+1) l m:=by
  refine ⟨?_,?_,?_,?_,?_,?_,?_,?_,?_,?_,?_,?_,?_,?_,?_,?_,?_,?_⟩ <;> (intro z;have z':(_:Nat)=_:=z;omega)
section
variable {X:Cx} {elts:List Expr} {x1:Nat} {tp:Pos} {a b:Expr} {fa fb:Fe} {pos p:Pos} {nl:Nat} {G:List Str} {fs:aT->R (List PyData)}
noncomputable def Jw (K:PySem.W.Frag) (ta:TA):TI:=fun σ H R=>ta σ H fun vs H1=>∃ l m xs ys b c,vs=[.ref l,.ref m]/\sQ K H1 l xs b/\sQ K H1 m ys c/\R (HM K l m b c) H1
theorem ED {ta:TA} (hg:Gl X "zip") (hm:X.mg "zip" = none) (ha:PA X [a,b] ta) (hs:starEach [a,b] X.env=[(false,eval a X.env),(false,eval b X.env)]) (hs2:starEach [b] X.env=[(false,eval b X.env)]) :
    PI X (.Tuple elts x1 tp) (.Call (.Name "zip" p) [a,b] [] pos) (Jw X.K ta):=by
  intro pins s σ H R I h;refine Call_ (gX I hg hm boot_zip (PyProof.Rows.callWith_type1 (dq (ha pos pins s σ H _ I h) fun us s1 ⟨vs,H1,I1,r1,q1⟩=>?_) (by rw [hs,hs2]) (by rw [hs2];rfl)));obtain ⟨l,m,xs,ys,b,c,e,h1,h2,q⟩:=q1;subst e;obtain ⟨u,v,rfl,ru,rv⟩:=wT r1;cases ru;cases rv;obtain ⟨its,w1,p1,g1⟩:=iG I1 h1;obtain ⟨jts,w2,p2,g2⟩:=iG I1 h2;have ll:l < s1.heap.objs.size:=by rcases p1 with ⟨o,e,_⟩ | ⟨o,e,_⟩ <;> exact Heap.lt_size e
  have lm:m < s1.heap.objs.size:=by rcases p2 with ⟨o,e,_⟩ | ⟨o,e,_⟩ <;> exact Heap.lt_size e
  refine zf p1 p2 fun h' hz S kp=>wpAny_pyIter_zip S.zz ?_
  have D:=Fg ll lm;have I2:aU X pins σ H1 { s1 with heap:=h' }:=I1.kept (t':=s1.toks) kp;have i2:fY h' s1.heap.objs.size l 0 b:=S.ii.toB (oO I1 h1 kp);have j2:fY h' (s1.heap.objs.size+1) m 0 c:=S.jj.toB (oO I1 h2 kp);refine ⟨_,[s1.heap.objs.size+4,s1.heap.objs.size+2,s1.heap.objs.size+3,s1.heap.objs.size,s1.heap.objs.size+1],_,_,H1,rfl,I2,AX (b:=b) (c:=c) D,⟨S.zz,S.pp,S.qq,i2,j2⟩,fun a ha=>?_,q⟩;have hle:s1.heap.objs.size<=a:=by
    simp only [List.mem_cons,List.not_mem_nil,or_false] at ha;rcases ha with rfl | rfl | rfl | rfl | rfl
    · exact Nat.le_add_right _ 4
    · exact Nat.le_add_right _ 2
    · exact Nat.le_add_right _ 3
    · exact Nat.le_refl _
    · exact Nat.le_add_right _ 1
  exact I1.fpOk hle (I1.hok.fresh hle)
noncomputable def BK (fa fb:Fe):aT->R (List PyData):=fun ρ=>fa ρ>>=fun x=>fb ρ>>=fun y=>iT x>>=fun xs=>iT y>>=fun ys=>.ok (nC xs ys)
theorem vw {H:Hp} {d:PyData} {v:V} {ds:List PyData} (h:Rp H d v) (e:iT d=.ok ds):∃ a b,v=.ref a/\Bg H a ds b:=by
  cases d with
  | list xs =>
    cases e;simp only [Rp] at h;obtain ⟨a,o,vs,rfl,h,r⟩:=h;exact ⟨a,false,rfl,o,vs,h,r⟩
  | tuple xs =>
    cases e;simp only [Rp] at h;obtain ⟨a,vs,rfl,h,r⟩:=h;exact ⟨a,true,rfl,vs,h,r⟩
  | _=>cases e
theorem yR (T:Tb X nl G) (j:Nat) (hG:G[j]?=some ("zip" : Str)) (hm:X.mg "zip" = none) (ha:Z.cL X a fa) (hb:Z.cL X b fb) (h1:bc a=true:=by rfl) (h2:bc b=true:=by rfl):Z.qY X (.Tuple elts x1 tp) (.Call (.Name "zip" p) [a,b] [] pos) (BK fa fb):=⟨have ha:=ha.un;have hb:=hb.un;by
  have g:=T.gl _ (List.mem_of_getElem? hG);refine PI.imp (ED g.1 hm (gf ha (gf hb jo h2) h1) (by rw [bA h1,bA h2];rfl) (by rw [bA h2];rfl)) fun σ H Rk h=>?_
  obtain ⟨ρ,sl,q⟩:=h;unfold BK at q;refine ⟨ρ,sl,?_⟩;unfold ah aG;cases e1:fa ρ with
  | ex c=>rw [e1] at q;exact q
  | no=>rw [e1] at q;exact q
  | ok x =>
    rw [e1] at q;simp only [R.ok_bind] at q ⊢;cases e2:fb ρ with
    | ex c=>rw [e2] at q;exact q
    | no=>rw [e2] at q;exact q
    | ok y =>
      rw [e2] at q;simp only [R.ok_bind] at q ⊢;cases e3:iT x with
      | ex c=>exact absurd e3 (by cases x <;> simp [iT])
      | no=>rw [e3] at q;exact q.elim
      | ok xs =>
        rw [e3] at q;simp only [R.ok_bind] at q;cases e4:iT y with
        | ex c=>exact absurd e4 (by cases y <;> simp [iT])
        | no=>rw [e4] at q;exact q.elim
        | ok ys =>
          rw [e4] at q;simp only [R.ok_bind] at q;intro vs H1 s1 ra;simp only [RA] at ra;obtain ⟨v,r',rfl,p1,v',r'',rfl,p2,rfl⟩:=ra;obtain ⟨l,b1,rfl,d1⟩:=vw p1 e3;obtain ⟨m,b2,rfl,d2⟩:=vw p2 e4;obtain ⟨us,u1,_⟩:=d1.sq (K:=X.K);obtain ⟨ws,u2,_⟩:=d2.sq (K:=X.K);exact ⟨l,m,us,ws,b1,b2,rfl,u1,u2,q _ H1 s1 ⟨_,BP,fun H2 k _=>⟨d1.kp k,d2.kp k⟩⟩⟩⟩
end
noncomputable def eA (i j:Nat):PyData->aT->Option aT
  | .tuple [x,y],ρ=>some ((ρ.set i (.val x)).set j (.val y))
  | _,_=>none
section
variable {X:Cx} {nl:Nat} {G:List Str} {x y:Str} {k:Nat} {p1 p2 pos:Pos}
theorem gq (T:Tb X nl G) (i j:Nat) (hi:(X.N.take nl)[i]?=some x) (hj:(X.N.take nl)[j]?=some y):Z.sy X (.Tuple [.Name x p1,.Name y p2] k pos) (eA i j):=⟨by
  obtain ⟨i1,i2,i3⟩:=T.nm hi;obtain ⟨j1,j2,j3⟩:=T.nm hj;refine PG.imp (EC T.calm (t9 (sh T.nd i1 i2 i3) (t9 (sh T.nd j1 j2 j3) Ch))) fun v σ H Q zq0=>?_
  obtain ⟨ρ,d,sl,p,q⟩:=zq0;unfold eA at q;split at q
  · rename_i e;split at e
    · rename_i ρ0 dx dy;cases e;simp only [Rp] at p;obtain ⟨a,vs,rfl,ha,r⟩:=p;obtain ⟨u,r1,rfl,pu,r⟩:=r.cons_inv;obtain ⟨w,r2,rfl,pw,r⟩:=r.cons_inv;rw [r.nil_inv] at ha;refine ⟨a,[u,w],rfl,i4.of ha,rfl,u,[w],rfl,w,[],rfl,rfl,?_⟩;refine q _ (Sl.set (c:=.val dy) (o:=some w) (Sl.set (c:=.val dx) (o:=some u) sl i ⟨u,rfl,pu⟩) j ⟨w,rfl,pw⟩) fun n e h=>?_
      obtain ⟨n1,h⟩:=cY (fun e z=>by cases z) h;obtain ⟨n2,h⟩:=cY (fun e z=>by cases z) h;exact ⟨h,by rw [List.getElem?_set,if_neg n1,List.getElem?_set,if_neg n2]⟩
    · cases e
  · exact q.elim⟩
end
theorem h9 {own:Nat} {fr:List Nat} {i j:Nat} (hi:i < own) (hj:j < own):∀ ρ d ρ1,eA i j d (ay own fr ρ)=some ρ1->jW (ay own fr ρ) ρ1:=fun ρ d ρ1 e=>by
  unfold eA at e;split at e
  · rename_i x y _;cases e;refine ⟨by rw [List.length_set,List.length_set],fun n c hn=>?_⟩;have at_own:n < own->c=.non:=fun h=>by
      unfold ay at hn;rw [List.getElem?_append_left (by simpa using h),List.getElem?_replicate,if_pos h] at hn;exact (Option.some.inj hn).symm
    by_cases h1:j=n
    · exact .inl (at_own (by omega))
    · by_cases h2:i=n
      · exact .inl (at_own (by omega))
      · exact .inr (by rw [List.getElem?_set,if_neg h1,List.getElem?_set,if_neg h2];exact hn)
  · cases e
open AutoSeq1 (wpAny_loadPart')
noncomputable abbrev jX (h:Heap) (e i:Addr) (k:Int) (f0 old:Value):Prop:=h.get? e=some { cls:=.type "enumerate",dict:=none,data:=.fields #[f0,.bool false,.ref i,rawInt k,.none,old],slots:=#[] }
section
variable {prog:Program} {w:World} {A:Around} {E:Value->Shared->Prop} {s:Shared} {e i l:Addr} {k:Nat} {xs:Array Value}
theorem xu {x old:Value} {Q:Value->Shared->Prop} (he:jX s.heap e i k .none old) (it:kM s.heap i l k xs) (hli:l≠i) (hle:l≠e) (hei:e≠i) (hx:xs[k]?=some x)
    (hQ:∀ h' old',jX h' e i ((k:Int)+1) (rawInt s.heap.objs.size) old'->kM h' i l (k+1) xs->IsPair h' s.heap.objs.size (.int k s.toks) x->(∀ c o,c≠e->c≠i->s.heap.get? c=some o->h'.get? c=some o)->Q (.ref s.heap.objs.size) { s with heap:=h',toks:=s.toks+1 }) :
    wpAny (model prog w) A (Builtin.«enumerate.__next__» ⟨[.ref e],[]⟩) (fun fin s'=>∃ v,fin=.done (.ret v)/\Q v s') E s:=by
  obtain ⟨hp,g,d,tk,os⟩:=s;show wpAny _ _ (field (Value.ref e) 2>>=_) _ _ _;refine wpAny_bind (wpAny_field he rfl (x:=Value.ref i) rfl ?_);refine wpAny_bind (ww it hli hx fun g1 i1 s1=>?_);replace s1:Heap.SameBut i hp g1:=s1;have e1:jX g1 e i k .none old:=(s1.2 e hei).trans he;show wpAny _ _ (field (Value.ref e) 3>>=_) _ _ (Shared.mk g1 g d tk os);refine wpAny_bind (wpAny_field e1 rfl (x:=rawInt (k:Int)) rfl ?_);show wpAny _ _ (field (Value.ref e) 4>>=_) _ _ (Shared.mk g1 g d tk os);refine wpAny_bind (wpAny_field e1 rfl (x:=Value.none) rfl ?_);show wpAny _ _ (mkInt (k:Int)>>=_) _ _ (Shared.mk g1 g d tk os);refine wpAny_bind (wpAny_mkInt ?_);show wpAny _ _ (setField (Value.ref e) 3 (rawInt ((k:Int)+1))>>=_) _ _ (Shared.mk g1 g d (tk+1) os);refine wpAny_bind (wpAny_setField_rec e1 (by simp) fun g2 e2 s2=>?_);replace s2:Heap.SameBut e g1 g2:=s2;replace e2:jX g2 e i ((k:Int)+1) .none old:=e2;show wpAny _ _ (setField (Value.ref e) 4 Value.none>>=_) _ _ (Shared.mk g2 g d (tk+1) os);refine wpAny_bind (wpAny_setField_rec e2 (by simp) fun g3 e3 s3=>?_);replace s3:Heap.SameBut e g2 g3:=s3;replace e3:jX g3 e i ((k:Int)+1) .none old:=e3;show wpAny _ _ (newTuple [Value.int k tk,x]>>=_) _ _ (Shared.mk g3 g d (tk+1) os);refine wpAny_bind (wpAny_newTuple ?_);have hsz:g3.objs.size=hp.objs.size:=by rw [s3.1,s2.1,s1.1]
  have elt:e < g3.objs.size:=Heap.lt_size e3;have e4:jX (g3.push { cls:=.type "tuple",data:=.seq #[.int k tk,x] }) e i ((k:Int)+1) .none old:=Heap.get?_push_of_some _ e3;have t4:IsPair (g3.push { cls:=.type "tuple",data:=.seq #[.int k tk,x] }) g3.objs.size (.int k tk) x:=Heap.get?_push_size _ rfl;have i3:kM g3 i l (k+1) xs:=i1.keep (fun o q=>s3.extBut _ _ hei.symm (s2.extBut _ _ hei.symm q)) fun o q=>s3.extBut _ _ hle (s2.extBut _ _ hle q)
  have k3:∀ c o,c≠e->c≠i->hp.get? c=some o->g3.get? c=some o:=fun c o c1 c2 q=>s3.extBut _ _ c1 (s2.extBut _ _ c1 (s1.extBut _ _ c2 q))
  show wpAny _ _ (Builtin.SmallTypes.ownedTupleIsFree (Value.ref e)>>=_) _ _ (Shared.mk (g3.push { cls:=.type "tuple",data:=.seq #[.int k tk,x] }) g d (tk+1) os);refine wpAny_bind ?_;unfold Builtin.SmallTypes.ownedTupleIsFree;refine wpAny_bind (wpAny_field e4 rfl (x:=Value.none) rfl (wpAny_pure ?_));simp only [if_true];refine wpAny_bind (wpAny_rule ?_);refine wpAny_bind (wpAny_field e4 rfl (x:=old) rfl ?_);refine wpAny_bind (wpAny_setField_rec e4 (by simp) fun g5 e5 s5=>?_);replace s5:Heap.SameBut e (g3.push { cls:=.type "tuple",data:=.seq #[.int k tk,x] }) g5:=s5;replace e5:jX g5 e i ((k:Int)+1) .none x:=e5;show wpAny _ _ (Builtin.SmallTypes.ownedTupleHandOut (Value.ref e) (Value.ref g3.objs.size)>>=_) _ _ (Shared.mk g5 g d (tk+1) os);refine wpAny_bind ?_;unfold Builtin.SmallTypes.ownedTupleHandOut;refine wpAny_bind (wpAny_setField_rec e5 (by simp) fun g6 e6 s6=>?_);replace s6:Heap.SameBut e g5 g6:=s6;replace e6:jX g6 e i ((k:Int)+1) (rawInt g3.objs.size) x:=e6;refine wpAny_setField_rec e6 (by simp) fun g7 e7 s7=>?_
  replace s7:Heap.SameBut e g6 g7:=s7;replace e7:jX g7 e i ((k:Int)+1) (rawInt g3.objs.size) x:=e7;have up:∀ c o,c≠e->g3.get? c=some o->g7.get? c=some o:=fun c o c1 q=>s7.extBut _ _ c1 (s6.extBut _ _ c1 (s5.extBut _ _ c1 (Heap.get?_push_of_some _ q)))
  have t7:IsPair g7 g3.objs.size (.int k tk) x:=s7.extBut _ _ (Nat.ne_of_gt elt) (s6.extBut _ _ (Nat.ne_of_gt elt) (s5.extBut _ _ (Nat.ne_of_gt elt) t4));rw [hsz] at e7 t7;refine wpAny_bind (wpAny_letGo (wpAny_pure ⟨_,rfl,?_⟩));show Q (.ref g3.objs.size) _;rw [hsz];exact hQ g7 x e7 (i3.keep (fun o q=>up _ _ hei.symm q) fun o q=>up _ _ hle q) t7 fun c o c1 c2 q=>up c o c1 (k3 c o c1 c2 q)
theorem xw {x old:Value} {Q:Option Value->Shared->Prop} (he:jX s.heap e i k .none old) (it:kM s.heap i l k xs) (hli:l≠i) (hle:l≠e) (hei:e≠i) (hx:xs[k]?=some x)
    (hQ:∀ h' old',jX h' e i ((k:Int)+1) (rawInt s.heap.objs.size) old'->kM h' i l (k+1) xs->IsPair h' s.heap.objs.size (.int k s.toks) x->(∀ c o,c≠e->c≠i->s.heap.get? c=some o->h'.get? c=some o)->Q (some (.ref s.heap.objs.size)) { s with heap:=h',toks:=s.toks+1 }) :
    wpAny (model prog w) A (pyNext (.ref e)) Q E s:=by
  have hT:s.TypeIs (.ref e) "enumerate" := ⟨_,he,rfl⟩
  unfold pyNext;exact wpAny_bind (wpAny_attempt (wpAny_callSpecial?_slot (name:=Str.ofString "__next__") hT F.slot_enumerate_next (wpAny_call_entry F.slot_enumerate_next hT F.entry_enumerate_next (xu he it hli hle hei hx fun h' o a b c d=>wpAny_pure (hQ h' o a b c d)) (F.args_enumerate_next_1 _))))
theorem zw {old:Value} {Q:Option Value->Shared->Prop} (hh:A.handled=none) (he:jX s.heap e i k .none old) (it:kM s.heap i l k xs) (hx:xs[k]?=none) (hQ:∀ h',(∀ c o,c≠i->s.heap.get? c=some o->h'.get? c=some o)->Q none { s with heap:=h' }) :
    wpAny (model prog w) A (pyNext (.ref e)) Q E s:=by
  have hT:s.TypeIs (.ref e) "enumerate" := ⟨_,he,rfl⟩
  unfold pyNext;refine wpAny_bind (wpAny_attempt (wpAny_callSpecial?_slot (name:=Str.ofString "__next__") hT F.slot_enumerate_next (wpAny_call_entry F.slot_enumerate_next hT F.entry_enumerate_next ?_ (F.args_enumerate_next_1 _))));show wpAny _ _ (field (Value.ref e) 2>>=_) _ _ _;refine wpAny_bind (wpAny_field he rfl (x:=Value.ref i) rfl ?_);refine wpAny_bind (md hh it hx fun h' x k1 zq0=>?_);obtain ⟨o,ho,hc⟩:=zq0;exact wpAny_bind (wpAny_isInstance (T := "StopIteration") (b:=true) ⟨o,ho,hc⟩ isSubtype_stop (wpAny_pure (hQ _ fun c o c1 q=>k1 c o c1 q)))
theorem zx (l:Addr) (xs:Array Value):Meets (Builtin.«enumerate.__new__» ⟨[.type "enumerate",.ref l],[]⟩) (fun _ R s=>uN s.heap l xs /\
    ∀ h',jX h' (s.heap.objs.size+1) s.heap.objs.size 0 .none .none->kM h' s.heap.objs.size l 0 xs->(∀ c o,s.heap.get? c=some o->h'.get? c=some o)->R (.ok (.ret (.ref (s.heap.objs.size+1)))) { s with heap:=h' }) :=
  .of_wp fun prog w A R s h=>by
    obtain ⟨hp,g,d,tk,os⟩:=s;obtain ⟨h1,h⟩:=h;have hsub:=sub_enumerate;have fin:∀ oi:Obj,kM (hp.push oi) hp.objs.size l 0 xs->R (.ok (.ret (.ref (hp.push oi).objs.size))) ⟨(hp.push oi).push { cls:=.type "enumerate",data:=.fields #[.none,.bool false,.ref hp.objs.size,rawInt 0,.none,.none] },g,d,tk,os⟩:=fun oi hi=>by
      have e1:(hp.push oi).objs.size=hp.objs.size+1:=Heap.size_push ..;rw [e1];refine h _ ?_ (hi.keep (fun o q=>Heap.get?_push_of_some _ q) fun o q=>Heap.get?_push_of_some _ q) fun c o q=>Heap.get?_push_of_some _ (Heap.get?_push_of_some _ q)
      show Heap.get? _ (hp.objs.size+1)=_;rw [<- e1];exact Heap.get?_push_size _ rfl
    rcases h1 with h1 | h1
    · have l1:Heap.IsList (Shared.heap ⟨hp,g,d,tk,os⟩) l xs:=h1;obtain ⟨o,ho,_,_,_⟩:=id h1;have ho':(Shared.heap ⟨hp,g,d,tk,os⟩).get? l=some o:=ho
      wp_walk using wpAny_loadPart' ho'
      refine wpAny_stack_any fun st=>wpAny_pure ?_
      split
      · rename_i c _ _ _ _ _;cases (c==Value.type "enumerate")
        · wp_walk using wpAny_loadPart' ho',wpAny_pyIter_list l1
          exact ⟨_,rfl,fin _ (.inl ⟨⟨_,Heap.get?_push_size _ rfl,rfl,rfl⟩,Heap.IsList.push h1 _⟩)⟩
        · wp_walk using wpAny_loadPart' ho',wpAny_pyIter_list l1
          exact ⟨_,rfl,fin _ (.inl ⟨⟨_,Heap.get?_push_size _ rfl,rfl,rfl⟩,Heap.IsList.push h1 _⟩)⟩
      · wp_walk using wpAny_loadPart' ho',wpAny_pyIter_list l1
        exact ⟨_,rfl,fin _ (.inl ⟨⟨_,Heap.get?_push_size _ rfl,rfl,rfl⟩,Heap.IsList.push h1 _⟩)⟩
    · have l1:Heap.IsTuple (Shared.heap ⟨hp,g,d,tk,os⟩) l xs:=h1;obtain ⟨o,ho,_,_,_⟩:=id h1;have ho':(Shared.heap ⟨hp,g,d,tk,os⟩).get? l=some o:=ho
      wp_walk using wpAny_loadPart' ho'
      refine wpAny_stack_any fun st=>wpAny_pure ?_
      split
      · rename_i c _ _ _ _ _;cases (c==Value.type "enumerate")
        · wp_walk using wpAny_loadPart' ho',wpAny_pyIter_tuple l1
          exact ⟨_,rfl,fin _ (.inr ⟨⟨_,Heap.get?_push_size _ rfl,rfl,rfl⟩,Heap.IsTuple.push h1 _⟩)⟩
        · wp_walk using wpAny_loadPart' ho',wpAny_pyIter_tuple l1
          exact ⟨_,rfl,fin _ (.inr ⟨⟨_,Heap.get?_push_size _ rfl,rfl,rfl⟩,Heap.IsTuple.push h1 _⟩)⟩
      · wp_walk using wpAny_loadPart' ho',wpAny_pyIter_tuple l1
        exact ⟨_,rfl,fin _ (.inr ⟨⟨_,Heap.get?_push_size _ rfl,rfl,rfl⟩,Heap.IsTuple.push h1 _⟩)⟩
theorem xj {Q:Value->Shared->Prop} {l:Addr} (h1:uN s.heap l xs)
    (h:∀ h',jX h' (s.heap.objs.size+1) s.heap.objs.size 0 .none .none->kM h' s.heap.objs.size l 0 xs->(∀ c o,s.heap.get? c=some o->h'.get? c=some o)->Q (.ref (s.heap.objs.size+1)) { s with heap:=h' }) :
    wpAny (model prog w) A (call (.type "enumerate") [.ref l]) Q E s:=by
  refine callType_new F.called_enumerate (by decide) (F.typeCall_enumerate_1 _) (F.newCall_enumerate_1 _) (fun obj=>F.args_object_init_2 obj _) F.entry_enumerate_new (zx l xs) ⟨h1,fun h' e S k=>?_⟩;exact ⟨⟨_,e,rfl⟩,h h' e S k⟩
end
end D2
namespace D2
open PySem PySem.Spec PyProof.Rows L2
noncomputable def HL (K:PySem.W.Frag) (l:Addr) (b:Bool):It :=
  ⟨fun i H=>∃ xs x,sQ K H l xs b/\xs[i]?=some x,fun i H v H'=>∃ a x,H a=none/\v=.ref a/\H'=cI H a (.tup [.int i,x])/\∀ xs,sQ K H l xs b->xs[i]?=some x,fun i H=>∃ xs,sQ K H l xs b/\xs.length<=i⟩
structure Jk (e i l:Addr) (b:Bool) (k:Nat) (h:Heap):Prop where
  ee:∃ old,jX h e i k .none old
  ii:fY h i l k b
theorem yt {P:Program} {w:World} {K:PySem.W.Frag} {elts:List Expr} {x1} {pos:Pos} {e i l:Addr} {b:Bool} (hei:e≠i) (hle:l≠e) (hli:l≠i):uO P w K (.Tuple elts x1 pos) (HL K l b) [e,i] e (Jk e i l b) where
  mem:=by simp
  obj:=fun k h st a ha=>by
    simp only [List.mem_cons,List.not_mem_nil,or_false] at ha;rcases ha with rfl | rfl
    · obtain ⟨_,q⟩:=st.ee;exact ⟨_,q,fun v e=>by cases e⟩
    · exact st.ii.there
  keep:=fun k h h' st kp=>⟨let ⟨o,q⟩:=st.ee;⟨o,kp e (by simp) _ q⟩,st.ii.keep fun o q=>kp i (by simp) o q⟩
  item:=by
    intro X hP hw hK hc k pins s σ H E I hf st hg;subst hP hw hK;obtain ⟨xs,x,h1,hx⟩:=hg;obtain ⟨its,rv,_,p1⟩:=iG I h1;obtain ⟨u,hu,ru⟩:=rv.get hx;obtain ⟨old,he⟩:=st.ee;refine xw he (p1 _ _ st.ii) hli hle hei (x:=u) (by simpa using hu) fun h' old' e' i' hp kp=>⟨_,rfl,?_⟩
    have elt:e < s.heap.objs.size:=Heap.lt_size he;have hob:∀ a∈[e,i],a < s.heap.objs.size:=fun a ha=>by
      simp only [List.mem_cons,List.not_mem_nil,or_false] at ha;rcases ha with rfl | rfl
      · exact elt
      · obtain ⟨o,q,_⟩:=st.ii.there;exact Heap.lt_size q
    have hn:H s.heap.objs.size=none:=I.hok.fresh (Nat.le_refl _);refine wpAny_letOwnedTupleGo_enum (s:={ s with heap:=h',toks:=s.toks+1 }) e' fun h2' e2 sb=>?_
    have up:∀ a o,a≠e->h'.get? a=some o->h2'.get? a=some o:=fun a o ha q=>sb.extBut a o ha q
    refine ⟨.ref s.heap.objs.size,_,wk (s:=s) (t':=s.toks+1) (fp:=[e,i]) (h':=h2') (u1:=.int k s.toks) (u2:=u) (v1:=.int k) (v2:=x) I hf hob (up _ _ (Nat.ne_of_gt elt) hp) (fun a o ha q=>?_) ⟨_,rfl⟩ ru,rfl,⟨_,x,hn,rfl,rfl,fun zs hz=>by rw [kB I h1 hz];exact hx⟩,?_,fun a ha=>?_⟩
    · simp only [List.mem_cons,List.not_mem_nil,or_false,not_or] at ha;exact up a o ha.1 (kp a o ha.1 ha.2 q)
    · have i2:fY h' i l (k+1) b:=by
        refine i'.toB fun ys=>?_
        cases hb:b
        · subst hb;refine ⟨fun z=>(by cases z),fun _ w=>?_⟩;obtain ⟨_,_,pl,_⟩:=I.list h1;obtain ⟨o,q,r⟩:=pl.isList;exact dP (h:=h') (xs:=_) ⟨o,kp _ _ hle hli q,r⟩ w
        · subst hb;refine ⟨fun _ w=>?_,fun z=>by cases z⟩;obtain ⟨_,_,pl,_⟩:=I.tuple h1;obtain ⟨o,q,r⟩:=pl;exact dP (h:=h') w ⟨o,kp _ _ hle hli q,r⟩
      exact ⟨⟨_,by have q:jX h2' e i ((k:Int)+1) .none old':=e2;simpa using q⟩,i2.keep fun o q=>up _ _ hei.symm q⟩
    · rw [aA (Nat.ne_of_lt (hob a ha))];exact (hf a ha).1
  done:=by
    intro X hP hw hK hc k pins s σ H E I hf st hg;subst hP hw hK;obtain ⟨xs,h1,hl⟩:=hg;obtain ⟨its,rv,_,p1⟩:=iG I h1;obtain ⟨old,he⟩:=st.ee;have e1:=rv.length;refine zw (I.ok.hd hc) he (p1 _ _ st.ii) (by simp;omega) fun h' kp=>⟨rfl,jt (t':=s.toks) (fp:=[e,i]) I (fun a o ha q=>?_) hf⟩
    simp only [List.mem_cons,List.not_mem_nil,or_false,not_or] at ha;exact kp a o ha.2 q
  self:=fun _ _ _ _ _ st h=>let ⟨_,q⟩:=st.ee;wpAny_pyIter_enum q h
noncomputable def df:Nat->List PyData->List PyData
  | _,[]=>[]
  | k,d::ds=>.tuple [.int k,d]::df (k+1) ds
theorem fA:∀ (k:Nat) (ds:List PyData),(df k ds).length=ds.length
  | _,[]=>rfl
  | k,d::ds=>by unfold df;rw [List.length_cons,List.length_cons,fA]
theorem qk:∀ {k:Nat} {ds:List PyData} {i:Nat} {d:PyData},(df k ds)[i]?=some d->∃ x,ds[i]?=some x/\d=.tuple [.int ((k+i:Nat):Int),x]
  | k,[],i,d,h=>by unfold df at h;simp at h
  | k,x::ds,0,d,h=>by
    unfold df at h;simp at h;exact ⟨x,rfl,by rw [<- h];simp⟩
  | k,x::ds,i+1,d,h=>by
    unfold df at h;rw [List.getElem?_cons_succ] at h;obtain ⟨y,h1,h2⟩:=qk h;refine ⟨y,by simpa using h1,?_⟩;rw [h2];have:k+1+i=k+(i+1):=by omega
    rw [this]
theorem zL {K:PySem.W.Frag} {l:Addr} {b:Bool} {xs:List PyData}:Bd (HL K l b) (fun H=>Bg H l xs b) (df 0 xs) where
  go:=fun i H h1 hi=>by
    rw [fA] at hi;obtain ⟨vs,s1,r1⟩:=h1.sq (K:=K);obtain ⟨x,hx,_⟩:=r1.get (List.getElem?_eq_getElem hi);exact ⟨vs,x,s1,hx⟩
  yld:=fun i H v H' d h1 hd h=>by
    obtain ⟨a,x,ha,rfl,rfl,k1⟩:=h;obtain ⟨vs,s1,r1⟩:=h1.sq (K:=K);obtain ⟨dx,e1,rfl⟩:=qk hd;obtain ⟨x',hx,px⟩:=r1.get e1;have q1:=k1 vs s1;rw [hx] at q1;cases q1;refine ⟨cB ha _,eI ha (bK.cons ?_ (bK.cons px bK.nil))⟩;rw [Nat.zero_add];exact de
  stop:=fun i H h1 hi=>by
    rw [fA] at hi;obtain ⟨vs,s1,r1⟩:=h1.sq (K:=K);have l1:=r1.length;exact ⟨vs,s1,by omega⟩
section
variable {X:Cx} {elts:List Expr} {x1:Nat} {tp:Pos} {a b:Expr} {fa fb:Fe} {pos p:Pos} {nl:Nat} {G:List Str} {fs:aT->R (List PyData)}
noncomputable def Ju (K:PySem.W.Frag) (ta:TA):TI:=fun σ H R=>ta σ H fun vs H1=>∃ l xs b,vs=[.ref l]/\sQ K H1 l xs b/\R (HL K l b) H1
theorem Ci {ta:TA} (hg:Gl X "enumerate") (hm:X.mg "enumerate" = none) (ha:PA X [a] ta) (hs:starEach [a] X.env=[(false,eval a X.env)]):PI X (.Tuple elts x1 tp) (.Call (.Name "enumerate" p) [a] [] pos) (Ju X.K ta):=by
  intro pins s σ H R I h;refine Call_ (gX I hg hm boot_enumerate (PyProof.Rows.callWith_type1 (dq (ha pos pins s σ H _ I h) fun us s1 zq0=>?_) hs rfl));obtain ⟨vs,H1,I1,r1,q1⟩:=zq0;obtain ⟨l,xs,b,e,h1,q⟩:=q1;subst e;obtain ⟨u,rfl,ru⟩:=fq r1;cases ru;obtain ⟨its,w1,p1,g1⟩:=iG I1 h1;have ll:l < s1.heap.objs.size:=by rcases p1 with ⟨o,e,_⟩ | ⟨o,e,_⟩ <;> exact Heap.lt_size e
  refine xj p1 fun h' hz S kp=>wpAny_pyIter_enum hz ?_
  have I2:aU X pins σ H1 { s1 with heap:=h' }:=I1.kept (t':=s1.toks) kp;have i2:fY h' s1.heap.objs.size l 0 b:=S.toB (oO I1 h1 kp);refine ⟨_,[s1.heap.objs.size+1,s1.heap.objs.size],_,_,H1,rfl,I2,yt (b:=b) (Nat.ne_of_gt (Nat.lt_succ_self _)) (Nat.ne_of_lt (Nat.lt_succ_of_lt ll)) (Nat.ne_of_lt ll),⟨⟨_,hz⟩,i2⟩,fun a ha=>?_,q⟩;have hle:s1.heap.objs.size<=a:=by
    simp only [List.mem_cons,List.not_mem_nil,or_false] at ha;rcases ha with rfl | rfl
    · exact Nat.le_add_right _ 1
    · exact Nat.le_refl _
  exact I1.fpOk hle (I1.hok.fresh hle)
noncomputable def lc (fa:Fe):aT->R (List PyData):=fun ρ=>fa ρ>>=fun x=>iT x>>=fun xs=>.ok (df 0 xs)
theorem hU (T:Tb X nl G) (j:Nat) (hG:G[j]?=some ("enumerate" : Str)) (hm:X.mg "enumerate" = none) (ha:Z.cL X a fa) (h1:bc a=true:=by rfl):Z.qY X (.Tuple elts x1 tp) (.Call (.Name "enumerate" p) [a] [] pos) (lc fa):=⟨have ha:=ha.un;by
  have g:=T.gl _ (List.mem_of_getElem? hG);refine PI.imp (Ci g.1 hm (gf ha jo h1) (by rw [bA h1];rfl)) fun σ H Rk h=>?_
  obtain ⟨ρ,sl,q⟩:=h;unfold lc at q;refine ⟨ρ,sl,?_⟩;unfold ah aG;cases e1:fa ρ with
  | ex c=>rw [e1] at q;exact q
  | no=>rw [e1] at q;exact q
  | ok x =>
    rw [e1] at q;simp only [R.ok_bind] at q ⊢;cases e3:iT x with
    | ex c=>exact absurd e3 (by cases x <;> simp [iT])
    | no=>rw [e3] at q;exact q.elim
    | ok xs =>
      rw [e3] at q;simp only [R.ok_bind] at q;intro vs H1 s1 ra;simp only [RA] at ra;obtain ⟨v,r',rfl,p1,rfl⟩:=ra;obtain ⟨l,b1,rfl,d1⟩:=vw p1 e3;obtain ⟨us,u1,_⟩:=d1.sq (K:=X.K);exact ⟨l,us,b1,rfl,u1,q _ H1 s1 ⟨_,zL,fun H2 k _=>d1.kp k⟩⟩⟩
end
noncomputable def A2:List PyData->List PyData->List PyData->List PyData
  | x::xs,y::ys,z::zs=>.tuple [x,y,z]::A2 xs ys zs
  | _,_,_=>[]
section
variable {X:Cx} {elts:List Expr} {x1:Nat} {tp:Pos} {a b c:Expr} {fa fb fc:Fe} {pos p:Pos} {nl:Nat} {G:List Str} {fs:aT->R (List PyData)}
noncomputable def vG:PyData->R (List PyData)
  | .tuple ds=>.ok ds
  | _=>.no
noncomputable def F3 (fa fb fc:Fe):aT->R (List PyData):=fun ρ=>fa ρ>>=fun x=>fb ρ>>=fun y=>fc ρ>>=fun z=>vG x>>=fun xs=>vG y>>=fun ys=>vG z>>=fun zs=>.ok (A2 xs ys zs)
end
section
variable {X:Cx} {nl:Nat} {G:List Str} {x:Str} {e:Expr} {f:Fe} {q1 q2 q3 q4:Pos}
theorem sT (T:Tb X nl G) (n:Nat) (hN:X.N[n]?=some x) (he:Z.cL X e f) (hst:bc e=true:=by rfl) (hline:(q2.endLine==q3.line)=true:=by rfl) (hs:swapsWith (.Call (.Attribute (.Name x q1) "append" q2) [e] [] q3) none q4.line X.env=pure false:=by rfl) (hbase:attributeBase (.Name x q1) "append" X.env (eval (.Name x q1) X.env)=eval (.Name x q1) X.env:=by rfl):Z.kN X (.Expr (.Call (.Attribute (.Name x q1) "append" q2) [e] [] q3) q4) (jR n f):=⟨have he:=he.un;fun Fm=>by
  have hm:=T.vis x (List.mem_of_getElem? hN);have sc:starEach [e] X.env=(false,eval e X.env)::starEach [] X.env:=bA hst;refine PS.imp (Ck (wD PySem.F.plainAttrs_list PySem.F.slot_list_append PySem.F.type_list_append qA (mh hN hm.1 hm.2.1 hm.2.2) (gf he jo hst) hbase (by rw [sc];rfl) hline sc rfl) hs) fun D σ H h=>?_
  obtain ⟨ρ,sl,q⟩:=h;unfold jR at q;cases ef:f ρ with
  | ex c=>rw [ef] at q;exact q.elim
  | no=>rw [ef] at q;exact q.elim
  | ok d =>
    rw [ef] at q;simp only [lL,R.ok_bind] at q;cases er:ρ[n]? with
    | none=>rw [er] at q;exact q.elim
    | some c =>
      rw [er] at q;cases c with
      | non=>exact q.elim
      | exc p=>exact q.elim
      | val d'=>exact q.elim
      | own d' =>
        cases d' with
        | list ds =>
          dsimp only at q;by_cases hz:ds.length < sizeLine
          · rw [if_pos hz] at q;obtain ⟨o,h2,w',rfl,p2⟩:=sl.sl.at er;simp only [iZ] at p2;obtain ⟨a',vs,rfl,ha,r⟩:=p2;refine ⟨.ref a',h2,.inl ⟨rfl,_,mB.of ha⟩,ρ,sl.sl,?_⟩;unfold ah aG;rw [ef];intro us H1 s1 ra;simp only [RA] at ra;obtain ⟨v,r',rfl,p1,rfl⟩:=ra;have ha1:=s1 _ _ ha;refine ⟨a',vs,v,rfl,rfl,ha1,by rw [r.length];exact hz,q _ _ ((sl.mono s1).change er h2 ha1 (.inl ⟨_,rfl⟩) ?_)⟩;simp only [iZ];exact ⟨a',_,rfl,bq,bK.kp (gy ha1 (.inl ⟨_,rfl⟩)) _ _ (bK.append (r.mono s1) (bK.cons p1 bK.nil))⟩
          · rw [if_neg hz] at q;exact q.elim
        | _=>exact q.elim⟩
end
noncomputable def jZ (g:Fs):Fs:=fun ρ=>lL (g ρ)
theorem Tb.nox {X:Cx} {nl:Nat} {G:List Str} (T:Tb X nl G):Tb X.nox nl G:=⟨T.hu,T.calm,T.nd,T.vis,T.loc,T.gl⟩
section
variable {X:Cx} {nl:Nat} {G:List Str} {st:Stmt} {g:Fs} {pos:Pos}
theorem dj (h:Z.kN X.nox st g):Z.kN X st (jZ g):=⟨have h:=h.un;fun Fm=>by
  intro pins s σ H D I ⟨ρ,sl,q⟩;refine wpAny_mono (h Fm pins s σ H D (I.wish _) ⟨ρ,sl,?_⟩) (fun _ _ q=>q.unwish) fun _ _ z=>False.elim z
  unfold jZ at q;cases e:g ρ with
  | ok o =>
    rw [e] at q;cases o <;> exact q
  | ex c=>rw [e] at q;exact q.elim
  | no=>rw [e] at q;exact q.elim⟩
noncomputable def dn (t:aT->R Bool) (g:Fs):Nat->Fs
  | 0,_=>.no
  | n+1,ρ=>t ρ>>=fun b=>if b=true then g ρ>>=fun o=>(match o with
      | .nx ρ2=>dn t g n ρ2
      | .ct ρ2=>dn t g n ρ2
      | .bk ρ2=>.ok (.nx ρ2)
      | .rt r=>.ok (.rt r)) else .ok (.nx ρ)
noncomputable def sk (n:Nat) (t:aT->R Bool) (g:Fs):Fs:=dn t g n
theorem ki {c:Expr} {body:List Stmt} {t:aT->R Bool} (n:Nat) (hp:PassesOwn (model X.prog X.w) X.A X.env X.xe) (ht:Z.nc X c t) (hb:Z.lS X body g):Z.kN X (.While c body [] pos) (sk n t g):=⟨have ht:=ht.un;have hb:=hb.un;fun Fm=>by
  refine PS.imp (As hp ht (hb Fm)) fun D σ H ⟨ρ,sl,q⟩=>⟨fun m σ' H'=>∃ ρ',iy Fm H' σ' ρ'/\Cs X Fm (dn t g m ρ') D,⟨n,ρ,sl,q⟩,fun m σ1 H1 zq0=>?_⟩
  obtain ⟨ρ1,sl1,q1⟩:=zq0;cases m with
  | zero=>exact q1.elim
  | succ k =>
    have q2:Dq X Fm (fun ρ=>t ρ>>=fun b=>if b=true then g ρ>>=fun o=>(match o with
      | .nx ρ2=>dn t g k ρ2
      | .ct ρ2=>dn t g k ρ2
      | .bk ρ2=>.ok (.nx ρ2)
      | .rt r=>.ok (.rt r)) else .ok (.nx ρ)) D σ1 H1:=⟨ρ1,sl1,q1⟩
    refine (vW (f:=t) (k:=fun ρ b=>if b=true then g ρ>>=fun o=>(match o with
      | .nx ρ2=>dn t g k ρ2
      | .ct ρ2=>dn t g k ρ2
      | .bk ρ2=>.ok (.nx ρ2)
      | .rt r=>.ok (.rt r)) else .ok (.nx ρ)) q2).post fun b H2 ⟨ρ2,sl2,_,q3⟩=>?_
    cases b with
    | false=>exact q3 σ1 H2 sl2
    | true =>
      have q4:Cs X Fm (g ρ2>>=fun o=>(match o with
      | .nx ρ2=>dn t g k ρ2
      | .ct ρ2=>dn t g k ρ2
      | .bk ρ2=>.ok (.nx ρ2)
      | .rt r=>.ok (.rt r))) D:=q3
      show if true=true then _ else _
      rw [if_pos rfl];refine ⟨fun σ' H'=>∃ ρ',iy Fm H' σ' ρ'/\Cs X Fm (dn t g k ρ') D,fun σ' H' z=>⟨k,Nat.lt_succ_self k,z⟩,ρ2,sl2,?_⟩;cases eg:g ρ2 with
      | ex c=>rw [eg] at q4;exact q4
      | no=>rw [eg] at q4;exact q4
      | ok o =>
        rw [eg] at q4;cases o with
        | nx ρ4=>exact fun σ' H' s'=>⟨ρ4,s',q4⟩
        | ct ρ4=>exact fun σ' H' s'=>⟨ρ4,s',q4⟩
        | bk ρ4=>exact q4
        | rt r=>exact q4⟩
end
abbrev DS:List Value:=[.type "ValueError",.type "Exception",.type "BaseException",.type "object"]
abbrev De:String := "ValueError.__new__"
section
variable {K:PySem.W.Frag} {h:Heap} {C:Addr}
inductive vN (h:Heap) (C:Addr) (bm:List Value):Prop
  | mk (N nm q bs hdct sn sub ab col dd k0 k1 k2 k3 k5 mN) (e:h.get? C=some (excClassObj nm q C N bs bm hdct sn sub ab col dd k0 k1 k2 k3 k5 De)) (n:h.Ns N mN) (i:mN "__init__" = none) (t:OwnTail h DS bm)
theorem vN.keep {h':Heap} {bm:List Value} (c:vN h C bm) (k:∀ b o,h.get? b=some o->h'.get? b=some o):vN h' C bm :=
  let ⟨N,nm,q,bs,hdct,sn,sub,ab,col,dd,k0,k1,k2,k3,k5,mN,hC,hN,hni,T⟩:=c
  ⟨N,nm,q,bs,hdct,sn,sub,ab,col,dd,k0,k1,k2,k3,k5,mN,k _ _ hC,hN.keeps k,hni,T.keeps k⟩
noncomputable def uX (K:PySem.W.Frag) (C:Addr):List Value:=match K.lookup C with
  | some ⟨_,_,.cls cd,_⟩=>cd.mro.drop 1
  | _=>[]
theorem zh (X:K.In h) (q:PySem.W.excIn K C DS De=true):vN h C (uX K C):=by
  unfold PySem.W.excIn at q;unfold uX;cases hk:K.lookup C with
  | none=>rw [hk] at q;cases q
  | some ob =>
    rw [hk] at q;split at q
    · rename_i dd cd sl ho;cases ho;split at q
      · rename_i C' bm k0 k1 k2 k3 n k5 hm hs;simp only [Bool.not_eq_true',beq_iff_eq,Bool.and_eq_true] at q;obtain ⟨⟨⟨⟨⟨e1,e2⟩,hdel⟩,ht⟩,hok⟩,hni⟩:=q;subst e1;subst e2;obtain ⟨nm,bs,mro,ns,qn,hd,sn,sub,ab,col,del⟩:=cd;dsimp only at hm hdel hok hni ⊢;subst hm;subst hdel;have hsl:sl=#[k0,k1,k2,k3,some (.builtin De),k5]:=by
          obtain ⟨l⟩:=sl;simp only at hs;rw [hs]
        subst hsl;exact ⟨ns,nm,qn,bs,hd,sn,sub,ab,col,dd,k0,k1,k2,k3,k5,_,X _ _ hk,.of_isNs (PySem.W.isNs_of_in X hok),PySem.W.nsMap_none_of_in X hok hni,PySem.W.tail_of_in X ht⟩
      · cases q
    · cases q
end
noncomputable def pd (x:Str) (f:Fe):Fs:=fun ρ=>lL (f ρ)>>=fun _=>.ex x
section
variable {X:Cx} {nl:Nat} {G:List Str} {x:Str} {e:Expr} {f:Fe} {np cp pos:Pos} {C:Addr}
theorem kh (T:Tb X nl G) (j:Nat) (hG:G[j]?=some x) (hm:X.mg x=some (.ref C)) (hq:PySem.W.excIn X.K C DS De=true) (he:Z.cL X.nox e f) (hst:bc e=true:=by rfl):Z.kN X (.Raise (some (.Call (.Name x np) [e] [] cp)) none pos) (pd x f):=⟨have he:=he.un;fun Fm=>by
  intro pins s σ H D I ⟨ρ,sl,q⟩;have hg:=T.gl x (List.mem_of_getElem? hG);have sc:starEach [e] X.env=(false,eval e X.env)::starEach [] X.env:=bA hst;obtain ⟨N,nm,qn,bs,hdct,sn,sub,ab,col,dd,k0,k1,k2,k3,k5,mN,hC,hN,hni,TL⟩:=zh (I.ok.mod.kin) hq;unfold pd at q;cases ef:f ρ with
  | ex c=>rw [ef] at q;exact q.elim
  | no=>rw [ef] at q;exact q.elim
  | ok d =>
    rw [ef] at q;simp only [lL,R.ok_bind] at q;refine wpAny_Raise_call_subT (C:=C) (nm:=nm) (q:=qn) (N:=N) (bs:=bs) (bm:=uX X.K C) (hdct:=hdct) (sn:=sn) (sub:=sub) (ab:=ab) (col:=col) (dd:=dd) (k0:=k0) (k1:=k1) (k2:=k2) (k3:=k3) (k5:=k5) PySem.F.excBase_ValueError (mN:=mN) (TL.hasType rfl) (I.ok.hd T.calm) (by rw [sc];rfl) hni (nG I hg.1 hm ⟨rfl,?_⟩ hg.2.1);rw [sc];refine Calls.evalArgs_plain (wpAny_mono ?_ (fun vs s2 z=>⟨rfl,z⟩) fun _ _ y=>y);have ha:PA X.nox [e] (Az X.nox Rp (ah f aG)):=gf he jo hst;have hw:=ha cp pins s σ H (fun vs H'=>vs.length=1/\aM H H') (I.wish _) ⟨ρ,sl.sl,by
      unfold ah aG;rw [ef];intro vs H' s' ra;simp only [RA] at ra;obtain ⟨v,r,rfl,_,rfl⟩:=ra;exact ⟨rfl,s'⟩⟩
    rw [show (X.nox.env)=X.env from rfl,sc] at hw;refine wpAny_mono hw (fun us s2 zq0=>?_) fun _ _ z=>False.elim z
    obtain ⟨vs,H2,I2,r2,hl,s12⟩:=zq0;have I2:=I2.unwish;have hlen:us.length=1:=by rw [<- r2.length];exact hl
    exact ⟨by rw [hlen];decide,I2.bk _ _ hC,hN.keeps I2.bk,TL.keeps I2.bk,fun h' p mk=>q.2 C hm pins σ H2 s2 (sl.fm.trans s12) I2 h' p us mk⟩⟩
end
noncomputable def Xh (X:Cx) (p:Addr) (ob:Obj):Cx:={ X with A:=X.A.mark (some (.ref p)),calm:=false,xe:=fun _ _=>False,pn:=(p,ob)::X.pn }
structure Jp (X:Cx) (nl:Nat) (G:List Str):Prop where
  hu:X.A.units+64 < cLine
  nd:X.N.Nodup
  vis:∀ x∈X.N,DL X.env.scope x/\(x==("__debug__" : Str))=false/\(x==("__classdict__" : Str))=false
  loc:∀ x∈X.N.take nl,CT X.env.scope x/\(X.fn x=true\/X.env.scope.names.lookup x=some .local)
  gl:∀ x∈G,Gl X x/\(x==("__debug__" : Str))=false/\x≠("__name__" : Str)
theorem Tb.h {X:Cx} {nl:Nat} {G:List Str} (T:Tb X nl G) (p:Addr) (ob:Obj):Jp (Xh X p ob) nl G:=⟨T.hu,T.nd,T.vis,T.loc,T.gl⟩
noncomputable def IW (X:Cx) (C:Addr) (hs:List ExceptHandler) (F:Addr->aT->R PyData):Prop :=
  ∀ (pins:List (Addr×Obj)) (σ:St) (Hc H:Hp) (sc s:Shared) (p:Addr) (Fm:Hp) (ρ:aT) (D:sJ),aU X pins σ Hc sc->DF X.prog X.w X.stack Hc sc C H (.ref p) s->iy Fm H σ ρ ->
    (match F p ρ with
      | .ok d=>∀ v H',aM Fm H'->Rp H' d v->D.rt v H'
      | _=>False)->wpAny (model X.prog X.w) X.A (handleBy (.ref p) X.env hs) (SP X pins D) X.xe s
noncomputable abbrev Hs:=List (Str×(Addr->aT->R PyData))
inductive wY (X:Cx) (src:List ExceptHandler):Hs->Prop
  | nil:wY X src []
  | cons {c:Str} {C:Addr} {h:Addr->aT->R PyData} {hs:Hs} (hm:X.mg c=some (.ref C)) (he:IW X C src h) (r:wY X src hs):wY X src ((c,h)::hs)
theorem wY.at {X:Cx} {src:List ExceptHandler} {c:Str} {h:Addr->aT->R PyData}:∀ {hs:Hs},wY X src hs->hs.lookup c=some h->∃ C,X.mg c=some (.ref C)/\IW X C src h
  | _,.nil,e=>by cases e
  | _,.cons (c:=c') hm he r,e=>by
    rw [List.lookup_cons] at e;split at e
    · rename_i q;have:c=c':=by simpa using q
      subst this;cases e;exact ⟨_,hm,he⟩
    · exact wY.at r e
section
variable {X:Cx} {a b c:Expr} {fa fb fc:Fe} {pos p2:Pos} {nl:Nat} {G:List Str} {x:Str} {p:Pos}
theorem wU:∀ {xs:List V} {vs:List Value},vs.length=xs.length->(∀ (j:Nat) (v:Value),vs[j]?=some v->∃ x,xs[j]?=some x/\ca x v)->bH xs vs
  | [],[],_,_=>.nil
  | [],_::_,e,_=>by cases e
  | _::_,[],e,_=>by cases e
  | x::xs,v::vs,e,h=>by
    obtain ⟨y,e1,r⟩:=h 0 v rfl;cases e1;exact .cons r (wU (by simpa using e) fun j u hu=>by
      obtain ⟨z,e2,r2⟩:=h (j+1) u (by simpa using hu);exact ⟨z,by simpa using e2,r2⟩)
end
noncomputable def om (p:Int->Int->Bool) (n:Int) (ns:List Int):Int:=ns.foldl (fun a b=>if p b a=true then b else a) n
theorem km {p:Int->Int->Bool} {le:Int->Int->Prop} (h1:∀ a b,p b a=true->le b a) (h2:∀ a b,¬ p b a=true->le a b) (tr:∀ a b c,le a b->le b c->le a c) (rf:∀ a,le a a):∀ (ns:List Int) (n:Int),om p n ns∈n::ns/\∀ a∈n::ns,le (om p n ns) a
  | [],n=>⟨by simp [om],fun a ha=>by simp at ha;subst ha;exact rf _⟩
  | m::ns,n=>by
    obtain ⟨g1,g2⟩:=km h1 h2 tr rf ns (if p m n=true then m else n);have e:om p n (m::ns)=om p (if p m n=true then m else n) ns:=rfl;rw [e];refine ⟨?_,fun a ha=>?_⟩
    · rcases List.mem_cons.mp g1 with z | z
      · rw [z];split <;> simp
      · exact List.mem_cons_of_mem _ (List.mem_cons_of_mem _ z)
    · have k:=g2 _ List.mem_cons_self;rcases List.mem_cons.mp ha with rfl | ha
      · refine tr _ _ _ k ?_;split
        · rename_i z;exact h1 _ _ z
        · exact rf _
      · rcases List.mem_cons.mp ha with rfl | ha
        · refine tr _ _ _ k ?_;split
          · exact rf _
          · rename_i z;exact h2 _ _ z
        · exact g2 a (List.mem_cons_of_mem _ ha)
noncomputable def Aa (n:Int) (ns:List Int):Int:=om (fun b a=>decide (b < a)) n ns
noncomputable def vh (n:Int) (ns:List Int):Int:=om (fun b a=>decide (a < b)) n ns
theorem xX (n:Int) (ns:List Int):Aa n ns∈n::ns/\∀ a∈n::ns,Aa n ns<=a :=
  km (le:=(·<=·)) (fun a b h=>by simp at h;omega) (fun a b h=>by simp at h;omega) (fun a b c=>Int.le_trans) Int.le_refl ns n
theorem qy (n:Int) (ns:List Int):vh n ns∈n::ns/\∀ a∈n::ns,a<=vh n ns :=
  km (le:=fun a b=>b<=a) (fun a b h=>by simp at h;omega) (fun a b h=>by simp at h;omega) (fun a b c h1 h2=>Int.le_trans h2 h1) Int.le_refl ns n
section
variable {X:Cx} {a b c:Expr} {fa fb fc:Fe} {pos p2:Pos} {nl:Nat} {G:List Str} {x:Str} {p:Pos}
theorem kA:∀ {its:List Value} {ns:List Int},IntsAre its ns->∃ ys:List (Int×Tok),its=ys.map (fun p=>Value.int p.1 p.2)/\ys.map (·.1)=ns
  | _,_,.nil=>⟨[],rfl,rfl⟩
  | _,_,.cons n t h=>by
    obtain ⟨ys,e1,e2⟩:=kA h;exact ⟨(n,t)::ys,by rw [List.map_cons,e1],by rw [List.map_cons,e2]⟩
theorem Fh (hc:X.calm=true):dN X (.builtin "min") (fun xs H Q=>∃ p n ns,xs=[.ref p]/\mB X.K H p ((n::ns).map V.int)/\Q (.int (Aa n ns)) H):=by
  intro pins s σ H xs us Q I r h;obtain ⟨p,n,ns,rfl,hq,q⟩:=h;obtain ⟨u,rfl,rx⟩:=fq r;cases rx;obtain ⟨its,rv,pl,hz⟩:=I.list hq;obtain ⟨ys,e1,e2⟩:=kA (eG rv);have hl:s.heap.IsList p (intItems ys.toArray):=by
    have:intItems ys.toArray=its.toArray:=by rw [e1];simp [intItems]
    rw [this];exact pl.isList
  have hlen:ys.length=ns.length+1:=by have:=congrArg List.length e2;simpa using this
  refine min_intList (I.ok.hd hc) hl (by simp;omega) fun v h' tk hv hk=>?_
  obtain ⟨t,rfl⟩:=intItems_at hv;obtain ⟨g1,g2⟩:=argBest_lt (numAt ys.toArray) (ys.toArray.size-1);generalize argBest (fun i j=>decide (numAt ys.toArray i < numAt ys.toArray j)) (ys.toArray.size-1)=w at g1 g2 hv ⊢;have el:ys.toArray.toList.map (·.1)=n::ns:=e2;have m1:numAt ys.toArray w∈n::ns:=by
    rw [numAt_eq,el];refine getD_mem ?_;simp at g1 ⊢;omega
  obtain ⟨k1,k2⟩:=xX n ns;have e3:numAt ys.toArray w=Aa n ns:=by
    refine Int.le_antisymm ?_ (k2 _ m1);obtain ⟨j,hj,e⟩:=mem_getD k1;have:=g2 j (by simp at hj ⊢;omega);rw [numAt_eq ys.toArray j,el,e] at this;exact this
  rw [e3];exact ⟨.int _,H,I.kept hk,⟨_,rfl⟩,q⟩
theorem xm (hc:X.calm=true):dN X (.builtin "max") (fun xs H Q=>∃ p n ns,xs=[.ref p]/\mB X.K H p ((n::ns).map V.int)/\Q (.int (vh n ns)) H):=by
  intro pins s σ H xs us Q I r h;obtain ⟨p,n,ns,rfl,hq,q⟩:=h;obtain ⟨u,rfl,rx⟩:=fq r;cases rx;obtain ⟨its,rv,pl,hz⟩:=I.list hq;obtain ⟨ys,e1,e2⟩:=kA (eG rv);have hl:s.heap.IsList p (intItems ys.toArray):=by
    have:intItems ys.toArray=its.toArray:=by rw [e1];simp [intItems]
    rw [this];exact pl.isList
  have hlen:ys.length=ns.length+1:=by have:=congrArg List.length e2;simpa using this
  refine max_intList (I.ok.hd hc) hl (by simp;omega) fun v h' tk hv hk=>?_
  obtain ⟨t,rfl⟩:=intItems_at hv;obtain ⟨g1,g2⟩:=argBest_gt (numAt ys.toArray) (ys.toArray.size-1);generalize argBest (fun i j=>decide (numAt ys.toArray i > numAt ys.toArray j)) (ys.toArray.size-1)=w at g1 g2 hv ⊢;have el:ys.toArray.toList.map (·.1)=n::ns:=e2;have m1:numAt ys.toArray w∈n::ns:=by
    rw [numAt_eq,el];refine getD_mem ?_;simp at g1 ⊢;omega
  obtain ⟨k1,k2⟩:=qy n ns;have e3:numAt ys.toArray w=vh n ns:=by
    refine Int.le_antisymm (k2 _ m1) ?_;obtain ⟨j,hj,e⟩:=mem_getD k1;have:=g2 j (by simp at hj ⊢;omega);rw [numAt_eq ys.toArray j,el,e] at this;exact this
  rw [e3];exact ⟨.int _,H,I.kept hk,⟨_,rfl⟩,q⟩
noncomputable def I8:PyData->R PyData
  | .list ds=>match bL ds with
    | some (n::ns)=>.ok (.int (Aa n ns))
    | _=>.no
  | _=>.no
noncomputable def v3:PyData->R PyData
  | .list ds=>match bL ds with
    | some (n::ns)=>.ok (.int (vh n ns))
    | _=>.no
  | _=>.no
theorem xa (T:Tb X nl G) (j:Nat) (hG:G[j]?=some ("max" : Str)) (hm:X.mg "max" = none) (ha:Z.dL X a fa) (he:bc a=true:=by rfl):Z.cL X (.Call (.Name "max" p) [a] [] pos) (e1 v3 fa):=⟨have ha:=ha.un;by
  refine Bm T j hG hm eO PyProof.Rows.boot_max (xm T.calm) (fun H x d Q hx q=>?_) ha he;cases d with
  | list ds =>
    simp only [v3] at q;split at q
    · rename_i n ns ei;rw [da ei] at hx;obtain ⟨a',vs,rfl,h,r⟩:=dE (K:=X.K) hx;rw [gB r] at h;exact ⟨a',n,ns,rfl,h,q _ H (aM.refl _) de⟩
    · exact q.elim
  | _=>exact q.elim⟩
end
section
variable {prog:Program} {w:World} {A:Around} {E:Value->Shared->Prop} {s:Shared}
theorem pS {R:List Value->Shared->Prop} {r:Addr} {a b c:Int} {t u v:Tok} {n:Nat} (hh:A.handled=none) (hr:IsRange s.heap r a b c t u v) (hsmall:Builtin.Range.small a b c=true)
    (hn:Builtin.Range.rangeSize a b c=n) (hlen:n<=2 ^ 24)
    (h:∀ (h':Heap) (tk:Nat) (acc:Array Value),(∀ b o,s.heap.get? b=some o->h'.get? b=some o)->ItemsOf (fun i v=>∃ t,v=.int (a+i*c) t) acc n->R acc.toList { s with heap:=h',toks:=tk }) :
    wpAny (model prog w) A (collect (.ref r)) R E s:=by
  unfold collect;refine wpAny_bind (wpAny_runValue (codeAny_builtin F.entry_proto_collect ?_));rw [Around.under_plainId PySem.F.plain_proto_collect _];show wpAny _ A.in1 (newList []>>=fun l=>again (.builtin "list.__iadd__" ⟨[l,.ref r],[]⟩)) _ _ s;refine wpAny_bind (wpAny_newObj_type ?_);refine wpAny_pure ⟨plainId_quiet PySem.F.plain_list_iadd _,codeAny_builtin F.entry_list_iadd ?_⟩;rw [Around.under_plainId PySem.F.plain_list_iadd _];have hS₁:(s.heap.push { cls:=.type "list",data:=.seq ([]:List Value).toArray }).get? s.heap.objs.size=some { cls:=.type "list",data:=.seq #[] }:=Heap.get?_push_size _ rfl;show wpAny _ A.in1 (Builtin.List.listExtendWith (.ref s.heap.objs.size) (.ref r) (.ref s.heap.objs.size)) _ _ _;have key:=wpAny_extend_range (prog:=prog) (w:=w) (A:=A) (s:={ s with heap:=s.heap.push { cls:=.type "list",data:=.seq ([]:List Value).toArray } })
    (R:=fun (q:Result) (s':Shared)=>∃ (h':Heap) (tk:Nat) (acc':Array Value) (c':Nat),q=.ok (.ret (.ref s.heap.objs.size))/\s'={ s with heap:=h',toks:=tk } /\
      (∀ b o,s.heap.get? b=some o->h'.get? b=some o)/\h'.get? s.heap.objs.size=some { cls:=.type "list",dict:=none,data:=.seq acc' c',slots:=#[] }/\ItemsOf (fun i v=>∃ t,v=.int (a+i*c) t) acc' n)
    hh (Heap.get?_push_of_some _ hr) hsmall hn hlen s.heap.objs.size (.ref s.heap.objs.size) 0 hS₁
    (fun h' tk acc' c' hk hS' hacc=>⟨h',tk,acc',c',rfl,rfl,fun b o e=>hk b o (Nat.ne_of_lt (Heap.lt_size e)) (Heap.get?_push_of_some _ e),hS',hacc⟩)
  refine wpAny_mono key (fun fin s' x=>?_) fun e s' x=>?_
  · cases fin with
    | done f =>
      obtain ⟨h',tk,acc',c',e,rfl,hk,hS',hacc⟩:=x;cases e;show wpAny _ A (load s.heap.objs.size>>=_) _ _ _;refine wpAny_bind (wpAny_load hS' ?_);exact wpAny_pure (h h' tk acc' hk hacc)
    | again c' =>
      obtain ⟨hq,hc⟩:=x;refine ⟨hq,codeAny_mono hc fun q s' zq0=>?_⟩;obtain ⟨h',tk,acc',c',e,e2,hk,hS',hacc⟩:=zq0;subst e e2;show wpAny _ A (load s.heap.objs.size>>=_) _ _ _;refine wpAny_bind (wpAny_load hS' ?_);exact wpAny_pure (h h' tk acc' hk hacc)
  · obtain ⟨h',tk,acc',c',e,_⟩:=x;cases e
theorem nB (r:Addr) (a b c:Int) (t u v:Tok) (n:Nat) (hsmall:Builtin.Range.small a b c=true) (hn:Builtin.Range.rangeSize a b c=n) (hlen:n<=2 ^ 24):Meets (Builtin.«tuple.__new__» ⟨[.type "tuple",.ref r],[]⟩)
      (fun A R s=>A.handled=none/\IsRange s.heap r a b c t u v/\∀ (h':Heap) (tk:Nat) (acc:Array Value),(∀ b o,s.heap.get? b=some o->h'.get? b=some o)->ItemsOf (fun i v=>∃ t,v=.int (a+i*c) t) acc n ->
        R (.ok (.ret (.ref h'.objs.size))) { s with heap:=h'.push { cls:=.type "tuple",data:=.seq acc },toks:=tk }) :=
  .of_wp fun prog w A R s h=>by
    obtain ⟨hh,hr,h⟩:=h;have hsub:=sub_tuple_self;have hinit:=init_tuple_lookup;have hmh:=madeHere_tuple;have hT:s.TypeIs (.ref r) "range" := ⟨_,hr,rfl⟩
    have hh1:A.in1.handled=none:=hh
    wp_walk using wpAny_typeOf hT,pS hh1 hr hsmall hn hlen
    intro h' tk acc hk hacc;show wpAny _ _ (Builtin.Tuple.tupleExact acc.toList.toArray>>=fun v=>ret v) _ _ _;unfold Builtin.Tuple.tupleExact;refine wpAny_bind (wpAny_newObj_type ?_ (show acc.toList.toArray.size<=sizeLine by simp only [Array.toArray_toList];rw [hacc.1,sizeLine_eq];omega));refine wpAny_pure ⟨_,rfl,?_⟩;have e:acc.toList.toArray=acc:=by simp
    rw [e];exact h h' tk acc hk hacc
theorem l3 {Q:Value->Shared->Prop} {r:Addr} {a b c:Int} {t u v:Tok} {n:Nat} (hh:A.handled=none) (hr:IsRange s.heap r a b c t u v) (hsmall:Builtin.Range.small a b c=true) (hn:Builtin.Range.rangeSize a b c=n) (hlen:n<=2 ^ 24)
    (h:∀ (h':Heap) (tk:Nat) (acc:Array Value),(∀ b o,s.heap.get? b=some o->h'.get? b=some o)->ItemsOf (fun i v=>∃ t,v=.int (a+i*c) t) acc n->Q (.ref h'.objs.size) { s with heap:=h'.push { cls:=.type "tuple",data:=.seq acc },toks:=tk }) :
    wpAny (model prog w) A (call (.type "tuple") [.ref r]) Q E s:=by
  refine callType_new F.called_tuple (by decide) (F.typeCall_tuple_1 _) (F.newCall_tuple_1 _) (fun obj=>F.args_object_init_2 obj _) F.entry_tuple_new
    (nB r a b c t u v n hsmall hn hlen) ⟨hh,hr,fun h' tk acc hk hacc=>⟨⟨_,Heap.get?_push_size _ rfl,rfl⟩,h h' tk acc hk hacc⟩⟩
end
section
variable {X:Cx} {a b c:Expr} {fa fb fc:Fe} {pos p2:Pos} {nl:Nat} {G:List Str} {x:Str} {p:Pos} {fs:aT->R (List PyData)} {pos2:Pos}
noncomputable def jw (lo:Int) (n:Nat):List V:=(List.range n).map fun (k:Nat)=>.int (lo+k)
theorem yd {H:Hp} (lo:Int) (n:Nat):bK H (ce lo n) (jw lo n):=by
  have key:∀ l:List Nat,bK H (l.map fun (k:Nat)=>PyData.int (lo+k)) (l.map fun (k:Nat)=>V.int (lo+k)):=by
    intro l;induction l with
    | nil=>exact bK.nil
    | cons k l ih=>exact bK.cons de ih
  exact key _
theorem vK {lo:Int} {n:Nat} {acc:Array Value} (h:ItemsOf (fun i v=>∃ t,v=.int (lo+(i:Int)*1) t) acc n):bH (jw lo n) acc.toList:=by
  refine wU (by rw [Array.length_toList,h.1];simp [jw]) fun j v hj=>?_
  obtain ⟨t,e⟩:=h.2 j v (by rw [<- Array.getElem?_toList];exact hj);have hjn:j < n:=by
    have:=(List.getElem?_eq_some_iff.mp hj).1;rw [Array.length_toList,h.1] at this;exact this
  refine ⟨.int (lo+j),?_,t,by rw [e];simp⟩;unfold jw;rw [List.getElem?_map,List.getElem?_range hjn];rfl
theorem vt (lo:Int) (n:Nat):(jw lo n).length=n:=by simp [jw]
noncomputable def IP (mk:List V->HO) (ta:TA):TE:=fun σ H Q=>ta σ H fun vs H1=>∃ j:Int,vs=[.int j]/\j<=16777216/\-(2 ^ 62)<=j/\∀ l,H1 l=none->Q (.ref l) (cI H1 l (mk (jw 0 j.toNat)))
theorem Ao {ta:TA} (T:Tb X nl G) (i:Nat) (hGi:G[i]?=some ("tuple" : Str)) (hmi:X.mg "tuple" = none) (j:Nat) (hG:G[j]?=some ("range" : Str)) (hm:X.mg "range" = none) (ha:PA X [a] ta) (hs:bc a=true:=by rfl) :
    PE X (.Call (.Name "tuple" p) [.Call (.Name "range" p2) [a] [] pos2] [] pos) (IP .tup ta):=by
  intro pins s σ H Q I h;have g1:=T.gl _ (List.mem_of_getElem? hGi);have g2:=T.gl _ (List.mem_of_getElem? hG);have sc:starEach [Expr.Call (.Name "range" p2) [a] [] pos2] X.env=(false,eval (Expr.Call (.Name "range" p2) [a] [] pos2) X.env)::starEach [] X.env:=bA (by rfl);refine Call_ (gX I g1.1 hmi PyProof.Rows.boot_tuple (PyProof.Rows.callWith_type1 ?_ sc rfl));rw [sc];refine Calls.spliced_cons ?_;refine Call_ (gX I g2.1 hm boot_range (PyProof.Rows.callWith_type1 (dq (ha pos2 pins s σ H _ I h) fun us s1 zq0=>?_) (bA hs) rfl));obtain ⟨vs,H1,I1,r1,q1⟩:=zq0;obtain ⟨n,e,h1,h2,q⟩:=q1;subst e;obtain ⟨u,rfl,t,rfl⟩:=fq r1;refine call_range_1 (Calls.spliced_nil ?_);have hsz:Builtin.Range.rangeSize 0 n 1=n.toNat:=by rw [rangeSize_one];split <;> omega
  refine l3 (n:=n.toNat) (I1.ok.hd T.calm) (IsRange.new ..) (small_one (by omega) (by omega) (by omega) (by omega)) hsz (by omega) fun h' tk acc kp hacc=>?_
  have kp':∀ b o,s1.heap.get? b=some o->h'.get? b=some o:=fun b o e=>kp b o (Heap.get?_push_of_some _ e)
  have hg:s1.heap.get? h'.objs.size=none:=by
    cases e:s1.heap.get? h'.objs.size with
    | none=>rfl
    | some o=>exact absurd (Heap.lt_size (kp' _ _ e)) (Nat.lt_irrefl _)
  have hn:=oQ I1 hg;refine ⟨.ref h'.objs.size,_,oP (s:=s1) (t':=tk) (o:=.tup (jw 0 n.toNat)) I1 (fun b o e=>Heap.get?_push_of_some _ (kp' b o e)) hg hn ⟨by rw [vt,sizeLine_eq];omega,acc.toList,vK hacc,_,Heap.get?_push_size _ rfl,rfl,⟨_,by simp;rfl⟩,rfl⟩,rfl,q _ hn⟩
noncomputable def Ds (mk:List PyData->PyData):List PyData->R PyData
  | [.int j]=>if j<=16777216/\-(2 ^ 62)<=j then .ok (mk (ce 0 j.toNat)) else .no
  | _=>.no
noncomputable def zt (fs:aT->R (List PyData)):Fe:=fun ρ=>fs ρ>>=Ds .tuple
noncomputable def FP (fs:aT->R (List PyData)):Fe:=fun ρ=>fs ρ>>=Ds .list
theorem xb (T:Tb X nl G) (i:Nat) (hGi:G[i]?=some ("tuple" : Str)) (hmi:X.mg "tuple" = none) (j:Nat) (hG:G[j]?=some ("range" : Str)) (hm:X.mg "range" = none) (ha:Z.uD X [a] fs) (hs:bc a=true:=by rfl):Z.cL X (.Call (.Name "tuple" p) [.Call (.Name "range" p2) [a] [] pos2] [] pos) (zt fs):=⟨have ha:=ha.un;PE.imp (Ao T i hGi hmi j hG hm ha hs) fun σ H Q h=>(jk (I:=Rp) (f:=fs) (k:=fun _=>Ds .tuple) (eL (X:=X) eO Q) h).post fun vs H1 ⟨_,ds,_,_,p1,q1⟩=>by
    unfold Ds at q1;split at q1
    · rename_i n;split at q1
      · rename_i hz;simp only [RA] at p1;obtain ⟨v,r',rfl,p,rfl⟩:=p1;have ev:v=.int n:=by simpa only [Rp] using p
        subst ev;exact ⟨n,rfl,hz.1,hz.2,fun l hl=>q1 _ _ (cB hl _) (eI hl (yd 0 n.toNat))⟩
      · exact q1.elim
    · exact q1.elim⟩
end
section
variable {X:Cx} {a b:Expr} {fa fb:Fe} {pos p2:Pos}
noncomputable def I9:PyData->PyData->R PyData
  | .list xs,.int k=>if -(2 ^ 63)<=k/\k < 2 ^ 63/\xs.length*k.toNat<=sizeLine then .ok (.list (List.replicate k.toNat xs).flatten) else .no
  | _,_=>.no
noncomputable def FH:PyData->Option Int->Option Int->R PyData
  | .list xs,lo,hi=>.ok (.list (zk xs lo hi))
  | _,_,_=>.no
noncomputable def Ii (fa:Fe) (lo hi:Fo):Fe:=fun ρ=>fa ρ>>=fun d=>lo ρ>>=fun l=>hi ρ>>=fun u=>FH d l u
end
theorem bK.set {H:Hp} {d:PyData} {v:V} (p:Rp H d v):∀ {ds:List PyData} {vs:List V} (j:Nat),bK H ds vs->bK H (ds.set j d) (vs.set j v)
  | [],vs,j,r=>by rw [r.nil_inv];exact bK.nil
  | d'::ds,vs,j,r=>by
    obtain ⟨v',r',rfl,p',t⟩:=r.cons_inv;cases j with
    | zero=>exact bK.cons p t
    | succ j=>exact bK.cons p' (bK.set p j t)
noncomputable def im (i:Nat) (fk fv:Fe):Fs:=fun ρ=>fv ρ>>=fun v=>lL (fk ρ)>>=fun k=>match ρ[i]?,k with
  | some (.own (.list ds)),.int n=>match wl ds.length n with
    | some j=>.ok (.nx (ρ.set i (.own (.list (ds.set j v)))))
    | none=>.no
  | _,_=>.no
section
variable {X:Cx} {nl:Nat} {G:List Str} {x:Str} {f:Fe} {e:Expr}
theorem jG {k v:Expr} {fk fv:Fe} {q1 q2 q3:Pos} (T:Tb X nl G) (n:Nat) (hN:X.N[n]?=some x) (hk:Z.cL X.nox k fk) (hv:Z.cL X v fv) (hs:swapsWithSole [.Subscript (.Name x q1) k q2] v q3.line X.env=pure false:=by rfl) (hw:swappedStores [.Subscript (.Name x q1) k q2] v X.env=pure none:=by rfl) (h1:(assignEach [.Subscript (.Name x q1) k q2] X.env).map (·.2)=[assign (.Subscript (.Name x q1) k q2) X.env]:=by rfl) (ha:∀ v,assign (.Subscript (.Name x q1) k q2) X.env v=(do
      let ov <- holding [v] (eval (.Name x q1) X.env)
      let iv <- holding [v,ov] (eval k X.env)
      standAt q2
      holding [v,ov,iv] (setItem ov iv v)
      release [v,ov,iv] []):=by intro _;rfl):Z.kN X (.Assign [.Subscript (.Name x q1) k q2] v q3) (im n fk fv):=⟨have hk:=hk.un;have hv:=hv.un;fun Fm=>by
  have hm:=T.vis x (List.mem_of_getElem? hN);have hkX:PE X k (fun σ H Q=>jQ X.nox hJ fk σ H Q):=fun pins s σ H Q I h=>wpAny_mono (hk pins s σ H Q (I.wish _) h) (fun v s' ⟨y,H',I',r,q⟩=>⟨y,H',I'.unwish,r,q⟩) fun _ _ z=>False.elim z
  refine PS.imp (EE hv (EB (mh hN hm.1 hm.2.1 hm.2.2) hkX AI ha) hs hw h1) fun D σ H h=>?_
  refine (oq (P:=hJ) (f:=fv) (k:=fun ρ v=>lL (fk ρ)>>=fun k=>match ρ[n]?,k with
    | some (.own (.list ds)),.int m=>match wl ds.length m with
      | some j=>.ok (.nx (ρ.set n (.own (.list (ds.set j v)))))
      | none=>.no
    | _,_=>.no) h).post fun vv H1 ⟨ρ1,dv,sl1,_,p1,q1⟩=>?_
  cases ef:fk ρ1 with
  | ex c=>rw [ef] at q1;exact q1.elim
  | no=>rw [ef] at q1;exact q1.elim
  | ok kd =>
    rw [ef] at q1;simp only [lL,R.ok_bind] at q1;cases er:ρ1[n]? with
    | none=>rw [er] at q1;exact q1.elim
    | some c =>
      rw [er] at q1;cases c with
      | non=>exact q1.elim
      | exc p=>exact q1.elim
      | val d'=>exact q1.elim
      | own d' =>
        cases d' with
        | list ds =>
          cases kd with
          | int m =>
            dsimp only at q1;cases ei:wl ds.length m with
            | none=>rw [ei] at q1;exact q1.elim
            | some j =>
              rw [ei] at q1;obtain ⟨o,h2,w',rfl,p2⟩:=sl1.sl.at er;simp only [iZ] at p2;obtain ⟨a',vs,rfl,ha',r⟩:=p2;refine ⟨.ref a',h2,ρ1,sl1.sl,?_⟩;rw [ef];intro yv H3 s3 p3;have ev:yv=.int m:=by simpa only [Rp] using p3
              have ha3:=s3 _ _ ha';have r3:=r.mono s3;refine ⟨a',vs,m,j,rfl,ev,ha3,by rw [r.length];exact ei,q1 _ _ ((sl1.mono s3).change er h2 ha3 (.inl ⟨_,rfl⟩) ?_)⟩;simp only [iZ];exact ⟨a',_,rfl,bq,bK.kp (gy ha3 (.inl ⟨_,rfl⟩)) _ _ (bK.set (p1.mono s3) j r3)⟩
          | _=>exact q1.elim
        | _=>exact q1.elim⟩
noncomputable def Hv (g:Int->Int->Int):PyData->PyData->R PyData
  | .int i,.int j=>.ok (.int (g i j))
  | _,_=>.no
noncomputable def yf (i:Nat) (g:Int->Int->Int) (f:Fe):Fs:=fun ρ=>af i ρ>>=fun x=>f ρ>>=fun y=>Hv g x y>>=fun z=>.ok (.nx (ρ.set i (.val z)))
theorem BC {op:Operator} {g:Int->Int->Int} {pos pos':Pos} (ho:HR X op (Jd g)) (T:Tb X nl G) (i:Nat) (hN:(X.N.take nl)[i]?=some x) (he:cL X e f):kN X (.AugAssign (.Name x pos') op e pos) (yf i g f):=fun Fm=>by
  obtain ⟨n1,n2,n3⟩:=T.nm hN;refine PS.imp (EF T.nd n1 n2 he ho n3) fun D σ H h=>?_
  obtain ⟨ρ,sl,q⟩:=h;unfold yf at q;cases ev:af i ρ with
  | ex c=>exact absurd ev (by unfold af;split <;> simp)
  | no=>rw [ev] at q;exact q.elim
  | ok dx =>
    rw [ev] at q;simp only [R.ok_bind] at q;have hc:ρ[i]?=some (.val dx):=by
      unfold af at ev;split at ev
      · rename_i d hd;cases ev;exact hd
      · cases ev
    obtain ⟨o,h2,w',rfl,p2⟩:=sl.sl.at hc;refine ⟨w',h2,?_⟩;refine (oq (P:=hJ) (f:=f) (k:=fun ρ y=>Hv g dx y>>=fun z=>.ok (.nx (ρ.set i (.val z)))) ⟨ρ,sl,q⟩).post fun v H1 zq0=>?_
    obtain ⟨ρ1,d,sl1,s1,p,q1⟩:=zq0;cases dx with
    | int a =>
      cases d with
      | int b =>
        have e1:w'=.int a:=by simpa only [Rp] using p2
        have e2:v=.int b:=by simpa only [Rp] using p
        subst e1;subst e2;exact ⟨a,b,rfl,rfl,q1 _ H1 (sl1.set i (fun e z=>by cases z) ⟨.int (g a b),rfl,de⟩)⟩
      | _=>exact q1.elim
    | _=>exact q1.elim
theorem w8 {pos pos':Pos} (T:Tb X nl G) (i:Nat) (hN:(X.N.take nl)[i]?=some x) (he:Z.cL X e f):Z.kN X (.AugAssign (.Name x pos') .Add e pos) (yf i (fun a b=>a+b) f):=⟨have he:=he.un;BC D8 T i hN he⟩
end
section
variable {X:Cx} {a b:Expr} {fa fb:Fe} {pos p:Pos} {nl:Nat} {G:List Str}
noncomputable def Ja:PyData->PyData->R PyData
  | .str z,.int k=>if k=0\/k=1 then .ok (.str (if k=1 then z else Str.empty)) else .no
  | _,_=>.no
end
section
variable {X:Cx} {o e:Expr} {fo fe:Fe} {apos cpos:Pos}
theorem Ab:Hl X "list.index" (fun x xs H Q=>∃ (l:Addr) (ns:List Int) (k:Int),x=.ref l/\xs=[.int k]/\mB X.K H l (ns.map V.int)/\PyData.layable0 (.list (ns.map .int))=true/\k∈ns/\Q (.int (ns.idxOf k:Nat)) H):=by
  intro pins s σ H x xs v us Q I rx rs h;obtain ⟨l,ns,k,rfl,rfl,hq,hlay,hk,q⟩:=h;cases rx;obtain ⟨u,rfl,t,rfl⟩:=fq rs;obtain ⟨its,rv,pl,hz⟩:=I.list hq;exact index_list_ints pl.isList (eG rv) hlay hk ⟨.int _,H,I.tok _,⟨_,rfl⟩,q⟩
noncomputable def zJ:PyData->R Unit
  | .list _=>.ok ()
  | _=>.no
noncomputable def jn:PyData->PyData->R PyData
  | .list ds,.int k=>match bL ds with
    | some ns=>if PyData.layable0 (.list ds)=true/\k∈ns then .ok (.int (ns.idxOf k:Nat)) else .no
    | none=>.no
  | _,_=>.no
noncomputable def rP (fo fe:Fe):Fe:=fun ρ=>fo ρ>>=fun x=>zJ x>>=fun _=>fe ρ>>=fun y=>jn x y
theorem uR (ho:Z.dL X o fo) (he:Z.cL X e fe) (hb:attributeBase o "index" X.env (eval o X.env)=eval o X.env:=by rfl) (hst:bc e=true:=by rfl) (hline:(apos.endLine==cpos.line)=true:=by rfl):Z.cL X (.Call (.Attribute o "index" apos) [e] [] cpos) (rP fo fe):=⟨have ho:=ho.un;have he:=he.un;by
  have sc:starEach [e] X.env=(false,eval e X.env)::starEach [] X.env:=bA hst;refine PE.imp (wD PySem.F.plainAttrs_list PySem.F.slot_list_index PySem.F.type_list_index Ab ho (gf he jo hst) hb (by rw [sc];rfl) hline sc rfl) fun σ H Q h=>?_
  refine (eT (P:=uG) (f:=fo) (k:=fun ρ x=>zJ x>>=fun _=>fe ρ>>=fun y=>jn x y) (eL (X:=X) eO Q) h).post fun v H1 zq0=>?_
  obtain ⟨ρ1,d1,sl1,_,p1,q1⟩:=zq0;cases d1 with
  | list ds =>
    obtain ⟨a,vs,rfl,h1,r1⟩:=dE (K:=X.K) p1;refine ⟨.inl ⟨rfl,_,h1⟩,?_⟩;have q1:uc X hJ (ah fe aG ρ1>>=one (jn (.list ds))) H1 Q:=by
      have e0:(ah fe aG ρ1>>=one (jn (.list ds)))=(fe ρ1>>=fun y=>jn (.list ds) y):=by
        unfold ah aG;cases fe ρ1 <;> rfl
      rw [e0];exact q1
    refine (jk (I:=Rp) (f:=ah fe aG) (k:=fun _=>one (jn (.list ds))) (eL (X:=X) eO Q) ⟨ρ1,sl1,q1⟩).post fun us H2 zq0=>?_
    obtain ⟨_,ds2,_,s2,p2,q2⟩:=zq0;unfold one at q2;split at q2
    · rename_i d2;simp only [RA] at p2;obtain ⟨w,r',rfl,p2,rfl⟩:=p2;cases d2 with
      | int k =>
        have ew:w=.int k:=by simpa only [Rp] using p2
        subst ew;simp only [jn] at q2;cases ei:bL ds with
        | none=>rw [ei] at q2;exact q2.elim
        | some ns =>
          rw [ei] at q2;dsimp only at q2;split at q2
          · rename_i hz;have p3:=gS.mono p1 s2;rw [da ei] at p3;obtain ⟨a',vs',ea,h3,r3⟩:=dE (K:=X.K) p3;cases ea;rw [gB r3] at h3;exact ⟨a,ns,k,rfl,rfl,h3,by rw [<- da ei];exact hz.1,hz.2,q2 _ H2 (aM.refl _) de⟩
          · exact q2.elim
      | _=>exact q2.elim
    · exact q2.elim
  | _=>exact q1.elim⟩
end
noncomputable def Di:br->br
  | .own _=>.non
  | c=>c
noncomputable def iI (i:Nat) (d:PyData) (ρ:aT):aT:=(ρ.map Di).set i (.val d)
noncomputable def kU:PyData->R PyData
  | .none=>.ok .none
  | .bool b=>.ok (.bool b)
  | .int k=>.ok (.int k)
  | .str x=>.ok (.str x)
  | .tuple ds=>match bL ds with
    | some _=>.ok (.tuple ds)
    | none=>.no
  | _=>.no
theorem zb {d:PyData} {c:Str}:kU d≠.ex c:=by
  cases d with
  | tuple ds =>
    show (match bL ds with | some _=>R.ok (PyData.tuple ds) | none=>.no)≠_;cases bL ds <;> exact fun z=>nomatch z
  | _=>exact fun z=>nomatch z
noncomputable def j7 (i:Nat) (f:Fe):Fe:=fun ρ=>match ρ[i]? with
  | some (.own d)=>lL (f (iI i d ρ))>>=kU
  | _=>f ρ
section
variable {X:Cx} {pins:List (Addr×Obj)} {σ:St} {H H1:Hp} {s s':Shared} {a:Addr} {u:HO} {o:Obj}
theorem yg (h:H a=some u) (S:aM (cI H a (.frz o u)) H1):aM H (cI H1 a u):=fun b x e=>by
  by_cases hb:b=a
  · subst hb;rw [bq];rw [h] at e;exact e
  · rw [aA hb];exact S b x (by rw [aA hb];exact e)
theorem zI (I:aU X pins σ H s) (h:H a=some u) (hm:(∃ xs,u=.lst xs)\/∃ ks,u=.dK ks) (S:aM (cI H a (.frz o u)) H1) (J:aU X pins σ H1 s'):aU X pins σ (cI H1 a u) s':=by
  have ha:H1 a=some (.frz o u):=S a _ bq;have nt:∀ b xs,H1 b=some (.tup xs)->b≠a:=fun b xs q z=>by subst z;rw [ha] at q;cases q
  have nb:∀ b ps,H1 b=some (.tbl ps)->b≠a:=fun b ps q z=>by subst z;rw [ha] at q;cases q
  have nw:∀ b y,H1 b=some (.own y)->b≠a:=fun b y q z=>by subst z;rw [ha] at q;cases q
  have nn:∀ b,H1 b=none->b≠a:=fun b q z=>by subst z;rw [ha] at q;cases q
  have st:∀ b x,cb X.prog X.w H1 s'.heap b x->cb X.prog X.w (cI H1 a u) s'.heap b x:=fun b x q =>
    q.stay (fun c v _ e=>e) (fun c e=>by rw [aA (nw _ _ e)];exact e) fun c xs e=>by rw [aA (nt _ _ e)];exact e
  refine ⟨J.ok,J.os,J.bare,⟨J.base.keep,J.base.slot,fun b ob' e n hx=>?_,J.base.there,fun b xs e=>?_,fun b ob' v e=>?_,fun b ps e=>?_⟩,J.loc,J.cell,?_,fun x c e=>?_,fun p hp=>?_,fun b x e=>?_,J.len⟩
  · have:=J.base.free b ob' e n hx;rw [aA (nn _ this)];exact this
  · have:=J.base.tups b xs e;rw [aA (nt _ _ this)];exact this
  · have q:=I.base.frzs b ob' v e;have hb:b≠a:=fun z=>by subst z;rw [h] at q;rcases hm with ⟨_,rfl⟩ | ⟨_,rfl⟩ <;> cases q
    rw [aA hb];exact J.base.frzs b ob' v e
  · obtain ⟨m,q⟩:=J.base.tbls b ps e;exact ⟨m,by rw [aA (nb _ _ q)];exact q⟩
  · rw [aA (nn _ J.free)];exact J.free
  · rw [aA (nn _ (J.freeC x c e))];exact J.freeC x c e
  · obtain ⟨p1,p2,p3⟩:=J.pin p hp;exact ⟨p1,by rw [aA (nn _ p2)];exact p2,p3⟩
  · by_cases hb:b=a
    · subst hb;rw [bq] at e;cases e;obtain ⟨_,q⟩:=(show cb X.prog X.w H1 s'.heap b (.frz o u) from J.hok b _ ha)
      exact st b u q
    · rw [aA hb] at e;exact st b x (J.hok b x e)
theorem wt {ρ:aT} {i:Nat} {d:PyData} {v:V} (sl:Sl H σ ρ) (k:Kp H H1) (hv:σ[i]?=some (some v)) (hr:Rp H1 d v):Sl H1 σ (iI i d ρ):=by
  unfold iI;refine ⟨by rw [List.length_set,List.length_map];exact sl.1,fun j c w' e1 e2=>?_⟩;rw [List.getElem?_set] at e1;by_cases hij:i=j
  · subst hij;rw [if_pos rfl] at e1;split at e1
    · cases e1;rw [hv] at e2;cases e2;exact ⟨_,rfl,hr⟩
    · cases e1
  · rw [if_neg hij,List.getElem?_map] at e1;cases ec:ρ[j]? with
    | none=>rw [ec] at e1;cases e1
    | some c' =>
      rw [ec] at e1;have e1':Di c'=c:=Option.some.inj e1;subst e1';have q:=sl.2 j c' w' ec e2;cases c' with
      | exc p=>exact q
      | non=>exact True.intro
      | val d'=>obtain ⟨v,z1,z2⟩:=q;exact ⟨v,z1,Rp.kp k _ _ z2⟩
      | own d'=>exact True.intro
end
theorem qJ {H H':Hp}:∀ {ns:List Int} {vs:List V},bK H (ns.map .int) vs->bK H' (ns.map .int) vs
  | [],vs,r=>by rw [r.nil_inv];exact bK.nil
  | n::ns,vs,r=>by
    rw [List.map_cons] at r;obtain ⟨v,r',rfl,p,t⟩:=r.cons_inv;exact bK.cons (by simp only [Rp] at p ⊢;exact p) (qJ t)
theorem Bk {H H':Hp} {d d':PyData} {v:V} (kt:∀ b xs,H b=some (.tup xs)->H' b=some (.tup xs)) (h:kU d=.ok d') (r:Rp H d v):Rp H' d' v:=by
  cases d with
  | tuple ds =>
    cases ei:bL ds with
    | none =>
      rw [show kU (.tuple ds)=(match bL ds with | some _=>R.ok (PyData.tuple ds) | none=>.no) from rfl,ei] at h;cases h
    | some ns =>
      rw [show kU (.tuple ds)=(match bL ds with | some _=>R.ok (PyData.tuple ds) | none=>.no) from rfl,ei] at h;cases h;simp only [Rp] at r ⊢;obtain ⟨a,vs,e,ha,q⟩:=r;rw [da ei] at q ⊢;exact ⟨a,vs,e,kt a vs ha,qJ q⟩
  | none=>cases h;simp only [Rp] at r ⊢;exact r
  | bool b=>cases h;simp only [Rp] at r ⊢;exact r
  | int i=>cases h;simp only [Rp] at r ⊢;exact r
  | str x=>cases h;simp only [Rp] at r ⊢;exact r
  | list ds=>cases h
  | dict kvs=>cases h
theorem cL.lent {X:Cx} {e:Expr} {f:Fe} (i:Nat) (h:cL X e f):cL X e (j7 i f):=by
  intro pins s σ H Q I q;obtain ⟨ρ,sl,q⟩:=q;by_cases ho:∃ d,ρ[i]?=some (.own d)
  · obtain ⟨d,ho⟩:=ho;have el:j7 i f ρ=(lL (f (iI i d ρ))>>=kU):=by unfold j7;rw [ho]
    rw [el] at q;have go:∀ (a:Addr) (u:HO) (hu:H a=some u) (hm:(∃ xs,u=.lst xs)\/∃ ks,u=.dK ks) (o:Obj) (J:aU X pins σ (cI H a (.frz o u)) s) (sl1:Sl (cI H a (.frz o u)) σ (iI i d ρ)),wpAny (model X.prog X.w) X.A (eval e X.env) (EP X pins σ Q) X.xe s:=fun a u hu hm o J sl1=>by
      cases ef:f (iI i d ρ) with
      | no=>rw [ef] at q;exact q.elim
      | ex c=>rw [ef] at q;exact q.elim
      | ok d1 =>
        rw [ef] at q;change uc X hJ (kU d1) H Q at q;cases ea:kU d1 with
        | no=>rw [ea] at q;exact q.elim
        | ex c=>exact (zb ea).elim
        | ok d2 =>
          rw [ea] at q;refine dq (h pins s σ (cI H a (.frz o u)) (fun v H'=>aM (cI H a (.frz o u)) H'/\Rp H' d1 v) J ⟨iI i d ρ,sl1,by rw [ef];exact fun v H' hs p=>⟨hs,p⟩⟩) fun w s' ⟨v,H',J',r,hs,p⟩=>?_
          exact ⟨v,cI H' a u,zI I hu hm hs J',r,q v _ (yg hu hs) (Bk (fun b xs e=>by
            have hb:b≠a:=fun z=>by subst z;rw [hs b _ bq] at e;cases e
            rw [aA hb];exact e) ea p)⟩
    obtain ⟨w',h2,v,rfl,qo⟩:=sl.at ho;cases d <;> simp only [iZ] at qo
    · rename_i ds;obtain ⟨a,vs,rfl,ha,r⟩:=qo;obtain ⟨o,J⟩:=gx I ha (.inl ⟨_,rfl⟩);have kp:=gy (o':=.frz o (.lst vs)) ha (.inl ⟨_,rfl⟩);have hr:Rp (cI H a (.frz o (.lst vs))) (.list ds) (.ref a):=by
        simp only [Rp];exact ⟨a,o,vs,rfl,bq,bK.kp kp _ _ r⟩
      exact go a _ ha (.inl ⟨_,rfl⟩) o J (wt sl kp h2 hr)
    · rename_i ds;obtain ⟨a,vs,rfl,ha,r⟩:=qo;obtain ⟨o,J⟩:=gx I ha (.inr ⟨_,rfl⟩);have kp:=gy (o':=.frz o (.dK vs)) ha (.inr ⟨_,rfl⟩);have hr:Rp (cI H a (.frz o (.dK vs))) (.dict ds) (.ref a):=by
        simp only [Rp];exact .inl ⟨a,o,vs,rfl,bq,ej.kp kp _ _ r⟩
      exact go a _ ha (.inr ⟨_,rfl⟩) o J (wt sl kp h2 hr)
  · have el:j7 i f ρ=f ρ:=by
      unfold j7;split
      · rename_i d e1;exact (ho ⟨d,e1⟩).elim
      · rfl
    rw [el] at q;exact h pins s σ H Q I ⟨ρ,sl,q⟩
theorem uP {X:Cx} {e:Expr} {f:Fe} (i:Nat) (h:Z.cL X e f):Z.cL X e (j7 i f) :=
  ⟨D2.cL.lent i h.un⟩
noncomputable def zG (C:Addr) (names:List Str) (ds:List PyData):PyData:=.dict ((.none,.int C)::(names.zip ds).map fun p=>(.str p.1,p.2))
noncomputable def u5 (f:Str):List (PyData×PyData)->R PyData
  | []=>.no
  | (.str x,d)::r=>if x=f then .ok d else u5 f r
  | _::_=>.no
noncomputable def kx (C:Addr) (f:Str):PyData->R PyData
  | .dict ((.none,.int c)::kvs)=>if c=(C:Int) then u5 f kvs else .no
  | _=>.no
noncomputable def tJ (C:Addr) (names:List Str) (fs:aT->R (List PyData)):Fe:=fun ρ=>fs ρ>>=fun ds=>.ok (zG C names ds)
noncomputable def HI (C:Addr) (names:List Str):Sp:=fun vs H Q _=>∃ x dx ws,vs=.ref x::ws/\H x=some (.ins C dx [])/\ws.length=names.length/\∀ H',H' x=some (.ins C dx (names.zip ws))->(∀ b,b≠x->H' b=H b)->Q .non H'
section
variable {X:Cx} {pins:List (Addr×Obj)} {σ:St} {H:Hp} {s:Shared} {a C dx:Addr} {fs:List (Str×V)}
theorem tO (I:aU X pins σ H s) (h:H a=some (.ins C dx fs)):∃ o,aU X pins σ (cI H a (.frz o (.ins C dx fs))) s:=by
  have ob:=I.hok a _ h;obtain ⟨o,hg⟩:=r8 ob;have nt:∀ b xs,H b=some (.tup xs)->b≠a:=fun b xs q z=>by subst z;rw [h] at q;cases q
  have nf:∀ b o' u',H b=some (.frz o' u')->b≠a:=fun b o' u' q z=>by subst z;rw [h] at q;cases q
  have nb:∀ b ps,H b=some (.tbl ps)->b≠a:=fun b ps q z=>by subst z;rw [h] at q;cases q
  have nw:∀ b y,H b=some (.own y)->b≠a:=fun b y q z=>by subst z;rw [h] at q;cases q
  have nn:∀ b,H b=none->b≠a:=fun b q z=>by subst z;rw [h] at q;cases q
  have st:∀ b x,cb X.prog X.w H s.heap b x->cb X.prog X.w (cI H a (.frz o (.ins C dx fs))) s.heap b x:=fun b x q =>
    q.stay (fun c v _ e=>e) (fun c e=>by rw [aA (nw _ _ e)];exact e) fun c xs e=>by rw [aA (nt _ _ e)];exact e
  refine ⟨o,⟨I.ok,I.os,I.bare,⟨I.base.keep,I.base.slot,fun b ob' e n hx=>?_,I.base.there,fun b xs e=>?_,fun b ob' v e=>?_,fun b ps e=>?_⟩,I.loc,I.cell,?_,fun x c e=>?_,fun p hp=>?_,fun b x e=>?_,I.len⟩⟩
  · have:=I.base.free b ob' e n hx;rw [aA (nn _ this)];exact this
  · have:=I.base.tups b xs e;rw [aA (nt _ _ this)];exact this
  · have:=I.base.frzs b ob' v e;rw [aA (nf _ _ _ this)];exact this
  · obtain ⟨m,q⟩:=I.base.tbls b ps e;exact ⟨m,by rw [aA (nb _ _ q)];exact q⟩
  · rw [aA (nn _ I.free)];exact I.free
  · rw [aA (nn _ (I.freeC x c e))];exact I.freeC x c e
  · obtain ⟨p1,p2,p3⟩:=I.pin p hp;exact ⟨p1,by rw [aA (nn _ p2)];exact p2,p3⟩
  · by_cases hb:b=a
    · subst hb;rw [bq] at e;cases e;exact ⟨hg,st b _ ob⟩
    · rw [aA hb] at e;exact st b x (I.hok b x e)
theorem BS {o':HO} (h:H a=some (.ins C dx fs)):Kp H (cI H a o'):=by
  refine ⟨fun b xs e=>?_,fun b o v e=>?_⟩
  · rw [aA];exact e;rintro rfl;rw [h] at e;cases e
  · rw [aA];exact e;rintro rfl;rw [h] at e;cases e
end
theorem wJ {H:Hp}:∀ {names:List Str} {ds:List PyData} {vs:List V},bK H ds vs->ur H ((names.zip ds).map fun p=>(.str p.1,p.2)) (names.zip vs)
  | [],ds,vs,_=>by simp only [List.zip_nil_left,List.map_nil,ur]
  | n::names,[],vs,r=>by
    simp only [bK] at r;subst r;simp only [List.zip_nil_right,List.map_nil,ur]
  | n::names,d::ds,vs,r=>by
    simp only [bK] at r;obtain ⟨v,t,rfl,p,q⟩:=r;simp only [List.zip_cons_cons,List.map_cons,ur,CU];exact ⟨n,v,_,rfl,⟨rfl,p⟩,wJ q⟩
theorem we {H:Hp} {f:Str} {d:PyData}:∀ {kvs:List (PyData×PyData)} {fs:List (Str×V)},ur H kvs fs->u5 f kvs=.ok d->∃ v,fs.lookup f=some v/\Rp H d v
  | [],fs,_,e=>by cases e
  | (k,d')::kvs,fs,r,e=>by
    simp only [ur,CU] at r;obtain ⟨x,v,t,rfl,⟨rfl,p⟩,q⟩:=r;simp only [u5] at e;by_cases h:x=f
    · rw [if_pos h] at e;cases e;subst h;exact ⟨v,by rw [List.lookup_cons_self],p⟩
    · rw [if_neg h] at e;obtain ⟨w,w1,w2⟩:=we q e;refine ⟨w,?_,w2⟩;rw [List.lookup_cons];have:(f==x)=false:=by
        cases z:f==x with
        | false=>rfl
        | true=>exact (h (eq_of_beq z).symm).elim
      rw [this];exact w1
theorem wc {f:Str} {c:Str}:∀ {kvs:List (PyData×PyData)},u5 f kvs≠.ex c
  | [],e=>by cases e
  | (k,d)::kvs,e=>by
    cases k <;> simp only [u5] at e <;> try cases e
    split at e
    · cases e
    · exact wc e
section
variable {X:Cx} {e:Expr} {es:List Expr} {fe:Fe} {pos p:Pos} {nl:Nat} {G:List Str} {x:Str}
theorem sW {k:Nat} {C f:Addr} {fd:FuncData} {ps names:List Str} {fs:aT->R (List PyData)} (M:Mk X.K C f) (F:bi X.prog X.w X.K X.mg X.base (cQ X.prog X.w X.mg) k f fd ps (HI C names)) (hr:eQ (k+1) X.A) (T:Tb X nl G) (j:Nat) (hG:G[j]?=some x) (hm:X.mg x=some (.ref C)) (hb:bM X.K fd ps []) (ha:Z.uD X (e::es) fs) (hfs:∀ ρ ds,fs ρ=.ok ds->ds.length=names.length) (he:(e::es).all bc=true:=by rfl):Z.cL X (.Call (.Name x p) (e::es) [] pos) (tJ C names fs):=⟨have ha:=ha.un;by
  rw [List.all_cons,Bool.and_eq_true] at he;have g:=T.gl x (List.mem_of_getElem? hG);intro pins s σ H Q I ⟨ρ,sl,q⟩;unfold tJ at q;have base:=Cg (p:=p) (pos:=pos) M F hr g.1 hm hb .nil wC ha g.2.1 (bA he.1) (pr he.2);cases e1:fs ρ with
  | ex c=>rw [e1] at q;exact dq (base pins s σ H (fun _ _=>False) I ⟨ρ,sl,by rw [e1];exact q⟩) fun u s' ⟨v,H',I',r,z⟩=>z.elim
  | no=>rw [e1] at q;exact q.elim
  | ok ds =>
    rw [e1] at q;have q':uc X hJ (.ok (zG C names ds)) H Q:=q;refine dq (base pins s σ H (fun v H'=>∃ a dx vs,v=.ref a/\H a=none/\H' a=some (.ins C dx (names.zip vs))/\bK H' ds vs/\aM H H') I ⟨ρ,sl,?_⟩) fun u s' ⟨v,H',I',r,a,dx,vs,ev,hn,ha',rp,sm⟩=>?_
    · rw [e1];intro vs H1 s1 r1 y dy hy hdy hne;rw [List.append_nil];have r2:=pb.mp r1;refine ⟨y,dy,vs,rfl,bq,by rw [r2.length];exact hfs ρ ds e1,fun H' h1 h2=>⟨rfl,y,dy,vs,rfl,s1.free hy,h1,?_,?_⟩⟩
      · have sm:aM H1 H':=fun b o eb=>by
          rw [h2 b (ba eb hy),aA (ba eb hy),aA (ba eb hdy)];exact eb
        exact r2.mono sm
      · intro b o eb;have eb1:=s1 b o eb;rw [h2 b (ba eb1 hy),aA (ba eb1 hy),aA (ba eb1 hdy)];exact eb1
    · subst ev;obtain ⟨o,J⟩:=tO I' ha';have kp:=BS (o':=.frz o (.ins C dx (names.zip vs))) ha';refine ⟨.ref a,_,J,r,q' _ _ (fun b x eb=>by rw [aA (ba eb hn)];exact sm b x eb) ?_⟩;show Rp _ (zG C names ds) _;unfold zG;simp only [Rp];refine .inr ⟨a,o,C,dx,_,rfl,bq,?_⟩;simp only [yF];exact ⟨True.intro,ur.kp kp _ _ (wJ rp)⟩⟩
noncomputable def G1 (K:PySem.W.Frag) (ta:TE) (f:Str):TE:=fun σ H Q=>ta σ H fun x H1=>∃ a o C dx fs v,x=.ref a/\H1 a=some (.frz o (.ins C dx fs))/\yD K C/\eh K C f/\fs.lookup f=some v/\Q v H1
theorem Cd {f:Str} {ta:TE} (he:PE X e ta) (hb:attributeBase e f X.env (eval e X.env)=eval e X.env):PE X (.Attribute e f pos) (G1 X.K ta f):=by
  intro pins s σ H Q I h;refine Bl hb (dq (he pins s σ H _ I h) fun u s1 zq0=>?_);obtain ⟨x,H1,I1,rx,a,o,C,dx,fs,v,ex,ea,c,n,l,q⟩:=zq0;subst ex;obtain rfl:u=Value.ref a:=rx;obtain ⟨_,d,z,ne,ob,mA,nn,r,qq⟩:=(show cb X.prog X.w H1 s1.heap a (.frz o (.ins C dx fs)) from I1.hok a _ ea)
  obtain ⟨u',hu,ru⟩:=lV.some_of (v:=v) (o:=mA f) (by rw [<- l];exact r f);exact BJ I1.kIn ⟨ob,nn,ne⟩ (c.get f) c.hd n hu (xF ru) ⟨v,H1,I1.tok _,ru,q⟩
theorem kQ {C:Addr} {f:Str} (cl:yD X.K C) (na:eh X.K C f) (he:Z.cL X e fe) (hb:attributeBase e f X.env (eval e X.env)=eval e X.env:=by rfl):Z.cL X (.Attribute e f pos) (e1 (kx C f) fe):=⟨have he:=he.un;by
  refine PE.imp (Cd he hb) fun σ H Q h=>?_
  refine (eT (P:=hJ) (f:=fe) (k:=fun _ x=>kx C f x) (eL (X:=X) eO Q) h).post fun v H1 zq0=>?_
  obtain ⟨_,d1,_,_,p1,q1⟩:=zq0;unfold kx at q1;split at q1
  · rename_i c kvs;split at q1
    · rename_i hc;cases ef:u5 f kvs with
      | no=>rw [ef] at q1;exact q1.elim
      | ex c=>exact (wc ef).elim
      | ok d =>
        rw [ef] at q1;have p2:Rp H1 (.dict ((.none,.int c)::kvs)) v:=p1;simp only [Rp] at p2;rcases p2 with ⟨a,o,ks,rfl,ha,r⟩ | ⟨a,o,C',dx,fs,rfl,ha,r⟩
        · simp only [ej,A5] at r;obtain ⟨κ,_,_,_,⟨r1,_⟩,_⟩:=r;cases κ <;> cases r1
        · simp only [yF] at r;obtain ⟨r1,r2⟩:=r;have hC:c=(C':Int):=by injection r1 with _ r3;injection r3
          have hCC:C'=C:=by
            have:(C':Int)=(C:Int):=hC.symm.trans hc;exact Int.ofNat.inj this
          subst hCC;obtain ⟨w,w1,w2⟩:=we r2 ef;exact ⟨a,o,C',dx,fs,w,rfl,ha,cl,na,w1,q1 w H1 (aM.refl _) w2⟩
    · exact q1.elim
  · exact q1.elim⟩
end
theorem Gv {a b c:Str} {x y z:V} (h1:¬ a=b) (h2:¬ a=c) (h3:¬ b=c):ik c z (ik b y (ik a x []))=[(a,x),(b,y),(c,z)]:=by
  simp only [ik,if_neg h1,if_neg h2,if_neg h3]
noncomputable abbrev gc:=List PyData->R PyData
structure gn (P:Program) (w:World) (K:PySem.W.Frag) (mg:Str->Option Value) (base:Heap) (k:Nat) (x:Str) (ps:List Str) (F:gc) (f:Addr) (fd:FuncData):Prop where
  ok:bi P w K mg base (cQ P w mg) k f fd ps (dt F ps.length)
  m:mg x=some (.ref f)
  kp:PySem.W.keepIn K (.ref f)=true
  b:bM K fd ps []
theorem az {X:Cx} {k:Nat} {f:Addr} {fd:FuncData} {ps:List Str} {F:gc} {x:Str} {p pos:Pos} {e:Expr} {es:List Expr} {fs:aT->R (List PyData)} {nl:Nat} {G:List Str} (C:gn X.prog X.w X.K X.mg X.base k x ps F f fd) (hr:eQ k X.A) (T:Tb X nl G) (j:Nat) (hG:G[j]?=some x) (ha:Z.uD X (e::es) fs) (hlen:(e::es).length=ps.length) (hfs:∀ ρ ds,fs ρ=.ok ds->ds.length=ps.length) (he:(e::es).all bc=true:=by rfl):Z.cL X (.Call (.Name x p) (e::es) [] pos) (aF F fs):=⟨have ha:=ha.un;BF C.ok hr T j hG C.m C.kp C.b ha hlen hfs he⟩
structure cz (K:PySem.W.Frag) (x:Str) (st:Stmt) (f:Addr) (fd:FuncData):Prop where
  ns:PySem.W.nsIn K mainGlobals x=some (some (.ref f))
  fn:gp K x x st f fd
theorem aZ {K:PySem.W.Frag} {x:Str} {st:Stmt} {f:Addr} {oc:Value} {od an:Option Addr} {osl:Array (Option Value)} {kV doc pm cdv ct:Value} (a:PySem.W.nsIn K mainGlobals x=some (some (.ref f))) (l:K.lookup f=some ⟨oc,od,.func (PySem.W.fnOf x x (dW st) (cX st) (aj st) .none kV doc pm an cdv ct),osl⟩) (c:PySem.W.codeIn K cdv x=true) (k:PySem.W.keepIn K (.ref f)=true) :
    cz K x st f (PySem.W.fnOf x x (dW st) (cX st) (aj st) .none kV doc pm an cdv ct):=⟨a,u6 l c k⟩
noncomputable def HG (i:Nat) (g:Fs):Fs:=fun ρ=>match ρ[i]? with
  | some (.own d)=>g (ρ.set i (.val d))
  | _=>g ρ
theorem Bh {X:Cx} {st:Stmt} {g:Fs} (i:Nat) (h:Z.kN X st g):Z.kN X st (HG i g):=⟨have h:=h.un;fun Fm=>by
  intro pins s σ H D I ⟨ρ,sl,q⟩;unfold HG at q;split at q
  · rename_i d e;obtain ⟨H2,v,I2,sl2,_,_⟩:=Dc I sl e;exact h Fm pins s σ H2 D I2 ⟨_,sl2,q⟩
  · exact h Fm pins s σ H D I ⟨ρ,sl,q⟩⟩
end D2
namespace D2
open PySem PySem.Spec PySem.Calls PySem.W PyProof.Rows L2 Builtin Builtin.ObjectAttr Builtin.Getset_descriptor
end D2
namespace D2
open PySem PySem.Spec PyProof.Rows L2 PySem.Builtin PySem.Builtin.Str
end D2
set_option maxHeartbeats 400000
namespace D2
open PySem PySem.Spec PyProof.Rows L2 PySem.Builtin
end D2
namespace D2
open PySem PySem.Spec PyProof.Rows L2
section
variable {X:Cx} {tg o:Expr} {fo:Fe} {apos cpos:Pos}
noncomputable def Dg:PyData->R (List PyData)
  | .dict kvs=>if mG kvs=true then .no else .ok (kvs.map (·.1))
  | _=>.no
noncomputable def DC:PyData->R (List PyData)
  | .dict kvs=>if mG kvs=true then .no else .ok (kvs.map (·.2))
  | _=>.no
noncomputable def FV (f:Fe):aT->R (List PyData):=fun ρ=>f ρ>>=Dg
noncomputable def F1 (f:Fe):aT->R (List PyData):=fun ρ=>f ρ>>=DC
end
end D2
namespace HT
open PySem PySem.Spec PyProof.Rows L2
section
open PySem.SeqAt
open PySem.AutoSeq1 (wpAny_loadPart')
open PySem.MeetsSeq PySem.MeetsSeq2 PySem.MeetsSeq3
end
end HT
namespace D2
open PySem PySem.Spec PyProof.Rows L2
section
variable {X:Cx} {tg a b c:Expr} {fa fb fc:Fe} {pos p2:Pos} {nl:Nat} {G:List Str} {x:Str} {p:Pos} {fs:aT->R (List PyData)}
noncomputable def FM (lo:Int) (n:Nat):List PyData:=(List.range n).map fun (k:Nat)=>.int (lo-k)
noncomputable def FO:List PyData->R (List PyData)
  | [.int i,.int j,.int k]=>if k=-1/\-(2 ^ 62)<=i/\i < 2 ^ 62/\-(2 ^ 62)<=j/\j < 2 ^ 62 then .ok (FM i (i-j).toNat) else .no
  | _=>.no
noncomputable def FT (fs:aT->R (List PyData)):aT->R (List PyData):=fun ρ=>fs ρ>>=FO
end
noncomputable def nV (H:Hp):List V->List (List Int)->Prop
  | [],rs=>rs=[]
  | v::vs,rs=>∃ a r rs',v=.ref a/\rs=r::rs'/\H a=some (.tup (r.map V.int))/\nV H vs rs'
theorem nV.len {H:Hp}:∀ {vs:List V} {rs:List (List Int)},nV H vs rs->vs.length=rs.length
  | [],rs,h=>by simp only [nV] at h;rw [h];rfl
  | v::vs,rs,h=>by
    simp only [nV] at h;obtain ⟨a,r,rs',_,rfl,_,t⟩:=h;rw [List.length_cons,List.length_cons,t.len]
noncomputable def GR (a b c:Int):Nat:=(if a < b then (b-a-1) / c+1 else 0).toNat
section
variable {X:Cx} {tg a b c:Expr} {fa fb fc:Fe} {pos p2:Pos} {nl:Nat} {G:List Str} {x:Str} {p:Pos} {fs:aT->R (List PyData)}
noncomputable abbrev DH (i j k:Int):Prop:=1<=k/\k < 1000000/\-(2 ^ 40)<=i/\i < 2 ^ 40/\-(2 ^ 40)<=j/\j < 2 ^ 40
noncomputable def GQ (lo st:Int) (n:Nat):List PyData:=(List.range n).map fun (k:Nat)=>.int (lo+k*st)
noncomputable def GS:List PyData->R (List PyData)
  | [.int i,.int j,.int k]=>if DH i j k then .ok (GQ i k (GR i j k)) else .no
  | _=>.no
noncomputable def FY (fs:aT->R (List PyData)):aT->R (List PyData):=fun ρ=>fs ρ>>=GS
end
end D2
namespace D2
open PySem PySem.Spec PyProof.Rows
noncomputable def Rs (xs:Array Nat):Prop:=∀ i j:Nat,i < j->j < xs.size->xs.getD i 0 < xs.getD j 0
theorem og {xs:Array Nat} (hr:Rs xs) (j:Nat):∀ (fuel lo hi:Nat),hi-lo<=fuel->lo<=hi->hi<=xs.size->(∀ i,i < lo->xs.getD i 0 < j)->(∀ i,hi<=i->i < xs.size->j<=xs.getD i 0) ->
    lo<=SetTable.below.go xs j fuel lo hi/\SetTable.below.go xs j fuel lo hi<=hi/\(∀ i,i < SetTable.below.go xs j fuel lo hi->xs.getD i 0 < j)/\(∀ i,SetTable.below.go xs j fuel lo hi<=i->i < xs.size->j<=xs.getD i 0)
  | 0,lo,hi,h,h1,h2,h3,h4=>by
    have:lo=hi:=by omega
    subst this;exact ⟨Nat.le_refl _,Nat.le_refl _,h3,h4⟩
  | fuel+1,lo,hi,h,h1,h2,h3,h4=>by
    unfold SetTable.below.go;by_cases hl:lo < hi
    · rw [if_pos hl];dsimp only;have hm:(lo+hi) / 2 < hi:=by omega
      have hm0:lo<=(lo+hi) / 2:=by omega
      have e:xs.getD ((lo+hi) / 2) j=xs.getD ((lo+hi) / 2) 0:=by
        have:(lo+hi) / 2 < xs.size:=by omega
        simp [Array.getD,this]
      rw [e];by_cases hx:xs.getD ((lo+hi) / 2) 0 < j
      · rw [if_pos hx];obtain ⟨a,b,c,d⟩:=og hr j fuel ((lo+hi) / 2+1) hi (by omega) (by omega) h2 (fun i hi'=>by
          by_cases z:i=(lo+hi) / 2
          · rw [z];exact hx
          · exact Nat.lt_trans (hr i ((lo+hi) / 2) (by omega) (by omega)) hx) h4
        exact ⟨by omega,b,c,d⟩
      · rw [if_neg hx];obtain ⟨a,b,c,d⟩:=og hr j fuel lo ((lo+hi) / 2) (by omega) hm0 (by omega) h3 (fun i hi' hs=>by
          by_cases z:i=(lo+hi) / 2
          · rw [z];omega
          · have:=hr ((lo+hi) / 2) i (by omega) hs;omega)
        exact ⟨a,by omega,c,d⟩
    · rw [if_neg hl];have:lo=hi:=by omega
      subst this;exact ⟨Nat.le_refl _,Nat.le_refl _,h3,h4⟩
theorem oh {xs:Array Nat} (hr:Rs xs) (j:Nat):SetTable.below xs j<=xs.size/\(∀ i,i < SetTable.below xs j->xs.getD i 0 < j)/\(∀ i,SetTable.below xs j<=i->i < xs.size->j<=xs.getD i 0):=by
  obtain ⟨_,b,c,d⟩:=og hr j xs.size 0 xs.size (by omega) (by omega) (Nat.le_refl _) (fun i h=>by omega) (fun i h1 h2=>by omega);exact ⟨b,c,d⟩
theorem zc {xs:Array Nat} (hr:Rs xs) {j p:Nat} (hp:p<=xs.size) (h1:∀ i,i < p->xs.getD i 0 < j) (h2:∀ i,p<=i->i < xs.size->j<=xs.getD i 0):SetTable.below xs j=p:=by
  obtain ⟨a,b,c⟩:=oh hr j;by_cases z:SetTable.below xs j < p
  · have q1:=h1 _ z;have q2:=c _ (Nat.le_refl _) (by omega);omega
  · by_cases z2:p < SetTable.below xs j
    · have q1:=b p z2;have q2:=h2 p (Nat.le_refl _) (by omega);omega
    · omega
theorem getD_some {xs:Array Nat} {i j:Nat} (h:xs[i]?=some j):i < xs.size/\xs.getD i 0=j:=by
  obtain ⟨h1,h2⟩:=Array.getElem?_eq_some_iff.mp h;exact ⟨h1,by simp [Array.getD,h1,h2]⟩
theorem qL {xs:Array Nat} {i:Nat} (h:i < xs.size):xs[i]?=some (xs.getD i 0):=by simp [Array.getD,h]
theorem xI {xs:Array Nat} (hr:Rs xs) {j:Nat} (hn:xs[SetTable.below xs j]?≠some j):Rs (SetTable.insertAt xs (SetTable.below xs j) j):=by
  obtain ⟨a,b,c⟩:=oh hr j;generalize hp:SetTable.below xs j=p at *;have c':∀ i,p<=i->i < xs.size->j < xs.getD i 0:=fun i h1 h2=>by
    have h3:=c i h1 h2;by_cases z:i=p
    · have:=qL h2;rw [z] at this h3 ⊢;rw [this] at hn;have:xs.getD p 0≠j:=fun q=>hn (by rw [q])
      omega
    · have:=hr p i (by omega) h2;have:=c p (Nat.le_refl _) (by omega);omega
  have sz:(SetTable.insertAt xs p j).size=xs.size+1:=by
    unfold SetTable.insertAt;simp;omega
  have at':∀ i,i < xs.size+1->(SetTable.insertAt xs p j).getD i 0=if i < p then xs.getD i 0 else if i=p then j else xs.getD (i-1) 0:=fun i hi=>by
    have e:(SetTable.insertAt xs p j)[i]?=some (if i < p then xs.getD i 0 else if i=p then j else xs.getD (i-1) 0):=by
      unfold SetTable.insertAt;by_cases h1:i < p
      · rw [if_pos h1,Array.getElem?_append_left (by simp;omega),Array.getElem?_push_lt (by simp;omega)];simp [Array.getD,show i < xs.size by omega]
      · by_cases h2:i=p
        · rw [if_neg h1,if_pos h2,Array.getElem?_append_left (by simp;omega)];have:((xs.extract 0 p).push j)[i]?=some j:=by
            have hsz:(xs.extract 0 p).size=i:=by rw [h2];simp;omega
            rw [Array.getElem?_push,if_pos hsz.symm]
          exact this
        · rw [if_neg h1,if_neg h2,Array.getElem?_append_right (by simp;omega)];simp only [Array.size_push,Array.size_extract];rw [Array.getElem?_extract];simp [Array.getD,show i-1 < xs.size by omega];refine ⟨by omega,?_⟩;rw [show p+(i-(min p xs.size+1))=i-1 by omega];simp [show i-1 < xs.size by omega]
    exact (getD_some e).2
  intro i k hik hk;rw [sz] at hk;rw [at' i (by omega),at' k hk];by_cases h1:i < p
  · rw [if_pos h1];by_cases h2:k < p
    · rw [if_pos h2];exact hr i k hik (by omega)
    · rw [if_neg h2];by_cases h3:k=p
      · rw [if_pos h3];exact b i h1
      · rw [if_neg h3];exact Nat.lt_trans (b i h1) (c' (k-1) (by omega) (by omega))
  · rw [if_neg h1,if_neg (show ¬ k < p by omega),if_neg (show ¬ k=p by omega)];by_cases h3:i=p
    · rw [if_pos h3];exact c' (k-1) (by omega) (by omega)
    · rw [if_neg h3];exact hr (i-1) (k-1) (by omega) (by omega)
theorem Ay (n:Nat):Rs (Array.range n):=fun i j h1 h2=>by
  simp at h2;simp [Array.getD,show i < n by omega,h2,h1]
theorem t6 {l:List Nat} (h:l.Pairwise (· < ·)):Rs l.toArray:=fun i j h1 h2=>by
  simp at h2;have:=List.pairwise_iff_getElem.mp h i j (by omega) h2 h1;simpa [Array.getD,show i < l.length by omega,h2] using this
theorem qK {t:SetTable} {j:Nat} (h:t.slot j=.empty\/t.slot j=.dummy):t.place[SetTable.below t.place j]?≠some j:=by
  intro z;unfold SetTable.slot at h;dsimp only at h;rw [z] at h;simp at h
theorem kG (t:SetTable) (hashAt:Nat->Int) (hh:Int):∀ (fuel:Nat) (p:SetTable.Probe) (j:Nat) (dm:Option Nat),(∀ d,p.dummy=some d->t.slot d=.dummy)->SetTable.probe.go t hashAt hh fuel p=some (.empty j dm)->t.slot j=.empty/\∀ d,dm=some d->t.slot d=.dummy
  | 0,p,j,dm,_,e=>by cases e
  | fuel+1,p,j,dm,h,e=>by
    have adv:∀ q:SetTable.Probe,(t.advance q).dummy=q.dummy:=fun q=>by
      unfold SetTable.advance;split <;> rfl
    unfold SetTable.probe.go at e;cases hs:t.slot p.j with
    | empty =>
      rw [hs] at e;dsimp only at e;injection e with e
      injection e with e1 e2
      subst e1 e2;exact ⟨hs,h⟩
    | dummy =>
      rw [hs] at e;dsimp only at e;refine kG t hashAt hh fuel _ j dm (fun d hd=>?_) e;rw [adv] at hd;injection hd with hd
      rw [<- hd];exact hs
    | live i =>
      rw [hs] at e;dsimp only at e;split at e
      · cases e
      · exact kG t hashAt hh fuel _ j dm (fun d hd=>h d (by rw [adv] at hd;exact hd)) e
theorem xD {t:SetTable} {h:Int} {slot:Nat} {wd:Bool} (e:t.freeSlot h=some (slot,wd)):t.place[SetTable.below t.place slot]?≠some slot:=by
  unfold SetTable.freeSlot at e;split at e
  · rename_i j dm hp;injection e with e
    injection e with e1 e2
    obtain ⟨h1,h2⟩:=kG t _ _ _ _ j dm (fun d hd=>by cases hd) hp;cases dm with
    | none =>
      have:j=slot:=e1;rw [<- this];exact qK (.inl h1)
    | some d =>
      have:d=slot:=e1;rw [<- this];exact qK (.inr (h2 d rfl))
  · cases e
noncomputable def w6 (b:Bool) (t:SetTable):Prop:=t.led=b/\Rs t.place
theorem iU {b:Bool} {t:SetTable} (h:w6 b t) (n:Nat):w6 b (t.standIn n):=⟨h.1,Ay n⟩
theorem xS {b:Bool} {t:SetTable} (h:w6 b t) (es:Array (Int×Value)) (hh:Int) (x:Value):w6 b (layNew t es hh x).2.1:=by
  unfold layNew;split
  · rename_i slot wd e;have hp:w6 b (t.put slot).1:=⟨h.1,xI h.2 (xD e)⟩
    dsimp only;unfold SetTable.orStandIn;split
    · exact hp
    · exact iU hp _
  · exact iU h _
theorem AA {b:Bool} {t:SetTable} (h:w6 b t) (es:Array (Int×Value)) (wanted:Nat):w6 b (relayAll t es wanted).2.1:=by
  unfold relayAll;split
  · rename_i t' order e;dsimp only;split
    · unfold SetTable.relaid SetTable.laid at e;simp only [Option.bind_eq_bind,Option.bind_eq_some_iff,Option.pure_def,Option.some.injEq] at e;obtain ⟨owner,_,e⟩:=e;injection e with e1 e2
      subst e1;refine ⟨h.1,?_⟩;dsimp only;refine t6 ?_;rw [List.pairwise_map,List.pairwise_filterMap];refine List.pairwise_lt_range.imp fun {a c} hac x hx y hy=>?_
      simp only [Option.map_eq_some_iff] at hx hy;obtain ⟨_,_,rfl⟩:=hx;obtain ⟨_,_,rfl⟩:=hy;exact hac
    · exact iU h _
  · exact iU h _
theorem Ap {b p:Bool} {t:SetTable} (h:w6 b t):w6 b { t with plain:=p }:=h
noncomputable def xO:Value->Int
  | .int n _=>n
  | _=>0
noncomputable def iY (es:Array (Int×Value)):List Int:=es.toList.map fun e=>xO e.2
theorem yq (es:Array (Int×Value)):(iY es).length=es.size:=by unfold iY;simp
theorem vE {xs ys:Array (Int×Value)} (p:xs.toList.Perm ys.toList):(iY xs).Perm (iY ys):=p.map _
section
variable (prog:Program) (w:World)
structure sA (h:Heap) (S:Addr) (led:Bool) (es:Array (Int×Value)) (t:SetTable):Prop where
  obj:∃ u ep,h.get? S=some u/\u.ExactSet/\u.data=.set es ep t
  elm:ElemsOf (intKind prog w) es.toList
  few:es.size < scanBound
  fit:t.fits es.size=true
  tab:w6 led t
noncomputable def nu (h:Heap) (S:Addr) (led:Bool) (l:List Int):Prop:=∃ es t,sA prog w h S led es t/\(iY es).Perm l
end
section
variable {prog:Program} {w:World} {A:Around} {E:Value->Shared->Prop} {s:Shared} {S:Addr} {led:Bool}
theorem rX {k:Int} {v:Value} (q:(intKind prog w).is k v=true):xO v=k:=by
  obtain ⟨_,rfl⟩:=Value.isInt_shape (k:=k) (v:=v) q;rfl
theorem sA.mem {h:Heap} {es:Array (Int×Value)} {t:SetTable} (I:sA prog w h S led es t) (k:Int):k∈iY es<->(es.toList.findIdx? fun e=>(intKind prog w).is k e.2).isSome=true:=by
  rw [List.findIdx?_isSome,List.any_eq_true];unfold iY;rw [List.mem_map];constructor
  · rintro ⟨e,me,rfl⟩;obtain ⟨⟨j,isj,_⟩,_⟩:=I.elm e me;exact ⟨e,me,by rw [rX isj];exact isj⟩
  · rintro ⟨e,me,isk⟩;exact ⟨e,me,rX isk⟩
theorem sA.put {es ys:Array (Int×Value)} {t r:SetTable} {Q:Unit->Shared->Prop} (I:sA prog w s.heap S led es t) (hi:ElemsOf (intKind prog w) ys.toList) (hs:ys.size < scanBound) (hf:r.fits ys.size=true) (ht:w6 led r)
    (q:∀ g:Heap,Heap.SameBut S s.heap g->sA prog w g S led ys r->Q () { s with heap:=g }):wpAny (model prog w) A (storeSet S ys r) Q E s:=by
  obtain ⟨u,ep,hu,hx,hd⟩:=I.obj;refine wpAny_storeSet_of hu hd (q _ (Heap.SameBut.update _ S _) ⟨⟨{ u with data:=.set ys (ep+1) r },ep+1,?_,hx,rfl⟩,hi,hs,hf,ht⟩) (fits_of_scanBound hs);have z:=Heap.get?_update_self (Obj.putSet ys r) hu (by rw [putSet_of ys r hd];rfl)
  rwa [putSet_of ys r hd] at z
theorem sA.grow {gw:Bool->Sem Unit} (hgw:∀ (b:Bool) (s₁:Shared) (Q':Unit->Shared->Prop),Q' () s₁->wpAny (model prog w) A (gw b) Q' E s₁)
    {es ys:Array (Int×Value)} {t r:SetTable} (I:sA prog w s.heap S led es t) (hi:ElemsOf (intKind prog w) ys.toList) (hs:ys.size < scanBound) (hf:r.fits ys.size=true) (ht:w6 led r) {d:Bool} {R:Option Bool->Shared->Prop}
    (q:∀ (g:Heap) (zs:Array (Int×Value)) (v:SetTable),Heap.SameBut S s.heap g->sA prog w g S led zs v->(iY zs).Perm (iY ys)->R (some true) { s with heap:=g }) :
    wpAny (model prog w) A (storeSet S ys r>>=fun _=>if (!d&&r.tooFull)=true then (gw (relayAll r ys (SetTable.grown ys.size)).2.2>>=fun _=>storeSet S (relayAll r ys (SetTable.grown ys.size)).1 (relayAll r ys (SetTable.grown ys.size)).2.1>>=fun _=>pure (some true)) else pure (some true)) R E s:=by
  refine wpAny_bind (I.put hi hs hf ht fun g1 k1 I1=>?_);by_cases full:(!d&&r.tooFull)=true
  · rw [if_pos full];have pm:=relayAll_perm r ys (SetTable.grown ys.size);have ft:=relayAll_fits r ys (SetTable.grown ys.size);have tb:=AA ht ys (SetTable.grown ys.size);have ln:(relayAll r ys (SetTable.grown ys.size)).1.size=ys.size:=by simpa using pm.length_eq
    exact wpAny_bind (hgw _ _ _ (wpAny_bind (I1.put (hi.perm pm) (by rw [ln];exact hs) ft tb fun g2 k2 I2=>wpAny_pure (q g2 _ _ (k1.trans k2) I2 (vE pm)))))
  · rw [if_neg full];exact wpAny_pure (q g1 ys r k1 I1 (List.Perm.refl _))
theorem uT {l:List Int} {k:Int} {x:Value} {Q:Bool->Shared->Prop} (isx:(intKind prog w).is k x=true) (sc:x.scannable=true) (X:nu prog w s.heap S led l) (room:l.length+1 < scanBound)
    (q:∀ (b:Bool) (g:Heap),Heap.SameBut S s.heap g->nu prog w g S led (step_dedup l k)->Q b { s with heap:=g }):wpAny (model prog w) A (setAddHashed S x ((intKind prog w).hash k)) Q E s:=by
  obtain ⟨es,t,I,pm⟩:=X;have ln:es.size=l.length:=by rw [<- yq];exact pm.length_eq
  obtain ⟨u,ep,hu,hx,hd⟩:=I.obj;have hin:l.any (·==k)=(es.toList.findIdx? fun e=>(intKind prog w).is k e.2).isSome:=by
    rw [Bool.eq_iff_iff,<- I.mem k,pm.mem_iff,List.any_eq_true];exact ⟨fun ⟨y,my,e⟩=>by rw [<- of_decide_eq_true e];exact my,fun m=>⟨k,m,by simp⟩⟩
  unfold setAddHashed setAddHashedIn setAddByScan;apply wpAny_holding;apply wpAny_bind;apply wpAny_setState_of hu hd I.fit;dsimp only;rw [if_pos (byScan_of sc I.few I.elm)];apply wpAny_bind;apply wpAny_bind;apply wpAny_rule;apply wpAny_bind;apply wpAny_setScan_of isx hu hd I.fit I.elm;cases fi:es.toList.findIdx? fun e=>(intKind prog w).is k e.2 with
  | some j =>
    rw [fi,Option.isSome_some] at hin;refine wpAny_pure (wpAny_pure ?_);exact q false s.heap (Heap.SameBut.refl S _) ⟨es,t,I,by unfold step_dedup;rw [if_pos hin];exact pm⟩
  | none =>
    rw [fi] at hin;have sd:step_dedup l k=l++[k]:=by unfold step_dedup;rw [if_neg (by rw [hin];simp)]
    have lp:=layNew_perm t es ((intKind prog w).hash k) x;have lf:=layNew_fits t es ((intKind prog w).hash k) x;have lt:=xS I.tab es ((intKind prog w).hash k) x;revert lp lf lt;generalize layNew t es ((intKind prog w).hash k) x=N;obtain ⟨ys,r,d,gave⟩:=N;intro lp lf lt;dsimp only at lp lf lt ⊢;rw [Array.toList_push] at lp;have yi:ElemsOf (intKind prog w) ys.toList:=ElemsOf.perm (ElemsOf.push I.elm isx sc) lp;have yl:ys.size=es.size+1:=by simpa using lp.length_eq
    have ys':ys.size < scanBound:=by omega
    have yp:(iY ys).Perm (step_dedup l k):=by
      rw [sd];refine (lp.map fun e=>xO e.2).trans ?_;rw [List.map_append,List.map_singleton,rX isx];exact pm.append_right [k]
    have gw:∀ (b:Bool) (s₁:Shared) (Q':Unit->Shared->Prop),Q' () s₁->wpAny (model prog w) A (match b with | true=>rule "set.scan.the-table-gave-way" | false=>pure ()) Q' E s₁:=fun b s₁ Q' h=>by
      cases b
      · exact wpAny_pure h
      · exact wpAny_rule h
    have fin:∀ (g:Heap) (zs:Array (Int×Value)) (v:SetTable),Heap.SameBut S s.heap g->sA prog w g S led zs v->(iY zs).Perm (iY ys)->Q true { s with heap:=g }:=fun g zs v k1 J p=>q true g k1 ⟨zs,v,J,p.trans yp⟩
    apply wpAny_bind;apply gw;have done:∀ r':SetTable,r'.fits ys.size=true->w6 led r'->wpAny (model prog w) A (storeSet S ys r'>>=fun _=>if (!d&&r'.tooFull)=true then ((match (relayAll r' ys (SetTable.grown ys.size)).2.2 with | true=>rule "set.scan.the-table-gave-way" | false=>pure ())>>=fun _=>storeSet S (relayAll r' ys (SetTable.grown ys.size)).1 (relayAll r' ys (SetTable.grown ys.size)).2.1>>=fun _=>pure (some true)) else pure (some true))
        (fun o s'=>wpAny (model prog w) A (match o with | some added=>pure added | none=>setAddHashedIn S x ((intKind prog w).hash k) 99999) Q E s') E s:=fun r' f' t' =>
      sA.grow (gw:=fun b=>match b with | true=>rule "set.scan.the-table-gave-way" | false=>pure ()) gw I yi ys' f' t' fun g zs v k1 J p=>wpAny_pure (fin g zs v k1 J p)
    cases pl:r.plain with
    | true =>
      rw [hashByValue_scannable 8 sc];apply wpAny_bind;apply wpAny_pure;cases plainKind x with
      | true=>exact done r lf lt
      | false=>exact done { r with plain:=false } (SetTable.fits_plain_off lf) (Ap lt)
    | false =>
      apply wpAny_bind;apply wpAny_pure;exact done r lf lt
end
section
variable {prog:Program} {w:World} {A:Around} {E:Value->Shared->Prop} {s:Shared} {R:Result->Shared->Prop} {I S:Addr} {fp wr:List Addr} {G:Array GenState->Array GenState->Prop} {n:Nat} {P:Nat->Value->Prop} {St:Nat->Shared->Prop} {led:Bool}
theorem nu.moved {s s':Shared} {wr:List Addr} {l:List Int} (X:nu prog w s.heap S led l) (hS:S∉wr) (m:Moved wr G s s'):nu prog w s'.heap S led l:=by
  obtain ⟨es,t,J,pm⟩:=X;obtain ⟨u,ep,hu,r⟩:=J.obj;exact ⟨es,t,⟨⟨u,ep,m.heap S u hS hu,r⟩,J.elm,J.few,J.fit,J.tab⟩,pm⟩
theorem xA (W:WalksS prog w A.in1 I fp wr G n P St) (out:S∉fp) (f:Nat->Int) (hf:∀ i v,P i v->∃ tk,v=.int (f i) tk) (room:n+1 < scanBound):∀ (m i:Nat) (s:Shared),n-i=m->i<=n->St i s->nu prog w s.heap S led (firstMet f i) ->
    (∀ s',Moved (S::wr) G s s'->nu prog w s'.heap S led (firstMet f n)->R (.ok (.ret .none)) s')->codeAny (model prog w) A (.builtin "set.update.loop" ⟨[.ref S,.ref I],[]⟩) R s:=by
  have outw:S∉wr:=fun z=>out (W.sub _ z)
  have wid:∀ {a b:Shared},Moved wr G a b->Moved (S::wr) G a b:=fun m=>m.mono fun b hb=>List.mem_cons_of_mem _ hb
  intro m;induction m with
  | zero =>
    intro i s e1 e2 st X fin;obtain rfl:i=n:=by omega
    refine codeAny_builtin PyProof.Rows.F.entry_set_update_loop ?_;rw [Around.under_plainId PyProof.Rows.F.plain_set_update_loop _];show wpAny _ A.in1 (pyNext (.ref I)>>=_) _ _ s;exact wpAny_bind (W.done s _ _ st fun s' mv=>wpAny_pure (fin s' (wid mv) (X.moved outw mv)))
  | succ m ih =>
    intro i s e1 e2 st X fin;have lt:i < n:=by omega
    refine codeAny_builtin PyProof.Rows.F.entry_set_update_loop ?_;rw [Around.under_plainId PyProof.Rows.F.plain_set_update_loop _];show wpAny _ A.in1 (pyNext (.ref I)>>=_) _ _ s;apply wpAny_bind;apply W.item i s _ _ lt st;intro v s1 hv st1 mv;obtain ⟨tk,rfl⟩:=hf i v hv;have X1:=X.moved outw mv;show wpAny _ A.in1 (holding [Value.int (f i) tk] (setAdd S (.int (f i) tk))>>=_) _ _ s1;apply wpAny_bind;apply wpAny_holding;unfold setAdd;apply wpAny_holding;apply wpAny_bind;apply (intKind prog w).pyHash (k:=f i) (intKind_is _ _ _ _);have few:(firstMet f i).length+1 < scanBound:=by have:=firstMet_length_le f i;omega
    refine uT (s:={ s1 with toks:=s1.toks+1 }) (intKind_is _ _ _ _) rfl X1 few fun _ g kp X2=>?_
    rw [<- firstMet_succ] at X2;have kpo:∀ b o,b≠S->s1.heap.get? b=some o->g.get? b=some o:=fun b o ne e=>by rw [kp.2 b ne];exact e
    refine wpAny_pure ⟨plainId_quiet PyProof.Rows.F.plain_set_update_loop _,ih (i+1) _ (by omega) lt (W.frame _ s1 _ _ st1 (Nat.le_succ _) fun b hb o e=>kpo b o (fun z=>out (z ▸ hb)) e) X2 fun s2 mv2 X3=>fin s2 ?_ X3⟩;exact Moved.trans W.gtrans ((wid mv).then_heap (Nat.le_succ _) fun b o hb e=>kpo b o (fun z=>hb (z ▸ List.mem_cons_self)) e) mv2
noncomputable def lZ (w:World):Bool:=w.params.followText "set-order"
noncomputable abbrev nA (led:Bool):Obj:={ cls:=.type "set",dict:=none,data:=.set #[] 0 (.fresh 0 0 led) }
theorem Ga {h:Heap} {led:Bool} (e:h.get? S=some (nA led)):nu prog w h S led [] :=
  ⟨#[],.fresh 0 0 led,⟨⟨_,0,e,⟨rfl,rfl,rfl⟩,rfl⟩,fun q hq=>by simp at hq,by decide,by rfl,rfl,fun i j _ h=>by simp [SetTable.fresh] at h⟩,List.Perm.refl _⟩
theorem zi (a:Value) {Q:Value->Shared->Prop} (q:Q (.ref s.heap.objs.size) { s with heap:=s.heap.push (nA (!lZ w)) }):codeAny (model prog w) A (.call (.builtin "set.__new__") ⟨[.type "set",a],[]⟩) (wants Q E) s:=by
  refine codeAny_of_tree ?_;show wpAny _ A.in1 (checkBuiltinCall "set.__new__" ⟨[.type "set",a],[]⟩>>=fun _=>again (.builtin "set.__new__" ⟨[.type "set",a],[]⟩)) _ _ s;refine wpAny_bind (wpAny_of_eq (PySem.F.newCall_set_1 a) (wpAny_pure ⟨plainId_quiet PySem.F.plain_set_new _,codeAny_builtin PySem.F.entry_set_new ?_⟩));rw [Around.under_plainId PySem.F.plain_set_new _];unfold Builtin.«set.__new__» Builtin.Frozenset.newClass;have own:=sub_set_self;obtain ⟨h0,g0,d0,t0,o0⟩:=s;dsimp only
  wp_walk
  apply wpAny_askSetting;apply wpAny_pure;dsimp only [newObj];exact wpAny_bind (wpAny_alloc (wpAny_pure (wpAny_pure q)))
end
theorem tY:isSubtype (.type "list") (.type "set")=pure false:=by rw [isSubtype_type];kernel_rfl
theorem tX:isSubtype (.type "list") (.type "frozenset")=pure false:=by rw [isSubtype_type];kernel_rfl
theorem rZ:isSubtype (.type "tuple") (.type "set")=pure false:=by rw [isSubtype_type];kernel_rfl
theorem rY:isSubtype (.type "tuple") (.type "frozenset")=pure false:=by rw [isSubtype_type];kernel_rfl
section
variable {prog:Program} {w:World} {A:Around} {E:Value->Shared->Prop} {s:Shared}
structure HS (prog:Program) (w:World) (T:String) (a:Addr) (n:Nat) (f:Nat->Int) (OK:Heap->Prop):Prop where
  type:∀ s:Shared,OK s.heap->s.TypeIs (.ref a) T
  there:∀ h:Heap,OK h->a < h.objs.size
  push:∀ (h:Heap) (o:Obj),OK h->OK (h.push o)
  noS:isSubtype (.type T) (.type "set")=pure false
  noF:isSubtype (.type T) (.type "frozenset")=pure false
  noD:(Value.type T==Value.type "dict")=false
  iter:∀ (A:Around) (s:Shared),A.handled=none->OK s.heap->∃ (oI:Obj) (P:Nat->Value->Prop) (St:Nat->Heap->Prop),
    (∀ (E:Value->Shared->Prop) (Q:Value->Shared->Prop),Q (.ref s.heap.objs.size) { s with heap:=s.heap.push oI }->wpAny (model prog w) A.in1.in1 (pyIter (.ref a)) Q E s) /\
    Walks prog w A.in1.in1.in1 s.heap.objs.size [s.heap.objs.size,a] [s.heap.objs.size] n P St/\(∀ i v,P i v->∃ tk,v=.int (f i) tk)/\St 0 (s.heap.push oI)
theorem AL {a:Addr} {items:Array Value} {ns:List Int} (hi:IntsAre items.toList ns):HS prog w "list" a items.size (fun i=>ns.getD i 0) fun h=>h.IsList a items where
  type:=fun s h=>h.typeIs
  there:=fun h ⟨o,e,_⟩=>Heap.lt_size e
  push:=fun h o x=>x.push o
  noS:=tY
  noF:=tX
  noD:=by decide
  iter:=fun A s hh ok=>by
    have lt:a < s.heap.objs.size:=let ⟨o,e,_⟩:=ok;Heap.lt_size e
    refine ⟨_,_,_,fun E Q q=>wpAny_pyIter_list ok q,Walks.list (by simp [hh]) _ a (Nat.ne_of_lt lt) items,fun i v hv=>hi.int_at i v (by rw [Array.getElem?_toList];exact hv),⟨⟨_,Heap.get?_push_size _ rfl,rfl,rfl⟩,ok.push _⟩⟩
theorem yk {a:Addr} {items:Array Value} {ns:List Int} (hi:IntsAre items.toList ns):HS prog w "tuple" a items.size (fun i=>ns.getD i 0) fun h=>h.IsTuple a items where
  type:=fun s h=>h.typeIs
  there:=fun h ⟨o,e,_⟩=>Heap.lt_size e
  push:=fun h o x=>x.at fun u e=>Heap.get?_push_of_some _ e
  noS:=rZ
  noF:=rY
  noD:=by decide
  iter:=fun A s hh ok=>by
    have lt:a < s.heap.objs.size:=let ⟨o,e,_⟩:=ok;Heap.lt_size e
    refine ⟨_,_,_,fun E Q q=>wpAny_pyIter_tuple ok q,Walks.tuple (by simp [hh]) _ a (Nat.ne_of_lt lt) items,fun i v hv=>hi.int_at i v (by rw [Array.getElem?_toList];exact hv),⟨⟨_,Heap.get?_push_size _ rfl,rfl,rfl⟩,ok.at fun u e=>Heap.get?_push_of_some _ e⟩⟩
set_option maxHeartbeats 8000000 in
theorem tw {T:String} {a:Addr} {n:Nat} {f:Nat->Int} {OK:Heap->Prop} {Q:Value->Shared->Prop} (K:HS prog w T a n f OK) (hh:A.handled=none) (ok:OK s.heap) (few:n+1 < scanBound)
    (q:∀ (g:Heap) (tk:Nat),nu prog w g s.heap.objs.size (!lZ w) (firstMet f n)->(∀ b o,s.heap.get? b=some o->g.get? b=some o)->Q (.ref s.heap.objs.size) { s with heap:=g,toks:=tk }) :
    wpAny (model prog w) A (call (.type "set") [.ref a]) Q E s:=by
  have C:=PySem.F.called_set;obtain ⟨c0,tl,mro⟩:=C.mro;have made:=C.made;have sub:=C.sub;refine wpAny_call (codeAny_of_tree ?_);show wpAny _ _ (callAny (.type "set") _) _ _ _;refine wpAny_pure ⟨Code.quiet_builtin _ (by decide +kernel),codeAny_builtin PySem.F.entry_type_call ?_⟩;rw [Around.under_plain (weight_type_call_type "set" [.ref a] []) rfl];have n1:=C.notType;have n2:=C.canCreate;have n3:=PySem.F.typeCall_set_1 (.ref a)
  repeat (any_goals (first | assumption | wp_step))
  refine codeAny_mono (zi (.ref a) (E:=E) (Q:=fun v s1=>v=.ref s.heap.objs.size/\s1={ s with heap:=s.heap.push (nA (!lZ w)) }) ⟨rfl,rfl⟩) fun r s1 hr=>?_
  cases r with
  | error e=>exact hr
  | ok fl =>
    cases fl with
    | ret v =>
      obtain ⟨rfl,rfl⟩:=hr;have at0:(s.heap.push (nA (!lZ w))).get? s.heap.objs.size=some (nA (!lZ w)):=Heap.get?_push_size _ rfl;have ty0:Shared.TypeIs { s with heap:=s.heap.push (nA (!lZ w)) } (.ref s.heap.objs.size) "set" := ⟨_,at0,rfl⟩
      have l0:=C.init.lookup;have b0:=C.init.bind (.ref s.heap.objs.size)
      repeat (any_goals (first | assumption | wp_step))
      refine codeAny_mono (codeAny_call_builtin (R:=wants (fun r s2=>r=.none/\∃ g tk,s2={ s with heap:=g,toks:=tk }/\nu prog w g s.heap.objs.size (!lZ w) (firstMet f n)/\∀ b o,s.heap.get? b=some o->g.get? b=some o) E) C.init.plain PySem.F.entry_set_init (check_set_init_1 ty0 ?_)) fun r2 s2 hr2=>?_
      · have ok1:=K.push _ (nA (!lZ w)) ok;have ty1:Shared.TypeIs { s with heap:=s.heap.push (nA (!lZ w)) } (.ref a) T:=K.type _ ok1;have noS:=K.noS;have noF:=K.noF;have noD:=K.noD;have lta:=K.there _ ok;unfold Builtin.«set.__init__» noKeywords Builtin.Frozenset.updateFrom;generalize hPI:pyIter=PI
        wp_walk
        subst hPI;obtain ⟨oI,P,St,it,W,hP,st⟩:=K.iter A { s with heap:=s.heap.push (nA (!lZ w)) } hh ok1;apply it;refine wpAny_bind (wpAny_runValue ?_);have sz:(s.heap.push (nA (!lZ w))).objs.size=s.heap.objs.size+1:=Heap.size_push ..;have out:s.heap.objs.size∉[(s.heap.push (nA (!lZ w))).objs.size,a]:=by
          rw [sz];simp only [List.mem_cons,List.not_mem_nil,or_false,not_or];exact ⟨Nat.ne_of_lt (Nat.lt_succ_self _),Nat.ne_of_gt lta⟩
        refine xA W.toS out f hP few (n-0) 0 _ (by omega) (Nat.zero_le _) st (Ga (Heap.get?_push_of_some _ at0)) fun s3 mv X=>?_
        obtain ⟨g3,gn3,dr3,tk3,os3⟩:=s3;obtain rfl:gn3=s.gens:=mv.gens;obtain rfl:dr3=s.drawn:=mv.drawn;obtain rfl:os3=s.os:=mv.os;show wpAny _ _ _ _ _ _;refine wpAny_pure ?_;show wpAny _ _ (ret Value.none) _ _ _;refine wpAny_pure ⟨rfl,g3,tk3,rfl,X,fun b o e=>?_⟩;have ltb:=Heap.lt_size e;refine mv.heap b o ?_ (Heap.get?_push_of_some _ (Heap.get?_push_of_some _ e));show b∉[s.heap.objs.size,(s.heap.push (nA (!lZ w))).objs.size];rw [sz];simp only [List.mem_cons,List.not_mem_nil,or_false,not_or];exact ⟨Nat.ne_of_lt ltb,Nat.ne_of_lt (Nat.lt_succ_of_lt ltb)⟩
      · cases r2 with
        | error e=>exact hr2
        | ok fl2 =>
          cases fl2 with
          | ret r =>
            obtain ⟨rfl,g,tk,rfl,X,kp⟩:=hr2
            repeat (any_goals (first | assumption | wp_step))
            exact q _ _ X kp
          | _=>exact hr2.elim
    | _=>exact hr.elim
end
theorem lF:Slot "set_iterator" "__next__" "set_iterator.__next__" :=
  .of (owner := "set_iterator") (n := "__next__") (by rw [typeLookup_type,builtinLookup_eq_fast];kernel_rfl) (by decide +kernel) (by decide +kernel) (by decide +kernel) (by first | exact .inl (by decide +kernel) | exact .inr (by decide +kernel)) (by rw [isSubtype_type];kernel_rfl)
theorem AJ:entryFor table "set_iterator.__next__" = some Builtin.«set_iterator.__next__»:=entryFor_of_tree (by kernel_rfl)
theorem ui:Manifest.owners.lookup (String.ofList ['r','o','t','a','r','e','t','i','_','t','e','s'].reverse)=some Manifest.sig_set_iterator:=by kernel_rfl
theorem CF (a:Value):argsOk "set_iterator.__next__" ⟨[a],[]⟩:=by
  unfold argsOk;rw [signature?_of (id := "set_iterator.__next__") (n:=['_','_','t','x','e','n','_','_']) (o:=['r','o','t','a','r','e','t','i','_','t','e','s']) (by kernel_rfl) ui]
  kernel_rfl
theorem AM:entryFor table "set.__iter__" = some Builtin.«frozenset.__iter__»:=entryFor_alias (id' := "frozenset.__iter__") (by kernel_rfl) rfl (by decide +kernel) (by kernel_rfl)
theorem wL:Slot "set_iterator" "__iter__" "set_iterator.__iter__" :=
  .of (owner := "set_iterator") (n := "__iter__") (by rw [typeLookup_type,builtinLookup_eq_fast];kernel_rfl) (by decide +kernel) (by decide +kernel) (by decide +kernel) (by first | exact .inl (by decide +kernel) | exact .inr (by decide +kernel)) (by rw [isSubtype_type];kernel_rfl)
theorem CJ (a:Value):argsOk "set_iterator.__iter__" ⟨[a],[]⟩:=by
  unfold argsOk;rw [signature?_of (id := "set_iterator.__iter__") (n:=['_','_','r','e','t','i','_','_']) (o:=['r','o','t','a','r','e','t','i','_','t','e','s']) (by kernel_rfl) ui]
  kernel_rfl
theorem AQ:entryFor table "set_iterator.__iter__" = some Builtin.«dict_keyiterator.__iter__»:=entryFor_alias (id' := "dict_keyiterator.__iter__") (by kernel_rfl) rfl (by decide +kernel) (by kernel_rfl)
theorem AH {prog:Program} {w:World} {A:Around} {E:Value->Shared->Prop} {s:Shared} {r:Addr} {Q:Bool->Shared->Prop} (ty:s.TypeIs (.ref r) "set") (q:Q false s):wpAny (model prog w) A (Builtin.List.listLengthHint (.ref r)) Q E s:=by
  unfold Builtin.List.listLengthHint;apply wpAny_bind;apply wpAny_specialOf ty PySem.F.slot_set_len.lookup;generalize hi:("set.__len__" : String)=i0
  wp_delta
  rw [show splitId i0=some ("set","__len__") from by subst hi;decide +kernel];subst hi;apply wpAny_bind;apply wpAny_isInstance (T := "set") (b:=true) ty (by rw [isSubtype_type];kernel_rfl);refine wpAny_ite_split (fun z=>absurd z (by decide)) fun _=>?_
  refine wpAny_ite_split (fun _=>?_) fun z=>absurd (by decide +kernel) z
  exact wpAny_bind (wpAny_typeOf ty (wpAny_pure q))
section
variable {prog:Program} {w:World} {A:Around} {E:Value->Shared->Prop} {s:Shared} {S it:Addr} {es:Array (Int×Value)} {ep:Nat} {t:SetTable}
structure Si (h:Heap) (S:Addr) (es:Array (Int×Value)) (ep:Nat) (t:SetTable):Prop where
  obj:∃ u,h.get? S=some u/\u.ExactSet/\u.data=.set es ep t
  fit:t.fits es.size=true
theorem Si.keep {h g:Heap} (I:Si h S es ep t) (k:∀ u,h.get? S=some u->g.get? S=some u):Si g S es ep t:=by
  obtain ⟨u,hu,r⟩:=I.obj;exact ⟨⟨u,k u hu,r⟩,I.fit⟩
theorem Si.ty (I:Si s.heap S es ep t):s.TypeIs (.ref S) "set" := by
  obtain ⟨u,hu,x,_⟩:=I.obj;exact ⟨u,hu,x.1⟩
theorem Si.lt {h:Heap} (I:Si h S es ep t):S < h.objs.size:=by
  obtain ⟨u,hu,_⟩:=I.obj;exact Heap.lt_size hu
theorem Si.state {Q:(Array (Int×Value)×Nat×SetTable)->Shared->Prop} (I:Si s.heap S es ep t) (q:Q (es,ep,t) s):wpAny (model prog w) A (setState S) Q E s:=by
  obtain ⟨u,hu,_,hd⟩:=I.obj;exact wpAny_setState_of hu hd I.fit q
theorem kT {Q:Bool->Shared->Prop} (q:Q (lZ w) s):wpAny (model prog w) A setsByText Q E s:=by
  unfold setsByText;exact wpAny_bind (wpAny_askSetting (wpAny_pure q))
noncomputable def o1 (w:World) (S:Addr) (ep:Nat) (es:Array (Int×Value)):Array (Int×Value):=pickOrder (w.params.setOrder S ep) es
theorem qD {Q:Option (Value×Nat)->Shared->Prop} {slot i:Nat} (hb:lZ w=true) (I:Si s.heap S es ep t) (q:Q (((o1 w S ep es)[i]?).map fun e=>(e.2,slot)) s):wpAny (model prog w) A (setNext S slot i ep) Q E s:=by
  unfold setNext;apply wpAny_bind;apply I.state;dsimp only;apply wpAny_bind;apply kT;rw [if_pos hb];refine wpAny_ite_split (fun z=>absurd z (by simp)) fun _=>?_
  apply wpAny_bind;unfold setWalk;apply wpAny_bind;apply I.state;dsimp only;apply wpAny_bind;apply kT;rw [if_pos hb];exact wpAny_bind (wpAny_askSetting (wpAny_pure (wpAny_pure q)))
theorem qC {Q:Option (Value×Nat)->Shared->Prop} {slot i:Nat} (hb:lZ w=false) (hl:t.led=true) (hd:¬ ((!t.plain&&decide (es.size > 1))=true)) (I:Si s.heap S es ep t)
    (q:Q (match es[SetTable.below t.place slot]?,t.place[SetTable.below t.place slot]? with | some (_,x),some j=>some (x,j+1) | _,_=>none) s):wpAny (model prog w) A (setNext S slot i ep) Q E s:=by
  unfold setNext;apply wpAny_bind;apply I.state;dsimp only;apply wpAny_bind;apply kT;rw [hb];refine wpAny_ite_split (fun z=>absurd z (by simp)) fun _=>?_
  refine wpAny_ite_split (fun z=>absurd z hd) fun _=>?_
  apply wpAny_bind;show wpAny _ _ (if (!t.led&&!es.isEmpty)=true then unsupported "set:maker-not-led" else pure ()) _ _ _;rw [hl];refine wpAny_ite_split (fun z=>absurd z (by simp)) fun _=>?_
  exact wpAny_pure (wpAny_pure q)
end
section
variable {prog:Program} {w:World} {A:Around} {E:Value->Shared->Prop} {s:Shared} {S it:Addr} {es:Array (Int×Value)} {ep:Nat} {t:SetTable}
noncomputable abbrev xM (first:Value) (i n ep:Nat) (S:Addr):Obj:={ cls:=.type "set_iterator",data:=.fields #[first,.int i 0,.ref S,.int n 0,.int ep 0] }
theorem Si.count {Q:Array (Int×Value)->Shared->Prop} (I:Si s.heap S es ep t) (q:Q es s):wpAny (model prog w) A (setEntries S) Q E s:=by
  unfold setEntries;exact wpAny_bind (I.state (wpAny_pure q))
theorem nK {Q:Option Value->Shared->Prop} {o:Obj} (hit:s.heap.get? it=some o) (hc:o.cls=.type "set_iterator")
    (q:wpAny (model prog w) A.in1 (Builtin.«set_iterator.__next__» ⟨[.ref it],[]⟩) (fun fin s'=>∃ r,fin=.done (.ret r)/\Q (some r) s') (fun e s'=>wpAny (model prog w) A (isInstance e (.type "StopIteration")>>=fun b=>if b=true then pure none else throw e) Q E s') s) :
    wpAny (model prog w) A (pyNext (.ref it)) Q E s:=by
  have ty:s.TypeIs (.ref it) "set_iterator" := ⟨_,hit,hc⟩
  unfold pyNext;refine wpAny_bind (wpAny_attempt (wpAny_callSpecial?_slot (name:=Str.ofString "__next__") ty lF (wpAny_call_entry lF ty AJ ?_ (CF _))));refine wpAny_mono q (fun fin s' h=>?_) fun e s' h=>?_
  · obtain ⟨r,e,z⟩:=h;exact ⟨r,e,wpAny_pure z⟩
  · exact h
end
section
variable {prog:Program} {w:World} {A:Around} {E:Value->Shared->Prop} {s:Shared} {S it:Addr} {es:Array (Int×Value)} {ep:Nat} {t:SetTable}
theorem jP {o:Obj} {vs:Array Value} {k:Nat} {v:Value} {h:Heap} (ho:h.get? it=some o) (hd:o.data=.fields vs):(h.update it (Obj.mapFields (·.setIfInBounds k v))).get? it=some (Obj.mapFields (·.setIfInBounds k v) o) :=
  Heap.get?_update_self _ ho (Obj.isFreed_of_fields (Obj.data_mapFields hd _))
theorem wF {slot i nx:Nat} {x:Value} {Q:Option Value->Shared->Prop} (hit:s.heap.get? it=some (xM (.int slot 0) i es.size ep S)) (I:Si s.heap S es ep t)
    (hx:∀ (A':Around) (E':Value->Shared->Prop) (Q':Option (Value×Nat)->Shared->Prop),Q' (some (x,nx)) s->wpAny (model prog w) A' (setNext S slot i ep) Q' E' s)
    (q:∀ g,Heap.SameBut it s.heap g->g.get? it=some (xM (.int nx 0) (i+1) es.size ep S)->Q (some x) { s with heap:=g }):wpAny (model prog w) A (pyNext (.ref it)) Q E s:=by
  refine nK hit rfl ?_;unfold Builtin.«set_iterator.__next__»;refine wpAny_bind (wpAny_pure ?_);refine wpAny_bind (wpAny_fieldsOf hit rfl ?_);dsimp only;apply wpAny_bind;apply I.count;refine wpAny_ite_split (fun z=>absurd z (by simp)) fun _=>?_
  apply wpAny_bind;rw [show ((slot:Nat):Int).toNat=slot from rfl,show ((i:Nat):Int).toNat=i from rfl,show ((ep:Nat):Int).toNat=ep from rfl];apply hx;dsimp only;refine wpAny_bind (wpAny_setField hit rfl (by simp) ?_);have e1:=jP (k:=0) (v:=rawInt nx) hit rfl;refine wpAny_bind (wpAny_setField e1 rfl (by simp) ?_);have e2:=jP (k:=1) (v:=rawInt ((i:Int)+1)) e1 rfl;exact wpAny_pure ⟨x,rfl,q _ ((Heap.SameBut.update ..).trans (Heap.SameBut.update ..)) e2⟩
theorem uk {k:Nat} {v:Value} {vs:Array Value} {o:Obj} {Q:Option Value->Shared->Prop} (hh:A.handled=none) (hit:s.heap.get? it=some o) (hd:o.data=.fields vs) (hk:k < vs.size) (q:∀ g,Heap.ExtBut it s.heap g->Q none { s with heap:=g }) :
    wpAny (model prog w) A.in1 (setField (.ref it) k v>>=fun _=>newExc (.type "StopIteration") []>>=fun e=>(raiseNew e:Sem PySem.Fin)) (fun fin s'=>∃ r,fin=.done (.ret r)/\Q (some r) s')
      (fun e s'=>wpAny (model prog w) A (isInstance e (.type "StopIteration")>>=fun b=>if b=true then pure none else throw e) Q E s') s:=by
  refine wpAny_bind (wpAny_setField hit hd hk ?_);have k1:Heap.ExtBut it s.heap (s.heap.update it (Obj.mapFields (·.setIfInBounds k v))):=(Heap.SameBut.update ..).extBut;simp only [newExc,newTuple];refine wpAny_bind (wpAny_bind (wpAny_newObj_type ?_ (by size_fits)));refine wpAny_bind (m:=firstArgMember _ _) (wpAny_of_eq (a:=Value.none) (by first | rfl | (simp only [firstArgMember];rfl)) ?_);refine wpAny_newObj_type ?_ (by size_fits);simp only [raiseNew];refine wpAny_bind (wpAny_handled ?_);rw [show A.in1.handled=none from hh];refine wpAny_bind (wpAny_pure (wpAny_throw ?_));refine wpAny_bind (wpAny_isInstance (T := "StopIteration") (b:=true) ⟨_,Heap.get?_push_size _ rfl,rfl⟩ isSubtype_stop ?_);exact wpAny_pure (q _ ((k1.push _).push _))
theorem Aq {slot i:Nat} {Q:Option Value->Shared->Prop} (hh:A.handled=none) (hit:s.heap.get? it=some (xM (.int slot 0) i es.size ep S)) (I:Si s.heap S es ep t)
    (hx:∀ (A':Around) (E':Value->Shared->Prop) (Q':Option (Value×Nat)->Shared->Prop),Q' none s->wpAny (model prog w) A' (setNext S slot i ep) Q' E' s)
    (q:∀ g,Heap.ExtBut it s.heap g->Q none { s with heap:=g }):wpAny (model prog w) A (pyNext (.ref it)) Q E s:=by
  refine nK hit rfl ?_;unfold Builtin.«set_iterator.__next__»;refine wpAny_bind (wpAny_pure ?_);refine wpAny_bind (wpAny_fieldsOf hit rfl ?_);dsimp only;apply wpAny_bind;apply I.count;refine wpAny_ite_split (fun z=>absurd z (by simp)) fun _=>?_
  apply wpAny_bind;rw [show ((slot:Nat):Int).toNat=slot from rfl,show ((i:Nat):Int).toNat=i from rfl,show ((ep:Nat):Int).toNat=ep from rfl];apply hx;dsimp only;exact uk (k:=2) (v:=.none) hh hit rfl (by simp) q
end
section
variable {prog:Program} {w:World} {A:Around} {E:Value->Shared->Prop} {s:Shared} {S it T:Addr} {es:Array (Int×Value)} {ep:Nat} {t:SetTable}
noncomputable abbrev Ba (pl:List Nat):Obj:={ cls:=.type "tuple",data:=.seq (pl.map fun (p:Nat)=>rawInt p).toArray }
theorem By {i p:Nat} {pl:List Nat} {e:Int×Value} {Q:Option Value->Shared->Prop} (hit:s.heap.get? it=some (xM (.ref T) i es.size ep S)) (hT:s.heap.get? T=some (Ba pl)) (I:Si s.heap S es ep t) (hp:pl[i]?=some p) (he:es[p]?=some e)
    (q:∀ g,Heap.SameBut it s.heap g->g.get? it=some (xM (.ref T) (i+1) es.size ep S)->Q (some e.2) { s with heap:=g }):wpAny (model prog w) A (pyNext (.ref it)) Q E s:=by
  refine nK hit rfl ?_;unfold Builtin.«set_iterator.__next__»;refine wpAny_bind (wpAny_pure ?_);refine wpAny_bind (wpAny_fieldsOf hit rfl ?_);dsimp only;apply wpAny_bind;apply I.count;refine wpAny_ite_split (fun z=>absurd z (by simp)) fun _=>?_
  refine wpAny_bind (wpAny_seqItems hT rfl ?_);dsimp only;have e0:((pl.map fun (p:Nat)=>rawInt p).toArray)[((i:Nat):Int).toNat]?=some (rawInt p):=by
    rw [Int.toNat_natCast];simp [hp]
  rw [e0];dsimp only [rawInt];apply wpAny_bind;unfold setNextDrawn;apply wpAny_bind;apply I.state;dsimp only;refine wpAny_ite_split (fun z=>absurd z (by simp)) fun _=>?_
  rw [Int.toNat_natCast,he];obtain ⟨hh0,x⟩:=e;dsimp only;refine wpAny_pure ?_;refine wpAny_bind (wpAny_setField hit rfl (by simp) ?_);have e2:=jP (k:=1) (v:=rawInt ((i:Int)+1)) hit rfl;exact wpAny_pure ⟨x,rfl,q _ (Heap.SameBut.update ..) e2⟩
theorem D1 {i:Nat} {pl:List Nat} {Q:Option Value->Shared->Prop} (hh:A.handled=none) (hit:s.heap.get? it=some (xM (.ref T) i es.size ep S)) (hT:s.heap.get? T=some (Ba pl)) (I:Si s.heap S es ep t) (hp:pl[i]?=none)
    (q:∀ g,Heap.ExtBut it s.heap g->Q none { s with heap:=g }):wpAny (model prog w) A (pyNext (.ref it)) Q E s:=by
  refine nK hit rfl ?_;unfold Builtin.«set_iterator.__next__»;refine wpAny_bind (wpAny_pure ?_);refine wpAny_bind (wpAny_fieldsOf hit rfl ?_);dsimp only;apply wpAny_bind;apply I.count;refine wpAny_ite_split (fun z=>absurd z (by simp)) fun _=>?_
  refine wpAny_bind (wpAny_seqItems hT rfl ?_);dsimp only;have e0:((pl.map fun (p:Nat)=>rawInt p).toArray)[((i:Nat):Int).toNat]?=none:=by
    rw [Int.toNat_natCast];simp at hp ⊢;omega
  rw [e0];dsimp only;refine wpAny_bind (wpAny_setField hit rfl (by simp) ?_);have e1:=jP (k:=0) (v:=rawInt 0) hit rfl;refine uk (s:={ s with heap:=_ }) (k:=2) (v:=.none) hh e1 rfl (by simp) fun g k=>q g fun b o ne e=>k b o ne ((Heap.SameBut.update s.heap it _).extBut b o ne e)
theorem ku {β:Type}:∀ (l:List β) (i:Nat) (h:i < l.length),(l[i]::l.eraseIdx i).Perm l
  | x::l,0,_=>List.Perm.refl _
  | x::l,i+1,h=>(List.Perm.swap x _ _).trans ((ku l i (by simpa using h)).cons x)
theorem oz {β:Type}:∀ (n:Nat) (xs:List β) (s:Shared) (Q:List β->Shared->Prop),xs.length=n->(∀ (ys:List β) (d:_),ys.Perm xs->Q ys { s with drawn:=d })->wpAny (model prog w) A (drawOrder n xs) Q E s
  | 0,xs,s,Q,hl,q=>by
    have:xs=[]:=List.length_eq_zero_iff.mp hl;subst this;exact wpAny_pure (q [] s.drawn (List.Perm.refl _))
  | n+1,[],s,Q,hl,q=>by cases hl
  | n+1,x::xs,s,Q,hl,q=>by
    unfold drawOrder;have key:∀ (i:Nat) (d:_),i < (x::xs).length->wpAny (model prog w) A (match (x::xs)[i]? with | some y=>(drawOrder n ((x::xs).eraseIdx i)>>=fun r=>pure (y::r)) | none=>unsupported "internal:drawOrder") Q E { s with drawn:=d }:=fun i d lt=>by
      rw [List.getElem?_eq_getElem lt];dsimp only;refine wpAny_bind (oz n ((x::xs).eraseIdx i) { s with drawn:=d } _ ?_ fun ys d' pm=>wpAny_pure (q _ d' ?_))
      · rw [List.length_eraseIdx_of_lt lt,hl];rfl
      · refine (pm.cons _).trans ?_;exact ku _ _ lt
    refine wpAny_bind (m:=choose .order (x::xs).length) ?_;intro Γ p hΓ;show Sem.wp _ Γ (.choose .order (x::xs).length .pure) _ _ p s;rw [Sem.wp_choose];refine ⟨by simp,?_⟩;exact (show wpAny (model prog w) A _ Q E _ from key _ _ (Nat.mod_lt _ (by simp)))
end
theorem wE {β:Type} (next:Nat->Nat):∀ (fuel k:Nat) (left:List β) (out:Array β),left.length=fuel->((pickOrder.go next fuel k left out).toList).Perm (out.toList++left)
  | 0,k,left,out,h=>by
    have:left=[]:=List.length_eq_zero_iff.mp h;subst this;unfold pickOrder.go;rw [List.append_nil]
  | fuel+1,k,left,out,h=>by
    unfold pickOrder.go;have lt:next k%left.length < left.length:=Nat.mod_lt _ (by omega)
    rw [List.getElem?_eq_getElem lt];dsimp only;refine (wE next fuel (k+1) _ _ (by rw [List.length_eraseIdx_of_lt lt,h];rfl)).trans ?_;rw [Array.toList_push,List.append_assoc];exact List.Perm.append_left _ (ku left _ lt)
theorem yb {β:Type} (next:Nat->Nat) (xs:Array β):(pickOrder next xs).toList.Perm xs.toList:=by
  unfold pickOrder;have:=wE next xs.size 0 xs.toList #[] (by simp)
  simpa using this
theorem lv (w:World) (S:Addr) (ep:Nat) (es:Array (Int×Value)):(o1 w S ep es).toList.Perm es.toList:=yb _ es
section
variable {prog:Program} {w:World} {A:Around} {E:Value->Shared->Prop} {s:Shared} {S I T:Addr} {es:Array (Int×Value)} {ep:Nat} {t:SetTable}
theorem rW {first:Value} {i n:Nat} {Q:Value->Shared->Prop} (hit:s.heap.get? I=some (xM first i n ep S)) (q:Q (.ref I) s):wpAny (model prog w) A (pyIter (.ref I)) Q E s:=by
  have ty:s.TypeIs (.ref I) "set_iterator" := ⟨_,hit,rfl⟩
  refine wpAny_pyIter_slot ty wL (wpAny_call_entry wL ty AQ ?_ (CJ _));show wpAny _ _ (ret (.ref I)) _ _ s;exact wpAny_pure ⟨_,rfl,"set_iterator",_,ty,lF.lookup,q⟩
theorem yy (hh:A.handled=none) (hb:lZ w=true) (ne:S≠I):Walks prog w A I [I,S] [I] es.size (fun i v=>((o1 w S ep es).toList.map (·.2))[i]?=some v) (fun i h=>h.get? I=some (xM (.int (0:Nat) 0) i es.size ep S)/\Si h S es ep t) where
  sub:=fun b hb=>by simp at hb;simp [hb]
  frame:=fun i h g st k=>⟨k I (by simp) _ st.1,st.2.keep fun u e=>k S (by simp) u e⟩
  item:=fun i s Q E lt st q=>by
    have ln:(o1 w S ep es).toList.length=es.size:=by rw [(lv w S ep es).length_eq];simp
    have lt':i < (o1 w S ep es).toList.length:=by rw [ln];exact lt
    have e0:(o1 w S ep es)[i]?=some ((o1 w S ep es).toList[i]):=by rw [<- Array.getElem?_toList];exact List.getElem?_eq_getElem lt'
    refine wF (nx:=0) (x:=((o1 w S ep es).toList[i]).2) st.1 st.2 (fun A' E' Q' z=>qD hb st.2 (by rw [e0];exact z)) fun g k e=>?_
    exact q _ g s.toks (by rw [List.getElem?_map,List.getElem?_eq_getElem lt'];rfl) ⟨e,st.2.keep fun u hu=>by rw [k.2 S ne];exact hu⟩ fun b o nb hb'=>by rw [k.2 b (by simpa using nb)];exact hb'
  done:=fun s Q E st q=>by
    have ln:(o1 w S ep es).size=es.size:=by have:=(lv w S ep es).length_eq;simpa using this
    refine Aq hh st.1 st.2 (fun A' E' Q' z=>qD hb st.2 (by rw [Array.getElem?_eq_none (by rw [ln];exact Nat.le_refl _)];exact z)) fun g k=>q g s.toks fun b o nb hb'=>k b o (by simpa using nb) hb'
  self:=fun i s Q E st q=>rW st.1 q
noncomputable def pe (t:SetTable) (i:Nat):Nat:=if i=0 then 0 else t.place.getD (i-1) 0+1
theorem pf (hr:Rs t.place) {i:Nat} (hi:i<=t.place.size):SetTable.below t.place (pe t i)=i:=by
  refine zc hr hi (fun k hk=>?_) fun k h1 h2=>?_
  · unfold pe;rw [if_neg (by omega)];by_cases z:k=i-1
    · rw [z];omega
    · have:=hr k (i-1) (by omega) (by omega);omega
  · unfold pe;by_cases z:i=0
    · rw [if_pos z];exact Nat.zero_le _
    · rw [if_neg z];exact hr (i-1) k (by omega) h2
theorem yx (hh:A.handled=none) (hb:lZ w=false) (ne:S≠I) (hl:t.led=true) (hr:Rs t.place) (hf:t.fits es.size=true) (hd:¬ ((!t.plain&&decide (es.size > 1))=true)) :
    Walks prog w A I [I,S] [I] es.size (fun i v=>(es.toList.map (·.2))[i]?=some v) (fun i h=>h.get? I=some (xM (.int (pe t i:Nat) 0) i es.size ep S)/\Si h S es ep t) where
  sub:=fun b hb=>by simp at hb;simp [hb]
  frame:=fun i h g st k=>⟨k I (by simp) _ st.1,st.2.keep fun u e=>k S (by simp) u e⟩
  item:=fun i s Q E lt st q=>by
    have ps:t.place.size=es.size:=by unfold SetTable.fits at hf;simp at hf;exact hf.1
    have bl:=pf hr (i:=i) (by omega);have e0:es[i]?=some es[i]:=Array.getElem?_eq_getElem lt;have e1:t.place[i]?=some (t.place.getD i 0):=qL (by omega);refine wF (nx:=t.place.getD i 0+1) (x:=es[i].2) st.1 st.2 (fun A' E' Q' z=>qC hb hl hd st.2 (by rw [bl,e0,e1];exact z)) fun g k e=>?_
    exact q _ g s.toks (by rw [List.getElem?_map,List.getElem?_eq_getElem (by simpa using lt)];simp) ⟨e,st.2.keep fun u hu=>by rw [k.2 S ne];exact hu⟩ fun b o nb hb'=>by rw [k.2 b (by simpa using nb)];exact hb'
  done:=fun s Q E st q=>by
    have ps:t.place.size=es.size:=by unfold SetTable.fits at hf;simp at hf;exact hf.1
    have bl:=pf hr (i:=es.size) (by omega);refine Aq hh st.1 st.2 (fun A' E' Q' z=>qC hb hl hd st.2 (by rw [bl,Array.getElem?_eq_none (Nat.le_refl _)];exact z)) fun g k=>q g s.toks fun b o nb hb'=>k b o (by simpa using nb) hb'
  self:=fun i s Q E st q=>rW st.1 q
theorem vL (hh:A.handled=none) (ne:S≠I) (neT:T≠I) {pl:List Nat} (hp:pl.Perm (List.range es.size)) :
    Walks prog w A I [I,S,T] [I] es.size (fun i v=>(pl.map fun p=>(es.getD p (0,.none)).2)[i]?=some v) (fun i h=>h.get? I=some (xM (.ref T) i es.size ep S)/\h.get? T=some (Ba pl)/\Si h S es ep t) where
  sub:=fun b hb=>by simp at hb;simp [hb]
  frame:=fun i h g st k=>⟨k I (by simp) _ st.1,k T (by simp) _ st.2.1,st.2.2.keep fun u e=>k S (by simp) u e⟩
  item:=fun i s Q E lt st q=>by
    have ln:pl.length=es.size:=by rw [hp.length_eq];simp
    have lt':i < pl.length:=by omega
    have mp:pl[i] < es.size:=List.mem_range.mp (hp.mem_iff.mp (List.getElem_mem lt'));have e0:es[pl[i]]?=some es[pl[i]]:=Array.getElem?_eq_getElem mp;refine By st.1 st.2.1 st.2.2 (List.getElem?_eq_getElem lt') e0 fun g k e=>?_
    exact q _ g s.toks (by rw [List.getElem?_map,List.getElem?_eq_getElem lt'];simp [Array.getD,mp]) ⟨e,by rw [k.2 T neT];exact st.2.1,st.2.2.keep fun u hu=>by rw [k.2 S ne];exact hu⟩ fun b o nb hb'=>by rw [k.2 b (by simpa using nb)];exact hb'
  done:=fun s Q E st q=>by
    have ln:pl.length=es.size:=by rw [hp.length_eq];simp
    exact D1 hh st.1 st.2.1 st.2.2 (List.getElem?_eq_none (by omega)) fun g k=>q g s.toks fun b o nb hb'=>k b o (by simpa using nb) hb'
  self:=fun i s Q E st q=>rW st.1 q
end
noncomputable def Wk (prog:Program) (w:World) (A:Around) (h0:Heap) (S I:Addr) (g:Heap) (ord:List Value):Prop :=
  ∃ fp St,Walks prog w A I fp [I] ord.length (fun i v=>ord[i]?=some v) St/\St 0 g/\∀ b∈fp,b=S\/h0.objs.size<=b
section
variable {prog:Program} {w:World} {A B:Around} {E:Value->Shared->Prop} {s:Shared} {S:Addr} {es:Array (Int×Value)} {t:SetTable}
theorem x9 {pl:List Nat} (hp:pl.Perm (List.range es.size)):(pl.map fun p=>(es.getD p (0,.none)).2).Perm (es.toList.map (·.2)):=by
  refine (hp.map _).trans ?_;refine List.Perm.of_eq (List.ext_getElem (by simp) fun k h1 h2=>?_);simp at h1;simp [Array.getD,h1]
theorem zN {Q:Value->Shared->Prop} (hh:B.handled=none) (L:sA prog w s.heap S (!lZ w) es t)
    (q:∀ (I:Addr) (g:Heap) (d:_) (ord:List Value),(∀ b o,s.heap.get? b=some o->g.get? b=some o)->s.heap.objs.size<=I->Wk prog w B s.heap S I g ord->ord.Perm (es.toList.map (·.2))->Q (.ref I) { s with heap:=g,drawn:=d }) :
    wpAny (model prog w) A (pyIter (.ref S)) Q E s:=by
  obtain ⟨u,ep,hu,hx,hd⟩:=L.obj;have I0:Si s.heap S es ep t:=⟨⟨u,hu,hx,hd⟩,L.fit⟩
  have ltS:=I0.lt;refine wpAny_pyIter_slot I0.ty PySem.F.slot_set_iter (wpAny_call_entry PySem.F.slot_set_iter I0.ty AM ?_ (PySem.F.args_set_iter_1 _));unfold Builtin.«frozenset.__iter__»;refine wpAny_bind (wpAny_pure ?_);apply wpAny_bind;unfold Builtin.Frozenset.sizeOf;apply wpAny_bind;apply I0.count;apply wpAny_pure;apply wpAny_bind;unfold setDrawn;apply wpAny_bind;apply I0.state;dsimp only;apply wpAny_bind;apply kT;apply wpAny_pure;refine wpAny_ite_split (fun z=>?_) fun z=>?_
  · have hb:(!lZ w&&(!t.plain&&decide (es.size > 1)))=true:=z;apply wpAny_bind;refine oz es.size (List.range es.size) s _ (by simp) fun ys d pm=>?_
    apply wpAny_bind;have ln:ys.length=es.size:=by rw [pm.length_eq];simp
    refine wpAny_newTuple ?_ (by rw [List.length_map,ln];exact fits_of_scanBound L.few);apply wpAny_bind;unfold setEpoch;apply wpAny_bind;have I1:Si (s.heap.push (Ba ys)) S es ep t:=I0.keep fun u e=>Heap.get?_push_of_some _ e
    refine Si.state (s:={ s with heap:=s.heap.push (Ba ys),drawn:=d }) I1 ?_;apply wpAny_pure;refine wpAny_bind (wpAny_newObj_type ?_);have sz:(s.heap.push (Ba ys)).objs.size=s.heap.objs.size+1:=Heap.size_push ..;refine wpAny_pure ⟨_,rfl,"set_iterator",_,⟨_,Heap.get?_push_size _ rfl,rfl⟩,lF.lookup,?_⟩;refine q (s.heap.push (Ba ys)).objs.size _ d (ys.map fun p=>(es.getD p (0,.none)).2) (fun b o e=>Heap.get?_push_of_some _ (Heap.get?_push_of_some _ e)) (by rw [sz];exact Nat.le_succ _) ?_ (x9 pm);refine ⟨[(s.heap.push (Ba ys)).objs.size,S,s.heap.objs.size],(fun i h=>h.get? (s.heap.push (Ba ys)).objs.size=some (xM (.ref s.heap.objs.size) i es.size ep S)/\h.get? s.heap.objs.size=some (Ba ys)/\Si h S es ep t),?_,⟨Heap.get?_push_size _ rfl,Heap.get?_push_of_some _ (Heap.get?_push_size _ rfl),I1.keep fun u e=>Heap.get?_push_of_some _ e⟩,fun b hb=>?_⟩
    · rw [List.length_map,ln];exact vL (S:=S) (T:=s.heap.objs.size) hh (by rw [sz];exact Nat.ne_of_lt (Nat.lt_succ_of_lt ltS)) (by rw [sz];exact Nat.ne_of_lt (Nat.lt_succ_self _)) pm
    · simp only [List.mem_cons,List.not_mem_nil,or_false] at hb;rcases hb with rfl | rfl | rfl
      · exact .inr (by rw [sz];exact Nat.le_succ _)
      · exact .inl rfl
      · exact .inr (Nat.le_refl _)
  · have hb:¬ (!lZ w&&(!t.plain&&decide (es.size > 1)))=true:=z;refine wpAny_bind (wpAny_pure ?_);apply wpAny_bind;unfold setEpoch;apply wpAny_bind;apply I0.state;apply wpAny_pure;refine wpAny_bind (wpAny_newObj_type ?_);refine wpAny_pure ⟨_,rfl,"set_iterator",_,⟨_,Heap.get?_push_size _ rfl,rfl⟩,lF.lookup,?_⟩;have ne:S≠s.heap.objs.size:=Nat.ne_of_lt ltS;have fpo:∀ b∈[s.heap.objs.size,S],b=S\/s.heap.objs.size<=b:=fun b hb=>by
      simp only [List.mem_cons,List.not_mem_nil,or_false] at hb;rcases hb with rfl | rfl
      · exact .inr (Nat.le_refl _)
      · exact .inl rfl
    cases bt:lZ w with
    | true =>
      have ln:((o1 w S ep es).toList.map (·.2)).length=es.size:=by rw [List.length_map,(lv w S ep es).length_eq];simp
      refine q s.heap.objs.size _ s.drawn ((o1 w S ep es).toList.map (·.2)) (fun b o e=>Heap.get?_push_of_some _ e) (Nat.le_refl _) ⟨[s.heap.objs.size,S],(fun i h=>h.get? s.heap.objs.size=some (xM (.int (0:Nat) 0) i es.size ep S)/\Si h S es ep t),?_,⟨Heap.get?_push_size _ rfl,I0.keep fun u e=>Heap.get?_push_of_some _ e⟩,fpo⟩ ((lv w S ep es).map _);rw [ln];exact yy (t:=t) hh bt ne
    | false =>
      have nd:¬ ((!t.plain&&decide (es.size > 1))=true):=fun y=>hb (by rw [bt,y];rfl)
      have hl:t.led=true:=by rw [L.tab.1,bt];rfl
      have ln:(es.toList.map (·.2)).length=es.size:=by simp
      refine q s.heap.objs.size _ s.drawn (es.toList.map (·.2)) (fun b o e=>Heap.get?_push_of_some _ e) (Nat.le_refl _) ⟨[s.heap.objs.size,S],(fun i h=>h.get? s.heap.objs.size=some (xM (.int (pe t i:Nat) 0) i es.size ep S)/\Si h S es ep t),?_,⟨Heap.get?_push_size _ rfl,I0.keep fun u e=>Heap.get?_push_of_some _ e⟩,fpo⟩ (List.Perm.refl _);rw [ln];exact yx (t:=t) hh bt ne hl L.tab.2 L.fit nd
end
section
variable {prog:Program} {w:World} {A:Around} {E:Value->Shared->Prop} {s:Shared} {S:Addr} {es:Array (Int×Value)} {t:SetTable}
theorem sA.keep {h g:Heap} {b:Bool} (L:sA prog w h S b es t) (k:∀ u,h.get? S=some u->g.get? S=some u):sA prog w g S b es t:=by
  obtain ⟨u,ep,hu,r⟩:=L.obj;exact ⟨⟨u,ep,k u hu,r⟩,L.elm,L.few,L.fit,L.tab⟩
noncomputable abbrev Dj (acc:Array Value) (c:Nat):Obj:={ cls:=.type "list",dict:=none,data:=.seq acc c,slots:=#[] }
theorem u4 {R:Result->Shared->Prop} {D:Addr} {res:Value} (hh:A.handled=none) (L:sA prog w s.heap S (!lZ w) es t) (ne:D≠S) (hD:s.heap.get? D=some (Dj #[] 0))
    (q:∀ (g:Heap) (tk:Nat) (d:_) (acc:Array Value) (c:Nat),(∀ b o,b≠D->s.heap.get? b=some o->g.get? b=some o)->g.get? D=some (Dj acc c)->acc.toList.Perm (es.toList.map (·.2))->R (.ok (.ret res)) { s with heap:=g,toks:=tk,drawn:=d }) :
    wpAny (model prog w) A.in1 (Builtin.List.listExtendWith (.ref D) (.ref S) res) (fun fin s'=>match fin with | .done f=>R (.ok f) s' | .again c'=>c'.quiet=true/\codeAny (model prog w) A c' R s') (fun e s'=>R (.error e) s') s:=by
  obtain ⟨u,ep,hu,hx,hd⟩:=L.obj;have ty:s.TypeIs (.ref S) "set" := ⟨u,hu,hx.1⟩
  have ltD:=Heap.lt_size hD;unfold Builtin.List.listExtendWith;refine wpAny_bind (wpAny_typeOf ty ?_);have e1:Builtin.List.listSameRef (.ref D) (.ref S)=false:=by simp [Builtin.List.listSameRef,ne]
  have e2:(Value.type "set" == Value.type "list")=false:=by decide
  have e3:(Value.type "set" == Value.type "tuple")=false:=by decide
  simp only [e1,e2,e3,Bool.or_false,Bool.false_eq_true,if_false];apply wpAny_bind;refine zN (B:=A.in1) hh L fun I g d ord kp hI W pm=>?_
  obtain ⟨fp,St,W,st,hfp⟩:=W;have Df:D∉fp:=fun z=>by
    rcases hfp D z with y | y
    · exact ne y
    · exact absurd ltD (Nat.not_lt.mpr y)
  have hD1:=kp D _ hD;have ty1:Shared.TypeIs { s with heap:=g,drawn:=d } (.ref S) "set" := ⟨u,kp S u hu,hx.1⟩
  refine wpAny_bind (wpAny_holding (AH ty1 ?_));have ln:ord.length<=sizeLine:=by
    rw [pm.length_eq,List.length_map,Array.length_toList];exact fits_of_scanBound L.few
  have key:∀ (g2:Heap) (c tk:Nat),St 0 g2->(∀ b o,b≠D->s.heap.get? b=some o->g2.get? b=some o)->g2.get? D=some (Dj #[] c)->codeAny (model prog w) A (.builtin "list.extend.loop" ⟨[.ref D,.ref I,res],[]⟩) R { s with heap:=g2,toks:=tk,drawn:=d }:=fun g2 c tk st2 k2 hD2=>by
    refine codeAny_extend_loopS W.toS ln D Df res ord.length 0 _ #[] c rfl (Nat.zero_le _) st2 hD2 (ItemsOf.nil _) fun s3 acc c3 mv hD3 hacc=>?_
    have ea:acc.toList=ord:=by
      refine List.ext_getElem (by rw [Array.length_toList];exact hacc.1) fun k h1 h2=>?_
      have:=hacc.2 k acc[k] (Array.getElem?_eq_getElem (by simpa using h1));dsimp only at this;rw [List.getElem?_eq_getElem h2] at this;simpa using (Option.some.inj this).symm
    rw [Moved.eq_with mv];refine q s3.heap s3.toks d acc c3 (fun b o nb e=>mv.heap b o (fun z=>?_) (k2 b o nb e)) hD3 (by rw [ea];exact pm);rcases List.mem_cons.mp z with y | y
    · exact nb y
    · rw [List.mem_singleton.mp y] at e;exact absurd (Heap.lt_size e) (Nat.not_lt.mpr hI)
  refine wpAny_ite_split (fun _=>?_) fun _=>wpAny_pure ⟨plainId_quiet PySem.F.plain_extend_loop _,key g 0 _ st (fun b o _ e=>kp b o e) hD1⟩
  refine wpAny_bind (wpAny_rule ?_);apply wpAny_bind;show wpAny _ _ (updateSeq D (·.push .none)>>=fun _=>updateSeq D (·.pop)) _ _ _;refine wpAny_bind (wpAny_updateSeq hD1 rfl ?_);have hD2:=Heap.get?_update_self (Obj.mapSeq (·.push Value.none)) hD1 rfl;refine wpAny_updateSeq (hz:=by seq_fits) hD2 rfl ?_;have hD3:=Heap.get?_update_self (Obj.mapSeq (·.pop)) hD2 rfl;have oth:∀ b o,b≠D->g.get? b=some o->((g.update D (Obj.mapSeq (·.push Value.none))).update D (Obj.mapSeq (·.pop))).get? b=some o:=fun b o nb e=>(Heap.get?_update_other _ _ (Ne.symm nb)).trans ((Heap.get?_update_other _ _ (Ne.symm nb)).trans e)
  exact wpAny_pure ⟨plainId_quiet PySem.F.plain_extend_loop _,key _ _ _ (W.frame 0 _ _ st fun b hb o e=>oth b o (fun z=>Df (z ▸ hb)) e) (fun b o nb e=>oth b o nb (kp b o e)) hD3⟩
theorem tz {R:List Value->Shared->Prop} (hh:A.handled=none) (L:sA prog w s.heap S (!lZ w) es t)
    (q:∀ (g:Heap) (tk:Nat) (d:_) (vs:List Value),(∀ b o,s.heap.get? b=some o->g.get? b=some o)->vs.Perm (es.toList.map (·.2))->R vs { s with heap:=g,toks:=tk,drawn:=d }):wpAny (model prog w) A (collect (.ref S)) R E s:=by
  have ltS:S < s.heap.objs.size:=let ⟨_,_,hu,_⟩:=L.obj;Heap.lt_size hu
  unfold collect;refine wpAny_bind (wpAny_runValue (codeAny_builtin entry_proto_collect' ?_));rw [Around.under_plainId PySem.F.plain_proto_collect _];show wpAny _ A.in1 (newList []>>=fun l=>again (.builtin "list.__iadd__" ⟨[l,.ref S],[]⟩)) _ _ s;refine wpAny_bind (wpAny_newObj_type ?_);refine wpAny_pure ⟨plainId_quiet PySem.F.plain_list_iadd _,codeAny_builtin entry_list_iadd' ?_⟩;rw [Around.under_plainId PySem.F.plain_list_iadd _];have at0:(s.heap.push (Dj ([]:List Value).toArray 0)).get? s.heap.objs.size=some (Dj #[] 0):=Heap.get?_push_size _ rfl;show wpAny _ A.in1 (Builtin.List.listExtendWith (.ref s.heap.objs.size) (.ref S) (.ref s.heap.objs.size)) _ _ _;have L1:sA prog w (s.heap.push (Dj ([]:List Value).toArray 0)) S (!lZ w) es t:=L.keep fun u e=>Heap.get?_push_of_some _ e
  have main:=u4 (A:=A) (s:={ s with heap:=s.heap.push (Dj ([]:List Value).toArray 0) }) (res:=.ref s.heap.objs.size)
    (R:=fun r s'=>∃ (g:Heap) (tk:Nat) (d:Drawn) (acc:Array Value) (c:Nat),r=.ok (.ret (.ref s.heap.objs.size))/\s'={ s with heap:=g,toks:=tk,drawn:=d }/\(∀ b o,s.heap.get? b=some o->g.get? b=some o)/\g.get? s.heap.objs.size=some (Dj acc c)/\acc.toList.Perm (es.toList.map (·.2)))
    hh L1 (Nat.ne_of_gt ltS) at0 fun g tk d acc c kp hg pm=>⟨g,tk,d,acc,c,rfl,rfl,fun b o e=>kp b o (Nat.ne_of_lt (Heap.lt_size e)) (Heap.get?_push_of_some _ e),hg,pm⟩
  refine wpAny_mono main (fun fin s' x=>?_) fun e s' x=>?_
  · cases fin with
    | done f =>
      obtain ⟨g,tk,d,acc,c,e,rfl,kp,hg,pm⟩:=x;cases e;show wpAny _ A (load s.heap.objs.size>>=_) _ _ _;exact wpAny_bind (wpAny_load hg (wpAny_pure (q g tk d acc.toList kp pm)))
    | again c₁ =>
      refine ⟨x.1,codeAny_mono x.2 fun r s₂ y=>?_⟩;obtain ⟨g,tk,d,acc,c,rfl,rfl,kp,hg,pm⟩:=y;show wpAny _ A (load s.heap.objs.size>>=_) _ _ _;exact wpAny_bind (wpAny_load hg (wpAny_pure (q g tk d acc.toList kp pm)))
  · obtain ⟨_,_,_,_,_,e',_⟩:=x;cases e'
end
end D2
namespace D2
open PySem PySem.Spec PyProof.Rows L2
noncomputable def xt (ns:List Int):List Int:=ns.foldl step_dedup []
theorem vi (ns:List Int):firstMet (fun i=>ns.getD i 0) ns.length=xt ns:=by
  unfold firstMet xt;congr 1;refine List.ext_getElem (by simp) fun k h1 h2=>?_
  simp [List.getD,List.getElem?_eq_getElem h2]
theorem DY (ns:List Int):(xt ns).length<=ns.length:=by
  rw [<- vi];exact firstMet_length_le _ _
theorem qt:∀ (vs:List Value),(∀ v∈vs,∃ n tk,v=.int n tk)->IntsAre vs (vs.map xO)
  | [],_=>.nil
  | v::vs,h=>by
    obtain ⟨n,tk,rfl⟩:=h v List.mem_cons_self;exact .cons n tk (qt vs fun u hu=>h u (List.mem_cons_of_mem _ hu))
section
variable {prog:Program} {w:World} {A:Around} {E:Value->Shared->Prop} {s:Shared} {S:Addr}
theorem vA {l:List Int} {Q:Value->Shared->Prop} (hh:A.handled=none) (X:nu prog w s.heap S (!lZ w) l) (h64:l.length < 64)
    (q:∀ (D:Addr) (g:Heap) (tk:Nat) (d:_) (vs:List Value) (e:Nat),s.heap.get? D=none->(∀ b o,s.heap.get? b=some o->g.get? b=some o)->g.get? D=some (seqObj "list" vs.toArray e)->IntsAre vs (dM l)->Q (.ref D) { s with heap:=g,toks:=tk,drawn:=d }) :
    wpAny (model prog w) A (call (.builtin "sorted") [.ref S]) Q E s:=by
  obtain ⟨es,t,L,pm⟩:=X;refine Calls.call_function_entry kind_sorted plain_sorted entry_sorted (args_sorted1 _) ?_;unfold Builtin.«sorted»;refine wpAny_bind (m:=checkCount "sorted" 1 1 _) (wpAny_pure ?_);refine wpAny_bind (tz (A:=A.in1) hh L fun g tk d vs kp pv=>?_);have hv:∀ v∈vs,∃ n tk,v=.int n tk:=fun v hv=>by
    obtain ⟨e,he,rfl⟩:=List.mem_map.mp (pv.mem_iff.mp hv);obtain ⟨⟨k,hk,_⟩,_⟩:=L.elm e he;obtain ⟨tk,z⟩:=Value.isInt_shape (k:=k) (v:=e.2) hk;exact ⟨k,tk,z⟩
  have hI:=qt vs hv;have pl:(vs.map xO).Perm l:=by
    refine (pv.map xO).trans ?_;rw [List.map_map];exact pm
  have ln:vs.length=l.length:=by have:=pl.length_eq;rwa [List.length_map] at this
  refine wpAny_bind (wpAny_newList ?_ (by rw [ln,sizeLine_eq];omega));have at0:(g.push (seqObj "list" vs.toArray 0)).get? g.objs.size=some (seqObj "list" vs.toArray 0):=Heap.get?_push_size _ rfl;show wpAny _ _ _ _ _ { s with heap:=g.push (seqObj "list" vs.toArray 0),toks:=tk,drawn:=d };refine wpAny_bind (wpAny_holding (wpAny_call_entry slot_list_sort ⟨_,at0,rfl⟩ entry_list_sort (list_sort_tree at0 hI (by rw [ln];exact h64) fun out ns' a1 a2 a3=>⟨_,rfl,?_⟩) (args_list_sort _)));refine wpAny_pure ⟨_,rfl,?_⟩;obtain ⟨e,he⟩:=sortedHeap_at (out:=out) at0;have fr:s.heap.get? g.objs.size=none:=by
    cases z:s.heap.get? g.objs.size with
    | none=>rfl
    | some o=>exact absurd (Heap.lt_size (kp _ _ z)) (Nat.lt_irrefl _)
  refine q g.objs.size _ tk d out.toList e fr (fun b o z=>?_) he (by rw [jF (a2.trans pl) a3] at a1;exact a1);have z1:=kp b o z;have lt:b < g.objs.size:=Heap.lt_size z1;show (sortedHeap (g.push (seqObj "list" vs.toArray 0)) g.objs.size vs out).get? b=some o;rw [sortedHeap_old (Nat.ne_of_lt lt) (by rw [size_push'];exact Nat.lt_succ_of_lt lt)];exact Heap.get?_push_of_some _ z1
end
theorem xJ {X:Cx} {pins:List (Addr×Obj)} {σ:St} {H:Hp} {s:Shared} {h':Heap} {a:Addr} {o:HO} {t':Nat} {d':Drawn} (I:aU X pins σ H s) (k:∀ b u,s.heap.get? b=some u->h'.get? b=some u) (hg:s.heap.get? a=none) (hn:H a=none)
    (new:cb X.prog X.w (cI H a o) h' a o):aU X pins σ (cI H a o) { s with heap:=h',toks:=t',drawn:=d' }:=by
  have J:=oP (t':=t') I k hg hn new;exact ⟨J.ok,J.os,J.bare,J.base,J.loc,J.cell,J.free,J.freeC,J.pin,J.hok,J.len⟩
section
variable {X:Cx} {a b c:Expr} {fa fb fc:Fe} {pos p2:Pos} {nl:Nat} {G:List Str} {x:Str} {p p1:Pos} {pos1:Pos} {t:TA}
noncomputable def Jf (K:PySem.W.Frag):List V->Hp->VK->Prop:=fun xs H Q=>∃ p ns,xs=[.ref p]/\(mB K H p (ns.map V.int)\/i4 K H p (ns.map V.int))/\ns.length < 64/\∀ l,H l=none->Q (.ref l) (cI H l (.lst ((dM (xt ns)).map V.int)))
theorem Bn (hc:X.calm=true) {pins:List (Addr×Obj)} {s:Shared} {σ:St} {H:Hp} {vs:List V} {us:List Value} {Q:VK} (I:aU X pins σ H s) (r:bH vs us) (h:Jf X.K vs H Q) :
    wpAny (model X.prog X.w) X.A (call (.type "set") us) (fun v s1=>wpAny (model X.prog X.w) X.A (call (.builtin "sorted") [v]) (EP X pins σ Q) X.xe s1) X.xe s:=by
  obtain ⟨p,ns,rfl,hq,h64,q⟩:=h;obtain ⟨u,rfl,rx⟩:=fq r;cases rx;have hh:=I.ok.hd hc;have few:ns.length+1 < scanBound:=by have:scanBound=4096:=rfl;omega
  have fin:∀ (g:Heap) (tk:Nat) (S:Addr),nu X.prog X.w g S (!lZ X.w) (xt ns)->(∀ b o,s.heap.get? b=some o->g.get? b=some o)->wpAny (model X.prog X.w) X.A (call (.builtin "sorted") [.ref S]) (EP X pins σ Q) X.xe { s with heap:=g,toks:=tk }:=fun g tk S Y kp=>by
    have dl:=DY ns;refine vA (s:={ s with heap:=g,toks:=tk }) hh Y (by omega) fun D g2 tk2 d vs e hg kp2 hD hI=>?_
    have hg0:s.heap.get? D=none:=by
      cases z:s.heap.get? D with
      | none=>rfl
      | some o=>rw [kp D o z] at hg;cases hg
    have hn:=oQ I hg0;refine ⟨.ref D,_,xJ (s:=s) (t':=tk2) (d':=d) (o:=.lst ((dM (xt ns)).map V.int)) I (fun b o z=>kp2 b o (kp b o z)) hg0 hn ⟨?_,vs,e,io hI,by simpa [seqObj] using hD⟩,rfl,q _ hn⟩;rw [List.length_map,mo,sizeLine_eq];omega
  rcases hq with hq | hq
  · obtain ⟨its,rv,pl,hz⟩:=I.list hq;have hI:IntsAre its ns:=eG rv;have ln:=IntsAre.length hI;refine tw (AL (prog:=X.prog) (w:=X.w) (a:=p) (items:=its.toArray) (ns:=ns) (by simpa using hI)) hh pl.isList (by simp;omega) fun g tk Y kp=>?_
    rw [show its.toArray.size=ns.length by simp [ln],vi] at Y;exact fin g tk _ Y kp
  · obtain ⟨its,rv,pl,hz⟩:=I.tuple hq;have hI:IntsAre its ns:=eG rv;have ln:=IntsAre.length hI;refine tw (yk (prog:=X.prog) (w:=X.w) (a:=p) (items:=its.toArray) (ns:=ns) (by simpa using hI)) hh pl (by simp;omega) fun g tk Y kp=>?_
    rw [show its.toArray.size=ns.length by simp [ln],vi] at Y;exact fin g tk _ Y kp
theorem Gp (hc:X.calm=true) (hg1:Gl X "sorted") (hm1:X.mg "sorted" = none) (hg2:Gl X "set") (hm2:X.mg "set" = none) (ha:PA X [a] t) (he:starEach [a] X.env=[(false,eval a X.env)]) :
    PE X (.Call (.Name "sorted" p) [.Call (.Name "set" p1) [a] [] pos1] [] pos) (HJ (Jf X.K) t):=by
  intro pins s σ H Q I h;refine wpAny_Call_Name_kw (gX I hg1 hm1 PyProof.Rows.boot_sorted ?_);refine PyProof.Rows.callWith_builtin1 ?_ rfl rfl;refine Calls.spliced_cons (wpAny_Call_Name_kw (gX I hg2 hm2 PyProof.Rows.boot_set ?_));refine PyProof.Rows.callWith_type1 (dq (ha pos1 pins s σ H _ I h) fun us s1 zq0=>?_) he rfl;obtain ⟨vs,H1,I1,r1,q1⟩:=zq0;exact dq (Bn hc I1 r1 q1) fun v s2 z=>Calls.spliced_nil z
noncomputable def Bw:PyData->R PyData
  | .list ds=>match bL ds with
    | some ns=>if ns.length < 64 then .ok (.list ((dM (xt ns)).map PyData.int)) else .no
    | none=>.no
  | .tuple ds=>match bL ds with
    | some ns=>if ns.length < 64 then .ok (.list ((dM (xt ns)).map PyData.int)) else .no
    | none=>.no
  | _=>.no
theorem n5 (T:Tb X nl G) (j k:Nat) (hG:G[j]?=some ("sorted" : Str)) (hm:X.mg "sorted" = none) (hG2:G[k]?=some ("set" : Str)) (hm2:X.mg "set" = none) (ha:Z.dL X a fa) (he:bc a=true:=by rfl):Z.lQ X (.Call (.Name "sorted" p) [.Call (.Name "set" p1) [a] [] pos1] [] pos) (e1 Bw fa):=⟨have ha:=ha.un;by
  have q1:=T.gl "sorted" (List.mem_of_getElem? hG);have q2:=T.gl "set" (List.mem_of_getElem? hG2);have sa:starEach [a] X.env=[(false,eval a X.env)]:=bA he;show PE X _ (jQ X DG (e1 Bw fa));rw [<- vm];refine PE.imp (Gp T.calm q1.1 hm q2.1 hm2 (k9 ha rQ he) sa) (vY zq (vD fun H x d Q hx q=>?_));cases d with
  | list ds =>
    simp only [Bw] at q;cases ei:bL ds with
    | none=>rw [ei] at q;exact q.elim
    | some ns =>
      rw [ei] at q;dsimp only at q;by_cases h64:ns.length < 64
      · rw [if_pos h64] at q;obtain ⟨a',vs,rfl,h,r⟩:=dE (K:=X.K) hx;rw [da ei] at r;rw [gB r] at h;exact ⟨a',ns,rfl,.inl h,h64,fun l hl=>q _ _ (cB hl _) (dw hl (bK.ints _))⟩
      · rw [if_neg h64] at q;exact q.elim
  | tuple ds =>
    simp only [Bw] at q;cases ei:bL ds with
    | none=>rw [ei] at q;exact q.elim
    | some ns =>
      rw [ei] at q;dsimp only at q;by_cases h64:ns.length < 64
      · rw [if_pos h64] at q;obtain ⟨a',vs,rfl,h,r⟩:=cR hx;rw [da ei] at r;rw [gB r] at h;exact ⟨a',ns,rfl,.inr (.inl (.inl h)),h64,fun l hl=>q _ _ (cB hl _) (dw hl (bK.ints _))⟩
      · rw [if_neg h64] at q;exact q.elim
  | _=>exact q.elim⟩
end
noncomputable def sC (X:Cx) (k:Nat):Prop:=∀ x∈X.N.drop k,X.env.kindOf x=some .cell\/X.env.kindOf x=some .free
theorem DT {X:Cx} {sc:Scope} {N:List Str} {own:Nat} {G oN:List Str} {fr:List Nat} (ck:dJ sc N own G oN fr) (cl:List (Str×Addr)) (C:Addr) (s:Shared) (H:Hp) (fp:List Addr) (E:Value->Shared->Prop):sC (aO X N sc cl C s H fp E) own:=by
  obtain ⟨_,_,_,_,_,f,_,_,_,_⟩:=ck;intro x hx;rcases iN (env:=X.env) (f x hx) with q | q
  · exact .inr q
  · exact .inl q
theorem xy {X:Cx} {tg iter elt:Expr} {ifs:List Expr} {sc:Scope} {pos:Pos} {it:aT->R (List PyData)} {b:PyData->aT->Option aT} {t:aT->R Bool} {f:Fe} {N:List Str} {own:Nat} {G G0:List Str} {fr:List Nat} {nl:Nat}
    (T:Tb X nl G0) {oN:List Str} {on:List (Str×NameKind)} (hoN:X.N=oN) (hon:X.env.scope.names=on)
    (ck:dJ sc N own G oN fr/\∀ y∈sc.names,y.2=.free->on.lookup y.1=some .cell\/on.lookup y.1=some .free) (hi:qY X tg iter it)
    (hb0:∀ ρ d ρ1,b d (ay own fr ρ)=some ρ1->jW (ay own fr ρ) ρ1)
    (hbodyO:∀ cl C s H fp E,Tb (aO X N sc cl C s H fp E) own G->sC (aO X N sc cl C s H fp E) own->sy (aO X N sc cl C s H fp E) tg b/\sK (aO X N sc cl C s H fp E) ifs t/\cL (aO X N sc cl C s H fp E) elt f)
    (hs:∀ x,foldedSetIterable iter X.env x=pure x:=by intro _;rfl) (hstk:∃ env0 outer0 L,X.stack=env0::outer0/\env0.frame=some L/\X.env.frame=some L:=by exact ⟨_,_,_,rfl,rfl,rfl⟩):lQ X (.ListComp elt [⟨tg,iter,ifs,0⟩] sc pos) (bE it own fr b t f) :=
  ql T hoN hon ck hi hb0 (fun cl C s H fp E T'=>hbodyO cl C s H fp E T' (DT ck.1 cl C s H fp E)) hs hstk
theorem sY {X:Cx} {tg iter elt:Expr} {ifs:List Expr} {sc:Scope} {pos:Pos} {it:aT->R (List PyData)} {b:PyData->aT->Option aT} {t:aT->R Bool} {f:Fe} {N:List Str} {own:Nat} {G G0:List Str} {fr:List Nat} {nl:Nat} (T:Tb X nl G0) {oN:List Str} {on:List (Str×NameKind)} (hoN:X.N=oN) (hon:X.env.scope.names=on) (ck:dJ sc N own G oN fr/\∀ y∈sc.names,y.2=.free->on.lookup y.1=some .cell\/on.lookup y.1=some .free) (hi:Z.qY X tg iter it) (hb0:∀ ρ d ρ1,b d (ay own fr ρ)=some ρ1->jW (ay own fr ρ) ρ1) (hbodyO:∀ cl C s H fp E,Tb (aO X N sc cl C s H fp E) own G->sC (aO X N sc cl C s H fp E) own->Z.sy (aO X N sc cl C s H fp E) tg b/\Z.sK (aO X N sc cl C s H fp E) ifs t/\Z.cL (aO X N sc cl C s H fp E) elt f) (hs:∀ x,foldedSetIterable iter X.env x=pure x:=by intro _;rfl) (hstk:∃ env0 outer0 L,X.stack=env0::outer0/\env0.frame=some L/\X.env.frame=some L:=by exact ⟨_,_,_,rfl,rfl,rfl⟩):Z.lQ X (.ListComp elt [⟨tg,iter,ifs,0⟩] sc pos) (bE it own fr b t f) :=
  ⟨D2.xy T hoN hon ck hi.un hb0 (fun cl C s H fp E T cap=>let ⟨q1,q2,q3⟩:=hbodyO cl C s H fp E T cap;⟨q1.un,q2.un,q3.un⟩) hs hstk⟩
theorem xx {X:Cx} {tg iter elt:Expr} {ifs:List Expr} {sc:Scope} {pos:Pos} {it:aT->R (List PyData)} {b:PyData->aT->Option aT} {t:aT->R Bool} {f:Fe} {N:List Str} {own:Nat} {G G0:List Str} {fr:List Nat} {nl k:Nat}
    (T:Tb X nl G0) {oN:List Str} (hoN:X.N=oN) (cap:sC X k)
    (ck:dJ sc N own G oN fr/\∀ y∈sc.names,y.2=.free->y.1∈oN.drop k) (hi:qY X tg iter it)
    (hb0:∀ ρ d ρ1,b d (ay own fr ρ)=some ρ1->jW (ay own fr ρ) ρ1)
    (hbody:∀ cl C s H fp E,Tb (aO X N sc cl C s H fp E) own G->sy (aO X N sc cl C s H fp E) tg b/\sK (aO X N sc cl C s H fp E) ifs t/\cL (aO X N sc cl C s H fp E) elt f)
    (hs:∀ x,foldedSetIterable iter X.env x=pure x:=by intro _;rfl) (hstk:∃ env0 outer0 L,X.stack=env0::outer0/\env0.frame=some L/\X.env.frame=some L:=by exact ⟨_,_,_,rfl,rfl,rfl⟩):lQ X (.ListComp elt [⟨tg,iter,ifs,0⟩] sc pos) (bE it own fr b t f) :=
  oG T (by rw [hoN];exact ck.1) (fun y hy hf=>cap y.1 (by rw [hoN];exact ck.2 y hy hf)) hi hb0 hbody hs hstk
theorem sX {X:Cx} {tg iter elt:Expr} {ifs:List Expr} {sc:Scope} {pos:Pos} {it:aT->R (List PyData)} {b:PyData->aT->Option aT} {t:aT->R Bool} {f:Fe} {N:List Str} {own:Nat} {G G0:List Str} {fr:List Nat} {nl k:Nat} (T:Tb X nl G0) {oN:List Str} (hoN:X.N=oN) (cap:sC X k) (ck:dJ sc N own G oN fr/\∀ y∈sc.names,y.2=.free->y.1∈oN.drop k) (hi:Z.qY X tg iter it) (hb0:∀ ρ d ρ1,b d (ay own fr ρ)=some ρ1->jW (ay own fr ρ) ρ1) (hbody:∀ cl C s H fp E,Tb (aO X N sc cl C s H fp E) own G->Z.sy (aO X N sc cl C s H fp E) tg b/\Z.sK (aO X N sc cl C s H fp E) ifs t/\Z.cL (aO X N sc cl C s H fp E) elt f) (hs:∀ x,foldedSetIterable iter X.env x=pure x:=by intro _;rfl) (hstk:∃ env0 outer0 L,X.stack=env0::outer0/\env0.frame=some L/\X.env.frame=some L:=by exact ⟨_,_,_,rfl,rfl,rfl⟩):Z.lQ X (.ListComp elt [⟨tg,iter,ifs,0⟩] sc pos) (bE it own fr b t f) :=
  ⟨D2.xx T hoN cap ck hi.un hb0 (fun cl C s H fp E T=>let ⟨q1,q2,q3⟩:=hbody cl C s H fp E T;⟨q1.un,q2.un,q3.un⟩) hs hstk⟩
section
variable {prog:Program} {w:World} {A:Around} {E:Value->Shared->Prop} {s:Shared}
noncomputable abbrev vc (vs:Array Value) (x:Value):Nat->Option PySem.Fin×Unit->Sem (ForInStep (Option PySem.Fin×Unit)):=fun i _ =>
  match vs[i]? with
  | some y=>do
    let b <- eqBool y x
    if b=true then do
      let r <- retInt (i:Int)
      pure (ForInStep.done (some r,()))
    else pure (ForInStep.yield (none,()))
  | _=>pure (ForInStep.yield (none,()))
theorem zF {k:Int}:∀ (ns:List Int) (i:Nat),ns[i]?=some k->ns.idxOf k<=i
  | [],i,h=>by simp at h
  | n::ns,0,h=>by
    simp at h;subst h;simp [List.idxOf_cons]
  | n::ns,i+1,h=>by
    have:=zF ns i (by simpa using h);rw [List.idxOf_cons];cases n==k <;> simp <;> omega
theorem wn {vs:List Value} {ns:List Int} {k:Int} {t:Tok} (hi:IntsAre vs ns) {Q:Option PySem.Fin×Unit->Shared->Prop}:∀ (m i:Nat) (s:Shared),i+m=vs.length->(∀ j,j < i->ns[j]?≠some k)->k∈ns ->
    (∀ tk tk',Q (some (.done (.ret (.int (ns.idxOf k:Nat) tk))),()) { s with toks:=tk' })->wpAny (model prog w) A (forIn (List.range' i m) ((none:Option PySem.Fin),()) (vc vs.toArray (.int k t))) Q E s
  | 0,i,s,h,hno,hk,q=>by
    exfalso;obtain ⟨j,hj,e⟩:=List.mem_iff_getElem.mp hk;have hl:=IntsAre.length hi;exact hno j (by omega) (by rw [List.getElem?_eq_getElem hj,e])
  | m+1,i,s,h,hno,hk,q=>by
    have hl:=IntsAre.length hi;have lt:i < vs.length:=by omega
    have ltn:i < ns.length:=by omega
    obtain ⟨tv,ev⟩:=hi.int_at i vs[i] (List.getElem?_eq_getElem lt);have en:ns.getD i 0=ns[i]:=by simp [List.getD,List.getElem?_eq_getElem ltn]
    rw [en] at ev;rw [List.range'_succ,List.forIn_cons];have e0:vs.toArray[i]?=some (.int ns[i] tv):=by simp [lt,ev]
    unfold vc;rw [e0];dsimp only;apply wpAny_bind;apply wpAny_bind;refine (intKind prog w).eqBool (a:=ns[i]) (b:=k) (intKind_is _ _ _ _) (intKind_is _ _ _ _) ?_;by_cases z:ns[i]=k
    · rw [if_pos (by simpa using z)];have ei:ns.idxOf k=i:=by
        have h1:ns.idxOf k<=i:=zF ns i (by rw [List.getElem?_eq_getElem ltn,z]);rcases Nat.lt_or_eq_of_le h1 with y | y
        · exfalso;have hlt:ns.idxOf k < ns.length:=List.idxOf_lt_length_iff.mpr hk;exact hno _ y (by rw [List.getElem?_eq_getElem hlt,List.getElem_idxOf hlt])
        · exact y
      rw [ei] at q;obtain ⟨hp,g,d,tk,os⟩:=s;unfold retInt
      wp_walk
      exact q _ _
    · rw [if_neg (by simpa using z)];refine wpAny_pure ?_;exact wn hi m (i+1) s (by omega) (fun j hj=>by
        by_cases y:j=i
        · subst y;rw [List.getElem?_eq_getElem ltn];intro e;exact z (Option.some.inj e)
        · exact hno j (by omega)) hk q
theorem mx {l:Addr} {vs:List Value} {ns:List Int} {k:Int} {t:Tok} {Q:Value->Shared->Prop} (hl:s.heap.IsTuple l vs.toArray) (hi:IntsAre vs ns) (hk:k∈ns) (q:∀ tk tk',Q (.int (ns.idxOf k:Nat) tk) { s with toks:=tk' }) :
    wpAny (model prog w) A (call (.builtin "tuple.index") [.ref l,.int k t]) Q E s:=by
  refine wpAny_call_entry PySem.F.slot_tuple_index hl.typeIs PySem.F.entry_tuple_index ?_ (PySem.F.args_tuple_index_2 _ _);obtain ⟨o,ho,hc,n,hd⟩:=hl;obtain ⟨oc,od,oda,os⟩:=o;simp only at hc hd;subst hc hd;obtain ⟨hp,g,d,tk,os'⟩:=s;unfold Builtin.«tuple.index»
  wp_walk using wpAny_loadPart' ho
  show wpAny (model prog w) A.in1 (forIn [:min vs.toArray.size vs.toArray.size] ((none:Option PySem.Fin),()) (vc vs.toArray (.int k t))) _ _ _;rw [Std.Legacy.Range.forIn_eq_forIn_range'];refine wn hi _ 0 _ ?_ (fun j hj=>by omega) hk fun tk1 tk2=>?_
  · simp [Std.Legacy.Range.size]
  · exact wpAny_pure ⟨_,rfl,q tk1 tk2⟩
end
section
variable {X:Cx} {o e:Expr} {fo fe:Fe} {apos cpos:Pos}
theorem xZ:Hl X "tuple.index" (fun x xs H Q=>∃ (l:Addr) (ns:List Int) (k:Int),x=.ref l/\xs=[.int k]/\i4 X.K H l (ns.map V.int)/\k∈ns/\Q (.int (ns.idxOf k:Nat)) H):=by
  intro pins s σ H x xs v us Q I rx rs h;obtain ⟨l,ns,k,rfl,rfl,hq,hk,q⟩:=h;cases rx;obtain ⟨u,rfl,t,rfl⟩:=fq rs;obtain ⟨its,rv,pl,hz⟩:=I.tuple hq;exact mx pl (eG rv) hk fun tk tk'=>⟨.int _,H,I.tok _,⟨_,rfl⟩,q⟩
noncomputable def D9:PyData->R Unit
  | .tuple _=>.ok ()
  | _=>.no
noncomputable def gG:PyData->PyData->R PyData
  | .tuple ds,.int k=>match bL ds with
    | some ns=>if k∈ns then .ok (.int (ns.idxOf k:Nat)) else .no
    | none=>.no
  | _,_=>.no
noncomputable def nF (fo fe:Fe):Fe:=fun ρ=>fo ρ>>=fun x=>D9 x>>=fun _=>fe ρ>>=fun y=>gG x y
theorem sV (ho:Z.dL X o fo) (he:Z.cL X e fe) (hb:attributeBase o "index" X.env (eval o X.env)=eval o X.env:=by rfl) (hst:bc e=true:=by rfl) (hline:(apos.endLine==cpos.line)=true:=by rfl):Z.cL X (.Call (.Attribute o "index" apos) [e] [] cpos) (nF fo fe):=⟨have ho:=ho.un;have he:=he.un;by
  have sc:starEach [e] X.env=(false,eval e X.env)::starEach [] X.env:=bA hst;refine PE.imp (wD PySem.F.plainAttrs_tuple PySem.F.slot_tuple_index PySem.F.type_tuple_index xZ ho (gf he jo hst) hb (by rw [sc];rfl) hline sc rfl) fun σ H Q h=>?_
  refine (eT (P:=uG) (f:=fo) (k:=fun ρ x=>D9 x>>=fun _=>fe ρ>>=fun y=>gG x y) (eL (X:=X) eO Q) h).post fun v H1 zq0=>?_
  obtain ⟨ρ1,d1,sl1,_,p1,q1⟩:=zq0;cases d1 with
  | tuple ds =>
    obtain ⟨a,vs,rfl,h1,r1⟩:=cR p1;refine ⟨.inr (.inl ⟨rfl,.inr ⟨_,h1⟩⟩),?_⟩;have q1:uc X hJ (ah fe aG ρ1>>=one (gG (.tuple ds))) H1 Q:=by
      have e0:(ah fe aG ρ1>>=one (gG (.tuple ds)))=(fe ρ1>>=fun y=>gG (.tuple ds) y):=by
        unfold ah aG;cases fe ρ1 <;> rfl
      rw [e0];exact q1
    refine (jk (I:=Rp) (f:=ah fe aG) (k:=fun _=>one (gG (.tuple ds))) (eL (X:=X) eO Q) ⟨ρ1,sl1,q1⟩).post fun us H2 zq0=>?_
    obtain ⟨_,ds2,_,s2,p2,q2⟩:=zq0;unfold one at q2;split at q2
    · rename_i d2;simp only [RA] at p2;obtain ⟨w,r',rfl,p2,rfl⟩:=p2;cases d2 with
      | int k =>
        have ew:w=.int k:=by simpa only [Rp] using p2
        subst ew;simp only [gG] at q2;cases ei:bL ds with
        | none=>rw [ei] at q2;exact q2.elim
        | some ns =>
          rw [ei] at q2;dsimp only at q2;split at q2
          · rename_i hz;have p3:=gS.mono p1 s2;rw [da ei] at p3;obtain ⟨a',vs',ea,h3,r3⟩:=cR p3;cases ea;rw [gB r3] at h3;exact ⟨a,ns,k,rfl,rfl,.inl (.inl h3),hz,q2 _ H2 (aM.refl _) de⟩
          · exact q2.elim
      | _=>exact q2.elim
    · exact q2.elim
  | _=>exact q1.elim⟩
end
mutual
theorem qG {h:Heap}:∀ {v:Value} {d:PyData} {as:List Addr},Reads h v d as->∀ {e:PyData} {bs:List Addr},Reads h v e bs->d=e
  | _,_,_,.none,_,_,r=>by cases r;rfl
  | _,_,_,.bool b,_,_,r=>by cases r;rfl
  | _,_,_,.int i t,_,_,r=>by cases r;rfl
  | _,_,_,.str x t,_,_,r=>by cases r;rfl
  | _,_,_,.list g c dd ra,_,_,r=>by
    cases r with
    | list g' c' dd' ra' =>
      rw [g] at g';cases g';rw [dd] at dd';cases dd';rw [eY ra ra']
    | tuple g' c' dd' ra'=>rw [g] at g';cases g';rw [c] at c';exact absurd c' (by simp)
    | dict g' c' dd' ra' rb'=>rw [g] at g';cases g';rw [c] at c';exact absurd c' (by simp)
  | _,_,_,.tuple g c dd ra,_,_,r=>by
    cases r with
    | tuple g' c' dd' ra' =>
      rw [g] at g';cases g';rw [dd] at dd';cases dd';rw [eY ra ra']
    | list g' c' dd' ra'=>rw [g] at g';cases g';rw [c] at c';exact absurd c' (by simp)
    | dict g' c' dd' ra' rb'=>rw [g] at g';cases g';rw [c] at c';exact absurd c' (by simp)
  | _,_,_,.dict g c dd ra rb,_,_,r=>by
    cases r with
    | dict g' c' dd' ra' rb' =>
      rw [g] at g';cases g';rw [dd] at dd';cases dd';have a:=eY ra ra';have b:=eY rb rb';congr 1;rename_i kvs _ _ kvs' _ _;refine List.ext_getElem (by simpa using congrArg List.length a) fun k h1 h2=>Prod.ext ?_ ?_
      · have:=congrArg (·[k]?) a;simpa [h1,h2] using this
      · have:=congrArg (·[k]?) b;simpa [h1,h2] using this
    | list g' c' dd' ra'=>rw [g] at g';cases g';rw [c] at c';exact absurd c' (by simp)
    | tuple g' c' dd' ra'=>rw [g] at g';cases g';rw [c] at c';exact absurd c' (by simp)
theorem eY {h:Heap}:∀ {vs:List Value} {ds:List PyData} {as:List Addr},ReadsAll h vs ds as->∀ {es:List PyData} {bs:List Addr},ReadsAll h vs es bs->ds=es
  | _,_,_,.nil,_,_,r=>by cases r;rfl
  | _,_,_,.cons a b,_,_,r=>by
    cases r with
    | cons a' b'=>rw [qG a a',eY b b']
end
theorem mT {h:Heap}:∀ {vs:List Value} {ds:List PyData} {as:List Addr},ReadsAll h vs ds as->vs.length=ds.length/\∀ (k:Nat) (d:PyData) (v:Value),ds[k]?=some d->vs[k]?=some v->∃ bs,Reads h v d bs
  | _,_,_,.nil=>⟨rfl,fun k d v e=>by simp at e⟩
  | _,_,_,.cons a b=>by
    obtain ⟨l,f⟩:=mT b;refine ⟨by simp [l],fun k d v e1 e2=>?_⟩;cases k with
    | zero=>simp at e1 e2;subst e1 e2;exact ⟨_,a⟩
    | succ k=>exact f k d v (by simpa using e1) (by simpa using e2)
noncomputable def l6 (ds:List PyData) (d:PyData):Nat:=ds.findIdx fun y=>PyData.eqv y d
theorem jl:∀ {xs:List PyData},PyData.canLayAll0 xs=true->∀ x∈xs,x.canLay0=true
  | [],_,x,h=>by cases h
  | y::xs,c,x,h=>by
    simp only [PyData.canLayAll0,Bool.and_eq_true] at c;rcases List.mem_cons.mp h with rfl | z
    · exact c.1
    · exact jl c.2 x z
theorem k6:∀ {xs:List PyData},∀ x∈xs,x.depth<=PyData.depthAll xs
  | [],x,h=>by cases h
  | y::xs,x,h=>by
    simp only [PyData.depthAll];rcases List.mem_cons.mp h with rfl | z
    · omega
    · have:=k6 x z;omega
section
variable {prog:Program} {w:World} {A:Around} {E:Value->Shared->Prop} {s:Shared}
theorem nz (hu:A.units+64 < cLine) {c x:Value} {ds:List PyData} {d:PyData} {as bs:List Addr} {Q:Value->Shared->Prop} (r1:Reads s.heap c (.list ds) as) (r2:Reads s.heap x d bs) (ho:kz ds d=true) (hz:ds.length<=1000) (hk:l6 ds d < ds.length)
    (q:Q (.int (l6 ds d:Nat) s.toks) { s with toks:=s.toks+1 }):wpAny (model prog w) A (call (.builtin "list.index") [c,x]) Q E s:=by
  obtain ⟨c1,c2,c3⟩:=iF ho;obtain ⟨l,vs,as',rfl,hl,ra,_⟩:=isList_of_reads r1;obtain ⟨hlen,hat⟩:=mT ra;have hlen':vs.size=ds.length:=by simpa using hlen
  have ht:=hl.typeIs;obtain ⟨o,hg,hc,n,hd⟩:=hl;obtain ⟨oc,od,oda,os⟩:=o;simp only at hc hd;subst hc hd
  open Classical in
  let e:Value->Bool:=fun y=>decide (∃ (k:Nat) (dk:PyData),vs[k]?=some y/\ds[k]?=some dk/\PyData.eqv dk d=true)
  have he:∀ (k:Nat) (hk:k < vs.size),e vs[k]=PyData.eqv (ds[k]'(by omega)) d:=fun k hk=>by
    have hkd:k < ds.length:=by omega
    cases hb:PyData.eqv (ds[k]'hkd) d with
    | true=>exact decide_eq_true ⟨k,ds[k],by simp [hk],by simp [hkd],hb⟩
    | false =>
      refine decide_eq_false ?_;rintro ⟨k',dk,e1,e2,e3⟩;have hk':k' < vs.size:=by
        by_cases z:k' < vs.size
        · exact z
        · simp [Array.getElem?_eq_none (show vs.size<=k' by omega)] at e1
      obtain ⟨b1,ra1⟩:=hat k ds[k] vs[k] (by simp [hkd]) (by simp [hk]);obtain ⟨b2,ra2⟩:=hat k' dk vs[k] e2 (by simpa using e1);rw [qG ra1 ra2] at hb;rw [hb] at e3;cases e3
  have hj:l6 ds d < vs.size:=by omega
  refine call_meets PySem.F.slot_list_index ht PySem.F.entry_list_index (PySem.F.args_list_index_2 _ _) (SeqAt.list_indexAt l vs n od os x e (l6 ds d) hj (by omega) (by rw [he _ hj];exact List.findIdx_getElem (p:=fun y=>PyData.eqv y d) (w:=hk)) fun m hm hlt=>by
    rw [he m hm];have:=List.not_of_lt_findIdx (p:=fun y=>PyData.eqv y d) (xs:=ds) hlt;simpa using this) ⟨hg,fun y hy=>?_,q⟩
  obtain ⟨k,hk',rfl⟩:=Array.mem_iff_getElem.mp hy;have hkd:k < ds.length:=by omega
  obtain ⟨b1,ra1⟩:=hat k ds[k] vs[k] (by simp [hkd]) (by simp [hk']);rw [he k hk'];have hm:ds[k]∈ds:=List.getElem_mem _;have:=k6 _ hm;exact SeqAt.eqAt_reads _ _ _ _ _ _ _ _ ra1 r2 (jl c1 _ hm) c2 (by show A.units+1+_ < _;omega)
end
section
variable {X:Cx} {o e:Expr} {fo fe:Fe} {apos cpos:Pos}
theorem xY (hu:X.A.units+64 < cLine):Hl X "list.index" (fun x xs H Q=>∃ (ds:List PyData) (d:PyData) (y:V),xs=[y]/\gS H (.list ds) x/\gS H d y/\kz ds d=true/\ds.length<=1000/\l6 ds d < ds.length/\Q (.int (l6 ds d:Nat)) H):=by
  intro pins s σ H x xs v us Q I rx rs h;obtain ⟨ds,d,y,rfl,hx,hy,ho,hz,hk,q⟩:=h;obtain ⟨u,rfl,ry⟩:=fq rs;obtain ⟨c1,c2,c3⟩:=iF ho;obtain ⟨as,r1⟩:=cT I.hok (d:=.list ds) (by simpa [PyData.canLay0] using c1) hx rx;obtain ⟨bs,r2⟩:=cT I.hok c2 hy ry;exact nz hu r1 r2 ho hz hk ⟨.int _,H,I.tok _,⟨_,rfl⟩,q⟩
noncomputable def iC:PyData->PyData->R PyData
  | .list ds,d=>if kz ds d=true/\ds.length<=1000/\l6 ds d < ds.length then .ok (.int (l6 ds d:Nat)) else .no
  | _,_=>.no
noncomputable def k7 (fo fe:Fe):Fe:=fun ρ=>fo ρ>>=fun x=>zJ x>>=fun _=>fe ρ>>=fun y=>iC x y
theorem sU (hu:X.A.units+64 < cLine) (ho:Z.dL X o fo) (he:Z.cL X e fe) (hb:attributeBase o "index" X.env (eval o X.env)=eval o X.env:=by rfl) (hst:bc e=true:=by rfl) (hline:(apos.endLine==cpos.line)=true:=by rfl):Z.cL X (.Call (.Attribute o "index" apos) [e] [] cpos) (k7 fo fe):=⟨have ho:=ho.un;have he:=he.un;by
  have sc:starEach [e] X.env=(false,eval e X.env)::starEach [] X.env:=bA hst;refine PE.imp (wD PySem.F.plainAttrs_list PySem.F.slot_list_index PySem.F.type_list_index (xY hu) ho (gf he jo hst) hb (by rw [sc];rfl) hline sc rfl) fun σ H Q h=>?_
  refine (eT (P:=uG) (f:=fo) (k:=fun ρ x=>zJ x>>=fun _=>fe ρ>>=fun y=>iC x y) (eL (X:=X) eO Q) h).post fun v H1 zq0=>?_
  obtain ⟨ρ1,d1,sl1,_,p1,q1⟩:=zq0;cases d1 with
  | list ds =>
    obtain ⟨a,vs,rfl,h1,r1⟩:=dE (K:=X.K) p1;refine ⟨.inl ⟨rfl,_,h1⟩,?_⟩;have q1:uc X hJ (ah fe aG ρ1>>=one (iC (.list ds))) H1 Q:=by
      have e0:(ah fe aG ρ1>>=one (iC (.list ds)))=(fe ρ1>>=fun y=>iC (.list ds) y):=by
        unfold ah aG;cases fe ρ1 <;> rfl
      rw [e0];exact q1
    refine (jk (I:=Rp) (f:=ah fe aG) (k:=fun _=>one (iC (.list ds))) (eL (X:=X) eO Q) ⟨ρ1,sl1,q1⟩).post fun us H2 zq0=>?_
    obtain ⟨_,ds2,_,s2,p2,q2⟩:=zq0;unfold one at q2;split at q2
    · rename_i d2;simp only [RA] at p2;obtain ⟨w,r',rfl,p2,rfl⟩:=p2;simp only [iC] at q2;split at q2
      · rename_i hz;exact ⟨ds,d2,w,rfl,gS.mono p1 s2,.inl p2,hz.1,hz.2.1,hz.2.2,q2 _ H2 (aM.refl _) de⟩
      · exact q2.elim
    · exact q2.elim
  | _=>exact q1.elim⟩
end
theorem xf {P:Program} {w:World} {K:PySem.W.Frag} {mg:Str->Option Value} {base:Heap} {x qual:Str} {st:Stmt} {f:Addr} {fd:FuncData} {N ps:List Str} {k:Nat} {g:Fs} (F:gp K x qual st f fd) (S:aX N ps (aj st))
    (body:∀ (cdv:Value) (A:Around) (outer:List Env) (s:Shared) (H:Hp) (E:XK),eQ k (A.deeper (envOfC qual (aj st) s.heap.objs.size f cdv)) ->
      Z.lS (fP (cQ P w mg) P w K mg base N qual (aj st) f cdv A outer s H E) (cX st) g):bi P w K mg base (cQ P w mg) (k+1) f fd ps (dt (dF N.length g) ps.length) :=
  D2.BH F S fun cdv A outer s H E hr=>(body cdv A outer s H E hr).un
theorem aH {P:Program} {w:World} {K:PySem.W.Frag} {mg:Str->Option Value} {base:Heap} {x qual:Str} {st:Stmt} {f:Addr} {fd:FuncData} {N ps:List Str} {k:Nat} {g:Fs} {G:List Str} (F:gp K x qual st f fd) (S:aX N ps (aj st)) (ck:vO (aj st) N G)
    (body:∀ (cdv:Value) (A:Around) (outer:List Env) (s:Shared) (H:Hp) (E:XK),eQ k (A.deeper (envOfC qual (aj st) s.heap.objs.size f cdv))->Tb (fP (cQ P w mg) P w K mg base N qual (aj st) f cdv A outer s H E) N.length G ->
      Z.lS (fP (cQ P w mg) P w K mg base N qual (aj st) f cdv A outer s H E) (cX st) g):bi P w K mg base (cQ P w mg) (k+1) f fd ps (dt (dF N.length g) ps.length) :=
  xf F S fun cdv A outer s H E hr=>body cdv A outer s H E hr (DZ hr ck)
noncomputable def x0 {P:Program} {w:World} {K:PySem.W.Frag} {mg:Str->Option Value} {base:Heap} {f:Addr} {fd:FuncData} {ps:List Str} {n k:Nat}:bi P w K mg base (cQ P w mg) k f fd ps (dt (fun _=>.no) n) :=
  have no:∀ vs H Q E,¬ dt (fun _=>.no) n vs H Q E:=fun vs H Q E ⟨ds,_,_,z⟩=>z
  ⟨fun vs H Q E h=>absurd h (no vs H Q E),fun A outer s H args us vs Q E _ _ _ _ h=>absurd h (no vs H Q E)⟩
noncomputable def nI (K:PySem.W.Frag):Bool:=K.all fun p=>match p.2.cls with
  | .type n=>!(n == "list")
  | _=>true
theorem oW {α β:Type} [BEq α] {a:α} {o:β}:∀ {K:List (α×β)},K.lookup a=some o->∃ p∈K,p.2=o
  | [],e=>by cases e
  | (b,x)::r,e=>by
    rw [List.lookup_cons] at e;split at e
    · cases e;exact ⟨_,List.mem_cons_self,rfl⟩
    · obtain ⟨p,h1,h2⟩:=oW e;exact ⟨p,List.mem_cons_of_mem _ h1,h2⟩
theorem vk {K:PySem.W.Frag} (h:nI K=true) {a:Addr} {o:Obj} (e:K.lookup a=some o) (c:o.cls=.type "list"):False:=by
  obtain ⟨p,m,rfl⟩:=oW e;have q:=List.all_eq_true.mp h _ m;simp only [c] at q;simp at q
noncomputable def zP (F:List PyData->R PyData):Prop:=∀ ns:List Int,ns.length<=63->F [.list (ns.map .int)]=.ok (.bool true)
theorem IT {l:PySem.W.OpenLaw} {q:Program} {loose:List Str} {XP:(Str->Option Value)->Heap->Prop} {YP:World->Heap->Prop} {d:DefRec} {K:Params->PySem.W.Frag} {k:Nat} {x:Str} {F:List PyData->R PyData} (hn:l.most=some 63) (hdf:d.params.defaults=[])
    (hr:eQ k callerA) (hY:∀ (w:World) (h:Heap),YP w h->(K w.params).In h) (hF:zP F)
    (G:∀ (w:World) (mg:Str->Option Value) (fa:Addr) (h:Heap),(K w.params).In h->h.Ns mainGlobals mg->mg d.name=some (.ref fa) ->
      nI (K w.params)=true/\∃ fd:FuncData,(∀ (s:Shared) (u:Value),BindsTo s fd ⟨[u],[]⟩ [(x,u)])/\∀ base:Heap,(K w.params).In base->base.Ns mainGlobals mg->bi l.prog w (K w.params) mg base (cQ l.prog w mg) k fa fd [x] (dt F 1)) :
    PySem.W.WalkO q loose XP YP l.row.toRowW d [] (fun f vs=>PySem.call f vs):=by
  refine Att.attach_call hn hdf fun w s₀ s₁ mg mb fa o pm cd doc a vs ns G0 Y ho hd hcd hmg hobj hints hlen hg=>?_
  have KX:=hY w _ Y;obtain ⟨nl,fd,hb,hG⟩:=G w mg fa _ KX G0.T.g hmg;refine L2.zQ (sp:=dt F 1) KX G0.T.g G0.T.b G0.T.builtins G0.T.nolimit hg hobj hints (Nat.le_trans hlen (by decide)) hr hG hb (fun H hO hS=>?_) fun H e s' ⟨_,_,_,_,_,z⟩=>z
  refine ⟨[.list (ns.map .int)],bK.cons ?_ bK.nil,rfl,?_⟩
  · rcases hS with (h | ⟨o,h⟩) | ⟨o,its,n,h,c,_⟩
    · rcases hO a with z | ⟨o,xs,z⟩
      · rw [z] at h;cases h
      · rw [z] at h;cases h
    · simp only [Rp];exact ⟨a,o,_,rfl,h,bK.ints ns⟩
    · exact (vk nl h c).elim
  · rw [hF ns hlen];intro v H' _ r;simpa only [Rp] using r
section
variable {K:PySem.W.Frag} {x qual:Str} {st:Stmt} {f:Addr} {fd:FuncData} {p1 p2 p3 p4 p5 p6 p7:Str}
theorem CW (F:gp K x qual st f fd) (h:∀ (kV doc pm:Value) (an:Option Addr) (cdv ct:Value) (a1:Value),bindArgs (PySem.W.fnOf x qual (dW st) (cX st) (aj st) .none kV doc pm an cdv ct) ⟨[a1],[]⟩=pure [(p1,a1)]):bM K fd [p1] []:=F.binds fun kV doc pm an cdv ct us hl=>by
    obtain ⟨a1,r0,rfl,q0⟩:=D2.ju hl;obtain rfl:=List.eq_nil_of_length_eq_zero q0;exact h kV doc pm an cdv ct a1
theorem rE (F:gp K x qual st f fd) (h:∀ (kV doc pm:Value) (an:Option Addr) (cdv ct:Value) (a1 a2:Value),bindArgs (PySem.W.fnOf x qual (dW st) (cX st) (aj st) .none kV doc pm an cdv ct) ⟨[a1,a2],[]⟩=pure [(p1,a1),(p2,a2)]):bM K fd [p1,p2] []:=F.binds fun kV doc pm an cdv ct us hl=>by
    obtain ⟨a1,r0,rfl,q0⟩:=D2.ju hl;obtain ⟨a2,r1,rfl,q1⟩:=D2.ju q0;obtain rfl:=List.eq_nil_of_length_eq_zero q1;exact h kV doc pm an cdv ct a1 a2
theorem Hu (F:gp K x qual st f fd) (h:∀ (kV doc pm:Value) (an:Option Addr) (cdv ct:Value) (a1 a2 a3:Value),bindArgs (PySem.W.fnOf x qual (dW st) (cX st) (aj st) .none kV doc pm an cdv ct) ⟨[a1,a2,a3],[]⟩=pure [(p1,a1),(p2,a2),(p3,a3)]):bM K fd [p1,p2,p3] []:=F.binds fun kV doc pm an cdv ct us hl=>by
    obtain ⟨a1,r0,rfl,q0⟩:=D2.ju hl;obtain ⟨a2,r1,rfl,q1⟩:=D2.ju q0;obtain ⟨a3,r2,rfl,q2⟩:=D2.ju q1;obtain rfl:=List.eq_nil_of_length_eq_zero q2;exact h kV doc pm an cdv ct a1 a2 a3
theorem IZ (F:gp K x qual st f fd) (h:∀ (kV doc pm:Value) (an:Option Addr) (cdv ct:Value) (a1 a2 a3 a4:Value),bindArgs (PySem.W.fnOf x qual (dW st) (cX st) (aj st) .none kV doc pm an cdv ct) ⟨[a1,a2,a3,a4],[]⟩=pure [(p1,a1),(p2,a2),(p3,a3),(p4,a4)]):bM K fd [p1,p2,p3,p4] []:=F.binds fun kV doc pm an cdv ct us hl=>by
    obtain ⟨a1,r0,rfl,q0⟩:=D2.ju hl;obtain ⟨a2,r1,rfl,q1⟩:=D2.ju q0;obtain ⟨a3,r2,rfl,q2⟩:=D2.ju q1;obtain ⟨a4,r3,rfl,q3⟩:=D2.ju q2;obtain rfl:=List.eq_nil_of_length_eq_zero q3;exact h kV doc pm an cdv ct a1 a2 a3 a4
end
@[simp] theorem cn {α:Type} (a:α):lL (R.ok a)=.ok a:=rfl
@[simp] theorem Ix {α:Type}:lL (R.no:R α)=.no:=rfl
@[simp] theorem Iw {α:Type} (c:Str):lL (R.ex c:R α)=.no:=rfl
noncomputable def AB:uF->R PyData
  | .rt d=>.ok d
  | .nx _=>.ok .none
  | _=>.no
theorem eW (n:Nat) (g:Fs) (ds:List PyData):dF n g ds=(g (ds.map br.val++List.replicate (n-ds.length) .non)>>=AB):=by
  unfold dF;congr 1
@[simp] theorem HF (d:PyData):AB (.rt d)=.ok d:=rfl
@[simp] theorem HE (r:aT):AB (.nx r)=.ok .none:=rfl
section
variable (f g h:Fe) (ρ:aT) (i j:Nat) (t u:aT->R Bool) (a b:Fs) (fs:aT->R (List PyData)) (F:List PyData->R PyData) (d e:PyData)
@[simp] theorem bY:eC d ρ=.ok d:=rfl
@[simp] theorem am:af 0 (.val d::ρ)=.ok d:=rfl
@[simp] theorem ar (c:br):af (i+1) (c::ρ)=af i ρ:=rfl
@[simp] theorem HB:gI 0 (.val d::ρ)=.ok d:=rfl
@[simp] theorem v8:gI 0 (.own d::ρ)=.ok d:=rfl
@[simp] theorem v9 (c:br):gI (i+1) (c::ρ)=gI i ρ:=rfl
@[simp] theorem bU (k:PyData->R PyData):e1 k f ρ=(f ρ>>=fun x=>k x):=rfl
@[simp] theorem bz (k:PyData->PyData->R PyData):e2 k f g ρ=(f ρ>>=fun x=>g ρ>>=fun y=>k x y):=rfl
@[simp] theorem cP:tE f ρ=(f ρ>>=tu):=rfl
@[simp] theorem cW (k:Bool):tu (.bool k)=.ok k:=rfl
@[simp] theorem lH:pB t u ρ=(t ρ>>=fun k=>if k=true then u ρ else .ok false):=rfl
@[simp] theorem wN:E7 t u ρ=(t ρ>>=fun k=>if k=true then .ok true else u ρ):=rfl
@[simp] theorem pD:pC t ρ=(t ρ>>=fun k=>.ok (!k)):=rfl
@[simp] theorem Bz:zr f g ρ=(f ρ>>=fun d=>tu d>>=fun k=>if k=true then g ρ else .ok (.bool false)):=rfl
@[simp] theorem Ih:Js f g ρ=(f ρ>>=fun d=>tu d>>=fun k=>if k=true then .ok (.bool true) else g ρ):=rfl
@[simp] theorem Hz:D3 f ρ=(f ρ>>=fun d=>tu d>>=fun k=>.ok (.bool (!k))):=rfl
@[simp] theorem u0:Da t f g ρ=(t ρ>>=fun k=>if k=true then f ρ else g ρ):=rfl
@[simp] theorem aS:aG ρ=.ok []:=rfl
@[simp] theorem aD:ah f fs ρ=(f ρ>>=fun d=>fs ρ>>=fun ds=>.ok (d::ds)):=rfl
@[simp] theorem aP:aF F fs ρ=(fs ρ>>=F):=rfl
@[simp] theorem Fi (p q:PyData->PyData->R PyData):rO p q f g h ρ=(f ρ>>=fun x=>g ρ>>=fun y=>p x y>>=fun d=>tu d>>=fun k=>if k=true then h ρ>>=fun z=>q y z else .ok (.bool false)):=rfl
@[simp] theorem k8:kr fs ρ=(fs ρ>>=fun ds=>if ds.length<=sizeLine then .ok (.tuple ds) else .no):=rfl
@[simp] theorem Hy:BA fs ρ=(fs ρ>>=fun ds=>if ds.length<=sizeLine then .ok (.list ds) else .no):=rfl
@[simp] theorem Ge:Gc ρ=.ok none:=rfl
@[simp] theorem Gg:Gf f ρ=(f ρ>>=fun d=>HV d>>=fun i=>.ok (some i)):=rfl
@[simp] theorem IY (k:Int):HV (.int k)=.ok k:=rfl
@[simp] theorem Ij (lo hi:Fo):Jt f lo hi ρ=(f ρ>>=fun d=>lo ρ>>=fun l=>hi ρ>>=fun u=>Hx d l u):=rfl
@[simp] theorem lA:ff ρ=.ok (.nx ρ):=rfl
@[simp] theorem ly:bB a b ρ=(a ρ>>=qP b):=rfl
@[simp] theorem ul:qP b (.nx ρ)=b ρ:=rfl
@[simp] theorem Hb:qP b (.rt d)=.ok (.rt d):=rfl
@[simp] theorem G9:qP b (.bk ρ)=.ok (.bk ρ):=rfl
@[simp] theorem Ha:qP b (.ct ρ)=.ok (.ct ρ):=rfl
@[simp] theorem fF:pY t a b ρ=(t ρ>>=fun k=>if k=true then a ρ else b ρ):=rfl
@[simp] theorem cq:cM f ρ=(f ρ>>=fun d=>.ok (.rt d)):=rfl
@[simp] theorem GL:GK ρ=.ok (.rt .none):=rfl
@[simp] theorem GJ:GI f ρ=(f ρ>>=fun _=>.ok (.nx ρ)):=rfl
@[simp] theorem Fk:ET ρ=.ok (.bk ρ):=rfl
@[simp] theorem GF:GE ρ=.ok (.ct ρ):=rfl
@[simp] theorem bD:cf i f ρ=(f ρ>>=fun d=>.ok (.nx (ρ.set i (.val d)))):=rfl
@[simp] theorem nL:i6 i f ρ=(f ρ>>=fun d=>.ok (.nx (ρ.set i (.own d)))):=rfl
@[simp] theorem bR:dA f ρ=(f ρ>>=iT):=rfl
@[simp] theorem xH:l5 fs ρ=(fs ρ>>=ug):=rfl
@[simp] theorem FZ:FY fs ρ=(fs ρ>>=GS):=rfl
@[simp] theorem FU:FT fs ρ=(fs ρ>>=FO):=rfl
@[simp] theorem FW:FV f ρ=(f ρ>>=Dg):=rfl
@[simp] theorem F2:F1 f ρ=(f ρ>>=DC):=rfl
@[simp] theorem cH (ds:List PyData):iT (.tuple ds)=.ok ds:=rfl
@[simp] theorem ss (ds:List PyData):iT (.list ds)=.ok ds:=rfl
@[simp] theorem FC:aW i d ρ=some (ρ.set i (.val d)):=rfl
@[simp] theorem gi:jZ a ρ=lL (a ρ):=rfl
theorem gO (it:aT->R (List PyData)) (bb:PyData->aT->Option aT):mm it bb a ρ=(it ρ>>=fun ds=>fV bb a ds ρ):=rfl
@[simp] theorem gu (bb:PyData->aT->Option aT):fV bb a [] ρ=.ok (.nx ρ):=by unfold fV;rfl
noncomputable def pF (k:aT->R uF):uF->R uF
  | .nx ρ=>k ρ
  | .ct ρ=>k ρ
  | .bk ρ=>.ok (.nx ρ)
  | .rt r=>.ok (.rt r)
@[simp] theorem eB (k:aT->R uF):pF k (.nx ρ)=k ρ:=rfl
@[simp] theorem He (k:aT->R uF):pF k (.ct ρ)=k ρ:=rfl
@[simp] theorem Hd (k:aT->R uF):pF k (.bk ρ)=.ok (.nx ρ):=rfl
@[simp] theorem Hf (k:aT->R uF):pF k (.rt d)=.ok (.rt d):=rfl
theorem eK (i:Nat) (ds:List PyData):fV (aW i) a (d::ds) ρ=(a (ρ.set i (.val d))>>=pF (fV (aW i) a ds)):=by
  rw [fV];show (a (ρ.set i (.val d))>>=_)=_;congr 1
theorem xC (i j:Nat) (x y:PyData) (ds:List PyData):fV (eA i j) a (.tuple [x,y]::ds) ρ=(a ((ρ.set i (.val x)).set j (.val y))>>=pF (fV (eA i j) a ds)):=by
  rw [fV];show (a ((ρ.set i (.val x)).set j (.val y))>>=_)=_;congr 1
theorem bg {a b:Fs} {ρ ρ':aT} (h:a ρ=.ok (.nx ρ')):bB a b ρ=b ρ':=by rw [ly,h];rfl
theorem AG {a b:Fs} {ρ:aT} {d:PyData} (h:a ρ=.ok (.rt d)):bB a b ρ=.ok (.rt d):=by rw [ly,h];rfl
theorem dZ {n:Nat} {g:Fs} {ds:List PyData} {d:PyData} (h:g (ds.map br.val++List.replicate (n-ds.length) .non)=.ok (.rt d)):dF n g ds=.ok d:=by rw [eW,h];rfl
theorem cS (bb:PyData->aT->Option aT):bP bb t f ρ []=.ok []:=by unfold bP;rfl
theorem dz (i:Nat) (ds:List PyData):bP (aW i) t f ρ (d::ds)=(t (ρ.set i (.val d))>>=fun k=>if k=true then f (ρ.set i (.val d))>>=fun x=>bP (aW i) t f ρ ds>>=fun xs=>.ok (x::xs) else bP (aW i) t f ρ ds):=by
  rw [bP];rfl
theorem kq (i j:Nat) (x y:PyData) (ds:List PyData):bP (eA i j) t f ρ (.tuple [x,y]::ds)=(t ((ρ.set i (.val x)).set j (.val y))>>=fun k=>if k=true then f ((ρ.set i (.val x)).set j (.val y))>>=fun x=>bP (eA i j) t f ρ ds>>=fun xs=>.ok (x::xs) else bP (eA i j) t f ρ ds):=by
  rw [bP];rfl
@[simp] theorem F4:F3 f g h ρ=(f ρ>>=fun x=>g ρ>>=fun y=>h ρ>>=fun z=>vG x>>=fun xs=>vG y>>=fun ys=>vG z>>=fun zs=>.ok (A2 xs ys zs)):=rfl
@[simp] theorem IS (ds:List PyData):vG (.tuple ds)=.ok ds:=rfl
@[simp] theorem zu:zt fs ρ=(fs ρ>>=Ds .tuple):=rfl
@[simp] theorem FQ:FP fs ρ=(fs ρ>>=Ds .list):=rfl
theorem GC {mk:List PyData->PyData} {n:Int} (h0:0<=n) (h1:n<=1000000):Ds mk [.int n]=.ok (mk (ce 0 n.toNat)):=by
  show (if n<=16777216/\-(2 ^ 62)<=n then R.ok (mk (ce 0 n.toNat)) else .no)=_;rw [if_pos (by omega)]
@[simp] theorem HA (lo hi:Fo):Ii f lo hi ρ=(f ρ>>=fun d=>lo ρ>>=fun l=>hi ρ>>=fun u=>FH d l u):=rfl
@[simp] theorem Cy (op:Int->Int->Int):yf i op f ρ=(af i ρ>>=fun x=>f ρ>>=fun y=>Hv op x y>>=fun z=>.ok (.nx (ρ.set i (.val z)))):=rfl
@[simp] theorem FF (op:Int->Int->Int) (m n:Int):Hv op (.int m) (.int n)=.ok (.int (op m n)):=rfl
theorem nM {ρ:aT} {i:Nat} {ds:List PyData} {fk fv:Fe} {n:Int} {v:PyData} (h:ρ[i]?=some (.own (.list ds))) (hk:fk ρ=.ok (.int n)) (hv:fv ρ=.ok v) (h0:0<=n) (h1:n < ds.length):im i fk fv ρ=.ok (.nx (ρ.set i (.own (.list (ds.set n.toNat v))))):=by
  unfold im;rw [hv,hk,h];simp only [lL,R.ok_bind];have:L2.wl ds.length n=some n.toNat:=by unfold L2.wl;rw [if_pos h0,if_pos h1]
  rw [this]
@[simp] theorem BL:BK f g ρ=(f ρ>>=fun x=>g ρ>>=fun y=>iT x>>=fun xs=>iT y>>=fun ys=>.ok (nC xs ys)):=rfl
@[simp] theorem jr:lc f ρ=(f ρ>>=fun x=>iT x>>=fun xs=>.ok (df 0 xs)):=rfl
theorem ye {ρ:aT} {i:Nat} {ds:List PyData} (f:Fe) (h:ρ[i]?=some (.own (.list ds))) (hz:ds.length < sizeLine):jR i f ρ=(lL (f ρ)>>=fun d=>.ok (.nx (ρ.set i (.own (.list (ds++[d])))))):=by
  unfold jR;congr 1;funext d;rw [h];exact if_pos hz
noncomputable def Ei:R (List PyData)->R PyData
  | .ok xs=>.ok (.list xs)
  | .ex c=>.ex c
  | .no=>.no
@[simp] theorem HD (c:Str):Ei (.ex c)=.ex c:=rfl
@[simp] theorem fJ (xs:List PyData):Ei (.ok xs)=.ok (.list xs):=rfl
theorem bp (it:aT->R (List PyData)) (own:Nat) (fr:List Nat) (bb:PyData->aT->Option aT):bE it own fr bb t f ρ=(lL (it ρ)>>=fun ds=>if ds.length<=sizeLine then Ei (bP bb t f (ay own fr ρ) ds) else .no):=by
  unfold bE;congr 1
theorem gr (i:Nat) (G:PyData->PyData):∀ (ds:List PyData),(∀ d∈ds,f (ρ.set i (.val d))=.ok (G d))->bP (aW i) (fun _=>.ok true) f ρ ds=.ok (ds.map G)
  | [],_=>cS ..
  | d::ds,hh=>by
    rw [dz,hh d List.mem_cons_self,gr i G ds fun x hx=>hh x (List.mem_cons_of_mem _ hx)];rfl
end
section
variable (i j:Int) (xs ys:List PyData)
@[simp] theorem Ib:Ia (.int i)=.ok (.int (-i)):=rfl
@[simp] theorem zl:eU (.int i) (.int j)=.ok (.int (i+j)):=rfl
@[simp] theorem DU:eU (.tuple xs) (.tuple ys)=if xs.length+ys.length<=sizeLine then .ok (.tuple (xs++ys)) else .no:=rfl
@[simp] theorem HW:eU (.list xs) (.list ys)=if xs.length+ys.length<=sizeLine then .ok (.list (xs++ys)) else .no:=rfl
@[simp] theorem zo:nv (.int i) (.int j)=.ok (.int (i-j)):=rfl
@[simp] theorem rN:fy (.int i) (.int j)=if 0 < j then .ok (.int (i%j)) else .no:=rfl
@[simp] theorem HX:pT (.int i) (.int j)=if 0 < j/\j < 1073741824 then .ok (.int (i / j)) else .no:=rfl
theorem DX:ge (.int i) (.int j)=if (-(2 ^ 64) < i/\i < 2 ^ 64)\/(-(2 ^ 64) < j/\j < 2 ^ 64) then .ok (.int (i*j)) else .no:=rfl
@[simp] theorem iB (p:Int->Int->Bool):fj p (.int i) (.int j)=.ok (.bool (p i j)):=rfl
@[simp] theorem H9:DW (.int i) (.int j)=.ok (.int (if j < i then j else i)):=rfl
@[simp] theorem H8:DV (.int i) (.int j)=.ok (.int (if j > i then j else i)):=rfl
@[simp] theorem rM:dg (.tuple xs)=.ok (.int xs.length):=rfl
@[simp] theorem ox:dg (.list xs)=.ok (.int xs.length):=rfl
@[simp] theorem h8:cD (.list xs)=.ok (.tuple xs):=rfl
@[simp] theorem FI:cD (.tuple xs)=.ok (.tuple xs):=rfl
@[simp] theorem Hw:qh (.list xs)=.ok (.list xs):=rfl
@[simp] theorem Bv:qh (.tuple xs)=.ok (.list xs):=rfl
@[simp] theorem HZ:Bt (.int i)=.ok (.int i):=rfl
@[simp] theorem HY (k:Bool):Bt (.bool k)=.ok (.int (if k then 1 else 0)):=rfl
@[simp] theorem Jc (lo hi:Option Int):Hx (.tuple xs) lo hi=.ok (.tuple (zk xs lo hi)):=rfl
@[simp] theorem Jb (lo hi:Option Int):Hx (.list xs) lo hi=.ok (.list (zk xs lo hi)):=rfl
@[simp] theorem Id:Ic (.tuple xs)=.ok (.tuple xs.reverse):=rfl
theorem rC {α:Type} {xs:List α} {i:Int} (h0:0<=i) (h1:i < xs.length):L2.atI xs i=some (xs[i.toNat]'(by omega)):=by
  unfold L2.atI wl;rw [if_pos h0,if_pos h1];exact List.getElem?_eq_getElem (by omega)
theorem zn {xs:List PyData} {i:Int} (h0:0<=i) (h1:i < xs.length):bQ (.tuple xs) (.int i)=.ok (xs[i.toNat]'(by omega)):=by
  show (match L2.atI xs i with | some d=>R.ok d | none=>.no)=_;rw [rC h0 h1]
theorem vZ {xs:List PyData} {i:Int} (h0:0<=i) (h1:i < xs.length):bQ (.list xs) (.int i)=.ok (xs[i.toNat]'(by omega)):=by
  show (match L2.atI xs i with | some d=>R.ok d | none=>.no)=_;rw [rC h0 h1]
theorem rR:PyData.eqv (.int i) (.int j)=decide (i=j):=by
  simp only [PyData.eqv];by_cases h:i=j
  · subst h;simp
  · simp [h]
theorem fZ:jK (.int i) (.int j)=.ok (.bool (decide (i=j))):=by
  unfold jK;rw [if_pos (by rfl),rR]
theorem FG:ut (.int i) (.int j)=.ok (.bool (!decide (i=j))):=by
  unfold ut;rw [if_pos (by rfl),rR]
end
end D2
namespace G
open PySem PySem.Spec PyProof.Rows L2 D2
noncomputable def Iu:PyData->Bool
  | .int _=>true
  | _=>false
noncomputable def noD:PyData->Prop
  | .dict _=>False
  | _=>True
noncomputable def CY (d:PyData) (lo hi:Int):Bool:=match d with
  | .int i=>decide (lo<=i)&&decide (i<=hi)
  | _=>false
noncomputable def jx (c:Int):Int->List PyData->Bool
  | _,[]=>true
  | l,d::r=>match d with
    | .int i=>(decide (l<=i)&&decide (i < c))&&jx c (i+1) r
    | _=>false
@[simp] noncomputable def Dv (c:Int):PyData->Bool
  | .tuple ds=>jx c 0 ds
  | _=>false
noncomputable abbrev fL (d:PyData):Prop:=d.canLay0=true
theorem fL.noD {d:PyData} (h:fL d):noD d:=by
  cases d <;> first | trivial | (simp [fL,PyData.canLay0] at h)
theorem wf:∀ {ds:List PyData},PyData.canLayAll0 ds=true->∀ x∈ds,fL x
  | [],_,x,hx=>by cases hx
  | d::ds,h,x,hx=>by
    have h':d.canLay0=true/\PyData.canLayAll0 ds=true:=by simpa [PyData.canLayAll0] using h
    rcases List.mem_cons.mp hx with rfl | hx
    · exact h'.1
    · exact wf h'.2 x hx
theorem kS:∀ {ds:List PyData},(∀ x∈ds,fL x)->PyData.canLayAll0 ds=true
  | [],_=>by simp [PyData.canLayAll0]
  | d::ds,h=>by
    have h1:=h d List.mem_cons_self;have h2:=kS fun x hx=>h x (List.mem_cons_of_mem _ hx)
    simp only [PyData.canLayAll0,Bool.and_eq_true];exact ⟨h1,h2⟩
theorem fD {ds:List PyData}:fL (.tuple ds)<->∀ x∈ds,fL x:=by
  constructor
  · intro h;exact wf (by simpa [fL,PyData.canLay0] using h)
  · intro h;simp only [fL,PyData.canLay0];exact kS h
theorem gv (i:Int):fL (.int i):=by simp [fL,PyData.canLay0]
theorem xE:fL .none:=by simp [fL,PyData.canLay0]
theorem bI {n:Nat} (h:n<=1000):n<=sizeLine:=Nat.le_trans h (by decide)
noncomputable abbrev sr (ns:List Int):PyData:=.list (ns.map .int)
theorem iD {i j:Int} (h:(-(2 ^ 64) < i/\i < 2 ^ 64)\/(-(2 ^ 64) < j/\j < 2 ^ 64)):ge (.int i) (.int j)=.ok (.int (i*j)):=by rw [DX,if_pos h]
structure uE (c:Int) (n:Nat) (kvs:List (PyData×PyData)):Prop where
  ex:∃ ns:List Int,kvs.map (·.1)=ns.map PyData.int/\(∀ x∈ns,0<=x/\x < c)/\ns.length<=n/\(n=0\/ns≠[])/\ns.Nodup
theorem uE.put {c:Int} {n:Nat} {kvs:List (PyData×PyData)} (h:uE c n kvs) {k:Int} (h0:0<=k) (h1:k < c) (v:PyData):uE c (n+1) (vp kvs (.int k) v):=by
  obtain ⟨ns,e,hb,hl,hn,nd⟩:=h.ex;have hany:(kvs.any fun kv=>gK kv.1 (.int k))=ns.any fun i=>decide (i=k):=by
    have:(kvs.any fun kv=>gK kv.1 (.int k))=(kvs.map (·.1)).any fun d=>gK d (.int k):=by rw [List.any_map];rfl
    rw [this,e,List.any_map];rfl
  unfold vp;rw [hany];by_cases hm:k∈ns
  · have ha:(ns.any fun i=>decide (i=k))=true:=by simp;exact hm
    rw [if_pos ha];refine ⟨ns,?_,hb,by omega,.inr (by intro z;rw [z] at hm;cases hm),nd⟩;rw [<- e,List.map_map];apply List.map_congr_left;intro kv _;show (if gK kv.1 (.int k)=true then (kv.1,v) else kv).1=kv.1;split <;> rfl
  · have ha:¬ (ns.any fun i=>decide (i=k))=true:=by simp;exact hm
    rw [if_neg ha];refine ⟨ns++[k],by rw [List.map_append,List.map_append,e];rfl,fun x hx=>?_,by simp;omega,.inr (by simp),?_⟩
    · rcases List.mem_append.mp hx with z | z
      · exact hb x z
      · simp at z;subst z;exact ⟨h0,h1⟩
    · rw [List.nodup_append];refine ⟨nd,by simp,fun a hma b hb'=>?_⟩;simp at hb';subst hb';rintro rfl;exact hm hma
theorem uE.len {c:Int} {n:Nat} {kvs:List (PyData×PyData)} (h:uE c n kvs):kvs.length<=n:=by
  obtain ⟨ns,e,_,hl,_⟩:=h.ex;have:=congrArg List.length e;simp at this;omega
theorem ua (lo:Int) (n:Nat):∀ d∈ce lo n,∃ k,d=.int k:=fun d hd=>by
  unfold ce at hd;obtain ⟨k,_,rfl⟩:=List.mem_map.mp hd;exact ⟨_,rfl⟩
theorem gA (lo:Int) (n:Nat):(ce lo n).length=n:=by unfold ce;simp
theorem Bu {xs:List PyData} {i:Int} (h0:0<=i) (h1:i < xs.length):∃ x∈xs,bQ (.list xs) (.int i)=.ok x:=⟨_,List.getElem_mem _,vZ h0 h1⟩
structure P4 where
  w:Int
  m:Int
  g:Int
  ns:List Int
noncomputable def P4.d (p:P4):PyData:=.tuple [.int p.w,.int p.m,.int p.g,.tuple (p.ns.map .int)]
structure Pl (c hi:Int) (p:P4):Prop where
  w0:0<=p.w
  w1:p.w<=1
  m0:0<=p.m
  m1:p.m<=hi
  g0:-20<=p.g
  g1:p.g<=20
  ne:p.ns≠[]
  so:p.ns.Pairwise (· < ·)
  inn:∀ x∈p.ns,0<=x/\x < c
theorem kI:∀ (ns:List Int) (l c:Int),ns.Pairwise (· < ·)->(∀ x∈ns,l<=x/\x < c)->ns=[]\/l+(ns.length:Int)<=c
  | [],_,_,_,_=>.inl rfl
  | x::r,l,c,hp,hb=>by
    right;obtain ⟨h1,h2⟩:=List.pairwise_cons.mp hp;have hx:=hb x List.mem_cons_self;rcases kI r (x+1) c h2 (fun y hy=>⟨by have:=h1 y hy;omega,(hb y (List.mem_cons_of_mem _ hy)).2⟩) with rfl | z
    · simp;omega
    · rw [List.length_cons];omega
theorem Pl.len {c hi:Int} {p:P4} (h:Pl c hi p):(p.ns.length:Int)<=c:=by
  rcases kI p.ns 0 c h.so h.inn with z | z
  · exact absurd z h.ne
  · omega
noncomputable abbrev gD (ps:List P4):PyData:=.tuple (ps.map P4.d)
theorem qO {ns:List Int} (h:ns.Pairwise (·<=·)) (nd:ns.Nodup):ns.Pairwise (· < ·):=by
  have:=h.and nd;exact this.imp fun ⟨a,b⟩=>by omega
theorem sj (c:Int):∀ (ns:List Int) (l:Int),ns.Pairwise (· < ·)->(∀ x∈ns,l<=x/\x < c)->jx c l (ns.map .int)=true
  | [],_,_,_=>rfl
  | x::r,l,hp,hb=>by
    obtain ⟨h1,h2⟩:=List.pairwise_cons.mp hp;have hx:=hb x List.mem_cons_self;simp only [List.map_cons,jx,Bool.and_eq_true,decide_eq_true_eq];exact ⟨⟨hx.1,hx.2⟩,sj c r (x+1) h2 fun y hy=>⟨by have:=h1 y hy;omega,(hb y (List.mem_cons_of_mem _ hy)).2⟩⟩
end G
noncomputable section
namespace G
open PySem PySem.Spec PyProof.Rows L2 D2
noncomputable def gV:Fs :=
  (bB (pY (tE (e2 (fj Je) (af 1) (e1 dg (af 0)))) (cM (e2 bQ (af 0) (af 1))) ff) (cM (eC (.int 0))))
noncomputable def cv:List PyData->R PyData:=dF 2 (gV)
noncomputable def je (cv:List PyData->R PyData):Fs :=
  (bB (cf 2 (e2 fy (e2 ge (e2 eU (e2 eU (aF cv (ah (af 0) (ah (af 1) aG))) (e2 ge (eC (.int 7919)) (af 1))) (eC (.int 1))) (eC (.int 48271))) (eC (.int 2147483647)))) (cM (e2 fy (e2 eU (e2 eU (e2 ge (af 2) (af 2)) (e2 ge (eC (.int 7)) (af 2))) (af 1)) (eC (.int 2147483629)))))
noncomputable def bx:List PyData->R PyData:=dF 3 (je cv)
noncomputable def jc:Fs :=
  (bB (cf 2 (e2 fy (e2 ge (e2 eU (e2 eU (af 0) (e2 ge (eC (.int 104729)) (af 1))) (eC (.int 17))) (eC (.int 69621))) (eC (.int 2147483647)))) (cM (e2 fy (e2 eU (e2 eU (e2 ge (af 2) (af 2)) (e2 ge (eC (.int 3)) (af 2))) (af 1)) (eC (.int 2147483629)))))
noncomputable def bJ:List PyData->R PyData:=dF 3 (jc)
noncomputable def jd (bJ:List PyData->R PyData):Fs :=
  (bB (i6 2 (eC (.dict []))) (bB (jZ (mm (l5 (ah (e2 eU (e2 eU (eC (.int 1)) (e2 fy (af 0) (eC (.int 3)))) (e2 ge (eC (.int 20)) (e1 Bt (e2 (jK) (e2 fy (e2 pT (af 0) (eC (.int 3))) (eC (.int 29))) (eC (.int 7)))))) aG)) (aW 3) (Cz 2 (e2 fy (aF bJ (ah (af 0) (ah (af 3) aG))) (af 1)) (eC (.bool true))))) (cM (e1 cD (e1 kZ (gI 2))))))
noncomputable def cV:List PyData->R PyData:=dF 4 (jd bJ)
noncomputable def jf (bJ:List PyData->R PyData) (cV:List PyData->R PyData):Fs :=
  (bB (cf 3 (e2 nv (e2 fy (e2 pT (af 0) (eC (.int 26))) (eC (.int 9))) (eC (.int 4)))) (bB (pY (tE (e2 (jK) (e2 fy (e2 pT (af 0) (eC (.int 234))) (eC (.int 11))) (eC (.int 3)))) (cf 3 (e2 nv (e2 fy (e2 pT (af 0) (eC (.int 26))) (eC (.int 41))) (eC (.int 20)))) ff) (cM (kr (ah (e2 fy (af 0) (eC (.int 2))) (ah (e2 fy (e2 pT (af 0) (eC (.int 2))) (e2 eU (af 2) (eC (.int 1)))) (ah (af 3) (ah (aF cV (ah (aF bJ (ah (af 0) (ah (eC (.int 9)) aG))) (ah (af 1) aG))) aG))))))))
noncomputable def cJ:List PyData->R PyData:=dF 4 (jf bJ cV)
noncomputable def iw (bx:List PyData->R PyData) (cJ:List PyData->R PyData):Fs :=
  (bB (cf 2 (aF bx (ah (af 0) (ah (eC (.int 0)) aG)))) (bB (cf 3 (e2 eU (eC (.int 1)) (e2 fy (af 2) (e2 DW (af 1) (e2 DV (eC (.int 4)) (e1 dg (af 0))))))) (bB (cf 4 (e2 bQ (BA (ah (eC (.int 1)) (ah (eC (.int 2)) (ah (eC (.int 3)) (ah (eC (.int 5)) (ah (eC (.int 12)) (ah (eC (.int 12)) aG))))))) (e2 fy (e2 pT (af 2) (eC (.int 24))) (eC (.int 6))))) (cM (e1 cD (bE (l5 (ah (af 3) aG)) 1 [0,3,4] (aW 0) (fun _=>.ok true) (aF cJ (ah (aF bx (ah (af 1) (ah (e2 eU (eC (.int 3)) (af 0)) aG))) (ah (af 2) (ah (af 3) aG))))))))))
noncomputable def cF:List PyData->R PyData:=dF 5 (iw bx cJ)
noncomputable def ix:Fs :=
  (cM (kr (ah (e2 bQ (af 0) (eC (.int 0))) (ah (e2 bQ (af 0) (eC (.int 1))) (ah (e2 bQ (af 0) (eC (.int 2))) (ah (e1 cD (af 1)) aG))))))
noncomputable def aI:List PyData->R PyData:=dF 2 (ix)
noncomputable def nP (aI:List PyData->R PyData):Fs :=
  (bB (cf 2 (e1 dg (af 0))) (bB (pY (tE (e2 (fj qF) (e2 eU (af 2) (e1 dg (af 1))) (eC (.int 24)))) (pd (PySem.Str.ofString "NoRoom") (eC (.str (PySem.Str.ofString "these are more places than a ground has")))) ff) (cM (e2 eU (af 0) (e1 cD (bE (dA (af 1)) 1 [2] (aW 0) (fun _=>.ok true) (aF aI (ah (af 0) (ah (bE (dA (e2 bQ (af 0) (eC (.int 3)))) 1 [1] (aW 0) (fun _=>.ok true) (e2 eU (af 0) (af 1))) aG)))))))))
noncomputable def eo:List PyData->R PyData:=dF 3 (nP aI)
noncomputable def gU:Fs :=
  (cM (e1 cD (bE (dA (af 0)) 1 [0] (aW 0) (fun _=>.ok true) (k7 (af 1) (af 0)))))
noncomputable def bX:List PyData->R PyData:=dF 1 (gU)
noncomputable def fu:Fs :=
  (cM (e1 Bw (bE (dA (e2 bQ (af 0) (eC (.int 3)))) 1 [1] (aW 0) (fun _=>.ok true) (e2 bQ (af 1) (af 0)))))
noncomputable def aJ:List PyData->R PyData:=dF 2 (fu)
noncomputable def kc (bX:List PyData->R PyData) (aJ:List PyData->R PyData):Fs :=
  (bB (cf 1 (eC .none)) (bB (cf 2 (aF bX (ah (bE (dA (af 0)) 1 [] (aW 0) (fun _=>.ok true) (kr (ah (e2 bQ (af 0) (eC (.int 0))) (ah (e2 bQ (af 0) (eC (.int 1))) aG)))) aG))) (bB (jZ (sk 1000000 (tE (e2 (ut) (af 2) (af 1))) (bB (cf 1 (af 2)) (cf 2 (aF bX (ah (bE (lc (af 0)) 2 [1] (eA 0 1) (fun _=>.ok true) (kr (ah (e2 bQ (af 2) (af 0)) (ah (aF aJ (ah (af 1) (ah (af 2) aG))) aG)))) aG)))))) (cM (af 1)))))
noncomputable def bO:List PyData->R PyData:=dF 3 (kc bX aJ)
noncomputable def nS:Fs :=
  (cM (zr (e1 (pU .int) (af 0)) (D3 (e1 (pU .bool) (af 0)))))
noncomputable def dO:List PyData->R PyData:=dF 1 (nS)
noncomputable def iu (dO:List PyData->R PyData):Fs :=
  (cM (zr (aF dO (ah (af 0) aG)) (rO (fj Dl) (fj Dl) (af 1) (af 0) (af 2))))
noncomputable def cu:List PyData->R PyData:=dF 3 (iu dO)
noncomputable def kb (cu:List PyData->R PyData):Fs :=
  (bB (pY (pC (tE (e1 (pU .tuple) (af 0)))) (cM (eC (.bool false))) ff) (bB (cf 2 (eC (.int 0))) (bB (jZ (mm (dA (af 0)) (aW 3) (bB (pY (pC (tE (aF cu (ah (af 3) (ah (af 2) (ah (e2 nv (af 1) (eC (.int 1))) aG)))))) (cM (eC (.bool false))) ff) (cf 2 (e2 eU (af 3) (eC (.int 1))))))) (cM (eC (.bool true))))))
noncomputable def cZ:List PyData->R PyData:=dF 4 (kb cu)
noncomputable def nQ:Fs :=
  (cM (e1 cD (bE (dA (af 0)) 1 [1] (aW 0) (tE (e2 (uY false) (af 0) (af 1))) (af 0))))
noncomputable def bh:List PyData->R PyData:=dF 2 (nQ)
noncomputable def ir (bh:List PyData->R PyData):Fs :=
  (cM (bE (dA (aF bh (ah (e2 bQ (af 0) (eC (.int 3))) (ah (af 1) aG)))) 1 [1] (aW 0) (fun _=>.ok true) (nF (af 1) (af 0))))
noncomputable def cm:List PyData->R PyData:=dF 2 (ir bh)
noncomputable def fR (bh:List PyData->R PyData):Fs :=
  (cM (e1 Bs (bE (dA (af 1)) 1 [0,1] (aW 0) (fun _=>.ok true) (e2 (fj qF) (e1 dg (aF bh (ah (e2 bQ (e2 bQ (af 1) (af 0)) (eC (.int 3))) (ah (af 2) aG)))) (eC (.int 0))))))
noncomputable def bZ:List PyData->R PyData:=dF 2 (fR bh)
noncomputable def lT (cZ:List PyData->R PyData) (cm:List PyData->R PyData) (bZ:List PyData->R PyData) (aI:List PyData->R PyData):Fs :=
  (bB (pY (E7 (pC (tE (aF cZ (ah (af 1) (ah (e1 dg (af 0)) aG))))) (tE (e2 (jK) (e1 dg (af 1)) (eC (.int 0))))) (pd (PySem.Str.ofString "NoPart") (eC (.str (PySem.Str.ofString "inside is not some places, one at least")))) ff) (bB (pY (pC (tE (aF bZ (ah (af 0) (ah (af 1) aG))))) (pd (PySem.Str.ofString "NoPart") (eC (.str (PySem.Str.ofString "inside is not whole")))) ff) (cM (e1 cD (bE (dA (af 1)) 1 [0,1] (aW 0) (fun _=>.ok true) (aF aI (ah (e2 bQ (af 1) (af 0)) (ah (aF cm (ah (e2 bQ (af 1) (af 0)) (ah (af 2) aG))) aG))))))))
noncomputable def dH:List PyData->R PyData:=dF 2 (lT cZ cm bZ aI)
noncomputable def nR (bO:List PyData->R PyData) (aJ:List PyData->R PyData) (dH:List PyData->R PyData) (aI:List PyData->R PyData):Fs :=
  (bB (cf 1 (aF bO (ah (af 0) aG))) (bB (cf 2 (e1 cD (bE (dA (af 0)) 1 [1] (aW 0) (fun _=>.ok true) (aF aI (ah (af 0) (ah (aF aJ (ah (af 0) (ah (af 1) aG))) aG)))))) (cM (aF dH (ah (af 2) (ah (e1 cD (e1 Bw (af 1))) aG))))))
noncomputable def eu:List PyData->R PyData:=dF 3 (nR bO aJ dH aI)
noncomputable def iq:Fs :=
  (cM (zt (ah (e1 dg (af 0)) aG)))
noncomputable def cE:List PyData->R PyData:=dF 1 (iq)
noncomputable def ke:Fs :=
  (cM (e1 cD (bE (lc (af 0)) 2 [1] (eA 0 1) (fun _=>.ok true) (Da (tE (e2 (uY false) (af 0) (af 2))) (af 1) (eC .none)))))
noncomputable def cO:List PyData->R PyData:=dF 2 (ke)
noncomputable def fS:Fs :=
  (cM (e1 cD (bE (BK (af 0) (af 1)) 2 [] (eA 0 1) (fun _=>.ok true) (Da (tE (e2 (rL) (af 0) (eC .none))) (af 1) (af 0)))))
noncomputable def aE:List PyData->R PyData:=dF 2 (fS)
noncomputable def nT:Fs :=
  (cM (e1 cD (bE (lc (af 0)) 2 [] (eA 0 1) (tE (e2 (mD) (af 1) (eC .none))) (af 0))))
noncomputable def cr:List PyData->R PyData:=dF 1 (nT)
noncomputable def fT (cr:List PyData->R PyData):Fs :=
  (bB (i6 3 (bE (dA (af 2)) 1 [] (aW 0) (fun _=>.ok true) (eC .none))) (bB (jZ (mm (dA (aF cr (ah (af 2) aG))) (aW 4) (pY (pB (tE (e2 (jK) (e2 bQ (e2 bQ (af 0) (af 4)) (eC (.int 0))) (af 1))) (tE (e2 (fj qF) (e2 bQ (af 2) (af 4)) (eC (.int 0))))) (im 3 (af 4) (e2 bQ (bE (dA (e2 bQ (e2 bQ (af 0) (af 4)) (eC (.int 3)))) 1 [2,4] (aW 0) (tE (e2 (jK) (e2 bQ (af 1) (af 0)) (e2 nv (e2 bQ (af 1) (af 2)) (eC (.int 1))))) (af 0)) (eC (.int 0)))) ff))) (cM (e1 cD (gI 3)))))
noncomputable def bo:List PyData->R PyData:=dF 5 (fT cr)
noncomputable def jb:Fs :=
  (bB (cf 4 (bE (dA (af 1)) 1 [3] (aW 0) (tE (e2 (mD) (e2 bQ (af 1) (af 0)) (eC .none))) (af 0))) (bB (pY (tE (e2 (jK) (e2 bQ (af 0) (eC (.int 0))) (af 2))) (cM (e2 (fj qF) (e1 dg (af 4)) (eC (.int 0)))) ff) (cM (e2 (jK) (e1 dg (af 4)) (e1 dg (af 1))))))
noncomputable def cg:List PyData->R PyData:=dF 5 (jb)
noncomputable def kg (bh:List PyData->R PyData) (cg:List PyData->R PyData):Fs :=
  (bB (cf 4 (bE (dA (af 0)) 1 [1] (aW 0) (fun _=>.ok true) (aF bh (ah (e2 bQ (af 0) (eC (.int 3))) (ah (af 1) aG))))) (bB (i6 5 (bE (l5 (ah (e1 dg (af 0)) aG)) 1 [3] (aW 0) (fun _=>.ok true) (Da (tE (e2 (uY false) (af 0) (af 1))) (eC (.int 0)) (eC .none)))) (bB (cf 6 (eC (.int 0))) (bB (cf 7 (e1 qh (af 3))) (bB (jZ (sk 1000000 (tE (e2 (fj qF) (e1 dg (af 7)) (eC (.int 0)))) (bB (yf 6 (fun a b=>a+b) (eC (.int 1))) (bB (cf 8 (bE (dA (af 1)) 1 [5] (aW 0) (tE (e2 (rL) (e2 bQ (gI 1) (af 0)) (eC .none))) (af 0))) (bB (cf 7 (bE (dA (af 8)) 1 [0,4,2,5] (aW 0) (tE (j7 4 (aF cg (ah (e2 bQ (af 1) (af 0)) (ah (e2 bQ (af 2) (af 0)) (ah (af 3) (ah (af 4) aG))))))) (af 0))) (jZ (mm (dA (af 7)) (aW 9) (im 5 (af 9) (af 6))))))))) (cM (e1 cD (gI 5))))))))
noncomputable def cC:List PyData->R PyData:=dF 10 (kg bh cg)
noncomputable def kf:Fs :=
  (cM (e1 cD (bE (dA (af 0)) 1 [] (aW 0) (fun _=>.ok true) (eC .none))))
noncomputable def cc:List PyData->R PyData:=dF 1 (kf)
noncomputable def fU (bh:List PyData->R PyData) (cc:List PyData->R PyData):Fs :=
  (bB (i6 3 (e1 qh (aF cc (ah (af 0) aG)))) (bB (jZ (mm (dA (af 2)) (aW 4) (pY (tE (e2 (jK) (e2 bQ (e2 bQ (af 0) (af 4)) (eC (.int 0))) (af 1))) (im 3 (af 4) (e2 bQ (aF bh (ah (e2 bQ (e2 bQ (af 0) (af 4)) (eC (.int 3))) (ah (af 2) aG))) (eC (.int 0)))) ff))) (cM (e1 cD (gI 3)))))
noncomputable def bG:List PyData->R PyData:=dF 5 (fU bh cc)
noncomputable def lU:Fs :=
  (cM (e1 cD (bE (dA (af 0)) 1 [1] (aW 0) (tE (e2 (uY true) (af 0) (af 1))) (af 0))))
noncomputable def bV:List PyData->R PyData:=dF 2 (lU)
noncomputable def dR (cO:List PyData->R PyData) (aE:List PyData->R PyData) (bo:List PyData->R PyData) (cr:List PyData->R PyData) (cC:List PyData->R PyData) (bG:List PyData->R PyData) (aL:List PyData->R PyData) (bV:List PyData->R PyData) (c_Share:Addr):Fs :=
  (bB (cf 2 (e1 v3 (bE (dA (af 1)) 1 [0] (aW 0) (fun _=>.ok true) (e2 bQ (e2 bQ (af 1) (af 0)) (eC (.int 1)))))) (bB (cf 3 (e2 fy (af 2) (eC (.int 2)))) (bB (cf 4 (e2 nv (eC (.int 1)) (af 3))) (bB (cf 5 (bE (dA (af 1)) 1 [0,2] (aW 0) (tE (e2 (jK) (e2 bQ (e2 bQ (af 1) (af 0)) (eC (.int 1))) (af 2))) (af 0))) (bB (cf 6 (aF cC (ah (af 0) (ah (af 1) (ah (af 3) (ah (af 5) aG)))))) (bB (cf 7 (aF aL (ah (af 0) (ah (aF bV (ah (af 1) (ah (aF cr (ah (af 6) aG)) aG))) aG)))) (bB (cf 8 (bE (lc (e2 bQ (af 7) (eC (.int 0)))) 2 [4] (eA 0 1) (tE (e2 (jK) (af 1) (af 2))) (af 0))) (bB (pY (tE (e2 (jK) (e1 dg (af 8)) (eC (.int 0)))) (bB (cf 9 (aF aE (ah (aF bo (ah (af 0) (ah (af 3) (ah (af 6) aG)))) (ah (e2 bQ (af 7) (eC (.int 1))) aG)))) (cM (tJ c_Share ["who","places","moves"] (ah (af 3) (ah (af 1) (ah (aF aE (ah (af 9) (ah (aF bG (ah (af 0) (ah (af 3) (ah (af 1) aG)))) aG))) aG)))))) ff) (bB (cf 6 (aF cC (ah (af 0) (ah (af 1) (ah (af 4) (ah (af 8) aG)))))) (bB (cf 9 (aF aE (ah (aF bo (ah (af 0) (ah (af 4) (ah (af 6) aG)))) (ah (aF cO (ah (e2 bQ (af 7) (eC (.int 1))) (ah (af 8) aG))) aG)))) (cM (tJ c_Share ["who","places","moves"] (ah (af 4) (ah (aF cr (ah (af 6) aG)) (ah (af 9) aG)))))))))))))))
noncomputable def ed (aE:List PyData->R PyData) (cc:List PyData->R PyData) (c_Share:Addr):Fs :=
  (bB (i6 2 (bE (dA (af 0)) 1 [] (aW 0) (fun _=>.ok true) (eC .none))) (bB (cf 3 (aF cc (ah (af 0) aG))) (bB (jZ (mm (dA (af 1)) (aW 4) (bB (jZ (mm (dA (e1 (kx c_Share "places") (af 4))) (aW 5) (im 2 (af 5) (e1 (kx c_Share "who") (af 4))))) (cf 3 (aF aE (ah (af 3) (ah (e1 (kx c_Share "moves") (af 4)) aG))))))) (cM (kr (ah (e1 cD (gI 2)) (ah (af 3) aG)))))))
noncomputable def bn (c_Share:Addr):List PyData->R PyData:=dF 6 (ed aE cc c_Share)
noncomputable def dS (bf:List PyData->R PyData) (bn:List PyData->R PyData) (bV:List PyData->R PyData) (c_Share:Addr):Fs :=
  (bB (i6 2 (BA aG)) (bB (cf 3 (af 1)) (bB (jZ (sk 1000000 (tE (e2 (fj qF) (e1 dg (af 3)) (eC (.int 0)))) (bB (cf 4 (aF bf (ah (af 0) (ah (af 3) aG)))) (bB (jR 2 (af 4)) (cf 3 (aF bV (ah (af 3) (ah (e1 (kx c_Share "places") (af 4)) aG)))))))) (HG 2 (cM (aF bn (ah (af 0) (ah (af 2) aG))))))))
noncomputable def aL (c_Share:Addr):Nat->List PyData->R PyData
  | 0=>fun _=>.no
  | k+1=>dF 5 (dS (dF 10 (dR cO aE bo cr cC bG (aL c_Share k) bV c_Share)) (bn c_Share) bV c_Share)
noncomputable def bf (c_Share:Addr) (k:Nat):List PyData->R PyData:=dF 10 (dR cO aE bo cr cC bG (aL c_Share k) bV c_Share)
noncomputable def yL (cE:List PyData->R PyData) (aL:List PyData->R PyData):Fs :=
  (cM (aF aL (ah (af 0) (ah (aF cE (ah (af 0) aG)) aG))))
noncomputable def i9 (c_Share:Addr):List PyData->R PyData:=dF 1 (yL cE (aL c_Share 14))
noncomputable def yK (cF:List PyData->R PyData) (bx:List PyData->R PyData) (eo:List PyData->R PyData) (eu:List PyData->R PyData) (bO:List PyData->R PyData) (i9:List PyData->R PyData):Fs :=
  (bB (cf 1 (aF cF (ah (af 0) (ah (eC (.int 24)) aG)))) (bB (pY (pB (tE (e2 (fj Dl) (e1 dg (af 1)) (eC (.int 12)))) (tE (e2 (jK) (e2 fy (aF bx (ah (af 0) (ah (eC (.int 1)) aG))) (eC (.int 2))) (eC (.int 0))))) (cf 1 (aF eo (ah (af 1) (ah (af 1) aG)))) (cf 1 (e1 cD (bE (dA (af 1)) 1 [] (aW 0) (fun _=>.ok true) (kr (ah (e2 bQ (af 0) (eC (.int 0))) (ah (e2 fy (e2 bQ (af 0) (eC (.int 1))) (eC (.int 2))) (ah (e2 bQ (af 0) (eC (.int 2))) (ah (e2 bQ (af 0) (eC (.int 3))) aG))))))))) (bB (cf 2 (aF eu (ah (af 1) aG))) (bB (cf 3 (e1 Bw (aF bO (ah (af 1) aG)))) (bB (cf 4 (e2 bQ (aF i9 (ah (af 1) aG)) (eC (.int 0)))) (bB (cf 5 (e2 bQ (aF i9 (ah (af 2) aG)) (eC (.int 0)))) (bB (jZ (mm (lc (aF bO (ah (af 1) aG))) (eA 6 7) (pY (tE (e2 (ut) (e2 bQ (af 4) (af 6)) (e2 bQ (af 5) (rP (af 3) (af 7))))) (cM (eC (.bool false))) ff))) (cM (zr (e2 (jK) (aF eu (ah (af 2) aG)) (af 2)) (e2 (jK) (e1 dg (af 2)) (e1 dg (af 3))))))))))))
noncomputable def vQ (c_Share:Addr):List PyData->R PyData:=dF 8 (yK cF bx eo eu bO (i9 c_Share))
end G
end
namespace G
open PySem PySem.Spec PyProof.Rows L2 D2
theorem Bo (ns:List Int) {k:Int} (hk:0<=k):∃ v,cv [sr ns,.int k]=.ok (.int v):=by
  unfold cv gV;by_cases h:k < ns.length
  · refine ⟨ns[k.toNat]'(by omega),?_⟩;have hx:=vZ (xs:=ns.map PyData.int) (i:=k) hk (by simpa using h);rw [eW];simp [h,hx]
  · refine ⟨0,?_⟩;rw [eW];simp [h]
theorem oX (ns:List Int) {k:Int} (hk:0<=k):∃ v,bx [sr ns,.int k]=.ok (.int v)/\0<=v/\v < 2147483629:=by
  obtain ⟨c,hc⟩:=Bo ns hk;unfold bx je;have m1:ge (.int 7919) (.int k)=.ok (.int (7919*k)):=iD (.inl (by omega));have m2:ge (.int (c+7919*k+1)) (.int 48271)=.ok (.int ((c+7919*k+1)*48271)):=iD (.inr (by omega));generalize hd:(c+7919*k+1)*48271%2147483647=d;have hd0:0<=d:=by omega
  have hd1:d < 2147483647:=by omega
  have m3:ge (.int d) (.int d)=.ok (.int (d*d)):=iD (.inl (by omega));have m4:ge (.int 7) (.int d)=.ok (.int (7*d)):=iD (.inl (by omega));refine ⟨(d*d+7*d+k)%2147483629,?_,by omega,by omega⟩;rw [eW];simp [hc,m1,m2,hd,m3,m4,List.replicate]
theorem tH (n k:Int):∃ v,bJ [.int n,.int k]=.ok (.int v)/\0<=v/\v < 2147483629:=by
  unfold bJ jc;have m1:ge (.int 104729) (.int k)=.ok (.int (104729*k)):=iD (.inl (by omega));have m2:ge (.int (n+104729*k+17)) (.int 69621)=.ok (.int ((n+104729*k+17)*69621)):=iD (.inr (by omega));generalize hd:(n+104729*k+17)*69621%2147483647=d;have hd0:0<=d:=by omega
  have hd1:d < 2147483647:=by omega
  have m3:ge (.int d) (.int d)=.ok (.int (d*d)):=iD (.inl (by omega));have m4:ge (.int 3) (.int d)=.ok (.int (3*d)):=iD (.inl (by omega));refine ⟨(d*d+3*d+k)%2147483629,?_,by omega,by omega⟩;rw [eW];simp [m1,m2,hd,m3,m4,List.replicate]
theorem oJ (n c:Int) (hc:1<=c):∀ (ds:List PyData) (m:Nat) (kvs:List (PyData×PyData)) (x:br),uE c m kvs->(∀ d∈ds,∃ k,d=.int k)->m+ds.length<=1000 ->
    ∃ kvs' x',uE c (m+ds.length) kvs'/\fV (aW 3) (Cz 2 (e2 fy (aF bJ (ah (af 0) (ah (af 3) aG))) (af 1)) (eC (.bool true))) ds [.val (.int n),.val (.int c),.own (.dict kvs),x]
      = .ok (.nx [.val (.int n),.val (.int c),.own (.dict kvs'),x'])
  | [],m,kvs,x,hk,_,_=>⟨kvs,x,hk,by rw [gu]⟩
  | d::ds,m,kvs,x,hk,hi,hl=>by
    obtain ⟨k,rfl⟩:=hi d List.mem_cons_self;obtain ⟨v,hv,v0,v1⟩:=tH n k;have hk':=hk.put (k:=v%c) (Int.emod_nonneg _ (by omega)) (Int.emod_lt_of_pos _ (by omega)) (.bool true);obtain ⟨kvs',x',h1,h2⟩:=oJ n c hc ds (m+1) _ (.val (.int k)) hk' (fun d hd=>hi d (List.mem_cons_of_mem _ hd)) (by simp at hl;omega);refine ⟨kvs',x',by rw [List.length_cons];simpa [Nat.add_comm,Nat.add_left_comm,Nat.add_assoc] using h1,?_⟩;have hlen:=hk.len;have hsz:kvs.length < sizeLine:=Nat.lt_of_le_of_lt (show kvs.length<=1000 by simp at hl;omega) (by decide);have hc':0 < c:=by omega
    rw [eK,<- h2];simp [Cz,hv,hc',ia,hsz]
theorem xT {n c:Int} (hn:0<=n) (hc:1<=c):∃ ns:List Int,cV [.int n,.int c]=.ok (.tuple (ns.map .int))/\(∀ x∈ns,0<=x/\x < c)/\ns≠[]/\ns.Pairwise (· < ·):=by
  unfold cV jd;have m1:∀ k:Int,ge (.int 20) (.int k)=.ok (.int (20*k)):=fun k=>iD (.inl (by omega))
  generalize hN:(1+n%3+20*(if n / 3%29=7 then 1 else 0):Int)=N;have hN0:1<=N:=by split at hN <;> omega
  have hN1:N<=23:=by split at hN <;> omega
  obtain ⟨kvs,x,hk,hf⟩:=oJ n c hc (ce 0 N.toNat) 0 [] .non ⟨[],rfl,by simp,by simp,.inl rfl,by simp⟩ (ua _ _) (by rw [gA];omega);obtain ⟨ns,e,hb,hl,hz,nd⟩:=hk.ex;rw [gA] at hl hz;have hi:bL (kvs.map (·.1))=some ns:=by rw [e,cy]
  have hs:kZ (.dict kvs)=.ok (.list ((dM ns).map PyData.int)):=by
    show (match bL (kvs.map (·.1)) with | some ns=>if ns.length < 64 then R.ok (PyData.list ((dM ns).map PyData.int)) else .no | none=>.no)=_;rw [hi];exact if_pos (by omega)
  have hr:-(2 ^ 62)<=N/\N < 2 ^ 62:=by omega
  refine ⟨dM ns,?_,fun x hx=>hb x ((dQ ns).mem_iff.mp hx),?_,qO (gm ns) ((dQ ns).nodup_iff.mpr nd)⟩
  · rw [eW];have hg:ug [.int N]=.ok (ce 0 N.toNat):=by
      show (if -(2 ^ 62)<=N/\N < 2 ^ 62 then R.ok (ce 0 N.toNat) else .no)=_;rw [if_pos hr]
    simp [gO,fZ,m1,List.replicate,hN,hg,hf,hs]
  · intro z;have:=(dQ ns).length_eq;rw [z] at this;rcases hz with q | q
    · omega
    · exact q (List.eq_nil_of_length_eq_zero this.symm)
theorem xV {n c h:Int} (hn:0<=n) (hc:1<=c) (h0:0<=h):∃ p:P4,cJ [.int n,.int c,.int h]=.ok p.d/\Pl c h p:=by
  obtain ⟨v,hv,v0,v1⟩:=tH n 9;obtain ⟨ns,hg,hb,hne,hso⟩:=xT (n:=v) (c:=c) v0 hc;unfold cJ jf;have hh:0 < h+1:=by omega
  have s4:4<=sizeLine:=by decide
  have a1:=Int.emod_nonneg (n / 2) (show h+1≠0 by omega);have a2:=Int.emod_lt_of_pos (n / 2) hh;by_cases hq:n / 234%11=3
  · refine ⟨⟨n%2,n / 2%(h+1),n / 26%41-20,ns⟩,?_,⟨by dsimp only;omega,by dsimp only;omega,a1,by dsimp only;omega,by dsimp only;omega,by dsimp only;omega,hne,hso,hb⟩⟩;rw [eW];simp [hh,fZ,hq,hv,hg,s4,P4.d]
  · refine ⟨⟨n%2,n / 2%(h+1),n / 26%9-4,ns⟩,?_,⟨by dsimp only;omega,by dsimp only;omega,a1,by dsimp only;omega,by dsimp only;omega,by dsimp only;omega,hne,hso,hb⟩⟩;rw [eW];simp [hh,fZ,hq,hv,hg,s4,P4.d]
theorem tD (f:Fe) (ρ:aT) (i:Nat) (P:P4->Prop):∀ ds:List PyData,(∀ d∈ds,∃ p:P4,f (ρ.set i (.val d))=.ok p.d/\P p)->∃ ps:List P4,bP (aW i) (fun _=>.ok true) f ρ ds=.ok (ps.map P4.d)/\ps.length=ds.length/\∀ p∈ps,P p
  | [],_=>⟨[],cS ..,rfl,by simp⟩
  | d::ds,h=>by
    obtain ⟨x,h1,h2⟩:=h d List.mem_cons_self;obtain ⟨xs,h3,h4,h5⟩:=tD f ρ i P ds fun d hd=>h d (List.mem_cons_of_mem _ hd)
    refine ⟨x::xs,?_,by simp [h4],fun y hy=>?_⟩
    · rw [dz,h1,h3];rfl
    · rcases List.mem_cons.mp hy with rfl | hy
      · exact h2
      · exact h5 y hy
theorem vd (ns:List Int) {most:Int} (hm0:1<=most) (hm1:most<=24):∃ (ps:List P4) (hi:Int),cF [sr ns,.int most]=.ok (gD ps)/\(∀ p∈ps,Pl ps.length hi p)/\1<=ps.length/\(ps.length:Int)<=most/\0<=hi/\hi<=12:=by
  obtain ⟨v,hv,v0,v1⟩:=oX ns (k:=0) (by omega);unfold cF iw;generalize hm:(if (if (ns.length:Int) > 4 then (ns.length:Int) else 4) < most then (if (ns.length:Int) > 4 then (ns.length:Int) else 4) else most)=m;have m0:0 < m:=by split at hm <;> split at hm <;> omega
  have m1:m<=most:=by split at hm <;> split at hm <;> omega
  generalize hc:1+v%m=c;have c0:1<=c:=by have:=Int.emod_nonneg v (show m≠0 by omega);omega
  have c1:c<=most:=by have:=Int.emod_lt_of_pos v m0;omega
  have hix:∃ h,bQ (.list [.int 1,.int 2,.int 3,.int 5,.int 12,.int 12]) (.int (v / 24%6))=.ok (.int h)/\0<=h/\h<=12:=by
    obtain ⟨x,hx,e⟩:=Bu (xs:=[.int 1,.int 2,.int 3,.int 5,.int 12,.int 12]) (i:=v / 24%6) (by omega) (by simp;omega);rw [e];simp at hx;rcases hx with rfl | rfl | rfl | rfl | rfl <;> exact ⟨_,rfl,by decide,by decide⟩
  obtain ⟨h,hh,h0,h1⟩:=hix;have s6:6<=sizeLine:=by decide
  have hr:ug [.int c]=.ok (ce 0 c.toNat):=by
    show (if -(2 ^ 62)<=c/\c < 2 ^ 62 then R.ok (ce 0 c.toNat) else .no)=_;rw [if_pos (by omega)]
  obtain ⟨xs,e1,e2,e3⟩:=tD (aF cJ (ah (aF bx (ah (af 1) (ah (e2 eU (eC (.int 3)) (af 0)) aG))) (ah (af 2) (ah (af 3) aG)))) (ay 1 [0,3,4] [.val (sr ns),.val (.int most),.val (.int v),.val (.int c),.val (.int h)]) 0 (Pl c h) (ce 0 c.toNat) fun d hd=>by
    unfold ce at hd;obtain ⟨k,_,rfl⟩:=List.mem_map.mp hd;obtain ⟨w,hw,w0,w1⟩:=oX ns (k:=3+(0+(k:Int))) (by omega);obtain ⟨d,hd1,hd2⟩:=xV (n:=w) (c:=c) (h:=h) w0 c0 h0;refine ⟨d,?_,hd2⟩;simp at hw;simp [ay,List.replicate,hw,hd1]
  rw [gA] at e2;have ec:(xs.length:Int)=c:=by omega
  refine ⟨xs,h,?_,by rw [ec];exact e3,by omega,by omega,h0,h1⟩;rw [eW];simp [hv,hm,m0,hc,s6,hh,List.replicate,bp,hr,gA,bI (show c.toNat<=1000 by omega),e1]
noncomputable def dB (ns:List Int) (i:Int):Bool:=ns.any fun j=>decide (j=i)
theorem bT {ns:List Int} {i:Int}:dB ns i=true<->i∈ns:=by
  unfold dB;rw [List.any_eq_true];constructor
  · rintro ⟨j,hj,e⟩;have:=of_decide_eq_true e;exact this ▸ hj
  · exact fun h=>⟨i,h,decide_eq_true rfl⟩
theorem gH:∀ ns:List Int,PyData.depthAll (ns.map .int)=0
  | []=>by simp [PyData.depthAll]
  | n::ns=>by simp [PyData.depthAll,PyData.depth,gH ns]
theorem iE (ns:List Int):PyData.canLayAll0 (ns.map .int)=true:=kS fun x hx=>by
  obtain ⟨i,_,rfl⟩:=List.mem_map.mp hx;exact gv i
theorem qr (ns:List Int) (i:Int):kz (ns.map .int) (.int i)=true:=by
  unfold kz;rw [iE,gH];simp [PyData.canLay0]
theorem tt (ns:List Int) (i:Int):((ns.map PyData.int).any fun y=>PyData.eqv y (.int i))=dB ns i:=by
  rw [List.any_map];congr 1
theorem Iq (ns:List Int) (i:Int) (neg:Bool):uY neg (.int i) (.tuple (ns.map .int))=.ok (.bool (if neg then !dB ns i else dB ns i)):=by
  show (if kz (ns.map .int) (.int i)=true then R.ok (PyData.bool _) else .no)=_;rw [if_pos (qr ns i),tt]
theorem Ip (ns:List Int) (i:Int) (neg:Bool):uY neg (.int i) (.list (ns.map .int))=.ok (.bool (if neg then !dB ns i else dB ns i)):=by
  show (if kz (ns.map .int) (.int i)=true then R.ok (PyData.bool _) else .no)=_;rw [if_pos (qr ns i),tt]
theorem oC:∀ ns ms:List Int,PyData.eqvAll (ns.map .int) (ms.map .int)=decide (ns=ms)
  | [],[]=>by simp [PyData.eqvAll]
  | [],_::_=>by simp [PyData.eqvAll]
  | _::_,[]=>by simp [PyData.eqvAll]
  | n::ns,m::ms=>by
    simp only [List.map_cons,PyData.eqvAll,oC ns ms,rR];by_cases h:n=m <;> by_cases h2:ns=ms <;> simp [h,h2]
theorem BB (ns ms:List Int):pV (.tuple (ns.map .int)) (.tuple (ms.map .int))=true:=by
  unfold pV;simp [PyData.canLay0,iE,PyData.depth,gH]
theorem F9 (ns ms:List Int):ut (.tuple (ns.map .int)) (.tuple (ms.map .int))=.ok (.bool (!decide (ns=ms))):=by
  unfold ut;rw [if_pos (BB ns ms)];simp only [PyData.eqv,oC]
theorem du {t:aT->R Bool} {ρ:aT} {p:Int->Bool}:∀ ns:List Int,(∀ x∈ns,t ((br.non::ρ).set 0 (.val (.int x)))=.ok (p x))->bP (aW 0) t (af 0) (.non::ρ) (ns.map .int)=.ok ((ns.filter p).map .int)
  | [],_=>cS ..
  | x::ns,h=>by
    rw [List.map_cons,dz,h x List.mem_cons_self,du ns fun y hy=>h y (List.mem_cons_of_mem _ hy)];cases hp:p x with
    | true=>rw [List.filter_cons_of_pos hp];rfl
    | false=>rw [List.filter_cons_of_neg (by rw [hp];simp)];rfl
theorem pc (c:Nat):ce 0 c=((List.range c).map fun (k:Nat)=>(k:Int)).map .int:=by
  unfold ce;rw [List.map_map];apply List.map_congr_left;intro k _;simp
noncomputable def aC (ps:List P4) (i:Int):List Int:=(ps[i.toNat]?.map (·.ns)).getD []
theorem lh {ps:List P4} {i:Int} (h0:0<=i) (h1:i < ps.length):bQ (gD ps) (.int i)=.ok (ps[i.toNat]'(by omega)).d:=by
  rw [zn h0 (by simpa using h1)];simp
theorem fB {ps:List P4} {i:Int} (h0:0<=i) (h1:i < ps.length):aC ps i=(ps[i.toNat]'(by omega)).ns:=by
  unfold aC;rw [List.getElem?_eq_getElem (by omega)];rfl
theorem jv (p:P4):bQ p.d (.int 3)=.ok (.tuple (p.ns.map .int)):=rfl
theorem kF (p:P4):bQ p.d (.int 0)=.ok (.int p.w):=rfl
noncomputable def aq (ps:List P4) (i:Int):Int:=(ps[i.toNat]?.map (·.w)).getD 0
theorem kE {ps:List P4} {i:Int} (h0:0<=i) (h1:i < ps.length):aq ps i=(ps[i.toNat]'(by omega)).w:=by
  unfold aq;rw [List.getElem?_eq_getElem (by omega)];rfl
noncomputable def bF (ps:List P4) (js:List Int) (i:Int):List Int:=(aC ps i).filter (dB js)
noncomputable def mE (ps:List P4) (js kn:List Int) (i:Int):List Int:=(bF ps js i).filter (dB kn)
noncomputable def jm (ps:List P4) (js:List Int) (who:Int) (kn:List Int) (i:Int):Bool :=
  !dB kn i&&(decide (0 < (mE ps js kn i).length)&&(decide (aq ps i=who)||decide ((mE ps js kn i).length=(bF ps js i).length)))
noncomputable def eP (ps:List P4) (js:List Int) (who:Int) (kn is:List Int):List Int:=is.filter (jm ps js who kn)
noncomputable def dc (ps:List P4) (js:List Int) (who r:Int) (kvs:List (Int×Int)):List (Int×Int):=kvs++(eP ps js who (kvs.map (·.1)) js).map fun i=>(i,r)
noncomputable def gN (ps:List P4) (js:List Int) (who:Int):Int->Nat->List (Int×Int)->List (Int×Int)
  | _,0,kvs=>kvs
  | r,n+1,kvs=>gN ps js who (r+1) n (dc ps js who r kvs)
theorem jN:∀ {l m:List Int},l.Nodup->(∀ x∈l,x∈m)->l.length<=m.length
  | [],m,_,_=>Nat.zero_le _
  | x::l,m,nd,h=>by
    obtain ⟨n1,n2⟩:=List.nodup_cons.mp nd;have hx:=h x List.mem_cons_self;have:=jN (m:=m.erase x) n2 fun y hy=>(List.mem_erase_of_ne (by rintro rfl;exact n1 hy)).mpr (h y (List.mem_cons_of_mem _ hy))
    rw [List.length_erase_of_mem hx] at this;have hp:=List.length_pos_of_mem hx;rw [List.length_cons];omega
structure ja (js:List Int) (kvs:List (Int×Int)):Prop where
  nd:(kvs.map (·.1)).Nodup
  sub:∀ x∈kvs.map (·.1),x∈js
theorem ja.len {js:List Int} {kvs:List (Int×Int)} (h:ja js kvs) (nj:js.Nodup):kvs.length<=js.length:=by
  have:=jN h.nd h.sub;simpa using this
theorem kC (ps:List P4) (js:List Int) (who r:Int) (kvs:List (Int×Int)):(dc ps js who r kvs).map (·.1)=kvs.map (·.1)++eP ps js who (kvs.map (·.1)) js:=by
  unfold dc;rw [List.map_append,List.map_map];congr 1;exact List.map_id _
theorem oY {ps:List P4} {js:List Int} {who:Int} {kn is:List Int} {x:Int} (h:x∈eP ps js who kn is):x∈is/\x∉kn:=by
  obtain ⟨h1,h2⟩:=List.mem_filter.mp h;refine ⟨h1,fun z=>?_⟩;unfold jm at h2;rw [bT.mpr z] at h2;simp at h2
theorem ja.round {ps:List P4} {js:List Int} {who r:Int} {kvs:List (Int×Int)} (h:ja js kvs) (nj:js.Nodup):ja js (dc ps js who r kvs):=by
  refine ⟨?_,fun x hx=>?_⟩
  · rw [kC,List.nodup_append];refine ⟨h.nd,List.Pairwise.filter _ nj,fun a ha b hb e=>?_⟩;subst e;exact (oY hb).2 ha
  · rw [kC,List.mem_append] at hx;rcases hx with z | z
    · exact h.sub x z
    · exact (oY z).1
theorem lx (ps:List P4) (js:List Int) (who:Int):∀ (n:Nat) (r:Int) (kvs:List (Int×Int)),gN ps js who r (n+1) kvs=dc ps js who (r+n) (gN ps js who r n kvs)
  | 0,r,kvs=>by
    show dc ps js who r kvs=dc ps js who (r+((0:Nat):Int)) kvs;simp
  | n+1,r,kvs=>by
    show gN ps js who (r+1) (n+1) (dc ps js who r kvs)=_;rw [lx ps js who n (r+1)];show dc ps js who (r+1+n) _=dc ps js who (r+((n+1:Nat):Int)) _;rw [show r+1+(n:Int)=r+((n+1:Nat):Int) by omega];rfl
noncomputable def aK (ps:List P4) (js:List Int) (who:Int) (gs:List Int):Nat->List Int
  | 0=>gs
  | m+1=>aK ps js who gs m++eP ps js who (aK ps js who gs m) js
noncomputable def ym (ps:List P4) (js:List Int) (who:Int) (gs:List Int) (m:Nat):List (Int×Int):=gN ps js who 1 m (gs.map fun i=>(i,0))
theorem pk (ps:List P4) (js:List Int) (who:Int) (gs:List Int) (m:Nat):ym ps js who gs (m+1)=dc ps js who (m+1) (ym ps js who gs m):=by
  unfold ym;rw [lx];congr 1;omega
theorem fg (ps:List P4) (js:List Int) (who:Int) (gs:List Int):∀ m,(ym ps js who gs m).map (·.1)=aK ps js who gs m
  | 0=>by
    show (gs.map fun i=>((i,0):Int×Int)).map (·.1)=gs;rw [List.map_map];exact List.map_id _
  | m+1=>by
    rw [pk,kC,fg ps js who gs m];rfl
noncomputable def look (kvs:List (Int×Int)) (i:Int):Option Int:=(kvs.find? fun q=>decide (q.1=i)).map (·.2)
theorem mK (a b:List (Int×Int)) (i:Int):look (a++b) i=(look a i).or (look b i):=by
  unfold look;rw [List.find?_append];cases a.find? _ <;> rfl
theorem gt {kvs:List (Int×Int)} {i:Int}:look kvs i=none<->i∉kvs.map (·.1):=by
  unfold look;rw [Option.map_eq_none_iff,List.find?_eq_none];constructor
  · intro h z;obtain ⟨q,hq,e⟩:=List.mem_map.mp z;exact h q hq (decide_eq_true e)
  · intro h q hq e;exact h (List.mem_map.mpr ⟨q,hq,of_decide_eq_true e⟩)
theorem iJ (r:Int) (i:Int):∀ l:List Int,look (l.map fun j=>(j,r)) i=if i∈l then some r else none
  | []=>rfl
  | j::l=>by
    have ih:=iJ r i l;unfold look at ih ⊢;by_cases h:j=i
    · subst h;rw [List.map_cons,List.find?_cons_of_pos (by simp)];simp
    · rw [List.map_cons,List.find?_cons_of_neg (by simpa using h),ih];by_cases h2:i∈l
      · simp [h2]
      · have:¬ (i=j):=fun z=>h z.symm
        simp [h2,this]
section
variable {ps:List P4} {js:List Int} {who:Int} {gs:List Int}
theorem jI {i:Int} {k:Nat} (h:i∈aK ps js who gs k):∀ {m:Nat},k<=m->i∈aK ps js who gs m
  | 0,hm=>by
    have:k=0:=by omega
    subst this;exact h
  | m+1,hm=>by
    by_cases e:k=m+1
    · subst e;exact h
    · show i∈aK ps js who gs m++_;exact List.mem_append_left _ (jI h (by omega))
theorem fI {i:Int}:∀ {m:Nat} {q:Int},look (ym ps js who gs m) i=some q<->∃ k:Nat,q=k/\k<=m/\i∈aK ps js who gs k/\(k=0\/i∉aK ps js who gs (k-1))
  | 0,q=>by
    show look (gs.map fun j=>(j,0)) i=some q<->_;rw [iJ];constructor
    · intro h;split at h
      · rename_i hi;cases h;exact ⟨0,rfl,Nat.le_refl _,hi,.inl rfl⟩
      · cases h
    · rintro ⟨k,rfl,hk,hi,_⟩;have:k=0:=by omega
      subst this;rw [if_pos (show i∈gs from hi)];rfl
  | m+1,q=>by
    have ih:=fun q=>fI (i:=i) (m:=m) (q:=q)
    have e:ym ps js who gs (m+1)=ym ps js who gs m++(eP ps js who (aK ps js who gs m) js).map fun j=>(j,((m+1:Nat):Int)):=by
      rw [pk];unfold dc;rw [fg];rfl
    rw [e,mK,iJ];by_cases hi:i∈aK ps js who gs m
    · cases h0:look (ym ps js who gs m) i with
      | none=>rw [gt,fg] at h0;exact (h0 hi).elim
      | some q0 =>
        rw [Option.some_or,<- h0,ih q];constructor
        · rintro ⟨k,a,b,c,d⟩;exact ⟨k,a,by omega,c,d⟩
        · rintro ⟨k,a,b,c,d⟩;refine ⟨k,a,?_,c,d⟩;by_cases hk:k=m+1
          · subst hk;rcases d with d | d
            · omega
            · exact (d hi).elim
          · omega
    · have h0:look (ym ps js who gs m) i=none:=by rw [gt,fg];exact hi
      rw [h0,Option.none_or];constructor
      · intro h;split at h
        · rename_i hn;cases h;exact ⟨m+1,rfl,Nat.le_refl _,List.mem_append_right _ hn,.inr hi⟩
        · cases h
      · rintro ⟨k,rfl,b,c,d⟩;have hk:k=m+1:=by
          by_cases hk:k=m+1
          · exact hk
          · exact (hi (jI c (by omega))).elim
        subst hk;have c':i∈aK ps js who gs m++eP ps js who (aK ps js who gs m) js:=c;rw [if_pos ((List.mem_append.mp c').elim (fun z=>(hi z).elim) id)]
theorem vU {k:Nat} (h:eP ps js who (aK ps js who gs k) js=[]):∀ d,aK ps js who gs (k+d)=aK ps js who gs k
  | 0=>rfl
  | d+1=>by
    show aK ps js who gs (k+d)++eP ps js who (aK ps js who gs (k+d)) js=_;rw [vU h d,h,List.append_nil]
theorem rA (ng:gs.Nodup) (hg:∀ x∈gs,x∈js) (nj:js.Nodup):∀ m,ja js (ym ps js who gs m)
  | 0=>⟨by rw [fg];exact ng,fun x hx=>by rw [fg] at hx;exact hg x hx⟩
  | m+1=>by rw [pk];exact (rA ng hg nj m).round nj
theorem uS (ng:gs.Nodup) (hg:∀ x∈gs,x∈js) (nj:js.Nodup) {m:Nat} {i:Int} (h:i∈aK ps js who gs m):i∈js:=by
  have:=(rA (ps:=ps) (who:=who) ng hg nj m).sub;rw [fg] at this;exact this i h
theorem DO (ng:gs.Nodup) (hg:∀ x∈gs,x∈js) (nj:js.Nodup) (m:Nat):(aK ps js who gs m).length<=js.length:=by
  have:=(rA (ps:=ps) (who:=who) ng hg nj m).len nj;rw [<- fg,List.length_map];exact this
theorem vT:∀ m,(∀ k,k < m->eP ps js who (aK ps js who gs k) js≠[])->m+gs.length<=(aK ps js who gs m).length
  | 0,_=>by show 0+gs.length<=gs.length;omega
  | m+1,h=>by
    have:=vT m fun k hk=>h k (by omega)
    have h1:=h m (by omega);have h2:=List.length_pos_iff.mpr h1;show _<=(aK ps js who gs m++eP ps js who (aK ps js who gs m) js).length;rw [List.length_append];omega
theorem DN (ng:gs.Nodup) (hg:∀ x∈gs,x∈js) (nj:js.Nodup) {n:Nat} (hn:js.length<=n):eP ps js who (aK ps js who gs n) js=[]:=by
  by_cases h:eP ps js who (aK ps js who gs n) js=[]
  · exact h
  · have:=vT (ps:=ps) (js:=js) (who:=who) (gs:=gs) (n+1) fun k hk e=>h (by
      have s:=vU e (n-k);rw [show k+(n-k)=n by omega] at s;rw [s];exact e)
    have:=DO (ps:=ps) (who:=who) ng hg nj (n+1);omega
theorem gY {α:Type} (p:α->Bool):∀ l:List α,(l.filter p).length=l.length<->∀ x∈l,p x=true
  | []=>by simp
  | x::l=>by
    have ih:=gY p l;have le:=List.length_filter_le p l;cases h:p x with
    | true=>rw [List.filter_cons_of_pos h];simp [ih,h]
    | false=>rw [List.filter_cons_of_neg (by rw [h];simp)];simp [h];omega
theorem oV {α:Type} (p:α->Bool) (l:List α):0 < (l.filter p).length<->∃ x∈l,p x=true:=by
  rw [List.length_pos_iff_exists_mem];simp [List.mem_filter]
theorem fO {kn:List Int} {i:Int}:jm ps js who kn i=true<->i∉kn/\(∃ g∈bF ps js i,g∈kn)/\(aq ps i=who\/∀ g∈bF ps js i,g∈kn):=by
  unfold jm mE;rw [Bool.and_eq_true,Bool.and_eq_true,Bool.or_eq_true,decide_eq_true_iff,decide_eq_true_iff,decide_eq_true_iff,oV,gY,Bool.not_eq_true',<- Bool.not_eq_true,bT];simp only [bT]
noncomputable def rK (ps:List P4) (js:List Int) (who:Int) (gs:List Int) (i:Int):Option Int:=look (ym ps js who gs ps.length) i
structure uu (ps:List P4) (js:List Int) (who:Int) (gs:List Int) (rk:Int->Option Int):Prop where
  nneg:∀ i q,rk i=some q->0<=q
  sub:∀ i q,rk i=some q->i∈js
  zero:∀ i,rk i=some 0<->i∈gs
  own:∀ i q,rk i=some q->0 < q->aq ps i=who->∃ g∈bF ps js i,rk g=some (q-1)
  low:∀ i q g t,rk i=some q->0 < q->aq ps i=who->g∈bF ps js i->rk g=some t->q-1<=t
  oth:∀ i q,rk i=some q->0 < q->aq ps i≠who->(∃ g,g∈bF ps js i)/\∀ g∈bF ps js i,∃ t,rk g=some t/\t < q
  outO:∀ i,i∈js->rk i=none->aq ps i=who->∀ g∈bF ps js i,rk g=none
  outX:∀ i,i∈js->rk i=none->aq ps i≠who->(∃ g,g∈bF ps js i)->∃ g∈bF ps js i,rk g=none
theorem vV (ng:gs.Nodup) (hg:∀ x∈gs,x∈js) (nj:js.Nodup) (hn:js.length<=ps.length):uu ps js who gs (rK ps js who gs):=by
  have ex:∀ {i k},i∈aK ps js who gs k->k<=ps.length->∃ t:Nat,t<=k/\rK ps js who gs i=some (t:Int):=fun {i}=>by
    intro k;induction k with
    | zero=>exact fun h _=>⟨0,Nat.le_refl _,fI.mpr ⟨0,rfl,by omega,h,.inl rfl⟩⟩
    | succ k ih =>
      intro h hk;by_cases h1:i∈aK ps js who gs k
      · obtain ⟨t,a,b⟩:=ih h1 (by omega);exact ⟨t,by omega,b⟩
      · exact ⟨k+1,Nat.le_refl _,fI.mpr ⟨k+1,rfl,hk,h,.inr h1⟩⟩
  have nm:∀ {i},rK ps js who gs i=none<->i∉aK ps js who gs ps.length:=fun {i}=>by
    unfold rK;rw [gt,fg]
  have fix:=DN (ps:=ps) (who:=who) ng hg nj hn;have new:∀ {i k},i∈aK ps js who gs (k+1)->i∉aK ps js who gs k->jm ps js who (aK ps js who gs k) i=true:=fun {i k} h1 h2=>by
    have h1':i∈aK ps js who gs k++eP ps js who (aK ps js who gs k) js:=h1;rcases List.mem_append.mp h1' with z | z
    · exact (h2 z).elim
    · exact (List.mem_filter.mp z).2
  have not:∀ {i k},i∈js->i∉aK ps js who gs (k+1)->¬ jm ps js who (aK ps js who gs k) i=true:=fun {i k} h1 h2 h3 =>
    h2 (show i∈aK ps js who gs k++eP ps js who (aK ps js who gs k) js from List.mem_append_right _ (List.mem_filter.mpr ⟨h1,h3⟩))
  have pos:∀ {i q},rK ps js who gs i=some q->0 < q->∃ k:Nat,q=((k+1:Nat):Int)/\k+1<=ps.length/\i∈aK ps js who gs (k+1)/\i∉aK ps js who gs k:=fun {i q} h hq=>by
    obtain ⟨k,rfl,b,c,d⟩:=fI.mp h;cases k with
    | zero=>omega
    | succ k =>
      rcases d with d | d
      · omega
      · exact ⟨k,rfl,b,c,d⟩
  refine ⟨fun i q h=>?_,fun i q h=>?_,fun i=>?_,fun i q h hq ho=>?_,fun i q g t h hq ho hg' ht=>?_,fun i q h hq ho=>?_,fun i hi h ho g hg'=>?_,fun i hi h ho hw=>?_⟩
  · obtain ⟨k,rfl,_⟩:=fI.mp h;omega
  · obtain ⟨k,rfl,_,c,_⟩:=fI.mp h;exact uS ng hg nj c
  · constructor
    · intro h;obtain ⟨k,e,_,c,_⟩:=fI.mp h;have:k=0:=by omega
      subst this;exact c
    · exact fun h=>fI.mpr ⟨0,rfl,by omega,h,.inl rfl⟩
  · obtain ⟨k,rfl,b,c,d⟩:=pos h hq;obtain ⟨_,⟨g,hg1,hg2⟩,_⟩:=fO.mp (new c d);obtain ⟨t,ht,hr⟩:=ex hg2 (by omega);refine ⟨g,hg1,?_⟩;by_cases e:t=k
    · subst e;rw [hr];congr 1;omega
    · exfalso;cases k with
      | zero=>omega
      | succ k =>
        obtain ⟨t',e',_,c',_⟩:=fI.mp hr;have e'':t=t':=by omega
        subst e'';exact not (uS ng hg nj c) d (fO.mpr ⟨fun z=>d (jI z (by omega)),⟨g,hg1,jI c' (by omega)⟩,.inl ho⟩)
  · obtain ⟨k,rfl,b,c,d⟩:=pos h hq;obtain ⟨t',rfl,_,c',_⟩:=fI.mp ht;by_cases e:k<=t'
    · omega
    · exfalso;cases k with
      | zero=>omega
      | succ k=>exact not (uS ng hg nj c) d (fO.mpr ⟨fun z=>d (jI z (by omega)),⟨g,hg',jI c' (by omega)⟩,.inl ho⟩)
  · obtain ⟨k,rfl,b,c,d⟩:=pos h hq;obtain ⟨_,⟨g,hg1,_⟩,o⟩:=fO.mp (new c d);refine ⟨⟨g,hg1⟩,fun g' hg'=>?_⟩;obtain ⟨t,ht,hr⟩:=ex ((o.resolve_left ho) g' hg') (by omega);exact ⟨t,hr,by omega⟩
  · rw [nm] at h ⊢;intro hz;have:i∈eP ps js who (aK ps js who gs ps.length) js:=List.mem_filter.mpr ⟨hi,fO.mpr ⟨h,⟨g,hg',hz⟩,.inl ho⟩⟩;rw [fix] at this;cases this
  · rw [nm] at h;by_cases hz:∃ g∈bF ps js i,rK ps js who gs g=none
    · exact hz
    · exfalso;have all:∀ g∈bF ps js i,g∈aK ps js who gs ps.length:=fun g hg'=>by
        by_cases z:g∈aK ps js who gs ps.length
        · exact z
        · exact (hz ⟨g,hg',nm.mpr z⟩).elim
      obtain ⟨g,hg'⟩:=hw;have:i∈eP ps js who (aK ps js who gs ps.length) js:=List.mem_filter.mpr ⟨hi,fO.mpr ⟨h,⟨g,hg',all g hg'⟩,.inr all⟩⟩;rw [fix] at this;cases this
end
noncomputable abbrev ids (n:Nat):List Int:=(List.range n).map fun (k:Nat)=>(k:Int)
theorem aY {n:Nat} {i:Int}:i∈ids n<->0<=i/\i < n:=by
  constructor
  · intro h;obtain ⟨k,hk,rfl⟩:=List.mem_map.mp h;have:=List.mem_range.mp hk;omega
  · rintro ⟨h0,h1⟩;exact List.mem_map.mpr ⟨i.toNat,List.mem_range.mpr (by omega),by omega⟩
theorem eD (n:Nat):(ids n).length=n:=by simp
theorem wg {n k:Nat} (h:k < n):(ids n)[k]?=some (k:Int):=by
  rw [List.getElem?_map,List.getElem?_range h];rfl
theorem u7 (n:Nat):(ids n).Pairwise (· < ·):=by
  rw [List.pairwise_map];exact (List.pairwise_lt_range).imp fun h=>by omega
theorem ie {l:List Int} (h:l.Pairwise (· < ·)):l.Nodup:=h.imp fun h=>by omega
noncomputable def tab (f:Int->PyData) (n:Nat):List PyData:=(ids n).map f
theorem bS (f:Int->PyData) (n:Nat):(tab f n).length=n:=by unfold tab;rw [List.length_map,eD]
theorem gQ {f:Int->PyData} {n:Nat} {i:Int} (h0:0<=i) (h1:i < n):(tab f n)[i.toNat]'(by rw [bS];omega)=f i:=by
  have h:=wg (n:=n) (k:=i.toNat) (by omega);have:(tab f n)[i.toNat]?=some (f i):=by
    unfold tab;rw [List.getElem?_map,h,Option.map_some];congr 2;omega
  exact Option.some.inj ((List.getElem?_eq_getElem _).symm.trans this)
theorem pE {f:Int->PyData} {n:Nat} {i:Int} (h0:0<=i) (h1:i < n):bQ (.tuple (tab f n)) (.int i)=.ok (f i):=by
  rw [zn h0 (by rw [bS];exact h1),gQ h0 h1]
theorem AT {f:Int->PyData} {n:Nat} {i:Int} (h0:0<=i) (h1:i < n):bQ (.list (tab f n)) (.int i)=.ok (f i):=by
  rw [vZ h0 (by rw [bS];exact h1),gQ h0 h1]
theorem cU {f g:Int->PyData} {n:Nat} (h:∀ i:Int,0<=i->i < n->f i=g i):tab f n=tab g n :=
  List.map_congr_left fun i hi=>h i (aY.mp hi).1 (aY.mp hi).2
theorem nN {f:Int->PyData} {n:Nat} {i:Int} {v:PyData} (h0:0<=i) (h1:i < n):(tab f n).set i.toNat v=tab (fun j=>if j=i then v else f j) n:=by
  refine List.ext_getElem (by rw [List.length_set,bS,bS]) fun k hk1 hk2=>?_
  rw [bS] at hk2;have e:=gQ (f:=fun j=>if j=i then v else f j) (n:=n) (i:=(k:Int)) (by omega) (by omega);have e2:=gQ (f:=f) (n:=n) (i:=(k:Int)) (by omega) (by omega);simp only [Int.toNat_natCast] at e e2;rw [e,List.getElem_set];by_cases h:i.toNat=k
  · rw [if_pos h,if_pos (by omega)]
  · rw [if_neg h,if_neg (by omega),e2]
theorem vq (f:Int->PyData) (ρ:aT) (g:Fe) (n:Nat) (h:∀ i:Int,0<=i->i < n->g (ρ.set 0 (.val (.int i)))=.ok (f i)):bP (aW 0) (fun _=>.ok true) g ρ (ce 0 n)=.ok (tab f n):=by
  have:=gr g ρ 0 (fun d=>match d with | .int i=>f i | d=>d) (ce 0 n) fun d hd=>by
    unfold ce at hd;obtain ⟨k,hk,rfl⟩:=List.mem_map.mp hd;have:=List.mem_range.mp hk;exact h _ (by omega) (by omega)
  rw [this];unfold tab;rw [pc,List.map_map];rfl
noncomputable def oD:Option Int->PyData
  | none=>.none
  | some k=>.int k
theorem wz (o:Option Int):mD (oD o) .none=.ok (.bool o.isSome):=by cases o <;> rfl
theorem zK (o:Option Int):rL (oD o) .none=.ok (.bool o.isNone):=by cases o <;> rfl
noncomputable def rT (k m:Nat):List Int:=(List.range m).map fun (j:Nat)=>((k+j:Nat):Int)
theorem oK (k m:Nat):rT k (m+1)=(k:Int)::rT (k+1) m:=by
  unfold rT;rw [List.range_succ_eq_map,List.map_cons,List.map_map];congr 1;apply List.map_congr_left;intro j _;show ((k+(j+1):Nat):Int)=((k+1+j:Nat):Int)
  omega
theorem lg (n:Nat):rT 0 n=ids n:=by
  unfold rT;apply List.map_congr_left;intro j _;simp
theorem jp {t:aT->R Bool} {ρ:aT} {p:Int->Bool} {g:Int->PyData}:∀ (m k:Nat),(∀ j:Nat,k<=j->j < k+m->t (.val (.int j)::.val (g j)::ρ)=.ok (p j)) ->
    bP (eA 0 1) t (af 0) (.non::.non::ρ) (df k ((rT k m).map g))=.ok (((rT k m).filter p).map .int)
  | 0,k,_=>by unfold rT;simp [df,cS]
  | m+1,k,h=>by
    rw [oK,List.map_cons];have e:df k (g k::(rT (k+1) m).map g)=.tuple [.int k,g k]::df (k+1) ((rT (k+1) m).map g):=rfl;rw [e,kq,jp m (k+1) fun j h1 h2=>h j (by omega) (by omega)];have hk:=h k (Nat.le_refl _) (by omega);simp only [List.set_cons_zero,List.set_cons_succ,hk,R.ok_bind,am];cases hp:p k with
    | true=>rw [List.filter_cons_of_pos hp];rfl
    | false=>rw [List.filter_cons_of_neg (by rw [hp];simp)];rfl
theorem oA {fe:Fe} {ρ:aT} {g h:Int->PyData}:∀ (m k:Nat),(∀ j:Nat,k<=j->j < k+m->fe (.val (.int j)::.val (g j)::ρ)=.ok (h j)) ->
    bP (eA 0 1) (fun _=>.ok true) fe (.non::.non::ρ) (df k ((rT k m).map g))=.ok ((rT k m).map h)
  | 0,k,_=>by unfold rT;simp [df,cS]
  | m+1,k,hh=>by
    rw [oK,List.map_cons];have e:df k (g k::(rT (k+1) m).map g)=.tuple [.int k,g k]::df (k+1) ((rT (k+1) m).map g):=rfl;rw [e,kq,oA m (k+1) fun j h1 h2=>hh j (by omega) (by omega)];have hk:=hh k (Nat.le_refl _) (by omega);simp only [R.ok_bind,if_true,List.set_cons_zero,List.set_cons_succ,hk];rfl
theorem CK {f g h:Int->PyData} {n:Nat} {fe:Fe} {ρ:aT} (hh:∀ i:Int,0<=i->i < n->fe (.val (f i)::.val (g i)::ρ)=.ok (h i)):bP (eA 0 1) (fun _=>.ok true) fe (.non::.non::ρ) (nC (tab f n) (tab g n))=.ok (tab h n):=by
  have go:∀ is:List Int,(∀ i∈is,0<=i/\i < n)->bP (eA 0 1) (fun _=>.ok true) fe (.non::.non::ρ) (nC (is.map f) (is.map g))=.ok (is.map h):=by
    intro is;induction is with
    | nil=>intro _;unfold nC;simp [cS]
    | cons i is ih =>
      intro hb;have e:nC ((i::is).map f) ((i::is).map g)=.tuple [f i,g i]::nC (is.map f) (is.map g):=rfl;rw [e,kq,ih fun x hx=>hb x (List.mem_cons_of_mem _ hx)];have:=hh i (hb i List.mem_cons_self).1 (hb i List.mem_cons_self).2;simp only [R.ok_bind,if_true,List.set_cons_zero,List.set_cons_succ,this];rfl
  exact go (ids n) fun i hi=>aY.mp hi
theorem ip (t:aT->R Bool) (g:Fs) (n:Nat) (ρ:aT):dn t g (n+1) ρ=(t ρ>>=fun b=>if b=true then g ρ>>=pF (dn t g n) else .ok (.nx ρ)):=by
  rw [dn];congr 1
noncomputable def sB (s:PyData) (js:List Int):Prop:=s=.tuple (js.map .int)\/s=.list (js.map .int)
theorem sB.inn {s:PyData} {js:List Int} (h:sB s js) (neg:Bool) (k:Int):uY neg (.int k) s=.ok (.bool (if neg then !dB js k else dB js k)):=by
  rcases h with rfl | rfl
  · exact Iq ..
  · exact Ip ..
theorem sB.seq {s:PyData} {js:List Int} (h:sB s js):iT s=.ok (js.map .int):=by
  rcases h with rfl | rfl <;> rfl
theorem sB.len {s:PyData} {js:List Int} (h:sB s js):dg s=.ok (.int js.length):=by
  rcases h with rfl | rfl <;> simp
structure dr (n:Nat) (js:List Int):Prop where
  lt:js.Pairwise (· < ·)
  inn:∀ x∈js,0<=x/\x < n
theorem dr.nd {n:Nat} {js:List Int} (h:dr n js):js.Nodup:=ie h.lt
theorem dr.len {n:Nat} {js:List Int} (h:dr n js):js.length<=n:=by
  have:=kI js 0 n h.lt h.inn;rcases this with z | z
  · rw [z];simp
  · omega
theorem dr.filter {n:Nat} {js:List Int} (h:dr n js) (p:Int->Bool):dr n (js.filter p):=⟨h.lt.filter _,fun x hx=>h.inn x (List.mem_filter.mp hx).1⟩
theorem dr.ids (n:Nat):dr n (ids n):=⟨u7 n,fun x hx=>aY.mp hx⟩
noncomputable def fM (ps:List P4) (js:List Int):Prop:=∀ i∈js,∃ g,g∈bF ps js i
noncomputable abbrev oT (f:Int->Option Int) (n:Nat):PyData:=.tuple (tab (fun i=>oD (f i)) n)
theorem wb (o:Option Int) (k:Int):jK (oD o) (.int k)=.ok (.bool (decide (o=some k))):=by
  cases o with
  | none=>rfl
  | some q =>
    show jK (.int q) (.int k)=_;rw [fZ];congr 2;simp
structure Gr (ps:List P4):Prop where
  hl:∀ p∈ps,p.ns.length<=100
  hgo:∀ p∈ps,∀ x∈p.ns,0<=x/\x < ps.length
  hp:ps.length<=24
  lt:∀ p∈ps,p.ns.Pairwise (· < ·)
  ne:∀ p∈ps,p.ns≠[]
theorem Gr.goals {ps:List P4} (G:Gr ps) {i x:Int} (h:x∈aC ps i):0<=x/\x < ps.length:=by
  unfold aC at h;cases e:ps[i.toNat]? with
  | none=>rw [e] at h;cases h
  | some p=>rw [e] at h;exact G.hgo p (List.mem_of_getElem? e) x h
theorem Gr.glen {ps:List P4} (G:Gr ps) (i:Int):(aC ps i).length<=100:=by
  unfold aC;cases e:ps[i.toNat]? with
  | none=>simp
  | some p=>exact G.hl p (List.mem_of_getElem? e)
noncomputable def aB (ps:List P4) (i:Int):Int:=(ps[i.toNat]?.map (·.m)).getD 0
theorem o4 (p:P4):bQ p.d (.int 1)=.ok (.int p.m):=rfl
theorem qx {ps:List P4} {i:Int} (h0:0<=i) (h1:i < ps.length):aB ps i=(ps[i.toNat]'(by omega)).m:=by
  unfold aB;rw [List.getElem?_eq_getElem (by omega)];rfl
theorem xW {ps:List P4} {js:List Int} (hne:js≠[]):∃ h,v3 (.list ((js.map (aB ps)).map .int))=.ok (.int h)/\(∃ i∈js,aB ps i=h)/\∀ i∈js,aB ps i<=h:=by
  cases js with
  | nil=>exact (hne rfl).elim
  | cons j js =>
    obtain ⟨s1,s2⟩:=qy (aB ps j) (js.map (aB ps));refine ⟨vh (aB ps j) (js.map (aB ps)),?_,?_,fun i hi=>?_⟩
    · show (match bL (((j::js).map (aB ps)).map .int) with | some (n::ns)=>R.ok (PyData.int (vh n ns)) | _=>.no)=_;rw [cy];rfl
    · rw [<- List.map_cons (f:=aB ps)] at s1;obtain ⟨i,hi,e⟩:=List.mem_map.mp s1;exact ⟨i,hi,e⟩
    · exact s2 _ (by rw [<- List.map_cons (f:=aB ps)];exact List.mem_map.mpr ⟨i,hi,rfl⟩)
noncomputable def jE (f:Int->Option Int) (n:Nat):List Int:=(ids n).filter fun i=>(f i).isSome
theorem ph (f:Int->Option Int) (n:Nat):dr n (jE f n):=(dr.ids n).filter _
theorem ic {f:Int->Option Int} {n:Nat} {i:Int}:i∈jE f n<->(0<=i/\i < n)/\∃ q,f i=some q:=by
  unfold jE;rw [List.mem_filter,aY,Option.isSome_iff_exists]
noncomputable def ma (ps:List P4) (who:Int) (f:Int->Option Int) (i:Int):Option Int:=match f i with
  | some q=>if aq ps i=who/\0 < q then ((aC ps i).filter fun g=>decide (f g=some (q-1))).head? else none
  | none=>none
theorem kl {ps:List P4} {js:List Int} {who:Int} {gs:List Int} {rk:Int->Option Int} (A:uu ps js who gs rk):∀ i q,rk i=some q->0 < q->aq ps i=who->∃ g∈aC ps i,rk g=some (q-1):=fun i q h1 h2 h3=>by
  obtain ⟨g,hg,e⟩:=A.own i q h1 h2 h3;exact ⟨g,(List.mem_filter.mp hg).1,e⟩
noncomputable def il (js:List Int) (some:List Int):List Int:=js.filter fun i=>!dB some i
theorem bN {js some:List Int} {i:Int}:i∈il js some<->i∈js/\i∉some:=by
  unfold il;rw [List.mem_filter,Bool.not_eq_true',<- Bool.not_eq_true,bT]
noncomputable def fh (ps:List P4) (who:Int) (part:List Int) (i:Int):Option Int:=if i∈part/\aq ps i=who then (bF ps part i).head? else none
structure Sh where
  w:Int
  pl:List Int
  mv:Int->Option Int
noncomputable def dY (f g:Int->Option Int) (i:Int):Option Int:=(f i).or (g i)
theorem jJ {s t:PyData} {ns js:List Int} (hs:sB s ns) (ht:sB t js) (hl:ns.length<=1000):bh [s,t]=.ok (.tuple ((ns.filter (dB js)).map .int)):=by
  have hcmp:=du (t:=tE (e2 (uY false) (af 0) (af 1))) (ρ:=[.val t]) (p:=dB js) ns fun k hk=>by simp [ht.inn]
  unfold bh nQ;refine dZ ?_;rw [show ([s,t].map br.val++List.replicate (2 - [s,t].length) br.non)=[.val s,.val t] from rfl];rw [cq,bU,bp,show ay 1 [1] [.val s,.val t]=[.non,.val t] from rfl];simp -implicitDefEqProofs only [bR,am,R.ok_bind,hs.seq,cn];rw [if_pos (by rw [List.length_map];exact bI hl),hcmp];rfl
theorem pJ {s t:PyData} {ns js:List Int} (hs:sB s ns) (ht:sB t js) (hl:ns.length<=1000):bV [s,t]=.ok (.tuple ((ns.filter fun i=>!dB js i).map .int)):=by
  have hcmp:=du (t:=tE (e2 (uY true) (af 0) (af 1))) (ρ:=[.val t]) (p:=fun i=>!dB js i) ns fun k hk=>by simp [ht.inn]
  unfold bV lU;refine dZ ?_;rw [show ([s,t].map br.val++List.replicate (2 - [s,t].length) br.non)=[.val s,.val t] from rfl];rw [cq,bU,bp,show ay 1 [1] [.val s,.val t]=[.non,.val t] from rfl];simp -implicitDefEqProofs only [bR,am,R.ok_bind,hs.seq,cn];rw [if_pos (by rw [List.length_map];exact bI hl),hcmp];rfl
theorem rV {p:P4} {ws:List Int} {who:Int} {f:Int->Option Int} {n:Nat} (hw:∀ g∈ws,0<=g/\g < n) (hl:ws.length<=1000) :
    cg [p.d,.tuple (ws.map .int),.int who,.list (tab (fun i=>oD (f i)) n)]=.ok (.bool (if p.w=who then decide (0 < (ws.filter fun g=>(f g).isSome).length) else decide ((ws.filter fun g=>(f g).isSome).length=ws.length))):=by
  have hcmp:=du (t:=tE (e2 (mD) (e2 bQ (af 1) (af 0)) (eC .none))) (ρ:=[.val (.list (tab (fun i=>oD (f i)) n))]) (p:=fun g=>(f g).isSome) ws fun k hk=>by
    simp only [List.set_cons_zero,cP,bz,am,ar,bY,R.ok_bind,AT (hw k hk).1 (hw k hk).2,wz,cW]
  unfold cg jb;refine dZ ?_;rw [show ([p.d,.tuple (ws.map .int),.int who,.list (tab (fun i=>oD (f i)) n)].map br.val++List.replicate (5 - [p.d,.tuple (ws.map .int),.int who,.list (tab (fun i=>oD (f i)) n)].length) br.non)=[.val p.d,.val (.tuple (ws.map .int)),.val (.int who),.val (.list (tab (fun i=>oD (f i)) n)),.non] from rfl];rw [bg (ρ':=[.val p.d,.val (.tuple (ws.map .int)),.val (.int who),.val (.list (tab (fun i=>oD (f i)) n)),.val (.list ((ws.filter fun g=>(f g).isSome).map .int))]) (by
    rw [bD,bp,show ay 1 [3] [.val p.d,.val (.tuple (ws.map .int)),.val (.int who),.val (.list (tab (fun i=>oD (f i)) n)),.non]=[.non,.val (.list (tab (fun i=>oD (f i)) n))] from rfl];simp only [bR,am,ar,R.ok_bind,cH,cn];rw [if_pos (by rw [List.length_map];exact bI hl),hcmp];rfl)]
  by_cases h:p.w=who
  · rw [if_pos h];refine AG ?_;simp only [fF,cP,bz,bU,am,ar,bY,R.ok_bind,kF,fZ,cW,h,decide_true,if_true,cq,ox,iB,List.length_map];congr 3;simp
  · rw [if_neg h,bg (ρ':=[.val p.d,.val (.tuple (ws.map .int)),.val (.int who),.val (.list (tab (fun i=>oD (f i)) n)),.val (.list ((ws.filter fun g=>(f g).isSome).map .int))]) (by
      simp only [fF,cP,bz,bU,am,ar,bY,R.ok_bind,kF,fZ,cW,h,decide_false];rfl)]
    simp only [cq,bz,bU,am,ar,R.ok_bind,ox,rM,fZ,List.length_map];congr 3;exact decide_eq_decide.mpr (by omega)
theorem uq {d:PyData} (h:noD d):dO [d]=.ok (.bool (Iu d)):=by
  cases d <;> first | rfl | cases h
theorem oo {d:PyData} (h:noD d) (lo hi:Int):cu [d,.int lo,.int hi]=.ok (.bool (CY d lo hi)):=by
  unfold cu iu;rw [eW];cases d with
  | int i =>
    by_cases h1:lo<=i <;> by_cases h2:i<=hi <;> simp [uq h,Iu,h1,h2,CY]
  | dict k=>cases h
  | _=>simp [uq h,Iu,CY]
theorem qM (t:PyData) (c:Int):∀ (ds:List PyData) (l:Int) (x:br),(∀ d∈ds,noD d) ->
    ∃ ρ,fV (aW 3) (bB (pY (pC (tE (aF cu (ah (af 3) (ah (af 2) (ah (e2 nv (af 1) (eC (.int 1))) aG)))))) (cM (eC (.bool false))) ff) (cf 2 (e2 eU (af 3) (eC (.int 1))))) ds
      [.val t,.val (.int c),.val (.int l),x]=if jx c l ds=true then .ok (.nx ρ) else .ok (.rt (.bool false))
  | [],l,x,_=>⟨_,by rw [gu];rfl⟩
  | d::ds,l,x,h=>by
    have hd:=h d List.mem_cons_self;cases hb:CY d l (c-1) with
    | false =>
      refine ⟨[],?_⟩;have hr:jx c l (d::ds)=false:=by
        cases d with
        | int i =>
          simp only [CY] at hb;simp only [jx];rcases (Bool.and_eq_false_iff.mp hb) with z | z
          · rw [z];rfl
          · have:decide (i < c)=false:=by simp at z ⊢;omega
            rw [this];simp
        | _=>rfl
      rw [eK,hr];simp [oo hd,hb]
    | true =>
      cases d with
      | int i =>
        simp only [CY,Bool.and_eq_true,decide_eq_true_eq] at hb;obtain ⟨ρ,e⟩:=qM t c ds (i+1) (.val (.int i)) fun d hd=>h d (List.mem_cons_of_mem _ hd)
        refine ⟨ρ,?_⟩;have hr:jx c l (.int i::ds)=jx c (i+1) ds:=by
          simp only [jx];rw [decide_eq_true hb.1,decide_eq_true (show i < c by omega)];simp
        have hb':CY (.int i) l (c-1)=true:=by simp [CY];omega
        rw [eK,hr,<- e];simp [oo hd,hb']
      | _=>cases hb
theorem mC {d:PyData} (c:Int) (h:∀ ds,d=.tuple ds->∀ x∈ds,noD x) (hd:noD d):cZ [d,.int c]=.ok (.bool (Dv c d)):=by
  unfold cZ kb;rw [eW];cases d with
  | tuple ds =>
    obtain ⟨ρ,e⟩:=qM (.tuple ds) c ds 0 .non (h ds rfl);simp [pU,F5,gO,List.replicate];rw [e];cases jx c 0 ds <;> simp
  | dict k=>cases hd
  | _=>simp [pU,F5,List.replicate]
theorem dr.some {n:Nat} {js:List Int} (h:dr n js):cZ [.tuple (js.map .int),.int n]=.ok (.bool true):=by
  rw [mC (d:=.tuple (js.map .int)) n (fun ds e x hx=>by
    cases e;obtain ⟨i,_,rfl⟩:=List.mem_map.mp hx;exact True.intro) True.intro]
  show R.ok (PyData.bool (jx n 0 (js.map .int)))=_;rw [sj n js 0 h.lt fun x hx=>h.inn x hx]
theorem tq {f:Fe} {ρ:aT} {p:Int->Bool}:∀ ns:List Int,(∀ x∈ns,f ((br.non::ρ).set 0 (.val (.int x)))=.ok (.bool (p x)))->bP (aW 0) (fun _=>.ok true) f (.non::ρ) (ns.map .int)=.ok (ns.map fun i=>.bool (p i))
  | [],_=>cS ..
  | x::ns,h=>by
    rw [List.map_cons,dz,h x List.mem_cons_self,tq ns fun y hy=>h y (List.mem_cons_of_mem _ hy)];rfl
theorem qb (p:Int->Bool):∀ ns:List Int,D2.tj (ns.map fun i=>.bool (p i))=some (ns.all p)
  | []=>rfl
  | a::l=>by simp only [List.map_cons,D2.tj,qb p l,List.all_cons,Option.map_some]
theorem p0 {ps:List P4} (hl:∀ p∈ps,p.ns.length<=100) {s:PyData} {js:List Int} (hs:sB s js) (hj:∀ x∈js,0<=x/\x < ps.length) (hlen:js.length<=1000) :
    bZ [gD ps,s]=.ok (.bool (js.all fun i=>decide (0 < (bF ps js i).length))):=by
  have hcmp:=tq (f:=e2 (fj qF) (e1 dg (aF bh (ah (e2 bQ (e2 bQ (af 1) (af 0)) (eC (.int 3))) (ah (af 2) aG)))) (eC (.int 0))) (ρ:=[.val (gD ps),.val s]) (p:=fun i=>decide (0 < (bF ps js i).length)) js fun k hk=>by
    have h:=hj k hk;have hg:=fB h.1 h.2;have hc:=jJ (s:=.tuple ((aC ps k).map .int)) (ns:=aC ps k) (.inl rfl) hs (by rw [hg];have:=hl _ (List.getElem_mem (show k.toNat < ps.length by omega));omega);simp only [List.set_cons_zero,bz,bU,aP,aD,aS,am,ar,bY,R.ok_bind,lh h.1 h.2,jv];rw [<- hg,hc,R.ok_bind,rM,R.ok_bind,iB,List.length_map];unfold bF;congr 2;simp
  unfold bZ fR;refine dZ ?_;rw [show ([gD ps,s].map br.val++List.replicate (2 - [gD ps,s].length) br.non)=[.val (gD ps),.val s] from rfl];rw [cq,bU,bp,show ay 1 [0,1] [.val (gD ps),.val s]=[.non,.val (gD ps),.val s] from rfl];simp -implicitDefEqProofs only [bR,am,ar,R.ok_bind,hs.seq,cn];rw [if_pos (by rw [List.length_map];exact bI hlen),hcmp,fJ,R.ok_bind];unfold Bs;simp only [qb];rfl
theorem yz {ps:List P4} {js:List Int} (h:fM ps js):(js.all fun i=>decide (0 < (bF ps js i).length))=true:=by
  rw [List.all_eq_true];intro i hi;obtain ⟨g,hg⟩:=h i hi;exact decide_eq_true (List.length_pos_of_mem hg)
theorem GD {c:Int} (h0:0<=c) (h1:c<=1000):ug [.int c]=.ok (ce 0 c.toNat):=by
  show (if -(2 ^ 62)<=c/\c < 2 ^ 62 then R.ok (ce 0 c.toNat) else .no)=_;rw [if_pos (by omega)]
noncomputable def wM:Fs:=(bB (yf 6 (fun a b=>a+b) (eC (.int 1))) (bB (cf 8 (bE (dA (af 1)) 1 [5] (aW 0) (tE (e2 (rL) (e2 bQ (gI 1) (af 0)) (eC .none))) (af 0))) (bB (cf 7 (bE (dA (af 8)) 1 [0,4,2,5] (aW 0) (tE (j7 4 (aF cg (ah (e2 bQ (af 1) (af 0)) (ah (e2 bQ (af 2) (af 0)) (ah (af 3) (ah (af 4) aG))))))) (af 0))) (jZ (mm (dA (af 7)) (aW 9) (im 5 (af 9) (af 6)))))))
noncomputable abbrev lI (ps:List P4) (js:List Int):PyData:=.list (tab (fun i=>.tuple ((bF ps js i).map .int)) ps.length)
noncomputable abbrev AC (kvs:List (Int×Int)) (n:Nat):List PyData:=tab (fun i=>oD (look kvs i)) n
noncomputable abbrev tR (ps:List P4) (s:PyData) (js:List Int) (who:Int) (g:PyData) (kvs:List (Int×Int)) (r:Int) (fs:List Int) (c8 c9:br):aT :=
  [.val (gD ps),.val s,.val (.int who),.val g,.val (lI ps js),.own (.list (AC kvs ps.length)),.val (.int r),.val (.list (fs.map .int)),c8,c9]
theorem zV {kvs:List (Int×Int)} {i r:Int} (h:i∉kvs.map (·.1)) (j:Int):look (kvs++[(i,r)]) j=if j=i then some r else look kvs j:=by
  rw [mK];by_cases e:j=i
  · subst e;rw [if_pos rfl,gt.mpr h,Option.none_or];unfold look;simp
  · rw [if_neg e];have:look [(i,r)] j=none:=by
      unfold look;have:¬ i=j:=fun z=>e z.symm
      simp [this]
    rw [this,Option.or_none]
theorem Dz {ps:List P4} {s:PyData} {js:List Int} {who:Int} {g:PyData} {r:Int} {fs0:List Int} {c8:br}:∀ (fs:List Int) (kvs:List (Int×Int)) (c9:br),fs.Nodup->(∀ x∈fs,x∉kvs.map (·.1))->(∀ x∈fs,0<=x/\x < ps.length) ->
    ∃ c9',fV (aW 9) (im 5 (af 9) (af 6)) (fs.map .int) (tR ps s js who g kvs r fs0 c8 c9)=.ok (.nx (tR ps s js who g (kvs++fs.map fun i=>(i,r)) r fs0 c8 c9'))
  | [],kvs,c9,_,_,_=>⟨c9,by rw [List.map_nil,gu];simp⟩
  | i::fs,kvs,c9,nd,hn,hb=>by
    obtain ⟨n1,n2⟩:=List.nodup_cons.mp nd;have hi:=hb i List.mem_cons_self;obtain ⟨c9',e⟩:=Dz (ps:=ps) (s:=s) (js:=js) (who:=who) (g:=g) (r:=r) (fs0:=fs0) (c8:=c8) fs (kvs++[(i,r)]) (.val (.int i)) n2 (fun x hx=>by
      rw [List.map_append,List.mem_append];rintro (z | z)
      · exact hn x (List.mem_cons_of_mem _ hx) z
      · simp at z;subst z;exact n1 hx) fun x hx=>hb x (List.mem_cons_of_mem _ hx)
    refine ⟨c9',?_⟩;rw [List.map_cons,eK];rw [show ((tR ps s js who g kvs r fs0 c8 c9).set 9 (.val (.int i)))=tR ps s js who g kvs r fs0 c8 (.val (.int i)) from rfl];rw [nM (ds:=AC kvs ps.length) (n:=i) (v:=.int r) rfl rfl rfl hi.1 (by rw [bS];exact hi.2),R.ok_bind,eB,nN hi.1 hi.2];rw [cU (g:=fun j=>oD (look (kvs++[(i,r)]) j)) fun j _ _=>by
      rw [zV (hn i List.mem_cons_self)];split <;> rfl]
    refine Eq.trans ?_ (e.trans (by simp));rfl
theorem oR {kvs:List (Int×Int)} {i:Int}:(look kvs i).isNone=!dB (kvs.map (·.1)) i:=by
  cases h:dB (kvs.map (·.1)) i with
  | true =>
    cases h2:look kvs i with
    | none=>exact (gt.mp h2 (bT.mp h)).elim
    | some q=>rfl
  | false =>
    rw [gt.mpr fun z=>by rw [bT.mpr z] at h;cases h];rfl
theorem vb {kvs:List (Int×Int)} {i:Int}:(look kvs i).isSome=dB (kvs.map (·.1)) i:=by
  have:=oR (kvs:=kvs) (i:=i);cases h:look kvs i <;> rw [h] at this <;> cases h2:dB (kvs.map (·.1)) i <;> rw [h2] at this <;> simp_all
theorem tL {ps:List P4} {js:List Int} {who:Int} {kn:List Int} {i:Int} (hw:∃ g,g∈bF ps js i) :
    (!dB kn i&&(if aq ps i=who then decide (0 < (mE ps js kn i).length) else decide ((mE ps js kn i).length=(bF ps js i).length)))=jm ps js who kn i:=by
  obtain ⟨g,hg⟩:=hw;have hp:=List.length_pos_of_mem hg;unfold jm;by_cases ho:aq ps i=who
  · simp [ho]
  · by_cases he:(mE ps js kn i).length=(bF ps js i).length
    · simp [ho,he,hp]
    · simp [ho,he]
theorem AR {ps:List P4} (hl:∀ p∈ps,p.ns.length<=100) (hgo:∀ p∈ps,∀ x∈p.ns,0<=x/\x < ps.length) (hp:ps.length<=24) {s:PyData} {js:List Int} (hs:sB s js) (hj:dr ps.length js) (hw:fM ps js) {who:Int} {g:PyData} {kvs:List (Int×Int)} {r:Int} {fs:List Int} (c8 c9:br) :
    ∃ c8' c9',wM (tR ps s js who g kvs r fs c8 c9)=.ok (.nx (tR ps s js who g (dc ps js who (r+1) kvs) (r+1) (eP ps js who (kvs.map (·.1)) js) c8' c9')):=by
  have hlen:=hj.len;have h1:=du (t:=tE (e2 (rL) (e2 bQ (gI 1) (af 0)) (eC .none))) (ρ:=[.own (.list (AC kvs ps.length))]) (p:=fun i=>!dB (kvs.map (·.1)) i) js fun k hk=>by
    simp only [List.set_cons_zero,cP,bz,am,v9,v8,bY,R.ok_bind,AT (hj.inn k hk).1 (hj.inn k hk).2,zK,cW,oR]
  have h2:=du (t:=tE (j7 4 (aF cg (ah (e2 bQ (af 1) (af 0)) (ah (e2 bQ (af 2) (af 0)) (ah (af 3) (ah (af 4) aG))))))) (ρ:=[.val (gD ps),.val (lI ps js),.val (.int who),.own (.list (AC kvs ps.length))])
    (p:=jm ps js who (kvs.map (·.1))) (js.filter fun i=>!dB (kvs.map (·.1)) i) fun k hk=>by
    obtain ⟨hkj,hkn⟩:=List.mem_filter.mp hk;have hb:=hj.inn k hkj;have hg:=fB hb.1 hb.2;have hwl:(bF ps js k).length<=1000:=by
      refine Nat.le_trans (List.length_filter_le ..) ?_;rw [hg];have:=hl _ (List.getElem_mem (show k.toNat < ps.length by omega));omega
    have hwb:∀ x∈bF ps js k,0<=x/\x < ps.length:=fun x hx=>by
      have:=(List.mem_filter.mp hx).1;rw [hg] at this;exact hgo _ (List.getElem_mem _) x this
    have hf:=rV (p:=ps[k.toNat]'(by omega)) (who:=who) (f:=look kvs) hwb hwl;have ho:=kE hb.1 hb.2;have hgk:((bF ps js k).filter fun g=>(look kvs g).isSome)=mE ps js (kvs.map (·.1)) k:=by
      unfold mE;congr 1;funext g;exact vb
    rw [hgk,<- ho] at hf;have e4:j7 4 (aF cg (ah (e2 bQ (af 1) (af 0)) (ah (e2 bQ (af 2) (af 0)) (ah (af 3) (ah (af 4) aG))))) [.val (.int k),.val (gD ps),.val (lI ps js),.val (.int who),.own (.list (AC kvs ps.length))]
      = (lL (aF cg (ah (e2 bQ (af 1) (af 0)) (ah (e2 bQ (af 2) (af 0)) (ah (af 3) (ah (af 4) aG)))) [.val (.int k),.val (gD ps),.val (lI ps js),.val (.int who),.val (.list (AC kvs ps.length))])>>=kU):=rfl
    have hc:=tL (who:=who) (kn:=kvs.map (·.1)) (hw k hkj);rw [hkn,Bool.true_and] at hc;rw [List.set_cons_zero,cP,e4,aP];simp only [aD,aS,bz,am,ar,R.ok_bind,lh hb.1 hb.2,AT hb.1 hb.2];rw [hf,hc];rfl
  have hfil:(js.filter fun i=>!dB (kvs.map (·.1)) i).filter (jm ps js who (kvs.map (·.1)))=eP ps js who (kvs.map (·.1)) js:=by
    unfold eP;rw [List.filter_filter];apply List.filter_congr;intro x _;unfold jm;cases dB (kvs.map (·.1)) x <;> simp
  rw [hfil] at h2;have hnew:dr ps.length (eP ps js who (kvs.map (·.1)) js):=hj.filter _;obtain ⟨c9',e⟩:=Dz (ps:=ps) (s:=s) (js:=js) (who:=who) (g:=g) (r:=r+1) (fs0:=eP ps js who (kvs.map (·.1)) js) (c8:=.val (.list ((js.filter fun i=>!dB (kvs.map (·.1)) i).map .int))) (eP ps js who (kvs.map (·.1)) js) kvs c9 hnew.nd (fun x hx=>(oY hx).2) hnew.inn;refine ⟨.val (.list ((js.filter fun i=>!dB (kvs.map (·.1)) i).map .int)),c9',?_⟩;unfold wM;rw [bg (ρ':=tR ps s js who g kvs (r+1) fs c8 c9) (by simp only [Cy,ar,am,bY,R.ok_bind,FF];rfl)];rw [bg (ρ':=tR ps s js who g kvs (r+1) fs (.val (.list ((js.filter fun i=>!dB (kvs.map (·.1)) i).map .int))) c9) (by
    rw [bD,bp,show ay 1 [5] (tR ps s js who g kvs (r+1) fs c8 c9)=[.non,.own (.list (AC kvs ps.length))] from rfl];simp -implicitDefEqProofs only [bR,ar,am,R.ok_bind,hs.seq,cn];rw [if_pos (by rw [List.length_map];exact bI (by omega)),h1];rfl)]
  rw [bg (ρ':=tR ps s js who g kvs (r+1) (eP ps js who (kvs.map (·.1)) js) (.val (.list ((js.filter fun i=>!dB (kvs.map (·.1)) i).map .int))) c9) (by
    rw [bD,bp,show ay 1 [0,4,2,5] (tR ps s js who g kvs (r+1) fs (.val (.list ((js.filter fun i=>!dB (kvs.map (·.1)) i).map .int))) c9)=[.non,.val (gD ps),.val (lI ps js),.val (.int who),.own (.list (AC kvs ps.length))] from rfl];simp only [bR,ar,am,R.ok_bind,ss,cn];rw [if_pos (by rw [List.length_map];exact bI (Nat.le_trans (List.length_filter_le ..) (by omega))),h2];rfl)]
  rw [gi,gO,bR,ar,ar,ar,ar,ar,ar,ar,am,R.ok_bind,ss,R.ok_bind,e];rfl
theorem e8 {ps:List P4} {js:List Int} {who:Int} {kvs:List (Int×Int)} (h:eP ps js who (kvs.map (·.1)) js=[]):∀ (n:Nat) (r:Int),gN ps js who r n kvs=kvs
  | 0,r=>rfl
  | n+1,r=>by
    show gN ps js who (r+1) n (dc ps js who r kvs)=kvs;have:dc ps js who r kvs=kvs:=by unfold dc;rw [h];simp
    rw [this,e8 h n]
theorem Dy {ps:List P4} (hl:∀ p∈ps,p.ns.length<=100) (hgo:∀ p∈ps,∀ x∈p.ns,0<=x/\x < ps.length) (hp:ps.length<=24) {s:PyData} {js:List Int} (hs:sB s js) (hj:dr ps.length js) (hw:fM ps js) {who:Int} {g:PyData} :
    ∀ (k n:Nat) (kvs:List (Int×Int)) (r:Int) (fs:List Int) (c8 c9:br),ja js kvs->js.length-kvs.length<=k->(fs=[]->eP ps js who (kvs.map (·.1)) js=[])->k+3<=n ->
    ∃ K r' fs' c8' c9',dn (tE (e2 (fj qF) (e1 dg (af 7)) (eC (.int 0)))) wM n (tR ps s js who g kvs r fs c8 c9)=.ok (.nx (tR ps s js who g K r' fs' c8' c9'))/\∀ N,k+1<=N->gN ps js who (r+1) N kvs=K
  | k,0,kvs,r,fs,c8,c9,_,_,_,h=>by omega
  | k,n+1,kvs,r,fs,c8,c9,hk,hm,hf,hn=>by
    rw [ip];have ht:tE (e2 (fj qF) (e1 dg (af 7)) (eC (.int 0))) (tR ps s js who g kvs r fs c8 c9)=.ok (decide (0 < fs.length)):=by
      simp only [cP,bz,bU,ar,am,bY,R.ok_bind,ox,iB,cW,List.length_map];congr 1;simp
    rw [ht,R.ok_bind];by_cases h0:fs=[]
    · have hs0:=hf h0;subst h0;exact ⟨kvs,r,[],c8,c9,rfl,fun N _=>e8 hs0 N _⟩
    · rw [if_pos (decide_eq_true (List.length_pos_iff.mpr h0))];obtain ⟨c8',c9',e⟩:=AR hl hgo hp hs hj hw (who:=who) (g:=g) (kvs:=kvs) (r:=r) (fs:=fs) c8 c9;rw [e,R.ok_bind,eB];by_cases h1:eP ps js who (kvs.map (·.1)) js=[]
      · have w1:dc ps js who (r+1) kvs=kvs:=by unfold dc;rw [h1];simp
        rw [h1,w1];refine ⟨kvs,r+1,[],c8',c9',?_,fun N _=>e8 h1 N _⟩;cases n with
        | zero=>omega
        | succ n =>
          rw [ip];have ht2:tE (e2 (fj qF) (e1 dg (af 7)) (eC (.int 0))) (tR ps s js who g kvs (r+1) [] c8' c9')=.ok false:=rfl;rw [ht2,R.ok_bind];rfl
      · have hk':=hk.round (ps:=ps) (who:=who) (r:=r+1) hj.nd;have hkl:=hk'.len hj.nd;have hgrow:kvs.length+1<=(dc ps js who (r+1) kvs).length:=by
          unfold dc;rw [List.length_append,List.length_map];have:=List.length_pos_iff.mpr h1;omega
        obtain ⟨K,r',fs',d8,d9,w2,w3⟩:=Dy hl hgo hp hs hj hw (who:=who) (g:=g) (k-1) n (dc ps js who (r+1) kvs) (r+1) (eP ps js who (kvs.map (·.1)) js) c8' c9' hk' (by omega) (fun z=>(h1 z).elim) (by omega);refine ⟨K,r',fs',d8,d9,w2,fun N hN=>?_⟩;cases N with
        | zero=>omega
        | succ N=>exact w3 N (by omega)
theorem mS {ps:List P4} (hl:∀ p∈ps,p.ns.length<=100) (hgo:∀ p∈ps,∀ x∈p.ns,0<=x/\x < ps.length) (hp:ps.length<=24) {s g:PyData} {js gs:List Int} (hs:sB s js) (hsg:sB g gs) (hj:dr ps.length js) (hg:dr ps.length gs) (hsub:∀ x∈gs,x∈js) (hw:fM ps js) {who:Int} :
    cC [gD ps,s,.int who,g]=.ok (.tuple (tab (fun i=>oD (rK ps js who gs i)) ps.length)):=by
  have hlen:=hj.len;have hglen:=hg.len;have hgj:gs.length<=js.length:=jN hg.nd hsub;have hk0:ja js (gs.map fun i=>((i,0):Int×Int)):=by
    have e:(gs.map fun i=>((i,0):Int×Int)).map (·.1)=gs:=by rw [List.map_map];exact List.map_id _
    exact ⟨by rw [e];exact hg.nd,by rw [e];exact hsub⟩
  have hk0e:(gs.map fun i=>((i,0):Int×Int)).map (·.1)=gs:=by rw [List.map_map];exact List.map_id _
  obtain ⟨K,r',fs',d8,d9,w2,w3⟩:=Dy hl hgo hp hs hj hw (who:=who) (g:=g) (js.length-gs.length) 1000000 (gs.map fun i=>(i,0)) 0 gs .non .non hk0 (by rw [List.length_map];exact Nat.le_refl _) (fun z=>by
    rw [hk0e,z];unfold eP;rw [List.filter_eq_nil_iff];intro i _;rw [fO];rintro ⟨_,⟨g,_,hz⟩,_⟩;cases hz) (by omega)
  have hK:K=ym ps js who gs ps.length:=by
    by_cases h0:gs=[]
    · subst h0;have hz:eP ps js who (([]:List (Int×Int)).map (·.1)) js=[]:=by
        unfold eP;rw [List.filter_eq_nil_iff];intro i _;rw [fO];rintro ⟨_,⟨g,_,hz⟩,_⟩;cases hz
      have e4:=w3 (js.length-0+1) (Nat.le_refl _);rw [List.map_nil,e8 hz] at e4;rw [<- e4];unfold ym;rw [List.map_nil,e8 hz]
    · have:=List.length_pos_iff.mpr h0;have e4:=w3 ps.length (by omega);rw [<- e4];rfl
  have hways:bP (aW 0) (fun _=>.ok true) (aF bh (ah (e2 bQ (af 0) (eC (.int 3))) (ah (af 1) aG))) [.non,.val s] (ps.map P4.d)=.ok (tab (fun i=>.tuple ((bF ps js i).map .int)) ps.length):=by
    have go:∀ qs:List P4,(∀ p∈qs,p.ns.length<=100)->bP (aW 0) (fun _=>.ok true) (aF bh (ah (e2 bQ (af 0) (eC (.int 3))) (ah (af 1) aG))) [.non,.val s] (qs.map P4.d)=.ok (qs.map fun p=>.tuple ((p.ns.filter (dB js)).map .int)):=by
      intro qs;induction qs with
      | nil=>exact fun _=>cS ..
      | cons p qs ih =>
        intro h;have hc:=jJ (s:=.tuple (p.ns.map .int)) (ns:=p.ns) (.inl rfl) hs (by have:=h p List.mem_cons_self;omega);rw [List.map_cons,dz,ih fun q hq=>h q (List.mem_cons_of_mem _ hq)];simp only [R.ok_bind,if_true,List.set_cons_zero,aP,aD,aS,bz,am,ar,bY,jv,hc];rfl
    rw [go ps hl];congr 1;refine List.ext_getElem (by rw [List.length_map,bS]) fun k h1 h2=>?_
    rw [bS] at h2;have e:=gQ (f:=fun i=>.tuple ((bF ps js i).map .int)) (n:=ps.length) (i:=(k:Int)) (by omega) (by omega);simp only [Int.toNat_natCast] at e;rw [e,List.getElem_map];unfold bF;rw [fB (by omega) (by omega)];simp
  have hinit:bP (aW 0) (fun _=>.ok true) (Da (tE (e2 (uY false) (af 0) (af 1))) (eC (.int 0)) (eC .none)) [.non,.val g] (ce 0 ps.length)=.ok (AC (gs.map fun i=>(i,0)) ps.length) :=
    vq _ _ _ _ fun i h0 h1=>by
      simp only [List.set_cons_zero,u0,cP,bz,am,ar,bY,R.ok_bind,hsg.inn,cW,iJ];cases hm:dB gs i with
      | true=>rw [if_pos (bT.mp hm)];rfl
      | false=>rw [if_neg (show ¬ i∈gs from fun z=>by rw [bT.mpr z] at hm;cases hm)];rfl
  have hr:ug [.int (ps.length:Int)]=.ok (ce 0 ps.length):=by
    rw [GD (by omega) (by omega),Int.toNat_natCast]
  have hlst:qh g=.ok (.list (gs.map .int)):=by rcases hsg with rfl | rfl <;> rfl
  unfold cC kg;refine dZ ?_;rw [show ([gD ps,s,.int who,g].map br.val++List.replicate (10 - [gD ps,s,.int who,g].length) br.non)=[.val (gD ps),.val s,.val (.int who),.val g,.non,.non,.non,.non,.non,.non] from rfl];rw [bg (ρ':=[.val (gD ps),.val s,.val (.int who),.val g,.val (lI ps js),.non,.non,.non,.non,.non]) (by
    rw [bD,bp,show ay 1 [1] [.val (gD ps),.val s,.val (.int who),.val g,.non,.non,.non,.non,.non,.non]=[.non,.val s] from rfl];simp only [bR,am,R.ok_bind,cH,cn];rw [if_pos (by rw [List.length_map];exact bI (by omega)),hways];rfl)]
  rw [bg (ρ':=[.val (gD ps),.val s,.val (.int who),.val g,.val (lI ps js),.own (.list (AC (gs.map fun i=>(i,0)) ps.length)),.non,.non,.non,.non]) (by
    rw [nL,bp,show ay 1 [3] [.val (gD ps),.val s,.val (.int who),.val g,.val (lI ps js),.non,.non,.non,.non,.non]=[.non,.val g] from rfl];simp -implicitDefEqProofs only [xH,aD,aS,bU,am,R.ok_bind,rM,List.length_map,hr,cn];rw [if_pos (by rw [gA];exact bI (by omega)),hinit];rfl)]
  rw [bg (ρ':=[.val (gD ps),.val s,.val (.int who),.val g,.val (lI ps js),.own (.list (AC (gs.map fun i=>(i,0)) ps.length)),.val (.int 0),.non,.non,.non]) (by rfl)];rw [bg (ρ':=tR ps s js who g (gs.map fun i=>(i,0)) 0 gs .non .non) (by
    simp only [bD,bU,ar,am,R.ok_bind,hlst];rfl)]
  rw [bg (ρ':=tR ps s js who g K r' fs' d8 d9) (by
    rw [gi];show lL (dn (tE (e2 (fj qF) (e1 dg (af 7)) (eC (.int 0)))) wM 1000000 _)=_;rw [w2];rfl)]
  rw [hK];rfl
theorem ml {f:Int->Option Int} {n:Nat} (hn:n<=1000):cr [oT f n]=.ok (.tuple ((jE f n).map .int)):=by
  have hc:=jp (t:=tE (e2 (mD) (af 1) (eC .none))) (ρ:=[]) (p:=fun i=>(f i).isSome) (g:=fun i=>oD (f i)) n 0 fun j _ _=>by
    simp only [cP,bz,ar,am,bY,R.ok_bind,wz,cW]
  rw [lg] at hc;unfold cr nT;refine dZ ?_;rw [show ([oT f n].map br.val++List.replicate (1 - [oT f n].length) br.non)=[.val (oT f n)] from rfl];rw [cq,bU,bp,show ay 2 [] [.val (oT f n)]=[.non,.non] from rfl];simp only [jr,am,R.ok_bind,cH,cn];rw [if_pos (by rw [fA,bS];exact bI hn)];rw [show df 0 (tab (fun i=>oD (f i)) n)=df 0 ((ids n).map fun i=>oD (f i)) from rfl,hc];rfl
noncomputable def wB:Fs:=(pY (pB (tE (e2 (jK) (e2 bQ (e2 bQ (af 0) (af 4)) (eC (.int 0))) (af 1))) (tE (e2 (fj qF) (e2 bQ (af 2) (af 4)) (eC (.int 0))))) (im 3 (af 4) (e2 bQ (bE (dA (e2 bQ (e2 bQ (af 0) (af 4)) (eC (.int 3)))) 1 [2,4] (aW 0) (tE (e2 (jK) (e2 bQ (af 1) (af 0)) (e2 nv (e2 bQ (af 1) (af 2)) (eC (.int 1))))) (af 0)) (eC (.int 0)))) ff)
theorem Aj {ps:List P4} (G:Gr ps) {who:Int} {f:Int->Option Int} (hne:∀ i q,f i=some q->0 < q->aq ps i=who->∃ g∈aC ps i,f g=some (q-1)):∀ (is:List Int) (h:Int->PyData) (c4:br),is.Nodup->(∀ x∈is,(0<=x/\x < ps.length)/\(∃ q,f x=some q)/\h x=.none) ->
    ∃ c4',fV (aW 4) wB (is.map .int) [.val (gD ps),.val (.int who),.val (oT f ps.length),.own (.list (tab h ps.length)),c4]=.ok (.nx [.val (gD ps),.val (.int who),.val (oT f ps.length),.own (.list (tab (fun j=>if j∈is then oD (ma ps who f j) else h j) ps.length)),c4'])
  | [],h,c4,_,_=>⟨c4,by rw [List.map_nil,gu];simp⟩
  | i::is,h,c4,nd,hb=>by
    obtain ⟨n1,n2⟩:=List.nodup_cons.mp nd;obtain ⟨hi,⟨q,hq⟩,hh⟩:=hb i List.mem_cons_self;have ho:=kE hi.1 hi.2;have hg:=fB hi.1 hi.2;obtain ⟨c4',e⟩:=Aj G hne is (fun j=>if j=i then oD (ma ps who f i) else h j) (.val (.int i)) n2 (fun x hx=>⟨(hb x (List.mem_cons_of_mem _ hx)).1,(hb x (List.mem_cons_of_mem _ hx)).2.1,by
      have:x≠i:=by rintro rfl;exact n1 hx
      show (if x=i then _ else h x)=_;rw [if_neg this];exact (hb x (List.mem_cons_of_mem _ hx)).2.2⟩)
    refine ⟨c4',?_⟩;have fin:tab (fun j=>if j∈is then oD (ma ps who f j) else (fun j=>if j=i then oD (ma ps who f i) else h j) j) ps.length=tab (fun j=>if j∈i::is then oD (ma ps who f j) else h j) ps.length:=cU fun j _ _=>by
      by_cases h1:j=i
      · subst h1;simp [n1]
      · by_cases h2:j∈is <;> simp [h1,h2]
    rw [fin] at e;rw [<- e,List.map_cons,eK,show (([.val (gD ps),.val (.int who),.val (oT f ps.length),.own (.list (tab h ps.length)),c4]:aT).set 4 (.val (.int i)))=[.val (gD ps),.val (.int who),.val (oT f ps.length),.own (.list (tab h ps.length)),.val (.int i)] from rfl];have ht:(pB (tE (e2 (jK) (e2 bQ (e2 bQ (af 0) (af 4)) (eC (.int 0))) (af 1))) (tE (e2 (fj qF) (e2 bQ (af 2) (af 4)) (eC (.int 0))))) [.val (gD ps),.val (.int who),.val (oT f ps.length),.own (.list (tab h ps.length)),.val (.int i)]=.ok (decide (aq ps i=who/\0 < q)):=by
      have hrk:bQ (oT f ps.length) (.int i)=.ok (.int q):=by rw [pE hi.1 hi.2,hq];rfl
      simp only [lH,cP,bz,am,ar,bY,R.ok_bind,lh hi.1 hi.2,kF,fZ,cW,hrk,iB];rw [<- ho];by_cases h1:aq ps i=who
      · by_cases h2:0 < q <;> simp [h1,h2]
      · simp [h1]
    have hb1:wB [.val (gD ps),.val (.int who),.val (oT f ps.length),.own (.list (tab h ps.length)),.val (.int i)]=.ok (.nx [.val (gD ps),.val (.int who),.val (oT f ps.length),.own (.list (tab (fun j=>if j=i then oD (ma ps who f i) else h j) ps.length)),.val (.int i)]):=by
      unfold wB;rw [fF,ht,R.ok_bind];by_cases hc:aq ps i=who/\0 < q
      · rw [if_pos (decide_eq_true hc)];have hcmp:=du (t:=tE (e2 (jK) (e2 bQ (af 1) (af 0)) (e2 nv (e2 bQ (af 1) (af 2)) (eC (.int 1))))) (ρ:=[.val (oT f ps.length),.val (.int i)]) (p:=fun g=>decide (f g=some (q-1))) (aC ps i) fun k hk=>by
          have hkb:=G.goals hk;have hrk:bQ (oT f ps.length) (.int i)=.ok (.int q):=by rw [pE hi.1 hi.2,hq];rfl
          simp only [List.set_cons_zero,cP,bz,am,ar,bY,R.ok_bind,pE hkb.1 hkb.2,hrk,zo,wb,cW]
        obtain ⟨g,hg1,hg2⟩:=hne i q hq hc.2 hc.1;have hm:ma ps who f i=((aC ps i).filter fun g=>decide (f g=some (q-1))).head?:=by
          unfold ma;rw [hq];exact if_pos hc
        have hmem:g∈(aC ps i).filter fun g=>decide (f g=some (q-1)):=List.mem_filter.mpr ⟨hg1,decide_eq_true hg2⟩
        cases hL:(aC ps i).filter fun g=>decide (f g=some (q-1)) with
        | nil=>rw [hL] at hmem;cases hmem
        | cons v r =>
          rw [hL] at hm hcmp;rw [nM (ds:=tab h ps.length) (n:=i) (v:=.int v) rfl rfl ?_ hi.1 (by rw [bS];exact hi.2),nN hi.1 hi.2,hm]
          · rfl
          · rw [bz,bp,show ay 1 [2,4] [.val (gD ps),.val (.int who),.val (oT f ps.length),.own (.list (tab h ps.length)),.val (.int i)]=[.non,.val (oT f ps.length),.val (.int i)] from rfl];simp only [bR,bz,am,ar,bY,R.ok_bind,lh hi.1 hi.2,jv,cH,cn];rw [<- hg,if_pos (by rw [List.length_map];exact bI (by have:=G.glen i;omega)),hcmp,fJ,R.ok_bind,vZ (by omega) (by simp)];rfl
      · rw [if_neg (by rw [decide_eq_true_iff];exact hc)];have hm:ma ps who f i=none:=by
          unfold ma;rw [hq];exact if_neg hc
        rw [lA,hm];congr 3;rw [cU fun j _ _=>?_];by_cases h1:j=i
        · subst h1;rw [if_pos rfl,hh];rfl
        · rw [if_neg h1]
    rw [hb1,R.ok_bind,eB]
theorem ig {ps:List P4} (G:Gr ps) {who:Int} {f:Int->Option Int} (hne:∀ i q,f i=some q->0 < q->aq ps i=who->∃ g∈aC ps i,f g=some (q-1)) :
    bo [gD ps,.int who,oT f ps.length]=.ok (oT (ma ps who f) ps.length):=by
  have hp:=G.hp;have h0:bP (aW 0) (fun _=>.ok true) (eC .none) [.non] (tab (fun i=>oD (f i)) ps.length)=.ok (tab (fun _=>.none) ps.length):=by
    have:=gr (eC .none) [.non] 0 (fun _=>.none) (tab (fun i=>oD (f i)) ps.length) fun d _=>rfl
    rw [this];unfold tab;rw [List.map_map];rfl
  obtain ⟨c4,e⟩:=Aj G hne (jE f ps.length) (fun _=>.none) .non (ph f ps.length).nd fun x hx=>⟨(ic.mp hx).1,(ic.mp hx).2,rfl⟩
  have fin:tab (fun j=>if j∈jE f ps.length then oD (ma ps who f j) else .none) ps.length=tab (fun j=>oD (ma ps who f j)) ps.length:=cU fun j h1 h2=>by
    by_cases h:j∈jE f ps.length
    · rw [if_pos h]
    · rw [if_neg h];have:f j=none:=by
        cases hf:f j with
        | none=>rfl
        | some q=>exact (h (ic.mpr ⟨⟨h1,h2⟩,q,hf⟩)).elim
      unfold ma;rw [this];rfl
  rw [fin] at e;unfold bo fT;refine dZ ?_;rw [show ([gD ps,.int who,oT f ps.length].map br.val++List.replicate (5 - [gD ps,.int who,oT f ps.length].length) br.non)=[.val (gD ps),.val (.int who),.val (oT f ps.length),.non,.non] from rfl];rw [bg (ρ':=[.val (gD ps),.val (.int who),.val (oT f ps.length),.own (.list (tab (fun _=>.none) ps.length)),.non]) (by
    rw [nL,bp,show ay 1 [] [.val (gD ps),.val (.int who),.val (oT f ps.length),.non,.non]=[.non] from rfl];simp only [bR,am,ar,R.ok_bind,cH,cn];rw [if_pos (by rw [bS];exact bI (by omega)),h0];rfl)]
  rw [bg (ρ':=[.val (gD ps),.val (.int who),.val (oT f ps.length),.own (.list (tab (fun j=>oD (ma ps who f j)) ps.length)),c4]) (by
    rw [gi,gO,bR];simp only [aP,aD,aS,am,ar,R.ok_bind,ml (show ps.length<=1000 by omega),cH];unfold wB at e;rw [e];rfl)]
  rfl
theorem zm {d:PyData} (hg:fL d) (hd:d.depth<=60):jK d d=.ok (.bool true):=by
  unfold jK;rw [if_pos (by unfold pV;rw [hg];simp;exact hd),PySem.SeqAt.eqv_refl d hg]
noncomputable def wX:List PyData->Prop:=fun ds=>∀ x∈ds,fL x/\x.depth=0
theorem wX.dep:∀ {ds:List PyData},wX ds->PyData.depthAll ds=0
  | [],_=>by simp [PyData.depthAll]
  | d::ds,h=>by simp [PyData.depthAll,(h d List.mem_cons_self).2,wX.dep fun x hx=>h x (List.mem_cons_of_mem _ hx)]
theorem wX.good {ds:List PyData} (h:wX ds):fL (.tuple ds):=fD.mpr fun x hx=>(h x hx).1
theorem BY (o:Option Int):fL (oD o)/\(oD o).depth=0:=by
  cases o
  · exact ⟨xE,by simp [oD,PyData.depth]⟩
  · exact ⟨gv _,by simp [oD,PyData.depth]⟩
theorem l4 (ns:List Int):wX (ns.map .int):=fun x hx=>by
  obtain ⟨i,_,rfl⟩:=List.mem_map.mp hx;exact BY (some i)
theorem sx (ns:List Int):fL (.tuple (ns.map .int)):=(l4 ns).good
theorem FS {ps:List P4} {hi:Int} (hp:∀ p∈ps,Pl ps.length hi p) (h24:(ps.length:Int)<=24):Gr ps :=
  ⟨fun p h=>by have:=(hp p h).len;omega,fun p h=>(hp p h).inn,by omega,fun p h=>(hp p h).so,fun p h=>(hp p h).ne⟩
theorem Gr.gne {ps:List P4} (G:Gr ps) {i:Int} (h0:0<=i) (h1:i < ps.length):∃ g,g∈aC ps i:=by
  have:=G.ne _ (List.getElem_mem (show i.toNat < ps.length by omega));rw [<- fB h0 h1] at this;exact List.exists_mem_of_ne_nil _ this
theorem yA {ps:List P4} (G:Gr ps):fM ps (ids ps.length):=fun i hi=>by
  obtain ⟨h0,h1⟩:=aY.mp hi;obtain ⟨g,hg⟩:=G.gne h0 h1;exact ⟨g,List.mem_filter.mpr ⟨hg,bT.mpr (aY.mpr (G.goals hg))⟩⟩
theorem ub {n:Nat} (h:n<=1000):Ds .tuple [.int (n:Int)]=.ok (.tuple ((ids n).map .int)):=by
  rw [GC (by omega) (by omega),pc];rfl
theorem o7:∀ {l m:List Int},l.Nodup->m.Nodup->(∀ x,x∈l<->x∈m)->l.Perm m
  | [],m,_,_,h=>by
    cases m with
    | nil=>exact .nil
    | cons y m=>exact absurd ((h y).mpr List.mem_cons_self) (by simp)
  | x::l,m,n1,n2,h=>by
    obtain ⟨a,b⟩:=List.nodup_cons.mp n1;have hx:=(h x).mp List.mem_cons_self;have p:=List.perm_cons_erase hx;refine List.Perm.trans (List.Perm.cons x (o7 b (n2.erase x) fun y=>?_)) p.symm;by_cases e:y=x
    · subst e;exact ⟨fun z=>(a z).elim,fun z=>(by rw [List.Nodup.mem_erase_iff n2] at z;exact (z.1 rfl).elim)⟩
    · rw [List.mem_erase_of_ne e,<- h y];exact ⟨List.mem_cons_of_mem _,fun z=>(List.mem_cons.mp z).resolve_left e⟩
theorem mO {ps:List P4} (hp:ps.length<=1000):cc [gD ps]=.ok (.tuple (tab (fun _=>.none) ps.length)):=by
  have h0:bP (aW 0) (fun _=>.ok true) (eC .none) [.non] (ps.map P4.d)=.ok (tab (fun _=>.none) ps.length):=by
    have:=gr (eC .none) [.non] 0 (fun _=>.none) (ps.map P4.d) fun d _=>rfl
    rw [this];congr 1;refine List.ext_getElem (by rw [List.length_map,List.length_map,bS]) fun k h1 h2=>?_
    rw [bS] at h2;have e:=gQ (f:=fun _=>.none) (n:=ps.length) (i:=(k:Int)) (by omega) (by omega);simp only [Int.toNat_natCast] at e;rw [e,List.getElem_map]
  unfold cc kf;refine dZ ?_;rw [show ([gD ps].map br.val++List.replicate (1 - [gD ps].length) br.non)=[.val (gD ps)] from rfl];rw [cq,bU,bp,show ay 1 [] [.val (gD ps)]=[.non] from rfl];simp only [bR,am,R.ok_bind,cH,cn];rw [if_pos (by rw [List.length_map];exact bI hp),h0];rfl
noncomputable def wS:Fs:=(pY (tE (e2 (jK) (e2 bQ (e2 bQ (af 0) (af 4)) (eC (.int 0))) (af 1))) (im 3 (af 4) (e2 bQ (aF bh (ah (e2 bQ (e2 bQ (af 0) (af 4)) (eC (.int 3))) (ah (af 2) aG))) (eC (.int 0)))) ff)
theorem AY {ps:List P4} (G:Gr ps) {who:Int} {s:PyData} {part:List Int} (hs:sB s part) (hj:dr ps.length part) (hne:∀ i∈part,aq ps i=who->∃ g,g∈bF ps part i):∀ (is:List Int) (h:Int->PyData) (c4:br),is.Nodup->(∀ x∈is,x∈part/\h x=.none) ->
    ∃ c4',fV (aW 4) wS (is.map .int) [.val (gD ps),.val (.int who),.val s,.own (.list (tab h ps.length)),c4]=.ok (.nx [.val (gD ps),.val (.int who),.val s,.own (.list (tab (fun j=>if j∈is then oD (fh ps who part j) else h j) ps.length)),c4'])
  | [],h,c4,_,_=>⟨c4,by rw [List.map_nil,gu];simp⟩
  | i::is,h,c4,nd,hb=>by
    obtain ⟨n1,n2⟩:=List.nodup_cons.mp nd;obtain ⟨hip,hh⟩:=hb i List.mem_cons_self;have hi:=hj.inn i hip;have ho:=kE hi.1 hi.2;have hg:=fB hi.1 hi.2;obtain ⟨c4',e⟩:=AY G hs hj hne is (fun j=>if j=i then oD (fh ps who part i) else h j) (.val (.int i)) n2 (fun x hx=>⟨(hb x (List.mem_cons_of_mem _ hx)).1,by
      have:x≠i:=by rintro rfl;exact n1 hx
      show (if x=i then _ else h x)=_;rw [if_neg this];exact (hb x (List.mem_cons_of_mem _ hx)).2⟩)
    refine ⟨c4',?_⟩;have fin:tab (fun j=>if j∈is then oD (fh ps who part j) else (fun j=>if j=i then oD (fh ps who part i) else h j) j) ps.length=tab (fun j=>if j∈i::is then oD (fh ps who part j) else h j) ps.length:=cU fun j _ _=>by
      by_cases h1:j=i
      · subst h1;simp [n1]
      · by_cases h2:j∈is <;> simp [h1,h2]
    rw [fin] at e;rw [<- e,List.map_cons,eK,show (([.val (gD ps),.val (.int who),.val s,.own (.list (tab h ps.length)),c4]:aT).set 4 (.val (.int i)))=[.val (gD ps),.val (.int who),.val s,.own (.list (tab h ps.length)),.val (.int i)] from rfl];have ht:(tE (e2 (jK) (e2 bQ (e2 bQ (af 0) (af 4)) (eC (.int 0))) (af 1))) [.val (gD ps),.val (.int who),.val s,.own (.list (tab h ps.length)),.val (.int i)]=.ok (decide (aq ps i=who)):=by
      simp only [cP,bz,am,ar,bY,R.ok_bind,lh hi.1 hi.2,kF,fZ,cW];rw [<- ho]
    have hb1:wS [.val (gD ps),.val (.int who),.val s,.own (.list (tab h ps.length)),.val (.int i)]=.ok (.nx [.val (gD ps),.val (.int who),.val s,.own (.list (tab (fun j=>if j=i then oD (fh ps who part i) else h j) ps.length)),.val (.int i)]):=by
      unfold wS;rw [fF,ht,R.ok_bind];by_cases hc:aq ps i=who
      · rw [if_pos (decide_eq_true hc)];have hcm:=jJ (s:=.tuple ((aC ps i).map .int)) (ns:=aC ps i) (.inl rfl) hs (by have:=G.glen i;omega);obtain ⟨g,hg1⟩:=hne i hip hc;have hm:fh ps who part i=(bF ps part i).head?:=if_pos ⟨hip,hc⟩;have hw:(aC ps i).filter (dB part)=bF ps part i:=rfl;rw [hw] at hcm;cases hL:bF ps part i with
        | nil=>rw [hL] at hg1;cases hg1
        | cons v r =>
          rw [hL] at hm hcm;rw [nM (ds:=tab h ps.length) (n:=i) (v:=.int v) rfl rfl ?_ hi.1 (by rw [bS];exact hi.2),nN hi.1 hi.2,hm]
          · rfl
          · simp only [bz,aP,aD,aS,am,ar,bY,R.ok_bind,lh hi.1 hi.2,jv];rw [<- hg,hcm,R.ok_bind,zn (by omega) (by simp)];rfl
      · rw [if_neg (by rw [decide_eq_true_iff];exact hc)];have hm:fh ps who part i=none:=if_neg fun z=>hc z.2
        rw [lA,hm];congr 3;rw [cU fun j _ _=>?_];by_cases h1:j=i
        · subst h1;rw [if_pos rfl,hh];rfl
        · rw [if_neg h1]
    rw [hb1,R.ok_bind,eB]
theorem mr {ps:List P4} (G:Gr ps) {who:Int} {s:PyData} {part:List Int} (hs:sB s part) (hj:dr ps.length part) (hne:∀ i∈part,aq ps i=who->∃ g,g∈bF ps part i) :
    bG [gD ps,.int who,s]=.ok (oT (fh ps who part) ps.length):=by
  have hp:=G.hp;have hn:=mO (ps:=ps) (by omega);obtain ⟨c4,e⟩:=AY G hs hj hne part (fun _=>.none) .non hj.nd fun x hx=>⟨hx,rfl⟩
  have fin:tab (fun j=>if j∈part then oD (fh ps who part j) else .none) ps.length=tab (fun j=>oD (fh ps who part j)) ps.length:=cU fun j h1 h2=>by
    by_cases h:j∈part
    · rw [if_pos h]
    · rw [if_neg h];have:fh ps who part j=none:=if_neg fun z=>h z.1
      rw [this];rfl
  rw [fin] at e;unfold bG fU;refine dZ ?_;rw [show ([gD ps,.int who,s].map br.val++List.replicate (5 - [gD ps,.int who,s].length) br.non)=[.val (gD ps),.val (.int who),.val s,.non,.non] from rfl];rw [bg (ρ':=[.val (gD ps),.val (.int who),.val s,.own (.list (tab (fun _=>.none) ps.length)),.non]) (by
    simp only [nL,bU,aP,aD,aS,am,R.ok_bind,hn,Bv];rfl)]
  rw [bg (ρ':=[.val (gD ps),.val (.int who),.val s,.own (.list (tab (fun j=>oD (fh ps who part j)) ps.length)),c4]) (by
    rw [gi,gO,bR];simp only [am,ar,R.ok_bind,hs.seq];unfold wS at e;rw [e];rfl)]
  rfl
noncomputable abbrev CD:List Str:=["who","places","moves"]
noncomputable def iW (c:Addr) (n:Nat) (s:Sh):PyData:=zG c CD [.int s.w,.tuple (s.pl.map .int),oT s.mv n]
theorem vy (c:Addr) (n:Nat) (s:Sh):iW c n s=.dict [(.none,.int c),(.str "who",.int s.w),(.str "places",.tuple (s.pl.map .int)),(.str "moves",oT s.mv n)]:=rfl
theorem BG (c:Addr) (n:Nat) (s:Sh):kx c "who" (iW c n s)=.ok (.int s.w):=by
  rw [vy];show (if (c:Int)=(c:Int) then (if ("who" : Str) = "who" then R.ok _ else _) else .no)=_;rw [if_pos rfl,if_pos rfl]
theorem oH (c:Addr) (n:Nat) (s:Sh):kx c "places" (iW c n s)=.ok (.tuple (s.pl.map .int)):=by
  rw [vy];show (if (c:Int)=(c:Int) then (if ("who" : Str) = "places" then _ else if ("places" : Str) = "places" then R.ok _ else _) else .no)=_;rw [if_pos rfl,if_neg (by decide +kernel),if_pos rfl]
theorem xB (c:Addr) (n:Nat) (s:Sh):kx c "moves" (iW c n s)=.ok (oT s.mv n):=by
  rw [vy];show (if (c:Int)=(c:Int) then (if ("who" : Str) = "moves" then _ else if ("places" : Str) = "moves" then _ else if ("moves" : Str) = "moves" then R.ok _ else _) else .no)=_;rw [if_pos rfl,if_neg (by decide +kernel),if_neg (by decide +kernel),if_pos rfl]
theorem nE {f g:Int->Option Int} {n:Nat} (hn:n<=1000):aE [oT f n,oT g n]=.ok (oT (dY f g) n):=by
  have hc:=CK (f:=fun i=>oD (f i)) (g:=fun i=>oD (g i)) (h:=fun i=>oD (dY f g i)) (n:=n) (ρ:=[]) (fe:=Da (tE (e2 (rL) (af 0) (eC .none))) (af 1) (af 0)) fun i _ _=>by
    simp only [u0,cP,bz,am,ar,bY,R.ok_bind,zK,cW];unfold dY;cases f i <;> rfl
  unfold aE fS;refine dZ ?_;rw [show ([oT f n,oT g n].map br.val++List.replicate (2 - [oT f n,oT g n].length) br.non)=[.val (oT f n),.val (oT g n)] from rfl];rw [cq,bU,bp,show ay 2 [] [.val (oT f n),.val (oT g n)]=[.non,.non] from rfl];simp only [BL,am,ar,R.ok_bind,cH,cn];rw [if_pos (by rw [pK,bS,bS,Nat.min_self];exact bI hn),hc];rfl
theorem pQ {ps:List P4} (hp:ps.length<=1000):cE [gD ps]=.ok (.tuple ((ids ps.length).map .int)):=by
  have hrt:=ub (n:=ps.length) hp;have hlen:dg (gD ps)=.ok (.int ps.length):=by simp
  unfold cE iq;refine dZ ?_;rw [show ([gD ps].map br.val++List.replicate (1 - [gD ps].length) br.non)=[.val (gD ps)] from rfl];simp only [cq,zu,aD,aS,bU,am,R.ok_bind,hlen,hrt]
noncomputable def A0 (s:Sh) (f:Int->Option Int) (i:Int):Option Int:=if i∈s.pl then some s.w else f i
noncomputable def mV:(Int->Option Int)->List Sh->Int->Option Int
  | f,[]=>f
  | f,s::l=>mV (A0 s f) l
noncomputable def tW:(Int->Option Int)->List Sh->Int->Option Int
  | f,[]=>f
  | f,s::l=>tW (dY f s.mv) l
theorem AZ {c:Addr} {n:Nat} {a b m:PyData} {s:Sh}:∀ (is:List Int) (f:Int->Option Int) (c5:br),(∀ x∈is,0<=x/\x < n) ->
    ∃ c5',fV (aW 5) (im 2 (af 5) (e1 (kx c "who") (af 4))) (is.map .int) [.val a,.val b,.own (.list (tab (fun i=>oD (f i)) n)),.val m,.val (iW c n s),c5]=.ok (.nx [.val a,.val b,.own (.list (tab (fun i=>oD (if i∈is then some s.w else f i)) n)),.val m,.val (iW c n s),c5'])
  | [],f,c5,_=>⟨c5,by rw [List.map_nil,gu];simp⟩
  | i::is,f,c5,hb=>by
    obtain ⟨h0,h1⟩:=hb i List.mem_cons_self;obtain ⟨c5',e⟩:=AZ (c:=c) (n:=n) (a:=a) (b:=b) (m:=m) (s:=s) is (fun j=>if j=i then some s.w else f j) (.val (.int i)) fun x hx=>hb x (List.mem_cons_of_mem _ hx)
    refine ⟨c5',?_⟩;rw [List.map_cons,eK];rw [show (([.val a,.val b,.own (.list (tab (fun i=>oD (f i)) n)),.val m,.val (iW c n s),c5]:aT).set 5 (.val (.int i)))=[.val a,.val b,.own (.list (tab (fun i=>oD (f i)) n)),.val m,.val (iW c n s),.val (.int i)] from rfl];rw [nM (ds:=tab (fun i=>oD (f i)) n) (n:=i) (v:=.int s.w) rfl rfl (by simp only [bU,ar,am,R.ok_bind,BG]) h0 (by rw [bS];exact h1),R.ok_bind,eB,nN h0 h1];have ht:tab (fun j=>if j=i then PyData.int s.w else oD (f j)) n=tab (fun j=>oD (if j=i then some s.w else f j)) n:=cU fun j _ _=>by split <;> rfl
    have ht2:tab (fun j=>oD (if j∈is then some s.w else if j=i then some s.w else f j)) n=tab (fun j=>oD (if j∈i::is then some s.w else f j)) n:=cU fun j _ _=>by
      by_cases z1:j∈is
      · simp [z1]
      · by_cases z2:j=i <;> simp [z1,z2]
    rw [ht,<- ht2];exact e
noncomputable def su (c:Addr):Fs:=(bB (jZ (mm (dA (e1 (kx c "places") (af 4))) (aW 5) (im 2 (af 5) (e1 (kx c "who") (af 4))))) (cf 3 (aF aE (ah (af 3) (ah (e1 (kx c "moves") (af 4)) aG)))))
theorem wK {c:Addr} {n:Nat} (hn:n<=1000) {a b:PyData}:∀ (l:List Sh) (f m:Int->Option Int) (c4 c5:br),(∀ s∈l,∀ x∈s.pl,0<=x/\x < n) ->
    ∃ c4' c5',fV (aW 4) (su c) (l.map (iW c n)) [.val a,.val b,.own (.list (tab (fun i=>oD (f i)) n)),.val (oT m n),c4,c5]=.ok (.nx [.val a,.val b,.own (.list (tab (fun i=>oD (mV f l i)) n)),.val (oT (tW m l) n),c4',c5'])
  | [],f,m,c4,c5,_=>⟨c4,c5,by rw [List.map_nil,gu];rfl⟩
  | s::l,f,m,c4,c5,hb=>by
    obtain ⟨d5,e1⟩:=AZ (c:=c) (n:=n) (a:=a) (b:=b) (m:=oT m n) (s:=s) s.pl f c5 (hb s List.mem_cons_self);obtain ⟨c4',c5',e⟩:=wK (c:=c) hn (a:=a) (b:=b) l (A0 s f) (dY m s.mv) (.val (iW c n s)) d5 fun t ht=>hb t (List.mem_cons_of_mem _ ht)
    refine ⟨c4',c5',?_⟩;rw [List.map_cons,eK];rw [show (([.val a,.val b,.own (.list (tab (fun i=>oD (f i)) n)),.val (oT m n),c4,c5]:aT).set 4 (.val (iW c n s)))=[.val a,.val b,.own (.list (tab (fun i=>oD (f i)) n)),.val (oT m n),.val (iW c n s),c5] from rfl];have hb1:su c [.val a,.val b,.own (.list (tab (fun i=>oD (f i)) n)),.val (oT m n),.val (iW c n s),c5]=.ok (.nx [.val a,.val b,.own (.list (tab (fun i=>oD (A0 s f i)) n)),.val (oT (dY m s.mv) n),.val (iW c n s),d5]):=by
      unfold su;rw [bg (ρ':=[.val a,.val b,.own (.list (tab (fun i=>oD (A0 s f i)) n)),.val (oT m n),.val (iW c n s),d5]) (by
        rw [gi,gO,bR,bU];simp only [ar,am,R.ok_bind,oH,cH];rw [e1];rfl)]
      simp only [bD,aP,aD,aS,bU,ar,am,R.ok_bind,xB,nE hn];rfl
    rw [hb1,R.ok_bind,eB,e];rfl
theorem Hh {ps:List P4} (hp:ps.length<=1000) {c:Addr} {l:List Sh} (hb:∀ s∈l,∀ x∈s.pl,0<=x/\x < ps.length) :
    bn c [gD ps,.list (l.map (iW c ps.length))]=.ok (.tuple [oT (mV (fun _=>none) l) ps.length,oT (tW (fun _=>none) l) ps.length]):=by
  obtain ⟨c4,c5,e⟩:=wK (c:=c) hp (a:=gD ps) (b:=.list (l.map (iW c ps.length))) l (fun _=>none) (fun _=>none) .non .non hb;have h0:bP (aW 0) (fun _=>.ok true) (eC .none) [.non] (ps.map P4.d)=.ok (tab (fun _=>oD none) ps.length):=by
    have:=gr (eC .none) [.non] 0 (fun _=>.none) (ps.map P4.d) fun d _=>rfl
    rw [this];congr 1;refine List.ext_getElem (by rw [List.length_map,List.length_map,bS]) fun k h1 h2=>?_
    rw [bS] at h2;have e:=gQ (f:=fun _=>oD none) (n:=ps.length) (i:=(k:Int)) (by omega) (by omega);simp only [Int.toNat_natCast] at e;rw [e,List.getElem_map];rfl
  have hn:=mO (ps:=ps) hp;unfold bn ed;refine dZ ?_;rw [show ([gD ps,.list (l.map (iW c ps.length))].map br.val++List.replicate (6 - [gD ps,.list (l.map (iW c ps.length))].length) br.non)=[.val (gD ps),.val (.list (l.map (iW c ps.length))),.non,.non,.non,.non] from rfl];rw [bg (ρ':=[.val (gD ps),.val (.list (l.map (iW c ps.length))),.own (.list (tab (fun _=>oD none) ps.length)),.non,.non,.non]) (by
    rw [nL,bp,show ay 1 [] [.val (gD ps),.val (.list (l.map (iW c ps.length))),.non,.non,.non,.non]=[.non] from rfl];simp only [bR,am,R.ok_bind,cH,cn];rw [if_pos (by rw [List.length_map];exact bI hp),h0];rfl)]
  rw [bg (ρ':=[.val (gD ps),.val (.list (l.map (iW c ps.length))),.own (.list (tab (fun _=>oD none) ps.length)),.val (oT (fun _=>none) ps.length),.non,.non]) (by
    simp only [bD,aP,aD,aS,am,R.ok_bind,hn];rfl)]
  rw [bg (ρ':=[.val (gD ps),.val (.list (l.map (iW c ps.length))),.own (.list (tab (fun i=>oD (mV (fun _=>none) l i)) ps.length)),.val (oT (tW (fun _=>none) l) ps.length),c4,c5]) (by
    rw [gi,gO,bR];simp only [ar,am,R.ok_bind,ss];unfold su at e;rw [e];rfl)]
  simp only [cq,k8,aD,aS,bU,v9,v8,ar,am,R.ok_bind,h8];rfl
noncomputable def Wy (ps:List P4) (js:List Int) (w:Int) (mv:Int->Option Int) (i g:Int):Prop:=(aq ps i=w/\mv i=some g)\/(aq ps i≠w/\g∈bF ps js i)
theorem fQ {ps:List P4} {js:List Int} {i g:Int} (h:g∈bF ps js i):g∈js:=bT.mp (List.mem_filter.mp h).2
theorem eN {ps:List P4} {js:List Int} {i g:Int} (h:g∈bF ps js i):g∈aC ps i:=(List.mem_filter.mp h).1
theorem gR {ps:List P4} {js:List Int} {i g:Int} (h:g∈aC ps i) (h2:g∈js):g∈bF ps js i:=List.mem_filter.mpr ⟨h,bT.mpr h2⟩
theorem wv {ps:List P4} {js gs:List Int} {who:Int} {rk:Int->Option Int} (A:uu ps js who gs rk) {i q:Int} (h:rk i=some q) (hq:0 < q) (ho:aq ps i=who):∃ g,ma ps who rk i=some g/\g∈bF ps js i/\rk g=some (q-1):=by
  obtain ⟨g,g1,g2⟩:=kl A i q h hq ho;have hm:ma ps who rk i=((aC ps i).filter fun g=>decide (rk g=some (q-1))).head?:=by
    unfold ma;rw [h];exact if_pos ⟨ho,hq⟩
  have hmem:g∈(aC ps i).filter fun g=>decide (rk g=some (q-1)):=List.mem_filter.mpr ⟨g1,decide_eq_true g2⟩
  cases hL:(aC ps i).filter fun g=>decide (rk g=some (q-1)) with
  | nil=>rw [hL] at hmem;cases hmem
  | cons v r =>
    rw [hL] at hm;have hv:v∈(aC ps i).filter fun g=>decide (rk g=some (q-1)):=by rw [hL];exact List.mem_cons_self
    have h2:=of_decide_eq_true (List.mem_filter.mp hv).2;exact ⟨v,hm,gR (List.mem_filter.mp hv).1 (A.sub v _ h2),h2⟩
theorem gz {ps:List P4} {who:Int} {rk:Int->Option Int} {i:Int} (h:aq ps i≠who\/rk i=none\/rk i=some 0):ma ps who rk i=none:=by
  unfold ma;rcases h with h | h | h
  · cases rk i with
    | none=>rfl
    | some q=>exact if_neg fun z=>h z.1
  · rw [h]
  · rw [h];exact if_neg fun z=>by omega
theorem yo {ps:List P4} {who:Int} {part:List Int} {i:Int} (hi:i∈part) (ho:aq ps i=who) (hw:∃ g,g∈bF ps part i):∃ g,fh ps who part i=some g/\g∈bF ps part i:=by
  have hm:fh ps who part i=(bF ps part i).head?:=if_pos ⟨hi,ho⟩;obtain ⟨g,hg⟩:=hw;cases hL:bF ps part i with
  | nil=>rw [hL] at hg;cases hg
  | cons v r =>
    rw [hL] at hm;exact ⟨v,hm,List.mem_cons_self⟩
theorem vB {ps:List P4} {who:Int} {part:List Int} {i:Int} (h:i∉part\/aq ps i≠who):fh ps who part i=none:=if_neg fun z=>h.elim (fun y=>y z.1) fun y=>y z.2
inductive iV (E:Int->Int->Prop) (al:Int->Prop) (s:Int):Int->Prop
  | one {x:Int}:E s x->al x->iV E al s x
  | more {x y:Int}:iV E al s x->E x y->al y->iV E al s y
theorem iV.al {E:Int->Int->Prop} {al:Int->Prop} {s x:Int} (h:iV E al s x):al x:=by cases h <;> assumption
theorem iV.imp {E E':Int->Int->Prop} {al al':Int->Prop} {s t:Int} (h:iV E al s t) (h1:∀ y,E s y->al y->E' s y/\al' y) (h2:∀ x y,al x->E x y->al y->E' x y/\al' y):iV E' al' s t:=by
  induction h with
  | one a b=>exact .one (h1 _ a b).1 (h1 _ a b).2
  | more r a b ih=>exact .more ih (h2 _ _ r.al a b).1 (h2 _ _ r.al a b).2
theorem iV.inn {E:Int->Int->Prop} {al:Int->Prop} {s t:Int} {P:Int->Prop} (h:iV E al s t) (hs:P s) (hP:∀ x y,P x->E x y->al y->P y):iV E (fun x=>al x/\P x) s t:=by
  induction h with
  | one a b=>exact .one a ⟨b,hP _ _ hs a b⟩
  | more r a b ih=>exact .more ih a ⟨b,hP _ _ ih.al.2 a b⟩
theorem iV.out {E:Int->Int->Prop} {al:Int->Prop} {s t:Int} {P:Int->Prop} (h:iV E al s t) (ht:¬ P t) (hP:∀ x y,al x->P x->E x y->al y->P y):iV E (fun x=>al x/\¬ P x) s t:=by
  induction h with
  | one a b=>exact .one a ⟨b,ht⟩
  | more r a b ih =>
    have hx:=fun z=>ht (hP _ _ r.al z a b)
    exact .more (ih hx) a ⟨b,ht⟩
theorem iV.less {E:Int->Int->Prop} {al:Int->Prop} {s t:Int} {φ:Int->Int} (h:iV E al s t) (h1:∀ y,E s y->al y->φ y < φ s) (h2:∀ x y,al x->E x y->al y->φ y<=φ x):φ t < φ s:=by
  induction h with
  | one a b=>exact h1 _ a b
  | more r a b ih =>
    have:=h2 _ _ r.al a b;omega
structure sS (ps:List P4) (js:List Int) (win:Int->Int) (mv:Int->Option Int):Prop where
  two:∀ i∈js,win i=0\/win i=1
  has:∀ i∈js,aq ps i=win i->∃ g,mv i=some g/\g∈aC ps i
  non:∀ i∈js,aq ps i≠win i->mv i=none
  stay:∀ i∈js,∀ g,Wy ps js (win i) mv i g->g∈js/\win g=win i
  good:∀ i∈js,aB ps i%2≠win i->¬ iV (Wy ps js (win i) mv) (fun x=>x∈js/\win x=win i/\aB ps x<=aB ps i) i i
structure gE (ps:List P4) (js:List Int) (s:Sh):Prop where
  two:s.w=0\/s.w=1
  sub:∀ i∈s.pl,i∈js
  ne:s.pl≠[]
  has:∀ i∈s.pl,aq ps i=s.w->∃ g,s.mv i=some g/\g∈aC ps i
  non:∀ i,(i∉s.pl\/aq ps i≠s.w)->s.mv i=none
  stay:∀ i∈s.pl,∀ g,Wy ps js s.w s.mv i g->g∈s.pl
  outO:∀ i∈js,i∉s.pl->aq ps i=s.w->∀ g∈bF ps js i,g∉s.pl
  outX:∀ i∈js,i∉s.pl->aq ps i≠s.w->∃ g∈bF ps js i,g∉s.pl
  good:∀ i∈s.pl,aB ps i%2≠s.w->¬ iV (Wy ps js s.w s.mv) (fun x=>x∈s.pl/\aB ps x<=aB ps i) i i
theorem ka {ps:List P4} {K:List Int} {w:Int} {m1 m2:Int->Option Int} {i g:Int} (e:m1 i=m2 i) (h:Wy ps K w m1 i g):Wy ps K w m2 i g:=by
  rcases h with ⟨a,b⟩ | h
  · exact .inl ⟨a,by rw [<- e];exact b⟩
  · exact .inr h
theorem gE.whole {ps:List P4} {js:List Int} {s:Sh} (S:gE ps js s) (hw:fM ps js):fM ps (il js s.pl):=by
  intro i hi;obtain ⟨h1,h2⟩:=bN.mp hi;have fin:∀ g∈bF ps js i,g∉s.pl->∃ g,g∈bF ps (il js s.pl) i:=fun g g1 g2=>⟨g,gR (eN g1) (bN.mpr ⟨fQ g1,g2⟩)⟩
  by_cases ho:aq ps i=s.w
  · obtain ⟨g,hg⟩:=hw i h1;exact fin g hg (S.outO i h1 h2 ho g hg)
  · obtain ⟨g,g1,g2⟩:=S.outX i h1 h2 ho;exact fin g g1 g2
theorem A1 {ps:List P4} {js:List Int} (hown:∀ i∈js,aq ps i=0\/aq ps i=1) {s:Sh} (S:gE ps js s) {win:Int->Int} {mv:Int->Option Int} (I:sS ps (il js s.pl) win mv) :
    sS ps js (fun i=>if i∈s.pl then s.w else win i) (fun i=>if i∈s.pl then s.mv i else mv i):=by
  have wP:∀ {i},i∈s.pl->(if i∈s.pl then s.w else win i)=s.w:=fun h=>if_pos h
  have wR:∀ {i},i∉s.pl->(if i∈s.pl then s.w else win i)=win i:=fun h=>if_neg h
  have mP:∀ {i},i∈s.pl->(if i∈s.pl then s.mv i else mv i)=s.mv i:=fun h=>if_pos h
  have mR:∀ {i},i∉s.pl->(if i∈s.pl then s.mv i else mv i)=mv i:=fun h=>if_neg h
  have goR:∀ i g,i∈js->i∉s.pl->Wy ps js (win i) mv i g->(g∈js/\g∉s.pl/\Wy ps (il js s.pl) (win i) mv i g)\/(win i=s.w/\g∈s.pl):=fun i g hi hn h=>by
    have hi':=bN.mpr ⟨hi,hn⟩;rcases h with ⟨ho,hm⟩ | ⟨ho,hm⟩
    · have w:Wy ps (il js s.pl) (win i) mv i g:=.inl ⟨ho,hm⟩;obtain ⟨z1,z2⟩:=bN.mp (I.stay i hi' g w).1;exact .inl ⟨z1,z2,w⟩
    · by_cases hg:g∈s.pl
      · right;refine ⟨?_,hg⟩;have h1:aq ps i≠s.w:=fun z=>S.outO i hi hn z g hm hg
        have:=hown i hi;have:=I.two i hi';have:=S.two;omega
      · exact .inl ⟨fQ hm,hg,.inr ⟨ho,gR (eN hm) (bN.mpr ⟨fQ hm,hg⟩)⟩⟩
  refine ⟨fun i hi=>?_,fun i hi ho=>?_,fun i hi ho=>?_,fun i hi g hg=>?_,fun i hi hm hp=>?_⟩
  · by_cases h:i∈s.pl
    · rw [wP h];exact S.two
    · rw [wR h];exact I.two i (bN.mpr ⟨hi,h⟩)
  · by_cases h:i∈s.pl
    · rw [mP h];exact S.has i h (ho.trans (wP h))
    · rw [mR h];exact I.has i (bN.mpr ⟨hi,h⟩) (ho.trans (wR h))
  · by_cases h:i∈s.pl
    · rw [mP h];exact S.non i (.inr fun z=>ho (z.trans (wP h).symm))
    · rw [mR h];exact I.non i (bN.mpr ⟨hi,h⟩) fun z=>ho (z.trans (wR h).symm)
  · by_cases h:i∈s.pl
    · rw [wP h] at hg ⊢;have:=S.stay i h g (ka (mP h) hg);exact ⟨S.sub g this,wP this⟩
    · rw [wR h] at hg ⊢;rcases goR i g hi h (ka (mR h) hg) with ⟨z1,z2,z3⟩ | ⟨z1,z2⟩
      · refine ⟨z1,?_⟩;rw [wR z2];exact (I.stay i (bN.mpr ⟨hi,h⟩) g z3).2
      · refine ⟨S.sub g z2,?_⟩;rw [wP z2];exact z1.symm
  · by_cases h:i∈s.pl
    · rw [wP h] at hm hp;refine S.good i h hm ?_;refine (hp.inn (P:=fun x=>x∈s.pl) h fun x y hx e _=>S.stay x hx y (ka (mP hx) e)).imp (fun y e a=>⟨ka (mP h) e,a.2,a.1.2.2⟩) fun x y ax e a=>⟨ka (mP ax.2) e,a.2,a.1.2.2⟩
    · rw [wR h] at hm hp;refine I.good i (bN.mpr ⟨hi,h⟩) hm ?_;have hp2:=hp.out (P:=fun x=>x∈s.pl) h fun x y ax hx e a=>by
        have hw:s.w=win i:=(wP hx).symm.trans ax.2.1;exact S.stay x hx y (ka (mP hx) (by rw [hw];exact e))
      have st:∀ x y,x∈js->x∉s.pl->win x=win i->Wy ps js (win i) (fun i=>if i∈s.pl then s.mv i else mv i) x y->(y∈js/\(if y∈s.pl then s.w else win y)=win i/\aB ps y<=aB ps i)/\y∉s.pl->Wy ps (il js s.pl) (win i) mv x y/\(y∈il js s.pl/\win y=win i/\aB ps y<=aB ps i):=fun x y hx hxn hwx e a=>by
        refine ⟨?_,bN.mpr ⟨a.1.1,a.2⟩,(wR a.2).symm.trans a.1.2.1,a.1.2.2⟩;rcases goR x y hx hxn (by rw [hwx];exact ka (mR hxn) e) with ⟨_,_,z⟩ | ⟨_,z⟩
        · rw [hwx] at z;exact z
        · exact (a.2 z).elim
      exact hp2.imp (fun y e a=>st i y hi h rfl e a) fun x y ax e a=>st x y ax.1.1 ax.2 ((wR ax.2).symm.trans ax.1.2.1) e a
theorem CN {ps:List P4} (win:Int->Int) (mv:Int->Option Int):sS ps [] win mv:=by
  refine ⟨?_,?_,?_,?_,?_⟩ <;> intro i hi <;> cases hi
section
variable {ps:List P4} {js:List Int} (hj:dr ps.length js) (hw:fM ps js) (hown:∀ i∈js,aq ps i=0\/aq ps i=1) {h w:Int} (ew:w=h%2) (hmax:∀ i∈js,aB ps i<=h)
  {tops:List Int} (htop:∀ i,i∈tops<->i∈js/\aB ps i=h) {rk:Int->Option Int} (A:uu ps js w tops rk) {sub:List Int} (hsub:∀ i,i∈sub<->i∈js/\rk i=none) {win:Int->Int} {mv:Int->Option Int} (I:sS ps sub win mv) (hmv:∀ i,i∉sub->mv i=none)
include hj hw hown ew hmax htop A hsub I hmv
theorem yj (hne:js≠[]) (hl:∀ i∈sub,win i=w):gE ps js ⟨w,js,dY (dY (ma ps w rk) mv) (fh ps w js)⟩:=by
  have w01:w=0\/w=1:=by omega
  obtain ⟨M,eM⟩:∃ M,M=dY (dY (ma ps w rk) mv) (fh ps w js):=⟨_,rfl⟩
  rw [<- eM]
  -- the move at a place of w
  have own:∀ i∈js,aq ps i=w->∃ g,M i=some g/\g∈aC ps i/\g∈js/\(∀ q,rk i=some q->0 < q->rk g=some (q-1))/\(rk i=none->mv i=some g):=fun i hi ho=>by
    rw [eM];unfold dY;cases hr:rk i with
    | none =>
      have his:=(hsub i).mpr ⟨hi,hr⟩;obtain ⟨g,g1,g2⟩:=I.has i his (by rw [hl i his];exact ho);have gs:=(I.stay i his g (by rw [hl i his];exact .inl ⟨ho,g1⟩)).1;exact ⟨g,by rw [gz (.inr (.inl hr)),g1];rfl,g2,((hsub g).mp gs).1,(fun q z=>nomatch z),fun _=>g1⟩
    | some q =>
      by_cases hq:0 < q
      · obtain ⟨g,g1,g2,g3⟩:=wv A hr hq ho;exact ⟨g,by rw [g1];rfl,eN g2,fQ g2,fun q' z _=>by cases z;exact g3,fun z=>by cases z⟩
      · obtain ⟨g,g1,g2⟩:=yo hi ho (hw i hi);have h0:q=0:=by have:=A.nneg i q hr;omega
        have hn:mv i=none:=hmv i fun z=>by have:=((hsub i).mp z).2;rw [hr] at this;cases this
        refine ⟨g,by rw [gz (.inr (.inr (by rw [hr,h0]))),hn,g1];rfl,eN g2,fQ g2,fun q' z y=>by cases z;omega,fun z=>by cases z⟩
  refine ⟨w01,fun i hi=>hi,hne,fun i hi ho=>?_,fun i hi=>?_,fun i hi g hg=>?_,fun i hi hn=>(hn hi).elim,fun i hi hn=>(hn hi).elim,fun i hi hm hp=>?_⟩
  · obtain ⟨g,g1,g2,_⟩:=own i hi ho;exact ⟨g,g1,g2⟩
  · show M i=none;rw [eM];unfold dY;rw [vB hi];rcases hi with hi | hi
    · have hr:rk i=none:=by
        cases hr:rk i with
        | none=>rfl
        | some q=>exact (hi (A.sub i q hr)).elim
      rw [gz (.inr (.inl hr)),hmv i fun z=>hi ((hsub i).mp z).1];rfl
    · rw [gz (.inl hi)];by_cases his:i∈sub
      · rw [I.non i his (by rw [hl i his];exact hi)];rfl
      · rw [hmv i his];rfl
  · show g∈js;rcases hg with ⟨ho,hm⟩ | ⟨_,hm⟩
    · obtain ⟨g',g1,_,g3,_⟩:=own i hi ho;rw [show M i=some g from hm] at g1;cases g1;exact g3
    · exact fQ hm
  · -- a bad ring
    have hm':aB ps i%2≠w:=hm;have hlt:aB ps i < h:=by
      have:=hmax i hi;by_cases z:aB ps i=h
      · rw [z] at hm';exact (hm' ew.symm).elim
      · omega
    have dec:∀ x y q,x∈js->aB ps x<=aB ps i->rk x=some q->Wy ps js w M x y->∃ t,rk y=some t/\t < q:=fun x y q hx hmx hq e=>by
      have hpos:0 < q:=by
        have:=A.nneg x q hq;by_cases z:q=0
        · subst z;have:=((htop x).mp ((A.zero x).mp hq)).2;omega
        · omega
      rcases e with ⟨ho,hmv'⟩ | ⟨ho,hmv'⟩
      · obtain ⟨g,g1,_,_,g4,_⟩:=own x hx ho;rw [hmv'] at g1;cases g1;exact ⟨q-1,g4 q hq hpos,by omega⟩
      · exact (A.oth x q hq hpos ho).2 y hmv'
    by_cases hri:rk i=none
    · -- all of it lies in what is left
      have his:=(hsub i).mpr ⟨hi,hri⟩;have hp2:=hp.out (P:=fun x=>∃ q,rk x=some q) (by rintro ⟨q,hq⟩;rw [hri] at hq;cases hq) fun x y ax ⟨q,hq⟩ e _=>by
        obtain ⟨t,ht,_⟩:=dec x y q ax.1 ax.2 hq e;exact ⟨t,ht⟩
      have non:∀ {x},¬ (∃ q,rk x=some q)->rk x=none:=fun {x} z=>by
        cases hr:rk x with
        | none=>rfl
        | some q=>exact (z ⟨q,hr⟩).elim
      refine I.good i his (by rw [hl i his];exact hm') ?_;rw [hl i his];have st:∀ x y,x∈js->rk x=none->Wy ps js w M x y->(y∈js/\aB ps y<=aB ps i)/\¬ (∃ q,rk y=some q)->Wy ps sub w mv x y/\(y∈sub/\win y=w/\aB ps y<=aB ps i):=fun x y hx hrx e a=>by
        have hys:=(hsub y).mpr ⟨a.1.1,non a.2⟩;refine ⟨?_,hys,hl y hys,a.1.2⟩;rcases e with ⟨ho,hmv'⟩ | ⟨ho,hmv'⟩
        · obtain ⟨g,g1,_,_,_,g5⟩:=own x hx ho;rw [hmv'] at g1;cases g1;exact .inl ⟨ho,g5 hrx⟩
        · exact .inr ⟨ho,gR (eN hmv') hys⟩
      exact hp2.imp (fun y e a=>st i y hi hri e a) fun x y ax e a=>st x y ax.1.1 (non ax.2) e a
    · -- ranks fall
      obtain ⟨q0,hq0⟩:∃ q,rk i=some q:=by
        cases hr:rk i with
        | none=>exact (hri hr).elim
        | some q=>exact ⟨q,rfl⟩
      have hp2:=hp.inn (P:=fun x=>x∈js/\aB ps x<=aB ps i/\∃ q,rk x=some q) ⟨hi,Int.le_refl _,q0,hq0⟩ fun x y ⟨hx,hmx,q,hq⟩ e a=>by
        obtain ⟨t,ht,_⟩:=dec x y q hx hmx hq e;exact ⟨a.1,a.2,t,ht⟩
      have fall:∀ x y,x∈js->aB ps x<=aB ps i->(∃ q,rk x=some q)->Wy ps js w M x y->(rk y).getD 0 < (rk x).getD 0:=fun x y hx hmx ⟨q,hq⟩ e=>by
        obtain ⟨t,ht,hlt'⟩:=dec x y q hx hmx hq e;rw [ht,hq];exact hlt'
      have:=hp2.less (φ:=fun x=>(rk x).getD 0) (fun y e _=>fall i y hi (Int.le_refl _) ⟨q0,hq0⟩ e) fun x y ax e _=>by
        have:=fall x y ax.2.1 ax.2.2.1 ax.2.2.2 e;omega
      exact absurd this (Int.lt_irrefl _)
theorem vz {lost:List Int} (hlost:∀ i,i∈lost<->i∈sub/\win i=1-w) (hne:lost≠[]) {rk2:Int->Option Int} (B:uu ps js (1-w) lost rk2) {pl:List Int} (hpl:∀ i,i∈pl<->∃ q,rk2 i=some q) :
    gE ps js ⟨1-w,pl,dY (ma ps (1-w) rk2) (fun i=>if i∈lost then mv i else none)⟩:=by
  have w01:w=0\/w=1:=by omega
  obtain ⟨M,eM⟩:∃ M,M=dY (ma ps (1-w) rk2) (fun i=>if i∈lost then mv i else none):=⟨_,rfl⟩
  rw [<- eM];have l0:∀ {i},i∈lost->rk2 i=some 0:=fun {i} hi=>(B.zero i).mpr hi
  have own:∀ i q,rk2 i=some q->aq ps i=1-w->∃ g,M i=some g/\g∈aC ps i/\((0 < q/\rk2 g=some (q-1))\/(q=0/\g∈lost/\mv i=some g)):=fun i q hq ho=>by
    rw [eM];unfold dY;by_cases hp:0 < q
    · obtain ⟨g,g1,g2,g3⟩:=wv B hq hp ho;exact ⟨g,by rw [g1];rfl,eN g2,.inl ⟨hp,g3⟩⟩
    · have h0:q=0:=by have:=B.nneg i q hq;omega
      have hi:i∈lost:=(B.zero i).mp (by rw [hq,h0]);obtain ⟨hs,hwi⟩:=(hlost i).mp hi;obtain ⟨g,g1,g2⟩:=I.has i hs (by rw [hwi];exact ho);obtain ⟨s1,s2⟩:=I.stay i hs g (by rw [hwi];exact .inl ⟨ho,g1⟩);refine ⟨g,?_,g2,.inr ⟨h0,(hlost g).mpr ⟨s1,s2.trans hwi⟩,g1⟩⟩;rw [gz (.inr (.inr (by rw [hq,h0])))];show (if i∈lost then mv i else none)=_;rw [if_pos hi,g1]
  have go:∀ i q g,rk2 i=some q->Wy ps js (1-w) M i g->∃ t,rk2 g=some t/\((t < q)\/(q=0/\t=0/\Wy ps sub (1-w) mv i g)):=fun i q g hq e=>by
    rcases e with ⟨ho,hm⟩ | ⟨ho,hm⟩
    · obtain ⟨g',g1,_,g3⟩:=own i q hq ho;rw [hm] at g1;cases g1;rcases g3 with ⟨z1,z2⟩ | ⟨z1,z2,z3⟩
      · exact ⟨q-1,z2,.inl (by omega)⟩
      · exact ⟨0,l0 z2,.inr ⟨z1,rfl,.inl ⟨ho,z3⟩⟩⟩
    · by_cases hp:0 < q
      · obtain ⟨t,t1,t2⟩:=(B.oth i q hq hp ho).2 g hm;exact ⟨t,t1,.inl t2⟩
      · have h0:q=0:=by have:=B.nneg i q hq;omega
        have hi:i∈lost:=(B.zero i).mp (by rw [hq,h0]);obtain ⟨hs,hwi⟩:=(hlost i).mp hi;obtain ⟨hij,hin⟩:=(hsub i).mp hs;have how:aq ps i=w:=by have:=hown i hij;omega
        have hgs:g∈sub:=(hsub g).mpr ⟨fQ hm,A.outO i hij hin how g hm⟩;have wy:Wy ps sub (1-w) mv i g:=.inr ⟨ho,gR (eN hm) hgs⟩;obtain ⟨s1,s2⟩:=I.stay i hs g (by rw [hwi];exact wy);exact ⟨0,l0 ((hlost g).mpr ⟨s1,s2.trans hwi⟩),.inr ⟨h0,rfl,wy⟩⟩
  refine ⟨by show 1-w=0\/1-w=1;omega,fun i hi=>?_,?_,fun i hi ho=>?_,fun i hi=>?_,fun i hi g hg=>?_,fun i hi hn ho g hg hgp=>?_,fun i hi hn ho=>?_,fun i hi hm hp=>?_⟩
  · obtain ⟨q,hq⟩:=(hpl i).mp hi;exact B.sub i q hq
  · obtain ⟨i,hi⟩:=List.exists_mem_of_ne_nil _ hne;exact List.ne_nil_of_mem ((hpl i).mpr ⟨0,l0 hi⟩)
  · obtain ⟨q,hq⟩:=(hpl i).mp hi;obtain ⟨g,g1,g2,_⟩:=own i q hq ho;exact ⟨g,g1,g2⟩
  · show M i=none;rw [eM];unfold dY;rcases hi with hi | hi
    · have hr:rk2 i=none:=by
        cases hr:rk2 i with
        | none=>rfl
        | some q=>exact (hi ((hpl i).mpr ⟨q,hr⟩)).elim
      rw [gz (.inr (.inl hr))];show (if i∈lost then mv i else none)=_;rw [if_neg fun z=>by rw [l0 z] at hr;cases hr]
    · rw [gz (.inl hi)];show (if i∈lost then mv i else none)=_;by_cases z:i∈lost
      · obtain ⟨hs,hwi⟩:=(hlost i).mp z;rw [if_pos z,I.non i hs (by rw [hwi];exact hi)]
      · rw [if_neg z]
  · obtain ⟨q,hq⟩:=(hpl i).mp hi;obtain ⟨t,ht,_⟩:=go i q g hq hg;exact (hpl g).mpr ⟨t,ht⟩
  · have hr:rk2 i=none:=by
      cases hr:rk2 i with
      | none=>rfl
      | some q=>exact (hn ((hpl i).mpr ⟨q,hr⟩)).elim
    obtain ⟨q,hq⟩:=(hpl g).mp hgp;rw [B.outO i hi hr ho g hg] at hq;cases hq
  · have hr:rk2 i=none:=by
      cases hr:rk2 i with
      | none=>rfl
      | some q=>exact (hn ((hpl i).mpr ⟨q,hr⟩)).elim
    obtain ⟨g,g1,g2⟩:=B.outX i hi hr ho (hw i hi);refine ⟨g,g1,fun z=>?_⟩;obtain ⟨q,hq⟩:=(hpl g).mp z;rw [g2] at hq;cases hq
  · -- a bad ring
    have hi':i∈pl:=hi;have hm':aB ps i%2≠1-w:=hm;obtain ⟨q0,hq0⟩:=(hpl i).mp hi';have le:∀ x y,x∈pl->Wy ps js (1-w) M x y->(rk2 y).getD 0<=(rk2 x).getD 0:=fun x y hx e=>by
      obtain ⟨q,hq⟩:=(hpl x).mp hx;obtain ⟨t,ht,z⟩:=go x q y hq e;rw [hq,ht];show t<=q;omega
    by_cases hz:q0=0
    · subst hz;have hil:i∈lost:=(B.zero i).mp hq0;obtain ⟨his,hwi⟩:=(hlost i).mp hil;have hp2:=hp.inn (P:=fun x=>x∈lost) hil fun x y hx e _=>by
        obtain ⟨t,ht,z⟩:=go x 0 y (l0 hx) e;have:=B.nneg y t ht;have t0:t=0:=by omega
        exact (B.zero y).mp (by rw [ht,t0])
      refine I.good i his (by rw [hwi];exact hm') ?_;rw [hwi];have st:∀ x y,x∈lost->Wy ps js (1-w) M x y->(y∈pl/\aB ps y<=aB ps i)/\y∈lost->Wy ps sub (1-w) mv x y/\(y∈sub/\win y=1-w/\aB ps y<=aB ps i):=fun x y hx e a=>by
        obtain ⟨s1,s2⟩:=(hlost y).mp a.2;refine ⟨?_,s1,s2,a.1.2⟩;obtain ⟨t,ht,z⟩:=go x 0 y (l0 hx) e;have:=B.nneg y t ht;rcases z with z | ⟨_,_,z⟩
        · omega
        · exact z
      exact hp2.imp (fun y e a=>st i y hil e a) fun x y ax e a=>st x y ax.2 e a
    · have:=hp.less (φ:=fun x=>(rk2 x).getD 0) (fun y e _=>by
        obtain ⟨t,ht,z⟩:=go i q0 y hq0 e;show (rk2 y).getD 0 < (rk2 i).getD 0;rw [ht,hq0];show t < q0;omega) fun x y ax e _=>le x y ax.1 e
      exact absurd this (Int.lt_irrefl _)
end
theorem sS.congr {ps:List P4} {js:List Int} {win:Int->Int} {mv mv':Int->Option Int} (h:sS ps js win mv) (e:∀ i∈js,mv' i=mv i):sS ps js win mv':=by
  refine ⟨h.two,fun i hi ho=>by rw [e i hi];exact h.has i hi ho,fun i hi ho=>by rw [e i hi];exact h.non i hi ho,fun i hi g hg=>h.stay i hi g (ka (e i hi) hg),fun i hi hm hp=>h.good i hi hm ?_⟩;exact hp.imp (fun y a b=>⟨ka (e i hi) a,b⟩) fun x y ax a b=>⟨ka (e x ax.1) a,b⟩
theorem tV {f:Int->Option Int} {n:Nat} (hn:n<=1000) {s:PyData} {js:List Int} (hs:sB s js):cO [oT f n,s]=.ok (oT (fun i=>if i∈js then f i else none) n):=by
  have hc:=oA (fe:=Da (tE (e2 (uY false) (af 0) (af 2))) (af 1) (eC .none)) (ρ:=[.val s]) (g:=fun i=>oD (f i)) (h:=fun i=>oD (if i∈js then f i else none)) n 0 fun j _ _=>by
    simp only [u0,cP,bz,ar,am,bY,R.ok_bind,hs.inn,cW];cases hm:dB js j with
    | true=>rw [if_pos (bT.mp hm)];rfl
    | false=>rw [if_neg (show ¬ (j:Int)∈js from fun z=>by rw [bT.mpr z] at hm;cases hm)];rfl
  rw [lg] at hc;unfold cO ke;refine dZ ?_;rw [show ([oT f n,s].map br.val++List.replicate (2 - [oT f n,s].length) br.non)=[.val (oT f n),.val s] from rfl];rw [cq,bU,bp,show ay 2 [1] [.val (oT f n),.val s]=[.non,.non,.val s] from rfl];simp only [jr,am,R.ok_bind,cH,cn];rw [if_pos (by rw [fA,bS];exact bI hn)];rw [show df 0 (tab (fun i=>oD (f i)) n)=df 0 ((ids n).map fun i=>oD (f i)) from rfl,hc];rfl
noncomputable def lJ (sub:List Int) (win:Int->Int) (i:Int):Option Int:=if i∈sub then some (win i) else none
section
variable {ps:List P4} (G:Gr ps) {c:Addr} {k:Nat} {js:List Int} (hj:dr ps.length js) (hw:fM ps js) (hne:js≠[]) (hown:∀ i∈js,aq ps i=0\/aq ps i=1)
include G hj hw hne hown
theorem zZ (ih:∀ (h:Int) (sub:List Int),dr ps.length sub->fM ps sub->(∀ i∈sub,i∈js/\aB ps i < h)->(∃ i∈js,aB ps i=h)->∃ win mv,aL c k [gD ps,.tuple (sub.map .int)]=.ok (.tuple [oT (lJ sub win) ps.length,oT mv ps.length])/\sS ps sub win mv/\∀ i,i∉sub->mv i=none) :
    ∃ s,bf c k [gD ps,.tuple (js.map .int)]=.ok (iW c ps.length s)/\gE ps js s/\dr ps.length s.pl:=by
  have hp:=G.hp;have hjl:=hj.len;obtain ⟨h,hmx,htopx,hmax⟩:=xW (ps:=ps) hne;obtain ⟨w,ew⟩:∃ w,w=h%2:=⟨_,rfl⟩
  have w01:w=0\/w=1:=by omega
  obtain ⟨tops,etops⟩:∃ tops,tops=js.filter fun i=>decide (aB ps i=h):=⟨_,rfl⟩
  have htop:∀ i,i∈tops<->i∈js/\aB ps i=h:=fun i=>by rw [etops,List.mem_filter,decide_eq_true_iff]
  have tp:dr ps.length tops:=by rw [etops];exact hj.filter _
  obtain ⟨rk,erk⟩:∃ rk,rk=rK ps js w tops:=⟨_,rfl⟩
  have A:uu ps js w tops rk:=by rw [erk];exact vV tp.nd (fun x hx=>((htop x).mp hx).1) hj.nd hj.len
  have h1:=mS G.hl G.hgo G.hp (s:=.tuple (js.map .int)) (g:=.list (tops.map .int)) (.inl rfl) (.inr rfl) hj tp (fun x hx=>((htop x).mp hx).1) hw (who:=w);rw [<- erk] at h1;have h2:=ml (f:=rk) (n:=ps.length) (by omega);have h3:=pJ (s:=.tuple (js.map .int)) (t:=.tuple ((jE rk ps.length).map .int)) (.inl rfl) (.inl rfl) (by omega);obtain ⟨sub,esub⟩:∃ sub,sub=il js (jE rk ps.length):=⟨_,rfl⟩
  have hsub:∀ i,i∈sub<->i∈js/\rk i=none:=fun i=>by
    rw [esub,bN,ic];constructor
    · rintro ⟨a,b⟩;refine ⟨a,?_⟩;cases hr:rk i with
      | none=>rfl
      | some q=>exact (b ⟨hj.inn i a,q,hr⟩).elim
    · rintro ⟨a,b⟩;exact ⟨a,fun ⟨_,q,hq⟩=>by rw [b] at hq;cases hq⟩
  have sp:dr ps.length sub:=by rw [esub];exact hj.filter _
  have sw:fM ps sub:=by
    intro i hi;obtain ⟨a,b⟩:=(hsub i).mp hi;have fin:∀ g∈bF ps js i,rk g=none->∃ g,g∈bF ps sub i:=fun g g1 g2=>⟨g,gR (eN g1) ((hsub g).mpr ⟨fQ g1,g2⟩)⟩
    by_cases ho:aq ps i=w
    · obtain ⟨g,hg⟩:=hw i a;exact fin g hg (A.outO i a b ho g hg)
    · obtain ⟨g,g1,g2⟩:=A.outX i a b ho (hw i a);exact fin g g1 g2
  obtain ⟨win,mv,h4,I,hmv⟩:=ih h sub sp sw (fun i hi=>by
    obtain ⟨a,b⟩:=(hsub i).mp hi;refine ⟨a,?_⟩;have:=hmax i a;by_cases z:aB ps i=h
    · have:=(A.zero i).mpr ((htop i).mpr ⟨a,z⟩);rw [b] at this;cases this
    · omega) htopx
  have h5:=ig G (kl A)
  -- the lists
  have hmarks:bP (aW 0) (fun _=>.ok true) (e2 bQ (e2 bQ (af 1) (af 0)) (eC (.int 1))) [.non,.val (gD ps)] (js.map .int)=.ok ((js.map (aB ps)).map .int):=by
    have go:∀ is:List Int,(∀ x∈is,0<=x/\x < ps.length)->bP (aW 0) (fun _=>.ok true) (e2 bQ (e2 bQ (af 1) (af 0)) (eC (.int 1))) [.non,.val (gD ps)] (is.map .int)=.ok ((is.map (aB ps)).map .int):=by
      intro is;induction is with
      | nil=>exact fun _=>cS ..
      | cons i is ih' =>
        intro hb;obtain ⟨b0,b1⟩:=hb i List.mem_cons_self;rw [List.map_cons,dz,ih' fun x hx=>hb x (List.mem_cons_of_mem _ hx)];simp only [R.ok_bind,if_true,List.set_cons_zero,bz,am,ar,bY,lh b0 b1,o4];rw [<- qx b0 b1];rfl
    exact go js hj.inn
  have htops:=du (t:=tE (e2 (jK) (e2 bQ (e2 bQ (af 1) (af 0)) (eC (.int 1))) (af 2))) (ρ:=[.val (gD ps),.val (.int h)]) (p:=fun i=>decide (aB ps i=h)) js fun i hi=>by
    obtain ⟨b0,b1⟩:=hj.inn i hi;simp only [List.set_cons_zero,cP,bz,am,ar,bY,R.ok_bind,lh b0 b1,o4,fZ,cW];rw [<- qx b0 b1]
  rw [<- etops] at htops;obtain ⟨lost,elost⟩:∃ lost,lost=(ids ps.length).filter fun i=>decide (lJ sub win i=some (1-w)):=⟨_,rfl⟩
  have hlost:∀ i,i∈lost<->i∈sub/\win i=1-w:=fun i=>by
    rw [elost,List.mem_filter,decide_eq_true_iff];unfold lJ;constructor
    · rintro ⟨a,b⟩;split at b
      · rename_i z;exact ⟨z,Option.some.inj b⟩
      · cases b
    · rintro ⟨a,b⟩;exact ⟨aY.mpr (sp.inn i a),by rw [if_pos a,b]⟩
  have lp:dr ps.length lost:=by rw [elost];exact (dr.ids _).filter _
  have hlist:=jp (t:=tE (e2 (jK) (af 1) (af 2))) (ρ:=[.val (.int (1-w))]) (p:=fun i=>decide (lJ sub win i=some (1-w))) (g:=fun i=>oD (lJ sub win i)) ps.length 0 fun j _ _=>by
    simp only [cP,bz,ar,am,R.ok_bind,wb,cW]
  rw [lg,<- elost] at hlist;obtain ⟨B,hB⟩:∃ B,B=PyData.tuple [oT (lJ sub win) ps.length,oT mv ps.length]:=⟨_,rfl⟩
  rw [<- hB] at h4;have hB0:bQ B (.int 0)=.ok (oT (lJ sub win) ps.length):=by rw [hB];rfl
  have hB1:bQ B (.int 1)=.ok (oT mv ps.length):=by rw [hB];rfl
  -- up to the test
  have pre:∀ {r:R PyData},((bB (pY (tE (e2 (jK) (e1 dg (af 8)) (eC (.int 0)))) (bB (cf 9 (aF aE (ah (aF bo (ah (af 0) (ah (af 3) (ah (af 6) aG)))) (ah (e2 bQ (af 7) (eC (.int 1))) aG)))) (cM (tJ c ["who","places","moves"] (ah (af 3) (ah (af 1) (ah (aF aE (ah (af 9) (ah (aF bG (ah (af 0) (ah (af 3) (ah (af 1) aG)))) aG))) aG)))))) ff) (bB (cf 6 (aF cC (ah (af 0) (ah (af 1) (ah (af 4) (ah (af 8) aG)))))) (bB (cf 9 (aF aE (ah (aF bo (ah (af 0) (ah (af 4) (ah (af 6) aG)))) (ah (aF cO (ah (e2 bQ (af 7) (eC (.int 1))) (ah (af 8) aG))) aG)))) (cM (tJ c ["who","places","moves"] (ah (af 4) (ah (aF cr (ah (af 6) aG)) (ah (af 9) aG)))))))) [.val (gD ps),.val (.tuple (js.map .int)),.val (.int h),.val (.int w),.val (.int (1-w)),.val (.list (tops.map .int)),.val (oT rk ps.length),.val B,.val (.list (lost.map .int)),.non]>>=AB)=r->bf c k [gD ps,.tuple (js.map .int)]=r:=fun {r} hr=>by
    unfold bf dR;rw [eW,show ([gD ps,.tuple (js.map .int)].map br.val++List.replicate (10 - [gD ps,.tuple (js.map .int)].length) br.non)=[.val (gD ps),.val (.tuple (js.map .int)),.non,.non,.non,.non,.non,.non,.non,.non] from rfl];rw [bg (ρ':=[.val (gD ps),.val (.tuple (js.map .int)),.val (.int h),.non,.non,.non,.non,.non,.non,.non]) (by
      rw [bD,bU,bp,show ay 1 [0] [.val (gD ps),.val (.tuple (js.map .int)),.non,.non,.non,.non,.non,.non,.non,.non]=[.non,.val (gD ps)] from rfl];simp only [bR,am,ar,R.ok_bind,cH,cn];rw [if_pos (by rw [List.length_map];exact bI (by omega)),hmarks,fJ,R.ok_bind,hmx];rfl)]
    rw [bg (ρ':=[.val (gD ps),.val (.tuple (js.map .int)),.val (.int h),.val (.int w),.non,.non,.non,.non,.non,.non]) (by
      simp only [bD,bz,am,ar,bY,R.ok_bind,rN];rw [if_pos (by decide),<- ew];rfl)]
    rw [bg (ρ':=[.val (gD ps),.val (.tuple (js.map .int)),.val (.int h),.val (.int w),.val (.int (1-w)),.non,.non,.non,.non,.non]) (by
      simp only [bD,bz,am,ar,bY,R.ok_bind,zo];rfl)]
    rw [bg (ρ':=[.val (gD ps),.val (.tuple (js.map .int)),.val (.int h),.val (.int w),.val (.int (1-w)),.val (.list (tops.map .int)),.non,.non,.non,.non]) (by
      rw [bD,bp,show ay 1 [0,2] [.val (gD ps),.val (.tuple (js.map .int)),.val (.int h),.val (.int w),.val (.int (1-w)),.non,.non,.non,.non,.non]=[.non,.val (gD ps),.val (.int h)] from rfl];simp only [bR,am,ar,R.ok_bind,cH,cn];rw [if_pos (by rw [List.length_map];exact bI (by omega)),htops];rfl)]
    rw [bg (ρ':=[.val (gD ps),.val (.tuple (js.map .int)),.val (.int h),.val (.int w),.val (.int (1-w)),.val (.list (tops.map .int)),.val (oT rk ps.length),.non,.non,.non]) (by
      simp only [bD,aP,aD,aS,am,ar,R.ok_bind,h1];rfl)]
    rw [bg (ρ':=[.val (gD ps),.val (.tuple (js.map .int)),.val (.int h),.val (.int w),.val (.int (1-w)),.val (.list (tops.map .int)),.val (oT rk ps.length),.val B,.non,.non]) (by
      simp only [bD,aP,aD,aS,am,ar,R.ok_bind,h2,h3];rw [show (js.filter fun i=>!dB (jE rk ps.length) i)=sub from esub.symm,h4];rfl)]
    rw [bg (ρ':=[.val (gD ps),.val (.tuple (js.map .int)),.val (.int h),.val (.int w),.val (.int (1-w)),.val (.list (tops.map .int)),.val (oT rk ps.length),.val B,.val (.list (lost.map .int)),.non]) (by
      rw [bD,bp,show ay 2 [4] [.val (gD ps),.val (.tuple (js.map .int)),.val (.int h),.val (.int w),.val (.int (1-w)),.val (.list (tops.map .int)),.val (oT rk ps.length),.val B,.non,.non]=[.non,.non,.val (.int (1-w))] from rfl];simp only [jr,bz,am,ar,bY,R.ok_bind,hB0,cH,cn];rw [if_pos (by rw [fA,bS];exact bI (by omega))];rw [show df 0 (tab (fun i=>oD (lJ sub win i)) ps.length)=df 0 ((ids ps.length).map fun i=>oD (lJ sub win i)) from rfl,hlist];rfl)]
    exact hr
  by_cases hl:lost=[]
  · have hall:∀ i∈sub,win i=w:=fun i hi=>by
      by_cases z:win i=1-w
      · have:=(hlost i).mpr ⟨hi,z⟩;rw [hl] at this;cases this
      · have:=I.two i hi;omega
    have S:=yj hj hw hown ew hmax htop A hsub I hmv hne hall;have h6:=mr G (who:=w) (s:=.tuple (js.map .int)) (.inl rfl) hj fun i hi _=>hw i hi
    refine ⟨_,pre ?_,S,hj⟩;rw [AG (d:=iW c ps.length ⟨w,js,dY (dY (ma ps w rk) mv) (fh ps w js)⟩) ?_]
    · rfl
    · rw [fF,cP,bz,bU];simp only [am,ar,bY,R.ok_bind,hl,List.map_nil,ox,List.length_nil,fZ,cW];rw [if_pos (by decide)];rw [bg (ρ':=[.val (gD ps),.val (.tuple (js.map .int)),.val (.int h),.val (.int w),.val (.int (1-w)),.val (.list (tops.map .int)),.val (oT rk ps.length),.val B,.val (.list []),.val (oT (dY (ma ps w rk) mv) ps.length)]) (by
        simp only [bD,aP,aD,aS,bz,bY,am,ar,R.ok_bind,h5,hB1,nE (show ps.length<=1000 by omega)];rfl)]
      unfold tJ;simp only [cq,aP,aD,aS,am,ar,R.ok_bind,h6,nE (show ps.length<=1000 by omega)];rfl
  · obtain ⟨rk2,erk2⟩:∃ rk2,rk2=rK ps js (1-w) lost:=⟨_,rfl⟩
    have lsub:∀ x∈lost,x∈js:=fun x hx=>((hsub x).mp ((hlost x).mp hx).1).1
    have B2:uu ps js (1-w) lost rk2:=by rw [erk2];exact vV lp.nd lsub hj.nd hj.len
    have g1:=mS G.hl G.hgo G.hp (s:=.tuple (js.map .int)) (g:=.list (lost.map .int)) (.inl rfl) (.inr rfl) hj lp lsub hw (who:=1-w);rw [<- erk2] at g1;have g2:=ml (f:=rk2) (n:=ps.length) (by omega);have g3:=ig G (kl B2);have g4:=tV (f:=mv) (n:=ps.length) (by omega) (s:=.list (lost.map .int)) (js:=lost) (.inr rfl);have S:=vz hj hw hown ew hmax htop A hsub I hmv hlost hl B2 (pl:=jE rk2 ps.length) fun i=>by
      rw [ic];exact ⟨fun z=>z.2,fun ⟨q,hq⟩=>⟨hj.inn i (B2.sub i q hq),q,hq⟩⟩
    have hlen:¬ (lost.length:Int)=0:=by
      have:=List.length_pos_iff.mpr hl;omega
    refine ⟨_,pre ?_,S,ph _ _⟩;rw [bg (ρ':=[.val (gD ps),.val (.tuple (js.map .int)),.val (.int h),.val (.int w),.val (.int (1-w)),.val (.list (tops.map .int)),.val (oT rk ps.length),.val B,.val (.list (lost.map .int)),.non]) (by
      rw [fF,cP,bz,bU];simp only [am,ar,bY,R.ok_bind,ox,List.length_map,fZ,cW,decide_eq_false hlen];rfl)]
    rw [bg (ρ':=[.val (gD ps),.val (.tuple (js.map .int)),.val (.int h),.val (.int w),.val (.int (1-w)),.val (.list (tops.map .int)),.val (oT rk2 ps.length),.val B,.val (.list (lost.map .int)),.non]) (by
      simp only [bD,aP,aD,aS,am,ar,R.ok_bind,g1];rfl)]
    rw [bg (ρ':=[.val (gD ps),.val (.tuple (js.map .int)),.val (.int h),.val (.int w),.val (.int (1-w)),.val (.list (tops.map .int)),.val (oT rk2 ps.length),.val B,.val (.list (lost.map .int)),.val (oT (dY (ma ps (1-w) rk2) fun i=>if i∈lost then mv i else none) ps.length)]) (by
      simp only [bD,aP,aD,aS,bz,bY,am,ar,R.ok_bind,g3,hB1,g4,nE (show ps.length<=1000 by omega)];rfl)]
    unfold tJ;simp only [cq,aP,aD,aS,am,ar,R.ok_bind,g2];rfl
end
noncomputable def wo (c:Addr) (k:Nat):Fs:=(bB (cf 4 (aF (bf c k) (ah (af 0) (ah (af 3) aG)))) (bB (jR 2 (af 4)) (cf 3 (aF bV (ah (af 3) (ah (e1 (kx c "places") (af 4)) aG))))))
noncomputable abbrev lR (ps:List P4) (c:Addr) (s:PyData) (acc:List Sh) (js:List Int) (c4:br):aT :=
  [.val (gD ps),.val s,.own (.list (acc.map (iW c ps.length))),.val (.tuple (js.map .int)),c4]
theorem Dh {ps:List P4} (G:Gr ps) {c:Addr} {kk:Nat} {s0:PyData} {Pm:Int->Prop} (hown:∀ i,Pm i->aq ps i=0\/aq ps i=1) (hS:∀ js,dr ps.length js->fM ps js->js≠[]->(∀ i∈js,Pm i)->∃ s,bf c kk [gD ps,.tuple (js.map .int)]=.ok (iW c ps.length s)/\gE ps js s/\dr ps.length s.pl) :
    ∀ (k n:Nat) (js:List Int) (acc:List Sh) (c4:br),dr ps.length js->fM ps js->(∀ i∈js,Pm i)->js.length<=k->k+1<=n->acc.length+k<=1000 ->
    ∃ l c4' win mv,dn (tE (e2 (fj qF) (e1 dg (af 3)) (eC (.int 0)))) (wo c kk) n (lR ps c s0 acc js c4)=.ok (.nx (lR ps c s0 (acc++l) [] c4'))/\(∀ f i,mV f l i=if i∈js then some (win i) else f i)/\(∀ m i,(i∈js->m i=none)->tW m l i=if i∈js then mv i else m i)/\sS ps js win mv/\∀ s∈l,∀ x∈s.pl,0<=x/\x < ps.length
  | k,0,js,acc,c4,_,_,_,_,h,_=>by omega
  | k,n+1,js,acc,c4,hj,hw,hm,hk,hn,hz=>by
    have hp:=G.hp;rw [ip];have ht:tE (e2 (fj qF) (e1 dg (af 3)) (eC (.int 0))) (lR ps c s0 acc js c4)=.ok (decide (0 < js.length)):=by
      simp only [cP,bz,bU,ar,am,bY,R.ok_bind,rM,iB,cW,List.length_map];congr 1;simp
    rw [ht,R.ok_bind];by_cases h0:js=[]
    · subst h0;refine ⟨[],c4,fun _=>0,fun _=>none,by rw [List.append_nil];rfl,fun f i=>by simp [mV],fun m i _=>by simp [tW],CN _ _,fun s hs=>by cases hs⟩
    · have hpos:=List.length_pos_iff.mpr h0;rw [if_pos (decide_eq_true hpos)];cases k with
      | zero=>omega
      | succ k =>
        obtain ⟨s,h1,S,sp⟩:=hS js hj hw h0 hm;have hl:(il js s.pl).length < js.length:=by
          obtain ⟨i,hi⟩:=List.exists_mem_of_ne_nil _ S.ne;refine Nat.lt_of_le_of_ne (List.length_filter_le ..) fun z=>?_
          have:=(gY _ js).mp z i (S.sub i hi);rw [bT.mpr hi] at this;cases this
        obtain ⟨l,c4',win,mv,e,q1,q2,I,q3⟩:=Dh G hown hS k n (il js s.pl) (acc++[s]) (.val (iW c ps.length s)) (hj.filter _) (S.whole hw) (fun i hi=>hm i (bN.mp hi).1) (by omega) (by omega) (by simp;omega);have h2:=pJ (s:=.tuple (js.map .int)) (t:=.tuple (s.pl.map .int)) (.inl rfl) (.inl rfl) (by have:=hj.len;omega);have hb:wo c kk (lR ps c s0 acc js c4)=.ok (.nx (lR ps c s0 (acc++[s]) (il js s.pl) (.val (iW c ps.length s)))):=by
          unfold wo;rw [bg (ρ':=lR ps c s0 acc js (.val (iW c ps.length s))) (by
            simp only [bD,aP,aD,aS,am,ar,R.ok_bind,h1];rfl)]
          rw [bg (ρ':=lR ps c s0 (acc++[s]) js (.val (iW c ps.length s))) (by
            rw [ye (ds:=acc.map (iW c ps.length)) (af 4) rfl (Nat.lt_of_lt_of_le (show _ < 1001 by rw [List.length_map];omega) (by decide))];simp -implicitDefEqProofs only [am,ar,cn,R.ok_bind];rw [show acc.map (iW c ps.length)++[iW c ps.length s]=(acc++[s]).map (iW c ps.length) by simp];rfl)]
          simp only [bD,aP,aD,aS,bU,am,ar,R.ok_bind,oH,h2];rfl
        refine ⟨s::l,c4',fun i=>if i∈s.pl then s.w else win i,fun i=>if i∈s.pl then s.mv i else mv i,?_,fun f i=>?_,fun m i hmi=>?_,A1 (fun i hi=>hown i (hm i hi)) S I,fun t ht' x hx=>?_⟩
        · rw [hb,R.ok_bind,eB,e];simp
        · show mV (A0 s f) l i=_;rw [q1];by_cases hi:i∈js
          · rw [if_pos hi];dsimp only;by_cases hs:i∈s.pl
            · rw [if_neg fun z=>(bN.mp z).2 hs,if_pos hs];exact if_pos hs
            · rw [if_pos (bN.mpr ⟨hi,hs⟩),if_neg hs]
          · rw [if_neg fun z=>hi (bN.mp z).1,if_neg hi];exact if_neg fun z=>hi (S.sub i z)
        · show tW (dY m s.mv) l i=_;rw [q2 (dY m s.mv) i fun z=>by
            obtain ⟨z1,z2⟩:=bN.mp z;show (m i).or _=none;rw [hmi z1,Option.none_or,S.non i (.inl z2)]]
          by_cases hi:i∈js
          · rw [if_pos hi];dsimp only;by_cases hs:i∈s.pl
            · rw [if_neg fun z=>(bN.mp z).2 hs,if_pos hs];show (m i).or _=_;rw [hmi hi,Option.none_or]
            · rw [if_pos (bN.mpr ⟨hi,hs⟩),if_neg hs]
          · rw [if_neg fun z=>hi (bN.mp z).1,if_neg hi];show (m i).or _=_;rw [S.non i (.inl fun z=>hi (S.sub i z)),Option.or_none]
        · rcases List.mem_cons.mp ht' with rfl | z
          · exact sp.inn x hx
          · exact q3 t z x hx
theorem qS {ps:List P4} (G:Gr ps) {c:Addr} {k:Nat} {Pm:Int->Prop} (hown:∀ i,Pm i->aq ps i=0\/aq ps i=1) (hS:∀ js,dr ps.length js->fM ps js->js≠[]->(∀ i∈js,Pm i)->∃ s,bf c k [gD ps,.tuple (js.map .int)]=.ok (iW c ps.length s)/\gE ps js s/\dr ps.length s.pl) {js:List Int} (hj:dr ps.length js) (hw:fM ps js) (hm:∀ i∈js,Pm i) :
    ∃ win mv,aL c (k+1) [gD ps,.tuple (js.map .int)]=.ok (.tuple [oT (lJ js win) ps.length,oT mv ps.length])/\sS ps js win mv/\∀ i,i∉js->mv i=none:=by
  have hp:=G.hp;have hjl:=hj.len;obtain ⟨l,c4,win,mv,e,q1,q2,I,q3⟩:=Dh G (c:=c) (s0:=.tuple (js.map .int)) hown hS js.length 1000000 js [] .non hj hw hm (Nat.le_refl _) (by omega) (by simp;omega);rw [List.nil_append] at e;have h3:=Hh (ps:=ps) (by omega) (c:=c) q3;have e1':oT (mV (fun _=>none) l) ps.length=oT (lJ js win) ps.length:=congrArg PyData.tuple (cU fun i _ _=>by rw [q1];rfl);have e2':oT (tW (fun _=>none) l) ps.length=oT (fun i=>if i∈js then mv i else none) ps.length:=congrArg PyData.tuple (cU fun i _ _=>by rw [q2 _ i fun _=>rfl]);rw [e1',e2'] at h3;refine ⟨win,fun i=>if i∈js then mv i else none,?_,I.congr fun i hi=>if_pos hi,fun i hi=>if_neg hi⟩;show dF 5 (dS (bf c k) (bn c) bV c) _=_;unfold dS;refine dZ ?_;rw [show ([gD ps,.tuple (js.map .int)].map br.val++List.replicate (5 - [gD ps,.tuple (js.map .int)].length) br.non)=[.val (gD ps),.val (.tuple (js.map .int)),.non,.non,.non] from rfl];rw [bg (ρ':=[.val (gD ps),.val (.tuple (js.map .int)),.own (.list []),.non,.non]) (by rfl)];rw [bg (ρ':=lR ps c (.tuple (js.map .int)) [] js .non) (by rfl)];rw [bg (ρ':=lR ps c (.tuple (js.map .int)) l [] c4) (by
    rw [gi];show lL (dn (tE (e2 (fj qF) (e1 dg (af 3)) (eC (.int 0)))) (wo c k) 1000000 _)=_;rw [e];rfl)]
  unfold HG;show cM _ ((lR ps c (.tuple (js.map .int)) l [] c4).set 2 (.val (.list (l.map (iW c ps.length)))))=_;simp only [List.set_cons_succ,List.set_cons_zero,cq,aP,aD,aS,am,ar,R.ok_bind,h3]
theorem qQ {ps:List P4} (G:Gr ps) {c:Addr}:∀ (k:Nat) (js:List Int),dr ps.length js->fM ps js->(∀ i∈js,(aq ps i=0\/aq ps i=1)/\0<=aB ps i/\aB ps i < k) ->
    ∃ win mv,aL c (k+1) [gD ps,.tuple (js.map .int)]=.ok (.tuple [oT (lJ js win) ps.length,oT mv ps.length])/\sS ps js win mv/\∀ i,i∉js->mv i=none
  | 0,js,hj,hw,hm=>qS G (c:=c) (Pm:=fun i=>(aq ps i=0\/aq ps i=1)/\0<=aB ps i/\aB ps i < (0:Nat)) (fun i h=>h.1) (fun js' _ _ hne h=>by
      obtain ⟨i,hi⟩:=List.exists_mem_of_ne_nil _ hne;have:=(h i hi).2;omega) hj hw hm
  | k+1,js,hj,hw,hm=>qS G (c:=c) (Pm:=fun i=>(aq ps i=0\/aq ps i=1)/\0<=aB ps i/\aB ps i < ((k+1:Nat):Int)) (fun i h=>h.1) (fun js' hj' hw' hne h=>zZ G hj' hw' hne (fun i hi=>(h i hi).1) fun hh sub sp sw hs ⟨i0,hi0,e0⟩=>qQ G k sub sp sw fun i hi=>by
      obtain ⟨a,b⟩:=hs i hi;have h1:=h i a;have h2:=(h i0 hi0).2.2;exact ⟨h1.1,h1.2.1,by omega⟩) hj hw hm
theorem Fd {ps:List P4} (G:Gr ps) (hw:fM ps (ids ps.length)) {c:Addr} (hm:∀ i∈ids ps.length,(aq ps i=0\/aq ps i=1)/\0<=aB ps i/\aB ps i < 13) :
    ∃ win mv,i9 c [gD ps]=.ok (.tuple [oT (fun i=>some (win i)) ps.length,oT mv ps.length])/\sS ps (ids ps.length) win mv/\∀ i,i∉ids ps.length->mv i=none:=by
  obtain ⟨win,mv,e,I,q⟩:=qQ G (c:=c) 13 (ids ps.length) (dr.ids _) hw hm;refine ⟨win,mv,?_,I,q⟩;have h2:=pQ (ps:=ps) (by have:=G.hp;omega);have e':oT (lJ (ids ps.length) win) ps.length=oT (fun i=>some (win i)) ps.length:=congrArg PyData.tuple (cU fun i h0 h1=>by unfold lJ;rw [if_pos (aY.mpr ⟨h0,h1⟩)]);rw [e'] at e;unfold i9 yL;refine dZ ?_;rw [show ([gD ps].map br.val++List.replicate (1 - [gD ps].length) br.non)=[.val (gD ps)] from rfl];simp only [cq,aP,aD,aS,am,R.ok_bind,h2,e]
noncomputable def A7 (ps:List P4) (i:Int):PyData:=(ps[i.toNat]?.map P4.d).getD .none
theorem zC (ps:List P4):ps.map P4.d=tab (A7 ps) ps.length:=by
  refine List.ext_getElem (by rw [List.length_map,bS]) fun k h1 h2=>?_
  rw [bS] at h2;have e:=gQ (f:=A7 ps) (n:=ps.length) (i:=(k:Int)) (by omega) (by omega);simp only [Int.toNat_natCast] at e;rw [e,List.getElem_map];unfold A7;rw [List.getElem?_eq_getElem (by omega)];simp
theorem jL {f:Fe} {ρ:aT} {h:Int->Int}:∀ ns:List Int,(∀ x∈ns,f (.val (.int x)::ρ)=.ok (.int (h x)))->bP (aW 0) (fun _=>.ok true) f (.non::ρ) (ns.map .int)=.ok ((ns.map h).map .int)
  | [],_=>cS ..
  | x::ns,hh=>by
    rw [List.map_cons,dz,jL ns fun y hy=>hh y (List.mem_cons_of_mem _ hy)];show (R.ok true>>=fun k=>if k=true then f (.val (.int x)::ρ)>>=fun x=>R.ok ((ns.map h).map .int)>>=fun xs=>.ok (x::xs) else _)=_;rw [hh x List.mem_cons_self];rfl
theorem nJ {f:Fe} {ρ:aT} {h:P4->PyData}:∀ qs:List P4,(∀ q∈qs,f (.val q.d::ρ)=.ok (h q))->bP (aW 0) (fun _=>.ok true) f (.non::ρ) (qs.map P4.d)=.ok (qs.map h)
  | [],_=>cS ..
  | q::qs,hh=>by
    rw [List.map_cons,dz,nJ qs fun y hy=>hh y (List.mem_cons_of_mem _ hy)];show (R.ok true>>=fun k=>if k=true then f (.val q.d::ρ)>>=fun x=>R.ok (qs.map h)>>=fun xs=>.ok (x::xs) else _)=_;rw [hh q List.mem_cons_self];rfl
theorem Ai (p:P4):bQ p.d (.int 2)=.ok (.int p.g):=rfl
noncomputable def pI (p:P4) (L:List Int):P4:=⟨p.w,p.m,p.g,L⟩
theorem g9 (p:P4) (L:List Int):aI [p.d,.list (L.map .int)]=.ok (pI p L).d:=by
  have s4:4<=sizeLine:=by decide
  unfold aI ix;refine dZ ?_;rw [show ([p.d,PyData.list (L.map .int)].map br.val++List.replicate (2 - [p.d,PyData.list (L.map .int)].length) br.non)=[.val p.d,.val (.list (L.map .int))] from rfl];simp only [cq,k8,aD,aS,bz,bU,am,ar,bY,R.ok_bind,kF,o4,Ai,h8,List.length_cons,List.length_nil,Nat.zero_add,Nat.reduceAdd,if_pos s4];rfl
noncomputable def EW (n:Int) (q:P4):P4:=pI q (q.ns.map (·+n))
noncomputable abbrev Hj:Str:=PySem.Str.ofString "NoRoom"
theorem xh {ps qs:List P4} (hp:ps.length<=100) (hq:qs.length<=100) (hl:∀ q∈qs,q.ns.length<=100):eo [gD ps,gD qs]=if ps.length+qs.length<=24 then .ok (gD (ps++qs.map (EW ps.length))) else .ex Hj:=by
  have l1:dg (gD ps)=.ok (.int ps.length):=by simp
  have l2:dg (gD qs)=.ok (.int qs.length):=by simp
  have hc:=nJ (f:=aF aI (ah (af 0) (ah (bE (dA (e2 bQ (af 0) (eC (.int 3)))) 1 [1] (aW 0) (fun _=>.ok true) (e2 eU (af 0) (af 1))) aG))) (ρ:=[.val (.int ps.length)]) (h:=fun q=>(EW ps.length q).d) qs fun q hq'=>by
    have h1:=jL (f:=e2 eU (af 0) (af 1)) (ρ:=[.val (.int ps.length)]) (h:=fun g=>g+ps.length) q.ns fun g _=>by simp only [bz,am,ar,R.ok_bind,zl]
    have h2:=g9 q (q.ns.map (·+(ps.length:Int)));rw [aP,aD,am,R.ok_bind,aD,bp,show ay 1 [1] [.val q.d,.val (.int ps.length)]=[.non,.val (.int ps.length)] from rfl];simp only [bR,bz,am,bY,R.ok_bind,jv,cH,cn];rw [if_pos (bI (by rw [List.length_map];have:=hl q hq';omega)),h1];simp only [fJ,R.ok_bind,aS,h2];rfl
  unfold eo nP;rw [eW,show ([gD ps,gD qs].map br.val++List.replicate (3 - [gD ps,gD qs].length) br.non)=[.val (gD ps),.val (gD qs),.non] from rfl];rw [bg (ρ':=[.val (gD ps),.val (gD qs),.val (.int ps.length)]) (by simp only [bD,bU,am,R.ok_bind,l1];rfl)];rw [ly,fF];simp only [cP,bz,bU,am,ar,bY,R.ok_bind,l2,zl,iB,cW];by_cases h:ps.length+qs.length<=24
  · have hb:qF ((ps.length:Int)+qs.length) 24=false:=by simp;omega
    rw [hb,if_pos h];show (cM _ _>>=AB)=_;rw [cq,bz,am,R.ok_bind,bU,bp,show ay 1 [2] [.val (gD ps),.val (gD qs),.val (.int ps.length)]=[.non,.val (.int ps.length)] from rfl];simp only [bR,am,ar,R.ok_bind,cH,cn];rw [if_pos (bI (by rw [List.length_map];omega)),hc];simp only [fJ,R.ok_bind,h8,DU];rw [if_pos (bI (by rw [List.length_map,List.length_map];omega)),R.ok_bind];show R.ok (PyData.tuple (ps.map P4.d++qs.map fun q=>(EW ps.length q).d))=.ok (.tuple ((ps++qs.map (EW ps.length)).map P4.d));rw [List.map_append,List.map_map];rfl
  · have hb:qF ((ps.length:Int)+qs.length) 24=true:=by simp;omega
    rw [hb,if_neg h];rfl
noncomputable def jO (ps:List P4) (i:Int):P4:=(ps[i.toNat]?).getD ⟨0,0,0,[]⟩
theorem sf {ps:List P4} {i:Int} (h0:0<=i) (h1:i < ps.length):jO ps i=ps[i.toNat]'(by omega):=by
  unfold jO;rw [List.getElem?_eq_getElem (by omega)];rfl
theorem Eb {ps:List P4} {i:Int} (h0:0<=i) (h1:i < ps.length):bQ (gD ps) (.int i)=.ok (jO ps i).d:=by rw [lh h0 h1,sf h0 h1]
theorem iM (ps:List P4) (i:Int):(jO ps i).ns=aC ps i:=by
  unfold jO aC;cases ps[i.toNat]? <;> rfl
noncomputable def xg (js ns:List Int):List Int:=(ns.filter (dB js)).map fun g=>((js.idxOf g:Nat):Int)
theorem BN {js:List Int} {g:Int} (h:g∈js):gG (.tuple (js.map .int)) (.int g)=.ok (.int (js.idxOf g:Nat)):=by
  show (match bL (js.map .int) with | some ns=>if g∈ns then R.ok (PyData.int (ns.idxOf g:Nat)) else .no | none=>.no)=_;rw [cy];exact if_pos h
theorem pW {p:P4} {js:List Int} (hl:p.ns.length<=100):cm [p.d,.tuple (js.map .int)]=.ok (.list ((xg js p.ns).map .int)):=by
  have hc:=jJ (s:=.tuple (p.ns.map .int)) (t:=.tuple (js.map .int)) (.inl rfl) (.inl rfl) (by omega);have hm:=jL (f:=nF (af 1) (af 0)) (ρ:=[.val (.tuple (js.map .int))]) (h:=fun g=>((js.idxOf g:Nat):Int)) (p.ns.filter (dB js)) fun g hg=>by
    have:=bT.mp (List.mem_filter.mp hg).2;unfold nF;simp only [ar,am,R.ok_bind,D9,BN this]
  unfold cm ir;refine dZ ?_;rw [show ([p.d,PyData.tuple (js.map .int)].map br.val++List.replicate (2 - [p.d,PyData.tuple (js.map .int)].length) br.non)=[.val p.d,.val (.tuple (js.map .int))] from rfl];rw [cq,bp,show ay 1 [1] [.val p.d,.val (.tuple (js.map .int))]=[.non,.val (.tuple (js.map .int))] from rfl];simp only [bR,aP,aD,aS,bz,am,ar,bY,R.ok_bind,jv,hc,cH,cn];rw [if_pos (bI (by rw [List.length_map];exact Nat.le_trans (List.length_filter_le ..) (by omega))),hm];rfl
noncomputable def At (ps:List P4) (js:List Int) (i:Int):P4:=pI (jO ps i) (xg js (aC ps i))
noncomputable abbrev Hi:Str:=PySem.Str.ofString "NoPart"
noncomputable def o5 (ps:List P4):PyData->Bool
  | .tuple ds=>(jx ps.length 0 ds&&!ds.isEmpty)&&(match bL ds with | some js=>js.all fun i=>decide (0 < (bF ps js i).length) | none=>false)
  | _=>false
theorem qH (c:Int):∀ (ds:List PyData) (l:Int),jx c l ds=true->0<=l->∃ js:List Int,ds=js.map .int/\js.Pairwise (· < ·)/\∀ x∈js,l<=x/\x < c
  | [],_,_,_=>⟨[],rfl,.nil,by simp⟩
  | d::ds,l,h,hl=>by
    cases d with
    | int i =>
      simp only [jx,Bool.and_eq_true,decide_eq_true_eq] at h;obtain ⟨⟨h1,h2⟩,h3⟩:=h;obtain ⟨js,e,p,b⟩:=qH c ds (i+1) h3 (by omega);refine ⟨i::js,by rw [e];rfl,List.pairwise_cons.mpr ⟨fun y hy=>by have:=b y hy;omega,p⟩,fun x hx=>?_⟩;rcases List.mem_cons.mp hx with rfl | z
      · exact ⟨h1,h2⟩
      · have:=b x z;omega
    | _=>cases h
theorem vn {ps:List P4} (hl:∀ p∈ps,p.ns.length<=100) (hp:ps.length<=100) {d:PyData} (hg:fL d):dH [gD ps,d]=if o5 ps d=true then (match d with | .tuple ds=>.ok (gD (((bL ds).getD []).map (At ps ((bL ds).getD [])))) | _=>.no) else .ex Hi:=by
  have hs:=mC ps.length (d:=d) (fun ds e x hx=>((fD.mp (e ▸ hg)) x hx).noD) hg.noD;have l1:dg (gD ps)=.ok (.int ps.length):=by simp
  unfold dH lT;rw [eW,show ([gD ps,d].map br.val++List.replicate (2 - [gD ps,d].length) br.non)=[.val (gD ps),.val d] from rfl];rw [ly,fF];cases hsb:Dv ps.length d with
  | false =>
    rw [hsb] at hs;have hpb:o5 ps d=false:=by
      cases d with
      | tuple ds =>
        have:jx ps.length 0 ds=false:=hsb;simp [o5,this]
      | _=>rfl
    simp only [wN,pD,cP,aP,aD,aS,bU,am,ar,R.ok_bind,l1,hs,cW];rw [hpb];rfl
  | true =>
    rw [hsb] at hs;cases d with
    | tuple ds =>
      have hr:jx ps.length 0 ds=true:=hsb;obtain ⟨js,rfl,hj1,hj2⟩:=qH ps.length ds 0 hr (by omega);have l2:dg (.tuple (js.map .int))=.ok (.int js.length):=by simp
      have hjl:js.length<=ps.length:=(dr.mk hj1 hj2:dr ps.length js).len;simp only [wN,pD,cP,aP,aD,aS,bz,bU,bY,am,ar,R.ok_bind,l1,l2,hs,cW,fZ,Bool.not_true,Bool.false_eq_true,if_false];cases js with
      | nil=>rfl
      | cons j0 js0 =>
        generalize hjs:j0::js0=js at *;have hne:js≠[]:=by rw [<- hjs];simp
        have hlen:¬ ((js.length:Int)=0):=by have:=List.length_pos_iff.mpr hne;omega
        rw [decide_eq_false hlen];simp only [Bool.false_eq_true,if_false,lA,R.ok_bind,ul];have hw:=p0 hl (s:=.tuple (js.map .int)) (js:=js) (.inl rfl) hj2 (by omega);have hpb:o5 ps (.tuple (js.map .int))=js.all fun i=>decide (0 < (bF ps js i).length):=by
          have he:(js.map PyData.int).isEmpty=false:=by cases js with | nil=>exact absurd rfl hne | cons _ _=>rfl
          simp only [o5,hr,he,cy];simp
        rw [ly,fF];simp only [pD,cP,aP,aD,aS,am,ar,R.ok_bind,hw,cW];rw [hpb];cases hall:js.all fun i=>decide (0 < (bF ps js i).length) with
        | false=>rfl
        | true =>
          simp only [Bool.not_true,Bool.false_eq_true,if_false,lA,R.ok_bind,ul];have hcm:bP (aW 0) (fun _=>.ok true) (aF aI (ah (e2 bQ (af 1) (af 0)) (ah (aF cm (ah (e2 bQ (af 1) (af 0)) (ah (af 2) aG))) aG))) [.non,.val (gD ps),.val (.tuple (js.map .int))] (js.map .int)=.ok (js.map fun i=>(At ps js i).d):=by
            have:=gr (aF aI (ah (e2 bQ (af 1) (af 0)) (ah (aF cm (ah (e2 bQ (af 1) (af 0)) (ah (af 2) aG))) aG))) [.non,.val (gD ps),.val (.tuple (js.map .int))] 0 (fun d=>match d with | .int i=>(At ps js i).d | d=>d) (js.map .int) fun d hd=>by
              obtain ⟨i,hi,rfl⟩:=List.mem_map.mp hd;obtain ⟨i0,i1⟩:=hj2 i hi;have e1':=Eb i0 i1;have e2':=pW (p:=jO ps i) (js:=js) (by rw [sf i0 i1];exact hl _ (List.getElem_mem _));rw [iM] at e2';have e3':=g9 (jO ps i) (xg js (aC ps i));show aF aI _ [.val (.int i),.val (gD ps),.val (.tuple (js.map .int))]=_;simp only [aP,aD,aS,bz,am,ar,R.ok_bind,e1',e2',e3'];rfl
            rw [this,List.map_map];rfl
          rw [cq,bU,bp,show ay 1 [0,1] [.val (gD ps),.val (.tuple (js.map .int))]=[.non,.val (gD ps),.val (.tuple (js.map .int))] from rfl];simp only [bR,am,ar,R.ok_bind,cH,cn];rw [if_pos (bI (by rw [List.length_map];omega)),hcm];simp only [fJ,R.ok_bind,h8,if_true,cy,Option.getD_some];show R.ok (PyData.tuple (js.map fun i=>(At ps js i).d))=.ok (.tuple ((js.map (At ps js)).map P4.d));rw [List.map_map];rfl
    | _=>cases hsb
noncomputable abbrev gh (ms:List Int):List Int:=dM (xt ms)
theorem z9 {l:List Int} {k x:Int}:x∈step_dedup l k<->x∈l\/x=k:=by
  unfold step_dedup;by_cases h:l.any (·==k)=true
  · rw [if_pos h];refine ⟨.inl,fun z=>z.elim id fun e=>?_⟩;obtain ⟨y,hy,e2⟩:=List.any_eq_true.mp h;have:y=k:=by simpa using e2
    rw [e,<- this];exact hy
  · rw [if_neg h];simp
theorem BW {l:List Int} (h:l.Nodup) (k:Int):(step_dedup l k).Nodup:=by
  unfold step_dedup;by_cases hk:l.any (·==k)=true
  · rw [if_pos hk];exact h
  · rw [if_neg hk,List.nodup_append];refine ⟨h,by simp,fun a ha b hb e=>?_⟩;simp at hb;subst hb;subst e;exact hk (List.any_eq_true.mpr ⟨a,ha,by simp⟩)
theorem uZ:∀ (ms acc:List Int),acc.Nodup->(ms.foldl step_dedup acc).Nodup/\∀ x,x∈ms.foldl step_dedup acc<->x∈acc\/x∈ms
  | [],acc,h=>⟨h,fun x=>by simp⟩
  | m::ms,acc,h=>by
    obtain ⟨h1,h2⟩:=uZ ms (step_dedup acc m) (BW h m);refine ⟨h1,fun x=>?_⟩;rw [List.foldl_cons,h2,z9,List.mem_cons];constructor
    · rintro ((z | z) | z)
      · exact .inl z
      · exact .inr (.inl z)
      · exact .inr (.inr z)
    · rintro (z | z | z)
      · exact .inl (.inl z)
      · exact .inl (.inr z)
      · exact .inr z
theorem Ej {ms:List Int} {x:Int}:x∈xt ms<->x∈ms:=by
  have:=(uZ ms [] .nil).2 x;unfold xt;rw [this];simp
theorem eX {ms:List Int} {x:Int}:x∈gh ms<->x∈ms:=by rw [(dQ _).mem_iff,Ej]
theorem kD (ms:List Int):(gh ms).Pairwise (· < ·):=qO (gm _) ((dQ _).nodup_iff.mpr (uZ ms [] .nil).1)
theorem IF {ms:List Int} (h:ms.length < 64):Bw (.list (ms.map .int))=.ok (.list ((gh ms).map .int)):=by
  show (match bL (ms.map .int) with | some ns=>if ns.length < 64 then R.ok (PyData.list ((dM (xt ns)).map PyData.int)) else .no | none=>.no)=_;rw [cy];exact if_pos h
theorem GP {ms:List Int} (h:ms.length < 64):Bw (.tuple (ms.map .int))=.ok (.list ((gh ms).map .int)):=by
  show (match bL (ms.map .int) with | some ns=>if ns.length < 64 then R.ok (PyData.list ((dM (xt ns)).map PyData.int)) else .no | none=>.no)=_;rw [cy];exact if_pos h
noncomputable def Ea (nx:Int->Int) (s:Int):Nat->Int
  | 0=>s
  | k+1=>nx (Ea nx s k)
theorem F6 {n:Nat} {S:Int->Prop} {nx:Int->Int} (hS:∀ x,S x->x∈ids n) (hn:∀ x,S x->S (nx x)) {s:Int} (hs:S s):∃ x,S x/\iV (fun a b=>b=nx a) S x x:=by
  have all:∀ k,S (Ea nx s k):=fun k=>by
    induction k with
    | zero=>exact hs
    | succ k ih=>exact hn _ ih
  have path:∀ p d,iV (fun a b=>b=nx a) S (Ea nx s p) (Ea nx s (p+d+1)):=fun p d=>by
    induction d with
    | zero=>exact .one rfl (all (p+1))
    | succ d ih=>exact .more ih rfl (all (p+d+1+1))
  by_cases h:∃ p q,p < q/\q<=n/\Ea nx s p=Ea nx s q
  · obtain ⟨p,q,hpq,_,e⟩:=h;have:=path p (q-p-1);rw [show p+(q-p-1)+1=q by omega,<- e] at this;exact ⟨_,all p,this⟩
  · exfalso;have nd:((List.range (n+1)).map (Ea nx s)).Nodup:=by
      unfold List.Nodup;rw [List.pairwise_map];exact List.Pairwise.imp_of_mem (fun {a b} _ hb hab e=>h ⟨a,b,hab,by have:=List.mem_range.mp hb;omega,e⟩) List.pairwise_lt_range
    have:=jN nd (m:=ids n) fun x hx=>by
      obtain ⟨k,_,rfl⟩:=List.mem_map.mp hx;exact hS _ (all k)
    rw [List.length_map,List.length_range,eD] at this;omega
theorem iV.trans {E:Int->Int->Prop} {al:Int->Prop} {s x t:Int} (h1:iV E al s x) (h2:iV E al x t):iV E al s t:=by
  induction h2 with
  | one a b=>exact .more h1 a b
  | more _ a b ih=>exact .more ih a b
theorem iV.le {E:Int->Int->Prop} {al:Int->Prop} {s t:Int} {ψ:Int->Int} (h:iV E al s t) (h1:∀ a b,(a=s\/al a)->E a b->al b->ψ b<=ψ a):ψ t<=ψ s:=by
  induction h with
  | one a b=>exact h1 _ _ (.inl rfl) a b
  | more r a b ih =>
    have:=h1 _ _ (.inr r.al) a b;omega
theorem BX {E:Int->Int->Prop} {al:Int->Prop} {gs:List Int} {s t:Int} (h:iV (fun a b=>E a b/\a∉gs) al s t) (ht:t∉gs):iV E (fun x=>al x/\x∉gs) s t:=by
  induction h with
  | one a b=>exact .one a.1 ⟨b,ht⟩
  | more r a b ih=>exact .more (ih a.2) a.1 ⟨b,ht⟩
theorem Cp {E:Int->Int->Prop} {al:Int->Prop} {gs:List Int} {s t:Int} (h:iV (fun a b=>E a b/\a∉gs) al s t):s∉gs:=by
  induction h with
  | one a b=>exact a.2
  | more _ _ _ ih=>exact ih
theorem FK {E:Int->Int->Prop} {al:Int->Prop} (gs:List Int) {s t:Int} (h:iV E al s t):iV (fun a b=>E a b/\a∉gs) al s t\/∃ g,g∈gs/\(g=s\/iV E al s g)/\iV E al g t:=by
  induction h with
  | one a b =>
    by_cases z:s∈gs
    · exact .inr ⟨s,z,.inl rfl,.one a b⟩
    · exact .inl (.one ⟨a,z⟩ b)
  | more r a b ih =>
    rename_i x y;rcases ih with z | ⟨g,g1,g2,g3⟩
    · by_cases y1:x∈gs
      · exact .inr ⟨x,y1,.inr r,.one a b⟩
      · exact .inl (.more z ⟨a,y1⟩ b)
    · exact .inr ⟨g,g1,g2,.more g3 a b⟩
theorem uf {E:Int->Int->Prop} {S:Int->Prop} {mk:Int->Int} (h0:∀ x,S x->0<=mk x) {n:Nat} (hS:∀ x,S x->x∈ids n):∀ (m:Nat) (x:Int),S x->iV E (fun y=>S y/\mk y < m) x x->∃ y,S y/\iV E (fun z=>S z/\mk z<=mk y) y y
  | 0,x,hx,hp=>by
    have a:=hp.al.2;have b:=h0 x hx;omega
  | m+1,x,hx,hp=>by
    rcases FK ((ids n).filter fun z=>decide (mk z=m)) hp with z | ⟨g,g1,g2,g3⟩
    · have hxn:=Cp z;have q:=BX z hxn;refine uf h0 hS m x hx (q.imp (fun y e a=>⟨e,a.1.1,?_⟩) fun u y _ e a=>⟨e,a.1.1,?_⟩) <;>
      · have b:=a.1.2;have c:mk y≠m:=fun k=>a.2 (List.mem_filter.mpr ⟨hS y a.1.1,decide_eq_true k⟩)
        omega
    · have hg:mk g=m:=of_decide_eq_true (List.mem_filter.mp g1).2;have cyc:iV E (fun y=>S y/\mk y < ((m+1:Nat):Int)) g g:=g2.elim (fun z=>by rw [<- z] at g3;exact g3) fun z=>g3.trans z
      refine ⟨g,cyc.al.1,cyc.imp (fun y e a=>⟨e,a.1,?_⟩) fun u y _ e a=>⟨e,a.1,?_⟩⟩ <;>
      · have:=a.2;omega
theorem Co {E E':Int->Int->Prop} {al al':Int->Prop} {f:Int->Int} {s t:Int} (h:iV E al s t) (h1:∀ y,E s y->al y->E' (f s) (f y)/\al' (f y)) (h2:∀ x y,al x->E x y->al y->E' (f x) (f y)/\al' (f y)):iV E' al' (f s) (f t):=by
  induction h with
  | one a b=>exact .one (h1 _ a b).1 (h1 _ a b).2
  | more r a b ih=>exact .more ih (h2 _ _ r.al a b).1 (h2 _ _ r.al a b).2
theorem yw {ps qs:List P4} {winA winB:Int->Int} {mvA mvB:Int->Option Int} (A:sS ps (ids ps.length) winA mvA) (B:sS qs (ids qs.length) winB mvB) {f:Int->Int} {w v:Int} (hw:w=0\/w=1)
    (hf:∀ j∈ids qs.length,f j∈ids ps.length) (o2:∀ i∈ids ps.length,aq ps i=0\/aq ps i=1) (hown:∀ j∈ids qs.length,aq qs j=v<->aq ps (f j)=w)
    (hgo:∀ j∈ids qs.length,∀ g∈aC qs j,g∈ids qs.length/\f g∈aC ps (f j))
    (hback:∀ j∈ids qs.length,winA (f j)=1-w->aq ps (f j)=1-w->∀ h,mvA (f j)=some h->∃ g∈aC qs j,f g=h)
    (hmk:∀ j∈ids qs.length,∀ k∈ids qs.length,aB qs j<=aB qs k->aB ps (f j)<=aB ps (f k)) (hpar:∀ j∈ids qs.length,aB qs j%2=v->aB ps (f j)%2=w) (hm:∀ j∈ids qs.length,0<=aB qs j/\aB qs j < 13) :
    ∀ j∈ids qs.length,winB j=v->winA (f j)=w:=fun i hi hwi=>by
  by_cases he:winA (f i)=w
  · exact he
  exfalso;have hne:winA (f i)=1-w:=by have:=A.two _ (hf i hi);omega
  have step:∀ x,x∈ids qs.length/\winB x=v/\winA (f x)=1-w->∃ g,Wy qs (ids qs.length) v mvB x g/\Wy ps (ids ps.length) (1-w) mvA (f x) (f g):=fun x ⟨hx,h1,h2⟩=>by
    have ho:=o2 _ (hf x hx);by_cases z:aq ps (f x)=w
    · have z2:=(hown x hx).mpr z;obtain ⟨g,g1,g2⟩:=B.has x hx (z2.trans h1.symm);obtain ⟨g3,g4⟩:=hgo x hx g g2;exact ⟨g,.inl ⟨z2,g1⟩,.inr ⟨by omega,gR g4 (hf g g3)⟩⟩
    · have z2:aq ps (f x)=1-w:=by omega
      obtain ⟨h,e1',e2'⟩:=A.has (f x) (hf x hx) (z2.trans h2.symm);obtain ⟨g,g1,g2⟩:=hback x hx h2 z2 h e1';exact ⟨g,.inr ⟨fun y=>z ((hown x hx).mp y),gR g1 (hgo x hx g g1).1⟩,.inl ⟨z2,by rw [g2];exact e1'⟩⟩
  obtain ⟨nx,hnx⟩:∃ nx:Int->Int,∀ x,x∈ids qs.length/\winB x=v/\winA (f x)=1-w->Wy qs (ids qs.length) v mvB x (nx x)/\Wy ps (ids ps.length) (1-w) mvA (f x) (f (nx x)) :=
    ⟨fun x=>if h:x∈ids qs.length/\winB x=v/\winA (f x)=1-w then (step x h).choose else 0,fun x h=>by
      dsimp only;rw [dif_pos h];exact (step x h).choose_spec⟩
  have stay:∀ x,x∈ids qs.length/\winB x=v/\winA (f x)=1-w->nx x∈ids qs.length/\winB (nx x)=v/\winA (f (nx x))=1-w:=fun x h=>by
    obtain ⟨a,b⟩:=hnx x h;obtain ⟨s1,s2⟩:=B.stay x h.1 (nx x) (by rw [h.2.1];exact a);obtain ⟨_,s4⟩:=A.stay (f x) (hf x h.1) (f (nx x)) (by rw [h.2.2];exact b);exact ⟨s1,s2.trans h.2.1,s4.trans h.2.2⟩
  obtain ⟨x,hx,hp⟩:=F6 (n:=qs.length) (S:=fun x=>x∈ids qs.length/\winB x=v/\winA (f x)=1-w) (nx:=nx) (fun x h=>h.1) stay ⟨hi,hwi,hne⟩;obtain ⟨y,hy,hq⟩:=uf (mk:=aB qs) (n:=qs.length) (fun x h=>(hm x h.1).1) (fun x h=>h.1) 13 x hx (hp.imp (fun y e a=>⟨e,a,(hm y a.1).2⟩) fun u y _ e a=>⟨e,a,(hm y a.1).2⟩);by_cases z:aB qs y%2=v
  · have z2:=hpar y hy.1 z;refine A.good (f y) (hf y hy.1) (by rw [hy.2.2,z2];omega) ?_;rw [hy.2.2];exact Co hq (fun u e a=>⟨by subst e;exact (hnx y hy).2,hf u a.1.1,a.1.2.2,hmk u a.1.1 y hy.1 a.2⟩) fun u t au e a=>⟨by subst e;exact (hnx u au.1).2,hf t a.1.1,a.1.2.2,hmk t a.1.1 y hy.1 a.2⟩
  · refine B.good y hy.1 (by rw [hy.2.1];exact z) ?_;rw [hy.2.1];exact hq.imp (fun u e a=>⟨by subst e;exact (hnx y hy).1,a.1.1,a.1.2.1,a.2⟩) fun u t au e a=>⟨by subst e;exact (hnx u au.1).1,a.1.1,a.1.2.1,a.2⟩
noncomputable def xz {α:Type} [DecidableEq α] (S:Int->α) (n:Nat) (i:Int):Int:=(((ids n).findIdx fun j=>decide (S j=S i):Nat):Int)
section
variable {α:Type} [DecidableEq α] {S:Int->α} {n:Nat}
theorem rU {n k:Nat} (h:k < (ids n).length):(ids n)[k]=(k:Int):=by
  have:=wg (n:=n) (k:=k) (by rw [eD] at h;exact h);rw [List.getElem?_eq_getElem h] at this;exact Option.some.inj this
theorem eV {i:Int} (hi:i∈ids n):xz S n i∈ids n/\S (xz S n i)=S i/\∀ j∈ids n,S j=S i->xz S n i<=j:=by
  have hl:(ids n).findIdx (fun j=>decide (S j=S i)) < (ids n).length:=List.findIdx_lt_length_of_exists ⟨i,hi,by simp⟩;have hn:(ids n).findIdx (fun j=>decide (S j=S i)) < n:=by rw [eD] at hl;exact hl
  have ef:xz S n i=(((ids n).findIdx fun j=>decide (S j=S i):Nat):Int):=rfl;refine ⟨aY.mpr ⟨by omega,by omega⟩,?_,fun j hj e=>?_⟩
  · have:=List.findIdx_getElem (p:=fun j=>decide (S j=S i)) (w:=hl);rw [rU hl] at this;exact of_decide_eq_true this
  · obtain ⟨h0,h1⟩:=aY.mp hj;by_cases z:xz S n i<=j
    · exact z
    · exfalso;have hlt:j.toNat < (ids n).findIdx fun j=>decide (S j=S i):=by omega
      have:=List.not_of_lt_findIdx hlt;rw [rU (by rw [eD];omega),show ((j.toNat:Nat):Int)=j by omega] at this;simp [e] at this
theorem la {i j:Int} (hi:i∈ids n) (hj:j∈ids n):xz S n i=xz S n j<->S i=S j:=by
  constructor
  · intro h;have a:=(eV (S:=S) hi).2.1;have b:=(eV (S:=S) hj).2.1;rw [<- a,h,b]
  · intro h;unfold xz;rw [h]
end
theorem zW {l m:List Int} (h1:l.Pairwise (· < ·)) (h2:m.Pairwise (· < ·)) (h:∀ x,x∈l<->x∈m):l=m:=by
  have p:=o7 (ie h1) (ie h2) h;have a:=jF p (h1.imp fun z=>by omega);have b:=jF (List.Perm.refl m) (h2.imp fun z=>by omega);rw [a,<- b]
theorem BZ {l m:List Int} (h:∀ x,x∈l<->x∈m):gh l=gh m:=zW (kD l) (kD m) fun x=>by rw [eX,eX];exact h x
theorem t5 {l:List Int} (h:l.Pairwise (· < ·)):gh l=l:=zW (kD l) h fun x=>eX
noncomputable def CB (ps:List P4) (L:Int->Int) (i:Int):Int×List Int:=(L i,gh ((aC ps i).map L))
noncomputable def qE (ps:List P4) (L:Int->Int):Int->Int:=xz (CB ps L) ps.length
noncomputable def EQ (ps:List P4) (i:Int):Int×Int:=(aq ps i,aB ps i)
noncomputable def zO (ps:List P4):Int->Int:=xz (EQ ps) ps.length
structure IU (ps:List P4) (Rl:Int->Int->Prop):Prop where
  inn:∀ i j,Rl i j->i∈ids ps.length/\j∈ids ps.length
  own:∀ i j,Rl i j->aq ps i=aq ps j/\aB ps i=aB ps j
  go:∀ i j,Rl i j->∀ g∈aC ps i,∃ g'∈aC ps j,Rl g g'
  back:∀ i j,Rl i j->∀ g'∈aC ps j,∃ g∈aC ps i,Rl g g'
structure rc (ps:List P4) (L:Int->Int):Prop where
  inn:∀ i∈ids ps.length,L i∈ids ps.length
  idem:∀ i∈ids ps.length,L (L i)=L i
  least:∀ i∈ids ps.length,∀ j∈ids ps.length,L j=L i->L i<=j
  own:∀ i∈ids ps.length,∀ j∈ids ps.length,L i=L j->aq ps i=aq ps j/\aB ps i=aB ps j
  most:∀ Rl,IU ps Rl->∀ i j,Rl i j->L i=L j
theorem Ir (ps:List P4):rc ps (zO ps):=by
  refine ⟨fun i hi=>(eV hi).1,fun i hi=>(la (eV hi).1 hi).mpr (eV hi).2.1,fun i hi j hj e=>(eV hi).2.2 j hj ((la hj hi).mp e),fun i hi j hj e=>?_,fun Rl B i j r=>?_⟩
  · have h:=(la (S:=EQ ps) hi hj).mp e;exact ⟨congrArg Prod.fst h,congrArg Prod.snd h⟩
  · obtain ⟨a,b⟩:=B.inn i j r;obtain ⟨c,d⟩:=B.own i j r;exact (la (S:=EQ ps) a b).mpr (Prod.ext c d)
theorem D7 {ps:List P4} {L:Int->Int} (I:rc ps L):rc ps (qE ps L):=by
  refine ⟨fun i hi=>(eV hi).1,fun i hi=>(la (eV hi).1 hi).mpr (eV hi).2.1,fun i hi j hj e=>(eV hi).2.2 j hj ((la hj hi).mp e),fun i hi j hj e=>?_,fun Rl B i j r=>?_⟩
  · exact I.own i hi j hj (congrArg Prod.fst ((la (S:=CB ps L) hi hj).mp e))
  · obtain ⟨a,b⟩:=B.inn i j r;refine (la (S:=CB ps L) a b).mpr (Prod.ext (I.most Rl B i j r) (BZ fun x=>?_));rw [List.mem_map,List.mem_map];constructor
    · rintro ⟨g,hg,rfl⟩;obtain ⟨g',h1,h2⟩:=B.go i j r g hg;exact ⟨g',h1,(I.most Rl B g g' h2).symm⟩
    · rintro ⟨g,hg,rfl⟩;obtain ⟨g',h1,h2⟩:=B.back i j r g hg;exact ⟨g',h1,I.most Rl B g' g h2⟩
theorem Gb {ps:List P4} {L:Int->Int} (I:rc ps L) {i:Int} (hi:i∈ids ps.length):L i<=qE ps L i:=by
  have h:=eV (S:=CB ps L) hi;exact I.least i hi _ h.1 (congrArg Prod.fst h.2.1)
theorem wA {ps:List P4} {L:Int->Int} (hs:∀ i∈ids ps.length,qE ps L i=L i) {i j:Int} (hi:i∈ids ps.length) (hj:j∈ids ps.length) (h:L i=L j):gh ((aC ps i).map L)=gh ((aC ps j).map L) :=
  congrArg Prod.snd ((la (S:=CB ps L) hi hj).mp (by
    show qE ps L i=qE ps L j;rw [hs i hi,hs j hj,h]))
theorem AO {f g:Int->Int}:∀ is:List Int,(∀ i∈is,f i<=g i)->(is.map f).sum<=(is.map g).sum/\(is.map f≠is.map g->(is.map f).sum < (is.map g).sum)
  | [],_=>⟨Int.le_refl _,fun h=>(h rfl).elim⟩
  | i::is,h=>by
    obtain ⟨a,b⟩:=AO is fun x hx=>h x (List.mem_cons_of_mem _ hx)
    have c:=h i List.mem_cons_self;rw [List.map_cons,List.map_cons,List.sum_cons,List.sum_cons];refine ⟨by omega,fun z=>?_⟩;by_cases e:f i=g i
    · have:=b fun y=>z (by rw [e,y])
      omega
    · omega
theorem vC {f:Int->Int} {c:Int}:∀ is:List Int,(∀ i∈is,0<=f i/\f i<=c)->0<=(is.map f).sum/\(is.map f).sum<=c*is.length
  | [],_=>by simp
  | i::is,h=>by
    obtain ⟨a,b⟩:=vC is fun x hx=>h x (List.mem_cons_of_mem _ hx)
    have d:=h i List.mem_cons_self;rw [List.map_cons,List.sum_cons,List.length_cons];have e:c*((is.length+1:Nat):Int)=c*is.length+c:=by rw [Int.natCast_add,Int.mul_add];simp
    rw [e];omega
theorem se (ps:List P4) (i:Int):aq ps i=(jO ps i).w:=by
  unfold jO;show ((ps[i.toNat]?).map (·.w)).getD 0=_;cases ps[i.toNat]? <;> rfl
theorem nH (ps:List P4) (i:Int):aB ps i=(jO ps i).m:=by
  unfold jO;show ((ps[i.toNat]?).map (·.m)).getD 0=_;cases ps[i.toNat]? <;> rfl
theorem oa {ps:List P4} {i:Int} (h:i∈ids ps.length):jO ps i∈ps:=by
  obtain ⟨h0,h1⟩:=aY.mp h;rw [sf h0 h1];exact List.getElem_mem _
theorem za {h:P4->P4} {ps:List P4} {i:Int} (hi:i∈ids ps.length):jO (ps.map h) i=h (jO ps i):=by
  obtain ⟨h0,h1⟩:=aY.mp hi;unfold jO;rw [List.getElem?_map,List.getElem?_eq_getElem (by omega)];rfl
noncomputable abbrev qc (ks:List Int) (k:Int):Int:=(ks[k.toNat]?).getD 0
theorem FB {h:Int->P4} {js:List Int} {j:Int} (hj:j∈ids js.length):jO (js.map h) j=h (qc js j):=by
  obtain ⟨h0,h1⟩:=aY.mp hj;unfold jO qc;rw [List.getElem?_map,List.getElem?_eq_getElem (by omega)];rfl
theorem Bj {js:List Int} {j:Int} (hj:j∈ids js.length):qc js j∈js:=by
  obtain ⟨h0,h1⟩:=aY.mp hj;unfold qc;rw [List.getElem?_eq_getElem (by omega)];exact List.getElem_mem _
theorem Fz {ks ns:List Int} (hk:ks.Pairwise (· < ·)) (hn:ns.Pairwise (· < ·)):(xg ks ns).Pairwise (· < ·):=by
  unfold xg;refine List.pairwise_map.mpr (List.Pairwise.imp_of_mem (fun {g g'} hg hg' hlt=>?_) (hn.filter (dB ks)));have i1:=List.idxOf_lt_length_of_mem (bT.mp (List.mem_filter.mp hg).2);have i2:=List.idxOf_lt_length_of_mem (bT.mp (List.mem_filter.mp hg').2);have f1:=List.getElem_idxOf i1;have f2:=List.getElem_idxOf i2;rcases Nat.lt_trichotomy (ks.idxOf g) (ks.idxOf g') with z | z | z
  · exact Int.ofNat_lt.mpr z
  · have t:ks[ks.idxOf g]?=ks[ks.idxOf g']?:=by rw [z]
    rw [List.getElem?_eq_getElem i1,List.getElem?_eq_getElem i2,f1,f2] at t;cases t;omega
  · have t:=List.pairwise_iff_getElem.mp hk _ _ i2 i1 z;rw [f1,f2] at t;omega
theorem CV {ks ns:List Int} {x:Int} (h:x∈xg ks ns):x∈ids ks.length/\qc ks x∈ns:=by
  unfold xg at h;obtain ⟨g,hg,rfl⟩:=List.mem_map.mp h;obtain ⟨h1,h2⟩:=List.mem_filter.mp hg;have i1:=List.idxOf_lt_length_of_mem (bT.mp h2);refine ⟨aY.mpr ⟨by omega,by omega⟩,?_⟩;unfold qc;rw [Int.toNat_natCast,List.getElem?_eq_getElem i1,Option.getD_some,List.getElem_idxOf i1];exact h1
theorem FA {ks ns:List Int} {g:Int} (h1:g∈ns) (h2:g∈ks):∃ x∈xg ks ns,qc ks x=g:=by
  have i1:=List.idxOf_lt_length_of_mem h2;refine ⟨(ks.idxOf g:Nat),List.mem_map.mpr ⟨g,List.mem_filter.mpr ⟨h1,bT.mpr h2⟩,rfl⟩,?_⟩;unfold qc;rw [Int.toNat_natCast,List.getElem?_eq_getElem i1,Option.getD_some,List.getElem_idxOf i1]
theorem GM {c n hi m:Int} {q:P4} (h:Pl n hi q) (h12:hi<=12) (hm:0<=m) (hc:m+n<=c):Pl c 12 (EW m q) :=
  ⟨h.w0,h.w1,h.m0,by have:=h.m1;show q.m<=12;omega,h.g0,h.g1,by show q.ns.map (·+m)≠[];simpa using h.ne,List.pairwise_map.mpr (h.so.imp fun z=>by omega),fun x hx=>by
    obtain ⟨g,hg,rfl⟩:=List.mem_map.mp hx;have:=h.inn g hg;exact ⟨by omega,by omega⟩⟩
theorem DB {c c' hi:Int} {p:P4} (h:Pl c hi p) (h2:c<=c') (h12:hi<=12):Pl c' 12 p:=⟨h.w0,h.w1,h.m0,by have:=h.m1;omega,h.g0,h.g1,h.ne,h.so,fun x hx=>by have:=h.inn x hx;omega⟩
theorem Gu {hi i:Int} {ps:List P4} {ks:List Int} (hpl:∀ p∈ps,Pl ps.length hi p) (h12:hi<=12) (hi':i∈ids ps.length) (hk:ks.Pairwise (· < ·)) (hw:∃ g∈aC ps i,g∈ks):Pl ks.length 12 (At ps ks i):=by
  have h:=hpl _ (oa hi');refine ⟨h.w0,h.w1,h.m0,by have:=h.m1;show (jO ps i).m<=12;omega,h.g0,h.g1,fun z=>?_,Fz hk (by rw [<- iM];exact h.so),fun x hx=>aY.mp (CV hx).1⟩;obtain ⟨g,h1,h2⟩:=hw;obtain ⟨x,hx,_⟩:=FA h1 h2;rw [show xg ks (aC ps i)=[] from z] at hx;cases hx
section
variable {ps:List P4} (hpl:∀ p∈ps,Pl ps.length 12 p)
include hpl
theorem Gj {i:Int} (hi:i∈ids ps.length):aq ps i=0\/aq ps i=1:=by
  have h:=hpl _ (oa hi);rw [se];have:=h.w0;have:=h.w1;omega
theorem zY {i:Int} (hi:i∈ids ps.length):0<=aB ps i/\aB ps i < 13:=by
  have h:=hpl _ (oa hi);rw [nH];have:=h.m0;have:=h.m1;omega
theorem lb {i g:Int} (hi:i∈ids ps.length) (hg:g∈aC ps i):g∈ids ps.length:=by
  have h:=hpl _ (oa hi);rw [<- iM] at hg;exact aY.mpr (h.inn g hg)
theorem DD (h24:(ps.length:Int)<=24) (c:Addr):∃ win mv,i9 c [gD ps]=.ok (.tuple [oT (fun i=>some (win i)) ps.length,oT mv ps.length])/\sS ps (ids ps.length) win mv:=by
  have G:=FS hpl h24;obtain ⟨win,mv,e,I,_⟩:=Fd G (yA G) (c:=c) fun i hi=>⟨Gj hpl hi,zY hpl hi⟩
  exact ⟨win,mv,e,I⟩
end
noncomputable abbrev ib (L:Int->Int) (n:Nat):PyData:=.tuple (tab (fun i=>.int (L i)) n)
theorem lu (L:Int->Int) (n:Nat):tab (fun i=>PyData.int (L i)) n=((ids n).map L).map .int:=by
  exact (List.map_map (f:=L) (g:=PyData.int) (l:=ids n)).symm
theorem wO {f:Fe} {ρ:aT} {g h:Int->PyData} {n:Nat} (hh:∀ i:Int,0<=i->i < n->f (.val (g i)::ρ)=.ok (h i)):bP (aW 0) (fun _=>.ok true) f (.non::ρ) (tab g n)=.ok (tab h n):=by
  have go:∀ is:List Int,(∀ i∈is,0<=i/\i < n)->bP (aW 0) (fun _=>.ok true) f (.non::ρ) (is.map g)=.ok (is.map h):=by
    intro is;induction is with
    | nil=>intro _;exact cS ..
    | cons i is ih =>
      intro hb;rw [List.map_cons,dz,ih fun x hx=>hb x (List.mem_cons_of_mem _ hx)];have:=hh i (hb i List.mem_cons_self).1 (hb i List.mem_cons_self).2;simp only [R.ok_bind,if_true,List.set_cons_zero,this];rfl
  exact go (ids n) fun i hi=>aY.mp hi
theorem jq {α:Type} [DecidableEq α] {s:Int->PyData} {S:Int->α} {n:Nat} (hn:n<=1000) (hg:∀ i,fL (s i)) (hd:∀ i,(s i).depth<=60) (he:∀ i j,PyData.eqv (s i) (s j)=decide (S i=S j)):bX [.list (tab s n)]=.ok (ib (xz S n) n):=by
  have hx:∀ i:Int,0<=i->i < n->k7 (af 1) (af 0) [.val (s i),.val (.list (tab s n))]=.ok (.int (xz S n i)):=fun i h0 h1=>by
    have hi:=aY.mpr ⟨h0,h1⟩;have ei:l6 (tab s n) (s i)=(ids n).findIdx fun j=>decide (S j=S i):=by
      unfold l6 tab;rw [List.findIdx_map];congr 1;funext j;exact he j i
    have hlt:l6 (tab s n) (s i) < (tab s n).length:=by
      rw [ei,bS];have:=List.findIdx_lt_length_of_exists (p:=fun j=>decide (S j=S i)) ⟨i,hi,by simp⟩;rw [eD] at this;exact this
    have ho:kz (tab s n) (s i)=true:=by
      unfold kz;have a:PyData.canLayAll0 (tab s n)=true:=kS fun x hx=>by
        obtain ⟨j,_,rfl⟩:=List.mem_map.mp hx;exact hg j
      have c:=hd i;rw [a,show (s i).canLay0=true from hg i,decide_eq_true (show min (PyData.depthAll (tab s n)) (s i).depth<=60 by omega)];rfl
    unfold k7;simp only [ar,am,R.ok_bind];show (if kz (tab s n) (s i)=true/\(tab s n).length<=1000/\l6 (tab s n) (s i) < (tab s n).length then R.ok (PyData.int (l6 (tab s n) (s i):Nat)) else .no)=_;rw [if_pos ⟨ho,by rw [bS];exact hn,hlt⟩,ei];rfl
  have hc:=wO (f:=k7 (af 1) (af 0)) (ρ:=[.val (.list (tab s n))]) (g:=s) (h:=fun i=>.int (xz S n i)) (n:=n) hx;unfold bX gU;refine dZ ?_;rw [show ([PyData.list (tab s n)].map br.val++List.replicate (1 - [PyData.list (tab s n)].length) br.non)=[.val (.list (tab s n))] from rfl];rw [cq,bU,bp,show ay 1 [0] [.val (.list (tab s n))]=[.non,.val (.list (tab s n))] from rfl];simp only [bR,am,R.ok_bind,ss,cn];rw [if_pos (bI (by rw [bS];exact hn)),hc];rfl
theorem tS {p:P4} {L:Int->Int} {n:Nat} (hg:∀ x∈p.ns,x∈ids n) (hl:p.ns.length < 64):aJ [p.d,ib L n]=.ok (.list ((gh (p.ns.map L)).map .int)):=by
  have hm:=jL (f:=e2 bQ (af 1) (af 0)) (ρ:=[.val (ib L n)]) (h:=L) p.ns fun g hg'=>by
    obtain ⟨h0,h1⟩:=aY.mp (hg g hg');simp only [bz,am,ar,R.ok_bind,pE h0 h1]
  unfold aJ fu;refine dZ ?_;rw [show ([p.d,ib L n].map br.val++List.replicate (2 - [p.d,ib L n].length) br.non)=[.val p.d,.val (ib L n)] from rfl];rw [cq,bU,bp,show ay 1 [1] [.val p.d,.val (ib L n)]=[.non,.val (ib L n)] from rfl];simp only [bR,bz,am,bY,R.ok_bind,jv,cH,cn];rw [if_pos (bI (by rw [List.length_map];omega)),hm,fJ,R.ok_bind,IF (by rw [List.length_map];exact hl)];rfl
noncomputable def A9 (ps:List P4) (L:Int->Int) (i:Int):PyData:=.tuple [.int (L i),.list ((gh ((aC ps i).map L)).map .int)]
noncomputable def Cv (ps:List P4) (i:Int):PyData:=.tuple [.int (aq ps i),.int (aB ps i)]
theorem EV (ps:List P4) (L:Int->Int) (i j:Int):PyData.eqv (A9 ps L i) (A9 ps L j)=decide (CB ps L i=CB ps L j):=by
  unfold A9 CB;simp only [PyData.eqv,PyData.eqvAll,oC,Bool.and_true,Prod.mk.injEq,Bool.decide_and];congr 1
theorem ES (ps:List P4) (i j:Int):PyData.eqv (Cv ps i) (Cv ps j)=decide (EQ ps i=EQ ps j):=by
  unfold Cv EQ;simp only [PyData.eqv,PyData.eqvAll,Bool.and_true,Prod.mk.injEq,Bool.decide_and];congr 1
theorem CC (ps:List P4) (L:Int->Int) (i:Int):fL (A9 ps L i):=fD.mpr fun x hx=>by
  simp only [List.mem_cons,List.not_mem_nil,or_false] at hx;rcases hx with rfl | rfl
  · exact gv _
  · have:=iE (gh ((aC ps i).map L));simpa [fL,PyData.canLay0] using this
theorem Cw (ps:List P4) (i:Int):fL (Cv ps i):=fD.mpr fun x hx=>by
  simp only [List.mem_cons,List.not_mem_nil,or_false] at hx;rcases hx with rfl | rfl <;> exact gv _
theorem EU (ps:List P4) (L:Int->Int) (i:Int):(A9 ps L i).depth<=60:=by simp [A9,PyData.depth,PyData.depthAll,(l4 _).dep]
theorem ER (ps:List P4) (i:Int):(Cv ps i).depth<=60:=by simp [Cv,PyData.depth,PyData.depthAll]
noncomputable def HC:Fs:=(bB (cf 1 (af 2)) (cf 2 (aF bX (ah (bE (lc (af 0)) 2 [1] (eA 0 1) (fun _=>.ok true) (kr (ah (e2 bQ (af 2) (af 0)) (ah (aF aJ (ah (af 1) (ah (af 2) aG))) aG)))) aG))))
section
variable {ps:List P4} (hpl:∀ p∈ps,Pl ps.length 12 p) (h24:(ps.length:Int)<=24)
include hpl h24
theorem zU {L:Int->Int} {c1:br}:HC [.val (gD ps),c1,.val (ib L ps.length)]=.ok (.nx [.val (gD ps),.val (ib L ps.length),.val (ib (qE ps L) ps.length)]):=by
  have s2:(2:Nat)<=sizeLine:=by decide
  have hfa:=jq (s:=A9 ps L) (S:=CB ps L) (n:=ps.length) (by omega) (CC ps L) (EU ps L) (EV ps L);have hcm:=oA (fe:=kr (ah (e2 bQ (af 2) (af 0)) (ah (aF aJ (ah (af 1) (ah (af 2) aG))) aG))) (ρ:=[.val (ib L ps.length)]) (g:=A7 ps) (h:=A9 ps L) ps.length 0 fun j _ hj=>by
    have h0:(0:Int)<=(j:Int):=by omega
    have h1:(j:Int) < ps.length:=by omega
    have hi:=aY.mpr ⟨h0,h1⟩;have P:=hpl _ (oa hi);have ep:A7 ps j=(jO ps j).d:=by
      unfold A7 jO;rw [List.getElem?_eq_getElem (show (j:Int).toNat < ps.length by omega)];rfl
    have hle:(jO ps j).ns.length < 64:=by have:=P.len;omega
    have hlk:=tS (p:=jO ps j) (L:=L) (n:=ps.length) (fun x hx=>aY.mpr (P.inn x hx)) hle;rw [iM] at hlk;rw [ep];simp only [k8,aD,aS,bz,aP,am,ar,R.ok_bind,pE h0 h1,hlk,List.length_cons,List.length_nil,Nat.zero_add,Nat.reduceAdd,if_pos s2];rfl
  rw [lg,<- show ps.map P4.d=(ids ps.length).map (A7 ps) from zC ps] at hcm;unfold HC;rw [bg (ρ':=[.val (gD ps),.val (ib L ps.length),.val (ib L ps.length)]) (by rfl)];rw [bD,aP,aD,bp,show ay 2 [1] [.val (gD ps),.val (ib L ps.length),.val (ib L ps.length)]=[.non,.non,.val (ib L ps.length)] from rfl];simp only [jr,am,R.ok_bind,cH,cn];rw [if_pos (by rw [fA,List.length_map];exact bI (by omega)),hcm,fJ,R.ok_bind,aS,R.ok_bind,R.ok_bind];rw [show (ids ps.length).map (A9 ps L)=tab (A9 ps L) ps.length from rfl,hfa];rfl
theorem wu:∀ (k fuel:Nat) (L:Int->Int),rc ps L->(600-((ids ps.length).map L).sum).toNat<=k->k+1 < fuel ->
    ∃ L',dn (tE (e2 (ut) (af 2) (af 1))) HC fuel [.val (gD ps),.val (ib L ps.length),.val (ib (qE ps L) ps.length)]=.ok (.nx [.val (gD ps),.val (ib L' ps.length),.val (ib (qE ps L') ps.length)])/\rc ps L'/\∀ i∈ids ps.length,qE ps L' i=L' i
  | k,0,L,_,_,h=>by omega
  | k,fuel+1,L,I,hk,hf=>by
    have ht:tE (e2 (ut) (af 2) (af 1)) [.val (gD ps),.val (ib L ps.length),.val (ib (qE ps L) ps.length)]=.ok (!decide ((ids ps.length).map (qE ps L)=(ids ps.length).map L)):=by
      have h:=F9 ((ids ps.length).map (qE ps L)) ((ids ps.length).map L);rw [<- lu,<- lu] at h;simp only [cP,bz,am,ar,R.ok_bind];rw [h];rfl
    by_cases e:(ids ps.length).map (qE ps L)=(ids ps.length).map L
    · refine ⟨L,?_,I,fun i hi=>?_⟩
      · rw [ip,ht,decide_eq_true e];rfl
      · exact List.map_inj_left.mp e i hi
    · have I2:=D7 I;obtain ⟨_,lt⟩:=AO (f:=L) (g:=qE ps L) (ids ps.length) fun i hi=>Gb I hi
      have lt:=lt fun z=>e z.symm
      have bd:=vC (f:=qE ps L) (c:=24) (ids ps.length) fun i hi=>by
        have:=aY.mp (I2.inn i hi);omega
      rw [eD] at bd;cases k with
      | zero=>omega
      | succ k =>
        obtain ⟨L',a,b,c⟩:=wu k fuel (qE ps L) I2 (by omega) (by omega);refine ⟨L',?_,b,c⟩;rw [ip,ht,decide_eq_false e,R.ok_bind,Bool.not_false,if_pos rfl,zU hpl h24,R.ok_bind,eB];exact a
theorem mI:∃ L,bO [gD ps]=.ok (ib L ps.length)/\rc ps L/\∀ i∈ids ps.length,qE ps L i=L i:=by
  have s2:(2:Nat)<=sizeLine:=by decide
  have I0:=Ir ps;have bd:=vC (f:=zO ps) (c:=24) (ids ps.length) fun i hi=>by
    have:=aY.mp (I0.inn i hi);omega
  obtain ⟨L,a,b,c⟩:=wu hpl h24 600 999999 (zO ps) I0 (by omega) (by omega);have hfa:=jq (s:=Cv ps) (S:=EQ ps) (n:=ps.length) (by omega) (Cw ps) (ER ps) (ES ps);have hcm:=wO (f:=kr (ah (e2 bQ (af 0) (eC (.int 0))) (ah (e2 bQ (af 0) (eC (.int 1))) aG))) (ρ:=[]) (g:=A7 ps) (h:=Cv ps) (n:=ps.length) fun j h0 h1=>by
    have ep:A7 ps j=(jO ps j).d:=by
      unfold A7 jO;rw [List.getElem?_eq_getElem (show j.toNat < ps.length by omega)];rfl
    rw [ep];simp only [k8,aD,aS,bz,am,bY,R.ok_bind,kF,o4,List.length_cons,List.length_nil,Nat.zero_add,Nat.reduceAdd,if_pos s2];unfold Cv;rw [se,nH]
  rw [<- zC] at hcm;refine ⟨L,?_,b,c⟩;unfold bO kc;refine dZ ?_;rw [show ([gD ps].map br.val++List.replicate (3 - [gD ps].length) br.non)=[.val (gD ps),.non,.non] from rfl];rw [bg (ρ':=[.val (gD ps),.val .none,.non]) (by rfl)];rw [bg (ρ':=[.val (gD ps),.val .none,.val (ib (zO ps) ps.length)]) (by
    rw [bD,aP,aD,bp,show ay 1 [] [.val (gD ps),.val .none,.non]=[.non] from rfl];simp only [bR,am,R.ok_bind,cH,cn];rw [if_pos (by rw [List.length_map];exact bI (by omega)),hcm,fJ,R.ok_bind,aS,R.ok_bind,R.ok_bind,hfa];rfl)]
  rw [bg (ρ':=[.val (gD ps),.val (ib L ps.length),.val (ib (qE ps L) ps.length)]) (by
    rw [gi];show lL (dn (tE (e2 (ut) (af 2) (af 1))) HC (999999+1) _)=_;have ht:tE (e2 (ut) (af 2) (af 1)) [.val (gD ps),.val .none,.val (ib (zO ps) ps.length)]=.ok true:=by
      have hg:fL (ib (zO ps) ps.length):=by rw [show ib (zO ps) ps.length=.tuple (((ids ps.length).map (zO ps)).map .int) from congrArg PyData.tuple (lu _ _)];exact sx _
      have ho:pV (ib (zO ps) ps.length) .none=true:=by
        unfold pV;rw [show (ib (zO ps) ps.length).canLay0=true from hg];simp [PyData.canLay0,PyData.depth]
      have hn:ut (ib (zO ps) ps.length) .none=.ok (.bool true):=by
        unfold ut;rw [if_pos ho];rfl
      simp only [cP,bz,am,ar,R.ok_bind,hn,cW]
    rw [ip,ht,R.ok_bind,if_pos rfl,zU hpl h24,R.ok_bind,eB,a];rfl)]
  rfl
end
noncomputable def BU (L:Int->Int) (p:P4):P4:=pI p (gh (p.ns.map L))
noncomputable abbrev fH (L:Int->Int) (n:Nat):List Int:=gh ((ids n).map L)
noncomputable abbrev lr (ps:List P4) (L:Int->Int):List P4:=ps.map (BU L)
noncomputable def mn (ps:List P4) (L:Int->Int):List P4:=(fH L ps.length).map (At (lr ps L) (fH L ps.length))
theorem B9 {ps:List P4} (hl:∀ p∈ps,p.ns.length<=100) (hp:ps.length<=100) {js:List Int} (hj:dr ps.length js) (hne:js≠[]) (hw:∀ i∈js,∃ g∈aC ps i,g∈js):dH [gD ps,.tuple (js.map .int)]=.ok (gD (js.map (At ps js))):=by
  have hpb:o5 ps (.tuple (js.map .int))=true:=by
    have he:(js.map PyData.int).isEmpty=false:=by
      cases js with
      | nil=>exact absurd rfl hne
      | cons _ _=>rfl
    have hal:=yz (ps:=ps) (js:=js) fun i hi'=>by
      obtain ⟨g,g1,g2⟩:=hw i hi';exact ⟨g,List.mem_filter.mpr ⟨g1,bT.mpr g2⟩⟩
    simp only [o5,sj ps.length js 0 hj.lt hj.inn,he,cy,hal];rfl
  rw [vn hl hp (sx js),hpb,if_pos rfl];simp only [cy,Option.getD_some]
theorem u8 {ks:List Int} (hk:ks.Nodup) {h:Int} (hh:h∈ids ks.length):((ks.idxOf (qc ks h):Nat):Int)=h:=by
  obtain ⟨h0,h1⟩:=aY.mp hh;have hx:h.toNat < ks.length:=by omega
  unfold qc;rw [List.getElem?_eq_getElem hx,Option.getD_some,hk.idxOf_getElem];omega
section
variable {ps:List P4} (hpl:∀ p∈ps,Pl ps.length 12 p) (h24:(ps.length:Int)<=24) (h1:1<=ps.length) {L:Int->Int} (I:rc ps L) (hs:∀ i∈ids ps.length,qE ps L i=L i)
include hpl h24 h1 I
theorem ky {x:Int}:x∈fH L ps.length<->∃ i∈ids ps.length,L i=x:=by rw [eX,List.mem_map]
theorem gJ:dr ps.length (fH L ps.length):=⟨kD _,fun x hx=>by
  obtain ⟨i,hi,rfl⟩:=(ky hpl h24 h1 I).mp hx;exact aY.mp (I.inn i hi)⟩
theorem D4 {x:Int} (hx:x∈fH L ps.length):L x=x:=by
  obtain ⟨i,hi,rfl⟩:=(ky hpl h24 h1 I).mp hx;exact I.idem i hi
theorem qw {i:Int} (hi:i∈ids ps.length):aC (lr ps L) i=gh ((aC ps i).map L):=by
  rw [<- iM,za hi,<- iM];rfl
theorem ls:(lr ps L).length=ps.length:=List.length_map ..
theorem zT:∀ p∈lr ps L,Pl (lr ps L).length 12 p:=fun p hp=>by
  rw [ls hpl h24 h1 I];obtain ⟨q,hq,rfl⟩:=List.mem_map.mp hp;have P:=hpl q hq;refine ⟨P.w0,P.w1,P.m0,P.m1,P.g0,P.g1,fun z=>?_,kD _,fun x hx=>?_⟩
  · obtain ⟨g,hg⟩:=List.exists_mem_of_ne_nil _ P.ne;have:L g∈gh (q.ns.map L):=eX.mpr (List.mem_map.mpr ⟨g,hg,rfl⟩);rw [show gh (q.ns.map L)=[] from z] at this;cases this
  · obtain ⟨g,hg,rfl⟩:=List.mem_map.mp (eX.mp hx);exact aY.mp (I.inn g (aY.mpr (P.inn g hg)))
theorem tM:∀ i∈fH L ps.length,∃ g∈aC (lr ps L) i,g∈fH L ps.length:=fun i hi=>by
  have hi':=aY.mpr ((gJ hpl h24 h1 I).inn i hi);have P:=hpl _ (oa hi');obtain ⟨g,hg⟩:=List.exists_mem_of_ne_nil _ P.ne;have hgi:=aY.mpr (P.inn g hg);rw [iM] at hg;refine ⟨L g,?_,(ky hpl h24 h1 I).mpr ⟨g,hgi,rfl⟩⟩;rw [qw hpl h24 h1 I hi'];exact eX.mpr (List.mem_map.mpr ⟨g,hg,rfl⟩)
theorem Db:fH L ps.length≠[]:=fun z=>by
  have:L 0∈fH L ps.length:=(ky hpl h24 h1 I).mpr ⟨0,aY.mpr ⟨by omega,by omega⟩,rfl⟩;rw [z] at this;cases this
theorem qm (hlk:bO [gD ps]=.ok (ib L ps.length)):eu [gD ps]=.ok (gD (mn ps L)):=by
  have hcm:=nJ (f:=aF aI (ah (af 0) (ah (aF aJ (ah (af 0) (ah (af 1) aG))) aG))) (ρ:=[.val (ib L ps.length)]) (h:=fun p=>(BU L p).d) ps fun q hq=>by
    have P:=hpl q hq;have hle:q.ns.length < 64:=by have:=P.len;omega
    have a:=tS (p:=q) (L:=L) (n:=ps.length) (fun x hx=>aY.mpr (P.inn x hx)) hle;have b:=g9 q (gh (q.ns.map L));simp only [aP,aD,aS,am,ar,R.ok_bind,a,b];rfl
  have hpt:=B9 (ps:=lr ps L) (js:=fH L ps.length) (fun p hp=>by
    have:=(zT hpl h24 h1 I p hp).len;rw [ls hpl h24 h1 I] at this;omega) (by rw [ls hpl h24 h1 I];omega) (by rw [ls hpl h24 h1 I];exact gJ hpl h24 h1 I) (Db hpl h24 h1 I) (tM hpl h24 h1 I)
  have hss:=GP (ms:=(ids ps.length).map L) (by rw [List.length_map,eD];omega);rw [<- lu] at hss;unfold eu nR;refine dZ ?_;rw [show ([gD ps].map br.val++List.replicate (3 - [gD ps].length) br.non)=[.val (gD ps),.non,.non] from rfl];rw [bg (ρ':=[.val (gD ps),.val (ib L ps.length),.non]) (by
    rw [bD,aP,aD,am,R.ok_bind,aS,R.ok_bind,R.ok_bind,hlk];rfl)]
  rw [bg (ρ':=[.val (gD ps),.val (ib L ps.length),.val (gD (lr ps L))]) (by
    rw [bD,bU,bp,show ay 1 [1] [.val (gD ps),.val (ib L ps.length),.non]=[.non,.val (ib L ps.length)] from rfl];simp only [bR,am,R.ok_bind,cH,cn];rw [if_pos (by rw [List.length_map];exact bI (by omega)),hcm,fJ,R.ok_bind,h8,R.ok_bind];show R.ok (uF.nx [.val (gD ps),.val (ib L ps.length),.val (.tuple (ps.map fun p=>(BU L p).d))])=.ok (.nx [.val (gD ps),.val (ib L ps.length),.val (.tuple ((ps.map (BU L)).map P4.d))]);rw [List.map_map];rfl)]
  rw [cq,aP,aD,ar,ar,am,R.ok_bind,aD,bU,bU,ar,am,R.ok_bind,hss,R.ok_bind,h8,R.ok_bind,aS,R.ok_bind,R.ok_bind,R.ok_bind,hpt];rfl
theorem kL:(mn ps L).length=(fH L ps.length).length:=List.length_map ..
theorem Du:∀ p∈mn ps L,Pl (mn ps L).length 12 p:=fun p hp=>by
  rw [kL hpl h24 h1 I];obtain ⟨i,hi,rfl⟩:=List.mem_map.mp hp;exact Gu (zT hpl h24 h1 I) (by omega) (by rw [ls hpl h24 h1 I];exact aY.mpr ((gJ hpl h24 h1 I).inn i hi)) (gJ hpl h24 h1 I).lt (tM hpl h24 h1 I i hi)
theorem GO:(mn ps L).length<=ps.length:=by
  rw [kL hpl h24 h1 I];exact (gJ hpl h24 h1 I).len
theorem IE:1<=(mn ps L).length:=by
  rw [kL hpl h24 h1 I];exact List.length_pos_iff.mpr (Db hpl h24 h1 I)
noncomputable def lM (ks:List Int) (L:Int->Int) (i:Int):Int:=((ks.idxOf (L i):Nat):Int)
theorem mQ {i:Int} (hi:i∈ids ps.length):lM (fH L ps.length) L i∈ids (mn ps L).length/\qc (fH L ps.length) (lM (fH L ps.length) L i)=L i:=by
  have hm:L i∈fH L ps.length:=(ky hpl h24 h1 I).mpr ⟨i,hi,rfl⟩;have i1:=List.idxOf_lt_length_of_mem hm;refine ⟨aY.mpr ⟨by unfold lM;omega,by rw [kL hpl h24 h1 I];unfold lM;omega⟩,?_⟩;unfold qc lM;rw [Int.toNat_natCast,List.getElem?_eq_getElem i1,Option.getD_some,List.getElem_idxOf i1]
theorem Dt {i:Int} (hi:i∈ids ps.length):jO (mn ps L) (lM (fH L ps.length) L i)=At (lr ps L) (fH L ps.length) (L i):=by
  obtain ⟨a,b⟩:=mQ hpl h24 h1 I hi;rw [kL hpl h24 h1 I] at a;show jO ((fH L ps.length).map (At (lr ps L) (fH L ps.length))) _=_;rw [FB a,b]
theorem jD {i:Int} (hi:i∈ids ps.length):aq (mn ps L) (lM (fH L ps.length) L i)=aq ps i/\aB (mn ps L) (lM (fH L ps.length) L i)=aB ps i:=by
  have o:=I.own (L i) (I.inn i hi) i hi (I.idem i hi);rw [se,nH,Dt hpl h24 h1 I hi];rw [se ps (L i),nH ps (L i)] at o;rw [<- o.1,<- o.2];show (jO (lr ps L) (L i)).w=_/\(jO (lr ps L) (L i)).m=_;rw [za (I.inn i hi)];exact ⟨rfl,rfl⟩
include hs
theorem lG {i:Int} (hi:i∈ids ps.length) (h:Int):h∈aC (mn ps L) (lM (fH L ps.length) L i)<->∃ g∈aC ps i,lM (fH L ps.length) L g=h:=by
  have e:aC (mn ps L) (lM (fH L ps.length) L i)=xg (fH L ps.length) (gh ((aC ps i).map L)):=by
    rw [<- iM,Dt hpl h24 h1 I hi];show xg (fH L ps.length) (aC (lr ps L) (L i))=_;rw [qw hpl h24 h1 I (I.inn i hi),wA hs (I.inn i hi) hi (I.idem i hi)]
  rw [e];constructor
  · intro hh;obtain ⟨a,b⟩:=CV hh;obtain ⟨g,hg,e2'⟩:=List.mem_map.mp (eX.mp b);refine ⟨g,hg,?_⟩;unfold lM;rw [e2'];exact u8 (ie (kD _)) a
  · rintro ⟨g,hg,rfl⟩;have hgi:=lb hpl hi hg;exact List.mem_map.mpr ⟨L g,List.mem_filter.mpr ⟨eX.mpr (List.mem_map.mpr ⟨g,hg,rfl⟩),bT.mpr ((ky hpl h24 h1 I).mpr ⟨g,hgi,rfl⟩)⟩,rfl⟩
theorem EY {winA winB:Int->Int} {mvA mvB:Int->Option Int} (A:sS (mn ps L) (ids (mn ps L).length) winA mvA) (B:sS ps (ids ps.length) winB mvB):∀ i∈ids ps.length,winA (lM (fH L ps.length) L i)=winB i:=fun i hi=>by
  refine yw A B (f:=lM (fH L ps.length) L) (w:=winB i) (v:=winB i) (B.two i hi) (fun j hj=>(mQ hpl h24 h1 I hj).1) (fun j hj=>Gj (Du hpl h24 h1 I) hj) (fun j hj=>?_) (fun j hj g hg=>?_) (fun j hj w1 w2 h hh=>?_) (fun j hj k hk=>?_) (fun j hj=>?_) (fun j hj=>zY hpl hj) i hi rfl
  · rw [(jD hpl h24 h1 I hj).1]
  · exact ⟨lb hpl hj hg,(lG hpl h24 h1 I hs hj _).mpr ⟨g,hg,rfl⟩⟩
  · obtain ⟨h',e1',e2'⟩:=A.has _ (mQ hpl h24 h1 I hj).1 (w2.trans w1.symm);rw [hh] at e1';cases e1';exact (lG hpl h24 h1 I hs hj h).mp e2'
  · rw [(jD hpl h24 h1 I hj).2,(jD hpl h24 h1 I hk).2];exact id
  · rw [(jD hpl h24 h1 I hj).2];exact id
theorem GN {Ls:Int->Int} (J:rc (mn ps L) Ls) (ht:∀ i∈ids (mn ps L).length,qE (mn ps L) Ls i=Ls i):∀ s∈ids (mn ps L).length,Ls s=s:=by
  have B:IU ps fun i j=>i∈ids ps.length/\j∈ids ps.length/\Ls (lM (fH L ps.length) L i)=Ls (lM (fH L ps.length) L j):=by
    have step:∀ i j,i∈ids ps.length->j∈ids ps.length->Ls (lM (fH L ps.length) L i)=Ls (lM (fH L ps.length) L j)->∀ g∈aC ps i,∃ g'∈aC ps j,g∈ids ps.length/\g'∈ids ps.length/\Ls (lM (fH L ps.length) L g)=Ls (lM (fH L ps.length) L g'):=fun i j hi hj e g hg=>by
      have st:=wA ht (mQ hpl h24 h1 I hi).1 (mQ hpl h24 h1 I hj).1 e;have hm:Ls (lM (fH L ps.length) L g)∈gh ((aC (mn ps L) (lM (fH L ps.length) L i)).map Ls):=eX.mpr (List.mem_map.mpr ⟨_,(lG hpl h24 h1 I hs hi _).mpr ⟨g,hg,rfl⟩,rfl⟩);rw [st] at hm;obtain ⟨h,hh,e2'⟩:=List.mem_map.mp (eX.mp hm);obtain ⟨g',hg',e3'⟩:=(lG hpl h24 h1 I hs hj h).mp hh;exact ⟨g',hg',lb hpl hi hg,lb hpl hj hg',by rw [e3',e2']⟩
    refine ⟨fun i j r=>⟨r.1,r.2.1⟩,fun i j r=>?_,fun i j r g hg=>?_,fun i j r g hg=>?_⟩
    · have o:=J.own _ (mQ hpl h24 h1 I r.1).1 _ (mQ hpl h24 h1 I r.2.1).1 r.2.2;rw [(jD hpl h24 h1 I r.1).1,(jD hpl h24 h1 I r.1).2,(jD hpl h24 h1 I r.2.1).1,(jD hpl h24 h1 I r.2.1).2] at o;exact o
    · exact step i j r.1 r.2.1 r.2.2 g hg
    · obtain ⟨g',a,b,c,d⟩:=step j i r.2.1 r.1 r.2.2.symm g hg;exact ⟨g',a,c,b,d.symm⟩
  have ph_at:∀ s∈ids (mn ps L).length,qc (fH L ps.length) s∈ids ps.length/\L (qc (fH L ps.length) s)=qc (fH L ps.length) s/\lM (fH L ps.length) L (qc (fH L ps.length) s)=s:=fun s hs'=>by
    rw [kL hpl h24 h1 I] at hs';have hm:=Bj hs';have hf:=D4 hpl h24 h1 I hm;refine ⟨aY.mpr ((gJ hpl h24 h1 I).inn _ hm),hf,?_⟩;unfold lM;rw [hf];exact u8 (ie (kD _)) hs'
  have inj:∀ s∈ids (mn ps L).length,∀ t∈ids (mn ps L).length,Ls s=Ls t->s=t:=fun s hs' t ht' e=>by
    obtain ⟨a1,a2,a3⟩:=ph_at s hs';obtain ⟨b1,b2,b3⟩:=ph_at t ht';have:=I.most _ B (qc (fH L ps.length) s) (qc (fH L ps.length) t) ⟨a1,b1,by rw [a3,b3];exact e⟩;rw [a2,b2] at this;rw [<- a3,<- b3,this]
  intro s hs';exact inj _ (J.inn s hs') _ hs' (J.idem s hs')
end
theorem DQ {m:Nat} {ns:List Int} (h:∀ x∈ns,x∈ids m):xg (ids m) ns=ns:=by
  unfold xg;rw [List.filter_eq_self.mpr fun x hx=>bT.mpr (h x hx)];refine (List.map_congr_left fun x hx=>?_).trans (List.map_id _);obtain ⟨h0,h1⟩:=aY.mp (h x hx);have e:qc (ids m) x=x:=by
    unfold qc;rw [List.getElem?_eq_getElem (by rw [eD];omega),Option.getD_some,rU];omega
  have:=u8 (ks:=ids m) (ie (u7 m)) (h:=x) (by rw [eD];exact h x hx);rw [e] at this;exact this
theorem AK {qs:List P4} (hql:∀ p∈qs,Pl qs.length 12 p) {Ls:Int->Int} (hi:∀ s∈ids qs.length,Ls s=s):mn qs Ls=qs:=by
  have e1':fH Ls qs.length=ids qs.length:=by
    show gh ((ids qs.length).map Ls)=_;rw [(List.map_congr_left hi).trans (List.map_id _)];exact t5 (u7 _)
  have e2':lr qs Ls=qs:=by
    refine (List.map_congr_left fun p hp=>?_).trans (List.map_id _);have P:=hql p hp;have e:gh (p.ns.map Ls)=p.ns:=by
      rw [(List.map_congr_left fun x hx=>hi x (aY.mpr (P.inn x hx))).trans (List.map_id _)];exact t5 P.so
    show pI p (gh (p.ns.map Ls))=p;rw [e];rfl
  unfold mn;rw [e1',e2'];refine List.ext_getElem (by rw [List.length_map,eD]) fun k h1 h2=>?_
  rw [List.getElem_map,rU];have hk:(k:Int)∈ids qs.length:=aY.mpr ⟨by omega,by omega⟩;have P:=hql _ (oa hk);unfold At;rw [DQ fun x hx=>lb hql hk hx,<- iM];show pI (jO qs k) (jO qs k).ns=_;rw [show pI (jO qs k) (jO qs k).ns=jO qs k from rfl,sf (by omega) (by omega)];simp
theorem B8 (p:P4):fL p.d:=by
  refine fD.mpr fun x hx=>?_
  simp only [List.mem_cons,List.not_mem_nil,or_false] at hx;rcases hx with rfl | rfl | rfl | rfl
  · exact gv _
  · exact gv _
  · exact gv _
  · exact sx _
theorem BI (ps:List P4):fL (gD ps):=fD.mpr fun d hd=>by
  obtain ⟨p,_,rfl⟩:=List.mem_map.mp hd;exact B8 p
theorem Ah (p:P4):p.d.depth<=2:=by simp [P4.d,PyData.depth,PyData.depthAll,(l4 p.ns).dep]
theorem tN:∀ ps:List P4,PyData.depthAll (ps.map P4.d)<=2
  | []=>by simp [PyData.depthAll]
  | p::ps=>by
    have ih:=tN ps;have h:=Ah p;rw [List.map_cons,PyData.depthAll];omega
theorem D5 (ps:List P4):(gD ps).depth<=60:=by
  have:=tN ps;simp only [PyData.depth];omega
theorem mU:∀ {ns:List Int},(∀ x∈ns,0<=x/\x < 1000)->PyData.weightAll (ns.map .int)<=12*ns.length
  | [],_=>by simp [PyData.weightAll]
  | n::ns,h=>by
    have ih:=mU fun x hx=>h x (List.mem_cons_of_mem _ hx)
    have hn:=h n List.mem_cons_self;have h1:PyData.weight (.int n)<=11:=by
      simp only [PyData.weight];split
      · omega
      · rename_i hz;have h2:n.natAbs≠0:=by
          intro z;apply hz;have:n=0:=by omega
          rw [this];rfl
        have:=(Nat.log2_lt h2 (k:=10)).mpr (by omega);omega
    simp only [List.map_cons,PyData.weightAll,List.length_cons];omega
theorem zS {ns:List Int} (h:ns.length<=1000) (hb:∀ x∈ns,0<=x/\x < 1000):PyData.layable0 (.list (ns.map .int))=true:=by
  have hw:=mU hb;have e1:(PyData.list (ns.map .int)).canLay0=true:=by simp only [PyData.canLay0];exact iE ns
  have e2:(PyData.list (ns.map .int)).depth<=64:=by simp only [PyData.depth,gH];omega
  have e3:(PyData.list (ns.map .int)).weight<=2 ^ 20:=by simp only [PyData.weight];omega
  unfold PyData.layable0;rw [e1,decide_eq_true e2,decide_eq_true e3];rfl
theorem u9 {ns:List Int} {k:Int} (h:ns.length<=1000) (hb:∀ x∈ns,0<=x/\x < 1000) (hk:k∈ns):jn (.list (ns.map .int)) (.int k)=.ok (.int (ns.idxOf k:Nat)):=by
  show (match bL (ns.map .int) with | some ns'=>if PyData.layable0 (.list (ns.map .int))=true/\k∈ns' then R.ok (PyData.int (ns'.idxOf k:Nat)) else .no | none=>.no)=_;rw [cy];exact if_pos ⟨zS h hb,hk⟩
noncomputable def Fj (p:P4):P4:=⟨p.w,p.m%2,p.g,p.ns⟩
theorem F7 {c:Int} {p:P4} (h:Pl c 12 p):Pl c 12 (Fj p):=⟨h.w0,h.w1,by show 0<=p.m%2;omega,by show p.m%2<=12;omega,h.g0,h.g1,h.ne,h.so,h.inn⟩
theorem BV {ps:List P4} (hp:ps.length<=1000) {ρ:aT} {i:Nat} (hi:af i ρ=.ok (gD ps)):e1 cD (bE (dA (af i)) 1 [] (aW 0) (fun _=>.ok true) (kr (ah (e2 bQ (af 0) (eC (.int 0))) (ah (e2 fy (e2 bQ (af 0) (eC (.int 1))) (eC (.int 2))) (ah (e2 bQ (af 0) (eC (.int 2))) (ah (e2 bQ (af 0) (eC (.int 3))) aG)))))) ρ=.ok (gD (ps.map Fj)):=by
  have s4:4<=sizeLine:=by decide
  have hc:=nJ (f:=(kr (ah (e2 bQ (af 0) (eC (.int 0))) (ah (e2 fy (e2 bQ (af 0) (eC (.int 1))) (eC (.int 2))) (ah (e2 bQ (af 0) (eC (.int 2))) (ah (e2 bQ (af 0) (eC (.int 3))) aG)))))) (ρ:=[]) (h:=fun p=>(Fj p).d) ps fun q _=>by
    simp only [k8,aD,aS,bz,bU,am,bY,R.ok_bind,kF,o4,Ai,jv,rN,if_pos (show (0:Int) < 2 by omega),List.length_cons,List.length_nil,Nat.zero_add,Nat.reduceAdd,if_pos s4];rfl
  rw [bU,bp,show ay 1 [] ρ=[.non] from rfl];simp only [bR,hi,R.ok_bind,cH,cn];rw [if_pos (bI (by rw [List.length_map];exact hp)),hc];show R.ok (PyData.tuple (ps.map fun p=>(Fj p).d))=.ok (.tuple ((ps.map Fj).map P4.d));rw [List.map_map];rfl
noncomputable def qB:Fs:=(pY (tE (e2 (ut) (e2 bQ (af 4) (af 6)) (e2 bQ (af 5) (rP (af 3) (af 7))))) (cM (eC (.bool false))) ff)
noncomputable abbrev qR (S:PyData) (ps sm:List P4) (ks:List Int) (win winS:Int->Int) (c6 c7:br):aT :=
  [.val S,.val (gD ps),.val (gD sm),.val (.list (ks.map .int)),.val (oT (fun i=>some (win i)) ps.length),.val (oT (fun i=>some (winS i)) sm.length),c6,c7]
theorem Av {S:PyData} {ps sm:List P4} {ks:List Int} {win winS L:Int->Int} (hk:ks.length<=1000) (hb:∀ x∈ks,0<=x/\x < 1000) (hm:∀ i∈ids ps.length,L i∈ks/\lM ks L i∈ids sm.length/\winS (lM ks L i)=win i):∀ (m k:Nat) (c6 c7:br),k+m<=ps.length ->
    ∃ c6' c7',fV (eA 6 7) qB (df k ((rT k m).map fun i=>.int (L i))) (qR S ps sm ks win winS c6 c7)=.ok (.nx (qR S ps sm ks win winS c6' c7'))
  | 0,k,c6,c7,_=>⟨c6,c7,by unfold rT;simp [df]⟩
  | m+1,k,c6,c7,h=>by
    obtain ⟨c6',c7',e⟩:=Av hk hb hm (S:=S) (ps:=ps) (sm:=sm) (win:=win) (winS:=winS) m (k+1) (.val (.int k)) (.val (.int (L k))) (by omega);refine ⟨c6',c7',?_⟩;have h0:(0:Int)<=(k:Int):=by omega
    have h1:(k:Int) < ps.length:=by omega
    obtain ⟨a1,a2,a3⟩:=hm k (aY.mpr ⟨h0,h1⟩);obtain ⟨b0,b1⟩:=aY.mp a2;have hix:=u9 hk hb a1;have hp:bQ (oT (fun i=>some (winS i)) sm.length) (.int ((ks.idxOf (L k):Nat):Int))=.ok (.int (win k)):=by
      have:=pE (f:=fun i=>oD (some (winS i))) b0 b1;rw [a3] at this;exact this
    have hw:bQ (oT (fun i=>some (win i)) ps.length) (.int k)=.ok (.int (win k)):=pE (f:=fun i=>oD (some (win i))) h0 h1;rw [oK,List.map_cons];rw [show df k (PyData.int (L k)::(rT (k+1) m).map fun i=>PyData.int (L i))=.tuple [.int k,.int (L k)]::df (k+1) ((rT (k+1) m).map fun i=>PyData.int (L i)) from rfl,xC];rw [show ((qR S ps sm ks win winS c6 c7).set 6 (.val (.int k))).set 7 (.val (.int (L k)))=qR S ps sm ks win winS (.val (.int k)) (.val (.int (L k))) from rfl];have hq:qB (qR S ps sm ks win winS (.val (.int k)) (.val (.int (L k))))=.ok (.nx (qR S ps sm ks win winS (.val (.int k)) (.val (.int (L k))))):=by
      unfold qB rP;rw [fF];simp only [cP,bz,am,ar,R.ok_bind,hw,zJ,hix,hp,FG,decide_true,Bool.not_true,cW];rfl
    rw [hq,R.ok_bind,eB,e]
theorem zR (c:Addr):zP (vQ c):=by
  intro ns hns;obtain ⟨ps0,hi,hgr,hpl0,hp1,hp24,hi0,hi12⟩:=vd ns (most:=24) (by omega) (by omega);obtain ⟨v1,hv1,v10,v11⟩:=oX ns (k:=1) (by omega);have hpl':∀ p∈ps0,Pl ps0.length 12 p:=fun p hp=>DB (hpl0 p hp) (by omega) hi12
  have hlp:∀ p∈ps0,p.ns.length<=100:=fun p hp=>by have:=(hpl' p hp).len;omega
  have l0:dg (gD ps0)=.ok (.int ps0.length):=by simp
  have key:∃ ps:List P4,(∀ p∈ps,Pl ps.length 12 p)/\(ps.length:Int)<=24/\1<=ps.length /\
      (pY (pB (tE (e2 (fj Dl) (e1 dg (af 1)) (eC (.int 12)))) (tE (e2 (jK) (e2 fy (aF bx (ah (af 0) (ah (eC (.int 1)) aG))) (eC (.int 2))) (eC (.int 0))))) (cf 1 (aF eo (ah (af 1) (ah (af 1) aG)))) (cf 1 (e1 cD (bE (dA (af 1)) 1 [] (aW 0) (fun _=>.ok true) (kr (ah (e2 bQ (af 0) (eC (.int 0))) (ah (e2 fy (e2 bQ (af 0) (eC (.int 1))) (eC (.int 2))) (ah (e2 bQ (af 0) (eC (.int 2))) (ah (e2 bQ (af 0) (eC (.int 3))) aG))))))))) [.val (sr ns),.val (gD ps0),.non,.non,.non,.non,.non,.non]=.ok (.nx [.val (sr ns),.val (gD ps),.non,.non,.non,.non,.non,.non]):=by
    have other:∃ ps:List P4,(∀ p∈ps,Pl ps.length 12 p)/\(ps.length:Int)<=24/\1<=ps.length/\(cf 1 (e1 cD (bE (dA (af 1)) 1 [] (aW 0) (fun _=>.ok true) (kr (ah (e2 bQ (af 0) (eC (.int 0))) (ah (e2 fy (e2 bQ (af 0) (eC (.int 1))) (eC (.int 2))) (ah (e2 bQ (af 0) (eC (.int 2))) (ah (e2 bQ (af 0) (eC (.int 3))) aG)))))))) [.val (sr ns),.val (gD ps0),.non,.non,.non,.non,.non,.non]=.ok (.nx [.val (sr ns),.val (gD ps),.non,.non,.non,.non,.non,.non]):=by
      refine ⟨ps0.map Fj,fun p hp=>?_,by rw [List.length_map];omega,by rw [List.length_map];exact hp1,?_⟩
      · obtain ⟨q,hq,rfl⟩:=List.mem_map.mp hp;rw [List.length_map];exact F7 (hpl' q hq)
      · rw [bD,BV (ps:=ps0) (by omega) (i:=1) rfl];rfl
    by_cases h12:(ps0.length:Int)<=12
    · by_cases hv:v1%2=0
      · have hbe:=xh (ps:=ps0) (qs:=ps0) (by omega) (by omega) hlp;rw [if_pos (by omega)] at hbe;have hlen2:(ps0++ps0.map (EW ps0.length)).length=ps0.length+ps0.length:=by rw [List.length_append,List.length_map]
        refine ⟨ps0++ps0.map (EW ps0.length),fun p hp=>?_,by rw [hlen2];omega,by rw [hlen2];omega,?_⟩
        · rw [hlen2];rcases List.mem_append.mp hp with z | z
          · exact DB (hpl' p z) (by omega) (by omega)
          · obtain ⟨q,hq,rfl⟩:=List.mem_map.mp z;exact GM (hpl' q hq) (by omega) (by omega) (by omega)
        · rw [fF,lH,cP,bz,bU];simp only [cP,bz,am,ar,bY,R.ok_bind,l0,iB,cW];rw [show Dl (ps0.length:Int) 12=true from decide_eq_true h12,if_pos rfl];simp only [aP,aD,aS,am,bY,R.ok_bind,hv1,rN,if_pos (show (0:Int) < 2 by omega),fZ,hv,decide_true,cW,if_true];rw [bD,aP,aD,ar,am,R.ok_bind,aD,ar,am,R.ok_bind,aS,R.ok_bind,R.ok_bind,R.ok_bind,hbe];rfl
      · obtain ⟨ps,a,b,c',d⟩:=other;refine ⟨ps,a,b,c',?_⟩;rw [<- d,fF,lH,cP,bz,bU];simp only [cP,bz,am,ar,bY,R.ok_bind,l0,iB,cW];rw [show Dl (ps0.length:Int) 12=true from decide_eq_true h12,if_pos rfl];simp only [aP,aD,aS,am,bY,R.ok_bind,hv1,rN,if_pos (show (0:Int) < 2 by omega),fZ,decide_eq_false hv,cW,Bool.false_eq_true,if_false]
    · obtain ⟨ps,a,b,c',d⟩:=other;refine ⟨ps,a,b,c',?_⟩;rw [<- d,fF,lH,cP,bz,bU];simp only [cP,bz,am,ar,bY,R.ok_bind,l0,iB,cW];rw [show Dl (ps0.length:Int) 12=false from decide_eq_false h12];rfl
  obtain ⟨ps,hpl,h24,h1,hif⟩:=key;obtain ⟨L,hlk,I,hs⟩:=mI hpl h24;have hfo:=qm hpl h24 h1 I hlk;have sl:=Du hpl h24 h1 I;have sle:=GO hpl h24 h1 I;obtain ⟨Ls,hlk2,J,ht⟩:=mI sl (by omega);have hid:=GN hpl h24 h1 I hs J ht;have hfo2:=qm sl (by omega) (IE hpl h24 h1 I) J hlk2;rw [AK sl hid] at hfo2;obtain ⟨win,mv,hwon,B⟩:=DD hpl h24 c;obtain ⟨winS,mvS,hwonS,A⟩:=DD sl (by omega) c;have hw:=EY hpl h24 h1 I hs A B;have hks:=(gJ hpl h24 h1 I).len;have hmem:∀ i∈ids ps.length,L i∈fH L ps.length/\lM (fH L ps.length) L i∈ids (mn ps L).length/\winS (lM (fH L ps.length) L i)=win i:=fun i hi'=>⟨(ky hpl h24 h1 I).mpr ⟨i,hi',rfl⟩,(mQ hpl h24 h1 I hi').1,hw i hi'⟩
  have hsl:=kL hpl h24 h1 I;have hss:=GP (ms:=(ids ps.length).map L) (by rw [List.length_map,eD];omega);rw [<- lu] at hss;obtain ⟨c6,c7,hloop⟩:=Av (S:=sr ns) (ps:=ps) (sm:=mn ps L) (ks:=fH L ps.length) (win:=win) (winS:=winS) (L:=L) (by omega) (fun x hx=>by have:=(gJ hpl h24 h1 I).inn x hx;omega) hmem ps.length 0 .non .non (by omega);rw [lg] at hloop;generalize hsm:mn ps L=sm at *;have dx:∀ (f:Int->Option Int) (n:Nat) (e:PyData),bQ (.tuple [oT f n,e]) (.int 0)=.ok (oT f n):=fun f n e=>rfl
  have hsame:=zm (BI sm) (D5 sm);have ls1:dg (gD sm)=.ok (.int sm.length):=by simp
  have ls2:dg (.list ((fH L ps.length).map .int))=.ok (.int (fH L ps.length).length):=by simp
  unfold vQ yK;refine dZ ?_;rw [show ([sr ns].map br.val++List.replicate (8 - [sr ns].length) br.non)=[.val (sr ns),.non,.non,.non,.non,.non,.non,.non] from rfl];rw [bg (ρ':=[.val (sr ns),.val (gD ps0),.non,.non,.non,.non,.non,.non]) (by
    simp only [bD,aP,aD,aS,am,bY,R.ok_bind,hgr];rfl)]
  rw [bg (ρ':=[.val (sr ns),.val (gD ps),.non,.non,.non,.non,.non,.non]) hif];rw [bg (ρ':=[.val (sr ns),.val (gD ps),.val (gD sm),.non,.non,.non,.non,.non]) (by
    rw [bD,aP,aD,ar,am,R.ok_bind,aS,R.ok_bind,R.ok_bind,hfo];rfl)]
  rw [bg (ρ':=[.val (sr ns),.val (gD ps),.val (gD sm),.val (.list ((fH L ps.length).map .int)),.non,.non,.non,.non]) (by
    rw [bD,bU,aP,aD,ar,am,R.ok_bind,aS,R.ok_bind,R.ok_bind,hlk,R.ok_bind,hss];rfl)]
  rw [bg (ρ':=[.val (sr ns),.val (gD ps),.val (gD sm),.val (.list ((fH L ps.length).map .int)),.val (oT (fun i=>some (win i)) ps.length),.non,.non,.non]) (by
    rw [bD,bz,aP,aD,ar,am,R.ok_bind,aS,R.ok_bind,R.ok_bind,hwon,R.ok_bind,bY,R.ok_bind,dx];rfl)]
  rw [bg (ρ':=qR (sr ns) ps sm (fH L ps.length) win winS .non .non) (by
    rw [bD,bz,aP,aD,ar,ar,am,R.ok_bind,aS,R.ok_bind,R.ok_bind,hwonS,R.ok_bind,bY,R.ok_bind,dx];rfl)]
  rw [bg (ρ':=qR (sr ns) ps sm (fH L ps.length) win winS c6 c7) (by
    rw [gi,gO,jr,aP,aD,ar,am,R.ok_bind,aS,R.ok_bind,R.ok_bind,hlk,R.ok_bind,cH,R.ok_bind,R.ok_bind];unfold qB at hloop;rw [show tab (fun i=>PyData.int (L i)) ps.length=(ids ps.length).map fun i=>PyData.int (L i) from rfl,hloop];rfl)]
  rw [cq,Bz,bz,aP,aD,ar,ar,am,R.ok_bind,aS,R.ok_bind,R.ok_bind,hfo2,R.ok_bind,R.ok_bind,hsame,R.ok_bind,cW,R.ok_bind,if_pos rfl];simp only [bz,bU,ar,am,R.ok_bind,ls1,ls2,fZ,hsl,decide_true]
noncomputable def FE:List Stmt:=PySem.Challenge.pw_duelground_k81_whole_folded.main.body
noncomputable abbrev top (i:Nat):Stmt:=FE.getD i (.Pass ⟨0,0,0,0⟩)
noncomputable abbrev gZ:Stmt:=top 44
noncomputable abbrev jB:Stmt:=top 45
noncomputable abbrev jy:Stmt:=top 46
noncomputable abbrev jA:Stmt:=top 47
noncomputable abbrev jC:Stmt:=top 48
noncomputable abbrev gk:Stmt:=top 49
noncomputable abbrev iS:Stmt:=top 25
noncomputable abbrev lB:Stmt:=top 26
noncomputable abbrev fK:Stmt:=top 30
noncomputable abbrev dX:Stmt:=top 31
noncomputable abbrev gC:Stmt:=top 32
noncomputable abbrev kK:Stmt:=top 10
noncomputable abbrev iP:Stmt:=top 11
noncomputable abbrev kJ:Stmt:=top 12
noncomputable abbrev lC:Stmt:=top 16
noncomputable abbrev gj:Stmt:=top 27
noncomputable abbrev eE:Stmt:=top 18
noncomputable abbrev jT:Stmt:=top 28
noncomputable abbrev lD:Stmt:=top 33
noncomputable abbrev iO:Stmt:=top 15
noncomputable abbrev iQ:Stmt:=top 21
noncomputable abbrev eF:Stmt:=top 20
noncomputable abbrev lE:Stmt:=top 37
noncomputable abbrev dG:Stmt:=top 38
noncomputable abbrev gP:Stmt:=top 35
noncomputable abbrev eJ:Stmt:=top 36
noncomputable abbrev iR:Stmt:=top 19
noncomputable abbrev fX:Stmt:=top 22
noncomputable abbrev jU:Stmt:=top 17
noncomputable abbrev cN:Stmt:=top 40
noncomputable abbrev dh:Stmt:=top 23
noncomputable abbrev fG:Stmt:=top 41
noncomputable abbrev AF:Stmt:=top 42
noncomputable abbrev j9:Stmt:=top 51
section
variable {P:Program} {w:World} {K:PySem.W.Frag} {mg:Str->Option Value} {base:Heap} {f:Addr} {fd:FuncData} {k:Nat}
noncomputable abbrev jS:Stmt:=BM (top 14) 0
theorem Bf:aX ["self","who","places","moves"] ["self","who","places","moves"] (aj jS):=⟨rfl,rfl,rfl,by decide +kernel,rfl,by decide +kernel,by decide +kernel⟩
theorem Bc {P:Program} {w:World} {K:PySem.W.Frag} {mg:Str->Option Value} {base:Heap} {f C:Addr} {fd:FuncData} (F:gp K "__init__" "Share.__init__" jS f fd) (cl:yD K C) (n0:eh K C "who") (n1:eh K C "places") (n2:eh K C "moves") :
    bi P w K mg base (cQ P w mg) 1 f fd ["self","who","places","moves"] (HI C ["who","places","moves"]):=by
  obtain ⟨oc,od,kV,doc,pm,an,cdv,ct,osl,rfl,lk,hcd⟩:=F.ex;refine zB (k:=0) lk hcd Bf (fun vs H Q E h=>?_) fun A outer s H vs Q E hr h=>?_
  · obtain ⟨x,dx,ws,rfl,_,hl,_⟩:=h;rw [List.length_cons,hl];rfl
  · obtain ⟨x,dx,ws,rfl,hx,hl,k⟩:=h;obtain ⟨w1,r0,rfl,q0⟩:=D2.ju hl;obtain ⟨w2,r1,rfl,q1⟩:=D2.ju q0;obtain ⟨w3,r2,rfl,q2⟩:=D2.ju q1;obtain rfl:=List.eq_nil_of_length_eq_zero q2;refine ⟨_,o9 (vo (pv 0) (pv 1) rfl) (o9 (vo (pv 0) (pv 2) rfl) (wG (vo (pv 0) (pv 3) rfl))),?_⟩;refine ⟨_,rfl,_,rfl,x,C,dx,[],rfl,hx,cl,n0,(by show 0 < 1000;decide),_,rfl,_,rfl,x,C,dx,_,rfl,bq,cl,n1,(by show 1 < 1000;decide),_,rfl,_,rfl,x,C,dx,_,rfl,bq,cl,n2,(by refine Nat.lt_of_le_of_lt (gL _ _ _) ?_;exact Nat.lt_of_le_of_lt (Nat.succ_le_succ (gL _ _ _)) (by show 2 < 1000;decide)),?_⟩;refine k _ (by rw [bq,Gv (by decide +kernel) (by decide +kernel) (by decide +kernel)];rfl) fun b hb=>?_
    rw [aA hb,aA hb,aA hb]
theorem pO:aX ["_law_script","_law_k"] ["_law_script","_law_k"] (aj gZ):=⟨rfl,rfl,rfl,by decide +kernel,rfl,by decide +kernel,by decide +kernel⟩
theorem pM (W:gp K "_law_cell_at" "_law_cell_at" gZ f fd) (b_len:mg "len" = none) :
    bi P w K mg base (cQ P w mg) (k+1) f fd ["_law_script","_law_k"] (dt (dF 2 (gV)) 2):=by
  refine aH W pO (G:=["len"]) (by decide +kernel) fun cdv A outer s H E hr T=>?_
  exact (ao (dU (yY (ae (aa T 1 rfl)) (ae (cs T 0 rfl b_len (ae (aa T 0 rfl))))) (aw (aQ (aN T.hu (ae (aa T 0 rfl)) (ae (aa T 1 rfl)) (fun _ _=>rfl)))) dD)
      (aw (aQ ak)))
theorem sO:aX ["_law_script","_law_k","_law_drawn_here"] ["_law_script","_law_k"] (aj jB):=⟨rfl,rfl,rfl,by decide +kernel,rfl,by decide +kernel,by decide +kernel⟩
theorem sG (W:gp K "_law_mixed" "_law_mixed" jB f fd) {f27:Addr} {d27:FuncData} {cv:gc} (C27:gn P w K mg base k "_law_cell_at" ["_law_script","_law_k"] cv f27 d27) :
    bi P w K mg base (cQ P w mg) (k+1) f fd ["_law_script","_law_k"] (dt (dF 3 (je cv)) 2):=by
  refine aH W sO (G:=["_law_cell_at"]) (by decide +kernel) fun cdv A outer s H E hr T=>?_
  exact (ao (aR T 2 rfl (cx (ae (eS (ae (cw (ae (cw (ae (az C27 hr T 0 rfl (ag (aa T 0 rfl) (ag (aa T 1 rfl) ap)) rfl (ai (ai av)))) (ae (eS (ae ak) (ae (aa T 1 rfl)))))) (ae ak))) (ae ak))) (ae ak)))
      (aw (aQ (cx (ae (cw (ae (cw (ae (eS (ae (aa T 2 rfl)) (ae (aa T 2 rfl)))) (ae (eS (ae ak) (ae (aa T 2 rfl)))))) (ae (aa T 1 rfl)))) (ae ak)))))
theorem sM:aX ["_law_number","_law_k","_law_drawn_here"] ["_law_number","_law_k"] (aj jy):=⟨rfl,rfl,rfl,by decide +kernel,rfl,by decide +kernel,by decide +kernel⟩
theorem sE (W:gp K "_law_drawn" "_law_drawn" jy f fd) :
    bi P w K mg base (cQ P w mg) (k+1) f fd ["_law_number","_law_k"] (dt (dF 3 (jc)) 2):=by
  refine aH W sM (G:=[]) (by decide +kernel) fun cdv A outer s H E hr T=>?_
  exact (ao (aR T 2 rfl (cx (ae (eS (ae (cw (ae (cw (ae (aa T 0 rfl)) (ae (eS (ae ak) (ae (aa T 1 rfl)))))) (ae ak))) (ae ak))) (ae ak)))
      (aw (aQ (cx (ae (cw (ae (cw (ae (eS (ae (aa T 2 rfl)) (ae (aa T 2 rfl)))) (ae (eS (ae ak) (ae (aa T 2 rfl)))))) (ae (aa T 1 rfl)))) (ae ak)))))
theorem sN:aX ["_law_number","_law_count","_law_found","_law_k"] ["_law_number","_law_count"] (aj jA):=⟨rfl,rfl,rfl,by decide +kernel,rfl,by decide +kernel,by decide +kernel⟩
theorem sF (W:gp K "_law_goals" "_law_goals" jA f fd) {f29:Addr} {d29:FuncData} {bJ:gc} (C29:gn P w K mg base k "_law_drawn" ["_law_number","_law_k"] bJ f29 d29) (b_int:mg "int" = none) (b_range:mg "range" = none) (b_sorted:mg "sorted" = none) (b_tuple:mg "tuple" = none) :
    bi P w K mg base (cQ P w mg) (k+1) f fd ["_law_number","_law_count"] (dt (dF 4 (jd bJ)) 2):=by
  refine aH W sN (G:=["range","int","_law_drawn","tuple","sorted"]) (by decide +kernel) fun cdv A outer s H E hr T=>?_
  exact (ao (kP T 2 rfl sZ)
      (ao (dj (have T:=T.nox;fN PassesOwn.never T.calm (jh T 0 rfl b_range (ag (cw (ae (cw (ae ak) (ae (cx (ae (aa T 0 rfl)) (ae ak))))) (ae (eS (ae ak) (ae (w9 T 1 rfl b_int (ae (nD T.hu (ae (cx (ae (hW (ae (aa T 0 rfl)) (ae ak))) (ae ak))) (ae ak)))))))) ap) (ai av)) (aV T 3 rfl) (aw (yS T 2 rfl (cx (ae (az C29 hr T 2 rfl (ag (aa T 0 rfl) (ag (aa T 3 rfl) ap)) rfl (ai (ai av)))) (ae (aa T 1 rfl))) hV))))
      (aw (aQ (bC T 3 rfl b_tuple (cG (rz T 4 rfl b_sorted (fx T 2 rfl))))))))
theorem sP:aX ["_law_number","_law_count","_law_high","_law_gain"] ["_law_number","_law_count","_law_high"] (aj jC):=⟨rfl,rfl,rfl,by decide +kernel,rfl,by decide +kernel,by decide +kernel⟩
theorem sI (W:gp K "_law_place" "_law_place" jC f fd) {f29:Addr} {d29:FuncData} {bJ:gc} (C29:gn P w K mg base k "_law_drawn" ["_law_number","_law_k"] bJ f29 d29) {f30:Addr} {d30:FuncData} {cV:gc} (C30:gn P w K mg base k "_law_goals" ["_law_number","_law_count"] cV f30 d30) :
    bi P w K mg base (cQ P w mg) (k+1) f fd ["_law_number","_law_count","_law_high"] (dt (dF 4 (jf bJ cV)) 3):=by
  refine aH W sP (G:=["_law_goals","_law_drawn"]) (by decide +kernel) fun cdv A outer s H E hr T=>?_
  exact (ao (aR T 3 rfl (ji (ae (cx (ae (hW (ae (aa T 0 rfl)) (ae ak))) (ae ak))) (ae ak)))
      (ao (dU (ez T.hu (ae (cx (ae (hW (ae (aa T 0 rfl)) (ae ak))) (ae ak))) (ae ak)) (aw (aR T 3 rfl (ji (ae (cx (ae (hW (ae (aa T 0 rfl)) (ae ak))) (ae ak))) (ae ak)))) dD)
      (aw (aQ (hZ (ag (cx (ae (aa T 0 rfl)) (ae ak)) (ag (cx (ae (hW (ae (aa T 0 rfl)) (ae ak))) (ae (cw (ae (aa T 2 rfl)) (ae ak)))) (ag (aa T 3 rfl) (ag (az C30 hr T 0 rfl (ag (az C29 hr T 1 rfl (ag (aa T 0 rfl) (ag ak ap)) rfl (ai (ai av))) (ag (aa T 1 rfl) ap)) rfl (ai (ai av))) ap)))))))))
theorem rj:aX ["_law_script","_law_most","_law_number","_law_count","_law_high"] ["_law_script","_law_most"] (aj gk):=⟨rfl,rfl,rfl,by decide +kernel,rfl,by decide +kernel,by decide +kernel⟩
theorem qW (W:gp K "_law_ground" "_law_ground" gk f fd) {f28:Addr} {d28:FuncData} {bx:gc} (C28:gn P w K mg base k "_law_mixed" ["_law_script","_law_k"] bx f28 d28) {f31:Addr} {d31:FuncData} {cJ:gc} (C31:gn P w K mg base k "_law_place" ["_law_number","_law_count","_law_high"] cJ f31 d31) (b_len:mg "len" = none) (b_max:mg "max" = none) (b_min:mg "min" = none) (b_range:mg "range" = none) (b_tuple:mg "tuple" = none) :
    bi P w K mg base (cQ P w mg) (k+1) f fd ["_law_script","_law_most"] (dt (dF 5 (iw bx cJ)) 2):=by
  refine aH W rj (G:=["_law_mixed","min","max","len","tuple","range"]) (by decide +kernel) fun cdv A outer s H E hr T=>?_
  exact (ao (aR T 2 rfl (az C28 hr T 0 rfl (ag (aa T 0 rfl) (ag ak ap)) rfl (ai (ai av))))
      (ao (aR T 3 rfl (cw (ae ak) (ae (cx (ae (aa T 2 rfl)) (ae (yV T 1 rfl b_min (ae (aa T 1 rfl)) (ae (yU T 2 rfl b_max (ae ak) (ae (cs T 3 rfl b_len (ae (aa T 0 rfl))))))))))))
      (ao (aR T 4 rfl (aN T.hu (cG (p8 (ag ak (ag ak (ag ak (ag ak (ag ak (ag ak ap)))))))) (ae (cx (ae (hW (ae (aa T 2 rfl)) (ae ak))) (ae ak))) (fun _ _=>rfl)))
      (aw (aQ (bC T 4 rfl b_tuple (cG (bj (N:=["_law_k","_law_script","_law_count","_law_high"]) (own:=1) (G:=["_law_place","_law_mixed"]) (fr:=[0,3,4]) T rfl rfl (oN:=["_law_script","_law_most","_law_number","_law_count","_law_high"]) (on:=(aj gk).names) (by decide +kernel) (jh T 5 rfl b_range (ag (aa T 3 rfl) ap) (ai av)) (bu (by decide)) (fun cl C s' H' fp E' T=>⟨(aV T 0 rfl),ci,(az C31 hr T 0 rfl (ag (az C28 hr T 1 rfl (ag (aa T 1 rfl) (ag (cw (ae ak) (ae (aa T 0 rfl))) ap)) rfl (ai (ai av))) (ag (aa T 2 rfl) (ag (aa T 3 rfl) ap))) rfl (ai (ai (ai av))))⟩)))))))))
theorem rl:aX ["place","goals"] ["place","goals"] (aj iS):=⟨rfl,rfl,rfl,by decide +kernel,rfl,by decide +kernel,by decide +kernel⟩
theorem qX (W:gp K "with_goals" "with_goals" iS f fd) {t_GAIN:Tok} (g_GAIN:mg "GAIN" = some (.int 2 t_GAIN)) {t_MARK:Tok} (g_MARK:mg "MARK" = some (.int 1 t_MARK)) {t_WHO:Tok} (g_WHO:mg "WHO" = some (.int 0 t_WHO)) (b_tuple:mg "tuple" = none) :
    bi P w K mg base (cQ P w mg) (k+1) f fd ["place","goals"] (dt (dF 2 (ix)) 2):=by
  refine aH W rl (G:=["WHO","MARK","GAIN","tuple"]) (by decide +kernel) fun cdv A outer s H E hr T=>?_
  exact (aw (aQ (hZ (ag (aN T.hu (ae (aa T 0 rfl)) (ae (bW T 0 rfl g_WHO)) (fun _ _=>rfl)) (ag (aN T.hu (ae (aa T 0 rfl)) (ae (bW T 1 rfl g_MARK)) (fun _ _=>rfl)) (ag (aN T.hu (ae (aa T 0 rfl)) (ae (bW T 2 rfl g_GAIN)) (fun _ _=>rfl)) (ag (bC T 3 rfl b_tuple (ae (aa T 1 rfl))) ap)))))))
theorem yN:aX ["one","other","count"] ["one","other"] (aj lB):=⟨rfl,rfl,rfl,by decide +kernel,rfl,by decide +kernel,by decide +kernel⟩
theorem yG (W:gp K "beside" "beside" lB f fd) {f12:Addr} {d12:FuncData} {aI:gc} (C12:gn P w K mg base k "with_goals" ["place","goals"] aI f12 d12) {t_GOALS:Tok} (g_GOALS:mg "GOALS" = some (.int 3 t_GOALS)) {t_MOST_PLACES:Tok} (g_MOST_PLACES:mg "MOST_PLACES" = some (.int 24 t_MOST_PLACES)) (b_len:mg "len" = none) (b_tuple:mg "tuple" = none) {c_NoRoom:Addr} (m_NoRoom:mg "NoRoom" = some (.ref c_NoRoom)) (q_NoRoom:PySem.W.excIn K c_NoRoom DS De=true) :
    bi P w K mg base (cQ P w mg) (k+1) f fd ["one","other"] (dt (dF 3 (nP aI)) 2):=by
  refine aH W yN (G:=["len","MOST_PLACES","NoRoom","tuple"]) (by decide +kernel) fun cdv A outer s H E hr T=>?_
  exact (ao (aR T 2 rfl (cs T 0 rfl b_len (ae (aa T 0 rfl))))
      (ao (dU (kR (ae (cw (ae (aa T 2 rfl)) (ae (cs T 0 rfl b_len (ae (aa T 1 rfl)))))) (ae (bW T 1 rfl g_MOST_PLACES))) (aw (kh T 2 rfl m_NoRoom q_NoRoom (have T:=T.nox;nZ))) dD)
      (aw (aQ (cw (ae (aa T 0 rfl)) (ae (bC T 3 rfl b_tuple (cG (sY (N:=["place","count"]) (own:=1) (G:=["with_goals","GOALS"]) (fr:=[2]) T rfl rfl (oN:=["one","other","count"]) (on:=(aj lB).names) (by decide +kernel) (bw (aa T 1 rfl)) (bu (by decide)) (fun cl C s' H' fp E' T cap=>⟨(aV T 0 rfl),ci,(az C12 hr T 0 rfl (ag (aa T 0 rfl) (ag (gF (sX (N:=["goal","count"]) (own:=1) (G:=[]) (fr:=[1]) T rfl cap (oN:=["place","count"]) (k:=1) (by decide +kernel) (bw (aN T.hu (ae (aa T 0 rfl)) (ae (bW T 1 rfl g_GOALS)) (fun _ _=>rfl))) (bu (by decide)) (fun cl C s' H' fp E' T=>⟨(aV T 0 rfl),ci,(cw (ae (aa T 0 rfl)) (ae (aa T 1 rfl)))⟩))) ap)) rfl (ai (ai av)))⟩))))))))))
theorem pN:aX ["signs"] ["signs"] (aj fK):=⟨rfl,rfl,rfl,by decide +kernel,rfl,by decide +kernel,by decide +kernel⟩
theorem pL (W:gp K "first_alike" "first_alike" fK f fd) (b_tuple:mg "tuple" = none) :
    bi P w K mg base (cQ P w mg) (k+1) f fd ["signs"] (dt (dF 1 (gU)) 1):=by
  refine aH W pN (G:=["tuple"]) (by decide +kernel) fun cdv A outer s H E hr T=>?_
  exact (aw (aQ (bC T 0 rfl b_tuple (cG (bj (N:=["sign","signs"]) (own:=1) (G:=[]) (fr:=[0]) T rfl rfl (oN:=["signs"]) (on:=(aj fK).names) (by decide +kernel) (bw (aa T 0 rfl)) (bu (by decide)) (fun cl C s' H' fp E' T=>⟨(aV T 0 rfl),ci,(sU T.hu (ae (aa T 1 rfl)) (aa T 0 rfl))⟩))))))
theorem lW:aX ["place","like"] ["place","like"] (aj dX):=⟨rfl,rfl,rfl,by decide +kernel,rfl,by decide +kernel,by decide +kernel⟩
theorem lN (W:gp K "likes_of_goals" "likes_of_goals" dX f fd) {t_GOALS:Tok} (g_GOALS:mg "GOALS" = some (.int 3 t_GOALS)) (b_set:mg "set" = none) (b_sorted:mg "sorted" = none) :
    bi P w K mg base (cQ P w mg) (k+1) f fd ["place","like"] (dt (dF 2 (fu)) 2):=by
  refine aH W lW (G:=["sorted","set","GOALS"]) (by decide +kernel) fun cdv A outer s H E hr T=>?_
  exact (aw (aQ (gF (n5 T 0 1 rfl b_sorted rfl b_set (cG (bj (N:=["goal","like"]) (own:=1) (G:=[]) (fr:=[1]) T rfl rfl (oN:=["place","like"]) (on:=(aj dX).names) (by decide +kernel) (bw (aN T.hu (ae (aa T 0 rfl)) (ae (bW T 2 rfl g_GOALS)) (fun _ _=>rfl))) (bu (by decide)) (fun cl C s' H' fp E' T=>⟨(aV T 0 rfl),ci,(aN T.hu (ae (aa T 1 rfl)) (ae (aa T 0 rfl)) (fun _ _=>rfl))⟩)))))))
theorem uJ:aX ["ground","like","finer"] ["ground"] (aj gC):=⟨rfl,rfl,rfl,by decide +kernel,rfl,by decide +kernel,by decide +kernel⟩
theorem uy (W:gp K "likeness" "likeness" gC f fd) {f16:Addr} {d16:FuncData} {bX:gc} (C16:gn P w K mg base k "first_alike" ["signs"] bX f16 d16) {f17:Addr} {d17:FuncData} {aJ:gc} (C17:gn P w K mg base k "likes_of_goals" ["place","like"] aJ f17 d17) {t_MARK:Tok} (g_MARK:mg "MARK" = some (.int 1 t_MARK)) {t_WHO:Tok} (g_WHO:mg "WHO" = some (.int 0 t_WHO)) (b_enumerate:mg "enumerate" = none) :
    bi P w K mg base (cQ P w mg) (k+1) f fd ["ground"] (dt (dF 3 (kc bX aJ)) 1):=by
  refine aH W uJ (G:=["first_alike","enumerate"]) (by decide +kernel) fun cdv A outer s H E hr T=>?_
  exact (ao (aR T 1 rfl dI)
      (ao (aR T 2 rfl (az C16 hr T 0 rfl (ag (gF (bj (N:=["place"]) (own:=1) (G:=["WHO","MARK"]) (fr:=[]) T rfl rfl (oN:=["ground","like","finer"]) (on:=(aj gC).names) (by decide +kernel) (bw (aa T 0 rfl)) (bu (by decide)) (fun cl C s' H' fp E' T=>⟨(aV T 0 rfl),ci,(hZ (ag (aN T.hu (ae (aa T 0 rfl)) (ae (bW T 0 rfl g_WHO)) (fun _ _=>rfl)) (ag (aN T.hu (ae (aa T 0 rfl)) (ae (bW T 1 rfl g_MARK)) (fun _ _=>rfl)) ap)))⟩))) ap) rfl (ai av)))
      (ao (dj (have T:=T.nox;ki 1000000 PassesOwn.never (s9 T.hu (ae (aa T 2 rfl)) (ae (aa T 1 rfl))) (ao (aR T 1 rfl (aa T 2 rfl))
      (aw (aR T 2 rfl (az C16 hr T 0 rfl (ag (gF (bj (N:=["number","place","like"]) (own:=2) (G:=["likes_of_goals"]) (fr:=[1]) T rfl rfl (oN:=["ground","like","finer"]) (on:=(aj gC).names) (by decide +kernel) (hU T 1 rfl b_enumerate (aa T 0 rfl)) (h9 (by decide) (by decide)) (fun cl C s' H' fp E' T=>⟨(gq T 0 1 rfl rfl),ci,(hZ (ag (aN T.hu (ae (aa T 2 rfl)) (ae (aa T 0 rfl)) (fun _ _=>rfl)) (ag (az C17 hr T 0 rfl (ag (aa T 1 rfl) (ag (aa T 2 rfl) ap)) rfl (ai (ai av))) ap)))⟩))) ap) rfl (ai av)))))))
      (aw (aQ (aa T 1 rfl))))))
theorem uI:aX ["thing"] ["thing"] (aj kK):=⟨rfl,rfl,rfl,by decide +kernel,rfl,by decide +kernel,by decide +kernel⟩
theorem ux (W:gp K "is_whole" "is_whole" kK f fd) (b_bool:mg "bool" = none) (b_int:mg "int" = none) (b_isinstance:mg "isinstance" = none) :
    bi P w K mg base (cQ P w mg) (k+1) f fd ["thing"] (dt (dF 1 (nS)) 1):=by
  refine aH W uI (G:=["isinstance","int","bool"]) (by decide +kernel) fun cdv A outer s H E hr T=>?_
  exact (aw (aQ (nW (rq T 0 rfl b_isinstance T 1 rfl b_int (ae (aa T 0 rfl))) (nY (yW (pP T 0 rfl b_isinstance T 2 rfl b_bool (ae (aa T 0 rfl))))))))
theorem rh:aX ["thing","low","high"] ["thing","low","high"] (aj iP):=⟨rfl,rfl,rfl,by decide +kernel,rfl,by decide +kernel,by decide +kernel⟩
theorem qV (W:gp K "is_between" "is_between" iP f fd) {f0:Addr} {d0:FuncData} {dO:gc} (C0:gn P w K mg base k "is_whole" ["thing"] dO f0 d0) :
    bi P w K mg base (cQ P w mg) (k+1) f fd ["thing","low","high"] (dt (dF 3 (iu dO)) 3):=by
  refine aH W rh (G:=["is_whole"]) (by decide +kernel) fun cdv A outer s H E hr T=>?_
  exact (aw (aQ (nW (az C0 hr T 0 rfl (ag (aa T 0 rfl) ap) rfl (ai av)) (nY (uQ Ag mw Ag mw (ae (aa T 1 rfl)) (ae (aa T 0 rfl)) (ae (aa T 2 rfl)))))))
theorem uH:aX ["thing","count","least","number"] ["thing","count"] (aj kJ):=⟨rfl,rfl,rfl,by decide +kernel,rfl,by decide +kernel,by decide +kernel⟩
theorem uw (W:gp K "are_some" "are_some" kJ f fd) {f1:Addr} {d1:FuncData} {cu:gc} (C1:gn P w K mg base k "is_between" ["thing","low","high"] cu f1 d1) (b_isinstance:mg "isinstance" = none) (b_tuple:mg "tuple" = none) :
    bi P w K mg base (cQ P w mg) (k+1) f fd ["thing","count"] (dt (dF 4 (kb cu)) 2):=by
  refine aH W uH (G:=["isinstance","tuple","is_between"]) (by decide +kernel) fun cdv A outer s H E hr T=>?_
  exact (ao (dU (jH (h7 (nX T 0 rfl b_isinstance T 1 rfl b_tuple (ae (aa T 0 rfl))))) (aw (aQ hV)) dD)
      (ao (aR T 2 rfl ak)
      (ao (dj (have T:=T.nox;fN PassesOwn.never T.calm (bw (aa T 0 rfl)) (aV T 3 rfl) (ao (dU (jH (h7 (az C1 hr T 2 rfl (ag (aa T 3 rfl) (ag (aa T 2 rfl) (ag (ji (ae (aa T 1 rfl)) (ae ak)) ap))) rfl (ai (ai (ai av)))))) (aw (aQ hV)) dD)
      (aw (aR T 2 rfl (cw (ae (aa T 3 rfl)) (ae ak)))))))
      (aw (aQ hV)))))
theorem yO:aX ["some","others"] ["some","others"] (aj lC):=⟨rfl,rfl,rfl,by decide +kernel,rfl,by decide +kernel,by decide +kernel⟩
theorem yH (W:gp K "common" "common" lC f fd) (b_tuple:mg "tuple" = none) :
    bi P w K mg base (cQ P w mg) (k+1) f fd ["some","others"] (dt (dF 2 (nQ)) 2):=by
  refine aH W yO (G:=["tuple"]) (by decide +kernel) fun cdv A outer s H E hr T=>?_
  exact (aw (aQ (bC T 0 rfl b_tuple (cG (bj (N:=["number","others"]) (own:=1) (G:=[]) (fr:=[1]) T rfl rfl (oN:=["some","others"]) (on:=(aj lC).names) (by decide +kernel) (bw (aa T 0 rfl)) (bu (by decide)) (fun cl C s' H' fp E' T=>⟨(aV T 0 rfl),(eR (n6 T.hu (ae (aa T 0 rfl)) (ae (aa T 1 rfl)) (by with_unfolding_all rfl))),(aa T 0 rfl)⟩))))))
theorem rg:aX ["place","inside"] ["place","inside"] (aj gj):=⟨rfl,rfl,rfl,by decide +kernel,rfl,by decide +kernel,by decide +kernel⟩
theorem qU (W:gp K "goals_anew" "goals_anew" gj f fd) {f4:Addr} {d4:FuncData} {bh:gc} (C4:gn P w K mg base k "common" ["some","others"] bh f4 d4) {t_GOALS:Tok} (g_GOALS:mg "GOALS" = some (.int 3 t_GOALS)) :
    bi P w K mg base (cQ P w mg) (k+1) f fd ["place","inside"] (dt (dF 2 (ir bh)) 2):=by
  refine aH W rg (G:=["common","GOALS"]) (by decide +kernel) fun cdv A outer s H E hr T=>?_
  exact (aw (aQ (gF (bj (N:=["goal","inside"]) (own:=1) (G:=[]) (fr:=[1]) T rfl rfl (oN:=["place","inside"]) (on:=(aj gj).names) (by decide +kernel) (bw (az C4 hr T 0 rfl (ag (aN T.hu (ae (aa T 0 rfl)) (ae (bW T 1 rfl g_GOALS)) (fun _ _=>rfl)) (ag (aa T 1 rfl) ap)) rfl (ai (ai av)))) (bu (by decide)) (fun cl C s' H' fp E' T=>⟨(aV T 0 rfl),ci,(sV (ae (aa T 1 rfl)) (aa T 0 rfl))⟩)))))
theorem ni:aX ["ground","inside"] ["ground","inside"] (aj eE):=⟨rfl,rfl,rfl,by decide +kernel,rfl,by decide +kernel,by decide +kernel⟩
theorem mW (W:gp K "is_whole_part" "is_whole_part" eE f fd) {f4:Addr} {d4:FuncData} {bh:gc} (C4:gn P w K mg base k "common" ["some","others"] bh f4 d4) {t_GOALS:Tok} (g_GOALS:mg "GOALS" = some (.int 3 t_GOALS)) (b_all:mg "all" = none) (b_len:mg "len" = none) :
    bi P w K mg base (cQ P w mg) (k+1) f fd ["ground","inside"] (dt (dF 2 (fR bh)) 2):=by
  refine aH W ni (G:=["all"]) (by decide +kernel) fun cdv A outer s H E hr T=>?_
  exact (aw (aQ (yT T 0 rfl b_all (cG (bj (N:=["number","ground","inside"]) (own:=1) (G:=["len","common","GOALS"]) (fr:=[0,1]) T rfl rfl (oN:=["ground","inside"]) (on:=(aj eE).names) (by decide +kernel) (bw (aa T 1 rfl)) (bu (by decide)) (fun cl C s' H' fp E' T=>⟨(aV T 0 rfl),ci,(vS (ae (cs T 0 rfl b_len (ae (az C4 hr T 1 rfl (ag (aN T.hu (ae (aN T.hu (ae (aa T 1 rfl)) (ae (aa T 0 rfl)) (fun _ _=>rfl))) (ae (bW T 2 rfl g_GOALS)) (fun _ _=>rfl)) (ag (aa T 2 rfl) ap)) rfl (ai (ai av)))))) (ae ak))⟩))))))
theorem w4:aX ["ground","inside"] ["ground","inside"] (aj jT):=⟨rfl,rfl,rfl,by decide +kernel,rfl,by decide +kernel,by decide +kernel⟩
theorem wV (W:gp K "part_of" "part_of" jT f fd) {f2:Addr} {d2:FuncData} {cZ:gc} (C2:gn P w K mg base k "are_some" ["thing","count"] cZ f2 d2) {f14:Addr} {d14:FuncData} {cm:gc} (C14:gn P w K mg base k "goals_anew" ["place","inside"] cm f14 d14) {f6:Addr} {d6:FuncData} {bZ:gc} (C6:gn P w K mg base k "is_whole_part" ["ground","inside"] bZ f6 d6) {f12:Addr} {d12:FuncData} {aI:gc} (C12:gn P w K mg base k "with_goals" ["place","goals"] aI f12 d12) (b_len:mg "len" = none) (b_tuple:mg "tuple" = none) {c_NoPart:Addr} (m_NoPart:mg "NoPart" = some (.ref c_NoPart)) (q_NoPart:PySem.W.excIn K c_NoPart DS De=true) :
    bi P w K mg base (cQ P w mg) (k+1) f fd ["ground","inside"] (dt (dF 2 (lT cZ cm bZ aI)) 2):=by
  refine aH W w4 (G:=["are_some","len","NoPart","is_whole_part","tuple"]) (by decide +kernel) fun cdv A outer s H E hr T=>?_
  exact (ao (dU (rn (yZ (jH (h7 (az C2 hr T 0 rfl (ag (aa T 1 rfl) (ag (cs T 1 rfl b_len (ae (aa T 0 rfl))) ap)) rfl (ai (ai av))))) (xc (ez T.hu (ae (cs T 1 rfl b_len (ae (aa T 1 rfl)))) (ae ak))))) (aw (kh T 2 rfl m_NoPart q_NoPart (have T:=T.nox;nZ))) dD)
      (ao (dU (jH (h7 (az C6 hr T 3 rfl (ag (aa T 0 rfl) (ag (aa T 1 rfl) ap)) rfl (ai (ai av))))) (aw (kh T 2 rfl m_NoPart q_NoPart (have T:=T.nox;nZ))) dD)
      (aw (aQ (bC T 4 rfl b_tuple (cG (bj (N:=["number","ground","inside"]) (own:=1) (G:=["with_goals","goals_anew"]) (fr:=[0,1]) T rfl rfl (oN:=["ground","inside"]) (on:=(aj jT).names) (by decide +kernel) (bw (aa T 1 rfl)) (bu (by decide)) (fun cl C s' H' fp E' T=>⟨(aV T 0 rfl),ci,(az C12 hr T 0 rfl (ag (aN T.hu (ae (aa T 1 rfl)) (ae (aa T 0 rfl)) (fun _ _=>rfl)) (ag (az C14 hr T 1 rfl (ag (aN T.hu (ae (aa T 1 rfl)) (ae (aa T 0 rfl)) (fun _ _=>rfl)) (ag (aa T 2 rfl) ap)) rfl (ai (ai av))) ap)) rfl (ai (ai av)))⟩))))))))
theorem yP:aX ["ground","like","led"] ["ground"] (aj lD):=⟨rfl,rfl,rfl,by decide +kernel,rfl,by decide +kernel,by decide +kernel⟩
theorem yI (W:gp K "folded" "folded" lD f fd) {f18:Addr} {d18:FuncData} {bO:gc} (C18:gn P w K mg base k "likeness" ["ground"] bO f18 d18) {f17:Addr} {d17:FuncData} {aJ:gc} (C17:gn P w K mg base k "likes_of_goals" ["place","like"] aJ f17 d17) {f15:Addr} {d15:FuncData} {dH:gc} (C15:gn P w K mg base k "part_of" ["ground","inside"] dH f15 d15) {f12:Addr} {d12:FuncData} {aI:gc} (C12:gn P w K mg base k "with_goals" ["place","goals"] aI f12 d12) (b_set:mg "set" = none) (b_sorted:mg "sorted" = none) (b_tuple:mg "tuple" = none) :
    bi P w K mg base (cQ P w mg) (k+1) f fd ["ground"] (dt (dF 3 (nR bO aJ dH aI)) 1):=by
  refine aH W yP (G:=["likeness","tuple","part_of","sorted","set"]) (by decide +kernel) fun cdv A outer s H E hr T=>?_
  exact (ao (aR T 1 rfl (az C18 hr T 0 rfl (ag (aa T 0 rfl) ap) rfl (ai av)))
      (ao (aR T 2 rfl (bC T 1 rfl b_tuple (cG (bj (N:=["place","like"]) (own:=1) (G:=["with_goals","likes_of_goals"]) (fr:=[1]) T rfl rfl (oN:=["ground","like","led"]) (on:=(aj lD).names) (by decide +kernel) (bw (aa T 0 rfl)) (bu (by decide)) (fun cl C s' H' fp E' T=>⟨(aV T 0 rfl),ci,(az C12 hr T 0 rfl (ag (aa T 0 rfl) (ag (az C17 hr T 1 rfl (ag (aa T 0 rfl) (ag (aa T 1 rfl) ap)) rfl (ai (ai av))) ap)) rfl (ai (ai av)))⟩)))))
      (aw (aQ (az C15 hr T 2 rfl (ag (aa T 2 rfl) (ag (bC T 1 rfl b_tuple (cG (n5 T 3 4 rfl b_sorted rfl b_set (ae (aa T 1 rfl))))) ap)) rfl (ai (ai av)))))))
theorem re:aX ["ground"] ["ground"] (aj iO):=⟨rfl,rfl,rfl,by decide +kernel,rfl,by decide +kernel,by decide +kernel⟩
theorem qT (W:gp K "all_places" "all_places" iO f fd) (b_len:mg "len" = none) (b_range:mg "range" = none) (b_tuple:mg "tuple" = none) :
    bi P w K mg base (cQ P w mg) (k+1) f fd ["ground"] (dt (dF 1 (iq)) 1):=by
  refine aH W re (G:=["tuple","range","len"]) (by decide +kernel) fun cdv A outer s H E hr T=>?_
  exact (aw (aQ (xb T 0 rfl b_tuple 1 rfl b_range (ag (cs T 2 rfl b_len (ae (aa T 0 rfl))) ap))))
theorem uK:aX ["moves","places"] ["moves","places"] (aj iQ):=⟨rfl,rfl,rfl,by decide +kernel,rfl,by decide +kernel,by decide +kernel⟩
theorem uz (W:gp K "moves_at" "moves_at" iQ f fd) (b_enumerate:mg "enumerate" = none) (b_tuple:mg "tuple" = none) :
    bi P w K mg base (cQ P w mg) (k+1) f fd ["moves","places"] (dt (dF 2 (ke)) 2):=by
  refine aH W uK (G:=["tuple","enumerate"]) (by decide +kernel) fun cdv A outer s H E hr T=>?_
  exact (aw (aQ (bC T 0 rfl b_tuple (cG (bj (N:=["number","move","places"]) (own:=2) (G:=[]) (fr:=[1]) T rfl rfl (oN:=["moves","places"]) (on:=(aj iQ).names) (by decide +kernel) (hU T 1 rfl b_enumerate (aa T 0 rfl)) (h9 (by decide) (by decide)) (fun cl C s' H' fp E' T=>⟨(gq T 0 1 rfl rfl),ci,(kj (n6 T.hu (ae (aa T 0 rfl)) (ae (aa T 2 rfl)) (by with_unfolding_all rfl)) (aa T 1 rfl) dI)⟩))))))
theorem nk:aX ["moves","others"] ["moves","others"] (aj eF):=⟨rfl,rfl,rfl,by decide +kernel,rfl,by decide +kernel,by decide +kernel⟩
theorem mX (W:gp K "moves_of_both" "moves_of_both" eF f fd) (b_tuple:mg "tuple" = none) (b_zip:mg "zip" = none) :
    bi P w K mg base (cQ P w mg) (k+1) f fd ["moves","others"] (dt (dF 2 (fS)) 2):=by
  refine aH W nk (G:=["tuple","zip"]) (by decide +kernel) fun cdv A outer s H E hr T=>?_
  exact (aw (aQ (bC T 0 rfl b_tuple (cG (bj (N:=["move","other"]) (own:=2) (G:=[]) (fr:=[]) T rfl rfl (oN:=["moves","others"]) (on:=(aj eF).names) (by decide +kernel) (yR T 1 rfl b_zip (aa T 0 rfl) (aa T 1 rfl)) (h9 (by decide) (by decide)) (fun cl C s' H' fp E' T=>⟨(gq T 0 1 rfl rfl),ci,(kj (p9 (ae (aa T 0 rfl)) (ae dI)) (aa T 1 rfl) (aa T 0 rfl))⟩))))))
theorem yQ:aX ["ranks"] ["ranks"] (aj lE):=⟨rfl,rfl,rfl,by decide +kernel,rfl,by decide +kernel,by decide +kernel⟩
theorem yJ (W:gp K "ranked" "ranked" lE f fd) (b_enumerate:mg "enumerate" = none) (b_tuple:mg "tuple" = none) :
    bi P w K mg base (cQ P w mg) (k+1) f fd ["ranks"] (dt (dF 1 (nT)) 1):=by
  refine aH W yQ (G:=["tuple","enumerate"]) (by decide +kernel) fun cdv A outer s H E hr T=>?_
  exact (aw (aQ (bC T 0 rfl b_tuple (cG (bj (N:=["number","rank"]) (own:=2) (G:=[]) (fr:=[]) T rfl rfl (oN:=["ranks"]) (on:=(aj lE).names) (by decide +kernel) (hU T 1 rfl b_enumerate (aa T 0 rfl)) (h9 (by decide) (by decide)) (fun cl C s' H' fp E' T=>⟨(gq T 0 1 rfl rfl),(eR (n8 (ae (aa T 1 rfl)) (ae dI))),(aa T 0 rfl)⟩))))))
theorem nq:aX ["ground","who","ranks","moves","number"] ["ground","who","ranks"] (aj dG):=⟨rfl,rfl,rfl,by decide +kernel,rfl,by decide +kernel,by decide +kernel⟩
theorem mY (W:gp K "pulling_moves" "pulling_moves" dG f fd) {f22:Addr} {d22:FuncData} {cr:gc} (C22:gn P w K mg base k "ranked" ["ranks"] cr f22 d22) {t_GOALS:Tok} (g_GOALS:mg "GOALS" = some (.int 3 t_GOALS)) {t_WHO:Tok} (g_WHO:mg "WHO" = some (.int 0 t_WHO)) (b_tuple:mg "tuple" = none) :
    bi P w K mg base (cQ P w mg) (k+1) f fd ["ground","who","ranks"] (dt (dF 5 (fT cr)) 3):=by
  refine aH W nq (G:=["ranked","WHO","GOALS","tuple"]) (by decide +kernel) fun cdv A outer s H E hr T=>?_
  exact (ao (fw 3 rfl (N:=["rank"]) (own:=1) (G:=[]) (fr:=[]) T rfl rfl (oN:=["ground","who","ranks","moves","number"]) (on:=(aj dG).names) (by decide +kernel) (bw (aa T 2 rfl)) (bu (by decide)) (fun cl C s' H' fp E' T=>⟨(aV T 0 rfl),ci,dI⟩))
      (ao (dj (have T:=T.nox;fN PassesOwn.never T.calm (bw (az C22 hr T 0 rfl (ag (aa T 2 rfl) ap) rfl (ai av))) (aV T 4 rfl) (aw (dU (rn (qa (ez T.hu (ae (aN T.hu (ae (aN T.hu (ae (aa T 0 rfl)) (ae (aa T 4 rfl)) (fun _ _=>rfl))) (ae (bW T 1 rfl g_WHO)) (fun _ _=>rfl))) (ae (aa T 1 rfl))) (n9 (kR (ae (aN T.hu (ae (aa T 2 rfl)) (ae (aa T 4 rfl)) (fun _ _=>rfl))) (ae ak))))) (aw (jG T 3 rfl (have T:=T.nox;(aa T 4 rfl)) (aN T.hu (cG (bj (N:=["goal","ranks","number"]) (own:=1) (G:=[]) (fr:=[2,4]) T rfl rfl (oN:=["ground","who","ranks","moves","number"]) (on:=(aj dG).names) (by decide +kernel) (bw (aN T.hu (ae (aN T.hu (ae (aa T 0 rfl)) (ae (aa T 4 rfl)) (fun _ _=>rfl))) (ae (bW T 2 rfl g_GOALS)) (fun _ _=>rfl))) (bu (by decide)) (fun cl C s' H' fp E' T=>⟨(aV T 0 rfl),(eR (ez T.hu (ae (aN T.hu (ae (aa T 1 rfl)) (ae (aa T 0 rfl)) (fun _ _=>rfl))) (ae (ji (ae (aN T.hu (ae (aa T 1 rfl)) (ae (aa T 2 rfl)) (fun _ _=>rfl))) (ae ak))))),(aa T 0 rfl)⟩))) (ae ak) (fun _ _=>rfl)))) dD))))
      (aw (aQ (bC T 3 rfl b_tuple (fx T 3 rfl))))))
theorem sL:aX ["place","ways","who","ranks","known"] ["place","ways","who","ranks"] (aj gP):=⟨rfl,rfl,rfl,by decide +kernel,rfl,by decide +kernel,by decide +kernel⟩
theorem sD (W:gp K "is_forced" "is_forced" gP f fd) {t_WHO:Tok} (g_WHO:mg "WHO" = some (.int 0 t_WHO)) (b_len:mg "len" = none) :
    bi P w K mg base (cQ P w mg) (k+1) f fd ["place","ways","who","ranks"] (dt (dF 5 (jb)) 4):=by
  refine aH W sL (G:=["WHO","len"]) (by decide +kernel) fun cdv A outer s H E hr T=>?_
  exact (ao (jg (fw 4 rfl (N:=["goal","ranks"]) (own:=1) (G:=[]) (fr:=[3]) T rfl rfl (oN:=["place","ways","who","ranks","known"]) (on:=(aj gP).names) (by decide +kernel) (bw (aa T 1 rfl)) (bu (by decide)) (fun cl C s' H' fp E' T=>⟨(aV T 0 rfl),(eR (n8 (ae (aN T.hu (ae (aa T 1 rfl)) (ae (aa T 0 rfl)) (fun _ _=>rfl))) (ae dI))),(aa T 0 rfl)⟩)) (show 4 < 5 by decide))
      (ao (dU (ez T.hu (ae (aN T.hu (ae (aa T 0 rfl)) (ae (bW T 0 rfl g_WHO)) (fun _ _=>rfl))) (ae (aa T 2 rfl))) (aw (aQ (vS (ae (cs T 1 rfl b_len (ae (aa T 4 rfl)))) (ae ak)))) dD)
      (aw (aQ (nD T.hu (ae (cs T 1 rfl b_len (ae (aa T 4 rfl)))) (ae (cs T 1 rfl b_len (ae (aa T 1 rfl)))))))))
theorem uM:aX ["ground","inside","who","goals","ways","ranks","rank","found","unranked","number"] ["ground","inside","who","goals"] (aj eJ):=⟨rfl,rfl,rfl,by decide +kernel,rfl,by decide +kernel,by decide +kernel⟩
theorem uB (W:gp K "ranks_to" "ranks_to" eJ f fd) {f4:Addr} {d4:FuncData} {bh:gc} (C4:gn P w K mg base k "common" ["some","others"] bh f4 d4) {f20:Addr} {d20:FuncData} {cg:gc} (C20:gn P w K mg base k "is_forced" ["place","ways","who","ranks"] cg f20 d20) {t_GOALS:Tok} (g_GOALS:mg "GOALS" = some (.int 3 t_GOALS)) (b_len:mg "len" = none) (b_list:mg "list" = none) (b_range:mg "range" = none) (b_tuple:mg "tuple" = none) :
    bi P w K mg base (cQ P w mg) (k+1) f fd ["ground","inside","who","goals"] (dt (dF 10 (kg bh cg)) 4):=by
  refine aH W uM (G:=["range","len","list","tuple"]) (by decide +kernel) fun cdv A outer s H E hr T=>?_
  exact (ao (aR T 4 rfl (gF (bj (N:=["place","inside"]) (own:=1) (G:=["common","GOALS"]) (fr:=[1]) T rfl rfl (oN:=["ground","inside","who","goals","ways","ranks","rank","found","unranked","number"]) (on:=(aj eJ).names) (by decide +kernel) (bw (aa T 0 rfl)) (bu (by decide)) (fun cl C s' H' fp E' T=>⟨(aV T 0 rfl),ci,(az C4 hr T 0 rfl (ag (aN T.hu (ae (aa T 0 rfl)) (ae (bW T 1 rfl g_GOALS)) (fun _ _=>rfl)) (ag (aa T 1 rfl) ap)) rfl (ai (ai av)))⟩))))
      (ao (kP T 5 rfl (bj (N:=["number","goals"]) (own:=1) (G:=[]) (fr:=[3]) T rfl rfl (oN:=["ground","inside","who","goals","ways","ranks","rank","found","unranked","number"]) (on:=(aj eJ).names) (by decide +kernel) (jh T 0 rfl b_range (ag (cs T 1 rfl b_len (ae (aa T 0 rfl))) ap) (ai av)) (bu (by decide)) (fun cl C s' H' fp E' T=>⟨(aV T 0 rfl),ci,(kj (n6 T.hu (ae (aa T 0 rfl)) (ae (aa T 1 rfl)) (by with_unfolding_all rfl)) ak dI)⟩)))
      (ao (aR T 6 rfl ak)
      (ao (aR T 7 rfl (gF (n4 T 2 rfl b_list (ae (aa T 3 rfl)))))
      (ao (dj (have T:=T.nox;ki 1000000 PassesOwn.never (kR (ae (cs T 1 rfl b_len (ae (aa T 7 rfl)))) (ae ak)) (ao (w8 T 6 rfl ak)
      (ao (jg (fw 8 rfl (N:=["number","ranks"]) (own:=1) (G:=[]) (fr:=[5]) T rfl rfl (oN:=["ground","inside","who","goals","ways","ranks","rank","found","unranked","number"]) (on:=(aj eJ).names) (by decide +kernel) (bw (aa T 1 rfl)) (bu (by decide)) (fun cl C s' H' fp E' T=>⟨(aV T 0 rfl),(eR (p9 (ae (aN T.hu (fx T 1 rfl) (ae (aa T 0 rfl)) (fun _ _=>rfl))) (ae dI))),(aa T 0 rfl)⟩)) (show 8 < 10 by decide))
      (ao (jg (fw 7 rfl (N:=["number","ground","ways","who","ranks"]) (own:=1) (G:=["is_forced"]) (fr:=[0,4,2,5]) T rfl rfl (oN:=["ground","inside","who","goals","ways","ranks","rank","found","unranked","number"]) (on:=(aj eJ).names) (by decide +kernel) (bw (aa T 8 rfl)) (bu (by decide)) (fun cl C s' H' fp E' T=>⟨(aV T 0 rfl),(eR (h7 (uP 4 (az C20 hr T 0 rfl (ag (aN T.hu (ae (aa T 1 rfl)) (ae (aa T 0 rfl)) (fun _ _=>rfl)) (ag (aN T.hu (ae (aa T 2 rfl)) (ae (aa T 0 rfl)) (fun _ _=>rfl)) (ag (aa T 3 rfl) (ag (aa T 4 rfl) ap)))) rfl (ai (ai (ai (ai av)))))))),(aa T 0 rfl)⟩)) (show 7 < 10 by decide))
      (aw (dj (have T:=T.nox;fN PassesOwn.never T.calm (bw (aa T 7 rfl)) (aV T 9 rfl) (aw (jG T 5 rfl (have T:=T.nox;(aa T 9 rfl)) (aa T 6 rfl)))))))))))
      (aw (aQ (bC T 3 rfl b_tuple (fx T 5 rfl)))))))))
theorem uL:aX ["ground"] ["ground"] (aj iR):=⟨rfl,rfl,rfl,by decide +kernel,rfl,by decide +kernel,by decide +kernel⟩
theorem uA (W:gp K "no_moves" "no_moves" iR f fd) (b_tuple:mg "tuple" = none) :
    bi P w K mg base (cQ P w mg) (k+1) f fd ["ground"] (dt (dF 1 (kf)) 1):=by
  refine aH W uL (G:=["tuple"]) (by decide +kernel) fun cdv A outer s H E hr T=>?_
  exact (aw (aQ (bC T 0 rfl b_tuple (cG (bj (N:=["place"]) (own:=1) (G:=[]) (fr:=[]) T rfl rfl (oN:=["ground"]) (on:=(aj iR).names) (by decide +kernel) (bw (aa T 0 rfl)) (bu (by decide)) (fun cl C s' H' fp E' T=>⟨(aV T 0 rfl),ci,dI⟩))))))
theorem nr:aX ["ground","who","part","moves","number"] ["ground","who","part"] (aj fX):=⟨rfl,rfl,rfl,by decide +kernel,rfl,by decide +kernel,by decide +kernel⟩
theorem mZ (W:gp K "staying_moves" "staying_moves" fX f fd) {f4:Addr} {d4:FuncData} {bh:gc} (C4:gn P w K mg base k "common" ["some","others"] bh f4 d4) {f7:Addr} {d7:FuncData} {cc:gc} (C7:gn P w K mg base k "no_moves" ["ground"] cc f7 d7) {t_GOALS:Tok} (g_GOALS:mg "GOALS" = some (.int 3 t_GOALS)) {t_WHO:Tok} (g_WHO:mg "WHO" = some (.int 0 t_WHO)) (b_list:mg "list" = none) (b_tuple:mg "tuple" = none) :
    bi P w K mg base (cQ P w mg) (k+1) f fd ["ground","who","part"] (dt (dF 5 (fU bh cc)) 3):=by
  refine aH W nr (G:=["list","no_moves","WHO","common","GOALS","tuple"]) (by decide +kernel) fun cdv A outer s H E hr T=>?_
  exact (ao (kP T 3 rfl (n4 T 0 rfl b_list (ae (az C7 hr T 1 rfl (ag (aa T 0 rfl) ap) rfl (ai av)))))
      (ao (dj (have T:=T.nox;fN PassesOwn.never T.calm (bw (aa T 2 rfl)) (aV T 4 rfl) (aw (dU (ez T.hu (ae (aN T.hu (ae (aN T.hu (ae (aa T 0 rfl)) (ae (aa T 4 rfl)) (fun _ _=>rfl))) (ae (bW T 2 rfl g_WHO)) (fun _ _=>rfl))) (ae (aa T 1 rfl))) (aw (jG T 3 rfl (have T:=T.nox;(aa T 4 rfl)) (aN T.hu (ae (az C4 hr T 3 rfl (ag (aN T.hu (ae (aN T.hu (ae (aa T 0 rfl)) (ae (aa T 4 rfl)) (fun _ _=>rfl))) (ae (bW T 4 rfl g_GOALS)) (fun _ _=>rfl)) (ag (aa T 2 rfl) ap)) rfl (ai (ai av)))) (ae ak) (fun _ _=>rfl)))) dD))))
      (aw (aQ (bC T 5 rfl b_tuple (fx T 3 rfl))))))
theorem w5:aX ["some","others"] ["some","others"] (aj jU):=⟨rfl,rfl,rfl,by decide +kernel,rfl,by decide +kernel,by decide +kernel⟩
theorem wW (W:gp K "without" "without" jU f fd) (b_tuple:mg "tuple" = none) :
    bi P w K mg base (cQ P w mg) (k+1) f fd ["some","others"] (dt (dF 2 (lU)) 2):=by
  refine aH W w5 (G:=["tuple"]) (by decide +kernel) fun cdv A outer s H E hr T=>?_
  exact (aw (aQ (bC T 0 rfl b_tuple (cG (bj (N:=["number","others"]) (own:=1) (G:=[]) (fr:=[1]) T rfl rfl (oN:=["some","others"]) (on:=(aj jU).names) (by decide +kernel) (bw (aa T 0 rfl)) (bu (by decide)) (fun cl C s' H' fp E' T=>⟨(aV T 0 rfl),(eR (tf T.hu (ae (aa T 0 rfl)) (ae (aa T 1 rfl)) (by with_unfolding_all rfl))),(aa T 0 rfl)⟩))))))
theorem lX:aX ["ground","inside","highest","who","other","tops","ranks","below","lost","moves"] ["ground","inside"] (aj cN):=⟨rfl,rfl,rfl,by decide +kernel,rfl,by decide +kernel,by decide +kernel⟩
theorem lO (W:gp K "share_by_marks" "share_by_marks" cN f fd) {f9:Addr} {d9:FuncData} {cO:gc} (C9:gn P w K mg base k "moves_at" ["moves","places"] cO f9 d9) {f8:Addr} {d8:FuncData} {aE:gc} (C8:gn P w K mg base k "moves_of_both" ["moves","others"] aE f8 d8) {f23:Addr} {d23:FuncData} {bo:gc} (C23:gn P w K mg base k "pulling_moves" ["ground","who","ranks"] bo f23 d23) {f22:Addr} {d22:FuncData} {cr:gc} (C22:gn P w K mg base k "ranked" ["ranks"] cr f22 d22) {f21:Addr} {d21:FuncData} {cC:gc} (C21:gn P w K mg base k "ranks_to" ["ground","inside","who","goals"] cC f21 d21) {f10:Addr} {d10:FuncData} {bG:gc} (C10:gn P w K mg base k "staying_moves" ["ground","who","part"] bG f10 d10) {f25:Addr} {d25:FuncData} {aL:gc} (C25:gn P w K mg base k "winners_within" ["ground","inside"] aL f25 d25) {f5:Addr} {d5:FuncData} {bV:gc} (C5:gn P w K mg base k "without" ["some","others"] bV f5 d5) {t_MARK:Tok} (g_MARK:mg "MARK" = some (.int 1 t_MARK)) (b_enumerate:mg "enumerate" = none) (b_len:mg "len" = none) (b_max:mg "max" = none) {c_Share:Addr} (cl_Share:yD K c_Share) (n_Share_moves:eh K c_Share "moves") (n_Share_places:eh K c_Share "places") (n_Share_who:eh K c_Share "who") (m_Share:mg "Share" = some (.ref c_Share)) {fi_Share:Addr} {di_Share:FuncData} (MK_Share:Mk K c_Share fi_Share) (I_Share:bi P w K mg base (cQ P w mg) 1 fi_Share di_Share ["self","who","places","moves"] (HI c_Share ["who","places","moves"])) (B_Share:bM K di_Share ["self","who","places","moves"] []) (hk:2<=k) :
    bi P w K mg base (cQ P w mg) (k+1) f fd ["ground","inside"] (dt (dF 10 (dR cO aE bo cr cC bG aL bV c_Share)) 2):=by
  refine aH W lX (G:=["max","ranks_to","winners_within","without","ranked","enumerate","len","moves_of_both","pulling_moves","Share","staying_moves","moves_at"]) (by decide +kernel) fun cdv A outer s H E hr T=>?_
  exact (ao (aR T 2 rfl (xa T 0 rfl b_max (cG (bj (N:=["number","ground"]) (own:=1) (G:=["MARK"]) (fr:=[0]) T rfl rfl (oN:=["ground","inside","highest","who","other","tops","ranks","below","lost","moves"]) (on:=(aj cN).names) (by decide +kernel) (bw (aa T 1 rfl)) (bu (by decide)) (fun cl C s' H' fp E' T=>⟨(aV T 0 rfl),ci,(aN T.hu (ae (aN T.hu (ae (aa T 1 rfl)) (ae (aa T 0 rfl)) (fun _ _=>rfl))) (ae (bW T 0 rfl g_MARK)) (fun _ _=>rfl))⟩)))))
      (ao (aR T 3 rfl (cx (ae (aa T 2 rfl)) (ae ak)))
      (ao (aR T 4 rfl (ji (ae ak) (ae (aa T 3 rfl))))
      (ao (jg (fw 5 rfl (N:=["number","ground","highest"]) (own:=1) (G:=["MARK"]) (fr:=[0,2]) T rfl rfl (oN:=["ground","inside","highest","who","other","tops","ranks","below","lost","moves"]) (on:=(aj cN).names) (by decide +kernel) (bw (aa T 1 rfl)) (bu (by decide)) (fun cl C s' H' fp E' T=>⟨(aV T 0 rfl),(eR (ez T.hu (ae (aN T.hu (ae (aN T.hu (ae (aa T 1 rfl)) (ae (aa T 0 rfl)) (fun _ _=>rfl))) (ae (bW T 0 rfl g_MARK)) (fun _ _=>rfl))) (ae (aa T 2 rfl)))),(aa T 0 rfl)⟩)) (show 5 < 10 by decide))
      (ao (aR T 6 rfl (az C21 hr T 1 rfl (ag (aa T 0 rfl) (ag (aa T 1 rfl) (ag (aa T 3 rfl) (ag (aa T 5 rfl) ap)))) rfl (ai (ai (ai (ai av))))))
      (ao (aR T 7 rfl (az C25 hr T 2 rfl (ag (aa T 0 rfl) (ag (az C5 hr T 3 rfl (ag (aa T 1 rfl) (ag (az C22 hr T 4 rfl (ag (aa T 6 rfl) ap) rfl (ai av)) ap)) rfl (ai (ai av))) ap)) rfl (ai (ai av))))
      (ao (jg (fw 8 rfl (N:=["number","winner","other"]) (own:=2) (G:=[]) (fr:=[4]) T rfl rfl (oN:=["ground","inside","highest","who","other","tops","ranks","below","lost","moves"]) (on:=(aj cN).names) (by decide +kernel) (hU T 5 rfl b_enumerate (aN T.hu (ae (aa T 7 rfl)) (ae ak) (fun _ _=>rfl))) (h9 (by decide) (by decide)) (fun cl C s' H' fp E' T=>⟨(gq T 0 1 rfl rfl),(eR (ez T.hu (ae (aa T 1 rfl)) (ae (aa T 2 rfl)))),(aa T 0 rfl)⟩)) (show 8 < 10 by decide))
      (ao (dU (ez T.hu (ae (cs T 6 rfl b_len (ae (aa T 8 rfl)))) (ae ak)) (ao (aR T 9 rfl (az C8 hr T 7 rfl (ag (az C23 hr T 8 rfl (ag (aa T 0 rfl) (ag (aa T 3 rfl) (ag (aa T 6 rfl) ap))) rfl (ai (ai (ai av)))) (ag (aN T.hu (ae (aa T 7 rfl)) (ae ak) (fun _ _=>rfl)) ap)) rfl (ai (ai av))))
      (aw (aQ (sW MK_Share I_Share (hr.mono hk) T 9 rfl m_Share B_Share (ag (aa T 3 rfl) (ag (aa T 1 rfl) (ag (az C8 hr T 7 rfl (ag (aa T 9 rfl) (ag (az C10 hr T 10 rfl (ag (aa T 0 rfl) (ag (aa T 3 rfl) (ag (aa T 1 rfl) ap))) rfl (ai (ai (ai av)))) ap)) rfl (ai (ai av))) ap))) (ai (ai (ai av))))))) dD)
      (ao (aR T 6 rfl (az C21 hr T 1 rfl (ag (aa T 0 rfl) (ag (aa T 1 rfl) (ag (aa T 4 rfl) (ag (aa T 8 rfl) ap)))) rfl (ai (ai (ai (ai av))))))
      (ao (aR T 9 rfl (az C8 hr T 7 rfl (ag (az C23 hr T 8 rfl (ag (aa T 0 rfl) (ag (aa T 4 rfl) (ag (aa T 6 rfl) ap))) rfl (ai (ai (ai av)))) (ag (az C9 hr T 11 rfl (ag (aN T.hu (ae (aa T 7 rfl)) (ae ak) (fun _ _=>rfl)) (ag (aa T 8 rfl) ap)) rfl (ai (ai av))) ap)) rfl (ai (ai av))))
      (aw (aQ (sW MK_Share I_Share (hr.mono hk) T 9 rfl m_Share B_Share (ag (aa T 4 rfl) (ag (az C22 hr T 4 rfl (ag (aa T 6 rfl) ap) rfl (ai av)) (ag (aa T 9 rfl) ap))) (ai (ai (ai av))))))))))))))))
theorem jY:aX ["ground","shares","winners","moves","share","number"] ["ground","shares"] (aj dh):=⟨rfl,rfl,rfl,by decide +kernel,rfl,by decide +kernel,by decide +kernel⟩
theorem jV (W:gp K "winners_and_moves" "winners_and_moves" dh f fd) {f8:Addr} {d8:FuncData} {aE:gc} (C8:gn P w K mg base k "moves_of_both" ["moves","others"] aE f8 d8) {f7:Addr} {d7:FuncData} {cc:gc} (C7:gn P w K mg base k "no_moves" ["ground"] cc f7 d7) (b_tuple:mg "tuple" = none) {c_Share:Addr} (cl_Share:yD K c_Share) (n_Share_moves:eh K c_Share "moves") (n_Share_places:eh K c_Share "places") (n_Share_who:eh K c_Share "who") :
    bi P w K mg base (cQ P w mg) (k+1) f fd ["ground","shares"] (dt (dF 6 (ed aE cc c_Share)) 2):=by
  refine aH W jY (G:=["no_moves","moves_of_both","tuple"]) (by decide +kernel) fun cdv A outer s H E hr T=>?_
  exact (ao (fw 2 rfl (N:=["place"]) (own:=1) (G:=[]) (fr:=[]) T rfl rfl (oN:=["ground","shares","winners","moves","share","number"]) (on:=(aj dh).names) (by decide +kernel) (bw (aa T 0 rfl)) (bu (by decide)) (fun cl C s' H' fp E' T=>⟨(aV T 0 rfl),ci,dI⟩))
      (ao (aR T 3 rfl (az C7 hr T 0 rfl (ag (aa T 0 rfl) ap) rfl (ai av)))
      (ao (dj (have T:=T.nox;fN PassesOwn.never T.calm (bw (aa T 1 rfl)) (aV T 4 rfl) (ao (dj (have T:=T.nox;fN PassesOwn.never T.calm (bw (kQ cl_Share n_Share_places (aa T 4 rfl))) (aV T 5 rfl) (aw (jG T 2 rfl (have T:=T.nox;(aa T 5 rfl)) (kQ cl_Share n_Share_who (aa T 4 rfl))))))
      (aw (aR T 3 rfl (az C8 hr T 1 rfl (ag (aa T 3 rfl) (ag (kQ cl_Share n_Share_moves (aa T 4 rfl)) ap)) rfl (ai (ai av))))))))
      (aw (aQ (hZ (ag (bC T 2 rfl b_tuple (fx T 2 rfl)) (ag (aa T 3 rfl) ap))))))))
theorem lY:aX ["ground","inside","shares","left","share"] ["ground","inside"] (aj fG):=⟨rfl,rfl,rfl,by decide +kernel,rfl,by decide +kernel,by decide +kernel⟩
theorem lP (W:gp K "winners_within" "winners_within" fG f fd) {f24:Addr} {d24:FuncData} {bf:gc} (C24:gn P w K mg base k "share_by_marks" ["ground","inside"] bf f24 d24) {f11:Addr} {d11:FuncData} {bn:gc} (C11:gn P w K mg base k "winners_and_moves" ["ground","shares"] bn f11 d11) {f5:Addr} {d5:FuncData} {bV:gc} (C5:gn P w K mg base k "without" ["some","others"] bV f5 d5) (b_len:mg "len" = none) {c_Share:Addr} (cl_Share:yD K c_Share) (n_Share_places:eh K c_Share "places") :
    bi P w K mg base (cQ P w mg) (k+1) f fd ["ground","inside"] (dt (dF 5 (dS bf bn bV c_Share)) 2):=by
  refine aH W lY (G:=["len","share_by_marks","without","winners_and_moves"]) (by decide +kernel) fun cdv A outer s H E hr T=>?_
  exact (ao (kP T 2 rfl (p8 ap))
      (ao (aR T 3 rfl (aa T 1 rfl))
      (ao (dj (have T:=T.nox;ki 1000000 PassesOwn.never (kR (ae (cs T 0 rfl b_len (ae (aa T 3 rfl)))) (ae ak)) (ao (aR T 4 rfl (az C24 hr T 1 rfl (ag (aa T 0 rfl) (ag (aa T 3 rfl) ap)) rfl (ai (ai av))))
      (ao (sT T 2 rfl (aa T 4 rfl))
      (aw (aR T 3 rfl (az C5 hr T 2 rfl (ag (aa T 3 rfl) (ag (kQ cl_Share n_Share_places (aa T 4 rfl)) ap)) rfl (ai (ai av)))))))))
      (aw (Bh 2 (aQ (az C11 hr T 3 rfl (ag (aa T 0 rfl) (ag (aa T 2 rfl) ap)) rfl (ai (ai av)))))))))
theorem Fx:aX ["ground"] ["ground"] (aj AF):=⟨rfl,rfl,rfl,by decide +kernel,rfl,by decide +kernel,by decide +kernel⟩
theorem Fp (W:gp K "won" "won" AF f fd) {f3:Addr} {d3:FuncData} {cE:gc} (C3:gn P w K mg base k "all_places" ["ground"] cE f3 d3) {f25:Addr} {d25:FuncData} {aL:gc} (C25:gn P w K mg base k "winners_within" ["ground","inside"] aL f25 d25) :
    bi P w K mg base (cQ P w mg) (k+1) f fd ["ground"] (dt (dF 1 (yL cE aL)) 1):=by
  refine aH W Fx (G:=["winners_within","all_places"]) (by decide +kernel) fun cdv A outer s H E hr T=>?_
  exact (aw (aQ (az C25 hr T 0 rfl (ag (aa T 0 rfl) (ag (az C3 hr T 1 rfl (ag (aa T 0 rfl) ap) rfl (ai av)) ap)) rfl (ai (ai av)))))
theorem Fw:aX ["_law_script","_law_ground_here","_law_small","_law_firsts","_law_winners","_law_there","_law_place_here","_law_first"] ["_law_script"] (aj j9):=⟨rfl,rfl,rfl,by decide +kernel,rfl,by decide +kernel,by decide +kernel⟩
theorem Fn (W:gp K "law" "law" j9 f fd) {f32:Addr} {d32:FuncData} {cF:gc} (C32:gn P w K mg base k "_law_ground" ["_law_script","_law_most"] cF f32 d32) {f28:Addr} {d28:FuncData} {bx:gc} (C28:gn P w K mg base k "_law_mixed" ["_law_script","_law_k"] bx f28 d28) {f13:Addr} {d13:FuncData} {eo:gc} (C13:gn P w K mg base k "beside" ["one","other"] eo f13 d13) {f19:Addr} {d19:FuncData} {eu:gc} (C19:gn P w K mg base k "folded" ["ground"] eu f19 d19) {f18:Addr} {d18:FuncData} {bO:gc} (C18:gn P w K mg base k "likeness" ["ground"] bO f18 d18) {f26:Addr} {d26:FuncData} {i9:gc} (C26:gn P w K mg base k "won" ["ground"] i9 f26 d26) (b_enumerate:mg "enumerate" = none) (b_len:mg "len" = none) (b_set:mg "set" = none) (b_sorted:mg "sorted" = none) (b_tuple:mg "tuple" = none) :
    bi P w K mg base (cQ P w mg) (k+1) f fd ["_law_script"] (dt (dF 8 (yK cF bx eo eu bO i9)) 1):=by
  refine aH W Fw (G:=["_law_ground","len","_law_mixed","beside","tuple","folded","sorted","set","likeness","won","enumerate"]) (by decide +kernel) fun cdv A outer s H E hr T=>?_
  exact (ao (aR T 1 rfl (az C32 hr T 0 rfl (ag (aa T 0 rfl) (ag ak ap)) rfl (ai (ai av))))
      (ao (dU (rn (qa (yX (ae (cs T 1 rfl b_len (ae (aa T 1 rfl)))) (ae ak)) (n9 (ez T.hu (ae (cx (ae (az C28 hr T 2 rfl (ag (aa T 0 rfl) (ag ak ap)) rfl (ai (ai av)))) (ae ak))) (ae ak))))) (aw (aR T 1 rfl (az C13 hr T 3 rfl (ag (aa T 1 rfl) (ag (aa T 1 rfl) ap)) rfl (ai (ai av))))) (aw (aR T 1 rfl (bC T 4 rfl b_tuple (cG (bj (N:=["_law_place_here"]) (own:=1) (G:=[]) (fr:=[]) T rfl rfl (oN:=["_law_script","_law_ground_here","_law_small","_law_firsts","_law_winners","_law_there","_law_place_here","_law_first"]) (on:=(aj j9).names) (by decide +kernel) (bw (aa T 1 rfl)) (bu (by decide)) (fun cl C s' H' fp E' T=>⟨(aV T 0 rfl),ci,(hZ (ag (aN T.hu (ae (aa T 0 rfl)) (ae ak) (fun _ _=>rfl)) (ag (cx (ae (aN T.hu (ae (aa T 0 rfl)) (ae ak) (fun _ _=>rfl))) (ae ak)) (ag (aN T.hu (ae (aa T 0 rfl)) (ae ak) (fun _ _=>rfl)) (ag (aN T.hu (ae (aa T 0 rfl)) (ae ak) (fun _ _=>rfl)) ap)))))⟩)))))))
      (ao (aR T 2 rfl (az C19 hr T 5 rfl (ag (aa T 1 rfl) ap) rfl (ai av)))
      (ao (aR T 3 rfl (gF (n5 T 6 7 rfl b_sorted rfl b_set (ae (az C18 hr T 8 rfl (ag (aa T 1 rfl) ap) rfl (ai av))))))
      (ao (aR T 4 rfl (aN T.hu (ae (az C26 hr T 9 rfl (ag (aa T 1 rfl) ap) rfl (ai av))) (ae ak) (fun _ _=>rfl)))
      (ao (aR T 5 rfl (aN T.hu (ae (az C26 hr T 9 rfl (ag (aa T 2 rfl) ap) rfl (ai av))) (ae ak) (fun _ _=>rfl)))
      (ao (dj (have T:=T.nox;fN PassesOwn.never T.calm (hU T 10 rfl b_enumerate (az C18 hr T 8 rfl (ag (aa T 1 rfl) ap) rfl (ai av))) (gq T 6 7 rfl rfl) (aw (dU (s9 T.hu (ae (aN T.hu (ae (aa T 4 rfl)) (ae (aa T 6 rfl)) (fun _ _=>rfl))) (ae (aN T.hu (ae (aa T 5 rfl)) (ae (uR (ae (aa T 3 rfl)) (aa T 7 rfl))) (fun _ _=>rfl)))) (aw (aQ hV)) dD))))
      (aw (aQ (nW (nD T.hu (ae (az C19 hr T 5 rfl (ag (aa T 2 rfl) ap) rfl (ai av))) (ae (aa T 2 rfl))) (nY (nD T.hu (ae (cs T 1 rfl b_len (ae (aa T 2 rfl)))) (ae (cs T 1 rfl b_len (ae (aa T 3 rfl))))))))))))))))
end
noncomputable def F0:List PyData->R PyData:=fun ds=>open Classical in if ∃ ns:List Int,ns.length<=63/\ds=[.list (ns.map .int)] then .ok (.bool true) else .no
theorem vP:zP F0:=fun ns h=>if_pos ⟨ns,h,rfl⟩
theorem Fq {c_Share:Addr} (vs:List V) (H:Hp) (Q:VK) (E:XK) (h:dt F0 1 vs H Q E):dt (vQ c_Share) 1 vs H Q E:=by
  obtain ⟨ds,r,hl,q⟩:=h;refine ⟨ds,r,hl,?_⟩;by_cases hd:∃ ns:List Int,ns.length<=63/\ds=[.list (ns.map .int)]
  · obtain ⟨ns,h1,rfl⟩:=hd;rw [vP ns h1] at q;rw [zR c_Share ns h1];exact q
  · unfold F0 at q;rw [if_neg hd] at q;exact q.elim
theorem DP {l:PySem.W.OpenLaw} {w:World} {K:PySem.W.Frag} {h:Heap} {mg:Str->Option Value} {fa:Addr} (X:K.In h) (G:h.Ns mainGlobals mg) (hfa:mg "law" = some (.ref fa))
    {f33:Addr} {od33 an33:Option Addr} {sl33:Array (Option Value)} {oc33 kV33 dc33 pm33 cd33 ct33:Value}
    {f0:Addr} {d0:FuncData} (q0:cz K "_law_cell_at" gZ f0 d0)
    {f1:Addr} {d1:FuncData} (q1:cz K "_law_mixed" jB f1 d1)
    {f2:Addr} {d2:FuncData} (q2:cz K "_law_drawn" jy f2 d2)
    {f3:Addr} {d3:FuncData} (q3:cz K "_law_goals" jA f3 d3)
    {f4:Addr} {d4:FuncData} (q4:cz K "_law_place" jC f4 d4)
    {f5:Addr} {d5:FuncData} (q5:cz K "_law_ground" gk f5 d5)
    {f6:Addr} {d6:FuncData} (q6:cz K "with_goals" iS f6 d6)
    {f7:Addr} {d7:FuncData} (q7:cz K "beside" lB f7 d7)
    {f8:Addr} {d8:FuncData} (q8:cz K "first_alike" fK f8 d8)
    {f9:Addr} {d9:FuncData} (q9:cz K "likes_of_goals" dX f9 d9)
    {f10:Addr} {d10:FuncData} (q10:cz K "likeness" gC f10 d10)
    {f11:Addr} {d11:FuncData} (q11:cz K "is_whole" kK f11 d11)
    {f12:Addr} {d12:FuncData} (q12:cz K "is_between" iP f12 d12)
    {f13:Addr} {d13:FuncData} (q13:cz K "are_some" kJ f13 d13)
    {f14:Addr} {d14:FuncData} (q14:cz K "common" lC f14 d14)
    {f15:Addr} {d15:FuncData} (q15:cz K "goals_anew" gj f15 d15)
    {f16:Addr} {d16:FuncData} (q16:cz K "is_whole_part" eE f16 d16)
    {f17:Addr} {d17:FuncData} (q17:cz K "part_of" jT f17 d17)
    {f18:Addr} {d18:FuncData} (q18:cz K "folded" lD f18 d18)
    {f19:Addr} {d19:FuncData} (q19:cz K "all_places" iO f19 d19)
    {f20:Addr} {d20:FuncData} (q20:cz K "moves_at" iQ f20 d20)
    {f21:Addr} {d21:FuncData} (q21:cz K "moves_of_both" eF f21 d21)
    {f22:Addr} {d22:FuncData} (q22:cz K "ranked" lE f22 d22)
    {f23:Addr} {d23:FuncData} (q23:cz K "pulling_moves" dG f23 d23)
    {f24:Addr} {d24:FuncData} (q24:cz K "is_forced" gP f24 d24)
    {f25:Addr} {d25:FuncData} (q25:cz K "ranks_to" eJ f25 d25)
    {f26:Addr} {d26:FuncData} (q26:cz K "no_moves" iR f26 d26)
    {f27:Addr} {d27:FuncData} (q27:cz K "staying_moves" fX f27 d27)
    {f28:Addr} {d28:FuncData} (q28:cz K "without" jU f28 d28)
    {f29:Addr} {d29:FuncData} (q29:cz K "share_by_marks" cN f29 d29)
    {f30:Addr} {d30:FuncData} (q30:cz K "winners_and_moves" dh f30 d30)
    {f31:Addr} {d31:FuncData} (q31:cz K "winners_within" fG f31 d31)
    {f32:Addr} {d32:FuncData} (q32:cz K "won" AF f32 d32)
    (a33:PySem.W.nsIn K mainGlobals "law" = some (some (.ref f33))) (l33:K.lookup f33=some ⟨oc33,od33,.func (PySem.W.fnOf "law" "law" (dW j9) (cX j9) (aj j9) .none kV33 dc33 pm33 an33 cd33 ct33),sl33⟩) (c33:PySem.W.codeIn K cd33 "law" = true) (k33:PySem.W.keepIn K (.ref f33)=true)
    {t0:Tok} (qg0:PySem.W.nsIn K mainGlobals "GAIN" = some (some (.int 2 t0)))
    {t1:Tok} (qg1:PySem.W.nsIn K mainGlobals "GOALS" = some (some (.int 3 t1)))
    {t2:Tok} (qg2:PySem.W.nsIn K mainGlobals "MARK" = some (some (.int 1 t2)))
    {t3:Tok} (qg3:PySem.W.nsIn K mainGlobals "MOST_PLACES" = some (some (.int 24 t3)))
    {t4:Tok} (qg4:PySem.W.nsIn K mainGlobals "WHO" = some (some (.int 0 t4)))
    (qz0:PySem.W.nsIn K mainGlobals "all" = some none)
    (qz1:PySem.W.nsIn K mainGlobals "bool" = some none)
    (qz2:PySem.W.nsIn K mainGlobals "enumerate" = some none)
    (qz3:PySem.W.nsIn K mainGlobals "int" = some none)
    (qz4:PySem.W.nsIn K mainGlobals "isinstance" = some none)
    (qz5:PySem.W.nsIn K mainGlobals "len" = some none)
    (qz6:PySem.W.nsIn K mainGlobals "list" = some none)
    (qz7:PySem.W.nsIn K mainGlobals "max" = some none)
    (qz8:PySem.W.nsIn K mainGlobals "min" = some none)
    (qz9:PySem.W.nsIn K mainGlobals "range" = some none)
    (qz10:PySem.W.nsIn K mainGlobals "set" = some none)
    (qz11:PySem.W.nsIn K mainGlobals "sorted" = some none)
    (qz12:PySem.W.nsIn K mainGlobals "tuple" = some none)
    (qz13:PySem.W.nsIn K mainGlobals "zip" = some none)
    {cc0:Addr} (qm0:PySem.W.nsIn K mainGlobals "NoPart" = some (some (.ref cc0))) (qq0:PySem.W.excIn K cc0 DS De=true)
    {cc1:Addr} (qm1:PySem.W.nsIn K mainGlobals "NoRoom" = some (some (.ref cc1))) (qq1:PySem.W.excIn K cc1 DS De=true)
    {c_Share fi_Share:Addr} {od_Share an_Share:Option Addr} {sl_Share:Array (Option Value)} {oc_Share kV_Share dc_Share pm_Share cd_Share ct_Share:Value}
    (qa_Share:PySem.W.nsIn K mainGlobals "Share" = some (some (.ref c_Share)))
    (qi_Share:PySem.W.findIn K (.ref c_Share) "__init__" = some (some (.ref fi_Share))) (qf_Share:PySem.W.isFn K (.ref fi_Share)=true)
    (ql_Share:K.lookup fi_Share=some ⟨oc_Share,od_Share,.func (PySem.W.fnOf "__init__" "Share.__init__" (dW jS) (cX jS) (aj jS) .none kV_Share dc_Share pm_Share an_Share cd_Share ct_Share),sl_Share⟩)
    (qc_Share:PySem.W.codeIn K cd_Share "Share.__init__" = true) (qk_Share:PySem.W.keepIn K (.ref fi_Share)=true)
    (qpg_Share:PySem.W.plainGet K c_Share Str.empty=true) (qhd_Share:PySem.W.hasDictIn K c_Share=true) (qpo_Share:PySem.W.plainOver K c_Share=true) (qsa_Share:PySem.W.findIn K (.ref c_Share) "__setattr__" = some (some (.builtin "object.__setattr__"))) (qmk_Share:PySem.W.makesIn K c_Share=true) (qkc_Share:PySem.W.keepIn K (.ref c_Share)=true)
    (qn_Share_who:PySem.W.findIn K (.ref c_Share) "who" = some none)
    (qn_Share_places:PySem.W.findIn K (.ref c_Share) "places" = some none)
    (qn_Share_moves:PySem.W.findIn K (.ref c_Share) "moves" = some none)
    (nl:nI K=true) :
    nI K=true/\∃ fd:FuncData,(∀ (s:Shared) (v:Value),BindsTo s fd ⟨[v],[]⟩ [("_law_script",v)])/\∀ base:Heap,K.In base->base.Ns mainGlobals mg->bi l.prog w K mg base (cQ l.prog w mg) 33 fa fd ["_law_script"] (dt F0 1):=by
  have e:=hfa.symm.trans (PySem.W.mg_of X G a33);cases e;have b0:bM K d0 ["_law_script","_law_k"] []:=rE q0.fn fun _ _ _ _ _ _ _ _=>rfl
  have m0:=PySem.W.mg_of X G q0.ns;have b1:bM K d1 ["_law_script","_law_k"] []:=rE q1.fn fun _ _ _ _ _ _ _ _=>rfl
  have m1:=PySem.W.mg_of X G q1.ns;have b2:bM K d2 ["_law_number","_law_k"] []:=rE q2.fn fun _ _ _ _ _ _ _ _=>rfl
  have m2:=PySem.W.mg_of X G q2.ns;have b3:bM K d3 ["_law_number","_law_count"] []:=rE q3.fn fun _ _ _ _ _ _ _ _=>rfl
  have m3:=PySem.W.mg_of X G q3.ns;have b4:bM K d4 ["_law_number","_law_count","_law_high"] []:=Hu q4.fn fun _ _ _ _ _ _ _ _ _=>rfl
  have m4:=PySem.W.mg_of X G q4.ns;have b5:bM K d5 ["_law_script","_law_most"] []:=rE q5.fn fun _ _ _ _ _ _ _ _=>rfl
  have m5:=PySem.W.mg_of X G q5.ns;have b6:bM K d6 ["place","goals"] []:=rE q6.fn fun _ _ _ _ _ _ _ _=>rfl
  have m6:=PySem.W.mg_of X G q6.ns;have b7:bM K d7 ["one","other"] []:=rE q7.fn fun _ _ _ _ _ _ _ _=>rfl
  have m7:=PySem.W.mg_of X G q7.ns;have b8:bM K d8 ["signs"] []:=CW q8.fn fun _ _ _ _ _ _ _=>rfl
  have m8:=PySem.W.mg_of X G q8.ns;have b9:bM K d9 ["place","like"] []:=rE q9.fn fun _ _ _ _ _ _ _ _=>rfl
  have m9:=PySem.W.mg_of X G q9.ns;have b10:bM K d10 ["ground"] []:=CW q10.fn fun _ _ _ _ _ _ _=>rfl
  have m10:=PySem.W.mg_of X G q10.ns;have b11:bM K d11 ["thing"] []:=CW q11.fn fun _ _ _ _ _ _ _=>rfl
  have m11:=PySem.W.mg_of X G q11.ns;have b12:bM K d12 ["thing","low","high"] []:=Hu q12.fn fun _ _ _ _ _ _ _ _ _=>rfl
  have m12:=PySem.W.mg_of X G q12.ns;have b13:bM K d13 ["thing","count"] []:=rE q13.fn fun _ _ _ _ _ _ _ _=>rfl
  have m13:=PySem.W.mg_of X G q13.ns;have b14:bM K d14 ["some","others"] []:=rE q14.fn fun _ _ _ _ _ _ _ _=>rfl
  have m14:=PySem.W.mg_of X G q14.ns;have b15:bM K d15 ["place","inside"] []:=rE q15.fn fun _ _ _ _ _ _ _ _=>rfl
  have m15:=PySem.W.mg_of X G q15.ns;have b16:bM K d16 ["ground","inside"] []:=rE q16.fn fun _ _ _ _ _ _ _ _=>rfl
  have m16:=PySem.W.mg_of X G q16.ns;have b17:bM K d17 ["ground","inside"] []:=rE q17.fn fun _ _ _ _ _ _ _ _=>rfl
  have m17:=PySem.W.mg_of X G q17.ns;have b18:bM K d18 ["ground"] []:=CW q18.fn fun _ _ _ _ _ _ _=>rfl
  have m18:=PySem.W.mg_of X G q18.ns;have b19:bM K d19 ["ground"] []:=CW q19.fn fun _ _ _ _ _ _ _=>rfl
  have m19:=PySem.W.mg_of X G q19.ns;have b20:bM K d20 ["moves","places"] []:=rE q20.fn fun _ _ _ _ _ _ _ _=>rfl
  have m20:=PySem.W.mg_of X G q20.ns;have b21:bM K d21 ["moves","others"] []:=rE q21.fn fun _ _ _ _ _ _ _ _=>rfl
  have m21:=PySem.W.mg_of X G q21.ns;have b22:bM K d22 ["ranks"] []:=CW q22.fn fun _ _ _ _ _ _ _=>rfl
  have m22:=PySem.W.mg_of X G q22.ns;have b23:bM K d23 ["ground","who","ranks"] []:=Hu q23.fn fun _ _ _ _ _ _ _ _ _=>rfl
  have m23:=PySem.W.mg_of X G q23.ns;have b24:bM K d24 ["place","ways","who","ranks"] []:=IZ q24.fn fun _ _ _ _ _ _ _ _ _ _=>rfl
  have m24:=PySem.W.mg_of X G q24.ns;have b25:bM K d25 ["ground","inside","who","goals"] []:=IZ q25.fn fun _ _ _ _ _ _ _ _ _ _=>rfl
  have m25:=PySem.W.mg_of X G q25.ns;have b26:bM K d26 ["ground"] []:=CW q26.fn fun _ _ _ _ _ _ _=>rfl
  have m26:=PySem.W.mg_of X G q26.ns;have b27:bM K d27 ["ground","who","part"] []:=Hu q27.fn fun _ _ _ _ _ _ _ _ _=>rfl
  have m27:=PySem.W.mg_of X G q27.ns;have b28:bM K d28 ["some","others"] []:=rE q28.fn fun _ _ _ _ _ _ _ _=>rfl
  have m28:=PySem.W.mg_of X G q28.ns;have b29:bM K d29 ["ground","inside"] []:=rE q29.fn fun _ _ _ _ _ _ _ _=>rfl
  have m29:=PySem.W.mg_of X G q29.ns;have b30:bM K d30 ["ground","shares"] []:=rE q30.fn fun _ _ _ _ _ _ _ _=>rfl
  have m30:=PySem.W.mg_of X G q30.ns;have b31:bM K d31 ["ground","inside"] []:=rE q31.fn fun _ _ _ _ _ _ _ _=>rfl
  have m31:=PySem.W.mg_of X G q31.ns;have b32:bM K d32 ["ground"] []:=CW q32.fn fun _ _ _ _ _ _ _=>rfl
  have m32:=PySem.W.mg_of X G q32.ns;have F33:=u6 (st:=j9) l33 c33 k33;have FF_Share:=u6 (st:=jS) ql_Share qc_Share qk_Share;have bb_Share:=FF_Share.binds (ps:=["self","who","places","moves"]) fun _ _ _ _ _ _ us hl=>by
    obtain ⟨z0,r0,rfl,q0⟩:=D2.ju hl;obtain ⟨z1,r1,rfl,q1⟩:=D2.ju q0;obtain ⟨z2,r2,rfl,q2⟩:=D2.ju q1;obtain ⟨z3,r3,rfl,q3⟩:=D2.ju q2;obtain rfl:=List.eq_nil_of_length_eq_zero q3;exact rfl
  have mm_Share:=PySem.W.mg_of X G qa_Share;have ccl_Share:yD K c_Share:=⟨qpg_Share,qhd_Share,qpo_Share,qsa_Share⟩
  have h0:=PySem.W.mg_of X G qg0;have h1:=PySem.W.mg_of X G qg1;have h2:=PySem.W.mg_of X G qg2;have h3:=PySem.W.mg_of X G qg3;have h4:=PySem.W.mg_of X G qg4;have n0:=PySem.W.mg_of X G qm0;have n1:=PySem.W.mg_of X G qm1;have y0:=PySem.W.mg_none_of X G qz0;have y1:=PySem.W.mg_none_of X G qz1;have y2:=PySem.W.mg_none_of X G qz2;have y3:=PySem.W.mg_none_of X G qz3;have y4:=PySem.W.mg_none_of X G qz4;have y5:=PySem.W.mg_none_of X G qz5;have y6:=PySem.W.mg_none_of X G qz6;have y7:=PySem.W.mg_none_of X G qz7;have y8:=PySem.W.mg_none_of X G qz8;have y9:=PySem.W.mg_none_of X G qz9;have y10:=PySem.W.mg_none_of X G qz10;have y11:=PySem.W.mg_none_of X G qz11;have y12:=PySem.W.mg_none_of X G qz12;have y13:=PySem.W.mg_none_of X G qz13;refine ⟨nl,PySem.W.fnOf "law" "law" (dW j9) (cX j9) (aj j9) .none kV33 dc33 pm33 an33 cd33 ct33,fun s v=>.of_eq rfl,fun base _ _=>?_⟩;have QI_Share:bi l.prog w K mg base (cQ l.prog w mg) 1 fi_Share _ ["self","who","places","moves"] (HI c_Share ["who","places","moves"]):=Bc FF_Share ccl_Share qn_Share_who qn_Share_places qn_Share_moves;have Q0:bi l.prog w K mg base (cQ l.prog w mg) 1 f0 _ ["_law_script","_law_k"] (dt cv 2):=pM (k:=0) (W:=q0.fn) (b_len:=y5);have Q1:bi l.prog w K mg base (cQ l.prog w mg) 2 f1 _ ["_law_script","_law_k"] (dt bx 2):=sG (k:=1) (W:=q1.fn) (C27:=⟨Q0.mono (by decide),m0,q0.fn.kp,b0⟩);have Q2:bi l.prog w K mg base (cQ l.prog w mg) 1 f2 _ ["_law_number","_law_k"] (dt bJ 2):=sE (k:=0) (W:=q2.fn);have Q3:bi l.prog w K mg base (cQ l.prog w mg) 2 f3 _ ["_law_number","_law_count"] (dt cV 2):=sF (k:=1) (W:=q3.fn) (C29:=⟨Q2.mono (by decide),m2,q2.fn.kp,b2⟩) (b_int:=y3) (b_range:=y9) (b_sorted:=y11) (b_tuple:=y12);have Q4:bi l.prog w K mg base (cQ l.prog w mg) 3 f4 _ ["_law_number","_law_count","_law_high"] (dt cJ 3):=sI (k:=2) (W:=q4.fn) (C29:=⟨Q2.mono (by decide),m2,q2.fn.kp,b2⟩) (C30:=⟨Q3.mono (by decide),m3,q3.fn.kp,b3⟩);have Q5:bi l.prog w K mg base (cQ l.prog w mg) 4 f5 _ ["_law_script","_law_most"] (dt cF 2):=qW (k:=3) (W:=q5.fn) (C28:=⟨Q1.mono (by decide),m1,q1.fn.kp,b1⟩) (C31:=⟨Q4.mono (by decide),m4,q4.fn.kp,b4⟩) (b_len:=y5) (b_max:=y7) (b_min:=y8) (b_range:=y9) (b_tuple:=y12);have Q6:bi l.prog w K mg base (cQ l.prog w mg) 1 f6 _ ["place","goals"] (dt aI 2):=qX (k:=0) (W:=q6.fn) (g_GAIN:=h0) (g_MARK:=h2) (g_WHO:=h4) (b_tuple:=y12);have Q7:bi l.prog w K mg base (cQ l.prog w mg) 2 f7 _ ["one","other"] (dt eo 2):=yG (k:=1) (W:=q7.fn) (C12:=⟨Q6.mono (by decide),m6,q6.fn.kp,b6⟩) (g_GOALS:=h1) (g_MOST_PLACES:=h3) (b_len:=y5) (b_tuple:=y12) (m_NoRoom:=n1) (q_NoRoom:=qq1);have Q8:bi l.prog w K mg base (cQ l.prog w mg) 1 f8 _ ["signs"] (dt bX 1):=pL (k:=0) (W:=q8.fn) (b_tuple:=y12);have Q9:bi l.prog w K mg base (cQ l.prog w mg) 1 f9 _ ["place","like"] (dt aJ 2):=lN (k:=0) (W:=q9.fn) (g_GOALS:=h1) (b_set:=y10) (b_sorted:=y11);have Q10:bi l.prog w K mg base (cQ l.prog w mg) 2 f10 _ ["ground"] (dt bO 1):=uy (k:=1) (W:=q10.fn) (C16:=⟨Q8.mono (by decide),m8,q8.fn.kp,b8⟩) (C17:=⟨Q9.mono (by decide),m9,q9.fn.kp,b9⟩) (g_MARK:=h2) (g_WHO:=h4) (b_enumerate:=y2);have Q11:bi l.prog w K mg base (cQ l.prog w mg) 1 f11 _ ["thing"] (dt dO 1):=ux (k:=0) (W:=q11.fn) (b_bool:=y1) (b_int:=y3) (b_isinstance:=y4);have Q12:bi l.prog w K mg base (cQ l.prog w mg) 2 f12 _ ["thing","low","high"] (dt cu 3):=qV (k:=1) (W:=q12.fn) (C0:=⟨Q11.mono (by decide),m11,q11.fn.kp,b11⟩);have Q13:bi l.prog w K mg base (cQ l.prog w mg) 3 f13 _ ["thing","count"] (dt cZ 2):=uw (k:=2) (W:=q13.fn) (C1:=⟨Q12.mono (by decide),m12,q12.fn.kp,b12⟩) (b_isinstance:=y4) (b_tuple:=y12);have Q14:bi l.prog w K mg base (cQ l.prog w mg) 1 f14 _ ["some","others"] (dt bh 2):=yH (k:=0) (W:=q14.fn) (b_tuple:=y12);have Q15:bi l.prog w K mg base (cQ l.prog w mg) 2 f15 _ ["place","inside"] (dt cm 2):=qU (k:=1) (W:=q15.fn) (C4:=⟨Q14.mono (by decide),m14,q14.fn.kp,b14⟩) (g_GOALS:=h1);have Q16:bi l.prog w K mg base (cQ l.prog w mg) 2 f16 _ ["ground","inside"] (dt bZ 2):=mW (k:=1) (W:=q16.fn) (C4:=⟨Q14.mono (by decide),m14,q14.fn.kp,b14⟩) (g_GOALS:=h1) (b_all:=y0) (b_len:=y5);have Q17:bi l.prog w K mg base (cQ l.prog w mg) 4 f17 _ ["ground","inside"] (dt dH 2):=wV (k:=3) (W:=q17.fn) (C2:=⟨Q13.mono (by decide),m13,q13.fn.kp,b13⟩) (C14:=⟨Q15.mono (by decide),m15,q15.fn.kp,b15⟩) (C6:=⟨Q16.mono (by decide),m16,q16.fn.kp,b16⟩) (C12:=⟨Q6.mono (by decide),m6,q6.fn.kp,b6⟩) (b_len:=y5) (b_tuple:=y12) (m_NoPart:=n0) (q_NoPart:=qq0);have Q18:bi l.prog w K mg base (cQ l.prog w mg) 5 f18 _ ["ground"] (dt eu 1):=yI (k:=4) (W:=q18.fn) (C18:=⟨Q10.mono (by decide),m10,q10.fn.kp,b10⟩) (C17:=⟨Q9.mono (by decide),m9,q9.fn.kp,b9⟩) (C15:=⟨Q17.mono (by decide),m17,q17.fn.kp,b17⟩) (C12:=⟨Q6.mono (by decide),m6,q6.fn.kp,b6⟩) (b_set:=y10) (b_sorted:=y11) (b_tuple:=y12);have Q19:bi l.prog w K mg base (cQ l.prog w mg) 1 f19 _ ["ground"] (dt cE 1):=qT (k:=0) (W:=q19.fn) (b_len:=y5) (b_range:=y9) (b_tuple:=y12);have Q20:bi l.prog w K mg base (cQ l.prog w mg) 1 f20 _ ["moves","places"] (dt cO 2):=uz (k:=0) (W:=q20.fn) (b_enumerate:=y2) (b_tuple:=y12);have Q21:bi l.prog w K mg base (cQ l.prog w mg) 1 f21 _ ["moves","others"] (dt aE 2):=mX (k:=0) (W:=q21.fn) (b_tuple:=y12) (b_zip:=y13);have Q22:bi l.prog w K mg base (cQ l.prog w mg) 1 f22 _ ["ranks"] (dt cr 1):=yJ (k:=0) (W:=q22.fn) (b_enumerate:=y2) (b_tuple:=y12);have Q23:bi l.prog w K mg base (cQ l.prog w mg) 2 f23 _ ["ground","who","ranks"] (dt bo 3):=mY (k:=1) (W:=q23.fn) (C22:=⟨Q22.mono (by decide),m22,q22.fn.kp,b22⟩) (g_GOALS:=h1) (g_WHO:=h4) (b_tuple:=y12);have Q24:bi l.prog w K mg base (cQ l.prog w mg) 1 f24 _ ["place","ways","who","ranks"] (dt cg 4):=sD (k:=0) (W:=q24.fn) (g_WHO:=h4) (b_len:=y5);have Q25:bi l.prog w K mg base (cQ l.prog w mg) 2 f25 _ ["ground","inside","who","goals"] (dt cC 4):=uB (k:=1) (W:=q25.fn) (C4:=⟨Q14.mono (by decide),m14,q14.fn.kp,b14⟩) (C20:=⟨Q24.mono (by decide),m24,q24.fn.kp,b24⟩) (g_GOALS:=h1) (b_len:=y5) (b_list:=y6) (b_range:=y9) (b_tuple:=y12);have Q26:bi l.prog w K mg base (cQ l.prog w mg) 1 f26 _ ["ground"] (dt cc 1):=uA (k:=0) (W:=q26.fn) (b_tuple:=y12);have Q27:bi l.prog w K mg base (cQ l.prog w mg) 2 f27 _ ["ground","who","part"] (dt bG 3):=mZ (k:=1) (W:=q27.fn) (C4:=⟨Q14.mono (by decide),m14,q14.fn.kp,b14⟩) (C7:=⟨Q26.mono (by decide),m26,q26.fn.kp,b26⟩) (g_GOALS:=h1) (g_WHO:=h4) (b_list:=y6) (b_tuple:=y12);have Q28:bi l.prog w K mg base (cQ l.prog w mg) 1 f28 _ ["some","others"] (dt bV 2):=wW (k:=0) (W:=q28.fn) (b_tuple:=y12);have Q30:bi l.prog w K mg base (cQ l.prog w mg) 2 f30 _ ["ground","shares"] (dt (bn c_Share) 2):=jV (k:=1) (W:=q30.fn) (C8:=⟨Q21.mono (by decide),m21,q21.fn.kp,b21⟩) (C7:=⟨Q26.mono (by decide),m26,q26.fn.kp,b26⟩) (b_tuple:=y12) (cl_Share:=ccl_Share) (n_Share_moves:=qn_Share_moves) (n_Share_places:=qn_Share_places) (n_Share_who:=qn_Share_who);have HH31:∀ n,bi l.prog w K mg base (cQ l.prog w mg) (2*n+3) f31 _ ["ground","inside"] (dt (aL c_Share n) 2)->bi l.prog w K mg base (cQ l.prog w mg) (2*n+4) f29 _ ["ground","inside"] (dt (bf c_Share n) 2):=fun n ih=>lO (k:=2*n+3) (W:=q29.fn) (C25:=⟨ih,m31,q31.fn.kp,b31⟩) (C9:=⟨Q20.mono (by omega),m20,q20.fn.kp,b20⟩) (C8:=⟨Q21.mono (by omega),m21,q21.fn.kp,b21⟩) (C23:=⟨Q23.mono (by omega),m23,q23.fn.kp,b23⟩) (C22:=⟨Q22.mono (by omega),m22,q22.fn.kp,b22⟩) (C21:=⟨Q25.mono (by omega),m25,q25.fn.kp,b25⟩) (C10:=⟨Q27.mono (by omega),m27,q27.fn.kp,b27⟩) (C5:=⟨Q28.mono (by omega),m28,q28.fn.kp,b28⟩) (g_MARK:=h2) (b_enumerate:=y2) (b_len:=y5) (b_max:=y7) (cl_Share:=ccl_Share) (n_Share_moves:=qn_Share_moves) (n_Share_places:=qn_Share_places) (n_Share_who:=qn_Share_who) (m_Share:=mm_Share) (MK_Share:=⟨qmk_Share,qi_Share,qf_Share,qkc_Share⟩) (I_Share:=QI_Share) (B_Share:=bb_Share) (hk:=by omega)
  have Q31:∀ n,bi l.prog w K mg base (cQ l.prog w mg) (2*n+3) f31 _ ["ground","inside"] (dt (aL c_Share n) 2):=fun n=>by
    induction n with
    | zero=>exact x0
    | succ n ih=>exact lP (k:=2*n+4) (W:=q31.fn) (C24:=⟨HH31 n ih,m29,q29.fn.kp,b29⟩) (C11:=⟨Q30.mono (by omega),m30,q30.fn.kp,b30⟩) (C5:=⟨Q28.mono (by omega),m28,q28.fn.kp,b28⟩) (b_len:=y5) (cl_Share:=ccl_Share) (n_Share_places:=qn_Share_places)
  have Q31:=Q31 14;have Q32:bi l.prog w K mg base (cQ l.prog w mg) 32 f32 _ ["ground"] (dt (i9 c_Share) 1):=Fp (k:=31) (W:=q32.fn) (C3:=⟨Q19.mono (by decide),m19,q19.fn.kp,b19⟩) (C25:=⟨Q31.mono (by decide),m31,q31.fn.kp,b31⟩);have Q33:bi l.prog w K mg base (cQ l.prog w mg) 33 fa _ ["_law_script"] (dt (vQ c_Share) 1):=Fn (k:=32) (W:=F33) (C32:=⟨Q5.mono (by decide),m5,q5.fn.kp,b5⟩) (C28:=⟨Q1.mono (by decide),m1,q1.fn.kp,b1⟩) (C13:=⟨Q7.mono (by decide),m7,q7.fn.kp,b7⟩) (C19:=⟨Q18.mono (by decide),m18,q18.fn.kp,b18⟩) (C18:=⟨Q10.mono (by decide),m10,q10.fn.kp,b10⟩) (C26:=⟨Q32.mono (by decide),m32,q32.fn.kp,b32⟩) (b_enumerate:=y2) (b_len:=y5) (b_set:=y10) (b_sorted:=y11) (b_tuple:=y12);exact Q33.imp Fq
end G
open PySem PySem.W PyProof.Rows
theorem D2.walkZ {q:Program} {loose:List Str} {XP:(Str->Option Value)->Heap->Prop} {K:Params->PySem.W.Frag} {as:List Addr} {n t:Nat} {r:PySem.W.RowW} {d:DefRec} {kwd:List (Str×Expr)} {run:Value->List Value->Sem Value} (has:∀ P:Params,as=List.map (fun x=>x.fst) (K P))
    (h:PySem.W.WalkO q loose XP (PySem.W.kHook K as has).says r d kwd run):PySem.W.WalkX q loose XP (PySem.W.X.obsZ as) (PySem.W.X.valZ K n t) r d kwd run:=fun w s₀ s₁ mg mb G e a o pm cd doc dV kV h1 h2 h3 h4 h5 h6 args vals as' L =>
  h w s₀ s₁ mg mb G ((PySem.W.kHook K as has).keeps w _ _ ((PySem.W.kHook K as has).of w s₀ (congrArg Prod.fst e)) L.keeps) a o pm cd doc dV kV h1 h2 h3 h4 h5 h6 args vals as'
set_option maxRecDepth 100000 in
set_option maxHeartbeats 0 in
theorem PySem.Challenge.cw_duelground_k81_whole_folded_holds : PySem.Challenge.rw_duelground_k81_whole_folded.Holds := by
  w_on;o_law;z_head;(case hw=>w_witness2)
  refine D2.walkZ (fun P=>rfl) ?_;refine D2.IT (l:=PySem.Challenge.rw_duelground_k81_whole_folded) (k:=33) (x := "_law_script") (F:=G.F0) rfl rfl ⟨rfl,by decide,by decide⟩ (fun w h Y=>PySem.W.kIn_of Y) G.vP ?F
  case F =>
    intro w mg fa h KX GG hmg;refine' G.DP KX GG hmg ?q0 ?q1 ?q2 ?q3 ?q4 ?q5 ?q6 ?q7 ?q8 ?q9 ?q10 ?q11 ?q12 ?q13 ?q14 ?q15 ?q16 ?q17 ?q18 ?q19 ?q20 ?q21 ?q22 ?q23 ?q24 ?q25 ?q26 ?q27 ?q28 ?q29 ?q30 ?q31 ?q32 ?a33 ?l33 ?c33 ?k33 ?qg0 ?qg1 ?qg2 ?qg3 ?qg4 ?qz0 ?qz1 ?qz2 ?qz3 ?qz4 ?qz5 ?qz6 ?qz7 ?qz8 ?qz9 ?qz10 ?qz11 ?qz12 ?qz13 ?qm0 ?qq0 ?qm1 ?qq1 ?qa_Share ?qi_Share ?qf_Share ?ql_Share ?qc_Share ?qk_Share ?qpg_Share ?qhd_Share ?qpo_Share ?qsa_Share ?qmk_Share ?qkc_Share ?qn_Share_who ?qn_Share_places ?qn_Share_moves ?nl
    (case q0=>refine' D2.aZ ?a ?l ?c ?k;(case a=>k_is);(case l=>k_is);(case c=>k_is);(case k=>k_is))
    (case q1=>refine' D2.aZ ?a ?l ?c ?k;(case a=>k_is);(case l=>k_is);(case c=>k_is);(case k=>k_is))
    (case q2=>refine' D2.aZ ?a ?l ?c ?k;(case a=>k_is);(case l=>k_is);(case c=>k_is);(case k=>k_is))
    (case q3=>refine' D2.aZ ?a ?l ?c ?k;(case a=>k_is);(case l=>k_is);(case c=>k_is);(case k=>k_is))
    (case q4=>refine' D2.aZ ?a ?l ?c ?k;(case a=>k_is);(case l=>k_is);(case c=>k_is);(case k=>k_is))
    (case q5=>refine' D2.aZ ?a ?l ?c ?k;(case a=>k_is);(case l=>k_is);(case c=>k_is);(case k=>k_is))
    (case q6=>refine' D2.aZ ?a ?l ?c ?k;(case a=>k_is);(case l=>k_is);(case c=>k_is);(case k=>k_is))
    (case q7=>refine' D2.aZ ?a ?l ?c ?k;(case a=>k_is);(case l=>k_is);(case c=>k_is);(case k=>k_is))
    (case q8=>refine' D2.aZ ?a ?l ?c ?k;(case a=>k_is);(case l=>k_is);(case c=>k_is);(case k=>k_is))
    (case q9=>refine' D2.aZ ?a ?l ?c ?k;(case a=>k_is);(case l=>k_is);(case c=>k_is);(case k=>k_is))
    (case q10=>refine' D2.aZ ?a ?l ?c ?k;(case a=>k_is);(case l=>k_is);(case c=>k_is);(case k=>k_is))
    (case q11=>refine' D2.aZ ?a ?l ?c ?k;(case a=>k_is);(case l=>k_is);(case c=>k_is);(case k=>k_is))
    (case q12=>refine' D2.aZ ?a ?l ?c ?k;(case a=>k_is);(case l=>k_is);(case c=>k_is);(case k=>k_is))
    (case q13=>refine' D2.aZ ?a ?l ?c ?k;(case a=>k_is);(case l=>k_is);(case c=>k_is);(case k=>k_is))
    (case q14=>refine' D2.aZ ?a ?l ?c ?k;(case a=>k_is);(case l=>k_is);(case c=>k_is);(case k=>k_is))
    (case q15=>refine' D2.aZ ?a ?l ?c ?k;(case a=>k_is);(case l=>k_is);(case c=>k_is);(case k=>k_is))
    (case q16=>refine' D2.aZ ?a ?l ?c ?k;(case a=>k_is);(case l=>k_is);(case c=>k_is);(case k=>k_is))
    (case q17=>refine' D2.aZ ?a ?l ?c ?k;(case a=>k_is);(case l=>k_is);(case c=>k_is);(case k=>k_is))
    (case q18=>refine' D2.aZ ?a ?l ?c ?k;(case a=>k_is);(case l=>k_is);(case c=>k_is);(case k=>k_is))
    (case q19=>refine' D2.aZ ?a ?l ?c ?k;(case a=>k_is);(case l=>k_is);(case c=>k_is);(case k=>k_is))
    (case q20=>refine' D2.aZ ?a ?l ?c ?k;(case a=>k_is);(case l=>k_is);(case c=>k_is);(case k=>k_is))
    (case q21=>refine' D2.aZ ?a ?l ?c ?k;(case a=>k_is);(case l=>k_is);(case c=>k_is);(case k=>k_is))
    (case q22=>refine' D2.aZ ?a ?l ?c ?k;(case a=>k_is);(case l=>k_is);(case c=>k_is);(case k=>k_is))
    (case q23=>refine' D2.aZ ?a ?l ?c ?k;(case a=>k_is);(case l=>k_is);(case c=>k_is);(case k=>k_is))
    (case q24=>refine' D2.aZ ?a ?l ?c ?k;(case a=>k_is);(case l=>k_is);(case c=>k_is);(case k=>k_is))
    (case q25=>refine' D2.aZ ?a ?l ?c ?k;(case a=>k_is);(case l=>k_is);(case c=>k_is);(case k=>k_is))
    (case q26=>refine' D2.aZ ?a ?l ?c ?k;(case a=>k_is);(case l=>k_is);(case c=>k_is);(case k=>k_is))
    (case q27=>refine' D2.aZ ?a ?l ?c ?k;(case a=>k_is);(case l=>k_is);(case c=>k_is);(case k=>k_is))
    (case q28=>refine' D2.aZ ?a ?l ?c ?k;(case a=>k_is);(case l=>k_is);(case c=>k_is);(case k=>k_is))
    (case q29=>refine' D2.aZ ?a ?l ?c ?k;(case a=>k_is);(case l=>k_is);(case c=>k_is);(case k=>k_is))
    (case q30=>refine' D2.aZ ?a ?l ?c ?k;(case a=>k_is);(case l=>k_is);(case c=>k_is);(case k=>k_is))
    (case q31=>refine' D2.aZ ?a ?l ?c ?k;(case a=>k_is);(case l=>k_is);(case c=>k_is);(case k=>k_is))
    (case q32=>refine' D2.aZ ?a ?l ?c ?k;(case a=>k_is);(case l=>k_is);(case c=>k_is);(case k=>k_is))
    (case a33=>k_is)
    (case l33=>k_is)
    (case c33=>k_is)
    (case k33=>k_is)
    (case qg0=>k_is)
    (case qg1=>k_is)
    (case qg2=>k_is)
    (case qg3=>k_is)
    (case qg4=>k_is)
    (case qz0=>k_is)
    (case qz1=>k_is)
    (case qz2=>k_is)
    (case qz3=>k_is)
    (case qz4=>k_is)
    (case qz5=>k_is)
    (case qz6=>k_is)
    (case qz7=>k_is)
    (case qz8=>k_is)
    (case qz9=>k_is)
    (case qz10=>k_is)
    (case qz11=>k_is)
    (case qz12=>k_is)
    (case qz13=>k_is)
    (case qm0=>k_is)
    (case qq0=>k_exc)
    (case qm1=>k_is)
    (case qq1=>k_exc)
    (case qa_Share=>k_is)
    (case qi_Share=>k_is)
    (case qf_Share=>k_is)
    (case ql_Share=>k_is)
    (case qc_Share=>k_is)
    (case qk_Share=>k_is)
    (case qpg_Share=>k_is)
    (case qhd_Share=>k_is)
    (case qpo_Share=>k_is)
    (case qsa_Share=>k_is)
    (case qmk_Share=>k_is)
    (case qkc_Share=>k_is)
    (case qn_Share_who=>k_is)
    (case qn_Share_places=>k_is)
    (case qn_Share_moves=>k_is)
    (case nl=>first | rfl | k_is | decide)

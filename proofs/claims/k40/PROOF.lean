import PyProof.Rows.All
import Wide.All
import OpenK.AllK
import Wide.FinOn
import Lean
import PyProof.EqAt
import PyProof.EqKinds
import PyProof.TupleCall
import PySem.Challenge.RW_duelground_k40_holds
set_option Elab.async false
set_option linter.all false
set_option maxRecDepth 100000
set_option bootstrap.genMatcherCode false
set_option genSizeOf false
set_option compiler.extract_closed false
set_option genSizeOfSpec false
local macro_rules | `(tactic| omega) => `(tactic| first | lia | omega +splitDisjunctions)
namespace L2
open PySem PySem.Spec PyProof.Rows
noncomputable abbrev dD:=Sum Int Str
noncomputable def pQ:dD->Value->Bool
  | .inl k,v=>Value.isInt k v
  | .inr x,v=>Value.isStrOf x v
noncomputable def HR (w:World):dD->Int
  | .inl k=>hashInt k
  | .inr x=>hashStr w x
theorem cR:∀ {k:dD} {v:Value},pQ k v=true->(∃ i t,k=Sum.inl i/\v=Value.int i t)\/(∃ x t,k=Sum.inr x/\v=Value.str x t)
  | .inl i,v,h=>by
    obtain ⟨t,e⟩:=Value.isInt_shape (k:=i) (v:=v) h;exact .inl ⟨i,t,rfl,e⟩
  | .inr x,v,h=>by
    obtain ⟨t,e⟩:=Value.isStrOf_shape (x:=x) (v:=v) h;exact .inr ⟨x,t,rfl,e⟩
theorem yl (i:Int) (t:Tok):pQ (.inl i) (.int i t)=true:=by simp [pQ,Value.isInt]
theorem ym (x:Str) (t:Tok):pQ (.inr x) (.str x t)=true:=by simp [pQ,Value.isStrOf]
theorem Ec (a b:Int):decide ((Sum.inl a:dD)=Sum.inl b)=(a==b):=by
  by_cases e:a=b
  · subst e;simp
  · have h:¬ (Sum.inl a:dD)=Sum.inl b:=fun q=>e (Sum.inl.inj q)
    rw [decide_eq_false h];exact (beq_eq_false_iff_ne.mpr e).symm
theorem Ef (a b:Str):decide ((Sum.inr a:dD)=Sum.inr b)=decide (a=b):=by
  by_cases e:a=b
  · subst e;simp
  · have h:¬ (Sum.inr a:dD)=Sum.inr b:=fun q=>e (Sum.inr.inj q)
    rw [decide_eq_false h,decide_eq_false e]
theorem Ed (a:Int) (b:Str):decide ((Sum.inl a:dD)=Sum.inr b)=false:=decide_eq_false (fun q=>nomatch q)
theorem Ee (a:Str) (b:Int):decide ((Sum.inr a:dD)=Sum.inl b)=false:=decide_eq_false (fun q=>nomatch q)
noncomputable def dB (prog:Program) (w:World):PySem.KeyKind prog w dD where
  is:=pQ
  hash:=HR w
  inj:=fun v a b ha hb=>by
    rcases cR ha with ⟨i,t,rfl,rfl⟩ | ⟨x,t,rfl,rfl⟩
    · rcases cR hb with ⟨j,u,rfl,e⟩ | ⟨y,u,rfl,e⟩
      · injection e with e1 _;rw [e1]
      · exact nomatch e
    · rcases cR hb with ⟨j,u,rfl,e⟩ | ⟨y,u,rfl,e⟩
      · exact nomatch e
      · injection e with e1 _;rw [e1]
  byValue:=fun k v h=>by
    rcases cR h with ⟨i,t,rfl,rfl⟩ | ⟨x,t,rfl,rfl⟩ <;> rfl
  pyHash:=fun hv h=>by
    rcases cR hv with ⟨i,t,rfl,rfl⟩ | ⟨x,t,rfl,rfl⟩
    · exact wpAny_pyHash_int h
    · exact wpAny_pyHash_str h
  eqBool:=fun hu hv h=>by
    rcases cR hu with ⟨i,t,rfl,rfl⟩ | ⟨x,t,rfl,rfl⟩
    · rcases cR hv with ⟨j,u,rfl,rfl⟩ | ⟨y,u,rfl,rfl⟩
      · rw [Ec] at h;exact wpAny_eqBool_int h
      · rw [Ed] at h;exact SeqAt.EqAt.int_str i t y u _ _ _ _ h
    · rcases cR hv with ⟨j,u,rfl,rfl⟩ | ⟨y,u,rfl,rfl⟩
      · rw [Ee] at h;exact SeqAt.EqAt.str_int x t j u _ _ _ _ h
      · rw [Ef] at h;exact wpAny_eqBool_str h
  «strs»:=fun k x t v h=>by
    rcases cR h with ⟨i,u,rfl,e⟩ | ⟨y,u,rfl,e⟩
    · exact nomatch e
    · injection e with e1 _
      subst e1;cases v <;> rfl
theorem ut (prog:Program) (w:World) (i:Int) (t:Tok):(dB prog w).is (.inl i) (.int i t)=true:=yl i t
theorem uu (prog:Program) (w:World) (x:Str) (t:Tok):(dB prog w).is (.inr x) (.str x t)=true:=ym x t
inductive V where
  | non | bl (b:Bool) | int (i:Int) | str (x:Str) | byt (b:Array UInt8) | flt (b:UInt64) | ref (a:Addr) | ty (n:String)
  deriving DecidableEq
noncomputable def bW:V->Value->Prop
  | .non,u=>u=Value.none
  | .bl b,u=>u=Value.bool b
  | .int i,u=>∃ t,u=Value.int i t
  | .str x,u=>∃ t,u=Value.str x t
  | .byt b,u=>∃ t,u=Value.bytes b t
  | .flt b,u=>∃ t,u=Value.float b t
  | .ref a,u=>u=Value.ref a
  | .ty n,u=>u=Value.type n
noncomputable abbrev bE:List V->List Value->Prop:=Paired bW
theorem bE.length {xs:List V} {us:List Value} (r:bE xs us):xs.length=us.length:=Paired.length r
theorem bE.get:∀ {xs:List V} {us:List Value} {i:Nat} {x:V},bE xs us->xs[i]?=some x->∃ u,us[i]?=some u/\bW x u
  | _,_,_,_,.nil,e=>by simp at e
  | _,_,0,_,.cons r _,e=>by simp at e;subst e;exact ⟨_,rfl,r⟩
  | _,_,i+1,x,.cons _ t,e=>by
    obtain ⟨u,h1,h2⟩:=bE.get (i:=i) (x:=x) t (by simpa using e);exact ⟨u,by simpa using h1,h2⟩
theorem bE.set {x:V} {u:Value} (r:bW x u):∀ {xs:List V} {us:List Value} (i:Nat),bE xs us->bE (xs.set i x) (us.set i u)
  | _,_,_,.nil=>.nil
  | _,_,0,.cons _ t=>.cons r t
  | _,_,i+1,.cons q t=>.cons q (bE.set r i t)
theorem bE.append:∀ {xs ys:List V} {us ws:List Value},bE xs us->bE ys ws->bE (xs++ys) (us++ws)
  | _,_,_,_,.nil,s=>s
  | _,_,_,_,.cons r t,s=>.cons r (bE.append t s)
theorem bE.take:∀ {xs:List V} {us:List Value} (n:Nat),bE xs us->bE (xs.take n) (us.take n)
  | _,_,0,_=>.nil
  | _,_,_+1,.nil=>.nil
  | _,_,n+1,.cons r t=>.cons r (bE.take n t)
theorem bE.drop:∀ {xs:List V} {us:List Value} (n:Nat),bE xs us->bE (xs.drop n) (us.drop n)
  | _,_,0,r=>r
  | _,_,_+1,.nil=>.nil
  | _,_,n+1,.cons _ t=>bE.drop n t
noncomputable def ny:Option V->Option Value->Prop
  | some v,some u=>bW v u
  | none,none=>True
  | _,_=>False
noncomputable def KV {κ:Type}:List (κ×V)->List (κ×Value)->Prop:=Paired fun (p:κ×V) (q:κ×Value)=>p.1=q.1/\bW p.2 q.2
noncomputable def kV:dD->V
  | .inl i=>.int i
  | .inr x=>.str x
inductive HO where
  /-- a list -/
  | lst (xs:List V)
  /-- a tuple (never changes) -/
  | tup (xs:List V)
  /-- a dict whose keys are ints and texts;one whose keys are tuples of ints and texts (the empty one is both) -/
  | dK (kvs:List (dD×V)) | dT (kvs:List (List dD×V))
  /-- a set of ints: its members,its size -/
  | set (S:Int->Bool) (n:Nat)
  /-- an instance of the class at C,its dict at dx,its attributes -/
  | ins (C dx:Addr) (fs:List (Str×V))
  /-- the dict of the instance at x -/
  | own (x:Addr)
  /-- the dict of an exception -/
  | xd (fs:List (Str×V))
  /-- a bound method,f of x -/
  | met (f x:Addr)
  /-- a range object lo,lo+1,.. below hi -/
  | rng (lo hi:Int)
  /-- a thing that is known to the object (the script;a dict while a loop walks it): read,never written while it is so -/
  | frz (o:Obj) (u:HO)
  /-- a code object's table -/
  | tbl (ps:Array Value)
  /-- any other thing,by what is true of its one object (a def of one's own: SetO a S n:=HO.ext fun h=>..) -/
  | ext (φ:Heap->Prop)
noncomputable abbrev Hp:=Addr->Option HO
noncomputable def de (H:Hp) (a:Addr) (o:HO):Hp:=fun b=>if b=a then some o else H b
theorem bq {H:Hp} {a:Addr} {o:HO}:de H a o a=some o:=by unfold de;rw [if_pos rfl]
theorem aB {H:Hp} {a b:Addr} {o:HO} (h:b≠a):de H a o b=H b:=by unfold de;rw [if_neg h]
theorem FZ {H:Hp} {a b:Addr} {o u:HO} (h:H a=some o) (h':H b=some u) (d:o≠u):a≠b:=by
  intro e;subst e;rw [h] at h';exact d (Option.some.inj h')
theorem bg {H:Hp} {a b:Addr} {o:HO} (h:H a=some o) (h':H b=none):a≠b:=by
  intro e;subst e;rw [h] at h';cases h'
noncomputable def h9 (h:Heap) (a:Addr) (items:Array Value):Prop:=∃ o,h.get? a=some o/\o.cls=.type "tuple" /\ (∃ n,o.data=.seq items n)/\o.dict=none
theorem h9.is {h:Heap} {a:Addr} {items:Array Value} (x:h9 h a items):IsTup h a items:=by
  obtain ⟨o,e,c,n,_⟩:=x;exact ⟨o,e,c,n⟩
theorem h9.lt {h:Heap} {a:Addr} {items:Array Value} (x:h9 h a items):a < h.objs.size:=by
  obtain ⟨o,e,_⟩:=x;exact Heap.lt_size e
theorem h9.new (h:Heap) (items:Array Value):h9 (h.push { cls:=.type "tuple",data:=.seq items }) h.objs.size items:=⟨_,Heap.get?_push_size _ rfl,rfl,⟨_,rfl⟩,rfl⟩
section
variable (P:Program) (w:World)
noncomputable def cm (H:Hp) (h:Heap) (a:Addr):HO->Prop
  | .lst xs=>xs.length<=sizeLine/\∃ (its:List Value) (n:Nat),bE xs its/\h.get? a=some { cls:=.type "list",data:=.seq its.toArray n }
  | .tup xs=>xs.length<=sizeLine/\∃ its:List Value,bE xs its/\h9 h a its.toArray
  | .dK kvs=>kvs.length<=sizeLine/\(a==sysModules)=false/\∃ vs,KV kvs vs/\h.DictOf (dB P w) a vs
  | .dT kvs=>kvs.length<=sizeLine/\(a==sysModules)=false/\∃ xs:List (List dD×Addr×Value),
      Paired (fun (p:List dD×V) (q:List dD×Addr×Value)=>p.1=q.1/\H q.2.1=some (.tup (p.1.map kV))/\bW p.2 q.2.2) kvs xs /\
      ∃ o es ep,h.get? a=some o/\o.ExactDict/\o.data=.dict es ep/\es.toList=xs.map (entryOfKey (tupleKind (dB P w)))/\(xs.map (·.1)).Nodup
  | .set S n=>h.SetOf (intKind P w) a S n
  | .ins C dx fs=>H dx=some (.own a)/\fs.length<=1000/\dx≠a/\h.get? a=some (PySem.W.instObj C dx) /\
      ∃ mA,h.Ns1 dx mA/\(∀ f,ny (fs.lookup f) (mA f))/\PySem.Within mA (fs.map (·.1))
  | .own _=>∃ o,h.get? a=some o
  | .xd fs=>∃ mA,h.Ns1 a mA/\∀ f,ny (fs.lookup f) (mA f)
  | .rng lo hi=>∃ t u v,h.get? a=some { cls:=.type "range",data:=.fields #[.int lo t,.int hi u,.int 1 v] }
  | .frz o u=>h.get? a=some o/\cm H h a u
  | .tbl ps=>h.get? a=some { cls:=.none,data:=.fields ps }
  | .met f x=>h.get? a=some (PySem.W.methodObj (.ref f) (.ref x))
  | .ext φ=>φ h/\(∃ o,h.get? a=some o)/\∀ h1 h2:Heap,φ h1->(∀ o,h1.get? a=some o->h2.get? a=some o)->φ h2
noncomputable def iO (H:Hp) (h:Heap):Prop:=∀ a o,H a=some o->cm P w H h a o
end
section
variable {P:Program} {w:World} {H H':Hp} {h h':Heap} {a:Addr} {o:HO}
theorem cm.lt (x:cm P w H h a o):a < h.objs.size:=by
  cases o with
  | lst xs=>obtain ⟨_,_,_,_,e⟩:=x;exact Heap.lt_size e
  | tup xs=>obtain ⟨_,_,_,p⟩:=x;exact p.lt
  | dK kvs=>obtain ⟨_,_,_,_,o,_,_,e,_⟩:=x;exact Heap.lt_size e
  | dT kvs=>obtain ⟨_,_,_,_,o,_,_,e,_⟩:=x;exact Heap.lt_size e
  | set S n=>obtain ⟨o,_,_,_,e,_⟩:=x;exact Heap.lt_size e
  | ins C dx fs=>obtain ⟨_,_,_,e,_⟩:=x;exact Heap.lt_size e
  | own y=>obtain ⟨_,e⟩:=x;exact Heap.lt_size e
  | xd fs=>obtain ⟨_,⟨_,_,_,e,_⟩,_⟩:=x;exact Heap.lt_size e
  | rng lo hi=>obtain ⟨_,_,_,e⟩:=x;exact Heap.lt_size e
  | frz ob u=>obtain ⟨e,_⟩:=x;exact Heap.lt_size e
  | tbl ps=>exact Heap.lt_size (show h.get? a=some _ from x)
  | met f y=>exact Heap.lt_size (show h.get? a=some _ from x)
  | ext φ=>obtain ⟨_,⟨_,e⟩,_⟩:=x;exact Heap.lt_size e
theorem Paired.mapP {α β:Type} {F G:α->β->Prop}:∀ {l₁:List α} {l₂:List β},Paired F l₁ l₂->(∀ a b,F a b->G a b)->Paired G l₁ l₂
  | _,_,.nil,_=>.nil
  | _,_,.cons r t,f=>.cons (f _ _ r) (Paired.mapP t f)
theorem cm.stay (x:cm P w H h a o) (k:∀ b u,(b=a\/H b=some (.own a))->h.get? b=some u->h'.get? b=some u)
    (ho:∀ b,H b=some (.own a)->H' b=some (.own a)) (ht:∀ b xs,H b=some (.tup xs)->H' b=some (.tup xs)):cm P w H' h' a o:=by
  induction o with
  | lst xs=>obtain ⟨z,its,n,r,e⟩:=x;exact ⟨z,its,n,r,k _ _ (.inl rfl) e⟩
  | tup xs=>obtain ⟨z,its,r,ob,e,c⟩:=x;exact ⟨z,its,r,ob,k _ _ (.inl rfl) e,c⟩
  | dK kvs=>obtain ⟨z,y,vs,r,ob,es,ep,e,c⟩:=x;exact ⟨z,y,vs,r,ob,es,ep,k _ _ (.inl rfl) e,c⟩
  | dT kvs =>
    obtain ⟨z,y,xs,r,ob,es,ep,e,c⟩:=x;exact ⟨z,y,xs,Paired.mapP r fun p q z=>⟨z.1,ht _ _ z.2.1,z.2.2⟩,ob,es,ep,k _ _ (.inl rfl) e,c⟩
  | set S n=>obtain ⟨ob,es,ep,t,e,c⟩:=x;exact ⟨ob,es,ep,t,k _ _ (.inl rfl) e,c⟩
  | ins C dx fs =>
    obtain ⟨d,z,ne,e,mA,⟨od,es,ep,e2,c⟩,r⟩:=x;exact ⟨ho _ d,z,ne,k _ _ (.inl rfl) e,mA,⟨od,es,ep,k _ _ (.inr d) e2,c⟩,r⟩
  | own y=>obtain ⟨ob,e⟩:=x;exact ⟨ob,k _ _ (.inl rfl) e⟩
  | xd fs=>obtain ⟨mA,⟨od,es,ep,e,c⟩,r⟩:=x;exact ⟨mA,⟨od,es,ep,k _ _ (.inl rfl) e,c⟩,r⟩
  | rng lo hi=>obtain ⟨t,u,v,e⟩:=x;exact ⟨t,u,v,k _ _ (.inl rfl) e⟩
  | frz ob u ih=>obtain ⟨e,q⟩:=x;exact ⟨k _ _ (.inl rfl) e,ih q⟩
  | tbl ps =>
    have e:h.get? a=some { cls:=.none,data:=.fields ps }:=x;show h'.get? a=some { cls:=.none,data:=.fields ps };exact k a _ (.inl rfl) e
  | met f y =>
    have e:h.get? a=some (PySem.W.methodObj (.ref f) (.ref y)):=x;show h'.get? a=some (PySem.W.methodObj (.ref f) (.ref y));exact k a _ (.inl rfl) e
  | ext φ=>obtain ⟨p,⟨o,e⟩,st⟩:=x;exact ⟨st _ _ p fun o q=>k _ _ (.inl rfl) q,⟨o,k _ _ (.inl rfl) e⟩,st⟩
theorem iO.lt (x:iO P w H h) (e:H a=some o):a < h.objs.size:=(x a o e).lt
theorem iO.fresh (x:iO P w H h) (e:h.objs.size<=a):H a=none:=by
  cases q:H a with
  | none=>rfl
  | some u=>exact absurd (Nat.lt_of_lt_of_le (x.lt q) e) (Nat.lt_irrefl _)
theorem iO.kept (x:iO P w H h) (k:∀ b u,h.get? b=some u->h'.get? b=some u):iO P w H h':=fun a o e =>
  (x a o e).stay (fun b u _ q=>k b u q) (fun _ q=>q) fun _ _ q=>q
theorem iO.laid (x:iO P w H h) (k:∀ b u,h.get? b=some u->h'.get? b=some u) (hp:h.objs.size<=a) (new:cm P w (de H a o) h' a o):iO P w (de H a o) h':=fun b u e=>by
  have hn:=x.fresh hp;by_cases hb:b=a
  · subst hb;rw [bq] at e;cases e;exact new
  · rw [aB hb] at e;exact (x b u e).stay (fun c v _ q=>k c v q) (fun c q=>by rw [aB (bg q hn)];exact q) fun c xs q=>by rw [aB (bg q hn)];exact q
end
noncomputable def Rd (H:Hp) (a:Addr) (u:HO):Prop:=H a=some u\/∃ o,H a=some (.frz o u)
theorem Rd.ok {P:Program} {w:World} {H:Hp} {h:Heap} {a:Addr} {u:HO} (r:Rd H a u) (x:iO P w H h):cm P w H h a u:=by
  rcases r with r | ⟨o,r⟩
  · exact x a u r
  · obtain ⟨_,q⟩:=x a _ r;exact q
noncomputable def Fn:Option HO->Prop
  | some (.lst _)=>True
  | some (.dK _)=>True
  | some (.dT _)=>True
  | some (.set _ _)=>True
  | some (.ins _ _ _)=>True
  | some (.ext _)=>True
  | _=>False
section
variable {P:Program} {w:World} {H:Hp} {h h':Heap} {x e:Addr} {o':HO}
theorem iO.write (ok:iO P w H h) (mu:Fn (H x)) (he:e=x\/H e=some (.own x)) (k:∀ b u,b≠e->h.get? b=some u->h'.get? b=some u) (heo:∃ u,h'.get? e=some u)
    (new:cm P w (de H x o') h' x o'):iO P w (de H x o') h':=fun b u q=>by
  have nown:∀ c y,H c=some (.own y)->c≠x:=fun c y r z=>by subst z;rw [r] at mu;exact mu
  have ntup:∀ c xs,H c=some (.tup xs)->c≠x:=fun c xs r z=>by subst z;rw [r] at mu;exact mu
  by_cases hb:b=x
  · subst hb;rw [bq] at q;cases q;exact new
  · rw [aB hb] at q;by_cases hbe:b=e
    · have q':H b=some (.own x):=by
        rcases he with z | z
        · exact absurd (hbe.trans z) hb
        · rw [hbe];exact z
      rw [q] at q';cases q';obtain ⟨v,hv⟩:=heo;exact ⟨v,by rw [hbe];exact hv⟩
    · refine (ok b u q).stay (fun c v hc r=>k c v ?_ r) (fun c r=>by rw [aB (nown c b r)];exact r) fun c xs r=>by rw [aB (ntup c xs r)];exact r
      rcases hc with rfl | hc
      · exact hbe
      · rintro rfl;rcases he with z | z
        · exact nown c b hc z
        · rw [hc] at z;cases z;exact hb rfl
end
structure Un (fs ex:List Addr) (H H':Hp) (h h':Heap):Prop where
  keep:∀ b o,h.get? b=some o->H b=none->b∉fs->b∉ex->h'.get? b=some o
  slot:∀ b o,h.get? b=some o->H b=none->b∈fs->b∉ex->∃ sl,h'.get? b=some { o with slots:=sl }
  free:∀ b o,h.get? b=some o->H b=none->b∉ex->H' b=none
  there:∀ b o,h.get? b=some o->b∉ex->∃ o',h'.get? b=some o'
  tups:∀ b xs,H b=some (.tup xs)->H' b=some (.tup xs)
  frzs:∀ b o u,H b=some (.frz o u)->H' b=some (.frz o u)
  tbls:∀ b ps,H b=some (.tbl ps)->∃ more,H' b=some (.tbl (ps++more))
section
variable {fs fs' ex ex':List Addr} {H H1 H2:Hp} {h h1 h2 h':Heap} {a x e:Addr} {o:HO}
theorem Un.any (u:Un fs ex H H1 h h1) {b:Addr} {ob:Obj} (q:h.get? b=some ob) (n:H b=none) (hx:b∉ex):∃ sl,h1.get? b=some { ob with slots:=sl }:=by
  by_cases hb:b∈fs
  · exact u.slot b ob q n hb hx
  · exact ⟨ob.slots,u.keep b ob q n hb hx⟩
theorem Un.kept (k:∀ b u,h.get? b=some u->h'.get? b=some u):Un fs ex H H h h' :=
  ⟨fun b ob q _ _ _=>k b ob q,fun b ob q _ _ _=>⟨ob.slots,k b ob q⟩,fun _ _ _ n _=>n,fun b ob q _=>⟨ob,k b ob q⟩,fun _ _ q=>q,fun _ _ _ q=>q,fun _ ps q=>⟨#[],by rw [q];simp⟩⟩
theorem Un.refl:Un fs ex H H h h:=Un.kept fun _ _ q=>q
theorem Un.laid (k:∀ b u,h.get? b=some u->h'.get? b=some u) (hp:h.objs.size<=a) (hn:H a=none):Un fs ex H (de H a o) h h' where
  keep:=fun b u q _ _ _=>k b u q
  slot:=fun b u q _ _ _=>⟨u.slots,k b u q⟩
  free:=fun b u q n _=>by rw [aB (Nat.ne_of_lt (Nat.lt_of_lt_of_le (Heap.lt_size q) hp))];exact n
  there:=fun b u q _=>⟨u,k b u q⟩
  tups:=fun b xs q=>by rw [aB (bg q hn)];exact q
  frzs:=fun b u xs q=>by rw [aB (bg q hn)];exact q
  tbls:=fun b ps q=>⟨#[],by rw [aB (bg q hn),q];simp⟩
theorem Un.write (mu:Fn (H x)) (he:e=x\/H e=some (.own x)) (k:∀ b u,b≠e->h.get? b=some u->h'.get? b=some u) (heo:∃ u,h'.get? e=some u):Un fs ex H (de H x o) h h':=by
  have hx:∀ b,H b=none->b≠x:=fun b n z=>by subst z;rw [n] at mu;exact mu
  have hb:∀ b,H b=none->b≠e:=fun b n z=>by
    subst z;rcases he with r | r
    · exact hx b n r
    · rw [n] at r;cases r
  have hm:∀ b u,H b=some u->¬ Fn (some u)->b≠x:=fun b u q nm z=>by subst z;rw [q] at mu;exact nm mu
  refine ⟨fun b u q n _ _=>k b u (hb b n) q,fun b u q n _ _=>⟨u.slots,k b u (hb b n) q⟩,fun b u q n _=>by rw [aB (hx b n)];exact n,fun b u q _=>?_,
    fun b xs q=>by rw [aB (hm b _ q fun z=>z)];exact q,fun b u xs q=>by rw [aB (hm b _ q fun z=>z)];exact q,fun b ps q=>⟨#[],by rw [aB (hm b _ q fun z=>z),q];simp⟩⟩
  by_cases hbe:b=e
  · subst hbe;exact heo
  · exact ⟨u,k b u hbe q⟩
end
noncomputable def Hr (h:Heap) (H:Hp):List Addr:=(List.range h.objs.size).filter fun a=>(H a).isSome
noncomputable def sB (h:Heap) (H:Hp):Heap:=PySem.W.hideAll h (Hr h H)
theorem yh (h:Heap) (H:Hp):(sB h H).objs.size=h.objs.size:=PySem.W.hideAll_size _ _
theorem zP {h:Heap} {H:Hp} {b:Addr} {o:Obj} (e:h.get? b=some o) (n:H b=none):(sB h H).get? b=some o :=
  PySem.W.hideAll_get _ e fun hm=>by
    have q:(H b).isSome=true:=(List.mem_filter.mp hm).2;rw [n] at q;simp at q
theorem Cb {h:Heap} {H:Hp} {b:Addr} {o:Obj} (e:(sB h H).get? b=some o):h.get? b=some o/\H b=none:=by
  have e':h.get? b=some o:=PySem.W.of_hideAll (Hr h H) e;refine ⟨e',?_⟩;cases q:H b with
  | none=>rfl
  | some x =>
    have hm:b∈Hr h H:=List.mem_filter.mpr ⟨List.mem_range.mpr (Heap.lt_size e'),by simp [q]⟩;have z:(sB h H).get? b=none:=PySem.W.hideAll_none (Hr h H) hm;rw [z] at e;cases e
noncomputable def Bx (g h:Heap) (L:Addr):List (Addr×Obj):=(List.range h.objs.size).filterMap fun a=>if a=L\/(g.get? a).isSome=true then none else (h.get? a).map fun o=>(a,o)
noncomputable def eI (g h:Heap) (L d:Addr):List (Addr×Obj):=(Bx g h L).filter fun p=>decide (p.1≠d)
structure Mod (K:PySem.W.Frag) (mg:Str->Option Value) (base:Heap):Prop where
  kin:K.In base
  glob:base.Ns mainGlobals mg
  blt:∃ mb,base.Ns builtinsNs mb/\∀ x:Str,x ≠ "__name__" -> mb x=bootBuiltins x
  nolimit:base.NoLimit
structure Cx where
  prog:Program
  w:World
  K:PySem.W.Frag
  mg:Str->Option Value
  base:Heap
  A:Around
  N:List Str
  s₀:Shared
  H₀:Hp
  env:Env
  outer:List Env
  stack:List Env
  ex:List Addr
  fn:Str->Bool
  calm:Bool
  pn:List (Addr×Obj)
  xe:Value->Shared->Prop
noncomputable def lS (l:List Env):List Addr:=l.filterMap (·.frame)
noncomputable abbrev Cx.fs (X:Cx):List Addr:=lS X.outer
noncomputable def DM (sc:Scope) (x:Str):Prop:=sc.names.lookup x=some .local\/sc.names.lookup x=some .cell\/sc.names.lookup x=some .free
noncomputable def Dc (sc:Scope) (x:Str):Prop:=sc.names.lookup x=some .local\/sc.names.lookup x=some .cell
noncomputable def Hy (env:Env) (h:Heap) (m:Str->Option Value) (x:Str) (u:Value):Prop :=
  (env.kindOf x=some .local/\m x=some u)\/((env.kindOf x=some .cell\/env.kindOf x=some .free)/\∃ c,env.cells.lookup x=some c/\h.IsCell c (some u))
structure Cx.Ok (X:Cx):Prop where
  mod:Mod X.K X.mg X.base
  kind:X.env.scope.kind=.function
  glob:X.env.globals=mainGlobals
  blt:X.env.builtins=builtinsNs
  above:X.s₀.heap.objs.size<=X.env.locals
  inj:∀ x y c,X.env.cells.lookup x=some c->X.env.cells.lookup y=some c->x=y
  has:∀ x,(X.env.kindOf x=some .cell\/X.env.kindOf x=some .free)->∃ c,X.env.cells.lookup x=some c
  cab:∀ x c,X.fn x=true->X.env.cells.lookup x=some c->X.s₀.heap.objs.size<=c
  hd:X.calm=true->X.A.handled=none
  frames:X.A.frames=some X.stack
  stk:X.stack=X.outer\/(X.stack=X.env::X.outer/\X.env.frame=some X.env.locals)
  exf:∀ b∈X.ex,b≠X.env.locals/\∀ x c,X.env.cells.lookup x=some c->c≠b
  bs:∀ b o,X.base.get? b=some o->X.s₀.heap.get? b=some o/\X.H₀ b=none
  bsz:X.base.objs.size<=X.s₀.heap.objs.size
  noex:∀ b o,X.base.get? b=some o->b∉X.ex
  exfs:∀ b∈X.ex,b∉X.fs
  funs:X.s₀.heap.FunFrames X.base X.outer
  frf:∀ b∈X.fs,X.H₀ b=none
structure aS (X:Cx) (pins:List (Addr×Obj)) (σ:List (Option V)) (H:Hp) (s:Shared):Prop where
  ok:X.Ok
  os:s.os=X.s₀.os
  bare:AllBare s.gens
  base:Un X.fs X.ex X.H₀ H X.s₀.heap s.heap
  loc:∃ m,s.heap.Ns X.env.locals m/\∀ (i:Nat) (x:Str) (v:V),X.N[i]?=some x->σ[i]?=some (some v)->DM X.env.scope x->∃ u,bW v u/\Hy X.env s.heap m x u
  cell:∀ x c,X.env.cells.lookup x=some c->∃ v,s.heap.IsCell c v
  free:H X.env.locals=none
  freeC:∀ x c,X.env.cells.lookup x=some c->H c=none
  pin:∀ p∈X.pn++pins,s.heap.get? p.1=some p.2/\H p.1=none/\p.1≠X.env.locals/\p.1∉X.fs/\∀ v,p.2.data≠.cell v
  hok:iO X.prog X.w H s.heap
  len:σ.length=X.N.length
section
variable {X:Cx} {pins:List (Addr×Obj)} {σ:List (Option V)} {H H':Hp} {s:Shared} {h':Heap}
theorem Cx.Ok.nofr (ok:X.Ok) {b:Addr} {o:Obj} (e:X.base.get? b=some o):b∉X.fs:=fun hb=>by
  have:=(ok.funs.mem hb).1;rw [e] at this;cases this
theorem aS.bs (I:aS X pins σ H s):∀ b o,X.base.get? b=some o->s.heap.get? b=some o/\H b=none:=fun b o e =>
  ⟨I.base.keep b o (I.ok.bs b o e).1 (I.ok.bs b o e).2 (I.ok.nofr e) (I.ok.noex b o e),I.base.free b o (I.ok.bs b o e).1 (I.ok.bs b o e).2 (I.ok.noex b o e)⟩
theorem aS.bk (I:aS X pins σ H s):∀ b o,X.base.get? b=some o->s.heap.get? b=some o:=fun b o e=>(I.bs b o e).1
theorem aS.mod (I:aS X pins σ H s):Mod X.K X.mg X.base:=I.ok.mod
theorem aS.kIn (I:aS X pins σ H s):X.K.In s.heap:=I.ok.mod.kin.keeps I.bk
theorem aS.lt (I:aS X pins σ H s):X.env.locals < s.heap.objs.size:=let ⟨_,hn,_⟩:=I.loc;hn.lt
theorem aS.sz (I:aS X pins σ H s):X.s₀.heap.objs.size<=s.heap.objs.size:=Nat.le_trans I.ok.above (Nat.le_of_lt I.lt)
theorem aS.nofs (I:aS X pins σ H s) {a:Addr} (h:s.heap.objs.size<=a):a∉X.fs:=fun hb=>by
  obtain ⟨_,o,ho,_⟩:=I.ok.funs.mem hb;exact absurd (Nat.lt_of_lt_of_le (Heap.lt_size ho) (Nat.le_trans I.sz h)) (Nat.lt_irrefl _)
theorem aS.cne (I:aS X pins σ H s):∀ x c,X.env.cells.lookup x=some c->c≠X.env.locals:=fun x c e z=>by
  obtain ⟨v,o,ho,hd⟩:=I.cell x c e;obtain ⟨m,⟨o',es,ep,ho',hd',_⟩,_⟩:=I.loc;rw [z,ho'] at ho;cases ho;rw [hd'] at hd;cases hd
theorem aS.funs (I:aS X pins σ H s):s.heap.FunFrames X.base X.outer:=by
  have all:∀ (l:List Env),(∀ b∈lS l,b∈X.fs)->X.s₀.heap.FunFrames X.base l->s.heap.FunFrames X.base l:=by
    intro l;induction l with
    | nil=>intro _ _;trivial
    | cons env r ih =>
      intro hs hl;obtain ⟨hk,⟨L,o,hf,hn,ho,hd⟩,hr⟩:=hl;have hL:L∈X.fs:=hs L (by unfold lS;rw [List.filterMap_cons,hf];exact List.mem_cons_self);obtain ⟨sl,e⟩:=I.base.slot L o ho (I.ok.frf L hL) hL fun z=>I.ok.exfs L z hL
      exact ⟨hk,⟨L,_,hf,hn,e,hd⟩,ih (fun b hb=>hs b (by unfold lS;rw [List.filterMap_cons,hf];exact List.mem_cons_of_mem _ hb)) hr⟩
  exact all X.outer (fun _ hb=>hb) I.ok.funs
theorem aS.stack (I:aS X pins σ H s):s.heap.FunFrames X.base X.stack:=by
  rcases I.ok.stk with e | ⟨e,hf⟩
  · rw [e];exact I.funs
  · rw [e];obtain ⟨m,hn,_⟩:=I.loc;refine .cons (by rw [I.ok.kind];decide) hf hn ?_ I.funs;exact Heap.get?_none_of_le (Nat.le_trans I.ok.bsz I.ok.above)
theorem aS.stkSub (I:aS X pins σ H s):∀ b∈lS X.stack,b∈X.env.locals::X.fs:=fun b hb=>by
  rcases I.ok.stk with e | ⟨e,hf⟩
  · rw [e] at hb;exact List.mem_cons_of_mem _ hb
  · rw [e] at hb;unfold lS at hb;rw [List.filterMap_cons,hf] at hb;exact hb
theorem aS.stkFree (I:aS X pins σ H s):∀ b∈lS X.stack,H b=none:=fun b hb=>by
  rcases List.mem_cons.mp (I.stkSub b hb) with e | hb
  · rw [e];exact I.free
  · obtain ⟨_,o,ho,_⟩:=I.ok.funs.mem hb;exact I.base.free b o ho (I.ok.frf b hb) fun z=>I.ok.exfs b z hb
theorem aS.step {g':Array GenState} {t':Nat} {d':Drawn} {ch:List Addr} (I:aS X pins σ H s)
    (hch:∀ b∈ch,(b∈X.ex\/X.s₀.heap.objs.size<=b)/\b≠X.env.locals/\(∀ x c,X.env.cells.lookup x=some c->c≠b)/\∀ p∈X.pn++pins,p.1≠b)
    (keep:∀ b o,b≠X.env.locals->b∉X.fs->b∉ch->s.heap.get? b=some o->H b=none->h'.get? b=some o)
    (slot:∀ b o,b≠X.env.locals->b∈X.fs->b∉ch->s.heap.get? b=some o->H b=none->∃ sl,h'.get? b=some { o with slots:=sl }) (free:∀ b o,b∉ch->s.heap.get? b=some o->H b=none->H' b=none)
    (there:∀ b o,b∉ch->s.heap.get? b=some o->∃ o',h'.get? b=some o')
    (tups:∀ b xs,H b=some (.tup xs)->H' b=some (.tup xs)) (frzs:∀ b o u,H b=some (.frz o u)->H' b=some (.frz o u)) (tbls:∀ b ps,H b=some (.tbl ps)->∃ more,H' b=some (.tbl (ps++more)))
    (ns:∀ m,s.heap.Ns X.env.locals m->h'.Ns X.env.locals m) (hok:iO X.prog X.w H' h') (hg:AllBare g') :
    aS X pins σ H' { s with heap:=h',gens:=g',drawn:=d',toks:=t' }:=by
  have neL:∀ b o,X.s₀.heap.get? b=some o->b≠X.env.locals:=fun b o e=>Nat.ne_of_lt (Nat.lt_of_lt_of_le (Heap.lt_size e) I.ok.above)
  have neC:∀ b o,X.s₀.heap.get? b=some o->b∉X.ex->b∉ch:=fun b o e hx hb=>by
    rcases (hch b hb).1 with z | z
    · exact hx z
    · exact absurd (Nat.lt_of_lt_of_le (Heap.lt_size e) z) (Nat.lt_irrefl _)
  have cellK:∀ x c,X.env.cells.lookup x=some c->∀ v,s.heap.IsCell c v->h'.IsCell c v:=fun x c e v ⟨o,ho,hd⟩=>by
    have nch:c∉ch:=fun z=>(hch c z).2.2.1 x c e rfl
    by_cases hc:c∈X.fs
    · obtain ⟨sl,q⟩:=slot c o (I.cne x c e) hc nch ho (I.freeC x c e);exact ⟨_,q,hd⟩
    · exact ⟨o,keep c o (I.cne x c e) hc nch ho (I.freeC x c e),hd⟩
  refine ⟨I.ok,I.os,hg,⟨fun b o e n hb hx=>?_,fun b o e n hb hx=>?_,fun b o e n hx=>?_,fun b o e hx=>?_,fun b xs e=>tups b xs (I.base.tups b xs e),fun b o xs e=>frzs b o xs (I.base.frzs b o xs e),fun b ps e=>?_⟩,?_,fun x c e=>?_,?_,fun x c e=>?_,fun p hp=>?_,hok,I.len⟩
  · exact keep b o (neL b o e) hb (neC b o e hx) (I.base.keep b o e n hb hx) (I.base.free b o e n hx)
  · obtain ⟨sl,e1⟩:=I.base.slot b o e n hb hx;obtain ⟨sl',e2⟩:=slot b _ (neL b o e) hb (neC b o e hx) e1 (I.base.free b o e n hx);exact ⟨sl',e2⟩
  · obtain ⟨o',e1⟩:=I.base.there b o e hx;exact free b o' (neC b o e hx) e1 (I.base.free b o e n hx)
  · obtain ⟨o',e1⟩:=I.base.there b o e hx;exact there b o' (neC b o e hx) e1
  · obtain ⟨m1,e1⟩:=I.base.tbls b ps e;obtain ⟨m2,e2⟩:=tbls b _ e1;exact ⟨m1++m2,by rw [e2,Array.append_assoc]⟩
  · obtain ⟨m,hn,hl⟩:=I.loc;refine ⟨m,ns m hn,fun i x v e1 e2 e3=>?_⟩;obtain ⟨u,r,l⟩:=hl i x v e1 e2 e3;refine ⟨u,r,?_⟩;rcases l with l | ⟨k,c,e,z⟩
    · exact .inl l
    · exact .inr ⟨k,c,e,cellK x c e _ z⟩
  · obtain ⟨v,z⟩:=I.cell x c e;exact ⟨v,cellK x c e v z⟩
  · obtain ⟨m,⟨o,_,_,ho,_⟩,_⟩:=I.loc;exact free _ o (fun z=>(hch _ z).2.1 rfl) ho I.free
  · obtain ⟨v,o,ho,hd⟩:=I.cell x c e;exact free c o (fun z=>(hch c z).2.2.1 x c e rfl) ho (I.freeC x c e)
  · obtain ⟨e,n,ne,nf,d⟩:=I.pin p hp;have nch:p.1∉ch:=fun z=>(hch p.1 z).2.2.2 p hp rfl
    exact ⟨keep p.1 p.2 ne nf nch e n,free p.1 p.2 nch e n,ne,nf,d⟩
theorem aS.un {t':Nat} (I:aS X pins σ H s) (u:Un X.fs [] H H' s.heap h') (hok:iO X.prog X.w H' h'):aS X pins σ H' { s with heap:=h',toks:=t' }:=by
  obtain ⟨m,⟨o,es,ep,ho,r⟩,_⟩:=id I.loc;obtain ⟨sl,hL⟩:=u.any ho I.free (by simp);exact I.step (g':=s.gens) (d':=s.drawn) (ch:=[]) (fun _ z=>nomatch z) (fun b o _ hb _ e n=>u.keep b o e n hb (by simp)) (fun b o _ hb _ e n=>u.slot b o e n hb (by simp)) (fun b o _ e n=>u.free b o e n (by simp)) (fun b o _ e=>u.there b o e (by simp)) u.tups u.frzs u.tbls (fun m' hm=>by
    obtain ⟨o',es',ep',ho',r'⟩:=hm;rw [ho] at ho';cases ho';exact ⟨_,es',ep',hL,r'⟩) hok I.bare
theorem aS.call {g':Array GenState} {t':Nat} {d':Drawn} {ch:List Addr} (I:aS X pins σ H s) (u:Un (lS X.stack) ch H H' s.heap h') (hok:iO X.prog X.w H' h') (hg:AllBare g')
    (hch:∀ b∈ch,(b∈X.ex\/X.s₀.heap.objs.size<=b)/\b≠X.env.locals/\(∀ x c,X.env.cells.lookup x=some c->c≠b)/\∀ p∈X.pn++pins,p.1≠b) :
    aS X pins σ H' { s with heap:=h',gens:=g',drawn:=d',toks:=t' }:=by
  obtain ⟨m,⟨o,es,ep,ho,r⟩,_⟩:=id I.loc;obtain ⟨sl,hL⟩:=u.any ho I.free fun z=>(hch _ z).2.1 rfl
  exact I.step (ch:=ch) hch (fun b o hL hb hc e n=>u.keep b o e n (fun z=>(List.mem_cons.mp (I.stkSub b z)).elim hL hb) hc) (fun b o _ _ hc e n=>u.any e n hc) (fun b o hc e n=>u.free b o e n hc) (fun b o hc e=>u.there b o e hc) u.tups u.frzs u.tbls (fun m' hm=>by
    obtain ⟨o',es',ep',ho',r'⟩:=hm;rw [ho] at ho';cases ho';exact ⟨_,es',ep',hL,r'⟩) hok hg
theorem aS.turned {t':Nat} {it:Addr} (I:aS X pins σ H s) (k:∀ b o,b≠it->s.heap.get? b=some o->h'.get? b=some o) (hn:H it=none) (hL:it≠X.env.locals)
    (h1:it∈X.ex\/X.s₀.heap.objs.size<=it) (h2:∀ x c,X.env.cells.lookup x=some c->c≠it) (h3:∀ p∈X.pn++pins,p.1≠it):aS X pins σ H { s with heap:=h',toks:=t' }:=by
  have nit:∀ b u,H b=some u->b≠it:=fun b u e z=>by rw [z,hn] at e;cases e
  refine I.step (g':=s.gens) (d':=s.drawn) (ch:=[it]) (fun b hb=>?_) (fun b o _ _ hc e _=>k b o (fun z=>hc (by simp [z])) e) (fun b o _ _ hc e _=>⟨o.slots,k b o (fun z=>hc (by simp [z])) e⟩) (fun _ _ _ _ n=>n)
    (fun b o hc e=>⟨o,k b o (fun z=>hc (by simp [z])) e⟩) (fun _ _ e=>e) (fun _ _ _ e=>e) (fun b ps e=>⟨#[],by rw [e];simp⟩) (fun m hm=>?_) (fun b u e=>?_) I.bare
  · have e:b=it:=by simpa using hb
    subst e;exact ⟨h1,hL,h2,h3⟩
  · obtain ⟨o,es,ep,ho,r⟩:=hm;exact ⟨o,es,ep,k _ o (Ne.symm hL) ho,r⟩
  · refine (I.hok b u e).stay (fun c v hc q=>k c v ?_ q) (fun _ q=>q) fun _ _ q=>q
    rcases hc with z | z
    · rw [z];exact nit b u e
    · exact nit c _ z
theorem aS.tok (I:aS X pins σ H s) (t:Nat):aS X pins σ H { s with toks:=t }:=I.un (h':=s.heap) (t':=t) Un.refl I.hok
theorem aS.kept {t':Nat} (I:aS X pins σ H s) (k:∀ b u,s.heap.get? b=some u->h'.get? b=some u):aS X pins σ H { s with heap:=h',toks:=t' }:=I.un (Un.kept k) (I.hok.kept k)
theorem aS.laid {a:Addr} {o:HO} {t':Nat} (I:aS X pins σ H s) (k:∀ b u,s.heap.get? b=some u->h'.get? b=some u) (hp:s.heap.objs.size<=a) (new:cm X.prog X.w (de H a o) h' a o) :
    aS X pins σ (de H a o) { s with heap:=h',toks:=t' }:=I.un (Un.laid k hp (I.hok.fresh hp)) (I.hok.laid k hp new)
theorem aS.write {x e:Addr} {o:HO} {t':Nat} (I:aS X pins σ H s) (mu:Fn (H x)) (he:e=x\/H e=some (.own x)) (k:∀ b u,b≠e->s.heap.get? b=some u->h'.get? b=some u) (heo:∃ u,h'.get? e=some u)
    (new:cm X.prog X.w (de H x o) h' x o):aS X pins σ (de H x o) { s with heap:=h',toks:=t' }:=I.un (Un.write mu he k heo) (I.hok.write mu he k heo new)
theorem aS.pins_of {pins':List (Addr×Obj)} (I:aS X pins σ H s) (h:∀ p∈pins',s.heap.get? p.1=some p.2/\H p.1=none/\p.1≠X.env.locals/\p.1∉X.fs/\∀ v,p.2.data≠.cell v):aS X pins' σ H s :=
  ⟨I.ok,I.os,I.bare,I.base,I.loc,I.cell,I.free,I.freeC,fun p hp=>(List.mem_append.mp hp).elim (fun z=>I.pin p (List.mem_append_left _ z)) (h p),I.hok,I.len⟩
theorem pX {N:List Str} (hN:N.Nodup) {i j:Nat} {x:Str} (a:N[i]?=some x) (b:N[j]?=some x):i=j:=by
  obtain ⟨h1,e1⟩:=List.getElem?_eq_some_iff.mp a;obtain ⟨h2,e2⟩:=List.getElem?_eq_some_iff.mp b;exact (List.getElem_inj hN).mp (e1.trans e2.symm)
theorem rl {M:Model} {A:Around} {E:Value->Shared->Prop} {i:Nat} {x:Str} {v:V} {u:Value} {Q:Unit->Shared->Prop} (I:aS X pins σ H s) (hN:X.N.Nodup) (hi:X.N[i]?=some x) (hx:Dc X.env.scope x) (r:bW v u)
    (h:∀ s',aS X pins (σ.set i (some v)) H s'->(∃ a,Heap.SameBut a s.heap s'.heap/\(a=X.env.locals\/X.env.cells.lookup x=some a))->Q () s') (hf:X.fn x=true\/X.env.scope.names.lookup x=some .local:=by first | exact .inl rfl | exact .inr rfl | assumption):wpAny M A (storeName X.env x u) Q E s:=by
  obtain ⟨m,hn,hl⟩:=id I.loc;have hcls:(X.env.scope.kind==.class||(X.env.scope.kind==.module&&X.env.locals != X.env.globals))=false:=by rw [I.ok.kind];rfl
  have hiσ:i < σ.length:=by rw [I.len];exact (List.getElem?_eq_some_iff.mp hi).1
  have cne:=I.cne;have tracked:∀ {a:Addr} {h':Heap},(∃ o,s.heap.get? a=some o/\H a=none)->Heap.SameBut a s.heap h'->iO X.prog X.w H h':=fun {a h'} ha hs b ob e=>by
    obtain ⟨_,_,hfree⟩:=ha;refine (I.hok b ob e).stay (fun c w' hc q=>(hs.2 c ?_).trans q) (fun _ q=>q) fun _ _ q=>q
    rintro rfl;rcases hc with rfl | hc
    · rw [hfree] at e;cases e
    · rw [hfree] at hc;cases hc
  rcases hx with hk | hk
  · refine wpAny_storeName_local hk hn (fun h' hn' hs=>?_) hcls;obtain ⟨oL,_,_,hoL,_⟩:=id hn;refine h _ ⟨I.ok,I.os,I.bare,⟨fun b o e n hb hx=>?_,fun b o e n hb hx=>?_,I.base.free,fun b o e hx=>?_,I.base.tups,I.base.frzs,I.base.tbls⟩,⟨_,hn',fun j y v' e1 e2 e3=>?_⟩,fun y c e=>?_,I.free,I.freeC,fun p hp=>?_,tracked ⟨oL,hoL,I.free⟩ hs,by simpa using I.len⟩ ⟨_,hs,.inl rfl⟩
    · exact (hs.2 b (Nat.ne_of_lt (Nat.lt_of_lt_of_le (Heap.lt_size e) I.ok.above))).trans (I.base.keep b o e n hb hx)
    · obtain ⟨sl,e1⟩:=I.base.slot b o e n hb hx;exact ⟨sl,(hs.2 b (Nat.ne_of_lt (Nat.lt_of_lt_of_le (Heap.lt_size e) I.ok.above))).trans e1⟩
    · obtain ⟨o',e1⟩:=I.base.there b o e hx;exact ⟨o',(hs.2 b (Nat.ne_of_lt (Nat.lt_of_lt_of_le (Heap.lt_size e) I.ok.above))).trans e1⟩
    · by_cases hj:j=i
      · subst hj;rw [hi] at e1;cases e1;rw [List.getElem?_set_self hiσ] at e2;cases e2;exact ⟨u,r,.inl ⟨hk,by simp⟩⟩
      · rw [List.getElem?_set_ne (Ne.symm hj)] at e2;obtain ⟨u',r',q⟩:=hl j y v' e1 e2 e3;refine ⟨u',r',?_⟩;rcases q with ⟨k,e⟩ | ⟨k,c,e,z⟩
        · refine .inl ⟨k,?_⟩;have:y≠x:=fun e=>hj (pX hN e1 (e ▸ hi))
          simp [this,e]
        · exact .inr ⟨k,c,e,z.sameBut hs (cne y c e)⟩
    · obtain ⟨w',z⟩:=I.cell y c e;exact ⟨w',z.sameBut hs (cne y c e)⟩
    · obtain ⟨e,n,ne,nf,d⟩:=I.pin p hp;exact ⟨(hs.2 p.1 ne).trans e,n,ne,nf,d⟩
  · have hfn:X.fn x=true:=by
      rcases hf with z | z
      · exact z
      · rw [z] at hk;cases hk
    obtain ⟨c,hc⟩:=I.ok.has x (.inl hk);obtain ⟨w',z⟩:=I.cell x c hc;refine wpAny_storeName_cell I.ok.kind hk hc z (fun h' hc' hs=>?_);obtain ⟨oc,hoc,hocd⟩:=id z;refine h { s with heap:=h' } ⟨I.ok,I.os,I.bare,⟨fun b o e n hb hx=>?_,fun b o e n hb hx=>?_,I.base.free,fun b o e hx=>?_,I.base.tups,I.base.frzs,I.base.tbls⟩,⟨m,hn.sameBut hs (Ne.symm (cne x c hc)),fun j y v' e1 e2 e3=>?_⟩,fun y c' e=>?_,I.free,I.freeC,fun p hp=>?_,tracked ⟨oc,hoc,I.freeC x c hc⟩ hs,by simpa using I.len⟩ ⟨c,hs,.inr hc⟩
    · exact (hs.2 b (Nat.ne_of_lt (Nat.lt_of_lt_of_le (Heap.lt_size e) (I.ok.cab x c hfn hc)))).trans (I.base.keep b o e n hb hx)
    · obtain ⟨sl,e1⟩:=I.base.slot b o e n hb hx;exact ⟨sl,(hs.2 b (Nat.ne_of_lt (Nat.lt_of_lt_of_le (Heap.lt_size e) (I.ok.cab x c hfn hc)))).trans e1⟩
    · obtain ⟨o',e1⟩:=I.base.there b o e hx;exact ⟨o',(hs.2 b (Nat.ne_of_lt (Nat.lt_of_lt_of_le (Heap.lt_size e) (I.ok.cab x c hfn hc)))).trans e1⟩
    · by_cases hj:j=i
      · subst hj;rw [hi] at e1;cases e1;rw [List.getElem?_set_self hiσ] at e2;cases e2;exact ⟨u,r,.inr ⟨.inl hk,c,hc,hc'⟩⟩
      · rw [List.getElem?_set_ne (Ne.symm hj)] at e2;obtain ⟨u',r',q⟩:=hl j y v' e1 e2 e3;refine ⟨u',r',?_⟩;rcases q with q | ⟨k,c',e,z'⟩
        · exact .inl q
        · refine .inr ⟨k,c',e,z'.sameBut hs ?_⟩;rintro rfl;exact hj (pX hN e1 (I.ok.inj _ _ _ e hc ▸ hi))
    · by_cases hcc:c'=c
      · subst hcc;exact ⟨_,hc'⟩
      · obtain ⟨w2,z2⟩:=I.cell y c' e;exact ⟨w2,z2.sameBut hs hcc⟩
    · obtain ⟨e,n,ne,nf,d⟩:=I.pin p hp;refine ⟨(hs.2 p.1 ?_).trans e,n,ne,nf,d⟩;intro q;rw [q,hoc] at e;have q':oc=p.2:=Option.some.inj e;exact d w' (by rw [<- q'];exact hocd)
theorem kC {M:Model} {A:Around} {E:Value->Shared->Prop} {i:Nat} {x:Str} {v:V} {u:Value} {Q:Unit->Shared->Prop} (I:aS X pins σ H s) (hN:X.N.Nodup) (hi:X.N[i]?=some x) (hx:Dc X.env.scope x) (r:bW v u)
    (h:∀ s',aS X pins (σ.set i (some v)) H s'->Q () s') (hf:X.fn x=true\/X.env.scope.names.lookup x=some .local:=by first | exact .inl rfl | exact .inr rfl | assumption):wpAny M A (storeName X.env x u) Q E s :=
  rl I hN hi hx r (fun s' I' _=>h s' I') hf
theorem aS.call' {s':Shared} {ch:List Addr} (I:aS X pins σ H s) (ho:s'.os=s.os) (u:Un (lS X.stack) ch H H' s.heap s'.heap) (hok:iO X.prog X.w H' s'.heap) (hg:AllBare s'.gens)
    (hch:∀ b∈ch,(b∈X.ex\/X.s₀.heap.objs.size<=b)/\b≠X.env.locals/\(∀ x c,X.env.cells.lookup x=some c->c≠b)/\∀ p∈X.pn++pins,p.1≠b):aS X pins σ H' s':=by
  obtain ⟨h',g',d',t',o'⟩:=s';have e:o'=s.os:=ho;subst e;exact I.call (g':=g') (t':=t') (d':=d') u hok hg hch
end
noncomputable abbrev XK:=Value->Option Addr->Hp->Prop
noncomputable abbrev St:=List (Option V)
noncomputable abbrev VK:=V->Hp->Prop
noncomputable abbrev TE:=St->Hp->VK->Prop
noncomputable abbrev TT:=St->Hp->(Bool->Hp->Prop)->Prop
noncomputable abbrev TA:=St->Hp->(List V->Hp->Prop)->Prop
structure rG where
  nx:St->Hp->Prop
  rt:VK
  bk:St->Hp->Prop:=fun _ _=>False
  ct:St->Hp->Prop:=fun _ _=>False
noncomputable abbrev TS:=rG->St->Hp->Prop
inductive EP (X:Cx) (pins:List (Addr×Obj)) (σ:St) (Q:VK) (u:Value) (s':Shared):Prop
  | mk (v:V) (H':Hp) (I:aS X pins σ H' s') (r:bW v u) (q:Q v H')
inductive TP (X:Cx) (pins:List (Addr×Obj)) (σ:St) (Q:Bool->Hp->Prop) (b:Bool) (s':Shared):Prop
  | mk (H':Hp) (I:aS X pins σ H' s') (q:Q b H')
inductive AP (X:Cx) (pins:List (Addr×Obj)) (σ:St) (Q:List V->Hp->Prop) (us:List Value) (s':Shared):Prop
  | mk (vs:List V) (H':Hp) (I:aS X pins σ H' s') (r:bE vs us) (q:Q vs H')
inductive NX (X:Cx) (pins:List (Addr×Obj)) (s':Shared) (P:St->Hp->Prop):Prop
  | mk (σ':St) (H':Hp) (I:aS X pins σ' H' s') (q:P σ' H')
inductive RX (X:Cx) (pins:List (Addr×Obj)) (s':Shared) (u:Value) (P:V->Hp->Prop):Prop
  | mk (v:V) (σ':St) (H':Hp) (I:aS X pins σ' H' s') (r:bW v u) (q:P v H')
noncomputable def SP (X:Cx) (pins:List (Addr×Obj)) (D:rG) (f:Flow) (s':Shared):Prop :=
  match f with
  | .next=>NX X pins s' D.nx
  | .brk=>NX X pins s' D.bk
  | .cont=>NX X pins s' D.ct
  | .ret u=>RX X pins s' u D.rt
noncomputable def PE (X:Cx) (e:Expr) (t:TE):Prop :=
  ∀ (pins:List (Addr×Obj)) (s:Shared) (σ:St) (H:Hp) (Q:VK),aS X pins σ H s->t σ H Q->wpAny (model X.prog X.w) X.A (eval e X.env) (EP X pins σ Q) X.xe s
noncomputable def PT (X:Cx) (e:Expr) (t:TT):Prop :=
  ∀ (pins:List (Addr×Obj)) (s:Shared) (σ:St) (H:Hp) (Q:Bool->Hp->Prop),aS X pins σ H s->t σ H Q->wpAny (model X.prog X.w) X.A (isTrue e X.env (eval e X.env)) (TP X pins σ Q) X.xe s
noncomputable def PW (X:Cx) (e:Expr) (t:TT):Prop :=
  ∀ (whole:Sem Value) (pins:List (Addr×Obj)) (s:Shared) (σ:St) (H:Hp) (Q:Bool->Hp->Prop),aS X pins σ H s->t σ H Q->wpAny (model X.prog X.w) X.A (isTrue e X.env whole) (TP X pins σ Q) X.xe s
theorem PW.pt {X:Cx} {e:Expr} {t:TT} (h:PW X e t):PT X e t:=h _
noncomputable def PA (X:Cx) (es:List Expr) (t:TA):Prop :=
  ∀ (pos:Pos) (pins:List (Addr×Obj)) (s:Shared) (σ:St) (H:Hp) (Q:List V->Hp->Prop),aS X pins σ H s->t σ H Q->wpAny (model X.prog X.w) X.A (spliced (backTo pos (starEach es X.env))) (AP X pins σ Q) X.xe s
noncomputable def PS (X:Cx) (st:Stmt) (t:TS):Prop :=
  ∀ (pins:List (Addr×Obj)) (s:Shared) (σ:St) (H:Hp) (D:rG),aS X pins σ H s->t D σ H->wpAny (model X.prog X.w) X.A (exec st X.env) (SP X pins D) X.xe s
noncomputable def rL (X:Cx) (st:List Stmt) (t:TS):Prop :=
  ∀ (pins:List (Addr×Obj)) (s:Shared) (σ:St) (H:Hp) (D:rG),aS X pins σ H s->t D σ H->wpAny (model X.prog X.w) X.A (execs st X.env) (SP X pins D) X.xe s
theorem dM {α:Type} {t:Sem α} {Q Q':α->Shared->Prop} {M:Model} {A:Around} {E:Value->Shared->Prop} {s:Shared} (h:wpAny M A t Q E s) (hQ:∀ a s,Q a s->Q' a s):wpAny M A t Q' E s:=wpAny_mono h hQ fun _ _ x=>x
section
variable {X:Cx}
theorem Jb {a b:Expr} {ta tb:TE} (ha:PE X a ta) (hb:PE X b tb) {pins:List (Addr×Obj)} {s:Shared} {σ:St} {H:Hp} {R:V->V->Hp->Prop} (I:aS X pins σ H s) (h:ta σ H fun x H1=>tb σ H1 fun y H2=>R x y H2)
    {α:Type} {Q:α->Shared->Prop} {f:Value->Value->Sem α}
    (hf:∀ v u s2 x y H2,aS X pins σ H2 s2->bW x v->bW y u->R x y H2->wpAny (model X.prog X.w) X.A (f v u) Q X.xe s2) :
    wpAny (model X.prog X.w) X.A (eval a X.env) (fun v s₁=>wpAny (model X.prog X.w) X.A (eval b X.env) (fun u s₂=>wpAny (model X.prog X.w) X.A (f v u) Q X.xe s₂) X.xe s₁) X.xe s:=by
  refine dM (ha pins s σ H _ I h) fun v s1 zq0=>?_
  obtain ⟨x,H1,I1,r1,q1⟩:=zq0;refine dM (hb pins s1 σ H1 _ I1 q1) fun u s2 zq0=>?_
  obtain ⟨y,H2,I2,r2,q2⟩:=zq0;exact hf v u s2 x y H2 I2 r1 r2 q2
noncomputable def E1 (i:Nat):TE:=fun σ H Q=>∃ v,σ[i]?=some (some v)/\Q v H
noncomputable def tC (v:V):TE:=fun _ H Q=>Q v H
theorem iU {i:Nat} {x:Str} {pos:Pos} (hN:X.N[i]?=some x) (hv:DM X.env.scope x) (hd:(x==("__debug__" : Str))=false:=by decide) (hcd:(x==("__classdict__" : Str))=false:=by decide):PE X (.Name x pos) (E1 i):=by
  intro pins s σ H Q I h;obtain ⟨v,e,h⟩:=h;obtain ⟨m,hn,hl⟩:=I.loc;obtain ⟨u,r,l⟩:=hl i x v hN e hv;have fin:EP X pins σ Q u s:=⟨v,H,I,r,h⟩
  rcases l with ⟨hk,hm⟩ | ⟨hk,c,hc,hcell⟩
  · exact wpAny_Name (wpAny_loadName_local I.ok.kind hk hn hm fin) hd
  · rcases hk with hk | hk
    · exact wpAny_Name (wpAny_loadName_cell I.ok.kind hk hc hcell fin) hd
    · exact wpAny_Name (wpAny_loadName_free I.ok.kind hk hc hcell fin hcd) hd
theorem Es {i j pos}:PE X (.Constant (.int i) j pos) (tC (.int i)):=fun _ _ _ H _ I h=>wpAny_Constant_int ⟨.int i,H,I.tok _,⟨_,rfl⟩,h⟩
theorem F6 {b j pos}:PE X (.Constant (.bool b) j pos) (tC (.bl b)):=fun _ _ _ H _ I h=>Constant_bool ⟨.bl b,H,I,rfl,h⟩
theorem Eu {j pos}:PE X (.Constant .none j pos) (tC .non):=fun _ _ _ H _ I h=>Constant_none ⟨.non,H,I,rfl,h⟩
theorem Ey {x j pos}:PE X (.Constant (.str x) j pos) (tC (.str x)):=fun _ _ _ H _ I h=>Calls.Constant_str ⟨.str x,H,I.tok _,⟨_,rfl⟩,h⟩
noncomputable def Gl (X:Cx) (x:Str):Prop:=X.env.kindOf x=some .globalImplicit
theorem mF {E:Value->Shared->Prop} {pins:List (Addr×Obj)} {s:Shared} {σ:St} {H:Hp} {x:Str} {u:Value} {pos:Pos} {Q:Value->Shared->Prop} (I:aS X pins σ H s) (hg:Gl X x) (hm:X.mg x=some u) (h:Q u s)
    (hd:(x==("__debug__" : Str))=false:=by decide):wpAny (model X.prog X.w) X.A (eval (.Name x pos) X.env) Q E s :=
  Calls.Name_function_global I.ok.kind hg (Calls.loadGlobal_global (by rw [I.ok.glob];exact I.mod.glob.keeps I.bk) hm h) hd
theorem km {E:Value->Shared->Prop} {pins:List (Addr×Obj)} {s:Shared} {σ:St} {H:Hp} {x:Str} {u:Value} {pos:Pos} {Q:Value->Shared->Prop} (I:aS X pins σ H s) (hg:Gl X x) (hm:X.mg x=none) (hv:bootBuiltins x=some u) (h:Q u s)
    (hn:x ≠ "__name__" := by decide) (hd:(x==("__debug__" : Str))=false:=by decide):wpAny (model X.prog X.w) X.A (eval (.Name x pos) X.env) Q E s:=by
  obtain ⟨mb,h1,h2⟩:=I.mod.blt;exact Calls.Name_function_global I.ok.kind hg (Calls.loadGlobal_builtin (by rw [I.ok.glob];exact I.mod.glob.keeps I.bk) hm (by rw [I.ok.blt];exact h1.keeps I.bk) ((h2 x hn).trans hv) h) hd
theorem xh {x:Str} {v:V} {u:Value} {pos:Pos} (hg:Gl X x) (hm:X.mg x=some u) (r:bW v u) (hd:(x==("__debug__" : Str))=false:=by decide):PE X (.Name x pos) (tC v) :=
  fun _ _ _ H _ I h=>mF I hg hm ⟨v,H,I,r,h⟩ hd
theorem Cl {x:Str} {v:V} {u:Value} {pos:Pos} (hg:Gl X x) (hm:X.mg x=none) (hv:bootBuiltins x=some u) (r:bW v u) (hn:x ≠ "__name__" := by decide) (hd:(x==("__debug__" : Str))=false:=by decide):PE X (.Name x pos) (tC v) :=
  fun _ _ _ H _ I h=>km I hg hm hv ⟨v,H,I,r,h⟩ hn hd
variable {a b:Expr} {ta tb:TE} {pos:Pos}
noncomputable def PC (X:Cx) (op:CmpOp) (a b:Expr) (t:TE):Prop :=
  ∀ (pins:List (Addr×Obj)) (s:Shared) (σ:St) (H:Hp) (Q:VK),aS X pins σ H s->t σ H Q ->
    wpAny (model X.prog X.w) X.A (eval a X.env) (fun v s₁=>wpAny (model X.prog X.w) X.A (eval b X.env) (fun u s₂=>wpAny (model X.prog X.w) X.A (compareOp op v u) (EP X pins σ Q) X.xe s₂) X.xe s₁) X.xe s
theorem Ao (b:Expr) {op:CmpOp} (h:op≠.In) (h2:op≠.NotIn):behindInMarks op b=false:=by
  have e1:(op==CmpOp.In)=false:=by cases op <;> first | rfl | exact absurd rfl h
  have e2:(op==CmpOp.NotIn)=false:=by cases op <;> first | rfl | exact absurd rfl h2
  cases b <;> simp [behindInMarks,e1,e2]
noncomputable def tB (t:TE):TT:=fun σ H Q=>t σ H fun x H1=>∃ c,x=.bl c/\Q c H1
theorem HX {op:CmpOp} {t:TE} (h:PC X op a b t) (h1:behindInMarks op b=false:=by first | exact Ao _ (by decide) (by decide) | rfl):PT X (.Compare a [op] [b] pos) (tB t):=by
  intro pins s σ H Q I hw;refine wpAny_isTrue_Compare1 (dM (h pins s σ H _ I hw) fun v s1 h1=>dM h1 fun u s2 h2=>dM h2 fun c s3 zq0=>?_) h1;obtain ⟨x,H1,I1,r1,q1⟩:=zq0;obtain ⟨d,rfl,q⟩:=q1;cases r1;exact wpAny_truthy_bool ⟨H1,I1,q⟩
theorem EG {e:Expr} {t:TE} (h:PE X e t) (he:∀ whole,isTrue e X.env whole=(do let v <- whole;standAt e.pos;holding [v] (truthy v)):=by intro _;rfl):PT X e (tB t):=by
  intro pins s σ H Q I hw;refine isTrue_plain (dM (h pins s σ H _ I hw) fun v s1 zq0=>?_) (he _);obtain ⟨x,H1,I1,r1,q1⟩:=zq0;obtain ⟨d,rfl,q⟩:=q1;cases r1;exact wpAny_truthy_bool ⟨H1,I1,q⟩
variable {tA tB':TT} {eI:List Expr}
noncomputable def Ic (t u:TT):TT:=fun σ H Q=>t σ H fun c H1=>if c=true then u σ H1 Q else Q false H1
noncomputable def I8 (t u:TT):TT:=fun σ H Q=>t σ H fun c H1=>if c=true then Q true H1 else u σ H1 Q
noncomputable def Im (t:TT):TT:=fun σ H Q=>t σ H fun c H1=>Q (!c) H1
theorem pw_and1 (ha:PT X a tA):PW X (.BoolOp .And [a] pos) tA:=by
  intro wh pins s σ H Q I h;refine isTrue_and (dM (ha pins s σ H Q I h) fun c s1 e=>?_);cases c with
  | true=>exact isTrue_and_nil e
  | false=>exact e
theorem pw_or1 (ha:PT X a tA):PW X (.BoolOp .Or [a] pos) tA:=by
  intro wh pins s σ H Q I h;refine isTrue_or (dM (ha pins s σ H Q I h) fun c s1 e=>?_);cases c with
  | false=>exact isTrue_or_nil e
  | true=>exact e
theorem pw_and (ha:PT X a tA) (hb:PW X (.BoolOp .And (b::eI) pos) tB'):PW X (.BoolOp .And (a::b::eI) pos) (Ic tA tB'):=by
  intro wh pins s σ H Q I h;refine isTrue_and (dM (ha pins s σ H _ I h) fun c s1 zq0=>?_);obtain ⟨H1,I1,q1⟩:=zq0;cases c with
  | true=>exact hb wh pins s1 σ H1 Q I1 q1
  | false=>exact ⟨H1,I1,q1⟩
theorem pw_or (ha:PT X a tA) (hb:PW X (.BoolOp .Or (b::eI) pos) tB'):PW X (.BoolOp .Or (a::b::eI) pos) (I8 tA tB'):=by
  intro wh pins s σ H Q I h;refine isTrue_or (dM (ha pins s σ H _ I h) fun c s1 zq0=>?_);obtain ⟨H1,I1,q1⟩:=zq0;cases c with
  | true=>exact ⟨H1,I1,q1⟩
  | false=>exact hb wh pins s1 σ H1 Q I1 q1
theorem EF (ha:PT X a tA):PT X (.UnaryOp .Not a pos) (Im tA):=by
  intro pins s σ H Q I h;refine isTrue_not (dM (ha pins s σ H (fun c H1=>Q (!c) H1) I h) fun c s1 z=>?_);obtain ⟨H1,I1,q1⟩:=z;exact ⟨H1,I1,q1⟩
noncomputable def GE (ta tb:TE):TE:=fun σ H Q=>ta σ H fun x H1=>∃ c,x=.bl c/\if c=true then tb σ H1 Q else Q (.bl false) H1
noncomputable def Ip (ta tb:TE):TE:=fun σ H Q=>ta σ H fun x H1=>∃ c,x=.bl c/\if c=true then Q (.bl true) H1 else tb σ H1 Q
noncomputable def GN (ta:TE):TE:=fun σ H Q=>ta σ H fun x H1=>∃ c,x=.bl c/\Q (.bl (!c)) H1
theorem Ex {op} {t:TE} (h:PE X a t):PE X (.BoolOp op [a] pos) t:=fun pins s σ H Q I hw=>BoolOp_one (h pins s σ H Q I hw)
theorem Ep (ha:PE X a ta) (hb:PE X (.BoolOp .And (b::eI) pos) tb):PE X (.BoolOp .And (a::b::eI) pos) (GE ta tb):=by
  intro pins s σ H Q I h;refine BoolOp_and (dM (ha pins s σ H _ I h) fun v s1 zq0=>?_);obtain ⟨x,H1,I1,r1,q1⟩:=zq0;obtain ⟨c,rfl,q1⟩:=q1;cases r1;refine wpAny_truthy_bool ?_;cases c with
  | true=>exact hb pins s1 σ H1 Q I1 q1
  | false=>exact ⟨.bl false,H1,I1,rfl,q1⟩
theorem Ga (ha:PE X a ta) (hb:PE X (.BoolOp .Or (b::eI) pos) tb):PE X (.BoolOp .Or (a::b::eI) pos) (Ip ta tb):=by
  intro pins s σ H Q I h;refine BoolOp_or (dM (ha pins s σ H _ I h) fun v s1 zq0=>?_);obtain ⟨x,H1,I1,r1,q1⟩:=zq0;obtain ⟨c,rfl,q1⟩:=q1;cases r1;refine wpAny_truthy_bool ?_;cases c with
  | false=>exact hb pins s1 σ H1 Q I1 q1
  | true=>exact ⟨.bl true,H1,I1,rfl,q1⟩
theorem Ew (ha:PE X a ta):PE X (.UnaryOp .Not a pos) (GN ta):=by
  intro pins s σ H Q I h;refine UnaryOp_ (dM (ha pins s σ H _ I h) fun v s1 zq0=>?_);obtain ⟨x,H1,I1,r1,q1⟩:=zq0;obtain ⟨c,rfl,q1⟩:=q1;cases r1;exact not_of (wpAny_truthy_bool ⟨.bl (!c),H1,I1,rfl,q1⟩)
noncomputable def I0 (t:TT) (ta tb:TE):TE:=fun σ H Q=>t σ H fun c H1=>if c=true then ta σ H1 Q else tb σ H1 Q
theorem Az {c:Expr} (hc:PT X c tA) (ha:PE X a ta) (hb:PE X b tb):PE X (.IfExp c a b pos) (I0 tA ta tb):=by
  intro pins s σ H Q I h;refine wpAny_IfExp (dM (hc pins s σ H _ I h) fun d s1 zq0=>?_);obtain ⟨H1,I1,q1⟩:=zq0;cases d with
  | true=>exact ha pins s1 σ H1 Q I1 q1
  | false=>exact hb pins s1 σ H1 Q I1 q1
end
noncomputable def n6 (K:PySem.W.Frag) (H:Hp) (a:Addr) (xs:List V):Prop :=
  Rd H a (.lst xs) \/
    ∃ (o:Obj) (its:Array Value) (n:Nat),K.lookup a=some o/\o.cls=.type "list" /\ o.dict=none/\o.data=.seq its n/\its.size<=sizeLine/\bE xs its.toList
noncomputable def jm (K:PySem.W.Frag) (H:Hp) (a:Addr) (xs:List V):Prop :=
  Rd H a (.tup xs) \/
    ∃ (o:Obj) (its:Array Value) (n:Nat),K.lookup a=some o/\o.cls=.type "tuple" /\ o.data=.seq its n/\its.size<=sizeLine/\bE xs its.toList
noncomputable def HB:Value->Option V
  | .none=>some .non
  | .bool b=>some (.bl b)
  | .int i _=>some (.int i)
  | .str x _=>some (.str x)
  | .bytes b _=>some (.byt b)
  | .float b _=>some (.flt b)
  | .ref a=>some (.ref a)
  | .type n=>some (.ty n)
  | _=>none
theorem bW.abs {x:V} {u:Value} (r:bW x u):HB u=some x:=by
  cases x with
  | non=>cases r;rfl
  | bl _=>cases r;rfl
  | int _=>obtain ⟨t,rfl⟩:=r;rfl
  | str _=>obtain ⟨t,rfl⟩:=r;rfl
  | byt _=>obtain ⟨t,rfl⟩:=r;rfl
  | flt _=>obtain ⟨t,rfl⟩:=r;rfl
  | ref _=>cases r;rfl
  | ty _=>cases r;rfl
theorem bW.inj {x y:V} {u:Value} (r:bW x u) (q:bW y u):x=y:=Option.some.inj (r.abs.symm.trans q.abs)
theorem bE.inj:∀ {xs ys:List V} {us:List Value},bE xs us->bE ys us->xs=ys
  | _,_,_,.nil,.nil=>rfl
  | _,_,_,.cons r t,.cons r' t'=>by rw [r.inj r',bE.inj t t']
section
variable {X:Cx} {pins:List (Addr×Obj)} {σ:St} {H:Hp} {s:Shared} {a:Addr} {xs ys:List V}
theorem n6.of {K:PySem.W.Frag} (h:H a=some (.lst xs)):n6 K H a xs:=.inl (.inl h)
theorem jm.of {K:PySem.W.Frag} (h:H a=some (.tup xs)):jm K H a xs:=.inl (.inl h)
theorem aS.list (I:aS X pins σ H s) (h:n6 X.K H a xs):∃ its:List Value,bE xs its/\PlainL s.heap a its.toArray/\xs.length<=sizeLine:=by
  rcases h with h | ⟨o,its,n,hk,hc,hd,hs,hz,r⟩
  · obtain ⟨z,its,n,r,e⟩:=h.ok I.hok;exact ⟨its,r,⟨_,n,e,rfl,rfl,rfl⟩,z⟩
  · refine ⟨its.toList,r,⟨o,n,I.kIn a o hk,hc,hd,by simpa using hs⟩,?_⟩;have e:=r.length;simp only [Array.length_toList] at e;omega
theorem aS.tuple (I:aS X pins σ H s) (h:jm X.K H a xs):∃ its:List Value,bE xs its/\IsTup s.heap a its.toArray/\xs.length<=sizeLine:=by
  rcases h with h | ⟨o,its,n,hk,hc,hs,hz,r⟩
  · obtain ⟨z,its,r,p⟩:=h.ok I.hok;exact ⟨its,r,p.is,z⟩
  · refine ⟨its.toList,r,⟨o,I.kIn a o hk,hc,n,by simpa using hs⟩,?_⟩;have e:=r.length;simp only [Array.length_toList] at e;omega
theorem aS.list_inj (I:aS X pins σ H s) (h:n6 X.K H a xs) (h':n6 X.K H a ys):xs=ys:=by
  obtain ⟨its,r,⟨o,n,e,_,_,d⟩,_⟩:=I.list h;obtain ⟨its',r',⟨o',n',e',_,_,d'⟩,_⟩:=I.list h';rw [e] at e';cases e';rw [d] at d';injection d' with d1 _
  have:its=its':=by simpa using congrArg Array.toList d1
  subst this;exact r.inj r'
theorem aS.tuple_inj (I:aS X pins σ H s) (h:jm X.K H a xs) (h':jm X.K H a ys):xs=ys:=by
  obtain ⟨its,r,⟨o,e,_,n,d⟩,_⟩:=I.tuple h;obtain ⟨its',r',⟨o',e',_,n',d'⟩,_⟩:=I.tuple h';rw [e] at e';cases e';rw [d] at d';injection d' with d1 _
  have:its=its':=by simpa using congrArg Array.toList d1
  subst this;exact r.inj r'
end
noncomputable abbrev Cx.wish (X:Cx) (E:Value->Shared->Prop):Cx:={ X with xe:=E }
noncomputable abbrev Cx.nox (X:Cx):Cx:=X.wish fun _ _=>False
theorem Cx.Ok.wish {X:Cx} (ok:X.Ok) (E:Value->Shared->Prop):(X.wish E).Ok :=
  ⟨ok.mod,ok.kind,ok.glob,ok.blt,ok.above,ok.inj,ok.has,ok.cab,ok.hd,ok.frames,ok.stk,ok.exf,ok.bs,ok.bsz,ok.noex,ok.exfs,ok.funs,ok.frf⟩
theorem Cx.Ok.unwish {X:Cx} {E:Value->Shared->Prop} (ok:(X.wish E).Ok):X.Ok :=
  ⟨ok.mod,ok.kind,ok.glob,ok.blt,ok.above,ok.inj,ok.has,ok.cab,ok.hd,ok.frames,ok.stk,ok.exf,ok.bs,ok.bsz,ok.noex,ok.exfs,ok.funs,ok.frf⟩
section
variable {X:Cx} {pins:List (Addr×Obj)} {σ:St} {H:Hp} {s:Shared} {E:Value->Shared->Prop}
theorem aS.wish (I:aS X pins σ H s) (E:Value->Shared->Prop):aS (X.wish E) pins σ H s:=⟨I.ok.wish E,I.os,I.bare,I.base,I.loc,I.cell,I.free,I.freeC,I.pin,I.hok,I.len⟩
theorem aS.unwish (I:aS (X.wish E) pins σ H s):aS X pins σ H s:=⟨I.ok.unwish,I.os,I.bare,I.base,I.loc,I.cell,I.free,I.freeC,I.pin,I.hok,I.len⟩
theorem SP.unwish {D:rG} {f:Flow} {s':Shared} (h:SP (X.wish E) pins D f s'):SP X pins D f s':=by
  cases f with
  | next=>obtain ⟨σ',H',I,q⟩:=h;exact ⟨σ',H',I.unwish,q⟩
  | brk=>obtain ⟨σ',H',I,q⟩:=h;exact ⟨σ',H',I.unwish,q⟩
  | cont=>obtain ⟨σ',H',I,q⟩:=h;exact ⟨σ',H',I.unwish,q⟩
  | ret u=>obtain ⟨v,σ',H',I,r,q⟩:=h;exact ⟨v,σ',H',I.unwish,r,q⟩
theorem PE.nox {e:Expr} {t:TE} (h:PE X.nox e t):PE X e t:=fun pins s σ H Q I hw =>
  wpAny_mono (h pins s σ H Q (I.wish _) hw) (fun _ _ ⟨v,H',I',r,q⟩=>⟨v,H',I'.unwish,r,q⟩) fun _ _ z=>False.elim z
theorem PT.nox {e:Expr} {t:TT} (h:PT X.nox e t):PT X e t:=fun pins s σ H Q I hw =>
  wpAny_mono (h pins s σ H Q (I.wish _) hw) (fun _ _ ⟨H',I',q⟩=>⟨H',I'.unwish,q⟩) fun _ _ z=>False.elim z
theorem rL.nox {st:List Stmt} {t:TS} (h:rL X.nox st t):rL X st t:=fun pins s σ H D I hw =>
  wpAny_mono (h pins s σ H D (I.wish _) hw) (fun _ _ q=>q.unwish) fun _ _ z=>False.elim z
end
section
variable {X:Cx} {st:Stmt} {eI:List Stmt} {t u:TS} {e:Expr} {te:TE} {pos:Pos}
noncomputable def GM:TS:=fun D σ H=>D.nx σ H
noncomputable def Iu (t u:TS):TS:=fun D σ H=>t { D with nx:=u D } σ H
theorem Cy:rL X [] GM:=fun _ _ σ H _ I h=>wpAny_execs_nil ⟨σ,H,I,h⟩
theorem p0 (h1:PS X st t) (h2:rL X eI u):rL X (st::eI) (Iu t u):=by
  intro pins s σ H D I h;refine wpAny_execs_cons (dM (h1 pins s σ H { D with nx:=u D } I h) fun f s1 q=>?_);cases f with
  | next =>
    obtain ⟨σ',H',I',q⟩:=q;exact h2 pins s1 σ' H' D I' q
  | ret v=>exact q
  | brk=>exact q
  | cont=>exact q
theorem xi (h1:PS X st t):rL X [st] t:=by
  intro pins s σ H D I h;refine wpAny_execs_cons (dM (h1 pins s σ H D I h) fun f s1 q=>?_);cases f with
  | next=>exact wpAny_execs_nil q
  | ret v=>exact q
  | brk=>exact q
  | cont=>exact q
theorem aS.quiet {pins:List (Addr×Obj)} {σ:St} {H:Hp} {s:Shared} (I:aS X pins σ H s):interactive X.env=false:=by simp [interactive,I.ok.kind]
noncomputable def GJ (te:TE):TS:=fun D σ H=>te σ H fun _ H1=>D.nx σ H1
theorem Cw (he:PE X e te) (hs:swapsWith e none pos.line X.env=pure false:=by rfl):PS X (.Expr e pos) (GJ te):=by
  intro pins s σ H D I h;exact wpAny_Expr_any (dM (he pins s σ H _ I h) fun v s1 ⟨x,H1,I1,r1,q1⟩=>⟨σ,H1,I1,q1⟩) I.quiet hs
noncomputable def Iq (te:TE):TS:=fun D σ H=>te σ H D.rt
theorem vR (he:PE X e te):PS X (.Return (some e) pos) (Iq te):=by
  intro pins s σ H D I h;exact wpAny_Return_some (dM (he pins s σ H _ I h) fun v s1 ⟨x,H1,I1,r1,q1⟩=>⟨x,σ,H1,I1,r1,q1⟩)
noncomputable def Ij (c:TT) (t u:TS):TS:=fun D σ H=>c σ H fun b H1=>if b=true then t D σ H1 else u D σ H1
theorem Gg {c:Expr} {a b:List Stmt} {tc:TT} (hc:PT X c tc) (ha:rL X a t) (hb:rL X b u):PS X (.If c a b pos) (Ij tc t u):=by
  intro pins s σ H D I h;refine wpAny_If (dM (hc pins s σ H _ I h) fun d s1 zq0=>?_);obtain ⟨H1,I1,q1⟩:=zq0;cases d with
  | true=>exact ha pins s1 σ H1 D I1 q1
  | false=>exact hb pins s1 σ H1 D I1 q1
end
noncomputable abbrev TG:=V->St->Hp->(St->Hp->Prop)->Prop
noncomputable abbrev DK:=List V->St->Hp->(St->Hp->Prop)->Prop
noncomputable def PG (X:Cx) (target:Expr) (t:TG):Prop :=
  ∀ (pins:List (Addr×Obj)) (s:Shared) (σ:St) (H:Hp) (v:V) (u:Value) (Q:St->Hp->Prop),aS X pins σ H s->bW v u->t v σ H Q ->
    wpAny (model X.prog X.w) X.A (assign target X.env u) (fun _ s'=>NX X pins s' Q) X.xe s
noncomputable def G4 (X:Cx) (ts:List Expr) (t:DK):Prop :=
  ∀ (pins:List (Addr×Obj)) (s:Shared) (σ:St) (H:Hp) (vs:List V) (us:List Value) (Q:St->Hp->Prop),aS X pins σ H s->bE vs us->t vs σ H Q ->
    wpAny (model X.prog X.w) X.A (assignInOrder ((assignEach ts X.env).map (·.2)) us) (fun _ s'=>NX X pins s' Q) X.xe s
noncomputable abbrev DL:=V->V->V->Hp->(Hp->Prop)->Prop
noncomputable def Fq (X:Cx) (t:DL):Prop :=
  ∀ (pins:List (Addr×Obj)) (s:Shared) (σ:St) (H:Hp) (o i v:V) (ov iv u:Value) (Q:Hp->Prop),aS X pins σ H s->bW o ov->bW i iv->bW v u->t o i v H Q ->
    wpAny (model X.prog X.w) X.A (setItem ov iv u) (fun _ s'=>∃ H',aS X pins σ H' s'/\Q H') X.xe s
noncomputable abbrev G6:=V->V->Hp->VK->Prop
noncomputable def Hz (X:Cx) (op:Operator) (t:G6):Prop :=
  ∀ (pins:List (Addr×Obj)) (s:Shared) (σ:St) (H:Hp) (x y:V) (v u:Value) (Q:VK),aS X pins σ H s->bW x v->bW y u->t x y H Q ->
    wpAny (model X.prog X.w) X.A (inplaceOp op v u) (EP X pins σ Q) X.xe s
section
variable {X:Cx} {pos:Pos}
noncomputable def Dh (i:Nat):TG:=fun v σ H Q=>Q (σ.set i (some v)) H
theorem sG {i:Nat} {x:Str} (hN:X.N.Nodup) (hi:X.N[i]?=some x) (hx:Dc X.env.scope x) (hf:X.fn x=true\/X.env.scope.names.lookup x=some .local:=by first | exact .inl rfl | exact .inr rfl | assumption):PG X (.Name x pos) (Dh i):=by
  intro pins s σ H v u Q I r h;exact wpAny_assign_Name (kC I hN hi hx r (fun s' I'=>⟨_,H,I',h⟩) hf)
noncomputable def HN:DK:=fun vs σ H Q=>vs=[]/\Q σ H
noncomputable def FM (t:TG) (u:DK):DK:=fun vs σ H Q=>∃ v r,vs=v::r/\t v σ H fun σ' H'=>u r σ' H' Q
theorem Cq:G4 X [] HN:=by
  intro pins s σ H vs us Q I r h;obtain ⟨e,h⟩:=h;subst e;cases r;exact assignInOrder_nil ⟨σ,H,I,h⟩
theorem uz {e:Expr} {es:List Expr} {t:TG} {u:DK} (h1:PG X e t) (h2:G4 X es u)
    (hs:(assignEach (e::es) X.env).map (·.2)=assign e X.env::(assignEach es X.env).map (·.2):=by rfl):G4 X (e::es) (FM t u):=by
  intro pins s σ H vs us Q I r h;obtain ⟨v,vr,e1,h⟩:=h;subst e1;cases r with
  | cons r rr =>
    rw [hs];refine assignInOrder_cons (dM (h1 pins s σ H _ _ _ I r h) fun _ s1 zq0=>?_);obtain ⟨σ1,H1,I1,q1⟩:=zq0;exact h2 pins s1 σ1 H1 _ _ Q I1 rr q1
noncomputable def HQ (K:PySem.W.Frag) (n:Nat) (t:DK):TG:=fun v σ H Q=>∃ a xs,v=.ref a/\jm K H a xs/\xs.length=n/\t xs σ H Q
theorem EB {es:List Expr} {k:Nat} {t:DK} {n:Nat} (hc:X.calm=true) (h:G4 X es t)
    (hn:(assignEach es X.env).length=n:=by rfl) (hst:(assignEach es X.env).findIdx? (·.1)=none:=by rfl):PG X (.Tuple es k pos) (HQ X.K n t):=by
  intro pins s σ H v u Q I r hw;obtain ⟨a,xs,e1,hq,hl,hw⟩:=hw;subst e1;cases r;obtain ⟨its,rv,ht,hz⟩:=I.tuple hq;refine assign_Tuple_tuple (I.ok.hd hc) ht (by simp [hn,<- hl,rv.length]) hst fun h' hx=>?_
  have I1:aS X pins σ H { s with heap:=h' }:=I.kept (t':=s.toks) fun b o e=>hx b o (Nat.ne_of_lt (Heap.lt_size e)) e
  exact h pins _ σ H xs _ Q I1 (by simpa using rv) hw
noncomputable def HP (to ti:TE) (t:DL):TG:=fun v σ H Q=>to σ H fun o H1=>ti σ H1 fun i H2=>t o i v H2 fun H3=>Q σ H3
theorem EA {o i:Expr} {to ti:TE} {t:DL} (ho:PE X o to) (hi:PE X i ti) (hs:Fq X t)
    (ha:∀ v,assign (.Subscript o i pos) X.env v=(do
      let ov <- holding [v] (eval o X.env)
      let iv <- holding [v,ov] (eval i X.env)
      standAt pos
      holding [v,ov,iv] (setItem ov iv v)
      release [v,ov,iv] []):=by intro _;rfl):PG X (.Subscript o i pos) (HP to ti t):=by
  intro pins s σ H v u Q I r h;rw [ha];refine wpAny_bind (wpAny_holding (dM (ho pins s σ H _ I h) fun ov s1 zq0=>?_));obtain ⟨x,H1,I1,r1,q1⟩:=zq0;refine wpAny_bind (wpAny_holding (dM (hi pins s1 σ H1 _ I1 q1) fun iv s2 zq0=>?_));obtain ⟨y,H2,I2,r2,q2⟩:=zq0;refine wpAny_bind (wpAny_standAt (wpAny_bind (wpAny_holding (dM (hs pins s2 σ H2 x y v ov iv u _ I2 r1 r2 r q2) fun _ s3 zq0=>?_))));obtain ⟨H3,I3,q3⟩:=zq0;exact wpAny_release ⟨σ,H3,I3,q3⟩
noncomputable def GF (te:TE) (g:TG):TS:=fun D σ H=>te σ H fun x H1=>g x σ H1 D.nx
theorem AD {tg e:Expr} {te:TE} {g:TG} (he:PE X e te) (hg:PG X tg g) (hs:swapsWithSole [tg] e pos.line X.env=pure false:=by rfl) (hw:swappedStores [tg] e X.env=pure none:=by rfl)
    (h1:(assignEach [tg] X.env).map (·.2)=[assign tg X.env]:=by rfl):PS X (.Assign [tg] e pos) (GF te g):=by
  intro pins s σ H D I h;refine wpAny_Assign_stores (dM (he pins s σ H _ I h) fun v s1 zq0=>?_) hs hw;obtain ⟨x,H1,I1,r1,q1⟩:=zq0;rw [h1];exact dM (hg pins s1 σ H1 x v _ I1 r1 q1) fun _ s2 q=>q
theorem vS {i:Nat} {x:Str} {e:Expr} {te:TE} {pos':Pos} (hN:X.N.Nodup) (hi:X.N[i]?=some x) (hx:Dc X.env.scope x) (he:PE X e te) (hs:swapsWith e (some (.Name x pos')) pos.line X.env=pure false:=by rfl) (hf:X.fn x=true\/X.env.scope.names.lookup x=some .local:=by first | exact .inl rfl | exact .inr rfl | assumption) :
    PS X (.Assign [.Name x pos'] e pos) (GF te (Dh i)):=by
  intro pins s σ H D I h;refine wpAny_Assign_Name (dM (he pins s σ H _ I h) fun v s1 zq0=>?_) hs;obtain ⟨y,H1,I1,r1,q1⟩:=zq0;exact kC I1 hN hi hx r1 (fun s2 I2=>⟨_,H1,I2,q1⟩) hf
noncomputable def Id (i:Nat) (te:TE) (ti:G6):TS:=fun D σ H=>∃ x,σ[i]?=some (some x)/\te σ H fun y H1=>ti x y H1 fun z H2=>D.nx (σ.set i (some z)) H2
theorem ED {i:Nat} {x:Str} {e:Expr} {te:TE} {op:Operator} {ti:G6} {pos':Pos} (hN:X.N.Nodup) (hi:X.N[i]?=some x) (hx:Dc X.env.scope x) (he:PE X e te) (ho:Hz X op ti) (hf:X.fn x=true\/X.env.scope.names.lookup x=some .local:=by first | exact .inl rfl | exact .inr rfl | assumption) :
    PS X (.AugAssign (.Name x pos') op e pos) (Id i te ti):=by
  intro pins s σ H D I h;obtain ⟨v,e1,h⟩:=h;obtain ⟨m,hn,hl⟩:=I.loc;have vis:DM X.env.scope x:=by rcases hx with k | k;exact .inl k;exact .inr (.inl k)
  obtain ⟨u,r,l⟩:=hl i x v hi e1 vis;refine wpAny_AugAssign_Name ?_;have go:wpAny (model X.prog X.w) X.A (eval e X.env) (fun w s₂=>wpAny (model X.prog X.w) X.A (inplaceOp op u w) (fun r s₃=>wpAny (model X.prog X.w) X.A (storeName X.env x r) (fun _=>SP X pins D .next) X.xe s₃) X.xe s₂) X.xe s:=by
    refine dM (he pins s σ H _ I h) fun w s1 zq0=>?_
    obtain ⟨y,H1,I1,r1,q1⟩:=zq0;refine dM (ho pins s1 σ H1 v y u w _ I1 r r1 q1) fun z s2 zq0=>?_
    obtain ⟨zv,H2,I2,r2,q2⟩:=zq0;exact kC I2 hN hi hx r2 (fun s3 I3=>⟨_,H2,I3,q2⟩) hf
  rcases l with ⟨hk,hm⟩ | ⟨hk,c,hc,hcell⟩
  · exact wpAny_loadName_local I.ok.kind hk hn hm go
  · rcases hk with hk | hk
    · exact wpAny_loadName_cell I.ok.kind hk hc hcell go
    · rcases hx with k | k
      · have:X.env.scope.names.lookup x=some .free:=hk;rw [k] at this;cases this
      · have:X.env.scope.names.lookup x=some .free:=hk;rw [k] at this;cases this
noncomputable def IH (f:Int->Int->Int):G6:=fun x y H Q=>∃ i j,x=.int i/\y=.int j/\Q (.int (f i j)) H
theorem D5:Hz X .Add (IH fun i j=>i+j):=by
  intro pins s σ H x y v u Q I r1 r2 h;obtain ⟨i,j,e1,e2,q⟩:=h;subst e1;subst e2;obtain ⟨t,rfl⟩:=r1;obtain ⟨t',rfl⟩:=r2;exact iadd_int ⟨.int _,H,I.tok _,⟨_,rfl⟩,q⟩
end
section
variable {X:Cx} {pos:Pos}
noncomputable def E2 (c:TT) (tb:TS):TS:=fun D σ H=>∃ W:Nat->St->Hp->Prop,(∃ m,W m σ H)/\∀ m σ H,W m σ H ->
  c σ H fun b H1=>if b=true then ∃ N:St->Hp->Prop,(∀ σ' H',N σ' H'->∃ m',m' < m/\W m' σ' H')/\tb { D with nx:=N,ct:=N,bk:=D.nx } σ H1 else D.nx σ H1
theorem AE {c:Expr} {body:List Stmt} {tc:TT} {tb:TS} (hp:PassesOwn (model X.prog X.w) X.A X.env X.xe) (hc:PT X c tc) (hb:rL X body tb):PS X (.While c body [] pos) (E2 tc tb):=by
  intro pins s σ H D I h;obtain ⟨W,⟨m0,w0⟩,turn⟩:=h;refine wpAny_While (codeAny_whileLoop (fun n s'=>NX X pins s' (W n)) ?_ m0 ⟨σ,H,I,w0⟩);rintro n s1 ⟨σ1,H1,I1,w1⟩;refine wpAny_passesOwn hp (dM (hc pins s1 σ1 H1 _ I1 (turn n σ1 H1 w1)) fun b s2 zq0=>?_);obtain ⟨H2,I2,q2⟩:=zq0;cases b with
  | true =>
    obtain ⟨N,hN,q2⟩:=q2;rw [if_pos rfl];refine wpAny_passesOwn hp (dM (hb pins s2 σ1 H2 _ I2 q2) fun f s3 q3=>?_);cases f with
    | next =>
      obtain ⟨σ3,H3,I3,n3⟩:=q3;obtain ⟨m',hm,w3⟩:=hN σ3 H3 n3;exact ⟨m',hm,σ3,H3,I3,w3⟩
    | cont =>
      obtain ⟨σ3,H3,I3,n3⟩:=q3;obtain ⟨m',hm,w3⟩:=hN σ3 H3 n3;exact ⟨m',hm,σ3,H3,I3,w3⟩
    | brk=>exact q3
    | ret v=>exact q3
  | false =>
    rw [if_neg Bool.false_ne_true];exact wpAny_execs_nil ⟨σ1,H2,I2,q2⟩
end
structure It where
  go:Nat->Hp->Prop
  yld:Nat->Hp->V->Hp->Prop
  stop:Nat->Hp->Prop
noncomputable def oK (X:Cx) (pins:List (Addr×Obj)) (H:Hp) (b:Addr):Prop :=
  H b=none/\b≠X.env.locals/\b∉X.fs/\(b∈X.ex\/X.s₀.heap.objs.size<=b)/\(∀ x c,X.env.cells.lookup x=some c->c≠b)/\∀ p∈X.pn++pins,p.1≠b
theorem aS.fpOk {X:Cx} {pins:List (Addr×Obj)} {σ:St} {H H':Hp} {s:Shared} {b:Addr} (I:aS X pins σ H s) (hb:s.heap.objs.size<=b) (hn:H' b=none):oK X pins H' b:=by
  refine ⟨hn,Nat.ne_of_gt (Nat.lt_of_lt_of_le I.lt hb),I.nofs hb,.inr (Nat.le_trans I.sz hb),fun x c e z=>?_,fun p hp z=>?_⟩
  · obtain ⟨v,q⟩:=I.cell x c e;exact absurd (Nat.lt_of_lt_of_le q.lt (by rw [z];exact hb)) (Nat.lt_irrefl _)
  · exact absurd (Nat.lt_of_lt_of_le (Heap.lt_size (I.pin p hp).1) (by rw [z];exact hb)) (Nat.lt_irrefl _)
inductive IQ (X:Cx) (pins:List (Addr×Obj)) (σ:St) (u:Value) (J:It) (i:Nat) (H:Hp) (fp:List Addr) (tn:Nat->Heap->Prop) (s2:Shared):Prop
  | mk (x:V) (H':Hp) (I:aS X pins σ H' s2) (r:bW x u) (y:J.yld i H x H') (t:tn (i+1) s2.heap) (f:∀ b∈fp,H' b=none)
structure rS (P:Program) (w:World) (K:PySem.W.Frag) (tg:Expr) (J:It) (fp:List Addr) (it:Addr) (tn:Nat->Heap->Prop):Prop where
  mem:it∈fp
  obj:∀ i h,tn i h->∀ b∈fp,∃ o,h.get? b=some o/\∀ v,o.data≠.cell v
  keep:∀ i h h',tn i h->(∀ b∈fp,∀ o,h.get? b=some o->h'.get? b=some o)->tn i h'
  item:∀ (X:Cx),X.prog=P->X.w=w->X.K=K->X.calm=true->∀ (i:Nat) (pins:List (Addr×Obj)) (s:Shared) (σ:St) (H:Hp) (E:Value->Shared->Prop),aS X pins σ H s->(∀ b∈fp,oK X pins H b)->tn i s.heap->J.go i H ->
    wpAny (model P w) X.A (pyNext (.ref it)) (fun r s1=>∃ u,r=some u /\
      wpAny (model P w) X.A (letOwnedTupleGo tg (.ref it) u) (fun _ s2=>IQ X pins σ u J i H fp tn s2) E s1) E s
  done:∀ (X:Cx),X.prog=P->X.w=w->X.K=K->X.calm=true->∀ (i:Nat) (pins:List (Addr×Obj)) (s:Shared) (σ:St) (H:Hp) (E:Value->Shared->Prop),aS X pins σ H s->(∀ b∈fp,oK X pins H b)->tn i s.heap->J.stop i H ->
    wpAny (model P w) X.A (pyNext (.ref it)) (fun r s1=>r=none/\aS X pins σ H s1) E s
  self:∀ (A:Around) (i:Nat) (s:Shared) (Q:Value->Shared->Prop) (E:Value->Shared->Prop),tn i s.heap->Q (.ref it) s->wpAny (model P w) A (pyIter (.ref it)) Q E s
noncomputable abbrev TI:=St->Hp->(It->Hp->Prop)->Prop
inductive ID (X:Cx) (pins:List (Addr×Obj)) (σ:St) (tg:Expr) (R:It->Hp->Prop) (itv:Value) (s2:Shared):Prop
  | mk (it:Addr) (fp:List Addr) (tn:Nat->Heap->Prop) (J:It) (H':Hp) (e:itv=.ref it) (I:aS X pins σ H' s2) (T:rS X.prog X.w X.K tg J fp it tn) (t:tn 0 s2.heap) (f:∀ b∈fp,oK X pins H' b) (r:R J H')
noncomputable def PI (X:Cx) (tg iter:Expr) (wi:TI):Prop :=
  ∀ (pins:List (Addr×Obj)) (s:Shared) (σ:St) (H:Hp) (R:It->Hp->Prop),aS X pins σ H s->wi σ H R ->
    wpAny (model X.prog X.w) X.A (eval iter X.env) (fun v s1=>wpAny (model X.prog X.w) X.A (pyIter v) (ID X pins σ tg R) X.xe s1) X.xe s
theorem uh {M:Model} {A:Around} {E:Value->Shared->Prop} {s:Shared} {tg:Expr} {it:Addr} {u:Value} {o:Obj} {n:String} {vs:Array Value} {Q:Unit->Shared->Prop} (ho:s.heap.get? it=some o) (hc:o.cls=.type n) (hd:o.data=.fields vs)
    (hn:["enumerate","zip","dict_itemiterator","dict_reverseitemiterator","odict_iterator","itertools.zip_longest","itertools.pairwise"].contains n=false) (hQ:Q () s):wpAny M A (letOwnedTupleGo tg (.ref it) u) Q E s:=by
  unfold letOwnedTupleGo;cases tg <;> first
    | exact wpAny_pure hQ
    | (cases u <;> first
        | exact wpAny_pure hQ
        | (refine wpAny_bind (wpAny_load ho ?_)
           rw [hc,hd];show wpAny M A (if (["enumerate","zip","dict_itemiterator","dict_reverseitemiterator","odict_iterator","itertools.zip_longest","itertools.pairwise"].contains n&&vs[0]?==some (rawInt _))=true then _ else _) Q E s;rw [if_neg (by intro h;rw [hn,Bool.false_and] at h;cases h)];exact wpAny_pure hQ))
noncomputable def Hw (K:PySem.W.Frag) (a:Addr):It :=
  ⟨fun i H=>∃ xs x,n6 K H a xs/\xs[i]?=some x,fun i H x H'=>H'=H/\∀ xs,n6 K H a xs->xs[i]?=some x,fun i H=>∃ xs,n6 K H a xs/\xs.length<=i⟩
noncomputable def Hx (K:PySem.W.Frag) (a:Addr):It :=
  ⟨fun i H=>∃ xs x,jm K H a xs/\xs[i]?=some x,fun i H x H'=>H'=H/\∀ xs,jm K H a xs->xs[i]?=some x,fun i H=>∃ xs,jm K H a xs/\xs.length<=i⟩
noncomputable def G2 (lo:Int) (n:Nat):It:=⟨fun i _=>i < n,fun i H x H'=>H'=H/\x=.int (lo+i),fun i _=>n<=i⟩
theorem yQ {P:Program} {w:World} {K:PySem.W.Frag} {tg:Expr} (a it:Addr):rS P w K tg (Hw K a) [it] it (fun i h=>h.IsListIter it a i) where
  mem:=by simp
  obj:=fun i h st b hb=>by
    have e:b=it:=by simpa using hb
    subst e;obtain ⟨o,e,c,d⟩:=st;exact ⟨o,e,fun v z=>by rw [d] at z;cases z⟩
  keep:=fun i h h' st k=>st.at fun o e=>k it (by simp) o e
  item:=by
    intro X hP hw hK hc i pins s σ H E I hf st hg;subst hP hw hK;obtain ⟨xs,x,hq,hx⟩:=hg;obtain ⟨its,rv,p,hz⟩:=I.list hq;obtain ⟨u,hu,ru⟩:=rv.get hx;obtain ⟨f0,f1,f2,f3,f4,f5⟩:=hf it (by simp);refine wpAny_pyNext_list_item st p.isList (x:=u) (by simpa using hu) fun h' st' sb=>?_
    have I1:aS X pins σ H { s with heap:=h' }:=I.turned (t':=s.toks) (fun b o hb e=>(sb.2 b hb).trans e) f0 f1 f3 f4 f5;obtain ⟨o,e,c,d⟩:=id st';exact ⟨u,rfl,uh (s:={ s with heap:=h' }) e c d (by decide) ⟨x,H,I1,ru,⟨rfl,fun ys hy=>by rw [I.list_inj hy hq];exact hx⟩,st',fun b hb=>(hf b hb).1⟩⟩
  done:=by
    intro X hP hw hK hc i pins s σ H E I hf st hg;subst hP hw hK;obtain ⟨xs,hq,hx⟩:=hg;obtain ⟨its,rv,p,hz⟩:=I.list hq;obtain ⟨f0,f1,f2,f3,f4,f5⟩:=hf it (by simp);have hl:=rv.length;exact wpAny_pyNext_list_end (I.ok.hd hc) st p.isList (by simp;omega) fun h' eb=>⟨rfl,I.turned (t':=s.toks) (fun b o hb e=>eb b o hb e) f0 f1 f3 f4 f5⟩
  self:=fun _ _ _ _ _ st h=>wpAny_pyIter_listiter st h
theorem wg {P:Program} {w:World} {K:PySem.W.Frag} {tg:Expr} (a it:Addr):rS P w K tg (Hx K a) [it] it (fun i h=>h.IsTupleIter it a i) where
  mem:=by simp
  obj:=fun i h st b hb=>by
    have e:b=it:=by simpa using hb
    subst e;obtain ⟨o,e,c,d⟩:=st;exact ⟨o,e,fun v z=>by rw [d] at z;cases z⟩
  keep:=fun i h h' st k=>st.at fun o e=>k it (by simp) o e
  item:=by
    intro X hP hw hK hc i pins s σ H E I hf st hg;subst hP hw hK;obtain ⟨xs,x,hq,hx⟩:=hg;obtain ⟨its,rv,p,hz⟩:=I.tuple hq;obtain ⟨u,hu,ru⟩:=rv.get hx;obtain ⟨f0,f1,f2,f3,f4,f5⟩:=hf it (by simp);refine wpAny_pyNext_tuple_item st (show s.heap.IsTuple a its.toArray from p) (x:=u) (by simpa using hu) fun h' st' sb=>?_
    have I1:aS X pins σ H { s with heap:=h' }:=I.turned (t':=s.toks) (fun b o hb e=>(sb.2 b hb).trans e) f0 f1 f3 f4 f5;obtain ⟨o,e,c,d⟩:=id st';exact ⟨u,rfl,uh (s:={ s with heap:=h' }) e c d (by decide) ⟨x,H,I1,ru,⟨rfl,fun ys hy=>by rw [I.tuple_inj hy hq];exact hx⟩,st',fun b hb=>(hf b hb).1⟩⟩
  done:=by
    intro X hP hw hK hc i pins s σ H E I hf st hg;subst hP hw hK;obtain ⟨xs,hq,hx⟩:=hg;obtain ⟨its,rv,p,hz⟩:=I.tuple hq;obtain ⟨f0,f1,f2,f3,f4,f5⟩:=hf it (by simp);have hl:=rv.length;exact wpAny_pyNext_tuple_end (I.ok.hd hc) st (show s.heap.IsTuple a its.toArray from p) (by simp;omega) fun h' eb=>⟨rfl,I.turned (t':=s.toks) (fun b o hb e=>eb b o hb e) f0 f1 f3 f4 f5⟩
  self:=fun _ _ _ _ _ st h=>wpAny_pyIter_tupleiter st h
theorem wf {P:Program} {w:World} {K:PySem.W.Frag} {tg:Expr} (it:Addr) (lo:Int) (n:Nat):rS P w K tg (G2 lo n) [it] it (fun i h=>IsRangeIter h it (lo+(i:Nat)*1) ((n:Int)-(i:Nat)) 1) where
  mem:=by simp
  obj:=fun i h st b hb=>by
    have e:b=it:=by simpa using hb
    subst e;exact ⟨_,st,fun v z=>by
      have z':Data.fields _=Data.cell v:=z;cases z'⟩
  keep:=fun i h h' st k=>k it (by simp) _ st
  item:=by
    intro X hP hw hK hc i pins s σ H E I hf st hg;subst hP hw hK;obtain ⟨f0,f1,f2,f3,f4,f5⟩:=hf it (by simp);have W:=Walks.range (prog:=X.prog) (w:=X.w) (I.ok.hd hc) it lo 1 n;refine W.item i s _ _ hg st fun v h' tk hv st' kk=>?_
    obtain ⟨t,rfl⟩:=hv;have I1:aS X pins σ H { s with heap:=h',toks:=tk }:=I.turned (fun b o hb e=>kk b o (by simpa using hb) e) f0 f1 f3 f4 f5;refine ⟨_,rfl,uh (s:={ s with heap:=h',toks:=tk }) (n := "range_iterator") st' rfl rfl (by decide) ⟨.int (lo+i),H,I1,⟨t,?_⟩,⟨rfl,rfl⟩,st',fun b hb=>(hf b hb).1⟩⟩;rw [Int.mul_one]
  done:=by
    intro X hP hw hK hc i pins s σ H E I hf st hg;subst hP hw hK;obtain ⟨f0,f1,f2,f3,f4,f5⟩:=hf it (by simp);exact wpAny_pyNext_range_end (I.ok.hd hc) st (by have:n<=i:=hg;omega) fun h' eb=>⟨rfl,I.turned (t':=s.toks) (fun b o hb e=>eb b o hb e) f0 f1 f3 f4 f5⟩
  self:=fun _ _ _ _ _ st h=>wpAny_pyIter_rangeiter st h
section
variable {X:Cx} {tg:Expr}
theorem AI {pins:List (Addr×Obj)} {σ:St} {H:Hp} {s:Shared} {R:It->Hp->Prop} {E:Value->Shared->Prop} {lo hi:Int} {t u v:Tok} {tk:Nat} (I:aS X pins σ H s) (h1:-(2 ^ 62)<=lo) (h2:lo < 2 ^ 62) (h3:-(2 ^ 62)<=hi) (h4:hi < 2 ^ 62)
    (q:R (G2 lo (hi-lo).toNat) H):wpAny (model X.prog X.w) X.A (pyIter (.ref s.heap.objs.size)) (ID X pins σ tg R) E { s with heap:=s.heap.push { cls:=.type "range",data:=.fields #[.int lo t,.int hi u,.int 1 v] },toks:=tk }:=by
  refine wpAny_pyIter_range (IsRange.new ..) (small_one h1 h2 h3 h4) ?_;have I1:aS X pins σ H { s with heap:=s.heap.push { cls:=.type "range",data:=.fields #[.int lo t,.int hi u,.int 1 v] },toks:=tk }:=I.kept fun b o e=>Heap.get?_push_of_some _ e
  refine ⟨(s.heap.push { cls:=.type "range",data:=.fields #[.int lo t,.int hi u,.int 1 v] }).objs.size,[(s.heap.push { cls:=.type "range",data:=.fields #[.int lo t,.int hi u,.int 1 v] }).objs.size],_,_,H,rfl,
    I1.kept (t':=tk) fun b o e=>Heap.get?_push_of_some _ e,wf _ lo (hi-lo).toNat,?_,fun b hb=>?_,q⟩
  · have e1:lo+((0:Nat):Int)*1=lo:=by simp
    have e2:(((hi-lo).toNat:Nat):Int)-((0:Nat):Int)=Builtin.Range.rangeSize lo hi 1:=by rw [rangeSize_one];split <;> omega
    show IsRangeIter _ _ (lo+((0:Nat):Int)*1) ((((hi-lo).toNat:Nat):Int)-((0:Nat):Int)) 1;rw [e1,e2];exact Heap.get?_push_size _ rfl
  · have e:b=(s.heap.push { cls:=.type "range",data:=.fields #[.int lo t,.int hi u,.int 1 v] }).objs.size:=by simpa using hb
    subst e;exact I1.fpOk (Nat.le_refl _) (I1.hok.fresh (Nat.le_refl _))
noncomputable def FQ (ta:TA):TI:=fun σ H R=>ta σ H fun vs H1=>∃ j:Int,vs=[.int j]/\-(2 ^ 62)<=j/\j < 2 ^ 62/\R (G2 0 j.toNat) H1
theorem yA {a:Expr} {ta:TA} {p pos:Pos} (hg:Gl X "range") (hm:X.mg "range" = none) (ha:PA X [a] ta) (hs:starEach [a] X.env=[(false,eval a X.env)]:=by rfl):PI X tg (.Call (.Name "range" p) [a] [] pos) (FQ ta):=by
  intro pins s σ H R I h;refine Call_ (km I hg hm boot_range (PyProof.Rows.callWith_type1 (dM (ha pos pins s σ H _ I h) fun us s1 zq0=>?_) hs rfl));obtain ⟨vs,H1,I1,r1,q1⟩:=zq0;obtain ⟨j,e,q1,q2,q⟩:=q1;subst e;cases r1 with
  | cons r rr =>
    cases rr;obtain ⟨t,rfl⟩:=r;exact call_range_1 (AI I1 (by omega) (by omega) q1 q2 (by simpa using q))
noncomputable def Ii (wi:TI) (g:TG) (tb:TS):TS:=fun D σ H=>wi σ H fun J H1=>∃ W:Nat->Nat->St->Hp->Prop,(∃ m,W 0 m σ H1)/\∀ i m σ H,W i m σ H ->
  (J.stop i H/\D.nx σ H)\/(J.go i H/\∃ N:St->Hp->Prop,(∀ σ' H',N σ' H'->∃ m',m' < m/\W (i+1) m' σ' H')/\∀ x H',J.yld i H x H'->g x σ H' fun σ2 H2=>tb { D with nx:=N,ct:=N,bk:=D.nx } σ2 H2)
noncomputable def pZ (fp:List Addr) (h:Heap):List (Addr×Obj):=fp.filterMap fun b=>(h.get? b).map fun o=>(b,o)
theorem jy {fp:List Addr} {h:Heap} {b:Addr} {o:Obj} (hb:b∈fp) (e:h.get? b=some o):(b,o)∈pZ fp h:=List.mem_filterMap.mpr ⟨b,hb,by rw [e];rfl⟩
theorem yy {fp:List Addr} {h:Heap} {p:Addr×Obj} (hp:p∈pZ fp h):p.1∈fp/\h.get? p.1=some p.2:=by
  obtain ⟨b,hb,e⟩:=List.mem_filterMap.mp hp;cases q:h.get? b with
  | none=>rw [q] at e;cases e
  | some o =>
    rw [q] at e;have e':(b,o)=p:=Option.some.inj e;subst e';exact ⟨hb,q⟩
theorem aS.pinned {pins:List (Addr×Obj)} {σ:St} {H:Hp} {s:Shared} {fp:List Addr} (I:aS X pins σ H s) (hf:∀ b∈fp,oK X pins H b) (ho:∀ b∈fp,∃ o,s.heap.get? b=some o/\∀ v,o.data≠.cell v):aS X (pins++pZ fp s.heap) σ H s :=
  I.pins_of fun p hp=>(List.mem_append.mp hp).elim (fun z=>I.pin p (List.mem_append_right _ z)) fun z=>by
    obtain ⟨hb,e⟩:=yy z;obtain ⟨f0,f1,f2,_⟩:=hf p.1 hb;obtain ⟨o,e',d⟩:=ho p.1 hb;rw [e] at e';cases e';exact ⟨e,f0,f1,f2,d⟩
theorem aS.unpinned {pins pl:List (Addr×Obj)} {σ:St} {H:Hp} {s:Shared} (I:aS X (pins++pl) σ H s):aS X pins σ H s:=I.pins_of fun p hp=>I.pin p (List.mem_append_right _ (List.mem_append_left _ hp))
theorem EE {iter:Expr} {body:List Stmt} {wi:TI} {g:TG} {tb:TS} {pos:Pos} (hp:PassesOwn (model X.prog X.w) X.A X.env X.xe) (hc:X.calm=true) (hi:PI X tg iter wi) (hg:PG X tg g) (hb:rL X body tb)
    (hs:∀ x,foldedSetIterable iter X.env x=pure x:=by intro _;rfl):PS X (.For tg iter body [] pos) (Ii wi g tb):=by
  intro pins s σ H D I h;refine wpAny_For (dM (hi pins s σ H _ I h) fun v s1 h1=>dM h1 fun itv s2 h2=>?_) hs;obtain ⟨it,fp,tn,J,H2,e,I2,T,st2,f2,W,⟨m0,w0⟩,turn⟩:=h2;subst e
  -- what stays true of the iterator's objects through the loop
  have stat:∀ {H':Hp},(∀ b∈fp,H' b=none)->∀ b∈fp,oK X pins H' b:=fun hn b hb=>⟨hn b hb,(f2 b hb).2⟩
  refine codeAny_forLoop_any (fun n s'=>∃ i σ' H',aS X pins σ' H' s'/\tn i s'.heap/\(∀ b∈fp,H' b=none)/\W i n σ' H') ?_ m0 ⟨0,σ,H2,I2,st2,fun b hb=>(f2 b hb).1,w0⟩;rintro n s3 ⟨i,σ3,H3,I3,st3,fr3,w3⟩;rcases turn i n σ3 H3 w3 with ⟨stop,qn⟩ | ⟨go,N,hN,step⟩
  · refine wpAny_passesOwn hp (dM (T.done X rfl rfl rfl hc i pins s3 σ3 H3 X.xe I3 (stat fr3) st3 stop) fun r s4 zq0=>?_);obtain ⟨hr,I4⟩:=zq0;subst hr;exact wpAny_execs_nil ⟨σ3,H3,I4,qn⟩
  · refine wpAny_passesOwn hp (dM (T.item X rfl rfl rfl hc i pins s3 σ3 H3 X.xe I3 (stat fr3) st3 go) fun r s4 zq0=>?_);obtain ⟨u,hr,h4⟩:=zq0;subst hr;refine wpAny_passesOwn hp (dM h4 fun _ s5 zq0=>?_);obtain ⟨x,H5,I5,r5,y5,st5,fr5⟩:=zq0;have I5':=I5.pinned (stat fr5) (T.obj _ _ st5);refine wpAny_passesOwn hp (dM (hg _ s5 σ3 H5 x u _ I5' r5 (step x H5 y5)) fun _ s6 zq0=>?_);obtain ⟨σ6,H6,I6,q6⟩:=zq0;refine wpAny_passesOwn hp (dM (hb _ s6 σ6 H6 _ I6 q6) fun f s7 q7=>?_);have again:∀ {σ7:St} {H7:Hp},aS X (pins++pZ fp s5.heap) σ7 H7 s7->N σ7 H7->∃ m,m < n/\∃ i σ' H',aS X pins σ' H' s7/\tn i s7.heap/\(∀ b∈fp,H' b=none)/\W i m σ' H':=fun {σ7 H7} I7 n7=>by
      obtain ⟨m',hm,w7⟩:=hN σ7 H7 n7;refine ⟨m',hm,i+1,σ7,H7,I7.unpinned,T.keep _ _ _ st5 fun b hb o e=>(I7.pin (b,o) (List.mem_append_right _ (List.mem_append_right _ (jy hb e)))).1,fun b hb=>?_,w7⟩;obtain ⟨o,e,d⟩:=T.obj _ _ st5 b hb;exact (I7.pin (b,o) (List.mem_append_right _ (List.mem_append_right _ (jy hb e)))).2.1
    cases f with
    | next=>obtain ⟨σ7,H7,I7,n7⟩:=q7;exact again I7 n7
    | cont=>obtain ⟨σ7,H7,I7,n7⟩:=q7;exact again I7 n7
    | brk=>obtain ⟨σ7,H7,I7,q7⟩:=q7;exact ⟨σ7,H7,I7.unpinned,q7⟩
    | ret v=>obtain ⟨x7,σ7,H7,I7,r7,q7⟩:=q7;exact ⟨x7,σ7,H7,I7.unpinned,r7,q7⟩
end
noncomputable abbrev R2:=V->V->Hp->VK->Prop
noncomputable def jP (X:Cx) (f:Value->Value->Sem Value) (r:R2):Prop :=
  ∀ (pins:List (Addr×Obj)) (s:Shared) (σ:St) (H:Hp) (x y:V) (v u:Value) (Q:VK),aS X pins σ H s->bW x v->bW y u->r x y H Q ->
    wpAny (model X.prog X.w) X.A (f v u) (EP X pins σ Q) X.xe s
noncomputable def HA (X:Cx) (f:Value->Sem Value) (r:V->Hp->VK->Prop):Prop :=
  ∀ (pins:List (Addr×Obj)) (s:Shared) (σ:St) (H:Hp) (x:V) (v:Value) (Q:VK),aS X pins σ H s->bW x v->r x H Q ->
    wpAny (model X.prog X.w) X.A (f v) (EP X pins σ Q) X.xe s
noncomputable def eD (X:Cx) (f:Value) (r:List V->Hp->VK->Prop):Prop :=
  ∀ (pins:List (Addr×Obj)) (s:Shared) (σ:St) (H:Hp) (xs:List V) (us:List Value) (Q:VK),aS X pins σ H s->bE xs us->r xs H Q ->
    wpAny (model X.prog X.w) X.A (call f us) (EP X pins σ Q) X.xe s
noncomputable def GO (r:R2) (ta tb:TE):TE:=fun σ H Q=>ta σ H fun x H1=>tb σ H1 fun y H2=>r x y H2 Q
noncomputable def IK (r:V->Hp->VK->Prop) (ta:TE):TE:=fun σ H Q=>ta σ H fun x H1=>r x H1 Q
noncomputable def rI (C:Int->Int->Prop) (g:Int->Int->V):R2:=fun x y H Q=>∃ i j,x=.int i/\y=.int j/\C i j/\Q (g i j) H
noncomputable def Bj (g:Int->Int->V):R2:=fun x y H Q=>∃ i j,x=.int i/\y=.int j/\Q (g i j) H
noncomputable def rU (g:Int->V):V->Hp->VK->Prop:=fun x H Q=>∃ i,x=.int i/\Q (g i) H
section
variable {X:Cx} {a b c:Expr} {ta tb tc:TE} {pos:Pos}
theorem DR (ha:PE X a ta) (hb:PE X b tb) {pins:List (Addr×Obj)} {s:Shared} {σ:St} {H:Hp} {R:V->V->Hp->Prop} (I:aS X pins σ H s)
    (h:ta σ H fun x H1=>tb σ H1 fun y H2=>R x y H2) {Q:Value->Shared->Prop} {f:Value->Value->Sem Value}
    (hf:∀ v u s2 x y H2,aS X pins σ H2 s2->bW x v->bW y u->R x y H2->wpAny (model X.prog X.w) X.A (f v u) Q X.xe s2) :
    wpAny (model X.prog X.w) X.A (eval a X.env) (fun v s₁=>wpAny (model X.prog X.w) X.A (eval b X.env) (fun u s₂=>wpAny (model X.prog X.w) X.A (f v u) Q X.xe s₂) X.xe s₁) X.xe s:=by
  refine dM (ha pins s σ H _ I h) fun v s1 zq0=>?_
  obtain ⟨x,H1,I1,r1,q1⟩:=zq0;refine dM (hb pins s1 σ H1 _ I1 q1) fun u s2 zq0=>?_
  obtain ⟨y,H2,I2,r2,q2⟩:=zq0;exact hf v u s2 x y H2 I2 r1 r2 q2
theorem F9 {op:Operator} {r:R2} (ho:jP X (binaryOp op) r) (ha:PE X a ta) (hb:PE X b tb):PE X (.BinOp a op b pos) (GO r ta tb):=by
  intro pins s σ H Q I h;exact wpAny_BinOp (DR ha hb I h fun v u s2 x y H2 I2 rx ry q=>ho pins s2 σ H2 x y v u Q I2 rx ry q)
theorem Gb {op:UnaryOp} {r:V->Hp->VK->Prop} (ho:HA X (unaryOp op) r) (ha:PE X a ta):PE X (.UnaryOp op a pos) (IK r ta):=by
  intro pins s σ H Q I h;exact UnaryOp_ (dM (ha pins s σ H _ I h) fun v s1 ⟨x,H1,I1,r1,q1⟩=>ho pins s1 σ H1 x v Q I1 r1 q1)
theorem HW {f:Value->Value->Sem Value} {C:Int->Int->Prop} {g:Int->Int->Int}
    (rule:∀ (i j:Int) (t u:Tok) (s:Shared) (Q:Value->Shared->Prop) (E:Value->Shared->Prop),C i j->Q (.int (g i j) s.toks) { s with toks:=s.toks+1 }->wpAny (model X.prog X.w) X.A (f (.int i t) (.int j u)) Q E s) :
    jP X f (rI C fun i j=>.int (g i j)):=by
  intro pins s σ H x y v u Q I rx ry h;obtain ⟨i,j,rfl,rfl,hc,q⟩:=h;obtain ⟨t,rfl⟩:=rx;obtain ⟨t',rfl⟩:=ry;exact rule i j t t' s _ _ hc ⟨.int (g i j),H,I.tok _,⟨_,rfl⟩,q⟩
theorem F2 {f:Value->Value->Sem Value} {g:Int->Int->Int}
    (rule:∀ (i j:Int) (t u:Tok) (s:Shared) (Q:Value->Shared->Prop) (E:Value->Shared->Prop),Q (.int (g i j) s.toks) { s with toks:=s.toks+1 }->wpAny (model X.prog X.w) X.A (f (.int i t) (.int j u)) Q E s) :
    jP X f (Bj fun i j=>.int (g i j)):=by
  intro pins s σ H x y v u Q I rx ry h;obtain ⟨i,j,rfl,rfl,q⟩:=h;obtain ⟨t,rfl⟩:=rx;obtain ⟨t',rfl⟩:=ry;exact rule i j t t' s _ _ ⟨.int (g i j),H,I.tok _,⟨_,rfl⟩,q⟩
theorem Ei {f:Value->Value->Sem Value} {g:Int->Int->Bool}
    (rule:∀ (i j:Int) (t u:Tok) (s:Shared) (Q:Value->Shared->Prop) (E:Value->Shared->Prop),Q (.bool (g i j)) s->wpAny (model X.prog X.w) X.A (f (.int i t) (.int j u)) Q E s) :
    jP X f (Bj fun i j=>.bl (g i j)):=by
  intro pins s σ H x y v u Q I rx ry h;obtain ⟨i,j,rfl,rfl,q⟩:=h;obtain ⟨t,rfl⟩:=rx;obtain ⟨t',rfl⟩:=ry;exact rule i j t t' s _ _ ⟨.bl (g i j),H,I,rfl,q⟩
noncomputable def Fh (i j:Int):Prop:=0 < j/\j < 1073741824
noncomputable def Bl (i j:Int):Prop:=(-(2 ^ 64) < i/\i < 2 ^ 64)\/(-(2 ^ 64) < j/\j < 2 ^ 64)
theorem Bl.ok {i j:Int} (h:Bl i j):IntMulOk i j:=by
  rcases h with ⟨h1,h2⟩ | ⟨h1,h2⟩
  · exact .of_left (intBits_le_64 h1 h2)
  · exact .of_right (intBits_le_64 h1 h2)
theorem Ej:jP X (binaryOp .Add) (Bj fun i j=>.int (i+j)):=F2 fun _ _ _ _ _ _ _ q=>add_int q
theorem En:jP X (binaryOp .Sub) (Bj fun i j=>.int (i-j)):=F2 fun _ _ _ _ _ _ _ q=>sub_int q
theorem El:jP X (binaryOp .Mult) (rI Bl fun i j=>.int (i*j)):=HW fun _ _ _ _ _ _ _ hc q=>mul_int q hc.ok
theorem Cg:jP X (binaryOp .FloorDiv) (rI Fh fun i j=>.int (i / j)):=HW fun i j _ _ _ _ _ hc q=>by
  have h1:(0:Int) < j:=hc.1;have h2:j < 1073741824:=hc.2;exact floordiv_int (by omega) (by rw [Int.fdiv_eq_ediv_of_nonneg i (by omega)];exact q) (.inl (PyProof.noPylong_small (by omega)))
theorem Ek:jP X (binaryOp .Mod) (rI (fun _ j=>0 < j) fun i j=>.int (i%j)):=HW fun i j _ _ _ _ _ hc q=>by
  have h1:(0:Int) < j:=hc;exact mod_int' (by omega) (by rw [Int.fmod_eq_emod_of_nonneg i (by omega)];exact q)
theorem Ja {f:Value->Sem Value} {g:Int->Int}
    (rule:∀ (i:Int) (t:Tok) (s:Shared) (Q:Value->Shared->Prop) (E:Value->Shared->Prop),Q (.int (g i) s.toks) { s with toks:=s.toks+1 }->wpAny (model X.prog X.w) X.A (f (.int i t)) Q E s) :
    HA X f (rU fun i=>.int (g i)):=by
  intro pins s σ H x v Q I rx h;obtain ⟨i,rfl,q⟩:=h;obtain ⟨t,rfl⟩:=rx;exact rule i t s _ _ ⟨.int (g i),H,I.tok _,⟨_,rfl⟩,q⟩
theorem E6:HA X (unaryOp .USub) (rU fun i=>.int (-i)):=Ja fun _ _ _ _ _ q=>neg_int q
end
section
variable {X:Cx} {a b c:Expr} {ta tb tc:TE} {pos:Pos}
theorem zL {pins:List (Addr×Obj)} {σ:St} {H:Hp} {s:Shared} {Q:VK} {k k':Bool} (I:aS X pins σ H s) (q:Q (.bl k) H) (e:k=k'):EP X pins σ Q (.bool k') s:=by
  subst e;exact ⟨.bl k,H,I,rfl,q⟩
theorem F3:jP X (compareOp .Lt) (Bj fun i j=>.bl (decide (i < j))):=Ei fun _ _ _ _ _ _ _ q=>lt_int q
theorem Av:jP X (compareOp .LtE) (Bj fun i j=>.bl (decide (i<=j))):=Ei fun _ _ _ _ _ _ _ q=>le_int q
theorem Dq:jP X (compareOp .Gt) (Bj fun i j=>.bl (decide (j < i))):=Ei fun _ _ _ _ _ _ _ q=>gt_int q
theorem Au:jP X (compareOp .Is) (fun x y H Q=>y=.non/\Q (.bl (decide (x=.non))) H):=by
  intro pins s σ H x y v u Q I rx ry h;obtain ⟨rfl,q⟩:=h;cases ry;refine is_none_gen (zL I q ?_);cases x <;> first
    | (cases rx;rfl)
    | (obtain ⟨t,rfl⟩:=rx;rfl)
theorem Ci:jP X (compareOp .IsNot) (fun x y H Q=>y=.non/\Q (.bl (!decide (x=.non))) H):=by
  intro pins s σ H x y v u Q I rx ry h;obtain ⟨rfl,q⟩:=h;cases ry;refine isnot_none_gen (zL I q ?_);cases x <;> first
    | (cases rx;rfl)
    | (obtain ⟨t,rfl⟩:=rx;rfl)
theorem jP.or {f:Value->Value->Sem Value} {r r':R2} (h:jP X f r) (h':jP X f r'):jP X f (fun x y H Q=>r x y H Q\/r' x y H Q):=by
  intro pins s σ H x y v u Q I rx ry q;rcases q with q | q
  · exact h pins s σ H x y v u Q I rx ry q
  · exact h' pins s σ H x y v u Q I rx ry q
theorem iT (b:Expr) {op:CmpOp} (h:op≠.In:=by decide) (h2:op≠.NotIn:=by decide):behindInMarks op b=false:=by
  have e1:(op==CmpOp.In)=false:=by cases op <;> first | rfl | exact absurd rfl h
  have e2:(op==CmpOp.NotIn)=false:=by cases op <;> first | rfl | exact absurd rfl h2
  cases b <;> simp [behindInMarks,e1,e2]
theorem Cn {op:CmpOp} {r:R2} (ho:jP X (compareOp op) r) (ha:PE X a ta) (hb:PE X b tb) (hm:behindInMarks op b=false):PE X (.Compare a [op] [b] pos) (GO r ta tb):=by
  intro pins s σ H Q I h;exact wpAny_Compare1 (DR ha hb I h fun v u s2 x y H2 I2 rx ry q=>ho pins s2 σ H2 x y v u Q I2 rx ry q) hm
noncomputable def GQ (t:TE):TT:=fun σ H Q=>t σ H fun x H'=>∃ k,x=.bl k/\Q k H'
theorem Cz {op:CmpOp} {r:R2} (ho:jP X (compareOp op) r) (ha:PE X a ta) (hb:PE X b tb) (hm:behindInMarks op b=false):PT X (.Compare a [op] [b] pos) (GQ (GO r ta tb)):=by
  intro pins s σ H Q I h;refine wpAny_isTrue_Compare1 (dM (ha pins s σ H _ I h) fun v s1 ⟨x,H1,I1,r1,q1⟩=>dM (hb pins s1 σ H1 _ I1 q1) fun u s2 ⟨y,H2,I2,r2,q2⟩ =>
    dM (ho pins s2 σ H2 x y v u _ I2 r1 r2 q2) fun c s3 ⟨z,H3,I3,r3,k,e,q3⟩=>?_) hm
  subst e;cases r3;exact wpAny_truthy_bool ⟨H3,I3,q3⟩
noncomputable def AX (r r':R2) (ta tb tc:TE):TE:=fun σ H Q=>ta σ H fun x H1=>tb σ H1 fun y H2=>r x y H2 fun z H3=>∃ k,z=.bl k /\
  (if k=true then tc σ H3 fun w' H4=>r' y w' H4 Q else Q (.bl false) H3)
theorem Ax {op op':CmpOp} {r r':R2} (ho:jP X (compareOp op) r) (ho':jP X (compareOp op') r') (ha:PE X a ta) (hb:PE X b tb) (hc:PE X c tc)
    (hm:lastMarks [op,op'] [b,c]=false:=by with_unfolding_all rfl):PE X (.Compare a [op,op'] [b,c] pos) (AX r r' ta tb tc):=by
  intro pins s σ H Q I h;refine Compare_chain (dM (ha pins s σ H _ I h) fun v s1 ⟨x,H1,I1,r1,q1⟩=>chain_link (dM (hb pins s1 σ H1 _ I1 q1) fun u s2 ⟨y,H2,I2,r2,q2⟩ =>
    dM (ho pins s2 σ H2 x y v u _ I2 r1 r2 q2) fun d s3 ⟨z,H3,I3,r3,k,e,q3⟩=>?_)) hm
  subst e;cases r3;refine wpAny_truthy_bool ?_;cases k with
  | false=>exact ite_ff ⟨.bl false,H3,I3,rfl,q3⟩
  | true=>exact ite_tt (chain_last (dM (hc pins s3 σ H3 _ I3 q3) fun w' s4 ⟨z',H4,I4,r4,q4⟩=>ho' pins s4 σ H4 y z' u w' Q I4 r2 r4 q4))
theorem nN:(sizeLine:Nat) < 2 ^ 63:=by rw [sizeLine_eq];decide
theorem ir {x:V} {us:List Value} (r:bE [x] us):∃ u,us=[u]/\bW x u:=by
  cases r with
  | cons r1 r2=>cases r2;exact ⟨_,rfl,r1⟩
theorem uN {x y:V} {us:List Value} (r:bE [x,y] us):∃ u w',us=[u,w']/\bW x u/\bW y w':=by
  cases r with
  | cons r1 r2 =>
    cases r2 with
    | cons r3 r4=>cases r4;exact ⟨_,_,rfl,r1,r3⟩
theorem xW (hc:X.calm=true):eD X (.builtin "max") (fun xs H Q=>∃ i j,xs=[.int i,.int j]/\Q (.int (if j > i then j else i)) H):=by
  intro pins s σ H xs us Q I r h;obtain ⟨i,j,rfl,q⟩:=h;obtain ⟨u,w',rfl,⟨t,rfl⟩,⟨t',rfl⟩⟩:=uN r;refine max_two_ints (I.ok.hd hc) fun h' tk k=>⟨_,H,I.kept k,?_,q⟩
  by_cases hj:j > i
  · rw [if_pos hj,if_pos hj];exact ⟨_,rfl⟩
  · rw [if_neg hj,if_neg hj];exact ⟨_,rfl⟩
theorem xX (hc:X.calm=true):eD X (.builtin "min") (fun xs H Q=>∃ i j,xs=[.int i,.int j]/\Q (.int (if j < i then j else i)) H):=by
  intro pins s σ H xs us Q I r h;obtain ⟨i,j,rfl,q⟩:=h;obtain ⟨u,w',rfl,⟨t,rfl⟩,⟨t',rfl⟩⟩:=uN r;refine min_two_ints (I.ok.hd hc) fun h' tk k=>⟨_,H,I.kept k,?_,q⟩
  by_cases hj:j < i
  · rw [if_pos hj,if_pos hj];exact ⟨_,rfl⟩
  · rw [if_neg hj,if_neg hj];exact ⟨_,rfl⟩
theorem qN:eD X (.type "int") (fun xs H Q=>(∃ i,xs=[.int i]/\Q (.int i) H)\/∃ k,xs=[.bl k]/\Q (.int (if k then 1 else 0)) H):=by
  intro pins s σ H xs us Q I r h;rcases h with ⟨i,rfl,q⟩ | ⟨k,rfl,q⟩
  · obtain ⟨u,rfl,t,rfl⟩:=ir r;exact call_int_int ⟨.int i,H,I,⟨_,rfl⟩,q⟩
  · obtain ⟨u,rfl,r1⟩:=ir r;cases r1;exact call_int_bool ⟨.int (if k then 1 else 0),H,I.tok _,⟨_,rfl⟩,q⟩
end
structure xF (h:Heap) (x dx C:Addr) (mA:Str->Option Value):Prop where
  obj:h.get? x=some (PySem.W.instObj C dx)
  ns:h.Ns1 dx mA
  ne:dx≠x
theorem yq {h:Heap} {dx:Addr} {mA:Str->Option Value} (n:h.Ns1 dx mA):∃ od,h.get? dx=some od/\∀ name,PySem.W.lookIn name od=some (mA name):=by
  obtain ⟨o,es,ep,ho,hd,hk,_,hm⟩:=n;refine ⟨o,ho,fun name=>?_⟩;have e:=hm name;unfold nsFind findBy at e;rw [<- Array.find?_toList] at e;unfold PySem.W.lookIn;rw [hd];dsimp only;split
  · rename_i y q;rw [q] at e;exact congrArg some e
  · rename_i q;rw [q] at e;have a:es.toList.any (·.refKey)=false:=by
      rw [List.any_eq_false];intro y hy;obtain ⟨z,t,hkey⟩:=hk y (Array.mem_toList_iff.mp hy);simp [DictEntry.refKey,hkey]
    have a':¬ es.toList.any (·.refKey)=true:=by rw [a];exact Bool.false_ne_true
    rw [if_neg a'];exact congrArg some e
theorem xF.look {h:Heap} {x dx C:Addr} {mA:Str->Option Value} (I:xF h x dx C mA):∃ od,PySem.W.InstAt h x (PySem.W.instObj C dx) C (some od)/\∀ name,PySem.W.lookIn name od=some (mA name) :=
  let ⟨od,ho,hl⟩:=yq I.ns
  ⟨od,⟨I.obj,rfl,rfl,ho⟩,hl⟩
section
variable {prog:Program} {w:World} {A:Around} {E:Value->Shared->Prop} {s:Shared} {K:PySem.W.Frag} {x dx C f:Addr} {mA:Str->Option Value} {name:Str} {v:Value}
theorem BT {expr:Bool} {Q:Value->Shared->Prop} (X:K.In s.heap) (I:xF s.heap x dx C mA) (hg:PySem.W.plainGet K C name=true) (hh:PySem.W.hasDictIn K C=true)
    (ha:PySem.W.findIn K (.ref C) name=some none) (hv:mA name=some v) (hv':PySem.W.handedIn v=true) (h:Q v { s with toks:=s.toks+1 }) :
    wpAny (model prog w) A (getAttr (.ref x) name expr) Q E s:=by
  obtain ⟨od,J,hl⟩:=I.look;exact PySem.W.get_value X J (PySem.W.plainGet_of hg).1 (PySem.W.findObj_own hh ha rfl (by rw [hl,hv])) hv' h
theorem CI {ns:List Str} {Q:Unit->Shared->Prop} (X:K.In s.heap) (I:xF s.heap x dx C mA)
    (hs:PySem.W.findIn K (.ref C) "__setattr__" = some (some (.builtin "object.__setattr__"))) (hp:PySem.W.plainOver K C=true) (ht:PySem.W.takerIn K C name=some none) (hh:PySem.W.hasDictIn K C=true)
    (hw:PySem.Within mA ns) (hsz:ns.length<=sizeLine)
    (h:∀ h',xF h' x dx C (fun y=>if y=name then some v else mA y)->Heap.SameBut dx s.heap h'->Q () { s with heap:=h',toks:=s.toks+2 }) :
    wpAny (model prog w) A (setAttr (.ref x) name v) Q E s:=by
  obtain ⟨od,J,hl⟩:=I.look;refine PySem.W.set_plain X J hs (PySem.W.osa_open (s:={ s with toks:=s.toks+1 }) (r:=none) X J hp ht fun b=>?_);obtain ⟨cd,hc,hd'⟩:=PySem.W.any_some hh;have hx:s.heap.get? x=some ⟨.ref C,some dx,.plain,#[]⟩:=I.obj;refine wpAny_bind (wpAny_pure (wpAny_bind (wpAny_bind (wpAny_loadPart hx (wpAny_bind (PySem.W.Looks.here (s:={ s with toks:=s.toks+1 }) (PySem.W.looks_clsIn X hc) ?_))))));rw [hd'];refine wpAny_pure (a:=some dx) (wpAny_bind (wpAny_pure (wpAny_bind ?_)));refine wpAny_nsSet1 (s:={ s with toks:=s.toks+1 }) I.ns fun h' hn2 hs2=>?_
  obtain ⟨oD,esD,epD,hoD,hdD,hcD⟩:=hn2.count (PySem.Within.cons name v hw);refine wpAny_bind (wpAny_lookBehind hoD (by rw [hdD];exact pastItsLine_dict (Nat.le_trans hcD (by rw [List.length_cons];omega))) ?_);exact wpAny_pure (h _ ⟨(hs2.2 _ (Ne.symm I.ne)).trans I.obj,hn2,I.ne⟩ hs2)
theorem Ak {R:Result->Shared->Prop} {vs:List Value} {kw:List (Str×Value)} (X:K.In s.heap) (hm:PySem.W.makesIn K C=true)
    (hi:PySem.W.findIn K (.ref C) "__init__" = some (some (.ref f))) (hf:PySem.W.typeIn K (.ref f)=some (.type "function"))
    (h:codeAny (model prog w) (A.under (.builtin "type.__call__" ⟨.ref C::vs,kw⟩)) (.call (.ref f) ⟨.ref (s.heap.objs.size+1)::vs,kw⟩) (PySem.W.InitBack (s.heap.objs.size+1) R)
      { s with heap:=(s.heap.push PySem.W.emptyDict).push (PySem.W.instObj C s.heap.objs.size) }) :
    codeAny (model prog w) A (.call (.ref C) ⟨vs,kw⟩) R s:=by
  obtain ⟨hh,g,d,t,os⟩:=s;exact PySem.W.make_core (PySem.W.makes_of X hm) (PySem.W.looks_findIn X hi) (fun self=>PySem.W.bind_fn X self hf) (.inl rfl) h
end
noncomputable def jb (f:Str) (v:V):List (Str×V)->List (Str×V)
  | []=>[(f,v)]
  | (g,x)::r=>if g=f then (g,v)::r else (g,x)::jb f v r
theorem ou (f g:Str) (v:V):∀ fs:List (Str×V),(jb f v fs).lookup g=if g=f then some v else fs.lookup g
  | []=>by
    show List.lookup g [(f,v)]=_;by_cases h:g=f
    · have hb:(g==f)=true:=beq_iff_eq.mpr h;simp only [List.lookup,hb,if_pos h]
    · have hb:(g==f)=false:=beq_eq_false_iff_ne.mpr h;simp only [List.lookup,hb,if_neg h]
  | (k,x)::r=>by
    have ih:=ou f g v r;rw [show jb f v ((k,x)::r)=(if k=f then (k,v)::r else (k,x)::jb f v r) from rfl];by_cases hk:k=f
    · rw [if_pos hk];by_cases h:g=k
      · have hb:(g==k)=true:=beq_iff_eq.mpr h;simp only [List.lookup,hb,if_pos (h.trans hk)]
      · have hb:(g==k)=false:=beq_eq_false_iff_ne.mpr h;simp only [List.lookup,hb,if_neg (fun e:g=f=>h (e.trans hk.symm))]
    · rw [if_neg hk];by_cases h:g=k
      · have hb:(g==k)=true:=beq_iff_eq.mpr h;simp only [List.lookup,hb,if_neg (fun e:g=f=>hk (h.symm.trans e))]
      · have hb:(g==k)=false:=beq_eq_false_iff_ne.mpr h;simp only [List.lookup,hb];exact ih
theorem nM (f:Str) (v:V):∀ fs:List (Str×V),f∈(jb f v fs).map (·.1)/\∀ g,g∈fs.map (·.1)->g∈(jb f v fs).map (·.1)
  | []=>⟨by simp [jb],fun g h=>by simp at h⟩
  | (k,x)::r=>by
    obtain ⟨i1,i2⟩:=nM f v r;rw [show jb f v ((k,x)::r)=(if k=f then (k,v)::r else (k,x)::jb f v r) from rfl];by_cases hk:k=f
    · rw [if_pos hk];subst hk;exact ⟨by simp,fun g h=>by simpa using h⟩
    · rw [if_neg hk];refine ⟨?_,fun g h=>?_⟩
      · rw [List.map_cons];exact List.mem_cons_of_mem _ i1
      · rw [List.map_cons] at h ⊢;rcases List.mem_cons.mp h with e | e
        · exact List.mem_cons.mpr (.inl e)
        · exact List.mem_cons_of_mem _ (i2 g e)
theorem iE (f:Str) (v:V):∀ fs:List (Str×V),(jb f v fs).length<=fs.length+1
  | []=>by simp [jb]
  | (k,x)::r=>by
    have ih:=iE f v r;rw [show jb f v ((k,x)::r)=(if k=f then (k,v)::r else (k,x)::jb f v r) from rfl];by_cases hk:k=f
    · rw [if_pos hk,List.length_cons,List.length_cons];omega
    · rw [if_neg hk,List.length_cons,List.length_cons];omega
theorem ny.some_of {v:V} {o:Option Value} (r:ny (some v) o):∃ u,o=some u/\bW v u:=by
  cases o with
  | none=>exact (show False from r).elim
  | some u=>exact ⟨u,rfl,r⟩
theorem yg {v:V} {u:Value} (r:bW v u):PySem.W.handedIn u=true:=by
  cases v with
  | non=>cases (show u=Value.none from r);rfl
  | bl b=>cases (show u=Value.bool b from r);rfl
  | int i=>obtain ⟨t,e⟩:=(show ∃ t,u=Value.int i t from r);cases e;rfl
  | str x=>obtain ⟨t,e⟩:=(show ∃ t,u=Value.str x t from r);cases e;rfl
  | byt b=>obtain ⟨t,e⟩:=(show ∃ t,u=Value.bytes b t from r);cases e;rfl
  | flt b=>obtain ⟨t,e⟩:=(show ∃ t,u=Value.float b t from r);cases e;rfl
  | ref a=>cases (show u=Value.ref a from r);rfl
  | ty n=>cases (show u=Value.type n from r);rfl
section
variable {P:Program} {w:World} {H H':Hp} {h h':Heap} {a C dx:Addr} {fs fs':List (Str×V)}
theorem wU (hok:iO P w H h) (e:H a=some (.ins C dx fs)):∃ mA,xF h a dx C mA/\(∀ f,ny (fs.lookup f) (mA f))/\PySem.Within mA (fs.map (·.1))/\fs.length<=1000/\H dx=some (.own a):=by
  obtain ⟨d,z,ne,ob,mA,n,r,q⟩:=(show cm P w H h a (.ins C dx fs) from hok a _ e)
  exact ⟨mA,⟨ob,n,ne⟩,r,q,z,d⟩
end
structure yU (K:PySem.W.Frag) (C:Addr):Prop where
  pg:PySem.W.plainGet K C Str.empty=true
  hd:PySem.W.hasDictIn K C=true
  po:PySem.W.plainOver K C=true
  sa:PySem.W.findIn K (.ref C) "__setattr__" = some (some (.builtin "object.__setattr__"))
theorem yU.get {K:PySem.W.Frag} {C:Addr} (c:yU K C) (f:Str):PySem.W.plainGet K C f=true:=c.pg
noncomputable def fy (K:PySem.W.Frag) (C:Addr) (f:Str):Prop:=PySem.W.findIn K (.ref C) f=some none
theorem fy.taker {K:PySem.W.Frag} {C:Addr} {f:Str} (n:fy K C f):PySem.W.takerIn K C f=some none:=by
  unfold PySem.W.takerIn;rw [show PySem.W.findIn K (.ref C) f=some none from n];rfl
section
variable {X:Cx} {pins:List (Addr×Obj)} {σ:St} {H:Hp} {s:Shared} {a C dx:Addr} {fs:List (Str×V)} {f:Str} {v:V} {A:Around} {E:Value->Shared->Prop}
theorem vZ {y:V} {u:Value} {Q:Unit->Shared->Prop} (I:aS X pins σ H s) (e:H a=some (.ins C dx fs)) (c:yU X.K C) (n:fy X.K C f) (hl:fs.length < 1000) (ry:bW y u)
    (h:∀ s',aS X pins σ (de H a (.ins C dx (jb f y fs))) s'->Q () s'):wpAny (model X.prog X.w) A (setAttr (.ref a) f u) Q E s:=by
  obtain ⟨mA,O,r,wi,_,ho⟩:=wU I.hok e;have hz:(fs.map (·.1)).length<=sizeLine:=by rw [List.length_map,sizeLine_eq];omega
  refine CI I.kIn O c.sa c.po n.taker c.hd wi hz fun h' O' sb=>h _ ?_
  have hd:∃ o,h'.get? dx=some o:=let ⟨o,_,_,e',_⟩:=O'.ns;⟨o,e'⟩
  refine I.write (x:=a) (e:=dx) (by rw [e];exact True.intro) (.inr ho) (fun b q hb z=>(sb.2 b hb).trans z) hd ?_;refine ⟨by rw [aB O.ne];exact ho,?_,O.ne,O'.obj,_,O'.ns,fun g=>?_,fun g hg=>?_⟩
  · have:=iE f y fs;omega
  · show ny ((jb f y fs).lookup g) (if g=f then some u else mA g);rw [ou];by_cases q:g=f
    · rw [if_pos q,if_pos q];exact ry
    · rw [if_neg q,if_neg q];exact r g
  · by_cases q:g=f
    · rw [q];exact (nM f y fs).1
    · refine (nM f y fs).2 g (wi g fun z=>hg ?_);show (if g=f then some u else mA g)=none;rw [if_neg q];exact z
theorem aS.made (I:aS X pins σ H s):aS X pins σ (de (de H s.heap.objs.size (.own (s.heap.objs.size+1))) (s.heap.objs.size+1) (.ins C s.heap.objs.size []))
    { s with heap:=(s.heap.push PySem.W.emptyDict).push (PySem.W.instObj C s.heap.objs.size) }:=by
  have e1:(s.heap.push PySem.W.emptyDict).get? s.heap.objs.size=some PySem.W.emptyDict:=Heap.get?_push_size s.heap rfl;have e2:((s.heap.push PySem.W.emptyDict).push (PySem.W.instObj C s.heap.objs.size)).get? (s.heap.objs.size+1)=some (PySem.W.instObj C s.heap.objs.size):=by
    have:=Heap.get?_push_size (s.heap.push PySem.W.emptyDict) (o:=PySem.W.instObj C s.heap.objs.size) rfl
    rwa [Heap.size_push] at this
  have e3:(s.heap.push PySem.W.emptyDict).Ns s.heap.objs.size (fun _=>none):=⟨PySem.W.emptyDict,#[],_,e1,rfl,(fun e he=>absurd he (by simp)),fun _=>rfl⟩
  have I1:=I.laid (a:=s.heap.objs.size) (o:=.own (s.heap.objs.size+1)) (h':=s.heap.push PySem.W.emptyDict) (t':=s.toks) (fun b u q=>Heap.get?_push_of_some _ q) (Nat.le_refl _) ⟨_,e1⟩;refine I1.laid (a:=s.heap.objs.size+1) (o:=.ins C s.heap.objs.size []) (t':=s.toks) (fun b u q=>Heap.get?_push_of_some _ q) (Nat.le_of_eq (Heap.size_push _ _)) ?_;have ne:s.heap.objs.size≠s.heap.objs.size+1:=Nat.ne_of_lt (Nat.lt_succ_self _);refine ⟨by rw [aB ne,bq],Nat.zero_le _,ne,e2,fun _=>none,(Heap.Ns1.of_empty e3).at fun o q=>Heap.get?_push_of_some _ q,fun _=>True.intro,fun y hy=>absurd rfl hy⟩
theorem Bz {prog:Program} {w:World} {env:Env} {e:Expr} {f:Str} {pos:Pos} {s:Shared} {Q:Value->Shared->Prop} (hb:attributeBase e f env (eval e env)=eval e env)
    (h:wpAny (model prog w) A (eval e env) (fun o s₁=>wpAny (model prog w) A (getAttr o f true) Q E s₁) E s):wpAny (model prog w) A (eval (.Attribute e f pos) env) Q E s :=
  Attribute_any_ h (by rw [arm_eval_Attribute,hb])
end
noncomputable def Ib (K:PySem.W.Frag) (ta tv:TE) (f:Str):TS:=fun D σ H=>tv σ H fun y H1=>ta σ H1 fun x H2=>∃ a C dx fs,x=.ref a/\H2 a=some (.ins C dx fs)/\yU K C/\fy K C f/\fs.length < 1000 /\
  D.nx σ (de H2 a (.ins C dx (jb f y fs)))
section
variable {X:Cx} {o e value:Expr} {f:Str} {pos pos' tpos:Pos} {ta tv:TE}
theorem vQ (ha:PE X o ta) (hv:PE X value tv) (hs:swapsWith value (some (.Attribute o f pos')) pos.line X.env=pure false):PS X (.Assign [.Attribute o f pos'] value pos) (Ib X.K ta tv f):=by
  intro pins s σ H D I h;refine plainObj_wpAny_Assign_Attribute (dM (hv pins s σ H _ I h) fun u s1 ⟨y,H1,I1,ry,q⟩=>dM (ha pins s1 σ H1 _ I1 q) fun ov s2 zq0=>?_) hs;obtain ⟨x,H2,I2,rx,a,C,dx,fs,ex,ea,c,n,l,q2⟩:=zq0;subst ex;obtain rfl:ov=Value.ref a:=rx;exact vZ I2 ea c n l ry fun s3 I3=>⟨σ,_,I3,q2⟩
end
section
variable {X:Cx} {pins:List (Addr×Obj)} {σ:St} {H:Hp} {s:Shared} {A:Around} {E:Value->Shared->Prop} {Q:Value->Shared->Prop} {c:Value} {b:Bool}
inductive lY (K:PySem.W.Frag) (H:Hp):V->Value->Prop where
  | non:lY K H .non (.type "NoneType")
  | bl (x:Bool):lY K H (.bl x) (.type "bool")
  | int (i:Int):lY K H (.int i) (.type "int")
  | str (x:Str):lY K H (.str x) (.type "str")
  | flt (x:UInt64):lY K H (.flt x) (.type "float")
  | lst {a:Addr} {xs:List V} (e:H a=some (.lst xs)):lY K H (.ref a) (.type "list")
  | frz {a:Addr} {o:Obj} {xs:List V} (e:H a=some (.frz o (.lst xs))):lY K H (.ref a) (.type "list")
  | tup {a:Addr} {xs:List V} (e:H a=some (.tup xs)):lY K H (.ref a) (.type "tuple")
  | dK {a:Addr} {kvs:List (dD×V)} (e:H a=some (.dK kvs)):lY K H (.ref a) (.type "dict")
  | dT {a:Addr} {kvs:List (List dD×V)} (e:H a=some (.dT kvs)):lY K H (.ref a) (.type "dict")
  | ins {a C dx:Addr} {fs:List (Str×V)} (e:H a=some (.ins C dx fs)) (cl:yU K C) (ha:PySem.W.findIn K (.ref C) "__class__" = some (some (.builtin "object.__class__")))
      (hn:PySem.W.specialIn K (.builtin "object.__class__") "__get__" = some (some (.builtin "getset_descriptor.__get__"))) (htk:PySem.W.takesIn K (.builtin "object.__class__")=some true)
      (hm:PySem.W.mroIn K C (.type "object")=some true):lY K H (.ref a) (.ref C)
theorem yj {x:V} {u t:Value} (I:aS X pins σ H s) (rx:bW x u) (ty:lY X.K H x t) (e:PySem.W.kitOne X.K t c=some b) (h:∀ tk,Q (.bool b) { s with toks:=tk }) :
    wpAny (model X.prog X.w) A (call (.builtin "isinstance") [u,c]) Q E s:=by
  cases ty with
  | non=>cases (show u=Value.none from rx);exact PySem.W.kia_one PySem.W.kitx_none I.kIn True.intro e (fun z=>nomatch z) h
  | bl y=>cases (show u=Value.bool y from rx);exact PySem.W.kia_one PySem.W.kitx_bool I.kIn True.intro e (fun z=>nomatch z) h
  | int i=>obtain ⟨t,q⟩:=(show ∃ t,u=Value.int i t from rx);cases q;exact PySem.W.kia_one PySem.W.kitx_int I.kIn True.intro e (fun z=>nomatch z) h
  | str y=>obtain ⟨t,q⟩:=(show ∃ t,u=Value.str y t from rx);cases q;exact PySem.W.kia_one PySem.W.kitx_str I.kIn True.intro e (fun z=>nomatch z) h
  | flt y=>obtain ⟨t,q⟩:=(show ∃ t,u=Value.float y t from rx);cases q;exact PySem.W.kia_one PySem.W.kitx_float I.kIn True.intro e (fun z=>nomatch z) h
  | @lst a xs ea =>
    cases (show u=Value.ref a from rx);obtain ⟨_,_,n,_,h1⟩:=(show cm X.prog X.w H s.heap a (.lst xs) from I.hok a _ ea)
    exact PySem.W.kia_one PySem.W.kitx_list I.kIn ⟨_,h1,rfl⟩ e (fun z=>nomatch z) h
  | @frz a ob xs ea =>
    cases (show u=Value.ref a from rx);obtain ⟨_,_,_,n,_,h1⟩:=(show cm X.prog X.w H s.heap a (.frz ob (.lst xs)) from I.hok a _ ea)
    exact PySem.W.kia_one PySem.W.kitx_list I.kIn ⟨_,h1,rfl⟩ e (fun z=>nomatch z) h
  | @tup a xs ea =>
    cases (show u=Value.ref a from rx);obtain ⟨_,_,_,p⟩:=(show cm X.prog X.w H s.heap a (.tup xs) from I.hok a _ ea)
    obtain ⟨o,h1,h2,_⟩:=p;exact PySem.W.kia_one PySem.W.kitx_tuple I.kIn ⟨o,h1,h2⟩ e (fun z=>nomatch z) h
  | @dK a kvs ea =>
    cases (show u=Value.ref a from rx);obtain ⟨_,_,vs,_,p⟩:=(show cm X.prog X.w H s.heap a (.dK kvs) from I.hok a _ ea)
    obtain ⟨o,es,ep,h1,h2,_⟩:=p;exact PySem.W.kia_one PySem.W.kitx_dict I.kIn ⟨o,h1,h2.1⟩ e (fun z=>nomatch z) h
  | @dT a kvs ea =>
    cases (show u=Value.ref a from rx);obtain ⟨_,_,xs,_,o,es,ep,h1,h2,_⟩:=(show cm X.prog X.w H s.heap a (.dT kvs) from I.hok a _ ea)
    exact PySem.W.kia_one PySem.W.kitx_dict I.kIn ⟨o,h1,h2.1⟩ e (fun z=>nomatch z) h
  | @ins a C dx fs ea cl ha hn htk hm =>
    cases (show u=Value.ref a from rx);obtain ⟨mA,O,_⟩:=wU I.hok ea;obtain ⟨od,J,_⟩:=O.look;exact PySem.W.kia_one (PySem.W.kitx_own (cl.get _) cl.hd ha hn htk hm) I.kIn J e (fun z=>nomatch z) h
end
structure fG (k:Nat) (A:Around):Prop where
  hd:A.handled=none
  dp:A.depth+3*k+5 < recursionLimit
  un:A.units+16*k+200 < cLine
theorem fG.mono {j k:Nat} {A:Around} (r:fG k A) (h:j<=k):fG j A:=⟨r.hd,by have:=r.dp;omega,by have:=r.un;omega⟩
theorem fG.deeper {k:Nat} {A:Around} (r:fG (k+1) A) (env:Env):fG k (A.deeper env) :=
  ⟨r.hd,by have:=r.dp;show A.depth+1+3*k+5 < _;omega,by have:=r.un;show A.units+3+16*k+200 < _;omega⟩
theorem vG {A:Around} {C:Addr} {us:List Value} {kw:List (Str×Value)}:(A.under (.builtin "type.__call__" ⟨.ref C::us,kw⟩)).depth=A.depth+1:=by
  first | rfl | simp [Around.under,Code.weight,Code.isCreation,Code.isGuard,Code.isCaller,Code.frames,Code.isFrame,guardIds]
theorem vH {A:Around} {C:Addr} {us:List Value} {kw:List (Str×Value)}:(A.under (.builtin "type.__call__" ⟨.ref C::us,kw⟩)).units=A.units+1:=by
  first | rfl | simp [Around.under,Code.cUnits,Code.frames,Code.isFrame]
theorem fG.make {k:Nat} {A:Around} (r:fG (k+1) A) (C:Addr) (us:List Value) (kw:List (Str×Value)):fG k (A.under (.builtin "type.__call__" ⟨.ref C::us,kw⟩)) :=
  ⟨r.hd,by have:=r.dp;rw [vG];omega,by have:=r.un;rw [vH];omega⟩
theorem fG.depth {k:Nat} {A:Around} (r:fG k A):A.depth < recursionLimit:=by have:=r.dp;omega
theorem fG.units {k:Nat} {A:Around} (r:fG k A):A.units+64 < cLine:=by have:=r.un;omega
noncomputable def Il:TA:=fun _ H Q=>Q [] H
noncomputable def GI (ta:TE) (tr:TA):TA:=fun σ H Q=>ta σ H fun x H1=>tr σ H1 fun xs H2=>Q (x::xs) H2
section
variable {X:Cx} {e:Expr} {es:List Expr} {te:TE} {t:TA} {pos:Pos}
theorem vO:PA X [] Il:=fun _ _ _ _ H Q I h=>Calls.spliced_nil ⟨[],H,I,.nil,h⟩
theorem mG (ha:PE X e te) (hr:PA X es t) (hs:starEach (e::es) X.env=(false,eval e X.env)::starEach es X.env:=by rfl):PA X (e::es) (GI te t):=by
  intro pos pins s σ H Q I h;rw [hs];show wpAny _ _ (spliced ((false,eval e X.env)::backTo pos (starEach es X.env))) _ _ s;refine Calls.spliced_cons (dM (ha pins s σ H _ I h) fun u s1 zq0=>?_);obtain ⟨x,H1,I1,r1,q1⟩:=zq0;exact dM (hr pos pins s1 σ H1 _ I1 q1) fun us s2 ⟨xs,H2,I2,r2,q2⟩=>⟨x::xs,H2,I2,.cons r1 r2,q2⟩
noncomputable def Iv (t:TA):TE:=fun σ H Q=>t σ H fun xs H1=>xs.length<=sizeLine/\∀ p,H1 p=none->Q (.ref p) (de H1 p (.tup xs))
noncomputable def Ik (t:TA):TE:=fun σ H Q=>t σ H fun xs H1=>xs.length<=sizeLine/\∀ p,H1 p=none->Q (.ref p) (de H1 p (.lst xs))
theorem Ez {x1} (h:PA X es t):PE X (.Tuple es x1 pos) (Iv t):=by
  intro pins s σ H Q I hq;refine wpAny_Tuple_spliced (dM (h pos pins s σ H _ I hq) fun us s1 ⟨xs,H1,I1,r,z,q⟩=>⟨by rw [<- r.length];exact z,?_⟩);have hf:H1 s1.heap.objs.size=none:=I1.hok.fresh (Nat.le_refl _);refine ⟨.ref s1.heap.objs.size,de H1 s1.heap.objs.size (.tup xs),I1.laid (t':=s1.toks) (fun b u e=>Heap.get?_push_of_some _ e) (Nat.le_refl _) ?_,rfl,q _ hf⟩;exact ⟨z,us,r,⟨_,Heap.get?_push_size _ rfl,rfl,⟨_,rfl⟩,rfl⟩⟩
theorem Et (h:PA X es t):PE X (.List es pos) (Ik t):=by
  intro pins s σ H Q I hq;refine wpAny_List_spliced (dM (h pos pins s σ H _ I hq) fun us s1 ⟨xs,H1,I1,r,z,q⟩=>⟨by rw [<- r.length];exact z,?_⟩);have hf:H1 s1.heap.objs.size=none:=I1.hok.fresh (Nat.le_refl _);refine ⟨.ref s1.heap.objs.size,de H1 s1.heap.objs.size (.lst xs),I1.laid (t':=s1.toks) (fun b u e=>Heap.get?_push_of_some _ e) (Nat.le_refl _) ?_,rfl,q _ hf⟩;exact ⟨z,us,0,r,Heap.get?_push_size _ rfl⟩
end
noncomputable abbrev Sp:=List V->Hp->VK->XK->Prop
noncomputable abbrev yT:=List Env->Hp->Shared->XK->Value->Shared->Prop
structure uZ (P:Program) (w:World) (K:PySem.W.Frag) (mg:Str->Option Value) (base:Heap) (A:Around) (outer:List Env) (s:Shared) (H:Hp):Prop where
  frames:A.frames=some outer
  mod:Mod K mg base
  bs:∀ b o,base.get? b=some o->s.heap.get? b=some o/\H b=none
  bsz:base.objs.size<=s.heap.objs.size
  funs:s.heap.FunFrames base outer
  frf:∀ b∈lS outer,H b=none
  hok:iO P w H s.heap
  bare:AllBare s.gens
noncomputable def CE (outer:List Env) (P:Program) (w:World) (H:Hp) (s:Shared) (Q:VK) (u:Value) (s':Shared):Prop :=
  ∃ v H',s'.os=s.os/\AllBare s'.gens/\Un (lS outer) [] H H' s.heap s'.heap/\iO P w H' s'.heap/\bW v u/\Q v H'
noncomputable def CR (CX:yT) (outer:List Env) (P:Program) (w:World) (H:Hp) (s:Shared) (Q:VK) (E:XK) (r:Result) (s':Shared):Prop :=
  match r with
  | .ok (.ret u)=>CE outer P w H s Q u s'
  | .ok _=>False
  | .error e=>CX outer H s E e s'
structure bd (P:Program) (w:World) (K:PySem.W.Frag) (mg:Str->Option Value) (base:Heap) (CX:yT) (k:Nat) (f:Addr) (fd:FuncData) (ps:List Str) (sp:Sp):Prop where
  len:∀ vs H Q E,sp vs H Q E->vs.length=ps.length
  run:∀ (A:Around) (outer:List Env) (s:Shared) (H:Hp) (args:Args) (us:List Value) (vs:List V) (Q:VK) (E:XK),fG k A->uZ P w K mg base A outer s H->BindsTo s fd args (ps.zip us)->bE vs us->sp vs H Q E ->
    codeAny (model P w) A (.call (.ref f) args) (CR CX outer P w H s Q E) s
theorem bd.mono {P:Program} {w:World} {K:PySem.W.Frag} {mg:Str->Option Value} {base:Heap} {CX:yT} {j k:Nat} {f:Addr} {fd:FuncData} {ps:List Str} {sp:Sp} (F:bd P w K mg base CX j f fd ps sp) (h:j<=k) :
    bd P w K mg base CX k f fd ps sp:=⟨F.len,fun A outer s H args us vs Q E hr=>F.run A outer s H args us vs Q E (hr.mono h)⟩
theorem bd.imp {P:Program} {w:World} {K:PySem.W.Frag} {mg:Str->Option Value} {base:Heap} {CX:yT} {k:Nat} {f:Addr} {fd:FuncData} {ps:List Str} {sp sp':Sp} (F:bd P w K mg base CX k f fd ps sp)
    (h:∀ vs H Q E,sp' vs H Q E->sp vs H Q E):bd P w K mg base CX k f fd ps sp' :=
  ⟨fun vs H Q E q=>F.len vs H Q E (h _ _ _ _ q),fun A outer s H args us vs Q E hr he hb hv hs=>F.run A outer s H args us vs Q E hr he hb hv (h _ _ _ _ hs)⟩
theorem uZ.make {P:Program} {w:World} {K:PySem.W.Frag} {mg:Str->Option Value} {base:Heap} {A:Around} {outer:List Env} {s:Shared} {H:Hp} (e:uZ P w K mg base A outer s H) (C:Addr) (us:List Value) (kw:List (Str×Value)) :
    uZ P w K mg base (A.under (.builtin "type.__call__" ⟨.ref C::us,kw⟩)) outer s H:=⟨by first | exact e.frames | (simpa [Around.under,Code.envs,Code.isFrame,pushEnvs] using e.frames),e.mod,e.bs,e.bsz,e.funs,e.frf,e.hok,e.bare⟩
section
variable {X:Cx} {pins:List (Addr×Obj)} {σ:St} {H:Hp} {s s':Shared}
theorem aS.env0 (I:aS X pins σ H s):uZ X.prog X.w X.K X.mg X.base X.A X.stack s H :=
  ⟨I.ok.frames,I.ok.mod,I.bs,Nat.le_trans I.ok.bsz I.sz,I.stack,I.stkFree,I.hok,I.bare⟩
theorem aS.after {Q:VK} {u:Value} (I:aS X pins σ H s) (h:CE X.stack X.prog X.w H s Q u s'):EP X pins σ Q u s':=by
  obtain ⟨v,H',os,bare,un,hok,r,q⟩:=h;obtain ⟨hh,g,d,t,os'⟩:=s';obtain rfl:os'=s.os:=os;exact ⟨v,H',I.call (h':=hh) (g':=g) (d':=d) (t':=t) (ch:=[]) un hok bare (fun b z=>absurd z (by simp)),r,q⟩
end
noncomputable def GH (sp:Sp) (dvs:List V) (E:XK) (t:TA):TE:=fun σ H Q=>t σ H fun vs H1=>sp (vs++dvs) H1 Q E
noncomputable def GL (C:Addr) (sp:Sp) (dvs:List V) (E:XK) (t:TA):TE:=fun σ H Q=>t σ H fun vs H1=>∀ x dx,H1 x=none->H1 dx=none->dx≠x ->
  sp (.ref x::(vs++dvs)) (de (de H1 dx (.own x)) x (.ins C dx [])) (fun v H2=>v=.non/\Q (.ref x) H2) E
noncomputable def bz (K:PySem.W.Frag) (fd:FuncData) (ps:List Str) (ds:List Value):Prop :=
  ∀ (s:Shared) (us:List Value),K.In s.heap->(us++ds).length=ps.length->BindsTo s fd ⟨us,[]⟩ (ps.zip (us++ds))
theorem bz.all {K:PySem.W.Frag} {fd:FuncData} {ps:List Str} (h:∀ us:List Value,us.length=ps.length->bindArgs fd ⟨us,[]⟩=pure (ps.zip us)):bz K fd ps []:=fun s us _ hl=>by
  rw [List.append_nil] at hl ⊢;exact .of_eq (h us hl)
noncomputable def o7 (CX:yT) (X:Cx) (E:XK):Prop:=∀ (pins:List (Addr×Obj)) (σ:St) (H:Hp) (s:Shared) (e:Value) (s':Shared),aS X pins σ H s->CX X.stack H s E e s'->X.xe e s'
section
variable {X:Cx} {CX:yT} {k:Nat} {f C:Addr} {fd:FuncData} {ps:List Str} {sp:Sp} {dvs:List V} {ds:List Value} {E:XK} {x m:Str} {p pos apos:Pos} {e o:Expr} {es:List Expr} {ta:TE} {t:TA}
theorem EL {pins:List (Addr×Obj)} {σ:St} {H:Hp} {s:Shared} {Q:VK} {us:List Value} {vs:List V} (F:bd X.prog X.w X.K X.mg X.base CX k f fd ps sp) (hr:fG k X.A) (hb:bz X.K fd ps ds) (hd:bE dvs ds) (hx:o7 CX X E)
    (I:aS X pins σ H s) (r:bE vs us) (h:sp (vs++dvs) H Q E):wpAny (model X.prog X.w) X.A (call (.ref f) us) (EP X pins σ Q) X.xe s:=by
  have r2:bE (vs++dvs) (us++ds):=r.append hd;have hl:(us++ds).length=ps.length:=by rw [<- r2.length];exact F.len _ _ _ _ h
  refine wpAny_call (codeAny_mono (F.run X.A X.stack s H ⟨us,[]⟩ (us++ds) (vs++dvs) Q E hr I.env0 (hb s us I.kIn hl) r2 h) fun r s' hq=>?_);cases r with
  | error e=>exact hx pins σ H s e s' I hq
  | ok fl =>
    cases fl with
    | ret u=>exact I.after hq
    | next=>exact False.elim hq
    | brk=>exact False.elim hq
    | cont=>exact False.elim hq
theorem Cm (F:bd X.prog X.w X.K X.mg X.base CX k f fd ps sp) (hr:fG k X.A) (hg:Gl X x) (hm:X.mg x=some (.ref f)) (hk:PySem.W.keepIn X.K (.ref f)=true) (hb:bz X.K fd ps ds) (hd:bE dvs ds) (hx:o7 CX X E)
    (ha:PA X (e::es) t) (hdb:(x==("__debug__" : Str))=false:=by decide) (he:starEach (e::es) X.env=(false,eval e X.env)::starEach es X.env:=by rfl) (hpl:(backTo pos (starEach es X.env)).any (·.1)=false:=by rfl) :
    PE X (.Call (.Name x p) (e::es) [] pos) (GH sp dvs E t):=by
  intro pins s σ H Q I h;refine wpAny_Call_Name_kw (mF I hg hm ?_ hdb);refine PySem.W.callWith_K (h₀:=X.base) I.ok.mod.kin hk (dM (ha pos pins s σ H _ I h) fun us s1 ⟨vs,H1,I1,r,q⟩=>⟨I1.kIn,?_⟩) he hpl;exact EL F hr hb hd hx I1 r q
structure Mk (K:PySem.W.Frag) (C f:Addr):Prop where
  makes:PySem.W.makesIn K C=true
  init:PySem.W.findIn K (.ref C) "__init__" = some (some (.ref f))
  fn:PySem.W.isFn K (.ref f)=true
  kp:PySem.W.keepIn K (.ref C)=true
theorem AM {pins:List (Addr×Obj)} {σ:St} {H:Hp} {s:Shared} {Q:VK} {us:List Value} {vs:List V} (M:Mk X.K C f) (F:bd X.prog X.w X.K X.mg X.base CX k f fd ps sp) (hr:fG (k+1) X.A) (hb:bz X.K fd ps ds) (hd:bE dvs ds)
    (hx:o7 CX X E) (I:aS X pins σ H s) (r:bE vs us)
    (h:∀ x dx,H x=none->H dx=none->dx≠x->sp (.ref x::(vs++dvs)) (de (de H dx (.own x)) x (.ins C dx [])) (fun v H2=>v=.non/\Q (.ref x) H2) E) :
    wpAny (model X.prog X.w) X.A (call (.ref C) us) (EP X pins σ Q) X.xe s:=by
  have hq:=h (s.heap.objs.size+1) s.heap.objs.size (I.hok.fresh (Nat.le_succ _)) (I.hok.fresh (Nat.le_refl _)) (Nat.ne_of_lt (Nat.lt_succ_self _));have I2:=aS.made (C:=C) I;have r2:bE (V.ref (s.heap.objs.size+1)::(vs++dvs)) (Value.ref (s.heap.objs.size+1)::(us++ds)):=.cons rfl (r.append hd);have hl:(Value.ref (s.heap.objs.size+1)::us++ds).length=ps.length:=by
    have e:=r2.length;rw [F.len _ _ _ _ hq] at e;exact e.symm
  refine wpAny_call (Ak (f:=f) I.kIn M.makes M.init (beq_iff_eq.mp M.fn) (codeAny_mono (F.run _ X.stack _ _ ⟨Value.ref (s.heap.objs.size+1)::us,[]⟩ (Value.ref (s.heap.objs.size+1)::(us++ds)) _ _ E (hr.make C us [])
    (I2.env0.make C us []) (hb _ (Value.ref (s.heap.objs.size+1)::us) I2.kIn hl) r2 hq) fun r s' hq'=>?_))
  cases r with
  | error e=>exact hx pins σ _ _ e s' I2 hq'
  | ok fl =>
    cases fl with
    | ret u =>
      obtain ⟨v,H',I3,rv,ev,q3⟩:=I2.after hq';subst ev;exact ⟨rv,⟨V.ref (s.heap.objs.size+1),H',I3,rfl,q3⟩⟩
    | next=>exact False.elim hq'
    | brk=>exact False.elim hq'
    | cont=>exact False.elim hq'
theorem Cp (M:Mk X.K C f) (F:bd X.prog X.w X.K X.mg X.base CX k f fd ps sp) (hr:fG (k+1) X.A) (hg:Gl X x) (hm:X.mg x=some (.ref C)) (hb:bz X.K fd ps ds) (hd:bE dvs ds) (hx:o7 CX X E)
    (ha:PA X (e::es) t) (hdb:(x==("__debug__" : Str))=false:=by decide) (he:starEach (e::es) X.env=(false,eval e X.env)::starEach es X.env:=by rfl) (hpl:(backTo pos (starEach es X.env)).any (·.1)=false:=by rfl) :
    PE X (.Call (.Name x p) (e::es) [] pos) (GL C sp dvs E t):=by
  intro pins s σ H Q I h;refine wpAny_Call_Name_kw (mF I hg hm ?_ hdb);refine PySem.W.callWith_K (h₀:=X.base) I.ok.mod.kin M.kp (dM (ha pos pins s σ H _ I h) fun us s1 ⟨vs,H1,I1,r,q⟩=>⟨I1.kIn,?_⟩) he hpl;exact AM M F hr hb hd hx I1 r q
end
structure aY (N P:List Str) (sc:Scope):Prop where
  kind:sc.kind=.function
  co:sc.isCoroutine=false
  gen:sc.isGenerator=false
  nd:N.Nodup
  pre:N.take P.length=P
  par:∀ x∈P,sc.names.lookup x=some .local\/sc.names.lookup x=some .cell
  nofree:∀ y∈sc.names,y.2≠.free
theorem qM {kindOf:Str->Option NameKind} {x:Str}:∀ {binds:List (Str×Value)} {m:Str->Option Value},(∀ v,(x,v)∉binds)->bindL kindOf binds m x=m x
  | [],_,_=>rfl
  | (n,v)::r,m,h=>by
    unfold bindL;rw [qM fun w hw=>h w (List.mem_cons_of_mem _ hw)];split
    · have:x≠n:=by rintro rfl;exact h v List.mem_cons_self
      simp [this]
    · rfl
theorem qK {kindOf:Str->Option NameKind} {x:Str}:∀ {binds:List (Str×Value)} {m:Str->Option Value},(∀ v,(x,v)∉binds)->bindC kindOf binds m x=m x
  | [],_,_=>rfl
  | (n,v)::r,m,h=>by
    unfold bindC;rw [qK fun w hw=>h w (List.mem_cons_of_mem _ hw)];split
    · rfl
    · have:x≠n:=by rintro rfl;exact h v List.mem_cons_self
      simp [this]
theorem qL {kindOf:Str->Option NameKind} {x:Str} {v:Value}:∀ {P:List Str} {vs:List Value} {i:Nat} {m:Str->Option Value},P.Nodup->P[i]?=some x->vs[i]?=some v->kindOf x=some .local ->
    bindL kindOf (P.zip vs) m x=some v
  | [],_,_,_,_,h,_,_=>by simp at h
  | _::_,[],_,_,_,_,h,_=>by simp at h
  | p::P,w::vs,0,m,nd,h1,h2,hk=>by
    simp at h1 h2;subst h1;subst h2;show bindL kindOf ((p,w)::P.zip vs) m p=_;unfold bindL;rw [qM fun v hv=>(List.nodup_cons.mp nd).1 (List.of_mem_zip hv).1,if_pos hk];simp
  | p::P,w::vs,i+1,m,nd,h1,h2,hk=>by
    show bindL kindOf ((p,w)::P.zip vs) m x=_;unfold bindL;exact qL (i:=i) (List.nodup_cons.mp nd).2 (by simpa using h1) (by simpa using h2) hk
theorem qJ {kindOf:Str->Option NameKind} {x:Str} {v:Value}:∀ {P:List Str} {vs:List Value} {i:Nat} {m:Str->Option Value},P.Nodup->P[i]?=some x->vs[i]?=some v->kindOf x≠some .local ->
    bindC kindOf (P.zip vs) m x=some v
  | [],_,_,_,_,h,_,_=>by simp at h
  | _::_,[],_,_,_,_,h,_=>by simp at h
  | p::P,w::vs,0,m,nd,h1,h2,hk=>by
    simp at h1 h2;subst h1;subst h2;show bindC kindOf ((p,w)::P.zip vs) m p=_;unfold bindC;rw [qK fun v hv=>(List.nodup_cons.mp nd).1 (List.of_mem_zip hv).1,if_neg hk];simp
  | p::P,w::vs,i+1,m,nd,h1,h2,hk=>by
    show bindC kindOf ((p,w)::P.zip vs) m x=_;unfold bindC;exact qJ (i:=i) (List.nodup_cons.mp nd).2 (by simpa using h1) (by simpa using h2) hk
noncomputable def jO (N:List Str) (vs:List V):St:=vs.map some++List.replicate (N.length-vs.length) none
noncomputable def gE (CX:yT) (P:Program) (w:World) (K:PySem.W.Frag) (mg:Str->Option Value) (base:Heap) (N:List Str) (qual:Str) (scope:Scope) (f:Addr) (cd:Value) (A:Around) (outer:List Env) (s:Shared) (H:Hp) (E:XK):Cx where
  prog:=P
  w:=w
  K:=K
  mg:=mg
  base:=base
  A:=A.deeper (envOfC qual scope s.heap.objs.size f cd)
  N:=N
  s₀:=s
  H₀:=H
  env:=envOfC qual scope s.heap.objs.size f cd
  outer:=outer
  stack:=envOfC qual scope s.heap.objs.size f cd::outer
  ex:=[]
  calm:=true
  fn:=fun _=>true
  pn:=[]
  xe:=fun e s'=>wpAny (model P w) (A.deeper (envOfC qual scope s.heap.objs.size f cd)) (leaving (envOfC qual scope s.heap.objs.size f cd) e) (fun _ s''=>CX outer H s E e s'') (fun e' s''=>CX outer H s E e' s'') s'
theorem tW {sc:Scope} {n:Nat} {x:Str} (h:sc.names.lookup x=some .cell):∃ c,(cellsFrom n sc.names []).lookup x=some c:=by
  have q:=PySem.W.cellsFrom_some sc.names n [] (.inl h);exact Option.isSome_iff_exists.mp q
theorem yi {CX:yT} {P:Program} {w:World} {K:PySem.W.Frag} {mg:Str->Option Value} {base:Heap} {N ps:List Str} {qual:Str} {scope:Scope} {f:Addr} {cd:Value} {A:Around} {outer:List Env} {s s1:Shared} {H:Hp} {E:XK} {us:List Value} {vs:List V}
    (S:aY N ps scope) (hd:A.handled=none) (e0:uZ P w K mg base A outer s H) (hl:vs.length=ps.length) (r:bE vs us)
    (x:InCallC s s.heap.objs.size (bindL (envOfC qual scope s.heap.objs.size f cd).kindOf (ps.zip us) fun _=>none) (cellsFrom (s.heap.objs.size+1) scope.names []) (bindC (envOfC qual scope s.heap.objs.size f cd).kindOf (ps.zip us) fun _=>none) s1) :
    aS (gE CX P w K mg base N qual scope f cd A outer s H E) [] (jO N vs) H s1:=by
  have hpl:ps.length<=N.length:=by have:=congrArg List.length S.pre;rw [List.length_take] at this;omega
  obtain ⟨h1,tk,rfl,hk⟩:=x.done;have noA:∀ b:Addr,b∉(gE CX P w K mg base N qual scope f cd A outer s H E).ex:=fun b z=>absurd (show b∈([]:List Addr) from z) (by simp)
  refine ⟨⟨e0.mod,S.kind,rfl,rfl,Nat.le_refl _,fun y z c h1 h2=>?_,fun y hy=>?_,fun y c _ h=>?_,fun _=>hd,Around.frames_deeper e0.frames,.inr ⟨rfl,rfl⟩,fun b z=>absurd z (noA b),e0.bs,e0.bsz,fun b _ _=>noA b,fun b z=>absurd z (noA b),e0.funs,e0.frf⟩,
    rfl,e0.bare,Un.kept hk,⟨_,x.toInCall.ns,fun i y v h1 h2 h3=>?_⟩,fun y c h=>⟨_,x.cell y c h⟩,e0.hok.fresh (Nat.le_refl _),fun y c h=>?_,fun p hp=>absurd (show p∈([]:List (Addr×Obj)) from hp) (by simp),e0.hok.kept hk,?_⟩
  · exact name_of_addr x.apart (PySem.mem_of_lookup h1) (PySem.mem_of_lookup h2)
  · have hy:scope.names.lookup y=some .cell\/scope.names.lookup y=some .free:=hy;rcases hy with hy | hy
    · exact tW hy
    · exact absurd rfl (S.nofree _ (PySem.mem_of_lookup hy))
  · exact Nat.le_of_lt (x.above y c (PySem.mem_of_lookup h))
  · have hi:i < vs.length:=by
      unfold jO at h2;by_cases hi:i < vs.length
      · exact hi
      · rw [List.getElem?_append_right (by simpa using hi)] at h2;rw [List.getElem?_replicate] at h2;split at h2 <;> cases h2
    have ha:vs[i]?=some v:=by
      unfold jO at h2;rw [List.getElem?_append_left (by simpa using hi),List.getElem?_map] at h2;cases e:vs[i]? with
      | none=>rw [e] at h2;cases h2
      | some a=>rw [e] at h2;cases h2;rfl
    obtain ⟨u,hu,rv⟩:=r.get ha;have hp:ps[i]?=some y:=by
      rw [<- S.pre,List.getElem?_take_of_lt (by omega)];exact h1
    have ndP:ps.Nodup:=by rw [<- S.pre];exact S.nd.sublist (List.take_sublist _ _)
    refine ⟨u,rv,?_⟩;rcases S.par y (List.mem_of_getElem? hp) with k | k
    · exact .inl ⟨k,qL ndP hp hu k⟩
    · obtain ⟨c,e⟩:=tW (n:=s.heap.objs.size+1) k;refine .inr ⟨.inl k,c,e,?_⟩;have q:=x.cell y c e;rw [qJ ndP hp hu (by show scope.names.lookup y≠_;rw [k];decide)] at q;exact q
  · exact e0.hok.fresh (Nat.le_of_lt (x.above y c (PySem.mem_of_lookup h)))
  · unfold jO;show _=N.length;rw [List.length_append,List.length_map,List.length_replicate];omega
theorem zM {CX:yT} {P:Program} {w:World} {K:PySem.W.Frag} {mg:Str->Option Value} {base:Heap} {k:Nat} {f:Addr} {name qual:Str} {params:Arguments} {body:List Stmt} {scope:Scope} {dV kV doc pm cdv ct oc:Value} {an od:Option Addr}
    {osl:Array (Option Value)} {N ps:List Str} {sp:Sp} (lk:K.lookup f=some ⟨oc,od,.func (PySem.W.fnOf name qual params body scope dV kV doc pm an cdv ct),osl⟩) (hcd:PySem.W.codeIn K cdv qual=true) (S:aY N ps scope)
    (len:∀ vs H Q E,sp vs H Q E->vs.length=ps.length)
    (hbody:∀ (A:Around) (outer:List Env) (s:Shared) (H:Hp) (vs:List V) (Q:VK) (E:XK),fG k (A.deeper (envOfC qual scope s.heap.objs.size f cdv))->sp vs H Q E ->
      ∃ t,rL (gE CX P w K mg base N qual scope f cdv A outer s H E) body t/\t { nx:=fun _ H'=>Q .non H',rt:=Q } (jO N vs) H) :
    bd P w K mg base CX (k+1) f (PySem.W.fnOf name qual params body scope dV kV doc pm an cdv ct) ps sp:=by
  refine ⟨len,fun A outer s H args us vs Q E hr e0 hb r hsp=>?_⟩;have hl:=len _ _ _ _ hsp;have KX:K.In s.heap:=e0.mod.kin.keeps fun b o e=>(e0.bs b o e).1
  have lim:s.heap.NoLimit:=e0.mod.nolimit.keeps fun b o e=>(e0.bs b o e).1
  have hkind:∀ y∈ps.zip us,scope.names.lookup y.1=some .local\/(scope.names.lookup y.1=some .cell/\((cellsFrom (s.heap.objs.size+1) scope.names []).lookup y.1).isSome=true):=fun ⟨n,v⟩ hy=>by
    rcases S.par n (List.of_mem_zip hy).1 with q | q
    · exact .inl q
    · exact .inr ⟨q,PySem.W.cellsFrom_some _ _ _ (.inl q)⟩
  refine codeAny_call_function hr.depth (KX _ _ lk) rfl S.co S.gen rfl (PySem.W.codeRec_of KX hcd) (hb _ _ _ _ ?_);refine wpAny_newFunctionEnv_cells S.kind hkind fun env he s1 x=>?_
  subst he;refine ⟨lim.keeps x.toInCall.keep,codeAny_func ?_⟩;obtain ⟨t,ht,hq⟩:=hbody A outer s H vs Q E (hr.deeper _) hsp;have I:aS (gE CX P w K mg base N qual scope f cdv A outer s H E) [] (jO N vs) H s1:=yi S hr.hd e0 hl r x;refine wpAny_mono (ht [] s1 (jO N vs) H _ I hq) (fun fl s' hs=>?_) fun e s' hs=>hs
  have fin:∀ {σ':St} {H':Hp} {v:V} {u:Value},aS (gE CX P w K mg base N qual scope f cdv A outer s H E) [] σ' H' s'->bW v u->Q v H'->CE outer P w H s Q u s' :=
    fun {σ' H' v u} J rv q=>⟨v,H',J.os,J.bare,J.base,J.hok,rv,q⟩
  cases fl with
  | ret u =>
    obtain ⟨v,σ',H',J,rv,q⟩:=hs;exact fin J rv q
  | next =>
    obtain ⟨σ',H',J,q⟩:=hs;exact fin (v:=V.non) (u:=Value.none) J rfl q
  | brk =>
    obtain ⟨_,_,_,q⟩:=hs;exact False.elim q
  | cont =>
    obtain ⟨_,_,_,q⟩:=hs;exact False.elim q
section
variable {X:Cx} {x:Str} {p pos:Pos} {e:Expr} {es:List Expr} {t:TA} {id T:String} {r:List V->Hp->VK->Prop}
noncomputable def Ig (r:List V->Hp->VK->Prop) (t:TA):TE:=fun σ H Q=>t σ H fun vs H1=>r vs H1 Q
theorem mH (hc:eD X (.builtin id) r) (hg:Gl X x) (hm:X.mg x=none) (hv:bootBuiltins x=some (.builtin id)) (ha:PA X (e::es) t) (hn:x ≠ "__name__" := by decide) (hdb:(x==("__debug__" : Str))=false:=by decide)
    (he:starEach (e::es) X.env=(false,eval e X.env)::starEach es X.env:=by rfl) (hpl:(backTo pos (starEach es X.env)).any (·.1)=false:=by rfl):PE X (.Call (.Name x p) (e::es) [] pos) (Ig r t):=by
  intro pins s σ H Q I h;refine wpAny_Call_Name_kw (km I hg hm hv ?_ hn hdb);exact PyProof.Rows.callWith_builtin1 (dM (ha pos pins s σ H _ I h) fun us s1 ⟨vs,H1,I1,r1,q1⟩=>hc pins s1 σ H1 vs us Q I1 r1 q1) he hpl
theorem rc (hc:eD X (.type T) r) (hg:Gl X x) (hm:X.mg x=none) (hv:bootBuiltins x=some (.type T)) (ha:PA X (e::es) t) (hn:x ≠ "__name__" := by decide) (hdb:(x==("__debug__" : Str))=false:=by decide)
    (he:starEach (e::es) X.env=(false,eval e X.env)::starEach es X.env:=by rfl) (hpl:(backTo pos (starEach es X.env)).any (·.1)=false:=by rfl):PE X (.Call (.Name x p) (e::es) [] pos) (Ig r t):=by
  intro pins s σ H Q I h;refine wpAny_Call_Name_kw (km I hg hm hv ?_ hn hdb);exact PyProof.Rows.callWith_type1 (dM (ha pos pins s σ H _ I h) fun us s1 ⟨vs,H1,I1,r1,q1⟩=>hc pins s1 σ H1 vs us Q I1 r1 q1) he hpl
end
end L2
namespace HT
open PySem PyProof.Rows
section
open PySem.SeqAt
open PySem.AutoSeq1 (wpAny_loadPart')
open PySem.MeetsSeq PySem.MeetsSeq2 PySem.MeetsSeq3
end
section
variable {prog:Program} {w:World} {A:Around} {E:Value->Shared->Prop} {s:Shared}
theorem cat_tup {t b:Addr} {vs ws:List Value} {Q:Value->Shared->Prop} (ht:IsTup s.heap t vs.toArray) (hb:IsTup s.heap b ws.toArray) (hv:vs≠[])
    (h1:ws=[]->Q (.ref t) s) (h2:ws≠[]->Q (.ref s.heap.objs.size) { s with heap:=s.heap.push { cls:=.type "tuple",data:=.seq (vs++ws).toArray } })
    (hsz:vs.length+ws.length<=sizeLine):wpAny (model prog w) A (binaryOp .Add (.ref t) (.ref b)) Q E s:=by
  obtain ⟨⟨cls,dd,data,sl⟩,ho,hc,n,hd⟩:=id ht;obtain ⟨⟨cls2,dd2,data2,sl2⟩,ho2,hc2,n2,hd2⟩:=id hb;simp only at hc hd hc2 hd2;subst hc hd hc2 hd2;have e:vs.toArray++ws.toArray=(vs++ws).toArray:=by simp
  by_cases hw:ws=[]
  · exact concat_meets ⟨_,ho,rfl⟩ ⟨_,ho2,rfl⟩ noFill_tuple_add seq_tuple_add PySem.F.slot_tuple_add PySem.F.entry_tuple_add (PySem.F.args_tuple_add_2 _ _)
      (tuple_addW1 t b vs.toArray ws.toArray n n2 dd dd2 sl sl2 (by simpa using hv) (by simp [hw])) ⟨ho,ho2,h1 hw⟩
  · refine concat_meets ⟨_,ho,rfl⟩ ⟨_,ho2,rfl⟩ noFill_tuple_add seq_tuple_add PySem.F.slot_tuple_add PySem.F.entry_tuple_add (PySem.F.args_tuple_add_2 _ _)
      (tuple_addW2 t b vs.toArray ws.toArray n n2 dd dd2 sl sl2 (by simpa using hv) (by simpa using hw) (by rw [List.size_toArray,List.size_toArray];exact hsz)) ⟨ho,ho2,?_⟩
    rw [e];exact h2 hw
noncomputable def sIx (n d:Nat):Option Int->Nat
  | none=>d
  | some v=>if v < 0 then (v+(n:Int)).toNat else min v.toNat n
theorem uF (n d:Nat):sIx n d none=d:=rfl
theorem xm (n d k:Nat):sIx n d (some (k:Int))=min k n:=by
  show (if (k:Int) < 0 then ((k:Int)+(n:Int)).toNat else min (k:Int).toNat n)=min k n;rw [if_neg (by omega),Int.toNat_natCast]
theorem EN (n d:Nat) (hd:d<=n) (o:Option Int):sIx n d o<=n:=by
  cases o with
  | none=>exact hd
  | some v =>
    show (if v < 0 then (v+(n:Int)).toNat else min v.toNat n)<=n;by_cases hv:v < 0
    · rw [if_pos hv];omega
    · rw [if_neg hv];exact Nat.min_le_right _ _
theorem wE (v:Int) (n d:Nat):(if v < 0 then max (v+(n:Int)) 0 else min v (n:Int))=((sIx n d (some v):Nat):Int):=by
  show (if v < 0 then max (v+(n:Int)) 0 else min v (n:Int))=(((if v < 0 then (v+(n:Int)).toNat else min v.toNat n):Nat):Int)
  by_cases hv:v < 0
  · simp only [if_pos hv];omega
  · simp only [if_neg hv];omega
theorem vg (lo hi:Option Int) (n:Nat):Builtin.Slice.sliceAdjust lo hi 1 (n:Int)=(((sIx n 0 lo:Nat):Int),((sIx n n hi:Nat):Int)):=by
  have h1:¬ ((1:Int) < 0):=by omega
  unfold Builtin.Slice.sliceAdjust;simp only [h1,if_false];refine Prod.ext ?_ ?_
  · cases lo with
    | none=>rfl
    | some v=>exact wE v n 0
  · cases hi with
    | none=>rfl
    | some v=>exact wE v n n
theorem vP (i j:Nat):Builtin.Slice.slicePlaces (i:Int) (j:Int) 1=j-i:=by
  unfold Builtin.Slice.slicePlaces;have h1:(1:Int) > 0:=by omega
  simp only [h1,if_true,Int.ediv_one];split <;> omega
theorem qb {v:Value} {o:Option Int} {Q:Option Int->Shared->Prop} (p:IsPart v o) (h:Q o s):wpAny (model prog w) A (Builtin.Slice.slicePartIndex v) Q E s:=by
  cases p with
  | none=>exact slicePart_none h
  | int i t=>exact slicePart_int h
theorem sliceApplied_gen {sl:Addr} {vl vu:Value} {lo hi:Option Int} {n:Nat} {Q:Int×Int×Nat->Shared->Prop} (hs:s.heap.IsSliceOf sl vl vu .none) (pl:IsPart vl lo) (pu:IsPart vu hi)
    (h:Q (((sIx n 0 lo:Nat):Int),1,sIx n n hi-sIx n 0 lo) s):wpAny (model prog w) A (Builtin.Slice.sliceApplied (.ref sl) (pure (n:Int))) Q E s:=by
  obtain ⟨os,hos,hcs,hds⟩:=id hs;unfold Builtin.Slice.sliceApplied Builtin.Slice.sliceFields;refine wpAny_bind (wpAny_bind (wpAny_field hos hds (x:=vl) rfl (wpAny_bind (wpAny_field hos hds (x:=vu) rfl (wpAny_bind (wpAny_field hos hds (x:=.none) rfl (wpAny_pure ?_)))))));refine wpAny_bind (slicePart_none ?_);show wpAny _ _ (if ((1:Int)==0)=true then _ else _) _ _ s;rw [if_neg (by decide)];refine wpAny_bind (qb pl (wpAny_bind (qb pu (wpAny_bind (wpAny_pure ?_)))));show wpAny _ _ (match Builtin.Slice.sliceAdjust lo hi 1 (n:Int) with | (lo,hi)=>pure (lo,(1:Int),Builtin.Slice.slicePlaces lo hi 1)) _ _ s;rw [vg lo hi n];show wpAny _ _ (pure (((sIx n 0 lo:Nat):Int),(1:Int),Builtin.Slice.slicePlaces ((sIx n 0 lo:Nat):Int) ((sIx n n hi:Nat):Int) 1)) _ _ s;rw [vP];exact wpAny_pure h
theorem AC (xs:Array Value) (i k:Nat):((List.range k).filterMap fun (m:Nat)=>xs[((i:Int)+(m:Int)*1).toNat]?).toArray=((xs.toList.drop i).take k).toArray:=by
  have e:(fun (m:Nat)=>xs[((i:Int)+(m:Int)*1).toNat]?)=fun m=>xs[i+m]?:=by
    funext m;have:((i:Int)+(m:Int)*1).toNat=i+m:=by omega
    rw [this]
  rw [e];have:=pick_run xs i k;rw [List.filterMap_map] at this;have e2:((fun x=>xs[x]?)∘fun x=>i+x)=fun m=>xs[i+m]?:=rfl
  rw [e2] at this;rw [this]
theorem getItem_tuple_cut {t sl:Addr} {items:Array Value} {vl vu:Value} {lo hi:Option Int} {Q:Value->Shared->Prop} (ht:IsTup s.heap t items) (hs:s.heap.IsSliceOf sl vl vu .none) (pl:IsPart vl lo) (pu:IsPart vu hi)
    (hw:¬ (sIx items.size 0 lo=0/\sIx items.size items.size hi=items.size))
    (h:Q (.ref s.heap.objs.size) { s with heap:=s.heap.push { cls:=.type "tuple",data:=.seq ((items.toList.drop (sIx items.size 0 lo)).take (sIx items.size items.size hi-sIx items.size 0 lo)).toArray } })
    (hsz:items.size<=sizeLine):wpAny (model prog w) A (getItem (.ref t) (.ref sl)) Q E s:=by
  have htake:sizeOk (.seq ((items.toList.drop (sIx items.size 0 lo)).take (sIx items.size items.size hi-sIx items.size 0 lo)).toArray):=by
    show ((items.toList.drop (sIx items.size 0 lo)).take (sIx items.size items.size hi-sIx items.size 0 lo)).toArray.size<=sizeLine;rw [List.size_toArray,List.length_take,List.length_drop,Array.length_toList];omega
  have hj:sIx items.size items.size hi<=items.size:=EN _ _ (Nat.le_refl _) hi;obtain ⟨os,hos,hcs,hds⟩:=id hs;have hTs:s.TypeIs (.ref sl) "slice" := ⟨os,hos,hcs⟩
  unfold getItem
  try with_reducible refine wpAny_holding ?_
  first | refine wpAny_bind (wpAny_pure ?_) | skip
  refine wpAny_bind (wpAny_sequenceKey ht.typeIs (by decide) ?_);refine wpAny_bind (wpAny_callSpecial?_slot (name:=Str.ofString "__getitem__") ht.typeIs PyProof.Rows.slot_tuple_getitem
    (wpAny_call_entry PyProof.Rows.slot_tuple_getitem ht.typeIs entry_tuple_getitem ?_ (args_tuple_getitem _ _)))
  show wpAny _ _ (Builtin.Tuple.tupleItemsOf (.ref t)>>=_) _ _ s;refine wpAny_bind (tupleItemsOf_ ht ?_);refine wpAny_bind (wpAny_typeOf hTs ?_);rw [if_pos (by decide)];refine wpAny_bind (sliceApplied_gen hs pl pu ?_);have hno:¬ ((((sIx items.size 0 lo:Nat):Int)==0&&(1:Int)==1&&(sIx items.size items.size hi-sIx items.size 0 lo)==items.size)=true):=by
    intro q;rw [Bool.and_eq_true,Bool.and_eq_true] at q;have q1:((sIx items.size 0 lo:Nat):Int)=0:=eq_of_beq q.1.1;have q2:sIx items.size items.size hi-sIx items.size 0 lo=items.size:=eq_of_beq q.2;exact hw ⟨by omega,by omega⟩
  show wpAny _ _ (if (((sIx items.size 0 lo:Nat):Int)==0&&(1:Int)==1&&(sIx items.size items.size hi-sIx items.size 0 lo)==items.size)=true then _ else _) _ _ s;rw [if_neg hno,AC]
  first
    | exact wpAny_bind (m:=Builtin.Tuple.tupleExact _) (wpAny_newObj_type (wpAny_pure ⟨_,rfl,wpAny_pure h⟩) htake)
    | exact wpAny_bind (m:=Builtin.Tuple.tupleExact _) (wpAny_newObj_type (wpAny_bind (wpAny_pure (wpAny_pure ⟨_,rfl,wpAny_pure h⟩))) htake)
    | exact wpAny_bind (wpAny_bind (m:=Builtin.Tuple.tupleExact _) (wpAny_newObj_type (wpAny_pure (wpAny_pure ⟨_,rfl,wpAny_pure h⟩)) htake))
    | exact wpAny_bind (wpAny_bind (m:=Builtin.Tuple.tupleExact _) (wpAny_newObj_type (wpAny_pure ⟨_,rfl,wpAny_pure h⟩) htake))
end
end HT
namespace L2
open PySem PySem.Spec PyProof.Rows
noncomputable abbrev TO:=St->Hp->(Option Int->Hp->Prop)->Prop
noncomputable def PO (X:Cx) (e:Option Expr) (t:TO):Prop :=
  ∀ (pins:List (Addr×Obj)) (s:Shared) (σ:St) (H:Hp) (Q:Option Int->Hp->Prop),aS X pins σ H s->t σ H Q ->
    wpAny (model X.prog X.w) X.A (evalPart e X.env) (fun u s'=>∃ o H',aS X pins σ H' s'/\IsPart u o/\Q o H') X.xe s
noncomputable def CS:TO:=fun _ H Q=>Q none H
noncomputable def GP (t:TE):TO:=fun σ H Q=>t σ H fun x H1=>∃ i,x=.int i/\Q (some i) H1
theorem lF {ns:List Int}:∀ {us:List Value},bE (ns.map V.int) us->IntsAre us ns:=by
  induction ns with
  | nil=>intro us r;rw [List.map_nil] at r;cases r;exact .nil
  | cons n ns ih =>
    intro us r;rw [List.map_cons] at r;cases r with
    | cons r1 r2 =>
      obtain ⟨t,e⟩:=r1;subst e;exact .cons n t (ih r2)
section
variable {X:Cx} {e:Expr} {te:TE} {lo hi:Option Expr} {tl th:TO} {pos p2:Pos}
theorem Ct:PO X none CS:=by
  intro pins s σ H Q I h;rw [evalPart_none];exact wpAny_pure ⟨none,H,I,.none,h⟩
theorem Cu (h:PE X e te):PO X (some e) (GP te):=by
  intro pins s σ H Q I hw;rw [evalPart_some];refine dM (h pins s σ H _ I hw) fun u s1 zq0=>?_
  obtain ⟨x,H1,I1,r1,q1⟩:=zq0;obtain ⟨i,rfl,q⟩:=q1;obtain ⟨t,rfl⟩:=r1;exact ⟨some i,H1,I1,.int i t,q⟩
noncomputable def Bs (X:Cx) (r:V->Option Int->Option Int->Hp->VK->Prop):Prop :=
  ∀ (pins:List (Addr×Obj)) (s:Shared) (σ:St) (H:Hp) (x:V) (v vl vu:Value) (lo hi:Option Int) (sl:Addr) (Q:VK),aS X pins σ H s->bW x v->s.heap.IsSliceOf sl vl vu .none->IsPart vl lo->IsPart vu hi->r x lo hi H Q ->
    ∃ T id,typeLookup (.type T) "__getitem__" = pure (some (.builtin id))/\s.TypeIs v T/\wpAny (model X.prog X.w) X.A (getItem v (.ref sl)) (EP X pins σ Q) X.xe s
theorem Bs.or {r r':V->Option Int->Option Int->Hp->VK->Prop} (h:Bs X r) (h':Bs X r'):Bs X (fun x lo hi H Q=>r x lo hi H Q\/r' x lo hi H Q):=by
  intro pins s σ H x v vl vu lo hi sl Q I rx hs pl pu q;rcases q with q | q
  · exact h pins s σ H x v vl vu lo hi sl Q I rx hs pl pu q
  · exact h' pins s σ H x v vl vu lo hi sl Q I rx hs pl pu q
noncomputable def I9 (r:V->Option Int->Option Int->Hp->VK->Prop) (te:TE) (tl th:TO):TE:=fun σ H Q=>te σ H fun x H1=>tl σ H1 fun l H2=>th σ H2 fun u H3=>r x l u H3 Q
theorem AA {r:V->Option Int->Option Int->Hp->VK->Prop} (hr:Bs X r) (he:PE X e te) (hl:PO X lo tl) (hu:PO X hi th):PE X (.Subscript e (.Slice lo hi none p2) pos) (I9 r te tl th):=by
  intro pins s σ H Q I h;refine Subscript_ (dM (he pins s σ H _ I h) fun v s1 zq0=>?_);obtain ⟨x,H1,I1,r1,q1⟩:=zq0;refine wpAny_Slice (dM (hl pins s1 σ H1 _ I1 q1) fun vl s2 ⟨l,H2,I2,pl,q2⟩=>dM (hu pins s2 σ H2 _ I2 q2) fun vu s3 zq0=>?_);obtain ⟨u,H3,I3,pu,q3⟩:=zq0;rw [evalPart_none];refine wpAny_pure ?_;have I4:aS X pins σ H3 { s3 with heap:=s3.heap.push { cls:=.type "slice",data:=.fields #[vl,vu,.none] } }:=I3.kept (t':=s3.toks) fun b ob q=>Heap.get?_push_of_some _ q
  obtain ⟨T,id,hT,ht,hg⟩:=hr pins { s3 with heap:=s3.heap.push { cls:=.type "slice",data:=.fields #[vl,vu,.none] } } σ H3 x v vl vu l u s3.heap.objs.size Q I4 r1 (Heap.IsSliceOf.new ..) pl pu q3;show wpAny (model X.prog X.w) X.A (subscriptTail e (.Slice lo hi none p2) v (.ref s3.heap.objs.size)) (EP X pins σ Q) X.xe { s3 with heap:=s3.heap.push { cls:=.type "slice",data:=.fields #[vl,vu,.none] } };exact tail_any (ops:=[.ref s3.heap.objs.size,v]) ht hT hg (by with_unfolding_all rfl)
noncomputable def tY (xs:List V) (lo hi:Option Int):List V:=(xs.drop (HT.sIx xs.length 0 lo)).take (HT.sIx xs.length xs.length hi-HT.sIx xs.length 0 lo)
theorem n9 (xs:List V) (lo hi:Option Int):(tY xs lo hi).length<=xs.length:=by
  unfold tY;rw [List.length_take,List.length_drop];omega
noncomputable def H9 (K:PySem.W.Frag):V->Option Int->Option Int->Hp->VK->Prop:=fun x lo hi H Q=>∃ a xs,x=.ref a/\jm K H a xs /\
  ¬ (HT.sIx xs.length 0 lo=0/\HT.sIx xs.length xs.length hi=xs.length)/\∀ p,H p=none->Q (.ref p) (de H p (.tup (tY xs lo hi)))
theorem EQ:Bs X (H9 X.K):=by
  intro pins s σ H x v vl vu lo hi sl Q I rx hs pl pu h;obtain ⟨a,xs,rfl,hx,hw,q⟩:=h;cases rx;obtain ⟨its,r,ht,hz⟩:=I.tuple hx;have hlen:its.toArray.size=xs.length:=by rw [List.size_toArray];exact r.length.symm
  refine ⟨"tuple",_,PyProof.Rows.slot_tuple_getitem.lookup,ht.typeIs,?_⟩;refine HT.getItem_tuple_cut ht hs pl pu (by rw [hlen];exact hw) ?_ (by rw [hlen];exact hz);rw [hlen];refine ⟨.ref s.heap.objs.size,_,I.laid (t':=s.toks) (o:=.tup (tY xs lo hi)) (fun b ob q=>Heap.get?_push_of_some _ q) (Nat.le_refl _) ?_,rfl,q _ (I.hok.fresh (Nat.le_refl _))⟩;exact ⟨Nat.le_trans (n9 xs lo hi) hz,_,(r.drop (HT.sIx xs.length 0 lo)).take (HT.sIx xs.length xs.length hi-HT.sIx xs.length 0 lo),h9.new _ _⟩
noncomputable def Du (K:PySem.W.Frag):R2:=fun x y H Q=>∃ a b xs ys,x=.ref a/\y=.ref b/\jm K H a xs/\jm K H b ys/\xs≠[]/\xs.length+ys.length<=sizeLine /\
  (ys=[]->Q (.ref a) H)/\(ys≠[]->∀ p,H p=none->Q (.ref p) (de H p (.tup (xs++ys))))
theorem bE.nil_iff {xs:List V} {us:List Value} (r:bE xs us):us=[]<->xs=[]:=by
  cases r with
  | nil=>simp
  | cons _ _=>simp
theorem Cf:jP X (binaryOp .Add) (Du X.K):=by
  intro pins s σ H x y v u Q I rx ry h;obtain ⟨a,b,xs,ys,rfl,rfl,ha,hb,hx,hz,q1,q2⟩:=h;cases rx;cases ry;obtain ⟨its,r1,p1,_⟩:=I.tuple ha;obtain ⟨its2,r2,p2,_⟩:=I.tuple hb;refine HT.cat_tup p1 p2 (fun z=>hx (r1.nil_iff.mp z)) (fun z=>⟨.ref a,H,I,rfl,q1 (r2.nil_iff.mp z)⟩) (fun z=>?_) (by rw [<- r1.length,<- r2.length];exact hz);refine ⟨.ref s.heap.objs.size,_,I.laid (t':=s.toks) (o:=.tup (xs++ys)) (fun b ob q=>Heap.get?_push_of_some _ q) (Nat.le_refl _) ?_,rfl,q2 (fun w=>z (r2.nil_iff.mpr w)) _ (I.hok.fresh (Nat.le_refl _))⟩;exact ⟨by rw [List.length_append];exact hz,_,r1.append r2,h9.new _ _⟩
end
noncomputable def wX (n:Nat) (i:Int):Option Nat:=if 0<=i then (if i < n then some i.toNat else none) else if -(n:Int)<=i then some (i+n).toNat else none
noncomputable def atI {α:Type} (xs:List α) (i:Int):Option α:=(wX xs.length i).bind fun j=>xs[j]?
theorem wY {n:Nat} {i:Int} {j:Nat} (h:wX n i=some j):seqIndex? i n=some j/\j < n/\-(n:Int)<=i/\i < n:=by
  unfold wX at h;by_cases h0:0<=i
  · rw [if_pos h0] at h;by_cases h1:i < n
    · rw [if_pos h1] at h;have e:i.toNat=j:=Option.some.inj h;exact ⟨by rw [seqIndex_of h0 h1,e],by omega,by omega,h1⟩
    · rw [if_neg h1] at h;cases h
  · rw [if_neg h0] at h;by_cases h1:-(n:Int)<=i
    · rw [if_pos h1] at h;have e:(i+n).toNat=j:=Option.some.inj h;exact ⟨by rw [seqIndex_neg (by omega) h1,e],by omega,h1,by omega⟩
    · rw [if_neg h1] at h;cases h
theorem rZ {α:Type} {xs:List α} {i:Int} {v:α} (h:atI xs i=some v):∃ j,seqIndex? i xs.length=some j/\xs[j]?=some v/\j < xs.length/\-(xs.length:Int)<=i/\i < xs.length:=by
  unfold atI at h;cases e:wX xs.length i with
  | none=>rw [e] at h;cases h
  | some j =>
    rw [e] at h;obtain ⟨h1,h2,h3,h4⟩:=wY e;exact ⟨j,h1,h,h2,h3,h4⟩
theorem r8 {α:Type} {xs:List α} {j:Nat} {v:α} (h:xs[j]?=some v):atI xs (j:Int)=some v:=by
  have hj:j < xs.length:=(List.getElem?_eq_some_iff.mp h).1;have e:wX xs.length (j:Int)=some j:=by
    unfold wX;rw [if_pos (by omega),if_pos (by omega)];simp
  unfold atI;rw [e];exact h
noncomputable def wp (b:Expr):Prop:=∀ o i,subscripted b false o i=operate [o,i] (getItem o i)
noncomputable def Bp (X:Cx) (r:R2):Prop :=
  ∀ (value slice:Expr) (pins:List (Addr×Obj)) (s:Shared) (σ:St) (H:Hp) (x y:V) (v u:Value) (Q:VK),aS X pins σ H s->bW x v->bW y u->r x y H Q ->
    subscripted slice false v u=operate [v,u] (getItem v u)->wpAny (model X.prog X.w) X.A (subscriptTail value slice v u) (EP X pins σ Q) X.xe s
noncomputable def IB (X:Cx) (id:String) (r:V->List V->Hp->VK->Prop):Prop :=
  ∀ (pins:List (Addr×Obj)) (s:Shared) (σ:St) (H:Hp) (x:V) (xs:List V) (v:Value) (us:List Value) (Q:VK),aS X pins σ H s->bW x v->bE xs us->r x xs H Q ->
    wpAny (model X.prog X.w) X.A (call (.builtin id) (v::us)) (EP X pins σ Q) X.xe s
section
variable {X:Cx} {a b:Expr} {ta tb:TE} {pos:Pos}
theorem Bp.or {r r':R2} (h:Bp X r) (h':Bp X r'):Bp X (fun x y H Q=>r x y H Q\/r' x y H Q):=by
  intro value slice pins s σ H x y v u Q I rx ry q hs;rcases q with q | q
  · exact h value slice pins s σ H x y v u Q I rx ry q hs
  · exact h' value slice pins s σ H x y v u Q I rx ry q hs
theorem F8 {r:R2} (hr:Bp X r) (ha:PE X a ta) (hb:PE X b tb) (hs:wp b):PE X (.Subscript a b pos) (GO r ta tb):=by
  intro pins s σ H Q I h;exact Subscript_ (DR ha hb I h fun v u s2 x y H2 I2 rx ry q=>hr a b pins s2 σ H2 x y v u Q I2 rx ry q (hs _ _))
noncomputable def Gj (K:PySem.W.Frag):R2:=fun x y H Q=>∃ p xs i v,x=.ref p/\y=.int i/\n6 K H p xs/\atI xs i=some v/\Q v H
noncomputable def Gm (K:PySem.W.Frag):R2:=fun x y H Q=>∃ p xs i v,x=.ref p/\y=.int i/\jm K H p xs/\atI xs i=some v/\Q v H
noncomputable def Gk:R2:=fun x y H Q=>∃ z i c,x=.str z/\y=.int i/\z.length<=sizeLine/\atI z.cps.toList i=some c/\Q (.str ⟨#[c]⟩) H
theorem B4:Bp X (Gj X.K):=by
  intro value slice pins s σ H x y v u Q I rx ry h hs;obtain ⟨p,xs,i,z,rfl,rfl,hq,he,q⟩:=h;cases rx;obtain ⟨t,rfl⟩:=ry;obtain ⟨its,r,pl,hz⟩:=I.list hq;obtain ⟨j,h1,h2,h3,h4,h5⟩:=rZ he;obtain ⟨w,ew,rw'⟩:=r.get h2;have hl:=r.length;have hn:=nN;have fin:EP X pins σ Q w s:=⟨z,H,I,rw',q⟩
  by_cases h0:0<=i
  · have hj:i.toNat=j:=by
      rw [seqIndex_of h0 h5] at h1;exact Option.some.inj h1
    exact item_listR pl.isList h0 (by omega) (by rw [hj];simpa using ew) fin hs
  · have hj:(i+(its.toArray.size:Int)).toNat=j:=by
      rw [seqIndex_neg (by omega) h4] at h1;rw [List.size_toArray,<- hl];exact Option.some.inj h1
    exact subscriptTail_builtinR (x:=w) pl.isList.typeIs slot_list_getitem.lookup
      (wpAny_getItem_list_neg (Q:=fun r s'=>r=w/\EP X pins σ Q r s') pl.isList (by omega) (by rw [List.size_toArray] <;> omega) (by omega) (by rw [hj];simpa using ew) ⟨rfl,fin⟩) hs
theorem Eb:Bp X (Gm X.K):=by
  intro value slice pins s σ H x y v u Q I rx ry h hs;obtain ⟨p,xs,i,z,rfl,rfl,hq,he,q⟩:=h;cases rx;obtain ⟨t,rfl⟩:=ry;obtain ⟨its,r,pl,hz⟩:=I.tuple hq;obtain ⟨j,h1,h2,h3,h4,h5⟩:=rZ he;obtain ⟨w,ew,rw'⟩:=r.get h2;have hl:=r.length;have hn:=nN;have fin:EP X pins σ Q w s:=⟨z,H,I,rw',q⟩
  exact subscriptTail_builtinR (x:=w) pl.typeIs slot_tuple_getitem.lookup
    (getItem_tuple (j:=j) (Q:=fun r s'=>r=w/\EP X pins σ Q r s') pl (by omega) (by omega) (by rw [List.size_toArray,<- hl];exact h1) (by simpa using ew) ⟨rfl,fin⟩) hs
theorem Ea:Bp X Gk:=by
  intro value slice pins s σ H x y v u Q I rx ry h hs;obtain ⟨z,i,c,rfl,rfl,hz,he,q⟩:=h;obtain ⟨t,rfl⟩:=rx;obtain ⟨t',rfl⟩:=ry;obtain ⟨j,h1,h2,h3,h4,h5⟩:=rZ he;have hl:z.cps.toList.length=z.length:=by simp [Str.length]
  rw [hl] at h1 h4 h5;have hn:=nN;exact tail_any (typeIs_str s z t) slot_str_getitem.lookup (getItem_str (c:=c) (by
    have e1:decide (i < -(2 ^ 63:Int))=false:=decide_eq_false (by omega);have e2:decide (i>=2 ^ 63)=false:=decide_eq_false (by omega);rw [e1,e2,Bool.or_false]) (by rw [h1];simpa using h2) ⟨.str ⟨#[c]⟩,H,I.tok _,⟨_,rfl⟩,q⟩) hs
theorem vI (its:List Value) (n j:Nat) (u:Value):Obj.mapSeq (·.setIfInBounds j u) { cls:=.type "list",data:=.seq its.toArray n }={ cls:=.type "list",data:=.seq (its.set j u).toArray n }:=by
  simp [Obj.mapSeq]
theorem aS.lst {pins:List (Addr×Obj)} {σ:St} {H:Hp} {s:Shared} {p:Addr} {xs:List V} (I:aS X pins σ H s) (h:H p=some (.lst xs)) :
    ∃ (its:List Value) (n:Nat),bE xs its/\s.heap.get? p=some { cls:=.type "list",data:=.seq its.toArray n }/\xs.length<=sizeLine:=by
  obtain ⟨z,its,n,r,e⟩:=I.hok p _ h;exact ⟨its,n,r,e,z⟩
theorem aS.lstUpd {pins:List (Addr×Obj)} {σ:St} {H:Hp} {s:Shared} {p:Addr} {xs ys:List V} {its its':List Value} {n n':Nat} {f:Obj->Obj} (I:aS X pins σ H s) (h:H p=some (.lst xs))
    (ho:s.heap.get? p=some { cls:=.type "list",data:=.seq its.toArray n }) (hf:f { cls:=.type "list",data:=.seq its.toArray n }={ cls:=.type "list",data:=.seq its'.toArray n' }) (r:bE ys its') (hz:ys.length<=sizeLine) (t:Nat) :
    aS X pins σ (de H p (.lst ys)) { s with heap:=s.heap.update p f,toks:=t }:=by
  have e:(s.heap.update p f).get? p=some { cls:=.type "list",data:=.seq its'.toArray n' }:=by
    rw [Heap.get?_update_self f ho (by rw [hf] <;> rfl),hf]
  refine I.write (x:=p) (e:=p) (by rw [h];trivial) (.inl rfl) (fun b u hb q=>(Heap.get?_update_other _ _ (Ne.symm hb)).trans q) ⟨_,e⟩ ?_;exact ⟨hz,its',n',r,e⟩
noncomputable def Gn:V->V->V->Hp->(Hp->Prop)->Prop:=fun o i v H Q=>∃ p xs k j,o=.ref p/\i=.int k/\H p=some (.lst xs)/\wX xs.length k=some j/\Q (de H p (.lst (xs.set j v)))
theorem AQ:Fq X Gn:=by
  intro pins s σ H o i v ov iv u Q I ro ri rv h;obtain ⟨p,xs,k,j,rfl,rfl,hp,hj,q⟩:=h;cases ro;obtain ⟨t,rfl⟩:=ri;obtain ⟨its,n,r,ho,hz⟩:=I.lst hp;obtain ⟨h1,h2,h3,h4⟩:=wY hj;have hl:=r.length;have hn:=nN;have I':aS X pins σ (de H p (.lst (xs.set j v))) { s with heap:=s.heap.update p (Obj.mapSeq (·.setIfInBounds j u)) } :=
    I.lstUpd hp ho (vI its n j u) (r.set rv j) (by rw [List.length_set];exact hz) s.toks
  by_cases h0:0<=k
  · have hk:k.toNat=j:=by
      rw [seqIndex_of h0 h4] at h1;exact Option.some.inj h1
    exact PySem.W.ki_setAt ho h0 (by omega) (by rw [List.size_toArray,<- hl];exact h4) (by rw [hk];exact ⟨_,I',q⟩)
  · have hk:(k+(its.toArray.size:Int)).toNat=j:=by
      rw [seqIndex_neg (by omega) h3] at h1;rw [List.size_toArray,<- hl];exact Option.some.inj h1
    exact PySem.W.ki_setBack ho (by omega) (by rw [List.size_toArray,<- hl];exact h3) (by omega) (by rw [hk];exact ⟨_,I',q⟩)
theorem sO (lo hi:Option Int) (n:Nat):(sliceBounds lo hi none n).1=((HT.sIx n 0 lo:Nat):Int)/\(sliceBounds lo hi none n).2.1=((HT.sIx n n hi:Nat):Int)/\(sliceBounds lo hi none n).2.2=1:=by
  refine ⟨?_,?_,rfl⟩
  · cases lo with
    | none=>simp [sliceBounds,HT.sIx]
    | some i =>
      simp only [sliceBounds,HT.sIx,Option.getD_none,show (1:Int) > 0 by decide,if_true];by_cases h:i < 0
      · simp only [h,if_true] <;> omega
      · simp only [h,if_false] <;> omega
  · cases hi with
    | none=>simp [sliceBounds,HT.sIx]
    | some i =>
      simp only [sliceBounds,HT.sIx,Option.getD_none,show (1:Int) > 0 by decide,if_true];by_cases h:i < 0
      · simp only [h,if_true] <;> omega
      · simp only [h,if_false] <;> omega
theorem qE (its:List Value) (lo hi:Option Int):slicePick its.toArray lo hi none=((its.drop (HT.sIx its.length 0 lo)).take (HT.sIx its.length its.length hi-HT.sIx its.length 0 lo)).toArray:=by
  obtain ⟨h1,h2,h3⟩:=sO lo hi its.toArray.size;unfold slicePick;rw [h1,h2,h3];simp only [sliceRange_one,pick_run,List.size_toArray] <;> rfl
noncomputable def H8 (K:PySem.W.Frag):V->Option Int->Option Int->Hp->VK->Prop:=fun x lo hi H Q=>∃ a xs,x=.ref a/\n6 K H a xs/\∀ p,H p=none->Q (.ref p) (de H p (.lst (tY xs lo hi)))
theorem CK:Bs X (H8 X.K):=by
  intro pins s σ H x v vl vu lo hi sl Q I rx hs pl pu h;obtain ⟨a,xs,rfl,hx,q⟩:=h;cases rx;obtain ⟨its,r,ht,hz⟩:=I.list hx;have hlen:=r.length;refine ⟨"list",_,slot_list_getitem.lookup,ht.isList.typeIs,?_⟩;refine wpAny_getItem_list_slice ht.isList hs pl pu .none (by simp) ?_ (by rw [List.size_toArray] <;> omega);rw [qE,<- hlen];refine ⟨.ref s.heap.objs.size,_,I.laid (t':=s.toks) (o:=.lst (tY xs lo hi)) (fun b ob q=>Heap.get?_push_of_some _ q) (Nat.le_refl _) ?_,rfl,q _ (I.hok.fresh (Nat.le_refl _))⟩;exact ⟨Nat.le_trans (n9 xs lo hi) hz,_,0,(r.drop (HT.sIx xs.length 0 lo)).take (HT.sIx xs.length xs.length hi-HT.sIx xs.length 0 lo),Heap.get?_push_size _ rfl⟩
theorem sf:eD X (.builtin "len") (fun xs H Q=>∃ p ys,xs=[.ref p]/\(n6 X.K H p ys\/jm X.K H p ys)/\Q (.int ys.length) H):=by
  intro pins s σ H xs us Q I r h;obtain ⟨p,ys,rfl,hq,q⟩:=h;obtain ⟨u,rfl,rx⟩:=ir r;cases rx;have hn:=nN;rcases hq with hq | hq
  · obtain ⟨its,r',pl,hz⟩:=I.list hq;have hlen:=r'.length;exact Calls.call_len_list pl.isList (by simp only [List.size_toArray] <;> omega) ⟨.int ys.length,H,I.tok _,⟨s.toks+1,by rw [List.size_toArray,hlen]⟩,q⟩
  · obtain ⟨its,r',pl,hz⟩:=I.tuple hq;have hlen:=r'.length;exact len_tuple pl (by simp only [List.size_toArray] <;> omega) ⟨.int ys.length,H,I.tok _,⟨s.toks+1,by rw [List.size_toArray,hlen]⟩,q⟩
theorem sg:eD X (.builtin "len") (fun xs H Q=>∃ z,xs=[.str z]/\z.length<=sizeLine/\Q (.int z.length) H):=by
  intro pins s σ H xs us Q I r h;obtain ⟨z,rfl,hz,q⟩:=h;obtain ⟨u,rfl,t,rfl⟩:=ir r;have hn:=nN;exact len_str (by omega) ⟨.int z.length,H,I.tok _,⟨_,rfl⟩,q⟩
theorem eD.or {f:Value} {r r':List V->Hp->VK->Prop} (h:eD X f r) (h':eD X f r'):eD X f (fun xs H Q=>r xs H Q\/r' xs H Q):=by
  intro pins s σ H xs us Q I rs q;rcases q with q | q
  · exact h pins s σ H xs us Q I rs q
  · exact h' pins s σ H xs us Q I rs q
theorem sh:eD X (.type "list") (fun xs H Q=>∃ p ys,xs=[.ref p]/\(n6 X.K H p ys\/jm X.K H p ys)/\∀ l,H l=none->Q (.ref l) (de H l (.lst ys))):=by
  intro pins s σ H xs us Q I r h;obtain ⟨p,ys,rfl,hq,q⟩:=h;obtain ⟨u,rfl,rx⟩:=ir r;cases rx;have fin:∀ (its:List Value),bE ys its->ys.length<=sizeLine->∀ (h':Heap) (c':Nat),(∀ b o',s.heap.get? b=some o'->h'.get? b=some o') ->
      h'.get? s.heap.objs.size=some { cls:=.type "list",dict:=none,data:=.seq its.toArray c',slots:=#[] }->EP X pins σ Q (.ref s.heap.objs.size) { s with heap:=h' }:=fun its r' hz h' c' kp e =>
    ⟨.ref s.heap.objs.size,_,I.laid (t':=s.toks) kp (Nat.le_refl _) (show cm X.prog X.w _ h' _ (.lst ys) from ⟨hz,its,c',r',e⟩),rfl,q _ (I.hok.fresh (Nat.le_refl _))⟩
  rcases hq with hq | hq
  · obtain ⟨its,r',pl,hz⟩:=I.list hq;have hlen:=r'.length;obtain ⟨o,ho,hc,n,hd⟩:=pl.isList;exact call_list_seq p (.inl rfl) ho hc hd (fun h' c' kp e=>fin its r' hz h' c' kp e) (by simp only [List.size_toArray] <;> omega)
  · obtain ⟨its,r',pl,hz⟩:=I.tuple hq;have hlen:=r'.length;obtain ⟨o,ho,hc,n,hd⟩:=pl;exact call_list_seq p (.inr rfl) ho hc hd (fun h' c' kp e=>fin its r' hz h' c' kp e) (by simp only [List.size_toArray] <;> omega)
theorem qy:eD X (.type "tuple") (fun xs H Q=>∃ p ys,xs=[.ref p]/\((n6 X.K H p ys/\∀ l,H l=none->Q (.ref l) (de H l (.tup ys)))\/(jm X.K H p ys/\Q (.ref p) H))):=by
  intro pins s σ H xs us Q I r h;obtain ⟨p,ys,rfl,h⟩:=h;obtain ⟨u,rfl,rx⟩:=ir r;cases rx;rcases h with ⟨hq,q⟩ | ⟨hq,q⟩
  · obtain ⟨its,r',pl,hz⟩:=I.list hq;have hlen:=r'.length;refine call_tuple_list pl.isList (fun h' kp=>?_) (by simp only [List.size_toArray] <;> omega);have I1:aS X pins σ H { s with heap:=h' }:=I.kept (t':=s.toks) kp;have I2:aS X pins σ (de H h'.objs.size (.tup ys)) { s with heap:=h'.push { cls:=.type "tuple",data:=.seq its.toArray } } :=
      I1.laid (t':=s.toks) (fun b o e=>Heap.get?_push_of_some _ e) (Nat.le_refl _) (show cm X.prog X.w _ _ _ (.tup ys) from ⟨hz,its,r',h9.new _ _⟩)
    exact ⟨.ref h'.objs.size,_,I2,rfl,q _ (I1.hok.fresh (Nat.le_refl _))⟩
  · obtain ⟨its,r',pl,hz⟩:=I.tuple hq;exact call_tuple_same pl ⟨.ref p,H,I,rfl,q⟩
noncomputable def Ix (K:PySem.W.Frag) (T:String) (x:V) (H:Hp):Prop:=match x with
  | .str _=>T = "str"
  | .int _=>T = "int"
  | .ref p=>(T = "list" /\ ∃ xs,n6 K H p xs)\/(T = "tuple" /\ ((∃ o,K.lookup p=some o/\o.cls=.type "tuple" /\ o.dict=none)\/∃ xs,H p=some (.tup xs))) \/
      (T = "dict" /\ ((∃ kvs,H p=some (.dK kvs))\/∃ kvs,H p=some (.dT kvs)))\/(T = "set" /\ ∃ S n,H p=some (.set S n))
  | _=>False
theorem A6 {pins:List (Addr×Obj)} {σ:St} {H:Hp} {s:Shared} {T:String} {x:V} {v:Value} (I:aS X pins σ H s) (r:bW x v) (ty:Ix X.K T x H) :
    s.TypeIs v T/\∀ a,v=.ref a->∃ ob,s.heap.get? a=some ob/\ob.dict=none:=by
  cases x with
  | str z =>
    obtain ⟨t,rfl⟩:=r;cases (show T = "str" from ty);exact ⟨typeIs_str s z t,fun _ e=>nomatch e⟩
  | int i =>
    obtain ⟨t,rfl⟩:=r;cases (show T = "int" from ty);exact ⟨typeIs_int s i t,fun _ e=>nomatch e⟩
  | ref p =>
    cases r;rcases ty with ⟨rfl,xs,hq⟩ | ⟨rfl,⟨o,hk,hc,hd⟩ | ⟨xs,hk⟩⟩ | ⟨rfl,hk⟩ | ⟨rfl,S,n,hk⟩
    · obtain ⟨its,_,pl,_⟩:=I.list hq;refine ⟨pl.isList.typeIs,fun a e=>?_⟩;cases e;obtain ⟨o,n,e,c,hd,_⟩:=pl;exact ⟨o,e,hd⟩
    · refine ⟨⟨o,I.kIn p o hk,hc⟩,fun a e=>?_⟩;cases e;exact ⟨o,I.kIn _ o hk,hd⟩
    · obtain ⟨_,_,_,o,e1,e2,_,e3⟩:=(show cm X.prog X.w H s.heap p (.tup xs) from I.hok p _ hk)
      refine ⟨⟨o,e1,e2⟩,fun a e=>?_⟩;cases e;exact ⟨o,e1,e3⟩
    · have z:∃ o,s.heap.get? p=some o/\o.ExactDict:=by
        rcases hk with ⟨kvs,hk⟩ | ⟨kvs,hk⟩
        · obtain ⟨_,_,_,_,o,_,_,e,ex,_⟩:=I.hok p _ hk;exact ⟨o,e,ex⟩
        · obtain ⟨_,_,_,_,o,_,_,e,ex,_⟩:=I.hok p _ hk;exact ⟨o,e,ex⟩
      obtain ⟨o,e,ex⟩:=z;refine ⟨⟨o,e,ex.1⟩,fun a e2=>?_⟩;cases e2;exact ⟨o,e,ex.2.1⟩
    · obtain ⟨o,_,_,_,e,ex,_⟩:=I.hok p _ hk;refine ⟨⟨o,e,ex.1⟩,fun a e2=>?_⟩;cases e2;exact ⟨o,e,ex.2.1⟩
  | _=>exact False.elim ty
noncomputable def Ie (K:PySem.W.Frag) (T:String) (r:V->List V->Hp->VK->Prop) (to:TE):TE:=fun σ H Q=>to σ H fun x H1=>Ix K T x H1/\r x [] H1 Q
noncomputable def IZ (K:PySem.W.Frag) (T:String) (r:V->List V->Hp->VK->Prop) (to:TE) (t:TA):TE:=fun σ H Q=>to σ H fun x H1=>Ix K T x H1/\t σ H1 fun xs H2=>r x xs H2 Q
variable {o e:Expr} {es:List Expr} {to:TE} {t:TA} {name:Str} {apos cpos:Pos} {T id:String} {r:V->List V->Hp->VK->Prop}
theorem Er (pa:PlainAttrs T) (slot:Slot T name id) (hty:typeOf (.builtin id)=pure (.type "method_descriptor")) (hm:IB X id r) (ho:PE X o to)
    (hbase:attributeBase o name X.env (eval o X.env)=eval o X.env:=by rfl) (hline:(apos.endLine==cpos.line)=true:=by rfl):PE X (.Call (.Attribute o name apos) [] [] cpos) (Ie X.K T r to):=by
  intro pins s σ H Q I h;refine wpAny_Call_method0_late hbase hline (dM (ho pins s σ H _ I h) fun v s1 zq0=>?_);obtain ⟨x,H1,I1,r1,ty,q1⟩:=zq0;obtain ⟨h1,h2⟩:=A6 I1 r1 ty;exact ⟨T,id,pa,slot,hty,h1,h2,Calls.callWith_builtin rfl (PySem.evalArgs_none (hm pins s1 σ H1 x [] v [] Q I1 r1 .nil q1))⟩
theorem F7 (pa:PlainAttrs T) (slot:Slot T name id) (hty:typeOf (.builtin id)=pure (.type "method_descriptor")) (hm:IB X id r) (ho:PE X o to) (ha:PA X (e::es) t)
    (hbase:attributeBase o name X.env (eval o X.env)=eval o X.env:=by rfl)
    (hfew:((backTo cpos (starEach (e::es) X.env)).all (fun x=>!x.1)&&(backToKw cpos (keywordEach [] X.env)).all (fun x=>x.1.isSome)
      && decide ((e::es).length+([]:List Keyword).length+(if ([]:List Keyword).isEmpty then 0 else 1) < 30))=true:=by rfl)
    (hline:(apos.endLine==cpos.line)=true:=by rfl) (hs:starEach (e::es) X.env=(false,eval e X.env)::starEach es X.env:=by rfl) (hplain:(backTo cpos (starEach es X.env)).any (·.1)=false:=by rfl) :
    PE X (.Call (.Attribute o name apos) (e::es) [] cpos) (IZ X.K T r to t):=by
  intro pins s σ H Q I h;refine wpAny_Call_method_late hbase hfew hline rfl (dM (ho pins s σ H _ I h) fun v s1 zq0=>?_);obtain ⟨x,H1,I1,r1,ty,q1⟩:=zq0;obtain ⟨h1,h2⟩:=A6 I1 r1 ty;refine ⟨T,id,pa,slot,hty,h1,h2,?_⟩;have hA:=ha cpos pins s1 σ H1 _ I1 q1;rw [hs] at hA ⊢;refine Calls.callWith_builtin (by show (false||(backTo cpos (starEach es X.env)).any (·.1))=false;rw [hplain] <;> rfl) (Calls.evalArgs_plain ?_);exact dM hA fun us s2 ⟨vs,H2,I2,r2,q2⟩=>hm pins s2 σ H2 x vs v us Q I2 r1 r2 q2
end
noncomputable def IA (X:Cx) (id:String) (r:V->List V->Hp->VK->Prop):Prop :=
  ∀ (pins:List (Addr×Obj)) (s:Shared) (σ:St) (H:Hp) (x:V) (xs:List V) (v:Value) (us:List Value) (Q:VK),aS X pins σ H s->bW x v->bE xs us->r x xs H Q ->
    wpAny (model X.prog X.w) X.A (call (.builtin id) (v::us)) (EP X pins σ Q) X.xe s
theorem bE.one:∀ {x:V} {us:List Value},bE [x] us->∃ u,us=[u]/\bW x u
  | _,_,.cons r .nil=>⟨_,rfl,r⟩
theorem bE.zero:∀ {us:List Value},bE [] us->us=[]
  | _,.nil=>rfl
theorem bE.dropLast {xs:List V} {us:List Value} (h:bE xs us):bE xs.dropLast us.dropLast:=by
  induction h with
  | nil=>exact .nil
  | cons r t ih =>
    cases t with
    | nil=>exact .nil
    | cons q t'=>exact .cons r ih
theorem bE.reverse {xs:List V} {us:List Value} (h:bE xs us):bE xs.reverse us.reverse:=by
  induction h with
  | nil=>exact .nil
  | cons r t ih=>rw [List.reverse_cons,List.reverse_cons];exact bE.append ih (.cons r .nil)
theorem bE.rep {xs:List V} {us:List Value} (h:bE xs us):∀ k:Nat,bE (List.replicate k xs).flatten (List.replicate k us).flatten
  | 0=>.nil
  | k+1=>by
    rw [List.replicate_succ,List.replicate_succ,List.flatten_cons,List.flatten_cons];exact bE.append h (bE.rep h k)
theorem vq {α:Type} (l:List α):l.eraseIdx (l.length-1)=l.dropLast:=by
  induction l with
  | nil=>rfl
  | cons a r ih =>
    cases r with
    | nil=>rfl
    | cons b r =>
      have e:(a::b::r).length-1=((b::r).length-1)+1:=by
        have h1:(a::b::r).length=r.length+2:=rfl;have h2:(b::r).length=r.length+1:=rfl;omega
      rw [e,List.eraseIdx_cons_succ,ih]
      all_goals rfl
theorem qS (its:List Value):∀ (k:Nat) (acc:List Value),
    List.foldl (fun x1 x2=>x1++x2) acc.toArray (List.replicate k its.toArray)=(acc++(List.replicate k its).flatten).toArray
  | 0,acc=>by simp
  | k+1,acc=>by
    have e:acc.toArray++its.toArray=(acc++its).toArray:=by simp
    have e2:(acc++its)++(List.replicate k its).flatten=acc++(List.replicate (k+1) its).flatten:=by
      rw [List.replicate_succ,List.flatten_cons,List.append_assoc]
    rw [<- e2,<- qS its k (acc++its),<- e,List.replicate_succ,List.foldl_cons]
section
variable {X:Cx} {pins:List (Addr×Obj)} {σ:St} {H:Hp} {s:Shared} {l b:Addr} {xs ys zs:List V}
theorem aS.lset {its its':List Value} {n:Nat} {f:Array Value->Array Value} {t':Nat} (I:aS X pins σ H s) (hH:H l=some (.lst xs))
    (e:s.heap.get? l=some { cls:=.type "list",data:=.seq its.toArray n }) (hf:f its.toArray=its'.toArray) (hv:bE ys its') (hz:ys.length<=sizeLine) :
    aS X pins σ (de H l (.lst ys)) { s with heap:=s.heap.update l (Obj.mapSeq f),toks:=t' }:=by
  have q:=PySem.IsL.update e f;rw [hf] at q;refine I.write (x:=l) (e:=l) (by rw [hH];exact trivial) (.inl rfl) (fun b' u hb hu=>(Heap.get?_update_other s.heap (Obj.mapSeq f) (Ne.symm hb)).trans hu) ⟨_,q⟩ ?_;exact ⟨hz,its',_,hv,q⟩
theorem aS.lnew {its:List Value} {t':Nat} (I:aS X pins σ H s) (hv:bE ys its) (hz:ys.length<=sizeLine) :
    aS X pins σ (de H s.heap.objs.size (.lst ys)) { s with heap:=s.heap.push { cls:=.type "list",data:=.seq its.toArray },toks:=t' } :=
  I.laid (fun _ _ q=>Heap.get?_push_of_some _ q) (Nat.le_refl _) ⟨hz,its,0,hv,Heap.get?_push_size _ rfl⟩
theorem aS.fresh (I:aS X pins σ H s):H s.heap.objs.size=none:=I.hok.fresh (Nat.le_refl _)
theorem aS.lstM (I:aS X pins σ H s) (hH:H l=some (.lst xs)):xs.length<=sizeLine/\∃ (its:List Value) (n:Nat),bE xs its/\xs.length=its.length/\s.heap.get? l=some { cls:=.type "list",data:=.seq its.toArray n }:=by
  obtain ⟨z,its,n,r,e⟩:=I.hok l _ hH;exact ⟨z,its,n,r,r.length,e⟩
end
section
variable {X:Cx}
noncomputable def CA:V->List V->Hp->VK->Prop:=fun x vs H Q=>∃ l xs y,x=.ref l/\vs=[y]/\H l=some (.lst xs)/\xs.length < sizeLine/\Q .non (de H l (.lst (xs++[y])))
theorem rb:IA X "list.append" CA:=by
  intro pins s σ H x vs v us Q I rx rv h;obtain ⟨l,xs,y,rfl,rfl,hH,hz,q⟩:=h;cases rx;obtain ⟨u,rfl,ru⟩:=rv.one;obtain ⟨z,its,n,r,hl,e⟩:=I.lstM hH;refine call_meets F.slot_list_append ⟨_,e,rfl⟩ F.entry_list_append (F.args_list_append_2 _ _) (PySem.list_append l its.toArray n u (by rw [List.size_toArray];omega)) ⟨e,?_⟩;refine ⟨.non,_,I.lset (its':=its++[u]) hH e (by simp) (r.append (.cons ru .nil)) ?_,rfl,q⟩;rw [List.length_append,List.length_singleton];omega
noncomputable def HZ:V->List V->Hp->VK->Prop:=fun x vs H Q=>∃ l xs y,x=.ref l/\vs=[]/\H l=some (.lst xs)/\xs[xs.length-1]?=some y/\Q y (de H l (.lst xs.dropLast))
theorem Eh:IA X "list.pop" HZ:=by
  intro pins s σ H x vs v us Q I rx rv h;obtain ⟨l,xs,y,rfl,rfl,hH,hy,q⟩:=h;cases rx;have hus:=rv.zero;subst hus;obtain ⟨z,its,n,r,hl,e⟩:=I.lstM hH;obtain ⟨u,hu,ru⟩:=r.get hy;have hy':its.toArray[its.toArray.size-1]?=some u:=by
    show its.toArray[its.length-1]?=some u;rw [<- Array.getElem?_toList,<- hl];exact hu
  refine call_meets F.slot_list_pop ⟨_,e,rfl⟩ F.entry_list_pop (F.args_list_pop_1 _) (MeetsSeq.list_pop_last l its.toArray n u hy' (by rw [List.size_toArray];omega)) ⟨e,?_⟩;refine ⟨y,_,I.lset (its':=its.dropLast) hH e ?_ r.dropLast ?_,ru,q⟩
  · show its.toArray.eraseIdxIfInBounds (its.toArray.size-1)=its.dropLast.toArray;rw [List.size_toArray,List.eraseIdxIfInBounds_toArray,vq]
  · rw [List.length_dropLast];omega
theorem w4 {α:Type} (xs:List α) (k:Nat):(List.replicate k xs).flatten.length=k*xs.length:=by
  induction k with
  | zero=>simp
  | succ k ih=>rw [List.replicate_succ,List.flatten_cons,List.length_append,ih,Nat.succ_mul,Nat.add_comm]
end
end L2
namespace Att
open PySem PySem.W PySem.Calls PyProof.Rows
theorem oR {P:Params} {h:Heap}:∀ (ns:List Int) (vs:List Value),WellAll P h vs (ns.map WData.int)->IntsAre vs ns:=by
  intro ns;induction ns with
  | nil =>
    intro vs w;rw [List.map_nil] at w;cases w;exact .nil
  | cons n ns ih =>
    intro vs w;rw [List.map_cons] at w;cases w with
    | cons a b =>
      cases a;exact .cons _ _ (ih _ b)
theorem yI {l:OpenLaw} {n:Nat} (hn:l.most=some n) {P:Params} {h:Heap} {args:List WData} {vals:List Value}
    (hpre:l.row.toRowW.claim.pre args=true) (hwl:WellAll P h vals args) :
    ∃ a vs ns,vals=[Value.ref a]/\args=[WData.list (ns.map WData.int)]/\h.get? a=some { cls:=.type "list",data:=.seq vs.toArray }/\IntsAre vs ns/\ns.length<=n:=by
  have hsh:WShape.hasAll [] args [.list .int]=true:=(pre_splitW hpre).1;have hc:l.pre.holds [] { args:=args }=true:=(pre_splitW hpre).2;obtain ⟨d,r,rfl,h1,h2⟩:=hasAllW_cons hsh;obtain rfl:=hasAllW_nil h2;obtain ⟨xs,rfl,h3⟩:=hasW_list h1;obtain ⟨ns,rfl⟩:=items_int h3;have hlen:ns.length<=n:=by
    unfold OpenLaw.pre at hc;have h4:(WTm.not (.lt (.lit (.int (n:Int))) (.len (.arg 0)))).holds [] { args:=[.list (ns.map .int)] }=true:=by
      have h4:=(holds_andW hc).1;rw [hn] at h4;exact h4
    have h5:=condW_of h4 (w_not (w_lt w_lit (w_len_list (w_arg rfl))));rw [List.length_map] at h5;refine Nat.le_of_not_lt fun q=>?_
    have q':(n:Int) < ((ns.length:Nat):Int):=by omega
    first
      | (rw [decide_eq_true q'] at h5;exact absurd h5 (by decide))
      | (simp at h5;omega)
  cases hwl with
  | cons w1 w2 =>
    cases w2;cases w1 with
    | list ho hall=>exact ⟨_,_,ns,rfl,rfl,ho,oR ns _ hall,hlen⟩
theorem yC (l:OpenLaw) (args:List WData):l.row.toRowW.claim.post args (.bool true) args=true :=
  postW_of (r:=l.row.toRowW) (X:=(true==true))
    (show WShape.has [] (.bool true) .bool=true by first | rfl | decide | simp [WShape.has,WShape.arms,WShape.armsAll])
    (show (WTm.eq .res (.lit (.bool true))).value [] { args:=args,res:=some (.bool true),after:=args }=some (.bool (true==true)) from w_eq_bool (w_res rfl) w_lit) rfl
theorem attach_call {l:OpenLaw} {n:Nat} {q:Program} {loose:List Str} {XP:(Str->Option Value)->Heap->Prop} {YP:World->Heap->Prop} {d:DefRec}
    (hn:l.most=some n) (hdf:d.params.defaults=[])
    (call:∀ (w:World) (s₀ s₁:Shared) (mg mb:Str->Option Value) (fa:Addr) (o:Obj) (pm cd doc:Value) (a:Addr) (vs:List Value) (ns:List Int),
      Ground q loose [] XP w s₀ mg mb s₁.heap->YP w s₁.heap ->
      s₁.heap.get? fa=some o->o.data=.func (docDef d.name d.params d.body d.scope pm cd doc)->s₁.heap.CodeRec cd d.name->mg d.name=some (.ref fa) ->
      s₁.heap.get? a=some { cls:=.type "list",data:=.seq vs.toArray }->IntsAre vs ns->ns.length<=n->s₁.gens=#[] ->
      codeAny (model l.prog w) callerA (.call (.ref fa) ⟨[.ref a],[]⟩) (fun r s'=>r=.ok (.ret (.bool true))/\OldK s₁.heap s'.heap/\s'.os=s₁.os/\AllBare s'.gens) s₁) :
    WalkO q loose XP YP l.row.toRowW d [] (fun f vs=>PySem.call f vs):=by
  intro w s₀ s₁ mg mb G Y fa o pm cd doc dV kV ho hd hcd hD hmg hg args vals as hpre hlay hrd hwl hlo;obtain rfl:dV=.none:=Dflts.none hD hdf;obtain rfl:kV=.none:=Dflts.noKw hD;obtain ⟨a,vs,ns,rfl,rfl,hobj,hints,hlen⟩:=yI hn hpre hwl;refine enter_call (codeAny_mono (call w s₀ s₁ mg mb fa o pm cd doc a vs ns G Y ho (fd_plain hd) hcd hmg hobj hints hlen hg) fun r s' hq=>?_);obtain ⟨rfl,h2,h3,h4⟩:=hq;exact ⟨.inl ⟨.bool true,.bool true,[],rfl,fun _=>rfl,.bool true,yC l _,fun _=>⟨List.Pairwise.nil,fun _ hm=>(nomatch hm)⟩⟩,h2,h3,h4⟩
end Att
namespace L2
open PySem PySem.Spec PyProof.Rows
theorem kQ:∀ {vs:List Value} {ns:List Int},IntsAre vs ns->bE (ns.map V.int) vs
  | _,_,.nil=>.nil
  | _,_,.cons n t h=>.cons ⟨t,rfl⟩ (kQ h)
noncomputable def Fp (H:Hp):Prop:=∀ b,H b=none\/∃ o xs,H b=some (.frz o (.lst xs))
theorem Af {P:Program} {w:World} {K:PySem.W.Frag} {mg mb:Str->Option Value} {CX:yT} {k:Nat} {fa a:Addr} {fd:FuncData} {x:Str} {sp:Sp} {s₁:Shared} {vs:List Value} {ns:List Int}
    (KX:K.In s₁.heap) (hns:s₁.heap.Ns mainGlobals mg) (hb:s₁.heap.Ns builtinsNs mb) (hbb:∀ x:Str,x ≠ "__name__" -> mb x=bootBuiltins x) (hlim:s₁.heap.NoLimit) (hg:s₁.gens=#[])
    (ha:s₁.heap.get? a=some { cls:=.type "list",data:=.seq vs.toArray }) (hi:IntsAre vs ns) (hl:ns.length<=sizeLine) (hr:fG k callerA)
    (F:∀ base:Heap,K.In base->base.Ns mainGlobals mg->bd P w K mg base CX k fa fd [x] sp) (hbind:∀ (s:Shared) (u:Value),BindsTo s fd ⟨[u],[]⟩ [(x,u)])
    (hsp:∀ H:Hp,Fp H->n6 K H a (ns.map V.int)->sp [.ref a] H (fun v _=>v=.bl true) fun _ _ _=>False)
    (hCX:∀ H e s',CX [] H s₁ (fun _ _ _=>False) e s'->False) :
    codeAny (model P w) callerA (.call (.ref fa) ⟨[.ref a],[]⟩) (fun r s'=>r=.ok (.ret (.bool true))/\OldK s₁.heap s'.heap/\s'.os=s₁.os/\AllBare s'.gens) s₁:=by
  have rv:=kQ hi;have lenV:=hi.length
  -- from an abstract heap in which nothing but the script may be tracked
  have core:∀ H:Hp,Fp H->n6 K H a (ns.map V.int)->iO P w H s₁.heap->(∀ b,H b≠none->b=a)->(H a≠none->K.lookup a=none) ->
      codeAny (model P w) callerA (.call (.ref fa) ⟨[.ref a],[]⟩) (fun r s'=>r=.ok (.ret (.bool true))/\OldK s₁.heap s'.heap/\s'.os=s₁.os/\AllBare s'.gens) s₁:=by
    intro H hO hS hok hA hK;have base_of:∀ {b:Addr} {o:Obj},s₁.heap.get? b=some o->H b=none->(sB s₁.heap H).get? b=some o:=fun e n=>zP e n
    have noA:∀ {b:Addr} {o:Obj} {es:Array DictEntry} {ep:Nat},s₁.heap.get? b=some o->o.data=.dict es ep->H b=none:=fun {b o es ep} e d=>by
      cases q:H b with
      | none=>rfl
      | some u =>
        have e':b=a:=hA b (by rw [q];simp);subst e';rw [ha] at e;cases e;have d':Data.seq vs.toArray _=Data.dict es ep:=d;cases d'
    have nsK:∀ {b:Addr} {m:Str->Option Value},s₁.heap.Ns b m->(sB s₁.heap H).Ns b m:=fun {b m} ⟨o,es,ep,e,d,r⟩=>⟨o,es,ep,base_of e (noA e d),d,r⟩
    have hKb:K.In (sB s₁.heap H):=fun b o e=>base_of (KX b o e) (by
      cases q:H b with
      | none=>rfl
      | some u =>
        have e':b=a:=hA b (by rw [q];simp);subst e';rw [hK (by rw [q];simp)] at e;cases e)
    have hM:Mod K mg (sB s₁.heap H):=⟨hKb,nsK hns,⟨mb,nsK hb,hbb⟩,let ⟨mc,h1,h2⟩:=hlim;⟨mc,nsK h1,h2⟩⟩
    have e0:uZ P w K mg (sB s₁.heap H) callerA [] s₁ H:=⟨rfl,hM,fun b o e=>Cb e,Nat.le_of_eq (yh _ _),trivial,fun b hb=>absurd (show b∈([]:List Addr) from hb) (by simp),hok,.of_eq hg⟩
    refine codeAny_mono ((F _ hKb (nsK hns)).run callerA [] s₁ H ⟨[.ref a],[]⟩ [.ref a] [.ref a] _ _ hr e0 (hbind s₁ (.ref a)) (.cons rfl .nil) (hsp H hO hS)) fun r s' h=>?_
    cases r with
    | error e=>exact (hCX H e s' h).elim
    | ok fl =>
      cases fl with
      | next=>exact False.elim h
      | brk=>exact False.elim h
      | cont=>exact False.elim h
      | ret u =>
        obtain ⟨v,H',os,bare,un,hok',r',q⟩:=h;have q':v=.bl true:=q;subst q';obtain rfl:u=Value.bool true:=r';refine ⟨rfl,OldK.of_keep fun b o e=>?_,os,bare⟩;cases q:H b with
        | none=>exact un.keep b o e q (by intro z;exact absurd (show b∈([]:List Addr) from z) (by simp)) (by simp)
        | some u =>
          rcases hO b with z | ⟨ob,xs,z⟩
          · rw [q] at z;cases z
          · have z2:=un.frzs b ob _ z;obtain ⟨e1,_⟩:=hok b _ z;obtain ⟨e2,_⟩:=hok' b _ z2;rw [e] at e1;cases e1;exact e2
  cases hk:K.lookup a with
  | some o =>
    -- the script is one of the module's own objects
    have e:=KX a o hk;rw [ha] at e;cases e;refine core (fun _=>none) (fun _=>.inl rfl) (.inr ⟨_,vs.toArray,_,hk,rfl,rfl,rfl,by rw [List.size_toArray,lenV];exact hl,by simpa using rv⟩) (fun b u z=>by have z':(none:Option HO)=some u:=z;cases z') (fun b z=>absurd rfl z) fun z=>absurd rfl z
  | none =>
    refine core (fun b=>if b=a then some (.frz { cls:=.type "list",data:=.seq vs.toArray } (.lst (ns.map V.int))) else none) (fun b=>?_) (.inl (.inr ⟨{ cls:=.type "list",data:=.seq vs.toArray },if_pos rfl⟩)) (fun b u z=>?_) (fun b z=>?_) fun _=>hk
    · by_cases hb:b=a
      · exact .inr ⟨_,_,if_pos hb⟩
      · exact .inl (if_neg hb)
    · by_cases hb:b=a
      · have z':=(if_pos hb).symm.trans z;cases z';subst hb;exact ⟨ha,by rw [List.length_map];exact hl,vs,_,rv,ha⟩
      · have z':=(if_neg hb).symm.trans z;cases z'
    · by_cases hb:b=a
      · exact hb
      · exact absurd (if_neg hb) z
noncomputable def BW (s:Stmt) (j:Nat):Stmt:=match s with
  | .ClassDef _ _ _ body _ _ _ _ _ _ _=>body.getD j (.Pass ⟨0,0,0,0⟩)
  | _=>.Pass ⟨0,0,0,0⟩
noncomputable def eQ (s:Stmt):Arguments:=match s with
  | .FunctionDef _ a _ _ _ _ _ _ _ _=>a
  | _=>{ posonlyargs:=[],args:=[],vararg:=none,kwonlyargs:=[],kw_defaults:=[],kwarg:=none,defaults:=[] }
noncomputable def dA (s:Stmt):List Stmt:=match s with
  | .FunctionDef _ _ b _ _ _ _ _ _ _=>b
  | _=>[]
noncomputable def aq (s:Stmt):Scope:=match s with
  | .FunctionDef _ _ _ _ _ _ sc _ _ _=>sc
  | _=>{ kind:=.function,names:=[],isGenerator:=false,isCoroutine:=false }
noncomputable abbrev Iz:yT:=fun _ _ _ _ _ _=>False
structure gn (K:PySem.W.Frag) (x qual:Str) (st:Stmt) (f:Addr) (fd:FuncData):Prop where
  ex:∃ (oc:Value) (od:Option Addr) (kV doc pm:Value) (an:Option Addr) (cdv ct:Value) (osl:Array (Option Value)),
    fd=PySem.W.fnOf x qual (eQ st) (dA st) (aq st) .none kV doc pm an cdv ct/\K.lookup f=some ⟨oc,od,.func fd,osl⟩/\PySem.W.codeIn K cdv qual=true
  kp:PySem.W.keepIn K (.ref f)=true
section
variable {P:Program} {w:World} {K:PySem.W.Frag} {mg:Str->Option Value} {base:Heap}
theorem gn.ok {x qual:Str} {st:Stmt} {f:Addr} {fd:FuncData} {N ps:List Str} {k:Nat} {sp:Sp} (F:gn K x qual st f fd) (S:aY N ps (aq st)) (len:∀ vs H Q E,sp vs H Q E->vs.length=ps.length)
    (hbody:∀ (cdv:Value) (A:Around) (outer:List Env) (s:Shared) (H:Hp) (vs:List V) (Q:VK) (E:XK),fG k (A.deeper (envOfC qual (aq st) s.heap.objs.size f cdv))->sp vs H Q E ->
      ∃ t,rL (gE Iz P w K mg base N qual (aq st) f cdv A outer s H E).nox (dA st) t/\t { nx:=fun _ H'=>Q .non H',rt:=Q } (jO N vs) H):bd P w K mg base Iz (k+1) f fd ps sp:=by
  obtain ⟨oc,od,kV,doc,pm,an,cdv,ct,osl,rfl,lk,hcd⟩:=F.ex;refine zM lk hcd S len fun A outer s H vs Q E hr hsp=>?_
  obtain ⟨t,h,q⟩:=hbody cdv A outer s H vs Q E hr hsp;exact ⟨t,h.nox,q⟩
theorem gn.binds {x qual:Str} {st:Stmt} {f:Addr} {fd:FuncData} {ps:List Str} (F:gn K x qual st f fd)
    (h:∀ (kV doc pm:Value) (an:Option Addr) (cdv ct:Value) (us:List Value),us.length=ps.length->bindArgs (PySem.W.fnOf x qual (eQ st) (dA st) (aq st) .none kV doc pm an cdv ct) ⟨us,[]⟩=pure (ps.zip us)):bz K fd ps []:=by
  obtain ⟨oc,od,kV,doc,pm,an,cdv,ct,osl,rfl,lk,hcd⟩:=F.ex;exact .all (h kV doc pm an cdv ct)
theorem vx {x qual:Str} {st:Stmt} {f:Addr} {oc:Value} {od an:Option Addr} {osl:Array (Option Value)} {kV doc pm cdv ct:Value} (l:K.lookup f=some ⟨oc,od,.func (PySem.W.fnOf x qual (eQ st) (dA st) (aq st) .none kV doc pm an cdv ct),osl⟩)
    (c:PySem.W.codeIn K cdv qual=true) (k:PySem.W.keepIn K (.ref f)=true):gn K x qual st f (PySem.W.fnOf x qual (eQ st) (dA st) (aq st) .none kV doc pm an cdv ct):=⟨⟨oc,od,kV,doc,pm,an,cdv,ct,osl,rfl,l,c⟩,k⟩
end
section
variable {X:Cx}
theorem pv (i:Nat) {x:Str} {pos:Pos} (hN:X.N[i]?=some x:=by rfl) (hv:DM X.env.scope x:=by first | exact Or.inl rfl | exact Or.inr (Or.inl rfl) | exact Or.inr (Or.inr rfl)) (hd:(x==("__debug__" : Str))=false:=by decide)
    (hcd:(x==("__classdict__" : Str))=false:=by decide):PE X (.Name x pos) (E1 i):=iU hN hv hd hcd
end
noncomputable def aM (H H':Hp):Prop:=∀ b o,H b=some o->H' b=some o
theorem aM.refl (H:Hp):aM H H:=fun _ _ h=>h
theorem aM.trans {H H1 H2:Hp} (a:aM H H1) (b:aM H1 H2):aM H H2:=fun c o h=>b c o (a c o h)
theorem aM.free {H H':Hp} (e:aM H H') {l:Addr} (h:H' l=Option.none):H l=Option.none:=by
  cases q:H l with
  | none=>rfl
  | some o =>
    rw [e l o q] at h;cases h
section
variable {κ:Type} [DecidableEq κ]
noncomputable def k9 (kvs:List (κ×V)) (k:κ):Option V:=(kvs.find? fun kv=>decide (kv.1=k)).map (·.2)
noncomputable def mI (kvs:List (κ×V)) (k:κ) (v:V):List (κ×V) :=
  if (kvs.any fun kv=>decide (kv.1=k))=true then kvs.map (fun kv=>if kv.1=k then (kv.1,v) else kv) else kvs++[(k,v)]
theorem qf {p:κ×V} {r:List (κ×V)} {k:κ} (e:p.1=k):k9 (p::r) k=some p.2:=by simp [k9,List.find?_cons,e]
theorem qe {p:κ×V} {r:List (κ×V)} {k:κ} (e:¬ p.1=k):k9 (p::r) k=k9 r k:=by simp [k9,List.find?_cons,e]
theorem uM (k:κ):∀ kvs:List (κ×V),(kvs.any fun kv=>decide (kv.1=k))=(k9 kvs k).isSome
  | []=>rfl
  | p::r=>by
    rw [List.any_cons];by_cases e:p.1=k
    · simp only [qf e,decide_eq_true e,Bool.true_or,Option.isSome_some]
    · rw [qe e,decide_eq_false e,Bool.false_or];exact uM k r
theorem om (kvs:List (κ×V)) (k:κ) (v:V):(mI kvs k v).length<=kvs.length+1:=by
  unfold mI;split
  · rw [List.length_map];omega
  · rw [List.length_append,List.length_cons,List.length_nil];omega
theorem ny.isSome_eq {o:Option V} {u:Option Value} (r:ny o u):o.isSome=u.isSome:=by
  cases o with
  | none=>cases u with
    | none=>rfl
    | some _=>exact (show False from r).elim
  | some _=>cases u with
    | none=>exact (show False from r).elim
    | some _=>rfl
theorem KV.val {kvs:List (κ×V)} {vs:List (κ×Value)} (r:KV kvs vs) (k:κ):ny (k9 kvs k) (valueAt vs k):=by
  unfold KV at r;induction r with
  | nil=>exact True.intro
  | @cons p q ps qs h t ih =>
    obtain ⟨h1,h2⟩:=h;by_cases e:p.1=k
    · have e':q.1=k:=h1.symm.trans e;have b:valueAt (q::qs) k=some q.2:=by simp [valueAt,List.find?_cons,e']
      rw [qf e,b];exact h2
    · have e':¬ q.1=k:=fun z=>e (h1.trans z)
      have b:valueAt (q::qs) k=valueAt qs k:=by simp [valueAt,List.find?_cons,e']
      rw [qe e,b];exact ih
theorem KV.any {kvs:List (κ×V)} {vs:List (κ×Value)} (r:KV kvs vs) (k:κ):(kvs.any fun kv=>decide (kv.1=k))=vs.any fun kv=>decide (kv.1=k):=by
  unfold KV at r;induction r with
  | nil=>rfl
  | cons h t ih=>rw [List.any_cons,List.any_cons,ih,h.1]
theorem KV.repl {kvs:List (κ×V)} {vs:List (κ×Value)} (r:KV kvs vs) (k:κ) {y:V} {u:Value} (ry:bW y u) :
    KV (kvs.map fun kv=>if kv.1=k then (kv.1,y) else kv) (vs.map fun kv=>if kv.1=k then (kv.1,u) else kv):=by
  unfold KV at r ⊢;induction r with
  | nil=>exact .nil
  | @cons p q ps qs h t ih =>
    rw [List.map_cons,List.map_cons];refine .cons ?_ ih;obtain ⟨h1,h2⟩:=h;by_cases e:p.1=k
    · rw [if_pos e,if_pos (h1.symm.trans e)];exact ⟨h1,ry⟩
    · rw [if_neg e,if_neg (fun z=>e (h1.trans z))];exact ⟨h1,h2⟩
theorem KV.put {kvs:List (κ×V)} {vs:List (κ×Value)} (r:KV kvs vs) (k:κ) {y:V} {u:Value} (ry:bW y u):KV (mI kvs k y) (stored vs k u):=by
  unfold mI stored;rw [r.any k];by_cases e:(vs.any fun kv=>decide (kv.1=k))=true
  · rw [if_pos e,if_pos e];exact r.repl k ry
  · rw [if_neg e,if_neg e];exact Paired.snoc r ⟨rfl,ry⟩
theorem KV.keys {kvs:List (κ×V)} {vs:List (κ×Value)} (r:KV kvs vs):kvs.map (·.1)=vs.map (·.1):=by
  unfold KV at r;induction r with
  | nil=>rfl
  | cons h t ih=>rw [List.map_cons,List.map_cons,ih,h.1]
theorem KV.length {kvs:List (κ×V)} {vs:List (κ×Value)} (r:KV kvs vs):kvs.length=vs.length:=Paired.length r
end
theorem uq {P:Program} {w:World} {k:dD} {u:Value} (r:bW (kV k) u):(dB P w).is k u=true:=by
  cases k with
  | inl i=>obtain ⟨t,e⟩:=(show ∃ t,u=Value.int i t from r);subst e;exact ut P w i t
  | inr x=>obtain ⟨t,e⟩:=(show ∃ t,u=Value.str x t from r);subst e;exact uu P w x t
theorem qW {P:Program} {w:World}:∀ {ks:List dD} {us:List Value},bE (ks.map kV) us->ItemsAre (dB P w) ks us
  | [],_,r=>by rw [List.map_nil] at r;cases r;exact .nil
  | k::ks,_,r=>by
    rw [List.map_cons] at r;cases r with
    | cons h t=>exact .cons (uq h) (qW t)
noncomputable abbrev KT (H:Hp):List (List dD×V)->List (List dD×Addr×Value)->Prop:=Paired fun p q=>p.1=q.1/\H q.2.1=some (.tup (p.1.map kV))/\bW p.2 q.2.2
theorem KT.val {H:Hp} {kvs:List (List dD×V)} {xs:List (List dD×Addr×Value)} (r:KT H kvs xs) (k:List dD):ny (k9 kvs k) ((atKey xs k).map (·.2)):=by
  induction r with
  | nil=>exact True.intro
  | @cons p q ps qs h t ih =>
    obtain ⟨h1,_,h2⟩:=h;by_cases e:p.1=k
    · have e':q.1=k:=h1.symm.trans e;have b:atKey (q::qs) k=some q.2:=by simp [atKey,List.find?_cons,e']
      rw [qf e,b];exact h2
    · have e':¬ q.1=k:=fun z=>e (h1.trans z)
      have b:atKey (q::qs) k=atKey qs k:=by simp [atKey,List.find?_cons,e']
      rw [qe e,b];exact ih
theorem KT.repl {H:Hp} {kvs:List (List dD×V)} {xs:List (List dD×Addr×Value)} (r:KT H kvs xs) (k:List dD) {y:V} {u:Value} (ry:bW y u) :
    KT H (kvs.map fun kv=>if kv.1=k then (kv.1,y) else kv) (xs.map (putAt k u)):=by
  induction r with
  | nil=>exact .nil
  | @cons p q ps qs h t ih =>
    rw [List.map_cons,List.map_cons];refine .cons ?_ ih;obtain ⟨h1,h2,h3⟩:=h;unfold putAt;by_cases e:p.1=k
    · rw [if_pos e,if_pos (h1.symm.trans e)];exact ⟨h1,h2,ry⟩
    · rw [if_neg e,if_neg (fun z=>e (h1.trans z))];exact ⟨h1,h2,h3⟩
theorem KT.put {H:Hp} {kvs:List (List dD×V)} {xs:List (List dD×Addr×Value)} (r:KT H kvs xs) (k:List dD) {b:Addr} {y:V} {u:Value} (hb:H b=some (.tup (k.map kV))) (ry:bW y u) :
    KT H (mI kvs k y) (storedH xs k b u):=by
  have e:(kvs.any fun kv=>decide (kv.1=k))=(atKey xs k).isSome:=by
    rw [uM,(r.val k).isSome_eq,Option.isSome_map]
  unfold mI storedH;rw [e];by_cases q:(atKey xs k).isSome=true
  · rw [if_pos q,if_pos q];exact r.repl k ry
  · rw [if_neg q,if_neg q];exact Paired.snoc r ⟨rfl,hb,ry⟩
theorem KT.keeps {H H':Hp} {kvs:List (List dD×V)} {xs:List (List dD×Addr×Value)} (r:KT H kvs xs) (ht:∀ b ys,H b=some (.tup ys)->H' b=some (.tup ys)):KT H' kvs xs :=
  Paired.mapP r fun _ _ z=>⟨z.1,ht _ _ z.2.1,z.2.2⟩
section
variable {P:Program} {w:World} {H:Hp} {h:Heap} {a:Addr}
theorem Dx {u:HO} (ok:iO P w H h) (e:Rd H a u):cm P w H h a u:=e.ok ok
theorem oa {kvs:List (dD×V)} (ok:iO P w H h) (e:Rd H a (.dK kvs)):kvs.length<=sizeLine/\(a==sysModules)=false/\∃ vs,KV kvs vs/\h.DictOf (dB P w) a vs :=
  show cm P w H h a (.dK kvs) from Dx ok e
theorem FF {kvs:List (dD×V)} (ok:iO P w H h) (e:H a=some (.dK kvs)):kvs.length<=sizeLine/\(a==sysModules)=false/\∃ vs,KV kvs vs/\h.DictOf (dB P w) a vs:=oa ok (.inl e)
theorem pR {ks:List dD} (ok:iO P w H h) (e:H a=some (.tup (ks.map kV))):(tupleKind (dB P w)).is h ks a:=by
  obtain ⟨_,its,r,o,h1,h2,⟨n,h3⟩,_⟩:=(show cm P w H h a (.tup (ks.map kV)) from ok a _ e)
  exact ⟨o,its.toArray,n,h1,h2,h3,by simpa using qW r⟩
theorem qQ {kvs:List (List dD×V)} (ok:iO P w H h) (e:Rd H a (.dT kvs)):kvs.length<=sizeLine/\(a==sysModules)=false /\
    ∃ xs,KT H kvs xs/\h.DictOfH (tupleKind (dB P w)) a xs:=by
  obtain ⟨z,y,xs,r,o,es,ep,h1,h2,h3,h4,h5⟩:=(show cm P w H h a (.dT kvs) from Dx ok e)
  refine ⟨z,y,xs,r,o,es,ep,h1,h2,h3,h4,fun x hx=>?_,h5⟩;have all:∀ {l:List (List dD×V)} {m:List (List dD×Addr×Value)},KT H l m->∀ x∈m,(tupleKind (dB P w)).is h x.1 x.2.1:=by
    intro l m q;induction q with
    | nil=>intro x hx;exact nomatch hx
    | @cons p q ps qs hq t ih =>
      intro x hx;rcases List.mem_cons.mp hx with e | hx
      · subst e;exact pR ok (by rw [<- hq.1];exact hq.2.1)
      · exact ih x hx
  exact all r x hx
theorem FH {kvs:List (List dD×V)} (ok:iO P w H h) (e:H a=some (.dT kvs)):kvs.length<=sizeLine/\(a==sysModules)=false /\
    ∃ xs,KT H kvs xs/\h.DictOfH (tupleKind (dB P w)) a xs:=qQ ok (.inl e)
end
noncomputable def o1 (H:Hp) (a:Addr) (y:V) (r:Option V):Prop :=
  (∃ kvs k,Rd H a (.dK kvs)/\y=kV k/\r=k9 kvs k)\/∃ kvs k b,Rd H a (.dT kvs)/\y=.ref b/\H b=some (.tup (k.map kV))/\r=k9 kvs k
noncomputable def uR (H:Hp) (a:Addr) (y v:V) (H':Hp):Prop :=
  (∃ kvs k,H a=some (.dK kvs)/\y=kV k/\kvs.length < sizeLine/\H'=de H a (.dK (mI kvs k v))) \/
  ∃ kvs k b,H a=some (.dT kvs)/\y=.ref b/\H b=some (.tup (k.map kV))/\kvs.length < sizeLine/\H'=de H a (.dT (mI kvs k v))
theorem o1.k {H:Hp} {a:Addr} {kvs:List (dD×V)} {k:dD} (e:H a=some (.dK kvs)):o1 H a (kV k) (k9 kvs k):=.inl ⟨kvs,k,.inl e,rfl,rfl⟩
theorem o1.t {H:Hp} {a b:Addr} {kvs:List (List dD×V)} {k:List dD} (e:H a=some (.dT kvs)) (eb:H b=some (.tup (k.map kV))):o1 H a (.ref b) (k9 kvs k):=.inr ⟨kvs,k,b,.inl e,rfl,eb,rfl⟩
theorem uR.k {H:Hp} {a:Addr} {kvs:List (dD×V)} {k:dD} {v:V} (e:H a=some (.dK kvs)) (hl:kvs.length < sizeLine):uR H a (kV k) v (de H a (.dK (mI kvs k v))):=.inl ⟨kvs,k,e,rfl,hl,rfl⟩
theorem uR.t {H:Hp} {a b:Addr} {kvs:List (List dD×V)} {k:List dD} {v:V} (e:H a=some (.dT kvs)) (eb:H b=some (.tup (k.map kV))) (hl:kvs.length < sizeLine) :
    uR H a (.ref b) v (de H a (.dT (mI kvs k v))):=.inr ⟨kvs,k,b,e,rfl,eb,hl,rfl⟩
section
variable {X:Cx} {pins:List (Addr×Obj)} {σ:St} {H:Hp} {s:Shared} {a:Addr} {y v:V} {u r:Value} {o:Option V} {A:Around} {E:Value->Shared->Prop}
theorem aS.big (I:aS X pins σ H s):sysModules < s.heap.objs.size:=by
  have h:mainGlobals < s.heap.objs.size:=(I.mod.glob.keeps I.bk).lt;exact Nat.lt_trans (by decide) h
theorem x5 {Q:Value->Shared->Prop} (hu:A.units+1 < cLine) (I:aS X pins σ H s) (g:o1 H a y (some v)) (ry:bW y u) (h:∀ w' s',aS X pins σ H s'->bW v w'->Q w' s') :
    wpAny (model X.prog X.w) A (getItem (.ref a) u) Q E s:=by
  rcases g with ⟨kvs,k,e,ey,l⟩ | ⟨kvs,k,b,e,ey,eb,l⟩
  · subst ey;obtain ⟨z,hd,vs,rel,dd⟩:=oa I.hok e;obtain ⟨w',hw,rw'⟩:=ny.some_of (v:=v) (o:=valueAt vs k) (by rw [l];exact rel.val k);exact wpAny_getItem_of (uq ry) dd.mapOf hw (h w' _ (I.tok _) rw')
  · subst ey;cases (show u=Value.ref b from ry);obtain ⟨z,hd,xs,rel,dd⟩:=qQ I.hok e;obtain ⟨w',hw,rw'⟩:=ny.some_of (v:=v) (o:=(atKey xs k).map (·.2)) (by rw [l];exact rel.val k);obtain ⟨p,hp,hp2⟩:=Option.map_eq_some_iff.mp hw;refine wpAny_getItem_heap (tupleKind_room_in1 hu) (pR I.hok eb) dd hp ?_;rw [hp2];exact h w' _ (I.tok _) rw'
theorem HJ {Q:Value->Shared->Prop} (hu:A.units+1 < cLine) (I:aS X pins σ H s) (g:o1 H a y o) (ry:bW y u) (h:∀ s',aS X pins σ H s'->Q (.bool o.isSome) s') :
    wpAny (model X.prog X.w) A (compareOp .In u (.ref a)) Q E s:=by
  rcases g with ⟨kvs,k,e,ey,l⟩ | ⟨kvs,k,b,e,ey,eb,l⟩
  · subst ey;obtain ⟨z,hd,vs,rel,dd⟩:=oa I.hok e;refine wpAny_in_of (uq ry) hd dd.mapOf ?_;rw [<- (rel.val k).isSome_eq,<- l];exact h _ (I.tok _)
  · subst ey;cases (show u=Value.ref b from ry);obtain ⟨z,hd,xs,rel,dd⟩:=qQ I.hok e;refine wpAny_in_heap (tupleKind_room_in1 hu) (pR I.hok eb) hd dd ?_;have q:=(rel.val k).isSome_eq;rw [Option.isSome_map] at q;rw [<- q,<- l];exact h _ (I.tok _)
theorem BG {Q:Value->Shared->Prop} (hu:A.units+1 < cLine) (I:aS X pins σ H s) (g:o1 H a y o) (ry:bW y u) (h:∀ s',aS X pins σ H s'->Q (.bool (!o.isSome)) s') :
    wpAny (model X.prog X.w) A (compareOp .NotIn u (.ref a)) Q E s:=by
  rcases g with ⟨kvs,k,e,ey,l⟩ | ⟨kvs,k,b,e,ey,eb,l⟩
  · subst ey;obtain ⟨z,hd,vs,rel,dd⟩:=oa I.hok e;refine wpAny_notIn_of (uq ry) hd dd.mapOf ?_;rw [<- (rel.val k).isSome_eq,<- l];exact h _ (I.tok _)
  · subst ey;cases (show u=Value.ref b from ry);obtain ⟨z,hd,xs,rel,dd⟩:=qQ I.hok e;refine wpAny_notIn_heap (tupleKind_room_in1 hu) (pR I.hok eb) hd dd ?_;have q:=(rel.val k).isSome_eq;rw [Option.isSome_map] at q;rw [<- q,<- l];exact h _ (I.tok _)
theorem wI {h':Heap} {t':Nat} {ob:HO} (I:aS X pins σ H s) (mu:Fn (H a)) (hs:Heap.SameBut a s.heap h') (he:∃ q,h'.get? a=some q) (new:cm X.prog X.w (de H a ob) h' a ob) :
    aS X pins σ (de H a ob) { s with heap:=h',toks:=t' } :=
  I.write (x:=a) (e:=a) mu (.inl rfl) (fun b q hb z=>(hs.2 b hb).trans z) he new
theorem D1 {P:Program} {w:World} {H':Hp} {h':Heap} {kvs:List (dD×V)} {vs:List (dD×Value)} (z:kvs.length<=sizeLine) (hd:(a==sysModules)=false) (rel:KV kvs vs) (dd:h'.DictOf (dB P w) a vs) :
    cm P w H' h' a (.dK kvs):=⟨z,hd,vs,rel,dd⟩
theorem x6 {H':Hp} {Q:Unit->Shared->Prop} (hu:A.units+1 < cLine) (I:aS X pins σ H s) (g:uR H a y v H') (ry:bW y u) (rv:bW v r) (h:∀ s',aS X pins σ H' s'->Q () s') :
    wpAny (model X.prog X.w) A (setItem (.ref a) u r) Q E s:=by
  rcases g with ⟨kvs,k,e,ey,l,eH⟩ | ⟨kvs,k,b,e,ey,eb,l,eH⟩
  · subst ey eH;obtain ⟨z,hd,vs,rel,dd⟩:=FF I.hok e;have hz:vs.length<=sizeLine:=by rw [<- rel.length];exact z
    have hl:(mI kvs k v).length<=sizeLine:=by have:=om kvs k v;omega
    refine wpAny_setItem_pairs (hsz:=hz) (uq ry) dd fun h' dd' hs=>h _ ?_
    have he:∃ q,h'.get? a=some q:=let ⟨q,_,_,hq,_⟩:=dd';⟨q,hq⟩
    exact wI I (by rw [e];exact True.intro) hs he (D1 hl hd (rel.put k rv) dd')
  · subst ey eH;cases (show u=Value.ref b from ry);obtain ⟨z,hd,xs,rel,dd⟩:=FH I.hok e;have hz:xs.length<=sizeLine:=by rw [<- Paired.length rel];exact z
    have hl:(mI kvs k v).length<=sizeLine:=by have:=om kvs k v;omega
    refine wpAny_setItem_heap (hsz:=hz) (tupleKind_room_in1 hu) (pR I.hok eb) dd fun h' dd' hs=>h _ ?_
    obtain ⟨q,es,ep,hq,h2,h3,h4,_,h5⟩:=dd';refine wI I (by rw [e];exact True.intro) hs ⟨q,hq⟩ ⟨hl,hd,_,(rel.put k eb rv).keeps fun c ys ec=>?_,q,es,ep,hq,h2,h3,h4,h5⟩;rw [aB (FZ ec e (fun z=>nomatch z))];exact ec
end
section
variable {X:Cx} {pins:List (Addr×Obj)} {σ:St} {H:Hp} {s:Shared} {a:Addr} {kvs:List (dD×V)} {k:dD} {u:Value} {A:Around} {E:Value->Shared->Prop}
theorem FE {Q:Value->Shared->Prop} (I:aS X pins σ H s) (e:Rd H a (.dK kvs)) (h:∀ t s',aS X pins σ H s'->Q (.int kvs.length t) s'):wpAny (model X.prog X.w) A (call (.builtin "len") [.ref a]) Q E s:=by
  obtain ⟨z,hd,vs,rel,dd⟩:=oa I.hok e;refine call_len_dict hd dd (by rw [<- rel.length];rw [sizeLine_eq] at z;omega) ?_;rw [<- rel.length];exact h _ _ (I.tok _)
end
theorem t9 {X:Cx} {pins:List (Addr×Obj)} {σ:St} {H:Hp} {s:Shared} {a:Addr} {y:V} {o:Option V} (I:aS X pins σ H s) (g:o1 H a y o):s.TypeIs (.ref a) "dict" := by
  rcases g with ⟨kvs,k,e,_,_⟩ | ⟨kvs,k,b,e,_,_,_⟩
  · obtain ⟨_,_,vs,_,dd⟩:=oa I.hok e;exact dd.typeIs
  · obtain ⟨_,_,xs,_,dd⟩:=qQ I.hok e;exact dd.typeIs
noncomputable def Gu (td ty tv:TE):TS:=fun D σ H=>tv σ H fun v H1=>td σ H1 fun x H2=>ty σ H2 fun y H3=>∃ a H4,x=.ref a/\uR H3 a y v H4/\D.nx σ H4
section
variable {X:Cx} {o i e value:Expr} {pos pos' tpos:Pos} {td ty tv:TE}
theorem Cv (hu:X.A.units+1 < cLine) (ho:PE X o td) (hi:PE X i ty) (hv:PE X value tv) (hs:swapsWith value (some (.Subscript o i pos')) pos.line X.env=pure false) :
    PS X (.Assign [.Subscript o i pos'] value pos) (Gu td ty tv):=by
  intro pins s σ H D I h;refine wpAny_Assign_Subscript (dM (hv pins s σ H _ I h) fun r s1 ⟨v,H1,I1,rv,q1⟩=>dM (ho pins s1 σ H1 _ I1 q1) fun u s2 ⟨x,H2,I2,rx,q2⟩=>dM (hi pins s2 σ H2 _ I2 q2) fun iv s3 zq0=>?_) hs;obtain ⟨y,H3,I3,ry,a,H4,ex,g,q3⟩:=zq0;subst ex;obtain rfl:u=Value.ref a:=rx;exact x6 hu I3 g ry rv fun s4 I4=>⟨σ,H4,I4,q3⟩
end
theorem zE {P:Program} {w:World} {H:Hp} (h:Heap) (hb:sysModules < h.objs.size):cm P w H (h.push { cls:=.type "dict",data:=.dict #[] }) h.objs.size (.dK []) :=
  ⟨Nat.zero_le _,beq_eq_false_iff_ne.mpr (Ne.symm (Nat.ne_of_lt hb)),[],.nil,Heap.DictOf.new h⟩
noncomputable def E0:TE:=fun _ H Q=>∀ p,H p=none->Q (.ref p) (de H p (.dK []))
section
variable {X:Cx} {pos:Pos}
theorem Ay:PE X (.Dict [] [] pos) E0:=fun pins s σ H Q I h =>
  wpAny_Dict_empty ⟨.ref s.heap.objs.size,_,I.laid (a:=s.heap.objs.size) (o:=.dK []) (t':=s.toks) (fun _ _ q=>Heap.get?_push_of_some _ q) (Nat.le_refl _) (zE s.heap I.big),rfl,h _ (I.hok.fresh (Nat.le_refl _))⟩
end
noncomputable def IN (H:Hp) (a:Addr):Prop:=(∃ kvs,Rd H a (.dK kvs))\/∃ kvs,Rd H a (.dT kvs)
theorem D6 {X:Cx} {pins:List (Addr×Obj)} {σ:St} {H:Hp} {s:Shared} {a:Addr} (I:aS X pins σ H s) (d:IN H a) :
    s.TypeIs (.ref a) "dict" /\ (∀ b,Value.ref a=.ref b->∃ ob,s.heap.get? b=some ob/\ob.dict=none)/\(a==sysModules)=false:=by
  rcases d with ⟨kvs,e⟩ | ⟨kvs,e⟩
  · obtain ⟨_,hd,vs,_,dd⟩:=oa I.hok e;refine ⟨dd.typeIs,fun b q=>?_,hd⟩;cases q;obtain ⟨ob,_,_,h1,h2,_⟩:=dd;exact ⟨ob,h1,h2.2.1⟩
  · obtain ⟨_,hd,xs,_,dd⟩:=qQ I.hok e;refine ⟨dd.typeIs,fun b q=>?_,hd⟩;cases q;obtain ⟨ob,_,_,h1,h2,_⟩:=dd;exact ⟨ob,h1,h2.2.1⟩
end L2
set_option maxHeartbeats 4000000
namespace D2
open PySem PySem.Spec PyProof.Rows L2
theorem iw {α:Type} {n:Nat} {us:List α} (h:us.length=n+1):∃ a r,us=a::r/\r.length=n:=by
  cases us with
  | nil=>cases h
  | cons a r=>exact ⟨a,r,rfl,Nat.succ.inj h⟩
noncomputable def tI (base:Heap) (l:List Env) (e:Addr) (cls a0:Value) (h:Heap):Prop:=base.StaysIn h/\base.get? e=none/\h.FunFrames base l/\∃ fl,h.TracedAtW base e cls a0 fl
theorem tI.of {base h:Heap} {l:List Env} {e:Addr} {cls a0:Value} (x:Heap.FlyingW base l e cls a0 h):tI base l e cls a0 h:=⟨x.1,x.2.1,x.2.2.1,.none,x.2.2.2⟩
section
variable {M:Model} {A:Around} {E:Value->Shared->Prop} {s:Shared} {base:Heap} {l:List Env} {env:Env} {outer:List Env} {L e:Addr} {cls a0:Value} {Q:Unit->Shared->Prop}
theorem CW {h:Heap}:h.UpToSlots h:=fun b o hb _=>⟨o.slots,hb⟩
theorem uL (hfr:A.frames=some (env::outer)) (hf:env.frame=some L) (t:tI base (env::outer) e cls a0 s.heap)
    (hQ:∀ h',tI base (env::outer) e cls a0 h'->s.heap.UpToSlots h'->Q () { s with heap:=h' }):wpAny M A (noteFrame (.ref e) env) Q E s:=by
  have t':=t;obtain ⟨hkb,hen,hl,fl,oe,vs,T,oT,ts,he,⟨hcls,h0⟩,hd,h1,hnT,hTe,hT,hdT,h3⟩:=t;subst hcls;unfold noteFrame;simp only [hf];refine wpAny_bind (wpAny_field he hd h1 ?_);rw [if_pos (show (Value.ref T != Value.none)=true from by simp)];refine wpAny_bind (wpAny_field hT hdT h3 ?_);by_cases hfl:(fl==rawInt L)=true
  · rw [if_pos hfl];exact wpAny_pure (hQ s.heap t' CW)
  · rw [if_neg hfl];refine wpAny_bind (wpAny_setField hT hdT (Array.getElem?_eq_some_iff.mp h3).1 ?_);have other:∀ b,b≠T->(s.heap.update T (Obj.mapFields (·.setIfInBounds 3 Value.none))).get? b=s.heap.get? b:=fun b hb=>Heap.get?_update_other _ _ (Ne.symm hb)
    have noRecord:∀ b o,s.heap.get? b=some o->(∀ vs,o.data≠.fields vs)->b≠T:=fun b o hb hnf q=>by
      rw [q,hT] at hb;injection hb with hb;subst hb;exact hnf ts hdT
    refine wpAny_entryW hfr (hl.of_keeps fun b o hb hnf=>⟨o,(other b (noRecord b o hb hnf)).trans hb,rfl⟩) hf ((other e (Ne.symm hTe)).trans he)
      (fun b o hbo=>(other b fun q=>by rw [q,hnT] at hbo;cases hbo).trans (hkb b o hbo)) hen hd (Array.getElem?_eq_some_iff.mp h1).1 h0
      fun h' ⟨x1,x2,x3,x4⟩=>hQ h' ⟨x1,hen,x2,_,x3⟩ fun b o hb hnf=>x4 b o ((other b (noRecord b o hb hnf)).trans hb) hnf
theorem wa (f:Option Addr) (t:tI base l e cls a0 s.heap) (hQ:∀ h',tI base l e cls a0 h'->s.heap.UpToSlots h'->Q () { s with heap:=h' }):wpAny M A (setFlight (.ref e) f) Q E s:=by
  obtain ⟨hkb,hen,hl,fl,oe,vs,T,oT,ts,he,hcls,hd,h1,hnT,hTe,hT,hdT,h3⟩:=t;have hsz3:3 < ts.size:=(Array.getElem?_eq_some_iff.mp h3).1;have other:∀ b,b≠T->(s.heap.update T (Obj.mapFields (·.setIfInBounds 3 (f.elim Value.none fun f=>rawInt f)))).get? b=s.heap.get? b :=
    fun b hb=>Heap.get?_update_other _ _ (Ne.symm hb)
  have noRecord:∀ b o,s.heap.get? b=some o->(∀ vs,o.data≠.fields vs)->b≠T:=fun b o hb hnf q=>by
    rw [q,hT] at hb;injection hb with hb;subst hb;exact hnf ts hdT
  unfold setFlight;refine wpAny_bind (wpAny_field he hd h1 ?_);rw [if_pos (show (Value.ref T != Value.none)=true from by simp)];refine wpAny_setField hT hdT hsz3 (hQ _ ⟨fun b o hbo=>(other b fun q=>by rw [q,hnT] at hbo;cases hbo).trans (hkb b o hbo),hen,
    hl.of_keeps fun b o hb hnf=>⟨o,(other b (noRecord b o hb hnf)).trans hb,rfl⟩,(f.elim Value.none fun f=>rawInt f),?_⟩ fun b o hb hnf=>⟨o.slots,(other b (noRecord b o hb hnf)).trans hb⟩)
  exact ⟨oe,vs,T,_,_,(other e (Ne.symm hTe)).trans he,hcls,hd,h1,hnT,hTe,Heap.get?_update_self _ hT (Obj.isFreed_of_fields (Obj.data_mapFields hdT _)),Obj.data_mapFields hdT _,by simp [hsz3]⟩
theorem A1 (t:tI base l e cls a0 s.heap) (hQ:∀ h',Heap.FlyingW base l e cls a0 h'->s.heap.UpToSlots h'->Q () { s with heap:=h' }):wpAny M A (setFlight (.ref e) none) Q E s:=by
  obtain ⟨hkb,hen,hl,fl,ht⟩:=t;exact wpAny_setFlight_noneW hkb hl ht fun h' k1 k2 k3 k4=>hQ h' ⟨k1,hen,k2,k3⟩ fun b o hb hn=>⟨o.slots,k4 b o hb hn⟩
theorem yO (hfr:A.frames=some (env::outer)) (hf:env.frame=some L) (t:tI base (env::outer) e cls a0 s.heap)
    (hQ:∀ h',Heap.FlyingW base outer e cls a0 h'->s.heap.UpToSlots h'->Q () { s with heap:=h' }):wpAny M A (leaving env (.ref e)) Q E s:=by
  unfold leaving;refine wpAny_bind (uL hfr hf t fun h1 t1 u1=>?_);refine A1 (s:={ s with heap:=h1 }) t1 fun h2 t2 u2=>?_
  obtain ⟨k1,k2,⟨_,_,k3⟩,k4⟩:=t2;exact hQ h2 ⟨k1,k2,k3,k4⟩ (u1.trans u2)
theorem A0 {α:Type} {k:Value->Sem α} {Q:α->Shared->Prop} (t:tI base l e cls a0 s.heap) (hQ:∀ T,wpAny M A (k (.ref T)) Q E s):wpAny M A (field (.ref e) 1>>=k) Q E s:=by
  obtain ⟨hkb,hen,hl,fl,oe,vs,T,oT,ts,he,hcls,hd,h1,r⟩:=t;exact wpAny_bind (wpAny_field he hd h1 (hQ T))
theorem A2 {α:Type} {what:String} {Q:α->Shared->Prop} (t:tI base l e cls a0 s.heap) (hQ:∀ h',tI base l e cls a0 h'->s.heap.UpToSlots h'->E (.ref e) { s with heap:=h' }):wpAny M A (PySem.passOn what (.ref e) env:Sem α) Q E s:=by
  unfold PySem.passOn;refine A0 t fun T=>?_
  rw [if_neg (show ¬ ((Value.ref T==Value.none)=true) from by simp)];refine wpAny_bind (wa _ t fun h' t' u=>?_);exact wpAny_throw (hQ h' t' u)
theorem tI.first {h:Heap} (x:tI base l e cls a0 h):∃ oe vs,h.get? e=some oe/\oe.cls=cls/\oe.data=.fields vs/\vs[0]?=some a0 :=
  let ⟨_,_,_,_,oe,vs,_,_,_,he,hc,hd,_⟩:=x;⟨oe,vs,he,hc.1,hd,hc.2⟩
end
noncomputable abbrev St:=L2.St
noncomputable abbrev aS:=@L2.aS
noncomputable def gK:dD->PyData
  | .inl i=>.int i
  | .inr x=>.str x
mutual
noncomputable def Rp (H:Hp):PyData->V->Prop
  | .none,v=>v=.non
  | .bool b,v=>v=.bl b
  | .int i,v=>v=.int i
  | .str x,v=>v=.str x
  | .tuple ds,v=>∃ a vs,v=.ref a/\H a=some (.tup vs)/\bD H ds vs
  | .list ds,v=>∃ a o vs,v=.ref a/\H a=some (.frz o (.lst vs))/\bD H ds vs
  | .dict kvs,v=>(∃ a o ks,v=.ref a/\H a=some (.frz o (.dK ks))/\eP H kvs ks)\/∃ a o C dx fs,v=.ref a/\H a=some (.frz o (.ins C dx fs))/\wr H C fs kvs
noncomputable def bD (H:Hp):List PyData->List V->Prop
  | [],vs=>vs=[]
  | d::ds,vs=>∃ v r,vs=v::r/\Rp H d v/\bD H ds r
noncomputable def eP (H:Hp):List (PyData×PyData)->List (dD×V)->Prop
  | [],ks=>ks=[]
  | kd::kvs,ks=>∃ x v r,ks=(x,v)::r/\Bh H kd x v/\eP H kvs r
noncomputable def Bh (H:Hp):PyData×PyData->dD->V->Prop
  | (k,d),x,v=>k=gK x/\Rp H d v
noncomputable def wr (H:Hp) (C:Addr) (fs:List (Str×V)):List (PyData×PyData)->Prop
  | []=>False
  | kd::kvs=>kd=(.none,.int C)/\uO H kvs fs
noncomputable def uO (H:Hp):List (PyData×PyData)->List (Str×V)->Prop
  | [],fs=>fs=[]
  | kd::kvs,fs=>∃ x v r,fs=(x,v)::r/\Dd H kd x v/\uO H kvs r
noncomputable def Dd (H:Hp):PyData×PyData->Str->V->Prop
  | (k,d),x,v=>k=.str x/\Rp H d v
end
noncomputable def gQ:List (PyData×PyData)->Bool
  | (.none,_)::_=>true
  | _=>false
noncomputable def Kp (H H':Hp):Prop:=(∀ b xs,H b=some (.tup xs)->H' b=some (.tup xs))/\∀ b o u,H b=some (.frz o u)->H' b=some (.frz o u)
theorem Kp.trans {H H1 H2:Hp} (a:Kp H H1) (b:Kp H1 H2):Kp H H2:=⟨fun c xs h=>b.1 c xs (a.1 c xs h),fun c o u h=>b.2 c o u (a.2 c o u h)⟩
theorem Kp.of {H H':Hp} (s:aM H H'):Kp H H':=⟨fun b xs h=>s b _ h,fun b o u h=>s b _ h⟩
mutual
theorem Rp.kp {H H':Hp} (k:Kp H H'):∀ (d:PyData) (v:V),Rp H d v->Rp H' d v
  | .none,v,h=>by simpa only [Rp] using h
  | .bool b,v,h=>by simpa only [Rp] using h
  | .int i,v,h=>by simpa only [Rp] using h
  | .str x,v,h=>by simpa only [Rp] using h
  | .tuple ds,v,h=>by
    simp only [Rp] at h ⊢;obtain ⟨a,vs,e,ha,r⟩:=h;exact ⟨a,vs,e,k.1 _ _ ha,bD.kp k ds vs r⟩
  | .list ds,v,h=>by
    simp only [Rp] at h ⊢;obtain ⟨a,o,vs,e,ha,r⟩:=h;exact ⟨a,o,vs,e,k.2 _ _ _ ha,bD.kp k ds vs r⟩
  | .dict kvs,v,h=>by
    simp only [Rp] at h ⊢;rcases h with ⟨a,o,ks,e,ha,r⟩ | ⟨a,o,C,dx,fs,e,ha,r⟩
    · exact .inl ⟨a,o,ks,e,k.2 _ _ _ ha,eP.kp k kvs ks r⟩
    · exact .inr ⟨a,o,C,dx,fs,e,k.2 _ _ _ ha,wr.kp k C fs kvs r⟩
theorem bD.kp {H H':Hp} (k:Kp H H'):∀ (ds:List PyData) (vs:List V),bD H ds vs->bD H' ds vs
  | [],vs,h=>by simpa only [bD] using h
  | d::ds,vs,h=>by
    simp only [bD] at h ⊢;obtain ⟨v,r,e,h1,h2⟩:=h;exact ⟨v,r,e,Rp.kp k d v h1,bD.kp k ds r h2⟩
theorem eP.kp {H H':Hp} (k:Kp H H'):∀ (kvs:List (PyData×PyData)) (ks:List (dD×V)),eP H kvs ks->eP H' kvs ks
  | [],ks,h=>by simpa only [eP] using h
  | kd::kvs,ks,h=>by
    simp only [eP] at h ⊢;obtain ⟨x,v,r,e,h1,h2⟩:=h;exact ⟨x,v,r,e,Bh.kp k kd x v h1,eP.kp k kvs r h2⟩
theorem Bh.kp {H H':Hp} (k:Kp H H'):∀ (kd:PyData×PyData) (x:dD) (v:V),Bh H kd x v->Bh H' kd x v
  | (c,d),x,v,h=>by
    simp only [Bh] at h ⊢;exact ⟨h.1,Rp.kp k d v h.2⟩
theorem wr.kp {H H':Hp} (k:Kp H H') (C:Addr) (fs:List (Str×V)):∀ (kvs:List (PyData×PyData)),wr H C fs kvs->wr H' C fs kvs
  | [],h=>by simpa only [wr] using h
  | kd::kvs,h=>by
    simp only [wr] at h ⊢;exact ⟨h.1,uO.kp k kvs fs h.2⟩
theorem uO.kp {H H':Hp} (k:Kp H H'):∀ (kvs:List (PyData×PyData)) (fs:List (Str×V)),uO H kvs fs->uO H' kvs fs
  | [],fs,h=>by simpa only [uO] using h
  | kd::kvs,fs,h=>by
    simp only [uO] at h ⊢;obtain ⟨x,v,r,e,h1,h2⟩:=h;exact ⟨x,v,r,e,Dd.kp k kd x v h1,uO.kp k kvs r h2⟩
theorem Dd.kp {H H':Hp} (k:Kp H H'):∀ (kd:PyData×PyData) (x:Str) (v:V),Dd H kd x v->Dd H' kd x v
  | (c,d),x,v,h=>by
    simp only [Dd] at h ⊢;exact ⟨h.1,Rp.kp k d v h.2⟩
end
theorem Rp.mono {H H':Hp} {d:PyData} {v:V} (h:Rp H d v) (s:aM H H'):Rp H' d v:=Rp.kp (Kp.of s) d v h
theorem bD.mono {H H':Hp} {ds:List PyData} {vs:List V} (h:bD H ds vs) (s:aM H H'):bD H' ds vs:=bD.kp (Kp.of s) ds vs h
noncomputable def jl (H:Hp):PyData->V->Prop
  | .list ds,v=>∃ a vs,v=.ref a/\H a=some (.lst vs)/\bD H ds vs
  | .dict kvs,v=>∃ a ks,v=.ref a/\H a=some (.dK ks)/\eP H kvs ks
  | _,_=>False
theorem jl.mono {H H':Hp} {d:PyData} {v:V} (h:jl H d v) (s:aM H H'):jl H' d v:=by
  cases d <;> simp only [jl] at h ⊢
  · obtain ⟨a,vs,e,ha,r⟩:=h;exact ⟨a,vs,e,s _ _ ha,bD.mono r s⟩
  · obtain ⟨a,vs,e,ha,r⟩:=h;exact ⟨a,vs,e,s _ _ ha,eP.kp (Kp.of s) _ _ r⟩
noncomputable def iY (H:Hp) (d:PyData) (v:V):Prop:=Rp H d v\/jl H d v
theorem iY.mono {H H':Hp} {d:PyData} {v:V} (h:iY H d v) (s:aM H H'):iY H' d v:=h.elim (fun h=>.inl (h.mono s)) fun h=>.inr (h.mono s)
noncomputable def Fc (H H':Hp) (d:PyData) (v:V):Prop:=jl H' d v/\∃ a,v=.ref a/\H a=none
inductive aT where
  | non
  | val (d:PyData)
  | own (d:PyData)
  | exc (p:Addr)
noncomputable abbrev aW:=List aT
noncomputable def jS (H:Hp):aT->Option V->Prop
  | .non,_=>True
  | .val d,o=>∃ v,o=some v/\Rp H d v
  | .own d,o=>∃ v,o=some v/\jl H d v
  | .exc p,o=>o=some (.ref p)
noncomputable def Sl (H:Hp) (σ:St) (ρ:aW):Prop:=σ.length=ρ.length/\∀ (i:Nat) (c:aT) (o:Option V),ρ[i]?=some c->σ[i]?=some o->jS H c o
theorem jS.mono {H H':Hp} {c:aT} {o:Option V} (h:jS H c o) (s:aM H H'):jS H' c o:=by
  cases c <;> simp only [jS] at h ⊢
  · obtain ⟨v,e,h⟩:=h;exact ⟨v,e,h.mono s⟩
  · obtain ⟨v,e,h⟩:=h;exact ⟨v,e,h.mono s⟩
  · exact h
theorem Sl.mono {H H':Hp} {σ:St} {ρ:aW} (h:Sl H σ ρ) (s:aM H H'):Sl H' σ ρ:=⟨h.1,fun i c o h1 h2=>(h.2 i c o h1 h2).mono s⟩
inductive R (α:Type) where
  | ok (a:α)
  | ex (c:Str)
  | no
noncomputable def R.bind {α β:Type}:R α->(α->R β)->R β
  | .ok a,f=>f a
  | .ex c,_=>.ex c
  | .no,_=>.no
noncomputable instance:Monad R where
  pure:=.ok
  bind:=R.bind
@[simp] theorem R.ok_bind {α β:Type} (a:α) (f:α->R β):(R.ok a>>=f)=f a:=rfl
@[simp] theorem R.ex_bind {α β:Type} (c:Str) (f:α->R β):((R.ex c:R α)>>=f)=.ex c:=rfl
@[simp] theorem R.no_bind {α β:Type} (f:α->R β):((R.no:R α)>>=f)=.no:=rfl
@[simp] theorem R.pure_ok {α:Type} (a:α):(pure a:R α)=.ok a:=rfl
structure n5 (P:Program) (w:World) (outer:List Env) (H:Hp) (s:Shared) (C:Addr) (H':Hp) (e:Value) (s':Shared):Prop where
  os:s'.os=s.os
  bare:AllBare s'.gens
  same:aM H H'
  ex:∃ (p:Addr) (a0:Value) (B:Heap),e=.ref p/\Heap.FlyingW B outer p (.ref C) a0 s'.heap/\iO P w H' B/\H' p=none/\∀ b o,s.heap.get? b=some o->H b=none->b∉lS outer->B.get? b=some o/\H' b=none
  slot:∀ b o,s.heap.get? b=some o->H b=none->b∈lS outer->(∃ sl,s'.heap.get? b=some { o with slots:=sl })/\H' b=none
structure rH (P:Program) (w:World) (outer:List Env) (H:Hp) (s:Shared) (C:Addr) (H':Hp) (e:Value) (s':Shared):Prop where
  os:s'.os=s.os
  bare:AllBare s'.gens
  same:aM H H'
  ex:∃ (p:Addr) (a0:Value) (B:Heap),e=.ref p/\tI B outer p (.ref C) a0 s'.heap/\iO P w H' B/\H' p=none/\∀ b o,s.heap.get? b=some o->H b=none->b∉lS outer->B.get? b=some o/\H' b=none
  slot:∀ b o,s.heap.get? b=some o->H b=none->b∈lS outer->(∃ sl,s'.heap.get? b=some { o with slots:=sl })/\H' b=none
theorem n5.hld {P:Program} {w:World} {outer:List Env} {H:Hp} {s:Shared} {C:Addr} {H':Hp} {e:Value} {s':Shared} (f:n5 P w outer H s C H' e s'):rH P w outer H s C H' e s' :=
  ⟨f.os,f.bare,f.same,let ⟨p,a0,B,h1,h2,h3⟩:=f.ex;⟨p,a0,B,h1,tI.of h2,h3⟩,f.slot⟩
noncomputable def cS (P:Program) (w:World) (mg:Str->Option Value):yT:=fun outer H s E e s'=>∃ n C H',mg n=some (.ref C)/\n5 P w outer H s C H' e s'/\E (.str n 0) none H'
noncomputable def EX (X:Cx):XK:=fun v _ H'=>∀ (n:Str) (C:Addr),v=.str n 0->X.mg n=some (.ref C)->∀ (pins:List (Addr×Obj)) (σ:St) (H:Hp) (s:Shared) (e:Value) (s':Shared),aS X pins σ H s->n5 X.prog X.w X.stack H s C H' e s'->X.xe e s'
theorem xg {X:Cx}:o7 (cS X.prog X.w X.mg) X (EX X):=fun pins σ H s e s' I ⟨n,C,H',hm,f,q⟩=>q n C rfl hm pins σ H s e s' I f
noncomputable def Xw (X:Cx) (c:Str) (H:Hp):Prop:=∀ H1,aM H H1->∀ (C:Addr),X.mg c=some (.ref C)->∀ (pins:List (Addr×Obj)) (σ:St) (Hc:Hp) (s:Shared) (e:Value) (s':Shared),aS X pins σ Hc s->rH X.prog X.w X.stack Hc s C H1 e s'->X.xe e s'
theorem Xw.mono {X:Cx} {c:Str} {H H':Hp} (h:Xw X c H) (s:aM H H'):Xw X c H':=fun H1 s1=>h H1 (s.trans s1)
theorem Xw.ex {X:Cx} {c:Str} {H:Hp} (h:Xw X c H):∀ H1,aM H H1->EX X (.str c 0) none H1:=fun H1 s1 n C en hm pins σ Hc s e s' I f=>by
  have en':c=n:=by injection en
  subst en';exact h H1 s1 C hm pins σ Hc s e s' I f.hld
noncomputable def Fu (X:Cx) (c:Str) (Fm:Hp):Prop:=∀ C,X.mg c=some (.ref C)->∀ (pins:List (Addr×Obj)) (σ:St) (H:Hp) (s:Shared),aM Fm H->aS X pins σ H s->∀ (h':Heap) (p:Addr) (vs:List Value),Heap.MadeExcOf s.heap h' p (.ref C) vs->X.xe (.ref p) { s with heap:=h' }
theorem Fu.mono {X:Cx} {c:Str} {H H':Hp} (h:Fu X c H) (s:aM H H'):Fu X c H':=fun C hm pins σ H1 s1 e=>h C hm pins σ H1 s1 (s.trans e)
noncomputable def vV (X:Cx) (P:Hp->Hp->PyData->V->Prop) (r:R PyData) (H:Hp) (Q:VK):Prop :=
  match r with
  | .ok d=>∀ v H',aM H H'->P H H' d v->Q v H'
  | .ex c=>Xw X c H
  | .no=>False
noncomputable abbrev ia:Hp->Hp->PyData->V->Prop:=fun _ H' d v=>Rp H' d v
noncomputable abbrev u4:Hp->Hp->PyData->V->Prop:=fun _ H' d v=>iY H' d v
noncomputable abbrev G3:Hp->Hp->PyData->V->Prop:=fun H H' d v=>Rp H' d v\/Fc H H' d v
noncomputable abbrev Fe:=aW->R PyData
noncomputable def jQ (X:Cx) (P:Hp->Hp->PyData->V->Prop) (f:Fe):TE:=fun σ H Q=>∃ ρ,Sl H σ ρ/\vV X P (f ρ) H Q
noncomputable def cU (X:Cx) (e:Expr) (f:Fe):Prop:=PE X e (jQ X ia f)
structure Z.cU (X:Cx) (e:Expr) (f:Fe):Prop where
  un:D2.cU X e f
noncomputable def eo (X:Cx) (e:Expr) (f:Fe):Prop:=PE X e (jQ X u4 f)
structure Z.eo (X:Cx) (e:Expr) (f:Fe):Prop where
  un:D2.eo X e f
noncomputable def Bo (X:Cx) (e:Expr) (f:Fe):Prop:=PE X e (jQ X G3 f)
structure Z.Bo (X:Cx) (e:Expr) (f:Fe):Prop where
  un:D2.Bo X e f
noncomputable def qk (X:Cx) (e:Expr) (f:Fe):Prop:=PE X e (jQ X Fc f)
structure Z.qk (X:Cx) (e:Expr) (f:Fe):Prop where
  un:D2.qk X e f
noncomputable def RA (I:Hp->PyData->V->Prop) (H:Hp):List PyData->List V->Prop
  | [],vs=>vs=[]
  | d::ds,vs=>∃ v r,vs=v::r/\I H d v/\RA I H ds r
theorem nT {H:Hp}:∀ {ds:List PyData} {vs:List V},RA Rp H ds vs<->bD H ds vs
  | [],vs=>by simp only [RA,bD]
  | d::ds,vs=>by simp only [RA,bD,nT (ds:=ds)]
noncomputable def AJ (X:Cx) (I:Hp->PyData->V->Prop) (f:aW->R (List PyData)):TA:=fun σ H Q=>∃ ρ,Sl H σ ρ/\match f ρ with
  | .ok ds=>∀ vs H',aM H H'->RA I H' ds vs->Q vs H'
  | .ex c=>Xw X c H
  | .no=>False
noncomputable def tj (X:Cx) (es:List Expr) (f:aW->R (List PyData)):Prop:=PA X es (AJ X Rp f)
structure Z.tj (X:Cx) (es:List Expr) (f:aW->R (List PyData)):Prop where
  un:D2.tj X es f
noncomputable def DF (X:Cx) (es:List Expr) (f:aW->R (List PyData)):Prop:=PA X es (AJ X iY f)
noncomputable def CC (X:Cx) (f:aW->R Bool):TT:=fun σ H Q=>∃ ρ,Sl H σ ρ/\match f ρ with
  | .ok b=>∀ H',aM H H'->Q b H'
  | .ex c=>Xw X c H
  | .no=>False
noncomputable def oI (X:Cx) (e:Expr) (f:aW->R Bool):Prop:=PT X e (CC X f)
structure Z.oI (X:Cx) (e:Expr) (f:aW->R Bool):Prop where
  un:D2.oI X e f
noncomputable def yV (X:Cx) (e:Expr) (f:aW->R Bool):Prop:=PW X e (CC X f)
structure Z.yV (X:Cx) (e:Expr) (f:aW->R Bool):Prop where
  un:D2.yV X e f
theorem PE.imp {X:Cx} {e:Expr} {t t':TE} (h:PE X e t) (i:∀ σ H Q,t' σ H Q->t σ H Q):PE X e t':=fun pins s σ H Q I q=>h pins s σ H Q I (i σ H Q q)
theorem PT.imp {X:Cx} {e:Expr} {t t':TT} (h:PT X e t) (i:∀ σ H Q,t' σ H Q->t σ H Q):PT X e t':=fun pins s σ H Q I q=>h pins s σ H Q I (i σ H Q q)
theorem PW.imp {X:Cx} {e:Expr} {t t':TT} (h:PW X e t) (i:∀ σ H Q,t' σ H Q->t σ H Q):PW X e t':=fun wh pins s σ H Q I q=>h wh pins s σ H Q I (i σ H Q q)
theorem PA.imp {X:Cx} {e:List Expr} {t t':TA} (h:PA X e t) (i:∀ σ H Q,t' σ H Q->t σ H Q):PA X e t':=fun pos pins s σ H Q I q=>h pos pins s σ H Q I (i σ H Q q)
theorem jQ.post {X:Cx} {P:Hp->Hp->PyData->V->Prop} {f:Fe} {σ:St} {H:Hp} {Q Q':VK} (h:jQ X P f σ H Q) (i:∀ v H',Q v H'->Q' v H'):jQ X P f σ H Q':=by
  obtain ⟨ρ,sl,q⟩:=h;refine ⟨ρ,sl,?_⟩;cases e:f ρ with
  | ok d=>rw [e] at q;exact fun v H' s p=>i _ _ (q v H' s p)
  | ex c=>rw [e] at q;exact q
  | no=>rw [e] at q;exact q
theorem CC.post {X:Cx} {f:aW->R Bool} {σ:St} {H:Hp} {Q Q':Bool->Hp->Prop} (h:CC X f σ H Q) (i:∀ b H',Q b H'->Q' b H'):CC X f σ H Q':=by
  obtain ⟨ρ,sl,q⟩:=h;refine ⟨ρ,sl,?_⟩;cases e:f ρ with
  | ok d=>rw [e] at q;exact fun H' s=>i _ _ (q H' s)
  | ex c=>rw [e] at q;exact q
  | no=>rw [e] at q;exact q
theorem AJ.post {X:Cx} {I:Hp->PyData->V->Prop} {f:aW->R (List PyData)} {σ:St} {H:Hp} {Q Q':List V->Hp->Prop} (h:AJ X I f σ H Q) (i:∀ vs H',Q vs H'->Q' vs H'):AJ X I f σ H Q':=by
  obtain ⟨ρ,sl,q⟩:=h;refine ⟨ρ,sl,?_⟩;cases e:f ρ with
  | ok d=>rw [e] at q;exact fun vs H' s p=>i _ _ (q vs H' s p)
  | ex c=>rw [e] at q;exact q
  | no=>rw [e] at q;exact q
theorem jQ.weaken {X:Cx} {P P':Hp->Hp->PyData->V->Prop} {f:Fe} (h:∀ H H' d v,P H H' d v->P' H H' d v) (σ:St) (H:Hp) (Q:VK) (q:jQ X P' f σ H Q):jQ X P f σ H Q:=by
  obtain ⟨ρ,sl,q⟩:=q;refine ⟨ρ,sl,?_⟩;cases e:f ρ with
  | ok d=>rw [e] at q;exact fun v H' s p=>q v H' s (h _ _ _ _ p)
  | ex c=>rw [e] at q;exact q
  | no=>rw [e] at q;exact q
section
variable {X:Cx} {e:Expr} {f:Fe}
theorem cU.b (h:cU X e f):eo X e f:=PE.imp h (jQ.weaken fun _ _ _ _ p=>Or.inl p)
theorem ad (h:Z.cU X e f):Z.eo X e f :=
  ⟨D2.cU.b h.un⟩
theorem qk.b (h:qk X e f):eo X e f:=PE.imp h (jQ.weaken fun _ _ _ _ p=>Or.inr p.1)
theorem cA (h:Z.qk X e f):Z.eo X e f :=
  ⟨D2.qk.b h.un⟩
theorem qk.toF (h:qk X e f):Bo X e f:=PE.imp h (jQ.weaken fun _ _ _ _ p=>Or.inr p)
end
section
variable {X:Cx} {pins:List (Addr×Obj)} {σ:St} {H:Hp} {s:Shared} {a:Addr} {u:HO}
theorem ik (I:aS X pins σ H s) (h:H a=some u) (hm:(∃ xs,u=.lst xs)\/∃ ks,u=.dK ks):∃ o,aS X pins σ (de H a (.frz o u)) s:=by
  have ob:=I.hok a u h;have hg:∃ o,s.heap.get? a=some o:=by
    rcases hm with ⟨xs,rfl⟩ | ⟨ks,rfl⟩
    · obtain ⟨_,_,_,_,e⟩:=ob;exact ⟨_,e⟩
    · obtain ⟨_,_,_,_,o,_,_,e,_⟩:=ob;exact ⟨_,e⟩
  obtain ⟨o,hg⟩:=hg;have nt:∀ b xs,H b=some (.tup xs)->b≠a:=fun b xs q z=>by subst z;rw [h] at q;rcases hm with ⟨_,rfl⟩ | ⟨_,rfl⟩ <;> cases q
  have nf:∀ b o' u',H b=some (.frz o' u')->b≠a:=fun b o' u' q z=>by subst z;rw [h] at q;rcases hm with ⟨_,rfl⟩ | ⟨_,rfl⟩ <;> cases q
  have nb:∀ b ps,H b=some (.tbl ps)->b≠a:=fun b ps q z=>by subst z;rw [h] at q;rcases hm with ⟨_,rfl⟩ | ⟨_,rfl⟩ <;> cases q
  have nw:∀ b y,H b=some (.own y)->b≠a:=fun b y q z=>by subst z;rw [h] at q;rcases hm with ⟨_,rfl⟩ | ⟨_,rfl⟩ <;> cases q
  have nn:∀ b,H b=none->b≠a:=fun b q z=>by subst z;rw [h] at q;cases q
  have st:∀ b x,cm X.prog X.w H s.heap b x->cm X.prog X.w (de H a (.frz o u)) s.heap b x:=fun b x q =>
    q.stay (fun c v _ e=>e) (fun c e=>by rw [aB (nw _ _ e)];exact e) fun c xs e=>by rw [aB (nt _ _ e)];exact e
  refine ⟨o,⟨I.ok,I.os,I.bare,⟨I.base.keep,I.base.slot,fun b ob' e n hx=>?_,I.base.there,fun b xs e=>?_,fun b ob' v e=>?_,fun b ps e=>?_⟩,I.loc,I.cell,?_,fun x c e=>?_,fun p hp=>?_,fun b x e=>?_,I.len⟩⟩
  · have:=I.base.free b ob' e n hx;rw [aB (nn _ this)];exact this
  · have:=I.base.tups b xs e;rw [aB (nt _ _ this)];exact this
  · have:=I.base.frzs b ob' v e;rw [aB (nf _ _ _ this)];exact this
  · obtain ⟨m,q⟩:=I.base.tbls b ps e;exact ⟨m,by rw [aB (nb _ _ q)];exact q⟩
  · rw [aB (nn _ I.free)];exact I.free
  · rw [aB (nn _ (I.freeC x c e))];exact I.freeC x c e
  · obtain ⟨p1,p2,p3⟩:=I.pin p hp;exact ⟨p1,by rw [aB (nn _ p2)];exact p2,p3⟩
  · by_cases hb:b=a
    · subst hb;rw [bq] at e;cases e;exact ⟨hg,st b u ob⟩
    · rw [aB hb] at e;exact st b x (I.hok b x e)
theorem gL {o':HO} (h:H a=some u) (hm:(∃ xs,u=.lst xs)\/∃ ks,u=.dK ks):Kp H (de H a o'):=by
  refine ⟨fun b xs e=>?_,fun b o v e=>?_⟩
  · rw [aB];exact e;rintro rfl;rw [h] at e;rcases hm with ⟨_,rfl⟩ | ⟨_,rfl⟩ <;> cases e
  · rw [aB];exact e;rintro rfl;rw [h] at e;rcases hm with ⟨_,rfl⟩ | ⟨_,rfl⟩ <;> cases e
theorem D4 {H0:Hp} {d:PyData} {v:V} (I:aS X pins σ H s) (hs:aM H0 H) (n:Fc H0 H d v):∃ H',aS X pins σ H' s/\aM H0 H'/\Rp H' d v:=by
  obtain ⟨n,a,rfl,h0⟩:=n;have go:∀ u:HO,H a=some u->((∃ xs,u=.lst xs)\/∃ ks,u=.dK ks)->∃ o,aS X pins σ (de H a (.frz o u)) s/\aM H0 (de H a (.frz o u))/\Kp H (de H a (.frz o u)):=fun u hu hm=>by
    obtain ⟨o,J⟩:=ik I hu hm;refine ⟨o,J,fun b x e=>?_,gL hu hm⟩;rw [aB (bg e h0)];exact hs b x e
  cases d <;> simp only [jl] at n
  · obtain ⟨a',vs,e,ha,r⟩:=n;cases e;obtain ⟨o,J,S,K⟩:=go _ ha (.inl ⟨_,rfl⟩);refine ⟨_,J,S,?_⟩;simp only [Rp];exact ⟨a,o,vs,rfl,bq,bD.kp K _ _ r⟩
  · obtain ⟨a',vs,e,ha,r⟩:=n;cases e;obtain ⟨o,J,S,K⟩:=go _ ha (.inr ⟨_,rfl⟩);refine ⟨_,J,S,?_⟩;simp only [Rp];exact .inl ⟨a,o,vs,rfl,bq,eP.kp K _ _ r⟩
end
theorem Bo.e {X:Cx} {e:Expr} {f:Fe} (h:Bo X e f):cU X e f:=by
  intro pins s σ H Q I q;obtain ⟨ρ,sl,q⟩:=q;cases ef:f ρ with
  | ok d =>
    rw [ef] at q;refine dM (h pins s σ H (fun v H'=>aM H H'/\G3 H H' d v) I ⟨ρ,sl,by rw [ef];exact fun v H' hs p=>⟨hs,p⟩⟩) fun u s' ⟨v,H',I',r,hs,p⟩=>?_
    rcases p with p | p
    · exact ⟨v,H',I',r,q v H' hs p⟩
    · obtain ⟨H2,I2,S2,p2⟩:=D4 I' hs p;exact ⟨v,H2,I2,r,q v H2 S2 p2⟩
  | ex c=>rw [ef] at q;exact dM (h pins s σ H (fun _ _=>False) I ⟨ρ,sl,by rw [ef];exact q⟩) fun u s' ⟨v,H',I',r,z⟩=>z.elim
  | no=>rw [ef] at q;exact q.elim
theorem G8 {X:Cx} {e:Expr} {f:Fe} (h:Z.Bo X e f):Z.cU X e f :=
  ⟨D2.Bo.e h.un⟩
theorem qk.e {X:Cx} {e:Expr} {f:Fe} (h:qk X e f):cU X e f:=(qk.toF h).e
theorem jn {X:Cx} {e:Expr} {f:Fe} (h:Z.qk X e f):Z.cU X e f :=
  ⟨D2.qk.e h.un⟩
structure Bu {β:Type} (X:Cx) (T:R β->Hp->Prop):Prop where
  mono:∀ r H H',T r H->aM H H'->T r H'
  ex:∀ c H,T (.ex c) H->Xw X c H
  no:∀ H,¬ T .no H
noncomputable def Dn (P:Hp->Hp->PyData->V->Prop):Prop:=∀ H H1 H' d v,aM H H1->P H1 H' d v->P H H' d v
theorem fZ:Dn ia:=fun _ _ _ _ _ _ p=>p
theorem BI:Dn Fc:=fun _ _ _ _ _ s p=>⟨p.1,let ⟨a,e,h⟩:=p.2;⟨a,e,s.free h⟩⟩
theorem BH:Dn G3:=fun _ _ _ _ _ s p=>p.elim .inl fun p=>.inr (BI _ _ _ _ _ s p)
section
variable {X:Cx} {σ:St} {H:Hp}
theorem gc {P:Hp->Hp->PyData->V->Prop} (hP:Dn P) (Q:VK):Bu X (fun r H=>vV X P r H Q) where
  mono:=fun r H H' h s=>by
    cases r with
    | ok d=>exact fun v H2 s2 p=>h v H2 (s.trans s2) (hP _ _ _ _ _ s p)
    | ex c=>exact Xw.mono h s
    | no=>exact h
  ex:=fun c H h=>h
  no:=fun H h=>h
theorem xr (Q:Bool->Hp->Prop):Bu X (fun (r:R Bool) H=>match r with | .ok b=>∀ H',aM H H'->Q b H' | .ex c=>Xw X c H | .no=>False) where
  mono:=fun r H H' h s=>by
    cases r with
    | ok d=>exact fun H2 s2=>h H2 (s.trans s2)
    | ex c=>exact Xw.mono h s
    | no=>exact h
  ex:=fun c H h=>h
  no:=fun H h=>h
theorem DE (I:Hp->PyData->V->Prop) (Q:List V->Hp->Prop):Bu X (fun (r:R (List PyData)) H=>match r with | .ok ds=>∀ vs H',aM H H'->RA I H' ds vs->Q vs H' | .ex c=>Xw X c H | .no=>False) where
  mono:=fun r H H' h s=>by
    cases r with
    | ok d=>exact fun vs H2 s2=>h vs H2 (s.trans s2)
    | ex c=>exact Xw.mono h s
    | no=>exact h
  ex:=fun c H h=>h
  no:=fun H h=>h
theorem fA {β:Type} {T:R β->Hp->Prop} (t:Bu X T) {P:Hp->Hp->PyData->V->Prop} {f:Fe} {k:aW->PyData->R β} (h:∃ ρ,Sl H σ ρ/\T (f ρ>>=k ρ) H) :
    jQ X P f σ H (fun v H1=>∃ ρ d,Sl H1 σ ρ/\aM H H1/\P H H1 d v/\T (k ρ d) H1):=by
  obtain ⟨ρ,sl,q⟩:=h;refine ⟨ρ,sl,?_⟩;cases e:f ρ with
  | ok d=>rw [e] at q;exact fun v H1 s p=>⟨ρ,d,sl.mono s,s,p,t.mono _ _ _ q s⟩
  | ex c=>rw [e] at q;exact t.ex _ _ q
  | no=>rw [e] at q;exact (t.no _ q).elim
theorem r9 {β:Type} {T:R β->Hp->Prop} (t:Bu X T) {f:aW->R Bool} {k:aW->Bool->R β} (h:∃ ρ,Sl H σ ρ/\T (f ρ>>=k ρ) H) :
    CC X f σ H (fun b H1=>∃ ρ,Sl H1 σ ρ/\aM H H1/\T (k ρ b) H1):=by
  obtain ⟨ρ,sl,q⟩:=h;refine ⟨ρ,sl,?_⟩;cases e:f ρ with
  | ok d=>rw [e] at q;exact fun H1 s=>⟨ρ,sl.mono s,s,t.mono _ _ _ q s⟩
  | ex c=>rw [e] at q;exact t.ex _ _ q
  | no=>rw [e] at q;exact (t.no _ q).elim
theorem pA {β:Type} {T:R β->Hp->Prop} (t:Bu X T) {I:Hp->PyData->V->Prop} {f:aW->R (List PyData)} {k:aW->List PyData->R β} (h:∃ ρ,Sl H σ ρ/\T (f ρ>>=k ρ) H) :
    AJ X I f σ H (fun vs H1=>∃ ρ ds,Sl H1 σ ρ/\aM H H1/\RA I H1 ds vs/\T (k ρ ds) H1):=by
  obtain ⟨ρ,sl,q⟩:=h;refine ⟨ρ,sl,?_⟩;cases e:f ρ with
  | ok d=>rw [e] at q;exact fun vs H1 s p=>⟨ρ,d,sl.mono s,s,p,t.mono _ _ _ q s⟩
  | ex c=>rw [e] at q;exact t.ex _ _ q
  | no=>rw [e] at q;exact (t.no _ q).elim
end
noncomputable def af (i:Nat):Fe:=fun ρ=>match ρ[i]? with
  | some (.val d)=>.ok d
  | _=>.no
noncomputable def eG (i:Nat):Fe:=fun ρ=>match ρ[i]? with
  | some (.val d)=>.ok d
  | some (.own d)=>.ok d
  | _=>.no
noncomputable def eC (d:PyData):Fe:=fun _=>.ok d
structure Tb (X:Cx) (nl:Nat) (G:List Str):Prop where
  hu:X.A.units+64 < cLine
  calm:X.calm=true
  nd:X.N.Nodup
  vis:∀ x∈X.N,DM X.env.scope x/\(x==("__debug__" : Str))=false/\(x==("__classdict__" : Str))=false
  loc:∀ x∈X.N.take nl,Dc X.env.scope x/\(X.fn x=true\/X.env.scope.names.lookup x=some .local)
  gl:∀ x∈G,Gl X x/\(x==("__debug__" : Str))=false/\x≠("__name__" : Str)
section
variable {X:Cx} {nl:Nat} {G:List Str} {x:Str} {pos:Pos}
theorem Sl.at {H:Hp} {σ:St} {ρ:aW} {i:Nat} {c:aT} (h:Sl H σ ρ) (e:ρ[i]?=some c):∃ o,σ[i]?=some o/\jS H c o:=by
  have hi:i < σ.length:=by rw [h.1];exact (List.getElem?_eq_some_iff.mp e).1
  exact ⟨σ[i],List.getElem?_eq_getElem hi,h.2 i c _ e (List.getElem?_eq_getElem hi)⟩
theorem aa (T:Tb X nl G) (i:Nat) (hN:X.N[i]?=some x):Z.cU X (.Name x pos) (af i):=⟨by
  have hm:=T.vis x (List.mem_of_getElem? hN);refine PE.imp (iU hN hm.1 hm.2.1 hm.2.2) fun σ H Q zq0=>?_
  obtain ⟨ρ,sl,q⟩:=zq0;unfold af at q;split at q
  · rename_i d e;obtain ⟨o,h1,v,rfl,h2⟩:=sl.at e;exact ⟨v,h1,q v H (aM.refl H) h2⟩
  · exact q.elim⟩
theorem dt (T:Tb X nl G) (i:Nat) (hN:X.N[i]?=some x):Z.eo X (.Name x pos) (eG i):=⟨by
  have hm:=T.vis x (List.mem_of_getElem? hN);refine PE.imp (iU hN hm.1 hm.2.1 hm.2.2) fun σ H Q zq0=>?_
  obtain ⟨ρ,sl,q⟩:=zq0;unfold eG at q;split at q
  · rename_i d e;obtain ⟨o,h1,v,rfl,h2⟩:=sl.at e;exact ⟨v,h1,q v H (aM.refl H) (.inl h2)⟩
  · rename_i d e;obtain ⟨o,h1,v,rfl,h2⟩:=sl.at e;exact ⟨v,h1,q v H (aM.refl H) (.inr h2)⟩
  · exact q.elim⟩
theorem pG {e:Expr} {d:PyData} {v:V} (h:PE X e (tC v)) (r:∀ H,Rp H d v):cU X e (eC d) :=
  PE.imp h fun σ H Q ⟨ρ,sl,q⟩=>q v H (aM.refl H) (r H)
theorem ai {i j}:Z.cU X (.Constant (.int i) j pos) (eC (.int i)):=⟨pG Es fun H=>by simp only [Rp]⟩
theorem cs {b j}:Z.cU X (.Constant (.bool b) j pos) (eC (.bool b)):=⟨pG F6 fun H=>by simp only [Rp]⟩
theorem cE {j}:Z.cU X (.Constant .none j pos) (eC .none):=⟨pG Eu fun H=>by simp only [Rp]⟩
theorem gA {y j}:Z.cU X (.Constant (.str y) j pos) (eC (.str y)):=⟨pG Ey fun H=>by simp only [Rp]⟩
theorem dg {i:Int} {t:Tok} (T:Tb X nl G) (j:Nat) (hG:G[j]?=some x) (hm:X.mg x=some (.int i t)):Z.cU X (.Name x pos) (eC (.int i)):=⟨by
  have g:=T.gl x (List.mem_of_getElem? hG);exact pG (xh g.1 hm (v:=.int i) ⟨t,rfl⟩ g.2.1) fun H=>by simp only [Rp]⟩
end
section
variable {X:Cx} {a b c:Expr} {fa fb fc:Fe} {pos:Pos}
noncomputable def e2 (g:PyData->PyData->R PyData) (fa fb:Fe):Fe:=fun ρ=>fa ρ>>=fun x=>fb ρ>>=fun y=>g x y
noncomputable def e1 (g:PyData->R PyData) (fa:Fe):Fe:=fun ρ=>fa ρ>>=fun x=>g x
noncomputable def cP (X:Cx) (P:Hp->Hp->PyData->V->Prop) (r:R2) (g:PyData->PyData->R PyData):Prop :=
  ∀ H x y dx dy Q,iY H dx x->iY H dy y->vV X P (g dx dy) H Q->r x y H Q
theorem two {P:Hp->Hp->PyData->V->Prop} {r:R2} {g:PyData->PyData->R PyData} (hP:Dn P) (hg:cP X P r g) (σ:St) (H:Hp) (Q:VK) (h:jQ X P (e2 g fa fb) σ H Q) :
    GO r (jQ X u4 fa) (jQ X u4 fb) σ H Q :=
  (fA (P:=u4) (gc (X:=X) hP Q) h).post fun v H1 ⟨ρ1,d1,sl1,_,p1,q1⟩ =>
    (fA (P:=u4) (f:=fb) (k:=fun _ y=>g d1 y) (gc (X:=X) hP Q) ⟨ρ1,sl1,q1⟩).post fun u H2 ⟨_,d2,_,s2,p2,q2⟩=>hg H2 v u d1 d2 Q (iY.mono p1 s2) p2 q2
theorem nI {op:Operator} {P:Hp->Hp->PyData->V->Prop} {r:R2} {g:PyData->PyData->R PyData} (hP:Dn P) (ho:jP X (binaryOp op) r) (hg:cP X P r g) (ha:eo X a fa) (hb:eo X b fb) :
    PE X (.BinOp a op b pos) (jQ X P (e2 g fa fb)):=PE.imp (F9 ho ha hb) (two hP hg)
theorem sy {op:CmpOp} {r:R2} {g:PyData->PyData->R PyData} (ho:jP X (compareOp op) r) (hg:cP X ia r g) (ha:eo X a fa) (hb:eo X b fb) (hm:behindInMarks op b=false) :
    cU X (.Compare a [op] [b] pos) (e2 g fa fb):=PE.imp (Cn ho ha hb hm) (two fZ hg)
end
noncomputable def tU:PyData->R Bool
  | .bool b=>.ok b
  | _=>.no
noncomputable def tE (f:Fe):aW->R Bool:=fun ρ=>f ρ>>=tU
theorem xj {X:Cx} {f:Fe} {σ:St} {H:Hp} {Q:Bool->Hp->Prop} (h:CC X (tE f) σ H Q):jQ X ia f σ H (fun x H'=>∃ k,x=.bl k/\Q k H') :=
  (fA (P:=ia) (f:=f) (k:=fun _=>tU) (xr (X:=X) Q) h).post fun v H1 ⟨ρ1,d1,_,_,p1,q1⟩=>by
    cases d1 with
    | bool b =>
      have p2:v=.bl b:=by simpa only [Rp] using p1
      exact ⟨b,p2,q1 H1 (aM.refl _)⟩
    | _=>exact q1.elim
section
variable {X:Cx} {a b c:Expr} {fa fb fc:Fe} {pos:Pos}
theorem gV {op:CmpOp} {r:R2} {g:PyData->PyData->R PyData} (ho:jP X (compareOp op) r) (hg:cP X ia r g) (ha:eo X a fa) (hb:eo X b fb) (hm:behindInMarks op b=false) :
    oI X (.Compare a [op] [b] pos) (tE (e2 g fa fb)) :=
  PT.imp (Cz ho ha hb hm) fun σ H Q h=>two fZ hg σ H _ (xj h)
theorem fL {e:Expr} {f:Fe} (h:Z.cU X e f) (he:∀ whole,isTrue e X.env whole=(do let v <- whole;standAt e.pos;holding [v] (truthy v)):=by intro _;rfl):Z.oI X e (tE f):=⟨have h:=h.un;PT.imp (EG h he) fun σ H Q h=>xj h⟩
noncomputable def ip (f g:aW->R Bool):aW->R Bool:=fun ρ=>f ρ>>=fun b=>if b=true then g ρ else .ok false
noncomputable def oU (f g:aW->R Bool):aW->R Bool:=fun ρ=>f ρ>>=fun b=>if b=true then .ok true else g ρ
noncomputable def mV (f:aW->R Bool):aW->R Bool:=fun ρ=>f ρ>>=fun b=>.ok (!b)
variable {ga gb:aW->R Bool} {eI:List Expr}
theorem ic (ha:Z.oI X a ga):Z.yV X (.BoolOp .And [a] pos) ga:=⟨have ha:=ha.un;pw_and1 ha⟩
theorem i8 (ha:Z.oI X a ga):Z.yV X (.BoolOp .Or [a] pos) ga:=⟨have ha:=ha.un;pw_or1 ha⟩
theorem i7 (ha:Z.oI X a ga) (hb:Z.yV X (.BoolOp .And (b::eI) pos) gb):Z.yV X (.BoolOp .And (a::b::eI) pos) (ip ga gb):=⟨have ha:=ha.un;have hb:=hb.un;PW.imp (pw_and ha hb) fun σ H Q h=>(r9 (f:=ga) (k:=fun ρ b=>if b=true then gb ρ else .ok false) (xr (X:=X) Q) h).post fun d H1 ⟨ρ1,sl1,_,q1⟩=>by
    cases d with
    | true=>exact ⟨ρ1,sl1,q1⟩
    | false=>exact q1 H1 (aM.refl _)⟩
theorem kb (ha:Z.oI X a ga) (hb:Z.yV X (.BoolOp .Or (b::eI) pos) gb):Z.yV X (.BoolOp .Or (a::b::eI) pos) (oU ga gb):=⟨have ha:=ha.un;have hb:=hb.un;PW.imp (pw_or ha hb) fun σ H Q h=>(r9 (f:=ga) (k:=fun ρ b=>if b=true then .ok true else gb ρ) (xr (X:=X) Q) h).post fun d H1 ⟨ρ1,sl1,_,q1⟩=>by
    cases d with
    | false=>exact ⟨ρ1,sl1,q1⟩
    | true=>exact q1 H1 (aM.refl _)⟩
theorem yV.t {e:Expr} (h:yV X e ga):oI X e ga:=PW.pt h
theorem gq {e:Expr} (h:Z.yV X e ga):Z.oI X e ga :=
  ⟨D2.yV.t h.un⟩
theorem g9 (ha:Z.oI X a ga):Z.oI X (.UnaryOp .Not a pos) (mV ga):=⟨have ha:=ha.un;PT.imp (EF ha) fun σ H Q h=>(r9 (f:=ga) (k:=fun _ b=>.ok (!b)) (xr (X:=X) Q) h).post fun d H1 ⟨ρ1,sl1,_,q1⟩=>q1 H1 (aM.refl _)⟩
noncomputable def x8 (f g:Fe):Fe:=fun ρ=>f ρ>>=fun d=>tU d>>=fun b=>if b=true then g ρ else .ok (.bool false)
noncomputable def HK (f g:Fe):Fe:=fun ρ=>f ρ>>=fun d=>tU d>>=fun b=>if b=true then .ok (.bool true) else g ρ
noncomputable def BK (f:Fe):Fe:=fun ρ=>f ρ>>=fun d=>tU d>>=fun b=>.ok (.bool (!b))
theorem sJ {k:aW->Bool->R PyData} {f:Fe} {σ:St} {H:Hp} {Q:VK} (h:jQ X ia (fun ρ=>f ρ>>=fun d=>tU d>>=fun b=>k ρ b) σ H Q) :
    jQ X ia f σ H (fun x H'=>∃ c,x=.bl c/\jQ X ia (fun ρ=>k ρ c) σ H' Q) :=
  (fA (P:=ia) (f:=f) (k:=fun ρ d=>tU d>>=fun b=>k ρ b) (gc (X:=X) fZ Q) h).post fun v H1 ⟨ρ1,d1,sl1,_,p1,q1⟩=>by
    cases d1 with
    | bool b =>
      have p2:v=.bl b:=by simpa only [Rp] using p1
      exact ⟨b,p2,ρ1,sl1,q1⟩
    | _=>exact q1.elim
theorem j7 {op} (h:Z.cU X a fa):Z.cU X (.BoolOp op [a] pos) fa:=⟨have h:=h.un;Ex h⟩
theorem lZ (ha:Z.cU X a fa) (hb:Z.cU X (.BoolOp .And (b::eI) pos) fb):Z.cU X (.BoolOp .And (a::b::eI) pos) (x8 fa fb):=⟨have ha:=ha.un;have hb:=hb.un;PE.imp (Ep ha hb) fun σ H Q h=>(sJ (k:=fun ρ b=>if b=true then fb ρ else .ok (.bool false)) h).post fun v H1 ⟨c,e1,q1⟩=>by
    refine ⟨c,e1,?_⟩;cases c with
    | true=>exact q1
    | false =>
      obtain ⟨_,_,q2⟩:=q1;exact q2 _ H1 (aM.refl _) (by simp only [Rp])⟩
theorem Bw (ha:Z.cU X a fa) (hb:Z.cU X (.BoolOp .Or (b::eI) pos) fb):Z.cU X (.BoolOp .Or (a::b::eI) pos) (HK fa fb):=⟨have ha:=ha.un;have hb:=hb.un;PE.imp (Ga ha hb) fun σ H Q h=>(sJ (k:=fun ρ b=>if b=true then .ok (.bool true) else fb ρ) h).post fun v H1 ⟨c,e1,q1⟩=>by
    refine ⟨c,e1,?_⟩;cases c with
    | false=>exact q1
    | true =>
      obtain ⟨_,_,q2⟩:=q1;exact q2 _ H1 (aM.refl _) (by simp only [Rp])⟩
theorem tM (ha:Z.cU X a fa):Z.cU X (.UnaryOp .Not a pos) (BK fa):=⟨have ha:=ha.un;PE.imp (Ew ha) fun σ H Q h=>(sJ (k:=fun ρ b=>.ok (.bool (!b))) h).post fun v H1 ⟨c,e1,_,_,q2⟩=>⟨c,e1,q2 _ H1 (aM.refl _) (by simp only [Rp])⟩⟩
noncomputable def zF (t:aW->R Bool) (f g:Fe):Fe:=fun ρ=>t ρ>>=fun b=>if b=true then f ρ else g ρ
theorem jp {e:Expr} (hc:Z.oI X e ga) (ha:Z.cU X a fa) (hb:Z.cU X b fb):Z.cU X (.IfExp e a b pos) (zF ga fa fb):=⟨have hc:=hc.un;have ha:=ha.un;have hb:=hb.un;PE.imp (Az hc ha hb) fun σ H Q h=>(r9 (f:=ga) (k:=fun ρ b=>if b=true then fa ρ else fb ρ) (gc (X:=X) fZ Q) h).post fun d H1 ⟨ρ1,sl1,_,q1⟩=>by
    cases d with
    | true=>exact ⟨ρ1,sl1,q1⟩
    | false=>exact ⟨ρ1,sl1,q1⟩⟩
end
noncomputable def bh:Expr->Bool
  | .Starred ..=>false
  | _=>true
theorem bP {e:Expr} {es:List Expr} {env:Env} (h:bh e=true):starEach (e::es) env=(false,eval e env)::starEach es env:=by
  cases e <;> first | rfl | (cases h)
theorem mU {es:List Expr} {env:Env} {pos:Pos} (h:es.all bh=true):(backTo pos (starEach es env)).any (·.1)=false:=by
  induction es with
  | nil=>rfl
  | cons e es ih =>
    rw [List.all_cons,Bool.and_eq_true] at h;rw [bP h.1];have:=ih h.2;simpa [backTo] using this
noncomputable def az:aW->R (List PyData):=fun _=>.ok []
noncomputable def ah (f:Fe) (g:aW->R (List PyData)):aW->R (List PyData):=fun ρ=>f ρ>>=fun d=>g ρ>>=fun ds=>.ok (d::ds)
section
variable {X:Cx} {e:Expr} {es:List Expr} {f:Fe} {g:aW->R (List PyData)}
theorem wK {I:Hp->PyData->V->Prop}:PA X [] (AJ X I az):=PA.imp vO fun σ H Q ⟨ρ,sl,q⟩=>q [] H (aM.refl _) (by simp only [RA])
theorem pD:tj X [] az:=wK
theorem ao  : Z.tj X [] az :=
  ⟨D2.pD⟩
theorem su:DF X [] az:=wK
theorem ub {I:Hp->PyData->V->Prop} (hI:∀ H H' d v,I H d v->aM H H'->I H' d v) (ha:PE X e (jQ X (fun _ H' d v=>I H' d v) f)) (hr:PA X es (AJ X I g))
    (hs:starEach (e::es) X.env=(false,eval e X.env)::starEach es X.env:=by rfl):PA X (e::es) (AJ X I (ah f g)) :=
  PA.imp (mG ha hr hs) fun σ H Q h =>
    (fA (P:=fun _ H' d v=>I H' d v) (f:=f) (k:=fun ρ d=>g ρ>>=fun ds=>.ok (d::ds)) (DE (X:=X) I Q) h).post fun v H1 ⟨ρ1,d1,sl1,_,p1,q1⟩ =>
      (pA (I:=I) (f:=g) (k:=fun _ ds=>.ok (d1::ds)) (DE (X:=X) I Q) ⟨ρ1,sl1,q1⟩).post fun vs H2 ⟨_,ds1,_,s2,p3,q3⟩ =>
        q3 (v::vs) H2 (aM.refl _) (by simp only [RA];exact ⟨v,vs,rfl,hI _ _ _ _ p1 s2,p3⟩)
theorem kK (ha:cU X e f) (hr:tj X es g) (hs:bh e=true:=by rfl):tj X (e::es) (ah f g):=ub (fun _ _ _ _ h s=>h.mono s) ha hr (bP hs)
theorem ae (ha:Z.cU X e f) (hr:Z.tj X es g) (hs:bh e=true:=by rfl):Z.tj X (e::es) (ah f g) :=
  ⟨D2.kK ha.un hr.un hs⟩
theorem my (ha:eo X e f) (hr:DF X es g) (hs:bh e=true:=by rfl):DF X (e::es) (ah f g):=ub (fun _ _ _ _ h s=>h.mono s) ha hr (bP hs)
end
section
variable {K:PySem.W.Frag} {H:Hp} {x:V}
theorem mf (h:iY H .none x):x=.non:=by
  rcases h with h | h
  · simpa only [Rp] using h
  · simp only [jl] at h
theorem md {b:Bool} (h:iY H (.bool b) x):x=.bl b:=by
  rcases h with h | h
  · simpa only [Rp] using h
  · simp only [jl] at h
theorem bX {i:Int} (h:iY H (.int i) x):x=.int i:=by
  rcases h with h | h
  · simpa only [Rp] using h
  · simp only [jl] at h
theorem gS {y:Str} (h:iY H (.str y) x):x=.str y:=by
  rcases h with h | h
  · simpa only [Rp] using h
  · simp only [jl] at h
theorem eN {ds:List PyData} (h:iY H (.tuple ds) x):∃ a vs,x=.ref a/\H a=some (.tup vs)/\bD H ds vs:=by
  rcases h with h | h
  · simpa only [Rp] using h
  · simp only [jl] at h
theorem fD {ds:List PyData} (h:iY H (.list ds) x):∃ a vs,x=.ref a/\n6 K H a vs/\bD H ds vs:=by
  rcases h with h | h
  · simp only [Rp] at h;obtain ⟨a,o,vs,e,ha,r⟩:=h;exact ⟨a,vs,e,.inl (.inr ⟨o,ha⟩),r⟩
  · simp only [jl] at h;obtain ⟨a,vs,e,ha,r⟩:=h;exact ⟨a,vs,e,.inl (.inl ha),r⟩
theorem CF {C:Addr} {fs:List (Str×V)} {kvs:List (PyData×PyData)} (h:wr H C fs kvs):gQ kvs=true:=by
  cases kvs with
  | nil=>simp only [wr] at h
  | cons kd kvs=>simp only [wr] at h;rw [h.1];rfl
theorem zq {kvs:List (PyData×PyData)} (h:iY H (.dict kvs) x):∃ a,x=.ref a:=by
  rcases h with h | h
  · simp only [Rp] at h;rcases h with ⟨a,o,vs,e,_⟩ | ⟨a,o,C,dx,fs,e,_⟩
    · exact ⟨a,e⟩
    · exact ⟨a,e⟩
  · simp only [jl] at h;obtain ⟨a,vs,e,_⟩:=h;exact ⟨a,e⟩
theorem me {kvs:List (PyData×PyData)} (hi:gQ kvs=false) (h:iY H (.dict kvs) x):∃ a ks,x=.ref a/\Rd H a (.dK ks)/\eP H kvs ks:=by
  rcases h with h | h
  · simp only [Rp] at h;rcases h with ⟨a,o,vs,e,ha,r⟩ | ⟨a,o,C,dx,fs,e,ha,r⟩
    · exact ⟨a,vs,e,.inr ⟨o,ha⟩,r⟩
    · rw [CF r] at hi;cases hi
  · simp only [jl] at h;obtain ⟨a,vs,e,ha,r⟩:=h;exact ⟨a,vs,e,.inl ha,r⟩
end
theorem bD.nil {H:Hp}:bD H [] []:=by simp only [bD]
theorem bD.cons {H:Hp} {d:PyData} {ds:List PyData} {v:V} {vs:List V} (h:Rp H d v) (t:bD H ds vs):bD H (d::ds) (v::vs):=by simp only [bD];exact ⟨v,vs,rfl,h,t⟩
theorem bD.nil_inv {H:Hp} {vs:List V} (h:bD H [] vs):vs=[]:=by simpa only [bD] using h
theorem bD.cons_inv {H:Hp} {d:PyData} {ds:List PyData} {vs:List V} (h:bD H (d::ds) vs):∃ v r,vs=v::r/\Rp H d v/\bD H ds r:=by simpa only [bD] using h
theorem bD.length {H:Hp}:∀ {ds:List PyData} {vs:List V},bD H ds vs->vs.length=ds.length
  | [],vs,h=>by rw [h.nil_inv];rfl
  | d::ds,vs,h=>by
    obtain ⟨v,r,rfl,_,t⟩:=h.cons_inv;rw [List.length_cons,List.length_cons,bD.length t]
theorem bD.get {H:Hp}:∀ {ds:List PyData} {vs:List V} {i:Nat} {d:PyData},bD H ds vs->ds[i]?=some d->∃ v,vs[i]?=some v/\Rp H d v
  | [],vs,i,d,h,e=>by simp at e
  | d0::ds,vs,0,d,h,e=>by
    obtain ⟨v,r,rfl,p,_⟩:=h.cons_inv;simp at e;subst e;exact ⟨v,rfl,p⟩
  | d0::ds,vs,i+1,d,h,e=>by
    obtain ⟨v,r,rfl,_,t⟩:=h.cons_inv;obtain ⟨u,e1,p⟩:=bD.get (i:=i) t (by simpa using e);exact ⟨u,by simpa using e1,p⟩
theorem bD.append {H:Hp}:∀ {ds es:List PyData} {vs us:List V},bD H ds vs->bD H es us->bD H (ds++es) (vs++us)
  | [],es,vs,us,h,g=>by rw [h.nil_inv];exact g
  | d::ds,es,vs,us,h,g=>by
    obtain ⟨v,r,rfl,p,t⟩:=h.cons_inv;exact bD.cons p (bD.append t g)
theorem bD.take {H:Hp}:∀ {ds:List PyData} {vs:List V} (n:Nat),bD H ds vs->bD H (ds.take n) (vs.take n)
  | ds,vs,0,h=>by simp only [List.take_zero];exact bD.nil
  | [],vs,n+1,h=>by rw [h.nil_inv];exact bD.nil
  | d::ds,vs,n+1,h=>by
    obtain ⟨v,r,rfl,p,t⟩:=h.cons_inv;exact bD.cons p (bD.take n t)
theorem bD.drop {H:Hp}:∀ {ds:List PyData} {vs:List V} (n:Nat),bD H ds vs->bD H (ds.drop n) (vs.drop n)
  | ds,vs,0,h=>h
  | [],vs,n+1,h=>by rw [h.nil_inv];exact bD.nil
  | d::ds,vs,n+1,h=>by
    obtain ⟨v,r,rfl,p,t⟩:=h.cons_inv;exact bD.drop n t
theorem bD.reverse {H:Hp}:∀ {ds:List PyData} {vs:List V},bD H ds vs->bD H ds.reverse vs.reverse
  | [],vs,h=>by rw [h.nil_inv];exact bD.nil
  | d::ds,vs,h=>by
    obtain ⟨v,r,rfl,p,t⟩:=h.cons_inv;rw [List.reverse_cons,List.reverse_cons];exact bD.append (bD.reverse t) (bD.cons p bD.nil)
theorem bD.rep {H:Hp} {ds:List PyData} {vs:List V} (h:bD H ds vs):∀ k:Nat,bD H (List.replicate k ds).flatten (List.replicate k vs).flatten
  | 0=>bD.nil
  | k+1=>by rw [List.replicate_succ,List.replicate_succ,List.flatten_cons,List.flatten_cons];exact bD.append h (bD.rep h k)
theorem bD.ints {H:Hp}:∀ ns:List Int,bD H (ns.map PyData.int) (ns.map V.int)
  | []=>bD.nil
  | n::ns=>bD.cons (by simp only [Rp]) (bD.ints ns)
theorem cT {H:Hp} {p:Addr} (h:H p=none) (o:HO):aM H (de H p o):=fun b u q=>by rw [aB (bg q h)];exact q
theorem e9 {H:Hp} {p:Addr} {ds:List PyData} {vs:List V} (h:H p=none) (r:bD H ds vs):Rp (de H p (.tup vs)) (.tuple ds) (.ref p):=by
  simp only [Rp];exact ⟨p,vs,rfl,bq,r.mono (cT h _)⟩
theorem e8 {H:Hp} {p:Addr} {ds:List PyData} {vs:List V} (h:H p=none) (r:bD H ds vs):Fc H (de H p (.lst vs)) (.list ds) (.ref p):=by
  refine ⟨?_,p,rfl,h⟩;simp only [jl];exact ⟨p,vs,rfl,bq,r.mono (cT h _)⟩
section
variable {P:Program} {w:World} {H:Hp} {h:Heap}
mutual
theorem uC (ok:iO P w H h):∀ (d:PyData) (v:V) (u:Value),d.canLay0=true->Rp H d v->bW v u->∃ as,Reads h u d as
  | .none,v,u,_,r,e=>by simp only [Rp] at r;subst r;cases e;exact ⟨_,.none⟩
  | .bool b,v,u,_,r,e=>by simp only [Rp] at r;subst r;cases e;exact ⟨_,.bool b⟩
  | .int i,v,u,_,r,e=>by simp only [Rp] at r;subst r;obtain ⟨t,rfl⟩:=e;exact ⟨_,.int i t⟩
  | .str x,v,u,_,r,e=>by simp only [Rp] at r;subst r;obtain ⟨t,rfl⟩:=e;exact ⟨_,.str x t⟩
  | .tuple ds,v,u,c,r,e=>by
    simp only [Rp] at r;obtain ⟨a,vs,rfl,ha,r⟩:=r;cases e;obtain ⟨_,its,rv,o,h1,h2,⟨n,h3⟩,_⟩:=(show cm P w H h a (.tup vs) from ok a _ ha)
    obtain ⟨as,q⟩:=iG ok ds vs its (by simpa only [PyData.canLay0] using c) r rv;exact ⟨as,.tuple h1 h2 h3 (by simpa using q)⟩
  | .list ds,v,u,c,r,e=>by
    simp only [Rp] at r;obtain ⟨a,ob,vs,rfl,ha,r⟩:=r;cases e;obtain ⟨_,_,its,n,rv,h1⟩:=(show cm P w H h a (.frz ob (.lst vs)) from ok a _ ha)
    obtain ⟨as,q⟩:=iG ok ds vs its (by simpa only [PyData.canLay0] using c) r rv;exact ⟨a::as,.list h1 rfl rfl (by simpa using q)⟩
  | .dict kvs,v,u,c,r,e=>by simp [PyData.canLay0] at c
theorem iG (ok:iO P w H h):∀ (ds:List PyData) (vs:List V) (us:List Value),PyData.canLayAll0 ds=true->bD H ds vs->bE vs us->∃ as,ReadsAll h us ds as
  | [],vs,us,_,r,e=>by rw [r.nil_inv] at e;cases e;exact ⟨_,.nil⟩
  | d::ds,vs,us,c,r,e=>by
    obtain ⟨v,r',rfl,p,t⟩:=r.cons_inv;have c':d.canLay0=true/\PyData.canLayAll0 ds=true:=by simpa [PyData.canLayAll0] using c
    cases e with
    | cons e1 e2 =>
      obtain ⟨as,q1⟩:=uC ok d v _ c'.1 p e1;obtain ⟨bs,q2⟩:=iG ok ds r' _ c'.2 t e2;exact ⟨as++bs,.cons q1 q2⟩
end
theorem eO (ok:iO P w H h) {d:PyData} {v:V} {u:Value} (c:d.canLay0=true) (r:iY H d v) (e:bW v u):∃ as,Reads h u d as:=by
  rcases r with r | r
  · exact uC ok d v u c r e
  · cases d <;> simp only [jl] at r
    · rename_i ds;obtain ⟨a,vs,rfl,ha,r⟩:=r;cases e;obtain ⟨_,its,n,rv,h1⟩:=(show cm P w H h a (.lst vs) from ok a _ ha)
      obtain ⟨as,q⟩:=iG ok ds vs its (by simpa only [PyData.canLay0] using c) r rv;exact ⟨a::as,.list h1 rfl rfl (by simpa using q)⟩
    · simp [PyData.canLay0] at c
end
noncomputable def gF:PyData->Option dD
  | .int i=>some (.inl i)
  | .str y=>some (.inr y)
  | _=>none
noncomputable def iC:PyData->PyData->Bool
  | .int i,.int j=>decide (i=j)
  | .str i,.str j=>decide (i=j)
  | _,_=>false
noncomputable def sI (kvs:List (PyData×PyData)) (k v:PyData):List (PyData×PyData) :=
  if (kvs.any fun kv=>iC kv.1 k)=true then kvs.map (fun kv=>if iC kv.1 k=true then (kv.1,v) else kv) else kvs++[(k,v)]
theorem kM (κ κ':dD):iC (gK κ) (gK κ')=decide (κ=κ'):=by
  cases κ with
  | inl i =>
    cases κ' with
    | inl j=>simp [gK,iC]
    | inr j=>simp [gK,iC]
  | inr i =>
    cases κ' with
    | inl j=>simp [gK,iC]
    | inr j=>simp [gK,iC]
theorem eP.cons {H:Hp} {k d:PyData} {kvs:List (PyData×PyData)} {κ:dD} {v:V} {ks:List (dD×V)} (e:k=gK κ) (h:Rp H d v) (t:eP H kvs ks):eP H ((k,d)::kvs) ((κ,v)::ks):=by
  simp only [eP,Bh];exact ⟨κ,v,ks,rfl,⟨e,h⟩,t⟩
theorem eP.cons_inv {H:Hp} {k d:PyData} {kvs:List (PyData×PyData)} {ks:List (dD×V)} (h:eP H ((k,d)::kvs) ks):∃ κ v r,ks=(κ,v)::r/\k=gK κ/\Rp H d v/\eP H kvs r:=by
  simp only [eP,Bh] at h;obtain ⟨κ,v,r,e,⟨e1,p⟩,t⟩:=h;exact ⟨κ,v,r,e,e1,p,t⟩
theorem eP.nil_inv {H:Hp} {ks:List (dD×V)} (h:eP H [] ks):ks=[]:=by simpa only [eP] using h
theorem eP.any {H:Hp} (κ:dD):∀ {kvs:List (PyData×PyData)} {ks:List (dD×V)},eP H kvs ks->(kvs.any fun kv=>iC kv.1 (gK κ))=ks.any fun kv=>decide (kv.1=κ)
  | [],ks,h=>by rw [h.nil_inv];rfl
  | (k,d)::kvs,ks,h=>by
    obtain ⟨κ',v,r,rfl,rfl,p,t⟩:=h.cons_inv;rw [List.any_cons,List.any_cons,eP.any κ t,kM]
theorem eP.repl {H:Hp} (κ:dD) {d:PyData} {v:V} (hv:Rp H d v):∀ {kvs:List (PyData×PyData)} {ks:List (dD×V)},eP H kvs ks ->
    eP H (kvs.map fun kv=>if iC kv.1 (gK κ)=true then (kv.1,d) else kv) (ks.map fun kv=>if kv.1=κ then (kv.1,v) else kv)
  | [],ks,h=>by rw [h.nil_inv];simp only [List.map_nil,eP]
  | (k,d')::kvs,ks,h=>by
    obtain ⟨κ',v',r,rfl,rfl,p,t⟩:=h.cons_inv;rw [List.map_cons,List.map_cons];dsimp only;rw [kM];by_cases e:κ'=κ
    · rw [if_pos (decide_eq_true e),if_pos e];exact eP.cons rfl hv (eP.repl κ hv t)
    · rw [if_neg (by rw [decide_eq_false e];exact Bool.false_ne_true),if_neg e];exact eP.cons rfl p (eP.repl κ hv t)
theorem eP.snoc {H:Hp} {κ:dD} {d:PyData} {v:V} (hv:Rp H d v):∀ {kvs:List (PyData×PyData)} {ks:List (dD×V)},eP H kvs ks->eP H (kvs++[(gK κ,d)]) (ks++[(κ,v)])
  | [],ks,h=>by rw [h.nil_inv];exact eP.cons rfl hv (by simp only [eP])
  | (k,d')::kvs,ks,h=>by
    obtain ⟨κ',v',r,rfl,rfl,p,t⟩:=h.cons_inv;exact eP.cons rfl p (eP.snoc hv t)
theorem eP.put {H:Hp} (κ:dD) {d:PyData} {v:V} (hv:Rp H d v) {kvs:List (PyData×PyData)} {ks:List (dD×V)} (h:eP H kvs ks):eP H (sI kvs (gK κ) d) (mI ks κ v):=by
  unfold sI mI;rw [h.any κ];split
  · exact h.repl κ hv
  · exact h.snoc hv
noncomputable def iF (kvs:List (PyData×PyData)) (k:PyData):Option PyData:=(kvs.find? fun kv=>iC kv.1 k).map (·.2)
theorem eP.look {H:Hp} (κ:dD):∀ {kvs:List (PyData×PyData)} {ks:List (dD×V)},eP H kvs ks->(iF kvs (gK κ)=none/\k9 ks κ=none)\/∃ d v,iF kvs (gK κ)=some d/\k9 ks κ=some v/\Rp H d v
  | [],ks,h=>.inl (by rw [h.nil_inv];exact ⟨rfl,rfl⟩)
  | (k,d)::kvs,ks,h=>by
    obtain ⟨κ',v,r,rfl,rfl,p,t⟩:=h.cons_inv;unfold iF k9;by_cases e:κ'=κ
    · rw [List.find?_cons_of_pos (by rw [kM];exact decide_eq_true e),List.find?_cons_of_pos (by exact decide_eq_true e)];exact .inr ⟨d,v,rfl,rfl,p⟩
    · rw [List.find?_cons_of_neg (by rw [kM,decide_eq_false e];exact Bool.false_ne_true),List.find?_cons_of_neg (by rw [decide_eq_false e];exact Bool.false_ne_true)];exact eP.look κ t
theorem ur {d:PyData} {κ:dD} (h:gF d=some κ):d=gK κ:=by
  cases d <;> simp only [gF] at h <;> cases h <;> rfl
theorem wB {H:Hp} {d:PyData} {x:V} {κ:dD} (h:iY H d x) (e:gF d=some κ):x=kV κ:=by
  cases d <;> simp only [gF] at e <;> cases e
  · exact bX h
  · exact gS h
theorem wJ {H:Hp} {a:Addr} {kvs:List (PyData×PyData)} {ks:List (dD×V)} {κ:dD} (h:Rd H a (.dK ks)) (r:eP H kvs ks):∃ o,o1 H a (kV κ) o/\o.isSome=(iF kvs (gK κ)).isSome/\∀ d,iF kvs (gK κ)=some d->∃ v,o=some v/\Rp H d v:=by
  refine ⟨k9 ks κ,.inl ⟨ks,κ,h,rfl,rfl⟩,?_⟩;rcases r.look κ with ⟨e1,e2⟩ | ⟨d,v,e1,e2,p⟩
  · rw [e1,e2];exact ⟨rfl,fun d z=>by cases z⟩
  · rw [e1,e2];exact ⟨rfl,fun d z=>by cases z;exact ⟨v,rfl,p⟩⟩
noncomputable def oQ:PyData->PyData->R PyData
  | .int i,.int j=>.ok (.int (i-j))
  | _,_=>.no
noncomputable def da:PyData->PyData->R PyData
  | .int i,.int j=>if 0 < j then .ok (.int (i%j)) else .no
  | _,_=>.no
noncomputable def fS:PyData->PyData->R PyData
  | .int i,.int j=>if 0 < j/\j < 1073741824 then .ok (.int (i / j)) else .no
  | _,_=>.no
noncomputable def dW (p:Int->Int->Bool):PyData->PyData->R PyData
  | .int i,.int j=>.ok (.bool (p i j))
  | _,_=>.no
noncomputable def sv (x y:PyData):Bool:=x.canLay0&&y.canLay0&&decide (min x.depth y.depth<=60)
noncomputable def fY (x y:PyData):R PyData:=if sv x y=true then .ok (.bool (PyData.eqv x y)) else .no
noncomputable def nh (x y:PyData):R PyData:=if sv x y=true then .ok (.bool (!PyData.eqv x y)) else .no
noncomputable def gr:PyData->Bool
  | .none=>true
  | _=>false
noncomputable def mm (x y:PyData):R PyData:=if gr y=true then .ok (.bool (gr x)) else .no
noncomputable def mr (x y:PyData):R PyData:=if gr y=true then .ok (.bool (!gr x)) else .no
noncomputable def pL (xs:List PyData) (d:PyData):Bool:=PyData.canLayAll0 xs&&d.canLay0&&decide (min (PyData.depthAll xs) d.depth<=60)
noncomputable def je (neg:Bool) (d:PyData):PyData->R PyData
  | .list xs=>if pL xs d=true then .ok (.bool (if neg then !(xs.any fun y=>PyData.eqv y d) else xs.any fun y=>PyData.eqv y d)) else .no
  | .tuple xs=>if pL xs d=true then .ok (.bool (if neg then !(xs.any fun y=>PyData.eqv y d) else xs.any fun y=>PyData.eqv y d)) else .no
  | .dict kvs=>if gQ kvs=true then .no else match gF d with
    | some _=>.ok (.bool (if neg then !(iF kvs d).isSome else (iF kvs d).isSome))
    | none=>.no
  | _=>.no
section
variable {X:Cx} {a b c:Expr} {fa fb fc:Fe} {pos:Pos}
theorem dG {H:Hp} {i:Int}:Rp H (.int i) (.int i):=by simp only [Rp]
theorem ft {H:Hp} {i:Bool}:Rp H (.bool i) (.bl i):=by simp only [Rp]
theorem sL {H:Hp} {i:Str}:Rp H (.str i) (.str i):=by simp only [Rp]
theorem EY:cP X ia (Bj fun i j=>.int (i-j)) oQ:=fun H x y dx dy Q hx hy q=>by
  unfold oQ at q;split at q
  · exact ⟨_,_,bX hx,bX hy,q _ H (aM.refl _) dG⟩
  · exact q.elim
theorem EU:cP X ia (rI (fun _ j=>0 < j) fun i j=>.int (i%j)) da:=fun H x y dx dy Q hx hy q=>by
  unfold da at q;split at q
  · split at q
    · rename_i h;exact ⟨_,_,bX hx,bX hy,h,q _ H (aM.refl _) dG⟩
    · exact q.elim
  · exact q.elim
theorem ET:cP X ia (rI Fh fun i j=>.int (i / j)) fS:=fun H x y dx dy Q hx hy q=>by
  unfold fS at q;split at q
  · split at q
    · rename_i h;exact ⟨_,_,bX hx,bX hy,h,q _ H (aM.refl _) dG⟩
    · exact q.elim
  · exact q.elim
theorem n4 {p:Int->Int->Bool}:cP X ia (Bj fun i j=>.bl (p i j)) (dW p):=fun H x y dx dy Q hx hy q=>by
  unfold dW at q;split at q
  · exact ⟨_,_,bX hx,bX hy,q _ H (aM.refl _) ft⟩
  · exact q.elim
theorem j8 (ha:Z.eo X a fa) (hb:Z.eo X b fb):Z.cU X (.BinOp a .Sub b pos) (e2 oQ fa fb):=⟨have ha:=ha.un;have hb:=hb.un;nI fZ En EY ha hb⟩
theorem bp (ha:Z.eo X a fa) (hb:Z.eo X b fb):Z.cU X (.BinOp a .Mod b pos) (e2 da fa fb):=⟨have ha:=ha.un;have hb:=hb.un;nI fZ Ek EU ha hb⟩
theorem dq (ha:Z.eo X a fa) (hb:Z.eo X b fb):Z.cU X (.BinOp a .FloorDiv b pos) (e2 fS fa fb):=⟨have ha:=ha.un;have hb:=hb.un;nI fZ Cg ET ha hb⟩
noncomputable abbrev Hj:Int->Int->Bool:=fun i j=>decide (i < j)
noncomputable abbrev Ds:Int->Int->Bool:=fun i j=>decide (i<=j)
noncomputable abbrev lT:Int->Int->Bool:=fun i j=>decide (j < i)
theorem wu (ha:Z.eo X a fa) (hb:Z.eo X b fb):Z.cU X (.Compare a [.Gt] [b] pos) (e2 (dW lT) fa fb):=⟨have ha:=ha.un;have hb:=hb.un;sy Dq n4 ha hb (iT _)⟩
theorem tO (ha:Z.eo X a fa) (hb:Z.eo X b fb):Z.oI X (.Compare a [.Lt] [b] pos) (tE (e2 (dW Hj) fa fb)):=⟨have ha:=ha.un;have hb:=hb.un;gV F3 n4 ha hb (iT _)⟩
theorem tN (ha:Z.eo X a fa) (hb:Z.eo X b fb):Z.oI X (.Compare a [.LtE] [b] pos) (tE (e2 (dW Ds) fa fb)):=⟨have ha:=ha.un;have hb:=hb.un;gV Av n4 ha hb (iT _)⟩
theorem ka (ha:Z.eo X a fa) (hb:Z.eo X b fb):Z.oI X (.Compare a [.Gt] [b] pos) (tE (e2 (dW lT) fa fb)):=⟨have ha:=ha.un;have hb:=hb.un;gV Dq n4 ha hb (iT _)⟩
noncomputable def CB (X:Cx) (neg:Bool):R2:=fun x y H Q=>∃ dx dy,iY H dx x/\iY H dy y/\sv dx dy=true/\Q (.bl (if neg then !PyData.eqv dx dy else PyData.eqv dx dy)) H
theorem pE {x y:PyData} (h:sv x y=true):x.canLay0=true/\y.canLay0=true/\min x.depth y.depth<=60:=by
  unfold sv at h;rw [Bool.and_eq_true,Bool.and_eq_true,decide_eq_true_eq] at h;exact ⟨h.1.1,h.1.2,h.2⟩
theorem As (hu:X.A.units+64 < cLine):jP X (compareOp .Eq) (CB X false):=by
  intro pins s σ H x y v u Q I rx ry h;obtain ⟨dx,dy,hx,hy,ho,q⟩:=h;obtain ⟨c1,c2,c3⟩:=pE ho;obtain ⟨as,r1⟩:=eO I.hok c1 hx rx;obtain ⟨bs,r2⟩:=eO I.hok c2 hy ry;exact PySem.SeqAt.compareEq_reads r1 r2 c1 c2 (by omega) ⟨.bl _,H,I,rfl,q⟩
theorem Em (hu:X.A.units+64 < cLine):jP X (compareOp .NotEq) (CB X true):=by
  intro pins s σ H x y v u Q I rx ry h;obtain ⟨dx,dy,hx,hy,ho,q⟩:=h;obtain ⟨c1,c2,c3⟩:=pE ho;obtain ⟨as,r1⟩:=eO I.hok c1 hx rx;obtain ⟨bs,r2⟩:=eO I.hok c2 hy ry;exact PySem.SeqAt.compareNe_reads r1 r2 c1 c2 (by omega) ⟨.bl _,H,I,rfl,q⟩
theorem DB:cP X ia (CB X false) fY:=fun H x y dx dy Q hx hy q=>by
  unfold fY at q;split at q
  · rename_i h;exact ⟨dx,dy,hx,hy,h,q _ H (aM.refl _) ft⟩
  · exact q.elim
theorem GD:cP X ia (CB X true) nh:=fun H x y dx dy Q hx hy q=>by
  unfold nh at q;split at q
  · rename_i h;exact ⟨dx,dy,hx,hy,h,q _ H (aM.refl _) ft⟩
  · exact q.elim
theorem oW (hu:X.A.units+64 < cLine) (ha:Z.eo X a fa) (hb:Z.eo X b fb):Z.cU X (.Compare a [.Eq] [b] pos) (e2 fY fa fb):=⟨have ha:=ha.un;have hb:=hb.un;sy (As hu) DB ha hb (iT _)⟩
theorem cC (hu:X.A.units+64 < cLine) (ha:Z.eo X a fa) (hb:Z.eo X b fb):Z.oI X (.Compare a [.Eq] [b] pos) (tE (e2 fY fa fb)):=⟨have ha:=ha.un;have hb:=hb.un;gV (As hu) DB ha hb (iT _)⟩
theorem gB (hu:X.A.units+64 < cLine) (ha:Z.eo X a fa) (hb:Z.eo X b fb):Z.oI X (.Compare a [.NotEq] [b] pos) (tE (e2 nh fa fb)):=⟨have ha:=ha.un;have hb:=hb.un;gV (Em hu) GD ha hb (iT _)⟩
theorem xb {H:Hp} {d:PyData} {x:V} (h:iY H d x):decide (x=.non)=gr d:=by
  cases d with
  | none=>rw [mf h];rfl
  | bool b=>rw [md h];rfl
  | int i=>rw [bX h];rfl
  | str y=>rw [gS h];rfl
  | tuple ds=>obtain ⟨a,vs,rfl,_⟩:=eN h;rfl
  | list ds=>obtain ⟨a,vs,rfl,_⟩:=fD (K:=default) h;rfl
  | dict kvs=>obtain ⟨a,rfl⟩:=zq h;rfl
theorem AV:cP X ia (fun x y H Q=>y=.non/\Q (.bl (decide (x=.non))) H) mm:=fun H x y dx dy Q hx hy q=>by
  unfold mm at q;split at q
  · rename_i h;cases dy <;> simp only [gr,Bool.false_eq_true] at h;exact ⟨mf hy,by rw [xb hx];exact q _ H (aM.refl _) ft⟩
  · exact q.elim
theorem CQ:cP X ia (fun x y H Q=>y=.non/\Q (.bl (!decide (x=.non))) H) mr:=fun H x y dx dy Q hx hy q=>by
  unfold mr at q;split at q
  · rename_i h;cases dy <;> simp only [gr,Bool.false_eq_true] at h;exact ⟨mf hy,by rw [xb hx];exact q _ H (aM.refl _) ft⟩
  · exact q.elim
theorem zi (ha:Z.eo X a fa) (hb:Z.eo X b fb):Z.cU X (.Compare a [.Is] [b] pos) (e2 mm fa fb):=⟨have ha:=ha.un;have hb:=hb.un;sy Au AV ha hb (iT _)⟩
theorem qI (ha:Z.eo X a fa) (hb:Z.eo X b fb):Z.oI X (.Compare a [.Is] [b] pos) (tE (e2 mm fa fb)):=⟨have ha:=ha.un;have hb:=hb.un;gV Au AV ha hb (iT _)⟩
theorem ly (ha:Z.eo X a fa) (hb:Z.eo X b fb):Z.oI X (.Compare a [.IsNot] [b] pos) (tE (e2 mr fa fb)):=⟨have ha:=ha.un;have hb:=hb.un;gV Ci CQ ha hb (iT _)⟩
noncomputable def HY (X:Cx) (neg:Bool):R2:=fun x y H Q=>∃ d xs,iY H d x/\(iY H (.list xs) y\/iY H (.tuple xs) y)/\pL xs d=true/\Q (.bl (if neg then !(xs.any fun z=>PyData.eqv z d) else xs.any fun z=>PyData.eqv z d)) H
noncomputable def EH (X:Cx) (neg:Bool):R2:=fun x y H Q=>HY X neg x y H Q\/∃ a o,y=.ref a/\o1 H a x o/\Q (.bl (if neg then !o.isSome else o.isSome)) H
theorem pM {xs:List PyData} {d:PyData} (h:pL xs d=true):PyData.canLayAll0 xs=true/\d.canLay0=true/\min (PyData.depthAll xs) d.depth<=60:=by
  unfold pL at h;rw [Bool.and_eq_true,Bool.and_eq_true,decide_eq_true_eq] at h;exact ⟨h.1.1,h.1.2,h.2⟩
theorem At (hu:X.A.units+64 < cLine):jP X (compareOp .In) (EH X false):=by
  intro pins s σ H x y v u Q I rx ry h;rcases h with h | ⟨a,o,rfl,g,q⟩
  case inr =>
    cases ry;exact HJ (by omega) I g rx fun s' I'=>⟨.bl _,H,I',rfl,q⟩
  obtain ⟨d,xs,hx,hy,ho,q⟩:=h;obtain ⟨c1,c2,c3⟩:=pM ho;obtain ⟨as,r1⟩:=eO I.hok c2 hx rx;rcases hy with hy | hy
  · obtain ⟨bs,r2⟩:=eO I.hok (d:=.list xs) (by simpa only [PyData.canLay0] using c1) hy ry;exact PySem.SeqAt.in_list_reads r2 r1 c1 c2 (by omega) ⟨.bl _,H,I,rfl,q⟩
  · obtain ⟨bs,r2⟩:=eO I.hok (d:=.tuple xs) (by simpa only [PyData.canLay0] using c1) hy ry;exact PySem.SeqAt.in_tuple_reads r2 r1 c1 c2 (by omega) ⟨.bl _,H,I,rfl,q⟩
theorem yz (hu:X.A.units+64 < cLine):jP X (compareOp .NotIn) (EH X true):=by
  intro pins s σ H x y v u Q I rx ry h;rcases h with h | ⟨a,o,rfl,g,q⟩
  case inr =>
    cases ry;exact BG (by omega) I g rx fun s' I'=>⟨.bl _,H,I',rfl,q⟩
  obtain ⟨d,xs,hx,hy,ho,q⟩:=h;obtain ⟨c1,c2,c3⟩:=pM ho;obtain ⟨as,r1⟩:=eO I.hok c2 hx rx;rcases hy with hy | hy
  · obtain ⟨bs,r2⟩:=eO I.hok (d:=.list xs) (by simpa only [PyData.canLay0] using c1) hy ry;exact PySem.SeqAt.notIn_list_reads r2 r1 c1 c2 (by omega) ⟨.bl _,H,I,rfl,q⟩
  · obtain ⟨bs,r2⟩:=eO I.hok (d:=.tuple xs) (by simpa only [PyData.canLay0] using c1) hy ry;exact PySem.SeqAt.notIn_tuple_reads r2 r1 c1 c2 (by omega) ⟨.bl _,H,I,rfl,q⟩
theorem AU {neg:Bool}:cP X ia (EH X neg) (je neg):=fun H x y dx dy Q hx hy q=>by
  unfold je at q;split at q
  · split at q
    · rename_i h;exact .inl ⟨dx,_,hx,.inl hy,h,q _ H (aM.refl _) ft⟩
    · exact q.elim
  · split at q
    · rename_i h;exact .inl ⟨dx,_,hx,.inr hy,h,q _ H (aM.refl _) ft⟩
    · exact q.elim
  · split at q
    · exact q.elim
    rename_i hi;split at q
    · rename_i κ e;obtain ⟨a,ks,rfl,h,r⟩:=me (Bool.not_eq_true _ ▸ hi) hy;obtain ⟨o,g,e1,_⟩:=wJ (κ:=κ) h r;rw [<- wB hx e] at g;rw [<- ur e] at e1;exact .inr ⟨a,o,rfl,g,by rw [e1];exact q _ H (aM.refl _) ft⟩
    · exact q.elim
  · exact q.elim
theorem wv (hu:X.A.units+64 < cLine) (ha:Z.eo X a fa) (hb:Z.eo X b fb) (hm:behindInMarks .In b=false):Z.cU X (.Compare a [.In] [b] pos) (e2 (je false) fa fb):=⟨have ha:=ha.un;have hb:=hb.un;sy (At hu) AU ha hb hm⟩
theorem i6 (hu:X.A.units+64 < cLine) (ha:Z.eo X a fa) (hb:Z.eo X b fb) (hm:behindInMarks .In b=false):Z.oI X (.Compare a [.In] [b] pos) (tE (e2 (je false) fa fb)):=⟨have ha:=ha.un;have hb:=hb.un;gV (At hu) AU ha hb hm⟩
theorem iy (hu:X.A.units+64 < cLine) (ha:Z.eo X a fa) (hb:Z.eo X b fb) (hm:behindInMarks .NotIn b=false):Z.oI X (.Compare a [.NotIn] [b] pos) (tE (e2 (je true) fa fb)):=⟨have ha:=ha.un;have hb:=hb.un;gV (yz hu) AU ha hb hm⟩
end
inductive tq where
  | nx (ρ:aW)
  | rt (d:PyData)
  | bk (ρ:aW)
  | ct (ρ:aW)
noncomputable abbrev Fs:=aW->R tq
structure iZ (Fm H:Hp) (σ:St) (ρ:aW):Prop where
  fm:aM Fm H
  sl:Sl H σ ρ
  own:∀ (i:Nat) (d:PyData) (a:Addr),ρ[i]?=some (.own d)->σ[i]?=some (some (.ref a))->Fm a=none
  apart:∀ (i j:Nat) (d e:PyData) (a:Addr),ρ[i]?=some (.own d)->ρ[j]?=some (.own e)->σ[i]?=some (some (.ref a))->σ[j]?=some (some (.ref a))->i=j
theorem iZ.mono {Fm H H':Hp} {σ:St} {ρ:aW} (h:iZ Fm H σ ρ) (s:aM H H'):iZ Fm H' σ ρ:=⟨h.fm.trans s,h.sl.mono s,h.own,h.apart⟩
noncomputable def Bk (X:Cx) (Fm:Hp) (r:R tq) (D:rG):Prop :=
  match r with
  | .ok (.nx ρ)=>∀ σ H,iZ Fm H σ ρ->D.nx σ H
  | .ok (.rt d)=>∀ v H,aM Fm H->Rp H d v->D.rt v H
  | .ok (.bk ρ)=>∀ σ H,iZ Fm H σ ρ->D.bk σ H
  | .ok (.ct ρ)=>∀ σ H,iZ Fm H σ ρ->D.ct σ H
  | .ex c=>Xw X c Fm/\Fu X c Fm
  | .no=>False
noncomputable def Dw (X:Cx) (Fm:Hp) (g:Fs):TS:=fun D σ H=>∃ ρ,iZ Fm H σ ρ/\Bk X Fm (g ρ) D
noncomputable def kW (X:Cx) (st:Stmt) (g:Fs):Prop:=∀ Fm,PS X st (Dw X Fm g)
structure Z.kW (X:Cx) (st:Stmt) (g:Fs):Prop where
  un:D2.kW X st g
noncomputable def nq (X:Cx) (st:List Stmt) (g:Fs):Prop:=∀ Fm,rL X st (Dw X Fm g)
structure Z.nq (X:Cx) (st:List Stmt) (g:Fs):Prop where
  un:D2.nq X st g
theorem PS.imp {X:Cx} {e:Stmt} {t t':TS} (h:PS X e t) (i:∀ D σ H,t' D σ H->t D σ H):PS X e t':=fun pins s σ H D I q=>h pins s σ H D I (i D σ H q)
theorem rL.imp {X:Cx} {e:List Stmt} {t t':TS} (h:rL X e t) (i:∀ D σ H,t' D σ H->t D σ H):rL X e t':=fun pins s σ H D I q=>h pins s σ H D I (i D σ H q)
section
variable {X:Cx} {Fm:Hp} {σ:St} {H:Hp} {D:rG}
theorem nE {P:Hp->Hp->PyData->V->Prop} {f:Fe} {k:aW->PyData->R tq} (h:Dw X Fm (fun ρ=>f ρ>>=k ρ) D σ H) :
    jQ X P f σ H (fun v H1=>∃ ρ d,iZ Fm H1 σ ρ/\aM H H1/\P H H1 d v/\Bk X Fm (k ρ d) D):=by
  obtain ⟨ρ,sl,q⟩:=h;refine ⟨ρ,sl.sl,?_⟩;dsimp only at q;cases e:f ρ with
  | ok d=>rw [e] at q;exact fun v H1 s p=>⟨ρ,d,sl.mono s,s,p,q⟩
  | ex c=>rw [e] at q;exact q.1.mono sl.fm
  | no=>rw [e] at q;exact q
theorem wA {f:aW->R Bool} {k:aW->Bool->R tq} (h:Dw X Fm (fun ρ=>f ρ>>=k ρ) D σ H):CC X f σ H (fun b H1=>∃ ρ,iZ Fm H1 σ ρ/\aM H H1/\Bk X Fm (k ρ b) D):=by
  obtain ⟨ρ,sl,q⟩:=h;refine ⟨ρ,sl.sl,?_⟩;dsimp only at q;cases e:f ρ with
  | ok d=>rw [e] at q;exact fun H1 s=>⟨ρ,sl.mono s,s,q⟩
  | ex c=>rw [e] at q;exact q.1.mono sl.fm
  | no=>rw [e] at q;exact q
end
noncomputable def cn:Fs:=fun ρ=>.ok (.nx ρ)
noncomputable def rm (h:Fs):tq->R tq
  | .nx ρ=>h ρ
  | o=>.ok o
noncomputable def aR (g h:Fs):Fs:=fun ρ=>g ρ>>=rm h
noncomputable def iI (t:aW->R Bool) (g h:Fs):Fs:=fun ρ=>t ρ>>=fun b=>if b=true then g ρ else h ρ
noncomputable def cj (f:Fe):Fs:=fun ρ=>f ρ>>=fun d=>.ok (.rt d)
noncomputable def Gx:Fs:=fun _=>.ok (.rt .none)
noncomputable def Gv (f:Fe):Fs:=fun ρ=>f ρ>>=fun _=>.ok (.nx ρ)
noncomputable def EM:Fs:=fun ρ=>.ok (.bk ρ)
noncomputable def Gq:Fs:=fun ρ=>.ok (.ct ρ)
noncomputable def bN (i:Nat) (f:Fe):Fs:=fun ρ=>f ρ>>=fun d=>.ok (.nx (ρ.set i (.val d)))
noncomputable def gM (i:Nat) (f:Fe):Fs:=fun ρ=>f ρ>>=fun d=>.ok (.nx (ρ.set i (.own d)))
section
variable {X:Cx} {nl:Nat} {G:List Str} {st:Stmt} {sts:List Stmt} {g h:Fs} {f:Fe} {e:Expr} {pos pos':Pos} {x:Str}
theorem bL  : Z.nq X [] cn:=⟨fun Fm=>rL.imp Cy fun D σ H ⟨ρ,sl,q⟩=>q σ H sl⟩
theorem aj (h1:Z.kW X st g) (h2:Z.nq X sts h):Z.nq X (st::sts) (aR g h):=⟨have h1:=h1.un;have h2:=h2.un;fun Fm=>by
  refine rL.imp (p0 (h1 Fm) (h2 Fm)) fun D σ H ⟨ρ,sl,q⟩=>⟨ρ,sl,?_⟩
  unfold aR at q;cases e:g ρ with
  | ex c=>rw [e] at q;exact q
  | no=>rw [e] at q;exact q
  | ok o =>
    rw [e] at q;cases o with
    | nx ρ'=>exact fun σ' H' s'=>⟨ρ',s',q⟩
    | rt d=>exact q
    | bk ρ'=>exact q
    | ct ρ'=>exact q⟩
theorem ar (h1:Z.kW X st g):Z.nq X [st] g:=⟨have h1:=h1.un;fun Fm=>xi (h1 Fm)⟩
theorem aI (he:Z.cU X e f):Z.kW X (.Return (some e) pos) (cj f):=⟨have he:=he.un;fun Fm =>
  PS.imp (vR he) fun D σ H h=>(nE (P:=ia) (f:=f) (k:=fun _ d=>.ok (.rt d)) h).post fun v H1 ⟨ρ,d,sl,_,p,q⟩=>q v H1 sl.fm p⟩
theorem cf {c:Expr} {a b:List Stmt} {t:aW->R Bool} (hc:Z.oI X c t) (ha:Z.nq X a g) (hb:Z.nq X b h):Z.kW X (.If c a b pos) (iI t g h):=⟨have hc:=hc.un;have ha:=ha.un;have hb:=hb.un;fun Fm =>
  PS.imp (Gg hc (ha Fm) (hb Fm)) fun D σ H q=>(wA (f:=t) (k:=fun ρ b=>if b=true then g ρ else h ρ) q).post fun b H1 ⟨ρ,sl,_,q⟩=>by
    cases b with
    | true=>exact ⟨ρ,sl,q⟩
    | false=>exact ⟨ρ,sl,q⟩⟩
theorem Sl.set {H:Hp} {σ:St} {ρ:aW} {c:aT} {o:Option V} (h:Sl H σ ρ) (i:Nat) (hc:jS H c o):Sl H (σ.set i o) (ρ.set i c):=by
  refine ⟨by rw [List.length_set,List.length_set];exact h.1,fun j c' o' h1 h2=>?_⟩;rw [List.getElem?_set] at h1 h2;by_cases hij:i=j
  · rw [if_pos hij] at h1 h2;by_cases hi:i < ρ.length
    · rw [if_pos hi] at h1;rw [if_pos (by rw [h.1];exact hi)] at h2;cases h1;cases h2;exact hc
    · rw [if_neg hi] at h1;cases h1
  · rw [if_neg hij] at h1 h2;exact h.2 j c' o' h1 h2
theorem dL {ρ:aW} {i j:Nat} {c:aT} {d:PyData} (hc:∀ e,c≠.own e) (h:(ρ.set i c)[j]?=some (.own d)):i≠j/\ρ[j]?=some (.own d):=by
  rw [List.getElem?_set] at h;by_cases hij:i=j
  · rw [if_pos hij] at h;split at h
    · exact absurd (Option.some.inj h) (hc d)
    · cases h
  · rw [if_neg hij] at h;exact ⟨hij,h⟩
theorem iZ.set {Fm H:Hp} {σ:St} {ρ:aW} {c:aT} {o:Option V} (h:iZ Fm H σ ρ) (i:Nat) (hn:∀ e,c≠.own e) (hc:jS H c o):iZ Fm H (σ.set i o) (ρ.set i c):=by
  refine ⟨h.fm,h.sl.set i hc,fun j d a h1 h2=>?_,fun j k d e a h1 h2 h3 h4=>?_⟩
  · obtain ⟨ne,h1⟩:=dL hn h1;rw [List.getElem?_set,if_neg ne] at h2;exact h.own j d a h1 h2
  · obtain ⟨ne,h1⟩:=dL hn h1;obtain ⟨ne',h2⟩:=dL hn h2;rw [List.getElem?_set,if_neg ne] at h3;rw [List.getElem?_set,if_neg ne'] at h4;exact h.apart j k d e a h1 h2 h3 h4
theorem sF {H:Hp} {d:PyData} {v:V} (h:jl H d v):∃ a o,v=.ref a/\H a=some o:=by
  cases d <;> simp only [jl] at h
  · obtain ⟨a,vs,e,ha,_⟩:=h;exact ⟨a,_,e,ha⟩
  · obtain ⟨a,vs,e,ha,_⟩:=h;exact ⟨a,_,e,ha⟩
theorem iZ.setOwn {Fm H0 H:Hp} {σ:St} {ρ:aW} {d:PyData} {v:V} (h0:iZ Fm H0 σ ρ) (h:iZ Fm H σ ρ) (hs:aM H0 H) (i:Nat) (hn:Fc H0 H d v):iZ Fm H (σ.set i (some v)) (ρ.set i (.own d)):=by
  obtain ⟨p,a,rfl,ha⟩:=hn;have old:∀ (j:Nat) (e:PyData) (b:Addr),i≠j->(ρ.set i (.own d))[j]?=some (.own e)->(σ.set i (some (.ref a)))[j]?=some (some (.ref b))->ρ[j]?=some (.own e)/\σ[j]?=some (some (.ref b)):=fun j e b ne h1 h2=>by
    rw [List.getElem?_set,if_neg ne] at h1 h2;exact ⟨h1,h2⟩
  have notA:∀ (j:Nat) (e:PyData),ρ[j]?=some (.own e)->σ[j]?=some (some (.ref a))->False:=fun j e h1 h2=>by
    obtain ⟨u,e1,q⟩:=h0.sl.2 j _ _ h1 h2;cases e1;obtain ⟨b,o,e2,hb⟩:=sF q;cases e2;rw [ha] at hb;cases hb
  have here:∀ (b:Addr),(σ.set i (some (.ref a)))[i]?=some (some (.ref b))->b=a:=fun b h2=>by
    rw [List.getElem?_set,if_pos rfl] at h2;split at h2
    · cases h2;rfl
    · cases h2
  refine ⟨h.fm,h.sl.set i ⟨_,rfl,p⟩,fun j e b h1 h2=>?_,fun j k e f b h1 h2 h3 h4=>?_⟩
  · by_cases hij:i=j
    · subst hij;rw [here b h2];exact (h0.fm).free ha
    · obtain ⟨h1,h2⟩:=old j e b hij h1 h2;exact h.own j e b h1 h2
  · by_cases hij:i=j
    · subst hij;have eb:=here b h3;by_cases hik:i=k
      · exact hik
      · obtain ⟨h2,h4⟩:=old k f b hik h2 h4;rw [eb] at h4;exact (notA k f h2 h4).elim
    · obtain ⟨h1,h3⟩:=old j e b hij h1 h3;by_cases hik:i=k
      · subst hik;have eb:=here b h4;rw [eb] at h3;exact (notA j e h1 h3).elim
      · obtain ⟨h2,h4⟩:=old k f b hik h2 h4;exact h.apart j k e f b h1 h2 h3 h4
theorem aP (T:Tb X nl G) (i:Nat) (hN:(X.N.take nl)[i]?=some x) (he:Z.cU X e f) (hs:swapsWith e (some (.Name x pos')) pos.line X.env=pure false:=by rfl):Z.kW X (.Assign [.Name x pos'] e pos) (bN i f):=⟨have he:=he.un;fun Fm=>by
  have hm:=T.loc x (List.mem_of_getElem? hN);have hi:X.N[i]?=some x:=by
    rw [List.getElem?_take] at hN;split at hN
    · exact hN
    · cases hN
  exact PS.imp (vS T.nd hi hm.1 he hs hm.2) fun D σ H h=>(nE (P:=ia) (f:=f) (k:=fun ρ d=>.ok (.nx (ρ.set i (.val d)))) h).post fun v H1 ⟨ρ,d,sl,_,p,q⟩ =>
    q _ H1 (sl.set i (fun e z=>by cases z) ⟨v,rfl,p⟩)⟩
theorem fQ (T:Tb X nl G) (i:Nat) (hN:(X.N.take nl)[i]?=some x) (he:Z.qk X e f) (hs:swapsWith e (some (.Name x pos')) pos.line X.env=pure false:=by rfl):Z.kW X (.Assign [.Name x pos'] e pos) (gM i f):=⟨have he:=he.un;fun Fm=>by
  have hm:=T.loc x (List.mem_of_getElem? hN);have hi:X.N[i]?=some x:=by
    rw [List.getElem?_take] at hN;split at hN
    · exact hN
    · cases hN
  refine PS.imp (vS T.nd hi hm.1 he hs hm.2) fun D σ H h=>?_
  obtain ⟨ρ0,sl0,q0⟩:=h;refine ⟨ρ0,sl0.sl,?_⟩;unfold gM at q0;cases ef:f ρ0 with
  | ex c=>rw [ef] at q0;exact q0.1.mono sl0.fm
  | no=>rw [ef] at q0;exact q0
  | ok d =>
    rw [ef] at q0;exact fun v H1 s p=>q0 _ H1 (iZ.setOwn sl0 (sl0.mono s) s i p)⟩
end
structure yZ (J:It) (Gd:Hp->Prop) (ds:List PyData):Prop where
  go:∀ i H,Gd H->i < ds.length->J.go i H
  yld:∀ i H x H' d,Gd H->ds[i]?=some d->J.yld i H x H'->aM H H'/\Rp H' d x
  stop:∀ i H,Gd H->ds.length<=i->J.stop i H
noncomputable def G5 (H0:Hp) (B:Addr->Prop) (Gd:Hp->Prop):Prop:=∀ H,Kp H0 H->(∀ b o,B b->H0 b=some o->H b=some o)->Gd H
noncomputable def IJ (X:Cx) (f:aW->R (List PyData)):TI:=fun σ H Rk=>∃ ρ,Sl H σ ρ/\match f ρ with
  | .ok ds=>∀ J H',aM H H'->(∃ Gd,yZ J Gd ds/\G5 H' (fun _=>False) Gd)->Rk J H'
  | .ex c=>Xw X c H
  | .no=>False
noncomputable def tm (X:Cx) (tg iter:Expr) (f:aW->R (List PyData)):Prop:=PI X tg iter (IJ X f)
structure Z.tm (X:Cx) (tg iter:Expr) (f:aW->R (List PyData)):Prop where
  un:D2.tm X tg iter f
noncomputable def II (X:Cx) (b:PyData->aW->Option aW):TG:=fun v σ H Q=>∃ ρ d,Sl H σ ρ/\Rp H d v/\match b d ρ with
  | some ρ'=>∀ σ',Sl H σ' ρ'->(∀ (i:Nat) (e:PyData),ρ'[i]?=some (.own e)->ρ[i]?=some (.own e)/\σ'[i]?=σ[i]?)->Q σ' H
  | none=>False
noncomputable def u0 (X:Cx) (tg:Expr) (b:PyData->aW->Option aW):Prop:=PG X tg (II X b)
structure Z.u0 (X:Cx) (tg:Expr) (b:PyData->aW->Option aW):Prop where
  un:D2.u0 X tg b
noncomputable def aU (i:Nat):PyData->aW->Option aW:=fun d ρ=>some (ρ.set i (.val d))
theorem PG.imp {X:Cx} {e:Expr} {t t':TG} (h:PG X e t) (i:∀ v σ H Q,t' v σ H Q->t v σ H Q):PG X e t':=fun pins s σ H v u Q I r q=>h pins s σ H v u Q I r (i v σ H Q q)
theorem PI.imp {X:Cx} {tg e:Expr} {t t':TI} (h:PI X tg e t) (i:∀ σ H Q,t' σ H Q->t σ H Q):PI X tg e t':=fun pins s σ H Q I q=>h pins s σ H Q I (i σ H Q q)
section
variable {X:Cx} {nl:Nat} {G:List Str} {x:Str} {pos:Pos}
theorem Tb.nm (T:Tb X nl G) {i:Nat} (hN:(X.N.take nl)[i]?=some x):X.N[i]?=some x/\Dc X.env.scope x/\(X.fn x=true\/X.env.scope.names.lookup x=some .local):=by
  have hm:=T.loc x (List.mem_of_getElem? hN);have hi:X.N[i]?=some x:=by
    rw [List.getElem?_take] at hN;split at hN
    · exact hN
    · cases hN
  exact ⟨hi,hm⟩
theorem aX (T:Tb X nl G) (i:Nat) (hN:(X.N.take nl)[i]?=some x):Z.u0 X (.Name x pos) (aU i):=⟨by
  obtain ⟨hi,h1,h2⟩:=T.nm hN;refine PG.imp (sG T.nd hi h1 h2) fun v σ H Q zq0=>?_
  obtain ⟨ρ,d,sl,p,q⟩:=zq0;refine q _ (sl.set i ⟨v,rfl,p⟩) fun j e h=>?_
  obtain ⟨ne,h⟩:=dL (fun e z=>by cases z) h;exact ⟨h,by rw [List.getElem?_set,if_neg ne]⟩⟩
end
noncomputable def fT (b:PyData->aW->Option aW) (g:Fs):List PyData->Fs
  | [],ρ=>.ok (.nx ρ)
  | d::ds,ρ=>match b d ρ with
    | none=>.no
    | some ρ1=>g ρ1>>=fun o=>match o with
      | .nx ρ2=>fT b g ds ρ2
      | .ct ρ2=>fT b g ds ρ2
      | .bk ρ2=>.ok (.nx ρ2)
      | .rt r=>.ok (.rt r)
noncomputable def jd (it:aW->R (List PyData)) (b:PyData->aW->Option aW) (g:Fs):Fs:=fun ρ=>it ρ>>=fun ds=>fT b g ds ρ
noncomputable def stab (Fm H:Hp):Hp:=fun b=>match H b with
  | some (.tup xs)=>some (.tup xs)
  | some (.frz o u)=>some (.frz o u)
  | _=>Fm b
theorem yL {Fm H:Hp} (h:aM Fm H):aM (stab Fm H) H:=fun b o e=>by
  unfold stab at e;split at e
  · rename_i q;rw [q];exact e
  · rename_i q;rw [q];exact e
  · exact h b o e
theorem CO {Fm H:Hp}:Kp H (stab Fm H):=⟨fun b xs e=>by unfold stab;rw [e],fun b o u e=>by unfold stab;rw [e]⟩
theorem CN {Fm H:Hp} (h:aM Fm H):aM Fm (stab Fm H):=fun b o e=>by
  have:=h b o e;unfold stab;split
  · rename_i q;rw [this] at q;exact q.symm
  · rename_i q;rw [this] at q;exact q.symm
  · exact e
theorem iZ.stab {Fm H:Hp} {σ:St} {ρ:aW} (h:iZ Fm H σ ρ):iZ (stab Fm H) H σ ρ:=by
  refine ⟨yL h.fm,h.sl,fun i d a h1 h2=>?_,h.apart⟩;have f:=h.own i d a h1 h2;obtain ⟨u,e1,q⟩:=h.sl.2 i _ _ h1 h2;cases e1;unfold D2.stab;cases d <;> simp only [jl] at q
  · obtain ⟨b,vs,e,hb,_⟩:=q;cases e;rw [hb];exact f
  · obtain ⟨b,vs,e,hb,_⟩:=q;cases e;rw [hb];exact f
theorem iZ.unstab {Fm F H:Hp} {σ:St} {ρ:aW} (hF:aM Fm F) (h:iZ F H σ ρ):iZ Fm H σ ρ:=⟨hF.trans h.fm,h.sl,fun i d a h1 h2=>hF.free (h.own i d a h1 h2),h.apart⟩
theorem eE {X:Cx} {tg iter:Expr} {body:List Stmt} {it:aW->R (List PyData)} {b:PyData->aW->Option aW} {g:Fs} {pos:Pos} (hp:PassesOwn (model X.prog X.w) X.A X.env X.xe) (hc:X.calm=true) (hi:Z.tm X tg iter it) (hg:Z.u0 X tg b) (hb:Z.nq X body g) (hs:∀ x,foldedSetIterable iter X.env x=pure x:=by intro _;rfl):Z.kW X (.For tg iter body [] pos) (jd it b g):=⟨have hi:=hi.un;have hg:=hg.un;have hb:=hb.un;fun Fm=>by
  intro pins s σ H D I h;obtain ⟨ρ,sl,q⟩:=h;unfold jd at q
  -- the frame: what is stable at the loop's jO is only known behind the iterator's making: the body is taken at every frame
  refine EE (wi:=IJ X it) (g:=II X b) (tb:=fun D' σ' H'=>∃ F,Dw X F g D' σ' H') hp hc hi hg (fun pins' s' σ' H' D' I' ⟨F,q'⟩=>hb F pins' s' σ' H' D' I' q') hs pins s σ H D I ?_;refine ⟨ρ,sl.sl,?_⟩;cases ei:it ρ with
  | ex c=>rw [ei] at q;exact q.1.mono sl.fm
  | no=>rw [ei] at q;exact q
  | ok ds =>
    rw [ei] at q;intro J H1 s1 ⟨Gd,idt,sta⟩;have sl1:=sl.mono s1;let F:=stab Fm H1
    have hF:aM Fm F:=CN sl1.fm
    -- the word: so many items are taken,and the eI gives what the whole gives
    refine ⟨fun i m σ' H'=>m=ds.length-i/\i<=ds.length/\∃ ρ',iZ F H' σ' ρ'/\Bk X Fm (fT b g (ds.drop i) ρ') D,⟨ds.length,by simp,Nat.zero_le _,ρ,sl1.stab,by simpa using q⟩,?_⟩;rintro i m σ2 H2 ⟨rfl,hi',ρ2,sl2,q2⟩;have gd:Gd H2:=sta H2 (Kp.trans CO (Kp.of sl2.fm)) fun _ _ z=>z.elim
    by_cases hlt:i < ds.length
    · refine .inr ⟨idt.go i H2 gd hlt,fun σ' H'=>i+1<=ds.length/\∃ ρ',iZ F H' σ' ρ'/\Bk X Fm (fT b g (ds.drop (i+1)) ρ') D,fun σ' H' ⟨z,p⟩=>⟨ds.length-(i+1),by omega,rfl,z,p⟩,fun x H3 y=>?_⟩;obtain ⟨d,hd⟩:∃ d,ds[i]?=some d:=⟨ds[i],List.getElem?_eq_getElem hlt⟩
      obtain ⟨s3,p3⟩:=idt.yld i H2 x H3 d gd hd y;have hdrop:ds.drop i=d::ds.drop (i+1):=by
        rw [List.drop_eq_getElem_cons hlt];congr 1;exact Option.some.inj ((List.getElem?_eq_getElem hlt).symm.trans hd)
      rw [hdrop] at q2;unfold fT at q2;have sl3:=sl2.mono s3;refine ⟨ρ2,d,sl3.sl,p3,?_⟩;cases eb:b d ρ2 with
      | none=>rw [eb] at q2;exact q2
      | some ρ3 =>
        rw [eb] at q2;intro σ4 sl4 hown;refine ⟨F,ρ3,⟨sl3.fm,sl4,fun j e a h1 h2=>?_,fun j k e f a h1 h2 h3 h4=>?_⟩,?_⟩
        · obtain ⟨z1,z2⟩:=hown j e h1;exact sl3.own j e a z1 (by rw [<- z2];exact h2)
        · obtain ⟨z1,z2⟩:=hown j e h1;obtain ⟨z3,z4⟩:=hown k f h2;exact sl3.apart j k e f a z1 z3 (by rw [<- z2];exact h3) (by rw [<- z4];exact h4)
        · have q3:Bk X Fm (g ρ3>>=fun o=>match o with
            | .nx ρ2=>fT b g (ds.drop (i+1)) ρ2
            | .ct ρ2=>fT b g (ds.drop (i+1)) ρ2
            | .bk ρ2=>.ok (.nx ρ2)
            | .rt r=>.ok (.rt r)) D:=q2
          cases eg:g ρ3 with
          | ex c=>rw [eg] at q3;exact ⟨q3.1.mono hF,q3.2.mono hF⟩
          | no=>rw [eg] at q3;exact q3
          | ok o =>
            rw [eg] at q3;cases o with
            | nx ρ4=>exact fun σ' H' s'=>⟨hlt,ρ4,s',q3⟩
            | ct ρ4=>exact fun σ' H' s'=>⟨hlt,ρ4,s',q3⟩
            | bk ρ4=>exact fun σ' H' s'=>q3 σ' H' (s'.unstab hF)
            | rt r=>exact fun v H' s' p'=>q3 v H' (hF.trans s') p'
    · have e:i=ds.length:=by omega
      subst e;refine .inl ⟨idt.stop _ H2 gd (Nat.le_refl _),?_⟩;rw [List.drop_length] at q2;exact q2 σ2 H2 (sl2.unstab hF)⟩
noncomputable def dP (n:Nat) (g:Fs):List PyData->R PyData:=fun ds=>g (ds.map aT.val++List.replicate (n-ds.length) .non)>>=fun o=>match o with
  | .rt d=>.ok d
  | .nx _=>.ok .none
  | _=>.no
noncomputable def dC (F:List PyData->R PyData) (n:Nat):Sp:=fun vs H Q E=>∃ ds,bD H ds vs/\ds.length=n/\match F ds with
  | .ok d=>∀ v H',aM H H'->Rp H' d v->Q v H'
  | .ex c=>∀ H',aM H H'->E (.str c 0) none H'
  | .no=>False
theorem AT {H:Hp} {N:List Str}:∀ {ds:List PyData} {vs:List V},bD H ds vs->Sl H (L2.jO N vs) (ds.map aT.val++List.replicate (N.length-ds.length) .non):=fun {ds vs} r=>by
  have hl:=r.length;refine ⟨by unfold L2.jO;rw [List.length_append,List.length_append,List.length_map,List.length_map,List.length_replicate,List.length_replicate,hl],fun i c o h1 h2=>?_⟩;by_cases hi:i < ds.length
  · rw [List.getElem?_append_left (by simpa using hi),List.getElem?_map] at h1;cases e:ds[i]? with
    | none=>rw [e] at h1;cases h1
    | some d =>
      rw [e] at h1;cases h1;obtain ⟨v,e1,p⟩:=r.get e;unfold L2.jO at h2;rw [List.getElem?_append_left (by rw [List.length_map,hl];exact hi),List.getElem?_map,e1] at h2;cases h2;exact ⟨v,rfl,p⟩
  · rw [List.getElem?_append_right (by simpa using hi),List.getElem?_replicate] at h1;split at h1
    · cases h1;exact True.intro
    · cases h1
section
variable {P:Program} {w:World} {H:Hp} {h:Heap} {a:Addr}
theorem sE:∀ {o:HO},cm P w H h a o->∃ u,h.get? a=some u
  | .lst xs,x=>by obtain ⟨_,_,_,_,e⟩:=x;exact ⟨_,e⟩
  | .tup xs,x=>by obtain ⟨_,_,_,o,e,_⟩:=x;exact ⟨_,e⟩
  | .dK kvs,x=>by obtain ⟨_,_,_,_,o,_,_,e,_⟩:=x;exact ⟨_,e⟩
  | .dT kvs,x=>by obtain ⟨_,_,_,_,o,_,_,e,_⟩:=x;exact ⟨_,e⟩
  | .set S n,x=>by obtain ⟨o,_,_,_,e,_⟩:=x;exact ⟨_,e⟩
  | .ins C dx fs,x=>by obtain ⟨_,_,_,e,_⟩:=x;exact ⟨_,e⟩
  | .own y,x=>by obtain ⟨_,e⟩:=x;exact ⟨_,e⟩
  | .xd fs,x=>by obtain ⟨_,⟨_,_,_,e,_⟩,_⟩:=x;exact ⟨_,e⟩
  | .rng lo hi,x=>by obtain ⟨_,_,_,e⟩:=x;exact ⟨_,e⟩
  | .frz ob u,x=>by obtain ⟨e,_⟩:=x;exact ⟨_,e⟩
  | .tbl ps,x=>⟨_,(show h.get? a=some _ from x)⟩
  | .met f y,x=>⟨_,(show h.get? a=some _ from x)⟩
  | .ext φ,x=>by obtain ⟨_,⟨_,e⟩,_⟩:=x;exact ⟨_,e⟩
end
theorem rH.un {P:Program} {w:World} {outer:List Env} {H H':Hp} {s s':Shared} {C:Addr} {e:Value} (f:rH P w outer H s C H' e s'):Un (lS outer) [] H H' s.heap s'.heap:=by
  obtain ⟨p,a0,B,_,fl,ok,_,cov⟩:=f.ex;refine ⟨fun b o q n hb _=>fl.1 _ _ (cov b o q n hb).1,fun b o q n hb _=>(f.slot b o q n hb).1,fun b o q n _=>?_,fun b o q _=>?_,fun b xs q=>f.same _ _ q,fun b o u q=>f.same _ _ q,fun b ps q=>⟨#[],by rw [f.same _ _ q];simp⟩⟩
  · by_cases hb:b∈lS outer
    · exact (f.slot b o q n hb).2
    · exact (cov b o q n hb).2
  · cases n:H b with
    | none =>
      by_cases hb:b∈lS outer
      · obtain ⟨sl,z⟩:=(f.slot b o q n hb).1;exact ⟨_,z⟩
      · exact ⟨o,fl.1 _ _ (cov b o q n hb).1⟩
    | some u =>
      obtain ⟨o',z⟩:=sE (ok b u (f.same _ _ n));exact ⟨o',fl.1 _ _ z⟩
theorem rH.hok {P:Program} {w:World} {outer:List Env} {H H':Hp} {s s':Shared} {C:Addr} {e:Value} (f:rH P w outer H s C H' e s'):iO P w H' s'.heap:=by
  obtain ⟨p,a0,B,_,fl,ok,_,_⟩:=f.ex;exact ok.kept fun b u q=>fl.1 b u q
theorem n5.un {P:Program} {w:World} {outer:List Env} {H H':Hp} {s s':Shared} {C:Addr} {e:Value} (f:n5 P w outer H s C H' e s'):Un (lS outer) [] H H' s.heap s'.heap:=f.hld.un
theorem n5.hok {P:Program} {w:World} {outer:List Env} {H H':Hp} {s s':Shared} {C:Addr} {e:Value} (f:n5 P w outer H s C H' e s'):iO P w H' s'.heap:=f.hld.hok
theorem rH.inv {X:Cx} {pins:List (Addr×Obj)} {σ:St} {Hc H1:Hp} {sc s':Shared} {C:Addr} {e:Value} (f:rH X.prog X.w X.stack Hc sc C H1 e s') (I:aS X pins σ Hc sc):aS X pins σ H1 s' :=
  I.call' f.os f.un f.hok f.bare fun b z=>absurd z (by simp)
section
variable {P:Program} {w:World} {l:List Env} {H H':Hp} {s s':Shared} {C p:Addr} {e:Value}
theorem rH.again {a0:Value} {B h':Heap} (f:rH P w l H s C H' e s') (t:tI B l p (.ref C) a0 s'.heap) (t':tI B l p (.ref C) a0 h') (up:s'.heap.UpToSlots h') (okB:iO P w H' B) (hp:H' p=none)
    (cov:∀ b o,s.heap.get? b=some o->H b=none->b∉lS l->B.get? b=some o/\H' b=none):rH P w l H s C H' (.ref p) { s' with heap:=h' }:=by
  refine ⟨f.os,f.bare,f.same,⟨p,a0,B,rfl,t',okB,hp,cov⟩,fun b o q n hb=>?_⟩;obtain ⟨⟨sl,q2⟩,n2⟩:=f.slot b o q n hb;obtain ⟨_,o3,q3,nf⟩:=t.2.2.1.mem hb;rw [q2] at q3;cases q3;obtain ⟨sl3,q4⟩:=up b _ q2 nf;exact ⟨⟨sl3,q4⟩,n2⟩
theorem Aq {x:Value} {env env0:Env} (h:env.frame=env0.frame):noteFrame x env=noteFrame x env0:=by
  unfold noteFrame PySem.frameOf;rw [h]
theorem rH.note {M:Model} {A:Around} {E:Value->Shared->Prop} {Q:Unit->Shared->Prop} {env env0:Env} {outer:List Env} {L:Addr} (f:rH P w l H s C H' e s') (hl:l=env0::outer) (hfr:A.frames=some l) (h0:env0.frame=some L) (h1:env.frame=some L)
    (k:∀ h',rH P w l H s C H' e { s' with heap:=h' }->s'.heap.UpToSlots h'->Q () { s' with heap:=h' }):wpAny M A (noteFrame e env) Q E s':=by
  subst hl;obtain ⟨p,a0,B,rfl,t,okB,hp,cov⟩:=f.ex;rw [Aq (h1.trans h0.symm)];exact uL hfr h0 t fun h' t' up=>k h' (f.again t t' up okB hp cov) up
theorem rH.pass {α:Type} {M:Model} {A:Around} {E:Value->Shared->Prop} {Q:α->Shared->Prop} {env:Env} {what:String} (f:rH P w l H s C H' e s') (k:∀ h',rH P w l H s C H' e { s' with heap:=h' }->E e { s' with heap:=h' }):wpAny M A (PySem.passOn what e env:Sem α) Q E s':=by
  obtain ⟨p,a0,B,rfl,t,okB,hp,cov⟩:=f.ex;exact A2 t fun h' t' up=>k h' (f.again t t' up okB hp cov)
end
section
variable {P:Program} {w:World} {K:PySem.W.Frag} {mg:Str->Option Value} {base:Heap} {N:List Str} {qual:Str} {sc:Scope} {f:Addr} {cdv:Value} {A:Around} {outer:List Env} {s:Shared} {H:Hp} {E:XK} {c:Str}
theorem E9 (h:∀ H',aM H H'->E (.str c 0) none H'):Xw (gE (cS P w mg) P w K mg base N qual sc f cdv A outer s H E) c H:=by
  intro H1 s1 C hm pins σ Hc sc' e s' I fl;obtain ⟨p,a0,B,rfl,fly,okB,hp,cov⟩:=fl.ex;have old:∀ b o,s.heap.get? b=some o->b≠s.heap.objs.size:=fun b o q=>Nat.ne_of_lt (Heap.lt_size q)
  refine yO I.ok.frames rfl fly fun h' fl' up=>⟨c,C,H1,hm,⟨fl.os.trans I.os,fl.bare,s1,⟨p,a0,B,rfl,fl',okB,hp,fun b o q n hb=>?_⟩,fun b o q n hb=>?_⟩,h H1 s1⟩
  · have q1:=I.base.keep b o q n hb (by simp [gE]);have n1:=I.base.free b o q n (by simp [gE]);refine cov b o q1 n1 fun z=>?_
    have z':b∈(s.heap.objs.size::lS outer):=z;rcases List.mem_cons.mp z' with z2 | z2
    · exact old b o q z2
    · exact hb z2
  · obtain ⟨sl,q1⟩:=I.base.slot b o q n hb (by simp [gE]);have n1:=I.base.free b o q n (by simp [gE]);have hb':b∈lS (gE (cS P w mg) P w K mg base N qual sc f cdv A outer s H E).stack:=List.mem_cons_of_mem _ hb;obtain ⟨⟨sl',q2⟩,n2⟩:=fl.slot b _ q1 n1 hb';obtain ⟨_,o3,q3,nf⟩:=fly.2.2.1.mem hb';rw [q2] at q3;cases q3;obtain ⟨sl3,q4⟩:=up b _ q2 nf;exact ⟨⟨sl3,q4⟩,n2⟩
theorem CZ (h:∀ H',aM H H'->E (.str c 0) none H'):Fu (gE (cS P w mg) P w K mg base N qual sc f cdv A outer s H E) c H:=by
  intro C hm pins σ Hm sm sH I h' p vs hx;have hin:∀ env∈(gE (cS P w mg) P w K mg base N qual sc f cdv A outer s H E).stack,∀ b,env.frame=some b->b∈lS (gE (cS P w mg) P w K mg base N qual sc f cdv A outer s H E).stack:=fun env he b hb=>List.mem_filterMap.mpr ⟨env,he,hb⟩
  have old:∀ b o,s.heap.get? b=some o->b≠s.heap.objs.size:=fun b o q=>Nat.ne_of_lt (Heap.lt_size q)
  refine wpAny_leaves_madeW (s:={ sm with heap:=h' }) (base:=PySem.W.hideAll sm.heap (lS (gE (cS P w mg) P w K mg base N qual sc f cdv A outer s H E).stack)) I.ok.frames rfl (fun b o q=>PySem.W.of_hideAll _ q) (PySem.W.funFrames_hide I.stack hin) hx fun h'' t fl' _ _ up =>
    ⟨c,C,Hm,hm,⟨I.os,I.bare,sH,⟨p,.ref t,_,rfl,fl',fun b u q=>?_,?_,fun b o q n hb=>?_⟩,fun b o q n hb=>?_⟩,h Hm sH⟩
  · refine (I.hok b u q).stay (fun c' v hc z=>PySem.W.hideAll_get _ z fun m=>?_) (fun _ z=>z) fun _ _ z=>z
    have hn:=I.stkFree c' m;rcases hc with rfl | hc
    · rw [hn] at q;cases q
    · rw [hn] at hc;cases hc
  · cases q:Hm p with
    | none=>rfl
    | some u =>
      obtain ⟨o',z⟩:=sE (I.hok p u q);rw [hx.new] at z;cases z
  · have q1:=I.base.keep b o q n hb (by simp [gE]);have n1:=I.base.free b o q n (by simp [gE]);refine ⟨PySem.W.hideAll_get _ q1 fun z=>?_,n1⟩;have z':b∈(s.heap.objs.size::lS outer):=z;rcases List.mem_cons.mp z' with z2 | z2
    · exact old b o q z2
    · exact hb z2
  · obtain ⟨sl,q1⟩:=I.base.slot b o q n hb (by simp [gE]);have n1:=I.base.free b o q n (by simp [gE]);have hb':b∈lS (gE (cS P w mg) P w K mg base N qual sc f cdv A outer s H E).stack:=List.mem_cons_of_mem _ hb;obtain ⟨_,o3,q3,nf⟩:=I.stack.mem hb';rw [q1] at q3;cases q3;obtain ⟨sl3,q4⟩:=up b _ (hx.keeps _ _ q1) nf;exact ⟨⟨sl3,q4⟩,n1⟩
end
theorem BS {P:Program} {w:World} {K:PySem.W.Frag} {mg:Str->Option Value} {base:Heap} {x qual:Str} {st:Stmt} {f:Addr} {fd:FuncData} {N ps:List Str} {k:Nat} {g:Fs} (F:gn K x qual st f fd) (S:aY N ps (aq st))
    (body:∀ (cdv:Value) (A:Around) (outer:List Env) (s:Shared) (H:Hp) (E:XK),fG k (A.deeper (envOfC qual (aq st) s.heap.objs.size f cdv)) ->
      nq (gE (cS P w mg) P w K mg base N qual (aq st) f cdv A outer s H E) (dA st) g):bd P w K mg base (cS P w mg) (k+1) f fd ps (dC (dP N.length g) ps.length):=by
  obtain ⟨oc,od,kV,doc,pm,an,cdv,ct,osl,rfl,lk,hcd⟩:=F.ex;refine zM lk hcd S (fun vs H Q E ⟨ds,r,hl,_⟩=>by rw [r.length];exact hl) fun A outer s H vs Q E hr h=>?_
  obtain ⟨ds,r,hl,q⟩:=h;have noOwn:∀ (i:Nat) (d:PyData),(ds.map aT.val++List.replicate (N.length-ds.length) aT.non)[i]?=some (.own d)->False:=fun i d h1=>by
    by_cases hi:i < ds.length
    · rw [List.getElem?_append_left (by simpa using hi),List.getElem?_map] at h1;cases e:ds[i]? with
      | none=>rw [e] at h1;cases h1
      | some d=>rw [e] at h1;cases h1
    · rw [List.getElem?_append_right (by simpa using hi),List.getElem?_replicate] at h1;split at h1
      · cases h1
      · cases h1
  refine ⟨_,body cdv A outer s H E hr H,_,⟨aM.refl _,AT r,fun i d a h1 h2=>(noOwn i d h1).elim,fun i j d e a h1 h2 h3 h4=>(noOwn i d h1).elim⟩,?_⟩;unfold dP at q;cases eg:g (ds.map aT.val++List.replicate (N.length-ds.length) .non) with
  | ex c=>rw [eg] at q;exact ⟨E9 q,CZ q⟩
  | no=>rw [eg] at q;exact q.elim
  | ok o =>
    rw [eg] at q;cases o with
    | rt d=>exact fun v H' s' p=>q v H' s' p
    | nx ρ=>exact fun σ' H' s'=>q .non H' s'.fm (by simp only [Rp])
    | bk ρ=>exact q.elim
    | ct ρ=>exact q.elim
noncomputable def aC (F:List PyData->R PyData) (fs:aW->R (List PyData)):Fe:=fun ρ=>fs ρ>>=F
theorem BQ {X:Cx} {k n:Nat} {f:Addr} {fd:FuncData} {ps:List Str} {F:List PyData->R PyData} {x:Str} {p pos:Pos} {e:Expr} {es:List Expr} {fs:aW->R (List PyData)} {nl:Nat} {G:List Str}
    (C:bd X.prog X.w X.K X.mg X.base (cS X.prog X.w X.mg) k f fd ps (dC F n)) (hr:fG k X.A) (T:Tb X nl G) (j:Nat) (hG:G[j]?=some x) (hm:X.mg x=some (.ref f)) (hk:PySem.W.keepIn X.K (.ref f)=true) (hb:bz X.K fd ps []) (ha:tj X (e::es) fs)
    (hlen:(e::es).length=n) (hfs:∀ ρ ds,fs ρ=.ok ds->ds.length=n)
    (he:(e::es).all bh=true:=by rfl):cU X (.Call (.Name x p) (e::es) [] pos) (aC F fs):=by
  rw [List.all_cons,Bool.and_eq_true] at he;have g:=T.gl x (List.mem_of_getElem? hG);refine PE.imp (Cm C hr g.1 hm hk hb .nil xg ha g.2.1 (bP he.1) (mU he.2)) fun σ H Q zq0=>?_
  obtain ⟨ρ,sl,q⟩:=zq0;refine ⟨ρ,sl,?_⟩;unfold aC at q;cases e1:fs ρ with
  | ex c=>rw [e1] at q;exact q
  | no=>rw [e1] at q;exact q
  | ok ds =>
    rw [e1] at q;intro vs H1 s1 r1;rw [List.append_nil];refine ⟨ds,nT.mp r1,hfs ρ ds e1,?_⟩;have q':vV X ia (F ds) H Q:=q;cases e2:F ds with
    | ok d=>rw [e2] at q';exact fun v H' s' p'=>q' v H' (s1.trans s') p'
    | ex c=>rw [e2] at q';exact fun H' s'=>Xw.ex q' H' (s1.trans s')
    | no=>rw [e2] at q';exact q'
theorem au:∀ ρ ds,az ρ=.ok ds->ds.length=0:=fun ρ ds e=>by cases e;rfl
theorem ag {f:Fe} {g:aW->R (List PyData)} {n:Nat} (h:∀ ρ ds,g ρ=.ok ds->ds.length=n):∀ ρ ds,ah f g ρ=.ok ds->ds.length=n+1:=fun ρ ds e=>by
  unfold ah at e;cases e1:f ρ with
  | ex c=>rw [e1] at e;cases e
  | no=>rw [e1] at e;cases e
  | ok d =>
    rw [e1] at e;cases e2:g ρ with
    | ex c=>rw [e2] at e;cases e
    | no=>rw [e2] at e;cases e
    | ok ds'=>rw [e2] at e;cases e;rw [List.length_cons,h ρ ds' e2]
theorem vk {scope:Scope} {env:Env} (h:∀ x∈scope.names,x.2=.free->∃ c,env.cells.lookup x.1=some c) :
    ∃ cl,closureFor scope env=pure cl/\(∀ x c,cl.lookup x=some c->env.cells.lookup x=some c)/\∀ x∈scope.names,x.2=.free->∃ c,cl.lookup x.1=some c:=by
  suffices gen:∀ (names:List (Str×NameKind)) (acc:List (Str×Addr)),(∀ x∈names,x.2=.free->∃ c,env.cells.lookup x.1=some c)->(∀ x c,acc.lookup x=some c->env.cells.lookup x=some c) ->
      ∃ cl,(forIn names acc fun x r=>if (x.snd==NameKind.free)=true then do let a <- cellOf env x.fst;pure (ForInStep.yield ((x.fst,a)::r)) else pure (ForInStep.yield r):Sem (List (Str×Addr)))=pure cl /\
        (∀ x c,cl.lookup x=some c->env.cells.lookup x=some c)/\(∀ x c,acc.lookup x=some c->∃ c',cl.lookup x=some c')/\∀ x∈names,x.2=.free->∃ c,cl.lookup x.1=some c by
    obtain ⟨cl,h1,h2,_,h4⟩:=gen scope.names [] h fun x c e=>by simp at e
    refine ⟨cl,?_,h2,h4⟩;simp only [closureFor];rw [h1];rfl
  intro names;induction names with
  | nil=>intro acc _ ha;exact ⟨acc,rfl,ha,fun x c e=>⟨c,e⟩,fun x hx=>by cases hx⟩
  | cons y r ih =>
    intro acc hn ha;obtain ⟨n,k⟩:=y;by_cases hk:k=.free
    · subst hk;obtain ⟨c,hc⟩:=hn (n,.free) List.mem_cons_self rfl;obtain ⟨cl,e1,e2,e3,e4⟩:=ih ((n,c)::acc) (fun x hx=>hn x (List.mem_cons_of_mem _ hx)) (fun x c' e=>by
        rw [List.lookup_cons] at e;split at e
        · rename_i q;have:x=n:=by simpa using q
          subst this;cases e;exact hc
        · exact ha x c' e)
      refine ⟨cl,?_,e2,fun x c' e=>?_,fun x hx hf=>?_⟩
      · rw [List.forIn_cons];have:cellOf env n=pure c:=by unfold cellOf;rw [hc]
        simp only [beq_self_eq_true,if_true,this,pure_bind];exact e1
      · by_cases hx:x=n
        · subst hx;exact e3 x c (by rw [List.lookup_cons];simp)
        · have hb:(x==n)=false:=by simpa using hx
          exact e3 x c' (by rw [List.lookup_cons,hb];exact e)
      · rcases List.mem_cons.mp hx with rfl | hx
        · exact e3 n c (by rw [List.lookup_cons];simp)
        · exact e4 x hx hf
    · obtain ⟨cl,e1,e2,e3,e4⟩:=ih acc (fun x hx=>hn x (List.mem_cons_of_mem _ hx)) ha;refine ⟨cl,?_,e2,e3,fun x hx hf=>?_⟩
      · rw [List.forIn_cons];have:(k==NameKind.free)=false:=by simpa using hk
        simp only [this,Bool.false_eq_true,if_false,pure_bind];exact e1
      · rcases List.mem_cons.mp hx with rfl | hx
        · exact absurd hf hk
        · exact e4 x hx hf
noncomputable def Go (env:Env) (p:Str×NameKind):NameKind:=if (p.2==.free&&env.scope.kind==.function&&env.kindOf p.1==some .cell)=true then .cell else p.2
theorem qB (scope:Scope) (env:Env):(relabel scope env).names=scope.names.map fun p=>(p.1,Go env p):=by
  unfold relabel;refine List.map_congr_left fun p _=>?_
  obtain ⟨n,k⟩:=p;unfold Go;dsimp only;split <;> rfl
theorem oq (g:Str×NameKind->NameKind) (x:Str):∀ l:List (Str×NameKind),(l.map fun p=>(p.1,g p)).lookup x=(l.lookup x).map fun k=>g (x,k)
  | []=>rfl
  | (n,k)::r=>by
    rw [List.map_cons];cases hx:x==n with
    | true =>
      have e:x=n:=by simpa using hx
      subst e;simp
    | false =>
      have ne:¬ x=n:=by simpa using hx
      simp only [List.lookup_cons,hx];exact oq g x r
theorem lM (scope:Scope) (env:Env) (x:Str):(relabel scope env).names.lookup x=(scope.names.lookup x).map fun k=>Go env (x,k):=by
  rw [qB];exact oq _ _ _
theorem fU {scope:Scope} {env:Env} {x:Str} {k:NameKind} (h:scope.names.lookup x=some k) (hk:k≠.free):(relabel scope env).names.lookup x=some k:=by
  rw [lM,h];have:(k==NameKind.free)=false:=by simpa using hk
  simp only [Go,this,Bool.false_and,Bool.false_eq_true,if_false,Option.map_some]
theorem mJ {scope:Scope} {env:Env} {x:Str} (h:scope.names.lookup x=some .free):(relabel scope env).names.lookup x=some .free\/(relabel scope env).names.lookup x=some .cell:=by
  rw [lM,h];unfold Go;dsimp only [Option.map_some];split
  · exact .inr rfl
  · exact .inl rfl
theorem uD {scope:Scope} {env:Env} {x:Str} (hc:∀ y∈scope.names,y.2≠.cell) (h:(relabel scope env).names.lookup x=some .free\/(relabel scope env).names.lookup x=some .cell):(x,NameKind.free)∈scope.names:=by
  cases e:scope.names.lookup x with
  | none =>
    rw [lM,e] at h;rcases h with h | h <;> cases h
  | some k =>
    by_cases hk:k=.free
    · subst hk;exact PySem.mem_of_lookup e
    · exfalso;have:=fU (env:=env) e hk;rw [this] at h;rcases h with h | h
      · cases h;exact hk rfl
      · cases h;exact hc _ (PySem.mem_of_lookup e) rfl
noncomputable def bw (X:Cx) (N:List Str) (scope:Scope) (cl:List (Str×Addr)) (C:Addr) (s:Shared) (H:Hp) (fp:List Addr) (E:Value->Shared->Prop:=fun _ _=>False):Cx :=
  { X with N:=N,s₀:=s,H₀:=H,env:=compEnvC scope cl C X.env,outer:=X.stack,stack:=X.stack,ex:=fp,fn:=fun _=>false,pn:=[],xe:=E }
noncomputable def ge (sc:Scope) (N:List Str) (own:Nat) (G:List Str) (oN:List Str) (fr:List Nat):Prop :=
  sc.kind=.function/\(∀ y∈sc.names,y.2≠.cell)/\(∀ y∈sc.names,y.2=.local->sc.names.lookup y.1=some .local)/\N.Nodup/\(∀ x∈N.take own,sc.names.lookup x=some .local)/\(∀ x∈N.drop own,sc.names.lookup x=some .free) /\
  (∀ x∈N,(x==("__debug__" : Str))=false/\(x==("__classdict__" : Str))=false)/\(∀ x∈G,sc.names.lookup x=some .globalImplicit/\(x==("__debug__" : Str))=false/\x≠("__name__" : Str)) /\
  own<=N.length/\(N.drop own).map some=fr.map fun i=>oN[i]?
noncomputable instance {sc:Scope} {N:List Str} {own:Nat} {G oN:List Str} {fr:List Nat}:Decidable (ge sc N own G oN fr):=by unfold ge;infer_instance
theorem BD {X:Cx} {nl:Nat} {G0:List Str} (T:Tb X nl G0) {sc:Scope} {N:List Str} {own:Nat} {G oN:List Str} {fr:List Nat} (ck:ge sc N own G oN fr) (cl:List (Str×Addr)) (C:Addr) (s:Shared) (H:Hp) (fp:List Addr) :
    Tb (bw X N sc cl C s H fp) own G:=by
  obtain ⟨_,_,_,nd,l,f,db,g,_,_⟩:=ck;refine ⟨T.hu,T.calm,nd,fun x hx=>?_,fun x hx=>?_,fun x hx=>?_⟩
  · refine ⟨?_,db x hx⟩;have hx':x∈N.take own++N.drop own:=by rw [List.take_append_drop];exact hx
    rcases List.mem_append.mp hx' with z | z
    · exact .inl (fU (l x z) (by decide))
    · rcases mJ (env:=X.env) (f x z) with q | q
      · exact .inr (.inr q)
      · exact .inr (.inl q)
  · have q:=fU (env:=X.env) (l x hx) (by decide);exact ⟨.inl q,.inr q⟩
  · obtain ⟨g1,g2,g3⟩:=g x hx;exact ⟨fU (env:=X.env) g1 (by decide),g2,g3⟩
theorem zA {X:Cx} {nl:Nat} {G0:List Str} (T:Tb X nl G0) {sc:Scope} {N:List Str} {own:Nat} {G oN:List Str} {fr:List Nat} (ck:ge sc N own G oN fr) (cl:List (Str×Addr)) (C:Addr) (s:Shared) (H:Hp) (fp:List Addr) (E:Value->Shared->Prop) :
    Tb (bw X N sc cl C s H fp E) own G:=let T1:=BD T ck cl C s H fp;⟨T1.hu,T1.calm,T1.nd,T1.vis,T1.loc,T1.gl⟩
noncomputable def IP (X:Cx) (ifs:List Expr) (t:TT):Prop :=
  ∀ (pins:List (Addr×Obj)) (s:Shared) (σ:St) (H:Hp) (Q:Bool->Hp->Prop),aS X pins σ H s->t σ H Q->wpAny (model X.prog X.w) X.A (forIn ifs true fun c r=>if r=true then do let ok <- isTrue c X.env (eval c X.env);pure (ForInStep.yield ok) else pure (ForInStep.yield r))
    (TP X pins σ Q) X.xe s
noncomputable def xE (X:Cx) (ifs:List Expr) (t:aW->R Bool):Prop:=IP X ifs (CC X t)
structure Z.xE (X:Cx) (ifs:List Expr) (t:aW->R Bool):Prop where
  un:D2.xE X ifs t
theorem dZ {X:Cx}:Z.xE X [] (fun _=>.ok true):=⟨fun pins s σ H Q I ⟨ρ,sl,q⟩=>wpAny_tests_nil ⟨H,I,q H (aM.refl _)⟩⟩
theorem dn {X:Cx} {c:Expr} {t:aW->R Bool} (h:Z.oI X c t):Z.xE X [c] t:=⟨have h:=h.un;fun pins s σ H Q I q=>wpAny_tests_one (h pins s σ H Q I q)⟩
noncomputable def cg (b:PyData->aW->Option aW) (t:aW->R Bool) (f:Fe) (ρ:aW):List PyData->R (List PyData)
  | []=>.ok []
  | d::ds=>match b d ρ with
    | none=>.no
    | some ρ1=>t ρ1>>=fun k=>if k=true then f ρ1>>=fun x=>cg b t f ρ ds>>=fun xs=>.ok (x::xs) else cg b t f ρ ds
noncomputable def aJ (own:Nat) (fr:List Nat) (ρ:aW):aW:=List.replicate own .non++fr.map fun i=>ρ.getD i .non
noncomputable def lf {α:Type}:R α->R α
  | .ex _=>.no
  | r=>r
noncomputable def bR (it:aW->R (List PyData)) (own:Nat) (fr:List Nat) (b:PyData->aW->Option aW) (t:aW->R Bool) (f:Fe):Fe:=fun ρ =>
  lf (it ρ)>>=fun ds=>if ds.length<=sizeLine then match cg b t f (aJ own fr ρ) ds with
    | .ok xs=>.ok (.list xs)
    | .ex c=>.ex c
    | .no=>.no
  else .no
noncomputable def iR (own:Nat) (fr:List Nat) (σ:St):St:=List.replicate own none++fr.map fun i=>(σ[i]?).join
theorem BC {H:Hp} {σ:St} {ρ:aW} (h:Sl H σ ρ) (own:Nat) (fr:List Nat) (hin:∀ i∈fr,i < ρ.length):Sl H (iR own fr σ) (aJ own fr ρ):=by
  refine ⟨by simp [iR,aJ],fun i c o h1 h2=>?_⟩;unfold aJ at h1;unfold iR at h2;by_cases hi:i < own
  · rw [List.getElem?_append_left (by simpa using hi),List.getElem?_replicate,if_pos hi] at h1;cases h1;exact True.intro
  · rw [List.getElem?_append_right (by simpa using hi),List.getElem?_map,List.length_replicate] at h1 h2;cases e:fr[i-own]? with
    | none=>rw [e] at h1;cases h1
    | some j =>
      rw [e] at h1 h2;have hj:=hin j (List.mem_of_getElem? e);have hj':j < σ.length:=by rw [h.1];exact hj
      cases h1;cases h2;refine h.2 j _ _ ?_ ?_
      · show ρ[j]?=some (ρ.getD j .non);rw [List.getD_eq_getElem?_getD,List.getElem?_eq_getElem hj];rfl
      · show σ[j]?=some ((σ[j]?).join);rw [List.getElem?_eq_getElem hj'];rfl
section
variable {X:Cx} {pins:List (Addr×Obj)} {σ:St} {H:Hp} {s:Shared} {nl:Nat} {G0:List Str} {sc:Scope} {N:List Str} {own:Nat} {G:List Str} {fr:List Nat} {cl:List (Str×Addr)} {fp:List Addr} {a C:Addr} {h4:Heap} {t4:Nat} {m:Str->Option Value}
theorem zZ (I:aS X pins σ H s) (ck:ge sc N own G X.N fr) (hf:∀ b∈fp,oK X pins H b) (hob:∀ b∈fp,b < s.heap.objs.size) (hcl1:∀ x c,cl.lookup x=some c->X.env.cells.lookup x=some c) (hcl2:∀ x∈sc.names,x.2=.free->∃ c,cl.lookup x.1=some c)
    (vis:∀ x∈X.N,DM X.env.scope x) (hout:∀ y∈sc.names,y.2=.free->X.env.kindOf y.1=some .cell\/X.env.kindOf y.1=some .free)
    (ha:s.heap.objs.size<=a) (hC:s.heap.objs.size<=C) (hac:a≠C) (keep:∀ b o,s.heap.get? b=some o->h4.get? b=some o) (hl:h4.get? a=some { cls:=.type "list",data:=.seq #[] 0 }) (hn:h4.Ns C m) :
    aS (bw X N sc cl C s H fp) [] (iR own fr σ) (de H a (.lst [])) { s with heap:=h4,toks:=t4 }:=by
  obtain ⟨ck1,ck2,ck3,nd,l,f,db,g,ol,ofr⟩:=ck;have hHa:H a=none:=I.hok.fresh ha;have hHC:H C=none:=I.hok.fresh hC;have lt:∀ {b:Addr} {o:Obj},s.heap.get? b=some o->b < s.heap.objs.size:=fun e=>Heap.lt_size e
  have cellLt:∀ x c,cl.lookup x=some c->c < s.heap.objs.size:=fun x c e=>by
    obtain ⟨v,q⟩:=I.cell x c (hcl1 x c e);exact q.lt
  refine ⟨⟨I.ok.mod,ck1,I.ok.glob,I.ok.blt,hC,fun x y c h1 h2=>I.ok.inj x y c (hcl1 x c h1) (hcl1 y c h2),fun x hx=>?_,fun x c hx=>(Bool.false_ne_true hx).elim,I.ok.hd,I.ok.frames,.inl rfl,fun b hb=>⟨?_,fun x c e=>?_⟩,I.bs,Nat.le_trans I.ok.bsz I.sz,fun b o e hb=>?_,fun b hb hs=>?_,I.stack,I.stkFree⟩,
    rfl,I.bare,Un.laid keep ha hHa,⟨m,hn,fun i x v h1 h2 h3=>?_⟩,fun x c e=>?_,?_,fun x c e=>?_,fun p hp=>?_,?_,?_⟩
  · have q:=uD (env:=X.env) ck2 (show (relabel sc X.env).names.lookup x=some .free\/(relabel sc X.env).names.lookup x=some .cell from hx.elim .inr .inl);exact hcl2 _ q rfl
  · exact Nat.ne_of_lt (Nat.lt_of_lt_of_le (hob b hb) hC)
  · exact (hf b hb).2.2.2.2.1 x c (hcl1 x c e)
  · rcases (hf b hb).2.2.2.1 with z | z
    · exact I.ok.noex b o e z
    · exact absurd (Nat.lt_of_lt_of_le (Heap.lt_size e) I.ok.bsz) (Nat.not_lt.mpr z)
  · rcases List.mem_cons.mp (I.stkSub b hs) with z | z
    · exact (hf b hb).2.1 z
    · exact (hf b hb).2.2.1 z
  · -- a captured name
    have hi:¬ i < own:=fun hi=>by
      unfold iR at h2;rw [List.getElem?_append_left (by simpa using hi),List.getElem?_replicate,if_pos hi] at h2;cases h2
    unfold iR at h2;rw [List.getElem?_append_right (by simpa using hi),List.getElem?_map,List.length_replicate] at h2;cases e:fr[i-own]? with
    | none=>rw [e] at h2;cases h2
    | some j =>
      rw [e] at h2;have h2':(σ[j]?).join=some v:=Option.some.inj h2;have hσ:σ[j]?=some (some v):=by
        cases q:σ[j]? with
        | none=>rw [q] at h2';cases h2'
        | some o=>rw [q] at h2';exact congrArg some h2'
      have hx:(N.drop own)[i-own]?=some x:=by
        rw [List.getElem?_drop];have:own+(i-own)=i:=by omega
        rw [this];exact h1
      have hj:X.N[j]?=some x:=by
        have q:=congrArg (fun l=>l[i-own]?) ofr;simp only [List.getElem?_map,hx,e,Option.map_some] at q;exact (Option.some.inj q).symm
      have hfree:=f x (List.mem_of_getElem? hx);obtain ⟨c,hc⟩:=hcl2 _ (PySem.mem_of_lookup hfree) rfl;have hXc:=hcl1 x c hc;obtain ⟨m0,hn0,hl0⟩:=I.loc;obtain ⟨u,ru,lk⟩:=hl0 j x v hj hσ (vis x (List.mem_of_getElem? hj));have ko:=hout _ (PySem.mem_of_lookup hfree) rfl;refine ⟨u,ru,.inr ⟨(mJ (env:=X.env) hfree).symm,c,hc,?_⟩⟩;rcases lk with ⟨k1,_⟩ | ⟨_,c',e1,ob,q1,q2⟩
      · exfalso;rcases ko with k | k <;> (rw [k] at k1;cases k1)
      · rw [hXc] at e1;cases e1;exact ⟨ob,keep _ _ q1,q2⟩
  · obtain ⟨v,o,q,d⟩:=I.cell x c (hcl1 x c e);exact ⟨v,o,keep _ _ q,d⟩
  · show de H a (.lst []) C=none;rw [aB (Ne.symm hac)];exact hHC
  · have q:=I.freeC x c (hcl1 x c e);show de H a (.lst []) c=none;rw [aB (Nat.ne_of_lt (Nat.lt_of_lt_of_le (cellLt x c e) ha))];exact q
  · exact absurd (show p∈([]:List (Addr×Obj)) from hp) (by simp)
  · exact I.hok.laid keep ha ⟨Nat.zero_le _,[],0,.nil,hl⟩
  · show (iR own fr σ).length=N.length;have q:=congrArg List.length ofr;rw [List.length_map,List.length_map,List.length_drop] at q;unfold iR;rw [List.length_append,List.length_replicate,List.length_map];omega
end
noncomputable def oJ (ρ0 ρ1:aW):Prop:=ρ1.length=ρ0.length/\∀ (i:Nat) (c:aT),ρ0[i]?=some c->c=.non\/ρ1[i]?=some c
theorem Sl.unfit {H:Hp} {σ:St} {ρ0 ρ1:aW} (h:Sl H σ ρ1) (f:oJ ρ0 ρ1):Sl H σ ρ0:=by
  refine ⟨h.1.trans f.1,fun i c o h1 h2=>?_⟩;rcases f.2 i c h1 with rfl | q
  · exact True.intro
  · exact h.2 i c o q h2
noncomputable def zc (H0:Hp) (σ:St) (ρ:aW):Prop:=∀ (i:Nat) (e:PyData),ρ[i]?=some (.own e)->∃ v,σ[i]?=some (some v)/\jl H0 e v
inductive IL (X:Cx) (tn:Nat->Heap->Prop) (fp:List Addr) (a:Addr) (b:PyData->aW->Option aW) (t:aW->R Bool) (f:Fe) (ds:List PyData) (r:R (List PyData)) (H0:Hp) (ρ0:aW) (n:Nat) (s:Shared):Prop
  | mk (i:Nat) (acc:List PyData) (σ:St) (H:Hp) (vs:List V) (hn:n=ds.length-i) (hi:i<=ds.length) (hal:acc.length<=i) (I:aS X [] σ H s) (st:tn i s.heap) (fr:∀ b∈fp,H b=none) (s0:aM H0 H) (hla:H a=some (.lst vs)) (ra:bD H acc vs) (hc:(cg b t f ρ0 (ds.drop i)>>=fun eI=>.ok (acc++eI))=r) (sl:Sl H σ ρ0) (ow:zc H0 σ ρ0)
theorem x0 {X:Cx} {J:It} {tn:Nat->Heap->Prop} {it a:Addr} {fp:List Addr} {tg iter elt:Expr} {ifs:List Expr} {scope:Scope} {pos:Pos} {b:PyData->aW->Option aW} {t:aW->R Bool} {f:Fe} {ds:List PyData} {r:R (List PyData)} {Gd:Hp->Prop} {H0:Hp} {ρ0:aW}
    {Rk:Result->Shared->Prop} (T:rS X.prog X.w X.K tg J fp it tn) (calm:X.calm=true) (hfp:∀ H:Hp,(∀ b∈fp,H b=none)->∀ b∈fp,oK X [] H b) (hxe:∀ e s',X.xe e s'->notedBy (model X.prog X.w) X.A X.env (fun x s'=>Rk (.error x) s') e s') (hX:∀ c,r=.ex c->Xw X c H0) (hno:r≠.no) (hg:u0 X tg b) (ht:xE X ifs t) (hf:cU X elt f)
    (idt:yZ J Gd ds) (sta:G5 H0 (fun _=>False) Gd) (hsz:ds.length<=sizeLine) (ha0:H0 a=none) (hb0:∀ d ρ1,b d ρ0=some ρ1->oJ ρ0 ρ1)
    (fin:∀ xs s' σ' H' vs,r=.ok xs->aS X [] σ' H' s'->aM H0 H'->H' a=some (.lst vs)->bD H' xs vs->Rk (.ok .next) s') :
    ∀ {s:Shared} {σ:St} {H:Hp},aS X [] σ H s->tn 0 s.heap->(∀ b∈fp,H b=none)->aM H0 H->H a=some (.lst [])->cg b t f ρ0 ds=r->Sl H σ ρ0->zc H0 σ ρ0 ->
      codeAny (model X.prog X.w) X.A (.compLoop (.ListComp elt [⟨tg,iter,ifs,0⟩] scope pos) 0 (.ref it) (.ref a) X.env) Rk s:=by
  intro s σ H I st fr s0 hla hc sl ow;refine codeAny_loop rfl (IL X tn fp a b t f ds r H0 ρ0) (fun n s hI=>?_) ds.length ⟨0,[],σ,H,[],by simp,Nat.zero_le _,Nat.le_refl _,I,st,fr,s0,hla,bD.nil,by rw [List.drop_zero,hc];cases r <;> rfl,sl,ow⟩;clear I st fr s0 hla hc sl ow;obtain ⟨i,acc,σ,H,vs,rfl,hi,hal,I,st,fr,s0,hla,ra,hc,sl,ow⟩:=hI;show wpAny _ X.A ((compTurn (.ListComp elt [⟨tg,iter,ifs,0⟩] scope pos) 0 (.ref it) (.ref a) X.env).onRaise (fun x=>do noteFrame x X.env;theTreesLotGoes x)) _ _ s;refine wpAny_noted ?_;rw [compTurn_list];have gd:Gd H:=sta H (Kp.of s0) fun _ _ z=>z.elim
  have noex:∀ {α:Type} {m:Sem α} {Q Q':α->Shared->Prop} {s:Shared},wpAny (model X.prog X.w) X.A m Q X.xe s->(∀ v s,Q v s->Q' v s)->wpAny (model X.prog X.w) X.A m Q' (notedBy (model X.prog X.w) X.A X.env (fun x s'=>Rk (.error x) s')) s:=fun h k =>
    wpAny_mono h k hxe
  by_cases hlt:i < ds.length
  · obtain ⟨d,hd⟩:∃ d,ds[i]?=some d:=⟨ds[i],List.getElem?_eq_getElem hlt⟩
    have hdrop:ds.drop i=d::ds.drop (i+1):=by
      rw [List.drop_eq_getElem_cons hlt];congr 1;exact Option.some.inj ((List.getElem?_eq_getElem hlt).symm.trans hd)
    rw [hdrop] at hc;unfold cg at hc;refine wpAny_bind (wpAny_standAt (wpAny_bind (dM (T.item X rfl rfl rfl calm i [] s σ H _ I (hfp H fr) st (idt.go i H gd hlt)) fun r s1 zq0=>?_)));obtain ⟨u,hr,h1⟩:=zq0;subst hr;refine wpAny_bind (dM h1 fun _ s2 zq0=>?_);obtain ⟨x,H2,I2,r2,y2,st2,fr2⟩:=zq0;obtain ⟨s02,p2⟩:=idt.yld i H x H2 d gd hd y2;have I2':=I2.pinned (hfp H2 fr2) (T.obj _ _ st2);have back:∀ {σ':St} {H':Hp} {s':Shared},aS X ([]++pZ fp s2.heap) σ' H' s'->aS X [] σ' H' s'/\tn (i+1) s'.heap/\∀ b∈fp,H' b=none:=fun {σ' H' s'} J' =>
      ⟨J'.unpinned,T.keep _ _ _ st2 fun b hb o e=>(J'.pin (b,o) (List.mem_append_right _ (List.mem_append_right _ (jy hb e)))).1,fun b hb=>by
        obtain ⟨o,e,_⟩:=T.obj _ _ st2 b hb;exact (J'.pin (b,o) (List.mem_append_right _ (List.mem_append_right _ (jy hb e)))).2.1⟩
    cases eb:b d ρ0 with
    | none=>rw [eb] at hc;exact absurd hc.symm hno
    | some ρ1 =>
      rw [eb] at hc;dsimp only at hc;have hfit:=hb0 d ρ1 eb;refine wpAny_bind (noex (hg _ s2 σ H2 x u (fun σ' H'=>H'=H2/\Sl H2 σ' ρ1/\∀ (i:Nat) (e:PyData),ρ1[i]?=some (.own e)->ρ0[i]?=some (.own e)/\σ'[i]?=σ[i]?) I2' r2 ⟨ρ0,d,sl.mono s02,p2,by rw [eb];exact fun σ' sl' w'=>⟨rfl,sl',w'⟩⟩) fun _ s3 ⟨σ3,H3,I3,e3,sl3,w3⟩=>?_);subst e3;have ow3:zc H0 σ3 ρ0:=fun j e h=>by
        obtain ⟨v,z1,z2⟩:=ow j e h;rcases hfit.2 j _ h with z | z
        · cases z
        · exact ⟨v,by rw [(w3 j e z).2];exact z1,z2⟩
      cases et:t ρ1 with
      | no=>rw [et] at hc;exact absurd hc.symm hno
      | ex c =>
        rw [et] at hc;exact wpAny_bind (noex (ht _ s3 σ3 H3 (fun _ _=>False) I3 ⟨ρ1,sl3,by rw [et];exact (hX c hc.symm).mono (s0.trans s02)⟩) fun ok s4 ⟨H4,I4,z⟩=>z.elim)
      | ok k =>
        rw [et] at hc;refine wpAny_bind (noex (ht _ s3 σ3 H3 (fun b' H'=>b'=k/\aM H3 H') I3 ⟨ρ1,sl3,by rw [et];exact fun H' s'=>⟨rfl,s'⟩⟩) fun ok s4 ⟨H4,I4,e4,s34⟩=>?_);subst e4;have s04:=(s0.trans s02).trans s34;have hla4:H4 a=some (.lst vs):=s34 _ _ (s02 _ _ hla);have ra4:bD H4 acc vs:=(ra.mono s02).mono s34;cases ok with
        | false =>
          obtain ⟨J1,J2,J3⟩:=back I4;have hc':(cg b t f ρ0 (ds.drop (i+1))>>=fun eI=>.ok (acc++eI))=r:=hc;exact wpAny_pure ⟨rfl,ds.length-(i+1),by omega,i+1,acc,σ3,H4,vs,rfl,hlt,by omega,J1,J2,J3,s04,hla4,ra4,hc',(sl3.unfit hfit).mono s34,ow3⟩
        | true =>
          have hc':((f ρ1>>=fun x=>cg b t f ρ0 (ds.drop (i+1))>>=fun xs=>.ok (x::xs))>>=fun eI=>.ok (acc++eI))=r:=hc;cases ef:f ρ1 with
          | no=>rw [ef] at hc';exact absurd hc'.symm hno
          | ex c =>
            rw [ef] at hc';exact wpAny_bind (wpAny_bind (noex (hf _ s4 σ3 H4 (fun _ _=>False) I4 ⟨ρ1,sl3.mono s34,by rw [ef];exact (hX c hc'.symm).mono s04⟩) fun yv s5 ⟨v5,H5,I5,r5,z⟩=>z.elim))
          | ok y =>
              rw [ef,R.ok_bind] at hc';have hc2:(cg b t f ρ0 (ds.drop (i+1))>>=fun eI=>.ok ((acc++[y])++eI))=r:=by
                rw [<- hc'];cases cg b t f ρ0 (ds.drop (i+1)) with
                | ok eI=>simp only [R.ok_bind,List.append_assoc,List.singleton_append]
                | ex c=>rfl
                | no=>rfl
              refine wpAny_bind (wpAny_bind (noex (hf _ s4 σ3 H4 (fun v H'=>aM H4 H'/\Rp H' y v) I4 ⟨ρ1,sl3.mono s34,by rw [ef];exact fun v H' s' p'=>⟨s',p'⟩⟩) fun yv s5 ⟨v5,H5,I5,r5,s45,p5⟩=>?_));have hla5:H5 a=some (.lst vs):=s45 _ _ hla4;have hlen:vs.length < sizeLine:=by
                rw [ra.length];omega
              refine wpAny_bind (noex (rb _ s5 σ3 H5 (.ref a) [v5] (.ref a) [yv] (fun _ H'=>H'=de H5 a (.lst (vs++[v5]))) I5 rfl (.cons r5 .nil) ⟨a,vs,v5,rfl,rfl,hla5,hlen,rfl⟩) fun _ s6 zq0=>?_);obtain ⟨v6,H6,I6,r6,e6⟩:=zq0;subst e6;obtain ⟨J1,J2,J3⟩:=back I6;have kp:Kp H5 (de H5 a (.lst (vs++[v5]))):=gL hla5 (.inl ⟨_,rfl⟩);have s06:aM H0 (de H5 a (.lst (vs++[v5]))):=fun b o e=>by
                rw [aB (bg e ha0)];exact (s04.trans s45) b o e
              refine wpAny_pure (wpAny_pure ⟨rfl,ds.length-(i+1),by omega,i+1,acc++[y],σ3,_,vs++[v5],rfl,hlt,by rw [List.length_append,List.length_singleton];omega,J1,J2,J3,s06,bq,?_,hc2,?_,ow3⟩)
              · exact bD.append (bD.kp kp _ _ (ra4.mono s45)) (bD.cons (Rp.kp kp _ _ p5) bD.nil)
              · have sl5:Sl H5 σ3 ρ0:=((sl3.unfit hfit).mono s34).mono s45;refine ⟨sl5.1,fun j c o h1 h2=>?_⟩;cases c with
                | exc p=>exact sl5.2 j _ o h1 h2
                | non=>exact True.intro
                | val d' =>
                  obtain ⟨v',z1,z2⟩:=sl5.2 j _ o h1 h2;exact ⟨v',z1,Rp.kp kp _ _ z2⟩
                | own e' =>
                  obtain ⟨v',z1,z2⟩:=ow3 j e' h1;rw [z1] at h2;cases h2;exact ⟨v',rfl,z2.mono s06⟩
  · have e:i=ds.length:=by omega
    subst e;rw [List.drop_length] at hc;have hr':r=.ok acc:=by rw [<- hc];simp only [cg,R.ok_bind,List.append_nil]
    refine wpAny_bind (wpAny_standAt (wpAny_bind (dM (T.done X rfl rfl rfl calm _ [] s σ H _ I (hfp H fr) st (idt.stop _ H gd (Nat.le_refl _))) fun r s1 zq0=>?_)));obtain ⟨hr,I1⟩:=zq0;subst hr;exact wpAny_pure (fin acc s1 σ H vs hr' I1 s0 hla ra)
theorem iO.but {P:Program} {w:World} {H:Hp} {h1 h2:Heap} {C:Addr} (ok:iO P w H h1) (hC:H C=none) (sb:∀ b o,b≠C->h1.get? b=some o->h2.get? b=some o):iO P w H h2:=fun a o e =>
  (ok a o e).stay (fun b u hb q=>sb b u (by
    rcases hb with rfl | hb
    · exact bg e hC
    · exact bg hb hC) q) (fun _ q=>q) fun _ _ q=>q
theorem lc {h h' base:Heap} {C:Addr} (tp:∀ b o,b≠C->h.get? b=some o->h'.get? b=some o):∀ {l:List Env},C∉lS l->h.FunFrames base l->h'.FunFrames base l
  | [],_,_=>trivial
  | env::l,hC,⟨hk,⟨L,o,hf,hn,ho,hd⟩,hr⟩=>⟨hk,⟨L,o,hf,hn,tp L o (fun z=>hC (List.mem_filterMap.mpr ⟨env,List.mem_cons_self,by rw [hf,z]⟩)) ho,hd⟩,lc tp (fun z=>hC (by
    obtain ⟨e,he,hz⟩:=List.mem_filterMap.mp z;exact List.mem_filterMap.mpr ⟨e,List.mem_cons_of_mem _ he,hz⟩)) hr⟩
theorem mh {X:Cx} {tg iter elt:Expr} {ifs:List Expr} {sc:Scope} {pos pos':Pos} {it:aW->R (List PyData)} {b:PyData->aW->Option aW} {t:aW->R Bool} {f:Fe} {N:List Str} {own:Nat} {G G0:List Str} {fr:List Nat} {nl:Nat}
    (T:Tb X nl G0) (ck:ge sc N own G X.N fr) (hout:∀ y∈sc.names,y.2=.free->X.env.kindOf y.1=some .cell\/X.env.kindOf y.1=some .free) (hi:tm X tg iter it)
    (hb0:∀ ρ d ρ1,b d (aJ own fr ρ)=some ρ1->oJ (aJ own fr ρ) ρ1)
    (hbody:∀ cl C s H fp E,Tb (bw X N sc cl C s H fp E) own G->u0 (bw X N sc cl C s H fp E) tg b/\xE (bw X N sc cl C s H fp E) ifs t/\cU (bw X N sc cl C s H fp E) elt f)
    (hs:∀ x,foldedSetIterable iter X.env x=pure x) {use:Option (Value->Sem Unit)} {Qc:Value->Shared->Prop} {pins:List (Addr×Obj)} {s:Shared} {σ:St} {H:Hp} (I:aS X pins σ H s) {ρ:aW} {ds:List PyData} {r:R (List PyData)} (sl:Sl H σ ρ) (ei:it ρ=.ok ds)
    (hsz:ds.length<=sizeLine) (ec:cg b t f (aJ own fr ρ) ds=r) (hX:∀ c,r=.ex c->Xw X c H) (hno:r≠.no) (hstk:∃ env0 outer0 L,X.stack=env0::outer0/\env0.frame=some L/\X.env.frame=some L)
    (fin:∀ (xs:List PyData) (a C:Addr) (H':Hp) (s':Shared) (m:Str->Option Value) (vs:List V),r=.ok xs->aS X pins σ H' s'->oK X pins H' C->s'.heap.Ns C m->aM H H'->H a=none->H' a=some (.lst vs)->bD H' xs vs->compPost (model X.prog X.w) X.A X.xe use Qc (.ref a) C (.ok .next) s') :
    wpAny (model X.prog X.w) X.A (comprehension (.ListComp elt [⟨tg,iter,ifs,0⟩] sc pos) sc X.env pos' (newList []) false (eval iter X.env) use) Qc X.xe s:=by
  obtain ⟨cl,hcl,hcl1,hcl2⟩:=vk (scope:=sc) (env:=X.env) fun x hx hf=>I.ok.has _ (hout x hx hf)
  have ck':=ck;obtain ⟨ck1,ck2,ck3,_,_,_,_,_,_,ofr⟩:=ck';have hin:∀ i∈fr,i < ρ.length:=fun i hi=>by
    have e1:ρ.length=X.N.length:=by rw [<- sl.1];exact I.len
    rw [e1];obtain ⟨k,hk⟩:=List.getElem?_of_mem hi;have q:=congrArg (fun l=>l[k]?) ofr;simp only [List.getElem?_map,hk,Option.map_some] at q;cases z:(N.drop own)[k]? with
    | none=>rw [z] at q;cases q
    | some y =>
      rw [z] at q;have q':some y=X.N[i]?:=Option.some.inj q;exact (List.getElem?_eq_some_iff.mp q'.symm).1
  refine wpAny_comprehension_free (use:=use) rfl hs hcl ck1 ck3 ?_;refine dM (hi pins s σ H (fun J H1=>aM H H1/\∃ Gd,yZ J Gd ds/\G5 H1 (fun _=>False) Gd) I ⟨ρ,sl,by rw [ei];exact fun J H1 s1 z=>⟨s1,z⟩⟩) fun xv s1 h1=>dM h1 fun itv s2 h2=>?_
  obtain ⟨itA,fp,tn,J,H2,e,I2,T2,st2,f2,s02,Gd,idt,sta⟩:=h2;subst e;refine wpAny_newObj_type (wpAny_newFunctionEnv ck2 (by intro y hy;simp at hy) (fun h₁ hns₁ hsb₁=>?_) ck1);dsimp only at hns₁ hsb₁ ⊢;generalize hHp:s2.heap.push { cls:=.type "list",dict:=none,data:=.seq ([]:List Value).toArray }=Hp2 at hns₁ hsb₁ ⊢;have hC:Hp2.objs.size=s2.heap.objs.size+1:=by rw [<- hHp,Heap.size_push]
  have hDC:s2.heap.objs.size≠Hp2.objs.size:=by rw [hC];exact Nat.ne_of_lt (Nat.lt_succ_self _)
  have hCle:s2.heap.objs.size<=Hp2.objs.size:=by rw [hC];exact Nat.le_succ _
  have below:∀ b,b < s2.heap.objs.size->b≠Hp2.objs.size:=fun b hb=>by rw [hC];exact Nat.ne_of_lt (Nat.lt_succ_of_lt hb)
  have old:∀ b o,s2.heap.get? b=some o->h₁.get? b=some o:=fun b o e=>hsb₁.extBut b o (below b (Heap.lt_size e)) (Heap.get?_push_of_some _ (hHp ▸ Heap.get?_push_of_some _ e))
  have hacc:h₁.get? s2.heap.objs.size=some { cls:=.type "list",dict:=none,data:=.seq ([]:List Value).toArray }:=hsb₁.extBut _ _ hDC (Heap.get?_push_of_some _ (hHp ▸ Heap.get?_push_size _ rfl));have hob:∀ b∈fp,b < s2.heap.objs.size:=fun b hb=>by
    obtain ⟨o,e,_⟩:=T2.obj _ _ st2 b hb;exact Heap.lt_size e
  have sl2:Sl H2 σ ρ:=sl.mono s02;have IC:aS (bw X N sc cl Hp2.objs.size s2 H2 fp) [] (iR own fr σ) (de H2 s2.heap.objs.size (.lst [])) { s2 with heap:=h₁,toks:=s2.toks+([]:List (Str×Value)).length } :=
    zZ I2 ck f2 hob hcl1 hcl2 (fun x hx=>(T.vis x hx).1) hout (Nat.le_refl _) hCle hDC old hacc hns₁
  let E:Value->Shared->Prop:=fun e s'=>∃ c Ce pins' σ' H' s1 H1,r=.ex c/\X.mg c=some (.ref Ce)/\aS (bw X N sc cl Hp2.objs.size s2 H2 fp) pins' σ' H' s1/\aM H2 H1/\rH X.prog X.w X.stack H' s1 Ce H1 e s'
  obtain ⟨hg,ht,hf⟩:=hbody cl Hp2.objs.size s2 H2 fp E (zA T ck cl Hp2.objs.size s2 H2 fp E);have ha0:H2 s2.heap.objs.size=none:=I2.hok.fresh (Nat.le_refl _);have hfp:∀ H':Hp,(∀ b∈fp,H' b=none)->∀ b∈fp,oK (bw X N sc cl Hp2.objs.size s2 H2 fp E) [] H' b:=fun H' hn b hb =>
    ⟨hn b hb,below b (hob b hb),fun z=>by
      rcases List.mem_cons.mp (I2.stkSub b z) with y | y
      · exact (f2 b hb).2.1 y
      · exact (f2 b hb).2.2.1 y,.inl hb,fun x c e=>(f2 b hb).2.2.2.2.1 x c (hcl1 x c e),fun p hp=>absurd (show p∈([]:List (Addr×Obj)) from hp) (by simp)⟩
  have st3:tn 0 h₁:=T2.keep _ _ _ st2 fun b _ o e=>old b o e
  have slC:Sl H2 (iR own fr σ) (aJ own fr ρ):=BC sl2 own fr hin;have fin':∀ xs s' σ' H' vs,r=.ok xs->aS (bw X N sc cl Hp2.objs.size s2 H2 fp E) [] σ' H' s'->aM H2 H'->H' s2.heap.objs.size=some (.lst vs)->bD H' xs vs ->
      compPost (model X.prog X.w) X.A X.xe use Qc (.ref s2.heap.objs.size) Hp2.objs.size (.ok .next) s':=fun xs s' σ' H' vs hr J' s2' hv rv=>by
    obtain ⟨m,hn,_⟩:=J'.loc;exact fin xs _ _ H' s' m vs hr (I2.call' (s':=s') (ch:=fp) J'.os J'.base J'.hok J'.bare (fun b hb=>⟨(f2 b hb).2.2.2.1,(f2 b hb).2.1,(f2 b hb).2.2.2.2.1,(f2 b hb).2.2.2.2.2⟩)) (I2.fpOk hCle J'.free) hn (s02.trans s2') (s02.free ha0) hv rv
  have hXc:∀ c,r=.ex c->Xw (bw X N sc cl Hp2.objs.size s2 H2 fp E) c H2:=fun c hr H1 s1 Ce hm pins' σ' H' s1' e s' J f =>
    ⟨c,Ce,pins',σ',H',s1',H1,hr,hm,J.unwish,s1,f⟩
  have hxe:∀ e s',E e s'->notedBy (model X.prog X.w) X.A (compEnvC sc cl Hp2.objs.size X.env) (fun x s'=>compPost (model X.prog X.w) X.A X.xe use Qc (.ref s2.heap.objs.size) Hp2.objs.size (.error x) s') e s':=fun e s' hE=>by
    obtain ⟨c,Ce,pins',σ',H',s1,H1,hr,hm,J,same1,f⟩:=hE;obtain ⟨env0,outer0,L,k1,k2,k3⟩:=hstk;refine f.note k1 I.ok.frames k2 k3 fun h4 f4 up=>?_
    obtain ⟨m,hn,_⟩:=(f4.inv (X:=bw X N sc cl Hp2.objs.size s2 H2 fp) J).loc;refine ⟨m,hn,fun h5 sb cenv _=>?_⟩;have fC:=I2.fpOk hCle J.free;have fC1:H1 Hp2.objs.size=none:=(f4.inv (X:=bw X N sc cl Hp2.objs.size s2 H2 fp) J).free;have nfr:Hp2.objs.size∉lS X.stack:=fun z=>by
      rcases List.mem_cons.mp (I2.stkSub _ z) with y | y
      · exact fC.2.1 y
      · exact fC.2.2.1 y
    have Io:=I2.call' (s':=s1) (ch:=fp) J.os J.base J.hok J.bare (fun b hb=>⟨(f2 b hb).2.2.2.1,(f2 b hb).2.1,(f2 b hb).2.2.2.2.1,(f2 b hb).2.2.2.2.2⟩);have Io2:aS X pins σ H' { s1 with heap:=PySem.W.hideAll s1.heap [Hp2.objs.size],toks:=s1.toks }:=by
      obtain ⟨g0,g1,g2,g3,g4,g5⟩:=fC;exact Io.turned (t':=s1.toks) (fun b o hb q=>PySem.W.hideAll_get _ q (by simpa using hb)) g0 g1 g3 g4 g5
    obtain ⟨p,a0,B,rfl,t,okB,hp,cov⟩:=f4.ex;have stB:(PySem.W.hideAll B [Hp2.objs.size]).StaysIn B:=fun b o q=>PySem.W.of_hideAll _ q
    have hid:∀ {h:Heap} {b:Addr} {o:Obj},(PySem.W.hideAll h [Hp2.objs.size]).get? b=some o->b≠Hp2.objs.size:=fun {h b o} q z=>by
      rw [PySem.W.hideAll_none _ (by rw [z];exact List.mem_singleton.mpr rfl)] at q;cases q
    have tp:∀ b o,b≠Hp2.objs.size->h4.get? b=some o->h5.get? b=some o:=fun b o hb q=>(sb.2 b hb).trans q
    have ne_e:p≠Hp2.objs.size:=fun z=>by
      obtain ⟨oe,vs,q1,_,q2,_⟩:=t.first;obtain ⟨o,es,ep,q3,q4,_⟩:=hn;have q3':h4.get? Hp2.objs.size=some o:=q3;rw [<- z,q1] at q3';cases q3';rw [q2] at q4;cases q4
    have f5:rH X.prog X.w X.stack H' { s1 with heap:=PySem.W.hideAll s1.heap [Hp2.objs.size],toks:=s1.toks } Ce H1 (.ref p) { s' with heap:=h5 }:=by
      refine ⟨f4.os,f4.bare,f4.same,⟨p,a0,PySem.W.hideAll B [Hp2.objs.size],rfl,?_,?_,hp,fun b o q n hb=>?_⟩,fun b o q n hb=>?_⟩
      · obtain ⟨t1,t2,t3,fl,oe,vs,T',oT,ts,a1,a2,a3,a4,a5,a6,a7,a8,a9⟩:=t;refine ⟨fun b o q=>tp b o (hid q) (t1 b o (stB b o q)),PySem.W.fresh_of_stays stB t2,lc tp nfr (PySem.W.funFrames_base stB t3),fl,oe,vs,T',oT,ts,tp _ _ ne_e a1,a2,a3,a4,PySem.W.fresh_of_stays stB a5,a6,tp _ _ ?_ a7,a8,a9⟩;intro z;obtain ⟨o,es,ep,q3,q4,_⟩:=hn;have q3':h4.get? Hp2.objs.size=some o:=q3;have a7':h4.get? T'=some oT:=a7;rw [<- z,a7'] at q3';cases q3';rw [a8] at q4;cases q4
      · exact iO.but okB fC1 fun b o hb q=>PySem.W.hideAll_get _ q (by simpa using hb)
      · obtain ⟨z1,z2⟩:=cov b o (PySem.W.of_hideAll _ q) n hb;exact ⟨PySem.W.hideAll_get _ z1 (by simpa using hid q),z2⟩
      · obtain ⟨⟨sl',z1⟩,z2⟩:=f4.slot b o (PySem.W.of_hideAll _ q) n hb;exact ⟨⟨sl',tp b _ (hid q) z1⟩,z2⟩
    refine f5.pass fun h6 f6=>?_
    exact hX c hr H1 (s02.trans same1) Ce hm pins σ H' _ _ _ Io2 f6
  have loop:=x0 (X:=bw X N sc cl Hp2.objs.size s2 H2 fp E) (iter:=iter) (scope:=sc) (pos:=pos) T2 T.calm hfp hxe hXc hno hg ht hf idt sta hsz ha0 (fun d ρ1 e=>hb0 ρ d ρ1 e) fin' (IC.wish E) st3 (fun b hb=>by
      show de H2 s2.heap.objs.size (.lst []) b=none;rw [aB (Nat.ne_of_lt (hob b hb))];exact (f2 b hb).1) (cT ha0 _) bq ec (slC.mono (cT ha0 _)) (fun i e h=>by
      obtain ⟨o,z1,v,rfl,z2⟩:=slC.at h;exact ⟨v,z1,z2⟩)
  exact codeAny_compStart_list loop (T2.self _ 0 _ _ _ st3 loop)
theorem ue {X:Cx} {tg iter elt:Expr} {ifs:List Expr} {sc:Scope} {pos:Pos} {it:aW->R (List PyData)} {b:PyData->aW->Option aW} {t:aW->R Bool} {f:Fe} {N:List Str} {own:Nat} {G G0:List Str} {fr:List Nat} {nl:Nat}
    (T:Tb X nl G0) (ck:ge sc N own G X.N fr) (hout:∀ y∈sc.names,y.2=.free->X.env.kindOf y.1=some .cell\/X.env.kindOf y.1=some .free) (hi:tm X tg iter it)
    (hb0:∀ ρ d ρ1,b d (aJ own fr ρ)=some ρ1->oJ (aJ own fr ρ) ρ1)
    (hbody:∀ cl C s H fp E,Tb (bw X N sc cl C s H fp E) own G->u0 (bw X N sc cl C s H fp E) tg b/\xE (bw X N sc cl C s H fp E) ifs t/\cU (bw X N sc cl C s H fp E) elt f)
    (hs:∀ x,foldedSetIterable iter X.env x=pure x:=by intro _;rfl) (hstk:∃ env0 outer0 L,X.stack=env0::outer0/\env0.frame=some L/\X.env.frame=some L:=by exact ⟨_,_,_,rfl,rfl,rfl⟩):qk X (.ListComp elt [⟨tg,iter,ifs,0⟩] sc pos) (bR it own fr b t f):=by
  intro pins s σ H Q I h;obtain ⟨ρ,sl,q⟩:=h;unfold bR at q;rw [eval_ListComp];cases ei:it ρ with
  | ex c=>rw [ei] at q;exact q.elim
  | no=>rw [ei] at q;exact q.elim
  | ok ds =>
    rw [ei] at q;simp only [lf,R.ok_bind] at q;split at q
    · rename_i hsz;cases ec:cg b t f (aJ own fr ρ) ds with
      | no=>rw [ec] at q;exact q.elim
      | ex c =>
        rw [ec] at q;exact mh (use:=none) T ck hout hi hb0 hbody hs I sl ei hsz ec (fun c' hr=>by cases hr;exact q) (fun z=>nomatch z) hstk fun xs a C H' s' m vs hr=>by cases hr
      | ok xs =>
        rw [ec] at q;refine mh (use:=none) T ck hout hi hb0 hbody hs I sl ei hsz ec (fun c' hr=>by cases hr) (fun z=>nomatch z) hstk fun xs' a C H' s' m vs hr I' fC hn s2' ha hv rv=>?_
        cases hr;obtain ⟨f0,f1,f2,f3,f4,f5⟩:=fC;refine ⟨m,hn,fun h' sb=>⟨.ref a,H',I'.turned (t':=s'.toks) (fun b o hb e=>sb.extBut b o hb e) f0 f1 f3 f4 f5,rfl,?_⟩⟩;refine q _ H' s2' ⟨?_,_,rfl,ha⟩;simp only [jl];exact ⟨_,vs,rfl,hv,rv⟩
    · exact q.elim
theorem DN {X:Cx} {tg iter elt:Expr} {ifs:List Expr} {sc:Scope} {pos:Pos} {it:aW->R (List PyData)} {b:PyData->aW->Option aW} {t:aW->R Bool} {f:Fe} {N:List Str} {own:Nat} {G G0:List Str} {fr:List Nat} {nl:Nat} (T:Tb X nl G0) (ck:ge sc N own G X.N fr) (hout:∀ y∈sc.names,y.2=.free->X.env.kindOf y.1=some .cell\/X.env.kindOf y.1=some .free) (hi:Z.tm X tg iter it) (hb0:∀ ρ d ρ1,b d (aJ own fr ρ)=some ρ1->oJ (aJ own fr ρ) ρ1) (hbody:∀ cl C s H fp E,Tb (bw X N sc cl C s H fp E) own G->Z.u0 (bw X N sc cl C s H fp E) tg b/\Z.xE (bw X N sc cl C s H fp E) ifs t/\Z.cU (bw X N sc cl C s H fp E) elt f) (hs:∀ x,foldedSetIterable iter X.env x=pure x:=by intro _;rfl) (hstk:∃ env0 outer0 L,X.stack=env0::outer0/\env0.frame=some L/\X.env.frame=some L:=by exact ⟨_,_,_,rfl,rfl,rfl⟩):Z.qk X (.ListComp elt [⟨tg,iter,ifs,0⟩] sc pos) (bR it own fr b t f) :=
  ⟨D2.ue T ck hout hi.un hb0 (fun cl C s H fp E T=>let ⟨q1,q2,q3⟩:=hbody cl C s H fp E T;⟨q1.un,q2.un,q3.un⟩) hs hstk⟩
theorem BO {X:Cx} {tg iter elt:Expr} {ifs:List Expr} {sc:Scope} {pos py spos:Pos} {it:aW->R (List PyData)} {b:PyData->aW->Option aW} {t:aW->R Bool} {f:Fe} {N:List Str} {own:Nat} {G G0:List Str} {fr:List Nat} {nl:Nat} {y:Str} {i:Nat}
    (T:Tb X nl G0) (ck:ge sc N own G X.N fr) (hout:∀ y∈sc.names,y.2=.free->X.env.kindOf y.1=some .cell\/X.env.kindOf y.1=some .free) (hi:tm X tg iter it)
    (hb0:∀ ρ d ρ1,b d (aJ own fr ρ)=some ρ1->oJ (aJ own fr ρ) ρ1)
    (hbody:∀ cl C s H fp E,Tb (bw X N sc cl C s H fp E) own G->u0 (bw X N sc cl C s H fp E) tg b/\xE (bw X N sc cl C s H fp E) ifs t/\cU (bw X N sc cl C s H fp E) elt f)
    (hN:(X.N.take nl)[i]?=some y) (hsw:swapsWith (.ListComp elt [⟨tg,iter,ifs,0⟩] sc pos) (some (.Name y py)) spos.line X.env=pure true)
    (hs:∀ x,foldedSetIterable iter X.env x=pure x:=by intro _;rfl) (hstk:∃ env0 outer0 L,X.stack=env0::outer0/\env0.frame=some L/\X.env.frame=some L:=by exact ⟨_,_,_,rfl,rfl,rfl⟩):kW X (.Assign [.Name y py] (.ListComp elt [⟨tg,iter,ifs,0⟩] sc pos) spos) (gM i (bR it own fr b t f)):=fun Fm=>by
  intro pins s σ H D I h;obtain ⟨ρ,sl,q⟩:=h;unfold gM bR at q;obtain ⟨hNi,hl,hf⟩:=T.nm hN;cases ei:it ρ with
  | ex c=>rw [ei] at q;exact q.elim
  | no=>rw [ei] at q;exact q.elim
  | ok ds =>
    rw [ei] at q;simp only [lf,R.ok_bind] at q;by_cases hsz:ds.length<=sizeLine
    · rw [if_pos hsz] at q;cases ec:cg b t f (aJ own fr ρ) ds with
      | no=>rw [ec] at q;exact q.elim
      | ex c =>
        rw [ec] at q;rw [exec_Assign_Name_used _ _ _ _ hsw];refine wpAny_bind (wpAny_standAt (wpAny_bind ?_));show wpAny _ X.A (do let _ <- comprehension (.ListComp elt [⟨tg,iter,ifs,0⟩] sc pos) sc X.env _ (newList []) false (eval iter X.env) (some (assign (.Name y py) X.env))) _ _ s;exact wpAny_bind (dM (mh (use:=some (assign (.Name y py) X.env)) (Qc:=fun _ s'=>False) T ck hout hi hb0 hbody hs I sl.sl ei hsz ec (fun c' hr=>by cases hr;exact q.1.mono sl.fm) (fun z=>nomatch z) hstk fun xs a C H' s' m vs hr=>by cases hr) fun _ s' hq=>hq.elim)
      | ok xs =>
        rw [ec] at q;rw [exec_Assign_Name_used _ _ _ _ hsw];refine wpAny_bind (wpAny_standAt (wpAny_bind ?_));show wpAny _ X.A (do let _ <- comprehension (.ListComp elt [⟨tg,iter,ifs,0⟩] sc pos) sc X.env _ (newList []) false (eval iter X.env) (some (assign (.Name y py) X.env))) _ _ s;refine wpAny_bind (dM (mh (use:=some (assign (.Name y py) X.env)) (Qc:=fun _ s'=>SP X pins D .next s') T ck hout hi hb0 hbody hs I sl.sl ei hsz ec (fun c' hr=>by cases hr) (fun z=>nomatch z) hstk fun xs' a C H' s' m vs hr I' fC hn s2' ha hv rv=>?_) fun _ s' hq=>wpAny_pure (wpAny_pure hq));cases hr;obtain ⟨f0,f1,f2,f3,f4,f5⟩:=fC;show wpAny _ X.A (assign (.Name y py) X.env (.ref a)) _ _ _;refine wpAny_assign_Name (rl I' T.nd hNi hl (v:=.ref a) rfl (fun s'' I'' k=>?_) hf);have sls:iZ Fm H' (σ.set i (some (.ref a))) (ρ.set i (.own (.list xs))):=iZ.setOwn sl (sl.mono s2') s2' i ⟨by simp only [jl];exact ⟨a,vs,rfl,hv,rv⟩,a,rfl,ha⟩;refine ⟨m,?_,fun h' sb=>⟨_,H',I''.turned (t':=s''.toks) (fun b o hb e=>sb.extBut b o hb e) f0 f1 f3 f4 f5,q _ H' sls⟩⟩;obtain ⟨a',sb',ha'⟩:=k;refine hn.sameBut sb' ?_;rcases ha' with rfl | ha'
        · exact f1
        · exact Ne.symm (f4 y a' ha')
    · rw [if_neg hsz] at q;exact q.elim
theorem iZ.freeze {Fm H:Hp} {σ:St} {ρ:aW} {i:Nat} {d:PyData} {a:Addr} {u:HO} {o:Obj} (h:iZ Fm H σ ρ) (h1:ρ[i]?=some (.own d)) (h2:σ[i]?=some (some (.ref a))) (hu:H a=some u) (hm:(∃ xs,u=.lst xs)\/∃ ks,u=.dK ks)
    (hr:Rp (de H a (.frz o u)) d (.ref a)):iZ Fm (de H a (.frz o u)) σ (ρ.set i (.val d)):=by
  have hFa:=h.own i d a h1 h2;have kp:Kp H (de H a (.frz o u)):=gL hu hm;refine ⟨fun b x e=>?_,⟨by rw [List.length_set];exact h.sl.1,fun j c w' e1 e2=>?_⟩,fun j e b e1 e2=>?_,fun j k e f b e1 e2 e3 e4=>?_⟩
  · rw [aB (bg e hFa)];exact h.fm b x e
  · rw [List.getElem?_set] at e1;by_cases hij:i=j
    · subst hij;rw [if_pos rfl] at e1;split at e1
      · cases e1;rw [h2] at e2;cases e2;exact ⟨_,rfl,hr⟩
      · cases e1
    · rw [if_neg hij] at e1;have q:=h.sl.2 j c w' e1 e2;cases c with
      | exc p=>exact q
      | non=>exact True.intro
      | val d'=>obtain ⟨v,z1,z2⟩:=q;exact ⟨v,z1,Rp.kp kp _ _ z2⟩
      | own d' =>
        obtain ⟨v,z1,z2⟩:=q;subst z1;obtain ⟨b,ob,rfl,hb⟩:=sF z2;have nb:b≠a:=fun z=>hij (by subst z;exact h.apart i j d d' b h1 e1 h2 e2)
        refine ⟨_,rfl,?_⟩;cases d' <;> simp only [jl] at z2 ⊢
        · obtain ⟨b',vs,e,hb',r⟩:=z2;cases e;exact ⟨b,vs,rfl,by rw [aB nb];exact hb',bD.kp kp _ _ r⟩
        · obtain ⟨b',vs,e,hb',r⟩:=z2;cases e;exact ⟨b,vs,rfl,by rw [aB nb];exact hb',eP.kp kp _ _ r⟩
  · obtain ⟨ne,e1⟩:=dL (fun e z=>by cases z) e1;exact h.own j e b e1 e2
  · obtain ⟨ne,e1⟩:=dL (fun e z=>by cases z) e1;obtain ⟨ne',e2⟩:=dL (fun e z=>by cases z) e2;exact h.apart j k e f b e1 e2 e3 e4
theorem zN {X:Cx} {pins:List (Addr×Obj)} {s:Shared} {Fm H:Hp} {σ:St} {ρ:aW} {i:Nat} {d:PyData} (I:aS X pins σ H s) (h:iZ Fm H σ ρ) (h1:ρ[i]?=some (.own d)) :
    ∃ H' v,aS X pins σ H' s/\iZ Fm H' σ (ρ.set i (.val d))/\σ[i]?=some (some v)/\Rp H' d v:=by
  obtain ⟨w',h2,v,rfl,q⟩:=h.sl.at h1;cases d <;> simp only [jl] at q
  · rename_i ds;obtain ⟨a,vs,rfl,ha,r⟩:=q;obtain ⟨o,J⟩:=ik I ha (.inl ⟨_,rfl⟩);have hr:Rp (de H a (.frz o (.lst vs))) (.list ds) (.ref a):=by
      simp only [Rp];exact ⟨a,o,vs,rfl,bq,bD.kp (gL ha (.inl ⟨_,rfl⟩)) _ _ r⟩
    exact ⟨_,_,J,h.freeze h1 h2 ha (.inl ⟨_,rfl⟩) hr,h2,hr⟩
  · rename_i ds;obtain ⟨a,vs,rfl,ha,r⟩:=q;obtain ⟨o,J⟩:=ik I ha (.inr ⟨_,rfl⟩);have hr:Rp (de H a (.frz o (.dK vs))) (.dict ds) (.ref a):=by
      simp only [Rp];exact .inl ⟨a,o,vs,rfl,bq,eP.kp (gL ha (.inr ⟨_,rfl⟩)) _ _ r⟩
    exact ⟨_,_,J,h.freeze h1 h2 ha (.inr ⟨_,rfl⟩) hr,h2,hr⟩
theorem kW.fz {X:Cx} {st:Stmt} {i:Nat} {f:Fe} (h:kW X st (gM i f)) (hi:i < X.N.length):kW X st (bN i f):=fun Fm=>by
  intro pins s σ H D I ⟨ρ,sl,q⟩;unfold bN at q;cases ef:f ρ with
  | ex c=>rw [ef] at q;exact h Fm pins s σ H D I ⟨ρ,sl,by unfold gM;rw [ef];exact q⟩
  | no=>rw [ef] at q;exact q.elim
  | ok d =>
    rw [ef] at q;have hr:Dw X Fm (gM i f) { nx:=fun σ' H'=>iZ Fm H' σ' (ρ.set i (.own d)),rt:=fun _ _=>False } σ H:=⟨ρ,sl,by unfold gM;rw [ef];exact fun σ' H' s'=>s'⟩
    refine dM (h Fm pins s σ H _ I hr) fun fl s' z=>?_
    cases fl with
    | next =>
      obtain ⟨σ',H',I',sls⟩:=z;have hi':i < ρ.length:=by rw [<- sl.sl.1,I.len];exact hi
      obtain ⟨H2,v,I2,sl2,_,_⟩:=zN I' sls (i:=i) (d:=d) (by rw [List.getElem?_set,if_pos rfl,if_pos hi']);rw [List.set_set] at sl2;exact ⟨σ',H2,I2,q σ' H2 sl2⟩
    | brk=>obtain ⟨_,_,_,z⟩:=z;exact z.elim
    | cont=>obtain ⟨_,_,_,z⟩:=z;exact z.elim
    | ret u=>obtain ⟨_,_,_,_,_,z⟩:=z;exact z.elim
theorem ib {X:Cx} {st:Stmt} {i:Nat} {f:Fe} (h:Z.kW X st (gM i f)) (hi:i < X.N.length):Z.kW X st (bN i f) :=
  ⟨D2.kW.fz h.un hi⟩
noncomputable def uG (i:Nat):Fs:=fun ρ=>match ρ[i]? with
  | some (.own d)=>.ok (.rt d)
  | some (.val d)=>.ok (.rt d)
  | _=>.no
theorem nD {X:Cx} {nl:Nat} {G:List Str} {x:Str} {p pos:Pos} (T:Tb X nl G) (i:Nat) (hN:X.N[i]?=some x):Z.kW X (.Return (some (.Name x p)) pos) (uG i):=⟨fun Fm=>by
  intro pins s σ H D I ⟨ρ,sl,q⟩;have hm:=T.vis x (List.mem_of_getElem? hN);unfold uG at q;split at q
  · rename_i d e;obtain ⟨H2,v,I2,sl2,h2,r⟩:=zN I sl e;exact vR (iU hN hm.1 hm.2.1 hm.2.2) pins s σ H2 D I2 ⟨v,h2,q v H2 sl2.fm r⟩
  · rename_i d e;obtain ⟨o,h1,v,rfl,h2⟩:=sl.sl.at e;exact vR (iU hN hm.1 hm.2.1 hm.2.2) pins s σ H D I ⟨v,h1,q v H sl.fm h2⟩
  · exact q.elim⟩
theorem yb {X:Cx} {tg iter elt:Expr} {ifs:List Expr} {sc:Scope} {pos:Pos} {it:aW->R (List PyData)} {b:PyData->aW->Option aW} {t:aW->R Bool} {f:Fe} {N:List Str} {own:Nat} {G G0:List Str} {fr:List Nat} {nl:Nat}
    (T:Tb X nl G0) {oN:List Str} {on:List (Str×NameKind)} (hoN:X.N=oN) (hon:X.env.scope.names=on)
    (ck:ge sc N own G oN fr/\∀ y∈sc.names,y.2=.free->on.lookup y.1=some .cell\/on.lookup y.1=some .free) (hi:tm X tg iter it)
    (hb0:∀ ρ d ρ1,b d (aJ own fr ρ)=some ρ1->oJ (aJ own fr ρ) ρ1)
    (hbody:∀ cl C s H fp E,Tb (bw X N sc cl C s H fp E) own G->u0 (bw X N sc cl C s H fp E) tg b/\xE (bw X N sc cl C s H fp E) ifs t/\cU (bw X N sc cl C s H fp E) elt f)
    (hs:∀ x,foldedSetIterable iter X.env x=pure x:=by intro _;rfl) (hstk:∃ env0 outer0 L,X.stack=env0::outer0/\env0.frame=some L/\X.env.frame=some L:=by exact ⟨_,_,_,rfl,rfl,rfl⟩):qk X (.ListComp elt [⟨tg,iter,ifs,0⟩] sc pos) (bR it own fr b t f) :=
  ue T (by rw [hoN];exact ck.1) (fun y hy hf=>by unfold Env.kindOf;rw [hon];exact ck.2 y hy hf) hi hb0 hbody hs hstk
theorem bA {X:Cx} {tg iter elt:Expr} {ifs:List Expr} {sc:Scope} {pos:Pos} {it:aW->R (List PyData)} {b:PyData->aW->Option aW} {t:aW->R Bool} {f:Fe} {N:List Str} {own:Nat} {G G0:List Str} {fr:List Nat} {nl:Nat} (T:Tb X nl G0) {oN:List Str} {on:List (Str×NameKind)} (hoN:X.N=oN) (hon:X.env.scope.names=on) (ck:ge sc N own G oN fr/\∀ y∈sc.names,y.2=.free->on.lookup y.1=some .cell\/on.lookup y.1=some .free) (hi:Z.tm X tg iter it) (hb0:∀ ρ d ρ1,b d (aJ own fr ρ)=some ρ1->oJ (aJ own fr ρ) ρ1) (hbody:∀ cl C s H fp E,Tb (bw X N sc cl C s H fp E) own G->Z.u0 (bw X N sc cl C s H fp E) tg b/\Z.xE (bw X N sc cl C s H fp E) ifs t/\Z.cU (bw X N sc cl C s H fp E) elt f) (hs:∀ x,foldedSetIterable iter X.env x=pure x:=by intro _;rfl) (hstk:∃ env0 outer0 L,X.stack=env0::outer0/\env0.frame=some L/\X.env.frame=some L:=by exact ⟨_,_,_,rfl,rfl,rfl⟩):Z.qk X (.ListComp elt [⟨tg,iter,ifs,0⟩] sc pos) (bR it own fr b t f) :=
  ⟨D2.yb T hoN hon ck hi.un hb0 (fun cl C s H fp E T=>let ⟨q1,q2,q3⟩:=hbody cl C s H fp E T;⟨q1.un,q2.un,q3.un⟩) hs hstk⟩
theorem BP {X:Cx} {tg iter elt:Expr} {ifs:List Expr} {sc:Scope} {pos py spos:Pos} {it:aW->R (List PyData)} {b:PyData->aW->Option aW} {t:aW->R Bool} {f:Fe} {N:List Str} {own:Nat} {G G0:List Str} {fr:List Nat} {nl:Nat} {y:Str} (i:Nat)
    (hN:(X.N.take nl)[i]?=some y) (T:Tb X nl G0) {oN:List Str} {on:List (Str×NameKind)} (hoN:X.N=oN) (hon:X.env.scope.names=on)
    (ck:ge sc N own G oN fr/\∀ y∈sc.names,y.2=.free->on.lookup y.1=some .cell\/on.lookup y.1=some .free) (hi:tm X tg iter it)
    (hb0:∀ ρ d ρ1,b d (aJ own fr ρ)=some ρ1->oJ (aJ own fr ρ) ρ1)
    (hbody:∀ cl C s H fp E,Tb (bw X N sc cl C s H fp E) own G->u0 (bw X N sc cl C s H fp E) tg b/\xE (bw X N sc cl C s H fp E) ifs t/\cU (bw X N sc cl C s H fp E) elt f)
    (hsw:swapsWith (.ListComp elt [⟨tg,iter,ifs,0⟩] sc pos) (some (.Name y py)) spos.line X.env=pure true:=by rfl)
    (hs:∀ x,foldedSetIterable iter X.env x=pure x:=by intro _;rfl) (hstk:∃ env0 outer0 L,X.stack=env0::outer0/\env0.frame=some L/\X.env.frame=some L:=by exact ⟨_,_,_,rfl,rfl,rfl⟩):kW X (.Assign [.Name y py] (.ListComp elt [⟨tg,iter,ifs,0⟩] sc pos) spos) (gM i (bR it own fr b t f)) :=
  BO T (by rw [hoN];exact ck.1) (fun y hy hf=>by unfold Env.kindOf;rw [hon];exact ck.2 y hy hf) hi hb0 hbody hN hsw hs hstk
theorem eL {X:Cx} {tg iter elt:Expr} {ifs:List Expr} {sc:Scope} {pos py spos:Pos} {it:aW->R (List PyData)} {b:PyData->aW->Option aW} {t:aW->R Bool} {f:Fe} {N:List Str} {own:Nat} {G G0:List Str} {fr:List Nat} {nl:Nat} {y:Str} (i:Nat) (hN:(X.N.take nl)[i]?=some y) (T:Tb X nl G0) {oN:List Str} {on:List (Str×NameKind)} (hoN:X.N=oN) (hon:X.env.scope.names=on) (ck:ge sc N own G oN fr/\∀ y∈sc.names,y.2=.free->on.lookup y.1=some .cell\/on.lookup y.1=some .free) (hi:Z.tm X tg iter it) (hb0:∀ ρ d ρ1,b d (aJ own fr ρ)=some ρ1->oJ (aJ own fr ρ) ρ1) (hbody:∀ cl C s H fp E,Tb (bw X N sc cl C s H fp E) own G->Z.u0 (bw X N sc cl C s H fp E) tg b/\Z.xE (bw X N sc cl C s H fp E) ifs t/\Z.cU (bw X N sc cl C s H fp E) elt f) (hsw:swapsWith (.ListComp elt [⟨tg,iter,ifs,0⟩] sc pos) (some (.Name y py)) spos.line X.env=pure true:=by rfl) (hs:∀ x,foldedSetIterable iter X.env x=pure x:=by intro _;rfl) (hstk:∃ env0 outer0 L,X.stack=env0::outer0/\env0.frame=some L/\X.env.frame=some L:=by exact ⟨_,_,_,rfl,rfl,rfl⟩):Z.kW X (.Assign [.Name y py] (.ListComp elt [⟨tg,iter,ifs,0⟩] sc pos) spos) (gM i (bR it own fr b t f)) :=
  ⟨D2.BP i hN T hoN hon ck hi.un hb0 (fun cl C s H fp E T=>let ⟨q1,q2,q3⟩:=hbody cl C s H fp E T;⟨q1.un,q2.un,q3.un⟩) hsw hs hstk⟩
theorem bH {own:Nat} {fr:List Nat} {i:Nat} (h:i < own):∀ ρ d ρ1,aU i d (aJ own fr ρ)=some ρ1->oJ (aJ own fr ρ) ρ1:=fun ρ d ρ1 e=>by
  have e':ρ1=(aJ own fr ρ).set i (.val d):=(Option.some.inj e).symm;subst e';refine ⟨by rw [List.length_set],fun j c hj=>?_⟩;by_cases hij:i=j
  · subst hij;left;unfold aJ at hj;rw [List.getElem?_append_left (by simpa using h),List.getElem?_replicate,if_pos h] at hj;exact (Option.some.inj hj).symm
  · right;rw [List.getElem?_set,if_neg hij];exact hj
noncomputable def wm (sc:Scope) (N G:List Str):Prop :=
  N.Nodup/\(∀ x∈N,(sc.names.lookup x=some .local\/sc.names.lookup x=some .cell)/\(x==("__debug__" : Str))=false/\(x==("__classdict__" : Str))=false)/\∀ x∈G,sc.names.lookup x=some .globalImplicit/\(x==("__debug__" : Str))=false/\x≠("__name__" : Str)
noncomputable instance {sc:Scope} {N G:List Str}:Decidable (wm sc N G):=by unfold wm;infer_instance
theorem DZ {P:Program} {w:World} {K:PySem.W.Frag} {mg:Str->Option Value} {base:Heap} {N:List Str} {qual:Str} {sc:Scope} {f:Addr} {cdv:Value} {A:Around} {outer:List Env} {s:Shared} {H:Hp} {E:XK} {G:List Str} {k:Nat}
    (hr:fG k (A.deeper (envOfC qual sc s.heap.objs.size f cdv))) (ck:wm sc N G):Tb (gE (cS P w mg) P w K mg base N qual sc f cdv A outer s H E) N.length G:=by
  obtain ⟨nd,l,g⟩:=ck;refine ⟨hr.units,rfl,nd,fun x hx=>⟨?_,(l x hx).2⟩,fun x hx=>⟨?_,.inl rfl⟩,fun x hx=>?_⟩
  · rcases (l x hx).1 with q | q
    · exact .inl q
    · exact .inr (.inl q)
  · exact (l x (List.mem_of_mem_take hx)).1
  · exact g x hx
section
variable {X:Cx} {a b c:Expr} {fa fb fc:Fe} {pos:Pos}
noncomputable def wt (X:Cx) (P:Hp->Hp->PyData->V->Prop) (r:V->Hp->VK->Prop) (g:PyData->R PyData):Prop:=∀ H x dx Q,iY H dx x->vV X P (g dx) H Q->r x H Q
theorem HV {P:Hp->Hp->PyData->V->Prop} {r:V->Hp->VK->Prop} {g:PyData->R PyData} (hP:Dn P) (hg:wt X P r g) (σ:St) (H:Hp) (Q:VK) (h:jQ X P (e1 g fa) σ H Q):IK r (jQ X u4 fa) σ H Q :=
  (fA (P:=u4) (k:=fun _ x=>g x) (gc (X:=X) hP Q) h).post fun v H1 ⟨_,d1,_,_,p1,q1⟩=>hg H1 v d1 Q p1 q1
noncomputable def vp:PyData->R PyData
  | .int i=>.ok (.int (-i))
  | _=>.no
theorem EW:wt X ia (rU fun i=>.int (-i)) vp:=fun H x dx Q hx q=>by
  unfold vp at q;split at q
  · exact ⟨_,bX hx,q _ H (aM.refl _) dG⟩
  · exact q.elim
theorem zl (ha:Z.eo X a fa):Z.cU X (.UnaryOp .USub a pos) (e1 vp fa):=⟨have ha:=ha.un;PE.imp (Gb E6 ha) (HV fZ EW)⟩
noncomputable def sr (g g':PyData->PyData->R PyData) (fa fb fc:Fe):Fe:=fun ρ=>fa ρ>>=fun x=>fb ρ>>=fun y=>g x y>>=fun d=>tU d>>=fun k=>if k=true then fc ρ>>=fun z=>g' y z else .ok (.bool false)
theorem zw {r r':R2} {g g':PyData->PyData->R PyData} (hg:cP X ia r g) (hg':cP X ia r' g') (σ:St) (H:Hp) (Q:VK) (h:jQ X ia (sr g g' fa fb fc) σ H Q) :
    AX r r' (jQ X u4 fa) (jQ X u4 fb) (jQ X u4 fc) σ H Q :=
  (fA (P:=u4) (k:=fun ρ x=>fb ρ>>=fun y=>g x y>>=fun d=>tU d>>=fun k=>if k=true then fc ρ>>=fun z=>g' y z else .ok (.bool false)) (gc (X:=X) fZ Q) h).post fun v H1 ⟨ρ1,d1,sl1,_,p1,q1⟩ =>
    (fA (P:=u4) (f:=fb) (k:=fun ρ y=>g d1 y>>=fun d=>tU d>>=fun k=>if k=true then fc ρ>>=fun z=>g' y z else .ok (.bool false)) (gc (X:=X) fZ Q) ⟨ρ1,sl1,q1⟩).post fun u H2 ⟨ρ2,d2,sl2,s2,p2,q2⟩=>by
      refine hg H2 v u d1 d2 _ (iY.mono p1 s2) p2 ?_;cases e:g d1 d2 with
      | ex c=>rw [e] at q2;exact q2
      | no=>rw [e] at q2;exact q2
      | ok d =>
        rw [e] at q2;intro w' H3 s3 p3;have q3:vV X ia (tU d>>=fun k=>if k=true then fc ρ2>>=fun z=>g' d2 z else .ok (.bool false)) H2 Q:=q2;cases d with
        | bool k =>
          have e3:w'=.bl k:=by simpa only [Rp] using p3
          refine ⟨k,e3,?_⟩;cases k with
          | false=>exact q3 _ H3 s3 ft
          | true =>
            have q4:vV X ia (fc ρ2>>=fun z=>g' d2 z) H2 Q:=q3;exact (fA (P:=u4) (f:=fc) (k:=fun _ z=>g' d2 z) (gc (X:=X) fZ Q) ⟨ρ2,sl2.mono s3,(gc (X:=X) fZ Q).mono _ _ _ q4 s3⟩).post fun z H4 ⟨_,d4,_,s4,p4,q5⟩=>hg' H4 u z d2 d4 Q (iY.mono p2 (s3.trans s4)) p4 q5
        | none=>exact q3.elim
        | int i=>exact q3.elim
        | str i=>exact q3.elim
        | list i=>exact q3.elim
        | tuple i=>exact q3.elim
        | dict i=>exact q3.elim
theorem ve {op op':CmpOp} {r r':R2} {g g':PyData->PyData->R PyData} (ho:jP X (compareOp op) r) (hg:cP X ia r g) (ho':jP X (compareOp op') r') (hg':cP X ia r' g') (ha:Z.eo X a fa) (hb:Z.eo X b fb) (hc:Z.eo X c fc) (hm:lastMarks [op,op'] [b,c]=false:=by with_unfolding_all rfl):Z.cU X (.Compare a [op,op'] [b,c] pos) (sr g g' fa fb fc):=⟨have ha:=ha.un;have hb:=hb.un;have hc:=hc.un;PE.imp (Ax ho ho' ha hb hc hm) (zw hg hg')⟩
variable {es:List Expr} {fs:aW->R (List PyData)}
noncomputable def gh (fs:aW->R (List PyData)):Fe:=fun ρ=>fs ρ>>=fun ds=>if ds.length<=sizeLine then .ok (.tuple ds) else .no
noncomputable def gg (fs:aW->R (List PyData)):Fe:=fun ρ=>fs ρ>>=fun ds=>if ds.length<=sizeLine then .ok (.list ds) else .no
theorem fB {x1} (h:Z.tj X es fs):Z.cU X (.Tuple es x1 pos) (gh fs):=⟨have h:=h.un;PE.imp (Ez h) fun σ H Q q=>(pA (I:=Rp) (f:=fs) (k:=fun _ ds=>if ds.length<=sizeLine then .ok (.tuple ds) else .no) (gc (X:=X) fZ Q) q).post fun vs H1 ⟨_,ds,_,_,p,q1⟩=>by
    have p:=nT.mp p;split at q1
    · rename_i hz;exact ⟨by rw [p.length];exact hz,fun a ha=>q1 _ _ (cT ha _) (e9 ha p)⟩
    · exact q1.elim⟩
theorem dh (h:Z.tj X es fs):Z.qk X (.List es pos) (gg fs):=⟨have h:=h.un;PE.imp (Et h) fun σ H Q q=>(pA (I:=Rp) (f:=fs) (k:=fun _ ds=>if ds.length<=sizeLine then .ok (.list ds) else .no) (gc (X:=X) BI Q) q).post fun vs H1 ⟨_,ds,_,_,p,q1⟩=>by
    have p:=nT.mp p;split at q1
    · rename_i hz;exact ⟨by rw [p.length];exact hz,fun a ha=>q1 _ _ (cT ha _) (e8 ha p)⟩
    · exact q1.elim⟩
theorem j9  : Z.qk X (.Dict [] [] pos) (eC (.dict [])):=⟨PE.imp Ay fun σ H Q ⟨ρ,sl,q⟩ p hp=>q _ _ (cT hp _) ⟨by simp only [jl];exact ⟨p,[],rfl,bq,by simp only [eP]⟩,p,rfl,hp⟩⟩
noncomputable def bC:PyData->PyData->R PyData
  | .list ds,.int i=>match atI ds i with
    | some d=>.ok d
    | none=>.no
  | .tuple ds,.int i=>match atI ds i with
    | some d=>.ok d
    | none=>.no
  | .str z,.int i=>if z.length<=sizeLine then match atI z.cps.toList i with
    | some c=>.ok (.str ⟨#[c]⟩)
    | none=>.no else .no
  | .dict kvs,k=>if gQ kvs=true then .no else match gF k with
    | some _=>match iF kvs k with
      | some d=>.ok d
      | none=>.no
    | none=>.no
  | _,_=>.no
theorem bD.atI {H:Hp} {ds:List PyData} {vs:List V} {i:Int} {d:PyData} (r:bD H ds vs) (e:L2.atI ds i=some d):∃ v,L2.atI vs i=some v/\Rp H d v:=by
  unfold L2.atI at e ⊢;rw [r.length];cases h:wX ds.length i with
  | none=>rw [h] at e;cases e
  | some j =>
    rw [h] at e;obtain ⟨v,e1,p⟩:=r.get (show ds[j]?=some d from e);exact ⟨v,e1,p⟩
noncomputable def Gi:R2:=fun x y H Q=>∃ a v,x=.ref a/\o1 H a y (some v)/\Q v H
theorem B1 (hu:X.A.units+1 < cLine):Bp X Gi:=by
  intro value slice pins s σ H x y v u Q I rx ry h hs;obtain ⟨a,z,rfl,g,q⟩:=h;cases rx;exact tail_any (t9 I g) PySem.F.slot_dict_getitem.lookup (x5 hu I g ry fun w' s3 I3 rw'=>⟨z,H,I3,rw',q⟩) hs
theorem GC:cP X ia (fun x y H Q=>Gj X.K x y H Q\/Gm X.K x y H Q\/Gk x y H Q\/Gi x y H Q) bC:=fun H x y dx dy Q hx hy q=>by
  unfold bC at q;split at q
  · rename_i ds i;split at q
    · rename_i d e;obtain ⟨a,vs,rfl,hq,r⟩:=fD (K:=X.K) hx;obtain ⟨v,e1,p⟩:=r.atI e;exact .inl ⟨a,vs,i,v,rfl,bX hy,hq,e1,q v H (aM.refl _) p⟩
    · exact q.elim
  · rename_i ds i;split at q
    · rename_i d e;obtain ⟨a,vs,rfl,hq,r⟩:=eN hx;obtain ⟨v,e1,p⟩:=r.atI e;exact .inr (.inl ⟨a,vs,i,v,rfl,bX hy,jm.of hq,e1,q v H (aM.refl _) p⟩)
    · exact q.elim
  · rename_i z i;split at q
    · rename_i hz;split at q
      · rename_i c e;exact .inr (.inr (.inl ⟨z,i,c,gS hx,bX hy,hz,e,q _ H (aM.refl _) sL⟩))
      · exact q.elim
    · exact q.elim
  · rename_i kvs k;split at q
    · exact q.elim
    rename_i hi;split at q
    · rename_i κ e;split at q
      · rename_i d e1;obtain ⟨a,ks,rfl,h,r⟩:=me (Bool.not_eq_true _ ▸ hi) hx;obtain ⟨o,g,_,e2⟩:=wJ (κ:=κ) h r;rw [ur e] at e1;obtain ⟨v,rfl,p⟩:=e2 d e1;rw [<- wB hy e] at g;exact .inr (.inr (.inr ⟨a,v,rfl,g,q v H (aM.refl _) p⟩))
      · exact q.elim
    · exact q.elim
  · exact q.elim
theorem aE (hu:X.A.units+64 < cLine) (ha:Z.eo X a fa) (hb:Z.eo X b fb) (hs:wp b):Z.cU X (.Subscript a b pos) (e2 bC fa fb):=⟨have ha:=ha.un;have hb:=hb.un;PE.imp (F8 (B4.or (Eb.or (Ea.or (B1 (by omega))))) ha hb hs) (two fZ GC)⟩
variable {nl:Nat} {G:List Str} {x:Str} {p:Pos}
noncomputable def rR (X:Cx) (P:Hp->Hp->PyData->V->Prop) (r:List V->Hp->VK->Prop) (g:List PyData->R PyData):Prop:=∀ H xs ds Q,RA iY H ds xs->vV X P (g ds) H Q->r xs H Q
theorem wC {P:Hp->Hp->PyData->V->Prop} {r:List V->Hp->VK->Prop} {g:List PyData->R PyData} (hP:Dn P) (hg:rR X P r g) (σ:St) (H:Hp) (Q:VK) (h:jQ X P (fun ρ=>fs ρ>>=g) σ H Q):Ig r (AJ X iY fs) σ H Q :=
  (pA (I:=iY) (k:=fun _=>g) (gc (X:=X) hP Q) h).post fun vs H1 ⟨_,ds,_,_,p1,q1⟩=>hg H1 vs ds Q p1 q1
noncomputable def one (g:PyData->R PyData):List PyData->R PyData
  | [d]=>g d
  | _=>.no
noncomputable def E3 (g:PyData->PyData->R PyData):List PyData->R PyData
  | [d,e]=>g d e
  | _=>.no
theorem vM (g:PyData->R PyData) (fa:Fe):(fun ρ=>ah fa az ρ>>=one g)=e1 g fa:=by
  funext ρ;unfold ah az e1;cases fa ρ <;> rfl
theorem E4 (g:PyData->PyData->R PyData) (fa fb:Fe):(fun ρ=>ah fa (ah fb az) ρ>>=E3 g)=e2 g fa fb:=by
  funext ρ;unfold ah az e2;cases fa ρ with
  | ok a=>cases fb ρ <;> rfl
  | ex c=>rfl
  | no=>rfl
theorem v9 {P:Hp->Hp->PyData->V->Prop} {r:List V->Hp->VK->Prop} {g:PyData->R PyData} (h:∀ H x d Q,iY H d x->vV X P (g d) H Q->r [x] H Q):rR X P r (one g):=fun H xs ds Q ra q=>by
  unfold one at q;split at q
  · rename_i d;simp only [RA] at ra;obtain ⟨v,r',e,p,e2⟩:=ra;subst e2;subst e;exact h H v d Q p q
  · exact q.elim
theorem EZ {P:Hp->Hp->PyData->V->Prop} {r:List V->Hp->VK->Prop} {g:PyData->PyData->R PyData} (h:∀ H x y d e Q,iY H d x->iY H e y->vV X P (g d e) H Q->r [x,y] H Q):rR X P r (E3 g):=fun H xs ds Q ra q=>by
  unfold E3 at q;split at q
  · rename_i d e;simp only [RA] at ra;obtain ⟨v,r',e1,p,v',r'',e2,p',e3⟩:=ra;subst e3;subst e2;subst e1;exact h H v v' d e Q p p' q
  · exact q.elim
section
variable {P:Hp->Hp->PyData->V->Prop} {r:List V->Hp->VK->Prop} {g:PyData->R PyData} {g2:PyData->PyData->R PyData} {id ty:String}
theorem zo (T:Tb X nl G) (j:Nat) (hG:G[j]?=some x) (hm:X.mg x=none) (hP:Dn P) (hv:bootBuiltins x=some (.builtin id)) (hc:eD X (.builtin id) r) (hg:∀ H x d Q,iY H d x->vV X P (g d) H Q->r [x] H Q) (ha:eo X a fa)
    (he:bh a=true:=by rfl):PE X (.Call (.Name x p) [a] [] pos) (jQ X P (e1 g fa)):=by
  have q:=T.gl x (List.mem_of_getElem? hG);rw [<- vM];exact PE.imp (mH hc q.1 hm hv (my ha su he) q.2.2 q.2.1 (bP he)) (wC hP (v9 hg))
theorem E5 (T:Tb X nl G) (j:Nat) (hG:G[j]?=some x) (hm:X.mg x=none) (hP:Dn P) (hv:bootBuiltins x=some (.type ty)) (hc:eD X (.type ty) r) (hg:∀ H x d Q,iY H d x->vV X P (g d) H Q->r [x] H Q) (ha:eo X a fa)
    (he:bh a=true:=by rfl):PE X (.Call (.Name x p) [a] [] pos) (jQ X P (e1 g fa)):=by
  have q:=T.gl x (List.mem_of_getElem? hG);rw [<- vM];exact PE.imp (rc hc q.1 hm hv (my ha su he) q.2.2 q.2.1 (bP he)) (wC hP (v9 hg))
theorem Fw (T:Tb X nl G) (j:Nat) (hG:G[j]?=some x) (hm:X.mg x=none) (hP:Dn P) (hv:bootBuiltins x=some (.builtin id)) (hc:eD X (.builtin id) r) (hg:∀ H x y d e Q,iY H d x->iY H e y->vV X P (g2 d e) H Q->r [x,y] H Q) (ha:eo X a fa) (hb:eo X b fb)
    (he:bh a=true:=by rfl) (he2:bh b=true:=by rfl):PE X (.Call (.Name x p) [a,b] [] pos) (jQ X P (e2 g2 fa fb)):=by
  have q:=T.gl x (List.mem_of_getElem? hG);rw [<- E4];exact PE.imp (mH hc q.1 hm hv (my ha (my hb su he2) he) q.2.2 q.2.1 (bP he) (mU (by rw [List.all_cons,he2];rfl))) (wC hP (EZ hg))
end
end
theorem nR:fillsNumberSlot (.type "tuple") "mul" = pure false :=
  PySem.fillsNumberSlot_seq (id := "tuple.__mul__") (r:=some (.builtin "tuple.__rmul__")) F.slot_tuple_mul.lookup (by decide +kernel) F.slot_tuple_rmul.lookup (by decide +kernel)
theorem sK:seqRepeat? (.type "tuple")=pure (some (.builtin "tuple.__mul__")):=by
  unfold seqRepeat?;rw [PySem.seqSlot_of (T := "tuple") (name := "__mul__") (id := "tuple.__mul__") F.slot_tuple_mul.lookup (by decide +kernel),PySem.seqSlot_of (T := "tuple") (name := "__rmul__") (id := "tuple.__rmul__") F.slot_tuple_rmul.lookup (by decide +kernel)];rfl
theorem pN (a:Int) (t:Tok) (l:Addr) (items:Array Value) (n:Nat) (dd:Option Addr) (sl:Array (Option Value)) :
    Meets (Builtin.«int.__rmul__» ⟨[.int a t,.ref l],[]⟩) (fun _ R s=>s.heap.get? l=some { cls:=.type "tuple",dict:=dd,data:=.seq items n,slots:=sl }/\R (.ok (.ret Value.notImplemented)) s) :=
  .of_wp fun prog w A R s h=>by obtain ⟨hp,g,d,tk,os⟩:=s;obtain ⟨hl,h⟩:=h;wp_walk;exact ⟨_,rfl,h⟩
theorem we (l:Addr) (items:Array Value) (n:Nat) (dd:Option Addr) (sl:Array (Option Value)) (x:Int) (u:Tok) (h1:2<=x) (h2:x < 2 ^ 63) (h0:¬ items.isEmpty=true) (hc1:¬ (items.size:Int)*x > (2 ^ 63-1) / 8) (hbig:Builtin.Tuple.tupleTooMany ((items.size:Int)*x)=false) (hsz:¬ (List.foldl (fun x1 x2=>x1++x2) #[] (List.replicate x.toNat items)).size > sizeLine) :
    Meets (Builtin.«tuple.__mul__» ⟨[.ref l,.int x u],[]⟩) (fun _ R s=>s.heap.get? l=some { cls:=.type "tuple",dict:=dd,data:=.seq items n,slots:=sl }/\R (.ok (.ret (Value.ref s.heap.objs.size))) { s with heap:=s.heap.push { cls:=Value.type "tuple",data:=Data.seq (List.foldl (fun x1 x2=>x1++x2) #[] (List.replicate x.toNat items)) },toks:=s.toks }) :=
  .of_wp fun prog w A R s h=>by
    obtain ⟨hp,g,d,tk,os⟩:=s;obtain ⟨hl,h⟩:=h;have f1:=AutoSeq1.idx_int;have f2:=AutoSeq1.sub_tuple_tuple;have f3:=AutoSeq1.sub_list_list;have f4:=AutoSeq1.sub_tuple_list;have f5:=AutoSeq1.sub_list_tuple;have e0:(decide (x < -2 ^ 63)||decide (x>=2 ^ 63))=false:=by
      rw [decide_eq_false (by omega),decide_eq_false (by omega)];rfl
    have e1:(items.isEmpty||x==1)=false:=by
      have:(x==1)=false:=by simp;omega
      rw [this,Bool.or_false];exact Bool.eq_false_iff.mpr h0
    have e2:(decide (x<=0)||items.isEmpty)=false:=by
      rw [decide_eq_false (by omega),Bool.false_or];exact Bool.eq_false_iff.mpr h0
    have e3:decide ((items.size:Int)*x > (2 ^ 63-1) / 8)=false:=decide_eq_false hc1;have e4:Builtin.Tuple.tupleTooMany ((items.size:Int)*x)=false:=hbig
    wp_walk using wpAny_loadPart' hl
    refine wpAny_ite_false (decide_eq_false (by rw [e0];exact Bool.false_ne_true)) ?_
    wp_walk using wpAny_loadPart' hl
    refine wpAny_ite_false (decide_eq_false (by rw [e1];exact Bool.false_ne_true)) ?_
    wp_walk using wpAny_loadPart' hl
    refine wpAny_ite_false (decide_eq_false (by rw [e2];exact Bool.false_ne_true)) ?_
    wp_walk using wpAny_loadPart' hl
    refine wpAny_ite_false e3 ?_
    wp_walk using wpAny_loadPart' hl
    exact ⟨_,rfl,h⟩
section
variable {X:Cx} {a b c:Expr} {fa fb fc:Fe} {pos:Pos} {nl:Nat} {G:List Str} {x:Str} {p:Pos}
noncomputable def Dv (K:PySem.W.Frag):R2:=fun x y H Q=>∃ l k xs,x=.ref l/\y=.int k/\jm K H l xs/\xs≠[]/\2<=k/\k < 2 ^ 63/\xs.length*k.toNat<=sizeLine/\∀ p,H p=none->Q (.ref p) (de H p (.tup (List.replicate k.toNat xs).flatten))
theorem Cj:jP X (binaryOp .Mult) (Dv X.K):=by
  intro pins s σ H x y v u Q I rx ry h;obtain ⟨l,k,xs,rfl,rfl,hH,hne,h1,h2,hz,q⟩:=h;cases rx;obtain ⟨t,rfl⟩:=ry;obtain ⟨its,r,pl,hz0⟩:=I.tuple hH;obtain ⟨⟨cls,dd,data,sl⟩,e,hc,n,hd⟩:=id pl;simp only at hc hd;subst hc hd;have hl:=r.length;have hnew:List.foldl (fun x1 x2=>x1++x2) #[] (List.replicate k.toNat its.toArray)=(List.replicate k.toNat its).flatten.toArray:=by
    have:=qS its k.toNat [];rw [List.nil_append] at this;exact this
  have hlen:(List.replicate k.toNat its).flatten.length<=sizeLine:=by rw [w4,<- hl,Nat.mul_comm];exact hz
  have hprod:(its.length:Int)*k<=(sizeLine:Int):=by
    have h3:((its.length*k.toNat:Nat):Int)<=(sizeLine:Int):=by rw [<- hl];exact Int.ofNat_le.mpr hz
    have h4:((k.toNat:Nat):Int)=k:=Int.toNat_of_nonneg (by omega);rw [Int.natCast_mul,h4] at h3;exact h3
  have hcap:¬ (its.toArray.size:Int)*k > (2 ^ 63-1) / 8:=by
    rw [List.size_toArray];have hs:sizeLine=16777216:=sizeLine_eq;omega
  have hbig:Builtin.Tuple.tupleTooMany ((its.toArray.size:Int)*k)=false:=by
    unfold Builtin.Tuple.tupleTooMany;rw [List.size_toArray];exact decide_eq_false (by omega)
  refine wpAny_binaryOp_repeat_ref (T := "tuple") (U := "int") (by decide) ⟨_,e,rfl⟩ (fun s'=>typeIs_int s' k t) nR F.fills_int_mul F.slot_int_rmul sK F.slot_int_index.lookup
    (call_meets F.slot_int_rmul (typeIs_int s k t) F.entry_int_rmul (F.args_int_rmul_2 _ _) (pN k t l its.toArray n dd sl)
      ⟨e,rfl,⟨_,e,rfl⟩,call_meets F.slot_tuple_mul ⟨_,e,rfl⟩ F.entry_tuple_mul (F.args_tuple_mul_2 _ _) (we l its.toArray n dd sl k t h1 h2 (by
        intro z;apply hne;have:its=[]:=by simpa using z
        rw [this] at hl;exact List.length_eq_zero_iff.mp hl) hcap hbig (by rw [hnew,List.size_toArray];omega)) ⟨e,?_⟩⟩)
  rw [hnew];refine ⟨.ref s.heap.objs.size,_,I.laid (t':=s.toks) (o:=.tup (List.replicate k.toNat xs).flatten) (fun b ob q=>Heap.get?_push_of_some _ q) (Nat.le_refl _) ?_,rfl,q _ (I.hok.fresh (Nat.le_refl _))⟩;exact ⟨by rw [w4,Nat.mul_comm];exact hz,_,r.rep k.toNat,h9.new _ _⟩
noncomputable def gT:PyData->PyData->R PyData
  | .int i,.int j=>if (-(2 ^ 64) < i/\i < 2 ^ 64)\/(-(2 ^ 64) < j/\j < 2 ^ 64) then .ok (.int (i*j)) else .no
  | .tuple xs,.int k=>if xs≠[]/\2<=k/\k < 2 ^ 63/\xs.length*k.toNat<=sizeLine then .ok (.tuple (List.replicate k.toNat xs).flatten) else .no
  | _,_=>.no
theorem EV:cP X ia (fun x y H Q=>rI Bl (fun i j=>.int (i*j)) x y H Q\/Dv X.K x y H Q) gT:=fun H x y dx dy Q hx hy q=>by
  cases dx with
  | int i =>
    cases dy with
    | int j =>
      simp only [gT] at q;split at q
      · rename_i h;exact .inl ⟨_,_,bX hx,bX hy,h,q _ H (aM.refl _) dG⟩
      · exact q.elim
    | _=>exact q.elim
  | tuple xs =>
    cases dy with
    | int k =>
      simp only [gT] at q;split at q
      · rename_i h;obtain ⟨a,vs,rfl,ha,r⟩:=eN hx;have hl:=r.length;refine .inr ⟨a,k,vs,rfl,bX hy,jm.of ha,fun z=>h.1 ?_,h.2.1,h.2.2.1,by rw [hl];exact h.2.2.2,fun p hp=>q _ _ (cT hp _) (e9 hp (r.rep _))⟩;rw [z] at hl;exact List.length_eq_zero_iff.mp hl.symm
      · exact q.elim
    | _=>exact q.elim
  | _=>exact q.elim
theorem fR (ha:Z.eo X a fa) (hb:Z.eo X b fb):Z.cU X (.BinOp a .Mult b pos) (e2 gT fa fb):=⟨have ha:=ha.un;have hb:=hb.un;nI fZ (El.or Cj) EV ha hb⟩
theorem Cc:jP X (binaryOp .Add) (fun x y H Q=>∃ i j,x=.str i/\y=.str j/\i.length+j.length<=sizeLine/\Q (.str (i++j)) H):=by
  intro pins s σ H x y v u Q I rx ry h;obtain ⟨i,j,rfl,rfl,hz,q⟩:=h;obtain ⟨t,rfl⟩:=rx;obtain ⟨t',rfl⟩:=ry;exact PyProof.Rows.add_str (fun t' tk=>⟨.str (i++j),H,I.tok _,⟨_,rfl⟩,q⟩) hz
noncomputable def AH (K:PySem.W.Frag):R2:=fun x y H Q=>∃ a b ys,x=.ref a/\y=.ref b/\jm K H a []/\jm K H b ys/\Q (.ref b) H
theorem Ar:jP X (binaryOp .Add) (AH X.K):=by
  intro pins s σ H x y v u Q I rx ry h;obtain ⟨a,b,ys,rfl,rfl,ha,hb,q⟩:=h;cases rx;cases ry;obtain ⟨its,r1,p1,_⟩:=I.tuple ha;obtain ⟨its2,r2,p2,_⟩:=I.tuple hb;cases r1;obtain ⟨⟨cls,dd,data,sl⟩,ho,hc,n,hd⟩:=id p1;obtain ⟨⟨cls2,dd2,data2,sl2⟩,ho2,hc2,n2,hd2⟩:=id p2;simp only at hc hd hc2 hd2;subst hc hd hc2 hd2;exact concat_meets ⟨_,ho,rfl⟩ ⟨_,ho2,rfl⟩ noFill_tuple_add seq_tuple_add PySem.F.slot_tuple_add PySem.F.entry_tuple_add (PySem.F.args_tuple_add_2 _ _)
    (tuple_addW0 a b _ its2.toArray n n2 dd dd2 sl sl2 (by rfl)) ⟨ho,ho2,⟨.ref b,H,I,rfl,q⟩⟩
noncomputable def Dt (K:PySem.W.Frag):R2:=fun x y H Q=>∃ l b xs zs,x=.ref l/\y=.ref b/\Rd H l (.lst xs)/\Rd H b (.lst zs)/\xs.length+zs.length<=sizeLine/\∀ p,H p=none->Q (.ref p) (de H p (.lst (xs++zs)))
theorem Cd:jP X (binaryOp .Add) (Dt X.K):=by
  intro pins s σ H x y v u Q I rx ry h;obtain ⟨l,b,xs,zs,rfl,rfl,hH,hB,hz,q⟩:=h;cases rx;cases ry;obtain ⟨z,its,n,r,e⟩:=hH.ok I.hok;obtain ⟨z2,its2,n2,r2,e2⟩:=hB.ok I.hok;have hl:=r.length;have hl2:=r2.length;refine PySem.P.add_list e e2 ?_ (by rw [List.size_toArray,List.size_toArray];omega);have ea:its.toArray++its2.toArray=(its++its2).toArray:=by simp
  rw [ea];exact ⟨.ref _,_,I.lnew (t':=s.toks) (r.append r2) (by rw [List.length_append];omega),rfl,q _ I.fresh⟩
noncomputable def eW:PyData->PyData->R PyData
  | .int i,.int j=>.ok (.int (i+j))
  | .str x,.str y=>if x.length+y.length<=sizeLine then .ok (.str (x++y)) else .no
  | .tuple xs,.tuple ys=>if xs.length+ys.length<=sizeLine then .ok (.tuple (xs++ys)) else .no
  | .list xs,.list ys=>if xs.length+ys.length<=sizeLine then .ok (.list (xs++ys)) else .no
  | _,_=>.no
theorem sd {H:Hp} {ds:List PyData} {x:V} (h:iY H (.list ds) x):∃ a vs,x=.ref a/\Rd H a (.lst vs)/\bD H ds vs:=by
  rcases h with h | h
  · simp only [Rp] at h;obtain ⟨a,o,vs,e,ha,r⟩:=h;exact ⟨a,vs,e,.inr ⟨o,ha⟩,r⟩
  · simp only [jl] at h;obtain ⟨a,vs,e,ha,r⟩:=h;exact ⟨a,vs,e,.inl ha,r⟩
theorem ES:cP X G3 (fun x y H Q=>Bj (fun i j=>.int (i+j)) x y H Q\/(∃ i j,x=.str i/\y=.str j/\i.length+j.length<=sizeLine/\Q (.str (i++j)) H)\/Du X.K x y H Q\/AH X.K x y H Q\/Dt X.K x y H Q) eW:=fun H x y dx dy Q hx hy q=>by
  cases dx with
  | int i =>
    cases dy with
    | int j=>exact .inl ⟨_,_,bX hx,bX hy,q _ H (aM.refl _) (.inl dG)⟩
    | _=>exact q.elim
  | str i =>
    cases dy with
    | str j =>
      simp only [eW] at q;split at q
      · rename_i h;exact .inr (.inl ⟨_,_,gS hx,gS hy,h,q _ H (aM.refl _) (.inl sL)⟩)
      · exact q.elim
    | _=>exact q.elim
  | tuple xs =>
    cases dy with
    | tuple ys =>
      simp only [eW] at q;split at q
      · rename_i h;have hx':=hx;obtain ⟨a,vs,rfl,ha,r⟩:=eN hx;obtain ⟨b,us,rfl,hb,r2⟩:=eN hy;cases xs with
        | nil =>
          have:=r.nil_inv;subst this;refine .inr (.inr (.inr (.inl ⟨a,b,us,rfl,rfl,jm.of ha,jm.of hb,q _ H (aM.refl _) (.inl ?_)⟩)));simp only [Rp,List.nil_append];exact ⟨b,us,rfl,hb,r2⟩
        | cons d ds =>
          refine .inr (.inr (.inl ⟨a,b,vs,us,rfl,rfl,jm.of ha,jm.of hb,fun z=>?_,by rw [r.length,r2.length];exact h,fun z=>?_,fun _ p hp=>q _ _ (cT hp _) (.inl (e9 hp (r.append r2)))⟩))
          · rw [z] at r;obtain ⟨_,_,e,_⟩:=r.cons_inv;cases e
          · have hy0:ys=[]:=by
              have:=r2.length;rw [z] at this;exact List.length_eq_zero_iff.mp this.symm
            refine q _ H (aM.refl _) (.inl ?_);rw [hy0,List.append_nil];simp only [Rp];exact ⟨a,vs,rfl,ha,r⟩
      · exact q.elim
    | _=>exact q.elim
  | list xs =>
    cases dy with
    | list ys =>
      simp only [eW] at q;split at q
      · rename_i h;obtain ⟨a,vs,rfl,ha,r⟩:=sd hx;obtain ⟨b,us,rfl,hb,r2⟩:=sd hy;exact .inr (.inr (.inr (.inr ⟨a,b,vs,us,rfl,rfl,ha,hb,by rw [r.length,r2.length];exact h,fun p hp=>q _ _ (cT hp _) (.inr (e8 hp (r.append r2)))⟩)))
      · exact q.elim
    | _=>exact q.elim
  | _=>exact q.elim
theorem cK (ha:Z.eo X a fa) (hb:Z.eo X b fb):Z.cU X (.BinOp a .Add b pos) (e2 eW fa fb):=⟨have ha:=ha.un;have hb:=hb.un;Bo.e (nI BH (Ej.or (Cc.or (Cf.or (Ar.or Cd)))) ES ha hb)⟩
end
section
variable {prog:Program} {w:World} {A:Around} {E:Value->Shared->Prop} {s:Shared}
theorem k7 {t sl:Addr} {items:Array Value} {vl vu:Value} {lo hi:Option Int} {Q:Value->Shared->Prop} (ht:IsTup s.heap t items) (hs:s.heap.IsSliceOf sl vl vu .none) (pl:IsPart vl lo) (pu:IsPart vu hi)
    (hw:HT.sIx items.size 0 lo=0/\HT.sIx items.size items.size hi=items.size) (h:Q (.ref t) s):wpAny (model prog w) A (getItem (.ref t) (.ref sl)) Q E s:=by
  obtain ⟨os,hos,hcs,hds⟩:=id hs;have hTs:s.TypeIs (.ref sl) "slice" := ⟨os,hos,hcs⟩
  unfold getItem
  try with_reducible refine wpAny_holding ?_
  first | refine wpAny_bind (wpAny_pure ?_) | skip
  refine wpAny_bind (wpAny_sequenceKey ht.typeIs (by decide) ?_);refine wpAny_bind (wpAny_callSpecial?_slot (name:=Str.ofString "__getitem__") ht.typeIs PyProof.Rows.slot_tuple_getitem
    (wpAny_call_entry PyProof.Rows.slot_tuple_getitem ht.typeIs entry_tuple_getitem ?_ (args_tuple_getitem _ _)))
  show wpAny _ _ (Builtin.Tuple.tupleItemsOf (.ref t)>>=_) _ _ s;refine wpAny_bind (tupleItemsOf_ ht ?_);refine wpAny_bind (wpAny_typeOf hTs ?_);rw [if_pos (by decide)];refine wpAny_bind (HT.sliceApplied_gen hs pl pu ?_);have hyes:(((HT.sIx items.size 0 lo:Nat):Int)==0&&(1:Int)==1&&(HT.sIx items.size items.size hi-HT.sIx items.size 0 lo)==items.size)=true:=by
    rw [hw.1,hw.2];simp
  show wpAny _ _ (if (((HT.sIx items.size 0 lo:Nat):Int)==0&&(1:Int)==1&&(HT.sIx items.size items.size hi-HT.sIx items.size 0 lo)==items.size)=true then _ else _) _ _ s;rw [if_pos hyes];refine wpAny_bind (m:=Builtin.Tuple.tupleIsExact _) ?_;unfold Builtin.Tuple.tupleIsExact;refine wpAny_bind (wpAny_typeOf ht.typeIs (wpAny_pure ?_));show wpAny _ _ (if (Value.type "tuple" == Value.type "tuple")=true then _ else _) _ _ s;rw [if_pos (by decide)];refine wpAny_bind (wpAny_rule ?_)
  first
    | exact wpAny_pure ⟨_,rfl,wpAny_pure h⟩
    | exact wpAny_bind (wpAny_pure (wpAny_pure ⟨_,rfl,wpAny_pure h⟩))
end
section
variable {X:Cx} {a b c:Expr} {fa fb fc:Fe} {pos p2:Pos} {nl:Nat} {G:List Str} {x:Str} {p:Pos}
noncomputable def ml (xs:List PyData) (lo hi:Option Int):List PyData:=(xs.drop (HT.sIx xs.length 0 lo)).take (HT.sIx xs.length xs.length hi-HT.sIx xs.length 0 lo)
theorem bD.cut {H:Hp} {ds:List PyData} {vs:List V} (r:bD H ds vs) (lo hi:Option Int):bD H (ml ds lo hi) (tY vs lo hi):=by
  unfold ml tY;rw [r.length];exact (r.drop _).take _
noncomputable def Ia (K:PySem.W.Frag):V->Option Int->Option Int->Hp->VK->Prop:=fun x lo hi H Q=>∃ a xs,x=.ref a/\jm K H a xs/\(HT.sIx xs.length 0 lo=0/\HT.sIx xs.length xs.length hi=xs.length)/\Q (.ref a) H
theorem AR:Bs X (Ia X.K):=by
  intro pins s σ H x v vl vu lo hi sl Q I rx hs pl pu h;obtain ⟨a,xs,rfl,hx,hw,q⟩:=h;cases rx;obtain ⟨its,r,ht,hz⟩:=I.tuple hx;have hlen:its.toArray.size=xs.length:=by rw [List.size_toArray];exact r.length.symm
  refine ⟨"tuple",_,PyProof.Rows.slot_tuple_getitem.lookup,ht.typeIs,?_⟩;exact k7 ht hs pl pu (by rw [hlen];exact hw) ⟨.ref a,H,I,rfl,q⟩
theorem EO:Bs X (fun x lo hi H Q=>∃ xx,x=.str xx/\xx.length<=sizeLine/\Q (.str (Txt.slice xx lo hi)) H):=by
  intro pins s σ H x v vl vu lo hi sl Q I rx hs pl pu h;obtain ⟨xx,rfl,hz,q⟩:=h;obtain ⟨t,rfl⟩:=rx;refine ⟨"str",_,PySem.F.slot_str_getitem.lookup,typeIs_str _ _ _,?_⟩;have fin:∀ t' k,EP X pins σ Q (.str (Txt.slice xx lo hi) t') { s with toks:=k }:=fun t' k=>⟨.str _,H,I.tok k,⟨t',rfl⟩,q⟩
  cases pl with
  | none =>
    cases pu with
    | none=>exact wpAny_getItem_str_slice (l:=none) (u:=none) (st:=none) hs rfl (post_val_or_str ⟨Nat.le_trans (Txt.slice_le xx _ _) hz,fin⟩)
    | int j uj=>exact wpAny_getItem_str_slice (l:=none) (u:=some (j,uj)) (st:=none) hs rfl (post_val_or_str ⟨Nat.le_trans (Txt.slice_le xx _ _) hz,fin⟩)
  | int i ui =>
    cases pu with
    | none=>exact wpAny_getItem_str_slice (l:=some (i,ui)) (u:=none) (st:=none) hs rfl (post_val_or_str ⟨Nat.le_trans (Txt.slice_le xx _ _) hz,fin⟩)
    | int j uj=>exact wpAny_getItem_str_slice (l:=some (i,ui)) (u:=some (j,uj)) (st:=none) hs rfl (post_val_or_str ⟨Nat.le_trans (Txt.slice_le xx _ _) hz,fin⟩)
noncomputable def BF:PyData->Option Int->Option Int->R PyData
  | .str x,lo,hi=>if x.length<=sizeLine then .ok (.str (Txt.slice x lo hi)) else .no
  | .tuple xs,lo,hi=>.ok (.tuple (ml xs lo hi))
  | .list xs,lo,hi=>.ok (.list (ml xs lo hi))
  | _,_,_=>.no
noncomputable abbrev Fo:=aW->R (Option Int)
noncomputable def oy:Fo:=fun _=>.ok none
noncomputable def G9:PyData->R Int
  | .int i=>.ok i
  | _=>.no
noncomputable def oz (f:Fe):Fo:=fun ρ=>f ρ>>=fun d=>G9 d>>=fun i=>.ok (some i)
noncomputable def AK (X:Cx) (f:Fo):TO:=fun σ H Q=>∃ ρ,Sl H σ ρ/\match f ρ with
  | .ok o=>∀ H',aM H H'->Q o H'
  | .ex c=>Xw X c H
  | .no=>False
noncomputable def Fb (X:Cx) (e:Option Expr) (f:Fo):Prop:=PO X e (AK X f)
structure Z.Fb (X:Cx) (e:Option Expr) (f:Fo):Prop where
  un:D2.Fb X e f
theorem nB  : Z.Fb X none oy:=⟨fun pins s σ H Q I ⟨ρ,sl,q⟩=>Ct pins s σ H Q I (q H (aM.refl _))⟩
theorem GR (Q:Option Int->Hp->Prop):Bu X (fun (r:R (Option Int)) H=>match r with | .ok b=>∀ H',aM H H'->Q b H' | .ex c=>Xw X c H | .no=>False) where
  mono:=fun r H H' h s=>by
    cases r with
    | ok d=>exact fun H2 s2=>h H2 (s.trans s2)
    | ex c=>exact Xw.mono h s
    | no=>exact h
  ex:=fun c H h=>h
  no:=fun H h=>h
theorem nC {e:Expr} {f:Fe} (h:Z.cU X e f):Z.Fb X (some e) (oz f):=⟨have h:=h.un;fun pins s σ H Q I q =>
  Cu h pins s σ H Q I ((fA (P:=ia) (f:=f) (k:=fun _ d=>G9 d>>=fun i=>.ok (some i)) (GR (X:=X) Q) q).post fun v H1 ⟨_,d,_,_,p,q1⟩=>by
    cases d with
    | int i =>
      have e1:v=.int i:=by simpa only [Rp] using p
      exact ⟨i,e1,q1 H1 (aM.refl _)⟩
    | _=>exact q1.elim)⟩
noncomputable def Dg (f:Fe) (lo hi:Fo):Fe:=fun ρ=>f ρ>>=fun d=>lo ρ>>=fun l=>hi ρ>>=fun u=>BF d l u
theorem zn {β:Type} {Tg:R β->Hp->Prop} {σ:St} {H:Hp} (t:Bu X Tg) {f:Fo} {k:aW->Option Int->R β} (h:∃ ρ,Sl H σ ρ/\Tg (f ρ>>=k ρ) H):AK X f σ H (fun o H1=>∃ ρ,Sl H1 σ ρ/\aM H H1/\Tg (k ρ o) H1):=by
  obtain ⟨ρ,sl,q⟩:=h;refine ⟨ρ,sl,?_⟩;cases e:f ρ with
  | ok d=>rw [e] at q;exact fun H1 s=>⟨ρ,sl.mono s,s,t.mono _ _ _ q s⟩
  | ex c=>rw [e] at q;exact t.ex _ _ q
  | no=>rw [e] at q;exact (t.no _ q).elim
theorem AK.post {f:Fo} {σ:St} {H:Hp} {Q Q':Option Int->Hp->Prop} (h:AK X f σ H Q) (i:∀ b H',Q b H'->Q' b H'):AK X f σ H Q':=by
  obtain ⟨ρ,sl,q⟩:=h;refine ⟨ρ,sl,?_⟩;cases e:f ρ with
  | ok d=>rw [e] at q;exact fun H' s=>i _ _ (q H' s)
  | ex c=>rw [e] at q;exact q
  | no=>rw [e] at q;exact q
theorem lx {lo hi:Option Expr} {fl fh:Fo} (ha:Z.eo X a fa) (hl:Z.Fb X lo fl) (hu:Z.Fb X hi fh):Z.cU X (.Subscript a (.Slice lo hi none p2) pos) (Dg fa fl fh):=⟨have ha:=ha.un;have hl:=hl.un;have hu:=hu.un;by
  refine Bo.e (PE.imp (AA (AR.or (EQ.or (CK.or EO))) ha hl hu) fun σ H Q h=>?_);refine (fA (P:=u4) (f:=fa) (k:=fun ρ d=>fl ρ>>=fun l=>fh ρ>>=fun u=>BF d l u) (gc (X:=X) BH Q) h).post fun v H1 zq0=>?_
  obtain ⟨ρ1,d1,sl1,_,p1,q1⟩:=zq0;refine (zn (f:=fl) (k:=fun ρ l=>fh ρ>>=fun u=>BF d1 l u) (gc (X:=X) BH Q) ⟨ρ1,sl1,q1⟩).post fun l H2 zq0=>?_
  obtain ⟨ρ2,sl2,s2,q2⟩:=zq0;refine (zn (f:=fh) (k:=fun ρ u=>BF d1 l u) (gc (X:=X) BH Q) ⟨ρ2,sl2,q2⟩).post fun u H3 zq0=>?_
  obtain ⟨ρ3,sl3,s3,q3⟩:=zq0;have p3:iY H3 d1 v:=iY.mono (iY.mono p1 s2) s3;cases d1 with
  | tuple xs =>
    obtain ⟨a',vs,rfl,ha',r⟩:=eN p3;have hlen:=r.length;by_cases hw:HT.sIx vs.length 0 l=0/\HT.sIx vs.length vs.length u=vs.length
    · refine .inl ⟨a',vs,rfl,jm.of ha',hw,q3 _ H3 (aM.refl _) (.inl ?_)⟩;have e:ml xs l u=xs:=by
        unfold ml;rw [<- hlen,hw.1,hw.2];simp [hlen]
      rw [e];simp only [Rp];exact ⟨a',vs,rfl,ha',r⟩
    · exact .inr (.inl ⟨a',vs,rfl,jm.of ha',hw,fun p hp=>q3 _ _ (cT hp _) (.inl (e9 hp (r.cut l u)))⟩)
  | list xs =>
    obtain ⟨a',vs,rfl,ha',r⟩:=fD (K:=X.K) p3;exact .inr (.inr (.inl ⟨a',vs,rfl,ha',fun p hp=>q3 _ _ (cT hp _) (.inr (e8 hp (r.cut l u)))⟩))
  | str xx =>
    simp only [BF] at q3;split at q3
    · rename_i hz;exact .inr (.inr (.inr ⟨xx,gS p3,hz,q3 _ H3 (aM.refl _) (.inl (by simp only [Rp]))⟩))
    · exact q3.elim
  | _=>exact q3.elim⟩
noncomputable def HH:PyData->R PyData
  | .tuple xs=>.ok (.tuple xs.reverse)
  | _=>.no
end
section
variable {X:Cx} {a b c:Expr} {fa fb fc:Fe} {pos p2:Pos} {nl:Nat} {G:List Str} {x:Str} {p:Pos}
theorem xU:eD X (.builtin "len") (fun xs H Q=>∃ a kvs,xs=[V.ref a]/\Rd H a (.dK kvs)/\Q (.int kvs.length) H):=by
  intro pins s σ H xs us Q I r h;obtain ⟨a,kvs,rfl,ha,q⟩:=h;obtain ⟨u,rfl,ru⟩:=ir r;cases ru;exact FE I ha fun t s' I'=>⟨.int kvs.length,H,I',⟨t,rfl⟩,q⟩
theorem eP.length {H:Hp}:∀ {kvs:List (PyData×PyData)} {ks:List (dD×V)},eP H kvs ks->ks.length=kvs.length
  | [],ks,h=>by simp only [eP] at h;rw [h];rfl
  | kd::kvs,ks,h=>by
    simp only [eP] at h;obtain ⟨x,v,r,rfl,_,t⟩:=h;rw [List.length_cons,List.length_cons,eP.length t]
noncomputable def cF:PyData->R PyData
  | .list ds=>.ok (.int ds.length)
  | .tuple ds=>.ok (.int ds.length)
  | .dict kvs=>if gQ kvs=true then .no else .ok (.int kvs.length)
  | .str y=>if y.length<=sizeLine then .ok (.int y.length) else .no
  | _=>.no
theorem ca (T:Tb X nl G) (j:Nat) (hG:G[j]?=some ("len" : Str)) (hm:X.mg "len" = none) (ha:Z.eo X a fa) (he:bh a=true:=by rfl):Z.cU X (.Call (.Name "len" p) [a] [] pos) (e1 cF fa):=⟨have ha:=ha.un;by
  refine zo T j hG hm fZ PySem.boot_len (sf.or (sg.or xU)) (fun H x d Q hx q=>?_) ha he;cases d with
  | list ds =>
    obtain ⟨a',vs,rfl,h,r⟩:=fD (K:=X.K) hx;exact .inl ⟨a',vs,rfl,.inl h,by rw [r.length];exact q _ H (aM.refl _) dG⟩
  | tuple ds =>
    obtain ⟨a',vs,rfl,h,r⟩:=eN hx;exact .inl ⟨a',vs,rfl,.inr (jm.of h),by rw [r.length];exact q _ H (aM.refl _) dG⟩
  | dict kvs =>
    simp only [cF] at q;split at q
    · exact q.elim
    rename_i hi;obtain ⟨a',vs,rfl,h,r⟩:=me (Bool.not_eq_true _ ▸ hi) hx;exact .inr (.inr ⟨a',vs,rfl,h,by rw [r.length];exact q _ H (aM.refl _) dG⟩)
  | str y =>
    simp only [cF] at q;split at q
    · rename_i hz;exact .inr (.inl ⟨y,by rw [gS hx],hz,q _ H (aM.refl _) dG⟩)
    · exact q.elim
  | _=>exact q.elim⟩
noncomputable def lC:PyData->R PyData
  | .int i=>.ok (.int i)
  | .bool k=>.ok (.int (if k then 1 else 0))
  | _=>.no
theorem qG (T:Tb X nl G) (j:Nat) (hG:G[j]?=some ("int" : Str)) (hm:X.mg "int" = none) (ha:Z.eo X a fa) (he:bh a=true:=by rfl):Z.cU X (.Call (.Name "int" p) [a] [] pos) (e1 lC fa):=⟨have ha:=ha.un;by
  refine E5 T j hG hm fZ PyProof.Rows.boot_int qN (fun H x d Q hx q=>?_) ha he;cases d with
  | int i=>exact .inl ⟨i,by rw [bX hx],q _ H (aM.refl _) dG⟩
  | bool k=>exact .inr ⟨k,by rw [md hx],q _ H (aM.refl _) dG⟩
  | _=>exact q.elim⟩
noncomputable def IT:PyData->R PyData
  | .int i=>if i.natAbs.log2 < 1920 then .ok (.str (toString i)) else .no
  | _=>.no
noncomputable def DW:PyData->PyData->R PyData
  | .int i,.int j=>.ok (.int (if j < i then j else i))
  | _,_=>.no
noncomputable def DV:PyData->PyData->R PyData
  | .int i,.int j=>.ok (.int (if j > i then j else i))
  | _,_=>.no
theorem zk (T:Tb X nl G) (j:Nat) (hG:G[j]?=some ("min" : Str)) (hm:X.mg "min" = none) (ha:Z.eo X a fa) (hb:Z.eo X b fb) (he:bh a=true:=by rfl) (he2:bh b=true:=by rfl):Z.cU X (.Call (.Name "min" p) [a,b] [] pos) (e2 DW fa fb):=⟨have ha:=ha.un;have hb:=hb.un;by
  refine Fw T j hG hm fZ PyProof.Rows.boot_min (xX T.calm) (fun H x y d e Q hx hy q=>?_) ha hb he he2;cases d with
  | int i =>
    cases e with
    | int j=>exact ⟨i,j,by rw [bX hx,bX hy],q _ H (aM.refl _) dG⟩
    | _=>exact q.elim
  | _=>exact q.elim⟩
theorem zj (T:Tb X nl G) (j:Nat) (hG:G[j]?=some ("max" : Str)) (hm:X.mg "max" = none) (ha:Z.eo X a fa) (hb:Z.eo X b fb) (he:bh a=true:=by rfl) (he2:bh b=true:=by rfl):Z.cU X (.Call (.Name "max" p) [a,b] [] pos) (e2 DV fa fb):=⟨have ha:=ha.un;have hb:=hb.un;by
  refine Fw T j hG hm fZ PyProof.Rows.boot_max (xW T.calm) (fun H x y d e Q hx hy q=>?_) ha hb he he2;cases d with
  | int i =>
    cases e with
    | int j=>exact ⟨i,j,by rw [bX hx,bX hy],q _ H (aM.refl _) dG⟩
    | _=>exact q.elim
  | _=>exact q.elim⟩
noncomputable def ez:PyData->R PyData
  | .list ds=>.ok (.tuple ds)
  | .tuple ds=>.ok (.tuple ds)
  | _=>.no
theorem cc (T:Tb X nl G) (j:Nat) (hG:G[j]?=some ("tuple" : Str)) (hm:X.mg "tuple" = none) (ha:Z.eo X a fa) (he:bh a=true:=by rfl):Z.cU X (.Call (.Name "tuple" p) [a] [] pos) (e1 ez fa):=⟨have ha:=ha.un;by
  refine E5 T j hG hm fZ PyProof.Rows.boot_tuple qy (fun H x d Q hx q=>?_) ha he;cases d with
  | list ds =>
    obtain ⟨a',vs,rfl,h,r⟩:=fD (K:=X.K) hx;exact ⟨a',vs,rfl,.inl ⟨h,fun l hl=>q _ _ (cT hl _) (e9 hl r)⟩⟩
  | tuple ds =>
    obtain ⟨a',vs,rfl,h,r⟩:=eN hx;exact ⟨a',vs,rfl,.inr ⟨jm.of h,q _ H (aM.refl _) (by simp only [Rp];exact ⟨a',vs,rfl,h,r⟩)⟩⟩
  | _=>exact q.elim⟩
noncomputable def mn:PyData->R PyData
  | .list ds=>.ok (.list ds)
  | .tuple ds=>.ok (.list ds)
  | _=>.no
theorem jq (T:Tb X nl G) (j:Nat) (hG:G[j]?=some ("list" : Str)) (hm:X.mg "list" = none) (ha:Z.eo X a fa) (he:bh a=true:=by rfl):Z.qk X (.Call (.Name "list" p) [a] [] pos) (e1 mn fa):=⟨have ha:=ha.un;by
  refine E5 T j hG hm BI PyProof.Rows.boot_list sh (fun H x d Q hx q=>?_) ha he;cases d with
  | list ds =>
    obtain ⟨a',vs,rfl,h,r⟩:=fD (K:=X.K) hx;exact ⟨a',vs,rfl,.inl h,fun l hl=>q _ _ (cT hl _) (e8 hl r)⟩
  | tuple ds =>
    obtain ⟨a',vs,rfl,h,r⟩:=eN hx;exact ⟨a',vs,rfl,.inr (jm.of h),fun l hl=>q _ _ (cT hl _) (e8 hl r)⟩
  | _=>exact q.elim⟩
inductive Ty where
  | int | bool | str | list | tuple
noncomputable def Ty.nm:Ty->String
  | .int => "int"
  | .bool => "bool"
  | .str => "str"
  | .list => "list"
  | .tuple => "tuple"
noncomputable def Dj:Ty->PyData->Bool
  | .int,.int _=>true
  | .int,.bool _=>true
  | .bool,.bool _=>true
  | .str,.str _=>true
  | .list,.list _=>true
  | .tuple,.tuple _=>true
  | _,_=>false
noncomputable def k6 (T:Ty):PyData->R PyData
  | .dict _=>.no
  | d=>.ok (.bool (Dj T d))
theorem zr:eD X (.builtin "isinstance") (fun xs H Q=>∃ x t T k,xs=[x,.ty T]/\lY X.K H x t/\PySem.W.kitOne X.K t (.type T)=some k/\Q (.bl k) H):=by
  intro pins s σ H xs us Q I r h;obtain ⟨x,t,T,k,rfl,ty,e,q⟩:=h;obtain ⟨u,w',rfl,rx,ry⟩:=uN r;cases ry;exact yj I rx ty e fun tk=>⟨.bl k,H,I.tok tk,rfl,q⟩
theorem GZ {K:PySem.W.Frag} {H:Hp} {d:PyData} {v:V} (h:iY H d v):(∃ kvs,d=.dict kvs)\/∃ t,lY K H v t/\∀ T:Ty,PySem.W.kitOne K t (.type T.nm)=some (Dj T d):=by
  cases d with
  | none=>rw [mf h];exact .inr ⟨_,.non,fun T=>by cases T <;> rfl⟩
  | bool k=>rw [md h];exact .inr ⟨_,.bl k,fun T=>by cases T <;> rfl⟩
  | int i=>rw [bX h];exact .inr ⟨_,.int i,fun T=>by cases T <;> rfl⟩
  | str y=>rw [gS h];exact .inr ⟨_,.str y,fun T=>by cases T <;> rfl⟩
  | tuple ds=>obtain ⟨a,vs,rfl,ha,_⟩:=eN h;exact .inr ⟨_,.tup ha,fun T=>by cases T <;> rfl⟩
  | list ds =>
    obtain ⟨a,vs,rfl,ha,_⟩:=sd h;rcases ha with ha | ⟨o,ha⟩
    · exact .inr ⟨_,.lst ha,fun T=>by cases T <;> rfl⟩
    · exact .inr ⟨_,.frz ha,fun T=>by cases T <;> rfl⟩
  | dict kvs=>exact .inl ⟨kvs,rfl⟩
theorem vt (ty:Ty) {y:Str} {py:Pos} (T:Tb X nl G) (j:Nat) (hG:G[j]?=some ("isinstance" : Str)) (hm:X.mg "isinstance" = none) (hy:bootBuiltins y=some (.type ty.nm)) (T':Tb X nl G) (j':Nat) (hG':G[j']?=some y) (hm':X.mg y=none) (ha:eo X a fa)
    (he:bh a=true:=by rfl):cU X (.Call (.Name "isinstance" p) [a,.Name y py] [] pos) (e1 (k6 ty) fa):=by
  have g:=T.gl _ (List.mem_of_getElem? hG);have g':=T.gl _ (List.mem_of_getElem? hG');have hp:PE X (.Name y py) (tC (.ty ty.nm)):=Cl g'.1 hm' hy rfl g'.2.2 g'.2.1;refine PE.imp (mH zr g.1 hm PyProof.Rows.boot_isinstance (mG ha (mG hp vO) (bP he)) g.2.2 g.2.1 (bP he)) fun σ H Q h=>?_
  refine (fA (P:=u4) (f:=fa) (k:=fun _ d=>k6 ty d) (gc (X:=X) fZ Q) h).post fun v H1 zq0=>?_
  obtain ⟨_,d,_,_,p1,q1⟩:=zq0;show ∃ x t T k,_/\_/\_/\_;rcases GZ (K:=X.K) p1 with ⟨kvs,rfl⟩ | ⟨t,ht,hk⟩
  · exact q1.elim
  · refine ⟨v,t,ty.nm,Dj ty d,rfl,ht,hk ty,?_⟩;cases d with
    | dict kvs=>exact q1.elim
    | _=>exact q1 _ H1 (aM.refl _) ft
theorem rT {py:Pos} (T:Tb X nl G) (j:Nat) (hG:G[j]?=some ("isinstance" : Str)) (hm:X.mg "isinstance" = none) (T':Tb X nl G) (j':Nat) (hG':G[j']?=some ("int" : Str)) (hm':X.mg "int" = none) (ha:Z.eo X a fa) (he:bh a=true:=by rfl):Z.cU X (.Call (.Name "isinstance" p) [a,.Name "int" py] [] pos) (e1 (k6 .int) fa):=⟨have ha:=ha.un;vt .int T j hG hm PyProof.Rows.boot_int T' j' hG' hm' ha he⟩
theorem la {py:Pos} (T:Tb X nl G) (j:Nat) (hG:G[j]?=some ("isinstance" : Str)) (hm:X.mg "isinstance" = none) (T':Tb X nl G) (j':Nat) (hG':G[j']?=some ("bool" : Str)) (hm':X.mg "bool" = none) (ha:Z.eo X a fa) (he:bh a=true:=by rfl):Z.cU X (.Call (.Name "isinstance" p) [a,.Name "bool" py] [] pos) (e1 (k6 .bool) fa):=⟨have ha:=ha.un;vt .bool T j hG hm PyProof.Rows.boot_bool T' j' hG' hm' ha he⟩
theorem j6 {py:Pos} (T:Tb X nl G) (j:Nat) (hG:G[j]?=some ("isinstance" : Str)) (hm:X.mg "isinstance" = none) (T':Tb X nl G) (j':Nat) (hG':G[j']?=some ("tuple" : Str)) (hm':X.mg "tuple" = none) (ha:Z.eo X a fa) (he:bh a=true:=by rfl):Z.cU X (.Call (.Name "isinstance" p) [a,.Name "tuple" py] [] pos) (e1 (k6 .tuple) fa):=⟨have ha:=ha.un;vt .tuple T j hG hm PyProof.Rows.boot_tuple T' j' hG' hm' ha he⟩
noncomputable def tP:List PyData->Option Bool
  | []=>some true
  | .bool k::ds=>(tP ds).map fun r=>k&&r
  | _=>none
noncomputable def BE:PyData->R PyData
  | .list ds=>match tP ds with
    | some k=>.ok (.bool k)
    | none=>.no
  | _=>.no
end
section
variable {X:Cx} {tg a b c:Expr} {fa fb fc:Fe} {pos p2:Pos} {nl:Nat} {G:List Str} {x:Str} {p:Pos} {fs:aW->R (List PyData)} {es:List Expr}
noncomputable def jL:PyData->R (List PyData)
  | .list ds=>.ok ds
  | .tuple ds=>.ok ds
  | _=>.no
noncomputable def ej (f:Fe):aW->R (List PyData):=fun ρ=>f ρ>>=jL
theorem Ad {K:PySem.W.Frag} {a:Addr} {ds:List PyData}:yZ (Hw K a) (fun H=>∃ o vs,H a=some (.frz o (.lst vs))/\bD H ds vs) ds where
  go:=fun i H ⟨o,vs,h,r⟩ hi=>by
    have hl:=r.length;exact ⟨vs,vs[i],.inl (.inr ⟨o,h⟩),List.getElem?_eq_getElem (by omega)⟩
  yld:=fun i H x H' d ⟨o,vs,h,r⟩ hd ⟨e,y⟩=>by
    subst e;obtain ⟨v,e1,p⟩:=r.get hd;have:=y vs (.inl (.inr ⟨o,h⟩));rw [e1] at this;cases this;exact ⟨aM.refl _,p⟩
  stop:=fun i H ⟨o,vs,h,r⟩ hi=>⟨vs,.inl (.inr ⟨o,h⟩),by rw [r.length];exact hi⟩
theorem BZ {K:PySem.W.Frag} {a:Addr} {ds:List PyData}:yZ (Hx K a) (fun H=>∃ vs,H a=some (.tup vs)/\bD H ds vs) ds where
  go:=fun i H ⟨vs,h,r⟩ hi=>by
    have hl:=r.length;exact ⟨vs,vs[i],jm.of h,List.getElem?_eq_getElem (by omega)⟩
  yld:=fun i H x H' d ⟨vs,h,r⟩ hd ⟨e,y⟩=>by
    subst e;obtain ⟨v,e1,p⟩:=r.get hd;have:=y vs (jm.of h);rw [e1] at this;cases this;exact ⟨aM.refl _,p⟩
  stop:=fun i H ⟨vs,h,r⟩ hi=>⟨vs,jm.of h,by rw [r.length];exact hi⟩
noncomputable def IX (K:PySem.W.Frag) (tl:TE):TI:=fun σ H R=>tl σ H fun x H1=>∃ a,x=.ref a/\((∃ xs,n6 K H1 a xs/\R (Hw K a) H1)\/∃ xs,jm K H1 a xs/\R (Hx K a) H1)
theorem Gf {l:Expr} {tl:TE} (hl:PE X l tl):PI X tg l (IX X.K tl):=by
  intro pins s σ H R I h;refine dM (hl pins s σ H _ I h) fun v s1 zq0=>?_
  obtain ⟨x,H1,I1,r1,q1⟩:=zq0;obtain ⟨a,e,q⟩:=q1;subst e;cases r1;rcases q with ⟨xs,hq,q⟩ | ⟨xs,hq,q⟩
  · obtain ⟨its,rv,p,hz⟩:=I1.list hq;refine wpAny_pyIter_list p.isList ?_;refine ⟨s1.heap.objs.size,[s1.heap.objs.size],_,_,H1,rfl,I1.kept (t':=s1.toks) fun b o e=>Heap.get?_push_of_some _ e,yQ a _,⟨_,Heap.get?_push_size _ rfl,rfl,rfl⟩,fun b hb=>?_,q⟩;have e:b=s1.heap.objs.size:=by simpa using hb
    subst e;exact I1.fpOk (Nat.le_refl _) (I1.hok.fresh (Nat.le_refl _))
  · obtain ⟨its,rv,p,hz⟩:=I1.tuple hq;refine wpAny_pyIter_tuple (show s1.heap.IsTuple a its.toArray from p) ?_;refine ⟨s1.heap.objs.size,[s1.heap.objs.size],_,_,H1,rfl,I1.kept (t':=s1.toks) fun b o e=>Heap.get?_push_of_some _ e,wg a _,⟨_,Heap.get?_push_size _ rfl,rfl,rfl⟩,fun b hb=>?_,q⟩;have e:b=s1.heap.objs.size:=by simpa using hb
    subst e;exact I1.fpOk (Nat.le_refl _) (I1.hok.fresh (Nat.le_refl _))
theorem AZ (Rk:It->Hp->Prop):Bu X (fun (r:R (List PyData)) H=>match r with | .ok ds=>∀ J H',aM H H'->(∃ Gd,yZ J Gd ds/\G5 H' (fun _=>False) Gd)->Rk J H' | .ex c=>Xw X c H | .no=>False) where
  mono:=fun r H H' h s=>by
    cases r with
    | ok d=>exact fun J H2 s2=>h J H2 (s.trans s2)
    | ex c=>exact Xw.mono h s
    | no=>exact h
  ex:=fun c H h=>h
  no:=fun H h=>h
theorem bG (ha:Z.cU X a fa):Z.tm X tg a (ej fa):=⟨have ha:=ha.un;PI.imp (Gf ha) fun σ H Rk h=>(fA (P:=ia) (f:=fa) (k:=fun _=>jL) (AZ (X:=X) Rk) h).post fun v H1 ⟨_,d,_,_,p1,q1⟩=>by
    cases d with
    | list ds =>
      simp only [Rp] at p1;obtain ⟨a',o,vs,rfl,h,r⟩:=p1;exact ⟨a',rfl,.inl ⟨vs,.inl (.inr ⟨o,h⟩),q1 _ H1 (aM.refl _) ⟨_,Ad,fun H2 k _=>⟨o,vs,k.2 _ _ _ h,bD.kp k _ _ r⟩⟩⟩⟩
    | tuple ds =>
      simp only [Rp] at p1;obtain ⟨a',vs,rfl,h,r⟩:=p1;exact ⟨a',rfl,.inr ⟨vs,jm.of h,q1 _ H1 (aM.refl _) ⟨_,BZ,fun H2 k _=>⟨vs,k.1 _ _ h,bD.kp k _ _ r⟩⟩⟩⟩
    | _=>exact q1.elim⟩
noncomputable def bU (lo:Int) (n:Nat):List PyData:=(List.range n).map fun (k:Nat)=>.int (lo+k)
noncomputable def qC:List PyData->R (List PyData)
  | [.int j]=>if -(2 ^ 62)<=j/\j < 2 ^ 62 then .ok (bU 0 j.toNat) else .no
  | [.int i,.int j]=>if -(2 ^ 62)<=i/\i < 2 ^ 62/\-(2 ^ 62)<=j/\j < 2 ^ 62 then .ok (bU i (j-i).toNat) else .no
  | _=>.no
noncomputable def ki (fs:aW->R (List PyData)):aW->R (List PyData):=fun ρ=>fs ρ>>=qC
theorem yk {lo:Int} {n:Nat}:yZ (G2 lo n) (fun _=>True) (bU lo n) where
  go:=fun i H _ hi=>by
    show i < n;simpa [bU] using hi
  yld:=fun i H x H' d _ hd ⟨e,y⟩=>by
    subst e;subst y;refine ⟨aM.refl _,?_⟩;unfold bU at hd;rw [List.getElem?_map] at hd;cases h:(List.range n)[i]? with
    | none=>rw [h] at hd;cases hd
    | some k =>
      rw [h] at hd;have hk:k=i:=by
        rw [List.getElem?_range] at h
        · exact (Option.some.inj h).symm
        · have:=(List.getElem?_eq_some_iff.mp h).1;simpa using this
      subst hk;cases hd;exact dG
  stop:=fun i H _ hi=>by
    show n<=i;simpa [bU] using hi
theorem gw (T:Tb X nl G) (j:Nat) (hG:G[j]?=some ("range" : Str)) (hm:X.mg "range" = none) (ha:Z.tj X [a] fs) (hl:∀ ρ ds,fs ρ=.ok ds->ds.length=1) (hs:bh a=true:=by rfl):Z.tm X tg (.Call (.Name "range" p) [a] [] pos) (ki fs):=⟨have ha:=ha.un;PI.imp (yA (T.gl _ (List.mem_of_getElem? hG)).1 hm ha (bP hs)) fun σ H Rk ⟨ρ,sl,q⟩=>by
    refine ⟨ρ,sl,?_⟩;dsimp only [ki] at q;cases e:fs ρ with
    | ex c=>rw [e] at q;exact q
    | no=>rw [e] at q;exact q
    | ok ds =>
      rw [e] at q;have hlen:=hl ρ ds e;intro vs H1 s1 r1
      match ds,hlen with
      | [d],_ =>
        simp only [RA] at r1;obtain ⟨v,r',rfl,p1,rfl⟩:=r1;cases d with
        | int j =>
          have ev:v=.int j:=by simpa only [Rp] using p1
          subst ev;by_cases hz:-(2 ^ 62)<=j/\j < 2 ^ 62
          · have e2:qC [.int j]=.ok (bU 0 j.toNat):=if_pos hz;rw [R.ok_bind,e2] at q;exact ⟨j,rfl,hz.1,hz.2,q _ H1 s1 ⟨_,yk,fun _ _ _=>True.intro⟩⟩
          · have e2:qC [.int j]=.no:=if_neg hz;rw [R.ok_bind,e2] at q;exact q.elim
        | _=>exact q.elim⟩
end
noncomputable def vz (x:Int):List Int->List Int
  | []=>[x]
  | y::r=>if x<=y then x::y::r else y::vz x r
noncomputable def gR:List Int->List Int
  | []=>[]
  | x::r=>vz x (gR r)
theorem nL (x:Int):∀ l,(vz x l).Perm (x::l)
  | []=>List.Perm.refl _
  | y::r=>by
    unfold vz;split
    · exact List.Perm.refl _
    · exact ((nL x r).cons y).trans (List.Perm.swap x y r)
theorem gj:∀ l,(gR l).Perm l
  | []=>List.Perm.refl _
  | x::r=>(nL x (gR r)).trans ((gj r).cons x)
theorem oh (x:Int):∀ l,l.Pairwise (·<=·)->(vz x l).Pairwise (·<=·)
  | [],_=>by unfold vz;exact List.pairwise_singleton _ _
  | y::r,h=>by
    have h':=List.pairwise_cons.mp h;unfold vz;split
    · rename_i hxy;refine List.pairwise_cons.mpr ⟨fun z hz=>?_,h⟩;rcases List.mem_cons.mp hz with rfl | hz
      · exact hxy
      · exact Int.le_trans hxy (h'.1 z hz)
    · rename_i hxy;refine List.pairwise_cons.mpr ⟨fun z hz=>?_,oh x r h'.2⟩;rcases List.mem_cons.mp ((nL x r).mem_iff.mp hz) with rfl | hz
      · omega
      · exact h'.1 z hz
theorem jM:∀ l,(gR l).Pairwise (·<=·)
  | []=>List.Pairwise.nil
  | x::r=>oh x _ (jM r)
theorem uJ {a b:List Int} (hp:a.Perm b) (hs:a.Pairwise (·<=·)):a=gR b:=PySem.W.ksm_same (hp.trans (gj b).symm) hs (jM b)
section
variable {prog:Program} {w:World} {A:Around} {E:Value->Shared->Prop} {s:Shared}
theorem uK {d:Addr} {kvs:List (dD×Value)} {ns:List Int} {Q:Value->Shared->Prop} (hh:A.handled=none) (lo:(d==sysModules)=false) (hd:s.heap.DictOf (dB prog w) d kvs) (hk:kvs.map (·.1)=ns.map Sum.inl) (h64:ns.length < 64)
    (h:∀ (D:Addr) (h':Heap) (tk:Nat) (vs:List Value) (e:Nat),s.heap.get? D=none->(∀ b o,s.heap.get? b=some o->h'.get? b=some o)->h'.get? D=some (seqObj "list" vs.toArray e)->IntsAre vs (gR ns)->Q (.ref D) { s with heap:=h',toks:=tk }) :
    wpAny (model prog w) A (call (.builtin "sorted") [.ref d]) Q E s:=by
  obtain ⟨ep,hat⟩:=hd.dictAt;have hlen:kvs.length=ns.length:=by have:=congrArg List.length hk;simpa using this
  have hn:kvs.length<=sizeLine:=by rw [sizeLine_eq];omega
  refine Calls.call_function_entry kind_sorted plain_sorted entry_sorted (args_sorted1 _) ?_;unfold Builtin.«sorted»;refine wpAny_bind (m:=checkCount "sorted" 1 1 _) (wpAny_pure ?_);refine wpAny_bind (PySem.W.kdu_collect (A:=A.in1) (PySem.W.kdl_dict (knd:=dB prog w) (kvs:=kvs) (ep:=ep) lo) hh hat hn fun h1 tk acc hk1 hacc=>?_);have hl:acc.toList.length=kvs.length:=by rw [Array.length_toList];exact hacc.1
  have hI:IntsAre acc.toList ns:=by
    have key:∀ (l:List Value) (ms:List Int) (k:Nat),l.length=ms.length->(∀ (j:Nat) (v:Value),l[j]?=some v->∃ n:Int,ms[j]?=some n/\∃ t,v=Value.int n t)->IntsAre l ms:=by
      intro l;induction l with
      | nil=>intro ms k e _;have:ms=[]:=List.length_eq_zero_iff.mp e.symm;subst this;exact .nil
      | cons v r ih =>
        intro ms k e hv;cases ms with
        | nil=>cases e
        | cons n ms =>
          obtain ⟨n',e1,t,rfl⟩:=hv 0 v rfl;have:n=n':=Option.some.inj e1;subst this;exact .cons n t (ih ms (k+1) (by simpa using e) fun j u hu=>hv (j+1) u (by simpa using hu))
    refine key acc.toList ns 0 (by rw [hl,hlen]) fun j v hv=>?_
    obtain ⟨κ,x,hx,his⟩:=hacc.2 j v (by rw [<- Array.getElem?_toList];exact hv);have e1:(kvs.map (·.1))[j]?=some κ:=by rw [List.getElem?_map,hx];rfl
    rw [hk,List.getElem?_map] at e1;cases e2:ns[j]? with
    | none=>rw [e2] at e1;cases e1
    | some n =>
      rw [e2] at e1;have e3:Sum.inl n=κ:=Option.some.inj e1;subst e3;rcases cR (show pQ (Sum.inl n) v=true from his) with ⟨i,t,e4,e5⟩ | ⟨y,t,e4,_⟩
      · cases e4;exact ⟨n,rfl,t,e5⟩
      · cases e4
  refine wpAny_bind (wpAny_newList ?_ (by rw [hl];exact hn));have hoL:(h1.push (seqObj "list" acc.toList.toArray 0)).get? h1.objs.size=some (seqObj "list" acc.toList.toArray 0):=Heap.get?_push_size _ rfl;show wpAny _ _ _ _ _ { s with heap:=h1.push (seqObj "list" acc.toList.toArray 0),toks:=tk };refine wpAny_bind (wpAny_holding (wpAny_call_entry slot_list_sort ⟨_,hoL,rfl⟩ entry_list_sort (list_sort_tree hoL hI (by rw [hl,hlen];exact h64) fun out ns' a1 a2 a3=>⟨_,rfl,?_⟩) (args_list_sort _)));refine wpAny_pure ⟨_,rfl,?_⟩;obtain ⟨e,he⟩:=sortedHeap_at (out:=out) hoL;have hsz:s.heap.get? h1.objs.size=none:=by
    cases q:s.heap.get? h1.objs.size with
    | none=>rfl
    | some o=>exact absurd (Heap.lt_size (hk1 _ _ q)) (Nat.lt_irrefl _)
  refine h h1.objs.size _ tk out.toList e hsz (fun b o q=>?_) he (by rw [uJ a2 a3] at a1;exact a1);have q1:=hk1 b o q;have hlt:b < h1.objs.size:=Heap.lt_size q1;show (sortedHeap (h1.push (seqObj "list" acc.toList.toArray 0)) h1.objs.size acc.toList out).get? b=some o;rw [sortedHeap_old (Nat.ne_of_lt hlt) (by rw [size_push'];exact Nat.lt_succ_of_lt hlt)];exact Heap.get?_push_of_some _ q1
end
theorem CV {fs ex:List Addr} {H:Hp} {h h':Heap} {a:Addr} {o:HO} (k:∀ b u,h.get? b=some u->h'.get? b=some u) (hg:h.get? a=none) (hn:H a=none):Un fs ex H (de H a o) h h':=by
  have ne:∀ {b:Addr} {u:Obj},h.get? b=some u->b≠a:=fun e z=>by subst z;rw [hg] at e;cases e
  exact ⟨fun b u q _ _ _=>k b u q,fun b u q _ _ _=>⟨u.slots,k b u q⟩,fun b u q n _=>by rw [aB (ne q)];exact n,fun b u q _=>⟨u,k b u q⟩,fun b xs q=>by rw [aB (bg q hn)];exact q,fun b u xs q=>by rw [aB (bg q hn)];exact q,
    fun b ps q=>⟨#[],by rw [aB (bg q hn),q];simp⟩⟩
theorem um {X:Cx} {pins:List (Addr×Obj)} {σ:St} {H:Hp} {s:Shared} {h':Heap} {a:Addr} {o:HO} {t':Nat} (I:aS X pins σ H s) (k:∀ b u,s.heap.get? b=some u->h'.get? b=some u) (hg:s.heap.get? a=none) (hn:H a=none)
    (new:cm X.prog X.w (de H a o) h' a o):aS X pins σ (de H a o) { s with heap:=h',toks:=t' }:=by
  refine I.un (CV k hg hn) fun b u e=>?_
  by_cases hb:b=a
  · subst hb;rw [bq] at e;cases e;exact new
  · rw [aB hb] at e;exact (I.hok b u e).stay (fun c v _ q=>k c v q) (fun c q=>by rw [aB (bg q hn)];exact q) fun c xs q=>by rw [aB (bg q hn)];exact q
theorem uo {X:Cx} {pins:List (Addr×Obj)} {σ:St} {H:Hp} {s:Shared} {a:Addr} (I:aS X pins σ H s) (hg:s.heap.get? a=none):H a=none:=by
  cases q:H a with
  | none=>rfl
  | some o=>obtain ⟨u,e⟩:=sE (I.hok a o q);rw [hg] at e;cases e
section
variable {X:Cx} {a b c:Expr} {fa fb fc:Fe} {pos p2:Pos} {nl:Nat} {G:List Str} {x:Str} {p:Pos}
noncomputable def dF:List PyData->Option (List Int)
  | []=>some []
  | .int i::ds=>(dF ds).map fun r=>i::r
  | _=>none
theorem ig:∀ {ds:List PyData} {ns:List Int},dF ds=some ns->ds=ns.map PyData.int
  | [],ns,h=>by cases h;rfl
  | d::ds,ns,h=>by
    cases d with
    | int i =>
      simp only [dF] at h;cases e:dF ds with
      | none=>rw [e] at h;cases h
      | some r =>
        rw [e] at h;cases h;rw [List.map_cons,ig e]
    | _=>cases h
theorem kj:∀ ns:List Int,dF (ns.map PyData.int)=some ns
  | []=>rfl
  | n::ns=>by simp only [List.map_cons,dF,kj ns,Option.map_some]
noncomputable def mw:PyData->R PyData
  | .list ds=>match dF ds with
    | some ns=>if ns.length < 64 then .ok (.list ((gR ns).map PyData.int)) else .no
    | none=>.no
  | .dict kvs=>match dF (kvs.map (·.1)) with
    | some ns=>if ns.length < 64 then .ok (.list ((gR ns).map PyData.int)) else .no
    | none=>.no
  | _=>.no
noncomputable def EJ (K:PySem.W.Frag):List V->Hp->VK->Prop:=fun xs H Q=>∃ p ns,xs=[.ref p]/\n6 K H p (ns.map V.int)/\ns.length < 64/\∀ l,H l=none->Q (.ref l) (de H l (.lst ((gR ns).map V.int)))
noncomputable def EI:List V->Hp->VK->Prop:=fun xs H Q=>∃ p ks ns,xs=[.ref p]/\Rd H p (.dK ks)/\ks.map (·.1)=ns.map Sum.inl/\ns.length < 64/\∀ l,H l=none->Q (.ref l) (de H l (.lst ((gR ns).map V.int)))
theorem rj (ns:List Int):(gR ns).length=ns.length:=(gj ns).length_eq
theorem vi:eD X (.builtin "sorted") (EJ X.K):=by
  intro pins s σ H xs us Q I r h;obtain ⟨p,ns,rfl,hq,h64,q⟩:=h;obtain ⟨u,rfl,rx⟩:=ir r;cases rx;obtain ⟨its,rv,pl,hz⟩:=I.list hq;have hI:IntsAre its ns:=lF rv;have hl:=IntsAre.length hI;refine sorted_ints pl.isList hI (by omega) fun out ns' a1 a2 a3=>?_
  rw [uJ a2 a3] at a1;obtain ⟨e,he⟩:=sortedAll_at s.heap its out;refine ⟨.ref (s.heap.objs.size+1),_,I.laid (t':=s.toks) (o:=.lst ((gR ns).map V.int)) (fun b o e=>sortedAll_old e) (Nat.le_succ _) ⟨?_,out.toList,e,kQ a1,by simpa [seqObj] using he⟩,rfl,q _ (I.hok.fresh (Nat.le_succ _))⟩;rw [List.length_map,rj,sizeLine_eq];omega
theorem vh (hc:X.calm=true):eD X (.builtin "sorted") EI:=by
  intro pins s σ H xs us Q I r h;obtain ⟨p,ks,ns,rfl,hq,hk,h64,q⟩:=h;obtain ⟨u,rfl,rx⟩:=ir r;cases rx;obtain ⟨hz,hlo,vs,kv,hd⟩:=oa I.hok hq;refine uK (I.ok.hd hc) hlo hd (by rw [<- kv.keys];exact hk) h64 fun D h' tk vs' e hg kp hD hI=>?_
  have hn:=uo I hg;refine ⟨.ref D,_,um (t':=tk) (o:=.lst ((gR ns).map V.int)) I kp hg hn ⟨?_,vs',e,kQ hI,by simpa [seqObj] using hD⟩,rfl,q _ hn⟩;rw [List.length_map,rj,sizeLine_eq];omega
theorem p8:∀ {H:Hp} {ns:List Int} {vs:List V},bD H (ns.map PyData.int) vs->vs=ns.map V.int
  | H,[],vs,r=>by rw [List.map_nil] at r;rw [r.nil_inv];rfl
  | H,n::ns,vs,r=>by
    rw [List.map_cons] at r;obtain ⟨v,r',rfl,p,t⟩:=r.cons_inv;have:v=.int n:=by simpa only [Rp] using p
    rw [this,p8 t];rfl
theorem uE:∀ {H:Hp} {kvs:List (PyData×PyData)} {ks:List (dD×V)},eP H kvs ks->kvs.map (·.1)=ks.map fun k=>gK k.1
  | H,[],ks,r=>by simp only [eP] at r;rw [r];rfl
  | H,(k,d)::kvs,ks,r=>by
    simp only [eP,Bh] at r;obtain ⟨x,v,r',rfl,⟨e,_⟩,t⟩:=r;rw [List.map_cons,List.map_cons,uE t,e]
theorem qY:∀ {ks:List (dD×V)} {ns:List Int},(ks.map fun k=>gK k.1)=ns.map PyData.int->ks.map (·.1)=ns.map Sum.inl
  | [],[],_=>rfl
  | [],_::_,h=>by cases h
  | _::_,[],h=>by cases h
  | (k,v)::ks,n::ns,h=>by
    rw [List.map_cons,List.map_cons] at h;injection h with h1 h2
    rw [List.map_cons,List.map_cons,qY h2];cases k with
    | inl i=>simp only [gK] at h1;cases h1;rfl
    | inr y=>simp only [gK] at h1;cases h1
theorem rV (T:Tb X nl G) (j:Nat) (hG:G[j]?=some ("sorted" : Str)) (hm:X.mg "sorted" = none) (ha:Z.eo X a fa) (he:bh a=true:=by rfl):Z.qk X (.Call (.Name "sorted" p) [a] [] pos) (e1 mw fa):=⟨have ha:=ha.un;by
  refine zo T j hG hm BI PyProof.Rows.boot_sorted (vi.or (vh T.calm)) (fun H x d Q hx q=>?_) ha he;cases d with
  | list ds =>
    simp only [mw] at q;cases ei:dF ds with
    | none=>rw [ei] at q;exact q.elim
    | some ns =>
      rw [ei] at q;dsimp only at q;by_cases h64:ns.length < 64
      · rw [if_pos h64] at q;obtain ⟨a',vs,rfl,h,r⟩:=fD (K:=X.K) hx;rw [ig ei] at r;rw [p8 r] at h;exact .inl ⟨a',ns,rfl,h,h64,fun l hl=>q _ _ (cT hl _) (e8 hl (bD.ints _))⟩
      · rw [if_neg h64] at q;exact q.elim
  | dict kvs =>
    simp only [mw] at q;cases ei:dF (kvs.map (·.1)) with
    | none=>rw [ei] at q;exact q.elim
    | some ns =>
      rw [ei] at q;dsimp only at q;by_cases h64:ns.length < 64
      · rw [if_pos h64] at q;have hi:gQ kvs=false:=by
          cases kvs with
          | nil=>rfl
          | cons kd kvs =>
            obtain ⟨k,d⟩:=kd;cases k <;> first | rfl | (simp [dF] at ei)
        obtain ⟨a',ks,rfl,h,r⟩:=me hi hx;have hk:=qY ((uE r).symm.trans (ig ei));exact .inr ⟨a',ks,ns,rfl,h,hk,h64,fun l hl=>q _ _ (cT hl _) (e8 hl (bD.ints _))⟩
      · rw [if_neg h64] at q;exact q.elim
  | _=>exact q.elim⟩
theorem xR (hc:X.calm=true):eD X (.builtin "all") (fun xs H Q=>∃ (p:Addr) (bs:List Bool),xs=[.ref p]/\n6 X.K H p (bs.map V.bl)/\Q (.bl (bs.all id)) H):=by
  intro pins s σ H xs us Q I r h;obtain ⟨p,bs,rfl,hq,q⟩:=h;obtain ⟨u,rfl,rx⟩:=ir r;cases rx;obtain ⟨its,rv,pl,hz⟩:=I.list hq;have hh:X.A.in1.handled=none:=I.ok.hd hc;have hlt:p≠s.heap.objs.size:=by obtain ⟨o,e,_⟩:=pl.isList;exact Nat.ne_of_lt (Heap.lt_size e)
  have hits:its=bs.map Value.bool:=by
    have key:∀ (bs:List Bool) (us:List Value),bE (bs.map V.bl) us->us=bs.map Value.bool:=by
      intro bs;induction bs with
      | nil=>intro us r;cases r;rfl
      | cons k bs ih=>intro us r;rw [List.map_cons] at r;cases r with | cons r1 r2=>rw [ih _ r2];cases r1;rfl
    exact key bs its rv
  refine call_all_walk (wpAny_pyIter_list pl.isList ?_);refine ⟨s.heap.objs.size,_,_,its.toArray.size,_,_,fun i=>(bs[i]?).getD true,rfl,Walks.list hh s.heap.objs.size p hlt its.toArray,⟨⟨_,Heap.get?_push_size _ rfl,rfl,rfl⟩,?_⟩,fun i v s' Q' E' hv hQ'=>?_,fun h' tk kp=>?_⟩
  · obtain ⟨o,e,r'⟩:=pl.isList;exact ⟨o,Heap.get?_push_of_some _ e,r'⟩
  · have hv':its[i]?=some v:=by simpa using hv
    rw [hits,List.getElem?_map] at hv';cases e:bs[i]? with
    | none=>rw [e] at hv';cases hv'
    | some k =>
      rw [e] at hv';cases hv';dsimp only at hQ';rw [e] at hQ';exact wpAny_truthy_bool hQ'
  · have e:((List.range its.toArray.size).all fun i=>(bs[i]?).getD true)=bs.all id:=by
      rw [List.size_toArray,hits,List.length_map];have key:∀ (l:List Bool),((List.range l.length).all fun i=>(l[i]?).getD true)=l.all id:=by
        intro l;induction l with
        | nil=>rfl
        | cons k l ih =>
          rw [List.length_cons,List.range_succ_eq_map,List.all_cons,List.all_map,List.all_cons,<- ih];rfl
      exact key bs
    rw [e];refine ⟨.bl (bs.all id),H,I.kept (t':=tk) fun b o g=>kp b o (fun z=>?_) (Heap.get?_push_of_some _ g),rfl,q⟩;rw [List.mem_singleton.mp z] at g;exact absurd (Heap.lt_size g) (Nat.lt_irrefl _)
theorem tQ:∀ {ds:List PyData} {k:Bool},tP ds=some k->∃ bs:List Bool,ds=bs.map PyData.bool/\k=bs.all id
  | [],k,h=>by cases h;exact ⟨[],rfl,rfl⟩
  | d::ds,k,h=>by
    cases d with
    | bool j =>
      simp only [tP] at h;cases e:tP ds with
      | none=>rw [e] at h;cases h
      | some r =>
        rw [e] at h;cases h;obtain ⟨bs,e1,e2⟩:=tQ e;exact ⟨j::bs,by rw [e1];rfl,by rw [e2];rfl⟩
    | _=>cases h
theorem nV:∀ {H:Hp} {ns:List Bool} {vs:List V},bD H (ns.map PyData.bool) vs->vs=ns.map V.bl
  | H,[],vs,r=>by rw [List.map_nil] at r;rw [r.nil_inv];rfl
  | H,n::ns,vs,r=>by
    rw [List.map_cons] at r;obtain ⟨v,r',rfl,p,t⟩:=r.cons_inv;have:v=.bl n:=by simpa only [Rp] using p
    rw [this,nV t];rfl
theorem zh (T:Tb X nl G) (j:Nat) (hG:G[j]?=some ("all" : Str)) (hm:X.mg "all" = none) (ha:Z.eo X a fa) (he:bh a=true:=by rfl):Z.cU X (.Call (.Name "all" p) [a] [] pos) (e1 BE fa):=⟨have ha:=ha.un;by
  refine zo T j hG hm fZ PyProof.Rows.boot_all (xR T.calm) (fun H x d Q hx q=>?_) ha he;cases d with
  | list ds =>
    simp only [BE] at q;cases ei:tP ds with
    | none=>rw [ei] at q;exact q.elim
    | some k =>
      rw [ei] at q;obtain ⟨bs,e1,e2⟩:=tQ ei;obtain ⟨a',vs,rfl,h,r⟩:=fD (K:=X.K) hx;rw [e1] at r;rw [nV r] at h;refine ⟨a',bs,rfl,h,?_⟩;rw [<- e2];exact q _ H (aM.refl _) ft
  | _=>exact q.elim⟩
end
section
variable {X:Cx} {a b c:Expr} {fa fb fc:Fe} {pos p2:Pos} {nl:Nat} {G:List Str} {x:Str} {p:Pos}
theorem iZ.change {Fm H:Hp} {σ:St} {ρ:aW} {i:Nat} {d d':PyData} {a:Addr} {u u':HO} (h:iZ Fm H σ ρ) (h1:ρ[i]?=some (.own d)) (h2:σ[i]?=some (some (.ref a))) (hu:H a=some u) (hm:(∃ xs,u=.lst xs)\/∃ ks,u=.dK ks)
    (hr:jl (de H a u') d' (.ref a)):iZ Fm (de H a u') σ (ρ.set i (.own d')):=by
  have hFa:=h.own i d a h1 h2;have kp:Kp H (de H a u'):=gL hu hm;have at_i:∀ (j:Nat) (e:PyData),(ρ.set i (.own d'))[j]?=some (.own e)->∃ e0,ρ[j]?=some (.own e0):=fun j e q=>by
    rw [List.getElem?_set] at q;by_cases hij:i=j
    · subst hij;exact ⟨d,h1⟩
    · rw [if_neg hij] at q;exact ⟨e,q⟩
  refine ⟨fun b x e=>?_,⟨by rw [List.length_set];exact h.sl.1,fun j c w' e1 e2=>?_⟩,fun j e b e1 e2=>?_,fun j k e f b e1 e2 e3 e4=>?_⟩
  · rw [aB (bg e hFa)];exact h.fm b x e
  · rw [List.getElem?_set] at e1;by_cases hij:i=j
    · subst hij;rw [if_pos rfl] at e1;split at e1
      · cases e1;rw [h2] at e2;cases e2;exact ⟨_,rfl,hr⟩
      · cases e1
    · rw [if_neg hij] at e1;have q:=h.sl.2 j c w' e1 e2;cases c with
      | exc p=>exact q
      | non=>exact True.intro
      | val d1=>obtain ⟨v,z1,z2⟩:=q;exact ⟨v,z1,Rp.kp kp _ _ z2⟩
      | own d1 =>
        obtain ⟨v,z1,z2⟩:=q;subst z1;obtain ⟨b,ob,rfl,hb⟩:=sF z2;have nb:b≠a:=fun z=>hij (by subst z;exact h.apart i j d d1 b h1 e1 h2 e2)
        refine ⟨_,rfl,?_⟩;cases d1 <;> simp only [jl] at z2 ⊢
        · obtain ⟨b',vs,e,hb',r⟩:=z2;cases e;exact ⟨b,vs,rfl,by rw [aB nb];exact hb',bD.kp kp _ _ r⟩
        · obtain ⟨b',vs,e,hb',r⟩:=z2;cases e;exact ⟨b,vs,rfl,by rw [aB nb];exact hb',eP.kp kp _ _ r⟩
  · obtain ⟨e0,q⟩:=at_i j e e1;exact h.own j e0 b q e2
  · obtain ⟨e0,q⟩:=at_i j e e1;obtain ⟨f0,q'⟩:=at_i k f e2;exact h.apart j k e0 f0 b q q' e3 e4
noncomputable def qD (i:Nat) (fk fv:Fe):Fs:=fun ρ=>fv ρ>>=fun v=>lf (fk ρ)>>=fun k=>match ρ[i]? with
  | some (.own (.dict kvs))=>match gF k with
    | some _=>if kvs.length < sizeLine then .ok (.nx (ρ.set i (.own (.dict (sI kvs k v))))) else .no
    | none=>.no
  | _=>.no
theorem yn {k:PyData} {κ:dD} (h:gF k=some κ):k=gK κ:=by
  cases k <;> simp only [gF] at h <;> cases h <;> rfl
theorem EK {H:Hp} {κ:dD} {y:V} (h:Rp H (gK κ) y):y=kV κ:=by
  cases κ <;> simp only [gK,Rp] at h <;> exact h
theorem pb {k v:Expr} {fk fv:Fe} {q1 q2 q3:Pos} (T:Tb X nl G) (n:Nat) (hN:X.N[n]?=some x) (hk:Z.cU X k fk) (hv:Z.cU X v fv) (hs:swapsWith v (some (.Subscript (.Name x q1) k q2)) q3.line X.env=pure false:=by rfl):Z.kW X (.Assign [.Subscript (.Name x q1) k q2] v q3) (qD n fk fv):=⟨have hk:=hk.un;have hv:=hv.un;fun Fm=>by
  have hm:=T.vis x (List.mem_of_getElem? hN);refine PS.imp (Cv (by have:=T.hu;omega) (iU hN hm.1 hm.2.1 hm.2.2) hk hv hs) fun D σ H h=>?_
  refine (nE (P:=ia) (f:=fv) (k:=fun ρ v=>lf (fk ρ)>>=fun k=>match ρ[n]? with
    | some (.own (.dict kvs))=>match gF k with
      | some _=>if kvs.length < sizeLine then .ok (.nx (ρ.set n (.own (.dict (sI kvs k v))))) else .no
      | none=>.no
    | _=>.no) h).post fun vv H1 ⟨ρ1,dv,sl1,_,p1,q1⟩=>?_
  have sl0:Dw X Fm (fun ρ=>lf (fk ρ)>>=fun k=>match ρ[n]? with
    | some (.own (.dict kvs))=>match gF k with
      | some _=>if kvs.length < sizeLine then .ok (.nx (ρ.set n (.own (.dict (sI kvs k dv))))) else .no
      | none=>.no
    | _=>.no) D σ H1:=⟨ρ1,sl1,q1⟩
  cases e:ρ1[n]? with
  | none =>
    exfalso;rw [e] at q1;cases e2:fk ρ1 with
    | ok _=>rw [e2] at q1;exact q1
    | ex _=>rw [e2] at q1;exact q1
    | no=>rw [e2] at q1;exact q1
  | some c =>
    rw [e] at q1;cases c with
    | own d =>
      cases d with
      | dict kvs =>
        obtain ⟨o,h2,w',rfl,p2⟩:=sl1.sl.at e;simp only [jl] at p2;obtain ⟨a',ks,rfl,ha,r⟩:=p2;refine ⟨.ref a',h2,?_⟩;refine ⟨ρ1,sl1.sl,?_⟩;cases e2:fk ρ1 with
        | ex _=>rw [e2] at q1;exact q1.elim
        | no=>rw [e2] at q1;exact q1
        | ok kd =>
          rw [e2] at q1;simp only [lf,R.ok_bind] at q1;intro yv H3 s3 p3;cases e3:gF kd with
          | none=>rw [e3] at q1;exact q1.elim
          | some κ =>
            rw [e3] at q1;dsimp only at q1;by_cases hz:kvs.length < sizeLine
            · rw [if_pos hz] at q1;have ek:=yn e3;subst ek;have ey:=EK p3;subst ey;have ha3:=s3 _ _ ha;have r3:eP H3 kvs ks:=eP.kp (Kp.of s3) _ _ r;refine ⟨a',_,rfl,uR.k ha3 (by rw [r3.length];exact hz),q1 _ _ ((sl1.mono s3).change e h2 ha3 (.inr ⟨_,rfl⟩) ?_)⟩;simp only [jl];exact ⟨a',_,rfl,bq,eP.kp (gL ha3 (.inr ⟨_,rfl⟩)) _ _ (eP.put κ (p1.mono s3) r3)⟩
            · rw [if_neg hz] at q1;exact q1.elim
      | _ =>
        exfalso;cases e2:fk ρ1 with
        | ok _=>rw [e2] at q1;exact q1
        | ex _=>rw [e2] at q1;exact q1
        | no=>rw [e2] at q1;exact q1
    | _ =>
      exfalso;cases e2:fk ρ1 with
      | ok _=>rw [e2] at q1;exact q1
      | ex _=>rw [e2] at q1;exact q1
      | no=>rw [e2] at q1;exact q1⟩
noncomputable def eB (i:Nat) (f:Fe):Fs:=fun ρ=>lf (f ρ)>>=fun d=>match ρ[i]? with
  | some (.own (.list ds))=>if ds.length < sizeLine then .ok (.nx (ρ.set i (.own (.list (ds++[d]))))) else .no
  | _=>.no
end
section
variable {prog:Program} {w:World} {A:Around} {E:Value->Shared->Prop} {s:Shared}
theorem vK {it t:Addr} {i:Nat} {items:Array Value} {x:Value} {Q:Value->Shared->Prop} (hit:s.heap.IsTupleIter it t i) (ht:s.heap.IsTuple t items) (hx:items[i]?=some x)
    (hQ:∀ h',h'.IsTupleIter it t (i+1)->Heap.SameBut it s.heap h'->Q x { s with heap:=h' }):wpAny (model prog w) A (Builtin.SmallTypes.nextOf (.ref it)) Q E s:=by
  obtain ⟨ob,hob,hcl,hdt⟩:=id hit;obtain ⟨ot,hot,_,nt,hdtt⟩:=ht;unfold Builtin.SmallTypes.nextOf;refine wpAny_bind (wpAny_callSpecial?_slot (name:=Str.ofString "__next__") hit.typeIs F.slot_tuple_iterator_next (wpAny_call_entry F.slot_tuple_iterator_next hit.typeIs F.entry_tuple_iterator_next ?_ (F.args_tuple_iterator_next_1 _)));show wpAny _ _ (field (Value.ref it) 0>>=_) _ _ s;refine wpAny_bind (wpAny_field hob hdt (x:=Value.ref t) rfl ?_);show wpAny _ _ (if (Value.ref t==Value.none)=true then _ else _) _ _ s;rw [if_neg (by intro z;cases z)];show wpAny _ _ (field (Value.ref it) 1>>=_) _ _ s;refine wpAny_bind (wpAny_field hob hdt (x:=Value.int i 0) rfl ?_);show wpAny _ _ (seqItems? (Value.ref t)>>=_) _ _ s;refine wpAny_bind (wpAny_seqItems hot hdtt ?_);simp only [hx,Int.toNat_natCast];refine wpAny_bind (wpAny_setField hob hdt (by simp) (wpAny_pure ⟨x,rfl,wpAny_pure (hQ _ ⟨_,Heap.get?_update_self _ hob (Obj.isFreed_of_fields (Obj.data_mapFields hdt _)),(Obj.cls_mapFields ..).trans hcl,?_⟩ (Heap.SameBut.update ..))⟩));rw [Obj.data_mapFields hdt];simp [rawInt]
theorem pW {it t:Addr} {i:Nat} {items:Array Value} {Q:Value->Shared->Prop} (hh:A.handled=none) (hit:s.heap.IsTupleIter it t i) (ht:s.heap.IsTuple t items) (hx:items[i]?=none)
    (hE:∀ h' e,Heap.ExtBut it s.heap h'->(∃ o,h'.get? e=some o/\o.cls=.type "StopIteration")->E (.ref e) { s with heap:=h' }):wpAny (model prog w) A (Builtin.SmallTypes.nextOf (.ref it)) Q E s:=by
  obtain ⟨ob,hob,hcl,hdt⟩:=id hit;obtain ⟨ot,hot,_,nt,hdtt⟩:=ht;unfold Builtin.SmallTypes.nextOf;refine wpAny_bind (wpAny_callSpecial?_slot (name:=Str.ofString "__next__") hit.typeIs F.slot_tuple_iterator_next (wpAny_call_entry F.slot_tuple_iterator_next hit.typeIs F.entry_tuple_iterator_next ?_ (F.args_tuple_iterator_next_1 _)));show wpAny _ _ (field (Value.ref it) 0>>=_) _ _ s;refine wpAny_bind (wpAny_field hob hdt (x:=Value.ref t) rfl ?_);show wpAny _ _ (if (Value.ref t==Value.none)=true then _ else _) _ _ s;rw [if_neg (by intro z;cases z)];show wpAny _ _ (field (Value.ref it) 1>>=_) _ _ s;refine wpAny_bind (wpAny_field hob hdt (x:=Value.int i 0) rfl ?_);show wpAny _ _ (seqItems? (Value.ref t)>>=_) _ _ s;refine wpAny_bind (wpAny_seqItems hot hdtt ?_);simp only [hx,Int.toNat_natCast];refine wpAny_bind (wpAny_rule (wpAny_bind (wpAny_setField hob hdt (by simp) ?_)));show wpAny _ _ (newExc (Value.type "StopIteration") []>>=_) _ _ _;refine wpAny_bind ?_;simp only [newTuple,newExc];refine wpAny_bind (wpAny_newObj_type ?_ (by size_fits));refine wpAny_bind (m:=firstArgMember _ _) (wpAny_of_eq (a:=Value.none) (by first | rfl | (simp only [firstArgMember];rfl)) ?_);refine wpAny_newObj_type ?_ (by size_fits);simp only [raiseNew];refine wpAny_bind (wpAny_handled ?_)
  first | rw [show A.in1.handled=none from hh] | rw [hh]
  exact wpAny_bind (wpAny_pure (wpAny_throw (hE _ _ (((Heap.SameBut.update ..).extBut.push _).push _) ⟨_,Heap.get?_push_size _ rfl,rfl⟩)))
end
noncomputable def nc (h:Heap) (i l:Addr) (k:Nat) (xs:Array Value):Prop:=(h.IsListIter i l k/\h.IsList l xs)\/(h.IsTupleIter i l k/\h.IsTuple l xs)
section
variable {h h':Heap} {i l:Addr} {k:Nat} {xs:Array Value}
theorem nc.keep (x:nc h i l k xs) (hi:∀ o,h.get? i=some o->h'.get? i=some o) (hl:∀ o,h.get? l=some o->h'.get? l=some o):nc h' i l k xs:=by
  rcases x with ⟨⟨o,e,r⟩,⟨o',e',r'⟩⟩ | ⟨⟨o,e,r⟩,⟨o',e',r'⟩⟩
  · exact .inl ⟨⟨o,hi _ e,r⟩,⟨o',hl _ e',r'⟩⟩
  · exact .inr ⟨⟨o,hi _ e,r⟩,⟨o',hl _ e',r'⟩⟩
end
section
variable {prog:Program} {w:World} {A:Around} {E:Value->Shared->Prop} {s:Shared} {i l:Addr} {k:Nat} {xs:Array Value}
theorem xa {x:Value} {Q:Value->Shared->Prop} (it:nc s.heap i l k xs) (hne:l≠i) (hx:xs[k]?=some x) (hQ:∀ h',nc h' i l (k+1) xs->Heap.SameBut i s.heap h'->Q x { s with heap:=h' }) :
    wpAny (model prog w) A (Builtin.SmallTypes.nextOf (.ref i)) Q E s:=by
  rcases it with ⟨h1,h2⟩ | ⟨h1,h2⟩
  · exact wpAny_nextOf_list_item h1 h2 hx fun h' a b=>hQ h' (.inl ⟨a,h2.extBut b.extBut hne⟩) b
  · exact vK h1 h2 hx fun h' a b=>hQ h' (.inr ⟨a,h2.extBut b.extBut hne⟩) b
theorem nQ {Q:Value->Shared->Prop} (hh:A.handled=none) (it:nc s.heap i l k xs) (hx:xs[k]?=none)
    (hE:∀ h' e,Heap.ExtBut i s.heap h'->(∃ o,h'.get? e=some o/\o.cls=.type "StopIteration")->E (.ref e) { s with heap:=h' }):wpAny (model prog w) A (Builtin.SmallTypes.nextOf (.ref i)) Q E s:=by
  rcases it with ⟨h1,h2⟩ | ⟨h1,h2⟩
  · exact wpAny_nextOf_list_end hh h1 h2 hx hE
  · exact pW hh h1 h2 hx hE
noncomputable def vc (h:Heap) (l:Addr) (xs:Array Value):Prop:=h.IsList l xs\/h.IsTuple l xs
end
structure ZA (z p q i j l m:Addr):Prop where
  pz:p≠z
  qz:q≠z
  iz:i≠z
  jz:j≠z
  pq:p≠q
  pi:p≠i
  pj:p≠j
  qi:q≠i
  qj:q≠j
  ij:i≠j
  lz:l≠z
  lq:l≠q
  li:l≠i
  lj:l≠j
  mz:m≠z
  mq:m≠q
  mi:m≠i
  mj:m≠j
structure Bi (h:Heap) (z p q i j l m:Addr) (f0:Value) (k:Nat) (xs ys:Array Value):Prop where
  zz:IsZip h z p q f0
  pp:IsPair h p (.ref i) (.ref j)
  qq:∃ a b,IsPair h q a b
  ii:nc h i l k xs
  jj:nc h j m k ys
section
variable {prog:Program} {w:World} {A:Around} {E:Value->Shared->Prop} {s:Shared} {z p q i j l m:Addr} {k:Nat} {xs ys:Array Value}
theorem Bg {x y:Value} {Q:Value->Shared->Prop} (D:ZA z p q i j l m) (S:Bi s.heap z p q i j l m .none k xs ys) (hx:xs[k]?=some x) (hy:ys[k]?=some y)
    (hQ:∀ h',Bi h' z p q i j l m (rawInt s.heap.objs.size) (k+1) xs ys->IsPair h' s.heap.objs.size x y->(∀ c o,c≠z->c≠q->c≠i->c≠j->s.heap.get? c=some o->h'.get? c=some o)->Q (.ref s.heap.objs.size) { s with heap:=h' }) :
    wpAny (model prog w) A (Builtin.«zip.__next__» ⟨[.ref z],[]⟩) (fun fin s'=>∃ v,fin=.done (.ret v)/\Q v s') E s:=by
  obtain ⟨hz,hp,⟨a,b,hq⟩,hi,hj⟩:=S;show wpAny _ _ (field (Value.ref z) 2>>=_) _ _ _;refine wpAny_bind (wpAny_field hz rfl (x:=Value.bool false) rfl ?_);show wpAny _ _ (field (Value.ref z) 3>>=_) _ _ _;refine wpAny_bind (wpAny_field hz rfl (x:=Value.ref p) rfl ?_);refine wpAny_bind (wpAny_seqItems hp rfl ?_);show wpAny _ _ (Builtin.SmallTypes.ownedTupleIsFree (Value.ref z)>>=_) _ _ _;refine wpAny_bind ?_;unfold Builtin.SmallTypes.ownedTupleIsFree;refine wpAny_bind (wpAny_field hz rfl (x:=Value.none) rfl (wpAny_pure ?_));simp only [if_true];refine wpAny_bind (wpAny_rule ?_);refine wpAny_bind (wpAny_field hz rfl (x:=Value.ref q) rfl ?_);refine wpAny_bind (wpAny_setField_rec hz (by simp) fun g1 z1 s1=>?_);replace z1:IsZip g1 z p q .ellipsis:=z1;refine wpAny_bind ?_;simp only [List.zipIdx_cons,List.zipIdx_nil,List.forIn_cons,List.forIn_nil];refine wpAny_bind (wpAny_bind (wpAny_onRaise ?_));show wpAny _ _ (Builtin.SmallTypes.nextOf (Value.ref i)>>=_) _ _ _;have hi1:nc g1 i l k xs:=hi.keep (fun o e=>s1.extBut _ _ D.iz e) fun o e=>s1.extBut _ _ D.lz e
  refine wpAny_bind (xa hi1 D.li hx fun g2 i2 s2=>wpAny_pure ?_);have q2:IsPair g2 q a b:=s2.extBut _ _ D.qi (s1.extBut _ _ D.qz hq);refine wpAny_bind (wpAny_seqItems q2 rfl ?_);refine wpAny_bind (wpAny_updateSeq_pair q2 fun g3 q3 s3=>?_);replace q3:IsPair g3 q x b:=q3;refine wpAny_bind (wpAny_letGo (wpAny_pure ?_));refine wpAny_bind (wpAny_bind (wpAny_onRaise ?_));show wpAny _ _ (Builtin.SmallTypes.nextOf (Value.ref j)>>=_) _ _ _;have hj3:nc g3 j m k ys:=hj.keep (fun o e=>s3.extBut _ _ D.qj.symm (s2.extBut _ _ D.ij.symm (s1.extBut _ _ D.jz e))) fun o e=>s3.extBut _ _ D.mq (s2.extBut _ _ D.mi (s1.extBut _ _ D.mz e))
  refine wpAny_bind (xa hj3 D.mj hy fun g4 j4 s4=>wpAny_pure ?_);have q4:IsPair g4 q x b:=s4.extBut _ _ D.qj q3;refine wpAny_bind (wpAny_seqItems q4 rfl ?_);refine wpAny_bind (wpAny_updateSeq_pair q4 fun g5 q5 s5=>?_);replace q5:IsPair g5 q x y:=q5;refine wpAny_bind (wpAny_letGo (wpAny_pure (wpAny_pure ?_)));refine wpAny_bind (wpAny_seqItems q5 rfl ?_);refine wpAny_bind (wpAny_newTuple ?_);have hsz:g5.objs.size=s.heap.objs.size:=by rw [s5.1,s4.1,s3.1,s2.1,s1.1]
  have z5:IsZip g5 z p q .ellipsis:=s5.extBut _ _ D.qz.symm (s4.extBut _ _ D.jz.symm (s3.extBut _ _ D.qz.symm (s2.extBut _ _ D.iz.symm z1)));have k5:∀ c o,c≠z->c≠q->c≠i->c≠j->s.heap.get? c=some o->g5.get? c=some o:=fun c o c1 c2 c3 c4 e=>s5.extBut _ _ c2 (s4.extBut _ _ c4 (s3.extBut _ _ c2 (s2.extBut _ _ c3 (s1.extBut _ _ c1 e))))
  have i5:nc g5 i l (k+1) xs:=i2.keep (fun o e=>s5.extBut _ _ D.qi.symm (s4.extBut _ _ D.ij (s3.extBut _ _ D.qi.symm e))) fun o e=>s5.extBut _ _ D.lq (s4.extBut _ _ D.lj (s3.extBut _ _ D.lq e))
  have j5:nc g5 j m (k+1) ys:=j4.keep (fun o e=>s5.extBut _ _ D.qj.symm e) fun o e=>s5.extBut _ _ D.mq e
  have zlt:z < g5.objs.size:=Heap.lt_size z5;show wpAny _ _ (Builtin.SmallTypes.ownedTupleHandOut (Value.ref z) (Value.ref g5.objs.size)>>=_) _ _ _;refine wpAny_bind ?_;unfold Builtin.SmallTypes.ownedTupleHandOut;have z6:IsZip (g5.push { cls:=.type "tuple",data:=.seq #[x,y] }) z p q .ellipsis:=Heap.get?_push_of_some _ z5;refine wpAny_bind (wpAny_setField_rec z6 (by simp) fun g7 z7 s7=>?_);replace z7:IsZip g7 z p q (rawInt g5.objs.size):=z7;refine wpAny_setField_rec z7 (by simp) fun g8 z8 s8=>?_
  replace z8:IsZip g8 z p q (rawInt g5.objs.size):=z8;have up:∀ c o,c≠z->g5.get? c=some o->g8.get? c=some o:=fun c o c1 e=>s8.extBut _ _ c1 (s7.extBut _ _ c1 (Heap.get?_push_of_some _ e))
  have t8:IsPair g8 g5.objs.size x y:=s8.extBut _ _ (Nat.ne_of_gt zlt) (s7.extBut _ _ (Nat.ne_of_gt zlt) (Heap.get?_push_size _ rfl));rw [hsz] at z8 t8;refine wpAny_pure ⟨_,rfl,?_⟩;show Q (.ref g5.objs.size) _;rw [hsz];exact hQ g8 ⟨z8,up _ _ D.pz (k5 _ _ D.pz D.pq D.pi D.pj hp),⟨x,y,up _ _ D.qz q5⟩,i5.keep (fun o e=>up _ _ D.iz e) fun o e=>up _ _ D.lz e,j5.keep (fun o e=>up _ _ D.jz e) fun o e=>up _ _ D.mz e⟩ t8 fun c o c1 c2 c3 c4 e=>up c o c1 (k5 c o c1 c2 c3 c4 e)
theorem Da {Q:PySem.Fin->Shared->Prop} (hh:A.handled=none) (D:ZA z p q i j l m) (S:Bi s.heap z p q i j l m .none k xs ys) (hend:xs[k]?=none\/ys[k]?=none)
    (hE:∀ h' e,(∀ c o,c≠z->c≠q->c≠i->c≠j->s.heap.get? c=some o->h'.get? c=some o)->(∃ o,h'.get? e=some o/\o.cls=.type "StopIteration")->E (.ref e) { s with heap:=h' }) :
    wpAny (model prog w) A (Builtin.«zip.__next__» ⟨[.ref z],[]⟩) Q E s:=by
  obtain ⟨hz,hp,⟨a,b,hq⟩,hi,hj⟩:=S;show wpAny _ _ (field (Value.ref z) 2>>=_) _ _ _;refine wpAny_bind (wpAny_field hz rfl (x:=Value.bool false) rfl ?_);show wpAny _ _ (field (Value.ref z) 3>>=_) _ _ _;refine wpAny_bind (wpAny_field hz rfl (x:=Value.ref p) rfl ?_);refine wpAny_bind (wpAny_seqItems hp rfl ?_);show wpAny _ _ (Builtin.SmallTypes.ownedTupleIsFree (Value.ref z)>>=_) _ _ _;refine wpAny_bind ?_;unfold Builtin.SmallTypes.ownedTupleIsFree;refine wpAny_bind (wpAny_field hz rfl (x:=Value.none) rfl (wpAny_pure ?_));simp only [if_true];refine wpAny_bind (wpAny_rule ?_);refine wpAny_bind (wpAny_field hz rfl (x:=Value.ref q) rfl ?_);refine wpAny_bind (wpAny_setField_rec hz (by simp) fun g1 z1 s1=>?_);replace z1:IsZip g1 z p q .ellipsis:=z1;refine wpAny_bind ?_;simp only [List.zipIdx_cons,List.zipIdx_nil,List.forIn_cons,List.forIn_nil];refine wpAny_bind (wpAny_bind (wpAny_onRaise ?_));show wpAny _ _ (Builtin.SmallTypes.nextOf (Value.ref i)>>=_) _ _ _;have hi1:nc g1 i l k xs:=hi.keep (fun o e=>s1.extBut _ _ D.iz e) fun o e=>s1.extBut _ _ D.lz e
  cases hx:xs[k]? with
  | none =>
    refine wpAny_bind (nQ hh hi1 hx fun g2 e s2 he=>?_);obtain ⟨oe,hoe,hce⟩:=he;have z2:IsZip g2 z p q .ellipsis:=s2 _ _ D.iz.symm z1;have hez:e≠z:=fun t=>by subst t;rw [z2] at hoe;cases hoe;simp at hce
    exact wpAny_setField_rec z2 (by simp) fun g3 _ s3=>hE g3 e (fun c o c1 _ c3 _ t=>s3.extBut _ _ c1 (s2 _ _ c3 (s1.extBut _ _ c1 t))) ⟨oe,s3.extBut _ _ hez hoe,hce⟩
  | some x =>
    have hy:ys[k]?=none:=by rcases hend with t | t;rw [hx] at t;cases t;exact t
    refine wpAny_bind (xa hi1 D.li hx fun g2 i2 s2=>wpAny_pure ?_);have q2:IsPair g2 q a b:=s2.extBut _ _ D.qi (s1.extBut _ _ D.qz hq);refine wpAny_bind (wpAny_seqItems q2 rfl ?_);refine wpAny_bind (wpAny_updateSeq_pair q2 fun g3 q3 s3=>?_);refine wpAny_bind (wpAny_letGo (wpAny_pure ?_));refine wpAny_bind (wpAny_bind (wpAny_onRaise ?_));show wpAny _ _ (Builtin.SmallTypes.nextOf (Value.ref j)>>=_) _ _ _;have hj3:nc g3 j m k ys:=hj.keep (fun o e=>s3.extBut _ _ D.qj.symm (s2.extBut _ _ D.ij.symm (s1.extBut _ _ D.jz e))) fun o e=>s3.extBut _ _ D.mq (s2.extBut _ _ D.mi (s1.extBut _ _ D.mz e))
    refine wpAny_bind (nQ hh hj3 hy fun g4 e s4 he=>?_);obtain ⟨oe,hoe,hce⟩:=he;have z4:IsZip g4 z p q .ellipsis:=s4 _ _ D.jz.symm (s3.extBut _ _ D.qz.symm (s2.extBut _ _ D.iz.symm z1));have hez:e≠z:=fun t=>by subst t;rw [z4] at hoe;cases hoe;simp at hce
    exact wpAny_setField_rec z4 (by simp) fun g5 _ s5=>hE g5 e (fun c o c1 c2 c3 c4 t=>s5.extBut _ _ c1 (s4 _ _ c4 (s3.extBut _ _ c2 (s2.extBut _ _ c3 (s1.extBut _ _ c1 t))))) ⟨oe,s5.extBut _ _ hez hoe,hce⟩
theorem wl {x y:Value} {Q:Option Value->Shared->Prop} (D:ZA z p q i j l m) (S:Bi s.heap z p q i j l m .none k xs ys) (hx:xs[k]?=some x) (hy:ys[k]?=some y)
    (hQ:∀ h',Bi h' z p q i j l m (rawInt s.heap.objs.size) (k+1) xs ys->IsPair h' s.heap.objs.size x y->(∀ c o,c≠z->c≠q->c≠i->c≠j->s.heap.get? c=some o->h'.get? c=some o)->Q (some (.ref s.heap.objs.size)) { s with heap:=h' }) :
    wpAny (model prog w) A (pyNext (.ref z)) Q E s:=by
  have hT:s.TypeIs (.ref z) "zip" := ⟨_,S.zz,rfl⟩
  unfold pyNext;exact wpAny_bind (wpAny_attempt (wpAny_callSpecial?_slot (name:=Str.ofString "__next__") hT F.slot_zip_next (wpAny_call_entry F.slot_zip_next hT F.entry_zip_next (Bg D S hx hy fun h' a b c=>wpAny_pure (hQ h' a b c)) (F.args_zip_next_1 _))))
theorem yS {Q:Option Value->Shared->Prop} (hh:A.handled=none) (D:ZA z p q i j l m) (S:Bi s.heap z p q i j l m .none k xs ys) (hend:xs[k]?=none\/ys[k]?=none)
    (hQ:∀ h',(∀ c o,c≠z->c≠q->c≠i->c≠j->s.heap.get? c=some o->h'.get? c=some o)->Q none { s with heap:=h' }):wpAny (model prog w) A (pyNext (.ref z)) Q E s:=by
  have hT:s.TypeIs (.ref z) "zip" := ⟨_,S.zz,rfl⟩
  unfold pyNext;refine wpAny_bind (wpAny_attempt (wpAny_callSpecial?_slot (name:=Str.ofString "__next__") hT F.slot_zip_next (wpAny_call_entry F.slot_zip_next hT F.entry_zip_next (Da hh D S hend fun h' e hk he=>?_) (F.args_zip_next_1 _))));obtain ⟨o,ho,hc⟩:=he;exact wpAny_bind (wpAny_isInstance (T := "StopIteration") (b:=true) ⟨o,ho,hc⟩ isSubtype_stop (wpAny_pure (hQ _ hk)))
theorem Db (l m:Addr) (xs ys:Array Value):Meets (Builtin.«zip.__new__» ⟨[.type "zip",.ref l,.ref m],[]⟩) (fun _ R s=>vc s.heap l xs/\vc s.heap m ys /\
    ∀ h',h'.objs.size=s.heap.objs.size+5->Bi h' (s.heap.objs.size+4) (s.heap.objs.size+2) (s.heap.objs.size+3) s.heap.objs.size (s.heap.objs.size+1) l m .none 0 xs ys->(∀ c o,s.heap.get? c=some o->h'.get? c=some o) ->
      R (.ok (.ret (.ref (s.heap.objs.size+4)))) { s with heap:=h' }) :=
  .of_wp fun prog w A R s h=>by
    obtain ⟨hp,g,d,tk,os⟩:=s;obtain ⟨h1,h2,h⟩:=h;have hsub:=sub_zip;have fin:∀ (oi oj:Obj),nc (hp.push oi) hp.objs.size l 0 xs->nc ((hp.push oi).push oj) (hp.push oi).objs.size m 0 ys ->
        R (.ok (.ret (.ref ((((hp.push oi).push oj).push { cls:=.type "tuple",data:=.seq #[.ref hp.objs.size,.ref (hp.push oi).objs.size] }).push { cls:=.type "tuple",data:=.seq #[.none,.none] }).objs.size)))
          ⟨((((hp.push oi).push oj).push { cls:=.type "tuple",data:=.seq #[.ref hp.objs.size,.ref (hp.push oi).objs.size] }).push { cls:=.type "tuple",data:=.seq #[.none,.none] }).push { cls:=.type "zip",data:=.fields #[.none,.bool false,.bool false,.ref ((hp.push oi).push oj).objs.size,.ref (((hp.push oi).push oj).push { cls:=.type "tuple",data:=.seq #[.ref hp.objs.size,.ref (hp.push oi).objs.size] }).objs.size] },g,d,tk,os⟩:=fun oi oj hi hj=>by
      have e1:(hp.push oi).objs.size=hp.objs.size+1:=Heap.size_push ..;have e2:((hp.push oi).push oj).objs.size=hp.objs.size+2:=by rw [Heap.size_push,e1]
      have e3:(((hp.push oi).push oj).push { cls:=.type "tuple",data:=.seq #[.ref hp.objs.size,.ref (hp.push oi).objs.size] }).objs.size=hp.objs.size+3:=by rw [Heap.size_push,e2]
      have e4:((((hp.push oi).push oj).push { cls:=.type "tuple",data:=.seq #[.ref hp.objs.size,.ref (hp.push oi).objs.size] }).push { cls:=.type "tuple",data:=.seq #[.none,.none] }).objs.size=hp.objs.size+4:=by rw [Heap.size_push,e3]
      rw [e4,e3,e2];rw [e1] at hj ⊢;have kk:∀ (c:Addr) (o a b c':Obj),((hp.push oi).push oj).get? c=some o->(((((hp.push oi).push oj).push a).push b).push c').get? c=some o:=fun c o a b c' e=>Heap.get?_push_of_some _ (Heap.get?_push_of_some _ (Heap.get?_push_of_some _ e))
      refine h _ (by rw [Heap.size_push,Heap.size_push,Heap.size_push,e2]) ⟨?_,?_,⟨.none,.none,?_⟩,?_,?_⟩ fun c o e=>kk _ _ _ _ _ (Heap.get?_push_of_some _ (Heap.get?_push_of_some _ e))
      · have:hp.objs.size+4=((((hp.push oi).push oj).push { cls:=.type "tuple",data:=.seq #[.ref hp.objs.size,.ref (hp.objs.size+1)] }).push { cls:=.type "tuple",data:=.seq #[.none,.none] }).objs.size:=by rw [Heap.size_push,Heap.size_push,e2]
        show Heap.get? _ (hp.objs.size+4)=_;rw [this];exact Heap.get?_push_size _ rfl
      · refine Heap.get?_push_of_some _ (Heap.get?_push_of_some _ ?_);show Heap.get? _ (hp.objs.size+2)=_;rw [<- e2];exact Heap.get?_push_size _ rfl
      · refine Heap.get?_push_of_some _ ?_;have:hp.objs.size+3=(((hp.push oi).push oj).push { cls:=.type "tuple",data:=.seq #[.ref hp.objs.size,.ref (hp.objs.size+1)] }).objs.size:=by rw [Heap.size_push,e2]
        show Heap.get? _ (hp.objs.size+3)=_;rw [this];exact Heap.get?_push_size _ rfl
      · exact hi.keep (fun o e=>kk _ _ _ _ _ (Heap.get?_push_of_some _ e)) fun o e=>kk _ _ _ _ _ (Heap.get?_push_of_some _ e)
      · exact hj.keep (fun o e=>kk _ _ _ _ _ e) fun o e=>kk _ _ _ _ _ e
    rcases h1 with h1 | h1 <;> rcases h2 with h2 | h2
    · have l1:Heap.IsList (Shared.heap ⟨hp,g,d,tk,os⟩) l xs:=h1;have l2:Heap.IsList (Shared.heap ⟨hp.push { cls:=.type "list_iterator",data:=.fields #[.ref l,.int 0 0] },g,d,tk,os⟩) m ys:=Heap.IsList.push h2 _
      wp_walk using wpAny_pyIter_list l1,wpAny_pyIter_list l2
      exact ⟨_,rfl,fin _ _ (.inl ⟨⟨_,Heap.get?_push_size _ rfl,rfl,rfl⟩,Heap.IsList.push h1 _⟩) (.inl ⟨⟨_,Heap.get?_push_size _ rfl,rfl,rfl⟩,Heap.IsList.push l2 _⟩)⟩
    · have l1:Heap.IsList (Shared.heap ⟨hp,g,d,tk,os⟩) l xs:=h1;have l2:Heap.IsTuple (Shared.heap ⟨hp.push { cls:=.type "list_iterator",data:=.fields #[.ref l,.int 0 0] },g,d,tk,os⟩) m ys:=Heap.IsTuple.push h2 _
      wp_walk using wpAny_pyIter_list l1,wpAny_pyIter_tuple l2
      exact ⟨_,rfl,fin _ _ (.inl ⟨⟨_,Heap.get?_push_size _ rfl,rfl,rfl⟩,Heap.IsList.push h1 _⟩) (.inr ⟨⟨_,Heap.get?_push_size _ rfl,rfl,rfl⟩,Heap.IsTuple.push l2 _⟩)⟩
    · have l1:Heap.IsTuple (Shared.heap ⟨hp,g,d,tk,os⟩) l xs:=h1;have l2:Heap.IsList (Shared.heap ⟨hp.push { cls:=.type "tuple_iterator",data:=.fields #[.ref l,.int 0 0] },g,d,tk,os⟩) m ys:=Heap.IsList.push h2 _
      wp_walk using wpAny_pyIter_tuple l1,wpAny_pyIter_list l2
      exact ⟨_,rfl,fin _ _ (.inr ⟨⟨_,Heap.get?_push_size _ rfl,rfl,rfl⟩,Heap.IsTuple.push h1 _⟩) (.inl ⟨⟨_,Heap.get?_push_size _ rfl,rfl,rfl⟩,Heap.IsList.push l2 _⟩)⟩
    · have l1:Heap.IsTuple (Shared.heap ⟨hp,g,d,tk,os⟩) l xs:=h1;have l2:Heap.IsTuple (Shared.heap ⟨hp.push { cls:=.type "tuple_iterator",data:=.fields #[.ref l,.int 0 0] },g,d,tk,os⟩) m ys:=Heap.IsTuple.push h2 _
      wp_walk using wpAny_pyIter_tuple l1,wpAny_pyIter_tuple l2
      exact ⟨_,rfl,fin _ _ (.inr ⟨⟨_,Heap.get?_push_size _ rfl,rfl,rfl⟩,Heap.IsTuple.push h1 _⟩) (.inr ⟨⟨_,Heap.get?_push_size _ rfl,rfl,rfl⟩,Heap.IsTuple.push l2 _⟩)⟩
theorem zu {Q:Value->Shared->Prop} {l m:Addr} (h1:vc s.heap l xs) (h2:vc s.heap m ys)
    (h:∀ h',h'.objs.size=s.heap.objs.size+5->Bi h' (s.heap.objs.size+4) (s.heap.objs.size+2) (s.heap.objs.size+3) s.heap.objs.size (s.heap.objs.size+1) l m .none 0 xs ys->(∀ c o,s.heap.get? c=some o->h'.get? c=some o) ->
      Q (.ref (s.heap.objs.size+4)) { s with heap:=h' }):wpAny (model prog w) A (call (.type "zip") [.ref l,.ref m]) Q E s:=by
  refine callType_new F.called_zip (by decide) (F.typeCall_zip_2 _ _) (F.newCall_zip_2 _ _) (fun obj=>F.args_object_init_3 obj _ _) F.entry_zip_new (Db l m xs ys) ⟨h1,h2,fun h' e S k=>?_⟩;exact ⟨⟨_,S.zz,rfl⟩,h h' e S k⟩
end
section
variable {X:Cx} {pins:List (Addr×Obj)} {σ:St} {H:Hp} {s:Shared} {h':Heap}
theorem kl {t':Nat} {fp:List Addr} (I:aS X pins σ H s) (k:∀ b o,b∉fp->s.heap.get? b=some o->h'.get? b=some o) (hf:∀ b∈fp,oK X pins H b):aS X pins σ H { s with heap:=h',toks:=t' }:=by
  have away:∀ b u,H b=some u->b∉fp:=fun b u e z=>by rw [(hf b z).1] at e;cases e
  have frame:X.env.locals∉fp:=fun z=>(hf _ z).2.1 rfl
  refine I.step (g':=s.gens) (d':=s.drawn) (ch:=fp) (fun b hb=>⟨(hf b hb).2.2.2.1,(hf b hb).2.1,(hf b hb).2.2.2.2.1,(hf b hb).2.2.2.2.2⟩) (fun b o _ _ hc e _=>k b o hc e) (fun b o _ _ hc e _=>⟨o.slots,k b o hc e⟩) (fun _ _ _ _ n=>n)
    (fun b o hc e=>⟨o,k b o hc e⟩) (fun _ _ e=>e) (fun _ _ _ e=>e) (fun b ps e=>⟨#[],by rw [e];simp⟩) (fun m ⟨o,es,ep,ho,r⟩=>⟨o,es,ep,k _ o frame ho,r⟩) (fun b u e=>?_) I.bare
  refine (I.hok b u e).stay (fun c v hc q=>k c v ?_ q) (fun _ q=>q) fun _ _ q=>q
  rcases hc with z | z
  · rw [z];exact away b u e
  · exact away c _ z
theorem AF {h:Heap} {o o':Obj} {b:Addr} (hb:b≠h.objs.size) (e:(h.push o).get? b=some o'):h.get? b=some o':=by
  unfold Heap.get? Heap.push at e;unfold Heap.get?;simp only [Array.getElem?_push] at e;rw [if_neg hb] at e;exact e
theorem wV {t':Nat} {fp:List Addr} {u1 u2:Value} {v1 v2:V} (I:aS X pins σ H s) (hf:∀ b∈fp,oK X pins H b) (hob:∀ b∈fp,b < s.heap.objs.size) (ht:IsPair h' s.heap.objs.size u1 u2) (k:∀ b o,b∉fp->s.heap.get? b=some o->h'.get? b=some o)
    (r1:bW v1 u1) (r2:bW v2 u2):aS X pins σ (de H s.heap.objs.size (.tup [v1,v2])) { s with heap:=h',toks:=t' }:=by
  have I1:aS X pins σ (de H s.heap.objs.size (.tup [v1,v2])) { s with heap:=s.heap.push { cls:=.type "tuple",data:=.seq #[u1,u2] },toks:=s.toks } :=
    I.laid (fun b u e=>Heap.get?_push_of_some _ e) (Nat.le_refl _) ⟨by show 2<=sizeLine;decide,[u1,u2],.cons r1 (.cons r2 .nil),_,Heap.get?_push_size _ rfl,rfl,⟨_,rfl⟩,rfl⟩
  refine kl (fp:=fp) (s:={ s with heap:=s.heap.push { cls:=.type "tuple",data:=.seq #[u1,u2] },toks:=s.toks }) I1 (fun b o hb e=>?_) fun b hb=>?_
  · by_cases hz:b=s.heap.objs.size
    · subst hz;have e':(s.heap.push { cls:=.type "tuple",data:=.seq #[u1,u2] }).get? s.heap.objs.size=some o:=e;rw [Heap.get?_push_size _ rfl] at e';cases e';exact ht
    · exact k b o hb (AF hz e)
  · obtain ⟨f0,f1,f2,f3,f4,f5⟩:=hf b hb;exact ⟨by rw [aB (Nat.ne_of_lt (hob b hb))];exact f0,f1,f2,f3,f4,f5⟩
end
noncomputable def tH (K:PySem.W.Frag) (H:Hp) (a:Addr) (xs:List V):Bool->Prop
  | true=>jm K H a xs
  | false=>n6 K H a xs
noncomputable def gO (h:Heap) (i l:Addr) (k:Nat):Bool->Prop
  | true=>h.IsTupleIter i l k
  | false=>h.IsListIter i l k
theorem gO.keep {h h':Heap} {i l:Addr} {k:Nat} {b:Bool} (x:gO h i l k b) (hi:∀ o,h.get? i=some o->h'.get? i=some o):gO h' i l k b:=by
  cases b
  · obtain ⟨o,e,r⟩:=x;exact ⟨o,hi _ e,r⟩
  · obtain ⟨o,e,r⟩:=x;exact ⟨o,hi _ e,r⟩
theorem gO.there {h:Heap} {i l:Addr} {k:Nat} {b:Bool} (x:gO h i l k b):∃ o,h.get? i=some o/\∀ v,o.data≠.cell v:=by
  cases b
  · obtain ⟨o,e,c,d⟩:=x;exact ⟨o,e,fun v z=>by rw [d] at z;cases z⟩
  · obtain ⟨o,e,c,d⟩:=x;exact ⟨o,e,fun v z=>by rw [d] at z;cases z⟩
section
variable {X:Cx} {pins:List (Addr×Obj)} {σ:St} {H:Hp} {s:Shared}
theorem jv {a:Addr} {xs:List V} {b:Bool} (I:aS X pins σ H s) (h:tH X.K H a xs b):∃ its:List Value,bE xs its/\vc s.heap a its.toArray/\∀ (i:Addr) (k:Nat),gO s.heap i a k b->nc s.heap i a k its.toArray:=by
  cases b
  · obtain ⟨its,rv,p,_⟩:=I.list h;exact ⟨its,rv,.inl p.isList,fun i k z=>.inl ⟨z,p.isList⟩⟩
  · obtain ⟨its,rv,p,_⟩:=I.tuple h;exact ⟨its,rv,.inr p,fun i k z=>.inr ⟨z,p⟩⟩
theorem lH {a:Addr} {xs ys:List V} {b:Bool} (I:aS X pins σ H s) (h:tH X.K H a xs b) (h':tH X.K H a ys b):ys=xs:=by
  cases b
  · exact I.list_inj h' h
  · exact I.tuple_inj h' h
theorem nc.toB {h:Heap} {i l:Addr} {k:Nat} {xs:Array Value} {b:Bool} (hl:∀ ys,(b=true->¬ h.IsList l ys)/\(b=false->¬ h.IsTuple l ys)) (x:nc h i l k xs):gO h i l k b:=by
  cases b
  · rcases x with ⟨z,w⟩ | ⟨z,w⟩
    · exact z
    · exact absurd w ((hl xs).2 rfl)
  · rcases x with ⟨z,w⟩ | ⟨z,w⟩
    · exact absurd w ((hl xs).1 rfl)
    · exact z
theorem eZ {h:Heap} {l:Addr} {xs ys:Array Value} (a:h.IsList l xs) (b:h.IsTuple l ys):False:=by
  obtain ⟨o,e,c,_⟩:=a;obtain ⟨o',e',c',_⟩:=b;rw [e] at e';cases e';rw [c] at c';injection c' with z
  exact absurd z (by decide)
theorem pO {a:Addr} {xs:List V} {b:Bool} (I:aS X pins σ H s) (h:tH X.K H a xs b) {h':Heap} (kp:∀ c o,s.heap.get? c=some o->h'.get? c=some o):∀ ys,(b=true->¬ h'.IsList a ys)/\(b=false->¬ h'.IsTuple a ys):=fun ys=>by
  cases b
  · obtain ⟨its,rv,p,_⟩:=I.list h;refine ⟨fun z=>(by cases z),fun _ w=>?_⟩;obtain ⟨o,e,r⟩:=p.isList;exact eZ (h:=h') (xs:=its.toArray) ⟨o,kp _ _ e,r⟩ w
  · obtain ⟨its,rv,p,_⟩:=I.tuple h;refine ⟨fun _ w=>?_,fun z=>by cases z⟩;obtain ⟨o,e,r⟩:=p;exact eZ (h:=h') w ⟨o,kp _ _ e,r⟩
end
noncomputable def Hv (K:PySem.W.Frag) (l m:Addr) (b c:Bool):It :=
  ⟨fun i H=>∃ xs ys x y,tH K H l xs b/\tH K H m ys c/\xs[i]?=some x/\ys[i]?=some y,
   fun i H v H'=>∃ a x y,H a=none/\v=.ref a/\H'=de H a (.tup [x,y])/\(∀ xs,tH K H l xs b->xs[i]?=some x)/\∀ ys,tH K H m ys c->ys[i]?=some y,
   fun i H=>∃ xs ys,tH K H l xs b/\tH K H m ys c/\(xs.length<=i\/ys.length<=i)⟩
structure IR (z p q i j l m:Addr) (b c:Bool) (k:Nat) (h:Heap):Prop where
  zz:IsZip h z p q .none
  pp:IsPair h p (.ref i) (.ref j)
  qq:∃ a b,IsPair h q a b
  ii:gO h i l k b
  jj:gO h j m k c
theorem A5 {P:Program} {w:World} {K:PySem.W.Frag} {elts:List Expr} {x1} {pos:Pos} {z p q i j l m:Addr} {b c:Bool} (D:ZA z p q i j l m):rS P w K (.Tuple elts x1 pos) (Hv K l m b c) [z,p,q,i,j] z (IR z p q i j l m b c) where
  mem:=by simp
  obj:=fun k h st a ha=>by
    simp only [List.mem_cons,List.not_mem_nil,or_false] at ha;rcases ha with rfl | rfl | rfl | rfl | rfl
    · exact ⟨_,st.zz,fun v e=>by cases e⟩
    · exact ⟨_,st.pp,fun v e=>by cases e⟩
    · obtain ⟨_,_,e⟩:=st.qq;exact ⟨_,e,fun v e=>by cases e⟩
    · exact st.ii.there
    · exact st.jj.there
  keep:=fun k h h' st kp=>⟨kp z (by simp) _ st.zz,kp p (by simp) _ st.pp,let ⟨a,b,e⟩:=st.qq;⟨a,b,kp q (by simp) _ e⟩,st.ii.keep fun o e=>kp i (by simp) o e,st.jj.keep fun o e=>kp j (by simp) o e⟩
  item:=by
    intro X hP hw hK hc k pins s σ H E I hf st hg;subst hP hw hK;obtain ⟨xs,ys,x,y,h1,h2,hx,hy⟩:=hg;obtain ⟨its,rv,_,p1⟩:=jv I h1;obtain ⟨jts,rw',_,p2⟩:=jv I h2;obtain ⟨u,hu,ru⟩:=rv.get hx;obtain ⟨v,hv,ry⟩:=rw'.get hy;have S:Bi s.heap z p q i j l m .none k its.toArray jts.toArray:=⟨st.zz,st.pp,st.qq,p1 _ _ st.ii,p2 _ _ st.jj⟩
    refine wl D S (x:=u) (y:=v) (by simpa using hu) (by simpa using hv) fun h' S' hp kp=>⟨_,rfl,?_⟩
    have zlt:z < s.heap.objs.size:=Heap.lt_size st.zz;refine wpAny_letOwnedTupleGo_zip (s:={ s with heap:=h' }) S'.zz fun h2' hz2 sb=>?_
    have up:∀ a o,a≠z->h'.get? a=some o->h2'.get? a=some o:=fun a o ha e=>sb.extBut a o ha e
    have hob:∀ a∈[z,p,q,i,j],a < s.heap.objs.size:=fun a ha=>by
      simp only [List.mem_cons,List.not_mem_nil,or_false] at ha;rcases ha with rfl | rfl | rfl | rfl | rfl
      · exact Heap.lt_size st.zz
      · exact Heap.lt_size st.pp
      · obtain ⟨_,_,e⟩:=st.qq;exact Heap.lt_size e
      · obtain ⟨o,e,_⟩:=st.ii.there;exact Heap.lt_size e
      · obtain ⟨o,e,_⟩:=st.jj.there;exact Heap.lt_size e
    have hn:H s.heap.objs.size=none:=I.hok.fresh (Nat.le_refl _);refine ⟨.ref s.heap.objs.size,_,wV (s:=s) (t':=s.toks) (fp:=[z,p,q,i,j]) (h':=h2') (u1:=u) (u2:=v) (v1:=x) (v2:=y) I hf hob (up _ _ (Nat.ne_of_gt zlt) hp) (fun a o ha e=>?_) ru ry,rfl,⟨_,x,y,hn,rfl,rfl,fun zs hz=>by rw [lH I h1 hz];exact hx,fun zs hz=>by rw [lH I h2 hz];exact hy⟩,?_,fun a ha=>?_⟩
    · simp only [List.mem_cons,List.not_mem_nil,or_false,not_or] at ha;exact up a o ha.1 (kp a o ha.1 ha.2.2.1 ha.2.2.2.1 ha.2.2.2.2 e)
    · have i2:gO h' i l (k+1) b:=by
        refine S'.ii.toB fun ys=>?_
        cases hb:b
        · subst hb;refine ⟨fun z=>(by cases z),fun _ w=>?_⟩;obtain ⟨_,_,pl,_⟩:=I.list h1;obtain ⟨o,e,r⟩:=pl.isList;exact eZ (h:=h') (xs:=_) ⟨o,kp _ _ D.lz D.lq D.li D.lj e,r⟩ w
        · subst hb;refine ⟨fun _ w=>?_,fun z=>by cases z⟩;obtain ⟨_,_,pl,_⟩:=I.tuple h1;obtain ⟨o,e,r⟩:=pl;exact eZ (h:=h') w ⟨o,kp _ _ D.lz D.lq D.li D.lj e,r⟩
      have j2:gO h' j m (k+1) c:=by
        refine S'.jj.toB fun ys=>?_
        cases hb:c
        · subst hb;refine ⟨fun z=>(by cases z),fun _ w=>?_⟩;obtain ⟨_,_,pl,_⟩:=I.list h2;obtain ⟨o,e,r⟩:=pl.isList;exact eZ (h:=h') (xs:=_) ⟨o,kp _ _ D.mz D.mq D.mi D.mj e,r⟩ w
        · subst hb;refine ⟨fun _ w=>?_,fun z=>by cases z⟩;obtain ⟨_,_,pl,_⟩:=I.tuple h2;obtain ⟨o,e,r⟩:=pl;exact eZ (h:=h') w ⟨o,kp _ _ D.mz D.mq D.mi D.mj e,r⟩
      exact ⟨hz2,up _ _ D.pz S'.pp,let ⟨a,b,e⟩:=S'.qq;⟨a,b,up _ _ D.qz e⟩,i2.keep fun o e=>up _ _ D.iz e,j2.keep fun o e=>up _ _ D.jz e⟩
    · rw [aB (Nat.ne_of_lt (hob a ha))];exact (hf a ha).1
  done:=by
    intro X hP hw hK hc k pins s σ H E I hf st hg;subst hP hw hK;obtain ⟨xs,ys,h1,h2,hl⟩:=hg;obtain ⟨its,rv,_,p1⟩:=jv I h1;obtain ⟨jts,rw',_,p2⟩:=jv I h2;have S:Bi s.heap z p q i j l m .none k its.toArray jts.toArray:=⟨st.zz,st.pp,st.qq,p1 _ _ st.ii,p2 _ _ st.jj⟩
    have e1:=rv.length;have e2:=rw'.length;refine yS (I.ok.hd hc) D S ?_ fun h' kp=>⟨rfl,kl (t':=s.toks) (fp:=[z,p,q,i,j]) I (fun a o ha e=>?_) hf⟩
    · rcases hl with hl | hl
      · left;simp;omega
      · right;simp;omega
    · simp only [List.mem_cons,List.not_mem_nil,or_false,not_or] at ha;exact kp a o ha.1 ha.2.2.1 ha.2.2.2.1 ha.2.2.2.2 e
  self:=fun _ _ _ _ _ st h=>wpAny_pyIter_zip st.zz h
noncomputable def Bt (H:Hp) (a:Addr) (ds:List PyData):Bool->Prop
  | true=>∃ vs,H a=some (.tup vs)/\bD H ds vs
  | false=>∃ o vs,H a=some (.frz o (.lst vs))/\bD H ds vs
theorem Bt.sq {K:PySem.W.Frag} {H:Hp} {a:Addr} {ds:List PyData} {b:Bool} (h:Bt H a ds b):∃ vs,tH K H a vs b/\bD H ds vs:=by
  cases b
  · obtain ⟨o,vs,e,r⟩:=h;exact ⟨vs,.inl (.inr ⟨o,e⟩),r⟩
  · obtain ⟨vs,e,r⟩:=h;exact ⟨vs,jm.of e,r⟩
theorem Bt.kp {H H':Hp} {a:Addr} {ds:List PyData} {b:Bool} (h:Bt H a ds b) (k:Kp H H'):Bt H' a ds b:=by
  cases b
  · obtain ⟨o,vs,e,r⟩:=h;exact ⟨o,vs,k.2 _ _ _ e,bD.kp k _ _ r⟩
  · obtain ⟨vs,e,r⟩:=h;exact ⟨vs,k.1 _ _ e,bD.kp k _ _ r⟩
noncomputable def F5 (p:PyData×PyData):PyData:=.tuple [p.1,p.2]
noncomputable def jR (xs ys:List PyData):List PyData:=(xs.zip ys).map F5
theorem Bf {xs ys:List PyData} {i:Nat} {d:PyData} (h:(jR xs ys)[i]?=some d):∃ x y,xs[i]?=some x/\ys[i]?=some y/\d=.tuple [x,y]:=by
  unfold jR at h;rw [List.getElem?_map] at h;cases e:(xs.zip ys)[i]? with
  | none=>rw [e] at h;cases h
  | some p =>
    rw [e] at h;obtain ⟨h1,h2⟩:=List.getElem?_zip_eq_some.mp e;exact ⟨p.1,p.2,h1,h2,(Option.some.inj h).symm⟩
theorem kE (xs ys:List PyData):(jR xs ys).length=min xs.length ys.length:=by unfold jR;simp
theorem B0 {K:PySem.W.Frag} {l m:Addr} {b c:Bool} {xs ys:List PyData}:yZ (Hv K l m b c) (fun H=>Bt H l xs b/\Bt H m ys c) (jR xs ys) where
  go:=fun i H ⟨h1,h2⟩ hi=>by
    rw [kE] at hi;obtain ⟨vs,s1,r1⟩:=h1.sq (K:=K);obtain ⟨us,s2,r2⟩:=h2.sq (K:=K);obtain ⟨x,hx,_⟩:=r1.get (List.getElem?_eq_getElem (show i < xs.length by omega));obtain ⟨y,hy,_⟩:=r2.get (List.getElem?_eq_getElem (show i < ys.length by omega));exact ⟨vs,us,x,y,s1,s2,hx,hy⟩
  yld:=fun i H v H' d ⟨h1,h2⟩ hd h=>by
    obtain ⟨a,x,y,ha,rfl,rfl,k1,k2⟩:=h;obtain ⟨vs,s1,r1⟩:=h1.sq (K:=K);obtain ⟨us,s2,r2⟩:=h2.sq (K:=K);obtain ⟨dx,dy,e1,e2,rfl⟩:=Bf hd;obtain ⟨x',hx,px⟩:=r1.get e1;obtain ⟨y',hy,py⟩:=r2.get e2;have q1:=k1 vs s1;have q2:=k2 us s2;rw [hx] at q1;rw [hy] at q2;cases q1;cases q2;exact ⟨cT ha _,e9 ha (bD.cons px (bD.cons py bD.nil))⟩
  stop:=fun i H ⟨h1,h2⟩ hi=>by
    rw [kE] at hi;obtain ⟨vs,s1,r1⟩:=h1.sq (K:=K);obtain ⟨us,s2,r2⟩:=h2.sq (K:=K);have l1:=r1.length;have l2:=r2.length;exact ⟨vs,us,s1,s2,by omega⟩
theorem Fa {n l m:Nat} (hl:l < n) (hm:m < n):ZA (n+4) (n+2) (n+3) n (n+1) l m:=by
  refine ⟨?_,?_,?_,?_,?_,?_,?_,?_,?_,?_,?_,?_,?_,?_,?_,?_,?_,?_⟩ <;> (intro z;have z':(_:Nat)=_:=z;omega)
section
variable {X:Cx} {elts:List Expr} {x1:Nat} {tp:Pos} {a b:Expr} {fa fb:Fe} {pos p:Pos} {nl:Nat} {G:List Str} {fs:aW->R (List PyData)}
noncomputable def IY (K:PySem.W.Frag) (ta:TA):TI:=fun σ H R=>ta σ H fun vs H1=>∃ l m xs ys b c,vs=[.ref l,.ref m]/\tH K H1 l xs b/\tH K H1 m ys c/\R (Hv K l m b c) H1
theorem EC {ta:TA} (hg:Gl X "zip") (hm:X.mg "zip" = none) (ha:PA X [a,b] ta) (hs:starEach [a,b] X.env=[(false,eval a X.env),(false,eval b X.env)]) (hs2:starEach [b] X.env=[(false,eval b X.env)]) :
    PI X (.Tuple elts x1 tp) (.Call (.Name "zip" p) [a,b] [] pos) (IY X.K ta):=by
  intro pins s σ H R I h;refine Call_ (km I hg hm boot_zip (PyProof.Rows.callWith_type1 (dM (ha pos pins s σ H _ I h) fun us s1 ⟨vs,H1,I1,r1,q1⟩=>?_) (by rw [hs,hs2]) (by rw [hs2];rfl)));obtain ⟨l,m,xs,ys,b,c,e,h1,h2,q⟩:=q1;subst e;obtain ⟨u,v,rfl,ru,rv⟩:=uN r1;cases ru;cases rv;obtain ⟨its,w1,p1,g1⟩:=jv I1 h1;obtain ⟨jts,w2,p2,g2⟩:=jv I1 h2;have ll:l < s1.heap.objs.size:=by rcases p1 with ⟨o,e,_⟩ | ⟨o,e,_⟩ <;> exact Heap.lt_size e
  have lm:m < s1.heap.objs.size:=by rcases p2 with ⟨o,e,_⟩ | ⟨o,e,_⟩ <;> exact Heap.lt_size e
  refine zu p1 p2 fun h' hz S kp=>wpAny_pyIter_zip S.zz ?_
  have D:=Fa ll lm;have I2:aS X pins σ H1 { s1 with heap:=h' }:=I1.kept (t':=s1.toks) kp;have i2:gO h' s1.heap.objs.size l 0 b:=S.ii.toB (pO I1 h1 kp);have j2:gO h' (s1.heap.objs.size+1) m 0 c:=S.jj.toB (pO I1 h2 kp);refine ⟨_,[s1.heap.objs.size+4,s1.heap.objs.size+2,s1.heap.objs.size+3,s1.heap.objs.size,s1.heap.objs.size+1],_,_,H1,rfl,I2,A5 (b:=b) (c:=c) D,⟨S.zz,S.pp,S.qq,i2,j2⟩,fun a ha=>?_,q⟩;have hle:s1.heap.objs.size<=a:=by
    simp only [List.mem_cons,List.not_mem_nil,or_false] at ha;rcases ha with rfl | rfl | rfl | rfl | rfl
    · exact Nat.le_add_right _ 4
    · exact Nat.le_add_right _ 2
    · exact Nat.le_add_right _ 3
    · exact Nat.le_refl _
    · exact Nat.le_add_right _ 1
  exact I1.fpOk hle (I1.hok.fresh hle)
noncomputable def vy (fa fb:Fe):aW->R (List PyData):=fun ρ=>fa ρ>>=fun x=>fb ρ>>=fun y=>jL x>>=fun xs=>jL y>>=fun ys=>.ok (jR xs ys)
theorem vX {H:Hp} {d:PyData} {v:V} {ds:List PyData} (h:Rp H d v) (e:jL d=.ok ds):∃ a b,v=.ref a/\Bt H a ds b:=by
  cases d with
  | list xs =>
    cases e;simp only [Rp] at h;obtain ⟨a,o,vs,rfl,h,r⟩:=h;exact ⟨a,false,rfl,o,vs,h,r⟩
  | tuple xs =>
    cases e;simp only [Rp] at h;obtain ⟨a,vs,rfl,h,r⟩:=h;exact ⟨a,true,rfl,vs,h,r⟩
  | _=>cases e
theorem o9 (T:Tb X nl G) (j:Nat) (hG:G[j]?=some ("zip" : Str)) (hm:X.mg "zip" = none) (ha:Z.cU X a fa) (hb:Z.cU X b fb) (h1:bh a=true:=by rfl) (h2:bh b=true:=by rfl):Z.tm X (.Tuple elts x1 tp) (.Call (.Name "zip" p) [a,b] [] pos) (vy fa fb):=⟨have ha:=ha.un;have hb:=hb.un;by
  have g:=T.gl _ (List.mem_of_getElem? hG);refine PI.imp (EC g.1 hm (kK ha (kK hb pD h2) h1) (by rw [bP h1,bP h2];rfl) (by rw [bP h2];rfl)) fun σ H Rk h=>?_
  obtain ⟨ρ,sl,q⟩:=h;unfold vy at q;refine ⟨ρ,sl,?_⟩;unfold ah az;cases e1:fa ρ with
  | ex c=>rw [e1] at q;exact q
  | no=>rw [e1] at q;exact q
  | ok x =>
    rw [e1] at q;simp only [R.ok_bind] at q ⊢;cases e2:fb ρ with
    | ex c=>rw [e2] at q;exact q
    | no=>rw [e2] at q;exact q
    | ok y =>
      rw [e2] at q;simp only [R.ok_bind] at q ⊢;cases e3:jL x with
      | ex c=>exact absurd e3 (by cases x <;> simp [jL])
      | no=>rw [e3] at q;exact q.elim
      | ok xs =>
        rw [e3] at q;simp only [R.ok_bind] at q;cases e4:jL y with
        | ex c=>exact absurd e4 (by cases y <;> simp [jL])
        | no=>rw [e4] at q;exact q.elim
        | ok ys =>
          rw [e4] at q;simp only [R.ok_bind] at q;intro vs H1 s1 ra;simp only [RA] at ra;obtain ⟨v,r',rfl,p1,v',r'',rfl,p2,rfl⟩:=ra;obtain ⟨l,b1,rfl,d1⟩:=vX p1 e3;obtain ⟨m,b2,rfl,d2⟩:=vX p2 e4;obtain ⟨us,u1,_⟩:=d1.sq (K:=X.K);obtain ⟨ws,u2,_⟩:=d2.sq (K:=X.K);exact ⟨l,m,us,ws,b1,b2,rfl,u1,u2,q _ H1 s1 ⟨_,B0,fun H2 k _=>⟨d1.kp k,d2.kp k⟩⟩⟩⟩
end
noncomputable def eF (i j:Nat):PyData->aW->Option aW
  | .tuple [x,y],ρ=>some ((ρ.set i (.val x)).set j (.val y))
  | _,_=>none
section
variable {X:Cx} {nl:Nat} {G:List Str} {x y:Str} {k:Nat} {p1 p2 pos:Pos}
theorem fK (T:Tb X nl G) (i j:Nat) (hi:(X.N.take nl)[i]?=some x) (hj:(X.N.take nl)[j]?=some y):Z.u0 X (.Tuple [.Name x p1,.Name y p2] k pos) (eF i j):=⟨by
  obtain ⟨i1,i2,i3⟩:=T.nm hi;obtain ⟨j1,j2,j3⟩:=T.nm hj;refine PG.imp (EB T.calm (uz (sG T.nd i1 i2 i3) (uz (sG T.nd j1 j2 j3) Cq))) fun v σ H Q zq0=>?_
  obtain ⟨ρ,d,sl,p,q⟩:=zq0;unfold eF at q;split at q
  · rename_i e;split at e
    · rename_i ρ0 dx dy;cases e;simp only [Rp] at p;obtain ⟨a,vs,rfl,ha,r⟩:=p;obtain ⟨u,r1,rfl,pu,r⟩:=r.cons_inv;obtain ⟨w,r2,rfl,pw,r⟩:=r.cons_inv;rw [r.nil_inv] at ha;refine ⟨a,[u,w],rfl,jm.of ha,rfl,u,[w],rfl,w,[],rfl,rfl,?_⟩;refine q _ (Sl.set (c:=.val dy) (o:=some w) (Sl.set (c:=.val dx) (o:=some u) sl i ⟨u,rfl,pu⟩) j ⟨w,rfl,pw⟩) fun n e h=>?_
      obtain ⟨n1,h⟩:=dL (fun e z=>by cases z) h;obtain ⟨n2,h⟩:=dL (fun e z=>by cases z) h;exact ⟨h,by rw [List.getElem?_set,if_neg n1,List.getElem?_set,if_neg n2]⟩
    · cases e
  · exact q.elim⟩
end
theorem hU {own:Nat} {fr:List Nat} {i j:Nat} (hi:i < own) (hj:j < own):∀ ρ d ρ1,eF i j d (aJ own fr ρ)=some ρ1->oJ (aJ own fr ρ) ρ1:=fun ρ d ρ1 e=>by
  unfold eF at e;split at e
  · rename_i x y _;cases e;refine ⟨by rw [List.length_set,List.length_set],fun n c hn=>?_⟩;have at_own:n < own->c=.non:=fun h=>by
      unfold aJ at hn;rw [List.getElem?_append_left (by simpa using h),List.getElem?_replicate,if_pos h] at hn;exact (Option.some.inj hn).symm
    by_cases h1:j=n
    · exact .inl (at_own (by omega))
    · by_cases h2:i=n
      · exact .inl (at_own (by omega))
      · exact .inr (by rw [List.getElem?_set,if_neg h1,List.getElem?_set,if_neg h2];exact hn)
  · cases e
open AutoSeq1 (wpAny_loadPart')
noncomputable abbrev kX (h:Heap) (e i:Addr) (k:Int) (f0 old:Value):Prop:=h.get? e=some { cls:=.type "enumerate",dict:=none,data:=.fields #[f0,.bool false,.ref i,rawInt k,.none,old],slots:=#[] }
section
variable {prog:Program} {w:World} {A:Around} {E:Value->Shared->Prop} {s:Shared} {e i l:Addr} {k:Nat} {xs:Array Value}
theorem x9 {x old:Value} {Q:Value->Shared->Prop} (he:kX s.heap e i k .none old) (it:nc s.heap i l k xs) (hli:l≠i) (hle:l≠e) (hei:e≠i) (hx:xs[k]?=some x)
    (hQ:∀ h' old',kX h' e i ((k:Int)+1) (rawInt s.heap.objs.size) old'->nc h' i l (k+1) xs->IsPair h' s.heap.objs.size (.int k s.toks) x->(∀ c o,c≠e->c≠i->s.heap.get? c=some o->h'.get? c=some o)->Q (.ref s.heap.objs.size) { s with heap:=h',toks:=s.toks+1 }) :
    wpAny (model prog w) A (Builtin.«enumerate.__next__» ⟨[.ref e],[]⟩) (fun fin s'=>∃ v,fin=.done (.ret v)/\Q v s') E s:=by
  obtain ⟨hp,g,d,tk,os⟩:=s;show wpAny _ _ (field (Value.ref e) 2>>=_) _ _ _;refine wpAny_bind (wpAny_field he rfl (x:=Value.ref i) rfl ?_);refine wpAny_bind (xa it hli hx fun g1 i1 s1=>?_);replace s1:Heap.SameBut i hp g1:=s1;have e1:kX g1 e i k .none old:=(s1.2 e hei).trans he;show wpAny _ _ (field (Value.ref e) 3>>=_) _ _ (Shared.mk g1 g d tk os);refine wpAny_bind (wpAny_field e1 rfl (x:=rawInt (k:Int)) rfl ?_);show wpAny _ _ (field (Value.ref e) 4>>=_) _ _ (Shared.mk g1 g d tk os);refine wpAny_bind (wpAny_field e1 rfl (x:=Value.none) rfl ?_);show wpAny _ _ (mkInt (k:Int)>>=_) _ _ (Shared.mk g1 g d tk os);refine wpAny_bind (wpAny_mkInt ?_);show wpAny _ _ (setField (Value.ref e) 3 (rawInt ((k:Int)+1))>>=_) _ _ (Shared.mk g1 g d (tk+1) os);refine wpAny_bind (wpAny_setField_rec e1 (by simp) fun g2 e2 s2=>?_);replace s2:Heap.SameBut e g1 g2:=s2;replace e2:kX g2 e i ((k:Int)+1) .none old:=e2;show wpAny _ _ (setField (Value.ref e) 4 Value.none>>=_) _ _ (Shared.mk g2 g d (tk+1) os);refine wpAny_bind (wpAny_setField_rec e2 (by simp) fun g3 e3 s3=>?_);replace s3:Heap.SameBut e g2 g3:=s3;replace e3:kX g3 e i ((k:Int)+1) .none old:=e3;show wpAny _ _ (newTuple [Value.int k tk,x]>>=_) _ _ (Shared.mk g3 g d (tk+1) os);refine wpAny_bind (wpAny_newTuple ?_);have hsz:g3.objs.size=hp.objs.size:=by rw [s3.1,s2.1,s1.1]
  have elt:e < g3.objs.size:=Heap.lt_size e3;have e4:kX (g3.push { cls:=.type "tuple",data:=.seq #[.int k tk,x] }) e i ((k:Int)+1) .none old:=Heap.get?_push_of_some _ e3;have t4:IsPair (g3.push { cls:=.type "tuple",data:=.seq #[.int k tk,x] }) g3.objs.size (.int k tk) x:=Heap.get?_push_size _ rfl;have i3:nc g3 i l (k+1) xs:=i1.keep (fun o q=>s3.extBut _ _ hei.symm (s2.extBut _ _ hei.symm q)) fun o q=>s3.extBut _ _ hle (s2.extBut _ _ hle q)
  have k3:∀ c o,c≠e->c≠i->hp.get? c=some o->g3.get? c=some o:=fun c o c1 c2 q=>s3.extBut _ _ c1 (s2.extBut _ _ c1 (s1.extBut _ _ c2 q))
  show wpAny _ _ (Builtin.SmallTypes.ownedTupleIsFree (Value.ref e)>>=_) _ _ (Shared.mk (g3.push { cls:=.type "tuple",data:=.seq #[.int k tk,x] }) g d (tk+1) os);refine wpAny_bind ?_;unfold Builtin.SmallTypes.ownedTupleIsFree;refine wpAny_bind (wpAny_field e4 rfl (x:=Value.none) rfl (wpAny_pure ?_));simp only [if_true];refine wpAny_bind (wpAny_rule ?_);refine wpAny_bind (wpAny_field e4 rfl (x:=old) rfl ?_);refine wpAny_bind (wpAny_setField_rec e4 (by simp) fun g5 e5 s5=>?_);replace s5:Heap.SameBut e (g3.push { cls:=.type "tuple",data:=.seq #[.int k tk,x] }) g5:=s5;replace e5:kX g5 e i ((k:Int)+1) .none x:=e5;show wpAny _ _ (Builtin.SmallTypes.ownedTupleHandOut (Value.ref e) (Value.ref g3.objs.size)>>=_) _ _ (Shared.mk g5 g d (tk+1) os);refine wpAny_bind ?_;unfold Builtin.SmallTypes.ownedTupleHandOut;refine wpAny_bind (wpAny_setField_rec e5 (by simp) fun g6 e6 s6=>?_);replace s6:Heap.SameBut e g5 g6:=s6;replace e6:kX g6 e i ((k:Int)+1) (rawInt g3.objs.size) x:=e6;refine wpAny_setField_rec e6 (by simp) fun g7 e7 s7=>?_
  replace s7:Heap.SameBut e g6 g7:=s7;replace e7:kX g7 e i ((k:Int)+1) (rawInt g3.objs.size) x:=e7;have up:∀ c o,c≠e->g3.get? c=some o->g7.get? c=some o:=fun c o c1 q=>s7.extBut _ _ c1 (s6.extBut _ _ c1 (s5.extBut _ _ c1 (Heap.get?_push_of_some _ q)))
  have t7:IsPair g7 g3.objs.size (.int k tk) x:=s7.extBut _ _ (Nat.ne_of_gt elt) (s6.extBut _ _ (Nat.ne_of_gt elt) (s5.extBut _ _ (Nat.ne_of_gt elt) t4));rw [hsz] at e7 t7;refine wpAny_bind (wpAny_letGo (wpAny_pure ⟨_,rfl,?_⟩));show Q (.ref g3.objs.size) _;rw [hsz];exact hQ g7 x e7 (i3.keep (fun o q=>up _ _ hei.symm q) fun o q=>up _ _ hle q) t7 fun c o c1 c2 q=>up c o c1 (k3 c o c1 c2 q)
theorem ya {x old:Value} {Q:Option Value->Shared->Prop} (he:kX s.heap e i k .none old) (it:nc s.heap i l k xs) (hli:l≠i) (hle:l≠e) (hei:e≠i) (hx:xs[k]?=some x)
    (hQ:∀ h' old',kX h' e i ((k:Int)+1) (rawInt s.heap.objs.size) old'->nc h' i l (k+1) xs->IsPair h' s.heap.objs.size (.int k s.toks) x->(∀ c o,c≠e->c≠i->s.heap.get? c=some o->h'.get? c=some o)->Q (some (.ref s.heap.objs.size)) { s with heap:=h',toks:=s.toks+1 }) :
    wpAny (model prog w) A (pyNext (.ref e)) Q E s:=by
  have hT:s.TypeIs (.ref e) "enumerate" := ⟨_,he,rfl⟩
  unfold pyNext;exact wpAny_bind (wpAny_attempt (wpAny_callSpecial?_slot (name:=Str.ofString "__next__") hT F.slot_enumerate_next (wpAny_call_entry F.slot_enumerate_next hT F.entry_enumerate_next (x9 he it hli hle hei hx fun h' o a b c d=>wpAny_pure (hQ h' o a b c d)) (F.args_enumerate_next_1 _))))
theorem zJ {old:Value} {Q:Option Value->Shared->Prop} (hh:A.handled=none) (he:kX s.heap e i k .none old) (it:nc s.heap i l k xs) (hx:xs[k]?=none) (hQ:∀ h',(∀ c o,c≠i->s.heap.get? c=some o->h'.get? c=some o)->Q none { s with heap:=h' }) :
    wpAny (model prog w) A (pyNext (.ref e)) Q E s:=by
  have hT:s.TypeIs (.ref e) "enumerate" := ⟨_,he,rfl⟩
  unfold pyNext;refine wpAny_bind (wpAny_attempt (wpAny_callSpecial?_slot (name:=Str.ofString "__next__") hT F.slot_enumerate_next (wpAny_call_entry F.slot_enumerate_next hT F.entry_enumerate_next ?_ (F.args_enumerate_next_1 _))));show wpAny _ _ (field (Value.ref e) 2>>=_) _ _ _;refine wpAny_bind (wpAny_field he rfl (x:=Value.ref i) rfl ?_);refine wpAny_bind (nQ hh it hx fun h' x k1 zq0=>?_);obtain ⟨o,ho,hc⟩:=zq0;exact wpAny_bind (wpAny_isInstance (T := "StopIteration") (b:=true) ⟨o,ho,hc⟩ isSubtype_stop (wpAny_pure (hQ _ fun c o c1 q=>k1 c o c1 q)))
theorem zK (l:Addr) (xs:Array Value):Meets (Builtin.«enumerate.__new__» ⟨[.type "enumerate",.ref l],[]⟩) (fun _ R s=>vc s.heap l xs /\
    ∀ h',kX h' (s.heap.objs.size+1) s.heap.objs.size 0 .none .none->nc h' s.heap.objs.size l 0 xs->(∀ c o,s.heap.get? c=some o->h'.get? c=some o)->R (.ok (.ret (.ref (s.heap.objs.size+1)))) { s with heap:=h' }) :=
  .of_wp fun prog w A R s h=>by
    obtain ⟨hp,g,d,tk,os⟩:=s;obtain ⟨h1,h⟩:=h;have hsub:=sub_enumerate;have fin:∀ oi:Obj,nc (hp.push oi) hp.objs.size l 0 xs->R (.ok (.ret (.ref (hp.push oi).objs.size))) ⟨(hp.push oi).push { cls:=.type "enumerate",data:=.fields #[.none,.bool false,.ref hp.objs.size,rawInt 0,.none,.none] },g,d,tk,os⟩:=fun oi hi=>by
      have e1:(hp.push oi).objs.size=hp.objs.size+1:=Heap.size_push ..;rw [e1];refine h _ ?_ (hi.keep (fun o q=>Heap.get?_push_of_some _ q) fun o q=>Heap.get?_push_of_some _ q) fun c o q=>Heap.get?_push_of_some _ (Heap.get?_push_of_some _ q)
      show Heap.get? _ (hp.objs.size+1)=_;rw [<- e1];exact Heap.get?_push_size _ rfl
    rcases h1 with h1 | h1
    · have l1:Heap.IsList (Shared.heap ⟨hp,g,d,tk,os⟩) l xs:=h1;obtain ⟨o,ho,_,_,_⟩:=id h1;have ho':(Shared.heap ⟨hp,g,d,tk,os⟩).get? l=some o:=ho
      wp_walk using wpAny_loadPart' ho'
      refine wpAny_stack_any fun st=>wpAny_pure ?_
      split
      · rename_i c _ _ _ _ _;cases (c==Value.type "enumerate")
        · wp_walk using wpAny_loadPart' ho',wpAny_pyIter_list l1
          exact ⟨_,rfl,fin _ (.inl ⟨⟨_,Heap.get?_push_size _ rfl,rfl,rfl⟩,Heap.IsList.push h1 _⟩)⟩
        · wp_walk using wpAny_loadPart' ho',wpAny_pyIter_list l1
          exact ⟨_,rfl,fin _ (.inl ⟨⟨_,Heap.get?_push_size _ rfl,rfl,rfl⟩,Heap.IsList.push h1 _⟩)⟩
      · wp_walk using wpAny_loadPart' ho',wpAny_pyIter_list l1
        exact ⟨_,rfl,fin _ (.inl ⟨⟨_,Heap.get?_push_size _ rfl,rfl,rfl⟩,Heap.IsList.push h1 _⟩)⟩
    · have l1:Heap.IsTuple (Shared.heap ⟨hp,g,d,tk,os⟩) l xs:=h1;obtain ⟨o,ho,_,_,_⟩:=id h1;have ho':(Shared.heap ⟨hp,g,d,tk,os⟩).get? l=some o:=ho
      wp_walk using wpAny_loadPart' ho'
      refine wpAny_stack_any fun st=>wpAny_pure ?_
      split
      · rename_i c _ _ _ _ _;cases (c==Value.type "enumerate")
        · wp_walk using wpAny_loadPart' ho',wpAny_pyIter_tuple l1
          exact ⟨_,rfl,fin _ (.inr ⟨⟨_,Heap.get?_push_size _ rfl,rfl,rfl⟩,Heap.IsTuple.push h1 _⟩)⟩
        · wp_walk using wpAny_loadPart' ho',wpAny_pyIter_tuple l1
          exact ⟨_,rfl,fin _ (.inr ⟨⟨_,Heap.get?_push_size _ rfl,rfl,rfl⟩,Heap.IsTuple.push h1 _⟩)⟩
      · wp_walk using wpAny_loadPart' ho',wpAny_pyIter_tuple l1
        exact ⟨_,rfl,fin _ (.inr ⟨⟨_,Heap.get?_push_size _ rfl,rfl,rfl⟩,Heap.IsTuple.push h1 _⟩)⟩
theorem xT {Q:Value->Shared->Prop} {l:Addr} (h1:vc s.heap l xs)
    (h:∀ h',kX h' (s.heap.objs.size+1) s.heap.objs.size 0 .none .none->nc h' s.heap.objs.size l 0 xs->(∀ c o,s.heap.get? c=some o->h'.get? c=some o)->Q (.ref (s.heap.objs.size+1)) { s with heap:=h' }) :
    wpAny (model prog w) A (call (.type "enumerate") [.ref l]) Q E s:=by
  refine callType_new F.called_enumerate (by decide) (F.typeCall_enumerate_1 _) (F.newCall_enumerate_1 _) (fun obj=>F.args_object_init_2 obj _) F.entry_enumerate_new (zK l xs) ⟨h1,fun h' e S k=>?_⟩;exact ⟨⟨_,e,rfl⟩,h h' e S k⟩
end
end D2
namespace D2
open PySem PySem.Spec PyProof.Rows L2
noncomputable def Hu (K:PySem.W.Frag) (l:Addr) (b:Bool):It :=
  ⟨fun i H=>∃ xs x,tH K H l xs b/\xs[i]?=some x,fun i H v H'=>∃ a x,H a=none/\v=.ref a/\H'=de H a (.tup [.int i,x])/\∀ xs,tH K H l xs b->xs[i]?=some x,fun i H=>∃ xs,tH K H l xs b/\xs.length<=i⟩
structure IM (e i l:Addr) (b:Bool) (k:Nat) (h:Heap):Prop where
  ee:∃ old,kX h e i k .none old
  ii:gO h i l k b
theorem yP {P:Program} {w:World} {K:PySem.W.Frag} {elts:List Expr} {x1} {pos:Pos} {e i l:Addr} {b:Bool} (hei:e≠i) (hle:l≠e) (hli:l≠i):rS P w K (.Tuple elts x1 pos) (Hu K l b) [e,i] e (IM e i l b) where
  mem:=by simp
  obj:=fun k h st a ha=>by
    simp only [List.mem_cons,List.not_mem_nil,or_false] at ha;rcases ha with rfl | rfl
    · obtain ⟨_,q⟩:=st.ee;exact ⟨_,q,fun v e=>by cases e⟩
    · exact st.ii.there
  keep:=fun k h h' st kp=>⟨let ⟨o,q⟩:=st.ee;⟨o,kp e (by simp) _ q⟩,st.ii.keep fun o q=>kp i (by simp) o q⟩
  item:=by
    intro X hP hw hK hc k pins s σ H E I hf st hg;subst hP hw hK;obtain ⟨xs,x,h1,hx⟩:=hg;obtain ⟨its,rv,_,p1⟩:=jv I h1;obtain ⟨u,hu,ru⟩:=rv.get hx;obtain ⟨old,he⟩:=st.ee;refine ya he (p1 _ _ st.ii) hli hle hei (x:=u) (by simpa using hu) fun h' old' e' i' hp kp=>⟨_,rfl,?_⟩
    have elt:e < s.heap.objs.size:=Heap.lt_size he;have hob:∀ a∈[e,i],a < s.heap.objs.size:=fun a ha=>by
      simp only [List.mem_cons,List.not_mem_nil,or_false] at ha;rcases ha with rfl | rfl
      · exact elt
      · obtain ⟨o,q,_⟩:=st.ii.there;exact Heap.lt_size q
    have hn:H s.heap.objs.size=none:=I.hok.fresh (Nat.le_refl _);refine wpAny_letOwnedTupleGo_enum (s:={ s with heap:=h',toks:=s.toks+1 }) e' fun h2' e2 sb=>?_
    have up:∀ a o,a≠e->h'.get? a=some o->h2'.get? a=some o:=fun a o ha q=>sb.extBut a o ha q
    refine ⟨.ref s.heap.objs.size,_,wV (s:=s) (t':=s.toks+1) (fp:=[e,i]) (h':=h2') (u1:=.int k s.toks) (u2:=u) (v1:=.int k) (v2:=x) I hf hob (up _ _ (Nat.ne_of_gt elt) hp) (fun a o ha q=>?_) ⟨_,rfl⟩ ru,rfl,⟨_,x,hn,rfl,rfl,fun zs hz=>by rw [lH I h1 hz];exact hx⟩,?_,fun a ha=>?_⟩
    · simp only [List.mem_cons,List.not_mem_nil,or_false,not_or] at ha;exact up a o ha.1 (kp a o ha.1 ha.2 q)
    · have i2:gO h' i l (k+1) b:=by
        refine i'.toB fun ys=>?_
        cases hb:b
        · subst hb;refine ⟨fun z=>(by cases z),fun _ w=>?_⟩;obtain ⟨_,_,pl,_⟩:=I.list h1;obtain ⟨o,q,r⟩:=pl.isList;exact eZ (h:=h') (xs:=_) ⟨o,kp _ _ hle hli q,r⟩ w
        · subst hb;refine ⟨fun _ w=>?_,fun z=>by cases z⟩;obtain ⟨_,_,pl,_⟩:=I.tuple h1;obtain ⟨o,q,r⟩:=pl;exact eZ (h:=h') w ⟨o,kp _ _ hle hli q,r⟩
      exact ⟨⟨_,by have q:kX h2' e i ((k:Int)+1) .none old':=e2;simpa using q⟩,i2.keep fun o q=>up _ _ hei.symm q⟩
    · rw [aB (Nat.ne_of_lt (hob a ha))];exact (hf a ha).1
  done:=by
    intro X hP hw hK hc k pins s σ H E I hf st hg;subst hP hw hK;obtain ⟨xs,h1,hl⟩:=hg;obtain ⟨its,rv,_,p1⟩:=jv I h1;obtain ⟨old,he⟩:=st.ee;have e1:=rv.length;refine zJ (I.ok.hd hc) he (p1 _ _ st.ii) (by simp;omega) fun h' kp=>⟨rfl,kl (t':=s.toks) (fp:=[e,i]) I (fun a o ha q=>?_) hf⟩
    simp only [List.mem_cons,List.not_mem_nil,or_false,not_or] at ha;exact kp a o ha.2 q
  self:=fun _ _ _ _ _ st h=>let ⟨_,q⟩:=st.ee;wpAny_pyIter_enum q h
noncomputable def dS:Nat->List PyData->List PyData
  | _,[]=>[]
  | k,d::ds=>.tuple [.int k,d]::dS (k+1) ds
theorem hR:∀ (k:Nat) (ds:List PyData),(dS k ds).length=ds.length
  | _,[]=>rfl
  | k,d::ds=>by unfold dS;rw [List.length_cons,List.length_cons,hR]
theorem qR:∀ {k:Nat} {ds:List PyData} {i:Nat} {d:PyData},(dS k ds)[i]?=some d->∃ x,ds[i]?=some x/\d=.tuple [.int ((k+i:Nat):Int),x]
  | k,[],i,d,h=>by unfold dS at h;simp at h
  | k,x::ds,0,d,h=>by
    unfold dS at h;simp at h;exact ⟨x,rfl,by rw [<- h];simp⟩
  | k,x::ds,i+1,d,h=>by
    unfold dS at h;rw [List.getElem?_cons_succ] at h;obtain ⟨y,h1,h2⟩:=qR h;refine ⟨y,by simpa using h1,?_⟩;rw [h2];have:k+1+i=k+(i+1):=by omega
    rw [this]
theorem Ac {K:PySem.W.Frag} {l:Addr} {b:Bool} {xs:List PyData}:yZ (Hu K l b) (fun H=>Bt H l xs b) (dS 0 xs) where
  go:=fun i H h1 hi=>by
    rw [hR] at hi;obtain ⟨vs,s1,r1⟩:=h1.sq (K:=K);obtain ⟨x,hx,_⟩:=r1.get (List.getElem?_eq_getElem hi);exact ⟨vs,x,s1,hx⟩
  yld:=fun i H v H' d h1 hd h=>by
    obtain ⟨a,x,ha,rfl,rfl,k1⟩:=h;obtain ⟨vs,s1,r1⟩:=h1.sq (K:=K);obtain ⟨dx,e1,rfl⟩:=qR hd;obtain ⟨x',hx,px⟩:=r1.get e1;have q1:=k1 vs s1;rw [hx] at q1;cases q1;refine ⟨cT ha _,e9 ha (bD.cons ?_ (bD.cons px bD.nil))⟩;rw [Nat.zero_add];exact dG
  stop:=fun i H h1 hi=>by
    rw [hR] at hi;obtain ⟨vs,s1,r1⟩:=h1.sq (K:=K);have l1:=r1.length;exact ⟨vs,s1,by omega⟩
section
variable {X:Cx} {elts:List Expr} {x1:Nat} {tp:Pos} {a b:Expr} {fa fb:Fe} {pos p:Pos} {nl:Nat} {G:List Str} {fs:aW->R (List PyData)}
noncomputable def IW (K:PySem.W.Frag) (ta:TA):TI:=fun σ H R=>ta σ H fun vs H1=>∃ l xs b,vs=[.ref l]/\tH K H1 l xs b/\R (Hu K l b) H1
theorem Cr {ta:TA} (hg:Gl X "enumerate") (hm:X.mg "enumerate" = none) (ha:PA X [a] ta) (hs:starEach [a] X.env=[(false,eval a X.env)]):PI X (.Tuple elts x1 tp) (.Call (.Name "enumerate" p) [a] [] pos) (IW X.K ta):=by
  intro pins s σ H R I h;refine Call_ (km I hg hm boot_enumerate (PyProof.Rows.callWith_type1 (dM (ha pos pins s σ H _ I h) fun us s1 zq0=>?_) hs rfl));obtain ⟨vs,H1,I1,r1,q1⟩:=zq0;obtain ⟨l,xs,b,e,h1,q⟩:=q1;subst e;obtain ⟨u,rfl,ru⟩:=ir r1;cases ru;obtain ⟨its,w1,p1,g1⟩:=jv I1 h1;have ll:l < s1.heap.objs.size:=by rcases p1 with ⟨o,e,_⟩ | ⟨o,e,_⟩ <;> exact Heap.lt_size e
  refine xT p1 fun h' hz S kp=>wpAny_pyIter_enum hz ?_
  have I2:aS X pins σ H1 { s1 with heap:=h' }:=I1.kept (t':=s1.toks) kp;have i2:gO h' s1.heap.objs.size l 0 b:=S.toB (pO I1 h1 kp);refine ⟨_,[s1.heap.objs.size+1,s1.heap.objs.size],_,_,H1,rfl,I2,yP (b:=b) (Nat.ne_of_gt (Nat.lt_succ_self _)) (Nat.ne_of_lt (Nat.lt_succ_of_lt ll)) (Nat.ne_of_lt ll),⟨⟨_,hz⟩,i2⟩,fun a ha=>?_,q⟩;have hle:s1.heap.objs.size<=a:=by
    simp only [List.mem_cons,List.not_mem_nil,or_false] at ha;rcases ha with rfl | rfl
    · exact Nat.le_add_right _ 1
    · exact Nat.le_refl _
  exact I1.fpOk hle (I1.hok.fresh hle)
noncomputable def pJ (fa:Fe):aW->R (List PyData):=fun ρ=>fa ρ>>=fun x=>jL x>>=fun xs=>.ok (dS 0 xs)
theorem kG (T:Tb X nl G) (j:Nat) (hG:G[j]?=some ("enumerate" : Str)) (hm:X.mg "enumerate" = none) (ha:Z.cU X a fa) (h1:bh a=true:=by rfl):Z.tm X (.Tuple elts x1 tp) (.Call (.Name "enumerate" p) [a] [] pos) (pJ fa):=⟨have ha:=ha.un;by
  have g:=T.gl _ (List.mem_of_getElem? hG);refine PI.imp (Cr g.1 hm (kK ha pD h1) (by rw [bP h1];rfl)) fun σ H Rk h=>?_
  obtain ⟨ρ,sl,q⟩:=h;unfold pJ at q;refine ⟨ρ,sl,?_⟩;unfold ah az;cases e1:fa ρ with
  | ex c=>rw [e1] at q;exact q
  | no=>rw [e1] at q;exact q
  | ok x =>
    rw [e1] at q;simp only [R.ok_bind] at q ⊢;cases e3:jL x with
    | ex c=>exact absurd e3 (by cases x <;> simp [jL])
    | no=>rw [e3] at q;exact q.elim
    | ok xs =>
      rw [e3] at q;simp only [R.ok_bind] at q;intro vs H1 s1 ra;simp only [RA] at ra;obtain ⟨v,r',rfl,p1,rfl⟩:=ra;obtain ⟨l,b1,rfl,d1⟩:=vX p1 e3;obtain ⟨us,u1,_⟩:=d1.sq (K:=X.K);exact ⟨l,us,b1,rfl,u1,q _ H1 s1 ⟨_,Ac,fun H2 k _=>d1.kp k⟩⟩⟩
end
noncomputable def Be:List PyData->List PyData->List PyData->List PyData
  | x::xs,y::ys,z::zs=>.tuple [x,y,z]::Be xs ys zs
  | _,_,_=>[]
section
variable {X:Cx} {elts:List Expr} {x1:Nat} {tp:Pos} {a b c:Expr} {fa fb fc:Fe} {pos p:Pos} {nl:Nat} {G:List Str} {fs:aW->R (List PyData)}
noncomputable def wc:PyData->R (List PyData)
  | .tuple ds=>.ok ds
  | _=>.no
noncomputable def FT (fa fb fc:Fe):aW->R (List PyData):=fun ρ=>fa ρ>>=fun x=>fb ρ>>=fun y=>fc ρ>>=fun z=>wc x>>=fun xs=>wc y>>=fun ys=>wc z>>=fun zs=>.ok (Be xs ys zs)
end
section
variable {X:Cx} {nl:Nat} {G:List Str} {x:Str} {e:Expr} {f:Fe} {q1 q2 q3 q4:Pos}
theorem gz (T:Tb X nl G) (n:Nat) (hN:X.N[n]?=some x) (he:Z.cU X e f) (hst:bh e=true:=by rfl) (hline:(q2.endLine==q3.line)=true:=by rfl) (hs:swapsWith (.Call (.Attribute (.Name x q1) "append" q2) [e] [] q3) none q4.line X.env=pure false:=by rfl) (hbase:attributeBase (.Name x q1) "append" X.env (eval (.Name x q1) X.env)=eval (.Name x q1) X.env:=by rfl):Z.kW X (.Expr (.Call (.Attribute (.Name x q1) "append" q2) [e] [] q3) q4) (eB n f):=⟨have he:=he.un;fun Fm=>by
  have hm:=T.vis x (List.mem_of_getElem? hN);have sc:starEach [e] X.env=(false,eval e X.env)::starEach [] X.env:=bP hst;refine PS.imp (Cw (F7 PySem.F.plainAttrs_list PySem.F.slot_list_append PySem.F.type_list_append rb (iU hN hm.1 hm.2.1 hm.2.2) (kK he pD hst) hbase (by rw [sc];rfl) hline sc rfl) hs) fun D σ H h=>?_
  obtain ⟨ρ,sl,q⟩:=h;unfold eB at q;cases ef:f ρ with
  | ex c=>rw [ef] at q;exact q.elim
  | no=>rw [ef] at q;exact q.elim
  | ok d =>
    rw [ef] at q;simp only [lf,R.ok_bind] at q;cases er:ρ[n]? with
    | none=>rw [er] at q;exact q.elim
    | some c =>
      rw [er] at q;cases c with
      | non=>exact q.elim
      | exc p=>exact q.elim
      | val d'=>exact q.elim
      | own d' =>
        cases d' with
        | list ds =>
          dsimp only at q;by_cases hz:ds.length < sizeLine
          · rw [if_pos hz] at q;obtain ⟨o,h2,w',rfl,p2⟩:=sl.sl.at er;simp only [jl] at p2;obtain ⟨a',vs,rfl,ha,r⟩:=p2;refine ⟨.ref a',h2,.inl ⟨rfl,_,n6.of ha⟩,ρ,sl.sl,?_⟩;unfold ah az;rw [ef];intro us H1 s1 ra;simp only [RA] at ra;obtain ⟨v,r',rfl,p1,rfl⟩:=ra;have ha1:=s1 _ _ ha;refine ⟨a',vs,v,rfl,rfl,ha1,by rw [r.length];exact hz,q _ _ ((sl.mono s1).change er h2 ha1 (.inl ⟨_,rfl⟩) ?_)⟩;simp only [jl];exact ⟨a',_,rfl,bq,bD.kp (gL ha1 (.inl ⟨_,rfl⟩)) _ _ (bD.append (r.mono s1) (bD.cons p1 bD.nil))⟩
          · rw [if_neg hz] at q;exact q.elim
        | _=>exact q.elim⟩
end
noncomputable def gW (g:Fs):Fs:=fun ρ=>lf (g ρ)
theorem Tb.nox {X:Cx} {nl:Nat} {G:List Str} (T:Tb X nl G):Tb X.nox nl G:=⟨T.hu,T.calm,T.nd,T.vis,T.loc,T.gl⟩
section
variable {X:Cx} {nl:Nat} {G:List Str} {st:Stmt} {g:Fs} {pos:Pos}
theorem cD (h:Z.kW X.nox st g):Z.kW X st (gW g):=⟨have h:=h.un;fun Fm=>by
  intro pins s σ H D I ⟨ρ,sl,q⟩;refine wpAny_mono (h Fm pins s σ H D (I.wish _) ⟨ρ,sl,?_⟩) (fun _ _ q=>q.unwish) fun _ _ z=>False.elim z
  unfold gW at q;cases e:g ρ with
  | ok o =>
    rw [e] at q;cases o <;> exact q
  | ex c=>rw [e] at q;exact q.elim
  | no=>rw [e] at q;exact q.elim⟩
noncomputable def cW (t:aW->R Bool) (g:Fs):Nat->Fs
  | 0,_=>.no
  | n+1,ρ=>t ρ>>=fun b=>if b=true then g ρ>>=fun o=>(match o with
      | .nx ρ2=>cW t g n ρ2
      | .ct ρ2=>cW t g n ρ2
      | .bk ρ2=>.ok (.nx ρ2)
      | .rt r=>.ok (.rt r)) else .ok (.nx ρ)
noncomputable def p9 (n:Nat) (t:aW->R Bool) (g:Fs):Fs:=cW t g n
theorem jo {c:Expr} {body:List Stmt} {t:aW->R Bool} (n:Nat) (hp:PassesOwn (model X.prog X.w) X.A X.env X.xe) (ht:Z.oI X c t) (hb:Z.nq X body g):Z.kW X (.While c body [] pos) (p9 n t g):=⟨have ht:=ht.un;have hb:=hb.un;fun Fm=>by
  refine PS.imp (AE hp ht (hb Fm)) fun D σ H ⟨ρ,sl,q⟩=>⟨fun m σ' H'=>∃ ρ',iZ Fm H' σ' ρ'/\Bk X Fm (cW t g m ρ') D,⟨n,ρ,sl,q⟩,fun m σ1 H1 zq0=>?_⟩
  obtain ⟨ρ1,sl1,q1⟩:=zq0;cases m with
  | zero=>exact q1.elim
  | succ k =>
    have q2:Dw X Fm (fun ρ=>t ρ>>=fun b=>if b=true then g ρ>>=fun o=>(match o with
      | .nx ρ2=>cW t g k ρ2
      | .ct ρ2=>cW t g k ρ2
      | .bk ρ2=>.ok (.nx ρ2)
      | .rt r=>.ok (.rt r)) else .ok (.nx ρ)) D σ1 H1:=⟨ρ1,sl1,q1⟩
    refine (wA (f:=t) (k:=fun ρ b=>if b=true then g ρ>>=fun o=>(match o with
      | .nx ρ2=>cW t g k ρ2
      | .ct ρ2=>cW t g k ρ2
      | .bk ρ2=>.ok (.nx ρ2)
      | .rt r=>.ok (.rt r)) else .ok (.nx ρ)) q2).post fun b H2 ⟨ρ2,sl2,_,q3⟩=>?_
    cases b with
    | false=>exact q3 σ1 H2 sl2
    | true =>
      have q4:Bk X Fm (g ρ2>>=fun o=>(match o with
      | .nx ρ2=>cW t g k ρ2
      | .ct ρ2=>cW t g k ρ2
      | .bk ρ2=>.ok (.nx ρ2)
      | .rt r=>.ok (.rt r))) D:=q3
      show if true=true then _ else _
      rw [if_pos rfl];refine ⟨fun σ' H'=>∃ ρ',iZ Fm H' σ' ρ'/\Bk X Fm (cW t g k ρ') D,fun σ' H' z=>⟨k,Nat.lt_succ_self k,z⟩,ρ2,sl2,?_⟩;cases eg:g ρ2 with
      | ex c=>rw [eg] at q4;exact q4
      | no=>rw [eg] at q4;exact q4
      | ok o =>
        rw [eg] at q4;cases o with
        | nx ρ4=>exact fun σ' H' s'=>⟨ρ4,s',q4⟩
        | ct ρ4=>exact fun σ' H' s'=>⟨ρ4,s',q4⟩
        | bk ρ4=>exact q4
        | rt r=>exact q4⟩
end
abbrev tV:List Value:=[.type "ValueError",.type "Exception",.type "BaseException",.type "object"]
abbrev sT:String := "ValueError.__new__"
section
variable {K:PySem.W.Frag} {h:Heap} {C:Addr}
inductive qF (h:Heap) (C:Addr) (bm:List Value):Prop
  | mk (N nm q bs hdct sn sub ab col dd k0 k1 k2 k3 k5 mN) (e:h.get? C=some (excClassObj nm q C N bs bm hdct sn sub ab col dd k0 k1 k2 k3 k5 sT)) (n:h.Ns N mN) (i:mN "__init__" = none) (t:OwnTail h tV bm)
theorem qF.keep {h':Heap} {bm:List Value} (c:qF h C bm) (k:∀ b o,h.get? b=some o->h'.get? b=some o):qF h' C bm :=
  let ⟨N,nm,q,bs,hdct,sn,sub,ab,col,dd,k0,k1,k2,k3,k5,mN,hC,hN,hni,T⟩:=c
  ⟨N,nm,q,bs,hdct,sn,sub,ab,col,dd,k0,k1,k2,k3,k5,mN,k _ _ hC,hN.keeps k,hni,T.keeps k⟩
noncomputable def gf (K:PySem.W.Frag) (C:Addr):List Value:=match K.lookup C with
  | some ⟨_,_,.cls cd,_⟩=>cd.mro.drop 1
  | _=>[]
theorem pB (X:K.In h) (q:PySem.W.excIn K C tV sT=true):qF h C (gf K C):=by
  unfold PySem.W.excIn at q;unfold gf;cases hk:K.lookup C with
  | none=>rw [hk] at q;cases q
  | some ob =>
    rw [hk] at q;split at q
    · rename_i dd cd sl ho;cases ho;split at q
      · rename_i C' bm k0 k1 k2 k3 n k5 hm hs;simp only [Bool.not_eq_true',beq_iff_eq,Bool.and_eq_true] at q;obtain ⟨⟨⟨⟨⟨e1,e2⟩,hdel⟩,ht⟩,hok⟩,hni⟩:=q;subst e1;subst e2;obtain ⟨nm,bs,mro,ns,qn,hd,sn,sub,ab,col,del⟩:=cd;dsimp only at hm hdel hok hni ⊢;subst hm;subst hdel;have hsl:sl=#[k0,k1,k2,k3,some (.builtin sT),k5]:=by
          obtain ⟨l⟩:=sl;simp only at hs;rw [hs]
        subst hsl;exact ⟨ns,nm,qn,bs,hd,sn,sub,ab,col,dd,k0,k1,k2,k3,k5,_,X _ _ hk,.of_isNs (PySem.W.isNs_of_in X hok),PySem.W.nsMap_none_of_in X hok hni,PySem.W.tail_of_in X ht⟩
      · cases q
    · cases q
end
noncomputable def sM (x:Str) (f:Fe):Fs:=fun ρ=>lf (f ρ)>>=fun _=>.ex x
section
variable {X:Cx} {nl:Nat} {G:List Str} {x:Str} {e:Expr} {f:Fe} {np cp pos:Pos} {C:Addr}
theorem pd (T:Tb X nl G) (j:Nat) (hG:G[j]?=some x) (hm:X.mg x=some (.ref C)) (hq:PySem.W.excIn X.K C tV sT=true) (he:Z.cU X.nox e f) (hst:bh e=true:=by rfl):Z.kW X (.Raise (some (.Call (.Name x np) [e] [] cp)) none pos) (sM x f):=⟨have he:=he.un;fun Fm=>by
  intro pins s σ H D I ⟨ρ,sl,q⟩;have hg:=T.gl x (List.mem_of_getElem? hG);have sc:starEach [e] X.env=(false,eval e X.env)::starEach [] X.env:=bP hst;obtain ⟨N,nm,qn,bs,hdct,sn,sub,ab,col,dd,k0,k1,k2,k3,k5,mN,hC,hN,hni,TL⟩:=pB (I.ok.mod.kin) hq;unfold sM at q;cases ef:f ρ with
  | ex c=>rw [ef] at q;exact q.elim
  | no=>rw [ef] at q;exact q.elim
  | ok d =>
    rw [ef] at q;simp only [lf,R.ok_bind] at q;refine wpAny_Raise_call_subT (C:=C) (nm:=nm) (q:=qn) (N:=N) (bs:=bs) (bm:=gf X.K C) (hdct:=hdct) (sn:=sn) (sub:=sub) (ab:=ab) (col:=col) (dd:=dd) (k0:=k0) (k1:=k1) (k2:=k2) (k3:=k3) (k5:=k5) PySem.F.excBase_ValueError (mN:=mN) (TL.hasType rfl) (I.ok.hd T.calm) (by rw [sc];rfl) hni (mF I hg.1 hm ⟨rfl,?_⟩ hg.2.1);rw [sc];refine Calls.evalArgs_plain (wpAny_mono ?_ (fun vs s2 z=>⟨rfl,z⟩) fun _ _ y=>y);have ha:PA X.nox [e] (AJ X.nox Rp (ah f az)):=kK he pD hst;have hw:=ha cp pins s σ H (fun vs H'=>vs.length=1/\aM H H') (I.wish _) ⟨ρ,sl.sl,by
      unfold ah az;rw [ef];intro vs H' s' ra;simp only [RA] at ra;obtain ⟨v,r,rfl,_,rfl⟩:=ra;exact ⟨rfl,s'⟩⟩
    rw [show (X.nox.env)=X.env from rfl,sc] at hw;refine wpAny_mono hw (fun us s2 zq0=>?_) fun _ _ z=>False.elim z
    obtain ⟨vs,H2,I2,r2,hl,s12⟩:=zq0;have I2:=I2.unwish;have hlen:us.length=1:=by rw [<- r2.length];exact hl
    exact ⟨by rw [hlen];decide,I2.bk _ _ hC,hN.keeps I2.bk,TL.keeps I2.bk,fun h' p mk=>q.2 C hm pins σ H2 s2 (sl.fm.trans s12) I2 h' p us mk⟩⟩
end
section
variable {P:Program} {w:World} {l:List Env} {H H':Hp} {s s':Shared} {C p:Addr} {e:Value}
theorem n5.again {a0:Value} {B h':Heap} (f:n5 P w l H s C H' e s') (fly:Heap.FlyingW B l p (.ref C) a0 s'.heap) (fly':Heap.FlyingW B l p (.ref C) a0 h') (up:s'.heap.UpToSlots h') (okB:iO P w H' B) (hp:H' p=none)
    (cov:∀ b o,s.heap.get? b=some o->H b=none->b∉lS l->B.get? b=some o/\H' b=none):n5 P w l H s C H' (.ref p) { s' with heap:=h' }:=by
  refine ⟨f.os,f.bare,f.same,⟨p,a0,B,rfl,fly',okB,hp,cov⟩,fun b o q n hb=>?_⟩;obtain ⟨⟨sl,q2⟩,n2⟩:=f.slot b o q n hb;obtain ⟨_,o3,q3,nf⟩:=fly.2.2.1.mem hb;rw [q2] at q3;cases q3;obtain ⟨sl3,q4⟩:=up b _ q2 nf;exact ⟨⟨sl3,q4⟩,n2⟩
theorem n5.land {M:Model} {A:Around} {E:Value->Shared->Prop} {Q:Unit->Shared->Prop} (f:n5 P w l H s C H' (.ref p) s') (k:∀ h',n5 P w l H s C H' (.ref p) { s' with heap:=h' }->Q () { s' with heap:=h' }):wpAny M A (setFlight (.ref p) none) Q E s':=by
  obtain ⟨p',a0,B,ep,fly,okB,hp,cov⟩:=f.ex;cases ep;exact lands_againW fly fun h' fly' up=>k h' (f.again fly fly' up okB hp cov)
theorem n5.look {M:Model} {A:Around} {E:Value->Shared->Prop} {Q:Unit->Shared->Prop} {env:Env} {outer:List Env} {L:Addr} (f:n5 P w (env::outer) H s C H' e s') (hfr:A.frames=some (env::outer)) (hf:env.frame=some L)
    (k:∀ p h',e=.ref p->n5 P w (env::outer) H s C H' (.ref p) { s' with heap:=h' }->Q () { s' with heap:=h' }):wpAny M A (noteFrame e env) (fun _ s2=>wpAny M A (setFlight e none) Q E s2) E s':=by
  obtain ⟨p,a0,B,rfl,fly,okB,hp,cov⟩:=f.ex;refine wpAny_looks_onW hfr hf fly fun h4 held up4=>?_
  exact wpAny_landsW (s:={ s' with heap:=h4 }) held fun h5 fly5 up5=>k p h5 rfl (f.again fly fly5 (up4.trans up5) okB hp cov)
theorem n5.obj (f:n5 P w l H s C H' (.ref p) s'):∃ ob vs,s'.heap.get? p=some ob/\ob.cls=.ref C/\ob.data=.fields vs/\H' p=none/\p∉lS l:=by
  obtain ⟨p',a0,B,ep,fly,okB,hp,cov⟩:=f.ex;cases ep;obtain ⟨oe,ws,h1,h2,h3,_⟩:=fly.first;refine ⟨oe,ws,h1,h2,h3,hp,fun hm=>?_⟩;obtain ⟨_,o,ho,hnf⟩:=fly.2.2.1.mem hm;rw [h1] at ho;cases ho;exact hnf ws h3
end
theorem n5.inv {X:Cx} {pins:List (Addr×Obj)} {σ:St} {Hc H1:Hp} {sc s':Shared} {C:Addr} {e:Value} (f:n5 X.prog X.w X.stack Hc sc C H1 e s') (I:aS X pins σ Hc sc):aS X pins σ H1 s' :=
  I.call' f.os f.un f.hok f.bare fun b z=>absurd z (by simp)
noncomputable def Xh (X:Cx) (p:Addr) (ob:Obj):Cx:={ X with A:=X.A.mark (some (.ref p)),calm:=false,xe:=fun _ _=>False,pn:=(p,ob)::X.pn }
section
variable {X:Cx} {pins:List (Addr×Obj)} {σ:St} {H:Hp} {s:Shared} {p:Addr} {ob:Obj}
theorem z9 (I:aS X pins σ H s) (hp:s.heap.get? p=some ob) (hn:H p=none) (hl:p≠X.env.locals) (hf:p∉X.fs) (hc:∀ v,ob.data≠.cell v):aS (Xh X p ob) pins σ H s:=by
  refine ⟨⟨I.ok.mod,I.ok.kind,I.ok.glob,I.ok.blt,I.ok.above,I.ok.inj,I.ok.has,I.ok.cab,fun z=>(by cases z),I.ok.frames,I.ok.stk,I.ok.exf,I.ok.bs,I.ok.bsz,I.ok.noex,I.ok.exfs,I.ok.funs,I.ok.frf⟩,I.os,I.bare,I.base,I.loc,I.cell,I.free,I.freeC,fun q hq=>?_,I.hok,I.len⟩;have hq':q∈(p,ob)::(X.pn++pins):=hq;rcases List.mem_cons.mp hq' with rfl | z
  · exact ⟨hp,hn,hl,hf,hc⟩
  · exact I.pin q z
theorem vB (ok:X.Ok) (I:aS (Xh X p ob) pins σ H s):aS X pins σ H s :=
  ⟨ok,I.os,I.bare,I.base,I.loc,I.cell,I.free,I.freeC,fun q hq=>I.pin q (List.mem_cons_of_mem _ hq),I.hok,I.len⟩
end
structure G7 (X:Cx) (nl:Nat) (G:List Str):Prop where
  hu:X.A.units+64 < cLine
  nd:X.N.Nodup
  vis:∀ x∈X.N,DM X.env.scope x/\(x==("__debug__" : Str))=false/\(x==("__classdict__" : Str))=false
  loc:∀ x∈X.N.take nl,Dc X.env.scope x/\(X.fn x=true\/X.env.scope.names.lookup x=some .local)
  gl:∀ x∈G,Gl X x/\(x==("__debug__" : Str))=false/\x≠("__name__" : Str)
theorem Tb.h {X:Cx} {nl:Nat} {G:List Str} (T:Tb X nl G) (p:Addr) (ob:Obj):G7 (Xh X p ob) nl G:=⟨T.hu,T.nd,T.vis,T.loc,T.gl⟩
section
variable {M:Model} {A:Around} {E:Value->Shared->Prop} {s:Shared} {C C2 p:Addr} {bm bm2:List Value} {ob:Obj} {Q:Bool->Shared->Prop}
theorem yc (hC:qF s.heap C bm) (hC2:qF s.heap C2 bm2) (he:s.heap.get? p=some ob) (hc:ob.cls=.ref C) (h:Q ((Value.ref C::bm).contains (.ref C2)) s):wpAny M A (excMatches (.ref p) (.ref C2)) Q E s:=by
  obtain ⟨N,nm,qn,bs,hdct,sn,sub,ab,col,dd,k0,k1,k2,k3,k5,mN,hC,hN,hni,TL⟩:=hC;obtain ⟨N',nm',qn',bs',hdct',sn',sub',ab',col',dd',k0',k1',k2',k3',k5',mN',hC2,hN',hni',TL'⟩:=hC2;obtain ⟨hp,g,d,tk,os⟩:=s;have hb2:(Value.ref C2::bm2).contains (.type "BaseException")=true:=by rw [List.contains_cons,show bm2.contains (.type "BaseException")=true from TL'.hasType (by decide),Bool.or_true]
  have f:=tc_notTuple;unfold excMatches
  repeat (first | (with_reducible refine wpAny_loadPart_at he ?_;rw [hc]) | with_reducible refine wpAny_loadPart_at hC2 ?_ | (with_reducible refine wpAny_isSubtype_exc hC2 ?_;rw [hb2]) | with_reducible refine wpAny_isSubtype_exc hC ?_ | wp_step)
  cases hb:(Value.ref C::bm).contains (.ref C2) with
  | true=>rw [hb] at h;wp_walk;exact h
  | false=>rw [hb] at h;wp_walk;exact h
end
section
variable {K:PySem.W.Frag} {x t:Value} {Hh:Heap->Prop}
theorem BY {c:Value} (ty:∀ (M:Model) (h:Heap),K.In h->Hh h->PySem.W.Looks M h (typeOf x) t) (e:PySem.W.kitOne K t c=some true):Answers (fun s=>K.In s.heap/\Hh s.heap) x c true:=by
  intro dep tk prog w A R s hs;obtain ⟨h0,g,d,tt,os⟩:=s;obtain ⟨⟨X,p⟩,hq⟩:=hs;have look:=ty (model prog w) h0 X p;unfold PySem.W.kitOne at e;unfold Builtin.«isinstance.nested»;refine wpAny_bind (look.at ?_);by_cases q:(t==c)=true
  · rw [if_pos q];exact wpAny_bind (wpAny_rule (wpAny_pure (hq tt)))
  · rw [if_neg q] at e;rw [if_neg q];obtain ⟨hty,his,hsub⟩:=PySem.W.kit_cls (M:=model prog w) X e;have both:PySem.W.Looks (model prog w) h0 (isInstance x c) true:=look.andThen hsub;refine wpAny_bind (hty.at ?_);rw [if_pos (by decide)]
    k_delta "plainIsInstance"
    refine wpAny_bind (wpAny_bind (his.at ?_));simp only [if_false,Bool.false_eq_true,Bool.not_true];refine wpAny_bind (both.at ?_)
    first | exact wpAny_pure (wpAny_pure (hq tt)) | (simp only [if_true];exact wpAny_pure (wpAny_pure (hq tt))) | (simp only [if_true];exact wpAny_pure (hq tt)) | exact wpAny_bind (wpAny_pure (wpAny_pure (hq tt)))
end
noncomputable def pC (i:Nat) (p:Addr):Fe:=fun ρ=>match ρ[i]? with
  | some (.exc q)=>if q=p then .ok (.bool true) else .no
  | _=>.no
section
variable {X:Cx} {nl:Nat} {G:List Str} {p C C2:Addr} {ob:Obj} {n cx:Str} {pi pe pc pos:Pos}
theorem zt (hp:(p,ob)∈X.pn) (hc:ob.cls=.ref C):eD X (.builtin "isinstance") (fun xs H Q=>∃ cv,xs=[.ref p,cv]/\(∀ u,bW cv u->PySem.W.kitOne X.K (.ref C) u=some true)/\Q (.bl true) H):=by
  intro pins s σ H xs us Q I r h;obtain ⟨cv,rfl,hk,q⟩:=h;obtain ⟨u,v,rfl,rx,ry⟩:=uN r;cases rx;have pin:=(I.pin (p,ob) (List.mem_append_left _ hp)).1;refine call_isinstance (S:=fun _ R s=>(X.K.In s.heap/\s.heap.get? p=some ob)/\∀ tk,R (.ok (.ret (.bool true))) { s with toks:=tk })
    (fun prog w A R s hs=>isinstance_outer (BY (K:=X.K) (x:=.ref p) (t:=.ref C) (Hh:=fun h=>h.get? p=some ob) (fun M h _ hp=>hc ▸ (PySem.W.Looks.ld hp).andThen .now) (hk _ ry) 0 _ prog w A R s hs) (fun z=>nomatch z)) ⟨⟨I.kIn,pin⟩,fun tk=>⟨.bl true,H,I.tok tk,rfl,q⟩⟩
theorem D7 {i:Nat} {σ:St} {H:Hp} {Q:VK} (h:jQ X ia (pC i p) σ H Q):σ[i]?=some (some (.ref p))/\Q (.bl true) H:=by
  obtain ⟨ρ,sl,q⟩:=h;unfold pC at q;split at q
  · rename_i q' e;split at q
    · rename_i e';subst e';obtain ⟨o,h1,h2⟩:=sl.at e;have h2':o=some (.ref q'):=h2;subst h2';exact ⟨h1,q _ H (aM.refl _) ft⟩
    · exact q.elim
  · exact q.elim
theorem tK (T:G7 X nl G) (hp:(p,ob)∈X.pn) (hc:ob.cls=.ref C) (i:Nat) (hN:X.N[i]?=some n) (j:Nat) (hG:G[j]?=some ("isinstance" : Str)) (hm:X.mg "isinstance" = none) (j':Nat) (hG':G[j']?=some cx) (hm':X.mg cx=some (.ref C2)) (hk:PySem.W.kitOne X.K (.ref C) (.ref C2)=some true):Z.cU X (.Call (.Name "isinstance" pi) [.Name n pe,.Name cx pc] [] pos) (pC i p):=⟨by
  have g:=T.gl _ (List.mem_of_getElem? hG);have g':=T.gl _ (List.mem_of_getElem? hG');have v:=T.vis n (List.mem_of_getElem? hN);have h1:PE X (.Name n pe) (E1 i):=iU hN v.1 v.2.1 v.2.2;have h2:PE X (.Name cx pc) (tC (.ref C2)):=xh g'.1 hm' rfl g'.2.1;refine PE.imp (mH (zt hp hc) g.1 hm PyProof.Rows.boot_isinstance (mG h1 (mG h2 vO)) g.2.2 g.2.1) fun σ H Q h=>?_
  obtain ⟨a,b⟩:=D7 h;exact ⟨_,a,.ref C2,rfl,fun u r=>by cases r;exact hk,b⟩⟩
end
noncomputable def Fk (X:Cx) (C:Addr) (hs:List ExceptHandler) (F:Addr->aW->R PyData):Prop :=
  ∀ (pins:List (Addr×Obj)) (σ:St) (Hc H:Hp) (sc s:Shared) (p:Addr) (Fm:Hp) (ρ:aW) (D:rG),aS X pins σ Hc sc->n5 X.prog X.w X.stack Hc sc C H (.ref p) s->iZ Fm H σ ρ ->
    (match F p ρ with
      | .ok d=>∀ v H',aM Fm H'->Rp H' d v->D.rt v H'
      | _=>False)->wpAny (model X.prog X.w) X.A (handleBy (.ref p) X.env hs) (SP X pins D) X.xe s
section
variable {X:Cx} {nl:Nat} {G:List Str} {C C2:Addr} {n cx:Str} {np rp hp:Pos} {e:Expr} {eI:List ExceptHandler} {F:Addr->aW->R PyData} {f:Addr->Fe} {name:Option Str} {body:List Stmt}
theorem zx {pins:List (Addr×Obj)} {σ:St} {Hc H:Hp} {sc s:Shared} {p:Addr} {Q:Flow->Shared->Prop} {E:Value->Shared->Prop} (T:Tb X nl G) (j:Nat) (hG:G[j]?=some cx) (hm:X.mg cx=some (.ref C2)) (hq:PySem.W.excIn X.K C tV sT=true) (hq2:PySem.W.excIn X.K C2 tV sT=true)
    (I:aS X pins σ Hc sc) (fl:n5 X.prog X.w X.stack Hc sc C H (.ref p) s)
    (h:if (Value.ref C::gf X.K C).contains (.ref C2)=true then codeAny (model X.prog X.w) (X.A.mark (some (.ref p))) (.handlers (.ref p) [.ExceptHandler none name body hp] X.env) (fun r s₂=>match r with
          | .ok f=>(match name with
            | none=>Q f s₂
            | some n=>wpAny (model X.prog X.w) X.A (do bindName X.env n .none;unbindBehindTheSuite X.env n hp) (fun _ s₃=>Q f s₃) E s₂)
          | .error x=>cameBackBy (model X.prog X.w) X.A X.env E x s₂) s
      else wpAny (model X.prog X.w) X.A (handleBy (.ref p) X.env eI) Q E s) :
    wpAny (model X.prog X.w) X.A (handleBy (.ref p) X.env (.ExceptHandler (some (.Name cx np)) name body hp::eI)) Q E s:=by
  have I1:=fl.inv I;obtain ⟨ob,vs,ho,hcls,hd,hn,hfr⟩:=fl.obj;have g:=T.gl cx (List.mem_of_getElem? hG);have hl:X.A.frames=some X.stack:=I.ok.frames;refine wpAny_handleBy_cons (codeAny_handlers_test ?_) (by intro z;cases z);refine Calls.Name_function_global I1.ok.kind g.1 (Calls.loadGlobal_global (by rw [I1.ok.glob];exact I1.mod.glob.keeps I1.bk) hm ?_) g.2.1;refine yc ((pB I1.ok.mod.kin hq).keep I1.bk) ((pB I1.ok.mod.kin hq2).keep I1.bk) ho hcls ?_;cases hb:(Value.ref C::gf X.K C).contains (.ref C2) with
  | true=>rw [hb] at h;exact h
  | false=>rw [hb] at h;exact h
theorem BM (T:Tb X nl G) (j:Nat) (hG:G[j]?=some cx) (hm:X.mg cx=some (.ref C2)) (hq:PySem.W.excIn X.K C tV sT=true) (hq2:PySem.W.excIn X.K C2 tV sT=true) (hb:(Value.ref C::gf X.K C).contains (.ref C2)=false)
    (hr:Fk X C eI F):Fk X C (.ExceptHandler (some (.Name cx np)) name body hp::eI) F:=fun pins σ Hc H sc s p Fm ρ D I fl sl q=>by
  refine zx T j hG hm hq hq2 I fl ?_;rw [hb];exact hr pins σ Hc H sc s p Fm ρ D I fl sl q
end
theorem D0 {X:Cx} {pins:List (Addr×Obj)} {σ:St} {H:Hp} {s:Shared} {M:Model} {A:Around} {E:Value->Shared->Prop} {i:Nat} {x:Str} {v:V} {Q:Unit->Shared->Prop} (I:aS X pins σ H s) (hN:X.N.Nodup) (hi:X.N[i]?=some x) (hk:X.env.scope.names.lookup x=some .local)
    (hv:σ[i]?=some (some v)) (h:∀ s',aS X pins (σ.set i none) H s'->Q () s'):wpAny M A (unbindName X.env x) Q E s:=by
  obtain ⟨m,hn,hl⟩:=id I.loc;obtain ⟨u,ru,lk⟩:=hl i x v hi hv (.inl hk);have hm:m x=some u:=by
    rcases lk with ⟨_,z⟩ | ⟨k,_⟩
    · exact z
    · rcases k with k | k <;> (have k':X.env.scope.names.lookup x=_:=k;rw [hk] at k';cases k')
  have plain:(X.env.scope.kind==.class||(X.env.scope.kind==.module&&X.env.locals != X.env.globals))=false:=by rw [I.ok.kind];rfl
  refine wpAny_unbindName_local hk hn hm plain fun h' w' hn' sb=>h _ ?_
  obtain ⟨oL,_,_,hoL,_⟩:=id hn;have young:∀ b o,X.s₀.heap.get? b=some o->b≠X.env.locals:=fun b o q=>Nat.ne_of_lt (Nat.lt_of_lt_of_le (Heap.lt_size q) I.ok.above)
  refine ⟨I.ok,I.os,I.bare,⟨fun b o q n hb hx=>(sb.2 b (young b o q)).trans (I.base.keep b o q n hb hx),fun b o q n hb hx=>?_,I.base.free,fun b o q hx=>?_,I.base.tups,I.base.frzs,I.base.tbls⟩,⟨_,hn',fun j y v' q1 q2 q3=>?_⟩,fun y c q=>?_,I.free,I.freeC,fun p hp=>?_,fun b ob q=>?_,by simpa using I.len⟩
  · obtain ⟨sl,q1⟩:=I.base.slot b o q n hb hx;exact ⟨sl,(sb.2 b (young b o q)).trans q1⟩
  · obtain ⟨o',q1⟩:=I.base.there b o q hx;exact ⟨o',(sb.2 b (young b o q)).trans q1⟩
  · by_cases hj:i=j
    · subst hj;rw [List.getElem?_set,if_pos rfl] at q2;split at q2 <;> cases q2
    · rw [List.getElem?_set,if_neg hj] at q2;obtain ⟨u',r',z⟩:=hl j y v' q1 q2 q3;refine ⟨u',r',?_⟩;rcases z with ⟨k,z⟩ | ⟨k,c,z1,z2⟩
      · refine .inl ⟨k,?_⟩;have ne:y≠x:=fun t=>hj (pX hN hi (t ▸ q1))
        simp [ne,z]
      · exact .inr ⟨k,c,z1,z2.sameBut sb (I.cne y c z1)⟩
  · obtain ⟨w2,z⟩:=I.cell y c q;exact ⟨w2,z.sameBut sb (I.cne y c q)⟩
  · obtain ⟨q,n,ne,nf,d⟩:=I.pin p hp;exact ⟨(sb.2 p.1 ne).trans q,n,ne,nf,d⟩
  · refine (I.hok b ob q).stay (fun c w2 hc z=>(sb.2 c ?_).trans z) (fun _ z=>z) fun _ _ z=>z
    rintro rfl;rcases hc with rfl | hc
    · rw [I.free] at q;cases q
    · rw [I.free] at hc;cases hc
section
variable {X:Cx} {nl:Nat} {G:List Str} {C C2:Addr} {n cx:Str} {np rp hp:Pos} {e:Expr} {eI:List ExceptHandler} {f:Addr->Fe}
theorem ye {pins:List (Addr×Obj)} {σ:St} {Hc H:Hp} {sc s:Shared} {p:Addr} (I:aS X pins σ Hc sc) (fl:n5 X.prog X.w X.stack Hc sc C H (.ref p) s):∃ ob,s.heap.get? p=some ob/\ob.cls=.ref C/\aS (Xh X p ob) pins σ H s:=by
  have I1:=fl.inv I;obtain ⟨ob,vs,ho,hcls,hd,hn,hfr⟩:=fl.obj;refine ⟨ob,ho,hcls,z9 I1 ho hn (fun z=>?_) (fun z=>?_) (fun v z=>by rw [hd] at z;cases z)⟩
  · obtain ⟨m,⟨o,es,ep,q1,q2,_⟩,_⟩:=I1.loc;rw [<- z,ho] at q1;cases q1;rw [hd] at q2;cases q2
  · apply hfr;rcases I.ok.stk with e | ⟨e,_⟩
    · rw [e];exact z
    · rw [e];obtain ⟨env,he,hf⟩:=List.mem_filterMap.mp (show p∈X.outer.filterMap (·.frame) from z);exact List.mem_filterMap.mpr ⟨env,List.mem_cons_of_mem _ he,hf⟩
theorem uc (T:Tb X nl G) (j:Nat) (hG:G[j]?=some cx) (hm:X.mg cx=some (.ref C2)) (hq:PySem.W.excIn X.K C tV sT=true) (hq2:PySem.W.excIn X.K C2 tV sT=true) (hb:(Value.ref C::gf X.K C).contains (.ref C2)=true)
    (i:Nat) (hN:(X.N.take nl)[i]?=some n) (hk:X.env.scope.names.lookup n=some .local)
    (he:∀ p ob,ob.cls=.ref C->G7 (Xh X p ob) nl G->cU (Xh X p ob) e (f p)):Fk X C (.ExceptHandler (some (.Name cx np)) (some n) [.Return (some e) rp] hp::eI) (fun p ρ=>f p (ρ.set i (.exc p))):=fun pins σ Hc H sc s p Fm ρ D I fl sl q=>by
  obtain ⟨hi,hl,hf⟩:=T.nm hN;refine zx T j hG hm hq hq2 I fl ?_;rw [hb];refine codeAny_handlers_suite_as (fl.land fun h' fl'=>?_);obtain ⟨ob,ho,hcls,Ih⟩:=ye I fl';refine kC (X:=Xh X p ob) (v:=.ref p) Ih T.nd hi hl rfl (fun s2 I2=>?_) hf;dsimp only at q;have hi':i < σ.length:=by rw [I.len];exact (List.getElem?_eq_some_iff.mp hi).1
  cases ef:f p (ρ.set i (.exc p)) with
  | ex c=>rw [ef] at q;exact q.elim
  | no=>rw [ef] at q;exact q.elim
  | ok d =>
    rw [ef] at q;have sl2:Sl H (σ.set i (some (.ref p))) (ρ.set i (.exc p)):=Sl.set (c:=.exc p) (o:=some (.ref p)) sl.sl i rfl;have hw:=he p ob hcls (T.h p ob) pins _ (σ.set i (some (.ref p))) H (fun v H'=>aM H H'/\Rp H' d v) I2 ⟨_,sl2,by rw [ef];exact fun v H' s' r=>⟨s',r⟩⟩;refine wpAny_execs_cons (wpAny_Return_some (wpAny_mono hw (fun u s3 zq0=>?_) fun _ _ z=>False.elim z));obtain ⟨v,H3,I3,r3,s13,rp⟩:=zq0;have I4:=vB I.ok I3;show wpAny _ X.A (do bindName X.env n .none;unbindBehindTheSuite X.env n hp) _ _ s3;refine wpAny_bind (wpAny_bindName (kC (v:=.non) I4 T.nd hi hl rfl (fun s5 I5=>?_) hf));unfold unbindBehindTheSuite;refine wpAny_onRaise (D0 (v:=.non) I5 T.nd hi hk (by rw [List.getElem?_set,if_pos rfl,if_pos (by simpa using hi')]) fun s6 I6=>?_);exact ⟨v,_,H3,I6,r3,q v H3 (sl.fm.trans s13) rp⟩
end
open Classical in
noncomputable def yB (F:Addr->R PyData):R PyData:=if h:∃ r,∀ p,F p=r then h.choose else .no
theorem pY (r:R PyData):yB (fun _=>r)=r:=by
  have h:∃ r',∀ p:Addr,(fun _=>r) p=r':=⟨r,fun _=>rfl⟩
  unfold yB;rw [dif_pos h];exact (h.choose_spec 0).symm
theorem Cs {F:Addr->R PyData} {d:PyData} (h:yB F=.ok d) (p:Addr):F p=.ok d:=by
  unfold yB at h;split at h
  · rename_i q;rw [q.choose_spec p];exact h
  · cases h
noncomputable abbrev Hs:=List (Str×(Addr->aW->R PyData))
noncomputable def A3 (hs:Hs) (ρ:aW) (k:PyData->tq):R PyData->R tq
  | .ok d=>.ok (k d)
  | .no=>.no
  | .ex c=>match hs.lookup c with
    | some h=>lf (yB (fun p=>h p ρ))>>=fun d=>.ok (.rt d)
    | none=>.no
inductive o2 (X:Cx) (src:List ExceptHandler):Hs->Prop
  | nil:o2 X src []
  | cons {c:Str} {C:Addr} {h:Addr->aW->R PyData} {hs:Hs} (hm:X.mg c=some (.ref C)) (he:Fk X C src h) (r:o2 X src hs):o2 X src ((c,h)::hs)
theorem o2.at {X:Cx} {src:List ExceptHandler} {c:Str} {h:Addr->aW->R PyData}:∀ {hs:Hs},o2 X src hs->hs.lookup c=some h->∃ C,X.mg c=some (.ref C)/\Fk X C src h
  | _,.nil,e=>by cases e
  | _,.cons (c:=c') hm he r,e=>by
    rw [List.lookup_cons] at e;split at e
    · rename_i q;have:c=c':=by simpa using q
      subst this;cases e;exact ⟨_,hm,he⟩
    · exact o2.at r e
section
variable {X:Cx} {k n:Nat} {f:Addr} {fd:FuncData} {ps:List Str} {F:List PyData->R PyData} {x:Str} {p pos sp tp:Pos} {e:Expr} {es:List Expr} {fs:aW->R (List PyData)} {nl:Nat} {G:List Str}
theorem A4 {pins:List (Addr×Obj)} {σ:St} {H:Hp} {s:Shared} {ρ:aW} {ds:List PyData} {Qv:Value->Shared->Prop} {Ev:Value->Shared->Prop}
    (C:bd X.prog X.w X.K X.mg X.base (cS X.prog X.w X.mg) k f fd ps (dC F n)) (hr:fG k X.A) (T:Tb X nl G) (j:Nat) (hG:G[j]?=some x) (hm:X.mg x=some (.ref f)) (hk:PySem.W.keepIn X.K (.ref f)=true) (hb:bz X.K fd ps []) (ha:tj X.nox (e::es) fs)
    (hfs:∀ ρ ds,fs ρ=.ok ds->ds.length=n) (he:(e::es).all bh=true) (I:aS X pins σ H s) (sl:Sl H σ ρ) (efs:fs ρ=.ok ds) (hno:F ds≠.no)
    (hok:∀ d,F ds=.ok d->∀ v u H' s',aS X pins σ H' s'->aM H H'->Rp H' d v->bW v u->Qv u s')
    (hex:∀ c,F ds=.ex c->∀ C Hc sc H1 e s',X.mg c=some (.ref C)->aS X pins σ Hc sc->aM H Hc->n5 X.prog X.w X.stack Hc sc C H1 e s'->Ev e s') :
    wpAny (model X.prog X.w) X.A (eval (.Call (.Name x p) (e::es) [] pos) X.env) Qv Ev s:=by
  rw [List.all_cons,Bool.and_eq_true] at he;have g:=T.gl x (List.mem_of_getElem? hG);refine wpAny_Call_Name_kw (mF I g.1 hm ?_ g.2.1);have hw:=ha pos pins s σ H (fun vs H'=>aM H H'/\RA Rp H' ds vs) (I.wish _) ⟨ρ,sl,by rw [efs];exact fun vs H' s' r=>⟨s',r⟩⟩;refine PySem.W.callWith_K (h₀:=X.base) I.ok.mod.kin hk (wpAny_mono hw (fun us s1 ⟨vs,H1,I1,r,s1',ra⟩=>⟨I1.unwish.kIn,?_⟩) fun _ _ z=>False.elim z) (bP he.1) (mU he.2);have I1:=I1.unwish;have ra':=nT.mp ra;have hsp:dC F n vs H1 (fun v H'=>aM H1 H'/\∃ d,F ds=.ok d/\Rp H' d v) (fun v _ H'=>∃ c,F ds=.ex c/\v=.str c 0):=by
    refine ⟨ds,ra',hfs ρ ds efs,?_⟩;cases ef:F ds with
    | ok d=>exact fun v H' s' r=>⟨s',d,rfl,r⟩
    | ex c=>exact fun H' s'=>⟨c,rfl,rfl⟩
    | no=>exact absurd ef hno
  have hl:(us++[]).length=ps.length:=by rw [List.append_nil,<- r.length];exact C.len _ _ _ _ hsp
  refine wpAny_call (codeAny_mono (C.run X.A X.stack s1 H1 ⟨us,[]⟩ (us++[]) vs _ _ hr I1.env0 (hb s1 us I1.kIn hl) (by rw [List.append_nil];exact r) hsp) fun r' s' hq=>?_);cases r' with
  | error e' =>
    obtain ⟨c',C',H',hm',fl,c,ef,ev⟩:=hq;have:c'=c:=by injection ev
    subst this;exact hex c' ef C' H1 s1 H' e' s' hm' I1 s1' fl
  | ok fl =>
    cases fl with
    | ret u =>
      obtain ⟨v,H',I',rv,s2,d,ef,rp⟩:=I1.after hq;exact hok d ef v u H' s' I' (s1'.trans s2) rp rv
    | next=>exact False.elim hq
    | brk=>exact False.elim hq
    | cont=>exact False.elim hq
theorem wb {pins:List (Addr×Obj)} {σ:St} {H Fm:Hp} {ρ:aW} {D:rG} {h0:ExceptHandler} {src:List ExceptHandler} {hs:Hs} {kk:PyData->tq} {c:Str} {r:R PyData} (hstk:X.stack=X.env::X.outer/\X.env.frame=some X.env.locals) (hH:o2 X (h0::src) hs) (ec:r=.ex c) (sl:iZ Fm H σ ρ) (q:Bk X Fm (A3 hs ρ kk r) D)
    {C:Addr} {Hc H1:Hp} {sc s':Shared} {ev:Value} (hm:X.mg c=some (.ref C)) (I:aS X pins σ Hc sc) (sH:aM H Hc) (fl:n5 X.prog X.w X.stack Hc sc C H1 ev s') :
    wpAny (model X.prog X.w) X.A (noteFrame ev X.env) (fun _ s₂=>wpAny (model X.prog X.w) X.A (setFlight ev none) (fun _ s₃=>wpAny (model X.prog X.w) X.A (handleBy ev X.env (h0::src)) (SP X pins D) X.xe s₃) X.xe s₂) X.xe s':=by
  subst ec;simp only [A3] at q;cases el:hs.lookup c with
  | none=>rw [el] at q;exact q.elim
  | some h =>
    rw [el] at q;dsimp only at q;obtain ⟨C',hm',hE⟩:=hH.at el;rw [hm] at hm';cases hm';have fl':=fl;rw [hstk.1] at fl';refine fl'.look (by rw [I.ok.frames,hstk.1]) hstk.2 fun p h' ep fl2=>?_
    subst ep;rw [<- hstk.1] at fl2;have sl1:iZ Fm H1 σ ρ:=sl.mono (sH.trans fl.same);refine hE pins σ Hc H1 sc _ p Fm ρ D I fl2 sl1 ?_;cases ep:yB (fun p=>h p ρ) with
    | ex c=>rw [ep] at q;exact q.elim
    | no=>rw [ep] at q;exact q.elim
    | ok d =>
      rw [ep] at q;rw [Cs ep p];exact q
noncomputable def uI (F:List PyData->R PyData) (fs:aW->R (List PyData)) (hs:Hs):Fs:=fun ρ=>lf (fs ρ)>>=fun ds=>A3 hs ρ (fun _=>.nx ρ) (F ds)
variable {h0:ExceptHandler} {src:List ExceptHandler} {hs:Hs}
theorem xN (C:bd X.prog X.w X.K X.mg X.base (cS X.prog X.w X.mg) k f fd ps (dC F n)) (hr:fG k X.A) (T:Tb X nl G) (hstk:X.stack=X.env::X.outer/\X.env.frame=some X.env.locals) (j:Nat) (hG:G[j]?=some x) (hm:X.mg x=some (.ref f)) (hk:PySem.W.keepIn X.K (.ref f)=true) (hb:bz X.K fd ps []) (ha:Z.tj X.nox (e::es) fs) (hfs:∀ ρ ds,fs ρ=.ok ds->ds.length=n) (hH:o2 X (h0::src) hs) (he:(e::es).all bh=true:=by rfl) (hsw:swapsWith (.Call (.Name x p) (e::es) [] pos) none sp.line X.env=pure false:=by rfl):Z.kW X (.Try [.Expr (.Call (.Name x p) (e::es) [] pos) sp] (h0::src) [] [] tp) (uI F fs hs):=⟨have ha:=ha.un;fun Fm=>by
  intro pins s σ H D I ⟨ρ,sl,q⟩;unfold uI at q;cases efs:fs ρ with
  | ex c=>rw [efs] at q;exact q.elim
  | no=>rw [efs] at q;exact q.elim
  | ok ds =>
    rw [efs] at q;simp only [lf,R.ok_bind] at q;refine wpAny_Try_except (wpAny_execs_cons (wpAny_Expr_any (A4 C hr T j hG hm hk hb ha hfs he I sl.sl efs (fun z=>by rw [z] at q;exact q) (fun d ed v u H' s' I' sH rp rv=>?_) fun c ec C' Hc sc H1 ev s' hm' I' sH fl=>wb hstk hH ec sl q hm' I' sH fl) I.quiet hsw));rw [ed] at q;exact wpAny_execs_nil (wpAny_execs_nil ⟨σ,H',I',q σ H' (sl.mono sH)⟩)⟩
end
section
variable {X:Cx} {a b c:Expr} {fa fb fc:Fe} {pos p2:Pos} {nl:Nat} {G:List Str} {x:Str} {p:Pos}
theorem B7 {P:Program} {w:World} {k:dD} {v:Value} (h:(dB P w).is k v=true):bW (kV k) v:=by
  rcases cR h with ⟨i,t,rfl,rfl⟩ | ⟨x,t,rfl,rfl⟩
  · exact ⟨t,rfl⟩
  · exact ⟨t,rfl⟩
theorem xu:∀ {xs:List V} {vs:List Value},vs.length=xs.length->(∀ (j:Nat) (v:Value),vs[j]?=some v->∃ x,xs[j]?=some x/\bW x v)->bE xs vs
  | [],[],_,_=>.nil
  | [],_::_,e,_=>by cases e
  | _::_,[],e,_=>by cases e
  | x::xs,v::vs,e,h=>by
    obtain ⟨y,e1,r⟩:=h 0 v rfl;cases e1;exact .cons r (xu (by simpa using e) fun j u hu=>by
      obtain ⟨z,e2,r2⟩:=h (j+1) u (by simpa using hu);exact ⟨z,by simpa using e2,r2⟩)
theorem mL {H:Hp}:∀ {kvs:List (PyData×PyData)} {ks:List (dD×V)},eP H kvs ks->bD H (kvs.map (·.1)) (ks.map fun kv=>kV kv.1)
  | [],ks,h=>by rw [h.nil_inv];exact bD.nil
  | (k,d)::kvs,ks,h=>by
    obtain ⟨κ,v,r,rfl,rfl,p,t⟩:=h.cons_inv;refine bD.cons ?_ (mL t);cases κ with
    | inl i=>exact dG
    | inr y=>exact sL
end
noncomputable def pk (p:Int->Int->Bool) (n:Int) (ns:List Int):Int:=ns.foldl (fun a b=>if p b a=true then b else a) n
theorem lB {p:Int->Int->Bool} {le:Int->Int->Prop} (h1:∀ a b,p b a=true->le b a) (h2:∀ a b,¬ p b a=true->le a b) (tr:∀ a b c,le a b->le b c->le a c) (rf:∀ a,le a a):∀ (ns:List Int) (n:Int),pk p n ns∈n::ns/\∀ a∈n::ns,le (pk p n ns) a
  | [],n=>⟨by simp [pk],fun a ha=>by simp at ha;subst ha;exact rf _⟩
  | m::ns,n=>by
    obtain ⟨g1,g2⟩:=lB h1 h2 tr rf ns (if p m n=true then m else n);have e:pk p n (m::ns)=pk p (if p m n=true then m else n) ns:=rfl;rw [e];refine ⟨?_,fun a ha=>?_⟩
    · rcases List.mem_cons.mp g1 with z | z
      · rw [z];split <;> simp
      · exact List.mem_cons_of_mem _ (List.mem_cons_of_mem _ z)
    · have k:=g2 _ List.mem_cons_self;rcases List.mem_cons.mp ha with rfl | ha
      · refine tr _ _ _ k ?_;split
        · rename_i z;exact h1 _ _ z
        · exact rf _
      · rcases List.mem_cons.mp ha with rfl | ha
        · refine tr _ _ _ k ?_;split
          · exact rf _
          · rename_i z;exact h2 _ _ z
        · exact g2 a (List.mem_cons_of_mem _ ha)
noncomputable def Am (n:Int) (ns:List Int):Int:=pk (fun b a=>decide (b < a)) n ns
noncomputable def vJ (n:Int) (ns:List Int):Int:=pk (fun b a=>decide (a < b)) n ns
theorem yu (n:Int) (ns:List Int):Am n ns∈n::ns/\∀ a∈n::ns,Am n ns<=a :=
  lB (le:=(·<=·)) (fun a b h=>by simp at h;omega) (fun a b h=>by simp at h;omega) (fun a b c=>Int.le_trans) Int.le_refl ns n
theorem qZ (n:Int) (ns:List Int):vJ n ns∈n::ns/\∀ a∈n::ns,a<=vJ n ns :=
  lB (le:=fun a b=>b<=a) (fun a b h=>by simp at h;omega) (fun a b h=>by simp at h;omega) (fun a b c h1 h2=>Int.le_trans h2 h1) Int.le_refl ns n
section
variable {X:Cx} {a b c:Expr} {fa fb fc:Fe} {pos p2:Pos} {nl:Nat} {G:List Str} {x:Str} {p:Pos}
theorem lG:∀ {its:List Value} {ns:List Int},IntsAre its ns->∃ ys:List (Int×Tok),its=ys.map (fun p=>Value.int p.1 p.2)/\ys.map (·.1)=ns
  | _,_,.nil=>⟨[],rfl,rfl⟩
  | _,_,.cons n t h=>by
    obtain ⟨ys,e1,e2⟩:=lG h;exact ⟨(n,t)::ys,by rw [List.map_cons,e1],by rw [List.map_cons,e2]⟩
theorem Fd (hc:X.calm=true):eD X (.builtin "min") (fun xs H Q=>∃ p n ns,xs=[.ref p]/\n6 X.K H p ((n::ns).map V.int)/\Q (.int (Am n ns)) H):=by
  intro pins s σ H xs us Q I r h;obtain ⟨p,n,ns,rfl,hq,q⟩:=h;obtain ⟨u,rfl,rx⟩:=ir r;cases rx;obtain ⟨its,rv,pl,hz⟩:=I.list hq;obtain ⟨ys,e1,e2⟩:=lG (lF rv);have hl:s.heap.IsList p (intItems ys.toArray):=by
    have:intItems ys.toArray=its.toArray:=by rw [e1];simp [intItems]
    rw [this];exact pl.isList
  have hlen:ys.length=ns.length+1:=by have:=congrArg List.length e2;simpa using this
  refine min_intList (I.ok.hd hc) hl (by simp;omega) fun v h' tk hv hk=>?_
  obtain ⟨t,rfl⟩:=intItems_at hv;obtain ⟨g1,g2⟩:=argBest_lt (numAt ys.toArray) (ys.toArray.size-1);generalize argBest (fun i j=>decide (numAt ys.toArray i < numAt ys.toArray j)) (ys.toArray.size-1)=w at g1 g2 hv ⊢;have el:ys.toArray.toList.map (·.1)=n::ns:=e2;have m1:numAt ys.toArray w∈n::ns:=by
    rw [numAt_eq,el];refine getD_mem ?_;simp at g1 ⊢;omega
  obtain ⟨k1,k2⟩:=yu n ns;have e3:numAt ys.toArray w=Am n ns:=by
    refine Int.le_antisymm ?_ (k2 _ m1);obtain ⟨j,hj,e⟩:=mem_getD k1;have:=g2 j (by simp at hj ⊢;omega);rw [numAt_eq ys.toArray j,el,e] at this;exact this
  rw [e3];exact ⟨.int _,H,I.kept hk,⟨_,rfl⟩,q⟩
theorem xV (hc:X.calm=true):eD X (.builtin "max") (fun xs H Q=>∃ p n ns,xs=[.ref p]/\n6 X.K H p ((n::ns).map V.int)/\Q (.int (vJ n ns)) H):=by
  intro pins s σ H xs us Q I r h;obtain ⟨p,n,ns,rfl,hq,q⟩:=h;obtain ⟨u,rfl,rx⟩:=ir r;cases rx;obtain ⟨its,rv,pl,hz⟩:=I.list hq;obtain ⟨ys,e1,e2⟩:=lG (lF rv);have hl:s.heap.IsList p (intItems ys.toArray):=by
    have:intItems ys.toArray=its.toArray:=by rw [e1];simp [intItems]
    rw [this];exact pl.isList
  have hlen:ys.length=ns.length+1:=by have:=congrArg List.length e2;simpa using this
  refine max_intList (I.ok.hd hc) hl (by simp;omega) fun v h' tk hv hk=>?_
  obtain ⟨t,rfl⟩:=intItems_at hv;obtain ⟨g1,g2⟩:=argBest_gt (numAt ys.toArray) (ys.toArray.size-1);generalize argBest (fun i j=>decide (numAt ys.toArray i > numAt ys.toArray j)) (ys.toArray.size-1)=w at g1 g2 hv ⊢;have el:ys.toArray.toList.map (·.1)=n::ns:=e2;have m1:numAt ys.toArray w∈n::ns:=by
    rw [numAt_eq,el];refine getD_mem ?_;simp at g1 ⊢;omega
  obtain ⟨k1,k2⟩:=qZ n ns;have e3:numAt ys.toArray w=vJ n ns:=by
    refine Int.le_antisymm (k2 _ m1) ?_;obtain ⟨j,hj,e⟩:=mem_getD k1;have:=g2 j (by simp at hj ⊢;omega);rw [numAt_eq ys.toArray j,el,e] at this;exact this
  rw [e3];exact ⟨.int _,H,I.kept hk,⟨_,rfl⟩,q⟩
noncomputable def IE:PyData->R PyData
  | .list ds=>match dF ds with
    | some (n::ns)=>.ok (.int (Am n ns))
    | _=>.no
  | _=>.no
noncomputable def wG:PyData->R PyData
  | .list ds=>match dF ds with
    | some (n::ns)=>.ok (.int (vJ n ns))
    | _=>.no
  | _=>.no
theorem xO (T:Tb X nl G) (j:Nat) (hG:G[j]?=some ("max" : Str)) (hm:X.mg "max" = none) (ha:Z.eo X a fa) (he:bh a=true:=by rfl):Z.cU X (.Call (.Name "max" p) [a] [] pos) (e1 wG fa):=⟨have ha:=ha.un;by
  refine zo T j hG hm fZ PyProof.Rows.boot_max (xV T.calm) (fun H x d Q hx q=>?_) ha he;cases d with
  | list ds =>
    simp only [wG] at q;split at q
    · rename_i n ns ei;rw [ig ei] at hx;obtain ⟨a',vs,rfl,h,r⟩:=fD (K:=X.K) hx;rw [p8 r] at h;exact ⟨a',n,ns,rfl,h,q _ H (aM.refl _) dG⟩
    · exact q.elim
  | _=>exact q.elim⟩
end
section
variable {prog:Program} {w:World} {A:Around} {E:Value->Shared->Prop} {s:Shared}
theorem qA {R:List Value->Shared->Prop} {r:Addr} {a b c:Int} {t u v:Tok} {n:Nat} (hh:A.handled=none) (hr:IsRange s.heap r a b c t u v) (hsmall:Builtin.Range.small a b c=true)
    (hn:Builtin.Range.rangeSize a b c=n) (hlen:n<=2 ^ 24)
    (h:∀ (h':Heap) (tk:Nat) (acc:Array Value),(∀ b o,s.heap.get? b=some o->h'.get? b=some o)->ItemsOf (fun i v=>∃ t,v=.int (a+i*c) t) acc n->R acc.toList { s with heap:=h',toks:=tk }) :
    wpAny (model prog w) A (collect (.ref r)) R E s:=by
  unfold collect;refine wpAny_bind (wpAny_runValue (codeAny_builtin F.entry_proto_collect ?_));rw [Around.under_plainId PySem.F.plain_proto_collect _];show wpAny _ A.in1 (newList []>>=fun l=>again (.builtin "list.__iadd__" ⟨[l,.ref r],[]⟩)) _ _ s;refine wpAny_bind (wpAny_newObj_type ?_);refine wpAny_pure ⟨plainId_quiet PySem.F.plain_list_iadd _,codeAny_builtin F.entry_list_iadd ?_⟩;rw [Around.under_plainId PySem.F.plain_list_iadd _];have hS₁:(s.heap.push { cls:=.type "list",data:=.seq ([]:List Value).toArray }).get? s.heap.objs.size=some { cls:=.type "list",data:=.seq #[] }:=Heap.get?_push_size _ rfl;show wpAny _ A.in1 (Builtin.List.listExtendWith (.ref s.heap.objs.size) (.ref r) (.ref s.heap.objs.size)) _ _ _;have key:=wpAny_extend_range (prog:=prog) (w:=w) (A:=A) (s:={ s with heap:=s.heap.push { cls:=.type "list",data:=.seq ([]:List Value).toArray } })
    (R:=fun (q:Result) (s':Shared)=>∃ (h':Heap) (tk:Nat) (acc':Array Value) (c':Nat),q=.ok (.ret (.ref s.heap.objs.size))/\s'={ s with heap:=h',toks:=tk } /\
      (∀ b o,s.heap.get? b=some o->h'.get? b=some o)/\h'.get? s.heap.objs.size=some { cls:=.type "list",dict:=none,data:=.seq acc' c',slots:=#[] }/\ItemsOf (fun i v=>∃ t,v=.int (a+i*c) t) acc' n)
    hh (Heap.get?_push_of_some _ hr) hsmall hn hlen s.heap.objs.size (.ref s.heap.objs.size) 0 hS₁
    (fun h' tk acc' c' hk hS' hacc=>⟨h',tk,acc',c',rfl,rfl,fun b o e=>hk b o (Nat.ne_of_lt (Heap.lt_size e)) (Heap.get?_push_of_some _ e),hS',hacc⟩)
  refine wpAny_mono key (fun fin s' x=>?_) fun e s' x=>?_
  · cases fin with
    | done f =>
      obtain ⟨h',tk,acc',c',e,rfl,hk,hS',hacc⟩:=x;cases e;show wpAny _ A (load s.heap.objs.size>>=_) _ _ _;refine wpAny_bind (wpAny_load hS' ?_);exact wpAny_pure (h h' tk acc' hk hacc)
    | again c' =>
      obtain ⟨hq,hc⟩:=x;refine ⟨hq,codeAny_mono hc fun q s' zq0=>?_⟩;obtain ⟨h',tk,acc',c',e,e2,hk,hS',hacc⟩:=zq0;subst e e2;show wpAny _ A (load s.heap.objs.size>>=_) _ _ _;refine wpAny_bind (wpAny_load hS' ?_);exact wpAny_pure (h h' tk acc' hk hacc)
  · obtain ⟨h',tk,acc',c',e,_⟩:=x;cases e
theorem oV (r:Addr) (a b c:Int) (t u v:Tok) (n:Nat) (hsmall:Builtin.Range.small a b c=true) (hn:Builtin.Range.rangeSize a b c=n) (hlen:n<=2 ^ 24):Meets (Builtin.«tuple.__new__» ⟨[.type "tuple",.ref r],[]⟩)
      (fun A R s=>A.handled=none/\IsRange s.heap r a b c t u v/\∀ (h':Heap) (tk:Nat) (acc:Array Value),(∀ b o,s.heap.get? b=some o->h'.get? b=some o)->ItemsOf (fun i v=>∃ t,v=.int (a+i*c) t) acc n ->
        R (.ok (.ret (.ref h'.objs.size))) { s with heap:=h'.push { cls:=.type "tuple",data:=.seq acc },toks:=tk }) :=
  .of_wp fun prog w A R s h=>by
    obtain ⟨hh,hr,h⟩:=h;have hsub:=sub_tuple_self;have hinit:=init_tuple_lookup;have hmh:=madeHere_tuple;have hT:s.TypeIs (.ref r) "range" := ⟨_,hr,rfl⟩
    have hh1:A.in1.handled=none:=hh
    wp_walk using wpAny_typeOf hT,qA hh1 hr hsmall hn hlen
    intro h' tk acc hk hacc;show wpAny _ _ (Builtin.Tuple.tupleExact acc.toList.toArray>>=fun v=>ret v) _ _ _;unfold Builtin.Tuple.tupleExact;refine wpAny_bind (wpAny_newObj_type ?_ (show acc.toList.toArray.size<=sizeLine by simp only [Array.toArray_toList];rw [hacc.1,sizeLine_eq];omega));refine wpAny_pure ⟨_,rfl,?_⟩;have e:acc.toList.toArray=acc:=by simp
    rw [e];exact h h' tk acc hk hacc
theorem nF {Q:Value->Shared->Prop} {r:Addr} {a b c:Int} {t u v:Tok} {n:Nat} (hh:A.handled=none) (hr:IsRange s.heap r a b c t u v) (hsmall:Builtin.Range.small a b c=true) (hn:Builtin.Range.rangeSize a b c=n) (hlen:n<=2 ^ 24)
    (h:∀ (h':Heap) (tk:Nat) (acc:Array Value),(∀ b o,s.heap.get? b=some o->h'.get? b=some o)->ItemsOf (fun i v=>∃ t,v=.int (a+i*c) t) acc n->Q (.ref h'.objs.size) { s with heap:=h'.push { cls:=.type "tuple",data:=.seq acc },toks:=tk }) :
    wpAny (model prog w) A (call (.type "tuple") [.ref r]) Q E s:=by
  refine callType_new F.called_tuple (by decide) (F.typeCall_tuple_1 _) (F.newCall_tuple_1 _) (fun obj=>F.args_object_init_2 obj _) F.entry_tuple_new
    (oV r a b c t u v n hsmall hn hlen) ⟨hh,hr,fun h' tk acc hk hacc=>⟨⟨_,Heap.get?_push_size _ rfl,rfl⟩,h h' tk acc hk hacc⟩⟩
end
section
variable {X:Cx} {a b c:Expr} {fa fb fc:Fe} {pos p2:Pos} {nl:Nat} {G:List Str} {x:Str} {p:Pos} {fs:aW->R (List PyData)} {pos2:Pos}
noncomputable def ku (lo:Int) (n:Nat):List V:=(List.range n).map fun (k:Nat)=>.int (lo+k)
theorem yE {H:Hp} (lo:Int) (n:Nat):bD H (bU lo n) (ku lo n):=by
  have key:∀ l:List Nat,bD H (l.map fun (k:Nat)=>PyData.int (lo+k)) (l.map fun (k:Nat)=>V.int (lo+k)):=by
    intro l;induction l with
    | nil=>exact bD.nil
    | cons k l ih=>exact bD.cons dG ih
  exact key _
theorem wj {lo:Int} {n:Nat} {acc:Array Value} (h:ItemsOf (fun i v=>∃ t,v=.int (lo+(i:Int)*1) t) acc n):bE (ku lo n) acc.toList:=by
  refine xu (by rw [Array.length_toList,h.1];simp [ku]) fun j v hj=>?_
  obtain ⟨t,e⟩:=h.2 j v (by rw [<- Array.getElem?_toList];exact hj);have hjn:j < n:=by
    have:=(List.getElem?_eq_some_iff.mp hj).1;rw [Array.length_toList,h.1] at this;exact this
  refine ⟨.int (lo+j),?_,t,by rw [e];simp⟩;unfold ku;rw [List.getElem?_map,List.getElem?_range hjn];rfl
theorem vU (lo:Int) (n:Nat):(ku lo n).length=n:=by simp [ku]
noncomputable def Ir (mk:List V->HO) (ta:TA):TE:=fun σ H Q=>ta σ H fun vs H1=>∃ j:Int,vs=[.int j]/\j<=16777216/\-(2 ^ 62)<=j/\∀ l,H1 l=none->Q (.ref l) (de H1 l (mk (ku 0 j.toNat)))
theorem AB {ta:TA} (T:Tb X nl G) (i:Nat) (hGi:G[i]?=some ("tuple" : Str)) (hmi:X.mg "tuple" = none) (j:Nat) (hG:G[j]?=some ("range" : Str)) (hm:X.mg "range" = none) (ha:PA X [a] ta) (hs:bh a=true:=by rfl) :
    PE X (.Call (.Name "tuple" p) [.Call (.Name "range" p2) [a] [] pos2] [] pos) (Ir .tup ta):=by
  intro pins s σ H Q I h;have g1:=T.gl _ (List.mem_of_getElem? hGi);have g2:=T.gl _ (List.mem_of_getElem? hG);have sc:starEach [Expr.Call (.Name "range" p2) [a] [] pos2] X.env=(false,eval (Expr.Call (.Name "range" p2) [a] [] pos2) X.env)::starEach [] X.env:=bP (by rfl);refine Call_ (km I g1.1 hmi PyProof.Rows.boot_tuple (PyProof.Rows.callWith_type1 ?_ sc rfl));rw [sc];refine Calls.spliced_cons ?_;refine Call_ (km I g2.1 hm boot_range (PyProof.Rows.callWith_type1 (dM (ha pos2 pins s σ H _ I h) fun us s1 zq0=>?_) (bP hs) rfl));obtain ⟨vs,H1,I1,r1,q1⟩:=zq0;obtain ⟨n,e,h1,h2,q⟩:=q1;subst e;obtain ⟨u,rfl,t,rfl⟩:=ir r1;refine call_range_1 (Calls.spliced_nil ?_);have hsz:Builtin.Range.rangeSize 0 n 1=n.toNat:=by rw [rangeSize_one];split <;> omega
  refine nF (n:=n.toNat) (I1.ok.hd T.calm) (IsRange.new ..) (small_one (by omega) (by omega) (by omega) (by omega)) hsz (by omega) fun h' tk acc kp hacc=>?_
  have kp':∀ b o,s1.heap.get? b=some o->h'.get? b=some o:=fun b o e=>kp b o (Heap.get?_push_of_some _ e)
  have hg:s1.heap.get? h'.objs.size=none:=by
    cases e:s1.heap.get? h'.objs.size with
    | none=>rfl
    | some o=>exact absurd (Heap.lt_size (kp' _ _ e)) (Nat.lt_irrefl _)
  have hn:=uo I1 hg;refine ⟨.ref h'.objs.size,_,um (s:=s1) (t':=tk) (o:=.tup (ku 0 n.toNat)) I1 (fun b o e=>Heap.get?_push_of_some _ (kp' b o e)) hg hn ⟨by rw [vU,sizeLine_eq];omega,acc.toList,wj hacc,_,Heap.get?_push_size _ rfl,rfl,⟨_,by simp;rfl⟩,rfl⟩,rfl,q _ hn⟩
noncomputable def Dy (mk:List PyData->PyData):List PyData->R PyData
  | [.int j]=>if j<=16777216/\-(2 ^ 62)<=j then .ok (mk (bU 0 j.toNat)) else .no
  | _=>.no
noncomputable def zH (fs:aW->R (List PyData)):Fe:=fun ρ=>fs ρ>>=Dy .tuple
noncomputable def FJ (fs:aW->R (List PyData)):Fe:=fun ρ=>fs ρ>>=Dy .list
theorem xP (T:Tb X nl G) (i:Nat) (hGi:G[i]?=some ("tuple" : Str)) (hmi:X.mg "tuple" = none) (j:Nat) (hG:G[j]?=some ("range" : Str)) (hm:X.mg "range" = none) (ha:Z.tj X [a] fs) (hs:bh a=true:=by rfl):Z.cU X (.Call (.Name "tuple" p) [.Call (.Name "range" p2) [a] [] pos2] [] pos) (zH fs):=⟨have ha:=ha.un;PE.imp (AB T i hGi hmi j hG hm ha hs) fun σ H Q h=>(pA (I:=Rp) (f:=fs) (k:=fun _=>Dy .tuple) (gc (X:=X) fZ Q) h).post fun vs H1 ⟨_,ds,_,_,p1,q1⟩=>by
    unfold Dy at q1;split at q1
    · rename_i n;split at q1
      · rename_i hz;simp only [RA] at p1;obtain ⟨v,r',rfl,p,rfl⟩:=p1;have ev:v=.int n:=by simpa only [Rp] using p
        subst ev;exact ⟨n,rfl,hz.1,hz.2,fun l hl=>q1 _ _ (cT hl _) (e9 hl (yE 0 n.toNat))⟩
      · exact q1.elim
    · exact q1.elim⟩
end
noncomputable def CG (b:PyData->aW->Option aW) (f:Fe):Fs:=fun ρ=>f ρ>>=fun d=>match b d ρ with
  | some ρ'=>.ok (.nx ρ')
  | none=>.no
section
variable {X:Cx} {tg e:Expr} {f:Fe} {b:PyData->aW->Option aW} {pos:Pos}
theorem zf (he:Z.cU X e f) (hg:Z.u0 X tg b) (hs:swapsWithSole [tg] e pos.line X.env=pure false:=by rfl) (hw:swappedStores [tg] e X.env=pure none:=by rfl) (h1:(assignEach [tg] X.env).map (·.2)=[assign tg X.env]:=by rfl):Z.kW X (.Assign [tg] e pos) (CG b f):=⟨have he:=he.un;have hg:=hg.un;fun Fm=>by
  refine PS.imp (AD he hg hs hw h1) fun D σ H h=>?_
  refine (nE (P:=ia) (f:=f) (k:=fun ρ d=>match b d ρ with | some ρ'=>.ok (.nx ρ') | none=>.no) h).post fun v H1 zq0=>?_
  obtain ⟨ρ,d,sl,_,p,q⟩:=zq0;refine ⟨ρ,d,sl.sl,p,?_⟩;cases eb:b d ρ with
  | none=>rw [eb] at q;exact q
  | some ρ3 =>
    rw [eb] at q;intro σ4 sl4 hown;refine q σ4 H1 ⟨sl.fm,sl4,fun j e a h1 h2=>?_,fun j k e f a h1 h2 h3 h4=>?_⟩
    · obtain ⟨z1,z2⟩:=hown j e h1;exact sl.own j e a z1 (by rw [<- z2];exact h2)
    · obtain ⟨z1,z2⟩:=hown j e h1;obtain ⟨z3,z4⟩:=hown k f h2;exact sl.apart j k e f a z1 z3 (by rw [<- z2];exact h3) (by rw [<- z4];exact h4)⟩
end
section
variable {X:Cx} {a b:Expr} {fa fb:Fe} {pos p2:Pos}
noncomputable def IF:PyData->PyData->R PyData
  | .list xs,.int k=>if -(2 ^ 63)<=k/\k < 2 ^ 63/\xs.length*k.toNat<=sizeLine then .ok (.list (List.replicate k.toNat xs).flatten) else .no
  | _,_=>.no
noncomputable def FB:PyData->Option Int->Option Int->R PyData
  | .list xs,lo,hi=>.ok (.list (ml xs lo hi))
  | _,_,_=>.no
noncomputable def HM (fa:Fe) (lo hi:Fo):Fe:=fun ρ=>fa ρ>>=fun d=>lo ρ>>=fun l=>hi ρ>>=fun u=>FB d l u
end
theorem bD.set {H:Hp} {d:PyData} {v:V} (p:Rp H d v):∀ {ds:List PyData} {vs:List V} (j:Nat),bD H ds vs->bD H (ds.set j d) (vs.set j v)
  | [],vs,j,r=>by rw [r.nil_inv];exact bD.nil
  | d'::ds,vs,j,r=>by
    obtain ⟨v',r',rfl,p',t⟩:=r.cons_inv;cases j with
    | zero=>exact bD.cons p t
    | succ j=>exact bD.cons p' (bD.set p j t)
noncomputable def iJ (i:Nat) (fk fv:Fe):Fs:=fun ρ=>fv ρ>>=fun v=>lf (fk ρ)>>=fun k=>match ρ[i]?,k with
  | some (.own (.list ds)),.int n=>match wX ds.length n with
    | some j=>.ok (.nx (ρ.set i (.own (.list (ds.set j v)))))
    | none=>.no
  | _,_=>.no
section
variable {X:Cx} {nl:Nat} {G:List Str} {x:Str} {f:Fe} {e:Expr}
theorem i4 {k v:Expr} {fk fv:Fe} {q1 q2 q3:Pos} (T:Tb X nl G) (n:Nat) (hN:X.N[n]?=some x) (hk:Z.cU X.nox k fk) (hv:Z.cU X v fv) (hs:swapsWithSole [.Subscript (.Name x q1) k q2] v q3.line X.env=pure false:=by rfl) (hw:swappedStores [.Subscript (.Name x q1) k q2] v X.env=pure none:=by rfl) (h1:(assignEach [.Subscript (.Name x q1) k q2] X.env).map (·.2)=[assign (.Subscript (.Name x q1) k q2) X.env]:=by rfl) (ha:∀ v,assign (.Subscript (.Name x q1) k q2) X.env v=(do
      let ov <- holding [v] (eval (.Name x q1) X.env)
      let iv <- holding [v,ov] (eval k X.env)
      standAt q2
      holding [v,ov,iv] (setItem ov iv v)
      release [v,ov,iv] []):=by intro _;rfl):Z.kW X (.Assign [.Subscript (.Name x q1) k q2] v q3) (iJ n fk fv):=⟨have hk:=hk.un;have hv:=hv.un;fun Fm=>by
  have hm:=T.vis x (List.mem_of_getElem? hN);have hkX:PE X k (fun σ H Q=>jQ X.nox ia fk σ H Q):=fun pins s σ H Q I h=>wpAny_mono (hk pins s σ H Q (I.wish _) h) (fun v s' ⟨y,H',I',r,q⟩=>⟨y,H',I'.unwish,r,q⟩) fun _ _ z=>False.elim z
  refine PS.imp (AD hv (EA (iU hN hm.1 hm.2.1 hm.2.2) hkX AQ ha) hs hw h1) fun D σ H h=>?_
  refine (nE (P:=ia) (f:=fv) (k:=fun ρ v=>lf (fk ρ)>>=fun k=>match ρ[n]?,k with
    | some (.own (.list ds)),.int m=>match wX ds.length m with
      | some j=>.ok (.nx (ρ.set n (.own (.list (ds.set j v)))))
      | none=>.no
    | _,_=>.no) h).post fun vv H1 ⟨ρ1,dv,sl1,_,p1,q1⟩=>?_
  cases ef:fk ρ1 with
  | ex c=>rw [ef] at q1;exact q1.elim
  | no=>rw [ef] at q1;exact q1.elim
  | ok kd =>
    rw [ef] at q1;simp only [lf,R.ok_bind] at q1;cases er:ρ1[n]? with
    | none=>rw [er] at q1;exact q1.elim
    | some c =>
      rw [er] at q1;cases c with
      | non=>exact q1.elim
      | exc p=>exact q1.elim
      | val d'=>exact q1.elim
      | own d' =>
        cases d' with
        | list ds =>
          cases kd with
          | int m =>
            dsimp only at q1;cases ei:wX ds.length m with
            | none=>rw [ei] at q1;exact q1.elim
            | some j =>
              rw [ei] at q1;obtain ⟨o,h2,w',rfl,p2⟩:=sl1.sl.at er;simp only [jl] at p2;obtain ⟨a',vs,rfl,ha',r⟩:=p2;refine ⟨.ref a',h2,ρ1,sl1.sl,?_⟩;rw [ef];intro yv H3 s3 p3;have ev:yv=.int m:=by simpa only [Rp] using p3
              have ha3:=s3 _ _ ha';have r3:=r.mono s3;refine ⟨a',vs,m,j,rfl,ev,ha3,by rw [r.length];exact ei,q1 _ _ ((sl1.mono s3).change er h2 ha3 (.inl ⟨_,rfl⟩) ?_)⟩;simp only [jl];exact ⟨a',_,rfl,bq,bD.kp (gL ha3 (.inl ⟨_,rfl⟩)) _ _ (bD.set (p1.mono s3) j r3)⟩
          | _=>exact q1.elim
        | _=>exact q1.elim⟩
noncomputable def Hd (g:Int->Int->Int):PyData->PyData->R PyData
  | .int i,.int j=>.ok (.int (g i j))
  | _,_=>.no
noncomputable def yG (i:Nat) (g:Int->Int->Int) (f:Fe):Fs:=fun ρ=>af i ρ>>=fun x=>f ρ>>=fun y=>Hd g x y>>=fun z=>.ok (.nx (ρ.set i (.val z)))
theorem BN {op:Operator} {g:Int->Int->Int} {pos pos':Pos} (ho:Hz X op (IH g)) (T:Tb X nl G) (i:Nat) (hN:(X.N.take nl)[i]?=some x) (he:cU X e f):kW X (.AugAssign (.Name x pos') op e pos) (yG i g f):=fun Fm=>by
  obtain ⟨n1,n2,n3⟩:=T.nm hN;refine PS.imp (ED T.nd n1 n2 he ho n3) fun D σ H h=>?_
  obtain ⟨ρ,sl,q⟩:=h;unfold yG at q;cases ev:af i ρ with
  | ex c=>exact absurd ev (by unfold af;split <;> simp)
  | no=>rw [ev] at q;exact q.elim
  | ok dx =>
    rw [ev] at q;simp only [R.ok_bind] at q;have hc:ρ[i]?=some (.val dx):=by
      unfold af at ev;split at ev
      · rename_i d hd;cases ev;exact hd
      · cases ev
    obtain ⟨o,h2,w',rfl,p2⟩:=sl.sl.at hc;refine ⟨w',h2,?_⟩;refine (nE (P:=ia) (f:=f) (k:=fun ρ y=>Hd g dx y>>=fun z=>.ok (.nx (ρ.set i (.val z)))) ⟨ρ,sl,q⟩).post fun v H1 zq0=>?_
    obtain ⟨ρ1,d,sl1,s1,p,q1⟩:=zq0;cases dx with
    | int a =>
      cases d with
      | int b =>
        have e1:w'=.int a:=by simpa only [Rp] using p2
        have e2:v=.int b:=by simpa only [Rp] using p
        subst e1;subst e2;exact ⟨a,b,rfl,rfl,q1 _ H1 (sl1.set i (fun e z=>by cases z) ⟨.int (g a b),rfl,dG⟩)⟩
      | _=>exact q1.elim
    | _=>exact q1.elim
theorem xM {pos pos':Pos} (T:Tb X nl G) (i:Nat) (hN:(X.N.take nl)[i]?=some x) (he:Z.cU X e f):Z.kW X (.AugAssign (.Name x pos') .Add e pos) (yG i (fun a b=>a+b) f):=⟨have he:=he.un;BN D5 T i hN he⟩
end
noncomputable def AN (i n:Nat):Fs:=fun ρ=>match ρ[n]? with
  | some (.own (.list ds))=>match ds[ds.length-1]? with
    | some d=>.ok (.nx ((ρ.set n (.own (.list ds.dropLast))).set i (.val d)))
    | none=>.no
  | _=>.no
theorem bD.dropLast {H:Hp}:∀ {ds:List PyData} {vs:List V},bD H ds vs->bD H ds.dropLast vs.dropLast
  | [],vs,r=>by rw [r.nil_inv];exact bD.nil
  | [d],vs,r=>by
    obtain ⟨v',r',rfl,p',t⟩:=r.cons_inv;rw [t.nil_inv];exact bD.nil
  | d::d2::ds,vs,r=>by
    obtain ⟨v',r',rfl,p',t⟩:=r.cons_inv;obtain ⟨v2,r2,rfl,p2,t2⟩:=t.cons_inv;exact bD.cons p' (bD.dropLast t)
section
variable {X:Cx} {nl:Nat} {G:List Str} {x y:Str} {f:Fe} {e:Expr} {q1 q2 q3 q4 q5:Pos}
theorem zg (T:Tb X nl G) (i:Nat) (hi:(X.N.take nl)[i]?=some y) (n:Nat) (hN:X.N[n]?=some x) (hs:swapsWith (.Call (.Attribute (.Name x q1) "pop" q2) [] [] q3) (some (.Name y q5)) q4.line X.env=pure false:=by rfl) (hline:(q2.endLine==q3.line)=true:=by rfl) (hbase:attributeBase (.Name x q1) "pop" X.env (eval (.Name x q1) X.env)=eval (.Name x q1) X.env:=by rfl):Z.kW X (.Assign [.Name y q5] (.Call (.Attribute (.Name x q1) "pop" q2) [] [] q3) q4) (AN i n):=⟨fun Fm=>by
  have hm:=T.vis x (List.mem_of_getElem? hN);obtain ⟨n1,n2,n3⟩:=T.nm hi;refine PS.imp (vS T.nd n1 n2 (Er PySem.F.plainAttrs_list PySem.F.slot_list_pop PySem.F.type_list_pop Eh (iU hN hm.1 hm.2.1 hm.2.2) hbase hline) hs n3) fun D σ H h=>?_
  obtain ⟨ρ,sl,q⟩:=h;unfold AN at q;cases er:ρ[n]? with
  | none=>rw [er] at q;exact q.elim
  | some c =>
    rw [er] at q;cases c with
    | non=>exact q.elim
    | exc p=>exact q.elim
    | val d'=>exact q.elim
    | own d' =>
      cases d' with
      | list ds =>
        dsimp only at q;cases ed:ds[ds.length-1]? with
        | none=>rw [ed] at q;exact q.elim
        | some d =>
          rw [ed] at q;obtain ⟨o,h2,w',rfl,p2⟩:=sl.sl.at er;simp only [jl] at p2;obtain ⟨a',vs,rfl,ha,r⟩:=p2;obtain ⟨v,hv,pv⟩:=r.get ed;refine ⟨.ref a',h2,.inl ⟨rfl,_,n6.of ha⟩,a',vs,v,rfl,rfl,ha,by rw [r.length];exact hv,?_⟩;have kp:=gL (o':=.lst vs.dropLast) ha (.inl ⟨_,rfl⟩);refine q _ _ (iZ.set (sl.change er h2 ha (.inl ⟨_,rfl⟩) ?_) i (fun e z=>by cases z) ⟨v,rfl,Rp.kp kp _ _ pv⟩);simp only [jl];exact ⟨a',_,rfl,bq,bD.kp kp _ _ (bD.dropLast r)⟩
      | _=>exact q.elim⟩
end
section
variable {X:Cx} {a b:Expr} {fa fb:Fe} {pos p:Pos} {nl:Nat} {G:List Str}
noncomputable def mo:PyData->PyData->R PyData
  | .str z,.int k=>if k=0\/k=1 then .ok (.str (if k=1 then z else Str.empty)) else .no
  | _,_=>.no
theorem Ch:jP X (binaryOp .Mult) (fun x y H Q=>∃ z k,x=.str z/\y=.int k/\(k=0\/k=1)/\Q (.str (if k=1 then z else Str.empty)) H):=by
  intro pins s σ H x y v u Q I rx ry h;obtain ⟨z,k,rfl,rfl,hk,q⟩:=h;obtain ⟨t,rfl⟩:=rx;obtain ⟨t',rfl⟩:=ry;rcases hk with rfl | rfl
  · exact PySem.P.mul_str_none (by decide) (by decide) ⟨.str Str.empty,H,I.tok _,⟨_,rfl⟩,by simpa using q⟩
  · exact PySem.P.mul_str (by decide) (fun _ h=>by simp at h) (fun _ h=>by simp at h) (by
      rw [if_neg (by decide),if_pos (by simp)];exact ⟨.str z,H,I,⟨_,rfl⟩,by simpa using q⟩)
theorem CP:cP X ia (fun x y H Q=>∃ z k,x=.str z/\y=.int k/\(k=0\/k=1)/\Q (.str (if k=1 then z else Str.empty)) H) mo:=fun H x y dx dy Q hx hy q=>by
  cases dx with
  | str z =>
    cases dy with
    | int k =>
      simp only [mo] at q;split at q
      · rename_i h;exact ⟨z,k,gS hx,bX hy,h,q _ H (aM.refl _) sL⟩
      · exact q.elim
    | _=>exact q.elim
  | _=>exact q.elim
theorem qH (ha:Z.eo X a fa) (hb:Z.eo X b fb):Z.cU X (.BinOp a .Mult b pos) (e2 mo fa fb):=⟨have ha:=ha.un;have hb:=hb.un;nI fZ Ch CP ha hb⟩
theorem pf (T:G7 X nl G) (j:Nat) (hG:G[j]?=some ("int" : Str)) (hm:X.mg "int" = none) (ha:Z.eo X a fa) (he:bh a=true:=by rfl):Z.cU X (.Call (.Name "int" p) [a] [] pos) (e1 lC fa):=⟨have ha:=ha.un;by
  have q:=T.gl ("int" : Str) (List.mem_of_getElem? hG);have key:PE X (.Call (.Name "int" p) [a] [] pos) (jQ X ia (fun ρ=>ah fa az ρ>>=one lC)) :=
    PE.imp (rc qN q.1 hm PyProof.Rows.boot_int (my ha su he) q.2.2 q.2.1 (bP he)) (wC fZ (v9 fun H x d Q hx q=>by
      cases d with
      | int i=>exact .inl ⟨i,by rw [bX hx],q _ H (aM.refl _) dG⟩
      | bool k=>exact .inr ⟨k,by rw [md hx],q _ H (aM.refl _) dG⟩
      | _=>exact q.elim))
  rw [vM] at key;exact key⟩
end
noncomputable def Dm:aT->aT
  | .own _=>.non
  | c=>c
noncomputable def jw (i:Nat) (d:PyData) (ρ:aW):aW:=(ρ.map Dm).set i (.val d)
noncomputable def ma:PyData->R PyData
  | .none=>.ok .none
  | .bool b=>.ok (.bool b)
  | .int k=>.ok (.int k)
  | .str x=>.ok (.str x)
  | .tuple ds=>match dF ds with
    | some _=>.ok (.tuple ds)
    | none=>.no
  | _=>.no
theorem zm {d:PyData} {c:Str}:ma d≠.ex c:=by
  cases d with
  | tuple ds =>
    show (match dF ds with | some _=>R.ok (PyData.tuple ds) | none=>.no)≠_;cases dF ds <;> exact fun z=>nomatch z
  | _=>exact fun z=>nomatch z
noncomputable def lb (i:Nat) (f:Fe):Fe:=fun ρ=>match ρ[i]? with
  | some (.own d)=>lf (f (jw i d ρ))>>=ma
  | _=>f ρ
section
variable {X:Cx} {pins:List (Addr×Obj)} {σ:St} {H H1:Hp} {s s':Shared} {a:Addr} {u:HO} {o:Obj}
theorem yH (h:H a=some u) (S:aM (de H a (.frz o u)) H1):aM H (de H1 a u):=fun b x e=>by
  by_cases hb:b=a
  · subst hb;rw [bq];rw [h] at e;exact e
  · rw [aB hb];exact S b x (by rw [aB hb];exact e)
theorem Aa (I:aS X pins σ H s) (h:H a=some u) (hm:(∃ xs,u=.lst xs)\/∃ ks,u=.dK ks) (S:aM (de H a (.frz o u)) H1) (J:aS X pins σ H1 s'):aS X pins σ (de H1 a u) s':=by
  have ha:H1 a=some (.frz o u):=S a _ bq;have nt:∀ b xs,H1 b=some (.tup xs)->b≠a:=fun b xs q z=>by subst z;rw [ha] at q;cases q
  have nb:∀ b ps,H1 b=some (.tbl ps)->b≠a:=fun b ps q z=>by subst z;rw [ha] at q;cases q
  have nw:∀ b y,H1 b=some (.own y)->b≠a:=fun b y q z=>by subst z;rw [ha] at q;cases q
  have nn:∀ b,H1 b=none->b≠a:=fun b q z=>by subst z;rw [ha] at q;cases q
  have st:∀ b x,cm X.prog X.w H1 s'.heap b x->cm X.prog X.w (de H1 a u) s'.heap b x:=fun b x q =>
    q.stay (fun c v _ e=>e) (fun c e=>by rw [aB (nw _ _ e)];exact e) fun c xs e=>by rw [aB (nt _ _ e)];exact e
  refine ⟨J.ok,J.os,J.bare,⟨J.base.keep,J.base.slot,fun b ob' e n hx=>?_,J.base.there,fun b xs e=>?_,fun b ob' v e=>?_,fun b ps e=>?_⟩,J.loc,J.cell,?_,fun x c e=>?_,fun p hp=>?_,fun b x e=>?_,J.len⟩
  · have:=J.base.free b ob' e n hx;rw [aB (nn _ this)];exact this
  · have:=J.base.tups b xs e;rw [aB (nt _ _ this)];exact this
  · have q:=I.base.frzs b ob' v e;have hb:b≠a:=fun z=>by subst z;rw [h] at q;rcases hm with ⟨_,rfl⟩ | ⟨_,rfl⟩ <;> cases q
    rw [aB hb];exact J.base.frzs b ob' v e
  · obtain ⟨m,q⟩:=J.base.tbls b ps e;exact ⟨m,by rw [aB (nb _ _ q)];exact q⟩
  · rw [aB (nn _ J.free)];exact J.free
  · rw [aB (nn _ (J.freeC x c e))];exact J.freeC x c e
  · obtain ⟨p1,p2,p3⟩:=J.pin p hp;exact ⟨p1,by rw [aB (nn _ p2)];exact p2,p3⟩
  · by_cases hb:b=a
    · subst hb;rw [bq] at e;cases e;obtain ⟨_,q⟩:=(show cm X.prog X.w H1 s'.heap b (.frz o u) from J.hok b _ ha)
      exact st b u q
    · rw [aB hb] at e;exact st b x (J.hok b x e)
theorem w5 {ρ:aW} {i:Nat} {d:PyData} {v:V} (sl:Sl H σ ρ) (k:Kp H H1) (hv:σ[i]?=some (some v)) (hr:Rp H1 d v):Sl H1 σ (jw i d ρ):=by
  unfold jw;refine ⟨by rw [List.length_set,List.length_map];exact sl.1,fun j c w' e1 e2=>?_⟩;rw [List.getElem?_set] at e1;by_cases hij:i=j
  · subst hij;rw [if_pos rfl] at e1;split at e1
    · cases e1;rw [hv] at e2;cases e2;exact ⟨_,rfl,hr⟩
    · cases e1
  · rw [if_neg hij,List.getElem?_map] at e1;cases ec:ρ[j]? with
    | none=>rw [ec] at e1;cases e1
    | some c' =>
      rw [ec] at e1;have e1':Dm c'=c:=Option.some.inj e1;subst e1';have q:=sl.2 j c' w' ec e2;cases c' with
      | exc p=>exact q
      | non=>exact True.intro
      | val d'=>obtain ⟨v,z1,z2⟩:=q;exact ⟨v,z1,Rp.kp k _ _ z2⟩
      | own d'=>exact True.intro
end
theorem re {H H':Hp}:∀ {ns:List Int} {vs:List V},bD H (ns.map .int) vs->bD H' (ns.map .int) vs
  | [],vs,r=>by rw [r.nil_inv];exact bD.nil
  | n::ns,vs,r=>by
    rw [List.map_cons] at r;obtain ⟨v,r',rfl,p,t⟩:=r.cons_inv;exact bD.cons (by simp only [Rp] at p ⊢;exact p) (re t)
theorem By {H H':Hp} {d d':PyData} {v:V} (kt:∀ b xs,H b=some (.tup xs)->H' b=some (.tup xs)) (h:ma d=.ok d') (r:Rp H d v):Rp H' d' v:=by
  cases d with
  | tuple ds =>
    cases ei:dF ds with
    | none =>
      rw [show ma (.tuple ds)=(match dF ds with | some _=>R.ok (PyData.tuple ds) | none=>.no) from rfl,ei] at h;cases h
    | some ns =>
      rw [show ma (.tuple ds)=(match dF ds with | some _=>R.ok (PyData.tuple ds) | none=>.no) from rfl,ei] at h;cases h;simp only [Rp] at r ⊢;obtain ⟨a,vs,e,ha,q⟩:=r;rw [ig ei] at q ⊢;exact ⟨a,vs,e,kt a vs ha,re q⟩
  | none=>cases h;simp only [Rp] at r ⊢;exact r
  | bool b=>cases h;simp only [Rp] at r ⊢;exact r
  | int i=>cases h;simp only [Rp] at r ⊢;exact r
  | str x=>cases h;simp only [Rp] at r ⊢;exact r
  | list ds=>cases h
  | dict kvs=>cases h
theorem cU.lent {X:Cx} {e:Expr} {f:Fe} (i:Nat) (h:cU X e f):cU X e (lb i f):=by
  intro pins s σ H Q I q;obtain ⟨ρ,sl,q⟩:=q;by_cases ho:∃ d,ρ[i]?=some (.own d)
  · obtain ⟨d,ho⟩:=ho;have el:lb i f ρ=(lf (f (jw i d ρ))>>=ma):=by unfold lb;rw [ho]
    rw [el] at q;have go:∀ (a:Addr) (u:HO) (hu:H a=some u) (hm:(∃ xs,u=.lst xs)\/∃ ks,u=.dK ks) (o:Obj) (J:aS X pins σ (de H a (.frz o u)) s) (sl1:Sl (de H a (.frz o u)) σ (jw i d ρ)),wpAny (model X.prog X.w) X.A (eval e X.env) (EP X pins σ Q) X.xe s:=fun a u hu hm o J sl1=>by
      cases ef:f (jw i d ρ) with
      | no=>rw [ef] at q;exact q.elim
      | ex c=>rw [ef] at q;exact q.elim
      | ok d1 =>
        rw [ef] at q;change vV X ia (ma d1) H Q at q;cases ea:ma d1 with
        | no=>rw [ea] at q;exact q.elim
        | ex c=>exact (zm ea).elim
        | ok d2 =>
          rw [ea] at q;refine dM (h pins s σ (de H a (.frz o u)) (fun v H'=>aM (de H a (.frz o u)) H'/\Rp H' d1 v) J ⟨jw i d ρ,sl1,by rw [ef];exact fun v H' hs p=>⟨hs,p⟩⟩) fun w s' ⟨v,H',J',r,hs,p⟩=>?_
          exact ⟨v,de H' a u,Aa I hu hm hs J',r,q v _ (yH hu hs) (By (fun b xs e=>by
            have hb:b≠a:=fun z=>by subst z;rw [hs b _ bq] at e;cases e
            rw [aB hb];exact e) ea p)⟩
    obtain ⟨w',h2,v,rfl,qo⟩:=sl.at ho;cases d <;> simp only [jl] at qo
    · rename_i ds;obtain ⟨a,vs,rfl,ha,r⟩:=qo;obtain ⟨o,J⟩:=ik I ha (.inl ⟨_,rfl⟩);have kp:=gL (o':=.frz o (.lst vs)) ha (.inl ⟨_,rfl⟩);have hr:Rp (de H a (.frz o (.lst vs))) (.list ds) (.ref a):=by
        simp only [Rp];exact ⟨a,o,vs,rfl,bq,bD.kp kp _ _ r⟩
      exact go a _ ha (.inl ⟨_,rfl⟩) o J (w5 sl kp h2 hr)
    · rename_i ds;obtain ⟨a,vs,rfl,ha,r⟩:=qo;obtain ⟨o,J⟩:=ik I ha (.inr ⟨_,rfl⟩);have kp:=gL (o':=.frz o (.dK vs)) ha (.inr ⟨_,rfl⟩);have hr:Rp (de H a (.frz o (.dK vs))) (.dict ds) (.ref a):=by
        simp only [Rp];exact .inl ⟨a,o,vs,rfl,bq,eP.kp kp _ _ r⟩
      exact go a _ ha (.inr ⟨_,rfl⟩) o J (w5 sl kp h2 hr)
  · have el:lb i f ρ=f ρ:=by
      unfold lb;split
      · rename_i d e1;exact (ho ⟨d,e1⟩).elim
      · rfl
    rw [el] at q;exact h pins s σ H Q I ⟨ρ,sl,q⟩
theorem vd {X:Cx} {e:Expr} {f:Fe} (i:Nat) (h:Z.cU X e f):Z.cU X e (lb i f) :=
  ⟨D2.cU.lent i h.un⟩
noncomputable def zY (C:Addr) (names:List Str) (ds:List PyData):PyData:=.dict ((.none,.int C)::(names.zip ds).map fun p=>(.str p.1,p.2))
noncomputable def vw (f:Str):List (PyData×PyData)->R PyData
  | []=>.no
  | (.str x,d)::r=>if x=f then .ok d else vw f r
  | _::_=>.no
noncomputable def lD (C:Addr) (f:Str):PyData->R PyData
  | .dict ((.none,.int c)::kvs)=>if c=(C:Int) then vw f kvs else .no
  | _=>.no
noncomputable def ua (C:Addr) (names:List Str) (fs:aW->R (List PyData)):Fe:=fun ρ=>fs ρ>>=fun ds=>.ok (zY C names ds)
noncomputable def Ho (C:Addr) (names:List Str):Sp:=fun vs H Q _=>∃ x dx ws,vs=.ref x::ws/\H x=some (.ins C dx [])/\ws.length=names.length/\∀ H',H' x=some (.ins C dx (names.zip ws))->(∀ b,b≠x->H' b=H b)->Q .non H'
section
variable {X:Cx} {pins:List (Addr×Obj)} {σ:St} {H:Hp} {s:Shared} {a C dx:Addr} {fs:List (Str×V)}
theorem ul (I:aS X pins σ H s) (h:H a=some (.ins C dx fs)):∃ o,aS X pins σ (de H a (.frz o (.ins C dx fs))) s:=by
  have ob:=I.hok a _ h;obtain ⟨o,hg⟩:=sE ob;have nt:∀ b xs,H b=some (.tup xs)->b≠a:=fun b xs q z=>by subst z;rw [h] at q;cases q
  have nf:∀ b o' u',H b=some (.frz o' u')->b≠a:=fun b o' u' q z=>by subst z;rw [h] at q;cases q
  have nb:∀ b ps,H b=some (.tbl ps)->b≠a:=fun b ps q z=>by subst z;rw [h] at q;cases q
  have nw:∀ b y,H b=some (.own y)->b≠a:=fun b y q z=>by subst z;rw [h] at q;cases q
  have nn:∀ b,H b=none->b≠a:=fun b q z=>by subst z;rw [h] at q;cases q
  have st:∀ b x,cm X.prog X.w H s.heap b x->cm X.prog X.w (de H a (.frz o (.ins C dx fs))) s.heap b x:=fun b x q =>
    q.stay (fun c v _ e=>e) (fun c e=>by rw [aB (nw _ _ e)];exact e) fun c xs e=>by rw [aB (nt _ _ e)];exact e
  refine ⟨o,⟨I.ok,I.os,I.bare,⟨I.base.keep,I.base.slot,fun b ob' e n hx=>?_,I.base.there,fun b xs e=>?_,fun b ob' v e=>?_,fun b ps e=>?_⟩,I.loc,I.cell,?_,fun x c e=>?_,fun p hp=>?_,fun b x e=>?_,I.len⟩⟩
  · have:=I.base.free b ob' e n hx;rw [aB (nn _ this)];exact this
  · have:=I.base.tups b xs e;rw [aB (nt _ _ this)];exact this
  · have:=I.base.frzs b ob' v e;rw [aB (nf _ _ _ this)];exact this
  · obtain ⟨m,q⟩:=I.base.tbls b ps e;exact ⟨m,by rw [aB (nb _ _ q)];exact q⟩
  · rw [aB (nn _ I.free)];exact I.free
  · rw [aB (nn _ (I.freeC x c e))];exact I.freeC x c e
  · obtain ⟨p1,p2,p3⟩:=I.pin p hp;exact ⟨p1,by rw [aB (nn _ p2)];exact p2,p3⟩
  · by_cases hb:b=a
    · subst hb;rw [bq] at e;cases e;exact ⟨hg,st b _ ob⟩
    · rw [aB hb] at e;exact st b x (I.hok b x e)
theorem B5 {o':HO} (h:H a=some (.ins C dx fs)):Kp H (de H a o'):=by
  refine ⟨fun b xs e=>?_,fun b o v e=>?_⟩
  · rw [aB];exact e;rintro rfl;rw [h] at e;cases e
  · rw [aB];exact e;rintro rfl;rw [h] at e;cases e
end
theorem xl {H:Hp}:∀ {names:List Str} {ds:List PyData} {vs:List V},bD H ds vs->uO H ((names.zip ds).map fun p=>(.str p.1,p.2)) (names.zip vs)
  | [],ds,vs,_=>by simp only [List.zip_nil_left,List.map_nil,uO]
  | n::names,[],vs,r=>by
    simp only [bD] at r;subst r;simp only [List.zip_nil_right,List.map_nil,uO]
  | n::names,d::ds,vs,r=>by
    simp only [bD] at r;obtain ⟨v,t,rfl,p,q⟩:=r;simp only [List.zip_cons_cons,List.map_cons,uO,Dd];exact ⟨n,v,_,rfl,⟨rfl,p⟩,xl q⟩
theorem wO {H:Hp} {f:Str} {d:PyData}:∀ {kvs:List (PyData×PyData)} {fs:List (Str×V)},uO H kvs fs->vw f kvs=.ok d->∃ v,fs.lookup f=some v/\Rp H d v
  | [],fs,_,e=>by cases e
  | (k,d')::kvs,fs,r,e=>by
    simp only [uO,Dd] at r;obtain ⟨x,v,t,rfl,⟨rfl,p⟩,q⟩:=r;simp only [vw] at e;by_cases h:x=f
    · rw [if_pos h] at e;cases e;subst h;exact ⟨v,by rw [List.lookup_cons_self],p⟩
    · rw [if_neg h] at e;obtain ⟨w,w1,w2⟩:=wO q e;refine ⟨w,?_,w2⟩;rw [List.lookup_cons];have:(f==x)=false:=by
        cases z:f==x with
        | false=>rfl
        | true=>exact (h (eq_of_beq z).symm).elim
      rw [this];exact w1
theorem wN {f:Str} {c:Str}:∀ {kvs:List (PyData×PyData)},vw f kvs≠.ex c
  | [],e=>by cases e
  | (k,d)::kvs,e=>by
    cases k <;> simp only [vw] at e <;> try cases e
    split at e
    · cases e
    · exact wN e
section
variable {X:Cx} {e:Expr} {es:List Expr} {fe:Fe} {pos p:Pos} {nl:Nat} {G:List Str} {x:Str}
theorem tL {k:Nat} {C f:Addr} {fd:FuncData} {ps names:List Str} {fs:aW->R (List PyData)} (M:Mk X.K C f) (F:bd X.prog X.w X.K X.mg X.base (cS X.prog X.w X.mg) k f fd ps (Ho C names)) (hr:fG (k+1) X.A) (T:Tb X nl G) (j:Nat) (hG:G[j]?=some x) (hm:X.mg x=some (.ref C)) (hb:bz X.K fd ps []) (ha:Z.tj X (e::es) fs) (hfs:∀ ρ ds,fs ρ=.ok ds->ds.length=names.length) (he:(e::es).all bh=true:=by rfl):Z.cU X (.Call (.Name x p) (e::es) [] pos) (ua C names fs):=⟨have ha:=ha.un;by
  rw [List.all_cons,Bool.and_eq_true] at he;have g:=T.gl x (List.mem_of_getElem? hG);intro pins s σ H Q I ⟨ρ,sl,q⟩;unfold ua at q;have base:=Cp (p:=p) (pos:=pos) M F hr g.1 hm hb .nil xg ha g.2.1 (bP he.1) (mU he.2);cases e1:fs ρ with
  | ex c=>rw [e1] at q;exact dM (base pins s σ H (fun _ _=>False) I ⟨ρ,sl,by rw [e1];exact q⟩) fun u s' ⟨v,H',I',r,z⟩=>z.elim
  | no=>rw [e1] at q;exact q.elim
  | ok ds =>
    rw [e1] at q;have q':vV X ia (.ok (zY C names ds)) H Q:=q;refine dM (base pins s σ H (fun v H'=>∃ a dx vs,v=.ref a/\H a=none/\H' a=some (.ins C dx (names.zip vs))/\bD H' ds vs/\aM H H') I ⟨ρ,sl,?_⟩) fun u s' ⟨v,H',I',r,a,dx,vs,ev,hn,ha',rp,sm⟩=>?_
    · rw [e1];intro vs H1 s1 r1 y dy hy hdy hne;rw [List.append_nil];have r2:=nT.mp r1;refine ⟨y,dy,vs,rfl,bq,by rw [r2.length];exact hfs ρ ds e1,fun H' h1 h2=>⟨rfl,y,dy,vs,rfl,s1.free hy,h1,?_,?_⟩⟩
      · have sm:aM H1 H':=fun b o eb=>by
          rw [h2 b (bg eb hy),aB (bg eb hy),aB (bg eb hdy)];exact eb
        exact r2.mono sm
      · intro b o eb;have eb1:=s1 b o eb;rw [h2 b (bg eb1 hy),aB (bg eb1 hy),aB (bg eb1 hdy)];exact eb1
    · subst ev;obtain ⟨o,J⟩:=ul I' ha';have kp:=B5 (o':=.frz o (.ins C dx (names.zip vs))) ha';refine ⟨.ref a,_,J,r,q' _ _ (fun b x eb=>by rw [aB (bg eb hn)];exact sm b x eb) ?_⟩;show Rp _ (zY C names ds) _;unfold zY;simp only [Rp];refine .inr ⟨a,o,C,dx,_,rfl,bq,?_⟩;simp only [wr];exact ⟨True.intro,uO.kp kp _ _ (xl rp)⟩⟩
noncomputable def GK (K:PySem.W.Frag) (ta:TE) (f:Str):TE:=fun σ H Q=>ta σ H fun x H1=>∃ a o C dx fs v,x=.ref a/\H1 a=some (.frz o (.ins C dx fs))/\yU K C/\fy K C f/\fs.lookup f=some v/\Q v H1
theorem Co {f:Str} {ta:TE} (he:PE X e ta) (hb:attributeBase e f X.env (eval e X.env)=eval e X.env):PE X (.Attribute e f pos) (GK X.K ta f):=by
  intro pins s σ H Q I h;refine Bz hb (dM (he pins s σ H _ I h) fun u s1 zq0=>?_);obtain ⟨x,H1,I1,rx,a,o,C,dx,fs,v,ex,ea,c,n,l,q⟩:=zq0;subst ex;obtain rfl:u=Value.ref a:=rx;obtain ⟨_,d,z,ne,ob,mA,nn,r,qq⟩:=(show cm X.prog X.w H1 s1.heap a (.frz o (.ins C dx fs)) from I1.hok a _ ea)
  obtain ⟨u',hu,ru⟩:=ny.some_of (v:=v) (o:=mA f) (by rw [<- l];exact r f);exact BT I1.kIn ⟨ob,nn,ne⟩ (c.get f) c.hd n hu (yg ru) ⟨v,H1,I1.tok _,ru,q⟩
theorem l6 {C:Addr} {f:Str} (cl:yU X.K C) (na:fy X.K C f) (he:Z.cU X e fe) (hb:attributeBase e f X.env (eval e X.env)=eval e X.env:=by rfl):Z.cU X (.Attribute e f pos) (e1 (lD C f) fe):=⟨have he:=he.un;by
  refine PE.imp (Co he hb) fun σ H Q h=>?_
  refine (fA (P:=ia) (f:=fe) (k:=fun _ x=>lD C f x) (gc (X:=X) fZ Q) h).post fun v H1 zq0=>?_
  obtain ⟨_,d1,_,_,p1,q1⟩:=zq0;unfold lD at q1;split at q1
  · rename_i c kvs;split at q1
    · rename_i hc;cases ef:vw f kvs with
      | no=>rw [ef] at q1;exact q1.elim
      | ex c=>exact (wN ef).elim
      | ok d =>
        rw [ef] at q1;have p2:Rp H1 (.dict ((.none,.int c)::kvs)) v:=p1;simp only [Rp] at p2;rcases p2 with ⟨a,o,ks,rfl,ha,r⟩ | ⟨a,o,C',dx,fs,rfl,ha,r⟩
        · simp only [eP,Bh] at r;obtain ⟨κ,_,_,_,⟨r1,_⟩,_⟩:=r;cases κ <;> cases r1
        · simp only [wr] at r;obtain ⟨r1,r2⟩:=r;have hC:c=(C':Int):=by injection r1 with _ r3;injection r3
          have hCC:C'=C:=by
            have:(C':Int)=(C:Int):=hC.symm.trans hc;exact Int.ofNat.inj this
          subst hCC;obtain ⟨w,w1,w2⟩:=wO r2 ef;exact ⟨a,o,C',dx,fs,w,rfl,ha,cl,na,w1,q1 w H1 (aM.refl _) w2⟩
    · exact q1.elim
  · exact q1.elim⟩
end
theorem Gh {a b c:Str} {x y z:V} (h1:¬ a=b) (h2:¬ a=c) (h3:¬ b=c):jb c z (jb b y (jb a x []))=[(a,x),(b,y),(c,z)]:=by
  simp only [jb,if_neg h1,if_neg h2,if_neg h3]
noncomputable abbrev gk:=List PyData->R PyData
structure gu (P:Program) (w:World) (K:PySem.W.Frag) (mg:Str->Option Value) (base:Heap) (k:Nat) (x:Str) (ps:List Str) (F:gk) (f:Addr) (fd:FuncData):Prop where
  ok:bd P w K mg base (cS P w mg) k f fd ps (dC F ps.length)
  m:mg x=some (.ref f)
  kp:PySem.W.keepIn K (.ref f)=true
  b:bz K fd ps []
theorem aw {X:Cx} {k:Nat} {f:Addr} {fd:FuncData} {ps:List Str} {F:gk} {x:Str} {p pos:Pos} {e:Expr} {es:List Expr} {fs:aW->R (List PyData)} {nl:Nat} {G:List Str} (C:gu X.prog X.w X.K X.mg X.base k x ps F f fd) (hr:fG k X.A) (T:Tb X nl G) (j:Nat) (hG:G[j]?=some x) (ha:Z.tj X (e::es) fs) (hlen:(e::es).length=ps.length) (hfs:∀ ρ ds,fs ρ=.ok ds->ds.length=ps.length) (he:(e::es).all bh=true:=by rfl):Z.cU X (.Call (.Name x p) (e::es) [] pos) (aC F fs):=⟨have ha:=ha.un;BQ C.ok hr T j hG C.m C.kp C.b ha hlen hfs he⟩
structure cy (K:PySem.W.Frag) (x:Str) (st:Stmt) (f:Addr) (fd:FuncData):Prop where
  ns:PySem.W.nsIn K mainGlobals x=some (some (.ref f))
  fn:gn K x x st f fd
theorem aZ {K:PySem.W.Frag} {x:Str} {st:Stmt} {f:Addr} {oc:Value} {od an:Option Addr} {osl:Array (Option Value)} {kV doc pm cdv ct:Value} (a:PySem.W.nsIn K mainGlobals x=some (some (.ref f))) (l:K.lookup f=some ⟨oc,od,.func (PySem.W.fnOf x x (eQ st) (dA st) (aq st) .none kV doc pm an cdv ct),osl⟩) (c:PySem.W.codeIn K cdv x=true) (k:PySem.W.keepIn K (.ref f)=true) :
    cy K x st f (PySem.W.fnOf x x (eQ st) (dA st) (aq st) .none kV doc pm an cdv ct):=⟨a,vx l c k⟩
noncomputable def Hn (i:Nat) (g:Fs):Fs:=fun ρ=>match ρ[i]? with
  | some (.own d)=>g (ρ.set i (.val d))
  | _=>g ρ
theorem Bv {X:Cx} {st:Stmt} {g:Fs} (i:Nat) (h:Z.kW X st g):Z.kW X st (Hn i g):=⟨have h:=h.un;fun Fm=>by
  intro pins s σ H D I ⟨ρ,sl,q⟩;unfold Hn at q;split at q
  · rename_i d e;obtain ⟨H2,v,I2,sl2,_,_⟩:=zN I sl e;exact h Fm pins s σ H2 D I2 ⟨_,sl2,q⟩
  · exact h Fm pins s σ H D I ⟨ρ,sl,q⟩⟩
end D2
namespace D2
open PySem PySem.Spec PySem.Calls PySem.W PyProof.Rows L2 Builtin Builtin.ObjectAttr Builtin.Getset_descriptor
end D2
namespace D2
open PySem PySem.Spec PyProof.Rows L2 PySem.Builtin PySem.Builtin.Str
end D2
set_option maxHeartbeats 400000
namespace D2
open PySem PySem.Spec PyProof.Rows L2 PySem.Builtin
end D2
namespace D2
open PySem PySem.Spec PyProof.Rows L2
section
variable {X:Cx} {a b c:Expr} {fa fb fc:Fe} {pos p2:Pos} {nl:Nat} {G:List Str} {x:Str} {p:Pos}
theorem xS (hc:X.calm=true):eD X (.builtin "any") (fun xs H Q=>∃ (p:Addr) (bs:List Bool),xs=[.ref p]/\n6 X.K H p (bs.map V.bl)/\Q (.bl (bs.any id)) H):=by
  intro pins s σ H xs us Q I r h;obtain ⟨p,bs,rfl,hq,q⟩:=h;obtain ⟨u,rfl,rx⟩:=ir r;cases rx;obtain ⟨its,rv,pl,hz⟩:=I.list hq;have hh:X.A.in1.handled=none:=I.ok.hd hc;have hlt:p≠s.heap.objs.size:=by obtain ⟨o,e,_⟩:=pl.isList;exact Nat.ne_of_lt (Heap.lt_size e)
  have hits:its=bs.map Value.bool:=by
    have key:∀ (bs:List Bool) (us:List Value),bE (bs.map V.bl) us->us=bs.map Value.bool:=by
      intro bs;induction bs with
      | nil=>intro us r;cases r;rfl
      | cons k bs ih=>intro us r;rw [List.map_cons] at r;cases r with | cons r1 r2=>rw [ih _ r2];cases r1;rfl
    exact key bs its rv
  refine call_any_walk (wpAny_pyIter_list pl.isList ?_);refine ⟨s.heap.objs.size,_,_,its.toArray.size,_,_,fun i=>(bs[i]?).getD false,rfl,Walks.list hh s.heap.objs.size p hlt its.toArray,⟨⟨_,Heap.get?_push_size _ rfl,rfl,rfl⟩,?_⟩,fun i v s' Q' E' hv hQ'=>?_,fun h' tk kp=>?_⟩
  · obtain ⟨o,e,r'⟩:=pl.isList;exact ⟨o,Heap.get?_push_of_some _ e,r'⟩
  · have hv':its[i]?=some v:=by simpa using hv
    rw [hits,List.getElem?_map] at hv';cases e:bs[i]? with
    | none=>rw [e] at hv';cases hv'
    | some k =>
      rw [e] at hv';cases hv';dsimp only at hQ';rw [e] at hQ';exact wpAny_truthy_bool hQ'
  · have e:((List.range its.toArray.size).any fun i=>(bs[i]?).getD false)=bs.any id:=by
      rw [List.size_toArray,hits,List.length_map];have key:∀ (l:List Bool),((List.range l.length).any fun i=>(l[i]?).getD false)=l.any id:=by
        intro l;induction l with
        | nil=>rfl
        | cons k l ih =>
          rw [List.length_cons,List.range_succ_eq_map,List.any_cons,List.any_map,List.any_cons,<- ih];rfl
      exact key bs
    rw [e];refine ⟨.bl (bs.any id),H,I.kept (t':=tk) fun b o g=>kp b o (fun z=>?_) (Heap.get?_push_of_some _ g),rfl,q⟩;rw [List.mem_singleton.mp z] at g;exact absurd (Heap.lt_size g) (Nat.lt_irrefl _)
noncomputable def qx:List PyData->Option Bool
  | []=>some false
  | .bool k::ds=>(qx ds).map fun r=>k||r
  | _=>none
noncomputable def vn:PyData->R PyData
  | .list ds=>match qx ds with
    | some k=>.ok (.bool k)
    | none=>.no
  | _=>.no
theorem tS:∀ {ds:List PyData} {k:Bool},qx ds=some k->∃ bs:List Bool,ds=bs.map PyData.bool/\k=bs.any id
  | [],k,h=>by cases h;exact ⟨[],rfl,rfl⟩
  | d::ds,k,h=>by
    cases d with
    | bool j =>
      simp only [qx] at h;cases e:qx ds with
      | none=>rw [e] at h;cases h
      | some r =>
        rw [e] at h;cases h;obtain ⟨bs,e1,e2⟩:=tS e;exact ⟨j::bs,by rw [e1];rfl,by rw [e2];rfl⟩
    | _=>cases h
theorem tJ (T:Tb X nl G) (j:Nat) (hG:G[j]?=some ("any" : Str)) (hm:X.mg "any" = none) (ha:Z.eo X a fa) (he:bh a=true:=by rfl):Z.cU X (.Call (.Name "any" p) [a] [] pos) (e1 vn fa):=⟨have ha:=ha.un;by
  refine zo T j hG hm fZ PyProof.Rows.boot_any (xS T.calm) (fun H x d Q hx q=>?_) ha he;cases d with
  | list ds =>
    simp only [vn] at q;cases ei:qx ds with
    | none=>rw [ei] at q;exact q.elim
    | some k =>
      rw [ei] at q;obtain ⟨bs,e1,e2⟩:=tS ei;obtain ⟨a',vs,rfl,h,r⟩:=fD (K:=X.K) hx;rw [e1] at r;rw [nV r] at h;refine ⟨a',bs,rfl,h,?_⟩;rw [<- e2];exact q _ H (aM.refl _) ft
  | _=>exact q.elim⟩
end
noncomputable def DH (d:Addr) (ob:Obj):It :=
  ⟨fun i H=>∃ ks kv,H d=some (.frz ob (.dK ks))/\ks[i]?=some kv,
   fun i H x H'=>H'=H/\∀ ks kv,H d=some (.frz ob (.dK ks))->ks[i]?=some kv->x=kV kv.1,
   fun i H=>∃ ks,H d=some (.frz ob (.dK ks))/\ks.length<=i⟩
noncomputable def DI (d:Addr) (ob:Obj):It :=
  ⟨fun i H=>∃ ks kv,H d=some (.frz ob (.dK ks))/\ks[i]?=some kv,
   fun i H x H'=>H'=H/\∀ ks kv,H d=some (.frz ob (.dK ks))->ks[i]?=some kv->x=kv.2,
   fun i H=>∃ ks,H d=some (.frz ob (.dK ks))/\ks.length<=i⟩
theorem vE:∀ {ks:List (dD×V)} {vs:List (dD×Value)} {i:Nat} {kv:dD×V},KV ks vs->ks[i]?=some kv->∃ u,vs[i]?=some (kv.1,u)/\bW kv.2 u
  | _,_,i,kv,.nil,h=>by simp at h
  | _,_,i,kv,.cons (a:=p) (b:=q) r t,h=>by
    cases i with
    | zero =>
      simp at h;subst h;refine ⟨q.2,?_,r.2⟩;simp;rw [r.1]
    | succ i=>exact vE (i:=i) t (by simpa using h)
theorem nJ {X:Cx} {pins:List (Addr×Obj)} {σ:St} {H:Hp} {s:Shared} {d:Addr} {ob:Obj} {ks:List (dD×V)} (I:aS X pins σ H s) (hd:H d=some (.frz ob (.dK ks))) :
    ∃ vs es ep,KV ks vs/\(d==sysModules)=false/\ob.data=.dict es ep/\es.size=vs.length/\s.heap.DictAt (dB X.prog X.w) d vs ep:=by
  obtain ⟨hob,_,hlo,vs,kv,dd⟩:=(show cm X.prog X.w H s.heap d (.frz ob (.dK ks)) from I.hok d _ hd)
  obtain ⟨ep,hat⟩:=dd.dictAt;obtain ⟨o,es,ho,ex,hdat,kk,pp,nn⟩:=id hat;rw [hob] at ho;cases ho;exact ⟨vs,es,ep,kv,hlo,hdat,by rw [<- pp.length];simp,hat⟩
theorem CT {P:Program} {w:World} {K:PySem.W.Frag} {tg:Expr} (d it:Addr) {ob:Obj} {es} {ep:Nat} (hob:ob.data=.dict es ep):rS P w K tg (DH d ob) [it] it (fun i h=>h.IsKeyIter it d i es.size ep) where
  mem:=by simp
  obj:=fun i h st b hb=>by
    have e:b=it:=by simpa using hb
    subst e;obtain ⟨o,e,c,d⟩:=st;exact ⟨o,e,fun v z=>by rw [d] at z;cases z⟩
  keep:=fun i h h' st k=>st.at fun o e=>k it (by simp) o e
  item:=by
    intro X hP hw hK hc i pins s σ H E I hf st hg;subst hP hw hK;obtain ⟨ks,kv,hd,hx⟩:=hg;obtain ⟨vs,es',ep',rel,hlo,hdat,hsz,hat⟩:=nJ I hd;rw [hob] at hdat;cases hdat;obtain ⟨u,hu,ru⟩:=vE rel hx;obtain ⟨f0,f1,f2,f3,f4,f5⟩:=hf it (by simp);rw [hsz] at st;refine wpAny_pyNext_dict_item st hat hu fun key h' hkey st' sb=>?_
    have I1:aS X pins σ H { s with heap:=h' }:=I.turned (t':=s.toks) (fun b o hb e=>(sb.2 b hb).trans e) f0 f1 f3 f4 f5;obtain ⟨o,e,c,d'⟩:=id st';exact ⟨key,rfl,uh (s:={ s with heap:=h' }) e c d' (by decide) ⟨kV kv.1,H,I1,B7 hkey,⟨rfl,fun ks' kv' h1 h2=>by rw [hd] at h1;cases h1;rw [hx] at h2;cases h2;rfl⟩,by rw [hsz];exact st',fun b hb=>(hf b hb).1⟩⟩
  done:=by
    intro X hP hw hK hc i pins s σ H E I hf st hg;subst hP hw hK;obtain ⟨ks,hd,hx⟩:=hg;obtain ⟨vs,es',ep',rel,hlo,hdat,hsz,hat⟩:=nJ I hd;rw [hob] at hdat;cases hdat;obtain ⟨f0,f1,f2,f3,f4,f5⟩:=hf it (by simp);rw [hsz] at st;have hl:ks.length=vs.length:=rel.length;exact wpAny_pyNext_dict_end (I.ok.hd hc) st hat (List.getElem?_eq_none (by omega)) fun h' eb=>⟨rfl,I.turned (t':=s.toks) (fun b o hb e=>eb b o hb e) f0 f1 f3 f4 f5⟩
  self:=fun _ _ _ _ _ st h=>wpAny_pyIter_keyiter st h
theorem CU {P:Program} {w:World} {K:PySem.W.Frag} {tg:Expr} (d it:Addr) {ob:Obj} {es} {ep:Nat} (hob:ob.data=.dict es ep):rS P w K tg (DI d ob) [it] it (fun i h=>h.IsValIter it d i es.size ep) where
  mem:=by simp
  obj:=fun i h st b hb=>by
    have e:b=it:=by simpa using hb
    subst e;obtain ⟨o,e,c,d⟩:=st;exact ⟨o,e,fun v z=>by rw [d] at z;cases z⟩
  keep:=fun i h h' st k=>st.at fun o e=>k it (by simp) o e
  item:=by
    intro X hP hw hK hc i pins s σ H E I hf st hg;subst hP hw hK;obtain ⟨ks,kv,hd,hx⟩:=hg;obtain ⟨vs,es',ep',rel,hlo,hdat,hsz,hat⟩:=nJ I hd;rw [hob] at hdat;cases hdat;obtain ⟨u,hu,ru⟩:=vE rel hx;obtain ⟨f0,f1,f2,f3,f4,f5⟩:=hf it (by simp);rw [hsz] at st;refine wpAny_pyNext_values_item st hat hu fun h' st' sb=>?_
    have I1:aS X pins σ H { s with heap:=h' }:=I.turned (t':=s.toks) (fun b o hb e=>(sb.2 b hb).trans e) f0 f1 f3 f4 f5;obtain ⟨o,e,c,d'⟩:=id st';exact ⟨u,rfl,uh (s:={ s with heap:=h' }) e c d' (by decide) ⟨kv.2,H,I1,ru,⟨rfl,fun ks' kv' h1 h2=>by rw [hd] at h1;cases h1;rw [hx] at h2;cases h2;rfl⟩,by rw [hsz];exact st',fun b hb=>(hf b hb).1⟩⟩
  done:=by
    intro X hP hw hK hc i pins s σ H E I hf st hg;subst hP hw hK;obtain ⟨ks,hd,hx⟩:=hg;obtain ⟨vs,es',ep',rel,hlo,hdat,hsz,hat⟩:=nJ I hd;rw [hob] at hdat;cases hdat;obtain ⟨f0,f1,f2,f3,f4,f5⟩:=hf it (by simp);rw [hsz] at st;have hl:ks.length=vs.length:=rel.length;exact wpAny_pyNext_values_end (I.ok.hd hc) st hat (List.getElem?_eq_none (by omega)) fun h' eb=>⟨rfl,I.turned (t':=s.toks) (fun b o hb e=>eb b o hb e) f0 f1 f3 f4 f5⟩
  self:=fun _ _ _ _ _ st h=>wpAny_pyIter_valiter st h
section
variable {X:Cx} {tg o:Expr} {fo:Fe} {apos cpos:Pos}
noncomputable def IU (tl:TE):TI:=fun σ H R=>tl σ H fun x H1=>∃ a ob ks,x=.ref a/\H1 a=some (.frz ob (.dK ks))/\R (DH a ob) H1
noncomputable def IV (tl:TE):TI:=fun σ H R=>tl σ H fun x H1=>∃ a ob ks,x=.ref a/\H1 a=some (.frz ob (.dK ks))/\R (DI a ob) H1
theorem Gc {tl:TE} (hl:PE X o tl):PI X tg o (IU tl):=by
  intro pins s σ H R I h;refine dM (hl pins s σ H _ I h) fun v s1 zq0=>?_
  obtain ⟨x,H1,I1,r1,q1⟩:=zq0;obtain ⟨a,ob,ks,e,hd,q⟩:=q1;subst e;cases r1;obtain ⟨vs,es,ep,rel,hlo,hdat,hsz,hat⟩:=nJ I1 hd;refine wpAny_pyIter_dict hlo hat ?_;refine ⟨s1.heap.objs.size,[s1.heap.objs.size],_,_,H1,rfl,I1.kept (t':=s1.toks) fun b o e=>Heap.get?_push_of_some _ e,CT a _ hdat,⟨_,Heap.get?_push_size _ rfl,rfl,by rw [hsz];rfl⟩,fun b hb=>?_,q⟩;have e:b=s1.heap.objs.size:=by simpa using hb
  subst e;exact I1.fpOk (Nat.le_refl _) (I1.hok.fresh (Nat.le_refl _))
theorem Ge {tl:TE} (ho:PE X o tl) (hbase:attributeBase o "values" X.env (eval o X.env)=eval o X.env:=by rfl) (hline:(apos.endLine==cpos.line)=true:=by rfl):PI X tg (.Call (.Attribute o "values" apos) [] [] cpos) (IV tl):=by
  intro pins s σ H R I h;refine wpAny_Call_method0_late hbase hline (dM (ho pins s σ H _ I h) fun v s1 zq0=>?_);obtain ⟨x,H1,I1,r1,q1⟩:=zq0;obtain ⟨a,ob,ks,e,hd,q⟩:=q1;subst e;cases r1;obtain ⟨t1,t2,hlo⟩:=D6 I1 (.inl ⟨ks,.inr ⟨ob,hd⟩⟩);obtain ⟨vs,es,ep,rel,_,hdat,hsz,hat⟩:=nJ I1 hd;refine ⟨"dict","dict.values",PySem.F.plainAttrs_dict,PySem.F.slot_dict_values,PySem.F.type_dict_values,t1,t2,Calls.callWith_builtin rfl (PySem.evalArgs_none ?_)⟩;refine call_meetsIn PySem.F.slot_dict_values t1 PySem.F.entry_dict_values (PySem.F.args_dict_values_1 _) (meets_dict_values (dB X.prog X.w) a hlo) ⟨⟨vs,hat.dictOf⟩,?_⟩;have I2:aS X pins σ H1 { s1 with heap:=s1.heap.push { cls:=.type "dict_values",data:=.fields #[.ref a] } }:=I1.kept (t':=s1.toks) fun b o e=>Heap.get?_push_of_some _ e
  show wpAny _ _ (pyIter (.ref s1.heap.objs.size)) _ _ { s1 with heap:=s1.heap.push { cls:=.type "dict_values",data:=.fields #[.ref a] } };refine wpAny_pyIter_values (s:={ s1 with heap:=s1.heap.push { cls:=.type "dict_values",data:=.fields #[.ref a] } }) ⟨_,Heap.get?_push_size _ rfl,rfl,rfl⟩ (hat.push _) ?_;refine ⟨_,[_],_,_,H1,rfl,I2.kept (t':=s1.toks) fun b o e=>Heap.get?_push_of_some _ e,CU a _ hdat,⟨_,Heap.get?_push_size _ rfl,rfl,by rw [hsz];rfl⟩,fun b hb=>?_,q⟩;have e:=List.mem_singleton.mp hb;subst e;exact I2.fpOk (Nat.le_refl _) (I2.hok.fresh (Nat.le_refl _))
noncomputable def qX:PyData->R (List PyData)
  | .dict kvs=>if gQ kvs=true then .no else .ok (kvs.map (·.1))
  | _=>.no
noncomputable def rn:PyData->R (List PyData)
  | .dict kvs=>if gQ kvs=true then .no else .ok (kvs.map (·.2))
  | _=>.no
noncomputable def zT (f:Fe):aW->R (List PyData):=fun ρ=>f ρ>>=qX
noncomputable def wS (f:Fe):aW->R (List PyData):=fun ρ=>f ρ>>=rn
theorem mM {H:Hp}:∀ {kvs:List (PyData×PyData)} {ks:List (dD×V)},eP H kvs ks->bD H (kvs.map (·.2)) (ks.map (·.2))
  | [],ks,h=>by rw [h.nil_inv];exact bD.nil
  | (k,d)::kvs,ks,h=>by
    obtain ⟨κ,v,r,rfl,rfl,p,t⟩:=h.cons_inv;exact bD.cons p (mM t)
theorem DA {H:Hp} {kvs:List (PyData×PyData)} {v:V} (hi:¬ gQ kvs=true) (h:Rp H (.dict kvs) v):∃ a o ks,v=.ref a/\H a=some (.frz o (.dK ks))/\eP H kvs ks:=by
  simp only [Rp] at h;rcases h with z | ⟨a,o,C,dx,fs,rfl,ha,r⟩
  · exact z
  · exfalso;cases kvs with
    | nil=>simp only [wr] at r
    | cons kd kvs =>
      simp only [wr] at r;rw [r.1] at hi;exact hi rfl
theorem D8 {a:Addr} {ob:Obj} {ks:List (dD×V)} {kvs:List (PyData×PyData)}:yZ (DH a ob) (fun H=>H a=some (.frz ob (.dK ks))/\eP H kvs ks) (kvs.map (·.1)) where
  go:=fun i H ⟨h,r⟩ hi=>by
    have hl:=(mL r).length;rw [List.length_map] at hl hi;rw [List.length_map] at hl;exact ⟨ks,ks[i]'(by omega),h,List.getElem?_eq_getElem (by omega)⟩
  yld:=fun i H x H' d ⟨h,r⟩ hd ⟨e,y⟩=>by
    subst e;obtain ⟨v,e1,p⟩:=(mL r).get hd;rw [List.getElem?_map] at e1;cases e2:ks[i]? with
    | none=>rw [e2] at e1;cases e1
    | some kv =>
      rw [e2] at e1;cases e1;rw [y ks kv h e2];exact ⟨aM.refl _,p⟩
  stop:=fun i H ⟨h,r⟩ hi=>by
    have hl:=(mL r).length;rw [List.length_map] at hl hi;rw [List.length_map] at hl;exact ⟨ks,h,by omega⟩
theorem D9 {a:Addr} {ob:Obj} {ks:List (dD×V)} {kvs:List (PyData×PyData)}:yZ (DI a ob) (fun H=>H a=some (.frz ob (.dK ks))/\eP H kvs ks) (kvs.map (·.2)) where
  go:=fun i H ⟨h,r⟩ hi=>by
    have hl:=(mM r).length;rw [List.length_map] at hl hi;rw [List.length_map] at hl;exact ⟨ks,ks[i]'(by omega),h,List.getElem?_eq_getElem (by omega)⟩
  yld:=fun i H x H' d ⟨h,r⟩ hd ⟨e,y⟩=>by
    subst e;obtain ⟨v,e1,p⟩:=(mM r).get hd;rw [List.getElem?_map] at e1;cases e2:ks[i]? with
    | none=>rw [e2] at e1;cases e1
    | some kv =>
      rw [e2] at e1;cases e1;rw [y ks kv h e2];exact ⟨aM.refl _,p⟩
  stop:=fun i H ⟨h,r⟩ hi=>by
    have hl:=(mM r).length;rw [List.length_map] at hl hi;rw [List.length_map] at hl;exact ⟨ks,h,by omega⟩
theorem xK (ha:Z.cU X o fo):Z.tm X tg o (zT fo):=⟨have ha:=ha.un;PI.imp (Gc ha) fun σ H Rk h=>(fA (P:=ia) (f:=fo) (k:=fun _=>qX) (AZ (X:=X) Rk) h).post fun v H1 ⟨_,d,_,_,p1,q1⟩=>by
    cases d with
    | dict kvs =>
      by_cases hi:gQ kvs=true
      · rw [show qX (.dict kvs)=.no from if_pos hi] at q1;exact q1.elim
      · rw [show qX (.dict kvs)=.ok (kvs.map (·.1)) from if_neg hi] at q1;obtain ⟨a',o',ks,rfl,h,r⟩:=DA hi p1;exact ⟨a',o',ks,rfl,h,q1 _ H1 (aM.refl _) ⟨_,D8,fun H2 k _=>⟨k.2 _ _ _ h,eP.kp k _ _ r⟩⟩⟩
    | _=>exact q1.elim⟩
theorem xL (ha:Z.cU X o fo) (hbase:attributeBase o "values" X.env (eval o X.env)=eval o X.env:=by rfl) (hline:(apos.endLine==cpos.line)=true:=by rfl):Z.tm X tg (.Call (.Attribute o "values" apos) [] [] cpos) (wS fo):=⟨have ha:=ha.un;PI.imp (Ge ha hbase hline) fun σ H Rk h=>(fA (P:=ia) (f:=fo) (k:=fun _=>rn) (AZ (X:=X) Rk) h).post fun v H1 ⟨_,d,_,_,p1,q1⟩=>by
    cases d with
    | dict kvs =>
      by_cases hi:gQ kvs=true
      · rw [show rn (.dict kvs)=.no from if_pos hi] at q1;exact q1.elim
      · rw [show rn (.dict kvs)=.ok (kvs.map (·.2)) from if_neg hi] at q1;obtain ⟨a',o',ks,rfl,h,r⟩:=DA hi p1;exact ⟨a',o',ks,rfl,h,q1 _ H1 (aM.refl _) ⟨_,D9,fun H2 k _=>⟨k.2 _ _ _ h,eP.kp k _ _ r⟩⟩⟩
    | _=>exact q1.elim⟩
end
end D2
namespace HT
open PySem PySem.Spec PyProof.Rows L2
section
open PySem.SeqAt
open PySem.AutoSeq1 (wpAny_loadPart')
open PySem.MeetsSeq PySem.MeetsSeq2 PySem.MeetsSeq3
end
end HT
namespace D2
open PySem PySem.Spec PyProof.Rows L2
section
variable {X:Cx} {tg a b c:Expr} {fa fb fc:Fe} {pos p2:Pos} {nl:Nat} {G:List Str} {x:Str} {p:Pos} {fs:aW->R (List PyData)}
noncomputable def FG (lo:Int) (n:Nat):List PyData:=(List.range n).map fun (k:Nat)=>.int (lo-k)
noncomputable def FI:List PyData->R (List PyData)
  | [.int i,.int j,.int k]=>if k=-1/\-(2 ^ 62)<=i/\i < 2 ^ 62/\-(2 ^ 62)<=j/\j < 2 ^ 62 then .ok (FG i (i-j).toNat) else .no
  | _=>.no
noncomputable def FO (fs:aW->R (List PyData)):aW->R (List PyData):=fun ρ=>fs ρ>>=FI
end
noncomputable def o8 (H:Hp):List V->List (List Int)->Prop
  | [],rs=>rs=[]
  | v::vs,rs=>∃ a r rs',v=.ref a/\rs=r::rs'/\H a=some (.tup (r.map V.int))/\o8 H vs rs'
theorem o8.len {H:Hp}:∀ {vs:List V} {rs:List (List Int)},o8 H vs rs->vs.length=rs.length
  | [],rs,h=>by simp only [o8] at h;rw [h];rfl
  | v::vs,rs,h=>by
    simp only [o8] at h;obtain ⟨a,r,rs',_,rfl,_,t⟩:=h;rw [List.length_cons,List.length_cons,t.len]
noncomputable def GA (a b c:Int):Nat:=(if a < b then (b-a-1) / c+1 else 0).toNat
section
variable {X:Cx} {tg a b c:Expr} {fa fb fc:Fe} {pos p2:Pos} {nl:Nat} {G:List Str} {x:Str} {p:Pos} {fs:aW->R (List PyData)}
noncomputable abbrev DJ (i j k:Int):Prop:=1<=k/\k < 1000000/\-(2 ^ 40)<=i/\i < 2 ^ 40/\-(2 ^ 40)<=j/\j < 2 ^ 40
noncomputable def Gz (lo st:Int) (n:Nat):List PyData:=(List.range n).map fun (k:Nat)=>.int (lo+k*st)
noncomputable def GB:List PyData->R (List PyData)
  | [.int i,.int j,.int k]=>if DJ i j k then .ok (Gz i k (GA i j k)) else .no
  | _=>.no
noncomputable def FR (fs:aW->R (List PyData)):aW->R (List PyData):=fun ρ=>fs ρ>>=GB
end
end D2
namespace D2
open PySem PySem.Spec PyProof.Rows
end D2
namespace D2
open PySem PySem.Spec PyProof.Rows L2
theorem xQ {P:Program} {w:World} {K:PySem.W.Frag} {mg:Str->Option Value} {base:Heap} {x qual:Str} {st:Stmt} {f:Addr} {fd:FuncData} {N ps:List Str} {k:Nat} {g:Fs} (F:gn K x qual st f fd) (S:aY N ps (aq st))
    (body:∀ (cdv:Value) (A:Around) (outer:List Env) (s:Shared) (H:Hp) (E:XK),fG k (A.deeper (envOfC qual (aq st) s.heap.objs.size f cdv)) ->
      Z.nq (gE (cS P w mg) P w K mg base N qual (aq st) f cdv A outer s H E) (dA st) g):bd P w K mg base (cS P w mg) (k+1) f fd ps (dC (dP N.length g) ps.length) :=
  D2.BS F S fun cdv A outer s H E hr=>(body cdv A outer s H E hr).un
theorem aH {P:Program} {w:World} {K:PySem.W.Frag} {mg:Str->Option Value} {base:Heap} {x qual:Str} {st:Stmt} {f:Addr} {fd:FuncData} {N ps:List Str} {k:Nat} {g:Fs} {G:List Str} (F:gn K x qual st f fd) (S:aY N ps (aq st)) (ck:wm (aq st) N G)
    (body:∀ (cdv:Value) (A:Around) (outer:List Env) (s:Shared) (H:Hp) (E:XK),fG k (A.deeper (envOfC qual (aq st) s.heap.objs.size f cdv))->Tb (gE (cS P w mg) P w K mg base N qual (aq st) f cdv A outer s H E) N.length G ->
      Z.nq (gE (cS P w mg) P w K mg base N qual (aq st) f cdv A outer s H E) (dA st) g):bd P w K mg base (cS P w mg) (k+1) f fd ps (dC (dP N.length g) ps.length) :=
  xQ F S fun cdv A outer s H E hr=>body cdv A outer s H E hr (DZ hr ck)
noncomputable def yx {P:Program} {w:World} {K:PySem.W.Frag} {mg:Str->Option Value} {base:Heap} {f:Addr} {fd:FuncData} {ps:List Str} {n k:Nat}:bd P w K mg base (cS P w mg) k f fd ps (dC (fun _=>.no) n) :=
  have no:∀ vs H Q E,¬ dC (fun _=>.no) n vs H Q E:=fun vs H Q E ⟨ds,_,_,z⟩=>z
  ⟨fun vs H Q E h=>absurd h (no vs H Q E),fun A outer s H args us vs Q E _ _ _ _ h=>absurd h (no vs H Q E)⟩
noncomputable def oZ (K:PySem.W.Frag):Bool:=K.all fun p=>match p.2.cls with
  | .type n=>!(n == "list")
  | _=>true
theorem pT {α β:Type} [BEq α] {a:α} {o:β}:∀ {K:List (α×β)},K.lookup a=some o->∃ p∈K,p.2=o
  | [],e=>by cases e
  | (b,x)::r,e=>by
    rw [List.lookup_cons] at e;split at e
    · cases e;exact ⟨_,List.mem_cons_self,rfl⟩
    · obtain ⟨p,h1,h2⟩:=pT e;exact ⟨p,List.mem_cons_of_mem _ h1,h2⟩
theorem vL {K:PySem.W.Frag} (h:oZ K=true) {a:Addr} {o:Obj} (e:K.lookup a=some o) (c:o.cls=.type "list"):False:=by
  obtain ⟨p,m,rfl⟩:=pT e;have q:=List.all_eq_true.mp h _ m;simp only [c] at q;simp at q
noncomputable def Ae (F:List PyData->R PyData):Prop:=∀ ns:List Int,ns.length<=63->F [.list (ns.map .int)]=.ok (.bool true)
theorem Iy {l:PySem.W.OpenLaw} {q:Program} {loose:List Str} {XP:(Str->Option Value)->Heap->Prop} {YP:World->Heap->Prop} {d:DefRec} {K:Params->PySem.W.Frag} {k:Nat} {x:Str} {F:List PyData->R PyData} (hn:l.most=some 63) (hdf:d.params.defaults=[])
    (hr:fG k callerA) (hY:∀ (w:World) (h:Heap),YP w h->(K w.params).In h) (hF:Ae F)
    (G:∀ (w:World) (mg:Str->Option Value) (fa:Addr) (h:Heap),(K w.params).In h->h.Ns mainGlobals mg->mg d.name=some (.ref fa) ->
      oZ (K w.params)=true/\∃ fd:FuncData,(∀ (s:Shared) (u:Value),BindsTo s fd ⟨[u],[]⟩ [(x,u)])/\∀ base:Heap,(K w.params).In base->base.Ns mainGlobals mg->bd l.prog w (K w.params) mg base (cS l.prog w mg) k fa fd [x] (dC F 1)) :
    PySem.W.WalkO q loose XP YP l.row.toRowW d [] (fun f vs=>PySem.call f vs):=by
  refine Att.attach_call hn hdf fun w s₀ s₁ mg mb fa o pm cd doc a vs ns G0 Y ho hd hcd hmg hobj hints hlen hg=>?_
  have KX:=hY w _ Y;obtain ⟨nl,fd,hb,hG⟩:=G w mg fa _ KX G0.T.g hmg;refine L2.Af (sp:=dC F 1) KX G0.T.g G0.T.b G0.T.builtins G0.T.nolimit hg hobj hints (Nat.le_trans hlen (by decide)) hr hG hb (fun H hO hS=>?_) fun H e s' ⟨_,_,_,_,_,z⟩=>z
  refine ⟨[.list (ns.map .int)],bD.cons ?_ bD.nil,rfl,?_⟩
  · rcases hS with (h | ⟨o,h⟩) | ⟨o,its,n,h,c,_⟩
    · rcases hO a with z | ⟨o,xs,z⟩
      · rw [z] at h;cases h
      · rw [z] at h;cases h
    · simp only [Rp];exact ⟨a,o,_,rfl,h,bD.ints ns⟩
    · exact (vL nl h c).elim
  · rw [hF ns hlen];intro v H' _ r;simpa only [Rp] using r
section
variable {K:PySem.W.Frag} {x qual:Str} {st:Stmt} {f:Addr} {fd:FuncData} {p1 p2 p3 p4 p5 p6 p7:Str}
theorem Fx (F:gn K x qual st f fd) (h:∀ (kV doc pm:Value) (an:Option Addr) (cdv ct:Value) (a1:Value),bindArgs (PySem.W.fnOf x qual (eQ st) (dA st) (aq st) .none kV doc pm an cdv ct) ⟨[a1],[]⟩=pure [(p1,a1)]):bz K fd [p1] []:=F.binds fun kV doc pm an cdv ct us hl=>by
    obtain ⟨a1,r0,rfl,q0⟩:=D2.iw hl;obtain rfl:=List.eq_nil_of_length_eq_zero q0;exact h kV doc pm an cdv ct a1
theorem uP (F:gn K x qual st f fd) (h:∀ (kV doc pm:Value) (an:Option Addr) (cdv ct:Value) (a1 a2:Value),bindArgs (PySem.W.fnOf x qual (eQ st) (dA st) (aq st) .none kV doc pm an cdv ct) ⟨[a1,a2],[]⟩=pure [(p1,a1),(p2,a2)]):bz K fd [p1,p2] []:=F.binds fun kV doc pm an cdv ct us hl=>by
    obtain ⟨a1,r0,rfl,q0⟩:=D2.iw hl;obtain ⟨a2,r1,rfl,q1⟩:=D2.iw q0;obtain rfl:=List.eq_nil_of_length_eq_zero q1;exact h kV doc pm an cdv ct a1 a2
theorem Fy (F:gn K x qual st f fd) (h:∀ (kV doc pm:Value) (an:Option Addr) (cdv ct:Value) (a1 a2 a3:Value),bindArgs (PySem.W.fnOf x qual (eQ st) (dA st) (aq st) .none kV doc pm an cdv ct) ⟨[a1,a2,a3],[]⟩=pure [(p1,a1),(p2,a2),(p3,a3)]):bz K fd [p1,p2,p3] []:=F.binds fun kV doc pm an cdv ct us hl=>by
    obtain ⟨a1,r0,rfl,q0⟩:=D2.iw hl;obtain ⟨a2,r1,rfl,q1⟩:=D2.iw q0;obtain ⟨a3,r2,rfl,q2⟩:=D2.iw q1;obtain rfl:=List.eq_nil_of_length_eq_zero q2;exact h kV doc pm an cdv ct a1 a2 a3
theorem zp (F:gn K x qual st f fd) (h:∀ (kV doc pm:Value) (an:Option Addr) (cdv ct:Value) (a1 a2 a3 a4:Value),bindArgs (PySem.W.fnOf x qual (eQ st) (dA st) (aq st) .none kV doc pm an cdv ct) ⟨[a1,a2,a3,a4],[]⟩=pure [(p1,a1),(p2,a2),(p3,a3),(p4,a4)]):bz K fd [p1,p2,p3,p4] []:=F.binds fun kV doc pm an cdv ct us hl=>by
    obtain ⟨a1,r0,rfl,q0⟩:=D2.iw hl;obtain ⟨a2,r1,rfl,q1⟩:=D2.iw q0;obtain ⟨a3,r2,rfl,q2⟩:=D2.iw q1;obtain ⟨a4,r3,rfl,q3⟩:=D2.iw q2;obtain rfl:=List.eq_nil_of_length_eq_zero q3;exact h kV doc pm an cdv ct a1 a2 a3 a4
theorem IS (F:gn K x qual st f fd) (h:∀ (kV doc pm:Value) (an:Option Addr) (cdv ct:Value) (a1 a2 a3 a4 a5:Value),bindArgs (PySem.W.fnOf x qual (eQ st) (dA st) (aq st) .none kV doc pm an cdv ct) ⟨[a1,a2,a3,a4,a5],[]⟩=pure [(p1,a1),(p2,a2),(p3,a3),(p4,a4),(p5,a5)]):bz K fd [p1,p2,p3,p4,p5] []:=F.binds fun kV doc pm an cdv ct us hl=>by
    obtain ⟨a1,r0,rfl,q0⟩:=D2.iw hl;obtain ⟨a2,r1,rfl,q1⟩:=D2.iw q0;obtain ⟨a3,r2,rfl,q2⟩:=D2.iw q1;obtain ⟨a4,r3,rfl,q3⟩:=D2.iw q2;obtain ⟨a5,r4,rfl,q4⟩:=D2.iw q3;obtain rfl:=List.eq_nil_of_length_eq_zero q4;exact h kV doc pm an cdv ct a1 a2 a3 a4 a5
end
@[simp] theorem ce {α:Type} (a:α):lf (R.ok a)=.ok a:=rfl
@[simp] theorem HU {α:Type}:lf (R.no:R α)=.no:=rfl
@[simp] theorem HS {α:Type} (c:Str):lf (R.ex c:R α)=.no:=rfl
noncomputable def CD:tq->R PyData
  | .rt d=>.ok d
  | .nx _=>.ok .none
  | _=>.no
theorem eX (n:Nat) (g:Fs) (ds:List PyData):dP n g ds=(g (ds.map aT.val++List.replicate (n-ds.length) .non)>>=CD):=by
  unfold dP;congr 1
@[simp] theorem Hl (d:PyData):CD (.rt d)=.ok d:=rfl
@[simp] theorem Hk (r:aW):CD (.nx r)=.ok .none:=rfl
section
variable (f g h:Fe) (ρ:aW) (i j:Nat) (t u:aW->R Bool) (a b:Fs) (fs:aW->R (List PyData)) (F:List PyData->R PyData) (d e:PyData)
@[simp] theorem bf:eC d ρ=.ok d:=rfl
@[simp] theorem am:af 0 (.val d::ρ)=.ok d:=rfl
@[simp] theorem ak (c:aT):af (i+1) (c::ρ)=af i ρ:=rfl
@[simp] theorem Hg:eG 0 (.val d::ρ)=.ok d:=rfl
@[simp] theorem kI:eG 0 (.own d::ρ)=.ok d:=rfl
@[simp] theorem kJ (c:aT):eG (i+1) (c::ρ)=eG i ρ:=rfl
@[simp] theorem bT (k:PyData->R PyData):e1 k f ρ=(f ρ>>=fun x=>k x):=rfl
@[simp] theorem ba (k:PyData->PyData->R PyData):e2 k f g ρ=(f ρ>>=fun x=>g ρ>>=fun y=>k x y):=rfl
@[simp] theorem bO:tE f ρ=(f ρ>>=tU):=rfl
@[simp] theorem bM (k:Bool):tU (.bool k)=.ok k:=rfl
@[simp] theorem kD:ip t u ρ=(t ρ>>=fun k=>if k=true then u ρ else .ok false):=rfl
@[simp] theorem sP:oU t u ρ=(t ρ>>=fun k=>if k=true then .ok true else u ρ):=rfl
@[simp] theorem iq:mV t ρ=(t ρ>>=fun k=>.ok (!k)):=rfl
@[simp] theorem BJ:x8 f g ρ=(f ρ>>=fun d=>tU d>>=fun k=>if k=true then g ρ else .ok (.bool false)):=rfl
@[simp] theorem HL:HK f g ρ=(f ρ>>=fun d=>tU d>>=fun k=>if k=true then .ok (.bool true) else g ρ):=rfl
@[simp] theorem BL:BK f ρ=(f ρ>>=fun d=>tU d>>=fun k=>.ok (.bool (!k))):=rfl
@[simp] theorem ss:zF t f g ρ=(t ρ>>=fun k=>if k=true then f ρ else g ρ):=rfl
@[simp] theorem aA:az ρ=.ok []:=rfl
@[simp] theorem av:ah f fs ρ=(f ρ>>=fun d=>fs ρ>>=fun ds=>.ok (d::ds)):=rfl
@[simp] theorem aO:aC F fs ρ=(fs ρ>>=F):=rfl
@[simp] theorem Ff (p q:PyData->PyData->R PyData):sr p q f g h ρ=(f ρ>>=fun x=>g ρ>>=fun y=>p x y>>=fun d=>tU d>>=fun k=>if k=true then h ρ>>=fun z=>q y z else .ok (.bool false)):=rfl
@[simp] theorem iB:gh fs ρ=(fs ρ>>=fun ds=>if ds.length<=sizeLine then .ok (.tuple ds) else .no):=rfl
@[simp] theorem gU:gg fs ρ=(fs ρ>>=fun ds=>if ds.length<=sizeLine then .ok (.list ds) else .no):=rfl
@[simp] theorem ux:oy ρ=.ok none:=rfl
@[simp] theorem uy:oz f ρ=(f ρ>>=fun d=>G9 d>>=fun i=>.ok (some i)):=rfl
@[simp] theorem De (k:Int):G9 (.int k)=.ok k:=rfl
@[simp] theorem zG (lo hi:Fo):Dg f lo hi ρ=(f ρ>>=fun d=>lo ρ>>=fun l=>hi ρ>>=fun u=>BF d l u):=rfl
@[simp] theorem uH:cn ρ=.ok (.nx ρ):=rfl
@[simp] theorem o0:aR a b ρ=(a ρ>>=rm b):=rfl
@[simp] theorem GU:rm b (.nx ρ)=b ρ:=rfl
@[simp] theorem GV:rm b (.rt d)=.ok (.rt d):=rfl
@[simp] theorem GS:rm b (.bk ρ)=.ok (.bk ρ):=rfl
@[simp] theorem GT:rm b (.ct ρ)=.ok (.ct ρ):=rfl
@[simp] theorem bZ:iI t a b ρ=(t ρ>>=fun k=>if k=true then a ρ else b ρ):=rfl
@[simp] theorem cH:cj f ρ=(f ρ>>=fun d=>.ok (.rt d)):=rfl
@[simp] theorem Gy:Gx ρ=.ok (.rt .none):=rfl
@[simp] theorem Gw:Gv f ρ=(f ρ>>=fun _=>.ok (.nx ρ)):=rfl
@[simp] theorem Fg:EM ρ=.ok (.bk ρ):=rfl
@[simp] theorem Gs:Gq ρ=.ok (.ct ρ):=rfl
@[simp] theorem bi:bN i f ρ=(f ρ>>=fun d=>.ok (.nx (ρ.set i (.val d)))):=rfl
@[simp] theorem jD:gM i f ρ=(f ρ>>=fun d=>.ok (.nx (ρ.set i (.own d)))):=rfl
@[simp] theorem ci:ej f ρ=(f ρ>>=jL):=rfl
@[simp] theorem qU:ki fs ρ=(fs ρ>>=qC):=rfl
@[simp] theorem FS:FR fs ρ=(fs ρ>>=GB):=rfl
@[simp] theorem FP:FO fs ρ=(fs ρ>>=FI):=rfl
@[simp] theorem zU:zT f ρ=(f ρ>>=qX):=rfl
@[simp] theorem zW:wS f ρ=(f ρ>>=rn):=rfl
@[simp] theorem eh (ds:List PyData):jL (.tuple ds)=.ok ds:=rfl
@[simp] theorem qa (ds:List PyData):jL (.list ds)=.ok ds:=rfl
@[simp] theorem Fv:aU i d ρ=some (ρ.set i (.val d)):=rfl
@[simp] theorem eS:gW a ρ=lf (a ρ):=rfl
theorem fE (it:aW->R (List PyData)) (bb:PyData->aW->Option aW):jd it bb a ρ=(it ρ>>=fun ds=>fT bb a ds ρ):=rfl
@[simp] theorem eY (bb:PyData->aW->Option aW):fT bb a [] ρ=.ok (.nx ρ):=by unfold fT;rfl
noncomputable def oB (k:aW->R tq):tq->R tq
  | .nx ρ=>k ρ
  | .ct ρ=>k ρ
  | .bk ρ=>.ok (.nx ρ)
  | .rt r=>.ok (.rt r)
@[simp] theorem dz (k:aW->R tq):oB k (.nx ρ)=k ρ:=rfl
@[simp] theorem GX (k:aW->R tq):oB k (.ct ρ)=k ρ:=rfl
@[simp] theorem GW (k:aW->R tq):oB k (.bk ρ)=.ok (.nx ρ):=rfl
@[simp] theorem GY (k:aW->R tq):oB k (.rt d)=.ok (.rt d):=rfl
theorem dH (i:Nat) (ds:List PyData):fT (aU i) a (d::ds) ρ=(a (ρ.set i (.val d))>>=oB (fT (aU i) a ds)):=by
  rw [fT];show (a (ρ.set i (.val d))>>=_)=_;congr 1
theorem yf (i j:Nat) (x y:PyData) (ds:List PyData):fT (eF i j) a (.tuple [x,y]::ds) ρ=(a ((ρ.set i (.val x)).set j (.val y))>>=oB (fT (eF i j) a ds)):=by
  rw [fT];show (a ((ρ.set i (.val x)).set j (.val y))>>=_)=_;congr 1
theorem aD {a b:Fs} {ρ ρ':aW} (h:a ρ=.ok (.nx ρ')):aR a b ρ=b ρ':=by rw [o0,h];rfl
theorem io {a b:Fs} {ρ:aW} {d:PyData} (h:a ρ=.ok (.rt d)):aR a b ρ=.ok (.rt d):=by rw [o0,h];rfl
theorem dE {n:Nat} {g:Fs} {ds:List PyData} {d:PyData} (h:g (ds.map aT.val++List.replicate (n-ds.length) .non)=.ok (.rt d)):dP n g ds=.ok d:=by rw [eX,h];rfl
theorem di (bb:PyData->aW->Option aW):cg bb t f ρ []=.ok []:=by unfold cg;rfl
theorem eV (i:Nat) (ds:List PyData):cg (aU i) t f ρ (d::ds)=(t (ρ.set i (.val d))>>=fun k=>if k=true then f (ρ.set i (.val d))>>=fun x=>cg (aU i) t f ρ ds>>=fun xs=>.ok (x::xs) else cg (aU i) t f ρ ds):=by
  rw [cg];rfl
theorem jr (i j:Nat) (x y:PyData) (ds:List PyData):cg (eF i j) t f ρ (.tuple [x,y]::ds)=(t ((ρ.set i (.val x)).set j (.val y))>>=fun k=>if k=true then f ((ρ.set i (.val x)).set j (.val y))>>=fun x=>cg (eF i j) t f ρ ds>>=fun xs=>.ok (x::xs) else cg (eF i j) t f ρ ds):=by
  rw [cg];rfl
@[simp] theorem FU:FT f g h ρ=(f ρ>>=fun x=>g ρ>>=fun y=>h ρ>>=fun z=>wc x>>=fun xs=>wc y>>=fun ys=>wc z>>=fun zs=>.ok (Be xs ys zs)):=rfl
@[simp] theorem Iw (ds:List PyData):wc (.tuple ds)=.ok ds:=rfl
@[simp] theorem zI:zH fs ρ=(fs ρ>>=Dy .tuple):=rfl
@[simp] theorem FK:FJ fs ρ=(fs ρ>>=Dy .list):=rfl
theorem Gp {mk:List PyData->PyData} {n:Int} (h0:0<=n) (h1:n<=1000000):Dy mk [.int n]=.ok (mk (bU 0 n.toNat)):=by
  show (if n<=16777216/\-(2 ^ 62)<=n then R.ok (mk (bU 0 n.toNat)) else .no)=_;rw [if_pos (by omega)]
@[simp] theorem yF (x y:PyData) (e:f ρ=.ok (.tuple [x,y])):CG (eF i j) f ρ=.ok (.nx ((ρ.set i (.val x)).set j (.val y))):=by unfold CG;rw [e];rfl
@[simp] theorem Hf (lo hi:Fo):HM f lo hi ρ=(f ρ>>=fun d=>lo ρ>>=fun l=>hi ρ>>=fun u=>FB d l u):=rfl
@[simp] theorem CH (op:Int->Int->Int):yG i op f ρ=(af i ρ>>=fun x=>f ρ>>=fun y=>Hd op x y>>=fun z=>.ok (.nx (ρ.set i (.val z)))):=rfl
@[simp] theorem FA (op:Int->Int->Int) (m n:Int):Hd op (.int m) (.int n)=.ok (.int (op m n)):=rfl
theorem mO {ρ:aW} {i:Nat} {ds:List PyData} {fk fv:Fe} {n:Int} {v:PyData} (h:ρ[i]?=some (.own (.list ds))) (hk:fk ρ=.ok (.int n)) (hv:fv ρ=.ok v) (h0:0<=n) (h1:n < ds.length):iJ i fk fv ρ=.ok (.nx (ρ.set i (.own (.list (ds.set n.toNat v))))):=by
  unfold iJ;rw [hv,hk,h];simp only [lf,R.ok_bind];have:L2.wX ds.length n=some n.toNat:=by unfold L2.wX;rw [if_pos h0,if_pos h1]
  rw [this]
@[simp] theorem wT:vy f g ρ=(f ρ>>=fun x=>g ρ>>=fun y=>jL x>>=fun xs=>jL y>>=fun ys=>.ok (jR xs ys)):=rfl
@[simp] theorem mB:pJ f ρ=(f ρ>>=fun x=>jL x>>=fun xs=>.ok (dS 0 xs)):=rfl
theorem kN {ρ:aW} {i:Nat} {ds:List PyData} (f:Fe) (h:ρ[i]?=some (.own (.list ds))) (hz:ds.length < sizeLine):eB i f ρ=(lf (f ρ)>>=fun d=>.ok (.nx (ρ.set i (.own (.list (ds++[d])))))):=by
  unfold eB;congr 1;funext d;rw [h];exact if_pos hz
noncomputable def Eg:R (List PyData)->R PyData
  | .ok xs=>.ok (.list xs)
  | .ex c=>.ex c
  | .no=>.no
@[simp] theorem Hi (c:Str):Eg (.ex c)=.ex c:=rfl
@[simp] theorem oY (xs:List PyData):Eg (.ok xs)=.ok (.list xs):=rfl
theorem bt (it:aW->R (List PyData)) (own:Nat) (fr:List Nat) (bb:PyData->aW->Option aW):bR it own fr bb t f ρ=(lf (it ρ)>>=fun ds=>if ds.length<=sizeLine then Eg (cg bb t f (aJ own fr ρ) ds) else .no):=by
  unfold bR;congr 1
theorem hJ (i:Nat) (G:PyData->PyData):∀ (ds:List PyData),(∀ d∈ds,f (ρ.set i (.val d))=.ok (G d))->cg (aU i) (fun _=>.ok true) f ρ ds=.ok (ds.map G)
  | [],_=>di ..
  | d::ds,hh=>by
    rw [eV,hh d List.mem_cons_self,hJ i G ds fun x hx=>hh x (List.mem_cons_of_mem _ hx)];rfl
end
section
variable (i j:Int) (xs ys:List PyData)
@[simp] theorem DY:vp (.int i)=.ok (.int (-i)):=rfl
@[simp] theorem HC:eW (.int i) (.int j)=.ok (.int (i+j)):=rfl
@[simp] theorem zB:eW (.tuple xs) (.tuple ys)=if xs.length+ys.length<=sizeLine then .ok (.tuple (xs++ys)) else .no:=rfl
@[simp] theorem HD:eW (.list xs) (.list ys)=if xs.length+ys.length<=sizeLine then .ok (.list (xs++ys)) else .no:=rfl
@[simp] theorem zD:oQ (.int i) (.int j)=.ok (.int (i-j)):=rfl
@[simp] theorem kg:da (.int i) (.int j)=if 0 < j then .ok (.int (i%j)) else .no:=rfl
@[simp] theorem sj:fS (.int i) (.int j)=if 0 < j/\j < 1073741824 then .ok (.int (i / j)) else .no:=rfl
theorem DX:gT (.int i) (.int j)=if (-(2 ^ 64) < i/\i < 2 ^ 64)\/(-(2 ^ 64) < j/\j < 2 ^ 64) then .ok (.int (i*j)) else .no:=rfl
@[simp] theorem jt (p:Int->Int->Bool):dW p (.int i) (.int j)=.ok (.bool (p i j)):=rfl
@[simp] theorem HG:DW (.int i) (.int j)=.ok (.int (if j < i then j else i)):=rfl
@[simp] theorem HF:DV (.int i) (.int j)=.ok (.int (if j > i then j else i)):=rfl
@[simp] theorem nH:cF (.tuple xs)=.ok (.int xs.length):=rfl
@[simp] theorem nG:cF (.list xs)=.ok (.int xs.length):=rfl
@[simp] theorem t6:ez (.list xs)=.ok (.tuple xs):=rfl
@[simp] theorem FD:ez (.tuple xs)=.ok (.tuple xs):=rfl
@[simp] theorem He:mn (.list xs)=.ok (.list xs):=rfl
@[simp] theorem wF:mn (.tuple xs)=.ok (.list xs):=rfl
@[simp] theorem HE:lC (.int i)=.ok (.int i):=rfl
@[simp] theorem vo (k:Bool):lC (.bool k)=.ok (.int (if k then 1 else 0)):=rfl
@[simp] theorem FC (lo hi:Option Int):BF (.tuple xs) lo hi=.ok (.tuple (ml xs lo hi)):=rfl
@[simp] theorem IG (lo hi:Option Int):BF (.list xs) lo hi=.ok (.list (ml xs lo hi)):=rfl
@[simp] theorem HI:HH (.tuple xs)=.ok (.tuple xs.reverse):=rfl
theorem r8 {α:Type} {xs:List α} {i:Int} (h0:0<=i) (h1:i < xs.length):L2.atI xs i=some (xs[i.toNat]'(by omega)):=by
  unfold L2.atI wX;rw [if_pos h0,if_pos h1];exact List.getElem?_eq_getElem (by omega)
theorem qP {xs:List PyData} {i:Int} (h0:0<=i) (h1:i < xs.length):bC (.tuple xs) (.int i)=.ok (xs[i.toNat]'(by omega)):=by
  show (match L2.atI xs i with | some d=>R.ok d | none=>.no)=_;rw [r8 h0 h1]
theorem tZ {xs:List PyData} {i:Int} (h0:0<=i) (h1:i < xs.length):bC (.list xs) (.int i)=.ok (xs[i.toNat]'(by omega)):=by
  show (match L2.atI xs i with | some d=>R.ok d | none=>.no)=_;rw [r8 h0 h1]
theorem sx:PyData.eqv (.int i) (.int j)=decide (i=j):=by
  simp only [PyData.eqv];by_cases h:i=j
  · subst h;simp
  · simp [h]
theorem dR:fY (.int i) (.int j)=.ok (.bool (decide (i=j))):=by
  unfold fY;rw [if_pos (by rfl),sx]
theorem wH:nh (.int i) (.int j)=.ok (.bool (!decide (i=j))):=by
  unfold nh;rw [if_pos (by rfl),sx]
end
end D2
namespace G
open PySem PySem.Spec PyProof.Rows L2 D2
noncomputable def FX:PyData->Bool
  | .int _=>true
  | _=>false
noncomputable def noD:PyData->Prop
  | .dict _=>False
  | _=>True
noncomputable def Df (d:PyData) (lo hi:Int):Bool:=match d with
  | .int i=>decide (lo<=i)&&decide (i<=hi)
  | _=>false
noncomputable def jC (c:Int):Int->List PyData->Bool
  | _,[]=>true
  | l,d::r=>match d with
    | .int i=>(decide (l<=i)&&decide (i < c))&&jC c (i+1) r
    | _=>false
@[simp] noncomputable def AS (c:Int):PyData->Bool
  | .tuple ds=>jC c 0 ds
  | _=>false
noncomputable abbrev eU (d:PyData):Prop:=d.canLay0=true
theorem eU.noD {d:PyData} (h:eU d):noD d:=by
  cases d <;> first | trivial | (simp [eU,PyData.canLay0] at h)
theorem sA:∀ {ds:List PyData},PyData.canLayAll0 ds=true->∀ x∈ds,eU x
  | [],_,x,hx=>by cases hx
  | d::ds,h,x,hx=>by
    have h':d.canLay0=true/\PyData.canLayAll0 ds=true:=by simpa [PyData.canLayAll0] using h
    rcases List.mem_cons.mp hx with rfl | hx
    · exact h'.1
    · exact sA h'.2 x hx
theorem l8:∀ {ds:List PyData},(∀ x∈ds,eU x)->PyData.canLayAll0 ds=true
  | [],_=>by simp [PyData.canLayAll0]
  | d::ds,h=>by
    have h1:=h d List.mem_cons_self;have h2:=l8 fun x hx=>h x (List.mem_cons_of_mem _ hx)
    simp only [PyData.canLayAll0,Bool.and_eq_true];exact ⟨h1,h2⟩
theorem eA {ds:List PyData}:eU (.tuple ds)<->∀ x∈ds,eU x:=by
  constructor
  · intro h;exact sA (by simpa [eU,PyData.canLay0] using h)
  · intro h;simp only [eU,PyData.canLay0];exact l8 h
theorem qT {ds:List PyData}:eU (.list ds)<->∀ x∈ds,eU x:=by
  constructor
  · intro h;exact sA (by simpa [eU,PyData.canLay0] using h)
  · intro h;simp only [eU,PyData.canLay0];exact l8 h
theorem ie (i:Int):eU (.int i):=by simp [eU,PyData.canLay0]
theorem kL:eU .none:=by simp [eU,PyData.canLay0]
theorem nK (b:Bool):eU (.bool b):=by simp [eU,PyData.canLay0]
theorem bQ {n:Nat} (h:n<=1000):n<=sizeLine:=Nat.le_trans h (by decide)
noncomputable abbrev sU (ns:List Int):PyData:=.list (ns.map .int)
theorem ju {i j:Int} (h:(-(2 ^ 64) < i/\i < 2 ^ 64)\/(-(2 ^ 64) < j/\j < 2 ^ 64)):gT (.int i) (.int j)=.ok (.int (i*j)):=by rw [DX,if_pos h]
structure u3 (c:Int) (n:Nat) (kvs:List (PyData×PyData)):Prop where
  ex:∃ ns:List Int,kvs.map (·.1)=ns.map PyData.int/\(∀ x∈ns,0<=x/\x < c)/\ns.length<=n/\(n=0\/ns≠[])/\ns.Nodup
theorem u3.put {c:Int} {n:Nat} {kvs:List (PyData×PyData)} (h:u3 c n kvs) {k:Int} (h0:0<=k) (h1:k < c) (v:PyData):u3 c (n+1) (sI kvs (.int k) v):=by
  obtain ⟨ns,e,hb,hl,hn,nd⟩:=h.ex;have hany:(kvs.any fun kv=>iC kv.1 (.int k))=ns.any fun i=>decide (i=k):=by
    have:(kvs.any fun kv=>iC kv.1 (.int k))=(kvs.map (·.1)).any fun d=>iC d (.int k):=by rw [List.any_map];rfl
    rw [this,e,List.any_map];rfl
  unfold sI;rw [hany];by_cases hm:k∈ns
  · have ha:(ns.any fun i=>decide (i=k))=true:=by simp;exact hm
    rw [if_pos ha];refine ⟨ns,?_,hb,by omega,.inr (by intro z;rw [z] at hm;cases hm),nd⟩;rw [<- e,List.map_map];apply List.map_congr_left;intro kv _;show (if iC kv.1 (.int k)=true then (kv.1,v) else kv).1=kv.1;split <;> rfl
  · have ha:¬ (ns.any fun i=>decide (i=k))=true:=by simp;exact hm
    rw [if_neg ha];refine ⟨ns++[k],by rw [List.map_append,List.map_append,e];rfl,fun x hx=>?_,by simp;omega,.inr (by simp),?_⟩
    · rcases List.mem_append.mp hx with z | z
      · exact hb x z
      · simp at z;subst z;exact ⟨h0,h1⟩
    · rw [List.nodup_append];refine ⟨nd,by simp,fun a hma b hb'=>?_⟩;simp at hb';subst hb';rintro rfl;exact hm hma
theorem u3.len {c:Int} {n:Nat} {kvs:List (PyData×PyData)} (h:u3 c n kvs):kvs.length<=n:=by
  obtain ⟨ns,e,_,hl,_⟩:=h.ex;have:=congrArg List.length e;simp at this;omega
theorem uA (lo:Int) (n:Nat):∀ d∈bU lo n,∃ k,d=.int k:=fun d hd=>by
  unfold bU at hd;obtain ⟨k,_,rfl⟩:=List.mem_map.mp hd;exact ⟨_,rfl⟩
theorem fI (lo:Int) (n:Nat):(bU lo n).length=n:=by unfold bU;simp
theorem sk {xs:List PyData} {i:Int} (h0:0<=i) (h1:i < xs.length):∃ x∈xs,bC (.list xs) (.int i)=.ok x:=⟨_,List.getElem_mem _,tZ h0 h1⟩
structure P4 where
  w:Int
  m:Int
  g:Int
  ns:List Int
noncomputable def P4.d (p:P4):PyData:=.tuple [.int p.w,.int p.m,.int p.g,.tuple (p.ns.map .int)]
structure Pl (c hi:Int) (p:P4):Prop where
  w0:0<=p.w
  w1:p.w<=1
  m0:0<=p.m
  m1:p.m<=hi
  g0:-20<=p.g
  g1:p.g<=20
  ne:p.ns≠[]
  so:p.ns.Pairwise (· < ·)
  inn:∀ x∈p.ns,0<=x/\x < c
theorem lN:∀ (ns:List Int) (l c:Int),ns.Pairwise (· < ·)->(∀ x∈ns,l<=x/\x < c)->ns=[]\/l+(ns.length:Int)<=c
  | [],_,_,_,_=>.inl rfl
  | x::r,l,c,hp,hb=>by
    right;obtain ⟨h1,h2⟩:=List.pairwise_cons.mp hp;have hx:=hb x List.mem_cons_self;rcases lN r (x+1) c h2 (fun y hy=>⟨by have:=h1 y hy;omega,(hb y (List.mem_cons_of_mem _ hy)).2⟩) with rfl | z
    · simp;omega
    · rw [List.length_cons];omega
theorem Pl.len {c hi:Int} {p:P4} (h:Pl c hi p):(p.ns.length:Int)<=c:=by
  rcases lN p.ns 0 c h.so h.inn with z | z
  · exact absurd z h.ne
  · omega
noncomputable abbrev gD (ps:List P4):PyData:=.tuple (ps.map P4.d)
theorem yN {ns:List Int} (h:ns.Pairwise (·<=·)) (nd:ns.Nodup):ns.Pairwise (· < ·):=by
  have:=h.and nd;exact this.imp fun ⟨a,b⟩=>by omega
theorem xk (c:Int):∀ (ns:List Int) (l:Int),ns.Pairwise (· < ·)->(∀ x∈ns,l<=x/\x < c)->jC c l (ns.map .int)=true
  | [],_,_,_=>rfl
  | x::r,l,hp,hb=>by
    obtain ⟨h1,h2⟩:=List.pairwise_cons.mp hp;have hx:=hb x List.mem_cons_self;simp only [List.map_cons,jC,Bool.and_eq_true,decide_eq_true_eq];exact ⟨⟨hx.1,hx.2⟩,xk c r (x+1) h2 fun y hy=>⟨by have:=h1 y hy;omega,(hb y (List.mem_cons_of_mem _ hy)).2⟩⟩
end G
noncomputable section
namespace G
open PySem PySem.Spec PyProof.Rows L2 D2
noncomputable def iP:Fs :=
  (aR (iI (tE (e2 (dW Hj) (af 1) (e1 cF (af 0)))) (cj (e2 bC (af 0) (af 1))) cn) (cj (eC (.int 0))))
noncomputable def cN:List PyData->R PyData:=dP 2 (iP)
noncomputable def jY (cN:List PyData->R PyData):Fs :=
  (aR (bN 2 (e2 da (e2 gT (e2 eW (e2 eW (aC cN (ah (af 0) (ah (af 1) az))) (e2 gT (eC (.int 7919)) (af 1))) (eC (.int 1))) (eC (.int 48271))) (eC (.int 2147483647)))) (cj (e2 da (e2 eW (e2 eW (e2 gT (af 2) (af 2)) (e2 gT (eC (.int 7)) (af 2))) (af 1)) (eC (.int 2147483629)))))
noncomputable def bc:List PyData->R PyData:=dP 3 (jY cN)
noncomputable def jW:Fs :=
  (aR (bN 2 (e2 da (e2 gT (e2 eW (e2 eW (af 0) (e2 gT (eC (.int 104729)) (af 1))) (eC (.int 17))) (eC (.int 69621))) (eC (.int 2147483647)))) (cj (e2 da (e2 eW (e2 eW (e2 gT (af 2) (af 2)) (e2 gT (eC (.int 3)) (af 2))) (af 1)) (eC (.int 2147483629)))))
noncomputable def aG:List PyData->R PyData:=dP 3 (jW)
noncomputable def jX (aG:List PyData->R PyData):Fs :=
  (aR (gM 2 (eC (.dict []))) (aR (gW (jd (ki (ah (e2 eW (e2 eW (eC (.int 1)) (e2 da (af 0) (eC (.int 3)))) (e2 gT (eC (.int 20)) (e1 lC (e2 (fY) (e2 da (e2 fS (af 0) (eC (.int 3))) (eC (.int 29))) (eC (.int 7)))))) az)) (aU 3) (qD 2 (e2 da (aC aG (ah (af 0) (ah (af 3) az))) (af 1)) (eC (.bool true))))) (cj (e1 ez (e1 mw (eG 2))))))
noncomputable def dJ:List PyData->R PyData:=dP 4 (jX aG)
noncomputable def jZ (aG:List PyData->R PyData) (dJ:List PyData->R PyData):Fs :=
  (aR (bN 3 (e2 oQ (e2 da (e2 fS (af 0) (eC (.int 26))) (eC (.int 9))) (eC (.int 4)))) (aR (iI (tE (e2 (fY) (e2 da (e2 fS (af 0) (eC (.int 234))) (eC (.int 11))) (eC (.int 3)))) (bN 3 (e2 oQ (e2 da (e2 fS (af 0) (eC (.int 26))) (eC (.int 41))) (eC (.int 20)))) cn) (cj (gh (ah (e2 da (af 0) (eC (.int 2))) (ah (e2 da (e2 fS (af 0) (eC (.int 2))) (e2 eW (af 2) (eC (.int 1)))) (ah (af 3) (ah (aC dJ (ah (aC aG (ah (af 0) (ah (eC (.int 9)) az))) (ah (af 1) az))) az))))))))
noncomputable def dc:List PyData->R PyData:=dP 4 (jZ aG dJ)
noncomputable def ji (bc:List PyData->R PyData) (dc:List PyData->R PyData):Fs :=
  (aR (bN 2 (aC bc (ah (af 0) (ah (eC (.int 0)) az)))) (aR (bN 3 (e2 eW (eC (.int 1)) (e2 da (af 2) (e2 DW (af 1) (e2 DV (eC (.int 4)) (e1 cF (af 0))))))) (aR (bN 4 (e2 bC (gg (ah (eC (.int 1)) (ah (eC (.int 2)) (ah (eC (.int 3)) (ah (eC (.int 5)) (ah (eC (.int 12)) (ah (eC (.int 12)) az))))))) (e2 da (e2 fS (af 2) (eC (.int 24))) (eC (.int 6))))) (cj (e1 ez (bR (ki (ah (af 3) az)) 1 [0,3,4] (aU 0) (fun _=>.ok true) (aC dc (ah (aC bc (ah (af 1) (ah (e2 eW (eC (.int 3)) (af 0)) az))) (ah (af 2) (ah (af 3) az))))))))))
noncomputable def cY:List PyData->R PyData:=dP 5 (ji bc dc)
noncomputable def jh (aG:List PyData->R PyData):Fs :=
  (aR (gM 4 (gg az)) (aR (gW (jd (pJ (af 0)) (eF 5 6) (aR (bN 7 (aC aG (ah (af 2) (ah (af 5) az)))) (iI (oU (tE (e2 (nh) (e2 bC (af 6) (eC (.int 0))) (af 1))) (ip (tE (e2 (dW lT) (af 3) (eC (.int 0)))) (tE (e2 (fY) (e2 da (af 7) (af 3)) (eC (.int 0)))))) (eB 4 (eC .none)) (eB 4 (e2 bC (e2 bC (af 6) (eC (.int 3))) (e2 da (e2 fS (af 7) (eC (.int 7))) (e1 cF (e2 bC (af 6) (eC (.int 3))))))))))) (cj (e1 ez (eG 4)))))
noncomputable def cO:List PyData->R PyData:=dP 8 (jh aG)
noncomputable def gv (cO:List PyData->R PyData):Fs :=
  (aR (iI (tE (e2 (fY) (e2 da (af 2) (eC (.int 3))) (eC (.int 0)))) (cj (aC cO (ah (af 0) (ah (af 1) (ah (e2 fS (af 2) (eC (.int 3))) (ah (eC (.int 9)) az)))))) cn) (aR (gM 4 (bR (vy (af 0) (af 3)) 2 [1] (eF 0 1) (fun _=>.ok true) (e2 bC (gg (ah (eC .none) (ah (af 1) az))) (e1 lC (e2 (fY) (e2 bC (af 0) (eC (.int 0))) (af 2)))))) (aR (iI (tE (e2 (fY) (e2 da (af 2) (eC (.int 3))) (eC (.int 1)))) (aR (bN 5 (e2 da (e2 fS (af 2) (eC (.int 3))) (e1 cF (af 0)))) (iJ 4 (af 5) (e2 bC (e2 bC (e2 bC (af 0) (af 5)) (eC (.int 3))) (e2 da (e2 fS (af 2) (eC (.int 72))) (e1 cF (e2 bC (e2 bC (af 0) (af 5)) (eC (.int 3)))))))) cn) (cj (e1 ez (eG 4))))))
noncomputable def cQ:List PyData->R PyData:=dP 6 (gv cO)
noncomputable def o5:Fs :=
  (cj (x8 (e1 (k6 .int) (af 0)) (BK (e1 (k6 .bool) (af 0)))))
noncomputable def cz:List PyData->R PyData:=dP 1 (o5)
noncomputable def nu (cz:List PyData->R PyData):Fs :=
  (cj (HK (e2 (mm) (af 0) (eC .none)) (x8 (aC cz (ah (af 0) az)) (e2 (je false) (af 0) (e2 bC (af 1) (eC (.int 3)))))))
noncomputable def eK:List PyData->R PyData:=dP 2 (nu cz)
noncomputable def jU (eK:List PyData->R PyData):Fs :=
  (aR (iI (oU (mV (tE (e1 (k6 .tuple) (af 0)))) (tE (e2 (nh) (e1 cF (af 0)) (e1 cF (af 1))))) (cj (eC (.bool false))) cn) (cj (e1 BE (bR (vy (af 0) (af 1)) 2 [] (eF 0 1) (fun _=>.ok true) (aC eK (ah (af 0) (ah (af 1) az)))))))
noncomputable def dI:List PyData->R PyData:=dP 2 (jU eK)
noncomputable def jg (cz:List PyData->R PyData):Fs :=
  (cj (x8 (aC cz (ah (af 0) az)) (sr (dW Ds) (dW Ds) (af 1) (af 0) (af 2))))
noncomputable def cM:List PyData->R PyData:=dP 3 (jg cz)
noncomputable def ln (cM:List PyData->R PyData):Fs :=
  (aR (iI (mV (tE (e1 (k6 .tuple) (af 0)))) (cj (eC (.bool false))) cn) (aR (bN 2 (eC (.int 0))) (aR (gW (jd (ej (af 0)) (aU 3) (aR (iI (mV (tE (aC cM (ah (af 3) (ah (af 2) (ah (e2 oQ (af 1) (eC (.int 1))) az)))))) (cj (eC (.bool false))) cn) (bN 2 (e2 eW (af 3) (eC (.int 1))))))) (cj (eC (.bool true))))))
noncomputable def dN:List PyData->R PyData:=dP 4 (ln cM)
noncomputable def nr:Fs :=
  (aR (gM 3 (eC (.dict []))) (aR (gM 4 (gg (ah (af 1) az))) (aR (gW (p9 1000000 (tE (e2 (dW lT) (e1 cF (eG 4)) (eC (.int 0)))) (aR (AN 5 4) (gW (jd (ej (e2 bC (af 0) (af 5))) (aU 6) (iI (ip (tE (e2 (je false) (af 6) (af 2))) (tE (e2 (je true) (af 6) (eG 3)))) (aR (qD 3 (af 6) (eC (.bool true))) (eB 4 (af 6))) cn)))))) (uG 3))))
noncomputable def ff:List PyData->R PyData:=dP 7 (nr)
noncomputable def fP (ff:List PyData->R PyData):Fs :=
  (aR (bN 4 (e2 bC (e2 bC (af 0) (af 3)) (eC (.int 1)))) (aR (iI (tE (e2 (fY) (e2 da (af 4) (eC (.int 2))) (af 1))) (cj (eC (.bool false))) cn) (aR (bN 5 (bR (zT (af 2)) 1 [0,4] (aU 0) (tE (e2 (dW Ds) (e2 bC (e2 bC (af 1) (af 0)) (eC (.int 1))) (af 2))) (af 0))) (cj (e2 (je false) (af 3) (aC ff (ah (af 2) (ah (af 3) (ah (af 5) az)))))))))
noncomputable def bF:List PyData->R PyData:=dP 6 (fP ff)
noncomputable def nv:Fs :=
  (aR (gM 4 (eC (.dict []))) (aR (gW (jd (ej (af 2)) (aU 5) (qD 4 (af 5) (zF (tE (e2 (fY) (e2 bC (e2 bC (af 0) (af 5)) (eC (.int 0))) (af 1))) (gh (ah (e2 bC (af 3) (af 5)) az)) (e2 bC (e2 bC (af 0) (af 5)) (eC (.int 3))))))) (uG 4)))
noncomputable def fi:List PyData->R PyData:=dP 6 (nv)
noncomputable def kF:Fs :=
  (cj (e1 ez (bR (ej (af 0)) 1 [1] (aU 0) (tE (e2 (je true) (af 0) (af 1))) (af 0))))
noncomputable def aV:List PyData->R PyData:=dP 2 (kF)
noncomputable def lW (dI:List PyData->R PyData) (dN:List PyData->R PyData) (bF:List PyData->R PyData) (fi:List PyData->R PyData) (aV:List PyData->R PyData):Fs :=
  (aR (iI (mV (tE (aC dN (ah (af 2) (ah (e1 cF (af 0)) az))))) (sM (PySem.Str.ofString "NoPart") (eC (.str (PySem.Str.ofString "places are not some places")))) cn) (aR (iI (mV (tE (aC dI (ah (af 3) (ah (af 0) az))))) (sM (PySem.Str.ofString "NoMoves") (eC (.str (PySem.Str.ofString "moves are no moves")))) cn) (aR (bN 4 (aC fi (ah (af 0) (ah (af 1) (ah (af 2) (ah (af 3) az)))))) (aR (iI (tE (e1 vn (bR (wS (af 4)) 1 [2] (aU 0) (fun _=>.ok true) (e2 (dW lT) (e1 cF (aC aV (ah (af 0) (ah (af 1) az)))) (eC (.int 0)))))) (cj (eC (.bool false))) cn) (cj (BK (e1 vn (bR (ej (af 2)) 1 [0,1,4] (aU 0) (fun _=>.ok true) (aC bF (ah (af 1) (ah (af 2) (ah (af 3) (ah (af 0) az)))))))))))))
noncomputable def cL:List PyData->R PyData:=dP 5 (lW dI dN bF fi aV)
noncomputable def gp (cL:List PyData->R PyData):Fs :=
  (aR (uI cL (ah (af 0) (ah (af 1) (ah (af 2) (ah (af 3) az)))) ((PySem.Str.ofString "NoMoves",(fun p ρ=>(e2 mo (eC (.str (PySem.Str.ofString "moves"))) (e1 lC (pC 4 p))) (ρ.set 4 (.exc p))))::((PySem.Str.ofString "NoPart",(fun p ρ=>(e2 mo (eC (.str (PySem.Str.ofString "part"))) (e1 lC (pC 4 p))) (ρ.set 4 (.exc p))))::[]))) (cj (eC (.str (PySem.Str.ofString "")))))
noncomputable def bn:List PyData->R PyData:=dP 5 (gp cL)
noncomputable def lr (aG:List PyData->R PyData):Fs :=
  (aR (bN 2 (e2 da (af 0) (eC (.int 5)))) (cj (e1 ez (bR (ki (ah (af 1) az)) 1 [2,0] (aU 0) (oU (tE (e2 (fY) (af 1) (eC (.int 4)))) (tE (e2 (dW Hj) (e2 da (aC aG (ah (af 2) (ah (af 0) az))) (eC (.int 4))) (af 1)))) (af 0)))))
noncomputable def dO:List PyData->R PyData:=dP 3 (lr aG)
noncomputable def ls:Fs :=
  (aR (iI (tE (e2 (fY) (e2 bC (e2 bC (af 0) (af 3)) (eC (.int 0))) (af 1))) (cj (bR (ej (gg (ah (e2 bC (af 2) (af 3)) az))) 1 [] (aU 0) (tE (e2 (mr) (af 0) (eC .none))) (af 0))) cn) (cj (e1 mn (e2 bC (e2 bC (af 0) (af 3)) (eC (.int 3))))))
noncomputable def bI:List PyData->R PyData:=dP 4 (ls)
noncomputable def jk (bI:List PyData->R PyData):Fs :=
  (aR (gW (jd (ej (af 3)) (aU 4) (aR (bN 5 (aC bI (ah (af 0) (ah (af 1) (ah (af 2) (ah (af 4) az)))))) (iI (oU (tE (e2 (fY) (af 5) (gg az))) (tE (e2 (nh) (bR (ej (af 5)) 1 [3] (aU 0) (tE (e2 (je true) (af 0) (af 1))) (af 0)) (gg az)))) (cj (eC (.bool false))) cn)))) (cj (eC (.bool true))))
noncomputable def cZ:List PyData->R PyData:=dP 6 (jk bI)
noncomputable def iQ (bI:List PyData->R PyData):Fs :=
  (aR (gM 5 (gg az)) (aR (bN 6 (aC bI (ah (af 0) (ah (af 1) (ah (af 2) (ah (af 3) az)))))) (aR (gW (p9 1000000 (tE (e2 (nh) (af 6) (gg az))) (aR (bN 7 (e2 bC (af 6) (eC (.int 0)))) (aR (bN 6 (Dg (af 6) (oz (eC (.int 1))) oy)) (iI (ip (tE (e2 (je false) (af 7) (af 4))) (tE (e2 (je true) (af 7) (eG 5)))) (aR (eB 5 (af 7)) (bN 6 (e2 eW (af 6) (aC bI (ah (af 0) (ah (af 1) (ah (af 2) (ah (af 7) az)))))))) cn))))) (uG 5))))
noncomputable def cw:List PyData->R PyData:=dP 8 (iQ bI)
noncomputable def fw (cZ:List PyData->R PyData) (cw:List PyData->R PyData):Fs :=
  (aR (iI (mV (tE (aC cZ (ah (af 0) (ah (af 1) (ah (af 2) (ah (af 3) az))))))) (cj (eC (.bool false))) cn) (aR (gW (jd (ej (af 3)) (aU 4) (aR (bN 5 (bR (ej (af 3)) 1 [0,4] (aU 0) (tE (e2 (dW Ds) (e2 bC (e2 bC (af 1) (af 0)) (eC (.int 1))) (e2 bC (e2 bC (af 1) (af 2)) (eC (.int 1))))) (af 0))) (aR (bN 6 (aC cw (ah (af 0) (ah (af 1) (ah (af 2) (ah (af 4) (ah (af 5) az))))))) (iI (ip (tE (e2 (nh) (e2 da (e2 bC (e2 bC (af 0) (af 4)) (eC (.int 1))) (eC (.int 2))) (af 1))) (tE (e2 (je false) (af 4) (af 6)))) (cj (eC (.bool false))) cn))))) (cj (eC (.bool true)))))
noncomputable def bB:List PyData->R PyData:=dP 7 (fw cZ cw)
noncomputable def jf:Fs :=
  (cj (zH (ah (e1 cF (af 0)) az)))
noncomputable def cX:List PyData->R PyData:=dP 1 (jf)
noncomputable def lu:Fs :=
  (cj (e1 ez (bR (pJ (af 0)) 2 [1] (eF 0 1) (fun _=>.ok true) (zF (tE (e2 (je false) (af 0) (af 2))) (af 1) (eC .none)))))
noncomputable def dl:List PyData->R PyData:=dP 2 (lu)
noncomputable def gH:Fs :=
  (cj (e1 ez (bR (vy (af 0) (af 1)) 2 [] (eF 0 1) (fun _=>.ok true) (zF (tE (e2 (mm) (af 0) (eC .none))) (af 1) (af 0)))))
noncomputable def aN:List PyData->R PyData:=dP 2 (gH)
noncomputable def o6:Fs :=
  (cj (e1 ez (bR (pJ (af 0)) 2 [] (eF 0 1) (tE (e2 (mr) (af 1) (eC .none))) (af 0))))
noncomputable def cJ:List PyData->R PyData:=dP 1 (o6)
noncomputable def gI (cJ:List PyData->R PyData):Fs :=
  (aR (gM 3 (bR (ej (af 2)) 1 [] (aU 0) (fun _=>.ok true) (eC .none))) (aR (gW (jd (ej (aC cJ (ah (af 2) az))) (aU 4) (iI (ip (tE (e2 (fY) (e2 bC (e2 bC (af 0) (af 4)) (eC (.int 0))) (af 1))) (tE (e2 (dW lT) (e2 bC (af 2) (af 4)) (eC (.int 0))))) (iJ 3 (af 4) (e2 bC (bR (ej (e2 bC (e2 bC (af 0) (af 4)) (eC (.int 3)))) 1 [2,4] (aU 0) (tE (e2 (fY) (e2 bC (af 1) (af 0)) (e2 oQ (e2 bC (af 1) (af 2)) (eC (.int 1))))) (af 0)) (eC (.int 0)))) cn))) (cj (e1 ez (eG 3)))))
noncomputable def br:List PyData->R PyData:=dP 5 (gI cJ)
noncomputable def o4:Fs :=
  (cj (e1 ez (bR (ej (af 0)) 1 [1] (aU 0) (tE (e2 (je false) (af 0) (af 1))) (af 0))))
noncomputable def cI:List PyData->R PyData:=dP 2 (o4)
noncomputable def jV:Fs :=
  (aR (bN 4 (bR (ej (af 1)) 1 [3] (aU 0) (tE (e2 (mr) (e2 bC (af 1) (af 0)) (eC .none))) (af 0))) (aR (iI (tE (e2 (fY) (e2 bC (af 0) (eC (.int 0))) (af 2))) (cj (e2 (dW lT) (e1 cF (af 4)) (eC (.int 0)))) cn) (cj (e2 (fY) (e1 cF (af 4)) (e1 cF (af 1))))))
noncomputable def cr:List PyData->R PyData:=dP 5 (jV)
noncomputable def lw (cI:List PyData->R PyData) (cr:List PyData->R PyData):Fs :=
  (aR (bN 4 (bR (ej (af 0)) 1 [1] (aU 0) (fun _=>.ok true) (aC cI (ah (e2 bC (af 0) (eC (.int 3))) (ah (af 1) az))))) (aR (gM 5 (bR (ki (ah (e1 cF (af 0)) az)) 1 [3] (aU 0) (fun _=>.ok true) (zF (tE (e2 (je false) (af 0) (af 1))) (eC (.int 0)) (eC .none)))) (aR (bN 6 (eC (.int 0))) (aR (bN 7 (e1 mn (af 3))) (aR (gW (p9 1000000 (tE (e2 (dW lT) (e1 cF (af 7)) (eC (.int 0)))) (aR (yG 6 (fun a b=>a+b) (eC (.int 1))) (aR (bN 8 (bR (ej (af 1)) 1 [5] (aU 0) (tE (e2 (mm) (e2 bC (eG 1) (af 0)) (eC .none))) (af 0))) (aR (bN 7 (bR (ej (af 8)) 1 [0,4,2,5] (aU 0) (tE (lb 4 (aC cr (ah (e2 bC (af 1) (af 0)) (ah (e2 bC (af 2) (af 0)) (ah (af 3) (ah (af 4) az))))))) (af 0))) (gW (jd (ej (af 7)) (aU 9) (iJ 5 (af 9) (af 6))))))))) (cj (e1 ez (eG 5))))))))
noncomputable def cV:List PyData->R PyData:=dP 10 (lw cI cr)
noncomputable def lv:Fs :=
  (cj (e1 ez (bR (ej (af 0)) 1 [] (aU 0) (fun _=>.ok true) (eC .none))))
noncomputable def cq:List PyData->R PyData:=dP 1 (lv)
noncomputable def gJ (cI:List PyData->R PyData) (cq:List PyData->R PyData):Fs :=
  (aR (gM 3 (e1 mn (aC cq (ah (af 0) az)))) (aR (gW (jd (ej (af 2)) (aU 4) (iI (tE (e2 (fY) (e2 bC (e2 bC (af 0) (af 4)) (eC (.int 0))) (af 1))) (iJ 3 (af 4) (e2 bC (aC cI (ah (e2 bC (e2 bC (af 0) (af 4)) (eC (.int 3))) (ah (af 2) az))) (eC (.int 0)))) cn))) (cj (e1 ez (eG 3)))))
noncomputable def bK:List PyData->R PyData:=dP 5 (gJ cI cq)
noncomputable def fj (dl:List PyData->R PyData) (aN:List PyData->R PyData) (br:List PyData->R PyData) (cJ:List PyData->R PyData) (cV:List PyData->R PyData) (bK:List PyData->R PyData) (aQ:List PyData->R PyData) (aV:List PyData->R PyData) (c_Share:Addr):Fs :=
  (aR (bN 2 (e1 wG (bR (ej (af 1)) 1 [0] (aU 0) (fun _=>.ok true) (e2 bC (e2 bC (af 1) (af 0)) (eC (.int 1)))))) (aR (bN 3 (e2 da (af 2) (eC (.int 2)))) (aR (bN 4 (e2 oQ (eC (.int 1)) (af 3))) (aR (bN 5 (bR (ej (af 1)) 1 [0,2] (aU 0) (tE (e2 (fY) (e2 bC (e2 bC (af 1) (af 0)) (eC (.int 1))) (af 2))) (af 0))) (aR (bN 6 (aC cV (ah (af 0) (ah (af 1) (ah (af 3) (ah (af 5) az)))))) (aR (bN 7 (aC aQ (ah (af 0) (ah (aC aV (ah (af 1) (ah (aC cJ (ah (af 6) az)) az))) az)))) (aR (bN 8 (bR (pJ (e2 bC (af 7) (eC (.int 0)))) 2 [4] (eF 0 1) (tE (e2 (fY) (af 1) (af 2))) (af 0))) (aR (iI (tE (e2 (fY) (e1 cF (af 8)) (eC (.int 0)))) (aR (bN 9 (aC aN (ah (aC br (ah (af 0) (ah (af 3) (ah (af 6) az)))) (ah (e2 bC (af 7) (eC (.int 1))) az)))) (cj (ua c_Share ["who","places","moves"] (ah (af 3) (ah (af 1) (ah (aC aN (ah (af 9) (ah (aC bK (ah (af 0) (ah (af 3) (ah (af 1) az)))) az))) az)))))) cn) (aR (bN 6 (aC cV (ah (af 0) (ah (af 1) (ah (af 4) (ah (af 8) az)))))) (aR (bN 9 (aC aN (ah (aC br (ah (af 0) (ah (af 4) (ah (af 6) az)))) (ah (aC dl (ah (e2 bC (af 7) (eC (.int 1))) (ah (af 8) az))) az)))) (cj (ua c_Share ["who","places","moves"] (ah (af 4) (ah (aC cJ (ah (af 6) az)) (ah (af 9) az)))))))))))))))
noncomputable def fx (aN:List PyData->R PyData) (cq:List PyData->R PyData) (c_Share:Addr):Fs :=
  (aR (gM 2 (bR (ej (af 0)) 1 [] (aU 0) (fun _=>.ok true) (eC .none))) (aR (bN 3 (aC cq (ah (af 0) az))) (aR (gW (jd (ej (af 1)) (aU 4) (aR (gW (jd (ej (e1 (lD c_Share "places") (af 4))) (aU 5) (iJ 2 (af 5) (e1 (lD c_Share "who") (af 4))))) (bN 3 (aC aN (ah (af 3) (ah (e1 (lD c_Share "moves") (af 4)) az))))))) (cj (gh (ah (e1 ez (eG 2)) (ah (af 3) az)))))))
noncomputable def bo (c_Share:Addr):List PyData->R PyData:=dP 6 (fx aN cq c_Share)
noncomputable def fq (bj:List PyData->R PyData) (bo:List PyData->R PyData) (aV:List PyData->R PyData) (c_Share:Addr):Fs :=
  (aR (gM 2 (gg az)) (aR (bN 3 (af 1)) (aR (gW (p9 1000000 (tE (e2 (dW lT) (e1 cF (af 3)) (eC (.int 0)))) (aR (bN 4 (aC bj (ah (af 0) (ah (af 3) az)))) (aR (eB 2 (af 4)) (bN 3 (aC aV (ah (af 3) (ah (e1 (lD c_Share "places") (af 4)) az)))))))) (Hn 2 (cj (aC bo (ah (af 0) (ah (af 2) az))))))))
noncomputable def aQ (c_Share:Addr):Nat->List PyData->R PyData
  | 0=>fun _=>.no
  | k+1=>dP 5 (fq (dP 10 (fj dl aN br cJ cV bK (aQ c_Share k) aV c_Share)) (bo c_Share) aV c_Share)
noncomputable def bj (c_Share:Addr) (k:Nat):List PyData->R PyData:=dP 10 (fj dl aN br cJ cV bK (aQ c_Share k) aV c_Share)
noncomputable def zb (cX:List PyData->R PyData) (aQ:List PyData->R PyData):Fs :=
  (cj (aC aQ (ah (af 0) (ah (aC cX (ah (af 0) az)) az))))
noncomputable def lV (c_Share:Addr):List PyData->R PyData:=dP 1 (zb cX (aQ c_Share 14))
noncomputable def za (cY:List PyData->R PyData) (bc:List PyData->R PyData) (cQ:List PyData->R PyData) (bn:List PyData->R PyData) (dO:List PyData->R PyData) (bB:List PyData->R PyData) (cL:List PyData->R PyData) (lV:List PyData->R PyData):Fs :=
  (aR (bN 1 (aC cY (ah (af 0) (ah (eC (.int 24)) az)))) (aR (bN 2 (e2 da (aC bc (ah (af 0) (ah (eC (.int 1)) az))) (eC (.int 2)))) (aR (CG (eF 3 4) (aC lV (ah (af 1) az))) (aR (bN 5 (aC cQ (ah (af 1) (ah (af 2) (ah (aC bc (ah (af 0) (ah (eC (.int 2)) az))) (ah (af 4) az)))))) (aR (bN 6 (e1 ez (bR (ki (ah (e1 cF (af 1)) az)) 1 [3,2] (aU 0) (tE (e2 (fY) (e2 bC (af 1) (af 0)) (af 2))) (af 0)))) (aR (iI (tE (e2 (fY) (e2 da (e2 fS (aC bc (ah (af 0) (ah (eC (.int 1)) az))) (eC (.int 2))) (eC (.int 3))) (eC (.int 1)))) (bN 6 (aC dO (ah (e2 fS (aC bc (ah (af 0) (ah (eC (.int 1)) az))) (eC (.int 6))) (ah (e1 cF (af 1)) az)))) cn) (aR (bN 7 (e2 fS (aC bc (ah (af 0) (ah (eC (.int 3)) az))) (eC (.int 24)))) (aR (iI (tE (e2 (fY) (e2 da (af 7) (eC (.int 5))) (eC (.int 1)))) (aR (bN 8 (e2 bC (gg (ah (gh (ah (eC (.int 0)) (ah (eC (.int 0)) az))) (ah (gh (ah (e1 cF (af 1)) az)) (ah (gg (ah (eC (.int 0)) az)) (ah (gh (ah (e1 vp (eC (.int 1))) az)) (ah (eC .none) (ah (gh (ah (eC (.bool false)) az)) az))))))) (e2 da (e2 fS (af 7) (eC (.int 5))) (eC (.int 6))))) (aR (bN 9 (e2 bC (gg (ah (e2 eW (af 5) (gh (ah (eC .none) az))) (ah (e1 mn (af 5)) (ah (e2 eW (gh (ah (e1 cF (af 1)) az)) (Dg (af 5) (oz (eC (.int 1))) oy)) (ah (e2 eW (gh (ah (eC (.bool true)) az)) (Dg (af 5) (oz (eC (.int 1))) oy)) (ah (eC .none) az)))))) (e2 da (e2 fS (af 7) (eC (.int 30))) (eC (.int 5))))) (aR (iI (oU (tE (e2 (nh) (aC bn (ah (af 1) (ah (af 2) (ah (af 8) (ah (af 5) az))))) (eC (.str (PySem.Str.ofString "part"))))) (tE (e2 (nh) (aC bn (ah (af 1) (ah (af 2) (ah (af 6) (ah (af 9) az))))) (eC (.str (PySem.Str.ofString "moves")))))) (cj (eC (.bool false))) cn) (iI (tE (e2 (nh) (aC bn (ah (af 1) (ah (af 2) (ah (af 8) (ah (af 9) az))))) (eC (.str (PySem.Str.ofString "part"))))) (cj (eC (.bool false))) cn)))) cn) (aR (bN 10 (aC cL (ah (af 1) (ah (af 2) (ah (af 6) (ah (af 5) az)))))) (cj (x8 (e1 (k6 .bool) (af 10)) (e2 (fY) (af 10) (aC bB (ah (af 1) (ah (af 2) (ah (af 5) (ah (af 6) az)))))))))))))))))
noncomputable def wo (c_Share:Addr):List PyData->R PyData:=dP 11 (za cY bc cQ bn dO bB cL (lV c_Share))
end G
end
namespace G
open PySem PySem.Spec PyProof.Rows L2 D2
theorem BB (ns:List Int) {k:Int} (hk:0<=k):∃ v,cN [sU ns,.int k]=.ok (.int v):=by
  unfold cN iP;by_cases h:k < ns.length
  · refine ⟨ns[k.toNat]'(by omega),?_⟩;have hx:=tZ (xs:=ns.map PyData.int) (i:=k) hk (by simpa using h);rw [eX];simp [h,hx]
  · refine ⟨0,?_⟩;rw [eX];simp [h]
theorem kq (ns:List Int) {k:Int} (hk:0<=k):∃ v,bc [sU ns,.int k]=.ok (.int v)/\0<=v/\v < 2147483629:=by
  obtain ⟨c,hc⟩:=BB ns hk;unfold bc jY;have m1:gT (.int 7919) (.int k)=.ok (.int (7919*k)):=ju (.inl (by omega));have m2:gT (.int (c+7919*k+1)) (.int 48271)=.ok (.int ((c+7919*k+1)*48271)):=ju (.inr (by omega));generalize hd:(c+7919*k+1)*48271%2147483647=d;have hd0:0<=d:=by omega
  have hd1:d < 2147483647:=by omega
  have m3:gT (.int d) (.int d)=.ok (.int (d*d)):=ju (.inl (by omega));have m4:gT (.int 7) (.int d)=.ok (.int (7*d)):=ju (.inl (by omega));refine ⟨(d*d+7*d+k)%2147483629,?_,by omega,by omega⟩;rw [eX];simp [hc,m1,m2,hd,m3,m4,List.replicate]
theorem mx (n k:Int):∃ v,aG [.int n,.int k]=.ok (.int v)/\0<=v/\v < 2147483629:=by
  unfold aG jW;have m1:gT (.int 104729) (.int k)=.ok (.int (104729*k)):=ju (.inl (by omega));have m2:gT (.int (n+104729*k+17)) (.int 69621)=.ok (.int ((n+104729*k+17)*69621)):=ju (.inr (by omega));generalize hd:(n+104729*k+17)*69621%2147483647=d;have hd0:0<=d:=by omega
  have hd1:d < 2147483647:=by omega
  have m3:gT (.int d) (.int d)=.ok (.int (d*d)):=ju (.inl (by omega));have m4:gT (.int 3) (.int d)=.ok (.int (3*d)):=ju (.inl (by omega));refine ⟨(d*d+3*d+k)%2147483629,?_,by omega,by omega⟩;rw [eX];simp [m1,m2,hd,m3,m4,List.replicate]
theorem pI (n c:Int) (hc:1<=c):∀ (ds:List PyData) (m:Nat) (kvs:List (PyData×PyData)) (x:aT),u3 c m kvs->(∀ d∈ds,∃ k,d=.int k)->m+ds.length<=1000 ->
    ∃ kvs' x',u3 c (m+ds.length) kvs'/\fT (aU 3) (qD 2 (e2 da (aC aG (ah (af 0) (ah (af 3) az))) (af 1)) (eC (.bool true))) ds [.val (.int n),.val (.int c),.own (.dict kvs),x]
      = .ok (.nx [.val (.int n),.val (.int c),.own (.dict kvs'),x'])
  | [],m,kvs,x,hk,_,_=>⟨kvs,x,hk,by rw [eY]⟩
  | d::ds,m,kvs,x,hk,hi,hl=>by
    obtain ⟨k,rfl⟩:=hi d List.mem_cons_self;obtain ⟨v,hv,v0,v1⟩:=mx n k;have hk':=hk.put (k:=v%c) (Int.emod_nonneg _ (by omega)) (Int.emod_lt_of_pos _ (by omega)) (.bool true);obtain ⟨kvs',x',h1,h2⟩:=pI n c hc ds (m+1) _ (.val (.int k)) hk' (fun d hd=>hi d (List.mem_cons_of_mem _ hd)) (by simp at hl;omega);refine ⟨kvs',x',by rw [List.length_cons];simpa [Nat.add_comm,Nat.add_left_comm,Nat.add_assoc] using h1,?_⟩;have hlen:=hk.len;have hsz:kvs.length < sizeLine:=Nat.lt_of_le_of_lt (show kvs.length<=1000 by simp at hl;omega) (by decide);have hc':0 < c:=by omega
    rw [dH,<- h2];simp [qD,hv,hc',gF,hsz]
theorem yo {n c:Int} (hn:0<=n) (hc:1<=c):∃ ns:List Int,dJ [.int n,.int c]=.ok (.tuple (ns.map .int))/\(∀ x∈ns,0<=x/\x < c)/\ns≠[]/\ns.Pairwise (· < ·):=by
  unfold dJ jX;have m1:∀ k:Int,gT (.int 20) (.int k)=.ok (.int (20*k)):=fun k=>ju (.inl (by omega))
  generalize hN:(1+n%3+20*(if n / 3%29=7 then 1 else 0):Int)=N;have hN0:1<=N:=by split at hN <;> omega
  have hN1:N<=23:=by split at hN <;> omega
  obtain ⟨kvs,x,hk,hf⟩:=pI n c hc (bU 0 N.toNat) 0 [] .non ⟨[],rfl,by simp,by simp,.inl rfl,by simp⟩ (uA _ _) (by rw [fI];omega);obtain ⟨ns,e,hb,hl,hz,nd⟩:=hk.ex;rw [fI] at hl hz;have hi:dF (kvs.map (·.1))=some ns:=by rw [e,kj]
  have hs:mw (.dict kvs)=.ok (.list ((gR ns).map PyData.int)):=by
    show (match dF (kvs.map (·.1)) with | some ns=>if ns.length < 64 then R.ok (PyData.list ((gR ns).map PyData.int)) else .no | none=>.no)=_;rw [hi];exact if_pos (by omega)
  have hr:-(2 ^ 62)<=N/\N < 2 ^ 62:=by omega
  refine ⟨gR ns,?_,fun x hx=>hb x ((gj ns).mem_iff.mp hx),?_,yN (jM ns) ((gj ns).nodup_iff.mpr nd)⟩
  · rw [eX];have hg:qC [.int N]=.ok (bU 0 N.toNat):=by
      show (if -(2 ^ 62)<=N/\N < 2 ^ 62 then R.ok (bU 0 N.toNat) else .no)=_;rw [if_pos hr]
    simp [fE,dR,m1,List.replicate,hN,hg,hf,hs]
  · intro z;have:=(gj ns).length_eq;rw [z] at this;rcases hz with q | q
    · omega
    · exact q (List.eq_nil_of_length_eq_zero this.symm)
theorem yr {n c h:Int} (hn:0<=n) (hc:1<=c) (h0:0<=h):∃ p:P4,dc [.int n,.int c,.int h]=.ok p.d/\Pl c h p:=by
  obtain ⟨v,hv,v0,v1⟩:=mx n 9;obtain ⟨ns,hg,hb,hne,hso⟩:=yo (n:=v) (c:=c) v0 hc;unfold dc jZ;have hh:0 < h+1:=by omega
  have s4:4<=sizeLine:=by decide
  have a1:=Int.emod_nonneg (n / 2) (show h+1≠0 by omega);have a2:=Int.emod_lt_of_pos (n / 2) hh;by_cases hq:n / 234%11=3
  · refine ⟨⟨n%2,n / 2%(h+1),n / 26%41-20,ns⟩,?_,⟨by dsimp only;omega,by dsimp only;omega,a1,by dsimp only;omega,by dsimp only;omega,by dsimp only;omega,hne,hso,hb⟩⟩;rw [eX];simp [hh,dR,hq,hv,hg,s4,P4.d]
  · refine ⟨⟨n%2,n / 2%(h+1),n / 26%9-4,ns⟩,?_,⟨by dsimp only;omega,by dsimp only;omega,a1,by dsimp only;omega,by dsimp only;omega,by dsimp only;omega,hne,hso,hb⟩⟩;rw [eX];simp [hh,dR,hq,hv,hg,s4,P4.d]
theorem tX (f:Fe) (ρ:aW) (i:Nat) (P:P4->Prop):∀ ds:List PyData,(∀ d∈ds,∃ p:P4,f (ρ.set i (.val d))=.ok p.d/\P p)->∃ ps:List P4,cg (aU i) (fun _=>.ok true) f ρ ds=.ok (ps.map P4.d)/\ps.length=ds.length/\∀ p∈ps,P p
  | [],_=>⟨[],di ..,rfl,by simp⟩
  | d::ds,h=>by
    obtain ⟨x,h1,h2⟩:=h d List.mem_cons_self;obtain ⟨xs,h3,h4,h5⟩:=tX f ρ i P ds fun d hd=>h d (List.mem_cons_of_mem _ hd)
    refine ⟨x::xs,?_,by simp [h4],fun y hy=>?_⟩
    · rw [eV,h1,h3];rfl
    · rcases List.mem_cons.mp hy with rfl | hy
      · exact h2
      · exact h5 y hy
theorem vF (ns:List Int) {most:Int} (hm0:1<=most) (hm1:most<=24):∃ (ps:List P4) (hi:Int),cY [sU ns,.int most]=.ok (gD ps)/\(∀ p∈ps,Pl ps.length hi p)/\1<=ps.length/\(ps.length:Int)<=most/\0<=hi/\hi<=12:=by
  obtain ⟨v,hv,v0,v1⟩:=kq ns (k:=0) (by omega);unfold cY ji;generalize hm:(if (if (ns.length:Int) > 4 then (ns.length:Int) else 4) < most then (if (ns.length:Int) > 4 then (ns.length:Int) else 4) else most)=m;have m0:0 < m:=by split at hm <;> split at hm <;> omega
  have m1:m<=most:=by split at hm <;> split at hm <;> omega
  generalize hc:1+v%m=c;have c0:1<=c:=by have:=Int.emod_nonneg v (show m≠0 by omega);omega
  have c1:c<=most:=by have:=Int.emod_lt_of_pos v m0;omega
  have hix:∃ h,bC (.list [.int 1,.int 2,.int 3,.int 5,.int 12,.int 12]) (.int (v / 24%6))=.ok (.int h)/\0<=h/\h<=12:=by
    obtain ⟨x,hx,e⟩:=sk (xs:=[.int 1,.int 2,.int 3,.int 5,.int 12,.int 12]) (i:=v / 24%6) (by omega) (by simp;omega);rw [e];simp at hx;rcases hx with rfl | rfl | rfl | rfl | rfl <;> exact ⟨_,rfl,by decide,by decide⟩
  obtain ⟨h,hh,h0,h1⟩:=hix;have s6:6<=sizeLine:=by decide
  have hr:qC [.int c]=.ok (bU 0 c.toNat):=by
    show (if -(2 ^ 62)<=c/\c < 2 ^ 62 then R.ok (bU 0 c.toNat) else .no)=_;rw [if_pos (by omega)]
  obtain ⟨xs,e1,e2,e3⟩:=tX (aC dc (ah (aC bc (ah (af 1) (ah (e2 eW (eC (.int 3)) (af 0)) az))) (ah (af 2) (ah (af 3) az)))) (aJ 1 [0,3,4] [.val (sU ns),.val (.int most),.val (.int v),.val (.int c),.val (.int h)]) 0 (Pl c h) (bU 0 c.toNat) fun d hd=>by
    unfold bU at hd;obtain ⟨k,_,rfl⟩:=List.mem_map.mp hd;obtain ⟨w,hw,w0,w1⟩:=kq ns (k:=3+(0+(k:Int))) (by omega);obtain ⟨d,hd1,hd2⟩:=yr (n:=w) (c:=c) (h:=h) w0 c0 h0;refine ⟨d,?_,hd2⟩;simp at hw;simp [aJ,List.replicate,hw,hd1]
  rw [fI] at e2;have ec:(xs.length:Int)=c:=by omega
  refine ⟨xs,h,?_,by rw [ec];exact e3,by omega,by omega,h0,h1⟩;rw [eX];simp [hv,hm,m0,hc,s6,hh,List.replicate,bt,hr,fI,bQ (show c.toNat<=1000 by omega),e1]
noncomputable def bV (ns:List Int) (i:Int):Bool:=ns.any fun j=>decide (j=i)
theorem bu {ns:List Int} {i:Int}:bV ns i=true<->i∈ns:=by
  unfold bV;rw [List.any_eq_true];constructor
  · rintro ⟨j,hj,e⟩;have:=of_decide_eq_true e;exact this ▸ hj
  · exact fun h=>⟨i,h,decide_eq_true rfl⟩
theorem iA:∀ ns:List Int,PyData.depthAll (ns.map .int)=0
  | []=>by simp [PyData.depthAll]
  | n::ns=>by simp [PyData.depthAll,PyData.depth,iA ns]
theorem lE (ns:List Int):PyData.canLayAll0 (ns.map .int)=true:=l8 fun x hx=>by
  obtain ⟨i,_,rfl⟩:=List.mem_map.mp hx;exact ie i
theorem qV (ns:List Int) (i:Int):pL (ns.map .int) (.int i)=true:=by
  unfold pL;rw [lE,iA];simp [PyData.canLay0]
theorem tT (ns:List Int) (i:Int):((ns.map PyData.int).any fun y=>PyData.eqv y (.int i))=bV ns i:=by
  rw [List.any_map];congr 1
theorem FV (ns:List Int) (i:Int) (neg:Bool):je neg (.int i) (.tuple (ns.map .int))=.ok (.bool (if neg then !bV ns i else bV ns i)):=by
  show (if pL (ns.map .int) (.int i)=true then R.ok (PyData.bool _) else .no)=_;rw [if_pos (qV ns i),tT]
theorem BX (ns:List Int) (i:Int) (neg:Bool):je neg (.int i) (.list (ns.map .int))=.ok (.bool (if neg then !bV ns i else bV ns i)):=by
  show (if pL (ns.map .int) (.int i)=true then R.ok (PyData.bool _) else .no)=_;rw [if_pos (qV ns i),tT]
theorem pF:∀ ns ms:List Int,PyData.eqvAll (ns.map .int) (ms.map .int)=decide (ns=ms)
  | [],[]=>by simp [PyData.eqvAll]
  | [],_::_=>by simp [PyData.eqvAll]
  | _::_,[]=>by simp [PyData.eqvAll]
  | n::ns,m::ms=>by
    simp only [List.map_cons,PyData.eqvAll,pF ns ms,sx];by_cases h:n=m <;> by_cases h2:ns=ms <;> simp [h,h2]
theorem wL (ns ms:List Int):sv (.list (ns.map .int)) (.list (ms.map .int))=true:=by
  unfold sv;simp [PyData.canLay0,lE,PyData.depth,iA]
theorem An (ns ms:List Int):nh (.list (ns.map .int)) (.list (ms.map .int))=.ok (.bool (!decide (ns=ms))):=by
  unfold nh;rw [if_pos (wL ns ms)];simp only [PyData.eqv,pF]
theorem FL (ns ms:List Int):fY (.list (ns.map .int)) (.list (ms.map .int))=.ok (.bool (decide (ns=ms))):=by
  unfold fY;rw [if_pos (wL ns ms)];simp only [PyData.eqv,pF]
theorem cu {t:aW->R Bool} {ρ:aW} {p:Int->Bool}:∀ ns:List Int,(∀ x∈ns,t ((aT.non::ρ).set 0 (.val (.int x)))=.ok (p x))->cg (aU 0) t (af 0) (.non::ρ) (ns.map .int)=.ok ((ns.filter p).map .int)
  | [],_=>di ..
  | x::ns,h=>by
    rw [List.map_cons,eV,h x List.mem_cons_self,cu ns fun y hy=>h y (List.mem_cons_of_mem _ hy)];cases hp:p x with
    | true=>rw [List.filter_cons_of_pos hp];rfl
    | false=>rw [List.filter_cons_of_neg (by rw [hp];simp)];rfl
theorem jB (c:Nat):bU 0 c=((List.range c).map fun (k:Nat)=>(k:Int)).map .int:=by
  unfold bU;rw [List.map_map];apply List.map_congr_left;intro k _;simp
noncomputable def aL (ps:List P4) (i:Int):List Int:=(ps[i.toNat]?.map (·.ns)).getD []
theorem il {ps:List P4} {i:Int} (h0:0<=i) (h1:i < ps.length):bC (gD ps) (.int i)=.ok (ps[i.toNat]'(by omega)).d:=by
  rw [qP h0 (by simpa using h1)];simp
theorem du {ps:List P4} {i:Int} (h0:0<=i) (h1:i < ps.length):aL ps i=(ps[i.toNat]'(by omega)).ns:=by
  unfold aL;rw [List.getElem?_eq_getElem (by omega)];rfl
theorem lL (p:P4):bC p.d (.int 3)=.ok (.tuple (p.ns.map .int)):=rfl
theorem lK (p:P4):bC p.d (.int 0)=.ok (.int p.w):=rfl
theorem CM {n c:Int} (hc0:0<=c) (hc1:c<=24):∃ ns:List Int,dO [.int n,.int c]=.ok (.tuple (ns.map .int))/\ns.Pairwise (· < ·)/\∀ x∈ns,0<=x/\x < c:=by
  have hr:qC [.int c]=.ok (bU 0 c.toNat):=by
    show (if -(2 ^ 62)<=c/\c < 2 ^ 62 then R.ok (bU 0 c.toNat) else .no)=_;rw [if_pos (by omega)]
  have hx:∀ k:Int,∃ v,aG [.int n,.int k]=.ok (.int v):=fun k=>let ⟨v,h,_⟩:=mx n k;⟨v,h⟩
  obtain ⟨dr,hdr⟩:∃ dr:Int->Int,∀ k,aG [.int n,.int k]=.ok (.int (dr k)):=⟨fun k=>(hx k).choose,fun k=>(hx k).choose_spec⟩
  have hcmp:=cu (t:=oU (tE (e2 (fY) (af 1) (eC (.int 4)))) (tE (e2 (dW Hj) (e2 da (aC aG (ah (af 2) (ah (af 0) az))) (eC (.int 4))) (af 1)))) (ρ:=[.val (.int (n%5)),.val (.int n)])
    (p:=fun k=>decide (n%5=4)||decide (dr k%4 < n%5)) ((List.range c.toNat).map fun (k:Nat)=>(k:Int)) fun k hk=>by
      by_cases h4:n%5=4 <;> simp [dR,hdr,h4]
  rw [<- jB] at hcmp;refine ⟨((List.range c.toNat).map fun (k:Nat)=>(k:Int)).filter fun k=>decide (n%5=4)||decide (dr k%4 < n%5),?_,?_,?_⟩
  · unfold dO lr;rw [eX];have e:aJ 1 [2,0] [.val (.int n),.val (.int c),.val (.int (n%5))]=[.non,.val (.int (n%5)),.val (.int n)]:=rfl;simp [List.replicate,bt,hr,fI,bQ (show c.toNat<=1000 by omega),e,hcmp]
  · refine List.Pairwise.filter _ ?_;rw [List.pairwise_map];exact (List.pairwise_lt_range).imp fun h=>by omega
  · intro x hx;have:=(List.mem_filter.mp hx).1;obtain ⟨k,hk,rfl⟩:=List.mem_map.mp this;have:=List.mem_range.mp hk;omega
noncomputable def ay (ps:List P4) (i:Int):Int:=(ps[i.toNat]?.map (·.w)).getD 0
theorem fH {ps:List P4} {i:Int} (h0:0<=i) (h1:i < ps.length):ay ps i=(ps[i.toNat]'(by omega)).w:=by
  unfold ay;rw [List.getElem?_eq_getElem (by omega)];rfl
noncomputable def cb (ps:List P4) (js:List Int) (i:Int):List Int:=(aL ps i).filter (bV js)
noncomputable def og (ps:List P4) (js kn:List Int) (i:Int):List Int:=(cb ps js i).filter (bV kn)
noncomputable def kf (ps:List P4) (js:List Int) (who:Int) (kn:List Int) (i:Int):Bool :=
  !bV kn i&&(decide (0 < (og ps js kn i).length)&&(decide (ay ps i=who)||decide ((og ps js kn i).length=(cb ps js i).length)))
noncomputable def fO (ps:List P4) (js:List Int) (who:Int) (kn is:List Int):List Int:=is.filter (kf ps js who kn)
noncomputable def dQ (ps:List P4) (js:List Int) (who r:Int) (kvs:List (Int×Int)):List (Int×Int):=kvs++(fO ps js who (kvs.map (·.1)) js).map fun i=>(i,r)
noncomputable def iH (ps:List P4) (js:List Int) (who:Int):Int->Nat->List (Int×Int)->List (Int×Int)
  | _,0,kvs=>kvs
  | r,n+1,kvs=>iH ps js who (r+1) n (dQ ps js who r kvs)
theorem h8:∀ {l m:List Int},l.Nodup->(∀ x∈l,x∈m)->l.length<=m.length
  | [],m,_,_=>Nat.zero_le _
  | x::l,m,nd,h=>by
    obtain ⟨n1,n2⟩:=List.nodup_cons.mp nd;have hx:=h x List.mem_cons_self;have:=h8 (m:=m.erase x) n2 fun y hy=>(List.mem_erase_of_ne (by rintro rfl;exact n1 hy)).mpr (h y (List.mem_cons_of_mem _ hy))
    rw [List.length_erase_of_mem hx] at this;have hp:=List.length_pos_of_mem hx;rw [List.length_cons];omega
structure jT (js:List Int) (kvs:List (Int×Int)):Prop where
  nd:(kvs.map (·.1)).Nodup
  sub:∀ x∈kvs.map (·.1),x∈js
theorem jT.len {js:List Int} {kvs:List (Int×Int)} (h:jT js kvs) (nj:js.Nodup):kvs.length<=js.length:=by
  have:=h8 h.nd h.sub;simpa using this
theorem lI (ps:List P4) (js:List Int) (who r:Int) (kvs:List (Int×Int)):(dQ ps js who r kvs).map (·.1)=kvs.map (·.1)++fO ps js who (kvs.map (·.1)) js:=by
  unfold dQ;rw [List.map_append,List.map_map];congr 1;exact List.map_id _
theorem pV {ps:List P4} {js:List Int} {who:Int} {kn is:List Int} {x:Int} (h:x∈fO ps js who kn is):x∈is/\x∉kn:=by
  obtain ⟨h1,h2⟩:=List.mem_filter.mp h;refine ⟨h1,fun z=>?_⟩;unfold kf at h2;rw [bu.mpr z] at h2;simp at h2
theorem jT.round {ps:List P4} {js:List Int} {who r:Int} {kvs:List (Int×Int)} (h:jT js kvs) (nj:js.Nodup):jT js (dQ ps js who r kvs):=by
  refine ⟨?_,fun x hx=>?_⟩
  · rw [lI,List.nodup_append];refine ⟨h.nd,List.Pairwise.filter _ nj,fun a ha b hb e=>?_⟩;subst e;exact (pV hb).2 ha
  · rw [lI,List.mem_append] at hx;rcases hx with z | z
    · exact h.sub x z
    · exact (pV z).1
theorem mK (ps:List P4) (js:List Int) (who:Int):∀ (n:Nat) (r:Int) (kvs:List (Int×Int)),iH ps js who r (n+1) kvs=dQ ps js who (r+n) (iH ps js who r n kvs)
  | 0,r,kvs=>by
    show dQ ps js who r kvs=dQ ps js who (r+((0:Nat):Int)) kvs;simp
  | n+1,r,kvs=>by
    show iH ps js who (r+1) (n+1) (dQ ps js who r kvs)=_;rw [mK ps js who n (r+1)];show dQ ps js who (r+1+n) _=dQ ps js who (r+((n+1:Nat):Int)) _;rw [show r+1+(n:Int)=r+((n+1:Nat):Int) by omega];rfl
noncomputable def aK (ps:List P4) (js:List Int) (who:Int) (gs:List Int):Nat->List Int
  | 0=>gs
  | m+1=>aK ps js who gs m++fO ps js who (aK ps js who gs m) js
noncomputable def yK (ps:List P4) (js:List Int) (who:Int) (gs:List Int) (m:Nat):List (Int×Int):=iH ps js who 1 m (gs.map fun i=>(i,0))
theorem qd (ps:List P4) (js:List Int) (who:Int) (gs:List Int) (m:Nat):yK ps js who gs (m+1)=dQ ps js who (m+1) (yK ps js who gs m):=by
  unfold yK;rw [mK];congr 1;omega
theorem fW (ps:List P4) (js:List Int) (who:Int) (gs:List Int):∀ m,(yK ps js who gs m).map (·.1)=aK ps js who gs m
  | 0=>by
    show (gs.map fun i=>((i,0):Int×Int)).map (·.1)=gs;rw [List.map_map];exact List.map_id _
  | m+1=>by
    rw [qd,lI,fW ps js who gs m];rfl
noncomputable def look (kvs:List (Int×Int)) (i:Int):Option Int:=(kvs.find? fun q=>decide (q.1=i)).map (·.2)
theorem oo (a b:List (Int×Int)) (i:Int):look (a++b) i=(look a i).or (look b i):=by
  unfold look;rw [List.find?_append];cases a.find? _ <;> rfl
theorem hZ {kvs:List (Int×Int)} {i:Int}:look kvs i=none<->i∉kvs.map (·.1):=by
  unfold look;rw [Option.map_eq_none_iff,List.find?_eq_none];constructor
  · intro h z;obtain ⟨q,hq,e⟩:=List.mem_map.mp z;exact h q hq (decide_eq_true e)
  · intro h q hq e;exact h (List.mem_map.mpr ⟨q,hq,of_decide_eq_true e⟩)
theorem jx (r:Int) (i:Int):∀ l:List Int,look (l.map fun j=>(j,r)) i=if i∈l then some r else none
  | []=>rfl
  | j::l=>by
    have ih:=jx r i l;unfold look at ih ⊢;by_cases h:j=i
    · subst h;rw [List.map_cons,List.find?_cons_of_pos (by simp)];simp
    · rw [List.map_cons,List.find?_cons_of_neg (by simpa using h),ih];by_cases h2:i∈l
      · simp [h2]
      · have:¬ (i=j):=fun z=>h z.symm
        simp [h2,this]
section
variable {ps:List P4} {js:List Int} {who:Int} {gs:List Int}
theorem kH {i:Int} {k:Nat} (h:i∈aK ps js who gs k):∀ {m:Nat},k<=m->i∈aK ps js who gs m
  | 0,hm=>by
    have:k=0:=by omega
    subst this;exact h
  | m+1,hm=>by
    by_cases e:k=m+1
    · subst e;exact h
    · show i∈aK ps js who gs m++_;exact List.mem_append_left _ (kH h (by omega))
theorem gt {i:Int}:∀ {m:Nat} {q:Int},look (yK ps js who gs m) i=some q<->∃ k:Nat,q=k/\k<=m/\i∈aK ps js who gs k/\(k=0\/i∉aK ps js who gs (k-1))
  | 0,q=>by
    show look (gs.map fun j=>(j,0)) i=some q<->_;rw [jx];constructor
    · intro h;split at h
      · rename_i hi;cases h;exact ⟨0,rfl,Nat.le_refl _,hi,.inl rfl⟩
      · cases h
    · rintro ⟨k,rfl,hk,hi,_⟩;have:k=0:=by omega
      subst this;rw [if_pos (show i∈gs from hi)];rfl
  | m+1,q=>by
    have ih:=fun q=>gt (i:=i) (m:=m) (q:=q)
    have e:yK ps js who gs (m+1)=yK ps js who gs m++(fO ps js who (aK ps js who gs m) js).map fun j=>(j,((m+1:Nat):Int)):=by
      rw [qd];unfold dQ;rw [fW];rfl
    rw [e,oo,jx];by_cases hi:i∈aK ps js who gs m
    · cases h0:look (yK ps js who gs m) i with
      | none=>rw [hZ,fW] at h0;exact (h0 hi).elim
      | some q0 =>
        rw [Option.some_or,<- h0,ih q];constructor
        · rintro ⟨k,a,b,c,d⟩;exact ⟨k,a,by omega,c,d⟩
        · rintro ⟨k,a,b,c,d⟩;refine ⟨k,a,?_,c,d⟩;by_cases hk:k=m+1
          · subst hk;rcases d with d | d
            · omega
            · exact (d hi).elim
          · omega
    · have h0:look (yK ps js who gs m) i=none:=by rw [hZ,fW];exact hi
      rw [h0,Option.none_or];constructor
      · intro h;split at h
        · rename_i hn;cases h;exact ⟨m+1,rfl,Nat.le_refl _,List.mem_append_right _ hn,.inr hi⟩
        · cases h
      · rintro ⟨k,rfl,b,c,d⟩;have hk:k=m+1:=by
          by_cases hk:k=m+1
          · exact hk
          · exact (hi (kH c (by omega))).elim
        subst hk;have c':i∈aK ps js who gs m++fO ps js who (aK ps js who gs m) js:=c;rw [if_pos ((List.mem_append.mp c').elim (fun z=>(hi z).elim) id)]
theorem wx {k:Nat} (h:fO ps js who (aK ps js who gs k) js=[]):∀ d,aK ps js who gs (k+d)=aK ps js who gs k
  | 0=>rfl
  | d+1=>by
    show aK ps js who gs (k+d)++fO ps js who (aK ps js who gs (k+d)) js=_;rw [wx h d,h,List.append_nil]
theorem rW (ng:gs.Nodup) (hg:∀ x∈gs,x∈js) (nj:js.Nodup):∀ m,jT js (yK ps js who gs m)
  | 0=>⟨by rw [fW];exact ng,fun x hx=>by rw [fW] at hx;exact hg x hx⟩
  | m+1=>by rw [qd];exact (rW ng hg nj m).round nj
theorem vf (ng:gs.Nodup) (hg:∀ x∈gs,x∈js) (nj:js.Nodup) {m:Nat} {i:Int} (h:i∈aK ps js who gs m):i∈js:=by
  have:=(rW (ps:=ps) (who:=who) ng hg nj m).sub;rw [fW] at this;exact this i h
theorem DP (ng:gs.Nodup) (hg:∀ x∈gs,x∈js) (nj:js.Nodup) (m:Nat):(aK ps js who gs m).length<=js.length:=by
  have:=(rW (ps:=ps) (who:=who) ng hg nj m).len nj;rw [<- fW,List.length_map];exact this
theorem ww:∀ m,(∀ k,k < m->fO ps js who (aK ps js who gs k) js≠[])->m+gs.length<=(aK ps js who gs m).length
  | 0,_=>by show 0+gs.length<=gs.length;omega
  | m+1,h=>by
    have:=ww m fun k hk=>h k (by omega)
    have h1:=h m (by omega);have h2:=List.length_pos_iff.mpr h1;show _<=(aK ps js who gs m++fO ps js who (aK ps js who gs m) js).length;rw [List.length_append];omega
theorem DO (ng:gs.Nodup) (hg:∀ x∈gs,x∈js) (nj:js.Nodup) {n:Nat} (hn:js.length<=n):fO ps js who (aK ps js who gs n) js=[]:=by
  by_cases h:fO ps js who (aK ps js who gs n) js=[]
  · exact h
  · have:=ww (ps:=ps) (js:=js) (who:=who) (gs:=gs) (n+1) fun k hk e=>h (by
      have s:=wx e (n-k);rw [show k+(n-k)=n by omega] at s;rw [s];exact e)
    have:=DP (ps:=ps) (who:=who) ng hg nj (n+1);omega
theorem iS {α:Type} (p:α->Bool):∀ l:List α,(l.filter p).length=l.length<->∀ x∈l,p x=true
  | []=>by simp
  | x::l=>by
    have ih:=iS p l;have le:=List.length_filter_le p l;cases h:p x with
    | true=>rw [List.filter_cons_of_pos h];simp [ih,h]
    | false=>rw [List.filter_cons_of_neg (by rw [h];simp)];simp [h];omega
theorem pS {α:Type} (p:α->Bool) (l:List α):0 < (l.filter p).length<->∃ x∈l,p x=true:=by
  rw [List.length_pos_iff_exists_mem];simp [List.mem_filter]
theorem gC {kn:List Int} {i:Int}:kf ps js who kn i=true<->i∉kn/\(∃ g∈cb ps js i,g∈kn)/\(ay ps i=who\/∀ g∈cb ps js i,g∈kn):=by
  unfold kf og;rw [Bool.and_eq_true,Bool.and_eq_true,Bool.or_eq_true,decide_eq_true_iff,decide_eq_true_iff,decide_eq_true_iff,pS,iS,Bool.not_eq_true',<- Bool.not_eq_true,bu];simp only [bu]
noncomputable def rK (ps:List P4) (js:List Int) (who:Int) (gs:List Int) (i:Int):Option Int:=look (yK ps js who gs ps.length) i
structure uQ (ps:List P4) (js:List Int) (who:Int) (gs:List Int) (rk:Int->Option Int):Prop where
  nneg:∀ i q,rk i=some q->0<=q
  sub:∀ i q,rk i=some q->i∈js
  zero:∀ i,rk i=some 0<->i∈gs
  own:∀ i q,rk i=some q->0 < q->ay ps i=who->∃ g∈cb ps js i,rk g=some (q-1)
  low:∀ i q g t,rk i=some q->0 < q->ay ps i=who->g∈cb ps js i->rk g=some t->q-1<=t
  oth:∀ i q,rk i=some q->0 < q->ay ps i≠who->(∃ g,g∈cb ps js i)/\∀ g∈cb ps js i,∃ t,rk g=some t/\t < q
  outO:∀ i,i∈js->rk i=none->ay ps i=who->∀ g∈cb ps js i,rk g=none
  outX:∀ i,i∈js->rk i=none->ay ps i≠who->(∃ g,g∈cb ps js i)->∃ g∈cb ps js i,rk g=none
theorem wz (ng:gs.Nodup) (hg:∀ x∈gs,x∈js) (nj:js.Nodup) (hn:js.length<=ps.length):uQ ps js who gs (rK ps js who gs):=by
  have ex:∀ {i k},i∈aK ps js who gs k->k<=ps.length->∃ t:Nat,t<=k/\rK ps js who gs i=some (t:Int):=fun {i}=>by
    intro k;induction k with
    | zero=>exact fun h _=>⟨0,Nat.le_refl _,gt.mpr ⟨0,rfl,by omega,h,.inl rfl⟩⟩
    | succ k ih =>
      intro h hk;by_cases h1:i∈aK ps js who gs k
      · obtain ⟨t,a,b⟩:=ih h1 (by omega);exact ⟨t,by omega,b⟩
      · exact ⟨k+1,Nat.le_refl _,gt.mpr ⟨k+1,rfl,hk,h,.inr h1⟩⟩
  have nm:∀ {i},rK ps js who gs i=none<->i∉aK ps js who gs ps.length:=fun {i}=>by
    unfold rK;rw [hZ,fW]
  have fix:=DO (ps:=ps) (who:=who) ng hg nj hn;have new:∀ {i k},i∈aK ps js who gs (k+1)->i∉aK ps js who gs k->kf ps js who (aK ps js who gs k) i=true:=fun {i k} h1 h2=>by
    have h1':i∈aK ps js who gs k++fO ps js who (aK ps js who gs k) js:=h1;rcases List.mem_append.mp h1' with z | z
    · exact (h2 z).elim
    · exact (List.mem_filter.mp z).2
  have not:∀ {i k},i∈js->i∉aK ps js who gs (k+1)->¬ kf ps js who (aK ps js who gs k) i=true:=fun {i k} h1 h2 h3 =>
    h2 (show i∈aK ps js who gs k++fO ps js who (aK ps js who gs k) js from List.mem_append_right _ (List.mem_filter.mpr ⟨h1,h3⟩))
  have pos:∀ {i q},rK ps js who gs i=some q->0 < q->∃ k:Nat,q=((k+1:Nat):Int)/\k+1<=ps.length/\i∈aK ps js who gs (k+1)/\i∉aK ps js who gs k:=fun {i q} h hq=>by
    obtain ⟨k,rfl,b,c,d⟩:=gt.mp h;cases k with
    | zero=>omega
    | succ k =>
      rcases d with d | d
      · omega
      · exact ⟨k,rfl,b,c,d⟩
  refine ⟨fun i q h=>?_,fun i q h=>?_,fun i=>?_,fun i q h hq ho=>?_,fun i q g t h hq ho hg' ht=>?_,fun i q h hq ho=>?_,fun i hi h ho g hg'=>?_,fun i hi h ho hw=>?_⟩
  · obtain ⟨k,rfl,_⟩:=gt.mp h;omega
  · obtain ⟨k,rfl,_,c,_⟩:=gt.mp h;exact vf ng hg nj c
  · constructor
    · intro h;obtain ⟨k,e,_,c,_⟩:=gt.mp h;have:k=0:=by omega
      subst this;exact c
    · exact fun h=>gt.mpr ⟨0,rfl,by omega,h,.inl rfl⟩
  · obtain ⟨k,rfl,b,c,d⟩:=pos h hq;obtain ⟨_,⟨g,hg1,hg2⟩,_⟩:=gC.mp (new c d);obtain ⟨t,ht,hr⟩:=ex hg2 (by omega);refine ⟨g,hg1,?_⟩;by_cases e:t=k
    · subst e;rw [hr];congr 1;omega
    · exfalso;cases k with
      | zero=>omega
      | succ k =>
        obtain ⟨t',e',_,c',_⟩:=gt.mp hr;have e'':t=t':=by omega
        subst e'';exact not (vf ng hg nj c) d (gC.mpr ⟨fun z=>d (kH z (by omega)),⟨g,hg1,kH c' (by omega)⟩,.inl ho⟩)
  · obtain ⟨k,rfl,b,c,d⟩:=pos h hq;obtain ⟨t',rfl,_,c',_⟩:=gt.mp ht;by_cases e:k<=t'
    · omega
    · exfalso;cases k with
      | zero=>omega
      | succ k=>exact not (vf ng hg nj c) d (gC.mpr ⟨fun z=>d (kH z (by omega)),⟨g,hg',kH c' (by omega)⟩,.inl ho⟩)
  · obtain ⟨k,rfl,b,c,d⟩:=pos h hq;obtain ⟨_,⟨g,hg1,_⟩,o⟩:=gC.mp (new c d);refine ⟨⟨g,hg1⟩,fun g' hg'=>?_⟩;obtain ⟨t,ht,hr⟩:=ex ((o.resolve_left ho) g' hg') (by omega);exact ⟨t,hr,by omega⟩
  · rw [nm] at h ⊢;intro hz;have:i∈fO ps js who (aK ps js who gs ps.length) js:=List.mem_filter.mpr ⟨hi,gC.mpr ⟨h,⟨g,hg',hz⟩,.inl ho⟩⟩;rw [fix] at this;cases this
  · rw [nm] at h;by_cases hz:∃ g∈cb ps js i,rK ps js who gs g=none
    · exact hz
    · exfalso;have all:∀ g∈cb ps js i,g∈aK ps js who gs ps.length:=fun g hg'=>by
        by_cases z:g∈aK ps js who gs ps.length
        · exact z
        · exact (hz ⟨g,hg',nm.mpr z⟩).elim
      obtain ⟨g,hg'⟩:=hw;have:i∈fO ps js who (aK ps js who gs ps.length) js:=List.mem_filter.mpr ⟨hi,gC.mpr ⟨h,⟨g,hg',all g hg'⟩,.inr all⟩⟩;rw [fix] at this;cases this
end
noncomputable abbrev ids (n:Nat):List Int:=(List.range n).map fun (k:Nat)=>(k:Int)
theorem eR {n:Nat} {i:Int}:i∈ids n<->0<=i/\i < n:=by
  constructor
  · intro h;obtain ⟨k,hk,rfl⟩:=List.mem_map.mp h;have:=List.mem_range.mp hk;omega
  · rintro ⟨h0,h1⟩;exact List.mem_map.mpr ⟨i.toNat,List.mem_range.mpr (by omega),by omega⟩
theorem BV (n:Nat):(ids n).length=n:=by simp
theorem BU {n k:Nat} (h:k < n):(ids n)[k]?=some (k:Int):=by
  rw [List.getElem?_map,List.getElem?_range h];rfl
theorem D3 (n:Nat):(ids n).Pairwise (· < ·):=by
  rw [List.pairwise_map];exact (List.pairwise_lt_range).imp fun h=>by omega
theorem Ap {l:List Int} (h:l.Pairwise (· < ·)):l.Nodup:=h.imp fun h=>by omega
noncomputable def cG (f:Int->PyData) (n:Nat):List PyData:=(ids n).map f
theorem bJ (f:Int->PyData) (n:Nat):(cG f n).length=n:=by unfold cG;rw [List.length_map,BV]
theorem gZ {f:Int->PyData} {n:Nat} {i:Int} (h0:0<=i) (h1:i < n):(cG f n)[i.toNat]'(by rw [bJ];omega)=f i:=by
  have h:=BU (n:=n) (k:=i.toNat) (by omega);have:(cG f n)[i.toNat]?=some (f i):=by
    unfold cG;rw [List.getElem?_map,h,Option.map_some];congr 2;omega
  exact Option.some.inj ((List.getElem?_eq_getElem _).symm.trans this)
theorem xp {f:Int->PyData} {n:Nat} {i:Int} (h0:0<=i) (h1:i < n):bC (.tuple (cG f n)) (.int i)=.ok (f i):=by
  rw [qP h0 (by rw [bJ];exact h1),gZ h0 h1]
theorem AY {f:Int->PyData} {n:Nat} {i:Int} (h0:0<=i) (h1:i < n):bC (.list (cG f n)) (.int i)=.ok (f i):=by
  rw [tZ h0 (by rw [bJ];exact h1),gZ h0 h1]
theorem dk {f g:Int->PyData} {n:Nat} (h:∀ i:Int,0<=i->i < n->f i=g i):cG f n=cG g n :=
  List.map_congr_left fun i hi=>h i (eR.mp hi).1 (eR.mp hi).2
theorem mW {f:Int->PyData} {n:Nat} {i:Int} {v:PyData} (h0:0<=i) (h1:i < n):(cG f n).set i.toNat v=cG (fun j=>if j=i then v else f j) n:=by
  refine List.ext_getElem (by rw [List.length_set,bJ,bJ]) fun k hk1 hk2=>?_
  rw [bJ] at hk2;have e:=gZ (f:=fun j=>if j=i then v else f j) (n:=n) (i:=(k:Int)) (by omega) (by omega);have e2:=gZ (f:=f) (n:=n) (i:=(k:Int)) (by omega) (by omega);simp only [Int.toNat_natCast] at e e2;rw [e,List.getElem_set];by_cases h:i.toNat=k
  · rw [if_pos h,if_pos (by omega)]
  · rw [if_neg h,if_neg (by omega),e2]
theorem vT (f:Int->PyData) (ρ:aW) (g:Fe) (n:Nat) (h:∀ i:Int,0<=i->i < n->g (ρ.set 0 (.val (.int i)))=.ok (f i)):cg (aU 0) (fun _=>.ok true) g ρ (bU 0 n)=.ok (cG f n):=by
  have:=hJ g ρ 0 (fun d=>match d with | .int i=>f i | d=>d) (bU 0 n) fun d hd=>by
    unfold bU at hd;obtain ⟨k,hk,rfl⟩:=List.mem_map.mp hd;have:=List.mem_range.mp hk;exact h _ (by omega) (by omega)
  rw [this];unfold cG;rw [jB,List.map_map];rfl
noncomputable def oD:Option Int->PyData
  | none=>.none
  | some k=>.int k
theorem xc (o:Option Int):mr (oD o) .none=.ok (.bool o.isSome):=by cases o <;> rfl
theorem Ab (o:Option Int):mm (oD o) .none=.ok (.bool o.isNone):=by cases o <;> rfl
noncomputable def k8 (k m:Nat):List Int:=(List.range m).map fun (j:Nat)=>((k+j:Nat):Int)
theorem pK (k m:Nat):k8 k (m+1)=(k:Int)::k8 (k+1) m:=by
  unfold k8;rw [List.range_succ_eq_map,List.map_cons,List.map_map];congr 1;apply List.map_congr_left;intro j _;show ((k+(j+1):Nat):Int)=((k+1+j:Nat):Int)
  omega
theorem mC (n:Nat):k8 0 n=ids n:=by
  unfold k8;apply List.map_congr_left;intro j _;simp
theorem kh {t:aW->R Bool} {ρ:aW} {p:Int->Bool} {g:Int->PyData}:∀ (m k:Nat),(∀ j:Nat,k<=j->j < k+m->t (.val (.int j)::.val (g j)::ρ)=.ok (p j)) ->
    cg (eF 0 1) t (af 0) (.non::.non::ρ) (dS k ((k8 k m).map g))=.ok (((k8 k m).filter p).map .int)
  | 0,k,_=>by unfold k8;simp [dS,di]
  | m+1,k,h=>by
    rw [pK,List.map_cons];have e:dS k (g k::(k8 (k+1) m).map g)=.tuple [.int k,g k]::dS (k+1) ((k8 (k+1) m).map g):=rfl;rw [e,jr,kh m (k+1) fun j h1 h2=>h j (by omega) (by omega)];have hk:=h k (Nat.le_refl _) (by omega);simp only [List.set_cons_zero,List.set_cons_succ,hk,R.ok_bind,am];cases hp:p k with
    | true=>rw [List.filter_cons_of_pos hp];rfl
    | false=>rw [List.filter_cons_of_neg (by rw [hp];simp)];rfl
theorem ud {fe:Fe} {ρ:aW} {g h:Int->PyData}:∀ (m k:Nat),(∀ j:Nat,k<=j->j < k+m->fe (.val (.int j)::.val (g j)::ρ)=.ok (h j)) ->
    cg (eF 0 1) (fun _=>.ok true) fe (.non::.non::ρ) (dS k ((k8 k m).map g))=.ok ((k8 k m).map h)
  | 0,k,_=>by unfold k8;simp [dS,di]
  | m+1,k,hh=>by
    rw [pK,List.map_cons];have e:dS k (g k::(k8 (k+1) m).map g)=.tuple [.int k,g k]::dS (k+1) ((k8 (k+1) m).map g):=rfl;rw [e,jr,ud m (k+1) fun j h1 h2=>hh j (by omega) (by omega)];have hk:=hh k (Nat.le_refl _) (by omega);simp only [R.ok_bind,if_true,List.set_cons_zero,List.set_cons_succ,hk];rfl
theorem xq {f g h:Int->PyData} {n:Nat} {fe:Fe} {ρ:aW} (hh:∀ i:Int,0<=i->i < n->fe (.val (f i)::.val (g i)::ρ)=.ok (h i)):cg (eF 0 1) (fun _=>.ok true) fe (.non::.non::ρ) (jR (cG f n) (cG g n))=.ok (cG h n):=by
  have go:∀ is:List Int,(∀ i∈is,0<=i/\i < n)->cg (eF 0 1) (fun _=>.ok true) fe (.non::.non::ρ) (jR (is.map f) (is.map g))=.ok (is.map h):=by
    intro is;induction is with
    | nil=>intro _;unfold jR;simp [di]
    | cons i is ih =>
      intro hb;have e:jR ((i::is).map f) ((i::is).map g)=.tuple [f i,g i]::jR (is.map f) (is.map g):=rfl;rw [e,jr,ih fun x hx=>hb x (List.mem_cons_of_mem _ hx)];have:=hh i (hb i List.mem_cons_self).1 (hb i List.mem_cons_self).2;simp only [R.ok_bind,if_true,List.set_cons_zero,List.set_cons_succ,this];rfl
  exact go (ids n) fun i hi=>eR.mp hi
theorem mY (t:aW->R Bool) (g:Fs) (n:Nat) (ρ:aW):cW t g (n+1) ρ=(t ρ>>=fun b=>if b=true then g ρ>>=oB (cW t g n) else .ok (.nx ρ)):=by
  rw [cW];congr 1
noncomputable def qv (s:PyData) (js:List Int):Prop:=s=.tuple (js.map .int)\/s=.list (js.map .int)
theorem qv.inn {s:PyData} {js:List Int} (h:qv s js) (neg:Bool) (k:Int):je neg (.int k) s=.ok (.bool (if neg then !bV js k else bV js k)):=by
  rcases h with rfl | rfl
  · exact FV ..
  · exact BX ..
theorem qv.seq {s:PyData} {js:List Int} (h:qv s js):jL s=.ok (js.map .int):=by
  rcases h with rfl | rfl <;> rfl
theorem qv.len {s:PyData} {js:List Int} (h:qv s js):cF s=.ok (.int js.length):=by
  rcases h with rfl | rfl <;> simp
structure dU (n:Nat) (js:List Int):Prop where
  lt:js.Pairwise (· < ·)
  inn:∀ x∈js,0<=x/\x < n
theorem dU.nd {n:Nat} {js:List Int} (h:dU n js):js.Nodup:=Ap h.lt
theorem dU.len {n:Nat} {js:List Int} (h:dU n js):js.length<=n:=by
  have:=lN js 0 n h.lt h.inn;rcases this with z | z
  · rw [z];simp
  · omega
theorem dU.filter {n:Nat} {js:List Int} (h:dU n js) (p:Int->Bool):dU n (js.filter p):=⟨h.lt.filter _,fun x hx=>h.inn x (List.mem_filter.mp hx).1⟩
theorem dU.ids (n:Nat):dU n (ids n):=⟨D3 n,fun x hx=>eR.mp hx⟩
noncomputable def gP (ps:List P4) (js:List Int):Prop:=∀ i∈js,∃ g,g∈cb ps js i
noncomputable abbrev oT (f:Int->Option Int) (n:Nat):PyData:=.tuple (cG (fun i=>oD (f i)) n)
theorem wM (o:Option Int) (k:Int):fY (oD o) (.int k)=.ok (.bool (decide (o=some k))):=by
  cases o with
  | none=>rfl
  | some q =>
    show fY (.int q) (.int k)=_;rw [dR];congr 2;simp
structure Gr (ps:List P4):Prop where
  hl:∀ p∈ps,p.ns.length<=100
  hgo:∀ p∈ps,∀ x∈p.ns,0<=x/\x < ps.length
  hp:ps.length<=24
  lt:∀ p∈ps,p.ns.Pairwise (· < ·)
  ne:∀ p∈ps,p.ns≠[]
theorem Gr.goals {ps:List P4} (G:Gr ps) {i x:Int} (h:x∈aL ps i):0<=x/\x < ps.length:=by
  unfold aL at h;cases e:ps[i.toNat]? with
  | none=>rw [e] at h;cases h
  | some p=>rw [e] at h;exact G.hgo p (List.mem_of_getElem? e) x h
theorem Gr.glen {ps:List P4} (G:Gr ps) (i:Int):(aL ps i).length<=100:=by
  unfold aL;cases e:ps[i.toNat]? with
  | none=>simp
  | some p=>exact G.hl p (List.mem_of_getElem? e)
noncomputable def aF (ps:List P4) (i:Int):Int:=(ps[i.toNat]?.map (·.m)).getD 0
theorem nS (p:P4):bC p.d (.int 1)=.ok (.int p.m):=rfl
theorem fM {ps:List P4} {i:Int} (h0:0<=i) (h1:i < ps.length):aF ps i=(ps[i.toNat]'(by omega)).m:=by
  unfold aF;rw [List.getElem?_eq_getElem (by omega)];rfl
theorem yt {ps:List P4} {js:List Int} (hne:js≠[]):∃ h,wG (.list ((js.map (aF ps)).map .int))=.ok (.int h)/\(∃ i∈js,aF ps i=h)/\∀ i∈js,aF ps i<=h:=by
  cases js with
  | nil=>exact (hne rfl).elim
  | cons j js =>
    obtain ⟨s1,s2⟩:=qZ (aF ps j) (js.map (aF ps));refine ⟨vJ (aF ps j) (js.map (aF ps)),?_,?_,fun i hi=>?_⟩
    · show (match dF (((j::js).map (aF ps)).map .int) with | some (n::ns)=>R.ok (PyData.int (vJ n ns)) | _=>.no)=_;rw [kj];rfl
    · rw [<- List.map_cons (f:=aF ps)] at s1;obtain ⟨i,hi,e⟩:=List.mem_map.mp s1;exact ⟨i,hi,e⟩
    · exact s2 _ (by rw [<- List.map_cons (f:=aF ps)];exact List.mem_map.mpr ⟨i,hi,rfl⟩)
noncomputable def kB (f:Int->Option Int) (n:Nat):List Int:=(ids n).filter fun i=>(f i).isSome
theorem qc (f:Int->Option Int) (n:Nat):dU n (kB f n):=(dU.ids n).filter _
theorem i9 {f:Int->Option Int} {n:Nat} {i:Int}:i∈kB f n<->(0<=i/\i < n)/\∃ q,f i=some q:=by
  unfold kB;rw [List.mem_filter,eR,Option.isSome_iff_exists]
noncomputable def nP (ps:List P4) (who:Int) (f:Int->Option Int) (i:Int):Option Int:=match f i with
  | some q=>if ay ps i=who/\0 < q then ((aL ps i).filter fun g=>decide (f g=some (q-1))).head? else none
  | none=>none
theorem lA {ps:List P4} {js:List Int} {who:Int} {gs:List Int} {rk:Int->Option Int} (A:uQ ps js who gs rk):∀ i q,rk i=some q->0 < q->ay ps i=who->∃ g∈aL ps i,rk g=some (q-1):=fun i q h1 h2 h3=>by
  obtain ⟨g,hg,e⟩:=A.own i q h1 h2 h3;exact ⟨g,(List.mem_filter.mp hg).1,e⟩
noncomputable def jc (js:List Int) (some:List Int):List Int:=js.filter fun i=>!bV some i
theorem bS {js some:List Int} {i:Int}:i∈jc js some<->i∈js/\i∉some:=by
  unfold jc;rw [List.mem_filter,Bool.not_eq_true',<- Bool.not_eq_true,bu]
noncomputable def fX (ps:List P4) (who:Int) (part:List Int) (i:Int):Option Int:=if i∈part/\ay ps i=who then (cb ps part i).head? else none
structure Sh where
  w:Int
  pl:List Int
  mv:Int->Option Int
noncomputable def fu (f g:Int->Option Int) (i:Int):Option Int:=(f i).or (g i)
theorem qO {s t:PyData} {ns js:List Int} (hs:qv s ns) (ht:qv t js) (hl:ns.length<=1000):cI [s,t]=.ok (.tuple ((ns.filter (bV js)).map .int)):=by
  have hcmp:=cu (t:=tE (e2 (je false) (af 0) (af 1))) (ρ:=[.val t]) (p:=bV js) ns fun k hk=>by simp [ht.inn]
  unfold cI o4;refine dE ?_;rw [show ([s,t].map aT.val++List.replicate (2 - [s,t].length) aT.non)=[.val s,.val t] from rfl];rw [cH,bT,bt,show aJ 1 [1] [.val s,.val t]=[.non,.val t] from rfl];simp -implicitDefEqProofs only [ci,am,R.ok_bind,hs.seq,ce];rw [if_pos (by rw [List.length_map];exact bQ hl),hcmp];rfl
theorem lQ {s t:PyData} {ns js:List Int} (hs:qv s ns) (ht:qv t js) (hl:ns.length<=1000):aV [s,t]=.ok (.tuple ((ns.filter fun i=>!bV js i).map .int)):=by
  have hcmp:=cu (t:=tE (e2 (je true) (af 0) (af 1))) (ρ:=[.val t]) (p:=fun i=>!bV js i) ns fun k hk=>by simp [ht.inn]
  unfold aV kF;refine dE ?_;rw [show ([s,t].map aT.val++List.replicate (2 - [s,t].length) aT.non)=[.val s,.val t] from rfl];rw [cH,bT,bt,show aJ 1 [1] [.val s,.val t]=[.non,.val t] from rfl];simp -implicitDefEqProofs only [ci,am,R.ok_bind,hs.seq,ce];rw [if_pos (by rw [List.length_map];exact bQ hl),hcmp];rfl
theorem sC {p:P4} {ws:List Int} {who:Int} {f:Int->Option Int} {n:Nat} (hw:∀ g∈ws,0<=g/\g < n) (hl:ws.length<=1000) :
    cr [p.d,.tuple (ws.map .int),.int who,.list (cG (fun i=>oD (f i)) n)]=.ok (.bool (if p.w=who then decide (0 < (ws.filter fun g=>(f g).isSome).length) else decide ((ws.filter fun g=>(f g).isSome).length=ws.length))):=by
  have hcmp:=cu (t:=tE (e2 (mr) (e2 bC (af 1) (af 0)) (eC .none))) (ρ:=[.val (.list (cG (fun i=>oD (f i)) n))]) (p:=fun g=>(f g).isSome) ws fun k hk=>by
    simp only [List.set_cons_zero,bO,ba,am,ak,bf,R.ok_bind,AY (hw k hk).1 (hw k hk).2,xc,bM]
  unfold cr jV;refine dE ?_;rw [show ([p.d,.tuple (ws.map .int),.int who,.list (cG (fun i=>oD (f i)) n)].map aT.val++List.replicate (5 - [p.d,.tuple (ws.map .int),.int who,.list (cG (fun i=>oD (f i)) n)].length) aT.non)=[.val p.d,.val (.tuple (ws.map .int)),.val (.int who),.val (.list (cG (fun i=>oD (f i)) n)),.non] from rfl];rw [aD (ρ':=[.val p.d,.val (.tuple (ws.map .int)),.val (.int who),.val (.list (cG (fun i=>oD (f i)) n)),.val (.list ((ws.filter fun g=>(f g).isSome).map .int))]) (by
    rw [bi,bt,show aJ 1 [3] [.val p.d,.val (.tuple (ws.map .int)),.val (.int who),.val (.list (cG (fun i=>oD (f i)) n)),.non]=[.non,.val (.list (cG (fun i=>oD (f i)) n))] from rfl];simp only [ci,am,ak,R.ok_bind,eh,ce];rw [if_pos (by rw [List.length_map];exact bQ hl),hcmp];rfl)]
  by_cases h:p.w=who
  · rw [if_pos h];refine io ?_;simp only [bZ,bO,ba,bT,am,ak,bf,R.ok_bind,lK,dR,bM,h,decide_true,if_true,cH,nG,jt,List.length_map];congr 3;simp
  · rw [if_neg h,aD (ρ':=[.val p.d,.val (.tuple (ws.map .int)),.val (.int who),.val (.list (cG (fun i=>oD (f i)) n)),.val (.list ((ws.filter fun g=>(f g).isSome).map .int))]) (by
      simp only [bZ,bO,ba,bT,am,ak,bf,R.ok_bind,lK,dR,bM,h,decide_false];rfl)]
    simp only [cH,ba,bT,am,ak,R.ok_bind,nG,nH,dR,List.length_map];congr 3;exact decide_eq_decide.mpr (by omega)
theorem qg {d:PyData} (h:noD d):cz [d]=.ok (.bool (FX d)):=by
  cases d <;> first | rfl | cases h
theorem pr {d:PyData} (h:noD d) (lo hi:Int):cM [d,.int lo,.int hi]=.ok (.bool (Df d lo hi)):=by
  unfold cM jg;rw [eX];cases d with
  | int i =>
    by_cases h1:lo<=i <;> by_cases h2:i<=hi <;> simp [qg h,FX,h1,h2,Df]
  | dict k=>cases h
  | _=>simp [qg h,FX,Df]
theorem rh (t:PyData) (c:Int):∀ (ds:List PyData) (l:Int) (x:aT),(∀ d∈ds,noD d) ->
    ∃ ρ,fT (aU 3) (aR (iI (mV (tE (aC cM (ah (af 3) (ah (af 2) (ah (e2 oQ (af 1) (eC (.int 1))) az)))))) (cj (eC (.bool false))) cn) (bN 2 (e2 eW (af 3) (eC (.int 1))))) ds
      [.val t,.val (.int c),.val (.int l),x]=if jC c l ds=true then .ok (.nx ρ) else .ok (.rt (.bool false))
  | [],l,x,_=>⟨_,by rw [eY];rfl⟩
  | d::ds,l,x,h=>by
    have hd:=h d List.mem_cons_self;cases hb:Df d l (c-1) with
    | false =>
      refine ⟨[],?_⟩;have hr:jC c l (d::ds)=false:=by
        cases d with
        | int i =>
          simp only [Df] at hb;simp only [jC];rcases (Bool.and_eq_false_iff.mp hb) with z | z
          · rw [z];rfl
          · have:decide (i < c)=false:=by simp at z ⊢;omega
            rw [this];simp
        | _=>rfl
      rw [dH,hr];simp [pr hd,hb]
    | true =>
      cases d with
      | int i =>
        simp only [Df,Bool.and_eq_true,decide_eq_true_eq] at hb;obtain ⟨ρ,e⟩:=rh t c ds (i+1) (.val (.int i)) fun d hd=>h d (List.mem_cons_of_mem _ hd)
        refine ⟨ρ,?_⟩;have hr:jC c l (.int i::ds)=jC c (i+1) ds:=by
          simp only [jC];rw [decide_eq_true hb.1,decide_eq_true (show i < c by omega)];simp
        have hb':Df (.int i) l (c-1)=true:=by simp [Df];omega
        rw [dH,hr,<- e];simp [pr hd,hb']
      | _=>cases hb
theorem n8 {d:PyData} (c:Int) (h:∀ ds,d=.tuple ds->∀ x∈ds,noD x) (hd:noD d):dN [d,.int c]=.ok (.bool (AS c d)):=by
  unfold dN ln;rw [eX];cases d with
  | tuple ds =>
    obtain ⟨ρ,e⟩:=rh (.tuple ds) c ds 0 .non (h ds rfl);simp [k6,Dj,fE,List.replicate];rw [e];cases jC c 0 ds <;> simp
  | dict k=>cases hd
  | _=>simp [k6,Dj,List.replicate]
theorem dU.some {n:Nat} {js:List Int} (h:dU n js):dN [.tuple (js.map .int),.int n]=.ok (.bool true):=by
  rw [n8 (d:=.tuple (js.map .int)) n (fun ds e x hx=>by
    cases e;obtain ⟨i,_,rfl⟩:=List.mem_map.mp hx;exact True.intro) True.intro]
  show R.ok (PyData.bool (jC n 0 (js.map .int)))=_;rw [xk n js 0 h.lt fun x hx=>h.inn x hx]
theorem Dz {c:Int} (h0:0<=c) (h1:c<=1000):qC [.int c]=.ok (bU 0 c.toNat):=by
  show (if -(2 ^ 62)<=c/\c < 2 ^ 62 then R.ok (bU 0 c.toNat) else .no)=_;rw [if_pos (by omega)]
noncomputable def xo:Fs:=(aR (yG 6 (fun a b=>a+b) (eC (.int 1))) (aR (bN 8 (bR (ej (af 1)) 1 [5] (aU 0) (tE (e2 (mm) (e2 bC (eG 1) (af 0)) (eC .none))) (af 0))) (aR (bN 7 (bR (ej (af 8)) 1 [0,4,2,5] (aU 0) (tE (lb 4 (aC cr (ah (e2 bC (af 1) (af 0)) (ah (e2 bC (af 2) (af 0)) (ah (af 3) (ah (af 4) az))))))) (af 0))) (gW (jd (ej (af 7)) (aU 9) (iJ 5 (af 9) (af 6)))))))
noncomputable abbrev mX (ps:List P4) (js:List Int):PyData:=.list (cG (fun i=>.tuple ((cb ps js i).map .int)) ps.length)
noncomputable abbrev AL (kvs:List (Int×Int)) (n:Nat):List PyData:=cG (fun i=>oD (look kvs i)) n
noncomputable abbrev tR (ps:List P4) (s:PyData) (js:List Int) (who:Int) (g:PyData) (kvs:List (Int×Int)) (r:Int) (fs:List Int) (c8 c9:aT):aW :=
  [.val (gD ps),.val s,.val (.int who),.val g,.val (mX ps js),.own (.list (AL kvs ps.length)),.val (.int r),.val (.list (fs.map .int)),c8,c9]
theorem Ah {kvs:List (Int×Int)} {i r:Int} (h:i∉kvs.map (·.1)) (j:Int):look (kvs++[(i,r)]) j=if j=i then some r else look kvs j:=by
  rw [oo];by_cases e:j=i
  · subst e;rw [if_pos rfl,hZ.mpr h,Option.none_or];unfold look;simp
  · rw [if_neg e];have:look [(i,r)] j=none:=by
      unfold look;have:¬ i=j:=fun z=>e z.symm
      simp [this]
    rw [this,Option.or_none]
theorem DD {ps:List P4} {s:PyData} {js:List Int} {who:Int} {g:PyData} {r:Int} {fs0:List Int} {c8:aT}:∀ (fs:List Int) (kvs:List (Int×Int)) (c9:aT),fs.Nodup->(∀ x∈fs,x∉kvs.map (·.1))->(∀ x∈fs,0<=x/\x < ps.length) ->
    ∃ c9',fT (aU 9) (iJ 5 (af 9) (af 6)) (fs.map .int) (tR ps s js who g kvs r fs0 c8 c9)=.ok (.nx (tR ps s js who g (kvs++fs.map fun i=>(i,r)) r fs0 c8 c9'))
  | [],kvs,c9,_,_,_=>⟨c9,by rw [List.map_nil,eY];simp⟩
  | i::fs,kvs,c9,nd,hn,hb=>by
    obtain ⟨n1,n2⟩:=List.nodup_cons.mp nd;have hi:=hb i List.mem_cons_self;obtain ⟨c9',e⟩:=DD (ps:=ps) (s:=s) (js:=js) (who:=who) (g:=g) (r:=r) (fs0:=fs0) (c8:=c8) fs (kvs++[(i,r)]) (.val (.int i)) n2 (fun x hx=>by
      rw [List.map_append,List.mem_append];rintro (z | z)
      · exact hn x (List.mem_cons_of_mem _ hx) z
      · simp at z;subst z;exact n1 hx) fun x hx=>hb x (List.mem_cons_of_mem _ hx)
    refine ⟨c9',?_⟩;rw [List.map_cons,dH];rw [show ((tR ps s js who g kvs r fs0 c8 c9).set 9 (.val (.int i)))=tR ps s js who g kvs r fs0 c8 (.val (.int i)) from rfl];rw [mO (ds:=AL kvs ps.length) (n:=i) (v:=.int r) rfl rfl rfl hi.1 (by rw [bJ];exact hi.2),R.ok_bind,dz,mW hi.1 hi.2];rw [dk (g:=fun j=>oD (look (kvs++[(i,r)]) j)) fun j _ _=>by
      rw [Ah (hn i List.mem_cons_self)];split <;> rfl]
    refine Eq.trans ?_ (e.trans (by simp));rfl
theorem pP {kvs:List (Int×Int)} {i:Int}:(look kvs i).isNone=!bV (kvs.map (·.1)) i:=by
  cases h:bV (kvs.map (·.1)) i with
  | true =>
    cases h2:look kvs i with
    | none=>exact (hZ.mp h2 (bu.mp h)).elim
    | some q=>rfl
  | false =>
    rw [hZ.mpr fun z=>by rw [bu.mpr z] at h;cases h];rfl
theorem vC {kvs:List (Int×Int)} {i:Int}:(look kvs i).isSome=bV (kvs.map (·.1)) i:=by
  have:=pP (kvs:=kvs) (i:=i);cases h:look kvs i <;> rw [h] at this <;> cases h2:bV (kvs.map (·.1)) i <;> rw [h2] at this <;> simp_all
theorem ug {ps:List P4} {js:List Int} {who:Int} {kn:List Int} {i:Int} (hw:∃ g,g∈cb ps js i) :
    (!bV kn i&&(if ay ps i=who then decide (0 < (og ps js kn i).length) else decide ((og ps js kn i).length=(cb ps js i).length)))=kf ps js who kn i:=by
  obtain ⟨g,hg⟩:=hw;have hp:=List.length_pos_of_mem hg;unfold kf;by_cases ho:ay ps i=who
  · simp [ho]
  · by_cases he:(og ps js kn i).length=(cb ps js i).length
    · simp [ho,he,hp]
    · simp [ho,he]
theorem AW {ps:List P4} (hl:∀ p∈ps,p.ns.length<=100) (hgo:∀ p∈ps,∀ x∈p.ns,0<=x/\x < ps.length) (hp:ps.length<=24) {s:PyData} {js:List Int} (hs:qv s js) (hj:dU ps.length js) (hw:gP ps js) {who:Int} {g:PyData} {kvs:List (Int×Int)} {r:Int} {fs:List Int} (c8 c9:aT) :
    ∃ c8' c9',xo (tR ps s js who g kvs r fs c8 c9)=.ok (.nx (tR ps s js who g (dQ ps js who (r+1) kvs) (r+1) (fO ps js who (kvs.map (·.1)) js) c8' c9')):=by
  have hlen:=hj.len;have h1:=cu (t:=tE (e2 (mm) (e2 bC (eG 1) (af 0)) (eC .none))) (ρ:=[.own (.list (AL kvs ps.length))]) (p:=fun i=>!bV (kvs.map (·.1)) i) js fun k hk=>by
    simp only [List.set_cons_zero,bO,ba,am,kJ,kI,bf,R.ok_bind,AY (hj.inn k hk).1 (hj.inn k hk).2,Ab,bM,pP]
  have h2:=cu (t:=tE (lb 4 (aC cr (ah (e2 bC (af 1) (af 0)) (ah (e2 bC (af 2) (af 0)) (ah (af 3) (ah (af 4) az))))))) (ρ:=[.val (gD ps),.val (mX ps js),.val (.int who),.own (.list (AL kvs ps.length))])
    (p:=kf ps js who (kvs.map (·.1))) (js.filter fun i=>!bV (kvs.map (·.1)) i) fun k hk=>by
    obtain ⟨hkj,hkn⟩:=List.mem_filter.mp hk;have hb:=hj.inn k hkj;have hg:=du hb.1 hb.2;have hwl:(cb ps js k).length<=1000:=by
      refine Nat.le_trans (List.length_filter_le ..) ?_;rw [hg];have:=hl _ (List.getElem_mem (show k.toNat < ps.length by omega));omega
    have hwb:∀ x∈cb ps js k,0<=x/\x < ps.length:=fun x hx=>by
      have:=(List.mem_filter.mp hx).1;rw [hg] at this;exact hgo _ (List.getElem_mem _) x this
    have hf:=sC (p:=ps[k.toNat]'(by omega)) (who:=who) (f:=look kvs) hwb hwl;have ho:=fH hb.1 hb.2;have hgk:((cb ps js k).filter fun g=>(look kvs g).isSome)=og ps js (kvs.map (·.1)) k:=by
      unfold og;congr 1;funext g;exact vC
    rw [hgk,<- ho] at hf;have e4:lb 4 (aC cr (ah (e2 bC (af 1) (af 0)) (ah (e2 bC (af 2) (af 0)) (ah (af 3) (ah (af 4) az))))) [.val (.int k),.val (gD ps),.val (mX ps js),.val (.int who),.own (.list (AL kvs ps.length))]
      = (lf (aC cr (ah (e2 bC (af 1) (af 0)) (ah (e2 bC (af 2) (af 0)) (ah (af 3) (ah (af 4) az)))) [.val (.int k),.val (gD ps),.val (mX ps js),.val (.int who),.val (.list (AL kvs ps.length))])>>=ma):=rfl
    have hc:=ug (who:=who) (kn:=kvs.map (·.1)) (hw k hkj);rw [hkn,Bool.true_and] at hc;rw [List.set_cons_zero,bO,e4,aO];simp only [av,aA,ba,am,ak,R.ok_bind,il hb.1 hb.2,AY hb.1 hb.2];rw [hf,hc];rfl
  have hfil:(js.filter fun i=>!bV (kvs.map (·.1)) i).filter (kf ps js who (kvs.map (·.1)))=fO ps js who (kvs.map (·.1)) js:=by
    unfold fO;rw [List.filter_filter];apply List.filter_congr;intro x _;unfold kf;cases bV (kvs.map (·.1)) x <;> simp
  rw [hfil] at h2;have hnew:dU ps.length (fO ps js who (kvs.map (·.1)) js):=hj.filter _;obtain ⟨c9',e⟩:=DD (ps:=ps) (s:=s) (js:=js) (who:=who) (g:=g) (r:=r+1) (fs0:=fO ps js who (kvs.map (·.1)) js) (c8:=.val (.list ((js.filter fun i=>!bV (kvs.map (·.1)) i).map .int))) (fO ps js who (kvs.map (·.1)) js) kvs c9 hnew.nd (fun x hx=>(pV hx).2) hnew.inn;refine ⟨.val (.list ((js.filter fun i=>!bV (kvs.map (·.1)) i).map .int)),c9',?_⟩;unfold xo;rw [aD (ρ':=tR ps s js who g kvs (r+1) fs c8 c9) (by simp only [CH,ak,am,bf,R.ok_bind,FA];rfl)];rw [aD (ρ':=tR ps s js who g kvs (r+1) fs (.val (.list ((js.filter fun i=>!bV (kvs.map (·.1)) i).map .int))) c9) (by
    rw [bi,bt,show aJ 1 [5] (tR ps s js who g kvs (r+1) fs c8 c9)=[.non,.own (.list (AL kvs ps.length))] from rfl];simp -implicitDefEqProofs only [ci,ak,am,R.ok_bind,hs.seq,ce];rw [if_pos (by rw [List.length_map];exact bQ (by omega)),h1];rfl)]
  rw [aD (ρ':=tR ps s js who g kvs (r+1) (fO ps js who (kvs.map (·.1)) js) (.val (.list ((js.filter fun i=>!bV (kvs.map (·.1)) i).map .int))) c9) (by
    rw [bi,bt,show aJ 1 [0,4,2,5] (tR ps s js who g kvs (r+1) fs (.val (.list ((js.filter fun i=>!bV (kvs.map (·.1)) i).map .int))) c9)=[.non,.val (gD ps),.val (mX ps js),.val (.int who),.own (.list (AL kvs ps.length))] from rfl];simp only [ci,ak,am,R.ok_bind,qa,ce];rw [if_pos (by rw [List.length_map];exact bQ (Nat.le_trans (List.length_filter_le ..) (by omega))),h2];rfl)]
  rw [eS,fE,ci,ak,ak,ak,ak,ak,ak,ak,am,R.ok_bind,qa,R.ok_bind,e];rfl
theorem fV {ps:List P4} {js:List Int} {who:Int} {kvs:List (Int×Int)} (h:fO ps js who (kvs.map (·.1)) js=[]):∀ (n:Nat) (r:Int),iH ps js who r n kvs=kvs
  | 0,r=>rfl
  | n+1,r=>by
    show iH ps js who (r+1) n (dQ ps js who r kvs)=kvs;have:dQ ps js who r kvs=kvs:=by unfold dQ;rw [h];simp
    rw [this,fV h n]
theorem DC {ps:List P4} (hl:∀ p∈ps,p.ns.length<=100) (hgo:∀ p∈ps,∀ x∈p.ns,0<=x/\x < ps.length) (hp:ps.length<=24) {s:PyData} {js:List Int} (hs:qv s js) (hj:dU ps.length js) (hw:gP ps js) {who:Int} {g:PyData} :
    ∀ (k n:Nat) (kvs:List (Int×Int)) (r:Int) (fs:List Int) (c8 c9:aT),jT js kvs->js.length-kvs.length<=k->(fs=[]->fO ps js who (kvs.map (·.1)) js=[])->k+3<=n ->
    ∃ K r' fs' c8' c9',cW (tE (e2 (dW lT) (e1 cF (af 7)) (eC (.int 0)))) xo n (tR ps s js who g kvs r fs c8 c9)=.ok (.nx (tR ps s js who g K r' fs' c8' c9'))/\∀ N,k+1<=N->iH ps js who (r+1) N kvs=K
  | k,0,kvs,r,fs,c8,c9,_,_,_,h=>by omega
  | k,n+1,kvs,r,fs,c8,c9,hk,hm,hf,hn=>by
    rw [mY];have ht:tE (e2 (dW lT) (e1 cF (af 7)) (eC (.int 0))) (tR ps s js who g kvs r fs c8 c9)=.ok (decide (0 < fs.length)):=by
      simp only [bO,ba,bT,ak,am,bf,R.ok_bind,nG,jt,bM,List.length_map];congr 1;simp
    rw [ht,R.ok_bind];by_cases h0:fs=[]
    · have hs0:=hf h0;subst h0;exact ⟨kvs,r,[],c8,c9,rfl,fun N _=>fV hs0 N _⟩
    · rw [if_pos (decide_eq_true (List.length_pos_iff.mpr h0))];obtain ⟨c8',c9',e⟩:=AW hl hgo hp hs hj hw (who:=who) (g:=g) (kvs:=kvs) (r:=r) (fs:=fs) c8 c9;rw [e,R.ok_bind,dz];by_cases h1:fO ps js who (kvs.map (·.1)) js=[]
      · have w1:dQ ps js who (r+1) kvs=kvs:=by unfold dQ;rw [h1];simp
        rw [h1,w1];refine ⟨kvs,r+1,[],c8',c9',?_,fun N _=>fV h1 N _⟩;cases n with
        | zero=>omega
        | succ n =>
          rw [mY];have ht2:tE (e2 (dW lT) (e1 cF (af 7)) (eC (.int 0))) (tR ps s js who g kvs (r+1) [] c8' c9')=.ok false:=rfl;rw [ht2,R.ok_bind];rfl
      · have hk':=hk.round (ps:=ps) (who:=who) (r:=r+1) hj.nd;have hkl:=hk'.len hj.nd;have hgrow:kvs.length+1<=(dQ ps js who (r+1) kvs).length:=by
          unfold dQ;rw [List.length_append,List.length_map];have:=List.length_pos_iff.mpr h1;omega
        obtain ⟨K,r',fs',d8,d9,w2,w3⟩:=DC hl hgo hp hs hj hw (who:=who) (g:=g) (k-1) n (dQ ps js who (r+1) kvs) (r+1) (fO ps js who (kvs.map (·.1)) js) c8' c9' hk' (by omega) (fun z=>(h1 z).elim) (by omega);refine ⟨K,r',fs',d8,d9,w2,fun N hN=>?_⟩;cases N with
        | zero=>omega
        | succ N=>exact w3 N (by omega)
theorem oA {ps:List P4} (hl:∀ p∈ps,p.ns.length<=100) (hgo:∀ p∈ps,∀ x∈p.ns,0<=x/\x < ps.length) (hp:ps.length<=24) {s g:PyData} {js gs:List Int} (hs:qv s js) (hsg:qv g gs) (hj:dU ps.length js) (hg:dU ps.length gs) (hsub:∀ x∈gs,x∈js) (hw:gP ps js) {who:Int} :
    cV [gD ps,s,.int who,g]=.ok (.tuple (cG (fun i=>oD (rK ps js who gs i)) ps.length)):=by
  have hlen:=hj.len;have hglen:=hg.len;have hgj:gs.length<=js.length:=h8 hg.nd hsub;have hk0:jT js (gs.map fun i=>((i,0):Int×Int)):=by
    have e:(gs.map fun i=>((i,0):Int×Int)).map (·.1)=gs:=by rw [List.map_map];exact List.map_id _
    exact ⟨by rw [e];exact hg.nd,by rw [e];exact hsub⟩
  have hk0e:(gs.map fun i=>((i,0):Int×Int)).map (·.1)=gs:=by rw [List.map_map];exact List.map_id _
  obtain ⟨K,r',fs',d8,d9,w2,w3⟩:=DC hl hgo hp hs hj hw (who:=who) (g:=g) (js.length-gs.length) 1000000 (gs.map fun i=>(i,0)) 0 gs .non .non hk0 (by rw [List.length_map];exact Nat.le_refl _) (fun z=>by
    rw [hk0e,z];unfold fO;rw [List.filter_eq_nil_iff];intro i _;rw [gC];rintro ⟨_,⟨g,_,hz⟩,_⟩;cases hz) (by omega)
  have hK:K=yK ps js who gs ps.length:=by
    by_cases h0:gs=[]
    · subst h0;have hz:fO ps js who (([]:List (Int×Int)).map (·.1)) js=[]:=by
        unfold fO;rw [List.filter_eq_nil_iff];intro i _;rw [gC];rintro ⟨_,⟨g,_,hz⟩,_⟩;cases hz
      have e4:=w3 (js.length-0+1) (Nat.le_refl _);rw [List.map_nil,fV hz] at e4;rw [<- e4];unfold yK;rw [List.map_nil,fV hz]
    · have:=List.length_pos_iff.mpr h0;have e4:=w3 ps.length (by omega);rw [<- e4];rfl
  have hways:cg (aU 0) (fun _=>.ok true) (aC cI (ah (e2 bC (af 0) (eC (.int 3))) (ah (af 1) az))) [.non,.val s] (ps.map P4.d)=.ok (cG (fun i=>.tuple ((cb ps js i).map .int)) ps.length):=by
    have go:∀ qs:List P4,(∀ p∈qs,p.ns.length<=100)->cg (aU 0) (fun _=>.ok true) (aC cI (ah (e2 bC (af 0) (eC (.int 3))) (ah (af 1) az))) [.non,.val s] (qs.map P4.d)=.ok (qs.map fun p=>.tuple ((p.ns.filter (bV js)).map .int)):=by
      intro qs;induction qs with
      | nil=>exact fun _=>di ..
      | cons p qs ih =>
        intro h;have hc:=qO (s:=.tuple (p.ns.map .int)) (ns:=p.ns) (.inl rfl) hs (by have:=h p List.mem_cons_self;omega);rw [List.map_cons,eV,ih fun q hq=>h q (List.mem_cons_of_mem _ hq)];simp only [R.ok_bind,if_true,List.set_cons_zero,aO,av,aA,ba,am,ak,bf,lL,hc];rfl
    rw [go ps hl];congr 1;refine List.ext_getElem (by rw [List.length_map,bJ]) fun k h1 h2=>?_
    rw [bJ] at h2;have e:=gZ (f:=fun i=>.tuple ((cb ps js i).map .int)) (n:=ps.length) (i:=(k:Int)) (by omega) (by omega);simp only [Int.toNat_natCast] at e;rw [e,List.getElem_map];unfold cb;rw [du (by omega) (by omega)];simp
  have hinit:cg (aU 0) (fun _=>.ok true) (zF (tE (e2 (je false) (af 0) (af 1))) (eC (.int 0)) (eC .none)) [.non,.val g] (bU 0 ps.length)=.ok (AL (gs.map fun i=>(i,0)) ps.length) :=
    vT _ _ _ _ fun i h0 h1=>by
      simp only [List.set_cons_zero,ss,bO,ba,am,ak,bf,R.ok_bind,hsg.inn,bM,jx];cases hm:bV gs i with
      | true=>rw [if_pos (bu.mp hm)];rfl
      | false=>rw [if_neg (show ¬ i∈gs from fun z=>by rw [bu.mpr z] at hm;cases hm)];rfl
  have hr:qC [.int (ps.length:Int)]=.ok (bU 0 ps.length):=by
    rw [Dz (by omega) (by omega),Int.toNat_natCast]
  have hlst:mn g=.ok (.list (gs.map .int)):=by rcases hsg with rfl | rfl <;> rfl
  unfold cV lw;refine dE ?_;rw [show ([gD ps,s,.int who,g].map aT.val++List.replicate (10 - [gD ps,s,.int who,g].length) aT.non)=[.val (gD ps),.val s,.val (.int who),.val g,.non,.non,.non,.non,.non,.non] from rfl];rw [aD (ρ':=[.val (gD ps),.val s,.val (.int who),.val g,.val (mX ps js),.non,.non,.non,.non,.non]) (by
    rw [bi,bt,show aJ 1 [1] [.val (gD ps),.val s,.val (.int who),.val g,.non,.non,.non,.non,.non,.non]=[.non,.val s] from rfl];simp only [ci,am,R.ok_bind,eh,ce];rw [if_pos (by rw [List.length_map];exact bQ (by omega)),hways];rfl)]
  rw [aD (ρ':=[.val (gD ps),.val s,.val (.int who),.val g,.val (mX ps js),.own (.list (AL (gs.map fun i=>(i,0)) ps.length)),.non,.non,.non,.non]) (by
    rw [jD,bt,show aJ 1 [3] [.val (gD ps),.val s,.val (.int who),.val g,.val (mX ps js),.non,.non,.non,.non,.non]=[.non,.val g] from rfl];simp -implicitDefEqProofs only [qU,av,aA,bT,am,R.ok_bind,nH,List.length_map,hr,ce];rw [if_pos (by rw [fI];exact bQ (by omega)),hinit];rfl)]
  rw [aD (ρ':=[.val (gD ps),.val s,.val (.int who),.val g,.val (mX ps js),.own (.list (AL (gs.map fun i=>(i,0)) ps.length)),.val (.int 0),.non,.non,.non]) (by rfl)];rw [aD (ρ':=tR ps s js who g (gs.map fun i=>(i,0)) 0 gs .non .non) (by
    simp only [bi,bT,ak,am,R.ok_bind,hlst];rfl)]
  rw [aD (ρ':=tR ps s js who g K r' fs' d8 d9) (by
    rw [eS];show lf (cW (tE (e2 (dW lT) (e1 cF (af 7)) (eC (.int 0)))) xo 1000000 _)=_;rw [w2];rfl)]
  rw [hK];rfl
theorem nU {f:Int->Option Int} {n:Nat} (hn:n<=1000):cJ [oT f n]=.ok (.tuple ((kB f n).map .int)):=by
  have hc:=kh (t:=tE (e2 (mr) (af 1) (eC .none))) (ρ:=[]) (p:=fun i=>(f i).isSome) (g:=fun i=>oD (f i)) n 0 fun j _ _=>by
    simp only [bO,ba,ak,am,bf,R.ok_bind,xc,bM]
  rw [mC] at hc;unfold cJ o6;refine dE ?_;rw [show ([oT f n].map aT.val++List.replicate (1 - [oT f n].length) aT.non)=[.val (oT f n)] from rfl];rw [cH,bT,bt,show aJ 2 [] [.val (oT f n)]=[.non,.non] from rfl];simp only [mB,am,R.ok_bind,eh,ce];rw [if_pos (by rw [hR,bJ];exact bQ hn)];rw [show dS 0 (cG (fun i=>oD (f i)) n)=dS 0 ((ids n).map fun i=>oD (f i)) from rfl,hc];rfl
noncomputable def xf:Fs:=(iI (ip (tE (e2 (fY) (e2 bC (e2 bC (af 0) (af 4)) (eC (.int 0))) (af 1))) (tE (e2 (dW lT) (e2 bC (af 2) (af 4)) (eC (.int 0))))) (iJ 3 (af 4) (e2 bC (bR (ej (e2 bC (e2 bC (af 0) (af 4)) (eC (.int 3)))) 1 [2,4] (aU 0) (tE (e2 (fY) (e2 bC (af 1) (af 0)) (e2 oQ (e2 bC (af 1) (af 2)) (eC (.int 1))))) (af 0)) (eC (.int 0)))) cn)
theorem Aw {ps:List P4} (G:Gr ps) {who:Int} {f:Int->Option Int} (hne:∀ i q,f i=some q->0 < q->ay ps i=who->∃ g∈aL ps i,f g=some (q-1)):∀ (is:List Int) (h:Int->PyData) (c4:aT),is.Nodup->(∀ x∈is,(0<=x/\x < ps.length)/\(∃ q,f x=some q)/\h x=.none) ->
    ∃ c4',fT (aU 4) xf (is.map .int) [.val (gD ps),.val (.int who),.val (oT f ps.length),.own (.list (cG h ps.length)),c4]=.ok (.nx [.val (gD ps),.val (.int who),.val (oT f ps.length),.own (.list (cG (fun j=>if j∈is then oD (nP ps who f j) else h j) ps.length)),c4'])
  | [],h,c4,_,_=>⟨c4,by rw [List.map_nil,eY];simp⟩
  | i::is,h,c4,nd,hb=>by
    obtain ⟨n1,n2⟩:=List.nodup_cons.mp nd;obtain ⟨hi,⟨q,hq⟩,hh⟩:=hb i List.mem_cons_self;have ho:=fH hi.1 hi.2;have hg:=du hi.1 hi.2;obtain ⟨c4',e⟩:=Aw G hne is (fun j=>if j=i then oD (nP ps who f i) else h j) (.val (.int i)) n2 (fun x hx=>⟨(hb x (List.mem_cons_of_mem _ hx)).1,(hb x (List.mem_cons_of_mem _ hx)).2.1,by
      have:x≠i:=by rintro rfl;exact n1 hx
      show (if x=i then _ else h x)=_;rw [if_neg this];exact (hb x (List.mem_cons_of_mem _ hx)).2.2⟩)
    refine ⟨c4',?_⟩;have fin:cG (fun j=>if j∈is then oD (nP ps who f j) else (fun j=>if j=i then oD (nP ps who f i) else h j) j) ps.length=cG (fun j=>if j∈i::is then oD (nP ps who f j) else h j) ps.length:=dk fun j _ _=>by
      by_cases h1:j=i
      · subst h1;simp [n1]
      · by_cases h2:j∈is <;> simp [h1,h2]
    rw [fin] at e;rw [<- e,List.map_cons,dH,show (([.val (gD ps),.val (.int who),.val (oT f ps.length),.own (.list (cG h ps.length)),c4]:aW).set 4 (.val (.int i)))=[.val (gD ps),.val (.int who),.val (oT f ps.length),.own (.list (cG h ps.length)),.val (.int i)] from rfl];have ht:(ip (tE (e2 (fY) (e2 bC (e2 bC (af 0) (af 4)) (eC (.int 0))) (af 1))) (tE (e2 (dW lT) (e2 bC (af 2) (af 4)) (eC (.int 0))))) [.val (gD ps),.val (.int who),.val (oT f ps.length),.own (.list (cG h ps.length)),.val (.int i)]=.ok (decide (ay ps i=who/\0 < q)):=by
      have hrk:bC (oT f ps.length) (.int i)=.ok (.int q):=by rw [xp hi.1 hi.2,hq];rfl
      simp only [kD,bO,ba,am,ak,bf,R.ok_bind,il hi.1 hi.2,lK,dR,bM,hrk,jt];rw [<- ho];by_cases h1:ay ps i=who
      · by_cases h2:0 < q <;> simp [h1,h2]
      · simp [h1]
    have hb1:xf [.val (gD ps),.val (.int who),.val (oT f ps.length),.own (.list (cG h ps.length)),.val (.int i)]=.ok (.nx [.val (gD ps),.val (.int who),.val (oT f ps.length),.own (.list (cG (fun j=>if j=i then oD (nP ps who f i) else h j) ps.length)),.val (.int i)]):=by
      unfold xf;rw [bZ,ht,R.ok_bind];by_cases hc:ay ps i=who/\0 < q
      · rw [if_pos (decide_eq_true hc)];have hcmp:=cu (t:=tE (e2 (fY) (e2 bC (af 1) (af 0)) (e2 oQ (e2 bC (af 1) (af 2)) (eC (.int 1))))) (ρ:=[.val (oT f ps.length),.val (.int i)]) (p:=fun g=>decide (f g=some (q-1))) (aL ps i) fun k hk=>by
          have hkb:=G.goals hk;have hrk:bC (oT f ps.length) (.int i)=.ok (.int q):=by rw [xp hi.1 hi.2,hq];rfl
          simp only [List.set_cons_zero,bO,ba,am,ak,bf,R.ok_bind,xp hkb.1 hkb.2,hrk,zD,wM,bM]
        obtain ⟨g,hg1,hg2⟩:=hne i q hq hc.2 hc.1;have hm:nP ps who f i=((aL ps i).filter fun g=>decide (f g=some (q-1))).head?:=by
          unfold nP;rw [hq];exact if_pos hc
        have hmem:g∈(aL ps i).filter fun g=>decide (f g=some (q-1)):=List.mem_filter.mpr ⟨hg1,decide_eq_true hg2⟩
        cases hL:(aL ps i).filter fun g=>decide (f g=some (q-1)) with
        | nil=>rw [hL] at hmem;cases hmem
        | cons v r =>
          rw [hL] at hm hcmp;rw [mO (ds:=cG h ps.length) (n:=i) (v:=.int v) rfl rfl ?_ hi.1 (by rw [bJ];exact hi.2),mW hi.1 hi.2,hm]
          · rfl
          · rw [ba,bt,show aJ 1 [2,4] [.val (gD ps),.val (.int who),.val (oT f ps.length),.own (.list (cG h ps.length)),.val (.int i)]=[.non,.val (oT f ps.length),.val (.int i)] from rfl];simp only [ci,ba,am,ak,bf,R.ok_bind,il hi.1 hi.2,lL,eh,ce];rw [<- hg,if_pos (by rw [List.length_map];exact bQ (by have:=G.glen i;omega)),hcmp,oY,R.ok_bind,tZ (by omega) (by simp)];rfl
      · rw [if_neg (by rw [decide_eq_true_iff];exact hc)];have hm:nP ps who f i=none:=by
          unfold nP;rw [hq];exact if_neg hc
        rw [uH,hm];congr 3;rw [dk fun j _ _=>?_];by_cases h1:j=i
        · subst h1;rw [if_pos rfl,hh];rfl
        · rw [if_neg h1]
    rw [hb1,R.ok_bind,dz]
theorem ja {ps:List P4} (G:Gr ps) {who:Int} {f:Int->Option Int} (hne:∀ i q,f i=some q->0 < q->ay ps i=who->∃ g∈aL ps i,f g=some (q-1)) :
    br [gD ps,.int who,oT f ps.length]=.ok (oT (nP ps who f) ps.length):=by
  have hp:=G.hp;have h0:cg (aU 0) (fun _=>.ok true) (eC .none) [.non] (cG (fun i=>oD (f i)) ps.length)=.ok (cG (fun _=>.none) ps.length):=by
    have:=hJ (eC .none) [.non] 0 (fun _=>.none) (cG (fun i=>oD (f i)) ps.length) fun d _=>rfl
    rw [this];unfold cG;rw [List.map_map];rfl
  obtain ⟨c4,e⟩:=Aw G hne (kB f ps.length) (fun _=>.none) .non (qc f ps.length).nd fun x hx=>⟨(i9.mp hx).1,(i9.mp hx).2,rfl⟩
  have fin:cG (fun j=>if j∈kB f ps.length then oD (nP ps who f j) else .none) ps.length=cG (fun j=>oD (nP ps who f j)) ps.length:=dk fun j h1 h2=>by
    by_cases h:j∈kB f ps.length
    · rw [if_pos h]
    · rw [if_neg h];have:f j=none:=by
        cases hf:f j with
        | none=>rfl
        | some q=>exact (h (i9.mpr ⟨⟨h1,h2⟩,q,hf⟩)).elim
      unfold nP;rw [this];rfl
  rw [fin] at e;unfold br gI;refine dE ?_;rw [show ([gD ps,.int who,oT f ps.length].map aT.val++List.replicate (5 - [gD ps,.int who,oT f ps.length].length) aT.non)=[.val (gD ps),.val (.int who),.val (oT f ps.length),.non,.non] from rfl];rw [aD (ρ':=[.val (gD ps),.val (.int who),.val (oT f ps.length),.own (.list (cG (fun _=>.none) ps.length)),.non]) (by
    rw [jD,bt,show aJ 1 [] [.val (gD ps),.val (.int who),.val (oT f ps.length),.non,.non]=[.non] from rfl];simp only [ci,am,ak,R.ok_bind,eh,ce];rw [if_pos (by rw [bJ];exact bQ (by omega)),h0];rfl)]
  rw [aD (ρ':=[.val (gD ps),.val (.int who),.val (oT f ps.length),.own (.list (cG (fun j=>oD (nP ps who f j)) ps.length)),c4]) (by
    rw [eS,fE,ci];simp only [aO,av,aA,am,ak,R.ok_bind,nU (show ps.length<=1000 by omega),eh];unfold xf at e;rw [e];rfl)]
  rfl
theorem zC {d:PyData} (hg:eU d) (hd:d.depth<=60):fY d d=.ok (.bool true):=by
  unfold fY;rw [if_pos (by unfold sv;rw [hg];simp;exact hd),PySem.SeqAt.eqv_refl d hg]
theorem t5 {d:PyData} (hg:eU d) (hd:d.depth<=60):nh d d=.ok (.bool false):=by
  unfold nh;rw [if_pos (by unfold sv;rw [hg];simp;exact hd),PySem.SeqAt.eqv_refl d hg];rfl
noncomputable def DG:List PyData->Prop:=fun ds=>∀ x∈ds,eU x/\x.depth=0
theorem DG.good {ds:List PyData} (h:DG ds):eU (.tuple ds):=eA.mpr fun x hx=>(h x hx).1
theorem B8 (o:Option Int):eU (oD o)/\(oD o).depth=0:=by
  cases o
  · exact ⟨kL,by simp [oD,PyData.depth]⟩
  · exact ⟨ie _,by simp [oD,PyData.depth]⟩
theorem uf (f:Int->Option Int) (n:Nat):DG (cG (fun i=>oD (f i)) n):=fun x hx=>by
  obtain ⟨i,_,rfl⟩:=List.mem_map.mp hx;exact B8 _
theorem B9 (f:Int->Option Int) (n:Nat):eU (oT f n):=(uf f n).good
theorem FN {ps:List P4} {hi:Int} (hp:∀ p∈ps,Pl ps.length hi p) (h24:(ps.length:Int)<=24):Gr ps :=
  ⟨fun p h=>by have:=(hp p h).len;omega,fun p h=>(hp p h).inn,by omega,fun p h=>(hp p h).so,fun p h=>(hp p h).ne⟩
theorem Gr.gne {ps:List P4} (G:Gr ps) {i:Int} (h0:0<=i) (h1:i < ps.length):∃ g,g∈aL ps i:=by
  have:=G.ne _ (List.getElem_mem (show i.toNat < ps.length by omega));rw [<- du h0 h1] at this;exact List.exists_mem_of_ne_nil _ this
theorem yR {ps:List P4} (G:Gr ps):gP ps (ids ps.length):=fun i hi=>by
  obtain ⟨h0,h1⟩:=eR.mp hi;obtain ⟨g,hg⟩:=G.gne h0 h1;exact ⟨g,List.mem_filter.mpr ⟨hg,bu.mpr (eR.mpr (G.goals hg))⟩⟩
theorem uB {n:Nat} (h:n<=1000):Dy .tuple [.int (n:Int)]=.ok (.tuple ((ids n).map .int)):=by
  rw [Gp (by omega) (by omega),jB];rfl
theorem ox {ps:List P4} (hp:ps.length<=1000):cq [gD ps]=.ok (.tuple (cG (fun _=>.none) ps.length)):=by
  have h0:cg (aU 0) (fun _=>.ok true) (eC .none) [.non] (ps.map P4.d)=.ok (cG (fun _=>.none) ps.length):=by
    have:=hJ (eC .none) [.non] 0 (fun _=>.none) (ps.map P4.d) fun d _=>rfl
    rw [this];congr 1;refine List.ext_getElem (by rw [List.length_map,List.length_map,bJ]) fun k h1 h2=>?_
    rw [bJ] at h2;have e:=gZ (f:=fun _=>.none) (n:=ps.length) (i:=(k:Int)) (by omega) (by omega);simp only [Int.toNat_natCast] at e;rw [e,List.getElem_map]
  unfold cq lv;refine dE ?_;rw [show ([gD ps].map aT.val++List.replicate (1 - [gD ps].length) aT.non)=[.val (gD ps)] from rfl];rw [cH,bT,bt,show aJ 1 [] [.val (gD ps)]=[.non] from rfl];simp only [ci,am,R.ok_bind,eh,ce];rw [if_pos (by rw [List.length_map];exact bQ hp),h0];rfl
noncomputable def xt:Fs:=(iI (tE (e2 (fY) (e2 bC (e2 bC (af 0) (af 4)) (eC (.int 0))) (af 1))) (iJ 3 (af 4) (e2 bC (aC cI (ah (e2 bC (e2 bC (af 0) (af 4)) (eC (.int 3))) (ah (af 2) az))) (eC (.int 0)))) cn)
theorem A7 {ps:List P4} (G:Gr ps) {who:Int} {s:PyData} {part:List Int} (hs:qv s part) (hj:dU ps.length part) (hne:∀ i∈part,ay ps i=who->∃ g,g∈cb ps part i):∀ (is:List Int) (h:Int->PyData) (c4:aT),is.Nodup->(∀ x∈is,x∈part/\h x=.none) ->
    ∃ c4',fT (aU 4) xt (is.map .int) [.val (gD ps),.val (.int who),.val s,.own (.list (cG h ps.length)),c4]=.ok (.nx [.val (gD ps),.val (.int who),.val s,.own (.list (cG (fun j=>if j∈is then oD (fX ps who part j) else h j) ps.length)),c4'])
  | [],h,c4,_,_=>⟨c4,by rw [List.map_nil,eY];simp⟩
  | i::is,h,c4,nd,hb=>by
    obtain ⟨n1,n2⟩:=List.nodup_cons.mp nd;obtain ⟨hip,hh⟩:=hb i List.mem_cons_self;have hi:=hj.inn i hip;have ho:=fH hi.1 hi.2;have hg:=du hi.1 hi.2;obtain ⟨c4',e⟩:=A7 G hs hj hne is (fun j=>if j=i then oD (fX ps who part i) else h j) (.val (.int i)) n2 (fun x hx=>⟨(hb x (List.mem_cons_of_mem _ hx)).1,by
      have:x≠i:=by rintro rfl;exact n1 hx
      show (if x=i then _ else h x)=_;rw [if_neg this];exact (hb x (List.mem_cons_of_mem _ hx)).2⟩)
    refine ⟨c4',?_⟩;have fin:cG (fun j=>if j∈is then oD (fX ps who part j) else (fun j=>if j=i then oD (fX ps who part i) else h j) j) ps.length=cG (fun j=>if j∈i::is then oD (fX ps who part j) else h j) ps.length:=dk fun j _ _=>by
      by_cases h1:j=i
      · subst h1;simp [n1]
      · by_cases h2:j∈is <;> simp [h1,h2]
    rw [fin] at e;rw [<- e,List.map_cons,dH,show (([.val (gD ps),.val (.int who),.val s,.own (.list (cG h ps.length)),c4]:aW).set 4 (.val (.int i)))=[.val (gD ps),.val (.int who),.val s,.own (.list (cG h ps.length)),.val (.int i)] from rfl];have ht:(tE (e2 (fY) (e2 bC (e2 bC (af 0) (af 4)) (eC (.int 0))) (af 1))) [.val (gD ps),.val (.int who),.val s,.own (.list (cG h ps.length)),.val (.int i)]=.ok (decide (ay ps i=who)):=by
      simp only [bO,ba,am,ak,bf,R.ok_bind,il hi.1 hi.2,lK,dR,bM];rw [<- ho]
    have hb1:xt [.val (gD ps),.val (.int who),.val s,.own (.list (cG h ps.length)),.val (.int i)]=.ok (.nx [.val (gD ps),.val (.int who),.val s,.own (.list (cG (fun j=>if j=i then oD (fX ps who part i) else h j) ps.length)),.val (.int i)]):=by
      unfold xt;rw [bZ,ht,R.ok_bind];by_cases hc:ay ps i=who
      · rw [if_pos (decide_eq_true hc)];have hcm:=qO (s:=.tuple ((aL ps i).map .int)) (ns:=aL ps i) (.inl rfl) hs (by have:=G.glen i;omega);obtain ⟨g,hg1⟩:=hne i hip hc;have hm:fX ps who part i=(cb ps part i).head?:=if_pos ⟨hip,hc⟩;have hw:(aL ps i).filter (bV part)=cb ps part i:=rfl;rw [hw] at hcm;cases hL:cb ps part i with
        | nil=>rw [hL] at hg1;cases hg1
        | cons v r =>
          rw [hL] at hm hcm;rw [mO (ds:=cG h ps.length) (n:=i) (v:=.int v) rfl rfl ?_ hi.1 (by rw [bJ];exact hi.2),mW hi.1 hi.2,hm]
          · rfl
          · simp only [ba,aO,av,aA,am,ak,bf,R.ok_bind,il hi.1 hi.2,lL];rw [<- hg,hcm,R.ok_bind,qP (by omega) (by simp)];rfl
      · rw [if_neg (by rw [decide_eq_true_iff];exact hc)];have hm:fX ps who part i=none:=if_neg fun z=>hc z.2
        rw [uH,hm];congr 3;rw [dk fun j _ _=>?_];by_cases h1:j=i
        · subst h1;rw [if_pos rfl,hh];rfl
        · rw [if_neg h1]
    rw [hb1,R.ok_bind,dz]
theorem nZ {ps:List P4} (G:Gr ps) {who:Int} {s:PyData} {part:List Int} (hs:qv s part) (hj:dU ps.length part) (hne:∀ i∈part,ay ps i=who->∃ g,g∈cb ps part i) :
    bK [gD ps,.int who,s]=.ok (oT (fX ps who part) ps.length):=by
  have hp:=G.hp;have hn:=ox (ps:=ps) (by omega);obtain ⟨c4,e⟩:=A7 G hs hj hne part (fun _=>.none) .non hj.nd fun x hx=>⟨hx,rfl⟩
  have fin:cG (fun j=>if j∈part then oD (fX ps who part j) else .none) ps.length=cG (fun j=>oD (fX ps who part j)) ps.length:=dk fun j h1 h2=>by
    by_cases h:j∈part
    · rw [if_pos h]
    · rw [if_neg h];have:fX ps who part j=none:=if_neg fun z=>h z.1
      rw [this];rfl
  rw [fin] at e;unfold bK gJ;refine dE ?_;rw [show ([gD ps,.int who,s].map aT.val++List.replicate (5 - [gD ps,.int who,s].length) aT.non)=[.val (gD ps),.val (.int who),.val s,.non,.non] from rfl];rw [aD (ρ':=[.val (gD ps),.val (.int who),.val s,.own (.list (cG (fun _=>.none) ps.length)),.non]) (by
    simp only [jD,bT,aO,av,aA,am,R.ok_bind,hn,wF];rfl)]
  rw [aD (ρ':=[.val (gD ps),.val (.int who),.val s,.own (.list (cG (fun j=>oD (fX ps who part j)) ps.length)),c4]) (by
    rw [eS,fE,ci];simp only [am,ak,R.ok_bind,hs.seq];unfold xt at e;rw [e];rfl)]
  rfl
theorem FW (ns:List Int) (i:Int) (neg:Bool):je neg (.int i) (.tuple (ns.map .int))=.ok (.bool (if neg then !(ns.any fun j=>decide (j=i)) else ns.any fun j=>decide (j=i))):=FV ns i neg
noncomputable def Do (ns:List Int):PyData->Bool
  | .none=>true
  | .int i=>ns.any fun j=>decide (j=i)
  | _=>false
noncomputable def jA (ps:List P4):PyData->Bool
  | .tuple ds=>decide (ds.length=ps.length)&&(ds.zip ps).all fun q=>Do q.2.ns q.1
  | _=>false
theorem yw {ps:List P4} {f:Int->Option Int} (h:∀ i g,f i=some g->g∈aL ps i):jA ps (oT f ps.length)=true:=by
  show (decide _&&_)=true;rw [decide_eq_true (bJ ..),Bool.true_and,List.all_eq_true];intro q hq;obtain ⟨k,hk,e⟩:=List.mem_iff_getElem.mp hq;rw [List.length_zip,bJ,Nat.min_self] at hk;rw [List.getElem_zip] at e;have e2:=gZ (f:=fun i=>oD (f i)) (n:=ps.length) (i:=(k:Int)) (by omega) (by omega);simp only [Int.toNat_natCast] at e2;rw [e2] at e;subst e;cases hf:f (k:Int) with
  | none=>rfl
  | some g =>
    have:=h _ _ hf;rw [du (by omega) (by omega)] at this;simp only [Int.toNat_natCast] at this;exact bu.mpr this
noncomputable abbrev CJ:List Str:=["who","places","moves"]
noncomputable def jN (c:Addr) (n:Nat) (s:Sh):PyData:=zY c CJ [.int s.w,.tuple (s.pl.map .int),oT s.mv n]
theorem v4 (c:Addr) (n:Nat) (s:Sh):jN c n s=.dict [(.none,.int c),(.str "who",.int s.w),(.str "places",.tuple (s.pl.map .int)),(.str "moves",oT s.mv n)]:=rfl
theorem BR (c:Addr) (n:Nat) (s:Sh):lD c "who" (jN c n s)=.ok (.int s.w):=by
  rw [v4];show (if (c:Int)=(c:Int) then (if ("who" : Str) = "who" then R.ok _ else _) else .no)=_;rw [if_pos rfl,if_pos rfl]
theorem pH (c:Addr) (n:Nat) (s:Sh):lD c "places" (jN c n s)=.ok (.tuple (s.pl.map .int)):=by
  rw [v4];show (if (c:Int)=(c:Int) then (if ("who" : Str) = "places" then _ else if ("places" : Str) = "places" then R.ok _ else _) else .no)=_;rw [if_pos rfl,if_neg (by decide +kernel),if_pos rfl]
theorem yd (c:Addr) (n:Nat) (s:Sh):lD c "moves" (jN c n s)=.ok (oT s.mv n):=by
  rw [v4];show (if (c:Int)=(c:Int) then (if ("who" : Str) = "moves" then _ else if ("places" : Str) = "moves" then _ else if ("moves" : Str) = "moves" then R.ok _ else _) else .no)=_;rw [if_pos rfl,if_neg (by decide +kernel),if_neg (by decide +kernel),if_pos rfl]
theorem oX {f g:Int->Option Int} {n:Nat} (hn:n<=1000):aN [oT f n,oT g n]=.ok (oT (fu f g) n):=by
  have hc:=xq (f:=fun i=>oD (f i)) (g:=fun i=>oD (g i)) (h:=fun i=>oD (fu f g i)) (n:=n) (ρ:=[]) (fe:=zF (tE (e2 (mm) (af 0) (eC .none))) (af 1) (af 0)) fun i _ _=>by
    simp only [ss,bO,ba,am,ak,bf,R.ok_bind,Ab,bM];unfold fu;cases f i <;> rfl
  unfold aN gH;refine dE ?_;rw [show ([oT f n,oT g n].map aT.val++List.replicate (2 - [oT f n,oT g n].length) aT.non)=[.val (oT f n),.val (oT g n)] from rfl];rw [cH,bT,bt,show aJ 2 [] [.val (oT f n),.val (oT g n)]=[.non,.non] from rfl];simp only [wT,am,ak,R.ok_bind,eh,ce];rw [if_pos (by rw [kE,bJ,bJ,Nat.min_self];exact bQ hn),hc];rfl
theorem qw {ps:List P4} (hp:ps.length<=1000):cX [gD ps]=.ok (.tuple ((ids ps.length).map .int)):=by
  have hrt:=uB (n:=ps.length) hp;have hlen:cF (gD ps)=.ok (.int ps.length):=by simp
  unfold cX jf;refine dE ?_;rw [show ([gD ps].map aT.val++List.replicate (1 - [gD ps].length) aT.non)=[.val (gD ps)] from rfl];simp only [cH,zI,av,aA,bT,am,R.ok_bind,hlen,hrt]
noncomputable def A9 (s:Sh) (f:Int->Option Int) (i:Int):Option Int:=if i∈s.pl then some s.w else f i
noncomputable def oE:(Int->Option Int)->List Sh->Int->Option Int
  | f,[]=>f
  | f,s::l=>oE (A9 s f) l
noncomputable def uw:(Int->Option Int)->List Sh->Int->Option Int
  | f,[]=>f
  | f,s::l=>uw (fu f s.mv) l
theorem A8 {c:Addr} {n:Nat} {a b m:PyData} {s:Sh}:∀ (is:List Int) (f:Int->Option Int) (c5:aT),(∀ x∈is,0<=x/\x < n) ->
    ∃ c5',fT (aU 5) (iJ 2 (af 5) (e1 (lD c "who") (af 4))) (is.map .int) [.val a,.val b,.own (.list (cG (fun i=>oD (f i)) n)),.val m,.val (jN c n s),c5]=.ok (.nx [.val a,.val b,.own (.list (cG (fun i=>oD (if i∈is then some s.w else f i)) n)),.val m,.val (jN c n s),c5'])
  | [],f,c5,_=>⟨c5,by rw [List.map_nil,eY];simp⟩
  | i::is,f,c5,hb=>by
    obtain ⟨h0,h1⟩:=hb i List.mem_cons_self;obtain ⟨c5',e⟩:=A8 (c:=c) (n:=n) (a:=a) (b:=b) (m:=m) (s:=s) is (fun j=>if j=i then some s.w else f j) (.val (.int i)) fun x hx=>hb x (List.mem_cons_of_mem _ hx)
    refine ⟨c5',?_⟩;rw [List.map_cons,dH];rw [show (([.val a,.val b,.own (.list (cG (fun i=>oD (f i)) n)),.val m,.val (jN c n s),c5]:aW).set 5 (.val (.int i)))=[.val a,.val b,.own (.list (cG (fun i=>oD (f i)) n)),.val m,.val (jN c n s),.val (.int i)] from rfl];rw [mO (ds:=cG (fun i=>oD (f i)) n) (n:=i) (v:=.int s.w) rfl rfl (by simp only [bT,ak,am,R.ok_bind,BR]) h0 (by rw [bJ];exact h1),R.ok_bind,dz,mW h0 h1];have ht:cG (fun j=>if j=i then PyData.int s.w else oD (f j)) n=cG (fun j=>oD (if j=i then some s.w else f j)) n:=dk fun j _ _=>by split <;> rfl
    have ht2:cG (fun j=>oD (if j∈is then some s.w else if j=i then some s.w else f j)) n=cG (fun j=>oD (if j∈i::is then some s.w else f j)) n:=dk fun j _ _=>by
      by_cases z1:j∈is
      · simp [z1]
      · by_cases z2:j=i <;> simp [z1,z2]
    rw [ht,<- ht2];exact e
noncomputable def sN (c:Addr):Fs:=(aR (gW (jd (ej (e1 (lD c "places") (af 4))) (aU 5) (iJ 2 (af 5) (e1 (lD c "who") (af 4))))) (bN 3 (aC aN (ah (af 3) (ah (e1 (lD c "moves") (af 4)) az)))))
theorem xn {c:Addr} {n:Nat} (hn:n<=1000) {a b:PyData}:∀ (l:List Sh) (f m:Int->Option Int) (c4 c5:aT),(∀ s∈l,∀ x∈s.pl,0<=x/\x < n) ->
    ∃ c4' c5',fT (aU 4) (sN c) (l.map (jN c n)) [.val a,.val b,.own (.list (cG (fun i=>oD (f i)) n)),.val (oT m n),c4,c5]=.ok (.nx [.val a,.val b,.own (.list (cG (fun i=>oD (oE f l i)) n)),.val (oT (uw m l) n),c4',c5'])
  | [],f,m,c4,c5,_=>⟨c4,c5,by rw [List.map_nil,eY];rfl⟩
  | s::l,f,m,c4,c5,hb=>by
    obtain ⟨d5,e1⟩:=A8 (c:=c) (n:=n) (a:=a) (b:=b) (m:=oT m n) (s:=s) s.pl f c5 (hb s List.mem_cons_self);obtain ⟨c4',c5',e⟩:=xn (c:=c) hn (a:=a) (b:=b) l (A9 s f) (fu m s.mv) (.val (jN c n s)) d5 fun t ht=>hb t (List.mem_cons_of_mem _ ht)
    refine ⟨c4',c5',?_⟩;rw [List.map_cons,dH];rw [show (([.val a,.val b,.own (.list (cG (fun i=>oD (f i)) n)),.val (oT m n),c4,c5]:aW).set 4 (.val (jN c n s)))=[.val a,.val b,.own (.list (cG (fun i=>oD (f i)) n)),.val (oT m n),.val (jN c n s),c5] from rfl];have hb1:sN c [.val a,.val b,.own (.list (cG (fun i=>oD (f i)) n)),.val (oT m n),.val (jN c n s),c5]=.ok (.nx [.val a,.val b,.own (.list (cG (fun i=>oD (A9 s f i)) n)),.val (oT (fu m s.mv) n),.val (jN c n s),d5]):=by
      unfold sN;rw [aD (ρ':=[.val a,.val b,.own (.list (cG (fun i=>oD (A9 s f i)) n)),.val (oT m n),.val (jN c n s),d5]) (by
        rw [eS,fE,ci,bT];simp only [ak,am,R.ok_bind,pH,eh];rw [e1];rfl)]
      simp only [bi,aO,av,aA,bT,ak,am,R.ok_bind,yd,oX hn];rfl
    rw [hb1,R.ok_bind,dz,e];rfl
theorem G1 {ps:List P4} (hp:ps.length<=1000) {c:Addr} {l:List Sh} (hb:∀ s∈l,∀ x∈s.pl,0<=x/\x < ps.length) :
    bo c [gD ps,.list (l.map (jN c ps.length))]=.ok (.tuple [oT (oE (fun _=>none) l) ps.length,oT (uw (fun _=>none) l) ps.length]):=by
  obtain ⟨c4,c5,e⟩:=xn (c:=c) hp (a:=gD ps) (b:=.list (l.map (jN c ps.length))) l (fun _=>none) (fun _=>none) .non .non hb;have h0:cg (aU 0) (fun _=>.ok true) (eC .none) [.non] (ps.map P4.d)=.ok (cG (fun _=>oD none) ps.length):=by
    have:=hJ (eC .none) [.non] 0 (fun _=>.none) (ps.map P4.d) fun d _=>rfl
    rw [this];congr 1;refine List.ext_getElem (by rw [List.length_map,List.length_map,bJ]) fun k h1 h2=>?_
    rw [bJ] at h2;have e:=gZ (f:=fun _=>oD none) (n:=ps.length) (i:=(k:Int)) (by omega) (by omega);simp only [Int.toNat_natCast] at e;rw [e,List.getElem_map];rfl
  have hn:=ox (ps:=ps) hp;unfold bo fx;refine dE ?_;rw [show ([gD ps,.list (l.map (jN c ps.length))].map aT.val++List.replicate (6 - [gD ps,.list (l.map (jN c ps.length))].length) aT.non)=[.val (gD ps),.val (.list (l.map (jN c ps.length))),.non,.non,.non,.non] from rfl];rw [aD (ρ':=[.val (gD ps),.val (.list (l.map (jN c ps.length))),.own (.list (cG (fun _=>oD none) ps.length)),.non,.non,.non]) (by
    rw [jD,bt,show aJ 1 [] [.val (gD ps),.val (.list (l.map (jN c ps.length))),.non,.non,.non,.non]=[.non] from rfl];simp only [ci,am,R.ok_bind,eh,ce];rw [if_pos (by rw [List.length_map];exact bQ hp),h0];rfl)]
  rw [aD (ρ':=[.val (gD ps),.val (.list (l.map (jN c ps.length))),.own (.list (cG (fun _=>oD none) ps.length)),.val (oT (fun _=>none) ps.length),.non,.non]) (by
    simp only [bi,aO,av,aA,am,R.ok_bind,hn];rfl)]
  rw [aD (ρ':=[.val (gD ps),.val (.list (l.map (jN c ps.length))),.own (.list (cG (fun i=>oD (oE (fun _=>none) l i)) ps.length)),.val (oT (uw (fun _=>none) l) ps.length),c4,c5]) (by
    rw [eS,fE,ci];simp only [ak,am,R.ok_bind,qa];unfold sN at e;rw [e];rfl)]
  simp only [cH,iB,av,aA,bT,kJ,kI,ak,am,R.ok_bind,t6];rfl
noncomputable def Wy (ps:List P4) (js:List Int) (w:Int) (mv:Int->Option Int) (i g:Int):Prop:=(ay ps i=w/\mv i=some g)\/(ay ps i≠w/\g∈cb ps js i)
theorem gG {ps:List P4} {js:List Int} {i g:Int} (h:g∈cb ps js i):g∈js:=bu.mp (List.mem_filter.mp h).2
theorem fN {ps:List P4} {js:List Int} {i g:Int} (h:g∈cb ps js i):g∈aL ps i:=(List.mem_filter.mp h).1
theorem kS {ps:List P4} {js:List Int} {i g:Int} (h:g∈aL ps i) (h2:g∈js):g∈cb ps js i:=List.mem_filter.mpr ⟨h,bu.mpr h2⟩
theorem w8 {ps:List P4} {js gs:List Int} {who:Int} {rk:Int->Option Int} (A:uQ ps js who gs rk) {i q:Int} (h:rk i=some q) (hq:0 < q) (ho:ay ps i=who):∃ g,nP ps who rk i=some g/\g∈cb ps js i/\rk g=some (q-1):=by
  obtain ⟨g,g1,g2⟩:=lA A i q h hq ho;have hm:nP ps who rk i=((aL ps i).filter fun g=>decide (rk g=some (q-1))).head?:=by
    unfold nP;rw [h];exact if_pos ⟨ho,hq⟩
  have hmem:g∈(aL ps i).filter fun g=>decide (rk g=some (q-1)):=List.mem_filter.mpr ⟨g1,decide_eq_true g2⟩
  cases hL:(aL ps i).filter fun g=>decide (rk g=some (q-1)) with
  | nil=>rw [hL] at hmem;cases hmem
  | cons v r =>
    rw [hL] at hm;have hv:v∈(aL ps i).filter fun g=>decide (rk g=some (q-1)):=by rw [hL];exact List.mem_cons_self
    have h2:=of_decide_eq_true (List.mem_filter.mp hv).2;exact ⟨v,hm,kS (List.mem_filter.mp hv).1 (A.sub v _ h2),h2⟩
theorem im {ps:List P4} {who:Int} {rk:Int->Option Int} {i:Int} (h:ay ps i≠who\/rk i=none\/rk i=some 0):nP ps who rk i=none:=by
  unfold nP;rcases h with h | h | h
  · cases rk i with
    | none=>rfl
    | some q=>exact if_neg fun z=>h z.1
  · rw [h]
  · rw [h];exact if_neg fun z=>by omega
theorem yM {ps:List P4} {who:Int} {part:List Int} {i:Int} (hi:i∈part) (ho:ay ps i=who) (hw:∃ g,g∈cb ps part i):∃ g,fX ps who part i=some g/\g∈cb ps part i:=by
  have hm:fX ps who part i=(cb ps part i).head?:=if_pos ⟨hi,ho⟩;obtain ⟨g,hg⟩:=hw;cases hL:cb ps part i with
  | nil=>rw [hL] at hg;cases hg
  | cons v r =>
    rw [hL] at hm;exact ⟨v,hm,List.mem_cons_self⟩
theorem v8 {ps:List P4} {who:Int} {part:List Int} {i:Int} (h:i∉part\/ay ps i≠who):fX ps who part i=none:=if_neg fun z=>h.elim (fun y=>y z.1) fun y=>y z.2
inductive sR (E:Int->Int->Prop) (al:Int->Prop) (s:Int):Int->Prop
  | one {x:Int}:E s x->al x->sR E al s x
  | more {x y:Int}:sR E al s x->E x y->al y->sR E al s y
theorem sR.al {E:Int->Int->Prop} {al:Int->Prop} {s x:Int} (h:sR E al s x):al x:=by cases h <;> assumption
theorem sR.imp {E E':Int->Int->Prop} {al al':Int->Prop} {s t:Int} (h:sR E al s t) (h1:∀ y,E s y->al y->E' s y/\al' y) (h2:∀ x y,al x->E x y->al y->E' x y/\al' y):sR E' al' s t:=by
  induction h with
  | one a b=>exact .one (h1 _ a b).1 (h1 _ a b).2
  | more r a b ih=>exact .more ih (h2 _ _ r.al a b).1 (h2 _ _ r.al a b).2
theorem sR.inn {E:Int->Int->Prop} {al:Int->Prop} {s t:Int} {P:Int->Prop} (h:sR E al s t) (hs:P s) (hP:∀ x y,P x->E x y->al y->P y):sR E (fun x=>al x/\P x) s t:=by
  induction h with
  | one a b=>exact .one a ⟨b,hP _ _ hs a b⟩
  | more r a b ih=>exact .more ih a ⟨b,hP _ _ ih.al.2 a b⟩
theorem sR.out {E:Int->Int->Prop} {al:Int->Prop} {s t:Int} {P:Int->Prop} (h:sR E al s t) (ht:¬ P t) (hP:∀ x y,al x->P x->E x y->al y->P y):sR E (fun x=>al x/\¬ P x) s t:=by
  induction h with
  | one a b=>exact .one a ⟨b,ht⟩
  | more r a b ih =>
    have hx:=fun z=>ht (hP _ _ r.al z a b)
    exact .more (ih hx) a ⟨b,ht⟩
theorem sR.less {E:Int->Int->Prop} {al:Int->Prop} {s t:Int} {φ:Int->Int} (h:sR E al s t) (h1:∀ y,E s y->al y->φ y < φ s) (h2:∀ x y,al x->E x y->al y->φ y<=φ x):φ t < φ s:=by
  induction h with
  | one a b=>exact h1 _ a b
  | more r a b ih =>
    have:=h2 _ _ r.al a b;omega
structure yW (ps:List P4) (js:List Int) (win:Int->Int) (mv:Int->Option Int):Prop where
  two:∀ i∈js,win i=0\/win i=1
  has:∀ i∈js,ay ps i=win i->∃ g,mv i=some g/\g∈aL ps i
  non:∀ i∈js,ay ps i≠win i->mv i=none
  stay:∀ i∈js,∀ g,Wy ps js (win i) mv i g->g∈js/\win g=win i
  good:∀ i∈js,aF ps i%2≠win i->¬ sR (Wy ps js (win i) mv) (fun x=>x∈js/\win x=win i/\aF ps x<=aF ps i) i i
structure ix (ps:List P4) (js:List Int) (s:Sh):Prop where
  two:s.w=0\/s.w=1
  sub:∀ i∈s.pl,i∈js
  ne:s.pl≠[]
  has:∀ i∈s.pl,ay ps i=s.w->∃ g,s.mv i=some g/\g∈aL ps i
  non:∀ i,(i∉s.pl\/ay ps i≠s.w)->s.mv i=none
  stay:∀ i∈s.pl,∀ g,Wy ps js s.w s.mv i g->g∈s.pl
  outO:∀ i∈js,i∉s.pl->ay ps i=s.w->∀ g∈cb ps js i,g∉s.pl
  outX:∀ i∈js,i∉s.pl->ay ps i≠s.w->∃ g∈cb ps js i,g∉s.pl
  good:∀ i∈s.pl,aF ps i%2≠s.w->¬ sR (Wy ps js s.w s.mv) (fun x=>x∈s.pl/\aF ps x<=aF ps i) i i
theorem lh {ps:List P4} {K:List Int} {w:Int} {m1 m2:Int->Option Int} {i g:Int} (e:m1 i=m2 i) (h:Wy ps K w m1 i g):Wy ps K w m2 i g:=by
  rcases h with ⟨a,b⟩ | h
  · exact .inl ⟨a,by rw [<- e];exact b⟩
  · exact .inr h
theorem ix.whole {ps:List P4} {js:List Int} {s:Sh} (S:ix ps js s) (hw:gP ps js):gP ps (jc js s.pl):=by
  intro i hi;obtain ⟨h1,h2⟩:=bS.mp hi;have fin:∀ g∈cb ps js i,g∉s.pl->∃ g,g∈cb ps (jc js s.pl) i:=fun g g1 g2=>⟨g,kS (fN g1) (bS.mpr ⟨gG g1,g2⟩)⟩
  by_cases ho:ay ps i=s.w
  · obtain ⟨g,hg⟩:=hw i h1;exact fin g hg (S.outO i h1 h2 ho g hg)
  · obtain ⟨g,g1,g2⟩:=S.outX i h1 h2 ho;exact fin g g1 g2
theorem Bb {ps:List P4} {js:List Int} (hown:∀ i∈js,ay ps i=0\/ay ps i=1) {s:Sh} (S:ix ps js s) {win:Int->Int} {mv:Int->Option Int} (I:yW ps (jc js s.pl) win mv) :
    yW ps js (fun i=>if i∈s.pl then s.w else win i) (fun i=>if i∈s.pl then s.mv i else mv i):=by
  have wP:∀ {i},i∈s.pl->(if i∈s.pl then s.w else win i)=s.w:=fun h=>if_pos h
  have wR:∀ {i},i∉s.pl->(if i∈s.pl then s.w else win i)=win i:=fun h=>if_neg h
  have mP:∀ {i},i∈s.pl->(if i∈s.pl then s.mv i else mv i)=s.mv i:=fun h=>if_pos h
  have mR:∀ {i},i∉s.pl->(if i∈s.pl then s.mv i else mv i)=mv i:=fun h=>if_neg h
  have goR:∀ i g,i∈js->i∉s.pl->Wy ps js (win i) mv i g->(g∈js/\g∉s.pl/\Wy ps (jc js s.pl) (win i) mv i g)\/(win i=s.w/\g∈s.pl):=fun i g hi hn h=>by
    have hi':=bS.mpr ⟨hi,hn⟩;rcases h with ⟨ho,hm⟩ | ⟨ho,hm⟩
    · have w:Wy ps (jc js s.pl) (win i) mv i g:=.inl ⟨ho,hm⟩;obtain ⟨z1,z2⟩:=bS.mp (I.stay i hi' g w).1;exact .inl ⟨z1,z2,w⟩
    · by_cases hg:g∈s.pl
      · right;refine ⟨?_,hg⟩;have h1:ay ps i≠s.w:=fun z=>S.outO i hi hn z g hm hg
        have:=hown i hi;have:=I.two i hi';have:=S.two;omega
      · exact .inl ⟨gG hm,hg,.inr ⟨ho,kS (fN hm) (bS.mpr ⟨gG hm,hg⟩)⟩⟩
  refine ⟨fun i hi=>?_,fun i hi ho=>?_,fun i hi ho=>?_,fun i hi g hg=>?_,fun i hi hm hp=>?_⟩
  · by_cases h:i∈s.pl
    · rw [wP h];exact S.two
    · rw [wR h];exact I.two i (bS.mpr ⟨hi,h⟩)
  · by_cases h:i∈s.pl
    · rw [mP h];exact S.has i h (ho.trans (wP h))
    · rw [mR h];exact I.has i (bS.mpr ⟨hi,h⟩) (ho.trans (wR h))
  · by_cases h:i∈s.pl
    · rw [mP h];exact S.non i (.inr fun z=>ho (z.trans (wP h).symm))
    · rw [mR h];exact I.non i (bS.mpr ⟨hi,h⟩) fun z=>ho (z.trans (wR h).symm)
  · by_cases h:i∈s.pl
    · rw [wP h] at hg ⊢;have:=S.stay i h g (lh (mP h) hg);exact ⟨S.sub g this,wP this⟩
    · rw [wR h] at hg ⊢;rcases goR i g hi h (lh (mR h) hg) with ⟨z1,z2,z3⟩ | ⟨z1,z2⟩
      · refine ⟨z1,?_⟩;rw [wR z2];exact (I.stay i (bS.mpr ⟨hi,h⟩) g z3).2
      · refine ⟨S.sub g z2,?_⟩;rw [wP z2];exact z1.symm
  · by_cases h:i∈s.pl
    · rw [wP h] at hm hp;refine S.good i h hm ?_;refine (hp.inn (P:=fun x=>x∈s.pl) h fun x y hx e _=>S.stay x hx y (lh (mP hx) e)).imp (fun y e a=>⟨lh (mP h) e,a.2,a.1.2.2⟩) fun x y ax e a=>⟨lh (mP ax.2) e,a.2,a.1.2.2⟩
    · rw [wR h] at hm hp;refine I.good i (bS.mpr ⟨hi,h⟩) hm ?_;have hp2:=hp.out (P:=fun x=>x∈s.pl) h fun x y ax hx e a=>by
        have hw:s.w=win i:=(wP hx).symm.trans ax.2.1;exact S.stay x hx y (lh (mP hx) (by rw [hw];exact e))
      have st:∀ x y,x∈js->x∉s.pl->win x=win i->Wy ps js (win i) (fun i=>if i∈s.pl then s.mv i else mv i) x y->(y∈js/\(if y∈s.pl then s.w else win y)=win i/\aF ps y<=aF ps i)/\y∉s.pl->Wy ps (jc js s.pl) (win i) mv x y/\(y∈jc js s.pl/\win y=win i/\aF ps y<=aF ps i):=fun x y hx hxn hwx e a=>by
        refine ⟨?_,bS.mpr ⟨a.1.1,a.2⟩,(wR a.2).symm.trans a.1.2.1,a.1.2.2⟩;rcases goR x y hx hxn (by rw [hwx];exact lh (mR hxn) e) with ⟨_,_,z⟩ | ⟨_,z⟩
        · rw [hwx] at z;exact z
        · exact (a.2 z).elim
      exact hp2.imp (fun y e a=>st i y hi h rfl e a) fun x y ax e a=>st x y ax.1.1 ax.2 ((wR ax.2).symm.trans ax.1.2.1) e a
theorem CY {ps:List P4} (win:Int->Int) (mv:Int->Option Int):yW ps [] win mv:=by
  refine ⟨?_,?_,?_,?_,?_⟩ <;> intro i hi <;> cases hi
section
variable {ps:List P4} {js:List Int} (hj:dU ps.length js) (hw:gP ps js) (hown:∀ i∈js,ay ps i=0\/ay ps i=1) {h w:Int} (ew:w=h%2) (hmax:∀ i∈js,aF ps i<=h)
  {tops:List Int} (htop:∀ i,i∈tops<->i∈js/\aF ps i=h) {rk:Int->Option Int} (A:uQ ps js w tops rk) {sub:List Int} (hsub:∀ i,i∈sub<->i∈js/\rk i=none) {win:Int->Int} {mv:Int->Option Int} (I:yW ps sub win mv) (hmv:∀ i,i∉sub->mv i=none)
include hj hw hown ew hmax htop A hsub I hmv
theorem yJ (hne:js≠[]) (hl:∀ i∈sub,win i=w):ix ps js ⟨w,js,fu (fu (nP ps w rk) mv) (fX ps w js)⟩:=by
  have w01:w=0\/w=1:=by omega
  obtain ⟨M,eM⟩:∃ M,M=fu (fu (nP ps w rk) mv) (fX ps w js):=⟨_,rfl⟩
  rw [<- eM]
  -- the move at a place of w
  have own:∀ i∈js,ay ps i=w->∃ g,M i=some g/\g∈aL ps i/\g∈js/\(∀ q,rk i=some q->0 < q->rk g=some (q-1))/\(rk i=none->mv i=some g):=fun i hi ho=>by
    rw [eM];unfold fu;cases hr:rk i with
    | none =>
      have his:=(hsub i).mpr ⟨hi,hr⟩;obtain ⟨g,g1,g2⟩:=I.has i his (by rw [hl i his];exact ho);have gs:=(I.stay i his g (by rw [hl i his];exact .inl ⟨ho,g1⟩)).1;exact ⟨g,by rw [im (.inr (.inl hr)),g1];rfl,g2,((hsub g).mp gs).1,(fun q z=>nomatch z),fun _=>g1⟩
    | some q =>
      by_cases hq:0 < q
      · obtain ⟨g,g1,g2,g3⟩:=w8 A hr hq ho;exact ⟨g,by rw [g1];rfl,fN g2,gG g2,fun q' z _=>by cases z;exact g3,fun z=>by cases z⟩
      · obtain ⟨g,g1,g2⟩:=yM hi ho (hw i hi);have h0:q=0:=by have:=A.nneg i q hr;omega
        have hn:mv i=none:=hmv i fun z=>by have:=((hsub i).mp z).2;rw [hr] at this;cases this
        refine ⟨g,by rw [im (.inr (.inr (by rw [hr,h0]))),hn,g1];rfl,fN g2,gG g2,fun q' z y=>by cases z;omega,fun z=>by cases z⟩
  refine ⟨w01,fun i hi=>hi,hne,fun i hi ho=>?_,fun i hi=>?_,fun i hi g hg=>?_,fun i hi hn=>(hn hi).elim,fun i hi hn=>(hn hi).elim,fun i hi hm hp=>?_⟩
  · obtain ⟨g,g1,g2,_⟩:=own i hi ho;exact ⟨g,g1,g2⟩
  · show M i=none;rw [eM];unfold fu;rw [v8 hi];rcases hi with hi | hi
    · have hr:rk i=none:=by
        cases hr:rk i with
        | none=>rfl
        | some q=>exact (hi (A.sub i q hr)).elim
      rw [im (.inr (.inl hr)),hmv i fun z=>hi ((hsub i).mp z).1];rfl
    · rw [im (.inl hi)];by_cases his:i∈sub
      · rw [I.non i his (by rw [hl i his];exact hi)];rfl
      · rw [hmv i his];rfl
  · show g∈js;rcases hg with ⟨ho,hm⟩ | ⟨_,hm⟩
    · obtain ⟨g',g1,_,g3,_⟩:=own i hi ho;rw [show M i=some g from hm] at g1;cases g1;exact g3
    · exact gG hm
  · -- a bad ring
    have hm':aF ps i%2≠w:=hm;have hlt:aF ps i < h:=by
      have:=hmax i hi;by_cases z:aF ps i=h
      · rw [z] at hm';exact (hm' ew.symm).elim
      · omega
    have dec:∀ x y q,x∈js->aF ps x<=aF ps i->rk x=some q->Wy ps js w M x y->∃ t,rk y=some t/\t < q:=fun x y q hx hmx hq e=>by
      have hpos:0 < q:=by
        have:=A.nneg x q hq;by_cases z:q=0
        · subst z;have:=((htop x).mp ((A.zero x).mp hq)).2;omega
        · omega
      rcases e with ⟨ho,hmv'⟩ | ⟨ho,hmv'⟩
      · obtain ⟨g,g1,_,_,g4,_⟩:=own x hx ho;rw [hmv'] at g1;cases g1;exact ⟨q-1,g4 q hq hpos,by omega⟩
      · exact (A.oth x q hq hpos ho).2 y hmv'
    by_cases hri:rk i=none
    · -- all of it lies in what is left
      have his:=(hsub i).mpr ⟨hi,hri⟩;have hp2:=hp.out (P:=fun x=>∃ q,rk x=some q) (by rintro ⟨q,hq⟩;rw [hri] at hq;cases hq) fun x y ax ⟨q,hq⟩ e _=>by
        obtain ⟨t,ht,_⟩:=dec x y q ax.1 ax.2 hq e;exact ⟨t,ht⟩
      have non:∀ {x},¬ (∃ q,rk x=some q)->rk x=none:=fun {x} z=>by
        cases hr:rk x with
        | none=>rfl
        | some q=>exact (z ⟨q,hr⟩).elim
      refine I.good i his (by rw [hl i his];exact hm') ?_;rw [hl i his];have st:∀ x y,x∈js->rk x=none->Wy ps js w M x y->(y∈js/\aF ps y<=aF ps i)/\¬ (∃ q,rk y=some q)->Wy ps sub w mv x y/\(y∈sub/\win y=w/\aF ps y<=aF ps i):=fun x y hx hrx e a=>by
        have hys:=(hsub y).mpr ⟨a.1.1,non a.2⟩;refine ⟨?_,hys,hl y hys,a.1.2⟩;rcases e with ⟨ho,hmv'⟩ | ⟨ho,hmv'⟩
        · obtain ⟨g,g1,_,_,_,g5⟩:=own x hx ho;rw [hmv'] at g1;cases g1;exact .inl ⟨ho,g5 hrx⟩
        · exact .inr ⟨ho,kS (fN hmv') hys⟩
      exact hp2.imp (fun y e a=>st i y hi hri e a) fun x y ax e a=>st x y ax.1.1 (non ax.2) e a
    · -- ranks fall
      obtain ⟨q0,hq0⟩:∃ q,rk i=some q:=by
        cases hr:rk i with
        | none=>exact (hri hr).elim
        | some q=>exact ⟨q,rfl⟩
      have hp2:=hp.inn (P:=fun x=>x∈js/\aF ps x<=aF ps i/\∃ q,rk x=some q) ⟨hi,Int.le_refl _,q0,hq0⟩ fun x y ⟨hx,hmx,q,hq⟩ e a=>by
        obtain ⟨t,ht,_⟩:=dec x y q hx hmx hq e;exact ⟨a.1,a.2,t,ht⟩
      have fall:∀ x y,x∈js->aF ps x<=aF ps i->(∃ q,rk x=some q)->Wy ps js w M x y->(rk y).getD 0 < (rk x).getD 0:=fun x y hx hmx ⟨q,hq⟩ e=>by
        obtain ⟨t,ht,hlt'⟩:=dec x y q hx hmx hq e;rw [ht,hq];exact hlt'
      have:=hp2.less (φ:=fun x=>(rk x).getD 0) (fun y e _=>fall i y hi (Int.le_refl _) ⟨q0,hq0⟩ e) fun x y ax e _=>by
        have:=fall x y ax.2.1 ax.2.2.1 ax.2.2.2 e;omega
      exact absurd this (Int.lt_irrefl _)
theorem v7 {lost:List Int} (hlost:∀ i,i∈lost<->i∈sub/\win i=1-w) (hne:lost≠[]) {rk2:Int->Option Int} (B:uQ ps js (1-w) lost rk2) {pl:List Int} (hpl:∀ i,i∈pl<->∃ q,rk2 i=some q) :
    ix ps js ⟨1-w,pl,fu (nP ps (1-w) rk2) (fun i=>if i∈lost then mv i else none)⟩:=by
  have w01:w=0\/w=1:=by omega
  obtain ⟨M,eM⟩:∃ M,M=fu (nP ps (1-w) rk2) (fun i=>if i∈lost then mv i else none):=⟨_,rfl⟩
  rw [<- eM];have l0:∀ {i},i∈lost->rk2 i=some 0:=fun {i} hi=>(B.zero i).mpr hi
  have own:∀ i q,rk2 i=some q->ay ps i=1-w->∃ g,M i=some g/\g∈aL ps i/\((0 < q/\rk2 g=some (q-1))\/(q=0/\g∈lost/\mv i=some g)):=fun i q hq ho=>by
    rw [eM];unfold fu;by_cases hp:0 < q
    · obtain ⟨g,g1,g2,g3⟩:=w8 B hq hp ho;exact ⟨g,by rw [g1];rfl,fN g2,.inl ⟨hp,g3⟩⟩
    · have h0:q=0:=by have:=B.nneg i q hq;omega
      have hi:i∈lost:=(B.zero i).mp (by rw [hq,h0]);obtain ⟨hs,hwi⟩:=(hlost i).mp hi;obtain ⟨g,g1,g2⟩:=I.has i hs (by rw [hwi];exact ho);obtain ⟨s1,s2⟩:=I.stay i hs g (by rw [hwi];exact .inl ⟨ho,g1⟩);refine ⟨g,?_,g2,.inr ⟨h0,(hlost g).mpr ⟨s1,s2.trans hwi⟩,g1⟩⟩;rw [im (.inr (.inr (by rw [hq,h0])))];show (if i∈lost then mv i else none)=_;rw [if_pos hi,g1]
  have go:∀ i q g,rk2 i=some q->Wy ps js (1-w) M i g->∃ t,rk2 g=some t/\((t < q)\/(q=0/\t=0/\Wy ps sub (1-w) mv i g)):=fun i q g hq e=>by
    rcases e with ⟨ho,hm⟩ | ⟨ho,hm⟩
    · obtain ⟨g',g1,_,g3⟩:=own i q hq ho;rw [hm] at g1;cases g1;rcases g3 with ⟨z1,z2⟩ | ⟨z1,z2,z3⟩
      · exact ⟨q-1,z2,.inl (by omega)⟩
      · exact ⟨0,l0 z2,.inr ⟨z1,rfl,.inl ⟨ho,z3⟩⟩⟩
    · by_cases hp:0 < q
      · obtain ⟨t,t1,t2⟩:=(B.oth i q hq hp ho).2 g hm;exact ⟨t,t1,.inl t2⟩
      · have h0:q=0:=by have:=B.nneg i q hq;omega
        have hi:i∈lost:=(B.zero i).mp (by rw [hq,h0]);obtain ⟨hs,hwi⟩:=(hlost i).mp hi;obtain ⟨hij,hin⟩:=(hsub i).mp hs;have how:ay ps i=w:=by have:=hown i hij;omega
        have hgs:g∈sub:=(hsub g).mpr ⟨gG hm,A.outO i hij hin how g hm⟩;have wy:Wy ps sub (1-w) mv i g:=.inr ⟨ho,kS (fN hm) hgs⟩;obtain ⟨s1,s2⟩:=I.stay i hs g (by rw [hwi];exact wy);exact ⟨0,l0 ((hlost g).mpr ⟨s1,s2.trans hwi⟩),.inr ⟨h0,rfl,wy⟩⟩
  refine ⟨by show 1-w=0\/1-w=1;omega,fun i hi=>?_,?_,fun i hi ho=>?_,fun i hi=>?_,fun i hi g hg=>?_,fun i hi hn ho g hg hgp=>?_,fun i hi hn ho=>?_,fun i hi hm hp=>?_⟩
  · obtain ⟨q,hq⟩:=(hpl i).mp hi;exact B.sub i q hq
  · obtain ⟨i,hi⟩:=List.exists_mem_of_ne_nil _ hne;exact List.ne_nil_of_mem ((hpl i).mpr ⟨0,l0 hi⟩)
  · obtain ⟨q,hq⟩:=(hpl i).mp hi;obtain ⟨g,g1,g2,_⟩:=own i q hq ho;exact ⟨g,g1,g2⟩
  · show M i=none;rw [eM];unfold fu;rcases hi with hi | hi
    · have hr:rk2 i=none:=by
        cases hr:rk2 i with
        | none=>rfl
        | some q=>exact (hi ((hpl i).mpr ⟨q,hr⟩)).elim
      rw [im (.inr (.inl hr))];show (if i∈lost then mv i else none)=_;rw [if_neg fun z=>by rw [l0 z] at hr;cases hr]
    · rw [im (.inl hi)];show (if i∈lost then mv i else none)=_;by_cases z:i∈lost
      · obtain ⟨hs,hwi⟩:=(hlost i).mp z;rw [if_pos z,I.non i hs (by rw [hwi];exact hi)]
      · rw [if_neg z]
  · obtain ⟨q,hq⟩:=(hpl i).mp hi;obtain ⟨t,ht,_⟩:=go i q g hq hg;exact (hpl g).mpr ⟨t,ht⟩
  · have hr:rk2 i=none:=by
      cases hr:rk2 i with
      | none=>rfl
      | some q=>exact (hn ((hpl i).mpr ⟨q,hr⟩)).elim
    obtain ⟨q,hq⟩:=(hpl g).mp hgp;rw [B.outO i hi hr ho g hg] at hq;cases hq
  · have hr:rk2 i=none:=by
      cases hr:rk2 i with
      | none=>rfl
      | some q=>exact (hn ((hpl i).mpr ⟨q,hr⟩)).elim
    obtain ⟨g,g1,g2⟩:=B.outX i hi hr ho (hw i hi);refine ⟨g,g1,fun z=>?_⟩;obtain ⟨q,hq⟩:=(hpl g).mp z;rw [g2] at hq;cases hq
  · -- a bad ring
    have hi':i∈pl:=hi;have hm':aF ps i%2≠1-w:=hm;obtain ⟨q0,hq0⟩:=(hpl i).mp hi';have le:∀ x y,x∈pl->Wy ps js (1-w) M x y->(rk2 y).getD 0<=(rk2 x).getD 0:=fun x y hx e=>by
      obtain ⟨q,hq⟩:=(hpl x).mp hx;obtain ⟨t,ht,z⟩:=go x q y hq e;rw [hq,ht];show t<=q;omega
    by_cases hz:q0=0
    · subst hz;have hil:i∈lost:=(B.zero i).mp hq0;obtain ⟨his,hwi⟩:=(hlost i).mp hil;have hp2:=hp.inn (P:=fun x=>x∈lost) hil fun x y hx e _=>by
        obtain ⟨t,ht,z⟩:=go x 0 y (l0 hx) e;have:=B.nneg y t ht;have t0:t=0:=by omega
        exact (B.zero y).mp (by rw [ht,t0])
      refine I.good i his (by rw [hwi];exact hm') ?_;rw [hwi];have st:∀ x y,x∈lost->Wy ps js (1-w) M x y->(y∈pl/\aF ps y<=aF ps i)/\y∈lost->Wy ps sub (1-w) mv x y/\(y∈sub/\win y=1-w/\aF ps y<=aF ps i):=fun x y hx e a=>by
        obtain ⟨s1,s2⟩:=(hlost y).mp a.2;refine ⟨?_,s1,s2,a.1.2⟩;obtain ⟨t,ht,z⟩:=go x 0 y (l0 hx) e;have:=B.nneg y t ht;rcases z with z | ⟨_,_,z⟩
        · omega
        · exact z
      exact hp2.imp (fun y e a=>st i y hil e a) fun x y ax e a=>st x y ax.2 e a
    · have:=hp.less (φ:=fun x=>(rk2 x).getD 0) (fun y e _=>by
        obtain ⟨t,ht,z⟩:=go i q0 y hq0 e;show (rk2 y).getD 0 < (rk2 i).getD 0;rw [ht,hq0];show t < q0;omega) fun x y ax e _=>le x y ax.1 e
      exact absurd this (Int.lt_irrefl _)
end
theorem yW.congr {ps:List P4} {js:List Int} {win:Int->Int} {mv mv':Int->Option Int} (h:yW ps js win mv) (e:∀ i∈js,mv' i=mv i):yW ps js win mv':=by
  refine ⟨h.two,fun i hi ho=>by rw [e i hi];exact h.has i hi ho,fun i hi ho=>by rw [e i hi];exact h.non i hi ho,fun i hi g hg=>h.stay i hi g (lh (e i hi) hg),fun i hi hm hp=>h.good i hi hm ?_⟩;exact hp.imp (fun y a b=>⟨lh (e i hi) a,b⟩) fun x y ax a b=>⟨lh (e x ax.1) a,b⟩
theorem uv {f:Int->Option Int} {n:Nat} (hn:n<=1000) {s:PyData} {js:List Int} (hs:qv s js):dl [oT f n,s]=.ok (oT (fun i=>if i∈js then f i else none) n):=by
  have hc:=ud (fe:=zF (tE (e2 (je false) (af 0) (af 2))) (af 1) (eC .none)) (ρ:=[.val s]) (g:=fun i=>oD (f i)) (h:=fun i=>oD (if i∈js then f i else none)) n 0 fun j _ _=>by
    simp only [ss,bO,ba,ak,am,bf,R.ok_bind,hs.inn,bM];cases hm:bV js j with
    | true=>rw [if_pos (bu.mp hm)];rfl
    | false=>rw [if_neg (show ¬ (j:Int)∈js from fun z=>by rw [bu.mpr z] at hm;cases hm)];rfl
  rw [mC] at hc;unfold dl lu;refine dE ?_;rw [show ([oT f n,s].map aT.val++List.replicate (2 - [oT f n,s].length) aT.non)=[.val (oT f n),.val s] from rfl];rw [cH,bT,bt,show aJ 2 [1] [.val (oT f n),.val s]=[.non,.non,.val s] from rfl];simp only [mB,am,R.ok_bind,eh,ce];rw [if_pos (by rw [hR,bJ];exact bQ hn)];rw [show dS 0 (cG (fun i=>oD (f i)) n)=dS 0 ((ids n).map fun i=>oD (f i)) from rfl,hc];rfl
noncomputable def mZ (sub:List Int) (win:Int->Int) (i:Int):Option Int:=if i∈sub then some (win i) else none
section
variable {ps:List P4} (G:Gr ps) {c:Addr} {k:Nat} {js:List Int} (hj:dU ps.length js) (hw:gP ps js) (hne:js≠[]) (hown:∀ i∈js,ay ps i=0\/ay ps i=1)
include G hj hw hne hown
theorem Al (ih:∀ (h:Int) (sub:List Int),dU ps.length sub->gP ps sub->(∀ i∈sub,i∈js/\aF ps i < h)->(∃ i∈js,aF ps i=h)->∃ win mv,aQ c k [gD ps,.tuple (sub.map .int)]=.ok (.tuple [oT (mZ sub win) ps.length,oT mv ps.length])/\yW ps sub win mv/\∀ i,i∉sub->mv i=none) :
    ∃ s,bj c k [gD ps,.tuple (js.map .int)]=.ok (jN c ps.length s)/\ix ps js s/\dU ps.length s.pl:=by
  have hp:=G.hp;have hjl:=hj.len;obtain ⟨h,hmx,htopx,hmax⟩:=yt (ps:=ps) hne;obtain ⟨w,ew⟩:∃ w,w=h%2:=⟨_,rfl⟩
  have w01:w=0\/w=1:=by omega
  obtain ⟨tops,etops⟩:∃ tops,tops=js.filter fun i=>decide (aF ps i=h):=⟨_,rfl⟩
  have htop:∀ i,i∈tops<->i∈js/\aF ps i=h:=fun i=>by rw [etops,List.mem_filter,decide_eq_true_iff]
  have tp:dU ps.length tops:=by rw [etops];exact hj.filter _
  obtain ⟨rk,erk⟩:∃ rk,rk=rK ps js w tops:=⟨_,rfl⟩
  have A:uQ ps js w tops rk:=by rw [erk];exact wz tp.nd (fun x hx=>((htop x).mp hx).1) hj.nd hj.len
  have h1:=oA G.hl G.hgo G.hp (s:=.tuple (js.map .int)) (g:=.list (tops.map .int)) (.inl rfl) (.inr rfl) hj tp (fun x hx=>((htop x).mp hx).1) hw (who:=w);rw [<- erk] at h1;have h2:=nU (f:=rk) (n:=ps.length) (by omega);have h3:=lQ (s:=.tuple (js.map .int)) (t:=.tuple ((kB rk ps.length).map .int)) (.inl rfl) (.inl rfl) (by omega);obtain ⟨sub,esub⟩:∃ sub,sub=jc js (kB rk ps.length):=⟨_,rfl⟩
  have hsub:∀ i,i∈sub<->i∈js/\rk i=none:=fun i=>by
    rw [esub,bS,i9];constructor
    · rintro ⟨a,b⟩;refine ⟨a,?_⟩;cases hr:rk i with
      | none=>rfl
      | some q=>exact (b ⟨hj.inn i a,q,hr⟩).elim
    · rintro ⟨a,b⟩;exact ⟨a,fun ⟨_,q,hq⟩=>by rw [b] at hq;cases hq⟩
  have sp:dU ps.length sub:=by rw [esub];exact hj.filter _
  have sw:gP ps sub:=by
    intro i hi;obtain ⟨a,b⟩:=(hsub i).mp hi;have fin:∀ g∈cb ps js i,rk g=none->∃ g,g∈cb ps sub i:=fun g g1 g2=>⟨g,kS (fN g1) ((hsub g).mpr ⟨gG g1,g2⟩)⟩
    by_cases ho:ay ps i=w
    · obtain ⟨g,hg⟩:=hw i a;exact fin g hg (A.outO i a b ho g hg)
    · obtain ⟨g,g1,g2⟩:=A.outX i a b ho (hw i a);exact fin g g1 g2
  obtain ⟨win,mv,h4,I,hmv⟩:=ih h sub sp sw (fun i hi=>by
    obtain ⟨a,b⟩:=(hsub i).mp hi;refine ⟨a,?_⟩;have:=hmax i a;by_cases z:aF ps i=h
    · have:=(A.zero i).mpr ((htop i).mpr ⟨a,z⟩);rw [b] at this;cases this
    · omega) htopx
  have h5:=ja G (lA A)
  -- the lists
  have hmarks:cg (aU 0) (fun _=>.ok true) (e2 bC (e2 bC (af 1) (af 0)) (eC (.int 1))) [.non,.val (gD ps)] (js.map .int)=.ok ((js.map (aF ps)).map .int):=by
    have go:∀ is:List Int,(∀ x∈is,0<=x/\x < ps.length)->cg (aU 0) (fun _=>.ok true) (e2 bC (e2 bC (af 1) (af 0)) (eC (.int 1))) [.non,.val (gD ps)] (is.map .int)=.ok ((is.map (aF ps)).map .int):=by
      intro is;induction is with
      | nil=>exact fun _=>di ..
      | cons i is ih' =>
        intro hb;obtain ⟨b0,b1⟩:=hb i List.mem_cons_self;rw [List.map_cons,eV,ih' fun x hx=>hb x (List.mem_cons_of_mem _ hx)];simp only [R.ok_bind,if_true,List.set_cons_zero,ba,am,ak,bf,il b0 b1,nS];rw [<- fM b0 b1];rfl
    exact go js hj.inn
  have htops:=cu (t:=tE (e2 (fY) (e2 bC (e2 bC (af 1) (af 0)) (eC (.int 1))) (af 2))) (ρ:=[.val (gD ps),.val (.int h)]) (p:=fun i=>decide (aF ps i=h)) js fun i hi=>by
    obtain ⟨b0,b1⟩:=hj.inn i hi;simp only [List.set_cons_zero,bO,ba,am,ak,bf,R.ok_bind,il b0 b1,nS,dR,bM];rw [<- fM b0 b1]
  rw [<- etops] at htops;obtain ⟨lost,elost⟩:∃ lost,lost=(ids ps.length).filter fun i=>decide (mZ sub win i=some (1-w)):=⟨_,rfl⟩
  have hlost:∀ i,i∈lost<->i∈sub/\win i=1-w:=fun i=>by
    rw [elost,List.mem_filter,decide_eq_true_iff];unfold mZ;constructor
    · rintro ⟨a,b⟩;split at b
      · rename_i z;exact ⟨z,Option.some.inj b⟩
      · cases b
    · rintro ⟨a,b⟩;exact ⟨eR.mpr (sp.inn i a),by rw [if_pos a,b]⟩
  have lp:dU ps.length lost:=by rw [elost];exact (dU.ids _).filter _
  have hlist:=kh (t:=tE (e2 (fY) (af 1) (af 2))) (ρ:=[.val (.int (1-w))]) (p:=fun i=>decide (mZ sub win i=some (1-w))) (g:=fun i=>oD (mZ sub win i)) ps.length 0 fun j _ _=>by
    simp only [bO,ba,ak,am,R.ok_bind,wM,bM]
  rw [mC,<- elost] at hlist;obtain ⟨B,hB⟩:∃ B,B=PyData.tuple [oT (mZ sub win) ps.length,oT mv ps.length]:=⟨_,rfl⟩
  rw [<- hB] at h4;have hB0:bC B (.int 0)=.ok (oT (mZ sub win) ps.length):=by rw [hB];rfl
  have hB1:bC B (.int 1)=.ok (oT mv ps.length):=by rw [hB];rfl
  -- up to the test
  have pre:∀ {r:R PyData},((aR (iI (tE (e2 (fY) (e1 cF (af 8)) (eC (.int 0)))) (aR (bN 9 (aC aN (ah (aC br (ah (af 0) (ah (af 3) (ah (af 6) az)))) (ah (e2 bC (af 7) (eC (.int 1))) az)))) (cj (ua c ["who","places","moves"] (ah (af 3) (ah (af 1) (ah (aC aN (ah (af 9) (ah (aC bK (ah (af 0) (ah (af 3) (ah (af 1) az)))) az))) az)))))) cn) (aR (bN 6 (aC cV (ah (af 0) (ah (af 1) (ah (af 4) (ah (af 8) az)))))) (aR (bN 9 (aC aN (ah (aC br (ah (af 0) (ah (af 4) (ah (af 6) az)))) (ah (aC dl (ah (e2 bC (af 7) (eC (.int 1))) (ah (af 8) az))) az)))) (cj (ua c ["who","places","moves"] (ah (af 4) (ah (aC cJ (ah (af 6) az)) (ah (af 9) az)))))))) [.val (gD ps),.val (.tuple (js.map .int)),.val (.int h),.val (.int w),.val (.int (1-w)),.val (.list (tops.map .int)),.val (oT rk ps.length),.val B,.val (.list (lost.map .int)),.non]>>=CD)=r->bj c k [gD ps,.tuple (js.map .int)]=r:=fun {r} hr=>by
    unfold bj fj;rw [eX,show ([gD ps,.tuple (js.map .int)].map aT.val++List.replicate (10 - [gD ps,.tuple (js.map .int)].length) aT.non)=[.val (gD ps),.val (.tuple (js.map .int)),.non,.non,.non,.non,.non,.non,.non,.non] from rfl];rw [aD (ρ':=[.val (gD ps),.val (.tuple (js.map .int)),.val (.int h),.non,.non,.non,.non,.non,.non,.non]) (by
      rw [bi,bT,bt,show aJ 1 [0] [.val (gD ps),.val (.tuple (js.map .int)),.non,.non,.non,.non,.non,.non,.non,.non]=[.non,.val (gD ps)] from rfl];simp only [ci,am,ak,R.ok_bind,eh,ce];rw [if_pos (by rw [List.length_map];exact bQ (by omega)),hmarks,oY,R.ok_bind,hmx];rfl)]
    rw [aD (ρ':=[.val (gD ps),.val (.tuple (js.map .int)),.val (.int h),.val (.int w),.non,.non,.non,.non,.non,.non]) (by
      simp only [bi,ba,am,ak,bf,R.ok_bind,kg];rw [if_pos (by decide),<- ew];rfl)]
    rw [aD (ρ':=[.val (gD ps),.val (.tuple (js.map .int)),.val (.int h),.val (.int w),.val (.int (1-w)),.non,.non,.non,.non,.non]) (by
      simp only [bi,ba,am,ak,bf,R.ok_bind,zD];rfl)]
    rw [aD (ρ':=[.val (gD ps),.val (.tuple (js.map .int)),.val (.int h),.val (.int w),.val (.int (1-w)),.val (.list (tops.map .int)),.non,.non,.non,.non]) (by
      rw [bi,bt,show aJ 1 [0,2] [.val (gD ps),.val (.tuple (js.map .int)),.val (.int h),.val (.int w),.val (.int (1-w)),.non,.non,.non,.non,.non]=[.non,.val (gD ps),.val (.int h)] from rfl];simp only [ci,am,ak,R.ok_bind,eh,ce];rw [if_pos (by rw [List.length_map];exact bQ (by omega)),htops];rfl)]
    rw [aD (ρ':=[.val (gD ps),.val (.tuple (js.map .int)),.val (.int h),.val (.int w),.val (.int (1-w)),.val (.list (tops.map .int)),.val (oT rk ps.length),.non,.non,.non]) (by
      simp only [bi,aO,av,aA,am,ak,R.ok_bind,h1];rfl)]
    rw [aD (ρ':=[.val (gD ps),.val (.tuple (js.map .int)),.val (.int h),.val (.int w),.val (.int (1-w)),.val (.list (tops.map .int)),.val (oT rk ps.length),.val B,.non,.non]) (by
      simp only [bi,aO,av,aA,am,ak,R.ok_bind,h2,h3];rw [show (js.filter fun i=>!bV (kB rk ps.length) i)=sub from esub.symm,h4];rfl)]
    rw [aD (ρ':=[.val (gD ps),.val (.tuple (js.map .int)),.val (.int h),.val (.int w),.val (.int (1-w)),.val (.list (tops.map .int)),.val (oT rk ps.length),.val B,.val (.list (lost.map .int)),.non]) (by
      rw [bi,bt,show aJ 2 [4] [.val (gD ps),.val (.tuple (js.map .int)),.val (.int h),.val (.int w),.val (.int (1-w)),.val (.list (tops.map .int)),.val (oT rk ps.length),.val B,.non,.non]=[.non,.non,.val (.int (1-w))] from rfl];simp only [mB,ba,am,ak,bf,R.ok_bind,hB0,eh,ce];rw [if_pos (by rw [hR,bJ];exact bQ (by omega))];rw [show dS 0 (cG (fun i=>oD (mZ sub win i)) ps.length)=dS 0 ((ids ps.length).map fun i=>oD (mZ sub win i)) from rfl,hlist];rfl)]
    exact hr
  by_cases hl:lost=[]
  · have hall:∀ i∈sub,win i=w:=fun i hi=>by
      by_cases z:win i=1-w
      · have:=(hlost i).mpr ⟨hi,z⟩;rw [hl] at this;cases this
      · have:=I.two i hi;omega
    have S:=yJ hj hw hown ew hmax htop A hsub I hmv hne hall;have h6:=nZ G (who:=w) (s:=.tuple (js.map .int)) (.inl rfl) hj fun i hi _=>hw i hi
    refine ⟨_,pre ?_,S,hj⟩;rw [io (d:=jN c ps.length ⟨w,js,fu (fu (nP ps w rk) mv) (fX ps w js)⟩) ?_]
    · rfl
    · rw [bZ,bO,ba,bT];simp only [am,ak,bf,R.ok_bind,hl,List.map_nil,nG,List.length_nil,dR,bM];rw [if_pos (by decide)];rw [aD (ρ':=[.val (gD ps),.val (.tuple (js.map .int)),.val (.int h),.val (.int w),.val (.int (1-w)),.val (.list (tops.map .int)),.val (oT rk ps.length),.val B,.val (.list []),.val (oT (fu (nP ps w rk) mv) ps.length)]) (by
        simp only [bi,aO,av,aA,ba,bf,am,ak,R.ok_bind,h5,hB1,oX (show ps.length<=1000 by omega)];rfl)]
      unfold ua;simp only [cH,aO,av,aA,am,ak,R.ok_bind,h6,oX (show ps.length<=1000 by omega)];rfl
  · obtain ⟨rk2,erk2⟩:∃ rk2,rk2=rK ps js (1-w) lost:=⟨_,rfl⟩
    have lsub:∀ x∈lost,x∈js:=fun x hx=>((hsub x).mp ((hlost x).mp hx).1).1
    have B2:uQ ps js (1-w) lost rk2:=by rw [erk2];exact wz lp.nd lsub hj.nd hj.len
    have g1:=oA G.hl G.hgo G.hp (s:=.tuple (js.map .int)) (g:=.list (lost.map .int)) (.inl rfl) (.inr rfl) hj lp lsub hw (who:=1-w);rw [<- erk2] at g1;have g2:=nU (f:=rk2) (n:=ps.length) (by omega);have g3:=ja G (lA B2);have g4:=uv (f:=mv) (n:=ps.length) (by omega) (s:=.list (lost.map .int)) (js:=lost) (.inr rfl);have S:=v7 hj hw hown ew hmax htop A hsub I hmv hlost hl B2 (pl:=kB rk2 ps.length) fun i=>by
      rw [i9];exact ⟨fun z=>z.2,fun ⟨q,hq⟩=>⟨hj.inn i (B2.sub i q hq),q,hq⟩⟩
    have hlen:¬ (lost.length:Int)=0:=by
      have:=List.length_pos_iff.mpr hl;omega
    refine ⟨_,pre ?_,S,qc _ _⟩;rw [aD (ρ':=[.val (gD ps),.val (.tuple (js.map .int)),.val (.int h),.val (.int w),.val (.int (1-w)),.val (.list (tops.map .int)),.val (oT rk ps.length),.val B,.val (.list (lost.map .int)),.non]) (by
      rw [bZ,bO,ba,bT];simp only [am,ak,bf,R.ok_bind,nG,List.length_map,dR,bM,decide_eq_false hlen];rfl)]
    rw [aD (ρ':=[.val (gD ps),.val (.tuple (js.map .int)),.val (.int h),.val (.int w),.val (.int (1-w)),.val (.list (tops.map .int)),.val (oT rk2 ps.length),.val B,.val (.list (lost.map .int)),.non]) (by
      simp only [bi,aO,av,aA,am,ak,R.ok_bind,g1];rfl)]
    rw [aD (ρ':=[.val (gD ps),.val (.tuple (js.map .int)),.val (.int h),.val (.int w),.val (.int (1-w)),.val (.list (tops.map .int)),.val (oT rk2 ps.length),.val B,.val (.list (lost.map .int)),.val (oT (fu (nP ps (1-w) rk2) fun i=>if i∈lost then mv i else none) ps.length)]) (by
      simp only [bi,aO,av,aA,ba,bf,am,ak,R.ok_bind,g3,hB1,g4,oX (show ps.length<=1000 by omega)];rfl)]
    unfold ua;simp only [cH,aO,av,aA,am,ak,R.ok_bind,g2];rfl
end
noncomputable def wZ (c:Addr) (k:Nat):Fs:=(aR (bN 4 (aC (bj c k) (ah (af 0) (ah (af 3) az)))) (aR (eB 2 (af 4)) (bN 3 (aC aV (ah (af 3) (ah (e1 (lD c "places") (af 4)) az))))))
noncomputable abbrev lR (ps:List P4) (c:Addr) (s:PyData) (acc:List Sh) (js:List Int) (c4:aT):aW :=
  [.val (gD ps),.val s,.own (.list (acc.map (jN c ps.length))),.val (.tuple (js.map .int)),c4]
theorem Dl {ps:List P4} (G:Gr ps) {c:Addr} {kk:Nat} {s0:PyData} {Pm:Int->Prop} (hown:∀ i,Pm i->ay ps i=0\/ay ps i=1) (hS:∀ js,dU ps.length js->gP ps js->js≠[]->(∀ i∈js,Pm i)->∃ s,bj c kk [gD ps,.tuple (js.map .int)]=.ok (jN c ps.length s)/\ix ps js s/\dU ps.length s.pl) :
    ∀ (k n:Nat) (js:List Int) (acc:List Sh) (c4:aT),dU ps.length js->gP ps js->(∀ i∈js,Pm i)->js.length<=k->k+1<=n->acc.length+k<=1000 ->
    ∃ l c4' win mv,cW (tE (e2 (dW lT) (e1 cF (af 3)) (eC (.int 0)))) (wZ c kk) n (lR ps c s0 acc js c4)=.ok (.nx (lR ps c s0 (acc++l) [] c4'))/\(∀ f i,oE f l i=if i∈js then some (win i) else f i)/\(∀ m i,(i∈js->m i=none)->uw m l i=if i∈js then mv i else m i)/\yW ps js win mv/\∀ s∈l,∀ x∈s.pl,0<=x/\x < ps.length
  | k,0,js,acc,c4,_,_,_,_,h,_=>by omega
  | k,n+1,js,acc,c4,hj,hw,hm,hk,hn,hz=>by
    have hp:=G.hp;rw [mY];have ht:tE (e2 (dW lT) (e1 cF (af 3)) (eC (.int 0))) (lR ps c s0 acc js c4)=.ok (decide (0 < js.length)):=by
      simp only [bO,ba,bT,ak,am,bf,R.ok_bind,nH,jt,bM,List.length_map];congr 1;simp
    rw [ht,R.ok_bind];by_cases h0:js=[]
    · subst h0;refine ⟨[],c4,fun _=>0,fun _=>none,by rw [List.append_nil];rfl,fun f i=>by simp [oE],fun m i _=>by simp [uw],CY _ _,fun s hs=>by cases hs⟩
    · have hpos:=List.length_pos_iff.mpr h0;rw [if_pos (decide_eq_true hpos)];cases k with
      | zero=>omega
      | succ k =>
        obtain ⟨s,h1,S,sp⟩:=hS js hj hw h0 hm;have hl:(jc js s.pl).length < js.length:=by
          obtain ⟨i,hi⟩:=List.exists_mem_of_ne_nil _ S.ne;refine Nat.lt_of_le_of_ne (List.length_filter_le ..) fun z=>?_
          have:=(iS _ js).mp z i (S.sub i hi);rw [bu.mpr hi] at this;cases this
        obtain ⟨l,c4',win,mv,e,q1,q2,I,q3⟩:=Dl G hown hS k n (jc js s.pl) (acc++[s]) (.val (jN c ps.length s)) (hj.filter _) (S.whole hw) (fun i hi=>hm i (bS.mp hi).1) (by omega) (by omega) (by simp;omega);have h2:=lQ (s:=.tuple (js.map .int)) (t:=.tuple (s.pl.map .int)) (.inl rfl) (.inl rfl) (by have:=hj.len;omega);have hb:wZ c kk (lR ps c s0 acc js c4)=.ok (.nx (lR ps c s0 (acc++[s]) (jc js s.pl) (.val (jN c ps.length s)))):=by
          unfold wZ;rw [aD (ρ':=lR ps c s0 acc js (.val (jN c ps.length s))) (by
            simp only [bi,aO,av,aA,am,ak,R.ok_bind,h1];rfl)]
          rw [aD (ρ':=lR ps c s0 (acc++[s]) js (.val (jN c ps.length s))) (by
            rw [kN (ds:=acc.map (jN c ps.length)) (af 4) rfl (Nat.lt_of_lt_of_le (show _ < 1001 by rw [List.length_map];omega) (by decide))];simp -implicitDefEqProofs only [am,ak,ce,R.ok_bind];rw [show acc.map (jN c ps.length)++[jN c ps.length s]=(acc++[s]).map (jN c ps.length) by simp];rfl)]
          simp only [bi,aO,av,aA,bT,am,ak,R.ok_bind,pH,h2];rfl
        refine ⟨s::l,c4',fun i=>if i∈s.pl then s.w else win i,fun i=>if i∈s.pl then s.mv i else mv i,?_,fun f i=>?_,fun m i hmi=>?_,Bb (fun i hi=>hown i (hm i hi)) S I,fun t ht' x hx=>?_⟩
        · rw [hb,R.ok_bind,dz,e];simp
        · show oE (A9 s f) l i=_;rw [q1];by_cases hi:i∈js
          · rw [if_pos hi];dsimp only;by_cases hs:i∈s.pl
            · rw [if_neg fun z=>(bS.mp z).2 hs,if_pos hs];exact if_pos hs
            · rw [if_pos (bS.mpr ⟨hi,hs⟩),if_neg hs]
          · rw [if_neg fun z=>hi (bS.mp z).1,if_neg hi];exact if_neg fun z=>hi (S.sub i z)
        · show uw (fu m s.mv) l i=_;rw [q2 (fu m s.mv) i fun z=>by
            obtain ⟨z1,z2⟩:=bS.mp z;show (m i).or _=none;rw [hmi z1,Option.none_or,S.non i (.inl z2)]]
          by_cases hi:i∈js
          · rw [if_pos hi];dsimp only;by_cases hs:i∈s.pl
            · rw [if_neg fun z=>(bS.mp z).2 hs,if_pos hs];show (m i).or _=_;rw [hmi hi,Option.none_or]
            · rw [if_pos (bS.mpr ⟨hi,hs⟩),if_neg hs]
          · rw [if_neg fun z=>hi (bS.mp z).1,if_neg hi];show (m i).or _=_;rw [S.non i (.inl fun z=>hi (S.sub i z)),Option.or_none]
        · rcases List.mem_cons.mp ht' with rfl | z
          · exact sp.inn x hx
          · exact q3 t z x hx
theorem rA {ps:List P4} (G:Gr ps) {c:Addr} {k:Nat} {Pm:Int->Prop} (hown:∀ i,Pm i->ay ps i=0\/ay ps i=1) (hS:∀ js,dU ps.length js->gP ps js->js≠[]->(∀ i∈js,Pm i)->∃ s,bj c k [gD ps,.tuple (js.map .int)]=.ok (jN c ps.length s)/\ix ps js s/\dU ps.length s.pl) {js:List Int} (hj:dU ps.length js) (hw:gP ps js) (hm:∀ i∈js,Pm i) :
    ∃ win mv,aQ c (k+1) [gD ps,.tuple (js.map .int)]=.ok (.tuple [oT (mZ js win) ps.length,oT mv ps.length])/\yW ps js win mv/\∀ i,i∉js->mv i=none:=by
  have hp:=G.hp;have hjl:=hj.len;obtain ⟨l,c4,win,mv,e,q1,q2,I,q3⟩:=Dl G (c:=c) (s0:=.tuple (js.map .int)) hown hS js.length 1000000 js [] .non hj hw hm (Nat.le_refl _) (by omega) (by simp;omega);rw [List.nil_append] at e;have h3:=G1 (ps:=ps) (by omega) (c:=c) q3;have e1':oT (oE (fun _=>none) l) ps.length=oT (mZ js win) ps.length:=congrArg PyData.tuple (dk fun i _ _=>by rw [q1];rfl);have e2':oT (uw (fun _=>none) l) ps.length=oT (fun i=>if i∈js then mv i else none) ps.length:=congrArg PyData.tuple (dk fun i _ _=>by rw [q2 _ i fun _=>rfl]);rw [e1',e2'] at h3;refine ⟨win,fun i=>if i∈js then mv i else none,?_,I.congr fun i hi=>if_pos hi,fun i hi=>if_neg hi⟩;show dP 5 (fq (bj c k) (bo c) aV c) _=_;unfold fq;refine dE ?_;rw [show ([gD ps,.tuple (js.map .int)].map aT.val++List.replicate (5 - [gD ps,.tuple (js.map .int)].length) aT.non)=[.val (gD ps),.val (.tuple (js.map .int)),.non,.non,.non] from rfl];rw [aD (ρ':=[.val (gD ps),.val (.tuple (js.map .int)),.own (.list []),.non,.non]) (by rfl)];rw [aD (ρ':=lR ps c (.tuple (js.map .int)) [] js .non) (by rfl)];rw [aD (ρ':=lR ps c (.tuple (js.map .int)) l [] c4) (by
    rw [eS];show lf (cW (tE (e2 (dW lT) (e1 cF (af 3)) (eC (.int 0)))) (wZ c k) 1000000 _)=_;rw [e];rfl)]
  unfold Hn;show cj _ ((lR ps c (.tuple (js.map .int)) l [] c4).set 2 (.val (.list (l.map (jN c ps.length)))))=_;simp only [List.set_cons_succ,List.set_cons_zero,cH,aO,av,aA,am,ak,R.ok_bind,h3]
theorem rz {ps:List P4} (G:Gr ps) {c:Addr}:∀ (k:Nat) (js:List Int),dU ps.length js->gP ps js->(∀ i∈js,(ay ps i=0\/ay ps i=1)/\0<=aF ps i/\aF ps i < k) ->
    ∃ win mv,aQ c (k+1) [gD ps,.tuple (js.map .int)]=.ok (.tuple [oT (mZ js win) ps.length,oT mv ps.length])/\yW ps js win mv/\∀ i,i∉js->mv i=none
  | 0,js,hj,hw,hm=>rA G (c:=c) (Pm:=fun i=>(ay ps i=0\/ay ps i=1)/\0<=aF ps i/\aF ps i < (0:Nat)) (fun i h=>h.1) (fun js' _ _ hne h=>by
      obtain ⟨i,hi⟩:=List.exists_mem_of_ne_nil _ hne;have:=(h i hi).2;omega) hj hw hm
  | k+1,js,hj,hw,hm=>rA G (c:=c) (Pm:=fun i=>(ay ps i=0\/ay ps i=1)/\0<=aF ps i/\aF ps i < ((k+1:Nat):Int)) (fun i h=>h.1) (fun js' hj' hw' hne h=>Al G hj' hw' hne (fun i hi=>(h i hi).1) fun hh sub sp sw hs ⟨i0,hi0,e0⟩=>rz G k sub sp sw fun i hi=>by
      obtain ⟨a,b⟩:=hs i hi;have h1:=h i a;have h2:=(h i0 hi0).2.2;exact ⟨h1.1,h1.2.1,by omega⟩) hj hw hm
theorem E7 {ps:List P4} (G:Gr ps) (hw:gP ps (ids ps.length)) {c:Addr} (hm:∀ i∈ids ps.length,(ay ps i=0\/ay ps i=1)/\0<=aF ps i/\aF ps i < 13) :
    ∃ win mv,lV c [gD ps]=.ok (.tuple [oT (fun i=>some (win i)) ps.length,oT mv ps.length])/\yW ps (ids ps.length) win mv/\∀ i,i∉ids ps.length->mv i=none:=by
  obtain ⟨win,mv,e,I,q⟩:=rz G (c:=c) 13 (ids ps.length) (dU.ids _) hw hm;refine ⟨win,mv,?_,I,q⟩;have h2:=qw (ps:=ps) (by have:=G.hp;omega);have e':oT (mZ (ids ps.length) win) ps.length=oT (fun i=>some (win i)) ps.length:=congrArg PyData.tuple (dk fun i h0 h1=>by unfold mZ;rw [if_pos (eR.mpr ⟨h0,h1⟩)]);rw [e'] at e;unfold lV zb;refine dE ?_;rw [show ([gD ps].map aT.val++List.replicate (1 - [gD ps].length) aT.non)=[.val (gD ps)] from rfl];simp only [cH,aO,av,aA,am,R.ok_bind,h2,e]
noncomputable def oS (ps:List P4) (i:Int):PyData:=(ps[i.toNat]?.map P4.d).getD .none
theorem zO (ps:List P4):ps.map P4.d=cG (oS ps) ps.length:=by
  refine List.ext_getElem (by rw [List.length_map,bJ]) fun k h1 h2=>?_
  rw [bJ] at h2;have e:=gZ (f:=oS ps) (n:=ps.length) (i:=(k:Int)) (by omega) (by omega);simp only [Int.toNat_natCast] at e;rw [e,List.getElem_map];unfold oS;rw [List.getElem?_eq_getElem (by omega)];simp
theorem Dr {ps:List P4} {i:Int} (h0:0<=i) (h1:i < ps.length):bC (oS ps i) (.int 0)=.ok (.int (ay ps i)):=by
  unfold oS;rw [List.getElem?_eq_getElem (show i.toNat < ps.length by omega),fH h0 h1];rfl
noncomputable abbrev Bc:Str:=PySem.Str.ofString "NoMoves"
noncomputable abbrev Bd:Str:=PySem.Str.ofString "NoPart"
theorem vD {d:PyData} (hg:eU d) (p:P4):eK [d,p.d]=.ok (.bool (Do p.ns d)):=by
  unfold eK nu;rw [eX];have hw:=qg hg.noD;cases d with
  | none=>simp [mm,gr,Do]
  | int i=>simp [mm,gr,Do,hw,FX,lL,FW]
  | dict k=>exact hg.noD.elim
  | _=>simp [mm,gr,Do,hw,FX]
theorem pU (x y:aT):∀ (ds:List PyData) (ps:List P4),(∀ d∈ds,eU d)->cg (eF 0 1) (fun _=>.ok true) (aC eK (ah (af 0) (ah (af 1) az))) [x,y] (jR ds (ps.map P4.d))=.ok ((ds.zip ps).map fun q=>.bool (Do q.2.ns q.1))
  | [],ps,_=>by unfold jR;simp [di]
  | d::ds,[],_=>by unfold jR;simp [di]
  | d::ds,p::ps,h=>by
    have e:jR (d::ds) ((p::ps).map P4.d)=.tuple [d,p.d]::jR ds (ps.map P4.d):=rfl;rw [e,jr,pU x y ds ps fun z hz=>h z (List.mem_cons_of_mem _ hz)];simp [vD (h d List.mem_cons_self) p]
theorem all_map {α:Type} (p:α->Bool):∀ l:List α,D2.tP (l.map fun a=>.bool (p a))=some (l.all p)
  | []=>rfl
  | a::l=>by simp only [List.map_cons,D2.tP,all_map p l,List.all_cons,Option.map_some]
theorem l9 {d:PyData} (hg:eU d) {ps:List P4} (hl:ps.length<=24):dI [d,gD ps]=.ok (.bool (jA ps d)):=by
  unfold dI jU;rw [eX];cases d with
  | tuple ds =>
    have h:=eA.mp hg;by_cases hq:ds.length=ps.length
    · have hs:(jR ds (ps.map P4.d)).length<=sizeLine:=by rw [kE];exact bQ (by omega)
      have hc:=pU .non .non ds ps h;simp [k6,Dj,wH,hq,bt,hs,aJ,List.replicate,hc,BE,all_map,jA]
    · have hq':¬ ((ds.length:Int)=(ps.length:Int)):=by omega
      simp [k6,Dj,wH,hq',hq,jA]
  | dict k=>exact hg.noD.elim
  | _=>simp [k6,Dj,jA]
theorem xm {n d e:Nat} (h:e<=n):HT.sIx n d (some (e:Int))=e:=by
  unfold HT.sIx;have h0:¬ ((e:Nat):Int) < 0:=by omega
  simp only [h0,if_false];simp;omega
theorem uF (n d:Nat):HT.sIx n d none=d:=by
  unfold HT.sIx;rfl
theorem DU {ds:List PyData} {e:Nat} (h:e<=ds.length):D2.ml ds (some (e:Int)) none=ds.drop e:=by
  unfold D2.ml;rw [xm h,uF];rw [List.take_of_length_le (by rw [List.length_drop];omega)]
theorem zX (k m:Nat):k8 k (m+1)=k8 k m++[((k+m:Nat):Int)]:=by
  unfold k8;rw [List.range_succ,List.map_append];rfl
noncomputable def vj (ps:List P4) (who:Int) (dr:Int->Int) (share:Int) (i:Int):Option Int:=if ay ps i≠who\/(0 < share/\dr i%share=0) then none else (aL ps i)[(dr i / 7%((aL ps i).length:Int)).toNat]?
noncomputable def Ha:Fs:=(aR (bN 7 (aC aG (ah (af 2) (ah (af 5) az)))) (iI (oU (tE (e2 (nh) (e2 bC (af 6) (eC (.int 0))) (af 1))) (ip (tE (e2 (dW lT) (af 3) (eC (.int 0)))) (tE (e2 (fY) (e2 da (af 7) (af 3)) (eC (.int 0)))))) (eB 4 (eC .none)) (eB 4 (e2 bC (e2 bC (af 6) (eC (.int 3))) (e2 da (e2 fS (af 7) (eC (.int 7))) (e1 cF (e2 bC (af 6) (eC (.int 3)))))))))
theorem F4 {ps:List P4} {i:Int} (h0:0<=i) (h1:i < ps.length):bC (oS ps i) (.int 3)=.ok (.tuple ((aL ps i).map .int)):=by
  unfold oS;rw [List.getElem?_eq_getElem (show i.toNat < ps.length by omega),du h0 h1];rfl
noncomputable abbrev xY (ps:List P4) (who num share:Int) (acc:List PyData) (c5 c6 c7:aT):aW:=[.val (gD ps),.val (.int who),.val (.int num),.val (.int share),.own (.list acc),c5,c6,c7]
section
variable {ps:List P4} (hne:∀ i∈ids ps.length,aL ps i≠[]) {who num share:Int} {dr:Int->Int} (hdr:∀ k,aG [.int num,.int k]=.ok (.int (dr k)))
include hne hdr
theorem DS {acc:List PyData} (ha:acc.length<=1000) {i:Int} (h0:0<=i) (h1:i < ps.length) (c7:aT) :
    Ha (xY ps who num share acc (.val (.int i)) (.val (oS ps i)) c7)=.ok (.nx (xY ps who num share (acc++[oD (vj ps who dr share i)]) (.val (.int i)) (.val (oS ps i)) (.val (.int (dr i))))):=by
  have hg:=hne i (eR.mpr ⟨h0,h1⟩);have hpos:0 < ((aL ps i).length:Int):=by
    have:=List.length_pos_iff.mpr hg;omega
  have a0:=Int.emod_nonneg (dr i / 7) (show ((aL ps i).length:Int)≠0 by omega);have a1:=Int.emod_lt_of_pos (dr i / 7) hpos;have hz:acc.length < sizeLine:=Nat.lt_of_lt_of_le (show acc.length < 1001 by omega) (by decide);unfold Ha;rw [aD (ρ':=xY ps who num share acc (.val (.int i)) (.val (oS ps i)) (.val (.int (dr i)))) (by
    simp only [bi,aO,av,aA,ak,am,R.ok_bind,hdr];rfl)]
  have ap:∀ f d,f (xY ps who num share acc (.val (.int i)) (.val (oS ps i)) (.val (.int (dr i))))=.ok d->eB 4 f (xY ps who num share acc (.val (.int i)) (.val (oS ps i)) (.val (.int (dr i))))=.ok (.nx (xY ps who num share (acc++[d]) (.val (.int i)) (.val (oS ps i)) (.val (.int (dr i))))):=fun f d e=>by
    rw [kN (ds:=acc) f rfl hz,e];rfl
  have hix:=qP (xs:=(aL ps i).map PyData.int) (i:=dr i / 7%((aL ps i).length:Int)) a0 (by simpa using a1);have hv:(e2 bC (e2 bC (af 6) (eC (.int 3))) (e2 da (e2 fS (af 7) (eC (.int 7))) (e1 cF (e2 bC (af 6) (eC (.int 3)))))) (xY ps who num share acc (.val (.int i)) (.val (oS ps i)) (.val (.int (dr i))))=.ok (.int ((aL ps i)[(dr i / 7%((aL ps i).length:Int)).toNat]'(by omega))):=by
    simp only [bT,ba,ak,am,bf,R.ok_bind,F4 h0 h1,nH,List.length_map,sj];rw [if_pos (by decide),R.ok_bind,kg,if_pos hpos,R.ok_bind,hix];simp
  unfold vj;rw [bZ];simp only [sP,kD,bO,ba,ak,am,bf,R.ok_bind,Dr h0 h1,wH,bM,jt];by_cases ho:ay ps i=who
  · rw [decide_eq_true ho];by_cases hs:0 < share
    · simp only [Bool.not_true,if_false,Bool.false_eq_true];rw [show lT share 0=true from decide_eq_true hs,if_pos rfl,kg,if_pos hs,R.ok_bind,dR,R.ok_bind,bM,R.ok_bind];by_cases hd:dr i%share=0
      · rw [decide_eq_true hd,if_pos rfl,if_pos (.inr ⟨hs,hd⟩)];exact ap _ _ rfl
      · rw [decide_eq_false hd,if_neg (by simp),if_neg (by rintro (z | z);exact z ho;exact hd z.2),List.getElem?_eq_getElem (by omega)];exact ap _ _ hv
    · simp only [Bool.not_true,if_false,Bool.false_eq_true];rw [show lT share 0=false from decide_eq_false hs,if_neg (by simp),R.ok_bind,if_neg (by simp),if_neg (by rintro (z | z);exact z ho;exact hs z.1),List.getElem?_eq_getElem (by omega)];exact ap _ _ hv
  · rw [decide_eq_false ho,if_pos (show ay ps i≠who\/(0 < share/\dr i%share=0) from .inl ho)];simp only [Bool.not_false,if_true,R.ok_bind];exact ap _ _ rfl
theorem wD (hp:ps.length<=24):∀ (m k:Nat) (c5 c6 c7:aT),k+m=ps.length ->
    ∃ c5' c6' c7',fT (eF 5 6) Ha (dS k ((k8 k m).map (oS ps))) (xY ps who num share ((k8 0 k).map fun i=>oD (vj ps who dr share i)) c5 c6 c7)=.ok (.nx (xY ps who num share ((k8 0 (k+m)).map fun i=>oD (vj ps who dr share i)) c5' c6' c7'))
  | 0,k,c5,c6,c7,_=>⟨c5,c6,c7,by rw [show k8 k 0=[] from rfl];simp [dS]⟩
  | m+1,k,c5,c6,c7,hk=>by
    have e:=DS hne hdr (who:=who) (share:=share) (acc:=(k8 0 k).map fun i=>oD (vj ps who dr share i)) (by rw [List.length_map];unfold k8;rw [List.length_map,List.length_range];omega) (i:=(k:Int)) (by omega) (by omega) c7;obtain ⟨c5',c6',c7',e'⟩:=wD hp m (k+1) (.val (.int k)) (.val (oS ps k)) (.val (.int (dr k))) (by omega);refine ⟨c5',c6',c7',?_⟩;rw [pK,List.map_cons];rw [show dS k (oS ps k::(k8 (k+1) m).map (oS ps))=.tuple [.int k,oS ps k]::dS (k+1) ((k8 (k+1) m).map (oS ps)) from rfl,yf];rw [show ((xY ps who num share ((k8 0 k).map fun i=>oD (vj ps who dr share i)) c5 c6 c7).set 5 (.val (.int k))).set 6 (.val (oS ps k))=xY ps who num share ((k8 0 k).map fun i=>oD (vj ps who dr share i)) (.val (.int k)) (.val (oS ps k)) c7 from rfl];rw [e,R.ok_bind,dz];rw [show ((k8 0 k).map fun i=>oD (vj ps who dr share i))++[oD (vj ps who dr share k)]=(k8 0 (k+1)).map fun i=>oD (vj ps who dr share i) by
      rw [zX,List.map_append];simp]
    rw [e',show k+1+m=k+(m+1) by omega]
end
theorem xZ {ps:List P4} (hp:ps.length<=24) (hne:∀ i∈ids ps.length,aL ps i≠[]) (who num share:Int):∃ f:Int->Option Int,cO [gD ps,.int who,.int num,.int share]=.ok (oT f ps.length)/\(∀ i g,f i=some g->g∈aL ps i)/\(∀ i,ay ps i≠who->f i=none)/\(share=0->∀ i∈ids ps.length,ay ps i=who->∃ g,f i=some g):=by
  have hx:∀ k:Int,∃ v,aG [.int num,.int k]=.ok (.int v):=fun k=>let ⟨v,h,_⟩:=mx num k;⟨v,h⟩
  obtain ⟨dr,hdr⟩:∃ dr:Int->Int,∀ k,aG [.int num,.int k]=.ok (.int (dr k)):=⟨fun k=>(hx k).choose,fun k=>(hx k).choose_spec⟩
  refine ⟨vj ps who dr share,?_,fun i g h=>?_,fun i h=>if_pos (.inl h),fun hs i hi ho=>?_⟩
  · obtain ⟨c5,c6,c7,e⟩:=wD hne hdr (who:=who) (share:=share) hp ps.length 0 .non .non .non (by omega);unfold cO jh;refine dE ?_;rw [show ([gD ps,.int who,.int num,.int share].map aT.val++List.replicate (8 - [gD ps,.int who,.int num,.int share].length) aT.non)=[.val (gD ps),.val (.int who),.val (.int num),.val (.int share),.non,.non,.non,.non] from rfl];rw [aD (ρ':=xY ps who num share [] .non .non .non) (by rfl)];rw [aD (ρ':=xY ps who num share ((k8 0 (0+ps.length)).map fun i=>oD (vj ps who dr share i)) c5 c6 c7) (by
      rw [eS,fE,mB];simp only [am,R.ok_bind,eh];rw [zO,show cG (oS ps) ps.length=(k8 0 ps.length).map (oS ps) by rw [mC];rfl];unfold Ha at e;rw [show (k8 0 0).map (fun i=>oD (vj ps who dr share i))=[] from rfl] at e;rw [e];rfl)]
    rw [cH,bT];simp only [kJ,kI,R.ok_bind,t6];rw [Nat.zero_add,mC];rfl
  · unfold vj at h;split at h
    · cases h
    · exact List.mem_of_getElem? h
  · have hg:=hne i hi;have hpos:0 < ((aL ps i).length:Int):=by
      have:=List.length_pos_iff.mpr hg;omega
    have a1:=Int.emod_lt_of_pos (dr i / 7) hpos;have a0:=Int.emod_nonneg (dr i / 7) (show ((aL ps i).length:Int)≠0 by omega);refine ⟨(aL ps i)[(dr i / 7%((aL ps i).length:Int)).toNat]'(by omega),?_⟩;unfold vj;rw [if_neg (by rintro (z | z);exact z ho;omega)];exact List.getElem?_eq_getElem (by omega)
noncomputable def vN:Option Int->PyData
  | some i=>.int i
  | none=>.none
noncomputable abbrev mD (mv:List (Option Int)):PyData:=.tuple (mv.map vN)
noncomputable def kr (mv:List (Option Int)) (i:Int):Option Int:=(mv[i.toNat]?).getD none
theorem Dk {mv:List (Option Int)} {i:Int} (h0:0<=i) (h1:i < mv.length):bC (mD mv) (.int i)=.ok (vN (kr mv i)):=by
  rw [qP h0 (by simpa using h1)];unfold kr;rw [List.getElem?_eq_getElem (by omega)];simp
noncomputable def df (ps:List P4) (who:Int) (mv:List (Option Int)) (i:Int):List Int:=if ay ps i=who then (kr mv i).toList else aL ps i
theorem sQ {ps:List P4} {mv:List (Option Int)} {who i:Int} (h0:0<=i) (h1:i < ps.length) (hm:mv.length=ps.length):bI [gD ps,.int who,mD mv,.int i]=.ok (.list ((df ps who mv i).map .int)):=by
  have ho:=fH h0 h1;have hg:=du h0 h1;have hix:=il h0 h1;have hmx:=Dk (mv:=mv) h0 (by omega);unfold bI ls;refine dE ?_;rw [show ([gD ps,.int who,mD mv,.int i].map aT.val++List.replicate (4 - [gD ps,.int who,mD mv,.int i].length) aT.non)=[.val (gD ps),.val (.int who),.val (mD mv),.val (.int i)] from rfl];unfold df;have s1:(1:Nat)<=sizeLine:=by decide
  by_cases hw:ay ps i=who
  · rw [if_pos hw];refine io ?_;rw [bZ];simp only [bO,ba,am,ak,bf,R.ok_bind,hix,lK,dR,bM];rw [<- ho,if_pos (decide_eq_true hw),cH,bt];simp only [ci,gU,av,aA,ba,am,ak,R.ok_bind,hmx,List.length_cons,List.length_nil];rw [if_pos s1];simp only [R.ok_bind,qa,ce,List.length_cons,List.length_nil];rw [if_pos s1,eV,di];cases hq:kr mv i with
    | none=>rfl
    | some j=>rfl
  · rw [if_neg hw];rw [aD (ρ':=[.val (gD ps),.val (.int who),.val (mD mv),.val (.int i)]) (by
      rw [bZ];simp only [bO,ba,am,ak,bf,R.ok_bind,hix,lK,dR,bM];rw [<- ho,if_neg (by simpa using hw)];rfl)]
    simp only [cH,bT,ba,am,ak,bf,R.ok_bind,hix,lL,hg];rfl
noncomputable def eu (ps:List P4) (who:Int) (mv:List (Option Int)) (qs:List Int) (i:Int):Bool:=!decide (df ps who mv i=[])&&decide ((df ps who mv i).filter (fun j=>!bV qs j)=[])
noncomputable def wQ:Fs:=(aR (bN 5 (aC bI (ah (af 0) (ah (af 1) (ah (af 2) (ah (af 4) az)))))) (iI (oU (tE (e2 (fY) (af 5) (gg az))) (tE (e2 (nh) (bR (ej (af 5)) 1 [3] (aU 0) (tE (e2 (je true) (af 0) (af 1))) (af 0)) (gg az)))) (cj (eC (.bool false))) cn))
theorem kR {ps:List P4} (hl:∀ p∈ps,p.ns.length<=100) {mv:List (Option Int)} {who i:Int} (h0:0<=i) (h1:i < ps.length):(df ps who mv i).length<=100:=by
  unfold df;split
  · cases kr mv i <;> simp
  · rw [du h0 h1];exact hl _ (List.getElem_mem _)
theorem zS {ps:List P4} (hl:∀ p∈ps,p.ns.length<=100) {mv:List (Option Int)} {who i:Int} (h0:0<=i) (h1:i < ps.length) (hm:mv.length=ps.length) {s:PyData} {qs:List Int} (hs:qv s qs) (c5:aT) :
    wQ [.val (gD ps),.val (.int who),.val (mD mv),.val s,.val (.int i),c5]=if eu ps who mv qs i=true then .ok (.nx [.val (gD ps),.val (.int who),.val (mD mv),.val s,.val (.int i),.val (.list ((df ps who mv i).map .int))]) else .ok (.rt (.bool false)):=by
  have hw:=sQ (who:=who) h0 h1 hm;have hwl:=kR hl (mv:=mv) (who:=who) h0 h1;have hcmp:=cu (t:=tE (e2 (je true) (af 0) (af 1))) (ρ:=[.val s]) (p:=fun j=>!bV qs j) (df ps who mv i) fun k hk=>by simp [hs.inn]
  have n0:=FL (df ps who mv i) [];have n1:=An ((df ps who mv i).filter fun j=>!bV qs j) [];simp only [List.map_nil] at n0 n1;have s0:([]:List PyData).length<=sizeLine:=Nat.zero_le _;unfold wQ;rw [aD (ρ':=[.val (gD ps),.val (.int who),.val (mD mv),.val s,.val (.int i),.val (.list ((df ps who mv i).map .int))]) (by simp [hw])];have ec:bR (ej (af 5)) 1 [3] (aU 0) (tE (e2 (je true) (af 0) (af 1))) (af 0) [.val (gD ps),.val (.int who),.val (mD mv),.val s,.val (.int i),.val (.list ((df ps who mv i).map .int))]=.ok (.list (((df ps who mv i).filter fun j=>!bV qs j).map .int)):=by
    rw [bt];simp only [ci,ak,am,R.ok_bind,qa,ce];rw [if_pos (by rw [List.length_map];exact bQ (by omega))];rw [show aJ 1 [3] [.val (gD ps),.val (.int who),.val (mD mv),.val s,.val (.int i),.val (.list ((df ps who mv i).map .int))]=[.non,.val s] from rfl,hcmp];rfl
  rw [bZ,sP];simp only [bO,ba,ak,am,gU,aA,R.ok_bind,ec,List.length_nil];rw [if_pos (Nat.zero_le _)];simp only [R.ok_bind,n0,n1,bM];unfold eu;by_cases ha:df ps who mv i=[]
  · rw [decide_eq_true ha];rfl
  · rw [decide_eq_false ha];by_cases hb:((df ps who mv i).filter fun j=>!bV qs j)=[]
    · rw [decide_eq_true hb];rfl
    · rw [decide_eq_false hb];rfl
theorem zV {ps:List P4} (hl:∀ p∈ps,p.ns.length<=100) {mv:List (Option Int)} {who:Int} (hm:mv.length=ps.length) {s:PyData} {qs:List Int} (hs:qv s qs):∀ (is:List Int) (c4 c5:aT),(∀ x∈is,0<=x/\x < ps.length) ->
    ∃ ρ,fT (aU 4) wQ (is.map .int) [.val (gD ps),.val (.int who),.val (mD mv),.val s,c4,c5]=if is.all (eu ps who mv qs)=true then .ok (.nx ρ) else .ok (.rt (.bool false))
  | [],c4,c5,_=>⟨_,by rw [List.map_nil,eY];rfl⟩
  | i::is,c4,c5,hb=>by
    have hi:=hb i List.mem_cons_self;obtain ⟨ρ,e⟩:=zV hl hm (who:=who) hs is (.val (.int i)) (.val (.list ((df ps who mv i).map .int))) fun x hx=>hb x (List.mem_cons_of_mem _ hx)
    refine ⟨ρ,?_⟩;rw [List.map_cons,dH];rw [show (([.val (gD ps),.val (.int who),.val (mD mv),.val s,c4,c5]:aW).set 4 (.val (.int i)))=[.val (gD ps),.val (.int who),.val (mD mv),.val s,.val (.int i),c5] from rfl,zS hl hi.1 hi.2 hm hs];rw [List.all_cons];cases hk:eu ps who mv qs i with
    | true =>
      rw [if_pos rfl,R.ok_bind,dz,e];rfl
    | false=>rfl
theorem vA {ps:List P4} (hl:∀ p∈ps,p.ns.length<=100) {mv:List (Option Int)} {who:Int} (hm:mv.length=ps.length) {s:PyData} {qs:List Int} (hs:qv s qs) (hq:∀ x∈qs,0<=x/\x < ps.length):cZ [gD ps,.int who,mD mv,s]=.ok (.bool (qs.all (eu ps who mv qs))):=by
  obtain ⟨ρ,e⟩:=zV hl hm (who:=who) hs qs .non .non hq;unfold cZ jk;refine dE ?_;rw [show ([gD ps,.int who,mD mv,s].map aT.val++List.replicate (6 - [gD ps,.int who,mD mv,s].length) aT.non)=[.val (gD ps),.val (.int who),.val (mD mv),.val s,.non,.non] from rfl];unfold wQ at e;have e':(gW (jd (ej (af 3)) (aU 4) (aR (bN 5 (aC bI (ah (af 0) (ah (af 1) (ah (af 2) (ah (af 4) az)))))) (iI (oU (tE (e2 (fY) (af 5) (gg az))) (tE (e2 (nh) (bR (ej (af 5)) 1 [3] (aU 0) (tE (e2 (je true) (af 0) (af 1))) (af 0)) (gg az)))) (cj (eC (.bool false))) cn)))) [.val (gD ps),.val (.int who),.val (mD mv),.val s,.non,.non]=if qs.all (eu ps who mv qs)=true then .ok (.nx ρ) else .ok (.rt (.bool false)):=by
    rw [eS,fE,ci,ak,ak,ak,am,R.ok_bind,hs.seq,R.ok_bind,e];split <;> rfl
  cases hk:qs.all (eu ps who mv qs) with
  | true =>
    rw [hk,if_pos rfl] at e';rw [aD e'];rfl
  | false =>
    rw [hk,if_neg (by simp)] at e';exact io e'
theorem Ck (o:Option Int):vN o=oD o:=by cases o <;> rfl
noncomputable abbrev Dp (f:Int->Option Int) (n:Nat):List (Option Int):=(ids n).map f
theorem F1 (f:Int->Option Int) (n:Nat):oT f n=mD (Dp f n):=by
  show PyData.tuple _=PyData.tuple _;congr 1;unfold cG Dp;rw [List.map_map (f:=f)];apply List.map_congr_left;intro i _;exact (Ck _).symm
theorem w9 (f:Int->Option Int) (n:Nat):(Dp f n).length=n:=by simp
theorem CL (x:PyData) (xs:List PyData):BF (.list (x::xs)) (some 1) none=.ok (.list xs):=by
  show R.ok (PyData.list (D2.ml (x::xs) (some 1) none))=_;unfold D2.ml;have h1:HT.sIx (x::xs).length 0 (some 1)=1:=by
    unfold HT.sIx;simp
  have h2:HT.sIx (x::xs).length (x::xs).length none=(x::xs).length:=by
    unfold HT.sIx;simp
  rw [h1,h2];simp
inductive wq (W:Int->List Int) (al:List Int) (s:Int):Int->Prop
  | one {x:Int}:x∈W s->x∈al->wq W al s x
  | more {x y:Int}:wq W al s x->y∈W x->y∈al->wq W al s y
noncomputable def w6:Fs:=(aR (bN 7 (e2 bC (af 6) (eC (.int 0)))) (aR (bN 6 (Dg (af 6) (oz (eC (.int 1))) oy)) (iI (ip (tE (e2 (je false) (af 7) (af 4))) (tE (e2 (je true) (af 7) (eG 5)))) (aR (eB 5 (af 7)) (bN 6 (e2 eW (af 6) (aC bI (ah (af 0) (ah (af 1) (ah (af 2) (ah (af 7) az)))))))) cn)))
noncomputable abbrev mR (ps:List P4) (who:Int) (mv:List (Option Int)) (st:Int) (al found todo:List Int) (c7:aT):aW :=
  [.val (gD ps),.val (.int who),.val (mD mv),.val (.int st),.val (.list (al.map .int)),.own (.list (found.map .int)),.val (.list (todo.map .int)),c7]
theorem B3 (x:Int) (xs:List Int):bC (.list ((x::xs).map .int)) (.int 0)=.ok (.int x):=by
  rw [tZ (by omega) (by simp)];rfl
theorem Ai {ps:List P4} (hl:∀ p∈ps,p.ns.length<=100) {mv:List (Option Int)} {who:Int} (hm:mv.length=ps.length) {st:Int} {al found todo:List Int} {x:Int} (h0:x∈al->0<=x/\x < ps.length) (hf:found.length<=1000) (ht:todo.length<=1000000) (c7:aT) :
    w6 (mR ps who mv st al found (x::todo) c7)=.ok (.nx (if x∈al/\x∉found then mR ps who mv st al (found++[x]) (todo++df ps who mv x) (.val (.int x)) else mR ps who mv st al found todo (.val (.int x)))):=by
  unfold w6;rw [aD (ρ':=mR ps who mv st al found (x::todo) (.val (.int x))) (by
    rw [bi,ba,ak,ak,ak,ak,ak,ak,am,R.ok_bind,bf,R.ok_bind,B3];rfl)]
  rw [aD (ρ':=mR ps who mv st al found todo (.val (.int x))) (by
    rw [bi,zG,ak,ak,ak,ak,ak,ak,am,R.ok_bind,uy,bf,R.ok_bind,De,R.ok_bind,R.ok_bind,ux,R.ok_bind,List.map_cons,CL];rfl)]
  have htest:(ip (tE (e2 (je false) (af 7) (af 4))) (tE (e2 (je true) (af 7) (eG 5)))) (mR ps who mv st al found todo (.val (.int x)))=.ok (bV al x&&!bV found x):=by
    simp only [kD,bO,ba,ak,am,kJ,kI,R.ok_bind,BX,bM];cases bV al x <;> rfl
  rw [bZ,htest,R.ok_bind];by_cases hx:x∈al/\x∉found
  · have hb:(bV al x&&!bV found x)=true:=by
      rw [bu.mpr hx.1];cases hq:bV found x with
      | true=>exact absurd (bu.mp hq) hx.2
      | false=>rfl
    obtain ⟨b0,b1⟩:=h0 hx.1;have hwl:=kR hl (mv:=mv) (who:=who) b0 b1;rw [hb,if_pos rfl,if_pos hx];rw [aD (ρ':=mR ps who mv st al (found++[x]) todo (.val (.int x))) (by
      rw [kN (ds:=found.map .int) _ rfl (by rw [List.length_map];exact Nat.lt_of_le_of_lt hf (by decide))];rw [ak,ak,ak,ak,ak,ak,ak,am,ce,R.ok_bind];rw [show found.map PyData.int++[.int x]=(found++[x]).map .int by simp];rfl)]
    have hadd:eW (.list (todo.map .int)) (.list ((df ps who mv x).map .int))=.ok (.list ((todo++df ps who mv x).map .int)):=by
      show (if (todo.map PyData.int).length+((df ps who mv x).map PyData.int).length<=sizeLine then R.ok (PyData.list _) else .no)=_;rw [if_pos (by rw [List.length_map,List.length_map];exact Nat.le_trans (show _<=1000100 by omega) (by decide)),List.map_append]
    rw [bi,ba,aO];simp only [av,aA,ak,am,R.ok_bind,sQ b0 b1 hm,hadd];rfl
  · have hb:(bV al x&&!bV found x)=false:=by
      cases hq:bV al x with
      | false=>rfl
      | true =>
        cases hr:bV found x with
        | true=>rfl
        | false=>exact absurd ⟨bu.mp hq,fun z=>by rw [bu.mpr z] at hr;cases hr⟩ hx
    rw [hb,if_neg hx];rfl
structure rJ (W:Int->List Int) (al:List Int) (st:Int) (found todo:List Int):Prop where
  nd:found.Nodup
  sub:∀ x∈found,x∈al
  rch:∀ x∈found,wq W al st x
  cand:∀ x∈todo,x∈al->wq W al st x
  first:∀ y∈W st,y∈al->y∈found\/y∈todo
  closed:∀ x∈found,∀ y∈W x,y∈al->y∈found\/y∈todo
theorem rJ.skip {W:Int->List Int} {al:List Int} {st:Int} {found todo:List Int} {x:Int} (h:rJ W al st found (x::todo)) (hx:¬ (x∈al/\x∉found)):rJ W al st found todo:=by
  have drop:∀ y,y∈al->(y∈found\/y∈x::todo)->y∈found\/y∈todo:=fun y hy hq=>by
    rcases hq with z | z
    · exact .inl z
    · rcases List.mem_cons.mp z with rfl | z
      · left;exact Classical.byContradiction fun w=>hx ⟨hy,w⟩
      · exact .inr z
  exact ⟨h.nd,h.sub,h.rch,fun y hy=>h.cand y (List.mem_cons_of_mem _ hy),fun y h1 h2=>drop y h2 (h.first y h1 h2),fun z hz y h1 h2=>drop y h2 (h.closed z hz y h1 h2)⟩
theorem rJ.take {W:Int->List Int} {al:List Int} {st:Int} {found todo:List Int} {x:Int} (h:rJ W al st found (x::todo)) (hx:x∈al/\x∉found):rJ W al st (found++[x]) (todo++W x):=by
  have hr:wq W al st x:=h.cand x List.mem_cons_self hx.1;have up:∀ y,(y∈found\/y∈x::todo)->y∈found++[x]\/y∈todo++W x:=fun y hq=>by
    rcases hq with z | z
    · exact .inl (List.mem_append_left _ z)
    · rcases List.mem_cons.mp z with rfl | z
      · exact .inl (List.mem_append_right _ List.mem_cons_self)
      · exact .inr (List.mem_append_left _ z)
  refine ⟨?_,fun y hy=>?_,fun y hy=>?_,fun y hy ha=>?_,fun y h1 h2=>up y (h.first y h1 h2),fun z hz y h1 h2=>?_⟩
  · rw [List.nodup_append];refine ⟨h.nd,by simp,fun a ha b hb e=>?_⟩;simp at hb;subst hb;subst e;exact hx.2 ha
  · rcases List.mem_append.mp hy with z | z
    · exact h.sub y z
    · simp at z;subst z;exact hx.1
  · rcases List.mem_append.mp hy with z | z
    · exact h.rch y z
    · simp at z;subst z;exact hr
  · rcases List.mem_append.mp hy with z | z
    · exact h.cand y (List.mem_cons_of_mem _ z) ha
    · exact .more hr z ha
  · rcases List.mem_append.mp hz with w | w
    · exact up y (h.closed z w y h1 h2)
    · simp at w;subst w;exact .inr (List.mem_append_right _ h1)
theorem rJ.done {W:Int->List Int} {al:List Int} {st:Int} {found:List Int} (h:rJ W al st found []) (x:Int):x∈found<->wq W al st x:=by
  refine ⟨h.rch x,fun hr=>?_⟩;induction hr with
  | one h1 h2 =>
    rcases h.first _ h1 h2 with z | z
    · exact z
    · cases z
  | more _ h1 h2 ih =>
    rcases h.closed _ ih _ h1 h2 with z | z
    · exact z
    · cases z
theorem lJ:∀ {l m:List Int},l.Nodup->(∀ x∈l,x∈m)->l.length<=m.length
  | [],m,_,_=>Nat.zero_le _
  | x::l,m,nd,h=>by
    obtain ⟨n1,n2⟩:=List.nodup_cons.mp nd;have hx:=h x List.mem_cons_self;have:=lJ (m:=m.erase x) n2 fun y hy=>(List.mem_erase_of_ne (by rintro rfl;exact n1 hy)).mpr (h y (List.mem_cons_of_mem _ hy))
    rw [List.length_erase_of_mem hx] at this;have hp:=List.length_pos_of_mem hx;rw [List.length_cons];omega
theorem oC (t:aW->R Bool) (g:Fs) (n:Nat) (ρ:aW):cW t g (n+1) ρ=(t ρ>>=fun b=>if b=true then g ρ>>=oB (cW t g n) else .ok (.nx ρ)):=by
  rw [cW];congr 1
theorem Aj {ps:List P4} (hl:∀ p∈ps,p.ns.length<=100) {mv:List (Option Int)} {who:Int} (hm:mv.length=ps.length) {st:Int} {al:List Int} (ha:∀ x∈al,0<=x/\x < ps.length) (hal:al.length<=100):∀ (n:Nat) (found todo:List Int) (c7:aT),rJ (df ps who mv) al st found todo->todo.length+(al.length-found.length)*101+1<=n->n<=1000000 ->
    ∃ (rs:List Int) (c7':aT),(∀ x,x∈rs<->wq (df ps who mv) al st x)/\cW (tE (e2 (nh) (af 6) (gg az))) w6 n (mR ps who mv st al found todo c7)=.ok (.nx (mR ps who mv st al rs [] c7'))
  | 0,found,todo,c7,_,h,_=>by omega
  | n+1,found,[],c7,I,h,hn=>by
    refine ⟨found,c7,fun x=>I.done x,?_⟩;rw [oC];have n0:=An ([]:List Int) [];simp only [List.map_nil] at n0;simp [n0]
  | n+1,found,x::todo,c7,I,h,hn=>by
    have hfl:=lJ I.nd I.sub;rw [List.length_cons] at h;have n0:=An (x::todo) [];simp only [List.map_nil] at n0;have htest:tE (e2 (nh) (af 6) (gg az)) (mR ps who mv st al found (x::todo) c7)=.ok true:=by
      simp only [bO,ba,ak,am,gU,aA,R.ok_bind,List.length_nil];rw [if_pos (Nat.zero_le _),R.ok_bind,n0,R.ok_bind];rfl
    rw [oC,htest,R.ok_bind,if_pos rfl,Ai hl hm (ha x) (by omega) (by omega),R.ok_bind,dz];by_cases hx:x∈al/\x∉found
    · rw [if_pos hx];have hwl:=kR hl (mv:=mv) (who:=who) (ha x hx.1).1 (ha x hx.1).2;have I':=I.take hx;have hfl':=lJ I'.nd I'.sub;rw [List.length_append] at hfl';simp only [List.length_cons,List.length_nil] at hfl';exact Aj hl hm ha hal n (found++[x]) (todo++df ps who mv x) (.val (.int x)) I' (by
        rw [List.length_append,List.length_append];simp only [List.length_cons,List.length_nil];have e:(al.length-found.length)=(al.length-(found.length+1))+1:=by omega
        rw [e,Nat.add_mul] at h;simp only [Nat.zero_add];omega) (by omega)
    · rw [if_neg hx];exact Aj hl hm ha hal n found todo (.val (.int x)) (I.skip hx) (by omega) (by omega)
theorem vW {ps:List P4} (hl:∀ p∈ps,p.ns.length<=100) {mv:List (Option Int)} {who:Int} (hm:mv.length=ps.length) {st:Int} (s0:0<=st) (s1:st < ps.length) {al:List Int} (ha:∀ x∈al,0<=x/\x < ps.length) (hal:al.length<=100) :
    ∃ rs:List Int,cw [gD ps,.int who,mD mv,.int st,.list (al.map .int)]=.ok (.list (rs.map .int))/\∀ x,x∈rs<->wq (df ps who mv) al st x:=by
  have hwl:=kR hl (mv:=mv) (who:=who) s0 s1;obtain ⟨rs,c7,h1,h2⟩:=Aj hl hm (who:=who) (st:=st) ha hal 1000000 [] (df ps who mv st) .non ⟨by simp,by simp,by simp,fun x hx hy=>.one hx hy,fun y hy _=>.inr hy,by simp⟩ (by simp;omega) (Nat.le_refl _);refine ⟨rs,?_,h1⟩;unfold cw iQ;refine dE ?_;rw [show ([gD ps,.int who,mD mv,.int st,.list (al.map .int)].map aT.val++List.replicate (8 - [gD ps,.int who,mD mv,.int st,.list (al.map .int)].length) aT.non)=[.val (gD ps),.val (.int who),.val (mD mv),.val (.int st),.val (.list (al.map .int)),.non,.non,.non] from rfl];rw [aD (ρ':=[.val (gD ps),.val (.int who),.val (mD mv),.val (.int st),.val (.list (al.map .int)),.own (.list []),.non,.non]) (by
    rw [jD,gU,aA,R.ok_bind,if_pos (show ([]:List PyData).length<=sizeLine from Nat.zero_le _)];rfl)]
  rw [aD (ρ':=mR ps who mv st al [] (df ps who mv st) .non) (by
    rw [bi,aO];simp only [av,aA,ak,am,R.ok_bind,sQ s0 s1 hm];rfl)]
  rw [aD (ρ':=mR ps who mv st al rs [] c7) (by
    rw [eS];unfold w6 at h2;show lf (cW _ _ 1000000 _)=_;rw [h2];rfl)]
  rfl
noncomputable def cB (p:Prop):Bool:=@decide p (Classical.propDecidable p)
theorem se {p:Prop} (h:p):cB p=true:=@decide_eq_true p (Classical.propDecidable p) h
theorem ke {p:Prop} (h:¬ p):cB p=false:=@decide_eq_false p (Classical.propDecidable p) h
noncomputable def nO (ps:List P4) (qs:List Int) (i:Int):List Int:=qs.filter fun j=>decide (aF ps j<=aF ps i)
noncomputable def kc (ps:List P4) (w:Int) (mv:List (Option Int)) (qs:List Int) (i:Int):Prop:=aF ps i%2≠w/\wq (df ps w mv) (nO ps qs i) i i
noncomputable def rq (ps:List P4) (w:Int) (mv:List (Option Int)) (qs:List Int):Bool:=qs.all (eu ps w mv qs)&&qs.all fun i=>!cB (kc ps w mv qs i)
noncomputable def qh:Fs:=(aR (bN 5 (bR (ej (af 3)) 1 [0,4] (aU 0) (tE (e2 (dW Ds) (e2 bC (e2 bC (af 1) (af 0)) (eC (.int 1))) (e2 bC (e2 bC (af 1) (af 2)) (eC (.int 1))))) (af 0))) (aR (bN 6 (aC cw (ah (af 0) (ah (af 1) (ah (af 2) (ah (af 4) (ah (af 5) az))))))) (iI (ip (tE (e2 (nh) (e2 da (e2 bC (e2 bC (af 0) (af 4)) (eC (.int 1))) (eC (.int 2))) (af 1))) (tE (e2 (je false) (af 4) (af 6)))) (cj (eC (.bool false))) cn)))
section
variable {ps:List P4} (G:Gr ps) {mv:List (Option Int)} (hm:mv.length=ps.length) {w:Int} {s:PyData} {qs:List Int} (hs:qv s qs) (hq:∀ x∈qs,0<=x/\x < ps.length) (hql:qs.length<=100)
include G hm hs hq hql
theorem xy:∀ (is:List Int) (c4 c5 c6:aT),(∀ x∈is,x∈qs) ->
    ∃ ρ,fT (aU 4) qh (is.map .int) [.val (gD ps),.val (.int w),.val (mD mv),.val s,c4,c5,c6]=if (is.all fun i=>!cB (kc ps w mv qs i))=true then .ok (.nx ρ) else .ok (.rt (.bool false))
  | [],c4,c5,c6,_=>⟨_,by rw [List.map_nil,eY];rfl⟩
  | i::is,c4,c5,c6,hb=>by
    have hi:=hb i List.mem_cons_self;obtain ⟨h0,h1⟩:=hq i hi;have hp:=G.hp;have hlow:=cu (t:=tE (e2 (dW Ds) (e2 bC (e2 bC (af 1) (af 0)) (eC (.int 1))) (e2 bC (e2 bC (af 1) (af 2)) (eC (.int 1))))) (ρ:=[.val (gD ps),.val (.int i)]) (p:=fun j=>decide (aF ps j<=aF ps i)) qs fun j hj=>by
      obtain ⟨j0,j1⟩:=hq j hj;simp only [List.set_cons_zero,bO,ba,am,ak,bf,R.ok_bind,il j0 j1,il h0 h1,nS,jt,bM];rw [<- fM j0 j1,<- fM h0 h1]
    rw [show (qs.filter fun j=>decide (aF ps j<=aF ps i))=nO ps qs i from rfl] at hlow;have lin:∀ x∈nO ps qs i,0<=x/\x < ps.length:=fun x hx=>hq x (List.mem_filter.mp hx).1
    have ll:(nO ps qs i).length<=100:=Nat.le_trans (List.length_filter_le ..) hql;obtain ⟨rs,r1,r2⟩:=vW G.hl (who:=w) (mv:=mv) hm h0 h1 (al:=nO ps qs i) lin ll;obtain ⟨ρ,e⟩:=xy is (.val (.int i)) (.val (.list ((nO ps qs i).map .int))) (.val (.list (rs.map .int))) fun x hx=>hb x (List.mem_cons_of_mem _ hx)
    refine ⟨ρ,?_⟩;rw [List.map_cons,dH];rw [show (([.val (gD ps),.val (.int w),.val (mD mv),.val s,c4,c5,c6]:aW).set 4 (.val (.int i)))=[.val (gD ps),.val (.int w),.val (mD mv),.val s,.val (.int i),c5,c6] from rfl];have hb1:∀ k:Bool,k=cB (kc ps w mv qs i)->qh [.val (gD ps),.val (.int w),.val (mD mv),.val s,.val (.int i),c5,c6]=if k=true then .ok (.rt (.bool false)) else .ok (.nx [.val (gD ps),.val (.int w),.val (mD mv),.val s,.val (.int i),.val (.list ((nO ps qs i).map .int)),.val (.list (rs.map .int))]):=fun k hk=>by
      unfold qh;rw [aD (ρ':=[.val (gD ps),.val (.int w),.val (mD mv),.val s,.val (.int i),.val (.list ((nO ps qs i).map .int)),c6]) (by
        rw [bi,bt,show aJ 1 [0,4] [.val (gD ps),.val (.int w),.val (mD mv),.val s,.val (.int i),c5,c6]=[.non,.val (gD ps),.val (.int i)] from rfl];simp -implicitDefEqProofs only [ci,am,ak,R.ok_bind,hs.seq,ce];rw [if_pos (by rw [List.length_map];exact bQ (by omega)),hlow];rfl)]
      rw [aD (ρ':=[.val (gD ps),.val (.int w),.val (mD mv),.val s,.val (.int i),.val (.list ((nO ps qs i).map .int)),.val (.list (rs.map .int))]) (by
        simp only [bi,aO,av,aA,am,ak,R.ok_bind,r1];rfl)]
      simp only [bZ,kD,bO,ba,am,ak,bf,R.ok_bind,il h0 h1,nS,kg];rw [if_pos (by decide),R.ok_bind,wH,R.ok_bind,bM,R.ok_bind,<- fM h0 h1];by_cases hne:aF ps i%2=w
      · have:k=false:=by rw [hk];exact ke fun z=>z.1 hne
        rw [decide_eq_true hne,this];rfl
      · rw [decide_eq_false hne];simp only [Bool.not_false,if_true,BX,R.ok_bind,bM];by_cases hr:i∈rs
        · have:k=true:=by rw [hk];exact se ⟨hne,(r2 i).mp hr⟩
          rw [bu.mpr hr,this];rfl
        · have:k=false:=by rw [hk];exact ke fun z=>hr ((r2 i).mpr z.2)
          have hmf:bV rs i=false:=by
            cases h:bV rs i with
            | false=>rfl
            | true=>exact (hr (bu.mp h)).elim
          rw [hmf,this];rfl
    rw [hb1 _ rfl,List.all_cons];by_cases hz:kc ps w mv qs i
    · rw [se hz];rfl
    · rw [ke hz];simp only [Bool.false_eq_true,if_false,R.ok_bind,dz,Bool.not_false,Bool.true_and];exact e
theorem Ba:bB [gD ps,.int w,mD mv,s]=.ok (.bool (rq ps w mv qs)):=by
  obtain ⟨ρ,e⟩:=xy G hm hs hq hql (w:=w) qs .non .non .non fun x hx=>hx
  have hin:=vA G.hl (mv:=mv) (who:=w) hm hs hq;unfold bB fw;refine dE ?_;rw [show ([gD ps,.int w,mD mv,s].map aT.val++List.replicate (7 - [gD ps,.int w,mD mv,s].length) aT.non)=[.val (gD ps),.val (.int w),.val (mD mv),.val s,.non,.non,.non] from rfl];unfold rq;cases hk:qs.all (eu ps w mv qs) with
  | false =>
    rw [hk] at hin;refine io ?_;simp only [bZ,iq,bO,aO,av,aA,am,ak,R.ok_bind,hin,bM];rfl
  | true =>
    rw [hk] at hin;rw [aD (ρ':=[.val (gD ps),.val (.int w),.val (mD mv),.val s,.non,.non,.non]) (by
      simp only [bZ,iq,bO,aO,av,aA,am,ak,R.ok_bind,hin,bM];rfl)]
    have e':(gW (jd (ej (af 3)) (aU 4) qh)) [.val (gD ps),.val (.int w),.val (mD mv),.val s,.non,.non,.non]=if (qs.all fun i=>!cB (kc ps w mv qs i))=true then .ok (.nx ρ) else .ok (.rt (.bool false)):=by
      rw [eS,fE,ci];simp only [am,ak,R.ok_bind,hs.seq,e];split <;> rfl
    unfold qh at e';cases hz:qs.all fun i=>!cB (kc ps w mv qs i) with
    | true =>
      rw [hz,if_pos rfl] at e';rw [aD e'];rfl
    | false =>
      rw [hz,if_neg (by simp)] at e';rw [io e'];rfl
end
noncomputable def iD (f:Int->PyData) (qs:List Int):List (PyData×PyData):=qs.map fun i=>(.int i,f i)
theorem mE (f:Int->PyData) (qs:List Int):gQ (iD f qs)=false:=by cases qs <;> rfl
theorem sD (f:Int->PyData) (j:Int):∀ qs:List Int,iF (iD f qs) (.int j)=if j∈qs then some (f j) else none
  | []=>rfl
  | i::qs=>by
    unfold iF iD;rw [List.map_cons];by_cases h:i=j
    · subst h;rw [List.find?_cons_of_pos (by exact decide_eq_true rfl),if_pos List.mem_cons_self];rfl
    · rw [List.find?_cons_of_neg (by show ¬ decide (i=j)=true;rw [decide_eq_false h];exact Bool.false_ne_true)];have:=sD f j qs;unfold iF iD at this;rw [this];by_cases hj:j∈qs
      · rw [if_pos hj,if_pos (List.mem_cons_of_mem _ hj)]
      · rw [if_neg hj,if_neg fun z=>(List.mem_cons.mp z).elim (fun e=>h e.symm) hj]
theorem FY {f:Int->PyData} {qs:List Int} {j:Int} (h:j∈qs):bC (.dict (iD f qs)) (.int j)=.ok (f j):=by
  show (if gQ (iD f qs)=true then R.no else match gF (.int j) with | some _=>(match iF (iD f qs) (.int j) with | some d=>R.ok d | none=>.no) | none=>.no)=_;rw [mE,if_neg (by simp),sD,if_pos h];rfl
theorem Di (f:Int->PyData) (qs:List Int) (j:Int) (neg:Bool):je neg (.int j) (.dict (iD f qs))=.ok (.bool (if neg then !bV qs j else bV qs j)):=by
  show (if gQ (iD f qs)=true then R.no else match gF (.int j) with | some _=>R.ok (PyData.bool (if neg then !(iF (iD f qs) (.int j)).isSome else (iF (iD f qs) (.int j)).isSome)) | none=>.no)=_;rw [mE,if_neg (by simp),sD];have:(if j∈qs then some (f j) else none).isSome=bV qs j:=by
    by_cases h:j∈qs
    · rw [if_pos h,bu.mpr h];rfl
    · rw [if_neg h];cases z:bV qs j with
      | false=>rfl
      | true=>exact (h (bu.mp z)).elim
  rw [this];rfl
theorem AG {f:Int->PyData} {qs:List Int} {j:Int} (h:j∉qs):sI (iD f qs) (.int j) (f j)=iD f (qs++[j]):=by
  unfold sI;rw [if_neg (by
    rw [List.any_eq_true];rintro ⟨kv,hkv,e⟩;obtain ⟨i,hi,rfl⟩:=List.mem_map.mp hkv;have:i=j:=of_decide_eq_true e;rw [this] at hi;exact h hi)]
  unfold iD;rw [List.map_append];rfl
noncomputable def iu (al:List Int):List Int->List Int->List Int
  | [],_=>[]
  | g::ws,f=>if g∈al/\g∉f then g::iu al ws (f++[g]) else iu al ws f
theorem l7 (al:List Int):∀ (ws f:List Int) (y:Int),y∈iu al ws f->y∈ws/\y∈al/\y∉f
  | [],f,y,h=>by cases h
  | g::ws,f,y,h=>by
    unfold iu at h;split at h
    · rename_i q;rcases List.mem_cons.mp h with rfl | z
      · exact ⟨List.mem_cons_self,q.1,q.2⟩
      · obtain ⟨a,b,c⟩:=l7 al ws _ y z;exact ⟨List.mem_cons_of_mem _ a,b,fun d=>c (List.mem_append_left _ d)⟩
    · obtain ⟨a,b,c⟩:=l7 al ws _ y h;exact ⟨List.mem_cons_of_mem _ a,b,c⟩
theorem rX (al:List Int):∀ (ws f:List Int),f.Nodup->(f++iu al ws f).Nodup
  | [],f,h=>by unfold iu;simpa using h
  | g::ws,f,h=>by
    unfold iu;split
    · rename_i q;have:(f++[g]).Nodup:=by
        rw [List.nodup_append];refine ⟨h,by simp,fun a ha b hb=>?_⟩;simp at hb;subst hb;rintro rfl;exact q.2 ha
      have z:=rX al ws (f++[g]) this;rw [List.append_assoc] at z;exact z
    · exact rX al ws f h
theorem ph (al:List Int):∀ (ws f:List Int) (y:Int),y∈ws->y∈al->y∈f++iu al ws f
  | [],f,y,h,_=>by cases h
  | g::ws,f,y,h,ha=>by
    unfold iu;rcases List.mem_cons.mp h with rfl | z
    · split
      · exact List.mem_append_right _ List.mem_cons_self
      · rename_i q;by_cases hf:y∈f
        · exact List.mem_append_left _ hf
        · exact (q ⟨ha,hf⟩).elim
    · split
      · have:=ph al ws (f++[g]) y z ha;rw [List.append_assoc] at this;exact this
      · exact ph al ws f y z ha
structure xz (W:Int->List Int) (al:List Int) (s:Int) (found left:List Int):Prop where
  nd:found.Nodup
  sub:∀ x∈found,x∈al
  rch:∀ x∈found,wq W al s x
  lft:∀ x∈left,x=s\/x∈found
  cl:∀ x,(x=s\/x∈found)->x∈left\/∀ y∈W x,y∈al->y∈found
theorem xz.step {W:Int->List Int} {al:List Int} {s:Int} {found l:List Int} {x:Int} (I:xz W al s found (l++[x])):xz W al s (found++iu al (W x) found) (l++iu al (W x) found):=by
  have hx:x=s\/x∈found:=I.lft x (List.mem_append_right _ (by simp));refine ⟨rX al _ _ I.nd,fun y hy=>?_,fun y hy=>?_,fun y hy=>?_,fun y hy=>?_⟩
  · rcases List.mem_append.mp hy with z | z
    · exact I.sub y z
    · exact (l7 al _ _ y z).2.1
  · rcases List.mem_append.mp hy with z | z
    · exact I.rch y z
    · obtain ⟨a,b,_⟩:=l7 al _ _ y z;rcases hx with e | e
      · subst e;exact .one a b
      · exact .more (I.rch x e) a b
  · rcases List.mem_append.mp hy with z | z
    · rcases I.lft y (List.mem_append_left _ z) with e | e
      · exact .inl e
      · exact .inr (List.mem_append_left _ e)
    · exact .inr (List.mem_append_right _ z)
  · by_cases hyx:y=x
    · subst hyx;exact .inr fun g hg ha=>ph al _ _ g hg ha
    · have hy':y=s\/y∈found\/y∈iu al (W x) found:=by
        rcases hy with e | e
        · exact .inl e
        · rcases List.mem_append.mp e with z | z
          · exact .inr (.inl z)
          · exact .inr (.inr z)
      have old:(y=s\/y∈found)->y∈l++iu al (W x) found\/∀ g∈W y,g∈al->g∈found++iu al (W x) found:=fun h=>by
        rcases I.cl y h with z | z
        · rcases List.mem_append.mp z with q | q
          · exact .inl (List.mem_append_left _ q)
          · simp at q;exact (hyx q).elim
        · exact .inr fun g hg ha=>List.mem_append_left _ (z g hg ha)
      rcases hy' with e | e | e
      · exact old (.inl e)
      · exact old (.inr e)
      · exact .inl (List.mem_append_right _ e)
theorem xz.done {W:Int->List Int} {al:List Int} {s:Int} {found:List Int} (I:xz W al s found []) (x:Int):x∈found<->wq W al s x:=by
  constructor
  · exact I.rch x
  · intro h;induction h with
    | one a b =>
      rcases I.cl s (.inl rfl) with z | z
      · cases z
      · exact z _ a b
    | more r a b ih =>
      rcases I.cl _ (.inr ih) with z | z
      · cases z
      · exact z _ a b
noncomputable def iN (ps:List P4) (w:Int) (mv:List (Option Int)) (i:Int):PyData:=if ay ps i=w then .tuple [vN (kr mv i)] else .tuple ((aL ps i).map .int)
noncomputable def Ht:Fs:=(qD 4 (af 5) (zF (tE (e2 (fY) (e2 bC (e2 bC (af 0) (af 5)) (eC (.int 0))) (af 1))) (gh (ah (e2 bC (af 3) (af 5)) az)) (e2 bC (e2 bC (af 0) (af 5)) (eC (.int 3)))))
section
variable {ps:List P4} (G:Gr ps) {mv:List (Option Int)} (hm:mv.length=ps.length) {w:Int} {qs:List Int} (pq:dU ps.length qs)
include G hm pq
theorem xw:∀ (is don:List Int) (c5:aT),don++is=qs ->
    ∃ c5',fT (aU 5) Ht (is.map .int) [.val (gD ps),.val (.int w),.val (.tuple (qs.map .int)),.val (mD mv),.own (.dict (iD (iN ps w mv) don)),c5]=.ok (.nx [.val (gD ps),.val (.int w),.val (.tuple (qs.map .int)),.val (mD mv),.own (.dict (iD (iN ps w mv) qs)),c5'])
  | [],don,c5,e=>⟨c5,by rw [List.append_nil] at e;rw [e,List.map_nil,eY]⟩
  | i::is,don,c5,e=>by
    have hi:i∈qs:=by rw [<- e];exact List.mem_append_right _ List.mem_cons_self
    obtain ⟨h0,h1⟩:=pq.inn i hi;have hnd:=pq.nd;rw [<- e] at hnd;have hni:i∉don:=fun z=>by
      rw [List.nodup_append] at hnd;exact hnd.2.2 i z i List.mem_cons_self rfl
    have hl:=pq.len;have hp:=G.hp;have hdl:don.length<=qs.length:=by rw [<- e,List.length_append];omega
    obtain ⟨c5',r⟩:=xw is (don++[i]) (.val (.int i)) (by rw [List.append_assoc];exact e);refine ⟨c5',?_⟩;rw [List.map_cons,dH];rw [show (([.val (gD ps),.val (.int w),.val (.tuple (qs.map .int)),.val (mD mv),.own (.dict (iD (iN ps w mv) don)),c5]:aW).set 5 (.val (.int i)))=[.val (gD ps),.val (.int w),.val (.tuple (qs.map .int)),.val (mD mv),.own (.dict (iD (iN ps w mv) don)),.val (.int i)] from rfl];have hv:(zF (tE (e2 (fY) (e2 bC (e2 bC (af 0) (af 5)) (eC (.int 0))) (af 1))) (gh (ah (e2 bC (af 3) (af 5)) az)) (e2 bC (e2 bC (af 0) (af 5)) (eC (.int 3)))) [.val (gD ps),.val (.int w),.val (.tuple (qs.map .int)),.val (mD mv),.own (.dict (iD (iN ps w mv) don)),.val (.int i)]=.ok (iN ps w mv i):=by
      simp only [ss,bO,ba,iB,av,aA,ak,am,bf,R.ok_bind,il h0 h1,lK,lL,dR,bM,Dk h0 (by omega:i < mv.length),List.length_cons,List.length_nil];rw [<- fH h0 h1,<- du h0 h1];unfold iN;by_cases q:ay ps i=w
      · rw [decide_eq_true q,if_pos rfl,if_pos (by show 1<=_;decide),if_pos q]
      · rw [decide_eq_false q,if_neg (by simp),if_neg q]
    have hb:Ht [.val (gD ps),.val (.int w),.val (.tuple (qs.map .int)),.val (mD mv),.own (.dict (iD (iN ps w mv) don)),.val (.int i)]=.ok (.nx [.val (gD ps),.val (.int w),.val (.tuple (qs.map .int)),.val (mD mv),.own (.dict (iD (iN ps w mv) (don++[i]))),.val (.int i)]):=by
      unfold Ht qD;rw [hv];simp -implicitDefEqProofs only [R.ok_bind,ak,am,ce,List.getElem?_cons_succ,List.getElem?_cons_zero,gF];rw [if_pos (Nat.lt_of_lt_of_le (show _ < 1001 by unfold iD;rw [List.length_map];omega) (by decide)),AG hni];rfl
    rw [hb,R.ok_bind,dz,r]
theorem wk:fi [gD ps,.int w,.tuple (qs.map .int),mD mv]=.ok (.dict (iD (iN ps w mv) qs)):=by
  obtain ⟨c5,e⟩:=xw G hm pq (w:=w) qs [] .non rfl;unfold fi nv;refine dE ?_;rw [show ([gD ps,.int w,.tuple (qs.map .int),mD mv].map aT.val++List.replicate (6 - [gD ps,.int w,.tuple (qs.map .int),mD mv].length) aT.non)=[.val (gD ps),.val (.int w),.val (.tuple (qs.map .int)),.val (mD mv),.non,.non] from rfl];rw [aD (ρ':=[.val (gD ps),.val (.int w),.val (.tuple (qs.map .int)),.val (mD mv),.own (.dict []),.non]) (by rfl)];rw [aD (ρ':=[.val (gD ps),.val (.int w),.val (.tuple (qs.map .int)),.val (mD mv),.own (.dict (iD (iN ps w mv) qs)),c5]) (by
    rw [eS,fE,ci];simp only [ak,am,R.ok_bind,eh];unfold Ht at e;rw [show ([]:List (PyData×PyData))=iD (iN ps w mv) [] from rfl,e];rfl)]
  rfl
end
noncomputable def DT:Fs:=(iI (ip (tE (e2 (je false) (af 6) (af 2))) (tE (e2 (je true) (af 6) (eG 3)))) (aR (qD 3 (af 6) (eC (.bool true))) (eB 4 (af 6))) cn)
noncomputable abbrev sS (wd:PyData) (s:Int) (al found left:List Int) (c5 c6:aT):aW:=[.val wd,.val (.int s),.val (.list (al.map .int)),.own (.dict (iD (fun _=>.bool true) found)),.own (.list (left.map .int)),c5,c6]
theorem si {wd:PyData} {s:Int} {al:List Int} {c5:aT} (hal:al.length<=100):∀ (ws found left:List Int) (c6:aT),found.Nodup->(∀ x∈found,x∈al)->left.length<=found.length+1 ->
    ∃ c6',fT (aU 6) DT (ws.map .int) (sS wd s al found left c5 c6)=.ok (.nx (sS wd s al (found++iu al ws found) (left++iu al ws found) c5 c6'))
  | [],found,left,c6,_,_,_=>⟨c6,by unfold iu;rw [List.append_nil,List.append_nil,List.map_nil,eY]⟩
  | g::ws,found,left,c6,nd,sub,hl=>by
    have hfl:=h8 nd sub;rw [List.map_cons,dH];rw [show ((sS wd s al found left c5 c6).set 6 (.val (.int g)))=sS wd s al found left c5 (.val (.int g)) from rfl];have hc:(ip (tE (e2 (je false) (af 6) (af 2))) (tE (e2 (je true) (af 6) (eG 3)))) (sS wd s al found left c5 (.val (.int g)))=.ok (bV al g&&!bV found g):=by
      simp only [kD,bO,ba,ak,am,kJ,kI,R.ok_bind,BX,Di,bM];cases bV al g <;> rfl
    unfold iu;by_cases q:g∈al/\g∉found
    · have hq:(bV al g&&!bV found g)=true:=by
        rw [bu.mpr q.1];cases z:bV found g with
        | false=>rfl
        | true=>exact (q.2 (bu.mp z)).elim
      have nd':(found++[g]).Nodup:=by
        rw [List.nodup_append];refine ⟨nd,by simp,fun a ha b hb=>?_⟩;simp at hb;subst hb;rintro rfl;exact q.2 ha
      obtain ⟨c6',e⟩:=si (wd:=wd) (s:=s) (c5:=c5) hal ws (found++[g]) (left++[g]) (.val (.int g)) nd' (fun x hx=>(List.mem_append.mp hx).elim (sub x) fun z=>by simp at z;rw [z];exact q.1) (by rw [List.length_append,List.length_append];simp only [List.length_cons,List.length_nil];omega);refine ⟨c6',?_⟩;rw [if_pos q];have hb:DT (sS wd s al found left c5 (.val (.int g)))=.ok (.nx (sS wd s al (found++[g]) (left++[g]) c5 (.val (.int g)))):=by
        unfold DT;rw [bZ,hc,hq,R.ok_bind,if_pos rfl];rw [aD (ρ':=sS wd s al (found++[g]) left c5 (.val (.int g))) (by
          unfold qD;simp -implicitDefEqProofs only [bf,R.ok_bind,ak,am,ce,List.getElem?_cons_succ,List.getElem?_cons_zero,gF];rw [if_pos (Nat.lt_of_lt_of_le (show _ < 1001 by unfold iD;rw [List.length_map];omega) (by decide)),AG (f:=fun _=>.bool true) q.2];rfl)]
        rw [kN (ds:=left.map .int) (af 6) rfl (Nat.lt_of_lt_of_le (show _ < 1001 by rw [List.length_map];omega) (by decide))];simp -implicitDefEqProofs only [am,ak,ce,R.ok_bind];rw [show left.map PyData.int++[PyData.int g]=(left++[g]).map .int by simp];rfl
      rw [hb,R.ok_bind,dz,e];simp
    · have hq:(bV al g&&!bV found g)=false:=by
        cases z:bV al g with
        | false=>rfl
        | true =>
          cases y:bV found g with
          | true=>rfl
          | false=>exact (q ⟨bu.mp z,fun h=>by rw [bu.mpr h] at y;cases y⟩).elim
      obtain ⟨c6',e⟩:=si (wd:=wd) (s:=s) (c5:=c5) hal ws found left (.val (.int g)) nd sub hl;refine ⟨c6',?_⟩;rw [if_neg q];have hb:DT (sS wd s al found left c5 (.val (.int g)))=.ok (.nx (sS wd s al found left c5 (.val (.int g)))):=by
        unfold DT;rw [bZ,hc,hq];rfl
      rw [hb,R.ok_bind,dz,e]
noncomputable def Hb:Fs:=(aR (AN 5 4) (gW (jd (ej (e2 bC (af 0) (af 5))) (aU 6) DT)))
theorem zy {wd:PyData} {s:Int} {al:List Int} {W:Int->List Int} (hal:al.length<=100) (hW:∀ x,(x=s\/x∈al)->bC wd (.int x)=.ok (.tuple ((W x).map .int))):∀ (n:Nat) (found left:List Int) (c5 c6:aT),xz W al s found left->left.length<=found.length+1->left.length+(al.length-found.length)+1<=n ->
    ∃ (rs:List Int) (c5' c6':aT),(∀ x,x∈rs<->wq W al s x)/\cW (tE (e2 (dW lT) (e1 cF (eG 4)) (eC (.int 0)))) Hb n (sS wd s al found left c5 c6)=.ok (.nx (sS wd s al rs [] c5' c6'))
  | 0,found,left,c5,c6,_,_,h=>by omega
  | n+1,found,left,c5,c6,I,hl,h=>by
    have ht:(tE (e2 (dW lT) (e1 cF (eG 4)) (eC (.int 0)))) (sS wd s al found left c5 c6)=.ok (decide ((left.length:Int) > 0)):=by
      simp only [bO,bT,ba,kJ,kI,bf,R.ok_bind,nG,List.length_map,jt,bM]
    rw [mY,ht,R.ok_bind];rcases List.eq_nil_or_concat left with rfl | ⟨l,x,e⟩
    · exact ⟨found,c5,c6,fun x=>I.done x,by simp⟩
    · rw [List.concat_eq_append] at e;subst e;have hfl:=h8 I.nd I.sub;have I':=I.step;have hfl':=h8 I'.nd I'.sub;rw [List.length_append] at hl h hfl';simp only [List.length_cons,List.length_nil] at hl h;have hx:x=s\/x∈al:=(I.lft x (List.mem_append_right _ (by simp))).elim .inl fun z=>.inr (I.sub x z)
      obtain ⟨c6',e1⟩:=si (wd:=wd) (s:=s) (c5:=.val (.int x)) hal (W x) found l c6 I.nd I.sub (by omega);obtain ⟨rs,c5',c6'',r1,r2⟩:=zy hal hW n (found++iu al (W x) found) (l++iu al (W x) found) (.val (.int x)) c6' I' (by rw [List.length_append,List.length_append];omega) (by rw [List.length_append,List.length_append];omega);refine ⟨rs,c5',c6'',r1,?_⟩;rw [if_pos (decide_eq_true (by rw [List.length_append];simp only [List.length_cons,List.length_nil];omega))];have hb:Hb (sS wd s al found (l++[x]) c5 c6)=.ok (.nx (sS wd s al (found++iu al (W x) found) (l++iu al (W x) found) (.val (.int x)) c6')):=by
        unfold Hb;rw [aD (ρ':=sS wd s al found l (.val (.int x)) c6) (by
          unfold AN;simp only [List.getElem?_cons_succ,List.getElem?_cons_zero,List.map_append,List.map_cons,List.map_nil,List.length_append,List.length_map,List.length_cons,List.length_nil];rw [List.getElem?_append_right (by rw [List.length_map];omega)];simp)]
        rw [eS,fE,ci];simp only [ba,ak,am,R.ok_bind,hW x hx,eh];rw [e1];rfl
      rw [hb,R.ok_bind,dz,r2]
theorem vm {wd:PyData} {s:Int} {al:List Int} {W:Int->List Int} (hal:al.length<=100) (hW:∀ x,(x=s\/x∈al)->bC wd (.int x)=.ok (.tuple ((W x).map .int))) :
    ∃ rs:List Int,ff [wd,.int s,.list (al.map .int)]=.ok (.dict (iD (fun _=>.bool true) rs))/\∀ x,x∈rs<->wq W al s x:=by
  obtain ⟨rs,c5,c6,h1,h2⟩:=zy hal hW 1000000 [] [s] .non .non ⟨by simp,by simp,by simp,fun x hx=>.inl (by simpa using hx),fun x hx=>.inl (by simpa using hx)⟩ (by simp) (by simp;omega);refine ⟨rs,?_,h1⟩;unfold ff nr;refine dE ?_;rw [show ([wd,.int s,.list (al.map .int)].map aT.val++List.replicate (7 - [wd,.int s,.list (al.map .int)].length) aT.non)=[.val wd,.val (.int s),.val (.list (al.map .int)),.non,.non,.non,.non] from rfl];rw [aD (ρ':=[.val wd,.val (.int s),.val (.list (al.map .int)),.own (.dict []),.non,.non,.non]) (by rfl)];rw [aD (ρ':=sS wd s al [] [s] .non .non) (by
    rw [jD,gU,av,aA];simp only [ak,am,R.ok_bind,List.length_cons,List.length_nil];rw [if_pos (by show 1<=_;decide)];rfl)]
  rw [aD (ρ':=sS wd s al rs [] c5 c6) (by
    rw [eS];unfold Hb DT at h2;show lf (cW _ _ 1000000 _)=_;rw [h2];rfl)]
  rfl
section
variable {ps:List P4} (G:Gr ps) {mv:List (Option Int)} (hm:mv.length=ps.length) {w:Int} {qs:List Int} (pq:dU ps.length qs)
include G hm pq
theorem E8 {i:Int} (hi:i∈qs) (hk:eu ps w mv qs i=true):iN ps w mv i=.tuple ((df ps w mv i).map .int):=by
  unfold iN;unfold eu at hk;rw [Bool.and_eq_true] at hk;have hne:=hk.1;unfold df at hne ⊢;by_cases q:ay ps i=w
  · rw [if_pos q] at hne ⊢;rw [if_pos q];cases hv:kr mv i with
    | none=>rw [hv] at hne;simp at hne
    | some g=>rfl
  · rw [if_neg q,if_neg q]
theorem B6 {i:Int} (hi:i∈qs) (hall:∀ x∈qs,eu ps w mv qs x=true):bF [gD ps,.int w,.dict (iD (iN ps w mv) qs),.int i]=.ok (.bool (cB (kc ps w mv qs i))):=by
  obtain ⟨h0,h1⟩:=pq.inn i hi;have hql:=pq.len;have hp:=G.hp;have ll:(nO ps qs i).length<=100:=Nat.le_trans (List.length_filter_le ..) (by omega);have hlow:=cu (t:=tE (e2 (dW Ds) (e2 bC (e2 bC (af 1) (af 0)) (eC (.int 1))) (af 2))) (ρ:=[.val (gD ps),.val (.int (aF ps i))]) (p:=fun j=>decide (aF ps j<=aF ps i)) qs fun j hj=>by
    obtain ⟨j0,j1⟩:=pq.inn j hj;simp only [List.set_cons_zero,bO,ba,am,ak,bf,R.ok_bind,il j0 j1,nS,jt,bM];rw [<- fM j0 j1]
  rw [show (qs.filter fun j=>decide (aF ps j<=aF ps i))=nO ps qs i from rfl] at hlow;obtain ⟨rs,r1,r2⟩:=vm (wd:=.dict (iD (iN ps w mv) qs)) (s:=i) (al:=nO ps qs i) (W:=df ps w mv) ll fun x hx=>by
    have hxq:x∈qs:=hx.elim (fun e=>e ▸ hi) fun z=>(List.mem_filter.mp z).1
    rw [FY hxq,E8 G hm pq hxq (hall x hxq)]
  unfold bF fP;refine dE ?_;rw [show ([gD ps,.int w,.dict (iD (iN ps w mv) qs),.int i].map aT.val++List.replicate (6 - [gD ps,.int w,.dict (iD (iN ps w mv) qs),.int i].length) aT.non)=[.val (gD ps),.val (.int w),.val (.dict (iD (iN ps w mv) qs)),.val (.int i),.non,.non] from rfl];rw [aD (ρ':=[.val (gD ps),.val (.int w),.val (.dict (iD (iN ps w mv) qs)),.val (.int i),.val (.int (aF ps i)),.non]) (by
    simp only [bi,ba,ak,am,bf,R.ok_bind,il h0 h1,nS];rw [<- fM h0 h1];rfl)]
  have hif:∀ k,decide (aF ps i%2=w)=k->(iI (tE (e2 (fY) (e2 da (af 4) (eC (.int 2))) (af 1))) (cj (eC (.bool false))) cn) [.val (gD ps),.val (.int w),.val (.dict (iD (iN ps w mv) qs)),.val (.int i),.val (.int (aF ps i)),.non]=if k=true then .ok (.rt (.bool false)) else .ok (.nx [.val (gD ps),.val (.int w),.val (.dict (iD (iN ps w mv) qs)),.val (.int i),.val (.int (aF ps i)),.non]):=fun k hk=>by
    simp only [bZ,bO,ba,ak,am,bf,R.ok_bind,kg];rw [if_pos (by decide),R.ok_bind,dR,R.ok_bind,bM,R.ok_bind,hk];cases k <;> rfl
  by_cases q:aF ps i%2=w
  · rw [ke fun z=>z.1 q];exact io (by rw [hif true (decide_eq_true q)];rfl)
  · rw [aD (by rw [hif false (decide_eq_false q)];rfl)];rw [aD (ρ':=[.val (gD ps),.val (.int w),.val (.dict (iD (iN ps w mv) qs)),.val (.int i),.val (.int (aF ps i)),.val (.list ((nO ps qs i).map .int))]) (by
      rw [bi,bt,show aJ 1 [0,4] [.val (gD ps),.val (.int w),.val (.dict (iD (iN ps w mv) qs)),.val (.int i),.val (.int (aF ps i)),.non]=[.non,.val (gD ps),.val (.int (aF ps i))] from rfl];have hkeys:qX (.dict (iD (iN ps w mv) qs))=.ok (qs.map .int):=by
        show (if gQ (iD (iN ps w mv) qs)=true then R.no else R.ok ((iD (iN ps w mv) qs).map (·.1)))=_;rw [mE,if_neg (by simp)];unfold iD;rw [List.map_map];rfl
      simp -implicitDefEqProofs only [zU,ak,am,R.ok_bind,hkeys,ce];rw [if_pos (by rw [List.length_map];exact bQ (by omega)),hlow];rfl)]
    simp only [cH,ba,aO,av,aA,ak,am,R.ok_bind,r1,Di];by_cases hr:i∈rs
    · rw [se (show kc ps w mv qs i from ⟨q,(r2 i).mp hr⟩),bu.mpr hr];rfl
    · rw [ke fun z=>hr ((r2 i).mpr z.2)];cases h:bV rs i with
      | false=>rfl
      | true=>exact (hr (bu.mp h)).elim
theorem Eo {i:Int} (hi:i∈qs):(aV [iN ps w mv i,.tuple (qs.map .int)]>>=fun x=>cF x>>=fun n=>dW lT n (.int 0))=.ok (.bool (!eu ps w mv qs i)):=by
  obtain ⟨h0,h1⟩:=pq.inn i hi;have hgl:=G.glen i;unfold iN eu df;have fin:∀ ws:List Int,ws≠[]->ws.length<=1000->(aV [.tuple (ws.map .int),.tuple (qs.map .int)]>>=fun x=>cF x>>=fun n=>dW lT n (.int 0))=.ok (.bool (!(!decide (ws=[])&&decide (ws.filter (fun j=>!bV qs j)=[])))):=fun ws hne hl=>by
    rw [lQ (s:=.tuple (ws.map .int)) (t:=.tuple (qs.map .int)) (.inl rfl) (.inl rfl) hl,R.ok_bind,nH,R.ok_bind,jt,List.length_map,decide_eq_false hne];simp only [Bool.not_false,Bool.true_and];cases hL:ws.filter (fun j=>!bV qs j) with
    | nil=>rfl
    | cons a r =>
      have e1:lT (((a::r).length:Nat):Int) 0=true:=decide_eq_true (by rw [List.length_cons];omega);rw [e1];rfl
  by_cases q:ay ps i=w
  · rw [if_pos q,if_pos q];cases hv:kr mv i with
    | some g=>exact fin [g] (by simp) (by simp)
    | none =>
      have hn:aV [.tuple [vN none],.tuple (qs.map .int)]=.ok (.tuple [.none]):=by
        unfold aV kF;refine dE ?_;rw [show ([PyData.tuple [vN none],PyData.tuple (qs.map .int)].map aT.val++List.replicate (2 - [PyData.tuple [vN none],PyData.tuple (qs.map .int)].length) aT.non)=[.val (.tuple [.none]),.val (.tuple (qs.map .int))] from rfl];rw [cH,bT,bt,show aJ 1 [1] [.val (.tuple [.none]),.val (.tuple (qs.map .int))]=[.non,.val (.tuple (qs.map .int))] from rfl];simp only [ci,am,R.ok_bind,eh,ce,List.length_cons,List.length_nil];rw [if_pos (by show 1<=_;decide),eV,di];have hnin:je true .none (.tuple (qs.map .int))=.ok (.bool true):=by
          show (if pL (qs.map .int) .none=true then R.ok (PyData.bool (!((qs.map PyData.int).any fun y=>PyData.eqv y .none))) else .no)=_;rw [if_pos (by unfold pL;rw [lE,iA];simp [PyData.canLay0])];rw [List.any_eq_false.mpr (fun x hx=>by
            obtain ⟨j,_,rfl⟩:=List.mem_map.mp hx;simp [PyData.eqv])]
          rfl
        simp only [List.set_cons_zero,bO,ba,ak,am,R.ok_bind,hnin,bM,if_true];rfl
      rw [hn];rfl
  · rw [if_neg q,if_neg q];refine fin (aL ps i) (fun z=>?_) (by omega);obtain ⟨g,hg⟩:=G.gne h0 h1;rw [z] at hg;cases hg
theorem rY {α:Type} (p:α->Bool):∀ l:List α,D2.qx (l.map fun a=>.bool (p a))=some (l.any p)
  | []=>rfl
  | a::l=>by simp only [List.map_cons,D2.qx,rY p l,List.any_cons,Option.map_some]
theorem zQ (hmv:jA ps (mD mv)=true) (hgm:eU (mD mv)):cL [gD ps,.int w,.tuple (qs.map .int),mD mv]=.ok (.bool (rq ps w mv qs)):=by
  have hp:=G.hp;have hql:=pq.len;have m1:=pq.some;have m2:=l9 hgm (ps:=ps) hp;rw [hmv] at m2;have m3:=wk G hm pq (w:=w);have hlen:cF (gD ps)=.ok (.int ps.length):=by simp
  have hvals:rn (.dict (iD (iN ps w mv) qs))=.ok (qs.map (iN ps w mv)):=by
    show (if gQ (iD (iN ps w mv) qs)=true then R.no else R.ok ((iD (iN ps w mv) qs).map (·.2)))=_;rw [mE,if_neg (by simp)];unfold iD;rw [List.map_map];rfl
  have hc1:cg (aU 0) (fun _=>.ok true) (e2 (dW lT) (e1 cF (aC aV (ah (af 0) (ah (af 1) az)))) (eC (.int 0))) [.non,.val (.tuple (qs.map .int))] (qs.map (iN ps w mv))=.ok (qs.map fun i=>.bool (!eu ps w mv qs i)):=by
    have go:∀ is:List Int,(∀ x∈is,x∈qs)->cg (aU 0) (fun _=>.ok true) (e2 (dW lT) (e1 cF (aC aV (ah (af 0) (ah (af 1) az)))) (eC (.int 0))) [.non,.val (.tuple (qs.map .int))] (is.map (iN ps w mv))=.ok (is.map fun i=>.bool (!eu ps w mv qs i)):=by
      intro is;induction is with
      | nil=>intro _;exact di ..
      | cons i is ih =>
        intro hb;have ho:=Eo G hm pq (w:=w) (hb i List.mem_cons_self);rw [List.map_cons,eV,ih fun x hx=>hb x (List.mem_cons_of_mem _ hx)];have he:(e2 (dW lT) (e1 cF (aC aV (ah (af 0) (ah (af 1) az)))) (eC (.int 0))) [.val (iN ps w mv i),.val (.tuple (qs.map .int))]=.ok (.bool (!eu ps w mv qs i)):=by
          rw [<- ho];simp only [bT,ba,aO,av,aA,ak,am,bf,R.ok_bind];cases aV [iN ps w mv i,.tuple (qs.map .int)] with
          | ok x=>simp only [R.ok_bind]
          | ex c=>rfl
          | no=>rfl
        simp only [List.set_cons_zero,R.ok_bind,if_true,he];rfl
    exact go qs fun x hx=>hx
  have ha1:vn (.list (qs.map fun i=>.bool (!eu ps w mv qs i)))=.ok (.bool (qs.any fun i=>!eu ps w mv qs i)):=by
    show (match D2.qx (qs.map fun i=>PyData.bool (!eu ps w mv qs i)) with | some k=>R.ok (PyData.bool k) | none=>.no)=_;rw [rY G hm pq (fun i=>!eu ps w mv qs i)]
  unfold cL lW;refine dE ?_;rw [show ([gD ps,.int w,.tuple (qs.map .int),mD mv].map aT.val++List.replicate (5 - [gD ps,.int w,.tuple (qs.map .int),mD mv].length) aT.non)=[.val (gD ps),.val (.int w),.val (.tuple (qs.map .int)),.val (mD mv),.non] from rfl];rw [aD (ρ':=[.val (gD ps),.val (.int w),.val (.tuple (qs.map .int)),.val (mD mv),.non]) (by
    simp only [bZ,iq,bO,aO,av,aA,bT,am,ak,R.ok_bind,hlen,m1,bM];rfl)]
  rw [aD (ρ':=[.val (gD ps),.val (.int w),.val (.tuple (qs.map .int)),.val (mD mv),.non]) (by
    simp only [bZ,iq,bO,aO,av,aA,am,ak,R.ok_bind,m2,bM];rfl)]
  rw [aD (ρ':=[.val (gD ps),.val (.int w),.val (.tuple (qs.map .int)),.val (mD mv),.val (.dict (iD (iN ps w mv) qs))]) (by
    simp only [bi,aO,av,aA,am,ak,R.ok_bind,m3];rfl)]
  have hif:(tE (e1 vn (bR (wS (af 4)) 1 [2] (aU 0) (fun _=>.ok true) (e2 (dW lT) (e1 cF (aC aV (ah (af 0) (ah (af 1) az)))) (eC (.int 0)))))) [.val (gD ps),.val (.int w),.val (.tuple (qs.map .int)),.val (mD mv),.val (.dict (iD (iN ps w mv) qs))]=.ok (qs.any fun i=>!eu ps w mv qs i):=by
    rw [bO,bT,bt,show aJ 1 [2] [.val (gD ps),.val (.int w),.val (.tuple (qs.map .int)),.val (mD mv),.val (.dict (iD (iN ps w mv) qs))]=[.non,.val (.tuple (qs.map .int))] from rfl];simp -implicitDefEqProofs only [zW,ak,am,R.ok_bind,hvals,ce];rw [if_pos (by rw [List.length_map];exact bQ (by omega)),hc1,oY,R.ok_bind,ha1];rfl
  unfold rq;cases hk:qs.all (eu ps w mv qs) with
  | false =>
    have:(qs.any fun i=>!eu ps w mv qs i)=true:=by
      rw [List.all_eq_false] at hk;obtain ⟨x,h1,h2⟩:=hk;rw [List.any_eq_true];exact ⟨x,h1,by cases z:eu ps w mv qs x;rfl;exact (h2 z).elim⟩
    rw [this] at hif;refine io ?_;rw [bZ,hif];rfl
  | true =>
    have hall:=List.all_eq_true.mp hk;have:(qs.any fun i=>!eu ps w mv qs i)=false:=by
      rw [List.any_eq_false];intro x hx;rw [hall x hx];simp
    rw [this] at hif;rw [aD (ρ':=[.val (gD ps),.val (.int w),.val (.tuple (qs.map .int)),.val (mD mv),.val (.dict (iD (iN ps w mv) qs))]) (by rw [bZ,hif];rfl)];have hc2:=hJ (aC bF (ah (af 1) (ah (af 2) (ah (af 3) (ah (af 0) az))))) [.non,.val (gD ps),.val (.int w),.val (.dict (iD (iN ps w mv) qs))] 0 (fun d=>match d with | .int i=>.bool (cB (kc ps w mv qs i)) | d=>d) (qs.map .int) fun d hd=>by
      obtain ⟨i,hi,rfl⟩:=List.mem_map.mp hd;simp only [List.set_cons_zero,aO,av,aA,ak,am,R.ok_bind,B6 G hm pq hi hall]
    have hmm:((qs.map PyData.int).map fun d=>match d with | .int i=>PyData.bool (cB (kc ps w mv qs i)) | d=>d)=qs.map fun i=>.bool (cB (kc ps w mv qs i)):=by
      rw [List.map_map];rfl
    replace hc2:=hc2.trans (congrArg R.ok hmm);have ha2:vn (.list (qs.map fun i=>.bool (cB (kc ps w mv qs i))))=.ok (.bool (qs.any fun i=>cB (kc ps w mv qs i))):=by
      show (match D2.qx (qs.map fun i=>PyData.bool (cB (kc ps w mv qs i))) with | some k=>R.ok (PyData.bool k) | none=>.no)=_;rw [rY G hm pq (fun i=>cB (kc ps w mv qs i))]
    rw [cH,BL,bT,bt,show aJ 1 [0,1,4] [.val (gD ps),.val (.int w),.val (.tuple (qs.map .int)),.val (mD mv),.val (.dict (iD (iN ps w mv) qs))]=[.non,.val (gD ps),.val (.int w),.val (.dict (iD (iN ps w mv) qs))] from rfl];simp only [ci,ak,am,R.ok_bind,eh,ce];rw [if_pos (by rw [List.length_map];exact bQ (by omega)),hc2,oY,R.ok_bind,ha2];have e:(qs.all fun i=>!cB (kc ps w mv qs i))=!(qs.any fun i=>cB (kc ps w mv qs i)):=by
      rw [Bool.eq_iff_iff];simp
    rw [e];rfl
end
theorem yp {ps:List P4} (G:Gr ps) (hp1:1<=ps.length) (hne:∀ i∈ids ps.length,aL ps i≠[]) (who:Int) {num:Int} {mv:Int->Option Int} (hmv:∀ i g,mv i=some g->g∈aL ps i) :
    ∃ f:Int->Option Int,cQ [gD ps,.int who,.int num,oT mv ps.length]=.ok (oT f ps.length)/\∀ i g,f i=some g->g∈aL ps i:=by
  have hp:=G.hp;have hdm:∀ n:Int,0 < n/\n < 1073741824->fS (.int num) (.int n)=.ok (.int (num / n)):=fun n h=>by rw [sj,if_pos h]
  have hmm:∀ m n:Int,0 < n->da (.int m) (.int n)=.ok (.int (m%n)):=fun m n h=>by rw [kg,if_pos h]
  have hlen:cF (gD ps)=.ok (.int ps.length):=by simp
  by_cases h0:num%3=0
  · obtain ⟨f,e,g,_,_⟩:=xZ hp hne who (num / 3) 9;refine ⟨f,?_,g⟩;unfold cQ gv;refine dE ?_;rw [show ([gD ps,.int who,.int num,oT mv ps.length].map aT.val++List.replicate (6 - [gD ps,.int who,.int num,oT mv ps.length].length) aT.non)=[.val (gD ps),.val (.int who),.val (.int num),.val (oT mv ps.length),.non,.non] from rfl];refine io ?_;rw [bZ];simp only [bO,ba,ak,am,bf,R.ok_bind,hmm _ 3 (by decide),dR,bM];rw [if_pos (decide_eq_true h0)];simp only [cH,aO,av,aA,ba,ak,am,bf,R.ok_bind,hdm 3 (by decide),e]
  · obtain ⟨f0,ef0⟩:∃ f0:Int->Option Int,f0=fun i=>if ay ps i=who then mv i else none:=⟨_,rfl⟩
    have g0:∀ i g,f0 i=some g->g∈aL ps i:=fun i g h=>by
      rw [ef0] at h;dsimp only at h;split at h
      · exact hmv i g h
      · cases h
    have hc:=xq (f:=oS ps) (g:=fun i=>oD (mv i)) (h:=fun i=>oD (f0 i)) (n:=ps.length) (fe:=e2 bC (gg (ah (eC .none) (ah (af 1) az))) (e1 lC (e2 (fY) (e2 bC (af 0) (eC (.int 0))) (af 2)))) (ρ:=[.val (.int who)]) fun i i0 i1=>by
      simp only [bT,ba,gU,av,aA,ak,am,bf,R.ok_bind,Dr i0 i1,dR,vo,List.length_cons,List.length_nil];rw [if_pos (by show 2<=_;decide),R.ok_bind,ef0];dsimp only;by_cases q:ay ps i=who
      · rw [decide_eq_true q,if_pos q];rfl
      · rw [decide_eq_false q,if_neg q];rfl
    have hst:∀ b:Fs,(aR (iI (tE (e2 (fY) (e2 da (af 2) (eC (.int 3))) (eC (.int 0)))) (cj (aC cO (ah (af 0) (ah (af 1) (ah (e2 fS (af 2) (eC (.int 3))) (ah (eC (.int 9)) az)))))) cn) (aR (gM 4 (bR (vy (af 0) (af 3)) 2 [1] (eF 0 1) (fun _=>.ok true) (e2 bC (gg (ah (eC .none) (ah (af 1) az))) (e1 lC (e2 (fY) (e2 bC (af 0) (eC (.int 0))) (af 2)))))) b)) [.val (gD ps),.val (.int who),.val (.int num),.val (oT mv ps.length),.non,.non]=b [.val (gD ps),.val (.int who),.val (.int num),.val (oT mv ps.length),.own (.list (cG (fun i=>oD (f0 i)) ps.length)),.non]:=fun b=>by
      rw [aD (ρ':=[.val (gD ps),.val (.int who),.val (.int num),.val (oT mv ps.length),.non,.non]) (by
        rw [bZ];simp only [bO,ba,ak,am,bf,R.ok_bind,hmm _ 3 (by decide),dR,bM];rw [if_neg (by rw [decide_eq_false h0];simp)];rfl)]
      rw [aD (ρ':=[.val (gD ps),.val (.int who),.val (.int num),.val (oT mv ps.length),.own (.list (cG (fun i=>oD (f0 i)) ps.length)),.non]) (by
        rw [jD,bt,show aJ 2 [1] [.val (gD ps),.val (.int who),.val (.int num),.val (oT mv ps.length),.non,.non]=[.non,.non,.val (.int who)] from rfl];simp only [wT,ak,am,R.ok_bind,eh,ce];rw [if_pos (by rw [kE,List.length_map];exact bQ (by omega)),zO,hc];rfl)]
    by_cases h1:num%3=1
    · obtain ⟨t,et⟩:∃ t,t=num / 3%(ps.length:Int):=⟨_,rfl⟩
      have t0:0<=t:=by rw [et];exact Int.emod_nonneg _ (by omega)
      have t1:t < ps.length:=by rw [et];exact Int.emod_lt_of_pos _ (by omega)
      have hgt:=hne t (eR.mpr ⟨t0,t1⟩);have hpos:0 < ((aL ps t).length:Int):=by
        have:=List.length_pos_iff.mpr hgt;omega
      have a0:=Int.emod_nonneg (num / 72) (show ((aL ps t).length:Int)≠0 by omega);have a1:=Int.emod_lt_of_pos (num / 72) hpos;obtain ⟨g,eg⟩:∃ g,g=(aL ps t)[(num / 72%((aL ps t).length:Int)).toNat]'(by omega):=⟨_,rfl⟩
      have hgx:bC (.tuple ((aL ps t).map .int)) (.int (num / 72%((aL ps t).length:Int)))=.ok (.int g):=by
        rw [qP a0 (by simpa using a1),eg];simp
      refine ⟨fun i=>if i=t then some g else f0 i,?_,fun i g' h=>?_⟩
      · unfold cQ gv;refine dE ?_;rw [show ([gD ps,.int who,.int num,oT mv ps.length].map aT.val++List.replicate (6 - [gD ps,.int who,.int num,oT mv ps.length].length) aT.non)=[.val (gD ps),.val (.int who),.val (.int num),.val (oT mv ps.length),.non,.non] from rfl];rw [hst];rw [aD (ρ':=[.val (gD ps),.val (.int who),.val (.int num),.val (oT mv ps.length),.own (.list (cG (fun i=>oD (if i=t then some g else f0 i)) ps.length)),.val (.int t)]) (by
          rw [bZ];simp only [bO,ba,ak,am,bf,R.ok_bind,hmm _ 3 (by decide),dR,bM];rw [if_pos (decide_eq_true h1)];rw [aD (ρ':=[.val (gD ps),.val (.int who),.val (.int num),.val (oT mv ps.length),.own (.list (cG (fun i=>oD (f0 i)) ps.length)),.val (.int t)]) (by
            simp only [bi,bT,ba,ak,am,bf,R.ok_bind,hdm 3 (by decide),hlen,hmm _ (ps.length:Int) (by omega)];rw [<- et];rfl)]
          rw [mO (ds:=cG (fun i=>oD (f0 i)) ps.length) (n:=t) (v:=.int g) rfl (by simp only [ak,am]) (by
            simp only [bT,ba,ak,am,bf,R.ok_bind,il t0 t1,lL,hdm 72 (by decide),nH,List.length_map];rw [<- du t0 t1,hmm _ _ hpos,R.ok_bind,hgx]) t0 (by rw [bJ];exact t1)]
          rw [mW t0 t1];rw [show cG (fun j=>if j=t then PyData.int g else oD (f0 j)) ps.length=cG (fun i=>oD (if i=t then some g else f0 i)) ps.length from dk fun i _ _=>by
            by_cases q:i=t
            · rw [if_pos q,if_pos q];rfl
            · rw [if_neg q,if_neg q]]
          rfl)]
        rfl
      · dsimp only at h;split at h
        · rename_i q;cases h;rw [q,eg];exact List.getElem_mem _
        · exact g0 i g' h
    · refine ⟨f0,?_,g0⟩;unfold cQ gv;refine dE ?_;rw [show ([gD ps,.int who,.int num,oT mv ps.length].map aT.val++List.replicate (6 - [gD ps,.int who,.int num,oT mv ps.length].length) aT.non)=[.val (gD ps),.val (.int who),.val (.int num),.val (oT mv ps.length),.non,.non] from rfl];rw [hst];rw [aD (ρ':=[.val (gD ps),.val (.int who),.val (.int num),.val (oT mv ps.length),.own (.list (cG (fun i=>oD (f0 i)) ps.length)),.non]) (by
        rw [bZ];simp only [bO,ba,ak,am,bf,R.ok_bind,hmm _ 3 (by decide),dR,bM];rw [if_neg (by rw [decide_eq_false h1];simp)];rfl)]
      rfl
theorem uk {ps:List P4} {w:Int} {a m:PyData} (ga:eU a) (h:AS ps.length a=false):cL [gD ps,.int w,a,m]=.ex Bd:=by
  have hlen:cF (gD ps)=.ok (.int ps.length):=by simp
  have m1:=n8 (d:=a) ps.length (fun ds e x hx=>by subst e;exact (eA.mp ga x hx).noD) ga.noD;rw [h] at m1;unfold cL lW;rw [eX,show ([gD ps,.int w,a,m].map aT.val++List.replicate (5 - [gD ps,.int w,a,m].length) aT.non)=[.val (gD ps),.val (.int w),.val a,.val m,.non] from rfl];rw [o0];simp only [bZ,iq,bO,aO,av,aA,bT,am,ak,R.ok_bind,hlen,m1,bM];rfl
theorem zR {ps:List P4} (hp:ps.length<=24) {w:Int} {qs:List Int} (pq:dU ps.length qs) {m:PyData} (gm:eU m) (h:jA ps m=false):cL [gD ps,.int w,.tuple (qs.map .int),m]=.ex Bc:=by
  have hlen:cF (gD ps)=.ok (.int ps.length):=by simp
  have m1:=pq.some;have m2:=l9 gm (ps:=ps) hp;rw [h] at m2;unfold cL lW;rw [eX,show ([gD ps,.int w,.tuple (qs.map .int),m].map aT.val++List.replicate (5 - [gD ps,.int w,.tuple (qs.map .int),m].length) aT.non)=[.val (gD ps),.val (.int w),.val (.tuple (qs.map .int)),.val m,.non] from rfl];rw [aD (ρ':=[.val (gD ps),.val (.int w),.val (.tuple (qs.map .int)),.val m,.non]) (by
    simp only [bZ,iq,bO,aO,av,aA,bT,am,ak,R.ok_bind,hlen,m1,bM];rfl)]
  rw [o0];simp only [bZ,iq,bO,aO,av,aA,am,ak,R.ok_bind,m2,bM];rfl
theorem wW {ρ:aW} {p:Addr} (h:4 < ρ.length):pC 4 p (ρ.set 4 (.exc p))=.ok (.bool true):=by
  unfold pC;rw [List.getElem?_set_self h];simp
theorem yD {g a b s:PyData} (h:cL [g,a,b,s]=.ex Bc):bn [g,a,b,s]=.ok (.str (PySem.Str.ofString "moves")):=by
  unfold bn gp;refine dE ?_;rw [show ([g,a,b,s].map aT.val++List.replicate (5 - [g,a,b,s].length) aT.non)=[.val g,.val a,.val b,.val s,.non] from rfl];refine io ?_;unfold uI;simp -implicitDefEqProofs only [av,aA,am,ak,R.ok_bind,ce,h,A3,List.lookup_cons,beq_self_eq_true];have hh:(fun p=>(e2 mo (eC (.str (PySem.Str.ofString "moves"))) (e1 lC (pC 4 p))) (([.val g,.val a,.val b,.val s,.non]:aW).set 4 (.exc p)))=fun _=>R.ok (.str (PySem.Str.ofString "moves")):=funext fun p=>by
    simp only [ba,bT,bf,R.ok_bind,wW (ρ:=[.val g,.val a,.val b,.val s,.non]) (p:=p) (by simp),vo];rfl
  rw [hh,pY];rfl
theorem rd {g a b s:PyData} (h:cL [g,a,b,s]=.ex Bd):bn [g,a,b,s]=.ok (.str (PySem.Str.ofString "part")):=by
  unfold bn gp;refine dE ?_;rw [show ([g,a,b,s].map aT.val++List.replicate (5 - [g,a,b,s].length) aT.non)=[.val g,.val a,.val b,.val s,.non] from rfl];refine io ?_;unfold uI;have hne:(PySem.Str.ofString "NoPart" == PySem.Str.ofString "NoMoves")=false:=by decide +kernel
  simp -implicitDefEqProofs only [av,aA,am,ak,R.ok_bind,ce,h,A3,List.lookup_cons,hne,beq_self_eq_true];have hh:(fun p=>(e2 mo (eC (.str (PySem.Str.ofString "part"))) (e1 lC (pC 4 p))) (([.val g,.val a,.val b,.val s,.non]:aW).set 4 (.exc p)))=fun _=>R.ok (.str (PySem.Str.ofString "part")):=funext fun p=>by
    simp only [ba,bT,bf,R.ok_bind,wW (ρ:=[.val g,.val a,.val b,.val s,.non]) (p:=p) (by simp),vo];rfl
  rw [hh,pY];rfl
theorem vY:nh (.str (PySem.Str.ofString "moves")) (.str (PySem.Str.ofString "moves"))=.ok (.bool false) :=
  t5 (by decide +kernel) (by simp [PyData.depth])
theorem rg:nh (.str (PySem.Str.ofString "part")) (.str (PySem.Str.ofString "part"))=.ok (.bool false) :=
  t5 (by decide +kernel) (by simp [PyData.depth])
theorem Ca {n:Nat} {x:PyData} (hx:x∈[.tuple [.int 0,.int 0],.tuple [.int n],.list [.int 0],.tuple [.int (-1)],.none,.tuple [.bool false]]):eU x/\AS n x=false:=by
  simp only [List.mem_cons,List.mem_nil_iff,or_false] at hx;rcases hx with rfl | rfl | rfl | rfl | rfl | rfl
  · refine ⟨eA.mpr fun x hx=>by simp at hx;rw [hx];exact ie _,?_⟩;show jC n 0 [.int 0,.int 0]=false;unfold jC jC;simp
  · refine ⟨eA.mpr fun x hx=>by simp at hx;rw [hx];exact ie _,?_⟩;show jC n 0 [.int n]=false;unfold jC;simp
  · exact ⟨qT.mpr fun x hx=>by simp at hx;rw [hx];exact ie _,rfl⟩
  · refine ⟨eA.mpr fun x hx=>by simp at hx;rw [hx];exact ie _,?_⟩;show jC n 0 [.int (-1)]=false;unfold jC;simp
  · exact ⟨kL,rfl⟩
  · exact ⟨eA.mpr fun x hx=>by simp at hx;rw [hx];exact nK _,rfl⟩
theorem BA {ps:List P4} (G:Gr ps) (hp1:1<=ps.length) {f:Int->Option Int} {x:PyData} (hx:x∈[.tuple (cG (fun i=>oD (f i)) ps.length++[.none]),.list (cG (fun i=>oD (f i)) ps.length),.tuple ([.int ps.length]++(cG (fun i=>oD (f i)) ps.length).drop 1),.tuple ([.bool true]++(cG (fun i=>oD (f i)) ps.length).drop 1),.none]):eU x/\jA ps x=false:=by
  have fl:=uf f ps.length;have cons_bad:∀ (d:PyData) (r:List PyData),(∀ p∈ps,Do p.ns d=false)->jA ps (.tuple ([d]++r))=false:=fun d r h=>by
    cases hps:ps with
    | nil=>rw [hps] at hp1;simp at hp1
    | cons p ps' =>
      show (_&&((([d]++r).zip (p::ps')).all fun q=>Do q.2.ns q.1))=false;rw [List.singleton_append,List.zip_cons_cons,List.all_cons,h p (by rw [hps];exact List.mem_cons_self),Bool.false_and,Bool.and_false]
  have good_r:∀ d,eU d->eU (.tuple ([d]++(cG (fun i=>oD (f i)) ps.length).drop 1)):=fun d hd=>eA.mpr fun x hx=>by
    rcases List.mem_append.mp hx with y | y
    · simp at y;rw [y];exact hd
    · exact (fl x (List.mem_of_mem_drop y)).1
  simp only [List.mem_cons,List.mem_nil_iff,or_false] at hx;rcases hx with rfl | rfl | rfl | rfl | rfl
  · refine ⟨eA.mpr fun x hx=>?_,?_⟩
    · rcases List.mem_append.mp hx with y | y
      · exact (fl x y).1
      · simp at y;rw [y];exact kL
    · show (decide ((cG (fun i=>oD (f i)) ps.length++[PyData.none]).length=ps.length)&&_)=false;rw [List.length_append,bJ,decide_eq_false (by simp)];rfl
  · exact ⟨qT.mpr fun x hx=>(fl x hx).1,rfl⟩
  · refine ⟨good_r _ (ie _),cons_bad _ _ fun p hp=>?_⟩;show (p.ns.any fun j=>decide (j=(ps.length:Int)))=false;rw [List.any_eq_false];intro j hj;have:=G.hgo p hp j hj;rw [decide_eq_false (by omega)];simp
  · exact ⟨good_r _ (nK _),cons_bad _ _ fun p _=>rfl⟩
  · exact ⟨kL,rfl⟩
noncomputable abbrev hV (a:PyData) (ps:List P4) (w:Int) (dw dm:PyData) (f:Int->Option Int) (c6 c7 c8 c9 c10:aT):aW:=[.val a,.val (gD ps),.val (.int w),.val dw,.val dm,.val (oT f ps.length),c6,c7,c8,c9,c10]
noncomputable def Hq:Fs:=(iI (tE (e2 (fY) (e2 da (af 7) (eC (.int 5))) (eC (.int 1)))) (aR (bN 8 (e2 bC (gg (ah (gh (ah (eC (.int 0)) (ah (eC (.int 0)) az))) (ah (gh (ah (e1 cF (af 1)) az)) (ah (gg (ah (eC (.int 0)) az)) (ah (gh (ah (e1 vp (eC (.int 1))) az)) (ah (eC .none) (ah (gh (ah (eC (.bool false)) az)) az))))))) (e2 da (e2 fS (af 7) (eC (.int 5))) (eC (.int 6))))) (aR (bN 9 (e2 bC (gg (ah (e2 eW (af 5) (gh (ah (eC .none) az))) (ah (e1 mn (af 5)) (ah (e2 eW (gh (ah (e1 cF (af 1)) az)) (Dg (af 5) (oz (eC (.int 1))) oy)) (ah (e2 eW (gh (ah (eC (.bool true)) az)) (Dg (af 5) (oz (eC (.int 1))) oy)) (ah (eC .none) az)))))) (e2 da (e2 fS (af 7) (eC (.int 30))) (eC (.int 5))))) (aR (iI (oU (tE (e2 (nh) (aC bn (ah (af 1) (ah (af 2) (ah (af 8) (ah (af 5) az))))) (eC (.str (PySem.Str.ofString "part"))))) (tE (e2 (nh) (aC bn (ah (af 1) (ah (af 2) (ah (af 6) (ah (af 9) az))))) (eC (.str (PySem.Str.ofString "moves")))))) (cj (eC (.bool false))) cn) (iI (tE (e2 (nh) (aC bn (ah (af 1) (ah (af 2) (ah (af 8) (ah (af 9) az))))) (eC (.str (PySem.Str.ofString "part"))))) (cj (eC (.bool false))) cn)))) cn)
theorem ER {a dw dm:PyData} {ps:List P4} (G:Gr ps) (hp1:1<=ps.length) {w v:Int} {f:Int->Option Int} {qs:List Int} (pq:dU ps.length qs) (c8 c9 c10:aT) :
    ∃ c8' c9',Hq (hV a ps w dw dm f (.val (.tuple (qs.map .int))) (.val (.int v)) c8 c9 c10)=.ok (.nx (hV a ps w dw dm f (.val (.tuple (qs.map .int))) (.val (.int v)) c8' c9' c10)):=by
  have hp:=G.hp;have hdm:∀ n:Int,0 < n/\n < 1073741824->fS (.int v) (.int n)=.ok (.int (v / n)):=fun n h=>by rw [sj,if_pos h]
  have hmm:∀ m n:Int,0 < n->da (.int m) (.int n)=.ok (.int (m%n)):=fun m n h=>by rw [kg,if_pos h]
  have hlen:cF (gD ps)=.ok (.int ps.length):=by simp
  by_cases h5:v%5=1
  · obtain ⟨x,hxm,hx⟩:=sk (xs:=[.tuple [.int 0,.int 0],.tuple [.int ps.length],.list [.int 0],.tuple [.int (-1)],.none,.tuple [.bool false]]) (i:=v / 5%6) (by omega) (by simp;omega);obtain ⟨y,hym,hy⟩:=sk (xs:=[.tuple (cG (fun i=>oD (f i)) ps.length++[.none]),.list (cG (fun i=>oD (f i)) ps.length),.tuple ([.int ps.length]++(cG (fun i=>oD (f i)) ps.length).drop 1),.tuple ([.bool true]++(cG (fun i=>oD (f i)) ps.length).drop 1),.none]) (i:=v / 30%5) (by omega) (by simp;omega);obtain ⟨gx,bx⟩:=Ca hxm;obtain ⟨gy,bY⟩:=BA G hp1 hym;have r1:=rd (uk (w:=w) (m:=oT f ps.length) gx bx);have r2:=yD (zR hp (w:=w) pq gy bY);have r3:=rd (uk (w:=w) (m:=y) gx bx);refine ⟨.val x,.val y,?_⟩;unfold Hq;rw [bZ];simp only [bO,ba,ak,am,bf,R.ok_bind,hmm _ 5 (by decide),dR,bM];rw [if_pos (decide_eq_true h5)];rw [aD (ρ':=hV a ps w dw dm f (.val (.tuple (qs.map .int))) (.val (.int v)) (.val x) c9 c10) (by
      rw [bi,ba];have l1:∀ (d:PyData),gh (ah (eC d) az) (hV a ps w dw dm f (.val (.tuple (qs.map .int))) (.val (.int v)) c8 c9 c10)=.ok (.tuple [d]):=fun d=>by
        rw [iB];simp only [av,aA,bf,R.ok_bind];rw [if_pos (by show 1<=_;decide)]
      have l2:gh (ah (eC (.int 0)) (ah (eC (.int 0)) az)) (hV a ps w dw dm f (.val (.tuple (qs.map .int))) (.val (.int v)) c8 c9 c10)=.ok (.tuple [.int 0,.int 0]):=by
        rw [iB];simp only [av,aA,bf,R.ok_bind];rw [if_pos (by show 2<=_;decide)]
      have l3:gh (ah (e1 cF (af 1)) az) (hV a ps w dw dm f (.val (.tuple (qs.map .int))) (.val (.int v)) c8 c9 c10)=.ok (.tuple [.int ps.length]):=by
        rw [iB];simp only [av,aA,bT,ak,am,R.ok_bind,hlen];rw [if_pos (by show 1<=_;decide)]
      have l4:gg (ah (eC (.int 0)) az) (hV a ps w dw dm f (.val (.tuple (qs.map .int))) (.val (.int v)) c8 c9 c10)=.ok (.list [.int 0]):=by
        rw [gU];simp only [av,aA,bf,R.ok_bind];rw [if_pos (by show 1<=_;decide)]
      have l5:gh (ah (e1 vp (eC (.int 1))) az) (hV a ps w dw dm f (.val (.tuple (qs.map .int))) (.val (.int v)) c8 c9 c10)=.ok (.tuple [.int (-1)]):=by
        rw [iB];simp only [av,aA,bT,bf,R.ok_bind,DY];rw [if_pos (by show 1<=_;decide)]
      rw [gU];simp only [av,aA,l1,l2,l3,l4,l5,bf,R.ok_bind,List.length_cons,List.length_nil,ba,ak,am,hdm 5 (by decide),hmm _ 6 (by decide)];rw [if_pos (by show 6<=_;decide),R.ok_bind,hx];rfl)]
    rw [aD (ρ':=hV a ps w dw dm f (.val (.tuple (qs.map .int))) (.val (.int v)) (.val x) (.val y) c10) (by
      rw [bi,ba];have l1:∀ (d:PyData),gh (ah (eC d) az) (hV a ps w dw dm f (.val (.tuple (qs.map .int))) (.val (.int v)) (.val x) c9 c10)=.ok (.tuple [d]):=fun d=>by
        rw [iB];simp only [av,aA,bf,R.ok_bind];rw [if_pos (by show 1<=_;decide)]
      have l3:gh (ah (e1 cF (af 1)) az) (hV a ps w dw dm f (.val (.tuple (qs.map .int))) (.val (.int v)) (.val x) c9 c10)=.ok (.tuple [.int ps.length]):=by
        rw [iB];simp only [av,aA,bT,ak,am,R.ok_bind,hlen];rw [if_pos (by show 1<=_;decide)]
      have k1:D2.ml (cG (fun i=>oD (f i)) ps.length) (some 1) none=(cG (fun i=>oD (f i)) ps.length).drop 1:=by
        rw [show (some (1:Int))=some ((1:Nat):Int) from rfl,DU (by rw [bJ];omega)]
      have a1:eW (oT f ps.length) (.tuple [.none])=.ok (.tuple (cG (fun i=>oD (f i)) ps.length++[.none])):=by
        rw [zB,if_pos (by rw [bJ];exact bQ (by simp;omega))]
      have a2:∀ d:PyData,eW (.tuple [d]) (.tuple ((cG (fun i=>oD (f i)) ps.length).drop 1))=.ok (.tuple ([d]++(cG (fun i=>oD (f i)) ps.length).drop 1)):=fun d=>by
        rw [zB,if_pos (by rw [List.length_drop,bJ];exact bQ (by simp;omega))]
      rw [gU];simp only [av,aA,bT,ba,zG,uy,ux,l1,l3,bf,ak,am,R.ok_bind,De,FC,wF,k1,a1,a2,List.length_cons,List.length_nil,hdm 30 (by decide),hmm _ 5 (by decide)];rw [if_pos (by show 5<=_;decide),R.ok_bind,hy];rfl)]
    rw [aD (ρ':=hV a ps w dw dm f (.val (.tuple (qs.map .int))) (.val (.int v)) (.val x) (.val y) c10) (by
      simp only [bZ,sP,bO,ba,aO,av,aA,ak,am,bf,R.ok_bind,r1,r2,rg,vY,bM];rfl)]
    simp only [bZ,bO,ba,aO,av,aA,ak,am,bf,R.ok_bind,r3,rg,bM];rfl
  · refine ⟨c8,c9,?_⟩;unfold Hq;rw [bZ];simp only [bO,ba,ak,am,bf,R.ok_bind,hmm _ 5 (by decide),dR,bM];rw [if_neg (by rw [decide_eq_false h5];simp)];rfl
theorem Ag (c:Addr):Ae (wo c):=by
  intro ns hns;obtain ⟨ps,hi,hgr,hpl,hp1,hp24,hi0,hi12⟩:=vF ns (most:=24) (by omega) (by omega);have G:Gr ps:=FN hpl hp24;have hp:=G.hp;have hlen:cF (gD ps)=.ok (.int ps.length):=by simp
  have hall:∀ i∈ids ps.length,(ay ps i=0\/ay ps i=1)/\0<=aF ps i/\aF ps i < 13:=fun i hi'=>by
    obtain ⟨h0,h1⟩:=eR.mp hi';have P:=hpl _ (List.getElem_mem (show i.toNat < ps.length by omega));rw [fH h0 h1,fM h0 h1];have:=P.w0;have:=P.w1;have:=P.m0;have:=P.m1;omega
  have hne:∀ i∈ids ps.length,aL ps i≠[]:=fun i hi z=>by
    obtain ⟨h0,h1⟩:=eR.mp hi;obtain ⟨g,hg⟩:=G.gne h0 h1;rw [z] at hg;cases hg
  obtain ⟨win,mv,hwon,I,hn⟩:=E7 G (yR G) (c:=c) hall;have hmvg:∀ i g,mv i=some g->g∈aL ps i:=fun i g h=>by
    by_cases hi':i∈ids ps.length
    · by_cases ho:ay ps i=win i
      · obtain ⟨g',h1,h2⟩:=I.has i hi' ho;rw [h1] at h;cases h;exact h2
      · rw [I.non i hi' ho] at h;cases h
    · rw [hn i hi'] at h;cases h
  obtain ⟨v1,hv1,v10,_⟩:=kq ns (k:=1) (by omega);obtain ⟨v2,hv2,v20,_⟩:=kq ns (k:=2) (by omega);obtain ⟨v3,hv3,v30,_⟩:=kq ns (k:=3) (by omega);obtain ⟨w,ew⟩:∃ w,w=v1%2:=⟨_,rfl⟩
  obtain ⟨f,hf,fg⟩:=yp G hp1 hne w (num:=v2) hmvg;obtain ⟨s1,hs1,s1lt,s1in⟩:=CM (n:=v1 / 6) (c:=ps.length) (by omega) (by omega);obtain ⟨dw,edw⟩:∃ dw,dw=oT (fun i=>some (win i)) ps.length:=⟨_,rfl⟩
  have hcmp:=cu (t:=tE (e2 (fY) (e2 bC (af 1) (af 0)) (af 2))) (ρ:=[.val dw,.val (.int w)]) (p:=fun i=>decide (win i=w)) (ids ps.length) fun i hi'=>by
    obtain ⟨h0,h1⟩:=eR.mp hi';simp only [List.set_cons_zero,bO,ba,am,ak,R.ok_bind,edw,xp h0 h1,oD,dR,bM]
  have hr1:qC [.int (ps.length:Int)]=.ok (bU 0 ps.length):=by rw [Dz (by omega) (by omega),Int.toNat_natCast]
  have hrm:bU 0 ps.length=(ids ps.length).map .int:=jB _;have hdm:∀ m n:Int,0 < n/\n < 1073741824->fS (.int m) (.int n)=.ok (.int (m / n)):=fun m n h=>by rw [sj,if_pos h]
  have hmm:∀ m n:Int,0 < n->da (.int m) (.int n)=.ok (.int (m%n)):=fun m n h=>by rw [kg,if_pos h]
  obtain ⟨qs,pq,hst⟩:∃ qs,dU ps.length qs/\(iI (tE (e2 (fY) (e2 da (e2 fS (aC bc (ah (af 0) (ah (eC (.int 1)) az))) (eC (.int 2))) (eC (.int 3))) (eC (.int 1)))) (bN 6 (aC dO (ah (e2 fS (aC bc (ah (af 0) (ah (eC (.int 1)) az))) (eC (.int 6))) (ah (e1 cF (af 1)) az)))) cn)
      (hV (sU ns) ps w dw (oT mv ps.length) f (.val (.tuple (((ids ps.length).filter fun i=>decide (win i=w)).map .int))) .non .non .non .non)=.ok (.nx (hV (sU ns) ps w dw (oT mv ps.length) f (.val (.tuple (qs.map .int))) .non .non .non .non)):=by
    by_cases h:v1 / 2%3=1
    · refine ⟨s1,⟨s1lt,s1in⟩,?_⟩;rw [bZ];simp only [bO,ba,aO,av,aA,am,bf,R.ok_bind,hv1,hdm _ 2 (by decide),hmm _ 3 (by decide),dR,bM];rw [if_pos (decide_eq_true h)];simp -implicitDefEqProofs only [bi,bT,ba,aO,av,aA,ak,am,bf,R.ok_bind,hv1,hdm _ 6 (by decide),hlen,hs1];rfl
    · refine ⟨(ids ps.length).filter fun i=>decide (win i=w),(dU.ids _).filter _,?_⟩;rw [bZ];simp only [bO,ba,aO,av,aA,am,bf,R.ok_bind,hv1,hdm _ 2 (by decide),hmm _ 3 (by decide),dR,bM];rw [if_neg (by rw [decide_eq_false h];simp)];rfl
  obtain ⟨v,ev⟩:∃ v,v=v3 / 24:=⟨_,rfl⟩
  obtain ⟨c8,c9,h7⟩:=ER (a:=sU ns) (dw:=dw) (dm:=oT mv ps.length) G hp1 (w:=w) (v:=v) (f:=f) pq .non .non .non;have hql:=pq.len;have hmD:oT f ps.length=mD (Dp f ps.length):=F1 f ps.length;have hhold:=zQ G (mv:=Dp f ps.length) (w9 _ _) pq (w:=w) (by rw [<- hmD];exact yw fg) (by rw [<- hmD];exact B9 _ _);have hwins:=Ba G (mv:=Dp f ps.length) (w9 _ _) (w:=w) (s:=.tuple (qs.map .int)) (qs:=qs) (.inl rfl) pq.inn (by omega);rw [<- hmD] at hhold hwins;unfold wo za;refine dE ?_;rw [show ([sU ns].map aT.val++List.replicate (11 - [sU ns].length) aT.non)=[.val (sU ns),.non,.non,.non,.non,.non,.non,.non,.non,.non,.non] from rfl];rw [aD (ρ':=[.val (sU ns),.val (gD ps),.non,.non,.non,.non,.non,.non,.non,.non,.non]) (by
    simp only [bi,aO,av,aA,am,bf,R.ok_bind,hgr];rfl)]
  rw [aD (ρ':=[.val (sU ns),.val (gD ps),.val (.int w),.non,.non,.non,.non,.non,.non,.non,.non]) (by
    simp only [bi,ba,aO,av,aA,am,bf,R.ok_bind,hv1,hmm _ 2 (by decide)];rw [<- ew];rfl)]
  rw [aD (ρ':=[.val (sU ns),.val (gD ps),.val (.int w),.val dw,.val (oT mv ps.length),.non,.non,.non,.non,.non,.non]) (by
    rw [<- edw] at hwon;rw [yF _ _ _ _ dw (oT mv ps.length) (by simp only [aO,av,aA,am,ak,R.ok_bind,hwon])];rfl)]
  rw [aD (ρ':=hV (sU ns) ps w dw (oT mv ps.length) f .non .non .non .non .non) (by
    simp only [bi,aO,av,aA,ak,am,bf,R.ok_bind,hv2,hf];rfl)]
  rw [aD (ρ':=hV (sU ns) ps w dw (oT mv ps.length) f (.val (.tuple (((ids ps.length).filter fun i=>decide (win i=w)).map .int))) .non .non .non .non) (by
    rw [bi,bT,bt,show aJ 1 [3,2] (hV (sU ns) ps w dw (oT mv ps.length) f .non .non .non .non .non)=[.non,.val dw,.val (.int w)] from rfl];simp -implicitDefEqProofs only [qU,av,aA,bT,am,ak,R.ok_bind,hlen,hr1,ce];rw [if_pos (by rw [fI];exact bQ (by omega)),hrm,hcmp];rfl)]
  rw [aD hst];rw [aD (ρ':=hV (sU ns) ps w dw (oT mv ps.length) f (.val (.tuple (qs.map .int))) (.val (.int v)) .non .non .non) (by
    simp only [bi,ba,aO,av,aA,am,bf,R.ok_bind,hv3,hdm _ 24 (by decide)];rw [<- ev];rfl)]
  unfold Hq at h7;rw [aD h7];rw [aD (ρ':=hV (sU ns) ps w dw (oT mv ps.length) f (.val (.tuple (qs.map .int))) (.val (.int v)) c8 c9 (.val (.bool (rq ps w (Dp f ps.length) qs)))) (by
    simp only [bi,aO,av,aA,ak,am,R.ok_bind,hhold];rfl)]
  have hsame:∀ b:Bool,fY (.bool b) (.bool b)=.ok (.bool true):=fun b=>zC (nK b) (by simp [PyData.depth])
  simp only [cH,BJ,bT,ba,aO,av,aA,ak,am,R.ok_bind,hwins,hsame,show k6 .bool (.bool (rq ps w (Dp f ps.length) qs))=.ok (.bool true) from rfl,bM];rfl
noncomputable def Fz:List Stmt:=PySem.Challenge.pw_duelground_k40_holds.main.body
noncomputable abbrev top (i:Nat):Stmt:=Fz.getD i (.Pass ⟨0,0,0,0⟩)
noncomputable abbrev iV:Stmt:=top 38
noncomputable abbrev kz:Stmt:=top 39
noncomputable abbrev kx:Stmt:=top 40
noncomputable abbrev ky:Stmt:=top 41
noncomputable abbrev kA:Stmt:=top 42
noncomputable abbrev gX:Stmt:=top 43
noncomputable abbrev jG:Stmt:=top 49
noncomputable abbrev iM:Stmt:=top 51
noncomputable abbrev lP:Stmt:=top 8
noncomputable abbrev nX:Stmt:=top 11
noncomputable abbrev iK:Stmt:=top 12
noncomputable abbrev jF:Stmt:=top 9
noncomputable abbrev lO:Stmt:=top 10
noncomputable abbrev nW:Stmt:=top 25
noncomputable abbrev eT:Stmt:=top 26
noncomputable abbrev nY:Stmt:=top 24
noncomputable abbrev kP:Stmt:=top 17
noncomputable abbrev mS:Stmt:=top 27
noncomputable abbrev iX:Stmt:=top 50
noncomputable abbrev jH:Stmt:=top 44
noncomputable abbrev jI:Stmt:=top 45
noncomputable abbrev gY:Stmt:=top 47
noncomputable abbrev iW:Stmt:=top 46
noncomputable abbrev dX:Stmt:=top 48
noncomputable abbrev jE:Stmt:=top 15
noncomputable abbrev jJ:Stmt:=top 20
noncomputable abbrev fF:Stmt:=top 19
noncomputable abbrev mT:Stmt:=top 31
noncomputable abbrev eJ:Stmt:=top 32
noncomputable abbrev mQ:Stmt:=top 16
noncomputable abbrev iL:Stmt:=top 29
noncomputable abbrev fJ:Stmt:=top 30
noncomputable abbrev jK:Stmt:=top 18
noncomputable abbrev gN:Stmt:=top 21
noncomputable abbrev dj:Stmt:=top 34
noncomputable abbrev dY:Stmt:=top 22
noncomputable abbrev gi:Stmt:=top 35
noncomputable abbrev AO:Stmt:=top 36
noncomputable abbrev lg:Stmt:=top 52
section
variable {P:Program} {w:World} {K:PySem.W.Frag} {mg:Str->Option Value} {base:Heap} {f:Addr} {fd:FuncData} {k:Nat}
noncomputable abbrev kO:Stmt:=BW (top 14) 0
theorem Bq:aY ["self","who","places","moves"] ["self","who","places","moves"] (aq kO):=⟨rfl,rfl,rfl,by decide +kernel,rfl,by decide +kernel,by decide +kernel⟩
theorem Bm {P:Program} {w:World} {K:PySem.W.Frag} {mg:Str->Option Value} {base:Heap} {f C:Addr} {fd:FuncData} (F:gn K "__init__" "Share.__init__" kO f fd) (cl:yU K C) (n0:fy K C "who") (n1:fy K C "places") (n2:fy K C "moves") :
    bd P w K mg base (cS P w mg) 1 f fd ["self","who","places","moves"] (Ho C ["who","places","moves"]):=by
  obtain ⟨oc,od,kV,doc,pm,an,cdv,ct,osl,rfl,lk,hcd⟩:=F.ex;refine zM (k:=0) lk hcd Bq (fun vs H Q E h=>?_) fun A outer s H vs Q E hr h=>?_
  · obtain ⟨x,dx,ws,rfl,_,hl,_⟩:=h;rw [List.length_cons,hl];rfl
  · obtain ⟨x,dx,ws,rfl,hx,hl,k⟩:=h;obtain ⟨w1,r0,rfl,q0⟩:=D2.iw hl;obtain ⟨w2,r1,rfl,q1⟩:=D2.iw q0;obtain ⟨w3,r2,rfl,q2⟩:=D2.iw q1;obtain rfl:=List.eq_nil_of_length_eq_zero q2;refine ⟨_,p0 (vQ (pv 0) (pv 1) rfl) (p0 (vQ (pv 0) (pv 2) rfl) (xi (vQ (pv 0) (pv 3) rfl))),?_⟩;refine ⟨_,rfl,_,rfl,x,C,dx,[],rfl,hx,cl,n0,(by show 0 < 1000;decide),_,rfl,_,rfl,x,C,dx,_,rfl,bq,cl,n1,(by show 1 < 1000;decide),_,rfl,_,rfl,x,C,dx,_,rfl,bq,cl,n2,(by refine Nat.lt_of_le_of_lt (iE _ _ _) ?_;exact Nat.lt_of_le_of_lt (Nat.succ_le_succ (iE _ _ _)) (by show 2 < 1000;decide)),?_⟩;refine k _ (by rw [bq,Gh (by decide +kernel) (by decide +kernel) (by decide +kernel)];rfl) fun b hb=>?_
    rw [aB hb,aB hb,aB hb]
theorem qr:aY ["_law_script","_law_k"] ["_law_script","_law_k"] (aq iV):=⟨rfl,rfl,rfl,by decide +kernel,rfl,by decide +kernel,by decide +kernel⟩
theorem ql (W:gn K "_law_cell_at" "_law_cell_at" iV f fd) (b_len:mg "len" = none) :
    bd P w K mg base (cS P w mg) (k+1) f fd ["_law_script","_law_k"] (dC (dP 2 (iP)) 2):=by
  refine aH W qr (G:=["len"]) (by decide +kernel) fun cdv A outer s H E hr T=>?_
  exact (aj (cf (tO (ad (aa T 1 rfl)) (ad (ca T 0 rfl b_len (ad (aa T 0 rfl))))) (ar (aI (aE T.hu (ad (aa T 0 rfl)) (ad (aa T 1 rfl)) (fun _ _=>rfl)))) bL)
      (ar (aI ai)))
theorem tD:aY ["_law_script","_law_k","_law_drawn_here"] ["_law_script","_law_k"] (aq kz):=⟨rfl,rfl,rfl,by decide +kernel,rfl,by decide +kernel,by decide +kernel⟩
theorem sZ (W:gn K "_law_mixed" "_law_mixed" kz f fd) {f24:Addr} {d24:FuncData} {cN:gk} (C24:gu P w K mg base k "_law_cell_at" ["_law_script","_law_k"] cN f24 d24) :
    bd P w K mg base (cS P w mg) (k+1) f fd ["_law_script","_law_k"] (dC (dP 3 (jY cN)) 2):=by
  refine aH W tD (G:=["_law_cell_at"]) (by decide +kernel) fun cdv A outer s H E hr T=>?_
  exact (aj (aP T 2 rfl (bp (ad (fR (ad (cK (ad (cK (ad (aw C24 hr T 0 rfl (ae (aa T 0 rfl) (ae (aa T 1 rfl) ao)) rfl (ag (ag au)))) (ad (fR (ad ai) (ad (aa T 1 rfl)))))) (ad ai))) (ad ai))) (ad ai)))
      (ar (aI (bp (ad (cK (ad (cK (ad (fR (ad (aa T 2 rfl)) (ad (aa T 2 rfl)))) (ad (fR (ad ai) (ad (aa T 2 rfl)))))) (ad (aa T 1 rfl)))) (ad ai)))))
theorem tx:aY ["_law_number","_law_k","_law_drawn_here"] ["_law_number","_law_k"] (aq kx):=⟨rfl,rfl,rfl,by decide +kernel,rfl,by decide +kernel,by decide +kernel⟩
theorem sX (W:gn K "_law_drawn" "_law_drawn" kx f fd) :
    bd P w K mg base (cS P w mg) (k+1) f fd ["_law_number","_law_k"] (dC (dP 3 (jW)) 2):=by
  refine aH W tx (G:=[]) (by decide +kernel) fun cdv A outer s H E hr T=>?_
  exact (aj (aP T 2 rfl (bp (ad (fR (ad (cK (ad (cK (ad (aa T 0 rfl)) (ad (fR (ad ai) (ad (aa T 1 rfl)))))) (ad ai))) (ad ai))) (ad ai)))
      (ar (aI (bp (ad (cK (ad (cK (ad (fR (ad (aa T 2 rfl)) (ad (aa T 2 rfl)))) (ad (fR (ad ai) (ad (aa T 2 rfl)))))) (ad (aa T 1 rfl)))) (ad ai)))))
theorem tz:aY ["_law_number","_law_count","_law_found","_law_k"] ["_law_number","_law_count"] (aq ky):=⟨rfl,rfl,rfl,by decide +kernel,rfl,by decide +kernel,by decide +kernel⟩
theorem sY (W:gn K "_law_goals" "_law_goals" ky f fd) {f26:Addr} {d26:FuncData} {aG:gk} (C26:gu P w K mg base k "_law_drawn" ["_law_number","_law_k"] aG f26 d26) (b_int:mg "int" = none) (b_range:mg "range" = none) (b_sorted:mg "sorted" = none) (b_tuple:mg "tuple" = none) :
    bd P w K mg base (cS P w mg) (k+1) f fd ["_law_number","_law_count"] (dC (dP 4 (jX aG)) 2):=by
  refine aH W tz (G:=["range","int","_law_drawn","tuple","sorted"]) (by decide +kernel) fun cdv A outer s H E hr T=>?_
  exact (aj (fQ T 2 rfl j9)
      (aj (cD (have T:=T.nox;eE PassesOwn.never T.calm (gw T 0 rfl b_range (ae (cK (ad (cK (ad ai) (ad (bp (ad (aa T 0 rfl)) (ad ai))))) (ad (fR (ad ai) (ad (qG T 1 rfl b_int (ad (oW T.hu (ad (bp (ad (dq (ad (aa T 0 rfl)) (ad ai))) (ad ai))) (ad ai)))))))) ao) (ag au)) (aX T 3 rfl) (ar (pb T 2 rfl (bp (ad (aw C26 hr T 2 rfl (ae (aa T 0 rfl) (ae (aa T 3 rfl) ao)) rfl (ag (ag au)))) (ad (aa T 1 rfl))) cs))))
      (ar (aI (cc T 3 rfl b_tuple (cA (rV T 4 rfl b_sorted (dt T 2 rfl))))))))
theorem tG:aY ["_law_number","_law_count","_law_high","_law_gain"] ["_law_number","_law_count","_law_high"] (aq kA):=⟨rfl,rfl,rfl,by decide +kernel,rfl,by decide +kernel,by decide +kernel⟩
theorem tf (W:gn K "_law_place" "_law_place" kA f fd) {f26:Addr} {d26:FuncData} {aG:gk} (C26:gu P w K mg base k "_law_drawn" ["_law_number","_law_k"] aG f26 d26) {f27:Addr} {d27:FuncData} {dJ:gk} (C27:gu P w K mg base k "_law_goals" ["_law_number","_law_count"] dJ f27 d27) :
    bd P w K mg base (cS P w mg) (k+1) f fd ["_law_number","_law_count","_law_high"] (dC (dP 4 (jZ aG dJ)) 3):=by
  refine aH W tG (G:=["_law_goals","_law_drawn"]) (by decide +kernel) fun cdv A outer s H E hr T=>?_
  exact (aj (aP T 3 rfl (j8 (ad (bp (ad (dq (ad (aa T 0 rfl)) (ad ai))) (ad ai))) (ad ai)))
      (aj (cf (cC T.hu (ad (bp (ad (dq (ad (aa T 0 rfl)) (ad ai))) (ad ai))) (ad ai)) (ar (aP T 3 rfl (j8 (ad (bp (ad (dq (ad (aa T 0 rfl)) (ad ai))) (ad ai))) (ad ai)))) bL)
      (ar (aI (fB (ae (bp (ad (aa T 0 rfl)) (ad ai)) (ae (bp (ad (dq (ad (aa T 0 rfl)) (ad ai))) (ad (cK (ad (aa T 2 rfl)) (ad ai)))) (ae (aa T 3 rfl) (ae (aw C27 hr T 0 rfl (ae (aw C26 hr T 1 rfl (ae (aa T 0 rfl) (ae ai ao)) rfl (ag (ag au))) (ae (aa T 1 rfl) ao)) rfl (ag (ag au))) ao)))))))))
theorem rP:aY ["_law_script","_law_most","_law_number","_law_count","_law_high"] ["_law_script","_law_most"] (aq gX):=⟨rfl,rfl,rfl,by decide +kernel,rfl,by decide +kernel,by decide +kernel⟩
theorem rE (W:gn K "_law_ground" "_law_ground" gX f fd) {f25:Addr} {d25:FuncData} {bc:gk} (C25:gu P w K mg base k "_law_mixed" ["_law_script","_law_k"] bc f25 d25) {f28:Addr} {d28:FuncData} {dc:gk} (C28:gu P w K mg base k "_law_place" ["_law_number","_law_count","_law_high"] dc f28 d28) (b_len:mg "len" = none) (b_max:mg "max" = none) (b_min:mg "min" = none) (b_range:mg "range" = none) (b_tuple:mg "tuple" = none) :
    bd P w K mg base (cS P w mg) (k+1) f fd ["_law_script","_law_most"] (dC (dP 5 (ji bc dc)) 2):=by
  refine aH W rP (G:=["_law_mixed","min","max","len","tuple","range"]) (by decide +kernel) fun cdv A outer s H E hr T=>?_
  exact (aj (aP T 2 rfl (aw C25 hr T 0 rfl (ae (aa T 0 rfl) (ae ai ao)) rfl (ag (ag au))))
      (aj (aP T 3 rfl (cK (ad ai) (ad (bp (ad (aa T 2 rfl)) (ad (zk T 1 rfl b_min (ad (aa T 1 rfl)) (ad (zj T 2 rfl b_max (ad ai) (ad (ca T 3 rfl b_len (ad (aa T 0 rfl))))))))))))
      (aj (aP T 4 rfl (aE T.hu (cA (dh (ae ai (ae ai (ae ai (ae ai (ae ai (ae ai ao)))))))) (ad (bp (ad (dq (ad (aa T 2 rfl)) (ad ai))) (ad ai))) (fun _ _=>rfl)))
      (ar (aI (cc T 4 rfl b_tuple (cA (bA (N:=["_law_k","_law_script","_law_count","_law_high"]) (own:=1) (G:=["_law_place","_law_mixed"]) (fr:=[0,3,4]) T rfl rfl (oN:=["_law_script","_law_most","_law_number","_law_count","_law_high"]) (on:=(aq gX).names) (by decide +kernel) (gw T 5 rfl b_range (ae (aa T 3 rfl) ao) (ag au)) (bH (by decide)) (fun cl C s' H' fp E' T=>⟨(aX T 0 rfl),dZ,(aw C28 hr T 0 rfl (ae (aw C25 hr T 1 rfl (ae (aa T 1 rfl) (ae (cK (ad ai) (ad (aa T 0 rfl))) ao)) rfl (ag (ag au))) (ae (aa T 2 rfl) (ae (aa T 3 rfl) ao))) rfl (ag (ag (ag au))))⟩)))))))))
theorem rO:aY ["_law_ground_here","_law_who","_law_number","_law_share","_law_found","_law_k","_law_place_here","_law_drawn_here"] ["_law_ground_here","_law_who","_law_number","_law_share"] (aq jG):=⟨rfl,rfl,rfl,by decide +kernel,rfl,by decide +kernel,by decide +kernel⟩
theorem rD (W:gn K "_law_choice" "_law_choice" jG f fd) {f26:Addr} {d26:FuncData} {aG:gk} (C26:gu P w K mg base k "_law_drawn" ["_law_number","_law_k"] aG f26 d26) (b_enumerate:mg "enumerate" = none) (b_len:mg "len" = none) (b_tuple:mg "tuple" = none) :
    bd P w K mg base (cS P w mg) (k+1) f fd ["_law_ground_here","_law_who","_law_number","_law_share"] (dC (dP 8 (jh aG)) 4):=by
  refine aH W rO (G:=["enumerate","_law_drawn","len","tuple"]) (by decide +kernel) fun cdv A outer s H E hr T=>?_
  exact (aj (fQ T 4 rfl (dh ao))
      (aj (cD (have T:=T.nox;eE PassesOwn.never T.calm (kG T 0 rfl b_enumerate (aa T 0 rfl)) (fK T 5 6 rfl rfl) (aj (aP T 7 rfl (aw C26 hr T 1 rfl (ae (aa T 2 rfl) (ae (aa T 5 rfl) ao)) rfl (ag (ag au))))
      (ar (cf (gq (kb (gB T.hu (ad (aE T.hu (ad (aa T 6 rfl)) (ad ai) (fun _ _=>rfl))) (ad (aa T 1 rfl))) (i8 (gq (i7 (ka (ad (aa T 3 rfl)) (ad ai)) (ic (cC T.hu (ad (bp (ad (aa T 7 rfl)) (ad (aa T 3 rfl)))) (ad ai)))))))) (ar (gz T 4 rfl cE)) (ar (gz T 4 rfl (aE T.hu (ad (aE T.hu (ad (aa T 6 rfl)) (ad ai) (fun _ _=>rfl))) (ad (bp (ad (dq (ad (aa T 7 rfl)) (ad ai))) (ad (ca T 2 rfl b_len (ad (aE T.hu (ad (aa T 6 rfl)) (ad ai) (fun _ _=>rfl))))))) (fun _ _=>rfl)))))))))
      (ar (aI (cc T 3 rfl b_tuple (dt T 4 rfl))))))
theorem tF:aY ["_law_ground_here","_law_who","_law_number","_law_told","_law_moves_here","_law_at"] ["_law_ground_here","_law_who","_law_number","_law_told"] (aq iM):=⟨rfl,rfl,rfl,by decide +kernel,rfl,by decide +kernel,by decide +kernel⟩
theorem s9 (W:gn K "_law_moves" "_law_moves" iM f fd) {f35:Addr} {d35:FuncData} {cO:gk} (C35:gu P w K mg base k "_law_choice" ["_law_ground_here","_law_who","_law_number","_law_share"] cO f35 d35) (b_int:mg "int" = none) (b_len:mg "len" = none) (b_tuple:mg "tuple" = none) (b_zip:mg "zip" = none) :
    bd P w K mg base (cS P w mg) (k+1) f fd ["_law_ground_here","_law_who","_law_number","_law_told"] (dC (dP 6 (gv cO)) 4):=by
  refine aH W tF (G:=["_law_choice","zip","len","tuple"]) (by decide +kernel) fun cdv A outer s H E hr T=>?_
  exact (aj (cf (cC T.hu (ad (bp (ad (aa T 2 rfl)) (ad ai))) (ad ai)) (ar (aI (aw C35 hr T 0 rfl (ae (aa T 0 rfl) (ae (aa T 1 rfl) (ae (dq (ad (aa T 2 rfl)) (ad ai)) (ae ai ao)))) rfl (ag (ag (ag (ag au))))))) bL)
      (aj (eL 4 rfl (N:=["_law_place_here","_law_move","_law_who"]) (own:=2) (G:=["int"]) (fr:=[1]) T rfl rfl (oN:=["_law_ground_here","_law_who","_law_number","_law_told","_law_moves_here","_law_at"]) (on:=(aq iM).names) (by decide +kernel) (o9 T 1 rfl b_zip (aa T 0 rfl) (aa T 3 rfl)) (hU (by decide) (by decide)) (fun cl C s' H' fp E' T=>⟨(fK T 0 1 rfl rfl),dZ,(aE T.hu (cA (dh (ae cE (ae (aa T 1 rfl) ao)))) (ad (qG T 0 rfl b_int (ad (oW T.hu (ad (aE T.hu (ad (aa T 0 rfl)) (ad ai) (fun _ _=>rfl))) (ad (aa T 2 rfl)))))) (fun _ _=>rfl))⟩))
      (aj (cf (cC T.hu (ad (bp (ad (aa T 2 rfl)) (ad ai))) (ad ai)) (aj (aP T 5 rfl (bp (ad (dq (ad (aa T 2 rfl)) (ad ai))) (ad (ca T 2 rfl b_len (ad (aa T 0 rfl))))))
      (ar (i4 T 4 rfl (have T:=T.nox;(aa T 5 rfl)) (aE T.hu (ad (aE T.hu (ad (aE T.hu (ad (aa T 0 rfl)) (ad (aa T 5 rfl)) (fun _ _=>rfl))) (ad ai) (fun _ _=>rfl))) (ad (bp (ad (dq (ad (aa T 2 rfl)) (ad ai))) (ad (ca T 2 rfl b_len (ad (aE T.hu (ad (aE T.hu (ad (aa T 0 rfl)) (ad (aa T 5 rfl)) (fun _ _=>rfl))) (ad ai) (fun _ _=>rfl))))))) (fun _ _=>rfl))))) bL)
      (ar (aI (cc T 3 rfl b_tuple (dt T 4 rfl)))))))
theorem u6:aY ["thing"] ["thing"] (aq lP):=⟨rfl,rfl,rfl,by decide +kernel,rfl,by decide +kernel,by decide +kernel⟩
theorem uT (W:gn K "is_whole" "is_whole" lP f fd) (b_bool:mg "bool" = none) (b_int:mg "int" = none) (b_isinstance:mg "isinstance" = none) :
    bd P w K mg base (cS P w mg) (k+1) f fd ["thing"] (dC (dP 1 (o5)) 1):=by
  refine aH W u6 (G:=["isinstance","int","bool"]) (by decide +kernel) fun cdv A outer s H E hr T=>?_
  exact (ar (aI (lZ (rT T 0 rfl b_isinstance T 1 rfl b_int (ad (aa T 0 rfl))) (j7 (tM (la T 0 rfl b_isinstance T 2 rfl b_bool (ad (aa T 0 rfl))))))))
theorem xH:aY ["thing","place"] ["thing","place"] (aq nX):=⟨rfl,rfl,rfl,by decide +kernel,rfl,by decide +kernel,by decide +kernel⟩
theorem xB (W:gn K "is_move" "is_move" nX f fd) {f0:Addr} {d0:FuncData} {cz:gk} (C0:gu P w K mg base k "is_whole" ["thing"] cz f0 d0) {t_GOALS:Tok} (g_GOALS:mg "GOALS" = some (.int 3 t_GOALS)) :
    bd P w K mg base (cS P w mg) (k+1) f fd ["thing","place"] (dC (dP 2 (nu cz)) 2):=by
  refine aH W xH (G:=["is_whole","GOALS"]) (by decide +kernel) fun cdv A outer s H E hr T=>?_
  exact (ar (aI (Bw (zi (ad (aa T 0 rfl)) (ad cE)) (j7 (lZ (aw C0 hr T 0 rfl (ae (aa T 0 rfl) ao) rfl (ag au)) (j7 (wv T.hu (ad (aa T 0 rfl)) (ad (aE T.hu (ad (aa T 1 rfl)) (ad (dg T 1 rfl g_GOALS)) (fun _ _=>rfl))) (by with_unfolding_all rfl))))))))
theorem tu:aY ["thing","ground"] ["thing","ground"] (aq iK):=⟨rfl,rfl,rfl,by decide +kernel,rfl,by decide +kernel,by decide +kernel⟩
theorem sV (W:gn K "are_moves" "are_moves" iK f fd) {f3:Addr} {d3:FuncData} {eK:gk} (C3:gu P w K mg base k "is_move" ["thing","place"] eK f3 d3) (b_all:mg "all" = none) (b_isinstance:mg "isinstance" = none) (b_len:mg "len" = none) (b_tuple:mg "tuple" = none) (b_zip:mg "zip" = none) :
    bd P w K mg base (cS P w mg) (k+1) f fd ["thing","ground"] (dC (dP 2 (jU eK)) 2):=by
  refine aH W tu (G:=["isinstance","tuple","len","all","zip"]) (by decide +kernel) fun cdv A outer s H E hr T=>?_
  exact (aj (cf (gq (kb (g9 (fL (j6 T 0 rfl b_isinstance T 1 rfl b_tuple (ad (aa T 0 rfl))))) (i8 (gB T.hu (ad (ca T 2 rfl b_len (ad (aa T 0 rfl)))) (ad (ca T 2 rfl b_len (ad (aa T 1 rfl)))))))) (ar (aI cs)) bL)
      (ar (aI (zh T 3 rfl b_all (cA (bA (N:=["move","place"]) (own:=2) (G:=["is_move"]) (fr:=[]) T rfl rfl (oN:=["thing","ground"]) (on:=(aq iK).names) (by decide +kernel) (o9 T 4 rfl b_zip (aa T 0 rfl) (aa T 1 rfl)) (hU (by decide) (by decide)) (fun cl C s' H' fp E' T=>⟨(fK T 0 1 rfl rfl),dZ,(aw C3 hr T 0 rfl (ae (aa T 0 rfl) (ae (aa T 1 rfl) ao)) rfl (ag (ag au)))⟩)))))))
theorem rN:aY ["thing","low","high"] ["thing","low","high"] (aq jF):=⟨rfl,rfl,rfl,by decide +kernel,rfl,by decide +kernel,by decide +kernel⟩
theorem rC (W:gn K "is_between" "is_between" jF f fd) {f0:Addr} {d0:FuncData} {cz:gk} (C0:gu P w K mg base k "is_whole" ["thing"] cz f0 d0) :
    bd P w K mg base (cS P w mg) (k+1) f fd ["thing","low","high"] (dC (dP 3 (jg cz)) 3):=by
  refine aH W rN (G:=["is_whole"]) (by decide +kernel) fun cdv A outer s H E hr T=>?_
  exact (ar (aI (lZ (aw C0 hr T 0 rfl (ae (aa T 0 rfl) ao) rfl (ag au)) (j7 (ve Av n4 Av n4 (ad (aa T 1 rfl)) (ad (aa T 0 rfl)) (ad (aa T 2 rfl)))))))
theorem u5:aY ["thing","count","least","number"] ["thing","count"] (aq lO):=⟨rfl,rfl,rfl,by decide +kernel,rfl,by decide +kernel,by decide +kernel⟩
theorem uS (W:gn K "are_some" "are_some" lO f fd) {f1:Addr} {d1:FuncData} {cM:gk} (C1:gu P w K mg base k "is_between" ["thing","low","high"] cM f1 d1) (b_isinstance:mg "isinstance" = none) (b_tuple:mg "tuple" = none) :
    bd P w K mg base (cS P w mg) (k+1) f fd ["thing","count"] (dC (dP 4 (ln cM)) 2):=by
  refine aH W u5 (G:=["isinstance","tuple","is_between"]) (by decide +kernel) fun cdv A outer s H E hr T=>?_
  exact (aj (cf (g9 (fL (j6 T 0 rfl b_isinstance T 1 rfl b_tuple (ad (aa T 0 rfl))))) (ar (aI cs)) bL)
      (aj (aP T 2 rfl ai)
      (aj (cD (have T:=T.nox;eE PassesOwn.never T.calm (bG (aa T 0 rfl)) (aX T 3 rfl) (aj (cf (g9 (fL (aw C1 hr T 2 rfl (ae (aa T 3 rfl) (ae (aa T 2 rfl) (ae (j8 (ad (aa T 1 rfl)) (ad ai)) ao))) rfl (ag (ag (ag au)))))) (ar (aI cs)) bL)
      (ar (aP T 2 rfl (cK (ad (aa T 3 rfl)) (ad ai)))))))
      (ar (aI cs)))))
theorem xG:aY ["ways","start","among","found","left","number","goal"] ["ways","start","among"] (aq nW):=⟨rfl,rfl,rfl,by decide +kernel,rfl,by decide +kernel,by decide +kernel⟩
theorem xA (W:gn K "come_to" "come_to" nW f fd) (b_len:mg "len" = none) :
    bd P w K mg base (cS P w mg) (k+1) f fd ["ways","start","among"] (dC (dP 7 (nr)) 3):=by
  refine aH W xG (G:=["len"]) (by decide +kernel) fun cdv A outer s H E hr T=>?_
  exact (aj (fQ T 3 rfl j9)
      (aj (fQ T 4 rfl (dh (ae (aa T 1 rfl) ao)))
      (aj (cD (have T:=T.nox;jo 1000000 PassesOwn.never (ka (ad (ca T 0 rfl b_len (dt T 4 rfl))) (ad ai)) (aj (zg T 5 rfl 4 rfl)
      (ar (cD (have T:=T.nox;eE PassesOwn.never T.calm (bG (aE T.hu (ad (aa T 0 rfl)) (ad (aa T 5 rfl)) (fun _ _=>rfl))) (aX T 6 rfl) (ar (cf (gq (i7 (i6 T.hu (ad (aa T 6 rfl)) (ad (aa T 2 rfl)) (by with_unfolding_all rfl)) (ic (iy T.hu (ad (aa T 6 rfl)) (dt T 3 rfl) (by with_unfolding_all rfl))))) (aj (pb T 3 rfl (aa T 6 rfl) cs)
      (ar (gz T 4 rfl (aa T 6 rfl)))) bL))))))))
      (ar (nD T 3 rfl)))))
theorem lX:aY ["ground","who","ways","number","highest","among"] ["ground","who","ways","number"] (aq eT):=⟨rfl,rfl,rfl,by decide +kernel,rfl,by decide +kernel,by decide +kernel⟩
theorem lU (W:gn K "is_on_lost_ring" "is_on_lost_ring" eT f fd) {f14:Addr} {d14:FuncData} {ff:gk} (C14:gu P w K mg base k "come_to" ["ways","start","among"] ff f14 d14) {t_MARK:Tok} (g_MARK:mg "MARK" = some (.int 1 t_MARK)) :
    bd P w K mg base (cS P w mg) (k+1) f fd ["ground","who","ways","number"] (dC (dP 6 (fP ff)) 4):=by
  refine aH W lX (G:=["MARK","come_to"]) (by decide +kernel) fun cdv A outer s H E hr T=>?_
  exact (aj (aP T 4 rfl (aE T.hu (ad (aE T.hu (ad (aa T 0 rfl)) (ad (aa T 3 rfl)) (fun _ _=>rfl))) (ad (dg T 0 rfl g_MARK)) (fun _ _=>rfl)))
      (aj (cf (cC T.hu (ad (bp (ad (aa T 4 rfl)) (ad ai))) (ad (aa T 1 rfl))) (ar (aI cs)) bL)
      (aj (ib (eL 5 rfl (N:=["other","ground","highest"]) (own:=1) (G:=["MARK"]) (fr:=[0,4]) T rfl rfl (oN:=["ground","who","ways","number","highest","among"]) (on:=(aq eT).names) (by decide +kernel) (xK (aa T 2 rfl)) (bH (by decide)) (fun cl C s' H' fp E' T=>⟨(aX T 0 rfl),(dn (tN (ad (aE T.hu (ad (aE T.hu (ad (aa T 1 rfl)) (ad (aa T 0 rfl)) (fun _ _=>rfl))) (ad (dg T 0 rfl g_MARK)) (fun _ _=>rfl))) (ad (aa T 2 rfl)))),(aa T 0 rfl)⟩)) (show 5 < 6 by decide))
      (ar (aI (wv T.hu (ad (aa T 3 rfl)) (ad (aw C14 hr T 1 rfl (ae (aa T 2 rfl) (ae (aa T 3 rfl) (ae (aa T 5 rfl) ao))) rfl (ag (ag (ag au))))) (by with_unfolding_all rfl)))))))
theorem xI:aY ["ground","who","places","moves","ways","number"] ["ground","who","places","moves"] (aq nY):=⟨rfl,rfl,rfl,by decide +kernel,rfl,by decide +kernel,by decide +kernel⟩
theorem xC (W:gn K "ways_by" "ways_by" nY f fd) {t_GOALS:Tok} (g_GOALS:mg "GOALS" = some (.int 3 t_GOALS)) {t_WHO:Tok} (g_WHO:mg "WHO" = some (.int 0 t_WHO)) :
    bd P w K mg base (cS P w mg) (k+1) f fd ["ground","who","places","moves"] (dC (dP 6 (nv)) 4):=by
  refine aH W xI (G:=["WHO","GOALS"]) (by decide +kernel) fun cdv A outer s H E hr T=>?_
  exact (aj (fQ T 4 rfl j9)
      (aj (cD (have T:=T.nox;eE PassesOwn.never T.calm (bG (aa T 2 rfl)) (aX T 5 rfl) (ar (pb T 4 rfl (aa T 5 rfl) (jp (cC T.hu (ad (aE T.hu (ad (aE T.hu (ad (aa T 0 rfl)) (ad (aa T 5 rfl)) (fun _ _=>rfl))) (ad (dg T 0 rfl g_WHO)) (fun _ _=>rfl))) (ad (aa T 1 rfl))) (fB (ae (aE T.hu (ad (aa T 3 rfl)) (ad (aa T 5 rfl)) (fun _ _=>rfl)) ao)) (aE T.hu (ad (aE T.hu (ad (aa T 0 rfl)) (ad (aa T 5 rfl)) (fun _ _=>rfl))) (ad (dg T 1 rfl g_GOALS)) (fun _ _=>rfl)))))))
      (ar (nD T 4 rfl))))
theorem xJ:aY ["some","others"] ["some","others"] (aq kP):=⟨rfl,rfl,rfl,by decide +kernel,rfl,by decide +kernel,by decide +kernel⟩
theorem xD (W:gn K "without" "without" kP f fd) (b_tuple:mg "tuple" = none) :
    bd P w K mg base (cS P w mg) (k+1) f fd ["some","others"] (dC (dP 2 (kF)) 2):=by
  refine aH W xJ (G:=["tuple"]) (by decide +kernel) fun cdv A outer s H E hr T=>?_
  exact (ar (aI (cc T 0 rfl b_tuple (cA (bA (N:=["number","others"]) (own:=1) (G:=[]) (fr:=[1]) T rfl rfl (oN:=["some","others"]) (on:=(aq kP).names) (by decide +kernel) (bG (aa T 0 rfl)) (bH (by decide)) (fun cl C s' H' fp E' T=>⟨(aX T 0 rfl),(dn (iy T.hu (ad (aa T 0 rfl)) (ad (aa T 1 rfl)) (by with_unfolding_all rfl))),(aa T 0 rfl)⟩))))))
theorem Br:aY ["ground","who","places","moves","ways"] ["ground","who","places","moves"] (aq mS):=⟨rfl,rfl,rfl,by decide +kernel,rfl,by decide +kernel,by decide +kernel⟩
theorem Bn (W:gn K "holds" "holds" mS f fd) {f4:Addr} {d4:FuncData} {dI:gk} (C4:gu P w K mg base k "are_moves" ["thing","ground"] dI f4 d4) {f2:Addr} {d2:FuncData} {dN:gk} (C2:gu P w K mg base k "are_some" ["thing","count"] dN f2 d2) {f15:Addr} {d15:FuncData} {bF:gk} (C15:gu P w K mg base k "is_on_lost_ring" ["ground","who","ways","number"] bF f15 d15) {f13:Addr} {d13:FuncData} {fi:gk} (C13:gu P w K mg base k "ways_by" ["ground","who","places","moves"] fi f13 d13) {f7:Addr} {d7:FuncData} {aV:gk} (C7:gu P w K mg base k "without" ["some","others"] aV f7 d7) (b_any:mg "any" = none) (b_len:mg "len" = none) {c_NoMoves:Addr} (m_NoMoves:mg "NoMoves" = some (.ref c_NoMoves)) (q_NoMoves:PySem.W.excIn K c_NoMoves tV sT=true) {c_NoPart:Addr} (m_NoPart:mg "NoPart" = some (.ref c_NoPart)) (q_NoPart:PySem.W.excIn K c_NoPart tV sT=true) :
    bd P w K mg base (cS P w mg) (k+1) f fd ["ground","who","places","moves"] (dC (dP 5 (lW dI dN bF fi aV)) 4):=by
  refine aH W Br (G:=["are_some","len","NoPart","are_moves","NoMoves","ways_by","any"]) (by decide +kernel) fun cdv A outer s H E hr T=>?_
  exact (aj (cf (g9 (fL (aw C2 hr T 0 rfl (ae (aa T 2 rfl) (ae (ca T 1 rfl b_len (ad (aa T 0 rfl))) ao)) rfl (ag (ag au))))) (ar (pd T 2 rfl m_NoPart q_NoPart (have T:=T.nox;gA))) bL)
      (aj (cf (g9 (fL (aw C4 hr T 3 rfl (ae (aa T 3 rfl) (ae (aa T 0 rfl) ao)) rfl (ag (ag au))))) (ar (pd T 4 rfl m_NoMoves q_NoMoves (have T:=T.nox;gA))) bL)
      (aj (aP T 4 rfl (aw C13 hr T 5 rfl (ae (aa T 0 rfl) (ae (aa T 1 rfl) (ae (aa T 2 rfl) (ae (aa T 3 rfl) ao)))) rfl (ag (ag (ag (ag au))))))
      (aj (cf (fL (tJ T 6 rfl b_any (cA (bA (N:=["goals","places"]) (own:=1) (G:=["len","without"]) (fr:=[2]) T rfl rfl (oN:=["ground","who","places","moves","ways"]) (on:=(aq mS).names) (by decide +kernel) (xL (aa T 4 rfl)) (bH (by decide)) (fun cl C s' H' fp E' T=>⟨(aX T 0 rfl),dZ,(wu (ad (ca T 0 rfl b_len (ad (aw C7 hr T 1 rfl (ae (aa T 0 rfl) (ae (aa T 1 rfl) ao)) rfl (ag (ag au)))))) (ad ai))⟩))))) (ar (aI cs)) bL)
      (ar (aI (tM (tJ T 6 rfl b_any (cA (bA (N:=["number","ground","who","ways"]) (own:=1) (G:=["is_on_lost_ring"]) (fr:=[0,1,4]) T rfl rfl (oN:=["ground","who","places","moves","ways"]) (on:=(aq mS).names) (by decide +kernel) (bG (aa T 2 rfl)) (bH (by decide)) (fun cl C s' H' fp E' T=>⟨(aX T 0 rfl),dZ,(aw C15 hr T 0 rfl (ae (aa T 1 rfl) (ae (aa T 2 rfl) (ae (aa T 3 rfl) (ae (aa T 0 rfl) ao)))) rfl (ag (ag (ag (ag au)))))⟩)))))))))))
theorem qu:aY ["_law_ground_here","_law_who","_law_places","_law_moves_here","e"] ["_law_ground_here","_law_who","_law_places","_law_moves_here"] (aq iX):=⟨rfl,rfl,rfl,by decide +kernel,rfl,by decide +kernel,by decide +kernel⟩
theorem qp (W:gn K "_law_refused" "_law_refused" iX f fd) {f16:Addr} {d16:FuncData} {cL:gk} (C16:gu P w K mg base k "holds" ["ground","who","places","moves"] cL f16 d16) (b_int:mg "int" = none) (b_isinstance:mg "isinstance" = none) {c_GroundError:Addr} (m_GroundError:mg "GroundError" = some (.ref c_GroundError)) (q_GroundError:PySem.W.excIn K c_GroundError tV sT=true) {c_NoMoves:Addr} (m_NoMoves:mg "NoMoves" = some (.ref c_NoMoves)) (q_NoMoves:PySem.W.excIn K c_NoMoves tV sT=true) {c_NoPart:Addr} (m_NoPart:mg "NoPart" = some (.ref c_NoPart)) (q_NoPart:PySem.W.excIn K c_NoPart tV sT=true) (b_NoMoves_NoMoves:(Value.ref c_NoMoves::gf K c_NoMoves).contains (.ref c_NoMoves)=true) (b_NoMoves_NoPart:(Value.ref c_NoMoves::gf K c_NoMoves).contains (.ref c_NoPart)=false) (b_NoPart_NoPart:(Value.ref c_NoPart::gf K c_NoPart).contains (.ref c_NoPart)=true) (k_NoMoves_GroundError:PySem.W.kitOne K (.ref c_NoMoves) (.ref c_GroundError)=some true) (k_NoPart_GroundError:PySem.W.kitOne K (.ref c_NoPart) (.ref c_GroundError)=some true) :
    bd P w K mg base (cS P w mg) (k+1) f fd ["_law_ground_here","_law_who","_law_places","_law_moves_here"] (dC (dP 5 (gp cL)) 4):=by
  refine aH W qu (G:=["holds","NoPart","int","isinstance","GroundError","NoMoves"]) (by decide +kernel) fun cdv A outer s H E hr T=>?_
  exact (aj (xN C16.ok hr T ⟨rfl,rfl⟩ 0 rfl C16.m C16.kp C16.b (have T:=T.nox;(ae (aa T 0 rfl) (ae (aa T 1 rfl) (ae (aa T 2 rfl) (ae (aa T 3 rfl) ao))))) (ag (ag (ag (ag au)))) (o2.cons m_NoMoves (BM T 1 rfl m_NoPart q_NoMoves q_NoPart b_NoMoves_NoPart (uc T 5 rfl m_NoMoves q_NoMoves q_NoMoves b_NoMoves_NoMoves 4 rfl rfl (f:=fun p=>(e2 mo (eC (.str (PySem.Str.ofString "moves"))) (e1 lC (pC 4 p)))) (fun p ob hc T=>((qH (ad gA) (ad (pf T 2 rfl b_int (ad (tK T List.mem_cons_self hc 4 rfl 3 rfl b_isinstance 4 rfl m_GroundError k_NoMoves_GroundError)))))).un))) (o2.cons m_NoPart (uc T 1 rfl m_NoPart q_NoPart q_NoPart b_NoPart_NoPart 4 rfl rfl (f:=fun p=>(e2 mo (eC (.str (PySem.Str.ofString "part"))) (e1 lC (pC 4 p)))) (fun p ob hc T=>((qH (ad gA) (ad (pf T 2 rfl b_int (ad (tK T List.mem_cons_self hc 4 rfl 3 rfl b_isinstance 4 rfl m_GroundError k_NoPart_GroundError)))))).un)) o2.nil)))
      (ar (aI gA)))
theorem u7:aY ["_law_number","_law_count","_law_kind"] ["_law_number","_law_count"] (aq jH):=⟨rfl,rfl,rfl,by decide +kernel,rfl,by decide +kernel,by decide +kernel⟩
theorem uU (W:gn K "_law_some" "_law_some" jH f fd) {f26:Addr} {d26:FuncData} {aG:gk} (C26:gu P w K mg base k "_law_drawn" ["_law_number","_law_k"] aG f26 d26) (b_range:mg "range" = none) (b_tuple:mg "tuple" = none) :
    bd P w K mg base (cS P w mg) (k+1) f fd ["_law_number","_law_count"] (dC (dP 3 (lr aG)) 2):=by
  refine aH W u7 (G:=["tuple","range"]) (by decide +kernel) fun cdv A outer s H E hr T=>?_
  exact (aj (aP T 2 rfl (bp (ad (aa T 0 rfl)) (ad ai)))
      (ar (aI (cc T 0 rfl b_tuple (cA (bA (N:=["_law_k","_law_kind","_law_number"]) (own:=1) (G:=["_law_drawn"]) (fr:=[2,0]) T rfl rfl (oN:=["_law_number","_law_count","_law_kind"]) (on:=(aq jH).names) (by decide +kernel) (gw T 1 rfl b_range (ae (aa T 1 rfl) ao) (ag au)) (bH (by decide)) (fun cl C s' H' fp E' T=>⟨(aX T 0 rfl),(dn (gq (kb (cC T.hu (ad (aa T 1 rfl)) (ad ai)) (i8 (tO (ad (bp (ad (aw C26 hr T 0 rfl (ae (aa T 2 rfl) (ae (aa T 0 rfl) ao)) rfl (ag (ag au)))) (ad ai))) (ad (aa T 1 rfl))))))),(aa T 0 rfl)⟩)))))))
theorem u8:aY ["_law_ground_here","_law_who","_law_moves_here","_law_place_here"] ["_law_ground_here","_law_who","_law_moves_here","_law_place_here"] (aq jI):=⟨rfl,rfl,rfl,by decide +kernel,rfl,by decide +kernel,by decide +kernel⟩
theorem uV (W:gn K "_law_ways" "_law_ways" jI f fd) (b_list:mg "list" = none) :
    bd P w K mg base (cS P w mg) (k+1) f fd ["_law_ground_here","_law_who","_law_moves_here","_law_place_here"] (dC (dP 4 (ls)) 4):=by
  refine aH W u8 (G:=["list"]) (by decide +kernel) fun cdv A outer s H E hr T=>?_
  exact (aj (cf (cC T.hu (ad (aE T.hu (ad (aE T.hu (ad (aa T 0 rfl)) (ad (aa T 3 rfl)) (fun _ _=>rfl))) (ad ai) (fun _ _=>rfl))) (ad (aa T 1 rfl))) (ar (aI (jn (bA (N:=["_law_move"]) (own:=1) (G:=[]) (fr:=[]) T rfl rfl (oN:=["_law_ground_here","_law_who","_law_moves_here","_law_place_here"]) (on:=(aq jI).names) (by decide +kernel) (bG (jn (dh (ae (aE T.hu (ad (aa T 2 rfl)) (ad (aa T 3 rfl)) (fun _ _=>rfl)) ao)))) (bH (by decide)) (fun cl C s' H' fp E' T=>⟨(aX T 0 rfl),(dn (ly (ad (aa T 0 rfl)) (ad cE))),(aa T 0 rfl)⟩))))) bL)
      (ar (aI (jn (jq T 0 rfl b_list (ad (aE T.hu (ad (aE T.hu (ad (aa T 0 rfl)) (ad (aa T 3 rfl)) (fun _ _=>rfl))) (ad ai) (fun _ _=>rfl))))))))
theorem rQ:aY ["_law_ground_here","_law_who","_law_moves_here","_law_places","_law_place_here","_law_ways_here"] ["_law_ground_here","_law_who","_law_moves_here","_law_places"] (aq gY):=⟨rfl,rfl,rfl,by decide +kernel,rfl,by decide +kernel,by decide +kernel⟩
theorem rF (W:gn K "_law_inside" "_law_inside" gY f fd) {f31:Addr} {d31:FuncData} {bI:gk} (C31:gu P w K mg base k "_law_ways" ["_law_ground_here","_law_who","_law_moves_here","_law_place_here"] bI f31 d31) :
    bd P w K mg base (cS P w mg) (k+1) f fd ["_law_ground_here","_law_who","_law_moves_here","_law_places"] (dC (dP 6 (jk bI)) 4):=by
  refine aH W rQ (G:=["_law_ways"]) (by decide +kernel) fun cdv A outer s H E hr T=>?_
  exact (aj (cD (have T:=T.nox;eE PassesOwn.never T.calm (bG (aa T 3 rfl)) (aX T 4 rfl) (aj (aP T 5 rfl (aw C31 hr T 0 rfl (ae (aa T 0 rfl) (ae (aa T 1 rfl) (ae (aa T 2 rfl) (ae (aa T 4 rfl) ao)))) rfl (ag (ag (ag (ag au))))))
      (ar (cf (gq (kb (cC T.hu (ad (aa T 5 rfl)) (cA (dh ao))) (i8 (gB T.hu (cA (bA (N:=["_law_way","_law_places"]) (own:=1) (G:=[]) (fr:=[3]) T rfl rfl (oN:=["_law_ground_here","_law_who","_law_moves_here","_law_places","_law_place_here","_law_ways_here"]) (on:=(aq gY).names) (by decide +kernel) (bG (aa T 5 rfl)) (bH (by decide)) (fun cl C s' H' fp E' T=>⟨(aX T 0 rfl),(dn (iy T.hu (ad (aa T 0 rfl)) (ad (aa T 1 rfl)) (by with_unfolding_all rfl))),(aa T 0 rfl)⟩))) (cA (dh ao)))))) (ar (aI cs)) bL)))))
      (ar (aI cs)))
theorem qt:aY ["_law_ground_here","_law_who","_law_moves_here","_law_start","_law_allowed","_law_found","_law_todo","_law_place_here"] ["_law_ground_here","_law_who","_law_moves_here","_law_start","_law_allowed"] (aq iW):=⟨rfl,rfl,rfl,by decide +kernel,rfl,by decide +kernel,by decide +kernel⟩
theorem qm (W:gn K "_law_reached" "_law_reached" iW f fd) {f31:Addr} {d31:FuncData} {bI:gk} (C31:gu P w K mg base k "_law_ways" ["_law_ground_here","_law_who","_law_moves_here","_law_place_here"] bI f31 d31) :
    bd P w K mg base (cS P w mg) (k+1) f fd ["_law_ground_here","_law_who","_law_moves_here","_law_start","_law_allowed"] (dC (dP 8 (iQ bI)) 5):=by
  refine aH W qt (G:=["_law_ways"]) (by decide +kernel) fun cdv A outer s H E hr T=>?_
  exact (aj (fQ T 5 rfl (dh ao))
      (aj (aP T 6 rfl (aw C31 hr T 0 rfl (ae (aa T 0 rfl) (ae (aa T 1 rfl) (ae (aa T 2 rfl) (ae (aa T 3 rfl) ao)))) rfl (ag (ag (ag (ag au))))))
      (aj (cD (have T:=T.nox;jo 1000000 PassesOwn.never (gB T.hu (ad (aa T 6 rfl)) (cA (dh ao))) (aj (aP T 7 rfl (aE T.hu (ad (aa T 6 rfl)) (ad ai) (fun _ _=>rfl)))
      (aj (aP T 6 rfl (lx (ad (aa T 6 rfl)) (nC ai) nB))
      (ar (cf (gq (i7 (i6 T.hu (ad (aa T 7 rfl)) (ad (aa T 4 rfl)) (by with_unfolding_all rfl)) (ic (iy T.hu (ad (aa T 7 rfl)) (dt T 5 rfl) (by with_unfolding_all rfl))))) (aj (gz T 5 rfl (aa T 7 rfl))
      (ar (aP T 6 rfl (cK (ad (aa T 6 rfl)) (ad (aw C31 hr T 0 rfl (ae (aa T 0 rfl) (ae (aa T 1 rfl) (ae (aa T 2 rfl) (ae (aa T 7 rfl) ao)))) rfl (ag (ag (ag (ag au)))))))))) bL))))))
      (ar (nD T 5 rfl)))))
theorem kY:aY ["_law_ground_here","_law_who","_law_moves_here","_law_places","_law_place_here","_law_low","_law_back"] ["_law_ground_here","_law_who","_law_moves_here","_law_places"] (aq dX):=⟨rfl,rfl,rfl,by decide +kernel,rfl,by decide +kernel,by decide +kernel⟩
theorem kT (W:gn K "_law_wins_by_marks" "_law_wins_by_marks" dX f fd) {f33:Addr} {d33:FuncData} {cZ:gk} (C33:gu P w K mg base k "_law_inside" ["_law_ground_here","_law_who","_law_moves_here","_law_places"] cZ f33 d33) {f32:Addr} {d32:FuncData} {cw:gk} (C32:gu P w K mg base k "_law_reached" ["_law_ground_here","_law_who","_law_moves_here","_law_start","_law_allowed"] cw f32 d32) :
    bd P w K mg base (cS P w mg) (k+1) f fd ["_law_ground_here","_law_who","_law_moves_here","_law_places"] (dC (dP 7 (fw cZ cw)) 4):=by
  refine aH W kY (G:=["_law_inside","_law_reached"]) (by decide +kernel) fun cdv A outer s H E hr T=>?_
  exact (aj (cf (g9 (fL (aw C33 hr T 0 rfl (ae (aa T 0 rfl) (ae (aa T 1 rfl) (ae (aa T 2 rfl) (ae (aa T 3 rfl) ao)))) rfl (ag (ag (ag (ag au))))))) (ar (aI cs)) bL)
      (aj (cD (have T:=T.nox;eE PassesOwn.never T.calm (bG (aa T 3 rfl)) (aX T 4 rfl) (aj (ib (eL 5 rfl (N:=["_law_other","_law_ground_here","_law_place_here"]) (own:=1) (G:=[]) (fr:=[0,4]) T rfl rfl (oN:=["_law_ground_here","_law_who","_law_moves_here","_law_places","_law_place_here","_law_low","_law_back"]) (on:=(aq dX).names) (by decide +kernel) (bG (aa T 3 rfl)) (bH (by decide)) (fun cl C s' H' fp E' T=>⟨(aX T 0 rfl),(dn (tN (ad (aE T.hu (ad (aE T.hu (ad (aa T 1 rfl)) (ad (aa T 0 rfl)) (fun _ _=>rfl))) (ad ai) (fun _ _=>rfl))) (ad (aE T.hu (ad (aE T.hu (ad (aa T 1 rfl)) (ad (aa T 2 rfl)) (fun _ _=>rfl))) (ad ai) (fun _ _=>rfl))))),(aa T 0 rfl)⟩)) (show 5 < 7 by decide))
      (aj (aP T 6 rfl (aw C32 hr T 1 rfl (ae (aa T 0 rfl) (ae (aa T 1 rfl) (ae (aa T 2 rfl) (ae (aa T 4 rfl) (ae (aa T 5 rfl) ao))))) rfl (ag (ag (ag (ag (ag au)))))))
      (ar (cf (gq (i7 (gB T.hu (ad (bp (ad (aE T.hu (ad (aE T.hu (ad (aa T 0 rfl)) (ad (aa T 4 rfl)) (fun _ _=>rfl))) (ad ai) (fun _ _=>rfl))) (ad ai))) (ad (aa T 1 rfl))) (ic (i6 T.hu (ad (aa T 4 rfl)) (ad (aa T 6 rfl)) (by with_unfolding_all rfl))))) (ar (aI cs)) bL))))))
      (ar (aI cs))))
theorem rM:aY ["ground"] ["ground"] (aq jE):=⟨rfl,rfl,rfl,by decide +kernel,rfl,by decide +kernel,by decide +kernel⟩
theorem rB (W:gn K "all_places" "all_places" jE f fd) (b_len:mg "len" = none) (b_range:mg "range" = none) (b_tuple:mg "tuple" = none) :
    bd P w K mg base (cS P w mg) (k+1) f fd ["ground"] (dC (dP 1 (jf)) 1):=by
  refine aH W rM (G:=["tuple","range","len"]) (by decide +kernel) fun cdv A outer s H E hr T=>?_
  exact (ar (aI (xP T 0 rfl b_tuple 1 rfl b_range (ae (ca T 2 rfl b_len (ad (aa T 0 rfl))) ao))))
theorem u9:aY ["moves","places"] ["moves","places"] (aq jJ):=⟨rfl,rfl,rfl,by decide +kernel,rfl,by decide +kernel,by decide +kernel⟩
theorem uW (W:gn K "moves_at" "moves_at" jJ f fd) (b_enumerate:mg "enumerate" = none) (b_tuple:mg "tuple" = none) :
    bd P w K mg base (cS P w mg) (k+1) f fd ["moves","places"] (dC (dP 2 (lu)) 2):=by
  refine aH W u9 (G:=["tuple","enumerate"]) (by decide +kernel) fun cdv A outer s H E hr T=>?_
  exact (ar (aI (cc T 0 rfl b_tuple (cA (bA (N:=["number","move","places"]) (own:=2) (G:=[]) (fr:=[1]) T rfl rfl (oN:=["moves","places"]) (on:=(aq jJ).names) (by decide +kernel) (kG T 1 rfl b_enumerate (aa T 0 rfl)) (hU (by decide) (by decide)) (fun cl C s' H' fp E' T=>⟨(fK T 0 1 rfl rfl),dZ,(jp (i6 T.hu (ad (aa T 0 rfl)) (ad (aa T 2 rfl)) (by with_unfolding_all rfl)) (aa T 1 rfl) cE)⟩))))))
theorem oM:aY ["moves","others"] ["moves","others"] (aq fF):=⟨rfl,rfl,rfl,by decide +kernel,rfl,by decide +kernel,by decide +kernel⟩
theorem oF (W:gn K "moves_of_both" "moves_of_both" fF f fd) (b_tuple:mg "tuple" = none) (b_zip:mg "zip" = none) :
    bd P w K mg base (cS P w mg) (k+1) f fd ["moves","others"] (dC (dP 2 (gH)) 2):=by
  refine aH W oM (G:=["tuple","zip"]) (by decide +kernel) fun cdv A outer s H E hr T=>?_
  exact (ar (aI (cc T 0 rfl b_tuple (cA (bA (N:=["move","other"]) (own:=2) (G:=[]) (fr:=[]) T rfl rfl (oN:=["moves","others"]) (on:=(aq fF).names) (by decide +kernel) (o9 T 1 rfl b_zip (aa T 0 rfl) (aa T 1 rfl)) (hU (by decide) (by decide)) (fun cl C s' H' fp E' T=>⟨(fK T 0 1 rfl rfl),dZ,(jp (qI (ad (aa T 0 rfl)) (ad cE)) (aa T 1 rfl) (aa T 0 rfl))⟩))))))
theorem ze:aY ["ranks"] ["ranks"] (aq mT):=⟨rfl,rfl,rfl,by decide +kernel,rfl,by decide +kernel,by decide +kernel⟩
theorem yY (W:gn K "ranked" "ranked" mT f fd) (b_enumerate:mg "enumerate" = none) (b_tuple:mg "tuple" = none) :
    bd P w K mg base (cS P w mg) (k+1) f fd ["ranks"] (dC (dP 1 (o6)) 1):=by
  refine aH W ze (G:=["tuple","enumerate"]) (by decide +kernel) fun cdv A outer s H E hr T=>?_
  exact (ar (aI (cc T 0 rfl b_tuple (cA (bA (N:=["number","rank"]) (own:=2) (G:=[]) (fr:=[]) T rfl rfl (oN:=["ranks"]) (on:=(aq mT).names) (by decide +kernel) (kG T 1 rfl b_enumerate (aa T 0 rfl)) (hU (by decide) (by decide)) (fun cl C s' H' fp E' T=>⟨(fK T 0 1 rfl rfl),(dn (ly (ad (aa T 1 rfl)) (ad cE))),(aa T 0 rfl)⟩))))))
theorem oO:aY ["ground","who","ranks","moves","number"] ["ground","who","ranks"] (aq eJ):=⟨rfl,rfl,rfl,by decide +kernel,rfl,by decide +kernel,by decide +kernel⟩
theorem oG (W:gn K "pulling_moves" "pulling_moves" eJ f fd) {f19:Addr} {d19:FuncData} {cJ:gk} (C19:gu P w K mg base k "ranked" ["ranks"] cJ f19 d19) {t_GOALS:Tok} (g_GOALS:mg "GOALS" = some (.int 3 t_GOALS)) {t_WHO:Tok} (g_WHO:mg "WHO" = some (.int 0 t_WHO)) (b_tuple:mg "tuple" = none) :
    bd P w K mg base (cS P w mg) (k+1) f fd ["ground","who","ranks"] (dC (dP 5 (gI cJ)) 3):=by
  refine aH W oO (G:=["ranked","WHO","GOALS","tuple"]) (by decide +kernel) fun cdv A outer s H E hr T=>?_
  exact (aj (eL 3 rfl (N:=["rank"]) (own:=1) (G:=[]) (fr:=[]) T rfl rfl (oN:=["ground","who","ranks","moves","number"]) (on:=(aq eJ).names) (by decide +kernel) (bG (aa T 2 rfl)) (bH (by decide)) (fun cl C s' H' fp E' T=>⟨(aX T 0 rfl),dZ,cE⟩))
      (aj (cD (have T:=T.nox;eE PassesOwn.never T.calm (bG (aw C19 hr T 0 rfl (ae (aa T 2 rfl) ao) rfl (ag au))) (aX T 4 rfl) (ar (cf (gq (i7 (cC T.hu (ad (aE T.hu (ad (aE T.hu (ad (aa T 0 rfl)) (ad (aa T 4 rfl)) (fun _ _=>rfl))) (ad (dg T 1 rfl g_WHO)) (fun _ _=>rfl))) (ad (aa T 1 rfl))) (ic (ka (ad (aE T.hu (ad (aa T 2 rfl)) (ad (aa T 4 rfl)) (fun _ _=>rfl))) (ad ai))))) (ar (i4 T 3 rfl (have T:=T.nox;(aa T 4 rfl)) (aE T.hu (cA (bA (N:=["goal","ranks","number"]) (own:=1) (G:=[]) (fr:=[2,4]) T rfl rfl (oN:=["ground","who","ranks","moves","number"]) (on:=(aq eJ).names) (by decide +kernel) (bG (aE T.hu (ad (aE T.hu (ad (aa T 0 rfl)) (ad (aa T 4 rfl)) (fun _ _=>rfl))) (ad (dg T 2 rfl g_GOALS)) (fun _ _=>rfl))) (bH (by decide)) (fun cl C s' H' fp E' T=>⟨(aX T 0 rfl),(dn (cC T.hu (ad (aE T.hu (ad (aa T 1 rfl)) (ad (aa T 0 rfl)) (fun _ _=>rfl))) (ad (j8 (ad (aE T.hu (ad (aa T 1 rfl)) (ad (aa T 2 rfl)) (fun _ _=>rfl))) (ad ai))))),(aa T 0 rfl)⟩))) (ad ai) (fun _ _=>rfl)))) bL))))
      (ar (aI (cc T 3 rfl b_tuple (dt T 3 rfl))))))
theorem zd:aY ["some","others"] ["some","others"] (aq mQ):=⟨rfl,rfl,rfl,by decide +kernel,rfl,by decide +kernel,by decide +kernel⟩
theorem yX (W:gn K "common" "common" mQ f fd) (b_tuple:mg "tuple" = none) :
    bd P w K mg base (cS P w mg) (k+1) f fd ["some","others"] (dC (dP 2 (o4)) 2):=by
  refine aH W zd (G:=["tuple"]) (by decide +kernel) fun cdv A outer s H E hr T=>?_
  exact (ar (aI (cc T 0 rfl b_tuple (cA (bA (N:=["number","others"]) (own:=1) (G:=[]) (fr:=[1]) T rfl rfl (oN:=["some","others"]) (on:=(aq mQ).names) (by decide +kernel) (bG (aa T 0 rfl)) (bH (by decide)) (fun cl C s' H' fp E' T=>⟨(aX T 0 rfl),(dn (i6 T.hu (ad (aa T 0 rfl)) (ad (aa T 1 rfl)) (by with_unfolding_all rfl))),(aa T 0 rfl)⟩))))))
theorem tw:aY ["place","ways","who","ranks","known"] ["place","ways","who","ranks"] (aq iL):=⟨rfl,rfl,rfl,by decide +kernel,rfl,by decide +kernel,by decide +kernel⟩
theorem sW (W:gn K "is_forced" "is_forced" iL f fd) {t_WHO:Tok} (g_WHO:mg "WHO" = some (.int 0 t_WHO)) (b_len:mg "len" = none) :
    bd P w K mg base (cS P w mg) (k+1) f fd ["place","ways","who","ranks"] (dC (dP 5 (jV)) 4):=by
  refine aH W tw (G:=["WHO","len"]) (by decide +kernel) fun cdv A outer s H E hr T=>?_
  exact (aj (ib (eL 4 rfl (N:=["goal","ranks"]) (own:=1) (G:=[]) (fr:=[3]) T rfl rfl (oN:=["place","ways","who","ranks","known"]) (on:=(aq iL).names) (by decide +kernel) (bG (aa T 1 rfl)) (bH (by decide)) (fun cl C s' H' fp E' T=>⟨(aX T 0 rfl),(dn (ly (ad (aE T.hu (ad (aa T 1 rfl)) (ad (aa T 0 rfl)) (fun _ _=>rfl))) (ad cE))),(aa T 0 rfl)⟩)) (show 4 < 5 by decide))
      (aj (cf (cC T.hu (ad (aE T.hu (ad (aa T 0 rfl)) (ad (dg T 0 rfl g_WHO)) (fun _ _=>rfl))) (ad (aa T 2 rfl))) (ar (aI (wu (ad (ca T 1 rfl b_len (ad (aa T 4 rfl)))) (ad ai)))) bL)
      (ar (aI (oW T.hu (ad (ca T 1 rfl b_len (ad (aa T 4 rfl)))) (ad (ca T 1 rfl b_len (ad (aa T 1 rfl)))))))))
theorem vb:aY ["ground","inside","who","goals","ways","ranks","rank","found","unranked","number"] ["ground","inside","who","goals"] (aq fJ):=⟨rfl,rfl,rfl,by decide +kernel,rfl,by decide +kernel,by decide +kernel⟩
theorem uY (W:gn K "ranks_to" "ranks_to" fJ f fd) {f6:Addr} {d6:FuncData} {cI:gk} (C6:gu P w K mg base k "common" ["some","others"] cI f6 d6) {f17:Addr} {d17:FuncData} {cr:gk} (C17:gu P w K mg base k "is_forced" ["place","ways","who","ranks"] cr f17 d17) {t_GOALS:Tok} (g_GOALS:mg "GOALS" = some (.int 3 t_GOALS)) (b_len:mg "len" = none) (b_list:mg "list" = none) (b_range:mg "range" = none) (b_tuple:mg "tuple" = none) :
    bd P w K mg base (cS P w mg) (k+1) f fd ["ground","inside","who","goals"] (dC (dP 10 (lw cI cr)) 4):=by
  refine aH W vb (G:=["range","len","list","tuple"]) (by decide +kernel) fun cdv A outer s H E hr T=>?_
  exact (aj (aP T 4 rfl (jn (bA (N:=["place","inside"]) (own:=1) (G:=["common","GOALS"]) (fr:=[1]) T rfl rfl (oN:=["ground","inside","who","goals","ways","ranks","rank","found","unranked","number"]) (on:=(aq fJ).names) (by decide +kernel) (bG (aa T 0 rfl)) (bH (by decide)) (fun cl C s' H' fp E' T=>⟨(aX T 0 rfl),dZ,(aw C6 hr T 0 rfl (ae (aE T.hu (ad (aa T 0 rfl)) (ad (dg T 1 rfl g_GOALS)) (fun _ _=>rfl)) (ae (aa T 1 rfl) ao)) rfl (ag (ag au)))⟩))))
      (aj (fQ T 5 rfl (bA (N:=["number","goals"]) (own:=1) (G:=[]) (fr:=[3]) T rfl rfl (oN:=["ground","inside","who","goals","ways","ranks","rank","found","unranked","number"]) (on:=(aq fJ).names) (by decide +kernel) (gw T 0 rfl b_range (ae (ca T 1 rfl b_len (ad (aa T 0 rfl))) ao) (ag au)) (bH (by decide)) (fun cl C s' H' fp E' T=>⟨(aX T 0 rfl),dZ,(jp (i6 T.hu (ad (aa T 0 rfl)) (ad (aa T 1 rfl)) (by with_unfolding_all rfl)) ai cE)⟩)))
      (aj (aP T 6 rfl ai)
      (aj (aP T 7 rfl (jn (jq T 2 rfl b_list (ad (aa T 3 rfl)))))
      (aj (cD (have T:=T.nox;jo 1000000 PassesOwn.never (ka (ad (ca T 1 rfl b_len (ad (aa T 7 rfl)))) (ad ai)) (aj (xM T 6 rfl ai)
      (aj (ib (eL 8 rfl (N:=["number","ranks"]) (own:=1) (G:=[]) (fr:=[5]) T rfl rfl (oN:=["ground","inside","who","goals","ways","ranks","rank","found","unranked","number"]) (on:=(aq fJ).names) (by decide +kernel) (bG (aa T 1 rfl)) (bH (by decide)) (fun cl C s' H' fp E' T=>⟨(aX T 0 rfl),(dn (qI (ad (aE T.hu (dt T 1 rfl) (ad (aa T 0 rfl)) (fun _ _=>rfl))) (ad cE))),(aa T 0 rfl)⟩)) (show 8 < 10 by decide))
      (aj (ib (eL 7 rfl (N:=["number","ground","ways","who","ranks"]) (own:=1) (G:=["is_forced"]) (fr:=[0,4,2,5]) T rfl rfl (oN:=["ground","inside","who","goals","ways","ranks","rank","found","unranked","number"]) (on:=(aq fJ).names) (by decide +kernel) (bG (aa T 8 rfl)) (bH (by decide)) (fun cl C s' H' fp E' T=>⟨(aX T 0 rfl),(dn (fL (vd 4 (aw C17 hr T 0 rfl (ae (aE T.hu (ad (aa T 1 rfl)) (ad (aa T 0 rfl)) (fun _ _=>rfl)) (ae (aE T.hu (ad (aa T 2 rfl)) (ad (aa T 0 rfl)) (fun _ _=>rfl)) (ae (aa T 3 rfl) (ae (aa T 4 rfl) ao)))) rfl (ag (ag (ag (ag au)))))))),(aa T 0 rfl)⟩)) (show 7 < 10 by decide))
      (ar (cD (have T:=T.nox;eE PassesOwn.never T.calm (bG (aa T 7 rfl)) (aX T 9 rfl) (ar (i4 T 5 rfl (have T:=T.nox;(aa T 9 rfl)) (aa T 6 rfl)))))))))))
      (ar (aI (cc T 3 rfl b_tuple (dt T 5 rfl)))))))))
theorem va:aY ["ground"] ["ground"] (aq jK):=⟨rfl,rfl,rfl,by decide +kernel,rfl,by decide +kernel,by decide +kernel⟩
theorem uX (W:gn K "no_moves" "no_moves" jK f fd) (b_tuple:mg "tuple" = none) :
    bd P w K mg base (cS P w mg) (k+1) f fd ["ground"] (dC (dP 1 (lv)) 1):=by
  refine aH W va (G:=["tuple"]) (by decide +kernel) fun cdv A outer s H E hr T=>?_
  exact (ar (aI (cc T 0 rfl b_tuple (cA (bA (N:=["place"]) (own:=1) (G:=[]) (fr:=[]) T rfl rfl (oN:=["ground"]) (on:=(aq jK).names) (by decide +kernel) (bG (aa T 0 rfl)) (bH (by decide)) (fun cl C s' H' fp E' T=>⟨(aX T 0 rfl),dZ,cE⟩))))))
theorem oP:aY ["ground","who","part","moves","number"] ["ground","who","part"] (aq gN):=⟨rfl,rfl,rfl,by decide +kernel,rfl,by decide +kernel,by decide +kernel⟩
theorem oH (W:gn K "staying_moves" "staying_moves" gN f fd) {f6:Addr} {d6:FuncData} {cI:gk} (C6:gu P w K mg base k "common" ["some","others"] cI f6 d6) {f8:Addr} {d8:FuncData} {cq:gk} (C8:gu P w K mg base k "no_moves" ["ground"] cq f8 d8) {t_GOALS:Tok} (g_GOALS:mg "GOALS" = some (.int 3 t_GOALS)) {t_WHO:Tok} (g_WHO:mg "WHO" = some (.int 0 t_WHO)) (b_list:mg "list" = none) (b_tuple:mg "tuple" = none) :
    bd P w K mg base (cS P w mg) (k+1) f fd ["ground","who","part"] (dC (dP 5 (gJ cI cq)) 3):=by
  refine aH W oP (G:=["list","no_moves","WHO","common","GOALS","tuple"]) (by decide +kernel) fun cdv A outer s H E hr T=>?_
  exact (aj (fQ T 3 rfl (jq T 0 rfl b_list (ad (aw C8 hr T 1 rfl (ae (aa T 0 rfl) ao) rfl (ag au)))))
      (aj (cD (have T:=T.nox;eE PassesOwn.never T.calm (bG (aa T 2 rfl)) (aX T 4 rfl) (ar (cf (cC T.hu (ad (aE T.hu (ad (aE T.hu (ad (aa T 0 rfl)) (ad (aa T 4 rfl)) (fun _ _=>rfl))) (ad (dg T 2 rfl g_WHO)) (fun _ _=>rfl))) (ad (aa T 1 rfl))) (ar (i4 T 3 rfl (have T:=T.nox;(aa T 4 rfl)) (aE T.hu (ad (aw C6 hr T 3 rfl (ae (aE T.hu (ad (aE T.hu (ad (aa T 0 rfl)) (ad (aa T 4 rfl)) (fun _ _=>rfl))) (ad (dg T 4 rfl g_GOALS)) (fun _ _=>rfl)) (ae (aa T 2 rfl) ao)) rfl (ag (ag au)))) (ad ai) (fun _ _=>rfl)))) bL))))
      (ar (aI (cc T 5 rfl b_tuple (dt T 3 rfl))))))
theorem nz:aY ["ground","inside","highest","who","other","tops","ranks","below","lost","moves"] ["ground","inside"] (aq dj):=⟨rfl,rfl,rfl,by decide +kernel,rfl,by decide +kernel,by decide +kernel⟩
theorem ni (W:gn K "share_by_marks" "share_by_marks" dj f fd) {f10:Addr} {d10:FuncData} {dl:gk} (C10:gu P w K mg base k "moves_at" ["moves","places"] dl f10 d10) {f9:Addr} {d9:FuncData} {aN:gk} (C9:gu P w K mg base k "moves_of_both" ["moves","others"] aN f9 d9) {f20:Addr} {d20:FuncData} {br:gk} (C20:gu P w K mg base k "pulling_moves" ["ground","who","ranks"] br f20 d20) {f19:Addr} {d19:FuncData} {cJ:gk} (C19:gu P w K mg base k "ranked" ["ranks"] cJ f19 d19) {f18:Addr} {d18:FuncData} {cV:gk} (C18:gu P w K mg base k "ranks_to" ["ground","inside","who","goals"] cV f18 d18) {f11:Addr} {d11:FuncData} {bK:gk} (C11:gu P w K mg base k "staying_moves" ["ground","who","part"] bK f11 d11) {f22:Addr} {d22:FuncData} {aQ:gk} (C22:gu P w K mg base k "winners_within" ["ground","inside"] aQ f22 d22) {f7:Addr} {d7:FuncData} {aV:gk} (C7:gu P w K mg base k "without" ["some","others"] aV f7 d7) {t_MARK:Tok} (g_MARK:mg "MARK" = some (.int 1 t_MARK)) (b_enumerate:mg "enumerate" = none) (b_len:mg "len" = none) (b_max:mg "max" = none) {c_Share:Addr} (cl_Share:yU K c_Share) (n_Share_moves:fy K c_Share "moves") (n_Share_places:fy K c_Share "places") (n_Share_who:fy K c_Share "who") (m_Share:mg "Share" = some (.ref c_Share)) {fi_Share:Addr} {di_Share:FuncData} (MK_Share:Mk K c_Share fi_Share) (I_Share:bd P w K mg base (cS P w mg) 1 fi_Share di_Share ["self","who","places","moves"] (Ho c_Share ["who","places","moves"])) (B_Share:bz K di_Share ["self","who","places","moves"] []) (hk:2<=k) :
    bd P w K mg base (cS P w mg) (k+1) f fd ["ground","inside"] (dC (dP 10 (fj dl aN br cJ cV bK aQ aV c_Share)) 2):=by
  refine aH W nz (G:=["max","ranks_to","winners_within","without","ranked","enumerate","len","moves_of_both","pulling_moves","Share","staying_moves","moves_at"]) (by decide +kernel) fun cdv A outer s H E hr T=>?_
  exact (aj (aP T 2 rfl (xO T 0 rfl b_max (cA (bA (N:=["number","ground"]) (own:=1) (G:=["MARK"]) (fr:=[0]) T rfl rfl (oN:=["ground","inside","highest","who","other","tops","ranks","below","lost","moves"]) (on:=(aq dj).names) (by decide +kernel) (bG (aa T 1 rfl)) (bH (by decide)) (fun cl C s' H' fp E' T=>⟨(aX T 0 rfl),dZ,(aE T.hu (ad (aE T.hu (ad (aa T 1 rfl)) (ad (aa T 0 rfl)) (fun _ _=>rfl))) (ad (dg T 0 rfl g_MARK)) (fun _ _=>rfl))⟩)))))
      (aj (aP T 3 rfl (bp (ad (aa T 2 rfl)) (ad ai)))
      (aj (aP T 4 rfl (j8 (ad ai) (ad (aa T 3 rfl))))
      (aj (ib (eL 5 rfl (N:=["number","ground","highest"]) (own:=1) (G:=["MARK"]) (fr:=[0,2]) T rfl rfl (oN:=["ground","inside","highest","who","other","tops","ranks","below","lost","moves"]) (on:=(aq dj).names) (by decide +kernel) (bG (aa T 1 rfl)) (bH (by decide)) (fun cl C s' H' fp E' T=>⟨(aX T 0 rfl),(dn (cC T.hu (ad (aE T.hu (ad (aE T.hu (ad (aa T 1 rfl)) (ad (aa T 0 rfl)) (fun _ _=>rfl))) (ad (dg T 0 rfl g_MARK)) (fun _ _=>rfl))) (ad (aa T 2 rfl)))),(aa T 0 rfl)⟩)) (show 5 < 10 by decide))
      (aj (aP T 6 rfl (aw C18 hr T 1 rfl (ae (aa T 0 rfl) (ae (aa T 1 rfl) (ae (aa T 3 rfl) (ae (aa T 5 rfl) ao)))) rfl (ag (ag (ag (ag au))))))
      (aj (aP T 7 rfl (aw C22 hr T 2 rfl (ae (aa T 0 rfl) (ae (aw C7 hr T 3 rfl (ae (aa T 1 rfl) (ae (aw C19 hr T 4 rfl (ae (aa T 6 rfl) ao) rfl (ag au)) ao)) rfl (ag (ag au))) ao)) rfl (ag (ag au))))
      (aj (ib (eL 8 rfl (N:=["number","winner","other"]) (own:=2) (G:=[]) (fr:=[4]) T rfl rfl (oN:=["ground","inside","highest","who","other","tops","ranks","below","lost","moves"]) (on:=(aq dj).names) (by decide +kernel) (kG T 5 rfl b_enumerate (aE T.hu (ad (aa T 7 rfl)) (ad ai) (fun _ _=>rfl))) (hU (by decide) (by decide)) (fun cl C s' H' fp E' T=>⟨(fK T 0 1 rfl rfl),(dn (cC T.hu (ad (aa T 1 rfl)) (ad (aa T 2 rfl)))),(aa T 0 rfl)⟩)) (show 8 < 10 by decide))
      (aj (cf (cC T.hu (ad (ca T 6 rfl b_len (ad (aa T 8 rfl)))) (ad ai)) (aj (aP T 9 rfl (aw C9 hr T 7 rfl (ae (aw C20 hr T 8 rfl (ae (aa T 0 rfl) (ae (aa T 3 rfl) (ae (aa T 6 rfl) ao))) rfl (ag (ag (ag au)))) (ae (aE T.hu (ad (aa T 7 rfl)) (ad ai) (fun _ _=>rfl)) ao)) rfl (ag (ag au))))
      (ar (aI (tL MK_Share I_Share (hr.mono hk) T 9 rfl m_Share B_Share (ae (aa T 3 rfl) (ae (aa T 1 rfl) (ae (aw C9 hr T 7 rfl (ae (aa T 9 rfl) (ae (aw C11 hr T 10 rfl (ae (aa T 0 rfl) (ae (aa T 3 rfl) (ae (aa T 1 rfl) ao))) rfl (ag (ag (ag au)))) ao)) rfl (ag (ag au))) ao))) (ag (ag (ag au))))))) bL)
      (aj (aP T 6 rfl (aw C18 hr T 1 rfl (ae (aa T 0 rfl) (ae (aa T 1 rfl) (ae (aa T 4 rfl) (ae (aa T 8 rfl) ao)))) rfl (ag (ag (ag (ag au))))))
      (aj (aP T 9 rfl (aw C9 hr T 7 rfl (ae (aw C20 hr T 8 rfl (ae (aa T 0 rfl) (ae (aa T 4 rfl) (ae (aa T 6 rfl) ao))) rfl (ag (ag (ag au)))) (ae (aw C10 hr T 11 rfl (ae (aE T.hu (ad (aa T 7 rfl)) (ad ai) (fun _ _=>rfl)) (ae (aa T 8 rfl) ao)) rfl (ag (ag au))) ao)) rfl (ag (ag au))))
      (ar (aI (tL MK_Share I_Share (hr.mono hk) T 9 rfl m_Share B_Share (ae (aa T 4 rfl) (ae (aw C19 hr T 4 rfl (ae (aa T 6 rfl) ao) rfl (ag au)) (ae (aa T 9 rfl) ao))) (ag (ag (ag au))))))))))))))))
theorem kZ:aY ["ground","shares","winners","moves","share","number"] ["ground","shares"] (aq dY):=⟨rfl,rfl,rfl,by decide +kernel,rfl,by decide +kernel,by decide +kernel⟩
theorem kU (W:gn K "winners_and_moves" "winners_and_moves" dY f fd) {f9:Addr} {d9:FuncData} {aN:gk} (C9:gu P w K mg base k "moves_of_both" ["moves","others"] aN f9 d9) {f8:Addr} {d8:FuncData} {cq:gk} (C8:gu P w K mg base k "no_moves" ["ground"] cq f8 d8) (b_tuple:mg "tuple" = none) {c_Share:Addr} (cl_Share:yU K c_Share) (n_Share_moves:fy K c_Share "moves") (n_Share_places:fy K c_Share "places") (n_Share_who:fy K c_Share "who") :
    bd P w K mg base (cS P w mg) (k+1) f fd ["ground","shares"] (dC (dP 6 (fx aN cq c_Share)) 2):=by
  refine aH W kZ (G:=["no_moves","moves_of_both","tuple"]) (by decide +kernel) fun cdv A outer s H E hr T=>?_
  exact (aj (eL 2 rfl (N:=["place"]) (own:=1) (G:=[]) (fr:=[]) T rfl rfl (oN:=["ground","shares","winners","moves","share","number"]) (on:=(aq dY).names) (by decide +kernel) (bG (aa T 0 rfl)) (bH (by decide)) (fun cl C s' H' fp E' T=>⟨(aX T 0 rfl),dZ,cE⟩))
      (aj (aP T 3 rfl (aw C8 hr T 0 rfl (ae (aa T 0 rfl) ao) rfl (ag au)))
      (aj (cD (have T:=T.nox;eE PassesOwn.never T.calm (bG (aa T 1 rfl)) (aX T 4 rfl) (aj (cD (have T:=T.nox;eE PassesOwn.never T.calm (bG (l6 cl_Share n_Share_places (aa T 4 rfl))) (aX T 5 rfl) (ar (i4 T 2 rfl (have T:=T.nox;(aa T 5 rfl)) (l6 cl_Share n_Share_who (aa T 4 rfl))))))
      (ar (aP T 3 rfl (aw C9 hr T 1 rfl (ae (aa T 3 rfl) (ae (l6 cl_Share n_Share_moves (aa T 4 rfl)) ao)) rfl (ag (ag au))))))))
      (ar (aI (fB (ae (cc T 2 rfl b_tuple (dt T 2 rfl)) (ae (aa T 3 rfl) ao))))))))
theorem nA:aY ["ground","inside","shares","left","share"] ["ground","inside"] (aq gi):=⟨rfl,rfl,rfl,by decide +kernel,rfl,by decide +kernel,by decide +kernel⟩
theorem nk (W:gn K "winners_within" "winners_within" gi f fd) {f21:Addr} {d21:FuncData} {bj:gk} (C21:gu P w K mg base k "share_by_marks" ["ground","inside"] bj f21 d21) {f12:Addr} {d12:FuncData} {bo:gk} (C12:gu P w K mg base k "winners_and_moves" ["ground","shares"] bo f12 d12) {f7:Addr} {d7:FuncData} {aV:gk} (C7:gu P w K mg base k "without" ["some","others"] aV f7 d7) (b_len:mg "len" = none) {c_Share:Addr} (cl_Share:yU K c_Share) (n_Share_places:fy K c_Share "places") :
    bd P w K mg base (cS P w mg) (k+1) f fd ["ground","inside"] (dC (dP 5 (fq bj bo aV c_Share)) 2):=by
  refine aH W nA (G:=["len","share_by_marks","without","winners_and_moves"]) (by decide +kernel) fun cdv A outer s H E hr T=>?_
  exact (aj (fQ T 2 rfl (dh ao))
      (aj (aP T 3 rfl (aa T 1 rfl))
      (aj (cD (have T:=T.nox;jo 1000000 PassesOwn.never (ka (ad (ca T 0 rfl b_len (ad (aa T 3 rfl)))) (ad ai)) (aj (aP T 4 rfl (aw C21 hr T 1 rfl (ae (aa T 0 rfl) (ae (aa T 3 rfl) ao)) rfl (ag (ag au))))
      (aj (gz T 2 rfl (aa T 4 rfl))
      (ar (aP T 3 rfl (aw C7 hr T 2 rfl (ae (aa T 3 rfl) (ae (l6 cl_Share n_Share_places (aa T 4 rfl)) ao)) rfl (ag (ag au)))))))))
      (ar (Bv 2 (aI (aw C12 hr T 3 rfl (ae (aa T 0 rfl) (ae (aa T 2 rfl) ao)) rfl (ag (ag au)))))))))
theorem Ft:aY ["ground"] ["ground"] (aq AO):=⟨rfl,rfl,rfl,by decide +kernel,rfl,by decide +kernel,by decide +kernel⟩
theorem Fj (W:gn K "won" "won" AO f fd) {f5:Addr} {d5:FuncData} {cX:gk} (C5:gu P w K mg base k "all_places" ["ground"] cX f5 d5) {f22:Addr} {d22:FuncData} {aQ:gk} (C22:gu P w K mg base k "winners_within" ["ground","inside"] aQ f22 d22) :
    bd P w K mg base (cS P w mg) (k+1) f fd ["ground"] (dC (dP 1 (zb cX aQ)) 1):=by
  refine aH W Ft (G:=["winners_within","all_places"]) (by decide +kernel) fun cdv A outer s H E hr T=>?_
  exact (ar (aI (aw C22 hr T 0 rfl (ae (aa T 0 rfl) (ae (aw C5 hr T 1 rfl (ae (aa T 0 rfl) ao) rfl (ag au)) ao)) rfl (ag (ag au)))))
theorem Fr:aY ["_law_script","_law_ground_here","_law_who","_law_winners","_law_told","_law_moves_here","_law_places","_law_number","_law_odd","_law_bad","_law_found"] ["_law_script"] (aq lg):=⟨rfl,rfl,rfl,by decide +kernel,rfl,by decide +kernel,by decide +kernel⟩
theorem Fi (W:gn K "law" "law" lg f fd) {f29:Addr} {d29:FuncData} {cY:gk} (C29:gu P w K mg base k "_law_ground" ["_law_script","_law_most"] cY f29 d29) {f25:Addr} {d25:FuncData} {bc:gk} (C25:gu P w K mg base k "_law_mixed" ["_law_script","_law_k"] bc f25 d25) {f37:Addr} {d37:FuncData} {cQ:gk} (C37:gu P w K mg base k "_law_moves" ["_law_ground_here","_law_who","_law_number","_law_told"] cQ f37 d37) {f36:Addr} {d36:FuncData} {bn:gk} (C36:gu P w K mg base k "_law_refused" ["_law_ground_here","_law_who","_law_places","_law_moves_here"] bn f36 d36) {f30:Addr} {d30:FuncData} {dO:gk} (C30:gu P w K mg base k "_law_some" ["_law_number","_law_count"] dO f30 d30) {f34:Addr} {d34:FuncData} {bB:gk} (C34:gu P w K mg base k "_law_wins_by_marks" ["_law_ground_here","_law_who","_law_moves_here","_law_places"] bB f34 d34) {f16:Addr} {d16:FuncData} {cL:gk} (C16:gu P w K mg base k "holds" ["ground","who","places","moves"] cL f16 d16) {f23:Addr} {d23:FuncData} {lV:gk} (C23:gu P w K mg base k "won" ["ground"] lV f23 d23) (b_bool:mg "bool" = none) (b_isinstance:mg "isinstance" = none) (b_len:mg "len" = none) (b_list:mg "list" = none) (b_range:mg "range" = none) (b_tuple:mg "tuple" = none) :
    bd P w K mg base (cS P w mg) (k+1) f fd ["_law_script"] (dC (dP 11 (za cY bc cQ bn dO bB cL lV)) 1):=by
  refine aH W Fr (G:=["_law_ground","_law_mixed","won","_law_moves","tuple","range","len","_law_some","list","_law_refused","holds","isinstance","bool","_law_wins_by_marks"]) (by decide +kernel) fun cdv A outer s H E hr T=>?_
  exact (aj (aP T 1 rfl (aw C29 hr T 0 rfl (ae (aa T 0 rfl) (ae ai ao)) rfl (ag (ag au))))
      (aj (aP T 2 rfl (bp (ad (aw C25 hr T 1 rfl (ae (aa T 0 rfl) (ae ai ao)) rfl (ag (ag au)))) (ad ai)))
      (aj (zf (aw C23 hr T 2 rfl (ae (aa T 1 rfl) ao) rfl (ag au)) (fK T 3 4 rfl rfl))
      (aj (aP T 5 rfl (aw C37 hr T 3 rfl (ae (aa T 1 rfl) (ae (aa T 2 rfl) (ae (aw C25 hr T 1 rfl (ae (aa T 0 rfl) (ae ai ao)) rfl (ag (ag au))) (ae (aa T 4 rfl) ao)))) rfl (ag (ag (ag (ag au))))))
      (aj (aP T 6 rfl (cc T 4 rfl b_tuple (cA (bA (N:=["_law_place_here","_law_winners","_law_who"]) (own:=1) (G:=[]) (fr:=[3,2]) T rfl rfl (oN:=["_law_script","_law_ground_here","_law_who","_law_winners","_law_told","_law_moves_here","_law_places","_law_number","_law_odd","_law_bad","_law_found"]) (on:=(aq lg).names) (by decide +kernel) (gw T 5 rfl b_range (ae (ca T 6 rfl b_len (ad (aa T 1 rfl))) ao) (ag au)) (bH (by decide)) (fun cl C s' H' fp E' T=>⟨(aX T 0 rfl),(dn (cC T.hu (ad (aE T.hu (ad (aa T 1 rfl)) (ad (aa T 0 rfl)) (fun _ _=>rfl))) (ad (aa T 2 rfl)))),(aa T 0 rfl)⟩)))))
      (aj (cf (cC T.hu (ad (bp (ad (dq (ad (aw C25 hr T 1 rfl (ae (aa T 0 rfl) (ae ai ao)) rfl (ag (ag au)))) (ad ai))) (ad ai))) (ad ai)) (ar (aP T 6 rfl (aw C30 hr T 7 rfl (ae (dq (ad (aw C25 hr T 1 rfl (ae (aa T 0 rfl) (ae ai ao)) rfl (ag (ag au)))) (ad ai)) (ae (ca T 6 rfl b_len (ad (aa T 1 rfl))) ao)) rfl (ag (ag au))))) bL)
      (aj (aP T 7 rfl (dq (ad (aw C25 hr T 1 rfl (ae (aa T 0 rfl) (ae ai ao)) rfl (ag (ag au)))) (ad ai)))
      (aj (cf (cC T.hu (ad (bp (ad (aa T 7 rfl)) (ad ai))) (ad ai)) (aj (aP T 8 rfl (aE T.hu (cA (dh (ae (fB (ae ai (ae ai ao))) (ae (fB (ae (ca T 6 rfl b_len (ad (aa T 1 rfl))) ao)) (ae (jn (dh (ae ai ao))) (ae (fB (ae (zl (ad ai)) ao)) (ae cE (ae (fB (ae cs ao)) ao)))))))) (ad (bp (ad (dq (ad (aa T 7 rfl)) (ad ai))) (ad ai))) (fun _ _=>rfl)))
      (aj (aP T 9 rfl (aE T.hu (cA (dh (ae (cK (ad (aa T 5 rfl)) (ad (fB (ae cE ao)))) (ae (jn (jq T 8 rfl b_list (ad (aa T 5 rfl)))) (ae (cK (ad (fB (ae (ca T 6 rfl b_len (ad (aa T 1 rfl))) ao))) (ad (lx (ad (aa T 5 rfl)) (nC ai) nB))) (ae (cK (ad (fB (ae cs ao))) (ad (lx (ad (aa T 5 rfl)) (nC ai) nB))) (ae cE ao))))))) (ad (bp (ad (dq (ad (aa T 7 rfl)) (ad ai))) (ad ai))) (fun _ _=>rfl)))
      (aj (cf (gq (kb (gB T.hu (ad (aw C36 hr T 9 rfl (ae (aa T 1 rfl) (ae (aa T 2 rfl) (ae (aa T 8 rfl) (ae (aa T 5 rfl) ao)))) rfl (ag (ag (ag (ag au)))))) (ad gA)) (i8 (gB T.hu (ad (aw C36 hr T 9 rfl (ae (aa T 1 rfl) (ae (aa T 2 rfl) (ae (aa T 6 rfl) (ae (aa T 9 rfl) ao)))) rfl (ag (ag (ag (ag au)))))) (ad gA))))) (ar (aI cs)) bL)
      (ar (cf (gB T.hu (ad (aw C36 hr T 9 rfl (ae (aa T 1 rfl) (ae (aa T 2 rfl) (ae (aa T 8 rfl) (ae (aa T 9 rfl) ao)))) rfl (ag (ag (ag (ag au)))))) (ad gA)) (ar (aI cs)) bL))))) bL)
      (aj (aP T 10 rfl (aw C16 hr T 10 rfl (ae (aa T 1 rfl) (ae (aa T 2 rfl) (ae (aa T 6 rfl) (ae (aa T 5 rfl) ao)))) rfl (ag (ag (ag (ag au))))))
      (ar (aI (lZ (la T 11 rfl b_isinstance T 12 rfl b_bool (ad (aa T 10 rfl))) (j7 (oW T.hu (ad (aa T 10 rfl)) (ad (aw C34 hr T 13 rfl (ae (aa T 1 rfl) (ae (aa T 2 rfl) (ae (aa T 5 rfl) (ae (aa T 6 rfl) ao)))) rfl (ag (ag (ag (ag au))))))))))))))))))))
end
noncomputable def F0:List PyData->R PyData:=fun ds=>open Classical in if ∃ ns:List Int,ns.length<=63/\ds=[.list (ns.map .int)] then .ok (.bool true) else .no
theorem wn:Ae F0:=fun ns h=>if_pos ⟨ns,h,rfl⟩
theorem Fl {c_Share:Addr} (vs:List V) (H:Hp) (Q:VK) (E:XK) (h:dC F0 1 vs H Q E):dC (wo c_Share) 1 vs H Q E:=by
  obtain ⟨ds,r,hl,q⟩:=h;refine ⟨ds,r,hl,?_⟩;by_cases hd:∃ ns:List Int,ns.length<=63/\ds=[.list (ns.map .int)]
  · obtain ⟨ns,h1,rfl⟩:=hd;rw [wn ns h1] at q;rw [Ag c_Share ns h1];exact q
  · unfold F0 at q;rw [if_neg hd] at q;exact q.elim
theorem DQ {l:PySem.W.OpenLaw} {w:World} {K:PySem.W.Frag} {h:Heap} {mg:Str->Option Value} {fa:Addr} (X:K.In h) (G:h.Ns mainGlobals mg) (hfa:mg "law" = some (.ref fa))
    {f38:Addr} {od38 an38:Option Addr} {sl38:Array (Option Value)} {oc38 kV38 dc38 pm38 cd38 ct38:Value}
    {f0:Addr} {d0:FuncData} (q0:cy K "_law_cell_at" iV f0 d0)
    {f1:Addr} {d1:FuncData} (q1:cy K "_law_mixed" kz f1 d1)
    {f2:Addr} {d2:FuncData} (q2:cy K "_law_drawn" kx f2 d2)
    {f3:Addr} {d3:FuncData} (q3:cy K "_law_goals" ky f3 d3)
    {f4:Addr} {d4:FuncData} (q4:cy K "_law_place" kA f4 d4)
    {f5:Addr} {d5:FuncData} (q5:cy K "_law_ground" gX f5 d5)
    {f6:Addr} {d6:FuncData} (q6:cy K "_law_choice" jG f6 d6)
    {f7:Addr} {d7:FuncData} (q7:cy K "_law_moves" iM f7 d7)
    {f8:Addr} {d8:FuncData} (q8:cy K "is_whole" lP f8 d8)
    {f9:Addr} {d9:FuncData} (q9:cy K "is_move" nX f9 d9)
    {f10:Addr} {d10:FuncData} (q10:cy K "are_moves" iK f10 d10)
    {f11:Addr} {d11:FuncData} (q11:cy K "is_between" jF f11 d11)
    {f12:Addr} {d12:FuncData} (q12:cy K "are_some" lO f12 d12)
    {f13:Addr} {d13:FuncData} (q13:cy K "come_to" nW f13 d13)
    {f14:Addr} {d14:FuncData} (q14:cy K "is_on_lost_ring" eT f14 d14)
    {f15:Addr} {d15:FuncData} (q15:cy K "ways_by" nY f15 d15)
    {f16:Addr} {d16:FuncData} (q16:cy K "without" kP f16 d16)
    {f17:Addr} {d17:FuncData} (q17:cy K "holds" mS f17 d17)
    {f18:Addr} {d18:FuncData} (q18:cy K "_law_refused" iX f18 d18)
    {f19:Addr} {d19:FuncData} (q19:cy K "_law_some" jH f19 d19)
    {f20:Addr} {d20:FuncData} (q20:cy K "_law_ways" jI f20 d20)
    {f21:Addr} {d21:FuncData} (q21:cy K "_law_inside" gY f21 d21)
    {f22:Addr} {d22:FuncData} (q22:cy K "_law_reached" iW f22 d22)
    {f23:Addr} {d23:FuncData} (q23:cy K "_law_wins_by_marks" dX f23 d23)
    {f24:Addr} {d24:FuncData} (q24:cy K "all_places" jE f24 d24)
    {f25:Addr} {d25:FuncData} (q25:cy K "moves_at" jJ f25 d25)
    {f26:Addr} {d26:FuncData} (q26:cy K "moves_of_both" fF f26 d26)
    {f27:Addr} {d27:FuncData} (q27:cy K "ranked" mT f27 d27)
    {f28:Addr} {d28:FuncData} (q28:cy K "pulling_moves" eJ f28 d28)
    {f29:Addr} {d29:FuncData} (q29:cy K "common" mQ f29 d29)
    {f30:Addr} {d30:FuncData} (q30:cy K "is_forced" iL f30 d30)
    {f31:Addr} {d31:FuncData} (q31:cy K "ranks_to" fJ f31 d31)
    {f32:Addr} {d32:FuncData} (q32:cy K "no_moves" jK f32 d32)
    {f33:Addr} {d33:FuncData} (q33:cy K "staying_moves" gN f33 d33)
    {f34:Addr} {d34:FuncData} (q34:cy K "share_by_marks" dj f34 d34)
    {f35:Addr} {d35:FuncData} (q35:cy K "winners_and_moves" dY f35 d35)
    {f36:Addr} {d36:FuncData} (q36:cy K "winners_within" gi f36 d36)
    {f37:Addr} {d37:FuncData} (q37:cy K "won" AO f37 d37)
    (a38:PySem.W.nsIn K mainGlobals "law" = some (some (.ref f38))) (l38:K.lookup f38=some ⟨oc38,od38,.func (PySem.W.fnOf "law" "law" (eQ lg) (dA lg) (aq lg) .none kV38 dc38 pm38 an38 cd38 ct38),sl38⟩) (c38:PySem.W.codeIn K cd38 "law" = true) (k38:PySem.W.keepIn K (.ref f38)=true)
    {t0:Tok} (qg0:PySem.W.nsIn K mainGlobals "GOALS" = some (some (.int 3 t0)))
    {t1:Tok} (qg1:PySem.W.nsIn K mainGlobals "MARK" = some (some (.int 1 t1)))
    {t2:Tok} (qg2:PySem.W.nsIn K mainGlobals "WHO" = some (some (.int 0 t2)))
    (qz0:PySem.W.nsIn K mainGlobals "all" = some none)
    (qz1:PySem.W.nsIn K mainGlobals "any" = some none)
    (qz2:PySem.W.nsIn K mainGlobals "bool" = some none)
    (qz3:PySem.W.nsIn K mainGlobals "enumerate" = some none)
    (qz4:PySem.W.nsIn K mainGlobals "int" = some none)
    (qz5:PySem.W.nsIn K mainGlobals "isinstance" = some none)
    (qz6:PySem.W.nsIn K mainGlobals "len" = some none)
    (qz7:PySem.W.nsIn K mainGlobals "list" = some none)
    (qz8:PySem.W.nsIn K mainGlobals "max" = some none)
    (qz9:PySem.W.nsIn K mainGlobals "min" = some none)
    (qz10:PySem.W.nsIn K mainGlobals "range" = some none)
    (qz11:PySem.W.nsIn K mainGlobals "sorted" = some none)
    (qz12:PySem.W.nsIn K mainGlobals "tuple" = some none)
    (qz13:PySem.W.nsIn K mainGlobals "zip" = some none)
    {cc0:Addr} (qm0:PySem.W.nsIn K mainGlobals "GroundError" = some (some (.ref cc0))) (qq0:PySem.W.excIn K cc0 tV sT=true)
    {cc1:Addr} (qm1:PySem.W.nsIn K mainGlobals "NoMoves" = some (some (.ref cc1))) (qq1:PySem.W.excIn K cc1 tV sT=true)
    {cc2:Addr} (qm2:PySem.W.nsIn K mainGlobals "NoPart" = some (some (.ref cc2))) (qq2:PySem.W.excIn K cc2 tV sT=true)
    (qs0:(Value.ref cc1::gf K cc1).contains (.ref cc1)=true)
    (qs1:(Value.ref cc1::gf K cc1).contains (.ref cc2)=false)
    (qs2:(Value.ref cc2::gf K cc2).contains (.ref cc2)=true)
    (qk0:PySem.W.kitOne K (.ref cc1) (.ref cc0)=some true)
    (qk1:PySem.W.kitOne K (.ref cc2) (.ref cc0)=some true)
    {c_Share fi_Share:Addr} {od_Share an_Share:Option Addr} {sl_Share:Array (Option Value)} {oc_Share kV_Share dc_Share pm_Share cd_Share ct_Share:Value}
    (qa_Share:PySem.W.nsIn K mainGlobals "Share" = some (some (.ref c_Share)))
    (qi_Share:PySem.W.findIn K (.ref c_Share) "__init__" = some (some (.ref fi_Share))) (qf_Share:PySem.W.isFn K (.ref fi_Share)=true)
    (ql_Share:K.lookup fi_Share=some ⟨oc_Share,od_Share,.func (PySem.W.fnOf "__init__" "Share.__init__" (eQ kO) (dA kO) (aq kO) .none kV_Share dc_Share pm_Share an_Share cd_Share ct_Share),sl_Share⟩)
    (qc_Share:PySem.W.codeIn K cd_Share "Share.__init__" = true) (qk_Share:PySem.W.keepIn K (.ref fi_Share)=true)
    (qpg_Share:PySem.W.plainGet K c_Share Str.empty=true) (qhd_Share:PySem.W.hasDictIn K c_Share=true) (qpo_Share:PySem.W.plainOver K c_Share=true) (qsa_Share:PySem.W.findIn K (.ref c_Share) "__setattr__" = some (some (.builtin "object.__setattr__"))) (qmk_Share:PySem.W.makesIn K c_Share=true) (qkc_Share:PySem.W.keepIn K (.ref c_Share)=true)
    (qn_Share_who:PySem.W.findIn K (.ref c_Share) "who" = some none)
    (qn_Share_places:PySem.W.findIn K (.ref c_Share) "places" = some none)
    (qn_Share_moves:PySem.W.findIn K (.ref c_Share) "moves" = some none)
    (nl:oZ K=true) :
    oZ K=true/\∃ fd:FuncData,(∀ (s:Shared) (v:Value),BindsTo s fd ⟨[v],[]⟩ [("_law_script",v)])/\∀ base:Heap,K.In base->base.Ns mainGlobals mg->bd l.prog w K mg base (cS l.prog w mg) 33 fa fd ["_law_script"] (dC F0 1):=by
  have e:=hfa.symm.trans (PySem.W.mg_of X G a38);cases e;have b0:bz K d0 ["_law_script","_law_k"] []:=uP q0.fn fun _ _ _ _ _ _ _ _=>rfl
  have m0:=PySem.W.mg_of X G q0.ns;have b1:bz K d1 ["_law_script","_law_k"] []:=uP q1.fn fun _ _ _ _ _ _ _ _=>rfl
  have m1:=PySem.W.mg_of X G q1.ns;have b2:bz K d2 ["_law_number","_law_k"] []:=uP q2.fn fun _ _ _ _ _ _ _ _=>rfl
  have m2:=PySem.W.mg_of X G q2.ns;have b3:bz K d3 ["_law_number","_law_count"] []:=uP q3.fn fun _ _ _ _ _ _ _ _=>rfl
  have m3:=PySem.W.mg_of X G q3.ns;have b4:bz K d4 ["_law_number","_law_count","_law_high"] []:=Fy q4.fn fun _ _ _ _ _ _ _ _ _=>rfl
  have m4:=PySem.W.mg_of X G q4.ns;have b5:bz K d5 ["_law_script","_law_most"] []:=uP q5.fn fun _ _ _ _ _ _ _ _=>rfl
  have m5:=PySem.W.mg_of X G q5.ns;have b6:bz K d6 ["_law_ground_here","_law_who","_law_number","_law_share"] []:=zp q6.fn fun _ _ _ _ _ _ _ _ _ _=>rfl
  have m6:=PySem.W.mg_of X G q6.ns;have b7:bz K d7 ["_law_ground_here","_law_who","_law_number","_law_told"] []:=zp q7.fn fun _ _ _ _ _ _ _ _ _ _=>rfl
  have m7:=PySem.W.mg_of X G q7.ns;have b8:bz K d8 ["thing"] []:=Fx q8.fn fun _ _ _ _ _ _ _=>rfl
  have m8:=PySem.W.mg_of X G q8.ns;have b9:bz K d9 ["thing","place"] []:=uP q9.fn fun _ _ _ _ _ _ _ _=>rfl
  have m9:=PySem.W.mg_of X G q9.ns;have b10:bz K d10 ["thing","ground"] []:=uP q10.fn fun _ _ _ _ _ _ _ _=>rfl
  have m10:=PySem.W.mg_of X G q10.ns;have b11:bz K d11 ["thing","low","high"] []:=Fy q11.fn fun _ _ _ _ _ _ _ _ _=>rfl
  have m11:=PySem.W.mg_of X G q11.ns;have b12:bz K d12 ["thing","count"] []:=uP q12.fn fun _ _ _ _ _ _ _ _=>rfl
  have m12:=PySem.W.mg_of X G q12.ns;have b13:bz K d13 ["ways","start","among"] []:=Fy q13.fn fun _ _ _ _ _ _ _ _ _=>rfl
  have m13:=PySem.W.mg_of X G q13.ns;have b14:bz K d14 ["ground","who","ways","number"] []:=zp q14.fn fun _ _ _ _ _ _ _ _ _ _=>rfl
  have m14:=PySem.W.mg_of X G q14.ns;have b15:bz K d15 ["ground","who","places","moves"] []:=zp q15.fn fun _ _ _ _ _ _ _ _ _ _=>rfl
  have m15:=PySem.W.mg_of X G q15.ns;have b16:bz K d16 ["some","others"] []:=uP q16.fn fun _ _ _ _ _ _ _ _=>rfl
  have m16:=PySem.W.mg_of X G q16.ns;have b17:bz K d17 ["ground","who","places","moves"] []:=zp q17.fn fun _ _ _ _ _ _ _ _ _ _=>rfl
  have m17:=PySem.W.mg_of X G q17.ns;have b18:bz K d18 ["_law_ground_here","_law_who","_law_places","_law_moves_here"] []:=zp q18.fn fun _ _ _ _ _ _ _ _ _ _=>rfl
  have m18:=PySem.W.mg_of X G q18.ns;have b19:bz K d19 ["_law_number","_law_count"] []:=uP q19.fn fun _ _ _ _ _ _ _ _=>rfl
  have m19:=PySem.W.mg_of X G q19.ns;have b20:bz K d20 ["_law_ground_here","_law_who","_law_moves_here","_law_place_here"] []:=zp q20.fn fun _ _ _ _ _ _ _ _ _ _=>rfl
  have m20:=PySem.W.mg_of X G q20.ns;have b21:bz K d21 ["_law_ground_here","_law_who","_law_moves_here","_law_places"] []:=zp q21.fn fun _ _ _ _ _ _ _ _ _ _=>rfl
  have m21:=PySem.W.mg_of X G q21.ns;have b22:bz K d22 ["_law_ground_here","_law_who","_law_moves_here","_law_start","_law_allowed"] []:=IS q22.fn fun _ _ _ _ _ _ _ _ _ _ _=>rfl
  have m22:=PySem.W.mg_of X G q22.ns;have b23:bz K d23 ["_law_ground_here","_law_who","_law_moves_here","_law_places"] []:=zp q23.fn fun _ _ _ _ _ _ _ _ _ _=>rfl
  have m23:=PySem.W.mg_of X G q23.ns;have b24:bz K d24 ["ground"] []:=Fx q24.fn fun _ _ _ _ _ _ _=>rfl
  have m24:=PySem.W.mg_of X G q24.ns;have b25:bz K d25 ["moves","places"] []:=uP q25.fn fun _ _ _ _ _ _ _ _=>rfl
  have m25:=PySem.W.mg_of X G q25.ns;have b26:bz K d26 ["moves","others"] []:=uP q26.fn fun _ _ _ _ _ _ _ _=>rfl
  have m26:=PySem.W.mg_of X G q26.ns;have b27:bz K d27 ["ranks"] []:=Fx q27.fn fun _ _ _ _ _ _ _=>rfl
  have m27:=PySem.W.mg_of X G q27.ns;have b28:bz K d28 ["ground","who","ranks"] []:=Fy q28.fn fun _ _ _ _ _ _ _ _ _=>rfl
  have m28:=PySem.W.mg_of X G q28.ns;have b29:bz K d29 ["some","others"] []:=uP q29.fn fun _ _ _ _ _ _ _ _=>rfl
  have m29:=PySem.W.mg_of X G q29.ns;have b30:bz K d30 ["place","ways","who","ranks"] []:=zp q30.fn fun _ _ _ _ _ _ _ _ _ _=>rfl
  have m30:=PySem.W.mg_of X G q30.ns;have b31:bz K d31 ["ground","inside","who","goals"] []:=zp q31.fn fun _ _ _ _ _ _ _ _ _ _=>rfl
  have m31:=PySem.W.mg_of X G q31.ns;have b32:bz K d32 ["ground"] []:=Fx q32.fn fun _ _ _ _ _ _ _=>rfl
  have m32:=PySem.W.mg_of X G q32.ns;have b33:bz K d33 ["ground","who","part"] []:=Fy q33.fn fun _ _ _ _ _ _ _ _ _=>rfl
  have m33:=PySem.W.mg_of X G q33.ns;have b34:bz K d34 ["ground","inside"] []:=uP q34.fn fun _ _ _ _ _ _ _ _=>rfl
  have m34:=PySem.W.mg_of X G q34.ns;have b35:bz K d35 ["ground","shares"] []:=uP q35.fn fun _ _ _ _ _ _ _ _=>rfl
  have m35:=PySem.W.mg_of X G q35.ns;have b36:bz K d36 ["ground","inside"] []:=uP q36.fn fun _ _ _ _ _ _ _ _=>rfl
  have m36:=PySem.W.mg_of X G q36.ns;have b37:bz K d37 ["ground"] []:=Fx q37.fn fun _ _ _ _ _ _ _=>rfl
  have m37:=PySem.W.mg_of X G q37.ns;have F38:=vx (st:=lg) l38 c38 k38;have FF_Share:=vx (st:=kO) ql_Share qc_Share qk_Share;have bb_Share:=FF_Share.binds (ps:=["self","who","places","moves"]) fun _ _ _ _ _ _ us hl=>by
    obtain ⟨z0,r0,rfl,q0⟩:=D2.iw hl;obtain ⟨z1,r1,rfl,q1⟩:=D2.iw q0;obtain ⟨z2,r2,rfl,q2⟩:=D2.iw q1;obtain ⟨z3,r3,rfl,q3⟩:=D2.iw q2;obtain rfl:=List.eq_nil_of_length_eq_zero q3;exact rfl
  have mm_Share:=PySem.W.mg_of X G qa_Share;have ccl_Share:yU K c_Share:=⟨qpg_Share,qhd_Share,qpo_Share,qsa_Share⟩
  have h0:=PySem.W.mg_of X G qg0;have h1:=PySem.W.mg_of X G qg1;have h2:=PySem.W.mg_of X G qg2;have n0:=PySem.W.mg_of X G qm0;have n1:=PySem.W.mg_of X G qm1;have n2:=PySem.W.mg_of X G qm2;have y0:=PySem.W.mg_none_of X G qz0;have y1:=PySem.W.mg_none_of X G qz1;have y2:=PySem.W.mg_none_of X G qz2;have y3:=PySem.W.mg_none_of X G qz3;have y4:=PySem.W.mg_none_of X G qz4;have y5:=PySem.W.mg_none_of X G qz5;have y6:=PySem.W.mg_none_of X G qz6;have y7:=PySem.W.mg_none_of X G qz7;have y8:=PySem.W.mg_none_of X G qz8;have y9:=PySem.W.mg_none_of X G qz9;have y10:=PySem.W.mg_none_of X G qz10;have y11:=PySem.W.mg_none_of X G qz11;have y12:=PySem.W.mg_none_of X G qz12;have y13:=PySem.W.mg_none_of X G qz13;refine ⟨nl,PySem.W.fnOf "law" "law" (eQ lg) (dA lg) (aq lg) .none kV38 dc38 pm38 an38 cd38 ct38,fun s v=>.of_eq rfl,fun base _ _=>?_⟩;have QI_Share:bd l.prog w K mg base (cS l.prog w mg) 1 fi_Share _ ["self","who","places","moves"] (Ho c_Share ["who","places","moves"]):=Bm FF_Share ccl_Share qn_Share_who qn_Share_places qn_Share_moves;have Q0:bd l.prog w K mg base (cS l.prog w mg) 1 f0 _ ["_law_script","_law_k"] (dC cN 2):=ql (k:=0) (W:=q0.fn) (b_len:=y6);have Q1:bd l.prog w K mg base (cS l.prog w mg) 2 f1 _ ["_law_script","_law_k"] (dC bc 2):=sZ (k:=1) (W:=q1.fn) (C24:=⟨Q0.mono (by decide),m0,q0.fn.kp,b0⟩);have Q2:bd l.prog w K mg base (cS l.prog w mg) 1 f2 _ ["_law_number","_law_k"] (dC aG 2):=sX (k:=0) (W:=q2.fn);have Q3:bd l.prog w K mg base (cS l.prog w mg) 2 f3 _ ["_law_number","_law_count"] (dC dJ 2):=sY (k:=1) (W:=q3.fn) (C26:=⟨Q2.mono (by decide),m2,q2.fn.kp,b2⟩) (b_int:=y4) (b_range:=y10) (b_sorted:=y11) (b_tuple:=y12);have Q4:bd l.prog w K mg base (cS l.prog w mg) 3 f4 _ ["_law_number","_law_count","_law_high"] (dC dc 3):=tf (k:=2) (W:=q4.fn) (C26:=⟨Q2.mono (by decide),m2,q2.fn.kp,b2⟩) (C27:=⟨Q3.mono (by decide),m3,q3.fn.kp,b3⟩);have Q5:bd l.prog w K mg base (cS l.prog w mg) 4 f5 _ ["_law_script","_law_most"] (dC cY 2):=rE (k:=3) (W:=q5.fn) (C25:=⟨Q1.mono (by decide),m1,q1.fn.kp,b1⟩) (C28:=⟨Q4.mono (by decide),m4,q4.fn.kp,b4⟩) (b_len:=y6) (b_max:=y8) (b_min:=y9) (b_range:=y10) (b_tuple:=y12);have Q6:bd l.prog w K mg base (cS l.prog w mg) 2 f6 _ ["_law_ground_here","_law_who","_law_number","_law_share"] (dC cO 4):=rD (k:=1) (W:=q6.fn) (C26:=⟨Q2.mono (by decide),m2,q2.fn.kp,b2⟩) (b_enumerate:=y3) (b_len:=y6) (b_tuple:=y12);have Q7:bd l.prog w K mg base (cS l.prog w mg) 3 f7 _ ["_law_ground_here","_law_who","_law_number","_law_told"] (dC cQ 4):=s9 (k:=2) (W:=q7.fn) (C35:=⟨Q6.mono (by decide),m6,q6.fn.kp,b6⟩) (b_int:=y4) (b_len:=y6) (b_tuple:=y12) (b_zip:=y13);have Q8:bd l.prog w K mg base (cS l.prog w mg) 1 f8 _ ["thing"] (dC cz 1):=uT (k:=0) (W:=q8.fn) (b_bool:=y2) (b_int:=y4) (b_isinstance:=y5);have Q9:bd l.prog w K mg base (cS l.prog w mg) 2 f9 _ ["thing","place"] (dC eK 2):=xB (k:=1) (W:=q9.fn) (C0:=⟨Q8.mono (by decide),m8,q8.fn.kp,b8⟩) (g_GOALS:=h0);have Q10:bd l.prog w K mg base (cS l.prog w mg) 3 f10 _ ["thing","ground"] (dC dI 2):=sV (k:=2) (W:=q10.fn) (C3:=⟨Q9.mono (by decide),m9,q9.fn.kp,b9⟩) (b_all:=y0) (b_isinstance:=y5) (b_len:=y6) (b_tuple:=y12) (b_zip:=y13);have Q11:bd l.prog w K mg base (cS l.prog w mg) 2 f11 _ ["thing","low","high"] (dC cM 3):=rC (k:=1) (W:=q11.fn) (C0:=⟨Q8.mono (by decide),m8,q8.fn.kp,b8⟩);have Q12:bd l.prog w K mg base (cS l.prog w mg) 3 f12 _ ["thing","count"] (dC dN 2):=uS (k:=2) (W:=q12.fn) (C1:=⟨Q11.mono (by decide),m11,q11.fn.kp,b11⟩) (b_isinstance:=y5) (b_tuple:=y12);have Q13:bd l.prog w K mg base (cS l.prog w mg) 1 f13 _ ["ways","start","among"] (dC ff 3):=xA (k:=0) (W:=q13.fn) (b_len:=y6);have Q14:bd l.prog w K mg base (cS l.prog w mg) 2 f14 _ ["ground","who","ways","number"] (dC bF 4):=lU (k:=1) (W:=q14.fn) (C14:=⟨Q13.mono (by decide),m13,q13.fn.kp,b13⟩) (g_MARK:=h1);have Q15:bd l.prog w K mg base (cS l.prog w mg) 1 f15 _ ["ground","who","places","moves"] (dC fi 4):=xC (k:=0) (W:=q15.fn) (g_GOALS:=h0) (g_WHO:=h2);have Q16:bd l.prog w K mg base (cS l.prog w mg) 1 f16 _ ["some","others"] (dC aV 2):=xD (k:=0) (W:=q16.fn) (b_tuple:=y12);have Q17:bd l.prog w K mg base (cS l.prog w mg) 4 f17 _ ["ground","who","places","moves"] (dC cL 4):=Bn (k:=3) (W:=q17.fn) (C4:=⟨Q10.mono (by decide),m10,q10.fn.kp,b10⟩) (C2:=⟨Q12.mono (by decide),m12,q12.fn.kp,b12⟩) (C15:=⟨Q14.mono (by decide),m14,q14.fn.kp,b14⟩) (C13:=⟨Q15.mono (by decide),m15,q15.fn.kp,b15⟩) (C7:=⟨Q16.mono (by decide),m16,q16.fn.kp,b16⟩) (b_any:=y1) (b_len:=y6) (m_NoMoves:=n1) (q_NoMoves:=qq1) (m_NoPart:=n2) (q_NoPart:=qq2);have Q18:bd l.prog w K mg base (cS l.prog w mg) 5 f18 _ ["_law_ground_here","_law_who","_law_places","_law_moves_here"] (dC bn 4):=qp (k:=4) (W:=q18.fn) (C16:=⟨Q17.mono (by decide),m17,q17.fn.kp,b17⟩) (b_int:=y4) (b_isinstance:=y5) (m_GroundError:=n0) (q_GroundError:=qq0) (m_NoMoves:=n1) (q_NoMoves:=qq1) (m_NoPart:=n2) (q_NoPart:=qq2) (b_NoMoves_NoMoves:=qs0) (b_NoMoves_NoPart:=qs1) (b_NoPart_NoPart:=qs2) (k_NoMoves_GroundError:=qk0) (k_NoPart_GroundError:=qk1);have Q19:bd l.prog w K mg base (cS l.prog w mg) 2 f19 _ ["_law_number","_law_count"] (dC dO 2):=uU (k:=1) (W:=q19.fn) (C26:=⟨Q2.mono (by decide),m2,q2.fn.kp,b2⟩) (b_range:=y10) (b_tuple:=y12);have Q20:bd l.prog w K mg base (cS l.prog w mg) 1 f20 _ ["_law_ground_here","_law_who","_law_moves_here","_law_place_here"] (dC bI 4):=uV (k:=0) (W:=q20.fn) (b_list:=y7);have Q21:bd l.prog w K mg base (cS l.prog w mg) 2 f21 _ ["_law_ground_here","_law_who","_law_moves_here","_law_places"] (dC cZ 4):=rF (k:=1) (W:=q21.fn) (C31:=⟨Q20.mono (by decide),m20,q20.fn.kp,b20⟩);have Q22:bd l.prog w K mg base (cS l.prog w mg) 2 f22 _ ["_law_ground_here","_law_who","_law_moves_here","_law_start","_law_allowed"] (dC cw 5):=qm (k:=1) (W:=q22.fn) (C31:=⟨Q20.mono (by decide),m20,q20.fn.kp,b20⟩);have Q23:bd l.prog w K mg base (cS l.prog w mg) 3 f23 _ ["_law_ground_here","_law_who","_law_moves_here","_law_places"] (dC bB 4):=kT (k:=2) (W:=q23.fn) (C33:=⟨Q21.mono (by decide),m21,q21.fn.kp,b21⟩) (C32:=⟨Q22.mono (by decide),m22,q22.fn.kp,b22⟩);have Q24:bd l.prog w K mg base (cS l.prog w mg) 1 f24 _ ["ground"] (dC cX 1):=rB (k:=0) (W:=q24.fn) (b_len:=y6) (b_range:=y10) (b_tuple:=y12);have Q25:bd l.prog w K mg base (cS l.prog w mg) 1 f25 _ ["moves","places"] (dC dl 2):=uW (k:=0) (W:=q25.fn) (b_enumerate:=y3) (b_tuple:=y12);have Q26:bd l.prog w K mg base (cS l.prog w mg) 1 f26 _ ["moves","others"] (dC aN 2):=oF (k:=0) (W:=q26.fn) (b_tuple:=y12) (b_zip:=y13);have Q27:bd l.prog w K mg base (cS l.prog w mg) 1 f27 _ ["ranks"] (dC cJ 1):=yY (k:=0) (W:=q27.fn) (b_enumerate:=y3) (b_tuple:=y12);have Q28:bd l.prog w K mg base (cS l.prog w mg) 2 f28 _ ["ground","who","ranks"] (dC br 3):=oG (k:=1) (W:=q28.fn) (C19:=⟨Q27.mono (by decide),m27,q27.fn.kp,b27⟩) (g_GOALS:=h0) (g_WHO:=h2) (b_tuple:=y12);have Q29:bd l.prog w K mg base (cS l.prog w mg) 1 f29 _ ["some","others"] (dC cI 2):=yX (k:=0) (W:=q29.fn) (b_tuple:=y12);have Q30:bd l.prog w K mg base (cS l.prog w mg) 1 f30 _ ["place","ways","who","ranks"] (dC cr 4):=sW (k:=0) (W:=q30.fn) (g_WHO:=h2) (b_len:=y6);have Q31:bd l.prog w K mg base (cS l.prog w mg) 2 f31 _ ["ground","inside","who","goals"] (dC cV 4):=uY (k:=1) (W:=q31.fn) (C6:=⟨Q29.mono (by decide),m29,q29.fn.kp,b29⟩) (C17:=⟨Q30.mono (by decide),m30,q30.fn.kp,b30⟩) (g_GOALS:=h0) (b_len:=y6) (b_list:=y7) (b_range:=y10) (b_tuple:=y12);have Q32:bd l.prog w K mg base (cS l.prog w mg) 1 f32 _ ["ground"] (dC cq 1):=uX (k:=0) (W:=q32.fn) (b_tuple:=y12);have Q33:bd l.prog w K mg base (cS l.prog w mg) 2 f33 _ ["ground","who","part"] (dC bK 3):=oH (k:=1) (W:=q33.fn) (C6:=⟨Q29.mono (by decide),m29,q29.fn.kp,b29⟩) (C8:=⟨Q32.mono (by decide),m32,q32.fn.kp,b32⟩) (g_GOALS:=h0) (g_WHO:=h2) (b_list:=y7) (b_tuple:=y12);have Q35:bd l.prog w K mg base (cS l.prog w mg) 2 f35 _ ["ground","shares"] (dC (bo c_Share) 2):=kU (k:=1) (W:=q35.fn) (C9:=⟨Q26.mono (by decide),m26,q26.fn.kp,b26⟩) (C8:=⟨Q32.mono (by decide),m32,q32.fn.kp,b32⟩) (b_tuple:=y12) (cl_Share:=ccl_Share) (n_Share_moves:=qn_Share_moves) (n_Share_places:=qn_Share_places) (n_Share_who:=qn_Share_who);have HH36:∀ n,bd l.prog w K mg base (cS l.prog w mg) (2*n+3) f36 _ ["ground","inside"] (dC (aQ c_Share n) 2)->bd l.prog w K mg base (cS l.prog w mg) (2*n+4) f34 _ ["ground","inside"] (dC (bj c_Share n) 2):=fun n ih=>ni (k:=2*n+3) (W:=q34.fn) (C22:=⟨ih,m36,q36.fn.kp,b36⟩) (C10:=⟨Q25.mono (by omega),m25,q25.fn.kp,b25⟩) (C9:=⟨Q26.mono (by omega),m26,q26.fn.kp,b26⟩) (C20:=⟨Q28.mono (by omega),m28,q28.fn.kp,b28⟩) (C19:=⟨Q27.mono (by omega),m27,q27.fn.kp,b27⟩) (C18:=⟨Q31.mono (by omega),m31,q31.fn.kp,b31⟩) (C11:=⟨Q33.mono (by omega),m33,q33.fn.kp,b33⟩) (C7:=⟨Q16.mono (by omega),m16,q16.fn.kp,b16⟩) (g_MARK:=h1) (b_enumerate:=y3) (b_len:=y6) (b_max:=y8) (cl_Share:=ccl_Share) (n_Share_moves:=qn_Share_moves) (n_Share_places:=qn_Share_places) (n_Share_who:=qn_Share_who) (m_Share:=mm_Share) (MK_Share:=⟨qmk_Share,qi_Share,qf_Share,qkc_Share⟩) (I_Share:=QI_Share) (B_Share:=bb_Share) (hk:=by omega)
  have Q36:∀ n,bd l.prog w K mg base (cS l.prog w mg) (2*n+3) f36 _ ["ground","inside"] (dC (aQ c_Share n) 2):=fun n=>by
    induction n with
    | zero=>exact yx
    | succ n ih=>exact nk (k:=2*n+4) (W:=q36.fn) (C21:=⟨HH36 n ih,m34,q34.fn.kp,b34⟩) (C12:=⟨Q35.mono (by omega),m35,q35.fn.kp,b35⟩) (C7:=⟨Q16.mono (by omega),m16,q16.fn.kp,b16⟩) (b_len:=y6) (cl_Share:=ccl_Share) (n_Share_places:=qn_Share_places)
  have Q36:=Q36 14;have Q37:bd l.prog w K mg base (cS l.prog w mg) 32 f37 _ ["ground"] (dC (lV c_Share) 1):=Fj (k:=31) (W:=q37.fn) (C5:=⟨Q24.mono (by decide),m24,q24.fn.kp,b24⟩) (C22:=⟨Q36.mono (by decide),m36,q36.fn.kp,b36⟩);have Q38:bd l.prog w K mg base (cS l.prog w mg) 33 fa _ ["_law_script"] (dC (wo c_Share) 1):=Fi (k:=32) (W:=F38) (C29:=⟨Q5.mono (by decide),m5,q5.fn.kp,b5⟩) (C25:=⟨Q1.mono (by decide),m1,q1.fn.kp,b1⟩) (C37:=⟨Q7.mono (by decide),m7,q7.fn.kp,b7⟩) (C36:=⟨Q18.mono (by decide),m18,q18.fn.kp,b18⟩) (C30:=⟨Q19.mono (by decide),m19,q19.fn.kp,b19⟩) (C34:=⟨Q23.mono (by decide),m23,q23.fn.kp,b23⟩) (C16:=⟨Q17.mono (by decide),m17,q17.fn.kp,b17⟩) (C23:=⟨Q37.mono (by decide),m37,q37.fn.kp,b37⟩) (b_bool:=y2) (b_isinstance:=y5) (b_len:=y6) (b_list:=y7) (b_range:=y10) (b_tuple:=y12);exact Q38.imp Fl
end G
open PySem PySem.W PyProof.Rows
theorem D2.walkZ {q:Program} {loose:List Str} {XP:(Str->Option Value)->Heap->Prop} {K:Params->PySem.W.Frag} {as:List Addr} {n t:Nat} {r:PySem.W.RowW} {d:DefRec} {kwd:List (Str×Expr)} {run:Value->List Value->Sem Value} (has:∀ P:Params,as=List.map (fun x=>x.fst) (K P))
    (h:PySem.W.WalkO q loose XP (PySem.W.kHook K as has).says r d kwd run):PySem.W.WalkX q loose XP (PySem.W.X.obsZ as) (PySem.W.X.valZ K n t) r d kwd run:=fun w s₀ s₁ mg mb G e a o pm cd doc dV kV h1 h2 h3 h4 h5 h6 args vals as' L =>
  h w s₀ s₁ mg mb G ((PySem.W.kHook K as has).keeps w _ _ ((PySem.W.kHook K as has).of w s₀ (congrArg Prod.fst e)) L.keeps) a o pm cd doc dV kV h1 h2 h3 h4 h5 h6 args vals as'
set_option maxRecDepth 100000 in
set_option maxHeartbeats 0 in
theorem PySem.Challenge.cw_duelground_k40_holds_holds : PySem.Challenge.rw_duelground_k40_holds.Holds := by
  w_on;o_law;z_head;(case hw=>w_witness2)
  refine D2.walkZ (fun P=>rfl) ?_;refine D2.Iy (l:=PySem.Challenge.rw_duelground_k40_holds) (k:=33) (x := "_law_script") (F:=G.F0) rfl rfl ⟨rfl,by decide,by decide⟩ (fun w h Y=>PySem.W.kIn_of Y) G.wn ?F
  case F =>
    intro w mg fa h KX GG hmg;refine' G.DQ KX GG hmg ?q0 ?q1 ?q2 ?q3 ?q4 ?q5 ?q6 ?q7 ?q8 ?q9 ?q10 ?q11 ?q12 ?q13 ?q14 ?q15 ?q16 ?q17 ?q18 ?q19 ?q20 ?q21 ?q22 ?q23 ?q24 ?q25 ?q26 ?q27 ?q28 ?q29 ?q30 ?q31 ?q32 ?q33 ?q34 ?q35 ?q36 ?q37 ?a38 ?l38 ?c38 ?k38 ?qg0 ?qg1 ?qg2 ?qz0 ?qz1 ?qz2 ?qz3 ?qz4 ?qz5 ?qz6 ?qz7 ?qz8 ?qz9 ?qz10 ?qz11 ?qz12 ?qz13 ?qm0 ?qq0 ?qm1 ?qq1 ?qm2 ?qq2 ?qs0 ?qs1 ?qs2 ?qk0 ?qk1 ?qa_Share ?qi_Share ?qf_Share ?ql_Share ?qc_Share ?qk_Share ?qpg_Share ?qhd_Share ?qpo_Share ?qsa_Share ?qmk_Share ?qkc_Share ?qn_Share_who ?qn_Share_places ?qn_Share_moves ?nl
    (case q0=>refine' D2.aZ ?a ?l ?c ?k;(case a=>k_is);(case l=>k_is);(case c=>k_is);(case k=>k_is))
    (case q1=>refine' D2.aZ ?a ?l ?c ?k;(case a=>k_is);(case l=>k_is);(case c=>k_is);(case k=>k_is))
    (case q2=>refine' D2.aZ ?a ?l ?c ?k;(case a=>k_is);(case l=>k_is);(case c=>k_is);(case k=>k_is))
    (case q3=>refine' D2.aZ ?a ?l ?c ?k;(case a=>k_is);(case l=>k_is);(case c=>k_is);(case k=>k_is))
    (case q4=>refine' D2.aZ ?a ?l ?c ?k;(case a=>k_is);(case l=>k_is);(case c=>k_is);(case k=>k_is))
    (case q5=>refine' D2.aZ ?a ?l ?c ?k;(case a=>k_is);(case l=>k_is);(case c=>k_is);(case k=>k_is))
    (case q6=>refine' D2.aZ ?a ?l ?c ?k;(case a=>k_is);(case l=>k_is);(case c=>k_is);(case k=>k_is))
    (case q7=>refine' D2.aZ ?a ?l ?c ?k;(case a=>k_is);(case l=>k_is);(case c=>k_is);(case k=>k_is))
    (case q8=>refine' D2.aZ ?a ?l ?c ?k;(case a=>k_is);(case l=>k_is);(case c=>k_is);(case k=>k_is))
    (case q9=>refine' D2.aZ ?a ?l ?c ?k;(case a=>k_is);(case l=>k_is);(case c=>k_is);(case k=>k_is))
    (case q10=>refine' D2.aZ ?a ?l ?c ?k;(case a=>k_is);(case l=>k_is);(case c=>k_is);(case k=>k_is))
    (case q11=>refine' D2.aZ ?a ?l ?c ?k;(case a=>k_is);(case l=>k_is);(case c=>k_is);(case k=>k_is))
    (case q12=>refine' D2.aZ ?a ?l ?c ?k;(case a=>k_is);(case l=>k_is);(case c=>k_is);(case k=>k_is))
    (case q13=>refine' D2.aZ ?a ?l ?c ?k;(case a=>k_is);(case l=>k_is);(case c=>k_is);(case k=>k_is))
    (case q14=>refine' D2.aZ ?a ?l ?c ?k;(case a=>k_is);(case l=>k_is);(case c=>k_is);(case k=>k_is))
    (case q15=>refine' D2.aZ ?a ?l ?c ?k;(case a=>k_is);(case l=>k_is);(case c=>k_is);(case k=>k_is))
    (case q16=>refine' D2.aZ ?a ?l ?c ?k;(case a=>k_is);(case l=>k_is);(case c=>k_is);(case k=>k_is))
    (case q17=>refine' D2.aZ ?a ?l ?c ?k;(case a=>k_is);(case l=>k_is);(case c=>k_is);(case k=>k_is))
    (case q18=>refine' D2.aZ ?a ?l ?c ?k;(case a=>k_is);(case l=>k_is);(case c=>k_is);(case k=>k_is))
    (case q19=>refine' D2.aZ ?a ?l ?c ?k;(case a=>k_is);(case l=>k_is);(case c=>k_is);(case k=>k_is))
    (case q20=>refine' D2.aZ ?a ?l ?c ?k;(case a=>k_is);(case l=>k_is);(case c=>k_is);(case k=>k_is))
    (case q21=>refine' D2.aZ ?a ?l ?c ?k;(case a=>k_is);(case l=>k_is);(case c=>k_is);(case k=>k_is))
    (case q22=>refine' D2.aZ ?a ?l ?c ?k;(case a=>k_is);(case l=>k_is);(case c=>k_is);(case k=>k_is))
    (case q23=>refine' D2.aZ ?a ?l ?c ?k;(case a=>k_is);(case l=>k_is);(case c=>k_is);(case k=>k_is))
    (case q24=>refine' D2.aZ ?a ?l ?c ?k;(case a=>k_is);(case l=>k_is);(case c=>k_is);(case k=>k_is))
    (case q25=>refine' D2.aZ ?a ?l ?c ?k;(case a=>k_is);(case l=>k_is);(case c=>k_is);(case k=>k_is))
    (case q26=>refine' D2.aZ ?a ?l ?c ?k;(case a=>k_is);(case l=>k_is);(case c=>k_is);(case k=>k_is))
    (case q27=>refine' D2.aZ ?a ?l ?c ?k;(case a=>k_is);(case l=>k_is);(case c=>k_is);(case k=>k_is))
    (case q28=>refine' D2.aZ ?a ?l ?c ?k;(case a=>k_is);(case l=>k_is);(case c=>k_is);(case k=>k_is))
    (case q29=>refine' D2.aZ ?a ?l ?c ?k;(case a=>k_is);(case l=>k_is);(case c=>k_is);(case k=>k_is))
    (case q30=>refine' D2.aZ ?a ?l ?c ?k;(case a=>k_is);(case l=>k_is);(case c=>k_is);(case k=>k_is))
    (case q31=>refine' D2.aZ ?a ?l ?c ?k;(case a=>k_is);(case l=>k_is);(case c=>k_is);(case k=>k_is))
    (case q32=>refine' D2.aZ ?a ?l ?c ?k;(case a=>k_is);(case l=>k_is);(case c=>k_is);(case k=>k_is))
    (case q33=>refine' D2.aZ ?a ?l ?c ?k;(case a=>k_is);(case l=>k_is);(case c=>k_is);(case k=>k_is))
    (case q34=>refine' D2.aZ ?a ?l ?c ?k;(case a=>k_is);(case l=>k_is);(case c=>k_is);(case k=>k_is))
    (case q35=>refine' D2.aZ ?a ?l ?c ?k;(case a=>k_is);(case l=>k_is);(case c=>k_is);(case k=>k_is))
    (case q36=>refine' D2.aZ ?a ?l ?c ?k;(case a=>k_is);(case l=>k_is);(case c=>k_is);(case k=>k_is))
    (case q37=>refine' D2.aZ ?a ?l ?c ?k;(case a=>k_is);(case l=>k_is);(case c=>k_is);(case k=>k_is))
    (case a38=>k_is)
    (case l38=>k_is)
    (case c38=>k_is)
    (case k38=>k_is)
    (case qg0=>k_is)
    (case qg1=>k_is)
    (case qg2=>k_is)
    (case qz0=>k_is)
    (case qz1=>k_is)
    (case qz2=>k_is)
    (case qz3=>k_is)
    (case qz4=>k_is)
    (case qz5=>k_is)
    (case qz6=>k_is)
    (case qz7=>k_is)
    (case qz8=>k_is)
    (case qz9=>k_is)
    (case qz10=>k_is)
    (case qz11=>k_is)
    (case qz12=>k_is)
    (case qz13=>k_is)
    (case qm0=>k_is)
    (case qq0=>k_exc)
    (case qm1=>k_is)
    (case qq1=>k_exc)
    (case qm2=>k_is)
    (case qq2=>k_exc)
    (case qs0=>first | rfl | k_is | decide)
    (case qs1=>first | rfl | k_is | decide)
    (case qs2=>first | rfl | k_is | decide)
    (case qk0=>first | rfl | k_is | decide)
    (case qk1=>first | rfl | k_is | decide)
    (case qa_Share=>k_is)
    (case qi_Share=>k_is)
    (case qf_Share=>k_is)
    (case ql_Share=>k_is)
    (case qc_Share=>k_is)
    (case qk_Share=>k_is)
    (case qpg_Share=>k_is)
    (case qhd_Share=>k_is)
    (case qpo_Share=>k_is)
    (case qsa_Share=>k_is)
    (case qmk_Share=>k_is)
    (case qkc_Share=>k_is)
    (case qn_Share_who=>k_is)
    (case qn_Share_places=>k_is)
    (case qn_Share_moves=>k_is)
    (case nl=>first | rfl | k_is | decide)

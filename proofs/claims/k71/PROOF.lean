import PyProof.Rows.All
import Wide.All
import OpenK.AllK
import Wide.FinOn
import Lean
import PyProof.EqAt
import PyProof.EqKinds
import PyProof.TupleCall
import PySem.Challenge.RW_duelground_k71_whole_changes_of_winners
set_option Elab.async false
set_option linter.all false
set_option maxRecDepth 100000
set_option bootstrap.genMatcherCode false
set_option genSizeOf false
set_option genInjectivity false
set_option compiler.extract_closed false
set_option genSizeOfSpec false
local macro_rules | `(tactic| omega) => `(tactic| first | lia | omega +splitDisjunctions)
namespace L2
open PySem PySem.Spec PyProof.Rows
noncomputable abbrev dz:=Sum Int Str
noncomputable def o8:dz->Value->Bool
  | .inl k,v=>Value.isInt k v
  | .inr x,v=>Value.isStrOf x v
noncomputable def Jn (w:World):dz->Int
  | .inl k=>hashInt k
  | .inr x=>hashStr w x
theorem cW:∀ {k:dz} {v:Value},o8 k v=true->(∃ i t,k=Sum.inl i/\v=Value.int i t)\/(∃ x t,k=Sum.inr x/\v=Value.str x t)
  | .inl i,v,h=>by
    obtain ⟨t,e⟩:=Value.isInt_shape (k:=i) (v:=v) h;exact .inl ⟨i,t,rfl,e⟩
  | .inr x,v,h=>by
    obtain ⟨t,e⟩:=Value.isStrOf_shape (x:=x) (v:=v) h;exact .inr ⟨x,t,rfl,e⟩
theorem yG (i:Int) (t:Tok):o8 (.inl i) (.int i t)=true:=by simp [o8,Value.isInt]
theorem yH (x:Str) (t:Tok):o8 (.inr x) (.str x t)=true:=by simp [o8,Value.isStrOf]
theorem Fb (a b:Int):decide ((Sum.inl a:dz)=Sum.inl b)=(a==b):=by
  by_cases e:a=b
  · subst e;simp
  · have h:¬ (Sum.inl a:dz)=Sum.inl b:=fun q=>e (Sum.inl.inj q)
    rw [decide_eq_false h];exact (beq_eq_false_iff_ne.mpr e).symm
theorem Ff (a b:Str):decide ((Sum.inr a:dz)=Sum.inr b)=decide (a=b):=by
  by_cases e:a=b
  · subst e;simp
  · have h:¬ (Sum.inr a:dz)=Sum.inr b:=fun q=>e (Sum.inr.inj q)
    rw [decide_eq_false h,decide_eq_false e]
theorem Fc (a:Int) (b:Str):decide ((Sum.inl a:dz)=Sum.inr b)=false:=decide_eq_false (fun q=>nomatch q)
theorem Fd (a:Str) (b:Int):decide ((Sum.inr a:dz)=Sum.inl b)=false:=decide_eq_false (fun q=>nomatch q)
noncomputable def dH (prog:Program) (w:World):PySem.KeyKind prog w dz where
  is:=o8
  hash:=Jn w
  inj:=fun v a b ha hb=>by
    rcases cW ha with ⟨i,t,rfl,rfl⟩ | ⟨x,t,rfl,rfl⟩
    · rcases cW hb with ⟨j,u,rfl,e⟩ | ⟨y,u,rfl,e⟩
      · injection e with e1 _;rw [e1]
      · exact nomatch e
    · rcases cW hb with ⟨j,u,rfl,e⟩ | ⟨y,u,rfl,e⟩
      · exact nomatch e
      · injection e with e1 _;rw [e1]
  byValue:=fun k v h=>by
    rcases cW h with ⟨i,t,rfl,rfl⟩ | ⟨x,t,rfl,rfl⟩ <;> rfl
  pyHash:=fun hv h=>by
    rcases cW hv with ⟨i,t,rfl,rfl⟩ | ⟨x,t,rfl,rfl⟩
    · exact wpAny_pyHash_int h
    · exact wpAny_pyHash_str h
  eqBool:=fun hu hv h=>by
    rcases cW hu with ⟨i,t,rfl,rfl⟩ | ⟨x,t,rfl,rfl⟩
    · rcases cW hv with ⟨j,u,rfl,rfl⟩ | ⟨y,u,rfl,rfl⟩
      · rw [Fb] at h;exact wpAny_eqBool_int h
      · rw [Fc] at h;exact SeqAt.EqAt.int_str i t y u _ _ _ _ h
    · rcases cW hv with ⟨j,u,rfl,rfl⟩ | ⟨y,u,rfl,rfl⟩
      · rw [Fd] at h;exact SeqAt.EqAt.str_int x t j u _ _ _ _ h
      · rw [Ff] at h;exact wpAny_eqBool_str h
  «strs»:=fun k x t v h=>by
    rcases cW h with ⟨i,u,rfl,e⟩ | ⟨y,u,rfl,e⟩
    · exact nomatch e
    · injection e with e1 _
      subst e1;cases v <;> rfl
theorem ug (prog:Program) (w:World) (i:Int) (t:Tok):(dH prog w).is (.inl i) (.int i t)=true:=yG i t
theorem uh (prog:Program) (w:World) (x:Str) (t:Tok):(dH prog w).is (.inr x) (.str x t)=true:=yH x t
inductive V where
  | non | bl (b:Bool) | int (i:Int) | str (x:Str) | byt (b:Array UInt8) | flt (b:UInt64) | ref (a:Addr) | ty (n:String)
  deriving DecidableEq
noncomputable def cg:V->Value->Prop
  | .non,u=>u=Value.none
  | .bl b,u=>u=Value.bool b
  | .int i,u=>∃ t,u=Value.int i t
  | .str x,u=>∃ t,u=Value.str x t
  | .byt b,u=>∃ t,u=Value.bytes b t
  | .flt b,u=>∃ t,u=Value.float b t
  | .ref a,u=>u=Value.ref a
  | .ty n,u=>u=Value.type n
noncomputable abbrev bR:List V->List Value->Prop:=Paired cg
theorem bR.length {xs:List V} {us:List Value} (r:bR xs us):xs.length=us.length:=Paired.length r
theorem bR.get:∀ {xs:List V} {us:List Value} {i:Nat} {x:V},bR xs us->xs[i]?=some x->∃ u,us[i]?=some u/\cg x u
  | _,_,_,_,.nil,e=>by simp at e
  | _,_,0,_,.cons r _,e=>by simp at e;subst e;exact ⟨_,rfl,r⟩
  | _,_,i+1,x,.cons _ t,e=>by
    obtain ⟨u,h1,h2⟩:=bR.get (i:=i) (x:=x) t (by simpa using e);exact ⟨u,by simpa using h1,h2⟩
theorem bR.set {x:V} {u:Value} (r:cg x u):∀ {xs:List V} {us:List Value} (i:Nat),bR xs us->bR (xs.set i x) (us.set i u)
  | _,_,_,.nil=>.nil
  | _,_,0,.cons _ t=>.cons r t
  | _,_,i+1,.cons q t=>.cons q (bR.set r i t)
theorem bR.append {xs ys:List V} {us ws:List Value} (h:bR xs us) (s:bR ys ws):bR (xs++ys) (us++ws):=by
  induction h with
  | nil=>exact s
  | cons r t ih=>exact .cons r ih
theorem bR.take:∀ {xs:List V} {us:List Value} (n:Nat),bR xs us->bR (xs.take n) (us.take n)
  | _,_,0,_=>.nil
  | _,_,_+1,.nil=>.nil
  | _,_,n+1,.cons r t=>.cons r (bR.take n t)
theorem bR.drop:∀ {xs:List V} {us:List Value} (n:Nat),bR xs us->bR (xs.drop n) (us.drop n)
  | _,_,0,r=>r
  | _,_,_+1,.nil=>.nil
  | _,_,n+1,.cons _ t=>bR.drop n t
noncomputable def ma:Option V->Option Value->Prop
  | some v,some u=>cg v u
  | none,none=>True
  | _,_=>False
noncomputable def KV {κ:Type}:List (κ×V)->List (κ×Value)->Prop:=Paired fun (p:κ×V) (q:κ×Value)=>p.1=q.1/\cg p.2 q.2
noncomputable def kV:dz->V
  | .inl i=>.int i
  | .inr x=>.str x
inductive HO where
  /-- a list -/
  | lst (xs:List V)
  /-- a tuple (never changes) -/
  | tup (xs:List V)
  /-- a dict whose keys are ints and texts;one whose keys are tuples of ints and texts (the empty one is both) -/
  | dK (kvs:List (dz×V)) | dT (kvs:List (List dz×V))
  /-- a set of ints: its members,its size -/
  | set (S:Int->Bool) (n:Nat)
  /-- an instance of the class at C,its dict at dx,its attributes -/
  | ins (C dx:Addr) (fs:List (Str×V))
  /-- the dict of the instance at x -/
  | own (x:Addr)
  /-- the dict of an exception -/
  | xd (fs:List (Str×V))
  /-- a bound method,f of x -/
  | met (f x:Addr)
  /-- a range object lo,lo+1,.. below hi -/
  | rng (lo hi:Int)
  /-- a thing that is known to the object (the script;a dict while a loop walks it): read,never written while it is so -/
  | frz (o:Obj) (u:HO)
  /-- a code object's table -/
  | tbl (ps:Array Value)
  /-- any other thing,by what is true of its one object (a def of one's own: SetO a S n:=HO.ext fun h=>..) -/
  | ext (φ:Heap->Prop)
noncomputable abbrev Hp:=Addr->Option HO
noncomputable def cQ (H:Hp) (a:Addr) (o:HO):Hp:=fun b=>if b=a then some o else H b
theorem bE {H:Hp} {a:Addr} {o:HO}:cQ H a o a=some o:=by unfold cQ;rw [if_pos rfl]
theorem aB {H:Hp} {a b:Addr} {o:HO} (h:b≠a):cQ H a o b=H b:=by unfold cQ;rw [if_neg h]
theorem Hb {H:Hp} {a b:Addr} {o u:HO} (h:H a=some o) (h':H b=some u) (d:o≠u):a≠b:=by
  intro e;subst e;rw [h] at h';exact d (Option.some.inj h')
theorem bi {H:Hp} {a b:Addr} {o:HO} (h:H a=some o) (h':H b=none):a≠b:=by
  intro e;subst e;rw [h] at h';cases h'
noncomputable def gJ (h:Heap) (a:Addr) (items:Array Value):Prop:=∃ o,h.get? a=some o/\o.cls=.type "tuple" /\ (∃ n,o.data=.seq items n)/\o.dict=none
theorem gJ.is {h:Heap} {a:Addr} {items:Array Value} (x:gJ h a items):IsTup h a items:=by
  obtain ⟨o,e,c,n,_⟩:=x;exact ⟨o,e,c,n⟩
theorem gJ.lt {h:Heap} {a:Addr} {items:Array Value} (x:gJ h a items):a < h.objs.size:=by
  obtain ⟨o,e,_⟩:=x;exact Heap.lt_size e
theorem gJ.new (h:Heap) (items:Array Value):gJ (h.push { cls:=.type "tuple",data:=.seq items }) h.objs.size items:=⟨_,Heap.get?_push_size _ rfl,rfl,⟨_,rfl⟩,rfl⟩
section
variable (P:Program) (w:World)
noncomputable def cm (H:Hp) (h:Heap) (a:Addr):HO->Prop
  | .lst xs=>xs.length<=sizeLine/\∃ (its:List Value) (n:Nat),bR xs its/\h.get? a=some { cls:=.type "list",data:=.seq its.toArray n }
  | .tup xs=>xs.length<=sizeLine/\∃ its:List Value,bR xs its/\gJ h a its.toArray
  | .dK kvs=>kvs.length<=sizeLine/\(a==sysModules)=false/\∃ vs,KV kvs vs/\h.DictOf (dH P w) a vs
  | .dT kvs=>kvs.length<=sizeLine/\(a==sysModules)=false/\∃ xs:List (List dz×Addr×Value),
      Paired (fun (p:List dz×V) (q:List dz×Addr×Value)=>p.1=q.1/\H q.2.1=some (.tup (p.1.map kV))/\cg p.2 q.2.2) kvs xs /\
      ∃ o es ep,h.get? a=some o/\o.ExactDict/\o.data=.dict es ep/\es.toList=xs.map (entryOfKey (tupleKind (dH P w)))/\(xs.map (·.1)).Nodup
  | .set S n=>h.SetOf (intKind P w) a S n
  | .ins C dx fs=>H dx=some (.own a)/\fs.length<=1000/\dx≠a/\h.get? a=some (PySem.W.instObj C dx) /\
      ∃ mA,h.Ns1 dx mA/\(∀ f,ma (fs.lookup f) (mA f))/\PySem.Within mA (fs.map (·.1))
  | .own _=>∃ o,h.get? a=some o
  | .xd fs=>∃ mA,h.Ns1 a mA/\∀ f,ma (fs.lookup f) (mA f)
  | .rng lo hi=>∃ t u v,h.get? a=some { cls:=.type "range",data:=.fields #[.int lo t,.int hi u,.int 1 v] }
  | .frz o u=>h.get? a=some o/\cm H h a u
  | .tbl ps=>h.get? a=some { cls:=.none,data:=.fields ps }
  | .met f x=>h.get? a=some (PySem.W.methodObj (.ref f) (.ref x))
  | .ext φ=>φ h/\(∃ o,h.get? a=some o)/\∀ h1 h2:Heap,φ h1->(∀ o,h1.get? a=some o->h2.get? a=some o)->φ h2
noncomputable def ik (H:Hp) (h:Heap):Prop:=∀ a o,H a=some o->cm P w H h a o
end
section
variable {P:Program} {w:World} {H H':Hp} {h h':Heap} {a:Addr} {o:HO}
theorem cm.lt (x:cm P w H h a o):a < h.objs.size:=by
  cases o with
  | lst xs=>obtain ⟨_,_,_,_,e⟩:=x;exact Heap.lt_size e
  | tup xs=>obtain ⟨_,_,_,p⟩:=x;exact p.lt
  | dK kvs=>obtain ⟨_,_,_,_,o,_,_,e,_⟩:=x;exact Heap.lt_size e
  | dT kvs=>obtain ⟨_,_,_,_,o,_,_,e,_⟩:=x;exact Heap.lt_size e
  | set S n=>obtain ⟨o,_,_,_,e,_⟩:=x;exact Heap.lt_size e
  | ins C dx fs=>obtain ⟨_,_,_,e,_⟩:=x;exact Heap.lt_size e
  | own y=>obtain ⟨_,e⟩:=x;exact Heap.lt_size e
  | xd fs=>obtain ⟨_,⟨_,_,_,e,_⟩,_⟩:=x;exact Heap.lt_size e
  | rng lo hi=>obtain ⟨_,_,_,e⟩:=x;exact Heap.lt_size e
  | frz ob u=>obtain ⟨e,_⟩:=x;exact Heap.lt_size e
  | tbl ps=>exact Heap.lt_size (show h.get? a=some _ from x)
  | met f y=>exact Heap.lt_size (show h.get? a=some _ from x)
  | ext φ=>obtain ⟨_,⟨_,e⟩,_⟩:=x;exact Heap.lt_size e
theorem Paired.mapP {α β:Type} {F G:α->β->Prop} {l₁:List α} {l₂:List β} (h:Paired F l₁ l₂) (f:∀ a b,F a b->G a b):Paired G l₁ l₂:=by
  induction h with
  | nil=>exact .nil
  | cons r t ih=>exact .cons (f _ _ r) ih
theorem cm.stay (x:cm P w H h a o) (k:∀ b u,(b=a\/H b=some (.own a))->h.get? b=some u->h'.get? b=some u)
    (ho:∀ b,H b=some (.own a)->H' b=some (.own a)) (ht:∀ b xs,H b=some (.tup xs)->H' b=some (.tup xs)):cm P w H' h' a o:=by
  induction o with
  | lst xs=>obtain ⟨z,its,n,r,e⟩:=x;exact ⟨z,its,n,r,k _ _ (.inl rfl) e⟩
  | tup xs=>obtain ⟨z,its,r,ob,e,c⟩:=x;exact ⟨z,its,r,ob,k _ _ (.inl rfl) e,c⟩
  | dK kvs=>obtain ⟨z,y,vs,r,ob,es,ep,e,c⟩:=x;exact ⟨z,y,vs,r,ob,es,ep,k _ _ (.inl rfl) e,c⟩
  | dT kvs =>
    obtain ⟨z,y,xs,r,ob,es,ep,e,c⟩:=x;exact ⟨z,y,xs,Paired.mapP r fun p q z=>⟨z.1,ht _ _ z.2.1,z.2.2⟩,ob,es,ep,k _ _ (.inl rfl) e,c⟩
  | set S n=>obtain ⟨ob,es,ep,t,e,c⟩:=x;exact ⟨ob,es,ep,t,k _ _ (.inl rfl) e,c⟩
  | ins C dx fs =>
    obtain ⟨d,z,ne,e,mA,⟨od,es,ep,e2,c⟩,r⟩:=x;exact ⟨ho _ d,z,ne,k _ _ (.inl rfl) e,mA,⟨od,es,ep,k _ _ (.inr d) e2,c⟩,r⟩
  | own y=>obtain ⟨ob,e⟩:=x;exact ⟨ob,k _ _ (.inl rfl) e⟩
  | xd fs=>obtain ⟨mA,⟨od,es,ep,e,c⟩,r⟩:=x;exact ⟨mA,⟨od,es,ep,k _ _ (.inl rfl) e,c⟩,r⟩
  | rng lo hi=>obtain ⟨t,u,v,e⟩:=x;exact ⟨t,u,v,k _ _ (.inl rfl) e⟩
  | frz ob u ih=>obtain ⟨e,q⟩:=x;exact ⟨k _ _ (.inl rfl) e,ih q⟩
  | tbl ps =>
    have e:h.get? a=some { cls:=.none,data:=.fields ps }:=x;show h'.get? a=some { cls:=.none,data:=.fields ps };exact k a _ (.inl rfl) e
  | met f y =>
    have e:h.get? a=some (PySem.W.methodObj (.ref f) (.ref y)):=x;show h'.get? a=some (PySem.W.methodObj (.ref f) (.ref y));exact k a _ (.inl rfl) e
  | ext φ=>obtain ⟨p,⟨o,e⟩,st⟩:=x;exact ⟨st _ _ p fun o q=>k _ _ (.inl rfl) q,⟨o,k _ _ (.inl rfl) e⟩,st⟩
theorem ik.lt (x:ik P w H h) (e:H a=some o):a < h.objs.size:=(x a o e).lt
theorem ik.fresh (x:ik P w H h) (e:h.objs.size<=a):H a=none:=by
  cases q:H a with
  | none=>rfl
  | some u=>exact absurd (Nat.lt_of_lt_of_le (x.lt q) e) (Nat.lt_irrefl _)
theorem ik.kept (x:ik P w H h) (k:∀ b u,h.get? b=some u->h'.get? b=some u):ik P w H h':=fun a o e =>
  (x a o e).stay (fun b u _ q=>k b u q) (fun _ q=>q) fun _ _ q=>q
theorem ik.laid (x:ik P w H h) (k:∀ b u,h.get? b=some u->h'.get? b=some u) (hp:h.objs.size<=a) (new:cm P w (cQ H a o) h' a o):ik P w (cQ H a o) h':=fun b u e=>by
  have hn:=x.fresh hp;by_cases hb:b=a
  · subst hb;rw [bE] at e;cases e;exact new
  · rw [aB hb] at e;exact (x b u e).stay (fun c v _ q=>k c v q) (fun c q=>by rw [aB (bi q hn)];exact q) fun c xs q=>by rw [aB (bi q hn)];exact q
end
noncomputable def Rd (H:Hp) (a:Addr) (u:HO):Prop:=H a=some u\/∃ o,H a=some (.frz o u)
theorem Rd.ok {P:Program} {w:World} {H:Hp} {h:Heap} {a:Addr} {u:HO} (r:Rd H a u) (x:ik P w H h):cm P w H h a u:=by
  rcases r with r | ⟨o,r⟩
  · exact x a u r
  · obtain ⟨_,q⟩:=x a _ r;exact q
noncomputable def Gu:Option HO->Prop
  | some (.lst _)=>True
  | some (.dK _)=>True
  | some (.dT _)=>True
  | some (.set _ _)=>True
  | some (.ins _ _ _)=>True
  | some (.ext _)=>True
  | _=>False
section
variable {P:Program} {w:World} {H:Hp} {h h':Heap} {x e:Addr} {o':HO}
theorem ik.write (ok:ik P w H h) (mu:Gu (H x)) (he:e=x\/H e=some (.own x)) (k:∀ b u,b≠e->h.get? b=some u->h'.get? b=some u) (heo:∃ u,h'.get? e=some u)
    (new:cm P w (cQ H x o') h' x o'):ik P w (cQ H x o') h':=fun b u q=>by
  have nown:∀ c y,H c=some (.own y)->c≠x:=fun c y r z=>by subst z;rw [r] at mu;exact mu
  have ntup:∀ c xs,H c=some (.tup xs)->c≠x:=fun c xs r z=>by subst z;rw [r] at mu;exact mu
  by_cases hb:b=x
  · subst hb;rw [bE] at q;cases q;exact new
  · rw [aB hb] at q;by_cases hbe:b=e
    · have q':H b=some (.own x):=by
        rcases he with z | z
        · exact absurd (hbe.trans z) hb
        · rw [hbe];exact z
      rw [q] at q';cases q';obtain ⟨v,hv⟩:=heo;exact ⟨v,by rw [hbe];exact hv⟩
    · refine (ok b u q).stay (fun c v hc r=>k c v ?_ r) (fun c r=>by rw [aB (nown c b r)];exact r) fun c xs r=>by rw [aB (ntup c xs r)];exact r
      rcases hc with rfl | hc
      · exact hbe
      · rintro rfl;rcases he with z | z
        · exact nown c b hc z
        · rw [hc] at z;cases z;exact hb rfl
end
structure Un (fs ex:List Addr) (H H':Hp) (h h':Heap):Prop where
  keep:∀ b o,h.get? b=some o->H b=none->b∉fs->b∉ex->h'.get? b=some o
  slot:∀ b o,h.get? b=some o->H b=none->b∈fs->b∉ex->∃ sl,h'.get? b=some { o with slots:=sl }
  free:∀ b o,h.get? b=some o->H b=none->b∉ex->H' b=none
  there:∀ b o,h.get? b=some o->b∉ex->∃ o',h'.get? b=some o'
  tups:∀ b xs,H b=some (.tup xs)->H' b=some (.tup xs)
  frzs:∀ b o u,H b=some (.frz o u)->H' b=some (.frz o u)
  tbls:∀ b ps,H b=some (.tbl ps)->∃ more,H' b=some (.tbl (ps++more))
section
variable {fs fs' ex ex':List Addr} {H H1 H2:Hp} {h h1 h2 h':Heap} {a x e:Addr} {o:HO}
theorem Un.any (u:Un fs ex H H1 h h1) {b:Addr} {ob:Obj} (q:h.get? b=some ob) (n:H b=none) (hx:b∉ex):∃ sl,h1.get? b=some { ob with slots:=sl }:=by
  by_cases hb:b∈fs
  · exact u.slot b ob q n hb hx
  · exact ⟨ob.slots,u.keep b ob q n hb hx⟩
theorem Un.kept (k:∀ b u,h.get? b=some u->h'.get? b=some u):Un fs ex H H h h' :=
  ⟨fun b ob q _ _ _=>k b ob q,fun b ob q _ _ _=>⟨ob.slots,k b ob q⟩,fun _ _ _ n _=>n,fun b ob q _=>⟨ob,k b ob q⟩,fun _ _ q=>q,fun _ _ _ q=>q,fun _ ps q=>⟨#[],by rw [q];simp⟩⟩
theorem Un.refl:Un fs ex H H h h:=Un.kept fun _ _ q=>q
theorem Un.laid (k:∀ b u,h.get? b=some u->h'.get? b=some u) (hp:h.objs.size<=a) (hn:H a=none):Un fs ex H (cQ H a o) h h' where
  keep:=fun b u q _ _ _=>k b u q
  slot:=fun b u q _ _ _=>⟨u.slots,k b u q⟩
  free:=fun b u q n _=>by rw [aB (Nat.ne_of_lt (Nat.lt_of_lt_of_le (Heap.lt_size q) hp))];exact n
  there:=fun b u q _=>⟨u,k b u q⟩
  tups:=fun b xs q=>by rw [aB (bi q hn)];exact q
  frzs:=fun b u xs q=>by rw [aB (bi q hn)];exact q
  tbls:=fun b ps q=>⟨#[],by rw [aB (bi q hn),q];simp⟩
theorem Un.write (mu:Gu (H x)) (he:e=x\/H e=some (.own x)) (k:∀ b u,b≠e->h.get? b=some u->h'.get? b=some u) (heo:∃ u,h'.get? e=some u):Un fs ex H (cQ H x o) h h':=by
  have hx:∀ b,H b=none->b≠x:=fun b n z=>by subst z;rw [n] at mu;exact mu
  have hb:∀ b,H b=none->b≠e:=fun b n z=>by
    subst z;rcases he with r | r
    · exact hx b n r
    · rw [n] at r;cases r
  have hm:∀ b u,H b=some u->¬ Gu (some u)->b≠x:=fun b u q nm z=>by subst z;rw [q] at mu;exact nm mu
  refine ⟨fun b u q n _ _=>k b u (hb b n) q,fun b u q n _ _=>⟨u.slots,k b u (hb b n) q⟩,fun b u q n _=>by rw [aB (hx b n)];exact n,fun b u q _=>?_,
    fun b xs q=>by rw [aB (hm b _ q fun z=>z)];exact q,fun b u xs q=>by rw [aB (hm b _ q fun z=>z)];exact q,fun b ps q=>⟨#[],by rw [aB (hm b _ q fun z=>z),q];simp⟩⟩
  by_cases hbe:b=e
  · subst hbe;exact heo
  · exact ⟨u,k b u hbe q⟩
end
noncomputable def IM (h:Heap) (H:Hp):List Addr:=(List.range h.objs.size).filter fun a=>(H a).isSome
noncomputable def rX (h:Heap) (H:Hp):Heap:=PySem.W.hideAll h (IM h H)
theorem yw (h:Heap) (H:Hp):(rX h H).objs.size=h.objs.size:=PySem.W.hideAll_size _ _
theorem Ar {h:Heap} {H:Hp} {b:Addr} {o:Obj} (e:h.get? b=some o) (n:H b=none):(rX h H).get? b=some o :=
  PySem.W.hideAll_get _ e fun hm=>by
    have q:(H b).isSome=true:=(List.mem_filter.mp hm).2;rw [n] at q;simp at q
theorem CY {h:Heap} {H:Hp} {b:Addr} {o:Obj} (e:(rX h H).get? b=some o):h.get? b=some o/\H b=none:=by
  have e':h.get? b=some o:=PySem.W.of_hideAll (IM h H) e;refine ⟨e',?_⟩;cases q:H b with
  | none=>rfl
  | some x =>
    have hm:b∈IM h H:=List.mem_filter.mpr ⟨List.mem_range.mpr (Heap.lt_size e'),by simp [q]⟩;have z:(rX h H).get? b=none:=PySem.W.hideAll_none (IM h H) hm;rw [z] at e;cases e
noncomputable def B8 (g h:Heap) (L:Addr):List (Addr×Obj):=(List.range h.objs.size).filterMap fun a=>if a=L\/(g.get? a).isSome=true then none else (h.get? a).map fun o=>(a,o)
noncomputable def fR (g h:Heap) (L d:Addr):List (Addr×Obj):=(B8 g h L).filter fun p=>decide (p.1≠d)
structure Mod (K:PySem.W.Frag) (mg:Str->Option Value) (base:Heap):Prop where
  kin:K.In base
  glob:base.Ns mainGlobals mg
  blt:∃ mb,base.Ns builtinsNs mb/\∀ x:Str,x ≠ "__name__" -> mb x=bootBuiltins x
  nolimit:base.NoLimit
structure Cx where
  prog:Program
  w:World
  K:PySem.W.Frag
  mg:Str->Option Value
  base:Heap
  A:Around
  N:List Str
  s₀:Shared
  H₀:Hp
  env:Env
  outer:List Env
  stack:List Env
  ex:List Addr
  fn:Str->Bool
  calm:Bool
  pn:List (Addr×Obj)
  xe:Value->Shared->Prop
noncomputable def lZ (l:List Env):List Addr:=l.filterMap (·.frame)
noncomputable abbrev Cx.fs (X:Cx):List Addr:=lZ X.outer
noncomputable def EG (sc:Scope) (x:Str):Prop:=sc.names.lookup x=some .local\/sc.names.lookup x=some .cell\/sc.names.lookup x=some .free
noncomputable def DZ (sc:Scope) (x:Str):Prop:=sc.names.lookup x=some .local\/sc.names.lookup x=some .cell
noncomputable def IS (env:Env) (h:Heap) (m:Str->Option Value) (x:Str) (u:Value):Prop :=
  (env.kindOf x=some .local/\m x=some u)\/((env.kindOf x=some .cell\/env.kindOf x=some .free)/\∃ c,env.cells.lookup x=some c/\h.IsCell c (some u))
structure Cx.Ok (X:Cx):Prop where
  mod:Mod X.K X.mg X.base
  kind:X.env.scope.kind=.function
  glob:X.env.globals=mainGlobals
  blt:X.env.builtins=builtinsNs
  above:X.s₀.heap.objs.size<=X.env.locals
  inj:∀ x y c,X.env.cells.lookup x=some c->X.env.cells.lookup y=some c->x=y
  has:∀ x,(X.env.kindOf x=some .cell\/X.env.kindOf x=some .free)->∃ c,X.env.cells.lookup x=some c
  cab:∀ x c,X.fn x=true->X.env.cells.lookup x=some c->X.s₀.heap.objs.size<=c
  hd:X.calm=true->X.A.handled=none
  frames:X.A.frames=some X.stack
  stk:X.stack=X.outer\/(X.stack=X.env::X.outer/\X.env.frame=some X.env.locals)
  exf:∀ b∈X.ex,b≠X.env.locals/\∀ x c,X.env.cells.lookup x=some c->c≠b
  bs:∀ b o,X.base.get? b=some o->X.s₀.heap.get? b=some o/\X.H₀ b=none
  bsz:X.base.objs.size<=X.s₀.heap.objs.size
  noex:∀ b o,X.base.get? b=some o->b∉X.ex
  exfs:∀ b∈X.ex,b∉X.fs
  funs:X.s₀.heap.FunFrames X.base X.outer
  frf:∀ b∈X.fs,X.H₀ b=none
structure aX (X:Cx) (pins:List (Addr×Obj)) (σ:List (Option V)) (H:Hp) (s:Shared):Prop where
  ok:X.Ok
  os:s.os=X.s₀.os
  bare:AllBare s.gens
  base:Un X.fs X.ex X.H₀ H X.s₀.heap s.heap
  loc:∃ m,s.heap.Ns X.env.locals m/\∀ (i:Nat) (x:Str) (v:V),X.N[i]?=some x->σ[i]?=some (some v)->EG X.env.scope x->∃ u,cg v u/\IS X.env s.heap m x u
  cell:∀ x c,X.env.cells.lookup x=some c->∃ v,s.heap.IsCell c v
  free:H X.env.locals=none
  freeC:∀ x c,X.env.cells.lookup x=some c->H c=none
  pin:∀ p∈X.pn++pins,s.heap.get? p.1=some p.2/\H p.1=none/\p.1≠X.env.locals/\p.1∉X.fs/\∀ v,p.2.data≠.cell v
  hok:ik X.prog X.w H s.heap
  len:σ.length=X.N.length
section
variable {X:Cx} {pins:List (Addr×Obj)} {σ:List (Option V)} {H H':Hp} {s:Shared} {h':Heap}
theorem Cx.Ok.nofr (ok:X.Ok) {b:Addr} {o:Obj} (e:X.base.get? b=some o):b∉X.fs:=fun hb=>by
  have:=(ok.funs.mem hb).1;rw [e] at this;cases this
theorem aX.bs (I:aX X pins σ H s):∀ b o,X.base.get? b=some o->s.heap.get? b=some o/\H b=none:=fun b o e =>
  ⟨I.base.keep b o (I.ok.bs b o e).1 (I.ok.bs b o e).2 (I.ok.nofr e) (I.ok.noex b o e),I.base.free b o (I.ok.bs b o e).1 (I.ok.bs b o e).2 (I.ok.noex b o e)⟩
theorem aX.bk (I:aX X pins σ H s):∀ b o,X.base.get? b=some o->s.heap.get? b=some o:=fun b o e=>(I.bs b o e).1
theorem aX.mod (I:aX X pins σ H s):Mod X.K X.mg X.base:=I.ok.mod
theorem aX.kIn (I:aX X pins σ H s):X.K.In s.heap:=I.ok.mod.kin.keeps I.bk
theorem aX.lt (I:aX X pins σ H s):X.env.locals < s.heap.objs.size:=let ⟨_,hn,_⟩:=I.loc;hn.lt
theorem aX.sz (I:aX X pins σ H s):X.s₀.heap.objs.size<=s.heap.objs.size:=Nat.le_trans I.ok.above (Nat.le_of_lt I.lt)
theorem aX.nofs (I:aX X pins σ H s) {a:Addr} (h:s.heap.objs.size<=a):a∉X.fs:=fun hb=>by
  obtain ⟨_,o,ho,_⟩:=I.ok.funs.mem hb;exact absurd (Nat.lt_of_lt_of_le (Heap.lt_size ho) (Nat.le_trans I.sz h)) (Nat.lt_irrefl _)
theorem aX.cne (I:aX X pins σ H s):∀ x c,X.env.cells.lookup x=some c->c≠X.env.locals:=fun x c e z=>by
  obtain ⟨v,o,ho,hd⟩:=I.cell x c e;obtain ⟨m,⟨o',es,ep,ho',hd',_⟩,_⟩:=I.loc;rw [z,ho'] at ho;cases ho;rw [hd'] at hd;cases hd
theorem aX.funs (I:aX X pins σ H s):s.heap.FunFrames X.base X.outer:=by
  have all:∀ (l:List Env),(∀ b∈lZ l,b∈X.fs)->X.s₀.heap.FunFrames X.base l->s.heap.FunFrames X.base l:=by
    intro l;induction l with
    | nil=>intro _ _;trivial
    | cons env r ih =>
      intro hs hl;obtain ⟨hk,⟨L,o,hf,hn,ho,hd⟩,hr⟩:=hl;have hL:L∈X.fs:=hs L (by unfold lZ;rw [List.filterMap_cons,hf];exact List.mem_cons_self);obtain ⟨sl,e⟩:=I.base.slot L o ho (I.ok.frf L hL) hL fun z=>I.ok.exfs L z hL
      exact ⟨hk,⟨L,_,hf,hn,e,hd⟩,ih (fun b hb=>hs b (by unfold lZ;rw [List.filterMap_cons,hf];exact List.mem_cons_of_mem _ hb)) hr⟩
  exact all X.outer (fun _ hb=>hb) I.ok.funs
theorem aX.stack (I:aX X pins σ H s):s.heap.FunFrames X.base X.stack:=by
  rcases I.ok.stk with e | ⟨e,hf⟩
  · rw [e];exact I.funs
  · rw [e];obtain ⟨m,hn,_⟩:=I.loc;refine .cons (by rw [I.ok.kind];decide) hf hn ?_ I.funs;exact Heap.get?_none_of_le (Nat.le_trans I.ok.bsz I.ok.above)
theorem aX.stkSub (I:aX X pins σ H s):∀ b∈lZ X.stack,b∈X.env.locals::X.fs:=fun b hb=>by
  rcases I.ok.stk with e | ⟨e,hf⟩
  · rw [e] at hb;exact List.mem_cons_of_mem _ hb
  · rw [e] at hb;unfold lZ at hb;rw [List.filterMap_cons,hf] at hb;exact hb
theorem aX.stkFree (I:aX X pins σ H s):∀ b∈lZ X.stack,H b=none:=fun b hb=>by
  rcases List.mem_cons.mp (I.stkSub b hb) with e | hb
  · rw [e];exact I.free
  · obtain ⟨_,o,ho,_⟩:=I.ok.funs.mem hb;exact I.base.free b o ho (I.ok.frf b hb) fun z=>I.ok.exfs b z hb
theorem aX.step {g':Array GenState} {t':Nat} {d':Drawn} {ch:List Addr} (I:aX X pins σ H s)
    (hch:∀ b∈ch,(b∈X.ex\/X.s₀.heap.objs.size<=b)/\b≠X.env.locals/\(∀ x c,X.env.cells.lookup x=some c->c≠b)/\∀ p∈X.pn++pins,p.1≠b)
    (keep:∀ b o,b≠X.env.locals->b∉X.fs->b∉ch->s.heap.get? b=some o->H b=none->h'.get? b=some o)
    (slot:∀ b o,b≠X.env.locals->b∈X.fs->b∉ch->s.heap.get? b=some o->H b=none->∃ sl,h'.get? b=some { o with slots:=sl }) (free:∀ b o,b∉ch->s.heap.get? b=some o->H b=none->H' b=none)
    (there:∀ b o,b∉ch->s.heap.get? b=some o->∃ o',h'.get? b=some o')
    (tups:∀ b xs,H b=some (.tup xs)->H' b=some (.tup xs)) (frzs:∀ b o u,H b=some (.frz o u)->H' b=some (.frz o u)) (tbls:∀ b ps,H b=some (.tbl ps)->∃ more,H' b=some (.tbl (ps++more)))
    (ns:∀ m,s.heap.Ns X.env.locals m->h'.Ns X.env.locals m) (hok:ik X.prog X.w H' h') (hg:AllBare g') :
    aX X pins σ H' { s with heap:=h',gens:=g',drawn:=d',toks:=t' }:=by
  have neL:∀ b o,X.s₀.heap.get? b=some o->b≠X.env.locals:=fun b o e=>Nat.ne_of_lt (Nat.lt_of_lt_of_le (Heap.lt_size e) I.ok.above)
  have neC:∀ b o,X.s₀.heap.get? b=some o->b∉X.ex->b∉ch:=fun b o e hx hb=>by
    rcases (hch b hb).1 with z | z
    · exact hx z
    · exact absurd (Nat.lt_of_lt_of_le (Heap.lt_size e) z) (Nat.lt_irrefl _)
  have cellK:∀ x c,X.env.cells.lookup x=some c->∀ v,s.heap.IsCell c v->h'.IsCell c v:=fun x c e v ⟨o,ho,hd⟩=>by
    have nch:c∉ch:=fun z=>(hch c z).2.2.1 x c e rfl
    by_cases hc:c∈X.fs
    · obtain ⟨sl,q⟩:=slot c o (I.cne x c e) hc nch ho (I.freeC x c e);exact ⟨_,q,hd⟩
    · exact ⟨o,keep c o (I.cne x c e) hc nch ho (I.freeC x c e),hd⟩
  refine ⟨I.ok,I.os,hg,⟨fun b o e n hb hx=>?_,fun b o e n hb hx=>?_,fun b o e n hx=>?_,fun b o e hx=>?_,fun b xs e=>tups b xs (I.base.tups b xs e),fun b o xs e=>frzs b o xs (I.base.frzs b o xs e),fun b ps e=>?_⟩,?_,fun x c e=>?_,?_,fun x c e=>?_,fun p hp=>?_,hok,I.len⟩
  · exact keep b o (neL b o e) hb (neC b o e hx) (I.base.keep b o e n hb hx) (I.base.free b o e n hx)
  · obtain ⟨sl,e1⟩:=I.base.slot b o e n hb hx;obtain ⟨sl',e2⟩:=slot b _ (neL b o e) hb (neC b o e hx) e1 (I.base.free b o e n hx);exact ⟨sl',e2⟩
  · obtain ⟨o',e1⟩:=I.base.there b o e hx;exact free b o' (neC b o e hx) e1 (I.base.free b o e n hx)
  · obtain ⟨o',e1⟩:=I.base.there b o e hx;exact there b o' (neC b o e hx) e1
  · obtain ⟨m1,e1⟩:=I.base.tbls b ps e;obtain ⟨m2,e2⟩:=tbls b _ e1;exact ⟨m1++m2,by rw [e2,Array.append_assoc]⟩
  · obtain ⟨m,hn,hl⟩:=I.loc;refine ⟨m,ns m hn,fun i x v e1 e2 e3=>?_⟩;obtain ⟨u,r,l⟩:=hl i x v e1 e2 e3;refine ⟨u,r,?_⟩;rcases l with l | ⟨k,c,e,z⟩
    · exact .inl l
    · exact .inr ⟨k,c,e,cellK x c e _ z⟩
  · obtain ⟨v,z⟩:=I.cell x c e;exact ⟨v,cellK x c e v z⟩
  · obtain ⟨m,⟨o,_,_,ho,_⟩,_⟩:=I.loc;exact free _ o (fun z=>(hch _ z).2.1 rfl) ho I.free
  · obtain ⟨v,o,ho,hd⟩:=I.cell x c e;exact free c o (fun z=>(hch c z).2.2.1 x c e rfl) ho (I.freeC x c e)
  · obtain ⟨e,n,ne,nf,d⟩:=I.pin p hp;have nch:p.1∉ch:=fun z=>(hch p.1 z).2.2.2 p hp rfl
    exact ⟨keep p.1 p.2 ne nf nch e n,free p.1 p.2 nch e n,ne,nf,d⟩
theorem aX.un {t':Nat} (I:aX X pins σ H s) (u:Un X.fs [] H H' s.heap h') (hok:ik X.prog X.w H' h'):aX X pins σ H' { s with heap:=h',toks:=t' }:=by
  obtain ⟨m,⟨o,es,ep,ho,r⟩,_⟩:=id I.loc;obtain ⟨sl,hL⟩:=u.any ho I.free (by simp);exact I.step (g':=s.gens) (d':=s.drawn) (ch:=[]) (fun _ z=>nomatch z) (fun b o _ hb _ e n=>u.keep b o e n hb (by simp)) (fun b o _ hb _ e n=>u.slot b o e n hb (by simp)) (fun b o _ e n=>u.free b o e n (by simp)) (fun b o _ e=>u.there b o e (by simp)) u.tups u.frzs u.tbls (fun m' hm=>by
    obtain ⟨o',es',ep',ho',r'⟩:=hm;rw [ho] at ho';cases ho';exact ⟨_,es',ep',hL,r'⟩) hok I.bare
theorem aX.call {g':Array GenState} {t':Nat} {d':Drawn} {ch:List Addr} (I:aX X pins σ H s) (u:Un (lZ X.stack) ch H H' s.heap h') (hok:ik X.prog X.w H' h') (hg:AllBare g')
    (hch:∀ b∈ch,(b∈X.ex\/X.s₀.heap.objs.size<=b)/\b≠X.env.locals/\(∀ x c,X.env.cells.lookup x=some c->c≠b)/\∀ p∈X.pn++pins,p.1≠b) :
    aX X pins σ H' { s with heap:=h',gens:=g',drawn:=d',toks:=t' }:=by
  obtain ⟨m,⟨o,es,ep,ho,r⟩,_⟩:=id I.loc;obtain ⟨sl,hL⟩:=u.any ho I.free fun z=>(hch _ z).2.1 rfl
  exact I.step (ch:=ch) hch (fun b o hL hb hc e n=>u.keep b o e n (fun z=>(List.mem_cons.mp (I.stkSub b z)).elim hL hb) hc) (fun b o _ _ hc e n=>u.any e n hc) (fun b o hc e n=>u.free b o e n hc) (fun b o hc e=>u.there b o e hc) u.tups u.frzs u.tbls (fun m' hm=>by
    obtain ⟨o',es',ep',ho',r'⟩:=hm;rw [ho] at ho';cases ho';exact ⟨_,es',ep',hL,r'⟩) hok hg
theorem aX.turned {t':Nat} {it:Addr} (I:aX X pins σ H s) (k:∀ b o,b≠it->s.heap.get? b=some o->h'.get? b=some o) (hn:H it=none) (hL:it≠X.env.locals)
    (h1:it∈X.ex\/X.s₀.heap.objs.size<=it) (h2:∀ x c,X.env.cells.lookup x=some c->c≠it) (h3:∀ p∈X.pn++pins,p.1≠it):aX X pins σ H { s with heap:=h',toks:=t' }:=by
  have nit:∀ b u,H b=some u->b≠it:=fun b u e z=>by rw [z,hn] at e;cases e
  refine I.step (g':=s.gens) (d':=s.drawn) (ch:=[it]) (fun b hb=>?_) (fun b o _ _ hc e _=>k b o (fun z=>hc (by simp [z])) e) (fun b o _ _ hc e _=>⟨o.slots,k b o (fun z=>hc (by simp [z])) e⟩) (fun _ _ _ _ n=>n)
    (fun b o hc e=>⟨o,k b o (fun z=>hc (by simp [z])) e⟩) (fun _ _ e=>e) (fun _ _ _ e=>e) (fun b ps e=>⟨#[],by rw [e];simp⟩) (fun m hm=>?_) (fun b u e=>?_) I.bare
  · have e:b=it:=by simpa using hb
    subst e;exact ⟨h1,hL,h2,h3⟩
  · obtain ⟨o,es,ep,ho,r⟩:=hm;exact ⟨o,es,ep,k _ o (Ne.symm hL) ho,r⟩
  · refine (I.hok b u e).stay (fun c v hc q=>k c v ?_ q) (fun _ q=>q) fun _ _ q=>q
    rcases hc with z | z
    · rw [z];exact nit b u e
    · exact nit c _ z
theorem aX.tok (I:aX X pins σ H s) (t:Nat):aX X pins σ H { s with toks:=t }:=I.un (h':=s.heap) (t':=t) Un.refl I.hok
theorem aX.kept {t':Nat} (I:aX X pins σ H s) (k:∀ b u,s.heap.get? b=some u->h'.get? b=some u):aX X pins σ H { s with heap:=h',toks:=t' }:=I.un (Un.kept k) (I.hok.kept k)
theorem aX.laid {a:Addr} {o:HO} {t':Nat} (I:aX X pins σ H s) (k:∀ b u,s.heap.get? b=some u->h'.get? b=some u) (hp:s.heap.objs.size<=a) (new:cm X.prog X.w (cQ H a o) h' a o) :
    aX X pins σ (cQ H a o) { s with heap:=h',toks:=t' }:=I.un (Un.laid k hp (I.hok.fresh hp)) (I.hok.laid k hp new)
theorem aX.write {x e:Addr} {o:HO} {t':Nat} (I:aX X pins σ H s) (mu:Gu (H x)) (he:e=x\/H e=some (.own x)) (k:∀ b u,b≠e->s.heap.get? b=some u->h'.get? b=some u) (heo:∃ u,h'.get? e=some u)
    (new:cm X.prog X.w (cQ H x o) h' x o):aX X pins σ (cQ H x o) { s with heap:=h',toks:=t' }:=I.un (Un.write mu he k heo) (I.hok.write mu he k heo new)
theorem aX.pins_of {pins':List (Addr×Obj)} (I:aX X pins σ H s) (h:∀ p∈pins',s.heap.get? p.1=some p.2/\H p.1=none/\p.1≠X.env.locals/\p.1∉X.fs/\∀ v,p.2.data≠.cell v):aX X pins' σ H s :=
  ⟨I.ok,I.os,I.bare,I.base,I.loc,I.cell,I.free,I.freeC,fun p hp=>(List.mem_append.mp hp).elim (fun z=>I.pin p (List.mem_append_left _ z)) (h p),I.hok,I.len⟩
theorem uq {N:List Str} (hN:N.Nodup) {i j:Nat} {x:Str} (a:N[i]?=some x) (b:N[j]?=some x):i=j:=by
  obtain ⟨h1,e1⟩:=List.getElem?_eq_some_iff.mp a;obtain ⟨h2,e2⟩:=List.getElem?_eq_some_iff.mp b;exact (List.getElem_inj hN).mp (e1.trans e2.symm)
theorem qO {M:Model} {A:Around} {E:Value->Shared->Prop} {i:Nat} {x:Str} {v:V} {u:Value} {Q:Unit->Shared->Prop} (I:aX X pins σ H s) (hN:X.N.Nodup) (hi:X.N[i]?=some x) (hx:DZ X.env.scope x) (r:cg v u)
    (h:∀ s',aX X pins (σ.set i (some v)) H s'->(∃ a,Heap.SameBut a s.heap s'.heap/\(a=X.env.locals\/X.env.cells.lookup x=some a))->Q () s') (hf:X.fn x=true\/X.env.scope.names.lookup x=some .local:=by first | exact .inl rfl | exact .inr rfl | assumption):wpAny M A (storeName X.env x u) Q E s:=by
  obtain ⟨m,hn,hl⟩:=id I.loc;have hcls:(X.env.scope.kind==.class||(X.env.scope.kind==.module&&X.env.locals != X.env.globals))=false:=by rw [I.ok.kind];rfl
  have hiσ:i < σ.length:=by rw [I.len];exact (List.getElem?_eq_some_iff.mp hi).1
  have cne:=I.cne;have tracked:∀ {a:Addr} {h':Heap},(∃ o,s.heap.get? a=some o/\H a=none)->Heap.SameBut a s.heap h'->ik X.prog X.w H h':=fun {a h'} ha hs b ob e=>by
    obtain ⟨_,_,hfree⟩:=ha;refine (I.hok b ob e).stay (fun c w' hc q=>(hs.2 c ?_).trans q) (fun _ q=>q) fun _ _ q=>q
    rintro rfl;rcases hc with rfl | hc
    · rw [hfree] at e;cases e
    · rw [hfree] at hc;cases hc
  rcases hx with hk | hk
  · refine wpAny_storeName_local hk hn (fun h' hn' hs=>?_) hcls;obtain ⟨oL,_,_,hoL,_⟩:=id hn;refine h _ ⟨I.ok,I.os,I.bare,⟨fun b o e n hb hx=>?_,fun b o e n hb hx=>?_,I.base.free,fun b o e hx=>?_,I.base.tups,I.base.frzs,I.base.tbls⟩,⟨_,hn',fun j y v' e1 e2 e3=>?_⟩,fun y c e=>?_,I.free,I.freeC,fun p hp=>?_,tracked ⟨oL,hoL,I.free⟩ hs,by simpa using I.len⟩ ⟨_,hs,.inl rfl⟩
    · exact (hs.2 b (Nat.ne_of_lt (Nat.lt_of_lt_of_le (Heap.lt_size e) I.ok.above))).trans (I.base.keep b o e n hb hx)
    · obtain ⟨sl,e1⟩:=I.base.slot b o e n hb hx;exact ⟨sl,(hs.2 b (Nat.ne_of_lt (Nat.lt_of_lt_of_le (Heap.lt_size e) I.ok.above))).trans e1⟩
    · obtain ⟨o',e1⟩:=I.base.there b o e hx;exact ⟨o',(hs.2 b (Nat.ne_of_lt (Nat.lt_of_lt_of_le (Heap.lt_size e) I.ok.above))).trans e1⟩
    · by_cases hj:j=i
      · subst hj;rw [hi] at e1;cases e1;rw [List.getElem?_set_self hiσ] at e2;cases e2;exact ⟨u,r,.inl ⟨hk,by simp⟩⟩
      · rw [List.getElem?_set_ne (Ne.symm hj)] at e2;obtain ⟨u',r',q⟩:=hl j y v' e1 e2 e3;refine ⟨u',r',?_⟩;rcases q with ⟨k,e⟩ | ⟨k,c,e,z⟩
        · refine .inl ⟨k,?_⟩;have:y≠x:=fun e=>hj (uq hN e1 (e ▸ hi))
          simp [this,e]
        · exact .inr ⟨k,c,e,z.sameBut hs (cne y c e)⟩
    · obtain ⟨w',z⟩:=I.cell y c e;exact ⟨w',z.sameBut hs (cne y c e)⟩
    · obtain ⟨e,n,ne,nf,d⟩:=I.pin p hp;exact ⟨(hs.2 p.1 ne).trans e,n,ne,nf,d⟩
  · have hfn:X.fn x=true:=by
      rcases hf with z | z
      · exact z
      · rw [z] at hk;cases hk
    obtain ⟨c,hc⟩:=I.ok.has x (.inl hk);obtain ⟨w',z⟩:=I.cell x c hc;refine wpAny_storeName_cell I.ok.kind hk hc z (fun h' hc' hs=>?_);obtain ⟨oc,hoc,hocd⟩:=id z;refine h { s with heap:=h' } ⟨I.ok,I.os,I.bare,⟨fun b o e n hb hx=>?_,fun b o e n hb hx=>?_,I.base.free,fun b o e hx=>?_,I.base.tups,I.base.frzs,I.base.tbls⟩,⟨m,hn.sameBut hs (Ne.symm (cne x c hc)),fun j y v' e1 e2 e3=>?_⟩,fun y c' e=>?_,I.free,I.freeC,fun p hp=>?_,tracked ⟨oc,hoc,I.freeC x c hc⟩ hs,by simpa using I.len⟩ ⟨c,hs,.inr hc⟩
    · exact (hs.2 b (Nat.ne_of_lt (Nat.lt_of_lt_of_le (Heap.lt_size e) (I.ok.cab x c hfn hc)))).trans (I.base.keep b o e n hb hx)
    · obtain ⟨sl,e1⟩:=I.base.slot b o e n hb hx;exact ⟨sl,(hs.2 b (Nat.ne_of_lt (Nat.lt_of_lt_of_le (Heap.lt_size e) (I.ok.cab x c hfn hc)))).trans e1⟩
    · obtain ⟨o',e1⟩:=I.base.there b o e hx;exact ⟨o',(hs.2 b (Nat.ne_of_lt (Nat.lt_of_lt_of_le (Heap.lt_size e) (I.ok.cab x c hfn hc)))).trans e1⟩
    · by_cases hj:j=i
      · subst hj;rw [hi] at e1;cases e1;rw [List.getElem?_set_self hiσ] at e2;cases e2;exact ⟨u,r,.inr ⟨.inl hk,c,hc,hc'⟩⟩
      · rw [List.getElem?_set_ne (Ne.symm hj)] at e2;obtain ⟨u',r',q⟩:=hl j y v' e1 e2 e3;refine ⟨u',r',?_⟩;rcases q with q | ⟨k,c',e,z'⟩
        · exact .inl q
        · refine .inr ⟨k,c',e,z'.sameBut hs ?_⟩;rintro rfl;exact hj (uq hN e1 (I.ok.inj _ _ _ e hc ▸ hi))
    · by_cases hcc:c'=c
      · subst hcc;exact ⟨_,hc'⟩
      · obtain ⟨w2,z2⟩:=I.cell y c' e;exact ⟨w2,z2.sameBut hs hcc⟩
    · obtain ⟨e,n,ne,nf,d⟩:=I.pin p hp;refine ⟨(hs.2 p.1 ?_).trans e,n,ne,nf,d⟩;intro q;rw [q,hoc] at e;have q':oc=p.2:=Option.some.inj e;exact d w' (by rw [<- q'];exact hocd)
theorem pO {M:Model} {A:Around} {E:Value->Shared->Prop} {i:Nat} {x:Str} {v:V} {u:Value} {Q:Unit->Shared->Prop} (I:aX X pins σ H s) (hN:X.N.Nodup) (hi:X.N[i]?=some x) (hx:DZ X.env.scope x) (r:cg v u)
    (h:∀ s',aX X pins (σ.set i (some v)) H s'->Q () s') (hf:X.fn x=true\/X.env.scope.names.lookup x=some .local:=by first | exact .inl rfl | exact .inr rfl | assumption):wpAny M A (storeName X.env x u) Q E s :=
  qO I hN hi hx r (fun s' I' _=>h s' I') hf
theorem aX.call' {s':Shared} {ch:List Addr} (I:aX X pins σ H s) (ho:s'.os=s.os) (u:Un (lZ X.stack) ch H H' s.heap s'.heap) (hok:ik X.prog X.w H' s'.heap) (hg:AllBare s'.gens)
    (hch:∀ b∈ch,(b∈X.ex\/X.s₀.heap.objs.size<=b)/\b≠X.env.locals/\(∀ x c,X.env.cells.lookup x=some c->c≠b)/\∀ p∈X.pn++pins,p.1≠b):aX X pins σ H' s':=by
  obtain ⟨h',g',d',t',o'⟩:=s';have e:o'=s.os:=ho;subst e;exact I.call (g':=g') (t':=t') (d':=d') u hok hg hch
end
noncomputable abbrev XK:=Value->Option Addr->Hp->Prop
noncomputable abbrev St:=List (Option V)
noncomputable abbrev VK:=V->Hp->Prop
noncomputable abbrev TE:=St->Hp->VK->Prop
noncomputable abbrev TT:=St->Hp->(Bool->Hp->Prop)->Prop
noncomputable abbrev TA:=St->Hp->(List V->Hp->Prop)->Prop
structure sR where
  nx:St->Hp->Prop
  rt:VK
  bk:St->Hp->Prop:=fun _ _=>False
  ct:St->Hp->Prop:=fun _ _=>False
noncomputable abbrev TS:=sR->St->Hp->Prop
inductive EP (X:Cx) (pins:List (Addr×Obj)) (σ:St) (Q:VK) (u:Value) (s':Shared):Prop
  | mk (v:V) (H':Hp) (I:aX X pins σ H' s') (r:cg v u) (q:Q v H')
inductive TP (X:Cx) (pins:List (Addr×Obj)) (σ:St) (Q:Bool->Hp->Prop) (b:Bool) (s':Shared):Prop
  | mk (H':Hp) (I:aX X pins σ H' s') (q:Q b H')
inductive AP (X:Cx) (pins:List (Addr×Obj)) (σ:St) (Q:List V->Hp->Prop) (us:List Value) (s':Shared):Prop
  | mk (vs:List V) (H':Hp) (I:aX X pins σ H' s') (r:bR vs us) (q:Q vs H')
inductive NX (X:Cx) (pins:List (Addr×Obj)) (s':Shared) (P:St->Hp->Prop):Prop
  | mk (σ':St) (H':Hp) (I:aX X pins σ' H' s') (q:P σ' H')
inductive RX (X:Cx) (pins:List (Addr×Obj)) (s':Shared) (u:Value) (P:V->Hp->Prop):Prop
  | mk (v:V) (σ':St) (H':Hp) (I:aX X pins σ' H' s') (r:cg v u) (q:P v H')
noncomputable def SP (X:Cx) (pins:List (Addr×Obj)) (D:sR) (f:Flow) (s':Shared):Prop :=
  match f with
  | .next=>NX X pins s' D.nx
  | .brk=>NX X pins s' D.bk
  | .cont=>NX X pins s' D.ct
  | .ret u=>RX X pins s' u D.rt
noncomputable def PE (X:Cx) (e:Expr) (t:TE):Prop :=
  ∀ (pins:List (Addr×Obj)) (s:Shared) (σ:St) (H:Hp) (Q:VK),aX X pins σ H s->t σ H Q->wpAny (model X.prog X.w) X.A (eval e X.env) (EP X pins σ Q) X.xe s
noncomputable def PT (X:Cx) (e:Expr) (t:TT):Prop :=
  ∀ (pins:List (Addr×Obj)) (s:Shared) (σ:St) (H:Hp) (Q:Bool->Hp->Prop),aX X pins σ H s->t σ H Q->wpAny (model X.prog X.w) X.A (isTrue e X.env (eval e X.env)) (TP X pins σ Q) X.xe s
noncomputable def PW (X:Cx) (e:Expr) (t:TT):Prop :=
  ∀ (whole:Sem Value) (pins:List (Addr×Obj)) (s:Shared) (σ:St) (H:Hp) (Q:Bool->Hp->Prop),aX X pins σ H s->t σ H Q->wpAny (model X.prog X.w) X.A (isTrue e X.env whole) (TP X pins σ Q) X.xe s
theorem PW.pt {X:Cx} {e:Expr} {t:TT} (h:PW X e t):PT X e t:=h _
noncomputable def PA (X:Cx) (es:List Expr) (t:TA):Prop :=
  ∀ (pos:Pos) (pins:List (Addr×Obj)) (s:Shared) (σ:St) (H:Hp) (Q:List V->Hp->Prop),aX X pins σ H s->t σ H Q->wpAny (model X.prog X.w) X.A (spliced (backTo pos (starEach es X.env))) (AP X pins σ Q) X.xe s
noncomputable def PS (X:Cx) (st:Stmt) (t:TS):Prop :=
  ∀ (pins:List (Addr×Obj)) (s:Shared) (σ:St) (H:Hp) (D:sR),aX X pins σ H s->t D σ H->wpAny (model X.prog X.w) X.A (exec st X.env) (SP X pins D) X.xe s
noncomputable def rg (X:Cx) (st:List Stmt) (t:TS):Prop :=
  ∀ (pins:List (Addr×Obj)) (s:Shared) (σ:St) (H:Hp) (D:sR),aX X pins σ H s->t D σ H->wpAny (model X.prog X.w) X.A (execs st X.env) (SP X pins D) X.xe s
theorem du {α:Type} {t:Sem α} {Q Q':α->Shared->Prop} {M:Model} {A:Around} {E:Value->Shared->Prop} {s:Shared} (h:wpAny M A t Q E s) (hQ:∀ a s,Q a s->Q' a s):wpAny M A t Q' E s:=wpAny_mono h hQ fun _ _ x=>x
section
variable {X:Cx}
theorem Kl {a b:Expr} {ta tb:TE} (ha:PE X a ta) (hb:PE X b tb) {pins:List (Addr×Obj)} {s:Shared} {σ:St} {H:Hp} {R:V->V->Hp->Prop} (I:aX X pins σ H s) (h:ta σ H fun x H1=>tb σ H1 fun y H2=>R x y H2)
    {α:Type} {Q:α->Shared->Prop} {f:Value->Value->Sem α}
    (hf:∀ v u s2 x y H2,aX X pins σ H2 s2->cg x v->cg y u->R x y H2->wpAny (model X.prog X.w) X.A (f v u) Q X.xe s2) :
    wpAny (model X.prog X.w) X.A (eval a X.env) (fun v s₁=>wpAny (model X.prog X.w) X.A (eval b X.env) (fun u s₂=>wpAny (model X.prog X.w) X.A (f v u) Q X.xe s₂) X.xe s₁) X.xe s:=by
  refine du (ha pins s σ H _ I h) fun v s1 zq0=>?_
  obtain ⟨x,H1,I1,r1,q1⟩:=zq0;refine du (hb pins s1 σ H1 _ I1 q1) fun u s2 zq0=>?_
  obtain ⟨y,H2,I2,r2,q2⟩:=zq0;exact hf v u s2 x y H2 I2 r1 r2 q2
noncomputable def HZ (i:Nat):TE:=fun σ H Q=>∃ v,σ[i]?=some (some v)/\Q v H
noncomputable def tC (v:V):TE:=fun _ H Q=>Q v H
theorem jP {i:Nat} {x:Str} {pos:Pos} (hN:X.N[i]?=some x) (hv:EG X.env.scope x) (hd:(x==("__debug__" : Str))=false:=by decide) (hcd:(x==("__classdict__" : Str))=false:=by decide):PE X (.Name x pos) (HZ i):=by
  intro pins s σ H Q I h;obtain ⟨v,e,h⟩:=h;obtain ⟨m,hn,hl⟩:=I.loc;obtain ⟨u,r,l⟩:=hl i x v hN e hv;have fin:EP X pins σ Q u s:=⟨v,H,I,r,h⟩
  rcases l with ⟨hk,hm⟩ | ⟨hk,c,hc,hcell⟩
  · exact wpAny_Name (wpAny_loadName_local I.ok.kind hk hn hm fin) hd
  · rcases hk with hk | hk
    · exact wpAny_Name (wpAny_loadName_cell I.ok.kind hk hc hcell fin) hd
    · exact wpAny_Name (wpAny_loadName_free I.ok.kind hk hc hcell fin hcd) hd
theorem Fw {i j pos}:PE X (.Constant (.int i) j pos) (tC (.int i)):=fun _ _ _ H _ I h=>wpAny_Constant_int ⟨.int i,H,I.tok _,⟨_,rfl⟩,h⟩
theorem Hh {b j pos}:PE X (.Constant (.bool b) j pos) (tC (.bl b)):=fun _ _ _ H _ I h=>Constant_bool ⟨.bl b,H,I,rfl,h⟩
theorem Fy {j pos}:PE X (.Constant .none j pos) (tC .non):=fun _ _ _ H _ I h=>Constant_none ⟨.non,H,I,rfl,h⟩
theorem FB {x j pos}:PE X (.Constant (.str x) j pos) (tC (.str x)):=fun _ _ _ H _ I h=>Calls.Constant_str ⟨.str x,H,I.tok _,⟨_,rfl⟩,h⟩
noncomputable def Gl (X:Cx) (x:Str):Prop:=X.env.kindOf x=some .globalImplicit
theorem nZ {E:Value->Shared->Prop} {pins:List (Addr×Obj)} {s:Shared} {σ:St} {H:Hp} {x:Str} {u:Value} {pos:Pos} {Q:Value->Shared->Prop} (I:aX X pins σ H s) (hg:Gl X x) (hm:X.mg x=some u) (h:Q u s)
    (hd:(x==("__debug__" : Str))=false:=by decide):wpAny (model X.prog X.w) X.A (eval (.Name x pos) X.env) Q E s :=
  Calls.Name_function_global I.ok.kind hg (Calls.loadGlobal_global (by rw [I.ok.glob];exact I.mod.glob.keeps I.bk) hm h) hd
theorem h9 {E:Value->Shared->Prop} {pins:List (Addr×Obj)} {s:Shared} {σ:St} {H:Hp} {x:Str} {u:Value} {pos:Pos} {Q:Value->Shared->Prop} (I:aX X pins σ H s) (hg:Gl X x) (hm:X.mg x=none) (hv:bootBuiltins x=some u) (h:Q u s)
    (hn:x ≠ "__name__" := by decide) (hd:(x==("__debug__" : Str))=false:=by decide):wpAny (model X.prog X.w) X.A (eval (.Name x pos) X.env) Q E s:=by
  obtain ⟨mb,h1,h2⟩:=I.mod.blt;exact Calls.Name_function_global I.ok.kind hg (Calls.loadGlobal_builtin (by rw [I.ok.glob];exact I.mod.glob.keeps I.bk) hm (by rw [I.ok.blt];exact h1.keeps I.bk) ((h2 x hn).trans hv) h) hd
theorem Dk {x:Str} {v:V} {u:Value} {pos:Pos} (hg:Gl X x) (hm:X.mg x=some u) (r:cg v u) (hd:(x==("__debug__" : Str))=false:=by decide):PE X (.Name x pos) (tC v) :=
  fun _ _ _ H _ I h=>nZ I hg hm ⟨v,H,I,r,h⟩ hd
theorem Dg {x:Str} {v:V} {u:Value} {pos:Pos} (hg:Gl X x) (hm:X.mg x=none) (hv:bootBuiltins x=some u) (r:cg v u) (hn:x ≠ "__name__" := by decide) (hd:(x==("__debug__" : Str))=false:=by decide):PE X (.Name x pos) (tC v) :=
  fun _ _ _ H _ I h=>h9 I hg hm hv ⟨v,H,I,r,h⟩ hn hd
variable {a b:Expr} {ta tb:TE} {pos:Pos}
noncomputable def PC (X:Cx) (op:CmpOp) (a b:Expr) (t:TE):Prop :=
  ∀ (pins:List (Addr×Obj)) (s:Shared) (σ:St) (H:Hp) (Q:VK),aX X pins σ H s->t σ H Q ->
    wpAny (model X.prog X.w) X.A (eval a X.env) (fun v s₁=>wpAny (model X.prog X.w) X.A (eval b X.env) (fun u s₂=>wpAny (model X.prog X.w) X.A (compareOp op v u) (EP X pins σ Q) X.xe s₂) X.xe s₁) X.xe s
theorem AL (b:Expr) {op:CmpOp} (h:op≠.In) (h2:op≠.NotIn):behindInMarks op b=false:=by
  have e1:(op==CmpOp.In)=false:=by cases op <;> first | rfl | exact absurd rfl h
  have e2:(op==CmpOp.NotIn)=false:=by cases op <;> first | rfl | exact absurd rfl h2
  cases b <;> simp [behindInMarks,e1,e2]
noncomputable def tB (t:TE):TT:=fun σ H Q=>t σ H fun x H1=>∃ c,x=.bl c/\Q c H1
theorem Js {op:CmpOp} {t:TE} (h:PC X op a b t) (h1:behindInMarks op b=false:=by first | exact AL _ (by decide) (by decide) | rfl):PT X (.Compare a [op] [b] pos) (tB t):=by
  intro pins s σ H Q I hw;refine wpAny_isTrue_Compare1 (du (h pins s σ H _ I hw) fun v s1 h1=>du h1 fun u s2 h2=>du h2 fun c s3 zq0=>?_) h1;obtain ⟨x,H1,I1,r1,q1⟩:=zq0;obtain ⟨d,rfl,q⟩:=q1;cases r1;exact wpAny_truthy_bool ⟨H1,I1,q⟩
theorem FL {e:Expr} {t:TE} (h:PE X e t) (he:∀ whole,isTrue e X.env whole=(do let v <- whole;standAt e.pos;holding [v] (truthy v)):=by intro _;rfl):PT X e (tB t):=by
  intro pins s σ H Q I hw;refine isTrue_plain (du (h pins s σ H _ I hw) fun v s1 zq0=>?_) (he _);obtain ⟨x,H1,I1,r1,q1⟩:=zq0;obtain ⟨d,rfl,q⟩:=q1;cases r1;exact wpAny_truthy_bool ⟨H1,I1,q⟩
variable {tA tB':TT} {fR:List Expr}
noncomputable def Jz (t u:TT):TT:=fun σ H Q=>t σ H fun c H1=>if c=true then u σ H1 Q else Q false H1
noncomputable def Ki (t u:TT):TT:=fun σ H Q=>t σ H fun c H1=>if c=true then Q true H1 else u σ H1 Q
noncomputable def JF (t:TT):TT:=fun σ H Q=>t σ H fun c H1=>Q (!c) H1
theorem pw_and1 (ha:PT X a tA):PW X (.BoolOp .And [a] pos) tA:=by
  intro wh pins s σ H Q I h;refine isTrue_and (du (ha pins s σ H Q I h) fun c s1 e=>?_);cases c with
  | true=>exact isTrue_and_nil e
  | false=>exact e
theorem pw_or1 (ha:PT X a tA):PW X (.BoolOp .Or [a] pos) tA:=by
  intro wh pins s σ H Q I h;refine isTrue_or (du (ha pins s σ H Q I h) fun c s1 e=>?_);cases c with
  | false=>exact isTrue_or_nil e
  | true=>exact e
theorem pw_and (ha:PT X a tA) (hb:PW X (.BoolOp .And (b::fR) pos) tB'):PW X (.BoolOp .And (a::b::fR) pos) (Jz tA tB'):=by
  intro wh pins s σ H Q I h;refine isTrue_and (du (ha pins s σ H _ I h) fun c s1 zq0=>?_);obtain ⟨H1,I1,q1⟩:=zq0;cases c with
  | true=>exact hb wh pins s1 σ H1 Q I1 q1
  | false=>exact ⟨H1,I1,q1⟩
theorem pw_or (ha:PT X a tA) (hb:PW X (.BoolOp .Or (b::fR) pos) tB'):PW X (.BoolOp .Or (a::b::fR) pos) (Ki tA tB'):=by
  intro wh pins s σ H Q I h;refine isTrue_or (du (ha pins s σ H _ I h) fun c s1 zq0=>?_);obtain ⟨H1,I1,q1⟩:=zq0;cases c with
  | true=>exact ⟨H1,I1,q1⟩
  | false=>exact hb wh pins s1 σ H1 Q I1 q1
theorem FK (ha:PT X a tA):PT X (.UnaryOp .Not a pos) (JF tA):=by
  intro pins s σ H Q I h;refine isTrue_not (du (ha pins s σ H (fun c H1=>Q (!c) H1) I h) fun c s1 z=>?_);obtain ⟨H1,I1,q1⟩:=z;exact ⟨H1,I1,q1⟩
noncomputable def HL (ta tb:TE):TE:=fun σ H Q=>ta σ H fun x H1=>∃ c,x=.bl c/\if c=true then tb σ H1 Q else Q (.bl false) H1
noncomputable def HV (ta:TE):TE:=fun σ H Q=>ta σ H fun x H1=>∃ c,x=.bl c/\Q (.bl (!c)) H1
theorem FA {op} {t:TE} (h:PE X a t):PE X (.BoolOp op [a] pos) t:=fun pins s σ H Q I hw=>BoolOp_one (h pins s σ H Q I hw)
theorem Fv (ha:PE X a ta) (hb:PE X (.BoolOp .And (b::fR) pos) tb):PE X (.BoolOp .And (a::b::fR) pos) (HL ta tb):=by
  intro pins s σ H Q I h;refine BoolOp_and (du (ha pins s σ H _ I h) fun v s1 zq0=>?_);obtain ⟨x,H1,I1,r1,q1⟩:=zq0;obtain ⟨c,rfl,q1⟩:=q1;cases r1;refine wpAny_truthy_bool ?_;cases c with
  | true=>exact hb pins s1 σ H1 Q I1 q1
  | false=>exact ⟨.bl false,H1,I1,rfl,q1⟩
theorem Fz (ha:PE X a ta):PE X (.UnaryOp .Not a pos) (HV ta):=by
  intro pins s σ H Q I h;refine UnaryOp_ (du (ha pins s σ H _ I h) fun v s1 zq0=>?_);obtain ⟨x,H1,I1,r1,q1⟩:=zq0;obtain ⟨c,rfl,q1⟩:=q1;cases r1;exact not_of (wpAny_truthy_bool ⟨.bl (!c),H1,I1,rfl,q1⟩)
noncomputable def Kh (t:TT) (ta tb:TE):TE:=fun σ H Q=>t σ H fun c H1=>if c=true then ta σ H1 Q else tb σ H1 Q
theorem A0 {c:Expr} (hc:PT X c tA) (ha:PE X a ta) (hb:PE X b tb):PE X (.IfExp c a b pos) (Kh tA ta tb):=by
  intro pins s σ H Q I h;refine wpAny_IfExp (du (hc pins s σ H _ I h) fun d s1 zq0=>?_);obtain ⟨H1,I1,q1⟩:=zq0;cases d with
  | true=>exact ha pins s1 σ H1 Q I1 q1
  | false=>exact hb pins s1 σ H1 Q I1 q1
end
noncomputable def nQ (K:PySem.W.Frag) (H:Hp) (a:Addr) (xs:List V):Prop :=
  Rd H a (.lst xs) \/
    ∃ (o:Obj) (its:Array Value) (n:Nat),K.lookup a=some o/\o.cls=.type "list" /\ o.dict=none/\o.data=.seq its n/\its.size<=sizeLine/\bR xs its.toList
noncomputable def ie (K:PySem.W.Frag) (H:Hp) (a:Addr) (xs:List V):Prop :=
  Rd H a (.tup xs) \/
    ∃ (o:Obj) (its:Array Value) (n:Nat),K.lookup a=some o/\o.cls=.type "tuple" /\ o.data=.seq its n/\its.size<=sizeLine/\bR xs its.toList
noncomputable def IW:Value->Option V
  | .none=>some .non
  | .bool b=>some (.bl b)
  | .int i _=>some (.int i)
  | .str x _=>some (.str x)
  | .bytes b _=>some (.byt b)
  | .float b _=>some (.flt b)
  | .ref a=>some (.ref a)
  | .type n=>some (.ty n)
  | _=>none
theorem cg.abs {x:V} {u:Value} (r:cg x u):IW u=some x:=by
  cases x with
  | non=>cases r;rfl
  | bl _=>cases r;rfl
  | int _=>obtain ⟨t,rfl⟩:=r;rfl
  | str _=>obtain ⟨t,rfl⟩:=r;rfl
  | byt _=>obtain ⟨t,rfl⟩:=r;rfl
  | flt _=>obtain ⟨t,rfl⟩:=r;rfl
  | ref _=>cases r;rfl
  | ty _=>cases r;rfl
theorem cg.inj {x y:V} {u:Value} (r:cg x u) (q:cg y u):x=y:=Option.some.inj (r.abs.symm.trans q.abs)
theorem bR.inj {xs ys:List V} {us:List Value} (h:bR xs us) (h':bR ys us):xs=ys:=by
  induction h generalizing ys with
  | nil =>
    cases h';rfl
  | cons r t ih =>
    cases h' with
    | cons r' t'=>rw [r.inj r',ih t']
section
variable {X:Cx} {pins:List (Addr×Obj)} {σ:St} {H:Hp} {s:Shared} {a:Addr} {xs ys:List V}
theorem nQ.of {K:PySem.W.Frag} (h:H a=some (.lst xs)):nQ K H a xs:=.inl (.inl h)
theorem ie.of {K:PySem.W.Frag} (h:H a=some (.tup xs)):ie K H a xs:=.inl (.inl h)
theorem aX.list (I:aX X pins σ H s) (h:nQ X.K H a xs):∃ its:List Value,bR xs its/\PlainL s.heap a its.toArray/\xs.length<=sizeLine:=by
  rcases h with h | ⟨o,its,n,hk,hc,hd,hs,hz,r⟩
  · obtain ⟨z,its,n,r,e⟩:=h.ok I.hok;exact ⟨its,r,⟨_,n,e,rfl,rfl,rfl⟩,z⟩
  · refine ⟨its.toList,r,⟨o,n,I.kIn a o hk,hc,hd,by simpa using hs⟩,?_⟩;have e:=r.length;simp only [Array.length_toList] at e;omega
theorem aX.tuple (I:aX X pins σ H s) (h:ie X.K H a xs):∃ its:List Value,bR xs its/\IsTup s.heap a its.toArray/\xs.length<=sizeLine:=by
  rcases h with h | ⟨o,its,n,hk,hc,hs,hz,r⟩
  · obtain ⟨z,its,r,p⟩:=h.ok I.hok;exact ⟨its,r,p.is,z⟩
  · refine ⟨its.toList,r,⟨o,I.kIn a o hk,hc,n,by simpa using hs⟩,?_⟩;have e:=r.length;simp only [Array.length_toList] at e;omega
theorem aX.list_inj (I:aX X pins σ H s) (h:nQ X.K H a xs) (h':nQ X.K H a ys):xs=ys:=by
  obtain ⟨its,r,⟨o,n,e,_,_,d⟩,_⟩:=I.list h;obtain ⟨its',r',⟨o',n',e',_,_,d'⟩,_⟩:=I.list h';rw [e] at e';cases e';rw [d] at d';injection d' with d1 _
  have:its=its':=by simpa using congrArg Array.toList d1
  subst this;exact r.inj r'
theorem aX.tuple_inj (I:aX X pins σ H s) (h:ie X.K H a xs) (h':ie X.K H a ys):xs=ys:=by
  obtain ⟨its,r,⟨o,e,_,n,d⟩,_⟩:=I.tuple h;obtain ⟨its',r',⟨o',e',_,n',d'⟩,_⟩:=I.tuple h';rw [e] at e';cases e';rw [d] at d';injection d' with d1 _
  have:its=its':=by simpa using congrArg Array.toList d1
  subst this;exact r.inj r'
end
noncomputable abbrev Cx.wish (X:Cx) (E:Value->Shared->Prop):Cx:={ X with xe:=E }
noncomputable abbrev Cx.nox (X:Cx):Cx:=X.wish fun _ _=>False
theorem Cx.Ok.wish {X:Cx} (ok:X.Ok) (E:Value->Shared->Prop):(X.wish E).Ok :=
  ⟨ok.mod,ok.kind,ok.glob,ok.blt,ok.above,ok.inj,ok.has,ok.cab,ok.hd,ok.frames,ok.stk,ok.exf,ok.bs,ok.bsz,ok.noex,ok.exfs,ok.funs,ok.frf⟩
theorem Cx.Ok.unwish {X:Cx} {E:Value->Shared->Prop} (ok:(X.wish E).Ok):X.Ok :=
  ⟨ok.mod,ok.kind,ok.glob,ok.blt,ok.above,ok.inj,ok.has,ok.cab,ok.hd,ok.frames,ok.stk,ok.exf,ok.bs,ok.bsz,ok.noex,ok.exfs,ok.funs,ok.frf⟩
section
variable {X:Cx} {pins:List (Addr×Obj)} {σ:St} {H:Hp} {s:Shared} {E:Value->Shared->Prop}
theorem aX.wish (I:aX X pins σ H s) (E:Value->Shared->Prop):aX (X.wish E) pins σ H s:=⟨I.ok.wish E,I.os,I.bare,I.base,I.loc,I.cell,I.free,I.freeC,I.pin,I.hok,I.len⟩
theorem aX.unwish (I:aX (X.wish E) pins σ H s):aX X pins σ H s:=⟨I.ok.unwish,I.os,I.bare,I.base,I.loc,I.cell,I.free,I.freeC,I.pin,I.hok,I.len⟩
theorem SP.unwish {D:sR} {f:Flow} {s':Shared} (h:SP (X.wish E) pins D f s'):SP X pins D f s':=by
  cases f with
  | next=>obtain ⟨σ',H',I,q⟩:=h;exact ⟨σ',H',I.unwish,q⟩
  | brk=>obtain ⟨σ',H',I,q⟩:=h;exact ⟨σ',H',I.unwish,q⟩
  | cont=>obtain ⟨σ',H',I,q⟩:=h;exact ⟨σ',H',I.unwish,q⟩
  | ret u=>obtain ⟨v,σ',H',I,r,q⟩:=h;exact ⟨v,σ',H',I.unwish,r,q⟩
theorem PE.nox {e:Expr} {t:TE} (h:PE X.nox e t):PE X e t:=fun pins s σ H Q I hw =>
  wpAny_mono (h pins s σ H Q (I.wish _) hw) (fun _ _ ⟨v,H',I',r,q⟩=>⟨v,H',I'.unwish,r,q⟩) fun _ _ z=>False.elim z
theorem PT.nox {e:Expr} {t:TT} (h:PT X.nox e t):PT X e t:=fun pins s σ H Q I hw =>
  wpAny_mono (h pins s σ H Q (I.wish _) hw) (fun _ _ ⟨H',I',q⟩=>⟨H',I'.unwish,q⟩) fun _ _ z=>False.elim z
theorem rg.nox {st:List Stmt} {t:TS} (h:rg X.nox st t):rg X st t:=fun pins s σ H D I hw =>
  wpAny_mono (h pins s σ H D (I.wish _) hw) (fun _ _ q=>q.unwish) fun _ _ z=>False.elim z
end
section
variable {X:Cx} {st:Stmt} {fR:List Stmt} {t u:TS} {e:Expr} {te:TE} {pos:Pos}
noncomputable def HU:TS:=fun D σ H=>D.nx σ H
noncomputable def JI (t u:TS):TS:=fun D σ H=>t { D with nx:=u D } σ H
theorem Dt:rg X [] HU:=fun _ _ σ H _ I h=>wpAny_execs_nil ⟨σ,H,I,h⟩
theorem pE (h1:PS X st t) (h2:rg X fR u):rg X (st::fR) (JI t u):=by
  intro pins s σ H D I h;refine wpAny_execs_cons (du (h1 pins s σ H { D with nx:=u D } I h) fun f s1 q=>?_);cases f with
  | next =>
    obtain ⟨σ',H',I',q⟩:=q;exact h2 pins s1 σ' H' D I' q
  | ret v=>exact q
  | brk=>exact q
  | cont=>exact q
theorem xq (h1:PS X st t):rg X [st] t:=by
  intro pins s σ H D I h;refine wpAny_execs_cons (du (h1 pins s σ H D I h) fun f s1 q=>?_);cases f with
  | next=>exact wpAny_execs_nil q
  | ret v=>exact q
  | brk=>exact q
  | cont=>exact q
theorem aX.quiet {pins:List (Addr×Obj)} {σ:St} {H:Hp} {s:Shared} (I:aX X pins σ H s):interactive X.env=false:=by simp [interactive,I.ok.kind]
noncomputable def HQ (te:TE):TS:=fun D σ H=>te σ H fun _ H1=>D.nx σ H1
theorem xp (he:PE X e te) (hs:swapsWith e none pos.line X.env=pure false:=by rfl):PS X (.Expr e pos) (HQ te):=by
  intro pins s σ H D I h;exact wpAny_Expr_any (du (he pins s σ H _ I h) fun v s1 ⟨x,H1,I1,r1,q1⟩=>⟨σ,H1,I1,q1⟩) I.quiet hs
noncomputable def JG (te:TE):TS:=fun D σ H=>te σ H D.rt
theorem vW (he:PE X e te):PS X (.Return (some e) pos) (JG te):=by
  intro pins s σ H D I h;exact wpAny_Return_some (du (he pins s σ H _ I h) fun v s1 ⟨x,H1,I1,r1,q1⟩=>⟨x,σ,H1,I1,r1,q1⟩)
noncomputable def JC (c:TT) (t u:TS):TS:=fun D σ H=>c σ H fun b H1=>if b=true then t D σ H1 else u D σ H1
theorem Hq {c:Expr} {a b:List Stmt} {tc:TT} (hc:PT X c tc) (ha:rg X a t) (hb:rg X b u):PS X (.If c a b pos) (JC tc t u):=by
  intro pins s σ H D I h;refine wpAny_If (du (hc pins s σ H _ I h) fun d s1 zq0=>?_);obtain ⟨H1,I1,q1⟩:=zq0;cases d with
  | true=>exact ha pins s1 σ H1 D I1 q1
  | false=>exact hb pins s1 σ H1 D I1 q1
end
noncomputable abbrev TG:=V->St->Hp->(St->Hp->Prop)->Prop
noncomputable abbrev EE:=List V->St->Hp->(St->Hp->Prop)->Prop
noncomputable def PG (X:Cx) (target:Expr) (t:TG):Prop :=
  ∀ (pins:List (Addr×Obj)) (s:Shared) (σ:St) (H:Hp) (v:V) (u:Value) (Q:St->Hp->Prop),aX X pins σ H s->cg v u->t v σ H Q ->
    wpAny (model X.prog X.w) X.A (assign target X.env u) (fun _ s'=>NX X pins s' Q) X.xe s
noncomputable def Iq (X:Cx) (ts:List Expr) (t:EE):Prop :=
  ∀ (pins:List (Addr×Obj)) (s:Shared) (σ:St) (H:Hp) (vs:List V) (us:List Value) (Q:St->Hp->Prop),aX X pins σ H s->bR vs us->t vs σ H Q ->
    wpAny (model X.prog X.w) X.A (assignInOrder ((assignEach ts X.env).map (·.2)) us) (fun _ s'=>NX X pins s' Q) X.xe s
noncomputable abbrev EF:=V->V->V->Hp->(Hp->Prop)->Prop
noncomputable def Gw (X:Cx) (t:EF):Prop :=
  ∀ (pins:List (Addr×Obj)) (s:Shared) (σ:St) (H:Hp) (o i v:V) (ov iv u:Value) (Q:Hp->Prop),aX X pins σ H s->cg o ov->cg i iv->cg v u->t o i v H Q ->
    wpAny (model X.prog X.w) X.A (setItem ov iv u) (fun _ s'=>∃ H',aX X pins σ H' s'/\Q H') X.xe s
noncomputable abbrev Iu:=V->V->Hp->VK->Prop
noncomputable def IT (X:Cx) (op:Operator) (t:Iu):Prop :=
  ∀ (pins:List (Addr×Obj)) (s:Shared) (σ:St) (H:Hp) (x y:V) (v u:Value) (Q:VK),aX X pins σ H s->cg x v->cg y u->t x y H Q ->
    wpAny (model X.prog X.w) X.A (inplaceOp op v u) (EP X pins σ Q) X.xe s
section
variable {X:Cx} {pos:Pos}
noncomputable def D7 (i:Nat):TG:=fun v σ H Q=>Q (σ.set i (some v)) H
theorem sv {i:Nat} {x:Str} (hN:X.N.Nodup) (hi:X.N[i]?=some x) (hx:DZ X.env.scope x) (hf:X.fn x=true\/X.env.scope.names.lookup x=some .local:=by first | exact .inl rfl | exact .inr rfl | assumption):PG X (.Name x pos) (D7 i):=by
  intro pins s σ H v u Q I r h;exact wpAny_assign_Name (pO I hN hi hx r (fun s' I'=>⟨_,H,I',h⟩) hf)
noncomputable def Ji:EE:=fun vs σ H Q=>vs=[]/\Q σ H
noncomputable def GU (t:TG) (u:EE):EE:=fun vs σ H Q=>∃ v r,vs=v::r/\t v σ H fun σ' H'=>u r σ' H' Q
theorem Dm:Iq X [] Ji:=by
  intro pins s σ H vs us Q I r h;obtain ⟨e,h⟩:=h;subst e;cases r;exact assignInOrder_nil ⟨σ,H,I,h⟩
theorem uu {e:Expr} {es:List Expr} {t:TG} {u:EE} (h1:PG X e t) (h2:Iq X es u)
    (hs:(assignEach (e::es) X.env).map (·.2)=assign e X.env::(assignEach es X.env).map (·.2):=by rfl):Iq X (e::es) (GU t u):=by
  intro pins s σ H vs us Q I r h;obtain ⟨v,vr,e1,h⟩:=h;subst e1;cases r with
  | cons r rr =>
    rw [hs];refine assignInOrder_cons (du (h1 pins s σ H _ _ _ I r h) fun _ s1 zq0=>?_);obtain ⟨σ1,H1,I1,q1⟩:=zq0;exact h2 pins s1 σ1 H1 _ _ Q I1 rr q1
noncomputable def Jk (K:PySem.W.Frag) (n:Nat) (t:EE):TG:=fun v σ H Q=>∃ a xs,v=.ref a/\ie K H a xs/\xs.length=n/\t xs σ H Q
theorem FE {es:List Expr} {k:Nat} {t:EE} {n:Nat} (hc:X.calm=true) (h:Iq X es t)
    (hn:(assignEach es X.env).length=n:=by rfl) (hst:(assignEach es X.env).findIdx? (·.1)=none:=by rfl):PG X (.Tuple es k pos) (Jk X.K n t):=by
  intro pins s σ H v u Q I r hw;obtain ⟨a,xs,e1,hq,hl,hw⟩:=hw;subst e1;cases r;obtain ⟨its,rv,ht,hz⟩:=I.tuple hq;refine assign_Tuple_tuple (I.ok.hd hc) ht (by simp [hn,<- hl,rv.length]) hst fun h' hx=>?_
  have I1:aX X pins σ H { s with heap:=h' }:=I.kept (t':=s.toks) fun b o e=>hx b o (Nat.ne_of_lt (Heap.lt_size e)) e
  exact h pins _ σ H xs _ Q I1 (by simpa using rv) hw
noncomputable def Jj (to ti:TE) (t:EF):TG:=fun v σ H Q=>to σ H fun o H1=>ti σ H1 fun i H2=>t o i v H2 fun H3=>Q σ H3
theorem FD {o i:Expr} {to ti:TE} {t:EF} (ho:PE X o to) (hi:PE X i ti) (hs:Gw X t)
    (ha:∀ v,assign (.Subscript o i pos) X.env v=(do
      let ov <- holding [v] (eval o X.env)
      let iv <- holding [v,ov] (eval i X.env)
      standAt pos
      holding [v,ov,iv] (setItem ov iv v)
      release [v,ov,iv] []):=by intro _;rfl):PG X (.Subscript o i pos) (Jj to ti t):=by
  intro pins s σ H v u Q I r h;rw [ha];refine wpAny_bind (wpAny_holding (du (ho pins s σ H _ I h) fun ov s1 zq0=>?_));obtain ⟨x,H1,I1,r1,q1⟩:=zq0;refine wpAny_bind (wpAny_holding (du (hi pins s1 σ H1 _ I1 q1) fun iv s2 zq0=>?_));obtain ⟨y,H2,I2,r2,q2⟩:=zq0;refine wpAny_bind (wpAny_standAt (wpAny_bind (wpAny_holding (du (hs pins s2 σ H2 x y v ov iv u _ I2 r1 r2 r q2) fun _ s3 zq0=>?_))));obtain ⟨H3,I3,q3⟩:=zq0;exact wpAny_release ⟨σ,H3,I3,q3⟩
noncomputable def HM (te:TE) (g:TG):TS:=fun D σ H=>te σ H fun x H1=>g x σ H1 D.nx
theorem FH {tg e:Expr} {te:TE} {g:TG} (he:PE X e te) (hg:PG X tg g) (hs:swapsWithSole [tg] e pos.line X.env=pure false:=by rfl) (hw:swappedStores [tg] e X.env=pure none:=by rfl)
    (h1:(assignEach [tg] X.env).map (·.2)=[assign tg X.env]:=by rfl):PS X (.Assign [tg] e pos) (HM te g):=by
  intro pins s σ H D I h;refine wpAny_Assign_stores (du (he pins s σ H _ I h) fun v s1 zq0=>?_) hs hw;obtain ⟨x,H1,I1,r1,q1⟩:=zq0;rw [h1];exact du (hg pins s1 σ H1 x v _ I1 r1 q1) fun _ s2 q=>q
theorem A8 {i:Nat} {x:Str} {e:Expr} {te:TE} {pos':Pos} (hN:X.N.Nodup) (hi:X.N[i]?=some x) (hx:DZ X.env.scope x) (he:PE X e te) (hs:swapsWith e (some (.Name x pos')) pos.line X.env=pure false:=by rfl) (hf:X.fn x=true\/X.env.scope.names.lookup x=some .local:=by first | exact .inl rfl | exact .inr rfl | assumption) :
    PS X (.Assign [.Name x pos'] e pos) (HM te (D7 i)):=by
  intro pins s σ H D I h;refine wpAny_Assign_Name (du (he pins s σ H _ I h) fun v s1 zq0=>?_) hs;obtain ⟨y,H1,I1,r1,q1⟩:=zq0;exact pO I1 hN hi hx r1 (fun s2 I2=>⟨_,H1,I2,q1⟩) hf
noncomputable def JA (i:Nat) (te:TE) (ti:Iu):TS:=fun D σ H=>∃ x,σ[i]?=some (some x)/\te σ H fun y H1=>ti x y H1 fun z H2=>D.nx (σ.set i (some z)) H2
theorem FI {i:Nat} {x:Str} {e:Expr} {te:TE} {op:Operator} {ti:Iu} {pos':Pos} (hN:X.N.Nodup) (hi:X.N[i]?=some x) (hx:DZ X.env.scope x) (he:PE X e te) (ho:IT X op ti) (hf:X.fn x=true\/X.env.scope.names.lookup x=some .local:=by first | exact .inl rfl | exact .inr rfl | assumption) :
    PS X (.AugAssign (.Name x pos') op e pos) (JA i te ti):=by
  intro pins s σ H D I h;obtain ⟨v,e1,h⟩:=h;obtain ⟨m,hn,hl⟩:=I.loc;have vis:EG X.env.scope x:=by rcases hx with k | k;exact .inl k;exact .inr (.inl k)
  obtain ⟨u,r,l⟩:=hl i x v hi e1 vis;refine wpAny_AugAssign_Name ?_;have go:wpAny (model X.prog X.w) X.A (eval e X.env) (fun w s₂=>wpAny (model X.prog X.w) X.A (inplaceOp op u w) (fun r s₃=>wpAny (model X.prog X.w) X.A (storeName X.env x r) (fun _=>SP X pins D .next) X.xe s₃) X.xe s₂) X.xe s:=by
    refine du (he pins s σ H _ I h) fun w s1 zq0=>?_
    obtain ⟨y,H1,I1,r1,q1⟩:=zq0;refine du (ho pins s1 σ H1 v y u w _ I1 r r1 q1) fun z s2 zq0=>?_
    obtain ⟨zv,H2,I2,r2,q2⟩:=zq0;exact pO I2 hN hi hx r2 (fun s3 I3=>⟨_,H2,I3,q2⟩) hf
  rcases l with ⟨hk,hm⟩ | ⟨hk,c,hc,hcell⟩
  · exact wpAny_loadName_local I.ok.kind hk hn hm go
  · rcases hk with hk | hk
    · exact wpAny_loadName_cell I.ok.kind hk hc hcell go
    · rcases hx with k | k
      · have:X.env.scope.names.lookup x=some .free:=hk;rw [k] at this;cases this
      · have:X.env.scope.names.lookup x=some .free:=hk;rw [k] at this;cases this
noncomputable def JU (f:Int->Int->Int):Iu:=fun x y H Q=>∃ i j,x=.int i/\y=.int j/\Q (.int (f i j)) H
theorem E4:IT X .Add (JU fun i j=>i+j):=by
  intro pins s σ H x y v u Q I r1 r2 h;obtain ⟨i,j,e1,e2,q⟩:=h;subst e1;subst e2;obtain ⟨t,rfl⟩:=r1;obtain ⟨t',rfl⟩:=r2;exact iadd_int ⟨.int _,H,I.tok _,⟨_,rfl⟩,q⟩
end
section
variable {X:Cx} {pos:Pos}
noncomputable def F6 (c:TT) (tb:TS):TS:=fun D σ H=>∃ W:Nat->St->Hp->Prop,(∃ m,W m σ H)/\∀ m σ H,W m σ H ->
  c σ H fun b H1=>if b=true then ∃ N:St->Hp->Prop,(∀ σ' H',N σ' H'->∃ m',m' < m/\W m' σ' H')/\tb { D with nx:=N,ct:=N,bk:=D.nx } σ H1 else D.nx σ H1
theorem A9 {c:Expr} {body:List Stmt} {tc:TT} {tb:TS} (hp:PassesOwn (model X.prog X.w) X.A X.env X.xe) (hc:PT X c tc) (hb:rg X body tb):PS X (.While c body [] pos) (F6 tc tb):=by
  intro pins s σ H D I h;obtain ⟨W,⟨m0,w0⟩,turn⟩:=h;refine wpAny_While (codeAny_whileLoop (fun n s'=>NX X pins s' (W n)) ?_ m0 ⟨σ,H,I,w0⟩);rintro n s1 ⟨σ1,H1,I1,w1⟩;refine wpAny_passesOwn hp (du (hc pins s1 σ1 H1 _ I1 (turn n σ1 H1 w1)) fun b s2 zq0=>?_);obtain ⟨H2,I2,q2⟩:=zq0;cases b with
  | true =>
    obtain ⟨N,hN,q2⟩:=q2;rw [if_pos rfl];refine wpAny_passesOwn hp (du (hb pins s2 σ1 H2 _ I2 q2) fun f s3 q3=>?_);cases f with
    | next =>
      obtain ⟨σ3,H3,I3,n3⟩:=q3;obtain ⟨m',hm,w3⟩:=hN σ3 H3 n3;exact ⟨m',hm,σ3,H3,I3,w3⟩
    | cont =>
      obtain ⟨σ3,H3,I3,n3⟩:=q3;obtain ⟨m',hm,w3⟩:=hN σ3 H3 n3;exact ⟨m',hm,σ3,H3,I3,w3⟩
    | brk=>exact q3
    | ret v=>exact q3
  | false =>
    rw [if_neg Bool.false_ne_true];exact wpAny_execs_nil ⟨σ1,H2,I2,q2⟩
end
structure It where
  go:Nat->Hp->Prop
  yld:Nat->Hp->V->Hp->Prop
  stop:Nat->Hp->Prop
noncomputable def nJ (X:Cx) (pins:List (Addr×Obj)) (H:Hp) (b:Addr):Prop :=
  H b=none/\b≠X.env.locals/\b∉X.fs/\(b∈X.ex\/X.s₀.heap.objs.size<=b)/\(∀ x c,X.env.cells.lookup x=some c->c≠b)/\∀ p∈X.pn++pins,p.1≠b
theorem aX.fpOk {X:Cx} {pins:List (Addr×Obj)} {σ:St} {H H':Hp} {s:Shared} {b:Addr} (I:aX X pins σ H s) (hb:s.heap.objs.size<=b) (hn:H' b=none):nJ X pins H' b:=by
  refine ⟨hn,Nat.ne_of_gt (Nat.lt_of_lt_of_le I.lt hb),I.nofs hb,.inr (Nat.le_trans I.sz hb),fun x c e z=>?_,fun p hp z=>?_⟩
  · obtain ⟨v,q⟩:=I.cell x c e;exact absurd (Nat.lt_of_lt_of_le q.lt (by rw [z];exact hb)) (Nat.lt_irrefl _)
  · exact absurd (Nat.lt_of_lt_of_le (Heap.lt_size (I.pin p hp).1) (by rw [z];exact hb)) (Nat.lt_irrefl _)
inductive J8 (X:Cx) (pins:List (Addr×Obj)) (σ:St) (u:Value) (J:It) (i:Nat) (H:Hp) (fp:List Addr) (tn:Nat->Heap->Prop) (s2:Shared):Prop
  | mk (x:V) (H':Hp) (I:aX X pins σ H' s2) (r:cg x u) (y:J.yld i H x H') (t:tn (i+1) s2.heap) (f:∀ b∈fp,H' b=none)
structure vd (P:Program) (w:World) (K:PySem.W.Frag) (tg:Expr) (J:It) (fp:List Addr) (it:Addr) (tn:Nat->Heap->Prop):Prop where
  mem:it∈fp
  obj:∀ i h,tn i h->∀ b∈fp,∃ o,h.get? b=some o/\∀ v,o.data≠.cell v
  keep:∀ i h h',tn i h->(∀ b∈fp,∀ o,h.get? b=some o->h'.get? b=some o)->tn i h'
  item:∀ (X:Cx),X.prog=P->X.w=w->X.K=K->X.calm=true->∀ (i:Nat) (pins:List (Addr×Obj)) (s:Shared) (σ:St) (H:Hp) (E:Value->Shared->Prop),aX X pins σ H s->(∀ b∈fp,nJ X pins H b)->tn i s.heap->J.go i H ->
    wpAny (model P w) X.A (pyNext (.ref it)) (fun r s1=>∃ u,r=some u /\
      wpAny (model P w) X.A (letOwnedTupleGo tg (.ref it) u) (fun _ s2=>J8 X pins σ u J i H fp tn s2) E s1) E s
  done:∀ (X:Cx),X.prog=P->X.w=w->X.K=K->X.calm=true->∀ (i:Nat) (pins:List (Addr×Obj)) (s:Shared) (σ:St) (H:Hp) (E:Value->Shared->Prop),aX X pins σ H s->(∀ b∈fp,nJ X pins H b)->tn i s.heap->J.stop i H ->
    wpAny (model P w) X.A (pyNext (.ref it)) (fun r s1=>r=none/\aX X pins σ H s1) E s
  self:∀ (A:Around) (i:Nat) (s:Shared) (Q:Value->Shared->Prop) (E:Value->Shared->Prop),tn i s.heap->Q (.ref it) s->wpAny (model P w) A (pyIter (.ref it)) Q E s
noncomputable abbrev TI:=St->Hp->(It->Hp->Prop)->Prop
inductive JQ (X:Cx) (pins:List (Addr×Obj)) (σ:St) (tg:Expr) (R:It->Hp->Prop) (itv:Value) (s2:Shared):Prop
  | mk (it:Addr) (fp:List Addr) (tn:Nat->Heap->Prop) (J:It) (H':Hp) (e:itv=.ref it) (I:aX X pins σ H' s2) (T:vd X.prog X.w X.K tg J fp it tn) (t:tn 0 s2.heap) (f:∀ b∈fp,nJ X pins H' b) (r:R J H')
noncomputable def PI (X:Cx) (tg iter:Expr) (wi:TI):Prop :=
  ∀ (pins:List (Addr×Obj)) (s:Shared) (σ:St) (H:Hp) (R:It->Hp->Prop),aX X pins σ H s->wi σ H R ->
    wpAny (model X.prog X.w) X.A (eval iter X.env) (fun v s1=>wpAny (model X.prog X.w) X.A (pyIter v) (JQ X pins σ tg R) X.xe s1) X.xe s
theorem Aq {M:Model} {A:Around} {E:Value->Shared->Prop} {s:Shared} {tg:Expr} {it:Addr} {u:Value} {o:Obj} {n:String} {vs:Array Value} {Q:Unit->Shared->Prop} (ho:s.heap.get? it=some o) (hc:o.cls=.type n) (hd:o.data=.fields vs)
    (hn:["enumerate","zip","dict_itemiterator","dict_reverseitemiterator","odict_iterator","itertools.zip_longest","itertools.pairwise"].contains n=false) (hQ:Q () s):wpAny M A (letOwnedTupleGo tg (.ref it) u) Q E s:=by
  unfold letOwnedTupleGo;cases tg <;> first
    | exact wpAny_pure hQ
    | (cases u <;> first
        | exact wpAny_pure hQ
        | (refine wpAny_bind (wpAny_load ho ?_)
           rw [hc,hd];show wpAny M A (if (["enumerate","zip","dict_itemiterator","dict_reverseitemiterator","odict_iterator","itertools.zip_longest","itertools.pairwise"].contains n&&vs[0]?==some (rawInt _))=true then _ else _) Q E s;rw [if_neg (by intro h;rw [hn,Bool.false_and] at h;cases h)];exact wpAny_pure hQ))
noncomputable def IQ (K:PySem.W.Frag) (a:Addr):It :=
  ⟨fun i H=>∃ xs x,nQ K H a xs/\xs[i]?=some x,fun i H x H'=>H'=H/\∀ xs,nQ K H a xs->xs[i]?=some x,fun i H=>∃ xs,nQ K H a xs/\xs.length<=i⟩
noncomputable def IR (K:PySem.W.Frag) (a:Addr):It :=
  ⟨fun i H=>∃ xs x,ie K H a xs/\xs[i]?=some x,fun i H x H'=>H'=H/\∀ xs,ie K H a xs->xs[i]?=some x,fun i H=>∃ xs,ie K H a xs/\xs.length<=i⟩
noncomputable def Im (lo:Int) (n:Nat):It:=⟨fun i _=>i < n,fun i H x H'=>H'=H/\x=.int (lo+i),fun i _=>n<=i⟩
theorem zr {P:Program} {w:World} {K:PySem.W.Frag} {tg:Expr} (a it:Addr):vd P w K tg (IQ K a) [it] it (fun i h=>h.IsListIter it a i) where
  mem:=by simp
  obj:=fun i h st b hb=>by
    have e:b=it:=by simpa using hb
    subst e;obtain ⟨o,e,c,d⟩:=st;exact ⟨o,e,fun v z=>by rw [d] at z;cases z⟩
  keep:=fun i h h' st k=>st.at fun o e=>k it (by simp) o e
  item:=by
    intro X hP hw hK hc i pins s σ H E I hf st hg;subst hP hw hK;obtain ⟨xs,x,hq,hx⟩:=hg;obtain ⟨its,rv,p,hz⟩:=I.list hq;obtain ⟨u,hu,ru⟩:=rv.get hx;obtain ⟨f0,f1,f2,f3,f4,f5⟩:=hf it (by simp);refine wpAny_pyNext_list_item st p.isList (x:=u) (by simpa using hu) fun h' st' sb=>?_
    have I1:aX X pins σ H { s with heap:=h' }:=I.turned (t':=s.toks) (fun b o hb e=>(sb.2 b hb).trans e) f0 f1 f3 f4 f5;obtain ⟨o,e,c,d⟩:=id st';exact ⟨u,rfl,Aq (s:={ s with heap:=h' }) e c d (by decide) ⟨x,H,I1,ru,⟨rfl,fun ys hy=>by rw [I.list_inj hy hq];exact hx⟩,st',fun b hb=>(hf b hb).1⟩⟩
  done:=by
    intro X hP hw hK hc i pins s σ H E I hf st hg;subst hP hw hK;obtain ⟨xs,hq,hx⟩:=hg;obtain ⟨its,rv,p,hz⟩:=I.list hq;obtain ⟨f0,f1,f2,f3,f4,f5⟩:=hf it (by simp);have hl:=rv.length;exact wpAny_pyNext_list_end (I.ok.hd hc) st p.isList (by simp;omega) fun h' eb=>⟨rfl,I.turned (t':=s.toks) (fun b o hb e=>eb b o hb e) f0 f1 f3 f4 f5⟩
  self:=fun _ _ _ _ _ st h=>wpAny_pyIter_listiter st h
theorem wo {P:Program} {w:World} {K:PySem.W.Frag} {tg:Expr} (a it:Addr):vd P w K tg (IR K a) [it] it (fun i h=>h.IsTupleIter it a i) where
  mem:=by simp
  obj:=fun i h st b hb=>by
    have e:b=it:=by simpa using hb
    subst e;obtain ⟨o,e,c,d⟩:=st;exact ⟨o,e,fun v z=>by rw [d] at z;cases z⟩
  keep:=fun i h h' st k=>st.at fun o e=>k it (by simp) o e
  item:=by
    intro X hP hw hK hc i pins s σ H E I hf st hg;subst hP hw hK;obtain ⟨xs,x,hq,hx⟩:=hg;obtain ⟨its,rv,p,hz⟩:=I.tuple hq;obtain ⟨u,hu,ru⟩:=rv.get hx;obtain ⟨f0,f1,f2,f3,f4,f5⟩:=hf it (by simp);refine wpAny_pyNext_tuple_item st (show s.heap.IsTuple a its.toArray from p) (x:=u) (by simpa using hu) fun h' st' sb=>?_
    have I1:aX X pins σ H { s with heap:=h' }:=I.turned (t':=s.toks) (fun b o hb e=>(sb.2 b hb).trans e) f0 f1 f3 f4 f5;obtain ⟨o,e,c,d⟩:=id st';exact ⟨u,rfl,Aq (s:={ s with heap:=h' }) e c d (by decide) ⟨x,H,I1,ru,⟨rfl,fun ys hy=>by rw [I.tuple_inj hy hq];exact hx⟩,st',fun b hb=>(hf b hb).1⟩⟩
  done:=by
    intro X hP hw hK hc i pins s σ H E I hf st hg;subst hP hw hK;obtain ⟨xs,hq,hx⟩:=hg;obtain ⟨its,rv,p,hz⟩:=I.tuple hq;obtain ⟨f0,f1,f2,f3,f4,f5⟩:=hf it (by simp);have hl:=rv.length;exact wpAny_pyNext_tuple_end (I.ok.hd hc) st (show s.heap.IsTuple a its.toArray from p) (by simp;omega) fun h' eb=>⟨rfl,I.turned (t':=s.toks) (fun b o hb e=>eb b o hb e) f0 f1 f3 f4 f5⟩
  self:=fun _ _ _ _ _ st h=>wpAny_pyIter_tupleiter st h
theorem wn {P:Program} {w:World} {K:PySem.W.Frag} {tg:Expr} (it:Addr) (lo:Int) (n:Nat):vd P w K tg (Im lo n) [it] it (fun i h=>IsRangeIter h it (lo+(i:Nat)*1) ((n:Int)-(i:Nat)) 1) where
  mem:=by simp
  obj:=fun i h st b hb=>by
    have e:b=it:=by simpa using hb
    subst e;exact ⟨_,st,fun v z=>by
      have z':Data.fields _=Data.cell v:=z;cases z'⟩
  keep:=fun i h h' st k=>k it (by simp) _ st
  item:=by
    intro X hP hw hK hc i pins s σ H E I hf st hg;subst hP hw hK;obtain ⟨f0,f1,f2,f3,f4,f5⟩:=hf it (by simp);have W:=Walks.range (prog:=X.prog) (w:=X.w) (I.ok.hd hc) it lo 1 n;refine W.item i s _ _ hg st fun v h' tk hv st' kk=>?_
    obtain ⟨t,rfl⟩:=hv;have I1:aX X pins σ H { s with heap:=h',toks:=tk }:=I.turned (fun b o hb e=>kk b o (by simpa using hb) e) f0 f1 f3 f4 f5;refine ⟨_,rfl,Aq (s:={ s with heap:=h',toks:=tk }) (n := "range_iterator") st' rfl rfl (by decide) ⟨.int (lo+i),H,I1,⟨t,?_⟩,⟨rfl,rfl⟩,st',fun b hb=>(hf b hb).1⟩⟩;rw [Int.mul_one]
  done:=by
    intro X hP hw hK hc i pins s σ H E I hf st hg;subst hP hw hK;obtain ⟨f0,f1,f2,f3,f4,f5⟩:=hf it (by simp);exact wpAny_pyNext_range_end (I.ok.hd hc) st (by have:n<=i:=hg;omega) fun h' eb=>⟨rfl,I.turned (t':=s.toks) (fun b o hb e=>eb b o hb e) f0 f1 f3 f4 f5⟩
  self:=fun _ _ _ _ _ st h=>wpAny_pyIter_rangeiter st h
section
variable {X:Cx} {tg:Expr}
theorem Bd {pins:List (Addr×Obj)} {σ:St} {H:Hp} {s:Shared} {R:It->Hp->Prop} {E:Value->Shared->Prop} {lo hi:Int} {t u v:Tok} {tk:Nat} (I:aX X pins σ H s) (h1:-(2 ^ 62)<=lo) (h2:lo < 2 ^ 62) (h3:-(2 ^ 62)<=hi) (h4:hi < 2 ^ 62)
    (q:R (Im lo (hi-lo).toNat) H):wpAny (model X.prog X.w) X.A (pyIter (.ref s.heap.objs.size)) (JQ X pins σ tg R) E { s with heap:=s.heap.push { cls:=.type "range",data:=.fields #[.int lo t,.int hi u,.int 1 v] },toks:=tk }:=by
  refine wpAny_pyIter_range (IsRange.new ..) (small_one h1 h2 h3 h4) ?_;have I1:aX X pins σ H { s with heap:=s.heap.push { cls:=.type "range",data:=.fields #[.int lo t,.int hi u,.int 1 v] },toks:=tk }:=I.kept fun b o e=>Heap.get?_push_of_some _ e
  refine ⟨(s.heap.push { cls:=.type "range",data:=.fields #[.int lo t,.int hi u,.int 1 v] }).objs.size,[(s.heap.push { cls:=.type "range",data:=.fields #[.int lo t,.int hi u,.int 1 v] }).objs.size],_,_,H,rfl,
    I1.kept (t':=tk) fun b o e=>Heap.get?_push_of_some _ e,wn _ lo (hi-lo).toNat,?_,fun b hb=>?_,q⟩
  · have e1:lo+((0:Nat):Int)*1=lo:=by simp
    have e2:(((hi-lo).toNat:Nat):Int)-((0:Nat):Int)=Builtin.Range.rangeSize lo hi 1:=by rw [rangeSize_one];split <;> omega
    show IsRangeIter _ _ (lo+((0:Nat):Int)*1) ((((hi-lo).toNat:Nat):Int)-((0:Nat):Int)) 1;rw [e1,e2];exact Heap.get?_push_size _ rfl
  · have e:b=(s.heap.push { cls:=.type "range",data:=.fields #[.int lo t,.int hi u,.int 1 v] }).objs.size:=by simpa using hb
    subst e;exact I1.fpOk (Nat.le_refl _) (I1.hok.fresh (Nat.le_refl _))
noncomputable def GZ (ta:TA):TI:=fun σ H R=>ta σ H fun vs H1=>∃ j:Int,vs=[.int j]/\-(2 ^ 62)<=j/\j < 2 ^ 62/\R (Im 0 j.toNat) H1
theorem yZ {a:Expr} {ta:TA} {p pos:Pos} (hg:Gl X "range") (hm:X.mg "range" = none) (ha:PA X [a] ta) (hs:starEach [a] X.env=[(false,eval a X.env)]:=by rfl):PI X tg (.Call (.Name "range" p) [a] [] pos) (GZ ta):=by
  intro pins s σ H R I h;refine Call_ (h9 I hg hm boot_range (PyProof.Rows.callWith_type1 (du (ha pos pins s σ H _ I h) fun us s1 zq0=>?_) hs rfl));obtain ⟨vs,H1,I1,r1,q1⟩:=zq0;obtain ⟨j,e,q1,q2,q⟩:=q1;subst e;cases r1 with
  | cons r rr =>
    cases rr;obtain ⟨t,rfl⟩:=r;exact call_range_1 (Bd I1 (by omega) (by omega) q1 q2 (by simpa using q))
noncomputable def JB (wi:TI) (g:TG) (tb:TS):TS:=fun D σ H=>wi σ H fun J H1=>∃ W:Nat->Nat->St->Hp->Prop,(∃ m,W 0 m σ H1)/\∀ i m σ H,W i m σ H ->
  (J.stop i H/\D.nx σ H)\/(J.go i H/\∃ N:St->Hp->Prop,(∀ σ' H',N σ' H'->∃ m',m' < m/\W (i+1) m' σ' H')/\∀ x H',J.yld i H x H'->g x σ H' fun σ2 H2=>tb { D with nx:=N,ct:=N,bk:=D.nx } σ2 H2)
noncomputable def pC (fp:List Addr) (h:Heap):List (Addr×Obj):=fp.filterMap fun b=>(h.get? b).map fun o=>(b,o)
theorem iX {fp:List Addr} {h:Heap} {b:Addr} {o:Obj} (hb:b∈fp) (e:h.get? b=some o):(b,o)∈pC fp h:=List.mem_filterMap.mpr ⟨b,hb,by rw [e];rfl⟩
theorem yU {fp:List Addr} {h:Heap} {p:Addr×Obj} (hp:p∈pC fp h):p.1∈fp/\h.get? p.1=some p.2:=by
  obtain ⟨b,hb,e⟩:=List.mem_filterMap.mp hp;cases q:h.get? b with
  | none=>rw [q] at e;cases e
  | some o =>
    rw [q] at e;have e':(b,o)=p:=Option.some.inj e;subst e';exact ⟨hb,q⟩
theorem aX.pinned {pins:List (Addr×Obj)} {σ:St} {H:Hp} {s:Shared} {fp:List Addr} (I:aX X pins σ H s) (hf:∀ b∈fp,nJ X pins H b) (ho:∀ b∈fp,∃ o,s.heap.get? b=some o/\∀ v,o.data≠.cell v):aX X (pins++pC fp s.heap) σ H s :=
  I.pins_of fun p hp=>(List.mem_append.mp hp).elim (fun z=>I.pin p (List.mem_append_right _ z)) fun z=>by
    obtain ⟨hb,e⟩:=yU z;obtain ⟨f0,f1,f2,_⟩:=hf p.1 hb;obtain ⟨o,e',d⟩:=ho p.1 hb;rw [e] at e';cases e';exact ⟨e,f0,f1,f2,d⟩
theorem aX.unpinned {pins pl:List (Addr×Obj)} {σ:St} {H:Hp} {s:Shared} (I:aX X (pins++pl) σ H s):aX X pins σ H s:=I.pins_of fun p hp=>I.pin p (List.mem_append_right _ (List.mem_append_left _ hp))
theorem FJ {iter:Expr} {body:List Stmt} {wi:TI} {g:TG} {tb:TS} {pos:Pos} (hp:PassesOwn (model X.prog X.w) X.A X.env X.xe) (hc:X.calm=true) (hi:PI X tg iter wi) (hg:PG X tg g) (hb:rg X body tb)
    (hs:∀ x,foldedSetIterable iter X.env x=pure x:=by intro _;rfl):PS X (.For tg iter body [] pos) (JB wi g tb):=by
  intro pins s σ H D I h;refine wpAny_For (du (hi pins s σ H _ I h) fun v s1 h1=>du h1 fun itv s2 h2=>?_) hs;obtain ⟨it,fp,tn,J,H2,e,I2,T,st2,f2,W,⟨m0,w0⟩,turn⟩:=h2;subst e
  -- what stays true of the iterator's objects through the loop
  have stat:∀ {H':Hp},(∀ b∈fp,H' b=none)->∀ b∈fp,nJ X pins H' b:=fun hn b hb=>⟨hn b hb,(f2 b hb).2⟩
  refine codeAny_forLoop_any (fun n s'=>∃ i σ' H',aX X pins σ' H' s'/\tn i s'.heap/\(∀ b∈fp,H' b=none)/\W i n σ' H') ?_ m0 ⟨0,σ,H2,I2,st2,fun b hb=>(f2 b hb).1,w0⟩;rintro n s3 ⟨i,σ3,H3,I3,st3,fr3,w3⟩;rcases turn i n σ3 H3 w3 with ⟨stop,qn⟩ | ⟨go,N,hN,step⟩
  · refine wpAny_passesOwn hp (du (T.done X rfl rfl rfl hc i pins s3 σ3 H3 X.xe I3 (stat fr3) st3 stop) fun r s4 zq0=>?_);obtain ⟨hr,I4⟩:=zq0;subst hr;exact wpAny_execs_nil ⟨σ3,H3,I4,qn⟩
  · refine wpAny_passesOwn hp (du (T.item X rfl rfl rfl hc i pins s3 σ3 H3 X.xe I3 (stat fr3) st3 go) fun r s4 zq0=>?_);obtain ⟨u,hr,h4⟩:=zq0;subst hr;refine wpAny_passesOwn hp (du h4 fun _ s5 zq0=>?_);obtain ⟨x,H5,I5,r5,y5,st5,fr5⟩:=zq0;have I5':=I5.pinned (stat fr5) (T.obj _ _ st5);refine wpAny_passesOwn hp (du (hg _ s5 σ3 H5 x u _ I5' r5 (step x H5 y5)) fun _ s6 zq0=>?_);obtain ⟨σ6,H6,I6,q6⟩:=zq0;refine wpAny_passesOwn hp (du (hb _ s6 σ6 H6 _ I6 q6) fun f s7 q7=>?_);have again:∀ {σ7:St} {H7:Hp},aX X (pins++pC fp s5.heap) σ7 H7 s7->N σ7 H7->∃ m,m < n/\∃ i σ' H',aX X pins σ' H' s7/\tn i s7.heap/\(∀ b∈fp,H' b=none)/\W i m σ' H':=fun {σ7 H7} I7 n7=>by
      obtain ⟨m',hm,w7⟩:=hN σ7 H7 n7;refine ⟨m',hm,i+1,σ7,H7,I7.unpinned,T.keep _ _ _ st5 fun b hb o e=>(I7.pin (b,o) (List.mem_append_right _ (List.mem_append_right _ (iX hb e)))).1,fun b hb=>?_,w7⟩;obtain ⟨o,e,d⟩:=T.obj _ _ st5 b hb;exact (I7.pin (b,o) (List.mem_append_right _ (List.mem_append_right _ (iX hb e)))).2.1
    cases f with
    | next=>obtain ⟨σ7,H7,I7,n7⟩:=q7;exact again I7 n7
    | cont=>obtain ⟨σ7,H7,I7,n7⟩:=q7;exact again I7 n7
    | brk=>obtain ⟨σ7,H7,I7,q7⟩:=q7;exact ⟨σ7,H7,I7.unpinned,q7⟩
    | ret v=>obtain ⟨x7,σ7,H7,I7,r7,q7⟩:=q7;exact ⟨x7,σ7,H7,I7.unpinned,r7,q7⟩
end
noncomputable abbrev R2:=V->V->Hp->VK->Prop
noncomputable def jr (X:Cx) (f:Value->Value->Sem Value) (r:R2):Prop :=
  ∀ (pins:List (Addr×Obj)) (s:Shared) (σ:St) (H:Hp) (x y:V) (v u:Value) (Q:VK),aX X pins σ H s->cg x v->cg y u->r x y H Q ->
    wpAny (model X.prog X.w) X.A (f v u) (EP X pins σ Q) X.xe s
noncomputable def IV (X:Cx) (f:Value->Sem Value) (r:V->Hp->VK->Prop):Prop :=
  ∀ (pins:List (Addr×Obj)) (s:Shared) (σ:St) (H:Hp) (x:V) (v:Value) (Q:VK),aX X pins σ H s->cg x v->r x H Q ->
    wpAny (model X.prog X.w) X.A (f v) (EP X pins σ Q) X.xe s
noncomputable def dX (X:Cx) (f:Value) (r:List V->Hp->VK->Prop):Prop :=
  ∀ (pins:List (Addr×Obj)) (s:Shared) (σ:St) (H:Hp) (xs:List V) (us:List Value) (Q:VK),aX X pins σ H s->bR xs us->r xs H Q ->
    wpAny (model X.prog X.w) X.A (call f us) (EP X pins σ Q) X.xe s
noncomputable def HW (r:R2) (ta tb:TE):TE:=fun σ H Q=>ta σ H fun x H1=>tb σ H1 fun y H2=>r x y H2 Q
noncomputable def JY (r:V->Hp->VK->Prop) (ta:TE):TE:=fun σ H Q=>ta σ H fun x H1=>r x H1 Q
noncomputable def rI (C:Int->Int->Prop) (g:Int->Int->V):R2:=fun x y H Q=>∃ i j,x=.int i/\y=.int j/\C i j/\Q (g i j) H
noncomputable def BV (g:Int->Int->V):R2:=fun x y H Q=>∃ i j,x=.int i/\y=.int j/\Q (g i j) H
noncomputable def rU (g:Int->V):V->Hp->VK->Prop:=fun x H Q=>∃ i,x=.int i/\Q (g i) H
section
variable {X:Cx} {a b c:Expr} {ta tb tc:TE} {pos:Pos}
theorem EL (ha:PE X a ta) (hb:PE X b tb) {pins:List (Addr×Obj)} {s:Shared} {σ:St} {H:Hp} {R:V->V->Hp->Prop} (I:aX X pins σ H s)
    (h:ta σ H fun x H1=>tb σ H1 fun y H2=>R x y H2) {Q:Value->Shared->Prop} {f:Value->Value->Sem Value}
    (hf:∀ v u s2 x y H2,aX X pins σ H2 s2->cg x v->cg y u->R x y H2->wpAny (model X.prog X.w) X.A (f v u) Q X.xe s2) :
    wpAny (model X.prog X.w) X.A (eval a X.env) (fun v s₁=>wpAny (model X.prog X.w) X.A (eval b X.env) (fun u s₂=>wpAny (model X.prog X.w) X.A (f v u) Q X.xe s₂) X.xe s₁) X.xe s:=by
  refine du (ha pins s σ H _ I h) fun v s1 zq0=>?_
  obtain ⟨x,H1,I1,r1,q1⟩:=zq0;refine du (hb pins s1 σ H1 _ I1 q1) fun u s2 zq0=>?_
  obtain ⟨y,H2,I2,r2,q2⟩:=zq0;exact hf v u s2 x y H2 I2 r1 r2 q2
theorem Hj {op:Operator} {r:R2} (ho:jr X (binaryOp op) r) (ha:PE X a ta) (hb:PE X b tb):PE X (.BinOp a op b pos) (HW r ta tb):=by
  intro pins s σ H Q I h;exact wpAny_BinOp (EL ha hb I h fun v u s2 x y H2 I2 rx ry q=>ho pins s2 σ H2 x y v u Q I2 rx ry q)
theorem Hl {op:UnaryOp} {r:V->Hp->VK->Prop} (ho:IV X (unaryOp op) r) (ha:PE X a ta):PE X (.UnaryOp op a pos) (JY r ta):=by
  intro pins s σ H Q I h;exact UnaryOp_ (du (ha pins s σ H _ I h) fun v s1 ⟨x,H1,I1,r1,q1⟩=>ho pins s1 σ H1 x v Q I1 r1 q1)
theorem Jr {f:Value->Value->Sem Value} {C:Int->Int->Prop} {g:Int->Int->Int}
    (rule:∀ (i j:Int) (t u:Tok) (s:Shared) (Q:Value->Shared->Prop) (E:Value->Shared->Prop),C i j->Q (.int (g i j) s.toks) { s with toks:=s.toks+1 }->wpAny (model X.prog X.w) X.A (f (.int i t) (.int j u)) Q E s) :
    jr X f (rI C fun i j=>.int (g i j)):=by
  intro pins s σ H x y v u Q I rx ry h;obtain ⟨i,j,rfl,rfl,hc,q⟩:=h;obtain ⟨t,rfl⟩:=rx;obtain ⟨t',rfl⟩:=ry;exact rule i j t t' s _ _ hc ⟨.int (g i j),H,I.tok _,⟨_,rfl⟩,q⟩
theorem He {f:Value->Value->Sem Value} {g:Int->Int->Int}
    (rule:∀ (i j:Int) (t u:Tok) (s:Shared) (Q:Value->Shared->Prop) (E:Value->Shared->Prop),Q (.int (g i j) s.toks) { s with toks:=s.toks+1 }->wpAny (model X.prog X.w) X.A (f (.int i t) (.int j u)) Q E s) :
    jr X f (BV fun i j=>.int (g i j)):=by
  intro pins s σ H x y v u Q I rx ry h;obtain ⟨i,j,rfl,rfl,q⟩:=h;obtain ⟨t,rfl⟩:=rx;obtain ⟨t',rfl⟩:=ry;exact rule i j t t' s _ _ ⟨.int (g i j),H,I.tok _,⟨_,rfl⟩,q⟩
theorem Fj {f:Value->Value->Sem Value} {g:Int->Int->Bool}
    (rule:∀ (i j:Int) (t u:Tok) (s:Shared) (Q:Value->Shared->Prop) (E:Value->Shared->Prop),Q (.bool (g i j)) s->wpAny (model X.prog X.w) X.A (f (.int i t) (.int j u)) Q E s) :
    jr X f (BV fun i j=>.bl (g i j)):=by
  intro pins s σ H x y v u Q I rx ry h;obtain ⟨i,j,rfl,rfl,q⟩:=h;obtain ⟨t,rfl⟩:=rx;obtain ⟨t',rfl⟩:=ry;exact rule i j t t' s _ _ ⟨.bl (g i j),H,I,rfl,q⟩
noncomputable def Gn (i j:Int):Prop:=0 < j/\j < 1073741824
noncomputable def BX (i j:Int):Prop:=(-(2 ^ 64) < i/\i < 2 ^ 64)\/(-(2 ^ 64) < j/\j < 2 ^ 64)
theorem BX.ok {i j:Int} (h:BX i j):IntMulOk i j:=by
  rcases h with ⟨h1,h2⟩ | ⟨h1,h2⟩
  · exact .of_left (intBits_le_64 h1 h2)
  · exact .of_right (intBits_le_64 h1 h2)
theorem Fk:jr X (binaryOp .Add) (BV fun i j=>.int (i+j)):=He fun _ _ _ _ _ _ _ q=>add_int q
theorem Fu:jr X (binaryOp .Sub) (BV fun i j=>.int (i-j)):=He fun _ _ _ _ _ _ _ q=>sub_int q
theorem Fq:jr X (binaryOp .Mult) (rI BX fun i j=>.int (i*j)):=Jr fun _ _ _ _ _ _ _ hc q=>mul_int q hc.ok
theorem Dc:jr X (binaryOp .FloorDiv) (rI Gn fun i j=>.int (i / j)):=Jr fun i j _ _ _ _ _ hc q=>by
  have h1:(0:Int) < j:=hc.1;have h2:j < 1073741824:=hc.2;exact floordiv_int (by omega) (by rw [Int.fdiv_eq_ediv_of_nonneg i (by omega)];exact q) (.inl (PyProof.noPylong_small (by omega)))
theorem Fp:jr X (binaryOp .Mod) (rI (fun _ j=>0 < j) fun i j=>.int (i%j)):=Jr fun i j _ _ _ _ _ hc q=>by
  have h1:(0:Int) < j:=hc;exact mod_int' (by omega) (by rw [Int.fmod_eq_emod_of_nonneg i (by omega)];exact q)
theorem Kk {f:Value->Sem Value} {g:Int->Int}
    (rule:∀ (i:Int) (t:Tok) (s:Shared) (Q:Value->Shared->Prop) (E:Value->Shared->Prop),Q (.int (g i) s.toks) { s with toks:=s.toks+1 }->wpAny (model X.prog X.w) X.A (f (.int i t)) Q E s) :
    IV X f (rU fun i=>.int (g i)):=by
  intro pins s σ H x v Q I rx h;obtain ⟨i,rfl,q⟩:=h;obtain ⟨t,rfl⟩:=rx;exact rule i t s _ _ ⟨.int (g i),H,I.tok _,⟨_,rfl⟩,q⟩
theorem Gb:IV X (unaryOp .USub) (rU fun i=>.int (-i)):=Kk fun _ _ _ _ _ q=>neg_int q
end
section
variable {X:Cx} {a b c:Expr} {ta tb tc:TE} {pos:Pos}
theorem An {pins:List (Addr×Obj)} {σ:St} {H:Hp} {s:Shared} {Q:VK} {k k':Bool} (I:aX X pins σ H s) (q:Q (.bl k) H) (e:k=k'):EP X pins σ Q (.bool k') s:=by
  subst e;exact ⟨.bl k,H,I,rfl,q⟩
theorem Hf:jr X (compareOp .Lt) (BV fun i j=>.bl (decide (i < j))):=Fj fun _ _ _ _ _ _ _ q=>lt_int q
theorem AV:jr X (compareOp .LtE) (BV fun i j=>.bl (decide (i<=j))):=Fj fun _ _ _ _ _ _ _ q=>le_int q
theorem Ee:jr X (compareOp .Gt) (BV fun i j=>.bl (decide (j < i))):=Fj fun _ _ _ _ _ _ _ q=>gt_int q
theorem Fn:jr X (compareOp .Is) (fun x y H Q=>y=.non/\Q (.bl (decide (x=.non))) H):=by
  intro pins s σ H x y v u Q I rx ry h;obtain ⟨rfl,q⟩:=h;cases ry;refine is_none_gen (An I q ?_);cases x <;> first
    | (cases rx;rfl)
    | (obtain ⟨t,rfl⟩:=rx;rfl)
theorem Dd:jr X (compareOp .IsNot) (fun x y H Q=>y=.non/\Q (.bl (!decide (x=.non))) H):=by
  intro pins s σ H x y v u Q I rx ry h;obtain ⟨rfl,q⟩:=h;cases ry;refine isnot_none_gen (An I q ?_);cases x <;> first
    | (cases rx;rfl)
    | (obtain ⟨t,rfl⟩:=rx;rfl)
theorem jr.or {f:Value->Value->Sem Value} {r r':R2} (h:jr X f r) (h':jr X f r'):jr X f (fun x y H Q=>r x y H Q\/r' x y H Q):=by
  intro pins s σ H x y v u Q I rx ry q;rcases q with q | q
  · exact h pins s σ H x y v u Q I rx ry q
  · exact h' pins s σ H x y v u Q I rx ry q
theorem iY (b:Expr) {op:CmpOp} (h:op≠.In:=by decide) (h2:op≠.NotIn:=by decide):behindInMarks op b=false:=by
  have e1:(op==CmpOp.In)=false:=by cases op <;> first | rfl | exact absurd rfl h
  have e2:(op==CmpOp.NotIn)=false:=by cases op <;> first | rfl | exact absurd rfl h2
  cases b <;> simp [behindInMarks,e1,e2]
theorem Di {op:CmpOp} {r:R2} (ho:jr X (compareOp op) r) (ha:PE X a ta) (hb:PE X b tb) (hm:behindInMarks op b=false):PE X (.Compare a [op] [b] pos) (HW r ta tb):=by
  intro pins s σ H Q I h;exact wpAny_Compare1 (EL ha hb I h fun v u s2 x y H2 I2 rx ry q=>ho pins s2 σ H2 x y v u Q I2 rx ry q) hm
noncomputable def HY (t:TE):TT:=fun σ H Q=>t σ H fun x H'=>∃ k,x=.bl k/\Q k H'
theorem Du {op:CmpOp} {r:R2} (ho:jr X (compareOp op) r) (ha:PE X a ta) (hb:PE X b tb) (hm:behindInMarks op b=false):PT X (.Compare a [op] [b] pos) (HY (HW r ta tb)):=by
  intro pins s σ H Q I h;refine wpAny_isTrue_Compare1 (du (ha pins s σ H _ I h) fun v s1 ⟨x,H1,I1,r1,q1⟩=>du (hb pins s1 σ H1 _ I1 q1) fun u s2 ⟨y,H2,I2,r2,q2⟩ =>
    du (ho pins s2 σ H2 x y v u _ I2 r1 r2 q2) fun c s3 ⟨z,H3,I3,r3,k,e,q3⟩=>?_) hm
  subst e;cases r3;exact wpAny_truthy_bool ⟨H3,I3,q3⟩
noncomputable def Bz (r r':R2) (ta tb tc:TE):TE:=fun σ H Q=>ta σ H fun x H1=>tb σ H1 fun y H2=>r x y H2 fun z H3=>∃ k,z=.bl k /\
  (if k=true then tc σ H3 fun w' H4=>r' y w' H4 Q else Q (.bl false) H3)
theorem AY {op op':CmpOp} {r r':R2} (ho:jr X (compareOp op) r) (ho':jr X (compareOp op') r') (ha:PE X a ta) (hb:PE X b tb) (hc:PE X c tc)
    (hm:lastMarks [op,op'] [b,c]=false:=by with_unfolding_all rfl):PE X (.Compare a [op,op'] [b,c] pos) (Bz r r' ta tb tc):=by
  intro pins s σ H Q I h;refine Compare_chain (du (ha pins s σ H _ I h) fun v s1 ⟨x,H1,I1,r1,q1⟩=>chain_link (du (hb pins s1 σ H1 _ I1 q1) fun u s2 ⟨y,H2,I2,r2,q2⟩ =>
    du (ho pins s2 σ H2 x y v u _ I2 r1 r2 q2) fun d s3 ⟨z,H3,I3,r3,k,e,q3⟩=>?_)) hm
  subst e;cases r3;refine wpAny_truthy_bool ?_;cases k with
  | false=>exact ite_ff ⟨.bl false,H3,I3,rfl,q3⟩
  | true=>exact ite_tt (chain_last (du (hc pins s3 σ H3 _ I3 q3) fun w' s4 ⟨z',H4,I4,r4,q4⟩=>ho' pins s4 σ H4 y z' u w' Q I4 r2 r4 q4))
theorem mI:(sizeLine:Nat) < 2 ^ 63:=by rw [sizeLine_eq];decide
theorem gu {x:V} {us:List Value} (r:bR [x] us):∃ u,us=[u]/\cg x u:=by
  cases r with
  | cons r1 r2=>cases r2;exact ⟨_,rfl,r1⟩
theorem xD {x y:V} {us:List Value} (r:bR [x,y] us):∃ u w',us=[u,w']/\cg x u/\cg y w':=by
  cases r with
  | cons r1 r2 =>
    cases r2 with
    | cons r3 r4=>cases r4;exact ⟨_,_,rfl,r1,r3⟩
theorem ya (hc:X.calm=true):dX X (.builtin "max") (fun xs H Q=>∃ i j,xs=[.int i,.int j]/\Q (.int (if j > i then j else i)) H):=by
  intro pins s σ H xs us Q I r h;obtain ⟨i,j,rfl,q⟩:=h;obtain ⟨u,w',rfl,⟨t,rfl⟩,⟨t',rfl⟩⟩:=xD r;refine max_two_ints (I.ok.hd hc) fun h' tk k=>⟨_,H,I.kept k,?_,q⟩
  by_cases hj:j > i
  · rw [if_pos hj,if_pos hj];exact ⟨_,rfl⟩
  · rw [if_neg hj,if_neg hj];exact ⟨_,rfl⟩
theorem yb (hc:X.calm=true):dX X (.builtin "min") (fun xs H Q=>∃ i j,xs=[.int i,.int j]/\Q (.int (if j < i then j else i)) H):=by
  intro pins s σ H xs us Q I r h;obtain ⟨i,j,rfl,q⟩:=h;obtain ⟨u,w',rfl,⟨t,rfl⟩,⟨t',rfl⟩⟩:=xD r;refine min_two_ints (I.ok.hd hc) fun h' tk k=>⟨_,H,I.kept k,?_,q⟩
  by_cases hj:j < i
  · rw [if_pos hj,if_pos hj];exact ⟨_,rfl⟩
  · rw [if_neg hj,if_neg hj];exact ⟨_,rfl⟩
theorem x0:dX X (.type "int") (fun xs H Q=>(∃ i,xs=[.int i]/\Q (.int i) H)\/∃ k,xs=[.bl k]/\Q (.int (if k then 1 else 0)) H):=by
  intro pins s σ H xs us Q I r h;rcases h with ⟨i,rfl,q⟩ | ⟨k,rfl,q⟩
  · obtain ⟨u,rfl,t,rfl⟩:=gu r;exact call_int_int ⟨.int i,H,I,⟨_,rfl⟩,q⟩
  · obtain ⟨u,rfl,r1⟩:=gu r;cases r1;exact call_int_bool ⟨.int (if k then 1 else 0),H,I.tok _,⟨_,rfl⟩,q⟩
end
structure xJ (h:Heap) (x dx C:Addr) (mA:Str->Option Value):Prop where
  obj:h.get? x=some (PySem.W.instObj C dx)
  ns:h.Ns1 dx mA
  ne:dx≠x
theorem yL {h:Heap} {dx:Addr} {mA:Str->Option Value} (n:h.Ns1 dx mA):∃ od,h.get? dx=some od/\∀ name,PySem.W.lookIn name od=some (mA name):=by
  obtain ⟨o,es,ep,ho,hd,hk,_,hm⟩:=n;refine ⟨o,ho,fun name=>?_⟩;have e:=hm name;unfold nsFind findBy at e;rw [<- Array.find?_toList] at e;unfold PySem.W.lookIn;rw [hd];dsimp only;split
  · rename_i y q;rw [q] at e;exact congrArg some e
  · rename_i q;rw [q] at e;have a:es.toList.any (·.refKey)=false:=by
      rw [List.any_eq_false];intro y hy;obtain ⟨z,t,hkey⟩:=hk y (Array.mem_toList_iff.mp hy);simp [DictEntry.refKey,hkey]
    have a':¬ es.toList.any (·.refKey)=true:=by rw [a];exact Bool.false_ne_true
    rw [if_neg a'];exact congrArg some e
theorem xJ.look {h:Heap} {x dx C:Addr} {mA:Str->Option Value} (I:xJ h x dx C mA):∃ od,PySem.W.InstAt h x (PySem.W.instObj C dx) C (some od)/\∀ name,PySem.W.lookIn name od=some (mA name) :=
  let ⟨od,ho,hl⟩:=yL I.ns
  ⟨od,⟨I.obj,rfl,rfl,ho⟩,hl⟩
section
variable {prog:Program} {w:World} {A:Around} {E:Value->Shared->Prop} {s:Shared} {K:PySem.W.Frag} {x dx C f:Addr} {mA:Str->Option Value} {name:Str} {v:Value}
theorem CI {expr:Bool} {Q:Value->Shared->Prop} (X:K.In s.heap) (I:xJ s.heap x dx C mA) (hg:PySem.W.plainGet K C name=true) (hh:PySem.W.hasDictIn K C=true)
    (ha:PySem.W.findIn K (.ref C) name=some none) (hv:mA name=some v) (hv':PySem.W.handedIn v=true) (h:Q v { s with toks:=s.toks+1 }) :
    wpAny (model prog w) A (getAttr (.ref x) name expr) Q E s:=by
  obtain ⟨od,J,hl⟩:=I.look;exact PySem.W.get_value X J (PySem.W.plainGet_of hg).1 (PySem.W.findObj_own hh ha rfl (by rw [hl,hv])) hv' h
theorem DE {ns:List Str} {Q:Unit->Shared->Prop} (X:K.In s.heap) (I:xJ s.heap x dx C mA)
    (hs:PySem.W.findIn K (.ref C) "__setattr__" = some (some (.builtin "object.__setattr__"))) (hp:PySem.W.plainOver K C=true) (ht:PySem.W.takerIn K C name=some none) (hh:PySem.W.hasDictIn K C=true)
    (hw:PySem.Within mA ns) (hsz:ns.length<=sizeLine)
    (h:∀ h',xJ h' x dx C (fun y=>if y=name then some v else mA y)->Heap.SameBut dx s.heap h'->Q () { s with heap:=h',toks:=s.toks+2 }) :
    wpAny (model prog w) A (setAttr (.ref x) name v) Q E s:=by
  obtain ⟨od,J,hl⟩:=I.look;refine PySem.W.set_plain X J hs (PySem.W.osa_open (s:={ s with toks:=s.toks+1 }) (r:=none) X J hp ht fun b=>?_);obtain ⟨cd,hc,hd'⟩:=PySem.W.any_some hh;have hx:s.heap.get? x=some ⟨.ref C,some dx,.plain,#[]⟩:=I.obj;refine wpAny_bind (wpAny_pure (wpAny_bind (wpAny_bind (wpAny_loadPart hx (wpAny_bind (PySem.W.Looks.here (s:={ s with toks:=s.toks+1 }) (PySem.W.looks_clsIn X hc) ?_))))));rw [hd'];refine wpAny_pure (a:=some dx) (wpAny_bind (wpAny_pure (wpAny_bind ?_)));refine wpAny_nsSet1 (s:={ s with toks:=s.toks+1 }) I.ns fun h' hn2 hs2=>?_
  obtain ⟨oD,esD,epD,hoD,hdD,hcD⟩:=hn2.count (PySem.Within.cons name v hw);refine wpAny_bind (wpAny_lookBehind hoD (by rw [hdD];exact pastItsLine_dict (Nat.le_trans hcD (by rw [List.length_cons];omega))) ?_);exact wpAny_pure (h _ ⟨(hs2.2 _ (Ne.symm I.ne)).trans I.obj,hn2,I.ne⟩ hs2)
theorem AF {R:Result->Shared->Prop} {vs:List Value} {kw:List (Str×Value)} (X:K.In s.heap) (hm:PySem.W.makesIn K C=true)
    (hi:PySem.W.findIn K (.ref C) "__init__" = some (some (.ref f))) (hf:PySem.W.typeIn K (.ref f)=some (.type "function"))
    (h:codeAny (model prog w) (A.under (.builtin "type.__call__" ⟨.ref C::vs,kw⟩)) (.call (.ref f) ⟨.ref (s.heap.objs.size+1)::vs,kw⟩) (PySem.W.InitBack (s.heap.objs.size+1) R)
      { s with heap:=(s.heap.push PySem.W.emptyDict).push (PySem.W.instObj C s.heap.objs.size) }) :
    codeAny (model prog w) A (.call (.ref C) ⟨vs,kw⟩) R s:=by
  obtain ⟨hh,g,d,t,os⟩:=s;exact PySem.W.make_core (PySem.W.makes_of X hm) (PySem.W.looks_findIn X hi) (fun self=>PySem.W.bind_fn X self hf) (.inl rfl) h
end
noncomputable def iy (f:Str) (v:V):List (Str×V)->List (Str×V)
  | []=>[(f,v)]
  | (g,x)::r=>if g=f then (g,v)::r else (g,x)::iy f v r
theorem nu (f g:Str) (v:V):∀ fs:List (Str×V),(iy f v fs).lookup g=if g=f then some v else fs.lookup g
  | []=>by
    show List.lookup g [(f,v)]=_;by_cases h:g=f
    · have hb:(g==f)=true:=beq_iff_eq.mpr h;simp only [List.lookup,hb,if_pos h]
    · have hb:(g==f)=false:=beq_eq_false_iff_ne.mpr h;simp only [List.lookup,hb,if_neg h]
  | (k,x)::r=>by
    have ih:=nu f g v r;rw [show iy f v ((k,x)::r)=(if k=f then (k,v)::r else (k,x)::iy f v r) from rfl];by_cases hk:k=f
    · rw [if_pos hk];by_cases h:g=k
      · have hb:(g==k)=true:=beq_iff_eq.mpr h;simp only [List.lookup,hb,if_pos (h.trans hk)]
      · have hb:(g==k)=false:=beq_eq_false_iff_ne.mpr h;simp only [List.lookup,hb,if_neg (fun e:g=f=>h (e.trans hk.symm))]
    · rw [if_neg hk];by_cases h:g=k
      · have hb:(g==k)=true:=beq_iff_eq.mpr h;simp only [List.lookup,hb,if_neg (fun e:g=f=>hk (h.symm.trans e))]
      · have hb:(g==k)=false:=beq_eq_false_iff_ne.mpr h;simp only [List.lookup,hb];exact ih
theorem mH (f:Str) (v:V):∀ fs:List (Str×V),f∈(iy f v fs).map (·.1)/\∀ g,g∈fs.map (·.1)->g∈(iy f v fs).map (·.1)
  | []=>⟨by simp [iy],fun g h=>by simp at h⟩
  | (k,x)::r=>by
    obtain ⟨i1,i2⟩:=mH f v r;rw [show iy f v ((k,x)::r)=(if k=f then (k,v)::r else (k,x)::iy f v r) from rfl];by_cases hk:k=f
    · rw [if_pos hk];subst hk;exact ⟨by simp,fun g h=>by simpa using h⟩
    · rw [if_neg hk];refine ⟨?_,fun g h=>?_⟩
      · rw [List.map_cons];exact List.mem_cons_of_mem _ i1
      · rw [List.map_cons] at h ⊢;rcases List.mem_cons.mp h with e | e
        · exact List.mem_cons.mpr (.inl e)
        · exact List.mem_cons_of_mem _ (i2 g e)
theorem gZ (f:Str) (v:V):∀ fs:List (Str×V),(iy f v fs).length<=fs.length+1
  | []=>by simp [iy]
  | (k,x)::r=>by
    have ih:=gZ f v r;rw [show iy f v ((k,x)::r)=(if k=f then (k,v)::r else (k,x)::iy f v r) from rfl];by_cases hk:k=f
    · rw [if_pos hk,List.length_cons,List.length_cons];omega
    · rw [if_neg hk,List.length_cons,List.length_cons];omega
theorem ma.some_of {v:V} {o:Option Value} (r:ma (some v) o):∃ u,o=some u/\cg v u:=by
  cases o with
  | none=>exact (show False from r).elim
  | some u=>exact ⟨u,rfl,r⟩
theorem yu {v:V} {u:Value} (r:cg v u):PySem.W.handedIn u=true:=by
  cases v with
  | non=>cases (show u=Value.none from r);rfl
  | bl b=>cases (show u=Value.bool b from r);rfl
  | int i=>obtain ⟨t,e⟩:=(show ∃ t,u=Value.int i t from r);cases e;rfl
  | str x=>obtain ⟨t,e⟩:=(show ∃ t,u=Value.str x t from r);cases e;rfl
  | byt b=>obtain ⟨t,e⟩:=(show ∃ t,u=Value.bytes b t from r);cases e;rfl
  | flt b=>obtain ⟨t,e⟩:=(show ∃ t,u=Value.float b t from r);cases e;rfl
  | ref a=>cases (show u=Value.ref a from r);rfl
  | ty n=>cases (show u=Value.type n from r);rfl
section
variable {P:Program} {w:World} {H H':Hp} {h h':Heap} {a C dx:Addr} {fs fs':List (Str×V)}
theorem wU (hok:ik P w H h) (e:H a=some (.ins C dx fs)):∃ mA,xJ h a dx C mA/\(∀ f,ma (fs.lookup f) (mA f))/\PySem.Within mA (fs.map (·.1))/\fs.length<=1000/\H dx=some (.own a):=by
  obtain ⟨d,z,ne,ob,mA,n,r,q⟩:=(show cm P w H h a (.ins C dx fs) from hok a _ e)
  exact ⟨mA,⟨ob,n,ne⟩,r,q,z,d⟩
end
structure zy (K:PySem.W.Frag) (C:Addr):Prop where
  pg:PySem.W.plainGet K C Str.empty=true
  hd:PySem.W.hasDictIn K C=true
  po:PySem.W.plainOver K C=true
  sa:PySem.W.findIn K (.ref C) "__setattr__" = some (some (.builtin "object.__setattr__"))
theorem zy.get {K:PySem.W.Frag} {C:Addr} (c:zy K C) (f:Str):PySem.W.plainGet K C f=true:=c.pg
noncomputable def eP (K:PySem.W.Frag) (C:Addr) (f:Str):Prop:=PySem.W.findIn K (.ref C) f=some none
theorem eP.taker {K:PySem.W.Frag} {C:Addr} {f:Str} (n:eP K C f):PySem.W.takerIn K C f=some none:=by
  unfold PySem.W.takerIn;rw [show PySem.W.findIn K (.ref C) f=some none from n];rfl
section
variable {X:Cx} {pins:List (Addr×Obj)} {σ:St} {H:Hp} {s:Shared} {a C dx:Addr} {fs:List (Str×V)} {f:Str} {v:V} {A:Around} {E:Value->Shared->Prop}
theorem v8 {y:V} {u:Value} {Q:Unit->Shared->Prop} (I:aX X pins σ H s) (e:H a=some (.ins C dx fs)) (c:zy X.K C) (n:eP X.K C f) (hl:fs.length < 1000) (ry:cg y u)
    (h:∀ s',aX X pins σ (cQ H a (.ins C dx (iy f y fs))) s'->Q () s'):wpAny (model X.prog X.w) A (setAttr (.ref a) f u) Q E s:=by
  obtain ⟨mA,O,r,wi,_,ho⟩:=wU I.hok e;have hz:(fs.map (·.1)).length<=sizeLine:=by rw [List.length_map,sizeLine_eq];omega
  refine DE I.kIn O c.sa c.po n.taker c.hd wi hz fun h' O' sb=>h _ ?_
  have hd:∃ o,h'.get? dx=some o:=let ⟨o,_,_,e',_⟩:=O'.ns;⟨o,e'⟩
  refine I.write (x:=a) (e:=dx) (by rw [e];exact True.intro) (.inr ho) (fun b q hb z=>(sb.2 b hb).trans z) hd ?_;refine ⟨by rw [aB O.ne];exact ho,?_,O.ne,O'.obj,_,O'.ns,fun g=>?_,fun g hg=>?_⟩
  · have:=gZ f y fs;omega
  · show ma ((iy f y fs).lookup g) (if g=f then some u else mA g);rw [nu];by_cases q:g=f
    · rw [if_pos q,if_pos q];exact ry
    · rw [if_neg q,if_neg q];exact r g
  · by_cases q:g=f
    · rw [q];exact (mH f y fs).1
    · refine (mH f y fs).2 g (wi g fun z=>hg ?_);show (if g=f then some u else mA g)=none;rw [if_neg q];exact z
theorem aX.made (I:aX X pins σ H s):aX X pins σ (cQ (cQ H s.heap.objs.size (.own (s.heap.objs.size+1))) (s.heap.objs.size+1) (.ins C s.heap.objs.size []))
    { s with heap:=(s.heap.push PySem.W.emptyDict).push (PySem.W.instObj C s.heap.objs.size) }:=by
  have e1:(s.heap.push PySem.W.emptyDict).get? s.heap.objs.size=some PySem.W.emptyDict:=Heap.get?_push_size s.heap rfl;have e2:((s.heap.push PySem.W.emptyDict).push (PySem.W.instObj C s.heap.objs.size)).get? (s.heap.objs.size+1)=some (PySem.W.instObj C s.heap.objs.size):=by
    have:=Heap.get?_push_size (s.heap.push PySem.W.emptyDict) (o:=PySem.W.instObj C s.heap.objs.size) rfl
    rwa [Heap.size_push] at this
  have e3:(s.heap.push PySem.W.emptyDict).Ns s.heap.objs.size (fun _=>none):=⟨PySem.W.emptyDict,#[],_,e1,rfl,(fun e he=>absurd he (by simp)),fun _=>rfl⟩
  have I1:=I.laid (a:=s.heap.objs.size) (o:=.own (s.heap.objs.size+1)) (h':=s.heap.push PySem.W.emptyDict) (t':=s.toks) (fun b u q=>Heap.get?_push_of_some _ q) (Nat.le_refl _) ⟨_,e1⟩;refine I1.laid (a:=s.heap.objs.size+1) (o:=.ins C s.heap.objs.size []) (t':=s.toks) (fun b u q=>Heap.get?_push_of_some _ q) (Nat.le_of_eq (Heap.size_push _ _)) ?_;have ne:s.heap.objs.size≠s.heap.objs.size+1:=Nat.ne_of_lt (Nat.lt_succ_self _);refine ⟨by rw [aB ne,bE],Nat.zero_le _,ne,e2,fun _=>none,(Heap.Ns1.of_empty e3).at fun o q=>Heap.get?_push_of_some _ q,fun _=>True.intro,fun y hy=>absurd rfl hy⟩
theorem Cc {prog:Program} {w:World} {env:Env} {e:Expr} {f:Str} {pos:Pos} {s:Shared} {Q:Value->Shared->Prop} (hb:attributeBase e f env (eval e env)=eval e env)
    (h:wpAny (model prog w) A (eval e env) (fun o s₁=>wpAny (model prog w) A (getAttr o f true) Q E s₁) E s):wpAny (model prog w) A (eval (.Attribute e f pos) env) Q E s :=
  Attribute_any_ h (by rw [arm_eval_Attribute,hb])
end
noncomputable def Jx (K:PySem.W.Frag) (ta tv:TE) (f:Str):TS:=fun D σ H=>tv σ H fun y H1=>ta σ H1 fun x H2=>∃ a C dx fs,x=.ref a/\H2 a=some (.ins C dx fs)/\zy K C/\eP K C f/\fs.length < 1000 /\
  D.nx σ (cQ H2 a (.ins C dx (iy f y fs)))
section
variable {X:Cx} {o e value:Expr} {f:Str} {pos pos' tpos:Pos} {ta tv:TE}
theorem vV (ha:PE X o ta) (hv:PE X value tv) (hs:swapsWith value (some (.Attribute o f pos')) pos.line X.env=pure false):PS X (.Assign [.Attribute o f pos'] value pos) (Jx X.K ta tv f):=by
  intro pins s σ H D I h;refine plainObj_wpAny_Assign_Attribute (du (hv pins s σ H _ I h) fun u s1 ⟨y,H1,I1,ry,q⟩=>du (ha pins s1 σ H1 _ I1 q) fun ov s2 zq0=>?_) hs;obtain ⟨x,H2,I2,rx,a,C,dx,fs,ex,ea,c,n,l,q2⟩:=zq0;subst ex;obtain rfl:ov=Value.ref a:=rx;exact v8 I2 ea c n l ry fun s3 I3=>⟨σ,_,I3,q2⟩
end
section
variable {X:Cx} {pins:List (Addr×Obj)} {σ:St} {H:Hp} {s:Shared} {A:Around} {E:Value->Shared->Prop} {Q:Value->Shared->Prop} {c:Value} {b:Bool}
inductive lv (K:PySem.W.Frag) (H:Hp):V->Value->Prop where
  | non:lv K H .non (.type "NoneType")
  | bl (x:Bool):lv K H (.bl x) (.type "bool")
  | int (i:Int):lv K H (.int i) (.type "int")
  | str (x:Str):lv K H (.str x) (.type "str")
  | flt (x:UInt64):lv K H (.flt x) (.type "float")
  | lst {a:Addr} {xs:List V} (e:H a=some (.lst xs)):lv K H (.ref a) (.type "list")
  | frz {a:Addr} {o:Obj} {xs:List V} (e:H a=some (.frz o (.lst xs))):lv K H (.ref a) (.type "list")
  | tup {a:Addr} {xs:List V} (e:H a=some (.tup xs)):lv K H (.ref a) (.type "tuple")
  | dK {a:Addr} {kvs:List (dz×V)} (e:H a=some (.dK kvs)):lv K H (.ref a) (.type "dict")
  | dT {a:Addr} {kvs:List (List dz×V)} (e:H a=some (.dT kvs)):lv K H (.ref a) (.type "dict")
  | ins {a C dx:Addr} {fs:List (Str×V)} (e:H a=some (.ins C dx fs)) (cl:zy K C) (ha:PySem.W.findIn K (.ref C) "__class__" = some (some (.builtin "object.__class__")))
      (hn:PySem.W.specialIn K (.builtin "object.__class__") "__get__" = some (some (.builtin "getset_descriptor.__get__"))) (htk:PySem.W.takesIn K (.builtin "object.__class__")=some true)
      (hm:PySem.W.mroIn K C (.type "object")=some true):lv K H (.ref a) (.ref C)
theorem yC {x:V} {u t:Value} (I:aX X pins σ H s) (rx:cg x u) (ty:lv X.K H x t) (e:PySem.W.kitOne X.K t c=some b) (h:∀ tk,Q (.bool b) { s with toks:=tk }) :
    wpAny (model X.prog X.w) A (call (.builtin "isinstance") [u,c]) Q E s:=by
  cases ty with
  | non=>cases (show u=Value.none from rx);exact PySem.W.kia_one PySem.W.kitx_none I.kIn True.intro e (fun z=>nomatch z) h
  | bl y=>cases (show u=Value.bool y from rx);exact PySem.W.kia_one PySem.W.kitx_bool I.kIn True.intro e (fun z=>nomatch z) h
  | int i=>obtain ⟨t,q⟩:=(show ∃ t,u=Value.int i t from rx);cases q;exact PySem.W.kia_one PySem.W.kitx_int I.kIn True.intro e (fun z=>nomatch z) h
  | str y=>obtain ⟨t,q⟩:=(show ∃ t,u=Value.str y t from rx);cases q;exact PySem.W.kia_one PySem.W.kitx_str I.kIn True.intro e (fun z=>nomatch z) h
  | flt y=>obtain ⟨t,q⟩:=(show ∃ t,u=Value.float y t from rx);cases q;exact PySem.W.kia_one PySem.W.kitx_float I.kIn True.intro e (fun z=>nomatch z) h
  | @lst a xs ea =>
    cases (show u=Value.ref a from rx);obtain ⟨_,_,n,_,h1⟩:=(show cm X.prog X.w H s.heap a (.lst xs) from I.hok a _ ea)
    exact PySem.W.kia_one PySem.W.kitx_list I.kIn ⟨_,h1,rfl⟩ e (fun z=>nomatch z) h
  | @frz a ob xs ea =>
    cases (show u=Value.ref a from rx);obtain ⟨_,_,_,n,_,h1⟩:=(show cm X.prog X.w H s.heap a (.frz ob (.lst xs)) from I.hok a _ ea)
    exact PySem.W.kia_one PySem.W.kitx_list I.kIn ⟨_,h1,rfl⟩ e (fun z=>nomatch z) h
  | @tup a xs ea =>
    cases (show u=Value.ref a from rx);obtain ⟨_,_,_,p⟩:=(show cm X.prog X.w H s.heap a (.tup xs) from I.hok a _ ea)
    obtain ⟨o,h1,h2,_⟩:=p;exact PySem.W.kia_one PySem.W.kitx_tuple I.kIn ⟨o,h1,h2⟩ e (fun z=>nomatch z) h
  | @dK a kvs ea =>
    cases (show u=Value.ref a from rx);obtain ⟨_,_,vs,_,p⟩:=(show cm X.prog X.w H s.heap a (.dK kvs) from I.hok a _ ea)
    obtain ⟨o,es,ep,h1,h2,_⟩:=p;exact PySem.W.kia_one PySem.W.kitx_dict I.kIn ⟨o,h1,h2.1⟩ e (fun z=>nomatch z) h
  | @dT a kvs ea =>
    cases (show u=Value.ref a from rx);obtain ⟨_,_,xs,_,o,es,ep,h1,h2,_⟩:=(show cm X.prog X.w H s.heap a (.dT kvs) from I.hok a _ ea)
    exact PySem.W.kia_one PySem.W.kitx_dict I.kIn ⟨o,h1,h2.1⟩ e (fun z=>nomatch z) h
  | @ins a C dx fs ea cl ha hn htk hm =>
    cases (show u=Value.ref a from rx);obtain ⟨mA,O,_⟩:=wU I.hok ea;obtain ⟨od,J,_⟩:=O.look;exact PySem.W.kia_one (PySem.W.kitx_own (cl.get _) cl.hd ha hn htk hm) I.kIn J e (fun z=>nomatch z) h
end
structure fu (k:Nat) (A:Around):Prop where
  hd:A.handled=none
  dp:A.depth+3*k+5 < recursionLimit
  un:A.units+16*k+200 < cLine
theorem fu.mono {j k:Nat} {A:Around} (r:fu k A) (h:j<=k):fu j A:=⟨r.hd,by have:=r.dp;omega,by have:=r.un;omega⟩
theorem fu.deeper {k:Nat} {A:Around} (r:fu (k+1) A) (env:Env):fu k (A.deeper env) :=
  ⟨r.hd,by have:=r.dp;show A.depth+1+3*k+5 < _;omega,by have:=r.un;show A.units+3+16*k+200 < _;omega⟩
theorem vI {A:Around} {C:Addr} {us:List Value} {kw:List (Str×Value)}:(A.under (.builtin "type.__call__" ⟨.ref C::us,kw⟩)).depth=A.depth+1:=by
  first | rfl | simp [Around.under,Code.weight,Code.isCreation,Code.isGuard,Code.isCaller,Code.frames,Code.isFrame,guardIds]
theorem vJ {A:Around} {C:Addr} {us:List Value} {kw:List (Str×Value)}:(A.under (.builtin "type.__call__" ⟨.ref C::us,kw⟩)).units=A.units+1:=by
  first | rfl | simp [Around.under,Code.cUnits,Code.frames,Code.isFrame]
theorem fu.make {k:Nat} {A:Around} (r:fu (k+1) A) (C:Addr) (us:List Value) (kw:List (Str×Value)):fu k (A.under (.builtin "type.__call__" ⟨.ref C::us,kw⟩)) :=
  ⟨r.hd,by have:=r.dp;rw [vI];omega,by have:=r.un;rw [vJ];omega⟩
theorem fu.depth {k:Nat} {A:Around} (r:fu k A):A.depth < recursionLimit:=by have:=r.dp;omega
theorem fu.units {k:Nat} {A:Around} (r:fu k A):A.units+64 < cLine:=by have:=r.un;omega
noncomputable def JE:TA:=fun _ H Q=>Q [] H
noncomputable def HP (ta:TE) (tr:TA):TA:=fun σ H Q=>ta σ H fun x H1=>tr σ H1 fun xs H2=>Q (x::xs) H2
section
variable {X:Cx} {e:Expr} {es:List Expr} {te:TE} {t:TA} {pos:Pos}
theorem AX:PA X [] JE:=fun _ _ _ _ H Q I h=>Calls.spliced_nil ⟨[],H,I,.nil,h⟩
theorem su (ha:PE X e te) (hr:PA X es t) (hs:starEach (e::es) X.env=(false,eval e X.env)::starEach es X.env:=by rfl):PA X (e::es) (HP te t):=by
  intro pos pins s σ H Q I h;rw [hs];show wpAny _ _ (spliced ((false,eval e X.env)::backTo pos (starEach es X.env))) _ _ s;refine Calls.spliced_cons (du (ha pins s σ H _ I h) fun u s1 zq0=>?_);obtain ⟨x,H1,I1,r1,q1⟩:=zq0;exact du (hr pos pins s1 σ H1 _ I1 q1) fun us s2 ⟨xs,H2,I2,r2,q2⟩=>⟨x::xs,H2,I2,.cons r1 r2,q2⟩
noncomputable def JJ (t:TA):TE:=fun σ H Q=>t σ H fun xs H1=>xs.length<=sizeLine/\∀ p,H1 p=none->Q (.ref p) (cQ H1 p (.tup xs))
noncomputable def JD (t:TA):TE:=fun σ H Q=>t σ H fun xs H1=>xs.length<=sizeLine/\∀ p,H1 p=none->Q (.ref p) (cQ H1 p (.lst xs))
theorem FC {x1} (h:PA X es t):PE X (.Tuple es x1 pos) (JJ t):=by
  intro pins s σ H Q I hq;refine wpAny_Tuple_spliced (du (h pos pins s σ H _ I hq) fun us s1 ⟨xs,H1,I1,r,z,q⟩=>⟨by rw [<- r.length];exact z,?_⟩);have hf:H1 s1.heap.objs.size=none:=I1.hok.fresh (Nat.le_refl _);refine ⟨.ref s1.heap.objs.size,cQ H1 s1.heap.objs.size (.tup xs),I1.laid (t':=s1.toks) (fun b u e=>Heap.get?_push_of_some _ e) (Nat.le_refl _) ?_,rfl,q _ hf⟩;exact ⟨z,us,r,⟨_,Heap.get?_push_size _ rfl,rfl,⟨_,rfl⟩,rfl⟩⟩
theorem Fx (h:PA X es t):PE X (.List es pos) (JD t):=by
  intro pins s σ H Q I hq;refine wpAny_List_spliced (du (h pos pins s σ H _ I hq) fun us s1 ⟨xs,H1,I1,r,z,q⟩=>⟨by rw [<- r.length];exact z,?_⟩);have hf:H1 s1.heap.objs.size=none:=I1.hok.fresh (Nat.le_refl _);refine ⟨.ref s1.heap.objs.size,cQ H1 s1.heap.objs.size (.lst xs),I1.laid (t':=s1.toks) (fun b u e=>Heap.get?_push_of_some _ e) (Nat.le_refl _) ?_,rfl,q _ hf⟩;exact ⟨z,us,0,r,Heap.get?_push_size _ rfl⟩
end
noncomputable abbrev Sp:=List V->Hp->VK->XK->Prop
noncomputable abbrev zx:=List Env->Hp->Shared->XK->Value->Shared->Prop
structure uY (P:Program) (w:World) (K:PySem.W.Frag) (mg:Str->Option Value) (base:Heap) (A:Around) (outer:List Env) (s:Shared) (H:Hp):Prop where
  frames:A.frames=some outer
  mod:Mod K mg base
  bs:∀ b o,base.get? b=some o->s.heap.get? b=some o/\H b=none
  bsz:base.objs.size<=s.heap.objs.size
  funs:s.heap.FunFrames base outer
  frf:∀ b∈lZ outer,H b=none
  hok:ik P w H s.heap
  bare:AllBare s.gens
noncomputable def CE (outer:List Env) (P:Program) (w:World) (H:Hp) (s:Shared) (Q:VK) (u:Value) (s':Shared):Prop :=
  ∃ v H',s'.os=s.os/\AllBare s'.gens/\Un (lZ outer) [] H H' s.heap s'.heap/\ik P w H' s'.heap/\cg v u/\Q v H'
noncomputable def CR (CX:zx) (outer:List Env) (P:Program) (w:World) (H:Hp) (s:Shared) (Q:VK) (E:XK) (r:Result) (s':Shared):Prop :=
  match r with
  | .ok (.ret u)=>CE outer P w H s Q u s'
  | .ok _=>False
  | .error e=>CX outer H s E e s'
structure bg (P:Program) (w:World) (K:PySem.W.Frag) (mg:Str->Option Value) (base:Heap) (CX:zx) (k:Nat) (f:Addr) (fd:FuncData) (ps:List Str) (sp:Sp):Prop where
  len:∀ vs H Q E,sp vs H Q E->vs.length=ps.length
  run:∀ (A:Around) (outer:List Env) (s:Shared) (H:Hp) (args:Args) (us:List Value) (vs:List V) (Q:VK) (E:XK),fu k A->uY P w K mg base A outer s H->BindsTo s fd args (ps.zip us)->bR vs us->sp vs H Q E ->
    codeAny (model P w) A (.call (.ref f) args) (CR CX outer P w H s Q E) s
theorem bg.mono {P:Program} {w:World} {K:PySem.W.Frag} {mg:Str->Option Value} {base:Heap} {CX:zx} {j k:Nat} {f:Addr} {fd:FuncData} {ps:List Str} {sp:Sp} (F:bg P w K mg base CX j f fd ps sp) (h:j<=k) :
    bg P w K mg base CX k f fd ps sp:=⟨F.len,fun A outer s H args us vs Q E hr=>F.run A outer s H args us vs Q E (hr.mono h)⟩
theorem bg.imp {P:Program} {w:World} {K:PySem.W.Frag} {mg:Str->Option Value} {base:Heap} {CX:zx} {k:Nat} {f:Addr} {fd:FuncData} {ps:List Str} {sp sp':Sp} (F:bg P w K mg base CX k f fd ps sp)
    (h:∀ vs H Q E,sp' vs H Q E->sp vs H Q E):bg P w K mg base CX k f fd ps sp' :=
  ⟨fun vs H Q E q=>F.len vs H Q E (h _ _ _ _ q),fun A outer s H args us vs Q E hr he hb hv hs=>F.run A outer s H args us vs Q E hr he hb hv (h _ _ _ _ hs)⟩
theorem uY.make {P:Program} {w:World} {K:PySem.W.Frag} {mg:Str->Option Value} {base:Heap} {A:Around} {outer:List Env} {s:Shared} {H:Hp} (e:uY P w K mg base A outer s H) (C:Addr) (us:List Value) (kw:List (Str×Value)) :
    uY P w K mg base (A.under (.builtin "type.__call__" ⟨.ref C::us,kw⟩)) outer s H:=⟨by first | exact e.frames | (simpa [Around.under,Code.envs,Code.isFrame,pushEnvs] using e.frames),e.mod,e.bs,e.bsz,e.funs,e.frf,e.hok,e.bare⟩
section
variable {X:Cx} {pins:List (Addr×Obj)} {σ:St} {H:Hp} {s s':Shared}
theorem aX.env0 (I:aX X pins σ H s):uY X.prog X.w X.K X.mg X.base X.A X.stack s H :=
  ⟨I.ok.frames,I.ok.mod,I.bs,Nat.le_trans I.ok.bsz I.sz,I.stack,I.stkFree,I.hok,I.bare⟩
theorem aX.after {Q:VK} {u:Value} (I:aX X pins σ H s) (h:CE X.stack X.prog X.w H s Q u s'):EP X pins σ Q u s':=by
  obtain ⟨v,H',os,bare,un,hok,r,q⟩:=h;obtain ⟨hh,g,d,t,os'⟩:=s';obtain rfl:os'=s.os:=os;exact ⟨v,H',I.call (h':=hh) (g':=g) (d':=d) (t':=t) (ch:=[]) un hok bare (fun b z=>absurd z (by simp)),r,q⟩
end
noncomputable def HN (sp:Sp) (dvs:List V) (E:XK) (t:TA):TE:=fun σ H Q=>t σ H fun vs H1=>sp (vs++dvs) H1 Q E
noncomputable def HS (C:Addr) (sp:Sp) (dvs:List V) (E:XK) (t:TA):TE:=fun σ H Q=>t σ H fun vs H1=>∀ x dx,H1 x=none->H1 dx=none->dx≠x ->
  sp (.ref x::(vs++dvs)) (cQ (cQ H1 dx (.own x)) x (.ins C dx [])) (fun v H2=>v=.non/\Q (.ref x) H2) E
noncomputable def bN (K:PySem.W.Frag) (fd:FuncData) (ps:List Str) (ds:List Value):Prop :=
  ∀ (s:Shared) (us:List Value),K.In s.heap->(us++ds).length=ps.length->BindsTo s fd ⟨us,[]⟩ (ps.zip (us++ds))
theorem bN.all {K:PySem.W.Frag} {fd:FuncData} {ps:List Str} (h:∀ us:List Value,us.length=ps.length->bindArgs fd ⟨us,[]⟩=pure (ps.zip us)):bN K fd ps []:=fun s us _ hl=>by
  rw [List.append_nil] at hl ⊢;exact .of_eq (h us hl)
noncomputable def ou (CX:zx) (X:Cx) (E:XK):Prop:=∀ (pins:List (Addr×Obj)) (σ:St) (H:Hp) (s:Shared) (e:Value) (s':Shared),aX X pins σ H s->CX X.stack H s E e s'->X.xe e s'
section
variable {X:Cx} {CX:zx} {k:Nat} {f C:Addr} {fd:FuncData} {ps:List Str} {sp:Sp} {dvs:List V} {ds:List Value} {E:XK} {x m:Str} {p pos apos:Pos} {e o:Expr} {es:List Expr} {ta:TE} {t:TA}
theorem FR {pins:List (Addr×Obj)} {σ:St} {H:Hp} {s:Shared} {Q:VK} {us:List Value} {vs:List V} (F:bg X.prog X.w X.K X.mg X.base CX k f fd ps sp) (hr:fu k X.A) (hb:bN X.K fd ps ds) (hd:bR dvs ds) (hx:ou CX X E)
    (I:aX X pins σ H s) (r:bR vs us) (h:sp (vs++dvs) H Q E):wpAny (model X.prog X.w) X.A (call (.ref f) us) (EP X pins σ Q) X.xe s:=by
  have r2:bR (vs++dvs) (us++ds):=r.append hd;have hl:(us++ds).length=ps.length:=by rw [<- r2.length];exact F.len _ _ _ _ h
  refine wpAny_call (codeAny_mono (F.run X.A X.stack s H ⟨us,[]⟩ (us++ds) (vs++dvs) Q E hr I.env0 (hb s us I.kIn hl) r2 h) fun r s' hq=>?_);cases r with
  | error e=>exact hx pins σ H s e s' I hq
  | ok fl =>
    cases fl with
    | ret u=>exact I.after hq
    | next=>exact False.elim hq
    | brk=>exact False.elim hq
    | cont=>exact False.elim hq
theorem Dh (F:bg X.prog X.w X.K X.mg X.base CX k f fd ps sp) (hr:fu k X.A) (hg:Gl X x) (hm:X.mg x=some (.ref f)) (hk:PySem.W.keepIn X.K (.ref f)=true) (hb:bN X.K fd ps ds) (hd:bR dvs ds) (hx:ou CX X E)
    (ha:PA X (e::es) t) (hdb:(x==("__debug__" : Str))=false:=by decide) (he:starEach (e::es) X.env=(false,eval e X.env)::starEach es X.env:=by rfl) (hpl:(backTo pos (starEach es X.env)).any (·.1)=false:=by rfl) :
    PE X (.Call (.Name x p) (e::es) [] pos) (HN sp dvs E t):=by
  intro pins s σ H Q I h;refine wpAny_Call_Name_kw (nZ I hg hm ?_ hdb);refine PySem.W.callWith_K (h₀:=X.base) I.ok.mod.kin hk (du (ha pos pins s σ H _ I h) fun us s1 ⟨vs,H1,I1,r,q⟩=>⟨I1.kIn,?_⟩) he hpl;exact FR F hr hb hd hx I1 r q
structure Mk (K:PySem.W.Frag) (C f:Addr):Prop where
  makes:PySem.W.makesIn K C=true
  init:PySem.W.findIn K (.ref C) "__init__" = some (some (.ref f))
  fn:PySem.W.isFn K (.ref f)=true
  kp:PySem.W.keepIn K (.ref C)=true
theorem Bk {pins:List (Addr×Obj)} {σ:St} {H:Hp} {s:Shared} {Q:VK} {us:List Value} {vs:List V} (M:Mk X.K C f) (F:bg X.prog X.w X.K X.mg X.base CX k f fd ps sp) (hr:fu (k+1) X.A) (hb:bN X.K fd ps ds) (hd:bR dvs ds)
    (hx:ou CX X E) (I:aX X pins σ H s) (r:bR vs us)
    (h:∀ x dx,H x=none->H dx=none->dx≠x->sp (.ref x::(vs++dvs)) (cQ (cQ H dx (.own x)) x (.ins C dx [])) (fun v H2=>v=.non/\Q (.ref x) H2) E) :
    wpAny (model X.prog X.w) X.A (call (.ref C) us) (EP X pins σ Q) X.xe s:=by
  have hq:=h (s.heap.objs.size+1) s.heap.objs.size (I.hok.fresh (Nat.le_succ _)) (I.hok.fresh (Nat.le_refl _)) (Nat.ne_of_lt (Nat.lt_succ_self _));have I2:=aX.made (C:=C) I;have r2:bR (V.ref (s.heap.objs.size+1)::(vs++dvs)) (Value.ref (s.heap.objs.size+1)::(us++ds)):=.cons rfl (r.append hd);have hl:(Value.ref (s.heap.objs.size+1)::us++ds).length=ps.length:=by
    have e:=r2.length;rw [F.len _ _ _ _ hq] at e;exact e.symm
  refine wpAny_call (AF (f:=f) I.kIn M.makes M.init (beq_iff_eq.mp M.fn) (codeAny_mono (F.run _ X.stack _ _ ⟨Value.ref (s.heap.objs.size+1)::us,[]⟩ (Value.ref (s.heap.objs.size+1)::(us++ds)) _ _ E (hr.make C us [])
    (I2.env0.make C us []) (hb _ (Value.ref (s.heap.objs.size+1)::us) I2.kIn hl) r2 hq) fun r s' hq'=>?_))
  cases r with
  | error e=>exact hx pins σ _ _ e s' I2 hq'
  | ok fl =>
    cases fl with
    | ret u =>
      obtain ⟨v,H',I3,rv,ev,q3⟩:=I2.after hq';subst ev;exact ⟨rv,⟨V.ref (s.heap.objs.size+1),H',I3,rfl,q3⟩⟩
    | next=>exact False.elim hq'
    | brk=>exact False.elim hq'
    | cont=>exact False.elim hq'
theorem Dl (M:Mk X.K C f) (F:bg X.prog X.w X.K X.mg X.base CX k f fd ps sp) (hr:fu (k+1) X.A) (hg:Gl X x) (hm:X.mg x=some (.ref C)) (hb:bN X.K fd ps ds) (hd:bR dvs ds) (hx:ou CX X E)
    (ha:PA X (e::es) t) (hdb:(x==("__debug__" : Str))=false:=by decide) (he:starEach (e::es) X.env=(false,eval e X.env)::starEach es X.env:=by rfl) (hpl:(backTo pos (starEach es X.env)).any (·.1)=false:=by rfl) :
    PE X (.Call (.Name x p) (e::es) [] pos) (HS C sp dvs E t):=by
  intro pins s σ H Q I h;refine wpAny_Call_Name_kw (nZ I hg hm ?_ hdb);refine PySem.W.callWith_K (h₀:=X.base) I.ok.mod.kin M.kp (du (ha pos pins s σ H _ I h) fun us s1 ⟨vs,H1,I1,r,q⟩=>⟨I1.kIn,?_⟩) he hpl;exact Bk M F hr hb hd hx I1 r q
end
structure aY (N P:List Str) (sc:Scope):Prop where
  kind:sc.kind=.function
  co:sc.isCoroutine=false
  gen:sc.isGenerator=false
  nd:N.Nodup
  pre:N.take P.length=P
  par:∀ x∈P,sc.names.lookup x=some .local\/sc.names.lookup x=some .cell
  nofree:∀ y∈sc.names,y.2≠.free
theorem ql {kindOf:Str->Option NameKind} {x:Str}:∀ {binds:List (Str×Value)} {m:Str->Option Value},(∀ v,(x,v)∉binds)->bindL kindOf binds m x=m x
  | [],_,_=>rfl
  | (n,v)::r,m,h=>by
    unfold bindL;rw [ql fun w hw=>h w (List.mem_cons_of_mem _ hw)];split
    · have:x≠n:=by rintro rfl;exact h v List.mem_cons_self
      simp [this]
    · rfl
theorem qh {kindOf:Str->Option NameKind} {x:Str}:∀ {binds:List (Str×Value)} {m:Str->Option Value},(∀ v,(x,v)∉binds)->bindC kindOf binds m x=m x
  | [],_,_=>rfl
  | (n,v)::r,m,h=>by
    unfold bindC;rw [qh fun w hw=>h w (List.mem_cons_of_mem _ hw)];split
    · rfl
    · have:x≠n:=by rintro rfl;exact h v List.mem_cons_self
      simp [this]
theorem qk {kindOf:Str->Option NameKind} {x:Str} {v:Value}:∀ {P:List Str} {vs:List Value} {i:Nat} {m:Str->Option Value},P.Nodup->P[i]?=some x->vs[i]?=some v->kindOf x=some .local ->
    bindL kindOf (P.zip vs) m x=some v
  | [],_,_,_,_,h,_,_=>by simp at h
  | _::_,[],_,_,_,_,h,_=>by simp at h
  | p::P,w::vs,0,m,nd,h1,h2,hk=>by
    simp at h1 h2;subst h1;subst h2;show bindL kindOf ((p,w)::P.zip vs) m p=_;unfold bindL;rw [ql fun v hv=>(List.nodup_cons.mp nd).1 (List.of_mem_zip hv).1,if_pos hk];simp
  | p::P,w::vs,i+1,m,nd,h1,h2,hk=>by
    show bindL kindOf ((p,w)::P.zip vs) m x=_;unfold bindL;exact qk (i:=i) (List.nodup_cons.mp nd).2 (by simpa using h1) (by simpa using h2) hk
theorem qg {kindOf:Str->Option NameKind} {x:Str} {v:Value}:∀ {P:List Str} {vs:List Value} {i:Nat} {m:Str->Option Value},P.Nodup->P[i]?=some x->vs[i]?=some v->kindOf x≠some .local ->
    bindC kindOf (P.zip vs) m x=some v
  | [],_,_,_,_,h,_,_=>by simp at h
  | _::_,[],_,_,_,_,h,_=>by simp at h
  | p::P,w::vs,0,m,nd,h1,h2,hk=>by
    simp at h1 h2;subst h1;subst h2;show bindC kindOf ((p,w)::P.zip vs) m p=_;unfold bindC;rw [qh fun v hv=>(List.nodup_cons.mp nd).1 (List.of_mem_zip hv).1,if_neg hk];simp
  | p::P,w::vs,i+1,m,nd,h1,h2,hk=>by
    show bindC kindOf ((p,w)::P.zip vs) m x=_;unfold bindC;exact qg (i:=i) (List.nodup_cons.mp nd).2 (by simpa using h1) (by simpa using h2) hk
noncomputable def jn (N:List Str) (vs:List V):St:=vs.map some++List.replicate (N.length-vs.length) none
noncomputable def fY (CX:zx) (P:Program) (w:World) (K:PySem.W.Frag) (mg:Str->Option Value) (base:Heap) (N:List Str) (qual:Str) (scope:Scope) (f:Addr) (cd:Value) (A:Around) (outer:List Env) (s:Shared) (H:Hp) (E:XK):Cx where
  prog:=P
  w:=w
  K:=K
  mg:=mg
  base:=base
  A:=A.deeper (envOfC qual scope s.heap.objs.size f cd)
  N:=N
  s₀:=s
  H₀:=H
  env:=envOfC qual scope s.heap.objs.size f cd
  outer:=outer
  stack:=envOfC qual scope s.heap.objs.size f cd::outer
  ex:=[]
  calm:=true
  fn:=fun _=>true
  pn:=[]
  xe:=fun e s'=>wpAny (model P w) (A.deeper (envOfC qual scope s.heap.objs.size f cd)) (leaving (envOfC qual scope s.heap.objs.size f cd) e) (fun _ s''=>CX outer H s E e s'') (fun e' s''=>CX outer H s E e' s'') s'
theorem tO {sc:Scope} {n:Nat} {x:Str} (h:sc.names.lookup x=some .cell):∃ c,(cellsFrom n sc.names []).lookup x=some c:=by
  have q:=PySem.W.cellsFrom_some sc.names n [] (.inl h);exact Option.isSome_iff_exists.mp q
theorem yA {CX:zx} {P:Program} {w:World} {K:PySem.W.Frag} {mg:Str->Option Value} {base:Heap} {N ps:List Str} {qual:Str} {scope:Scope} {f:Addr} {cd:Value} {A:Around} {outer:List Env} {s s1:Shared} {H:Hp} {E:XK} {us:List Value} {vs:List V}
    (S:aY N ps scope) (hd:A.handled=none) (e0:uY P w K mg base A outer s H) (hl:vs.length=ps.length) (r:bR vs us)
    (x:InCallC s s.heap.objs.size (bindL (envOfC qual scope s.heap.objs.size f cd).kindOf (ps.zip us) fun _=>none) (cellsFrom (s.heap.objs.size+1) scope.names []) (bindC (envOfC qual scope s.heap.objs.size f cd).kindOf (ps.zip us) fun _=>none) s1) :
    aX (fY CX P w K mg base N qual scope f cd A outer s H E) [] (jn N vs) H s1:=by
  have hpl:ps.length<=N.length:=by have:=congrArg List.length S.pre;rw [List.length_take] at this;omega
  obtain ⟨h1,tk,rfl,hk⟩:=x.done;have noA:∀ b:Addr,b∉(fY CX P w K mg base N qual scope f cd A outer s H E).ex:=fun b z=>absurd (show b∈([]:List Addr) from z) (by simp)
  refine ⟨⟨e0.mod,S.kind,rfl,rfl,Nat.le_refl _,fun y z c h1 h2=>?_,fun y hy=>?_,fun y c _ h=>?_,fun _=>hd,Around.frames_deeper e0.frames,.inr ⟨rfl,rfl⟩,fun b z=>absurd z (noA b),e0.bs,e0.bsz,fun b _ _=>noA b,fun b z=>absurd z (noA b),e0.funs,e0.frf⟩,
    rfl,e0.bare,Un.kept hk,⟨_,x.toInCall.ns,fun i y v h1 h2 h3=>?_⟩,fun y c h=>⟨_,x.cell y c h⟩,e0.hok.fresh (Nat.le_refl _),fun y c h=>?_,fun p hp=>absurd (show p∈([]:List (Addr×Obj)) from hp) (by simp),e0.hok.kept hk,?_⟩
  · exact name_of_addr x.apart (PySem.mem_of_lookup h1) (PySem.mem_of_lookup h2)
  · have hy:scope.names.lookup y=some .cell\/scope.names.lookup y=some .free:=hy;rcases hy with hy | hy
    · exact tO hy
    · exact absurd rfl (S.nofree _ (PySem.mem_of_lookup hy))
  · exact Nat.le_of_lt (x.above y c (PySem.mem_of_lookup h))
  · have hi:i < vs.length:=by
      unfold jn at h2;by_cases hi:i < vs.length
      · exact hi
      · rw [List.getElem?_append_right (by simpa using hi)] at h2;rw [List.getElem?_replicate] at h2;split at h2 <;> cases h2
    have ha:vs[i]?=some v:=by
      unfold jn at h2;rw [List.getElem?_append_left (by simpa using hi),List.getElem?_map] at h2;cases e:vs[i]? with
      | none=>rw [e] at h2;cases h2
      | some a=>rw [e] at h2;cases h2;rfl
    obtain ⟨u,hu,rv⟩:=r.get ha;have hp:ps[i]?=some y:=by
      rw [<- S.pre,List.getElem?_take_of_lt (by omega)];exact h1
    have ndP:ps.Nodup:=by rw [<- S.pre];exact S.nd.sublist (List.take_sublist _ _)
    refine ⟨u,rv,?_⟩;rcases S.par y (List.mem_of_getElem? hp) with k | k
    · exact .inl ⟨k,qk ndP hp hu k⟩
    · obtain ⟨c,e⟩:=tO (n:=s.heap.objs.size+1) k;refine .inr ⟨.inl k,c,e,?_⟩;have q:=x.cell y c e;rw [qg ndP hp hu (by show scope.names.lookup y≠_;rw [k];decide)] at q;exact q
  · exact e0.hok.fresh (Nat.le_of_lt (x.above y c (PySem.mem_of_lookup h)))
  · unfold jn;show _=N.length;rw [List.length_append,List.length_map,List.length_replicate];omega
theorem Ao {CX:zx} {P:Program} {w:World} {K:PySem.W.Frag} {mg:Str->Option Value} {base:Heap} {k:Nat} {f:Addr} {name qual:Str} {params:Arguments} {body:List Stmt} {scope:Scope} {dV kV doc pm cdv ct oc:Value} {an od:Option Addr}
    {osl:Array (Option Value)} {N ps:List Str} {sp:Sp} (lk:K.lookup f=some ⟨oc,od,.func (PySem.W.fnOf name qual params body scope dV kV doc pm an cdv ct),osl⟩) (hcd:PySem.W.codeIn K cdv qual=true) (S:aY N ps scope)
    (len:∀ vs H Q E,sp vs H Q E->vs.length=ps.length)
    (hbody:∀ (A:Around) (outer:List Env) (s:Shared) (H:Hp) (vs:List V) (Q:VK) (E:XK),fu k (A.deeper (envOfC qual scope s.heap.objs.size f cdv))->sp vs H Q E ->
      ∃ t,rg (fY CX P w K mg base N qual scope f cdv A outer s H E) body t/\t { nx:=fun _ H'=>Q .non H',rt:=Q } (jn N vs) H) :
    bg P w K mg base CX (k+1) f (PySem.W.fnOf name qual params body scope dV kV doc pm an cdv ct) ps sp:=by
  refine ⟨len,fun A outer s H args us vs Q E hr e0 hb r hsp=>?_⟩;have hl:=len _ _ _ _ hsp;have KX:K.In s.heap:=e0.mod.kin.keeps fun b o e=>(e0.bs b o e).1
  have lim:s.heap.NoLimit:=e0.mod.nolimit.keeps fun b o e=>(e0.bs b o e).1
  have hkind:∀ y∈ps.zip us,scope.names.lookup y.1=some .local\/(scope.names.lookup y.1=some .cell/\((cellsFrom (s.heap.objs.size+1) scope.names []).lookup y.1).isSome=true):=fun ⟨n,v⟩ hy=>by
    rcases S.par n (List.of_mem_zip hy).1 with q | q
    · exact .inl q
    · exact .inr ⟨q,PySem.W.cellsFrom_some _ _ _ (.inl q)⟩
  refine codeAny_call_function hr.depth (KX _ _ lk) rfl S.co S.gen rfl (PySem.W.codeRec_of KX hcd) (hb _ _ _ _ ?_);refine wpAny_newFunctionEnv_cells S.kind hkind fun env he s1 x=>?_
  subst he;refine ⟨lim.keeps x.toInCall.keep,codeAny_func ?_⟩;obtain ⟨t,ht,hq⟩:=hbody A outer s H vs Q E (hr.deeper _) hsp;have I:aX (fY CX P w K mg base N qual scope f cdv A outer s H E) [] (jn N vs) H s1:=yA S hr.hd e0 hl r x;refine wpAny_mono (ht [] s1 (jn N vs) H _ I hq) (fun fl s' hs=>?_) fun e s' hs=>hs
  have fin:∀ {σ':St} {H':Hp} {v:V} {u:Value},aX (fY CX P w K mg base N qual scope f cdv A outer s H E) [] σ' H' s'->cg v u->Q v H'->CE outer P w H s Q u s' :=
    fun {σ' H' v u} J rv q=>⟨v,H',J.os,J.bare,J.base,J.hok,rv,q⟩
  cases fl with
  | ret u =>
    obtain ⟨v,σ',H',J,rv,q⟩:=hs;exact fin J rv q
  | next =>
    obtain ⟨σ',H',J,q⟩:=hs;exact fin (v:=V.non) (u:=Value.none) J rfl q
  | brk =>
    obtain ⟨_,_,_,q⟩:=hs;exact False.elim q
  | cont =>
    obtain ⟨_,_,_,q⟩:=hs;exact False.elim q
section
variable {X:Cx} {x:Str} {p pos:Pos} {e:Expr} {es:List Expr} {t:TA} {id T:String} {r:List V->Hp->VK->Prop}
noncomputable def IL (r:List V->Hp->VK->Prop) (t:TA):TE:=fun σ H Q=>t σ H fun vs H1=>r vs H1 Q
theorem pB (hc:dX X (.builtin id) r) (hg:Gl X x) (hm:X.mg x=none) (hv:bootBuiltins x=some (.builtin id)) (ha:PA X (e::es) t) (hn:x ≠ "__name__" := by decide) (hdb:(x==("__debug__" : Str))=false:=by decide)
    (he:starEach (e::es) X.env=(false,eval e X.env)::starEach es X.env:=by rfl) (hpl:(backTo pos (starEach es X.env)).any (·.1)=false:=by rfl):PE X (.Call (.Name x p) (e::es) [] pos) (IL r t):=by
  intro pins s σ H Q I h;refine wpAny_Call_Name_kw (h9 I hg hm hv ?_ hn hdb);exact PyProof.Rows.callWith_builtin1 (du (ha pos pins s σ H _ I h) fun us s1 ⟨vs,H1,I1,r1,q1⟩=>hc pins s1 σ H1 vs us Q I1 r1 q1) he hpl
theorem yX (hc:dX X (.type T) r) (hg:Gl X x) (hm:X.mg x=none) (hv:bootBuiltins x=some (.type T)) (ha:PA X (e::es) t) (hn:x ≠ "__name__" := by decide) (hdb:(x==("__debug__" : Str))=false:=by decide)
    (he:starEach (e::es) X.env=(false,eval e X.env)::starEach es X.env:=by rfl) (hpl:(backTo pos (starEach es X.env)).any (·.1)=false:=by rfl):PE X (.Call (.Name x p) (e::es) [] pos) (IL r t):=by
  intro pins s σ H Q I h;refine wpAny_Call_Name_kw (h9 I hg hm hv ?_ hn hdb);exact PyProof.Rows.callWith_type1 (du (ha pos pins s σ H _ I h) fun us s1 ⟨vs,H1,I1,r1,q1⟩=>hc pins s1 σ H1 vs us Q I1 r1 q1) he hpl
end
end L2
namespace HT
open PySem PyProof.Rows
section
open PySem.SeqAt
open PySem.AutoSeq1 (wpAny_loadPart')
open PySem.MeetsSeq PySem.MeetsSeq2 PySem.MeetsSeq3
end
section
variable {prog:Program} {w:World} {A:Around} {E:Value->Shared->Prop} {s:Shared}
theorem cat_tup {t b:Addr} {vs ws:List Value} {Q:Value->Shared->Prop} (ht:IsTup s.heap t vs.toArray) (hb:IsTup s.heap b ws.toArray) (hv:vs≠[])
    (h1:ws=[]->Q (.ref t) s) (h2:ws≠[]->Q (.ref s.heap.objs.size) { s with heap:=s.heap.push { cls:=.type "tuple",data:=.seq (vs++ws).toArray } })
    (hsz:vs.length+ws.length<=sizeLine):wpAny (model prog w) A (binaryOp .Add (.ref t) (.ref b)) Q E s:=by
  obtain ⟨⟨cls,dd,data,sl⟩,ho,hc,n,hd⟩:=id ht;obtain ⟨⟨cls2,dd2,data2,sl2⟩,ho2,hc2,n2,hd2⟩:=id hb;simp only at hc hd hc2 hd2;subst hc hd hc2 hd2;have e:vs.toArray++ws.toArray=(vs++ws).toArray:=by simp
  by_cases hw:ws=[]
  · exact concat_meets ⟨_,ho,rfl⟩ ⟨_,ho2,rfl⟩ noFill_tuple_add seq_tuple_add PySem.F.slot_tuple_add PySem.F.entry_tuple_add (PySem.F.args_tuple_add_2 _ _)
      (tuple_addW1 t b vs.toArray ws.toArray n n2 dd dd2 sl sl2 (by simpa using hv) (by simp [hw])) ⟨ho,ho2,h1 hw⟩
  · refine concat_meets ⟨_,ho,rfl⟩ ⟨_,ho2,rfl⟩ noFill_tuple_add seq_tuple_add PySem.F.slot_tuple_add PySem.F.entry_tuple_add (PySem.F.args_tuple_add_2 _ _)
      (tuple_addW2 t b vs.toArray ws.toArray n n2 dd dd2 sl sl2 (by simpa using hv) (by simpa using hw) (by rw [List.size_toArray,List.size_toArray];exact hsz)) ⟨ho,ho2,?_⟩
    rw [e];exact h2 hw
noncomputable def sIx (n d:Nat):Option Int->Nat
  | none=>d
  | some v=>if v < 0 then (v+(n:Int)).toNat else min v.toNat n
theorem uC (n d:Nat):sIx n d none=d:=rfl
theorem xw (n d k:Nat):sIx n d (some (k:Int))=min k n:=by
  show (if (k:Int) < 0 then ((k:Int)+(n:Int)).toNat else min (k:Int).toNat n)=min k n;rw [if_neg (by omega),Int.toNat_natCast]
theorem FT (n d:Nat) (hd:d<=n) (o:Option Int):sIx n d o<=n:=by
  cases o with
  | none=>exact hd
  | some v =>
    show (if v < 0 then (v+(n:Int)).toNat else min v.toNat n)<=n;by_cases hv:v < 0
    · rw [if_pos hv];omega
    · rw [if_neg hv];exact Nat.min_le_right _ _
theorem wH (v:Int) (n d:Nat):(if v < 0 then max (v+(n:Int)) 0 else min v (n:Int))=((sIx n d (some v):Nat):Int):=by
  show (if v < 0 then max (v+(n:Int)) 0 else min v (n:Int))=(((if v < 0 then (v+(n:Int)).toNat else min v.toNat n):Nat):Int)
  by_cases hv:v < 0
  · simp only [if_pos hv];omega
  · simp only [if_neg hv];omega
theorem vj (lo hi:Option Int) (n:Nat):Builtin.Slice.sliceAdjust lo hi 1 (n:Int)=(((sIx n 0 lo:Nat):Int),((sIx n n hi:Nat):Int)):=by
  have h1:¬ ((1:Int) < 0):=by omega
  unfold Builtin.Slice.sliceAdjust;simp only [h1,if_false];refine Prod.ext ?_ ?_
  · cases lo with
    | none=>rfl
    | some v=>exact wH v n 0
  · cases hi with
    | none=>rfl
    | some v=>exact wH v n n
theorem vT (i j:Nat):Builtin.Slice.slicePlaces (i:Int) (j:Int) 1=j-i:=by
  unfold Builtin.Slice.slicePlaces;have h1:(1:Int) > 0:=by omega
  simp only [h1,if_true,Int.ediv_one];split <;> omega
theorem pG {v:Value} {o:Option Int} {Q:Option Int->Shared->Prop} (p:IsPart v o) (h:Q o s):wpAny (model prog w) A (Builtin.Slice.slicePartIndex v) Q E s:=by
  cases p with
  | none=>exact slicePart_none h
  | int i t=>exact slicePart_int h
theorem sliceApplied_gen {sl:Addr} {vl vu:Value} {lo hi:Option Int} {n:Nat} {Q:Int×Int×Nat->Shared->Prop} (hs:s.heap.IsSliceOf sl vl vu .none) (pl:IsPart vl lo) (pu:IsPart vu hi)
    (h:Q (((sIx n 0 lo:Nat):Int),1,sIx n n hi-sIx n 0 lo) s):wpAny (model prog w) A (Builtin.Slice.sliceApplied (.ref sl) (pure (n:Int))) Q E s:=by
  obtain ⟨os,hos,hcs,hds⟩:=id hs;unfold Builtin.Slice.sliceApplied Builtin.Slice.sliceFields;refine wpAny_bind (wpAny_bind (wpAny_field hos hds (x:=vl) rfl (wpAny_bind (wpAny_field hos hds (x:=vu) rfl (wpAny_bind (wpAny_field hos hds (x:=.none) rfl (wpAny_pure ?_)))))));refine wpAny_bind (slicePart_none ?_);show wpAny _ _ (if ((1:Int)==0)=true then _ else _) _ _ s;rw [if_neg (by decide)];refine wpAny_bind (pG pl (wpAny_bind (pG pu (wpAny_bind (wpAny_pure ?_)))));show wpAny _ _ (match Builtin.Slice.sliceAdjust lo hi 1 (n:Int) with | (lo,hi)=>pure (lo,(1:Int),Builtin.Slice.slicePlaces lo hi 1)) _ _ s;rw [vj lo hi n];show wpAny _ _ (pure (((sIx n 0 lo:Nat):Int),(1:Int),Builtin.Slice.slicePlaces ((sIx n 0 lo:Nat):Int) ((sIx n n hi:Nat):Int) 1)) _ _ s;rw [vT];exact wpAny_pure h
theorem A3 (xs:Array Value) (i k:Nat):((List.range k).filterMap fun (m:Nat)=>xs[((i:Int)+(m:Int)*1).toNat]?).toArray=((xs.toList.drop i).take k).toArray:=by
  have e:(fun (m:Nat)=>xs[((i:Int)+(m:Int)*1).toNat]?)=fun m=>xs[i+m]?:=by
    funext m;have:((i:Int)+(m:Int)*1).toNat=i+m:=by omega
    rw [this]
  rw [e];have:=pick_run xs i k;rw [List.filterMap_map] at this;have e2:((fun x=>xs[x]?)∘fun x=>i+x)=fun m=>xs[i+m]?:=rfl
  rw [e2] at this;rw [this]
theorem getItem_tuple_cut {t sl:Addr} {items:Array Value} {vl vu:Value} {lo hi:Option Int} {Q:Value->Shared->Prop} (ht:IsTup s.heap t items) (hs:s.heap.IsSliceOf sl vl vu .none) (pl:IsPart vl lo) (pu:IsPart vu hi)
    (hw:¬ (sIx items.size 0 lo=0/\sIx items.size items.size hi=items.size))
    (h:Q (.ref s.heap.objs.size) { s with heap:=s.heap.push { cls:=.type "tuple",data:=.seq ((items.toList.drop (sIx items.size 0 lo)).take (sIx items.size items.size hi-sIx items.size 0 lo)).toArray } })
    (hsz:items.size<=sizeLine):wpAny (model prog w) A (getItem (.ref t) (.ref sl)) Q E s:=by
  have htake:sizeOk (.seq ((items.toList.drop (sIx items.size 0 lo)).take (sIx items.size items.size hi-sIx items.size 0 lo)).toArray):=by
    show ((items.toList.drop (sIx items.size 0 lo)).take (sIx items.size items.size hi-sIx items.size 0 lo)).toArray.size<=sizeLine;rw [List.size_toArray,List.length_take,List.length_drop,Array.length_toList];exact Nat.le_trans (Nat.min_le_right _ _) (Nat.le_trans (Nat.sub_le _ _) hsz)
  have hj:sIx items.size items.size hi<=items.size:=FT _ _ (Nat.le_refl _) hi;obtain ⟨os,hos,hcs,hds⟩:=id hs;have hTs:s.TypeIs (.ref sl) "slice" := ⟨os,hos,hcs⟩
  unfold getItem
  try with_reducible refine wpAny_holding ?_
  first | refine wpAny_bind (wpAny_pure ?_) | skip
  refine wpAny_bind (wpAny_sequenceKey ht.typeIs (by decide) ?_);refine wpAny_bind (wpAny_callSpecial?_slot (name:=Str.ofString "__getitem__") ht.typeIs PyProof.Rows.slot_tuple_getitem
    (wpAny_call_entry PyProof.Rows.slot_tuple_getitem ht.typeIs entry_tuple_getitem ?_ (args_tuple_getitem _ _)))
  show wpAny _ _ (Builtin.Tuple.tupleItemsOf (.ref t)>>=_) _ _ s;refine wpAny_bind (tupleItemsOf_ ht ?_);refine wpAny_bind (wpAny_typeOf hTs ?_);rw [if_pos (by decide)];refine wpAny_bind (sliceApplied_gen hs pl pu ?_);have hno:¬ ((((sIx items.size 0 lo:Nat):Int)==0&&(1:Int)==1&&(sIx items.size items.size hi-sIx items.size 0 lo)==items.size)=true):=by
    intro q;rw [Bool.and_eq_true,Bool.and_eq_true] at q;have q1:((sIx items.size 0 lo:Nat):Int)=0:=eq_of_beq q.1.1;have q2:sIx items.size items.size hi-sIx items.size 0 lo=items.size:=eq_of_beq q.2;exact hw ⟨by omega,by omega⟩
  show wpAny _ _ (if (((sIx items.size 0 lo:Nat):Int)==0&&(1:Int)==1&&(sIx items.size items.size hi-sIx items.size 0 lo)==items.size)=true then _ else _) _ _ s;rw [if_neg hno,A3]
  first
    | exact wpAny_bind (m:=Builtin.Tuple.tupleExact _) (wpAny_newObj_type (wpAny_pure ⟨_,rfl,wpAny_pure h⟩) htake)
    | exact wpAny_bind (m:=Builtin.Tuple.tupleExact _) (wpAny_newObj_type (wpAny_bind (wpAny_pure (wpAny_pure ⟨_,rfl,wpAny_pure h⟩))) htake)
    | exact wpAny_bind (wpAny_bind (m:=Builtin.Tuple.tupleExact _) (wpAny_newObj_type (wpAny_pure (wpAny_pure ⟨_,rfl,wpAny_pure h⟩)) htake))
    | exact wpAny_bind (wpAny_bind (m:=Builtin.Tuple.tupleExact _) (wpAny_newObj_type (wpAny_pure ⟨_,rfl,wpAny_pure h⟩) htake))
end
end HT
namespace L2
open PySem PySem.Spec PyProof.Rows
noncomputable abbrev TO:=St->Hp->(Option Int->Hp->Prop)->Prop
noncomputable def PO (X:Cx) (e:Option Expr) (t:TO):Prop :=
  ∀ (pins:List (Addr×Obj)) (s:Shared) (σ:St) (H:Hp) (Q:Option Int->Hp->Prop),aX X pins σ H s->t σ H Q ->
    wpAny (model X.prog X.w) X.A (evalPart e X.env) (fun u s'=>∃ o H',aX X pins σ H' s'/\IsPart u o/\Q o H') X.xe s
noncomputable def DP:TO:=fun _ H Q=>Q none H
noncomputable def HX (t:TE):TO:=fun σ H Q=>t σ H fun x H1=>∃ i,x=.int i/\Q (some i) H1
theorem fP {ns:List Int}:∀ {us:List Value},bR (ns.map V.int) us->IntsAre us ns:=by
  induction ns with
  | nil=>intro us r;rw [List.map_nil] at r;cases r;exact .nil
  | cons n ns ih =>
    intro us r;rw [List.map_cons] at r;cases r with
    | cons r1 r2 =>
      obtain ⟨t,e⟩:=r1;subst e;exact .cons n t (ih r2)
section
variable {X:Cx} {e:Expr} {te:TE} {lo hi:Option Expr} {tl th:TO} {pos p2:Pos}
theorem Dp:PO X none DP:=by
  intro pins s σ H Q I h;rw [evalPart_none];exact wpAny_pure ⟨none,H,I,.none,h⟩
theorem Dq (h:PE X e te):PO X (some e) (HX te):=by
  intro pins s σ H Q I hw;rw [evalPart_some];refine du (h pins s σ H _ I hw) fun u s1 zq0=>?_
  obtain ⟨x,H1,I1,r1,q1⟩:=zq0;obtain ⟨i,rfl,q⟩:=q1;obtain ⟨t,rfl⟩:=r1;exact ⟨some i,H1,I1,.int i t,q⟩
noncomputable def B4 (X:Cx) (r:V->Option Int->Option Int->Hp->VK->Prop):Prop :=
  ∀ (pins:List (Addr×Obj)) (s:Shared) (σ:St) (H:Hp) (x:V) (v vl vu:Value) (lo hi:Option Int) (sl:Addr) (Q:VK),aX X pins σ H s->cg x v->s.heap.IsSliceOf sl vl vu .none->IsPart vl lo->IsPart vu hi->r x lo hi H Q ->
    ∃ T id,typeLookup (.type T) "__getitem__" = pure (some (.builtin id))/\s.TypeIs v T/\wpAny (model X.prog X.w) X.A (getItem v (.ref sl)) (EP X pins σ Q) X.xe s
theorem B4.or {r r':V->Option Int->Option Int->Hp->VK->Prop} (h:B4 X r) (h':B4 X r'):B4 X (fun x lo hi H Q=>r x lo hi H Q\/r' x lo hi H Q):=by
  intro pins s σ H x v vl vu lo hi sl Q I rx hs pl pu q;rcases q with q | q
  · exact h pins s σ H x v vl vu lo hi sl Q I rx hs pl pu q
  · exact h' pins s σ H x v vl vu lo hi sl Q I rx hs pl pu q
noncomputable def Kj (r:V->Option Int->Option Int->Hp->VK->Prop) (te:TE) (tl th:TO):TE:=fun σ H Q=>te σ H fun x H1=>tl σ H1 fun l H2=>th σ H2 fun u H3=>r x l u H3 Q
theorem A1 {r:V->Option Int->Option Int->Hp->VK->Prop} (hr:B4 X r) (he:PE X e te) (hl:PO X lo tl) (hu:PO X hi th):PE X (.Subscript e (.Slice lo hi none p2) pos) (Kj r te tl th):=by
  intro pins s σ H Q I h;refine Subscript_ (du (he pins s σ H _ I h) fun v s1 zq0=>?_);obtain ⟨x,H1,I1,r1,q1⟩:=zq0;refine wpAny_Slice (du (hl pins s1 σ H1 _ I1 q1) fun vl s2 ⟨l,H2,I2,pl,q2⟩=>du (hu pins s2 σ H2 _ I2 q2) fun vu s3 zq0=>?_);obtain ⟨u,H3,I3,pu,q3⟩:=zq0;rw [evalPart_none];refine wpAny_pure ?_;have I4:aX X pins σ H3 { s3 with heap:=s3.heap.push { cls:=.type "slice",data:=.fields #[vl,vu,.none] } }:=I3.kept (t':=s3.toks) fun b ob q=>Heap.get?_push_of_some _ q
  obtain ⟨T,id,hT,ht,hg⟩:=hr pins { s3 with heap:=s3.heap.push { cls:=.type "slice",data:=.fields #[vl,vu,.none] } } σ H3 x v vl vu l u s3.heap.objs.size Q I4 r1 (Heap.IsSliceOf.new ..) pl pu q3;show wpAny (model X.prog X.w) X.A (subscriptTail e (.Slice lo hi none p2) v (.ref s3.heap.objs.size)) (EP X pins σ Q) X.xe { s3 with heap:=s3.heap.push { cls:=.type "slice",data:=.fields #[vl,vu,.none] } };exact tail_any (ops:=[.ref s3.heap.objs.size,v]) ht hT hg (by with_unfolding_all rfl)
noncomputable def tS (xs:List V) (lo hi:Option Int):List V:=(xs.drop (HT.sIx xs.length 0 lo)).take (HT.sIx xs.length xs.length hi-HT.sIx xs.length 0 lo)
theorem mX (xs:List V) (lo hi:Option Int):(tS xs lo hi).length<=xs.length:=by
  unfold tS;rw [List.length_take,List.length_drop];omega
noncomputable def Jv (K:PySem.W.Frag):V->Option Int->Option Int->Hp->VK->Prop:=fun x lo hi H Q=>∃ a xs,x=.ref a/\ie K H a xs /\
  ¬ (HT.sIx xs.length 0 lo=0/\HT.sIx xs.length xs.length hi=xs.length)/\∀ p,H p=none->Q (.ref p) (cQ H p (.tup (tS xs lo hi)))
theorem FV:B4 X (Jv X.K):=by
  intro pins s σ H x v vl vu lo hi sl Q I rx hs pl pu h;obtain ⟨a,xs,rfl,hx,hw,q⟩:=h;cases rx;obtain ⟨its,r,ht,hz⟩:=I.tuple hx;have hlen:its.toArray.size=xs.length:=by rw [List.size_toArray];exact r.length.symm
  refine ⟨"tuple",_,PyProof.Rows.slot_tuple_getitem.lookup,ht.typeIs,?_⟩;refine HT.getItem_tuple_cut ht hs pl pu (by rw [hlen];exact hw) ?_ (by rw [hlen];exact hz);rw [hlen];refine ⟨.ref s.heap.objs.size,_,I.laid (t':=s.toks) (o:=.tup (tS xs lo hi)) (fun b ob q=>Heap.get?_push_of_some _ q) (Nat.le_refl _) ?_,rfl,q _ (I.hok.fresh (Nat.le_refl _))⟩;exact ⟨Nat.le_trans (mX xs lo hi) hz,_,(r.drop (HT.sIx xs.length 0 lo)).take (HT.sIx xs.length xs.length hi-HT.sIx xs.length 0 lo),gJ.new _ _⟩
noncomputable def Ej (K:PySem.W.Frag):R2:=fun x y H Q=>∃ a b xs ys,x=.ref a/\y=.ref b/\ie K H a xs/\ie K H b ys/\xs≠[]/\xs.length+ys.length<=sizeLine /\
  (ys=[]->Q (.ref a) H)/\(ys≠[]->∀ p,H p=none->Q (.ref p) (cQ H p (.tup (xs++ys))))
theorem bR.nil_iff {xs:List V} {us:List Value} (r:bR xs us):us=[]<->xs=[]:=by
  cases r with
  | nil=>simp
  | cons _ _=>simp
theorem Db:jr X (binaryOp .Add) (Ej X.K):=by
  intro pins s σ H x y v u Q I rx ry h;obtain ⟨a,b,xs,ys,rfl,rfl,ha,hb,hx,hz,q1,q2⟩:=h;cases rx;cases ry;obtain ⟨its,r1,p1,_⟩:=I.tuple ha;obtain ⟨its2,r2,p2,_⟩:=I.tuple hb;refine HT.cat_tup p1 p2 (fun z=>hx (r1.nil_iff.mp z)) (fun z=>⟨.ref a,H,I,rfl,q1 (r2.nil_iff.mp z)⟩) (fun z=>?_) (by rw [<- r1.length,<- r2.length];exact hz);refine ⟨.ref s.heap.objs.size,_,I.laid (t':=s.toks) (o:=.tup (xs++ys)) (fun b ob q=>Heap.get?_push_of_some _ q) (Nat.le_refl _) ?_,rfl,q2 (fun w=>z (r2.nil_iff.mpr w)) _ (I.hok.fresh (Nat.le_refl _))⟩;exact ⟨by rw [List.length_append];exact hz,_,r1.append r2,gJ.new _ _⟩
end
noncomputable def wW (n:Nat) (i:Int):Option Nat:=if 0<=i then (if i < n then some i.toNat else none) else if -(n:Int)<=i then some (i+n).toNat else none
noncomputable def atI {α:Type} (xs:List α) (i:Int):Option α:=(wW xs.length i).bind fun j=>xs[j]?
theorem wX {n:Nat} {i:Int} {j:Nat} (h:wW n i=some j):seqIndex? i n=some j/\j < n/\-(n:Int)<=i/\i < n:=by
  unfold wW at h;by_cases h0:0<=i
  · rw [if_pos h0] at h;by_cases h1:i < n
    · rw [if_pos h1] at h;have e:i.toNat=j:=Option.some.inj h;exact ⟨by rw [seqIndex_of h0 h1,e],by omega,by omega,h1⟩
    · rw [if_neg h1] at h;cases h
  · rw [if_neg h0] at h;by_cases h1:-(n:Int)<=i
    · rw [if_pos h1] at h;have e:(i+n).toNat=j:=Option.some.inj h;exact ⟨by rw [seqIndex_neg (by omega) h1,e],by omega,h1,by omega⟩
    · rw [if_neg h1] at h;cases h
theorem rF {α:Type} {xs:List α} {i:Int} {v:α} (h:atI xs i=some v):∃ j,seqIndex? i xs.length=some j/\xs[j]?=some v/\j < xs.length/\-(xs.length:Int)<=i/\i < xs.length:=by
  unfold atI at h;cases e:wW xs.length i with
  | none=>rw [e] at h;cases h
  | some j =>
    rw [e] at h;obtain ⟨h1,h2,h3,h4⟩:=wX e;exact ⟨j,h1,h,h2,h3,h4⟩
theorem rG {α:Type} {xs:List α} {j:Nat} {v:α} (h:xs[j]?=some v):atI xs (j:Int)=some v:=by
  have hj:j < xs.length:=(List.getElem?_eq_some_iff.mp h).1;have e:wW xs.length (j:Int)=some j:=by
    unfold wW;rw [if_pos (by omega),if_pos (by omega)];simp
  unfold atI;rw [e];exact h
noncomputable def wz (b:Expr):Prop:=∀ o i,subscripted b false o i=operate [o,i] (getItem o i)
noncomputable def B1 (X:Cx) (r:R2):Prop :=
  ∀ (value slice:Expr) (pins:List (Addr×Obj)) (s:Shared) (σ:St) (H:Hp) (x y:V) (v u:Value) (Q:VK),aX X pins σ H s->cg x v->cg y u->r x y H Q ->
    subscripted slice false v u=operate [v,u] (getItem v u)->wpAny (model X.prog X.w) X.A (subscriptTail value slice v u) (EP X pins σ Q) X.xe s
noncomputable def JP (X:Cx) (id:String) (r:V->List V->Hp->VK->Prop):Prop :=
  ∀ (pins:List (Addr×Obj)) (s:Shared) (σ:St) (H:Hp) (x:V) (xs:List V) (v:Value) (us:List Value) (Q:VK),aX X pins σ H s->cg x v->bR xs us->r x xs H Q ->
    wpAny (model X.prog X.w) X.A (call (.builtin id) (v::us)) (EP X pins σ Q) X.xe s
section
variable {X:Cx} {a b:Expr} {ta tb:TE} {pos:Pos}
theorem B1.or {r r':R2} (h:B1 X r) (h':B1 X r'):B1 X (fun x y H Q=>r x y H Q\/r' x y H Q):=by
  intro value slice pins s σ H x y v u Q I rx ry q hs;rcases q with q | q
  · exact h value slice pins s σ H x y v u Q I rx ry q hs
  · exact h' value slice pins s σ H x y v u Q I rx ry q hs
theorem Hi {r:R2} (hr:B1 X r) (ha:PE X a ta) (hb:PE X b tb) (hs:wz b):PE X (.Subscript a b pos) (HW r ta tb):=by
  intro pins s σ H Q I h;exact Subscript_ (EL ha hb I h fun v u s2 x y H2 I2 rx ry q=>hr a b pins s2 σ H2 x y v u Q I2 rx ry q (hs _ _))
noncomputable def Hu (K:PySem.W.Frag):R2:=fun x y H Q=>∃ p xs i v,x=.ref p/\y=.int i/\nQ K H p xs/\atI xs i=some v/\Q v H
noncomputable def Hw (K:PySem.W.Frag):R2:=fun x y H Q=>∃ p xs i v,x=.ref p/\y=.int i/\ie K H p xs/\atI xs i=some v/\Q v H
noncomputable def Hv:R2:=fun x y H Q=>∃ z i c,x=.str z/\y=.int i/\z.length<=sizeLine/\atI z.cps.toList i=some c/\Q (.str ⟨#[c]⟩) H
theorem CP:B1 X (Hu X.K):=by
  intro value slice pins s σ H x y v u Q I rx ry h hs;obtain ⟨p,xs,i,z,rfl,rfl,hq,he,q⟩:=h;cases rx;obtain ⟨t,rfl⟩:=ry;obtain ⟨its,r,pl,hz⟩:=I.list hq;obtain ⟨j,h1,h2,h3,h4,h5⟩:=rF he;obtain ⟨w,ew,rw'⟩:=r.get h2;have hl:=r.length;have hn:=mI;have fin:EP X pins σ Q w s:=⟨z,H,I,rw',q⟩
  by_cases h0:0<=i
  · have hj:i.toNat=j:=by
      rw [seqIndex_of h0 h5] at h1;exact Option.some.inj h1
    exact item_listR pl.isList h0 (by omega) (by rw [hj];simpa using ew) fin hs
  · have hj:(i+(its.toArray.size:Int)).toNat=j:=by
      rw [seqIndex_neg (by omega) h4] at h1;rw [List.size_toArray,<- hl];exact Option.some.inj h1
    exact subscriptTail_builtinR (x:=w) pl.isList.typeIs slot_list_getitem.lookup
      (wpAny_getItem_list_neg (Q:=fun r s'=>r=w/\EP X pins σ Q r s') pl.isList (by omega) (by rw [List.size_toArray] <;> omega) (by omega) (by rw [hj];simpa using ew) ⟨rfl,fin⟩) hs
theorem E9:B1 X (Hw X.K):=by
  intro value slice pins s σ H x y v u Q I rx ry h hs;obtain ⟨p,xs,i,z,rfl,rfl,hq,he,q⟩:=h;cases rx;obtain ⟨t,rfl⟩:=ry;obtain ⟨its,r,pl,hz⟩:=I.tuple hq;obtain ⟨j,h1,h2,h3,h4,h5⟩:=rF he;obtain ⟨w,ew,rw'⟩:=r.get h2;have hl:=r.length;have hn:=mI;have fin:EP X pins σ Q w s:=⟨z,H,I,rw',q⟩
  exact subscriptTail_builtinR (x:=w) pl.typeIs slot_tuple_getitem.lookup
    (getItem_tuple (j:=j) (Q:=fun r s'=>r=w/\EP X pins σ Q r s') pl (by omega) (by omega) (by rw [List.size_toArray,<- hl];exact h1) (by simpa using ew) ⟨rfl,fin⟩) hs
theorem E8:B1 X Hv:=by
  intro value slice pins s σ H x y v u Q I rx ry h hs;obtain ⟨z,i,c,rfl,rfl,hz,he,q⟩:=h;obtain ⟨t,rfl⟩:=rx;obtain ⟨t',rfl⟩:=ry;obtain ⟨j,h1,h2,h3,h4,h5⟩:=rF he;have hl:z.cps.toList.length=z.length:=by simp [Str.length]
  rw [hl] at h1 h4 h5;have hn:=mI;exact tail_any (typeIs_str s z t) slot_str_getitem.lookup (getItem_str (c:=c) (by
    have e1:decide (i < -(2 ^ 63:Int))=false:=decide_eq_false (by omega);have e2:decide (i>=2 ^ 63)=false:=decide_eq_false (by omega);rw [e1,e2,Bool.or_false]) (by rw [h1];simpa using h2) ⟨.str ⟨#[c]⟩,H,I.tok _,⟨_,rfl⟩,q⟩) hs
theorem vK (its:List Value) (n j:Nat) (u:Value):Obj.mapSeq (·.setIfInBounds j u) { cls:=.type "list",data:=.seq its.toArray n }={ cls:=.type "list",data:=.seq (its.set j u).toArray n }:=by
  simp [Obj.mapSeq]
theorem aX.lst {pins:List (Addr×Obj)} {σ:St} {H:Hp} {s:Shared} {p:Addr} {xs:List V} (I:aX X pins σ H s) (h:H p=some (.lst xs)) :
    ∃ (its:List Value) (n:Nat),bR xs its/\s.heap.get? p=some { cls:=.type "list",data:=.seq its.toArray n }/\xs.length<=sizeLine:=by
  obtain ⟨z,its,n,r,e⟩:=I.hok p _ h;exact ⟨its,n,r,e,z⟩
theorem aX.lstUpd {pins:List (Addr×Obj)} {σ:St} {H:Hp} {s:Shared} {p:Addr} {xs ys:List V} {its its':List Value} {n n':Nat} {f:Obj->Obj} (I:aX X pins σ H s) (h:H p=some (.lst xs))
    (ho:s.heap.get? p=some { cls:=.type "list",data:=.seq its.toArray n }) (hf:f { cls:=.type "list",data:=.seq its.toArray n }={ cls:=.type "list",data:=.seq its'.toArray n' }) (r:bR ys its') (hz:ys.length<=sizeLine) (t:Nat) :
    aX X pins σ (cQ H p (.lst ys)) { s with heap:=s.heap.update p f,toks:=t }:=by
  have e:(s.heap.update p f).get? p=some { cls:=.type "list",data:=.seq its'.toArray n' }:=by
    rw [Heap.get?_update_self f ho (by rw [hf] <;> rfl),hf]
  refine I.write (x:=p) (e:=p) (by rw [h];trivial) (.inl rfl) (fun b u hb q=>(Heap.get?_update_other _ _ (Ne.symm hb)).trans q) ⟨_,e⟩ ?_;exact ⟨hz,its',n',r,e⟩
noncomputable def Hx:V->V->V->Hp->(Hp->Prop)->Prop:=fun o i v H Q=>∃ p xs k j,o=.ref p/\i=.int k/\H p=some (.lst xs)/\wW xs.length k=some j/\Q (cQ H p (.lst (xs.set j v)))
theorem Br:Gw X Hx:=by
  intro pins s σ H o i v ov iv u Q I ro ri rv h;obtain ⟨p,xs,k,j,rfl,rfl,hp,hj,q⟩:=h;cases ro;obtain ⟨t,rfl⟩:=ri;obtain ⟨its,n,r,ho,hz⟩:=I.lst hp;obtain ⟨h1,h2,h3,h4⟩:=wX hj;have hl:=r.length;have hn:=mI;have I':aX X pins σ (cQ H p (.lst (xs.set j v))) { s with heap:=s.heap.update p (Obj.mapSeq (·.setIfInBounds j u)) } :=
    I.lstUpd hp ho (vK its n j u) (r.set rv j) (by rw [List.length_set];exact hz) s.toks
  by_cases h0:0<=k
  · have hk:k.toNat=j:=by
      rw [seqIndex_of h0 h4] at h1;exact Option.some.inj h1
    exact PySem.W.ki_setAt ho h0 (by omega) (by rw [List.size_toArray,<- hl];exact h4) (by rw [hk];exact ⟨_,I',q⟩)
  · have hk:(k+(its.toArray.size:Int)).toNat=j:=by
      rw [seqIndex_neg (by omega) h3] at h1;rw [List.size_toArray,<- hl];exact Option.some.inj h1
    exact PySem.W.ki_setBack ho (by omega) (by rw [List.size_toArray,<- hl];exact h3) (by omega) (by rw [hk];exact ⟨_,I',q⟩)
theorem sC (lo hi:Option Int) (n:Nat):(sliceBounds lo hi none n).1=((HT.sIx n 0 lo:Nat):Int)/\(sliceBounds lo hi none n).2.1=((HT.sIx n n hi:Nat):Int)/\(sliceBounds lo hi none n).2.2=1:=by
  refine ⟨?_,?_,rfl⟩
  · cases lo with
    | none=>simp [sliceBounds,HT.sIx]
    | some i =>
      simp only [sliceBounds,HT.sIx,Option.getD_none,show (1:Int) > 0 by decide,if_true];by_cases h:i < 0
      · simp only [h,if_true] <;> omega
      · simp only [h,if_false] <;> omega
  · cases hi with
    | none=>simp [sliceBounds,HT.sIx]
    | some i =>
      simp only [sliceBounds,HT.sIx,Option.getD_none,show (1:Int) > 0 by decide,if_true];by_cases h:i < 0
      · simp only [h,if_true] <;> omega
      · simp only [h,if_false] <;> omega
theorem qc (its:List Value) (lo hi:Option Int):slicePick its.toArray lo hi none=((its.drop (HT.sIx its.length 0 lo)).take (HT.sIx its.length its.length hi-HT.sIx its.length 0 lo)).toArray:=by
  obtain ⟨h1,h2,h3⟩:=sC lo hi its.toArray.size;unfold slicePick;rw [h1,h2,h3];simp only [sliceRange_one,pick_run,List.size_toArray] <;> rfl
noncomputable def Ju (K:PySem.W.Frag):V->Option Int->Option Int->Hp->VK->Prop:=fun x lo hi H Q=>∃ a xs,x=.ref a/\nQ K H a xs/\∀ p,H p=none->Q (.ref p) (cQ H p (.lst (tS xs lo hi)))
theorem DH:B4 X (Ju X.K):=by
  intro pins s σ H x v vl vu lo hi sl Q I rx hs pl pu h;obtain ⟨a,xs,rfl,hx,q⟩:=h;cases rx;obtain ⟨its,r,ht,hz⟩:=I.list hx;have hlen:=r.length;refine ⟨"list",_,slot_list_getitem.lookup,ht.isList.typeIs,?_⟩;refine wpAny_getItem_list_slice ht.isList hs pl pu .none (by simp) ?_ (by rw [List.size_toArray] <;> omega);rw [qc,<- hlen];refine ⟨.ref s.heap.objs.size,_,I.laid (t':=s.toks) (o:=.lst (tS xs lo hi)) (fun b ob q=>Heap.get?_push_of_some _ q) (Nat.le_refl _) ?_,rfl,q _ (I.hok.fresh (Nat.le_refl _))⟩;exact ⟨Nat.le_trans (mX xs lo hi) hz,_,0,(r.drop (HT.sIx xs.length 0 lo)).take (HT.sIx xs.length xs.length hi-HT.sIx xs.length 0 lo),Heap.get?_push_size _ rfl⟩
theorem rM:dX X (.builtin "len") (fun xs H Q=>∃ p ys,xs=[.ref p]/\(nQ X.K H p ys\/ie X.K H p ys)/\Q (.int ys.length) H):=by
  intro pins s σ H xs us Q I r h;obtain ⟨p,ys,rfl,hq,q⟩:=h;obtain ⟨u,rfl,rx⟩:=gu r;cases rx;have hn:=mI;rcases hq with hq | hq
  · obtain ⟨its,r',pl,hz⟩:=I.list hq;have hlen:=r'.length;exact Calls.call_len_list pl.isList (by simp only [List.size_toArray] <;> omega) ⟨.int ys.length,H,I.tok _,⟨s.toks+1,by rw [List.size_toArray,hlen]⟩,q⟩
  · obtain ⟨its,r',pl,hz⟩:=I.tuple hq;have hlen:=r'.length;exact len_tuple pl (by simp only [List.size_toArray] <;> omega) ⟨.int ys.length,H,I.tok _,⟨s.toks+1,by rw [List.size_toArray,hlen]⟩,q⟩
theorem rN:dX X (.builtin "len") (fun xs H Q=>∃ z,xs=[.str z]/\z.length<=sizeLine/\Q (.int z.length) H):=by
  intro pins s σ H xs us Q I r h;obtain ⟨z,rfl,hz,q⟩:=h;obtain ⟨u,rfl,t,rfl⟩:=gu r;have hn:=mI;exact len_str (by omega) ⟨.int z.length,H,I.tok _,⟨_,rfl⟩,q⟩
theorem dX.or {f:Value} {r r':List V->Hp->VK->Prop} (h:dX X f r) (h':dX X f r'):dX X f (fun xs H Q=>r xs H Q\/r' xs H Q):=by
  intro pins s σ H xs us Q I rs q;rcases q with q | q
  · exact h pins s σ H xs us Q I rs q
  · exact h' pins s σ H xs us Q I rs q
theorem rO:dX X (.type "list") (fun xs H Q=>∃ p ys,xs=[.ref p]/\(nQ X.K H p ys\/ie X.K H p ys)/\∀ l,H l=none->Q (.ref l) (cQ H l (.lst ys))):=by
  intro pins s σ H xs us Q I r h;obtain ⟨p,ys,rfl,hq,q⟩:=h;obtain ⟨u,rfl,rx⟩:=gu r;cases rx;have fin:∀ (its:List Value),bR ys its->ys.length<=sizeLine->∀ (h':Heap) (c':Nat),(∀ b o',s.heap.get? b=some o'->h'.get? b=some o') ->
      h'.get? s.heap.objs.size=some { cls:=.type "list",dict:=none,data:=.seq its.toArray c',slots:=#[] }->EP X pins σ Q (.ref s.heap.objs.size) { s with heap:=h' }:=fun its r' hz h' c' kp e =>
    ⟨.ref s.heap.objs.size,_,I.laid (t':=s.toks) kp (Nat.le_refl _) (show cm X.prog X.w _ h' _ (.lst ys) from ⟨hz,its,c',r',e⟩),rfl,q _ (I.hok.fresh (Nat.le_refl _))⟩
  rcases hq with hq | hq
  · obtain ⟨its,r',pl,hz⟩:=I.list hq;have hlen:=r'.length;obtain ⟨o,ho,hc,n,hd⟩:=pl.isList;exact call_list_seq p (.inl rfl) ho hc hd (fun h' c' kp e=>fin its r' hz h' c' kp e) (by simp only [List.size_toArray] <;> omega)
  · obtain ⟨its,r',pl,hz⟩:=I.tuple hq;have hlen:=r'.length;obtain ⟨o,ho,hc,n,hd⟩:=pl;exact call_list_seq p (.inr rfl) ho hc hd (fun h' c' kp e=>fin its r' hz h' c' kp e) (by simp only [List.size_toArray] <;> omega)
theorem pX:dX X (.type "tuple") (fun xs H Q=>∃ p ys,xs=[.ref p]/\((nQ X.K H p ys/\∀ l,H l=none->Q (.ref l) (cQ H l (.tup ys)))\/(ie X.K H p ys/\Q (.ref p) H))):=by
  intro pins s σ H xs us Q I r h;obtain ⟨p,ys,rfl,h⟩:=h;obtain ⟨u,rfl,rx⟩:=gu r;cases rx;rcases h with ⟨hq,q⟩ | ⟨hq,q⟩
  · obtain ⟨its,r',pl,hz⟩:=I.list hq;have hlen:=r'.length;refine call_tuple_list pl.isList (fun h' kp=>?_) (by simp only [List.size_toArray] <;> omega);have I1:aX X pins σ H { s with heap:=h' }:=I.kept (t':=s.toks) kp;have I2:aX X pins σ (cQ H h'.objs.size (.tup ys)) { s with heap:=h'.push { cls:=.type "tuple",data:=.seq its.toArray } } :=
      I1.laid (t':=s.toks) (fun b o e=>Heap.get?_push_of_some _ e) (Nat.le_refl _) (show cm X.prog X.w _ _ _ (.tup ys) from ⟨hz,its,r',gJ.new _ _⟩)
    exact ⟨.ref h'.objs.size,_,I2,rfl,q _ (I1.hok.fresh (Nat.le_refl _))⟩
  · obtain ⟨its,r',pl,hz⟩:=I.tuple hq;exact call_tuple_same pl ⟨.ref p,H,I,rfl,q⟩
noncomputable def JZ (K:PySem.W.Frag) (T:String) (x:V) (H:Hp):Prop:=match x with
  | .str _=>T = "str"
  | .int _=>T = "int"
  | .ref p=>(T = "list" /\ ∃ xs,nQ K H p xs)\/(T = "tuple" /\ ((∃ o,K.lookup p=some o/\o.cls=.type "tuple" /\ o.dict=none)\/∃ xs,H p=some (.tup xs))) \/
      (T = "dict" /\ ((∃ kvs,H p=some (.dK kvs))\/∃ kvs,H p=some (.dT kvs)))\/(T = "set" /\ ∃ S n,H p=some (.set S n))
  | _=>False
theorem F9 {pins:List (Addr×Obj)} {σ:St} {H:Hp} {s:Shared} {T:String} {x:V} {v:Value} (I:aX X pins σ H s) (r:cg x v) (ty:JZ X.K T x H) :
    s.TypeIs v T/\∀ a,v=.ref a->∃ ob,s.heap.get? a=some ob/\ob.dict=none:=by
  cases x with
  | str z =>
    obtain ⟨t,rfl⟩:=r;cases (show T = "str" from ty);exact ⟨typeIs_str s z t,fun _ e=>nomatch e⟩
  | int i =>
    obtain ⟨t,rfl⟩:=r;cases (show T = "int" from ty);exact ⟨typeIs_int s i t,fun _ e=>nomatch e⟩
  | ref p =>
    cases r;rcases ty with ⟨rfl,xs,hq⟩ | ⟨rfl,⟨o,hk,hc,hd⟩ | ⟨xs,hk⟩⟩ | ⟨rfl,hk⟩ | ⟨rfl,S,n,hk⟩
    · obtain ⟨its,_,pl,_⟩:=I.list hq;refine ⟨pl.isList.typeIs,fun a e=>?_⟩;cases e;obtain ⟨o,n,e,c,hd,_⟩:=pl;exact ⟨o,e,hd⟩
    · refine ⟨⟨o,I.kIn p o hk,hc⟩,fun a e=>?_⟩;cases e;exact ⟨o,I.kIn _ o hk,hd⟩
    · obtain ⟨_,_,_,o,e1,e2,_,e3⟩:=(show cm X.prog X.w H s.heap p (.tup xs) from I.hok p _ hk)
      refine ⟨⟨o,e1,e2⟩,fun a e=>?_⟩;cases e;exact ⟨o,e1,e3⟩
    · have z:∃ o,s.heap.get? p=some o/\o.ExactDict:=by
        rcases hk with ⟨kvs,hk⟩ | ⟨kvs,hk⟩
        · obtain ⟨_,_,_,_,o,_,_,e,ex,_⟩:=I.hok p _ hk;exact ⟨o,e,ex⟩
        · obtain ⟨_,_,_,_,o,_,_,e,ex,_⟩:=I.hok p _ hk;exact ⟨o,e,ex⟩
      obtain ⟨o,e,ex⟩:=z;refine ⟨⟨o,e,ex.1⟩,fun a e2=>?_⟩;cases e2;exact ⟨o,e,ex.2.1⟩
    · obtain ⟨o,_,_,_,e,ex,_⟩:=I.hok p _ hk;refine ⟨⟨o,e,ex.1⟩,fun a e2=>?_⟩;cases e2;exact ⟨o,e,ex.2.1⟩
  | _=>exact False.elim ty
noncomputable def Kg (K:PySem.W.Frag) (T:String) (r:V->List V->Hp->VK->Prop) (to:TE) (t:TA):TE:=fun σ H Q=>to σ H fun x H1=>JZ K T x H1/\t σ H1 fun xs H2=>r x xs H2 Q
variable {o e:Expr} {es:List Expr} {to:TE} {t:TA} {name:Str} {apos cpos:Pos} {T id:String} {r:V->List V->Hp->VK->Prop}
theorem Ef (pa:PlainAttrs T) (slot:Slot T name id) (hty:typeOf (.builtin id)=pure (.type "method_descriptor")) (hm:JP X id r) (ho:PE X o to) (ha:PA X (e::es) t)
    (hbase:attributeBase o name X.env (eval o X.env)=eval o X.env:=by rfl)
    (hfew:((backTo cpos (starEach (e::es) X.env)).all (fun x=>!x.1)&&(backToKw cpos (keywordEach [] X.env)).all (fun x=>x.1.isSome)
      && decide ((e::es).length+([]:List Keyword).length+(if ([]:List Keyword).isEmpty then 0 else 1) < 30))=true:=by rfl)
    (hline:(apos.endLine==cpos.line)=true:=by rfl) (hs:starEach (e::es) X.env=(false,eval e X.env)::starEach es X.env:=by rfl) (hplain:(backTo cpos (starEach es X.env)).any (·.1)=false:=by rfl) :
    PE X (.Call (.Attribute o name apos) (e::es) [] cpos) (Kg X.K T r to t):=by
  intro pins s σ H Q I h;refine wpAny_Call_method_late hbase hfew hline rfl (du (ho pins s σ H _ I h) fun v s1 zq0=>?_);obtain ⟨x,H1,I1,r1,ty,q1⟩:=zq0;obtain ⟨h1,h2⟩:=F9 I1 r1 ty;refine ⟨T,id,pa,slot,hty,h1,h2,?_⟩;have hA:=ha cpos pins s1 σ H1 _ I1 q1;rw [hs] at hA ⊢;refine Calls.callWith_builtin (by show (false||(backTo cpos (starEach es X.env)).any (·.1))=false;rw [hplain] <;> rfl) (Calls.evalArgs_plain ?_);exact du hA fun us s2 ⟨vs,H2,I2,r2,q2⟩=>hm pins s2 σ H2 x vs v us Q I2 r1 r2 q2
end
noncomputable def J6 (X:Cx) (id:String) (r:V->List V->Hp->VK->Prop):Prop :=
  ∀ (pins:List (Addr×Obj)) (s:Shared) (σ:St) (H:Hp) (x:V) (xs:List V) (v:Value) (us:List Value) (Q:VK),aX X pins σ H s->cg x v->bR xs us->r x xs H Q ->
    wpAny (model X.prog X.w) X.A (call (.builtin id) (v::us)) (EP X pins σ Q) X.xe s
theorem bR.one {x:V} {us:List Value} (h:bR [x] us):∃ u,us=[u]/\cg x u:=by
  cases h with
  | cons r t =>
    cases t;exact ⟨_,rfl,r⟩
theorem bR.reverse {xs:List V} {us:List Value} (h:bR xs us):bR xs.reverse us.reverse:=by
  induction h with
  | nil=>exact .nil
  | cons r t ih=>rw [List.reverse_cons,List.reverse_cons];exact bR.append ih (.cons r .nil)
theorem bR.rep {xs:List V} {us:List Value} (h:bR xs us):∀ k:Nat,bR (List.replicate k xs).flatten (List.replicate k us).flatten
  | 0=>.nil
  | k+1=>by
    rw [List.replicate_succ,List.replicate_succ,List.flatten_cons,List.flatten_cons];exact bR.append h (bR.rep h k)
theorem qt (its:List Value):∀ (k:Nat) (acc:List Value),
    List.foldl (fun x1 x2=>x1++x2) acc.toArray (List.replicate k its.toArray)=(acc++(List.replicate k its).flatten).toArray
  | 0,acc=>by simp
  | k+1,acc=>by
    have e:acc.toArray++its.toArray=(acc++its).toArray:=by simp
    have e2:(acc++its)++(List.replicate k its).flatten=acc++(List.replicate (k+1) its).flatten:=by
      rw [List.replicate_succ,List.flatten_cons,List.append_assoc]
    rw [<- e2,<- qt its k (acc++its),<- e,List.replicate_succ,List.foldl_cons]
section
variable {X:Cx} {pins:List (Addr×Obj)} {σ:St} {H:Hp} {s:Shared} {l b:Addr} {xs ys zs:List V}
theorem aX.lset {its its':List Value} {n:Nat} {f:Array Value->Array Value} {t':Nat} (I:aX X pins σ H s) (hH:H l=some (.lst xs))
    (e:s.heap.get? l=some { cls:=.type "list",data:=.seq its.toArray n }) (hf:f its.toArray=its'.toArray) (hv:bR ys its') (hz:ys.length<=sizeLine) :
    aX X pins σ (cQ H l (.lst ys)) { s with heap:=s.heap.update l (Obj.mapSeq f),toks:=t' }:=by
  have q:=PySem.IsL.update e f;rw [hf] at q;refine I.write (x:=l) (e:=l) (by rw [hH];exact trivial) (.inl rfl) (fun b' u hb hu=>(Heap.get?_update_other s.heap (Obj.mapSeq f) (Ne.symm hb)).trans hu) ⟨_,q⟩ ?_;exact ⟨hz,its',_,hv,q⟩
theorem aX.lnew {its:List Value} {t':Nat} (I:aX X pins σ H s) (hv:bR ys its) (hz:ys.length<=sizeLine) :
    aX X pins σ (cQ H s.heap.objs.size (.lst ys)) { s with heap:=s.heap.push { cls:=.type "list",data:=.seq its.toArray },toks:=t' } :=
  I.laid (fun _ _ q=>Heap.get?_push_of_some _ q) (Nat.le_refl _) ⟨hz,its,0,hv,Heap.get?_push_size _ rfl⟩
theorem aX.fresh (I:aX X pins σ H s):H s.heap.objs.size=none:=I.hok.fresh (Nat.le_refl _)
theorem aX.lstM (I:aX X pins σ H s) (hH:H l=some (.lst xs)):xs.length<=sizeLine/\∃ (its:List Value) (n:Nat),bR xs its/\xs.length=its.length/\s.heap.get? l=some { cls:=.type "list",data:=.seq its.toArray n }:=by
  obtain ⟨z,its,n,r,e⟩:=I.hok l _ hH;exact ⟨z,its,n,r,r.length,e⟩
end
section
variable {X:Cx}
noncomputable def Dx:V->List V->Hp->VK->Prop:=fun x vs H Q=>∃ l xs y,x=.ref l/\vs=[y]/\H l=some (.lst xs)/\xs.length < sizeLine/\Q .non (cQ H l (.lst (xs++[y])))
theorem qF:J6 X "list.append" Dx:=by
  intro pins s σ H x vs v us Q I rx rv h;obtain ⟨l,xs,y,rfl,rfl,hH,hz,q⟩:=h;cases rx;obtain ⟨u,rfl,ru⟩:=rv.one;obtain ⟨z,its,n,r,hl,e⟩:=I.lstM hH;refine call_meets F.slot_list_append ⟨_,e,rfl⟩ F.entry_list_append (F.args_list_append_2 _ _) (PySem.list_append l its.toArray n u (by rw [List.size_toArray];omega)) ⟨e,?_⟩;refine ⟨.non,_,I.lset (its':=its++[u]) hH e (by simp) (r.append (.cons ru .nil)) ?_,rfl,q⟩;rw [List.length_append,List.length_singleton];omega
theorem w4 {α:Type} (xs:List α) (k:Nat):(List.replicate k xs).flatten.length=k*xs.length:=by
  induction k with
  | zero=>simp
  | succ k ih=>rw [List.replicate_succ,List.flatten_cons,List.length_append,ih,Nat.succ_mul,Nat.add_comm]
end
end L2
namespace Att
open PySem PySem.W PySem.Calls PyProof.Rows
theorem nS {P:Params} {h:Heap}:∀ (ns:List Int) (vs:List Value),WellAll P h vs (ns.map WData.int)->IntsAre vs ns:=by
  intro ns;induction ns with
  | nil =>
    intro vs w;rw [List.map_nil] at w;cases w;exact .nil
  | cons n ns ih =>
    intro vs w;rw [List.map_cons] at w;cases w with
    | cons a b =>
      cases a;exact .cons _ _ (ih _ b)
theorem zh {l:OpenLaw} {n:Nat} (hn:l.most=some n) {P:Params} {h:Heap} {args:List WData} {vals:List Value}
    (hpre:l.row.toRowW.claim.pre args=true) (hwl:WellAll P h vals args) :
    ∃ a vs ns,vals=[Value.ref a]/\args=[WData.list (ns.map WData.int)]/\h.get? a=some { cls:=.type "list",data:=.seq vs.toArray }/\IntsAre vs ns/\ns.length<=n:=by
  have hsh:WShape.hasAll [] args [.list .int]=true:=(pre_splitW hpre).1;have hc:l.pre.holds [] { args:=args }=true:=(pre_splitW hpre).2;obtain ⟨d,r,rfl,h1,h2⟩:=hasAllW_cons hsh;obtain rfl:=hasAllW_nil h2;obtain ⟨xs,rfl,h3⟩:=hasW_list h1;obtain ⟨ns,rfl⟩:=items_int h3;have hlen:ns.length<=n:=by
    unfold OpenLaw.pre at hc;have h4:(WTm.not (.lt (.lit (.int (n:Int))) (.len (.arg 0)))).holds [] { args:=[.list (ns.map .int)] }=true:=by
      have h4:=(holds_andW hc).1;rw [hn] at h4;exact h4
    have h5:=condW_of h4 (w_not (w_lt w_lit (w_len_list (w_arg rfl))));rw [List.length_map] at h5;refine Nat.le_of_not_lt fun q=>?_
    have q':(n:Int) < ((ns.length:Nat):Int):=by omega
    first
      | (rw [decide_eq_true q'] at h5;exact absurd h5 (by decide))
      | (simp at h5;omega)
  cases hwl with
  | cons w1 w2 =>
    cases w2;cases w1 with
    | list ho hall=>exact ⟨_,_,ns,rfl,rfl,ho,nS ns _ hall,hlen⟩
theorem zb (l:OpenLaw) (args:List WData):l.row.toRowW.claim.post args (.bool true) args=true :=
  postW_of (r:=l.row.toRowW) (X:=(true==true))
    (show WShape.has [] (.bool true) .bool=true by first | rfl | decide | simp [WShape.has,WShape.arms,WShape.armsAll])
    (show (WTm.eq .res (.lit (.bool true))).value [] { args:=args,res:=some (.bool true),after:=args }=some (.bool (true==true)) from w_eq_bool (w_res rfl) w_lit) rfl
theorem attach_call {l:OpenLaw} {n:Nat} {q:Program} {loose:List Str} {XP:(Str->Option Value)->Heap->Prop} {YP:World->Heap->Prop} {d:DefRec}
    (hn:l.most=some n) (hdf:d.params.defaults=[])
    (call:∀ (w:World) (s₀ s₁:Shared) (mg mb:Str->Option Value) (fa:Addr) (o:Obj) (pm cd doc:Value) (a:Addr) (vs:List Value) (ns:List Int),
      Ground q loose [] XP w s₀ mg mb s₁.heap->YP w s₁.heap ->
      s₁.heap.get? fa=some o->o.data=.func (docDef d.name d.params d.body d.scope pm cd doc)->s₁.heap.CodeRec cd d.name->mg d.name=some (.ref fa) ->
      s₁.heap.get? a=some { cls:=.type "list",data:=.seq vs.toArray }->IntsAre vs ns->ns.length<=n->s₁.gens=#[] ->
      codeAny (model l.prog w) callerA (.call (.ref fa) ⟨[.ref a],[]⟩) (fun r s'=>r=.ok (.ret (.bool true))/\OldK s₁.heap s'.heap/\s'.os=s₁.os/\AllBare s'.gens) s₁) :
    WalkO q loose XP YP l.row.toRowW d [] (fun f vs=>PySem.call f vs):=by
  intro w s₀ s₁ mg mb G Y fa o pm cd doc dV kV ho hd hcd hD hmg hg args vals as hpre hlay hrd hwl hlo;obtain rfl:dV=.none:=Dflts.none hD hdf;obtain rfl:kV=.none:=Dflts.noKw hD;obtain ⟨a,vs,ns,rfl,rfl,hobj,hints,hlen⟩:=zh hn hpre hwl;refine enter_call (codeAny_mono (call w s₀ s₁ mg mb fa o pm cd doc a vs ns G Y ho (fd_plain hd) hcd hmg hobj hints hlen hg) fun r s' hq=>?_);obtain ⟨rfl,h2,h3,h4⟩:=hq;exact ⟨.inl ⟨.bool true,.bool true,[],rfl,fun _=>rfl,.bool true,zb l _,fun _=>⟨List.Pairwise.nil,fun _ hm=>(nomatch hm)⟩⟩,h2,h3,h4⟩
end Att
namespace L2
open PySem PySem.Spec PyProof.Rows
theorem iG:∀ {vs:List Value} {ns:List Int},IntsAre vs ns->bR (ns.map V.int) vs
  | _,_,.nil=>.nil
  | _,_,.cons n t h=>.cons ⟨t,rfl⟩ (iG h)
noncomputable def Gv (H:Hp):Prop:=∀ b,H b=none\/∃ o xs,H b=some (.frz o (.lst xs))
theorem AC {P:Program} {w:World} {K:PySem.W.Frag} {mg mb:Str->Option Value} {CX:zx} {k:Nat} {fa a:Addr} {fd:FuncData} {x:Str} {sp:Sp} {s₁:Shared} {vs:List Value} {ns:List Int}
    (KX:K.In s₁.heap) (hns:s₁.heap.Ns mainGlobals mg) (hb:s₁.heap.Ns builtinsNs mb) (hbb:∀ x:Str,x ≠ "__name__" -> mb x=bootBuiltins x) (hlim:s₁.heap.NoLimit) (hg:s₁.gens=#[])
    (ha:s₁.heap.get? a=some { cls:=.type "list",data:=.seq vs.toArray }) (hi:IntsAre vs ns) (hl:ns.length<=sizeLine) (hr:fu k callerA)
    (F:∀ base:Heap,K.In base->base.Ns mainGlobals mg->bg P w K mg base CX k fa fd [x] sp) (hbind:∀ (s:Shared) (u:Value),BindsTo s fd ⟨[u],[]⟩ [(x,u)])
    (hsp:∀ H:Hp,Gv H->nQ K H a (ns.map V.int)->sp [.ref a] H (fun v _=>v=.bl true) fun _ _ _=>False)
    (hCX:∀ H e s',CX [] H s₁ (fun _ _ _=>False) e s'->False) :
    codeAny (model P w) callerA (.call (.ref fa) ⟨[.ref a],[]⟩) (fun r s'=>r=.ok (.ret (.bool true))/\OldK s₁.heap s'.heap/\s'.os=s₁.os/\AllBare s'.gens) s₁:=by
  have rv:=iG hi;have lenV:=hi.length
  -- from an abstract heap in which nothing but the script may be tracked
  have core:∀ H:Hp,Gv H->nQ K H a (ns.map V.int)->ik P w H s₁.heap->(∀ b,H b≠none->b=a)->(H a≠none->K.lookup a=none) ->
      codeAny (model P w) callerA (.call (.ref fa) ⟨[.ref a],[]⟩) (fun r s'=>r=.ok (.ret (.bool true))/\OldK s₁.heap s'.heap/\s'.os=s₁.os/\AllBare s'.gens) s₁:=by
    intro H hO hS hok hA hK;have base_of:∀ {b:Addr} {o:Obj},s₁.heap.get? b=some o->H b=none->(rX s₁.heap H).get? b=some o:=fun e n=>Ar e n
    have noA:∀ {b:Addr} {o:Obj} {es:Array DictEntry} {ep:Nat},s₁.heap.get? b=some o->o.data=.dict es ep->H b=none:=fun {b o es ep} e d=>by
      cases q:H b with
      | none=>rfl
      | some u =>
        have e':b=a:=hA b (by rw [q];simp);subst e';rw [ha] at e;cases e;have d':Data.seq vs.toArray _=Data.dict es ep:=d;cases d'
    have nsK:∀ {b:Addr} {m:Str->Option Value},s₁.heap.Ns b m->(rX s₁.heap H).Ns b m:=fun {b m} ⟨o,es,ep,e,d,r⟩=>⟨o,es,ep,base_of e (noA e d),d,r⟩
    have hKb:K.In (rX s₁.heap H):=fun b o e=>base_of (KX b o e) (by
      cases q:H b with
      | none=>rfl
      | some u =>
        have e':b=a:=hA b (by rw [q];simp);subst e';rw [hK (by rw [q];simp)] at e;cases e)
    have hM:Mod K mg (rX s₁.heap H):=⟨hKb,nsK hns,⟨mb,nsK hb,hbb⟩,let ⟨mc,h1,h2⟩:=hlim;⟨mc,nsK h1,h2⟩⟩
    have e0:uY P w K mg (rX s₁.heap H) callerA [] s₁ H:=⟨rfl,hM,fun b o e=>CY e,Nat.le_of_eq (yw _ _),trivial,fun b hb=>absurd (show b∈([]:List Addr) from hb) (by simp),hok,.of_eq hg⟩
    refine codeAny_mono ((F _ hKb (nsK hns)).run callerA [] s₁ H ⟨[.ref a],[]⟩ [.ref a] [.ref a] _ _ hr e0 (hbind s₁ (.ref a)) (.cons rfl .nil) (hsp H hO hS)) fun r s' h=>?_
    cases r with
    | error e=>exact (hCX H e s' h).elim
    | ok fl =>
      cases fl with
      | next=>exact False.elim h
      | brk=>exact False.elim h
      | cont=>exact False.elim h
      | ret u =>
        obtain ⟨v,H',os,bare,un,hok',r',q⟩:=h;have q':v=.bl true:=q;subst q';obtain rfl:u=Value.bool true:=r';refine ⟨rfl,OldK.of_keep fun b o e=>?_,os,bare⟩;cases q:H b with
        | none=>exact un.keep b o e q (by intro z;exact absurd (show b∈([]:List Addr) from z) (by simp)) (by simp)
        | some u =>
          rcases hO b with z | ⟨ob,xs,z⟩
          · rw [q] at z;cases z
          · have z2:=un.frzs b ob _ z;obtain ⟨e1,_⟩:=hok b _ z;obtain ⟨e2,_⟩:=hok' b _ z2;rw [e] at e1;cases e1;exact e2
  cases hk:K.lookup a with
  | some o =>
    -- the script is one of the module's own objects
    have e:=KX a o hk;rw [ha] at e;cases e;refine core (fun _=>none) (fun _=>.inl rfl) (.inr ⟨_,vs.toArray,_,hk,rfl,rfl,rfl,by rw [List.size_toArray,lenV];exact hl,by simpa using rv⟩) (fun b u z=>by have z':(none:Option HO)=some u:=z;cases z') (fun b z=>absurd rfl z) fun z=>absurd rfl z
  | none =>
    refine core (fun b=>if b=a then some (.frz { cls:=.type "list",data:=.seq vs.toArray } (.lst (ns.map V.int))) else none) (fun b=>?_) (.inl (.inr ⟨{ cls:=.type "list",data:=.seq vs.toArray },if_pos rfl⟩)) (fun b u z=>?_) (fun b z=>?_) fun _=>hk
    · by_cases hb:b=a
      · exact .inr ⟨_,_,if_pos hb⟩
      · exact .inl (if_neg hb)
    · by_cases hb:b=a
      · have z':=(if_pos hb).symm.trans z;cases z';subst hb;exact ⟨ha,by rw [List.length_map];exact hl,vs,_,rv,ha⟩
      · have z':=(if_neg hb).symm.trans z;cases z'
    · by_cases hb:b=a
      · exact hb
      · exact absurd (if_neg hb) z
noncomputable def CK (s:Stmt) (j:Nat):Stmt:=match s with
  | .ClassDef _ _ _ body _ _ _ _ _ _ _=>body.getD j (.Pass ⟨0,0,0,0⟩)
  | _=>.Pass ⟨0,0,0,0⟩
noncomputable def eI (s:Stmt):Arguments:=match s with
  | .FunctionDef _ a _ _ _ _ _ _ _ _=>a
  | _=>{ posonlyargs:=[],args:=[],vararg:=none,kwonlyargs:=[],kw_defaults:=[],kwarg:=none,defaults:=[] }
noncomputable def di (s:Stmt):List Stmt:=match s with
  | .FunctionDef _ _ b _ _ _ _ _ _ _=>b
  | _=>[]
noncomputable def ak (s:Stmt):Scope:=match s with
  | .FunctionDef _ _ _ _ _ _ sc _ _ _=>sc
  | _=>{ kind:=.function,names:=[],isGenerator:=false,isCoroutine:=false }
noncomputable abbrev JM:zx:=fun _ _ _ _ _ _=>False
structure gc (K:PySem.W.Frag) (x qual:Str) (st:Stmt) (f:Addr) (fd:FuncData):Prop where
  ex:∃ (oc:Value) (od:Option Addr) (kV doc pm:Value) (an:Option Addr) (cdv ct:Value) (osl:Array (Option Value)),
    fd=PySem.W.fnOf x qual (eI st) (di st) (ak st) .none kV doc pm an cdv ct/\K.lookup f=some ⟨oc,od,.func fd,osl⟩/\PySem.W.codeIn K cdv qual=true
  kp:PySem.W.keepIn K (.ref f)=true
section
variable {P:Program} {w:World} {K:PySem.W.Frag} {mg:Str->Option Value} {base:Heap}
theorem gc.ok {x qual:Str} {st:Stmt} {f:Addr} {fd:FuncData} {N ps:List Str} {k:Nat} {sp:Sp} (F:gc K x qual st f fd) (S:aY N ps (ak st)) (len:∀ vs H Q E,sp vs H Q E->vs.length=ps.length)
    (hbody:∀ (cdv:Value) (A:Around) (outer:List Env) (s:Shared) (H:Hp) (vs:List V) (Q:VK) (E:XK),fu k (A.deeper (envOfC qual (ak st) s.heap.objs.size f cdv))->sp vs H Q E ->
      ∃ t,rg (fY JM P w K mg base N qual (ak st) f cdv A outer s H E).nox (di st) t/\t { nx:=fun _ H'=>Q .non H',rt:=Q } (jn N vs) H):bg P w K mg base JM (k+1) f fd ps sp:=by
  obtain ⟨oc,od,kV,doc,pm,an,cdv,ct,osl,rfl,lk,hcd⟩:=F.ex;refine Ao lk hcd S len fun A outer s H vs Q E hr hsp=>?_
  obtain ⟨t,h,q⟩:=hbody cdv A outer s H vs Q E hr hsp;exact ⟨t,h.nox,q⟩
theorem gc.binds {x qual:Str} {st:Stmt} {f:Addr} {fd:FuncData} {ps:List Str} (F:gc K x qual st f fd)
    (h:∀ (kV doc pm:Value) (an:Option Addr) (cdv ct:Value) (us:List Value),us.length=ps.length->bindArgs (PySem.W.fnOf x qual (eI st) (di st) (ak st) .none kV doc pm an cdv ct) ⟨us,[]⟩=pure (ps.zip us)):bN K fd ps []:=by
  obtain ⟨oc,od,kV,doc,pm,an,cdv,ct,osl,rfl,lk,hcd⟩:=F.ex;exact .all (h kV doc pm an cdv ct)
theorem vB {x qual:Str} {st:Stmt} {f:Addr} {oc:Value} {od an:Option Addr} {osl:Array (Option Value)} {kV doc pm cdv ct:Value} (l:K.lookup f=some ⟨oc,od,.func (PySem.W.fnOf x qual (eI st) (di st) (ak st) .none kV doc pm an cdv ct),osl⟩)
    (c:PySem.W.codeIn K cdv qual=true) (k:PySem.W.keepIn K (.ref f)=true):gc K x qual st f (PySem.W.fnOf x qual (eI st) (di st) (ak st) .none kV doc pm an cdv ct):=⟨⟨oc,od,kV,doc,pm,an,cdv,ct,osl,rfl,l,c⟩,k⟩
end
section
variable {X:Cx}
theorem pv (i:Nat) {x:Str} {pos:Pos} (hN:X.N[i]?=some x:=by rfl) (hv:EG X.env.scope x:=by first | exact Or.inl rfl | exact Or.inr (Or.inl rfl) | exact Or.inr (Or.inr rfl)) (hd:(x==("__debug__" : Str))=false:=by decide)
    (hcd:(x==("__classdict__" : Str))=false:=by decide):PE X (.Name x pos) (HZ i):=jP hN hv hd hcd
end
noncomputable def aI (H H':Hp):Prop:=∀ b o,H b=some o->H' b=some o
theorem aI.refl (H:Hp):aI H H:=fun _ _ h=>h
theorem aI.trans {H H1 H2:Hp} (a:aI H H1) (b:aI H1 H2):aI H H2:=fun c o h=>b c o (a c o h)
theorem aI.free {H H':Hp} (e:aI H H') {l:Addr} (h:H' l=Option.none):H l=Option.none:=by
  cases q:H l with
  | none=>rfl
  | some o =>
    rw [e l o q] at h;cases h
section
variable {κ:Type} [DecidableEq κ]
noncomputable def kC (kvs:List (κ×V)) (k:κ):Option V:=(kvs.find? fun kv=>decide (kv.1=k)).map (·.2)
noncomputable def lL (kvs:List (κ×V)) (k:κ) (v:V):List (κ×V) :=
  if (kvs.any fun kv=>decide (kv.1=k))=true then kvs.map (fun kv=>if kv.1=k then (kv.1,v) else kv) else kvs++[(k,v)]
theorem pR {p:κ×V} {r:List (κ×V)} {k:κ} (e:p.1=k):kC (p::r) k=some p.2:=by simp [kC,List.find?_cons,e]
theorem pQ {p:κ×V} {r:List (κ×V)} {k:κ} (e:¬ p.1=k):kC (p::r) k=kC r k:=by simp [kC,List.find?_cons,e]
theorem uJ (k:κ):∀ kvs:List (κ×V),(kvs.any fun kv=>decide (kv.1=k))=(kC kvs k).isSome
  | []=>rfl
  | p::r=>by
    rw [List.any_cons];by_cases e:p.1=k
    · simp only [pR e,decide_eq_true e,Bool.true_or,Option.isSome_some]
    · rw [pQ e,decide_eq_false e,Bool.false_or];exact uJ k r
theorem nk (kvs:List (κ×V)) (k:κ) (v:V):(lL kvs k v).length<=kvs.length+1:=by
  unfold lL;split
  · rw [List.length_map];omega
  · rw [List.length_append,List.length_cons,List.length_nil];omega
theorem ma.isSome_eq {o:Option V} {u:Option Value} (r:ma o u):o.isSome=u.isSome:=by
  cases o with
  | none=>cases u with
    | none=>rfl
    | some _=>exact (show False from r).elim
  | some _=>cases u with
    | none=>exact (show False from r).elim
    | some _=>rfl
theorem KV.val {kvs:List (κ×V)} {vs:List (κ×Value)} (r:KV kvs vs) (k:κ):ma (kC kvs k) (valueAt vs k):=by
  unfold KV at r;induction r with
  | nil=>exact True.intro
  | @cons p q ps qs h t ih =>
    obtain ⟨h1,h2⟩:=h;by_cases e:p.1=k
    · have e':q.1=k:=h1.symm.trans e;have b:valueAt (q::qs) k=some q.2:=by simp [valueAt,List.find?_cons,e']
      rw [pR e,b];exact h2
    · have e':¬ q.1=k:=fun z=>e (h1.trans z)
      have b:valueAt (q::qs) k=valueAt qs k:=by simp [valueAt,List.find?_cons,e']
      rw [pQ e,b];exact ih
theorem KV.any {kvs:List (κ×V)} {vs:List (κ×Value)} (r:KV kvs vs) (k:κ):(kvs.any fun kv=>decide (kv.1=k))=vs.any fun kv=>decide (kv.1=k):=by
  unfold KV at r;induction r with
  | nil=>rfl
  | cons h t ih=>rw [List.any_cons,List.any_cons,ih,h.1]
theorem KV.repl {kvs:List (κ×V)} {vs:List (κ×Value)} (r:KV kvs vs) (k:κ) {y:V} {u:Value} (ry:cg y u) :
    KV (kvs.map fun kv=>if kv.1=k then (kv.1,y) else kv) (vs.map fun kv=>if kv.1=k then (kv.1,u) else kv):=by
  unfold KV at r ⊢;induction r with
  | nil=>exact .nil
  | @cons p q ps qs h t ih =>
    rw [List.map_cons,List.map_cons];refine .cons ?_ ih;obtain ⟨h1,h2⟩:=h;by_cases e:p.1=k
    · rw [if_pos e,if_pos (h1.symm.trans e)];exact ⟨h1,ry⟩
    · rw [if_neg e,if_neg (fun z=>e (h1.trans z))];exact ⟨h1,h2⟩
theorem KV.put {kvs:List (κ×V)} {vs:List (κ×Value)} (r:KV kvs vs) (k:κ) {y:V} {u:Value} (ry:cg y u):KV (lL kvs k y) (stored vs k u):=by
  unfold lL stored;rw [r.any k];by_cases e:(vs.any fun kv=>decide (kv.1=k))=true
  · rw [if_pos e,if_pos e];exact r.repl k ry
  · rw [if_neg e,if_neg e];exact Paired.snoc r ⟨rfl,ry⟩
theorem KV.keys {kvs:List (κ×V)} {vs:List (κ×Value)} (r:KV kvs vs):kvs.map (·.1)=vs.map (·.1):=by
  unfold KV at r;induction r with
  | nil=>rfl
  | cons h t ih=>rw [List.map_cons,List.map_cons,ih,h.1]
theorem KV.length {kvs:List (κ×V)} {vs:List (κ×Value)} (r:KV kvs vs):kvs.length=vs.length:=Paired.length r
end
theorem ud {P:Program} {w:World} {k:dz} {u:Value} (r:cg (kV k) u):(dH P w).is k u=true:=by
  cases k with
  | inl i=>obtain ⟨t,e⟩:=(show ∃ t,u=Value.int i t from r);subst e;exact ug P w i t
  | inr x=>obtain ⟨t,e⟩:=(show ∃ t,u=Value.str x t from r);subst e;exact uh P w x t
theorem qy {P:Program} {w:World}:∀ {ks:List dz} {us:List Value},bR (ks.map kV) us->ItemsAre (dH P w) ks us
  | [],_,r=>by rw [List.map_nil] at r;cases r;exact .nil
  | k::ks,_,r=>by
    rw [List.map_cons] at r;cases r with
    | cons h t=>exact .cons (ud h) (qy t)
noncomputable abbrev KT (H:Hp):List (List dz×V)->List (List dz×Addr×Value)->Prop:=Paired fun p q=>p.1=q.1/\H q.2.1=some (.tup (p.1.map kV))/\cg p.2 q.2.2
theorem KT.val {H:Hp} {kvs:List (List dz×V)} {xs:List (List dz×Addr×Value)} (r:KT H kvs xs) (k:List dz):ma (kC kvs k) ((atKey xs k).map (·.2)):=by
  induction r with
  | nil=>exact True.intro
  | @cons p q ps qs h t ih =>
    obtain ⟨h1,_,h2⟩:=h;by_cases e:p.1=k
    · have e':q.1=k:=h1.symm.trans e;have b:atKey (q::qs) k=some q.2:=by simp [atKey,List.find?_cons,e']
      rw [pR e,b];exact h2
    · have e':¬ q.1=k:=fun z=>e (h1.trans z)
      have b:atKey (q::qs) k=atKey qs k:=by simp [atKey,List.find?_cons,e']
      rw [pQ e,b];exact ih
theorem KT.repl {H:Hp} {kvs:List (List dz×V)} {xs:List (List dz×Addr×Value)} (r:KT H kvs xs) (k:List dz) {y:V} {u:Value} (ry:cg y u) :
    KT H (kvs.map fun kv=>if kv.1=k then (kv.1,y) else kv) (xs.map (putAt k u)):=by
  induction r with
  | nil=>exact .nil
  | @cons p q ps qs h t ih =>
    rw [List.map_cons,List.map_cons];refine .cons ?_ ih;obtain ⟨h1,h2,h3⟩:=h;unfold putAt;by_cases e:p.1=k
    · rw [if_pos e,if_pos (h1.symm.trans e)];exact ⟨h1,h2,ry⟩
    · rw [if_neg e,if_neg (fun z=>e (h1.trans z))];exact ⟨h1,h2,h3⟩
theorem KT.put {H:Hp} {kvs:List (List dz×V)} {xs:List (List dz×Addr×Value)} (r:KT H kvs xs) (k:List dz) {b:Addr} {y:V} {u:Value} (hb:H b=some (.tup (k.map kV))) (ry:cg y u) :
    KT H (lL kvs k y) (storedH xs k b u):=by
  have e:(kvs.any fun kv=>decide (kv.1=k))=(atKey xs k).isSome:=by
    rw [uJ,(r.val k).isSome_eq,Option.isSome_map]
  unfold lL storedH;rw [e];by_cases q:(atKey xs k).isSome=true
  · rw [if_pos q,if_pos q];exact r.repl k ry
  · rw [if_neg q,if_neg q];exact Paired.snoc r ⟨rfl,hb,ry⟩
theorem KT.keeps {H H':Hp} {kvs:List (List dz×V)} {xs:List (List dz×Addr×Value)} (r:KT H kvs xs) (ht:∀ b ys,H b=some (.tup ys)->H' b=some (.tup ys)):KT H' kvs xs :=
  Paired.mapP r fun _ _ z=>⟨z.1,ht _ _ z.2.1,z.2.2⟩
section
variable {P:Program} {w:World} {H:Hp} {h:Heap} {a:Addr}
theorem Em {u:HO} (ok:ik P w H h) (e:Rd H a u):cm P w H h a u:=e.ok ok
theorem oP {kvs:List (dz×V)} (ok:ik P w H h) (e:Rd H a (.dK kvs)):kvs.length<=sizeLine/\(a==sysModules)=false/\∃ vs,KV kvs vs/\h.DictOf (dH P w) a vs :=
  show cm P w H h a (.dK kvs) from Em ok e
theorem GN {kvs:List (dz×V)} (ok:ik P w H h) (e:H a=some (.dK kvs)):kvs.length<=sizeLine/\(a==sysModules)=false/\∃ vs,KV kvs vs/\h.DictOf (dH P w) a vs:=oP ok (.inl e)
theorem o9 {ks:List dz} (ok:ik P w H h) (e:H a=some (.tup (ks.map kV))):(tupleKind (dH P w)).is h ks a:=by
  obtain ⟨_,its,r,o,h1,h2,⟨n,h3⟩,_⟩:=(show cm P w H h a (.tup (ks.map kV)) from ok a _ e)
  exact ⟨o,its.toArray,n,h1,h2,h3,by simpa using qy r⟩
theorem tU {kvs:List (List dz×V)} (ok:ik P w H h) (e:Rd H a (.dT kvs)):kvs.length<=sizeLine/\(a==sysModules)=false /\
    ∃ xs,KT H kvs xs/\h.DictOfH (tupleKind (dH P w)) a xs:=by
  obtain ⟨z,y,xs,r,o,es,ep,h1,h2,h3,h4,h5⟩:=(show cm P w H h a (.dT kvs) from Em ok e)
  refine ⟨z,y,xs,r,o,es,ep,h1,h2,h3,h4,fun x hx=>?_,h5⟩;have all:∀ {l:List (List dz×V)} {m:List (List dz×Addr×Value)},KT H l m->∀ x∈m,(tupleKind (dH P w)).is h x.1 x.2.1:=by
    intro l m q;induction q with
    | nil=>intro x hx;exact nomatch hx
    | @cons p q ps qs hq t ih =>
      intro x hx;rcases List.mem_cons.mp hx with e | hx
      · subst e;exact o9 ok (by rw [<- hq.1];exact hq.2.1)
      · exact ih x hx
  exact all r x hx
theorem GP {kvs:List (List dz×V)} (ok:ik P w H h) (e:H a=some (.dT kvs)):kvs.length<=sizeLine/\(a==sysModules)=false /\
    ∃ xs,KT H kvs xs/\h.DictOfH (tupleKind (dH P w)) a xs:=tU ok (.inl e)
end
noncomputable def og (H:Hp) (a:Addr) (y:V) (r:Option V):Prop :=
  (∃ kvs k,Rd H a (.dK kvs)/\y=kV k/\r=kC kvs k)\/∃ kvs k b,Rd H a (.dT kvs)/\y=.ref b/\H b=some (.tup (k.map kV))/\r=kC kvs k
noncomputable def uQ (H:Hp) (a:Addr) (y v:V) (H':Hp):Prop :=
  (∃ kvs k,H a=some (.dK kvs)/\y=kV k/\kvs.length < sizeLine/\H'=cQ H a (.dK (lL kvs k v))) \/
  ∃ kvs k b,H a=some (.dT kvs)/\y=.ref b/\H b=some (.tup (k.map kV))/\kvs.length < sizeLine/\H'=cQ H a (.dT (lL kvs k v))
theorem og.k {H:Hp} {a:Addr} {kvs:List (dz×V)} {k:dz} (e:H a=some (.dK kvs)):og H a (kV k) (kC kvs k):=.inl ⟨kvs,k,.inl e,rfl,rfl⟩
theorem og.t {H:Hp} {a b:Addr} {kvs:List (List dz×V)} {k:List dz} (e:H a=some (.dT kvs)) (eb:H b=some (.tup (k.map kV))):og H a (.ref b) (kC kvs k):=.inr ⟨kvs,k,b,.inl e,rfl,eb,rfl⟩
theorem uQ.k {H:Hp} {a:Addr} {kvs:List (dz×V)} {k:dz} {v:V} (e:H a=some (.dK kvs)) (hl:kvs.length < sizeLine):uQ H a (kV k) v (cQ H a (.dK (lL kvs k v))):=.inl ⟨kvs,k,e,rfl,hl,rfl⟩
theorem uQ.t {H:Hp} {a b:Addr} {kvs:List (List dz×V)} {k:List dz} {v:V} (e:H a=some (.dT kvs)) (eb:H b=some (.tup (k.map kV))) (hl:kvs.length < sizeLine) :
    uQ H a (.ref b) v (cQ H a (.dT (lL kvs k v))):=.inr ⟨kvs,k,b,e,rfl,eb,hl,rfl⟩
section
variable {X:Cx} {pins:List (Addr×Obj)} {σ:St} {H:Hp} {s:Shared} {a:Addr} {y v:V} {u r:Value} {o:Option V} {A:Around} {E:Value->Shared->Prop}
theorem aX.big (I:aX X pins σ H s):sysModules < s.heap.objs.size:=by
  have h:mainGlobals < s.heap.objs.size:=(I.mod.glob.keeps I.bk).lt;exact Nat.lt_trans (by decide) h
theorem ye {Q:Value->Shared->Prop} (hu:A.units+1 < cLine) (I:aX X pins σ H s) (g:og H a y (some v)) (ry:cg y u) (h:∀ w' s',aX X pins σ H s'->cg v w'->Q w' s') :
    wpAny (model X.prog X.w) A (getItem (.ref a) u) Q E s:=by
  rcases g with ⟨kvs,k,e,ey,l⟩ | ⟨kvs,k,b,e,ey,eb,l⟩
  · subst ey;obtain ⟨z,hd,vs,rel,dd⟩:=oP I.hok e;obtain ⟨w',hw,rw'⟩:=ma.some_of (v:=v) (o:=valueAt vs k) (by rw [l];exact rel.val k);exact wpAny_getItem_of (ud ry) dd.mapOf hw (h w' _ (I.tok _) rw')
  · subst ey;cases (show u=Value.ref b from ry);obtain ⟨z,hd,xs,rel,dd⟩:=tU I.hok e;obtain ⟨w',hw,rw'⟩:=ma.some_of (v:=v) (o:=(atKey xs k).map (·.2)) (by rw [l];exact rel.val k);obtain ⟨p,hp,hp2⟩:=Option.map_eq_some_iff.mp hw;refine wpAny_getItem_heap (tupleKind_room_in1 hu) (o9 I.hok eb) dd hp ?_;rw [hp2];exact h w' _ (I.tok _) rw'
theorem Je {Q:Value->Shared->Prop} (hu:A.units+1 < cLine) (I:aX X pins σ H s) (g:og H a y o) (ry:cg y u) (h:∀ s',aX X pins σ H s'->Q (.bool o.isSome) s') :
    wpAny (model X.prog X.w) A (compareOp .In u (.ref a)) Q E s:=by
  rcases g with ⟨kvs,k,e,ey,l⟩ | ⟨kvs,k,b,e,ey,eb,l⟩
  · subst ey;obtain ⟨z,hd,vs,rel,dd⟩:=oP I.hok e;refine wpAny_in_of (ud ry) hd dd.mapOf ?_;rw [<- (rel.val k).isSome_eq,<- l];exact h _ (I.tok _)
  · subst ey;cases (show u=Value.ref b from ry);obtain ⟨z,hd,xs,rel,dd⟩:=tU I.hok e;refine wpAny_in_heap (tupleKind_room_in1 hu) (o9 I.hok eb) hd dd ?_;have q:=(rel.val k).isSome_eq;rw [Option.isSome_map] at q;rw [<- q,<- l];exact h _ (I.tok _)
theorem Cq {Q:Value->Shared->Prop} (hu:A.units+1 < cLine) (I:aX X pins σ H s) (g:og H a y o) (ry:cg y u) (h:∀ s',aX X pins σ H s'->Q (.bool (!o.isSome)) s') :
    wpAny (model X.prog X.w) A (compareOp .NotIn u (.ref a)) Q E s:=by
  rcases g with ⟨kvs,k,e,ey,l⟩ | ⟨kvs,k,b,e,ey,eb,l⟩
  · subst ey;obtain ⟨z,hd,vs,rel,dd⟩:=oP I.hok e;refine wpAny_notIn_of (ud ry) hd dd.mapOf ?_;rw [<- (rel.val k).isSome_eq,<- l];exact h _ (I.tok _)
  · subst ey;cases (show u=Value.ref b from ry);obtain ⟨z,hd,xs,rel,dd⟩:=tU I.hok e;refine wpAny_notIn_heap (tupleKind_room_in1 hu) (o9 I.hok eb) hd dd ?_;have q:=(rel.val k).isSome_eq;rw [Option.isSome_map] at q;rw [<- q,<- l];exact h _ (I.tok _)
theorem wK {h':Heap} {t':Nat} {ob:HO} (I:aX X pins σ H s) (mu:Gu (H a)) (hs:Heap.SameBut a s.heap h') (he:∃ q,h'.get? a=some q) (new:cm X.prog X.w (cQ H a ob) h' a ob) :
    aX X pins σ (cQ H a ob) { s with heap:=h',toks:=t' } :=
  I.write (x:=a) (e:=a) mu (.inl rfl) (fun b q hb z=>(hs.2 b hb).trans z) he new
theorem EU {P:Program} {w:World} {H':Hp} {h':Heap} {kvs:List (dz×V)} {vs:List (dz×Value)} (z:kvs.length<=sizeLine) (hd:(a==sysModules)=false) (rel:KV kvs vs) (dd:h'.DictOf (dH P w) a vs) :
    cm P w H' h' a (.dK kvs):=⟨z,hd,vs,rel,dd⟩
theorem yf {H':Hp} {Q:Unit->Shared->Prop} (hu:A.units+1 < cLine) (I:aX X pins σ H s) (g:uQ H a y v H') (ry:cg y u) (rv:cg v r) (h:∀ s',aX X pins σ H' s'->Q () s') :
    wpAny (model X.prog X.w) A (setItem (.ref a) u r) Q E s:=by
  rcases g with ⟨kvs,k,e,ey,l,eH⟩ | ⟨kvs,k,b,e,ey,eb,l,eH⟩
  · subst ey eH;obtain ⟨z,hd,vs,rel,dd⟩:=GN I.hok e;have hz:vs.length<=sizeLine:=by rw [<- rel.length];exact z
    have hl:(lL kvs k v).length<=sizeLine:=by have:=nk kvs k v;omega
    refine wpAny_setItem_pairs (hsz:=hz) (ud ry) dd fun h' dd' hs=>h _ ?_
    have he:∃ q,h'.get? a=some q:=let ⟨q,_,_,hq,_⟩:=dd';⟨q,hq⟩
    exact wK I (by rw [e];exact True.intro) hs he (EU hl hd (rel.put k rv) dd')
  · subst ey eH;cases (show u=Value.ref b from ry);obtain ⟨z,hd,xs,rel,dd⟩:=GP I.hok e;have hz:xs.length<=sizeLine:=by rw [<- Paired.length rel];exact z
    have hl:(lL kvs k v).length<=sizeLine:=by have:=nk kvs k v;omega
    refine wpAny_setItem_heap (hsz:=hz) (tupleKind_room_in1 hu) (o9 I.hok eb) dd fun h' dd' hs=>h _ ?_
    obtain ⟨q,es,ep,hq,h2,h3,h4,_,h5⟩:=dd';refine wK I (by rw [e];exact True.intro) hs ⟨q,hq⟩ ⟨hl,hd,_,(rel.put k eb rv).keeps fun c ys ec=>?_,q,es,ep,hq,h2,h3,h4,h5⟩;rw [aB (Hb ec e (fun z=>nomatch z))];exact ec
end
section
variable {X:Cx} {pins:List (Addr×Obj)} {σ:St} {H:Hp} {s:Shared} {a:Addr} {kvs:List (dz×V)} {k:dz} {u:Value} {A:Around} {E:Value->Shared->Prop}
theorem GL {Q:Value->Shared->Prop} (I:aX X pins σ H s) (e:Rd H a (.dK kvs)) (h:∀ t s',aX X pins σ H s'->Q (.int kvs.length t) s'):wpAny (model X.prog X.w) A (call (.builtin "len") [.ref a]) Q E s:=by
  obtain ⟨z,hd,vs,rel,dd⟩:=oP I.hok e;refine call_len_dict hd dd (by rw [<- rel.length];rw [sizeLine_eq] at z;omega) ?_;rw [<- rel.length];exact h _ _ (I.tok _)
end
theorem tT {X:Cx} {pins:List (Addr×Obj)} {σ:St} {H:Hp} {s:Shared} {a:Addr} {y:V} {o:Option V} (I:aX X pins σ H s) (g:og H a y o):s.TypeIs (.ref a) "dict" := by
  rcases g with ⟨kvs,k,e,_,_⟩ | ⟨kvs,k,b,e,_,_,_⟩
  · obtain ⟨_,_,vs,_,dd⟩:=oP I.hok e;exact dd.typeIs
  · obtain ⟨_,_,xs,_,dd⟩:=tU I.hok e;exact dd.typeIs
noncomputable def HC (td ty tv:TE):TS:=fun D σ H=>tv σ H fun v H1=>td σ H1 fun x H2=>ty σ H2 fun y H3=>∃ a H4,x=.ref a/\uQ H3 a y v H4/\D.nx σ H4
section
variable {X:Cx} {o i e value:Expr} {pos pos' tpos:Pos} {td ty tv:TE}
theorem Ds (hu:X.A.units+1 < cLine) (ho:PE X o td) (hi:PE X i ty) (hv:PE X value tv) (hs:swapsWith value (some (.Subscript o i pos')) pos.line X.env=pure false) :
    PS X (.Assign [.Subscript o i pos'] value pos) (HC td ty tv):=by
  intro pins s σ H D I h;refine wpAny_Assign_Subscript (du (hv pins s σ H _ I h) fun r s1 ⟨v,H1,I1,rv,q1⟩=>du (ho pins s1 σ H1 _ I1 q1) fun u s2 ⟨x,H2,I2,rx,q2⟩=>du (hi pins s2 σ H2 _ I2 q2) fun iv s3 zq0=>?_) hs;obtain ⟨y,H3,I3,ry,a,H4,ex,g,q3⟩:=zq0;subst ex;obtain rfl:u=Value.ref a:=rx;exact yf hu I3 g ry rv fun s4 I4=>⟨σ,H4,I4,q3⟩
end
theorem Ah {P:Program} {w:World} {H:Hp} (h:Heap) (hb:sysModules < h.objs.size):cm P w H (h.push { cls:=.type "dict",data:=.dict #[] }) h.objs.size (.dK []) :=
  ⟨Nat.zero_le _,beq_eq_false_iff_ne.mpr (Ne.symm (Nat.ne_of_lt hb)),[],.nil,Heap.DictOf.new h⟩
noncomputable def F5:TE:=fun _ H Q=>∀ p,H p=none->Q (.ref p) (cQ H p (.dK []))
section
variable {X:Cx} {pos:Pos}
theorem AZ:PE X (.Dict [] [] pos) F5:=fun pins s σ H Q I h =>
  wpAny_Dict_empty ⟨.ref s.heap.objs.size,_,I.laid (a:=s.heap.objs.size) (o:=.dK []) (t':=s.toks) (fun _ _ q=>Heap.get?_push_of_some _ q) (Nat.le_refl _) (Ah s.heap I.big),rfl,h _ (I.hok.fresh (Nat.le_refl _))⟩
end
end L2
set_option maxHeartbeats 4000000
set_option genInjectivity true
namespace D2
open PySem PySem.Spec PyProof.Rows L2
theorem jM {α:Type} {n:Nat} {us:List α} (h:us.length=n+1):∃ a r,us=a::r/\r.length=n:=by
  cases us with
  | nil=>cases h
  | cons a r=>exact ⟨a,r,rfl,Nat.succ.inj h⟩
noncomputable def tf (base:Heap) (l:List Env) (e:Addr) (cls a0:Value) (h:Heap):Prop:=base.StaysIn h/\base.get? e=none/\h.FunFrames base l/\∃ fl,h.TracedAtW base e cls a0 fl
theorem tf.of {base h:Heap} {l:List Env} {e:Addr} {cls a0:Value} (x:Heap.FlyingW base l e cls a0 h):tf base l e cls a0 h:=⟨x.1,x.2.1,x.2.2.1,.none,x.2.2.2⟩
section
variable {M:Model} {A:Around} {E:Value->Shared->Prop} {s:Shared} {base:Heap} {l:List Env} {env:Env} {outer:List Env} {L e:Addr} {cls a0:Value} {Q:Unit->Shared->Prop}
theorem DU {h:Heap}:h.UpToSlots h:=fun b o hb _=>⟨o.slots,hb⟩
theorem uI (hfr:A.frames=some (env::outer)) (hf:env.frame=some L) (t:tf base (env::outer) e cls a0 s.heap)
    (hQ:∀ h',tf base (env::outer) e cls a0 h'->s.heap.UpToSlots h'->Q () { s with heap:=h' }):wpAny M A (noteFrame (.ref e) env) Q E s:=by
  have t':=t;obtain ⟨hkb,hen,hl,fl,oe,vs,T,oT,ts,he,⟨hcls,h0⟩,hd,h1,hnT,hTe,hT,hdT,h3⟩:=t;subst hcls;unfold noteFrame;simp only [hf];refine wpAny_bind (wpAny_field he hd h1 ?_);rw [if_pos (show (Value.ref T != Value.none)=true from by simp)];refine wpAny_bind (wpAny_field hT hdT h3 ?_);by_cases hfl:(fl==rawInt L)=true
  · rw [if_pos hfl];exact wpAny_pure (hQ s.heap t' DU)
  · rw [if_neg hfl];refine wpAny_bind (wpAny_setField hT hdT (Array.getElem?_eq_some_iff.mp h3).1 ?_);have other:∀ b,b≠T->(s.heap.update T (Obj.mapFields (·.setIfInBounds 3 Value.none))).get? b=s.heap.get? b:=fun b hb=>Heap.get?_update_other _ _ (Ne.symm hb)
    have noRecord:∀ b o,s.heap.get? b=some o->(∀ vs,o.data≠.fields vs)->b≠T:=fun b o hb hnf q=>by
      rw [q,hT] at hb;injection hb with hb;subst hb;exact hnf ts hdT
    refine wpAny_entryW hfr (hl.of_keeps fun b o hb hnf=>⟨o,(other b (noRecord b o hb hnf)).trans hb,rfl⟩) hf ((other e (Ne.symm hTe)).trans he)
      (fun b o hbo=>(other b fun q=>by rw [q,hnT] at hbo;cases hbo).trans (hkb b o hbo)) hen hd (Array.getElem?_eq_some_iff.mp h1).1 h0
      fun h' ⟨x1,x2,x3,x4⟩=>hQ h' ⟨x1,hen,x2,_,x3⟩ fun b o hb hnf=>x4 b o ((other b (noRecord b o hb hnf)).trans hb) hnf
theorem wj (f:Option Addr) (t:tf base l e cls a0 s.heap) (hQ:∀ h',tf base l e cls a0 h'->s.heap.UpToSlots h'->Q () { s with heap:=h' }):wpAny M A (setFlight (.ref e) f) Q E s:=by
  obtain ⟨hkb,hen,hl,fl,oe,vs,T,oT,ts,he,hcls,hd,h1,hnT,hTe,hT,hdT,h3⟩:=t;have hsz3:3 < ts.size:=(Array.getElem?_eq_some_iff.mp h3).1;have other:∀ b,b≠T->(s.heap.update T (Obj.mapFields (·.setIfInBounds 3 (f.elim Value.none fun f=>rawInt f)))).get? b=s.heap.get? b :=
    fun b hb=>Heap.get?_update_other _ _ (Ne.symm hb)
  have noRecord:∀ b o,s.heap.get? b=some o->(∀ vs,o.data≠.fields vs)->b≠T:=fun b o hb hnf q=>by
    rw [q,hT] at hb;injection hb with hb;subst hb;exact hnf ts hdT
  unfold setFlight;refine wpAny_bind (wpAny_field he hd h1 ?_);rw [if_pos (show (Value.ref T != Value.none)=true from by simp)];refine wpAny_setField hT hdT hsz3 (hQ _ ⟨fun b o hbo=>(other b fun q=>by rw [q,hnT] at hbo;cases hbo).trans (hkb b o hbo),hen,
    hl.of_keeps fun b o hb hnf=>⟨o,(other b (noRecord b o hb hnf)).trans hb,rfl⟩,(f.elim Value.none fun f=>rawInt f),?_⟩ fun b o hb hnf=>⟨o.slots,(other b (noRecord b o hb hnf)).trans hb⟩)
  exact ⟨oe,vs,T,_,_,(other e (Ne.symm hTe)).trans he,hcls,hd,h1,hnT,hTe,Heap.get?_update_self _ hT (Obj.isFreed_of_fields (Obj.data_mapFields hdT _)),Obj.data_mapFields hdT _,by simp [hsz3]⟩
theorem BC (t:tf base l e cls a0 s.heap) (hQ:∀ h',Heap.FlyingW base l e cls a0 h'->s.heap.UpToSlots h'->Q () { s with heap:=h' }):wpAny M A (setFlight (.ref e) none) Q E s:=by
  obtain ⟨hkb,hen,hl,fl,ht⟩:=t;exact wpAny_setFlight_noneW hkb hl ht fun h' k1 k2 k3 k4=>hQ h' ⟨k1,hen,k2,k3⟩ fun b o hb hn=>⟨o.slots,k4 b o hb hn⟩
theorem zp (hfr:A.frames=some (env::outer)) (hf:env.frame=some L) (t:tf base (env::outer) e cls a0 s.heap)
    (hQ:∀ h',Heap.FlyingW base outer e cls a0 h'->s.heap.UpToSlots h'->Q () { s with heap:=h' }):wpAny M A (leaving env (.ref e)) Q E s:=by
  unfold leaving;refine wpAny_bind (uI hfr hf t fun h1 t1 u1=>?_);refine BC (s:={ s with heap:=h1 }) t1 fun h2 t2 u2=>?_
  obtain ⟨k1,k2,⟨_,_,k3⟩,k4⟩:=t2;exact hQ h2 ⟨k1,k2,k3,k4⟩ (u1.trans u2)
theorem BB {α:Type} {k:Value->Sem α} {Q:α->Shared->Prop} (t:tf base l e cls a0 s.heap) (hQ:∀ T,wpAny M A (k (.ref T)) Q E s):wpAny M A (field (.ref e) 1>>=k) Q E s:=by
  obtain ⟨hkb,hen,hl,fl,oe,vs,T,oT,ts,he,hcls,hd,h1,r⟩:=t;exact wpAny_bind (wpAny_field he hd h1 (hQ T))
theorem BD {α:Type} {what:String} {Q:α->Shared->Prop} (t:tf base l e cls a0 s.heap) (hQ:∀ h',tf base l e cls a0 h'->s.heap.UpToSlots h'->E (.ref e) { s with heap:=h' }):wpAny M A (PySem.passOn what (.ref e) env:Sem α) Q E s:=by
  unfold PySem.passOn;refine BB t fun T=>?_
  rw [if_neg (show ¬ ((Value.ref T==Value.none)=true) from by simp)];refine wpAny_bind (wj _ t fun h' t' u=>?_);exact wpAny_throw (hQ h' t' u)
theorem tf.first {h:Heap} (x:tf base l e cls a0 h):∃ oe vs,h.get? e=some oe/\oe.cls=cls/\oe.data=.fields vs/\vs[0]?=some a0:=by
  obtain ⟨_,_,_,_,oe,vs,_,_,_,he,hc,hd,_⟩:=x;exact ⟨oe,vs,he,hc.1,hd,hc.2⟩
end
noncomputable abbrev St:=L2.St
noncomputable abbrev aX:=@L2.aX
noncomputable def gm:dz->PyData
  | .inl i=>.int i
  | .inr x=>.str x
mutual
noncomputable def Rp (H:Hp):PyData->V->Prop
  | .none,v=>v=.non
  | .bool b,v=>v=.bl b
  | .int i,v=>v=.int i
  | .str x,v=>v=.str x
  | .tuple ds,v=>∃ a vs,v=.ref a/\H a=some (.tup vs)/\bO H ds vs
  | .list ds,v=>∃ a o vs,v=.ref a/\H a=some (.frz o (.lst vs))/\bO H ds vs
  | .dict kvs,v=>(∃ a o ks,v=.ref a/\H a=some (.frz o (.dK ks))/\eQ H kvs ks)\/∃ a o C dx fs,v=.ref a/\H a=some (.frz o (.ins C dx fs))/\zB H C fs kvs
noncomputable def bO (H:Hp):List PyData->List V->Prop
  | [],vs=>vs=[]
  | d::ds,vs=>∃ v r,vs=v::r/\Rp H d v/\bO H ds r
noncomputable def eQ (H:Hp):List (PyData×PyData)->List (dz×V)->Prop
  | [],ks=>ks=[]
  | kd::kvs,ks=>∃ x v r,ks=(x,v)::r/\BP H kd x v/\eQ H kvs r
noncomputable def BP (H:Hp):PyData×PyData->dz->V->Prop
  | (k,d),x,v=>k=gm x/\Rp H d v
noncomputable def zB (H:Hp) (C:Addr) (fs:List (Str×V)):List (PyData×PyData)->Prop
  | []=>False
  | kd::kvs=>kd=(.none,.int C)/\uM H kvs fs
noncomputable def uM (H:Hp):List (PyData×PyData)->List (Str×V)->Prop
  | [],fs=>fs=[]
  | kd::kvs,fs=>∃ x v r,fs=(x,v)::r/\D0 H kd x v/\uM H kvs r
noncomputable def D0 (H:Hp):PyData×PyData->Str->V->Prop
  | (k,d),x,v=>k=.str x/\Rp H d v
end
noncomputable def kF:List (PyData×PyData)->Bool
  | (.none,_)::_=>true
  | _=>false
noncomputable def Kp (H H':Hp):Prop:=(∀ b xs,H b=some (.tup xs)->H' b=some (.tup xs))/\∀ b o u,H b=some (.frz o u)->H' b=some (.frz o u)
theorem Kp.trans {H H1 H2:Hp} (a:Kp H H1) (b:Kp H1 H2):Kp H H2:=⟨fun c xs h=>b.1 c xs (a.1 c xs h),fun c o u h=>b.2 c o u (a.2 c o u h)⟩
theorem Kp.of {H H':Hp} (s:aI H H'):Kp H H':=⟨fun b xs h=>s b _ h,fun b o u h=>s b _ h⟩
mutual
theorem Rp.kp {H H':Hp} (k:Kp H H'):∀ (d:PyData) (v:V),Rp H d v->Rp H' d v
  | .none,v,h=>by simpa only [Rp] using h
  | .bool b,v,h=>by simpa only [Rp] using h
  | .int i,v,h=>by simpa only [Rp] using h
  | .str x,v,h=>by simpa only [Rp] using h
  | .tuple ds,v,h=>by
    simp only [Rp] at h ⊢;obtain ⟨a,vs,e,ha,r⟩:=h;exact ⟨a,vs,e,k.1 _ _ ha,bO.kp k ds vs r⟩
  | .list ds,v,h=>by
    simp only [Rp] at h ⊢;obtain ⟨a,o,vs,e,ha,r⟩:=h;exact ⟨a,o,vs,e,k.2 _ _ _ ha,bO.kp k ds vs r⟩
  | .dict kvs,v,h=>by
    simp only [Rp] at h ⊢;rcases h with ⟨a,o,ks,e,ha,r⟩ | ⟨a,o,C,dx,fs,e,ha,r⟩
    · exact .inl ⟨a,o,ks,e,k.2 _ _ _ ha,eQ.kp k kvs ks r⟩
    · exact .inr ⟨a,o,C,dx,fs,e,k.2 _ _ _ ha,zB.kp k C fs kvs r⟩
theorem bO.kp {H H':Hp} (k:Kp H H'):∀ (ds:List PyData) (vs:List V),bO H ds vs->bO H' ds vs
  | [],vs,h=>by simpa only [bO] using h
  | d::ds,vs,h=>by
    simp only [bO] at h ⊢;obtain ⟨v,r,e,h1,h2⟩:=h;exact ⟨v,r,e,Rp.kp k d v h1,bO.kp k ds r h2⟩
theorem eQ.kp {H H':Hp} (k:Kp H H'):∀ (kvs:List (PyData×PyData)) (ks:List (dz×V)),eQ H kvs ks->eQ H' kvs ks
  | [],ks,h=>by simpa only [eQ] using h
  | kd::kvs,ks,h=>by
    simp only [eQ] at h ⊢;obtain ⟨x,v,r,e,h1,h2⟩:=h;exact ⟨x,v,r,e,BP.kp k kd x v h1,eQ.kp k kvs r h2⟩
theorem BP.kp {H H':Hp} (k:Kp H H'):∀ (kd:PyData×PyData) (x:dz) (v:V),BP H kd x v->BP H' kd x v
  | (c,d),x,v,h=>by
    simp only [BP] at h ⊢;exact ⟨h.1,Rp.kp k d v h.2⟩
theorem zB.kp {H H':Hp} (k:Kp H H') (C:Addr) (fs:List (Str×V)):∀ (kvs:List (PyData×PyData)),zB H C fs kvs->zB H' C fs kvs
  | [],h=>by simpa only [zB] using h
  | kd::kvs,h=>by
    simp only [zB] at h ⊢;exact ⟨h.1,uM.kp k kvs fs h.2⟩
theorem uM.kp {H H':Hp} (k:Kp H H'):∀ (kvs:List (PyData×PyData)) (fs:List (Str×V)),uM H kvs fs->uM H' kvs fs
  | [],fs,h=>by simpa only [uM] using h
  | kd::kvs,fs,h=>by
    simp only [uM] at h ⊢;obtain ⟨x,v,r,e,h1,h2⟩:=h;exact ⟨x,v,r,e,D0.kp k kd x v h1,uM.kp k kvs r h2⟩
theorem D0.kp {H H':Hp} (k:Kp H H'):∀ (kd:PyData×PyData) (x:Str) (v:V),D0 H kd x v->D0 H' kd x v
  | (c,d),x,v,h=>by
    simp only [D0] at h ⊢;exact ⟨h.1,Rp.kp k d v h.2⟩
end
theorem Rp.mono {H H':Hp} {d:PyData} {v:V} (h:Rp H d v) (s:aI H H'):Rp H' d v:=Rp.kp (Kp.of s) d v h
theorem bO.mono {H H':Hp} {ds:List PyData} {vs:List V} (h:bO H ds vs) (s:aI H H'):bO H' ds vs:=bO.kp (Kp.of s) ds vs h
noncomputable def jq (H:Hp):PyData->V->Prop
  | .list ds,v=>∃ a vs,v=.ref a/\H a=some (.lst vs)/\bO H ds vs
  | .dict kvs,v=>∃ a ks,v=.ref a/\H a=some (.dK ks)/\eQ H kvs ks
  | _,_=>False
theorem jq.mono {H H':Hp} {d:PyData} {v:V} (h:jq H d v) (s:aI H H'):jq H' d v:=by
  cases d <;> simp only [jq] at h ⊢
  · obtain ⟨a,vs,e,ha,r⟩:=h;exact ⟨a,vs,e,s _ _ ha,bO.mono r s⟩
  · obtain ⟨a,vs,e,ha,r⟩:=h;exact ⟨a,vs,e,s _ _ ha,eQ.kp (Kp.of s) _ _ r⟩
noncomputable def hV (H:Hp) (d:PyData) (v:V):Prop:=Rp H d v\/jq H d v
theorem hV.mono {H H':Hp} {d:PyData} {v:V} (h:hV H d v) (s:aI H H'):hV H' d v:=h.elim (fun h=>.inl (h.mono s)) fun h=>.inr (h.mono s)
noncomputable def EB (H H':Hp) (d:PyData) (v:V):Prop:=jq H' d v/\∃ a,v=.ref a/\H a=none
inductive bn where
  | non
  | val (d:PyData)
  | own (d:PyData)
  | exc (p:Addr)
noncomputable abbrev aS:=List bn
noncomputable def ju (H:Hp):bn->Option V->Prop
  | .non,_=>True
  | .val d,o=>∃ v,o=some v/\Rp H d v
  | .own d,o=>∃ v,o=some v/\jq H d v
  | .exc p,o=>o=some (.ref p)
noncomputable def Sl (H:Hp) (σ:St) (ρ:aS):Prop:=σ.length=ρ.length/\∀ (i:Nat) (c:bn) (o:Option V),ρ[i]?=some c->σ[i]?=some o->ju H c o
theorem ju.mono {H H':Hp} {c:bn} {o:Option V} (h:ju H c o) (s:aI H H'):ju H' c o:=by
  cases c <;> simp only [ju] at h ⊢
  · obtain ⟨v,e,h⟩:=h;exact ⟨v,e,h.mono s⟩
  · obtain ⟨v,e,h⟩:=h;exact ⟨v,e,h.mono s⟩
  · exact h
theorem Sl.mono {H H':Hp} {σ:St} {ρ:aS} (h:Sl H σ ρ) (s:aI H H'):Sl H' σ ρ:=⟨h.1,fun i c o h1 h2=>(h.2 i c o h1 h2).mono s⟩
inductive R (α:Type) where
  | ok (a:α)
  | ex (c:Str)
  | no
noncomputable def R.bind {α β:Type}:R α->(α->R β)->R β
  | .ok a,f=>f a
  | .ex c,_=>.ex c
  | .no,_=>.no
noncomputable instance:Monad R where
  pure:=.ok
  bind:=R.bind
@[simp] theorem R.ok_bind {α β:Type} (a:α) (f:α->R β):(R.ok a>>=f)=f a:=rfl
@[simp] theorem R.ex_bind {α β:Type} (c:Str) (f:α->R β):((R.ex c:R α)>>=f)=.ex c:=rfl
@[simp] theorem R.no_bind {α β:Type} (f:α->R β):((R.no:R α)>>=f)=.no:=rfl
@[simp] theorem R.pure_ok {α:Type} (a:α):(pure a:R α)=.ok a:=rfl
structure EA (P:Program) (w:World) (outer:List Env) (H:Hp) (s:Shared) (C:Addr) (H':Hp) (e:Value) (s':Shared):Prop where
  os:s'.os=s.os
  bare:AllBare s'.gens
  same:aI H H'
  ex:∃ (p:Addr) (a0:Value) (B:Heap),e=.ref p/\Heap.FlyingW B outer p (.ref C) a0 s'.heap/\ik P w H' B/\H' p=none/\∀ b o,s.heap.get? b=some o->H b=none->b∉lZ outer->B.get? b=some o/\H' b=none
  slot:∀ b o,s.heap.get? b=some o->H b=none->b∈lZ outer->(∃ sl,s'.heap.get? b=some { o with slots:=sl })/\H' b=none
structure re (P:Program) (w:World) (outer:List Env) (H:Hp) (s:Shared) (C:Addr) (H':Hp) (e:Value) (s':Shared):Prop where
  os:s'.os=s.os
  bare:AllBare s'.gens
  same:aI H H'
  ex:∃ (p:Addr) (a0:Value) (B:Heap),e=.ref p/\tf B outer p (.ref C) a0 s'.heap/\ik P w H' B/\H' p=none/\∀ b o,s.heap.get? b=some o->H b=none->b∉lZ outer->B.get? b=some o/\H' b=none
  slot:∀ b o,s.heap.get? b=some o->H b=none->b∈lZ outer->(∃ sl,s'.heap.get? b=some { o with slots:=sl })/\H' b=none
theorem EA.hld {P:Program} {w:World} {outer:List Env} {H:Hp} {s:Shared} {C:Addr} {H':Hp} {e:Value} {s':Shared} (f:EA P w outer H s C H' e s'):re P w outer H s C H' e s' :=
  ⟨f.os,f.bare,f.same,let ⟨p,a0,B,h1,h2,h3⟩:=f.ex;⟨p,a0,B,h1,tf.of h2,h3⟩,f.slot⟩
noncomputable def cP (P:Program) (w:World) (mg:Str->Option Value):zx:=fun outer H s E e s'=>∃ n C H',mg n=some (.ref C)/\EA P w outer H s C H' e s'/\E (.str n 0) none H'
noncomputable def EX (X:Cx):XK:=fun v _ H'=>∀ (n:Str) (C:Addr),v=.str n 0->X.mg n=some (.ref C)->∀ (pins:List (Addr×Obj)) (σ:St) (H:Hp) (s:Shared) (e:Value) (s':Shared),aX X pins σ H s->EA X.prog X.w X.stack H s C H' e s'->X.xe e s'
theorem xk {X:Cx}:ou (cP X.prog X.w X.mg) X (EX X):=fun pins σ H s e s' I ⟨n,C,H',hm,f,q⟩=>q n C rfl hm pins σ H s e s' I f
noncomputable def Xw (X:Cx) (c:Str) (H:Hp):Prop:=∀ H1,aI H H1->∀ (C:Addr),X.mg c=some (.ref C)->∀ (pins:List (Addr×Obj)) (σ:St) (Hc:Hp) (s:Shared) (e:Value) (s':Shared),aX X pins σ Hc s->re X.prog X.w X.stack Hc s C H1 e s'->X.xe e s'
theorem Xw.mono {X:Cx} {c:Str} {H H':Hp} (h:Xw X c H) (s:aI H H'):Xw X c H':=fun H1 s1=>h H1 (s.trans s1)
theorem Xw.ex {X:Cx} {c:Str} {H:Hp} (h:Xw X c H):∀ H1,aI H H1->EX X (.str c 0) none H1:=fun H1 s1 n C en hm pins σ Hc s e s' I f=>by
  have en':c=n:=by injection en
  subst en';exact h H1 s1 C hm pins σ Hc s e s' I f.hld
noncomputable def Gz (X:Cx) (c:Str) (Fm:Hp):Prop:=∀ C,X.mg c=some (.ref C)->∀ (pins:List (Addr×Obj)) (σ:St) (H:Hp) (s:Shared),aI Fm H->aX X pins σ H s->∀ (h':Heap) (p:Addr) (vs:List Value),Heap.MadeExcOf s.heap h' p (.ref C) vs->X.xe (.ref p) { s with heap:=h' }
theorem Gz.mono {X:Cx} {c:Str} {H H':Hp} (h:Gz X c H) (s:aI H H'):Gz X c H':=fun C hm pins σ H1 s1 e=>h C hm pins σ H1 s1 (s.trans e)
noncomputable def uO (X:Cx) (P:Hp->Hp->PyData->V->Prop) (r:R PyData) (H:Hp) (Q:VK):Prop :=
  match r with
  | .ok d=>∀ v H',aI H H'->P H H' d v->Q v H'
  | .ex c=>Xw X c H
  | .no=>False
noncomputable abbrev h7:Hp->Hp->PyData->V->Prop:=fun _ H' d v=>Rp H' d v
noncomputable abbrev sT:Hp->Hp->PyData->V->Prop:=fun _ H' d v=>hV H' d v
noncomputable abbrev Ip:Hp->Hp->PyData->V->Prop:=fun H H' d v=>Rp H' d v\/EB H H' d v
noncomputable abbrev Fe:=aS->R PyData
noncomputable def jt (X:Cx) (P:Hp->Hp->PyData->V->Prop) (f:Fe):TE:=fun σ H Q=>∃ ρ,Sl H σ ρ/\uO X P (f ρ) H Q
noncomputable def cX (X:Cx) (e:Expr) (f:Fe):Prop:=PE X e (jt X h7 f)
structure Z.cX (X:Cx) (e:Expr) (f:Fe):Prop where
  un:D2.cX X e f
noncomputable def dM (X:Cx) (e:Expr) (f:Fe):Prop:=PE X e (jt X sT f)
structure Z.dM (X:Cx) (e:Expr) (f:Fe):Prop where
  un:D2.dM X e f
noncomputable def BZ (X:Cx) (e:Expr) (f:Fe):Prop:=PE X e (jt X Ip f)
structure Z.BZ (X:Cx) (e:Expr) (f:Fe):Prop where
  un:D2.BZ X e f
noncomputable def l5 (X:Cx) (e:Expr) (f:Fe):Prop:=PE X e (jt X EB f)
structure Z.l5 (X:Cx) (e:Expr) (f:Fe):Prop where
  un:D2.l5 X e f
noncomputable def RA (I:Hp->PyData->V->Prop) (H:Hp):List PyData->List V->Prop
  | [],vs=>vs=[]
  | d::ds,vs=>∃ v r,vs=v::r/\I H d v/\RA I H ds r
theorem pF {H:Hp}:∀ {ds:List PyData} {vs:List V},RA Rp H ds vs<->bO H ds vs
  | [],vs=>by simp only [RA,bO]
  | d::ds,vs=>by simp only [RA,bO,pF (ds:=ds)]
noncomputable def Bf (X:Cx) (I:Hp->PyData->V->Prop) (f:aS->R (List PyData)):TA:=fun σ H Q=>∃ ρ,Sl H σ ρ/\match f ρ with
  | .ok ds=>∀ vs H',aI H H'->RA I H' ds vs->Q vs H'
  | .ex c=>Xw X c H
  | .no=>False
noncomputable def uZ (X:Cx) (es:List Expr) (f:aS->R (List PyData)):Prop:=PA X es (Bf X Rp f)
structure Z.uZ (X:Cx) (es:List Expr) (f:aS->R (List PyData)):Prop where
  un:D2.uZ X es f
noncomputable def Ez (X:Cx) (es:List Expr) (f:aS->R (List PyData)):Prop:=PA X es (Bf X hV f)
noncomputable def DA (X:Cx) (f:aS->R Bool):TT:=fun σ H Q=>∃ ρ,Sl H σ ρ/\match f ρ with
  | .ok b=>∀ H',aI H H'->Q b H'
  | .ex c=>Xw X c H
  | .no=>False
noncomputable def nI (X:Cx) (e:Expr) (f:aS->R Bool):Prop:=PT X e (DA X f)
structure Z.nI (X:Cx) (e:Expr) (f:aS->R Bool):Prop where
  un:D2.nI X e f
noncomputable def zA (X:Cx) (e:Expr) (f:aS->R Bool):Prop:=PW X e (DA X f)
structure Z.zA (X:Cx) (e:Expr) (f:aS->R Bool):Prop where
  un:D2.zA X e f
theorem PE.imp {X:Cx} {e:Expr} {t t':TE} (h:PE X e t) (i:∀ σ H Q,t' σ H Q->t σ H Q):PE X e t':=fun pins s σ H Q I q=>h pins s σ H Q I (i σ H Q q)
theorem PT.imp {X:Cx} {e:Expr} {t t':TT} (h:PT X e t) (i:∀ σ H Q,t' σ H Q->t σ H Q):PT X e t':=fun pins s σ H Q I q=>h pins s σ H Q I (i σ H Q q)
theorem PW.imp {X:Cx} {e:Expr} {t t':TT} (h:PW X e t) (i:∀ σ H Q,t' σ H Q->t σ H Q):PW X e t':=fun wh pins s σ H Q I q=>h wh pins s σ H Q I (i σ H Q q)
theorem PA.imp {X:Cx} {e:List Expr} {t t':TA} (h:PA X e t) (i:∀ σ H Q,t' σ H Q->t σ H Q):PA X e t':=fun pos pins s σ H Q I q=>h pos pins s σ H Q I (i σ H Q q)
theorem jt.post {X:Cx} {P:Hp->Hp->PyData->V->Prop} {f:Fe} {σ:St} {H:Hp} {Q Q':VK} (h:jt X P f σ H Q) (i:∀ v H',Q v H'->Q' v H'):jt X P f σ H Q':=by
  obtain ⟨ρ,sl,q⟩:=h;refine ⟨ρ,sl,?_⟩;cases e:f ρ with
  | ok d=>rw [e] at q;exact fun v H' s p=>i _ _ (q v H' s p)
  | ex c=>rw [e] at q;exact q
  | no=>rw [e] at q;exact q
theorem DA.post {X:Cx} {f:aS->R Bool} {σ:St} {H:Hp} {Q Q':Bool->Hp->Prop} (h:DA X f σ H Q) (i:∀ b H',Q b H'->Q' b H'):DA X f σ H Q':=by
  obtain ⟨ρ,sl,q⟩:=h;refine ⟨ρ,sl,?_⟩;cases e:f ρ with
  | ok d=>rw [e] at q;exact fun H' s=>i _ _ (q H' s)
  | ex c=>rw [e] at q;exact q
  | no=>rw [e] at q;exact q
theorem Bf.post {X:Cx} {I:Hp->PyData->V->Prop} {f:aS->R (List PyData)} {σ:St} {H:Hp} {Q Q':List V->Hp->Prop} (h:Bf X I f σ H Q) (i:∀ vs H',Q vs H'->Q' vs H'):Bf X I f σ H Q':=by
  obtain ⟨ρ,sl,q⟩:=h;refine ⟨ρ,sl,?_⟩;cases e:f ρ with
  | ok d=>rw [e] at q;exact fun vs H' s p=>i _ _ (q vs H' s p)
  | ex c=>rw [e] at q;exact q
  | no=>rw [e] at q;exact q
theorem jt.weaken {X:Cx} {P P':Hp->Hp->PyData->V->Prop} {f:Fe} (h:∀ H H' d v,P H H' d v->P' H H' d v) (σ:St) (H:Hp) (Q:VK) (q:jt X P' f σ H Q):jt X P f σ H Q:=by
  obtain ⟨ρ,sl,q⟩:=q;refine ⟨ρ,sl,?_⟩;cases e:f ρ with
  | ok d=>rw [e] at q;exact fun v H' s p=>q v H' s (h _ _ _ _ p)
  | ex c=>rw [e] at q;exact q
  | no=>rw [e] at q;exact q
section
variable {X:Cx} {e:Expr} {f:Fe}
theorem cX.b (h:cX X e f):dM X e f:=PE.imp h (jt.weaken fun _ _ _ _ p=>Or.inl p)
theorem ae (h:Z.cX X e f):Z.dM X e f :=
  ⟨D2.cX.b h.un⟩
theorem l5.b (h:l5 X e f):dM X e f:=PE.imp h (jt.weaken fun _ _ _ _ p=>Or.inr p.1)
theorem cI (h:Z.l5 X e f):Z.dM X e f :=
  ⟨D2.l5.b h.un⟩
theorem l5.toF (h:l5 X e f):BZ X e f:=PE.imp h (jt.weaken fun _ _ _ _ p=>Or.inr p)
end
section
variable {X:Cx} {pins:List (Addr×Obj)} {σ:St} {H:Hp} {s:Shared} {a:Addr} {u:HO}
theorem gN (I:aX X pins σ H s) (h:H a=some u) (hm:(∃ xs,u=.lst xs)\/∃ ks,u=.dK ks):∃ o,aX X pins σ (cQ H a (.frz o u)) s:=by
  have ob:=I.hok a u h;have hg:∃ o,s.heap.get? a=some o:=by
    rcases hm with ⟨xs,rfl⟩ | ⟨ks,rfl⟩
    · obtain ⟨_,_,_,_,e⟩:=ob;exact ⟨_,e⟩
    · obtain ⟨_,_,_,_,o,_,_,e,_⟩:=ob;exact ⟨_,e⟩
  obtain ⟨o,hg⟩:=hg;have nt:∀ b xs,H b=some (.tup xs)->b≠a:=fun b xs q z=>by subst z;rw [h] at q;rcases hm with ⟨_,rfl⟩ | ⟨_,rfl⟩ <;> cases q
  have nf:∀ b o' u',H b=some (.frz o' u')->b≠a:=fun b o' u' q z=>by subst z;rw [h] at q;rcases hm with ⟨_,rfl⟩ | ⟨_,rfl⟩ <;> cases q
  have nb:∀ b ps,H b=some (.tbl ps)->b≠a:=fun b ps q z=>by subst z;rw [h] at q;rcases hm with ⟨_,rfl⟩ | ⟨_,rfl⟩ <;> cases q
  have nw:∀ b y,H b=some (.own y)->b≠a:=fun b y q z=>by subst z;rw [h] at q;rcases hm with ⟨_,rfl⟩ | ⟨_,rfl⟩ <;> cases q
  have nn:∀ b,H b=none->b≠a:=fun b q z=>by subst z;rw [h] at q;cases q
  have st:∀ b x,cm X.prog X.w H s.heap b x->cm X.prog X.w (cQ H a (.frz o u)) s.heap b x:=fun b x q =>
    q.stay (fun c v _ e=>e) (fun c e=>by rw [aB (nw _ _ e)];exact e) fun c xs e=>by rw [aB (nt _ _ e)];exact e
  refine ⟨o,⟨I.ok,I.os,I.bare,⟨I.base.keep,I.base.slot,fun b ob' e n hx=>?_,I.base.there,fun b xs e=>?_,fun b ob' v e=>?_,fun b ps e=>?_⟩,I.loc,I.cell,?_,fun x c e=>?_,fun p hp=>?_,fun b x e=>?_,I.len⟩⟩
  · have:=I.base.free b ob' e n hx;rw [aB (nn _ this)];exact this
  · have:=I.base.tups b xs e;rw [aB (nt _ _ this)];exact this
  · have:=I.base.frzs b ob' v e;rw [aB (nf _ _ _ this)];exact this
  · obtain ⟨m,q⟩:=I.base.tbls b ps e;exact ⟨m,by rw [aB (nb _ _ q)];exact q⟩
  · rw [aB (nn _ I.free)];exact I.free
  · rw [aB (nn _ (I.freeC x c e))];exact I.freeC x c e
  · obtain ⟨p1,p2,p3⟩:=I.pin p hp;exact ⟨p1,by rw [aB (nn _ p2)];exact p2,p3⟩
  · by_cases hb:b=a
    · subst hb;rw [bE] at e;cases e;exact ⟨hg,st b u ob⟩
    · rw [aB hb] at e;exact st b x (I.hok b x e)
theorem gO {o':HO} (h:H a=some u) (hm:(∃ xs,u=.lst xs)\/∃ ks,u=.dK ks):Kp H (cQ H a o'):=by
  refine ⟨fun b xs e=>?_,fun b o v e=>?_⟩
  · rw [aB];exact e;rintro rfl;rw [h] at e;rcases hm with ⟨_,rfl⟩ | ⟨_,rfl⟩ <;> cases e
  · rw [aB];exact e;rintro rfl;rw [h] at e;rcases hm with ⟨_,rfl⟩ | ⟨_,rfl⟩ <;> cases e
theorem E3 {H0:Hp} {d:PyData} {v:V} (I:aX X pins σ H s) (hs:aI H0 H) (n:EB H0 H d v):∃ H',aX X pins σ H' s/\aI H0 H'/\Rp H' d v:=by
  obtain ⟨n,a,rfl,h0⟩:=n;have go:∀ u:HO,H a=some u->((∃ xs,u=.lst xs)\/∃ ks,u=.dK ks)->∃ o,aX X pins σ (cQ H a (.frz o u)) s/\aI H0 (cQ H a (.frz o u))/\Kp H (cQ H a (.frz o u)):=fun u hu hm=>by
    obtain ⟨o,J⟩:=gN I hu hm;refine ⟨o,J,fun b x e=>?_,gO hu hm⟩;rw [aB (bi e h0)];exact hs b x e
  cases d <;> simp only [jq] at n
  · obtain ⟨a',vs,e,ha,r⟩:=n;cases e;obtain ⟨o,J,S,K⟩:=go _ ha (.inl ⟨_,rfl⟩);refine ⟨_,J,S,?_⟩;simp only [Rp];exact ⟨a,o,vs,rfl,bE,bO.kp K _ _ r⟩
  · obtain ⟨a',vs,e,ha,r⟩:=n;cases e;obtain ⟨o,J,S,K⟩:=go _ ha (.inr ⟨_,rfl⟩);refine ⟨_,J,S,?_⟩;simp only [Rp];exact .inl ⟨a,o,vs,rfl,bE,eQ.kp K _ _ r⟩
end
theorem BZ.e {X:Cx} {e:Expr} {f:Fe} (h:BZ X e f):cX X e f:=by
  intro pins s σ H Q I q;obtain ⟨ρ,sl,q⟩:=q;cases ef:f ρ with
  | ok d =>
    rw [ef] at q;refine du (h pins s σ H (fun v H'=>aI H H'/\Ip H H' d v) I ⟨ρ,sl,by rw [ef];exact fun v H' hs p=>⟨hs,p⟩⟩) fun u s' ⟨v,H',I',r,hs,p⟩=>?_
    rcases p with p | p
    · exact ⟨v,H',I',r,q v H' hs p⟩
    · obtain ⟨H2,I2,S2,p2⟩:=E3 I' hs p;exact ⟨v,H2,I2,r,q v H2 S2 p2⟩
  | ex c=>rw [ef] at q;exact du (h pins s σ H (fun _ _=>False) I ⟨ρ,sl,by rw [ef];exact q⟩) fun u s' ⟨v,H',I',r,z⟩=>z.elim
  | no=>rw [ef] at q;exact q.elim
theorem Iv {X:Cx} {e:Expr} {f:Fe} (h:Z.BZ X e f):Z.cX X e f :=
  ⟨D2.BZ.e h.un⟩
theorem l5.e {X:Cx} {e:Expr} {f:Fe} (h:l5 X e f):cX X e f:=(l5.toF h).e
theorem jY {X:Cx} {e:Expr} {f:Fe} (h:Z.l5 X e f):Z.cX X e f :=
  ⟨D2.l5.e h.un⟩
structure B6 {β:Type} (X:Cx) (T:R β->Hp->Prop):Prop where
  mono:∀ r H H',T r H->aI H H'->T r H'
  ex:∀ c H,T (.ex c) H->Xw X c H
  no:∀ H,¬ T .no H
noncomputable def Dn (P:Hp->Hp->PyData->V->Prop):Prop:=∀ H H1 H' d v,aI H H1->P H1 H' d v->P H H' d v
theorem fM:Dn h7:=fun _ _ _ _ _ _ p=>p
theorem Ai:Dn EB:=fun _ _ _ _ _ s p=>⟨p.1,let ⟨a,e,h⟩:=p.2;⟨a,e,s.free h⟩⟩
theorem Cs:Dn Ip:=fun _ _ _ _ _ s p=>p.elim .inl fun p=>.inr (Ai _ _ _ _ _ s p)
section
variable {X:Cx} {σ:St} {H:Hp}
theorem ff {P:Hp->Hp->PyData->V->Prop} (hP:Dn P) (Q:VK):B6 X (fun r H=>uO X P r H Q) where
  mono:=fun r H H' h s=>by
    cases r with
    | ok d=>exact fun v H2 s2 p=>h v H2 (s.trans s2) (hP _ _ _ _ _ s p)
    | ex c=>exact Xw.mono h s
    | no=>exact h
  ex:=fun c H h=>h
  no:=fun H h=>h
theorem xB (Q:Bool->Hp->Prop):B6 X (fun (r:R Bool) H=>match r with | .ok b=>∀ H',aI H H'->Q b H' | .ex c=>Xw X c H | .no=>False) where
  mono:=fun r H H' h s=>by
    cases r with
    | ok d=>exact fun H2 s2=>h H2 (s.trans s2)
    | ex c=>exact Xw.mono h s
    | no=>exact h
  ex:=fun c H h=>h
  no:=fun H h=>h
theorem Ev (I:Hp->PyData->V->Prop) (Q:List V->Hp->Prop):B6 X (fun (r:R (List PyData)) H=>match r with | .ok ds=>∀ vs H',aI H H'->RA I H' ds vs->Q vs H' | .ex c=>Xw X c H | .no=>False) where
  mono:=fun r H H' h s=>by
    cases r with
    | ok d=>exact fun vs H2 s2=>h vs H2 (s.trans s2)
    | ex c=>exact Xw.mono h s
    | no=>exact h
  ex:=fun c H h=>h
  no:=fun H h=>h
theorem eY {β:Type} {T:R β->Hp->Prop} (t:B6 X T) {P:Hp->Hp->PyData->V->Prop} {f:Fe} {k:aS->PyData->R β} (h:∃ ρ,Sl H σ ρ/\T (f ρ>>=k ρ) H) :
    jt X P f σ H (fun v H1=>∃ ρ d,Sl H1 σ ρ/\aI H H1/\P H H1 d v/\T (k ρ d) H1):=by
  obtain ⟨ρ,sl,q⟩:=h;refine ⟨ρ,sl,?_⟩;cases e:f ρ with
  | ok d=>rw [e] at q;exact fun v H1 s p=>⟨ρ,d,sl.mono s,s,p,t.mono _ _ _ q s⟩
  | ex c=>rw [e] at q;exact t.ex _ _ q
  | no=>rw [e] at q;exact (t.no _ q).elim
theorem rH {β:Type} {T:R β->Hp->Prop} (t:B6 X T) {f:aS->R Bool} {k:aS->Bool->R β} (h:∃ ρ,Sl H σ ρ/\T (f ρ>>=k ρ) H) :
    DA X f σ H (fun b H1=>∃ ρ,Sl H1 σ ρ/\aI H H1/\T (k ρ b) H1):=by
  obtain ⟨ρ,sl,q⟩:=h;refine ⟨ρ,sl,?_⟩;cases e:f ρ with
  | ok d=>rw [e] at q;exact fun H1 s=>⟨ρ,sl.mono s,s,t.mono _ _ _ q s⟩
  | ex c=>rw [e] at q;exact t.ex _ _ q
  | no=>rw [e] at q;exact (t.no _ q).elim
theorem mo {β:Type} {T:R β->Hp->Prop} (t:B6 X T) {I:Hp->PyData->V->Prop} {f:aS->R (List PyData)} {k:aS->List PyData->R β} (h:∃ ρ,Sl H σ ρ/\T (f ρ>>=k ρ) H) :
    Bf X I f σ H (fun vs H1=>∃ ρ ds,Sl H1 σ ρ/\aI H H1/\RA I H1 ds vs/\T (k ρ ds) H1):=by
  obtain ⟨ρ,sl,q⟩:=h;refine ⟨ρ,sl,?_⟩;cases e:f ρ with
  | ok d=>rw [e] at q;exact fun vs H1 s p=>⟨ρ,d,sl.mono s,s,p,t.mono _ _ _ q s⟩
  | ex c=>rw [e] at q;exact t.ex _ _ q
  | no=>rw [e] at q;exact (t.no _ q).elim
end
noncomputable def ag (i:Nat):Fe:=fun ρ=>match ρ[i]? with
  | some (.val d)=>.ok d
  | _=>.no
noncomputable def gr (i:Nat):Fe:=fun ρ=>match ρ[i]? with
  | some (.val d)=>.ok d
  | some (.own d)=>.ok d
  | _=>.no
noncomputable def eC (d:PyData):Fe:=fun _=>.ok d
structure Tb (X:Cx) (nl:Nat) (G:List Str):Prop where
  hu:X.A.units+64 < cLine
  calm:X.calm=true
  nd:X.N.Nodup
  vis:∀ x∈X.N,EG X.env.scope x/\(x==("__debug__" : Str))=false/\(x==("__classdict__" : Str))=false
  loc:∀ x∈X.N.take nl,DZ X.env.scope x/\(X.fn x=true\/X.env.scope.names.lookup x=some .local)
  gl:∀ x∈G,Gl X x/\(x==("__debug__" : Str))=false/\x≠("__name__" : Str)
section
variable {X:Cx} {nl:Nat} {G:List Str} {x:Str} {pos:Pos}
theorem Sl.at {H:Hp} {σ:St} {ρ:aS} {i:Nat} {c:bn} (h:Sl H σ ρ) (e:ρ[i]?=some c):∃ o,σ[i]?=some o/\ju H c o:=by
  have hi:i < σ.length:=by rw [h.1];exact (List.getElem?_eq_some_iff.mp e).1
  exact ⟨σ[i],List.getElem?_eq_getElem hi,h.2 i c _ e (List.getElem?_eq_getElem hi)⟩
theorem aa (T:Tb X nl G) (i:Nat) (hN:X.N[i]?=some x):Z.cX X (.Name x pos) (ag i):=⟨by
  have hm:=T.vis x (List.mem_of_getElem? hN);refine PE.imp (jP hN hm.1 hm.2.1 hm.2.2) fun σ H Q zq0=>?_
  obtain ⟨ρ,sl,q⟩:=zq0;unfold ag at q;split at q
  · rename_i d e;obtain ⟨o,h1,v,rfl,h2⟩:=sl.at e;exact ⟨v,h1,q v H (aI.refl H) h2⟩
  · exact q.elim⟩
theorem eX (T:Tb X nl G) (i:Nat) (hN:X.N[i]?=some x):Z.dM X (.Name x pos) (gr i):=⟨by
  have hm:=T.vis x (List.mem_of_getElem? hN);refine PE.imp (jP hN hm.1 hm.2.1 hm.2.2) fun σ H Q zq0=>?_
  obtain ⟨ρ,sl,q⟩:=zq0;unfold gr at q;split at q
  · rename_i d e;obtain ⟨o,h1,v,rfl,h2⟩:=sl.at e;exact ⟨v,h1,q v H (aI.refl H) (.inl h2)⟩
  · rename_i d e;obtain ⟨o,h1,v,rfl,h2⟩:=sl.at e;exact ⟨v,h1,q v H (aI.refl H) (.inr h2)⟩
  · exact q.elim⟩
theorem oU {e:Expr} {d:PyData} {v:V} (h:PE X e (tC v)) (r:∀ H,Rp H d v):cX X e (eC d) :=
  PE.imp h fun σ H Q ⟨ρ,sl,q⟩=>q v H (aI.refl H) (r H)
theorem aj {i j}:Z.cX X (.Constant (.int i) j pos) (eC (.int i)):=⟨oU Fw fun H=>by simp only [Rp]⟩
theorem eD {b j}:Z.cX X (.Constant (.bool b) j pos) (eC (.bool b)):=⟨oU Hh fun H=>by simp only [Rp]⟩
theorem eE {j}:Z.cX X (.Constant .none j pos) (eC .none):=⟨oU Fy fun H=>by simp only [Rp]⟩
theorem fW {y j}:Z.cX X (.Constant (.str y) j pos) (eC (.str y)):=⟨oU FB fun H=>by simp only [Rp]⟩
theorem bz {i:Int} {t:Tok} (T:Tb X nl G) (j:Nat) (hG:G[j]?=some x) (hm:X.mg x=some (.int i t)):Z.cX X (.Name x pos) (eC (.int i)):=⟨by
  have g:=T.gl x (List.mem_of_getElem? hG);exact oU (Dk g.1 hm (v:=.int i) ⟨t,rfl⟩ g.2.1) fun H=>by simp only [Rp]⟩
end
section
variable {X:Cx} {a b c:Expr} {fa fb fc:Fe} {pos:Pos}
noncomputable def e2 (g:PyData->PyData->R PyData) (fa fb:Fe):Fe:=fun ρ=>fa ρ>>=fun x=>fb ρ>>=fun y=>g x y
noncomputable def e1 (g:PyData->R PyData) (fa:Fe):Fe:=fun ρ=>fa ρ>>=fun x=>g x
noncomputable def cH (X:Cx) (P:Hp->Hp->PyData->V->Prop) (r:R2) (g:PyData->PyData->R PyData):Prop :=
  ∀ H x y dx dy Q,hV H dx x->hV H dy y->uO X P (g dx dy) H Q->r x y H Q
theorem two {P:Hp->Hp->PyData->V->Prop} {r:R2} {g:PyData->PyData->R PyData} (hP:Dn P) (hg:cH X P r g) (σ:St) (H:Hp) (Q:VK) (h:jt X P (e2 g fa fb) σ H Q) :
    HW r (jt X sT fa) (jt X sT fb) σ H Q :=
  (eY (P:=sT) (ff (X:=X) hP Q) h).post fun v H1 ⟨ρ1,d1,sl1,_,p1,q1⟩ =>
    (eY (P:=sT) (f:=fb) (k:=fun _ y=>g d1 y) (ff (X:=X) hP Q) ⟨ρ1,sl1,q1⟩).post fun u H2 ⟨_,d2,_,s2,p2,q2⟩=>hg H2 v u d1 d2 Q (hV.mono p1 s2) p2 q2
theorem mE {op:Operator} {P:Hp->Hp->PyData->V->Prop} {r:R2} {g:PyData->PyData->R PyData} (hP:Dn P) (ho:jr X (binaryOp op) r) (hg:cH X P r g) (ha:dM X a fa) (hb:dM X b fb) :
    PE X (.BinOp a op b pos) (jt X P (e2 g fa fb)):=PE.imp (Hj ho ha hb) (two hP hg)
theorem Al {op:CmpOp} {r:R2} {g:PyData->PyData->R PyData} (ho:jr X (compareOp op) r) (hg:cH X h7 r g) (ha:dM X a fa) (hb:dM X b fb) (hm:behindInMarks op b=false) :
    cX X (.Compare a [op] [b] pos) (e2 g fa fb):=PE.imp (Di ho ha hb hm) (two fM hg)
end
noncomputable def tM:PyData->R Bool
  | .bool b=>.ok b
  | _=>.no
noncomputable def tE (f:Fe):aS->R Bool:=fun ρ=>f ρ>>=tM
theorem xt {X:Cx} {f:Fe} {σ:St} {H:Hp} {Q:Bool->Hp->Prop} (h:DA X (tE f) σ H Q):jt X h7 f σ H (fun x H'=>∃ k,x=.bl k/\Q k H') :=
  (eY (P:=h7) (f:=f) (k:=fun _=>tM) (xB (X:=X) Q) h).post fun v H1 ⟨ρ1,d1,_,_,p1,q1⟩=>by
    cases d1 with
    | bool b =>
      have p2:v=.bl b:=by simpa only [Rp] using p1
      exact ⟨b,p2,q1 H1 (aI.refl _)⟩
    | _=>exact q1.elim
section
variable {X:Cx} {a b c:Expr} {fa fb fc:Fe} {pos:Pos}
theorem gx {op:CmpOp} {r:R2} {g:PyData->PyData->R PyData} (ho:jr X (compareOp op) r) (hg:cH X h7 r g) (ha:dM X a fa) (hb:dM X b fb) (hm:behindInMarks op b=false) :
    nI X (.Compare a [op] [b] pos) (tE (e2 g fa fb)) :=
  PT.imp (Du ho ha hb hm) fun σ H Q h=>two fM hg σ H _ (xt h)
theorem eF {e:Expr} {f:Fe} (h:Z.cX X e f) (he:∀ whole,isTrue e X.env whole=(do let v <- whole;standAt e.pos;holding [v] (truthy v)):=by intro _;rfl):Z.nI X e (tE f):=⟨have h:=h.un;PT.imp (FL h he) fun σ H Q h=>xt h⟩
noncomputable def nA (f g:aS->R Bool):aS->R Bool:=fun ρ=>f ρ>>=fun b=>if b=true then g ρ else .ok false
noncomputable def zo (f g:aS->R Bool):aS->R Bool:=fun ρ=>f ρ>>=fun b=>if b=true then .ok true else g ρ
noncomputable def jp (f:aS->R Bool):aS->R Bool:=fun ρ=>f ρ>>=fun b=>.ok (!b)
variable {ga gb:aS->R Bool} {fR:List Expr}
theorem kS (ha:Z.nI X a ga):Z.zA X (.BoolOp .And [a] pos) ga:=⟨have ha:=ha.un;pw_and1 ha⟩
theorem mm (ha:Z.nI X a ga):Z.zA X (.BoolOp .Or [a] pos) ga:=⟨have ha:=ha.un;pw_or1 ha⟩
theorem ml (ha:Z.nI X a ga) (hb:Z.zA X (.BoolOp .And (b::fR) pos) gb):Z.zA X (.BoolOp .And (a::b::fR) pos) (nA ga gb):=⟨have ha:=ha.un;have hb:=hb.un;PW.imp (pw_and ha hb) fun σ H Q h=>(rH (f:=ga) (k:=fun ρ b=>if b=true then gb ρ else .ok false) (xB (X:=X) Q) h).post fun d H1 ⟨ρ1,sl1,_,q1⟩=>by
    cases d with
    | true=>exact ⟨ρ1,sl1,q1⟩
    | false=>exact q1 H1 (aI.refl _)⟩
theorem oC (ha:Z.nI X a ga) (hb:Z.zA X (.BoolOp .Or (b::fR) pos) gb):Z.zA X (.BoolOp .Or (a::b::fR) pos) (zo ga gb):=⟨have ha:=ha.un;have hb:=hb.un;PW.imp (pw_or ha hb) fun σ H Q h=>(rH (f:=ga) (k:=fun ρ b=>if b=true then .ok true else gb ρ) (xB (X:=X) Q) h).post fun d H1 ⟨ρ1,sl1,_,q1⟩=>by
    cases d with
    | false=>exact ⟨ρ1,sl1,q1⟩
    | true=>exact q1 H1 (aI.refl _)⟩
theorem zA.t {e:Expr} (h:zA X e ga):nI X e ga:=PW.pt h
theorem jZ {e:Expr} (h:Z.zA X e ga):Z.nI X e ga :=
  ⟨D2.zA.t h.un⟩
theorem e9 (ha:Z.nI X a ga):Z.nI X (.UnaryOp .Not a pos) (jp ga):=⟨have ha:=ha.un;PT.imp (FK ha) fun σ H Q h=>(rH (f:=ga) (k:=fun _ b=>.ok (!b)) (xB (X:=X) Q) h).post fun d H1 ⟨ρ1,sl1,_,q1⟩=>q1 H1 (aI.refl _)⟩
noncomputable def Cu (f g:Fe):Fe:=fun ρ=>f ρ>>=fun d=>tM d>>=fun b=>if b=true then g ρ else .ok (.bool false)
noncomputable def Kc (f g:Fe):Fe:=fun ρ=>f ρ>>=fun d=>tM d>>=fun b=>if b=true then .ok (.bool true) else g ρ
noncomputable def EW (f:Fe):Fe:=fun ρ=>f ρ>>=fun d=>tM d>>=fun b=>.ok (.bool (!b))
theorem xr {k:aS->Bool->R PyData} {f:Fe} {σ:St} {H:Hp} {Q:VK} (h:jt X h7 (fun ρ=>f ρ>>=fun d=>tM d>>=fun b=>k ρ b) σ H Q) :
    jt X h7 f σ H (fun x H'=>∃ c,x=.bl c/\jt X h7 (fun ρ=>k ρ c) σ H' Q) :=
  (eY (P:=h7) (f:=f) (k:=fun ρ d=>tM d>>=fun b=>k ρ b) (ff (X:=X) fM Q) h).post fun v H1 ⟨ρ1,d1,sl1,_,p1,q1⟩=>by
    cases d1 with
    | bool b =>
      have p2:v=.bl b:=by simpa only [Rp] using p1
      exact ⟨b,p2,ρ1,sl1,q1⟩
    | _=>exact q1.elim
theorem tD {op} (h:Z.cX X a fa):Z.cX X (.BoolOp op [a] pos) fa:=⟨have h:=h.un;FA h⟩
theorem tu (ha:Z.cX X a fa) (hb:Z.cX X (.BoolOp .And (b::fR) pos) fb):Z.cX X (.BoolOp .And (a::b::fR) pos) (Cu fa fb):=⟨have ha:=ha.un;have hb:=hb.un;PE.imp (Fv ha hb) fun σ H Q h=>(xr (k:=fun ρ b=>if b=true then fb ρ else .ok (.bool false)) h).post fun v H1 ⟨c,e1,q1⟩=>by
    refine ⟨c,e1,?_⟩;cases c with
    | true=>exact q1
    | false =>
      obtain ⟨_,_,q2⟩:=q1;exact q2 _ H1 (aI.refl _) (by simp only [Rp])⟩
theorem zQ (ha:Z.cX X a fa):Z.cX X (.UnaryOp .Not a pos) (EW fa):=⟨have ha:=ha.un;PE.imp (Fz ha) fun σ H Q h=>(xr (k:=fun ρ b=>.ok (.bool (!b))) h).post fun v H1 ⟨c,e1,_,_,q2⟩=>⟨c,e1,q2 _ H1 (aI.refl _) (by simp only [Rp])⟩⟩
noncomputable def D6 (t:aS->R Bool) (f g:Fe):Fe:=fun ρ=>t ρ>>=fun b=>if b=true then f ρ else g ρ
theorem kR {e:Expr} (hc:Z.nI X e ga) (ha:Z.cX X a fa) (hb:Z.cX X b fb):Z.cX X (.IfExp e a b pos) (D6 ga fa fb):=⟨have hc:=hc.un;have ha:=ha.un;have hb:=hb.un;PE.imp (A0 hc ha hb) fun σ H Q h=>(rH (f:=ga) (k:=fun ρ b=>if b=true then fa ρ else fb ρ) (ff (X:=X) fM Q) h).post fun d H1 ⟨ρ1,sl1,_,q1⟩=>by
    cases d with
    | true=>exact ⟨ρ1,sl1,q1⟩
    | false=>exact ⟨ρ1,sl1,q1⟩⟩
end
noncomputable def bq:Expr->Bool
  | .Starred ..=>false
  | _=>true
theorem bP {e:Expr} {es:List Expr} {env:Env} (h:bq e=true):starEach (e::es) env=(false,eval e env)::starEach es env:=by
  cases e <;> first | rfl | (cases h)
theorem pN {es:List Expr} {env:Env} {pos:Pos} (h:es.all bq=true):(backTo pos (starEach es env)).any (·.1)=false:=by
  induction es with
  | nil=>rfl
  | cons e es ih =>
    rw [List.all_cons,Bool.and_eq_true] at h;rw [bP h.1];have:=ih h.2;simpa [backTo] using this
noncomputable def aE:aS->R (List PyData):=fun _=>.ok []
noncomputable def ai (f:Fe) (g:aS->R (List PyData)):aS->R (List PyData):=fun ρ=>f ρ>>=fun d=>g ρ>>=fun ds=>.ok (d::ds)
section
variable {X:Cx} {e:Expr} {es:List Expr} {f:Fe} {g:aS->R (List PyData)}
theorem wM {I:Hp->PyData->V->Prop}:PA X [] (Bf X I aE):=PA.imp AX fun σ H Q ⟨ρ,sl,q⟩=>q [] H (aI.refl _) (by simp only [RA])
theorem mD:uZ X [] aE:=wM
theorem am  : Z.uZ X [] aE :=
  ⟨D2.mD⟩
theorem rV:Ez X [] aE:=wM
theorem tY {I:Hp->PyData->V->Prop} (hI:∀ H H' d v,I H d v->aI H H'->I H' d v) (ha:PE X e (jt X (fun _ H' d v=>I H' d v) f)) (hr:PA X es (Bf X I g))
    (hs:starEach (e::es) X.env=(false,eval e X.env)::starEach es X.env:=by rfl):PA X (e::es) (Bf X I (ai f g)) :=
  PA.imp (su ha hr hs) fun σ H Q h =>
    (eY (P:=fun _ H' d v=>I H' d v) (f:=f) (k:=fun ρ d=>g ρ>>=fun ds=>.ok (d::ds)) (Ev (X:=X) I Q) h).post fun v H1 ⟨ρ1,d1,sl1,_,p1,q1⟩ =>
      (mo (I:=I) (f:=g) (k:=fun _ ds=>.ok (d1::ds)) (Ev (X:=X) I Q) ⟨ρ1,sl1,q1⟩).post fun vs H2 ⟨_,ds1,_,s2,p3,q3⟩ =>
        q3 (v::vs) H2 (aI.refl _) (by simp only [RA];exact ⟨v,vs,rfl,hI _ _ _ _ p1 s2,p3⟩)
theorem iR (ha:cX X e f) (hr:uZ X es g) (hs:bq e=true:=by rfl):uZ X (e::es) (ai f g):=tY (fun _ _ _ _ h s=>h.mono s) ha hr (bP hs)
theorem af (ha:Z.cX X e f) (hr:Z.uZ X es g) (hs:bq e=true:=by rfl):Z.uZ X (e::es) (ai f g) :=
  ⟨D2.iR ha.un hr.un hs⟩
theorem lG (ha:dM X e f) (hr:Ez X es g) (hs:bq e=true:=by rfl):Ez X (e::es) (ai f g):=tY (fun _ _ _ _ h s=>h.mono s) ha hr (bP hs)
end
section
variable {K:PySem.W.Frag} {H:Hp} {x:V}
theorem lD (h:hV H .none x):x=.non:=by
  rcases h with h | h
  · simpa only [Rp] using h
  · simp only [jq] at h
theorem oM {b:Bool} (h:hV H (.bool b) x):x=.bl b:=by
  rcases h with h | h
  · simpa only [Rp] using h
  · simp only [jq] at h
theorem cb {i:Int} (h:hV H (.int i) x):x=.int i:=by
  rcases h with h | h
  · simpa only [Rp] using h
  · simp only [jq] at h
theorem gU {y:Str} (h:hV H (.str y) x):x=.str y:=by
  rcases h with h | h
  · simpa only [Rp] using h
  · simp only [jq] at h
theorem cM {ds:List PyData} (h:hV H (.tuple ds) x):∃ a vs,x=.ref a/\H a=some (.tup vs)/\bO H ds vs:=by
  rcases h with h | h
  · simpa only [Rp] using h
  · simp only [jq] at h
theorem eS {ds:List PyData} (h:hV H (.list ds) x):∃ a vs,x=.ref a/\nQ K H a vs/\bO H ds vs:=by
  rcases h with h | h
  · simp only [Rp] at h;obtain ⟨a,o,vs,e,ha,r⟩:=h;exact ⟨a,vs,e,.inl (.inr ⟨o,ha⟩),r⟩
  · simp only [jq] at h;obtain ⟨a,vs,e,ha,r⟩:=h;exact ⟨a,vs,e,.inl (.inl ha),r⟩
theorem DC {C:Addr} {fs:List (Str×V)} {kvs:List (PyData×PyData)} (h:zB H C fs kvs):kF kvs=true:=by
  cases kvs with
  | nil=>simp only [zB] at h
  | cons kd kvs=>simp only [zB] at h;rw [h.1];rfl
theorem zW {kvs:List (PyData×PyData)} (h:hV H (.dict kvs) x):∃ a,x=.ref a:=by
  rcases h with h | h
  · simp only [Rp] at h;rcases h with ⟨a,o,vs,e,_⟩ | ⟨a,o,C,dx,fs,e,_⟩
    · exact ⟨a,e⟩
    · exact ⟨a,e⟩
  · simp only [jq] at h;obtain ⟨a,vs,e,_⟩:=h;exact ⟨a,e⟩
theorem lC {kvs:List (PyData×PyData)} (hi:kF kvs=false) (h:hV H (.dict kvs) x):∃ a ks,x=.ref a/\Rd H a (.dK ks)/\eQ H kvs ks:=by
  rcases h with h | h
  · simp only [Rp] at h;rcases h with ⟨a,o,vs,e,ha,r⟩ | ⟨a,o,C,dx,fs,e,ha,r⟩
    · exact ⟨a,vs,e,.inr ⟨o,ha⟩,r⟩
    · rw [DC r] at hi;cases hi
  · simp only [jq] at h;obtain ⟨a,vs,e,ha,r⟩:=h;exact ⟨a,vs,e,.inl ha,r⟩
end
theorem bO.nil {H:Hp}:bO H [] []:=by simp only [bO]
theorem bO.cons {H:Hp} {d:PyData} {ds:List PyData} {v:V} {vs:List V} (h:Rp H d v) (t:bO H ds vs):bO H (d::ds) (v::vs):=by simp only [bO];exact ⟨v,vs,rfl,h,t⟩
theorem bO.nil_inv {H:Hp} {vs:List V} (h:bO H [] vs):vs=[]:=by simpa only [bO] using h
theorem bO.cons_inv {H:Hp} {d:PyData} {ds:List PyData} {vs:List V} (h:bO H (d::ds) vs):∃ v r,vs=v::r/\Rp H d v/\bO H ds r:=by simpa only [bO] using h
theorem bO.length {H:Hp}:∀ {ds:List PyData} {vs:List V},bO H ds vs->vs.length=ds.length
  | [],vs,h=>by rw [h.nil_inv];rfl
  | d::ds,vs,h=>by
    obtain ⟨v,r,rfl,_,t⟩:=h.cons_inv;rw [List.length_cons,List.length_cons,bO.length t]
theorem bO.get {H:Hp}:∀ {ds:List PyData} {vs:List V} {i:Nat} {d:PyData},bO H ds vs->ds[i]?=some d->∃ v,vs[i]?=some v/\Rp H d v
  | [],vs,i,d,h,e=>by simp at e
  | d0::ds,vs,0,d,h,e=>by
    obtain ⟨v,r,rfl,p,_⟩:=h.cons_inv;simp at e;subst e;exact ⟨v,rfl,p⟩
  | d0::ds,vs,i+1,d,h,e=>by
    obtain ⟨v,r,rfl,_,t⟩:=h.cons_inv;obtain ⟨u,e1,p⟩:=bO.get (i:=i) t (by simpa using e);exact ⟨u,by simpa using e1,p⟩
theorem bO.append {H:Hp}:∀ {ds es:List PyData} {vs us:List V},bO H ds vs->bO H es us->bO H (ds++es) (vs++us)
  | [],es,vs,us,h,g=>by rw [h.nil_inv];exact g
  | d::ds,es,vs,us,h,g=>by
    obtain ⟨v,r,rfl,p,t⟩:=h.cons_inv;exact bO.cons p (bO.append t g)
theorem bO.take {H:Hp}:∀ {ds:List PyData} {vs:List V} (n:Nat),bO H ds vs->bO H (ds.take n) (vs.take n)
  | ds,vs,0,h=>by simp only [List.take_zero];exact bO.nil
  | [],vs,n+1,h=>by rw [h.nil_inv];exact bO.nil
  | d::ds,vs,n+1,h=>by
    obtain ⟨v,r,rfl,p,t⟩:=h.cons_inv;exact bO.cons p (bO.take n t)
theorem bO.drop {H:Hp}:∀ {ds:List PyData} {vs:List V} (n:Nat),bO H ds vs->bO H (ds.drop n) (vs.drop n)
  | ds,vs,0,h=>h
  | [],vs,n+1,h=>by rw [h.nil_inv];exact bO.nil
  | d::ds,vs,n+1,h=>by
    obtain ⟨v,r,rfl,p,t⟩:=h.cons_inv;exact bO.drop n t
theorem bO.reverse {H:Hp}:∀ {ds:List PyData} {vs:List V},bO H ds vs->bO H ds.reverse vs.reverse
  | [],vs,h=>by rw [h.nil_inv];exact bO.nil
  | d::ds,vs,h=>by
    obtain ⟨v,r,rfl,p,t⟩:=h.cons_inv;rw [List.reverse_cons,List.reverse_cons];exact bO.append (bO.reverse t) (bO.cons p bO.nil)
theorem bO.rep {H:Hp} {ds:List PyData} {vs:List V} (h:bO H ds vs):∀ k:Nat,bO H (List.replicate k ds).flatten (List.replicate k vs).flatten
  | 0=>bO.nil
  | k+1=>by rw [List.replicate_succ,List.replicate_succ,List.flatten_cons,List.flatten_cons];exact bO.append h (bO.rep h k)
theorem bO.ints {H:Hp}:∀ ns:List Int,bO H (ns.map PyData.int) (ns.map V.int)
  | []=>bO.nil
  | n::ns=>bO.cons (by simp only [Rp]) (bO.ints ns)
theorem cz {H:Hp} {p:Addr} (h:H p=none) (o:HO):aI H (cQ H p o):=fun b u q=>by rw [aB (bi q h)];exact q
theorem dJ {H:Hp} {p:Addr} {ds:List PyData} {vs:List V} (h:H p=none) (r:bO H ds vs):Rp (cQ H p (.tup vs)) (.tuple ds) (.ref p):=by
  simp only [Rp];exact ⟨p,vs,rfl,bE,r.mono (cz h _)⟩
theorem dn {H:Hp} {p:Addr} {ds:List PyData} {vs:List V} (h:H p=none) (r:bO H ds vs):EB H (cQ H p (.lst vs)) (.list ds) (.ref p):=by
  refine ⟨?_,p,rfl,h⟩;simp only [jq];exact ⟨p,vs,rfl,bE,r.mono (cz h _)⟩
section
variable {P:Program} {w:World} {H:Hp} {h:Heap}
mutual
theorem uy (ok:ik P w H h):∀ (d:PyData) (v:V) (u:Value),d.canLay0=true->Rp H d v->cg v u->∃ as,Reads h u d as
  | .none,v,u,_,r,e=>by simp only [Rp] at r;subst r;cases e;exact ⟨_,.none⟩
  | .bool b,v,u,_,r,e=>by simp only [Rp] at r;subst r;cases e;exact ⟨_,.bool b⟩
  | .int i,v,u,_,r,e=>by simp only [Rp] at r;subst r;obtain ⟨t,rfl⟩:=e;exact ⟨_,.int i t⟩
  | .str x,v,u,_,r,e=>by simp only [Rp] at r;subst r;obtain ⟨t,rfl⟩:=e;exact ⟨_,.str x t⟩
  | .tuple ds,v,u,c,r,e=>by
    simp only [Rp] at r;obtain ⟨a,vs,rfl,ha,r⟩:=r;cases e;obtain ⟨_,its,rv,o,h1,h2,⟨n,h3⟩,_⟩:=(show cm P w H h a (.tup vs) from ok a _ ha)
    obtain ⟨as,q⟩:=g9 ok ds vs its (by simpa only [PyData.canLay0] using c) r rv;exact ⟨as,.tuple h1 h2 h3 (by simpa using q)⟩
  | .list ds,v,u,c,r,e=>by
    simp only [Rp] at r;obtain ⟨a,ob,vs,rfl,ha,r⟩:=r;cases e;obtain ⟨_,_,its,n,rv,h1⟩:=(show cm P w H h a (.frz ob (.lst vs)) from ok a _ ha)
    obtain ⟨as,q⟩:=g9 ok ds vs its (by simpa only [PyData.canLay0] using c) r rv;exact ⟨a::as,.list h1 rfl rfl (by simpa using q)⟩
  | .dict kvs,v,u,c,r,e=>by simp [PyData.canLay0] at c
theorem g9 (ok:ik P w H h):∀ (ds:List PyData) (vs:List V) (us:List Value),PyData.canLayAll0 ds=true->bO H ds vs->bR vs us->∃ as,ReadsAll h us ds as
  | [],vs,us,_,r,e=>by rw [r.nil_inv] at e;cases e;exact ⟨_,.nil⟩
  | d::ds,vs,us,c,r,e=>by
    obtain ⟨v,r',rfl,p,t⟩:=r.cons_inv;have c':d.canLay0=true/\PyData.canLayAll0 ds=true:=by simpa [PyData.canLayAll0] using c
    cases e with
    | cons e1 e2 =>
      obtain ⟨as,q1⟩:=uy ok d v _ c'.1 p e1;obtain ⟨bs,q2⟩:=g9 ok ds r' _ c'.2 t e2;exact ⟨as++bs,.cons q1 q2⟩
end
theorem dR (ok:ik P w H h) {d:PyData} {v:V} {u:Value} (c:d.canLay0=true) (r:hV H d v) (e:cg v u):∃ as,Reads h u d as:=by
  rcases r with r | r
  · exact uy ok d v u c r e
  · cases d <;> simp only [jq] at r
    · rename_i ds;obtain ⟨a,vs,rfl,ha,r⟩:=r;cases e;obtain ⟨_,its,n,rv,h1⟩:=(show cm P w H h a (.lst vs) from ok a _ ha)
      obtain ⟨as,q⟩:=g9 ok ds vs its (by simpa only [PyData.canLay0] using c) r rv;exact ⟨a::as,.list h1 rfl rfl (by simpa using q)⟩
    · simp [PyData.canLay0] at c
end
noncomputable def gt:PyData->Option dz
  | .int i=>some (.inl i)
  | .str y=>some (.inr y)
  | _=>none
noncomputable def gY:PyData->PyData->Bool
  | .int i,.int j=>decide (i=j)
  | .str i,.str j=>decide (i=j)
  | _,_=>false
noncomputable def sx (kvs:List (PyData×PyData)) (k v:PyData):List (PyData×PyData) :=
  if (kvs.any fun kv=>gY kv.1 k)=true then kvs.map (fun kv=>if gY kv.1 k=true then (kv.1,v) else kv) else kvs++[(k,v)]
theorem ka (κ κ':dz):gY (gm κ) (gm κ')=decide (κ=κ'):=by
  cases κ with
  | inl i =>
    cases κ' with
    | inl j=>simp [gm,gY]
    | inr j=>simp [gm,gY]
  | inr i =>
    cases κ' with
    | inl j=>simp [gm,gY]
    | inr j=>simp [gm,gY]
theorem eQ.cons {H:Hp} {k d:PyData} {kvs:List (PyData×PyData)} {κ:dz} {v:V} {ks:List (dz×V)} (e:k=gm κ) (h:Rp H d v) (t:eQ H kvs ks):eQ H ((k,d)::kvs) ((κ,v)::ks):=by
  simp only [eQ,BP];exact ⟨κ,v,ks,rfl,⟨e,h⟩,t⟩
theorem eQ.cons_inv {H:Hp} {k d:PyData} {kvs:List (PyData×PyData)} {ks:List (dz×V)} (h:eQ H ((k,d)::kvs) ks):∃ κ v r,ks=(κ,v)::r/\k=gm κ/\Rp H d v/\eQ H kvs r:=by
  simp only [eQ,BP] at h;obtain ⟨κ,v,r,e,⟨e1,p⟩,t⟩:=h;exact ⟨κ,v,r,e,e1,p,t⟩
theorem eQ.nil_inv {H:Hp} {ks:List (dz×V)} (h:eQ H [] ks):ks=[]:=by simpa only [eQ] using h
theorem eQ.any {H:Hp} (κ:dz):∀ {kvs:List (PyData×PyData)} {ks:List (dz×V)},eQ H kvs ks->(kvs.any fun kv=>gY kv.1 (gm κ))=ks.any fun kv=>decide (kv.1=κ)
  | [],ks,h=>by rw [h.nil_inv];rfl
  | (k,d)::kvs,ks,h=>by
    obtain ⟨κ',v,r,rfl,rfl,p,t⟩:=h.cons_inv;rw [List.any_cons,List.any_cons,eQ.any κ t,ka]
theorem eQ.repl {H:Hp} (κ:dz) {d:PyData} {v:V} (hv:Rp H d v):∀ {kvs:List (PyData×PyData)} {ks:List (dz×V)},eQ H kvs ks ->
    eQ H (kvs.map fun kv=>if gY kv.1 (gm κ)=true then (kv.1,d) else kv) (ks.map fun kv=>if kv.1=κ then (kv.1,v) else kv)
  | [],ks,h=>by rw [h.nil_inv];simp only [List.map_nil,eQ]
  | (k,d')::kvs,ks,h=>by
    obtain ⟨κ',v',r,rfl,rfl,p,t⟩:=h.cons_inv;rw [List.map_cons,List.map_cons];dsimp only;rw [ka];by_cases e:κ'=κ
    · rw [if_pos (decide_eq_true e),if_pos e];exact eQ.cons rfl hv (eQ.repl κ hv t)
    · rw [if_neg (by rw [decide_eq_false e];exact Bool.false_ne_true),if_neg e];exact eQ.cons rfl p (eQ.repl κ hv t)
theorem eQ.snoc {H:Hp} {κ:dz} {d:PyData} {v:V} (hv:Rp H d v):∀ {kvs:List (PyData×PyData)} {ks:List (dz×V)},eQ H kvs ks->eQ H (kvs++[(gm κ,d)]) (ks++[(κ,v)])
  | [],ks,h=>by rw [h.nil_inv];exact eQ.cons rfl hv (by simp only [eQ])
  | (k,d')::kvs,ks,h=>by
    obtain ⟨κ',v',r,rfl,rfl,p,t⟩:=h.cons_inv;exact eQ.cons rfl p (eQ.snoc hv t)
theorem eQ.put {H:Hp} (κ:dz) {d:PyData} {v:V} (hv:Rp H d v) {kvs:List (PyData×PyData)} {ks:List (dz×V)} (h:eQ H kvs ks):eQ H (sx kvs (gm κ) d) (lL ks κ v):=by
  unfold sx lL;rw [h.any κ];split
  · exact h.repl κ hv
  · exact h.snoc hv
noncomputable def jl (kvs:List (PyData×PyData)) (k:PyData):Option PyData:=(kvs.find? fun kv=>gY kv.1 k).map (·.2)
theorem eQ.look {H:Hp} (κ:dz):∀ {kvs:List (PyData×PyData)} {ks:List (dz×V)},eQ H kvs ks->(jl kvs (gm κ)=none/\kC ks κ=none)\/∃ d v,jl kvs (gm κ)=some d/\kC ks κ=some v/\Rp H d v
  | [],ks,h=>.inl (by rw [h.nil_inv];exact ⟨rfl,rfl⟩)
  | (k,d)::kvs,ks,h=>by
    obtain ⟨κ',v,r,rfl,rfl,p,t⟩:=h.cons_inv;unfold jl kC;by_cases e:κ'=κ
    · rw [List.find?_cons_of_pos (by rw [ka];exact decide_eq_true e),List.find?_cons_of_pos (by exact decide_eq_true e)];exact .inr ⟨d,v,rfl,rfl,p⟩
    · rw [List.find?_cons_of_neg (by rw [ka,decide_eq_false e];exact Bool.false_ne_true),List.find?_cons_of_neg (by rw [decide_eq_false e];exact Bool.false_ne_true)];exact eQ.look κ t
theorem uf {d:PyData} {κ:dz} (h:gt d=some κ):d=gm κ:=by
  cases d <;> simp only [gt] at h <;> cases h <;> rfl
theorem wF {H:Hp} {d:PyData} {x:V} {κ:dz} (h:hV H d x) (e:gt d=some κ):x=kV κ:=by
  cases d <;> simp only [gt] at e <;> cases e
  · exact cb h
  · exact gU h
theorem wL {H:Hp} {a:Addr} {kvs:List (PyData×PyData)} {ks:List (dz×V)} {κ:dz} (h:Rd H a (.dK ks)) (r:eQ H kvs ks):∃ o,og H a (kV κ) o/\o.isSome=(jl kvs (gm κ)).isSome/\∀ d,jl kvs (gm κ)=some d->∃ v,o=some v/\Rp H d v:=by
  refine ⟨kC ks κ,.inl ⟨ks,κ,h,rfl,rfl⟩,?_⟩;rcases r.look κ with ⟨e1,e2⟩ | ⟨d,v,e1,e2,p⟩
  · rw [e1,e2];exact ⟨rfl,fun d z=>by cases z⟩
  · rw [e1,e2];exact ⟨rfl,fun d z=>by cases z;exact ⟨v,rfl,p⟩⟩
noncomputable def ip:PyData->PyData->R PyData
  | .int i,.int j=>.ok (.int (i-j))
  | _,_=>.no
noncomputable def gk:PyData->PyData->R PyData
  | .int i,.int j=>if 0 < j then .ok (.int (i%j)) else .no
  | _,_=>.no
noncomputable def p0:PyData->PyData->R PyData
  | .int i,.int j=>if 0 < j/\j < 1073741824 then .ok (.int (i / j)) else .no
  | _,_=>.no
noncomputable def eG (p:Int->Int->Bool):PyData->PyData->R PyData
  | .int i,.int j=>.ok (.bool (p i j))
  | _,_=>.no
noncomputable def yj (x y:PyData):Bool:=x.canLay0&&y.canLay0&&decide (min x.depth y.depth<=60)
noncomputable def iP (x y:PyData):R PyData:=if yj x y=true then .ok (.bool (PyData.eqv x y)) else .no
noncomputable def zC (x y:PyData):R PyData:=if yj x y=true then .ok (.bool (!PyData.eqv x y)) else .no
noncomputable def iU:PyData->Bool
  | .none=>true
  | _=>false
noncomputable def rP (x y:PyData):R PyData:=if iU y=true then .ok (.bool (iU x)) else .no
noncomputable def mZ (x y:PyData):R PyData:=if iU y=true then .ok (.bool (!iU x)) else .no
noncomputable def r8 (xs:List PyData) (d:PyData):Bool:=PyData.canLayAll0 xs&&d.canLay0&&decide (min (PyData.depthAll xs) d.depth<=60)
noncomputable def uN (neg:Bool) (d:PyData):PyData->R PyData
  | .list xs=>if r8 xs d=true then .ok (.bool (if neg then !(xs.any fun y=>PyData.eqv y d) else xs.any fun y=>PyData.eqv y d)) else .no
  | .tuple xs=>if r8 xs d=true then .ok (.bool (if neg then !(xs.any fun y=>PyData.eqv y d) else xs.any fun y=>PyData.eqv y d)) else .no
  | .dict kvs=>if kF kvs=true then .no else match gt d with
    | some _=>.ok (.bool (if neg then !(jl kvs d).isSome else (jl kvs d).isSome))
    | none=>.no
  | _=>.no
section
variable {X:Cx} {a b c:Expr} {fa fb fc:Fe} {pos:Pos}
theorem dD {H:Hp} {i:Int}:Rp H (.int i) (.int i):=by simp only [Rp]
theorem fG {H:Hp} {i:Bool}:Rp H (.bool i) (.bl i):=by simp only [Rp]
theorem Bj {H:Hp} {i:Str}:Rp H (.str i) (.str i):=by simp only [Rp]
theorem F3:cH X h7 (BV fun i j=>.int (i-j)) ip:=fun H x y dx dy Q hx hy q=>by
  unfold ip at q;split at q
  · exact ⟨_,_,cb hx,cb hy,q _ H (aI.refl _) dD⟩
  · exact q.elim
theorem FZ:cH X h7 (rI (fun _ j=>0 < j) fun i j=>.int (i%j)) gk:=fun H x y dx dy Q hx hy q=>by
  unfold gk at q;split at q
  · split at q
    · rename_i h;exact ⟨_,_,cb hx,cb hy,h,q _ H (aI.refl _) dD⟩
    · exact q.elim
  · exact q.elim
theorem FX:cH X h7 (rI Gn fun i j=>.int (i / j)) p0:=fun H x y dx dy Q hx hy q=>by
  unfold p0 at q;split at q
  · split at q
    · rename_i h;exact ⟨_,_,cb hx,cb hy,h,q _ H (aI.refl _) dD⟩
    · exact q.elim
  · exact q.elim
theorem mT {p:Int->Int->Bool}:cH X h7 (BV fun i j=>.bl (p i j)) (eG p):=fun H x y dx dy Q hx hy q=>by
  unfold eG at q;split at q
  · exact ⟨_,_,cb hx,cb hy,q _ H (aI.refl _) fG⟩
  · exact q.elim
theorem fy (ha:Z.dM X a fa) (hb:Z.dM X b fb):Z.cX X (.BinOp a .Sub b pos) (e2 ip fa fb):=⟨have ha:=ha.un;have hb:=hb.un;mE fM Fu F3 ha hb⟩
theorem cB (ha:Z.dM X a fa) (hb:Z.dM X b fb):Z.cX X (.BinOp a .Mod b pos) (e2 gk fa fb):=⟨have ha:=ha.un;have hb:=hb.un;mE fM Fp FZ ha hb⟩
theorem io (ha:Z.dM X a fa) (hb:Z.dM X b fb):Z.cX X (.BinOp a .FloorDiv b pos) (e2 p0 fa fb):=⟨have ha:=ha.un;have hb:=hb.un;mE fM Dc FX ha hb⟩
noncomputable abbrev IG:Int->Int->Bool:=fun i j=>decide (i < j)
noncomputable abbrev Gk:Int->Int->Bool:=fun i j=>decide (i<=j)
noncomputable abbrev mO:Int->Int->Bool:=fun i j=>decide (j < i)
theorem wB (ha:Z.dM X a fa) (hb:Z.dM X b fb):Z.cX X (.Compare a [.Gt] [b] pos) (e2 (eG mO) fa fb):=⟨have ha:=ha.un;have hb:=hb.un;Al Ee mT ha hb (iY _)⟩
theorem tH (ha:Z.dM X a fa) (hb:Z.dM X b fb):Z.nI X (.Compare a [.Lt] [b] pos) (tE (e2 (eG IG) fa fb)):=⟨have ha:=ha.un;have hb:=hb.un;gx Hf mT ha hb (iY _)⟩
theorem zS (ha:Z.dM X a fa) (hb:Z.dM X b fb):Z.nI X (.Compare a [.LtE] [b] pos) (tE (e2 (eG Gk) fa fb)):=⟨have ha:=ha.un;have hb:=hb.un;gx AV mT ha hb (iY _)⟩
theorem gK (ha:Z.dM X a fa) (hb:Z.dM X b fb):Z.nI X (.Compare a [.Gt] [b] pos) (tE (e2 (eG mO) fa fb)):=⟨have ha:=ha.un;have hb:=hb.un;gx Ee mT ha hb (iY _)⟩
noncomputable def Dy (X:Cx) (neg:Bool):R2:=fun x y H Q=>∃ dx dy,hV H dx x/\hV H dy y/\yj dx dy=true/\Q (.bl (if neg then !PyData.eqv dx dy else PyData.eqv dx dy)) H
theorem oS {x y:PyData} (h:yj x y=true):x.canLay0=true/\y.canLay0=true/\min x.depth y.depth<=60:=by
  unfold yj at h;rw [Bool.and_eq_true,Bool.and_eq_true,decide_eq_true_eq] at h;exact ⟨h.1.1,h.1.2,h.2⟩
theorem AU (hu:X.A.units+64 < cLine):jr X (compareOp .Eq) (Dy X false):=by
  intro pins s σ H x y v u Q I rx ry h;obtain ⟨dx,dy,hx,hy,ho,q⟩:=h;obtain ⟨c1,c2,c3⟩:=oS ho;obtain ⟨as,r1⟩:=dR I.hok c1 hx rx;obtain ⟨bs,r2⟩:=dR I.hok c2 hy ry;exact PySem.SeqAt.compareEq_reads r1 r2 c1 c2 (by omega) ⟨.bl _,H,I,rfl,q⟩
theorem Ft (hu:X.A.units+64 < cLine):jr X (compareOp .NotEq) (Dy X true):=by
  intro pins s σ H x y v u Q I rx ry h;obtain ⟨dx,dy,hx,hy,ho,q⟩:=h;obtain ⟨c1,c2,c3⟩:=oS ho;obtain ⟨as,r1⟩:=dR I.hok c1 hx rx;obtain ⟨bs,r2⟩:=dR I.hok c2 hy ry;exact PySem.SeqAt.compareNe_reads r1 r2 c1 c2 (by omega) ⟨.bl _,H,I,rfl,q⟩
theorem Er:cH X h7 (Dy X false) iP:=fun H x y dx dy Q hx hy q=>by
  unfold iP at q;split at q
  · rename_i h;exact ⟨dx,dy,hx,hy,h,q _ H (aI.refl _) fG⟩
  · exact q.elim
theorem HK:cH X h7 (Dy X true) zC:=fun H x y dx dy Q hx hy q=>by
  unfold zC at q;split at q
  · rename_i h;exact ⟨dx,dy,hx,hy,h,q _ H (aI.refl _) fG⟩
  · exact q.elim
theorem rA (hu:X.A.units+64 < cLine) (ha:Z.dM X a fa) (hb:Z.dM X b fb):Z.cX X (.Compare a [.Eq] [b] pos) (e2 iP fa fb):=⟨have ha:=ha.un;have hb:=hb.un;Al (AU hu) Er ha hb (iY _)⟩
theorem dO (hu:X.A.units+64 < cLine) (ha:Z.dM X a fa) (hb:Z.dM X b fb):Z.nI X (.Compare a [.Eq] [b] pos) (tE (e2 iP fa fb)):=⟨have ha:=ha.un;have hb:=hb.un;gx (AU hu) Er ha hb (iY _)⟩
theorem ly (hu:X.A.units+64 < cLine) (ha:Z.dM X a fa) (hb:Z.dM X b fb):Z.nI X (.Compare a [.NotEq] [b] pos) (tE (e2 zC fa fb)):=⟨have ha:=ha.un;have hb:=hb.un;gx (Ft hu) HK ha hb (iY _)⟩
theorem xc {H:Hp} {d:PyData} {x:V} (h:hV H d x):decide (x=.non)=iU d:=by
  cases d with
  | none=>rw [lD h];rfl
  | bool b=>rw [oM h];rfl
  | int i=>rw [cb h];rfl
  | str y=>rw [gU h];rfl
  | tuple ds=>obtain ⟨a,vs,rfl,_⟩:=cM h;rfl
  | list ds=>obtain ⟨a,vs,rfl,_⟩:=eS (K:=default) h;rfl
  | dict kvs=>obtain ⟨a,rfl⟩:=zW h;rfl
theorem FY:cH X h7 (fun x y H Q=>y=.non/\Q (.bl (decide (x=.non))) H) rP:=fun H x y dx dy Q hx hy q=>by
  unfold rP at q;split at q
  · rename_i h;cases dy <;> simp only [iU,Bool.false_eq_true] at h;exact ⟨lD hy,by rw [xc hx];exact q _ H (aI.refl _) fG⟩
  · exact q.elim
theorem DM:cH X h7 (fun x y H Q=>y=.non/\Q (.bl (!decide (x=.non))) H) mZ:=fun H x y dx dy Q hx hy q=>by
  unfold mZ at q;split at q
  · rename_i h;cases dy <;> simp only [iU,Bool.false_eq_true] at h;exact ⟨lD hy,by rw [xc hx];exact q _ H (aI.refl _) fG⟩
  · exact q.elim
theorem qf (ha:Z.dM X a fa) (hb:Z.dM X b fb):Z.nI X (.Compare a [.Is] [b] pos) (tE (e2 rP fa fb)):=⟨have ha:=ha.un;have hb:=hb.un;gx Fn FY ha hb (iY _)⟩
theorem oB (ha:Z.dM X a fa) (hb:Z.dM X b fb):Z.nI X (.Compare a [.IsNot] [b] pos) (tE (e2 mZ fa fb)):=⟨have ha:=ha.un;have hb:=hb.un;gx Dd DM ha hb (iY _)⟩
noncomputable def Jt (X:Cx) (neg:Bool):R2:=fun x y H Q=>∃ d xs,hV H d x/\(hV H (.list xs) y\/hV H (.tuple xs) y)/\r8 xs d=true/\Q (.bl (if neg then !(xs.any fun z=>PyData.eqv z d) else xs.any fun z=>PyData.eqv z d)) H
noncomputable def FN (X:Cx) (neg:Bool):R2:=fun x y H Q=>Jt X neg x y H Q\/∃ a o,y=.ref a/\og H a x o/\Q (.bl (if neg then !o.isSome else o.isSome)) H
theorem o1 {xs:List PyData} {d:PyData} (h:r8 xs d=true):PyData.canLayAll0 xs=true/\d.canLay0=true/\min (PyData.depthAll xs) d.depth<=60:=by
  unfold r8 at h;rw [Bool.and_eq_true,Bool.and_eq_true,decide_eq_true_eq] at h;exact ⟨h.1.1,h.1.2,h.2⟩
theorem Fl (hu:X.A.units+64 < cLine):jr X (compareOp .In) (FN X false):=by
  intro pins s σ H x y v u Q I rx ry h;rcases h with h | ⟨a,o,rfl,g,q⟩
  case inr =>
    cases ry;exact Je (by omega) I g rx fun s' I'=>⟨.bl _,H,I',rfl,q⟩
  obtain ⟨d,xs,hx,hy,ho,q⟩:=h;obtain ⟨c1,c2,c3⟩:=o1 ho;obtain ⟨as,r1⟩:=dR I.hok c2 hx rx;rcases hy with hy | hy
  · obtain ⟨bs,r2⟩:=dR I.hok (d:=.list xs) (by simpa only [PyData.canLay0] using c1) hy ry;exact PySem.SeqAt.in_list_reads r2 r1 c1 c2 (by omega) ⟨.bl _,H,I,rfl,q⟩
  · obtain ⟨bs,r2⟩:=dR I.hok (d:=.tuple xs) (by simpa only [PyData.canLay0] using c1) hy ry;exact PySem.SeqAt.in_tuple_reads r2 r1 c1 c2 (by omega) ⟨.bl _,H,I,rfl,q⟩
theorem yV (hu:X.A.units+64 < cLine):jr X (compareOp .NotIn) (FN X true):=by
  intro pins s σ H x y v u Q I rx ry h;rcases h with h | ⟨a,o,rfl,g,q⟩
  case inr =>
    cases ry;exact Cq (by omega) I g rx fun s' I'=>⟨.bl _,H,I',rfl,q⟩
  obtain ⟨d,xs,hx,hy,ho,q⟩:=h;obtain ⟨c1,c2,c3⟩:=o1 ho;obtain ⟨as,r1⟩:=dR I.hok c2 hx rx;rcases hy with hy | hy
  · obtain ⟨bs,r2⟩:=dR I.hok (d:=.list xs) (by simpa only [PyData.canLay0] using c1) hy ry;exact PySem.SeqAt.notIn_list_reads r2 r1 c1 c2 (by omega) ⟨.bl _,H,I,rfl,q⟩
  · obtain ⟨bs,r2⟩:=dR I.hok (d:=.tuple xs) (by simpa only [PyData.canLay0] using c1) hy ry;exact PySem.SeqAt.notIn_tuple_reads r2 r1 c1 c2 (by omega) ⟨.bl _,H,I,rfl,q⟩
theorem Es {neg:Bool}:cH X h7 (FN X neg) (uN neg):=fun H x y dx dy Q hx hy q=>by
  unfold uN at q;split at q
  · split at q
    · rename_i h;exact .inl ⟨dx,_,hx,.inl hy,h,q _ H (aI.refl _) fG⟩
    · exact q.elim
  · split at q
    · rename_i h;exact .inl ⟨dx,_,hx,.inr hy,h,q _ H (aI.refl _) fG⟩
    · exact q.elim
  · split at q
    · exact q.elim
    rename_i hi;split at q
    · rename_i κ e;obtain ⟨a,ks,rfl,h,r⟩:=lC (Bool.not_eq_true _ ▸ hi) hy;obtain ⟨o,g,e1,_⟩:=wL (κ:=κ) h r;rw [<- wF hx e] at g;rw [<- uf e] at e1;exact .inr ⟨a,o,rfl,g,by rw [e1];exact q _ H (aI.refl _) fG⟩
    · exact q.elim
  · exact q.elim
theorem lx (hu:X.A.units+64 < cLine) (ha:Z.dM X a fa) (hb:Z.dM X b fb) (hm:behindInMarks .In b=false):Z.nI X (.Compare a [.In] [b] pos) (tE (e2 (uN false) fa fb)):=⟨have ha:=ha.un;have hb:=hb.un;gx (Fl hu) Es ha hb hm⟩
theorem tI (hu:X.A.units+64 < cLine) (ha:Z.dM X a fa) (hb:Z.dM X b fb) (hm:behindInMarks .NotIn b=false):Z.nI X (.Compare a [.NotIn] [b] pos) (tE (e2 (uN true) fa fb)):=⟨have ha:=ha.un;have hb:=hb.un;gx (yV hu) Es ha hb hm⟩
end
inductive uL where
  | nx (ρ:aS)
  | rt (d:PyData)
  | bk (ρ:aS)
  | ct (ρ:aS)
noncomputable abbrev Fs:=aS->R uL
structure iN (Fm H:Hp) (σ:St) (ρ:aS):Prop where
  fm:aI Fm H
  sl:Sl H σ ρ
  own:∀ (i:Nat) (d:PyData) (a:Addr),ρ[i]?=some (.own d)->σ[i]?=some (some (.ref a))->Fm a=none
  apart:∀ (i j:Nat) (d e:PyData) (a:Addr),ρ[i]?=some (.own d)->ρ[j]?=some (.own e)->σ[i]?=some (some (.ref a))->σ[j]?=some (some (.ref a))->i=j
theorem iN.mono {Fm H H':Hp} {σ:St} {ρ:aS} (h:iN Fm H σ ρ) (s:aI H H'):iN Fm H' σ ρ:=⟨h.fm.trans s,h.sl.mono s,h.own,h.apart⟩
noncomputable def Dz (X:Cx) (Fm:Hp) (r:R uL) (D:sR):Prop :=
  match r with
  | .ok (.nx ρ)=>∀ σ H,iN Fm H σ ρ->D.nx σ H
  | .ok (.rt d)=>∀ v H,aI Fm H->Rp H d v->D.rt v H
  | .ok (.bk ρ)=>∀ σ H,iN Fm H σ ρ->D.bk σ H
  | .ok (.ct ρ)=>∀ σ H,iN Fm H σ ρ->D.ct σ H
  | .ex c=>Xw X c Fm/\Gz X c Fm
  | .no=>False
noncomputable def El (X:Cx) (Fm:Hp) (g:Fs):TS:=fun D σ H=>∃ ρ,iN Fm H σ ρ/\Dz X Fm (g ρ) D
noncomputable def kJ (X:Cx) (st:Stmt) (g:Fs):Prop:=∀ Fm,PS X st (El X Fm g)
structure Z.kJ (X:Cx) (st:Stmt) (g:Fs):Prop where
  un:D2.kJ X st g
noncomputable def l6 (X:Cx) (st:List Stmt) (g:Fs):Prop:=∀ Fm,rg X st (El X Fm g)
structure Z.l6 (X:Cx) (st:List Stmt) (g:Fs):Prop where
  un:D2.l6 X st g
theorem PS.imp {X:Cx} {e:Stmt} {t t':TS} (h:PS X e t) (i:∀ D σ H,t' D σ H->t D σ H):PS X e t':=fun pins s σ H D I q=>h pins s σ H D I (i D σ H q)
theorem rg.imp {X:Cx} {e:List Stmt} {t t':TS} (h:rg X e t) (i:∀ D σ H,t' D σ H->t D σ H):rg X e t':=fun pins s σ H D I q=>h pins s σ H D I (i D σ H q)
section
variable {X:Cx} {Fm:Hp} {σ:St} {H:Hp} {D:sR}
theorem mr {P:Hp->Hp->PyData->V->Prop} {f:Fe} {k:aS->PyData->R uL} (h:El X Fm (fun ρ=>f ρ>>=k ρ) D σ H) :
    jt X P f σ H (fun v H1=>∃ ρ d,iN Fm H1 σ ρ/\aI H H1/\P H H1 d v/\Dz X Fm (k ρ d) D):=by
  obtain ⟨ρ,sl,q⟩:=h;refine ⟨ρ,sl.sl,?_⟩;dsimp only at q;cases e:f ρ with
  | ok d=>rw [e] at q;exact fun v H1 s p=>⟨ρ,d,sl.mono s,s,p,q⟩
  | ex c=>rw [e] at q;exact q.1.mono sl.fm
  | no=>rw [e] at q;exact q
theorem wE {f:aS->R Bool} {k:aS->Bool->R uL} (h:El X Fm (fun ρ=>f ρ>>=k ρ) D σ H):DA X f σ H (fun b H1=>∃ ρ,iN Fm H1 σ ρ/\aI H H1/\Dz X Fm (k ρ b) D):=by
  obtain ⟨ρ,sl,q⟩:=h;refine ⟨ρ,sl.sl,?_⟩;dsimp only at q;cases e:f ρ with
  | ok d=>rw [e] at q;exact fun H1 s=>⟨ρ,sl.mono s,s,q⟩
  | ex c=>rw [e] at q;exact q.1.mono sl.fm
  | no=>rw [e] at q;exact q
end
noncomputable def de:Fs:=fun ρ=>.ok (.nx ρ)
noncomputable def qQ (h:Fs):uL->R uL
  | .nx ρ=>h ρ
  | o=>.ok o
noncomputable def bf (g h:Fs):Fs:=fun ρ=>g ρ>>=qQ h
noncomputable def lu (t:aS->R Bool) (g h:Fs):Fs:=fun ρ=>t ρ>>=fun b=>if b=true then g ρ else h ρ
noncomputable def cK (f:Fe):Fs:=fun ρ=>f ρ>>=fun d=>.ok (.rt d)
noncomputable def HD:Fs:=fun _=>.ok (.rt .none)
noncomputable def Bl (f:Fe):Fs:=fun ρ=>f ρ>>=fun _=>.ok (.nx ρ)
noncomputable def FS:Fs:=fun ρ=>.ok (.bk ρ)
noncomputable def HA:Fs:=fun ρ=>.ok (.ct ρ)
noncomputable def cf (i:Nat) (f:Fe):Fs:=fun ρ=>f ρ>>=fun d=>.ok (.nx (ρ.set i (.val d)))
noncomputable def i8 (i:Nat) (f:Fe):Fs:=fun ρ=>f ρ>>=fun d=>.ok (.nx (ρ.set i (.own d)))
section
variable {X:Cx} {nl:Nat} {G:List Str} {st:Stmt} {sts:List Stmt} {g h:Fs} {f:Fe} {e:Expr} {pos pos':Pos} {x:Str}
theorem ci  : Z.l6 X [] de:=⟨fun Fm=>rg.imp Dt fun D σ H ⟨ρ,sl,q⟩=>q σ H sl⟩
theorem ao (h1:Z.kJ X st g) (h2:Z.l6 X sts h):Z.l6 X (st::sts) (bf g h):=⟨have h1:=h1.un;have h2:=h2.un;fun Fm=>by
  refine rg.imp (pE (h1 Fm) (h2 Fm)) fun D σ H ⟨ρ,sl,q⟩=>⟨ρ,sl,?_⟩
  unfold bf at q;cases e:g ρ with
  | ex c=>rw [e] at q;exact q
  | no=>rw [e] at q;exact q
  | ok o =>
    rw [e] at q;cases o with
    | nx ρ'=>exact fun σ' H' s'=>⟨ρ',s',q⟩
    | rt d=>exact q
    | bk ρ'=>exact q
    | ct ρ'=>exact q⟩
theorem av (h1:Z.kJ X st g):Z.l6 X [st] g:=⟨have h1:=h1.un;fun Fm=>xq (h1 Fm)⟩
theorem xR (he:Z.dM X e f) (hs:swapsWith e none pos.line X.env=pure false:=by rfl):Z.kJ X (.Expr e pos) (Bl f):=⟨have he:=he.un;fun Fm =>
  PS.imp (xp he hs) fun D σ H h=>(mr (P:=sT) (f:=f) (k:=fun ρ _=>.ok (.nx ρ)) h).post fun v H1 ⟨ρ,d,sl,_,_,q⟩=>q σ H1 sl⟩
theorem aM (he:Z.cX X e f):Z.kJ X (.Return (some e) pos) (cK f):=⟨have he:=he.un;fun Fm =>
  PS.imp (vW he) fun D σ H h=>(mr (P:=h7) (f:=f) (k:=fun _ d=>.ok (.rt d)) h).post fun v H1 ⟨ρ,d,sl,_,p,q⟩=>q v H1 sl.fm p⟩
theorem cJ {c:Expr} {a b:List Stmt} {t:aS->R Bool} (hc:Z.nI X c t) (ha:Z.l6 X a g) (hb:Z.l6 X b h):Z.kJ X (.If c a b pos) (lu t g h):=⟨have hc:=hc.un;have ha:=ha.un;have hb:=hb.un;fun Fm =>
  PS.imp (Hq hc (ha Fm) (hb Fm)) fun D σ H q=>(wE (f:=t) (k:=fun ρ b=>if b=true then g ρ else h ρ) q).post fun b H1 ⟨ρ,sl,_,q⟩=>by
    cases b with
    | true=>exact ⟨ρ,sl,q⟩
    | false=>exact ⟨ρ,sl,q⟩⟩
theorem Sl.set {H:Hp} {σ:St} {ρ:aS} {c:bn} {o:Option V} (h:Sl H σ ρ) (i:Nat) (hc:ju H c o):Sl H (σ.set i o) (ρ.set i c):=by
  refine ⟨by rw [List.length_set,List.length_set];exact h.1,fun j c' o' h1 h2=>?_⟩;rw [List.getElem?_set] at h1 h2;by_cases hij:i=j
  · rw [if_pos hij] at h1 h2;by_cases hi:i < ρ.length
    · rw [if_pos hi] at h1;rw [if_pos (by rw [h.1];exact hi)] at h2;cases h1;cases h2;exact hc
    · rw [if_neg hi] at h1;cases h1
  · rw [if_neg hij] at h1 h2;exact h.2 j c' o' h1 h2
theorem dj {ρ:aS} {i j:Nat} {c:bn} {d:PyData} (hc:∀ e,c≠.own e) (h:(ρ.set i c)[j]?=some (.own d)):i≠j/\ρ[j]?=some (.own d):=by
  rw [List.getElem?_set] at h;by_cases hij:i=j
  · rw [if_pos hij] at h;split at h
    · exact absurd (Option.some.inj h) (hc d)
    · cases h
  · rw [if_neg hij] at h;exact ⟨hij,h⟩
theorem iN.set {Fm H:Hp} {σ:St} {ρ:aS} {c:bn} {o:Option V} (h:iN Fm H σ ρ) (i:Nat) (hn:∀ e,c≠.own e) (hc:ju H c o):iN Fm H (σ.set i o) (ρ.set i c):=by
  refine ⟨h.fm,h.sl.set i hc,fun j d a h1 h2=>?_,fun j k d e a h1 h2 h3 h4=>?_⟩
  · obtain ⟨ne,h1⟩:=dj hn h1;rw [List.getElem?_set,if_neg ne] at h2;exact h.own j d a h1 h2
  · obtain ⟨ne,h1⟩:=dj hn h1;obtain ⟨ne',h2⟩:=dj hn h2;rw [List.getElem?_set,if_neg ne] at h3;rw [List.getElem?_set,if_neg ne'] at h4;exact h.apart j k d e a h1 h2 h3 h4
theorem sr {H:Hp} {d:PyData} {v:V} (h:jq H d v):∃ a o,v=.ref a/\H a=some o:=by
  cases d <;> simp only [jq] at h
  · obtain ⟨a,vs,e,ha,_⟩:=h;exact ⟨a,_,e,ha⟩
  · obtain ⟨a,vs,e,ha,_⟩:=h;exact ⟨a,_,e,ha⟩
theorem iN.setOwn {Fm H0 H:Hp} {σ:St} {ρ:aS} {d:PyData} {v:V} (h0:iN Fm H0 σ ρ) (h:iN Fm H σ ρ) (hs:aI H0 H) (i:Nat) (hn:EB H0 H d v):iN Fm H (σ.set i (some v)) (ρ.set i (.own d)):=by
  obtain ⟨p,a,rfl,ha⟩:=hn;have old:∀ (j:Nat) (e:PyData) (b:Addr),i≠j->(ρ.set i (.own d))[j]?=some (.own e)->(σ.set i (some (.ref a)))[j]?=some (some (.ref b))->ρ[j]?=some (.own e)/\σ[j]?=some (some (.ref b)):=fun j e b ne h1 h2=>by
    rw [List.getElem?_set,if_neg ne] at h1 h2;exact ⟨h1,h2⟩
  have notA:∀ (j:Nat) (e:PyData),ρ[j]?=some (.own e)->σ[j]?=some (some (.ref a))->False:=fun j e h1 h2=>by
    obtain ⟨u,e1,q⟩:=h0.sl.2 j _ _ h1 h2;cases e1;obtain ⟨b,o,e2,hb⟩:=sr q;cases e2;rw [ha] at hb;cases hb
  have here:∀ (b:Addr),(σ.set i (some (.ref a)))[i]?=some (some (.ref b))->b=a:=fun b h2=>by
    rw [List.getElem?_set,if_pos rfl] at h2;split at h2
    · cases h2;rfl
    · cases h2
  refine ⟨h.fm,h.sl.set i ⟨_,rfl,p⟩,fun j e b h1 h2=>?_,fun j k e f b h1 h2 h3 h4=>?_⟩
  · by_cases hij:i=j
    · subst hij;rw [here b h2];exact (h0.fm).free ha
    · obtain ⟨h1,h2⟩:=old j e b hij h1 h2;exact h.own j e b h1 h2
  · by_cases hij:i=j
    · subst hij;have eb:=here b h3;by_cases hik:i=k
      · exact hik
      · obtain ⟨h2,h4⟩:=old k f b hik h2 h4;rw [eb] at h4;exact (notA k f h2 h4).elim
    · obtain ⟨h1,h3⟩:=old j e b hij h1 h3;by_cases hik:i=k
      · subst hik;have eb:=here b h4;rw [eb] at h3;exact (notA j e h1 h3).elim
      · obtain ⟨h2,h4⟩:=old k f b hik h2 h4;exact h.apart j k e f b h1 h2 h3 h4
theorem aO (T:Tb X nl G) (i:Nat) (hN:(X.N.take nl)[i]?=some x) (he:Z.cX X e f) (hs:swapsWith e (some (.Name x pos')) pos.line X.env=pure false:=by rfl):Z.kJ X (.Assign [.Name x pos'] e pos) (cf i f):=⟨have he:=he.un;fun Fm=>by
  have hm:=T.loc x (List.mem_of_getElem? hN);have hi:X.N[i]?=some x:=by
    rw [List.getElem?_take] at hN;split at hN
    · exact hN
    · cases hN
  exact PS.imp (A8 T.nd hi hm.1 he hs hm.2) fun D σ H h=>(mr (P:=h7) (f:=f) (k:=fun ρ d=>.ok (.nx (ρ.set i (.val d)))) h).post fun v H1 ⟨ρ,d,sl,_,p,q⟩ =>
    q _ H1 (sl.set i (fun e z=>by cases z) ⟨v,rfl,p⟩)⟩
theorem jE (T:Tb X nl G) (i:Nat) (hN:(X.N.take nl)[i]?=some x) (he:Z.l5 X e f) (hs:swapsWith e (some (.Name x pos')) pos.line X.env=pure false:=by rfl):Z.kJ X (.Assign [.Name x pos'] e pos) (i8 i f):=⟨have he:=he.un;fun Fm=>by
  have hm:=T.loc x (List.mem_of_getElem? hN);have hi:X.N[i]?=some x:=by
    rw [List.getElem?_take] at hN;split at hN
    · exact hN
    · cases hN
  refine PS.imp (A8 T.nd hi hm.1 he hs hm.2) fun D σ H h=>?_
  obtain ⟨ρ0,sl0,q0⟩:=h;refine ⟨ρ0,sl0.sl,?_⟩;unfold i8 at q0;cases ef:f ρ0 with
  | ex c=>rw [ef] at q0;exact q0.1.mono sl0.fm
  | no=>rw [ef] at q0;exact q0
  | ok d =>
    rw [ef] at q0;exact fun v H1 s p=>q0 _ H1 (iN.setOwn sl0 (sl0.mono s) s i p)⟩
end
structure B0 (J:It) (Gd:Hp->Prop) (ds:List PyData):Prop where
  go:∀ i H,Gd H->i < ds.length->J.go i H
  yld:∀ i H x H' d,Gd H->ds[i]?=some d->J.yld i H x H'->aI H H'/\Rp H' d x
  stop:∀ i H,Gd H->ds.length<=i->J.stop i H
noncomputable def Ir (H0:Hp) (B:Addr->Prop) (Gd:Hp->Prop):Prop:=∀ H,Kp H0 H->(∀ b o,B b->H0 b=some o->H b=some o)->Gd H
noncomputable def JX (X:Cx) (f:aS->R (List PyData)):TI:=fun σ H Rk=>∃ ρ,Sl H σ ρ/\match f ρ with
  | .ok ds=>∀ J H',aI H H'->(∃ Gd,B0 J Gd ds/\Ir H' (fun _=>False) Gd)->Rk J H'
  | .ex c=>Xw X c H
  | .no=>False
noncomputable def rd (X:Cx) (tg iter:Expr) (f:aS->R (List PyData)):Prop:=PI X tg iter (JX X f)
structure Z.rd (X:Cx) (tg iter:Expr) (f:aS->R (List PyData)):Prop where
  un:D2.rd X tg iter f
noncomputable def JW (X:Cx) (b:PyData->aS->Option aS):TG:=fun v σ H Q=>∃ ρ d,Sl H σ ρ/\Rp H d v/\match b d ρ with
  | some ρ'=>∀ σ',Sl H σ' ρ'->(∀ (i:Nat) (e:PyData),ρ'[i]?=some (.own e)->ρ[i]?=some (.own e)/\σ'[i]?=σ[i]?)->Q σ' H
  | none=>False
noncomputable def sE (X:Cx) (tg:Expr) (b:PyData->aS->Option aS):Prop:=PG X tg (JW X b)
structure Z.sE (X:Cx) (tg:Expr) (b:PyData->aS->Option aS):Prop where
  un:D2.sE X tg b
noncomputable def aT (i:Nat):PyData->aS->Option aS:=fun d ρ=>some (ρ.set i (.val d))
theorem PG.imp {X:Cx} {e:Expr} {t t':TG} (h:PG X e t) (i:∀ v σ H Q,t' v σ H Q->t v σ H Q):PG X e t':=fun pins s σ H v u Q I r q=>h pins s σ H v u Q I r (i v σ H Q q)
theorem PI.imp {X:Cx} {tg e:Expr} {t t':TI} (h:PI X tg e t) (i:∀ σ H Q,t' σ H Q->t σ H Q):PI X tg e t':=fun pins s σ H Q I q=>h pins s σ H Q I (i σ H Q q)
section
variable {X:Cx} {nl:Nat} {G:List Str} {x:Str} {pos:Pos}
theorem Tb.nm (T:Tb X nl G) {i:Nat} (hN:(X.N.take nl)[i]?=some x):X.N[i]?=some x/\DZ X.env.scope x/\(X.fn x=true\/X.env.scope.names.lookup x=some .local):=by
  have hm:=T.loc x (List.mem_of_getElem? hN);have hi:X.N[i]?=some x:=by
    rw [List.getElem?_take] at hN;split at hN
    · exact hN
    · cases hN
  exact ⟨hi,hm⟩
theorem aP (T:Tb X nl G) (i:Nat) (hN:(X.N.take nl)[i]?=some x):Z.sE X (.Name x pos) (aT i):=⟨by
  obtain ⟨hi,h1,h2⟩:=T.nm hN;refine PG.imp (sv T.nd hi h1 h2) fun v σ H Q zq0=>?_
  obtain ⟨ρ,d,sl,p,q⟩:=zq0;refine q _ (sl.set i ⟨v,rfl,p⟩) fun j e h=>?_
  obtain ⟨ne,h⟩:=dj (fun e z=>by cases z) h;exact ⟨h,by rw [List.getElem?_set,if_neg ne]⟩⟩
end
noncomputable def gM (b:PyData->aS->Option aS) (g:Fs):List PyData->Fs
  | [],ρ=>.ok (.nx ρ)
  | d::ds,ρ=>match b d ρ with
    | none=>.no
    | some ρ1=>g ρ1>>=fun o=>match o with
      | .nx ρ2=>gM b g ds ρ2
      | .ct ρ2=>gM b g ds ρ2
      | .bk ρ2=>.ok (.nx ρ2)
      | .rt r=>.ok (.rt r)
noncomputable def lO (it:aS->R (List PyData)) (b:PyData->aS->Option aS) (g:Fs):Fs:=fun ρ=>it ρ>>=fun ds=>gM b g ds ρ
noncomputable def stab (Fm H:Hp):Hp:=fun b=>match H b with
  | some (.tup xs)=>some (.tup xs)
  | some (.frz o u)=>some (.frz o u)
  | _=>Fm b
theorem zl {Fm H:Hp} (h:aI Fm H):aI (stab Fm H) H:=fun b o e=>by
  unfold stab at e;split at e
  · rename_i q;rw [q];exact e
  · rename_i q;rw [q];exact e
  · exact h b o e
theorem DK {Fm H:Hp}:Kp H (stab Fm H):=⟨fun b xs e=>by unfold stab;rw [e],fun b o u e=>by unfold stab;rw [e]⟩
theorem DJ {Fm H:Hp} (h:aI Fm H):aI Fm (stab Fm H):=fun b o e=>by
  have:=h b o e;unfold stab;split
  · rename_i q;rw [this] at q;exact q.symm
  · rename_i q;rw [this] at q;exact q.symm
  · exact e
theorem iN.stab {Fm H:Hp} {σ:St} {ρ:aS} (h:iN Fm H σ ρ):iN (stab Fm H) H σ ρ:=by
  refine ⟨zl h.fm,h.sl,fun i d a h1 h2=>?_,h.apart⟩;have f:=h.own i d a h1 h2;obtain ⟨u,e1,q⟩:=h.sl.2 i _ _ h1 h2;cases e1;unfold D2.stab;cases d <;> simp only [jq] at q
  · obtain ⟨b,vs,e,hb,_⟩:=q;cases e;rw [hb];exact f
  · obtain ⟨b,vs,e,hb,_⟩:=q;cases e;rw [hb];exact f
theorem iN.unstab {Fm F H:Hp} {σ:St} {ρ:aS} (hF:aI Fm F) (h:iN F H σ ρ):iN Fm H σ ρ:=⟨hF.trans h.fm,h.sl,fun i d a h1 h2=>hF.free (h.own i d a h1 h2),h.apart⟩
theorem fw {X:Cx} {tg iter:Expr} {body:List Stmt} {it:aS->R (List PyData)} {b:PyData->aS->Option aS} {g:Fs} {pos:Pos} (hp:PassesOwn (model X.prog X.w) X.A X.env X.xe) (hc:X.calm=true) (hi:Z.rd X tg iter it) (hg:Z.sE X tg b) (hb:Z.l6 X body g) (hs:∀ x,foldedSetIterable iter X.env x=pure x:=by intro _;rfl):Z.kJ X (.For tg iter body [] pos) (lO it b g):=⟨have hi:=hi.un;have hg:=hg.un;have hb:=hb.un;fun Fm=>by
  intro pins s σ H D I h;obtain ⟨ρ,sl,q⟩:=h;unfold lO at q
  -- the frame: what is stable at the loop's jn is only known behind the iterator's making: the body is taken at every frame
  refine FJ (wi:=JX X it) (g:=JW X b) (tb:=fun D' σ' H'=>∃ F,El X F g D' σ' H') hp hc hi hg (fun pins' s' σ' H' D' I' ⟨F,q'⟩=>hb F pins' s' σ' H' D' I' q') hs pins s σ H D I ?_;refine ⟨ρ,sl.sl,?_⟩;cases ei:it ρ with
  | ex c=>rw [ei] at q;exact q.1.mono sl.fm
  | no=>rw [ei] at q;exact q
  | ok ds =>
    rw [ei] at q;intro J H1 s1 ⟨Gd,idt,sta⟩;have sl1:=sl.mono s1;let F:=stab Fm H1
    have hF:aI Fm F:=DJ sl1.fm
    -- the word: so many items are taken,and the fR gives what the whole gives
    refine ⟨fun i m σ' H'=>m=ds.length-i/\i<=ds.length/\∃ ρ',iN F H' σ' ρ'/\Dz X Fm (gM b g (ds.drop i) ρ') D,⟨ds.length,by simp,Nat.zero_le _,ρ,sl1.stab,by simpa using q⟩,?_⟩;rintro i m σ2 H2 ⟨rfl,hi',ρ2,sl2,q2⟩;have gd:Gd H2:=sta H2 (Kp.trans DK (Kp.of sl2.fm)) fun _ _ z=>z.elim
    by_cases hlt:i < ds.length
    · refine .inr ⟨idt.go i H2 gd hlt,fun σ' H'=>i+1<=ds.length/\∃ ρ',iN F H' σ' ρ'/\Dz X Fm (gM b g (ds.drop (i+1)) ρ') D,fun σ' H' ⟨z,p⟩=>⟨ds.length-(i+1),by omega,rfl,z,p⟩,fun x H3 y=>?_⟩;obtain ⟨d,hd⟩:∃ d,ds[i]?=some d:=⟨ds[i],List.getElem?_eq_getElem hlt⟩
      obtain ⟨s3,p3⟩:=idt.yld i H2 x H3 d gd hd y;have hdrop:ds.drop i=d::ds.drop (i+1):=by
        rw [List.drop_eq_getElem_cons hlt];congr 1;exact Option.some.inj ((List.getElem?_eq_getElem hlt).symm.trans hd)
      rw [hdrop] at q2;unfold gM at q2;have sl3:=sl2.mono s3;refine ⟨ρ2,d,sl3.sl,p3,?_⟩;cases eb:b d ρ2 with
      | none=>rw [eb] at q2;exact q2
      | some ρ3 =>
        rw [eb] at q2;intro σ4 sl4 hown;refine ⟨F,ρ3,⟨sl3.fm,sl4,fun j e a h1 h2=>?_,fun j k e f a h1 h2 h3 h4=>?_⟩,?_⟩
        · obtain ⟨z1,z2⟩:=hown j e h1;exact sl3.own j e a z1 (by rw [<- z2];exact h2)
        · obtain ⟨z1,z2⟩:=hown j e h1;obtain ⟨z3,z4⟩:=hown k f h2;exact sl3.apart j k e f a z1 z3 (by rw [<- z2];exact h3) (by rw [<- z4];exact h4)
        · have q3:Dz X Fm (g ρ3>>=fun o=>match o with
            | .nx ρ2=>gM b g (ds.drop (i+1)) ρ2
            | .ct ρ2=>gM b g (ds.drop (i+1)) ρ2
            | .bk ρ2=>.ok (.nx ρ2)
            | .rt r=>.ok (.rt r)) D:=q2
          cases eg:g ρ3 with
          | ex c=>rw [eg] at q3;exact ⟨q3.1.mono hF,q3.2.mono hF⟩
          | no=>rw [eg] at q3;exact q3
          | ok o =>
            rw [eg] at q3;cases o with
            | nx ρ4=>exact fun σ' H' s'=>⟨hlt,ρ4,s',q3⟩
            | ct ρ4=>exact fun σ' H' s'=>⟨hlt,ρ4,s',q3⟩
            | bk ρ4=>exact fun σ' H' s'=>q3 σ' H' (s'.unstab hF)
            | rt r=>exact fun v H' s' p'=>q3 v H' (hF.trans s') p'
    · have e:i=ds.length:=by omega
      subst e;refine .inl ⟨idt.stop _ H2 gd (Nat.le_refl _),?_⟩;rw [List.drop_length] at q2;exact q2 σ2 H2 (sl2.unstab hF)⟩
noncomputable def dB (n:Nat) (g:Fs):List PyData->R PyData:=fun ds=>g (ds.map bn.val++List.replicate (n-ds.length) .non)>>=fun o=>match o with
  | .rt d=>.ok d
  | .nx _=>.ok .none
  | _=>.no
noncomputable def dt (F:List PyData->R PyData) (n:Nat):Sp:=fun vs H Q E=>∃ ds,bO H ds vs/\ds.length=n/\match F ds with
  | .ok d=>∀ v H',aI H H'->Rp H' d v->Q v H'
  | .ex c=>∀ H',aI H H'->E (.str c 0) none H'
  | .no=>False
theorem Bw {H:Hp} {N:List Str}:∀ {ds:List PyData} {vs:List V},bO H ds vs->Sl H (L2.jn N vs) (ds.map bn.val++List.replicate (N.length-ds.length) .non):=fun {ds vs} r=>by
  have hl:=r.length;refine ⟨by unfold L2.jn;rw [List.length_append,List.length_append,List.length_map,List.length_map,List.length_replicate,List.length_replicate,hl],fun i c o h1 h2=>?_⟩;by_cases hi:i < ds.length
  · rw [List.getElem?_append_left (by simpa using hi),List.getElem?_map] at h1;cases e:ds[i]? with
    | none=>rw [e] at h1;cases h1
    | some d =>
      rw [e] at h1;cases h1;obtain ⟨v,e1,p⟩:=r.get e;unfold L2.jn at h2;rw [List.getElem?_append_left (by rw [List.length_map,hl];exact hi),List.getElem?_map,e1] at h2;cases h2;exact ⟨v,rfl,p⟩
  · rw [List.getElem?_append_right (by simpa using hi),List.getElem?_replicate] at h1;split at h1
    · cases h1;exact True.intro
    · cases h1
section
variable {P:Program} {w:World} {H:Hp} {h:Heap} {a:Addr}
theorem sj:∀ {o:HO},cm P w H h a o->∃ u,h.get? a=some u
  | .lst xs,x=>by obtain ⟨_,_,_,_,e⟩:=x;exact ⟨_,e⟩
  | .tup xs,x=>by obtain ⟨_,_,_,o,e,_⟩:=x;exact ⟨_,e⟩
  | .dK kvs,x=>by obtain ⟨_,_,_,_,o,_,_,e,_⟩:=x;exact ⟨_,e⟩
  | .dT kvs,x=>by obtain ⟨_,_,_,_,o,_,_,e,_⟩:=x;exact ⟨_,e⟩
  | .set S n,x=>by obtain ⟨o,_,_,_,e,_⟩:=x;exact ⟨_,e⟩
  | .ins C dx fs,x=>by obtain ⟨_,_,_,e,_⟩:=x;exact ⟨_,e⟩
  | .own y,x=>by obtain ⟨_,e⟩:=x;exact ⟨_,e⟩
  | .xd fs,x=>by obtain ⟨_,⟨_,_,_,e,_⟩,_⟩:=x;exact ⟨_,e⟩
  | .rng lo hi,x=>by obtain ⟨_,_,_,e⟩:=x;exact ⟨_,e⟩
  | .frz ob u,x=>by obtain ⟨e,_⟩:=x;exact ⟨_,e⟩
  | .tbl ps,x=>⟨_,(show h.get? a=some _ from x)⟩
  | .met f y,x=>⟨_,(show h.get? a=some _ from x)⟩
  | .ext φ,x=>by obtain ⟨_,⟨_,e⟩,_⟩:=x;exact ⟨_,e⟩
end
theorem re.un {P:Program} {w:World} {outer:List Env} {H H':Hp} {s s':Shared} {C:Addr} {e:Value} (f:re P w outer H s C H' e s'):Un (lZ outer) [] H H' s.heap s'.heap:=by
  obtain ⟨p,a0,B,_,fl,ok,_,cov⟩:=f.ex;refine ⟨fun b o q n hb _=>fl.1 _ _ (cov b o q n hb).1,fun b o q n hb _=>(f.slot b o q n hb).1,fun b o q n _=>?_,fun b o q _=>?_,fun b xs q=>f.same _ _ q,fun b o u q=>f.same _ _ q,fun b ps q=>⟨#[],by rw [f.same _ _ q];simp⟩⟩
  · by_cases hb:b∈lZ outer
    · exact (f.slot b o q n hb).2
    · exact (cov b o q n hb).2
  · cases n:H b with
    | none =>
      by_cases hb:b∈lZ outer
      · obtain ⟨sl,z⟩:=(f.slot b o q n hb).1;exact ⟨_,z⟩
      · exact ⟨o,fl.1 _ _ (cov b o q n hb).1⟩
    | some u =>
      obtain ⟨o',z⟩:=sj (ok b u (f.same _ _ n));exact ⟨o',fl.1 _ _ z⟩
theorem re.hok {P:Program} {w:World} {outer:List Env} {H H':Hp} {s s':Shared} {C:Addr} {e:Value} (f:re P w outer H s C H' e s'):ik P w H' s'.heap:=by
  obtain ⟨p,a0,B,_,fl,ok,_,_⟩:=f.ex;exact ok.kept fun b u q=>fl.1 b u q
theorem EA.un {P:Program} {w:World} {outer:List Env} {H H':Hp} {s s':Shared} {C:Addr} {e:Value} (f:EA P w outer H s C H' e s'):Un (lZ outer) [] H H' s.heap s'.heap:=f.hld.un
theorem re.inv {X:Cx} {pins:List (Addr×Obj)} {σ:St} {Hc H1:Hp} {sc s':Shared} {C:Addr} {e:Value} (f:re X.prog X.w X.stack Hc sc C H1 e s') (I:aX X pins σ Hc sc):aX X pins σ H1 s' :=
  I.call' f.os f.un f.hok f.bare fun b z=>absurd z (by simp)
section
variable {P:Program} {w:World} {l:List Env} {H H':Hp} {s s':Shared} {C p:Addr} {e:Value}
theorem re.again {a0:Value} {B h':Heap} (f:re P w l H s C H' e s') (t:tf B l p (.ref C) a0 s'.heap) (t':tf B l p (.ref C) a0 h') (up:s'.heap.UpToSlots h') (okB:ik P w H' B) (hp:H' p=none)
    (cov:∀ b o,s.heap.get? b=some o->H b=none->b∉lZ l->B.get? b=some o/\H' b=none):re P w l H s C H' (.ref p) { s' with heap:=h' }:=by
  refine ⟨f.os,f.bare,f.same,⟨p,a0,B,rfl,t',okB,hp,cov⟩,fun b o q n hb=>?_⟩;obtain ⟨⟨sl,q2⟩,n2⟩:=f.slot b o q n hb;obtain ⟨_,o3,q3,nf⟩:=t.2.2.1.mem hb;rw [q2] at q3;cases q3;obtain ⟨sl3,q4⟩:=up b _ q2 nf;exact ⟨⟨sl3,q4⟩,n2⟩
theorem AM {x:Value} {env env0:Env} (h:env.frame=env0.frame):noteFrame x env=noteFrame x env0:=by
  unfold noteFrame PySem.frameOf;rw [h]
theorem re.note {M:Model} {A:Around} {E:Value->Shared->Prop} {Q:Unit->Shared->Prop} {env env0:Env} {outer:List Env} {L:Addr} (f:re P w l H s C H' e s') (hl:l=env0::outer) (hfr:A.frames=some l) (h0:env0.frame=some L) (h1:env.frame=some L)
    (k:∀ h',re P w l H s C H' e { s' with heap:=h' }->s'.heap.UpToSlots h'->Q () { s' with heap:=h' }):wpAny M A (noteFrame e env) Q E s':=by
  subst hl;obtain ⟨p,a0,B,rfl,t,okB,hp,cov⟩:=f.ex;rw [AM (h1.trans h0.symm)];exact uI hfr h0 t fun h' t' up=>k h' (f.again t t' up okB hp cov) up
theorem re.pass {α:Type} {M:Model} {A:Around} {E:Value->Shared->Prop} {Q:α->Shared->Prop} {env:Env} {what:String} (f:re P w l H s C H' e s') (k:∀ h',re P w l H s C H' e { s' with heap:=h' }->E e { s' with heap:=h' }):wpAny M A (PySem.passOn what e env:Sem α) Q E s':=by
  obtain ⟨p,a0,B,rfl,t,okB,hp,cov⟩:=f.ex;exact BD t fun h' t' up=>k h' (f.again t t' up okB hp cov)
end
section
variable {P:Program} {w:World} {K:PySem.W.Frag} {mg:Str->Option Value} {base:Heap} {N:List Str} {qual:Str} {sc:Scope} {f:Addr} {cdv:Value} {A:Around} {outer:List Env} {s:Shared} {H:Hp} {E:XK} {c:Str}
theorem Ge (h:∀ H',aI H H'->E (.str c 0) none H'):Xw (fY (cP P w mg) P w K mg base N qual sc f cdv A outer s H E) c H:=by
  intro H1 s1 C hm pins σ Hc sc' e s' I fl;obtain ⟨p,a0,B,rfl,fly,okB,hp,cov⟩:=fl.ex;have old:∀ b o,s.heap.get? b=some o->b≠s.heap.objs.size:=fun b o q=>Nat.ne_of_lt (Heap.lt_size q)
  refine zp I.ok.frames rfl fly fun h' fl' up=>⟨c,C,H1,hm,⟨fl.os.trans I.os,fl.bare,s1,⟨p,a0,B,rfl,fl',okB,hp,fun b o q n hb=>?_⟩,fun b o q n hb=>?_⟩,h H1 s1⟩
  · have q1:=I.base.keep b o q n hb (by simp [fY]);have n1:=I.base.free b o q n (by simp [fY]);refine cov b o q1 n1 fun z=>?_
    have z':b∈(s.heap.objs.size::lZ outer):=z;rcases List.mem_cons.mp z' with z2 | z2
    · exact old b o q z2
    · exact hb z2
  · obtain ⟨sl,q1⟩:=I.base.slot b o q n hb (by simp [fY]);have n1:=I.base.free b o q n (by simp [fY]);have hb':b∈lZ (fY (cP P w mg) P w K mg base N qual sc f cdv A outer s H E).stack:=List.mem_cons_of_mem _ hb;obtain ⟨⟨sl',q2⟩,n2⟩:=fl.slot b _ q1 n1 hb';obtain ⟨_,o3,q3,nf⟩:=fly.2.2.1.mem hb';rw [q2] at q3;cases q3;obtain ⟨sl3,q4⟩:=up b _ q2 nf;exact ⟨⟨sl3,q4⟩,n2⟩
theorem DW (h:∀ H',aI H H'->E (.str c 0) none H'):Gz (fY (cP P w mg) P w K mg base N qual sc f cdv A outer s H E) c H:=by
  intro C hm pins σ Hm sm sH I h' p vs hx;have hin:∀ env∈(fY (cP P w mg) P w K mg base N qual sc f cdv A outer s H E).stack,∀ b,env.frame=some b->b∈lZ (fY (cP P w mg) P w K mg base N qual sc f cdv A outer s H E).stack:=fun env he b hb=>List.mem_filterMap.mpr ⟨env,he,hb⟩
  have old:∀ b o,s.heap.get? b=some o->b≠s.heap.objs.size:=fun b o q=>Nat.ne_of_lt (Heap.lt_size q)
  refine wpAny_leaves_madeW (s:={ sm with heap:=h' }) (base:=PySem.W.hideAll sm.heap (lZ (fY (cP P w mg) P w K mg base N qual sc f cdv A outer s H E).stack)) I.ok.frames rfl (fun b o q=>PySem.W.of_hideAll _ q) (PySem.W.funFrames_hide I.stack hin) hx fun h'' t fl' _ _ up =>
    ⟨c,C,Hm,hm,⟨I.os,I.bare,sH,⟨p,.ref t,_,rfl,fl',fun b u q=>?_,?_,fun b o q n hb=>?_⟩,fun b o q n hb=>?_⟩,h Hm sH⟩
  · refine (I.hok b u q).stay (fun c' v hc z=>PySem.W.hideAll_get _ z fun m=>?_) (fun _ z=>z) fun _ _ z=>z
    have hn:=I.stkFree c' m;rcases hc with rfl | hc
    · rw [hn] at q;cases q
    · rw [hn] at hc;cases hc
  · cases q:Hm p with
    | none=>rfl
    | some u =>
      obtain ⟨o',z⟩:=sj (I.hok p u q);rw [hx.new] at z;cases z
  · have q1:=I.base.keep b o q n hb (by simp [fY]);have n1:=I.base.free b o q n (by simp [fY]);refine ⟨PySem.W.hideAll_get _ q1 fun z=>?_,n1⟩;have z':b∈(s.heap.objs.size::lZ outer):=z;rcases List.mem_cons.mp z' with z2 | z2
    · exact old b o q z2
    · exact hb z2
  · obtain ⟨sl,q1⟩:=I.base.slot b o q n hb (by simp [fY]);have n1:=I.base.free b o q n (by simp [fY]);have hb':b∈lZ (fY (cP P w mg) P w K mg base N qual sc f cdv A outer s H E).stack:=List.mem_cons_of_mem _ hb;obtain ⟨_,o3,q3,nf⟩:=I.stack.mem hb';rw [q1] at q3;cases q3;obtain ⟨sl3,q4⟩:=up b _ (hx.keeps _ _ q1) nf;exact ⟨⟨sl3,q4⟩,n1⟩
end
theorem CH {P:Program} {w:World} {K:PySem.W.Frag} {mg:Str->Option Value} {base:Heap} {x qual:Str} {st:Stmt} {f:Addr} {fd:FuncData} {N ps:List Str} {k:Nat} {g:Fs} (F:gc K x qual st f fd) (S:aY N ps (ak st))
    (body:∀ (cdv:Value) (A:Around) (outer:List Env) (s:Shared) (H:Hp) (E:XK),fu k (A.deeper (envOfC qual (ak st) s.heap.objs.size f cdv)) ->
      l6 (fY (cP P w mg) P w K mg base N qual (ak st) f cdv A outer s H E) (di st) g):bg P w K mg base (cP P w mg) (k+1) f fd ps (dt (dB N.length g) ps.length):=by
  obtain ⟨oc,od,kV,doc,pm,an,cdv,ct,osl,rfl,lk,hcd⟩:=F.ex;refine Ao lk hcd S (fun vs H Q E ⟨ds,r,hl,_⟩=>by rw [r.length];exact hl) fun A outer s H vs Q E hr h=>?_
  obtain ⟨ds,r,hl,q⟩:=h;have noOwn:∀ (i:Nat) (d:PyData),(ds.map bn.val++List.replicate (N.length-ds.length) bn.non)[i]?=some (.own d)->False:=fun i d h1=>by
    by_cases hi:i < ds.length
    · rw [List.getElem?_append_left (by simpa using hi),List.getElem?_map] at h1;cases e:ds[i]? with
      | none=>rw [e] at h1;cases h1
      | some d=>rw [e] at h1;cases h1
    · rw [List.getElem?_append_right (by simpa using hi),List.getElem?_replicate] at h1;split at h1
      · cases h1
      · cases h1
  refine ⟨_,body cdv A outer s H E hr H,_,⟨aI.refl _,Bw r,fun i d a h1 h2=>(noOwn i d h1).elim,fun i j d e a h1 h2 h3 h4=>(noOwn i d h1).elim⟩,?_⟩;unfold dB at q;cases eg:g (ds.map bn.val++List.replicate (N.length-ds.length) .non) with
  | ex c=>rw [eg] at q;exact ⟨Ge q,DW q⟩
  | no=>rw [eg] at q;exact q.elim
  | ok o =>
    rw [eg] at q;cases o with
    | rt d=>exact fun v H' s' p=>q v H' s' p
    | nx ρ=>exact fun σ' H' s'=>q .non H' s'.fm (by simp only [Rp])
    | bk ρ=>exact q.elim
    | ct ρ=>exact q.elim
noncomputable def aA (F:List PyData->R PyData) (fs:aS->R (List PyData)):Fe:=fun ρ=>fs ρ>>=F
theorem CB {X:Cx} {k n:Nat} {f:Addr} {fd:FuncData} {ps:List Str} {F:List PyData->R PyData} {x:Str} {p pos:Pos} {e:Expr} {es:List Expr} {fs:aS->R (List PyData)} {nl:Nat} {G:List Str}
    (C:bg X.prog X.w X.K X.mg X.base (cP X.prog X.w X.mg) k f fd ps (dt F n)) (hr:fu k X.A) (T:Tb X nl G) (j:Nat) (hG:G[j]?=some x) (hm:X.mg x=some (.ref f)) (hk:PySem.W.keepIn X.K (.ref f)=true) (hb:bN X.K fd ps []) (ha:uZ X (e::es) fs)
    (hlen:(e::es).length=n) (hfs:∀ ρ ds,fs ρ=.ok ds->ds.length=n)
    (he:(e::es).all bq=true:=by rfl):cX X (.Call (.Name x p) (e::es) [] pos) (aA F fs):=by
  rw [List.all_cons,Bool.and_eq_true] at he;have g:=T.gl x (List.mem_of_getElem? hG);refine PE.imp (Dh C hr g.1 hm hk hb .nil xk ha g.2.1 (bP he.1) (pN he.2)) fun σ H Q zq0=>?_
  obtain ⟨ρ,sl,q⟩:=zq0;refine ⟨ρ,sl,?_⟩;unfold aA at q;cases e1:fs ρ with
  | ex c=>rw [e1] at q;exact q
  | no=>rw [e1] at q;exact q
  | ok ds =>
    rw [e1] at q;intro vs H1 s1 r1;rw [List.append_nil];refine ⟨ds,pF.mp r1,hfs ρ ds e1,?_⟩;have q':uO X h7 (F ds) H Q:=q;cases e2:F ds with
    | ok d=>rw [e2] at q';exact fun v H' s' p'=>q' v H' (s1.trans s') p'
    | ex c=>rw [e2] at q';exact fun H' s'=>Xw.ex q' H' (s1.trans s')
    | no=>rw [e2] at q';exact q'
theorem aq:∀ ρ ds,aE ρ=.ok ds->ds.length=0:=fun ρ ds e=>by cases e;rfl
theorem ah {f:Fe} {g:aS->R (List PyData)} {n:Nat} (h:∀ ρ ds,g ρ=.ok ds->ds.length=n):∀ ρ ds,ai f g ρ=.ok ds->ds.length=n+1:=fun ρ ds e=>by
  unfold ai at e;cases e1:f ρ with
  | ex c=>rw [e1] at e;cases e
  | no=>rw [e1] at e;cases e
  | ok d =>
    rw [e1] at e;cases e2:g ρ with
    | ex c=>rw [e2] at e;cases e
    | no=>rw [e2] at e;cases e
    | ok ds'=>rw [e2] at e;cases e;rw [List.length_cons,h ρ ds' e2]
theorem vo {scope:Scope} {env:Env} (h:∀ x∈scope.names,x.2=.free->∃ c,env.cells.lookup x.1=some c) :
    ∃ cl,closureFor scope env=pure cl/\(∀ x c,cl.lookup x=some c->env.cells.lookup x=some c)/\∀ x∈scope.names,x.2=.free->∃ c,cl.lookup x.1=some c:=by
  suffices gen:∀ (names:List (Str×NameKind)) (acc:List (Str×Addr)),(∀ x∈names,x.2=.free->∃ c,env.cells.lookup x.1=some c)->(∀ x c,acc.lookup x=some c->env.cells.lookup x=some c) ->
      ∃ cl,(forIn names acc fun x r=>if (x.snd==NameKind.free)=true then do let a <- cellOf env x.fst;pure (ForInStep.yield ((x.fst,a)::r)) else pure (ForInStep.yield r):Sem (List (Str×Addr)))=pure cl /\
        (∀ x c,cl.lookup x=some c->env.cells.lookup x=some c)/\(∀ x c,acc.lookup x=some c->∃ c',cl.lookup x=some c')/\∀ x∈names,x.2=.free->∃ c,cl.lookup x.1=some c by
    obtain ⟨cl,h1,h2,_,h4⟩:=gen scope.names [] h fun x c e=>by simp at e
    refine ⟨cl,?_,h2,h4⟩;simp only [closureFor];rw [h1];rfl
  intro names;induction names with
  | nil=>intro acc _ ha;exact ⟨acc,rfl,ha,fun x c e=>⟨c,e⟩,fun x hx=>by cases hx⟩
  | cons y r ih =>
    intro acc hn ha;obtain ⟨n,k⟩:=y;by_cases hk:k=.free
    · subst hk;obtain ⟨c,hc⟩:=hn (n,.free) List.mem_cons_self rfl;obtain ⟨cl,e1,e2,e3,e4⟩:=ih ((n,c)::acc) (fun x hx=>hn x (List.mem_cons_of_mem _ hx)) (fun x c' e=>by
        rw [List.lookup_cons] at e;split at e
        · rename_i q;have:x=n:=by simpa using q
          subst this;cases e;exact hc
        · exact ha x c' e)
      refine ⟨cl,?_,e2,fun x c' e=>?_,fun x hx hf=>?_⟩
      · rw [List.forIn_cons];have:cellOf env n=pure c:=by unfold cellOf;rw [hc]
        simp only [beq_self_eq_true,if_true,this,pure_bind];exact e1
      · by_cases hx:x=n
        · subst hx;exact e3 x c (by rw [List.lookup_cons];simp)
        · have hb:(x==n)=false:=by simpa using hx
          exact e3 x c' (by rw [List.lookup_cons,hb];exact e)
      · rcases List.mem_cons.mp hx with rfl | hx
        · exact e3 n c (by rw [List.lookup_cons];simp)
        · exact e4 x hx hf
    · obtain ⟨cl,e1,e2,e3,e4⟩:=ih acc (fun x hx=>hn x (List.mem_cons_of_mem _ hx)) ha;refine ⟨cl,?_,e2,e3,fun x hx hf=>?_⟩
      · rw [List.forIn_cons];have:(k==NameKind.free)=false:=by simpa using hk
        simp only [this,Bool.false_eq_true,if_false,pure_bind];exact e1
      · rcases List.mem_cons.mp hx with rfl | hx
        · exact absurd hf hk
        · exact e4 x hx hf
noncomputable def Hy (env:Env) (p:Str×NameKind):NameKind:=if (p.2==.free&&env.scope.kind==.function&&env.kindOf p.1==some .cell)=true then .cell else p.2
theorem qa (scope:Scope) (env:Env):(relabel scope env).names=scope.names.map fun p=>(p.1,Hy env p):=by
  unfold relabel;refine List.map_congr_left fun p _=>?_
  obtain ⟨n,k⟩:=p;unfold Hy;dsimp only;split <;> rfl
theorem nr (g:Str×NameKind->NameKind) (x:Str):∀ l:List (Str×NameKind),(l.map fun p=>(p.1,g p)).lookup x=(l.lookup x).map fun k=>g (x,k)
  | []=>rfl
  | (n,k)::r=>by
    rw [List.map_cons];cases hx:x==n with
    | true =>
      have e:x=n:=by simpa using hx
      subst e;simp
    | false =>
      have ne:¬ x=n:=by simpa using hx
      simp only [List.lookup_cons,hx];exact nr g x r
theorem lb (scope:Scope) (env:Env) (x:Str):(relabel scope env).names.lookup x=(scope.names.lookup x).map fun k=>Hy env (x,k):=by
  rw [qa];exact nr _ _ _
theorem fE {scope:Scope} {env:Env} {x:Str} {k:NameKind} (h:scope.names.lookup x=some k) (hk:k≠.free):(relabel scope env).names.lookup x=some k:=by
  rw [lb,h];have:(k==NameKind.free)=false:=by simpa using hk
  simp only [Hy,this,Bool.false_and,Bool.false_eq_true,if_false,Option.map_some]
theorem i7 {scope:Scope} {env:Env} {x:Str} (h:scope.names.lookup x=some .free):(relabel scope env).names.lookup x=some .free\/(relabel scope env).names.lookup x=some .cell:=by
  rw [lb,h];unfold Hy;dsimp only [Option.map_some];split
  · exact .inr rfl
  · exact .inl rfl
theorem uz {scope:Scope} {env:Env} {x:Str} (hc:∀ y∈scope.names,y.2≠.cell) (h:(relabel scope env).names.lookup x=some .free\/(relabel scope env).names.lookup x=some .cell):(x,NameKind.free)∈scope.names:=by
  cases e:scope.names.lookup x with
  | none =>
    rw [lb,e] at h;rcases h with h | h <;> cases h
  | some k =>
    by_cases hk:k=.free
    · subst hk;exact PySem.mem_of_lookup e
    · exfalso;have:=fE (env:=env) e hk;rw [this] at h;rcases h with h | h
      · cases h;exact hk rfl
      · cases h;exact hc _ (PySem.mem_of_lookup e) rfl
noncomputable def aQ (X:Cx) (N:List Str) (scope:Scope) (cl:List (Str×Addr)) (C:Addr) (s:Shared) (H:Hp) (fp:List Addr) (E:Value->Shared->Prop:=fun _ _=>False):Cx :=
  { X with N:=N,s₀:=s,H₀:=H,env:=compEnvC scope cl C X.env,outer:=X.stack,stack:=X.stack,ex:=fp,fn:=fun _=>false,pn:=[],xe:=E }
noncomputable def dS (sc:Scope) (N:List Str) (own:Nat) (G:List Str) (oN:List Str) (fr:List Nat):Prop :=
  sc.kind=.function/\(∀ y∈sc.names,y.2≠.cell)/\(∀ y∈sc.names,y.2=.local->sc.names.lookup y.1=some .local)/\N.Nodup/\(∀ x∈N.take own,sc.names.lookup x=some .local)/\(∀ x∈N.drop own,sc.names.lookup x=some .free) /\
  (∀ x∈N,(x==("__debug__" : Str))=false/\(x==("__classdict__" : Str))=false)/\(∀ x∈G,sc.names.lookup x=some .globalImplicit/\(x==("__debug__" : Str))=false/\x≠("__name__" : Str)) /\
  own<=N.length/\(N.drop own).map some=fr.map fun i=>oN[i]?
noncomputable instance {sc:Scope} {N:List Str} {own:Nat} {G oN:List Str} {fr:List Nat}:Decidable (dS sc N own G oN fr):=by unfold dS;infer_instance
theorem Cm {X:Cx} {nl:Nat} {G0:List Str} (T:Tb X nl G0) {sc:Scope} {N:List Str} {own:Nat} {G oN:List Str} {fr:List Nat} (ck:dS sc N own G oN fr) (cl:List (Str×Addr)) (C:Addr) (s:Shared) (H:Hp) (fp:List Addr) :
    Tb (aQ X N sc cl C s H fp) own G:=by
  obtain ⟨_,_,_,nd,l,f,db,g,_,_⟩:=ck;refine ⟨T.hu,T.calm,nd,fun x hx=>?_,fun x hx=>?_,fun x hx=>?_⟩
  · refine ⟨?_,db x hx⟩;have hx':x∈N.take own++N.drop own:=by rw [List.take_append_drop];exact hx
    rcases List.mem_append.mp hx' with z | z
    · exact .inl (fE (l x z) (by decide))
    · rcases i7 (env:=X.env) (f x z) with q | q
      · exact .inr (.inr q)
      · exact .inr (.inl q)
  · have q:=fE (env:=X.env) (l x hx) (by decide);exact ⟨.inl q,.inr q⟩
  · obtain ⟨g1,g2,g3⟩:=g x hx;exact ⟨fE (env:=X.env) g1 (by decide),g2,g3⟩
theorem Ab {X:Cx} {nl:Nat} {G0:List Str} (T:Tb X nl G0) {sc:Scope} {N:List Str} {own:Nat} {G oN:List Str} {fr:List Nat} (ck:dS sc N own G oN fr) (cl:List (Str×Addr)) (C:Addr) (s:Shared) (H:Hp) (fp:List Addr) (E:Value->Shared->Prop) :
    Tb (aQ X N sc cl C s H fp E) own G:=let T1:=Cm T ck cl C s H fp;⟨T1.hu,T1.calm,T1.nd,T1.vis,T1.loc,T1.gl⟩
noncomputable def J7 (X:Cx) (ifs:List Expr) (t:TT):Prop :=
  ∀ (pins:List (Addr×Obj)) (s:Shared) (σ:St) (H:Hp) (Q:Bool->Hp->Prop),aX X pins σ H s->t σ H Q->wpAny (model X.prog X.w) X.A (forIn ifs true fun c r=>if r=true then do let ok <- isTrue c X.env (eval c X.env);pure (ForInStep.yield ok) else pure (ForInStep.yield r))
    (TP X pins σ Q) X.xe s
noncomputable def sS (X:Cx) (ifs:List Expr) (t:aS->R Bool):Prop:=J7 X ifs (DA X t)
structure Z.sS (X:Cx) (ifs:List Expr) (t:aS->R Bool):Prop where
  un:D2.sS X ifs t
theorem cw {X:Cx}:Z.sS X [] (fun _=>.ok true):=⟨fun pins s σ H Q I ⟨ρ,sl,q⟩=>wpAny_tests_nil ⟨H,I,q H (aI.refl _)⟩⟩
theorem dN {X:Cx} {c:Expr} {t:aS->R Bool} (h:Z.nI X c t):Z.sS X [c] t:=⟨have h:=h.un;fun pins s σ H Q I q=>wpAny_tests_one (h pins s σ H Q I q)⟩
noncomputable def bT (b:PyData->aS->Option aS) (t:aS->R Bool) (f:Fe) (ρ:aS):List PyData->R (List PyData)
  | []=>.ok []
  | d::ds=>match b d ρ with
    | none=>.no
    | some ρ1=>t ρ1>>=fun k=>if k=true then f ρ1>>=fun x=>bT b t f ρ ds>>=fun xs=>.ok (x::xs) else bT b t f ρ ds
noncomputable def az (own:Nat) (fr:List Nat) (ρ:aS):aS:=List.replicate own .non++fr.map fun i=>ρ.getD i .non
noncomputable def mL {α:Type}:R α->R α
  | .ex _=>.no
  | r=>r
noncomputable def bL (it:aS->R (List PyData)) (own:Nat) (fr:List Nat) (b:PyData->aS->Option aS) (t:aS->R Bool) (f:Fe):Fe:=fun ρ =>
  mL (it ρ)>>=fun ds=>if ds.length<=sizeLine then match bT b t f (az own fr ρ) ds with
    | .ok xs=>.ok (.list xs)
    | .ex c=>.ex c
    | .no=>.no
  else .no
noncomputable def h8 (own:Nat) (fr:List Nat) (σ:St):St:=List.replicate own none++fr.map fun i=>(σ[i]?).join
theorem Ck {H:Hp} {σ:St} {ρ:aS} (h:Sl H σ ρ) (own:Nat) (fr:List Nat) (hin:∀ i∈fr,i < ρ.length):Sl H (h8 own fr σ) (az own fr ρ):=by
  refine ⟨by simp [h8,az],fun i c o h1 h2=>?_⟩;unfold az at h1;unfold h8 at h2;by_cases hi:i < own
  · rw [List.getElem?_append_left (by simpa using hi),List.getElem?_replicate,if_pos hi] at h1;cases h1;exact True.intro
  · rw [List.getElem?_append_right (by simpa using hi),List.getElem?_map,List.length_replicate] at h1 h2;cases e:fr[i-own]? with
    | none=>rw [e] at h1;cases h1
    | some j =>
      rw [e] at h1 h2;have hj:=hin j (List.mem_of_getElem? e);have hj':j < σ.length:=by rw [h.1];exact hj
      cases h1;cases h2;refine h.2 j _ _ ?_ ?_
      · show ρ[j]?=some (ρ.getD j .non);rw [List.getD_eq_getElem?_getD,List.getElem?_eq_getElem hj];rfl
      · show σ[j]?=some ((σ[j]?).join);rw [List.getElem?_eq_getElem hj'];rfl
section
variable {X:Cx} {pins:List (Addr×Obj)} {σ:St} {H:Hp} {s:Shared} {nl:Nat} {G0:List Str} {sc:Scope} {N:List Str} {own:Nat} {G:List Str} {fr:List Nat} {cl:List (Str×Addr)} {fp:List Addr} {a C:Addr} {h4:Heap} {t4:Nat} {m:Str->Option Value}
theorem Au (I:aX X pins σ H s) (ck:dS sc N own G X.N fr) (hf:∀ b∈fp,nJ X pins H b) (hob:∀ b∈fp,b < s.heap.objs.size) (hcl1:∀ x c,cl.lookup x=some c->X.env.cells.lookup x=some c) (hcl2:∀ x∈sc.names,x.2=.free->∃ c,cl.lookup x.1=some c)
    (vis:∀ x∈X.N,EG X.env.scope x) (hout:∀ y∈sc.names,y.2=.free->X.env.kindOf y.1=some .cell\/X.env.kindOf y.1=some .free)
    (ha:s.heap.objs.size<=a) (hC:s.heap.objs.size<=C) (hac:a≠C) (keep:∀ b o,s.heap.get? b=some o->h4.get? b=some o) (hl:h4.get? a=some { cls:=.type "list",data:=.seq #[] 0 }) (hn:h4.Ns C m) :
    aX (aQ X N sc cl C s H fp) [] (h8 own fr σ) (cQ H a (.lst [])) { s with heap:=h4,toks:=t4 }:=by
  obtain ⟨ck1,ck2,ck3,nd,l,f,db,g,ol,ofr⟩:=ck;have hHa:H a=none:=I.hok.fresh ha;have hHC:H C=none:=I.hok.fresh hC;have lt:∀ {b:Addr} {o:Obj},s.heap.get? b=some o->b < s.heap.objs.size:=fun e=>Heap.lt_size e
  have cellLt:∀ x c,cl.lookup x=some c->c < s.heap.objs.size:=fun x c e=>by
    obtain ⟨v,q⟩:=I.cell x c (hcl1 x c e);exact q.lt
  refine ⟨⟨I.ok.mod,ck1,I.ok.glob,I.ok.blt,hC,fun x y c h1 h2=>I.ok.inj x y c (hcl1 x c h1) (hcl1 y c h2),fun x hx=>?_,fun x c hx=>(Bool.false_ne_true hx).elim,I.ok.hd,I.ok.frames,.inl rfl,fun b hb=>⟨?_,fun x c e=>?_⟩,I.bs,Nat.le_trans I.ok.bsz I.sz,fun b o e hb=>?_,fun b hb hs=>?_,I.stack,I.stkFree⟩,
    rfl,I.bare,Un.laid keep ha hHa,⟨m,hn,fun i x v h1 h2 h3=>?_⟩,fun x c e=>?_,?_,fun x c e=>?_,fun p hp=>?_,?_,?_⟩
  · have q:=uz (env:=X.env) ck2 (show (relabel sc X.env).names.lookup x=some .free\/(relabel sc X.env).names.lookup x=some .cell from hx.elim .inr .inl);exact hcl2 _ q rfl
  · exact Nat.ne_of_lt (Nat.lt_of_lt_of_le (hob b hb) hC)
  · exact (hf b hb).2.2.2.2.1 x c (hcl1 x c e)
  · rcases (hf b hb).2.2.2.1 with z | z
    · exact I.ok.noex b o e z
    · exact absurd (Nat.lt_of_lt_of_le (Heap.lt_size e) I.ok.bsz) (Nat.not_lt.mpr z)
  · rcases List.mem_cons.mp (I.stkSub b hs) with z | z
    · exact (hf b hb).2.1 z
    · exact (hf b hb).2.2.1 z
  · -- a captured name
    have hi:¬ i < own:=fun hi=>by
      unfold h8 at h2;rw [List.getElem?_append_left (by simpa using hi),List.getElem?_replicate,if_pos hi] at h2;cases h2
    unfold h8 at h2;rw [List.getElem?_append_right (by simpa using hi),List.getElem?_map,List.length_replicate] at h2;cases e:fr[i-own]? with
    | none=>rw [e] at h2;cases h2
    | some j =>
      rw [e] at h2;have h2':(σ[j]?).join=some v:=Option.some.inj h2;have hσ:σ[j]?=some (some v):=by
        cases q:σ[j]? with
        | none=>rw [q] at h2';cases h2'
        | some o=>rw [q] at h2';exact congrArg some h2'
      have hx:(N.drop own)[i-own]?=some x:=by
        rw [List.getElem?_drop];have:own+(i-own)=i:=by omega
        rw [this];exact h1
      have hj:X.N[j]?=some x:=by
        have q:=congrArg (fun l=>l[i-own]?) ofr;simp only [List.getElem?_map,hx,e,Option.map_some] at q;exact (Option.some.inj q).symm
      have hfree:=f x (List.mem_of_getElem? hx);obtain ⟨c,hc⟩:=hcl2 _ (PySem.mem_of_lookup hfree) rfl;have hXc:=hcl1 x c hc;obtain ⟨m0,hn0,hl0⟩:=I.loc;obtain ⟨u,ru,lk⟩:=hl0 j x v hj hσ (vis x (List.mem_of_getElem? hj));have ko:=hout _ (PySem.mem_of_lookup hfree) rfl;refine ⟨u,ru,.inr ⟨(i7 (env:=X.env) hfree).symm,c,hc,?_⟩⟩;rcases lk with ⟨k1,_⟩ | ⟨_,c',e1,ob,q1,q2⟩
      · exfalso;rcases ko with k | k <;> (rw [k] at k1;cases k1)
      · rw [hXc] at e1;cases e1;exact ⟨ob,keep _ _ q1,q2⟩
  · obtain ⟨v,o,q,d⟩:=I.cell x c (hcl1 x c e);exact ⟨v,o,keep _ _ q,d⟩
  · show cQ H a (.lst []) C=none;rw [aB (Ne.symm hac)];exact hHC
  · have q:=I.freeC x c (hcl1 x c e);show cQ H a (.lst []) c=none;rw [aB (Nat.ne_of_lt (Nat.lt_of_lt_of_le (cellLt x c e) ha))];exact q
  · exact absurd (show p∈([]:List (Addr×Obj)) from hp) (by simp)
  · exact I.hok.laid keep ha ⟨Nat.zero_le _,[],0,.nil,hl⟩
  · show (h8 own fr σ).length=N.length;have q:=congrArg List.length ofr;rw [List.length_map,List.length_map,List.length_drop] at q;unfold h8;rw [List.length_append,List.length_replicate,List.length_map];omega
end
noncomputable def kx (ρ0 ρ1:aS):Prop:=ρ1.length=ρ0.length/\∀ (i:Nat) (c:bn),ρ0[i]?=some c->c=.non\/ρ1[i]?=some c
theorem Sl.unfit {H:Hp} {σ:St} {ρ0 ρ1:aS} (h:Sl H σ ρ1) (f:kx ρ0 ρ1):Sl H σ ρ0:=by
  refine ⟨h.1.trans f.1,fun i c o h1 h2=>?_⟩;rcases f.2 i c h1 with rfl | q
  · exact True.intro
  · exact h.2 i c o q h2
noncomputable def zK (H0:Hp) (σ:St) (ρ:aS):Prop:=∀ (i:Nat) (e:PyData),ρ[i]?=some (.own e)->∃ v,σ[i]?=some (some v)/\jq H0 e v
inductive J0 (X:Cx) (tn:Nat->Heap->Prop) (fp:List Addr) (a:Addr) (b:PyData->aS->Option aS) (t:aS->R Bool) (f:Fe) (ds:List PyData) (r:R (List PyData)) (H0:Hp) (ρ0:aS) (n:Nat) (s:Shared):Prop
  | mk (i:Nat) (acc:List PyData) (σ:St) (H:Hp) (vs:List V) (hn:n=ds.length-i) (hi:i<=ds.length) (hal:acc.length<=i) (I:aX X [] σ H s) (st:tn i s.heap) (fr:∀ b∈fp,H b=none) (s0:aI H0 H) (hla:H a=some (.lst vs)) (ra:bO H acc vs) (hc:(bT b t f ρ0 (ds.drop i)>>=fun fR=>.ok (acc++fR))=r) (sl:Sl H σ ρ0) (ow:zK H0 σ ρ0)
theorem yc {X:Cx} {J:It} {tn:Nat->Heap->Prop} {it a:Addr} {fp:List Addr} {tg iter elt:Expr} {ifs:List Expr} {scope:Scope} {pos:Pos} {b:PyData->aS->Option aS} {t:aS->R Bool} {f:Fe} {ds:List PyData} {r:R (List PyData)} {Gd:Hp->Prop} {H0:Hp} {ρ0:aS}
    {Rk:Result->Shared->Prop} (T:vd X.prog X.w X.K tg J fp it tn) (calm:X.calm=true) (hfp:∀ H:Hp,(∀ b∈fp,H b=none)->∀ b∈fp,nJ X [] H b) (hxe:∀ e s',X.xe e s'->notedBy (model X.prog X.w) X.A X.env (fun x s'=>Rk (.error x) s') e s') (hX:∀ c,r=.ex c->Xw X c H0) (hno:r≠.no) (hg:sE X tg b) (ht:sS X ifs t) (hf:cX X elt f)
    (idt:B0 J Gd ds) (sta:Ir H0 (fun _=>False) Gd) (hsz:ds.length<=sizeLine) (ha0:H0 a=none) (hb0:∀ d ρ1,b d ρ0=some ρ1->kx ρ0 ρ1)
    (fin:∀ xs s' σ' H' vs,r=.ok xs->aX X [] σ' H' s'->aI H0 H'->H' a=some (.lst vs)->bO H' xs vs->Rk (.ok .next) s') :
    ∀ {s:Shared} {σ:St} {H:Hp},aX X [] σ H s->tn 0 s.heap->(∀ b∈fp,H b=none)->aI H0 H->H a=some (.lst [])->bT b t f ρ0 ds=r->Sl H σ ρ0->zK H0 σ ρ0 ->
      codeAny (model X.prog X.w) X.A (.compLoop (.ListComp elt [⟨tg,iter,ifs,0⟩] scope pos) 0 (.ref it) (.ref a) X.env) Rk s:=by
  intro s σ H I st fr s0 hla hc sl ow;refine codeAny_loop rfl (J0 X tn fp a b t f ds r H0 ρ0) (fun n s hI=>?_) ds.length ⟨0,[],σ,H,[],by simp,Nat.zero_le _,Nat.le_refl _,I,st,fr,s0,hla,bO.nil,by rw [List.drop_zero,hc];cases r <;> rfl,sl,ow⟩;clear I st fr s0 hla hc sl ow;obtain ⟨i,acc,σ,H,vs,rfl,hi,hal,I,st,fr,s0,hla,ra,hc,sl,ow⟩:=hI;show wpAny _ X.A ((compTurn (.ListComp elt [⟨tg,iter,ifs,0⟩] scope pos) 0 (.ref it) (.ref a) X.env).onRaise (fun x=>do noteFrame x X.env;theTreesLotGoes x)) _ _ s;refine wpAny_noted ?_;rw [compTurn_list];have gd:Gd H:=sta H (Kp.of s0) fun _ _ z=>z.elim
  have noex:∀ {α:Type} {m:Sem α} {Q Q':α->Shared->Prop} {s:Shared},wpAny (model X.prog X.w) X.A m Q X.xe s->(∀ v s,Q v s->Q' v s)->wpAny (model X.prog X.w) X.A m Q' (notedBy (model X.prog X.w) X.A X.env (fun x s'=>Rk (.error x) s')) s:=fun h k =>
    wpAny_mono h k hxe
  by_cases hlt:i < ds.length
  · obtain ⟨d,hd⟩:∃ d,ds[i]?=some d:=⟨ds[i],List.getElem?_eq_getElem hlt⟩
    have hdrop:ds.drop i=d::ds.drop (i+1):=by
      rw [List.drop_eq_getElem_cons hlt];congr 1;exact Option.some.inj ((List.getElem?_eq_getElem hlt).symm.trans hd)
    rw [hdrop] at hc;unfold bT at hc;refine wpAny_bind (wpAny_standAt (wpAny_bind (du (T.item X rfl rfl rfl calm i [] s σ H _ I (hfp H fr) st (idt.go i H gd hlt)) fun r s1 zq0=>?_)));obtain ⟨u,hr,h1⟩:=zq0;subst hr;refine wpAny_bind (du h1 fun _ s2 zq0=>?_);obtain ⟨x,H2,I2,r2,y2,st2,fr2⟩:=zq0;obtain ⟨s02,p2⟩:=idt.yld i H x H2 d gd hd y2;have I2':=I2.pinned (hfp H2 fr2) (T.obj _ _ st2);have back:∀ {σ':St} {H':Hp} {s':Shared},aX X ([]++pC fp s2.heap) σ' H' s'->aX X [] σ' H' s'/\tn (i+1) s'.heap/\∀ b∈fp,H' b=none:=fun {σ' H' s'} J' =>
      ⟨J'.unpinned,T.keep _ _ _ st2 fun b hb o e=>(J'.pin (b,o) (List.mem_append_right _ (List.mem_append_right _ (iX hb e)))).1,fun b hb=>by
        obtain ⟨o,e,_⟩:=T.obj _ _ st2 b hb;exact (J'.pin (b,o) (List.mem_append_right _ (List.mem_append_right _ (iX hb e)))).2.1⟩
    cases eb:b d ρ0 with
    | none=>rw [eb] at hc;exact absurd hc.symm hno
    | some ρ1 =>
      rw [eb] at hc;dsimp only at hc;have hfit:=hb0 d ρ1 eb;refine wpAny_bind (noex (hg _ s2 σ H2 x u (fun σ' H'=>H'=H2/\Sl H2 σ' ρ1/\∀ (i:Nat) (e:PyData),ρ1[i]?=some (.own e)->ρ0[i]?=some (.own e)/\σ'[i]?=σ[i]?) I2' r2 ⟨ρ0,d,sl.mono s02,p2,by rw [eb];exact fun σ' sl' w'=>⟨rfl,sl',w'⟩⟩) fun _ s3 ⟨σ3,H3,I3,e3,sl3,w3⟩=>?_);subst e3;have ow3:zK H0 σ3 ρ0:=fun j e h=>by
        obtain ⟨v,z1,z2⟩:=ow j e h;rcases hfit.2 j _ h with z | z
        · cases z
        · exact ⟨v,by rw [(w3 j e z).2];exact z1,z2⟩
      cases et:t ρ1 with
      | no=>rw [et] at hc;exact absurd hc.symm hno
      | ex c =>
        rw [et] at hc;exact wpAny_bind (noex (ht _ s3 σ3 H3 (fun _ _=>False) I3 ⟨ρ1,sl3,by rw [et];exact (hX c hc.symm).mono (s0.trans s02)⟩) fun ok s4 ⟨H4,I4,z⟩=>z.elim)
      | ok k =>
        rw [et] at hc;refine wpAny_bind (noex (ht _ s3 σ3 H3 (fun b' H'=>b'=k/\aI H3 H') I3 ⟨ρ1,sl3,by rw [et];exact fun H' s'=>⟨rfl,s'⟩⟩) fun ok s4 ⟨H4,I4,e4,s34⟩=>?_);subst e4;have s04:=(s0.trans s02).trans s34;have hla4:H4 a=some (.lst vs):=s34 _ _ (s02 _ _ hla);have ra4:bO H4 acc vs:=(ra.mono s02).mono s34;cases ok with
        | false =>
          obtain ⟨J1,J2,J3⟩:=back I4;have hc':(bT b t f ρ0 (ds.drop (i+1))>>=fun fR=>.ok (acc++fR))=r:=hc;exact wpAny_pure ⟨rfl,ds.length-(i+1),by omega,i+1,acc,σ3,H4,vs,rfl,hlt,by omega,J1,J2,J3,s04,hla4,ra4,hc',(sl3.unfit hfit).mono s34,ow3⟩
        | true =>
          have hc':((f ρ1>>=fun x=>bT b t f ρ0 (ds.drop (i+1))>>=fun xs=>.ok (x::xs))>>=fun fR=>.ok (acc++fR))=r:=hc;cases ef:f ρ1 with
          | no=>rw [ef] at hc';exact absurd hc'.symm hno
          | ex c =>
            rw [ef] at hc';exact wpAny_bind (wpAny_bind (noex (hf _ s4 σ3 H4 (fun _ _=>False) I4 ⟨ρ1,sl3.mono s34,by rw [ef];exact (hX c hc'.symm).mono s04⟩) fun yv s5 ⟨v5,H5,I5,r5,z⟩=>z.elim))
          | ok y =>
              rw [ef,R.ok_bind] at hc';have hc2:(bT b t f ρ0 (ds.drop (i+1))>>=fun fR=>.ok ((acc++[y])++fR))=r:=by
                rw [<- hc'];cases bT b t f ρ0 (ds.drop (i+1)) with
                | ok fR=>simp only [R.ok_bind,List.append_assoc,List.singleton_append]
                | ex c=>rfl
                | no=>rfl
              refine wpAny_bind (wpAny_bind (noex (hf _ s4 σ3 H4 (fun v H'=>aI H4 H'/\Rp H' y v) I4 ⟨ρ1,sl3.mono s34,by rw [ef];exact fun v H' s' p'=>⟨s',p'⟩⟩) fun yv s5 ⟨v5,H5,I5,r5,s45,p5⟩=>?_));have hla5:H5 a=some (.lst vs):=s45 _ _ hla4;have hlen:vs.length < sizeLine:=by
                rw [ra.length];omega
              refine wpAny_bind (noex (qF _ s5 σ3 H5 (.ref a) [v5] (.ref a) [yv] (fun _ H'=>H'=cQ H5 a (.lst (vs++[v5]))) I5 rfl (.cons r5 .nil) ⟨a,vs,v5,rfl,rfl,hla5,hlen,rfl⟩) fun _ s6 zq0=>?_);obtain ⟨v6,H6,I6,r6,e6⟩:=zq0;subst e6;obtain ⟨J1,J2,J3⟩:=back I6;have kp:Kp H5 (cQ H5 a (.lst (vs++[v5]))):=gO hla5 (.inl ⟨_,rfl⟩);have s06:aI H0 (cQ H5 a (.lst (vs++[v5]))):=fun b o e=>by
                rw [aB (bi e ha0)];exact (s04.trans s45) b o e
              refine wpAny_pure (wpAny_pure ⟨rfl,ds.length-(i+1),by omega,i+1,acc++[y],σ3,_,vs++[v5],rfl,hlt,by rw [List.length_append,List.length_singleton];omega,J1,J2,J3,s06,bE,?_,hc2,?_,ow3⟩)
              · exact bO.append (bO.kp kp _ _ (ra4.mono s45)) (bO.cons (Rp.kp kp _ _ p5) bO.nil)
              · have sl5:Sl H5 σ3 ρ0:=((sl3.unfit hfit).mono s34).mono s45;refine ⟨sl5.1,fun j c o h1 h2=>?_⟩;cases c with
                | exc p=>exact sl5.2 j _ o h1 h2
                | non=>exact True.intro
                | val d' =>
                  obtain ⟨v',z1,z2⟩:=sl5.2 j _ o h1 h2;exact ⟨v',z1,Rp.kp kp _ _ z2⟩
                | own e' =>
                  obtain ⟨v',z1,z2⟩:=ow3 j e' h1;rw [z1] at h2;cases h2;exact ⟨v',rfl,z2.mono s06⟩
  · have e:i=ds.length:=by omega
    subst e;rw [List.drop_length] at hc;have hr':r=.ok acc:=by rw [<- hc];simp only [bT,R.ok_bind,List.append_nil]
    refine wpAny_bind (wpAny_standAt (wpAny_bind (du (T.done X rfl rfl rfl calm _ [] s σ H _ I (hfp H fr) st (idt.stop _ H gd (Nat.le_refl _))) fun r s1 zq0=>?_)));obtain ⟨hr,I1⟩:=zq0;subst hr;exact wpAny_pure (fin acc s1 σ H vs hr' I1 s0 hla ra)
theorem ik.but {P:Program} {w:World} {H:Hp} {h1 h2:Heap} {C:Addr} (ok:ik P w H h1) (hC:H C=none) (sb:∀ b o,b≠C->h1.get? b=some o->h2.get? b=some o):ik P w H h2:=fun a o e =>
  (ok a o e).stay (fun b u hb q=>sb b u (by
    rcases hb with rfl | hb
    · exact bi e hC
    · exact bi hb hC) q) (fun _ q=>q) fun _ _ q=>q
theorem kE {h h' base:Heap} {C:Addr} (tp:∀ b o,b≠C->h.get? b=some o->h'.get? b=some o):∀ {l:List Env},C∉lZ l->h.FunFrames base l->h'.FunFrames base l
  | [],_,_=>trivial
  | env::l,hC,⟨hk,⟨L,o,hf,hn,ho,hd⟩,hr⟩=>⟨hk,⟨L,o,hf,hn,tp L o (fun z=>hC (List.mem_filterMap.mpr ⟨env,List.mem_cons_self,by rw [hf,z]⟩)) ho,hd⟩,kE tp (fun z=>hC (by
    obtain ⟨e,he,hz⟩:=List.mem_filterMap.mp z;exact List.mem_filterMap.mpr ⟨e,List.mem_cons_of_mem _ he,hz⟩)) hr⟩
theorem lE {X:Cx} {tg iter elt:Expr} {ifs:List Expr} {sc:Scope} {pos pos':Pos} {it:aS->R (List PyData)} {b:PyData->aS->Option aS} {t:aS->R Bool} {f:Fe} {N:List Str} {own:Nat} {G G0:List Str} {fr:List Nat} {nl:Nat}
    (T:Tb X nl G0) (ck:dS sc N own G X.N fr) (hout:∀ y∈sc.names,y.2=.free->X.env.kindOf y.1=some .cell\/X.env.kindOf y.1=some .free) (hi:rd X tg iter it)
    (hb0:∀ ρ d ρ1,b d (az own fr ρ)=some ρ1->kx (az own fr ρ) ρ1)
    (hbody:∀ cl C s H fp E,Tb (aQ X N sc cl C s H fp E) own G->sE (aQ X N sc cl C s H fp E) tg b/\sS (aQ X N sc cl C s H fp E) ifs t/\cX (aQ X N sc cl C s H fp E) elt f)
    (hs:∀ x,foldedSetIterable iter X.env x=pure x) {use:Option (Value->Sem Unit)} {Qc:Value->Shared->Prop} {pins:List (Addr×Obj)} {s:Shared} {σ:St} {H:Hp} (I:aX X pins σ H s) {ρ:aS} {ds:List PyData} {r:R (List PyData)} (sl:Sl H σ ρ) (ei:it ρ=.ok ds)
    (hsz:ds.length<=sizeLine) (ec:bT b t f (az own fr ρ) ds=r) (hX:∀ c,r=.ex c->Xw X c H) (hno:r≠.no) (hstk:∃ env0 outer0 L,X.stack=env0::outer0/\env0.frame=some L/\X.env.frame=some L)
    (fin:∀ (xs:List PyData) (a C:Addr) (H':Hp) (s':Shared) (m:Str->Option Value) (vs:List V),r=.ok xs->aX X pins σ H' s'->nJ X pins H' C->s'.heap.Ns C m->aI H H'->H a=none->H' a=some (.lst vs)->bO H' xs vs->compPost (model X.prog X.w) X.A X.xe use Qc (.ref a) C (.ok .next) s') :
    wpAny (model X.prog X.w) X.A (comprehension (.ListComp elt [⟨tg,iter,ifs,0⟩] sc pos) sc X.env pos' (newList []) false (eval iter X.env) use) Qc X.xe s:=by
  obtain ⟨cl,hcl,hcl1,hcl2⟩:=vo (scope:=sc) (env:=X.env) fun x hx hf=>I.ok.has _ (hout x hx hf)
  have ck':=ck;obtain ⟨ck1,ck2,ck3,_,_,_,_,_,_,ofr⟩:=ck';have hin:∀ i∈fr,i < ρ.length:=fun i hi=>by
    have e1:ρ.length=X.N.length:=by rw [<- sl.1];exact I.len
    rw [e1];obtain ⟨k,hk⟩:=List.getElem?_of_mem hi;have q:=congrArg (fun l=>l[k]?) ofr;simp only [List.getElem?_map,hk,Option.map_some] at q;cases z:(N.drop own)[k]? with
    | none=>rw [z] at q;cases q
    | some y =>
      rw [z] at q;have q':some y=X.N[i]?:=Option.some.inj q;exact (List.getElem?_eq_some_iff.mp q'.symm).1
  refine wpAny_comprehension_free (use:=use) rfl hs hcl ck1 ck3 ?_;refine du (hi pins s σ H (fun J H1=>aI H H1/\∃ Gd,B0 J Gd ds/\Ir H1 (fun _=>False) Gd) I ⟨ρ,sl,by rw [ei];exact fun J H1 s1 z=>⟨s1,z⟩⟩) fun xv s1 h1=>du h1 fun itv s2 h2=>?_
  obtain ⟨itA,fp,tn,J,H2,e,I2,T2,st2,f2,s02,Gd,idt,sta⟩:=h2;subst e;refine wpAny_newObj_type (wpAny_newFunctionEnv ck2 (by intro y hy;simp at hy) (fun h₁ hns₁ hsb₁=>?_) ck1);dsimp only at hns₁ hsb₁ ⊢;generalize hHp:s2.heap.push { cls:=.type "list",dict:=none,data:=.seq ([]:List Value).toArray }=Hp2 at hns₁ hsb₁ ⊢;have hC:Hp2.objs.size=s2.heap.objs.size+1:=by rw [<- hHp,Heap.size_push]
  have hDC:s2.heap.objs.size≠Hp2.objs.size:=by rw [hC];exact Nat.ne_of_lt (Nat.lt_succ_self _)
  have hCle:s2.heap.objs.size<=Hp2.objs.size:=by rw [hC];exact Nat.le_succ _
  have below:∀ b,b < s2.heap.objs.size->b≠Hp2.objs.size:=fun b hb=>by rw [hC];exact Nat.ne_of_lt (Nat.lt_succ_of_lt hb)
  have old:∀ b o,s2.heap.get? b=some o->h₁.get? b=some o:=fun b o e=>hsb₁.extBut b o (below b (Heap.lt_size e)) (Heap.get?_push_of_some _ (hHp ▸ Heap.get?_push_of_some _ e))
  have hacc:h₁.get? s2.heap.objs.size=some { cls:=.type "list",dict:=none,data:=.seq ([]:List Value).toArray }:=hsb₁.extBut _ _ hDC (Heap.get?_push_of_some _ (hHp ▸ Heap.get?_push_size _ rfl));have hob:∀ b∈fp,b < s2.heap.objs.size:=fun b hb=>by
    obtain ⟨o,e,_⟩:=T2.obj _ _ st2 b hb;exact Heap.lt_size e
  have sl2:Sl H2 σ ρ:=sl.mono s02;have IC:aX (aQ X N sc cl Hp2.objs.size s2 H2 fp) [] (h8 own fr σ) (cQ H2 s2.heap.objs.size (.lst [])) { s2 with heap:=h₁,toks:=s2.toks+([]:List (Str×Value)).length } :=
    Au I2 ck f2 hob hcl1 hcl2 (fun x hx=>(T.vis x hx).1) hout (Nat.le_refl _) hCle hDC old hacc hns₁
  let E:Value->Shared->Prop:=fun e s'=>∃ c Ce pins' σ' H' s1 H1,r=.ex c/\X.mg c=some (.ref Ce)/\aX (aQ X N sc cl Hp2.objs.size s2 H2 fp) pins' σ' H' s1/\aI H2 H1/\re X.prog X.w X.stack H' s1 Ce H1 e s'
  obtain ⟨hg,ht,hf⟩:=hbody cl Hp2.objs.size s2 H2 fp E (Ab T ck cl Hp2.objs.size s2 H2 fp E);have ha0:H2 s2.heap.objs.size=none:=I2.hok.fresh (Nat.le_refl _);have hfp:∀ H':Hp,(∀ b∈fp,H' b=none)->∀ b∈fp,nJ (aQ X N sc cl Hp2.objs.size s2 H2 fp E) [] H' b:=fun H' hn b hb =>
    ⟨hn b hb,below b (hob b hb),fun z=>by
      rcases List.mem_cons.mp (I2.stkSub b z) with y | y
      · exact (f2 b hb).2.1 y
      · exact (f2 b hb).2.2.1 y,.inl hb,fun x c e=>(f2 b hb).2.2.2.2.1 x c (hcl1 x c e),fun p hp=>absurd (show p∈([]:List (Addr×Obj)) from hp) (by simp)⟩
  have st3:tn 0 h₁:=T2.keep _ _ _ st2 fun b _ o e=>old b o e
  have slC:Sl H2 (h8 own fr σ) (az own fr ρ):=Ck sl2 own fr hin;have fin':∀ xs s' σ' H' vs,r=.ok xs->aX (aQ X N sc cl Hp2.objs.size s2 H2 fp E) [] σ' H' s'->aI H2 H'->H' s2.heap.objs.size=some (.lst vs)->bO H' xs vs ->
      compPost (model X.prog X.w) X.A X.xe use Qc (.ref s2.heap.objs.size) Hp2.objs.size (.ok .next) s':=fun xs s' σ' H' vs hr J' s2' hv rv=>by
    obtain ⟨m,hn,_⟩:=J'.loc;exact fin xs _ _ H' s' m vs hr (I2.call' (s':=s') (ch:=fp) J'.os J'.base J'.hok J'.bare (fun b hb=>⟨(f2 b hb).2.2.2.1,(f2 b hb).2.1,(f2 b hb).2.2.2.2.1,(f2 b hb).2.2.2.2.2⟩)) (I2.fpOk hCle J'.free) hn (s02.trans s2') (s02.free ha0) hv rv
  have hXc:∀ c,r=.ex c->Xw (aQ X N sc cl Hp2.objs.size s2 H2 fp E) c H2:=fun c hr H1 s1 Ce hm pins' σ' H' s1' e s' J f =>
    ⟨c,Ce,pins',σ',H',s1',H1,hr,hm,J.unwish,s1,f⟩
  have hxe:∀ e s',E e s'->notedBy (model X.prog X.w) X.A (compEnvC sc cl Hp2.objs.size X.env) (fun x s'=>compPost (model X.prog X.w) X.A X.xe use Qc (.ref s2.heap.objs.size) Hp2.objs.size (.error x) s') e s':=fun e s' hE=>by
    obtain ⟨c,Ce,pins',σ',H',s1,H1,hr,hm,J,same1,f⟩:=hE;obtain ⟨env0,outer0,L,k1,k2,k3⟩:=hstk;refine f.note k1 I.ok.frames k2 k3 fun h4 f4 up=>?_
    obtain ⟨m,hn,_⟩:=(f4.inv (X:=aQ X N sc cl Hp2.objs.size s2 H2 fp) J).loc;refine ⟨m,hn,fun h5 sb cenv _=>?_⟩;have fC:=I2.fpOk hCle J.free;have fC1:H1 Hp2.objs.size=none:=(f4.inv (X:=aQ X N sc cl Hp2.objs.size s2 H2 fp) J).free;have nfr:Hp2.objs.size∉lZ X.stack:=fun z=>by
      rcases List.mem_cons.mp (I2.stkSub _ z) with y | y
      · exact fC.2.1 y
      · exact fC.2.2.1 y
    have Io:=I2.call' (s':=s1) (ch:=fp) J.os J.base J.hok J.bare (fun b hb=>⟨(f2 b hb).2.2.2.1,(f2 b hb).2.1,(f2 b hb).2.2.2.2.1,(f2 b hb).2.2.2.2.2⟩);have Io2:aX X pins σ H' { s1 with heap:=PySem.W.hideAll s1.heap [Hp2.objs.size],toks:=s1.toks }:=by
      obtain ⟨g0,g1,g2,g3,g4,g5⟩:=fC;exact Io.turned (t':=s1.toks) (fun b o hb q=>PySem.W.hideAll_get _ q (by simpa using hb)) g0 g1 g3 g4 g5
    obtain ⟨p,a0,B,rfl,t,okB,hp,cov⟩:=f4.ex;have stB:(PySem.W.hideAll B [Hp2.objs.size]).StaysIn B:=fun b o q=>PySem.W.of_hideAll _ q
    have hid:∀ {h:Heap} {b:Addr} {o:Obj},(PySem.W.hideAll h [Hp2.objs.size]).get? b=some o->b≠Hp2.objs.size:=fun {h b o} q z=>by
      rw [PySem.W.hideAll_none _ (by rw [z];exact List.mem_singleton.mpr rfl)] at q;cases q
    have tp:∀ b o,b≠Hp2.objs.size->h4.get? b=some o->h5.get? b=some o:=fun b o hb q=>(sb.2 b hb).trans q
    have ne_e:p≠Hp2.objs.size:=fun z=>by
      obtain ⟨oe,vs,q1,_,q2,_⟩:=t.first;obtain ⟨o,es,ep,q3,q4,_⟩:=hn;have q3':h4.get? Hp2.objs.size=some o:=q3;rw [<- z,q1] at q3';cases q3';rw [q2] at q4;cases q4
    have f5:re X.prog X.w X.stack H' { s1 with heap:=PySem.W.hideAll s1.heap [Hp2.objs.size],toks:=s1.toks } Ce H1 (.ref p) { s' with heap:=h5 }:=by
      refine ⟨f4.os,f4.bare,f4.same,⟨p,a0,PySem.W.hideAll B [Hp2.objs.size],rfl,?_,?_,hp,fun b o q n hb=>?_⟩,fun b o q n hb=>?_⟩
      · obtain ⟨t1,t2,t3,fl,oe,vs,T',oT,ts,a1,a2,a3,a4,a5,a6,a7,a8,a9⟩:=t;refine ⟨fun b o q=>tp b o (hid q) (t1 b o (stB b o q)),PySem.W.fresh_of_stays stB t2,kE tp nfr (PySem.W.funFrames_base stB t3),fl,oe,vs,T',oT,ts,tp _ _ ne_e a1,a2,a3,a4,PySem.W.fresh_of_stays stB a5,a6,tp _ _ ?_ a7,a8,a9⟩;intro z;obtain ⟨o,es,ep,q3,q4,_⟩:=hn;have q3':h4.get? Hp2.objs.size=some o:=q3;have a7':h4.get? T'=some oT:=a7;rw [<- z,a7'] at q3';cases q3';rw [a8] at q4;cases q4
      · exact ik.but okB fC1 fun b o hb q=>PySem.W.hideAll_get _ q (by simpa using hb)
      · obtain ⟨z1,z2⟩:=cov b o (PySem.W.of_hideAll _ q) n hb;exact ⟨PySem.W.hideAll_get _ z1 (by simpa using hid q),z2⟩
      · obtain ⟨⟨sl',z1⟩,z2⟩:=f4.slot b o (PySem.W.of_hideAll _ q) n hb;exact ⟨⟨sl',tp b _ (hid q) z1⟩,z2⟩
    refine f5.pass fun h6 f6=>?_
    exact hX c hr H1 (s02.trans same1) Ce hm pins σ H' _ _ _ Io2 f6
  have loop:=yc (X:=aQ X N sc cl Hp2.objs.size s2 H2 fp E) (iter:=iter) (scope:=sc) (pos:=pos) T2 T.calm hfp hxe hXc hno hg ht hf idt sta hsz ha0 (fun d ρ1 e=>hb0 ρ d ρ1 e) fin' (IC.wish E) st3 (fun b hb=>by
      show cQ H2 s2.heap.objs.size (.lst []) b=none;rw [aB (Nat.ne_of_lt (hob b hb))];exact (f2 b hb).1) (cz ha0 _) bE ec (slC.mono (cz ha0 _)) (fun i e h=>by
      obtain ⟨o,z1,v,rfl,z2⟩:=slC.at h;exact ⟨v,z1,z2⟩)
  exact codeAny_compStart_list loop (T2.self _ 0 _ _ _ st3 loop)
theorem oV {X:Cx} {tg iter elt:Expr} {ifs:List Expr} {sc:Scope} {pos:Pos} {it:aS->R (List PyData)} {b:PyData->aS->Option aS} {t:aS->R Bool} {f:Fe} {N:List Str} {own:Nat} {G G0:List Str} {fr:List Nat} {nl:Nat}
    (T:Tb X nl G0) (ck:dS sc N own G X.N fr) (hout:∀ y∈sc.names,y.2=.free->X.env.kindOf y.1=some .cell\/X.env.kindOf y.1=some .free) (hi:rd X tg iter it)
    (hb0:∀ ρ d ρ1,b d (az own fr ρ)=some ρ1->kx (az own fr ρ) ρ1)
    (hbody:∀ cl C s H fp E,Tb (aQ X N sc cl C s H fp E) own G->sE (aQ X N sc cl C s H fp E) tg b/\sS (aQ X N sc cl C s H fp E) ifs t/\cX (aQ X N sc cl C s H fp E) elt f)
    (hs:∀ x,foldedSetIterable iter X.env x=pure x:=by intro _;rfl) (hstk:∃ env0 outer0 L,X.stack=env0::outer0/\env0.frame=some L/\X.env.frame=some L:=by exact ⟨_,_,_,rfl,rfl,rfl⟩):l5 X (.ListComp elt [⟨tg,iter,ifs,0⟩] sc pos) (bL it own fr b t f):=by
  intro pins s σ H Q I h;obtain ⟨ρ,sl,q⟩:=h;unfold bL at q;rw [eval_ListComp];cases ei:it ρ with
  | ex c=>rw [ei] at q;exact q.elim
  | no=>rw [ei] at q;exact q.elim
  | ok ds =>
    rw [ei] at q;simp only [mL,R.ok_bind] at q;split at q
    · rename_i hsz;cases ec:bT b t f (az own fr ρ) ds with
      | no=>rw [ec] at q;exact q.elim
      | ex c =>
        rw [ec] at q;exact lE (use:=none) T ck hout hi hb0 hbody hs I sl ei hsz ec (fun c' hr=>by cases hr;exact q) (fun z=>nomatch z) hstk fun xs a C H' s' m vs hr=>by cases hr
      | ok xs =>
        rw [ec] at q;refine lE (use:=none) T ck hout hi hb0 hbody hs I sl ei hsz ec (fun c' hr=>by cases hr) (fun z=>nomatch z) hstk fun xs' a C H' s' m vs hr I' fC hn s2' ha hv rv=>?_
        cases hr;obtain ⟨f0,f1,f2,f3,f4,f5⟩:=fC;refine ⟨m,hn,fun h' sb=>⟨.ref a,H',I'.turned (t':=s'.toks) (fun b o hb e=>sb.extBut b o hb e) f0 f1 f3 f4 f5,rfl,?_⟩⟩;refine q _ H' s2' ⟨?_,_,rfl,ha⟩;simp only [jq];exact ⟨_,vs,rfl,hv,rv⟩
    · exact q.elim
theorem EH {X:Cx} {tg iter elt:Expr} {ifs:List Expr} {sc:Scope} {pos:Pos} {it:aS->R (List PyData)} {b:PyData->aS->Option aS} {t:aS->R Bool} {f:Fe} {N:List Str} {own:Nat} {G G0:List Str} {fr:List Nat} {nl:Nat} (T:Tb X nl G0) (ck:dS sc N own G X.N fr) (hout:∀ y∈sc.names,y.2=.free->X.env.kindOf y.1=some .cell\/X.env.kindOf y.1=some .free) (hi:Z.rd X tg iter it) (hb0:∀ ρ d ρ1,b d (az own fr ρ)=some ρ1->kx (az own fr ρ) ρ1) (hbody:∀ cl C s H fp E,Tb (aQ X N sc cl C s H fp E) own G->Z.sE (aQ X N sc cl C s H fp E) tg b/\Z.sS (aQ X N sc cl C s H fp E) ifs t/\Z.cX (aQ X N sc cl C s H fp E) elt f) (hs:∀ x,foldedSetIterable iter X.env x=pure x:=by intro _;rfl) (hstk:∃ env0 outer0 L,X.stack=env0::outer0/\env0.frame=some L/\X.env.frame=some L:=by exact ⟨_,_,_,rfl,rfl,rfl⟩):Z.l5 X (.ListComp elt [⟨tg,iter,ifs,0⟩] sc pos) (bL it own fr b t f) :=
  ⟨D2.oV T ck hout hi.un hb0 (fun cl C s H fp E T=>let ⟨q1,q2,q3⟩:=hbody cl C s H fp E T;⟨q1.un,q2.un,q3.un⟩) hs hstk⟩
theorem Cz {X:Cx} {tg iter elt:Expr} {ifs:List Expr} {sc:Scope} {pos py spos:Pos} {it:aS->R (List PyData)} {b:PyData->aS->Option aS} {t:aS->R Bool} {f:Fe} {N:List Str} {own:Nat} {G G0:List Str} {fr:List Nat} {nl:Nat} {y:Str} {i:Nat}
    (T:Tb X nl G0) (ck:dS sc N own G X.N fr) (hout:∀ y∈sc.names,y.2=.free->X.env.kindOf y.1=some .cell\/X.env.kindOf y.1=some .free) (hi:rd X tg iter it)
    (hb0:∀ ρ d ρ1,b d (az own fr ρ)=some ρ1->kx (az own fr ρ) ρ1)
    (hbody:∀ cl C s H fp E,Tb (aQ X N sc cl C s H fp E) own G->sE (aQ X N sc cl C s H fp E) tg b/\sS (aQ X N sc cl C s H fp E) ifs t/\cX (aQ X N sc cl C s H fp E) elt f)
    (hN:(X.N.take nl)[i]?=some y) (hsw:swapsWith (.ListComp elt [⟨tg,iter,ifs,0⟩] sc pos) (some (.Name y py)) spos.line X.env=pure true)
    (hs:∀ x,foldedSetIterable iter X.env x=pure x:=by intro _;rfl) (hstk:∃ env0 outer0 L,X.stack=env0::outer0/\env0.frame=some L/\X.env.frame=some L:=by exact ⟨_,_,_,rfl,rfl,rfl⟩):kJ X (.Assign [.Name y py] (.ListComp elt [⟨tg,iter,ifs,0⟩] sc pos) spos) (i8 i (bL it own fr b t f)):=fun Fm=>by
  intro pins s σ H D I h;obtain ⟨ρ,sl,q⟩:=h;unfold i8 bL at q;obtain ⟨hNi,hl,hf⟩:=T.nm hN;cases ei:it ρ with
  | ex c=>rw [ei] at q;exact q.elim
  | no=>rw [ei] at q;exact q.elim
  | ok ds =>
    rw [ei] at q;simp only [mL,R.ok_bind] at q;by_cases hsz:ds.length<=sizeLine
    · rw [if_pos hsz] at q;cases ec:bT b t f (az own fr ρ) ds with
      | no=>rw [ec] at q;exact q.elim
      | ex c =>
        rw [ec] at q;rw [exec_Assign_Name_used _ _ _ _ hsw];refine wpAny_bind (wpAny_standAt (wpAny_bind ?_));show wpAny _ X.A (do let _ <- comprehension (.ListComp elt [⟨tg,iter,ifs,0⟩] sc pos) sc X.env _ (newList []) false (eval iter X.env) (some (assign (.Name y py) X.env))) _ _ s;exact wpAny_bind (du (lE (use:=some (assign (.Name y py) X.env)) (Qc:=fun _ s'=>False) T ck hout hi hb0 hbody hs I sl.sl ei hsz ec (fun c' hr=>by cases hr;exact q.1.mono sl.fm) (fun z=>nomatch z) hstk fun xs a C H' s' m vs hr=>by cases hr) fun _ s' hq=>hq.elim)
      | ok xs =>
        rw [ec] at q;rw [exec_Assign_Name_used _ _ _ _ hsw];refine wpAny_bind (wpAny_standAt (wpAny_bind ?_));show wpAny _ X.A (do let _ <- comprehension (.ListComp elt [⟨tg,iter,ifs,0⟩] sc pos) sc X.env _ (newList []) false (eval iter X.env) (some (assign (.Name y py) X.env))) _ _ s;refine wpAny_bind (du (lE (use:=some (assign (.Name y py) X.env)) (Qc:=fun _ s'=>SP X pins D .next s') T ck hout hi hb0 hbody hs I sl.sl ei hsz ec (fun c' hr=>by cases hr) (fun z=>nomatch z) hstk fun xs' a C H' s' m vs hr I' fC hn s2' ha hv rv=>?_) fun _ s' hq=>wpAny_pure (wpAny_pure hq));cases hr;obtain ⟨f0,f1,f2,f3,f4,f5⟩:=fC;show wpAny _ X.A (assign (.Name y py) X.env (.ref a)) _ _ _;refine wpAny_assign_Name (qO I' T.nd hNi hl (v:=.ref a) rfl (fun s'' I'' k=>?_) hf);have sls:iN Fm H' (σ.set i (some (.ref a))) (ρ.set i (.own (.list xs))):=iN.setOwn sl (sl.mono s2') s2' i ⟨by simp only [jq];exact ⟨a,vs,rfl,hv,rv⟩,a,rfl,ha⟩;refine ⟨m,?_,fun h' sb=>⟨_,H',I''.turned (t':=s''.toks) (fun b o hb e=>sb.extBut b o hb e) f0 f1 f3 f4 f5,q _ H' sls⟩⟩;obtain ⟨a',sb',ha'⟩:=k;refine hn.sameBut sb' ?_;rcases ha' with rfl | ha'
        · exact f1
        · exact Ne.symm (f4 y a' ha')
    · rw [if_neg hsz] at q;exact q.elim
theorem iN.freeze {Fm H:Hp} {σ:St} {ρ:aS} {i:Nat} {d:PyData} {a:Addr} {u:HO} {o:Obj} (h:iN Fm H σ ρ) (h1:ρ[i]?=some (.own d)) (h2:σ[i]?=some (some (.ref a))) (hu:H a=some u) (hm:(∃ xs,u=.lst xs)\/∃ ks,u=.dK ks)
    (hr:Rp (cQ H a (.frz o u)) d (.ref a)):iN Fm (cQ H a (.frz o u)) σ (ρ.set i (.val d)):=by
  have hFa:=h.own i d a h1 h2;have kp:Kp H (cQ H a (.frz o u)):=gO hu hm;refine ⟨fun b x e=>?_,⟨by rw [List.length_set];exact h.sl.1,fun j c w' e1 e2=>?_⟩,fun j e b e1 e2=>?_,fun j k e f b e1 e2 e3 e4=>?_⟩
  · rw [aB (bi e hFa)];exact h.fm b x e
  · rw [List.getElem?_set] at e1;by_cases hij:i=j
    · subst hij;rw [if_pos rfl] at e1;split at e1
      · cases e1;rw [h2] at e2;cases e2;exact ⟨_,rfl,hr⟩
      · cases e1
    · rw [if_neg hij] at e1;have q:=h.sl.2 j c w' e1 e2;cases c with
      | exc p=>exact q
      | non=>exact True.intro
      | val d'=>obtain ⟨v,z1,z2⟩:=q;exact ⟨v,z1,Rp.kp kp _ _ z2⟩
      | own d' =>
        obtain ⟨v,z1,z2⟩:=q;subst z1;obtain ⟨b,ob,rfl,hb⟩:=sr z2;have nb:b≠a:=fun z=>hij (by subst z;exact h.apart i j d d' b h1 e1 h2 e2)
        refine ⟨_,rfl,?_⟩;cases d' <;> simp only [jq] at z2 ⊢
        · obtain ⟨b',vs,e,hb',r⟩:=z2;cases e;exact ⟨b,vs,rfl,by rw [aB nb];exact hb',bO.kp kp _ _ r⟩
        · obtain ⟨b',vs,e,hb',r⟩:=z2;cases e;exact ⟨b,vs,rfl,by rw [aB nb];exact hb',eQ.kp kp _ _ r⟩
  · obtain ⟨ne,e1⟩:=dj (fun e z=>by cases z) e1;exact h.own j e b e1 e2
  · obtain ⟨ne,e1⟩:=dj (fun e z=>by cases z) e1;obtain ⟨ne',e2⟩:=dj (fun e z=>by cases z) e2;exact h.apart j k e f b e1 e2 e3 e4
theorem Ap {X:Cx} {pins:List (Addr×Obj)} {s:Shared} {Fm H:Hp} {σ:St} {ρ:aS} {i:Nat} {d:PyData} (I:aX X pins σ H s) (h:iN Fm H σ ρ) (h1:ρ[i]?=some (.own d)) :
    ∃ H' v,aX X pins σ H' s/\iN Fm H' σ (ρ.set i (.val d))/\σ[i]?=some (some v)/\Rp H' d v:=by
  obtain ⟨w',h2,v,rfl,q⟩:=h.sl.at h1;cases d <;> simp only [jq] at q
  · rename_i ds;obtain ⟨a,vs,rfl,ha,r⟩:=q;obtain ⟨o,J⟩:=gN I ha (.inl ⟨_,rfl⟩);have hr:Rp (cQ H a (.frz o (.lst vs))) (.list ds) (.ref a):=by
      simp only [Rp];exact ⟨a,o,vs,rfl,bE,bO.kp (gO ha (.inl ⟨_,rfl⟩)) _ _ r⟩
    exact ⟨_,_,J,h.freeze h1 h2 ha (.inl ⟨_,rfl⟩) hr,h2,hr⟩
  · rename_i ds;obtain ⟨a,vs,rfl,ha,r⟩:=q;obtain ⟨o,J⟩:=gN I ha (.inr ⟨_,rfl⟩);have hr:Rp (cQ H a (.frz o (.dK vs))) (.dict ds) (.ref a):=by
      simp only [Rp];exact .inl ⟨a,o,vs,rfl,bE,eQ.kp (gO ha (.inr ⟨_,rfl⟩)) _ _ r⟩
    exact ⟨_,_,J,h.freeze h1 h2 ha (.inr ⟨_,rfl⟩) hr,h2,hr⟩
theorem kJ.fz {X:Cx} {st:Stmt} {i:Nat} {f:Fe} (h:kJ X st (i8 i f)) (hi:i < X.N.length):kJ X st (cf i f):=fun Fm=>by
  intro pins s σ H D I ⟨ρ,sl,q⟩;unfold cf at q;cases ef:f ρ with
  | ex c=>rw [ef] at q;exact h Fm pins s σ H D I ⟨ρ,sl,by unfold i8;rw [ef];exact q⟩
  | no=>rw [ef] at q;exact q.elim
  | ok d =>
    rw [ef] at q;have hr:El X Fm (i8 i f) { nx:=fun σ' H'=>iN Fm H' σ' (ρ.set i (.own d)),rt:=fun _ _=>False } σ H:=⟨ρ,sl,by unfold i8;rw [ef];exact fun σ' H' s'=>s'⟩
    refine du (h Fm pins s σ H _ I hr) fun fl s' z=>?_
    cases fl with
    | next =>
      obtain ⟨σ',H',I',sls⟩:=z;have hi':i < ρ.length:=by rw [<- sl.sl.1,I.len];exact hi
      obtain ⟨H2,v,I2,sl2,_,_⟩:=Ap I' sls (i:=i) (d:=d) (by rw [List.getElem?_set,if_pos rfl,if_pos hi']);rw [List.set_set] at sl2;exact ⟨σ',H2,I2,q σ' H2 sl2⟩
    | brk=>obtain ⟨_,_,_,z⟩:=z;exact z.elim
    | cont=>obtain ⟨_,_,_,z⟩:=z;exact z.elim
    | ret u=>obtain ⟨_,_,_,_,_,z⟩:=z;exact z.elim
theorem jD {X:Cx} {st:Stmt} {i:Nat} {f:Fe} (h:Z.kJ X st (i8 i f)) (hi:i < X.N.length):Z.kJ X st (cf i f) :=
  ⟨D2.kJ.fz h.un hi⟩
noncomputable def Bn (i:Nat):Fs:=fun ρ=>match ρ[i]? with
  | some (.own d)=>.ok (.rt d)
  | some (.val d)=>.ok (.rt d)
  | _=>.no
theorem xS {X:Cx} {nl:Nat} {G:List Str} {x:Str} {p pos:Pos} (T:Tb X nl G) (i:Nat) (hN:X.N[i]?=some x):Z.kJ X (.Return (some (.Name x p)) pos) (Bn i):=⟨fun Fm=>by
  intro pins s σ H D I ⟨ρ,sl,q⟩;have hm:=T.vis x (List.mem_of_getElem? hN);unfold Bn at q;split at q
  · rename_i d e;obtain ⟨H2,v,I2,sl2,h2,r⟩:=Ap I sl e;exact vW (jP hN hm.1 hm.2.1 hm.2.2) pins s σ H2 D I2 ⟨v,h2,q v H2 sl2.fm r⟩
  · rename_i d e;obtain ⟨o,h1,v,rfl,h2⟩:=sl.sl.at e;exact vW (jP hN hm.1 hm.2.1 hm.2.2) pins s σ H D I ⟨v,h1,q v H sl.fm h2⟩
  · exact q.elim⟩
theorem qr {X:Cx} {tg iter elt:Expr} {ifs:List Expr} {sc:Scope} {pos:Pos} {it:aS->R (List PyData)} {b:PyData->aS->Option aS} {t:aS->R Bool} {f:Fe} {N:List Str} {own:Nat} {G G0:List Str} {fr:List Nat} {nl:Nat}
    (T:Tb X nl G0) {oN:List Str} {on:List (Str×NameKind)} (hoN:X.N=oN) (hon:X.env.scope.names=on)
    (ck:dS sc N own G oN fr/\∀ y∈sc.names,y.2=.free->on.lookup y.1=some .cell\/on.lookup y.1=some .free) (hi:rd X tg iter it)
    (hb0:∀ ρ d ρ1,b d (az own fr ρ)=some ρ1->kx (az own fr ρ) ρ1)
    (hbody:∀ cl C s H fp E,Tb (aQ X N sc cl C s H fp E) own G->sE (aQ X N sc cl C s H fp E) tg b/\sS (aQ X N sc cl C s H fp E) ifs t/\cX (aQ X N sc cl C s H fp E) elt f)
    (hs:∀ x,foldedSetIterable iter X.env x=pure x:=by intro _;rfl) (hstk:∃ env0 outer0 L,X.stack=env0::outer0/\env0.frame=some L/\X.env.frame=some L:=by exact ⟨_,_,_,rfl,rfl,rfl⟩):l5 X (.ListComp elt [⟨tg,iter,ifs,0⟩] sc pos) (bL it own fr b t f) :=
  oV T (by rw [hoN];exact ck.1) (fun y hy hf=>by unfold Env.kindOf;rw [hon];exact ck.2 y hy hf) hi hb0 hbody hs hstk
theorem bd {X:Cx} {tg iter elt:Expr} {ifs:List Expr} {sc:Scope} {pos:Pos} {it:aS->R (List PyData)} {b:PyData->aS->Option aS} {t:aS->R Bool} {f:Fe} {N:List Str} {own:Nat} {G G0:List Str} {fr:List Nat} {nl:Nat} (T:Tb X nl G0) {oN:List Str} {on:List (Str×NameKind)} (hoN:X.N=oN) (hon:X.env.scope.names=on) (ck:dS sc N own G oN fr/\∀ y∈sc.names,y.2=.free->on.lookup y.1=some .cell\/on.lookup y.1=some .free) (hi:Z.rd X tg iter it) (hb0:∀ ρ d ρ1,b d (az own fr ρ)=some ρ1->kx (az own fr ρ) ρ1) (hbody:∀ cl C s H fp E,Tb (aQ X N sc cl C s H fp E) own G->Z.sE (aQ X N sc cl C s H fp E) tg b/\Z.sS (aQ X N sc cl C s H fp E) ifs t/\Z.cX (aQ X N sc cl C s H fp E) elt f) (hs:∀ x,foldedSetIterable iter X.env x=pure x:=by intro _;rfl) (hstk:∃ env0 outer0 L,X.stack=env0::outer0/\env0.frame=some L/\X.env.frame=some L:=by exact ⟨_,_,_,rfl,rfl,rfl⟩):Z.l5 X (.ListComp elt [⟨tg,iter,ifs,0⟩] sc pos) (bL it own fr b t f) :=
  ⟨D2.qr T hoN hon ck hi.un hb0 (fun cl C s H fp E T=>let ⟨q1,q2,q3⟩:=hbody cl C s H fp E T;⟨q1.un,q2.un,q3.un⟩) hs hstk⟩
theorem CA {X:Cx} {tg iter elt:Expr} {ifs:List Expr} {sc:Scope} {pos py spos:Pos} {it:aS->R (List PyData)} {b:PyData->aS->Option aS} {t:aS->R Bool} {f:Fe} {N:List Str} {own:Nat} {G G0:List Str} {fr:List Nat} {nl:Nat} {y:Str} (i:Nat)
    (hN:(X.N.take nl)[i]?=some y) (T:Tb X nl G0) {oN:List Str} {on:List (Str×NameKind)} (hoN:X.N=oN) (hon:X.env.scope.names=on)
    (ck:dS sc N own G oN fr/\∀ y∈sc.names,y.2=.free->on.lookup y.1=some .cell\/on.lookup y.1=some .free) (hi:rd X tg iter it)
    (hb0:∀ ρ d ρ1,b d (az own fr ρ)=some ρ1->kx (az own fr ρ) ρ1)
    (hbody:∀ cl C s H fp E,Tb (aQ X N sc cl C s H fp E) own G->sE (aQ X N sc cl C s H fp E) tg b/\sS (aQ X N sc cl C s H fp E) ifs t/\cX (aQ X N sc cl C s H fp E) elt f)
    (hsw:swapsWith (.ListComp elt [⟨tg,iter,ifs,0⟩] sc pos) (some (.Name y py)) spos.line X.env=pure true:=by rfl)
    (hs:∀ x,foldedSetIterable iter X.env x=pure x:=by intro _;rfl) (hstk:∃ env0 outer0 L,X.stack=env0::outer0/\env0.frame=some L/\X.env.frame=some L:=by exact ⟨_,_,_,rfl,rfl,rfl⟩):kJ X (.Assign [.Name y py] (.ListComp elt [⟨tg,iter,ifs,0⟩] sc pos) spos) (i8 i (bL it own fr b t f)) :=
  Cz T (by rw [hoN];exact ck.1) (fun y hy hf=>by unfold Env.kindOf;rw [hon];exact ck.2 y hy hf) hi hb0 hbody hN hsw hs hstk
theorem fN {X:Cx} {tg iter elt:Expr} {ifs:List Expr} {sc:Scope} {pos py spos:Pos} {it:aS->R (List PyData)} {b:PyData->aS->Option aS} {t:aS->R Bool} {f:Fe} {N:List Str} {own:Nat} {G G0:List Str} {fr:List Nat} {nl:Nat} {y:Str} (i:Nat) (hN:(X.N.take nl)[i]?=some y) (T:Tb X nl G0) {oN:List Str} {on:List (Str×NameKind)} (hoN:X.N=oN) (hon:X.env.scope.names=on) (ck:dS sc N own G oN fr/\∀ y∈sc.names,y.2=.free->on.lookup y.1=some .cell\/on.lookup y.1=some .free) (hi:Z.rd X tg iter it) (hb0:∀ ρ d ρ1,b d (az own fr ρ)=some ρ1->kx (az own fr ρ) ρ1) (hbody:∀ cl C s H fp E,Tb (aQ X N sc cl C s H fp E) own G->Z.sE (aQ X N sc cl C s H fp E) tg b/\Z.sS (aQ X N sc cl C s H fp E) ifs t/\Z.cX (aQ X N sc cl C s H fp E) elt f) (hsw:swapsWith (.ListComp elt [⟨tg,iter,ifs,0⟩] sc pos) (some (.Name y py)) spos.line X.env=pure true:=by rfl) (hs:∀ x,foldedSetIterable iter X.env x=pure x:=by intro _;rfl) (hstk:∃ env0 outer0 L,X.stack=env0::outer0/\env0.frame=some L/\X.env.frame=some L:=by exact ⟨_,_,_,rfl,rfl,rfl⟩):Z.kJ X (.Assign [.Name y py] (.ListComp elt [⟨tg,iter,ifs,0⟩] sc pos) spos) (i8 i (bL it own fr b t f)) :=
  ⟨D2.CA i hN T hoN hon ck hi.un hb0 (fun cl C s H fp E T=>let ⟨q1,q2,q3⟩:=hbody cl C s H fp E T;⟨q1.un,q2.un,q3.un⟩) hsw hs hstk⟩
theorem br {own:Nat} {fr:List Nat} {i:Nat} (h:i < own):∀ ρ d ρ1,aT i d (az own fr ρ)=some ρ1->kx (az own fr ρ) ρ1:=fun ρ d ρ1 e=>by
  have e':ρ1=(az own fr ρ).set i (.val d):=(Option.some.inj e).symm;subst e';refine ⟨by rw [List.length_set],fun j c hj=>?_⟩;by_cases hij:i=j
  · subst hij;left;unfold az at hj;rw [List.getElem?_append_left (by simpa using h),List.getElem?_replicate,if_pos h] at hj;exact (Option.some.inj hj).symm
  · right;rw [List.getElem?_set,if_neg hij];exact hj
noncomputable def wv (sc:Scope) (N G:List Str):Prop :=
  N.Nodup/\(∀ x∈N,(sc.names.lookup x=some .local\/sc.names.lookup x=some .cell)/\(x==("__debug__" : Str))=false/\(x==("__classdict__" : Str))=false)/\∀ x∈G,sc.names.lookup x=some .globalImplicit/\(x==("__debug__" : Str))=false/\x≠("__name__" : Str)
noncomputable instance {sc:Scope} {N G:List Str}:Decidable (wv sc N G):=by unfold wv;infer_instance
theorem ET {P:Program} {w:World} {K:PySem.W.Frag} {mg:Str->Option Value} {base:Heap} {N:List Str} {qual:Str} {sc:Scope} {f:Addr} {cdv:Value} {A:Around} {outer:List Env} {s:Shared} {H:Hp} {E:XK} {G:List Str} {k:Nat}
    (hr:fu k (A.deeper (envOfC qual sc s.heap.objs.size f cdv))) (ck:wv sc N G):Tb (fY (cP P w mg) P w K mg base N qual sc f cdv A outer s H E) N.length G:=by
  obtain ⟨nd,l,g⟩:=ck;refine ⟨hr.units,rfl,nd,fun x hx=>⟨?_,(l x hx).2⟩,fun x hx=>⟨?_,.inl rfl⟩,fun x hx=>?_⟩
  · rcases (l x hx).1 with q | q
    · exact .inl q
    · exact .inr (.inl q)
  · exact (l x (List.mem_of_mem_take hx)).1
  · exact g x hx
section
variable {X:Cx} {a b c:Expr} {fa fb fc:Fe} {pos:Pos}
noncomputable def wA (X:Cx) (P:Hp->Hp->PyData->V->Prop) (r:V->Hp->VK->Prop) (g:PyData->R PyData):Prop:=∀ H x dx Q,hV H dx x->uO X P (g dx) H Q->r x H Q
theorem Jq {P:Hp->Hp->PyData->V->Prop} {r:V->Hp->VK->Prop} {g:PyData->R PyData} (hP:Dn P) (hg:wA X P r g) (σ:St) (H:Hp) (Q:VK) (h:jt X P (e1 g fa) σ H Q):JY r (jt X sT fa) σ H Q :=
  (eY (P:=sT) (k:=fun _ x=>g x) (ff (X:=X) hP Q) h).post fun v H1 ⟨_,d1,_,_,p1,q1⟩=>hg H1 v d1 Q p1 q1
noncomputable def vt:PyData->R PyData
  | .int i=>.ok (.int (-i))
  | _=>.no
theorem F2:wA X h7 (rU fun i=>.int (-i)) vt:=fun H x dx Q hx q=>by
  unfold vt at q;split at q
  · exact ⟨_,cb hx,q _ H (aI.refl _) dD⟩
  · exact q.elim
theorem zP (ha:Z.dM X a fa):Z.cX X (.UnaryOp .USub a pos) (e1 vt fa):=⟨have ha:=ha.un;PE.imp (Hl Gb ha) (Jq fM F2)⟩
noncomputable def rR (g g':PyData->PyData->R PyData) (fa fb fc:Fe):Fe:=fun ρ=>fa ρ>>=fun x=>fb ρ>>=fun y=>g x y>>=fun d=>tM d>>=fun k=>if k=true then fc ρ>>=fun z=>g' y z else .ok (.bool false)
theorem zZ {r r':R2} {g g':PyData->PyData->R PyData} (hg:cH X h7 r g) (hg':cH X h7 r' g') (σ:St) (H:Hp) (Q:VK) (h:jt X h7 (rR g g' fa fb fc) σ H Q) :
    Bz r r' (jt X sT fa) (jt X sT fb) (jt X sT fc) σ H Q :=
  (eY (P:=sT) (k:=fun ρ x=>fb ρ>>=fun y=>g x y>>=fun d=>tM d>>=fun k=>if k=true then fc ρ>>=fun z=>g' y z else .ok (.bool false)) (ff (X:=X) fM Q) h).post fun v H1 ⟨ρ1,d1,sl1,_,p1,q1⟩ =>
    (eY (P:=sT) (f:=fb) (k:=fun ρ y=>g d1 y>>=fun d=>tM d>>=fun k=>if k=true then fc ρ>>=fun z=>g' y z else .ok (.bool false)) (ff (X:=X) fM Q) ⟨ρ1,sl1,q1⟩).post fun u H2 ⟨ρ2,d2,sl2,s2,p2,q2⟩=>by
      refine hg H2 v u d1 d2 _ (hV.mono p1 s2) p2 ?_;cases e:g d1 d2 with
      | ex c=>rw [e] at q2;exact q2
      | no=>rw [e] at q2;exact q2
      | ok d =>
        rw [e] at q2;intro w' H3 s3 p3;have q3:uO X h7 (tM d>>=fun k=>if k=true then fc ρ2>>=fun z=>g' d2 z else .ok (.bool false)) H2 Q:=q2;cases d with
        | bool k =>
          have e3:w'=.bl k:=by simpa only [Rp] using p3
          refine ⟨k,e3,?_⟩;cases k with
          | false=>exact q3 _ H3 s3 fG
          | true =>
            have q4:uO X h7 (fc ρ2>>=fun z=>g' d2 z) H2 Q:=q3;exact (eY (P:=sT) (f:=fc) (k:=fun _ z=>g' d2 z) (ff (X:=X) fM Q) ⟨ρ2,sl2.mono s3,(ff (X:=X) fM Q).mono _ _ _ q4 s3⟩).post fun z H4 ⟨_,d4,_,s4,p4,q5⟩=>hg' H4 u z d2 d4 Q (hV.mono p2 (s3.trans s4)) p4 q5
        | none=>exact q3.elim
        | int i=>exact q3.elim
        | str i=>exact q3.elim
        | list i=>exact q3.elim
        | tuple i=>exact q3.elim
        | dict i=>exact q3.elim
theorem vf {op op':CmpOp} {r r':R2} {g g':PyData->PyData->R PyData} (ho:jr X (compareOp op) r) (hg:cH X h7 r g) (ho':jr X (compareOp op') r') (hg':cH X h7 r' g') (ha:Z.dM X a fa) (hb:Z.dM X b fb) (hc:Z.dM X c fc) (hm:lastMarks [op,op'] [b,c]=false:=by with_unfolding_all rfl):Z.cX X (.Compare a [op,op'] [b,c] pos) (rR g g' fa fb fc):=⟨have ha:=ha.un;have hb:=hb.un;have hc:=hc.un;PE.imp (AY ho ho' ha hb hc hm) (zZ hg hg')⟩
variable {es:List Expr} {fs:aS->R (List PyData)}
noncomputable def jI (fs:aS->R (List PyData)):Fe:=fun ρ=>fs ρ>>=fun ds=>if ds.length<=sizeLine then .ok (.tuple ds) else .no
noncomputable def Cv (fs:aS->R (List PyData)):Fe:=fun ρ=>fs ρ>>=fun ds=>if ds.length<=sizeLine then .ok (.list ds) else .no
theorem fA {x1} (h:Z.uZ X es fs):Z.cX X (.Tuple es x1 pos) (jI fs):=⟨have h:=h.un;PE.imp (FC h) fun σ H Q q=>(mo (I:=Rp) (f:=fs) (k:=fun _ ds=>if ds.length<=sizeLine then .ok (.tuple ds) else .no) (ff (X:=X) fM Q) q).post fun vs H1 ⟨_,ds,_,_,p,q1⟩=>by
    have p:=pF.mp p;split at q1
    · rename_i hz;exact ⟨by rw [p.length];exact hz,fun a ha=>q1 _ _ (cz ha _) (dJ ha p)⟩
    · exact q1.elim⟩
theorem qe (h:Z.uZ X es fs):Z.l5 X (.List es pos) (Cv fs):=⟨have h:=h.un;PE.imp (Fx h) fun σ H Q q=>(mo (I:=Rp) (f:=fs) (k:=fun _ ds=>if ds.length<=sizeLine then .ok (.list ds) else .no) (ff (X:=X) Ai Q) q).post fun vs H1 ⟨_,ds,_,_,p,q1⟩=>by
    have p:=pF.mp p;split at q1
    · rename_i hz;exact ⟨by rw [p.length];exact hz,fun a ha=>q1 _ _ (cz ha _) (dn ha p)⟩
    · exact q1.elim⟩
theorem mV  : Z.l5 X (.Dict [] [] pos) (eC (.dict [])):=⟨PE.imp AZ fun σ H Q ⟨ρ,sl,q⟩ p hp=>q _ _ (cz hp _) ⟨by simp only [jq];exact ⟨p,[],rfl,bE,by simp only [eQ]⟩,p,rfl,hp⟩⟩
noncomputable def bJ:PyData->PyData->R PyData
  | .list ds,.int i=>match atI ds i with
    | some d=>.ok d
    | none=>.no
  | .tuple ds,.int i=>match atI ds i with
    | some d=>.ok d
    | none=>.no
  | .str z,.int i=>if z.length<=sizeLine then match atI z.cps.toList i with
    | some c=>.ok (.str ⟨#[c]⟩)
    | none=>.no else .no
  | .dict kvs,k=>if kF kvs=true then .no else match gt k with
    | some _=>match jl kvs k with
      | some d=>.ok d
      | none=>.no
    | none=>.no
  | _,_=>.no
theorem bO.atI {H:Hp} {ds:List PyData} {vs:List V} {i:Int} {d:PyData} (r:bO H ds vs) (e:L2.atI ds i=some d):∃ v,L2.atI vs i=some v/\Rp H d v:=by
  unfold L2.atI at e ⊢;rw [r.length];cases h:wW ds.length i with
  | none=>rw [h] at e;cases e
  | some j =>
    rw [h] at e;obtain ⟨v,e1,p⟩:=r.get (show ds[j]?=some d from e);exact ⟨v,e1,p⟩
noncomputable def Ht:R2:=fun x y H Q=>∃ a v,x=.ref a/\og H a y (some v)/\Q v H
theorem CO (hu:X.A.units+1 < cLine):B1 X Ht:=by
  intro value slice pins s σ H x y v u Q I rx ry h hs;obtain ⟨a,z,rfl,g,q⟩:=h;cases rx;exact tail_any (tT I g) PySem.F.slot_dict_getitem.lookup (ye hu I g ry fun w' s3 I3 rw'=>⟨z,H,I3,rw',q⟩) hs
theorem HJ:cH X h7 (fun x y H Q=>Hu X.K x y H Q\/Hw X.K x y H Q\/Hv x y H Q\/Ht x y H Q) bJ:=fun H x y dx dy Q hx hy q=>by
  unfold bJ at q;split at q
  · rename_i ds i;split at q
    · rename_i d e;obtain ⟨a,vs,rfl,hq,r⟩:=eS (K:=X.K) hx;obtain ⟨v,e1,p⟩:=r.atI e;exact .inl ⟨a,vs,i,v,rfl,cb hy,hq,e1,q v H (aI.refl _) p⟩
    · exact q.elim
  · rename_i ds i;split at q
    · rename_i d e;obtain ⟨a,vs,rfl,hq,r⟩:=cM hx;obtain ⟨v,e1,p⟩:=r.atI e;exact .inr (.inl ⟨a,vs,i,v,rfl,cb hy,ie.of hq,e1,q v H (aI.refl _) p⟩)
    · exact q.elim
  · rename_i z i;split at q
    · rename_i hz;split at q
      · rename_i c e;exact .inr (.inr (.inl ⟨z,i,c,gU hx,cb hy,hz,e,q _ H (aI.refl _) Bj⟩))
      · exact q.elim
    · exact q.elim
  · rename_i kvs k;split at q
    · exact q.elim
    rename_i hi;split at q
    · rename_i κ e;split at q
      · rename_i d e1;obtain ⟨a,ks,rfl,h,r⟩:=lC (Bool.not_eq_true _ ▸ hi) hx;obtain ⟨o,g,_,e2⟩:=wL (κ:=κ) h r;rw [uf e] at e1;obtain ⟨v,rfl,p⟩:=e2 d e1;rw [<- wF hy e] at g;exact .inr (.inr (.inr ⟨a,v,rfl,g,q v H (aI.refl _) p⟩))
      · exact q.elim
    · exact q.elim
  · exact q.elim
theorem aD (hu:X.A.units+64 < cLine) (ha:Z.dM X a fa) (hb:Z.dM X b fb) (hs:wz b):Z.cX X (.Subscript a b pos) (e2 bJ fa fb):=⟨have ha:=ha.un;have hb:=hb.un;PE.imp (Hi (CP.or (E9.or (E8.or (CO (by omega))))) ha hb hs) (two fM HJ)⟩
variable {nl:Nat} {G:List Str} {x:Str} {p:Pos}
noncomputable def rz (X:Cx) (P:Hp->Hp->PyData->V->Prop) (r:List V->Hp->VK->Prop) (g:List PyData->R PyData):Prop:=∀ H xs ds Q,RA hV H ds xs->uO X P (g ds) H Q->r xs H Q
theorem wG {P:Hp->Hp->PyData->V->Prop} {r:List V->Hp->VK->Prop} {g:List PyData->R PyData} (hP:Dn P) (hg:rz X P r g) (σ:St) (H:Hp) (Q:VK) (h:jt X P (fun ρ=>fs ρ>>=g) σ H Q):IL r (Bf X hV fs) σ H Q :=
  (mo (I:=hV) (k:=fun _=>g) (ff (X:=X) hP Q) h).post fun vs H1 ⟨_,ds,_,_,p1,q1⟩=>hg H1 vs ds Q p1 q1
noncomputable def one (g:PyData->R PyData):List PyData->R PyData
  | [d]=>g d
  | _=>.no
noncomputable def F7 (g:PyData->PyData->R PyData):List PyData->R PyData
  | [d,e]=>g d e
  | _=>.no
theorem vQ (g:PyData->R PyData) (fa:Fe):(fun ρ=>ai fa aE ρ>>=one g)=e1 g fa:=by
  funext ρ;unfold ai aE e1;cases fa ρ <;> rfl
theorem F8 (g:PyData->PyData->R PyData) (fa fb:Fe):(fun ρ=>ai fa (ai fb aE) ρ>>=F7 g)=e2 g fa fb:=by
  funext ρ;unfold ai aE e2;cases fa ρ with
  | ok a=>cases fb ρ <;> rfl
  | ex c=>rfl
  | no=>rfl
theorem wf {P:Hp->Hp->PyData->V->Prop} {r:List V->Hp->VK->Prop} {g:PyData->R PyData} (h:∀ H x d Q,hV H d x->uO X P (g d) H Q->r [x] H Q):rz X P r (one g):=fun H xs ds Q ra q=>by
  unfold one at q;split at q
  · rename_i d;simp only [RA] at ra;obtain ⟨v,r',e,p,e2⟩:=ra;subst e2;subst e;exact h H v d Q p q
  · exact q.elim
theorem F4 {P:Hp->Hp->PyData->V->Prop} {r:List V->Hp->VK->Prop} {g:PyData->PyData->R PyData} (h:∀ H x y d e Q,hV H d x->hV H e y->uO X P (g d e) H Q->r [x,y] H Q):rz X P r (F7 g):=fun H xs ds Q ra q=>by
  unfold F7 at q;split at q
  · rename_i d e;simp only [RA] at ra;obtain ⟨v,r',e1,p,v',r'',e2,p',e3⟩:=ra;subst e3;subst e2;subst e1;exact h H v v' d e Q p p' q
  · exact q.elim
section
variable {P:Hp->Hp->PyData->V->Prop} {r:List V->Hp->VK->Prop} {g:PyData->R PyData} {g2:PyData->PyData->R PyData} {id ty:String}
theorem Cg (T:Tb X nl G) (j:Nat) (hG:G[j]?=some x) (hm:X.mg x=none) (hP:Dn P) (hv:bootBuiltins x=some (.builtin id)) (hc:dX X (.builtin id) r) (hg:∀ H x d Q,hV H d x->uO X P (g d) H Q->r [x] H Q) (ha:dM X a fa)
    (he:bq a=true:=by rfl):PE X (.Call (.Name x p) [a] [] pos) (jt X P (e1 g fa)):=by
  have q:=T.gl x (List.mem_of_getElem? hG);rw [<- vQ];exact PE.imp (pB hc q.1 hm hv (lG ha rV he) q.2.2 q.2.1 (bP he)) (wG hP (wf hg))
theorem Ga (T:Tb X nl G) (j:Nat) (hG:G[j]?=some x) (hm:X.mg x=none) (hP:Dn P) (hv:bootBuiltins x=some (.type ty)) (hc:dX X (.type ty) r) (hg:∀ H x d Q,hV H d x->uO X P (g d) H Q->r [x] H Q) (ha:dM X a fa)
    (he:bq a=true:=by rfl):PE X (.Call (.Name x p) [a] [] pos) (jt X P (e1 g fa)):=by
  have q:=T.gl x (List.mem_of_getElem? hG);rw [<- vQ];exact PE.imp (yX hc q.1 hm hv (lG ha rV he) q.2.2 q.2.1 (bP he)) (wG hP (wf hg))
theorem GD (T:Tb X nl G) (j:Nat) (hG:G[j]?=some x) (hm:X.mg x=none) (hP:Dn P) (hv:bootBuiltins x=some (.builtin id)) (hc:dX X (.builtin id) r) (hg:∀ H x y d e Q,hV H d x->hV H e y->uO X P (g2 d e) H Q->r [x,y] H Q) (ha:dM X a fa) (hb:dM X b fb)
    (he:bq a=true:=by rfl) (he2:bq b=true:=by rfl):PE X (.Call (.Name x p) [a,b] [] pos) (jt X P (e2 g2 fa fb)):=by
  have q:=T.gl x (List.mem_of_getElem? hG);rw [<- F8];exact PE.imp (pB hc q.1 hm hv (lG ha (lG hb rV he2) he) q.2.2 q.2.1 (bP he) (pN (by rw [List.all_cons,he2];rfl))) (wG hP (F4 hg))
end
end
theorem iw:fillsNumberSlot (.type "tuple") "mul" = pure false :=
  PySem.fillsNumberSlot_seq (id := "tuple.__mul__") (r:=some (.builtin "tuple.__rmul__")) F.slot_tuple_mul.lookup (by decide +kernel) F.slot_tuple_rmul.lookup (by decide +kernel)
theorem lM:seqRepeat? (.type "tuple")=pure (some (.builtin "tuple.__mul__")):=by
  unfold seqRepeat?;rw [PySem.seqSlot_of (T := "tuple") (name := "__mul__") (id := "tuple.__mul__") F.slot_tuple_mul.lookup (by decide +kernel),PySem.seqSlot_of (T := "tuple") (name := "__rmul__") (id := "tuple.__rmul__") F.slot_tuple_rmul.lookup (by decide +kernel)];rfl
theorem jK (a:Int) (t:Tok) (l:Addr) (items:Array Value) (n:Nat) (dd:Option Addr) (sl:Array (Option Value)) :
    Meets (Builtin.«int.__rmul__» ⟨[.int a t,.ref l],[]⟩) (fun _ R s=>s.heap.get? l=some { cls:=.type "tuple",dict:=dd,data:=.seq items n,slots:=sl }/\R (.ok (.ret Value.notImplemented)) s) :=
  .of_wp fun prog w A R s h=>by obtain ⟨hp,g,d,tk,os⟩:=s;obtain ⟨hl,h⟩:=h;wp_walk;exact ⟨_,rfl,h⟩
theorem wl (l:Addr) (items:Array Value) (n:Nat) (dd:Option Addr) (sl:Array (Option Value)) (x:Int) (u:Tok) (h1:2<=x) (h2:x < 2 ^ 63) (h0:¬ items.isEmpty=true) (hc1:¬ (items.size:Int)*x > (2 ^ 63-1) / 8) (hbig:Builtin.Tuple.tupleTooMany ((items.size:Int)*x)=false) (hsz:¬ (List.foldl (fun x1 x2=>x1++x2) #[] (List.replicate x.toNat items)).size > sizeLine) :
    Meets (Builtin.«tuple.__mul__» ⟨[.ref l,.int x u],[]⟩) (fun _ R s=>s.heap.get? l=some { cls:=.type "tuple",dict:=dd,data:=.seq items n,slots:=sl }/\R (.ok (.ret (Value.ref s.heap.objs.size))) { s with heap:=s.heap.push { cls:=Value.type "tuple",data:=Data.seq (List.foldl (fun x1 x2=>x1++x2) #[] (List.replicate x.toNat items)) },toks:=s.toks }) :=
  .of_wp fun prog w A R s h=>by
    obtain ⟨hp,g,d,tk,os⟩:=s;obtain ⟨hl,h⟩:=h;have f1:=AutoSeq1.idx_int;have f2:=AutoSeq1.sub_tuple_tuple;have f3:=AutoSeq1.sub_list_list;have f4:=AutoSeq1.sub_tuple_list;have f5:=AutoSeq1.sub_list_tuple;have e0:(decide (x < -2 ^ 63)||decide (x>=2 ^ 63))=false:=by
      rw [decide_eq_false (by omega),decide_eq_false (by omega)];rfl
    have e1:(items.isEmpty||x==1)=false:=by
      have:(x==1)=false:=by simp;omega
      rw [this,Bool.or_false];exact Bool.eq_false_iff.mpr h0
    have e2:(decide (x<=0)||items.isEmpty)=false:=by
      rw [decide_eq_false (by omega),Bool.false_or];exact Bool.eq_false_iff.mpr h0
    have e3:decide ((items.size:Int)*x > (2 ^ 63-1) / 8)=false:=decide_eq_false hc1;have e4:Builtin.Tuple.tupleTooMany ((items.size:Int)*x)=false:=hbig
    wp_walk using wpAny_loadPart' hl
    refine wpAny_ite_false (decide_eq_false (by rw [e0];exact Bool.false_ne_true)) ?_
    wp_walk using wpAny_loadPart' hl
    refine wpAny_ite_false (decide_eq_false (by rw [e1];exact Bool.false_ne_true)) ?_
    wp_walk using wpAny_loadPart' hl
    refine wpAny_ite_false (decide_eq_false (by rw [e2];exact Bool.false_ne_true)) ?_
    wp_walk using wpAny_loadPart' hl
    refine wpAny_ite_false e3 ?_
    wp_walk using wpAny_loadPart' hl
    exact ⟨_,rfl,h⟩
section
variable {X:Cx} {a b c:Expr} {fa fb fc:Fe} {pos:Pos} {nl:Nat} {G:List Str} {x:Str} {p:Pos}
noncomputable def Bc (K:PySem.W.Frag):R2:=fun x y H Q=>∃ l k xs,x=.ref l/\y=.int k/\ie K H l xs/\xs≠[]/\2<=k/\k < 2 ^ 63/\xs.length*k.toNat<=sizeLine/\∀ p,H p=none->Q (.ref p) (cQ H p (.tup (List.replicate k.toNat xs).flatten))
theorem xh:jr X (binaryOp .Mult) (Bc X.K):=by
  intro pins s σ H x y v u Q I rx ry h;obtain ⟨l,k,xs,rfl,rfl,hH,hne,h1,h2,hz,q⟩:=h;cases rx;obtain ⟨t,rfl⟩:=ry;obtain ⟨its,r,pl,hz0⟩:=I.tuple hH;obtain ⟨⟨cls,dd,data,sl⟩,e,hc,n,hd⟩:=id pl;simp only at hc hd;subst hc hd;have hl:=r.length;have hnew:List.foldl (fun x1 x2=>x1++x2) #[] (List.replicate k.toNat its.toArray)=(List.replicate k.toNat its).flatten.toArray:=by
    have:=qt its k.toNat [];rw [List.nil_append] at this;exact this
  have hlen:(List.replicate k.toNat its).flatten.length<=sizeLine:=by rw [w4,<- hl,Nat.mul_comm];exact hz
  have hprod:(its.length:Int)*k<=(sizeLine:Int):=by
    have h3:((its.length*k.toNat:Nat):Int)<=(sizeLine:Int):=by rw [<- hl];exact Int.ofNat_le.mpr hz
    have h4:((k.toNat:Nat):Int)=k:=Int.toNat_of_nonneg (by omega);rw [Int.natCast_mul,h4] at h3;exact h3
  have hcap:¬ (its.toArray.size:Int)*k > (2 ^ 63-1) / 8:=by
    rw [List.size_toArray];have hs:sizeLine=16777216:=sizeLine_eq;omega
  have hbig:Builtin.Tuple.tupleTooMany ((its.toArray.size:Int)*k)=false:=by
    unfold Builtin.Tuple.tupleTooMany;rw [List.size_toArray];exact decide_eq_false (by omega)
  refine wpAny_binaryOp_repeat_ref (T := "tuple") (U := "int") (by decide) ⟨_,e,rfl⟩ (fun s'=>typeIs_int s' k t) iw F.fills_int_mul F.slot_int_rmul lM F.slot_int_index.lookup
    (call_meets F.slot_int_rmul (typeIs_int s k t) F.entry_int_rmul (F.args_int_rmul_2 _ _) (jK k t l its.toArray n dd sl)
      ⟨e,rfl,⟨_,e,rfl⟩,call_meets F.slot_tuple_mul ⟨_,e,rfl⟩ F.entry_tuple_mul (F.args_tuple_mul_2 _ _) (wl l its.toArray n dd sl k t h1 h2 (by
        intro z;apply hne;have:its=[]:=by simpa using z
        rw [this] at hl;exact List.length_eq_zero_iff.mp hl) hcap hbig (by rw [hnew,List.size_toArray];omega)) ⟨e,?_⟩⟩)
  rw [hnew];refine ⟨.ref s.heap.objs.size,_,I.laid (t':=s.toks) (o:=.tup (List.replicate k.toNat xs).flatten) (fun b ob q=>Heap.get?_push_of_some _ q) (Nat.le_refl _) ?_,rfl,q _ (I.hok.fresh (Nat.le_refl _))⟩;exact ⟨by rw [w4,Nat.mul_comm];exact hz,_,r.rep k.toNat,gJ.new _ _⟩
noncomputable def gv:PyData->PyData->R PyData
  | .int i,.int j=>if (-(2 ^ 64) < i/\i < 2 ^ 64)\/(-(2 ^ 64) < j/\j < 2 ^ 64) then .ok (.int (i*j)) else .no
  | .tuple xs,.int k=>if xs≠[]/\2<=k/\k < 2 ^ 63/\xs.length*k.toNat<=sizeLine then .ok (.tuple (List.replicate k.toNat xs).flatten) else .no
  | _,_=>.no
theorem F1:cH X h7 (fun x y H Q=>rI BX (fun i j=>.int (i*j)) x y H Q\/Bc X.K x y H Q) gv:=fun H x y dx dy Q hx hy q=>by
  cases dx with
  | int i =>
    cases dy with
    | int j =>
      simp only [gv] at q;split at q
      · rename_i h;exact .inl ⟨_,_,cb hx,cb hy,h,q _ H (aI.refl _) dD⟩
      · exact q.elim
    | _=>exact q.elim
  | tuple xs =>
    cases dy with
    | int k =>
      simp only [gv] at q;split at q
      · rename_i h;obtain ⟨a,vs,rfl,ha,r⟩:=cM hx;have hl:=r.length;refine .inr ⟨a,k,vs,rfl,cb hy,ie.of ha,fun z=>h.1 ?_,h.2.1,h.2.2.1,by rw [hl];exact h.2.2.2,fun p hp=>q _ _ (cz hp _) (dJ hp (r.rep _))⟩;rw [z] at hl;exact List.length_eq_zero_iff.mp hl.symm
      · exact q.elim
    | _=>exact q.elim
  | _=>exact q.elim
theorem fx (ha:Z.dM X a fa) (hb:Z.dM X b fb):Z.cX X (.BinOp a .Mult b pos) (e2 gv fa fb):=⟨have ha:=ha.un;have hb:=hb.un;mE fM (Fq.or xh) F1 ha hb⟩
theorem CZ:jr X (binaryOp .Add) (fun x y H Q=>∃ i j,x=.str i/\y=.str j/\i.length+j.length<=sizeLine/\Q (.str (i++j)) H):=by
  intro pins s σ H x y v u Q I rx ry h;obtain ⟨i,j,rfl,rfl,hz,q⟩:=h;obtain ⟨t,rfl⟩:=rx;obtain ⟨t',rfl⟩:=ry;exact PyProof.Rows.add_str (fun t' tk=>⟨.str (i++j),H,I.tok _,⟨_,rfl⟩,q⟩) hz
noncomputable def Bb (K:PySem.W.Frag):R2:=fun x y H Q=>∃ a b ys,x=.ref a/\y=.ref b/\ie K H a []/\ie K H b ys/\Q (.ref b) H
theorem AT:jr X (binaryOp .Add) (Bb X.K):=by
  intro pins s σ H x y v u Q I rx ry h;obtain ⟨a,b,ys,rfl,rfl,ha,hb,q⟩:=h;cases rx;cases ry;obtain ⟨its,r1,p1,_⟩:=I.tuple ha;obtain ⟨its2,r2,p2,_⟩:=I.tuple hb;cases r1;obtain ⟨⟨cls,dd,data,sl⟩,ho,hc,n,hd⟩:=id p1;obtain ⟨⟨cls2,dd2,data2,sl2⟩,ho2,hc2,n2,hd2⟩:=id p2;simp only at hc hd hc2 hd2;subst hc hd hc2 hd2;exact concat_meets ⟨_,ho,rfl⟩ ⟨_,ho2,rfl⟩ noFill_tuple_add seq_tuple_add PySem.F.slot_tuple_add PySem.F.entry_tuple_add (PySem.F.args_tuple_add_2 _ _)
    (tuple_addW0 a b _ its2.toArray n n2 dd dd2 sl sl2 (by rfl)) ⟨ho,ho2,⟨.ref b,H,I,rfl,q⟩⟩
noncomputable def Ei (K:PySem.W.Frag):R2:=fun x y H Q=>∃ l b xs zs,x=.ref l/\y=.ref b/\Rd H l (.lst xs)/\Rd H b (.lst zs)/\xs.length+zs.length<=sizeLine/\∀ p,H p=none->Q (.ref p) (cQ H p (.lst (xs++zs)))
theorem Da:jr X (binaryOp .Add) (Ei X.K):=by
  intro pins s σ H x y v u Q I rx ry h;obtain ⟨l,b,xs,zs,rfl,rfl,hH,hB,hz,q⟩:=h;cases rx;cases ry;obtain ⟨z,its,n,r,e⟩:=hH.ok I.hok;obtain ⟨z2,its2,n2,r2,e2⟩:=hB.ok I.hok;have hl:=r.length;have hl2:=r2.length;refine PySem.P.add_list e e2 ?_ (by rw [List.size_toArray,List.size_toArray];omega);have ea:its.toArray++its2.toArray=(its++its2).toArray:=by simp
  rw [ea];exact ⟨.ref _,_,I.lnew (t':=s.toks) (r.append r2) (by rw [List.length_append];omega),rfl,q _ I.fresh⟩
noncomputable def dP:PyData->PyData->R PyData
  | .int i,.int j=>.ok (.int (i+j))
  | .str x,.str y=>if x.length+y.length<=sizeLine then .ok (.str (x++y)) else .no
  | .tuple xs,.tuple ys=>if xs.length+ys.length<=sizeLine then .ok (.tuple (xs++ys)) else .no
  | .list xs,.list ys=>if xs.length+ys.length<=sizeLine then .ok (.list (xs++ys)) else .no
  | _,_=>.no
theorem rL {H:Hp} {ds:List PyData} {x:V} (h:hV H (.list ds) x):∃ a vs,x=.ref a/\Rd H a (.lst vs)/\bO H ds vs:=by
  rcases h with h | h
  · simp only [Rp] at h;obtain ⟨a,o,vs,e,ha,r⟩:=h;exact ⟨a,vs,e,.inr ⟨o,ha⟩,r⟩
  · simp only [jq] at h;obtain ⟨a,vs,e,ha,r⟩:=h;exact ⟨a,vs,e,.inl ha,r⟩
theorem FW:cH X Ip (fun x y H Q=>BV (fun i j=>.int (i+j)) x y H Q\/(∃ i j,x=.str i/\y=.str j/\i.length+j.length<=sizeLine/\Q (.str (i++j)) H)\/Ej X.K x y H Q\/Bb X.K x y H Q\/Ei X.K x y H Q) dP:=fun H x y dx dy Q hx hy q=>by
  cases dx with
  | int i =>
    cases dy with
    | int j=>exact .inl ⟨_,_,cb hx,cb hy,q _ H (aI.refl _) (.inl dD)⟩
    | _=>exact q.elim
  | str i =>
    cases dy with
    | str j =>
      simp only [dP] at q;split at q
      · rename_i h;exact .inr (.inl ⟨_,_,gU hx,gU hy,h,q _ H (aI.refl _) (.inl Bj)⟩)
      · exact q.elim
    | _=>exact q.elim
  | tuple xs =>
    cases dy with
    | tuple ys =>
      simp only [dP] at q;split at q
      · rename_i h;have hx':=hx;obtain ⟨a,vs,rfl,ha,r⟩:=cM hx;obtain ⟨b,us,rfl,hb,r2⟩:=cM hy;cases xs with
        | nil =>
          have:=r.nil_inv;subst this;refine .inr (.inr (.inr (.inl ⟨a,b,us,rfl,rfl,ie.of ha,ie.of hb,q _ H (aI.refl _) (.inl ?_)⟩)));simp only [Rp,List.nil_append];exact ⟨b,us,rfl,hb,r2⟩
        | cons d ds =>
          refine .inr (.inr (.inl ⟨a,b,vs,us,rfl,rfl,ie.of ha,ie.of hb,fun z=>?_,by rw [r.length,r2.length];exact h,fun z=>?_,fun _ p hp=>q _ _ (cz hp _) (.inl (dJ hp (r.append r2)))⟩))
          · rw [z] at r;obtain ⟨_,_,e,_⟩:=r.cons_inv;cases e
          · have hy0:ys=[]:=by
              have:=r2.length;rw [z] at this;exact List.length_eq_zero_iff.mp this.symm
            refine q _ H (aI.refl _) (.inl ?_);rw [hy0,List.append_nil];simp only [Rp];exact ⟨a,vs,rfl,ha,r⟩
      · exact q.elim
    | _=>exact q.elim
  | list xs =>
    cases dy with
    | list ys =>
      simp only [dP] at q;split at q
      · rename_i h;obtain ⟨a,vs,rfl,ha,r⟩:=rL hx;obtain ⟨b,us,rfl,hb,r2⟩:=rL hy;exact .inr (.inr (.inr (.inr ⟨a,b,vs,us,rfl,rfl,ha,hb,by rw [r.length,r2.length];exact h,fun p hp=>q _ _ (cz hp _) (.inr (dn hp (r.append r2)))⟩)))
      · exact q.elim
    | _=>exact q.elim
  | _=>exact q.elim
theorem cc (ha:Z.dM X a fa) (hb:Z.dM X b fb):Z.cX X (.BinOp a .Add b pos) (e2 dP fa fb):=⟨have ha:=ha.un;have hb:=hb.un;BZ.e (mE Cs (Fk.or (CZ.or (Db.or (AT.or Da)))) FW ha hb)⟩
end
section
variable {prog:Program} {w:World} {A:Around} {E:Value->Shared->Prop} {s:Shared}
theorem kA {t sl:Addr} {items:Array Value} {vl vu:Value} {lo hi:Option Int} {Q:Value->Shared->Prop} (ht:IsTup s.heap t items) (hs:s.heap.IsSliceOf sl vl vu .none) (pl:IsPart vl lo) (pu:IsPart vu hi)
    (hw:HT.sIx items.size 0 lo=0/\HT.sIx items.size items.size hi=items.size) (h:Q (.ref t) s):wpAny (model prog w) A (getItem (.ref t) (.ref sl)) Q E s:=by
  obtain ⟨os,hos,hcs,hds⟩:=id hs;have hTs:s.TypeIs (.ref sl) "slice" := ⟨os,hos,hcs⟩
  unfold getItem
  try with_reducible refine wpAny_holding ?_
  first | refine wpAny_bind (wpAny_pure ?_) | skip
  refine wpAny_bind (wpAny_sequenceKey ht.typeIs (by decide) ?_);refine wpAny_bind (wpAny_callSpecial?_slot (name:=Str.ofString "__getitem__") ht.typeIs PyProof.Rows.slot_tuple_getitem
    (wpAny_call_entry PyProof.Rows.slot_tuple_getitem ht.typeIs entry_tuple_getitem ?_ (args_tuple_getitem _ _)))
  show wpAny _ _ (Builtin.Tuple.tupleItemsOf (.ref t)>>=_) _ _ s;refine wpAny_bind (tupleItemsOf_ ht ?_);refine wpAny_bind (wpAny_typeOf hTs ?_);rw [if_pos (by decide)];refine wpAny_bind (HT.sliceApplied_gen hs pl pu ?_);have hyes:(((HT.sIx items.size 0 lo:Nat):Int)==0&&(1:Int)==1&&(HT.sIx items.size items.size hi-HT.sIx items.size 0 lo)==items.size)=true:=by
    rw [hw.1,hw.2];simp
  show wpAny _ _ (if (((HT.sIx items.size 0 lo:Nat):Int)==0&&(1:Int)==1&&(HT.sIx items.size items.size hi-HT.sIx items.size 0 lo)==items.size)=true then _ else _) _ _ s;rw [if_pos hyes];refine wpAny_bind (m:=Builtin.Tuple.tupleIsExact _) ?_;unfold Builtin.Tuple.tupleIsExact;refine wpAny_bind (wpAny_typeOf ht.typeIs (wpAny_pure ?_));show wpAny _ _ (if (Value.type "tuple" == Value.type "tuple")=true then _ else _) _ _ s;rw [if_pos (by decide)];refine wpAny_bind (wpAny_rule ?_)
  first
    | exact wpAny_pure ⟨_,rfl,wpAny_pure h⟩
    | exact wpAny_bind (wpAny_pure (wpAny_pure ⟨_,rfl,wpAny_pure h⟩))
end
section
variable {X:Cx} {a b c:Expr} {fa fb fc:Fe} {pos p2:Pos} {nl:Nat} {G:List Str} {x:Str} {p:Pos}
noncomputable def nR (xs:List PyData) (lo hi:Option Int):List PyData:=(xs.drop (HT.sIx xs.length 0 lo)).take (HT.sIx xs.length xs.length hi-HT.sIx xs.length 0 lo)
theorem bO.cut {H:Hp} {ds:List PyData} {vs:List V} (r:bO H ds vs) (lo hi:Option Int):bO H (nR ds lo hi) (tS vs lo hi):=by
  unfold nR tS;rw [r.length];exact (r.drop _).take _
noncomputable def Jw (K:PySem.W.Frag):V->Option Int->Option Int->Hp->VK->Prop:=fun x lo hi H Q=>∃ a xs,x=.ref a/\ie K H a xs/\(HT.sIx xs.length 0 lo=0/\HT.sIx xs.length xs.length hi=xs.length)/\Q (.ref a) H
theorem Bt:B4 X (Jw X.K):=by
  intro pins s σ H x v vl vu lo hi sl Q I rx hs pl pu h;obtain ⟨a,xs,rfl,hx,hw,q⟩:=h;cases rx;obtain ⟨its,r,ht,hz⟩:=I.tuple hx;have hlen:its.toArray.size=xs.length:=by rw [List.size_toArray];exact r.length.symm
  refine ⟨"tuple",_,PyProof.Rows.slot_tuple_getitem.lookup,ht.typeIs,?_⟩;exact kA ht hs pl pu (by rw [hlen];exact hw) ⟨.ref a,H,I,rfl,q⟩
theorem FU:B4 X (fun x lo hi H Q=>∃ xx,x=.str xx/\xx.length<=sizeLine/\Q (.str (Txt.slice xx lo hi)) H):=by
  intro pins s σ H x v vl vu lo hi sl Q I rx hs pl pu h;obtain ⟨xx,rfl,hz,q⟩:=h;obtain ⟨t,rfl⟩:=rx;refine ⟨"str",_,PySem.F.slot_str_getitem.lookup,typeIs_str _ _ _,?_⟩;have fin:∀ t' k,EP X pins σ Q (.str (Txt.slice xx lo hi) t') { s with toks:=k }:=fun t' k=>⟨.str _,H,I.tok k,⟨t',rfl⟩,q⟩
  cases pl with
  | none =>
    cases pu with
    | none=>exact wpAny_getItem_str_slice (l:=none) (u:=none) (st:=none) hs rfl (post_val_or_str ⟨Nat.le_trans (Txt.slice_le xx _ _) hz,fin⟩)
    | int j uj=>exact wpAny_getItem_str_slice (l:=none) (u:=some (j,uj)) (st:=none) hs rfl (post_val_or_str ⟨Nat.le_trans (Txt.slice_le xx _ _) hz,fin⟩)
  | int i ui =>
    cases pu with
    | none=>exact wpAny_getItem_str_slice (l:=some (i,ui)) (u:=none) (st:=none) hs rfl (post_val_or_str ⟨Nat.le_trans (Txt.slice_le xx _ _) hz,fin⟩)
    | int j uj=>exact wpAny_getItem_str_slice (l:=some (i,ui)) (u:=some (j,uj)) (st:=none) hs rfl (post_val_or_str ⟨Nat.le_trans (Txt.slice_le xx _ _) hz,fin⟩)
noncomputable def D5:PyData->Option Int->Option Int->R PyData
  | .str x,lo,hi=>if x.length<=sizeLine then .ok (.str (Txt.slice x lo hi)) else .no
  | .tuple xs,lo,hi=>.ok (.tuple (nR xs lo hi))
  | .list xs,lo,hi=>.ok (.list (nR xs lo hi))
  | _,_,_=>.no
noncomputable abbrev Fo:=aS->R (Option Int)
noncomputable def AN:Fo:=fun _=>.ok none
noncomputable def Iw:PyData->R Int
  | .int i=>.ok i
  | _=>.no
noncomputable def AQ (f:Fe):Fo:=fun ρ=>f ρ>>=fun d=>Iw d>>=fun i=>.ok (some i)
noncomputable def Bg (X:Cx) (f:Fo):TO:=fun σ H Q=>∃ ρ,Sl H σ ρ/\match f ρ with
  | .ok o=>∀ H',aI H H'->Q o H'
  | .ex c=>Xw X c H
  | .no=>False
noncomputable def Gg (X:Cx) (e:Option Expr) (f:Fo):Prop:=PO X e (Bg X f)
structure Z.Gg (X:Cx) (e:Option Expr) (f:Fo):Prop where
  un:D2.Gg X e f
theorem xO  : Z.Gg X none AN:=⟨fun pins s σ H Q I ⟨ρ,sl,q⟩=>Dp pins s σ H Q I (q H (aI.refl _))⟩
theorem H9 (Q:Option Int->Hp->Prop):B6 X (fun (r:R (Option Int)) H=>match r with | .ok b=>∀ H',aI H H'->Q b H' | .ex c=>Xw X c H | .no=>False) where
  mono:=fun r H H' h s=>by
    cases r with
    | ok d=>exact fun H2 s2=>h H2 (s.trans s2)
    | ex c=>exact Xw.mono h s
    | no=>exact h
  ex:=fun c H h=>h
  no:=fun H h=>h
theorem xP {e:Expr} {f:Fe} (h:Z.cX X e f):Z.Gg X (some e) (AQ f):=⟨have h:=h.un;fun pins s σ H Q I q =>
  Dq h pins s σ H Q I ((eY (P:=h7) (f:=f) (k:=fun _ d=>Iw d>>=fun i=>.ok (some i)) (H9 (X:=X) Q) q).post fun v H1 ⟨_,d,_,_,p,q1⟩=>by
    cases d with
    | int i =>
      have e1:v=.int i:=by simpa only [Rp] using p
      exact ⟨i,e1,q1 H1 (aI.refl _)⟩
    | _=>exact q1.elim)⟩
noncomputable def Jg (f:Fe) (lo hi:Fo):Fe:=fun ρ=>f ρ>>=fun d=>lo ρ>>=fun l=>hi ρ>>=fun u=>D5 d l u
theorem zV {β:Type} {Tg:R β->Hp->Prop} {σ:St} {H:Hp} (t:B6 X Tg) {f:Fo} {k:aS->Option Int->R β} (h:∃ ρ,Sl H σ ρ/\Tg (f ρ>>=k ρ) H):Bg X f σ H (fun o H1=>∃ ρ,Sl H1 σ ρ/\aI H H1/\Tg (k ρ o) H1):=by
  obtain ⟨ρ,sl,q⟩:=h;refine ⟨ρ,sl,?_⟩;cases e:f ρ with
  | ok d=>rw [e] at q;exact fun H1 s=>⟨ρ,sl.mono s,s,t.mono _ _ _ q s⟩
  | ex c=>rw [e] at q;exact t.ex _ _ q
  | no=>rw [e] at q;exact (t.no _ q).elim
theorem Bg.post {f:Fo} {σ:St} {H:Hp} {Q Q':Option Int->Hp->Prop} (h:Bg X f σ H Q) (i:∀ b H',Q b H'->Q' b H'):Bg X f σ H Q':=by
  obtain ⟨ρ,sl,q⟩:=h;refine ⟨ρ,sl,?_⟩;cases e:f ρ with
  | ok d=>rw [e] at q;exact fun H' s=>i _ _ (q H' s)
  | ex c=>rw [e] at q;exact q
  | no=>rw [e] at q;exact q
theorem vg {lo hi:Option Expr} {fl fh:Fo} (ha:Z.dM X a fa) (hl:Z.Gg X lo fl) (hu:Z.Gg X hi fh):Z.cX X (.Subscript a (.Slice lo hi none p2) pos) (Jg fa fl fh):=⟨have ha:=ha.un;have hl:=hl.un;have hu:=hu.un;by
  refine BZ.e (PE.imp (A1 (Bt.or (FV.or (DH.or FU))) ha hl hu) fun σ H Q h=>?_);refine (eY (P:=sT) (f:=fa) (k:=fun ρ d=>fl ρ>>=fun l=>fh ρ>>=fun u=>D5 d l u) (ff (X:=X) Cs Q) h).post fun v H1 zq0=>?_
  obtain ⟨ρ1,d1,sl1,_,p1,q1⟩:=zq0;refine (zV (f:=fl) (k:=fun ρ l=>fh ρ>>=fun u=>D5 d1 l u) (ff (X:=X) Cs Q) ⟨ρ1,sl1,q1⟩).post fun l H2 zq0=>?_
  obtain ⟨ρ2,sl2,s2,q2⟩:=zq0;refine (zV (f:=fh) (k:=fun ρ u=>D5 d1 l u) (ff (X:=X) Cs Q) ⟨ρ2,sl2,q2⟩).post fun u H3 zq0=>?_
  obtain ⟨ρ3,sl3,s3,q3⟩:=zq0;have p3:hV H3 d1 v:=hV.mono (hV.mono p1 s2) s3;cases d1 with
  | tuple xs =>
    obtain ⟨a',vs,rfl,ha',r⟩:=cM p3;have hlen:=r.length;by_cases hw:HT.sIx vs.length 0 l=0/\HT.sIx vs.length vs.length u=vs.length
    · refine .inl ⟨a',vs,rfl,ie.of ha',hw,q3 _ H3 (aI.refl _) (.inl ?_)⟩;have e:nR xs l u=xs:=by
        unfold nR;rw [<- hlen,hw.1,hw.2];simp [hlen]
      rw [e];simp only [Rp];exact ⟨a',vs,rfl,ha',r⟩
    · exact .inr (.inl ⟨a',vs,rfl,ie.of ha',hw,fun p hp=>q3 _ _ (cz hp _) (.inl (dJ hp (r.cut l u)))⟩)
  | list xs =>
    obtain ⟨a',vs,rfl,ha',r⟩:=eS (K:=X.K) p3;exact .inr (.inr (.inl ⟨a',vs,rfl,ha',fun p hp=>q3 _ _ (cz hp _) (.inr (dn hp (r.cut l u)))⟩))
  | str xx =>
    simp only [D5] at q3;split at q3
    · rename_i hz;exact .inr (.inr (.inr ⟨xx,gU p3,hz,q3 _ H3 (aI.refl _) (.inl (by simp only [Rp]))⟩))
    · exact q3.elim
  | _=>exact q3.elim⟩
noncomputable def Jc:PyData->R PyData
  | .tuple xs=>.ok (.tuple xs.reverse)
  | _=>.no
end
section
variable {X:Cx} {a b c:Expr} {fa fb fc:Fe} {pos p2:Pos} {nl:Nat} {G:List Str} {x:Str} {p:Pos}
theorem x8:dX X (.builtin "len") (fun xs H Q=>∃ a kvs,xs=[V.ref a]/\Rd H a (.dK kvs)/\Q (.int kvs.length) H):=by
  intro pins s σ H xs us Q I r h;obtain ⟨a,kvs,rfl,ha,q⟩:=h;obtain ⟨u,rfl,ru⟩:=gu r;cases ru;exact GL I ha fun t s' I'=>⟨.int kvs.length,H,I',⟨t,rfl⟩,q⟩
theorem eQ.length {H:Hp}:∀ {kvs:List (PyData×PyData)} {ks:List (dz×V)},eQ H kvs ks->ks.length=kvs.length
  | [],ks,h=>by simp only [eQ] at h;rw [h];rfl
  | kd::kvs,ks,h=>by
    simp only [eQ] at h;obtain ⟨x,v,r,rfl,_,t⟩:=h;rw [List.length_cons,List.length_cons,eQ.length t]
noncomputable def cN:PyData->R PyData
  | .list ds=>.ok (.int ds.length)
  | .tuple ds=>.ok (.int ds.length)
  | .dict kvs=>if kF kvs=true then .no else .ok (.int kvs.length)
  | .str y=>if y.length<=sizeLine then .ok (.int y.length) else .no
  | _=>.no
theorem bZ (T:Tb X nl G) (j:Nat) (hG:G[j]?=some ("len" : Str)) (hm:X.mg "len" = none) (ha:Z.dM X a fa) (he:bq a=true:=by rfl):Z.cX X (.Call (.Name "len" p) [a] [] pos) (e1 cN fa):=⟨have ha:=ha.un;by
  refine Cg T j hG hm fM PySem.boot_len (rM.or (rN.or x8)) (fun H x d Q hx q=>?_) ha he;cases d with
  | list ds =>
    obtain ⟨a',vs,rfl,h,r⟩:=eS (K:=X.K) hx;exact .inl ⟨a',vs,rfl,.inl h,by rw [r.length];exact q _ H (aI.refl _) dD⟩
  | tuple ds =>
    obtain ⟨a',vs,rfl,h,r⟩:=cM hx;exact .inl ⟨a',vs,rfl,.inr (ie.of h),by rw [r.length];exact q _ H (aI.refl _) dD⟩
  | dict kvs =>
    simp only [cN] at q;split at q
    · exact q.elim
    rename_i hi;obtain ⟨a',vs,rfl,h,r⟩:=lC (Bool.not_eq_true _ ▸ hi) hx;exact .inr (.inr ⟨a',vs,rfl,h,by rw [r.length];exact q _ H (aI.refl _) dD⟩)
  | str y =>
    simp only [cN] at q;split at q
    · rename_i hz;exact .inr (.inl ⟨y,by rw [gU hx],hz,q _ H (aI.refl _) dD⟩)
    · exact q.elim
  | _=>exact q.elim⟩
noncomputable def Cn:PyData->R PyData
  | .int i=>.ok (.int i)
  | .bool k=>.ok (.int (if k then 1 else 0))
  | _=>.no
theorem xT (T:Tb X nl G) (j:Nat) (hG:G[j]?=some ("int" : Str)) (hm:X.mg "int" = none) (ha:Z.dM X a fa) (he:bq a=true:=by rfl):Z.cX X (.Call (.Name "int" p) [a] [] pos) (e1 Cn fa):=⟨have ha:=ha.un;by
  refine Ga T j hG hm fM PyProof.Rows.boot_int x0 (fun H x d Q hx q=>?_) ha he;cases d with
  | int i=>exact .inl ⟨i,by rw [cb hx],q _ H (aI.refl _) dD⟩
  | bool k=>exact .inr ⟨k,by rw [oM hx],q _ H (aI.refl _) dD⟩
  | _=>exact q.elim⟩
noncomputable def Kb:PyData->R PyData
  | .int i=>if i.natAbs.log2 < 1920 then .ok (.str (toString i)) else .no
  | _=>.no
noncomputable def yd:PyData->PyData->R PyData
  | .int i,.int j=>.ok (.int (if j < i then j else i))
  | _,_=>.no
noncomputable def EO:PyData->PyData->R PyData
  | .int i,.int j=>.ok (.int (if j > i then j else i))
  | _,_=>.no
theorem tx (T:Tb X nl G) (j:Nat) (hG:G[j]?=some ("min" : Str)) (hm:X.mg "min" = none) (ha:Z.dM X a fa) (hb:Z.dM X b fb) (he:bq a=true:=by rfl) (he2:bq b=true:=by rfl):Z.cX X (.Call (.Name "min" p) [a,b] [] pos) (e2 yd fa fb):=⟨have ha:=ha.un;have hb:=hb.un;by
  refine GD T j hG hm fM PyProof.Rows.boot_min (yb T.calm) (fun H x y d e Q hx hy q=>?_) ha hb he he2;cases d with
  | int i =>
    cases e with
    | int j=>exact ⟨i,j,by rw [cb hx,cb hy],q _ H (aI.refl _) dD⟩
    | _=>exact q.elim
  | _=>exact q.elim⟩
theorem zO (T:Tb X nl G) (j:Nat) (hG:G[j]?=some ("max" : Str)) (hm:X.mg "max" = none) (ha:Z.dM X a fa) (hb:Z.dM X b fb) (he:bq a=true:=by rfl) (he2:bq b=true:=by rfl):Z.cX X (.Call (.Name "max" p) [a,b] [] pos) (e2 EO fa fb):=⟨have ha:=ha.un;have hb:=hb.un;by
  refine GD T j hG hm fM PyProof.Rows.boot_max (ya T.calm) (fun H x y d e Q hx hy q=>?_) ha hb he he2;cases d with
  | int i =>
    cases e with
    | int j=>exact ⟨i,j,by rw [cb hx,cb hy],q _ H (aI.refl _) dD⟩
    | _=>exact q.elim
  | _=>exact q.elim⟩
noncomputable def cC:PyData->R PyData
  | .list ds=>.ok (.tuple ds)
  | .tuple ds=>.ok (.tuple ds)
  | _=>.no
theorem bF (T:Tb X nl G) (j:Nat) (hG:G[j]?=some ("tuple" : Str)) (hm:X.mg "tuple" = none) (ha:Z.dM X a fa) (he:bq a=true:=by rfl):Z.cX X (.Call (.Name "tuple" p) [a] [] pos) (e1 cC fa):=⟨have ha:=ha.un;by
  refine Ga T j hG hm fM PyProof.Rows.boot_tuple pX (fun H x d Q hx q=>?_) ha he;cases d with
  | list ds =>
    obtain ⟨a',vs,rfl,h,r⟩:=eS (K:=X.K) hx;exact ⟨a',vs,rfl,.inl ⟨h,fun l hl=>q _ _ (cz hl _) (dJ hl r)⟩⟩
  | tuple ds =>
    obtain ⟨a',vs,rfl,h,r⟩:=cM hx;exact ⟨a',vs,rfl,.inr ⟨ie.of h,q _ H (aI.refl _) (by simp only [Rp];exact ⟨a',vs,rfl,h,r⟩)⟩⟩
  | _=>exact q.elim⟩
noncomputable def qm:PyData->R PyData
  | .list ds=>.ok (.list ds)
  | .tuple ds=>.ok (.list ds)
  | _=>.no
theorem oA (T:Tb X nl G) (j:Nat) (hG:G[j]?=some ("list" : Str)) (hm:X.mg "list" = none) (ha:Z.dM X a fa) (he:bq a=true:=by rfl):Z.l5 X (.Call (.Name "list" p) [a] [] pos) (e1 qm fa):=⟨have ha:=ha.un;by
  refine Ga T j hG hm Ai PyProof.Rows.boot_list rO (fun H x d Q hx q=>?_) ha he;cases d with
  | list ds =>
    obtain ⟨a',vs,rfl,h,r⟩:=eS (K:=X.K) hx;exact ⟨a',vs,rfl,.inl h,fun l hl=>q _ _ (cz hl _) (dn hl r)⟩
  | tuple ds =>
    obtain ⟨a',vs,rfl,h,r⟩:=cM hx;exact ⟨a',vs,rfl,.inr (ie.of h),fun l hl=>q _ _ (cz hl _) (dn hl r)⟩
  | _=>exact q.elim⟩
inductive Ty where
  | int | bool | str | list | tuple
noncomputable def Ty.nm:Ty->String
  | .int => "int"
  | .bool => "bool"
  | .str => "str"
  | .list => "list"
  | .tuple => "tuple"
noncomputable def G8:Ty->PyData->Bool
  | .int,.int _=>true
  | .int,.bool _=>true
  | .bool,.bool _=>true
  | .str,.str _=>true
  | .list,.list _=>true
  | .tuple,.tuple _=>true
  | _,_=>false
noncomputable def p8 (T:Ty):PyData->R PyData
  | .dict _=>.no
  | d=>.ok (.bool (G8 T d))
theorem zX:dX X (.builtin "isinstance") (fun xs H Q=>∃ x t T k,xs=[x,.ty T]/\lv X.K H x t/\PySem.W.kitOne X.K t (.type T)=some k/\Q (.bl k) H):=by
  intro pins s σ H xs us Q I r h;obtain ⟨x,t,T,k,rfl,ty,e,q⟩:=h;obtain ⟨u,w',rfl,rx,ry⟩:=xD r;cases ry;exact yC I rx ty e fun tk=>⟨.bl k,H,I.tok tk,rfl,q⟩
theorem Ih {K:PySem.W.Frag} {H:Hp} {d:PyData} {v:V} (h:hV H d v):(∃ kvs,d=.dict kvs)\/∃ t,lv K H v t/\∀ T:Ty,PySem.W.kitOne K t (.type T.nm)=some (G8 T d):=by
  cases d with
  | none=>rw [lD h];exact .inr ⟨_,.non,fun T=>by cases T <;> rfl⟩
  | bool k=>rw [oM h];exact .inr ⟨_,.bl k,fun T=>by cases T <;> rfl⟩
  | int i=>rw [cb h];exact .inr ⟨_,.int i,fun T=>by cases T <;> rfl⟩
  | str y=>rw [gU h];exact .inr ⟨_,.str y,fun T=>by cases T <;> rfl⟩
  | tuple ds=>obtain ⟨a,vs,rfl,ha,_⟩:=cM h;exact .inr ⟨_,.tup ha,fun T=>by cases T <;> rfl⟩
  | list ds =>
    obtain ⟨a,vs,rfl,ha,_⟩:=rL h;rcases ha with ha | ⟨o,ha⟩
    · exact .inr ⟨_,.lst ha,fun T=>by cases T <;> rfl⟩
    · exact .inr ⟨_,.frz ha,fun T=>by cases T <;> rfl⟩
  | dict kvs=>exact .inl ⟨kvs,rfl⟩
theorem vy (ty:Ty) {y:Str} {py:Pos} (T:Tb X nl G) (j:Nat) (hG:G[j]?=some ("isinstance" : Str)) (hm:X.mg "isinstance" = none) (hy:bootBuiltins y=some (.type ty.nm)) (T':Tb X nl G) (j':Nat) (hG':G[j']?=some y) (hm':X.mg y=none) (ha:dM X a fa)
    (he:bq a=true:=by rfl):cX X (.Call (.Name "isinstance" p) [a,.Name y py] [] pos) (e1 (p8 ty) fa):=by
  have g:=T.gl _ (List.mem_of_getElem? hG);have g':=T.gl _ (List.mem_of_getElem? hG');have hp:PE X (.Name y py) (tC (.ty ty.nm)):=Dg g'.1 hm' hy rfl g'.2.2 g'.2.1;refine PE.imp (pB zX g.1 hm PyProof.Rows.boot_isinstance (su ha (su hp AX) (bP he)) g.2.2 g.2.1 (bP he)) fun σ H Q h=>?_
  refine (eY (P:=sT) (f:=fa) (k:=fun _ d=>p8 ty d) (ff (X:=X) fM Q) h).post fun v H1 zq0=>?_
  obtain ⟨_,d,_,_,p1,q1⟩:=zq0;show ∃ x t T k,_/\_/\_/\_;rcases Ih (K:=X.K) p1 with ⟨kvs,rfl⟩ | ⟨t,ht,hk⟩
  · exact q1.elim
  · refine ⟨v,t,ty.nm,G8 ty d,rfl,ht,hk ty,?_⟩;cases d with
    | dict kvs=>exact q1.elim
    | _=>exact q1 _ H1 (aI.refl _) fG
theorem rB {py:Pos} (T:Tb X nl G) (j:Nat) (hG:G[j]?=some ("isinstance" : Str)) (hm:X.mg "isinstance" = none) (T':Tb X nl G) (j':Nat) (hG':G[j']?=some ("int" : Str)) (hm':X.mg "int" = none) (ha:Z.dM X a fa) (he:bq a=true:=by rfl):Z.cX X (.Call (.Name "isinstance" p) [a,.Name "int" py] [] pos) (e1 (p8 .int) fa):=⟨have ha:=ha.un;vy .int T j hG hm PyProof.Rows.boot_int T' j' hG' hm' ha he⟩
theorem pV {py:Pos} (T:Tb X nl G) (j:Nat) (hG:G[j]?=some ("isinstance" : Str)) (hm:X.mg "isinstance" = none) (T':Tb X nl G) (j':Nat) (hG':G[j']?=some ("bool" : Str)) (hm':X.mg "bool" = none) (ha:Z.dM X a fa) (he:bq a=true:=by rfl):Z.cX X (.Call (.Name "isinstance" p) [a,.Name "bool" py] [] pos) (e1 (p8 .bool) fa):=⟨have ha:=ha.un;vy .bool T j hG hm PyProof.Rows.boot_bool T' j' hG' hm' ha he⟩
theorem oz {py:Pos} (T:Tb X nl G) (j:Nat) (hG:G[j]?=some ("isinstance" : Str)) (hm:X.mg "isinstance" = none) (T':Tb X nl G) (j':Nat) (hG':G[j']?=some ("tuple" : Str)) (hm':X.mg "tuple" = none) (ha:Z.dM X a fa) (he:bq a=true:=by rfl):Z.cX X (.Call (.Name "isinstance" p) [a,.Name "tuple" py] [] pos) (e1 (p8 .tuple) fa):=⟨have ha:=ha.un;vy .tuple T j hG hm PyProof.Rows.boot_tuple T' j' hG' hm' ha he⟩
noncomputable def rE:List PyData->Option Bool
  | []=>some true
  | .bool k::ds=>(rE ds).map fun r=>k&&r
  | _=>none
noncomputable def vq:PyData->R PyData
  | .list ds=>match rE ds with
    | some k=>.ok (.bool k)
    | none=>.no
  | _=>.no
end
section
variable {X:Cx} {tg a b c:Expr} {fa fb fc:Fe} {pos p2:Pos} {nl:Nat} {G:List Str} {x:Str} {p:Pos} {fs:aS->R (List PyData)} {es:List Expr}
noncomputable def jh:PyData->R (List PyData)
  | .list ds=>.ok ds
  | .tuple ds=>.ok ds
  | _=>.no
noncomputable def dE (f:Fe):aS->R (List PyData):=fun ρ=>f ρ>>=jh
theorem Az {K:PySem.W.Frag} {a:Addr} {ds:List PyData}:B0 (IQ K a) (fun H=>∃ o vs,H a=some (.frz o (.lst vs))/\bO H ds vs) ds where
  go:=fun i H ⟨o,vs,h,r⟩ hi=>by
    have hl:=r.length;exact ⟨vs,vs[i],.inl (.inr ⟨o,h⟩),List.getElem?_eq_getElem (by omega)⟩
  yld:=fun i H x H' d ⟨o,vs,h,r⟩ hd ⟨e,y⟩=>by
    subst e;obtain ⟨v,e1,p⟩:=r.get hd;have:=y vs (.inl (.inr ⟨o,h⟩));rw [e1] at this;cases this;exact ⟨aI.refl _,p⟩
  stop:=fun i H ⟨o,vs,h,r⟩ hi=>⟨vs,.inl (.inr ⟨o,h⟩),by rw [r.length];exact hi⟩
theorem CM {K:PySem.W.Frag} {a:Addr} {ds:List PyData}:B0 (IR K a) (fun H=>∃ vs,H a=some (.tup vs)/\bO H ds vs) ds where
  go:=fun i H ⟨vs,h,r⟩ hi=>by
    have hl:=r.length;exact ⟨vs,vs[i],ie.of h,List.getElem?_eq_getElem (by omega)⟩
  yld:=fun i H x H' d ⟨vs,h,r⟩ hd ⟨e,y⟩=>by
    subst e;obtain ⟨v,e1,p⟩:=r.get hd;have:=y vs (ie.of h);rw [e1] at this;cases this;exact ⟨aI.refl _,p⟩
  stop:=fun i H ⟨vs,h,r⟩ hi=>⟨vs,ie.of h,by rw [r.length];exact hi⟩
noncomputable def Ke (K:PySem.W.Frag) (tl:TE):TI:=fun σ H R=>tl σ H fun x H1=>∃ a,x=.ref a/\((∃ xs,nQ K H1 a xs/\R (IQ K a) H1)\/∃ xs,ie K H1 a xs/\R (IR K a) H1)
theorem Hn {l:Expr} {tl:TE} (hl:PE X l tl):PI X tg l (Ke X.K tl):=by
  intro pins s σ H R I h;refine du (hl pins s σ H _ I h) fun v s1 zq0=>?_
  obtain ⟨x,H1,I1,r1,q1⟩:=zq0;obtain ⟨a,e,q⟩:=q1;subst e;cases r1;rcases q with ⟨xs,hq,q⟩ | ⟨xs,hq,q⟩
  · obtain ⟨its,rv,p,hz⟩:=I1.list hq;refine wpAny_pyIter_list p.isList ?_;refine ⟨s1.heap.objs.size,[s1.heap.objs.size],_,_,H1,rfl,I1.kept (t':=s1.toks) fun b o e=>Heap.get?_push_of_some _ e,zr a _,⟨_,Heap.get?_push_size _ rfl,rfl,rfl⟩,fun b hb=>?_,q⟩;have e:b=s1.heap.objs.size:=by simpa using hb
    subst e;exact I1.fpOk (Nat.le_refl _) (I1.hok.fresh (Nat.le_refl _))
  · obtain ⟨its,rv,p,hz⟩:=I1.tuple hq;refine wpAny_pyIter_tuple (show s1.heap.IsTuple a its.toArray from p) ?_;refine ⟨s1.heap.objs.size,[s1.heap.objs.size],_,_,H1,rfl,I1.kept (t':=s1.toks) fun b o e=>Heap.get?_push_of_some _ e,wo a _,⟨_,Heap.get?_push_size _ rfl,rfl,rfl⟩,fun b hb=>?_,q⟩;have e:b=s1.heap.objs.size:=by simpa using hb
    subst e;exact I1.fpOk (Nat.le_refl _) (I1.hok.fresh (Nat.le_refl _))
theorem H8 (Rk:It->Hp->Prop):B6 X (fun (r:R (List PyData)) H=>match r with | .ok ds=>∀ J H',aI H H'->(∃ Gd,B0 J Gd ds/\Ir H' (fun _=>False) Gd)->Rk J H' | .ex c=>Xw X c H | .no=>False) where
  mono:=fun r H H' h s=>by
    cases r with
    | ok d=>exact fun J H2 s2=>h J H2 (s.trans s2)
    | ex c=>exact Xw.mono h s
    | no=>exact h
  ex:=fun c H h=>h
  no:=fun H h=>h
theorem bw (ha:Z.cX X a fa):Z.rd X tg a (dE fa):=⟨have ha:=ha.un;PI.imp (Hn ha) fun σ H Rk h=>(eY (P:=h7) (f:=fa) (k:=fun _=>jh) (H8 (X:=X) Rk) h).post fun v H1 ⟨_,d,_,_,p1,q1⟩=>by
    cases d with
    | list ds =>
      simp only [Rp] at p1;obtain ⟨a',o,vs,rfl,h,r⟩:=p1;exact ⟨a',rfl,.inl ⟨vs,.inl (.inr ⟨o,h⟩),q1 _ H1 (aI.refl _) ⟨_,Az,fun H2 k _=>⟨o,vs,k.2 _ _ _ h,bO.kp k _ _ r⟩⟩⟩⟩
    | tuple ds =>
      simp only [Rp] at p1;obtain ⟨a',vs,rfl,h,r⟩:=p1;exact ⟨a',rfl,.inr ⟨vs,ie.of h,q1 _ H1 (aI.refl _) ⟨_,CM,fun H2 k _=>⟨vs,k.1 _ _ h,bO.kp k _ _ r⟩⟩⟩⟩
    | _=>exact q1.elim⟩
noncomputable def ca (lo:Int) (n:Nat):List PyData:=(List.range n).map fun (k:Nat)=>.int (lo+k)
noncomputable def qb:List PyData->R (List PyData)
  | [.int j]=>if -(2 ^ 62)<=j/\j < 2 ^ 62 then .ok (ca 0 j.toNat) else .no
  | [.int i,.int j]=>if -(2 ^ 62)<=i/\i < 2 ^ 62/\-(2 ^ 62)<=j/\j < 2 ^ 62 then .ok (ca i (j-i).toNat) else .no
  | _=>.no
noncomputable def iS (fs:aS->R (List PyData)):aS->R (List PyData):=fun ρ=>fs ρ>>=qb
theorem yE {lo:Int} {n:Nat}:B0 (Im lo n) (fun _=>True) (ca lo n) where
  go:=fun i H _ hi=>by
    show i < n;simpa [ca] using hi
  yld:=fun i H x H' d _ hd ⟨e,y⟩=>by
    subst e;subst y;refine ⟨aI.refl _,?_⟩;unfold ca at hd;rw [List.getElem?_map] at hd;cases h:(List.range n)[i]? with
    | none=>rw [h] at hd;cases hd
    | some k =>
      rw [h] at hd;have hk:k=i:=by
        rw [List.getElem?_range] at h
        · exact (Option.some.inj h).symm
        · have:=(List.getElem?_eq_some_iff.mp h).1;simpa using this
      subst hk;cases hd;exact dD
  stop:=fun i H _ hi=>by
    show n<=i;simpa [ca] using hi
theorem fV (T:Tb X nl G) (j:Nat) (hG:G[j]?=some ("range" : Str)) (hm:X.mg "range" = none) (ha:Z.uZ X [a] fs) (hl:∀ ρ ds,fs ρ=.ok ds->ds.length=1) (hs:bq a=true:=by rfl):Z.rd X tg (.Call (.Name "range" p) [a] [] pos) (iS fs):=⟨have ha:=ha.un;PI.imp (yZ (T.gl _ (List.mem_of_getElem? hG)).1 hm ha (bP hs)) fun σ H Rk ⟨ρ,sl,q⟩=>by
    refine ⟨ρ,sl,?_⟩;dsimp only [iS] at q;cases e:fs ρ with
    | ex c=>rw [e] at q;exact q
    | no=>rw [e] at q;exact q
    | ok ds =>
      rw [e] at q;have hlen:=hl ρ ds e;intro vs H1 s1 r1
      match ds,hlen with
      | [d],_ =>
        simp only [RA] at r1;obtain ⟨v,r',rfl,p1,rfl⟩:=r1;cases d with
        | int j =>
          have ev:v=.int j:=by simpa only [Rp] using p1
          subst ev;by_cases hz:-(2 ^ 62)<=j/\j < 2 ^ 62
          · have e2:qb [.int j]=.ok (ca 0 j.toNat):=if_pos hz;rw [R.ok_bind,e2] at q;exact ⟨j,rfl,hz.1,hz.2,q _ H1 s1 ⟨_,yE,fun _ _ _=>True.intro⟩⟩
          · have e2:qb [.int j]=.no:=if_neg hz;rw [R.ok_bind,e2] at q;exact q.elim
        | _=>exact q.elim⟩
end
noncomputable def vE (x:Int):List Int->List Int
  | []=>[x]
  | y::r=>if x<=y then x::y::r else y::vE x r
noncomputable def eo:List Int->List Int
  | []=>[]
  | x::r=>vE x (eo r)
theorem mF (x:Int):∀ l,(vE x l).Perm (x::l)
  | []=>List.Perm.refl _
  | y::r=>by
    unfold vE;split
    · exact List.Perm.refl _
    · exact ((mF x r).cons y).trans (List.Perm.swap x y r)
theorem eu:∀ l,(eo l).Perm l
  | []=>List.Perm.refl _
  | x::r=>(mF x (eo r)).trans ((eu r).cons x)
theorem ni (x:Int):∀ l,l.Pairwise (·<=·)->(vE x l).Pairwise (·<=·)
  | [],_=>by unfold vE;exact List.pairwise_singleton _ _
  | y::r,h=>by
    have h':=List.pairwise_cons.mp h;unfold vE;split
    · rename_i hxy;refine List.pairwise_cons.mpr ⟨fun z hz=>?_,h⟩;rcases List.mem_cons.mp hz with rfl | hz
      · exact hxy
      · exact Int.le_trans hxy (h'.1 z hz)
    · rename_i hxy;refine List.pairwise_cons.mpr ⟨fun z hz=>?_,ni x r h'.2⟩;rcases List.mem_cons.mp ((mF x r).mem_iff.mp hz) with rfl | hz
      · omega
      · exact h'.1 z hz
theorem gE:∀ l,(eo l).Pairwise (·<=·)
  | []=>List.Pairwise.nil
  | x::r=>ni x _ (gE r)
theorem pL {a b:List Int} (hp:a.Perm b) (hs:a.Pairwise (·<=·)):a=eo b:=PySem.W.ksm_same (hp.trans (eu b).symm) hs (gE b)
section
variable {prog:Program} {w:World} {A:Around} {E:Value->Shared->Prop} {s:Shared}
theorem uE {d:Addr} {kvs:List (dz×Value)} {ns:List Int} {Q:Value->Shared->Prop} (hh:A.handled=none) (lo:(d==sysModules)=false) (hd:s.heap.DictOf (dH prog w) d kvs) (hk:kvs.map (·.1)=ns.map Sum.inl) (h64:ns.length < 64)
    (h:∀ (D:Addr) (h':Heap) (tk:Nat) (vs:List Value) (e:Nat),s.heap.get? D=none->(∀ b o,s.heap.get? b=some o->h'.get? b=some o)->h'.get? D=some (seqObj "list" vs.toArray e)->IntsAre vs (eo ns)->Q (.ref D) { s with heap:=h',toks:=tk }) :
    wpAny (model prog w) A (call (.builtin "sorted") [.ref d]) Q E s:=by
  obtain ⟨ep,hat⟩:=hd.dictAt;have hlen:kvs.length=ns.length:=by have:=congrArg List.length hk;simpa using this
  have hn:kvs.length<=sizeLine:=by rw [sizeLine_eq];omega
  refine Calls.call_function_entry kind_sorted plain_sorted entry_sorted (args_sorted1 _) ?_;unfold Builtin.«sorted»;refine wpAny_bind (m:=checkCount "sorted" 1 1 _) (wpAny_pure ?_);refine wpAny_bind (PySem.W.kdu_collect (A:=A.in1) (PySem.W.kdl_dict (knd:=dH prog w) (kvs:=kvs) (ep:=ep) lo) hh hat hn fun h1 tk acc hk1 hacc=>?_);have hl:acc.toList.length=kvs.length:=by rw [Array.length_toList];exact hacc.1
  have hI:IntsAre acc.toList ns:=by
    have key:∀ (l:List Value) (ms:List Int) (k:Nat),l.length=ms.length->(∀ (j:Nat) (v:Value),l[j]?=some v->∃ n:Int,ms[j]?=some n/\∃ t,v=Value.int n t)->IntsAre l ms:=by
      intro l;induction l with
      | nil=>intro ms k e _;have:ms=[]:=List.length_eq_zero_iff.mp e.symm;subst this;exact .nil
      | cons v r ih =>
        intro ms k e hv;cases ms with
        | nil=>cases e
        | cons n ms =>
          obtain ⟨n',e1,t,rfl⟩:=hv 0 v rfl;have:n=n':=Option.some.inj e1;subst this;exact .cons n t (ih ms (k+1) (by simpa using e) fun j u hu=>hv (j+1) u (by simpa using hu))
    refine key acc.toList ns 0 (by rw [hl,hlen]) fun j v hv=>?_
    obtain ⟨κ,x,hx,his⟩:=hacc.2 j v (by rw [<- Array.getElem?_toList];exact hv);have e1:(kvs.map (·.1))[j]?=some κ:=by rw [List.getElem?_map,hx];rfl
    rw [hk,List.getElem?_map] at e1;cases e2:ns[j]? with
    | none=>rw [e2] at e1;cases e1
    | some n =>
      rw [e2] at e1;have e3:Sum.inl n=κ:=Option.some.inj e1;subst e3;rcases cW (show o8 (Sum.inl n) v=true from his) with ⟨i,t,e4,e5⟩ | ⟨y,t,e4,_⟩
      · cases e4;exact ⟨n,rfl,t,e5⟩
      · cases e4
  refine wpAny_bind (wpAny_newList ?_ (by rw [hl];exact hn));have hoL:(h1.push (seqObj "list" acc.toList.toArray 0)).get? h1.objs.size=some (seqObj "list" acc.toList.toArray 0):=Heap.get?_push_size _ rfl;show wpAny _ _ _ _ _ { s with heap:=h1.push (seqObj "list" acc.toList.toArray 0),toks:=tk };refine wpAny_bind (wpAny_holding (wpAny_call_entry slot_list_sort ⟨_,hoL,rfl⟩ entry_list_sort (list_sort_tree hoL hI (by rw [hl,hlen];exact h64) fun out ns' a1 a2 a3=>⟨_,rfl,?_⟩) (args_list_sort _)));refine wpAny_pure ⟨_,rfl,?_⟩;obtain ⟨e,he⟩:=sortedHeap_at (out:=out) hoL;have hsz:s.heap.get? h1.objs.size=none:=by
    cases q:s.heap.get? h1.objs.size with
    | none=>rfl
    | some o=>exact absurd (Heap.lt_size (hk1 _ _ q)) (Nat.lt_irrefl _)
  refine h h1.objs.size _ tk out.toList e hsz (fun b o q=>?_) he (by rw [pL a2 a3] at a1;exact a1);have q1:=hk1 b o q;have hlt:b < h1.objs.size:=Heap.lt_size q1;show (sortedHeap (h1.push (seqObj "list" acc.toList.toArray 0)) h1.objs.size acc.toList out).get? b=some o;rw [sortedHeap_old (Nat.ne_of_lt hlt) (by rw [size_push'];exact Nat.lt_succ_of_lt hlt)];exact Heap.get?_push_of_some _ q1
end
theorem DT {fs ex:List Addr} {H:Hp} {h h':Heap} {a:Addr} {o:HO} (k:∀ b u,h.get? b=some u->h'.get? b=some u) (hg:h.get? a=none) (hn:H a=none):Un fs ex H (cQ H a o) h h':=by
  have ne:∀ {b:Addr} {u:Obj},h.get? b=some u->b≠a:=fun e z=>by subst z;rw [hg] at e;cases e
  exact ⟨fun b u q _ _ _=>k b u q,fun b u q _ _ _=>⟨u.slots,k b u q⟩,fun b u q n _=>by rw [aB (ne q)];exact n,fun b u q _=>⟨u,k b u q⟩,fun b xs q=>by rw [aB (bi q hn)];exact q,fun b u xs q=>by rw [aB (bi q hn)];exact q,
    fun b ps q=>⟨#[],by rw [aB (bi q hn),q];simp⟩⟩
theorem o5 {X:Cx} {pins:List (Addr×Obj)} {σ:St} {H:Hp} {s:Shared} {h':Heap} {a:Addr} {o:HO} {t':Nat} (I:aX X pins σ H s) (k:∀ b u,s.heap.get? b=some u->h'.get? b=some u) (hg:s.heap.get? a=none) (hn:H a=none)
    (new:cm X.prog X.w (cQ H a o) h' a o):aX X pins σ (cQ H a o) { s with heap:=h',toks:=t' }:=by
  refine I.un (DT k hg hn) fun b u e=>?_
  by_cases hb:b=a
  · subst hb;rw [bE] at e;cases e;exact new
  · rw [aB hb] at e;exact (I.hok b u e).stay (fun c v _ q=>k c v q) (fun c q=>by rw [aB (bi q hn)];exact q) fun c xs q=>by rw [aB (bi q hn)];exact q
theorem o6 {X:Cx} {pins:List (Addr×Obj)} {σ:St} {H:Hp} {s:Shared} {a:Addr} (I:aX X pins σ H s) (hg:s.heap.get? a=none):H a=none:=by
  cases q:H a with
  | none=>rfl
  | some o=>obtain ⟨u,e⟩:=sj (I.hok a o q);rw [hg] at e;cases e
section
variable {X:Cx} {a b c:Expr} {fa fb fc:Fe} {pos p2:Pos} {nl:Nat} {G:List Str} {x:Str} {p:Pos}
noncomputable def ce:List PyData->Option (List Int)
  | []=>some []
  | .int i::ds=>(ce ds).map fun r=>i::r
  | _=>none
theorem eh:∀ {ds:List PyData} {ns:List Int},ce ds=some ns->ds=ns.map PyData.int
  | [],ns,h=>by cases h;rfl
  | d::ds,ns,h=>by
    cases d with
    | int i =>
      simp only [ce] at h;cases e:ce ds with
      | none=>rw [e] at h;cases h
      | some r =>
        rw [e] at h;cases h;rw [List.map_cons,eh e]
    | _=>cases h
theorem dk:∀ ns:List Int,ce (ns.map PyData.int)=some ns
  | []=>rfl
  | n::ns=>by simp only [List.map_cons,ce,dk ns,Option.map_some]
noncomputable def lF:PyData->R PyData
  | .list ds=>match ce ds with
    | some ns=>if ns.length < 64 then .ok (.list ((eo ns).map PyData.int)) else .no
    | none=>.no
  | .dict kvs=>match ce (kvs.map (·.1)) with
    | some ns=>if ns.length < 64 then .ok (.list ((eo ns).map PyData.int)) else .no
    | none=>.no
  | _=>.no
noncomputable def FP (K:PySem.W.Frag):List V->Hp->VK->Prop:=fun xs H Q=>∃ p ns,xs=[.ref p]/\nQ K H p (ns.map V.int)/\ns.length < 64/\∀ l,H l=none->Q (.ref l) (cQ H l (.lst ((eo ns).map V.int)))
noncomputable def FO:List V->Hp->VK->Prop:=fun xs H Q=>∃ p ks ns,xs=[.ref p]/\Rd H p (.dK ks)/\ks.map (·.1)=ns.map Sum.inl/\ns.length < 64/\∀ l,H l=none->Q (.ref l) (cQ H l (.lst ((eo ns).map V.int)))
theorem kq (ns:List Int):(eo ns).length=ns.length:=(eu ns).length_eq
theorem vn:dX X (.builtin "sorted") (FP X.K):=by
  intro pins s σ H xs us Q I r h;obtain ⟨p,ns,rfl,hq,h64,q⟩:=h;obtain ⟨u,rfl,rx⟩:=gu r;cases rx;obtain ⟨its,rv,pl,hz⟩:=I.list hq;have hI:IntsAre its ns:=fP rv;have hl:=IntsAre.length hI;refine sorted_ints pl.isList hI (by omega) fun out ns' a1 a2 a3=>?_
  rw [pL a2 a3] at a1;obtain ⟨e,he⟩:=sortedAll_at s.heap its out;refine ⟨.ref (s.heap.objs.size+1),_,I.laid (t':=s.toks) (o:=.lst ((eo ns).map V.int)) (fun b o e=>sortedAll_old e) (Nat.le_succ _) ⟨?_,out.toList,e,iG a1,by simpa [seqObj] using he⟩,rfl,q _ (I.hok.fresh (Nat.le_succ _))⟩;rw [List.length_map,kq,sizeLine_eq];omega
theorem vm (hc:X.calm=true):dX X (.builtin "sorted") FO:=by
  intro pins s σ H xs us Q I r h;obtain ⟨p,ks,ns,rfl,hq,hk,h64,q⟩:=h;obtain ⟨u,rfl,rx⟩:=gu r;cases rx;obtain ⟨hz,hlo,vs,kv,hd⟩:=oP I.hok hq;refine uE (I.ok.hd hc) hlo hd (by rw [<- kv.keys];exact hk) h64 fun D h' tk vs' e hg kp hD hI=>?_
  have hn:=o6 I hg;refine ⟨.ref D,_,o5 (t':=tk) (o:=.lst ((eo ns).map V.int)) I kp hg hn ⟨?_,vs',e,iG hI,by simpa [seqObj] using hD⟩,rfl,q _ hn⟩;rw [List.length_map,kq,sizeLine_eq];omega
theorem iA:∀ {H:Hp} {ns:List Int} {vs:List V},bO H (ns.map PyData.int) vs->vs=ns.map V.int
  | H,[],vs,r=>by rw [List.map_nil] at r;rw [r.nil_inv];rfl
  | H,n::ns,vs,r=>by
    rw [List.map_cons] at r;obtain ⟨v,r',rfl,p,t⟩:=r.cons_inv;have:v=.int n:=by simpa only [Rp] using p
    rw [this,iA t];rfl
theorem uB:∀ {H:Hp} {kvs:List (PyData×PyData)} {ks:List (dz×V)},eQ H kvs ks->kvs.map (·.1)=ks.map fun k=>gm k.1
  | H,[],ks,r=>by simp only [eQ] at r;rw [r];rfl
  | H,(k,d)::kvs,ks,r=>by
    simp only [eQ,BP] at r;obtain ⟨x,v,r',rfl,⟨e,_⟩,t⟩:=r;rw [List.map_cons,List.map_cons,uB t,e]
theorem qC:∀ {ks:List (dz×V)} {ns:List Int},(ks.map fun k=>gm k.1)=ns.map PyData.int->ks.map (·.1)=ns.map Sum.inl
  | [],[],_=>rfl
  | [],_::_,h=>by cases h
  | _::_,[],h=>by cases h
  | (k,v)::ks,n::ns,h=>by
    rw [List.map_cons,List.map_cons] at h;injection h with h1 h2
    rw [List.map_cons,List.map_cons,qC h2];cases k with
    | inl i=>simp only [gm] at h1;cases h1;rfl
    | inr y=>simp only [gm] at h1;cases h1
theorem rC (T:Tb X nl G) (j:Nat) (hG:G[j]?=some ("sorted" : Str)) (hm:X.mg "sorted" = none) (ha:Z.dM X a fa) (he:bq a=true:=by rfl):Z.l5 X (.Call (.Name "sorted" p) [a] [] pos) (e1 lF fa):=⟨have ha:=ha.un;by
  refine Cg T j hG hm Ai PyProof.Rows.boot_sorted (vn.or (vm T.calm)) (fun H x d Q hx q=>?_) ha he;cases d with
  | list ds =>
    simp only [lF] at q;cases ei:ce ds with
    | none=>rw [ei] at q;exact q.elim
    | some ns =>
      rw [ei] at q;dsimp only at q;by_cases h64:ns.length < 64
      · rw [if_pos h64] at q;obtain ⟨a',vs,rfl,h,r⟩:=eS (K:=X.K) hx;rw [eh ei] at r;rw [iA r] at h;exact .inl ⟨a',ns,rfl,h,h64,fun l hl=>q _ _ (cz hl _) (dn hl (bO.ints _))⟩
      · rw [if_neg h64] at q;exact q.elim
  | dict kvs =>
    simp only [lF] at q;cases ei:ce (kvs.map (·.1)) with
    | none=>rw [ei] at q;exact q.elim
    | some ns =>
      rw [ei] at q;dsimp only at q;by_cases h64:ns.length < 64
      · rw [if_pos h64] at q;have hi:kF kvs=false:=by
          cases kvs with
          | nil=>rfl
          | cons kd kvs =>
            obtain ⟨k,d⟩:=kd;cases k <;> first | rfl | (simp [ce] at ei)
        obtain ⟨a',ks,rfl,h,r⟩:=lC hi hx;have hk:=qC ((uB r).symm.trans (eh ei));exact .inr ⟨a',ks,ns,rfl,h,hk,h64,fun l hl=>q _ _ (cz hl _) (dn hl (bO.ints _))⟩
      · rw [if_neg h64] at q;exact q.elim
  | _=>exact q.elim⟩
theorem xY (hc:X.calm=true):dX X (.builtin "all") (fun xs H Q=>∃ (p:Addr) (bs:List Bool),xs=[.ref p]/\nQ X.K H p (bs.map V.bl)/\Q (.bl (bs.all id)) H):=by
  intro pins s σ H xs us Q I r h;obtain ⟨p,bs,rfl,hq,q⟩:=h;obtain ⟨u,rfl,rx⟩:=gu r;cases rx;obtain ⟨its,rv,pl,hz⟩:=I.list hq;have hh:X.A.in1.handled=none:=I.ok.hd hc;have hlt:p≠s.heap.objs.size:=by obtain ⟨o,e,_⟩:=pl.isList;exact Nat.ne_of_lt (Heap.lt_size e)
  have hits:its=bs.map Value.bool:=by
    have key:∀ (bs:List Bool) (us:List Value),bR (bs.map V.bl) us->us=bs.map Value.bool:=by
      intro bs;induction bs with
      | nil=>intro us r;cases r;rfl
      | cons k bs ih=>intro us r;rw [List.map_cons] at r;cases r with | cons r1 r2=>rw [ih _ r2];cases r1;rfl
    exact key bs its rv
  refine call_all_walk (wpAny_pyIter_list pl.isList ?_);refine ⟨s.heap.objs.size,_,_,its.toArray.size,_,_,fun i=>(bs[i]?).getD true,rfl,Walks.list hh s.heap.objs.size p hlt its.toArray,⟨⟨_,Heap.get?_push_size _ rfl,rfl,rfl⟩,?_⟩,fun i v s' Q' E' hv hQ'=>?_,fun h' tk kp=>?_⟩
  · obtain ⟨o,e,r'⟩:=pl.isList;exact ⟨o,Heap.get?_push_of_some _ e,r'⟩
  · have hv':its[i]?=some v:=by simpa using hv
    rw [hits,List.getElem?_map] at hv';cases e:bs[i]? with
    | none=>rw [e] at hv';cases hv'
    | some k =>
      rw [e] at hv';cases hv';dsimp only at hQ';rw [e] at hQ';exact wpAny_truthy_bool hQ'
  · have e:((List.range its.toArray.size).all fun i=>(bs[i]?).getD true)=bs.all id:=by
      rw [List.size_toArray,hits,List.length_map];have key:∀ (l:List Bool),((List.range l.length).all fun i=>(l[i]?).getD true)=l.all id:=by
        intro l;induction l with
        | nil=>rfl
        | cons k l ih =>
          rw [List.length_cons,List.range_succ_eq_map,List.all_cons,List.all_map,List.all_cons,<- ih];rfl
      exact key bs
    rw [e];refine ⟨.bl (bs.all id),H,I.kept (t':=tk) fun b o g=>kp b o (fun z=>?_) (Heap.get?_push_of_some _ g),rfl,q⟩;rw [List.mem_singleton.mp z] at g;exact absurd (Heap.lt_size g) (Nat.lt_irrefl _)
theorem tJ:∀ {ds:List PyData} {k:Bool},rE ds=some k->∃ bs:List Bool,ds=bs.map PyData.bool/\k=bs.all id
  | [],k,h=>by cases h;exact ⟨[],rfl,rfl⟩
  | d::ds,k,h=>by
    cases d with
    | bool j =>
      simp only [rE] at h;cases e:rE ds with
      | none=>rw [e] at h;cases h
      | some r =>
        rw [e] at h;cases h;obtain ⟨bs,e1,e2⟩:=tJ e;exact ⟨j::bs,by rw [e1];rfl,by rw [e2];rfl⟩
    | _=>cases h
theorem qJ:∀ {H:Hp} {ns:List Bool} {vs:List V},bO H (ns.map PyData.bool) vs->vs=ns.map V.bl
  | H,[],vs,r=>by rw [List.map_nil] at r;rw [r.nil_inv];rfl
  | H,n::ns,vs,r=>by
    rw [List.map_cons] at r;obtain ⟨v,r',rfl,p,t⟩:=r.cons_inv;have:v=.bl n:=by simpa only [Rp] using p
    rw [this,qJ t];rfl
theorem tt (T:Tb X nl G) (j:Nat) (hG:G[j]?=some ("all" : Str)) (hm:X.mg "all" = none) (ha:Z.dM X a fa) (he:bq a=true:=by rfl):Z.cX X (.Call (.Name "all" p) [a] [] pos) (e1 vq fa):=⟨have ha:=ha.un;by
  refine Cg T j hG hm fM PyProof.Rows.boot_all (xY T.calm) (fun H x d Q hx q=>?_) ha he;cases d with
  | list ds =>
    simp only [vq] at q;cases ei:rE ds with
    | none=>rw [ei] at q;exact q.elim
    | some k =>
      rw [ei] at q;obtain ⟨bs,e1,e2⟩:=tJ ei;obtain ⟨a',vs,rfl,h,r⟩:=eS (K:=X.K) hx;rw [e1] at r;rw [qJ r] at h;refine ⟨a',bs,rfl,h,?_⟩;rw [<- e2];exact q _ H (aI.refl _) fG
  | _=>exact q.elim⟩
end
section
variable {X:Cx} {a b c:Expr} {fa fb fc:Fe} {pos p2:Pos} {nl:Nat} {G:List Str} {x:Str} {p:Pos}
theorem iN.change {Fm H:Hp} {σ:St} {ρ:aS} {i:Nat} {d d':PyData} {a:Addr} {u u':HO} (h:iN Fm H σ ρ) (h1:ρ[i]?=some (.own d)) (h2:σ[i]?=some (some (.ref a))) (hu:H a=some u) (hm:(∃ xs,u=.lst xs)\/∃ ks,u=.dK ks)
    (hr:jq (cQ H a u') d' (.ref a)):iN Fm (cQ H a u') σ (ρ.set i (.own d')):=by
  have hFa:=h.own i d a h1 h2;have kp:Kp H (cQ H a u'):=gO hu hm;have at_i:∀ (j:Nat) (e:PyData),(ρ.set i (.own d'))[j]?=some (.own e)->∃ e0,ρ[j]?=some (.own e0):=fun j e q=>by
    rw [List.getElem?_set] at q;by_cases hij:i=j
    · subst hij;exact ⟨d,h1⟩
    · rw [if_neg hij] at q;exact ⟨e,q⟩
  refine ⟨fun b x e=>?_,⟨by rw [List.length_set];exact h.sl.1,fun j c w' e1 e2=>?_⟩,fun j e b e1 e2=>?_,fun j k e f b e1 e2 e3 e4=>?_⟩
  · rw [aB (bi e hFa)];exact h.fm b x e
  · rw [List.getElem?_set] at e1;by_cases hij:i=j
    · subst hij;rw [if_pos rfl] at e1;split at e1
      · cases e1;rw [h2] at e2;cases e2;exact ⟨_,rfl,hr⟩
      · cases e1
    · rw [if_neg hij] at e1;have q:=h.sl.2 j c w' e1 e2;cases c with
      | exc p=>exact q
      | non=>exact True.intro
      | val d1=>obtain ⟨v,z1,z2⟩:=q;exact ⟨v,z1,Rp.kp kp _ _ z2⟩
      | own d1 =>
        obtain ⟨v,z1,z2⟩:=q;subst z1;obtain ⟨b,ob,rfl,hb⟩:=sr z2;have nb:b≠a:=fun z=>hij (by subst z;exact h.apart i j d d1 b h1 e1 h2 e2)
        refine ⟨_,rfl,?_⟩;cases d1 <;> simp only [jq] at z2 ⊢
        · obtain ⟨b',vs,e,hb',r⟩:=z2;cases e;exact ⟨b,vs,rfl,by rw [aB nb];exact hb',bO.kp kp _ _ r⟩
        · obtain ⟨b',vs,e,hb',r⟩:=z2;cases e;exact ⟨b,vs,rfl,by rw [aB nb];exact hb',eQ.kp kp _ _ r⟩
  · obtain ⟨e0,q⟩:=at_i j e e1;exact h.own j e0 b q e2
  · obtain ⟨e0,q⟩:=at_i j e e1;obtain ⟨f0,q'⟩:=at_i k f e2;exact h.apart j k e0 f0 b q q' e3 e4
noncomputable def v3 (i:Nat) (fk fv:Fe):Fs:=fun ρ=>fv ρ>>=fun v=>mL (fk ρ)>>=fun k=>match ρ[i]? with
  | some (.own (.dict kvs))=>match gt k with
    | some _=>if kvs.length < sizeLine then .ok (.nx (ρ.set i (.own (.dict (sx kvs k v))))) else .no
    | none=>.no
  | _=>.no
theorem yI {k:PyData} {κ:dz} (h:gt k=some κ):k=gm κ:=by
  cases k <;> simp only [gt] at h <;> cases h <;> rfl
theorem FQ {H:Hp} {κ:dz} {y:V} (h:Rp H (gm κ) y):y=kV κ:=by
  cases κ <;> simp only [gm,Rp] at h <;> exact h
theorem tq {k v:Expr} {fk fv:Fe} {q1 q2 q3:Pos} (T:Tb X nl G) (n:Nat) (hN:X.N[n]?=some x) (hk:Z.cX X k fk) (hv:Z.cX X v fv) (hs:swapsWith v (some (.Subscript (.Name x q1) k q2)) q3.line X.env=pure false:=by rfl):Z.kJ X (.Assign [.Subscript (.Name x q1) k q2] v q3) (v3 n fk fv):=⟨have hk:=hk.un;have hv:=hv.un;fun Fm=>by
  have hm:=T.vis x (List.mem_of_getElem? hN);refine PS.imp (Ds (by have:=T.hu;omega) (jP hN hm.1 hm.2.1 hm.2.2) hk hv hs) fun D σ H h=>?_
  refine (mr (P:=h7) (f:=fv) (k:=fun ρ v=>mL (fk ρ)>>=fun k=>match ρ[n]? with
    | some (.own (.dict kvs))=>match gt k with
      | some _=>if kvs.length < sizeLine then .ok (.nx (ρ.set n (.own (.dict (sx kvs k v))))) else .no
      | none=>.no
    | _=>.no) h).post fun vv H1 ⟨ρ1,dv,sl1,_,p1,q1⟩=>?_
  have sl0:El X Fm (fun ρ=>mL (fk ρ)>>=fun k=>match ρ[n]? with
    | some (.own (.dict kvs))=>match gt k with
      | some _=>if kvs.length < sizeLine then .ok (.nx (ρ.set n (.own (.dict (sx kvs k dv))))) else .no
      | none=>.no
    | _=>.no) D σ H1:=⟨ρ1,sl1,q1⟩
  cases e:ρ1[n]? with
  | none =>
    exfalso;rw [e] at q1;cases e2:fk ρ1 with
    | ok _=>rw [e2] at q1;exact q1
    | ex _=>rw [e2] at q1;exact q1
    | no=>rw [e2] at q1;exact q1
  | some c =>
    rw [e] at q1;cases c with
    | own d =>
      cases d with
      | dict kvs =>
        obtain ⟨o,h2,w',rfl,p2⟩:=sl1.sl.at e;simp only [jq] at p2;obtain ⟨a',ks,rfl,ha,r⟩:=p2;refine ⟨.ref a',h2,?_⟩;refine ⟨ρ1,sl1.sl,?_⟩;cases e2:fk ρ1 with
        | ex _=>rw [e2] at q1;exact q1.elim
        | no=>rw [e2] at q1;exact q1
        | ok kd =>
          rw [e2] at q1;simp only [mL,R.ok_bind] at q1;intro yv H3 s3 p3;cases e3:gt kd with
          | none=>rw [e3] at q1;exact q1.elim
          | some κ =>
            rw [e3] at q1;dsimp only at q1;by_cases hz:kvs.length < sizeLine
            · rw [if_pos hz] at q1;have ek:=yI e3;subst ek;have ey:=FQ p3;subst ey;have ha3:=s3 _ _ ha;have r3:eQ H3 kvs ks:=eQ.kp (Kp.of s3) _ _ r;refine ⟨a',_,rfl,uQ.k ha3 (by rw [r3.length];exact hz),q1 _ _ ((sl1.mono s3).change e h2 ha3 (.inr ⟨_,rfl⟩) ?_)⟩;simp only [jq];exact ⟨a',_,rfl,bE,eQ.kp (gO ha3 (.inr ⟨_,rfl⟩)) _ _ (eQ.put κ (p1.mono s3) r3)⟩
            · rw [if_neg hz] at q1;exact q1.elim
      | _ =>
        exfalso;cases e2:fk ρ1 with
        | ok _=>rw [e2] at q1;exact q1
        | ex _=>rw [e2] at q1;exact q1
        | no=>rw [e2] at q1;exact q1
    | _ =>
      exfalso;cases e2:fk ρ1 with
      | ok _=>rw [e2] at q1;exact q1
      | ex _=>rw [e2] at q1;exact q1
      | no=>rw [e2] at q1;exact q1⟩
noncomputable def kg (i:Nat) (f:Fe):Fs:=fun ρ=>mL (f ρ)>>=fun d=>match ρ[i]? with
  | some (.own (.list ds))=>if ds.length < sizeLine then .ok (.nx (ρ.set i (.own (.list (ds++[d]))))) else .no
  | _=>.no
end
section
variable {prog:Program} {w:World} {A:Around} {E:Value->Shared->Prop} {s:Shared}
theorem vO {it t:Addr} {i:Nat} {items:Array Value} {x:Value} {Q:Value->Shared->Prop} (hit:s.heap.IsTupleIter it t i) (ht:s.heap.IsTuple t items) (hx:items[i]?=some x)
    (hQ:∀ h',h'.IsTupleIter it t (i+1)->Heap.SameBut it s.heap h'->Q x { s with heap:=h' }):wpAny (model prog w) A (Builtin.SmallTypes.nextOf (.ref it)) Q E s:=by
  obtain ⟨ob,hob,hcl,hdt⟩:=id hit;obtain ⟨ot,hot,_,nt,hdtt⟩:=ht;unfold Builtin.SmallTypes.nextOf;refine wpAny_bind (wpAny_callSpecial?_slot (name:=Str.ofString "__next__") hit.typeIs F.slot_tuple_iterator_next (wpAny_call_entry F.slot_tuple_iterator_next hit.typeIs F.entry_tuple_iterator_next ?_ (F.args_tuple_iterator_next_1 _)));show wpAny _ _ (field (Value.ref it) 0>>=_) _ _ s;refine wpAny_bind (wpAny_field hob hdt (x:=Value.ref t) rfl ?_);show wpAny _ _ (if (Value.ref t==Value.none)=true then _ else _) _ _ s;rw [if_neg (by intro z;cases z)];show wpAny _ _ (field (Value.ref it) 1>>=_) _ _ s;refine wpAny_bind (wpAny_field hob hdt (x:=Value.int i 0) rfl ?_);show wpAny _ _ (seqItems? (Value.ref t)>>=_) _ _ s;refine wpAny_bind (wpAny_seqItems hot hdtt ?_);simp only [hx,Int.toNat_natCast];refine wpAny_bind (wpAny_setField hob hdt (by simp) (wpAny_pure ⟨x,rfl,wpAny_pure (hQ _ ⟨_,Heap.get?_update_self _ hob (Obj.isFreed_of_fields (Obj.data_mapFields hdt _)),(Obj.cls_mapFields ..).trans hcl,?_⟩ (Heap.SameBut.update ..))⟩));rw [Obj.data_mapFields hdt];simp [rawInt]
theorem ph {it t:Addr} {i:Nat} {items:Array Value} {Q:Value->Shared->Prop} (hh:A.handled=none) (hit:s.heap.IsTupleIter it t i) (ht:s.heap.IsTuple t items) (hx:items[i]?=none)
    (hE:∀ h' e,Heap.ExtBut it s.heap h'->(∃ o,h'.get? e=some o/\o.cls=.type "StopIteration")->E (.ref e) { s with heap:=h' }):wpAny (model prog w) A (Builtin.SmallTypes.nextOf (.ref it)) Q E s:=by
  obtain ⟨ob,hob,hcl,hdt⟩:=id hit;obtain ⟨ot,hot,_,nt,hdtt⟩:=ht;unfold Builtin.SmallTypes.nextOf;refine wpAny_bind (wpAny_callSpecial?_slot (name:=Str.ofString "__next__") hit.typeIs F.slot_tuple_iterator_next (wpAny_call_entry F.slot_tuple_iterator_next hit.typeIs F.entry_tuple_iterator_next ?_ (F.args_tuple_iterator_next_1 _)));show wpAny _ _ (field (Value.ref it) 0>>=_) _ _ s;refine wpAny_bind (wpAny_field hob hdt (x:=Value.ref t) rfl ?_);show wpAny _ _ (if (Value.ref t==Value.none)=true then _ else _) _ _ s;rw [if_neg (by intro z;cases z)];show wpAny _ _ (field (Value.ref it) 1>>=_) _ _ s;refine wpAny_bind (wpAny_field hob hdt (x:=Value.int i 0) rfl ?_);show wpAny _ _ (seqItems? (Value.ref t)>>=_) _ _ s;refine wpAny_bind (wpAny_seqItems hot hdtt ?_);simp only [hx,Int.toNat_natCast];refine wpAny_bind (wpAny_rule (wpAny_bind (wpAny_setField hob hdt (by simp) ?_)));show wpAny _ _ (newExc (Value.type "StopIteration") []>>=_) _ _ _;refine wpAny_bind ?_;simp only [newTuple,newExc];refine wpAny_bind (wpAny_newObj_type ?_ (by size_fits));refine wpAny_bind (m:=firstArgMember _ _) (wpAny_of_eq (a:=Value.none) (by first | rfl | (simp only [firstArgMember];rfl)) ?_);refine wpAny_newObj_type ?_ (by size_fits);simp only [raiseNew];refine wpAny_bind (wpAny_handled ?_)
  first | rw [show A.in1.handled=none from hh] | rw [hh]
  exact wpAny_bind (wpAny_pure (wpAny_throw (hE _ _ (((Heap.SameBut.update ..).extBut.push _).push _) ⟨_,Heap.get?_push_size _ rfl,rfl⟩)))
end
noncomputable def lY (h:Heap) (i l:Addr) (k:Nat) (xs:Array Value):Prop:=(h.IsListIter i l k/\h.IsList l xs)\/(h.IsTupleIter i l k/\h.IsTuple l xs)
section
variable {h h':Heap} {i l:Addr} {k:Nat} {xs:Array Value}
theorem lY.keep (x:lY h i l k xs) (hi:∀ o,h.get? i=some o->h'.get? i=some o) (hl:∀ o,h.get? l=some o->h'.get? l=some o):lY h' i l k xs:=by
  rcases x with ⟨⟨o,e,r⟩,⟨o',e',r'⟩⟩ | ⟨⟨o,e,r⟩,⟨o',e',r'⟩⟩
  · exact .inl ⟨⟨o,hi _ e,r⟩,⟨o',hl _ e',r'⟩⟩
  · exact .inr ⟨⟨o,hi _ e,r⟩,⟨o',hl _ e',r'⟩⟩
end
section
variable {prog:Program} {w:World} {A:Around} {E:Value->Shared->Prop} {s:Shared} {i l:Addr} {k:Nat} {xs:Array Value}
theorem xb {x:Value} {Q:Value->Shared->Prop} (it:lY s.heap i l k xs) (hne:l≠i) (hx:xs[k]?=some x) (hQ:∀ h',lY h' i l (k+1) xs->Heap.SameBut i s.heap h'->Q x { s with heap:=h' }) :
    wpAny (model prog w) A (Builtin.SmallTypes.nextOf (.ref i)) Q E s:=by
  rcases it with ⟨h1,h2⟩ | ⟨h1,h2⟩
  · exact wpAny_nextOf_list_item h1 h2 hx fun h' a b=>hQ h' (.inl ⟨a,h2.extBut b.extBut hne⟩) b
  · exact vO h1 h2 hx fun h' a b=>hQ h' (.inr ⟨a,h2.extBut b.extBut hne⟩) b
theorem mK {Q:Value->Shared->Prop} (hh:A.handled=none) (it:lY s.heap i l k xs) (hx:xs[k]?=none)
    (hE:∀ h' e,Heap.ExtBut i s.heap h'->(∃ o,h'.get? e=some o/\o.cls=.type "StopIteration")->E (.ref e) { s with heap:=h' }):wpAny (model prog w) A (Builtin.SmallTypes.nextOf (.ref i)) Q E s:=by
  rcases it with ⟨h1,h2⟩ | ⟨h1,h2⟩
  · exact wpAny_nextOf_list_end hh h1 h2 hx hE
  · exact ph hh h1 h2 hx hE
noncomputable def vc (h:Heap) (l:Addr) (xs:Array Value):Prop:=h.IsList l xs\/h.IsTuple l xs
end
structure ZA (z p q i j l m:Addr):Prop where
  pz:p≠z
  qz:q≠z
  iz:i≠z
  jz:j≠z
  pq:p≠q
  pi:p≠i
  pj:p≠j
  qi:q≠i
  qj:q≠j
  ij:i≠j
  lz:l≠z
  lq:l≠q
  li:l≠i
  lj:l≠j
  mz:m≠z
  mq:m≠q
  mi:m≠i
  mj:m≠j
structure BQ (h:Heap) (z p q i j l m:Addr) (f0:Value) (k:Nat) (xs ys:Array Value):Prop where
  zz:IsZip h z p q f0
  pp:IsPair h p (.ref i) (.ref j)
  qq:∃ a b,IsPair h q a b
  ii:lY h i l k xs
  jj:lY h j m k ys
section
variable {prog:Program} {w:World} {A:Around} {E:Value->Shared->Prop} {s:Shared} {z p q i j l m:Addr} {k:Nat} {xs ys:Array Value}
theorem BN {x y:Value} {Q:Value->Shared->Prop} (D:ZA z p q i j l m) (S:BQ s.heap z p q i j l m .none k xs ys) (hx:xs[k]?=some x) (hy:ys[k]?=some y)
    (hQ:∀ h',BQ h' z p q i j l m (rawInt s.heap.objs.size) (k+1) xs ys->IsPair h' s.heap.objs.size x y->(∀ c o,c≠z->c≠q->c≠i->c≠j->s.heap.get? c=some o->h'.get? c=some o)->Q (.ref s.heap.objs.size) { s with heap:=h' }) :
    wpAny (model prog w) A (Builtin.«zip.__next__» ⟨[.ref z],[]⟩) (fun fin s'=>∃ v,fin=.done (.ret v)/\Q v s') E s:=by
  obtain ⟨hz,hp,⟨a,b,hq⟩,hi,hj⟩:=S;show wpAny _ _ (field (Value.ref z) 2>>=_) _ _ _;refine wpAny_bind (wpAny_field hz rfl (x:=Value.bool false) rfl ?_);show wpAny _ _ (field (Value.ref z) 3>>=_) _ _ _;refine wpAny_bind (wpAny_field hz rfl (x:=Value.ref p) rfl ?_);refine wpAny_bind (wpAny_seqItems hp rfl ?_);show wpAny _ _ (Builtin.SmallTypes.ownedTupleIsFree (Value.ref z)>>=_) _ _ _;refine wpAny_bind ?_;unfold Builtin.SmallTypes.ownedTupleIsFree;refine wpAny_bind (wpAny_field hz rfl (x:=Value.none) rfl (wpAny_pure ?_));simp only [if_true];refine wpAny_bind (wpAny_rule ?_);refine wpAny_bind (wpAny_field hz rfl (x:=Value.ref q) rfl ?_);refine wpAny_bind (wpAny_setField_rec hz (by simp) fun g1 z1 s1=>?_);replace z1:IsZip g1 z p q .ellipsis:=z1;refine wpAny_bind ?_;simp only [List.zipIdx_cons,List.zipIdx_nil,List.forIn_cons,List.forIn_nil];refine wpAny_bind (wpAny_bind (wpAny_onRaise ?_));show wpAny _ _ (Builtin.SmallTypes.nextOf (Value.ref i)>>=_) _ _ _;have hi1:lY g1 i l k xs:=hi.keep (fun o e=>s1.extBut _ _ D.iz e) fun o e=>s1.extBut _ _ D.lz e
  refine wpAny_bind (xb hi1 D.li hx fun g2 i2 s2=>wpAny_pure ?_);have q2:IsPair g2 q a b:=s2.extBut _ _ D.qi (s1.extBut _ _ D.qz hq);refine wpAny_bind (wpAny_seqItems q2 rfl ?_);refine wpAny_bind (wpAny_updateSeq_pair q2 fun g3 q3 s3=>?_);replace q3:IsPair g3 q x b:=q3;refine wpAny_bind (wpAny_letGo (wpAny_pure ?_));refine wpAny_bind (wpAny_bind (wpAny_onRaise ?_));show wpAny _ _ (Builtin.SmallTypes.nextOf (Value.ref j)>>=_) _ _ _;have hj3:lY g3 j m k ys:=hj.keep (fun o e=>s3.extBut _ _ D.qj.symm (s2.extBut _ _ D.ij.symm (s1.extBut _ _ D.jz e))) fun o e=>s3.extBut _ _ D.mq (s2.extBut _ _ D.mi (s1.extBut _ _ D.mz e))
  refine wpAny_bind (xb hj3 D.mj hy fun g4 j4 s4=>wpAny_pure ?_);have q4:IsPair g4 q x b:=s4.extBut _ _ D.qj q3;refine wpAny_bind (wpAny_seqItems q4 rfl ?_);refine wpAny_bind (wpAny_updateSeq_pair q4 fun g5 q5 s5=>?_);replace q5:IsPair g5 q x y:=q5;refine wpAny_bind (wpAny_letGo (wpAny_pure (wpAny_pure ?_)));refine wpAny_bind (wpAny_seqItems q5 rfl ?_);refine wpAny_bind (wpAny_newTuple ?_);have hsz:g5.objs.size=s.heap.objs.size:=by rw [s5.1,s4.1,s3.1,s2.1,s1.1]
  have z5:IsZip g5 z p q .ellipsis:=s5.extBut _ _ D.qz.symm (s4.extBut _ _ D.jz.symm (s3.extBut _ _ D.qz.symm (s2.extBut _ _ D.iz.symm z1)));have k5:∀ c o,c≠z->c≠q->c≠i->c≠j->s.heap.get? c=some o->g5.get? c=some o:=fun c o c1 c2 c3 c4 e=>s5.extBut _ _ c2 (s4.extBut _ _ c4 (s3.extBut _ _ c2 (s2.extBut _ _ c3 (s1.extBut _ _ c1 e))))
  have i5:lY g5 i l (k+1) xs:=i2.keep (fun o e=>s5.extBut _ _ D.qi.symm (s4.extBut _ _ D.ij (s3.extBut _ _ D.qi.symm e))) fun o e=>s5.extBut _ _ D.lq (s4.extBut _ _ D.lj (s3.extBut _ _ D.lq e))
  have j5:lY g5 j m (k+1) ys:=j4.keep (fun o e=>s5.extBut _ _ D.qj.symm e) fun o e=>s5.extBut _ _ D.mq e
  have zlt:z < g5.objs.size:=Heap.lt_size z5;show wpAny _ _ (Builtin.SmallTypes.ownedTupleHandOut (Value.ref z) (Value.ref g5.objs.size)>>=_) _ _ _;refine wpAny_bind ?_;unfold Builtin.SmallTypes.ownedTupleHandOut;have z6:IsZip (g5.push { cls:=.type "tuple",data:=.seq #[x,y] }) z p q .ellipsis:=Heap.get?_push_of_some _ z5;refine wpAny_bind (wpAny_setField_rec z6 (by simp) fun g7 z7 s7=>?_);replace z7:IsZip g7 z p q (rawInt g5.objs.size):=z7;refine wpAny_setField_rec z7 (by simp) fun g8 z8 s8=>?_
  replace z8:IsZip g8 z p q (rawInt g5.objs.size):=z8;have up:∀ c o,c≠z->g5.get? c=some o->g8.get? c=some o:=fun c o c1 e=>s8.extBut _ _ c1 (s7.extBut _ _ c1 (Heap.get?_push_of_some _ e))
  have t8:IsPair g8 g5.objs.size x y:=s8.extBut _ _ (Nat.ne_of_gt zlt) (s7.extBut _ _ (Nat.ne_of_gt zlt) (Heap.get?_push_size _ rfl));rw [hsz] at z8 t8;refine wpAny_pure ⟨_,rfl,?_⟩;show Q (.ref g5.objs.size) _;rw [hsz];exact hQ g8 ⟨z8,up _ _ D.pz (k5 _ _ D.pz D.pq D.pi D.pj hp),⟨x,y,up _ _ D.qz q5⟩,i5.keep (fun o e=>up _ _ D.iz e) fun o e=>up _ _ D.lz e,j5.keep (fun o e=>up _ _ D.jz e) fun o e=>up _ _ D.mz e⟩ t8 fun c o c1 c2 c3 c4 e=>up c o c1 (k5 c o c1 c2 c3 c4 e)
theorem DX {Q:PySem.Fin->Shared->Prop} (hh:A.handled=none) (D:ZA z p q i j l m) (S:BQ s.heap z p q i j l m .none k xs ys) (hend:xs[k]?=none\/ys[k]?=none)
    (hE:∀ h' e,(∀ c o,c≠z->c≠q->c≠i->c≠j->s.heap.get? c=some o->h'.get? c=some o)->(∃ o,h'.get? e=some o/\o.cls=.type "StopIteration")->E (.ref e) { s with heap:=h' }) :
    wpAny (model prog w) A (Builtin.«zip.__next__» ⟨[.ref z],[]⟩) Q E s:=by
  obtain ⟨hz,hp,⟨a,b,hq⟩,hi,hj⟩:=S;show wpAny _ _ (field (Value.ref z) 2>>=_) _ _ _;refine wpAny_bind (wpAny_field hz rfl (x:=Value.bool false) rfl ?_);show wpAny _ _ (field (Value.ref z) 3>>=_) _ _ _;refine wpAny_bind (wpAny_field hz rfl (x:=Value.ref p) rfl ?_);refine wpAny_bind (wpAny_seqItems hp rfl ?_);show wpAny _ _ (Builtin.SmallTypes.ownedTupleIsFree (Value.ref z)>>=_) _ _ _;refine wpAny_bind ?_;unfold Builtin.SmallTypes.ownedTupleIsFree;refine wpAny_bind (wpAny_field hz rfl (x:=Value.none) rfl (wpAny_pure ?_));simp only [if_true];refine wpAny_bind (wpAny_rule ?_);refine wpAny_bind (wpAny_field hz rfl (x:=Value.ref q) rfl ?_);refine wpAny_bind (wpAny_setField_rec hz (by simp) fun g1 z1 s1=>?_);replace z1:IsZip g1 z p q .ellipsis:=z1;refine wpAny_bind ?_;simp only [List.zipIdx_cons,List.zipIdx_nil,List.forIn_cons,List.forIn_nil];refine wpAny_bind (wpAny_bind (wpAny_onRaise ?_));show wpAny _ _ (Builtin.SmallTypes.nextOf (Value.ref i)>>=_) _ _ _;have hi1:lY g1 i l k xs:=hi.keep (fun o e=>s1.extBut _ _ D.iz e) fun o e=>s1.extBut _ _ D.lz e
  cases hx:xs[k]? with
  | none =>
    refine wpAny_bind (mK hh hi1 hx fun g2 e s2 he=>?_);obtain ⟨oe,hoe,hce⟩:=he;have z2:IsZip g2 z p q .ellipsis:=s2 _ _ D.iz.symm z1;have hez:e≠z:=fun t=>by subst t;rw [z2] at hoe;cases hoe;simp at hce
    exact wpAny_setField_rec z2 (by simp) fun g3 _ s3=>hE g3 e (fun c o c1 _ c3 _ t=>s3.extBut _ _ c1 (s2 _ _ c3 (s1.extBut _ _ c1 t))) ⟨oe,s3.extBut _ _ hez hoe,hce⟩
  | some x =>
    have hy:ys[k]?=none:=by rcases hend with t | t;rw [hx] at t;cases t;exact t
    refine wpAny_bind (xb hi1 D.li hx fun g2 i2 s2=>wpAny_pure ?_);have q2:IsPair g2 q a b:=s2.extBut _ _ D.qi (s1.extBut _ _ D.qz hq);refine wpAny_bind (wpAny_seqItems q2 rfl ?_);refine wpAny_bind (wpAny_updateSeq_pair q2 fun g3 q3 s3=>?_);refine wpAny_bind (wpAny_letGo (wpAny_pure ?_));refine wpAny_bind (wpAny_bind (wpAny_onRaise ?_));show wpAny _ _ (Builtin.SmallTypes.nextOf (Value.ref j)>>=_) _ _ _;have hj3:lY g3 j m k ys:=hj.keep (fun o e=>s3.extBut _ _ D.qj.symm (s2.extBut _ _ D.ij.symm (s1.extBut _ _ D.jz e))) fun o e=>s3.extBut _ _ D.mq (s2.extBut _ _ D.mi (s1.extBut _ _ D.mz e))
    refine wpAny_bind (mK hh hj3 hy fun g4 e s4 he=>?_);obtain ⟨oe,hoe,hce⟩:=he;have z4:IsZip g4 z p q .ellipsis:=s4 _ _ D.jz.symm (s3.extBut _ _ D.qz.symm (s2.extBut _ _ D.iz.symm z1));have hez:e≠z:=fun t=>by subst t;rw [z4] at hoe;cases hoe;simp at hce
    exact wpAny_setField_rec z4 (by simp) fun g5 _ s5=>hE g5 e (fun c o c1 c2 c3 c4 t=>s5.extBut _ _ c1 (s4 _ _ c4 (s3.extBut _ _ c2 (s2.extBut _ _ c3 (s1.extBut _ _ c1 t))))) ⟨oe,s5.extBut _ _ hez hoe,hce⟩
theorem wu {x y:Value} {Q:Option Value->Shared->Prop} (D:ZA z p q i j l m) (S:BQ s.heap z p q i j l m .none k xs ys) (hx:xs[k]?=some x) (hy:ys[k]?=some y)
    (hQ:∀ h',BQ h' z p q i j l m (rawInt s.heap.objs.size) (k+1) xs ys->IsPair h' s.heap.objs.size x y->(∀ c o,c≠z->c≠q->c≠i->c≠j->s.heap.get? c=some o->h'.get? c=some o)->Q (some (.ref s.heap.objs.size)) { s with heap:=h' }) :
    wpAny (model prog w) A (pyNext (.ref z)) Q E s:=by
  have hT:s.TypeIs (.ref z) "zip" := ⟨_,S.zz,rfl⟩
  unfold pyNext;exact wpAny_bind (wpAny_attempt (wpAny_callSpecial?_slot (name:=Str.ofString "__next__") hT F.slot_zip_next (wpAny_call_entry F.slot_zip_next hT F.entry_zip_next (BN D S hx hy fun h' a b c=>wpAny_pure (hQ h' a b c)) (F.args_zip_next_1 _))))
theorem zw {Q:Option Value->Shared->Prop} (hh:A.handled=none) (D:ZA z p q i j l m) (S:BQ s.heap z p q i j l m .none k xs ys) (hend:xs[k]?=none\/ys[k]?=none)
    (hQ:∀ h',(∀ c o,c≠z->c≠q->c≠i->c≠j->s.heap.get? c=some o->h'.get? c=some o)->Q none { s with heap:=h' }):wpAny (model prog w) A (pyNext (.ref z)) Q E s:=by
  have hT:s.TypeIs (.ref z) "zip" := ⟨_,S.zz,rfl⟩
  unfold pyNext;refine wpAny_bind (wpAny_attempt (wpAny_callSpecial?_slot (name:=Str.ofString "__next__") hT F.slot_zip_next (wpAny_call_entry F.slot_zip_next hT F.entry_zip_next (DX hh D S hend fun h' e hk he=>?_) (F.args_zip_next_1 _))));obtain ⟨o,ho,hc⟩:=he;exact wpAny_bind (wpAny_isInstance (T := "StopIteration") (b:=true) ⟨o,ho,hc⟩ isSubtype_stop (wpAny_pure (hQ _ hk)))
theorem DY (l m:Addr) (xs ys:Array Value):Meets (Builtin.«zip.__new__» ⟨[.type "zip",.ref l,.ref m],[]⟩) (fun _ R s=>vc s.heap l xs/\vc s.heap m ys /\
    ∀ h',h'.objs.size=s.heap.objs.size+5->BQ h' (s.heap.objs.size+4) (s.heap.objs.size+2) (s.heap.objs.size+3) s.heap.objs.size (s.heap.objs.size+1) l m .none 0 xs ys->(∀ c o,s.heap.get? c=some o->h'.get? c=some o) ->
      R (.ok (.ret (.ref (s.heap.objs.size+4)))) { s with heap:=h' }) :=
  .of_wp fun prog w A R s h=>by
    obtain ⟨hp,g,d,tk,os⟩:=s;obtain ⟨h1,h2,h⟩:=h;have hsub:=sub_zip;have fin:∀ (oi oj:Obj),lY (hp.push oi) hp.objs.size l 0 xs->lY ((hp.push oi).push oj) (hp.push oi).objs.size m 0 ys ->
        R (.ok (.ret (.ref ((((hp.push oi).push oj).push { cls:=.type "tuple",data:=.seq #[.ref hp.objs.size,.ref (hp.push oi).objs.size] }).push { cls:=.type "tuple",data:=.seq #[.none,.none] }).objs.size)))
          ⟨((((hp.push oi).push oj).push { cls:=.type "tuple",data:=.seq #[.ref hp.objs.size,.ref (hp.push oi).objs.size] }).push { cls:=.type "tuple",data:=.seq #[.none,.none] }).push { cls:=.type "zip",data:=.fields #[.none,.bool false,.bool false,.ref ((hp.push oi).push oj).objs.size,.ref (((hp.push oi).push oj).push { cls:=.type "tuple",data:=.seq #[.ref hp.objs.size,.ref (hp.push oi).objs.size] }).objs.size] },g,d,tk,os⟩:=fun oi oj hi hj=>by
      have e1:(hp.push oi).objs.size=hp.objs.size+1:=Heap.size_push ..;have e2:((hp.push oi).push oj).objs.size=hp.objs.size+2:=by rw [Heap.size_push,e1]
      have e3:(((hp.push oi).push oj).push { cls:=.type "tuple",data:=.seq #[.ref hp.objs.size,.ref (hp.push oi).objs.size] }).objs.size=hp.objs.size+3:=by rw [Heap.size_push,e2]
      have e4:((((hp.push oi).push oj).push { cls:=.type "tuple",data:=.seq #[.ref hp.objs.size,.ref (hp.push oi).objs.size] }).push { cls:=.type "tuple",data:=.seq #[.none,.none] }).objs.size=hp.objs.size+4:=by rw [Heap.size_push,e3]
      rw [e4,e3,e2];rw [e1] at hj ⊢;have kk:∀ (c:Addr) (o a b c':Obj),((hp.push oi).push oj).get? c=some o->(((((hp.push oi).push oj).push a).push b).push c').get? c=some o:=fun c o a b c' e=>Heap.get?_push_of_some _ (Heap.get?_push_of_some _ (Heap.get?_push_of_some _ e))
      refine h _ (by rw [Heap.size_push,Heap.size_push,Heap.size_push,e2]) ⟨?_,?_,⟨.none,.none,?_⟩,?_,?_⟩ fun c o e=>kk _ _ _ _ _ (Heap.get?_push_of_some _ (Heap.get?_push_of_some _ e))
      · have:hp.objs.size+4=((((hp.push oi).push oj).push { cls:=.type "tuple",data:=.seq #[.ref hp.objs.size,.ref (hp.objs.size+1)] }).push { cls:=.type "tuple",data:=.seq #[.none,.none] }).objs.size:=by rw [Heap.size_push,Heap.size_push,e2]
        show Heap.get? _ (hp.objs.size+4)=_;rw [this];exact Heap.get?_push_size _ rfl
      · refine Heap.get?_push_of_some _ (Heap.get?_push_of_some _ ?_);show Heap.get? _ (hp.objs.size+2)=_;rw [<- e2];exact Heap.get?_push_size _ rfl
      · refine Heap.get?_push_of_some _ ?_;have:hp.objs.size+3=(((hp.push oi).push oj).push { cls:=.type "tuple",data:=.seq #[.ref hp.objs.size,.ref (hp.objs.size+1)] }).objs.size:=by rw [Heap.size_push,e2]
        show Heap.get? _ (hp.objs.size+3)=_;rw [this];exact Heap.get?_push_size _ rfl
      · exact hi.keep (fun o e=>kk _ _ _ _ _ (Heap.get?_push_of_some _ e)) fun o e=>kk _ _ _ _ _ (Heap.get?_push_of_some _ e)
      · exact hj.keep (fun o e=>kk _ _ _ _ _ e) fun o e=>kk _ _ _ _ _ e
    rcases h1 with h1 | h1 <;> rcases h2 with h2 | h2
    · have l1:Heap.IsList (Shared.heap ⟨hp,g,d,tk,os⟩) l xs:=h1;have l2:Heap.IsList (Shared.heap ⟨hp.push { cls:=.type "list_iterator",data:=.fields #[.ref l,.int 0 0] },g,d,tk,os⟩) m ys:=Heap.IsList.push h2 _
      wp_walk using wpAny_pyIter_list l1,wpAny_pyIter_list l2
      exact ⟨_,rfl,fin _ _ (.inl ⟨⟨_,Heap.get?_push_size _ rfl,rfl,rfl⟩,Heap.IsList.push h1 _⟩) (.inl ⟨⟨_,Heap.get?_push_size _ rfl,rfl,rfl⟩,Heap.IsList.push l2 _⟩)⟩
    · have l1:Heap.IsList (Shared.heap ⟨hp,g,d,tk,os⟩) l xs:=h1;have l2:Heap.IsTuple (Shared.heap ⟨hp.push { cls:=.type "list_iterator",data:=.fields #[.ref l,.int 0 0] },g,d,tk,os⟩) m ys:=Heap.IsTuple.push h2 _
      wp_walk using wpAny_pyIter_list l1,wpAny_pyIter_tuple l2
      exact ⟨_,rfl,fin _ _ (.inl ⟨⟨_,Heap.get?_push_size _ rfl,rfl,rfl⟩,Heap.IsList.push h1 _⟩) (.inr ⟨⟨_,Heap.get?_push_size _ rfl,rfl,rfl⟩,Heap.IsTuple.push l2 _⟩)⟩
    · have l1:Heap.IsTuple (Shared.heap ⟨hp,g,d,tk,os⟩) l xs:=h1;have l2:Heap.IsList (Shared.heap ⟨hp.push { cls:=.type "tuple_iterator",data:=.fields #[.ref l,.int 0 0] },g,d,tk,os⟩) m ys:=Heap.IsList.push h2 _
      wp_walk using wpAny_pyIter_tuple l1,wpAny_pyIter_list l2
      exact ⟨_,rfl,fin _ _ (.inr ⟨⟨_,Heap.get?_push_size _ rfl,rfl,rfl⟩,Heap.IsTuple.push h1 _⟩) (.inl ⟨⟨_,Heap.get?_push_size _ rfl,rfl,rfl⟩,Heap.IsList.push l2 _⟩)⟩
    · have l1:Heap.IsTuple (Shared.heap ⟨hp,g,d,tk,os⟩) l xs:=h1;have l2:Heap.IsTuple (Shared.heap ⟨hp.push { cls:=.type "tuple_iterator",data:=.fields #[.ref l,.int 0 0] },g,d,tk,os⟩) m ys:=Heap.IsTuple.push h2 _
      wp_walk using wpAny_pyIter_tuple l1,wpAny_pyIter_tuple l2
      exact ⟨_,rfl,fin _ _ (.inr ⟨⟨_,Heap.get?_push_size _ rfl,rfl,rfl⟩,Heap.IsTuple.push h1 _⟩) (.inr ⟨⟨_,Heap.get?_push_size _ rfl,rfl,rfl⟩,Heap.IsTuple.push l2 _⟩)⟩
theorem zY {Q:Value->Shared->Prop} {l m:Addr} (h1:vc s.heap l xs) (h2:vc s.heap m ys)
    (h:∀ h',h'.objs.size=s.heap.objs.size+5->BQ h' (s.heap.objs.size+4) (s.heap.objs.size+2) (s.heap.objs.size+3) s.heap.objs.size (s.heap.objs.size+1) l m .none 0 xs ys->(∀ c o,s.heap.get? c=some o->h'.get? c=some o) ->
      Q (.ref (s.heap.objs.size+4)) { s with heap:=h' }):wpAny (model prog w) A (call (.type "zip") [.ref l,.ref m]) Q E s:=by
  refine callType_new F.called_zip (by decide) (F.typeCall_zip_2 _ _) (F.newCall_zip_2 _ _) (fun obj=>F.args_object_init_3 obj _ _) F.entry_zip_new (DY l m xs ys) ⟨h1,h2,fun h' e S k=>?_⟩;exact ⟨⟨_,S.zz,rfl⟩,h h' e S k⟩
end
section
variable {X:Cx} {pins:List (Addr×Obj)} {σ:St} {H:Hp} {s:Shared} {h':Heap}
theorem jL {t':Nat} {fp:List Addr} (I:aX X pins σ H s) (k:∀ b o,b∉fp->s.heap.get? b=some o->h'.get? b=some o) (hf:∀ b∈fp,nJ X pins H b):aX X pins σ H { s with heap:=h',toks:=t' }:=by
  have away:∀ b u,H b=some u->b∉fp:=fun b u e z=>by rw [(hf b z).1] at e;cases e
  have frame:X.env.locals∉fp:=fun z=>(hf _ z).2.1 rfl
  refine I.step (g':=s.gens) (d':=s.drawn) (ch:=fp) (fun b hb=>⟨(hf b hb).2.2.2.1,(hf b hb).2.1,(hf b hb).2.2.2.2.1,(hf b hb).2.2.2.2.2⟩) (fun b o _ _ hc e _=>k b o hc e) (fun b o _ _ hc e _=>⟨o.slots,k b o hc e⟩) (fun _ _ _ _ n=>n)
    (fun b o hc e=>⟨o,k b o hc e⟩) (fun _ _ e=>e) (fun _ _ _ e=>e) (fun b ps e=>⟨#[],by rw [e];simp⟩) (fun m ⟨o,es,ep,ho,r⟩=>⟨o,es,ep,k _ o frame ho,r⟩) (fun b u e=>?_) I.bare
  refine (I.hok b u e).stay (fun c v hc q=>k c v ?_ q) (fun _ q=>q) fun _ _ q=>q
  rcases hc with z | z
  · rw [z];exact away b u e
  · exact away c _ z
theorem Ba {h:Heap} {o o':Obj} {b:Addr} (hb:b≠h.objs.size) (e:(h.push o).get? b=some o'):h.get? b=some o':=by
  unfold Heap.get? Heap.push at e;unfold Heap.get?;simp only [Array.getElem?_push] at e;rw [if_neg hb] at e;exact e
theorem wV {t':Nat} {fp:List Addr} {u1 u2:Value} {v1 v2:V} (I:aX X pins σ H s) (hf:∀ b∈fp,nJ X pins H b) (hob:∀ b∈fp,b < s.heap.objs.size) (ht:IsPair h' s.heap.objs.size u1 u2) (k:∀ b o,b∉fp->s.heap.get? b=some o->h'.get? b=some o)
    (r1:cg v1 u1) (r2:cg v2 u2):aX X pins σ (cQ H s.heap.objs.size (.tup [v1,v2])) { s with heap:=h',toks:=t' }:=by
  have I1:aX X pins σ (cQ H s.heap.objs.size (.tup [v1,v2])) { s with heap:=s.heap.push { cls:=.type "tuple",data:=.seq #[u1,u2] },toks:=s.toks } :=
    I.laid (fun b u e=>Heap.get?_push_of_some _ e) (Nat.le_refl _) ⟨by show 2<=sizeLine;decide,[u1,u2],.cons r1 (.cons r2 .nil),_,Heap.get?_push_size _ rfl,rfl,⟨_,rfl⟩,rfl⟩
  refine jL (fp:=fp) (s:={ s with heap:=s.heap.push { cls:=.type "tuple",data:=.seq #[u1,u2] },toks:=s.toks }) I1 (fun b o hb e=>?_) fun b hb=>?_
  · by_cases hz:b=s.heap.objs.size
    · subst hz;have e':(s.heap.push { cls:=.type "tuple",data:=.seq #[u1,u2] }).get? s.heap.objs.size=some o:=e;rw [Heap.get?_push_size _ rfl] at e';cases e';exact ht
    · exact k b o hb (Ba hz e)
  · obtain ⟨f0,f1,f2,f3,f4,f5⟩:=hf b hb;exact ⟨by rw [aB (Nat.ne_of_lt (hob b hb))];exact f0,f1,f2,f3,f4,f5⟩
end
noncomputable def s9 (K:PySem.W.Frag) (H:Hp) (a:Addr) (xs:List V):Bool->Prop
  | true=>ie K H a xs
  | false=>nQ K H a xs
noncomputable def gq (h:Heap) (i l:Addr) (k:Nat):Bool->Prop
  | true=>h.IsTupleIter i l k
  | false=>h.IsListIter i l k
theorem gq.keep {h h':Heap} {i l:Addr} {k:Nat} {b:Bool} (x:gq h i l k b) (hi:∀ o,h.get? i=some o->h'.get? i=some o):gq h' i l k b:=by
  cases b
  · obtain ⟨o,e,r⟩:=x;exact ⟨o,hi _ e,r⟩
  · obtain ⟨o,e,r⟩:=x;exact ⟨o,hi _ e,r⟩
theorem gq.there {h:Heap} {i l:Addr} {k:Nat} {b:Bool} (x:gq h i l k b):∃ o,h.get? i=some o/\∀ v,o.data≠.cell v:=by
  cases b
  · obtain ⟨o,e,c,d⟩:=x;exact ⟨o,e,fun v z=>by rw [d] at z;cases z⟩
  · obtain ⟨o,e,c,d⟩:=x;exact ⟨o,e,fun v z=>by rw [d] at z;cases z⟩
section
variable {X:Cx} {pins:List (Addr×Obj)} {σ:St} {H:Hp} {s:Shared}
theorem iT {a:Addr} {xs:List V} {b:Bool} (I:aX X pins σ H s) (h:s9 X.K H a xs b):∃ its:List Value,bR xs its/\vc s.heap a its.toArray/\∀ (i:Addr) (k:Nat),gq s.heap i a k b->lY s.heap i a k its.toArray:=by
  cases b
  · obtain ⟨its,rv,p,_⟩:=I.list h;exact ⟨its,rv,.inl p.isList,fun i k z=>.inl ⟨z,p.isList⟩⟩
  · obtain ⟨its,rv,p,_⟩:=I.tuple h;exact ⟨its,rv,.inr p,fun i k z=>.inr ⟨z,p⟩⟩
theorem kZ {a:Addr} {xs ys:List V} {b:Bool} (I:aX X pins σ H s) (h:s9 X.K H a xs b) (h':s9 X.K H a ys b):ys=xs:=by
  cases b
  · exact I.list_inj h' h
  · exact I.tuple_inj h' h
theorem lY.toB {h:Heap} {i l:Addr} {k:Nat} {xs:Array Value} {b:Bool} (hl:∀ ys,(b=true->¬ h.IsList l ys)/\(b=false->¬ h.IsTuple l ys)) (x:lY h i l k xs):gq h i l k b:=by
  cases b
  · rcases x with ⟨z,w⟩ | ⟨z,w⟩
    · exact z
    · exact absurd w ((hl xs).2 rfl)
  · rcases x with ⟨z,w⟩ | ⟨z,w⟩
    · exact absurd w ((hl xs).1 rfl)
    · exact z
theorem ej {h:Heap} {l:Addr} {xs ys:Array Value} (a:h.IsList l xs) (b:h.IsTuple l ys):False:=by
  obtain ⟨o,e,c,_⟩:=a;obtain ⟨o',e',c',_⟩:=b;rw [e] at e';cases e';rw [c] at c';injection c' with z
  exact absurd z (by decide)
theorem o4 {a:Addr} {xs:List V} {b:Bool} (I:aX X pins σ H s) (h:s9 X.K H a xs b) {h':Heap} (kp:∀ c o,s.heap.get? c=some o->h'.get? c=some o):∀ ys,(b=true->¬ h'.IsList a ys)/\(b=false->¬ h'.IsTuple a ys):=fun ys=>by
  cases b
  · obtain ⟨its,rv,p,_⟩:=I.list h;refine ⟨fun z=>(by cases z),fun _ w=>?_⟩;obtain ⟨o,e,r⟩:=p.isList;exact ej (h:=h') (xs:=its.toArray) ⟨o,kp _ _ e,r⟩ w
  · obtain ⟨its,rv,p,_⟩:=I.tuple h;refine ⟨fun _ w=>?_,fun z=>by cases z⟩;obtain ⟨o,e,r⟩:=p;exact ej (h:=h') w ⟨o,kp _ _ e,r⟩
end
noncomputable def IP (K:PySem.W.Frag) (l m:Addr) (b c:Bool):It :=
  ⟨fun i H=>∃ xs ys x y,s9 K H l xs b/\s9 K H m ys c/\xs[i]?=some x/\ys[i]?=some y,
   fun i H v H'=>∃ a x y,H a=none/\v=.ref a/\H'=cQ H a (.tup [x,y])/\(∀ xs,s9 K H l xs b->xs[i]?=some x)/\∀ ys,s9 K H m ys c->ys[i]?=some y,
   fun i H=>∃ xs ys,s9 K H l xs b/\s9 K H m ys c/\(xs.length<=i\/ys.length<=i)⟩
structure Ka (z p q i j l m:Addr) (b c:Bool) (k:Nat) (h:Heap):Prop where
  zz:IsZip h z p q .none
  pp:IsPair h p (.ref i) (.ref j)
  qq:∃ a b,IsPair h q a b
  ii:gq h i l k b
  jj:gq h j m k c
theorem BE {P:Program} {w:World} {K:PySem.W.Frag} {elts:List Expr} {x1} {pos:Pos} {z p q i j l m:Addr} {b c:Bool} (D:ZA z p q i j l m):vd P w K (.Tuple elts x1 pos) (IP K l m b c) [z,p,q,i,j] z (Ka z p q i j l m b c) where
  mem:=by simp
  obj:=fun k h st a ha=>by
    simp only [List.mem_cons,List.not_mem_nil,or_false] at ha;rcases ha with rfl | rfl | rfl | rfl | rfl
    · exact ⟨_,st.zz,fun v e=>by cases e⟩
    · exact ⟨_,st.pp,fun v e=>by cases e⟩
    · obtain ⟨_,_,e⟩:=st.qq;exact ⟨_,e,fun v e=>by cases e⟩
    · exact st.ii.there
    · exact st.jj.there
  keep:=fun k h h' st kp=>⟨kp z (by simp) _ st.zz,kp p (by simp) _ st.pp,let ⟨a,b,e⟩:=st.qq;⟨a,b,kp q (by simp) _ e⟩,st.ii.keep fun o e=>kp i (by simp) o e,st.jj.keep fun o e=>kp j (by simp) o e⟩
  item:=by
    intro X hP hw hK hc k pins s σ H E I hf st hg;subst hP hw hK;obtain ⟨xs,ys,x,y,h1,h2,hx,hy⟩:=hg;obtain ⟨its,rv,_,p1⟩:=iT I h1;obtain ⟨jts,rw',_,p2⟩:=iT I h2;obtain ⟨u,hu,ru⟩:=rv.get hx;obtain ⟨v,hv,ry⟩:=rw'.get hy;have S:BQ s.heap z p q i j l m .none k its.toArray jts.toArray:=⟨st.zz,st.pp,st.qq,p1 _ _ st.ii,p2 _ _ st.jj⟩
    refine wu D S (x:=u) (y:=v) (by simpa using hu) (by simpa using hv) fun h' S' hp kp=>⟨_,rfl,?_⟩
    have zlt:z < s.heap.objs.size:=Heap.lt_size st.zz;refine wpAny_letOwnedTupleGo_zip (s:={ s with heap:=h' }) S'.zz fun h2' hz2 sb=>?_
    have up:∀ a o,a≠z->h'.get? a=some o->h2'.get? a=some o:=fun a o ha e=>sb.extBut a o ha e
    have hob:∀ a∈[z,p,q,i,j],a < s.heap.objs.size:=fun a ha=>by
      simp only [List.mem_cons,List.not_mem_nil,or_false] at ha;rcases ha with rfl | rfl | rfl | rfl | rfl
      · exact Heap.lt_size st.zz
      · exact Heap.lt_size st.pp
      · obtain ⟨_,_,e⟩:=st.qq;exact Heap.lt_size e
      · obtain ⟨o,e,_⟩:=st.ii.there;exact Heap.lt_size e
      · obtain ⟨o,e,_⟩:=st.jj.there;exact Heap.lt_size e
    have hn:H s.heap.objs.size=none:=I.hok.fresh (Nat.le_refl _);refine ⟨.ref s.heap.objs.size,_,wV (s:=s) (t':=s.toks) (fp:=[z,p,q,i,j]) (h':=h2') (u1:=u) (u2:=v) (v1:=x) (v2:=y) I hf hob (up _ _ (Nat.ne_of_gt zlt) hp) (fun a o ha e=>?_) ru ry,rfl,⟨_,x,y,hn,rfl,rfl,fun zs hz=>by rw [kZ I h1 hz];exact hx,fun zs hz=>by rw [kZ I h2 hz];exact hy⟩,?_,fun a ha=>?_⟩
    · simp only [List.mem_cons,List.not_mem_nil,or_false,not_or] at ha;exact up a o ha.1 (kp a o ha.1 ha.2.2.1 ha.2.2.2.1 ha.2.2.2.2 e)
    · have i2:gq h' i l (k+1) b:=by
        refine S'.ii.toB fun ys=>?_
        cases hb:b
        · subst hb;refine ⟨fun z=>(by cases z),fun _ w=>?_⟩;obtain ⟨_,_,pl,_⟩:=I.list h1;obtain ⟨o,e,r⟩:=pl.isList;exact ej (h:=h') (xs:=_) ⟨o,kp _ _ D.lz D.lq D.li D.lj e,r⟩ w
        · subst hb;refine ⟨fun _ w=>?_,fun z=>by cases z⟩;obtain ⟨_,_,pl,_⟩:=I.tuple h1;obtain ⟨o,e,r⟩:=pl;exact ej (h:=h') w ⟨o,kp _ _ D.lz D.lq D.li D.lj e,r⟩
      have j2:gq h' j m (k+1) c:=by
        refine S'.jj.toB fun ys=>?_
        cases hb:c
        · subst hb;refine ⟨fun z=>(by cases z),fun _ w=>?_⟩;obtain ⟨_,_,pl,_⟩:=I.list h2;obtain ⟨o,e,r⟩:=pl.isList;exact ej (h:=h') (xs:=_) ⟨o,kp _ _ D.mz D.mq D.mi D.mj e,r⟩ w
        · subst hb;refine ⟨fun _ w=>?_,fun z=>by cases z⟩;obtain ⟨_,_,pl,_⟩:=I.tuple h2;obtain ⟨o,e,r⟩:=pl;exact ej (h:=h') w ⟨o,kp _ _ D.mz D.mq D.mi D.mj e,r⟩
      exact ⟨hz2,up _ _ D.pz S'.pp,let ⟨a,b,e⟩:=S'.qq;⟨a,b,up _ _ D.qz e⟩,i2.keep fun o e=>up _ _ D.iz e,j2.keep fun o e=>up _ _ D.jz e⟩
    · rw [aB (Nat.ne_of_lt (hob a ha))];exact (hf a ha).1
  done:=by
    intro X hP hw hK hc k pins s σ H E I hf st hg;subst hP hw hK;obtain ⟨xs,ys,h1,h2,hl⟩:=hg;obtain ⟨its,rv,_,p1⟩:=iT I h1;obtain ⟨jts,rw',_,p2⟩:=iT I h2;have S:BQ s.heap z p q i j l m .none k its.toArray jts.toArray:=⟨st.zz,st.pp,st.qq,p1 _ _ st.ii,p2 _ _ st.jj⟩
    have e1:=rv.length;have e2:=rw'.length;refine zw (I.ok.hd hc) D S ?_ fun h' kp=>⟨rfl,jL (t':=s.toks) (fp:=[z,p,q,i,j]) I (fun a o ha e=>?_) hf⟩
    · rcases hl with hl | hl
      · left;simp;omega
      · right;simp;omega
    · simp only [List.mem_cons,List.not_mem_nil,or_false,not_or] at ha;exact kp a o ha.1 ha.2.2.1 ha.2.2.2.1 ha.2.2.2.2 e
  self:=fun _ _ _ _ _ st h=>wpAny_pyIter_zip st.zz h
noncomputable def B5 (H:Hp) (a:Addr) (ds:List PyData):Bool->Prop
  | true=>∃ vs,H a=some (.tup vs)/\bO H ds vs
  | false=>∃ o vs,H a=some (.frz o (.lst vs))/\bO H ds vs
theorem B5.sq {K:PySem.W.Frag} {H:Hp} {a:Addr} {ds:List PyData} {b:Bool} (h:B5 H a ds b):∃ vs,s9 K H a vs b/\bO H ds vs:=by
  cases b
  · obtain ⟨o,vs,e,r⟩:=h;exact ⟨vs,.inl (.inr ⟨o,e⟩),r⟩
  · obtain ⟨vs,e,r⟩:=h;exact ⟨vs,ie.of e,r⟩
theorem B5.kp {H H':Hp} {a:Addr} {ds:List PyData} {b:Bool} (h:B5 H a ds b) (k:Kp H H'):B5 H' a ds b:=by
  cases b
  · obtain ⟨o,vs,e,r⟩:=h;exact ⟨o,vs,k.2 _ _ _ e,bO.kp k _ _ r⟩
  · obtain ⟨vs,e,r⟩:=h;exact ⟨vs,k.1 _ _ e,bO.kp k _ _ r⟩
noncomputable def Hg (p:PyData×PyData):PyData:=.tuple [p.1,p.2]
noncomputable def jX (xs ys:List PyData):List PyData:=(xs.zip ys).map Hg
theorem BM {xs ys:List PyData} {i:Nat} {d:PyData} (h:(jX xs ys)[i]?=some d):∃ x y,xs[i]?=some x/\ys[i]?=some y/\d=.tuple [x,y]:=by
  unfold jX at h;rw [List.getElem?_map] at h;cases e:(xs.zip ys)[i]? with
  | none=>rw [e] at h;cases h
  | some p =>
    rw [e] at h;obtain ⟨h1,h2⟩:=List.getElem?_zip_eq_some.mp e;exact ⟨p.1,p.2,h1,h2,(Option.some.inj h).symm⟩
theorem lX (xs ys:List PyData):(jX xs ys).length=min xs.length ys.length:=by unfold jX;simp
theorem CN {K:PySem.W.Frag} {l m:Addr} {b c:Bool} {xs ys:List PyData}:B0 (IP K l m b c) (fun H=>B5 H l xs b/\B5 H m ys c) (jX xs ys) where
  go:=fun i H ⟨h1,h2⟩ hi=>by
    rw [lX] at hi;obtain ⟨vs,s1,r1⟩:=h1.sq (K:=K);obtain ⟨us,s2,r2⟩:=h2.sq (K:=K);obtain ⟨x,hx,_⟩:=r1.get (List.getElem?_eq_getElem (show i < xs.length by omega));obtain ⟨y,hy,_⟩:=r2.get (List.getElem?_eq_getElem (show i < ys.length by omega));exact ⟨vs,us,x,y,s1,s2,hx,hy⟩
  yld:=fun i H v H' d ⟨h1,h2⟩ hd h=>by
    obtain ⟨a,x,y,ha,rfl,rfl,k1,k2⟩:=h;obtain ⟨vs,s1,r1⟩:=h1.sq (K:=K);obtain ⟨us,s2,r2⟩:=h2.sq (K:=K);obtain ⟨dx,dy,e1,e2,rfl⟩:=BM hd;obtain ⟨x',hx,px⟩:=r1.get e1;obtain ⟨y',hy,py⟩:=r2.get e2;have q1:=k1 vs s1;have q2:=k2 us s2;rw [hx] at q1;rw [hy] at q2;cases q1;cases q2;exact ⟨cz ha _,dJ ha (bO.cons px (bO.cons py bO.nil))⟩
  stop:=fun i H ⟨h1,h2⟩ hi=>by
    rw [lX] at hi;obtain ⟨vs,s1,r1⟩:=h1.sq (K:=K);obtain ⟨us,s2,r2⟩:=h2.sq (K:=K);have l1:=r1.length;have l2:=r2.length;exact ⟨vs,us,s1,s2,by omega⟩
theorem Gf {n l m:Nat} (hl:l < n) (hm:m < n):ZA (n+4) (n+2) (n+3) n (n+1) l m:=by
  refine ⟨?_,?_,?_,?_,?_,?_,?_,?_,?_,?_,?_,?_,?_,?_,?_,?_,?_,?_⟩ <;> (intro z;have z':(_:Nat)=_:=z;omega)
section
variable {X:Cx} {elts:List Expr} {x1:Nat} {tp:Pos} {a b:Expr} {fa fb:Fe} {pos p:Pos} {nl:Nat} {G:List Str} {fs:aS->R (List PyData)}
noncomputable def Kf (K:PySem.W.Frag) (ta:TA):TI:=fun σ H R=>ta σ H fun vs H1=>∃ l m xs ys b c,vs=[.ref l,.ref m]/\s9 K H1 l xs b/\s9 K H1 m ys c/\R (IP K l m b c) H1
theorem FF {ta:TA} (hg:Gl X "zip") (hm:X.mg "zip" = none) (ha:PA X [a,b] ta) (hs:starEach [a,b] X.env=[(false,eval a X.env),(false,eval b X.env)]) (hs2:starEach [b] X.env=[(false,eval b X.env)]) :
    PI X (.Tuple elts x1 tp) (.Call (.Name "zip" p) [a,b] [] pos) (Kf X.K ta):=by
  intro pins s σ H R I h;refine Call_ (h9 I hg hm boot_zip (PyProof.Rows.callWith_type1 (du (ha pos pins s σ H _ I h) fun us s1 ⟨vs,H1,I1,r1,q1⟩=>?_) (by rw [hs,hs2]) (by rw [hs2];rfl)));obtain ⟨l,m,xs,ys,b,c,e,h1,h2,q⟩:=q1;subst e;obtain ⟨u,v,rfl,ru,rv⟩:=xD r1;cases ru;cases rv;obtain ⟨its,w1,p1,g1⟩:=iT I1 h1;obtain ⟨jts,w2,p2,g2⟩:=iT I1 h2;have ll:l < s1.heap.objs.size:=by rcases p1 with ⟨o,e,_⟩ | ⟨o,e,_⟩ <;> exact Heap.lt_size e
  have lm:m < s1.heap.objs.size:=by rcases p2 with ⟨o,e,_⟩ | ⟨o,e,_⟩ <;> exact Heap.lt_size e
  refine zY p1 p2 fun h' hz S kp=>wpAny_pyIter_zip S.zz ?_
  have D:=Gf ll lm;have I2:aX X pins σ H1 { s1 with heap:=h' }:=I1.kept (t':=s1.toks) kp;have i2:gq h' s1.heap.objs.size l 0 b:=S.ii.toB (o4 I1 h1 kp);have j2:gq h' (s1.heap.objs.size+1) m 0 c:=S.jj.toB (o4 I1 h2 kp);refine ⟨_,[s1.heap.objs.size+4,s1.heap.objs.size+2,s1.heap.objs.size+3,s1.heap.objs.size,s1.heap.objs.size+1],_,_,H1,rfl,I2,BE (b:=b) (c:=c) D,⟨S.zz,S.pp,S.qq,i2,j2⟩,fun a ha=>?_,q⟩;have hle:s1.heap.objs.size<=a:=by
    simp only [List.mem_cons,List.not_mem_nil,or_false] at ha;rcases ha with rfl | rfl | rfl | rfl | rfl
    · exact Nat.le_add_right _ 4
    · exact Nat.le_add_right _ 2
    · exact Nat.le_add_right _ 3
    · exact Nat.le_refl _
    · exact Nat.le_add_right _ 1
  exact I1.fpOk hle (I1.hok.fresh hle)
noncomputable def yx (fa fb:Fe):aS->R (List PyData):=fun ρ=>fa ρ>>=fun x=>fb ρ>>=fun y=>jh x>>=fun xs=>jh y>>=fun ys=>.ok (jX xs ys)
theorem vZ {H:Hp} {d:PyData} {v:V} {ds:List PyData} (h:Rp H d v) (e:jh d=.ok ds):∃ a b,v=.ref a/\B5 H a ds b:=by
  cases d with
  | list xs =>
    cases e;simp only [Rp] at h;obtain ⟨a,o,vs,rfl,h,r⟩:=h;exact ⟨a,false,rfl,o,vs,h,r⟩
  | tuple xs =>
    cases e;simp only [Rp] at h;obtain ⟨a,vs,rfl,h,r⟩:=h;exact ⟨a,true,rfl,vs,h,r⟩
  | _=>cases e
theorem tj (T:Tb X nl G) (j:Nat) (hG:G[j]?=some ("zip" : Str)) (hm:X.mg "zip" = none) (ha:Z.cX X a fa) (hb:Z.cX X b fb) (h1:bq a=true:=by rfl) (h2:bq b=true:=by rfl):Z.rd X (.Tuple elts x1 tp) (.Call (.Name "zip" p) [a,b] [] pos) (yx fa fb):=⟨have ha:=ha.un;have hb:=hb.un;by
  have g:=T.gl _ (List.mem_of_getElem? hG);refine PI.imp (FF g.1 hm (iR ha (iR hb mD h2) h1) (by rw [bP h1,bP h2];rfl) (by rw [bP h2];rfl)) fun σ H Rk h=>?_
  obtain ⟨ρ,sl,q⟩:=h;unfold yx at q;refine ⟨ρ,sl,?_⟩;unfold ai aE;cases e1:fa ρ with
  | ex c=>rw [e1] at q;exact q
  | no=>rw [e1] at q;exact q
  | ok x =>
    rw [e1] at q;simp only [R.ok_bind] at q ⊢;cases e2:fb ρ with
    | ex c=>rw [e2] at q;exact q
    | no=>rw [e2] at q;exact q
    | ok y =>
      rw [e2] at q;simp only [R.ok_bind] at q ⊢;cases e3:jh x with
      | ex c=>exact absurd e3 (by cases x <;> simp [jh])
      | no=>rw [e3] at q;exact q.elim
      | ok xs =>
        rw [e3] at q;simp only [R.ok_bind] at q;cases e4:jh y with
        | ex c=>exact absurd e4 (by cases y <;> simp [jh])
        | no=>rw [e4] at q;exact q.elim
        | ok ys =>
          rw [e4] at q;simp only [R.ok_bind] at q;intro vs H1 s1 ra;simp only [RA] at ra;obtain ⟨v,r',rfl,p1,v',r'',rfl,p2,rfl⟩:=ra;obtain ⟨l,b1,rfl,d1⟩:=vZ p1 e3;obtain ⟨m,b2,rfl,d2⟩:=vZ p2 e4;obtain ⟨us,u1,_⟩:=d1.sq (K:=X.K);obtain ⟨ws,u2,_⟩:=d2.sq (K:=X.K);exact ⟨l,m,us,ws,b1,b2,rfl,u1,u2,q _ H1 s1 ⟨_,CN,fun H2 k _=>⟨d1.kp k,d2.kp k⟩⟩⟩⟩
end
noncomputable def fB (i j:Nat):PyData->aS->Option aS
  | .tuple [x,y],ρ=>some ((ρ.set i (.val x)).set j (.val y))
  | _,_=>none
section
variable {X:Cx} {nl:Nat} {G:List Str} {x y:Str} {k:Nat} {p1 p2 pos:Pos}
theorem il (T:Tb X nl G) (i j:Nat) (hi:(X.N.take nl)[i]?=some x) (hj:(X.N.take nl)[j]?=some y):Z.sE X (.Tuple [.Name x p1,.Name y p2] k pos) (fB i j):=⟨by
  obtain ⟨i1,i2,i3⟩:=T.nm hi;obtain ⟨j1,j2,j3⟩:=T.nm hj;refine PG.imp (FE T.calm (uu (sv T.nd i1 i2 i3) (uu (sv T.nd j1 j2 j3) Dm))) fun v σ H Q zq0=>?_
  obtain ⟨ρ,d,sl,p,q⟩:=zq0;unfold fB at q;split at q
  · rename_i e;split at e
    · rename_i ρ0 dx dy;cases e;simp only [Rp] at p;obtain ⟨a,vs,rfl,ha,r⟩:=p;obtain ⟨u,r1,rfl,pu,r⟩:=r.cons_inv;obtain ⟨w,r2,rfl,pw,r⟩:=r.cons_inv;rw [r.nil_inv] at ha;refine ⟨a,[u,w],rfl,ie.of ha,rfl,u,[w],rfl,w,[],rfl,rfl,?_⟩;refine q _ (Sl.set (c:=.val dy) (o:=some w) (Sl.set (c:=.val dx) (o:=some u) sl i ⟨u,rfl,pu⟩) j ⟨w,rfl,pw⟩) fun n e h=>?_
      obtain ⟨n1,h⟩:=dj (fun e z=>by cases z) h;obtain ⟨n2,h⟩:=dj (fun e z=>by cases z) h;exact ⟨h,by rw [List.getElem?_set,if_neg n1,List.getElem?_set,if_neg n2]⟩
    · cases e
  · exact q.elim⟩
end
theorem ir {own:Nat} {fr:List Nat} {i j:Nat} (hi:i < own) (hj:j < own):∀ ρ d ρ1,fB i j d (az own fr ρ)=some ρ1->kx (az own fr ρ) ρ1:=fun ρ d ρ1 e=>by
  unfold fB at e;split at e
  · rename_i x y _;cases e;refine ⟨by rw [List.length_set,List.length_set],fun n c hn=>?_⟩;have at_own:n < own->c=.non:=fun h=>by
      unfold az at hn;rw [List.getElem?_append_left (by simpa using h),List.getElem?_replicate,if_pos h] at hn;exact (Option.some.inj hn).symm
    by_cases h1:j=n
    · exact .inl (at_own (by omega))
    · by_cases h2:i=n
      · exact .inl (at_own (by omega))
      · exact .inr (by rw [List.getElem?_set,if_neg h1,List.getElem?_set,if_neg h2];exact hn)
  · cases e
open AutoSeq1 (wpAny_loadPart')
noncomputable abbrev ky (h:Heap) (e i:Addr) (k:Int) (f0 old:Value):Prop:=h.get? e=some { cls:=.type "enumerate",dict:=none,data:=.fields #[f0,.bool false,.ref i,rawInt k,.none,old],slots:=#[] }
section
variable {prog:Program} {w:World} {A:Around} {E:Value->Shared->Prop} {s:Shared} {e i l:Addr} {k:Nat} {xs:Array Value}
theorem yg {x old:Value} {Q:Value->Shared->Prop} (he:ky s.heap e i k .none old) (it:lY s.heap i l k xs) (hli:l≠i) (hle:l≠e) (hei:e≠i) (hx:xs[k]?=some x)
    (hQ:∀ h' old',ky h' e i ((k:Int)+1) (rawInt s.heap.objs.size) old'->lY h' i l (k+1) xs->IsPair h' s.heap.objs.size (.int k s.toks) x->(∀ c o,c≠e->c≠i->s.heap.get? c=some o->h'.get? c=some o)->Q (.ref s.heap.objs.size) { s with heap:=h',toks:=s.toks+1 }) :
    wpAny (model prog w) A (Builtin.«enumerate.__next__» ⟨[.ref e],[]⟩) (fun fin s'=>∃ v,fin=.done (.ret v)/\Q v s') E s:=by
  obtain ⟨hp,g,d,tk,os⟩:=s;show wpAny _ _ (field (Value.ref e) 2>>=_) _ _ _;refine wpAny_bind (wpAny_field he rfl (x:=Value.ref i) rfl ?_);refine wpAny_bind (xb it hli hx fun g1 i1 s1=>?_);replace s1:Heap.SameBut i hp g1:=s1;have e1:ky g1 e i k .none old:=(s1.2 e hei).trans he;show wpAny _ _ (field (Value.ref e) 3>>=_) _ _ (Shared.mk g1 g d tk os);refine wpAny_bind (wpAny_field e1 rfl (x:=rawInt (k:Int)) rfl ?_);show wpAny _ _ (field (Value.ref e) 4>>=_) _ _ (Shared.mk g1 g d tk os);refine wpAny_bind (wpAny_field e1 rfl (x:=Value.none) rfl ?_);show wpAny _ _ (mkInt (k:Int)>>=_) _ _ (Shared.mk g1 g d tk os);refine wpAny_bind (wpAny_mkInt ?_);show wpAny _ _ (setField (Value.ref e) 3 (rawInt ((k:Int)+1))>>=_) _ _ (Shared.mk g1 g d (tk+1) os);refine wpAny_bind (wpAny_setField_rec e1 (by simp) fun g2 e2 s2=>?_);replace s2:Heap.SameBut e g1 g2:=s2;replace e2:ky g2 e i ((k:Int)+1) .none old:=e2;show wpAny _ _ (setField (Value.ref e) 4 Value.none>>=_) _ _ (Shared.mk g2 g d (tk+1) os);refine wpAny_bind (wpAny_setField_rec e2 (by simp) fun g3 e3 s3=>?_);replace s3:Heap.SameBut e g2 g3:=s3;replace e3:ky g3 e i ((k:Int)+1) .none old:=e3;show wpAny _ _ (newTuple [Value.int k tk,x]>>=_) _ _ (Shared.mk g3 g d (tk+1) os);refine wpAny_bind (wpAny_newTuple ?_);have hsz:g3.objs.size=hp.objs.size:=by rw [s3.1,s2.1,s1.1]
  have elt:e < g3.objs.size:=Heap.lt_size e3;have e4:ky (g3.push { cls:=.type "tuple",data:=.seq #[.int k tk,x] }) e i ((k:Int)+1) .none old:=Heap.get?_push_of_some _ e3;have t4:IsPair (g3.push { cls:=.type "tuple",data:=.seq #[.int k tk,x] }) g3.objs.size (.int k tk) x:=Heap.get?_push_size _ rfl;have i3:lY g3 i l (k+1) xs:=i1.keep (fun o q=>s3.extBut _ _ hei.symm (s2.extBut _ _ hei.symm q)) fun o q=>s3.extBut _ _ hle (s2.extBut _ _ hle q)
  have k3:∀ c o,c≠e->c≠i->hp.get? c=some o->g3.get? c=some o:=fun c o c1 c2 q=>s3.extBut _ _ c1 (s2.extBut _ _ c1 (s1.extBut _ _ c2 q))
  show wpAny _ _ (Builtin.SmallTypes.ownedTupleIsFree (Value.ref e)>>=_) _ _ (Shared.mk (g3.push { cls:=.type "tuple",data:=.seq #[.int k tk,x] }) g d (tk+1) os);refine wpAny_bind ?_;unfold Builtin.SmallTypes.ownedTupleIsFree;refine wpAny_bind (wpAny_field e4 rfl (x:=Value.none) rfl (wpAny_pure ?_));simp only [if_true];refine wpAny_bind (wpAny_rule ?_);refine wpAny_bind (wpAny_field e4 rfl (x:=old) rfl ?_);refine wpAny_bind (wpAny_setField_rec e4 (by simp) fun g5 e5 s5=>?_);replace s5:Heap.SameBut e (g3.push { cls:=.type "tuple",data:=.seq #[.int k tk,x] }) g5:=s5;replace e5:ky g5 e i ((k:Int)+1) .none x:=e5;show wpAny _ _ (Builtin.SmallTypes.ownedTupleHandOut (Value.ref e) (Value.ref g3.objs.size)>>=_) _ _ (Shared.mk g5 g d (tk+1) os);refine wpAny_bind ?_;unfold Builtin.SmallTypes.ownedTupleHandOut;refine wpAny_bind (wpAny_setField_rec e5 (by simp) fun g6 e6 s6=>?_);replace s6:Heap.SameBut e g5 g6:=s6;replace e6:ky g6 e i ((k:Int)+1) (rawInt g3.objs.size) x:=e6;refine wpAny_setField_rec e6 (by simp) fun g7 e7 s7=>?_
  replace s7:Heap.SameBut e g6 g7:=s7;replace e7:ky g7 e i ((k:Int)+1) (rawInt g3.objs.size) x:=e7;have up:∀ c o,c≠e->g3.get? c=some o->g7.get? c=some o:=fun c o c1 q=>s7.extBut _ _ c1 (s6.extBut _ _ c1 (s5.extBut _ _ c1 (Heap.get?_push_of_some _ q)))
  have t7:IsPair g7 g3.objs.size (.int k tk) x:=s7.extBut _ _ (Nat.ne_of_gt elt) (s6.extBut _ _ (Nat.ne_of_gt elt) (s5.extBut _ _ (Nat.ne_of_gt elt) t4));rw [hsz] at e7 t7;refine wpAny_bind (wpAny_letGo (wpAny_pure ⟨_,rfl,?_⟩));show Q (.ref g3.objs.size) _;rw [hsz];exact hQ g7 x e7 (i3.keep (fun o q=>up _ _ hei.symm q) fun o q=>up _ _ hle q) t7 fun c o c1 c2 q=>up c o c1 (k3 c o c1 c2 q)
theorem yh {x old:Value} {Q:Option Value->Shared->Prop} (he:ky s.heap e i k .none old) (it:lY s.heap i l k xs) (hli:l≠i) (hle:l≠e) (hei:e≠i) (hx:xs[k]?=some x)
    (hQ:∀ h' old',ky h' e i ((k:Int)+1) (rawInt s.heap.objs.size) old'->lY h' i l (k+1) xs->IsPair h' s.heap.objs.size (.int k s.toks) x->(∀ c o,c≠e->c≠i->s.heap.get? c=some o->h'.get? c=some o)->Q (some (.ref s.heap.objs.size)) { s with heap:=h',toks:=s.toks+1 }) :
    wpAny (model prog w) A (pyNext (.ref e)) Q E s:=by
  have hT:s.TypeIs (.ref e) "enumerate" := ⟨_,he,rfl⟩
  unfold pyNext;exact wpAny_bind (wpAny_attempt (wpAny_callSpecial?_slot (name:=Str.ofString "__next__") hT F.slot_enumerate_next (wpAny_call_entry F.slot_enumerate_next hT F.entry_enumerate_next (yg he it hli hle hei hx fun h' o a b c d=>wpAny_pure (hQ h' o a b c d)) (F.args_enumerate_next_1 _))))
theorem Aj {old:Value} {Q:Option Value->Shared->Prop} (hh:A.handled=none) (he:ky s.heap e i k .none old) (it:lY s.heap i l k xs) (hx:xs[k]?=none) (hQ:∀ h',(∀ c o,c≠i->s.heap.get? c=some o->h'.get? c=some o)->Q none { s with heap:=h' }) :
    wpAny (model prog w) A (pyNext (.ref e)) Q E s:=by
  have hT:s.TypeIs (.ref e) "enumerate" := ⟨_,he,rfl⟩
  unfold pyNext;refine wpAny_bind (wpAny_attempt (wpAny_callSpecial?_slot (name:=Str.ofString "__next__") hT F.slot_enumerate_next (wpAny_call_entry F.slot_enumerate_next hT F.entry_enumerate_next ?_ (F.args_enumerate_next_1 _))));show wpAny _ _ (field (Value.ref e) 2>>=_) _ _ _;refine wpAny_bind (wpAny_field he rfl (x:=Value.ref i) rfl ?_);refine wpAny_bind (mK hh it hx fun h' x k1 zq0=>?_);obtain ⟨o,ho,hc⟩:=zq0;exact wpAny_bind (wpAny_isInstance (T := "StopIteration") (b:=true) ⟨o,ho,hc⟩ isSubtype_stop (wpAny_pure (hQ _ fun c o c1 q=>k1 c o c1 q)))
theorem Ak (l:Addr) (xs:Array Value):Meets (Builtin.«enumerate.__new__» ⟨[.type "enumerate",.ref l],[]⟩) (fun _ R s=>vc s.heap l xs /\
    ∀ h',ky h' (s.heap.objs.size+1) s.heap.objs.size 0 .none .none->lY h' s.heap.objs.size l 0 xs->(∀ c o,s.heap.get? c=some o->h'.get? c=some o)->R (.ok (.ret (.ref (s.heap.objs.size+1)))) { s with heap:=h' }) :=
  .of_wp fun prog w A R s h=>by
    obtain ⟨hp,g,d,tk,os⟩:=s;obtain ⟨h1,h⟩:=h;have hsub:=sub_enumerate;have fin:∀ oi:Obj,lY (hp.push oi) hp.objs.size l 0 xs->R (.ok (.ret (.ref (hp.push oi).objs.size))) ⟨(hp.push oi).push { cls:=.type "enumerate",data:=.fields #[.none,.bool false,.ref hp.objs.size,rawInt 0,.none,.none] },g,d,tk,os⟩:=fun oi hi=>by
      have e1:(hp.push oi).objs.size=hp.objs.size+1:=Heap.size_push ..;rw [e1];refine h _ ?_ (hi.keep (fun o q=>Heap.get?_push_of_some _ q) fun o q=>Heap.get?_push_of_some _ q) fun c o q=>Heap.get?_push_of_some _ (Heap.get?_push_of_some _ q)
      show Heap.get? _ (hp.objs.size+1)=_;rw [<- e1];exact Heap.get?_push_size _ rfl
    rcases h1 with h1 | h1
    · have l1:Heap.IsList (Shared.heap ⟨hp,g,d,tk,os⟩) l xs:=h1;obtain ⟨o,ho,_,_,_⟩:=id h1;have ho':(Shared.heap ⟨hp,g,d,tk,os⟩).get? l=some o:=ho
      wp_walk using wpAny_loadPart' ho'
      refine wpAny_stack_any fun st=>wpAny_pure ?_
      split
      · rename_i c _ _ _ _ _;cases (c==Value.type "enumerate")
        · wp_walk using wpAny_loadPart' ho',wpAny_pyIter_list l1
          exact ⟨_,rfl,fin _ (.inl ⟨⟨_,Heap.get?_push_size _ rfl,rfl,rfl⟩,Heap.IsList.push h1 _⟩)⟩
        · wp_walk using wpAny_loadPart' ho',wpAny_pyIter_list l1
          exact ⟨_,rfl,fin _ (.inl ⟨⟨_,Heap.get?_push_size _ rfl,rfl,rfl⟩,Heap.IsList.push h1 _⟩)⟩
      · wp_walk using wpAny_loadPart' ho',wpAny_pyIter_list l1
        exact ⟨_,rfl,fin _ (.inl ⟨⟨_,Heap.get?_push_size _ rfl,rfl,rfl⟩,Heap.IsList.push h1 _⟩)⟩
    · have l1:Heap.IsTuple (Shared.heap ⟨hp,g,d,tk,os⟩) l xs:=h1;obtain ⟨o,ho,_,_,_⟩:=id h1;have ho':(Shared.heap ⟨hp,g,d,tk,os⟩).get? l=some o:=ho
      wp_walk using wpAny_loadPart' ho'
      refine wpAny_stack_any fun st=>wpAny_pure ?_
      split
      · rename_i c _ _ _ _ _;cases (c==Value.type "enumerate")
        · wp_walk using wpAny_loadPart' ho',wpAny_pyIter_tuple l1
          exact ⟨_,rfl,fin _ (.inr ⟨⟨_,Heap.get?_push_size _ rfl,rfl,rfl⟩,Heap.IsTuple.push h1 _⟩)⟩
        · wp_walk using wpAny_loadPart' ho',wpAny_pyIter_tuple l1
          exact ⟨_,rfl,fin _ (.inr ⟨⟨_,Heap.get?_push_size _ rfl,rfl,rfl⟩,Heap.IsTuple.push h1 _⟩)⟩
      · wp_walk using wpAny_loadPart' ho',wpAny_pyIter_tuple l1
        exact ⟨_,rfl,fin _ (.inr ⟨⟨_,Heap.get?_push_size _ rfl,rfl,rfl⟩,Heap.IsTuple.push h1 _⟩)⟩
theorem xZ {Q:Value->Shared->Prop} {l:Addr} (h1:vc s.heap l xs)
    (h:∀ h',ky h' (s.heap.objs.size+1) s.heap.objs.size 0 .none .none->lY h' s.heap.objs.size l 0 xs->(∀ c o,s.heap.get? c=some o->h'.get? c=some o)->Q (.ref (s.heap.objs.size+1)) { s with heap:=h' }) :
    wpAny (model prog w) A (call (.type "enumerate") [.ref l]) Q E s:=by
  refine callType_new F.called_enumerate (by decide) (F.typeCall_enumerate_1 _) (F.newCall_enumerate_1 _) (fun obj=>F.args_object_init_2 obj _) F.entry_enumerate_new (Ak l xs) ⟨h1,fun h' e S k=>?_⟩;exact ⟨⟨_,e,rfl⟩,h h' e S k⟩
end
end D2
namespace D2
open PySem PySem.Spec PyProof.Rows L2
noncomputable def IN (K:PySem.W.Frag) (l:Addr) (b:Bool):It :=
  ⟨fun i H=>∃ xs x,s9 K H l xs b/\xs[i]?=some x,fun i H v H'=>∃ a x,H a=none/\v=.ref a/\H'=cQ H a (.tup [.int i,x])/\∀ xs,s9 K H l xs b->xs[i]?=some x,fun i H=>∃ xs,s9 K H l xs b/\xs.length<=i⟩
structure J4 (e i l:Addr) (b:Bool) (k:Nat) (h:Heap):Prop where
  ee:∃ old,ky h e i k .none old
  ii:gq h i l k b
theorem zq {P:Program} {w:World} {K:PySem.W.Frag} {elts:List Expr} {x1} {pos:Pos} {e i l:Addr} {b:Bool} (hei:e≠i) (hle:l≠e) (hli:l≠i):vd P w K (.Tuple elts x1 pos) (IN K l b) [e,i] e (J4 e i l b) where
  mem:=by simp
  obj:=fun k h st a ha=>by
    simp only [List.mem_cons,List.not_mem_nil,or_false] at ha;rcases ha with rfl | rfl
    · obtain ⟨_,q⟩:=st.ee;exact ⟨_,q,fun v e=>by cases e⟩
    · exact st.ii.there
  keep:=fun k h h' st kp=>⟨let ⟨o,q⟩:=st.ee;⟨o,kp e (by simp) _ q⟩,st.ii.keep fun o q=>kp i (by simp) o q⟩
  item:=by
    intro X hP hw hK hc k pins s σ H E I hf st hg;subst hP hw hK;obtain ⟨xs,x,h1,hx⟩:=hg;obtain ⟨its,rv,_,p1⟩:=iT I h1;obtain ⟨u,hu,ru⟩:=rv.get hx;obtain ⟨old,he⟩:=st.ee;refine yh he (p1 _ _ st.ii) hli hle hei (x:=u) (by simpa using hu) fun h' old' e' i' hp kp=>⟨_,rfl,?_⟩
    have elt:e < s.heap.objs.size:=Heap.lt_size he;have hob:∀ a∈[e,i],a < s.heap.objs.size:=fun a ha=>by
      simp only [List.mem_cons,List.not_mem_nil,or_false] at ha;rcases ha with rfl | rfl
      · exact elt
      · obtain ⟨o,q,_⟩:=st.ii.there;exact Heap.lt_size q
    have hn:H s.heap.objs.size=none:=I.hok.fresh (Nat.le_refl _);refine wpAny_letOwnedTupleGo_enum (s:={ s with heap:=h',toks:=s.toks+1 }) e' fun h2' e2 sb=>?_
    have up:∀ a o,a≠e->h'.get? a=some o->h2'.get? a=some o:=fun a o ha q=>sb.extBut a o ha q
    refine ⟨.ref s.heap.objs.size,_,wV (s:=s) (t':=s.toks+1) (fp:=[e,i]) (h':=h2') (u1:=.int k s.toks) (u2:=u) (v1:=.int k) (v2:=x) I hf hob (up _ _ (Nat.ne_of_gt elt) hp) (fun a o ha q=>?_) ⟨_,rfl⟩ ru,rfl,⟨_,x,hn,rfl,rfl,fun zs hz=>by rw [kZ I h1 hz];exact hx⟩,?_,fun a ha=>?_⟩
    · simp only [List.mem_cons,List.not_mem_nil,or_false,not_or] at ha;exact up a o ha.1 (kp a o ha.1 ha.2 q)
    · have i2:gq h' i l (k+1) b:=by
        refine i'.toB fun ys=>?_
        cases hb:b
        · subst hb;refine ⟨fun z=>(by cases z),fun _ w=>?_⟩;obtain ⟨_,_,pl,_⟩:=I.list h1;obtain ⟨o,q,r⟩:=pl.isList;exact ej (h:=h') (xs:=_) ⟨o,kp _ _ hle hli q,r⟩ w
        · subst hb;refine ⟨fun _ w=>?_,fun z=>by cases z⟩;obtain ⟨_,_,pl,_⟩:=I.tuple h1;obtain ⟨o,q,r⟩:=pl;exact ej (h:=h') w ⟨o,kp _ _ hle hli q,r⟩
      exact ⟨⟨_,by have q:ky h2' e i ((k:Int)+1) .none old':=e2;simpa using q⟩,i2.keep fun o q=>up _ _ hei.symm q⟩
    · rw [aB (Nat.ne_of_lt (hob a ha))];exact (hf a ha).1
  done:=by
    intro X hP hw hK hc k pins s σ H E I hf st hg;subst hP hw hK;obtain ⟨xs,h1,hl⟩:=hg;obtain ⟨its,rv,_,p1⟩:=iT I h1;obtain ⟨old,he⟩:=st.ee;have e1:=rv.length;refine Aj (I.ok.hd hc) he (p1 _ _ st.ii) (by simp;omega) fun h' kp=>⟨rfl,jL (t':=s.toks) (fp:=[e,i]) I (fun a o ha q=>?_) hf⟩
    simp only [List.mem_cons,List.not_mem_nil,or_false,not_or] at ha;exact kp a o ha.2 q
  self:=fun _ _ _ _ _ st h=>let ⟨_,q⟩:=st.ee;wpAny_pyIter_enum q h
noncomputable def dW:Nat->List PyData->List PyData
  | _,[]=>[]
  | k,d::ds=>.tuple [.int k,d]::dW (k+1) ds
theorem gG:∀ (k:Nat) (ds:List PyData),(dW k ds).length=ds.length
  | _,[]=>rfl
  | k,d::ds=>by unfold dW;rw [List.length_cons,List.length_cons,gG]
theorem qp:∀ {k:Nat} {ds:List PyData} {i:Nat} {d:PyData},(dW k ds)[i]?=some d->∃ x,ds[i]?=some x/\d=.tuple [.int ((k+i:Nat):Int),x]
  | k,[],i,d,h=>by unfold dW at h;simp at h
  | k,x::ds,0,d,h=>by
    unfold dW at h;simp at h;exact ⟨x,rfl,by rw [<- h];simp⟩
  | k,x::ds,i+1,d,h=>by
    unfold dW at h;rw [List.getElem?_cons_succ] at h;obtain ⟨y,h1,h2⟩:=qp h;refine ⟨y,by simpa using h1,?_⟩;rw [h2];have:k+1+i=k+(i+1):=by omega
    rw [this]
theorem Ay {K:PySem.W.Frag} {l:Addr} {b:Bool} {xs:List PyData}:B0 (IN K l b) (fun H=>B5 H l xs b) (dW 0 xs) where
  go:=fun i H h1 hi=>by
    rw [gG] at hi;obtain ⟨vs,s1,r1⟩:=h1.sq (K:=K);obtain ⟨x,hx,_⟩:=r1.get (List.getElem?_eq_getElem hi);exact ⟨vs,x,s1,hx⟩
  yld:=fun i H v H' d h1 hd h=>by
    obtain ⟨a,x,ha,rfl,rfl,k1⟩:=h;obtain ⟨vs,s1,r1⟩:=h1.sq (K:=K);obtain ⟨dx,e1,rfl⟩:=qp hd;obtain ⟨x',hx,px⟩:=r1.get e1;have q1:=k1 vs s1;rw [hx] at q1;cases q1;refine ⟨cz ha _,dJ ha (bO.cons ?_ (bO.cons px bO.nil))⟩;rw [Nat.zero_add];exact dD
  stop:=fun i H h1 hi=>by
    rw [gG] at hi;obtain ⟨vs,s1,r1⟩:=h1.sq (K:=K);have l1:=r1.length;exact ⟨vs,s1,by omega⟩
section
variable {X:Cx} {elts:List Expr} {x1:Nat} {tp:Pos} {a b:Expr} {fa fb:Fe} {pos p:Pos} {nl:Nat} {G:List Str} {fs:aS->R (List PyData)}
noncomputable def Kd (K:PySem.W.Frag) (ta:TA):TI:=fun σ H R=>ta σ H fun vs H1=>∃ l xs b,vs=[.ref l]/\s9 K H1 l xs b/\R (IN K l b) H1
theorem Do {ta:TA} (hg:Gl X "enumerate") (hm:X.mg "enumerate" = none) (ha:PA X [a] ta) (hs:starEach [a] X.env=[(false,eval a X.env)]):PI X (.Tuple elts x1 tp) (.Call (.Name "enumerate" p) [a] [] pos) (Kd X.K ta):=by
  intro pins s σ H R I h;refine Call_ (h9 I hg hm boot_enumerate (PyProof.Rows.callWith_type1 (du (ha pos pins s σ H _ I h) fun us s1 zq0=>?_) hs rfl));obtain ⟨vs,H1,I1,r1,q1⟩:=zq0;obtain ⟨l,xs,b,e,h1,q⟩:=q1;subst e;obtain ⟨u,rfl,ru⟩:=gu r1;cases ru;obtain ⟨its,w1,p1,g1⟩:=iT I1 h1;have ll:l < s1.heap.objs.size:=by rcases p1 with ⟨o,e,_⟩ | ⟨o,e,_⟩ <;> exact Heap.lt_size e
  refine xZ p1 fun h' hz S kp=>wpAny_pyIter_enum hz ?_
  have I2:aX X pins σ H1 { s1 with heap:=h' }:=I1.kept (t':=s1.toks) kp;have i2:gq h' s1.heap.objs.size l 0 b:=S.toB (o4 I1 h1 kp);refine ⟨_,[s1.heap.objs.size+1,s1.heap.objs.size],_,_,H1,rfl,I2,zq (b:=b) (Nat.ne_of_gt (Nat.lt_succ_self _)) (Nat.ne_of_lt (Nat.lt_succ_of_lt ll)) (Nat.ne_of_lt ll),⟨⟨_,hz⟩,i2⟩,fun a ha=>?_,q⟩;have hle:s1.heap.objs.size<=a:=by
    simp only [List.mem_cons,List.not_mem_nil,or_false] at ha;rcases ha with rfl | rfl
    · exact Nat.le_add_right _ 1
    · exact Nat.le_refl _
  exact I1.fpOk hle (I1.hok.fresh hle)
noncomputable def qu (fa:Fe):aS->R (List PyData):=fun ρ=>fa ρ>>=fun x=>jh x>>=fun xs=>.ok (dW 0 xs)
theorem mh (T:Tb X nl G) (j:Nat) (hG:G[j]?=some ("enumerate" : Str)) (hm:X.mg "enumerate" = none) (ha:Z.cX X a fa) (h1:bq a=true:=by rfl):Z.rd X (.Tuple elts x1 tp) (.Call (.Name "enumerate" p) [a] [] pos) (qu fa):=⟨have ha:=ha.un;by
  have g:=T.gl _ (List.mem_of_getElem? hG);refine PI.imp (Do g.1 hm (iR ha mD h1) (by rw [bP h1];rfl)) fun σ H Rk h=>?_
  obtain ⟨ρ,sl,q⟩:=h;unfold qu at q;refine ⟨ρ,sl,?_⟩;unfold ai aE;cases e1:fa ρ with
  | ex c=>rw [e1] at q;exact q
  | no=>rw [e1] at q;exact q
  | ok x =>
    rw [e1] at q;simp only [R.ok_bind] at q ⊢;cases e3:jh x with
    | ex c=>exact absurd e3 (by cases x <;> simp [jh])
    | no=>rw [e3] at q;exact q.elim
    | ok xs =>
      rw [e3] at q;simp only [R.ok_bind] at q;intro vs H1 s1 ra;simp only [RA] at ra;obtain ⟨v,r',rfl,p1,rfl⟩:=ra;obtain ⟨l,b1,rfl,d1⟩:=vZ p1 e3;obtain ⟨us,u1,_⟩:=d1.sq (K:=X.K);exact ⟨l,us,b1,rfl,u1,q _ H1 s1 ⟨_,Ay,fun H2 k _=>d1.kp k⟩⟩⟩
end
noncomputable def BL:List PyData->List PyData->List PyData->List PyData
  | x::xs,y::ys,z::zs=>.tuple [x,y,z]::BL xs ys zs
  | _,_,_=>[]
section
variable {X:Cx} {elts:List Expr} {x1:Nat} {tp:Pos} {a b c:Expr} {fa fb fc:Fe} {pos p:Pos} {nl:Nat} {G:List Str} {fs:aS->R (List PyData)}
noncomputable def wk:PyData->R (List PyData)
  | .tuple ds=>.ok ds
  | _=>.no
noncomputable def G5 (fa fb fc:Fe):aS->R (List PyData):=fun ρ=>fa ρ>>=fun x=>fb ρ>>=fun y=>fc ρ>>=fun z=>wk x>>=fun xs=>wk y>>=fun ys=>wk z>>=fun zs=>.ok (BL xs ys zs)
end
section
variable {X:Cx} {nl:Nat} {G:List Str} {x:Str} {e:Expr} {f:Fe} {q1 q2 q3 q4:Pos}
theorem tm (T:Tb X nl G) (n:Nat) (hN:X.N[n]?=some x) (he:Z.cX X e f) (hst:bq e=true:=by rfl) (hline:(q2.endLine==q3.line)=true:=by rfl) (hs:swapsWith (.Call (.Attribute (.Name x q1) "append" q2) [e] [] q3) none q4.line X.env=pure false:=by rfl) (hbase:attributeBase (.Name x q1) "append" X.env (eval (.Name x q1) X.env)=eval (.Name x q1) X.env:=by rfl):Z.kJ X (.Expr (.Call (.Attribute (.Name x q1) "append" q2) [e] [] q3) q4) (kg n f):=⟨have he:=he.un;fun Fm=>by
  have hm:=T.vis x (List.mem_of_getElem? hN);have sc:starEach [e] X.env=(false,eval e X.env)::starEach [] X.env:=bP hst;refine PS.imp (xp (Ef PySem.F.plainAttrs_list PySem.F.slot_list_append PySem.F.type_list_append qF (jP hN hm.1 hm.2.1 hm.2.2) (iR he mD hst) hbase (by rw [sc];rfl) hline sc rfl) hs) fun D σ H h=>?_
  obtain ⟨ρ,sl,q⟩:=h;unfold kg at q;cases ef:f ρ with
  | ex c=>rw [ef] at q;exact q.elim
  | no=>rw [ef] at q;exact q.elim
  | ok d =>
    rw [ef] at q;simp only [mL,R.ok_bind] at q;cases er:ρ[n]? with
    | none=>rw [er] at q;exact q.elim
    | some c =>
      rw [er] at q;cases c with
      | non=>exact q.elim
      | exc p=>exact q.elim
      | val d'=>exact q.elim
      | own d' =>
        cases d' with
        | list ds =>
          dsimp only at q;by_cases hz:ds.length < sizeLine
          · rw [if_pos hz] at q;obtain ⟨o,h2,w',rfl,p2⟩:=sl.sl.at er;simp only [jq] at p2;obtain ⟨a',vs,rfl,ha,r⟩:=p2;refine ⟨.ref a',h2,.inl ⟨rfl,_,nQ.of ha⟩,ρ,sl.sl,?_⟩;unfold ai aE;rw [ef];intro us H1 s1 ra;simp only [RA] at ra;obtain ⟨v,r',rfl,p1,rfl⟩:=ra;have ha1:=s1 _ _ ha;refine ⟨a',vs,v,rfl,rfl,ha1,by rw [r.length];exact hz,q _ _ ((sl.mono s1).change er h2 ha1 (.inl ⟨_,rfl⟩) ?_)⟩;simp only [jq];exact ⟨a',_,rfl,bE,bO.kp (gO ha1 (.inl ⟨_,rfl⟩)) _ _ (bO.append (r.mono s1) (bO.cons p1 bO.nil))⟩
          · rw [if_neg hz] at q;exact q.elim
        | _=>exact q.elim⟩
end
noncomputable def kB (g:Fs):Fs:=fun ρ=>mL (g ρ)
theorem Tb.nox {X:Cx} {nl:Nat} {G:List Str} (T:Tb X nl G):Tb X.nox nl G:=⟨T.hu,T.calm,T.nd,T.vis,T.loc,T.gl⟩
section
variable {X:Cx} {nl:Nat} {G:List Str} {st:Stmt} {g:Fs} {pos:Pos}
theorem dA (h:Z.kJ X.nox st g):Z.kJ X st (kB g):=⟨have h:=h.un;fun Fm=>by
  intro pins s σ H D I ⟨ρ,sl,q⟩;refine wpAny_mono (h Fm pins s σ H D (I.wish _) ⟨ρ,sl,?_⟩) (fun _ _ q=>q.unwish) fun _ _ z=>False.elim z
  unfold kB at q;cases e:g ρ with
  | ok o =>
    rw [e] at q;cases o <;> exact q
  | ex c=>rw [e] at q;exact q.elim
  | no=>rw [e] at q;exact q.elim⟩
noncomputable def dU (t:aS->R Bool) (g:Fs):Nat->Fs
  | 0,_=>.no
  | n+1,ρ=>t ρ>>=fun b=>if b=true then g ρ>>=fun o=>(match o with
      | .nx ρ2=>dU t g n ρ2
      | .ct ρ2=>dU t g n ρ2
      | .bk ρ2=>.ok (.nx ρ2)
      | .rt r=>.ok (.rt r)) else .ok (.nx ρ)
noncomputable def v4 (n:Nat) (t:aS->R Bool) (g:Fs):Fs:=dU t g n
theorem oy {c:Expr} {body:List Stmt} {t:aS->R Bool} (n:Nat) (hp:PassesOwn (model X.prog X.w) X.A X.env X.xe) (ht:Z.nI X c t) (hb:Z.l6 X body g):Z.kJ X (.While c body [] pos) (v4 n t g):=⟨have ht:=ht.un;have hb:=hb.un;fun Fm=>by
  refine PS.imp (A9 hp ht (hb Fm)) fun D σ H ⟨ρ,sl,q⟩=>⟨fun m σ' H'=>∃ ρ',iN Fm H' σ' ρ'/\Dz X Fm (dU t g m ρ') D,⟨n,ρ,sl,q⟩,fun m σ1 H1 zq0=>?_⟩
  obtain ⟨ρ1,sl1,q1⟩:=zq0;cases m with
  | zero=>exact q1.elim
  | succ k =>
    have q2:El X Fm (fun ρ=>t ρ>>=fun b=>if b=true then g ρ>>=fun o=>(match o with
      | .nx ρ2=>dU t g k ρ2
      | .ct ρ2=>dU t g k ρ2
      | .bk ρ2=>.ok (.nx ρ2)
      | .rt r=>.ok (.rt r)) else .ok (.nx ρ)) D σ1 H1:=⟨ρ1,sl1,q1⟩
    refine (wE (f:=t) (k:=fun ρ b=>if b=true then g ρ>>=fun o=>(match o with
      | .nx ρ2=>dU t g k ρ2
      | .ct ρ2=>dU t g k ρ2
      | .bk ρ2=>.ok (.nx ρ2)
      | .rt r=>.ok (.rt r)) else .ok (.nx ρ)) q2).post fun b H2 ⟨ρ2,sl2,_,q3⟩=>?_
    cases b with
    | false=>exact q3 σ1 H2 sl2
    | true =>
      have q4:Dz X Fm (g ρ2>>=fun o=>(match o with
      | .nx ρ2=>dU t g k ρ2
      | .ct ρ2=>dU t g k ρ2
      | .bk ρ2=>.ok (.nx ρ2)
      | .rt r=>.ok (.rt r))) D:=q3
      show if true=true then _ else _
      rw [if_pos rfl];refine ⟨fun σ' H'=>∃ ρ',iN Fm H' σ' ρ'/\Dz X Fm (dU t g k ρ') D,fun σ' H' z=>⟨k,Nat.lt_succ_self k,z⟩,ρ2,sl2,?_⟩;cases eg:g ρ2 with
      | ex c=>rw [eg] at q4;exact q4
      | no=>rw [eg] at q4;exact q4
      | ok o =>
        rw [eg] at q4;cases o with
        | nx ρ4=>exact fun σ' H' s'=>⟨ρ4,s',q4⟩
        | ct ρ4=>exact fun σ' H' s'=>⟨ρ4,s',q4⟩
        | bk ρ4=>exact q4
        | rt r=>exact q4⟩
end
abbrev BR:List Value:=[.type "ValueError",.type "Exception",.type "BaseException",.type "object"]
abbrev BS:String := "ValueError.__new__"
section
variable {K:PySem.W.Frag} {h:Heap} {C:Addr}
inductive Go (h:Heap) (C:Addr) (bm:List Value):Prop
  | mk (N nm q bs hdct sn sub ab col dd k0 k1 k2 k3 k5 mN) (e:h.get? C=some (excClassObj nm q C N bs bm hdct sn sub ab col dd k0 k1 k2 k3 k5 BS)) (n:h.Ns N mN) (i:mN "__init__" = none) (t:OwnTail h BR bm)
noncomputable def vp (K:PySem.W.Frag) (C:Addr):List Value:=match K.lookup C with
  | some ⟨_,_,.cls cd,_⟩=>cd.mro.drop 1
  | _=>[]
theorem Cr {p:Prop} [Decidable p] {f:p->Bool} (hn:¬ p) (h:dite p f (fun _=>false)=true):False:=by
  rw [dif_neg hn] at h;cases h
inductive JO (mro:List Value) (sl:List (Option Value)) (f:Addr->List Value->Option Value->Option Value->Option Value->Option Value->String->Option Value->Bool):Prop
  | mk (C':Addr) (bm:List Value) (k0 k1 k2 k3:Option Value) (n:String) (k5:Option Value) (e1:mro=.ref C'::bm) (e2:sl=[k0,k1,k2,k3,some (.builtin n),k5]) (q:f C' bm k0 k1 k2 k3 n k5=true)
theorem E1 {sl:List (Option Value)} {C':Addr} {bm:List Value} {f:Addr->List Value->Option Value->Option Value->Option Value->Option Value->String->Option Value->Bool} (q:PySem.W.excIn.match_1 (fun _ _=>Bool) (.ref C'::bm) sl f (fun _ _=>false)=true):JO (.ref C'::bm) sl f:=by
  rcases sl with _ | ⟨k0,_ | ⟨k1,_ | ⟨k2,_ | ⟨k3,_ | ⟨k4,sl⟩⟩⟩⟩⟩
  · exact Bool.noConfusion q
  · exact Bool.noConfusion q
  · exact Bool.noConfusion q
  · exact Bool.noConfusion q
  · exact Bool.noConfusion q
  cases k4 with
  | none=>exact Bool.noConfusion q
  | some k4 =>
    cases k4 with
    | builtin n =>
      rcases sl with _ | ⟨k5,_ | ⟨k6,sl⟩⟩
      · exact Bool.noConfusion q
      · exact ⟨C',bm,k0,k1,k2,k3,n,k5,rfl,rfl,q⟩
      · exact Bool.noConfusion q
    | _=>exact Bool.noConfusion q
theorem CD {mro:List Value} {sl:List (Option Value)} {f:Addr->List Value->Option Value->Option Value->Option Value->Option Value->String->Option Value->Bool} (q:PySem.W.excIn.match_1 (fun _ _=>Bool) mro sl f (fun _ _=>false)=true):JO mro sl f:=by
  cases mro with
  | nil=>exact Bool.noConfusion q
  | cons c0 bm =>
    cases c0 with
    | ref C'=>exact E1 q
    | _=>exact Bool.noConfusion q
inductive J5 (ob:Obj) (g:Option Addr->ClassData->Array (Option Value)->Bool):Prop
  | mk (dd:Option Addr) (cd:ClassData) (sl:Array (Option Value)) (e:ob=⟨.type "type",dd,.cls cd,sl⟩) (q:g dd cd sl=true)
theorem CF {ob:Obj} {g:Option Addr->ClassData->Array (Option Value)->Bool} (q:PySem.W.excIn.match_6 (fun _=>Bool) (some ob) g (fun _=>false)=true):J5 ob g:=by
  obtain ⟨cls,dd,data,sl⟩:=ob;cases cls with
  | type ty =>
    by_cases e:ty = "type"
    · subst e;cases data with
      | cls cd=>exact ⟨dd,cd,sl,rfl,q⟩
      | _=>exact Bool.noConfusion q
    · exfalso;unfold PySem.W.excIn.match_6 at q;exact Cr e q
  | _=>exact Bool.noConfusion q
theorem z9 (X:K.In h) (q:PySem.W.excIn K C BR BS=true):Go h C (vp K C):=by
  unfold PySem.W.excIn at q;unfold vp;cases hk:K.lookup C with
  | none=>rw [hk] at q;cases q
  | some ob =>
    rw [hk] at q;obtain ⟨dd,cd,sl,rfl,q⟩:=CF q;obtain ⟨nm,bs,mro,ns,qn,hd,sn,sub,ab,col,del⟩:=cd;obtain ⟨sl⟩:=sl;obtain ⟨C',bm,k0,k1,k2,k3,n,k5,hm,hs,q⟩:=CD q;simp only [Bool.not_eq_true',beq_iff_eq,Bool.and_eq_true] at q;obtain ⟨⟨⟨⟨⟨e1,e2⟩,hdel⟩,ht⟩,hok⟩,hni⟩:=q;dsimp only at hm hs hdel;subst e1;subst e2;subst hdel;subst hm;subst hs;exact ⟨ns,nm,qn,bs,hd,sn,sub,ab,col,dd,k0,k1,k2,k3,k5,_,X _ _ hk,.of_isNs (PySem.W.isNs_of_in X hok),PySem.W.nsMap_none_of_in X hok hni,PySem.W.tail_of_in X ht⟩
end
noncomputable def ib (x:Str) (f:Fe):Fs:=fun ρ=>mL (f ρ)>>=fun _=>.ex x
section
variable {X:Cx} {nl:Nat} {G:List Str} {x:Str} {e:Expr} {f:Fe} {np cp pos:Pos} {C:Addr}
theorem dZ (T:Tb X nl G) (j:Nat) (hG:G[j]?=some x) (hm:X.mg x=some (.ref C)) (hq:PySem.W.excIn X.K C BR BS=true) (he:Z.cX X.nox e f) (hst:bq e=true:=by rfl):Z.kJ X (.Raise (some (.Call (.Name x np) [e] [] cp)) none pos) (ib x f):=⟨have he:=he.un;fun Fm=>by
  intro pins s σ H D I ⟨ρ,sl,q⟩;have hg:=T.gl x (List.mem_of_getElem? hG);have sc:starEach [e] X.env=(false,eval e X.env)::starEach [] X.env:=bP hst;obtain ⟨N,nm,qn,bs,hdct,sn,sub,ab,col,dd,k0,k1,k2,k3,k5,mN,hC,hN,hni,TL⟩:=z9 (I.ok.mod.kin) hq;unfold ib at q;cases ef:f ρ with
  | ex c=>rw [ef] at q;exact q.elim
  | no=>rw [ef] at q;exact q.elim
  | ok d =>
    rw [ef] at q;simp only [mL,R.ok_bind] at q;refine wpAny_Raise_call_subT (C:=C) (nm:=nm) (q:=qn) (N:=N) (bs:=bs) (bm:=vp X.K C) (hdct:=hdct) (sn:=sn) (sub:=sub) (ab:=ab) (col:=col) (dd:=dd) (k0:=k0) (k1:=k1) (k2:=k2) (k3:=k3) (k5:=k5) PySem.F.excBase_ValueError (mN:=mN) (TL.hasType rfl) (I.ok.hd T.calm) (by rw [sc];rfl) hni (nZ I hg.1 hm ⟨rfl,?_⟩ hg.2.1);rw [sc];refine Calls.evalArgs_plain (wpAny_mono ?_ (fun vs s2 z=>⟨rfl,z⟩) fun _ _ y=>y);have ha:PA X.nox [e] (Bf X.nox Rp (ai f aE)):=iR he mD hst;have hw:=ha cp pins s σ H (fun vs H'=>vs.length=1/\aI H H') (I.wish _) ⟨ρ,sl.sl,by
      unfold ai aE;rw [ef];intro vs H' s' ra;simp only [RA] at ra;obtain ⟨v,r,rfl,_,rfl⟩:=ra;exact ⟨rfl,s'⟩⟩
    rw [show (X.nox.env)=X.env from rfl,sc] at hw;refine wpAny_mono hw (fun us s2 zq0=>?_) fun _ _ z=>False.elim z
    obtain ⟨vs,H2,I2,r2,hl,s12⟩:=zq0;have I2:=I2.unwish;have hlen:us.length=1:=by rw [<- r2.length];exact hl
    exact ⟨by rw [hlen];decide,I2.bk _ _ hC,hN.keeps I2.bk,TL.keeps I2.bk,fun h' p mk=>q.2 C hm pins σ H2 s2 (sl.fm.trans s12) I2 h' p us mk⟩⟩
end
noncomputable def Xh (X:Cx) (p:Addr) (ob:Obj):Cx:={ X with A:=X.A.mark (some (.ref p)),calm:=false,xe:=fun _ _=>False,pn:=(p,ob)::X.pn }
structure J9 (X:Cx) (nl:Nat) (G:List Str):Prop where
  hu:X.A.units+64 < cLine
  nd:X.N.Nodup
  vis:∀ x∈X.N,EG X.env.scope x/\(x==("__debug__" : Str))=false/\(x==("__classdict__" : Str))=false
  loc:∀ x∈X.N.take nl,DZ X.env.scope x/\(X.fn x=true\/X.env.scope.names.lookup x=some .local)
  gl:∀ x∈G,Gl X x/\(x==("__debug__" : Str))=false/\x≠("__name__" : Str)
theorem Tb.h {X:Cx} {nl:Nat} {G:List Str} (T:Tb X nl G) (p:Addr) (ob:Obj):J9 (Xh X p ob) nl G:=⟨T.hu,T.nd,T.vis,T.loc,T.gl⟩
noncomputable def JN (X:Cx) (C:Addr) (hs:List ExceptHandler) (F:Addr->aS->R PyData):Prop :=
  ∀ (pins:List (Addr×Obj)) (σ:St) (Hc H:Hp) (sc s:Shared) (p:Addr) (Fm:Hp) (ρ:aS) (D:sR),aX X pins σ Hc sc->EA X.prog X.w X.stack Hc sc C H (.ref p) s->iN Fm H σ ρ ->
    (match F p ρ with
      | .ok d=>∀ v H',aI Fm H'->Rp H' d v->D.rt v H'
      | _=>False)->wpAny (model X.prog X.w) X.A (handleBy (.ref p) X.env hs) (SP X pins D) X.xe s
noncomputable abbrev Hs:=List (Str×(Addr->aS->R PyData))
inductive xI (X:Cx) (src:List ExceptHandler):Hs->Prop
  | nil:xI X src []
  | cons {c:Str} {C:Addr} {h:Addr->aS->R PyData} {hs:Hs} (hm:X.mg c=some (.ref C)) (he:JN X C src h) (r:xI X src hs):xI X src ((c,h)::hs)
theorem xI.at {X:Cx} {src:List ExceptHandler} {c:Str} {h:Addr->aS->R PyData}:∀ {hs:Hs},xI X src hs->hs.lookup c=some h->∃ C,X.mg c=some (.ref C)/\JN X C src h
  | _,.nil,e=>by cases e
  | _,.cons (c:=c') hm he r,e=>by
    rw [List.lookup_cons] at e;split at e
    · rename_i q;have:c=c':=by simpa using q
      subst this;cases e;exact ⟨_,hm,he⟩
    · exact xI.at r e
section
variable {X:Cx} {a b c:Expr} {fa fb fc:Fe} {pos p2:Pos} {nl:Nat} {G:List Str} {x:Str} {p:Pos}
theorem xE:∀ {xs:List V} {vs:List Value},vs.length=xs.length->(∀ (j:Nat) (v:Value),vs[j]?=some v->∃ x,xs[j]?=some x/\cg x v)->bR xs vs
  | [],[],_,_=>.nil
  | [],_::_,e,_=>by cases e
  | _::_,[],e,_=>by cases e
  | x::xs,v::vs,e,h=>by
    obtain ⟨y,e1,r⟩:=h 0 v rfl;cases e1;exact .cons r (xE (by simpa using e) fun j u hu=>by
      obtain ⟨z,e2,r2⟩:=h (j+1) u (by simpa using hu);exact ⟨z,by simpa using e2,r2⟩)
end
noncomputable def oJ (p:Int->Int->Bool) (n:Int) (ns:List Int):Int:=ns.foldl (fun a b=>if p b a=true then b else a) n
theorem kU {p:Int->Int->Bool} {le:Int->Int->Prop} (h1:∀ a b,p b a=true->le b a) (h2:∀ a b,¬ p b a=true->le a b) (tr:∀ a b c,le a b->le b c->le a c) (rf:∀ a,le a a):∀ (ns:List Int) (n:Int),oJ p n ns∈n::ns/\∀ a∈n::ns,le (oJ p n ns) a
  | [],n=>⟨by simp [oJ],fun a ha=>by simp at ha;subst ha;exact rf _⟩
  | m::ns,n=>by
    obtain ⟨g1,g2⟩:=kU h1 h2 tr rf ns (if p m n=true then m else n);have e:oJ p n (m::ns)=oJ p (if p m n=true then m else n) ns:=rfl;rw [e];refine ⟨?_,fun a ha=>?_⟩
    · rcases List.mem_cons.mp g1 with z | z
      · rw [z];split <;> simp
      · exact List.mem_cons_of_mem _ (List.mem_cons_of_mem _ z)
    · have k:=g2 _ List.mem_cons_self;rcases List.mem_cons.mp ha with rfl | ha
      · refine tr _ _ _ k ?_;split
        · rename_i z;exact h1 _ _ z
        · exact rf _
      · rcases List.mem_cons.mp ha with rfl | ha
        · refine tr _ _ _ k ?_;split
          · exact rf _
          · rename_i z;exact h2 _ _ z
        · exact g2 a (List.mem_cons_of_mem _ ha)
noncomputable def AI (n:Int) (ns:List Int):Int:=oJ (fun b a=>decide (b < a)) n ns
noncomputable def vL (n:Int) (ns:List Int):Int:=oJ (fun b a=>decide (a < b)) n ns
theorem yP (n:Int) (ns:List Int):AI n ns∈n::ns/\∀ a∈n::ns,AI n ns<=a :=
  kU (le:=(·<=·)) (fun a b h=>by simp at h;omega) (fun a b h=>by simp at h;omega) (fun a b c=>Int.le_trans) Int.le_refl ns n
theorem qE (n:Int) (ns:List Int):vL n ns∈n::ns/\∀ a∈n::ns,a<=vL n ns :=
  kU (le:=fun a b=>b<=a) (fun a b h=>by simp at h;omega) (fun a b h=>by simp at h;omega) (fun a b c h1 h2=>Int.le_trans h2 h1) Int.le_refl ns n
section
variable {X:Cx} {a b c:Expr} {fa fb fc:Fe} {pos p2:Pos} {nl:Nat} {G:List Str} {x:Str} {p:Pos}
theorem kY:∀ {its:List Value} {ns:List Int},IntsAre its ns->∃ ys:List (Int×Tok),its=ys.map (fun p=>Value.int p.1 p.2)/\ys.map (·.1)=ns
  | _,_,.nil=>⟨[],rfl,rfl⟩
  | _,_,.cons n t h=>by
    obtain ⟨ys,e1,e2⟩:=kY h;exact ⟨(n,t)::ys,by rw [List.map_cons,e1],by rw [List.map_cons,e2]⟩
theorem Gh (hc:X.calm=true):dX X (.builtin "min") (fun xs H Q=>∃ p n ns,xs=[.ref p]/\nQ X.K H p ((n::ns).map V.int)/\Q (.int (AI n ns)) H):=by
  intro pins s σ H xs us Q I r h;obtain ⟨p,n,ns,rfl,hq,q⟩:=h;obtain ⟨u,rfl,rx⟩:=gu r;cases rx;obtain ⟨its,rv,pl,hz⟩:=I.list hq;obtain ⟨ys,e1,e2⟩:=kY (fP rv);have hl:s.heap.IsList p (intItems ys.toArray):=by
    have:intItems ys.toArray=its.toArray:=by rw [e1];simp [intItems]
    rw [this];exact pl.isList
  have hlen:ys.length=ns.length+1:=by have:=congrArg List.length e2;simpa using this
  refine min_intList (I.ok.hd hc) hl (by simp;omega) fun v h' tk hv hk=>?_
  obtain ⟨t,rfl⟩:=intItems_at hv;obtain ⟨g1,g2⟩:=argBest_lt (numAt ys.toArray) (ys.toArray.size-1);generalize argBest (fun i j=>decide (numAt ys.toArray i < numAt ys.toArray j)) (ys.toArray.size-1)=w at g1 g2 hv ⊢;have el:ys.toArray.toList.map (·.1)=n::ns:=e2;have m1:numAt ys.toArray w∈n::ns:=by
    rw [numAt_eq,el];refine getD_mem ?_;simp at g1 ⊢;omega
  obtain ⟨k1,k2⟩:=yP n ns;have e3:numAt ys.toArray w=AI n ns:=by
    refine Int.le_antisymm ?_ (k2 _ m1);obtain ⟨j,hj,e⟩:=mem_getD k1;have:=g2 j (by simp at hj ⊢;omega);rw [numAt_eq ys.toArray j,el,e] at this;exact this
  rw [e3];exact ⟨.int _,H,I.kept hk,⟨_,rfl⟩,q⟩
theorem x9 (hc:X.calm=true):dX X (.builtin "max") (fun xs H Q=>∃ p n ns,xs=[.ref p]/\nQ X.K H p ((n::ns).map V.int)/\Q (.int (vL n ns)) H):=by
  intro pins s σ H xs us Q I r h;obtain ⟨p,n,ns,rfl,hq,q⟩:=h;obtain ⟨u,rfl,rx⟩:=gu r;cases rx;obtain ⟨its,rv,pl,hz⟩:=I.list hq;obtain ⟨ys,e1,e2⟩:=kY (fP rv);have hl:s.heap.IsList p (intItems ys.toArray):=by
    have:intItems ys.toArray=its.toArray:=by rw [e1];simp [intItems]
    rw [this];exact pl.isList
  have hlen:ys.length=ns.length+1:=by have:=congrArg List.length e2;simpa using this
  refine max_intList (I.ok.hd hc) hl (by simp;omega) fun v h' tk hv hk=>?_
  obtain ⟨t,rfl⟩:=intItems_at hv;obtain ⟨g1,g2⟩:=argBest_gt (numAt ys.toArray) (ys.toArray.size-1);generalize argBest (fun i j=>decide (numAt ys.toArray i > numAt ys.toArray j)) (ys.toArray.size-1)=w at g1 g2 hv ⊢;have el:ys.toArray.toList.map (·.1)=n::ns:=e2;have m1:numAt ys.toArray w∈n::ns:=by
    rw [numAt_eq,el];refine getD_mem ?_;simp at g1 ⊢;omega
  obtain ⟨k1,k2⟩:=qE n ns;have e3:numAt ys.toArray w=vL n ns:=by
    refine Int.le_antisymm (k2 _ m1) ?_;obtain ⟨j,hj,e⟩:=mem_getD k1;have:=g2 j (by simp at hj ⊢;omega);rw [numAt_eq ys.toArray j,el,e] at this;exact this
  rw [e3];exact ⟨.int _,H,I.kept hk,⟨_,rfl⟩,q⟩
noncomputable def JR:PyData->R PyData
  | .list ds=>match ce ds with
    | some (n::ns)=>.ok (.int (AI n ns))
    | _=>.no
  | _=>.no
noncomputable def wJ:PyData->R PyData
  | .list ds=>match ce ds with
    | some (n::ns)=>.ok (.int (vL n ns))
    | _=>.no
  | _=>.no
theorem xU (T:Tb X nl G) (j:Nat) (hG:G[j]?=some ("max" : Str)) (hm:X.mg "max" = none) (ha:Z.dM X a fa) (he:bq a=true:=by rfl):Z.cX X (.Call (.Name "max" p) [a] [] pos) (e1 wJ fa):=⟨have ha:=ha.un;by
  refine Cg T j hG hm fM PyProof.Rows.boot_max (x9 T.calm) (fun H x d Q hx q=>?_) ha he;cases d with
  | list ds =>
    simp only [wJ] at q;split at q
    · rename_i n ns ei;rw [eh ei] at hx;obtain ⟨a',vs,rfl,h,r⟩:=eS (K:=X.K) hx;rw [iA r] at h;exact ⟨a',n,ns,rfl,h,q _ H (aI.refl _) dD⟩
    · exact q.elim
  | _=>exact q.elim⟩
end
section
variable {prog:Program} {w:World} {A:Around} {E:Value->Shared->Prop} {s:Shared}
theorem pZ {R:List Value->Shared->Prop} {r:Addr} {a b c:Int} {t u v:Tok} {n:Nat} (hh:A.handled=none) (hr:IsRange s.heap r a b c t u v) (hsmall:Builtin.Range.small a b c=true)
    (hn:Builtin.Range.rangeSize a b c=n) (hlen:n<=2 ^ 24)
    (h:∀ (h':Heap) (tk:Nat) (acc:Array Value),(∀ b o,s.heap.get? b=some o->h'.get? b=some o)->ItemsOf (fun i v=>∃ t,v=.int (a+i*c) t) acc n->R acc.toList { s with heap:=h',toks:=tk }) :
    wpAny (model prog w) A (collect (.ref r)) R E s:=by
  unfold collect;refine wpAny_bind (wpAny_runValue (codeAny_builtin F.entry_proto_collect ?_));rw [Around.under_plainId PySem.F.plain_proto_collect _];show wpAny _ A.in1 (newList []>>=fun l=>again (.builtin "list.__iadd__" ⟨[l,.ref r],[]⟩)) _ _ s;refine wpAny_bind (wpAny_newObj_type ?_);refine wpAny_pure ⟨plainId_quiet PySem.F.plain_list_iadd _,codeAny_builtin F.entry_list_iadd ?_⟩;rw [Around.under_plainId PySem.F.plain_list_iadd _];have hS₁:(s.heap.push { cls:=.type "list",data:=.seq ([]:List Value).toArray }).get? s.heap.objs.size=some { cls:=.type "list",data:=.seq #[] }:=Heap.get?_push_size _ rfl;show wpAny _ A.in1 (Builtin.List.listExtendWith (.ref s.heap.objs.size) (.ref r) (.ref s.heap.objs.size)) _ _ _;have key:=wpAny_extend_range (prog:=prog) (w:=w) (A:=A) (s:={ s with heap:=s.heap.push { cls:=.type "list",data:=.seq ([]:List Value).toArray } })
    (R:=fun (q:Result) (s':Shared)=>∃ (h':Heap) (tk:Nat) (acc':Array Value) (c':Nat),q=.ok (.ret (.ref s.heap.objs.size))/\s'={ s with heap:=h',toks:=tk } /\
      (∀ b o,s.heap.get? b=some o->h'.get? b=some o)/\h'.get? s.heap.objs.size=some { cls:=.type "list",dict:=none,data:=.seq acc' c',slots:=#[] }/\ItemsOf (fun i v=>∃ t,v=.int (a+i*c) t) acc' n)
    hh (Heap.get?_push_of_some _ hr) hsmall hn hlen s.heap.objs.size (.ref s.heap.objs.size) 0 hS₁
    (fun h' tk acc' c' hk hS' hacc=>⟨h',tk,acc',c',rfl,rfl,fun b o e=>hk b o (Nat.ne_of_lt (Heap.lt_size e)) (Heap.get?_push_of_some _ e),hS',hacc⟩)
  refine wpAny_mono key (fun fin s' x=>?_) fun e s' x=>?_
  · cases fin with
    | done f =>
      obtain ⟨h',tk,acc',c',e,rfl,hk,hS',hacc⟩:=x;cases e;show wpAny _ A (load s.heap.objs.size>>=_) _ _ _;refine wpAny_bind (wpAny_load hS' ?_);exact wpAny_pure (h h' tk acc' hk hacc)
    | again c' =>
      obtain ⟨hq,hc⟩:=x;refine ⟨hq,codeAny_mono hc fun q s' zq0=>?_⟩;obtain ⟨h',tk,acc',c',e,e2,hk,hS',hacc⟩:=zq0;subst e e2;show wpAny _ A (load s.heap.objs.size>>=_) _ _ _;refine wpAny_bind (wpAny_load hS' ?_);exact wpAny_pure (h h' tk acc' hk hacc)
  · obtain ⟨h',tk,acc',c',e,_⟩:=x;cases e
theorem nU (r:Addr) (a b c:Int) (t u v:Tok) (n:Nat) (hsmall:Builtin.Range.small a b c=true) (hn:Builtin.Range.rangeSize a b c=n) (hlen:n<=2 ^ 24):Meets (Builtin.«tuple.__new__» ⟨[.type "tuple",.ref r],[]⟩)
      (fun A R s=>A.handled=none/\IsRange s.heap r a b c t u v/\∀ (h':Heap) (tk:Nat) (acc:Array Value),(∀ b o,s.heap.get? b=some o->h'.get? b=some o)->ItemsOf (fun i v=>∃ t,v=.int (a+i*c) t) acc n ->
        R (.ok (.ret (.ref h'.objs.size))) { s with heap:=h'.push { cls:=.type "tuple",data:=.seq acc },toks:=tk }) :=
  .of_wp fun prog w A R s h=>by
    obtain ⟨hh,hr,h⟩:=h;have hsub:=sub_tuple_self;have hinit:=init_tuple_lookup;have hmh:=madeHere_tuple;have hT:s.TypeIs (.ref r) "range" := ⟨_,hr,rfl⟩
    have hh1:A.in1.handled=none:=hh
    wp_walk using wpAny_typeOf hT,pZ hh1 hr hsmall hn hlen
    intro h' tk acc hk hacc;show wpAny _ _ (Builtin.Tuple.tupleExact acc.toList.toArray>>=fun v=>ret v) _ _ _;unfold Builtin.Tuple.tupleExact;refine wpAny_bind (wpAny_newObj_type ?_ (show acc.toList.toArray.size<=sizeLine by simp only [Array.toArray_toList];rw [hacc.1,sizeLine_eq];omega));refine wpAny_pure ⟨_,rfl,?_⟩;have e:acc.toList.toArray=acc:=by simp
    rw [e];exact h h' tk acc hk hacc
theorem mx {Q:Value->Shared->Prop} {r:Addr} {a b c:Int} {t u v:Tok} {n:Nat} (hh:A.handled=none) (hr:IsRange s.heap r a b c t u v) (hsmall:Builtin.Range.small a b c=true) (hn:Builtin.Range.rangeSize a b c=n) (hlen:n<=2 ^ 24)
    (h:∀ (h':Heap) (tk:Nat) (acc:Array Value),(∀ b o,s.heap.get? b=some o->h'.get? b=some o)->ItemsOf (fun i v=>∃ t,v=.int (a+i*c) t) acc n->Q (.ref h'.objs.size) { s with heap:=h'.push { cls:=.type "tuple",data:=.seq acc },toks:=tk }) :
    wpAny (model prog w) A (call (.type "tuple") [.ref r]) Q E s:=by
  refine callType_new F.called_tuple (by decide) (F.typeCall_tuple_1 _) (F.newCall_tuple_1 _) (fun obj=>F.args_object_init_2 obj _) F.entry_tuple_new
    (nU r a b c t u v n hsmall hn hlen) ⟨hh,hr,fun h' tk acc hk hacc=>⟨⟨_,Heap.get?_push_size _ rfl,rfl⟩,h h' tk acc hk hacc⟩⟩
end
section
variable {X:Cx} {a b c:Expr} {fa fb fc:Fe} {pos p2:Pos} {nl:Nat} {G:List Str} {x:Str} {p:Pos} {fs:aS->R (List PyData)} {pos2:Pos}
noncomputable def jQ (lo:Int) (n:Nat):List V:=(List.range n).map fun (k:Nat)=>.int (lo+k)
theorem zd {H:Hp} (lo:Int) (n:Nat):bO H (ca lo n) (jQ lo n):=by
  have key:∀ l:List Nat,bO H (l.map fun (k:Nat)=>PyData.int (lo+k)) (l.map fun (k:Nat)=>V.int (lo+k)):=by
    intro l;induction l with
    | nil=>exact bO.nil
    | cons k l ih=>exact bO.cons dD ih
  exact key _
theorem wq {lo:Int} {n:Nat} {acc:Array Value} (h:ItemsOf (fun i v=>∃ t,v=.int (lo+(i:Int)*1) t) acc n):bR (jQ lo n) acc.toList:=by
  refine xE (by rw [Array.length_toList,h.1];simp [jQ]) fun j v hj=>?_
  obtain ⟨t,e⟩:=h.2 j v (by rw [<- Array.getElem?_toList];exact hj);have hjn:j < n:=by
    have:=(List.getElem?_eq_some_iff.mp hj).1;rw [Array.length_toList,h.1] at this;exact this
  refine ⟨.int (lo+j),?_,t,by rw [e];simp⟩;unfold jQ;rw [List.getElem?_map,List.getElem?_range hjn];rfl
theorem vY (lo:Int) (n:Nat):(jQ lo n).length=n:=by simp [jQ]
noncomputable def JH (mk:List V->HO) (ta:TA):TE:=fun σ H Q=>ta σ H fun vs H1=>∃ j:Int,vs=[.int j]/\j<=16777216/\-(2 ^ 62)<=j/\∀ l,H1 l=none->Q (.ref l) (cQ H1 l (mk (jQ 0 j.toNat)))
theorem A2 {ta:TA} (T:Tb X nl G) (i:Nat) (hGi:G[i]?=some ("tuple" : Str)) (hmi:X.mg "tuple" = none) (j:Nat) (hG:G[j]?=some ("range" : Str)) (hm:X.mg "range" = none) (ha:PA X [a] ta) (hs:bq a=true:=by rfl) :
    PE X (.Call (.Name "tuple" p) [.Call (.Name "range" p2) [a] [] pos2] [] pos) (JH .tup ta):=by
  intro pins s σ H Q I h;have g1:=T.gl _ (List.mem_of_getElem? hGi);have g2:=T.gl _ (List.mem_of_getElem? hG);have sc:starEach [Expr.Call (.Name "range" p2) [a] [] pos2] X.env=(false,eval (Expr.Call (.Name "range" p2) [a] [] pos2) X.env)::starEach [] X.env:=bP (by rfl);refine Call_ (h9 I g1.1 hmi PyProof.Rows.boot_tuple (PyProof.Rows.callWith_type1 ?_ sc rfl));rw [sc];refine Calls.spliced_cons ?_;refine Call_ (h9 I g2.1 hm boot_range (PyProof.Rows.callWith_type1 (du (ha pos2 pins s σ H _ I h) fun us s1 zq0=>?_) (bP hs) rfl));obtain ⟨vs,H1,I1,r1,q1⟩:=zq0;obtain ⟨n,e,h1,h2,q⟩:=q1;subst e;obtain ⟨u,rfl,t,rfl⟩:=gu r1;refine call_range_1 (Calls.spliced_nil ?_);have hsz:Builtin.Range.rangeSize 0 n 1=n.toNat:=by rw [rangeSize_one];split <;> omega
  refine mx (n:=n.toNat) (I1.ok.hd T.calm) (IsRange.new ..) (small_one (by omega) (by omega) (by omega) (by omega)) hsz (by omega) fun h' tk acc kp hacc=>?_
  have kp':∀ b o,s1.heap.get? b=some o->h'.get? b=some o:=fun b o e=>kp b o (Heap.get?_push_of_some _ e)
  have hg:s1.heap.get? h'.objs.size=none:=by
    cases e:s1.heap.get? h'.objs.size with
    | none=>rfl
    | some o=>exact absurd (Heap.lt_size (kp' _ _ e)) (Nat.lt_irrefl _)
  have hn:=o6 I1 hg;refine ⟨.ref h'.objs.size,_,o5 (s:=s1) (t':=tk) (o:=.tup (jQ 0 n.toNat)) I1 (fun b o e=>Heap.get?_push_of_some _ (kp' b o e)) hg hn ⟨by rw [vY,sizeLine_eq];omega,acc.toList,wq hacc,_,Heap.get?_push_size _ rfl,rfl,⟨_,by simp;rfl⟩,rfl⟩,rfl,q _ hn⟩
noncomputable def En (mk:List PyData->PyData):List PyData->R PyData
  | [.int j]=>if j<=16777216/\-(2 ^ 62)<=j then .ok (mk (ca 0 j.toNat)) else .no
  | _=>.no
noncomputable def tW (fs:aS->R (List PyData)):Fe:=fun ρ=>fs ρ>>=En .tuple
noncomputable def GR (fs:aS->R (List PyData)):Fe:=fun ρ=>fs ρ>>=En .list
theorem qd (T:Tb X nl G) (i:Nat) (hGi:G[i]?=some ("tuple" : Str)) (hmi:X.mg "tuple" = none) (j:Nat) (hG:G[j]?=some ("range" : Str)) (hm:X.mg "range" = none) (ha:Z.uZ X [a] fs) (hs:bq a=true:=by rfl):Z.cX X (.Call (.Name "tuple" p) [.Call (.Name "range" p2) [a] [] pos2] [] pos) (tW fs):=⟨have ha:=ha.un;PE.imp (A2 T i hGi hmi j hG hm ha hs) fun σ H Q h=>(mo (I:=Rp) (f:=fs) (k:=fun _=>En .tuple) (ff (X:=X) fM Q) h).post fun vs H1 ⟨_,ds,_,_,p1,q1⟩=>by
    unfold En at q1;split at q1
    · rename_i n;split at q1
      · rename_i hz;simp only [RA] at p1;obtain ⟨v,r',rfl,p,rfl⟩:=p1;have ev:v=.int n:=by simpa only [Rp] using p
        subst ev;exact ⟨n,rfl,hz.1,hz.2,fun l hl=>q1 _ _ (cz hl _) (dJ hl (zd 0 n.toNat))⟩
      · exact q1.elim
    · exact q1.elim⟩
end
section
variable {X:Cx} {a b:Expr} {fa fb:Fe} {pos p2:Pos}
noncomputable def JS:PyData->PyData->R PyData
  | .list xs,.int k=>if -(2 ^ 63)<=k/\k < 2 ^ 63/\xs.length*k.toNat<=sizeLine then .ok (.list (List.replicate k.toNat xs).flatten) else .no
  | _,_=>.no
noncomputable def GI:PyData->Option Int->Option Int->R PyData
  | .list xs,lo,hi=>.ok (.list (nR xs lo hi))
  | _,_,_=>.no
noncomputable def Jh (fa:Fe) (lo hi:Fo):Fe:=fun ρ=>fa ρ>>=fun d=>lo ρ>>=fun l=>hi ρ>>=fun u=>GI d l u
end
theorem bO.set {H:Hp} {d:PyData} {v:V} (p:Rp H d v):∀ {ds:List PyData} {vs:List V} (j:Nat),bO H ds vs->bO H (ds.set j d) (vs.set j v)
  | [],vs,j,r=>by rw [r.nil_inv];exact bO.nil
  | d'::ds,vs,j,r=>by
    obtain ⟨v',r',rfl,p',t⟩:=r.cons_inv;cases j with
    | zero=>exact bO.cons p t
    | succ j=>exact bO.cons p' (bO.set p j t)
noncomputable def iB (i:Nat) (fk fv:Fe):Fs:=fun ρ=>fv ρ>>=fun v=>mL (fk ρ)>>=fun k=>match ρ[i]?,k with
  | some (.own (.list ds)),.int n=>match wW ds.length n with
    | some j=>.ok (.nx (ρ.set i (.own (.list (ds.set j v)))))
    | none=>.no
  | _,_=>.no
section
variable {X:Cx} {nl:Nat} {G:List Str} {x:Str} {f:Fe} {e:Expr}
theorem j6 {k v:Expr} {fk fv:Fe} {q1 q2 q3:Pos} (T:Tb X nl G) (n:Nat) (hN:X.N[n]?=some x) (hk:Z.cX X.nox k fk) (hv:Z.cX X v fv) (hs:swapsWithSole [.Subscript (.Name x q1) k q2] v q3.line X.env=pure false:=by rfl) (hw:swappedStores [.Subscript (.Name x q1) k q2] v X.env=pure none:=by rfl) (h1:(assignEach [.Subscript (.Name x q1) k q2] X.env).map (·.2)=[assign (.Subscript (.Name x q1) k q2) X.env]:=by rfl) (ha:∀ v,assign (.Subscript (.Name x q1) k q2) X.env v=(do
      let ov <- holding [v] (eval (.Name x q1) X.env)
      let iv <- holding [v,ov] (eval k X.env)
      standAt q2
      holding [v,ov,iv] (setItem ov iv v)
      release [v,ov,iv] []):=by intro _;rfl):Z.kJ X (.Assign [.Subscript (.Name x q1) k q2] v q3) (iB n fk fv):=⟨have hk:=hk.un;have hv:=hv.un;fun Fm=>by
  have hm:=T.vis x (List.mem_of_getElem? hN);have hkX:PE X k (fun σ H Q=>jt X.nox h7 fk σ H Q):=fun pins s σ H Q I h=>wpAny_mono (hk pins s σ H Q (I.wish _) h) (fun v s' ⟨y,H',I',r,q⟩=>⟨y,H',I'.unwish,r,q⟩) fun _ _ z=>False.elim z
  refine PS.imp (FH hv (FD (jP hN hm.1 hm.2.1 hm.2.2) hkX Br ha) hs hw h1) fun D σ H h=>?_
  refine (mr (P:=h7) (f:=fv) (k:=fun ρ v=>mL (fk ρ)>>=fun k=>match ρ[n]?,k with
    | some (.own (.list ds)),.int m=>match wW ds.length m with
      | some j=>.ok (.nx (ρ.set n (.own (.list (ds.set j v)))))
      | none=>.no
    | _,_=>.no) h).post fun vv H1 ⟨ρ1,dv,sl1,_,p1,q1⟩=>?_
  cases ef:fk ρ1 with
  | ex c=>rw [ef] at q1;exact q1.elim
  | no=>rw [ef] at q1;exact q1.elim
  | ok kd =>
    rw [ef] at q1;simp only [mL,R.ok_bind] at q1;cases er:ρ1[n]? with
    | none=>rw [er] at q1;exact q1.elim
    | some c =>
      rw [er] at q1;cases c with
      | non=>exact q1.elim
      | exc p=>exact q1.elim
      | val d'=>exact q1.elim
      | own d' =>
        cases d' with
        | list ds =>
          cases kd with
          | int m =>
            dsimp only at q1;cases ei:wW ds.length m with
            | none=>rw [ei] at q1;exact q1.elim
            | some j =>
              rw [ei] at q1;obtain ⟨o,h2,w',rfl,p2⟩:=sl1.sl.at er;simp only [jq] at p2;obtain ⟨a',vs,rfl,ha',r⟩:=p2;refine ⟨.ref a',h2,ρ1,sl1.sl,?_⟩;rw [ef];intro yv H3 s3 p3;have ev:yv=.int m:=by simpa only [Rp] using p3
              have ha3:=s3 _ _ ha';have r3:=r.mono s3;refine ⟨a',vs,m,j,rfl,ev,ha3,by rw [r.length];exact ei,q1 _ _ ((sl1.mono s3).change er h2 ha3 (.inl ⟨_,rfl⟩) ?_)⟩;simp only [jq];exact ⟨a',_,rfl,bE,bO.kp (gO ha3 (.inl ⟨_,rfl⟩)) _ _ (bO.set (p1.mono s3) j r3)⟩
          | _=>exact q1.elim
        | _=>exact q1.elim⟩
noncomputable def Ix (g:Int->Int->Int):PyData->PyData->R PyData
  | .int i,.int j=>.ok (.int (g i j))
  | _,_=>.no
noncomputable def zf (i:Nat) (g:Int->Int->Int) (f:Fe):Fs:=fun ρ=>ag i ρ>>=fun x=>f ρ>>=fun y=>Ix g x y>>=fun z=>.ok (.nx (ρ.set i (.val z)))
theorem Cy {op:Operator} {g:Int->Int->Int} {pos pos':Pos} (ho:IT X op (JU g)) (T:Tb X nl G) (i:Nat) (hN:(X.N.take nl)[i]?=some x) (he:cX X e f):kJ X (.AugAssign (.Name x pos') op e pos) (zf i g f):=fun Fm=>by
  obtain ⟨n1,n2,n3⟩:=T.nm hN;refine PS.imp (FI T.nd n1 n2 he ho n3) fun D σ H h=>?_
  obtain ⟨ρ,sl,q⟩:=h;unfold zf at q;cases ev:ag i ρ with
  | ex c=>exact absurd ev (by unfold ag;split <;> simp)
  | no=>rw [ev] at q;exact q.elim
  | ok dx =>
    rw [ev] at q;simp only [R.ok_bind] at q;have hc:ρ[i]?=some (.val dx):=by
      unfold ag at ev;split at ev
      · rename_i d hd;cases ev;exact hd
      · cases ev
    obtain ⟨o,h2,w',rfl,p2⟩:=sl.sl.at hc;refine ⟨w',h2,?_⟩;refine (mr (P:=h7) (f:=f) (k:=fun ρ y=>Ix g dx y>>=fun z=>.ok (.nx (ρ.set i (.val z)))) ⟨ρ,sl,q⟩).post fun v H1 zq0=>?_
    obtain ⟨ρ1,d,sl1,s1,p,q1⟩:=zq0;cases dx with
    | int a =>
      cases d with
      | int b =>
        have e1:w'=.int a:=by simpa only [Rp] using p2
        have e2:v=.int b:=by simpa only [Rp] using p
        subst e1;subst e2;exact ⟨a,b,rfl,rfl,q1 _ H1 (sl1.set i (fun e z=>by cases z) ⟨.int (g a b),rfl,dD⟩)⟩
      | _=>exact q1.elim
    | _=>exact q1.elim
theorem xQ {pos pos':Pos} (T:Tb X nl G) (i:Nat) (hN:(X.N.take nl)[i]?=some x) (he:Z.cX X e f):Z.kJ X (.AugAssign (.Name x pos') .Add e pos) (zf i (fun a b=>a+b) f):=⟨have he:=he.un;Cy E4 T i hN he⟩
end
noncomputable def Ec:bn->bn
  | .own _=>.non
  | c=>c
noncomputable def iV (i:Nat) (d:PyData) (ρ:aS):aS:=(ρ.map Ec).set i (.val d)
noncomputable def lB:PyData->R PyData
  | .none=>.ok .none
  | .bool b=>.ok (.bool b)
  | .int k=>.ok (.int k)
  | .str x=>.ok (.str x)
  | .tuple ds=>match ce ds with
    | some _=>.ok (.tuple ds)
    | none=>.no
  | _=>.no
theorem zT {d:PyData} {c:Str}:lB d≠.ex c:=by
  cases d with
  | tuple ds =>
    show (match ce ds with | some _=>R.ok (PyData.tuple ds) | none=>.no)≠_;cases ce ds <;> exact fun z=>nomatch z
  | _=>exact fun z=>nomatch z
noncomputable def kD (i:Nat) (f:Fe):Fe:=fun ρ=>match ρ[i]? with
  | some (.own d)=>mL (f (iV i d ρ))>>=lB
  | _=>f ρ
section
variable {X:Cx} {pins:List (Addr×Obj)} {σ:St} {H H1:Hp} {s s':Shared} {a:Addr} {u:HO} {o:Obj}
theorem zg (h:H a=some u) (S:aI (cQ H a (.frz o u)) H1):aI H (cQ H1 a u):=fun b x e=>by
  by_cases hb:b=a
  · subst hb;rw [bE];rw [h] at e;exact e
  · rw [aB hb];exact S b x (by rw [aB hb];exact e)
theorem Av (I:aX X pins σ H s) (h:H a=some u) (hm:(∃ xs,u=.lst xs)\/∃ ks,u=.dK ks) (S:aI (cQ H a (.frz o u)) H1) (J:aX X pins σ H1 s'):aX X pins σ (cQ H1 a u) s':=by
  have ha:H1 a=some (.frz o u):=S a _ bE;have nt:∀ b xs,H1 b=some (.tup xs)->b≠a:=fun b xs q z=>by subst z;rw [ha] at q;cases q
  have nb:∀ b ps,H1 b=some (.tbl ps)->b≠a:=fun b ps q z=>by subst z;rw [ha] at q;cases q
  have nw:∀ b y,H1 b=some (.own y)->b≠a:=fun b y q z=>by subst z;rw [ha] at q;cases q
  have nn:∀ b,H1 b=none->b≠a:=fun b q z=>by subst z;rw [ha] at q;cases q
  have st:∀ b x,cm X.prog X.w H1 s'.heap b x->cm X.prog X.w (cQ H1 a u) s'.heap b x:=fun b x q =>
    q.stay (fun c v _ e=>e) (fun c e=>by rw [aB (nw _ _ e)];exact e) fun c xs e=>by rw [aB (nt _ _ e)];exact e
  refine ⟨J.ok,J.os,J.bare,⟨J.base.keep,J.base.slot,fun b ob' e n hx=>?_,J.base.there,fun b xs e=>?_,fun b ob' v e=>?_,fun b ps e=>?_⟩,J.loc,J.cell,?_,fun x c e=>?_,fun p hp=>?_,fun b x e=>?_,J.len⟩
  · have:=J.base.free b ob' e n hx;rw [aB (nn _ this)];exact this
  · have:=J.base.tups b xs e;rw [aB (nt _ _ this)];exact this
  · have q:=I.base.frzs b ob' v e;have hb:b≠a:=fun z=>by subst z;rw [h] at q;rcases hm with ⟨_,rfl⟩ | ⟨_,rfl⟩ <;> cases q
    rw [aB hb];exact J.base.frzs b ob' v e
  · obtain ⟨m,q⟩:=J.base.tbls b ps e;exact ⟨m,by rw [aB (nb _ _ q)];exact q⟩
  · rw [aB (nn _ J.free)];exact J.free
  · rw [aB (nn _ (J.freeC x c e))];exact J.freeC x c e
  · obtain ⟨p1,p2,p3⟩:=J.pin p hp;exact ⟨p1,by rw [aB (nn _ p2)];exact p2,p3⟩
  · by_cases hb:b=a
    · subst hb;rw [bE] at e;cases e;obtain ⟨_,q⟩:=(show cm X.prog X.w H1 s'.heap b (.frz o u) from J.hok b _ ha)
      exact st b u q
    · rw [aB hb] at e;exact st b x (J.hok b x e)
theorem w5 {ρ:aS} {i:Nat} {d:PyData} {v:V} (sl:Sl H σ ρ) (k:Kp H H1) (hv:σ[i]?=some (some v)) (hr:Rp H1 d v):Sl H1 σ (iV i d ρ):=by
  unfold iV;refine ⟨by rw [List.length_set,List.length_map];exact sl.1,fun j c w' e1 e2=>?_⟩;rw [List.getElem?_set] at e1;by_cases hij:i=j
  · subst hij;rw [if_pos rfl] at e1;split at e1
    · cases e1;rw [hv] at e2;cases e2;exact ⟨_,rfl,hr⟩
    · cases e1
  · rw [if_neg hij,List.getElem?_map] at e1;cases ec:ρ[j]? with
    | none=>rw [ec] at e1;cases e1
    | some c' =>
      rw [ec] at e1;have e1':Ec c'=c:=Option.some.inj e1;subst e1';have q:=sl.2 j c' w' ec e2;cases c' with
      | exc p=>exact q
      | non=>exact True.intro
      | val d'=>obtain ⟨v,z1,z2⟩:=q;exact ⟨v,z1,Rp.kp k _ _ z2⟩
      | own d'=>exact True.intro
end
theorem qK {H H':Hp}:∀ {ns:List Int} {vs:List V},bO H (ns.map .int) vs->bO H' (ns.map .int) vs
  | [],vs,r=>by rw [r.nil_inv];exact bO.nil
  | n::ns,vs,r=>by
    rw [List.map_cons] at r;obtain ⟨v,r',rfl,p,t⟩:=r.cons_inv;exact bO.cons (by simp only [Rp] at p ⊢;exact p) (qK t)
theorem Cb {H H':Hp} {d d':PyData} {v:V} (kt:∀ b xs,H b=some (.tup xs)->H' b=some (.tup xs)) (h:lB d=.ok d') (r:Rp H d v):Rp H' d' v:=by
  cases d with
  | tuple ds =>
    cases ei:ce ds with
    | none =>
      rw [show lB (.tuple ds)=(match ce ds with | some _=>R.ok (PyData.tuple ds) | none=>.no) from rfl,ei] at h;cases h
    | some ns =>
      rw [show lB (.tuple ds)=(match ce ds with | some _=>R.ok (PyData.tuple ds) | none=>.no) from rfl,ei] at h;cases h;simp only [Rp] at r ⊢;obtain ⟨a,vs,e,ha,q⟩:=r;rw [eh ei] at q ⊢;exact ⟨a,vs,e,kt a vs ha,qK q⟩
  | none=>cases h;simp only [Rp] at r ⊢;exact r
  | bool b=>cases h;simp only [Rp] at r ⊢;exact r
  | int i=>cases h;simp only [Rp] at r ⊢;exact r
  | str x=>cases h;simp only [Rp] at r ⊢;exact r
  | list ds=>cases h
  | dict kvs=>cases h
theorem cX.lent {X:Cx} {e:Expr} {f:Fe} (i:Nat) (h:cX X e f):cX X e (kD i f):=by
  intro pins s σ H Q I q;obtain ⟨ρ,sl,q⟩:=q;by_cases ho:∃ d,ρ[i]?=some (.own d)
  · obtain ⟨d,ho⟩:=ho;have el:kD i f ρ=(mL (f (iV i d ρ))>>=lB):=by unfold kD;rw [ho]
    rw [el] at q;have go:∀ (a:Addr) (u:HO) (hu:H a=some u) (hm:(∃ xs,u=.lst xs)\/∃ ks,u=.dK ks) (o:Obj) (J:aX X pins σ (cQ H a (.frz o u)) s) (sl1:Sl (cQ H a (.frz o u)) σ (iV i d ρ)),wpAny (model X.prog X.w) X.A (eval e X.env) (EP X pins σ Q) X.xe s:=fun a u hu hm o J sl1=>by
      cases ef:f (iV i d ρ) with
      | no=>rw [ef] at q;exact q.elim
      | ex c=>rw [ef] at q;exact q.elim
      | ok d1 =>
        rw [ef] at q;change uO X h7 (lB d1) H Q at q;cases ea:lB d1 with
        | no=>rw [ea] at q;exact q.elim
        | ex c=>exact (zT ea).elim
        | ok d2 =>
          rw [ea] at q;refine du (h pins s σ (cQ H a (.frz o u)) (fun v H'=>aI (cQ H a (.frz o u)) H'/\Rp H' d1 v) J ⟨iV i d ρ,sl1,by rw [ef];exact fun v H' hs p=>⟨hs,p⟩⟩) fun w s' ⟨v,H',J',r,hs,p⟩=>?_
          exact ⟨v,cQ H' a u,Av I hu hm hs J',r,q v _ (zg hu hs) (Cb (fun b xs e=>by
            have hb:b≠a:=fun z=>by subst z;rw [hs b _ bE] at e;cases e
            rw [aB hb];exact e) ea p)⟩
    obtain ⟨w',h2,v,rfl,qo⟩:=sl.at ho;cases d <;> simp only [jq] at qo
    · rename_i ds;obtain ⟨a,vs,rfl,ha,r⟩:=qo;obtain ⟨o,J⟩:=gN I ha (.inl ⟨_,rfl⟩);have kp:=gO (o':=.frz o (.lst vs)) ha (.inl ⟨_,rfl⟩);have hr:Rp (cQ H a (.frz o (.lst vs))) (.list ds) (.ref a):=by
        simp only [Rp];exact ⟨a,o,vs,rfl,bE,bO.kp kp _ _ r⟩
      exact go a _ ha (.inl ⟨_,rfl⟩) o J (w5 sl kp h2 hr)
    · rename_i ds;obtain ⟨a,vs,rfl,ha,r⟩:=qo;obtain ⟨o,J⟩:=gN I ha (.inr ⟨_,rfl⟩);have kp:=gO (o':=.frz o (.dK vs)) ha (.inr ⟨_,rfl⟩);have hr:Rp (cQ H a (.frz o (.dK vs))) (.dict ds) (.ref a):=by
        simp only [Rp];exact .inl ⟨a,o,vs,rfl,bE,eQ.kp kp _ _ r⟩
      exact go a _ ha (.inr ⟨_,rfl⟩) o J (w5 sl kp h2 hr)
  · have el:kD i f ρ=f ρ:=by
      unfold kD;split
      · rename_i d e1;exact (ho ⟨d,e1⟩).elim
      · rfl
    rw [el] at q;exact h pins s σ H Q I ⟨ρ,sl,q⟩
theorem ve {X:Cx} {e:Expr} {f:Fe} (i:Nat) (h:Z.cX X e f):Z.cX X e (kD i f) :=
  ⟨D2.cX.lent i h.un⟩
noncomputable def At (C:Addr) (names:List Str) (ds:List PyData):PyData:=.dict ((.none,.int C)::(names.zip ds).map fun p=>(.str p.1,p.2))
noncomputable def vA (f:Str):List (PyData×PyData)->R PyData
  | []=>.no
  | (.str x,d)::r=>if x=f then .ok d else vA f r
  | _::_=>.no
noncomputable def kX (C:Addr) (f:Str):PyData->R PyData
  | .dict ((.none,.int c)::kvs)=>if c=(C:Int) then vA f kvs else .no
  | _=>.no
noncomputable def tV (C:Addr) (names:List Str) (fs:aS->R (List PyData)):Fe:=fun ρ=>fs ρ>>=fun ds=>.ok (At C names ds)
noncomputable def IK (C:Addr) (names:List Str):Sp:=fun vs H Q _=>∃ x dx ws,vs=.ref x::ws/\H x=some (.ins C dx [])/\ws.length=names.length/\∀ H',H' x=some (.ins C dx (names.zip ws))->(∀ b,b≠x->H' b=H b)->Q .non H'
section
variable {X:Cx} {pins:List (Addr×Obj)} {σ:St} {H:Hp} {s:Shared} {a C dx:Addr} {fs:List (Str×V)}
theorem uc (I:aX X pins σ H s) (h:H a=some (.ins C dx fs)):∃ o,aX X pins σ (cQ H a (.frz o (.ins C dx fs))) s:=by
  have ob:=I.hok a _ h;obtain ⟨o,hg⟩:=sj ob;have nt:∀ b xs,H b=some (.tup xs)->b≠a:=fun b xs q z=>by subst z;rw [h] at q;cases q
  have nf:∀ b o' u',H b=some (.frz o' u')->b≠a:=fun b o' u' q z=>by subst z;rw [h] at q;cases q
  have nb:∀ b ps,H b=some (.tbl ps)->b≠a:=fun b ps q z=>by subst z;rw [h] at q;cases q
  have nw:∀ b y,H b=some (.own y)->b≠a:=fun b y q z=>by subst z;rw [h] at q;cases q
  have nn:∀ b,H b=none->b≠a:=fun b q z=>by subst z;rw [h] at q;cases q
  have st:∀ b x,cm X.prog X.w H s.heap b x->cm X.prog X.w (cQ H a (.frz o (.ins C dx fs))) s.heap b x:=fun b x q =>
    q.stay (fun c v _ e=>e) (fun c e=>by rw [aB (nw _ _ e)];exact e) fun c xs e=>by rw [aB (nt _ _ e)];exact e
  refine ⟨o,⟨I.ok,I.os,I.bare,⟨I.base.keep,I.base.slot,fun b ob' e n hx=>?_,I.base.there,fun b xs e=>?_,fun b ob' v e=>?_,fun b ps e=>?_⟩,I.loc,I.cell,?_,fun x c e=>?_,fun p hp=>?_,fun b x e=>?_,I.len⟩⟩
  · have:=I.base.free b ob' e n hx;rw [aB (nn _ this)];exact this
  · have:=I.base.tups b xs e;rw [aB (nt _ _ this)];exact this
  · have:=I.base.frzs b ob' v e;rw [aB (nf _ _ _ this)];exact this
  · obtain ⟨m,q⟩:=I.base.tbls b ps e;exact ⟨m,by rw [aB (nb _ _ q)];exact q⟩
  · rw [aB (nn _ I.free)];exact I.free
  · rw [aB (nn _ (I.freeC x c e))];exact I.freeC x c e
  · obtain ⟨p1,p2,p3⟩:=I.pin p hp;exact ⟨p1,by rw [aB (nn _ p2)];exact p2,p3⟩
  · by_cases hb:b=a
    · subst hb;rw [bE] at e;cases e;exact ⟨hg,st b _ ob⟩
    · rw [aB hb] at e;exact st b x (I.hok b x e)
theorem CS {o':HO} (h:H a=some (.ins C dx fs)):Kp H (cQ H a o'):=by
  refine ⟨fun b xs e=>?_,fun b o v e=>?_⟩
  · rw [aB];exact e;rintro rfl;rw [h] at e;cases e
  · rw [aB];exact e;rintro rfl;rw [h] at e;cases e
end
theorem xu {H:Hp}:∀ {names:List Str} {ds:List PyData} {vs:List V},bO H ds vs->uM H ((names.zip ds).map fun p=>(.str p.1,p.2)) (names.zip vs)
  | [],ds,vs,_=>by simp only [List.zip_nil_left,List.map_nil,uM]
  | n::names,[],vs,r=>by
    simp only [bO] at r;subst r;simp only [List.zip_nil_right,List.map_nil,uM]
  | n::names,d::ds,vs,r=>by
    simp only [bO] at r;obtain ⟨v,t,rfl,p,q⟩:=r;simp only [List.zip_cons_cons,List.map_cons,uM,D0];exact ⟨n,v,_,rfl,⟨rfl,p⟩,xu q⟩
theorem wQ {H:Hp} {f:Str} {d:PyData}:∀ {kvs:List (PyData×PyData)} {fs:List (Str×V)},uM H kvs fs->vA f kvs=.ok d->∃ v,fs.lookup f=some v/\Rp H d v
  | [],fs,_,e=>by cases e
  | (k,d')::kvs,fs,r,e=>by
    simp only [uM,D0] at r;obtain ⟨x,v,t,rfl,⟨rfl,p⟩,q⟩:=r;simp only [vA] at e;by_cases h:x=f
    · rw [if_pos h] at e;cases e;subst h;exact ⟨v,by rw [List.lookup_cons_self],p⟩
    · rw [if_neg h] at e;obtain ⟨w,w1,w2⟩:=wQ q e;refine ⟨w,?_,w2⟩;rw [List.lookup_cons];have:(f==x)=false:=by
        cases z:f==x with
        | false=>rfl
        | true=>exact (h (eq_of_beq z).symm).elim
      rw [this];exact w1
theorem wO {f:Str} {c:Str}:∀ {kvs:List (PyData×PyData)},vA f kvs≠.ex c
  | [],e=>by cases e
  | (k,d)::kvs,e=>by
    cases k <;> simp only [vA] at e <;> try cases e
    split at e
    · cases e
    · exact wO e
section
variable {X:Cx} {e:Expr} {es:List Expr} {fe:Fe} {pos p:Pos} {nl:Nat} {G:List Str} {x:Str}
theorem tz {k:Nat} {C f:Addr} {fd:FuncData} {ps names:List Str} {fs:aS->R (List PyData)} (M:Mk X.K C f) (F:bg X.prog X.w X.K X.mg X.base (cP X.prog X.w X.mg) k f fd ps (IK C names)) (hr:fu (k+1) X.A) (T:Tb X nl G) (j:Nat) (hG:G[j]?=some x) (hm:X.mg x=some (.ref C)) (hb:bN X.K fd ps []) (ha:Z.uZ X (e::es) fs) (hfs:∀ ρ ds,fs ρ=.ok ds->ds.length=names.length) (he:(e::es).all bq=true:=by rfl):Z.cX X (.Call (.Name x p) (e::es) [] pos) (tV C names fs):=⟨have ha:=ha.un;by
  rw [List.all_cons,Bool.and_eq_true] at he;have g:=T.gl x (List.mem_of_getElem? hG);intro pins s σ H Q I ⟨ρ,sl,q⟩;unfold tV at q;have base:=Dl (p:=p) (pos:=pos) M F hr g.1 hm hb .nil xk ha g.2.1 (bP he.1) (pN he.2);cases e1:fs ρ with
  | ex c=>rw [e1] at q;exact du (base pins s σ H (fun _ _=>False) I ⟨ρ,sl,by rw [e1];exact q⟩) fun u s' ⟨v,H',I',r,z⟩=>z.elim
  | no=>rw [e1] at q;exact q.elim
  | ok ds =>
    rw [e1] at q;have q':uO X h7 (.ok (At C names ds)) H Q:=q;refine du (base pins s σ H (fun v H'=>∃ a dx vs,v=.ref a/\H a=none/\H' a=some (.ins C dx (names.zip vs))/\bO H' ds vs/\aI H H') I ⟨ρ,sl,?_⟩) fun u s' ⟨v,H',I',r,a,dx,vs,ev,hn,ha',rp,sm⟩=>?_
    · rw [e1];intro vs H1 s1 r1 y dy hy hdy hne;rw [List.append_nil];have r2:=pF.mp r1;refine ⟨y,dy,vs,rfl,bE,by rw [r2.length];exact hfs ρ ds e1,fun H' h1 h2=>⟨rfl,y,dy,vs,rfl,s1.free hy,h1,?_,?_⟩⟩
      · have sm:aI H1 H':=fun b o eb=>by
          rw [h2 b (bi eb hy),aB (bi eb hy),aB (bi eb hdy)];exact eb
        exact r2.mono sm
      · intro b o eb;have eb1:=s1 b o eb;rw [h2 b (bi eb1 hy),aB (bi eb1 hy),aB (bi eb1 hdy)];exact eb1
    · subst ev;obtain ⟨o,J⟩:=uc I' ha';have kp:=CS (o':=.frz o (.ins C dx (names.zip vs))) ha';refine ⟨.ref a,_,J,r,q' _ _ (fun b x eb=>by rw [aB (bi eb hn)];exact sm b x eb) ?_⟩;show Rp _ (At C names ds) _;unfold At;simp only [Rp];refine .inr ⟨a,o,C,dx,_,rfl,bE,?_⟩;simp only [zB];exact ⟨True.intro,uM.kp kp _ _ (xu rp)⟩⟩
noncomputable def HR (K:PySem.W.Frag) (ta:TE) (f:Str):TE:=fun σ H Q=>ta σ H fun x H1=>∃ a o C dx fs v,x=.ref a/\H1 a=some (.frz o (.ins C dx fs))/\zy K C/\eP K C f/\fs.lookup f=some v/\Q v H1
theorem Dj {f:Str} {ta:TE} (he:PE X e ta) (hb:attributeBase e f X.env (eval e X.env)=eval e X.env):PE X (.Attribute e f pos) (HR X.K ta f):=by
  intro pins s σ H Q I h;refine Cc hb (du (he pins s σ H _ I h) fun u s1 zq0=>?_);obtain ⟨x,H1,I1,rx,a,o,C,dx,fs,v,ex,ea,c,n,l,q⟩:=zq0;subst ex;obtain rfl:u=Value.ref a:=rx;obtain ⟨_,d,z,ne,ob,mA,nn,r,qq⟩:=(show cm X.prog X.w H1 s1.heap a (.frz o (.ins C dx fs)) from I1.hok a _ ea)
  obtain ⟨u',hu,ru⟩:=ma.some_of (v:=v) (o:=mA f) (by rw [<- l];exact r f);exact CI I1.kIn ⟨ob,nn,ne⟩ (c.get f) c.hd n hu (yu ru) ⟨v,H1,I1.tok _,ru,q⟩
theorem lw {C:Addr} {f:Str} (cl:zy X.K C) (na:eP X.K C f) (he:Z.cX X e fe) (hb:attributeBase e f X.env (eval e X.env)=eval e X.env:=by rfl):Z.cX X (.Attribute e f pos) (e1 (kX C f) fe):=⟨have he:=he.un;by
  refine PE.imp (Dj he hb) fun σ H Q h=>?_
  refine (eY (P:=h7) (f:=fe) (k:=fun _ x=>kX C f x) (ff (X:=X) fM Q) h).post fun v H1 zq0=>?_
  obtain ⟨_,d1,_,_,p1,q1⟩:=zq0;unfold kX at q1;split at q1
  · rename_i c kvs;split at q1
    · rename_i hc;cases ef:vA f kvs with
      | no=>rw [ef] at q1;exact q1.elim
      | ex c=>exact (wO ef).elim
      | ok d =>
        rw [ef] at q1;have p2:Rp H1 (.dict ((.none,.int c)::kvs)) v:=p1;simp only [Rp] at p2;rcases p2 with ⟨a,o,ks,rfl,ha,r⟩ | ⟨a,o,C',dx,fs,rfl,ha,r⟩
        · simp only [eQ,BP] at r;obtain ⟨κ,_,_,_,⟨r1,_⟩,_⟩:=r;cases κ <;> cases r1
        · simp only [zB] at r;obtain ⟨r1,r2⟩:=r;have hC:c=(C':Int):=by injection r1 with _ r3;injection r3
          have hCC:C'=C:=by
            have:(C':Int)=(C:Int):=hC.symm.trans hc;exact Int.ofNat.inj this
          subst hCC;obtain ⟨w,w1,w2⟩:=wQ r2 ef;exact ⟨a,o,C',dx,fs,w,rfl,ha,cl,na,w1,q1 w H1 (aI.refl _) w2⟩
    · exact q1.elim
  · exact q1.elim⟩
end
theorem Hr {a b c:Str} {x y z:V} (h1:¬ a=b) (h2:¬ a=c) (h3:¬ b=c):iy c z (iy b y (iy a x []))=[(a,x),(b,y),(c,z)]:=by
  simp only [iy,if_neg h1,if_neg h2,if_neg h3]
noncomputable abbrev fK:=List PyData->R PyData
structure fL (P:Program) (w:World) (K:PySem.W.Frag) (mg:Str->Option Value) (base:Heap) (k:Nat) (x:Str) (ps:List Str) (F:fK) (f:Addr) (fd:FuncData):Prop where
  ok:bg P w K mg base (cP P w mg) k f fd ps (dt F ps.length)
  m:mg x=some (.ref f)
  kp:PySem.W.keepIn K (.ref f)=true
  b:bN K fd ps []
theorem ar {X:Cx} {k:Nat} {f:Addr} {fd:FuncData} {ps:List Str} {F:fK} {x:Str} {p pos:Pos} {e:Expr} {es:List Expr} {fs:aS->R (List PyData)} {nl:Nat} {G:List Str} (C:fL X.prog X.w X.K X.mg X.base k x ps F f fd) (hr:fu k X.A) (T:Tb X nl G) (j:Nat) (hG:G[j]?=some x) (ha:Z.uZ X (e::es) fs) (hlen:(e::es).length=ps.length) (hfs:∀ ρ ds,fs ρ=.ok ds->ds.length=ps.length) (he:(e::es).all bq=true:=by rfl):Z.cX X (.Call (.Name x p) (e::es) [] pos) (aA F fs):=⟨have ha:=ha.un;CB C.ok hr T j hG C.m C.kp C.b ha hlen hfs he⟩
structure cA (K:PySem.W.Frag) (x:Str) (st:Stmt) (f:Addr) (fd:FuncData):Prop where
  ns:PySem.W.nsIn K mainGlobals x=some (some (.ref f))
  fn:gc K x x st f fd
theorem ba {K:PySem.W.Frag} {x:Str} {st:Stmt} {f:Addr} {oc:Value} {od an:Option Addr} {osl:Array (Option Value)} {kV doc pm cdv ct:Value} (a:PySem.W.nsIn K mainGlobals x=some (some (.ref f))) (l:K.lookup f=some ⟨oc,od,.func (PySem.W.fnOf x x (eI st) (di st) (ak st) .none kV doc pm an cdv ct),osl⟩) (c:PySem.W.codeIn K cdv x=true) (k:PySem.W.keepIn K (.ref f)=true) :
    cA K x st f (PySem.W.fnOf x x (eI st) (di st) (ak st) .none kV doc pm an cdv ct):=⟨a,vB l c k⟩
noncomputable def IJ (i:Nat) (g:Fs):Fs:=fun ρ=>match ρ[i]? with
  | some (.own d)=>g (ρ.set i (.val d))
  | _=>g ρ
theorem B7 {X:Cx} {st:Stmt} {g:Fs} (i:Nat) (h:Z.kJ X st g):Z.kJ X st (IJ i g):=⟨have h:=h.un;fun Fm=>by
  intro pins s σ H D I ⟨ρ,sl,q⟩;unfold IJ at q;split at q
  · rename_i d e;obtain ⟨H2,v,I2,sl2,_,_⟩:=Ap I sl e;exact h Fm pins s σ H2 D I2 ⟨_,sl2,q⟩
  · exact h Fm pins s σ H D I ⟨ρ,sl,q⟩⟩
end D2
namespace D2
open PySem PySem.Spec PySem.Calls PySem.W PyProof.Rows L2 Builtin Builtin.ObjectAttr Builtin.Getset_descriptor
end D2
namespace D2
open PySem PySem.Spec PyProof.Rows L2 PySem.Builtin PySem.Builtin.Str
end D2
set_option maxHeartbeats 400000
namespace D2
open PySem PySem.Spec PyProof.Rows L2 PySem.Builtin
end D2
namespace D2
open PySem PySem.Spec PyProof.Rows L2
section
variable {X:Cx} {tg o:Expr} {fo:Fe} {apos cpos:Pos}
noncomputable def Ea:PyData->R (List PyData)
  | .dict kvs=>if kF kvs=true then .no else .ok (kvs.map (·.1))
  | _=>.no
noncomputable def Ew:PyData->R (List PyData)
  | .dict kvs=>if kF kvs=true then .no else .ok (kvs.map (·.2))
  | _=>.no
noncomputable def GX (f:Fe):aS->R (List PyData):=fun ρ=>f ρ>>=Ea
noncomputable def G3 (f:Fe):aS->R (List PyData):=fun ρ=>f ρ>>=Ew
end
end D2
namespace HT
open PySem PySem.Spec PyProof.Rows L2
section
open PySem.SeqAt
open PySem.AutoSeq1 (wpAny_loadPart')
open PySem.MeetsSeq PySem.MeetsSeq2 PySem.MeetsSeq3
end
end HT
namespace D2
open PySem PySem.Spec PyProof.Rows L2
section
variable {X:Cx} {tg a b c:Expr} {fa fb fc:Fe} {pos p2:Pos} {nl:Nat} {G:List Str} {x:Str} {p:Pos} {fs:aS->R (List PyData)}
noncomputable def GO (lo:Int) (n:Nat):List PyData:=(List.range n).map fun (k:Nat)=>.int (lo-k)
noncomputable def GQ:List PyData->R (List PyData)
  | [.int i,.int j,.int k]=>if k=-1/\-(2 ^ 62)<=i/\i < 2 ^ 62/\-(2 ^ 62)<=j/\j < 2 ^ 62 then .ok (GO i (i-j).toNat) else .no
  | _=>.no
noncomputable def GV (fs:aS->R (List PyData)):aS->R (List PyData):=fun ρ=>fs ρ>>=GQ
end
noncomputable def ox (H:Hp):List V->List (List Int)->Prop
  | [],rs=>rs=[]
  | v::vs,rs=>∃ a r rs',v=.ref a/\rs=r::rs'/\H a=some (.tup (r.map V.int))/\ox H vs rs'
theorem ox.len {H:Hp}:∀ {vs:List V} {rs:List (List Int)},ox H vs rs->vs.length=rs.length
  | [],rs,h=>by simp only [ox] at h;rw [h];rfl
  | v::vs,rs,h=>by
    simp only [ox] at h;obtain ⟨a,r,rs',_,rfl,_,t⟩:=h;rw [List.length_cons,List.length_cons,t.len]
noncomputable def HH (a b c:Int):Nat:=(if a < b then (b-a-1) / c+1 else 0).toNat
section
variable {X:Cx} {tg a b c:Expr} {fa fb fc:Fe} {pos p2:Pos} {nl:Nat} {G:List Str} {x:Str} {p:Pos} {fs:aS->R (List PyData)}
noncomputable abbrev ED (i j k:Int):Prop:=1<=k/\k < 1000000/\-(2 ^ 40)<=i/\i < 2 ^ 40/\-(2 ^ 40)<=j/\j < 2 ^ 40
noncomputable def HG (lo st:Int) (n:Nat):List PyData:=(List.range n).map fun (k:Nat)=>.int (lo+k*st)
noncomputable def HI:List PyData->R (List PyData)
  | [.int i,.int j,.int k]=>if ED i j k then .ok (HG i k (HH i j k)) else .no
  | _=>.no
noncomputable def G1 (fs:aS->R (List PyData)):aS->R (List PyData):=fun ρ=>fs ρ>>=HI
end
end D2
namespace D2
open PySem PySem.Spec PyProof.Rows
noncomputable def Rs (xs:Array Nat):Prop:=∀ i j:Nat,i < j->j < xs.size->xs.getD i 0 < xs.getD j 0
theorem oG {xs:Array Nat} (hr:Rs xs) (j:Nat):∀ (fuel lo hi:Nat),hi-lo<=fuel->lo<=hi->hi<=xs.size->(∀ i,i < lo->xs.getD i 0 < j)->(∀ i,hi<=i->i < xs.size->j<=xs.getD i 0) ->
    lo<=SetTable.below.go xs j fuel lo hi/\SetTable.below.go xs j fuel lo hi<=hi/\(∀ i,i < SetTable.below.go xs j fuel lo hi->xs.getD i 0 < j)/\(∀ i,SetTable.below.go xs j fuel lo hi<=i->i < xs.size->j<=xs.getD i 0)
  | 0,lo,hi,h,h1,h2,h3,h4=>by
    have:lo=hi:=by omega
    subst this;exact ⟨Nat.le_refl _,Nat.le_refl _,h3,h4⟩
  | fuel+1,lo,hi,h,h1,h2,h3,h4=>by
    unfold SetTable.below.go;by_cases hl:lo < hi
    · rw [if_pos hl];dsimp only;have hm:(lo+hi) / 2 < hi:=by omega
      have hm0:lo<=(lo+hi) / 2:=by omega
      have e:xs.getD ((lo+hi) / 2) j=xs.getD ((lo+hi) / 2) 0:=by
        have:(lo+hi) / 2 < xs.size:=by omega
        simp [Array.getD,this]
      rw [e];by_cases hx:xs.getD ((lo+hi) / 2) 0 < j
      · rw [if_pos hx];obtain ⟨a,b,c,d⟩:=oG hr j fuel ((lo+hi) / 2+1) hi (by omega) (by omega) h2 (fun i hi'=>by
          by_cases z:i=(lo+hi) / 2
          · rw [z];exact hx
          · exact Nat.lt_trans (hr i ((lo+hi) / 2) (by omega) (by omega)) hx) h4
        exact ⟨by omega,b,c,d⟩
      · rw [if_neg hx];obtain ⟨a,b,c,d⟩:=oG hr j fuel lo ((lo+hi) / 2) (by omega) hm0 (by omega) h3 (fun i hi' hs=>by
          by_cases z:i=(lo+hi) / 2
          · rw [z];omega
          · have:=hr ((lo+hi) / 2) i (by omega) hs;omega)
        exact ⟨a,by omega,c,d⟩
    · rw [if_neg hl];have:lo=hi:=by omega
      subst this;exact ⟨Nat.le_refl _,Nat.le_refl _,h3,h4⟩
theorem oH {xs:Array Nat} (hr:Rs xs) (j:Nat):SetTable.below xs j<=xs.size/\(∀ i,i < SetTable.below xs j->xs.getD i 0 < j)/\(∀ i,SetTable.below xs j<=i->i < xs.size->j<=xs.getD i 0):=by
  obtain ⟨_,b,c,d⟩:=oG hr j xs.size 0 xs.size (by omega) (by omega) (Nat.le_refl _) (fun i h=>by omega) (fun i h1 h2=>by omega);exact ⟨b,c,d⟩
theorem zU {xs:Array Nat} (hr:Rs xs) {j p:Nat} (hp:p<=xs.size) (h1:∀ i,i < p->xs.getD i 0 < j) (h2:∀ i,p<=i->i < xs.size->j<=xs.getD i 0):SetTable.below xs j=p:=by
  obtain ⟨a,b,c⟩:=oH hr j;by_cases z:SetTable.below xs j < p
  · have q1:=h1 _ z;have q2:=c _ (Nat.le_refl _) (by omega);omega
  · by_cases z2:p < SetTable.below xs j
    · have q1:=b p z2;have q2:=h2 p (Nat.le_refl _) (by omega);omega
    · omega
theorem getD_some {xs:Array Nat} {i j:Nat} (h:xs[i]?=some j):i < xs.size/\xs.getD i 0=j:=by
  obtain ⟨h1,h2⟩:=Array.getElem?_eq_some_iff.mp h;exact ⟨h1,by simp [Array.getD,h1,h2]⟩
theorem qM {xs:Array Nat} {i:Nat} (h:i < xs.size):xs[i]?=some (xs.getD i 0):=by simp [Array.getD,h]
theorem yy {xs:Array Nat} (hr:Rs xs) {j:Nat} (hn:xs[SetTable.below xs j]?≠some j):Rs (SetTable.insertAt xs (SetTable.below xs j) j):=by
  obtain ⟨a,b,c⟩:=oH hr j;generalize hp:SetTable.below xs j=p at *;have c':∀ i,p<=i->i < xs.size->j < xs.getD i 0:=fun i h1 h2=>by
    have h3:=c i h1 h2;by_cases z:i=p
    · have:=qM h2;rw [z] at this h3 ⊢;rw [this] at hn;have:xs.getD p 0≠j:=fun q=>hn (by rw [q])
      omega
    · have:=hr p i (by omega) h2;have:=c p (Nat.le_refl _) (by omega);omega
  have sz:(SetTable.insertAt xs p j).size=xs.size+1:=by
    unfold SetTable.insertAt;simp;omega
  have at':∀ i,i < xs.size+1->(SetTable.insertAt xs p j).getD i 0=if i < p then xs.getD i 0 else if i=p then j else xs.getD (i-1) 0:=fun i hi=>by
    have e:(SetTable.insertAt xs p j)[i]?=some (if i < p then xs.getD i 0 else if i=p then j else xs.getD (i-1) 0):=by
      unfold SetTable.insertAt;by_cases h1:i < p
      · rw [if_pos h1,Array.getElem?_append_left (by simp;omega),Array.getElem?_push_lt (by simp;omega)];simp [Array.getD,show i < xs.size by omega]
      · by_cases h2:i=p
        · rw [if_neg h1,if_pos h2,Array.getElem?_append_left (by simp;omega)];have:((xs.extract 0 p).push j)[i]?=some j:=by
            have hsz:(xs.extract 0 p).size=i:=by rw [h2];simp;omega
            rw [Array.getElem?_push,if_pos hsz.symm]
          exact this
        · rw [if_neg h1,if_neg h2,Array.getElem?_append_right (by simp;omega)];simp only [Array.size_push,Array.size_extract];rw [Array.getElem?_extract];simp [Array.getD,show i-1 < xs.size by omega];refine ⟨by omega,?_⟩;rw [show p+(i-(min p xs.size+1))=i-1 by omega];simp [show i-1 < xs.size by omega]
    exact (getD_some e).2
  intro i k hik hk;rw [sz] at hk;rw [at' i (by omega),at' k hk];by_cases h1:i < p
  · rw [if_pos h1];by_cases h2:k < p
    · rw [if_pos h2];exact hr i k hik (by omega)
    · rw [if_neg h2];by_cases h3:k=p
      · rw [if_pos h3];exact b i h1
      · rw [if_neg h3];exact Nat.lt_trans (b i h1) (c' (k-1) (by omega) (by omega))
  · rw [if_neg h1,if_neg (show ¬ k < p by omega),if_neg (show ¬ k=p by omega)];by_cases h3:i=p
    · rw [if_pos h3];exact c' (k-1) (by omega) (by omega)
    · rw [if_neg h3];exact hr (i-1) (k-1) (by omega) (by omega)
theorem Be (n:Nat):Rs (Array.range n):=fun i j h1 h2=>by
  simp at h2;simp [Array.getD,show i < n by omega,h2,h1]
theorem ur {l:List Nat} (h:l.Pairwise (· < ·)):Rs l.toArray:=fun i j h1 h2=>by
  simp at h2;have:=List.pairwise_iff_getElem.mp h i j (by omega) h2 h1;simpa [Array.getD,show i < l.length by omega,h2] using this
theorem qL {t:SetTable} {j:Nat} (h:t.slot j=.empty\/t.slot j=.dummy):t.place[SetTable.below t.place j]?≠some j:=by
  intro z;unfold SetTable.slot at h;dsimp only at h;rw [z] at h;simp at h
theorem la (t:SetTable) (hashAt:Nat->Int) (hh:Int):∀ (fuel:Nat) (p:SetTable.Probe) (j:Nat) (dm:Option Nat),(∀ d,p.dummy=some d->t.slot d=.dummy)->SetTable.probe.go t hashAt hh fuel p=some (.empty j dm)->t.slot j=.empty/\∀ d,dm=some d->t.slot d=.dummy
  | 0,p,j,dm,_,e=>by cases e
  | fuel+1,p,j,dm,h,e=>by
    have adv:∀ q:SetTable.Probe,(t.advance q).dummy=q.dummy:=fun q=>by
      unfold SetTable.advance;split <;> rfl
    unfold SetTable.probe.go at e;cases hs:t.slot p.j with
    | empty =>
      rw [hs] at e;dsimp only at e;injection e with e
      injection e with e1 e2
      subst e1 e2;exact ⟨hs,h⟩
    | dummy =>
      rw [hs] at e;dsimp only at e;refine la t hashAt hh fuel _ j dm (fun d hd=>?_) e;rw [adv] at hd;injection hd with hd
      rw [<- hd];exact hs
    | live i =>
      rw [hs] at e;dsimp only at e;split at e
      · cases e
      · exact la t hashAt hh fuel _ j dm (fun d hd=>h d (by rw [adv] at hd;exact hd)) e
theorem yr {t:SetTable} {h:Int} {slot:Nat} {wd:Bool} (e:t.freeSlot h=some (slot,wd)):t.place[SetTable.below t.place slot]?≠some slot:=by
  unfold SetTable.freeSlot at e;split at e
  · rename_i j dm hp;injection e with e
    injection e with e1 e2
    obtain ⟨h1,h2⟩:=la t _ _ _ _ j dm (fun d hd=>by cases hd) hp;cases dm with
    | none =>
      have:j=slot:=e1;rw [<- this];exact qL (.inl h1)
    | some d =>
      have:d=slot:=e1;rw [<- this];exact qL (.inr (h2 d rfl))
  · cases e
noncomputable def xN (b:Bool) (t:SetTable):Prop:=t.led=b/\Rs t.place
theorem ji {b:Bool} {t:SetTable} (h:xN b t) (n:Nat):xN b (t.standIn n):=⟨h.1,Be n⟩
theorem yJ {b:Bool} {t:SetTable} (h:xN b t) (es:Array (Int×Value)) (hh:Int) (x:Value):xN b (layNew t es hh x).2.1:=by
  unfold layNew;split
  · rename_i slot wd e;have hp:xN b (t.put slot).1:=⟨h.1,yy h.2 (yr e)⟩
    dsimp only;unfold SetTable.orStandIn;split
    · exact hp
    · exact ji hp _
  · exact ji h _
theorem Bh {b:Bool} {t:SetTable} (h:xN b t) (es:Array (Int×Value)) (wanted:Nat):xN b (relayAll t es wanted).2.1:=by
  unfold relayAll;split
  · rename_i t' order e;dsimp only;split
    · unfold SetTable.relaid SetTable.laid at e;simp only [Option.bind_eq_bind,Option.bind_eq_some_iff,Option.pure_def,Option.some.injEq] at e;obtain ⟨owner,_,e⟩:=e;injection e with e1 e2
      subst e1;refine ⟨h.1,?_⟩;dsimp only;refine ur ?_;rw [List.pairwise_map,List.pairwise_filterMap];refine List.pairwise_lt_range.imp fun {a c} hac x hx y hy=>?_
      simp only [Option.map_eq_some_iff] at hx hy;obtain ⟨_,_,rfl⟩:=hx;obtain ⟨_,_,rfl⟩:=hy;exact hac
    · exact ji h _
  · exact ji h _
theorem A4 {b p:Bool} {t:SetTable} (h:xN b t):xN b { t with plain:=p }:=h
noncomputable def yF:Value->Int
  | .int n _=>n
  | _=>0
noncomputable def jo (es:Array (Int×Value)):List Int:=es.toList.map fun e=>yF e.2
theorem zn (es:Array (Int×Value)):(jo es).length=es.size:=by unfold jo;simp
theorem wg {xs ys:Array (Int×Value)} (p:xs.toList.Perm ys.toList):(jo xs).Perm (jo ys):=p.map _
section
variable (prog:Program) (w:World)
structure sF (h:Heap) (S:Addr) (led:Bool) (es:Array (Int×Value)) (t:SetTable):Prop where
  obj:∃ u ep,h.get? S=some u/\u.ExactSet/\u.data=.set es ep t
  elm:ElemsOf (intKind prog w) es.toList
  few:es.size < scanBound
  fit:t.fits es.size=true
  tab:xN led t
noncomputable def nP (h:Heap) (S:Addr) (led:Bool) (l:List Int):Prop:=∃ es t,sF prog w h S led es t/\(jo es).Perm l
end
section
variable {prog:Program} {w:World} {A:Around} {E:Value->Shared->Prop} {s:Shared} {S:Addr} {led:Bool}
theorem sf {k:Int} {v:Value} (q:(intKind prog w).is k v=true):yF v=k:=by
  obtain ⟨_,rfl⟩:=Value.isInt_shape (k:=k) (v:=v) q;rfl
theorem sF.mem {h:Heap} {es:Array (Int×Value)} {t:SetTable} (I:sF prog w h S led es t) (k:Int):k∈jo es<->(es.toList.findIdx? fun e=>(intKind prog w).is k e.2).isSome=true:=by
  rw [List.findIdx?_isSome,List.any_eq_true];unfold jo;rw [List.mem_map];constructor
  · rintro ⟨e,me,rfl⟩;obtain ⟨⟨j,isj,_⟩,_⟩:=I.elm e me;exact ⟨e,me,by rw [sf isj];exact isj⟩
  · rintro ⟨e,me,isk⟩;exact ⟨e,me,sf isk⟩
theorem sF.put {es ys:Array (Int×Value)} {t r:SetTable} {Q:Unit->Shared->Prop} (I:sF prog w s.heap S led es t) (hi:ElemsOf (intKind prog w) ys.toList) (hs:ys.size < scanBound) (hf:r.fits ys.size=true) (ht:xN led r)
    (q:∀ g:Heap,Heap.SameBut S s.heap g->sF prog w g S led ys r->Q () { s with heap:=g }):wpAny (model prog w) A (storeSet S ys r) Q E s:=by
  obtain ⟨u,ep,hu,hx,hd⟩:=I.obj;refine wpAny_storeSet_of hu hd (q _ (Heap.SameBut.update _ S _) ⟨⟨{ u with data:=.set ys (ep+1) r },ep+1,?_,hx,rfl⟩,hi,hs,hf,ht⟩) (fits_of_scanBound hs);have z:=Heap.get?_update_self (Obj.putSet ys r) hu (by rw [putSet_of ys r hd];rfl)
  rwa [putSet_of ys r hd] at z
theorem sF.grow {gw:Bool->Sem Unit} (hgw:∀ (b:Bool) (s₁:Shared) (Q':Unit->Shared->Prop),Q' () s₁->wpAny (model prog w) A (gw b) Q' E s₁)
    {es ys:Array (Int×Value)} {t r:SetTable} (I:sF prog w s.heap S led es t) (hi:ElemsOf (intKind prog w) ys.toList) (hs:ys.size < scanBound) (hf:r.fits ys.size=true) (ht:xN led r) {d:Bool} {R:Option Bool->Shared->Prop}
    (q:∀ (g:Heap) (zs:Array (Int×Value)) (v:SetTable),Heap.SameBut S s.heap g->sF prog w g S led zs v->(jo zs).Perm (jo ys)->R (some true) { s with heap:=g }) :
    wpAny (model prog w) A (storeSet S ys r>>=fun _=>if (!d&&r.tooFull)=true then (gw (relayAll r ys (SetTable.grown ys.size)).2.2>>=fun _=>storeSet S (relayAll r ys (SetTable.grown ys.size)).1 (relayAll r ys (SetTable.grown ys.size)).2.1>>=fun _=>pure (some true)) else pure (some true)) R E s:=by
  refine wpAny_bind (I.put hi hs hf ht fun g1 k1 I1=>?_);by_cases full:(!d&&r.tooFull)=true
  · rw [if_pos full];have pm:=relayAll_perm r ys (SetTable.grown ys.size);have ft:=relayAll_fits r ys (SetTable.grown ys.size);have tb:=Bh ht ys (SetTable.grown ys.size);have ln:(relayAll r ys (SetTable.grown ys.size)).1.size=ys.size:=by simpa using pm.length_eq
    exact wpAny_bind (hgw _ _ _ (wpAny_bind (I1.put (hi.perm pm) (by rw [ln];exact hs) ft tb fun g2 k2 I2=>wpAny_pure (q g2 _ _ (k1.trans k2) I2 (wg pm)))))
  · rw [if_neg full];exact wpAny_pure (q g1 ys r k1 I1 (List.Perm.refl _))
theorem vi {l:List Int} {k:Int} {x:Value} {Q:Bool->Shared->Prop} (isx:(intKind prog w).is k x=true) (sc:x.scannable=true) (X:nP prog w s.heap S led l) (room:l.length+1 < scanBound)
    (q:∀ (b:Bool) (g:Heap),Heap.SameBut S s.heap g->nP prog w g S led (step_dedup l k)->Q b { s with heap:=g }):wpAny (model prog w) A (setAddHashed S x ((intKind prog w).hash k)) Q E s:=by
  obtain ⟨es,t,I,pm⟩:=X;have ln:es.size=l.length:=by rw [<- zn];exact pm.length_eq
  obtain ⟨u,ep,hu,hx,hd⟩:=I.obj;have hin:l.any (·==k)=(es.toList.findIdx? fun e=>(intKind prog w).is k e.2).isSome:=by
    rw [Bool.eq_iff_iff,<- I.mem k,pm.mem_iff,List.any_eq_true];exact ⟨fun ⟨y,my,e⟩=>by rw [<- of_decide_eq_true e];exact my,fun m=>⟨k,m,by simp⟩⟩
  unfold setAddHashed setAddHashedIn setAddByScan;apply wpAny_holding;apply wpAny_bind;apply wpAny_setState_of hu hd I.fit;dsimp only;rw [if_pos (byScan_of sc I.few I.elm)];apply wpAny_bind;apply wpAny_bind;apply wpAny_rule;apply wpAny_bind;apply wpAny_setScan_of isx hu hd I.fit I.elm;cases fi:es.toList.findIdx? fun e=>(intKind prog w).is k e.2 with
  | some j =>
    rw [fi,Option.isSome_some] at hin;refine wpAny_pure (wpAny_pure ?_);exact q false s.heap (Heap.SameBut.refl S _) ⟨es,t,I,by unfold step_dedup;rw [if_pos hin];exact pm⟩
  | none =>
    rw [fi] at hin;have sd:step_dedup l k=l++[k]:=by unfold step_dedup;rw [if_neg (by rw [hin];simp)]
    have lp:=layNew_perm t es ((intKind prog w).hash k) x;have lf:=layNew_fits t es ((intKind prog w).hash k) x;have lt:=yJ I.tab es ((intKind prog w).hash k) x;revert lp lf lt;generalize layNew t es ((intKind prog w).hash k) x=N;obtain ⟨ys,r,d,gave⟩:=N;intro lp lf lt;dsimp only at lp lf lt ⊢;rw [Array.toList_push] at lp;have yi:ElemsOf (intKind prog w) ys.toList:=ElemsOf.perm (ElemsOf.push I.elm isx sc) lp;have yl:ys.size=es.size+1:=by simpa using lp.length_eq
    have ys':ys.size < scanBound:=by omega
    have yp:(jo ys).Perm (step_dedup l k):=by
      rw [sd];refine (lp.map fun e=>yF e.2).trans ?_;rw [List.map_append,List.map_singleton,sf isx];exact pm.append_right [k]
    have gw:∀ (b:Bool) (s₁:Shared) (Q':Unit->Shared->Prop),Q' () s₁->wpAny (model prog w) A (match b with | true=>rule "set.scan.the-table-gave-way" | false=>pure ()) Q' E s₁:=fun b s₁ Q' h=>by
      cases b
      · exact wpAny_pure h
      · exact wpAny_rule h
    have fin:∀ (g:Heap) (zs:Array (Int×Value)) (v:SetTable),Heap.SameBut S s.heap g->sF prog w g S led zs v->(jo zs).Perm (jo ys)->Q true { s with heap:=g }:=fun g zs v k1 J p=>q true g k1 ⟨zs,v,J,p.trans yp⟩
    apply wpAny_bind;apply gw;have done:∀ r':SetTable,r'.fits ys.size=true->xN led r'->wpAny (model prog w) A (storeSet S ys r'>>=fun _=>if (!d&&r'.tooFull)=true then ((match (relayAll r' ys (SetTable.grown ys.size)).2.2 with | true=>rule "set.scan.the-table-gave-way" | false=>pure ())>>=fun _=>storeSet S (relayAll r' ys (SetTable.grown ys.size)).1 (relayAll r' ys (SetTable.grown ys.size)).2.1>>=fun _=>pure (some true)) else pure (some true))
        (fun o s'=>wpAny (model prog w) A (match o with | some added=>pure added | none=>setAddHashedIn S x ((intKind prog w).hash k) 99999) Q E s') E s:=fun r' f' t' =>
      sF.grow (gw:=fun b=>match b with | true=>rule "set.scan.the-table-gave-way" | false=>pure ()) gw I yi ys' f' t' fun g zs v k1 J p=>wpAny_pure (fin g zs v k1 J p)
    cases pl:r.plain with
    | true =>
      rw [hashByValue_scannable 8 sc];apply wpAny_bind;apply wpAny_pure;cases plainKind x with
      | true=>exact done r lf lt
      | false=>exact done { r with plain:=false } (SetTable.fits_plain_off lf) (A4 lt)
    | false =>
      apply wpAny_bind;apply wpAny_pure;exact done r lf lt
end
section
variable {prog:Program} {w:World} {A:Around} {E:Value->Shared->Prop} {s:Shared} {R:Result->Shared->Prop} {I S:Addr} {fp wr:List Addr} {G:Array GenState->Array GenState->Prop} {n:Nat} {P:Nat->Value->Prop} {St:Nat->Shared->Prop} {led:Bool}
theorem nP.moved {s s':Shared} {wr:List Addr} {l:List Int} (X:nP prog w s.heap S led l) (hS:S∉wr) (m:Moved wr G s s'):nP prog w s'.heap S led l:=by
  obtain ⟨es,t,J,pm⟩:=X;obtain ⟨u,ep,hu,r⟩:=J.obj;exact ⟨es,t,⟨⟨u,ep,m.heap S u hS hu,r⟩,J.elm,J.few,J.fit,J.tab⟩,pm⟩
theorem yn (W:WalksS prog w A.in1 I fp wr G n P St) (out:S∉fp) (f:Nat->Int) (hf:∀ i v,P i v->∃ tk,v=.int (f i) tk) (room:n+1 < scanBound):∀ (m i:Nat) (s:Shared),n-i=m->i<=n->St i s->nP prog w s.heap S led (firstMet f i) ->
    (∀ s',Moved (S::wr) G s s'->nP prog w s'.heap S led (firstMet f n)->R (.ok (.ret .none)) s')->codeAny (model prog w) A (.builtin "set.update.loop" ⟨[.ref S,.ref I],[]⟩) R s:=by
  have outw:S∉wr:=fun z=>out (W.sub _ z)
  have wid:∀ {a b:Shared},Moved wr G a b->Moved (S::wr) G a b:=fun m=>m.mono fun b hb=>List.mem_cons_of_mem _ hb
  intro m;induction m with
  | zero =>
    intro i s e1 e2 st X fin;obtain rfl:i=n:=by omega
    refine codeAny_builtin PyProof.Rows.F.entry_set_update_loop ?_;rw [Around.under_plainId PyProof.Rows.F.plain_set_update_loop _];show wpAny _ A.in1 (pyNext (.ref I)>>=_) _ _ s;exact wpAny_bind (W.done s _ _ st fun s' mv=>wpAny_pure (fin s' (wid mv) (X.moved outw mv)))
  | succ m ih =>
    intro i s e1 e2 st X fin;have lt:i < n:=by omega
    refine codeAny_builtin PyProof.Rows.F.entry_set_update_loop ?_;rw [Around.under_plainId PyProof.Rows.F.plain_set_update_loop _];show wpAny _ A.in1 (pyNext (.ref I)>>=_) _ _ s;apply wpAny_bind;apply W.item i s _ _ lt st;intro v s1 hv st1 mv;obtain ⟨tk,rfl⟩:=hf i v hv;have X1:=X.moved outw mv;show wpAny _ A.in1 (holding [Value.int (f i) tk] (setAdd S (.int (f i) tk))>>=_) _ _ s1;apply wpAny_bind;apply wpAny_holding;unfold setAdd;apply wpAny_holding;apply wpAny_bind;apply (intKind prog w).pyHash (k:=f i) (intKind_is _ _ _ _);have few:(firstMet f i).length+1 < scanBound:=by have:=firstMet_length_le f i;omega
    refine vi (s:={ s1 with toks:=s1.toks+1 }) (intKind_is _ _ _ _) rfl X1 few fun _ g kp X2=>?_
    rw [<- firstMet_succ] at X2;have kpo:∀ b o,b≠S->s1.heap.get? b=some o->g.get? b=some o:=fun b o ne e=>by rw [kp.2 b ne];exact e
    refine wpAny_pure ⟨plainId_quiet PyProof.Rows.F.plain_set_update_loop _,ih (i+1) _ (by omega) lt (W.frame _ s1 _ _ st1 (Nat.le_succ _) fun b hb o e=>kpo b o (fun z=>out (z ▸ hb)) e) X2 fun s2 mv2 X3=>fin s2 ?_ X3⟩;exact Moved.trans W.gtrans ((wid mv).then_heap (Nat.le_succ _) fun b o hb e=>kpo b o (fun z=>hb (z ▸ List.mem_cons_self)) e) mv2
noncomputable def mw (w:World):Bool:=w.params.followText "set-order"
noncomputable abbrev nT (led:Bool):Obj:={ cls:=.type "set",dict:=none,data:=.set #[] 0 (.fresh 0 0 led) }
theorem Hd {h:Heap} {led:Bool} (e:h.get? S=some (nT led)):nP prog w h S led [] :=
  ⟨#[],.fresh 0 0 led,⟨⟨_,0,e,⟨rfl,rfl,rfl⟩,rfl⟩,fun q hq=>by simp at hq,by decide,by rfl,rfl,fun i j _ h=>by simp [SetTable.fresh] at h⟩,List.Perm.refl _⟩
theorem Aa (a:Value) {Q:Value->Shared->Prop} (q:Q (.ref s.heap.objs.size) { s with heap:=s.heap.push (nT (!mw w)) }):codeAny (model prog w) A (.call (.builtin "set.__new__") ⟨[.type "set",a],[]⟩) (wants Q E) s:=by
  refine codeAny_of_tree ?_;show wpAny _ A.in1 (checkBuiltinCall "set.__new__" ⟨[.type "set",a],[]⟩>>=fun _=>again (.builtin "set.__new__" ⟨[.type "set",a],[]⟩)) _ _ s;refine wpAny_bind (wpAny_of_eq (PySem.F.newCall_set_1 a) (wpAny_pure ⟨plainId_quiet PySem.F.plain_set_new _,codeAny_builtin PySem.F.entry_set_new ?_⟩));rw [Around.under_plainId PySem.F.plain_set_new _];unfold Builtin.«set.__new__» Builtin.Frozenset.newClass;have own:=sub_set_self;obtain ⟨h0,g0,d0,t0,o0⟩:=s;dsimp only
  wp_walk
  apply wpAny_askSetting;apply wpAny_pure;dsimp only [newObj];exact wpAny_bind (wpAny_alloc (wpAny_pure (wpAny_pure q)))
end
theorem uo:isSubtype (.type "list") (.type "set")=pure false:=by rw [isSubtype_type];kernel_rfl
theorem um:isSubtype (.type "list") (.type "frozenset")=pure false:=by rw [isSubtype_type];kernel_rfl
theorem si:isSubtype (.type "tuple") (.type "set")=pure false:=by rw [isSubtype_type];kernel_rfl
theorem sh:isSubtype (.type "tuple") (.type "frozenset")=pure false:=by rw [isSubtype_type];kernel_rfl
section
variable {prog:Program} {w:World} {A:Around} {E:Value->Shared->Prop} {s:Shared}
structure IU (prog:Program) (w:World) (T:String) (a:Addr) (n:Nat) (f:Nat->Int) (OK:Heap->Prop):Prop where
  type:∀ s:Shared,OK s.heap->s.TypeIs (.ref a) T
  there:∀ h:Heap,OK h->a < h.objs.size
  push:∀ (h:Heap) (o:Obj),OK h->OK (h.push o)
  noS:isSubtype (.type T) (.type "set")=pure false
  noF:isSubtype (.type T) (.type "frozenset")=pure false
  noD:(Value.type T==Value.type "dict")=false
  iter:∀ (A:Around) (s:Shared),A.handled=none->OK s.heap->∃ (oI:Obj) (P:Nat->Value->Prop) (St:Nat->Heap->Prop),
    (∀ (E:Value->Shared->Prop) (Q:Value->Shared->Prop),Q (.ref s.heap.objs.size) { s with heap:=s.heap.push oI }->wpAny (model prog w) A.in1.in1 (pyIter (.ref a)) Q E s) /\
    Walks prog w A.in1.in1.in1 s.heap.objs.size [s.heap.objs.size,a] [s.heap.objs.size] n P St/\(∀ i v,P i v->∃ tk,v=.int (f i) tk)/\St 0 (s.heap.push oI)
theorem Bu {a:Addr} {items:Array Value} {ns:List Int} (hi:IntsAre items.toList ns):IU prog w "list" a items.size (fun i=>ns.getD i 0) fun h=>h.IsList a items where
  type:=fun s h=>h.typeIs
  there:=fun h ⟨o,e,_⟩=>Heap.lt_size e
  push:=fun h o x=>x.push o
  noS:=uo
  noF:=um
  noD:=by decide
  iter:=fun A s hh ok=>by
    have lt:a < s.heap.objs.size:=let ⟨o,e,_⟩:=ok;Heap.lt_size e
    refine ⟨_,_,_,fun E Q q=>wpAny_pyIter_list ok q,Walks.list (by simp [hh]) _ a (Nat.ne_of_lt lt) items,fun i v hv=>hi.int_at i v (by rw [Array.getElem?_toList];exact hv),⟨⟨_,Heap.get?_push_size _ rfl,rfl,rfl⟩,ok.push _⟩⟩
theorem zj {a:Addr} {items:Array Value} {ns:List Int} (hi:IntsAre items.toList ns):IU prog w "tuple" a items.size (fun i=>ns.getD i 0) fun h=>h.IsTuple a items where
  type:=fun s h=>h.typeIs
  there:=fun h ⟨o,e,_⟩=>Heap.lt_size e
  push:=fun h o x=>x.at fun u e=>Heap.get?_push_of_some _ e
  noS:=si
  noF:=sh
  noD:=by decide
  iter:=fun A s hh ok=>by
    have lt:a < s.heap.objs.size:=let ⟨o,e,_⟩:=ok;Heap.lt_size e
    refine ⟨_,_,_,fun E Q q=>wpAny_pyIter_tuple ok q,Walks.tuple (by simp [hh]) _ a (Nat.ne_of_lt lt) items,fun i v hv=>hi.int_at i v (by rw [Array.getElem?_toList];exact hv),⟨⟨_,Heap.get?_push_size _ rfl,rfl,rfl⟩,ok.at fun u e=>Heap.get?_push_of_some _ e⟩⟩
set_option maxHeartbeats 8000000 in
theorem tN {T:String} {a:Addr} {n:Nat} {f:Nat->Int} {OK:Heap->Prop} {Q:Value->Shared->Prop} (K:IU prog w T a n f OK) (hh:A.handled=none) (ok:OK s.heap) (few:n+1 < scanBound)
    (q:∀ (g:Heap) (tk:Nat),nP prog w g s.heap.objs.size (!mw w) (firstMet f n)->(∀ b o,s.heap.get? b=some o->g.get? b=some o)->Q (.ref s.heap.objs.size) { s with heap:=g,toks:=tk }) :
    wpAny (model prog w) A (call (.type "set") [.ref a]) Q E s:=by
  have C:=PySem.F.called_set;obtain ⟨c0,tl,mro⟩:=C.mro;have made:=C.made;have sub:=C.sub;refine wpAny_call (codeAny_of_tree ?_);show wpAny _ _ (callAny (.type "set") _) _ _ _;refine wpAny_pure ⟨Code.quiet_builtin _ (by decide +kernel),codeAny_builtin PySem.F.entry_type_call ?_⟩;rw [Around.under_plain (weight_type_call_type "set" [.ref a] []) rfl];have n1:=C.notType;have n2:=C.canCreate;have n3:=PySem.F.typeCall_set_1 (.ref a)
  repeat (any_goals (first | assumption | wp_step))
  refine codeAny_mono (Aa (.ref a) (E:=E) (Q:=fun v s1=>v=.ref s.heap.objs.size/\s1={ s with heap:=s.heap.push (nT (!mw w)) }) ⟨rfl,rfl⟩) fun r s1 hr=>?_
  cases r with
  | error e=>exact hr
  | ok fl =>
    cases fl with
    | ret v =>
      obtain ⟨rfl,rfl⟩:=hr;have at0:(s.heap.push (nT (!mw w))).get? s.heap.objs.size=some (nT (!mw w)):=Heap.get?_push_size _ rfl;have ty0:Shared.TypeIs { s with heap:=s.heap.push (nT (!mw w)) } (.ref s.heap.objs.size) "set" := ⟨_,at0,rfl⟩
      have l0:=C.init.lookup;have b0:=C.init.bind (.ref s.heap.objs.size)
      repeat (any_goals (first | assumption | wp_step))
      refine codeAny_mono (codeAny_call_builtin (R:=wants (fun r s2=>r=.none/\∃ g tk,s2={ s with heap:=g,toks:=tk }/\nP prog w g s.heap.objs.size (!mw w) (firstMet f n)/\∀ b o,s.heap.get? b=some o->g.get? b=some o) E) C.init.plain PySem.F.entry_set_init (check_set_init_1 ty0 ?_)) fun r2 s2 hr2=>?_
      · have ok1:=K.push _ (nT (!mw w)) ok;have ty1:Shared.TypeIs { s with heap:=s.heap.push (nT (!mw w)) } (.ref a) T:=K.type _ ok1;have noS:=K.noS;have noF:=K.noF;have noD:=K.noD;have lta:=K.there _ ok;unfold Builtin.«set.__init__» noKeywords Builtin.Frozenset.updateFrom;generalize hPI:pyIter=PI
        wp_walk
        subst hPI;obtain ⟨oI,P,St,it,W,hP,st⟩:=K.iter A { s with heap:=s.heap.push (nT (!mw w)) } hh ok1;apply it;refine wpAny_bind (wpAny_runValue ?_);have sz:(s.heap.push (nT (!mw w))).objs.size=s.heap.objs.size+1:=Heap.size_push ..;have out:s.heap.objs.size∉[(s.heap.push (nT (!mw w))).objs.size,a]:=by
          rw [sz];simp only [List.mem_cons,List.not_mem_nil,or_false,not_or];exact ⟨Nat.ne_of_lt (Nat.lt_succ_self _),Nat.ne_of_gt lta⟩
        refine yn W.toS out f hP few (n-0) 0 _ (by omega) (Nat.zero_le _) st (Hd (Heap.get?_push_of_some _ at0)) fun s3 mv X=>?_
        obtain ⟨g3,gn3,dr3,tk3,os3⟩:=s3;obtain rfl:gn3=s.gens:=mv.gens;obtain rfl:dr3=s.drawn:=mv.drawn;obtain rfl:os3=s.os:=mv.os;show wpAny _ _ _ _ _ _;refine wpAny_pure ?_;show wpAny _ _ (ret Value.none) _ _ _;refine wpAny_pure ⟨rfl,g3,tk3,rfl,X,fun b o e=>?_⟩;have ltb:=Heap.lt_size e;refine mv.heap b o ?_ (Heap.get?_push_of_some _ (Heap.get?_push_of_some _ e));show b∉[s.heap.objs.size,(s.heap.push (nT (!mw w))).objs.size];rw [sz];simp only [List.mem_cons,List.not_mem_nil,or_false,not_or];exact ⟨Nat.ne_of_lt ltb,Nat.ne_of_lt (Nat.lt_succ_of_lt ltb)⟩
      · cases r2 with
        | error e=>exact hr2
        | ok fl2 =>
          cases fl2 with
          | ret r =>
            obtain ⟨rfl,g,tk,rfl,X,kp⟩:=hr2
            repeat (any_goals (first | assumption | wp_step))
            exact q _ _ X kp
          | _=>exact hr2.elim
    | _=>exact hr.elim
end
theorem lU:Slot "set_iterator" "__next__" "set_iterator.__next__" :=
  .of (owner := "set_iterator") (n := "__next__") (by rw [typeLookup_type,builtinLookup_eq_fast];kernel_rfl) (by decide +kernel) (by decide +kernel) (by decide +kernel) (by first | exact .inl (by decide +kernel) | exact .inr (by decide +kernel)) (by rw [isSubtype_type];kernel_rfl)
theorem Bs:entryFor table "set_iterator.__next__" = some Builtin.«set_iterator.__next__»:=entryFor_of_tree (by kernel_rfl)
theorem uD:Manifest.owners.lookup (String.ofList ['r','o','t','a','r','e','t','i','_','t','e','s'].reverse)=some Manifest.sig_set_iterator:=by kernel_rfl
theorem DG (a:Value):argsOk "set_iterator.__next__" ⟨[a],[]⟩:=by
  unfold argsOk;rw [signature?_of (id := "set_iterator.__next__") (n:=['_','_','t','x','e','n','_','_']) (o:=['r','o','t','a','r','e','t','i','_','t','e','s']) (by kernel_rfl) uD]
  kernel_rfl
theorem Bv:entryFor table "set.__iter__" = some Builtin.«frozenset.__iter__»:=entryFor_alias (id' := "frozenset.__iter__") (by kernel_rfl) rfl (by decide +kernel) (by kernel_rfl)
theorem xz:Slot "set_iterator" "__iter__" "set_iterator.__iter__" :=
  .of (owner := "set_iterator") (n := "__iter__") (by rw [typeLookup_type,builtinLookup_eq_fast];kernel_rfl) (by decide +kernel) (by decide +kernel) (by decide +kernel) (by first | exact .inl (by decide +kernel) | exact .inr (by decide +kernel)) (by rw [isSubtype_type];kernel_rfl)
theorem DN (a:Value):argsOk "set_iterator.__iter__" ⟨[a],[]⟩:=by
  unfold argsOk;rw [signature?_of (id := "set_iterator.__iter__") (n:=['_','_','r','e','t','i','_','_']) (o:=['r','o','t','a','r','e','t','i','_','t','e','s']) (by kernel_rfl) uD]
  kernel_rfl
theorem Bx:entryFor table "set_iterator.__iter__" = some Builtin.«dict_keyiterator.__iter__»:=entryFor_alias (id' := "dict_keyiterator.__iter__") (by kernel_rfl) rfl (by decide +kernel) (by kernel_rfl)
theorem Bq {prog:Program} {w:World} {A:Around} {E:Value->Shared->Prop} {s:Shared} {r:Addr} {Q:Bool->Shared->Prop} (ty:s.TypeIs (.ref r) "set") (q:Q false s):wpAny (model prog w) A (Builtin.List.listLengthHint (.ref r)) Q E s:=by
  unfold Builtin.List.listLengthHint;apply wpAny_bind;apply wpAny_specialOf ty PySem.F.slot_set_len.lookup;generalize hi:("set.__len__" : String)=i0
  wp_delta
  rw [show splitId i0=some ("set","__len__") from by subst hi;decide +kernel];subst hi;apply wpAny_bind;apply wpAny_isInstance (T := "set") (b:=true) ty (by rw [isSubtype_type];kernel_rfl);refine wpAny_ite_split (fun z=>absurd z (by decide)) fun _=>?_
  refine wpAny_ite_split (fun _=>?_) fun z=>absurd (by decide +kernel) z
  exact wpAny_bind (wpAny_typeOf ty (wpAny_pure q))
section
variable {prog:Program} {w:World} {A:Around} {E:Value->Shared->Prop} {s:Shared} {S it:Addr} {es:Array (Int×Value)} {ep:Nat} {t:SetTable}
structure Si (h:Heap) (S:Addr) (es:Array (Int×Value)) (ep:Nat) (t:SetTable):Prop where
  obj:∃ u,h.get? S=some u/\u.ExactSet/\u.data=.set es ep t
  fit:t.fits es.size=true
theorem Si.keep {h g:Heap} (I:Si h S es ep t) (k:∀ u,h.get? S=some u->g.get? S=some u):Si g S es ep t:=by
  obtain ⟨u,hu,r⟩:=I.obj;exact ⟨⟨u,k u hu,r⟩,I.fit⟩
theorem Si.ty (I:Si s.heap S es ep t):s.TypeIs (.ref S) "set" := by
  obtain ⟨u,hu,x,_⟩:=I.obj;exact ⟨u,hu,x.1⟩
theorem Si.lt {h:Heap} (I:Si h S es ep t):S < h.objs.size:=by
  obtain ⟨u,hu,_⟩:=I.obj;exact Heap.lt_size hu
theorem Si.state {Q:(Array (Int×Value)×Nat×SetTable)->Shared->Prop} (I:Si s.heap S es ep t) (q:Q (es,ep,t) s):wpAny (model prog w) A (setState S) Q E s:=by
  obtain ⟨u,hu,_,hd⟩:=I.obj;exact wpAny_setState_of hu hd I.fit q
theorem lA {Q:Bool->Shared->Prop} (q:Q (mw w) s):wpAny (model prog w) A setsByText Q E s:=by
  unfold setsByText;exact wpAny_bind (wpAny_askSetting (wpAny_pure q))
noncomputable def pr (w:World) (S:Addr) (ep:Nat) (es:Array (Int×Value)):Array (Int×Value):=pickOrder (w.params.setOrder S ep) es
theorem qH {Q:Option (Value×Nat)->Shared->Prop} {slot i:Nat} (hb:mw w=true) (I:Si s.heap S es ep t) (q:Q (((pr w S ep es)[i]?).map fun e=>(e.2,slot)) s):wpAny (model prog w) A (setNext S slot i ep) Q E s:=by
  unfold setNext;apply wpAny_bind;apply I.state;dsimp only;apply wpAny_bind;apply lA;rw [if_pos hb];refine wpAny_ite_split (fun z=>absurd z (by simp)) fun _=>?_
  apply wpAny_bind;unfold setWalk;apply wpAny_bind;apply I.state;dsimp only;apply wpAny_bind;apply lA;rw [if_pos hb];exact wpAny_bind (wpAny_askSetting (wpAny_pure (wpAny_pure q)))
theorem qG {Q:Option (Value×Nat)->Shared->Prop} {slot i:Nat} (hb:mw w=false) (hl:t.led=true) (hd:¬ ((!t.plain&&decide (es.size > 1))=true)) (I:Si s.heap S es ep t)
    (q:Q (match es[SetTable.below t.place slot]?,t.place[SetTable.below t.place slot]? with | some (_,x),some j=>some (x,j+1) | _,_=>none) s):wpAny (model prog w) A (setNext S slot i ep) Q E s:=by
  unfold setNext;apply wpAny_bind;apply I.state;dsimp only;apply wpAny_bind;apply lA;rw [hb];refine wpAny_ite_split (fun z=>absurd z (by simp)) fun _=>?_
  refine wpAny_ite_split (fun z=>absurd z hd) fun _=>?_
  apply wpAny_bind;show wpAny _ _ (if (!t.led&&!es.isEmpty)=true then unsupported "set:maker-not-led" else pure ()) _ _ _;rw [hl];refine wpAny_ite_split (fun z=>absurd z (by simp)) fun _=>?_
  exact wpAny_pure (wpAny_pure q)
end
section
variable {prog:Program} {w:World} {A:Around} {E:Value->Shared->Prop} {s:Shared} {S it:Addr} {es:Array (Int×Value)} {ep:Nat} {t:SetTable}
noncomputable abbrev yD (first:Value) (i n ep:Nat) (S:Addr):Obj:={ cls:=.type "set_iterator",data:=.fields #[first,.int i 0,.ref S,.int n 0,.int ep 0] }
theorem Si.count {Q:Array (Int×Value)->Shared->Prop} (I:Si s.heap S es ep t) (q:Q es s):wpAny (model prog w) A (setEntries S) Q E s:=by
  unfold setEntries;exact wpAny_bind (I.state (wpAny_pure q))
theorem n6 {Q:Option Value->Shared->Prop} {o:Obj} (hit:s.heap.get? it=some o) (hc:o.cls=.type "set_iterator")
    (q:wpAny (model prog w) A.in1 (Builtin.«set_iterator.__next__» ⟨[.ref it],[]⟩) (fun fin s'=>∃ r,fin=.done (.ret r)/\Q (some r) s') (fun e s'=>wpAny (model prog w) A (isInstance e (.type "StopIteration")>>=fun b=>if b=true then pure none else throw e) Q E s') s) :
    wpAny (model prog w) A (pyNext (.ref it)) Q E s:=by
  have ty:s.TypeIs (.ref it) "set_iterator" := ⟨_,hit,hc⟩
  unfold pyNext;refine wpAny_bind (wpAny_attempt (wpAny_callSpecial?_slot (name:=Str.ofString "__next__") ty lU (wpAny_call_entry lU ty Bs ?_ (DG _))));refine wpAny_mono q (fun fin s' h=>?_) fun e s' h=>?_
  · obtain ⟨r,e,z⟩:=h;exact ⟨r,e,wpAny_pure z⟩
  · exact h
end
section
variable {prog:Program} {w:World} {A:Around} {E:Value->Shared->Prop} {s:Shared} {S it:Addr} {es:Array (Int×Value)} {ep:Nat} {t:SetTable}
theorem ke {o:Obj} {vs:Array Value} {k:Nat} {v:Value} {h:Heap} (ho:h.get? it=some o) (hd:o.data=.fields vs):(h.update it (Obj.mapFields (·.setIfInBounds k v))).get? it=some (Obj.mapFields (·.setIfInBounds k v) o) :=
  Heap.get?_update_self _ ho (Obj.isFreed_of_fields (Obj.data_mapFields hd _))
theorem xo {slot i nx:Nat} {x:Value} {Q:Option Value->Shared->Prop} (hit:s.heap.get? it=some (yD (.int slot 0) i es.size ep S)) (I:Si s.heap S es ep t)
    (hx:∀ (A':Around) (E':Value->Shared->Prop) (Q':Option (Value×Nat)->Shared->Prop),Q' (some (x,nx)) s->wpAny (model prog w) A' (setNext S slot i ep) Q' E' s)
    (q:∀ g,Heap.SameBut it s.heap g->g.get? it=some (yD (.int nx 0) (i+1) es.size ep S)->Q (some x) { s with heap:=g }):wpAny (model prog w) A (pyNext (.ref it)) Q E s:=by
  refine n6 hit rfl ?_;unfold Builtin.«set_iterator.__next__»;refine wpAny_bind (wpAny_pure ?_);refine wpAny_bind (wpAny_fieldsOf hit rfl ?_);dsimp only;apply wpAny_bind;apply I.count;refine wpAny_ite_split (fun z=>absurd z (by simp)) fun _=>?_
  apply wpAny_bind;rw [show ((slot:Nat):Int).toNat=slot from rfl,show ((i:Nat):Int).toNat=i from rfl,show ((ep:Nat):Int).toNat=ep from rfl];apply hx;dsimp only;refine wpAny_bind (wpAny_setField hit rfl (by simp) ?_);have e1:=ke (k:=0) (v:=rawInt nx) hit rfl;refine wpAny_bind (wpAny_setField e1 rfl (by simp) ?_);have e2:=ke (k:=1) (v:=rawInt ((i:Int)+1)) e1 rfl;exact wpAny_pure ⟨x,rfl,q _ ((Heap.SameBut.update ..).trans (Heap.SameBut.update ..)) e2⟩
theorem uF {k:Nat} {v:Value} {vs:Array Value} {o:Obj} {Q:Option Value->Shared->Prop} (hh:A.handled=none) (hit:s.heap.get? it=some o) (hd:o.data=.fields vs) (hk:k < vs.size) (q:∀ g,Heap.ExtBut it s.heap g->Q none { s with heap:=g }) :
    wpAny (model prog w) A.in1 (setField (.ref it) k v>>=fun _=>newExc (.type "StopIteration") []>>=fun e=>(raiseNew e:Sem PySem.Fin)) (fun fin s'=>∃ r,fin=.done (.ret r)/\Q (some r) s')
      (fun e s'=>wpAny (model prog w) A (isInstance e (.type "StopIteration")>>=fun b=>if b=true then pure none else throw e) Q E s') s:=by
  refine wpAny_bind (wpAny_setField hit hd hk ?_);have k1:Heap.ExtBut it s.heap (s.heap.update it (Obj.mapFields (·.setIfInBounds k v))):=(Heap.SameBut.update ..).extBut;simp only [newExc,newTuple];refine wpAny_bind (wpAny_bind (wpAny_newObj_type ?_ (by size_fits)));refine wpAny_bind (m:=firstArgMember _ _) (wpAny_of_eq (a:=Value.none) (by first | rfl | (simp only [firstArgMember];rfl)) ?_);refine wpAny_newObj_type ?_ (by size_fits);simp only [raiseNew];refine wpAny_bind (wpAny_handled ?_);rw [show A.in1.handled=none from hh];refine wpAny_bind (wpAny_pure (wpAny_throw ?_));refine wpAny_bind (wpAny_isInstance (T := "StopIteration") (b:=true) ⟨_,Heap.get?_push_size _ rfl,rfl⟩ isSubtype_stop ?_);exact wpAny_pure (q _ ((k1.push _).push _))
theorem A7 {slot i:Nat} {Q:Option Value->Shared->Prop} (hh:A.handled=none) (hit:s.heap.get? it=some (yD (.int slot 0) i es.size ep S)) (I:Si s.heap S es ep t)
    (hx:∀ (A':Around) (E':Value->Shared->Prop) (Q':Option (Value×Nat)->Shared->Prop),Q' none s->wpAny (model prog w) A' (setNext S slot i ep) Q' E' s)
    (q:∀ g,Heap.ExtBut it s.heap g->Q none { s with heap:=g }):wpAny (model prog w) A (pyNext (.ref it)) Q E s:=by
  refine n6 hit rfl ?_;unfold Builtin.«set_iterator.__next__»;refine wpAny_bind (wpAny_pure ?_);refine wpAny_bind (wpAny_fieldsOf hit rfl ?_);dsimp only;apply wpAny_bind;apply I.count;refine wpAny_ite_split (fun z=>absurd z (by simp)) fun _=>?_
  apply wpAny_bind;rw [show ((slot:Nat):Int).toNat=slot from rfl,show ((i:Nat):Int).toNat=i from rfl,show ((ep:Nat):Int).toNat=ep from rfl];apply hx;dsimp only;exact uF (k:=2) (v:=.none) hh hit rfl (by simp) q
end
section
variable {prog:Program} {w:World} {A:Around} {E:Value->Shared->Prop} {s:Shared} {S it T:Addr} {es:Array (Int×Value)} {ep:Nat} {t:SetTable}
noncomputable abbrev BW (pl:List Nat):Obj:={ cls:=.type "tuple",data:=.seq (pl.map fun (p:Nat)=>rawInt p).toArray }
theorem Ct {i p:Nat} {pl:List Nat} {e:Int×Value} {Q:Option Value->Shared->Prop} (hit:s.heap.get? it=some (yD (.ref T) i es.size ep S)) (hT:s.heap.get? T=some (BW pl)) (I:Si s.heap S es ep t) (hp:pl[i]?=some p) (he:es[p]?=some e)
    (q:∀ g,Heap.SameBut it s.heap g->g.get? it=some (yD (.ref T) (i+1) es.size ep S)->Q (some e.2) { s with heap:=g }):wpAny (model prog w) A (pyNext (.ref it)) Q E s:=by
  refine n6 hit rfl ?_;unfold Builtin.«set_iterator.__next__»;refine wpAny_bind (wpAny_pure ?_);refine wpAny_bind (wpAny_fieldsOf hit rfl ?_);dsimp only;apply wpAny_bind;apply I.count;refine wpAny_ite_split (fun z=>absurd z (by simp)) fun _=>?_
  refine wpAny_bind (wpAny_seqItems hT rfl ?_);dsimp only;have e0:((pl.map fun (p:Nat)=>rawInt p).toArray)[((i:Nat):Int).toNat]?=some (rawInt p):=by
    rw [Int.toNat_natCast];simp [hp]
  rw [e0];dsimp only [rawInt];apply wpAny_bind;unfold setNextDrawn;apply wpAny_bind;apply I.state;dsimp only;refine wpAny_ite_split (fun z=>absurd z (by simp)) fun _=>?_
  rw [Int.toNat_natCast,he];obtain ⟨hh0,x⟩:=e;dsimp only;refine wpAny_pure ?_;refine wpAny_bind (wpAny_setField hit rfl (by simp) ?_);have e2:=ke (k:=1) (v:=rawInt ((i:Int)+1)) hit rfl;exact wpAny_pure ⟨x,rfl,q _ (Heap.SameBut.update ..) e2⟩
theorem EV {i:Nat} {pl:List Nat} {Q:Option Value->Shared->Prop} (hh:A.handled=none) (hit:s.heap.get? it=some (yD (.ref T) i es.size ep S)) (hT:s.heap.get? T=some (BW pl)) (I:Si s.heap S es ep t) (hp:pl[i]?=none)
    (q:∀ g,Heap.ExtBut it s.heap g->Q none { s with heap:=g }):wpAny (model prog w) A (pyNext (.ref it)) Q E s:=by
  refine n6 hit rfl ?_;unfold Builtin.«set_iterator.__next__»;refine wpAny_bind (wpAny_pure ?_);refine wpAny_bind (wpAny_fieldsOf hit rfl ?_);dsimp only;apply wpAny_bind;apply I.count;refine wpAny_ite_split (fun z=>absurd z (by simp)) fun _=>?_
  refine wpAny_bind (wpAny_seqItems hT rfl ?_);dsimp only;have e0:((pl.map fun (p:Nat)=>rawInt p).toArray)[((i:Nat):Int).toNat]?=none:=by
    rw [Int.toNat_natCast];simp at hp ⊢;omega
  rw [e0];dsimp only;refine wpAny_bind (wpAny_setField hit rfl (by simp) ?_);have e1:=ke (k:=0) (v:=rawInt 0) hit rfl;refine uF (s:={ s with heap:=_ }) (k:=2) (v:=.none) hh e1 rfl (by simp) fun g k=>q g fun b o ne e=>k b o ne ((Heap.SameBut.update s.heap it _).extBut b o ne e)
theorem kW {β:Type}:∀ (l:List β) (i:Nat) (h:i < l.length),(l[i]::l.eraseIdx i).Perm l
  | x::l,0,_=>List.Perm.refl _
  | x::l,i+1,h=>(List.Perm.swap x _ _).trans ((kW l i (by simpa using h)).cons x)
theorem oQ {β:Type}:∀ (n:Nat) (xs:List β) (s:Shared) (Q:List β->Shared->Prop),xs.length=n->(∀ (ys:List β) (d:_),ys.Perm xs->Q ys { s with drawn:=d })->wpAny (model prog w) A (drawOrder n xs) Q E s
  | 0,xs,s,Q,hl,q=>by
    have:xs=[]:=List.length_eq_zero_iff.mp hl;subst this;exact wpAny_pure (q [] s.drawn (List.Perm.refl _))
  | n+1,[],s,Q,hl,q=>by cases hl
  | n+1,x::xs,s,Q,hl,q=>by
    unfold drawOrder;have key:∀ (i:Nat) (d:_),i < (x::xs).length->wpAny (model prog w) A (match (x::xs)[i]? with | some y=>(drawOrder n ((x::xs).eraseIdx i)>>=fun r=>pure (y::r)) | none=>unsupported "internal:drawOrder") Q E { s with drawn:=d }:=fun i d lt=>by
      rw [List.getElem?_eq_getElem lt];dsimp only;refine wpAny_bind (oQ n ((x::xs).eraseIdx i) { s with drawn:=d } _ ?_ fun ys d' pm=>wpAny_pure (q _ d' ?_))
      · rw [List.length_eraseIdx_of_lt lt,hl];rfl
      · refine (pm.cons _).trans ?_;exact kW _ _ lt
    refine wpAny_bind (m:=choose .order (x::xs).length) ?_;intro Γ p hΓ;show Sem.wp _ Γ (.choose .order (x::xs).length .pure) _ _ p s;rw [Sem.wp_choose];refine ⟨by simp,?_⟩;exact (show wpAny (model prog w) A _ Q E _ from key _ _ (Nat.mod_lt _ (by simp)))
end
theorem xl {β:Type} (next:Nat->Nat):∀ (fuel k:Nat) (left:List β) (out:Array β),left.length=fuel->((pickOrder.go next fuel k left out).toList).Perm (out.toList++left)
  | 0,k,left,out,h=>by
    have:left=[]:=List.length_eq_zero_iff.mp h;subst this;unfold pickOrder.go;rw [List.append_nil]
  | fuel+1,k,left,out,h=>by
    unfold pickOrder.go;have lt:next k%left.length < left.length:=Nat.mod_lt _ (by omega)
    rw [List.getElem?_eq_getElem lt];dsimp only;refine (xl next fuel (k+1) _ _ (by rw [List.length_eraseIdx_of_lt lt,h];rfl)).trans ?_;rw [Array.toList_push,List.append_assoc];exact List.Perm.append_left _ (kW left _ lt)
theorem za {β:Type} (next:Nat->Nat) (xs:Array β):(pickOrder next xs).toList.Perm xs.toList:=by
  unfold pickOrder;have:=xl next xs.size 0 xs.toList #[] (by simp)
  simpa using this
theorem lJ (w:World) (S:Addr) (ep:Nat) (es:Array (Int×Value)):(pr w S ep es).toList.Perm es.toList:=za _ es
section
variable {prog:Program} {w:World} {A:Around} {E:Value->Shared->Prop} {s:Shared} {S I T:Addr} {es:Array (Int×Value)} {ep:Nat} {t:SetTable}
theorem se {first:Value} {i n:Nat} {Q:Value->Shared->Prop} (hit:s.heap.get? I=some (yD first i n ep S)) (q:Q (.ref I) s):wpAny (model prog w) A (pyIter (.ref I)) Q E s:=by
  have ty:s.TypeIs (.ref I) "set_iterator" := ⟨_,hit,rfl⟩
  refine wpAny_pyIter_slot ty xz (wpAny_call_entry xz ty Bx ?_ (DN _));show wpAny _ _ (ret (.ref I)) _ _ s;exact wpAny_pure ⟨_,rfl,"set_iterator",_,ty,lU.lookup,q⟩
theorem zu (hh:A.handled=none) (hb:mw w=true) (ne:S≠I):Walks prog w A I [I,S] [I] es.size (fun i v=>((pr w S ep es).toList.map (·.2))[i]?=some v) (fun i h=>h.get? I=some (yD (.int (0:Nat) 0) i es.size ep S)/\Si h S es ep t) where
  sub:=fun b hb=>by simp at hb;simp [hb]
  frame:=fun i h g st k=>⟨k I (by simp) _ st.1,st.2.keep fun u e=>k S (by simp) u e⟩
  item:=fun i s Q E lt st q=>by
    have ln:(pr w S ep es).toList.length=es.size:=by rw [(lJ w S ep es).length_eq];simp
    have lt':i < (pr w S ep es).toList.length:=by rw [ln];exact lt
    have e0:(pr w S ep es)[i]?=some ((pr w S ep es).toList[i]):=by rw [<- Array.getElem?_toList];exact List.getElem?_eq_getElem lt'
    refine xo (nx:=0) (x:=((pr w S ep es).toList[i]).2) st.1 st.2 (fun A' E' Q' z=>qH hb st.2 (by rw [e0];exact z)) fun g k e=>?_
    exact q _ g s.toks (by rw [List.getElem?_map,List.getElem?_eq_getElem lt'];rfl) ⟨e,st.2.keep fun u hu=>by rw [k.2 S ne];exact hu⟩ fun b o nb hb'=>by rw [k.2 b (by simpa using nb)];exact hb'
  done:=fun s Q E st q=>by
    have ln:(pr w S ep es).size=es.size:=by have:=(lJ w S ep es).length_eq;simpa using this
    refine A7 hh st.1 st.2 (fun A' E' Q' z=>qH hb st.2 (by rw [Array.getElem?_eq_none (by rw [ln];exact Nat.le_refl _)];exact z)) fun g k=>q g s.toks fun b o nb hb'=>k b o (by simpa using nb) hb'
  self:=fun i s Q E st q=>se st.1 q
noncomputable def pH (t:SetTable) (i:Nat):Nat:=if i=0 then 0 else t.place.getD (i-1) 0+1
theorem pI (hr:Rs t.place) {i:Nat} (hi:i<=t.place.size):SetTable.below t.place (pH t i)=i:=by
  refine zU hr hi (fun k hk=>?_) fun k h1 h2=>?_
  · unfold pH;rw [if_neg (by omega)];by_cases z:k=i-1
    · rw [z];omega
    · have:=hr k (i-1) (by omega) (by omega);omega
  · unfold pH;by_cases z:i=0
    · rw [if_pos z];exact Nat.zero_le _
    · rw [if_neg z];exact hr (i-1) k (by omega) h2
theorem zt (hh:A.handled=none) (hb:mw w=false) (ne:S≠I) (hl:t.led=true) (hr:Rs t.place) (hf:t.fits es.size=true) (hd:¬ ((!t.plain&&decide (es.size > 1))=true)) :
    Walks prog w A I [I,S] [I] es.size (fun i v=>(es.toList.map (·.2))[i]?=some v) (fun i h=>h.get? I=some (yD (.int (pH t i:Nat) 0) i es.size ep S)/\Si h S es ep t) where
  sub:=fun b hb=>by simp at hb;simp [hb]
  frame:=fun i h g st k=>⟨k I (by simp) _ st.1,st.2.keep fun u e=>k S (by simp) u e⟩
  item:=fun i s Q E lt st q=>by
    have ps:t.place.size=es.size:=by unfold SetTable.fits at hf;simp at hf;exact hf.1
    have bl:=pI hr (i:=i) (by omega);have e0:es[i]?=some es[i]:=Array.getElem?_eq_getElem lt;have e1:t.place[i]?=some (t.place.getD i 0):=qM (by omega);refine xo (nx:=t.place.getD i 0+1) (x:=es[i].2) st.1 st.2 (fun A' E' Q' z=>qG hb hl hd st.2 (by rw [bl,e0,e1];exact z)) fun g k e=>?_
    exact q _ g s.toks (by rw [List.getElem?_map,List.getElem?_eq_getElem (by simpa using lt)];simp) ⟨e,st.2.keep fun u hu=>by rw [k.2 S ne];exact hu⟩ fun b o nb hb'=>by rw [k.2 b (by simpa using nb)];exact hb'
  done:=fun s Q E st q=>by
    have ps:t.place.size=es.size:=by unfold SetTable.fits at hf;simp at hf;exact hf.1
    have bl:=pI hr (i:=es.size) (by omega);refine A7 hh st.1 st.2 (fun A' E' Q' z=>qG hb hl hd st.2 (by rw [bl,Array.getElem?_eq_none (Nat.le_refl _)];exact z)) fun g k=>q g s.toks fun b o nb hb'=>k b o (by simpa using nb) hb'
  self:=fun i s Q E st q=>se st.1 q
theorem wt (hh:A.handled=none) (ne:S≠I) (neT:T≠I) {pl:List Nat} (hp:pl.Perm (List.range es.size)) :
    Walks prog w A I [I,S,T] [I] es.size (fun i v=>(pl.map fun p=>(es.getD p (0,.none)).2)[i]?=some v) (fun i h=>h.get? I=some (yD (.ref T) i es.size ep S)/\h.get? T=some (BW pl)/\Si h S es ep t) where
  sub:=fun b hb=>by simp at hb;simp [hb]
  frame:=fun i h g st k=>⟨k I (by simp) _ st.1,k T (by simp) _ st.2.1,st.2.2.keep fun u e=>k S (by simp) u e⟩
  item:=fun i s Q E lt st q=>by
    have ln:pl.length=es.size:=by rw [hp.length_eq];simp
    have lt':i < pl.length:=by omega
    have mp:pl[i] < es.size:=List.mem_range.mp (hp.mem_iff.mp (List.getElem_mem lt'));have e0:es[pl[i]]?=some es[pl[i]]:=Array.getElem?_eq_getElem mp;refine Ct st.1 st.2.1 st.2.2 (List.getElem?_eq_getElem lt') e0 fun g k e=>?_
    exact q _ g s.toks (by rw [List.getElem?_map,List.getElem?_eq_getElem lt'];simp [Array.getD,mp]) ⟨e,by rw [k.2 T neT];exact st.2.1,st.2.2.keep fun u hu=>by rw [k.2 S ne];exact hu⟩ fun b o nb hb'=>by rw [k.2 b (by simpa using nb)];exact hb'
  done:=fun s Q E st q=>by
    have ln:pl.length=es.size:=by rw [hp.length_eq];simp
    exact EV hh st.1 st.2.1 st.2.2 (List.getElem?_eq_none (by omega)) fun g k=>q g s.toks fun b o nb hb'=>k b o (by simpa using nb) hb'
  self:=fun i s Q E st q=>se st.1 q
end
noncomputable def Wk (prog:Program) (w:World) (A:Around) (h0:Heap) (S I:Addr) (g:Heap) (ord:List Value):Prop :=
  ∃ fp St,Walks prog w A I fp [I] ord.length (fun i v=>ord[i]?=some v) St/\St 0 g/\∀ b∈fp,b=S\/h0.objs.size<=b
section
variable {prog:Program} {w:World} {A B:Around} {E:Value->Shared->Prop} {s:Shared} {S:Addr} {es:Array (Int×Value)} {t:SetTable}
theorem yY {pl:List Nat} (hp:pl.Perm (List.range es.size)):(pl.map fun p=>(es.getD p (0,.none)).2).Perm (es.toList.map (·.2)):=by
  refine (hp.map _).trans ?_;refine List.Perm.of_eq (List.ext_getElem (by simp) fun k h1 h2=>?_);simp at h1;simp [Array.getD,h1]
theorem AA {Q:Value->Shared->Prop} (hh:B.handled=none) (L:sF prog w s.heap S (!mw w) es t)
    (q:∀ (I:Addr) (g:Heap) (d:_) (ord:List Value),(∀ b o,s.heap.get? b=some o->g.get? b=some o)->s.heap.objs.size<=I->Wk prog w B s.heap S I g ord->ord.Perm (es.toList.map (·.2))->Q (.ref I) { s with heap:=g,drawn:=d }) :
    wpAny (model prog w) A (pyIter (.ref S)) Q E s:=by
  obtain ⟨u,ep,hu,hx,hd⟩:=L.obj;have I0:Si s.heap S es ep t:=⟨⟨u,hu,hx,hd⟩,L.fit⟩
  have ltS:=I0.lt;refine wpAny_pyIter_slot I0.ty PySem.F.slot_set_iter (wpAny_call_entry PySem.F.slot_set_iter I0.ty Bv ?_ (PySem.F.args_set_iter_1 _));unfold Builtin.«frozenset.__iter__»;refine wpAny_bind (wpAny_pure ?_);apply wpAny_bind;unfold Builtin.Frozenset.sizeOf;apply wpAny_bind;apply I0.count;apply wpAny_pure;apply wpAny_bind;unfold setDrawn;apply wpAny_bind;apply I0.state;dsimp only;apply wpAny_bind;apply lA;apply wpAny_pure;refine wpAny_ite_split (fun z=>?_) fun z=>?_
  · have hb:(!mw w&&(!t.plain&&decide (es.size > 1)))=true:=z;apply wpAny_bind;refine oQ es.size (List.range es.size) s _ (by simp) fun ys d pm=>?_
    apply wpAny_bind;have ln:ys.length=es.size:=by rw [pm.length_eq];simp
    refine wpAny_newTuple ?_ (by rw [List.length_map,ln];exact fits_of_scanBound L.few);apply wpAny_bind;unfold setEpoch;apply wpAny_bind;have I1:Si (s.heap.push (BW ys)) S es ep t:=I0.keep fun u e=>Heap.get?_push_of_some _ e
    refine Si.state (s:={ s with heap:=s.heap.push (BW ys),drawn:=d }) I1 ?_;apply wpAny_pure;refine wpAny_bind (wpAny_newObj_type ?_);have sz:(s.heap.push (BW ys)).objs.size=s.heap.objs.size+1:=Heap.size_push ..;refine wpAny_pure ⟨_,rfl,"set_iterator",_,⟨_,Heap.get?_push_size _ rfl,rfl⟩,lU.lookup,?_⟩;refine q (s.heap.push (BW ys)).objs.size _ d (ys.map fun p=>(es.getD p (0,.none)).2) (fun b o e=>Heap.get?_push_of_some _ (Heap.get?_push_of_some _ e)) (by rw [sz];exact Nat.le_succ _) ?_ (yY pm);refine ⟨[(s.heap.push (BW ys)).objs.size,S,s.heap.objs.size],(fun i h=>h.get? (s.heap.push (BW ys)).objs.size=some (yD (.ref s.heap.objs.size) i es.size ep S)/\h.get? s.heap.objs.size=some (BW ys)/\Si h S es ep t),?_,⟨Heap.get?_push_size _ rfl,Heap.get?_push_of_some _ (Heap.get?_push_size _ rfl),I1.keep fun u e=>Heap.get?_push_of_some _ e⟩,fun b hb=>?_⟩
    · rw [List.length_map,ln];exact wt (S:=S) (T:=s.heap.objs.size) hh (by rw [sz];exact Nat.ne_of_lt (Nat.lt_succ_of_lt ltS)) (by rw [sz];exact Nat.ne_of_lt (Nat.lt_succ_self _)) pm
    · simp only [List.mem_cons,List.not_mem_nil,or_false] at hb;rcases hb with rfl | rfl | rfl
      · exact .inr (by rw [sz];exact Nat.le_succ _)
      · exact .inl rfl
      · exact .inr (Nat.le_refl _)
  · have hb:¬ (!mw w&&(!t.plain&&decide (es.size > 1)))=true:=z;refine wpAny_bind (wpAny_pure ?_);apply wpAny_bind;unfold setEpoch;apply wpAny_bind;apply I0.state;apply wpAny_pure;refine wpAny_bind (wpAny_newObj_type ?_);refine wpAny_pure ⟨_,rfl,"set_iterator",_,⟨_,Heap.get?_push_size _ rfl,rfl⟩,lU.lookup,?_⟩;have ne:S≠s.heap.objs.size:=Nat.ne_of_lt ltS;have fpo:∀ b∈[s.heap.objs.size,S],b=S\/s.heap.objs.size<=b:=fun b hb=>by
      simp only [List.mem_cons,List.not_mem_nil,or_false] at hb;rcases hb with rfl | rfl
      · exact .inr (Nat.le_refl _)
      · exact .inl rfl
    cases bt:mw w with
    | true =>
      have ln:((pr w S ep es).toList.map (·.2)).length=es.size:=by rw [List.length_map,(lJ w S ep es).length_eq];simp
      refine q s.heap.objs.size _ s.drawn ((pr w S ep es).toList.map (·.2)) (fun b o e=>Heap.get?_push_of_some _ e) (Nat.le_refl _) ⟨[s.heap.objs.size,S],(fun i h=>h.get? s.heap.objs.size=some (yD (.int (0:Nat) 0) i es.size ep S)/\Si h S es ep t),?_,⟨Heap.get?_push_size _ rfl,I0.keep fun u e=>Heap.get?_push_of_some _ e⟩,fpo⟩ ((lJ w S ep es).map _);rw [ln];exact zu (t:=t) hh bt ne
    | false =>
      have nd:¬ ((!t.plain&&decide (es.size > 1))=true):=fun y=>hb (by rw [bt,y];rfl)
      have hl:t.led=true:=by rw [L.tab.1,bt];rfl
      have ln:(es.toList.map (·.2)).length=es.size:=by simp
      refine q s.heap.objs.size _ s.drawn (es.toList.map (·.2)) (fun b o e=>Heap.get?_push_of_some _ e) (Nat.le_refl _) ⟨[s.heap.objs.size,S],(fun i h=>h.get? s.heap.objs.size=some (yD (.int (pH t i:Nat) 0) i es.size ep S)/\Si h S es ep t),?_,⟨Heap.get?_push_size _ rfl,I0.keep fun u e=>Heap.get?_push_of_some _ e⟩,fpo⟩ (List.Perm.refl _);rw [ln];exact zt (t:=t) hh bt ne hl L.tab.2 L.fit nd
end
section
variable {prog:Program} {w:World} {A:Around} {E:Value->Shared->Prop} {s:Shared} {S:Addr} {es:Array (Int×Value)} {t:SetTable}
theorem sF.keep {h g:Heap} {b:Bool} (L:sF prog w h S b es t) (k:∀ u,h.get? S=some u->g.get? S=some u):sF prog w g S b es t:=by
  obtain ⟨u,ep,hu,r⟩:=L.obj;exact ⟨⟨u,ep,k u hu,r⟩,L.elm,L.few,L.fit,L.tab⟩
noncomputable abbrev Ed (acc:Array Value) (c:Nat):Obj:={ cls:=.type "list",dict:=none,data:=.seq acc c,slots:=#[] }
theorem vz {R:Result->Shared->Prop} {D:Addr} {res:Value} (hh:A.handled=none) (L:sF prog w s.heap S (!mw w) es t) (ne:D≠S) (hD:s.heap.get? D=some (Ed #[] 0))
    (q:∀ (g:Heap) (tk:Nat) (d:_) (acc:Array Value) (c:Nat),(∀ b o,b≠D->s.heap.get? b=some o->g.get? b=some o)->g.get? D=some (Ed acc c)->acc.toList.Perm (es.toList.map (·.2))->R (.ok (.ret res)) { s with heap:=g,toks:=tk,drawn:=d }) :
    wpAny (model prog w) A.in1 (Builtin.List.listExtendWith (.ref D) (.ref S) res) (fun fin s'=>match fin with | .done f=>R (.ok f) s' | .again c'=>c'.quiet=true/\codeAny (model prog w) A c' R s') (fun e s'=>R (.error e) s') s:=by
  obtain ⟨u,ep,hu,hx,hd⟩:=L.obj;have ty:s.TypeIs (.ref S) "set" := ⟨u,hu,hx.1⟩
  have ltD:=Heap.lt_size hD;unfold Builtin.List.listExtendWith;refine wpAny_bind (wpAny_typeOf ty ?_);have e1:Builtin.List.listSameRef (.ref D) (.ref S)=false:=by simp [Builtin.List.listSameRef,ne]
  have e2:(Value.type "set" == Value.type "list")=false:=by decide
  have e3:(Value.type "set" == Value.type "tuple")=false:=by decide
  simp only [e1,e2,e3,Bool.or_false,Bool.false_eq_true,if_false];apply wpAny_bind;refine AA (B:=A.in1) hh L fun I g d ord kp hI W pm=>?_
  obtain ⟨fp,St,W,st,hfp⟩:=W;have Df:D∉fp:=fun z=>by
    rcases hfp D z with y | y
    · exact ne y
    · exact absurd ltD (Nat.not_lt.mpr y)
  have hD1:=kp D _ hD;have ty1:Shared.TypeIs { s with heap:=g,drawn:=d } (.ref S) "set" := ⟨u,kp S u hu,hx.1⟩
  refine wpAny_bind (wpAny_holding (Bq ty1 ?_));have ln:ord.length<=sizeLine:=by
    rw [pm.length_eq,List.length_map,Array.length_toList];exact fits_of_scanBound L.few
  have key:∀ (g2:Heap) (c tk:Nat),St 0 g2->(∀ b o,b≠D->s.heap.get? b=some o->g2.get? b=some o)->g2.get? D=some (Ed #[] c)->codeAny (model prog w) A (.builtin "list.extend.loop" ⟨[.ref D,.ref I,res],[]⟩) R { s with heap:=g2,toks:=tk,drawn:=d }:=fun g2 c tk st2 k2 hD2=>by
    refine codeAny_extend_loopS W.toS ln D Df res ord.length 0 _ #[] c rfl (Nat.zero_le _) st2 hD2 (ItemsOf.nil _) fun s3 acc c3 mv hD3 hacc=>?_
    have ea:acc.toList=ord:=by
      refine List.ext_getElem (by rw [Array.length_toList];exact hacc.1) fun k h1 h2=>?_
      have:=hacc.2 k acc[k] (Array.getElem?_eq_getElem (by simpa using h1));dsimp only at this;rw [List.getElem?_eq_getElem h2] at this;simpa using (Option.some.inj this).symm
    rw [Moved.eq_with mv];refine q s3.heap s3.toks d acc c3 (fun b o nb e=>mv.heap b o (fun z=>?_) (k2 b o nb e)) hD3 (by rw [ea];exact pm);rcases List.mem_cons.mp z with y | y
    · exact nb y
    · rw [List.mem_singleton.mp y] at e;exact absurd (Heap.lt_size e) (Nat.not_lt.mpr hI)
  refine wpAny_ite_split (fun _=>?_) fun _=>wpAny_pure ⟨plainId_quiet PySem.F.plain_extend_loop _,key g 0 _ st (fun b o _ e=>kp b o e) hD1⟩
  refine wpAny_bind (wpAny_rule ?_);apply wpAny_bind;show wpAny _ _ (updateSeq D (·.push .none)>>=fun _=>updateSeq D (·.pop)) _ _ _;refine wpAny_bind (wpAny_updateSeq hD1 rfl ?_);have hD2:=Heap.get?_update_self (Obj.mapSeq (·.push Value.none)) hD1 rfl;refine wpAny_updateSeq (hz:=by seq_fits) hD2 rfl ?_;have hD3:=Heap.get?_update_self (Obj.mapSeq (·.pop)) hD2 rfl;have oth:∀ b o,b≠D->g.get? b=some o->((g.update D (Obj.mapSeq (·.push Value.none))).update D (Obj.mapSeq (·.pop))).get? b=some o:=fun b o nb e=>(Heap.get?_update_other _ _ (Ne.symm nb)).trans ((Heap.get?_update_other _ _ (Ne.symm nb)).trans e)
  exact wpAny_pure ⟨plainId_quiet PySem.F.plain_extend_loop _,key _ _ _ (W.frame 0 _ _ st fun b hb o e=>oth b o (fun z=>Df (z ▸ hb)) e) (fun b o nb e=>oth b o nb (kp b o e)) hD3⟩
theorem tP {R:List Value->Shared->Prop} (hh:A.handled=none) (L:sF prog w s.heap S (!mw w) es t)
    (q:∀ (g:Heap) (tk:Nat) (d:_) (vs:List Value),(∀ b o,s.heap.get? b=some o->g.get? b=some o)->vs.Perm (es.toList.map (·.2))->R vs { s with heap:=g,toks:=tk,drawn:=d }):wpAny (model prog w) A (collect (.ref S)) R E s:=by
  have ltS:S < s.heap.objs.size:=let ⟨_,_,hu,_⟩:=L.obj;Heap.lt_size hu
  unfold collect;refine wpAny_bind (wpAny_runValue (codeAny_builtin entry_proto_collect' ?_));rw [Around.under_plainId PySem.F.plain_proto_collect _];show wpAny _ A.in1 (newList []>>=fun l=>again (.builtin "list.__iadd__" ⟨[l,.ref S],[]⟩)) _ _ s;refine wpAny_bind (wpAny_newObj_type ?_);refine wpAny_pure ⟨plainId_quiet PySem.F.plain_list_iadd _,codeAny_builtin entry_list_iadd' ?_⟩;rw [Around.under_plainId PySem.F.plain_list_iadd _];have at0:(s.heap.push (Ed ([]:List Value).toArray 0)).get? s.heap.objs.size=some (Ed #[] 0):=Heap.get?_push_size _ rfl;show wpAny _ A.in1 (Builtin.List.listExtendWith (.ref s.heap.objs.size) (.ref S) (.ref s.heap.objs.size)) _ _ _;have L1:sF prog w (s.heap.push (Ed ([]:List Value).toArray 0)) S (!mw w) es t:=L.keep fun u e=>Heap.get?_push_of_some _ e
  have main:=vz (A:=A) (s:={ s with heap:=s.heap.push (Ed ([]:List Value).toArray 0) }) (res:=.ref s.heap.objs.size)
    (R:=fun r s'=>∃ (g:Heap) (tk:Nat) (d:Drawn) (acc:Array Value) (c:Nat),r=.ok (.ret (.ref s.heap.objs.size))/\s'={ s with heap:=g,toks:=tk,drawn:=d }/\(∀ b o,s.heap.get? b=some o->g.get? b=some o)/\g.get? s.heap.objs.size=some (Ed acc c)/\acc.toList.Perm (es.toList.map (·.2)))
    hh L1 (Nat.ne_of_gt ltS) at0 fun g tk d acc c kp hg pm=>⟨g,tk,d,acc,c,rfl,rfl,fun b o e=>kp b o (Nat.ne_of_lt (Heap.lt_size e)) (Heap.get?_push_of_some _ e),hg,pm⟩
  refine wpAny_mono main (fun fin s' x=>?_) fun e s' x=>?_
  · cases fin with
    | done f =>
      obtain ⟨g,tk,d,acc,c,e,rfl,kp,hg,pm⟩:=x;cases e;show wpAny _ A (load s.heap.objs.size>>=_) _ _ _;exact wpAny_bind (wpAny_load hg (wpAny_pure (q g tk d acc.toList kp pm)))
    | again c₁ =>
      refine ⟨x.1,codeAny_mono x.2 fun r s₂ y=>?_⟩;obtain ⟨g,tk,d,acc,c,rfl,rfl,kp,hg,pm⟩:=y;show wpAny _ A (load s.heap.objs.size>>=_) _ _ _;exact wpAny_bind (wpAny_load hg (wpAny_pure (q g tk d acc.toList kp pm)))
  · obtain ⟨_,_,_,_,_,e',_⟩:=x;cases e'
end
end D2
namespace D2
open PySem PySem.Spec PyProof.Rows L2
noncomputable def zD (ns:List Int):List Int:=ns.foldl step_dedup []
theorem vM (ns:List Int):firstMet (fun i=>ns.getD i 0) ns.length=zD ns:=by
  unfold firstMet zD;congr 1;refine List.ext_getElem (by simp) fun k h1 h2=>?_
  simp [List.getD,List.getElem?_eq_getElem h2]
theorem Ag (ns:List Int):(zD ns).length<=ns.length:=by
  rw [<- vM];exact firstMet_length_le _ _
theorem qx:∀ (vs:List Value),(∀ v∈vs,∃ n tk,v=.int n tk)->IntsAre vs (vs.map yF)
  | [],_=>.nil
  | v::vs,h=>by
    obtain ⟨n,tk,rfl⟩:=h v List.mem_cons_self;exact .cons n tk (qx vs fun u hu=>h u (List.mem_cons_of_mem _ hu))
section
variable {prog:Program} {w:World} {A:Around} {E:Value->Shared->Prop} {s:Shared} {S:Addr}
theorem wc {l:List Int} {Q:Value->Shared->Prop} (hh:A.handled=none) (X:nP prog w s.heap S (!mw w) l) (h64:l.length < 64)
    (q:∀ (D:Addr) (g:Heap) (tk:Nat) (d:_) (vs:List Value) (e:Nat),s.heap.get? D=none->(∀ b o,s.heap.get? b=some o->g.get? b=some o)->g.get? D=some (seqObj "list" vs.toArray e)->IntsAre vs (eo l)->Q (.ref D) { s with heap:=g,toks:=tk,drawn:=d }) :
    wpAny (model prog w) A (call (.builtin "sorted") [.ref S]) Q E s:=by
  obtain ⟨es,t,L,pm⟩:=X;refine Calls.call_function_entry kind_sorted plain_sorted entry_sorted (args_sorted1 _) ?_;unfold Builtin.«sorted»;refine wpAny_bind (m:=checkCount "sorted" 1 1 _) (wpAny_pure ?_);refine wpAny_bind (tP (A:=A.in1) hh L fun g tk d vs kp pv=>?_);have hv:∀ v∈vs,∃ n tk,v=.int n tk:=fun v hv=>by
    obtain ⟨e,he,rfl⟩:=List.mem_map.mp (pv.mem_iff.mp hv);obtain ⟨⟨k,hk,_⟩,_⟩:=L.elm e he;obtain ⟨tk,z⟩:=Value.isInt_shape (k:=k) (v:=e.2) hk;exact ⟨k,tk,z⟩
  have hI:=qx vs hv;have pl:(vs.map yF).Perm l:=by
    refine (pv.map yF).trans ?_;rw [List.map_map];exact pm
  have ln:vs.length=l.length:=by have:=pl.length_eq;rwa [List.length_map] at this
  refine wpAny_bind (wpAny_newList ?_ (by rw [ln,sizeLine_eq];omega));have at0:(g.push (seqObj "list" vs.toArray 0)).get? g.objs.size=some (seqObj "list" vs.toArray 0):=Heap.get?_push_size _ rfl;show wpAny _ _ _ _ _ { s with heap:=g.push (seqObj "list" vs.toArray 0),toks:=tk,drawn:=d };refine wpAny_bind (wpAny_holding (wpAny_call_entry slot_list_sort ⟨_,at0,rfl⟩ entry_list_sort (list_sort_tree at0 hI (by rw [ln];exact h64) fun out ns' a1 a2 a3=>⟨_,rfl,?_⟩) (args_list_sort _)));refine wpAny_pure ⟨_,rfl,?_⟩;obtain ⟨e,he⟩:=sortedHeap_at (out:=out) at0;have fr:s.heap.get? g.objs.size=none:=by
    cases z:s.heap.get? g.objs.size with
    | none=>rfl
    | some o=>exact absurd (Heap.lt_size (kp _ _ z)) (Nat.lt_irrefl _)
  refine q g.objs.size _ tk d out.toList e fr (fun b o z=>?_) he (by rw [pL (a2.trans pl) a3] at a1;exact a1);have z1:=kp b o z;have lt:b < g.objs.size:=Heap.lt_size z1;show (sortedHeap (g.push (seqObj "list" vs.toArray 0)) g.objs.size vs out).get? b=some o;rw [sortedHeap_old (Nat.ne_of_lt lt) (by rw [size_push'];exact Nat.lt_succ_of_lt lt)];exact Heap.get?_push_of_some _ z1
end
theorem yz {X:Cx} {pins:List (Addr×Obj)} {σ:St} {H:Hp} {s:Shared} {h':Heap} {a:Addr} {o:HO} {t':Nat} {d':Drawn} (I:aX X pins σ H s) (k:∀ b u,s.heap.get? b=some u->h'.get? b=some u) (hg:s.heap.get? a=none) (hn:H a=none)
    (new:cm X.prog X.w (cQ H a o) h' a o):aX X pins σ (cQ H a o) { s with heap:=h',toks:=t',drawn:=d' }:=by
  have J:=o5 (t':=t') I k hg hn new;exact ⟨J.ok,J.os,J.bare,J.base,J.loc,J.cell,J.free,J.freeC,J.pin,J.hok,J.len⟩
section
variable {X:Cx} {a b c:Expr} {fa fb fc:Fe} {pos p2:Pos} {nl:Nat} {G:List Str} {x:Str} {p p1:Pos} {pos1:Pos} {t:TA}
noncomputable def JV (K:PySem.W.Frag):List V->Hp->VK->Prop:=fun xs H Q=>∃ p ns,xs=[.ref p]/\(nQ K H p (ns.map V.int)\/ie K H p (ns.map V.int))/\ns.length < 64/\∀ l,H l=none->Q (.ref l) (cQ H l (.lst ((eo (zD ns)).map V.int)))
theorem Ci (hc:X.calm=true) {pins:List (Addr×Obj)} {s:Shared} {σ:St} {H:Hp} {vs:List V} {us:List Value} {Q:VK} (I:aX X pins σ H s) (r:bR vs us) (h:JV X.K vs H Q) :
    wpAny (model X.prog X.w) X.A (call (.type "set") us) (fun v s1=>wpAny (model X.prog X.w) X.A (call (.builtin "sorted") [v]) (EP X pins σ Q) X.xe s1) X.xe s:=by
  obtain ⟨p,ns,rfl,hq,h64,q⟩:=h;obtain ⟨u,rfl,rx⟩:=gu r;cases rx;have hh:=I.ok.hd hc;have few:ns.length+1 < scanBound:=by have:scanBound=4096:=rfl;omega
  have fin:∀ (g:Heap) (tk:Nat) (S:Addr),nP X.prog X.w g S (!mw X.w) (zD ns)->(∀ b o,s.heap.get? b=some o->g.get? b=some o)->wpAny (model X.prog X.w) X.A (call (.builtin "sorted") [.ref S]) (EP X pins σ Q) X.xe { s with heap:=g,toks:=tk }:=fun g tk S Y kp=>by
    have dl:=Ag ns;refine wc (s:={ s with heap:=g,toks:=tk }) hh Y (by omega) fun D g2 tk2 d vs e hg kp2 hD hI=>?_
    have hg0:s.heap.get? D=none:=by
      cases z:s.heap.get? D with
      | none=>rfl
      | some o=>rw [kp D o z] at hg;cases hg
    have hn:=o6 I hg0;refine ⟨.ref D,_,yz (s:=s) (t':=tk2) (d':=d) (o:=.lst ((eo (zD ns)).map V.int)) I (fun b o z=>kp2 b o (kp b o z)) hg0 hn ⟨?_,vs,e,iG hI,by simpa [seqObj] using hD⟩,rfl,q _ hn⟩;rw [List.length_map,kq,sizeLine_eq];omega
  rcases hq with hq | hq
  · obtain ⟨its,rv,pl,hz⟩:=I.list hq;have hI:IntsAre its ns:=fP rv;have ln:=IntsAre.length hI;refine tN (Bu (prog:=X.prog) (w:=X.w) (a:=p) (items:=its.toArray) (ns:=ns) (by simpa using hI)) hh pl.isList (by simp;omega) fun g tk Y kp=>?_
    rw [show its.toArray.size=ns.length by simp [ln],vM] at Y;exact fin g tk _ Y kp
  · obtain ⟨its,rv,pl,hz⟩:=I.tuple hq;have hI:IntsAre its ns:=fP rv;have ln:=IntsAre.length hI;refine tN (zj (prog:=X.prog) (w:=X.w) (a:=p) (items:=its.toArray) (ns:=ns) (by simpa using hI)) hh pl (by simp;omega) fun g tk Y kp=>?_
    rw [show its.toArray.size=ns.length by simp [ln],vM] at Y;exact fin g tk _ Y kp
theorem Hk (hc:X.calm=true) (hg1:Gl X "sorted") (hm1:X.mg "sorted" = none) (hg2:Gl X "set") (hm2:X.mg "set" = none) (ha:PA X [a] t) (he:starEach [a] X.env=[(false,eval a X.env)]) :
    PE X (.Call (.Name "sorted" p) [.Call (.Name "set" p1) [a] [] pos1] [] pos) (IL (JV X.K) t):=by
  intro pins s σ H Q I h;refine wpAny_Call_Name_kw (h9 I hg1 hm1 PyProof.Rows.boot_sorted ?_);refine PyProof.Rows.callWith_builtin1 ?_ rfl rfl;refine Calls.spliced_cons (wpAny_Call_Name_kw (h9 I hg2 hm2 PyProof.Rows.boot_set ?_));refine PyProof.Rows.callWith_type1 (du (ha pos1 pins s σ H _ I h) fun us s1 zq0=>?_) he rfl;obtain ⟨vs,H1,I1,r1,q1⟩:=zq0;exact du (Ci hc I1 r1 q1) fun v s2 z=>Calls.spliced_nil z
noncomputable def Gi:PyData->R PyData
  | .list ds=>match ce ds with
    | some ns=>if ns.length < 64 then .ok (.list ((eo (zD ns)).map PyData.int)) else .no
    | none=>.no
  | .tuple ds=>match ce ds with
    | some ns=>if ns.length < 64 then .ok (.list ((eo (zD ns)).map PyData.int)) else .no
    | none=>.no
  | _=>.no
theorem zR (T:Tb X nl G) (j k:Nat) (hG:G[j]?=some ("sorted" : Str)) (hm:X.mg "sorted" = none) (hG2:G[k]?=some ("set" : Str)) (hm2:X.mg "set" = none) (ha:Z.dM X a fa) (he:bq a=true:=by rfl):Z.l5 X (.Call (.Name "sorted" p) [.Call (.Name "set" p1) [a] [] pos1] [] pos) (e1 Gi fa):=⟨have ha:=ha.un;by
  have q1:=T.gl "sorted" (List.mem_of_getElem? hG);have q2:=T.gl "set" (List.mem_of_getElem? hG2);have sa:starEach [a] X.env=[(false,eval a X.env)]:=bP he;show PE X _ (jt X EB (e1 Gi fa));rw [<- vQ];refine PE.imp (Hk T.calm q1.1 hm q2.1 hm2 (lG ha rV he) sa) (wG Ai (wf fun H x d Q hx q=>?_));cases d with
  | list ds =>
    simp only [Gi] at q;cases ei:ce ds with
    | none=>rw [ei] at q;exact q.elim
    | some ns =>
      rw [ei] at q;dsimp only at q;by_cases h64:ns.length < 64
      · rw [if_pos h64] at q;obtain ⟨a',vs,rfl,h,r⟩:=eS (K:=X.K) hx;rw [eh ei] at r;rw [iA r] at h;exact ⟨a',ns,rfl,.inl h,h64,fun l hl=>q _ _ (cz hl _) (dn hl (bO.ints _))⟩
      · rw [if_neg h64] at q;exact q.elim
  | tuple ds =>
    simp only [Gi] at q;cases ei:ce ds with
    | none=>rw [ei] at q;exact q.elim
    | some ns =>
      rw [ei] at q;dsimp only at q;by_cases h64:ns.length < 64
      · rw [if_pos h64] at q;obtain ⟨a',vs,rfl,h,r⟩:=cM hx;rw [eh ei] at r;rw [iA r] at h;exact ⟨a',ns,rfl,.inr (.inl (.inl h)),h64,fun l hl=>q _ _ (cz hl _) (dn hl (bO.ints _))⟩
      · rw [if_neg h64] at q;exact q.elim
  | _=>exact q.elim⟩
end
noncomputable def sK (X:Cx) (k:Nat):Prop:=∀ x∈X.N.drop k,X.env.kindOf x=some .cell\/X.env.kindOf x=some .free
theorem EM {X:Cx} {sc:Scope} {N:List Str} {own:Nat} {G oN:List Str} {fr:List Nat} (ck:dS sc N own G oN fr) (cl:List (Str×Addr)) (C:Addr) (s:Shared) (H:Hp) (fp:List Addr) (E:Value->Shared->Prop):sK (aQ X N sc cl C s H fp E) own:=by
  obtain ⟨_,_,_,_,_,f,_,_,_,_⟩:=ck;intro x hx;rcases i7 (env:=X.env) (f x hx) with q | q
  · exact .inr q
  · exact .inl q
theorem ym {X:Cx} {tg iter elt:Expr} {ifs:List Expr} {sc:Scope} {pos:Pos} {it:aS->R (List PyData)} {b:PyData->aS->Option aS} {t:aS->R Bool} {f:Fe} {N:List Str} {own:Nat} {G G0:List Str} {fr:List Nat} {nl:Nat}
    (T:Tb X nl G0) {oN:List Str} {on:List (Str×NameKind)} (hoN:X.N=oN) (hon:X.env.scope.names=on)
    (ck:dS sc N own G oN fr/\∀ y∈sc.names,y.2=.free->on.lookup y.1=some .cell\/on.lookup y.1=some .free) (hi:rd X tg iter it)
    (hb0:∀ ρ d ρ1,b d (az own fr ρ)=some ρ1->kx (az own fr ρ) ρ1)
    (hbodyO:∀ cl C s H fp E,Tb (aQ X N sc cl C s H fp E) own G->sK (aQ X N sc cl C s H fp E) own->sE (aQ X N sc cl C s H fp E) tg b/\sS (aQ X N sc cl C s H fp E) ifs t/\cX (aQ X N sc cl C s H fp E) elt f)
    (hs:∀ x,foldedSetIterable iter X.env x=pure x:=by intro _;rfl) (hstk:∃ env0 outer0 L,X.stack=env0::outer0/\env0.frame=some L/\X.env.frame=some L:=by exact ⟨_,_,_,rfl,rfl,rfl⟩):l5 X (.ListComp elt [⟨tg,iter,ifs,0⟩] sc pos) (bL it own fr b t f) :=
  qr T hoN hon ck hi hb0 (fun cl C s H fp E T'=>hbodyO cl C s H fp E T' (EM ck.1 cl C s H fp E)) hs hstk
theorem tG {X:Cx} {tg iter elt:Expr} {ifs:List Expr} {sc:Scope} {pos:Pos} {it:aS->R (List PyData)} {b:PyData->aS->Option aS} {t:aS->R Bool} {f:Fe} {N:List Str} {own:Nat} {G G0:List Str} {fr:List Nat} {nl:Nat} (T:Tb X nl G0) {oN:List Str} {on:List (Str×NameKind)} (hoN:X.N=oN) (hon:X.env.scope.names=on) (ck:dS sc N own G oN fr/\∀ y∈sc.names,y.2=.free->on.lookup y.1=some .cell\/on.lookup y.1=some .free) (hi:Z.rd X tg iter it) (hb0:∀ ρ d ρ1,b d (az own fr ρ)=some ρ1->kx (az own fr ρ) ρ1) (hbodyO:∀ cl C s H fp E,Tb (aQ X N sc cl C s H fp E) own G->sK (aQ X N sc cl C s H fp E) own->Z.sE (aQ X N sc cl C s H fp E) tg b/\Z.sS (aQ X N sc cl C s H fp E) ifs t/\Z.cX (aQ X N sc cl C s H fp E) elt f) (hs:∀ x,foldedSetIterable iter X.env x=pure x:=by intro _;rfl) (hstk:∃ env0 outer0 L,X.stack=env0::outer0/\env0.frame=some L/\X.env.frame=some L:=by exact ⟨_,_,_,rfl,rfl,rfl⟩):Z.l5 X (.ListComp elt [⟨tg,iter,ifs,0⟩] sc pos) (bL it own fr b t f) :=
  ⟨D2.ym T hoN hon ck hi.un hb0 (fun cl C s H fp E T cap=>let ⟨q1,q2,q3⟩:=hbodyO cl C s H fp E T cap;⟨q1.un,q2.un,q3.un⟩) hs hstk⟩
theorem yk {X:Cx} {tg iter elt:Expr} {ifs:List Expr} {sc:Scope} {pos:Pos} {it:aS->R (List PyData)} {b:PyData->aS->Option aS} {t:aS->R Bool} {f:Fe} {N:List Str} {own:Nat} {G G0:List Str} {fr:List Nat} {nl k:Nat}
    (T:Tb X nl G0) {oN:List Str} (hoN:X.N=oN) (cap:sK X k)
    (ck:dS sc N own G oN fr/\∀ y∈sc.names,y.2=.free->y.1∈oN.drop k) (hi:rd X tg iter it)
    (hb0:∀ ρ d ρ1,b d (az own fr ρ)=some ρ1->kx (az own fr ρ) ρ1)
    (hbody:∀ cl C s H fp E,Tb (aQ X N sc cl C s H fp E) own G->sE (aQ X N sc cl C s H fp E) tg b/\sS (aQ X N sc cl C s H fp E) ifs t/\cX (aQ X N sc cl C s H fp E) elt f)
    (hs:∀ x,foldedSetIterable iter X.env x=pure x:=by intro _;rfl) (hstk:∃ env0 outer0 L,X.stack=env0::outer0/\env0.frame=some L/\X.env.frame=some L:=by exact ⟨_,_,_,rfl,rfl,rfl⟩):l5 X (.ListComp elt [⟨tg,iter,ifs,0⟩] sc pos) (bL it own fr b t f) :=
  oV T (by rw [hoN];exact ck.1) (fun y hy hf=>cap y.1 (by rw [hoN];exact ck.2 y hy hf)) hi hb0 hbody hs hstk
theorem tF {X:Cx} {tg iter elt:Expr} {ifs:List Expr} {sc:Scope} {pos:Pos} {it:aS->R (List PyData)} {b:PyData->aS->Option aS} {t:aS->R Bool} {f:Fe} {N:List Str} {own:Nat} {G G0:List Str} {fr:List Nat} {nl k:Nat} (T:Tb X nl G0) {oN:List Str} (hoN:X.N=oN) (cap:sK X k) (ck:dS sc N own G oN fr/\∀ y∈sc.names,y.2=.free->y.1∈oN.drop k) (hi:Z.rd X tg iter it) (hb0:∀ ρ d ρ1,b d (az own fr ρ)=some ρ1->kx (az own fr ρ) ρ1) (hbody:∀ cl C s H fp E,Tb (aQ X N sc cl C s H fp E) own G->Z.sE (aQ X N sc cl C s H fp E) tg b/\Z.sS (aQ X N sc cl C s H fp E) ifs t/\Z.cX (aQ X N sc cl C s H fp E) elt f) (hs:∀ x,foldedSetIterable iter X.env x=pure x:=by intro _;rfl) (hstk:∃ env0 outer0 L,X.stack=env0::outer0/\env0.frame=some L/\X.env.frame=some L:=by exact ⟨_,_,_,rfl,rfl,rfl⟩):Z.l5 X (.ListComp elt [⟨tg,iter,ifs,0⟩] sc pos) (bL it own fr b t f) :=
  ⟨D2.yk T hoN cap ck hi.un hb0 (fun cl C s H fp E T=>let ⟨q1,q2,q3⟩:=hbody cl C s H fp E T;⟨q1.un,q2.un,q3.un⟩) hs hstk⟩
theorem wm (l:Addr) (items:Array Value) (n:Nat) (dd:Option Addr) (sl:Array (Option Value)) (x:Int) (u:Tok) (h1:-(2 ^ 63)<=x) (h2:x < 2 ^ 63) (h0:(items.isEmpty||x==1)=true) :
    Meets (Builtin.«tuple.__mul__» ⟨[.ref l,.int x u],[]⟩) (fun _ R s=>s.heap.get? l=some { cls:=.type "tuple",dict:=dd,data:=.seq items n,slots:=sl }/\R (.ok (.ret (.ref l))) s) :=
  .of_wp fun prog w A R s h=>by
    obtain ⟨hp,g,d,tk,os⟩:=s;obtain ⟨hl,h⟩:=h;have f1:=AutoSeq1.idx_int;have f2:=AutoSeq1.sub_tuple_tuple;have e0:(decide (x < -2 ^ 63)||decide (x>=2 ^ 63))=false:=by
      rw [decide_eq_false (by omega),decide_eq_false (by omega)];rfl
    wp_walk using wpAny_loadPart' hl
    refine wpAny_ite_false (decide_eq_false (by rw [e0];exact Bool.false_ne_true)) ?_
    wp_walk using wpAny_loadPart' hl
    exact ⟨_,rfl,h⟩
section
variable {X:Cx} {a b c:Expr} {fa fb fc:Fe} {pos:Pos} {nl:Nat} {G:List Str} {x:Str} {p:Pos}
noncomputable def Ek (K:PySem.W.Frag):R2:=fun x y H Q=>∃ l k xs,x=.ref l/\y=.int k/\ie K H l xs/\(xs=[]\/k=1)/\0<=k/\k < 2 ^ 63/\Q (.ref l) H
theorem De:jr X (binaryOp .Mult) (Ek X.K):=by
  intro pins s σ H x y v u Q I rx ry h;obtain ⟨l,k,xs,rfl,rfl,hH,hor,h1,h2,q⟩:=h;cases rx;obtain ⟨t,rfl⟩:=ry;obtain ⟨its,r,pl,hz0⟩:=I.tuple hH;obtain ⟨⟨cls,dd,data,sl⟩,e,hc,n,hd⟩:=id pl;simp only at hc hd;subst hc hd;have hl:=r.length;have h0:(its.toArray.isEmpty||k==1)=true:=by
    rcases hor with z | z
    · rw [z] at hl;have:its=[]:=List.length_eq_zero_iff.mp hl.symm;rw [this];rfl
    · rw [z];simp
  refine wpAny_binaryOp_repeat_ref (T := "tuple") (U := "int") (by decide) ⟨_,e,rfl⟩ (fun s'=>typeIs_int s' k t) iw F.fills_int_mul F.slot_int_rmul lM F.slot_int_index.lookup
    (call_meets F.slot_int_rmul (typeIs_int s k t) F.entry_int_rmul (F.args_int_rmul_2 _ _) (jK k t l its.toArray n dd sl)
      ⟨e,rfl,⟨_,e,rfl⟩,call_meets F.slot_tuple_mul ⟨_,e,rfl⟩ F.entry_tuple_mul (F.args_tuple_mul_2 _ _) (wm l its.toArray n dd sl k t (by omega) h2 h0) ⟨e,?_⟩⟩)
  exact ⟨.ref l,H,I,rfl,q⟩
noncomputable def mY:PyData->PyData->R PyData
  | .tuple xs,.int k=>if (xs=[]\/k=1)/\0<=k/\k < 2 ^ 63 then .ok (.tuple xs) else if xs≠[]/\2<=k/\k < 2 ^ 63/\xs.length*k.toNat<=sizeLine then .ok (.tuple (List.replicate k.toNat xs).flatten) else .no
  | _,_=>.no
theorem DL:cH X h7 (fun x y H Q=>Ek X.K x y H Q\/Bc X.K x y H Q) mY:=fun H x y dx dy Q hx hy q=>by
  cases dx with
  | tuple ds =>
    cases dy with
    | int k =>
      simp only [mY] at q;obtain ⟨a',vs,rfl,h,r⟩:=cM hx;have hlen:=r.length;by_cases hz:(ds=[]\/k=1)/\0<=k/\k < 2 ^ 63
      · rw [if_pos hz] at q;refine .inl ⟨a',k,vs,rfl,cb hy,.inl (.inl h),?_,hz.2.1,hz.2.2,q _ H (aI.refl _) ?_⟩
        · rcases hz.1 with z | z
          · left;rw [z] at hlen;exact List.length_eq_zero_iff.mp (hlen.trans rfl)
          · exact .inr z
        · simp only [Rp];exact ⟨a',vs,rfl,h,r⟩
      · rw [if_neg hz] at q;split at q
        · rename_i hy';obtain ⟨q1,q2,q3,q4⟩:=hy';exact .inr ⟨a',k,vs,rfl,cb hy,.inl (.inl h),fun z=>q1 (List.length_eq_zero_iff.mp (by rw [<- hlen,z];rfl)),q2,q3,by rw [hlen];exact q4,fun p hp=>q _ _ (cz hp _) (dJ hp (r.rep k.toNat))⟩
        · exact q.elim
    | _=>exact q.elim
  | _=>exact q.elim
theorem xV (ha:Z.dM X a fa) (hb:Z.dM X b fb):Z.cX X (.BinOp a .Mult b pos) (e2 mY fa fb):=⟨have ha:=ha.un;have hb:=hb.un;mE fM (De.or xh) DL ha hb⟩
end
section
variable {prog:Program} {w:World} {A:Around} {E:Value->Shared->Prop} {s:Shared}
noncomputable abbrev vG (vs:Array Value) (x:Value):Nat->Option PySem.Fin×Unit->Sem (ForInStep (Option PySem.Fin×Unit)):=fun i _ =>
  match vs[i]? with
  | some y=>do
    let b <- eqBool y x
    if b=true then do
      let r <- retInt (i:Int)
      pure (ForInStep.done (some r,()))
    else pure (ForInStep.yield (none,()))
  | _=>pure (ForInStep.yield (none,()))
theorem As {k:Int}:∀ (ns:List Int) (i:Nat),ns[i]?=some k->ns.idxOf k<=i
  | [],i,h=>by simp at h
  | n::ns,0,h=>by
    simp at h;subst h;simp [List.idxOf_cons]
  | n::ns,i+1,h=>by
    have:=As ns i (by simpa using h);rw [List.idxOf_cons];cases n==k <;> simp <;> omega
theorem wY {vs:List Value} {ns:List Int} {k:Int} {t:Tok} (hi:IntsAre vs ns) {Q:Option PySem.Fin×Unit->Shared->Prop}:∀ (m i:Nat) (s:Shared),i+m=vs.length->(∀ j,j < i->ns[j]?≠some k)->k∈ns ->
    (∀ tk tk',Q (some (.done (.ret (.int (ns.idxOf k:Nat) tk))),()) { s with toks:=tk' })->wpAny (model prog w) A (forIn (List.range' i m) ((none:Option PySem.Fin),()) (vG vs.toArray (.int k t))) Q E s
  | 0,i,s,h,hno,hk,q=>by
    exfalso;obtain ⟨j,hj,e⟩:=List.mem_iff_getElem.mp hk;have hl:=IntsAre.length hi;exact hno j (by omega) (by rw [List.getElem?_eq_getElem hj,e])
  | m+1,i,s,h,hno,hk,q=>by
    have hl:=IntsAre.length hi;have lt:i < vs.length:=by omega
    have ltn:i < ns.length:=by omega
    obtain ⟨tv,ev⟩:=hi.int_at i vs[i] (List.getElem?_eq_getElem lt);have en:ns.getD i 0=ns[i]:=by simp [List.getD,List.getElem?_eq_getElem ltn]
    rw [en] at ev;rw [List.range'_succ,List.forIn_cons];have e0:vs.toArray[i]?=some (.int ns[i] tv):=by simp [lt,ev]
    unfold vG;rw [e0];dsimp only;apply wpAny_bind;apply wpAny_bind;refine (intKind prog w).eqBool (a:=ns[i]) (b:=k) (intKind_is _ _ _ _) (intKind_is _ _ _ _) ?_;by_cases z:ns[i]=k
    · rw [if_pos (by simpa using z)];have ei:ns.idxOf k=i:=by
        have h1:ns.idxOf k<=i:=As ns i (by rw [List.getElem?_eq_getElem ltn,z]);rcases Nat.lt_or_eq_of_le h1 with y | y
        · exfalso;have hlt:ns.idxOf k < ns.length:=List.idxOf_lt_length_iff.mpr hk;exact hno _ y (by rw [List.getElem?_eq_getElem hlt,List.getElem_idxOf hlt])
        · exact y
      rw [ei] at q;obtain ⟨hp,g,d,tk,os⟩:=s;unfold retInt
      wp_walk
      exact q _ _
    · rw [if_neg (by simpa using z)];refine wpAny_pure ?_;exact wY hi m (i+1) s (by omega) (fun j hj=>by
        by_cases y:j=i
        · subst y;rw [List.getElem?_eq_getElem ltn];intro e;exact z (Option.some.inj e)
        · exact hno j (by omega)) hk q
theorem mU {l:Addr} {vs:List Value} {ns:List Int} {k:Int} {t:Tok} {Q:Value->Shared->Prop} (hl:s.heap.IsTuple l vs.toArray) (hi:IntsAre vs ns) (hk:k∈ns) (q:∀ tk tk',Q (.int (ns.idxOf k:Nat) tk) { s with toks:=tk' }) :
    wpAny (model prog w) A (call (.builtin "tuple.index") [.ref l,.int k t]) Q E s:=by
  refine wpAny_call_entry PySem.F.slot_tuple_index hl.typeIs PySem.F.entry_tuple_index ?_ (PySem.F.args_tuple_index_2 _ _);obtain ⟨o,ho,hc,n,hd⟩:=hl;obtain ⟨oc,od,oda,os⟩:=o;simp only at hc hd;subst hc hd;obtain ⟨hp,g,d,tk,os'⟩:=s;unfold Builtin.«tuple.index»
  wp_walk using wpAny_loadPart' ho
  show wpAny (model prog w) A.in1 (forIn [:min vs.toArray.size vs.toArray.size] ((none:Option PySem.Fin),()) (vG vs.toArray (.int k t))) _ _ _;rw [Std.Legacy.Range.forIn_eq_forIn_range'];refine wY hi _ 0 _ ?_ (fun j hj=>by omega) hk fun tk1 tk2=>?_
  · simp [Std.Legacy.Range.size]
  · exact wpAny_pure ⟨_,rfl,q tk1 tk2⟩
end
section
variable {X:Cx} {o e:Expr} {fo fe:Fe} {apos cpos:Pos}
theorem yQ:JP X "tuple.index" (fun x xs H Q=>∃ (l:Addr) (ns:List Int) (k:Int),x=.ref l/\xs=[.int k]/\ie X.K H l (ns.map V.int)/\k∈ns/\Q (.int (ns.idxOf k:Nat)) H):=by
  intro pins s σ H x xs v us Q I rx rs h;obtain ⟨l,ns,k,rfl,rfl,hq,hk,q⟩:=h;cases rx;obtain ⟨u,rfl,t,rfl⟩:=gu rs;obtain ⟨its,rv,pl,hz⟩:=I.tuple hq;exact mU pl (fP rv) hk fun tk tk'=>⟨.int _,H,I.tok _,⟨_,rfl⟩,q⟩
noncomputable def E5:PyData->R Unit
  | .tuple _=>.ok ()
  | _=>.no
noncomputable def gV:PyData->PyData->R PyData
  | .tuple ds,.int k=>match ce ds with
    | some ns=>if k∈ns then .ok (.int (ns.idxOf k:Nat)) else .no
    | none=>.no
  | _,_=>.no
noncomputable def nY (fo fe:Fe):Fe:=fun ρ=>fo ρ>>=fun x=>E5 x>>=fun _=>fe ρ>>=fun y=>gV x y
theorem tw (ho:Z.dM X o fo) (he:Z.cX X e fe) (hb:attributeBase o "index" X.env (eval o X.env)=eval o X.env:=by rfl) (hst:bq e=true:=by rfl) (hline:(apos.endLine==cpos.line)=true:=by rfl):Z.cX X (.Call (.Attribute o "index" apos) [e] [] cpos) (nY fo fe):=⟨have ho:=ho.un;have he:=he.un;by
  have sc:starEach [e] X.env=(false,eval e X.env)::starEach [] X.env:=bP hst;refine PE.imp (Ef PySem.F.plainAttrs_tuple PySem.F.slot_tuple_index PySem.F.type_tuple_index yQ ho (iR he mD hst) hb (by rw [sc];rfl) hline sc rfl) fun σ H Q h=>?_
  refine (eY (P:=sT) (f:=fo) (k:=fun ρ x=>E5 x>>=fun _=>fe ρ>>=fun y=>gV x y) (ff (X:=X) fM Q) h).post fun v H1 zq0=>?_
  obtain ⟨ρ1,d1,sl1,_,p1,q1⟩:=zq0;cases d1 with
  | tuple ds =>
    obtain ⟨a,vs,rfl,h1,r1⟩:=cM p1;refine ⟨.inr (.inl ⟨rfl,.inr ⟨_,h1⟩⟩),?_⟩;have q1:uO X h7 (ai fe aE ρ1>>=one (gV (.tuple ds))) H1 Q:=by
      have e0:(ai fe aE ρ1>>=one (gV (.tuple ds)))=(fe ρ1>>=fun y=>gV (.tuple ds) y):=by
        unfold ai aE;cases fe ρ1 <;> rfl
      rw [e0];exact q1
    refine (mo (I:=Rp) (f:=ai fe aE) (k:=fun _=>one (gV (.tuple ds))) (ff (X:=X) fM Q) ⟨ρ1,sl1,q1⟩).post fun us H2 zq0=>?_
    obtain ⟨_,ds2,_,s2,p2,q2⟩:=zq0;unfold one at q2;split at q2
    · rename_i d2;simp only [RA] at p2;obtain ⟨w,r',rfl,p2,rfl⟩:=p2;cases d2 with
      | int k =>
        have ew:w=.int k:=by simpa only [Rp] using p2
        subst ew;simp only [gV] at q2;cases ei:ce ds with
        | none=>rw [ei] at q2;exact q2.elim
        | some ns =>
          rw [ei] at q2;dsimp only at q2;split at q2
          · rename_i hz;have p3:=hV.mono p1 s2;rw [eh ei] at p3;obtain ⟨a',vs',ea,h3,r3⟩:=cM p3;cases ea;rw [iA r3] at h3;exact ⟨a,ns,k,rfl,rfl,.inl (.inl h3),hz,q2 _ H2 (aI.refl _) dD⟩
          · exact q2.elim
      | _=>exact q2.elim
    · exact q2.elim
  | _=>exact q1.elim⟩
end
theorem xW {P:Program} {w:World} {K:PySem.W.Frag} {mg:Str->Option Value} {base:Heap} {x qual:Str} {st:Stmt} {f:Addr} {fd:FuncData} {N ps:List Str} {k:Nat} {g:Fs} (F:gc K x qual st f fd) (S:aY N ps (ak st))
    (body:∀ (cdv:Value) (A:Around) (outer:List Env) (s:Shared) (H:Hp) (E:XK),fu k (A.deeper (envOfC qual (ak st) s.heap.objs.size f cdv)) ->
      Z.l6 (fY (cP P w mg) P w K mg base N qual (ak st) f cdv A outer s H E) (di st) g):bg P w K mg base (cP P w mg) (k+1) f fd ps (dt (dB N.length g) ps.length) :=
  D2.CH F S fun cdv A outer s H E hr=>(body cdv A outer s H E hr).un
theorem aF {P:Program} {w:World} {K:PySem.W.Frag} {mg:Str->Option Value} {base:Heap} {x qual:Str} {st:Stmt} {f:Addr} {fd:FuncData} {N ps:List Str} {k:Nat} {g:Fs} {G:List Str} (F:gc K x qual st f fd) (S:aY N ps (ak st)) (ck:wv (ak st) N G)
    (body:∀ (cdv:Value) (A:Around) (outer:List Env) (s:Shared) (H:Hp) (E:XK),fu k (A.deeper (envOfC qual (ak st) s.heap.objs.size f cdv))->Tb (fY (cP P w mg) P w K mg base N qual (ak st) f cdv A outer s H E) N.length G ->
      Z.l6 (fY (cP P w mg) P w K mg base N qual (ak st) f cdv A outer s H E) (di st) g):bg P w K mg base (cP P w mg) (k+1) f fd ps (dt (dB N.length g) ps.length) :=
  xW F S fun cdv A outer s H E hr=>body cdv A outer s H E hr (ET hr ck)
noncomputable def yS {P:Program} {w:World} {K:PySem.W.Frag} {mg:Str->Option Value} {base:Heap} {f:Addr} {fd:FuncData} {ps:List Str} {n k:Nat}:bg P w K mg base (cP P w mg) k f fd ps (dt (fun _=>.no) n) :=
  have no:∀ vs H Q E,¬ dt (fun _=>.no) n vs H Q E:=fun vs H Q E ⟨ds,_,_,z⟩=>z
  ⟨fun vs H Q E h=>absurd h (no vs H Q E),fun A outer s H args us vs Q E _ _ _ _ h=>absurd h (no vs H Q E)⟩
noncomputable def n5 (K:PySem.W.Frag):Bool:=K.all fun p=>match p.2.cls with
  | .type n=>!(n == "list")
  | _=>true
theorem pd {α β:Type} [BEq α] {a:α} {o:β}:∀ {K:List (α×β)},K.lookup a=some o->∃ p∈K,p.2=o
  | [],e=>by cases e
  | (b,x)::r,e=>by
    rw [List.lookup_cons] at e;split at e
    · cases e;exact ⟨_,List.mem_cons_self,rfl⟩
    · obtain ⟨p,h1,h2⟩:=pd e;exact ⟨p,List.mem_cons_of_mem _ h1,h2⟩
theorem vP {K:PySem.W.Frag} (h:n5 K=true) {a:Addr} {o:Obj} (e:K.lookup a=some o) (c:o.cls=.type "list"):False:=by
  obtain ⟨p,m,rfl⟩:=pd e;have q:=List.all_eq_true.mp h _ m;simp only [c] at q;simp at q
noncomputable def AB (F:List PyData->R PyData):Prop:=∀ ns:List Int,ns.length<=63->F [.list (ns.map .int)]=.ok (.bool true)
theorem JL {l:PySem.W.OpenLaw} {q:Program} {loose:List Str} {XP:(Str->Option Value)->Heap->Prop} {YP:World->Heap->Prop} {d:DefRec} {K:Params->PySem.W.Frag} {k:Nat} {x:Str} {F:List PyData->R PyData} (hn:l.most=some 63) (hdf:d.params.defaults=[])
    (hr:fu k callerA) (hY:∀ (w:World) (h:Heap),YP w h->(K w.params).In h) (hF:AB F)
    (G:∀ (w:World) (mg:Str->Option Value) (fa:Addr) (h:Heap),(K w.params).In h->h.Ns mainGlobals mg->mg d.name=some (.ref fa) ->
      n5 (K w.params)=true/\∃ fd:FuncData,(∀ (s:Shared) (u:Value),BindsTo s fd ⟨[u],[]⟩ [(x,u)])/\∀ base:Heap,(K w.params).In base->base.Ns mainGlobals mg->bg l.prog w (K w.params) mg base (cP l.prog w mg) k fa fd [x] (dt F 1)) :
    PySem.W.WalkO q loose XP YP l.row.toRowW d [] (fun f vs=>PySem.call f vs):=by
  refine Att.attach_call hn hdf fun w s₀ s₁ mg mb fa o pm cd doc a vs ns G0 Y ho hd hcd hmg hobj hints hlen hg=>?_
  have KX:=hY w _ Y;obtain ⟨nl,fd,hb,hG⟩:=G w mg fa _ KX G0.T.g hmg;refine L2.AC (sp:=dt F 1) KX G0.T.g G0.T.b G0.T.builtins G0.T.nolimit hg hobj hints (Nat.le_trans hlen (by decide)) hr hG hb (fun H hO hS=>?_) fun H e s' ⟨_,_,_,_,_,z⟩=>z
  refine ⟨[.list (ns.map .int)],bO.cons ?_ bO.nil,rfl,?_⟩
  · rcases hS with (h | ⟨o,h⟩) | ⟨o,its,n,h,c,_⟩
    · rcases hO a with z | ⟨o,xs,z⟩
      · rw [z] at h;cases h
      · rw [z] at h;cases h
    · simp only [Rp];exact ⟨a,o,_,rfl,h,bO.ints ns⟩
    · exact (vP nl h c).elim
  · rw [hF ns hlen];intro v H' _ r;simpa only [Rp] using r
section
variable {K:PySem.W.Frag} {x qual:Str} {st:Stmt} {f:Addr} {fd:FuncData} {p1 p2 p3 p4 p5 p6 p7:Str}
theorem Ch (F:gc K x qual st f fd) (h:∀ (kV doc pm:Value) (an:Option Addr) (cdv ct:Value) (a1:Value),bindArgs (PySem.W.fnOf x qual (eI st) (di st) (ak st) .none kV doc pm an cdv ct) ⟨[a1],[]⟩=pure [(p1,a1)]):bN K fd [p1] []:=F.binds fun kV doc pm an cdv ct us hl=>by
    obtain ⟨a1,r0,rfl,q0⟩:=D2.jM hl;obtain rfl:=List.eq_nil_of_length_eq_zero q0;exact h kV doc pm an cdv ct a1
theorem rJ (F:gc K x qual st f fd) (h:∀ (kV doc pm:Value) (an:Option Addr) (cdv ct:Value) (a1 a2:Value),bindArgs (PySem.W.fnOf x qual (eI st) (di st) (ak st) .none kV doc pm an cdv ct) ⟨[a1,a2],[]⟩=pure [(p1,a1),(p2,a2)]):bN K fd [p1,p2] []:=F.binds fun kV doc pm an cdv ct us hl=>by
    obtain ⟨a1,r0,rfl,q0⟩:=D2.jM hl;obtain ⟨a2,r1,rfl,q1⟩:=D2.jM q0;obtain rfl:=List.eq_nil_of_length_eq_zero q1;exact h kV doc pm an cdv ct a1 a2
theorem GE (F:gc K x qual st f fd) (h:∀ (kV doc pm:Value) (an:Option Addr) (cdv ct:Value) (a1 a2 a3:Value),bindArgs (PySem.W.fnOf x qual (eI st) (di st) (ak st) .none kV doc pm an cdv ct) ⟨[a1,a2,a3],[]⟩=pure [(p1,a1),(p2,a2),(p3,a3)]):bN K fd [p1,p2,p3] []:=F.binds fun kV doc pm an cdv ct us hl=>by
    obtain ⟨a1,r0,rfl,q0⟩:=D2.jM hl;obtain ⟨a2,r1,rfl,q1⟩:=D2.jM q0;obtain ⟨a3,r2,rfl,q2⟩:=D2.jM q1;obtain rfl:=List.eq_nil_of_length_eq_zero q2;exact h kV doc pm an cdv ct a1 a2 a3
theorem IX (F:gc K x qual st f fd) (h:∀ (kV doc pm:Value) (an:Option Addr) (cdv ct:Value) (a1 a2 a3 a4:Value),bindArgs (PySem.W.fnOf x qual (eI st) (di st) (ak st) .none kV doc pm an cdv ct) ⟨[a1,a2,a3,a4],[]⟩=pure [(p1,a1),(p2,a2),(p3,a3),(p4,a4)]):bN K fd [p1,p2,p3,p4] []:=F.binds fun kV doc pm an cdv ct us hl=>by
    obtain ⟨a1,r0,rfl,q0⟩:=D2.jM hl;obtain ⟨a2,r1,rfl,q1⟩:=D2.jM q0;obtain ⟨a3,r2,rfl,q2⟩:=D2.jM q1;obtain ⟨a4,r3,rfl,q3⟩:=D2.jM q2;obtain rfl:=List.eq_nil_of_length_eq_zero q3;exact h kV doc pm an cdv ct a1 a2 a3 a4
end
@[simp] theorem cr {α:Type} (a:α):mL (R.ok a)=.ok a:=rfl
@[simp] theorem Jp {α:Type}:mL (R.no:R α)=.no:=rfl
@[simp] theorem Jo {α:Type} (c:Str):mL (R.ex c:R α)=.no:=rfl
noncomputable def zc:uL->R PyData
  | .rt d=>.ok d
  | .nx _=>.ok .none
  | _=>.no
theorem ed (n:Nat) (g:Fs) (ds:List PyData):dB n g ds=(g (ds.map bn.val++List.replicate (n-ds.length) .non)>>=zc):=by
  unfold dB;congr 1
@[simp] theorem II (d:PyData):zc (.rt d)=.ok d:=rfl
@[simp] theorem IH (r:aS):zc (.nx r)=.ok .none:=rfl
section
variable (f g h:Fe) (ρ:aS) (i j:Nat) (t u:aS->R Bool) (a b:Fs) (fs:aS->R (List PyData)) (F:List PyData->R PyData) (d e:PyData)
@[simp] theorem bK:eC d ρ=.ok d:=rfl
@[simp] theorem ap:ag 0 (.val d::ρ)=.ok d:=rfl
@[simp] theorem aw (c:bn):ag (i+1) (c::ρ)=ag i ρ:=rfl
@[simp] theorem IE:gr 0 (.val d::ρ)=.ok d:=rfl
@[simp] theorem rS:gr 0 (.own d::ρ)=.ok d:=rfl
@[simp] theorem rT (c:bn):gr (i+1) (c::ρ)=gr i ρ:=rfl
@[simp] theorem bU (k:PyData->R PyData):e1 k f ρ=(f ρ>>=fun x=>k x):=rfl
@[simp] theorem bB (k:PyData->PyData->R PyData):e2 k f g ρ=(f ρ>>=fun x=>g ρ>>=fun y=>k x y):=rfl
@[simp] theorem cL:tE f ρ=(f ρ>>=tM):=rfl
@[simp] theorem cU (k:Bool):tM (.bool k)=.ok k:=rfl
@[simp] theorem pP:nA t u ρ=(t ρ>>=fun k=>if k=true then u ρ else .ok false):=rfl
@[simp] theorem sD:zo t u ρ=(t ρ>>=fun k=>if k=true then .ok true else u ρ):=rfl
@[simp] theorem gR:jp t ρ=(t ρ>>=fun k=>.ok (!k)):=rfl
@[simp] theorem Iz:Cu f g ρ=(f ρ>>=fun d=>tM d>>=fun k=>if k=true then g ρ else .ok (.bool false)):=rfl
@[simp] theorem Jf:Kc f g ρ=(f ρ>>=fun d=>tM d>>=fun k=>if k=true then .ok (.bool true) else g ρ):=rfl
@[simp] theorem IB:EW f ρ=(f ρ>>=fun d=>tM d>>=fun k=>.ok (.bool (!k))):=rfl
@[simp] theorem vx:D6 t f g ρ=(t ρ>>=fun k=>if k=true then f ρ else g ρ):=rfl
@[simp] theorem aL:aE ρ=.ok []:=rfl
@[simp] theorem aC:ai f fs ρ=(f ρ>>=fun d=>fs ρ>>=fun ds=>.ok (d::ds)):=rfl
@[simp] theorem aJ:aA F fs ρ=(fs ρ>>=F):=rfl
@[simp] theorem Gj (p q:PyData->PyData->R PyData):rR p q f g h ρ=(f ρ>>=fun x=>g ρ>>=fun y=>p x y>>=fun d=>tM d>>=fun k=>if k=true then h ρ>>=fun z=>q y z else .ok (.bool false)):=rfl
@[simp] theorem gW:jI fs ρ=(fs ρ>>=fun ds=>if ds.length<=sizeLine then .ok (.tuple ds) else .no):=rfl
@[simp] theorem IA:Cv fs ρ=(fs ρ>>=fun ds=>if ds.length<=sizeLine then .ok (.list ds) else .no):=rfl
@[simp] theorem AO:AN ρ=.ok none:=rfl
@[simp] theorem AR:AQ f ρ=(f ρ>>=fun d=>Iw d>>=fun i=>.ok (some i)):=rfl
@[simp] theorem GB (k:Int):Iw (.int k)=.ok k:=rfl
@[simp] theorem EY (lo hi:Fo):Jg f lo hi ρ=(f ρ>>=fun d=>lo ρ>>=fun l=>hi ρ>>=fun u=>D5 d l u):=rfl
@[simp] theorem lP:de ρ=.ok (.nx ρ):=rfl
@[simp] theorem kh:bf a b ρ=(a ρ>>=qQ b):=rfl
@[simp] theorem uH:qQ b (.nx ρ)=b ρ:=rfl
@[simp] theorem Ic:qQ b (.rt d)=.ok (.rt d):=rfl
@[simp] theorem Ia:qQ b (.bk ρ)=.ok (.bk ρ):=rfl
@[simp] theorem Ib:qQ b (.ct ρ)=.ok (.ct ρ):=rfl
@[simp] theorem dL:lu t a b ρ=(t ρ>>=fun k=>if k=true then a ρ else b ρ):=rfl
@[simp] theorem cy:cK f ρ=(f ρ>>=fun d=>.ok (.rt d)):=rfl
@[simp] theorem HE:HD ρ=.ok (.rt .none):=rfl
@[simp] theorem Bm:Bl f ρ=(f ρ>>=fun _=>.ok (.nx ρ)):=rfl
@[simp] theorem Gm:FS ρ=.ok (.bk ρ):=rfl
@[simp] theorem HB:HA ρ=.ok (.ct ρ):=rfl
@[simp] theorem bH:cf i f ρ=(f ρ>>=fun d=>.ok (.nx (ρ.set i (.val d)))):=rfl
@[simp] theorem n8:i8 i f ρ=(f ρ>>=fun d=>.ok (.nx (ρ.set i (.own d)))):=rfl
@[simp] theorem bV:dE f ρ=(f ρ>>=jh):=rfl
@[simp] theorem qv:iS fs ρ=(fs ρ>>=qb):=rfl
@[simp] theorem G2:G1 fs ρ=(fs ρ>>=HI):=rfl
@[simp] theorem GW:GV fs ρ=(fs ρ>>=GQ):=rfl
@[simp] theorem GY:GX f ρ=(f ρ>>=Ea):=rfl
@[simp] theorem G4:G3 f ρ=(f ρ>>=Ew):=rfl
@[simp] theorem cO (ds:List PyData):jh (.tuple ds)=.ok ds:=rfl
@[simp] theorem sA (ds:List PyData):jh (.list ds)=.ok ds:=rfl
@[simp] theorem GC:aT i d ρ=some (ρ.set i (.val d)):=rfl
@[simp] theorem gA:kB a ρ=mL (a ρ):=rfl
theorem gz (it:aS->R (List PyData)) (bb:PyData->aS->Option aS):lO it bb a ρ=(it ρ>>=fun ds=>gM bb a ds ρ):=rfl
@[simp] theorem fD (bb:PyData->aS->Option aS):gM bb a [] ρ=.ok (.nx ρ):=by unfold gM;rfl
noncomputable def qR (k:aS->R uL):uL->R uL
  | .nx ρ=>k ρ
  | .ct ρ=>k ρ
  | .bk ρ=>.ok (.nx ρ)
  | .rt r=>.ok (.rt r)
@[simp] theorem eU (k:aS->R uL):qR k (.nx ρ)=k ρ:=rfl
@[simp] theorem Ie (k:aS->R uL):qR k (.ct ρ)=k ρ:=rfl
@[simp] theorem Id (k:aS->R uL):qR k (.bk ρ)=.ok (.nx ρ):=rfl
@[simp] theorem Ig (k:aS->R uL):qR k (.rt d)=.ok (.rt d):=rfl
theorem dC (i:Nat) (ds:List PyData):gM (aT i) a (d::ds) ρ=(a (ρ.set i (.val d))>>=qR (gM (aT i) a ds)):=by
  rw [gM];show (a (ρ.set i (.val d))>>=_)=_;congr 1
theorem aR {a b:Fs} {ρ ρ':aS} (h:a ρ=.ok (.nx ρ')):bf a b ρ=b ρ':=by rw [kh,h];rfl
theorem Bp {a b:Fs} {ρ:aS} {d:PyData} (h:a ρ=.ok (.rt d)):bf a b ρ=.ok (.rt d):=by rw [kh,h];rfl
theorem eN {n:Nat} {g:Fs} {ds:List PyData} {d:PyData} (h:g (ds.map bn.val++List.replicate (n-ds.length) .non)=.ok (.rt d)):dB n g ds=.ok d:=by rw [ed,h];rfl
theorem cZ (bb:PyData->aS->Option aS):bT bb t f ρ []=.ok []:=by unfold bT;rfl
theorem dG (i:Nat) (ds:List PyData):bT (aT i) t f ρ (d::ds)=(t (ρ.set i (.val d))>>=fun k=>if k=true then f (ρ.set i (.val d))>>=fun x=>bT (aT i) t f ρ ds>>=fun xs=>.ok (x::xs) else bT (aT i) t f ρ ds):=by
  rw [bT];rfl
theorem gL (i j:Nat) (x y:PyData) (ds:List PyData):bT (fB i j) t f ρ (.tuple [x,y]::ds)=(t ((ρ.set i (.val x)).set j (.val y))>>=fun k=>if k=true then f ((ρ.set i (.val x)).set j (.val y))>>=fun x=>bT (fB i j) t f ρ ds>>=fun xs=>.ok (x::xs) else bT (fB i j) t f ρ ds):=by
  rw [bT];rfl
@[simp] theorem G6:G5 f g h ρ=(f ρ>>=fun x=>g ρ>>=fun y=>h ρ>>=fun z=>wk x>>=fun xs=>wk y>>=fun ys=>wk z>>=fun zs=>.ok (BL xs ys zs)):=rfl
@[simp] theorem JK (ds:List PyData):wk (.tuple ds)=.ok ds:=rfl
@[simp] theorem tX:tW fs ρ=(fs ρ>>=En .tuple):=rfl
@[simp] theorem GS:GR fs ρ=(fs ρ>>=En .list):=rfl
theorem Hz {mk:List PyData->PyData} {n:Int} (h0:0<=n) (h1:n<=1000000):En mk [.int n]=.ok (mk (ca 0 n.toNat)):=by
  show (if n<=16777216/\-(2 ^ 62)<=n then R.ok (mk (ca 0 n.toNat)) else .no)=_;rw [if_pos (by omega)]
@[simp] theorem ID (lo hi:Fo):Jh f lo hi ρ=(f ρ>>=fun d=>lo ρ>>=fun l=>hi ρ>>=fun u=>GI d l u):=rfl
@[simp] theorem DD (op:Int->Int->Int):zf i op f ρ=(ag i ρ>>=fun x=>f ρ>>=fun y=>Ix op x y>>=fun z=>.ok (.nx (ρ.set i (.val z)))):=rfl
@[simp] theorem GH (op:Int->Int->Int) (m n:Int):Ix op (.int m) (.int n)=.ok (.int (op m n)):=rfl
theorem n9 {ρ:aS} {i:Nat} {ds:List PyData} {fk fv:Fe} {n:Int} {v:PyData} (h:ρ[i]?=some (.own (.list ds))) (hk:fk ρ=.ok (.int n)) (hv:fv ρ=.ok v) (h0:0<=n) (h1:n < ds.length):iB i fk fv ρ=.ok (.nx (ρ.set i (.own (.list (ds.set n.toNat v))))):=by
  unfold iB;rw [hv,hk,h];simp only [mL,R.ok_bind];have:L2.wW ds.length n=some n.toNat:=by unfold L2.wW;rw [if_pos h0,if_pos h1]
  rw [this]
@[simp] theorem wT:yx f g ρ=(f ρ>>=fun x=>g ρ>>=fun y=>jh x>>=fun xs=>jh y>>=fun ys=>.ok (jX xs ys)):=rfl
@[simp] theorem oZ:qu f ρ=(f ρ>>=fun x=>jh x>>=fun xs=>.ok (dW 0 xs)):=rfl
theorem ze {ρ:aS} {i:Nat} {ds:List PyData} (f:Fe) (h:ρ[i]?=some (.own (.list ds))) (hz:ds.length < sizeLine):kg i f ρ=(mL (f ρ)>>=fun d=>.ok (.nx (ρ.set i (.own (.list (ds++[d])))))):=by
  unfold kg;congr 1;funext d;rw [h];exact if_pos hz
noncomputable def Fg:R (List PyData)->R PyData
  | .ok xs=>.ok (.list xs)
  | .ex c=>.ex c
  | .no=>.no
@[simp] theorem IF (c:Str):Fg (.ex c)=.ex c:=rfl
@[simp] theorem gy (xs:List PyData):Fg (.ok xs)=.ok (.list xs):=rfl
theorem bp (it:aS->R (List PyData)) (own:Nat) (fr:List Nat) (bb:PyData->aS->Option aS):bL it own fr bb t f ρ=(mL (it ρ)>>=fun ds=>if ds.length<=sizeLine then Fg (bT bb t f (az own fr ρ) ds) else .no):=by
  unfold bL;congr 1
theorem gF (i:Nat) (G:PyData->PyData):∀ (ds:List PyData),(∀ d∈ds,f (ρ.set i (.val d))=.ok (G d))->bT (aT i) (fun _=>.ok true) f ρ ds=.ok (ds.map G)
  | [],_=>cZ ..
  | d::ds,hh=>by
    rw [dG,hh d List.mem_cons_self,gF i G ds fun x hx=>hh x (List.mem_cons_of_mem _ hx)];rfl
end
section
variable (i j:Int) (xs ys:List PyData)
@[simp] theorem ES:vt (.int i)=.ok (.int (-i)):=rfl
@[simp] theorem mB:dP (.int i) (.int j)=.ok (.int (i+j)):=rfl
@[simp] theorem Ac:dP (.tuple xs) (.tuple ys)=if xs.length+ys.length<=sizeLine then .ok (.tuple (xs++ys)) else .no:=rfl
@[simp] theorem IZ:dP (.list xs) (.list ys)=if xs.length+ys.length<=sizeLine then .ok (.list (xs++ys)) else .no:=rfl
@[simp] theorem mC:ip (.int i) (.int j)=.ok (.int (i-j)):=rfl
@[simp] theorem Ae:gk (.int i) (.int j)=if 0 < j then .ok (.int (i%j)) else .no:=rfl
@[simp] theorem I8:p0 (.int i) (.int j)=if 0 < j/\j < 1073741824 then .ok (.int (i / j)) else .no:=rfl
theorem ER:gv (.int i) (.int j)=if (-(2 ^ 64) < i/\i < 2 ^ 64)\/(-(2 ^ 64) < j/\j < 2 ^ 64) then .ok (.int (i*j)) else .no:=rfl
@[simp] theorem iO (p:Int->Int->Bool):eG p (.int i) (.int j)=.ok (.bool (p i j)):=rfl
@[simp] theorem EQ:yd (.int i) (.int j)=.ok (.int (if j < i then j else i)):=rfl
@[simp] theorem Jb:EO (.int i) (.int j)=.ok (.int (if j > i then j else i)):=rfl
@[simp] theorem rQ:cN (.tuple xs)=.ok (.int xs.length):=rfl
@[simp] theorem oO:cN (.list xs)=.ok (.int xs.length):=rfl
@[simp] theorem iq:cC (.list xs)=.ok (.tuple xs):=rfl
@[simp] theorem GK:cC (.tuple xs)=.ok (.tuple xs):=rfl
@[simp] theorem Iy:qm (.list xs)=.ok (.list xs):=rfl
@[simp] theorem Cp:qm (.tuple xs)=.ok (.list xs):=rfl
@[simp] theorem Ja:Cn (.int i)=.ok (.int i):=rfl
@[simp] theorem I9 (k:Bool):Cn (.bool k)=.ok (.int (if k then 1 else 0)):=rfl
@[simp] theorem JT (lo hi:Option Int):D5 (.tuple xs) lo hi=.ok (.tuple (nR xs lo hi)):=rfl
@[simp] theorem GJ (lo hi:Option Int):D5 (.list xs) lo hi=.ok (.list (nR xs lo hi)):=rfl
@[simp] theorem Jd:Jc (.tuple xs)=.ok (.tuple xs.reverse):=rfl
theorem rG {α:Type} {xs:List α} {i:Int} (h0:0<=i) (h1:i < xs.length):L2.atI xs i=some (xs[i.toNat]'(by omega)):=by
  unfold L2.atI wW;rw [if_pos h0,if_pos h1];exact List.getElem?_eq_getElem (by omega)
theorem Ad {xs:List PyData} {i:Int} (h0:0<=i) (h1:i < xs.length):bJ (.tuple xs) (.int i)=.ok (xs[i.toNat]'(by omega)):=by
  show (match L2.atI xs i with | some d=>R.ok d | none=>.no)=_;rw [rG h0 h1]
theorem wI {xs:List PyData} {i:Int} (h0:0<=i) (h1:i < xs.length):bJ (.list xs) (.int i)=.ok (xs[i.toNat]'(by omega)):=by
  show (match L2.atI xs i with | some d=>R.ok d | none=>.no)=_;rw [rG h0 h1]
theorem Cw:PyData.eqv (.int i) (.int j)=decide (i=j):=by
  simp only [PyData.eqv];by_cases h:i=j
  · subst h;simp
  · simp [h]
theorem fZ:iP (.int i) (.int j)=.ok (.bool (decide (i=j))):=by
  unfold iP;rw [if_pos (by rfl),Cw]
end
end D2
namespace G
open PySem PySem.Spec PyProof.Rows L2 D2
noncomputable def Jm:PyData->Bool
  | .int _=>true
  | _=>false
noncomputable def noD:PyData->Prop
  | .dict _=>False
  | _=>True
noncomputable def D4 (d:PyData) (lo hi:Int):Bool:=match d with
  | .int i=>decide (lo<=i)&&decide (i<=hi)
  | _=>false
noncomputable def jS (c:Int):Int->List PyData->Bool
  | _,[]=>true
  | l,d::r=>match d with
    | .int i=>(decide (l<=i)&&decide (i < c))&&jS c (i+1) r
    | _=>false
@[simp] noncomputable def Ep (c:Int):PyData->Bool
  | .tuple ds=>jS c 0 ds
  | _=>false
noncomputable abbrev ig (d:PyData):Prop:=d.canLay0=true
theorem ig.noD {d:PyData} (h:ig d):noD d:=by
  cases d <;> first | trivial | (simp [ig,PyData.canLay0] at h)
theorem wS:∀ {ds:List PyData},PyData.canLayAll0 ds=true->∀ x∈ds,ig x
  | [],_,x,hx=>by cases hx
  | d::ds,h,x,hx=>by
    have h':d.canLay0=true/\PyData.canLayAll0 ds=true:=by simpa [PyData.canLayAll0] using h
    rcases List.mem_cons.mp hx with rfl | hx
    · exact h'.1
    · exact wS h'.2 x hx
theorem oE:∀ {ds:List PyData},(∀ x∈ds,ig x)->PyData.canLayAll0 ds=true
  | [],_=>by simp [PyData.canLayAll0]
  | d::ds,h=>by
    have h1:=h d List.mem_cons_self;have h2:=oE fun x hx=>h x (List.mem_cons_of_mem _ hx)
    simp only [PyData.canLayAll0,Bool.and_eq_true];exact ⟨h1,h2⟩
theorem oY {ds:List PyData}:ig (.tuple ds)<->∀ x∈ds,ig x:=by
  constructor
  · intro h;exact wS (by simpa [ig,PyData.canLay0] using h)
  · intro h;simp only [ig,PyData.canLay0];exact oE h
theorem ua (i:Int):ig (.int i):=by simp [ig,PyData.canLay0]
theorem yt:ig .none:=by simp [ig,PyData.canLay0]
theorem bI {n:Nat} (h:n<=1000):n<=sizeLine:=Nat.le_trans h (by decide)
noncomputable abbrev zE (ns:List Int):PyData:=.list (ns.map .int)
theorem iQ {i j:Int} (h:(-(2 ^ 64) < i/\i < 2 ^ 64)\/(-(2 ^ 64) < j/\j < 2 ^ 64)):gv (.int i) (.int j)=.ok (.int (i*j)):=by rw [ER,if_pos h]
structure u3 (c:Int) (n:Nat) (kvs:List (PyData×PyData)):Prop where
  ex:∃ ns:List Int,kvs.map (·.1)=ns.map PyData.int/\(∀ x∈ns,0<=x/\x < c)/\ns.length<=n/\(n=0\/ns≠[])/\ns.Nodup
theorem u3.put {c:Int} {n:Nat} {kvs:List (PyData×PyData)} (h:u3 c n kvs) {k:Int} (h0:0<=k) (h1:k < c) (v:PyData):u3 c (n+1) (sx kvs (.int k) v):=by
  obtain ⟨ns,e,hb,hl,hn,nd⟩:=h.ex;have hany:(kvs.any fun kv=>gY kv.1 (.int k))=ns.any fun i=>decide (i=k):=by
    have:(kvs.any fun kv=>gY kv.1 (.int k))=(kvs.map (·.1)).any fun d=>gY d (.int k):=by rw [List.any_map];rfl
    rw [this,e,List.any_map];rfl
  unfold sx;rw [hany];by_cases hm:k∈ns
  · have ha:(ns.any fun i=>decide (i=k))=true:=by simp;exact hm
    rw [if_pos ha];refine ⟨ns,?_,hb,by omega,.inr (by intro z;rw [z] at hm;cases hm),nd⟩;rw [<- e,List.map_map];apply List.map_congr_left;intro kv _;show (if gY kv.1 (.int k)=true then (kv.1,v) else kv).1=kv.1;split <;> rfl
  · have ha:¬ (ns.any fun i=>decide (i=k))=true:=by simp;exact hm
    rw [if_neg ha];refine ⟨ns++[k],by rw [List.map_append,List.map_append,e];rfl,fun x hx=>?_,by simp;omega,.inr (by simp),?_⟩
    · rcases List.mem_append.mp hx with z | z
      · exact hb x z
      · simp at z;subst z;exact ⟨h0,h1⟩
    · rw [List.nodup_append];refine ⟨nd,by simp,fun a hma b hb'=>?_⟩;simp at hb';subst hb';rintro rfl;exact hm hma
theorem u3.len {c:Int} {n:Nat} {kvs:List (PyData×PyData)} (h:u3 c n kvs):kvs.length<=n:=by
  obtain ⟨ns,e,_,hl,_⟩:=h.ex;have:=congrArg List.length e;simp at this;omega
theorem ux (lo:Int) (n:Nat):∀ d∈ca lo n,∃ k,d=.int k:=fun d hd=>by
  unfold ca at hd;obtain ⟨k,_,rfl⟩:=List.mem_map.mp hd;exact ⟨_,rfl⟩
theorem eZ (lo:Int) (n:Nat):(ca lo n).length=n:=by unfold ca;simp
theorem Co {xs:List PyData} {i:Int} (h0:0<=i) (h1:i < xs.length):∃ x∈xs,bJ (.list xs) (.int i)=.ok x:=⟨_,List.getElem_mem _,wI h0 h1⟩
structure P4 where
  w:Int
  m:Int
  g:Int
  ns:List Int
noncomputable def P4.d (p:P4):PyData:=.tuple [.int p.w,.int p.m,.int p.g,.tuple (p.ns.map .int)]
structure Pl (c hi:Int) (p:P4):Prop where
  w0:0<=p.w
  w1:p.w<=1
  m0:0<=p.m
  m1:p.m<=hi
  g0:-20<=p.g
  g1:p.g<=20
  ne:p.ns≠[]
  so:p.ns.Pairwise (· < ·)
  inn:∀ x∈p.ns,0<=x/\x < c
theorem lg:∀ (ns:List Int) (l c:Int),ns.Pairwise (· < ·)->(∀ x∈ns,l<=x/\x < c)->ns=[]\/l+(ns.length:Int)<=c
  | [],_,_,_,_=>.inl rfl
  | x::r,l,c,hp,hb=>by
    right;obtain ⟨h1,h2⟩:=List.pairwise_cons.mp hp;have hx:=hb x List.mem_cons_self;rcases lg r (x+1) c h2 (fun y hy=>⟨by have:=h1 y hy;omega,(hb y (List.mem_cons_of_mem _ hy)).2⟩) with rfl | z
    · simp;omega
    · rw [List.length_cons];omega
theorem Pl.len {c hi:Int} {p:P4} (h:Pl c hi p):(p.ns.length:Int)<=c:=by
  rcases lg p.ns 0 c h.so h.inn with z | z
  · exact absurd z h.ne
  · omega
noncomputable abbrev gD (ps:List P4):PyData:=.tuple (ps.map P4.d)
theorem qP {ns:List Int} (h:ns.Pairwise (·<=·)) (nd:ns.Nodup):ns.Pairwise (· < ·):=by
  have:=h.and nd;exact this.imp fun ⟨a,b⟩=>by omega
theorem sy (c:Int):∀ (ns:List Int) (l:Int),ns.Pairwise (· < ·)->(∀ x∈ns,l<=x/\x < c)->jS c l (ns.map .int)=true
  | [],_,_,_=>rfl
  | x::r,l,hp,hb=>by
    obtain ⟨h1,h2⟩:=List.pairwise_cons.mp hp;have hx:=hb x List.mem_cons_self;simp only [List.map_cons,jS,Bool.and_eq_true,decide_eq_true_eq];exact ⟨⟨hx.1,hx.2⟩,sy c r (x+1) h2 fun y hy=>⟨by have:=h1 y hy;omega,(hb y (List.mem_cons_of_mem _ hy)).2⟩⟩
end G
noncomputable section
namespace G
open PySem PySem.Spec PyProof.Rows L2 D2
noncomputable def hZ:Fs :=
  (bf (lu (tE (e2 (eG IG) (ag 1) (e1 cN (ag 0)))) (cK (e2 bJ (ag 0) (ag 1))) de) (cK (eC (.int 0))))
noncomputable def cF:List PyData->R PyData:=dB 2 (hZ)
noncomputable def jB (cF:List PyData->R PyData):Fs :=
  (bf (cf 2 (e2 gk (e2 gv (e2 dP (e2 dP (aA cF (ai (ag 0) (ai (ag 1) aE))) (e2 gv (eC (.int 7919)) (ag 1))) (eC (.int 1))) (eC (.int 48271))) (eC (.int 2147483647)))) (cK (e2 gk (e2 dP (e2 dP (e2 gv (ag 2) (ag 2)) (e2 gv (eC (.int 7)) (ag 2))) (ag 1)) (eC (.int 2147483629)))))
noncomputable def bA:List PyData->R PyData:=dB 3 (jB cF)
noncomputable def jy:Fs :=
  (bf (cf 2 (e2 gk (e2 gv (e2 dP (e2 dP (ag 0) (e2 gv (eC (.int 104729)) (ag 1))) (eC (.int 17))) (eC (.int 69621))) (eC (.int 2147483647)))) (cK (e2 gk (e2 dP (e2 dP (e2 gv (ag 2) (ag 2)) (e2 gv (eC (.int 3)) (ag 2))) (ag 1)) (eC (.int 2147483629)))))
noncomputable def aV:List PyData->R PyData:=dB 3 (jy)
noncomputable def jA (aV:List PyData->R PyData):Fs :=
  (bf (i8 2 (eC (.dict []))) (bf (kB (lO (iS (ai (e2 dP (e2 dP (eC (.int 1)) (e2 gk (ag 0) (eC (.int 3)))) (e2 gv (eC (.int 20)) (e1 Cn (e2 (iP) (e2 gk (e2 p0 (ag 0) (eC (.int 3))) (eC (.int 29))) (eC (.int 7)))))) aE)) (aT 3) (v3 2 (e2 gk (aA aV (ai (ag 0) (ai (ag 3) aE))) (ag 1)) (eC (.bool true))))) (cK (e1 cC (e1 lF (gr 2))))))
noncomputable def dh:List PyData->R PyData:=dB 4 (jA aV)
noncomputable def jC (aV:List PyData->R PyData) (dh:List PyData->R PyData):Fs :=
  (bf (cf 3 (e2 ip (e2 gk (e2 p0 (ag 0) (eC (.int 26))) (eC (.int 9))) (eC (.int 4)))) (bf (lu (tE (e2 (iP) (e2 gk (e2 p0 (ag 0) (eC (.int 234))) (eC (.int 11))) (eC (.int 3)))) (cf 3 (e2 ip (e2 gk (e2 p0 (ag 0) (eC (.int 26))) (eC (.int 41))) (eC (.int 20)))) de) (cK (jI (ai (e2 gk (ag 0) (eC (.int 2))) (ai (e2 gk (e2 p0 (ag 0) (eC (.int 2))) (e2 dP (ag 2) (eC (.int 1)))) (ai (ag 3) (ai (aA dh (ai (aA aV (ai (ag 0) (ai (eC (.int 9)) aE))) (ai (ag 1) aE))) aE))))))))
noncomputable def cT:List PyData->R PyData:=dB 4 (jC aV dh)
noncomputable def iL (bA:List PyData->R PyData) (cT:List PyData->R PyData):Fs :=
  (bf (cf 2 (aA bA (ai (ag 0) (ai (eC (.int 0)) aE)))) (bf (cf 3 (e2 dP (eC (.int 1)) (e2 gk (ag 2) (e2 yd (ag 1) (e2 EO (eC (.int 4)) (e1 cN (ag 0))))))) (bf (cf 4 (e2 bJ (Cv (ai (eC (.int 1)) (ai (eC (.int 2)) (ai (eC (.int 3)) (ai (eC (.int 5)) (ai (eC (.int 12)) (ai (eC (.int 12)) aE))))))) (e2 gk (e2 p0 (ag 2) (eC (.int 24))) (eC (.int 6))))) (cK (e1 cC (bL (iS (ai (ag 3) aE)) 1 [0,3,4] (aT 0) (fun _=>.ok true) (aA cT (ai (aA bA (ai (ag 1) (ai (e2 dP (eC (.int 3)) (ag 0)) aE))) (ai (ag 2) (ai (ag 3) aE))))))))))
noncomputable def cG:List PyData->R PyData:=dB 5 (iL bA cT)
noncomputable def kL (aV:List PyData->R PyData):Fs :=
  (bf (cf 2 (e2 gk (ag 0) (eC (.int 5)))) (cK (e1 cC (bL (iS (ai (ag 1) aE)) 1 [2,0] (aT 0) (zo (tE (e2 (iP) (ag 1) (eC (.int 4)))) (tE (e2 (eG IG) (e2 gk (aA aV (ai (ag 2) (ai (ag 0) aE))) (eC (.int 4))) (ag 1)))) (ag 0)))))
noncomputable def da:List PyData->R PyData:=dB 3 (kL aV)
noncomputable def iM:Fs :=
  (cK (jI (ai (e2 bJ (ag 0) (eC (.int 0))) (ai (e2 bJ (ag 0) (eC (.int 1))) (ai (e2 bJ (ag 0) (eC (.int 2))) (ai (e1 cC (ag 1)) aE))))))
noncomputable def bh:List PyData->R PyData:=dB 2 (iM)
noncomputable def oh (bh:List PyData->R PyData):Fs :=
  (bf (cf 2 (e1 cN (ag 0))) (bf (lu (tE (e2 (eG mO) (e2 dP (ag 2) (e1 cN (ag 1))) (eC (.int 24)))) (ib (PySem.Str.ofString "NoRoom") (eC (.str (PySem.Str.ofString "these are more places than a ground has")))) de) (cK (e2 dP (ag 0) (e1 cC (bL (dE (ag 1)) 1 [2] (aT 0) (fun _=>.ok true) (aA bh (ai (ag 0) (ai (bL (dE (e2 bJ (ag 0) (eC (.int 3)))) 1 [1] (aT 0) (fun _=>.ok true) (e2 dP (ag 0) (ag 1))) aE)))))))))
noncomputable def fj:List PyData->R PyData:=dB 3 (oh bh)
noncomputable def kM:Fs :=
  (cK (bL (dE (ag 0)) 1 [] (aT 0) (fun _=>.ok true) (e2 bJ (ag 0) (eC (.int 1)))))
noncomputable def cn:List PyData->R PyData:=dB 1 (kM)
noncomputable def jw (cn:List PyData->R PyData):Fs :=
  (bf (lu (tE (e2 (uN false) (eC (.int 12)) (aA cn (ai (ag 0) aE)))) (ib (PySem.Str.ofString "NoMark") (eC (.str (PySem.Str.ofString "no mark is 1 more than the greatest one")))) de) (cK (e1 cC (bL (dE (ag 0)) 1 [] (aT 0) (fun _=>.ok true) (jI (ai (e2 ip (eC (.int 1)) (e2 bJ (ag 0) (eC (.int 0)))) (ai (e2 dP (e2 bJ (ag 0) (eC (.int 1))) (eC (.int 1))) (ai (e1 vt (e2 bJ (ag 0) (eC (.int 2)))) (ai (e2 bJ (ag 0) (eC (.int 3))) aE)))))))))
noncomputable def dg:List PyData->R PyData:=dB 1 (jw cn)
noncomputable def oo:Fs :=
  (cK (Cu (e1 (p8 .int) (ag 0)) (EW (e1 (p8 .bool) (ag 0)))))
noncomputable def dY:List PyData->R PyData:=dB 1 (oo)
noncomputable def iK (dY:List PyData->R PyData):Fs :=
  (cK (Cu (aA dY (ai (ag 0) aE)) (rR (eG Gk) (eG Gk) (ag 1) (ag 0) (ag 2))))
noncomputable def cE:List PyData->R PyData:=dB 3 (iK dY)
noncomputable def kK (cE:List PyData->R PyData):Fs :=
  (bf (lu (jp (tE (e1 (p8 .tuple) (ag 0)))) (cK (eC (.bool false))) de) (bf (cf 2 (eC (.int 0))) (bf (kB (lO (dE (ag 0)) (aT 3) (bf (lu (jp (tE (aA cE (ai (ag 3) (ai (ag 2) (ai (e2 ip (ag 1) (eC (.int 1))) aE)))))) (cK (eC (.bool false))) de) (cf 2 (e2 dP (ag 3) (eC (.int 1))))))) (cK (eC (.bool true))))))
noncomputable def bY:List PyData->R PyData:=dB 4 (kK cE)
noncomputable def om:Fs :=
  (cK (e1 cC (bL (dE (ag 0)) 1 [1] (aT 0) (tE (e2 (uN false) (ag 0) (ag 1))) (ag 0))))
noncomputable def bo:List PyData->R PyData:=dB 2 (om)
noncomputable def ge (bo:List PyData->R PyData):Fs :=
  (cK (e1 vq (bL (dE (ag 1)) 1 [0,1] (aT 0) (fun _=>.ok true) (e2 (eG mO) (e1 cN (aA bo (ai (e2 bJ (e2 bJ (ag 1) (ag 0)) (eC (.int 3))) (ai (ag 2) aE)))) (eC (.int 0))))))
noncomputable def bc:List PyData->R PyData:=dB 2 (ge bo)
noncomputable def l9:Fs :=
  (cK (e1 cC (bL (dE (ag 0)) 1 [1] (aT 0) (tE (e2 (uN true) (ag 0) (ag 1))) (ag 0))))
noncomputable def aZ:List PyData->R PyData:=dB 2 (l9)
noncomputable def iI (bY:List PyData->R PyData) (bc:List PyData->R PyData) (aZ:List PyData->R PyData):Fs :=
  (bf (lu (jp (tE (aA bY (ai (ag 1) (ai (e1 cN (ag 0)) aE))))) (ib (PySem.Str.ofString "NoPart") (eC (.str (PySem.Str.ofString "inside is not some places")))) de) (bf (lu (jp (tE (aA bY (ai (ag 2) (ai (e1 cN (ag 0)) aE))))) (ib (PySem.Str.ofString "NoPart") (eC (.str (PySem.Str.ofString "these are not some places")))) de) (bf (lu (tE (e2 (eG mO) (e1 cN (aA aZ (ai (ag 2) (ai (ag 1) aE)))) (eC (.int 0)))) (ib (PySem.Str.ofString "NoPart") (eC (.str (PySem.Str.ofString "these places do not lie in inside")))) de) (lu (jp (tE (aA bc (ai (ag 0) (ai (ag 1) aE))))) (ib (PySem.Str.ofString "NoPart") (eC (.str (PySem.Str.ofString "inside is not whole")))) de))))
noncomputable def cS:List PyData->R PyData:=dB 3 (iI bY bc aZ)
noncomputable def oq:Fs :=
  (cK (e1 cC (bL (qu (ag 0)) 2 [] (fB 0 1) (tE (e2 (mZ) (ag 1) (eC .none))) (ag 0))))
noncomputable def bS:List PyData->R PyData:=dB 1 (oq)
noncomputable def jx:Fs :=
  (bf (cf 4 (bL (dE (ag 1)) 1 [3] (aT 0) (tE (e2 (mZ) (e2 bJ (ag 1) (ag 0)) (eC .none))) (ag 0))) (bf (lu (tE (e2 (iP) (e2 bJ (ag 0) (eC (.int 0))) (ag 2))) (cK (e2 (eG mO) (e1 cN (ag 4)) (eC (.int 0)))) de) (cK (e2 (iP) (e1 cN (ag 4)) (e1 cN (ag 1))))))
noncomputable def cs:List PyData->R PyData:=dB 5 (jx)
noncomputable def kP (bo:List PyData->R PyData) (cs:List PyData->R PyData):Fs :=
  (bf (cf 4 (bL (dE (ag 0)) 1 [1] (aT 0) (fun _=>.ok true) (aA bo (ai (e2 bJ (ag 0) (eC (.int 3))) (ai (ag 1) aE))))) (bf (i8 5 (bL (iS (ai (e1 cN (ag 0)) aE)) 1 [3] (aT 0) (fun _=>.ok true) (D6 (tE (e2 (uN false) (ag 0) (ag 1))) (eC (.int 0)) (eC .none)))) (bf (cf 6 (eC (.int 0))) (bf (cf 7 (e1 qm (ag 3))) (bf (kB (v4 1000000 (tE (e2 (eG mO) (e1 cN (ag 7)) (eC (.int 0)))) (bf (zf 6 (fun a b=>a+b) (eC (.int 1))) (bf (cf 8 (bL (dE (ag 1)) 1 [5] (aT 0) (tE (e2 (rP) (e2 bJ (gr 1) (ag 0)) (eC .none))) (ag 0))) (bf (cf 7 (bL (dE (ag 8)) 1 [0,4,2,5] (aT 0) (tE (kD 4 (aA cs (ai (e2 bJ (ag 1) (ag 0)) (ai (e2 bJ (ag 2) (ag 0)) (ai (ag 3) (ai (ag 4) aE))))))) (ag 0))) (kB (lO (dE (ag 7)) (aT 9) (iB 5 (ag 9) (ag 6))))))))) (cK (e1 cC (gr 5))))))))
noncomputable def bQ:List PyData->R PyData:=dB 10 (kP bo cs)
noncomputable def kO:Fs :=
  (cK (e1 cC (bL (dE (ag 0)) 1 [] (aT 0) (fun _=>.ok true) (eC .none))))
noncomputable def cq:List PyData->R PyData:=dB 1 (kO)
noncomputable def gj (bo:List PyData->R PyData) (cq:List PyData->R PyData):Fs :=
  (bf (i8 3 (e1 qm (aA cq (ai (ag 0) aE)))) (bf (kB (lO (dE (ag 2)) (aT 4) (lu (tE (e2 (iP) (e2 bJ (e2 bJ (ag 0) (ag 4)) (eC (.int 0))) (ag 1))) (iB 3 (ag 4) (e2 bJ (aA bo (ai (e2 bJ (e2 bJ (ag 0) (ag 4)) (eC (.int 3))) (ai (ag 2) aE))) (eC (.int 0)))) de))) (cK (e1 cC (gr 3)))))
noncomputable def aW:List PyData->R PyData:=dB 5 (gj bo cq)
noncomputable def u4 (cS:List PyData->R PyData) (bS:List PyData->R PyData) (bQ:List PyData->R PyData) (aW:List PyData->R PyData) (aZ:List PyData->R PyData):Fs :=
  (bf (Bl (aA cS (ai (ag 0) (ai (ag 1) (ai (ag 3) aE))))) (bf (cf 4 (aA bQ (ai (ag 0) (ai (ag 1) (ai (e2 ip (eC (.int 1)) (ag 2)) (ai (aA aZ (ai (ag 1) (ai (ag 3) aE))) aE)))))) (bf (cf 5 (aA aZ (ai (ag 1) (ai (aA bS (ai (ag 4) aE)) aE)))) (cK (jI (ai (ag 5) (ai (aA aW (ai (ag 0) (ai (ag 2) (ai (ag 5) aE)))) aE)))))))
noncomputable def hW:List PyData->R PyData:=dB 6 (u4 cS bS bQ aW aZ)
noncomputable def iJ (bo:List PyData->R PyData):Fs :=
  (cK (bL (dE (aA bo (ai (e2 bJ (ag 0) (eC (.int 3))) (ai (ag 1) aE)))) 1 [1] (aT 0) (fun _=>.ok true) (nY (ag 1) (ag 0))))
noncomputable def cv:List PyData->R PyData:=dB 2 (iJ bo)
noncomputable def l7 (bY:List PyData->R PyData) (cv:List PyData->R PyData) (bc:List PyData->R PyData) (bh:List PyData->R PyData):Fs :=
  (bf (lu (zo (jp (tE (aA bY (ai (ag 1) (ai (e1 cN (ag 0)) aE))))) (tE (e2 (iP) (e1 cN (ag 1)) (eC (.int 0))))) (ib (PySem.Str.ofString "NoPart") (eC (.str (PySem.Str.ofString "inside is not some places, one at least")))) de) (bf (lu (jp (tE (aA bc (ai (ag 0) (ai (ag 1) aE))))) (ib (PySem.Str.ofString "NoPart") (eC (.str (PySem.Str.ofString "inside is not whole")))) de) (cK (e1 cC (bL (dE (ag 1)) 1 [0,1] (aT 0) (fun _=>.ok true) (aA bh (ai (e2 bJ (ag 1) (ag 0)) (ai (aA cv (ai (e2 bJ (ag 1) (ag 0)) (ai (ag 2) aE))) aE))))))))
noncomputable def cY:List PyData->R PyData:=dB 2 (l7 bY cv bc bh)
noncomputable def gg:Fs :=
  (bf (i8 1 (eC (.dict []))) (bf (cf 2 (eC (.int 0))) (bf (kB (lO (dE (e1 Gi (ag 0))) (aT 3) (bf (v3 1 (ag 3) (e2 dP (ag 2) (e2 gk (e2 ip (ag 3) (ag 2)) (eC (.int 2))))) (cf 2 (e2 dP (e2 bJ (gr 1) (ag 3)) (eC (.int 1))))))) (Bn 1))))
noncomputable def cj:List PyData->R PyData:=dB 4 (gg)
noncomputable def l8 (cn:List PyData->R PyData) (cj:List PyData->R PyData):Fs :=
  (bf (cf 1 (aA cj (ai (aA cn (ai (ag 0) aE)) aE))) (cK (e1 cC (bL (dE (ag 0)) 1 [1] (aT 0) (fun _=>.ok true) (jI (ai (e2 bJ (ag 0) (eC (.int 0))) (ai (e2 bJ (ag 1) (e2 bJ (ag 0) (eC (.int 1)))) (ai (e2 bJ (ag 0) (eC (.int 2))) (ai (e2 bJ (ag 0) (eC (.int 3))) aE)))))))))
noncomputable def ez:List PyData->R PyData:=dB 2 (l8 cn cj)
noncomputable def iH:Fs :=
  (cK (tW (ai (e1 cN (ag 0)) aE)))
noncomputable def cR:List PyData->R PyData:=dB 1 (iH)
noncomputable def kN:Fs :=
  (cK (e1 cC (bL (qu (ag 0)) 2 [1] (fB 0 1) (fun _=>.ok true) (D6 (tE (e2 (uN false) (ag 0) (ag 2))) (ag 1) (eC .none)))))
noncomputable def dc:List PyData->R PyData:=dB 2 (kN)
noncomputable def gf:Fs :=
  (cK (e1 cC (bL (yx (ag 0) (ag 1)) 2 [] (fB 0 1) (fun _=>.ok true) (D6 (tE (e2 (rP) (ag 0) (eC .none))) (ag 1) (ag 0)))))
noncomputable def aG:List PyData->R PyData:=dB 2 (gf)
noncomputable def gh (bS:List PyData->R PyData):Fs :=
  (bf (i8 3 (bL (dE (ag 2)) 1 [] (aT 0) (fun _=>.ok true) (eC .none))) (bf (kB (lO (dE (aA bS (ai (ag 2) aE))) (aT 4) (lu (nA (tE (e2 (iP) (e2 bJ (e2 bJ (ag 0) (ag 4)) (eC (.int 0))) (ag 1))) (tE (e2 (eG mO) (e2 bJ (ag 2) (ag 4)) (eC (.int 0))))) (iB 3 (ag 4) (e2 bJ (bL (dE (e2 bJ (e2 bJ (ag 0) (ag 4)) (eC (.int 3)))) 1 [2,4] (aT 0) (tE (e2 (iP) (e2 bJ (ag 1) (ag 0)) (e2 ip (e2 bJ (ag 1) (ag 2)) (eC (.int 1))))) (ag 0)) (eC (.int 0)))) de))) (cK (e1 cC (gr 3)))))
noncomputable def bx:List PyData->R PyData:=dB 5 (gh bS)
noncomputable def eA (dc:List PyData->R PyData) (aG:List PyData->R PyData) (bx:List PyData->R PyData) (bS:List PyData->R PyData) (bQ:List PyData->R PyData) (aW:List PyData->R PyData) (aN:List PyData->R PyData) (aZ:List PyData->R PyData) (c_Share:Addr):Fs :=
  (bf (cf 2 (e1 wJ (bL (dE (ag 1)) 1 [0] (aT 0) (fun _=>.ok true) (e2 bJ (e2 bJ (ag 1) (ag 0)) (eC (.int 1)))))) (bf (cf 3 (e2 gk (ag 2) (eC (.int 2)))) (bf (cf 4 (e2 ip (eC (.int 1)) (ag 3))) (bf (cf 5 (bL (dE (ag 1)) 1 [0,2] (aT 0) (tE (e2 (iP) (e2 bJ (e2 bJ (ag 1) (ag 0)) (eC (.int 1))) (ag 2))) (ag 0))) (bf (cf 6 (aA bQ (ai (ag 0) (ai (ag 1) (ai (ag 3) (ai (ag 5) aE)))))) (bf (cf 7 (aA aN (ai (ag 0) (ai (aA aZ (ai (ag 1) (ai (aA bS (ai (ag 6) aE)) aE))) aE)))) (bf (cf 8 (bL (qu (e2 bJ (ag 7) (eC (.int 0)))) 2 [4] (fB 0 1) (tE (e2 (iP) (ag 1) (ag 2))) (ag 0))) (bf (lu (tE (e2 (iP) (e1 cN (ag 8)) (eC (.int 0)))) (bf (cf 9 (aA aG (ai (aA bx (ai (ag 0) (ai (ag 3) (ai (ag 6) aE)))) (ai (e2 bJ (ag 7) (eC (.int 1))) aE)))) (cK (tV c_Share ["who","places","moves"] (ai (ag 3) (ai (ag 1) (ai (aA aG (ai (ag 9) (ai (aA aW (ai (ag 0) (ai (ag 3) (ai (ag 1) aE)))) aE))) aE)))))) de) (bf (cf 6 (aA bQ (ai (ag 0) (ai (ag 1) (ai (ag 4) (ai (ag 8) aE)))))) (bf (cf 9 (aA aG (ai (aA bx (ai (ag 0) (ai (ag 4) (ai (ag 6) aE)))) (ai (aA dc (ai (e2 bJ (ag 7) (eC (.int 1))) (ai (ag 8) aE))) aE)))) (cK (tV c_Share ["who","places","moves"] (ai (ag 4) (ai (aA bS (ai (ag 6) aE)) (ai (ag 9) aE)))))))))))))))
noncomputable def eO (aG:List PyData->R PyData) (cq:List PyData->R PyData) (c_Share:Addr):Fs :=
  (bf (i8 2 (bL (dE (ag 0)) 1 [] (aT 0) (fun _=>.ok true) (eC .none))) (bf (cf 3 (aA cq (ai (ag 0) aE))) (bf (kB (lO (dE (ag 1)) (aT 4) (bf (kB (lO (dE (e1 (kX c_Share "places") (ag 4))) (aT 5) (iB 2 (ag 5) (e1 (kX c_Share "who") (ag 4))))) (cf 3 (aA aG (ai (ag 3) (ai (e1 (kX c_Share "moves") (ag 4)) aE))))))) (cK (jI (ai (e1 cC (gr 2)) (ai (ag 3) aE)))))))
noncomputable def bu (c_Share:Addr):List PyData->R PyData:=dB 6 (eO aG cq c_Share)
noncomputable def eB (bj:List PyData->R PyData) (bu:List PyData->R PyData) (aZ:List PyData->R PyData) (c_Share:Addr):Fs :=
  (bf (i8 2 (Cv aE)) (bf (cf 3 (ag 1)) (bf (kB (v4 1000000 (tE (e2 (eG mO) (e1 cN (ag 3)) (eC (.int 0)))) (bf (cf 4 (aA bj (ai (ag 0) (ai (ag 3) aE)))) (bf (kg 2 (ag 4)) (cf 3 (aA aZ (ai (ag 3) (ai (e1 (kX c_Share "places") (ag 4)) aE)))))))) (IJ 2 (cK (aA bu (ai (ag 0) (ai (ag 2) aE))))))))
noncomputable def aN (c_Share:Addr):Nat->List PyData->R PyData
  | 0=>fun _=>.no
  | k+1=>dB 5 (eB (dB 10 (eA dc aG bx bS bQ aW (aN c_Share k) aZ c_Share)) (bu c_Share) aZ c_Share)
noncomputable def bj (c_Share:Addr) (k:Nat):List PyData->R PyData:=dB 10 (eA dc aG bx bS bQ aW (aN c_Share k) aZ c_Share)
noncomputable def zJ (cR:List PyData->R PyData) (aN:List PyData->R PyData):Fs :=
  (cK (aA aN (ai (ag 0) (ai (aA cR (ai (ag 0) aE)) aE))))
noncomputable def fq (c_Share:Addr):List PyData->R PyData:=dB 1 (zJ cR (aN c_Share 14))
noncomputable def zI (cG:List PyData->R PyData) (bA:List PyData->R PyData) (da:List PyData->R PyData) (fj:List PyData->R PyData) (dg:List PyData->R PyData) (hW:List PyData->R PyData) (cY:List PyData->R PyData) (ez:List PyData->R PyData) (fq:List PyData->R PyData):Fs :=
  (bf (cf 1 (aA cG (ai (ag 0) (ai (eC (.int 24)) aE)))) (bf (cf 2 (e1 cN (ag 1))) (bf (cf 3 (e2 bJ (aA fq (ai (ag 1) aE)) (eC (.int 0)))) (bf (cf 4 (e1 cC (bL (dE (ag 1)) 1 [] (aT 0) (fun _=>.ok true) (jI (ai (e2 bJ (ag 0) (eC (.int 0))) (ai (e2 yd (eC (.int 11)) (e2 bJ (ag 0) (eC (.int 1)))) (ai (e2 bJ (ag 0) (eC (.int 2))) (ai (e2 bJ (ag 0) (eC (.int 3))) aE)))))))) (bf (cf 5 (e1 cC (bL (dE (e2 bJ (aA fq (ai (ag 4) aE)) (eC (.int 0)))) 1 [] (aT 0) (fun _=>.ok true) (e2 ip (eC (.int 1)) (ag 0))))) (bf (lu (zo (tE (e2 (zC) (e2 bJ (aA fq (ai (aA dg (ai (ag 4) aE)) aE)) (eC (.int 0))) (ag 5))) (tE (e2 (zC) (e2 bJ (aA fq (ai (aA ez (ai (ag 1) aE)) aE)) (eC (.int 0))) (ag 3)))) (cK (eC (.bool false))) de) (bf (cf 6 (aA cG (ai (Jg (ag 0) (AQ (eC (.int 2))) AN) (ai (eC (.int 8)) aE)))) (bf (lu (nA (tE (e2 (eG Gk) (e2 dP (ag 2) (e1 cN (ag 6))) (eC (.int 24)))) (tE (e2 (zC) (e2 bJ (aA fq (ai (aA fj (ai (ag 1) (ai (ag 6) aE))) aE)) (eC (.int 0))) (e2 dP (ag 3) (e2 bJ (aA fq (ai (ag 6) aE)) (eC (.int 0))))))) (cK (eC (.bool false))) de) (bf (kB (lO (dE (jI (ai (eC (.int 0)) (ai (eC (.int 1)) aE)))) (aT 7) (bf (cf 8 (e1 cC (bL (iS (ai (ag 2) aE)) 1 [3,7] (aT 0) (tE (e2 (iP) (e2 bJ (ag 1) (ag 0)) (ag 2))) (ag 0)))) (bf (lu (nA (tE (e2 (eG mO) (e1 cN (ag 8)) (eC (.int 0)))) (tE (e2 (zC) (e2 bJ (aA fq (ai (aA cY (ai (ag 1) (ai (ag 8) aE))) aE)) (eC (.int 0))) (e2 mY (jI (ai (ag 7) aE)) (e1 cN (ag 8)))))) (cK (eC (.bool false))) de) (bf (cf 9 (aA da (ai (aA bA (ai (ag 0) (ai (eC (.int 1)) aE))) (ai (ag 2) aE)))) (bf (cf 10 (e2 bJ (aA hW (ai (ag 1) (ai (tW (ai (ag 2) aE)) (ai (ag 7) (ai (ag 9) aE))))) (eC (.int 0)))) (lu (tE (e2 (eG mO) (e1 cN (ag 10)) (eC (.int 0)))) (bf (cf 11 (e2 bJ (aA fq (ai (aA cY (ai (ag 1) (ai (ag 10) aE))) aE)) (eC (.int 0)))) (lu (jp (tE (e1 vq (bL (yx (ag 10) (ag 11)) 2 [3,7] (fB 0 1) (tE (e2 (iP) (ag 1) (ag 3))) (e2 (iP) (e2 bJ (ag 2) (ag 0)) (ag 3)))))) (cK (eC (.bool false))) de)) de))))))) (cK (eC (.bool true))))))))))))
noncomputable def wx (c_Share:Addr):List PyData->R PyData:=dB 12 (zI cG bA da fj dg hW cY ez (fq c_Share))
end G
end
namespace G
open PySem PySem.Spec PyProof.Rows L2 D2
theorem Cj (ns:List Int) {k:Int} (hk:0<=k):∃ v,cF [zE ns,.int k]=.ok (.int v):=by
  unfold cF hZ;by_cases h:k < ns.length
  · refine ⟨ns[k.toNat]'(by omega),?_⟩;have hx:=wI (xs:=ns.map PyData.int) (i:=k) hk (by simpa using h);rw [ed];simp [h,hx]
  · refine ⟨0,?_⟩;rw [ed];simp [h]
theorem pe (ns:List Int) {k:Int} (hk:0<=k):∃ v,bA [zE ns,.int k]=.ok (.int v)/\0<=v/\v < 2147483629:=by
  obtain ⟨c,hc⟩:=Cj ns hk;unfold bA jB;have m1:gv (.int 7919) (.int k)=.ok (.int (7919*k)):=iQ (.inl (by omega));have m2:gv (.int (c+7919*k+1)) (.int 48271)=.ok (.int ((c+7919*k+1)*48271)):=iQ (.inr (by omega));generalize hd:(c+7919*k+1)*48271%2147483647=d;have hd0:0<=d:=by omega
  have hd1:d < 2147483647:=by omega
  have m3:gv (.int d) (.int d)=.ok (.int (d*d)):=iQ (.inl (by omega));have m4:gv (.int 7) (.int d)=.ok (.int (7*d)):=iQ (.inl (by omega));refine ⟨(d*d+7*d+k)%2147483629,?_,by omega,by omega⟩;rw [ed];simp [hc,m1,m2,hd,m3,m4,List.replicate]
theorem oR (n k:Int):∃ v,aV [.int n,.int k]=.ok (.int v)/\0<=v/\v < 2147483629:=by
  unfold aV jy;have m1:gv (.int 104729) (.int k)=.ok (.int (104729*k)):=iQ (.inl (by omega));have m2:gv (.int (n+104729*k+17)) (.int 69621)=.ok (.int ((n+104729*k+17)*69621)):=iQ (.inr (by omega));generalize hd:(n+104729*k+17)*69621%2147483647=d;have hd0:0<=d:=by omega
  have hd1:d < 2147483647:=by omega
  have m3:gv (.int d) (.int d)=.ok (.int (d*d)):=iQ (.inl (by omega));have m4:gv (.int 3) (.int d)=.ok (.int (3*d)):=iQ (.inl (by omega));refine ⟨(d*d+3*d+k)%2147483629,?_,by omega,by omega⟩;rw [ed];simp [m1,m2,hd,m3,m4,List.replicate]
theorem oX (n c:Int) (hc:1<=c):∀ (ds:List PyData) (m:Nat) (kvs:List (PyData×PyData)) (x:bn),u3 c m kvs->(∀ d∈ds,∃ k,d=.int k)->m+ds.length<=1000 ->
    ∃ kvs' x',u3 c (m+ds.length) kvs'/\gM (aT 3) (v3 2 (e2 gk (aA aV (ai (ag 0) (ai (ag 3) aE))) (ag 1)) (eC (.bool true))) ds [.val (.int n),.val (.int c),.own (.dict kvs),x]
      = .ok (.nx [.val (.int n),.val (.int c),.own (.dict kvs'),x'])
  | [],m,kvs,x,hk,_,_=>⟨kvs,x,hk,by rw [fD]⟩
  | d::ds,m,kvs,x,hk,hi,hl=>by
    obtain ⟨k,rfl⟩:=hi d List.mem_cons_self;obtain ⟨v,hv,v0,v1⟩:=oR n k;have hk':=hk.put (k:=v%c) (Int.emod_nonneg _ (by omega)) (Int.emod_lt_of_pos _ (by omega)) (.bool true);obtain ⟨kvs',x',h1,h2⟩:=oX n c hc ds (m+1) _ (.val (.int k)) hk' (fun d hd=>hi d (List.mem_cons_of_mem _ hd)) (by simp at hl;omega);refine ⟨kvs',x',by rw [List.length_cons];simpa [Nat.add_comm,Nat.add_left_comm,Nat.add_assoc] using h1,?_⟩;have hlen:=hk.len;have hsz:kvs.length < sizeLine:=Nat.lt_of_le_of_lt (show kvs.length<=1000 by simp at hl;omega) (by decide);have hc':0 < c:=by omega
    rw [dC,<- h2];simp [v3,hv,hc',gt,hsz]
theorem yK {n c:Int} (hn:0<=n) (hc:1<=c):∃ ns:List Int,dh [.int n,.int c]=.ok (.tuple (ns.map .int))/\(∀ x∈ns,0<=x/\x < c)/\ns≠[]/\ns.Pairwise (· < ·):=by
  unfold dh jA;have m1:∀ k:Int,gv (.int 20) (.int k)=.ok (.int (20*k)):=fun k=>iQ (.inl (by omega))
  generalize hN:(1+n%3+20*(if n / 3%29=7 then 1 else 0):Int)=N;have hN0:1<=N:=by split at hN <;> omega
  have hN1:N<=23:=by split at hN <;> omega
  obtain ⟨kvs,x,hk,hf⟩:=oX n c hc (ca 0 N.toNat) 0 [] .non ⟨[],rfl,by simp,by simp,.inl rfl,by simp⟩ (ux _ _) (by rw [eZ];omega);obtain ⟨ns,e,hb,hl,hz,nd⟩:=hk.ex;rw [eZ] at hl hz;have hi:ce (kvs.map (·.1))=some ns:=by rw [e,dk]
  have hs:lF (.dict kvs)=.ok (.list ((eo ns).map PyData.int)):=by
    show (match ce (kvs.map (·.1)) with | some ns=>if ns.length < 64 then R.ok (PyData.list ((eo ns).map PyData.int)) else .no | none=>.no)=_;rw [hi];exact if_pos (by omega)
  have hr:-(2 ^ 62)<=N/\N < 2 ^ 62:=by omega
  refine ⟨eo ns,?_,fun x hx=>hb x ((eu ns).mem_iff.mp hx),?_,qP (gE ns) ((eu ns).nodup_iff.mpr nd)⟩
  · rw [ed];have hg:qb [.int N]=.ok (ca 0 N.toNat):=by
      show (if -(2 ^ 62)<=N/\N < 2 ^ 62 then R.ok (ca 0 N.toNat) else .no)=_;rw [if_pos hr]
    simp [gz,fZ,m1,List.replicate,hN,hg,hf,hs]
  · intro z;have:=(eu ns).length_eq;rw [z] at this;rcases hz with q | q
    · omega
    · exact q (List.eq_nil_of_length_eq_zero this.symm)
theorem yN {n c h:Int} (hn:0<=n) (hc:1<=c) (h0:0<=h):∃ p:P4,cT [.int n,.int c,.int h]=.ok p.d/\Pl c h p:=by
  obtain ⟨v,hv,v0,v1⟩:=oR n 9;obtain ⟨ns,hg,hb,hne,hso⟩:=yK (n:=v) (c:=c) v0 hc;unfold cT jC;have hh:0 < h+1:=by omega
  have s4:4<=sizeLine:=by decide
  have a1:=Int.emod_nonneg (n / 2) (show h+1≠0 by omega);have a2:=Int.emod_lt_of_pos (n / 2) hh;by_cases hq:n / 234%11=3
  · refine ⟨⟨n%2,n / 2%(h+1),n / 26%41-20,ns⟩,?_,⟨by dsimp only;omega,by dsimp only;omega,a1,by dsimp only;omega,by dsimp only;omega,by dsimp only;omega,hne,hso,hb⟩⟩;rw [ed];simp [hh,fZ,hq,hv,hg,s4,P4.d]
  · refine ⟨⟨n%2,n / 2%(h+1),n / 26%9-4,ns⟩,?_,⟨by dsimp only;omega,by dsimp only;omega,a1,by dsimp only;omega,by dsimp only;omega,by dsimp only;omega,hne,hso,hb⟩⟩;rw [ed];simp [hh,fZ,hq,hv,hg,s4,P4.d]
theorem tQ (f:Fe) (ρ:aS) (i:Nat) (P:P4->Prop):∀ ds:List PyData,(∀ d∈ds,∃ p:P4,f (ρ.set i (.val d))=.ok p.d/\P p)->∃ ps:List P4,bT (aT i) (fun _=>.ok true) f ρ ds=.ok (ps.map P4.d)/\ps.length=ds.length/\∀ p∈ps,P p
  | [],_=>⟨[],cZ ..,rfl,by simp⟩
  | d::ds,h=>by
    obtain ⟨x,h1,h2⟩:=h d List.mem_cons_self;obtain ⟨xs,h3,h4,h5⟩:=tQ f ρ i P ds fun d hd=>h d (List.mem_cons_of_mem _ hd)
    refine ⟨x::xs,?_,by simp [h4],fun y hy=>?_⟩
    · rw [dG,h1,h3];rfl
    · rcases List.mem_cons.mp hy with rfl | hy
      · exact h2
      · exact h5 y hy
theorem pc (ns:List Int) {most:Int} (hm0:1<=most) (hm1:most<=24):∃ (ps:List P4) (hi:Int),cG [zE ns,.int most]=.ok (gD ps)/\(∀ p∈ps,Pl ps.length hi p)/\1<=ps.length/\(ps.length:Int)<=most/\0<=hi/\hi<=12:=by
  obtain ⟨v,hv,v0,v1⟩:=pe ns (k:=0) (by omega);unfold cG iL;generalize hm:(if (if (ns.length:Int) > 4 then (ns.length:Int) else 4) < most then (if (ns.length:Int) > 4 then (ns.length:Int) else 4) else most)=m;have m0:0 < m:=by split at hm <;> split at hm <;> omega
  have m1:m<=most:=by split at hm <;> split at hm <;> omega
  generalize hc:1+v%m=c;have c0:1<=c:=by have:=Int.emod_nonneg v (show m≠0 by omega);omega
  have c1:c<=most:=by have:=Int.emod_lt_of_pos v m0;omega
  have hix:∃ h,bJ (.list [.int 1,.int 2,.int 3,.int 5,.int 12,.int 12]) (.int (v / 24%6))=.ok (.int h)/\0<=h/\h<=12:=by
    obtain ⟨x,hx,e⟩:=Co (xs:=[.int 1,.int 2,.int 3,.int 5,.int 12,.int 12]) (i:=v / 24%6) (by omega) (by simp;omega);rw [e];simp at hx;rcases hx with rfl | rfl | rfl | rfl | rfl <;> exact ⟨_,rfl,by decide,by decide⟩
  obtain ⟨h,hh,h0,h1⟩:=hix;have s6:6<=sizeLine:=by decide
  have hr:qb [.int c]=.ok (ca 0 c.toNat):=by
    show (if -(2 ^ 62)<=c/\c < 2 ^ 62 then R.ok (ca 0 c.toNat) else .no)=_;rw [if_pos (by omega)]
  obtain ⟨xs,e1,e2,e3⟩:=tQ (aA cT (ai (aA bA (ai (ag 1) (ai (e2 dP (eC (.int 3)) (ag 0)) aE))) (ai (ag 2) (ai (ag 3) aE)))) (az 1 [0,3,4] [.val (zE ns),.val (.int most),.val (.int v),.val (.int c),.val (.int h)]) 0 (Pl c h) (ca 0 c.toNat) fun d hd=>by
    unfold ca at hd;obtain ⟨k,_,rfl⟩:=List.mem_map.mp hd;obtain ⟨w,hw,w0,w1⟩:=pe ns (k:=3+(0+(k:Int))) (by omega);obtain ⟨d,hd1,hd2⟩:=yN (n:=w) (c:=c) (h:=h) w0 c0 h0;refine ⟨d,?_,hd2⟩;simp at hw;simp [az,List.replicate,hw,hd1]
  rw [eZ] at e2;have ec:(xs.length:Int)=c:=by omega
  refine ⟨xs,h,?_,by rw [ec];exact e3,by omega,by omega,h0,h1⟩;rw [ed];simp [hv,hm,m0,hc,s6,hh,List.replicate,bp,hr,eZ,bI (show c.toNat<=1000 by omega),e1]
noncomputable def df (ns:List Int) (i:Int):Bool:=ns.any fun j=>decide (j=i)
theorem bW {ns:List Int} {i:Int}:df ns i=true<->i∈ns:=by
  unfold df;rw [List.any_eq_true];constructor
  · rintro ⟨j,hj,e⟩;have:=of_decide_eq_true e;exact this ▸ hj
  · exact fun h=>⟨i,h,decide_eq_true rfl⟩
theorem nc:∀ ns:List Int,PyData.depthAll (ns.map .int)=0
  | []=>by simp [PyData.depthAll]
  | n::ns=>by simp [PyData.depthAll,PyData.depth,nc ns]
theorem vC (ns:List Int):PyData.canLayAll0 (ns.map .int)=true:=oE fun x hx=>by
  obtain ⟨i,_,rfl⟩:=List.mem_map.mp hx;exact ua i
theorem qw (ns:List Int) (i:Int):r8 (ns.map .int) (.int i)=true:=by
  unfold r8;rw [vC,nc];simp [PyData.canLay0]
theorem tL (ns:List Int) (i:Int):((ns.map PyData.int).any fun y=>PyData.eqv y (.int i))=df ns i:=by
  rw [List.any_map];congr 1
theorem Jl (ns:List Int) (i:Int) (neg:Bool):uN neg (.int i) (.tuple (ns.map .int))=.ok (.bool (if neg then !df ns i else df ns i)):=by
  show (if r8 (ns.map .int) (.int i)=true then R.ok (PyData.bool _) else .no)=_;rw [if_pos (qw ns i),tL]
theorem G7 (ns:List Int) (i:Int) (neg:Bool):uN neg (.int i) (.list (ns.map .int))=.ok (.bool (if neg then !df ns i else df ns i)):=by
  show (if r8 (ns.map .int) (.int i)=true then R.ok (PyData.bool _) else .no)=_;rw [if_pos (qw ns i),tL]
theorem cV {t:aS->R Bool} {ρ:aS} {p:Int->Bool}:∀ ns:List Int,(∀ x∈ns,t ((bn.non::ρ).set 0 (.val (.int x)))=.ok (p x))->bT (aT 0) t (ag 0) (.non::ρ) (ns.map .int)=.ok ((ns.filter p).map .int)
  | [],_=>cZ ..
  | x::ns,h=>by
    rw [List.map_cons,dG,h x List.mem_cons_self,cV ns fun y hy=>h y (List.mem_cons_of_mem _ hy)];cases hp:p x with
    | true=>rw [List.filter_cons_of_pos hp];rfl
    | false=>rw [List.filter_cons_of_neg (by rw [hp];simp)];rfl
theorem i6 (c:Nat):ca 0 c=((List.range c).map fun (k:Nat)=>(k:Int)).map .int:=by
  unfold ca;rw [List.map_map];apply List.map_congr_left;intro k _;simp
noncomputable def aU (ps:List P4) (i:Int):List Int:=(ps[i.toNat]?.map (·.ns)).getD []
theorem lI {ps:List P4} {i:Int} (h0:0<=i) (h1:i < ps.length):bJ (gD ps) (.int i)=.ok (ps[i.toNat]'(by omega)).d:=by
  rw [Ad h0 (by simpa using h1)];simp
theorem fO {ps:List P4} {i:Int} (h0:0<=i) (h1:i < ps.length):aU ps i=(ps[i.toNat]'(by omega)).ns:=by
  unfold aU;rw [List.getElem?_eq_getElem (by omega)];rfl
theorem i4 (p:P4):bJ p.d (.int 3)=.ok (.tuple (p.ns.map .int)):=rfl
theorem jO (p:P4):bJ p.d (.int 0)=.ok (.int p.w):=rfl
theorem DI {n c:Int} (hc0:0<=c) (hc1:c<=24):∃ ns:List Int,da [.int n,.int c]=.ok (.tuple (ns.map .int))/\ns.Pairwise (· < ·)/\∀ x∈ns,0<=x/\x < c:=by
  have hr:qb [.int c]=.ok (ca 0 c.toNat):=by
    show (if -(2 ^ 62)<=c/\c < 2 ^ 62 then R.ok (ca 0 c.toNat) else .no)=_;rw [if_pos (by omega)]
  have hx:∀ k:Int,∃ v,aV [.int n,.int k]=.ok (.int v):=fun k=>let ⟨v,h,_⟩:=oR n k;⟨v,h⟩
  obtain ⟨dr,hdr⟩:∃ dr:Int->Int,∀ k,aV [.int n,.int k]=.ok (.int (dr k)):=⟨fun k=>(hx k).choose,fun k=>(hx k).choose_spec⟩
  have hcmp:=cV (t:=zo (tE (e2 (iP) (ag 1) (eC (.int 4)))) (tE (e2 (eG IG) (e2 gk (aA aV (ai (ag 2) (ai (ag 0) aE))) (eC (.int 4))) (ag 1)))) (ρ:=[.val (.int (n%5)),.val (.int n)])
    (p:=fun k=>decide (n%5=4)||decide (dr k%4 < n%5)) ((List.range c.toNat).map fun (k:Nat)=>(k:Int)) fun k hk=>by
      by_cases h4:n%5=4 <;> simp [fZ,hdr,h4]
  rw [<- i6] at hcmp;refine ⟨((List.range c.toNat).map fun (k:Nat)=>(k:Int)).filter fun k=>decide (n%5=4)||decide (dr k%4 < n%5),?_,?_,?_⟩
  · unfold da kL;rw [ed];have e:az 1 [2,0] [.val (.int n),.val (.int c),.val (.int (n%5))]=[.non,.val (.int (n%5)),.val (.int n)]:=rfl;simp [List.replicate,bp,hr,eZ,bI (show c.toNat<=1000 by omega),e,hcmp]
  · refine List.Pairwise.filter _ ?_;rw [List.pairwise_map];exact (List.pairwise_lt_range).imp fun h=>by omega
  · intro x hx;have:=(List.mem_filter.mp hx).1;obtain ⟨k,hk,rfl⟩:=List.mem_map.mp this;have:=List.mem_range.mp hk;omega
noncomputable def ay (ps:List P4) (i:Int):Int:=(ps[i.toNat]?.map (·.w)).getD 0
theorem k8 {ps:List P4} {i:Int} (h0:0<=i) (h1:i < ps.length):ay ps i=(ps[i.toNat]'(by omega)).w:=by
  unfold ay;rw [List.getElem?_eq_getElem (by omega)];rfl
noncomputable def bM (ps:List P4) (js:List Int) (i:Int):List Int:=(aU ps i).filter (df js)
noncomputable def nh (ps:List P4) (js kn:List Int) (i:Int):List Int:=(bM ps js i).filter (df kn)
noncomputable def jH (ps:List P4) (js:List Int) (who:Int) (kn:List Int) (i:Int):Bool :=
  !df kn i&&(decide (0 < (nh ps js kn i).length)&&(decide (ay ps i=who)||decide ((nh ps js kn i).length=(bM ps js i).length)))
noncomputable def fg (ps:List P4) (js:List Int) (who:Int) (kn is:List Int):List Int:=is.filter (jH ps js who kn)
noncomputable def dq (ps:List P4) (js:List Int) (who r:Int) (kvs:List (Int×Int)):List (Int×Int):=kvs++(fg ps js who (kvs.map (·.1)) js).map fun i=>(i,r)
noncomputable def hJ (ps:List P4) (js:List Int) (who:Int):Int->Nat->List (Int×Int)->List (Int×Int)
  | _,0,kvs=>kvs
  | r,n+1,kvs=>hJ ps js who (r+1) n (dq ps js who r kvs)
theorem kb:∀ {l m:List Int},l.Nodup->(∀ x∈l,x∈m)->l.length<=m.length
  | [],m,_,_=>Nat.zero_le _
  | x::l,m,nd,h=>by
    obtain ⟨n1,n2⟩:=List.nodup_cons.mp nd;have hx:=h x List.mem_cons_self;have:=kb (m:=m.erase x) n2 fun y hy=>(List.mem_erase_of_ne (by rintro rfl;exact n1 hy)).mpr (h y (List.mem_cons_of_mem _ hy))
    rw [List.length_erase_of_mem hx] at this;have hp:=List.length_pos_of_mem hx;rw [List.length_cons];omega
structure jv (js:List Int) (kvs:List (Int×Int)):Prop where
  nd:(kvs.map (·.1)).Nodup
  sub:∀ x∈kvs.map (·.1),x∈js
theorem jv.len {js:List Int} {kvs:List (Int×Int)} (h:jv js kvs) (nj:js.Nodup):kvs.length<=js.length:=by
  have:=kb h.nd h.sub;simpa using this
theorem k7 (ps:List P4) (js:List Int) (who r:Int) (kvs:List (Int×Int)):(dq ps js who r kvs).map (·.1)=kvs.map (·.1)++fg ps js who (kvs.map (·.1)) js:=by
  unfold dq;rw [List.map_append,List.map_map];congr 1;exact List.map_id _
theorem pf {ps:List P4} {js:List Int} {who:Int} {kn is:List Int} {x:Int} (h:x∈fg ps js who kn is):x∈is/\x∉kn:=by
  obtain ⟨h1,h2⟩:=List.mem_filter.mp h;refine ⟨h1,fun z=>?_⟩;unfold jH at h2;rw [bW.mpr z] at h2;simp at h2
theorem jv.round {ps:List P4} {js:List Int} {who r:Int} {kvs:List (Int×Int)} (h:jv js kvs) (nj:js.Nodup):jv js (dq ps js who r kvs):=by
  refine ⟨?_,fun x hx=>?_⟩
  · rw [k7,List.nodup_append];refine ⟨h.nd,List.Pairwise.filter _ nj,fun a ha b hb e=>?_⟩;subst e;exact (pf hb).2 ha
  · rw [k7,List.mem_append] at hx;rcases hx with z | z
    · exact h.sub x z
    · exact (pf z).1
theorem lN (ps:List P4) (js:List Int) (who:Int):∀ (n:Nat) (r:Int) (kvs:List (Int×Int)),hJ ps js who r (n+1) kvs=dq ps js who (r+n) (hJ ps js who r n kvs)
  | 0,r,kvs=>by
    show dq ps js who r kvs=dq ps js who (r+((0:Nat):Int)) kvs;simp
  | n+1,r,kvs=>by
    show hJ ps js who (r+1) (n+1) (dq ps js who r kvs)=_;rw [lN ps js who n (r+1)];show dq ps js who (r+1+n) _=dq ps js who (r+((n+1:Nat):Int)) _;rw [show r+1+(n:Int)=r+((n+1:Nat):Int) by omega];rfl
noncomputable def aK (ps:List P4) (js:List Int) (who:Int) (gs:List Int):Nat->List Int
  | 0=>gs
  | m+1=>aK ps js who gs m++fg ps js who (aK ps js who gs m) js
noncomputable def zk (ps:List P4) (js:List Int) (who:Int) (gs:List Int) (m:Nat):List (Int×Int):=hJ ps js who 1 m (gs.map fun i=>(i,0))
theorem pM (ps:List P4) (js:List Int) (who:Int) (gs:List Int) (m:Nat):zk ps js who gs (m+1)=dq ps js who (m+1) (zk ps js who gs m):=by
  unfold zk;rw [lN];congr 1;omega
theorem fH (ps:List P4) (js:List Int) (who:Int) (gs:List Int):∀ m,(zk ps js who gs m).map (·.1)=aK ps js who gs m
  | 0=>by
    show (gs.map fun i=>((i,0):Int×Int)).map (·.1)=gs;rw [List.map_map];exact List.map_id _
  | m+1=>by
    rw [pM,k7,fH ps js who gs m];rfl
noncomputable def look (kvs:List (Int×Int)) (i:Int):Option Int:=(kvs.find? fun q=>decide (q.1=i)).map (·.2)
theorem nq (a b:List (Int×Int)) (i:Int):look (a++b) i=(look a i).or (look b i):=by
  unfold look;rw [List.find?_append];cases a.find? _ <;> rfl
theorem gH {kvs:List (Int×Int)} {i:Int}:look kvs i=none<->i∉kvs.map (·.1):=by
  unfold look;rw [Option.map_eq_none_iff,List.find?_eq_none];constructor
  · intro h z;obtain ⟨q,hq,e⟩:=List.mem_map.mp z;exact h q hq (decide_eq_true e)
  · intro h q hq e;exact h (List.mem_map.mpr ⟨q,hq,of_decide_eq_true e⟩)
theorem iW (r:Int) (i:Int):∀ l:List Int,look (l.map fun j=>(j,r)) i=if i∈l then some r else none
  | []=>rfl
  | j::l=>by
    have ih:=iW r i l;unfold look at ih ⊢;by_cases h:j=i
    · subst h;rw [List.map_cons,List.find?_cons_of_pos (by simp)];simp
    · rw [List.map_cons,List.find?_cons_of_neg (by simpa using h),ih];by_cases h2:i∈l
      · simp [h2]
      · have:¬ (i=j):=fun z=>h z.symm
        simp [h2,this]
section
variable {ps:List P4} {js:List Int} {who:Int} {gs:List Int}
theorem j7 {i:Int} {k:Nat} (h:i∈aK ps js who gs k):∀ {m:Nat},k<=m->i∈aK ps js who gs m
  | 0,hm=>by
    have:k=0:=by omega
    subst this;exact h
  | m+1,hm=>by
    by_cases e:k=m+1
    · subst e;exact h
    · show i∈aK ps js who gs m++_;exact List.mem_append_left _ (j7 h (by omega))
theorem fT {i:Int}:∀ {m:Nat} {q:Int},look (zk ps js who gs m) i=some q<->∃ k:Nat,q=k/\k<=m/\i∈aK ps js who gs k/\(k=0\/i∉aK ps js who gs (k-1))
  | 0,q=>by
    show look (gs.map fun j=>(j,0)) i=some q<->_;rw [iW];constructor
    · intro h;split at h
      · rename_i hi;cases h;exact ⟨0,rfl,Nat.le_refl _,hi,.inl rfl⟩
      · cases h
    · rintro ⟨k,rfl,hk,hi,_⟩;have:k=0:=by omega
      subst this;rw [if_pos (show i∈gs from hi)];rfl
  | m+1,q=>by
    have ih:=fun q=>fT (i:=i) (m:=m) (q:=q)
    have e:zk ps js who gs (m+1)=zk ps js who gs m++(fg ps js who (aK ps js who gs m) js).map fun j=>(j,((m+1:Nat):Int)):=by
      rw [pM];unfold dq;rw [fH];rfl
    rw [e,nq,iW];by_cases hi:i∈aK ps js who gs m
    · cases h0:look (zk ps js who gs m) i with
      | none=>rw [gH,fH] at h0;exact (h0 hi).elim
      | some q0 =>
        rw [Option.some_or,<- h0,ih q];constructor
        · rintro ⟨k,a,b,c,d⟩;exact ⟨k,a,by omega,c,d⟩
        · rintro ⟨k,a,b,c,d⟩;refine ⟨k,a,?_,c,d⟩;by_cases hk:k=m+1
          · subst hk;rcases d with d | d
            · omega
            · exact (d hi).elim
          · omega
    · have h0:look (zk ps js who gs m) i=none:=by rw [gH,fH];exact hi
      rw [h0,Option.none_or];constructor
      · intro h;split at h
        · rename_i hn;cases h;exact ⟨m+1,rfl,Nat.le_refl _,List.mem_append_right _ hn,.inr hi⟩
        · cases h
      · rintro ⟨k,rfl,b,c,d⟩;have hk:k=m+1:=by
          by_cases hk:k=m+1
          · exact hk
          · exact (hi (j7 c (by omega))).elim
        subst hk;have c':i∈aK ps js who gs m++fg ps js who (aK ps js who gs m) js:=c;rw [if_pos ((List.mem_append.mp c').elim (fun z=>(hi z).elim) id)]
theorem wD {k:Nat} (h:fg ps js who (aK ps js who gs k) js=[]):∀ d,aK ps js who gs (k+d)=aK ps js who gs k
  | 0=>rfl
  | d+1=>by
    show aK ps js who gs (k+d)++fg ps js who (aK ps js who gs (k+d)) js=_;rw [wD h d,h,List.append_nil]
theorem rD (ng:gs.Nodup) (hg:∀ x∈gs,x∈js) (nj:js.Nodup):∀ m,jv js (zk ps js who gs m)
  | 0=>⟨by rw [fH];exact ng,fun x hx=>by rw [fH] at hx;exact hg x hx⟩
  | m+1=>by rw [pM];exact (rD ng hg nj m).round nj
theorem vh (ng:gs.Nodup) (hg:∀ x∈gs,x∈js) (nj:js.Nodup) {m:Nat} {i:Int} (h:i∈aK ps js who gs m):i∈js:=by
  have:=(rD (ps:=ps) (who:=who) ng hg nj m).sub;rw [fH] at this;exact this i h
theorem EJ (ng:gs.Nodup) (hg:∀ x∈gs,x∈js) (nj:js.Nodup) (m:Nat):(aK ps js who gs m).length<=js.length:=by
  have:=(rD (ps:=ps) (who:=who) ng hg nj m).len nj;rw [<- fH,List.length_map];exact this
theorem wC:∀ m,(∀ k,k < m->fg ps js who (aK ps js who gs k) js≠[])->m+gs.length<=(aK ps js who gs m).length
  | 0,_=>by show 0+gs.length<=gs.length;omega
  | m+1,h=>by
    have:=wC m fun k hk=>h k (by omega)
    have h1:=h m (by omega);have h2:=List.length_pos_iff.mpr h1;show _<=(aK ps js who gs m++fg ps js who (aK ps js who gs m) js).length;rw [List.length_append];omega
theorem EI (ng:gs.Nodup) (hg:∀ x∈gs,x∈js) (nj:js.Nodup) {n:Nat} (hn:js.length<=n):fg ps js who (aK ps js who gs n) js=[]:=by
  by_cases h:fg ps js who (aK ps js who gs n) js=[]
  · exact h
  · have:=wC (ps:=ps) (js:=js) (who:=who) (gs:=gs) (n+1) fun k hk e=>h (by
      have s:=wD e (n-k);rw [show k+(n-k)=n by omega] at s;rw [s];exact e)
    have:=EJ (ps:=ps) (who:=who) ng hg nj (n+1);omega
theorem ia {α:Type} (p:α->Bool):∀ l:List α,(l.filter p).length=l.length<->∀ x∈l,p x=true
  | []=>by simp
  | x::l=>by
    have ih:=ia p l;have le:=List.length_filter_le p l;cases h:p x with
    | true=>rw [List.filter_cons_of_pos h];simp [ih,h]
    | false=>rw [List.filter_cons_of_neg (by rw [h];simp)];simp [h];omega
theorem pb {α:Type} (p:α->Bool) (l:List α):0 < (l.filter p).length<->∃ x∈l,p x=true:=by
  rw [List.length_pos_iff_exists_mem];simp [List.mem_filter]
theorem fX {kn:List Int} {i:Int}:jH ps js who kn i=true<->i∉kn/\(∃ g∈bM ps js i,g∈kn)/\(ay ps i=who\/∀ g∈bM ps js i,g∈kn):=by
  unfold jH nh;rw [Bool.and_eq_true,Bool.and_eq_true,Bool.or_eq_true,decide_eq_true_iff,decide_eq_true_iff,decide_eq_true_iff,pb,ia,Bool.not_eq_true',<- Bool.not_eq_true,bW];simp only [bW]
noncomputable def rK (ps:List P4) (js:List Int) (who:Int) (gs:List Int) (i:Int):Option Int:=look (zk ps js who gs ps.length) i
structure uP (ps:List P4) (js:List Int) (who:Int) (gs:List Int) (rk:Int->Option Int):Prop where
  nneg:∀ i q,rk i=some q->0<=q
  sub:∀ i q,rk i=some q->i∈js
  zero:∀ i,rk i=some 0<->i∈gs
  own:∀ i q,rk i=some q->0 < q->ay ps i=who->∃ g∈bM ps js i,rk g=some (q-1)
  low:∀ i q g t,rk i=some q->0 < q->ay ps i=who->g∈bM ps js i->rk g=some t->q-1<=t
  oth:∀ i q,rk i=some q->0 < q->ay ps i≠who->(∃ g,g∈bM ps js i)/\∀ g∈bM ps js i,∃ t,rk g=some t/\t < q
  outO:∀ i,i∈js->rk i=none->ay ps i=who->∀ g∈bM ps js i,rk g=none
  outX:∀ i,i∈js->rk i=none->ay ps i≠who->(∃ g,g∈bM ps js i)->∃ g∈bM ps js i,rk g=none
theorem nW (ng:gs.Nodup) (hg:∀ x∈gs,x∈js) (nj:js.Nodup) (hn:js.length<=ps.length):uP ps js who gs (rK ps js who gs):=by
  have ex:∀ {i k},i∈aK ps js who gs k->k<=ps.length->∃ t:Nat,t<=k/\rK ps js who gs i=some (t:Int):=fun {i}=>by
    intro k;induction k with
    | zero=>exact fun h _=>⟨0,Nat.le_refl _,fT.mpr ⟨0,rfl,by omega,h,.inl rfl⟩⟩
    | succ k ih =>
      intro h hk;by_cases h1:i∈aK ps js who gs k
      · obtain ⟨t,a,b⟩:=ih h1 (by omega);exact ⟨t,by omega,b⟩
      · exact ⟨k+1,Nat.le_refl _,fT.mpr ⟨k+1,rfl,hk,h,.inr h1⟩⟩
  have nm:∀ {i},rK ps js who gs i=none<->i∉aK ps js who gs ps.length:=fun {i}=>by
    unfold rK;rw [gH,fH]
  have fix:=EI (ps:=ps) (who:=who) ng hg nj hn;have new:∀ {i k},i∈aK ps js who gs (k+1)->i∉aK ps js who gs k->jH ps js who (aK ps js who gs k) i=true:=fun {i k} h1 h2=>by
    have h1':i∈aK ps js who gs k++fg ps js who (aK ps js who gs k) js:=h1;rcases List.mem_append.mp h1' with z | z
    · exact (h2 z).elim
    · exact (List.mem_filter.mp z).2
  have not:∀ {i k},i∈js->i∉aK ps js who gs (k+1)->¬ jH ps js who (aK ps js who gs k) i=true:=fun {i k} h1 h2 h3 =>
    h2 (show i∈aK ps js who gs k++fg ps js who (aK ps js who gs k) js from List.mem_append_right _ (List.mem_filter.mpr ⟨h1,h3⟩))
  have pos:∀ {i q},rK ps js who gs i=some q->0 < q->∃ k:Nat,q=((k+1:Nat):Int)/\k+1<=ps.length/\i∈aK ps js who gs (k+1)/\i∉aK ps js who gs k:=fun {i q} h hq=>by
    obtain ⟨k,rfl,b,c,d⟩:=fT.mp h;cases k with
    | zero=>omega
    | succ k =>
      rcases d with d | d
      · omega
      · exact ⟨k,rfl,b,c,d⟩
  refine ⟨fun i q h=>?_,fun i q h=>?_,fun i=>?_,fun i q h hq ho=>?_,fun i q g t h hq ho hg' ht=>?_,fun i q h hq ho=>?_,fun i hi h ho g hg'=>?_,fun i hi h ho hw=>?_⟩
  · obtain ⟨k,rfl,_⟩:=fT.mp h;omega
  · obtain ⟨k,rfl,_,c,_⟩:=fT.mp h;exact vh ng hg nj c
  · constructor
    · intro h;obtain ⟨k,e,_,c,_⟩:=fT.mp h;have:k=0:=by omega
      subst this;exact c
    · exact fun h=>fT.mpr ⟨0,rfl,by omega,h,.inl rfl⟩
  · obtain ⟨k,rfl,b,c,d⟩:=pos h hq;obtain ⟨_,⟨g,hg1,hg2⟩,_⟩:=fX.mp (new c d);obtain ⟨t,ht,hr⟩:=ex hg2 (by omega);refine ⟨g,hg1,?_⟩;by_cases e:t=k
    · subst e;rw [hr];congr 1;omega
    · exfalso;cases k with
      | zero=>omega
      | succ k =>
        obtain ⟨t',e',_,c',_⟩:=fT.mp hr;have e'':t=t':=by omega
        subst e'';exact not (vh ng hg nj c) d (fX.mpr ⟨fun z=>d (j7 z (by omega)),⟨g,hg1,j7 c' (by omega)⟩,.inl ho⟩)
  · obtain ⟨k,rfl,b,c,d⟩:=pos h hq;obtain ⟨t',rfl,_,c',_⟩:=fT.mp ht;by_cases e:k<=t'
    · omega
    · exfalso;cases k with
      | zero=>omega
      | succ k=>exact not (vh ng hg nj c) d (fX.mpr ⟨fun z=>d (j7 z (by omega)),⟨g,hg',j7 c' (by omega)⟩,.inl ho⟩)
  · obtain ⟨k,rfl,b,c,d⟩:=pos h hq;obtain ⟨_,⟨g,hg1,_⟩,o⟩:=fX.mp (new c d);refine ⟨⟨g,hg1⟩,fun g' hg'=>?_⟩;obtain ⟨t,ht,hr⟩:=ex ((o.resolve_left ho) g' hg') (by omega);exact ⟨t,hr,by omega⟩
  · rw [nm] at h ⊢;intro hz;have:i∈fg ps js who (aK ps js who gs ps.length) js:=List.mem_filter.mpr ⟨hi,fX.mpr ⟨h,⟨g,hg',hz⟩,.inl ho⟩⟩;rw [fix] at this;cases this
  · rw [nm] at h;by_cases hz:∃ g∈bM ps js i,rK ps js who gs g=none
    · exact hz
    · exfalso;have all:∀ g∈bM ps js i,g∈aK ps js who gs ps.length:=fun g hg'=>by
        by_cases z:g∈aK ps js who gs ps.length
        · exact z
        · exact (hz ⟨g,hg',nm.mpr z⟩).elim
      obtain ⟨g,hg'⟩:=hw;have:i∈fg ps js who (aK ps js who gs ps.length) js:=List.mem_filter.mpr ⟨hi,fX.mpr ⟨h,⟨g,hg',all g hg'⟩,.inr all⟩⟩;rw [fix] at this;cases this
end
noncomputable abbrev ids (n:Nat):List Int:=(List.range n).map fun (k:Nat)=>(k:Int)
theorem bC {n:Nat} {i:Int}:i∈ids n<->0<=i/\i < n:=by
  constructor
  · intro h;obtain ⟨k,hk,rfl⟩:=List.mem_map.mp h;have:=List.mem_range.mp hk;omega
  · rintro ⟨h0,h1⟩;exact List.mem_map.mpr ⟨i.toNat,List.mem_range.mpr (by omega),by omega⟩
theorem rZ (n:Nat):(ids n).length=n:=by simp
theorem CJ {n k:Nat} (h:k < n):(ids n)[k]?=some (k:Int):=by
  rw [List.getElem?_map,List.getElem?_range h];rfl
theorem E2 (n:Nat):(ids n).Pairwise (· < ·):=by
  rw [List.pairwise_map];exact (List.pairwise_lt_range).imp fun h=>by omega
theorem pk {l:List Int} (h:l.Pairwise (· < ·)):l.Nodup:=h.imp fun h=>by omega
noncomputable def tab (f:Int->PyData) (n:Nat):List PyData:=(ids n).map f
theorem bD (f:Int->PyData) (n:Nat):(tab f n).length=n:=by unfold tab;rw [List.length_map,rZ]
theorem fI {f:Int->PyData} {n:Nat} {i:Int} (h0:0<=i) (h1:i < n):(tab f n)[i.toNat]'(by rw [bD];omega)=f i:=by
  have h:=CJ (n:=n) (k:=i.toNat) (by omega);have:(tab f n)[i.toNat]?=some (f i):=by
    unfold tab;rw [List.getElem?_map,h,Option.map_some];congr 2;omega
  exact Option.some.inj ((List.getElem?_eq_getElem _).symm.trans this)
theorem uG {f:Int->PyData} {n:Nat} {i:Int} (h0:0<=i) (h1:i < n):bJ (.tuple (tab f n)) (.int i)=.ok (f i):=by
  rw [Ad h0 (by rw [bD];exact h1),fI h0 h1]
theorem BA {f:Int->PyData} {n:Nat} {i:Int} (h0:0<=i) (h1:i < n):bJ (.list (tab f n)) (.int i)=.ok (f i):=by
  rw [wI h0 (by rw [bD];exact h1),fI h0 h1]
theorem cD {f g:Int->PyData} {n:Nat} (h:∀ i:Int,0<=i->i < n->f i=g i):tab f n=tab g n :=
  List.map_congr_left fun i hi=>h i (bC.mp hi).1 (bC.mp hi).2
theorem oa {f:Int->PyData} {n:Nat} {i:Int} {v:PyData} (h0:0<=i) (h1:i < n):(tab f n).set i.toNat v=tab (fun j=>if j=i then v else f j) n:=by
  refine List.ext_getElem (by rw [List.length_set,bD,bD]) fun k hk1 hk2=>?_
  rw [bD] at hk2;have e:=fI (f:=fun j=>if j=i then v else f j) (n:=n) (i:=(k:Int)) (by omega) (by omega);have e2:=fI (f:=f) (n:=n) (i:=(k:Int)) (by omega) (by omega);simp only [Int.toNat_natCast] at e e2;rw [e,List.getElem_set];by_cases h:i.toNat=k
  · rw [if_pos h,if_pos (by omega)]
  · rw [if_neg h,if_neg (by omega),e2]
theorem vX (f:Int->PyData) (ρ:aS) (g:Fe) (n:Nat) (h:∀ i:Int,0<=i->i < n->g (ρ.set 0 (.val (.int i)))=.ok (f i)):bT (aT 0) (fun _=>.ok true) g ρ (ca 0 n)=.ok (tab f n):=by
  have:=gF g ρ 0 (fun d=>match d with | .int i=>f i | d=>d) (ca 0 n) fun d hd=>by
    unfold ca at hd;obtain ⟨k,hk,rfl⟩:=List.mem_map.mp hd;have:=List.mem_range.mp hk;exact h _ (by omega) (by omega)
  rw [this];unfold tab;rw [i6,List.map_map];rfl
noncomputable def oD:Option Int->PyData
  | none=>.none
  | some k=>.int k
theorem xf (o:Option Int):mZ (oD o) .none=.ok (.bool o.isSome):=by cases o <;> rfl
theorem Ax (o:Option Int):rP (oD o) .none=.ok (.bool o.isNone):=by cases o <;> rfl
noncomputable def vD (k m:Nat):List Int:=(List.range m).map fun (j:Nat)=>((k+j:Nat):Int)
theorem ub (k m:Nat):vD k (m+1)=(k:Int)::vD (k+1) m:=by
  unfold vD;rw [List.range_succ_eq_map,List.map_cons,List.map_map];congr 1;apply List.map_congr_left;intro j _;show ((k+(j+1):Nat):Int)=((k+1+j:Nat):Int)
  omega
theorem rY (n:Nat):vD 0 n=ids n:=by
  unfold vD;apply List.map_congr_left;intro j _;simp
theorem jJ {t:aS->R Bool} {ρ:aS} {p:Int->Bool} {g:Int->PyData}:∀ (m k:Nat),(∀ j:Nat,k<=j->j < k+m->t (.val (.int j)::.val (g j)::ρ)=.ok (p j)) ->
    bT (fB 0 1) t (ag 0) (.non::.non::ρ) (dW k ((vD k m).map g))=.ok (((vD k m).filter p).map .int)
  | 0,k,_=>by unfold vD;simp [dW,cZ]
  | m+1,k,h=>by
    rw [ub,List.map_cons];have e:dW k (g k::(vD (k+1) m).map g)=.tuple [.int k,g k]::dW (k+1) ((vD (k+1) m).map g):=rfl;rw [e,gL,jJ m (k+1) fun j h1 h2=>h j (by omega) (by omega)];have hk:=h k (Nat.le_refl _) (by omega);simp only [List.set_cons_zero,List.set_cons_succ,hk,R.ok_bind,ap];cases hp:p k with
    | true=>rw [List.filter_cons_of_pos hp];rfl
    | false=>rw [List.filter_cons_of_neg (by rw [hp];simp)];rfl
theorem tZ {fe:Fe} {ρ:aS} {g h:Int->PyData}:∀ (m k:Nat),(∀ j:Nat,k<=j->j < k+m->fe (.val (.int j)::.val (g j)::ρ)=.ok (h j)) ->
    bT (fB 0 1) (fun _=>.ok true) fe (.non::.non::ρ) (dW k ((vD k m).map g))=.ok ((vD k m).map h)
  | 0,k,_=>by unfold vD;simp [dW,cZ]
  | m+1,k,hh=>by
    rw [ub,List.map_cons];have e:dW k (g k::(vD (k+1) m).map g)=.tuple [.int k,g k]::dW (k+1) ((vD (k+1) m).map g):=rfl;rw [e,gL,tZ m (k+1) fun j h1 h2=>hh j (by omega) (by omega)];have hk:=hh k (Nat.le_refl _) (by omega);simp only [R.ok_bind,if_true,List.set_cons_zero,List.set_cons_succ,hk];rfl
theorem DS {f g h:Int->PyData} {n:Nat} {fe:Fe} {ρ:aS} (hh:∀ i:Int,0<=i->i < n->fe (.val (f i)::.val (g i)::ρ)=.ok (h i)):bT (fB 0 1) (fun _=>.ok true) fe (.non::.non::ρ) (jX (tab f n) (tab g n))=.ok (tab h n):=by
  have go:∀ is:List Int,(∀ i∈is,0<=i/\i < n)->bT (fB 0 1) (fun _=>.ok true) fe (.non::.non::ρ) (jX (is.map f) (is.map g))=.ok (is.map h):=by
    intro is;induction is with
    | nil=>intro _;unfold jX;simp [cZ]
    | cons i is ih =>
      intro hb;have e:jX ((i::is).map f) ((i::is).map g)=.tuple [f i,g i]::jX (is.map f) (is.map g):=rfl;rw [e,gL,ih fun x hx=>hb x (List.mem_cons_of_mem _ hx)];have:=hh i (hb i List.mem_cons_self).1 (hb i List.mem_cons_self).2;simp only [R.ok_bind,if_true,List.set_cons_zero,List.set_cons_succ,this];rfl
  exact go (ids n) fun i hi=>bC.mp hi
theorem pS (t:aS->R Bool) (g:Fs) (n:Nat) (ρ:aS):dU t g (n+1) ρ=(t ρ>>=fun b=>if b=true then g ρ>>=qR (dU t g n) else .ok (.nx ρ)):=by
  rw [dU];congr 1
noncomputable def sG (s:PyData) (js:List Int):Prop:=s=.tuple (js.map .int)\/s=.list (js.map .int)
theorem sG.inn {s:PyData} {js:List Int} (h:sG s js) (neg:Bool) (k:Int):uN neg (.int k) s=.ok (.bool (if neg then !df js k else df js k)):=by
  rcases h with rfl | rfl
  · exact Jl ..
  · exact G7 ..
theorem sG.seq {s:PyData} {js:List Int} (h:sG s js):jh s=.ok (js.map .int):=by
  rcases h with rfl | rfl <;> rfl
theorem sG.len {s:PyData} {js:List Int} (h:sG s js):cN s=.ok (.int js.length):=by
  rcases h with rfl | rfl <;> simp
structure cu (n:Nat) (js:List Int):Prop where
  lt:js.Pairwise (· < ·)
  inn:∀ x∈js,0<=x/\x < n
theorem cu.nd {n:Nat} {js:List Int} (h:cu n js):js.Nodup:=pk h.lt
theorem cu.len {n:Nat} {js:List Int} (h:cu n js):js.length<=n:=by
  have:=lg js 0 n h.lt h.inn;rcases this with z | z
  · rw [z];simp
  · omega
theorem cu.filter {n:Nat} {js:List Int} (h:cu n js) (p:Int->Bool):cu n (js.filter p):=⟨h.lt.filter _,fun x hx=>h.inn x (List.mem_filter.mp hx).1⟩
theorem cu.ids (n:Nat):cu n (ids n):=⟨E2 n,fun x hx=>bC.mp hx⟩
noncomputable def eR (ps:List P4) (js:List Int):Prop:=∀ i∈js,∃ g,g∈bM ps js i
noncomputable abbrev oT (f:Int->Option Int) (n:Nat):PyData:=.tuple (tab (fun i=>oD (f i)) n)
theorem wN (o:Option Int) (k:Int):iP (oD o) (.int k)=.ok (.bool (decide (o=some k))):=by
  cases o with
  | none=>rfl
  | some q =>
    show iP (.int q) (.int k)=_;rw [fZ];congr 2;simp
structure Gr (ps:List P4):Prop where
  hl:∀ p∈ps,p.ns.length<=100
  hgo:∀ p∈ps,∀ x∈p.ns,0<=x/\x < ps.length
  hp:ps.length<=24
  lt:∀ p∈ps,p.ns.Pairwise (· < ·)
  ne:∀ p∈ps,p.ns≠[]
theorem Gr.goals {ps:List P4} (G:Gr ps) {i x:Int} (h:x∈aU ps i):0<=x/\x < ps.length:=by
  unfold aU at h;cases e:ps[i.toNat]? with
  | none=>rw [e] at h;cases h
  | some p=>rw [e] at h;exact G.hgo p (List.mem_of_getElem? e) x h
theorem Gr.glen {ps:List P4} (G:Gr ps) (i:Int):(aU ps i).length<=100:=by
  unfold aU;cases e:ps[i.toNat]? with
  | none=>simp
  | some p=>exact G.hl p (List.mem_of_getElem? e)
noncomputable def aH (ps:List P4) (i:Int):Int:=(ps[i.toNat]?.map (·.m)).getD 0
theorem k9 (p:P4):bJ p.d (.int 1)=.ok (.int p.m):=rfl
theorem qD {ps:List P4} {i:Int} (h0:0<=i) (h1:i < ps.length):aH ps i=(ps[i.toNat]'(by omega)).m:=by
  unfold aH;rw [List.getElem?_eq_getElem (by omega)];rfl
theorem yO {ps:List P4} {js:List Int} (hne:js≠[]):∃ h,wJ (.list ((js.map (aH ps)).map .int))=.ok (.int h)/\(∃ i∈js,aH ps i=h)/\∀ i∈js,aH ps i<=h:=by
  cases js with
  | nil=>exact (hne rfl).elim
  | cons j js =>
    obtain ⟨s1,s2⟩:=qE (aH ps j) (js.map (aH ps));refine ⟨vL (aH ps j) (js.map (aH ps)),?_,?_,fun i hi=>?_⟩
    · show (match ce (((j::js).map (aH ps)).map .int) with | some (n::ns)=>R.ok (PyData.int (vL n ns)) | _=>.no)=_;rw [dk];rfl
    · rw [<- List.map_cons (f:=aH ps)] at s1;obtain ⟨i,hi,e⟩:=List.mem_map.mp s1;exact ⟨i,hi,e⟩
    · exact s2 _ (by rw [<- List.map_cons (f:=aH ps)];exact List.mem_map.mpr ⟨i,hi,rfl⟩)
noncomputable def iE (f:Int->Option Int) (n:Nat):List Int:=(ids n).filter fun i=>(f i).isSome
theorem pJ (f:Int->Option Int) (n:Nat):cu n (iE f n):=(cu.ids n).filter _
theorem gI {f:Int->Option Int} {n:Nat} {i:Int}:i∈iE f n<->(0<=i/\i < n)/\∃ q,f i=some q:=by
  unfold iE;rw [List.mem_filter,bC,Option.isSome_iff_exists]
noncomputable def mJ (ps:List P4) (who:Int) (f:Int->Option Int) (i:Int):Option Int:=match f i with
  | some q=>if ay ps i=who/\0 < q then ((aU ps i).filter fun g=>decide (f g=some (q-1))).head? else none
  | none=>none
theorem kT {ps:List P4} {js:List Int} {who:Int} {gs:List Int} {rk:Int->Option Int} (A:uP ps js who gs rk):∀ i q,rk i=some q->0 < q->ay ps i=who->∃ g∈aU ps i,rk g=some (q-1):=fun i q h1 h2 h3=>by
  obtain ⟨g,hg,e⟩:=A.own i q h1 h2 h3;exact ⟨g,(List.mem_filter.mp hg).1,e⟩
noncomputable def dF (js:List Int) (some:List Int):List Int:=js.filter fun i=>!df some i
theorem bG {js some:List Int} {i:Int}:i∈dF js some<->i∈js/\i∉some:=by
  unfold dF;rw [List.mem_filter,Bool.not_eq_true',<- Bool.not_eq_true,bW]
noncomputable def eT (ps:List P4) (who:Int) (part:List Int) (i:Int):Option Int:=if i∈part/\ay ps i=who then (bM ps part i).head? else none
structure Sh where
  w:Int
  pl:List Int
  mv:Int->Option Int
noncomputable def eL (f g:Int->Option Int) (i:Int):Option Int:=(f i).or (g i)
theorem j9 {s t:PyData} {ns js:List Int} (hs:sG s ns) (ht:sG t js) (hl:ns.length<=1000):bo [s,t]=.ok (.tuple ((ns.filter (df js)).map .int)):=by
  have hcmp:=cV (t:=tE (e2 (uN false) (ag 0) (ag 1))) (ρ:=[.val t]) (p:=df js) ns fun k hk=>by simp [ht.inn]
  unfold bo om;refine eN ?_;rw [show ([s,t].map bn.val++List.replicate (2 - [s,t].length) bn.non)=[.val s,.val t] from rfl];rw [cy,bU,bp,show az 1 [1] [.val s,.val t]=[.non,.val t] from rfl];simp -implicitDefEqProofs only [bV,ap,R.ok_bind,hs.seq,cr];rw [if_pos (by rw [List.length_map];exact bI hl),hcmp];rfl
theorem gS {s t:PyData} {ns js:List Int} (hs:sG s ns) (ht:sG t js) (hl:ns.length<=1000):aZ [s,t]=.ok (.tuple ((ns.filter fun i=>!df js i).map .int)):=by
  have hcmp:=cV (t:=tE (e2 (uN true) (ag 0) (ag 1))) (ρ:=[.val t]) (p:=fun i=>!df js i) ns fun k hk=>by simp [ht.inn]
  unfold aZ l9;refine eN ?_;rw [show ([s,t].map bn.val++List.replicate (2 - [s,t].length) bn.non)=[.val s,.val t] from rfl];rw [cy,bU,bp,show az 1 [1] [.val s,.val t]=[.non,.val t] from rfl];simp -implicitDefEqProofs only [bV,ap,R.ok_bind,hs.seq,cr];rw [if_pos (by rw [List.length_map];exact bI hl),hcmp];rfl
theorem r9 {p:P4} {ws:List Int} {who:Int} {f:Int->Option Int} {n:Nat} (hw:∀ g∈ws,0<=g/\g < n) (hl:ws.length<=1000) :
    cs [p.d,.tuple (ws.map .int),.int who,.list (tab (fun i=>oD (f i)) n)]=.ok (.bool (if p.w=who then decide (0 < (ws.filter fun g=>(f g).isSome).length) else decide ((ws.filter fun g=>(f g).isSome).length=ws.length))):=by
  have hcmp:=cV (t:=tE (e2 (mZ) (e2 bJ (ag 1) (ag 0)) (eC .none))) (ρ:=[.val (.list (tab (fun i=>oD (f i)) n))]) (p:=fun g=>(f g).isSome) ws fun k hk=>by
    simp only [List.set_cons_zero,cL,bB,ap,aw,bK,R.ok_bind,BA (hw k hk).1 (hw k hk).2,xf,cU]
  unfold cs jx;refine eN ?_;rw [show ([p.d,.tuple (ws.map .int),.int who,.list (tab (fun i=>oD (f i)) n)].map bn.val++List.replicate (5 - [p.d,.tuple (ws.map .int),.int who,.list (tab (fun i=>oD (f i)) n)].length) bn.non)=[.val p.d,.val (.tuple (ws.map .int)),.val (.int who),.val (.list (tab (fun i=>oD (f i)) n)),.non] from rfl];rw [aR (ρ':=[.val p.d,.val (.tuple (ws.map .int)),.val (.int who),.val (.list (tab (fun i=>oD (f i)) n)),.val (.list ((ws.filter fun g=>(f g).isSome).map .int))]) (by
    rw [bH,bp,show az 1 [3] [.val p.d,.val (.tuple (ws.map .int)),.val (.int who),.val (.list (tab (fun i=>oD (f i)) n)),.non]=[.non,.val (.list (tab (fun i=>oD (f i)) n))] from rfl];simp only [bV,ap,aw,R.ok_bind,cO,cr];rw [if_pos (by rw [List.length_map];exact bI hl),hcmp];rfl)]
  by_cases h:p.w=who
  · rw [if_pos h];refine Bp ?_;simp only [dL,cL,bB,bU,ap,aw,bK,R.ok_bind,jO,fZ,cU,h,decide_true,if_true,cy,oO,iO,List.length_map];congr 3;simp
  · rw [if_neg h,aR (ρ':=[.val p.d,.val (.tuple (ws.map .int)),.val (.int who),.val (.list (tab (fun i=>oD (f i)) n)),.val (.list ((ws.filter fun g=>(f g).isSome).map .int))]) (by
      simp only [dL,cL,bB,bU,ap,aw,bK,R.ok_bind,jO,fZ,cU,h,decide_false];rfl)]
    simp only [cy,bB,bU,ap,aw,R.ok_bind,oO,rQ,fZ,List.length_map];congr 3;exact decide_eq_decide.mpr (by omega)
theorem uK {d:PyData} (h:noD d):dY [d]=.ok (.bool (Jm d)):=by
  cases d <;> first | rfl | cases h
theorem oK {d:PyData} (h:noD d) (lo hi:Int):cE [d,.int lo,.int hi]=.ok (.bool (D4 d lo hi)):=by
  unfold cE iK;rw [ed];cases d with
  | int i =>
    by_cases h1:lo<=i <;> by_cases h2:i<=hi <;> simp [uK h,Jm,h1,h2,D4]
  | dict k=>cases h
  | _=>simp [uK h,Jm,D4]
theorem qN (t:PyData) (c:Int):∀ (ds:List PyData) (l:Int) (x:bn),(∀ d∈ds,noD d) ->
    ∃ ρ,gM (aT 3) (bf (lu (jp (tE (aA cE (ai (ag 3) (ai (ag 2) (ai (e2 ip (ag 1) (eC (.int 1))) aE)))))) (cK (eC (.bool false))) de) (cf 2 (e2 dP (ag 3) (eC (.int 1))))) ds
      [.val t,.val (.int c),.val (.int l),x]=if jS c l ds=true then .ok (.nx ρ) else .ok (.rt (.bool false))
  | [],l,x,_=>⟨_,by rw [fD];rfl⟩
  | d::ds,l,x,h=>by
    have hd:=h d List.mem_cons_self;cases hb:D4 d l (c-1) with
    | false =>
      refine ⟨[],?_⟩;have hr:jS c l (d::ds)=false:=by
        cases d with
        | int i =>
          simp only [D4] at hb;simp only [jS];rcases (Bool.and_eq_false_iff.mp hb) with z | z
          · rw [z];rfl
          · have:decide (i < c)=false:=by simp at z ⊢;omega
            rw [this];simp
        | _=>rfl
      rw [dC,hr];simp [oK hd,hb]
    | true =>
      cases d with
      | int i =>
        simp only [D4,Bool.and_eq_true,decide_eq_true_eq] at hb;obtain ⟨ρ,e⟩:=qN t c ds (i+1) (.val (.int i)) fun d hd=>h d (List.mem_cons_of_mem _ hd)
        refine ⟨ρ,?_⟩;have hr:jS c l (.int i::ds)=jS c (i+1) ds:=by
          simp only [jS];rw [decide_eq_true hb.1,decide_eq_true (show i < c by omega)];simp
        have hb':D4 (.int i) l (c-1)=true:=by simp [D4];omega
        rw [dC,hr,<- e];simp [oK hd,hb']
      | _=>cases hb
theorem mW {d:PyData} (c:Int) (h:∀ ds,d=.tuple ds->∀ x∈ds,noD x) (hd:noD d):bY [d,.int c]=.ok (.bool (Ep c d)):=by
  unfold bY kK;rw [ed];cases d with
  | tuple ds =>
    obtain ⟨ρ,e⟩:=qN (.tuple ds) c ds 0 .non (h ds rfl);simp [p8,G8,gz,List.replicate];rw [e];cases jS c 0 ds <;> simp
  | dict k=>cases hd
  | _=>simp [p8,G8,List.replicate]
theorem cu.some {n:Nat} {js:List Int} (h:cu n js):bY [.tuple (js.map .int),.int n]=.ok (.bool true):=by
  rw [mW (d:=.tuple (js.map .int)) n (fun ds e x hx=>by
    cases e;obtain ⟨i,_,rfl⟩:=List.mem_map.mp hx;exact True.intro) True.intro]
  show R.ok (PyData.bool (jS n 0 (js.map .int)))=_;rw [sy n js 0 h.lt fun x hx=>h.inn x hx]
theorem tK {f:Fe} {ρ:aS} {p:Int->Bool}:∀ ns:List Int,(∀ x∈ns,f ((bn.non::ρ).set 0 (.val (.int x)))=.ok (.bool (p x)))->bT (aT 0) (fun _=>.ok true) f (.non::ρ) (ns.map .int)=.ok (ns.map fun i=>.bool (p i))
  | [],_=>cZ ..
  | x::ns,h=>by
    rw [List.map_cons,dG,h x List.mem_cons_self,tK ns fun y hy=>h y (List.mem_cons_of_mem _ hy)];rfl
theorem mn (p:Int->Bool):∀ ns:List Int,D2.rE (ns.map fun i=>.bool (p i))=some (ns.all p)
  | []=>rfl
  | a::l=>by simp only [List.map_cons,D2.rE,mn p l,List.all_cons,Option.map_some]
theorem kG {ps:List P4} (hl:∀ p∈ps,p.ns.length<=100) {s:PyData} {js:List Int} (hs:sG s js) (hj:∀ x∈js,0<=x/\x < ps.length) (hlen:js.length<=1000) :
    bc [gD ps,s]=.ok (.bool (js.all fun i=>decide (0 < (bM ps js i).length))):=by
  have hcmp:=tK (f:=e2 (eG mO) (e1 cN (aA bo (ai (e2 bJ (e2 bJ (ag 1) (ag 0)) (eC (.int 3))) (ai (ag 2) aE)))) (eC (.int 0))) (ρ:=[.val (gD ps),.val s]) (p:=fun i=>decide (0 < (bM ps js i).length)) js fun k hk=>by
    have h:=hj k hk;have hg:=fO h.1 h.2;have hc:=j9 (s:=.tuple ((aU ps k).map .int)) (ns:=aU ps k) (.inl rfl) hs (by rw [hg];have:=hl _ (List.getElem_mem (show k.toNat < ps.length by omega));omega);simp only [List.set_cons_zero,bB,bU,aJ,aC,aL,ap,aw,bK,R.ok_bind,lI h.1 h.2,i4];rw [<- hg,hc,R.ok_bind,rQ,R.ok_bind,iO,List.length_map];unfold bM;congr 2;simp
  unfold bc ge;refine eN ?_;rw [show ([gD ps,s].map bn.val++List.replicate (2 - [gD ps,s].length) bn.non)=[.val (gD ps),.val s] from rfl];rw [cy,bU,bp,show az 1 [0,1] [.val (gD ps),.val s]=[.non,.val (gD ps),.val s] from rfl];simp -implicitDefEqProofs only [bV,ap,aw,R.ok_bind,hs.seq,cr];rw [if_pos (by rw [List.length_map];exact bI hlen),hcmp,gy,R.ok_bind];unfold vq;simp only [mn];rfl
theorem qS {ps:List P4} {js:List Int} (h:eR ps js):(js.all fun i=>decide (0 < (bM ps js i).length))=true:=by
  rw [List.all_eq_true];intro i hi;obtain ⟨g,hg⟩:=h i hi;exact decide_eq_true (List.length_pos_of_mem hg)
theorem pY {ps:List P4} (hl:∀ p∈ps,p.ns.length<=100) (hp:ps.length<=24) {js gs:List Int} (hj:cu ps.length js) (hg:cu ps.length gs) (hs:∀ x∈gs,x∈js) (hw:eR ps js) :
    cS [gD ps,.tuple (js.map .int),.tuple (gs.map .int)]=.ok .none:=by
  have h1:=hj.some;have h2:=hg.some;have h3:=gS (s:=.tuple (gs.map .int)) (t:=.tuple (js.map .int)) (.inl rfl) (.inl rfl) (by have:=hg.len;omega);have h4:=kG hl (s:=.tuple (js.map .int)) (.inl rfl) hj.inn (by have:=hj.len;omega);rw [qS hw] at h4;have h5:(gs.filter fun i=>!df js i)=[]:=by
    rw [List.filter_eq_nil_iff];intro x hx;rw [bW.mpr (hs x hx)];simp
  rw [h5] at h3;unfold cS iI;rw [ed];rw [show ([gD ps,.tuple (js.map .int),.tuple (gs.map .int)].map bn.val++List.replicate (3 - [gD ps,.tuple (js.map .int),.tuple (gs.map .int)].length) bn.non)=[.val (gD ps),.val (.tuple (js.map .int)),.val (.tuple (gs.map .int))] from rfl];have hlen:cN (gD ps)=.ok (.int ps.length):=by simp
  rw [aR (ρ':=[.val (gD ps),.val (.tuple (js.map .int)),.val (.tuple (gs.map .int))]) (by simp only [dL,gR,cL,aJ,aC,aL,bU,ap,aw,R.ok_bind,hlen,h1,cU];rfl)];rw [aR (ρ':=[.val (gD ps),.val (.tuple (js.map .int)),.val (.tuple (gs.map .int))]) (by simp only [dL,gR,cL,aJ,aC,aL,bU,ap,aw,R.ok_bind,hlen,h2,cU];rfl)];rw [aR (ρ':=[.val (gD ps),.val (.tuple (js.map .int)),.val (.tuple (gs.map .int))]) (by simp only [dL,cL,bB,aJ,aC,aL,bU,bK,ap,aw,R.ok_bind,h3];rfl)];simp only [dL,gR,cL,aJ,aC,aL,bU,ap,aw,R.ok_bind,h4,cU];rfl
theorem Eo {c:Int} (h0:0<=c) (h1:c<=1000):qb [.int c]=.ok (ca 0 c.toNat):=by
  show (if -(2 ^ 62)<=c/\c < 2 ^ 62 then R.ok (ca 0 c.toNat) else .no)=_;rw [if_pos (by omega)]
noncomputable def xA:Fs:=(bf (zf 6 (fun a b=>a+b) (eC (.int 1))) (bf (cf 8 (bL (dE (ag 1)) 1 [5] (aT 0) (tE (e2 (rP) (e2 bJ (gr 1) (ag 0)) (eC .none))) (ag 0))) (bf (cf 7 (bL (dE (ag 8)) 1 [0,4,2,5] (aT 0) (tE (kD 4 (aA cs (ai (e2 bJ (ag 1) (ag 0)) (ai (e2 bJ (ag 2) (ag 0)) (ai (ag 3) (ai (ag 4) aE))))))) (ag 0))) (kB (lO (dE (ag 7)) (aT 9) (iB 5 (ag 9) (ag 6)))))))
noncomputable abbrev lV (ps:List P4) (js:List Int):PyData:=.list (tab (fun i=>.tuple ((bM ps js i).map .int)) ps.length)
noncomputable abbrev Bi (kvs:List (Int×Int)) (n:Nat):List PyData:=tab (fun i=>oD (look kvs i)) n
noncomputable abbrev tR (ps:List P4) (s:PyData) (js:List Int) (who:Int) (g:PyData) (kvs:List (Int×Int)) (r:Int) (fs:List Int) (c8 c9:bn):aS :=
  [.val (gD ps),.val s,.val (.int who),.val g,.val (lV ps js),.own (.list (Bi kvs ps.length)),.val (.int r),.val (.list (fs.map .int)),c8,c9]
theorem AE {kvs:List (Int×Int)} {i r:Int} (h:i∉kvs.map (·.1)) (j:Int):look (kvs++[(i,r)]) j=if j=i then some r else look kvs j:=by
  rw [nq];by_cases e:j=i
  · subst e;rw [if_pos rfl,gH.mpr h,Option.none_or];unfold look;simp
  · rw [if_neg e];have:look [(i,r)] j=none:=by
      unfold look;have:¬ i=j:=fun z=>e z.symm
      simp [this]
    rw [this,Option.or_none]
theorem Eu {ps:List P4} {s:PyData} {js:List Int} {who:Int} {g:PyData} {r:Int} {fs0:List Int} {c8:bn}:∀ (fs:List Int) (kvs:List (Int×Int)) (c9:bn),fs.Nodup->(∀ x∈fs,x∉kvs.map (·.1))->(∀ x∈fs,0<=x/\x < ps.length) ->
    ∃ c9',gM (aT 9) (iB 5 (ag 9) (ag 6)) (fs.map .int) (tR ps s js who g kvs r fs0 c8 c9)=.ok (.nx (tR ps s js who g (kvs++fs.map fun i=>(i,r)) r fs0 c8 c9'))
  | [],kvs,c9,_,_,_=>⟨c9,by rw [List.map_nil,fD];simp⟩
  | i::fs,kvs,c9,nd,hn,hb=>by
    obtain ⟨n1,n2⟩:=List.nodup_cons.mp nd;have hi:=hb i List.mem_cons_self;obtain ⟨c9',e⟩:=Eu (ps:=ps) (s:=s) (js:=js) (who:=who) (g:=g) (r:=r) (fs0:=fs0) (c8:=c8) fs (kvs++[(i,r)]) (.val (.int i)) n2 (fun x hx=>by
      rw [List.map_append,List.mem_append];rintro (z | z)
      · exact hn x (List.mem_cons_of_mem _ hx) z
      · simp at z;subst z;exact n1 hx) fun x hx=>hb x (List.mem_cons_of_mem _ hx)
    refine ⟨c9',?_⟩;rw [List.map_cons,dC];rw [show ((tR ps s js who g kvs r fs0 c8 c9).set 9 (.val (.int i)))=tR ps s js who g kvs r fs0 c8 (.val (.int i)) from rfl];rw [n9 (ds:=Bi kvs ps.length) (n:=i) (v:=.int r) rfl rfl rfl hi.1 (by rw [bD];exact hi.2),R.ok_bind,eU,oa hi.1 hi.2];rw [cD (g:=fun j=>oD (look (kvs++[(i,r)]) j)) fun j _ _=>by
      rw [AE (hn i List.mem_cons_self)];split <;> rfl]
    refine Eq.trans ?_ (e.trans (by simp));rfl
theorem o7 {kvs:List (Int×Int)} {i:Int}:(look kvs i).isNone=!df (kvs.map (·.1)) i:=by
  cases h:df (kvs.map (·.1)) i with
  | true =>
    cases h2:look kvs i with
    | none=>exact (gH.mp h2 (bW.mp h)).elim
    | some q=>rfl
  | false =>
    rw [gH.mpr fun z=>by rw [bW.mpr z] at h;cases h];rfl
theorem vF {kvs:List (Int×Int)} {i:Int}:(look kvs i).isSome=df (kvs.map (·.1)) i:=by
  have:=o7 (kvs:=kvs) (i:=i);cases h:look kvs i <;> rw [h] at this <;> cases h2:df (kvs.map (·.1)) i <;> rw [h2] at this <;> simp_all
theorem t9 {ps:List P4} {js:List Int} {who:Int} {kn:List Int} {i:Int} (hw:∃ g,g∈bM ps js i) :
    (!df kn i&&(if ay ps i=who then decide (0 < (nh ps js kn i).length) else decide ((nh ps js kn i).length=(bM ps js i).length)))=jH ps js who kn i:=by
  obtain ⟨g,hg⟩:=hw;have hp:=List.length_pos_of_mem hg;unfold jH;by_cases ho:ay ps i=who
  · simp [ho]
  · by_cases he:(nh ps js kn i).length=(bM ps js i).length
    · simp [ho,he,hp]
    · simp [ho,he]
theorem By {ps:List P4} (hl:∀ p∈ps,p.ns.length<=100) (hgo:∀ p∈ps,∀ x∈p.ns,0<=x/\x < ps.length) (hp:ps.length<=24) {s:PyData} {js:List Int} (hs:sG s js) (hj:cu ps.length js) (hw:eR ps js) {who:Int} {g:PyData} {kvs:List (Int×Int)} {r:Int} {fs:List Int} (c8 c9:bn) :
    ∃ c8' c9',xA (tR ps s js who g kvs r fs c8 c9)=.ok (.nx (tR ps s js who g (dq ps js who (r+1) kvs) (r+1) (fg ps js who (kvs.map (·.1)) js) c8' c9')):=by
  have hlen:=hj.len;have h1:=cV (t:=tE (e2 (rP) (e2 bJ (gr 1) (ag 0)) (eC .none))) (ρ:=[.own (.list (Bi kvs ps.length))]) (p:=fun i=>!df (kvs.map (·.1)) i) js fun k hk=>by
    simp only [List.set_cons_zero,cL,bB,ap,rT,rS,bK,R.ok_bind,BA (hj.inn k hk).1 (hj.inn k hk).2,Ax,cU,o7]
  have h2:=cV (t:=tE (kD 4 (aA cs (ai (e2 bJ (ag 1) (ag 0)) (ai (e2 bJ (ag 2) (ag 0)) (ai (ag 3) (ai (ag 4) aE))))))) (ρ:=[.val (gD ps),.val (lV ps js),.val (.int who),.own (.list (Bi kvs ps.length))])
    (p:=jH ps js who (kvs.map (·.1))) (js.filter fun i=>!df (kvs.map (·.1)) i) fun k hk=>by
    obtain ⟨hkj,hkn⟩:=List.mem_filter.mp hk;have hb:=hj.inn k hkj;have hg:=fO hb.1 hb.2;have hwl:(bM ps js k).length<=1000:=by
      refine Nat.le_trans (List.length_filter_le ..) ?_;rw [hg];have:=hl _ (List.getElem_mem (show k.toNat < ps.length by omega));omega
    have hwb:∀ x∈bM ps js k,0<=x/\x < ps.length:=fun x hx=>by
      have:=(List.mem_filter.mp hx).1;rw [hg] at this;exact hgo _ (List.getElem_mem _) x this
    have hf:=r9 (p:=ps[k.toNat]'(by omega)) (who:=who) (f:=look kvs) hwb hwl;have ho:=k8 hb.1 hb.2;have hgk:((bM ps js k).filter fun g=>(look kvs g).isSome)=nh ps js (kvs.map (·.1)) k:=by
      unfold nh;congr 1;funext g;exact vF
    rw [hgk,<- ho] at hf;have e4:kD 4 (aA cs (ai (e2 bJ (ag 1) (ag 0)) (ai (e2 bJ (ag 2) (ag 0)) (ai (ag 3) (ai (ag 4) aE))))) [.val (.int k),.val (gD ps),.val (lV ps js),.val (.int who),.own (.list (Bi kvs ps.length))]
      = (mL (aA cs (ai (e2 bJ (ag 1) (ag 0)) (ai (e2 bJ (ag 2) (ag 0)) (ai (ag 3) (ai (ag 4) aE)))) [.val (.int k),.val (gD ps),.val (lV ps js),.val (.int who),.val (.list (Bi kvs ps.length))])>>=lB):=rfl
    have hc:=t9 (who:=who) (kn:=kvs.map (·.1)) (hw k hkj);rw [hkn,Bool.true_and] at hc;rw [List.set_cons_zero,cL,e4,aJ];simp only [aC,aL,bB,ap,aw,R.ok_bind,lI hb.1 hb.2,BA hb.1 hb.2];rw [hf,hc];rfl
  have hfil:(js.filter fun i=>!df (kvs.map (·.1)) i).filter (jH ps js who (kvs.map (·.1)))=fg ps js who (kvs.map (·.1)) js:=by
    unfold fg;rw [List.filter_filter];apply List.filter_congr;intro x _;unfold jH;cases df (kvs.map (·.1)) x <;> simp
  rw [hfil] at h2;have hnew:cu ps.length (fg ps js who (kvs.map (·.1)) js):=hj.filter _;obtain ⟨c9',e⟩:=Eu (ps:=ps) (s:=s) (js:=js) (who:=who) (g:=g) (r:=r+1) (fs0:=fg ps js who (kvs.map (·.1)) js) (c8:=.val (.list ((js.filter fun i=>!df (kvs.map (·.1)) i).map .int))) (fg ps js who (kvs.map (·.1)) js) kvs c9 hnew.nd (fun x hx=>(pf hx).2) hnew.inn;refine ⟨.val (.list ((js.filter fun i=>!df (kvs.map (·.1)) i).map .int)),c9',?_⟩;unfold xA;rw [aR (ρ':=tR ps s js who g kvs (r+1) fs c8 c9) (by simp only [DD,aw,ap,bK,R.ok_bind,GH];rfl)];rw [aR (ρ':=tR ps s js who g kvs (r+1) fs (.val (.list ((js.filter fun i=>!df (kvs.map (·.1)) i).map .int))) c9) (by
    rw [bH,bp,show az 1 [5] (tR ps s js who g kvs (r+1) fs c8 c9)=[.non,.own (.list (Bi kvs ps.length))] from rfl];simp -implicitDefEqProofs only [bV,aw,ap,R.ok_bind,hs.seq,cr];rw [if_pos (by rw [List.length_map];exact bI (by omega)),h1];rfl)]
  rw [aR (ρ':=tR ps s js who g kvs (r+1) (fg ps js who (kvs.map (·.1)) js) (.val (.list ((js.filter fun i=>!df (kvs.map (·.1)) i).map .int))) c9) (by
    rw [bH,bp,show az 1 [0,4,2,5] (tR ps s js who g kvs (r+1) fs (.val (.list ((js.filter fun i=>!df (kvs.map (·.1)) i).map .int))) c9)=[.non,.val (gD ps),.val (lV ps js),.val (.int who),.own (.list (Bi kvs ps.length))] from rfl];simp only [bV,aw,ap,R.ok_bind,sA,cr];rw [if_pos (by rw [List.length_map];exact bI (Nat.le_trans (List.length_filter_le ..) (by omega))),h2];rfl)]
  rw [gA,gz,bV,aw,aw,aw,aw,aw,aw,aw,ap,R.ok_bind,sA,R.ok_bind,e];rfl
theorem fF {ps:List P4} {js:List Int} {who:Int} {kvs:List (Int×Int)} (h:fg ps js who (kvs.map (·.1)) js=[]):∀ (n:Nat) (r:Int),hJ ps js who r n kvs=kvs
  | 0,r=>rfl
  | n+1,r=>by
    show hJ ps js who (r+1) n (dq ps js who r kvs)=kvs;have:dq ps js who r kvs=kvs:=by unfold dq;rw [h];simp
    rw [this,fF h n]
theorem Et {ps:List P4} (hl:∀ p∈ps,p.ns.length<=100) (hgo:∀ p∈ps,∀ x∈p.ns,0<=x/\x < ps.length) (hp:ps.length<=24) {s:PyData} {js:List Int} (hs:sG s js) (hj:cu ps.length js) (hw:eR ps js) {who:Int} {g:PyData} :
    ∀ (k n:Nat) (kvs:List (Int×Int)) (r:Int) (fs:List Int) (c8 c9:bn),jv js kvs->js.length-kvs.length<=k->(fs=[]->fg ps js who (kvs.map (·.1)) js=[])->k+3<=n ->
    ∃ K r' fs' c8' c9',dU (tE (e2 (eG mO) (e1 cN (ag 7)) (eC (.int 0)))) xA n (tR ps s js who g kvs r fs c8 c9)=.ok (.nx (tR ps s js who g K r' fs' c8' c9'))/\∀ N,k+1<=N->hJ ps js who (r+1) N kvs=K
  | k,0,kvs,r,fs,c8,c9,_,_,_,h=>by omega
  | k,n+1,kvs,r,fs,c8,c9,hk,hm,hf,hn=>by
    rw [pS];have ht:tE (e2 (eG mO) (e1 cN (ag 7)) (eC (.int 0))) (tR ps s js who g kvs r fs c8 c9)=.ok (decide (0 < fs.length)):=by
      simp only [cL,bB,bU,aw,ap,bK,R.ok_bind,oO,iO,cU,List.length_map];congr 1;simp
    rw [ht,R.ok_bind];by_cases h0:fs=[]
    · have hs0:=hf h0;subst h0;exact ⟨kvs,r,[],c8,c9,rfl,fun N _=>fF hs0 N _⟩
    · rw [if_pos (decide_eq_true (List.length_pos_iff.mpr h0))];obtain ⟨c8',c9',e⟩:=By hl hgo hp hs hj hw (who:=who) (g:=g) (kvs:=kvs) (r:=r) (fs:=fs) c8 c9;rw [e,R.ok_bind,eU];by_cases h1:fg ps js who (kvs.map (·.1)) js=[]
      · have w1:dq ps js who (r+1) kvs=kvs:=by unfold dq;rw [h1];simp
        rw [h1,w1];refine ⟨kvs,r+1,[],c8',c9',?_,fun N _=>fF h1 N _⟩;cases n with
        | zero=>omega
        | succ n =>
          rw [pS];have ht2:tE (e2 (eG mO) (e1 cN (ag 7)) (eC (.int 0))) (tR ps s js who g kvs (r+1) [] c8' c9')=.ok false:=rfl;rw [ht2,R.ok_bind];rfl
      · have hk':=hk.round (ps:=ps) (who:=who) (r:=r+1) hj.nd;have hkl:=hk'.len hj.nd;have hgrow:kvs.length+1<=(dq ps js who (r+1) kvs).length:=by
          unfold dq;rw [List.length_append,List.length_map];have:=List.length_pos_iff.mpr h1;omega
        obtain ⟨K,r',fs',d8,d9,w2,w3⟩:=Et hl hgo hp hs hj hw (who:=who) (g:=g) (k-1) n (dq ps js who (r+1) kvs) (r+1) (fg ps js who (kvs.map (·.1)) js) c8' c9' hk' (by omega) (fun z=>(h1 z).elim) (by omega);refine ⟨K,r',fs',d8,d9,w2,fun N hN=>?_⟩;cases N with
        | zero=>omega
        | succ N=>exact w3 N (by omega)
theorem jR {ps:List P4} (hl:∀ p∈ps,p.ns.length<=100) (hgo:∀ p∈ps,∀ x∈p.ns,0<=x/\x < ps.length) (hp:ps.length<=24) {s g:PyData} {js gs:List Int} (hs:sG s js) (hsg:sG g gs) (hj:cu ps.length js) (hg:cu ps.length gs) (hsub:∀ x∈gs,x∈js) (hw:eR ps js) {who:Int} :
    bQ [gD ps,s,.int who,g]=.ok (.tuple (tab (fun i=>oD (rK ps js who gs i)) ps.length)):=by
  have hlen:=hj.len;have hglen:=hg.len;have hgj:gs.length<=js.length:=kb hg.nd hsub;have hk0:jv js (gs.map fun i=>((i,0):Int×Int)):=by
    have e:(gs.map fun i=>((i,0):Int×Int)).map (·.1)=gs:=by rw [List.map_map];exact List.map_id _
    exact ⟨by rw [e];exact hg.nd,by rw [e];exact hsub⟩
  have hk0e:(gs.map fun i=>((i,0):Int×Int)).map (·.1)=gs:=by rw [List.map_map];exact List.map_id _
  obtain ⟨K,r',fs',d8,d9,w2,w3⟩:=Et hl hgo hp hs hj hw (who:=who) (g:=g) (js.length-gs.length) 1000000 (gs.map fun i=>(i,0)) 0 gs .non .non hk0 (by rw [List.length_map];exact Nat.le_refl _) (fun z=>by
    rw [hk0e,z];unfold fg;rw [List.filter_eq_nil_iff];intro i _;rw [fX];rintro ⟨_,⟨g,_,hz⟩,_⟩;cases hz) (by omega)
  have hK:K=zk ps js who gs ps.length:=by
    by_cases h0:gs=[]
    · subst h0;have hz:fg ps js who (([]:List (Int×Int)).map (·.1)) js=[]:=by
        unfold fg;rw [List.filter_eq_nil_iff];intro i _;rw [fX];rintro ⟨_,⟨g,_,hz⟩,_⟩;cases hz
      have e4:=w3 (js.length-0+1) (Nat.le_refl _);rw [List.map_nil,fF hz] at e4;rw [<- e4];unfold zk;rw [List.map_nil,fF hz]
    · have:=List.length_pos_iff.mpr h0;have e4:=w3 ps.length (by omega);rw [<- e4];rfl
  have hways:bT (aT 0) (fun _=>.ok true) (aA bo (ai (e2 bJ (ag 0) (eC (.int 3))) (ai (ag 1) aE))) [.non,.val s] (ps.map P4.d)=.ok (tab (fun i=>.tuple ((bM ps js i).map .int)) ps.length):=by
    have go:∀ qs:List P4,(∀ p∈qs,p.ns.length<=100)->bT (aT 0) (fun _=>.ok true) (aA bo (ai (e2 bJ (ag 0) (eC (.int 3))) (ai (ag 1) aE))) [.non,.val s] (qs.map P4.d)=.ok (qs.map fun p=>.tuple ((p.ns.filter (df js)).map .int)):=by
      intro qs;induction qs with
      | nil=>exact fun _=>cZ ..
      | cons p qs ih =>
        intro h;have hc:=j9 (s:=.tuple (p.ns.map .int)) (ns:=p.ns) (.inl rfl) hs (by have:=h p List.mem_cons_self;omega);rw [List.map_cons,dG,ih fun q hq=>h q (List.mem_cons_of_mem _ hq)];simp only [R.ok_bind,if_true,List.set_cons_zero,aJ,aC,aL,bB,ap,aw,bK,i4,hc];rfl
    rw [go ps hl];congr 1;refine List.ext_getElem (by rw [List.length_map,bD]) fun k h1 h2=>?_
    rw [bD] at h2;have e:=fI (f:=fun i=>.tuple ((bM ps js i).map .int)) (n:=ps.length) (i:=(k:Int)) (by omega) (by omega);simp only [Int.toNat_natCast] at e;rw [e,List.getElem_map];unfold bM;rw [fO (by omega) (by omega)];simp
  have hinit:bT (aT 0) (fun _=>.ok true) (D6 (tE (e2 (uN false) (ag 0) (ag 1))) (eC (.int 0)) (eC .none)) [.non,.val g] (ca 0 ps.length)=.ok (Bi (gs.map fun i=>(i,0)) ps.length) :=
    vX _ _ _ _ fun i h0 h1=>by
      simp only [List.set_cons_zero,vx,cL,bB,ap,aw,bK,R.ok_bind,hsg.inn,cU,iW];cases hm:df gs i with
      | true=>rw [if_pos (bW.mp hm)];rfl
      | false=>rw [if_neg (show ¬ i∈gs from fun z=>by rw [bW.mpr z] at hm;cases hm)];rfl
  have hr:qb [.int (ps.length:Int)]=.ok (ca 0 ps.length):=by
    rw [Eo (by omega) (by omega),Int.toNat_natCast]
  have hlst:qm g=.ok (.list (gs.map .int)):=by rcases hsg with rfl | rfl <;> rfl
  unfold bQ kP;refine eN ?_;rw [show ([gD ps,s,.int who,g].map bn.val++List.replicate (10 - [gD ps,s,.int who,g].length) bn.non)=[.val (gD ps),.val s,.val (.int who),.val g,.non,.non,.non,.non,.non,.non] from rfl];rw [aR (ρ':=[.val (gD ps),.val s,.val (.int who),.val g,.val (lV ps js),.non,.non,.non,.non,.non]) (by
    rw [bH,bp,show az 1 [1] [.val (gD ps),.val s,.val (.int who),.val g,.non,.non,.non,.non,.non,.non]=[.non,.val s] from rfl];simp only [bV,ap,R.ok_bind,cO,cr];rw [if_pos (by rw [List.length_map];exact bI (by omega)),hways];rfl)]
  rw [aR (ρ':=[.val (gD ps),.val s,.val (.int who),.val g,.val (lV ps js),.own (.list (Bi (gs.map fun i=>(i,0)) ps.length)),.non,.non,.non,.non]) (by
    rw [n8,bp,show az 1 [3] [.val (gD ps),.val s,.val (.int who),.val g,.val (lV ps js),.non,.non,.non,.non,.non]=[.non,.val g] from rfl];simp -implicitDefEqProofs only [qv,aC,aL,bU,ap,R.ok_bind,rQ,List.length_map,hr,cr];rw [if_pos (by rw [eZ];exact bI (by omega)),hinit];rfl)]
  rw [aR (ρ':=[.val (gD ps),.val s,.val (.int who),.val g,.val (lV ps js),.own (.list (Bi (gs.map fun i=>(i,0)) ps.length)),.val (.int 0),.non,.non,.non]) (by rfl)];rw [aR (ρ':=tR ps s js who g (gs.map fun i=>(i,0)) 0 gs .non .non) (by
    simp only [bH,bU,aw,ap,R.ok_bind,hlst];rfl)]
  rw [aR (ρ':=tR ps s js who g K r' fs' d8 d9) (by
    rw [gA];show mL (dU (tE (e2 (eG mO) (e1 cN (ag 7)) (eC (.int 0)))) xA 1000000 _)=_;rw [w2];rfl)]
  rw [hK];rfl
theorem kf {f:Int->Option Int} {n:Nat} (hn:n<=1000):bS [oT f n]=.ok (.tuple ((iE f n).map .int)):=by
  have hc:=jJ (t:=tE (e2 (mZ) (ag 1) (eC .none))) (ρ:=[]) (p:=fun i=>(f i).isSome) (g:=fun i=>oD (f i)) n 0 fun j _ _=>by
    simp only [cL,bB,aw,ap,bK,R.ok_bind,xf,cU]
  rw [rY] at hc;unfold bS oq;refine eN ?_;rw [show ([oT f n].map bn.val++List.replicate (1 - [oT f n].length) bn.non)=[.val (oT f n)] from rfl];rw [cy,bU,bp,show az 2 [] [.val (oT f n)]=[.non,.non] from rfl];simp only [oZ,ap,R.ok_bind,cO,cr];rw [if_pos (by rw [gG,bD];exact bI hn)];rw [show dW 0 (tab (fun i=>oD (f i)) n)=dW 0 ((ids n).map fun i=>oD (f i)) from rfl,hc];rfl
noncomputable def xi:Fs:=(lu (nA (tE (e2 (iP) (e2 bJ (e2 bJ (ag 0) (ag 4)) (eC (.int 0))) (ag 1))) (tE (e2 (eG mO) (e2 bJ (ag 2) (ag 4)) (eC (.int 0))))) (iB 3 (ag 4) (e2 bJ (bL (dE (e2 bJ (e2 bJ (ag 0) (ag 4)) (eC (.int 3)))) 1 [2,4] (aT 0) (tE (e2 (iP) (e2 bJ (ag 1) (ag 0)) (e2 ip (e2 bJ (ag 1) (ag 2)) (eC (.int 1))))) (ag 0)) (eC (.int 0)))) de)
theorem AW {ps:List P4} (G:Gr ps) {who:Int} {f:Int->Option Int} (hne:∀ i q,f i=some q->0 < q->ay ps i=who->∃ g∈aU ps i,f g=some (q-1)):∀ (is:List Int) (h:Int->PyData) (c4:bn),is.Nodup->(∀ x∈is,(0<=x/\x < ps.length)/\(∃ q,f x=some q)/\h x=.none) ->
    ∃ c4',gM (aT 4) xi (is.map .int) [.val (gD ps),.val (.int who),.val (oT f ps.length),.own (.list (tab h ps.length)),c4]=.ok (.nx [.val (gD ps),.val (.int who),.val (oT f ps.length),.own (.list (tab (fun j=>if j∈is then oD (mJ ps who f j) else h j) ps.length)),c4'])
  | [],h,c4,_,_=>⟨c4,by rw [List.map_nil,fD];simp⟩
  | i::is,h,c4,nd,hb=>by
    obtain ⟨n1,n2⟩:=List.nodup_cons.mp nd;obtain ⟨hi,⟨q,hq⟩,hh⟩:=hb i List.mem_cons_self;have ho:=k8 hi.1 hi.2;have hg:=fO hi.1 hi.2;obtain ⟨c4',e⟩:=AW G hne is (fun j=>if j=i then oD (mJ ps who f i) else h j) (.val (.int i)) n2 (fun x hx=>⟨(hb x (List.mem_cons_of_mem _ hx)).1,(hb x (List.mem_cons_of_mem _ hx)).2.1,by
      have:x≠i:=by rintro rfl;exact n1 hx
      show (if x=i then _ else h x)=_;rw [if_neg this];exact (hb x (List.mem_cons_of_mem _ hx)).2.2⟩)
    refine ⟨c4',?_⟩;have fin:tab (fun j=>if j∈is then oD (mJ ps who f j) else (fun j=>if j=i then oD (mJ ps who f i) else h j) j) ps.length=tab (fun j=>if j∈i::is then oD (mJ ps who f j) else h j) ps.length:=cD fun j _ _=>by
      by_cases h1:j=i
      · subst h1;simp [n1]
      · by_cases h2:j∈is <;> simp [h1,h2]
    rw [fin] at e;rw [<- e,List.map_cons,dC,show (([.val (gD ps),.val (.int who),.val (oT f ps.length),.own (.list (tab h ps.length)),c4]:aS).set 4 (.val (.int i)))=[.val (gD ps),.val (.int who),.val (oT f ps.length),.own (.list (tab h ps.length)),.val (.int i)] from rfl];have ht:(nA (tE (e2 (iP) (e2 bJ (e2 bJ (ag 0) (ag 4)) (eC (.int 0))) (ag 1))) (tE (e2 (eG mO) (e2 bJ (ag 2) (ag 4)) (eC (.int 0))))) [.val (gD ps),.val (.int who),.val (oT f ps.length),.own (.list (tab h ps.length)),.val (.int i)]=.ok (decide (ay ps i=who/\0 < q)):=by
      have hrk:bJ (oT f ps.length) (.int i)=.ok (.int q):=by rw [uG hi.1 hi.2,hq];rfl
      simp only [pP,cL,bB,ap,aw,bK,R.ok_bind,lI hi.1 hi.2,jO,fZ,cU,hrk,iO];rw [<- ho];by_cases h1:ay ps i=who
      · by_cases h2:0 < q <;> simp [h1,h2]
      · simp [h1]
    have hb1:xi [.val (gD ps),.val (.int who),.val (oT f ps.length),.own (.list (tab h ps.length)),.val (.int i)]=.ok (.nx [.val (gD ps),.val (.int who),.val (oT f ps.length),.own (.list (tab (fun j=>if j=i then oD (mJ ps who f i) else h j) ps.length)),.val (.int i)]):=by
      unfold xi;rw [dL,ht,R.ok_bind];by_cases hc:ay ps i=who/\0 < q
      · rw [if_pos (decide_eq_true hc)];have hcmp:=cV (t:=tE (e2 (iP) (e2 bJ (ag 1) (ag 0)) (e2 ip (e2 bJ (ag 1) (ag 2)) (eC (.int 1))))) (ρ:=[.val (oT f ps.length),.val (.int i)]) (p:=fun g=>decide (f g=some (q-1))) (aU ps i) fun k hk=>by
          have hkb:=G.goals hk;have hrk:bJ (oT f ps.length) (.int i)=.ok (.int q):=by rw [uG hi.1 hi.2,hq];rfl
          simp only [List.set_cons_zero,cL,bB,ap,aw,bK,R.ok_bind,uG hkb.1 hkb.2,hrk,mC,wN,cU]
        obtain ⟨g,hg1,hg2⟩:=hne i q hq hc.2 hc.1;have hm:mJ ps who f i=((aU ps i).filter fun g=>decide (f g=some (q-1))).head?:=by
          unfold mJ;rw [hq];exact if_pos hc
        have hmem:g∈(aU ps i).filter fun g=>decide (f g=some (q-1)):=List.mem_filter.mpr ⟨hg1,decide_eq_true hg2⟩
        cases hL:(aU ps i).filter fun g=>decide (f g=some (q-1)) with
        | nil=>rw [hL] at hmem;cases hmem
        | cons v r =>
          rw [hL] at hm hcmp;rw [n9 (ds:=tab h ps.length) (n:=i) (v:=.int v) rfl rfl ?_ hi.1 (by rw [bD];exact hi.2),oa hi.1 hi.2,hm]
          · rfl
          · rw [bB,bp,show az 1 [2,4] [.val (gD ps),.val (.int who),.val (oT f ps.length),.own (.list (tab h ps.length)),.val (.int i)]=[.non,.val (oT f ps.length),.val (.int i)] from rfl];simp only [bV,bB,ap,aw,bK,R.ok_bind,lI hi.1 hi.2,i4,cO,cr];rw [<- hg,if_pos (by rw [List.length_map];exact bI (by have:=G.glen i;omega)),hcmp,gy,R.ok_bind,wI (by omega) (by simp)];rfl
      · rw [if_neg (by rw [decide_eq_true_iff];exact hc)];have hm:mJ ps who f i=none:=by
          unfold mJ;rw [hq];exact if_neg hc
        rw [lP,hm];congr 3;rw [cD fun j _ _=>?_];by_cases h1:j=i
        · subst h1;rw [if_pos rfl,hh];rfl
        · rw [if_neg h1]
    rw [hb1,R.ok_bind,eU]
theorem ix {ps:List P4} (G:Gr ps) {who:Int} {f:Int->Option Int} (hne:∀ i q,f i=some q->0 < q->ay ps i=who->∃ g∈aU ps i,f g=some (q-1)) :
    bx [gD ps,.int who,oT f ps.length]=.ok (oT (mJ ps who f) ps.length):=by
  have hp:=G.hp;have h0:bT (aT 0) (fun _=>.ok true) (eC .none) [.non] (tab (fun i=>oD (f i)) ps.length)=.ok (tab (fun _=>.none) ps.length):=by
    have:=gF (eC .none) [.non] 0 (fun _=>.none) (tab (fun i=>oD (f i)) ps.length) fun d _=>rfl
    rw [this];unfold tab;rw [List.map_map];rfl
  obtain ⟨c4,e⟩:=AW G hne (iE f ps.length) (fun _=>.none) .non (pJ f ps.length).nd fun x hx=>⟨(gI.mp hx).1,(gI.mp hx).2,rfl⟩
  have fin:tab (fun j=>if j∈iE f ps.length then oD (mJ ps who f j) else .none) ps.length=tab (fun j=>oD (mJ ps who f j)) ps.length:=cD fun j h1 h2=>by
    by_cases h:j∈iE f ps.length
    · rw [if_pos h]
    · rw [if_neg h];have:f j=none:=by
        cases hf:f j with
        | none=>rfl
        | some q=>exact (h (gI.mpr ⟨⟨h1,h2⟩,q,hf⟩)).elim
      unfold mJ;rw [this];rfl
  rw [fin] at e;unfold bx gh;refine eN ?_;rw [show ([gD ps,.int who,oT f ps.length].map bn.val++List.replicate (5 - [gD ps,.int who,oT f ps.length].length) bn.non)=[.val (gD ps),.val (.int who),.val (oT f ps.length),.non,.non] from rfl];rw [aR (ρ':=[.val (gD ps),.val (.int who),.val (oT f ps.length),.own (.list (tab (fun _=>.none) ps.length)),.non]) (by
    rw [n8,bp,show az 1 [] [.val (gD ps),.val (.int who),.val (oT f ps.length),.non,.non]=[.non] from rfl];simp only [bV,ap,aw,R.ok_bind,cO,cr];rw [if_pos (by rw [bD];exact bI (by omega)),h0];rfl)]
  rw [aR (ρ':=[.val (gD ps),.val (.int who),.val (oT f ps.length),.own (.list (tab (fun j=>oD (mJ ps who f j)) ps.length)),c4]) (by
    rw [gA,gz,bV];simp only [aJ,aC,aL,ap,aw,R.ok_bind,kf (show ps.length<=1000 by omega),cO];unfold xi at e;rw [e];rfl)]
  rfl
theorem Af {d:PyData} (hg:ig d) (hd:d.depth<=60):zC d d=.ok (.bool false):=by
  unfold zC;rw [if_pos (by unfold yj;rw [hg];simp;exact hd),PySem.SeqAt.eqv_refl d hg];rfl
noncomputable def u0:List PyData->Prop:=fun ds=>∀ x∈ds,ig x/\x.depth=0
theorem u0.dep:∀ {ds:List PyData},u0 ds->PyData.depthAll ds=0
  | [],_=>by simp [PyData.depthAll]
  | d::ds,h=>by simp [PyData.depthAll,(h d List.mem_cons_self).2,u0.dep fun x hx=>h x (List.mem_cons_of_mem _ hx)]
theorem u0.good {ds:List PyData} (h:u0 ds):ig (.tuple ds):=oY.mpr fun x hx=>(h x hx).1
theorem xg (o:Option Int):ig (oD o)/\(oD o).depth=0:=by
  cases o
  · exact ⟨yt,by simp [oD,PyData.depth]⟩
  · exact ⟨ua _,by simp [oD,PyData.depth]⟩
theorem t6 (f:Int->Option Int) (n:Nat):u0 (tab (fun i=>oD (f i)) n):=fun x hx=>by
  obtain ⟨i,_,rfl⟩:=List.mem_map.mp hx;exact xg _
theorem yo (ns:List Int):u0 (ns.map .int):=fun x hx=>by
  obtain ⟨i,_,rfl⟩:=List.mem_map.mp hx;exact xg (some i)
theorem CW (f:Int->Option Int) (n:Nat):ig (oT f n):=(t6 f n).good
theorem AS (f:Int->Option Int) (n:Nat):(oT f n).depth=1:=by simp [PyData.depth,(t6 f n).dep]
theorem DO (ns:List Int):ig (.tuple (ns.map .int)):=(yo ns).good
theorem D8 {ps:List P4} {hi:Int} (hp:∀ p∈ps,Pl ps.length hi p) (h24:(ps.length:Int)<=24):Gr ps :=
  ⟨fun p h=>by have:=(hp p h).len;omega,fun p h=>(hp p h).inn,by omega,fun p h=>(hp p h).so,fun p h=>(hp p h).ne⟩
theorem Gr.gne {ps:List P4} (G:Gr ps) {i:Int} (h0:0<=i) (h1:i < ps.length):∃ g,g∈aU ps i:=by
  have:=G.ne _ (List.getElem_mem (show i.toNat < ps.length by omega));rw [<- fO h0 h1] at this;exact List.exists_mem_of_ne_nil _ this
theorem qT {ps:List P4} (G:Gr ps):eR ps (ids ps.length):=fun i hi=>by
  obtain ⟨h0,h1⟩:=bC.mp hi;obtain ⟨g,hg⟩:=G.gne h0 h1;exact ⟨g,List.mem_filter.mpr ⟨hg,bW.mpr (bC.mpr (G.goals hg))⟩⟩
theorem nz {n:Nat} (h:n<=1000):En .tuple [.int (n:Int)]=.ok (.tuple ((ids n).map .int)):=by
  rw [Hz (by omega) (by omega),i6];rfl
theorem ny {ps:List P4} (hp:ps.length<=1000):cq [gD ps]=.ok (.tuple (tab (fun _=>.none) ps.length)):=by
  have h0:bT (aT 0) (fun _=>.ok true) (eC .none) [.non] (ps.map P4.d)=.ok (tab (fun _=>.none) ps.length):=by
    have:=gF (eC .none) [.non] 0 (fun _=>.none) (ps.map P4.d) fun d _=>rfl
    rw [this];congr 1;refine List.ext_getElem (by rw [List.length_map,List.length_map,bD]) fun k h1 h2=>?_
    rw [bD] at h2;have e:=fI (f:=fun _=>.none) (n:=ps.length) (i:=(k:Int)) (by omega) (by omega);simp only [Int.toNat_natCast] at e;rw [e,List.getElem_map]
  unfold cq kO;refine eN ?_;rw [show ([gD ps].map bn.val++List.replicate (1 - [gD ps].length) bn.non)=[.val (gD ps)] from rfl];rw [cy,bU,bp,show az 1 [] [.val (gD ps)]=[.non] from rfl];simp only [bV,ap,R.ok_bind,cO,cr];rw [if_pos (by rw [List.length_map];exact bI hp),h0];rfl
noncomputable def xC:Fs:=(lu (tE (e2 (iP) (e2 bJ (e2 bJ (ag 0) (ag 4)) (eC (.int 0))) (ag 1))) (iB 3 (ag 4) (e2 bJ (aA bo (ai (e2 bJ (e2 bJ (ag 0) (ag 4)) (eC (.int 3))) (ai (ag 2) aE))) (eC (.int 0)))) de)
theorem BG {ps:List P4} (G:Gr ps) {who:Int} {s:PyData} {part:List Int} (hs:sG s part) (hj:cu ps.length part) (hne:∀ i∈part,ay ps i=who->∃ g,g∈bM ps part i):∀ (is:List Int) (h:Int->PyData) (c4:bn),is.Nodup->(∀ x∈is,x∈part/\h x=.none) ->
    ∃ c4',gM (aT 4) xC (is.map .int) [.val (gD ps),.val (.int who),.val s,.own (.list (tab h ps.length)),c4]=.ok (.nx [.val (gD ps),.val (.int who),.val s,.own (.list (tab (fun j=>if j∈is then oD (eT ps who part j) else h j) ps.length)),c4'])
  | [],h,c4,_,_=>⟨c4,by rw [List.map_nil,fD];simp⟩
  | i::is,h,c4,nd,hb=>by
    obtain ⟨n1,n2⟩:=List.nodup_cons.mp nd;obtain ⟨hip,hh⟩:=hb i List.mem_cons_self;have hi:=hj.inn i hip;have ho:=k8 hi.1 hi.2;have hg:=fO hi.1 hi.2;obtain ⟨c4',e⟩:=BG G hs hj hne is (fun j=>if j=i then oD (eT ps who part i) else h j) (.val (.int i)) n2 (fun x hx=>⟨(hb x (List.mem_cons_of_mem _ hx)).1,by
      have:x≠i:=by rintro rfl;exact n1 hx
      show (if x=i then _ else h x)=_;rw [if_neg this];exact (hb x (List.mem_cons_of_mem _ hx)).2⟩)
    refine ⟨c4',?_⟩;have fin:tab (fun j=>if j∈is then oD (eT ps who part j) else (fun j=>if j=i then oD (eT ps who part i) else h j) j) ps.length=tab (fun j=>if j∈i::is then oD (eT ps who part j) else h j) ps.length:=cD fun j _ _=>by
      by_cases h1:j=i
      · subst h1;simp [n1]
      · by_cases h2:j∈is <;> simp [h1,h2]
    rw [fin] at e;rw [<- e,List.map_cons,dC,show (([.val (gD ps),.val (.int who),.val s,.own (.list (tab h ps.length)),c4]:aS).set 4 (.val (.int i)))=[.val (gD ps),.val (.int who),.val s,.own (.list (tab h ps.length)),.val (.int i)] from rfl];have ht:(tE (e2 (iP) (e2 bJ (e2 bJ (ag 0) (ag 4)) (eC (.int 0))) (ag 1))) [.val (gD ps),.val (.int who),.val s,.own (.list (tab h ps.length)),.val (.int i)]=.ok (decide (ay ps i=who)):=by
      simp only [cL,bB,ap,aw,bK,R.ok_bind,lI hi.1 hi.2,jO,fZ,cU];rw [<- ho]
    have hb1:xC [.val (gD ps),.val (.int who),.val s,.own (.list (tab h ps.length)),.val (.int i)]=.ok (.nx [.val (gD ps),.val (.int who),.val s,.own (.list (tab (fun j=>if j=i then oD (eT ps who part i) else h j) ps.length)),.val (.int i)]):=by
      unfold xC;rw [dL,ht,R.ok_bind];by_cases hc:ay ps i=who
      · rw [if_pos (decide_eq_true hc)];have hcm:=j9 (s:=.tuple ((aU ps i).map .int)) (ns:=aU ps i) (.inl rfl) hs (by have:=G.glen i;omega);obtain ⟨g,hg1⟩:=hne i hip hc;have hm:eT ps who part i=(bM ps part i).head?:=if_pos ⟨hip,hc⟩;have hw:(aU ps i).filter (df part)=bM ps part i:=rfl;rw [hw] at hcm;cases hL:bM ps part i with
        | nil=>rw [hL] at hg1;cases hg1
        | cons v r =>
          rw [hL] at hm hcm;rw [n9 (ds:=tab h ps.length) (n:=i) (v:=.int v) rfl rfl ?_ hi.1 (by rw [bD];exact hi.2),oa hi.1 hi.2,hm]
          · rfl
          · simp only [bB,aJ,aC,aL,ap,aw,bK,R.ok_bind,lI hi.1 hi.2,i4];rw [<- hg,hcm,R.ok_bind,Ad (by omega) (by simp)];rfl
      · rw [if_neg (by rw [decide_eq_true_iff];exact hc)];have hm:eT ps who part i=none:=if_neg fun z=>hc z.2
        rw [lP,hm];congr 3;rw [cD fun j _ _=>?_];by_cases h1:j=i
        · subst h1;rw [if_pos rfl,hh];rfl
        · rw [if_neg h1]
    rw [hb1,R.ok_bind,eU]
theorem iF {ps:List P4} (G:Gr ps) {who:Int} {s:PyData} {part:List Int} (hs:sG s part) (hj:cu ps.length part) (hne:∀ i∈part,ay ps i=who->∃ g,g∈bM ps part i) :
    aW [gD ps,.int who,s]=.ok (oT (eT ps who part) ps.length):=by
  have hp:=G.hp;have hn:=ny (ps:=ps) (by omega);obtain ⟨c4,e⟩:=BG G hs hj hne part (fun _=>.none) .non hj.nd fun x hx=>⟨hx,rfl⟩
  have fin:tab (fun j=>if j∈part then oD (eT ps who part j) else .none) ps.length=tab (fun j=>oD (eT ps who part j)) ps.length:=cD fun j h1 h2=>by
    by_cases h:j∈part
    · rw [if_pos h]
    · rw [if_neg h];have:eT ps who part j=none:=if_neg fun z=>h z.1
      rw [this];rfl
  rw [fin] at e;unfold aW gj;refine eN ?_;rw [show ([gD ps,.int who,s].map bn.val++List.replicate (5 - [gD ps,.int who,s].length) bn.non)=[.val (gD ps),.val (.int who),.val s,.non,.non] from rfl];rw [aR (ρ':=[.val (gD ps),.val (.int who),.val s,.own (.list (tab (fun _=>.none) ps.length)),.non]) (by
    simp only [n8,bU,aJ,aC,aL,ap,R.ok_bind,hn,Cp];rfl)]
  rw [aR (ρ':=[.val (gD ps),.val (.int who),.val s,.own (.list (tab (fun j=>oD (eT ps who part j)) ps.length)),c4]) (by
    rw [gA,gz,bV];simp only [ap,aw,R.ok_bind,hs.seq];unfold xC at e;rw [e];rfl)]
  rfl
noncomputable def gX (ps:List P4) (js:List Int) (who:Int) (some:List Int):List Int:=dF js (iE (rK ps js (1-who) (dF js some)) ps.length)
theorem iu {ps:List P4} {js:List Int} (hj:cu ps.length js) {who:Int} {some:List Int} {i:Int}:i∈gX ps js who some<->i∈js/\rK ps js (1-who) (dF js some) i=none:=by
  unfold gX;rw [bG,gI];constructor
  · rintro ⟨h1,h2⟩;refine ⟨h1,?_⟩;cases h:rK ps js (1-who) (dF js some) i with
    | none=>rfl
    | some q=>exact (h2 ⟨hj.inn i h1,q,h⟩).elim
  · rintro ⟨h1,h2⟩;refine ⟨h1,?_⟩;rintro ⟨_,q,hq⟩;rw [h2] at hq;cases hq
theorem qA {ps:List P4} {js:List Int} (hj:cu ps.length js) (who:Int) (some:List Int):cu ps.length (gX ps js who some):=hj.filter _
theorem qB {ps:List P4} {js:List Int} (hj:cu ps.length js) (hw:eR ps js) {who:Int} {some:List Int} {i:Int} (hi:i∈gX ps js who some) (ho:ay ps i=who):∃ g,g∈bM ps (gX ps js who some) i:=by
  have hr:cu ps.length (dF js some):=hj.filter _;have A:=nW (ps:=ps) (who:=1-who) hr.nd (fun x hx=>(bG.mp hx).1) hj.nd hj.len;obtain ⟨h1,h2⟩:=(iu hj).mp hi;obtain ⟨g,g1,g2⟩:=A.outX i h1 h2 (by omega) (hw i h1);obtain ⟨g3,g4⟩:=List.mem_filter.mp g1;exact ⟨g,List.mem_filter.mpr ⟨g3,bW.mpr ((iu hj).mpr ⟨bW.mp g4,g2⟩)⟩⟩
theorem CQ {ps:List P4} (G:Gr ps) {js gs:List Int} (hj:cu ps.length js) (hg:cu ps.length gs) (hsub:∀ x∈gs,x∈js) (hw:eR ps js) {who:Int} :
    hW [gD ps,.tuple (js.map .int),.int who,.tuple (gs.map .int)]=.ok (.tuple [.tuple ((gX ps js who gs).map .int),oT (eT ps who (gX ps js who gs)) ps.length]):=by
  have hp:=G.hp;have hjl:=hj.len;have hr:cu ps.length (dF js gs):=hj.filter _;have h1:=pY G.hl G.hp hj hg hsub hw;have h0:=gS (s:=.tuple (js.map .int)) (t:=.tuple (gs.map .int)) (.inl rfl) (.inl rfl) (by omega);have h2:=jR G.hl G.hgo G.hp (s:=.tuple (js.map .int)) (g:=.tuple ((dF js gs).map .int)) (.inl rfl) (.inl rfl) hj hr (fun x hx=>(bG.mp hx).1) hw (who:=1-who);have h3:=kf (f:=rK ps js (1-who) (dF js gs)) (n:=ps.length) (by omega);have h4:=gS (s:=.tuple (js.map .int)) (t:=.tuple ((iE (rK ps js (1-who) (dF js gs)) ps.length).map .int)) (.inl rfl) (.inl rfl) (by omega);have h5:=iF G (who:=who) (s:=.tuple ((gX ps js who gs).map .int)) (.inl rfl) (qA hj who gs) fun i hi ho=>qB hj hw hi ho
  unfold hW u4;refine eN ?_;rw [show ([gD ps,.tuple (js.map .int),.int who,.tuple (gs.map .int)].map bn.val++List.replicate (6 - [gD ps,.tuple (js.map .int),.int who,.tuple (gs.map .int)].length) bn.non)=[.val (gD ps),.val (.tuple (js.map .int)),.val (.int who),.val (.tuple (gs.map .int)),.non,.non] from rfl];rw [aR (ρ':=[.val (gD ps),.val (.tuple (js.map .int)),.val (.int who),.val (.tuple (gs.map .int)),.non,.non]) (by
    simp only [Bm,aJ,aC,aL,ap,aw,R.ok_bind,h1])]
  rw [aR (ρ':=[.val (gD ps),.val (.tuple (js.map .int)),.val (.int who),.val (.tuple (gs.map .int)),.val (oT (rK ps js (1-who) (dF js gs)) ps.length),.non]) (by
    simp only [bH,aJ,aC,aL,bB,bK,ap,aw,R.ok_bind,mC,h0];rw [show (js.filter fun i=>!df gs i)=dF js gs from rfl,h2];rfl)]
  rw [aR (ρ':=[.val (gD ps),.val (.tuple (js.map .int)),.val (.int who),.val (.tuple (gs.map .int)),.val (oT (rK ps js (1-who) (dF js gs)) ps.length),.val (.tuple ((gX ps js who gs).map .int))]) (by
    simp only [bH,aJ,aC,aL,ap,aw,R.ok_bind,h3,h4];rfl)]
  simp only [cy,gW,aJ,aC,aL,ap,aw,R.ok_bind,h5];rfl
noncomputable abbrev DF:List Str:=["who","places","moves"]
noncomputable def jm (c:Addr) (n:Nat) (s:Sh):PyData:=At c DF [.int s.w,.tuple (s.pl.map .int),oT s.mv n]
theorem v9 (c:Addr) (n:Nat) (s:Sh):jm c n s=.dict [(.none,.int c),(.str "who",.int s.w),(.str "places",.tuple (s.pl.map .int)),(.str "moves",oT s.mv n)]:=rfl
theorem CG (c:Addr) (n:Nat) (s:Sh):kX c "who" (jm c n s)=.ok (.int s.w):=by
  rw [v9];show (if (c:Int)=(c:Int) then (if ("who" : Str) = "who" then R.ok _ else _) else .no)=_;rw [if_pos rfl,if_pos rfl]
theorem oW (c:Addr) (n:Nat) (s:Sh):kX c "places" (jm c n s)=.ok (.tuple (s.pl.map .int)):=by
  rw [v9];show (if (c:Int)=(c:Int) then (if ("who" : Str) = "places" then _ else if ("places" : Str) = "places" then R.ok _ else _) else .no)=_;rw [if_pos rfl,if_neg (by decide +kernel),if_pos rfl]
theorem yq (c:Addr) (n:Nat) (s:Sh):kX c "moves" (jm c n s)=.ok (oT s.mv n):=by
  rw [v9];show (if (c:Int)=(c:Int) then (if ("who" : Str) = "moves" then _ else if ("places" : Str) = "moves" then _ else if ("moves" : Str) = "moves" then R.ok _ else _) else .no)=_;rw [if_pos rfl,if_neg (by decide +kernel),if_neg (by decide +kernel),if_pos rfl]
theorem nX {f g:Int->Option Int} {n:Nat} (hn:n<=1000):aG [oT f n,oT g n]=.ok (oT (eL f g) n):=by
  have hc:=DS (f:=fun i=>oD (f i)) (g:=fun i=>oD (g i)) (h:=fun i=>oD (eL f g i)) (n:=n) (ρ:=[]) (fe:=D6 (tE (e2 (rP) (ag 0) (eC .none))) (ag 1) (ag 0)) fun i _ _=>by
    simp only [vx,cL,bB,ap,aw,bK,R.ok_bind,Ax,cU];unfold eL;cases f i <;> rfl
  unfold aG gf;refine eN ?_;rw [show ([oT f n,oT g n].map bn.val++List.replicate (2 - [oT f n,oT g n].length) bn.non)=[.val (oT f n),.val (oT g n)] from rfl];rw [cy,bU,bp,show az 2 [] [.val (oT f n),.val (oT g n)]=[.non,.non] from rfl];simp only [wT,ap,aw,R.ok_bind,cO,cr];rw [if_pos (by rw [lX,bD,bD,Nat.min_self];exact bI hn),hc];rfl
theorem pW {ps:List P4} (hp:ps.length<=1000):cR [gD ps]=.ok (.tuple ((ids ps.length).map .int)):=by
  have hrt:=nz (n:=ps.length) hp;have hlen:cN (gD ps)=.ok (.int ps.length):=by simp
  unfold cR iH;refine eN ?_;rw [show ([gD ps].map bn.val++List.replicate (1 - [gD ps].length) bn.non)=[.val (gD ps)] from rfl];simp only [cy,tX,aC,aL,bU,ap,R.ok_bind,hlen,hrt]
noncomputable def BI (s:Sh) (f:Int->Option Int) (i:Int):Option Int:=if i∈s.pl then some s.w else f i
noncomputable def nB:(Int->Option Int)->List Sh->Int->Option Int
  | f,[]=>f
  | f,s::l=>nB (BI s f) l
noncomputable def ul:(Int->Option Int)->List Sh->Int->Option Int
  | f,[]=>f
  | f,s::l=>ul (eL f s.mv) l
theorem BH {c:Addr} {n:Nat} {a b m:PyData} {s:Sh}:∀ (is:List Int) (f:Int->Option Int) (c5:bn),(∀ x∈is,0<=x/\x < n) ->
    ∃ c5',gM (aT 5) (iB 2 (ag 5) (e1 (kX c "who") (ag 4))) (is.map .int) [.val a,.val b,.own (.list (tab (fun i=>oD (f i)) n)),.val m,.val (jm c n s),c5]=.ok (.nx [.val a,.val b,.own (.list (tab (fun i=>oD (if i∈is then some s.w else f i)) n)),.val m,.val (jm c n s),c5'])
  | [],f,c5,_=>⟨c5,by rw [List.map_nil,fD];simp⟩
  | i::is,f,c5,hb=>by
    obtain ⟨h0,h1⟩:=hb i List.mem_cons_self;obtain ⟨c5',e⟩:=BH (c:=c) (n:=n) (a:=a) (b:=b) (m:=m) (s:=s) is (fun j=>if j=i then some s.w else f j) (.val (.int i)) fun x hx=>hb x (List.mem_cons_of_mem _ hx)
    refine ⟨c5',?_⟩;rw [List.map_cons,dC];rw [show (([.val a,.val b,.own (.list (tab (fun i=>oD (f i)) n)),.val m,.val (jm c n s),c5]:aS).set 5 (.val (.int i)))=[.val a,.val b,.own (.list (tab (fun i=>oD (f i)) n)),.val m,.val (jm c n s),.val (.int i)] from rfl];rw [n9 (ds:=tab (fun i=>oD (f i)) n) (n:=i) (v:=.int s.w) rfl rfl (by simp only [bU,aw,ap,R.ok_bind,CG]) h0 (by rw [bD];exact h1),R.ok_bind,eU,oa h0 h1];have ht:tab (fun j=>if j=i then PyData.int s.w else oD (f j)) n=tab (fun j=>oD (if j=i then some s.w else f j)) n:=cD fun j _ _=>by split <;> rfl
    have ht2:tab (fun j=>oD (if j∈is then some s.w else if j=i then some s.w else f j)) n=tab (fun j=>oD (if j∈i::is then some s.w else f j)) n:=cD fun j _ _=>by
      by_cases z1:j∈is
      · simp [z1]
      · by_cases z2:j=i <;> simp [z1,z2]
    rw [ht,<- ht2];exact e
noncomputable def sB (c:Addr):Fs:=(bf (kB (lO (dE (e1 (kX c "places") (ag 4))) (aT 5) (iB 2 (ag 5) (e1 (kX c "who") (ag 4))))) (cf 3 (aA aG (ai (ag 3) (ai (e1 (kX c "moves") (ag 4)) aE)))))
theorem xy {c:Addr} {n:Nat} (hn:n<=1000) {a b:PyData}:∀ (l:List Sh) (f m:Int->Option Int) (c4 c5:bn),(∀ s∈l,∀ x∈s.pl,0<=x/\x < n) ->
    ∃ c4' c5',gM (aT 4) (sB c) (l.map (jm c n)) [.val a,.val b,.own (.list (tab (fun i=>oD (f i)) n)),.val (oT m n),c4,c5]=.ok (.nx [.val a,.val b,.own (.list (tab (fun i=>oD (nB f l i)) n)),.val (oT (ul m l) n),c4',c5'])
  | [],f,m,c4,c5,_=>⟨c4,c5,by rw [List.map_nil,fD];rfl⟩
  | s::l,f,m,c4,c5,hb=>by
    obtain ⟨d5,e1⟩:=BH (c:=c) (n:=n) (a:=a) (b:=b) (m:=oT m n) (s:=s) s.pl f c5 (hb s List.mem_cons_self);obtain ⟨c4',c5',e⟩:=xy (c:=c) hn (a:=a) (b:=b) l (BI s f) (eL m s.mv) (.val (jm c n s)) d5 fun t ht=>hb t (List.mem_cons_of_mem _ ht)
    refine ⟨c4',c5',?_⟩;rw [List.map_cons,dC];rw [show (([.val a,.val b,.own (.list (tab (fun i=>oD (f i)) n)),.val (oT m n),c4,c5]:aS).set 4 (.val (jm c n s)))=[.val a,.val b,.own (.list (tab (fun i=>oD (f i)) n)),.val (oT m n),.val (jm c n s),c5] from rfl];have hb1:sB c [.val a,.val b,.own (.list (tab (fun i=>oD (f i)) n)),.val (oT m n),.val (jm c n s),c5]=.ok (.nx [.val a,.val b,.own (.list (tab (fun i=>oD (BI s f i)) n)),.val (oT (eL m s.mv) n),.val (jm c n s),d5]):=by
      unfold sB;rw [aR (ρ':=[.val a,.val b,.own (.list (tab (fun i=>oD (BI s f i)) n)),.val (oT m n),.val (jm c n s),d5]) (by
        rw [gA,gz,bV,bU];simp only [aw,ap,R.ok_bind,oW,cO];rw [e1];rfl)]
      simp only [bH,aJ,aC,aL,bU,aw,ap,R.ok_bind,yq,nX hn];rfl
    rw [hb1,R.ok_bind,eU,e];rfl
theorem Ii {ps:List P4} (hp:ps.length<=1000) {c:Addr} {l:List Sh} (hb:∀ s∈l,∀ x∈s.pl,0<=x/\x < ps.length) :
    bu c [gD ps,.list (l.map (jm c ps.length))]=.ok (.tuple [oT (nB (fun _=>none) l) ps.length,oT (ul (fun _=>none) l) ps.length]):=by
  obtain ⟨c4,c5,e⟩:=xy (c:=c) hp (a:=gD ps) (b:=.list (l.map (jm c ps.length))) l (fun _=>none) (fun _=>none) .non .non hb;have h0:bT (aT 0) (fun _=>.ok true) (eC .none) [.non] (ps.map P4.d)=.ok (tab (fun _=>oD none) ps.length):=by
    have:=gF (eC .none) [.non] 0 (fun _=>.none) (ps.map P4.d) fun d _=>rfl
    rw [this];congr 1;refine List.ext_getElem (by rw [List.length_map,List.length_map,bD]) fun k h1 h2=>?_
    rw [bD] at h2;have e:=fI (f:=fun _=>oD none) (n:=ps.length) (i:=(k:Int)) (by omega) (by omega);simp only [Int.toNat_natCast] at e;rw [e,List.getElem_map];rfl
  have hn:=ny (ps:=ps) hp;unfold bu eO;refine eN ?_;rw [show ([gD ps,.list (l.map (jm c ps.length))].map bn.val++List.replicate (6 - [gD ps,.list (l.map (jm c ps.length))].length) bn.non)=[.val (gD ps),.val (.list (l.map (jm c ps.length))),.non,.non,.non,.non] from rfl];rw [aR (ρ':=[.val (gD ps),.val (.list (l.map (jm c ps.length))),.own (.list (tab (fun _=>oD none) ps.length)),.non,.non,.non]) (by
    rw [n8,bp,show az 1 [] [.val (gD ps),.val (.list (l.map (jm c ps.length))),.non,.non,.non,.non]=[.non] from rfl];simp only [bV,ap,R.ok_bind,cO,cr];rw [if_pos (by rw [List.length_map];exact bI hp),h0];rfl)]
  rw [aR (ρ':=[.val (gD ps),.val (.list (l.map (jm c ps.length))),.own (.list (tab (fun _=>oD none) ps.length)),.val (oT (fun _=>none) ps.length),.non,.non]) (by
    simp only [bH,aJ,aC,aL,ap,R.ok_bind,hn];rfl)]
  rw [aR (ρ':=[.val (gD ps),.val (.list (l.map (jm c ps.length))),.own (.list (tab (fun i=>oD (nB (fun _=>none) l i)) ps.length)),.val (oT (ul (fun _=>none) l) ps.length),c4,c5]) (by
    rw [gA,gz,bV];simp only [aw,ap,R.ok_bind,sA];unfold sB at e;rw [e];rfl)]
  simp only [cy,gW,aC,aL,bU,rT,rS,aw,ap,R.ok_bind,iq];rfl
noncomputable def Wy (ps:List P4) (js:List Int) (w:Int) (mv:Int->Option Int) (i g:Int):Prop:=(ay ps i=w/\mv i=some g)\/(ay ps i≠w/\g∈bM ps js i)
theorem fJ {ps:List P4} {js:List Int} {i g:Int} (h:g∈bM ps js i):g∈js:=bW.mp (List.mem_filter.mp h).2
theorem eJ {ps:List P4} {js:List Int} {i g:Int} (h:g∈bM ps js i):g∈aU ps i:=(List.mem_filter.mp h).1
theorem fU {ps:List P4} {js:List Int} {i g:Int} (h:g∈aU ps i) (h2:g∈js):g∈bM ps js i:=List.mem_filter.mpr ⟨h,bW.mpr h2⟩
theorem w9 {ps:List P4} {js gs:List Int} {who:Int} {rk:Int->Option Int} (A:uP ps js who gs rk) {i q:Int} (h:rk i=some q) (hq:0 < q) (ho:ay ps i=who):∃ g,mJ ps who rk i=some g/\g∈bM ps js i/\rk g=some (q-1):=by
  obtain ⟨g,g1,g2⟩:=kT A i q h hq ho;have hm:mJ ps who rk i=((aU ps i).filter fun g=>decide (rk g=some (q-1))).head?:=by
    unfold mJ;rw [h];exact if_pos ⟨ho,hq⟩
  have hmem:g∈(aU ps i).filter fun g=>decide (rk g=some (q-1)):=List.mem_filter.mpr ⟨g1,decide_eq_true g2⟩
  cases hL:(aU ps i).filter fun g=>decide (rk g=some (q-1)) with
  | nil=>rw [hL] at hmem;cases hmem
  | cons v r =>
    rw [hL] at hm;have hv:v∈(aU ps i).filter fun g=>decide (rk g=some (q-1)):=by rw [hL];exact List.mem_cons_self
    have h2:=of_decide_eq_true (List.mem_filter.mp hv).2;exact ⟨v,hm,fU (List.mem_filter.mp hv).1 (A.sub v _ h2),h2⟩
theorem gP {ps:List P4} {who:Int} {rk:Int->Option Int} {i:Int} (h:ay ps i≠who\/rk i=none\/rk i=some 0):mJ ps who rk i=none:=by
  unfold mJ;rcases h with h | h | h
  · cases rk i with
    | none=>rfl
    | some q=>exact if_neg fun z=>h z.1
  · rw [h]
  · rw [h];exact if_neg fun z=>by omega
theorem zm {ps:List P4} {who:Int} {part:List Int} {i:Int} (hi:i∈part) (ho:ay ps i=who) (hw:∃ g,g∈bM ps part i):∃ g,eT ps who part i=some g/\g∈bM ps part i:=by
  have hm:eT ps who part i=(bM ps part i).head?:=if_pos ⟨hi,ho⟩;obtain ⟨g,hg⟩:=hw;cases hL:bM ps part i with
  | nil=>rw [hL] at hg;cases hg
  | cons v r =>
    rw [hL] at hm;exact ⟨v,hm,List.mem_cons_self⟩
theorem we {ps:List P4} {who:Int} {part:List Int} {i:Int} (h:i∉part\/ay ps i≠who):eT ps who part i=none:=if_neg fun z=>h.elim (fun y=>y z.1) fun y=>y z.2
inductive jk (E:Int->Int->Prop) (al:Int->Prop) (s:Int):Int->Prop
  | one {x:Int}:E s x->al x->jk E al s x
  | more {x y:Int}:jk E al s x->E x y->al y->jk E al s y
theorem jk.al {E:Int->Int->Prop} {al:Int->Prop} {s x:Int} (h:jk E al s x):al x:=by cases h <;> assumption
theorem jk.imp {E E':Int->Int->Prop} {al al':Int->Prop} {s t:Int} (h:jk E al s t) (h1:∀ y,E s y->al y->E' s y/\al' y) (h2:∀ x y,al x->E x y->al y->E' x y/\al' y):jk E' al' s t:=by
  induction h with
  | one a b=>exact .one (h1 _ a b).1 (h1 _ a b).2
  | more r a b ih=>exact .more ih (h2 _ _ r.al a b).1 (h2 _ _ r.al a b).2
theorem jk.inn {E:Int->Int->Prop} {al:Int->Prop} {s t:Int} {P:Int->Prop} (h:jk E al s t) (hs:P s) (hP:∀ x y,P x->E x y->al y->P y):jk E (fun x=>al x/\P x) s t:=by
  induction h with
  | one a b=>exact .one a ⟨b,hP _ _ hs a b⟩
  | more r a b ih=>exact .more ih a ⟨b,hP _ _ ih.al.2 a b⟩
theorem jk.out {E:Int->Int->Prop} {al:Int->Prop} {s t:Int} {P:Int->Prop} (h:jk E al s t) (ht:¬ P t) (hP:∀ x y,al x->P x->E x y->al y->P y):jk E (fun x=>al x/\¬ P x) s t:=by
  induction h with
  | one a b=>exact .one a ⟨b,ht⟩
  | more r a b ih =>
    have hx:=fun z=>ht (hP _ _ r.al z a b)
    exact .more (ih hx) a ⟨b,ht⟩
theorem jk.less {E:Int->Int->Prop} {al:Int->Prop} {s t:Int} {φ:Int->Int} (h:jk E al s t) (h1:∀ y,E s y->al y->φ y < φ s) (h2:∀ x y,al x->E x y->al y->φ y<=φ x):φ t < φ s:=by
  induction h with
  | one a b=>exact h1 _ a b
  | more r a b ih =>
    have:=h2 _ _ r.al a b;omega
structure kQ (ps:List P4) (js:List Int) (win:Int->Int) (mv:Int->Option Int):Prop where
  two:∀ i∈js,win i=0\/win i=1
  has:∀ i∈js,ay ps i=win i->∃ g,mv i=some g/\g∈aU ps i
  non:∀ i∈js,ay ps i≠win i->mv i=none
  stay:∀ i∈js,∀ g,Wy ps js (win i) mv i g->g∈js/\win g=win i
  good:∀ i∈js,aH ps i%2≠win i->¬ jk (Wy ps js (win i) mv) (fun x=>x∈js/\win x=win i/\aH ps x<=aH ps i) i i
structure gT (ps:List P4) (js:List Int) (s:Sh):Prop where
  two:s.w=0\/s.w=1
  sub:∀ i∈s.pl,i∈js
  ne:s.pl≠[]
  has:∀ i∈s.pl,ay ps i=s.w->∃ g,s.mv i=some g/\g∈aU ps i
  non:∀ i,(i∉s.pl\/ay ps i≠s.w)->s.mv i=none
  stay:∀ i∈s.pl,∀ g,Wy ps js s.w s.mv i g->g∈s.pl
  outO:∀ i∈js,i∉s.pl->ay ps i=s.w->∀ g∈bM ps js i,g∉s.pl
  outX:∀ i∈js,i∉s.pl->ay ps i≠s.w->∃ g∈bM ps js i,g∉s.pl
  good:∀ i∈s.pl,aH ps i%2≠s.w->¬ jk (Wy ps js s.w s.mv) (fun x=>x∈s.pl/\aH ps x<=aH ps i) i i
theorem kI {ps:List P4} {K:List Int} {w:Int} {m1 m2:Int->Option Int} {i g:Int} (e:m1 i=m2 i) (h:Wy ps K w m1 i g):Wy ps K w m2 i g:=by
  rcases h with ⟨a,b⟩ | h
  · exact .inl ⟨a,by rw [<- e];exact b⟩
  · exact .inr h
theorem gT.whole {ps:List P4} {js:List Int} {s:Sh} (S:gT ps js s) (hw:eR ps js):eR ps (dF js s.pl):=by
  intro i hi;obtain ⟨h1,h2⟩:=bG.mp hi;have fin:∀ g∈bM ps js i,g∉s.pl->∃ g,g∈bM ps (dF js s.pl) i:=fun g g1 g2=>⟨g,fU (eJ g1) (bG.mpr ⟨fJ g1,g2⟩)⟩
  by_cases ho:ay ps i=s.w
  · obtain ⟨g,hg⟩:=hw i h1;exact fin g hg (S.outO i h1 h2 ho g hg)
  · obtain ⟨g,g1,g2⟩:=S.outX i h1 h2 ho;exact fin g g1 g2
theorem BK {ps:List P4} {js:List Int} (hown:∀ i∈js,ay ps i=0\/ay ps i=1) {s:Sh} (S:gT ps js s) {win:Int->Int} {mv:Int->Option Int} (I:kQ ps (dF js s.pl) win mv) :
    kQ ps js (fun i=>if i∈s.pl then s.w else win i) (fun i=>if i∈s.pl then s.mv i else mv i):=by
  have wP:∀ {i},i∈s.pl->(if i∈s.pl then s.w else win i)=s.w:=fun h=>if_pos h
  have wR:∀ {i},i∉s.pl->(if i∈s.pl then s.w else win i)=win i:=fun h=>if_neg h
  have mP:∀ {i},i∈s.pl->(if i∈s.pl then s.mv i else mv i)=s.mv i:=fun h=>if_pos h
  have mR:∀ {i},i∉s.pl->(if i∈s.pl then s.mv i else mv i)=mv i:=fun h=>if_neg h
  have goR:∀ i g,i∈js->i∉s.pl->Wy ps js (win i) mv i g->(g∈js/\g∉s.pl/\Wy ps (dF js s.pl) (win i) mv i g)\/(win i=s.w/\g∈s.pl):=fun i g hi hn h=>by
    have hi':=bG.mpr ⟨hi,hn⟩;rcases h with ⟨ho,hm⟩ | ⟨ho,hm⟩
    · have w:Wy ps (dF js s.pl) (win i) mv i g:=.inl ⟨ho,hm⟩;obtain ⟨z1,z2⟩:=bG.mp (I.stay i hi' g w).1;exact .inl ⟨z1,z2,w⟩
    · by_cases hg:g∈s.pl
      · right;refine ⟨?_,hg⟩;have h1:ay ps i≠s.w:=fun z=>S.outO i hi hn z g hm hg
        have:=hown i hi;have:=I.two i hi';have:=S.two;omega
      · exact .inl ⟨fJ hm,hg,.inr ⟨ho,fU (eJ hm) (bG.mpr ⟨fJ hm,hg⟩)⟩⟩
  refine ⟨fun i hi=>?_,fun i hi ho=>?_,fun i hi ho=>?_,fun i hi g hg=>?_,fun i hi hm hp=>?_⟩
  · by_cases h:i∈s.pl
    · rw [wP h];exact S.two
    · rw [wR h];exact I.two i (bG.mpr ⟨hi,h⟩)
  · by_cases h:i∈s.pl
    · rw [mP h];exact S.has i h (ho.trans (wP h))
    · rw [mR h];exact I.has i (bG.mpr ⟨hi,h⟩) (ho.trans (wR h))
  · by_cases h:i∈s.pl
    · rw [mP h];exact S.non i (.inr fun z=>ho (z.trans (wP h).symm))
    · rw [mR h];exact I.non i (bG.mpr ⟨hi,h⟩) fun z=>ho (z.trans (wR h).symm)
  · by_cases h:i∈s.pl
    · rw [wP h] at hg ⊢;have:=S.stay i h g (kI (mP h) hg);exact ⟨S.sub g this,wP this⟩
    · rw [wR h] at hg ⊢;rcases goR i g hi h (kI (mR h) hg) with ⟨z1,z2,z3⟩ | ⟨z1,z2⟩
      · refine ⟨z1,?_⟩;rw [wR z2];exact (I.stay i (bG.mpr ⟨hi,h⟩) g z3).2
      · refine ⟨S.sub g z2,?_⟩;rw [wP z2];exact z1.symm
  · by_cases h:i∈s.pl
    · rw [wP h] at hm hp;refine S.good i h hm ?_;refine (hp.inn (P:=fun x=>x∈s.pl) h fun x y hx e _=>S.stay x hx y (kI (mP hx) e)).imp (fun y e a=>⟨kI (mP h) e,a.2,a.1.2.2⟩) fun x y ax e a=>⟨kI (mP ax.2) e,a.2,a.1.2.2⟩
    · rw [wR h] at hm hp;refine I.good i (bG.mpr ⟨hi,h⟩) hm ?_;have hp2:=hp.out (P:=fun x=>x∈s.pl) h fun x y ax hx e a=>by
        have hw:s.w=win i:=(wP hx).symm.trans ax.2.1;exact S.stay x hx y (kI (mP hx) (by rw [hw];exact e))
      have st:∀ x y,x∈js->x∉s.pl->win x=win i->Wy ps js (win i) (fun i=>if i∈s.pl then s.mv i else mv i) x y->(y∈js/\(if y∈s.pl then s.w else win y)=win i/\aH ps y<=aH ps i)/\y∉s.pl->Wy ps (dF js s.pl) (win i) mv x y/\(y∈dF js s.pl/\win y=win i/\aH ps y<=aH ps i):=fun x y hx hxn hwx e a=>by
        refine ⟨?_,bG.mpr ⟨a.1.1,a.2⟩,(wR a.2).symm.trans a.1.2.1,a.1.2.2⟩;rcases goR x y hx hxn (by rw [hwx];exact kI (mR hxn) e) with ⟨_,_,z⟩ | ⟨_,z⟩
        · rw [hwx] at z;exact z
        · exact (a.2 z).elim
      exact hp2.imp (fun y e a=>st i y hi h rfl e a) fun x y ax e a=>st x y ax.1.1 ax.2 ((wR ax.2).symm.trans ax.1.2.1) e a
theorem DV {ps:List P4} (win:Int->Int) (mv:Int->Option Int):kQ ps [] win mv:=by
  refine ⟨?_,?_,?_,?_,?_⟩ <;> intro i hi <;> cases hi
section
variable {ps:List P4} {js:List Int} (hj:cu ps.length js) (hw:eR ps js) (hown:∀ i∈js,ay ps i=0\/ay ps i=1) {h w:Int} (ew:w=h%2) (hmax:∀ i∈js,aH ps i<=h)
  {tops:List Int} (htop:∀ i,i∈tops<->i∈js/\aH ps i=h) {rk:Int->Option Int} (A:uP ps js w tops rk) {sub:List Int} (hsub:∀ i,i∈sub<->i∈js/\rk i=none) {win:Int->Int} {mv:Int->Option Int} (I:kQ ps sub win mv) (hmv:∀ i,i∉sub->mv i=none)
include hj hw hown ew hmax htop A hsub I hmv
theorem zi (hne:js≠[]) (hl:∀ i∈sub,win i=w):gT ps js ⟨w,js,eL (eL (mJ ps w rk) mv) (eT ps w js)⟩:=by
  have w01:w=0\/w=1:=by omega
  obtain ⟨M,eM⟩:∃ M,M=eL (eL (mJ ps w rk) mv) (eT ps w js):=⟨_,rfl⟩
  rw [<- eM]
  -- the move at a place of w
  have own:∀ i∈js,ay ps i=w->∃ g,M i=some g/\g∈aU ps i/\g∈js/\(∀ q,rk i=some q->0 < q->rk g=some (q-1))/\(rk i=none->mv i=some g):=fun i hi ho=>by
    rw [eM];unfold eL;cases hr:rk i with
    | none =>
      have his:=(hsub i).mpr ⟨hi,hr⟩;obtain ⟨g,g1,g2⟩:=I.has i his (by rw [hl i his];exact ho);have gs:=(I.stay i his g (by rw [hl i his];exact .inl ⟨ho,g1⟩)).1;exact ⟨g,by rw [gP (.inr (.inl hr)),g1];rfl,g2,((hsub g).mp gs).1,(fun q z=>nomatch z),fun _=>g1⟩
    | some q =>
      by_cases hq:0 < q
      · obtain ⟨g,g1,g2,g3⟩:=w9 A hr hq ho;exact ⟨g,by rw [g1];rfl,eJ g2,fJ g2,fun q' z _=>by cases z;exact g3,fun z=>by cases z⟩
      · obtain ⟨g,g1,g2⟩:=zm hi ho (hw i hi);have h0:q=0:=by have:=A.nneg i q hr;omega
        have hn:mv i=none:=hmv i fun z=>by have:=((hsub i).mp z).2;rw [hr] at this;cases this
        refine ⟨g,by rw [gP (.inr (.inr (by rw [hr,h0]))),hn,g1];rfl,eJ g2,fJ g2,fun q' z y=>by cases z;omega,fun z=>by cases z⟩
  refine ⟨w01,fun i hi=>hi,hne,fun i hi ho=>?_,fun i hi=>?_,fun i hi g hg=>?_,fun i hi hn=>(hn hi).elim,fun i hi hn=>(hn hi).elim,fun i hi hm hp=>?_⟩
  · obtain ⟨g,g1,g2,_⟩:=own i hi ho;exact ⟨g,g1,g2⟩
  · show M i=none;rw [eM];unfold eL;rw [we hi];rcases hi with hi | hi
    · have hr:rk i=none:=by
        cases hr:rk i with
        | none=>rfl
        | some q=>exact (hi (A.sub i q hr)).elim
      rw [gP (.inr (.inl hr)),hmv i fun z=>hi ((hsub i).mp z).1];rfl
    · rw [gP (.inl hi)];by_cases his:i∈sub
      · rw [I.non i his (by rw [hl i his];exact hi)];rfl
      · rw [hmv i his];rfl
  · show g∈js;rcases hg with ⟨ho,hm⟩ | ⟨_,hm⟩
    · obtain ⟨g',g1,_,g3,_⟩:=own i hi ho;rw [show M i=some g from hm] at g1;cases g1;exact g3
    · exact fJ hm
  · -- a bad ring
    have hm':aH ps i%2≠w:=hm;have hlt:aH ps i < h:=by
      have:=hmax i hi;by_cases z:aH ps i=h
      · rw [z] at hm';exact (hm' ew.symm).elim
      · omega
    have dec:∀ x y q,x∈js->aH ps x<=aH ps i->rk x=some q->Wy ps js w M x y->∃ t,rk y=some t/\t < q:=fun x y q hx hmx hq e=>by
      have hpos:0 < q:=by
        have:=A.nneg x q hq;by_cases z:q=0
        · subst z;have:=((htop x).mp ((A.zero x).mp hq)).2;omega
        · omega
      rcases e with ⟨ho,hmv'⟩ | ⟨ho,hmv'⟩
      · obtain ⟨g,g1,_,_,g4,_⟩:=own x hx ho;rw [hmv'] at g1;cases g1;exact ⟨q-1,g4 q hq hpos,by omega⟩
      · exact (A.oth x q hq hpos ho).2 y hmv'
    by_cases hri:rk i=none
    · -- all of it lies in what is left
      have his:=(hsub i).mpr ⟨hi,hri⟩;have hp2:=hp.out (P:=fun x=>∃ q,rk x=some q) (by rintro ⟨q,hq⟩;rw [hri] at hq;cases hq) fun x y ax ⟨q,hq⟩ e _=>by
        obtain ⟨t,ht,_⟩:=dec x y q ax.1 ax.2 hq e;exact ⟨t,ht⟩
      have non:∀ {x},¬ (∃ q,rk x=some q)->rk x=none:=fun {x} z=>by
        cases hr:rk x with
        | none=>rfl
        | some q=>exact (z ⟨q,hr⟩).elim
      refine I.good i his (by rw [hl i his];exact hm') ?_;rw [hl i his];have st:∀ x y,x∈js->rk x=none->Wy ps js w M x y->(y∈js/\aH ps y<=aH ps i)/\¬ (∃ q,rk y=some q)->Wy ps sub w mv x y/\(y∈sub/\win y=w/\aH ps y<=aH ps i):=fun x y hx hrx e a=>by
        have hys:=(hsub y).mpr ⟨a.1.1,non a.2⟩;refine ⟨?_,hys,hl y hys,a.1.2⟩;rcases e with ⟨ho,hmv'⟩ | ⟨ho,hmv'⟩
        · obtain ⟨g,g1,_,_,_,g5⟩:=own x hx ho;rw [hmv'] at g1;cases g1;exact .inl ⟨ho,g5 hrx⟩
        · exact .inr ⟨ho,fU (eJ hmv') hys⟩
      exact hp2.imp (fun y e a=>st i y hi hri e a) fun x y ax e a=>st x y ax.1.1 (non ax.2) e a
    · -- ranks fall
      obtain ⟨q0,hq0⟩:∃ q,rk i=some q:=by
        cases hr:rk i with
        | none=>exact (hri hr).elim
        | some q=>exact ⟨q,rfl⟩
      have hp2:=hp.inn (P:=fun x=>x∈js/\aH ps x<=aH ps i/\∃ q,rk x=some q) ⟨hi,Int.le_refl _,q0,hq0⟩ fun x y ⟨hx,hmx,q,hq⟩ e a=>by
        obtain ⟨t,ht,_⟩:=dec x y q hx hmx hq e;exact ⟨a.1,a.2,t,ht⟩
      have fall:∀ x y,x∈js->aH ps x<=aH ps i->(∃ q,rk x=some q)->Wy ps js w M x y->(rk y).getD 0 < (rk x).getD 0:=fun x y hx hmx ⟨q,hq⟩ e=>by
        obtain ⟨t,ht,hlt'⟩:=dec x y q hx hmx hq e;rw [ht,hq];exact hlt'
      have:=hp2.less (φ:=fun x=>(rk x).getD 0) (fun y e _=>fall i y hi (Int.le_refl _) ⟨q0,hq0⟩ e) fun x y ax e _=>by
        have:=fall x y ax.2.1 ax.2.2.1 ax.2.2.2 e;omega
      exact absurd this (Int.lt_irrefl _)
theorem wb {lost:List Int} (hlost:∀ i,i∈lost<->i∈sub/\win i=1-w) (hne:lost≠[]) {rk2:Int->Option Int} (B:uP ps js (1-w) lost rk2) {pl:List Int} (hpl:∀ i,i∈pl<->∃ q,rk2 i=some q) :
    gT ps js ⟨1-w,pl,eL (mJ ps (1-w) rk2) (fun i=>if i∈lost then mv i else none)⟩:=by
  have w01:w=0\/w=1:=by omega
  obtain ⟨M,eM⟩:∃ M,M=eL (mJ ps (1-w) rk2) (fun i=>if i∈lost then mv i else none):=⟨_,rfl⟩
  rw [<- eM];have l0:∀ {i},i∈lost->rk2 i=some 0:=fun {i} hi=>(B.zero i).mpr hi
  have own:∀ i q,rk2 i=some q->ay ps i=1-w->∃ g,M i=some g/\g∈aU ps i/\((0 < q/\rk2 g=some (q-1))\/(q=0/\g∈lost/\mv i=some g)):=fun i q hq ho=>by
    rw [eM];unfold eL;by_cases hp:0 < q
    · obtain ⟨g,g1,g2,g3⟩:=w9 B hq hp ho;exact ⟨g,by rw [g1];rfl,eJ g2,.inl ⟨hp,g3⟩⟩
    · have h0:q=0:=by have:=B.nneg i q hq;omega
      have hi:i∈lost:=(B.zero i).mp (by rw [hq,h0]);obtain ⟨hs,hwi⟩:=(hlost i).mp hi;obtain ⟨g,g1,g2⟩:=I.has i hs (by rw [hwi];exact ho);obtain ⟨s1,s2⟩:=I.stay i hs g (by rw [hwi];exact .inl ⟨ho,g1⟩);refine ⟨g,?_,g2,.inr ⟨h0,(hlost g).mpr ⟨s1,s2.trans hwi⟩,g1⟩⟩;rw [gP (.inr (.inr (by rw [hq,h0])))];show (if i∈lost then mv i else none)=_;rw [if_pos hi,g1]
  have go:∀ i q g,rk2 i=some q->Wy ps js (1-w) M i g->∃ t,rk2 g=some t/\((t < q)\/(q=0/\t=0/\Wy ps sub (1-w) mv i g)):=fun i q g hq e=>by
    rcases e with ⟨ho,hm⟩ | ⟨ho,hm⟩
    · obtain ⟨g',g1,_,g3⟩:=own i q hq ho;rw [hm] at g1;cases g1;rcases g3 with ⟨z1,z2⟩ | ⟨z1,z2,z3⟩
      · exact ⟨q-1,z2,.inl (by omega)⟩
      · exact ⟨0,l0 z2,.inr ⟨z1,rfl,.inl ⟨ho,z3⟩⟩⟩
    · by_cases hp:0 < q
      · obtain ⟨t,t1,t2⟩:=(B.oth i q hq hp ho).2 g hm;exact ⟨t,t1,.inl t2⟩
      · have h0:q=0:=by have:=B.nneg i q hq;omega
        have hi:i∈lost:=(B.zero i).mp (by rw [hq,h0]);obtain ⟨hs,hwi⟩:=(hlost i).mp hi;obtain ⟨hij,hin⟩:=(hsub i).mp hs;have how:ay ps i=w:=by have:=hown i hij;omega
        have hgs:g∈sub:=(hsub g).mpr ⟨fJ hm,A.outO i hij hin how g hm⟩;have wy:Wy ps sub (1-w) mv i g:=.inr ⟨ho,fU (eJ hm) hgs⟩;obtain ⟨s1,s2⟩:=I.stay i hs g (by rw [hwi];exact wy);exact ⟨0,l0 ((hlost g).mpr ⟨s1,s2.trans hwi⟩),.inr ⟨h0,rfl,wy⟩⟩
  refine ⟨by show 1-w=0\/1-w=1;omega,fun i hi=>?_,?_,fun i hi ho=>?_,fun i hi=>?_,fun i hi g hg=>?_,fun i hi hn ho g hg hgp=>?_,fun i hi hn ho=>?_,fun i hi hm hp=>?_⟩
  · obtain ⟨q,hq⟩:=(hpl i).mp hi;exact B.sub i q hq
  · obtain ⟨i,hi⟩:=List.exists_mem_of_ne_nil _ hne;exact List.ne_nil_of_mem ((hpl i).mpr ⟨0,l0 hi⟩)
  · obtain ⟨q,hq⟩:=(hpl i).mp hi;obtain ⟨g,g1,g2,_⟩:=own i q hq ho;exact ⟨g,g1,g2⟩
  · show M i=none;rw [eM];unfold eL;rcases hi with hi | hi
    · have hr:rk2 i=none:=by
        cases hr:rk2 i with
        | none=>rfl
        | some q=>exact (hi ((hpl i).mpr ⟨q,hr⟩)).elim
      rw [gP (.inr (.inl hr))];show (if i∈lost then mv i else none)=_;rw [if_neg fun z=>by rw [l0 z] at hr;cases hr]
    · rw [gP (.inl hi)];show (if i∈lost then mv i else none)=_;by_cases z:i∈lost
      · obtain ⟨hs,hwi⟩:=(hlost i).mp z;rw [if_pos z,I.non i hs (by rw [hwi];exact hi)]
      · rw [if_neg z]
  · obtain ⟨q,hq⟩:=(hpl i).mp hi;obtain ⟨t,ht,_⟩:=go i q g hq hg;exact (hpl g).mpr ⟨t,ht⟩
  · have hr:rk2 i=none:=by
      cases hr:rk2 i with
      | none=>rfl
      | some q=>exact (hn ((hpl i).mpr ⟨q,hr⟩)).elim
    obtain ⟨q,hq⟩:=(hpl g).mp hgp;rw [B.outO i hi hr ho g hg] at hq;cases hq
  · have hr:rk2 i=none:=by
      cases hr:rk2 i with
      | none=>rfl
      | some q=>exact (hn ((hpl i).mpr ⟨q,hr⟩)).elim
    obtain ⟨g,g1,g2⟩:=B.outX i hi hr ho (hw i hi);refine ⟨g,g1,fun z=>?_⟩;obtain ⟨q,hq⟩:=(hpl g).mp z;rw [g2] at hq;cases hq
  · -- a bad ring
    have hi':i∈pl:=hi;have hm':aH ps i%2≠1-w:=hm;obtain ⟨q0,hq0⟩:=(hpl i).mp hi';have le:∀ x y,x∈pl->Wy ps js (1-w) M x y->(rk2 y).getD 0<=(rk2 x).getD 0:=fun x y hx e=>by
      obtain ⟨q,hq⟩:=(hpl x).mp hx;obtain ⟨t,ht,z⟩:=go x q y hq e;rw [hq,ht];show t<=q;omega
    by_cases hz:q0=0
    · subst hz;have hil:i∈lost:=(B.zero i).mp hq0;obtain ⟨his,hwi⟩:=(hlost i).mp hil;have hp2:=hp.inn (P:=fun x=>x∈lost) hil fun x y hx e _=>by
        obtain ⟨t,ht,z⟩:=go x 0 y (l0 hx) e;have:=B.nneg y t ht;have t0:t=0:=by omega
        exact (B.zero y).mp (by rw [ht,t0])
      refine I.good i his (by rw [hwi];exact hm') ?_;rw [hwi];have st:∀ x y,x∈lost->Wy ps js (1-w) M x y->(y∈pl/\aH ps y<=aH ps i)/\y∈lost->Wy ps sub (1-w) mv x y/\(y∈sub/\win y=1-w/\aH ps y<=aH ps i):=fun x y hx e a=>by
        obtain ⟨s1,s2⟩:=(hlost y).mp a.2;refine ⟨?_,s1,s2,a.1.2⟩;obtain ⟨t,ht,z⟩:=go x 0 y (l0 hx) e;have:=B.nneg y t ht;rcases z with z | ⟨_,_,z⟩
        · omega
        · exact z
      exact hp2.imp (fun y e a=>st i y hil e a) fun x y ax e a=>st x y ax.2 e a
    · have:=hp.less (φ:=fun x=>(rk2 x).getD 0) (fun y e _=>by
        obtain ⟨t,ht,z⟩:=go i q0 y hq0 e;show (rk2 y).getD 0 < (rk2 i).getD 0;rw [ht,hq0];show t < q0;omega) fun x y ax e _=>le x y ax.1 e
      exact absurd this (Int.lt_irrefl _)
end
theorem kQ.congr {ps:List P4} {js:List Int} {win:Int->Int} {mv mv':Int->Option Int} (h:kQ ps js win mv) (e:∀ i∈js,mv' i=mv i):kQ ps js win mv':=by
  refine ⟨h.two,fun i hi ho=>by rw [e i hi];exact h.has i hi ho,fun i hi ho=>by rw [e i hi];exact h.non i hi ho,fun i hi g hg=>h.stay i hi g (kI (e i hi) hg),fun i hi hm hp=>h.good i hi hm ?_⟩;exact hp.imp (fun y a b=>⟨kI (e i hi) a,b⟩) fun x y ax a b=>⟨kI (e x ax.1) a,b⟩
theorem uk {f:Int->Option Int} {n:Nat} (hn:n<=1000) {s:PyData} {js:List Int} (hs:sG s js):dc [oT f n,s]=.ok (oT (fun i=>if i∈js then f i else none) n):=by
  have hc:=tZ (fe:=D6 (tE (e2 (uN false) (ag 0) (ag 2))) (ag 1) (eC .none)) (ρ:=[.val s]) (g:=fun i=>oD (f i)) (h:=fun i=>oD (if i∈js then f i else none)) n 0 fun j _ _=>by
    simp only [vx,cL,bB,aw,ap,bK,R.ok_bind,hs.inn,cU];cases hm:df js j with
    | true=>rw [if_pos (bW.mp hm)];rfl
    | false=>rw [if_neg (show ¬ (j:Int)∈js from fun z=>by rw [bW.mpr z] at hm;cases hm)];rfl
  rw [rY] at hc;unfold dc kN;refine eN ?_;rw [show ([oT f n,s].map bn.val++List.replicate (2 - [oT f n,s].length) bn.non)=[.val (oT f n),.val s] from rfl];rw [cy,bU,bp,show az 2 [1] [.val (oT f n),.val s]=[.non,.non,.val s] from rfl];simp only [oZ,ap,R.ok_bind,cO,cr];rw [if_pos (by rw [gG,bD];exact bI hn)];rw [show dW 0 (tab (fun i=>oD (f i)) n)=dW 0 ((ids n).map fun i=>oD (f i)) from rfl,hc];rfl
noncomputable def lW (sub:List Int) (win:Int->Int) (i:Int):Option Int:=if i∈sub then some (win i) else none
section
variable {ps:List P4} (G:Gr ps) {c:Addr} {k:Nat} {js:List Int} (hj:cu ps.length js) (hw:eR ps js) (hne:js≠[]) (hown:∀ i∈js,ay ps i=0\/ay ps i=1)
include G hj hw hne hown
theorem AG (ih:∀ (h:Int) (sub:List Int),cu ps.length sub->eR ps sub->(∀ i∈sub,i∈js/\aH ps i < h)->(∃ i∈js,aH ps i=h)->∃ win mv,aN c k [gD ps,.tuple (sub.map .int)]=.ok (.tuple [oT (lW sub win) ps.length,oT mv ps.length])/\kQ ps sub win mv/\∀ i,i∉sub->mv i=none) :
    ∃ s,bj c k [gD ps,.tuple (js.map .int)]=.ok (jm c ps.length s)/\gT ps js s/\cu ps.length s.pl:=by
  have hp:=G.hp;have hjl:=hj.len;obtain ⟨h,hmx,htopx,hmax⟩:=yO (ps:=ps) hne;obtain ⟨w,ew⟩:∃ w,w=h%2:=⟨_,rfl⟩
  have w01:w=0\/w=1:=by omega
  obtain ⟨tops,etops⟩:∃ tops,tops=js.filter fun i=>decide (aH ps i=h):=⟨_,rfl⟩
  have htop:∀ i,i∈tops<->i∈js/\aH ps i=h:=fun i=>by rw [etops,List.mem_filter,decide_eq_true_iff]
  have tp:cu ps.length tops:=by rw [etops];exact hj.filter _
  obtain ⟨rk,erk⟩:∃ rk,rk=rK ps js w tops:=⟨_,rfl⟩
  have A:uP ps js w tops rk:=by rw [erk];exact nW tp.nd (fun x hx=>((htop x).mp hx).1) hj.nd hj.len
  have h1:=jR G.hl G.hgo G.hp (s:=.tuple (js.map .int)) (g:=.list (tops.map .int)) (.inl rfl) (.inr rfl) hj tp (fun x hx=>((htop x).mp hx).1) hw (who:=w);rw [<- erk] at h1;have h2:=kf (f:=rk) (n:=ps.length) (by omega);have h3:=gS (s:=.tuple (js.map .int)) (t:=.tuple ((iE rk ps.length).map .int)) (.inl rfl) (.inl rfl) (by omega);obtain ⟨sub,esub⟩:∃ sub,sub=dF js (iE rk ps.length):=⟨_,rfl⟩
  have hsub:∀ i,i∈sub<->i∈js/\rk i=none:=fun i=>by
    rw [esub,bG,gI];constructor
    · rintro ⟨a,b⟩;refine ⟨a,?_⟩;cases hr:rk i with
      | none=>rfl
      | some q=>exact (b ⟨hj.inn i a,q,hr⟩).elim
    · rintro ⟨a,b⟩;exact ⟨a,fun ⟨_,q,hq⟩=>by rw [b] at hq;cases hq⟩
  have sp:cu ps.length sub:=by rw [esub];exact hj.filter _
  have sw:eR ps sub:=by
    intro i hi;obtain ⟨a,b⟩:=(hsub i).mp hi;have fin:∀ g∈bM ps js i,rk g=none->∃ g,g∈bM ps sub i:=fun g g1 g2=>⟨g,fU (eJ g1) ((hsub g).mpr ⟨fJ g1,g2⟩)⟩
    by_cases ho:ay ps i=w
    · obtain ⟨g,hg⟩:=hw i a;exact fin g hg (A.outO i a b ho g hg)
    · obtain ⟨g,g1,g2⟩:=A.outX i a b ho (hw i a);exact fin g g1 g2
  obtain ⟨win,mv,h4,I,hmv⟩:=ih h sub sp sw (fun i hi=>by
    obtain ⟨a,b⟩:=(hsub i).mp hi;refine ⟨a,?_⟩;have:=hmax i a;by_cases z:aH ps i=h
    · have:=(A.zero i).mpr ((htop i).mpr ⟨a,z⟩);rw [b] at this;cases this
    · omega) htopx
  have h5:=ix G (kT A)
  -- the lists
  have hmarks:bT (aT 0) (fun _=>.ok true) (e2 bJ (e2 bJ (ag 1) (ag 0)) (eC (.int 1))) [.non,.val (gD ps)] (js.map .int)=.ok ((js.map (aH ps)).map .int):=by
    have go:∀ is:List Int,(∀ x∈is,0<=x/\x < ps.length)->bT (aT 0) (fun _=>.ok true) (e2 bJ (e2 bJ (ag 1) (ag 0)) (eC (.int 1))) [.non,.val (gD ps)] (is.map .int)=.ok ((is.map (aH ps)).map .int):=by
      intro is;induction is with
      | nil=>exact fun _=>cZ ..
      | cons i is ih' =>
        intro hb;obtain ⟨b0,b1⟩:=hb i List.mem_cons_self;rw [List.map_cons,dG,ih' fun x hx=>hb x (List.mem_cons_of_mem _ hx)];simp only [R.ok_bind,if_true,List.set_cons_zero,bB,ap,aw,bK,lI b0 b1,k9];rw [<- qD b0 b1];rfl
    exact go js hj.inn
  have htops:=cV (t:=tE (e2 (iP) (e2 bJ (e2 bJ (ag 1) (ag 0)) (eC (.int 1))) (ag 2))) (ρ:=[.val (gD ps),.val (.int h)]) (p:=fun i=>decide (aH ps i=h)) js fun i hi=>by
    obtain ⟨b0,b1⟩:=hj.inn i hi;simp only [List.set_cons_zero,cL,bB,ap,aw,bK,R.ok_bind,lI b0 b1,k9,fZ,cU];rw [<- qD b0 b1]
  rw [<- etops] at htops;obtain ⟨lost,elost⟩:∃ lost,lost=(ids ps.length).filter fun i=>decide (lW sub win i=some (1-w)):=⟨_,rfl⟩
  have hlost:∀ i,i∈lost<->i∈sub/\win i=1-w:=fun i=>by
    rw [elost,List.mem_filter,decide_eq_true_iff];unfold lW;constructor
    · rintro ⟨a,b⟩;split at b
      · rename_i z;exact ⟨z,Option.some.inj b⟩
      · cases b
    · rintro ⟨a,b⟩;exact ⟨bC.mpr (sp.inn i a),by rw [if_pos a,b]⟩
  have lp:cu ps.length lost:=by rw [elost];exact (cu.ids _).filter _
  have hlist:=jJ (t:=tE (e2 (iP) (ag 1) (ag 2))) (ρ:=[.val (.int (1-w))]) (p:=fun i=>decide (lW sub win i=some (1-w))) (g:=fun i=>oD (lW sub win i)) ps.length 0 fun j _ _=>by
    simp only [cL,bB,aw,ap,R.ok_bind,wN,cU]
  rw [rY,<- elost] at hlist;obtain ⟨B,hB⟩:∃ B,B=PyData.tuple [oT (lW sub win) ps.length,oT mv ps.length]:=⟨_,rfl⟩
  rw [<- hB] at h4;have hB0:bJ B (.int 0)=.ok (oT (lW sub win) ps.length):=by rw [hB];rfl
  have hB1:bJ B (.int 1)=.ok (oT mv ps.length):=by rw [hB];rfl
  -- up to the test
  have pre:∀ {r:R PyData},((bf (lu (tE (e2 (iP) (e1 cN (ag 8)) (eC (.int 0)))) (bf (cf 9 (aA aG (ai (aA bx (ai (ag 0) (ai (ag 3) (ai (ag 6) aE)))) (ai (e2 bJ (ag 7) (eC (.int 1))) aE)))) (cK (tV c ["who","places","moves"] (ai (ag 3) (ai (ag 1) (ai (aA aG (ai (ag 9) (ai (aA aW (ai (ag 0) (ai (ag 3) (ai (ag 1) aE)))) aE))) aE)))))) de) (bf (cf 6 (aA bQ (ai (ag 0) (ai (ag 1) (ai (ag 4) (ai (ag 8) aE)))))) (bf (cf 9 (aA aG (ai (aA bx (ai (ag 0) (ai (ag 4) (ai (ag 6) aE)))) (ai (aA dc (ai (e2 bJ (ag 7) (eC (.int 1))) (ai (ag 8) aE))) aE)))) (cK (tV c ["who","places","moves"] (ai (ag 4) (ai (aA bS (ai (ag 6) aE)) (ai (ag 9) aE)))))))) [.val (gD ps),.val (.tuple (js.map .int)),.val (.int h),.val (.int w),.val (.int (1-w)),.val (.list (tops.map .int)),.val (oT rk ps.length),.val B,.val (.list (lost.map .int)),.non]>>=zc)=r->bj c k [gD ps,.tuple (js.map .int)]=r:=fun {r} hr=>by
    unfold bj eA;rw [ed,show ([gD ps,.tuple (js.map .int)].map bn.val++List.replicate (10 - [gD ps,.tuple (js.map .int)].length) bn.non)=[.val (gD ps),.val (.tuple (js.map .int)),.non,.non,.non,.non,.non,.non,.non,.non] from rfl];rw [aR (ρ':=[.val (gD ps),.val (.tuple (js.map .int)),.val (.int h),.non,.non,.non,.non,.non,.non,.non]) (by
      rw [bH,bU,bp,show az 1 [0] [.val (gD ps),.val (.tuple (js.map .int)),.non,.non,.non,.non,.non,.non,.non,.non]=[.non,.val (gD ps)] from rfl];simp only [bV,ap,aw,R.ok_bind,cO,cr];rw [if_pos (by rw [List.length_map];exact bI (by omega)),hmarks,gy,R.ok_bind,hmx];rfl)]
    rw [aR (ρ':=[.val (gD ps),.val (.tuple (js.map .int)),.val (.int h),.val (.int w),.non,.non,.non,.non,.non,.non]) (by
      simp only [bH,bB,ap,aw,bK,R.ok_bind,Ae];rw [if_pos (by decide),<- ew];rfl)]
    rw [aR (ρ':=[.val (gD ps),.val (.tuple (js.map .int)),.val (.int h),.val (.int w),.val (.int (1-w)),.non,.non,.non,.non,.non]) (by
      simp only [bH,bB,ap,aw,bK,R.ok_bind,mC];rfl)]
    rw [aR (ρ':=[.val (gD ps),.val (.tuple (js.map .int)),.val (.int h),.val (.int w),.val (.int (1-w)),.val (.list (tops.map .int)),.non,.non,.non,.non]) (by
      rw [bH,bp,show az 1 [0,2] [.val (gD ps),.val (.tuple (js.map .int)),.val (.int h),.val (.int w),.val (.int (1-w)),.non,.non,.non,.non,.non]=[.non,.val (gD ps),.val (.int h)] from rfl];simp only [bV,ap,aw,R.ok_bind,cO,cr];rw [if_pos (by rw [List.length_map];exact bI (by omega)),htops];rfl)]
    rw [aR (ρ':=[.val (gD ps),.val (.tuple (js.map .int)),.val (.int h),.val (.int w),.val (.int (1-w)),.val (.list (tops.map .int)),.val (oT rk ps.length),.non,.non,.non]) (by
      simp only [bH,aJ,aC,aL,ap,aw,R.ok_bind,h1];rfl)]
    rw [aR (ρ':=[.val (gD ps),.val (.tuple (js.map .int)),.val (.int h),.val (.int w),.val (.int (1-w)),.val (.list (tops.map .int)),.val (oT rk ps.length),.val B,.non,.non]) (by
      simp only [bH,aJ,aC,aL,ap,aw,R.ok_bind,h2,h3];rw [show (js.filter fun i=>!df (iE rk ps.length) i)=sub from esub.symm,h4];rfl)]
    rw [aR (ρ':=[.val (gD ps),.val (.tuple (js.map .int)),.val (.int h),.val (.int w),.val (.int (1-w)),.val (.list (tops.map .int)),.val (oT rk ps.length),.val B,.val (.list (lost.map .int)),.non]) (by
      rw [bH,bp,show az 2 [4] [.val (gD ps),.val (.tuple (js.map .int)),.val (.int h),.val (.int w),.val (.int (1-w)),.val (.list (tops.map .int)),.val (oT rk ps.length),.val B,.non,.non]=[.non,.non,.val (.int (1-w))] from rfl];simp only [oZ,bB,ap,aw,bK,R.ok_bind,hB0,cO,cr];rw [if_pos (by rw [gG,bD];exact bI (by omega))];rw [show dW 0 (tab (fun i=>oD (lW sub win i)) ps.length)=dW 0 ((ids ps.length).map fun i=>oD (lW sub win i)) from rfl,hlist];rfl)]
    exact hr
  by_cases hl:lost=[]
  · have hall:∀ i∈sub,win i=w:=fun i hi=>by
      by_cases z:win i=1-w
      · have:=(hlost i).mpr ⟨hi,z⟩;rw [hl] at this;cases this
      · have:=I.two i hi;omega
    have S:=zi hj hw hown ew hmax htop A hsub I hmv hne hall;have h6:=iF G (who:=w) (s:=.tuple (js.map .int)) (.inl rfl) hj fun i hi _=>hw i hi
    refine ⟨_,pre ?_,S,hj⟩;rw [Bp (d:=jm c ps.length ⟨w,js,eL (eL (mJ ps w rk) mv) (eT ps w js)⟩) ?_]
    · rfl
    · rw [dL,cL,bB,bU];simp only [ap,aw,bK,R.ok_bind,hl,List.map_nil,oO,List.length_nil,fZ,cU];rw [if_pos (by decide)];rw [aR (ρ':=[.val (gD ps),.val (.tuple (js.map .int)),.val (.int h),.val (.int w),.val (.int (1-w)),.val (.list (tops.map .int)),.val (oT rk ps.length),.val B,.val (.list []),.val (oT (eL (mJ ps w rk) mv) ps.length)]) (by
        simp only [bH,aJ,aC,aL,bB,bK,ap,aw,R.ok_bind,h5,hB1,nX (show ps.length<=1000 by omega)];rfl)]
      unfold tV;simp only [cy,aJ,aC,aL,ap,aw,R.ok_bind,h6,nX (show ps.length<=1000 by omega)];rfl
  · obtain ⟨rk2,erk2⟩:∃ rk2,rk2=rK ps js (1-w) lost:=⟨_,rfl⟩
    have lsub:∀ x∈lost,x∈js:=fun x hx=>((hsub x).mp ((hlost x).mp hx).1).1
    have B2:uP ps js (1-w) lost rk2:=by rw [erk2];exact nW lp.nd lsub hj.nd hj.len
    have g1:=jR G.hl G.hgo G.hp (s:=.tuple (js.map .int)) (g:=.list (lost.map .int)) (.inl rfl) (.inr rfl) hj lp lsub hw (who:=1-w);rw [<- erk2] at g1;have g2:=kf (f:=rk2) (n:=ps.length) (by omega);have g3:=ix G (kT B2);have g4:=uk (f:=mv) (n:=ps.length) (by omega) (s:=.list (lost.map .int)) (js:=lost) (.inr rfl);have S:=wb hj hw hown ew hmax htop A hsub I hmv hlost hl B2 (pl:=iE rk2 ps.length) fun i=>by
      rw [gI];exact ⟨fun z=>z.2,fun ⟨q,hq⟩=>⟨hj.inn i (B2.sub i q hq),q,hq⟩⟩
    have hlen:¬ (lost.length:Int)=0:=by
      have:=List.length_pos_iff.mpr hl;omega
    refine ⟨_,pre ?_,S,pJ _ _⟩;rw [aR (ρ':=[.val (gD ps),.val (.tuple (js.map .int)),.val (.int h),.val (.int w),.val (.int (1-w)),.val (.list (tops.map .int)),.val (oT rk ps.length),.val B,.val (.list (lost.map .int)),.non]) (by
      rw [dL,cL,bB,bU];simp only [ap,aw,bK,R.ok_bind,oO,List.length_map,fZ,cU,decide_eq_false hlen];rfl)]
    rw [aR (ρ':=[.val (gD ps),.val (.tuple (js.map .int)),.val (.int h),.val (.int w),.val (.int (1-w)),.val (.list (tops.map .int)),.val (oT rk2 ps.length),.val B,.val (.list (lost.map .int)),.non]) (by
      simp only [bH,aJ,aC,aL,ap,aw,R.ok_bind,g1];rfl)]
    rw [aR (ρ':=[.val (gD ps),.val (.tuple (js.map .int)),.val (.int h),.val (.int w),.val (.int (1-w)),.val (.list (tops.map .int)),.val (oT rk2 ps.length),.val B,.val (.list (lost.map .int)),.val (oT (eL (mJ ps (1-w) rk2) fun i=>if i∈lost then mv i else none) ps.length)]) (by
      simp only [bH,aJ,aC,aL,bB,bK,ap,aw,R.ok_bind,g3,hB1,g4,nX (show ps.length<=1000 by omega)];rfl)]
    unfold tV;simp only [cy,aJ,aC,aL,ap,aw,R.ok_bind,g2];rfl
end
noncomputable def wZ (c:Addr) (k:Nat):Fs:=(bf (cf 4 (aA (bj c k) (ai (ag 0) (ai (ag 3) aE)))) (bf (kg 2 (ag 4)) (cf 3 (aA aZ (ai (ag 3) (ai (e1 (kX c "places") (ag 4)) aE))))))
noncomputable abbrev lR (ps:List P4) (c:Addr) (s:PyData) (acc:List Sh) (js:List Int) (c4:bn):aS :=
  [.val (gD ps),.val s,.own (.list (acc.map (jm c ps.length))),.val (.tuple (js.map .int)),c4]
theorem Eb {ps:List P4} (G:Gr ps) {c:Addr} {kk:Nat} {s0:PyData} {Pm:Int->Prop} (hown:∀ i,Pm i->ay ps i=0\/ay ps i=1) (hS:∀ js,cu ps.length js->eR ps js->js≠[]->(∀ i∈js,Pm i)->∃ s,bj c kk [gD ps,.tuple (js.map .int)]=.ok (jm c ps.length s)/\gT ps js s/\cu ps.length s.pl) :
    ∀ (k n:Nat) (js:List Int) (acc:List Sh) (c4:bn),cu ps.length js->eR ps js->(∀ i∈js,Pm i)->js.length<=k->k+1<=n->acc.length+k<=1000 ->
    ∃ l c4' win mv,dU (tE (e2 (eG mO) (e1 cN (ag 3)) (eC (.int 0)))) (wZ c kk) n (lR ps c s0 acc js c4)=.ok (.nx (lR ps c s0 (acc++l) [] c4'))/\(∀ f i,nB f l i=if i∈js then some (win i) else f i)/\(∀ m i,(i∈js->m i=none)->ul m l i=if i∈js then mv i else m i)/\kQ ps js win mv/\∀ s∈l,∀ x∈s.pl,0<=x/\x < ps.length
  | k,0,js,acc,c4,_,_,_,_,h,_=>by omega
  | k,n+1,js,acc,c4,hj,hw,hm,hk,hn,hz=>by
    have hp:=G.hp;rw [pS];have ht:tE (e2 (eG mO) (e1 cN (ag 3)) (eC (.int 0))) (lR ps c s0 acc js c4)=.ok (decide (0 < js.length)):=by
      simp only [cL,bB,bU,aw,ap,bK,R.ok_bind,rQ,iO,cU,List.length_map];congr 1;simp
    rw [ht,R.ok_bind];by_cases h0:js=[]
    · subst h0;refine ⟨[],c4,fun _=>0,fun _=>none,by rw [List.append_nil];rfl,fun f i=>by simp [nB],fun m i _=>by simp [ul],DV _ _,fun s hs=>by cases hs⟩
    · have hpos:=List.length_pos_iff.mpr h0;rw [if_pos (decide_eq_true hpos)];cases k with
      | zero=>omega
      | succ k =>
        obtain ⟨s,h1,S,sp⟩:=hS js hj hw h0 hm;have hl:(dF js s.pl).length < js.length:=by
          obtain ⟨i,hi⟩:=List.exists_mem_of_ne_nil _ S.ne;refine Nat.lt_of_le_of_ne (List.length_filter_le ..) fun z=>?_
          have:=(ia _ js).mp z i (S.sub i hi);rw [bW.mpr hi] at this;cases this
        obtain ⟨l,c4',win,mv,e,q1,q2,I,q3⟩:=Eb G hown hS k n (dF js s.pl) (acc++[s]) (.val (jm c ps.length s)) (hj.filter _) (S.whole hw) (fun i hi=>hm i (bG.mp hi).1) (by omega) (by omega) (by simp;omega);have h2:=gS (s:=.tuple (js.map .int)) (t:=.tuple (s.pl.map .int)) (.inl rfl) (.inl rfl) (by have:=hj.len;omega);have hb:wZ c kk (lR ps c s0 acc js c4)=.ok (.nx (lR ps c s0 (acc++[s]) (dF js s.pl) (.val (jm c ps.length s)))):=by
          unfold wZ;rw [aR (ρ':=lR ps c s0 acc js (.val (jm c ps.length s))) (by
            simp only [bH,aJ,aC,aL,ap,aw,R.ok_bind,h1];rfl)]
          rw [aR (ρ':=lR ps c s0 (acc++[s]) js (.val (jm c ps.length s))) (by
            rw [ze (ds:=acc.map (jm c ps.length)) (ag 4) rfl (Nat.lt_of_lt_of_le (show _ < 1001 by rw [List.length_map];omega) (by decide))];simp -implicitDefEqProofs only [ap,aw,cr,R.ok_bind];rw [show acc.map (jm c ps.length)++[jm c ps.length s]=(acc++[s]).map (jm c ps.length) by simp];rfl)]
          simp only [bH,aJ,aC,aL,bU,ap,aw,R.ok_bind,oW,h2];rfl
        refine ⟨s::l,c4',fun i=>if i∈s.pl then s.w else win i,fun i=>if i∈s.pl then s.mv i else mv i,?_,fun f i=>?_,fun m i hmi=>?_,BK (fun i hi=>hown i (hm i hi)) S I,fun t ht' x hx=>?_⟩
        · rw [hb,R.ok_bind,eU,e];simp
        · show nB (BI s f) l i=_;rw [q1];by_cases hi:i∈js
          · rw [if_pos hi];dsimp only;by_cases hs:i∈s.pl
            · rw [if_neg fun z=>(bG.mp z).2 hs,if_pos hs];exact if_pos hs
            · rw [if_pos (bG.mpr ⟨hi,hs⟩),if_neg hs]
          · rw [if_neg fun z=>hi (bG.mp z).1,if_neg hi];exact if_neg fun z=>hi (S.sub i z)
        · show ul (eL m s.mv) l i=_;rw [q2 (eL m s.mv) i fun z=>by
            obtain ⟨z1,z2⟩:=bG.mp z;show (m i).or _=none;rw [hmi z1,Option.none_or,S.non i (.inl z2)]]
          by_cases hi:i∈js
          · rw [if_pos hi];dsimp only;by_cases hs:i∈s.pl
            · rw [if_neg fun z=>(bG.mp z).2 hs,if_pos hs];show (m i).or _=_;rw [hmi hi,Option.none_or]
            · rw [if_pos (bG.mpr ⟨hi,hs⟩),if_neg hs]
          · rw [if_neg fun z=>hi (bG.mp z).1,if_neg hi];show (m i).or _=_;rw [S.non i (.inl fun z=>hi (S.sub i z)),Option.or_none]
        · rcases List.mem_cons.mp ht' with rfl | z
          · exact sp.inn x hx
          · exact q3 t z x hx
theorem qV {ps:List P4} (G:Gr ps) {c:Addr} {k:Nat} {Pm:Int->Prop} (hown:∀ i,Pm i->ay ps i=0\/ay ps i=1) (hS:∀ js,cu ps.length js->eR ps js->js≠[]->(∀ i∈js,Pm i)->∃ s,bj c k [gD ps,.tuple (js.map .int)]=.ok (jm c ps.length s)/\gT ps js s/\cu ps.length s.pl) {js:List Int} (hj:cu ps.length js) (hw:eR ps js) (hm:∀ i∈js,Pm i) :
    ∃ win mv,aN c (k+1) [gD ps,.tuple (js.map .int)]=.ok (.tuple [oT (lW js win) ps.length,oT mv ps.length])/\kQ ps js win mv/\∀ i,i∉js->mv i=none:=by
  have hp:=G.hp;have hjl:=hj.len;obtain ⟨l,c4,win,mv,e,q1,q2,I,q3⟩:=Eb G (c:=c) (s0:=.tuple (js.map .int)) hown hS js.length 1000000 js [] .non hj hw hm (Nat.le_refl _) (by omega) (by simp;omega);rw [List.nil_append] at e;have h3:=Ii (ps:=ps) (by omega) (c:=c) q3;have e1':oT (nB (fun _=>none) l) ps.length=oT (lW js win) ps.length:=congrArg PyData.tuple (cD fun i _ _=>by rw [q1];rfl);have e2':oT (ul (fun _=>none) l) ps.length=oT (fun i=>if i∈js then mv i else none) ps.length:=congrArg PyData.tuple (cD fun i _ _=>by rw [q2 _ i fun _=>rfl]);rw [e1',e2'] at h3;refine ⟨win,fun i=>if i∈js then mv i else none,?_,I.congr fun i hi=>if_pos hi,fun i hi=>if_neg hi⟩;show dB 5 (eB (bj c k) (bu c) aZ c) _=_;unfold eB;refine eN ?_;rw [show ([gD ps,.tuple (js.map .int)].map bn.val++List.replicate (5 - [gD ps,.tuple (js.map .int)].length) bn.non)=[.val (gD ps),.val (.tuple (js.map .int)),.non,.non,.non] from rfl];rw [aR (ρ':=[.val (gD ps),.val (.tuple (js.map .int)),.own (.list []),.non,.non]) (by rfl)];rw [aR (ρ':=lR ps c (.tuple (js.map .int)) [] js .non) (by rfl)];rw [aR (ρ':=lR ps c (.tuple (js.map .int)) l [] c4) (by
    rw [gA];show mL (dU (tE (e2 (eG mO) (e1 cN (ag 3)) (eC (.int 0)))) (wZ c k) 1000000 _)=_;rw [e];rfl)]
  unfold IJ;show cK _ ((lR ps c (.tuple (js.map .int)) l [] c4).set 2 (.val (.list (l.map (jm c ps.length)))))=_;simp only [List.set_cons_succ,List.set_cons_zero,cy,aJ,aC,aL,ap,aw,R.ok_bind,h3]
theorem qU {ps:List P4} (G:Gr ps) {c:Addr}:∀ (k:Nat) (js:List Int),cu ps.length js->eR ps js->(∀ i∈js,(ay ps i=0\/ay ps i=1)/\0<=aH ps i/\aH ps i < k) ->
    ∃ win mv,aN c (k+1) [gD ps,.tuple (js.map .int)]=.ok (.tuple [oT (lW js win) ps.length,oT mv ps.length])/\kQ ps js win mv/\∀ i,i∉js->mv i=none
  | 0,js,hj,hw,hm=>qV G (c:=c) (Pm:=fun i=>(ay ps i=0\/ay ps i=1)/\0<=aH ps i/\aH ps i < (0:Nat)) (fun i h=>h.1) (fun js' _ _ hne h=>by
      obtain ⟨i,hi⟩:=List.exists_mem_of_ne_nil _ hne;have:=(h i hi).2;omega) hj hw hm
  | k+1,js,hj,hw,hm=>qV G (c:=c) (Pm:=fun i=>(ay ps i=0\/ay ps i=1)/\0<=aH ps i/\aH ps i < ((k+1:Nat):Int)) (fun i h=>h.1) (fun js' hj' hw' hne h=>AG G hj' hw' hne (fun i hi=>(h i hi).1) fun hh sub sp sw hs ⟨i0,hi0,e0⟩=>qU G k sub sp sw fun i hi=>by
      obtain ⟨a,b⟩:=hs i hi;have h1:=h i a;have h2:=(h i0 hi0).2.2;exact ⟨h1.1,h1.2.1,by omega⟩) hj hw hm
theorem Gc {ps:List P4} (G:Gr ps) (hw:eR ps (ids ps.length)) {c:Addr} (hm:∀ i∈ids ps.length,(ay ps i=0\/ay ps i=1)/\0<=aH ps i/\aH ps i < 13) :
    ∃ win mv,fq c [gD ps]=.ok (.tuple [oT (fun i=>some (win i)) ps.length,oT mv ps.length])/\kQ ps (ids ps.length) win mv/\∀ i,i∉ids ps.length->mv i=none:=by
  obtain ⟨win,mv,e,I,q⟩:=qU G (c:=c) 13 (ids ps.length) (cu.ids _) hw hm;refine ⟨win,mv,?_,I,q⟩;have h2:=pW (ps:=ps) (by have:=G.hp;omega);have e':oT (lW (ids ps.length) win) ps.length=oT (fun i=>some (win i)) ps.length:=congrArg PyData.tuple (cD fun i h0 h1=>by unfold lW;rw [if_pos (bC.mpr ⟨h0,h1⟩)]);rw [e'] at e;unfold fq zJ;refine eN ?_;rw [show ([gD ps].map bn.val++List.replicate (1 - [gD ps].length) bn.non)=[.val (gD ps)] from rfl];simp only [cy,aJ,aC,aL,ap,R.ok_bind,h2,e]
noncomputable def iD (f:Int->PyData) (qs:List Int):List (PyData×PyData):=qs.map fun i=>(.int i,f i)
theorem Aw (f:Int->PyData) (qs:List Int):kF (iD f qs)=false:=by cases qs <;> rfl
theorem w6 (f:Int->PyData) (j:Int):∀ qs:List Int,jl (iD f qs) (.int j)=if j∈qs then some (f j) else none
  | []=>rfl
  | i::qs=>by
    unfold jl iD;rw [List.map_cons];by_cases h:i=j
    · subst h;rw [List.find?_cons_of_pos (by exact decide_eq_true rfl),if_pos List.mem_cons_self];rfl
    · rw [List.find?_cons_of_neg (by show ¬ decide (i=j)=true;rw [decide_eq_false h];exact Bool.false_ne_true)];have:=w6 f j qs;unfold jl iD at this;rw [this];by_cases hj:j∈qs
      · rw [if_pos hj,if_pos (List.mem_cons_of_mem _ hj)]
      · rw [if_neg hj,if_neg fun z=>(List.mem_cons.mp z).elim (fun e=>h e.symm) hj]
theorem D9 {f:Int->PyData} {qs:List Int} {j:Int} (h:j∈qs):bJ (.dict (iD f qs)) (.int j)=.ok (f j):=by
  show (if kF (iD f qs)=true then R.no else match gt (.int j) with | some _=>(match jl (iD f qs) (.int j) with | some d=>R.ok d | none=>.no) | none=>.no)=_;rw [Aw,if_neg (by simp),w6,if_pos h];rfl
theorem FM {f:Int->PyData} {qs:List Int} {j:Int} (h:j∉qs):sx (iD f qs) (.int j) (f j)=iD f (qs++[j]):=by
  unfold sx;rw [if_neg (by
    rw [List.any_eq_true];rintro ⟨kv,hkv,e⟩;obtain ⟨i,hi,rfl⟩:=List.mem_map.mp hkv;have:i=j:=of_decide_eq_true e;rw [this] at hi;exact h hi)]
  unfold iD;rw [List.map_append];rfl
theorem mG {f:Fe} {ρ:aS} {h:Int->Int}:∀ ns:List Int,(∀ x∈ns,f (.val (.int x)::ρ)=.ok (.int (h x)))->bT (aT 0) (fun _=>.ok true) f (.non::ρ) (ns.map .int)=.ok ((ns.map h).map .int)
  | [],_=>cZ ..
  | x::ns,hh=>by
    rw [List.map_cons,dG,mG ns fun y hy=>hh y (List.mem_cons_of_mem _ hy)];show (R.ok true>>=fun k=>if k=true then f (.val (.int x)::ρ)>>=fun x=>R.ok ((ns.map h).map .int)>>=fun xs=>.ok (x::xs) else _)=_;rw [hh x List.mem_cons_self];rfl
theorem kc {f:Fe} {ρ:aS} {h:P4->PyData}:∀ qs:List P4,(∀ q∈qs,f (.val q.d::ρ)=.ok (h q))->bT (aT 0) (fun _=>.ok true) f (.non::ρ) (qs.map P4.d)=.ok (qs.map h)
  | [],_=>cZ ..
  | q::qs,hh=>by
    rw [List.map_cons,dG,kc qs fun y hy=>hh y (List.mem_cons_of_mem _ hy)];show (R.ok true>>=fun k=>if k=true then f (.val q.d::ρ)>>=fun x=>R.ok (qs.map h)>>=fun xs=>.ok (x::xs) else _)=_;rw [hh q List.mem_cons_self];rfl
theorem ss (p:P4):bJ p.d (.int 2)=.ok (.int p.g):=rfl
noncomputable def BJ (p:P4) (L:List Int):P4:=⟨p.w,p.m,p.g,L⟩
theorem kH (p:P4) (L:List Int):bh [p.d,.list (L.map .int)]=.ok (BJ p L).d:=by
  have s4:4<=sizeLine:=by decide
  unfold bh iM;refine eN ?_;rw [show ([p.d,PyData.list (L.map .int)].map bn.val++List.replicate (2 - [p.d,PyData.list (L.map .int)].length) bn.non)=[.val p.d,.val (.list (L.map .int))] from rfl];simp only [cy,gW,aC,aL,bB,bU,ap,aw,bK,R.ok_bind,jO,k9,ss,iq,List.length_cons,List.length_nil,Nat.zero_add,Nat.reduceAdd,if_pos s4];rfl
noncomputable abbrev cx (ps:List P4):List Int:=ps.map (·.m)
theorem nv {ps:List P4} (hp:ps.length<=1000):cn [gD ps]=.ok (.list ((cx ps).map .int)):=by
  have hc:=kc (f:=e2 bJ (ag 0) (eC (.int 1))) (ρ:=[]) (h:=fun p=>.int p.m) ps fun q _=>by simp only [bB,ap,bK,R.ok_bind,k9]
  unfold cn kM;refine eN ?_;rw [show ([gD ps].map bn.val++List.replicate (1 - [gD ps].length) bn.non)=[.val (gD ps)] from rfl];rw [cy,bp,show az 1 [] [.val (gD ps)]=[.non] from rfl];simp only [bV,ap,R.ok_bind,cO,cr];rw [if_pos (bI (by rw [List.length_map];exact hp)),hc,List.map_map];rfl
noncomputable def Am (p:P4):P4:=⟨1-p.w,p.m+1,-p.g,p.ns⟩
noncomputable abbrev Ij:Str:=PySem.Str.ofString "NoMark"
theorem EZ (p:P4):jI (ai (e2 ip (eC (.int 1)) (e2 bJ (ag 0) (eC (.int 0)))) (ai (e2 dP (e2 bJ (ag 0) (eC (.int 1))) (eC (.int 1))) (ai (e1 vt (e2 bJ (ag 0) (eC (.int 2)))) (ai (e2 bJ (ag 0) (eC (.int 3))) aE)))) [.val p.d]=.ok (Am p).d:=by
  have s4:4<=sizeLine:=by decide
  simp only [gW,aC,aL,bB,bU,ap,bK,R.ok_bind,jO,k9,ss,i4,mC,mB,ES,List.length_cons,List.length_nil,Nat.zero_add,Nat.reduceAdd,if_pos s4];rfl
theorem CC {ps:List P4} (hp:ps.length<=1000) {ρ:aS} {i:Nat} (hi:ag i ρ=.ok (gD ps)):e1 cC (bL (dE (ag i)) 1 [] (aT 0) (fun _=>.ok true) (jI (ai (e2 ip (eC (.int 1)) (e2 bJ (ag 0) (eC (.int 0)))) (ai (e2 dP (e2 bJ (ag 0) (eC (.int 1))) (eC (.int 1))) (ai (e1 vt (e2 bJ (ag 0) (eC (.int 2)))) (ai (e2 bJ (ag 0) (eC (.int 3))) aE)))))) ρ=.ok (gD (ps.map Am)):=by
  have hc:=kc (ρ:=[]) (h:=fun p=>(Am p).d) ps fun q _=>EZ q
  rw [bU,bp,show az 1 [] ρ=[.non] from rfl];simp only [bV,hi,R.ok_bind,cO,cr];rw [if_pos (bI (by rw [List.length_map];exact hp)),hc];show R.ok (PyData.tuple (ps.map fun p=>(Am p).d))=.ok (.tuple ((ps.map Am).map P4.d));rw [List.map_map];rfl
theorem rW {ps:List P4} (hp:ps.length<=1000):dg [gD ps]=if df (cx ps) 12=true then .ex Ij else .ok (gD (ps.map Am)):=by
  have h1:=nv hp;have h2:=CC hp (ρ:=[.val (gD ps)]) (i:=0) rfl;unfold dg jw;rw [ed,show ([gD ps].map bn.val++List.replicate (1 - [gD ps].length) bn.non)=[.val (gD ps)] from rfl];rw [kh,dL];simp only [cL,bB,bK,aJ,aC,aL,ap,R.ok_bind,h1,G7,cU];cases df (cx ps) 12 with
  | true=>rfl
  | false =>
    show (cK _ _>>=zc)=_;rw [cy,h2];rfl
noncomputable def wa (n:Int) (q:P4):P4:=BJ q (q.ns.map (·+n))
noncomputable abbrev Il:Str:=PySem.Str.ofString "NoRoom"
theorem xX {ps qs:List P4} (hp:ps.length<=100) (hq:qs.length<=100) (hl:∀ q∈qs,q.ns.length<=100):fj [gD ps,gD qs]=if ps.length+qs.length<=24 then .ok (gD (ps++qs.map (wa ps.length))) else .ex Il:=by
  have l1:cN (gD ps)=.ok (.int ps.length):=by simp
  have l2:cN (gD qs)=.ok (.int qs.length):=by simp
  have hc:=kc (f:=aA bh (ai (ag 0) (ai (bL (dE (e2 bJ (ag 0) (eC (.int 3)))) 1 [1] (aT 0) (fun _=>.ok true) (e2 dP (ag 0) (ag 1))) aE))) (ρ:=[.val (.int ps.length)]) (h:=fun q=>(wa ps.length q).d) qs fun q hq'=>by
    have h1:=mG (f:=e2 dP (ag 0) (ag 1)) (ρ:=[.val (.int ps.length)]) (h:=fun g=>g+ps.length) q.ns fun g _=>by simp only [bB,ap,aw,R.ok_bind,mB]
    have h2:=kH q (q.ns.map (·+(ps.length:Int)));rw [aJ,aC,ap,R.ok_bind,aC,bp,show az 1 [1] [.val q.d,.val (.int ps.length)]=[.non,.val (.int ps.length)] from rfl];simp only [bV,bB,ap,bK,R.ok_bind,i4,cO,cr];rw [if_pos (bI (by rw [List.length_map];have:=hl q hq';omega)),h1];simp only [gy,R.ok_bind,aL,h2];rfl
  unfold fj oh;rw [ed,show ([gD ps,gD qs].map bn.val++List.replicate (3 - [gD ps,gD qs].length) bn.non)=[.val (gD ps),.val (gD qs),.non] from rfl];rw [aR (ρ':=[.val (gD ps),.val (gD qs),.val (.int ps.length)]) (by simp only [bH,bU,ap,R.ok_bind,l1];rfl)];rw [kh,dL];simp only [cL,bB,bU,ap,aw,bK,R.ok_bind,l2,mB,iO,cU];by_cases h:ps.length+qs.length<=24
  · have hb:mO ((ps.length:Int)+qs.length) 24=false:=by simp;omega
    rw [hb,if_pos h];show (cK _ _>>=zc)=_;rw [cy,bB,ap,R.ok_bind,bU,bp,show az 1 [2] [.val (gD ps),.val (gD qs),.val (.int ps.length)]=[.non,.val (.int ps.length)] from rfl];simp only [bV,ap,aw,R.ok_bind,cO,cr];rw [if_pos (bI (by rw [List.length_map];omega)),hc];simp only [gy,R.ok_bind,iq,Ac];rw [if_pos (bI (by rw [List.length_map,List.length_map];omega)),R.ok_bind];show R.ok (PyData.tuple (ps.map P4.d++qs.map fun q=>(wa ps.length q).d))=.ok (.tuple ((ps++qs.map (wa ps.length)).map P4.d));rw [List.map_append,List.map_map];rfl
  · have hb:mO ((ps.length:Int)+qs.length) 24=true:=by simp;omega
    rw [hb,if_neg h];rfl
noncomputable def mM (ps:List P4) (i:Int):P4:=(ps[i.toNat]?).getD ⟨0,0,0,[]⟩
theorem vR {ps:List P4} {i:Int} (h0:0<=i) (h1:i < ps.length):mM ps i=ps[i.toNat]'(by omega):=by
  unfold mM;rw [List.getElem?_eq_getElem (by omega)];rfl
theorem E7 {ps:List P4} {i:Int} (h0:0<=i) (h1:i < ps.length):bJ (gD ps) (.int i)=.ok (mM ps i).d:=by rw [lI h0 h1,vR h0 h1]
theorem dI (ps:List P4) (i:Int):(mM ps i).ns=aU ps i:=by
  unfold mM aU;cases ps[i.toNat]? <;> rfl
noncomputable def B9 (js ns:List Int):List Int:=(ns.filter (df js)).map fun g=>((js.idxOf g:Nat):Int)
theorem CL {js:List Int} {g:Int} (h:g∈js):gV (.tuple (js.map .int)) (.int g)=.ok (.int (js.idxOf g:Nat)):=by
  show (match ce (js.map .int) with | some ns=>if g∈ns then R.ok (PyData.int (ns.idxOf g:Nat)) else .no | none=>.no)=_;rw [dk];exact if_pos h
theorem p9 {p:P4} {js:List Int} (hl:p.ns.length<=100):cv [p.d,.tuple (js.map .int)]=.ok (.list ((B9 js p.ns).map .int)):=by
  have hc:=j9 (s:=.tuple (p.ns.map .int)) (t:=.tuple (js.map .int)) (.inl rfl) (.inl rfl) (by omega);have hm:=mG (f:=nY (ag 1) (ag 0)) (ρ:=[.val (.tuple (js.map .int))]) (h:=fun g=>((js.idxOf g:Nat):Int)) (p.ns.filter (df js)) fun g hg=>by
    have:=bW.mp (List.mem_filter.mp hg).2;unfold nY;simp only [aw,ap,R.ok_bind,E5,CL this]
  unfold cv iJ;refine eN ?_;rw [show ([p.d,PyData.tuple (js.map .int)].map bn.val++List.replicate (2 - [p.d,PyData.tuple (js.map .int)].length) bn.non)=[.val p.d,.val (.tuple (js.map .int))] from rfl];rw [cy,bp,show az 1 [1] [.val p.d,.val (.tuple (js.map .int))]=[.non,.val (.tuple (js.map .int))] from rfl];simp only [bV,aJ,aC,aL,bB,ap,aw,bK,R.ok_bind,i4,hc,cO,cr];rw [if_pos (bI (by rw [List.length_map];exact Nat.le_trans (List.length_filter_le ..) (by omega))),hm];rfl
noncomputable def sJ (ps:List P4) (js:List Int) (i:Int):P4:=BJ (mM ps i) (B9 js (aU ps i))
noncomputable abbrev Ik:Str:=PySem.Str.ofString "NoPart"
noncomputable def pA (ps:List P4):PyData->Bool
  | .tuple ds=>(jS ps.length 0 ds&&!ds.isEmpty)&&(match ce ds with | some js=>js.all fun i=>decide (0 < (bM ps js i).length) | none=>false)
  | _=>false
theorem qI (c:Int):∀ (ds:List PyData) (l:Int),jS c l ds=true->0<=l->∃ js:List Int,ds=js.map .int/\js.Pairwise (· < ·)/\∀ x∈js,l<=x/\x < c
  | [],_,_,_=>⟨[],rfl,.nil,by simp⟩
  | d::ds,l,h,hl=>by
    cases d with
    | int i =>
      simp only [jS,Bool.and_eq_true,decide_eq_true_eq] at h;obtain ⟨⟨h1,h2⟩,h3⟩:=h;obtain ⟨js,e,p,b⟩:=qI c ds (i+1) h3 (by omega);refine ⟨i::js,by rw [e];rfl,List.pairwise_cons.mpr ⟨fun y hy=>by have:=b y hy;omega,p⟩,fun x hx=>?_⟩;rcases List.mem_cons.mp hx with rfl | z
      · exact ⟨h1,h2⟩
      · have:=b x z;omega
    | _=>cases h
theorem vS {ps:List P4} (hl:∀ p∈ps,p.ns.length<=100) (hp:ps.length<=100) {d:PyData} (hg:ig d):cY [gD ps,d]=if pA ps d=true then (match d with | .tuple ds=>.ok (gD (((ce ds).getD []).map (sJ ps ((ce ds).getD [])))) | _=>.no) else .ex Ik:=by
  have hs:=mW ps.length (d:=d) (fun ds e x hx=>((oY.mp (e ▸ hg)) x hx).noD) hg.noD;have l1:cN (gD ps)=.ok (.int ps.length):=by simp
  unfold cY l7;rw [ed,show ([gD ps,d].map bn.val++List.replicate (2 - [gD ps,d].length) bn.non)=[.val (gD ps),.val d] from rfl];rw [kh,dL];cases hsb:Ep ps.length d with
  | false =>
    rw [hsb] at hs;have hpb:pA ps d=false:=by
      cases d with
      | tuple ds =>
        have:jS ps.length 0 ds=false:=hsb;simp [pA,this]
      | _=>rfl
    simp only [sD,gR,cL,aJ,aC,aL,bU,ap,aw,R.ok_bind,l1,hs,cU];rw [hpb];rfl
  | true =>
    rw [hsb] at hs;cases d with
    | tuple ds =>
      have hr:jS ps.length 0 ds=true:=hsb;obtain ⟨js,rfl,hj1,hj2⟩:=qI ps.length ds 0 hr (by omega);have l2:cN (.tuple (js.map .int))=.ok (.int js.length):=by simp
      have hjl:js.length<=ps.length:=(cu.mk hj1 hj2:cu ps.length js).len;simp only [sD,gR,cL,aJ,aC,aL,bB,bU,bK,ap,aw,R.ok_bind,l1,l2,hs,cU,fZ,Bool.not_true,Bool.false_eq_true,if_false];cases js with
      | nil=>rfl
      | cons j0 js0 =>
        generalize hjs:j0::js0=js at *;have hne:js≠[]:=by rw [<- hjs];simp
        have hlen:¬ ((js.length:Int)=0):=by have:=List.length_pos_iff.mpr hne;omega
        rw [decide_eq_false hlen];simp only [Bool.false_eq_true,if_false,lP,R.ok_bind,uH];have hw:=kG hl (s:=.tuple (js.map .int)) (js:=js) (.inl rfl) hj2 (by omega);have hpb:pA ps (.tuple (js.map .int))=js.all fun i=>decide (0 < (bM ps js i).length):=by
          have he:(js.map PyData.int).isEmpty=false:=by cases js with | nil=>exact absurd rfl hne | cons _ _=>rfl
          simp only [pA,hr,he,dk];simp
        rw [kh,dL];simp only [gR,cL,aJ,aC,aL,ap,aw,R.ok_bind,hw,cU];rw [hpb];cases hall:js.all fun i=>decide (0 < (bM ps js i).length) with
        | false=>rfl
        | true =>
          simp only [Bool.not_true,Bool.false_eq_true,if_false,lP,R.ok_bind,uH];have hcm:bT (aT 0) (fun _=>.ok true) (aA bh (ai (e2 bJ (ag 1) (ag 0)) (ai (aA cv (ai (e2 bJ (ag 1) (ag 0)) (ai (ag 2) aE))) aE))) [.non,.val (gD ps),.val (.tuple (js.map .int))] (js.map .int)=.ok (js.map fun i=>(sJ ps js i).d):=by
            have:=gF (aA bh (ai (e2 bJ (ag 1) (ag 0)) (ai (aA cv (ai (e2 bJ (ag 1) (ag 0)) (ai (ag 2) aE))) aE))) [.non,.val (gD ps),.val (.tuple (js.map .int))] 0 (fun d=>match d with | .int i=>(sJ ps js i).d | d=>d) (js.map .int) fun d hd=>by
              obtain ⟨i,hi,rfl⟩:=List.mem_map.mp hd;obtain ⟨i0,i1⟩:=hj2 i hi;have e1':=E7 i0 i1;have e2':=p9 (p:=mM ps i) (js:=js) (by rw [vR i0 i1];exact hl _ (List.getElem_mem _));rw [dI] at e2';have e3':=kH (mM ps i) (B9 js (aU ps i));show aA bh _ [.val (.int i),.val (gD ps),.val (.tuple (js.map .int))]=_;simp only [aJ,aC,aL,bB,ap,aw,R.ok_bind,e1',e2',e3'];rfl
            rw [this,List.map_map];rfl
          rw [cy,bU,bp,show az 1 [0,1] [.val (gD ps),.val (.tuple (js.map .int))]=[.non,.val (gD ps),.val (.tuple (js.map .int))] from rfl];simp only [bV,ap,aw,R.ok_bind,cO,cr];rw [if_pos (bI (by rw [List.length_map];omega)),hcm];simp only [gy,R.ok_bind,iq,if_true,dk,Option.getD_some];show R.ok (PyData.tuple (js.map fun i=>(sJ ps js i).d))=.ok (.tuple ((js.map (sJ ps js)).map P4.d));rw [List.map_map];rfl
    | _=>cases hsb
noncomputable def fQ:Int->List Int->List (Int×Int)
  | _,[]=>[]
  | l,m::r=>(m,l+(m-l)%2)::fQ (l+(m-l)%2+1) r
noncomputable abbrev jN (ms:List Int):List Int:=eo (zD ms)
theorem AH {l:List Int} {k x:Int}:x∈step_dedup l k<->x∈l\/x=k:=by
  unfold step_dedup;by_cases h:l.any (·==k)=true
  · rw [if_pos h];refine ⟨.inl,fun z=>z.elim id fun e=>?_⟩;obtain ⟨y,hy,e2⟩:=List.any_eq_true.mp h;have:y=k:=by simpa using e2
    rw [e,<- this];exact hy
  · rw [if_neg h];simp
theorem CU {l:List Int} (h:l.Nodup) (k:Int):(step_dedup l k).Nodup:=by
  unfold step_dedup;by_cases hk:l.any (·==k)=true
  · rw [if_pos hk];exact h
  · rw [if_neg hk,List.nodup_append];refine ⟨h,by simp,fun a ha b hb e=>?_⟩;simp at hb;subst hb;subst e;exact hk (List.any_eq_true.mpr ⟨a,ha,by simp⟩)
theorem vw:∀ (ms acc:List Int),acc.Nodup->(ms.foldl step_dedup acc).Nodup/\∀ x,x∈ms.foldl step_dedup acc<->x∈acc\/x∈ms
  | [],acc,h=>⟨h,fun x=>by simp⟩
  | m::ms,acc,h=>by
    obtain ⟨h1,h2⟩:=vw ms (step_dedup acc m) (CU h m);refine ⟨h1,fun x=>?_⟩;rw [List.foldl_cons,h2,AH,List.mem_cons];constructor
    · rintro ((z | z) | z)
      · exact .inl z
      · exact .inr (.inl z)
      · exact .inr (.inr z)
    · rintro (z | z | z)
      · exact .inl (.inl z)
      · exact .inl (.inr z)
      · exact .inr z
theorem Fh {ms:List Int} {x:Int}:x∈zD ms<->x∈ms:=by
  have:=(vw ms [] .nil).2 x;unfold zD;rw [this];simp
theorem n4 {ms:List Int} {x:Int}:x∈jN ms<->x∈ms:=by rw [(eu _).mem_iff,Fh]
theorem sk (ms:List Int):(jN ms).Pairwise (· < ·):=qP (gE _) ((eu _).nodup_iff.mpr (vw ms [] .nil).1)
theorem gQ:∀ (l:Int) (L:List Int),(fQ l L).map (·.1)=L
  | _,[]=>rfl
  | l,m::r=>by rw [fQ,List.map_cons,gQ]
noncomputable def xm (ms:List Int) (m:Int):Int:=((fQ 0 (jN ms)).lookup m).getD 0
theorem yM {L:List (Int×Int)} (nd:(L.map (·.1)).Nodup):∀ {k v:Int},(k,v)∈L->L.lookup k=some v:=by
  induction L with
  | nil=>intro k v h;cases h
  | cons q r ih =>
    intro k v h;obtain ⟨a,b⟩:=q;rw [List.map_cons,List.nodup_cons] at nd;rcases List.mem_cons.mp h with e | e
    · cases e;simp
    · have hne:k≠a:=fun z=>nd.1 (List.mem_map.mpr ⟨(k,v),e,z⟩)
      have hb:(k==a)=false:=by simpa using hne
      rw [List.lookup_cons,hb];exact ih nd.2 e
theorem A6 {ms:List Int} {k v:Int} (h:(k,v)∈fQ 0 (jN ms)):xm ms k=v:=by
  unfold xm;rw [yM (by rw [gQ];exact pk (sk ms)) h];rfl
theorem uv:∀ (L:List Int) (l:Int),0<=l->L.Pairwise (· < ·)->(∀ x∈L,l<=x)->∀ k v,(k,v)∈fQ l L->0<=v/\v<=k
  | [],_,_,_,_,k,v,h=>by cases h
  | m::r,l,h0,hp,hl,k,v,h=>by
    obtain ⟨p1,p2⟩:=List.pairwise_cons.mp hp;have hm:=hl m List.mem_cons_self;have e0:=Int.emod_nonneg (m-l) (show (2:Int)≠0 by omega);have e1':(m-l)%2<=m-l:=by omega
    rcases List.mem_cons.mp h with e | e
    · cases e;omega
    · exact uv r (l+(m-l)%2+1) (by omega) p2 (fun x hx=>by have:=p1 x hx;omega) k v e
theorem Eg {ms:List Int} (h0:∀ x∈ms,0<=x) {m:Int} (hm:m∈ms):0<=xm ms m/\xm ms m<=m:=by
  have hk:m∈(fQ 0 (jN ms)).map (·.1):=by rw [gQ];exact n4.mpr hm
  obtain ⟨q,hq,e⟩:=List.mem_map.mp hk;obtain ⟨k,v⟩:=q;have e':k=m:=e;subst e';rw [A6 hq];exact uv _ 0 (by omega) (sk ms) (fun x hx=>h0 x (n4.mp hx)) k v hq
noncomputable abbrev sI (ms:List Int):Int->PyData:=fun k=>.int (xm ms k)
noncomputable def pD:Fs:=(bf (v3 1 (ag 3) (e2 dP (ag 2) (e2 gk (e2 ip (ag 3) (ag 2)) (eC (.int 2))))) (cf 2 (e2 dP (e2 bJ (gr 1) (ag 3)) (eC (.int 1)))))
theorem xn {ms:List Int} {a:PyData}:∀ (L acc:List Int) (l:Int) (c:bn),(∀ k v,(k,v)∈fQ l L->xm ms k=v)->L.Nodup->(∀ x∈L,x∉acc)->acc.length+L.length<=1000 ->
    ∃ l' c',gM (aT 3) pD (L.map .int) [.val a,.own (.dict (iD (sI ms) acc)),.val (.int l),c]=.ok (.nx [.val a,.own (.dict (iD (sI ms) (acc++L))),.val (.int l'),c'])
  | [],acc,l,c,_,_,_,_=>⟨l,c,by rw [List.map_nil,fD,List.append_nil]⟩
  | m::r,acc,l,c,hv,nd,hn,hl=>by
    obtain ⟨nd1,nd2⟩:=List.nodup_cons.mp nd;have e0:=hv m (l+(m-l)%2) List.mem_cons_self;rw [List.length_cons] at hl;obtain ⟨l',c',e⟩:=xn (a:=a) r (acc++[m]) (l+(m-l)%2+1) (.val (.int m)) (fun k v h=>hv k v (List.mem_cons_of_mem _ h)) nd2 (fun x hx z=>by
      rcases List.mem_append.mp z with y | y
      · exact hn x (List.mem_cons_of_mem _ hx) y
      · simp at y;subst y;exact nd1 hx) (by simp;omega)
    refine ⟨l',c',?_⟩;rw [List.append_assoc] at e;rw [List.map_cons,dC,show acc++m::r=acc++([m]++r) from rfl,<- e];show (pD [.val a,.own (.dict (iD (sI ms) acc)),.val (.int l),.val (.int m)]>>=_)=_;have hz:(iD (sI ms) acc).length < sizeLine:=Nat.lt_of_lt_of_le (show _ < 1001 by unfold iD;rw [List.length_map];omega) (by decide);have hput:=FM (f:=sI ms) (qs:=acc) (j:=m) (hn m List.mem_cons_self);have hix:=D9 (f:=sI ms) (qs:=acc++[m]) (j:=m) (by simp);have hb:pD [.val a,.own (.dict (iD (sI ms) acc)),.val (.int l),.val (.int m)]=.ok (.nx [.val a,.own (.dict (iD (sI ms) (acc++[m]))),.val (.int (l+(m-l)%2+1)),.val (.int m)]):=by
      unfold pD;rw [aR (ρ':=[.val a,.own (.dict (iD (sI ms) (acc++[m]))),.val (.int l),.val (.int m)]) (by
        unfold v3;simp -implicitDefEqProofs only [bB,ap,aw,bK,R.ok_bind,mC,Ae,if_pos (show (0:Int) < 2 by omega),mB,cr];show (match gt (.int m) with | some _=>if (iD (sI ms) acc).length < sizeLine then R.ok (uL.nx _) else .no | none=>.no)=_;rw [show gt (.int m)=some (.inl m) from rfl];dsimp only;rw [if_pos hz,<- e0];rw [hput];rfl)]
      simp only [bH,bB,rT,rS,aw,ap,bK,R.ok_bind,hix,mB];rw [e0];rfl
    rw [hb,R.ok_bind,eU]
theorem Jy {ms:List Int} (h:ms.length < 64):Gi (.list (ms.map .int))=.ok (.list ((jN ms).map .int)):=by
  show (match ce (ms.map .int) with | some ns=>if ns.length < 64 then R.ok (PyData.list ((eo (zD ns)).map PyData.int)) else .no | none=>.no)=_;rw [dk];exact if_pos h
theorem mS {ms:List Int} (h:ms.length < 64):cj [.list (ms.map .int)]=.ok (.dict (iD (sI ms) (jN ms))):=by
  have hol:(jN ms).length<=63:=by
    have:=Ag ms;rw [kq];omega
  obtain ⟨l',c',e⟩:=xn (ms:=ms) (a:=.list (ms.map .int)) (jN ms) [] 0 .non (fun k v=>A6) (pk (sk ms)) (by simp) (by simp;omega);unfold cj gg;refine eN ?_;rw [show ([PyData.list (ms.map .int)].map bn.val++List.replicate (4 - [PyData.list (ms.map .int)].length) bn.non)=[.val (.list (ms.map .int)),.non,.non,.non] from rfl];rw [aR (ρ':=[.val (.list (ms.map .int)),.own (.dict []),.non,.non]) (by rfl)];rw [aR (ρ':=[.val (.list (ms.map .int)),.own (.dict []),.val (.int 0),.non]) (by rfl)];rw [aR (ρ':=[.val (.list (ms.map .int)),.own (.dict (iD (sI ms) ([]++jN ms))),.val (.int l'),c']) (by
    rw [gA,gz,bV,bU,ap,R.ok_bind,Jy h,R.ok_bind,sA,R.ok_bind];unfold pD at e;rw [show iD (sI ms) []=[] from rfl] at e;rw [e];rfl)]
  rfl
noncomputable def Dr (ms:List Int) (p:P4):P4:=⟨p.w,xm ms p.m,p.g,p.ns⟩
theorem vU {ps:List P4} (hp:ps.length < 64):ez [gD ps]=.ok (gD (ps.map (Dr (cx ps)))):=by
  have s4:4<=sizeLine:=by decide
  have h1:=nv (ps:=ps) (by omega);have h2:=mS (ms:=cx ps) (by rw [List.length_map];exact hp);have hc:=kc (f:=jI (ai (e2 bJ (ag 0) (eC (.int 0))) (ai (e2 bJ (ag 1) (e2 bJ (ag 0) (eC (.int 1)))) (ai (e2 bJ (ag 0) (eC (.int 2))) (ai (e2 bJ (ag 0) (eC (.int 3))) aE))))) (ρ:=[.val (.dict (iD (sI (cx ps)) (jN (cx ps))))]) (h:=fun p=>(Dr (cx ps) p).d) ps fun q hq=>by
    have hix:=D9 (f:=sI (cx ps)) (qs:=jN (cx ps)) (j:=q.m) (n4.mpr (List.mem_map.mpr ⟨q,hq,rfl⟩));simp only [gW,aC,aL,bB,ap,aw,bK,R.ok_bind,jO,k9,ss,i4,hix,List.length_cons,List.length_nil,Nat.zero_add,Nat.reduceAdd,if_pos s4];rfl
  unfold ez l8;refine eN ?_;rw [show ([gD ps].map bn.val++List.replicate (2 - [gD ps].length) bn.non)=[.val (gD ps),.non] from rfl];rw [aR (ρ':=[.val (gD ps),.val (.dict (iD (sI (cx ps)) (jN (cx ps))))]) (by
    simp only [bH,aJ,aC,aL,ap,R.ok_bind,h1,h2];rfl)]
  rw [cy,bU,bp,show az 1 [1] [.val (gD ps),.val (.dict (iD (sI (cx ps)) (jN (cx ps))))]=[.non,.val (.dict (iD (sI (cx ps)) (jN (cx ps))))] from rfl];simp only [bV,ap,R.ok_bind,cO,cr];rw [if_pos (bI (by rw [List.length_map];omega)),hc];show R.ok (uL.rt (PyData.tuple (ps.map fun p=>(Dr (cx ps) p).d)))=.ok (.rt (.tuple ((ps.map (Dr (cx ps))).map P4.d)));rw [List.map_map];rfl
noncomputable def E6 (nx:Int->Int) (s:Int):Nat->Int
  | 0=>s
  | k+1=>nx (E6 nx s k)
theorem G9 {n:Nat} {S:Int->Prop} {nx:Int->Int} (hS:∀ x,S x->x∈ids n) (hn:∀ x,S x->S (nx x)) {s:Int} (hs:S s):∃ x,S x/\jk (fun a b=>b=nx a) S x x:=by
  have all:∀ k,S (E6 nx s k):=fun k=>by
    induction k with
    | zero=>exact hs
    | succ k ih=>exact hn _ ih
  have path:∀ p d,jk (fun a b=>b=nx a) S (E6 nx s p) (E6 nx s (p+d+1)):=fun p d=>by
    induction d with
    | zero=>exact .one rfl (all (p+1))
    | succ d ih=>exact .more ih rfl (all (p+d+1+1))
  by_cases h:∃ p q,p < q/\q<=n/\E6 nx s p=E6 nx s q
  · obtain ⟨p,q,hpq,_,e⟩:=h;have:=path p (q-p-1);rw [show p+(q-p-1)+1=q by omega,<- e] at this;exact ⟨_,all p,this⟩
  · exfalso;have nd:((List.range (n+1)).map (E6 nx s)).Nodup:=by
      unfold List.Nodup;rw [List.pairwise_map];exact List.Pairwise.imp_of_mem (fun {a b} _ hb hab e=>h ⟨a,b,hab,by have:=List.mem_range.mp hb;omega,e⟩) List.pairwise_lt_range
    have:=kb nd (m:=ids n) fun x hx=>by
      obtain ⟨k,_,rfl⟩:=List.mem_map.mp hx;exact hS _ (all k)
    rw [List.length_map,List.length_range,rZ] at this;omega
theorem jk.trans {E:Int->Int->Prop} {al:Int->Prop} {s x t:Int} (h1:jk E al s x) (h2:jk E al x t):jk E al s t:=by
  induction h2 with
  | one a b=>exact .more h1 a b
  | more _ a b ih=>exact .more ih a b
theorem jk.le {E:Int->Int->Prop} {al:Int->Prop} {s t:Int} {ψ:Int->Int} (h:jk E al s t) (h1:∀ a b,(a=s\/al a)->E a b->al b->ψ b<=ψ a):ψ t<=ψ s:=by
  induction h with
  | one a b=>exact h1 _ _ (.inl rfl) a b
  | more r a b ih =>
    have:=h1 _ _ (.inr r.al) a b;omega
theorem CV {E:Int->Int->Prop} {al:Int->Prop} {gs:List Int} {s t:Int} (h:jk (fun a b=>E a b/\a∉gs) al s t) (ht:t∉gs):jk E (fun x=>al x/\x∉gs) s t:=by
  induction h with
  | one a b=>exact .one a.1 ⟨b,ht⟩
  | more r a b ih=>exact .more (ih a.2) a.1 ⟨b,ht⟩
theorem Dw {E:Int->Int->Prop} {al:Int->Prop} {gs:List Int} {s t:Int} (h:jk (fun a b=>E a b/\a∉gs) al s t):s∉gs:=by
  induction h with
  | one a b=>exact a.2
  | more _ _ _ ih=>exact ih
theorem GM {E:Int->Int->Prop} {al:Int->Prop} (gs:List Int) {s t:Int} (h:jk E al s t):jk (fun a b=>E a b/\a∉gs) al s t\/∃ g,g∈gs/\(g=s\/jk E al s g)/\jk E al g t:=by
  induction h with
  | one a b =>
    by_cases z:s∈gs
    · exact .inr ⟨s,z,.inl rfl,.one a b⟩
    · exact .inl (.one ⟨a,z⟩ b)
  | more r a b ih =>
    rename_i x y;rcases ih with z | ⟨g,g1,g2,g3⟩
    · by_cases y1:x∈gs
      · exact .inr ⟨x,y1,.inr r,.one a b⟩
      · exact .inl (.more z ⟨a,y1⟩ b)
    · exact .inr ⟨g,g1,g2,.more g3 a b⟩
theorem uA {E:Int->Int->Prop} {S:Int->Prop} {mk:Int->Int} (h0:∀ x,S x->0<=mk x) {n:Nat} (hS:∀ x,S x->x∈ids n):∀ (m:Nat) (x:Int),S x->jk E (fun y=>S y/\mk y < m) x x->∃ y,S y/\jk E (fun z=>S z/\mk z<=mk y) y y
  | 0,x,hx,hp=>by
    have a:=hp.al.2;have b:=h0 x hx;omega
  | m+1,x,hx,hp=>by
    rcases GM ((ids n).filter fun z=>decide (mk z=m)) hp with z | ⟨g,g1,g2,g3⟩
    · have hxn:=Dw z;have q:=CV z hxn;refine uA h0 hS m x hx (q.imp (fun y e a=>⟨e,a.1.1,?_⟩) fun u y _ e a=>⟨e,a.1.1,?_⟩) <;>
      · have b:=a.1.2;have c:mk y≠m:=fun k=>a.2 (List.mem_filter.mpr ⟨hS y a.1.1,decide_eq_true k⟩)
        omega
    · have hg:mk g=m:=of_decide_eq_true (List.mem_filter.mp g1).2;have cyc:jk E (fun y=>S y/\mk y < ((m+1:Nat):Int)) g g:=g2.elim (fun z=>by rw [<- z] at g3;exact g3) fun z=>g3.trans z
      refine ⟨g,cyc.al.1,cyc.imp (fun y e a=>⟨e,a.1,?_⟩) fun u y _ e a=>⟨e,a.1,?_⟩⟩ <;>
      · have:=a.2;omega
theorem Dv {E E':Int->Int->Prop} {al al':Int->Prop} {f:Int->Int} {s t:Int} (h:jk E al s t) (h1:∀ y,E s y->al y->E' (f s) (f y)/\al' (f y)) (h2:∀ x y,al x->E x y->al y->E' (f x) (f y)/\al' (f y)):jk E' al' (f s) (f t):=by
  induction h with
  | one a b=>exact .one (h1 _ a b).1 (h1 _ a b).2
  | more r a b ih=>exact .more ih (h2 _ _ r.al a b).1 (h2 _ _ r.al a b).2
theorem kr {ps qs:List P4} {winA winB:Int->Int} {mvA mvB:Int->Option Int} (A:kQ ps (ids ps.length) winA mvA) (B:kQ qs (ids qs.length) winB mvB) {f:Int->Int} {w v:Int} (hw:w=0\/w=1)
    (hf:∀ j∈ids qs.length,f j∈ids ps.length) (o2:∀ i∈ids ps.length,ay ps i=0\/ay ps i=1) (hown:∀ j∈ids qs.length,ay qs j=v<->ay ps (f j)=w)
    (hgo:∀ j∈ids qs.length,∀ g∈aU qs j,g∈ids qs.length/\f g∈aU ps (f j))
    (hback:∀ j∈ids qs.length,winA (f j)=1-w->ay ps (f j)=1-w->∀ h,mvA (f j)=some h->∃ g∈aU qs j,f g=h)
    (hmk:∀ j∈ids qs.length,∀ k∈ids qs.length,aH qs j<=aH qs k->aH ps (f j)<=aH ps (f k)) (hpar:∀ j∈ids qs.length,aH qs j%2=v->aH ps (f j)%2=w) (hm:∀ j∈ids qs.length,0<=aH qs j/\aH qs j < 13) :
    ∀ j∈ids qs.length,winB j=v->winA (f j)=w:=fun i hi hwi=>by
  by_cases he:winA (f i)=w
  · exact he
  exfalso;have hne:winA (f i)=1-w:=by have:=A.two _ (hf i hi);omega
  have step:∀ x,x∈ids qs.length/\winB x=v/\winA (f x)=1-w->∃ g,Wy qs (ids qs.length) v mvB x g/\Wy ps (ids ps.length) (1-w) mvA (f x) (f g):=fun x ⟨hx,h1,h2⟩=>by
    have ho:=o2 _ (hf x hx);by_cases z:ay ps (f x)=w
    · have z2:=(hown x hx).mpr z;obtain ⟨g,g1,g2⟩:=B.has x hx (z2.trans h1.symm);obtain ⟨g3,g4⟩:=hgo x hx g g2;exact ⟨g,.inl ⟨z2,g1⟩,.inr ⟨by omega,fU g4 (hf g g3)⟩⟩
    · have z2:ay ps (f x)=1-w:=by omega
      obtain ⟨h,e1',e2'⟩:=A.has (f x) (hf x hx) (z2.trans h2.symm);obtain ⟨g,g1,g2⟩:=hback x hx h2 z2 h e1';exact ⟨g,.inr ⟨fun y=>z ((hown x hx).mp y),fU g1 (hgo x hx g g1).1⟩,.inl ⟨z2,by rw [g2];exact e1'⟩⟩
  obtain ⟨nx,hnx⟩:∃ nx:Int->Int,∀ x,x∈ids qs.length/\winB x=v/\winA (f x)=1-w->Wy qs (ids qs.length) v mvB x (nx x)/\Wy ps (ids ps.length) (1-w) mvA (f x) (f (nx x)) :=
    ⟨fun x=>if h:x∈ids qs.length/\winB x=v/\winA (f x)=1-w then (step x h).choose else 0,fun x h=>by
      dsimp only;rw [dif_pos h];exact (step x h).choose_spec⟩
  have stay:∀ x,x∈ids qs.length/\winB x=v/\winA (f x)=1-w->nx x∈ids qs.length/\winB (nx x)=v/\winA (f (nx x))=1-w:=fun x h=>by
    obtain ⟨a,b⟩:=hnx x h;obtain ⟨s1,s2⟩:=B.stay x h.1 (nx x) (by rw [h.2.1];exact a);obtain ⟨_,s4⟩:=A.stay (f x) (hf x h.1) (f (nx x)) (by rw [h.2.2];exact b);exact ⟨s1,s2.trans h.2.1,s4.trans h.2.2⟩
  obtain ⟨x,hx,hp⟩:=G9 (n:=qs.length) (S:=fun x=>x∈ids qs.length/\winB x=v/\winA (f x)=1-w) (nx:=nx) (fun x h=>h.1) stay ⟨hi,hwi,hne⟩;obtain ⟨y,hy,hq⟩:=uA (mk:=aH qs) (n:=qs.length) (fun x h=>(hm x h.1).1) (fun x h=>h.1) 13 x hx (hp.imp (fun y e a=>⟨e,a,(hm y a.1).2⟩) fun u y _ e a=>⟨e,a,(hm y a.1).2⟩);by_cases z:aH qs y%2=v
  · have z2:=hpar y hy.1 z;refine A.good (f y) (hf y hy.1) (by rw [hy.2.2,z2];omega) ?_;rw [hy.2.2];exact Dv hq (fun u e a=>⟨by subst e;exact (hnx y hy).2,hf u a.1.1,a.1.2.2,hmk u a.1.1 y hy.1 a.2⟩) fun u t au e a=>⟨by subst e;exact (hnx u au.1).2,hf t a.1.1,a.1.2.2,hmk t a.1.1 y hy.1 a.2⟩
  · refine B.good y hy.1 (by rw [hy.2.1];exact z) ?_;rw [hy.2.1];exact hq.imp (fun u e a=>⟨by subst e;exact (hnx y hy).1,a.1.1,a.1.2.1,a.2⟩) fun u t au e a=>⟨by subst e;exact (hnx u au.1).1,a.1.1,a.1.2.1,a.2⟩
theorem iZ (ps:List P4) (i:Int):ay ps i=(mM ps i).w:=by
  unfold mM;show ((ps[i.toNat]?).map (·.w)).getD 0=_;cases ps[i.toNat]? <;> rfl
theorem bX (ps:List P4) (i:Int):aH ps i=(mM ps i).m:=by
  unfold mM;show ((ps[i.toNat]?).map (·.m)).getD 0=_;cases ps[i.toNat]? <;> rfl
theorem jF {ps:List P4} {i:Int} (h:i∈ids ps.length):mM ps i∈ps:=by
  obtain ⟨h0,h1⟩:=bC.mp h;rw [vR h0 h1];exact List.getElem_mem _
theorem jG {h:P4->P4} {ps:List P4} {i:Int} (hi:i∈ids ps.length):mM (ps.map h) i=h (mM ps i):=by
  obtain ⟨h0,h1⟩:=bC.mp hi;unfold mM;rw [List.getElem?_map,List.getElem?_eq_getElem (by omega)];rfl
theorem j8 {ps qs:List P4} {i:Int} (hi:i∈ids ps.length):mM (ps++qs) i=mM ps i:=by
  obtain ⟨h0,h1⟩:=bC.mp hi;unfold mM;rw [List.getElem?_append_left (by omega)]
theorem Ca {ps qs:List P4} {i:Int} (hi:0<=i):mM (ps++qs) (i+ps.length)=mM qs i:=by
  unfold mM;rw [Int.toNat_add_nat hi,List.getElem?_append_right (Nat.le_add_left _ _),Nat.add_sub_cancel]
noncomputable abbrev vk (ks:List Int) (k:Int):Int:=(ks[k.toNat]?).getD 0
theorem oF {h:Int->P4} {js:List Int} {j:Int} (hj:j∈ids js.length):mM (js.map h) j=h (vk js j):=by
  obtain ⟨h0,h1⟩:=bC.mp hj;unfold mM vk;rw [List.getElem?_map,List.getElem?_eq_getElem (by omega)];rfl
theorem nV {js:List Int} {j:Int} (hj:j∈ids js.length):vk js j∈js:=by
  obtain ⟨h0,h1⟩:=bC.mp hj;unfold vk;rw [List.getElem?_eq_getElem (by omega)];exact List.getElem_mem _
theorem GA {ks ns:List Int} (hk:ks.Pairwise (· < ·)) (hn:ns.Pairwise (· < ·)):(B9 ks ns).Pairwise (· < ·):=by
  unfold B9;refine List.pairwise_map.mpr (List.Pairwise.imp_of_mem (fun {g g'} hg hg' hlt=>?_) (hn.filter (df ks)));have i1:=List.idxOf_lt_length_of_mem (bW.mp (List.mem_filter.mp hg).2);have i2:=List.idxOf_lt_length_of_mem (bW.mp (List.mem_filter.mp hg').2);have f1:=List.getElem_idxOf i1;have f2:=List.getElem_idxOf i2;rcases Nat.lt_trichotomy (ks.idxOf g) (ks.idxOf g') with z | z | z
  · exact Int.ofNat_lt.mpr z
  · have t:ks[ks.idxOf g]?=ks[ks.idxOf g']?:=by rw [z]
    rw [List.getElem?_eq_getElem i1,List.getElem?_eq_getElem i2,f1,f2] at t;cases t;omega
  · have t:=List.pairwise_iff_getElem.mp hk _ _ i2 i1 z;rw [f1,f2] at t;omega
theorem D1 {ks ns:List Int} {x:Int} (h:x∈B9 ks ns):x∈ids ks.length/\vk ks x∈ns:=by
  unfold B9 at h;obtain ⟨g,hg,rfl⟩:=List.mem_map.mp h;obtain ⟨h1,h2⟩:=List.mem_filter.mp hg;have i1:=List.idxOf_lt_length_of_mem (bW.mp h2);refine ⟨bC.mpr ⟨by omega,by omega⟩,?_⟩;unfold vk;rw [Int.toNat_natCast,List.getElem?_eq_getElem i1,Option.getD_some,List.getElem_idxOf i1];exact h1
theorem D3 {ks ns:List Int} {g:Int} (h1:g∈ns) (h2:g∈ks):∃ x∈B9 ks ns,vk ks x=g:=by
  have i1:=List.idxOf_lt_length_of_mem h2;refine ⟨(ks.idxOf g:Nat),List.mem_map.mpr ⟨g,List.mem_filter.mpr ⟨h1,bW.mpr h2⟩,rfl⟩,?_⟩;unfold vk;rw [Int.toNat_natCast,List.getElem?_eq_getElem i1,Option.getD_some,List.getElem_idxOf i1]
theorem GT {c hi:Int} {p:P4} (h:Pl c hi p) (hm:p.m+1<=12):Pl c 12 (Am p):=⟨by show 0<=1-p.w;have:=h.w1;omega,by show 1-p.w<=1;have:=h.w0;omega,by show 0<=p.m+1;have:=h.m0;omega,hm,by show -20<=-p.g;have:=h.g1;omega,by show -p.g<=20;have:=h.g0;omega,h.ne,h.so,h.inn⟩
theorem HF {c n hi m:Int} {q:P4} (h:Pl n hi q) (h12:hi<=12) (hm:0<=m) (hc:m+n<=c):Pl c 12 (wa m q) :=
  ⟨h.w0,h.w1,h.m0,by have:=h.m1;show q.m<=12;omega,h.g0,h.g1,by show q.ns.map (·+m)≠[];simpa using h.ne,List.pairwise_map.mpr (h.so.imp fun z=>by omega),fun x hx=>by
    obtain ⟨g,hg,rfl⟩:=List.mem_map.mp hx;have:=h.inn g hg;exact ⟨by omega,by omega⟩⟩
theorem BF {c c' hi:Int} {p:P4} (h:Pl c hi p) (h2:c<=c') (h12:hi<=12):Pl c' 12 p:=⟨h.w0,h.w1,h.m0,by have:=h.m1;omega,h.g0,h.g1,h.ne,h.so,fun x hx=>by have:=h.inn x hx;omega⟩
noncomputable def BU (p:P4):P4:=⟨p.w,if p.m < 11 then p.m else 11,p.g,p.ns⟩
theorem Ha {c hi:Int} {p:P4} (h:Pl c hi p):Pl c 12 (BU p):=⟨h.w0,h.w1,by show 0<=if p.m < 11 then p.m else 11;have:=h.m0;split <;> omega,by show (if p.m < 11 then p.m else 11)<=12;split <;> omega,h.g0,h.g1,h.ne,h.so,h.inn⟩
theorem Ho {c hi:Int} {p:P4} {ps:List P4} (h:Pl c hi p) (h12:hi<=12) (hp:p∈ps) (h0:∀ x∈cx ps,0<=x):Pl c 12 (Dr (cx ps) p):=by
  have:=Eg h0 (m:=p.m) (List.mem_map.mpr ⟨p,hp,rfl⟩);exact ⟨h.w0,h.w1,this.1,by have:=h.m1;show xm (cx ps) p.m<=12;omega,h.g0,h.g1,h.ne,h.so,h.inn⟩
theorem Eh {hi i:Int} {ps:List P4} {ks:List Int} (hpl:∀ p∈ps,Pl ps.length hi p) (h12:hi<=12) (hi':i∈ids ps.length) (hk:ks.Pairwise (· < ·)) (hw:∃ g∈aU ps i,g∈ks):Pl ks.length 12 (sJ ps ks i):=by
  have h:=hpl _ (jF hi');refine ⟨h.w0,h.w1,h.m0,by have:=h.m1;show (mM ps i).m<=12;omega,h.g0,h.g1,fun z=>?_,GA hk (by rw [<- dI];exact h.so),fun x hx=>bC.mp (D1 hx).1⟩;obtain ⟨g,h1,h2⟩:=hw;obtain ⟨x,hx,_⟩:=D3 h1 h2;rw [show B9 ks (aU ps i)=[] from z] at hx;cases hx
section
variable {ps:List P4} (hpl:∀ p∈ps,Pl ps.length 12 p)
include hpl
theorem yW {i:Int} (hi:i∈ids ps.length):ay ps i=0\/ay ps i=1:=by
  have h:=hpl _ (jF hi);rw [iZ];have:=h.w0;have:=h.w1;omega
theorem sg {i:Int} (hi:i∈ids ps.length):0<=aH ps i/\aH ps i < 13:=by
  have h:=hpl _ (jF hi);rw [bX];have:=h.m0;have:=h.m1;omega
theorem lH {i g:Int} (hi:i∈ids ps.length) (hg:g∈aU ps i):g∈ids ps.length:=by
  have h:=hpl _ (jF hi);rw [<- dI] at hg;exact bC.mpr (h.inn g hg)
theorem nC (h24:(ps.length:Int)<=24) (c:Addr):∃ win mv,fq c [gD ps]=.ok (.tuple [oT (fun i=>some (win i)) ps.length,oT mv ps.length])/\kQ ps (ids ps.length) win mv:=by
  have G:=D8 hpl h24;obtain ⟨win,mv,e,I,_⟩:=Gc G (qT G) (c:=c) fun i hi=>⟨yW hpl hi,sg hpl hi⟩
  exact ⟨win,mv,e,I⟩
theorem w8 {h:P4->P4} {winA winB:Int->Int} {mvA mvB:Int->Option Int} (A:kQ ps (ids ps.length) winA mvA) (B:kQ (ps.map h) (ids (ps.map h).length) winB mvB) {w v:Int} (hw:w=0\/w=1) (hns:∀ p,(h p).ns=p.ns) (how:∀ p∈ps,(h p).w=v<->p.w=w)
    (hmk:∀ p∈ps,∀ q∈ps,(h p).m<=(h q).m->p.m<=q.m) (hpar:∀ p∈ps,(h p).m%2=v->p.m%2=w) (hm:∀ p∈ps,0<=(h p).m/\(h p).m < 13):∀ i∈ids ps.length,winB i=v->winA i=w:=by
  have hl:(ps.map h).length=ps.length:=List.length_map ..;have key:=kr A B (f:=fun j=>j) (w:=w) (v:=v) hw;rw [hl] at key;refine key (fun j hj=>hj) (fun i hi=>yW hpl hi) (fun j hj=>?_) (fun j hj g hg=>?_) (fun j hj h1 h2 g hg=>?_) (fun j hj k hk=>?_) (fun j hj=>?_) fun j hj=>?_
  · rw [iZ,iZ,jG hj];exact how _ (jF hj)
  · rw [<- dI,jG hj,hns,dI] at hg;exact ⟨lH hpl hj hg,hg⟩
  · obtain ⟨g',e1',e2'⟩:=A.has j hj (h2.trans h1.symm);rw [show mvA j=some g from hg] at e1';cases e1';refine ⟨g,?_,rfl⟩;rw [<- dI,jG hj,hns,dI];exact e2'
  · rw [bX,bX,bX,bX,jG hj,jG hk];exact hmk _ (jF hj) _ (jF hk)
  · rw [bX,bX,jG hj];exact hpar _ (jF hj)
  · rw [bX,jG hj];exact hm _ (jF hj)
theorem E0 {winA winB:Int->Int} {mvA mvB:Int->Option Int} (h11:∀ p∈ps,p.m<=11) (A:kQ ps (ids ps.length) winA mvA) (B:kQ (ps.map Am) (ids (ps.map Am).length) winB mvB):∀ i∈ids ps.length,winB i=1-winA i:=fun i hi=>by
  have v2:=B.two i (by rw [List.length_map];exact hi);have:=w8 hpl A B (w:=1-winB i) (v:=winB i) (by omega) (fun p=>rfl) (fun p _=>by show 1-p.w=_<->_;omega) (fun p _ q _=>by show p.m+1<=q.m+1->_;omega) (fun p _=>by show (p.m+1)%2=_->_;omega) (fun p hp=>by
    have a:=(hpl p hp).m0;have b:=h11 p hp;show 0<=p.m+1/\p.m+1 < 13;omega) i hi rfl
  omega
end
theorem mQ:∀ (L:List Int) (l:Int),∀ k v,(k,v)∈fQ l L->l<=v/\v%2=k%2
  | [],_,_,_,h=>by cases h
  | m::r,l,k,v,h=>by
    rcases List.mem_cons.mp h with e | e
    · cases e;omega
    · have:=mQ r _ k v e;omega
theorem uw:∀ (L:List Int) (l:Int),L.Pairwise (· < ·)->∀ k v k' v',(k,v)∈fQ l L->(k',v')∈fQ l L->k < k'->v < v'
  | [],_,_,_,_,_,_,h,_,_=>by cases h
  | m::r,l,hp,k,v,k',v',h,h',hk=>by
    obtain ⟨p1,p2⟩:=List.pairwise_cons.mp hp;rcases List.mem_cons.mp h with e | e
    · rcases List.mem_cons.mp h' with e' | e'
      · cases e;cases e';omega
      · cases e;have:=(mQ r _ k' v' e').1;omega
    · rcases List.mem_cons.mp h' with e' | e'
      · cases e';have hr:k∈r:=by
          rw [<- gQ (l+(m-l)%2+1) r];exact List.mem_map.mpr ⟨(k,v),e,rfl⟩
        have:=p1 k hr;omega
      · exact uw r _ p2 k v k' v' e e' hk
theorem A5 {ms:List Int} {m:Int} (hm:m∈ms):(m,xm ms m)∈fQ 0 (jN ms):=by
  have hk:m∈(fQ 0 (jN ms)).map (·.1):=by rw [gQ];exact n4.mpr hm
  obtain ⟨⟨k,v⟩,hq,e⟩:=List.mem_map.mp hk;have e':k=m:=e;subst e';rw [A6 hq];exact hq
section
variable {ps:List P4} (hpl:∀ p∈ps,Pl ps.length 12 p)
include hpl
theorem FG {winA winB:Int->Int} {mvA mvB:Int->Option Int} (A:kQ ps (ids ps.length) winA mvA) (B:kQ (ps.map (Dr (cx ps))) (ids (ps.map (Dr (cx ps))).length) winB mvB):∀ i∈ids ps.length,winB i=winA i:=fun i hi=>by
  have v2:=B.two i (by rw [List.length_map];exact hi);have im:∀ {p},p∈ps->p.m∈cx ps:=fun hp=>List.mem_map.mpr ⟨_,hp,rfl⟩
  have h0:∀ x∈cx ps,0<=x:=fun x hx=>by
    obtain ⟨p,hp,rfl⟩:=List.mem_map.mp hx;exact (hpl p hp).m0
  refine (w8 hpl A B (w:=winB i) (v:=winB i) v2 (fun p=>rfl) (fun p _=>Iff.rfl) (fun p hp q hq=>?_) (fun p hp=>?_) (fun p hp=>?_) i hi rfl).symm
  · show xm _ p.m<=xm _ q.m->_;intro hle;by_cases z:q.m < p.m
    · have:=uw _ 0 (sk _) _ _ _ _ (A5 (im hq)) (A5 (im hp)) z;omega
    · omega
  · show xm _ p.m%2=_->_;have:=(mQ _ 0 _ _ (A5 (im hp))).2;omega
  · have a:=Eg h0 (im hp);have b:=(hpl p hp).m1;show 0<=xm _ p.m/\xm _ p.m < 13;omega
theorem Cd {qs:List P4} (hp2:∀ p∈ps++qs,Pl (ps++qs).length 12 p) {winA winB:Int->Int} {mvA mvB:Int->Option Int} (A:kQ (ps++qs) (ids (ps++qs).length) winA mvA) (B:kQ ps (ids ps.length) winB mvB):∀ i∈ids ps.length,winA i=winB i:=fun i hi=>by
  refine kr A B (f:=fun j=>j) (w:=winB i) (v:=winB i) (B.two i hi) (fun j hj=>?_) (fun i hi=>yW hp2 hi) (fun j hj=>?_) (fun j hj g hg=>?_) (fun j hj h1 h2 g hg=>?_) (fun j hj k hk=>?_) (fun j hj=>?_) (fun j hj=>sg hpl hj) i hi rfl
  · obtain ⟨h0,h1⟩:=bC.mp hj;refine bC.mpr ⟨h0,?_⟩;rw [List.length_append];omega
  · rw [iZ,iZ,j8 hj]
  · refine ⟨lH hpl hj hg,?_⟩;rw [<- dI,j8 hj,dI];exact hg
  · obtain ⟨h0,h3⟩:=bC.mp hj;obtain ⟨g',e1',e2'⟩:=A.has j (bC.mpr ⟨h0,by rw [List.length_append];omega⟩) (h2.trans h1.symm);rw [show mvA j=some g from hg] at e1';cases e1';refine ⟨g,?_,rfl⟩;rw [<- dI,j8 hj,dI] at e2';exact e2'
  · rw [bX ps,bX ps,bX,bX,j8 hj,j8 hk];exact id
  · rw [bX ps,bX,j8 hj];exact id
theorem Cf {qs:List P4} (hql:∀ p∈qs,Pl qs.length 12 p) (hp2:∀ p∈ps++qs.map (wa ps.length),Pl (ps++qs.map (wa ps.length)).length 12 p) {winA winB:Int->Int} {mvA mvB:Int->Option Int} (A:kQ (ps++qs.map (wa ps.length)) (ids (ps++qs.map (wa ps.length)).length) winA mvA) (B:kQ qs (ids qs.length) winB mvB):∀ i∈ids qs.length,winA (i+ps.length)=winB i:=fun i hi=>by
  have hat:∀ {j},j∈ids qs.length->mM (ps++qs.map (wa ps.length)) (j+ps.length)=wa ps.length (mM qs j):=fun {j} hj=>by
    rw [Ca (bC.mp hj).1,jG hj]
  have hin:∀ {j},j∈ids qs.length->j+ps.length∈ids (ps++qs.map (wa ps.length)).length:=fun {j} hj=>by
    obtain ⟨h0,h1⟩:=bC.mp hj;refine bC.mpr ⟨by omega,?_⟩;rw [List.length_append,List.length_map];omega
  refine kr A B (f:=fun j=>j+ps.length) (w:=winB i) (v:=winB i) (B.two i hi) (fun j hj=>hin hj) (fun i hi=>yW hp2 hi) (fun j hj=>?_) (fun j hj g hg=>?_) (fun j hj h1 h2 g hg=>?_) (fun j hj k hk=>?_) (fun j hj=>?_) (fun j hj=>sg hql hj) i hi rfl
  · rw [iZ,iZ,hat hj];rfl
  · refine ⟨lH hql hj hg,?_⟩;rw [<- dI,hat hj];rw [<- dI] at hg;exact List.mem_map.mpr ⟨g,hg,rfl⟩
  · obtain ⟨g',e1',e2'⟩:=A.has _ (hin hj) (h2.trans h1.symm);rw [show mvA (j+ps.length)=some g from hg] at e1';cases e1';rw [<- dI,hat hj] at e2';obtain ⟨k,hk,e⟩:=List.mem_map.mp e2';refine ⟨k,?_,e⟩;rw [<- dI];exact hk
  · rw [bX qs,bX qs,bX,bX,hat hj,hat hk];exact id
  · rw [bX qs,bX,hat hj];exact id
theorem ut {js:List Int} (hj:cu ps.length js) {winA winB:Int->Int} {mvA mvB:Int->Option Int} (A:kQ ps (ids ps.length) winA mvA) (B:kQ (js.map (sJ ps js)) (ids (js.map (sJ ps js)).length) winB mvB) {w:Int} (hw:w=0\/w=1)
    (hback:∀ i∈js,winA i=1-w->ay ps i=1-w->∀ h,mvA i=some h->h∈aU ps i->h∈js):∀ j∈ids js.length,winB j=w->winA (vk js j)=w:=by
  have hl:(js.map (sJ ps js)).length=js.length:=List.length_map ..;have hin:∀ {j},j∈ids js.length->vk js j∈ids ps.length:=fun {j} h=>bC.mpr (hj.inn _ (nV h))
  have key:=kr A B (f:=vk js) (w:=w) (v:=w) hw;rw [hl] at key;refine key (fun j hj'=>hin hj') (fun i hi=>yW hpl hi) (fun j hj'=>?_) (fun j hj' g hg=>?_) (fun j hj' h1 h2 g hg=>?_) (fun j hj' k hk=>?_) (fun j hj'=>?_) fun j hj'=>?_
  · rw [iZ,iZ,oF hj'];rfl
  · rw [<- dI,oF hj'] at hg;exact D1 hg
  · obtain ⟨g',e1',e2'⟩:=A.has _ (hin hj') (h2.trans h1.symm);rw [hg] at e1';cases e1';obtain ⟨x,hx,e⟩:=D3 e2' (hback _ (nV hj') h1 h2 g hg e2');refine ⟨x,?_,e⟩;rw [<- dI,oF hj'];exact hx
  · rw [bX,bX,bX,bX,oF hj',oF hk];exact id
  · rw [bX,bX,oF hj'];exact id
  · have:=sg hpl (hin hj');rw [bX] at this;rw [bX,oF hj'];exact this
theorem vN {winA:Int->Int} {mvA:Int->Option Int} (A:kQ ps (ids ps.length) winA mvA) {who:Int} {js:List Int} (hq:∀ i,i∈js<->i∈ids ps.length/\winA i=who):∀ i∈js,∃ g∈aU ps i,g∈js:=fun i hi=>by
  obtain ⟨h1,h2⟩:=(hq i).mp hi;by_cases z:ay ps i=who
  · obtain ⟨g,g1,g2⟩:=A.has i h1 (z.trans h2.symm);obtain ⟨s1,s2⟩:=A.stay i h1 g (by rw [h2];exact .inl ⟨z,g1⟩);exact ⟨g,g2,(hq g).mpr ⟨s1,s2.trans h2⟩⟩
  · have P:=hpl _ (jF h1);obtain ⟨g,hg⟩:=List.exists_mem_of_ne_nil _ P.ne;rw [dI] at hg;obtain ⟨s1,s2⟩:=A.stay i h1 g (by rw [h2];exact .inr ⟨z,fU hg (lH hpl h1 hg)⟩);exact ⟨g,hg,(hq g).mpr ⟨s1,s2.trans h2⟩⟩
theorem AJ {js:List Int} (hj:cu ps.length js) {winA winB:Int->Int} {mvA mvB:Int->Option Int} (A:kQ ps (ids ps.length) winA mvA) (B:kQ (js.map (sJ ps js)) (ids (js.map (sJ ps js)).length) winB mvB) {who:Int} (h01:who=0\/who=1)
    (hq:∀ i,i∈js<->i∈ids ps.length/\winA i=who):∀ j∈ids js.length,winB j=who:=fun j hj'=>by
  have b2:=B.two j (by rw [List.length_map];exact hj');by_cases z:winB j=who
  · exact z
  · have h:=ut hpl hj A B (w:=1-who) (by omega) (fun i hi h1 h2 g hg hgo=>by
      obtain ⟨h3,h4⟩:=(hq i).mp hi;obtain ⟨s1,s2⟩:=A.stay i h3 g (.inl ⟨h2.trans h1.symm,hg⟩);exact (hq g).mpr ⟨s1,s2.trans h4⟩) j hj' (by omega)
    have:=((hq _).mp (nV hj')).2;omega
theorem ue {who:Int} {sm:List Int} {i g:Int} (hi:i∈gX ps (ids ps.length) who sm) (ho:ay ps i=1-who) (hg:g∈aU ps i):g∈gX ps (ids ps.length) who sm:=by
  have hj:=cu.ids ps.length;have hr:cu ps.length (dF (ids ps.length) sm):=hj.filter _;have A:=nW (ps:=ps) (who:=1-who) hr.nd (fun x hx=>(bG.mp hx).1) hj.nd hj.len;obtain ⟨h1,h2⟩:=(iu hj).mp hi;have gi:=lH hpl h1 hg;exact (iu hj).mpr ⟨gi,A.outO i h1 h2 ho g (fU hg gi)⟩
theorem vH (hw:eR ps (ids ps.length)) {who:Int} (h01:who=0\/who=1) {sm:List Int}:∀ i∈gX ps (ids ps.length) who sm,∃ g∈aU ps i,g∈gX ps (ids ps.length) who sm:=fun i hi=>by
  have h1:=((iu (cu.ids ps.length)).mp hi).1;by_cases z:ay ps i=who
  · obtain ⟨g,hg⟩:=qB (cu.ids ps.length) hw hi z;exact ⟨g,eJ hg,fJ hg⟩
  · have z2:ay ps i=1-who:=by have:=yW hpl h1;omega
    have P:=hpl _ (jF h1);obtain ⟨g,hg⟩:=List.exists_mem_of_ne_nil _ P.ne;rw [dI] at hg;exact ⟨g,hg,ue hpl hi z2 hg⟩
end
theorem xw {n d e:Nat} (h:e<=n):HT.sIx n d (some (e:Int))=e:=by
  unfold HT.sIx;have h0:¬ ((e:Nat):Int) < 0:=by omega
  simp only [h0,if_false];simp;omega
theorem uC (n d:Nat):HT.sIx n d none=d:=by
  unfold HT.sIx;rfl
theorem EN {ds:List PyData} {e:Nat} (h:e<=ds.length):D2.nR ds (some (e:Int)) none=ds.drop e:=by
  unfold D2.nR;rw [xw h,uC];rw [List.take_of_length_le (by rw [List.length_drop];omega)]
theorem IY:∀ ds:List PyData,D2.nR ds (some 2) none=ds.drop 2
  | []=>rfl
  | [d]=>rfl
  | d::e::ds=>by rw [show (some (2:Int))=some ((2:Nat):Int) from rfl,EN (by simp)]
theorem DR {f:Fe} {ρ:aS} {g h:Int->PyData} {n:Nat} (hh:∀ i:Int,0<=i->i < n->f (.val (g i)::ρ)=.ok (h i)):bT (aT 0) (fun _=>.ok true) f (.non::ρ) (tab g n)=.ok (tab h n):=by
  have go:∀ is:List Int,(∀ i∈is,0<=i/\i < n)->bT (aT 0) (fun _=>.ok true) f (.non::ρ) (is.map g)=.ok (is.map h):=by
    intro is;induction is with
    | nil=>intro _;exact cZ ..
    | cons i is ih =>
      intro hb;rw [List.map_cons,dG,ih fun x hx=>hb x (List.mem_cons_of_mem _ hx)];have:=hh i (hb i List.mem_cons_self).1 (hb i List.mem_cons_self).2;simp only [R.ok_bind,if_true,List.set_cons_zero,this];rfl
  exact go (ids n) fun i hi=>bC.mp hi
theorem BO {f g:Int->PyData} {n:Nat} {t:aS->R Bool} {fe:Fe} {ρ:aS} (hh:∀ i:Int,0<=i->i < n->t (.val (f i)::.val (g i)::ρ)=.ok false\/t (.val (f i)::.val (g i)::ρ)=.ok true/\fe (.val (f i)::.val (g i)::ρ)=.ok (.bool true)) :
    ∃ k:List Int,bT (fB 0 1) t fe (.non::.non::ρ) (jX (tab f n) (tab g n))=.ok (k.map fun _=>.bool true):=by
  have go:∀ is:List Int,(∀ i∈is,0<=i/\i < n)->∃ k:List Int,bT (fB 0 1) t fe (.non::.non::ρ) (jX (is.map f) (is.map g))=.ok (k.map fun _=>.bool true):=by
    intro is;induction is with
    | nil=>intro _;exact ⟨[],by unfold jX;simp [cZ]⟩
    | cons i is ih =>
      intro hb;obtain ⟨k,hk⟩:=ih fun x hx=>hb x (List.mem_cons_of_mem _ hx)
      have e:jX ((i::is).map f) ((i::is).map g)=.tuple [f i,g i]::jX (is.map f) (is.map g):=rfl;rcases hh i (hb i List.mem_cons_self).1 (hb i List.mem_cons_self).2 with h | ⟨h1,h2⟩
      · refine ⟨k,?_⟩;rw [e,gL,hk];simp only [List.set_cons_zero,List.set_cons_succ,h,R.ok_bind];rfl
      · refine ⟨0::k,?_⟩;rw [e,gL,hk];simp only [List.set_cons_zero,List.set_cons_succ,h1,h2,R.ok_bind,if_true];rfl
  exact go (ids n) fun i hi=>bC.mp hi
theorem Fa (js:List Int):js.map PyData.int=tab (fun j=>.int (vk js j)) js.length:=by
  refine List.ext_getElem (by rw [List.length_map,bD]) fun k h1 h2=>?_
  rw [bD] at h2;have e:=fI (f:=fun j=>.int (vk js j)) (n:=js.length) (i:=(k:Int)) (by omega) (by omega);simp only [Int.toNat_natCast] at e;rw [e,List.getElem_map];unfold vk;rw [Int.toNat_natCast,List.getElem?_eq_getElem h2];rfl
theorem DQ (f:Int->PyData) (m n:Nat):tab f (m+n)=tab f m++tab (fun i=>f (i+m)) n:=by
  refine List.ext_getElem (by rw [List.length_append,bD,bD,bD]) fun k h1 h2=>?_
  rw [bD] at h1;have e:=fI (f:=f) (n:=m+n) (i:=(k:Int)) (by omega) (by omega);simp only [Int.toNat_natCast] at e;rw [e];by_cases h:k < m
  · rw [List.getElem_append_left (by rw [bD];exact h)];have e2':=fI (f:=f) (n:=m) (i:=(k:Int)) (by omega) (by omega);simp only [Int.toNat_natCast] at e2';rw [e2']
  · rw [List.getElem_append_right (by rw [bD];omega)];have e2':=fI (f:=fun i=>f (i+m)) (n:=n) (i:=((k-m:Nat):Int)) (by omega) (by omega);simp only [Int.toNat_natCast] at e2';simp only [bD];rw [e2',show (((k-m:Nat):Int)+m)=k by omega]
theorem DB (d:PyData):∀ n:Nat,tab (fun _=>d) n=List.replicate n d:=fun n=>by
  unfold tab;rw [List.map_const',rZ]
theorem Fi (xs:List PyData) (k:Int):mY (.tuple xs) (.int k)=if (xs=[]\/k=1)/\0<=k/\k < 2 ^ 63 then .ok (.tuple xs) else if xs≠[]/\2<=k/\k < 2 ^ 63/\xs.length*k.toNat<=sizeLine then .ok (.tuple (List.replicate k.toNat xs).flatten) else .no:=by simp only [mY]
theorem AK {d:PyData} {n:Nat} (h1:1<=n) (h:n<=100):mY (.tuple [d]) (.int n)=.ok (.tuple (tab (fun _=>d) n)):=by
  rw [Fi,DB];by_cases z:n=1
  · subst z;rw [if_pos ⟨.inr rfl,by omega,by omega⟩];rfl
  · rw [if_neg (by rintro ⟨y | y,_⟩;cases y;omega),if_pos ⟨by simp,by omega,by omega,bI (by simp;omega)⟩];rw [Int.toNat_natCast];have:∀ m:Nat,(List.replicate m [d]).flatten=List.replicate m d:=fun m=>by
      induction m with
      | zero=>rfl
      | succ m ih=>rw [List.replicate_succ,List.flatten_cons,ih];rfl
    rw [this]
theorem xj {ps:List P4} (hl:∀ p∈ps,p.ns.length<=100) (hp:ps.length<=100) {js:List Int} (hj:cu ps.length js) (hne:js≠[]) (hw:∀ i∈js,∃ g∈aU ps i,g∈js):cY [gD ps,.tuple (js.map .int)]=.ok (gD (js.map (sJ ps js))):=by
  have hpb:pA ps (.tuple (js.map .int))=true:=by
    have he:(js.map PyData.int).isEmpty=false:=by
      cases js with
      | nil=>exact absurd rfl hne
      | cons _ _=>rfl
    have hal:=qS (ps:=ps) (js:=js) fun i hi'=>by
      obtain ⟨g,g1,g2⟩:=hw i hi';exact ⟨g,List.mem_filter.mpr ⟨g1,bW.mpr g2⟩⟩
    simp only [pA,sy ps.length js 0 hj.lt hj.inn,he,dk,hal];rfl
  rw [vS hl hp (DO js),hpb,if_pos rfl];simp only [dk,Option.getD_some]
theorem xa {f g:Int->Option Int} {n:Nat} (h:∀ i∈ids n,f i=g i):zC (oT f n) (oT g n)=.ok (.bool false):=by
  rw [show oT f n=oT g n from congrArg PyData.tuple (cD fun i h0 h1=>by rw [h i (bC.mpr ⟨h0,h1⟩)])];exact Af (CW _ _) (by rw [AS];omega)
noncomputable def yT (c:Addr):Fs:=(lu (tE (e2 (eG mO) (e1 cN (ag 10)) (eC (.int 0)))) (bf (cf 11 (e2 bJ (aA (fq c) (ai (aA cY (ai (ag 1) (ai (ag 10) aE))) aE)) (eC (.int 0)))) (lu (jp (tE (e1 vq (bL (yx (ag 10) (ag 11)) 2 [3,7] (fB 0 1) (tE (e2 (iP) (ag 1) (ag 3))) (e2 (iP) (e2 bJ (ag 2) (ag 0)) (ag 3)))))) (cK (eC (.bool false))) de)) de)
noncomputable def yB (c:Addr):Fs:=(bf (cf 8 (e1 cC (bL (iS (ai (ag 2) aE)) 1 [3,7] (aT 0) (tE (e2 (iP) (e2 bJ (ag 1) (ag 0)) (ag 2))) (ag 0)))) (bf (lu (nA (tE (e2 (eG mO) (e1 cN (ag 8)) (eC (.int 0)))) (tE (e2 (zC) (e2 bJ (aA (fq c) (ai (aA cY (ai (ag 1) (ai (ag 8) aE))) aE)) (eC (.int 0))) (e2 mY (jI (ai (ag 7) aE)) (e1 cN (ag 8)))))) (cK (eC (.bool false))) de) (bf (cf 9 (aA da (ai (aA bA (ai (ag 0) (ai (eC (.int 1)) aE))) (ai (ag 2) aE)))) (bf (cf 10 (e2 bJ (aA hW (ai (ag 1) (ai (tW (ai (ag 2) aE)) (ai (ag 7) (ai (ag 9) aE))))) (eC (.int 0)))) (yT c)))))
noncomputable abbrev yR (ns:List Int) (ps:List P4) (win:Int->Int) (x4 x5 x6 c7 c8 c9 c10 c11:bn):aS :=
  [.val (zE ns),.val (gD ps),.val (.int ps.length),.val (oT (fun i=>some (win i)) ps.length),x4,x5,x6,c7,c8,c9,c10,c11]
theorem Ex {ns:List Int} {ps:List P4} (hpl:∀ p∈ps,Pl ps.length 12 p) (h24:(ps.length:Int)<=24) {win:Int->Int} {mv:Int->Option Int} (A:kQ ps (ids ps.length) win mv) {c:Addr} {v1:Int} (hv1:bA [zE ns,.int 1]=.ok (.int v1))
    {sm:List Int} (hs:da [.int v1,.int ps.length]=.ok (.tuple (sm.map .int))) (hsm:cu ps.length sm) {w:Int} (w01:w=0\/w=1) {x4 x5 x6 c8 c9 c10 c11:bn} :
    ∃ d8 d9 d10 d11,yB c (yR ns ps win x4 x5 x6 (.val (.int w)) c8 c9 c10 c11)=.ok (.nx (yR ns ps win x4 x5 x6 (.val (.int w)) d8 d9 d10 d11)):=by
  have G:=D8 hpl h24;have hw:=qT G;have hlp:∀ p∈ps,p.ns.length<=100:=fun p hp=>by have:=(hpl p hp).len;omega
  obtain ⟨js,ejs⟩:∃ js,js=(ids ps.length).filter fun i=>decide (win i=w):=⟨_,rfl⟩
  have hmi:=cV (t:=tE (e2 (iP) (e2 bJ (ag 1) (ag 0)) (ag 2))) (ρ:=[.val (oT (fun i=>some (win i)) ps.length),.val (.int w)]) (p:=fun i=>decide (win i=w)) (ids ps.length) fun i hi'=>by
    obtain ⟨h0,h1⟩:=bC.mp hi';simp only [List.set_cons_zero,cL,bB,ap,aw,R.ok_bind,uG h0 h1,oD,fZ,cU]
  rw [<- ejs] at hmi;have hq:∀ i,i∈js<->i∈ids ps.length/\win i=w:=fun i=>by rw [ejs,List.mem_filter,decide_eq_true_iff]
  have pq:cu ps.length js:=by rw [ejs];exact (cu.ids _).filter _
  have hql:=pq.len;have hr1:qb [.int (ps.length:Int)]=.ok (ca 0 ps.length):=by rw [Eo (by omega) (by omega),Int.toNat_natCast]
  have hrm:ca 0 ps.length=(ids ps.length).map .int:=i6 _;have hrt:=nz (n:=ps.length) (by omega);have lj:cN (.tuple (js.map .int))=.ok (.int js.length):=by simp
  obtain ⟨K,eK⟩:∃ K,K=gX ps (ids ps.length) w sm:=⟨_,rfl⟩
  have pK:cu ps.length K:=by rw [eK];exact qA (cu.ids _) w sm
  have hKl:=pK.len;have lK:cN (.tuple (K.map .int))=.ok (.int K.length):=by simp
  have hkep:=CQ G (cu.ids ps.length) hsm (fun x hx=>bC.mpr (hsm.inn x hx)) hw (who:=w);rw [<- eK] at hkep;obtain ⟨fd,hfd⟩:∃ f,f=PyData.tuple [.tuple (K.map .int),oT (eT ps w K) ps.length]:=⟨_,rfl⟩
  rw [<- hfd] at hkep;have hfd0:bJ fd (.int 0)=.ok (.tuple (K.map .int)):=by rw [hfd];rfl
  -- the law's body,step by step
  obtain ⟨e11,hfin⟩:∃ e11,yT c (yR ns ps win x4 x5 x6 (.val (.int w)) (.val (.tuple (js.map .int))) (.val (.tuple (sm.map .int))) (.val (.tuple (K.map .int))) c11)=.ok (.nx (yR ns ps win x4 x5 x6 (.val (.int w)) (.val (.tuple (js.map .int))) (.val (.tuple (sm.map .int))) (.val (.tuple (K.map .int))) e11)):=by
    unfold yT;rw [dL];simp only [cL,bB,bU,bK,ap,aw,R.ok_bind,lK,iO,cU];by_cases hK:K=[]
    · refine ⟨c11,?_⟩;rw [hK];rfl
    · have hKp:=List.length_pos_iff.mpr hK;have hb:mO (K.length:Int) 0=true:=by simp;omega
      have kw:=vH hpl hw w01 (sm:=sm);rw [<- eK] at kw;have hpt:=xj hlp (by omega) pK hK kw;have ptp:∀ p∈K.map (sJ ps K),Pl (K.map (sJ ps K)).length 12 p:=fun p hp=>by
        obtain ⟨i,hi,rfl⟩:=List.mem_map.mp hp;rw [List.length_map];exact Eh hpl (by omega) (bC.mpr (pK.inn i hi)) pK.lt (kw i hi)
      obtain ⟨winB,mvB,hwon,B⟩:=nC ptp (by rw [List.length_map];omega) c;have hlenK:(K.map (sJ ps K)).length=K.length:=List.length_map ..;have key:=ut hpl pK A B (w:=w) w01 fun i hi _ ho g _ hgo=>by
        rw [eK] at hi ⊢;exact ue hpl hi ho hgo
      rw [hlenK] at hwon;obtain ⟨f,hf⟩:∃ f,f=PyData.tuple [oT (fun i=>some (winB i)) K.length,oT mvB K.length]:=⟨_,rfl⟩
      rw [<- hf] at hwon;have hf0:bJ f (.int 0)=.ok (oT (fun i=>some (winB i)) K.length):=by rw [hf];rfl
      obtain ⟨k,hk⟩:=BO (f:=fun j=>.int (vk K j)) (g:=fun j=>oD (some (winB j))) (n:=K.length) (t:=tE (e2 (iP) (ag 1) (ag 3))) (fe:=e2 (iP) (e2 bJ (ag 2) (ag 0)) (ag 3)) (ρ:=[.val (oT (fun i=>some (win i)) ps.length),.val (.int w)]) fun j j0 j1=>by
        have hj:=bC.mpr ⟨j0,j1⟩;by_cases z:winB j=w
        · right;obtain ⟨a0,a1⟩:=pK.inn _ (nV hj);have:=key j hj z;simp only [cL,bB,ap,aw,R.ok_bind,oD,fZ,cU,uG a0 a1,z,this,decide_true,and_self]
        · left;simp only [cL,bB,ap,aw,R.ok_bind,oD,fZ,cU,decide_eq_false z]
      rw [<- Fa] at hk;refine ⟨.val (oT (fun i=>some (winB i)) K.length),?_⟩;rw [hb,if_pos rfl];rw [aR (ρ':=yR ns ps win x4 x5 x6 (.val (.int w)) (.val (.tuple (js.map .int))) (.val (.tuple (sm.map .int))) (.val (.tuple (K.map .int))) (.val (oT (fun i=>some (winB i)) K.length))) (by
        simp only [bH,bB,aJ,aC,aL,ap,aw,bK,R.ok_bind,hpt,hwon,hf0];rfl)]
      rw [dL,gR,cL,bU,bp,show az 2 [3,7] (yR ns ps win x4 x5 x6 (.val (.int w)) (.val (.tuple (js.map .int))) (.val (.tuple (sm.map .int))) (.val (.tuple (K.map .int))) (.val (oT (fun i=>some (winB i)) K.length)))=[.non,.non,.val (oT (fun i=>some (win i)) ps.length),.val (.int w)] from rfl];simp only [wT,ap,aw,R.ok_bind,cO,cr];rw [if_pos (by rw [lX,List.length_map,bD];exact bI (by omega)),hk,gy,R.ok_bind];have hall:vq (.list (k.map fun _=>.bool true))=.ok (.bool true):=by
        show (match D2.rE (k.map fun _=>PyData.bool true) with | some b=>R.ok (PyData.bool b) | none=>.no)=_;rw [mn (fun _=>true) k];simp
      rw [hall];rfl
  refine ⟨.val (.tuple (js.map .int)),.val (.tuple (sm.map .int)),.val (.tuple (K.map .int)),e11,?_⟩;unfold yB;rw [aR (ρ':=yR ns ps win x4 x5 x6 (.val (.int w)) (.val (.tuple (js.map .int))) c9 c10 c11) (by
    rw [bH,bU,bp,show az 1 [3,7] (yR ns ps win x4 x5 x6 (.val (.int w)) c8 c9 c10 c11)=[.non,.val (oT (fun i=>some (win i)) ps.length),.val (.int w)] from rfl];simp -implicitDefEqProofs only [qv,aC,aL,ap,aw,R.ok_bind,hr1,cr];rw [if_pos (by rw [eZ];exact bI (by omega)),hrm,hmi,gy,R.ok_bind,iq];rfl)]
  rw [aR (ρ':=yR ns ps win x4 x5 x6 (.val (.int w)) (.val (.tuple (js.map .int))) c9 c10 c11) (by
    rw [dL];simp only [pP,cL,bB,bU,bK,ap,aw,R.ok_bind,lj,iO,cU];by_cases hjs:js=[]
    · rw [hjs];rfl
    · have hjp:=List.length_pos_iff.mpr hjs;have hb:mO (js.length:Int) 0=true:=by simp;omega
      have kw:=vN hpl A hq;have hpt:=xj hlp (by omega) pq hjs kw;have ptp:∀ p∈js.map (sJ ps js),Pl (js.map (sJ ps js)).length 12 p:=fun p hp=>by
        obtain ⟨i,hi,rfl⟩:=List.mem_map.mp hp;rw [List.length_map];exact Eh hpl (by omega) (bC.mpr (pq.inn i hi)) pq.lt (kw i hi)
      obtain ⟨winB,mvB,hwon,B⟩:=nC ptp (by rw [List.length_map];omega) c;have key:=AJ hpl pq A B w01 hq;rw [show (js.map (sJ ps js)).length=js.length from List.length_map ..] at hwon;obtain ⟨f,hf⟩:∃ f,f=PyData.tuple [oT (fun i=>some (winB i)) js.length,oT mvB js.length]:=⟨_,rfl⟩
      rw [<- hf] at hwon;have hf0:bJ f (.int 0)=.ok (oT (fun i=>some (winB i)) js.length):=by rw [hf];rfl
      have hmu:=AK (d:=.int w) (n:=js.length) hjp (by omega);have hne:=xa (f:=fun i=>some (winB i)) (g:=fun _=>some w) (n:=js.length) fun i hi=>by rw [key i hi]
      have s1:(1:Nat)<=sizeLine:=by decide
      rw [hb,if_pos rfl];simp only [aJ,aC,aL,gW,ap,aw,R.ok_bind,hpt,hwon,hf0,List.length_cons,List.length_nil,Nat.zero_add,if_pos s1,hmu];rw [show PyData.tuple (tab (fun _=>.int w) js.length)=oT (fun _=>some w) js.length from rfl,hne];rfl)]
  rw [aR (ρ':=yR ns ps win x4 x5 x6 (.val (.int w)) (.val (.tuple (js.map .int))) (.val (.tuple (sm.map .int))) c10 c11) (by
    simp -implicitDefEqProofs only [bH,aJ,aC,aL,ap,aw,bK,R.ok_bind,hv1,hs];rfl)]
  rw [aR (ρ':=yR ns ps win x4 x5 x6 (.val (.int w)) (.val (.tuple (js.map .int))) (.val (.tuple (sm.map .int))) (.val (.tuple (K.map .int))) c11) (by
    simp only [bH,bB,aJ,tX,aC,aL,ap,aw,bK,R.ok_bind,hrt,hkep,hfd0];rfl)]
  exact hfin
theorem CT {ps:List P4} (hp:ps.length<=1000) {ρ:aS} {i:Nat} (hi:ag i ρ=.ok (gD ps)):e1 cC (bL (dE (ag i)) 1 [] (aT 0) (fun _=>.ok true) (jI (ai (e2 bJ (ag 0) (eC (.int 0))) (ai (e2 yd (eC (.int 11)) (e2 bJ (ag 0) (eC (.int 1)))) (ai (e2 bJ (ag 0) (eC (.int 2))) (ai (e2 bJ (ag 0) (eC (.int 3))) aE)))))) ρ=.ok (gD (ps.map BU)):=by
  have s4:4<=sizeLine:=by decide
  have hc:=kc (f:=(jI (ai (e2 bJ (ag 0) (eC (.int 0))) (ai (e2 yd (eC (.int 11)) (e2 bJ (ag 0) (eC (.int 1)))) (ai (e2 bJ (ag 0) (eC (.int 2))) (ai (e2 bJ (ag 0) (eC (.int 3))) aE)))))) (ρ:=[]) (h:=fun p=>(BU p).d) ps fun q _=>by
    simp only [gW,aC,aL,bB,bU,ap,bK,R.ok_bind,jO,k9,ss,i4,EQ,List.length_cons,List.length_nil,Nat.zero_add,Nat.reduceAdd,if_pos s4];rfl
  rw [bU,bp,show az 1 [] ρ=[.non] from rfl];simp only [bV,hi,R.ok_bind,cO,cr];rw [if_pos (bI (by rw [List.length_map];exact hp)),hc];show R.ok (PyData.tuple (ps.map fun p=>(BU p).d))=.ok (.tuple ((ps.map BU).map P4.d));rw [List.map_map];rfl
theorem AD (c:Addr):AB (wx c):=by
  intro ns hns;obtain ⟨ps,hi,hgr,hpl',hp1,hp24,hi0,hi12⟩:=pc ns (most:=24) (by omega) (by omega);obtain ⟨qs,hj,hgq,hql',hq1,hq24,hj0,hj12⟩:=pc (ns.drop 2) (most:=8) (by omega) (by omega);obtain ⟨v1,hv1,v10,v11⟩:=pe ns (k:=1) (by omega);obtain ⟨sm,hs1,jlt,jin⟩:=DI (n:=v1) (c:=ps.length) (by omega) (by omega);have hsm:cu ps.length sm:=⟨jlt,jin⟩
  have hpl:∀ p∈ps,Pl ps.length 12 p:=fun p hp=>BF (hpl' p hp) (by omega) hi12
  have hql:∀ p∈qs,Pl qs.length 12 p:=fun p hp=>BF (hql' p hp) (by omega) hj12
  have hlq:∀ p∈qs,p.ns.length<=100:=fun p hp=>by have:=(hql p hp).len;omega
  have l1:cN (gD ps)=.ok (.int ps.length):=by simp
  have l2:cN (gD qs)=.ok (.int qs.length):=by simp
  have dx:∀ (f:Int->Option Int) (n:Nat) (e:PyData),bJ (.tuple [oT f n,e]) (.int 0)=.ok (oT f n):=fun f n e=>rfl
  -- the ground itself
  obtain ⟨win,mv,hwon,A⟩:=nC hpl (by omega) c
  -- the low one,and exchanged
  have hlo:∀ p∈ps.map BU,Pl (ps.map BU).length 12 p:=fun p hp=>by
    obtain ⟨q,hq,rfl⟩:=List.mem_map.mp hp;rw [List.length_map];exact Ha (hpl q hq)
  have h11:∀ p∈ps.map BU,p.m<=11:=fun p hp=>by
    obtain ⟨q,hq,rfl⟩:=List.mem_map.mp hp;show (if q.m < 11 then q.m else 11)<=11;split <;> omega
  have hll:(ps.map BU).length=ps.length:=List.length_map ..;have lc:=CT (ps:=ps) (by omega) (ρ:=[.val (zE ns),.val (gD ps),.val (.int ps.length),.val (oT (fun i=>some (win i)) ps.length),.non,.non,.non,.non,.non,.non,.non,.non]) (i:=1) rfl;generalize ps.map BU=ls at hlo h11 hll lc;obtain ⟨winL,mvL',hwl,L⟩:=nC hlo (by omega) c;have hex:=rW (ps:=ls) (by omega);have hx12:df (cx ls) 12=false:=by
    cases hb:df (cx ls) 12 with
    | false=>rfl
    | true =>
      obtain ⟨p,hp,e⟩:=List.mem_map.mp (bW.mp hb);have:=h11 p hp;omega
  rw [hx12,if_neg Bool.false_ne_true] at hex;have hxp:∀ p∈ls.map Am,Pl (ls.map Am).length 12 p:=fun p hp=>by
    obtain ⟨q,hq,rfl⟩:=List.mem_map.mp hp;rw [List.length_map];exact GT (hlo q hq) (by have:=h11 q hq;omega)
  obtain ⟨winX,mvX,hwx,X⟩:=nC hxp (by rw [List.length_map];omega) c;have exw:=E0 hlo h11 L X;rw [List.length_map,hll] at hwx;rw [hll] at hwl exw;have n1:=xa (f:=fun i=>some (winX i)) (g:=fun i=>some (1-winL i)) (n:=ps.length) fun i hi'=>by rw [exw i hi']
  have htu:=DR (f:=e2 ip (eC (.int 1)) (ag 0)) (ρ:=[]) (g:=fun i=>oD (some (winL i))) (h:=fun i=>oD (some (1-winL i))) (n:=ps.length) fun i _ _=>by
    simp only [bB,bK,ap,R.ok_bind,oD,mC]
  -- pressed
  have hpr:=vU (ps:=ps) (by omega);have hpp:∀ p∈ps.map (Dr (cx ps)),Pl (ps.map (Dr (cx ps))).length 12 p:=fun p hp=>by
    obtain ⟨q,hq,rfl⟩:=List.mem_map.mp hp;rw [List.length_map];refine Ho (hpl q hq) (by omega) hq fun x hx=>?_
    obtain ⟨r,hr,rfl⟩:=List.mem_map.mp hx;exact (hpl r hr).m0
  obtain ⟨winP,mvP,hwp,P⟩:=nC hpp (by rw [List.length_map];omega) c;have prw:=FG hpl A P;rw [List.length_map] at hwp;have n2:=xa (f:=fun i=>some (winP i)) (g:=fun i=>some (win i)) (n:=ps.length) fun i hi'=>by rw [prw i hi']
  -- the other one
  obtain ⟨winQ,mvQ,hwq,Q⟩:=nC hql (by omega) c;have hbe:=xX (ps:=ps) (qs:=qs) (by omega) (by omega) hlq;obtain ⟨x4,ex4⟩:∃ x,x=bn.val (gD ls):=⟨_,rfl⟩
  obtain ⟨x5,ex5⟩:∃ x,x=bn.val (oT (fun i=>some (1-winL i)) ps.length):=⟨_,rfl⟩
  obtain ⟨x6,ex6⟩:∃ x,x=bn.val (gD qs):=⟨_,rfl⟩
  obtain ⟨a8,a9,a10,a11,t0⟩:=Ex (ns:=ns) hpl (by omega) A (c:=c) hv1 hs1 hsm (w:=0) (.inl rfl) (x4:=x4) (x5:=x5) (x6:=x6) (c8:=.non) (c9:=.non) (c10:=.non) (c11:=.non);obtain ⟨b8,b9,b10,b11,t1⟩:=Ex (ns:=ns) hpl (by omega) A (c:=c) hv1 hs1 hsm (w:=1) (.inr rfl) (x4:=x4) (x5:=x5) (x6:=x6) (c8:=a8) (c9:=a9) (c10:=a10) (c11:=a11);have hloop:gM (aT 7) (yB c) [.int 0,.int 1] (yR ns ps win x4 x5 x6 .non .non .non .non .non)=.ok (.nx (yR ns ps win x4 x5 x6 (.val (.int 1)) b8 b9 b10 b11)):=by
    rw [dC,show (yR ns ps win x4 x5 x6 .non .non .non .non .non).set 7 (.val (.int 0))=yR ns ps win x4 x5 x6 (.val (.int 0)) .non .non .non .non from rfl,t0,R.ok_bind,eU];rw [dC,show (yR ns ps win x4 x5 x6 (.val (.int 0)) a8 a9 a10 a11).set 7 (.val (.int 1))=yR ns ps win x4 x5 x6 (.val (.int 1)) a8 a9 a10 a11 from rfl,t1,R.ok_bind,eU,fD]
  have s2:(2:Nat)<=sizeLine:=by decide
  unfold wx zI;refine eN ?_;rw [show ([zE ns].map bn.val++List.replicate (12 - [zE ns].length) bn.non)=[.val (zE ns),.non,.non,.non,.non,.non,.non,.non,.non,.non,.non,.non] from rfl];rw [aR (ρ':=[.val (zE ns),.val (gD ps),.non,.non,.non,.non,.non,.non,.non,.non,.non,.non]) (by
    simp only [bH,aJ,aC,aL,ap,bK,R.ok_bind,hgr];rfl)]
  rw [aR (ρ':=[.val (zE ns),.val (gD ps),.val (.int ps.length),.non,.non,.non,.non,.non,.non,.non,.non,.non]) (by
    simp only [bH,bU,ap,aw,R.ok_bind,l1];rfl)]
  rw [aR (ρ':=yR ns ps win .non .non .non .non .non .non .non .non) (by
    simp only [bH,bB,aJ,aC,aL,ap,aw,bK,R.ok_bind,hwon,dx];rfl)]
  rw [aR (ρ':=yR ns ps win x4 .non .non .non .non .non .non .non) (by
    rw [bH,lc,ex4];rfl)]
  rw [aR (ρ':=yR ns ps win x4 x5 .non .non .non .non .non .non) (by
    rw [bH,bU,bp,show az 1 [] (yR ns ps win x4 .non .non .non .non .non .non .non)=[.non] from rfl,ex4,ex5];simp only [bV,bB,aJ,aC,aL,ap,aw,bK,R.ok_bind,hwl,dx,cO,cr];rw [if_pos (by rw [bD];exact bI (by omega)),htu,gy,R.ok_bind,iq];rfl)]
  rw [aR (ρ':=yR ns ps win x4 x5 .non .non .non .non .non .non) (by
    rw [ex4,ex5,dL];simp only [sD,cL,bB,aJ,aC,aL,ap,aw,bK,R.ok_bind,hex,hwx,dx,n1,hpr,hwp,n2,cU];rfl)]
  rw [aR (ρ':=yR ns ps win x4 x5 x6 .non .non .non .non .non) (by
    simp only [bH,aJ,aC,aL,EY,AR,AO,ap,bK,R.ok_bind,GB,GJ,IY,<- List.map_drop,hgq];rw [ex6];rfl)]
  rw [aR (ρ':=yR ns ps win x4 x5 x6 .non .non .non .non .non) (by
    rw [ex6,dL];simp only [pP,cL,bB,bU,ap,aw,bK,R.ok_bind,l2,mB,iO,cU];by_cases h:ps.length+qs.length<=24
    · have hb:Gk ((ps.length:Int)+qs.length) 24=true:=by simp;omega
      rw [if_pos h] at hbe;have hp2:∀ p∈ps++qs.map (wa ps.length),Pl (ps++qs.map (wa ps.length)).length 12 p:=fun p hp=>by
        rw [List.length_append,List.length_map];rcases List.mem_append.mp hp with z | z
        · exact BF (hpl p z) (by omega) (by omega)
        · obtain ⟨q,hq,rfl⟩:=List.mem_map.mp z;exact HF (hql q hq) (by omega) (by omega) (by omega)
      have hlen2:(ps++qs.map (wa ps.length)).length=ps.length+qs.length:=by rw [List.length_append,List.length_map]
      obtain ⟨winB,mvB,hwb,B⟩:=nC hp2 (by rw [hlen2];omega) c;have k1:=Cd hpl hp2 B A;have k2:=Cf hpl hql hp2 B Q;rw [hlen2] at hwb;have e:oT (fun i=>some (winB i)) (ps.length+qs.length)=.tuple (tab (fun i=>oD (some (win i))) ps.length++tab (fun i=>oD (some (winQ i))) qs.length):=by
        refine congrArg PyData.tuple ?_;rw [DQ];rw [cD (f:=fun i=>oD (some (winB i))) (g:=fun i=>oD (some (win i))) fun i h0 h1=>by rw [k1 i (bC.mpr ⟨h0,h1⟩)]];rw [cD (f:=fun i=>oD (some (winB (i+ps.length)))) (g:=fun i=>oD (some (winQ i))) fun i h0 h1=>by rw [k2 i (bC.mpr ⟨h0,h1⟩)]]
      have n3:zC (oT (fun i=>some (winB i)) (ps.length+qs.length)) (oT (fun i=>some (winB i)) (ps.length+qs.length))=.ok (.bool false):=xa fun _ _=>rfl
      rw [hb,if_pos rfl];simp only [aJ,aC,aL,ap,aw,R.ok_bind,hbe,hwb,hwq,dx,Ac];rw [if_pos (by rw [bD,bD];exact bI (by omega)),R.ok_bind,<- e,n3];rfl
    · have hb:Gk ((ps.length:Int)+qs.length) 24=false:=by simp;omega
      rw [hb];rfl)]
  rw [aR (ρ':=yR ns ps win x4 x5 x6 (.val (.int 1)) b8 b9 b10 b11) (by
    rw [gA,gz,bV];simp -implicitDefEqProofs only [gW,aC,aL,bK,R.ok_bind,List.length_cons,List.length_nil,Nat.zero_add,Nat.reduceAdd,if_pos s2,cO];unfold yB yT at hloop;rw [hloop];rfl)]
  rfl
noncomputable def GF:List Stmt:=PySem.Challenge.pw_duelground_k71_whole_changes_of_winners.main.body
noncomputable abbrev top (i:Nat):Stmt:=GF.getD i (.Pass ⟨0,0,0,0⟩)
noncomputable abbrev ic:Stmt:=top 47
noncomputable abbrev jV:Stmt:=top 48
noncomputable abbrev jT:Stmt:=top 49
noncomputable abbrev jU:Stmt:=top 50
noncomputable abbrev jW:Stmt:=top 51
noncomputable abbrev gC:Stmt:=top 52
noncomputable abbrev jc:Stmt:=top 53
noncomputable abbrev jg:Stmt:=top 27
noncomputable abbrev lQ:Stmt:=top 32
noncomputable abbrev jd:Stmt:=top 28
noncomputable abbrev hR:Stmt:=top 29
noncomputable abbrev lr:Stmt:=top 12
noncomputable abbrev jb:Stmt:=top 13
noncomputable abbrev lh:Stmt:=top 14
noncomputable abbrev lS:Stmt:=top 18
noncomputable abbrev eV:Stmt:=top 20
noncomputable abbrev km:Stmt:=top 19
noncomputable abbrev ja:Stmt:=top 36
noncomputable abbrev lT:Stmt:=top 39
noncomputable abbrev hU:Stmt:=top 37
noncomputable abbrev e8:Stmt:=top 38
noncomputable abbrev jf:Stmt:=top 21
noncomputable abbrev gp:Stmt:=top 24
noncomputable abbrev v7:Stmt:=top 41
noncomputable abbrev gB:Stmt:=top 33
noncomputable abbrev kj:Stmt:=top 34
noncomputable abbrev gn:Stmt:=top 30
noncomputable abbrev kl:Stmt:=top 31
noncomputable abbrev i9:Stmt:=top 17
noncomputable abbrev je:Stmt:=top 23
noncomputable abbrev eW:Stmt:=top 22
noncomputable abbrev dQ:Stmt:=top 40
noncomputable abbrev c6:Stmt:=top 43
noncomputable abbrev dw:Stmt:=top 25
noncomputable abbrev fS:Stmt:=top 44
noncomputable abbrev Bo:Stmt:=top 45
noncomputable abbrev iC:Stmt:=top 54
section
variable {P:Program} {w:World} {K:PySem.W.Frag} {mg:Str->Option Value} {base:Heap} {f:Addr} {fd:FuncData} {k:Nat}
noncomputable abbrev ki:Stmt:=CK (top 16) 0
theorem B3:aY ["self","who","places","moves"] ["self","who","places","moves"] (ak ki):=⟨rfl,rfl,rfl,by decide +kernel,rfl,by decide +kernel,by decide +kernel⟩
theorem BY {P:Program} {w:World} {K:PySem.W.Frag} {mg:Str->Option Value} {base:Heap} {f C:Addr} {fd:FuncData} (F:gc K "__init__" "Share.__init__" ki f fd) (cl:zy K C) (n0:eP K C "who") (n1:eP K C "places") (n2:eP K C "moves") :
    bg P w K mg base (cP P w mg) 1 f fd ["self","who","places","moves"] (IK C ["who","places","moves"]):=by
  obtain ⟨oc,od,kV,doc,pm,an,cdv,ct,osl,rfl,lk,hcd⟩:=F.ex;refine Ao (k:=0) lk hcd B3 (fun vs H Q E h=>?_) fun A outer s H vs Q E hr h=>?_
  · obtain ⟨x,dx,ws,rfl,_,hl,_⟩:=h;rw [List.length_cons,hl];rfl
  · obtain ⟨x,dx,ws,rfl,hx,hl,k⟩:=h;obtain ⟨w1,r0,rfl,q0⟩:=D2.jM hl;obtain ⟨w2,r1,rfl,q1⟩:=D2.jM q0;obtain ⟨w3,r2,rfl,q2⟩:=D2.jM q1;obtain rfl:=List.eq_nil_of_length_eq_zero q2;refine ⟨_,pE (vV (pv 0) (pv 1) rfl) (pE (vV (pv 0) (pv 2) rfl) (xq (vV (pv 0) (pv 3) rfl))),?_⟩;refine ⟨_,rfl,_,rfl,x,C,dx,[],rfl,hx,cl,n0,(by show 0 < 1000;decide),_,rfl,_,rfl,x,C,dx,_,rfl,bE,cl,n1,(by show 1 < 1000;decide),_,rfl,_,rfl,x,C,dx,_,rfl,bE,cl,n2,(by refine Nat.lt_of_le_of_lt (gZ _ _ _) ?_;exact Nat.lt_of_le_of_lt (Nat.succ_le_succ (gZ _ _ _)) (by show 2 < 1000;decide)),?_⟩;refine k _ (by rw [bE,Hr (by decide +kernel) (by decide +kernel) (by decide +kernel)];rfl) fun b hb=>?_
    rw [aB hb,aB hb,aB hb]
theorem pU:aY ["_law_script","_law_k"] ["_law_script","_law_k"] (ak ic):=⟨rfl,rfl,rfl,by decide +kernel,rfl,by decide +kernel,by decide +kernel⟩
theorem pT (W:gc K "_law_cell_at" "_law_cell_at" ic f fd) (b_len:mg "len" = none) :
    bg P w K mg base (cP P w mg) (k+1) f fd ["_law_script","_law_k"] (dt (dB 2 (hZ)) 2):=by
  refine aF W pU (G:=["len"]) (by decide +kernel) fun cdv A outer s H E hr T=>?_
  exact (ao (cJ (tH (ae (aa T 1 rfl)) (ae (bZ T 0 rfl b_len (ae (aa T 0 rfl))))) (av (aM (aD T.hu (ae (aa T 0 rfl)) (ae (aa T 1 rfl)) (fun _ _=>rfl)))) ci)
      (av (aM aj)))
theorem sY:aY ["_law_script","_law_k","_law_drawn_here"] ["_law_script","_law_k"] (ak jV):=⟨rfl,rfl,rfl,by decide +kernel,rfl,by decide +kernel,by decide +kernel⟩
theorem sP (W:gc K "_law_mixed" "_law_mixed" jV f fd) {f29:Addr} {d29:FuncData} {cF:fK} (C29:fL P w K mg base k "_law_cell_at" ["_law_script","_law_k"] cF f29 d29) :
    bg P w K mg base (cP P w mg) (k+1) f fd ["_law_script","_law_k"] (dt (dB 3 (jB cF)) 2):=by
  refine aF W sY (G:=["_law_cell_at"]) (by decide +kernel) fun cdv A outer s H E hr T=>?_
  exact (ao (aO T 2 rfl (cB (ae (fx (ae (cc (ae (cc (ae (ar C29 hr T 0 rfl (af (aa T 0 rfl) (af (aa T 1 rfl) am)) rfl (ah (ah aq)))) (ae (fx (ae aj) (ae (aa T 1 rfl)))))) (ae aj))) (ae aj))) (ae aj)))
      (av (aM (cB (ae (cc (ae (cc (ae (fx (ae (aa T 2 rfl)) (ae (aa T 2 rfl)))) (ae (fx (ae aj) (ae (aa T 2 rfl)))))) (ae (aa T 1 rfl)))) (ae aj)))))
theorem sW:aY ["_law_number","_law_k","_law_drawn_here"] ["_law_number","_law_k"] (ak jT):=⟨rfl,rfl,rfl,by decide +kernel,rfl,by decide +kernel,by decide +kernel⟩
theorem sN (W:gc K "_law_drawn" "_law_drawn" jT f fd) :
    bg P w K mg base (cP P w mg) (k+1) f fd ["_law_number","_law_k"] (dt (dB 3 (jy)) 2):=by
  refine aF W sW (G:=[]) (by decide +kernel) fun cdv A outer s H E hr T=>?_
  exact (ao (aO T 2 rfl (cB (ae (fx (ae (cc (ae (cc (ae (aa T 0 rfl)) (ae (fx (ae aj) (ae (aa T 1 rfl)))))) (ae aj))) (ae aj))) (ae aj)))
      (av (aM (cB (ae (cc (ae (cc (ae (fx (ae (aa T 2 rfl)) (ae (aa T 2 rfl)))) (ae (fx (ae aj) (ae (aa T 2 rfl)))))) (ae (aa T 1 rfl)))) (ae aj)))))
theorem sX:aY ["_law_number","_law_count","_law_found","_law_k"] ["_law_number","_law_count"] (ak jU):=⟨rfl,rfl,rfl,by decide +kernel,rfl,by decide +kernel,by decide +kernel⟩
theorem sO (W:gc K "_law_goals" "_law_goals" jU f fd) {f31:Addr} {d31:FuncData} {aV:fK} (C31:fL P w K mg base k "_law_drawn" ["_law_number","_law_k"] aV f31 d31) (b_int:mg "int" = none) (b_range:mg "range" = none) (b_sorted:mg "sorted" = none) (b_tuple:mg "tuple" = none) :
    bg P w K mg base (cP P w mg) (k+1) f fd ["_law_number","_law_count"] (dt (dB 4 (jA aV)) 2):=by
  refine aF W sX (G:=["range","int","_law_drawn","tuple","sorted"]) (by decide +kernel) fun cdv A outer s H E hr T=>?_
  exact (ao (jE T 2 rfl mV)
      (ao (dA (have T:=T.nox;fw PassesOwn.never T.calm (fV T 0 rfl b_range (af (cc (ae (cc (ae aj) (ae (cB (ae (aa T 0 rfl)) (ae aj))))) (ae (fx (ae aj) (ae (xT T 1 rfl b_int (ae (rA T.hu (ae (cB (ae (io (ae (aa T 0 rfl)) (ae aj))) (ae aj))) (ae aj)))))))) am) (ah aq)) (aP T 3 rfl) (av (tq T 2 rfl (cB (ae (ar C31 hr T 2 rfl (af (aa T 0 rfl) (af (aa T 3 rfl) am)) rfl (ah (ah aq)))) (ae (aa T 1 rfl))) eD))))
      (av (aM (bF T 3 rfl b_tuple (cI (rC T 4 rfl b_sorted (eX T 2 rfl))))))))
theorem sZ:aY ["_law_number","_law_count","_law_high","_law_gain"] ["_law_number","_law_count","_law_high"] (ak jW):=⟨rfl,rfl,rfl,by decide +kernel,rfl,by decide +kernel,by decide +kernel⟩
theorem sQ (W:gc K "_law_place" "_law_place" jW f fd) {f31:Addr} {d31:FuncData} {aV:fK} (C31:fL P w K mg base k "_law_drawn" ["_law_number","_law_k"] aV f31 d31) {f32:Addr} {d32:FuncData} {dh:fK} (C32:fL P w K mg base k "_law_goals" ["_law_number","_law_count"] dh f32 d32) :
    bg P w K mg base (cP P w mg) (k+1) f fd ["_law_number","_law_count","_law_high"] (dt (dB 4 (jC aV dh)) 3):=by
  refine aF W sZ (G:=["_law_goals","_law_drawn"]) (by decide +kernel) fun cdv A outer s H E hr T=>?_
  exact (ao (aO T 3 rfl (fy (ae (cB (ae (io (ae (aa T 0 rfl)) (ae aj))) (ae aj))) (ae aj)))
      (ao (cJ (dO T.hu (ae (cB (ae (io (ae (aa T 0 rfl)) (ae aj))) (ae aj))) (ae aj)) (av (aO T 3 rfl (fy (ae (cB (ae (io (ae (aa T 0 rfl)) (ae aj))) (ae aj))) (ae aj)))) ci)
      (av (aM (fA (af (cB (ae (aa T 0 rfl)) (ae aj)) (af (cB (ae (io (ae (aa T 0 rfl)) (ae aj))) (ae (cc (ae (aa T 2 rfl)) (ae aj)))) (af (aa T 3 rfl) (af (ar C32 hr T 0 rfl (af (ar C31 hr T 1 rfl (af (aa T 0 rfl) (af aj am)) rfl (ah (ah aq))) (af (aa T 1 rfl) am)) rfl (ah (ah aq))) am)))))))))
theorem rn:aY ["_law_script","_law_most","_law_number","_law_count","_law_high"] ["_law_script","_law_most"] (ak gC):=⟨rfl,rfl,rfl,by decide +kernel,rfl,by decide +kernel,by decide +kernel⟩
theorem rb (W:gc K "_law_ground" "_law_ground" gC f fd) {f30:Addr} {d30:FuncData} {bA:fK} (C30:fL P w K mg base k "_law_mixed" ["_law_script","_law_k"] bA f30 d30) {f33:Addr} {d33:FuncData} {cT:fK} (C33:fL P w K mg base k "_law_place" ["_law_number","_law_count","_law_high"] cT f33 d33) (b_len:mg "len" = none) (b_max:mg "max" = none) (b_min:mg "min" = none) (b_range:mg "range" = none) (b_tuple:mg "tuple" = none) :
    bg P w K mg base (cP P w mg) (k+1) f fd ["_law_script","_law_most"] (dt (dB 5 (iL bA cT)) 2):=by
  refine aF W rn (G:=["_law_mixed","min","max","len","tuple","range"]) (by decide +kernel) fun cdv A outer s H E hr T=>?_
  exact (ao (aO T 2 rfl (ar C30 hr T 0 rfl (af (aa T 0 rfl) (af aj am)) rfl (ah (ah aq))))
      (ao (aO T 3 rfl (cc (ae aj) (ae (cB (ae (aa T 2 rfl)) (ae (tx T 1 rfl b_min (ae (aa T 1 rfl)) (ae (zO T 2 rfl b_max (ae aj) (ae (bZ T 3 rfl b_len (ae (aa T 0 rfl))))))))))))
      (ao (aO T 4 rfl (aD T.hu (cI (qe (af aj (af aj (af aj (af aj (af aj (af aj am)))))))) (ae (cB (ae (io (ae (aa T 2 rfl)) (ae aj))) (ae aj))) (fun _ _=>rfl)))
      (av (aM (bF T 4 rfl b_tuple (cI (bd (N:=["_law_k","_law_script","_law_count","_law_high"]) (own:=1) (G:=["_law_place","_law_mixed"]) (fr:=[0,3,4]) T rfl rfl (oN:=["_law_script","_law_most","_law_number","_law_count","_law_high"]) (on:=(ak gC).names) (by decide +kernel) (fV T 5 rfl b_range (af (aa T 3 rfl) am) (ah aq)) (br (by decide)) (fun cl C s' H' fp E' T=>⟨(aP T 0 rfl),cw,(ar C33 hr T 0 rfl (af (ar C30 hr T 1 rfl (af (aa T 1 rfl) (af (cc (ae aj) (ae (aa T 0 rfl))) am)) rfl (ah (ah aq))) (af (aa T 2 rfl) (af (aa T 3 rfl) am))) rfl (ah (ah (ah aq))))⟩)))))))))
theorem u7:aY ["_law_number","_law_count","_law_kind"] ["_law_number","_law_count"] (ak jc):=⟨rfl,rfl,rfl,by decide +kernel,rfl,by decide +kernel,by decide +kernel⟩
theorem uT (W:gc K "_law_some" "_law_some" jc f fd) {f31:Addr} {d31:FuncData} {aV:fK} (C31:fL P w K mg base k "_law_drawn" ["_law_number","_law_k"] aV f31 d31) (b_range:mg "range" = none) (b_tuple:mg "tuple" = none) :
    bg P w K mg base (cP P w mg) (k+1) f fd ["_law_number","_law_count"] (dt (dB 3 (kL aV)) 2):=by
  refine aF W u7 (G:=["tuple","range"]) (by decide +kernel) fun cdv A outer s H E hr T=>?_
  exact (ao (aO T 2 rfl (cB (ae (aa T 0 rfl)) (ae aj)))
      (av (aM (bF T 0 rfl b_tuple (cI (bd (N:=["_law_k","_law_kind","_law_number"]) (own:=1) (G:=["_law_drawn"]) (fr:=[2,0]) T rfl rfl (oN:=["_law_number","_law_count","_law_kind"]) (on:=(ak jc).names) (by decide +kernel) (fV T 1 rfl b_range (af (aa T 1 rfl) am) (ah aq)) (br (by decide)) (fun cl C s' H' fp E' T=>⟨(aP T 0 rfl),(dN (jZ (oC (dO T.hu (ae (aa T 1 rfl)) (ae aj)) (mm (tH (ae (cB (ae (ar C31 hr T 0 rfl (af (aa T 2 rfl) (af (aa T 0 rfl) am)) rfl (ah (ah aq)))) (ae aj))) (ae (aa T 1 rfl))))))),(aa T 0 rfl)⟩)))))))
theorem rq:aY ["place","goals"] ["place","goals"] (ak jg):=⟨rfl,rfl,rfl,by decide +kernel,rfl,by decide +kernel,by decide +kernel⟩
theorem rc (W:gc K "with_goals" "with_goals" jg f fd) {t_GAIN:Tok} (g_GAIN:mg "GAIN" = some (.int 2 t_GAIN)) {t_MARK:Tok} (g_MARK:mg "MARK" = some (.int 1 t_MARK)) {t_WHO:Tok} (g_WHO:mg "WHO" = some (.int 0 t_WHO)) (b_tuple:mg "tuple" = none) :
    bg P w K mg base (cP P w mg) (k+1) f fd ["place","goals"] (dt (dB 2 (iM)) 2):=by
  refine aF W rq (G:=["WHO","MARK","GAIN","tuple"]) (by decide +kernel) fun cdv A outer s H E hr T=>?_
  exact (av (aM (fA (af (aD T.hu (ae (aa T 0 rfl)) (ae (bz T 0 rfl g_WHO)) (fun _ _=>rfl)) (af (aD T.hu (ae (aa T 0 rfl)) (ae (bz T 1 rfl g_MARK)) (fun _ _=>rfl)) (af (aD T.hu (ae (aa T 0 rfl)) (ae (bz T 2 rfl g_GAIN)) (fun _ _=>rfl)) (af (bF T 3 rfl b_tuple (ae (aa T 1 rfl))) am)))))))
theorem zL:aY ["one","other","count"] ["one","other"] (ak lQ):=⟨rfl,rfl,rfl,by decide +kernel,rfl,by decide +kernel,by decide +kernel⟩
theorem zF (W:gc K "beside" "beside" lQ f fd) {f12:Addr} {d12:FuncData} {bh:fK} (C12:fL P w K mg base k "with_goals" ["place","goals"] bh f12 d12) {t_GOALS:Tok} (g_GOALS:mg "GOALS" = some (.int 3 t_GOALS)) {t_MOST_PLACES:Tok} (g_MOST_PLACES:mg "MOST_PLACES" = some (.int 24 t_MOST_PLACES)) (b_len:mg "len" = none) (b_tuple:mg "tuple" = none) {c_NoRoom:Addr} (m_NoRoom:mg "NoRoom" = some (.ref c_NoRoom)) (q_NoRoom:PySem.W.excIn K c_NoRoom BR BS=true) :
    bg P w K mg base (cP P w mg) (k+1) f fd ["one","other"] (dt (dB 3 (oh bh)) 2):=by
  refine aF W zL (G:=["len","MOST_PLACES","NoRoom","tuple"]) (by decide +kernel) fun cdv A outer s H E hr T=>?_
  exact (ao (aO T 2 rfl (bZ T 0 rfl b_len (ae (aa T 0 rfl))))
      (ao (cJ (gK (ae (cc (ae (aa T 2 rfl)) (ae (bZ T 0 rfl b_len (ae (aa T 1 rfl)))))) (ae (bz T 1 rfl g_MOST_PLACES))) (av (dZ T 2 rfl m_NoRoom q_NoRoom (have T:=T.nox;fW))) ci)
      (av (aM (cc (ae (aa T 0 rfl)) (ae (bF T 3 rfl b_tuple (cI (tG (N:=["place","count"]) (own:=1) (G:=["with_goals","GOALS"]) (fr:=[2]) T rfl rfl (oN:=["one","other","count"]) (on:=(ak lQ).names) (by decide +kernel) (bw (aa T 1 rfl)) (br (by decide)) (fun cl C s' H' fp E' T cap=>⟨(aP T 0 rfl),cw,(ar C12 hr T 0 rfl (af (aa T 0 rfl) (af (jY (tF (N:=["goal","count"]) (own:=1) (G:=[]) (fr:=[1]) T rfl cap (oN:=["place","count"]) (k:=1) (by decide +kernel) (bw (aD T.hu (ae (aa T 0 rfl)) (ae (bz T 1 rfl g_GOALS)) (fun _ _=>rfl))) (br (by decide)) (fun cl C s' H' fp E' T=>⟨(aP T 0 rfl),cw,(cc (ae (aa T 0 rfl)) (ae (aa T 1 rfl)))⟩))) am)) rfl (ah (ah aq)))⟩))))))))))
theorem u8:aY ["ground"] ["ground"] (ak jd):=⟨rfl,rfl,rfl,by decide +kernel,rfl,by decide +kernel,by decide +kernel⟩
theorem uU (W:gc K "marks_of" "marks_of" jd f fd) {t_MARK:Tok} (g_MARK:mg "MARK" = some (.int 1 t_MARK)) :
    bg P w K mg base (cP P w mg) (k+1) f fd ["ground"] (dt (dB 1 (kM)) 1):=by
  refine aF W u8 (G:=[]) (by decide +kernel) fun cdv A outer s H E hr T=>?_
  exact (av (aM (jY (bd (N:=["place"]) (own:=1) (G:=["MARK"]) (fr:=[]) T rfl rfl (oN:=["ground"]) (on:=(ak jd).names) (by decide +kernel) (bw (aa T 0 rfl)) (br (by decide)) (fun cl C s' H' fp E' T=>⟨(aP T 0 rfl),cw,(aD T.hu (ae (aa T 0 rfl)) (ae (bz T 0 rfl g_MARK)) (fun _ _=>rfl))⟩)))))
theorem sU:aY ["ground"] ["ground"] (ak hR):=⟨rfl,rfl,rfl,by decide +kernel,rfl,by decide +kernel,by decide +kernel⟩
theorem sL (W:gc K "exchanged" "exchanged" hR f fd) {f13:Addr} {d13:FuncData} {cn:fK} (C13:fL P w K mg base k "marks_of" ["ground"] cn f13 d13) {t_GAIN:Tok} (g_GAIN:mg "GAIN" = some (.int 2 t_GAIN)) {t_GOALS:Tok} (g_GOALS:mg "GOALS" = some (.int 3 t_GOALS)) {t_MARK:Tok} (g_MARK:mg "MARK" = some (.int 1 t_MARK)) {t_MOST_MARK:Tok} (g_MOST_MARK:mg "MOST_MARK" = some (.int 12 t_MOST_MARK)) {t_WHO:Tok} (g_WHO:mg "WHO" = some (.int 0 t_WHO)) (b_tuple:mg "tuple" = none) {c_NoMark:Addr} (m_NoMark:mg "NoMark" = some (.ref c_NoMark)) (q_NoMark:PySem.W.excIn K c_NoMark BR BS=true) :
    bg P w K mg base (cP P w mg) (k+1) f fd ["ground"] (dt (dB 1 (jw cn)) 1):=by
  refine aF W sU (G:=["MOST_MARK","marks_of","NoMark","tuple"]) (by decide +kernel) fun cdv A outer s H E hr T=>?_
  exact (ao (cJ (lx T.hu (ae (bz T 0 rfl g_MOST_MARK)) (ae (ar C13 hr T 1 rfl (af (aa T 0 rfl) am) rfl (ah aq))) (by with_unfolding_all rfl)) (av (dZ T 2 rfl m_NoMark q_NoMark (have T:=T.nox;fW))) ci)
      (av (aM (bF T 3 rfl b_tuple (cI (bd (N:=["place"]) (own:=1) (G:=["WHO","MARK","GAIN","GOALS"]) (fr:=[]) T rfl rfl (oN:=["ground"]) (on:=(ak hR).names) (by decide +kernel) (bw (aa T 0 rfl)) (br (by decide)) (fun cl C s' H' fp E' T=>⟨(aP T 0 rfl),cw,(fA (af (fy (ae aj) (ae (aD T.hu (ae (aa T 0 rfl)) (ae (bz T 0 rfl g_WHO)) (fun _ _=>rfl)))) (af (cc (ae (aD T.hu (ae (aa T 0 rfl)) (ae (bz T 1 rfl g_MARK)) (fun _ _=>rfl))) (ae aj)) (af (zP (ae (aD T.hu (ae (aa T 0 rfl)) (ae (bz T 2 rfl g_GAIN)) (fun _ _=>rfl)))) (af (aD T.hu (ae (aa T 0 rfl)) (ae (bz T 3 rfl g_GOALS)) (fun _ _=>rfl)) am)))))⟩)))))))
theorem u6:aY ["thing"] ["thing"] (ak lr):=⟨rfl,rfl,rfl,by decide +kernel,rfl,by decide +kernel,by decide +kernel⟩
theorem uS (W:gc K "is_whole" "is_whole" lr f fd) (b_bool:mg "bool" = none) (b_int:mg "int" = none) (b_isinstance:mg "isinstance" = none) :
    bg P w K mg base (cP P w mg) (k+1) f fd ["thing"] (dt (dB 1 (oo)) 1):=by
  refine aF W u6 (G:=["isinstance","int","bool"]) (by decide +kernel) fun cdv A outer s H E hr T=>?_
  exact (av (aM (tu (rB T 0 rfl b_isinstance T 1 rfl b_int (ae (aa T 0 rfl))) (tD (zQ (pV T 0 rfl b_isinstance T 2 rfl b_bool (ae (aa T 0 rfl))))))))
theorem rm:aY ["thing","low","high"] ["thing","low","high"] (ak jb):=⟨rfl,rfl,rfl,by decide +kernel,rfl,by decide +kernel,by decide +kernel⟩
theorem qZ (W:gc K "is_between" "is_between" jb f fd) {f0:Addr} {d0:FuncData} {dY:fK} (C0:fL P w K mg base k "is_whole" ["thing"] dY f0 d0) :
    bg P w K mg base (cP P w mg) (k+1) f fd ["thing","low","high"] (dt (dB 3 (iK dY)) 3):=by
  refine aF W rm (G:=["is_whole"]) (by decide +kernel) fun cdv A outer s H E hr T=>?_
  exact (av (aM (tu (ar C0 hr T 0 rfl (af (aa T 0 rfl) am) rfl (ah aq)) (tD (vf AV mT AV mT (ae (aa T 1 rfl)) (ae (aa T 0 rfl)) (ae (aa T 2 rfl)))))))
theorem u5:aY ["thing","count","least","number"] ["thing","count"] (ak lh):=⟨rfl,rfl,rfl,by decide +kernel,rfl,by decide +kernel,by decide +kernel⟩
theorem uR (W:gc K "are_some" "are_some" lh f fd) {f1:Addr} {d1:FuncData} {cE:fK} (C1:fL P w K mg base k "is_between" ["thing","low","high"] cE f1 d1) (b_isinstance:mg "isinstance" = none) (b_tuple:mg "tuple" = none) :
    bg P w K mg base (cP P w mg) (k+1) f fd ["thing","count"] (dt (dB 4 (kK cE)) 2):=by
  refine aF W u5 (G:=["isinstance","tuple","is_between"]) (by decide +kernel) fun cdv A outer s H E hr T=>?_
  exact (ao (cJ (e9 (eF (oz T 0 rfl b_isinstance T 1 rfl b_tuple (ae (aa T 0 rfl))))) (av (aM eD)) ci)
      (ao (aO T 2 rfl aj)
      (ao (dA (have T:=T.nox;fw PassesOwn.never T.calm (bw (aa T 0 rfl)) (aP T 3 rfl) (ao (cJ (e9 (eF (ar C1 hr T 2 rfl (af (aa T 3 rfl) (af (aa T 2 rfl) (af (fy (ae (aa T 1 rfl)) (ae aj)) am))) rfl (ah (ah (ah aq)))))) (av (aM eD)) ci)
      (av (aO T 2 rfl (cc (ae (aa T 3 rfl)) (ae aj)))))))
      (av (aM eD)))))
theorem zM:aY ["some","others"] ["some","others"] (ak lS):=⟨rfl,rfl,rfl,by decide +kernel,rfl,by decide +kernel,by decide +kernel⟩
theorem zG (W:gc K "common" "common" lS f fd) (b_tuple:mg "tuple" = none) :
    bg P w K mg base (cP P w mg) (k+1) f fd ["some","others"] (dt (dB 2 (om)) 2):=by
  refine aF W zM (G:=["tuple"]) (by decide +kernel) fun cdv A outer s H E hr T=>?_
  exact (av (aM (bF T 0 rfl b_tuple (cI (bd (N:=["number","others"]) (own:=1) (G:=[]) (fr:=[1]) T rfl rfl (oN:=["some","others"]) (on:=(ak lS).names) (by decide +kernel) (bw (aa T 0 rfl)) (br (by decide)) (fun cl C s' H' fp E' T=>⟨(aP T 0 rfl),(dN (lx T.hu (ae (aa T 0 rfl)) (ae (aa T 1 rfl)) (by with_unfolding_all rfl))),(aa T 0 rfl)⟩))))))
theorem nK:aY ["ground","inside"] ["ground","inside"] (ak eV):=⟨rfl,rfl,rfl,by decide +kernel,rfl,by decide +kernel,by decide +kernel⟩
theorem nD (W:gc K "is_whole_part" "is_whole_part" eV f fd) {f4:Addr} {d4:FuncData} {bo:fK} (C4:fL P w K mg base k "common" ["some","others"] bo f4 d4) {t_GOALS:Tok} (g_GOALS:mg "GOALS" = some (.int 3 t_GOALS)) (b_all:mg "all" = none) (b_len:mg "len" = none) :
    bg P w K mg base (cP P w mg) (k+1) f fd ["ground","inside"] (dt (dB 2 (ge bo)) 2):=by
  refine aF W nK (G:=["all"]) (by decide +kernel) fun cdv A outer s H E hr T=>?_
  exact (av (aM (tt T 0 rfl b_all (cI (bd (N:=["number","ground","inside"]) (own:=1) (G:=["len","common","GOALS"]) (fr:=[0,1]) T rfl rfl (oN:=["ground","inside"]) (on:=(ak eV).names) (by decide +kernel) (bw (aa T 1 rfl)) (br (by decide)) (fun cl C s' H' fp E' T=>⟨(aP T 0 rfl),cw,(wB (ae (bZ T 0 rfl b_len (ae (ar C4 hr T 1 rfl (af (aD T.hu (ae (aD T.hu (ae (aa T 1 rfl)) (ae (aa T 0 rfl)) (fun _ _=>rfl))) (ae (bz T 2 rfl g_GOALS)) (fun _ _=>rfl)) (af (aa T 2 rfl) am)) rfl (ah (ah aq)))))) (ae aj))⟩))))))
theorem xM:aY ["some","others"] ["some","others"] (ak km):=⟨rfl,rfl,rfl,by decide +kernel,rfl,by decide +kernel,by decide +kernel⟩
theorem xH (W:gc K "without" "without" km f fd) (b_tuple:mg "tuple" = none) :
    bg P w K mg base (cP P w mg) (k+1) f fd ["some","others"] (dt (dB 2 (l9)) 2):=by
  refine aF W xM (G:=["tuple"]) (by decide +kernel) fun cdv A outer s H E hr T=>?_
  exact (av (aM (bF T 0 rfl b_tuple (cI (bd (N:=["number","others"]) (own:=1) (G:=[]) (fr:=[1]) T rfl rfl (oN:=["some","others"]) (on:=(ak km).names) (by decide +kernel) (bw (aa T 0 rfl)) (br (by decide)) (fun cl C s' H' fp E' T=>⟨(aP T 0 rfl),(dN (tI T.hu (ae (aa T 0 rfl)) (ae (aa T 1 rfl)) (by with_unfolding_all rfl))),(aa T 0 rfl)⟩))))))
theorem rj:aY ["ground","inside","some"] ["ground","inside","some"] (ak ja):=⟨rfl,rfl,rfl,by decide +kernel,rfl,by decide +kernel,by decide +kernel⟩
theorem qX (W:gc K "check_part" "check_part" ja f fd) {f2:Addr} {d2:FuncData} {bY:fK} (C2:fL P w K mg base k "are_some" ["thing","count"] bY f2 d2) {f6:Addr} {d6:FuncData} {bc:fK} (C6:fL P w K mg base k "is_whole_part" ["ground","inside"] bc f6 d6) {f5:Addr} {d5:FuncData} {aZ:fK} (C5:fL P w K mg base k "without" ["some","others"] aZ f5 d5) (b_len:mg "len" = none) {c_NoPart:Addr} (m_NoPart:mg "NoPart" = some (.ref c_NoPart)) (q_NoPart:PySem.W.excIn K c_NoPart BR BS=true) :
    bg P w K mg base (cP P w mg) (k+1) f fd ["ground","inside","some"] (dt (dB 3 (iI bY bc aZ)) 3):=by
  refine aF W rj (G:=["are_some","len","NoPart","without","is_whole_part"]) (by decide +kernel) fun cdv A outer s H E hr T=>?_
  exact (ao (cJ (e9 (eF (ar C2 hr T 0 rfl (af (aa T 1 rfl) (af (bZ T 1 rfl b_len (ae (aa T 0 rfl))) am)) rfl (ah (ah aq))))) (av (dZ T 2 rfl m_NoPart q_NoPart (have T:=T.nox;fW))) ci)
      (ao (cJ (e9 (eF (ar C2 hr T 0 rfl (af (aa T 2 rfl) (af (bZ T 1 rfl b_len (ae (aa T 0 rfl))) am)) rfl (ah (ah aq))))) (av (dZ T 2 rfl m_NoPart q_NoPart (have T:=T.nox;fW))) ci)
      (ao (cJ (gK (ae (bZ T 1 rfl b_len (ae (ar C5 hr T 3 rfl (af (aa T 2 rfl) (af (aa T 1 rfl) am)) rfl (ah (ah aq)))))) (ae aj)) (av (dZ T 2 rfl m_NoPart q_NoPart (have T:=T.nox;fW))) ci)
      (av (cJ (e9 (eF (ar C6 hr T 4 rfl (af (aa T 0 rfl) (af (aa T 1 rfl) am)) rfl (ah (ah aq))))) (av (dZ T 2 rfl m_NoPart q_NoPart (have T:=T.nox;fW))) ci)))))
theorem zN:aY ["ranks"] ["ranks"] (ak lT):=⟨rfl,rfl,rfl,by decide +kernel,rfl,by decide +kernel,by decide +kernel⟩
theorem zH (W:gc K "ranked" "ranked" lT f fd) (b_enumerate:mg "enumerate" = none) (b_tuple:mg "tuple" = none) :
    bg P w K mg base (cP P w mg) (k+1) f fd ["ranks"] (dt (dB 1 (oq)) 1):=by
  refine aF W zN (G:=["tuple","enumerate"]) (by decide +kernel) fun cdv A outer s H E hr T=>?_
  exact (av (aM (bF T 0 rfl b_tuple (cI (bd (N:=["number","rank"]) (own:=2) (G:=[]) (fr:=[]) T rfl rfl (oN:=["ranks"]) (on:=(ak lT).names) (by decide +kernel) (mh T 1 rfl b_enumerate (aa T 0 rfl)) (ir (by decide) (by decide)) (fun cl C s' H' fp E' T=>⟨(il T 0 1 rfl rfl),(dN (oB (ae (aa T 1 rfl)) (ae eE))),(aa T 0 rfl)⟩))))))
theorem sV:aY ["place","ways","who","ranks","known"] ["place","ways","who","ranks"] (ak hU):=⟨rfl,rfl,rfl,by decide +kernel,rfl,by decide +kernel,by decide +kernel⟩
theorem sM (W:gc K "is_forced" "is_forced" hU f fd) {t_WHO:Tok} (g_WHO:mg "WHO" = some (.int 0 t_WHO)) (b_len:mg "len" = none) :
    bg P w K mg base (cP P w mg) (k+1) f fd ["place","ways","who","ranks"] (dt (dB 5 (jx)) 4):=by
  refine aF W sV (G:=["WHO","len"]) (by decide +kernel) fun cdv A outer s H E hr T=>?_
  exact (ao (jD (fN 4 rfl (N:=["goal","ranks"]) (own:=1) (G:=[]) (fr:=[3]) T rfl rfl (oN:=["place","ways","who","ranks","known"]) (on:=(ak hU).names) (by decide +kernel) (bw (aa T 1 rfl)) (br (by decide)) (fun cl C s' H' fp E' T=>⟨(aP T 0 rfl),(dN (oB (ae (aD T.hu (ae (aa T 1 rfl)) (ae (aa T 0 rfl)) (fun _ _=>rfl))) (ae eE))),(aa T 0 rfl)⟩)) (show 4 < 5 by decide))
      (ao (cJ (dO T.hu (ae (aD T.hu (ae (aa T 0 rfl)) (ae (bz T 0 rfl g_WHO)) (fun _ _=>rfl))) (ae (aa T 2 rfl))) (av (aM (wB (ae (bZ T 1 rfl b_len (ae (aa T 4 rfl)))) (ae aj)))) ci)
      (av (aM (rA T.hu (ae (bZ T 1 rfl b_len (ae (aa T 4 rfl)))) (ae (bZ T 1 rfl b_len (ae (aa T 1 rfl)))))))))
theorem vb:aY ["ground","inside","who","goals","ways","ranks","rank","found","unranked","number"] ["ground","inside","who","goals"] (ak e8):=⟨rfl,rfl,rfl,by decide +kernel,rfl,by decide +kernel,by decide +kernel⟩
theorem uX (W:gc K "ranks_to" "ranks_to" e8 f fd) {f4:Addr} {d4:FuncData} {bo:fK} (C4:fL P w K mg base k "common" ["some","others"] bo f4 d4) {f21:Addr} {d21:FuncData} {cs:fK} (C21:fL P w K mg base k "is_forced" ["place","ways","who","ranks"] cs f21 d21) {t_GOALS:Tok} (g_GOALS:mg "GOALS" = some (.int 3 t_GOALS)) (b_len:mg "len" = none) (b_list:mg "list" = none) (b_range:mg "range" = none) (b_tuple:mg "tuple" = none) :
    bg P w K mg base (cP P w mg) (k+1) f fd ["ground","inside","who","goals"] (dt (dB 10 (kP bo cs)) 4):=by
  refine aF W vb (G:=["range","len","list","tuple"]) (by decide +kernel) fun cdv A outer s H E hr T=>?_
  exact (ao (aO T 4 rfl (jY (bd (N:=["place","inside"]) (own:=1) (G:=["common","GOALS"]) (fr:=[1]) T rfl rfl (oN:=["ground","inside","who","goals","ways","ranks","rank","found","unranked","number"]) (on:=(ak e8).names) (by decide +kernel) (bw (aa T 0 rfl)) (br (by decide)) (fun cl C s' H' fp E' T=>⟨(aP T 0 rfl),cw,(ar C4 hr T 0 rfl (af (aD T.hu (ae (aa T 0 rfl)) (ae (bz T 1 rfl g_GOALS)) (fun _ _=>rfl)) (af (aa T 1 rfl) am)) rfl (ah (ah aq)))⟩))))
      (ao (jE T 5 rfl (bd (N:=["number","goals"]) (own:=1) (G:=[]) (fr:=[3]) T rfl rfl (oN:=["ground","inside","who","goals","ways","ranks","rank","found","unranked","number"]) (on:=(ak e8).names) (by decide +kernel) (fV T 0 rfl b_range (af (bZ T 1 rfl b_len (ae (aa T 0 rfl))) am) (ah aq)) (br (by decide)) (fun cl C s' H' fp E' T=>⟨(aP T 0 rfl),cw,(kR (lx T.hu (ae (aa T 0 rfl)) (ae (aa T 1 rfl)) (by with_unfolding_all rfl)) aj eE)⟩)))
      (ao (aO T 6 rfl aj)
      (ao (aO T 7 rfl (jY (oA T 2 rfl b_list (ae (aa T 3 rfl)))))
      (ao (dA (have T:=T.nox;oy 1000000 PassesOwn.never (gK (ae (bZ T 1 rfl b_len (ae (aa T 7 rfl)))) (ae aj)) (ao (xQ T 6 rfl aj)
      (ao (jD (fN 8 rfl (N:=["number","ranks"]) (own:=1) (G:=[]) (fr:=[5]) T rfl rfl (oN:=["ground","inside","who","goals","ways","ranks","rank","found","unranked","number"]) (on:=(ak e8).names) (by decide +kernel) (bw (aa T 1 rfl)) (br (by decide)) (fun cl C s' H' fp E' T=>⟨(aP T 0 rfl),(dN (qf (ae (aD T.hu (eX T 1 rfl) (ae (aa T 0 rfl)) (fun _ _=>rfl))) (ae eE))),(aa T 0 rfl)⟩)) (show 8 < 10 by decide))
      (ao (jD (fN 7 rfl (N:=["number","ground","ways","who","ranks"]) (own:=1) (G:=["is_forced"]) (fr:=[0,4,2,5]) T rfl rfl (oN:=["ground","inside","who","goals","ways","ranks","rank","found","unranked","number"]) (on:=(ak e8).names) (by decide +kernel) (bw (aa T 8 rfl)) (br (by decide)) (fun cl C s' H' fp E' T=>⟨(aP T 0 rfl),(dN (eF (ve 4 (ar C21 hr T 0 rfl (af (aD T.hu (ae (aa T 1 rfl)) (ae (aa T 0 rfl)) (fun _ _=>rfl)) (af (aD T.hu (ae (aa T 2 rfl)) (ae (aa T 0 rfl)) (fun _ _=>rfl)) (af (aa T 3 rfl) (af (aa T 4 rfl) am)))) rfl (ah (ah (ah (ah aq)))))))),(aa T 0 rfl)⟩)) (show 7 < 10 by decide))
      (av (dA (have T:=T.nox;fw PassesOwn.never T.calm (bw (aa T 7 rfl)) (aP T 9 rfl) (av (j6 T 5 rfl (have T:=T.nox;(aa T 9 rfl)) (aa T 6 rfl)))))))))))
      (av (aM (bF T 3 rfl b_tuple (eX T 5 rfl)))))))))
theorem va:aY ["ground"] ["ground"] (ak jf):=⟨rfl,rfl,rfl,by decide +kernel,rfl,by decide +kernel,by decide +kernel⟩
theorem uW (W:gc K "no_moves" "no_moves" jf f fd) (b_tuple:mg "tuple" = none) :
    bg P w K mg base (cP P w mg) (k+1) f fd ["ground"] (dt (dB 1 (kO)) 1):=by
  refine aF W va (G:=["tuple"]) (by decide +kernel) fun cdv A outer s H E hr T=>?_
  exact (av (aM (bF T 0 rfl b_tuple (cI (bd (N:=["place"]) (own:=1) (G:=[]) (fr:=[]) T rfl rfl (oN:=["ground"]) (on:=(ak jf).names) (by decide +kernel) (bw (aa T 0 rfl)) (br (by decide)) (fun cl C s' H' fp E' T=>⟨(aP T 0 rfl),cw,eE⟩))))))
theorem nO:aY ["ground","who","part","moves","number"] ["ground","who","part"] (ak gp):=⟨rfl,rfl,rfl,by decide +kernel,rfl,by decide +kernel,by decide +kernel⟩
theorem nH (W:gc K "staying_moves" "staying_moves" gp f fd) {f4:Addr} {d4:FuncData} {bo:fK} (C4:fL P w K mg base k "common" ["some","others"] bo f4 d4) {f7:Addr} {d7:FuncData} {cq:fK} (C7:fL P w K mg base k "no_moves" ["ground"] cq f7 d7) {t_GOALS:Tok} (g_GOALS:mg "GOALS" = some (.int 3 t_GOALS)) {t_WHO:Tok} (g_WHO:mg "WHO" = some (.int 0 t_WHO)) (b_list:mg "list" = none) (b_tuple:mg "tuple" = none) :
    bg P w K mg base (cP P w mg) (k+1) f fd ["ground","who","part"] (dt (dB 5 (gj bo cq)) 3):=by
  refine aF W nO (G:=["list","no_moves","WHO","common","GOALS","tuple"]) (by decide +kernel) fun cdv A outer s H E hr T=>?_
  exact (ao (jE T 3 rfl (oA T 0 rfl b_list (ae (ar C7 hr T 1 rfl (af (aa T 0 rfl) am) rfl (ah aq)))))
      (ao (dA (have T:=T.nox;fw PassesOwn.never T.calm (bw (aa T 2 rfl)) (aP T 4 rfl) (av (cJ (dO T.hu (ae (aD T.hu (ae (aD T.hu (ae (aa T 0 rfl)) (ae (aa T 4 rfl)) (fun _ _=>rfl))) (ae (bz T 2 rfl g_WHO)) (fun _ _=>rfl))) (ae (aa T 1 rfl))) (av (j6 T 3 rfl (have T:=T.nox;(aa T 4 rfl)) (aD T.hu (ae (ar C4 hr T 3 rfl (af (aD T.hu (ae (aD T.hu (ae (aa T 0 rfl)) (ae (aa T 4 rfl)) (fun _ _=>rfl))) (ae (bz T 4 rfl g_GOALS)) (fun _ _=>rfl)) (af (aa T 2 rfl) am)) rfl (ah (ah aq)))) (ae aj) (fun _ _=>rfl)))) ci))))
      (av (aM (bF T 5 rfl b_tuple (eX T 3 rfl))))))
theorem EC:aY ["ground","inside","who","places","ranks","part"] ["ground","inside","who","places"] (ak v7):=⟨rfl,rfl,rfl,by decide +kernel,rfl,by decide +kernel,by decide +kernel⟩
theorem Ey (W:gc K "kept" "kept" v7 f fd) {f20:Addr} {d20:FuncData} {cS:fK} (C20:fL P w K mg base k "check_part" ["ground","inside","some"] cS f20 d20) {f23:Addr} {d23:FuncData} {bS:fK} (C23:fL P w K mg base k "ranked" ["ranks"] bS f23 d23) {f22:Addr} {d22:FuncData} {bQ:fK} (C22:fL P w K mg base k "ranks_to" ["ground","inside","who","goals"] bQ f22 d22) {f10:Addr} {d10:FuncData} {aW:fK} (C10:fL P w K mg base k "staying_moves" ["ground","who","part"] aW f10 d10) {f5:Addr} {d5:FuncData} {aZ:fK} (C5:fL P w K mg base k "without" ["some","others"] aZ f5 d5) :
    bg P w K mg base (cP P w mg) (k+1) f fd ["ground","inside","who","places"] (dt (dB 6 (u4 cS bS bQ aW aZ)) 4):=by
  refine aF W EC (G:=["check_part","ranks_to","without","ranked","staying_moves"]) (by decide +kernel) fun cdv A outer s H E hr T=>?_
  exact (ao (xR (ae (ar C20 hr T 0 rfl (af (aa T 0 rfl) (af (aa T 1 rfl) (af (aa T 3 rfl) am))) rfl (ah (ah (ah aq))))))
      (ao (aO T 4 rfl (ar C22 hr T 1 rfl (af (aa T 0 rfl) (af (aa T 1 rfl) (af (fy (ae aj) (ae (aa T 2 rfl))) (af (ar C5 hr T 2 rfl (af (aa T 1 rfl) (af (aa T 3 rfl) am)) rfl (ah (ah aq))) am)))) rfl (ah (ah (ah (ah aq))))))
      (ao (aO T 5 rfl (ar C5 hr T 2 rfl (af (aa T 1 rfl) (af (ar C23 hr T 3 rfl (af (aa T 4 rfl) am) rfl (ah aq)) am)) rfl (ah (ah aq))))
      (av (aM (fA (af (aa T 5 rfl) (af (ar C10 hr T 4 rfl (af (aa T 0 rfl) (af (aa T 2 rfl) (af (aa T 5 rfl) am))) rfl (ah (ah (ah aq)))) am))))))))
theorem rl:aY ["place","inside"] ["place","inside"] (ak gB):=⟨rfl,rfl,rfl,by decide +kernel,rfl,by decide +kernel,by decide +kernel⟩
theorem qY (W:gc K "goals_anew" "goals_anew" gB f fd) {f4:Addr} {d4:FuncData} {bo:fK} (C4:fL P w K mg base k "common" ["some","others"] bo f4 d4) {t_GOALS:Tok} (g_GOALS:mg "GOALS" = some (.int 3 t_GOALS)) :
    bg P w K mg base (cP P w mg) (k+1) f fd ["place","inside"] (dt (dB 2 (iJ bo)) 2):=by
  refine aF W rl (G:=["common","GOALS"]) (by decide +kernel) fun cdv A outer s H E hr T=>?_
  exact (av (aM (jY (bd (N:=["goal","inside"]) (own:=1) (G:=[]) (fr:=[1]) T rfl rfl (oN:=["place","inside"]) (on:=(ak gB).names) (by decide +kernel) (bw (ar C4 hr T 0 rfl (af (aD T.hu (ae (aa T 0 rfl)) (ae (bz T 1 rfl g_GOALS)) (fun _ _=>rfl)) (af (aa T 1 rfl) am)) rfl (ah (ah aq)))) (br (by decide)) (fun cl C s' H' fp E' T=>⟨(aP T 0 rfl),cw,(tw (ae (aa T 1 rfl)) (aa T 0 rfl))⟩)))))
theorem xK:aY ["ground","inside"] ["ground","inside"] (ak kj):=⟨rfl,rfl,rfl,by decide +kernel,rfl,by decide +kernel,by decide +kernel⟩
theorem xF (W:gc K "part_of" "part_of" kj f fd) {f2:Addr} {d2:FuncData} {bY:fK} (C2:fL P w K mg base k "are_some" ["thing","count"] bY f2 d2) {f18:Addr} {d18:FuncData} {cv:fK} (C18:fL P w K mg base k "goals_anew" ["place","inside"] cv f18 d18) {f6:Addr} {d6:FuncData} {bc:fK} (C6:fL P w K mg base k "is_whole_part" ["ground","inside"] bc f6 d6) {f12:Addr} {d12:FuncData} {bh:fK} (C12:fL P w K mg base k "with_goals" ["place","goals"] bh f12 d12) (b_len:mg "len" = none) (b_tuple:mg "tuple" = none) {c_NoPart:Addr} (m_NoPart:mg "NoPart" = some (.ref c_NoPart)) (q_NoPart:PySem.W.excIn K c_NoPart BR BS=true) :
    bg P w K mg base (cP P w mg) (k+1) f fd ["ground","inside"] (dt (dB 2 (l7 bY cv bc bh)) 2):=by
  refine aF W xK (G:=["are_some","len","NoPart","is_whole_part","tuple"]) (by decide +kernel) fun cdv A outer s H E hr T=>?_
  exact (ao (cJ (jZ (oC (e9 (eF (ar C2 hr T 0 rfl (af (aa T 1 rfl) (af (bZ T 1 rfl b_len (ae (aa T 0 rfl))) am)) rfl (ah (ah aq))))) (mm (dO T.hu (ae (bZ T 1 rfl b_len (ae (aa T 1 rfl)))) (ae aj))))) (av (dZ T 2 rfl m_NoPart q_NoPart (have T:=T.nox;fW))) ci)
      (ao (cJ (e9 (eF (ar C6 hr T 3 rfl (af (aa T 0 rfl) (af (aa T 1 rfl) am)) rfl (ah (ah aq))))) (av (dZ T 2 rfl m_NoPart q_NoPart (have T:=T.nox;fW))) ci)
      (av (aM (bF T 4 rfl b_tuple (cI (bd (N:=["number","ground","inside"]) (own:=1) (G:=["with_goals","goals_anew"]) (fr:=[0,1]) T rfl rfl (oN:=["ground","inside"]) (on:=(ak kj).names) (by decide +kernel) (bw (aa T 1 rfl)) (br (by decide)) (fun cl C s' H' fp E' T=>⟨(aP T 0 rfl),cw,(ar C12 hr T 0 rfl (af (aD T.hu (ae (aa T 1 rfl)) (ae (aa T 0 rfl)) (fun _ _=>rfl)) (af (ar C18 hr T 1 rfl (af (aD T.hu (ae (aa T 1 rfl)) (ae (aa T 0 rfl)) (fun _ _=>rfl)) (af (aa T 2 rfl) am)) rfl (ah (ah aq))) am)) rfl (ah (ah aq)))⟩))))))))
theorem nM:aY ["marks","stands","least","mark"] ["marks"] (ak gn):=⟨rfl,rfl,rfl,by decide +kernel,rfl,by decide +kernel,by decide +kernel⟩
theorem nF (W:gc K "pressed_marks" "pressed_marks" gn f fd) (b_set:mg "set" = none) (b_sorted:mg "sorted" = none) :
    bg P w K mg base (cP P w mg) (k+1) f fd ["marks"] (dt (dB 4 (gg)) 1):=by
  refine aF W nM (G:=["sorted","set"]) (by decide +kernel) fun cdv A outer s H E hr T=>?_
  exact (ao (jE T 1 rfl mV)
      (ao (aO T 2 rfl aj)
      (ao (dA (have T:=T.nox;fw PassesOwn.never T.calm (bw (jY (zR T 0 1 rfl b_sorted rfl b_set (ae (aa T 0 rfl))))) (aP T 3 rfl) (ao (tq T 1 rfl (aa T 3 rfl) (cc (ae (aa T 2 rfl)) (ae (cB (ae (fy (ae (aa T 3 rfl)) (ae (aa T 2 rfl)))) (ae aj)))))
      (av (aO T 2 rfl (cc (ae (aD T.hu (eX T 1 rfl) (ae (aa T 3 rfl)) (fun _ _=>rfl))) (ae aj)))))))
      (av (xS T 1 rfl)))))
theorem xL:aY ["ground","stands"] ["ground"] (ak kl):=⟨rfl,rfl,rfl,by decide +kernel,rfl,by decide +kernel,by decide +kernel⟩
theorem xG (W:gc K "pressed" "pressed" kl f fd) {f13:Addr} {d13:FuncData} {cn:fK} (C13:fL P w K mg base k "marks_of" ["ground"] cn f13 d13) {f15:Addr} {d15:FuncData} {cj:fK} (C15:fL P w K mg base k "pressed_marks" ["marks"] cj f15 d15) {t_GAIN:Tok} (g_GAIN:mg "GAIN" = some (.int 2 t_GAIN)) {t_GOALS:Tok} (g_GOALS:mg "GOALS" = some (.int 3 t_GOALS)) {t_MARK:Tok} (g_MARK:mg "MARK" = some (.int 1 t_MARK)) {t_WHO:Tok} (g_WHO:mg "WHO" = some (.int 0 t_WHO)) (b_tuple:mg "tuple" = none) :
    bg P w K mg base (cP P w mg) (k+1) f fd ["ground"] (dt (dB 2 (l8 cn cj)) 1):=by
  refine aF W xL (G:=["pressed_marks","marks_of","tuple"]) (by decide +kernel) fun cdv A outer s H E hr T=>?_
  exact (ao (aO T 1 rfl (ar C15 hr T 0 rfl (af (ar C13 hr T 1 rfl (af (aa T 0 rfl) am) rfl (ah aq)) am) rfl (ah aq)))
      (av (aM (bF T 2 rfl b_tuple (cI (bd (N:=["place","stands"]) (own:=1) (G:=["WHO","MARK","GAIN","GOALS"]) (fr:=[1]) T rfl rfl (oN:=["ground","stands"]) (on:=(ak kl).names) (by decide +kernel) (bw (aa T 0 rfl)) (br (by decide)) (fun cl C s' H' fp E' T=>⟨(aP T 0 rfl),cw,(fA (af (aD T.hu (ae (aa T 0 rfl)) (ae (bz T 0 rfl g_WHO)) (fun _ _=>rfl)) (af (aD T.hu (ae (aa T 1 rfl)) (ae (aD T.hu (ae (aa T 0 rfl)) (ae (bz T 1 rfl g_MARK)) (fun _ _=>rfl))) (fun _ _=>rfl)) (af (aD T.hu (ae (aa T 0 rfl)) (ae (bz T 2 rfl g_GAIN)) (fun _ _=>rfl)) (af (aD T.hu (ae (aa T 0 rfl)) (ae (bz T 3 rfl g_GOALS)) (fun _ _=>rfl)) am)))))⟩)))))))
theorem rh:aY ["ground"] ["ground"] (ak i9):=⟨rfl,rfl,rfl,by decide +kernel,rfl,by decide +kernel,by decide +kernel⟩
theorem qW (W:gc K "all_places" "all_places" i9 f fd) (b_len:mg "len" = none) (b_range:mg "range" = none) (b_tuple:mg "tuple" = none) :
    bg P w K mg base (cP P w mg) (k+1) f fd ["ground"] (dt (dB 1 (iH)) 1):=by
  refine aF W rh (G:=["tuple","range","len"]) (by decide +kernel) fun cdv A outer s H E hr T=>?_
  exact (av (aM (qd T 0 rfl b_tuple 1 rfl b_range (af (bZ T 2 rfl b_len (ae (aa T 0 rfl))) am))))
theorem u9:aY ["moves","places"] ["moves","places"] (ak je):=⟨rfl,rfl,rfl,by decide +kernel,rfl,by decide +kernel,by decide +kernel⟩
theorem uV (W:gc K "moves_at" "moves_at" je f fd) (b_enumerate:mg "enumerate" = none) (b_tuple:mg "tuple" = none) :
    bg P w K mg base (cP P w mg) (k+1) f fd ["moves","places"] (dt (dB 2 (kN)) 2):=by
  refine aF W u9 (G:=["tuple","enumerate"]) (by decide +kernel) fun cdv A outer s H E hr T=>?_
  exact (av (aM (bF T 0 rfl b_tuple (cI (bd (N:=["number","move","places"]) (own:=2) (G:=[]) (fr:=[1]) T rfl rfl (oN:=["moves","places"]) (on:=(ak je).names) (by decide +kernel) (mh T 1 rfl b_enumerate (aa T 0 rfl)) (ir (by decide) (by decide)) (fun cl C s' H' fp E' T=>⟨(il T 0 1 rfl rfl),cw,(kR (lx T.hu (ae (aa T 0 rfl)) (ae (aa T 2 rfl)) (by with_unfolding_all rfl)) (aa T 1 rfl) eE)⟩))))))
theorem nL:aY ["moves","others"] ["moves","others"] (ak eW):=⟨rfl,rfl,rfl,by decide +kernel,rfl,by decide +kernel,by decide +kernel⟩
theorem nE (W:gc K "moves_of_both" "moves_of_both" eW f fd) (b_tuple:mg "tuple" = none) (b_zip:mg "zip" = none) :
    bg P w K mg base (cP P w mg) (k+1) f fd ["moves","others"] (dt (dB 2 (gf)) 2):=by
  refine aF W nL (G:=["tuple","zip"]) (by decide +kernel) fun cdv A outer s H E hr T=>?_
  exact (av (aM (bF T 0 rfl b_tuple (cI (bd (N:=["move","other"]) (own:=2) (G:=[]) (fr:=[]) T rfl rfl (oN:=["moves","others"]) (on:=(ak eW).names) (by decide +kernel) (tj T 1 rfl b_zip (aa T 0 rfl) (aa T 1 rfl)) (ir (by decide) (by decide)) (fun cl C s' H' fp E' T=>⟨(il T 0 1 rfl rfl),cw,(kR (qf (ae (aa T 0 rfl)) (ae eE)) (aa T 1 rfl) (aa T 0 rfl))⟩))))))
theorem nN:aY ["ground","who","ranks","moves","number"] ["ground","who","ranks"] (ak dQ):=⟨rfl,rfl,rfl,by decide +kernel,rfl,by decide +kernel,by decide +kernel⟩
theorem nG (W:gc K "pulling_moves" "pulling_moves" dQ f fd) {f23:Addr} {d23:FuncData} {bS:fK} (C23:fL P w K mg base k "ranked" ["ranks"] bS f23 d23) {t_GOALS:Tok} (g_GOALS:mg "GOALS" = some (.int 3 t_GOALS)) {t_WHO:Tok} (g_WHO:mg "WHO" = some (.int 0 t_WHO)) (b_tuple:mg "tuple" = none) :
    bg P w K mg base (cP P w mg) (k+1) f fd ["ground","who","ranks"] (dt (dB 5 (gh bS)) 3):=by
  refine aF W nN (G:=["ranked","WHO","GOALS","tuple"]) (by decide +kernel) fun cdv A outer s H E hr T=>?_
  exact (ao (fN 3 rfl (N:=["rank"]) (own:=1) (G:=[]) (fr:=[]) T rfl rfl (oN:=["ground","who","ranks","moves","number"]) (on:=(ak dQ).names) (by decide +kernel) (bw (aa T 2 rfl)) (br (by decide)) (fun cl C s' H' fp E' T=>⟨(aP T 0 rfl),cw,eE⟩))
      (ao (dA (have T:=T.nox;fw PassesOwn.never T.calm (bw (ar C23 hr T 0 rfl (af (aa T 2 rfl) am) rfl (ah aq))) (aP T 4 rfl) (av (cJ (jZ (ml (dO T.hu (ae (aD T.hu (ae (aD T.hu (ae (aa T 0 rfl)) (ae (aa T 4 rfl)) (fun _ _=>rfl))) (ae (bz T 1 rfl g_WHO)) (fun _ _=>rfl))) (ae (aa T 1 rfl))) (kS (gK (ae (aD T.hu (ae (aa T 2 rfl)) (ae (aa T 4 rfl)) (fun _ _=>rfl))) (ae aj))))) (av (j6 T 3 rfl (have T:=T.nox;(aa T 4 rfl)) (aD T.hu (cI (bd (N:=["goal","ranks","number"]) (own:=1) (G:=[]) (fr:=[2,4]) T rfl rfl (oN:=["ground","who","ranks","moves","number"]) (on:=(ak dQ).names) (by decide +kernel) (bw (aD T.hu (ae (aD T.hu (ae (aa T 0 rfl)) (ae (aa T 4 rfl)) (fun _ _=>rfl))) (ae (bz T 2 rfl g_GOALS)) (fun _ _=>rfl))) (br (by decide)) (fun cl C s' H' fp E' T=>⟨(aP T 0 rfl),(dN (dO T.hu (ae (aD T.hu (ae (aa T 1 rfl)) (ae (aa T 0 rfl)) (fun _ _=>rfl))) (ae (fy (ae (aD T.hu (ae (aa T 1 rfl)) (ae (aa T 2 rfl)) (fun _ _=>rfl))) (ae aj))))),(aa T 0 rfl)⟩))) (ae aj) (fun _ _=>rfl)))) ci))))
      (av (aM (bF T 3 rfl b_tuple (eX T 3 rfl))))))
theorem md:aY ["ground","inside","highest","who","other","tops","ranks","below","lost","moves"] ["ground","inside"] (ak c6):=⟨rfl,rfl,rfl,by decide +kernel,rfl,by decide +kernel,by decide +kernel⟩
theorem l3 (W:gc K "share_by_marks" "share_by_marks" c6 f fd) {f9:Addr} {d9:FuncData} {dc:fK} (C9:fL P w K mg base k "moves_at" ["moves","places"] dc f9 d9) {f8:Addr} {d8:FuncData} {aG:fK} (C8:fL P w K mg base k "moves_of_both" ["moves","others"] aG f8 d8) {f24:Addr} {d24:FuncData} {bx:fK} (C24:fL P w K mg base k "pulling_moves" ["ground","who","ranks"] bx f24 d24) {f23:Addr} {d23:FuncData} {bS:fK} (C23:fL P w K mg base k "ranked" ["ranks"] bS f23 d23) {f22:Addr} {d22:FuncData} {bQ:fK} (C22:fL P w K mg base k "ranks_to" ["ground","inside","who","goals"] bQ f22 d22) {f10:Addr} {d10:FuncData} {aW:fK} (C10:fL P w K mg base k "staying_moves" ["ground","who","part"] aW f10 d10) {f27:Addr} {d27:FuncData} {aN:fK} (C27:fL P w K mg base k "winners_within" ["ground","inside"] aN f27 d27) {f5:Addr} {d5:FuncData} {aZ:fK} (C5:fL P w K mg base k "without" ["some","others"] aZ f5 d5) {t_MARK:Tok} (g_MARK:mg "MARK" = some (.int 1 t_MARK)) (b_enumerate:mg "enumerate" = none) (b_len:mg "len" = none) (b_max:mg "max" = none) {c_Share:Addr} (cl_Share:zy K c_Share) (n_Share_moves:eP K c_Share "moves") (n_Share_places:eP K c_Share "places") (n_Share_who:eP K c_Share "who") (m_Share:mg "Share" = some (.ref c_Share)) {fi_Share:Addr} {di_Share:FuncData} (MK_Share:Mk K c_Share fi_Share) (I_Share:bg P w K mg base (cP P w mg) 1 fi_Share di_Share ["self","who","places","moves"] (IK c_Share ["who","places","moves"])) (B_Share:bN K di_Share ["self","who","places","moves"] []) (hk:2<=k) :
    bg P w K mg base (cP P w mg) (k+1) f fd ["ground","inside"] (dt (dB 10 (eA dc aG bx bS bQ aW aN aZ c_Share)) 2):=by
  refine aF W md (G:=["max","ranks_to","winners_within","without","ranked","enumerate","len","moves_of_both","pulling_moves","Share","staying_moves","moves_at"]) (by decide +kernel) fun cdv A outer s H E hr T=>?_
  exact (ao (aO T 2 rfl (xU T 0 rfl b_max (cI (bd (N:=["number","ground"]) (own:=1) (G:=["MARK"]) (fr:=[0]) T rfl rfl (oN:=["ground","inside","highest","who","other","tops","ranks","below","lost","moves"]) (on:=(ak c6).names) (by decide +kernel) (bw (aa T 1 rfl)) (br (by decide)) (fun cl C s' H' fp E' T=>⟨(aP T 0 rfl),cw,(aD T.hu (ae (aD T.hu (ae (aa T 1 rfl)) (ae (aa T 0 rfl)) (fun _ _=>rfl))) (ae (bz T 0 rfl g_MARK)) (fun _ _=>rfl))⟩)))))
      (ao (aO T 3 rfl (cB (ae (aa T 2 rfl)) (ae aj)))
      (ao (aO T 4 rfl (fy (ae aj) (ae (aa T 3 rfl))))
      (ao (jD (fN 5 rfl (N:=["number","ground","highest"]) (own:=1) (G:=["MARK"]) (fr:=[0,2]) T rfl rfl (oN:=["ground","inside","highest","who","other","tops","ranks","below","lost","moves"]) (on:=(ak c6).names) (by decide +kernel) (bw (aa T 1 rfl)) (br (by decide)) (fun cl C s' H' fp E' T=>⟨(aP T 0 rfl),(dN (dO T.hu (ae (aD T.hu (ae (aD T.hu (ae (aa T 1 rfl)) (ae (aa T 0 rfl)) (fun _ _=>rfl))) (ae (bz T 0 rfl g_MARK)) (fun _ _=>rfl))) (ae (aa T 2 rfl)))),(aa T 0 rfl)⟩)) (show 5 < 10 by decide))
      (ao (aO T 6 rfl (ar C22 hr T 1 rfl (af (aa T 0 rfl) (af (aa T 1 rfl) (af (aa T 3 rfl) (af (aa T 5 rfl) am)))) rfl (ah (ah (ah (ah aq))))))
      (ao (aO T 7 rfl (ar C27 hr T 2 rfl (af (aa T 0 rfl) (af (ar C5 hr T 3 rfl (af (aa T 1 rfl) (af (ar C23 hr T 4 rfl (af (aa T 6 rfl) am) rfl (ah aq)) am)) rfl (ah (ah aq))) am)) rfl (ah (ah aq))))
      (ao (jD (fN 8 rfl (N:=["number","winner","other"]) (own:=2) (G:=[]) (fr:=[4]) T rfl rfl (oN:=["ground","inside","highest","who","other","tops","ranks","below","lost","moves"]) (on:=(ak c6).names) (by decide +kernel) (mh T 5 rfl b_enumerate (aD T.hu (ae (aa T 7 rfl)) (ae aj) (fun _ _=>rfl))) (ir (by decide) (by decide)) (fun cl C s' H' fp E' T=>⟨(il T 0 1 rfl rfl),(dN (dO T.hu (ae (aa T 1 rfl)) (ae (aa T 2 rfl)))),(aa T 0 rfl)⟩)) (show 8 < 10 by decide))
      (ao (cJ (dO T.hu (ae (bZ T 6 rfl b_len (ae (aa T 8 rfl)))) (ae aj)) (ao (aO T 9 rfl (ar C8 hr T 7 rfl (af (ar C24 hr T 8 rfl (af (aa T 0 rfl) (af (aa T 3 rfl) (af (aa T 6 rfl) am))) rfl (ah (ah (ah aq)))) (af (aD T.hu (ae (aa T 7 rfl)) (ae aj) (fun _ _=>rfl)) am)) rfl (ah (ah aq))))
      (av (aM (tz MK_Share I_Share (hr.mono hk) T 9 rfl m_Share B_Share (af (aa T 3 rfl) (af (aa T 1 rfl) (af (ar C8 hr T 7 rfl (af (aa T 9 rfl) (af (ar C10 hr T 10 rfl (af (aa T 0 rfl) (af (aa T 3 rfl) (af (aa T 1 rfl) am))) rfl (ah (ah (ah aq)))) am)) rfl (ah (ah aq))) am))) (ah (ah (ah aq))))))) ci)
      (ao (aO T 6 rfl (ar C22 hr T 1 rfl (af (aa T 0 rfl) (af (aa T 1 rfl) (af (aa T 4 rfl) (af (aa T 8 rfl) am)))) rfl (ah (ah (ah (ah aq))))))
      (ao (aO T 9 rfl (ar C8 hr T 7 rfl (af (ar C24 hr T 8 rfl (af (aa T 0 rfl) (af (aa T 4 rfl) (af (aa T 6 rfl) am))) rfl (ah (ah (ah aq)))) (af (ar C9 hr T 11 rfl (af (aD T.hu (ae (aa T 7 rfl)) (ae aj) (fun _ _=>rfl)) (af (aa T 8 rfl) am)) rfl (ah (ah aq))) am)) rfl (ah (ah aq))))
      (av (aM (tz MK_Share I_Share (hr.mono hk) T 9 rfl m_Share B_Share (af (aa T 4 rfl) (af (ar C23 hr T 4 rfl (af (aa T 6 rfl) am) rfl (ah aq)) (af (aa T 9 rfl) am))) (ah (ah (ah aq))))))))))))))))
theorem kz:aY ["ground","shares","winners","moves","share","number"] ["ground","shares"] (ak dw):=⟨rfl,rfl,rfl,by decide +kernel,rfl,by decide +kernel,by decide +kernel⟩
theorem ku (W:gc K "winners_and_moves" "winners_and_moves" dw f fd) {f8:Addr} {d8:FuncData} {aG:fK} (C8:fL P w K mg base k "moves_of_both" ["moves","others"] aG f8 d8) {f7:Addr} {d7:FuncData} {cq:fK} (C7:fL P w K mg base k "no_moves" ["ground"] cq f7 d7) (b_tuple:mg "tuple" = none) {c_Share:Addr} (cl_Share:zy K c_Share) (n_Share_moves:eP K c_Share "moves") (n_Share_places:eP K c_Share "places") (n_Share_who:eP K c_Share "who") :
    bg P w K mg base (cP P w mg) (k+1) f fd ["ground","shares"] (dt (dB 6 (eO aG cq c_Share)) 2):=by
  refine aF W kz (G:=["no_moves","moves_of_both","tuple"]) (by decide +kernel) fun cdv A outer s H E hr T=>?_
  exact (ao (fN 2 rfl (N:=["place"]) (own:=1) (G:=[]) (fr:=[]) T rfl rfl (oN:=["ground","shares","winners","moves","share","number"]) (on:=(ak dw).names) (by decide +kernel) (bw (aa T 0 rfl)) (br (by decide)) (fun cl C s' H' fp E' T=>⟨(aP T 0 rfl),cw,eE⟩))
      (ao (aO T 3 rfl (ar C7 hr T 0 rfl (af (aa T 0 rfl) am) rfl (ah aq)))
      (ao (dA (have T:=T.nox;fw PassesOwn.never T.calm (bw (aa T 1 rfl)) (aP T 4 rfl) (ao (dA (have T:=T.nox;fw PassesOwn.never T.calm (bw (lw cl_Share n_Share_places (aa T 4 rfl))) (aP T 5 rfl) (av (j6 T 2 rfl (have T:=T.nox;(aa T 5 rfl)) (lw cl_Share n_Share_who (aa T 4 rfl))))))
      (av (aO T 3 rfl (ar C8 hr T 1 rfl (af (aa T 3 rfl) (af (lw cl_Share n_Share_moves (aa T 4 rfl)) am)) rfl (ah (ah aq))))))))
      (av (aM (fA (af (bF T 2 rfl b_tuple (eX T 2 rfl)) (af (aa T 3 rfl) am))))))))
theorem mf:aY ["ground","inside","shares","left","share"] ["ground","inside"] (ak fS):=⟨rfl,rfl,rfl,by decide +kernel,rfl,by decide +kernel,by decide +kernel⟩
theorem l4 (W:gc K "winners_within" "winners_within" fS f fd) {f26:Addr} {d26:FuncData} {bj:fK} (C26:fL P w K mg base k "share_by_marks" ["ground","inside"] bj f26 d26) {f11:Addr} {d11:FuncData} {bu:fK} (C11:fL P w K mg base k "winners_and_moves" ["ground","shares"] bu f11 d11) {f5:Addr} {d5:FuncData} {aZ:fK} (C5:fL P w K mg base k "without" ["some","others"] aZ f5 d5) (b_len:mg "len" = none) {c_Share:Addr} (cl_Share:zy K c_Share) (n_Share_places:eP K c_Share "places") :
    bg P w K mg base (cP P w mg) (k+1) f fd ["ground","inside"] (dt (dB 5 (eB bj bu aZ c_Share)) 2):=by
  refine aF W mf (G:=["len","share_by_marks","without","winners_and_moves"]) (by decide +kernel) fun cdv A outer s H E hr T=>?_
  exact (ao (jE T 2 rfl (qe am))
      (ao (aO T 3 rfl (aa T 1 rfl))
      (ao (dA (have T:=T.nox;oy 1000000 PassesOwn.never (gK (ae (bZ T 0 rfl b_len (ae (aa T 3 rfl)))) (ae aj)) (ao (aO T 4 rfl (ar C26 hr T 1 rfl (af (aa T 0 rfl) (af (aa T 3 rfl) am)) rfl (ah (ah aq))))
      (ao (tm T 2 rfl (aa T 4 rfl))
      (av (aO T 3 rfl (ar C5 hr T 2 rfl (af (aa T 3 rfl) (af (lw cl_Share n_Share_places (aa T 4 rfl)) am)) rfl (ah (ah aq)))))))))
      (av (B7 2 (aM (ar C11 hr T 3 rfl (af (aa T 0 rfl) (af (aa T 2 rfl) am)) rfl (ah (ah aq)))))))))
theorem Gy:aY ["ground"] ["ground"] (ak Bo):=⟨rfl,rfl,rfl,by decide +kernel,rfl,by decide +kernel,by decide +kernel⟩
theorem Gq (W:gc K "won" "won" Bo f fd) {f3:Addr} {d3:FuncData} {cR:fK} (C3:fL P w K mg base k "all_places" ["ground"] cR f3 d3) {f27:Addr} {d27:FuncData} {aN:fK} (C27:fL P w K mg base k "winners_within" ["ground","inside"] aN f27 d27) :
    bg P w K mg base (cP P w mg) (k+1) f fd ["ground"] (dt (dB 1 (zJ cR aN)) 1):=by
  refine aF W Gy (G:=["winners_within","all_places"]) (by decide +kernel) fun cdv A outer s H E hr T=>?_
  exact (av (aM (ar C27 hr T 0 rfl (af (aa T 0 rfl) (af (ar C3 hr T 1 rfl (af (aa T 0 rfl) am) rfl (ah aq)) am)) rfl (ah (ah aq)))))
theorem Gx:aY ["_law_script","_law_ground_here","_law_count","_law_winners","_law_low","_law_turned","_law_other","_law_who","_law_mine","_law_some_here","_law_inside","_law_there"] ["_law_script"] (ak iC):=⟨rfl,rfl,rfl,by decide +kernel,rfl,by decide +kernel,by decide +kernel⟩
theorem Gp (W:gc K "law" "law" iC f fd) {f34:Addr} {d34:FuncData} {cG:fK} (C34:fL P w K mg base k "_law_ground" ["_law_script","_law_most"] cG f34 d34) {f30:Addr} {d30:FuncData} {bA:fK} (C30:fL P w K mg base k "_law_mixed" ["_law_script","_law_k"] bA f30 d30) {f35:Addr} {d35:FuncData} {da:fK} (C35:fL P w K mg base k "_law_some" ["_law_number","_law_count"] da f35 d35) {f17:Addr} {d17:FuncData} {fj:fK} (C17:fL P w K mg base k "beside" ["one","other"] fj f17 d17) {f14:Addr} {d14:FuncData} {dg:fK} (C14:fL P w K mg base k "exchanged" ["ground"] dg f14 d14) {f25:Addr} {d25:FuncData} {hW:fK} (C25:fL P w K mg base k "kept" ["ground","inside","who","places"] hW f25 d25) {f19:Addr} {d19:FuncData} {cY:fK} (C19:fL P w K mg base k "part_of" ["ground","inside"] cY f19 d19) {f16:Addr} {d16:FuncData} {ez:fK} (C16:fL P w K mg base k "pressed" ["ground"] ez f16 d16) {f28:Addr} {d28:FuncData} {fq:fK} (C28:fL P w K mg base k "won" ["ground"] fq f28 d28) (b_all:mg "all" = none) (b_len:mg "len" = none) (b_min:mg "min" = none) (b_range:mg "range" = none) (b_tuple:mg "tuple" = none) (b_zip:mg "zip" = none) :
    bg P w K mg base (cP P w mg) (k+1) f fd ["_law_script"] (dt (dB 12 (zI cG bA da fj dg hW cY ez fq)) 1):=by
  refine aF W Gx (G:=["_law_ground","len","won","tuple","exchanged","pressed","beside","range","part_of","_law_some","_law_mixed","kept","all","zip"]) (by decide +kernel) fun cdv A outer s H E hr T=>?_
  exact (ao (aO T 1 rfl (ar C34 hr T 0 rfl (af (aa T 0 rfl) (af aj am)) rfl (ah (ah aq))))
      (ao (aO T 2 rfl (bZ T 1 rfl b_len (ae (aa T 1 rfl))))
      (ao (aO T 3 rfl (aD T.hu (ae (ar C28 hr T 2 rfl (af (aa T 1 rfl) am) rfl (ah aq))) (ae aj) (fun _ _=>rfl)))
      (ao (aO T 4 rfl (bF T 3 rfl b_tuple (cI (bd (N:=["_law_place_here"]) (own:=1) (G:=["min"]) (fr:=[]) T rfl rfl (oN:=["_law_script","_law_ground_here","_law_count","_law_winners","_law_low","_law_turned","_law_other","_law_who","_law_mine","_law_some_here","_law_inside","_law_there"]) (on:=(ak iC).names) (by decide +kernel) (bw (aa T 1 rfl)) (br (by decide)) (fun cl C s' H' fp E' T=>⟨(aP T 0 rfl),cw,(fA (af (aD T.hu (ae (aa T 0 rfl)) (ae aj) (fun _ _=>rfl)) (af (tx T 0 rfl b_min (ae aj) (ae (aD T.hu (ae (aa T 0 rfl)) (ae aj) (fun _ _=>rfl)))) (af (aD T.hu (ae (aa T 0 rfl)) (ae aj) (fun _ _=>rfl)) (af (aD T.hu (ae (aa T 0 rfl)) (ae aj) (fun _ _=>rfl)) am)))))⟩)))))
      (ao (aO T 5 rfl (bF T 3 rfl b_tuple (cI (bd (N:=["_law_who"]) (own:=1) (G:=[]) (fr:=[]) T rfl rfl (oN:=["_law_script","_law_ground_here","_law_count","_law_winners","_law_low","_law_turned","_law_other","_law_who","_law_mine","_law_some_here","_law_inside","_law_there"]) (on:=(ak iC).names) (by decide +kernel) (bw (aD T.hu (ae (ar C28 hr T 2 rfl (af (aa T 4 rfl) am) rfl (ah aq))) (ae aj) (fun _ _=>rfl))) (br (by decide)) (fun cl C s' H' fp E' T=>⟨(aP T 0 rfl),cw,(fy (ae aj) (ae (aa T 0 rfl)))⟩)))))
      (ao (cJ (jZ (oC (ly T.hu (ae (aD T.hu (ae (ar C28 hr T 2 rfl (af (ar C14 hr T 4 rfl (af (aa T 4 rfl) am) rfl (ah aq)) am) rfl (ah aq))) (ae aj) (fun _ _=>rfl))) (ae (aa T 5 rfl))) (mm (ly T.hu (ae (aD T.hu (ae (ar C28 hr T 2 rfl (af (ar C16 hr T 5 rfl (af (aa T 1 rfl) am) rfl (ah aq)) am) rfl (ah aq))) (ae aj) (fun _ _=>rfl))) (ae (aa T 3 rfl)))))) (av (aM eD)) ci)
      (ao (aO T 6 rfl (ar C34 hr T 0 rfl (af (vg (ae (aa T 0 rfl)) (xP aj) xO) (af aj am)) rfl (ah (ah aq))))
      (ao (cJ (jZ (ml (zS (ae (cc (ae (aa T 2 rfl)) (ae (bZ T 1 rfl b_len (ae (aa T 6 rfl)))))) (ae aj)) (kS (ly T.hu (ae (aD T.hu (ae (ar C28 hr T 2 rfl (af (ar C17 hr T 6 rfl (af (aa T 1 rfl) (af (aa T 6 rfl) am)) rfl (ah (ah aq))) am) rfl (ah aq))) (ae aj) (fun _ _=>rfl))) (ae (cc (ae (aa T 3 rfl)) (ae (aD T.hu (ae (ar C28 hr T 2 rfl (af (aa T 6 rfl) am) rfl (ah aq))) (ae aj) (fun _ _=>rfl))))))))) (av (aM eD)) ci)
      (ao (dA (have T:=T.nox;fw PassesOwn.never T.calm (bw (fA (af aj (af aj am)))) (aP T 7 rfl) (ao (aO T 8 rfl (bF T 3 rfl b_tuple (cI (bd (N:=["_law_place_here","_law_winners","_law_who"]) (own:=1) (G:=[]) (fr:=[3,7]) T rfl rfl (oN:=["_law_script","_law_ground_here","_law_count","_law_winners","_law_low","_law_turned","_law_other","_law_who","_law_mine","_law_some_here","_law_inside","_law_there"]) (on:=(ak iC).names) (by decide +kernel) (fV T 7 rfl b_range (af (aa T 2 rfl) am) (ah aq)) (br (by decide)) (fun cl C s' H' fp E' T=>⟨(aP T 0 rfl),(dN (dO T.hu (ae (aD T.hu (ae (aa T 1 rfl)) (ae (aa T 0 rfl)) (fun _ _=>rfl))) (ae (aa T 2 rfl)))),(aa T 0 rfl)⟩)))))
      (ao (cJ (jZ (ml (gK (ae (bZ T 1 rfl b_len (ae (aa T 8 rfl)))) (ae aj)) (kS (ly T.hu (ae (aD T.hu (ae (ar C28 hr T 2 rfl (af (ar C19 hr T 8 rfl (af (aa T 1 rfl) (af (aa T 8 rfl) am)) rfl (ah (ah aq))) am) rfl (ah aq))) (ae aj) (fun _ _=>rfl))) (ae (xV (ae (fA (af (aa T 7 rfl) am))) (ae (bZ T 1 rfl b_len (ae (aa T 8 rfl)))))))))) (av (aM eD)) ci)
      (ao (aO T 9 rfl (ar C35 hr T 9 rfl (af (ar C30 hr T 10 rfl (af (aa T 0 rfl) (af aj am)) rfl (ah (ah aq))) (af (aa T 2 rfl) am)) rfl (ah (ah aq))))
      (ao (aO T 10 rfl (aD T.hu (ae (ar C25 hr T 11 rfl (af (aa T 1 rfl) (af (qd T 3 rfl b_tuple 7 rfl b_range (af (aa T 2 rfl) am)) (af (aa T 7 rfl) (af (aa T 9 rfl) am)))) rfl (ah (ah (ah (ah aq)))))) (ae aj) (fun _ _=>rfl)))
      (av (cJ (gK (ae (bZ T 1 rfl b_len (ae (aa T 10 rfl)))) (ae aj)) (ao (aO T 11 rfl (aD T.hu (ae (ar C28 hr T 2 rfl (af (ar C19 hr T 8 rfl (af (aa T 1 rfl) (af (aa T 10 rfl) am)) rfl (ah (ah aq))) am) rfl (ah aq))) (ae aj) (fun _ _=>rfl)))
      (av (cJ (e9 (eF (tt T 12 rfl b_all (cI (bd (N:=["_law_place_here","_law_one","_law_winners","_law_who"]) (own:=2) (G:=[]) (fr:=[3,7]) T rfl rfl (oN:=["_law_script","_law_ground_here","_law_count","_law_winners","_law_low","_law_turned","_law_other","_law_who","_law_mine","_law_some_here","_law_inside","_law_there"]) (on:=(ak iC).names) (by decide +kernel) (tj T 13 rfl b_zip (aa T 10 rfl) (aa T 11 rfl)) (ir (by decide) (by decide)) (fun cl C s' H' fp E' T=>⟨(il T 0 1 rfl rfl),(dN (dO T.hu (ae (aa T 1 rfl)) (ae (aa T 3 rfl)))),(rA T.hu (ae (aD T.hu (ae (aa T 2 rfl)) (ae (aa T 0 rfl)) (fun _ _=>rfl))) (ae (aa T 3 rfl)))⟩)))))) (av (aM eD)) ci))) ci))))))))
      (av (aM eD)))))))))))
end
noncomputable def F0:List PyData->R PyData:=fun ds=>open Classical in if ∃ ns:List Int,ns.length<=63/\ds=[.list (ns.map .int)] then .ok (.bool true) else .no
theorem ww:AB F0:=fun ns h=>if_pos ⟨ns,h,rfl⟩
theorem Gs {c_Share:Addr} (vs:List V) (H:Hp) (Q:VK) (E:XK) (h:dt F0 1 vs H Q E):dt (wx c_Share) 1 vs H Q E:=by
  obtain ⟨ds,r,hl,q⟩:=h;refine ⟨ds,r,hl,?_⟩;by_cases hd:∃ ns:List Int,ns.length<=63/\ds=[.list (ns.map .int)]
  · obtain ⟨ns,h1,rfl⟩:=hd;rw [ww ns h1] at q;rw [AD c_Share ns h1];exact q
  · unfold F0 at q;rw [if_neg hd] at q;exact q.elim
theorem EK {l:PySem.W.OpenLaw} {w:World} {K:PySem.W.Frag} {h:Heap} {mg:Str->Option Value} {fa:Addr} (X:K.In h) (G:h.Ns mainGlobals mg) (hfa:mg "law" = some (.ref fa))
    {f36:Addr} {od36 an36:Option Addr} {sl36:Array (Option Value)} {oc36 kV36 dc36 pm36 cd36 ct36:Value}
    {f0:Addr} {d0:FuncData} (q0:cA K "_law_cell_at" ic f0 d0)
    {f1:Addr} {d1:FuncData} (q1:cA K "_law_mixed" jV f1 d1)
    {f2:Addr} {d2:FuncData} (q2:cA K "_law_drawn" jT f2 d2)
    {f3:Addr} {d3:FuncData} (q3:cA K "_law_goals" jU f3 d3)
    {f4:Addr} {d4:FuncData} (q4:cA K "_law_place" jW f4 d4)
    {f5:Addr} {d5:FuncData} (q5:cA K "_law_ground" gC f5 d5)
    {f6:Addr} {d6:FuncData} (q6:cA K "_law_some" jc f6 d6)
    {f7:Addr} {d7:FuncData} (q7:cA K "with_goals" jg f7 d7)
    {f8:Addr} {d8:FuncData} (q8:cA K "beside" lQ f8 d8)
    {f9:Addr} {d9:FuncData} (q9:cA K "marks_of" jd f9 d9)
    {f10:Addr} {d10:FuncData} (q10:cA K "exchanged" hR f10 d10)
    {f11:Addr} {d11:FuncData} (q11:cA K "is_whole" lr f11 d11)
    {f12:Addr} {d12:FuncData} (q12:cA K "is_between" jb f12 d12)
    {f13:Addr} {d13:FuncData} (q13:cA K "are_some" lh f13 d13)
    {f14:Addr} {d14:FuncData} (q14:cA K "common" lS f14 d14)
    {f15:Addr} {d15:FuncData} (q15:cA K "is_whole_part" eV f15 d15)
    {f16:Addr} {d16:FuncData} (q16:cA K "without" km f16 d16)
    {f17:Addr} {d17:FuncData} (q17:cA K "check_part" ja f17 d17)
    {f18:Addr} {d18:FuncData} (q18:cA K "ranked" lT f18 d18)
    {f19:Addr} {d19:FuncData} (q19:cA K "is_forced" hU f19 d19)
    {f20:Addr} {d20:FuncData} (q20:cA K "ranks_to" e8 f20 d20)
    {f21:Addr} {d21:FuncData} (q21:cA K "no_moves" jf f21 d21)
    {f22:Addr} {d22:FuncData} (q22:cA K "staying_moves" gp f22 d22)
    {f23:Addr} {d23:FuncData} (q23:cA K "kept" v7 f23 d23)
    {f24:Addr} {d24:FuncData} (q24:cA K "goals_anew" gB f24 d24)
    {f25:Addr} {d25:FuncData} (q25:cA K "part_of" kj f25 d25)
    {f26:Addr} {d26:FuncData} (q26:cA K "pressed_marks" gn f26 d26)
    {f27:Addr} {d27:FuncData} (q27:cA K "pressed" kl f27 d27)
    {f28:Addr} {d28:FuncData} (q28:cA K "all_places" i9 f28 d28)
    {f29:Addr} {d29:FuncData} (q29:cA K "moves_at" je f29 d29)
    {f30:Addr} {d30:FuncData} (q30:cA K "moves_of_both" eW f30 d30)
    {f31:Addr} {d31:FuncData} (q31:cA K "pulling_moves" dQ f31 d31)
    {f32:Addr} {d32:FuncData} (q32:cA K "share_by_marks" c6 f32 d32)
    {f33:Addr} {d33:FuncData} (q33:cA K "winners_and_moves" dw f33 d33)
    {f34:Addr} {d34:FuncData} (q34:cA K "winners_within" fS f34 d34)
    {f35:Addr} {d35:FuncData} (q35:cA K "won" Bo f35 d35)
    (a36:PySem.W.nsIn K mainGlobals "law" = some (some (.ref f36))) (l36:K.lookup f36=some ⟨oc36,od36,.func (PySem.W.fnOf "law" "law" (eI iC) (di iC) (ak iC) .none kV36 dc36 pm36 an36 cd36 ct36),sl36⟩) (c36:PySem.W.codeIn K cd36 "law" = true) (k36:PySem.W.keepIn K (.ref f36)=true)
    {t0:Tok} (qg0:PySem.W.nsIn K mainGlobals "GAIN" = some (some (.int 2 t0)))
    {t1:Tok} (qg1:PySem.W.nsIn K mainGlobals "GOALS" = some (some (.int 3 t1)))
    {t2:Tok} (qg2:PySem.W.nsIn K mainGlobals "MARK" = some (some (.int 1 t2)))
    {t3:Tok} (qg3:PySem.W.nsIn K mainGlobals "MOST_MARK" = some (some (.int 12 t3)))
    {t4:Tok} (qg4:PySem.W.nsIn K mainGlobals "MOST_PLACES" = some (some (.int 24 t4)))
    {t5:Tok} (qg5:PySem.W.nsIn K mainGlobals "WHO" = some (some (.int 0 t5)))
    (qz0:PySem.W.nsIn K mainGlobals "all" = some none)
    (qz1:PySem.W.nsIn K mainGlobals "bool" = some none)
    (qz2:PySem.W.nsIn K mainGlobals "enumerate" = some none)
    (qz3:PySem.W.nsIn K mainGlobals "int" = some none)
    (qz4:PySem.W.nsIn K mainGlobals "isinstance" = some none)
    (qz5:PySem.W.nsIn K mainGlobals "len" = some none)
    (qz6:PySem.W.nsIn K mainGlobals "list" = some none)
    (qz7:PySem.W.nsIn K mainGlobals "max" = some none)
    (qz8:PySem.W.nsIn K mainGlobals "min" = some none)
    (qz9:PySem.W.nsIn K mainGlobals "range" = some none)
    (qz10:PySem.W.nsIn K mainGlobals "set" = some none)
    (qz11:PySem.W.nsIn K mainGlobals "sorted" = some none)
    (qz12:PySem.W.nsIn K mainGlobals "tuple" = some none)
    (qz13:PySem.W.nsIn K mainGlobals "zip" = some none)
    {cc0:Addr} (qm0:PySem.W.nsIn K mainGlobals "NoMark" = some (some (.ref cc0))) (qq0:PySem.W.excIn K cc0 BR BS=true)
    {cc1:Addr} (qm1:PySem.W.nsIn K mainGlobals "NoPart" = some (some (.ref cc1))) (qq1:PySem.W.excIn K cc1 BR BS=true)
    {cc2:Addr} (qm2:PySem.W.nsIn K mainGlobals "NoRoom" = some (some (.ref cc2))) (qq2:PySem.W.excIn K cc2 BR BS=true)
    {c_Share fi_Share:Addr} {od_Share an_Share:Option Addr} {sl_Share:Array (Option Value)} {oc_Share kV_Share dc_Share pm_Share cd_Share ct_Share:Value}
    (qa_Share:PySem.W.nsIn K mainGlobals "Share" = some (some (.ref c_Share)))
    (qi_Share:PySem.W.findIn K (.ref c_Share) "__init__" = some (some (.ref fi_Share))) (qf_Share:PySem.W.isFn K (.ref fi_Share)=true)
    (ql_Share:K.lookup fi_Share=some ⟨oc_Share,od_Share,.func (PySem.W.fnOf "__init__" "Share.__init__" (eI ki) (di ki) (ak ki) .none kV_Share dc_Share pm_Share an_Share cd_Share ct_Share),sl_Share⟩)
    (qc_Share:PySem.W.codeIn K cd_Share "Share.__init__" = true) (qk_Share:PySem.W.keepIn K (.ref fi_Share)=true)
    (qpg_Share:PySem.W.plainGet K c_Share Str.empty=true) (qhd_Share:PySem.W.hasDictIn K c_Share=true) (qpo_Share:PySem.W.plainOver K c_Share=true) (qsa_Share:PySem.W.findIn K (.ref c_Share) "__setattr__" = some (some (.builtin "object.__setattr__"))) (qmk_Share:PySem.W.makesIn K c_Share=true) (qkc_Share:PySem.W.keepIn K (.ref c_Share)=true)
    (qn_Share_who:PySem.W.findIn K (.ref c_Share) "who" = some none)
    (qn_Share_places:PySem.W.findIn K (.ref c_Share) "places" = some none)
    (qn_Share_moves:PySem.W.findIn K (.ref c_Share) "moves" = some none)
    (nl:n5 K=true) :
    n5 K=true/\∃ fd:FuncData,(∀ (s:Shared) (v:Value),BindsTo s fd ⟨[v],[]⟩ [("_law_script",v)])/\∀ base:Heap,K.In base->base.Ns mainGlobals mg->bg l.prog w K mg base (cP l.prog w mg) 33 fa fd ["_law_script"] (dt F0 1):=by
  have e:=hfa.symm.trans (PySem.W.mg_of X G a36);cases e;have b0:bN K d0 ["_law_script","_law_k"] []:=rJ q0.fn fun _ _ _ _ _ _ _ _=>rfl
  have m0:=PySem.W.mg_of X G q0.ns;have b1:bN K d1 ["_law_script","_law_k"] []:=rJ q1.fn fun _ _ _ _ _ _ _ _=>rfl
  have m1:=PySem.W.mg_of X G q1.ns;have b2:bN K d2 ["_law_number","_law_k"] []:=rJ q2.fn fun _ _ _ _ _ _ _ _=>rfl
  have m2:=PySem.W.mg_of X G q2.ns;have b3:bN K d3 ["_law_number","_law_count"] []:=rJ q3.fn fun _ _ _ _ _ _ _ _=>rfl
  have m3:=PySem.W.mg_of X G q3.ns;have b4:bN K d4 ["_law_number","_law_count","_law_high"] []:=GE q4.fn fun _ _ _ _ _ _ _ _ _=>rfl
  have m4:=PySem.W.mg_of X G q4.ns;have b5:bN K d5 ["_law_script","_law_most"] []:=rJ q5.fn fun _ _ _ _ _ _ _ _=>rfl
  have m5:=PySem.W.mg_of X G q5.ns;have b6:bN K d6 ["_law_number","_law_count"] []:=rJ q6.fn fun _ _ _ _ _ _ _ _=>rfl
  have m6:=PySem.W.mg_of X G q6.ns;have b7:bN K d7 ["place","goals"] []:=rJ q7.fn fun _ _ _ _ _ _ _ _=>rfl
  have m7:=PySem.W.mg_of X G q7.ns;have b8:bN K d8 ["one","other"] []:=rJ q8.fn fun _ _ _ _ _ _ _ _=>rfl
  have m8:=PySem.W.mg_of X G q8.ns;have b9:bN K d9 ["ground"] []:=Ch q9.fn fun _ _ _ _ _ _ _=>rfl
  have m9:=PySem.W.mg_of X G q9.ns;have b10:bN K d10 ["ground"] []:=Ch q10.fn fun _ _ _ _ _ _ _=>rfl
  have m10:=PySem.W.mg_of X G q10.ns;have b11:bN K d11 ["thing"] []:=Ch q11.fn fun _ _ _ _ _ _ _=>rfl
  have m11:=PySem.W.mg_of X G q11.ns;have b12:bN K d12 ["thing","low","high"] []:=GE q12.fn fun _ _ _ _ _ _ _ _ _=>rfl
  have m12:=PySem.W.mg_of X G q12.ns;have b13:bN K d13 ["thing","count"] []:=rJ q13.fn fun _ _ _ _ _ _ _ _=>rfl
  have m13:=PySem.W.mg_of X G q13.ns;have b14:bN K d14 ["some","others"] []:=rJ q14.fn fun _ _ _ _ _ _ _ _=>rfl
  have m14:=PySem.W.mg_of X G q14.ns;have b15:bN K d15 ["ground","inside"] []:=rJ q15.fn fun _ _ _ _ _ _ _ _=>rfl
  have m15:=PySem.W.mg_of X G q15.ns;have b16:bN K d16 ["some","others"] []:=rJ q16.fn fun _ _ _ _ _ _ _ _=>rfl
  have m16:=PySem.W.mg_of X G q16.ns;have b17:bN K d17 ["ground","inside","some"] []:=GE q17.fn fun _ _ _ _ _ _ _ _ _=>rfl
  have m17:=PySem.W.mg_of X G q17.ns;have b18:bN K d18 ["ranks"] []:=Ch q18.fn fun _ _ _ _ _ _ _=>rfl
  have m18:=PySem.W.mg_of X G q18.ns;have b19:bN K d19 ["place","ways","who","ranks"] []:=IX q19.fn fun _ _ _ _ _ _ _ _ _ _=>rfl
  have m19:=PySem.W.mg_of X G q19.ns;have b20:bN K d20 ["ground","inside","who","goals"] []:=IX q20.fn fun _ _ _ _ _ _ _ _ _ _=>rfl
  have m20:=PySem.W.mg_of X G q20.ns;have b21:bN K d21 ["ground"] []:=Ch q21.fn fun _ _ _ _ _ _ _=>rfl
  have m21:=PySem.W.mg_of X G q21.ns;have b22:bN K d22 ["ground","who","part"] []:=GE q22.fn fun _ _ _ _ _ _ _ _ _=>rfl
  have m22:=PySem.W.mg_of X G q22.ns;have b23:bN K d23 ["ground","inside","who","places"] []:=IX q23.fn fun _ _ _ _ _ _ _ _ _ _=>rfl
  have m23:=PySem.W.mg_of X G q23.ns;have b24:bN K d24 ["place","inside"] []:=rJ q24.fn fun _ _ _ _ _ _ _ _=>rfl
  have m24:=PySem.W.mg_of X G q24.ns;have b25:bN K d25 ["ground","inside"] []:=rJ q25.fn fun _ _ _ _ _ _ _ _=>rfl
  have m25:=PySem.W.mg_of X G q25.ns;have b26:bN K d26 ["marks"] []:=Ch q26.fn fun _ _ _ _ _ _ _=>rfl
  have m26:=PySem.W.mg_of X G q26.ns;have b27:bN K d27 ["ground"] []:=Ch q27.fn fun _ _ _ _ _ _ _=>rfl
  have m27:=PySem.W.mg_of X G q27.ns;have b28:bN K d28 ["ground"] []:=Ch q28.fn fun _ _ _ _ _ _ _=>rfl
  have m28:=PySem.W.mg_of X G q28.ns;have b29:bN K d29 ["moves","places"] []:=rJ q29.fn fun _ _ _ _ _ _ _ _=>rfl
  have m29:=PySem.W.mg_of X G q29.ns;have b30:bN K d30 ["moves","others"] []:=rJ q30.fn fun _ _ _ _ _ _ _ _=>rfl
  have m30:=PySem.W.mg_of X G q30.ns;have b31:bN K d31 ["ground","who","ranks"] []:=GE q31.fn fun _ _ _ _ _ _ _ _ _=>rfl
  have m31:=PySem.W.mg_of X G q31.ns;have b32:bN K d32 ["ground","inside"] []:=rJ q32.fn fun _ _ _ _ _ _ _ _=>rfl
  have m32:=PySem.W.mg_of X G q32.ns;have b33:bN K d33 ["ground","shares"] []:=rJ q33.fn fun _ _ _ _ _ _ _ _=>rfl
  have m33:=PySem.W.mg_of X G q33.ns;have b34:bN K d34 ["ground","inside"] []:=rJ q34.fn fun _ _ _ _ _ _ _ _=>rfl
  have m34:=PySem.W.mg_of X G q34.ns;have b35:bN K d35 ["ground"] []:=Ch q35.fn fun _ _ _ _ _ _ _=>rfl
  have m35:=PySem.W.mg_of X G q35.ns;have F36:=vB (st:=iC) l36 c36 k36;have FF_Share:=vB (st:=ki) ql_Share qc_Share qk_Share;have bb_Share:=FF_Share.binds (ps:=["self","who","places","moves"]) fun _ _ _ _ _ _ us hl=>by
    obtain ⟨z0,r0,rfl,q0⟩:=D2.jM hl;obtain ⟨z1,r1,rfl,q1⟩:=D2.jM q0;obtain ⟨z2,r2,rfl,q2⟩:=D2.jM q1;obtain ⟨z3,r3,rfl,q3⟩:=D2.jM q2;obtain rfl:=List.eq_nil_of_length_eq_zero q3;exact rfl
  have mm_Share:=PySem.W.mg_of X G qa_Share;have ccl_Share:zy K c_Share:=⟨qpg_Share,qhd_Share,qpo_Share,qsa_Share⟩
  have h0:=PySem.W.mg_of X G qg0;have h1:=PySem.W.mg_of X G qg1;have h2:=PySem.W.mg_of X G qg2;have h3:=PySem.W.mg_of X G qg3;have h4:=PySem.W.mg_of X G qg4;have h5:=PySem.W.mg_of X G qg5;have n0:=PySem.W.mg_of X G qm0;have n1:=PySem.W.mg_of X G qm1;have n2:=PySem.W.mg_of X G qm2;have y0:=PySem.W.mg_none_of X G qz0;have y1:=PySem.W.mg_none_of X G qz1;have y2:=PySem.W.mg_none_of X G qz2;have y3:=PySem.W.mg_none_of X G qz3;have y4:=PySem.W.mg_none_of X G qz4;have y5:=PySem.W.mg_none_of X G qz5;have y6:=PySem.W.mg_none_of X G qz6;have y7:=PySem.W.mg_none_of X G qz7;have y8:=PySem.W.mg_none_of X G qz8;have y9:=PySem.W.mg_none_of X G qz9;have y10:=PySem.W.mg_none_of X G qz10;have y11:=PySem.W.mg_none_of X G qz11;have y12:=PySem.W.mg_none_of X G qz12;have y13:=PySem.W.mg_none_of X G qz13;refine ⟨nl,PySem.W.fnOf "law" "law" (eI iC) (di iC) (ak iC) .none kV36 dc36 pm36 an36 cd36 ct36,fun s v=>.of_eq rfl,fun base _ _=>?_⟩;have QI_Share:bg l.prog w K mg base (cP l.prog w mg) 1 fi_Share _ ["self","who","places","moves"] (IK c_Share ["who","places","moves"]):=BY FF_Share ccl_Share qn_Share_who qn_Share_places qn_Share_moves;have Q0:bg l.prog w K mg base (cP l.prog w mg) 1 f0 _ ["_law_script","_law_k"] (dt cF 2):=pT (k:=0) (W:=q0.fn) (b_len:=y5);have Q1:bg l.prog w K mg base (cP l.prog w mg) 2 f1 _ ["_law_script","_law_k"] (dt bA 2):=sP (k:=1) (W:=q1.fn) (C29:=⟨Q0.mono (by decide),m0,q0.fn.kp,b0⟩);have Q2:bg l.prog w K mg base (cP l.prog w mg) 1 f2 _ ["_law_number","_law_k"] (dt aV 2):=sN (k:=0) (W:=q2.fn);have Q3:bg l.prog w K mg base (cP l.prog w mg) 2 f3 _ ["_law_number","_law_count"] (dt dh 2):=sO (k:=1) (W:=q3.fn) (C31:=⟨Q2.mono (by decide),m2,q2.fn.kp,b2⟩) (b_int:=y3) (b_range:=y9) (b_sorted:=y11) (b_tuple:=y12);have Q4:bg l.prog w K mg base (cP l.prog w mg) 3 f4 _ ["_law_number","_law_count","_law_high"] (dt cT 3):=sQ (k:=2) (W:=q4.fn) (C31:=⟨Q2.mono (by decide),m2,q2.fn.kp,b2⟩) (C32:=⟨Q3.mono (by decide),m3,q3.fn.kp,b3⟩);have Q5:bg l.prog w K mg base (cP l.prog w mg) 4 f5 _ ["_law_script","_law_most"] (dt cG 2):=rb (k:=3) (W:=q5.fn) (C30:=⟨Q1.mono (by decide),m1,q1.fn.kp,b1⟩) (C33:=⟨Q4.mono (by decide),m4,q4.fn.kp,b4⟩) (b_len:=y5) (b_max:=y7) (b_min:=y8) (b_range:=y9) (b_tuple:=y12);have Q6:bg l.prog w K mg base (cP l.prog w mg) 2 f6 _ ["_law_number","_law_count"] (dt da 2):=uT (k:=1) (W:=q6.fn) (C31:=⟨Q2.mono (by decide),m2,q2.fn.kp,b2⟩) (b_range:=y9) (b_tuple:=y12);have Q7:bg l.prog w K mg base (cP l.prog w mg) 1 f7 _ ["place","goals"] (dt bh 2):=rc (k:=0) (W:=q7.fn) (g_GAIN:=h0) (g_MARK:=h2) (g_WHO:=h5) (b_tuple:=y12);have Q8:bg l.prog w K mg base (cP l.prog w mg) 2 f8 _ ["one","other"] (dt fj 2):=zF (k:=1) (W:=q8.fn) (C12:=⟨Q7.mono (by decide),m7,q7.fn.kp,b7⟩) (g_GOALS:=h1) (g_MOST_PLACES:=h4) (b_len:=y5) (b_tuple:=y12) (m_NoRoom:=n2) (q_NoRoom:=qq2);have Q9:bg l.prog w K mg base (cP l.prog w mg) 1 f9 _ ["ground"] (dt cn 1):=uU (k:=0) (W:=q9.fn) (g_MARK:=h2);have Q10:bg l.prog w K mg base (cP l.prog w mg) 2 f10 _ ["ground"] (dt dg 1):=sL (k:=1) (W:=q10.fn) (C13:=⟨Q9.mono (by decide),m9,q9.fn.kp,b9⟩) (g_GAIN:=h0) (g_GOALS:=h1) (g_MARK:=h2) (g_MOST_MARK:=h3) (g_WHO:=h5) (b_tuple:=y12) (m_NoMark:=n0) (q_NoMark:=qq0);have Q11:bg l.prog w K mg base (cP l.prog w mg) 1 f11 _ ["thing"] (dt dY 1):=uS (k:=0) (W:=q11.fn) (b_bool:=y1) (b_int:=y3) (b_isinstance:=y4);have Q12:bg l.prog w K mg base (cP l.prog w mg) 2 f12 _ ["thing","low","high"] (dt cE 3):=qZ (k:=1) (W:=q12.fn) (C0:=⟨Q11.mono (by decide),m11,q11.fn.kp,b11⟩);have Q13:bg l.prog w K mg base (cP l.prog w mg) 3 f13 _ ["thing","count"] (dt bY 2):=uR (k:=2) (W:=q13.fn) (C1:=⟨Q12.mono (by decide),m12,q12.fn.kp,b12⟩) (b_isinstance:=y4) (b_tuple:=y12);have Q14:bg l.prog w K mg base (cP l.prog w mg) 1 f14 _ ["some","others"] (dt bo 2):=zG (k:=0) (W:=q14.fn) (b_tuple:=y12);have Q15:bg l.prog w K mg base (cP l.prog w mg) 2 f15 _ ["ground","inside"] (dt bc 2):=nD (k:=1) (W:=q15.fn) (C4:=⟨Q14.mono (by decide),m14,q14.fn.kp,b14⟩) (g_GOALS:=h1) (b_all:=y0) (b_len:=y5);have Q16:bg l.prog w K mg base (cP l.prog w mg) 1 f16 _ ["some","others"] (dt aZ 2):=xH (k:=0) (W:=q16.fn) (b_tuple:=y12);have Q17:bg l.prog w K mg base (cP l.prog w mg) 4 f17 _ ["ground","inside","some"] (dt cS 3):=qX (k:=3) (W:=q17.fn) (C2:=⟨Q13.mono (by decide),m13,q13.fn.kp,b13⟩) (C6:=⟨Q15.mono (by decide),m15,q15.fn.kp,b15⟩) (C5:=⟨Q16.mono (by decide),m16,q16.fn.kp,b16⟩) (b_len:=y5) (m_NoPart:=n1) (q_NoPart:=qq1);have Q18:bg l.prog w K mg base (cP l.prog w mg) 1 f18 _ ["ranks"] (dt bS 1):=zH (k:=0) (W:=q18.fn) (b_enumerate:=y2) (b_tuple:=y12);have Q19:bg l.prog w K mg base (cP l.prog w mg) 1 f19 _ ["place","ways","who","ranks"] (dt cs 4):=sM (k:=0) (W:=q19.fn) (g_WHO:=h5) (b_len:=y5);have Q20:bg l.prog w K mg base (cP l.prog w mg) 2 f20 _ ["ground","inside","who","goals"] (dt bQ 4):=uX (k:=1) (W:=q20.fn) (C4:=⟨Q14.mono (by decide),m14,q14.fn.kp,b14⟩) (C21:=⟨Q19.mono (by decide),m19,q19.fn.kp,b19⟩) (g_GOALS:=h1) (b_len:=y5) (b_list:=y6) (b_range:=y9) (b_tuple:=y12);have Q21:bg l.prog w K mg base (cP l.prog w mg) 1 f21 _ ["ground"] (dt cq 1):=uW (k:=0) (W:=q21.fn) (b_tuple:=y12);have Q22:bg l.prog w K mg base (cP l.prog w mg) 2 f22 _ ["ground","who","part"] (dt aW 3):=nH (k:=1) (W:=q22.fn) (C4:=⟨Q14.mono (by decide),m14,q14.fn.kp,b14⟩) (C7:=⟨Q21.mono (by decide),m21,q21.fn.kp,b21⟩) (g_GOALS:=h1) (g_WHO:=h5) (b_list:=y6) (b_tuple:=y12);have Q23:bg l.prog w K mg base (cP l.prog w mg) 5 f23 _ ["ground","inside","who","places"] (dt hW 4):=Ey (k:=4) (W:=q23.fn) (C20:=⟨Q17.mono (by decide),m17,q17.fn.kp,b17⟩) (C23:=⟨Q18.mono (by decide),m18,q18.fn.kp,b18⟩) (C22:=⟨Q20.mono (by decide),m20,q20.fn.kp,b20⟩) (C10:=⟨Q22.mono (by decide),m22,q22.fn.kp,b22⟩) (C5:=⟨Q16.mono (by decide),m16,q16.fn.kp,b16⟩);have Q24:bg l.prog w K mg base (cP l.prog w mg) 2 f24 _ ["place","inside"] (dt cv 2):=qY (k:=1) (W:=q24.fn) (C4:=⟨Q14.mono (by decide),m14,q14.fn.kp,b14⟩) (g_GOALS:=h1);have Q25:bg l.prog w K mg base (cP l.prog w mg) 4 f25 _ ["ground","inside"] (dt cY 2):=xF (k:=3) (W:=q25.fn) (C2:=⟨Q13.mono (by decide),m13,q13.fn.kp,b13⟩) (C18:=⟨Q24.mono (by decide),m24,q24.fn.kp,b24⟩) (C6:=⟨Q15.mono (by decide),m15,q15.fn.kp,b15⟩) (C12:=⟨Q7.mono (by decide),m7,q7.fn.kp,b7⟩) (b_len:=y5) (b_tuple:=y12) (m_NoPart:=n1) (q_NoPart:=qq1);have Q26:bg l.prog w K mg base (cP l.prog w mg) 1 f26 _ ["marks"] (dt cj 1):=nF (k:=0) (W:=q26.fn) (b_set:=y10) (b_sorted:=y11);have Q27:bg l.prog w K mg base (cP l.prog w mg) 2 f27 _ ["ground"] (dt ez 1):=xG (k:=1) (W:=q27.fn) (C13:=⟨Q9.mono (by decide),m9,q9.fn.kp,b9⟩) (C15:=⟨Q26.mono (by decide),m26,q26.fn.kp,b26⟩) (g_GAIN:=h0) (g_GOALS:=h1) (g_MARK:=h2) (g_WHO:=h5) (b_tuple:=y12);have Q28:bg l.prog w K mg base (cP l.prog w mg) 1 f28 _ ["ground"] (dt cR 1):=qW (k:=0) (W:=q28.fn) (b_len:=y5) (b_range:=y9) (b_tuple:=y12);have Q29:bg l.prog w K mg base (cP l.prog w mg) 1 f29 _ ["moves","places"] (dt dc 2):=uV (k:=0) (W:=q29.fn) (b_enumerate:=y2) (b_tuple:=y12);have Q30:bg l.prog w K mg base (cP l.prog w mg) 1 f30 _ ["moves","others"] (dt aG 2):=nE (k:=0) (W:=q30.fn) (b_tuple:=y12) (b_zip:=y13);have Q31:bg l.prog w K mg base (cP l.prog w mg) 2 f31 _ ["ground","who","ranks"] (dt bx 3):=nG (k:=1) (W:=q31.fn) (C23:=⟨Q18.mono (by decide),m18,q18.fn.kp,b18⟩) (g_GOALS:=h1) (g_WHO:=h5) (b_tuple:=y12);have Q33:bg l.prog w K mg base (cP l.prog w mg) 2 f33 _ ["ground","shares"] (dt (bu c_Share) 2):=ku (k:=1) (W:=q33.fn) (C8:=⟨Q30.mono (by decide),m30,q30.fn.kp,b30⟩) (C7:=⟨Q21.mono (by decide),m21,q21.fn.kp,b21⟩) (b_tuple:=y12) (cl_Share:=ccl_Share) (n_Share_moves:=qn_Share_moves) (n_Share_places:=qn_Share_places) (n_Share_who:=qn_Share_who);have HH34:∀ n,bg l.prog w K mg base (cP l.prog w mg) (2*n+3) f34 _ ["ground","inside"] (dt (aN c_Share n) 2)->bg l.prog w K mg base (cP l.prog w mg) (2*n+4) f32 _ ["ground","inside"] (dt (bj c_Share n) 2):=fun n ih=>l3 (k:=2*n+3) (W:=q32.fn) (C27:=⟨ih,m34,q34.fn.kp,b34⟩) (C9:=⟨Q29.mono (by omega),m29,q29.fn.kp,b29⟩) (C8:=⟨Q30.mono (by omega),m30,q30.fn.kp,b30⟩) (C24:=⟨Q31.mono (by omega),m31,q31.fn.kp,b31⟩) (C23:=⟨Q18.mono (by omega),m18,q18.fn.kp,b18⟩) (C22:=⟨Q20.mono (by omega),m20,q20.fn.kp,b20⟩) (C10:=⟨Q22.mono (by omega),m22,q22.fn.kp,b22⟩) (C5:=⟨Q16.mono (by omega),m16,q16.fn.kp,b16⟩) (g_MARK:=h2) (b_enumerate:=y2) (b_len:=y5) (b_max:=y7) (cl_Share:=ccl_Share) (n_Share_moves:=qn_Share_moves) (n_Share_places:=qn_Share_places) (n_Share_who:=qn_Share_who) (m_Share:=mm_Share) (MK_Share:=⟨qmk_Share,qi_Share,qf_Share,qkc_Share⟩) (I_Share:=QI_Share) (B_Share:=bb_Share) (hk:=by omega)
  have Q34:∀ n,bg l.prog w K mg base (cP l.prog w mg) (2*n+3) f34 _ ["ground","inside"] (dt (aN c_Share n) 2):=fun n=>by
    induction n with
    | zero=>exact yS
    | succ n ih=>exact l4 (k:=2*n+4) (W:=q34.fn) (C26:=⟨HH34 n ih,m32,q32.fn.kp,b32⟩) (C11:=⟨Q33.mono (by omega),m33,q33.fn.kp,b33⟩) (C5:=⟨Q16.mono (by omega),m16,q16.fn.kp,b16⟩) (b_len:=y5) (cl_Share:=ccl_Share) (n_Share_places:=qn_Share_places)
  have Q34:=Q34 14;have Q35:bg l.prog w K mg base (cP l.prog w mg) 32 f35 _ ["ground"] (dt (fq c_Share) 1):=Gq (k:=31) (W:=q35.fn) (C3:=⟨Q28.mono (by decide),m28,q28.fn.kp,b28⟩) (C27:=⟨Q34.mono (by decide),m34,q34.fn.kp,b34⟩);have Q36:bg l.prog w K mg base (cP l.prog w mg) 33 fa _ ["_law_script"] (dt (wx c_Share) 1):=Gp (k:=32) (W:=F36) (C34:=⟨Q5.mono (by decide),m5,q5.fn.kp,b5⟩) (C30:=⟨Q1.mono (by decide),m1,q1.fn.kp,b1⟩) (C35:=⟨Q6.mono (by decide),m6,q6.fn.kp,b6⟩) (C17:=⟨Q8.mono (by decide),m8,q8.fn.kp,b8⟩) (C14:=⟨Q10.mono (by decide),m10,q10.fn.kp,b10⟩) (C25:=⟨Q23.mono (by decide),m23,q23.fn.kp,b23⟩) (C19:=⟨Q25.mono (by decide),m25,q25.fn.kp,b25⟩) (C16:=⟨Q27.mono (by decide),m27,q27.fn.kp,b27⟩) (C28:=⟨Q35.mono (by decide),m35,q35.fn.kp,b35⟩) (b_all:=y0) (b_len:=y5) (b_min:=y8) (b_range:=y9) (b_tuple:=y12) (b_zip:=y13);exact Q36.imp Gs
end G
open PySem PySem.W PyProof.Rows
theorem D2.walkZ {q:Program} {loose:List Str} {XP:(Str->Option Value)->Heap->Prop} {K:Params->PySem.W.Frag} {as:List Addr} {n t:Nat} {r:PySem.W.RowW} {d:DefRec} {kwd:List (Str×Expr)} {run:Value->List Value->Sem Value} (has:∀ P:Params,as=List.map (fun x=>x.fst) (K P))
    (h:PySem.W.WalkO q loose XP (PySem.W.kHook K as has).says r d kwd run):PySem.W.WalkX q loose XP (PySem.W.X.obsZ as) (PySem.W.X.valZ K n t) r d kwd run:=fun w s₀ s₁ mg mb G e a o pm cd doc dV kV h1 h2 h3 h4 h5 h6 args vals as' L =>
  h w s₀ s₁ mg mb G ((PySem.W.kHook K as has).keeps w _ _ ((PySem.W.kHook K as has).of w s₀ (congrArg Prod.fst e)) L.keeps) a o pm cd doc dV kV h1 h2 h3 h4 h5 h6 args vals as'
set_option maxRecDepth 100000 in
set_option maxHeartbeats 0 in
theorem PySem.Challenge.cw_duelground_k71_whole_changes_of_winners_holds : PySem.Challenge.rw_duelground_k71_whole_changes_of_winners.Holds := by
  w_on;o_law;z_head;(case hw=>w_witness2)
  refine D2.walkZ (fun P=>rfl) ?_;refine D2.JL (l:=PySem.Challenge.rw_duelground_k71_whole_changes_of_winners) (k:=33) (x := "_law_script") (F:=G.F0) rfl rfl ⟨rfl,by decide,by decide⟩ (fun w h Y=>PySem.W.kIn_of Y) G.ww ?F
  case F =>
    intro w mg fa h KX GG hmg;refine' G.EK KX GG hmg ?q0 ?q1 ?q2 ?q3 ?q4 ?q5 ?q6 ?q7 ?q8 ?q9 ?q10 ?q11 ?q12 ?q13 ?q14 ?q15 ?q16 ?q17 ?q18 ?q19 ?q20 ?q21 ?q22 ?q23 ?q24 ?q25 ?q26 ?q27 ?q28 ?q29 ?q30 ?q31 ?q32 ?q33 ?q34 ?q35 ?a36 ?l36 ?c36 ?k36 ?qg0 ?qg1 ?qg2 ?qg3 ?qg4 ?qg5 ?qz0 ?qz1 ?qz2 ?qz3 ?qz4 ?qz5 ?qz6 ?qz7 ?qz8 ?qz9 ?qz10 ?qz11 ?qz12 ?qz13 ?qm0 ?qq0 ?qm1 ?qq1 ?qm2 ?qq2 ?qa_Share ?qi_Share ?qf_Share ?ql_Share ?qc_Share ?qk_Share ?qpg_Share ?qhd_Share ?qpo_Share ?qsa_Share ?qmk_Share ?qkc_Share ?qn_Share_who ?qn_Share_places ?qn_Share_moves ?nl
    (case q0=>refine' D2.ba ?a ?l ?c ?k;(case a=>k_is);(case l=>k_is);(case c=>k_is);(case k=>k_is))
    (case q1=>refine' D2.ba ?a ?l ?c ?k;(case a=>k_is);(case l=>k_is);(case c=>k_is);(case k=>k_is))
    (case q2=>refine' D2.ba ?a ?l ?c ?k;(case a=>k_is);(case l=>k_is);(case c=>k_is);(case k=>k_is))
    (case q3=>refine' D2.ba ?a ?l ?c ?k;(case a=>k_is);(case l=>k_is);(case c=>k_is);(case k=>k_is))
    (case q4=>refine' D2.ba ?a ?l ?c ?k;(case a=>k_is);(case l=>k_is);(case c=>k_is);(case k=>k_is))
    (case q5=>refine' D2.ba ?a ?l ?c ?k;(case a=>k_is);(case l=>k_is);(case c=>k_is);(case k=>k_is))
    (case q6=>refine' D2.ba ?a ?l ?c ?k;(case a=>k_is);(case l=>k_is);(case c=>k_is);(case k=>k_is))
    (case q7=>refine' D2.ba ?a ?l ?c ?k;(case a=>k_is);(case l=>k_is);(case c=>k_is);(case k=>k_is))
    (case q8=>refine' D2.ba ?a ?l ?c ?k;(case a=>k_is);(case l=>k_is);(case c=>k_is);(case k=>k_is))
    (case q9=>refine' D2.ba ?a ?l ?c ?k;(case a=>k_is);(case l=>k_is);(case c=>k_is);(case k=>k_is))
    (case q10=>refine' D2.ba ?a ?l ?c ?k;(case a=>k_is);(case l=>k_is);(case c=>k_is);(case k=>k_is))
    (case q11=>refine' D2.ba ?a ?l ?c ?k;(case a=>k_is);(case l=>k_is);(case c=>k_is);(case k=>k_is))
    (case q12=>refine' D2.ba ?a ?l ?c ?k;(case a=>k_is);(case l=>k_is);(case c=>k_is);(case k=>k_is))
    (case q13=>refine' D2.ba ?a ?l ?c ?k;(case a=>k_is);(case l=>k_is);(case c=>k_is);(case k=>k_is))
    (case q14=>refine' D2.ba ?a ?l ?c ?k;(case a=>k_is);(case l=>k_is);(case c=>k_is);(case k=>k_is))
    (case q15=>refine' D2.ba ?a ?l ?c ?k;(case a=>k_is);(case l=>k_is);(case c=>k_is);(case k=>k_is))
    (case q16=>refine' D2.ba ?a ?l ?c ?k;(case a=>k_is);(case l=>k_is);(case c=>k_is);(case k=>k_is))
    (case q17=>refine' D2.ba ?a ?l ?c ?k;(case a=>k_is);(case l=>k_is);(case c=>k_is);(case k=>k_is))
    (case q18=>refine' D2.ba ?a ?l ?c ?k;(case a=>k_is);(case l=>k_is);(case c=>k_is);(case k=>k_is))
    (case q19=>refine' D2.ba ?a ?l ?c ?k;(case a=>k_is);(case l=>k_is);(case c=>k_is);(case k=>k_is))
    (case q20=>refine' D2.ba ?a ?l ?c ?k;(case a=>k_is);(case l=>k_is);(case c=>k_is);(case k=>k_is))
    (case q21=>refine' D2.ba ?a ?l ?c ?k;(case a=>k_is);(case l=>k_is);(case c=>k_is);(case k=>k_is))
    (case q22=>refine' D2.ba ?a ?l ?c ?k;(case a=>k_is);(case l=>k_is);(case c=>k_is);(case k=>k_is))
    (case q23=>refine' D2.ba ?a ?l ?c ?k;(case a=>k_is);(case l=>k_is);(case c=>k_is);(case k=>k_is))
    (case q24=>refine' D2.ba ?a ?l ?c ?k;(case a=>k_is);(case l=>k_is);(case c=>k_is);(case k=>k_is))
    (case q25=>refine' D2.ba ?a ?l ?c ?k;(case a=>k_is);(case l=>k_is);(case c=>k_is);(case k=>k_is))
    (case q26=>refine' D2.ba ?a ?l ?c ?k;(case a=>k_is);(case l=>k_is);(case c=>k_is);(case k=>k_is))
    (case q27=>refine' D2.ba ?a ?l ?c ?k;(case a=>k_is);(case l=>k_is);(case c=>k_is);(case k=>k_is))
    (case q28=>refine' D2.ba ?a ?l ?c ?k;(case a=>k_is);(case l=>k_is);(case c=>k_is);(case k=>k_is))
    (case q29=>refine' D2.ba ?a ?l ?c ?k;(case a=>k_is);(case l=>k_is);(case c=>k_is);(case k=>k_is))
    (case q30=>refine' D2.ba ?a ?l ?c ?k;(case a=>k_is);(case l=>k_is);(case c=>k_is);(case k=>k_is))
    (case q31=>refine' D2.ba ?a ?l ?c ?k;(case a=>k_is);(case l=>k_is);(case c=>k_is);(case k=>k_is))
    (case q32=>refine' D2.ba ?a ?l ?c ?k;(case a=>k_is);(case l=>k_is);(case c=>k_is);(case k=>k_is))
    (case q33=>refine' D2.ba ?a ?l ?c ?k;(case a=>k_is);(case l=>k_is);(case c=>k_is);(case k=>k_is))
    (case q34=>refine' D2.ba ?a ?l ?c ?k;(case a=>k_is);(case l=>k_is);(case c=>k_is);(case k=>k_is))
    (case q35=>refine' D2.ba ?a ?l ?c ?k;(case a=>k_is);(case l=>k_is);(case c=>k_is);(case k=>k_is))
    (case a36=>k_is)
    (case l36=>k_is)
    (case c36=>k_is)
    (case k36=>k_is)
    (case qg0=>k_is)
    (case qg1=>k_is)
    (case qg2=>k_is)
    (case qg3=>k_is)
    (case qg4=>k_is)
    (case qg5=>k_is)
    (case qz0=>k_is)
    (case qz1=>k_is)
    (case qz2=>k_is)
    (case qz3=>k_is)
    (case qz4=>k_is)
    (case qz5=>k_is)
    (case qz6=>k_is)
    (case qz7=>k_is)
    (case qz8=>k_is)
    (case qz9=>k_is)
    (case qz10=>k_is)
    (case qz11=>k_is)
    (case qz12=>k_is)
    (case qz13=>k_is)
    (case qm0=>k_is)
    (case qq0=>k_exc)
    (case qm1=>k_is)
    (case qq1=>k_exc)
    (case qm2=>k_is)
    (case qq2=>k_exc)
    (case qa_Share=>k_is)
    (case qi_Share=>k_is)
    (case qf_Share=>k_is)
    (case ql_Share=>k_is)
    (case qc_Share=>k_is)
    (case qk_Share=>k_is)
    (case qpg_Share=>k_is)
    (case qhd_Share=>k_is)
    (case qpo_Share=>k_is)
    (case qsa_Share=>k_is)
    (case qmk_Share=>k_is)
    (case qkc_Share=>k_is)
    (case qn_Share_who=>k_is)
    (case qn_Share_places=>k_is)
    (case qn_Share_moves=>k_is)
    (case nl=>first | rfl | k_is | decide)

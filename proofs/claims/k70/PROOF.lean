import PyProof.Rows.All
import Wide.All
import OpenK.AllK
import Wide.FinOn
import Lean
import PyProof.EqAt
import PyProof.EqKinds
import PyProof.TupleCall
import PySem.Challenge.RW_duelground_k70_changes
set_option Elab.async false
set_option linter.all false
set_option maxRecDepth 100000
namespace L2
open PySem PySem.Spec PyProof.Rows
noncomputable abbrev cN:=Sum Int Str
noncomputable def mM:cN->Value->Bool
  | .inl k,v=>Value.isInt k v
  | .inr x,v=>Value.isStrOf x v
noncomputable def D7 (w:World):cN->Int
  | .inl k=>hashInt k
  | .inr x=>hashStr w x
theorem cu:∀ {k:cN} {v:Value},mM k v=true->(∃ i t,k=Sum.inl i/\v=Value.int i t)\/(∃ x t,k=Sum.inr x/\v=Value.str x t)
  | .inl i,v,h=>by
    obtain ⟨t,e⟩:=Value.isInt_shape (k:=i) (v:=v) h;exact .inl ⟨i,t,rfl,e⟩
  | .inr x,v,h=>by
    obtain ⟨t,e⟩:=Value.isStrOf_shape (x:=x) (v:=v) h;exact .inr ⟨x,t,rfl,e⟩
theorem vc (i:Int) (t:Tok):mM (.inl i) (.int i t)=true:=by simp [mM,Value.isInt]
theorem vd (x:Str) (t:Tok):mM (.inr x) (.str x t)=true:=by simp [mM,Value.isStrOf]
theorem Bd (a b:Int):decide ((Sum.inl a:cN)=Sum.inl b)=(a==b):=by
  by_cases e:a=b
  · subst e;simp
  · have h:¬ (Sum.inl a:cN)=Sum.inl b:=fun q=>e (Sum.inl.inj q)
    rw [decide_eq_false h];exact (beq_eq_false_iff_ne.mpr e).symm
theorem Bg (a b:Str):decide ((Sum.inr a:cN)=Sum.inr b)=decide (a=b):=by
  by_cases e:a=b
  · subst e;simp
  · have h:¬ (Sum.inr a:cN)=Sum.inr b:=fun q=>e (Sum.inr.inj q)
    rw [decide_eq_false h,decide_eq_false e]
theorem Be (a:Int) (b:Str):decide ((Sum.inl a:cN)=Sum.inr b)=false:=decide_eq_false (fun q=>nomatch q)
theorem Bf (a:Str) (b:Int):decide ((Sum.inr a:cN)=Sum.inl b)=false:=decide_eq_false (fun q=>nomatch q)
noncomputable def cq (prog:Program) (w:World):PySem.KeyKind prog w cN where
  is:=mM
  hash:=D7 w
  inj:=fun v a b ha hb=>by
    rcases cu ha with ⟨i,t,rfl,rfl⟩ | ⟨x,t,rfl,rfl⟩
    · rcases cu hb with ⟨j,u,rfl,e⟩ | ⟨y,u,rfl,e⟩
      · injection e with e1 _;rw [e1]
      · exact nomatch e
    · rcases cu hb with ⟨j,u,rfl,e⟩ | ⟨y,u,rfl,e⟩
      · exact nomatch e
      · injection e with e1 _;rw [e1]
  byValue:=fun k v h=>by
    rcases cu h with ⟨i,t,rfl,rfl⟩ | ⟨x,t,rfl,rfl⟩ <;> rfl
  pyHash:=fun hv h=>by
    rcases cu hv with ⟨i,t,rfl,rfl⟩ | ⟨x,t,rfl,rfl⟩
    · exact wpAny_pyHash_int h
    · exact wpAny_pyHash_str h
  eqBool:=fun hu hv h=>by
    rcases cu hu with ⟨i,t,rfl,rfl⟩ | ⟨x,t,rfl,rfl⟩
    · rcases cu hv with ⟨j,u,rfl,rfl⟩ | ⟨y,u,rfl,rfl⟩
      · rw [Bd] at h;exact wpAny_eqBool_int h
      · rw [Be] at h;exact SeqAt.EqAt.int_str i t y u _ _ _ _ h
    · rcases cu hv with ⟨j,u,rfl,rfl⟩ | ⟨y,u,rfl,rfl⟩
      · rw [Bf] at h;exact SeqAt.EqAt.str_int x t j u _ _ _ _ h
      · rw [Bg] at h;exact wpAny_eqBool_str h
  «strs»:=fun k x t v h=>by
    rcases cu h with ⟨i,u,rfl,e⟩ | ⟨y,u,rfl,e⟩
    · exact nomatch e
    · injection e with e1 _
      subst e1;cases v <;> rfl
theorem rc (prog:Program) (w:World) (i:Int) (t:Tok):(cq prog w).is (.inl i) (.int i t)=true:=vc i t
theorem re (prog:Program) (w:World) (x:Str) (t:Tok):(cq prog w).is (.inr x) (.str x t)=true:=vd x t
inductive V where
  | non | bl (b:Bool) | int (i:Int) | str (x:Str) | byt (b:Array UInt8) | flt (b:UInt64) | ref (a:Addr) | ty (n:String)
  deriving DecidableEq
noncomputable def bE:V->Value->Prop
  | .non,u=>u=Value.none
  | .bl b,u=>u=Value.bool b
  | .int i,u=>∃ t,u=Value.int i t
  | .str x,u=>∃ t,u=Value.str x t
  | .byt b,u=>∃ t,u=Value.bytes b t
  | .flt b,u=>∃ t,u=Value.float b t
  | .ref a,u=>u=Value.ref a
  | .ty n,u=>u=Value.type n
noncomputable abbrev bn:List V->List Value->Prop:=Paired bE
theorem bn.length {xs:List V} {us:List Value} (r:bn xs us):xs.length=us.length:=Paired.length r
theorem bn.get:∀ {xs:List V} {us:List Value} {i:Nat} {x:V},bn xs us->xs[i]?=some x->∃ u,us[i]?=some u/\bE x u
  | _,_,_,_,.nil,e=>by simp at e
  | _,_,0,_,.cons r _,e=>by simp at e;subst e;exact ⟨_,rfl,r⟩
  | _,_,i+1,x,.cons _ t,e=>by
    obtain ⟨u,h1,h2⟩:=bn.get (i:=i) (x:=x) t (by simpa using e);exact ⟨u,by simpa using h1,h2⟩
theorem bn.append:∀ {xs ys:List V} {us ws:List Value},bn xs us->bn ys ws->bn (xs++ys) (us++ws)
  | _,_,_,_,.nil,s=>s
  | _,_,_,_,.cons r t,s=>.cons r (bn.append t s)
theorem bn.take:∀ {xs:List V} {us:List Value} (n:Nat),bn xs us->bn (xs.take n) (us.take n)
  | _,_,0,_=>.nil
  | _,_,_+1,.nil=>.nil
  | _,_,n+1,.cons r t=>.cons r (bn.take n t)
theorem bn.drop:∀ {xs:List V} {us:List Value} (n:Nat),bn xs us->bn (xs.drop n) (us.drop n)
  | _,_,0,r=>r
  | _,_,_+1,.nil=>.nil
  | _,_,n+1,.cons _ t=>bn.drop n t
noncomputable def kD:Option V->Option Value->Prop
  | some v,some u=>bE v u
  | none,none=>True
  | _,_=>False
noncomputable def KV {κ:Type}:List (κ×V)->List (κ×Value)->Prop:=Paired fun (p:κ×V) (q:κ×Value)=>p.1=q.1/\bE p.2 q.2
noncomputable def kV:cN->V
  | .inl i=>.int i
  | .inr x=>.str x
inductive HO where
  /-- a list -/
  | lst (xs:List V)
  /-- a tuple (never changes) -/
  | tup (xs:List V)
  /-- a dict whose keys are ints and texts;one whose keys are tuples of ints and texts (the empty one is both) -/
  | dK (kvs:List (cN×V)) | dT (kvs:List (List cN×V))
  /-- a set of ints: its members,its size -/
  | set (S:Int->Bool) (n:Nat)
  /-- an instance of the class at C,its dict at dx,its attributes -/
  | ins (C dx:Addr) (fs:List (Str×V))
  /-- the dict of the instance at x -/
  | own (x:Addr)
  /-- the dict of an exception -/
  | xd (fs:List (Str×V))
  /-- a bound method,f of x -/
  | met (f x:Addr)
  /-- a range object lo,lo+1,.. below hi -/
  | rng (lo hi:Int)
  /-- a thing that is known to the object (the script;a dict while a loop walks it): read,never written while it is so -/
  | frz (o:Obj) (u:HO)
  /-- a code object's table -/
  | tbl (ps:Array Value)
  /-- any other thing,by what is true of its one object (a def of one's own: SetO a S n:=HO.ext fun h=>..) -/
  | ext (φ:Heap->Prop)
noncomputable abbrev Hp:=Addr->Option HO
noncomputable def du (H:Hp) (a:Addr) (o:HO):Hp:=fun b=>if b=a then some o else H b
theorem cj {H:Hp} {a:Addr} {o:HO}:du H a o a=some o:=by unfold du;rw [if_pos rfl]
theorem aJ {H:Hp} {a b:Addr} {o:HO} (h:b≠a):du H a o b=H b:=by unfold du;rw [if_neg h]
theorem Cy {H:Hp} {a b:Addr} {o u:HO} (h:H a=some o) (h':H b=some u) (d:o≠u):a≠b:=by
  intro e;subst e;rw [h] at h';exact d (Option.some.inj h')
theorem bh {H:Hp} {a b:Addr} {o:HO} (h:H a=some o) (h':H b=none):a≠b:=by
  intro e;subst e;rw [h] at h';cases h'
noncomputable def e7 (h:Heap) (a:Addr) (items:Array Value):Prop:=∃ o,h.get? a=some o/\o.cls=.type "tuple" /\ (∃ n,o.data=.seq items n)/\o.dict=none
theorem e7.is {h:Heap} {a:Addr} {items:Array Value} (x:e7 h a items):IsTup h a items:=by
  obtain ⟨o,e,c,n,_⟩:=x;exact ⟨o,e,c,n⟩
theorem e7.lt {h:Heap} {a:Addr} {items:Array Value} (x:e7 h a items):a < h.objs.size:=by
  obtain ⟨o,e,_⟩:=x;exact Heap.lt_size e
theorem e7.new (h:Heap) (items:Array Value):e7 (h.push { cls:=.type "tuple",data:=.seq items }) h.objs.size items:=⟨_,Heap.get?_push_size _ rfl,rfl,⟨_,rfl⟩,rfl⟩
section
variable (P:Program) (w:World)
noncomputable def bV (H:Hp) (h:Heap) (a:Addr):HO->Prop
  | .lst xs=>xs.length<=sizeLine/\∃ (its:List Value) (n:Nat),bn xs its/\h.get? a=some { cls:=.type "list",data:=.seq its.toArray n }
  | .tup xs=>xs.length<=sizeLine/\∃ its:List Value,bn xs its/\e7 h a its.toArray
  | .dK kvs=>kvs.length<=sizeLine/\(a==sysModules)=false/\∃ vs,KV kvs vs/\h.DictOf (cq P w) a vs
  | .dT kvs=>kvs.length<=sizeLine/\(a==sysModules)=false/\∃ xs:List (List cN×Addr×Value),
      Paired (fun (p:List cN×V) (q:List cN×Addr×Value)=>p.1=q.1/\H q.2.1=some (.tup (p.1.map kV))/\bE p.2 q.2.2) kvs xs /\
      ∃ o es ep,h.get? a=some o/\o.ExactDict/\o.data=.dict es ep/\es.toList=xs.map (entryOfKey (tupleKind (cq P w)))/\(xs.map (·.1)).Nodup
  | .set S n=>h.SetOf (intKind P w) a S n
  | .ins C dx fs=>H dx=some (.own a)/\fs.length<=1000/\dx≠a/\h.get? a=some (PySem.W.instObj C dx) /\
      ∃ mA,h.Ns1 dx mA/\(∀ f,kD (fs.lookup f) (mA f))/\PySem.Within mA (fs.map (·.1))
  | .own _=>∃ o,h.get? a=some o
  | .xd fs=>∃ mA,h.Ns1 a mA/\∀ f,kD (fs.lookup f) (mA f)
  | .rng lo hi=>∃ t u v,h.get? a=some { cls:=.type "range",data:=.fields #[.int lo t,.int hi u,.int 1 v] }
  | .frz o u=>h.get? a=some o/\bV H h a u
  | .tbl ps=>h.get? a=some { cls:=.none,data:=.fields ps }
  | .met f x=>h.get? a=some (PySem.W.methodObj (.ref f) (.ref x))
  | .ext φ=>φ h/\(∃ o,h.get? a=some o)/\∀ h1 h2:Heap,φ h1->(∀ o,h1.get? a=some o->h2.get? a=some o)->φ h2
noncomputable def gj (H:Hp) (h:Heap):Prop:=∀ a o,H a=some o->bV P w H h a o
end
section
variable {P:Program} {w:World} {H H':Hp} {h h':Heap} {a:Addr} {o:HO}
theorem bV.lt (x:bV P w H h a o):a < h.objs.size:=by
  cases o with
  | lst xs=>obtain ⟨_,_,_,_,e⟩:=x;exact Heap.lt_size e
  | tup xs=>obtain ⟨_,_,_,p⟩:=x;exact p.lt
  | dK kvs=>obtain ⟨_,_,_,_,o,_,_,e,_⟩:=x;exact Heap.lt_size e
  | dT kvs=>obtain ⟨_,_,_,_,o,_,_,e,_⟩:=x;exact Heap.lt_size e
  | set S n=>obtain ⟨o,_,_,_,e,_⟩:=x;exact Heap.lt_size e
  | ins C dx fs=>obtain ⟨_,_,_,e,_⟩:=x;exact Heap.lt_size e
  | own y=>obtain ⟨_,e⟩:=x;exact Heap.lt_size e
  | xd fs=>obtain ⟨_,⟨_,_,_,e,_⟩,_⟩:=x;exact Heap.lt_size e
  | rng lo hi=>obtain ⟨_,_,_,e⟩:=x;exact Heap.lt_size e
  | frz ob u=>obtain ⟨e,_⟩:=x;exact Heap.lt_size e
  | tbl ps=>exact Heap.lt_size (show h.get? a=some _ from x)
  | met f y=>exact Heap.lt_size (show h.get? a=some _ from x)
  | ext φ=>obtain ⟨_,⟨_,e⟩,_⟩:=x;exact Heap.lt_size e
theorem Paired.mapP {α β:Type} {F G:α->β->Prop}:∀ {l₁:List α} {l₂:List β},Paired F l₁ l₂->(∀ a b,F a b->G a b)->Paired G l₁ l₂
  | _,_,.nil,_=>.nil
  | _,_,.cons r t,f=>.cons (f _ _ r) (Paired.mapP t f)
theorem bV.stay (x:bV P w H h a o) (k:∀ b u,(b=a\/H b=some (.own a))->h.get? b=some u->h'.get? b=some u)
    (ho:∀ b,H b=some (.own a)->H' b=some (.own a)) (ht:∀ b xs,H b=some (.tup xs)->H' b=some (.tup xs)):bV P w H' h' a o:=by
  induction o with
  | lst xs=>obtain ⟨z,its,n,r,e⟩:=x;exact ⟨z,its,n,r,k _ _ (.inl rfl) e⟩
  | tup xs=>obtain ⟨z,its,r,ob,e,c⟩:=x;exact ⟨z,its,r,ob,k _ _ (.inl rfl) e,c⟩
  | dK kvs=>obtain ⟨z,y,vs,r,ob,es,ep,e,c⟩:=x;exact ⟨z,y,vs,r,ob,es,ep,k _ _ (.inl rfl) e,c⟩
  | dT kvs =>
    obtain ⟨z,y,xs,r,ob,es,ep,e,c⟩:=x;exact ⟨z,y,xs,Paired.mapP r fun p q z=>⟨z.1,ht _ _ z.2.1,z.2.2⟩,ob,es,ep,k _ _ (.inl rfl) e,c⟩
  | set S n=>obtain ⟨ob,es,ep,t,e,c⟩:=x;exact ⟨ob,es,ep,t,k _ _ (.inl rfl) e,c⟩
  | ins C dx fs =>
    obtain ⟨d,z,ne,e,mA,⟨od,es,ep,e2,c⟩,r⟩:=x;exact ⟨ho _ d,z,ne,k _ _ (.inl rfl) e,mA,⟨od,es,ep,k _ _ (.inr d) e2,c⟩,r⟩
  | own y=>obtain ⟨ob,e⟩:=x;exact ⟨ob,k _ _ (.inl rfl) e⟩
  | xd fs=>obtain ⟨mA,⟨od,es,ep,e,c⟩,r⟩:=x;exact ⟨mA,⟨od,es,ep,k _ _ (.inl rfl) e,c⟩,r⟩
  | rng lo hi=>obtain ⟨t,u,v,e⟩:=x;exact ⟨t,u,v,k _ _ (.inl rfl) e⟩
  | frz ob u ih=>obtain ⟨e,q⟩:=x;exact ⟨k _ _ (.inl rfl) e,ih q⟩
  | tbl ps =>
    have e:h.get? a=some { cls:=.none,data:=.fields ps }:=x;show h'.get? a=some { cls:=.none,data:=.fields ps };exact k a _ (.inl rfl) e
  | met f y =>
    have e:h.get? a=some (PySem.W.methodObj (.ref f) (.ref y)):=x;show h'.get? a=some (PySem.W.methodObj (.ref f) (.ref y));exact k a _ (.inl rfl) e
  | ext φ=>obtain ⟨p,⟨o,e⟩,st⟩:=x;exact ⟨st _ _ p fun o q=>k _ _ (.inl rfl) q,⟨o,k _ _ (.inl rfl) e⟩,st⟩
theorem gj.lt (x:gj P w H h) (e:H a=some o):a < h.objs.size:=(x a o e).lt
theorem gj.fresh (x:gj P w H h) (e:h.objs.size<=a):H a=none:=by
  cases q:H a with
  | none=>rfl
  | some u=>exact absurd (Nat.lt_of_lt_of_le (x.lt q) e) (Nat.lt_irrefl _)
theorem gj.kept (x:gj P w H h) (k:∀ b u,h.get? b=some u->h'.get? b=some u):gj P w H h':=fun a o e =>
  (x a o e).stay (fun b u _ q=>k b u q) (fun _ q=>q) fun _ _ q=>q
theorem gj.laid (x:gj P w H h) (k:∀ b u,h.get? b=some u->h'.get? b=some u) (hp:h.objs.size<=a) (new:bV P w (du H a o) h' a o):gj P w (du H a o) h':=fun b u e=>by
  have hn:=x.fresh hp;by_cases hb:b=a
  · subst hb;rw [cj] at e;cases e;exact new
  · rw [aJ hb] at e;exact (x b u e).stay (fun c v _ q=>k c v q) (fun c q=>by rw [aJ (bh q hn)];exact q) fun c xs q=>by rw [aJ (bh q hn)];exact q
end
noncomputable def Rd (H:Hp) (a:Addr) (u:HO):Prop:=H a=some u\/∃ o,H a=some (.frz o u)
theorem Rd.ok {P:Program} {w:World} {H:Hp} {h:Heap} {a:Addr} {u:HO} (r:Rd H a u) (x:gj P w H h):bV P w H h a u:=by
  rcases r with r | ⟨o,r⟩
  · exact x a u r
  · obtain ⟨_,q⟩:=x a _ r;exact q
noncomputable def Cb:Option HO->Prop
  | some (.lst _)=>True
  | some (.dK _)=>True
  | some (.dT _)=>True
  | some (.set _ _)=>True
  | some (.ins _ _ _)=>True
  | some (.ext _)=>True
  | _=>False
section
variable {P:Program} {w:World} {H:Hp} {h h':Heap} {x e:Addr} {o':HO}
theorem gj.write (ok:gj P w H h) (mu:Cb (H x)) (he:e=x\/H e=some (.own x)) (k:∀ b u,b≠e->h.get? b=some u->h'.get? b=some u) (heo:∃ u,h'.get? e=some u)
    (new:bV P w (du H x o') h' x o'):gj P w (du H x o') h':=fun b u q=>by
  have nown:∀ c y,H c=some (.own y)->c≠x:=fun c y r z=>by subst z;rw [r] at mu;exact mu
  have ntup:∀ c xs,H c=some (.tup xs)->c≠x:=fun c xs r z=>by subst z;rw [r] at mu;exact mu
  by_cases hb:b=x
  · subst hb;rw [cj] at q;cases q;exact new
  · rw [aJ hb] at q;by_cases hbe:b=e
    · have q':H b=some (.own x):=by
        rcases he with z | z
        · exact absurd (hbe.trans z) hb
        · rw [hbe];exact z
      rw [q] at q';cases q';obtain ⟨v,hv⟩:=heo;exact ⟨v,by rw [hbe];exact hv⟩
    · refine (ok b u q).stay (fun c v hc r=>k c v ?_ r) (fun c r=>by rw [aJ (nown c b r)];exact r) fun c xs r=>by rw [aJ (ntup c xs r)];exact r
      rcases hc with rfl | hc
      · exact hbe
      · rintro rfl;rcases he with z | z
        · exact nown c b hc z
        · rw [hc] at z;cases z;exact hb rfl
end
structure Un (fs ex:List Addr) (H H':Hp) (h h':Heap):Prop where
  keep:∀ b o,h.get? b=some o->H b=none->b∉fs->b∉ex->h'.get? b=some o
  slot:∀ b o,h.get? b=some o->H b=none->b∈fs->b∉ex->∃ sl,h'.get? b=some { o with slots:=sl }
  free:∀ b o,h.get? b=some o->H b=none->b∉ex->H' b=none
  there:∀ b o,h.get? b=some o->b∉ex->∃ o',h'.get? b=some o'
  tups:∀ b xs,H b=some (.tup xs)->H' b=some (.tup xs)
  frzs:∀ b o u,H b=some (.frz o u)->H' b=some (.frz o u)
  tbls:∀ b ps,H b=some (.tbl ps)->∃ more,H' b=some (.tbl (ps++more))
section
variable {fs fs' ex ex':List Addr} {H H1 H2:Hp} {h h1 h2 h':Heap} {a x e:Addr} {o:HO}
theorem Un.any (u:Un fs ex H H1 h h1) {b:Addr} {ob:Obj} (q:h.get? b=some ob) (n:H b=none) (hx:b∉ex):∃ sl,h1.get? b=some { ob with slots:=sl }:=by
  by_cases hb:b∈fs
  · exact u.slot b ob q n hb hx
  · exact ⟨ob.slots,u.keep b ob q n hb hx⟩
theorem Un.kept (k:∀ b u,h.get? b=some u->h'.get? b=some u):Un fs ex H H h h' :=
  ⟨fun b ob q _ _ _=>k b ob q,fun b ob q _ _ _=>⟨ob.slots,k b ob q⟩,fun _ _ _ n _=>n,fun b ob q _=>⟨ob,k b ob q⟩,fun _ _ q=>q,fun _ _ _ q=>q,fun _ ps q=>⟨#[],by rw [q];simp⟩⟩
theorem Un.refl:Un fs ex H H h h:=Un.kept fun _ _ q=>q
theorem Un.laid (k:∀ b u,h.get? b=some u->h'.get? b=some u) (hp:h.objs.size<=a) (hn:H a=none):Un fs ex H (du H a o) h h' where
  keep:=fun b u q _ _ _=>k b u q
  slot:=fun b u q _ _ _=>⟨u.slots,k b u q⟩
  free:=fun b u q n _=>by rw [aJ (Nat.ne_of_lt (Nat.lt_of_lt_of_le (Heap.lt_size q) hp))];exact n
  there:=fun b u q _=>⟨u,k b u q⟩
  tups:=fun b xs q=>by rw [aJ (bh q hn)];exact q
  frzs:=fun b u xs q=>by rw [aJ (bh q hn)];exact q
  tbls:=fun b ps q=>⟨#[],by rw [aJ (bh q hn),q];simp⟩
theorem Un.write (mu:Cb (H x)) (he:e=x\/H e=some (.own x)) (k:∀ b u,b≠e->h.get? b=some u->h'.get? b=some u) (heo:∃ u,h'.get? e=some u):Un fs ex H (du H x o) h h':=by
  have hx:∀ b,H b=none->b≠x:=fun b n z=>by subst z;rw [n] at mu;exact mu
  have hb:∀ b,H b=none->b≠e:=fun b n z=>by
    subst z;rcases he with r | r
    · exact hx b n r
    · rw [n] at r;cases r
  have hm:∀ b u,H b=some u->¬ Cb (some u)->b≠x:=fun b u q nm z=>by subst z;rw [q] at mu;exact nm mu
  refine ⟨fun b u q n _ _=>k b u (hb b n) q,fun b u q n _ _=>⟨u.slots,k b u (hb b n) q⟩,fun b u q n _=>by rw [aJ (hx b n)];exact n,fun b u q _=>?_,
    fun b xs q=>by rw [aJ (hm b _ q fun z=>z)];exact q,fun b u xs q=>by rw [aJ (hm b _ q fun z=>z)];exact q,fun b ps q=>⟨#[],by rw [aJ (hm b _ q fun z=>z),q];simp⟩⟩
  by_cases hbe:b=e
  · subst hbe;exact heo
  · exact ⟨u,k b u hbe q⟩
end
noncomputable def DI (h:Heap) (H:Hp):List Addr:=(List.range h.objs.size).filter fun a=>(H a).isSome
noncomputable def pP (h:Heap) (H:Hp):Heap:=PySem.W.hideAll h (DI h H)
theorem u3 (h:Heap) (H:Hp):(pP h H).objs.size=h.objs.size:=PySem.W.hideAll_size _ _
theorem wG {h:Heap} {H:Hp} {b:Addr} {o:Obj} (e:h.get? b=some o) (n:H b=none):(pP h H).get? b=some o :=
  PySem.W.hideAll_get _ e fun hm=>by
    have q:(H b).isSome=true:=(List.mem_filter.mp hm).2;rw [n] at q;simp at q
theorem zk {h:Heap} {H:Hp} {b:Addr} {o:Obj} (e:(pP h H).get? b=some o):h.get? b=some o/\H b=none:=by
  have e':h.get? b=some o:=PySem.W.of_hideAll (DI h H) e;refine ⟨e',?_⟩;cases q:H b with
  | none=>rfl
  | some x =>
    have hm:b∈DI h H:=List.mem_filter.mpr ⟨List.mem_range.mpr (Heap.lt_size e'),by simp [q]⟩;have z:(pP h H).get? b=none:=PySem.W.hideAll_none (DI h H) hm;rw [z] at e;cases e
noncomputable def yB (g h:Heap) (L:Addr):List (Addr×Obj):=(List.range h.objs.size).filterMap fun a=>if a=L\/(g.get? a).isSome=true then none else (h.get? a).map fun o=>(a,o)
noncomputable def dS (g h:Heap) (L d:Addr):List (Addr×Obj):=(yB g h L).filter fun p=>decide (p.1≠d)
structure Mod (K:PySem.W.Frag) (mg:Str->Option Value) (base:Heap):Prop where
  kin:K.In base
  glob:base.Ns mainGlobals mg
  blt:∃ mb,base.Ns builtinsNs mb/\∀ x:Str,x ≠ "__name__" -> mb x=bootBuiltins x
  nolimit:base.NoLimit
structure Cx where
  prog:Program
  w:World
  K:PySem.W.Frag
  mg:Str->Option Value
  base:Heap
  A:Around
  N:List Str
  s₀:Shared
  H₀:Hp
  env:Env
  outer:List Env
  stack:List Env
  ex:List Addr
  fn:Str->Bool
  calm:Bool
  pn:List (Addr×Obj)
  xe:Value->Shared->Prop
noncomputable def jR (l:List Env):List Addr:=l.filterMap (·.frame)
noncomputable abbrev Cx.fs (X:Cx):List Addr:=jR X.outer
noncomputable def B5 (sc:Scope) (x:Str):Prop:=sc.names.lookup x=some .local\/sc.names.lookup x=some .cell\/sc.names.lookup x=some .free
noncomputable def AC (sc:Scope) (x:Str):Prop:=sc.names.lookup x=some .local\/sc.names.lookup x=some .cell
noncomputable def DQ (env:Env) (h:Heap) (m:Str->Option Value) (x:Str) (u:Value):Prop :=
  (env.kindOf x=some .local/\m x=some u)\/((env.kindOf x=some .cell\/env.kindOf x=some .free)/\∃ c,env.cells.lookup x=some c/\h.IsCell c (some u))
structure Cx.Ok (X:Cx):Prop where
  mod:Mod X.K X.mg X.base
  kind:X.env.scope.kind=.function
  glob:X.env.globals=mainGlobals
  blt:X.env.builtins=builtinsNs
  above:X.s₀.heap.objs.size<=X.env.locals
  inj:∀ x y c,X.env.cells.lookup x=some c->X.env.cells.lookup y=some c->x=y
  has:∀ x,(X.env.kindOf x=some .cell\/X.env.kindOf x=some .free)->∃ c,X.env.cells.lookup x=some c
  cab:∀ x c,X.fn x=true->X.env.cells.lookup x=some c->X.s₀.heap.objs.size<=c
  hd:X.calm=true->X.A.handled=none
  frames:X.A.frames=some X.stack
  stk:X.stack=X.outer\/(X.stack=X.env::X.outer/\X.env.frame=some X.env.locals)
  exf:∀ b∈X.ex,b≠X.env.locals/\∀ x c,X.env.cells.lookup x=some c->c≠b
  bs:∀ b o,X.base.get? b=some o->X.s₀.heap.get? b=some o/\X.H₀ b=none
  bsz:X.base.objs.size<=X.s₀.heap.objs.size
  noex:∀ b o,X.base.get? b=some o->b∉X.ex
  exfs:∀ b∈X.ex,b∉X.fs
  funs:X.s₀.heap.FunFrames X.base X.outer
  frf:∀ b∈X.fs,X.H₀ b=none
structure aC (X:Cx) (pins:List (Addr×Obj)) (σ:List (Option V)) (H:Hp) (s:Shared):Prop where
  ok:X.Ok
  os:s.os=X.s₀.os
  bare:AllBare s.gens
  base:Un X.fs X.ex X.H₀ H X.s₀.heap s.heap
  loc:∃ m,s.heap.Ns X.env.locals m/\∀ (i:Nat) (x:Str) (v:V),X.N[i]?=some x->σ[i]?=some (some v)->B5 X.env.scope x->∃ u,bE v u/\DQ X.env s.heap m x u
  cell:∀ x c,X.env.cells.lookup x=some c->∃ v,s.heap.IsCell c v
  free:H X.env.locals=none
  freeC:∀ x c,X.env.cells.lookup x=some c->H c=none
  pin:∀ p∈X.pn++pins,s.heap.get? p.1=some p.2/\H p.1=none/\p.1≠X.env.locals/\p.1∉X.fs/\∀ v,p.2.data≠.cell v
  hok:gj X.prog X.w H s.heap
  len:σ.length=X.N.length
section
variable {X:Cx} {pins:List (Addr×Obj)} {σ:List (Option V)} {H H':Hp} {s:Shared} {h':Heap}
theorem Cx.Ok.nofr (ok:X.Ok) {b:Addr} {o:Obj} (e:X.base.get? b=some o):b∉X.fs:=fun hb=>by
  have:=(ok.funs.mem hb).1;rw [e] at this;cases this
theorem aC.bs (I:aC X pins σ H s):∀ b o,X.base.get? b=some o->s.heap.get? b=some o/\H b=none:=fun b o e =>
  ⟨I.base.keep b o (I.ok.bs b o e).1 (I.ok.bs b o e).2 (I.ok.nofr e) (I.ok.noex b o e),I.base.free b o (I.ok.bs b o e).1 (I.ok.bs b o e).2 (I.ok.noex b o e)⟩
theorem aC.bk (I:aC X pins σ H s):∀ b o,X.base.get? b=some o->s.heap.get? b=some o:=fun b o e=>(I.bs b o e).1
theorem aC.mod (I:aC X pins σ H s):Mod X.K X.mg X.base:=I.ok.mod
theorem aC.kIn (I:aC X pins σ H s):X.K.In s.heap:=I.ok.mod.kin.keeps I.bk
theorem aC.lt (I:aC X pins σ H s):X.env.locals < s.heap.objs.size:=let ⟨_,hn,_⟩:=I.loc;hn.lt
theorem aC.sz (I:aC X pins σ H s):X.s₀.heap.objs.size<=s.heap.objs.size:=Nat.le_trans I.ok.above (Nat.le_of_lt I.lt)
theorem aC.nofs (I:aC X pins σ H s) {a:Addr} (h:s.heap.objs.size<=a):a∉X.fs:=fun hb=>by
  obtain ⟨_,o,ho,_⟩:=I.ok.funs.mem hb;exact absurd (Nat.lt_of_lt_of_le (Heap.lt_size ho) (Nat.le_trans I.sz h)) (Nat.lt_irrefl _)
theorem aC.cne (I:aC X pins σ H s):∀ x c,X.env.cells.lookup x=some c->c≠X.env.locals:=fun x c e z=>by
  obtain ⟨v,o,ho,hd⟩:=I.cell x c e;obtain ⟨m,⟨o',es,ep,ho',hd',_⟩,_⟩:=I.loc;rw [z,ho'] at ho;cases ho;rw [hd'] at hd;cases hd
theorem aC.funs (I:aC X pins σ H s):s.heap.FunFrames X.base X.outer:=by
  have all:∀ (l:List Env),(∀ b∈jR l,b∈X.fs)->X.s₀.heap.FunFrames X.base l->s.heap.FunFrames X.base l:=by
    intro l;induction l with
    | nil=>intro _ _;trivial
    | cons env r ih =>
      intro hs hl;obtain ⟨hk,⟨L,o,hf,hn,ho,hd⟩,hr⟩:=hl;have hL:L∈X.fs:=hs L (by unfold jR;rw [List.filterMap_cons,hf];exact List.mem_cons_self);obtain ⟨sl,e⟩:=I.base.slot L o ho (I.ok.frf L hL) hL fun z=>I.ok.exfs L z hL
      exact ⟨hk,⟨L,_,hf,hn,e,hd⟩,ih (fun b hb=>hs b (by unfold jR;rw [List.filterMap_cons,hf];exact List.mem_cons_of_mem _ hb)) hr⟩
  exact all X.outer (fun _ hb=>hb) I.ok.funs
theorem aC.stack (I:aC X pins σ H s):s.heap.FunFrames X.base X.stack:=by
  rcases I.ok.stk with e | ⟨e,hf⟩
  · rw [e];exact I.funs
  · rw [e];obtain ⟨m,hn,_⟩:=I.loc;refine .cons (by rw [I.ok.kind];decide) hf hn ?_ I.funs;exact Heap.get?_none_of_le (Nat.le_trans I.ok.bsz I.ok.above)
theorem aC.stkSub (I:aC X pins σ H s):∀ b∈jR X.stack,b∈X.env.locals::X.fs:=fun b hb=>by
  rcases I.ok.stk with e | ⟨e,hf⟩
  · rw [e] at hb;exact List.mem_cons_of_mem _ hb
  · rw [e] at hb;unfold jR at hb;rw [List.filterMap_cons,hf] at hb;exact hb
theorem aC.stkFree (I:aC X pins σ H s):∀ b∈jR X.stack,H b=none:=fun b hb=>by
  rcases List.mem_cons.mp (I.stkSub b hb) with e | hb
  · rw [e];exact I.free
  · obtain ⟨_,o,ho,_⟩:=I.ok.funs.mem hb;exact I.base.free b o ho (I.ok.frf b hb) fun z=>I.ok.exfs b z hb
theorem aC.step {g':Array GenState} {t':Nat} {d':Drawn} {ch:List Addr} (I:aC X pins σ H s)
    (hch:∀ b∈ch,(b∈X.ex\/X.s₀.heap.objs.size<=b)/\b≠X.env.locals/\(∀ x c,X.env.cells.lookup x=some c->c≠b)/\∀ p∈X.pn++pins,p.1≠b)
    (keep:∀ b o,b≠X.env.locals->b∉X.fs->b∉ch->s.heap.get? b=some o->H b=none->h'.get? b=some o)
    (slot:∀ b o,b≠X.env.locals->b∈X.fs->b∉ch->s.heap.get? b=some o->H b=none->∃ sl,h'.get? b=some { o with slots:=sl }) (free:∀ b o,b∉ch->s.heap.get? b=some o->H b=none->H' b=none)
    (there:∀ b o,b∉ch->s.heap.get? b=some o->∃ o',h'.get? b=some o')
    (tups:∀ b xs,H b=some (.tup xs)->H' b=some (.tup xs)) (frzs:∀ b o u,H b=some (.frz o u)->H' b=some (.frz o u)) (tbls:∀ b ps,H b=some (.tbl ps)->∃ more,H' b=some (.tbl (ps++more)))
    (ns:∀ m,s.heap.Ns X.env.locals m->h'.Ns X.env.locals m) (hok:gj X.prog X.w H' h') (hg:AllBare g') :
    aC X pins σ H' { s with heap:=h',gens:=g',drawn:=d',toks:=t' }:=by
  have neL:∀ b o,X.s₀.heap.get? b=some o->b≠X.env.locals:=fun b o e=>Nat.ne_of_lt (Nat.lt_of_lt_of_le (Heap.lt_size e) I.ok.above)
  have neC:∀ b o,X.s₀.heap.get? b=some o->b∉X.ex->b∉ch:=fun b o e hx hb=>by
    rcases (hch b hb).1 with z | z
    · exact hx z
    · exact absurd (Nat.lt_of_lt_of_le (Heap.lt_size e) z) (Nat.lt_irrefl _)
  have cellK:∀ x c,X.env.cells.lookup x=some c->∀ v,s.heap.IsCell c v->h'.IsCell c v:=fun x c e v ⟨o,ho,hd⟩=>by
    have nch:c∉ch:=fun z=>(hch c z).2.2.1 x c e rfl
    by_cases hc:c∈X.fs
    · obtain ⟨sl,q⟩:=slot c o (I.cne x c e) hc nch ho (I.freeC x c e);exact ⟨_,q,hd⟩
    · exact ⟨o,keep c o (I.cne x c e) hc nch ho (I.freeC x c e),hd⟩
  refine ⟨I.ok,I.os,hg,⟨fun b o e n hb hx=>?_,fun b o e n hb hx=>?_,fun b o e n hx=>?_,fun b o e hx=>?_,fun b xs e=>tups b xs (I.base.tups b xs e),fun b o xs e=>frzs b o xs (I.base.frzs b o xs e),fun b ps e=>?_⟩,?_,fun x c e=>?_,?_,fun x c e=>?_,fun p hp=>?_,hok,I.len⟩
  · exact keep b o (neL b o e) hb (neC b o e hx) (I.base.keep b o e n hb hx) (I.base.free b o e n hx)
  · obtain ⟨sl,e1⟩:=I.base.slot b o e n hb hx;obtain ⟨sl',e2⟩:=slot b _ (neL b o e) hb (neC b o e hx) e1 (I.base.free b o e n hx);exact ⟨sl',e2⟩
  · obtain ⟨o',e1⟩:=I.base.there b o e hx;exact free b o' (neC b o e hx) e1 (I.base.free b o e n hx)
  · obtain ⟨o',e1⟩:=I.base.there b o e hx;exact there b o' (neC b o e hx) e1
  · obtain ⟨m1,e1⟩:=I.base.tbls b ps e;obtain ⟨m2,e2⟩:=tbls b _ e1;exact ⟨m1++m2,by rw [e2,Array.append_assoc]⟩
  · obtain ⟨m,hn,hl⟩:=I.loc;refine ⟨m,ns m hn,fun i x v e1 e2 e3=>?_⟩;obtain ⟨u,r,l⟩:=hl i x v e1 e2 e3;refine ⟨u,r,?_⟩;rcases l with l | ⟨k,c,e,z⟩
    · exact .inl l
    · exact .inr ⟨k,c,e,cellK x c e _ z⟩
  · obtain ⟨v,z⟩:=I.cell x c e;exact ⟨v,cellK x c e v z⟩
  · obtain ⟨m,⟨o,_,_,ho,_⟩,_⟩:=I.loc;exact free _ o (fun z=>(hch _ z).2.1 rfl) ho I.free
  · obtain ⟨v,o,ho,hd⟩:=I.cell x c e;exact free c o (fun z=>(hch c z).2.2.1 x c e rfl) ho (I.freeC x c e)
  · obtain ⟨e,n,ne,nf,d⟩:=I.pin p hp;have nch:p.1∉ch:=fun z=>(hch p.1 z).2.2.2 p hp rfl
    exact ⟨keep p.1 p.2 ne nf nch e n,free p.1 p.2 nch e n,ne,nf,d⟩
theorem aC.un {t':Nat} (I:aC X pins σ H s) (u:Un X.fs [] H H' s.heap h') (hok:gj X.prog X.w H' h'):aC X pins σ H' { s with heap:=h',toks:=t' }:=by
  obtain ⟨m,⟨o,es,ep,ho,r⟩,_⟩:=id I.loc;obtain ⟨sl,hL⟩:=u.any ho I.free (by simp);exact I.step (g':=s.gens) (d':=s.drawn) (ch:=[]) (fun _ z=>nomatch z) (fun b o _ hb _ e n=>u.keep b o e n hb (by simp)) (fun b o _ hb _ e n=>u.slot b o e n hb (by simp)) (fun b o _ e n=>u.free b o e n (by simp)) (fun b o _ e=>u.there b o e (by simp)) u.tups u.frzs u.tbls (fun m' hm=>by
    obtain ⟨o',es',ep',ho',r'⟩:=hm;rw [ho] at ho';cases ho';exact ⟨_,es',ep',hL,r'⟩) hok I.bare
theorem aC.call {g':Array GenState} {t':Nat} {d':Drawn} {ch:List Addr} (I:aC X pins σ H s) (u:Un (jR X.stack) ch H H' s.heap h') (hok:gj X.prog X.w H' h') (hg:AllBare g')
    (hch:∀ b∈ch,(b∈X.ex\/X.s₀.heap.objs.size<=b)/\b≠X.env.locals/\(∀ x c,X.env.cells.lookup x=some c->c≠b)/\∀ p∈X.pn++pins,p.1≠b) :
    aC X pins σ H' { s with heap:=h',gens:=g',drawn:=d',toks:=t' }:=by
  obtain ⟨m,⟨o,es,ep,ho,r⟩,_⟩:=id I.loc;obtain ⟨sl,hL⟩:=u.any ho I.free fun z=>(hch _ z).2.1 rfl
  exact I.step (ch:=ch) hch (fun b o hL hb hc e n=>u.keep b o e n (fun z=>(List.mem_cons.mp (I.stkSub b z)).elim hL hb) hc) (fun b o _ _ hc e n=>u.any e n hc) (fun b o hc e n=>u.free b o e n hc) (fun b o hc e=>u.there b o e hc) u.tups u.frzs u.tbls (fun m' hm=>by
    obtain ⟨o',es',ep',ho',r'⟩:=hm;rw [ho] at ho';cases ho';exact ⟨_,es',ep',hL,r'⟩) hok hg
theorem aC.turned {t':Nat} {it:Addr} (I:aC X pins σ H s) (k:∀ b o,b≠it->s.heap.get? b=some o->h'.get? b=some o) (hn:H it=none) (hL:it≠X.env.locals)
    (h1:it∈X.ex\/X.s₀.heap.objs.size<=it) (h2:∀ x c,X.env.cells.lookup x=some c->c≠it) (h3:∀ p∈X.pn++pins,p.1≠it):aC X pins σ H { s with heap:=h',toks:=t' }:=by
  have nit:∀ b u,H b=some u->b≠it:=fun b u e z=>by rw [z,hn] at e;cases e
  refine I.step (g':=s.gens) (d':=s.drawn) (ch:=[it]) (fun b hb=>?_) (fun b o _ _ hc e _=>k b o (fun z=>hc (by simp [z])) e) (fun b o _ _ hc e _=>⟨o.slots,k b o (fun z=>hc (by simp [z])) e⟩) (fun _ _ _ _ n=>n)
    (fun b o hc e=>⟨o,k b o (fun z=>hc (by simp [z])) e⟩) (fun _ _ e=>e) (fun _ _ _ e=>e) (fun b ps e=>⟨#[],by rw [e];simp⟩) (fun m hm=>?_) (fun b u e=>?_) I.bare
  · have e:b=it:=by simpa using hb
    subst e;exact ⟨h1,hL,h2,h3⟩
  · obtain ⟨o,es,ep,ho,r⟩:=hm;exact ⟨o,es,ep,k _ o (Ne.symm hL) ho,r⟩
  · refine (I.hok b u e).stay (fun c v hc q=>k c v ?_ q) (fun _ q=>q) fun _ _ q=>q
    rcases hc with z | z
    · rw [z];exact nit b u e
    · exact nit c _ z
theorem aC.tok (I:aC X pins σ H s) (t:Nat):aC X pins σ H { s with toks:=t }:=I.un (h':=s.heap) (t':=t) Un.refl I.hok
theorem aC.kept {t':Nat} (I:aC X pins σ H s) (k:∀ b u,s.heap.get? b=some u->h'.get? b=some u):aC X pins σ H { s with heap:=h',toks:=t' }:=I.un (Un.kept k) (I.hok.kept k)
theorem aC.laid {a:Addr} {o:HO} {t':Nat} (I:aC X pins σ H s) (k:∀ b u,s.heap.get? b=some u->h'.get? b=some u) (hp:s.heap.objs.size<=a) (new:bV X.prog X.w (du H a o) h' a o) :
    aC X pins σ (du H a o) { s with heap:=h',toks:=t' }:=I.un (Un.laid k hp (I.hok.fresh hp)) (I.hok.laid k hp new)
theorem aC.write {x e:Addr} {o:HO} {t':Nat} (I:aC X pins σ H s) (mu:Cb (H x)) (he:e=x\/H e=some (.own x)) (k:∀ b u,b≠e->s.heap.get? b=some u->h'.get? b=some u) (heo:∃ u,h'.get? e=some u)
    (new:bV X.prog X.w (du H x o) h' x o):aC X pins σ (du H x o) { s with heap:=h',toks:=t' }:=I.un (Un.write mu he k heo) (I.hok.write mu he k heo new)
theorem aC.pins_of {pins':List (Addr×Obj)} (I:aC X pins σ H s) (h:∀ p∈pins',s.heap.get? p.1=some p.2/\H p.1=none/\p.1≠X.env.locals/\p.1∉X.fs/\∀ v,p.2.data≠.cell v):aC X pins' σ H s :=
  ⟨I.ok,I.os,I.bare,I.base,I.loc,I.cell,I.free,I.freeC,fun p hp=>(List.mem_append.mp hp).elim (fun z=>I.pin p (List.mem_append_left _ z)) (h p),I.hok,I.len⟩
theorem mU {N:List Str} (hN:N.Nodup) {i j:Nat} {x:Str} (a:N[i]?=some x) (b:N[j]?=some x):i=j:=by
  obtain ⟨h1,e1⟩:=List.getElem?_eq_some_iff.mp a;obtain ⟨h2,e2⟩:=List.getElem?_eq_some_iff.mp b;exact (List.getElem_inj hN).mp (e1.trans e2.symm)
theorem oQ {M:Model} {A:Around} {E:Value->Shared->Prop} {i:Nat} {x:Str} {v:V} {u:Value} {Q:Unit->Shared->Prop} (I:aC X pins σ H s) (hN:X.N.Nodup) (hi:X.N[i]?=some x) (hx:AC X.env.scope x) (r:bE v u)
    (h:∀ s',aC X pins (σ.set i (some v)) H s'->(∃ a,Heap.SameBut a s.heap s'.heap/\(a=X.env.locals\/X.env.cells.lookup x=some a))->Q () s') (hf:X.fn x=true\/X.env.scope.names.lookup x=some .local:=by first | exact .inl rfl | exact .inr rfl | assumption):wpAny M A (storeName X.env x u) Q E s:=by
  obtain ⟨m,hn,hl⟩:=id I.loc;have hcls:(X.env.scope.kind==.class||(X.env.scope.kind==.module&&X.env.locals != X.env.globals))=false:=by rw [I.ok.kind];rfl
  have hiσ:i < σ.length:=by rw [I.len];exact (List.getElem?_eq_some_iff.mp hi).1
  have cne:=I.cne;have tracked:∀ {a:Addr} {h':Heap},(∃ o,s.heap.get? a=some o/\H a=none)->Heap.SameBut a s.heap h'->gj X.prog X.w H h':=fun {a h'} ha hs b ob e=>by
    obtain ⟨_,_,hfree⟩:=ha;refine (I.hok b ob e).stay (fun c w' hc q=>(hs.2 c ?_).trans q) (fun _ q=>q) fun _ _ q=>q
    rintro rfl;rcases hc with rfl | hc
    · rw [hfree] at e;cases e
    · rw [hfree] at hc;cases hc
  rcases hx with hk | hk
  · refine wpAny_storeName_local hk hn (fun h' hn' hs=>?_) hcls;obtain ⟨oL,_,_,hoL,_⟩:=id hn;refine h _ ⟨I.ok,I.os,I.bare,⟨fun b o e n hb hx=>?_,fun b o e n hb hx=>?_,I.base.free,fun b o e hx=>?_,I.base.tups,I.base.frzs,I.base.tbls⟩,⟨_,hn',fun j y v' e1 e2 e3=>?_⟩,fun y c e=>?_,I.free,I.freeC,fun p hp=>?_,tracked ⟨oL,hoL,I.free⟩ hs,by simpa using I.len⟩ ⟨_,hs,.inl rfl⟩
    · exact (hs.2 b (Nat.ne_of_lt (Nat.lt_of_lt_of_le (Heap.lt_size e) I.ok.above))).trans (I.base.keep b o e n hb hx)
    · obtain ⟨sl,e1⟩:=I.base.slot b o e n hb hx;exact ⟨sl,(hs.2 b (Nat.ne_of_lt (Nat.lt_of_lt_of_le (Heap.lt_size e) I.ok.above))).trans e1⟩
    · obtain ⟨o',e1⟩:=I.base.there b o e hx;exact ⟨o',(hs.2 b (Nat.ne_of_lt (Nat.lt_of_lt_of_le (Heap.lt_size e) I.ok.above))).trans e1⟩
    · by_cases hj:j=i
      · subst hj;rw [hi] at e1;cases e1;rw [List.getElem?_set_self hiσ] at e2;cases e2;exact ⟨u,r,.inl ⟨hk,by simp⟩⟩
      · rw [List.getElem?_set_ne (Ne.symm hj)] at e2;obtain ⟨u',r',q⟩:=hl j y v' e1 e2 e3;refine ⟨u',r',?_⟩;rcases q with ⟨k,e⟩ | ⟨k,c,e,z⟩
        · refine .inl ⟨k,?_⟩;have:y≠x:=fun e=>hj (mU hN e1 (e ▸ hi))
          simp [this,e]
        · exact .inr ⟨k,c,e,z.sameBut hs (cne y c e)⟩
    · obtain ⟨w',z⟩:=I.cell y c e;exact ⟨w',z.sameBut hs (cne y c e)⟩
    · obtain ⟨e,n,ne,nf,d⟩:=I.pin p hp;exact ⟨(hs.2 p.1 ne).trans e,n,ne,nf,d⟩
  · have hfn:X.fn x=true:=by
      rcases hf with z | z
      · exact z
      · rw [z] at hk;cases hk
    obtain ⟨c,hc⟩:=I.ok.has x (.inl hk);obtain ⟨w',z⟩:=I.cell x c hc;refine wpAny_storeName_cell I.ok.kind hk hc z (fun h' hc' hs=>?_);obtain ⟨oc,hoc,hocd⟩:=id z;refine h { s with heap:=h' } ⟨I.ok,I.os,I.bare,⟨fun b o e n hb hx=>?_,fun b o e n hb hx=>?_,I.base.free,fun b o e hx=>?_,I.base.tups,I.base.frzs,I.base.tbls⟩,⟨m,hn.sameBut hs (Ne.symm (cne x c hc)),fun j y v' e1 e2 e3=>?_⟩,fun y c' e=>?_,I.free,I.freeC,fun p hp=>?_,tracked ⟨oc,hoc,I.freeC x c hc⟩ hs,by simpa using I.len⟩ ⟨c,hs,.inr hc⟩
    · exact (hs.2 b (Nat.ne_of_lt (Nat.lt_of_lt_of_le (Heap.lt_size e) (I.ok.cab x c hfn hc)))).trans (I.base.keep b o e n hb hx)
    · obtain ⟨sl,e1⟩:=I.base.slot b o e n hb hx;exact ⟨sl,(hs.2 b (Nat.ne_of_lt (Nat.lt_of_lt_of_le (Heap.lt_size e) (I.ok.cab x c hfn hc)))).trans e1⟩
    · obtain ⟨o',e1⟩:=I.base.there b o e hx;exact ⟨o',(hs.2 b (Nat.ne_of_lt (Nat.lt_of_lt_of_le (Heap.lt_size e) (I.ok.cab x c hfn hc)))).trans e1⟩
    · by_cases hj:j=i
      · subst hj;rw [hi] at e1;cases e1;rw [List.getElem?_set_self hiσ] at e2;cases e2;exact ⟨u,r,.inr ⟨.inl hk,c,hc,hc'⟩⟩
      · rw [List.getElem?_set_ne (Ne.symm hj)] at e2;obtain ⟨u',r',q⟩:=hl j y v' e1 e2 e3;refine ⟨u',r',?_⟩;rcases q with q | ⟨k,c',e,z'⟩
        · exact .inl q
        · refine .inr ⟨k,c',e,z'.sameBut hs ?_⟩;rintro rfl;exact hj (mU hN e1 (I.ok.inj _ _ _ e hc ▸ hi))
    · by_cases hcc:c'=c
      · subst hcc;exact ⟨_,hc'⟩
      · obtain ⟨w2,z2⟩:=I.cell y c' e;exact ⟨w2,z2.sameBut hs hcc⟩
    · obtain ⟨e,n,ne,nf,d⟩:=I.pin p hp;refine ⟨(hs.2 p.1 ?_).trans e,n,ne,nf,d⟩;intro q;rw [q,hoc] at e;have q':oc=p.2:=Option.some.inj e;exact d w' (by rw [<- q'];exact hocd)
theorem kx {M:Model} {A:Around} {E:Value->Shared->Prop} {i:Nat} {x:Str} {v:V} {u:Value} {Q:Unit->Shared->Prop} (I:aC X pins σ H s) (hN:X.N.Nodup) (hi:X.N[i]?=some x) (hx:AC X.env.scope x) (r:bE v u)
    (h:∀ s',aC X pins (σ.set i (some v)) H s'->Q () s') (hf:X.fn x=true\/X.env.scope.names.lookup x=some .local:=by first | exact .inl rfl | exact .inr rfl | assumption):wpAny M A (storeName X.env x u) Q E s :=
  oQ I hN hi hx r (fun s' I' _=>h s' I') hf
theorem aC.call' {s':Shared} {ch:List Addr} (I:aC X pins σ H s) (ho:s'.os=s.os) (u:Un (jR X.stack) ch H H' s.heap s'.heap) (hok:gj X.prog X.w H' s'.heap) (hg:AllBare s'.gens)
    (hch:∀ b∈ch,(b∈X.ex\/X.s₀.heap.objs.size<=b)/\b≠X.env.locals/\(∀ x c,X.env.cells.lookup x=some c->c≠b)/\∀ p∈X.pn++pins,p.1≠b):aC X pins σ H' s':=by
  obtain ⟨h',g',d',t',o'⟩:=s';have e:o'=s.os:=ho;subst e;exact I.call (g':=g') (t':=t') (d':=d') u hok hg hch
end
noncomputable abbrev XK:=Value->Option Addr->Hp->Prop
noncomputable abbrev St:=List (Option V)
noncomputable abbrev VK:=V->Hp->Prop
noncomputable abbrev TE:=St->Hp->VK->Prop
noncomputable abbrev TT:=St->Hp->(Bool->Hp->Prop)->Prop
noncomputable abbrev TA:=St->Hp->(List V->Hp->Prop)->Prop
structure o4 where
  nx:St->Hp->Prop
  rt:VK
  bk:St->Hp->Prop:=fun _ _=>False
  ct:St->Hp->Prop:=fun _ _=>False
noncomputable abbrev TS:=o4->St->Hp->Prop
noncomputable def EP (X:Cx) (pins:List (Addr×Obj)) (σ:St) (Q:VK) (u:Value) (s':Shared):Prop:=∃ v H',aC X pins σ H' s'/\bE v u/\Q v H'
noncomputable def TP (X:Cx) (pins:List (Addr×Obj)) (σ:St) (Q:Bool->Hp->Prop) (b:Bool) (s':Shared):Prop:=∃ H',aC X pins σ H' s'/\Q b H'
noncomputable def AP (X:Cx) (pins:List (Addr×Obj)) (σ:St) (Q:List V->Hp->Prop) (us:List Value) (s':Shared):Prop:=∃ vs H',aC X pins σ H' s'/\bn vs us/\Q vs H'
noncomputable def SP (X:Cx) (pins:List (Addr×Obj)) (D:o4) (f:Flow) (s':Shared):Prop :=
  match f with
  | .next=>∃ σ' H',aC X pins σ' H' s'/\D.nx σ' H'
  | .brk=>∃ σ' H',aC X pins σ' H' s'/\D.bk σ' H'
  | .cont=>∃ σ' H',aC X pins σ' H' s'/\D.ct σ' H'
  | .ret u=>∃ v σ' H',aC X pins σ' H' s'/\bE v u/\D.rt v H'
noncomputable def PE (X:Cx) (e:Expr) (t:TE):Prop :=
  ∀ (pins:List (Addr×Obj)) (s:Shared) (σ:St) (H:Hp) (Q:VK),aC X pins σ H s->t σ H Q->wpAny (model X.prog X.w) X.A (eval e X.env) (EP X pins σ Q) X.xe s
noncomputable def PT (X:Cx) (e:Expr) (t:TT):Prop :=
  ∀ (pins:List (Addr×Obj)) (s:Shared) (σ:St) (H:Hp) (Q:Bool->Hp->Prop),aC X pins σ H s->t σ H Q->wpAny (model X.prog X.w) X.A (isTrue e X.env (eval e X.env)) (TP X pins σ Q) X.xe s
noncomputable def PW (X:Cx) (e:Expr) (t:TT):Prop :=
  ∀ (whole:Sem Value) (pins:List (Addr×Obj)) (s:Shared) (σ:St) (H:Hp) (Q:Bool->Hp->Prop),aC X pins σ H s->t σ H Q->wpAny (model X.prog X.w) X.A (isTrue e X.env whole) (TP X pins σ Q) X.xe s
theorem PW.pt {X:Cx} {e:Expr} {t:TT} (h:PW X e t):PT X e t:=h _
noncomputable def PA (X:Cx) (es:List Expr) (t:TA):Prop :=
  ∀ (pos:Pos) (pins:List (Addr×Obj)) (s:Shared) (σ:St) (H:Hp) (Q:List V->Hp->Prop),aC X pins σ H s->t σ H Q->wpAny (model X.prog X.w) X.A (spliced (backTo pos (starEach es X.env))) (AP X pins σ Q) X.xe s
noncomputable def PS (X:Cx) (st:Stmt) (t:TS):Prop :=
  ∀ (pins:List (Addr×Obj)) (s:Shared) (σ:St) (H:Hp) (D:o4),aC X pins σ H s->t D σ H->wpAny (model X.prog X.w) X.A (exec st X.env) (SP X pins D) X.xe s
noncomputable def o8 (X:Cx) (st:List Stmt) (t:TS):Prop :=
  ∀ (pins:List (Addr×Obj)) (s:Shared) (σ:St) (H:Hp) (D:o4),aC X pins σ H s->t D σ H->wpAny (model X.prog X.w) X.A (execs st X.env) (SP X pins D) X.xe s
theorem cS {α:Type} {t:Sem α} {Q Q':α->Shared->Prop} {M:Model} {A:Around} {E:Value->Shared->Prop} {s:Shared} (h:wpAny M A t Q E s) (hQ:∀ a s,Q a s->Q' a s):wpAny M A t Q' E s:=wpAny_mono h hQ fun _ _ x=>x
section
variable {X:Cx}
theorem EM {a b:Expr} {ta tb:TE} (ha:PE X a ta) (hb:PE X b tb) {pins:List (Addr×Obj)} {s:Shared} {σ:St} {H:Hp} {R:V->V->Hp->Prop} (I:aC X pins σ H s) (h:ta σ H fun x H1=>tb σ H1 fun y H2=>R x y H2)
    {α:Type} {Q:α->Shared->Prop} {f:Value->Value->Sem α}
    (hf:∀ v u s2 x y H2,aC X pins σ H2 s2->bE x v->bE y u->R x y H2->wpAny (model X.prog X.w) X.A (f v u) Q X.xe s2) :
    wpAny (model X.prog X.w) X.A (eval a X.env) (fun v s₁=>wpAny (model X.prog X.w) X.A (eval b X.env) (fun u s₂=>wpAny (model X.prog X.w) X.A (f v u) Q X.xe s₂) X.xe s₁) X.xe s:=by
  refine cS (ha pins s σ H _ I h) fun v s1 ⟨x,H1,I1,r1,q1⟩=>?_
  refine cS (hb pins s1 σ H1 _ I1 q1) fun u s2 ⟨y,H2,I2,r2,q2⟩=>?_
  exact hf v u s2 x y H2 I2 r1 r2 q2
noncomputable def zW (i:Nat):TE:=fun σ H Q=>∃ v,σ[i]?=some (some v)/\Q v H
noncomputable def tC (v:V):TE:=fun _ H Q=>Q v H
theorem hR {i:Nat} {x:Str} {pos:Pos} (hN:X.N[i]?=some x) (hv:B5 X.env.scope x) (hd:(x==("__debug__" : Str))=false:=by decide) (hcd:(x==("__classdict__" : Str))=false:=by decide):PE X (.Name x pos) (zW i):=by
  intro pins s σ H Q I h;obtain ⟨v,e,h⟩:=h;obtain ⟨m,hn,hl⟩:=I.loc;obtain ⟨u,r,l⟩:=hl i x v hN e hv;have fin:EP X pins σ Q u s:=⟨v,H,I,r,h⟩
  rcases l with ⟨hk,hm⟩ | ⟨hk,c,hc,hcell⟩
  · exact wpAny_Name (wpAny_loadName_local I.ok.kind hk hn hm fin) hd
  · rcases hk with hk | hk
    · exact wpAny_Name (wpAny_loadName_cell I.ok.kind hk hc hcell fin) hd
    · exact wpAny_Name (wpAny_loadName_free I.ok.kind hk hc hcell fin hcd) hd
theorem Bs {i j pos}:PE X (.Constant (.int i) j pos) (tC (.int i)):=fun _ _ _ H _ I h=>wpAny_Constant_int ⟨.int i,H,I.tok _,⟨_,rfl⟩,h⟩
theorem CC {b j pos}:PE X (.Constant (.bool b) j pos) (tC (.bl b)):=fun _ _ _ H _ I h=>Constant_bool ⟨.bl b,H,I,rfl,h⟩
theorem Bw {x j pos}:PE X (.Constant (.str x) j pos) (tC (.str x)):=fun _ _ _ H _ I h=>Calls.Constant_str ⟨.str x,H,I.tok _,⟨_,rfl⟩,h⟩
noncomputable def Gl (X:Cx) (x:Str):Prop:=X.env.kindOf x=some .globalImplicit
theorem lR {E:Value->Shared->Prop} {pins:List (Addr×Obj)} {s:Shared} {σ:St} {H:Hp} {x:Str} {u:Value} {pos:Pos} {Q:Value->Shared->Prop} (I:aC X pins σ H s) (hg:Gl X x) (hm:X.mg x=some u) (h:Q u s)
    (hd:(x==("__debug__" : Str))=false:=by decide):wpAny (model X.prog X.w) X.A (eval (.Name x pos) X.env) Q E s :=
  Calls.Name_function_global I.ok.kind hg (Calls.loadGlobal_global (by rw [I.ok.glob];exact I.mod.glob.keeps I.bk) hm h) hd
theorem jH {E:Value->Shared->Prop} {pins:List (Addr×Obj)} {s:Shared} {σ:St} {H:Hp} {x:Str} {u:Value} {pos:Pos} {Q:Value->Shared->Prop} (I:aC X pins σ H s) (hg:Gl X x) (hm:X.mg x=none) (hv:bootBuiltins x=some u) (h:Q u s)
    (hn:x ≠ "__name__" := by decide) (hd:(x==("__debug__" : Str))=false:=by decide):wpAny (model X.prog X.w) X.A (eval (.Name x pos) X.env) Q E s:=by
  obtain ⟨mb,h1,h2⟩:=I.mod.blt;exact Calls.Name_function_global I.ok.kind hg (Calls.loadGlobal_builtin (by rw [I.ok.glob];exact I.mod.glob.keeps I.bk) hm (by rw [I.ok.blt];exact h1.keeps I.bk) ((h2 x hn).trans hv) h) hd
theorem lV {x:Str} {v:V} {u:Value} {pos:Pos} (hg:Gl X x) (hm:X.mg x=some u) (r:bE v u) (hd:(x==("__debug__" : Str))=false:=by decide):PE X (.Name x pos) (tC v) :=
  fun _ _ _ H _ I h=>lR I hg hm ⟨v,H,I,r,h⟩ hd
theorem zt {x:Str} {v:V} {u:Value} {pos:Pos} (hg:Gl X x) (hm:X.mg x=none) (hv:bootBuiltins x=some u) (r:bE v u) (hn:x ≠ "__name__" := by decide) (hd:(x==("__debug__" : Str))=false:=by decide):PE X (.Name x pos) (tC v) :=
  fun _ _ _ H _ I h=>jH I hg hm hv ⟨v,H,I,r,h⟩ hn hd
variable {a b:Expr} {ta tb:TE} {pos:Pos}
noncomputable def PC (X:Cx) (op:CmpOp) (a b:Expr) (t:TE):Prop :=
  ∀ (pins:List (Addr×Obj)) (s:Shared) (σ:St) (H:Hp) (Q:VK),aC X pins σ H s->t σ H Q ->
    wpAny (model X.prog X.w) X.A (eval a X.env) (fun v s₁=>wpAny (model X.prog X.w) X.A (eval b X.env) (fun u s₂=>wpAny (model X.prog X.w) X.A (compareOp op v u) (EP X pins σ Q) X.xe s₂) X.xe s₁) X.xe s
theorem w8 (b:Expr) {op:CmpOp} (h:op≠.In) (h2:op≠.NotIn):behindInMarks op b=false:=by
  have e1:(op==CmpOp.In)=false:=by cases op <;> first | rfl | exact absurd rfl h
  have e2:(op==CmpOp.NotIn)=false:=by cases op <;> first | rfl | exact absurd rfl h2
  cases b <;> simp [behindInMarks,e1,e2]
noncomputable def tB (t:TE):TT:=fun σ H Q=>t σ H fun x H1=>∃ c,x=.bl c/\Q c H1
theorem Ea {op:CmpOp} {t:TE} (h:PC X op a b t) (h1:behindInMarks op b=false:=by first | exact w8 _ (by decide) (by decide) | rfl):PT X (.Compare a [op] [b] pos) (tB t):=by
  intro pins s σ H Q I hw;refine wpAny_isTrue_Compare1 (cS (h pins s σ H _ I hw) fun v s1 h1=>cS h1 fun u s2 h2=>cS h2 fun c s3 ⟨x,H1,I1,r1,q1⟩=>?_) h1;obtain ⟨d,rfl,q⟩:=q1;cases r1;exact wpAny_truthy_bool ⟨H1,I1,q⟩
theorem BB {e:Expr} {t:TE} (h:PE X e t) (he:∀ whole,isTrue e X.env whole=(do let v <- whole;standAt e.pos;holding [v] (truthy v)):=by intro _;rfl):PT X e (tB t):=by
  intro pins s σ H Q I hw;refine isTrue_plain (cS (h pins s σ H _ I hw) fun v s1 ⟨x,H1,I1,r1,q1⟩=>?_) (he _);obtain ⟨d,rfl,q⟩:=q1;cases r1;exact wpAny_truthy_bool ⟨H1,I1,q⟩
variable {tA tB':TT} {dS:List Expr}
noncomputable def Eg (t u:TT):TT:=fun σ H Q=>t σ H fun c H1=>if c=true then u σ H1 Q else Q false H1
noncomputable def EJ (t u:TT):TT:=fun σ H Q=>t σ H fun c H1=>if c=true then Q true H1 else u σ H1 Q
noncomputable def Em (t:TT):TT:=fun σ H Q=>t σ H fun c H1=>Q (!c) H1
theorem pw_and1 (ha:PT X a tA):PW X (.BoolOp .And [a] pos) tA:=by
  intro wh pins s σ H Q I h;refine isTrue_and (cS (ha pins s σ H Q I h) fun c s1 e=>?_);cases c with
  | true=>exact isTrue_and_nil e
  | false=>exact e
theorem pw_or1 (ha:PT X a tA):PW X (.BoolOp .Or [a] pos) tA:=by
  intro wh pins s σ H Q I h;refine isTrue_or (cS (ha pins s σ H Q I h) fun c s1 e=>?_);cases c with
  | false=>exact isTrue_or_nil e
  | true=>exact e
theorem pw_and (ha:PT X a tA) (hb:PW X (.BoolOp .And (b::dS) pos) tB'):PW X (.BoolOp .And (a::b::dS) pos) (Eg tA tB'):=by
  intro wh pins s σ H Q I h;refine isTrue_and (cS (ha pins s σ H _ I h) fun c s1 ⟨H1,I1,q1⟩=>?_);cases c with
  | true=>exact hb wh pins s1 σ H1 Q I1 q1
  | false=>exact ⟨H1,I1,q1⟩
theorem pw_or (ha:PT X a tA) (hb:PW X (.BoolOp .Or (b::dS) pos) tB'):PW X (.BoolOp .Or (a::b::dS) pos) (EJ tA tB'):=by
  intro wh pins s σ H Q I h;refine isTrue_or (cS (ha pins s σ H _ I h) fun c s1 ⟨H1,I1,q1⟩=>?_);cases c with
  | true=>exact ⟨H1,I1,q1⟩
  | false=>exact hb wh pins s1 σ H1 Q I1 q1
theorem BA (ha:PT X a tA):PT X (.UnaryOp .Not a pos) (Em tA):=by
  intro pins s σ H Q I h;exact isTrue_not (ha pins s σ H (fun c H1=>Q (!c) H1) I h)
noncomputable def Da (ta tb:TE):TE:=fun σ H Q=>ta σ H fun x H1=>∃ c,x=.bl c/\if c=true then tb σ H1 Q else Q (.bl false) H1
noncomputable def Dg (ta:TE):TE:=fun σ H Q=>ta σ H fun x H1=>∃ c,x=.bl c/\Q (.bl (!c)) H1
theorem Bv {op} {t:TE} (h:PE X a t):PE X (.BoolOp op [a] pos) t:=fun pins s σ H Q I hw=>BoolOp_one (h pins s σ H Q I hw)
theorem Br (ha:PE X a ta) (hb:PE X (.BoolOp .And (b::dS) pos) tb):PE X (.BoolOp .And (a::b::dS) pos) (Da ta tb):=by
  intro pins s σ H Q I h;refine BoolOp_and (cS (ha pins s σ H _ I h) fun v s1 ⟨x,H1,I1,r1,q1⟩=>?_);obtain ⟨c,rfl,q1⟩:=q1;cases r1;refine wpAny_truthy_bool ?_;cases c with
  | true=>exact hb pins s1 σ H1 Q I1 q1
  | false=>exact ⟨.bl false,H1,I1,rfl,q1⟩
theorem Bu (ha:PE X a ta):PE X (.UnaryOp .Not a pos) (Dg ta):=by
  intro pins s σ H Q I h;refine UnaryOp_ (cS (ha pins s σ H _ I h) fun v s1 ⟨x,H1,I1,r1,q1⟩=>?_);obtain ⟨c,rfl,q1⟩:=q1;cases r1;exact not_of (wpAny_truthy_bool ⟨.bl (!c),H1,I1,rfl,q1⟩)
end
noncomputable def lD (K:PySem.W.Frag) (H:Hp) (a:Addr) (xs:List V):Prop :=
  Rd H a (.lst xs) \/
    ∃ (o:Obj) (its:Array Value) (n:Nat),K.lookup a=some o/\o.cls=.type "list" /\ o.dict=none/\o.data=.seq its n/\its.size<=sizeLine/\bn xs its.toList
noncomputable def gm (K:PySem.W.Frag) (H:Hp) (a:Addr) (xs:List V):Prop :=
  Rd H a (.tup xs) \/
    ∃ (o:Obj) (its:Array Value) (n:Nat),K.lookup a=some o/\o.cls=.type "tuple" /\ o.data=.seq its n/\its.size<=sizeLine/\bn xs its.toList
noncomputable def DT:Value->Option V
  | .none=>some .non
  | .bool b=>some (.bl b)
  | .int i _=>some (.int i)
  | .str x _=>some (.str x)
  | .bytes b _=>some (.byt b)
  | .float b _=>some (.flt b)
  | .ref a=>some (.ref a)
  | .type n=>some (.ty n)
  | _=>none
theorem bE.abs {x:V} {u:Value} (r:bE x u):DT u=some x:=by
  cases x with
  | non=>cases r;rfl
  | bl _=>cases r;rfl
  | int _=>obtain ⟨t,rfl⟩:=r;rfl
  | str _=>obtain ⟨t,rfl⟩:=r;rfl
  | byt _=>obtain ⟨t,rfl⟩:=r;rfl
  | flt _=>obtain ⟨t,rfl⟩:=r;rfl
  | ref _=>cases r;rfl
  | ty _=>cases r;rfl
theorem bE.inj {x y:V} {u:Value} (r:bE x u) (q:bE y u):x=y:=Option.some.inj (r.abs.symm.trans q.abs)
theorem bn.inj:∀ {xs ys:List V} {us:List Value},bn xs us->bn ys us->xs=ys
  | _,_,_,.nil,.nil=>rfl
  | _,_,_,.cons r t,.cons r' t'=>by rw [r.inj r',bn.inj t t']
section
variable {X:Cx} {pins:List (Addr×Obj)} {σ:St} {H:Hp} {s:Shared} {a:Addr} {xs ys:List V}
theorem lD.of {K:PySem.W.Frag} (h:H a=some (.lst xs)):lD K H a xs:=.inl (.inl h)
theorem gm.of {K:PySem.W.Frag} (h:H a=some (.tup xs)):gm K H a xs:=.inl (.inl h)
theorem aC.list (I:aC X pins σ H s) (h:lD X.K H a xs):∃ its:List Value,bn xs its/\PlainL s.heap a its.toArray/\xs.length<=sizeLine:=by
  rcases h with h | ⟨o,its,n,hk,hc,hd,hs,hz,r⟩
  · obtain ⟨z,its,n,r,e⟩:=h.ok I.hok;exact ⟨its,r,⟨_,n,e,rfl,rfl,rfl⟩,z⟩
  · refine ⟨its.toList,r,⟨o,n,I.kIn a o hk,hc,hd,by simpa using hs⟩,?_⟩;have e:=r.length;simp only [Array.length_toList] at e;omega
theorem aC.tuple (I:aC X pins σ H s) (h:gm X.K H a xs):∃ its:List Value,bn xs its/\IsTup s.heap a its.toArray/\xs.length<=sizeLine:=by
  rcases h with h | ⟨o,its,n,hk,hc,hs,hz,r⟩
  · obtain ⟨z,its,r,p⟩:=h.ok I.hok;exact ⟨its,r,p.is,z⟩
  · refine ⟨its.toList,r,⟨o,I.kIn a o hk,hc,n,by simpa using hs⟩,?_⟩;have e:=r.length;simp only [Array.length_toList] at e;omega
theorem aC.list_inj (I:aC X pins σ H s) (h:lD X.K H a xs) (h':lD X.K H a ys):xs=ys:=by
  obtain ⟨its,r,⟨o,n,e,_,_,d⟩,_⟩:=I.list h;obtain ⟨its',r',⟨o',n',e',_,_,d'⟩,_⟩:=I.list h';rw [e] at e';cases e';rw [d] at d';injection d' with d1 _
  have:its=its':=by simpa using congrArg Array.toList d1
  subst this;exact r.inj r'
theorem aC.tuple_inj (I:aC X pins σ H s) (h:gm X.K H a xs) (h':gm X.K H a ys):xs=ys:=by
  obtain ⟨its,r,⟨o,e,_,n,d⟩,_⟩:=I.tuple h;obtain ⟨its',r',⟨o',e',_,n',d'⟩,_⟩:=I.tuple h';rw [e] at e';cases e';rw [d] at d';injection d' with d1 _
  have:its=its':=by simpa using congrArg Array.toList d1
  subst this;exact r.inj r'
end
noncomputable abbrev Cx.wish (X:Cx) (E:Value->Shared->Prop):Cx:={ X with xe:=E }
noncomputable abbrev Cx.nox (X:Cx):Cx:=X.wish fun _ _=>False
theorem Cx.Ok.wish {X:Cx} (ok:X.Ok) (E:Value->Shared->Prop):(X.wish E).Ok :=
  ⟨ok.mod,ok.kind,ok.glob,ok.blt,ok.above,ok.inj,ok.has,ok.cab,ok.hd,ok.frames,ok.stk,ok.exf,ok.bs,ok.bsz,ok.noex,ok.exfs,ok.funs,ok.frf⟩
theorem Cx.Ok.unwish {X:Cx} {E:Value->Shared->Prop} (ok:(X.wish E).Ok):X.Ok :=
  ⟨ok.mod,ok.kind,ok.glob,ok.blt,ok.above,ok.inj,ok.has,ok.cab,ok.hd,ok.frames,ok.stk,ok.exf,ok.bs,ok.bsz,ok.noex,ok.exfs,ok.funs,ok.frf⟩
section
variable {X:Cx} {pins:List (Addr×Obj)} {σ:St} {H:Hp} {s:Shared} {E:Value->Shared->Prop}
theorem aC.wish (I:aC X pins σ H s) (E:Value->Shared->Prop):aC (X.wish E) pins σ H s:=⟨I.ok.wish E,I.os,I.bare,I.base,I.loc,I.cell,I.free,I.freeC,I.pin,I.hok,I.len⟩
theorem aC.unwish (I:aC (X.wish E) pins σ H s):aC X pins σ H s:=⟨I.ok.unwish,I.os,I.bare,I.base,I.loc,I.cell,I.free,I.freeC,I.pin,I.hok,I.len⟩
theorem SP.unwish {D:o4} {f:Flow} {s':Shared} (h:SP (X.wish E) pins D f s'):SP X pins D f s':=by
  cases f with
  | next=>obtain ⟨σ',H',I,q⟩:=h;exact ⟨σ',H',I.unwish,q⟩
  | brk=>obtain ⟨σ',H',I,q⟩:=h;exact ⟨σ',H',I.unwish,q⟩
  | cont=>obtain ⟨σ',H',I,q⟩:=h;exact ⟨σ',H',I.unwish,q⟩
  | ret u=>obtain ⟨v,σ',H',I,r,q⟩:=h;exact ⟨v,σ',H',I.unwish,r,q⟩
theorem PE.nox {e:Expr} {t:TE} (h:PE X.nox e t):PE X e t:=fun pins s σ H Q I hw =>
  wpAny_mono (h pins s σ H Q (I.wish _) hw) (fun _ _ ⟨v,H',I',r,q⟩=>⟨v,H',I'.unwish,r,q⟩) fun _ _ z=>False.elim z
theorem PT.nox {e:Expr} {t:TT} (h:PT X.nox e t):PT X e t:=fun pins s σ H Q I hw =>
  wpAny_mono (h pins s σ H Q (I.wish _) hw) (fun _ _ ⟨H',I',q⟩=>⟨H',I'.unwish,q⟩) fun _ _ z=>False.elim z
theorem o8.nox {st:List Stmt} {t:TS} (h:o8 X.nox st t):o8 X st t:=fun pins s σ H D I hw =>
  wpAny_mono (h pins s σ H D (I.wish _) hw) (fun _ _ q=>q.unwish) fun _ _ z=>False.elim z
end
section
variable {X:Cx} {st:Stmt} {dS:List Stmt} {t u:TS} {e:Expr} {te:TE} {pos:Pos}
noncomputable def De:TS:=fun D σ H=>D.nx σ H
noncomputable def Eo (t u:TS):TS:=fun D σ H=>t { D with nx:=u D } σ H
theorem zD:o8 X [] De:=fun _ _ σ H _ I h=>wpAny_execs_nil ⟨σ,H,I,h⟩
theorem xB (h1:PS X st t) (h2:o8 X dS u):o8 X (st::dS) (Eo t u):=by
  intro pins s σ H D I h;refine wpAny_execs_cons (cS (h1 pins s σ H { D with nx:=u D } I h) fun f s1 q=>?_);cases f with
  | next =>
    obtain ⟨σ',H',I',q⟩:=q;exact h2 pins s1 σ' H' D I' q
  | ret v=>exact q
  | brk=>exact q
  | cont=>exact q
theorem zE (h1:PS X st t):o8 X [st] t:=by
  intro pins s σ H D I h;refine wpAny_execs_cons (cS (h1 pins s σ H D I h) fun f s1 q=>?_);cases f with
  | next=>exact wpAny_execs_nil q
  | ret v=>exact q
  | brk=>exact q
  | cont=>exact q
theorem aC.quiet {pins:List (Addr×Obj)} {σ:St} {H:Hp} {s:Shared} (I:aC X pins σ H s):interactive X.env=false:=by simp [interactive,I.ok.kind]
noncomputable def Dd (te:TE):TS:=fun D σ H=>te σ H fun _ H1=>D.nx σ H1
theorem zC (he:PE X e te) (hs:swapsWith e none pos.line X.env=pure false:=by rfl):PS X (.Expr e pos) (Dd te):=by
  intro pins s σ H D I h;exact wpAny_Expr_any (cS (he pins s σ H _ I h) fun v s1 ⟨x,H1,I1,r1,q1⟩=>⟨σ,H1,I1,q1⟩) I.quiet hs
noncomputable def En (te:TE):TS:=fun D σ H=>te σ H D.rt
theorem sZ (he:PE X e te):PS X (.Return (some e) pos) (En te):=by
  intro pins s σ H D I h;exact wpAny_Return_some (cS (he pins s σ H _ I h) fun v s1 ⟨x,H1,I1,r1,q1⟩=>⟨x,σ,H1,I1,r1,q1⟩)
noncomputable def Ej (c:TT) (t u:TS):TS:=fun D σ H=>c σ H fun b H1=>if b=true then t D σ H1 else u D σ H1
theorem CL {c:Expr} {a b:List Stmt} {tc:TT} (hc:PT X c tc) (ha:o8 X a t) (hb:o8 X b u):PS X (.If c a b pos) (Ej tc t u):=by
  intro pins s σ H D I h;refine wpAny_If (cS (hc pins s σ H _ I h) fun d s1 ⟨H1,I1,q1⟩=>?_);cases d with
  | true=>exact ha pins s1 σ H1 D I1 q1
  | false=>exact hb pins s1 σ H1 D I1 q1
end
noncomputable abbrev TG:=V->St->Hp->(St->Hp->Prop)->Prop
noncomputable abbrev AF:=List V->St->Hp->(St->Hp->Prop)->Prop
noncomputable def PG (X:Cx) (target:Expr) (t:TG):Prop :=
  ∀ (pins:List (Addr×Obj)) (s:Shared) (σ:St) (H:Hp) (v:V) (u:Value) (Q:St->Hp->Prop),aC X pins σ H s->bE v u->t v σ H Q ->
    wpAny (model X.prog X.w) X.A (assign target X.env u) (fun _ s'=>∃ σ' H',aC X pins σ' H' s'/\Q σ' H') X.xe s
noncomputable def Dw (X:Cx) (ts:List Expr) (t:AF):Prop :=
  ∀ (pins:List (Addr×Obj)) (s:Shared) (σ:St) (H:Hp) (vs:List V) (us:List Value) (Q:St->Hp->Prop),aC X pins σ H s->bn vs us->t vs σ H Q ->
    wpAny (model X.prog X.w) X.A (assignInOrder ((assignEach ts X.env).map (·.2)) us) (fun _ s'=>∃ σ' H',aC X pins σ' H' s'/\Q σ' H') X.xe s
section
variable {X:Cx} {pos:Pos}
noncomputable def Ah (i:Nat):TG:=fun v σ H Q=>Q (σ.set i (some v)) H
theorem pY {i:Nat} {x:Str} (hN:X.N.Nodup) (hi:X.N[i]?=some x) (hx:AC X.env.scope x) (hf:X.fn x=true\/X.env.scope.names.lookup x=some .local:=by first | exact .inl rfl | exact .inr rfl | assumption):PG X (.Name x pos) (Ah i):=by
  intro pins s σ H v u Q I r h;exact wpAny_assign_Name (kx I hN hi hx r (fun s' I'=>⟨_,H,I',h⟩) hf)
noncomputable def D4:AF:=fun vs σ H Q=>vs=[]/\Q σ H
noncomputable def Cs (t:TG) (u:AF):AF:=fun vs σ H Q=>∃ v r,vs=v::r/\t v σ H fun σ' H'=>u r σ' H' Q
theorem zw:Dw X [] D4:=by
  intro pins s σ H vs us Q I r h;obtain ⟨e,h⟩:=h;subst e;cases r;exact assignInOrder_nil ⟨σ,H,I,h⟩
theorem rl {e:Expr} {es:List Expr} {t:TG} {u:AF} (h1:PG X e t) (h2:Dw X es u)
    (hs:(assignEach (e::es) X.env).map (·.2)=assign e X.env::(assignEach es X.env).map (·.2):=by rfl):Dw X (e::es) (Cs t u):=by
  intro pins s σ H vs us Q I r h;obtain ⟨v,vr,e1,h⟩:=h;subst e1;cases r with
  | cons r rr =>
    rw [hs];refine assignInOrder_cons (cS (h1 pins s σ H _ _ _ I r h) fun _ s1 ⟨σ1,H1,I1,q1⟩=>?_);exact h2 pins s1 σ1 H1 _ _ Q I1 rr q1
noncomputable def D5 (K:PySem.W.Frag) (n:Nat) (t:AF):TG:=fun v σ H Q=>∃ a xs,v=.ref a/\gm K H a xs/\xs.length=n/\t xs σ H Q
theorem Bx {es:List Expr} {k:Nat} {t:AF} {n:Nat} (hc:X.calm=true) (h:Dw X es t)
    (hn:(assignEach es X.env).length=n:=by rfl) (hst:(assignEach es X.env).findIdx? (·.1)=none:=by rfl):PG X (.Tuple es k pos) (D5 X.K n t):=by
  intro pins s σ H v u Q I r hw;obtain ⟨a,xs,e1,hq,hl,hw⟩:=hw;subst e1;cases r;obtain ⟨its,rv,ht,hz⟩:=I.tuple hq;refine assign_Tuple_tuple (I.ok.hd hc) ht (by simp [hn,<- hl,rv.length]) hst fun h' hx=>?_
  have I1:aC X pins σ H { s with heap:=h' }:=I.kept (t':=s.toks) fun b o e=>hx b o (Nat.ne_of_lt (Heap.lt_size e)) e
  exact h pins _ σ H xs _ Q I1 (by simpa using rv) hw
noncomputable def Eh (te:TE) (g:TG):TS:=fun D σ H=>te σ H fun x H1=>g x σ H1 D.nx
theorem xz {i:Nat} {x:Str} {e:Expr} {te:TE} {pos':Pos} (hN:X.N.Nodup) (hi:X.N[i]?=some x) (hx:AC X.env.scope x) (he:PE X e te) (hs:swapsWith e (some (.Name x pos')) pos.line X.env=pure false:=by rfl) (hf:X.fn x=true\/X.env.scope.names.lookup x=some .local:=by first | exact .inl rfl | exact .inr rfl | assumption) :
    PS X (.Assign [.Name x pos'] e pos) (Eh te (Ah i)):=by
  intro pins s σ H D I h;refine wpAny_Assign_Name (cS (he pins s σ H _ I h) fun v s1 ⟨y,H1,I1,r1,q1⟩=>?_) hs;exact kx I1 hN hi hx r1 (fun s2 I2=>⟨_,H1,I2,q1⟩) hf
end
section
variable {X:Cx} {pos:Pos}
noncomputable def BU (c:TT) (tb:TS):TS:=fun D σ H=>∃ W:Nat->St->Hp->Prop,(∃ m,W m σ H)/\∀ m σ H,W m σ H ->
  c σ H fun b H1=>if b=true then ∃ N:St->Hp->Prop,(∀ σ' H',N σ' H'->∃ m',m' < m/\W m' σ' H')/\tb { D with nx:=N,ct:=N,bk:=D.nx } σ H1 else D.nx σ H1
theorem xA {c:Expr} {body:List Stmt} {tc:TT} {tb:TS} (hp:PassesOwn (model X.prog X.w) X.A X.env X.xe) (hc:PT X c tc) (hb:o8 X body tb):PS X (.While c body [] pos) (BU tc tb):=by
  intro pins s σ H D I h;obtain ⟨W,⟨m0,w0⟩,turn⟩:=h;refine wpAny_While (codeAny_whileLoop (fun n s'=>∃ σ' H',aC X pins σ' H' s'/\W n σ' H') ?_ m0 ⟨σ,H,I,w0⟩);rintro n s1 ⟨σ1,H1,I1,w1⟩;refine wpAny_passesOwn hp (cS (hc pins s1 σ1 H1 _ I1 (turn n σ1 H1 w1)) fun b s2 ⟨H2,I2,q2⟩=>?_);cases b with
  | true =>
    obtain ⟨N,hN,q2⟩:=q2;rw [if_pos rfl];refine wpAny_passesOwn hp (cS (hb pins s2 σ1 H2 _ I2 q2) fun f s3 q3=>?_);cases f with
    | next =>
      obtain ⟨σ3,H3,I3,n3⟩:=q3;obtain ⟨m',hm,w3⟩:=hN σ3 H3 n3;exact ⟨m',hm,σ3,H3,I3,w3⟩
    | cont =>
      obtain ⟨σ3,H3,I3,n3⟩:=q3;obtain ⟨m',hm,w3⟩:=hN σ3 H3 n3;exact ⟨m',hm,σ3,H3,I3,w3⟩
    | brk=>exact q3
    | ret v=>exact q3
  | false =>
    rw [if_neg Bool.false_ne_true];exact wpAny_execs_nil ⟨σ1,H2,I2,q2⟩
end
structure It where
  go:Nat->Hp->Prop
  yld:Nat->Hp->V->Hp->Prop
  stop:Nat->Hp->Prop
noncomputable def lw (X:Cx) (pins:List (Addr×Obj)) (H:Hp) (b:Addr):Prop :=
  H b=none/\b≠X.env.locals/\b∉X.fs/\(b∈X.ex\/X.s₀.heap.objs.size<=b)/\(∀ x c,X.env.cells.lookup x=some c->c≠b)/\∀ p∈X.pn++pins,p.1≠b
theorem aC.fpOk {X:Cx} {pins:List (Addr×Obj)} {σ:St} {H H':Hp} {s:Shared} {b:Addr} (I:aC X pins σ H s) (hb:s.heap.objs.size<=b) (hn:H' b=none):lw X pins H' b:=by
  refine ⟨hn,Nat.ne_of_gt (Nat.lt_of_lt_of_le I.lt hb),I.nofs hb,.inr (Nat.le_trans I.sz hb),fun x c e z=>?_,fun p hp z=>?_⟩
  · obtain ⟨v,q⟩:=I.cell x c e;exact absurd (Nat.lt_of_lt_of_le q.lt (by rw [z];exact hb)) (Nat.lt_irrefl _)
  · exact absurd (Nat.lt_of_lt_of_le (Heap.lt_size (I.pin p hp).1) (by rw [z];exact hb)) (Nat.lt_irrefl _)
structure uw (P:Program) (w:World) (K:PySem.W.Frag) (tg:Expr) (J:It) (fp:List Addr) (it:Addr) (tn:Nat->Heap->Prop):Prop where
  mem:it∈fp
  obj:∀ i h,tn i h->∀ b∈fp,∃ o,h.get? b=some o/\∀ v,o.data≠.cell v
  keep:∀ i h h',tn i h->(∀ b∈fp,∀ o,h.get? b=some o->h'.get? b=some o)->tn i h'
  item:∀ (X:Cx),X.prog=P->X.w=w->X.K=K->X.calm=true->∀ (i:Nat) (pins:List (Addr×Obj)) (s:Shared) (σ:St) (H:Hp) (E:Value->Shared->Prop),aC X pins σ H s->(∀ b∈fp,lw X pins H b)->tn i s.heap->J.go i H ->
    wpAny (model P w) X.A (pyNext (.ref it)) (fun r s1=>∃ u,r=some u /\
      wpAny (model P w) X.A (letOwnedTupleGo tg (.ref it) u) (fun _ s2=>∃ x H',aC X pins σ H' s2/\bE x u/\J.yld i H x H'/\tn (i+1) s2.heap/\∀ b∈fp,H' b=none) E s1) E s
  done:∀ (X:Cx),X.prog=P->X.w=w->X.K=K->X.calm=true->∀ (i:Nat) (pins:List (Addr×Obj)) (s:Shared) (σ:St) (H:Hp) (E:Value->Shared->Prop),aC X pins σ H s->(∀ b∈fp,lw X pins H b)->tn i s.heap->J.stop i H ->
    wpAny (model P w) X.A (pyNext (.ref it)) (fun r s1=>r=none/\aC X pins σ H s1) E s
  self:∀ (A:Around) (i:Nat) (s:Shared) (Q:Value->Shared->Prop) (E:Value->Shared->Prop),tn i s.heap->Q (.ref it) s->wpAny (model P w) A (pyIter (.ref it)) Q E s
noncomputable abbrev TI:=St->Hp->(It->Hp->Prop)->Prop
noncomputable def Eu (X:Cx) (pins:List (Addr×Obj)) (σ:St) (tg:Expr) (R:It->Hp->Prop) (itv:Value) (s2:Shared):Prop :=
  ∃ (it:Addr) (fp:List Addr) (tn:Nat->Heap->Prop) (J:It) (H':Hp),itv=.ref it/\aC X pins σ H' s2/\uw X.prog X.w X.K tg J fp it tn/\tn 0 s2.heap/\(∀ b∈fp,lw X pins H' b)/\R J H'
noncomputable def PI (X:Cx) (tg iter:Expr) (wi:TI):Prop :=
  ∀ (pins:List (Addr×Obj)) (s:Shared) (σ:St) (H:Hp) (R:It->Hp->Prop),aC X pins σ H s->wi σ H R ->
    wpAny (model X.prog X.w) X.A (eval iter X.env) (fun v s1=>wpAny (model X.prog X.w) X.A (pyIter v) (Eu X pins σ tg R) X.xe s1) X.xe s
theorem wF {M:Model} {A:Around} {E:Value->Shared->Prop} {s:Shared} {tg:Expr} {it:Addr} {u:Value} {o:Obj} {n:String} {vs:Array Value} {Q:Unit->Shared->Prop} (ho:s.heap.get? it=some o) (hc:o.cls=.type n) (hd:o.data=.fields vs)
    (hn:["enumerate","zip","dict_itemiterator","dict_reverseitemiterator","odict_iterator","itertools.zip_longest","itertools.pairwise"].contains n=false) (hQ:Q () s):wpAny M A (letOwnedTupleGo tg (.ref it) u) Q E s:=by
  unfold letOwnedTupleGo;cases tg <;> first
    | exact wpAny_pure hQ
    | (cases u <;> first
        | exact wpAny_pure hQ
        | (refine wpAny_bind (wpAny_load ho ?_)
           rw [hc,hd];show wpAny M A (if (["enumerate","zip","dict_itemiterator","dict_reverseitemiterator","odict_iterator","itertools.zip_longest","itertools.pairwise"].contains n&&vs[0]?==some (rawInt _))=true then _ else _) Q E s;rw [if_neg (by intro h;rw [hn,Bool.false_and] at h;cases h)];exact wpAny_pure hQ))
noncomputable def DO (K:PySem.W.Frag) (a:Addr):It :=
  ⟨fun i H=>∃ xs x,lD K H a xs/\xs[i]?=some x,fun i H x H'=>H'=H/\∀ xs,lD K H a xs->xs[i]?=some x,fun i H=>∃ xs,lD K H a xs/\xs.length<=i⟩
noncomputable def DP (K:PySem.W.Frag) (a:Addr):It :=
  ⟨fun i H=>∃ xs x,gm K H a xs/\xs[i]?=some x,fun i H x H'=>H'=H/\∀ xs,gm K H a xs->xs[i]?=some x,fun i H=>∃ xs,gm K H a xs/\xs.length<=i⟩
noncomputable def Du (lo:Int) (n:Nat):It:=⟨fun i _=>i < n,fun i H x H'=>H'=H/\x=.int (lo+i),fun i _=>n<=i⟩
theorem vI {P:Program} {w:World} {K:PySem.W.Frag} {tg:Expr} (a it:Addr):uw P w K tg (DO K a) [it] it (fun i h=>h.IsListIter it a i) where
  mem:=by simp
  obj:=fun i h st b hb=>by
    have e:b=it:=by simpa using hb
    subst e;obtain ⟨o,e,c,d⟩:=st;exact ⟨o,e,fun v z=>by rw [d] at z;cases z⟩
  keep:=fun i h h' st k=>st.at fun o e=>k it (by simp) o e
  item:=by
    intro X hP hw hK hc i pins s σ H E I hf st hg;subst hP hw hK;obtain ⟨xs,x,hq,hx⟩:=hg;obtain ⟨its,rv,p,hz⟩:=I.list hq;obtain ⟨u,hu,ru⟩:=rv.get hx;obtain ⟨f0,f1,f2,f3,f4,f5⟩:=hf it (by simp);refine wpAny_pyNext_list_item st p.isList (x:=u) (by simpa using hu) fun h' st' sb=>?_
    have I1:aC X pins σ H { s with heap:=h' }:=I.turned (t':=s.toks) (fun b o hb e=>(sb.2 b hb).trans e) f0 f1 f3 f4 f5;obtain ⟨o,e,c,d⟩:=id st';exact ⟨u,rfl,wF (s:={ s with heap:=h' }) e c d (by decide) ⟨x,H,I1,ru,⟨rfl,fun ys hy=>by rw [I.list_inj hy hq];exact hx⟩,st',fun b hb=>(hf b hb).1⟩⟩
  done:=by
    intro X hP hw hK hc i pins s σ H E I hf st hg;subst hP hw hK;obtain ⟨xs,hq,hx⟩:=hg;obtain ⟨its,rv,p,hz⟩:=I.list hq;obtain ⟨f0,f1,f2,f3,f4,f5⟩:=hf it (by simp);have hl:=rv.length;exact wpAny_pyNext_list_end (I.ok.hd hc) st p.isList (by simp;omega) fun h' eb=>⟨rfl,I.turned (t':=s.toks) (fun b o hb e=>eb b o hb e) f0 f1 f3 f4 f5⟩
  self:=fun _ _ _ _ _ st h=>wpAny_pyIter_listiter st h
theorem tH {P:Program} {w:World} {K:PySem.W.Frag} {tg:Expr} (a it:Addr):uw P w K tg (DP K a) [it] it (fun i h=>h.IsTupleIter it a i) where
  mem:=by simp
  obj:=fun i h st b hb=>by
    have e:b=it:=by simpa using hb
    subst e;obtain ⟨o,e,c,d⟩:=st;exact ⟨o,e,fun v z=>by rw [d] at z;cases z⟩
  keep:=fun i h h' st k=>st.at fun o e=>k it (by simp) o e
  item:=by
    intro X hP hw hK hc i pins s σ H E I hf st hg;subst hP hw hK;obtain ⟨xs,x,hq,hx⟩:=hg;obtain ⟨its,rv,p,hz⟩:=I.tuple hq;obtain ⟨u,hu,ru⟩:=rv.get hx;obtain ⟨f0,f1,f2,f3,f4,f5⟩:=hf it (by simp);refine wpAny_pyNext_tuple_item st (show s.heap.IsTuple a its.toArray from p) (x:=u) (by simpa using hu) fun h' st' sb=>?_
    have I1:aC X pins σ H { s with heap:=h' }:=I.turned (t':=s.toks) (fun b o hb e=>(sb.2 b hb).trans e) f0 f1 f3 f4 f5;obtain ⟨o,e,c,d⟩:=id st';exact ⟨u,rfl,wF (s:={ s with heap:=h' }) e c d (by decide) ⟨x,H,I1,ru,⟨rfl,fun ys hy=>by rw [I.tuple_inj hy hq];exact hx⟩,st',fun b hb=>(hf b hb).1⟩⟩
  done:=by
    intro X hP hw hK hc i pins s σ H E I hf st hg;subst hP hw hK;obtain ⟨xs,hq,hx⟩:=hg;obtain ⟨its,rv,p,hz⟩:=I.tuple hq;obtain ⟨f0,f1,f2,f3,f4,f5⟩:=hf it (by simp);have hl:=rv.length;exact wpAny_pyNext_tuple_end (I.ok.hd hc) st (show s.heap.IsTuple a its.toArray from p) (by simp;omega) fun h' eb=>⟨rfl,I.turned (t':=s.toks) (fun b o hb e=>eb b o hb e) f0 f1 f3 f4 f5⟩
  self:=fun _ _ _ _ _ st h=>wpAny_pyIter_tupleiter st h
theorem tG {P:Program} {w:World} {K:PySem.W.Frag} {tg:Expr} (it:Addr) (lo:Int) (n:Nat):uw P w K tg (Du lo n) [it] it (fun i h=>IsRangeIter h it (lo+(i:Nat)*1) ((n:Int)-(i:Nat)) 1) where
  mem:=by simp
  obj:=fun i h st b hb=>by
    have e:b=it:=by simpa using hb
    subst e;exact ⟨_,st,fun v z=>by
      have z':Data.fields _=Data.cell v:=z;cases z'⟩
  keep:=fun i h h' st k=>k it (by simp) _ st
  item:=by
    intro X hP hw hK hc i pins s σ H E I hf st hg;subst hP hw hK;obtain ⟨f0,f1,f2,f3,f4,f5⟩:=hf it (by simp);have W:=Walks.range (prog:=X.prog) (w:=X.w) (I.ok.hd hc) it lo 1 n;refine W.item i s _ _ hg st fun v h' tk hv st' kk=>?_
    obtain ⟨t,rfl⟩:=hv;have I1:aC X pins σ H { s with heap:=h',toks:=tk }:=I.turned (fun b o hb e=>kk b o (by simpa using hb) e) f0 f1 f3 f4 f5;refine ⟨_,rfl,wF (s:={ s with heap:=h',toks:=tk }) (n := "range_iterator") st' rfl rfl (by decide) ⟨.int (lo+i),H,I1,⟨t,?_⟩,⟨rfl,rfl⟩,st',fun b hb=>(hf b hb).1⟩⟩;rw [Int.mul_one]
  done:=by
    intro X hP hw hK hc i pins s σ H E I hf st hg;subst hP hw hK;obtain ⟨f0,f1,f2,f3,f4,f5⟩:=hf it (by simp);exact wpAny_pyNext_range_end (I.ok.hd hc) st (by have:n<=i:=hg;omega) fun h' eb=>⟨rfl,I.turned (t':=s.toks) (fun b o hb e=>eb b o hb e) f0 f1 f3 f4 f5⟩
  self:=fun _ _ _ _ _ st h=>wpAny_pyIter_rangeiter st h
section
variable {X:Cx} {tg:Expr}
theorem xH {pins:List (Addr×Obj)} {σ:St} {H:Hp} {s:Shared} {R:It->Hp->Prop} {E:Value->Shared->Prop} {lo hi:Int} {t u v:Tok} {tk:Nat} (I:aC X pins σ H s) (h1:-(2 ^ 62)<=lo) (h2:lo < 2 ^ 62) (h3:-(2 ^ 62)<=hi) (h4:hi < 2 ^ 62)
    (q:R (Du lo (hi-lo).toNat) H):wpAny (model X.prog X.w) X.A (pyIter (.ref s.heap.objs.size)) (Eu X pins σ tg R) E { s with heap:=s.heap.push { cls:=.type "range",data:=.fields #[.int lo t,.int hi u,.int 1 v] },toks:=tk }:=by
  refine wpAny_pyIter_range (IsRange.new ..) (small_one h1 h2 h3 h4) ?_;have I1:aC X pins σ H { s with heap:=s.heap.push { cls:=.type "range",data:=.fields #[.int lo t,.int hi u,.int 1 v] },toks:=tk }:=I.kept fun b o e=>Heap.get?_push_of_some _ e
  refine ⟨(s.heap.push { cls:=.type "range",data:=.fields #[.int lo t,.int hi u,.int 1 v] }).objs.size,[(s.heap.push { cls:=.type "range",data:=.fields #[.int lo t,.int hi u,.int 1 v] }).objs.size],_,_,H,rfl,
    I1.kept (t':=tk) fun b o e=>Heap.get?_push_of_some _ e,tG _ lo (hi-lo).toNat,?_,fun b hb=>?_,q⟩
  · have e1:lo+((0:Nat):Int)*1=lo:=by simp
    have e2:(((hi-lo).toNat:Nat):Int)-((0:Nat):Int)=Builtin.Range.rangeSize lo hi 1:=by rw [rangeSize_one];split <;> omega
    show IsRangeIter _ _ (lo+((0:Nat):Int)*1) ((((hi-lo).toNat:Nat):Int)-((0:Nat):Int)) 1;rw [e1,e2];exact Heap.get?_push_size _ rfl
  · have e:b=(s.heap.push { cls:=.type "range",data:=.fields #[.int lo t,.int hi u,.int 1 v] }).objs.size:=by simpa using hb
    subst e;exact I1.fpOk (Nat.le_refl _) (I1.hok.fresh (Nat.le_refl _))
noncomputable def Cu (ta:TA):TI:=fun σ H R=>ta σ H fun vs H1=>∃ j:Int,vs=[.int j]/\-(2 ^ 62)<=j/\j < 2 ^ 62/\R (Du 0 j.toNat) H1
theorem vt {a:Expr} {ta:TA} {p pos:Pos} (hg:Gl X "range") (hm:X.mg "range" = none) (ha:PA X [a] ta) (hs:starEach [a] X.env=[(false,eval a X.env)]:=by rfl):PI X tg (.Call (.Name "range" p) [a] [] pos) (Cu ta):=by
  intro pins s σ H R I h;refine Call_ (jH I hg hm boot_range (PyProof.Rows.callWith_type1 (cS (ha pos pins s σ H _ I h) fun us s1 ⟨vs,H1,I1,r1,q1⟩=>?_) hs rfl));obtain ⟨j,e,q1,q2,q⟩:=q1;subst e;cases r1 with
  | cons r rr =>
    cases rr;obtain ⟨t,rfl⟩:=r;exact call_range_1 (xH I1 (by omega) (by omega) q1 q2 (by simpa using q))
noncomputable def Ei (wi:TI) (g:TG) (tb:TS):TS:=fun D σ H=>wi σ H fun J H1=>∃ W:Nat->Nat->St->Hp->Prop,(∃ m,W 0 m σ H1)/\∀ i m σ H,W i m σ H ->
  (J.stop i H/\D.nx σ H)\/(J.go i H/\∃ N:St->Hp->Prop,(∀ σ' H',N σ' H'->∃ m',m' < m/\W (i+1) m' σ' H')/\∀ x H',J.yld i H x H'->g x σ H' fun σ2 H2=>tb { D with nx:=N,ct:=N,bk:=D.nx } σ2 H2)
noncomputable def mZ (fp:List Addr) (h:Heap):List (Addr×Obj):=fp.filterMap fun b=>(h.get? b).map fun o=>(b,o)
theorem g9 {fp:List Addr} {h:Heap} {b:Addr} {o:Obj} (hb:b∈fp) (e:h.get? b=some o):(b,o)∈mZ fp h:=List.mem_filterMap.mpr ⟨b,hb,by rw [e];rfl⟩
theorem vp {fp:List Addr} {h:Heap} {p:Addr×Obj} (hp:p∈mZ fp h):p.1∈fp/\h.get? p.1=some p.2:=by
  obtain ⟨b,hb,e⟩:=List.mem_filterMap.mp hp;cases q:h.get? b with
  | none=>rw [q] at e;cases e
  | some o =>
    rw [q] at e;have e':(b,o)=p:=Option.some.inj e;subst e';exact ⟨hb,q⟩
theorem aC.pinned {pins:List (Addr×Obj)} {σ:St} {H:Hp} {s:Shared} {fp:List Addr} (I:aC X pins σ H s) (hf:∀ b∈fp,lw X pins H b) (ho:∀ b∈fp,∃ o,s.heap.get? b=some o/\∀ v,o.data≠.cell v):aC X (pins++mZ fp s.heap) σ H s :=
  I.pins_of fun p hp=>(List.mem_append.mp hp).elim (fun z=>I.pin p (List.mem_append_right _ z)) fun z=>by
    obtain ⟨hb,e⟩:=vp z;obtain ⟨f0,f1,f2,_⟩:=hf p.1 hb;obtain ⟨o,e',d⟩:=ho p.1 hb;rw [e] at e';cases e';exact ⟨e,f0,f1,f2,d⟩
theorem aC.unpinned {pins pl:List (Addr×Obj)} {σ:St} {H:Hp} {s:Shared} (I:aC X (pins++pl) σ H s):aC X pins σ H s:=I.pins_of fun p hp=>I.pin p (List.mem_append_right _ (List.mem_append_left _ hp))
theorem Bz {iter:Expr} {body:List Stmt} {wi:TI} {g:TG} {tb:TS} {pos:Pos} (hp:PassesOwn (model X.prog X.w) X.A X.env X.xe) (hc:X.calm=true) (hi:PI X tg iter wi) (hg:PG X tg g) (hb:o8 X body tb)
    (hs:∀ x,foldedSetIterable iter X.env x=pure x:=by intro _;rfl):PS X (.For tg iter body [] pos) (Ei wi g tb):=by
  intro pins s σ H D I h;refine wpAny_For (cS (hi pins s σ H _ I h) fun v s1 h1=>cS h1 fun itv s2 h2=>?_) hs;obtain ⟨it,fp,tn,J,H2,e,I2,T,st2,f2,W,⟨m0,w0⟩,turn⟩:=h2;subst e
  -- what stays true of the iterator's objects through the loop
  have stat:∀ {H':Hp},(∀ b∈fp,H' b=none)->∀ b∈fp,lw X pins H' b:=fun hn b hb=>⟨hn b hb,(f2 b hb).2⟩
  refine codeAny_forLoop_any (fun n s'=>∃ i σ' H',aC X pins σ' H' s'/\tn i s'.heap/\(∀ b∈fp,H' b=none)/\W i n σ' H') ?_ m0 ⟨0,σ,H2,I2,st2,fun b hb=>(f2 b hb).1,w0⟩;rintro n s3 ⟨i,σ3,H3,I3,st3,fr3,w3⟩;rcases turn i n σ3 H3 w3 with ⟨stop,qn⟩ | ⟨go,N,hN,step⟩
  · refine wpAny_passesOwn hp (cS (T.done X rfl rfl rfl hc i pins s3 σ3 H3 X.xe I3 (stat fr3) st3 stop) fun r s4 ⟨hr,I4⟩=>?_);subst hr;exact wpAny_execs_nil ⟨σ3,H3,I4,qn⟩
  · refine wpAny_passesOwn hp (cS (T.item X rfl rfl rfl hc i pins s3 σ3 H3 X.xe I3 (stat fr3) st3 go) fun r s4 ⟨u,hr,h4⟩=>?_);subst hr;refine wpAny_passesOwn hp (cS h4 fun _ s5 ⟨x,H5,I5,r5,y5,st5,fr5⟩=>?_);have I5':=I5.pinned (stat fr5) (T.obj _ _ st5);refine wpAny_passesOwn hp (cS (hg _ s5 σ3 H5 x u _ I5' r5 (step x H5 y5)) fun _ s6 ⟨σ6,H6,I6,q6⟩=>?_);refine wpAny_passesOwn hp (cS (hb _ s6 σ6 H6 _ I6 q6) fun f s7 q7=>?_);have again:∀ {σ7:St} {H7:Hp},aC X (pins++mZ fp s5.heap) σ7 H7 s7->N σ7 H7->∃ m,m < n/\∃ i σ' H',aC X pins σ' H' s7/\tn i s7.heap/\(∀ b∈fp,H' b=none)/\W i m σ' H':=fun {σ7 H7} I7 n7=>by
      obtain ⟨m',hm,w7⟩:=hN σ7 H7 n7;refine ⟨m',hm,i+1,σ7,H7,I7.unpinned,T.keep _ _ _ st5 fun b hb o e=>(I7.pin (b,o) (List.mem_append_right _ (List.mem_append_right _ (g9 hb e)))).1,fun b hb=>?_,w7⟩;obtain ⟨o,e,d⟩:=T.obj _ _ st5 b hb;exact (I7.pin (b,o) (List.mem_append_right _ (List.mem_append_right _ (g9 hb e)))).2.1
    cases f with
    | next=>obtain ⟨σ7,H7,I7,n7⟩:=q7;exact again I7 n7
    | cont=>obtain ⟨σ7,H7,I7,n7⟩:=q7;exact again I7 n7
    | brk=>obtain ⟨σ7,H7,I7,q7⟩:=q7;exact ⟨σ7,H7,I7.unpinned,q7⟩
    | ret v=>obtain ⟨x7,σ7,H7,I7,r7,q7⟩:=q7;exact ⟨x7,σ7,H7,I7.unpinned,r7,q7⟩
end
noncomputable abbrev R2:=V->V->Hp->VK->Prop
noncomputable def gS (X:Cx) (f:Value->Value->Sem Value) (r:R2):Prop :=
  ∀ (pins:List (Addr×Obj)) (s:Shared) (σ:St) (H:Hp) (x y:V) (v u:Value) (Q:VK),aC X pins σ H s->bE x v->bE y u->r x y H Q ->
    wpAny (model X.prog X.w) X.A (f v u) (EP X pins σ Q) X.xe s
noncomputable def DS (X:Cx) (f:Value->Sem Value) (r:V->Hp->VK->Prop):Prop :=
  ∀ (pins:List (Addr×Obj)) (s:Shared) (σ:St) (H:Hp) (x:V) (v:Value) (Q:VK),aC X pins σ H s->bE x v->r x H Q ->
    wpAny (model X.prog X.w) X.A (f v) (EP X pins σ Q) X.xe s
noncomputable def c9 (X:Cx) (f:Value) (r:List V->Hp->VK->Prop):Prop :=
  ∀ (pins:List (Addr×Obj)) (s:Shared) (σ:St) (H:Hp) (xs:List V) (us:List Value) (Q:VK),aC X pins σ H s->bn xs us->r xs H Q ->
    wpAny (model X.prog X.w) X.A (call f us) (EP X pins σ Q) X.xe s
noncomputable def Dh (r:R2) (ta tb:TE):TE:=fun σ H Q=>ta σ H fun x H1=>tb σ H1 fun y H2=>r x y H2 Q
noncomputable def EA (r:V->Hp->VK->Prop) (ta:TE):TE:=fun σ H Q=>ta σ H fun x H1=>r x H1 Q
noncomputable def rI (C:Int->Int->Prop) (g:Int->Int->V):R2:=fun x y H Q=>∃ i j,x=.int i/\y=.int j/\C i j/\Q (g i j) H
noncomputable def yk (g:Int->Int->V):R2:=fun x y H Q=>∃ i j,x=.int i/\y=.int j/\Q (g i j) H
noncomputable def rU (g:Int->V):V->Hp->VK->Prop:=fun x H Q=>∃ i,x=.int i/\Q (g i) H
section
variable {X:Cx} {a b c:Expr} {ta tb tc:TE} {pos:Pos}
theorem AJ (ha:PE X a ta) (hb:PE X b tb) {pins:List (Addr×Obj)} {s:Shared} {σ:St} {H:Hp} {R:V->V->Hp->Prop} (I:aC X pins σ H s)
    (h:ta σ H fun x H1=>tb σ H1 fun y H2=>R x y H2) {Q:Value->Shared->Prop} {f:Value->Value->Sem Value}
    (hf:∀ v u s2 x y H2,aC X pins σ H2 s2->bE x v->bE y u->R x y H2->wpAny (model X.prog X.w) X.A (f v u) Q X.xe s2) :
    wpAny (model X.prog X.w) X.A (eval a X.env) (fun v s₁=>wpAny (model X.prog X.w) X.A (eval b X.env) (fun u s₂=>wpAny (model X.prog X.w) X.A (f v u) Q X.xe s₂) X.xe s₁) X.xe s:=by
  refine cS (ha pins s σ H _ I h) fun v s1 ⟨x,H1,I1,r1,q1⟩=>?_
  refine cS (hb pins s1 σ H1 _ I1 q1) fun u s2 ⟨y,H2,I2,r2,q2⟩=>?_
  exact hf v u s2 x y H2 I2 r1 r2 q2
theorem CF {op:Operator} {r:R2} (ho:gS X (binaryOp op) r) (ha:PE X a ta) (hb:PE X b tb):PE X (.BinOp a op b pos) (Dh r ta tb):=by
  intro pins s σ H Q I h;exact wpAny_BinOp (AJ ha hb I h fun v u s2 x y H2 I2 rx ry q=>ho pins s2 σ H2 x y v u Q I2 rx ry q)
theorem CH {op:UnaryOp} {r:V->Hp->VK->Prop} (ho:DS X (unaryOp op) r) (ha:PE X a ta):PE X (.UnaryOp op a pos) (EA r ta):=by
  intro pins s σ H Q I h;exact UnaryOp_ (cS (ha pins s σ H _ I h) fun v s1 ⟨x,H1,I1,r1,q1⟩=>ho pins s1 σ H1 x v Q I1 r1 q1)
theorem D9 {f:Value->Value->Sem Value} {C:Int->Int->Prop} {g:Int->Int->Int}
    (rule:∀ (i j:Int) (t u:Tok) (s:Shared) (Q:Value->Shared->Prop) (E:Value->Shared->Prop),C i j->Q (.int (g i j) s.toks) { s with toks:=s.toks+1 }->wpAny (model X.prog X.w) X.A (f (.int i t) (.int j u)) Q E s) :
    gS X f (rI C fun i j=>.int (g i j)):=by
  intro pins s σ H x y v u Q I rx ry h;obtain ⟨i,j,rfl,rfl,hc,q⟩:=h;obtain ⟨t,rfl⟩:=rx;obtain ⟨t',rfl⟩:=ry;exact rule i j t t' s _ _ hc ⟨.int (g i j),H,I.tok _,⟨_,rfl⟩,q⟩
theorem CA {f:Value->Value->Sem Value} {g:Int->Int->Int}
    (rule:∀ (i j:Int) (t u:Tok) (s:Shared) (Q:Value->Shared->Prop) (E:Value->Shared->Prop),Q (.int (g i j) s.toks) { s with toks:=s.toks+1 }->wpAny (model X.prog X.w) X.A (f (.int i t) (.int j u)) Q E s) :
    gS X f (yk fun i j=>.int (g i j)):=by
  intro pins s σ H x y v u Q I rx ry h;obtain ⟨i,j,rfl,rfl,q⟩:=h;obtain ⟨t,rfl⟩:=rx;obtain ⟨t',rfl⟩:=ry;exact rule i j t t' s _ _ ⟨.int (g i j),H,I.tok _,⟨_,rfl⟩,q⟩
theorem Bl {f:Value->Value->Sem Value} {g:Int->Int->Bool}
    (rule:∀ (i j:Int) (t u:Tok) (s:Shared) (Q:Value->Shared->Prop) (E:Value->Shared->Prop),Q (.bool (g i j)) s->wpAny (model X.prog X.w) X.A (f (.int i t) (.int j u)) Q E s) :
    gS X f (yk fun i j=>.bl (g i j)):=by
  intro pins s σ H x y v u Q I rx ry h;obtain ⟨i,j,rfl,rfl,q⟩:=h;obtain ⟨t,rfl⟩:=rx;obtain ⟨t',rfl⟩:=ry;exact rule i j t t' s _ _ ⟨.bl (g i j),H,I,rfl,q⟩
noncomputable def B9 (i j:Int):Prop:=0 < j/\j < 1073741824
noncomputable def yo (i j:Int):Prop:=(-(2 ^ 64) < i/\i < 2 ^ 64)\/(-(2 ^ 64) < j/\j < 2 ^ 64)
theorem yo.ok {i j:Int} (h:yo i j):IntMulOk i j:=by
  rcases h with ⟨h1,h2⟩ | ⟨h1,h2⟩
  · exact .of_left (intBits_le_64 h1 h2)
  · exact .of_right (intBits_le_64 h1 h2)
theorem Bm:gS X (binaryOp .Add) (yk fun i j=>.int (i+j)):=CA fun _ _ _ _ _ _ _ q=>add_int q
theorem Bq:gS X (binaryOp .Sub) (yk fun i j=>.int (i-j)):=CA fun _ _ _ _ _ _ _ q=>sub_int q
theorem Bp:gS X (binaryOp .Mult) (rI yo fun i j=>.int (i*j)):=D9 fun _ _ _ _ _ _ _ hc q=>mul_int q hc.ok
theorem zo:gS X (binaryOp .FloorDiv) (rI B9 fun i j=>.int (i / j)):=D9 fun i j _ _ _ _ _ hc q=>by
  have h1:(0:Int) < j:=hc.1;have h2:j < 1073741824:=hc.2;exact floordiv_int (by omega) (by rw [Int.fdiv_eq_ediv_of_nonneg i (by omega)];exact q) (.inl (PyProof.noPylong_small (by omega)))
theorem Bo:gS X (binaryOp .Mod) (rI (fun _ j=>0 < j) fun i j=>.int (i%j)):=D9 fun i j _ _ _ _ _ hc q=>by
  have h1:(0:Int) < j:=hc;exact mod_int' (by omega) (by rw [Int.fmod_eq_emod_of_nonneg i (by omega)];exact q)
theorem EL {f:Value->Sem Value} {g:Int->Int}
    (rule:∀ (i:Int) (t:Tok) (s:Shared) (Q:Value->Shared->Prop) (E:Value->Shared->Prop),Q (.int (g i) s.toks) { s with toks:=s.toks+1 }->wpAny (model X.prog X.w) X.A (f (.int i t)) Q E s) :
    DS X f (rU fun i=>.int (g i)):=by
  intro pins s σ H x v Q I rx h;obtain ⟨i,rfl,q⟩:=h;obtain ⟨t,rfl⟩:=rx;exact rule i t s _ _ ⟨.int (g i),H,I.tok _,⟨_,rfl⟩,q⟩
theorem BZ:DS X (unaryOp .USub) (rU fun i=>.int (-i)):=EL fun _ _ _ _ _ q=>neg_int q
end
section
variable {X:Cx} {a b c:Expr} {ta tb tc:TE} {pos:Pos}
theorem ri:gS X (compareOp .Lt) (yk fun i j=>.bl (decide (i < j))):=Bl fun _ _ _ _ _ _ _ q=>lt_int q
theorem t6:gS X (compareOp .LtE) (yk fun i j=>.bl (decide (i<=j))):=Bl fun _ _ _ _ _ _ _ q=>le_int q
theorem An:gS X (compareOp .Gt) (yk fun i j=>.bl (decide (j < i))):=Bl fun _ _ _ _ _ _ _ q=>gt_int q
theorem gS.or {f:Value->Value->Sem Value} {r r':R2} (h:gS X f r) (h':gS X f r'):gS X f (fun x y H Q=>r x y H Q\/r' x y H Q):=by
  intro pins s σ H x y v u Q I rx ry q;rcases q with q | q
  · exact h pins s σ H x y v u Q I rx ry q
  · exact h' pins s σ H x y v u Q I rx ry q
theorem jI (b:Expr) {op:CmpOp} (h:op≠.In:=by decide) (h2:op≠.NotIn:=by decide):behindInMarks op b=false:=by
  have e1:(op==CmpOp.In)=false:=by cases op <;> first | rfl | exact absurd rfl h
  have e2:(op==CmpOp.NotIn)=false:=by cases op <;> first | rfl | exact absurd rfl h2
  cases b <;> simp [behindInMarks,e1,e2]
theorem zv {op:CmpOp} {r:R2} (ho:gS X (compareOp op) r) (ha:PE X a ta) (hb:PE X b tb) (hm:behindInMarks op b=false):PE X (.Compare a [op] [b] pos) (Dh r ta tb):=by
  intro pins s σ H Q I h;exact wpAny_Compare1 (AJ ha hb I h fun v u s2 x y H2 I2 rx ry q=>ho pins s2 σ H2 x y v u Q I2 rx ry q) hm
noncomputable def Ay (t:TE):TT:=fun σ H Q=>t σ H fun x H'=>∃ k,x=.bl k/\Q k H'
theorem zF {op:CmpOp} {r:R2} (ho:gS X (compareOp op) r) (ha:PE X a ta) (hb:PE X b tb) (hm:behindInMarks op b=false):PT X (.Compare a [op] [b] pos) (Ay (Dh r ta tb)):=by
  intro pins s σ H Q I h;refine wpAny_isTrue_Compare1 (cS (ha pins s σ H _ I h) fun v s1 ⟨x,H1,I1,r1,q1⟩=>cS (hb pins s1 σ H1 _ I1 q1) fun u s2 ⟨y,H2,I2,r2,q2⟩ =>
    cS (ho pins s2 σ H2 x y v u _ I2 r1 r2 q2) fun c s3 ⟨z,H3,I3,r3,k,e,q3⟩=>?_) hm
  subst e;cases r3;exact wpAny_truthy_bool ⟨H3,I3,q3⟩
noncomputable def tm (r r':R2) (ta tb tc:TE):TE:=fun σ H Q=>ta σ H fun x H1=>tb σ H1 fun y H2=>r x y H2 fun z H3=>∃ k,z=.bl k /\
  (if k=true then tc σ H3 fun w' H4=>r' y w' H4 Q else Q (.bl false) H3)
theorem xk {op op':CmpOp} {r r':R2} (ho:gS X (compareOp op) r) (ho':gS X (compareOp op') r') (ha:PE X a ta) (hb:PE X b tb) (hc:PE X c tc)
    (hm:lastMarks [op,op'] [b,c]=false:=by with_unfolding_all rfl):PE X (.Compare a [op,op'] [b,c] pos) (tm r r' ta tb tc):=by
  intro pins s σ H Q I h;refine Compare_chain (cS (ha pins s σ H _ I h) fun v s1 ⟨x,H1,I1,r1,q1⟩=>chain_link (cS (hb pins s1 σ H1 _ I1 q1) fun u s2 ⟨y,H2,I2,r2,q2⟩ =>
    cS (ho pins s2 σ H2 x y v u _ I2 r1 r2 q2) fun d s3 ⟨z,H3,I3,r3,k,e,q3⟩=>?_)) hm
  subst e;cases r3;refine wpAny_truthy_bool ?_;cases k with
  | false=>exact ite_ff ⟨.bl false,H3,I3,rfl,q3⟩
  | true=>exact ite_tt (chain_last (cS (hc pins s3 σ H3 _ I3 q3) fun w' s4 ⟨z',H4,I4,r4,q4⟩=>ho' pins s4 σ H4 y z' u w' Q I4 r2 r4 q4))
theorem xC {op op':CmpOp} {r r':R2} (ho:gS X (compareOp op) r) (ho':gS X (compareOp op') r') (ha:PE X a ta) (hb:PE X b tb) (hc:PE X c tc)
    (hm:lastMarks [op,op'] [b,c]=false:=by with_unfolding_all rfl):PT X (.Compare a [op,op'] [b,c] pos) (Ay (tm r r' ta tb tc)):=by
  intro pins s σ H Q I h;refine isTrue_chain (cS (ha pins s σ H _ I h) fun v s1 ⟨x,H1,I1,r1,q1⟩=>test_link (cS (hb pins s1 σ H1 _ I1 q1) fun u s2 ⟨y,H2,I2,r2,q2⟩ =>
    cS (ho pins s2 σ H2 x y v u _ I2 r1 r2 q2) fun d s3 ⟨z,H3,I3,r3,k,e,q3⟩=>?_)) hm
  subst e;cases r3;refine wpAny_truthy_bool ?_;cases k with
  | false =>
    obtain ⟨k',e',q'⟩:=q3;cases e';exact ite_ff ⟨H3,I3,q'⟩
  | true =>
    refine ite_tt (test_last (cS (hc pins s3 σ H3 _ I3 q3) fun w' s4 ⟨z',H4,I4,r4,q4⟩=>cS (ho' pins s4 σ H4 y z' u w' _ I4 r2 r4 q4) fun d' s5 ⟨z2,H5,I5,r5,k2,e2,q5⟩=>?_));subst e2;cases r5;exact wpAny_truthy_bool ⟨H5,I5,q5⟩
theorem mQ:(sizeLine:Nat) < 2 ^ 63:=by rw [sizeLine_eq];decide
theorem gh {x:V} {us:List Value} (r:bn [x] us):∃ u,us=[u]/\bE x u:=by
  cases r with
  | cons r1 r2=>cases r2;exact ⟨_,rfl,r1⟩
theorem oS {x y:V} {us:List Value} (r:bn [x,y] us):∃ u w',us=[u,w']/\bE x u/\bE y w':=by
  cases r with
  | cons r1 r2 =>
    cases r2 with
    | cons r3 r4=>cases r4;exact ⟨_,_,rfl,r1,r3⟩
theorem uL (hc:X.calm=true):c9 X (.builtin "max") (fun xs H Q=>∃ i j,xs=[.int i,.int j]/\Q (.int (if j > i then j else i)) H):=by
  intro pins s σ H xs us Q I r h;obtain ⟨i,j,rfl,q⟩:=h;obtain ⟨u,w',rfl,⟨t,rfl⟩,⟨t',rfl⟩⟩:=oS r;refine max_two_ints (I.ok.hd hc) fun h' tk k=>⟨_,H,I.kept k,?_,q⟩
  by_cases hj:j > i
  · rw [if_pos hj,if_pos hj];exact ⟨_,rfl⟩
  · rw [if_neg hj,if_neg hj];exact ⟨_,rfl⟩
theorem uM (hc:X.calm=true):c9 X (.builtin "min") (fun xs H Q=>∃ i j,xs=[.int i,.int j]/\Q (.int (if j < i then j else i)) H):=by
  intro pins s σ H xs us Q I r h;obtain ⟨i,j,rfl,q⟩:=h;obtain ⟨u,w',rfl,⟨t,rfl⟩,⟨t',rfl⟩⟩:=oS r;refine min_two_ints (I.ok.hd hc) fun h' tk k=>⟨_,H,I.kept k,?_,q⟩
  by_cases hj:j < i
  · rw [if_pos hj,if_pos hj];exact ⟨_,rfl⟩
  · rw [if_neg hj,if_neg hj];exact ⟨_,rfl⟩
theorem nZ:c9 X (.type "int") (fun xs H Q=>(∃ i,xs=[.int i]/\Q (.int i) H)\/∃ k,xs=[.bl k]/\Q (.int (if k then 1 else 0)) H):=by
  intro pins s σ H xs us Q I r h;rcases h with ⟨i,rfl,q⟩ | ⟨k,rfl,q⟩
  · obtain ⟨u,rfl,t,rfl⟩:=gh r;exact call_int_int ⟨.int i,H,I,⟨_,rfl⟩,q⟩
  · obtain ⟨u,rfl,r1⟩:=gh r;cases r1;exact call_int_bool ⟨.int (if k then 1 else 0),H,I.tok _,⟨_,rfl⟩,q⟩
end
structure AE (h:Heap) (x dx C:Addr) (mA:Str->Option Value):Prop where
  obj:h.get? x=some (PySem.W.instObj C dx)
  ns:h.Ns1 dx mA
  ne:dx≠x
theorem vh {h:Heap} {dx:Addr} {mA:Str->Option Value} (n:h.Ns1 dx mA):∃ od,h.get? dx=some od/\∀ name,PySem.W.lookIn name od=some (mA name):=by
  obtain ⟨o,es,ep,ho,hd,hk,_,hm⟩:=n;refine ⟨o,ho,fun name=>?_⟩;have e:=hm name;unfold nsFind findBy at e;rw [<- Array.find?_toList] at e;unfold PySem.W.lookIn;rw [hd];dsimp only;split
  · rename_i y q;rw [q] at e;exact congrArg some e
  · rename_i q;rw [q] at e;have a:es.toList.any (·.refKey)=false:=by
      rw [List.any_eq_false];intro y hy;obtain ⟨z,t,hkey⟩:=hk y (Array.mem_toList_iff.mp hy);simp [DictEntry.refKey,hkey]
    have a':¬ es.toList.any (·.refKey)=true:=by rw [a];exact Bool.false_ne_true
    rw [if_neg a'];exact congrArg some e
theorem AE.look {h:Heap} {x dx C:Addr} {mA:Str->Option Value} (I:AE h x dx C mA):∃ od,PySem.W.InstAt h x (PySem.W.instObj C dx) C (some od)/\∀ name,PySem.W.lookIn name od=some (mA name) :=
  let ⟨od,ho,hl⟩:=vh I.ns
  ⟨od,⟨I.obj,rfl,rfl,ho⟩,hl⟩
theorem kD.some_of {v:V} {o:Option Value} (r:kD (some v) o):∃ u,o=some u/\bE v u:=by
  cases o with
  | none=>exact (show False from r).elim
  | some u=>exact ⟨u,rfl,r⟩
section
variable {P:Program} {w:World} {H H':Hp} {h h':Heap} {a C dx:Addr} {fs fs':List (Str×V)}
theorem yY (hok:gj P w H h) (e:H a=some (.ins C dx fs)):∃ mA,AE h a dx C mA/\(∀ f,kD (fs.lookup f) (mA f))/\PySem.Within mA (fs.map (·.1))/\fs.length<=1000/\H dx=some (.own a):=by
  obtain ⟨d,z,ne,ob,mA,n,r,q⟩:=(show bV P w H h a (.ins C dx fs) from hok a _ e)
  exact ⟨mA,⟨ob,n,ne⟩,r,q,z,d⟩
end
structure DK (K:PySem.W.Frag) (C:Addr):Prop where
  pg:PySem.W.plainGet K C Str.empty=true
  hd:PySem.W.hasDictIn K C=true
  po:PySem.W.plainOver K C=true
  sa:PySem.W.findIn K (.ref C) "__setattr__" = some (some (.builtin "object.__setattr__"))
theorem DK.get {K:PySem.W.Frag} {C:Addr} (c:DK K C) (f:Str):PySem.W.plainGet K C f=true:=c.pg
section
variable {X:Cx} {pins:List (Addr×Obj)} {σ:St} {H:Hp} {s:Shared} {A:Around} {E:Value->Shared->Prop} {Q:Value->Shared->Prop} {c:Value} {b:Bool}
inductive jU (K:PySem.W.Frag) (H:Hp):V->Value->Prop where
  | non:jU K H .non (.type "NoneType")
  | bl (x:Bool):jU K H (.bl x) (.type "bool")
  | int (i:Int):jU K H (.int i) (.type "int")
  | str (x:Str):jU K H (.str x) (.type "str")
  | flt (x:UInt64):jU K H (.flt x) (.type "float")
  | lst {a:Addr} {xs:List V} (e:H a=some (.lst xs)):jU K H (.ref a) (.type "list")
  | frz {a:Addr} {o:Obj} {xs:List V} (e:H a=some (.frz o (.lst xs))):jU K H (.ref a) (.type "list")
  | tup {a:Addr} {xs:List V} (e:H a=some (.tup xs)):jU K H (.ref a) (.type "tuple")
  | dK {a:Addr} {kvs:List (cN×V)} (e:H a=some (.dK kvs)):jU K H (.ref a) (.type "dict")
  | dT {a:Addr} {kvs:List (List cN×V)} (e:H a=some (.dT kvs)):jU K H (.ref a) (.type "dict")
  | ins {a C dx:Addr} {fs:List (Str×V)} (e:H a=some (.ins C dx fs)) (cl:DK K C) (ha:PySem.W.findIn K (.ref C) "__class__" = some (some (.builtin "object.__class__")))
      (hn:PySem.W.specialIn K (.builtin "object.__class__") "__get__" = some (some (.builtin "getset_descriptor.__get__"))) (htk:PySem.W.takesIn K (.builtin "object.__class__")=some true)
      (hm:PySem.W.mroIn K C (.type "object")=some true):jU K H (.ref a) (.ref C)
theorem u8 {x:V} {u t:Value} (I:aC X pins σ H s) (rx:bE x u) (ty:jU X.K H x t) (e:PySem.W.kitOne X.K t c=some b) (h:∀ tk,Q (.bool b) { s with toks:=tk }) :
    wpAny (model X.prog X.w) A (call (.builtin "isinstance") [u,c]) Q E s:=by
  cases ty with
  | non=>cases (show u=Value.none from rx);exact PySem.W.kia_one PySem.W.kitx_none I.kIn True.intro e (fun z=>nomatch z) h
  | bl y=>cases (show u=Value.bool y from rx);exact PySem.W.kia_one PySem.W.kitx_bool I.kIn True.intro e (fun z=>nomatch z) h
  | int i=>obtain ⟨t,q⟩:=(show ∃ t,u=Value.int i t from rx);cases q;exact PySem.W.kia_one PySem.W.kitx_int I.kIn True.intro e (fun z=>nomatch z) h
  | str y=>obtain ⟨t,q⟩:=(show ∃ t,u=Value.str y t from rx);cases q;exact PySem.W.kia_one PySem.W.kitx_str I.kIn True.intro e (fun z=>nomatch z) h
  | flt y=>obtain ⟨t,q⟩:=(show ∃ t,u=Value.float y t from rx);cases q;exact PySem.W.kia_one PySem.W.kitx_float I.kIn True.intro e (fun z=>nomatch z) h
  | @lst a xs ea =>
    cases (show u=Value.ref a from rx);obtain ⟨_,_,n,_,h1⟩:=(show bV X.prog X.w H s.heap a (.lst xs) from I.hok a _ ea)
    exact PySem.W.kia_one PySem.W.kitx_list I.kIn ⟨_,h1,rfl⟩ e (fun z=>nomatch z) h
  | @frz a ob xs ea =>
    cases (show u=Value.ref a from rx);obtain ⟨_,_,_,n,_,h1⟩:=(show bV X.prog X.w H s.heap a (.frz ob (.lst xs)) from I.hok a _ ea)
    exact PySem.W.kia_one PySem.W.kitx_list I.kIn ⟨_,h1,rfl⟩ e (fun z=>nomatch z) h
  | @tup a xs ea =>
    cases (show u=Value.ref a from rx);obtain ⟨_,_,_,p⟩:=(show bV X.prog X.w H s.heap a (.tup xs) from I.hok a _ ea)
    obtain ⟨o,h1,h2,_⟩:=p;exact PySem.W.kia_one PySem.W.kitx_tuple I.kIn ⟨o,h1,h2⟩ e (fun z=>nomatch z) h
  | @dK a kvs ea =>
    cases (show u=Value.ref a from rx);obtain ⟨_,_,vs,_,p⟩:=(show bV X.prog X.w H s.heap a (.dK kvs) from I.hok a _ ea)
    obtain ⟨o,es,ep,h1,h2,_⟩:=p;exact PySem.W.kia_one PySem.W.kitx_dict I.kIn ⟨o,h1,h2.1⟩ e (fun z=>nomatch z) h
  | @dT a kvs ea =>
    cases (show u=Value.ref a from rx);obtain ⟨_,_,xs,_,o,es,ep,h1,h2,_⟩:=(show bV X.prog X.w H s.heap a (.dT kvs) from I.hok a _ ea)
    exact PySem.W.kia_one PySem.W.kitx_dict I.kIn ⟨o,h1,h2.1⟩ e (fun z=>nomatch z) h
  | @ins a C dx fs ea cl ha hn htk hm =>
    cases (show u=Value.ref a from rx);obtain ⟨mA,O,_⟩:=yY I.hok ea;obtain ⟨od,J,_⟩:=O.look;exact PySem.W.kia_one (PySem.W.kitx_own (cl.get _) cl.hd ha hn htk hm) I.kIn J e (fun z=>nomatch z) h
end
structure fq (k:Nat) (A:Around):Prop where
  hd:A.handled=none
  dp:A.depth+3*k+5 < recursionLimit
  un:A.units+16*k+200 < cLine
theorem fq.mono {j k:Nat} {A:Around} (r:fq k A) (h:j<=k):fq j A:=⟨r.hd,by have:=r.dp;omega,by have:=r.un;omega⟩
theorem fq.deeper {k:Nat} {A:Around} (r:fq (k+1) A) (env:Env):fq k (A.deeper env) :=
  ⟨r.hd,by have:=r.dp;show A.depth+1+3*k+5 < _;omega,by have:=r.un;show A.units+3+16*k+200 < _;omega⟩
theorem fq.depth {k:Nat} {A:Around} (r:fq k A):A.depth < recursionLimit:=by have:=r.dp;omega
theorem fq.units {k:Nat} {A:Around} (r:fq k A):A.units+64 < cLine:=by have:=r.un;omega
noncomputable def El:TA:=fun _ H Q=>Q [] H
noncomputable def Dc (ta:TE) (tr:TA):TA:=fun σ H Q=>ta σ H fun x H1=>tr σ H1 fun xs H2=>Q (x::xs) H2
section
variable {X:Cx} {e:Expr} {es:List Expr} {te:TE} {t:TA} {pos:Pos}
theorem mW:PA X [] El:=fun _ _ _ _ H Q I h=>Calls.spliced_nil ⟨[],H,I,.nil,h⟩
theorem fF (ha:PE X e te) (hr:PA X es t) (hs:starEach (e::es) X.env=(false,eval e X.env)::starEach es X.env:=by rfl):PA X (e::es) (Dc te t):=by
  intro pos pins s σ H Q I h;rw [hs];show wpAny _ _ (spliced ((false,eval e X.env)::backTo pos (starEach es X.env))) _ _ s;refine Calls.spliced_cons (cS (ha pins s σ H _ I h) fun u s1 ⟨x,H1,I1,r1,q1⟩=>?_);exact cS (hr pos pins s1 σ H1 _ I1 q1) fun us s2 ⟨xs,H2,I2,r2,q2⟩=>⟨x::xs,H2,I2,.cons r1 r2,q2⟩
noncomputable def Ep (t:TA):TE:=fun σ H Q=>t σ H fun xs H1=>xs.length<=sizeLine/\∀ p,H1 p=none->Q (.ref p) (du H1 p (.tup xs))
noncomputable def Ek (t:TA):TE:=fun σ H Q=>t σ H fun xs H1=>xs.length<=sizeLine/\∀ p,H1 p=none->Q (.ref p) (du H1 p (.lst xs))
theorem xp {x1} (h:PA X es t):PE X (.Tuple es x1 pos) (Ep t):=by
  intro pins s σ H Q I hq;refine wpAny_Tuple_spliced (cS (h pos pins s σ H _ I hq) fun us s1 ⟨xs,H1,I1,r,z,q⟩=>⟨by rw [<- r.length];exact z,?_⟩);have hf:H1 s1.heap.objs.size=none:=I1.hok.fresh (Nat.le_refl _);refine ⟨.ref s1.heap.objs.size,du H1 s1.heap.objs.size (.tup xs),I1.laid (t':=s1.toks) (fun b u e=>Heap.get?_push_of_some _ e) (Nat.le_refl _) ?_,rfl,q _ hf⟩;exact ⟨z,us,r,⟨_,Heap.get?_push_size _ rfl,rfl,⟨_,rfl⟩,rfl⟩⟩
theorem Bt (h:PA X es t):PE X (.List es pos) (Ek t):=by
  intro pins s σ H Q I hq;refine wpAny_List_spliced (cS (h pos pins s σ H _ I hq) fun us s1 ⟨xs,H1,I1,r,z,q⟩=>⟨by rw [<- r.length];exact z,?_⟩);have hf:H1 s1.heap.objs.size=none:=I1.hok.fresh (Nat.le_refl _);refine ⟨.ref s1.heap.objs.size,du H1 s1.heap.objs.size (.lst xs),I1.laid (t':=s1.toks) (fun b u e=>Heap.get?_push_of_some _ e) (Nat.le_refl _) ?_,rfl,q _ hf⟩;exact ⟨z,us,0,r,Heap.get?_push_size _ rfl⟩
end
noncomputable abbrev Sp:=List V->Hp->VK->XK->Prop
noncomputable abbrev vQ:=List Env->Hp->Shared->XK->Value->Shared->Prop
structure yq (P:Program) (w:World) (K:PySem.W.Frag) (mg:Str->Option Value) (base:Heap) (A:Around) (outer:List Env) (s:Shared) (H:Hp):Prop where
  frames:A.frames=some outer
  mod:Mod K mg base
  bs:∀ b o,base.get? b=some o->s.heap.get? b=some o/\H b=none
  bsz:base.objs.size<=s.heap.objs.size
  funs:s.heap.FunFrames base outer
  frf:∀ b∈jR outer,H b=none
  hok:gj P w H s.heap
  bare:AllBare s.gens
noncomputable def CE (outer:List Env) (P:Program) (w:World) (H:Hp) (s:Shared) (Q:VK) (u:Value) (s':Shared):Prop :=
  ∃ v H',s'.os=s.os/\AllBare s'.gens/\Un (jR outer) [] H H' s.heap s'.heap/\gj P w H' s'.heap/\bE v u/\Q v H'
noncomputable def CR (CX:vQ) (outer:List Env) (P:Program) (w:World) (H:Hp) (s:Shared) (Q:VK) (E:XK) (r:Result) (s':Shared):Prop :=
  match r with
  | .ok (.ret u)=>CE outer P w H s Q u s'
  | .ok _=>False
  | .error e=>CX outer H s E e s'
structure aW (P:Program) (w:World) (K:PySem.W.Frag) (mg:Str->Option Value) (base:Heap) (CX:vQ) (k:Nat) (f:Addr) (fd:FuncData) (ps:List Str) (sp:Sp):Prop where
  len:∀ vs H Q E,sp vs H Q E->vs.length=ps.length
  run:∀ (A:Around) (outer:List Env) (s:Shared) (H:Hp) (args:Args) (us:List Value) (vs:List V) (Q:VK) (E:XK),fq k A->yq P w K mg base A outer s H->BindsTo s fd args (ps.zip us)->bn vs us->sp vs H Q E ->
    codeAny (model P w) A (.call (.ref f) args) (CR CX outer P w H s Q E) s
theorem aW.mono {P:Program} {w:World} {K:PySem.W.Frag} {mg:Str->Option Value} {base:Heap} {CX:vQ} {j k:Nat} {f:Addr} {fd:FuncData} {ps:List Str} {sp:Sp} (F:aW P w K mg base CX j f fd ps sp) (h:j<=k) :
    aW P w K mg base CX k f fd ps sp:=⟨F.len,fun A outer s H args us vs Q E hr=>F.run A outer s H args us vs Q E (hr.mono h)⟩
section
variable {X:Cx} {pins:List (Addr×Obj)} {σ:St} {H:Hp} {s s':Shared}
theorem aC.env0 (I:aC X pins σ H s):yq X.prog X.w X.K X.mg X.base X.A X.stack s H :=
  ⟨I.ok.frames,I.ok.mod,I.bs,Nat.le_trans I.ok.bsz I.sz,I.stack,I.stkFree,I.hok,I.bare⟩
theorem aC.after {Q:VK} {u:Value} (I:aC X pins σ H s) (h:CE X.stack X.prog X.w H s Q u s'):EP X pins σ Q u s':=by
  obtain ⟨v,H',os,bare,un,hok,r,q⟩:=h;obtain ⟨hh,g,d,t,os'⟩:=s';obtain rfl:os'=s.os:=os;exact ⟨v,H',I.call (h':=hh) (g':=g) (d':=d) (t':=t) (ch:=[]) un hok bare (fun b z=>absurd z (by simp)),r,q⟩
end
noncomputable def Db (sp:Sp) (dvs:List V) (E:XK) (t:TA):TE:=fun σ H Q=>t σ H fun vs H1=>sp (vs++dvs) H1 Q E
noncomputable def bH (K:PySem.W.Frag) (fd:FuncData) (ps:List Str) (ds:List Value):Prop :=
  ∀ (s:Shared) (us:List Value),K.In s.heap->(us++ds).length=ps.length->BindsTo s fd ⟨us,[]⟩ (ps.zip (us++ds))
theorem bH.all {K:PySem.W.Frag} {fd:FuncData} {ps:List Str} (h:∀ us:List Value,us.length=ps.length->bindArgs fd ⟨us,[]⟩=pure (ps.zip us)):bH K fd ps []:=fun s us _ hl=>by
  rw [List.append_nil] at hl ⊢;exact .of_eq (h us hl)
noncomputable def rY (CX:vQ) (X:Cx) (E:XK):Prop:=∀ (pins:List (Addr×Obj)) (σ:St) (H:Hp) (s:Shared) (e:Value) (s':Shared),aC X pins σ H s->CX X.stack H s E e s'->X.xe e s'
section
variable {X:Cx} {CX:vQ} {k:Nat} {f C:Addr} {fd:FuncData} {ps:List Str} {sp:Sp} {dvs:List V} {ds:List Value} {E:XK} {x m:Str} {p pos apos:Pos} {e o:Expr} {es:List Expr} {ta:TE} {t:TA}
theorem BF {pins:List (Addr×Obj)} {σ:St} {H:Hp} {s:Shared} {Q:VK} {us:List Value} {vs:List V} (F:aW X.prog X.w X.K X.mg X.base CX k f fd ps sp) (hr:fq k X.A) (hb:bH X.K fd ps ds) (hd:bn dvs ds) (hx:rY CX X E)
    (I:aC X pins σ H s) (r:bn vs us) (h:sp (vs++dvs) H Q E):wpAny (model X.prog X.w) X.A (call (.ref f) us) (EP X pins σ Q) X.xe s:=by
  have r2:bn (vs++dvs) (us++ds):=r.append hd;have hl:(us++ds).length=ps.length:=by rw [<- r2.length];exact F.len _ _ _ _ h
  refine wpAny_call (codeAny_mono (F.run X.A X.stack s H ⟨us,[]⟩ (us++ds) (vs++dvs) Q E hr I.env0 (hb s us I.kIn hl) r2 h) fun r s' hq=>?_);cases r with
  | error e=>exact hx pins σ H s e s' I hq
  | ok fl =>
    cases fl with
    | ret u=>exact I.after hq
    | next=>exact False.elim hq
    | brk=>exact False.elim hq
    | cont=>exact False.elim hq
theorem zu (F:aW X.prog X.w X.K X.mg X.base CX k f fd ps sp) (hr:fq k X.A) (hg:Gl X x) (hm:X.mg x=some (.ref f)) (hk:PySem.W.keepIn X.K (.ref f)=true) (hb:bH X.K fd ps ds) (hd:bn dvs ds) (hx:rY CX X E)
    (ha:PA X (e::es) t) (hdb:(x==("__debug__" : Str))=false:=by decide) (he:starEach (e::es) X.env=(false,eval e X.env)::starEach es X.env:=by rfl) (hpl:(backTo pos (starEach es X.env)).any (·.1)=false:=by rfl) :
    PE X (.Call (.Name x p) (e::es) [] pos) (Db sp dvs E t):=by
  intro pins s σ H Q I h;refine wpAny_Call_Name_kw (lR I hg hm ?_ hdb);refine PySem.W.callWith_K (h₀:=X.base) I.ok.mod.kin hk (cS (ha pos pins s σ H _ I h) fun us s1 ⟨vs,H1,I1,r,q⟩=>⟨I1.kIn,?_⟩) he hpl;exact BF F hr hb hd hx I1 r q
end
structure aL (N P:List Str) (sc:Scope):Prop where
  kind:sc.kind=.function
  co:sc.isCoroutine=false
  gen:sc.isGenerator=false
  nd:N.Nodup
  pre:N.take P.length=P
  par:∀ x∈P,sc.names.lookup x=some .local\/sc.names.lookup x=some .cell
  nofree:∀ y∈sc.names,y.2≠.free
theorem nY {kindOf:Str->Option NameKind} {x:Str}:∀ {binds:List (Str×Value)} {m:Str->Option Value},(∀ v,(x,v)∉binds)->bindL kindOf binds m x=m x
  | [],_,_=>rfl
  | (n,v)::r,m,h=>by
    unfold bindL;rw [nY fun w hw=>h w (List.mem_cons_of_mem _ hw)];split
    · have:x≠n:=by rintro rfl;exact h v List.mem_cons_self
      simp [this]
    · rfl
theorem nW {kindOf:Str->Option NameKind} {x:Str}:∀ {binds:List (Str×Value)} {m:Str->Option Value},(∀ v,(x,v)∉binds)->bindC kindOf binds m x=m x
  | [],_,_=>rfl
  | (n,v)::r,m,h=>by
    unfold bindC;rw [nW fun w hw=>h w (List.mem_cons_of_mem _ hw)];split
    · rfl
    · have:x≠n:=by rintro rfl;exact h v List.mem_cons_self
      simp [this]
theorem nX {kindOf:Str->Option NameKind} {x:Str} {v:Value}:∀ {P:List Str} {vs:List Value} {i:Nat} {m:Str->Option Value},P.Nodup->P[i]?=some x->vs[i]?=some v->kindOf x=some .local ->
    bindL kindOf (P.zip vs) m x=some v
  | [],_,_,_,_,h,_,_=>by simp at h
  | _::_,[],_,_,_,_,h,_=>by simp at h
  | p::P,w::vs,0,m,nd,h1,h2,hk=>by
    simp at h1 h2;subst h1;subst h2;show bindL kindOf ((p,w)::P.zip vs) m p=_;unfold bindL;rw [nY fun v hv=>(List.nodup_cons.mp nd).1 (List.of_mem_zip hv).1,if_pos hk];simp
  | p::P,w::vs,i+1,m,nd,h1,h2,hk=>by
    show bindL kindOf ((p,w)::P.zip vs) m x=_;unfold bindL;exact nX (i:=i) (List.nodup_cons.mp nd).2 (by simpa using h1) (by simpa using h2) hk
theorem nV {kindOf:Str->Option NameKind} {x:Str} {v:Value}:∀ {P:List Str} {vs:List Value} {i:Nat} {m:Str->Option Value},P.Nodup->P[i]?=some x->vs[i]?=some v->kindOf x≠some .local ->
    bindC kindOf (P.zip vs) m x=some v
  | [],_,_,_,_,h,_,_=>by simp at h
  | _::_,[],_,_,_,_,h,_=>by simp at h
  | p::P,w::vs,0,m,nd,h1,h2,hk=>by
    simp at h1 h2;subst h1;subst h2;show bindC kindOf ((p,w)::P.zip vs) m p=_;unfold bindC;rw [nW fun v hv=>(List.nodup_cons.mp nd).1 (List.of_mem_zip hv).1,if_neg hk];simp
  | p::P,w::vs,i+1,m,nd,h1,h2,hk=>by
    show bindC kindOf ((p,w)::P.zip vs) m x=_;unfold bindC;exact nV (i:=i) (List.nodup_cons.mp nd).2 (by simpa using h1) (by simpa using h2) hk
noncomputable def il (N:List Str) (vs:List V):St:=vs.map some++List.replicate (N.length-vs.length) none
noncomputable def eW (CX:vQ) (P:Program) (w:World) (K:PySem.W.Frag) (mg:Str->Option Value) (base:Heap) (N:List Str) (qual:Str) (scope:Scope) (f:Addr) (cd:Value) (A:Around) (outer:List Env) (s:Shared) (H:Hp) (E:XK):Cx where
  prog:=P
  w:=w
  K:=K
  mg:=mg
  base:=base
  A:=A.deeper (envOfC qual scope s.heap.objs.size f cd)
  N:=N
  s₀:=s
  H₀:=H
  env:=envOfC qual scope s.heap.objs.size f cd
  outer:=outer
  stack:=envOfC qual scope s.heap.objs.size f cd::outer
  ex:=[]
  calm:=true
  fn:=fun _=>true
  pn:=[]
  xe:=fun e s'=>wpAny (model P w) (A.deeper (envOfC qual scope s.heap.objs.size f cd)) (leaving (envOfC qual scope s.heap.objs.size f cd) e) (fun _ s''=>CX outer H s E e s'') (fun e' s''=>CX outer H s E e' s'') s'
theorem qL {sc:Scope} {n:Nat} {x:Str} (h:sc.names.lookup x=some .cell):∃ c,(cellsFrom n sc.names []).lookup x=some c:=by
  have q:=PySem.W.cellsFrom_some sc.names n [] (.inl h);exact Option.isSome_iff_exists.mp q
theorem u7 {CX:vQ} {P:Program} {w:World} {K:PySem.W.Frag} {mg:Str->Option Value} {base:Heap} {N ps:List Str} {qual:Str} {scope:Scope} {f:Addr} {cd:Value} {A:Around} {outer:List Env} {s s1:Shared} {H:Hp} {E:XK} {us:List Value} {vs:List V}
    (S:aL N ps scope) (hd:A.handled=none) (e0:yq P w K mg base A outer s H) (hl:vs.length=ps.length) (r:bn vs us)
    (x:InCallC s s.heap.objs.size (bindL (envOfC qual scope s.heap.objs.size f cd).kindOf (ps.zip us) fun _=>none) (cellsFrom (s.heap.objs.size+1) scope.names []) (bindC (envOfC qual scope s.heap.objs.size f cd).kindOf (ps.zip us) fun _=>none) s1) :
    aC (eW CX P w K mg base N qual scope f cd A outer s H E) [] (il N vs) H s1:=by
  have hpl:ps.length<=N.length:=by have:=congrArg List.length S.pre;rw [List.length_take] at this;omega
  obtain ⟨h1,tk,rfl,hk⟩:=x.done;have noA:∀ b:Addr,b∉(eW CX P w K mg base N qual scope f cd A outer s H E).ex:=fun b z=>absurd (show b∈([]:List Addr) from z) (by simp)
  refine ⟨⟨e0.mod,S.kind,rfl,rfl,Nat.le_refl _,fun y z c h1 h2=>?_,fun y hy=>?_,fun y c _ h=>?_,fun _=>hd,Around.frames_deeper e0.frames,.inr ⟨rfl,rfl⟩,fun b z=>absurd z (noA b),e0.bs,e0.bsz,fun b _ _=>noA b,fun b z=>absurd z (noA b),e0.funs,e0.frf⟩,
    rfl,e0.bare,Un.kept hk,⟨_,x.toInCall.ns,fun i y v h1 h2 h3=>?_⟩,fun y c h=>⟨_,x.cell y c h⟩,e0.hok.fresh (Nat.le_refl _),fun y c h=>?_,fun p hp=>absurd (show p∈([]:List (Addr×Obj)) from hp) (by simp),e0.hok.kept hk,?_⟩
  · exact name_of_addr x.apart (PySem.mem_of_lookup h1) (PySem.mem_of_lookup h2)
  · have hy:scope.names.lookup y=some .cell\/scope.names.lookup y=some .free:=hy;rcases hy with hy | hy
    · exact qL hy
    · exact absurd rfl (S.nofree _ (PySem.mem_of_lookup hy))
  · exact Nat.le_of_lt (x.above y c (PySem.mem_of_lookup h))
  · have hi:i < vs.length:=by
      unfold il at h2;by_cases hi:i < vs.length
      · exact hi
      · rw [List.getElem?_append_right (by simpa using hi)] at h2;rw [List.getElem?_replicate] at h2;split at h2 <;> cases h2
    have ha:vs[i]?=some v:=by
      unfold il at h2;rw [List.getElem?_append_left (by simpa using hi),List.getElem?_map] at h2;cases e:vs[i]? with
      | none=>rw [e] at h2;cases h2
      | some a=>rw [e] at h2;cases h2;rfl
    obtain ⟨u,hu,rv⟩:=r.get ha;have hp:ps[i]?=some y:=by
      rw [<- S.pre,List.getElem?_take_of_lt (by omega)];exact h1
    have ndP:ps.Nodup:=by rw [<- S.pre];exact S.nd.sublist (List.take_sublist _ _)
    refine ⟨u,rv,?_⟩;rcases S.par y (List.mem_of_getElem? hp) with k | k
    · exact .inl ⟨k,nX ndP hp hu k⟩
    · obtain ⟨c,e⟩:=qL (n:=s.heap.objs.size+1) k;refine .inr ⟨.inl k,c,e,?_⟩;have q:=x.cell y c e;rw [nV ndP hp hu (by show scope.names.lookup y≠_;rw [k];decide)] at q;exact q
  · exact e0.hok.fresh (Nat.le_of_lt (x.above y c (PySem.mem_of_lookup h)))
  · unfold il;show _=N.length;rw [List.length_append,List.length_map,List.length_replicate];omega
theorem Af {CX:vQ} {P:Program} {w:World} {K:PySem.W.Frag} {mg:Str->Option Value} {base:Heap} {k:Nat} {f:Addr} {name qual:Str} {params:Arguments} {body:List Stmt} {scope:Scope} {dV kV doc pm cdv ct oc:Value} {an od:Option Addr}
    {osl:Array (Option Value)} {N ps:List Str} {sp:Sp} (lk:K.lookup f=some ⟨oc,od,.func (PySem.W.fnOf name qual params body scope dV kV doc pm an cdv ct),osl⟩) (hcd:PySem.W.codeIn K cdv qual=true) (S:aL N ps scope)
    (len:∀ vs H Q E,sp vs H Q E->vs.length=ps.length)
    (hbody:∀ (A:Around) (outer:List Env) (s:Shared) (H:Hp) (vs:List V) (Q:VK) (E:XK),fq k (A.deeper (envOfC qual scope s.heap.objs.size f cdv))->sp vs H Q E ->
      ∃ t,o8 (eW CX P w K mg base N qual scope f cdv A outer s H E) body t/\t { nx:=fun _ H'=>Q .non H',rt:=Q } (il N vs) H) :
    aW P w K mg base CX (k+1) f (PySem.W.fnOf name qual params body scope dV kV doc pm an cdv ct) ps sp:=by
  refine ⟨len,fun A outer s H args us vs Q E hr e0 hb r hsp=>?_⟩;have hl:=len _ _ _ _ hsp;have KX:K.In s.heap:=e0.mod.kin.keeps fun b o e=>(e0.bs b o e).1
  have lim:s.heap.NoLimit:=e0.mod.nolimit.keeps fun b o e=>(e0.bs b o e).1
  have hkind:∀ y∈ps.zip us,scope.names.lookup y.1=some .local\/(scope.names.lookup y.1=some .cell/\((cellsFrom (s.heap.objs.size+1) scope.names []).lookup y.1).isSome=true):=fun ⟨n,v⟩ hy=>by
    rcases S.par n (List.of_mem_zip hy).1 with q | q
    · exact .inl q
    · exact .inr ⟨q,PySem.W.cellsFrom_some _ _ _ (.inl q)⟩
  refine codeAny_call_function hr.depth (KX _ _ lk) rfl S.co S.gen rfl (PySem.W.codeRec_of KX hcd) (hb _ _ _ _ ?_);refine wpAny_newFunctionEnv_cells S.kind hkind fun env he s1 x=>?_
  subst he;refine ⟨lim.keeps x.toInCall.keep,codeAny_func ?_⟩;obtain ⟨t,ht,hq⟩:=hbody A outer s H vs Q E (hr.deeper _) hsp;have I:aC (eW CX P w K mg base N qual scope f cdv A outer s H E) [] (il N vs) H s1:=u7 S hr.hd e0 hl r x;refine wpAny_mono (ht [] s1 (il N vs) H _ I hq) (fun fl s' hs=>?_) fun e s' hs=>hs
  have fin:∀ {σ':St} {H':Hp} {v:V} {u:Value},aC (eW CX P w K mg base N qual scope f cdv A outer s H E) [] σ' H' s'->bE v u->Q v H'->CE outer P w H s Q u s' :=
    fun {σ' H' v u} J rv q=>⟨v,H',J.os,J.bare,J.base,J.hok,rv,q⟩
  cases fl with
  | ret u =>
    obtain ⟨v,σ',H',J,rv,q⟩:=hs;exact fin J rv q
  | next =>
    obtain ⟨σ',H',J,q⟩:=hs;exact fin (v:=V.non) (u:=Value.none) J rfl q
  | brk =>
    obtain ⟨_,_,_,q⟩:=hs;exact False.elim q
  | cont =>
    obtain ⟨_,_,_,q⟩:=hs;exact False.elim q
section
variable {X:Cx} {x:Str} {p pos:Pos} {e:Expr} {es:List Expr} {t:TA} {id T:String} {r:List V->Hp->VK->Prop}
noncomputable def DH (r:List V->Hp->VK->Prop) (t:TA):TE:=fun σ H Q=>t σ H fun vs H1=>r vs H1 Q
theorem iK (hc:c9 X (.builtin id) r) (hg:Gl X x) (hm:X.mg x=none) (hv:bootBuiltins x=some (.builtin id)) (ha:PA X (e::es) t) (hn:x ≠ "__name__" := by decide) (hdb:(x==("__debug__" : Str))=false:=by decide)
    (he:starEach (e::es) X.env=(false,eval e X.env)::starEach es X.env:=by rfl) (hpl:(backTo pos (starEach es X.env)).any (·.1)=false:=by rfl):PE X (.Call (.Name x p) (e::es) [] pos) (DH r t):=by
  intro pins s σ H Q I h;refine wpAny_Call_Name_kw (jH I hg hm hv ?_ hn hdb);exact PyProof.Rows.callWith_builtin1 (cS (ha pos pins s σ H _ I h) fun us s1 ⟨vs,H1,I1,r1,q1⟩=>hc pins s1 σ H1 vs us Q I1 r1 q1) he hpl
theorem oH (hc:c9 X (.type T) r) (hg:Gl X x) (hm:X.mg x=none) (hv:bootBuiltins x=some (.type T)) (ha:PA X (e::es) t) (hn:x ≠ "__name__" := by decide) (hdb:(x==("__debug__" : Str))=false:=by decide)
    (he:starEach (e::es) X.env=(false,eval e X.env)::starEach es X.env:=by rfl) (hpl:(backTo pos (starEach es X.env)).any (·.1)=false:=by rfl):PE X (.Call (.Name x p) (e::es) [] pos) (DH r t):=by
  intro pins s σ H Q I h;refine wpAny_Call_Name_kw (jH I hg hm hv ?_ hn hdb);exact PyProof.Rows.callWith_type1 (cS (ha pos pins s σ H _ I h) fun us s1 ⟨vs,H1,I1,r1,q1⟩=>hc pins s1 σ H1 vs us Q I1 r1 q1) he hpl
end
end L2
namespace HT
open PySem PyProof.Rows
section
open PySem.SeqAt
open PySem.AutoSeq1 (wpAny_loadPart')
open PySem.MeetsSeq PySem.MeetsSeq2 PySem.MeetsSeq3
end
section
variable {prog:Program} {w:World} {A:Around} {E:Value->Shared->Prop} {s:Shared}
theorem cat_tup {t b:Addr} {vs ws:List Value} {Q:Value->Shared->Prop} (ht:IsTup s.heap t vs.toArray) (hb:IsTup s.heap b ws.toArray) (hv:vs≠[])
    (h1:ws=[]->Q (.ref t) s) (h2:ws≠[]->Q (.ref s.heap.objs.size) { s with heap:=s.heap.push { cls:=.type "tuple",data:=.seq (vs++ws).toArray } })
    (hsz:vs.length+ws.length<=sizeLine):wpAny (model prog w) A (binaryOp .Add (.ref t) (.ref b)) Q E s:=by
  obtain ⟨⟨cls,dd,data,sl⟩,ho,hc,n,hd⟩:=id ht;obtain ⟨⟨cls2,dd2,data2,sl2⟩,ho2,hc2,n2,hd2⟩:=id hb;simp only at hc hd hc2 hd2;subst hc hd hc2 hd2;have e:vs.toArray++ws.toArray=(vs++ws).toArray:=by simp
  by_cases hw:ws=[]
  · exact concat_meets ⟨_,ho,rfl⟩ ⟨_,ho2,rfl⟩ noFill_tuple_add seq_tuple_add PySem.F.slot_tuple_add PySem.F.entry_tuple_add (PySem.F.args_tuple_add_2 _ _)
      (tuple_addW1 t b vs.toArray ws.toArray n n2 dd dd2 sl sl2 (by simpa using hv) (by simp [hw])) ⟨ho,ho2,h1 hw⟩
  · refine concat_meets ⟨_,ho,rfl⟩ ⟨_,ho2,rfl⟩ noFill_tuple_add seq_tuple_add PySem.F.slot_tuple_add PySem.F.entry_tuple_add (PySem.F.args_tuple_add_2 _ _)
      (tuple_addW2 t b vs.toArray ws.toArray n n2 dd dd2 sl sl2 (by simpa using hv) (by simpa using hw) (by rw [List.size_toArray,List.size_toArray];exact hsz)) ⟨ho,ho2,?_⟩
    rw [e];exact h2 hw
noncomputable def sIx (n d:Nat):Option Int->Nat
  | none=>d
  | some v=>if v < 0 then (v+(n:Int)).toNat else min v.toNat n
theorem rB (n d:Nat):sIx n d none=d:=rfl
theorem uf (n d k:Nat):sIx n d (some (k:Int))=min k n:=by
  show (if (k:Int) < 0 then ((k:Int)+(n:Int)).toNat else min (k:Int).toNat n)=min k n;rw [if_neg (by omega),Int.toNat_natCast]
theorem BG (n d:Nat) (hd:d<=n) (o:Option Int):sIx n d o<=n:=by
  cases o with
  | none=>exact hd
  | some v =>
    show (if v < 0 then (v+(n:Int)).toNat else min v.toNat n)<=n;by_cases hv:v < 0
    · rw [if_pos hv];omega
    · rw [if_neg hv];exact Nat.min_le_right _ _
theorem tO (v:Int) (n d:Nat):(if v < 0 then max (v+(n:Int)) 0 else min v (n:Int))=((sIx n d (some v):Nat):Int):=by
  show (if v < 0 then max (v+(n:Int)) 0 else min v (n:Int))=(((if v < 0 then (v+(n:Int)).toNat else min v.toNat n):Nat):Int)
  by_cases hv:v < 0
  · simp only [if_pos hv];omega
  · simp only [if_neg hv];omega
theorem sk (lo hi:Option Int) (n:Nat):Builtin.Slice.sliceAdjust lo hi 1 (n:Int)=(((sIx n 0 lo:Nat):Int),((sIx n n hi:Nat):Int)):=by
  have h1:¬ ((1:Int) < 0):=by omega
  unfold Builtin.Slice.sliceAdjust;simp only [h1,if_false];refine Prod.ext ?_ ?_
  · cases lo with
    | none=>rfl
    | some v=>exact tO v n 0
  · cases hi with
    | none=>rfl
    | some v=>exact tO v n n
theorem sW (i j:Nat):Builtin.Slice.slicePlaces (i:Int) (j:Int) 1=j-i:=by
  unfold Builtin.Slice.slicePlaces;have h1:(1:Int) > 0:=by omega
  simp only [h1,if_true,Int.ediv_one];split <;> omega
theorem ni {v:Value} {o:Option Int} {Q:Option Int->Shared->Prop} (p:IsPart v o) (h:Q o s):wpAny (model prog w) A (Builtin.Slice.slicePartIndex v) Q E s:=by
  cases p with
  | none=>exact slicePart_none h
  | int i t=>exact slicePart_int h
theorem sliceApplied_gen {sl:Addr} {vl vu:Value} {lo hi:Option Int} {n:Nat} {Q:Int×Int×Nat->Shared->Prop} (hs:s.heap.IsSliceOf sl vl vu .none) (pl:IsPart vl lo) (pu:IsPart vu hi)
    (h:Q (((sIx n 0 lo:Nat):Int),1,sIx n n hi-sIx n 0 lo) s):wpAny (model prog w) A (Builtin.Slice.sliceApplied (.ref sl) (pure (n:Int))) Q E s:=by
  obtain ⟨os,hos,hcs,hds⟩:=id hs;unfold Builtin.Slice.sliceApplied Builtin.Slice.sliceFields;refine wpAny_bind (wpAny_bind (wpAny_field hos hds (x:=vl) rfl (wpAny_bind (wpAny_field hos hds (x:=vu) rfl (wpAny_bind (wpAny_field hos hds (x:=.none) rfl (wpAny_pure ?_)))))));refine wpAny_bind (slicePart_none ?_);show wpAny _ _ (if ((1:Int)==0)=true then _ else _) _ _ s;rw [if_neg (by decide)];refine wpAny_bind (ni pl (wpAny_bind (ni pu (wpAny_bind (wpAny_pure ?_)))));show wpAny _ _ (match Builtin.Slice.sliceAdjust lo hi 1 (n:Int) with | (lo,hi)=>pure (lo,(1:Int),Builtin.Slice.slicePlaces lo hi 1)) _ _ s;rw [sk lo hi n];show wpAny _ _ (pure (((sIx n 0 lo:Nat):Int),(1:Int),Builtin.Slice.slicePlaces ((sIx n 0 lo:Nat):Int) ((sIx n n hi:Nat):Int) 1)) _ _ s;rw [sW];exact wpAny_pure h
theorem xq (xs:Array Value) (i k:Nat):((List.range k).filterMap fun (m:Nat)=>xs[((i:Int)+(m:Int)*1).toNat]?).toArray=((xs.toList.drop i).take k).toArray:=by
  have e:(fun (m:Nat)=>xs[((i:Int)+(m:Int)*1).toNat]?)=fun m=>xs[i+m]?:=by
    funext m;have:((i:Int)+(m:Int)*1).toNat=i+m:=by omega
    rw [this]
  rw [e];have:=pick_run xs i k;rw [List.filterMap_map] at this;have e2:((fun x=>xs[x]?)∘fun x=>i+x)=fun m=>xs[i+m]?:=rfl
  rw [e2] at this;rw [this]
theorem getItem_tuple_cut {t sl:Addr} {items:Array Value} {vl vu:Value} {lo hi:Option Int} {Q:Value->Shared->Prop} (ht:IsTup s.heap t items) (hs:s.heap.IsSliceOf sl vl vu .none) (pl:IsPart vl lo) (pu:IsPart vu hi)
    (hw:¬ (sIx items.size 0 lo=0/\sIx items.size items.size hi=items.size))
    (h:Q (.ref s.heap.objs.size) { s with heap:=s.heap.push { cls:=.type "tuple",data:=.seq ((items.toList.drop (sIx items.size 0 lo)).take (sIx items.size items.size hi-sIx items.size 0 lo)).toArray } })
    (hsz:items.size<=sizeLine):wpAny (model prog w) A (getItem (.ref t) (.ref sl)) Q E s:=by
  have htake:sizeOk (.seq ((items.toList.drop (sIx items.size 0 lo)).take (sIx items.size items.size hi-sIx items.size 0 lo)).toArray):=by
    show ((items.toList.drop (sIx items.size 0 lo)).take (sIx items.size items.size hi-sIx items.size 0 lo)).toArray.size<=sizeLine;rw [List.size_toArray,List.length_take,List.length_drop,Array.length_toList];omega
  have hj:sIx items.size items.size hi<=items.size:=BG _ _ (Nat.le_refl _) hi;obtain ⟨os,hos,hcs,hds⟩:=id hs;have hTs:s.TypeIs (.ref sl) "slice" := ⟨os,hos,hcs⟩
  unfold getItem
  try with_reducible refine wpAny_holding ?_
  first | refine wpAny_bind (wpAny_pure ?_) | skip
  refine wpAny_bind (wpAny_sequenceKey ht.typeIs (by decide) ?_);refine wpAny_bind (wpAny_callSpecial?_slot (name:=Str.ofString "__getitem__") ht.typeIs PyProof.Rows.slot_tuple_getitem
    (wpAny_call_entry PyProof.Rows.slot_tuple_getitem ht.typeIs entry_tuple_getitem ?_ (args_tuple_getitem _ _)))
  show wpAny _ _ (Builtin.Tuple.tupleItemsOf (.ref t)>>=_) _ _ s;refine wpAny_bind (tupleItemsOf_ ht ?_);refine wpAny_bind (wpAny_typeOf hTs ?_);rw [if_pos (by decide)];refine wpAny_bind (sliceApplied_gen hs pl pu ?_);have hno:¬ ((((sIx items.size 0 lo:Nat):Int)==0&&(1:Int)==1&&(sIx items.size items.size hi-sIx items.size 0 lo)==items.size)=true):=by
    intro q;rw [Bool.and_eq_true,Bool.and_eq_true] at q;have q1:((sIx items.size 0 lo:Nat):Int)=0:=eq_of_beq q.1.1;have q2:sIx items.size items.size hi-sIx items.size 0 lo=items.size:=eq_of_beq q.2;exact hw ⟨by omega,by omega⟩
  show wpAny _ _ (if (((sIx items.size 0 lo:Nat):Int)==0&&(1:Int)==1&&(sIx items.size items.size hi-sIx items.size 0 lo)==items.size)=true then _ else _) _ _ s;rw [if_neg hno,xq]
  first
    | exact wpAny_bind (m:=Builtin.Tuple.tupleExact _) (wpAny_newObj_type (wpAny_pure ⟨_,rfl,wpAny_pure h⟩) htake)
    | exact wpAny_bind (m:=Builtin.Tuple.tupleExact _) (wpAny_newObj_type (wpAny_bind (wpAny_pure (wpAny_pure ⟨_,rfl,wpAny_pure h⟩))) htake)
    | exact wpAny_bind (wpAny_bind (m:=Builtin.Tuple.tupleExact _) (wpAny_newObj_type (wpAny_pure (wpAny_pure ⟨_,rfl,wpAny_pure h⟩)) htake))
    | exact wpAny_bind (wpAny_bind (m:=Builtin.Tuple.tupleExact _) (wpAny_newObj_type (wpAny_pure ⟨_,rfl,wpAny_pure h⟩) htake))
end
end HT
namespace L2
open PySem PySem.Spec PyProof.Rows
noncomputable abbrev TO:=St->Hp->(Option Int->Hp->Prop)->Prop
noncomputable def PO (X:Cx) (e:Option Expr) (t:TO):Prop :=
  ∀ (pins:List (Addr×Obj)) (s:Shared) (σ:St) (H:Hp) (Q:Option Int->Hp->Prop),aC X pins σ H s->t σ H Q ->
    wpAny (model X.prog X.w) X.A (evalPart e X.env) (fun u s'=>∃ o H',aC X pins σ H' s'/\IsPart u o/\Q o H') X.xe s
noncomputable def zV:TO:=fun _ H Q=>Q none H
noncomputable def Di (t:TE):TO:=fun σ H Q=>t σ H fun x H1=>∃ i,x=.int i/\Q (some i) H1
theorem eO {ns:List Int}:∀ {us:List Value},bn (ns.map V.int) us->IntsAre us ns:=by
  induction ns with
  | nil=>intro us r;rw [List.map_nil] at r;cases r;exact .nil
  | cons n ns ih =>
    intro us r;rw [List.map_cons] at r;cases r with
    | cons r1 r2 =>
      obtain ⟨t,e⟩:=r1;subst e;exact .cons n t (ih r2)
section
variable {X:Cx} {e:Expr} {te:TE} {lo hi:Option Expr} {tl th:TO} {pos p2:Pos}
theorem zy:PO X none zV:=by
  intro pins s σ H Q I h;rw [evalPart_none];exact wpAny_pure ⟨none,H,I,.none,h⟩
theorem zA (h:PE X e te):PO X (some e) (Di te):=by
  intro pins s σ H Q I hw;rw [evalPart_some];refine cS (h pins s σ H _ I hw) fun u s1 ⟨x,H1,I1,r1,q1⟩=>?_
  obtain ⟨i,rfl,q⟩:=q1;obtain ⟨t,rfl⟩:=r1;exact ⟨some i,H1,I1,.int i t,q⟩
noncomputable def yy (X:Cx) (r:V->Option Int->Option Int->Hp->VK->Prop):Prop :=
  ∀ (pins:List (Addr×Obj)) (s:Shared) (σ:St) (H:Hp) (x:V) (v vl vu:Value) (lo hi:Option Int) (sl:Addr) (Q:VK),aC X pins σ H s->bE x v->s.heap.IsSliceOf sl vl vu .none->IsPart vl lo->IsPart vu hi->r x lo hi H Q ->
    ∃ T id,typeLookup (.type T) "__getitem__" = pure (some (.builtin id))/\s.TypeIs v T/\wpAny (model X.prog X.w) X.A (getItem v (.ref sl)) (EP X pins σ Q) X.xe s
theorem yy.or {r r':V->Option Int->Option Int->Hp->VK->Prop} (h:yy X r) (h':yy X r'):yy X (fun x lo hi H Q=>r x lo hi H Q\/r' x lo hi H Q):=by
  intro pins s σ H x v vl vu lo hi sl Q I rx hs pl pu q;rcases q with q | q
  · exact h pins s σ H x v vl vu lo hi sl Q I rx hs pl pu q
  · exact h' pins s σ H x v vl vu lo hi sl Q I rx hs pl pu q
noncomputable def EK (r:V->Option Int->Option Int->Hp->VK->Prop) (te:TE) (tl th:TO):TE:=fun σ H Q=>te σ H fun x H1=>tl σ H1 fun l H2=>th σ H2 fun u H3=>r x l u H3 Q
theorem xo {r:V->Option Int->Option Int->Hp->VK->Prop} (hr:yy X r) (he:PE X e te) (hl:PO X lo tl) (hu:PO X hi th):PE X (.Subscript e (.Slice lo hi none p2) pos) (EK r te tl th):=by
  intro pins s σ H Q I h;refine Subscript_ (cS (he pins s σ H _ I h) fun v s1 ⟨x,H1,I1,r1,q1⟩=>?_);refine wpAny_Slice (cS (hl pins s1 σ H1 _ I1 q1) fun vl s2 ⟨l,H2,I2,pl,q2⟩=>cS (hu pins s2 σ H2 _ I2 q2) fun vu s3 ⟨u,H3,I3,pu,q3⟩=>?_);rw [evalPart_none];refine wpAny_pure ?_;have I4:aC X pins σ H3 { s3 with heap:=s3.heap.push { cls:=.type "slice",data:=.fields #[vl,vu,.none] } }:=I3.kept (t':=s3.toks) fun b ob q=>Heap.get?_push_of_some _ q
  obtain ⟨T,id,hT,ht,hg⟩:=hr pins { s3 with heap:=s3.heap.push { cls:=.type "slice",data:=.fields #[vl,vu,.none] } } σ H3 x v vl vu l u s3.heap.objs.size Q I4 r1 (Heap.IsSliceOf.new ..) pl pu q3;show wpAny (model X.prog X.w) X.A (subscriptTail e (.Slice lo hi none p2) v (.ref s3.heap.objs.size)) (EP X pins σ Q) X.xe { s3 with heap:=s3.heap.push { cls:=.type "slice",data:=.fields #[vl,vu,.none] } };exact tail_any (ops:=[.ref s3.heap.objs.size,v]) ht hT hg (by with_unfolding_all rfl)
noncomputable def qP (xs:List V) (lo hi:Option Int):List V:=(xs.drop (HT.sIx xs.length 0 lo)).take (HT.sIx xs.length xs.length hi-HT.sIx xs.length 0 lo)
theorem k6 (xs:List V) (lo hi:Option Int):(qP xs lo hi).length<=xs.length:=by
  unfold qP;rw [List.length_take,List.length_drop];omega
noncomputable def Ed (K:PySem.W.Frag):V->Option Int->Option Int->Hp->VK->Prop:=fun x lo hi H Q=>∃ a xs,x=.ref a/\gm K H a xs /\
  ¬ (HT.sIx xs.length 0 lo=0/\HT.sIx xs.length xs.length hi=xs.length)/\∀ p,H p=none->Q (.ref p) (du H p (.tup (qP xs lo hi)))
theorem BJ:yy X (Ed X.K):=by
  intro pins s σ H x v vl vu lo hi sl Q I rx hs pl pu h;obtain ⟨a,xs,rfl,hx,hw,q⟩:=h;cases rx;obtain ⟨its,r,ht,hz⟩:=I.tuple hx;have hlen:its.toArray.size=xs.length:=by rw [List.size_toArray];exact r.length.symm
  refine ⟨"tuple",_,PyProof.Rows.slot_tuple_getitem.lookup,ht.typeIs,?_⟩;refine HT.getItem_tuple_cut ht hs pl pu (by rw [hlen];exact hw) ?_ (by rw [hlen];exact hz);rw [hlen];refine ⟨.ref s.heap.objs.size,_,I.laid (t':=s.toks) (o:=.tup (qP xs lo hi)) (fun b ob q=>Heap.get?_push_of_some _ q) (Nat.le_refl _) ?_,rfl,q _ (I.hok.fresh (Nat.le_refl _))⟩;exact ⟨Nat.le_trans (k6 xs lo hi) hz,_,(r.drop (HT.sIx xs.length 0 lo)).take (HT.sIx xs.length xs.length hi-HT.sIx xs.length 0 lo),e7.new _ _⟩
noncomputable def Aq (K:PySem.W.Frag):R2:=fun x y H Q=>∃ a b xs ys,x=.ref a/\y=.ref b/\gm K H a xs/\gm K H b ys/\xs≠[]/\xs.length+ys.length<=sizeLine /\
  (ys=[]->Q (.ref a) H)/\(ys≠[]->∀ p,H p=none->Q (.ref p) (du H p (.tup (xs++ys))))
theorem bn.nil_iff {xs:List V} {us:List Value} (r:bn xs us):us=[]<->xs=[]:=by
  cases r with
  | nil=>simp
  | cons _ _=>simp
theorem zn:gS X (binaryOp .Add) (Aq X.K):=by
  intro pins s σ H x y v u Q I rx ry h;obtain ⟨a,b,xs,ys,rfl,rfl,ha,hb,hx,hz,q1,q2⟩:=h;cases rx;cases ry;obtain ⟨its,r1,p1,_⟩:=I.tuple ha;obtain ⟨its2,r2,p2,_⟩:=I.tuple hb;refine HT.cat_tup p1 p2 (fun z=>hx (r1.nil_iff.mp z)) (fun z=>⟨.ref a,H,I,rfl,q1 (r2.nil_iff.mp z)⟩) (fun z=>?_) (by rw [<- r1.length,<- r2.length];exact hz);refine ⟨.ref s.heap.objs.size,_,I.laid (t':=s.toks) (o:=.tup (xs++ys)) (fun b ob q=>Heap.get?_push_of_some _ q) (Nat.le_refl _) ?_,rfl,q2 (fun w=>z (r2.nil_iff.mpr w)) _ (I.hok.fresh (Nat.le_refl _))⟩;exact ⟨by rw [List.length_append];exact hz,_,r1.append r2,e7.new _ _⟩
end
noncomputable def Ai (n:Nat) (i:Int):Option Nat:=if 0<=i then (if i < n then some i.toNat else none) else if -(n:Int)<=i then some (i+n).toNat else none
noncomputable def atI {α:Type} (xs:List α) (i:Int):Option α:=(Ai xs.length i).bind fun j=>xs[j]?
theorem ze {n:Nat} {i:Int} {j:Nat} (h:Ai n i=some j):seqIndex? i n=some j/\j < n/\-(n:Int)<=i/\i < n:=by
  unfold Ai at h;by_cases h0:0<=i
  · rw [if_pos h0] at h;by_cases h1:i < n
    · rw [if_pos h1] at h;have e:i.toNat=j:=Option.some.inj h;exact ⟨by rw [seqIndex_of h0 h1,e],by omega,by omega,h1⟩
    · rw [if_neg h1] at h;cases h
  · rw [if_neg h0] at h;by_cases h1:-(n:Int)<=i
    · rw [if_pos h1] at h;have e:(i+n).toNat=j:=Option.some.inj h;exact ⟨by rw [seqIndex_neg (by omega) h1,e],by omega,h1,by omega⟩
    · rw [if_neg h1] at h;cases h
theorem pD {α:Type} {xs:List α} {i:Int} {v:α} (h:atI xs i=some v):∃ j,seqIndex? i xs.length=some j/\xs[j]?=some v/\j < xs.length/\-(xs.length:Int)<=i/\i < xs.length:=by
  unfold atI at h;cases e:Ai xs.length i with
  | none=>rw [e] at h;cases h
  | some j =>
    rw [e] at h;obtain ⟨h1,h2,h3,h4⟩:=ze e;exact ⟨j,h1,h,h2,h3,h4⟩
theorem pE {α:Type} {xs:List α} {j:Nat} {v:α} (h:xs[j]?=some v):atI xs (j:Int)=some v:=by
  have hj:j < xs.length:=(List.getElem?_eq_some_iff.mp h).1;have e:Ai xs.length (j:Int)=some j:=by
    unfold Ai;rw [if_pos (by omega),if_pos (by omega)];simp
  unfold atI;rw [e];exact h
noncomputable def tL (b:Expr):Prop:=∀ o i,subscripted b false o i=operate [o,i] (getItem o i)
noncomputable def yt (X:Cx) (r:R2):Prop :=
  ∀ (value slice:Expr) (pins:List (Addr×Obj)) (s:Shared) (σ:St) (H:Hp) (x y:V) (v u:Value) (Q:VK),aC X pins σ H s->bE x v->bE y u->r x y H Q ->
    subscripted slice false v u=operate [v,u] (getItem v u)->wpAny (model X.prog X.w) X.A (subscriptTail value slice v u) (EP X pins σ Q) X.xe s
noncomputable def Et (X:Cx) (id:String) (r:V->List V->Hp->VK->Prop):Prop :=
  ∀ (pins:List (Addr×Obj)) (s:Shared) (σ:St) (H:Hp) (x:V) (xs:List V) (v:Value) (us:List Value) (Q:VK),aC X pins σ H s->bE x v->bn xs us->r x xs H Q ->
    wpAny (model X.prog X.w) X.A (call (.builtin id) (v::us)) (EP X pins σ Q) X.xe s
section
variable {X:Cx} {a b:Expr} {ta tb:TE} {pos:Pos}
theorem yt.or {r r':R2} (h:yt X r) (h':yt X r'):yt X (fun x y H Q=>r x y H Q\/r' x y H Q):=by
  intro value slice pins s σ H x y v u Q I rx ry q hs;rcases q with q | q
  · exact h value slice pins s σ H x y v u Q I rx ry q hs
  · exact h' value slice pins s σ H x y v u Q I rx ry q hs
theorem CD {r:R2} (hr:yt X r) (ha:PE X a ta) (hb:PE X b tb) (hs:tL b):PE X (.Subscript a b pos) (Dh r ta tb):=by
  intro pins s σ H Q I h;exact Subscript_ (AJ ha hb I h fun v u s2 x y H2 I2 rx ry q=>hr a b pins s2 σ H2 x y v u Q I2 rx ry q (hs _ _))
noncomputable def CP (K:PySem.W.Frag):R2:=fun x y H Q=>∃ p xs i v,x=.ref p/\y=.int i/\lD K H p xs/\atI xs i=some v/\Q v H
noncomputable def CS (K:PySem.W.Frag):R2:=fun x y H Q=>∃ p xs i v,x=.ref p/\y=.int i/\gm K H p xs/\atI xs i=some v/\Q v H
noncomputable def CQ:R2:=fun x y H Q=>∃ z i c,x=.str z/\y=.int i/\z.length<=sizeLine/\atI z.cps.toList i=some c/\Q (.str ⟨#[c]⟩) H
theorem zg:yt X (CP X.K):=by
  intro value slice pins s σ H x y v u Q I rx ry h hs;obtain ⟨p,xs,i,z,rfl,rfl,hq,he,q⟩:=h;cases rx;obtain ⟨t,rfl⟩:=ry;obtain ⟨its,r,pl,hz⟩:=I.list hq;obtain ⟨j,h1,h2,h3,h4,h5⟩:=pD he;obtain ⟨w,ew,rw'⟩:=r.get h2;have hl:=r.length;have hn:=mQ;have fin:EP X pins σ Q w s:=⟨z,H,I,rw',q⟩
  by_cases h0:0<=i
  · have hj:i.toNat=j:=by
      rw [seqIndex_of h0 h5] at h1;exact Option.some.inj h1
    exact item_listR pl.isList h0 (by omega) (by rw [hj];simpa using ew) fin hs
  · have hj:(i+(its.toArray.size:Int)).toNat=j:=by
      rw [seqIndex_neg (by omega) h4] at h1;rw [List.size_toArray,<- hl];exact Option.some.inj h1
    exact subscriptTail_builtinR (x:=w) pl.isList.typeIs slot_list_getitem.lookup
      (wpAny_getItem_list_neg (Q:=fun r s'=>r=w/\EP X pins σ Q r s') pl.isList (by omega) (by rw [List.size_toArray] <;> omega) (by omega) (by rw [hj];simpa using ew) ⟨rfl,fin⟩) hs
theorem Bc:yt X (CS X.K):=by
  intro value slice pins s σ H x y v u Q I rx ry h hs;obtain ⟨p,xs,i,z,rfl,rfl,hq,he,q⟩:=h;cases rx;obtain ⟨t,rfl⟩:=ry;obtain ⟨its,r,pl,hz⟩:=I.tuple hq;obtain ⟨j,h1,h2,h3,h4,h5⟩:=pD he;obtain ⟨w,ew,rw'⟩:=r.get h2;have hl:=r.length;have hn:=mQ;have fin:EP X pins σ Q w s:=⟨z,H,I,rw',q⟩
  exact subscriptTail_builtinR (x:=w) pl.typeIs slot_tuple_getitem.lookup
    (getItem_tuple (j:=j) (Q:=fun r s'=>r=w/\EP X pins σ Q r s') pl (by omega) (by omega) (by rw [List.size_toArray,<- hl];exact h1) (by simpa using ew) ⟨rfl,fin⟩) hs
theorem Bb:yt X CQ:=by
  intro value slice pins s σ H x y v u Q I rx ry h hs;obtain ⟨z,i,c,rfl,rfl,hz,he,q⟩:=h;obtain ⟨t,rfl⟩:=rx;obtain ⟨t',rfl⟩:=ry;obtain ⟨j,h1,h2,h3,h4,h5⟩:=pD he;have hl:z.cps.toList.length=z.length:=by simp [Str.length]
  rw [hl] at h1 h4 h5;have hn:=mQ;exact tail_any (typeIs_str s z t) slot_str_getitem.lookup (getItem_str (c:=c) (by
    have e1:decide (i < -(2 ^ 63:Int))=false:=decide_eq_false (by omega);have e2:decide (i>=2 ^ 63)=false:=decide_eq_false (by omega);rw [e1,e2,Bool.or_false]) (by rw [h1];simpa using h2) ⟨.str ⟨#[c]⟩,H,I.tok _,⟨_,rfl⟩,q⟩) hs
theorem p8 (lo hi:Option Int) (n:Nat):(sliceBounds lo hi none n).1=((HT.sIx n 0 lo:Nat):Int)/\(sliceBounds lo hi none n).2.1=((HT.sIx n n hi:Nat):Int)/\(sliceBounds lo hi none n).2.2=1:=by
  refine ⟨?_,?_,rfl⟩
  · cases lo with
    | none=>simp [sliceBounds,HT.sIx]
    | some i =>
      simp only [sliceBounds,HT.sIx,Option.getD_none,show (1:Int) > 0 by decide,if_true];by_cases h:i < 0
      · simp only [h,if_true] <;> omega
      · simp only [h,if_false] <;> omega
  · cases hi with
    | none=>simp [sliceBounds,HT.sIx]
    | some i =>
      simp only [sliceBounds,HT.sIx,Option.getD_none,show (1:Int) > 0 by decide,if_true];by_cases h:i < 0
      · simp only [h,if_true] <;> omega
      · simp only [h,if_false] <;> omega
theorem nM (its:List Value) (lo hi:Option Int):slicePick its.toArray lo hi none=((its.drop (HT.sIx its.length 0 lo)).take (HT.sIx its.length its.length hi-HT.sIx its.length 0 lo)).toArray:=by
  obtain ⟨h1,h2,h3⟩:=p8 lo hi its.toArray.size;unfold slicePick;rw [h1,h2,h3];simp only [sliceRange_one,pick_run,List.size_toArray] <;> rfl
noncomputable def Ec (K:PySem.W.Frag):V->Option Int->Option Int->Hp->VK->Prop:=fun x lo hi H Q=>∃ a xs,x=.ref a/\lD K H a xs/\∀ p,H p=none->Q (.ref p) (du H p (.lst (qP xs lo hi)))
theorem zO:yy X (Ec X.K):=by
  intro pins s σ H x v vl vu lo hi sl Q I rx hs pl pu h;obtain ⟨a,xs,rfl,hx,q⟩:=h;cases rx;obtain ⟨its,r,ht,hz⟩:=I.list hx;have hlen:=r.length;refine ⟨"list",_,slot_list_getitem.lookup,ht.isList.typeIs,?_⟩;refine wpAny_getItem_list_slice ht.isList hs pl pu .none (by simp) ?_ (by rw [List.size_toArray] <;> omega);rw [nM,<- hlen];refine ⟨.ref s.heap.objs.size,_,I.laid (t':=s.toks) (o:=.lst (qP xs lo hi)) (fun b ob q=>Heap.get?_push_of_some _ q) (Nat.le_refl _) ?_,rfl,q _ (I.hok.fresh (Nat.le_refl _))⟩;exact ⟨Nat.le_trans (k6 xs lo hi) hz,_,0,(r.drop (HT.sIx xs.length 0 lo)).take (HT.sIx xs.length xs.length hi-HT.sIx xs.length 0 lo),Heap.get?_push_size _ rfl⟩
theorem pI:c9 X (.builtin "len") (fun xs H Q=>∃ p ys,xs=[.ref p]/\(lD X.K H p ys\/gm X.K H p ys)/\Q (.int ys.length) H):=by
  intro pins s σ H xs us Q I r h;obtain ⟨p,ys,rfl,hq,q⟩:=h;obtain ⟨u,rfl,rx⟩:=gh r;cases rx;have hn:=mQ;rcases hq with hq | hq
  · obtain ⟨its,r',pl,hz⟩:=I.list hq;have hlen:=r'.length;exact Calls.call_len_list pl.isList (by simp only [List.size_toArray] <;> omega) ⟨.int ys.length,H,I.tok _,⟨s.toks+1,by rw [List.size_toArray,hlen]⟩,q⟩
  · obtain ⟨its,r',pl,hz⟩:=I.tuple hq;have hlen:=r'.length;exact len_tuple pl (by simp only [List.size_toArray] <;> omega) ⟨.int ys.length,H,I.tok _,⟨s.toks+1,by rw [List.size_toArray,hlen]⟩,q⟩
theorem pJ:c9 X (.builtin "len") (fun xs H Q=>∃ z,xs=[.str z]/\z.length<=sizeLine/\Q (.int z.length) H):=by
  intro pins s σ H xs us Q I r h;obtain ⟨z,rfl,hz,q⟩:=h;obtain ⟨u,rfl,t,rfl⟩:=gh r;have hn:=mQ;exact len_str (by omega) ⟨.int z.length,H,I.tok _,⟨_,rfl⟩,q⟩
theorem c9.or {f:Value} {r r':List V->Hp->VK->Prop} (h:c9 X f r) (h':c9 X f r'):c9 X f (fun xs H Q=>r xs H Q\/r' xs H Q):=by
  intro pins s σ H xs us Q I rs q;rcases q with q | q
  · exact h pins s σ H xs us Q I rs q
  · exact h' pins s σ H xs us Q I rs q
theorem pK:c9 X (.type "list") (fun xs H Q=>∃ p ys,xs=[.ref p]/\(lD X.K H p ys\/gm X.K H p ys)/\∀ l,H l=none->Q (.ref l) (du H l (.lst ys))):=by
  intro pins s σ H xs us Q I r h;obtain ⟨p,ys,rfl,hq,q⟩:=h;obtain ⟨u,rfl,rx⟩:=gh r;cases rx;have fin:∀ (its:List Value),bn ys its->ys.length<=sizeLine->∀ (h':Heap) (c':Nat),(∀ b o',s.heap.get? b=some o'->h'.get? b=some o') ->
      h'.get? s.heap.objs.size=some { cls:=.type "list",dict:=none,data:=.seq its.toArray c',slots:=#[] }->EP X pins σ Q (.ref s.heap.objs.size) { s with heap:=h' }:=fun its r' hz h' c' kp e =>
    ⟨.ref s.heap.objs.size,_,I.laid (t':=s.toks) kp (Nat.le_refl _) (show bV X.prog X.w _ h' _ (.lst ys) from ⟨hz,its,c',r',e⟩),rfl,q _ (I.hok.fresh (Nat.le_refl _))⟩
  rcases hq with hq | hq
  · obtain ⟨its,r',pl,hz⟩:=I.list hq;have hlen:=r'.length;obtain ⟨o,ho,hc,n,hd⟩:=pl.isList;exact call_list_seq p (.inl rfl) ho hc hd (fun h' c' kp e=>fin its r' hz h' c' kp e) (by simp only [List.size_toArray] <;> omega)
  · obtain ⟨its,r',pl,hz⟩:=I.tuple hq;have hlen:=r'.length;obtain ⟨o,ho,hc,n,hd⟩:=pl;exact call_list_seq p (.inr rfl) ho hc hd (fun h' c' kp e=>fin its r' hz h' c' kp e) (by simp only [List.size_toArray] <;> omega)
theorem nE:c9 X (.type "tuple") (fun xs H Q=>∃ p ys,xs=[.ref p]/\((lD X.K H p ys/\∀ l,H l=none->Q (.ref l) (du H l (.tup ys)))\/(gm X.K H p ys/\Q (.ref p) H))):=by
  intro pins s σ H xs us Q I r h;obtain ⟨p,ys,rfl,h⟩:=h;obtain ⟨u,rfl,rx⟩:=gh r;cases rx;rcases h with ⟨hq,q⟩ | ⟨hq,q⟩
  · obtain ⟨its,r',pl,hz⟩:=I.list hq;have hlen:=r'.length;refine call_tuple_list pl.isList (fun h' kp=>?_) (by simp only [List.size_toArray] <;> omega);have I1:aC X pins σ H { s with heap:=h' }:=I.kept (t':=s.toks) kp;have I2:aC X pins σ (du H h'.objs.size (.tup ys)) { s with heap:=h'.push { cls:=.type "tuple",data:=.seq its.toArray } } :=
      I1.laid (t':=s.toks) (fun b o e=>Heap.get?_push_of_some _ e) (Nat.le_refl _) (show bV X.prog X.w _ _ _ (.tup ys) from ⟨hz,its,r',e7.new _ _⟩)
    exact ⟨.ref h'.objs.size,_,I2,rfl,q _ (I1.hok.fresh (Nat.le_refl _))⟩
  · obtain ⟨its,r',pl,hz⟩:=I.tuple hq;exact call_tuple_same pl ⟨.ref p,H,I,rfl,q⟩
noncomputable def EB (K:PySem.W.Frag) (T:String) (x:V) (H:Hp):Prop:=match x with
  | .str _=>T = "str"
  | .int _=>T = "int"
  | .ref p=>(T = "list" /\ ∃ xs,lD K H p xs)\/(T = "tuple" /\ ((∃ o,K.lookup p=some o/\o.cls=.type "tuple" /\ o.dict=none)\/∃ xs,H p=some (.tup xs))) \/
      (T = "dict" /\ ((∃ kvs,H p=some (.dK kvs))\/∃ kvs,H p=some (.dT kvs)))\/(T = "set" /\ ∃ S n,H p=some (.set S n))
  | _=>False
theorem BX {pins:List (Addr×Obj)} {σ:St} {H:Hp} {s:Shared} {T:String} {x:V} {v:Value} (I:aC X pins σ H s) (r:bE x v) (ty:EB X.K T x H) :
    s.TypeIs v T/\∀ a,v=.ref a->∃ ob,s.heap.get? a=some ob/\ob.dict=none:=by
  cases x with
  | str z =>
    obtain ⟨t,rfl⟩:=r;cases (show T = "str" from ty);exact ⟨typeIs_str s z t,fun _ e=>nomatch e⟩
  | int i =>
    obtain ⟨t,rfl⟩:=r;cases (show T = "int" from ty);exact ⟨typeIs_int s i t,fun _ e=>nomatch e⟩
  | ref p =>
    cases r;rcases ty with ⟨rfl,xs,hq⟩ | ⟨rfl,⟨o,hk,hc,hd⟩ | ⟨xs,hk⟩⟩ | ⟨rfl,hk⟩ | ⟨rfl,S,n,hk⟩
    · obtain ⟨its,_,pl,_⟩:=I.list hq;refine ⟨pl.isList.typeIs,fun a e=>?_⟩;cases e;obtain ⟨o,n,e,c,hd,_⟩:=pl;exact ⟨o,e,hd⟩
    · refine ⟨⟨o,I.kIn p o hk,hc⟩,fun a e=>?_⟩;cases e;exact ⟨o,I.kIn _ o hk,hd⟩
    · obtain ⟨_,_,_,o,e1,e2,_,e3⟩:=(show bV X.prog X.w H s.heap p (.tup xs) from I.hok p _ hk)
      refine ⟨⟨o,e1,e2⟩,fun a e=>?_⟩;cases e;exact ⟨o,e1,e3⟩
    · have z:∃ o,s.heap.get? p=some o/\o.ExactDict:=by
        rcases hk with ⟨kvs,hk⟩ | ⟨kvs,hk⟩
        · obtain ⟨_,_,_,_,o,_,_,e,ex,_⟩:=I.hok p _ hk;exact ⟨o,e,ex⟩
        · obtain ⟨_,_,_,_,o,_,_,e,ex,_⟩:=I.hok p _ hk;exact ⟨o,e,ex⟩
      obtain ⟨o,e,ex⟩:=z;refine ⟨⟨o,e,ex.1⟩,fun a e2=>?_⟩;cases e2;exact ⟨o,e,ex.2.1⟩
    · obtain ⟨o,_,_,_,e,ex,_⟩:=I.hok p _ hk;refine ⟨⟨o,e,ex.1⟩,fun a e2=>?_⟩;cases e2;exact ⟨o,e,ex.2.1⟩
  | _=>exact False.elim ty
noncomputable def EI (K:PySem.W.Frag) (T:String) (r:V->List V->Hp->VK->Prop) (to:TE) (t:TA):TE:=fun σ H Q=>to σ H fun x H1=>EB K T x H1/\t σ H1 fun xs H2=>r x xs H2 Q
variable {o e:Expr} {es:List Expr} {to:TE} {t:TA} {name:Str} {apos cpos:Pos} {T id:String} {r:V->List V->Hp->VK->Prop}
theorem Ao (pa:PlainAttrs T) (slot:Slot T name id) (hty:typeOf (.builtin id)=pure (.type "method_descriptor")) (hm:Et X id r) (ho:PE X o to) (ha:PA X (e::es) t)
    (hbase:attributeBase o name X.env (eval o X.env)=eval o X.env:=by rfl)
    (hfew:((backTo cpos (starEach (e::es) X.env)).all (fun x=>!x.1)&&(backToKw cpos (keywordEach [] X.env)).all (fun x=>x.1.isSome)
      && decide ((e::es).length+([]:List Keyword).length+(if ([]:List Keyword).isEmpty then 0 else 1) < 30))=true:=by rfl)
    (hline:(apos.endLine==cpos.line)=true:=by rfl) (hs:starEach (e::es) X.env=(false,eval e X.env)::starEach es X.env:=by rfl) (hplain:(backTo cpos (starEach es X.env)).any (·.1)=false:=by rfl) :
    PE X (.Call (.Attribute o name apos) (e::es) [] cpos) (EI X.K T r to t):=by
  intro pins s σ H Q I h;refine wpAny_Call_method_late hbase hfew hline rfl (cS (ho pins s σ H _ I h) fun v s1 ⟨x,H1,I1,r1,ty,q1⟩=>?_);obtain ⟨h1,h2⟩:=BX I1 r1 ty;refine ⟨T,id,pa,slot,hty,h1,h2,?_⟩;have hA:=ha cpos pins s1 σ H1 _ I1 q1;rw [hs] at hA ⊢;refine Calls.callWith_builtin (by show (false||(backTo cpos (starEach es X.env)).any (·.1))=false;rw [hplain] <;> rfl) (Calls.evalArgs_plain ?_);exact cS hA fun us s2 ⟨vs,H2,I2,r2,q2⟩=>hm pins s2 σ H2 x vs v us Q I2 r1 r2 q2
end
noncomputable def EC (X:Cx) (id:String) (r:V->List V->Hp->VK->Prop):Prop :=
  ∀ (pins:List (Addr×Obj)) (s:Shared) (σ:St) (H:Hp) (x:V) (xs:List V) (v:Value) (us:List Value) (Q:VK),aC X pins σ H s->bE x v->bn xs us->r x xs H Q ->
    wpAny (model X.prog X.w) X.A (call (.builtin id) (v::us)) (EP X pins σ Q) X.xe s
theorem bn.one:∀ {x:V} {us:List Value},bn [x] us->∃ u,us=[u]/\bE x u
  | _,_,.cons r .nil=>⟨_,rfl,r⟩
theorem bn.zero:∀ {us:List Value},bn [] us->us=[]
  | _,.nil=>rfl
theorem bn.reverse {xs:List V} {us:List Value} (h:bn xs us):bn xs.reverse us.reverse:=by
  induction h with
  | nil=>exact .nil
  | cons r t ih=>rw [List.reverse_cons,List.reverse_cons];exact bn.append ih (.cons r .nil)
theorem bn.rep {xs:List V} {us:List Value} (h:bn xs us):∀ k:Nat,bn (List.replicate k xs).flatten (List.replicate k us).flatten
  | 0=>.nil
  | k+1=>by
    rw [List.replicate_succ,List.replicate_succ,List.flatten_cons,List.flatten_cons];exact bn.append h (bn.rep h k)
theorem oh (its:List Value):∀ (k:Nat) (acc:List Value),
    List.foldl (fun x1 x2=>x1++x2) acc.toArray (List.replicate k its.toArray)=(acc++(List.replicate k its).flatten).toArray
  | 0,acc=>by simp
  | k+1,acc=>by
    have e:acc.toArray++its.toArray=(acc++its).toArray:=by simp
    have e2:(acc++its)++(List.replicate k its).flatten=acc++(List.replicate (k+1) its).flatten:=by
      rw [List.replicate_succ,List.flatten_cons,List.append_assoc]
    rw [<- e2,<- oh its k (acc++its),<- e,List.replicate_succ,List.foldl_cons]
section
variable {X:Cx} {pins:List (Addr×Obj)} {σ:St} {H:Hp} {s:Shared} {l b:Addr} {xs ys zs:List V}
theorem aC.lset {its its':List Value} {n:Nat} {f:Array Value->Array Value} {t':Nat} (I:aC X pins σ H s) (hH:H l=some (.lst xs))
    (e:s.heap.get? l=some { cls:=.type "list",data:=.seq its.toArray n }) (hf:f its.toArray=its'.toArray) (hv:bn ys its') (hz:ys.length<=sizeLine) :
    aC X pins σ (du H l (.lst ys)) { s with heap:=s.heap.update l (Obj.mapSeq f),toks:=t' }:=by
  have q:=PySem.IsL.update e f;rw [hf] at q;refine I.write (x:=l) (e:=l) (by rw [hH];exact trivial) (.inl rfl) (fun b' u hb hu=>(Heap.get?_update_other s.heap (Obj.mapSeq f) (Ne.symm hb)).trans hu) ⟨_,q⟩ ?_;exact ⟨hz,its',_,hv,q⟩
theorem aC.lnew {its:List Value} {t':Nat} (I:aC X pins σ H s) (hv:bn ys its) (hz:ys.length<=sizeLine) :
    aC X pins σ (du H s.heap.objs.size (.lst ys)) { s with heap:=s.heap.push { cls:=.type "list",data:=.seq its.toArray },toks:=t' } :=
  I.laid (fun _ _ q=>Heap.get?_push_of_some _ q) (Nat.le_refl _) ⟨hz,its,0,hv,Heap.get?_push_size _ rfl⟩
theorem aC.fresh (I:aC X pins σ H s):H s.heap.objs.size=none:=I.hok.fresh (Nat.le_refl _)
theorem aC.lstM (I:aC X pins σ H s) (hH:H l=some (.lst xs)):xs.length<=sizeLine/\∃ (its:List Value) (n:Nat),bn xs its/\xs.length=its.length/\s.heap.get? l=some { cls:=.type "list",data:=.seq its.toArray n }:=by
  obtain ⟨z,its,n,r,e⟩:=I.hok l _ hH;exact ⟨z,its,n,r,r.length,e⟩
end
section
variable {X:Cx}
noncomputable def zH:V->List V->Hp->VK->Prop:=fun x vs H Q=>∃ l xs y,x=.ref l/\vs=[y]/\H l=some (.lst xs)/\xs.length < sizeLine/\Q .non (du H l (.lst (xs++[y])))
theorem oA:EC X "list.append" zH:=by
  intro pins s σ H x vs v us Q I rx rv h;obtain ⟨l,xs,y,rfl,rfl,hH,hz,q⟩:=h;cases rx;obtain ⟨u,rfl,ru⟩:=rv.one;obtain ⟨z,its,n,r,hl,e⟩:=I.lstM hH;refine call_meets F.slot_list_append ⟨_,e,rfl⟩ F.entry_list_append (F.args_list_append_2 _ _) (PySem.list_append l its.toArray n u (by rw [List.size_toArray];omega)) ⟨e,?_⟩;refine ⟨.non,_,I.lset (its':=its++[u]) hH e (by simp) (r.append (.cons ru .nil)) ?_,rfl,q⟩;rw [List.length_append,List.length_singleton];omega
theorem tY {α:Type} (xs:List α) (k:Nat):(List.replicate k xs).flatten.length=k*xs.length:=by
  induction k with
  | zero=>simp
  | succ k ih=>rw [List.replicate_succ,List.flatten_cons,List.length_append,ih,Nat.succ_mul,Nat.add_comm]
end
end L2
namespace Att
open PySem PySem.W PySem.Calls PyProof.Rows
theorem lF {P:Params} {h:Heap}:∀ (ns:List Int) (vs:List Value),WellAll P h vs (ns.map WData.int)->IntsAre vs ns:=by
  intro ns;induction ns with
  | nil =>
    intro vs w;rw [List.map_nil] at w;cases w;exact .nil
  | cons n ns ih =>
    intro vs w;rw [List.map_cons] at w;cases w with
    | cons a b =>
      cases a;exact .cons _ _ (ih _ b)
theorem vC {l:OpenLaw} {n:Nat} (hn:l.most=some n) {P:Params} {h:Heap} {args:List WData} {vals:List Value}
    (hpre:l.row.toRowW.claim.pre args=true) (hwl:WellAll P h vals args) :
    ∃ a vs ns,vals=[Value.ref a]/\args=[WData.list (ns.map WData.int)]/\h.get? a=some { cls:=.type "list",data:=.seq vs.toArray }/\IntsAre vs ns/\ns.length<=n:=by
  have hsh:WShape.hasAll [] args [.list .int]=true:=(pre_splitW hpre).1;have hc:l.pre.holds [] { args:=args }=true:=(pre_splitW hpre).2;obtain ⟨d,r,rfl,h1,h2⟩:=hasAllW_cons hsh;obtain rfl:=hasAllW_nil h2;obtain ⟨xs,rfl,h3⟩:=hasW_list h1;obtain ⟨ns,rfl⟩:=items_int h3;have hlen:ns.length<=n:=by
    unfold OpenLaw.pre at hc;have h4:(WTm.not (.lt (.lit (.int (n:Int))) (.len (.arg 0)))).holds [] { args:=[.list (ns.map .int)] }=true:=by
      have h4:=(holds_andW hc).1;rw [hn] at h4;exact h4
    have h5:=condW_of h4 (w_not (w_lt w_lit (w_len_list (w_arg rfl))));rw [List.length_map] at h5;refine Nat.le_of_not_lt fun q=>?_
    have q':(n:Int) < ((ns.length:Nat):Int):=by omega
    first
      | (rw [decide_eq_true q'] at h5;exact absurd h5 (by decide))
      | (simp at h5;omega)
  cases hwl with
  | cons w1 w2 =>
    cases w2;cases w1 with
    | list ho hall=>exact ⟨_,_,ns,rfl,rfl,ho,lF ns _ hall,hlen⟩
theorem vz (l:OpenLaw) (args:List WData):l.row.toRowW.claim.post args (.bool true) args=true :=
  postW_of (r:=l.row.toRowW) (X:=(true==true))
    (show WShape.has [] (.bool true) .bool=true by first | rfl | decide | simp [WShape.has,WShape.arms,WShape.armsAll])
    (show (WTm.eq .res (.lit (.bool true))).value [] { args:=args,res:=some (.bool true),after:=args }=some (.bool (true==true)) from w_eq_bool (w_res rfl) w_lit) rfl
theorem attach_call {l:OpenLaw} {n:Nat} {q:Program} {loose:List Str} {XP:(Str->Option Value)->Heap->Prop} {YP:World->Heap->Prop} {d:DefRec}
    (hn:l.most=some n) (hdf:d.params.defaults=[])
    (call:∀ (w:World) (s₀ s₁:Shared) (mg mb:Str->Option Value) (fa:Addr) (o:Obj) (pm cd doc:Value) (a:Addr) (vs:List Value) (ns:List Int),
      Ground q loose [] XP w s₀ mg mb s₁.heap->YP w s₁.heap ->
      s₁.heap.get? fa=some o->o.data=.func (docDef d.name d.params d.body d.scope pm cd doc)->s₁.heap.CodeRec cd d.name->mg d.name=some (.ref fa) ->
      s₁.heap.get? a=some { cls:=.type "list",data:=.seq vs.toArray }->IntsAre vs ns->ns.length<=n->s₁.gens=#[] ->
      codeAny (model l.prog w) callerA (.call (.ref fa) ⟨[.ref a],[]⟩) (fun r s'=>r=.ok (.ret (.bool true))/\OldK s₁.heap s'.heap/\s'.os=s₁.os/\AllBare s'.gens) s₁) :
    WalkO q loose XP YP l.row.toRowW d [] (fun f vs=>PySem.call f vs):=by
  intro w s₀ s₁ mg mb G Y fa o pm cd doc dV kV ho hd hcd hD hmg hg args vals as hpre hlay hrd hwl hlo;obtain rfl:dV=.none:=Dflts.none hD hdf;obtain rfl:kV=.none:=Dflts.noKw hD;obtain ⟨a,vs,ns,rfl,rfl,hobj,hints,hlen⟩:=vC hn hpre hwl;refine enter_call (codeAny_mono (call w s₀ s₁ mg mb fa o pm cd doc a vs ns G Y ho (fd_plain hd) hcd hmg hobj hints hlen hg) fun r s' hq=>?_);obtain ⟨rfl,h2,h3,h4⟩:=hq;exact ⟨.inl ⟨.bool true,.bool true,[],rfl,fun _=>rfl,.bool true,vz l _,fun _=>⟨List.Pairwise.nil,fun _ hm=>(nomatch hm)⟩⟩,h2,h3,h4⟩
end Att
namespace L2
open PySem PySem.Spec PyProof.Rows
theorem gG:∀ {vs:List Value} {ns:List Int},IntsAre vs ns->bn (ns.map V.int) vs
  | _,_,.nil=>.nil
  | _,_,.cons n t h=>.cons ⟨t,rfl⟩ (gG h)
noncomputable def Cc (H:Hp):Prop:=∀ b,H b=none\/∃ o xs,H b=some (.frz o (.lst xs))
theorem wR {P:Program} {w:World} {K:PySem.W.Frag} {mg mb:Str->Option Value} {CX:vQ} {k:Nat} {fa a:Addr} {fd:FuncData} {x:Str} {sp:Sp} {s₁:Shared} {vs:List Value} {ns:List Int}
    (KX:K.In s₁.heap) (hns:s₁.heap.Ns mainGlobals mg) (hb:s₁.heap.Ns builtinsNs mb) (hbb:∀ x:Str,x ≠ "__name__" -> mb x=bootBuiltins x) (hlim:s₁.heap.NoLimit) (hg:s₁.gens=#[])
    (ha:s₁.heap.get? a=some { cls:=.type "list",data:=.seq vs.toArray }) (hi:IntsAre vs ns) (hl:ns.length<=sizeLine) (hr:fq k callerA)
    (F:∀ base:Heap,K.In base->base.Ns mainGlobals mg->aW P w K mg base CX k fa fd [x] sp) (hbind:∀ (s:Shared) (u:Value),BindsTo s fd ⟨[u],[]⟩ [(x,u)])
    (hsp:∀ H:Hp,Cc H->lD K H a (ns.map V.int)->sp [.ref a] H (fun v _=>v=.bl true) fun _ _ _=>False)
    (hCX:∀ H e s',CX [] H s₁ (fun _ _ _=>False) e s'->False) :
    codeAny (model P w) callerA (.call (.ref fa) ⟨[.ref a],[]⟩) (fun r s'=>r=.ok (.ret (.bool true))/\OldK s₁.heap s'.heap/\s'.os=s₁.os/\AllBare s'.gens) s₁:=by
  have rv:=gG hi;have lenV:=hi.length
  -- from an abstract heap in which nothing but the script may be tracked
  have core:∀ H:Hp,Cc H->lD K H a (ns.map V.int)->gj P w H s₁.heap->(∀ b,H b≠none->b=a)->(H a≠none->K.lookup a=none) ->
      codeAny (model P w) callerA (.call (.ref fa) ⟨[.ref a],[]⟩) (fun r s'=>r=.ok (.ret (.bool true))/\OldK s₁.heap s'.heap/\s'.os=s₁.os/\AllBare s'.gens) s₁:=by
    intro H hO hS hok hA hK;have base_of:∀ {b:Addr} {o:Obj},s₁.heap.get? b=some o->H b=none->(pP s₁.heap H).get? b=some o:=fun e n=>wG e n
    have noA:∀ {b:Addr} {o:Obj} {es:Array DictEntry} {ep:Nat},s₁.heap.get? b=some o->o.data=.dict es ep->H b=none:=fun {b o es ep} e d=>by
      cases q:H b with
      | none=>rfl
      | some u =>
        have e':b=a:=hA b (by rw [q];simp);subst e';rw [ha] at e;cases e;have d':Data.seq vs.toArray _=Data.dict es ep:=d;cases d'
    have nsK:∀ {b:Addr} {m:Str->Option Value},s₁.heap.Ns b m->(pP s₁.heap H).Ns b m:=fun {b m} ⟨o,es,ep,e,d,r⟩=>⟨o,es,ep,base_of e (noA e d),d,r⟩
    have hKb:K.In (pP s₁.heap H):=fun b o e=>base_of (KX b o e) (by
      cases q:H b with
      | none=>rfl
      | some u =>
        have e':b=a:=hA b (by rw [q];simp);subst e';rw [hK (by rw [q];simp)] at e;cases e)
    have hM:Mod K mg (pP s₁.heap H):=⟨hKb,nsK hns,⟨mb,nsK hb,hbb⟩,let ⟨mc,h1,h2⟩:=hlim;⟨mc,nsK h1,h2⟩⟩
    have e0:yq P w K mg (pP s₁.heap H) callerA [] s₁ H:=⟨rfl,hM,fun b o e=>zk e,Nat.le_of_eq (u3 _ _),trivial,fun b hb=>absurd (show b∈([]:List Addr) from hb) (by simp),hok,.of_eq hg⟩
    refine codeAny_mono ((F _ hKb (nsK hns)).run callerA [] s₁ H ⟨[.ref a],[]⟩ [.ref a] [.ref a] _ _ hr e0 (hbind s₁ (.ref a)) (.cons rfl .nil) (hsp H hO hS)) fun r s' h=>?_
    cases r with
    | error e=>exact (hCX H e s' h).elim
    | ok fl =>
      cases fl with
      | next=>exact False.elim h
      | brk=>exact False.elim h
      | cont=>exact False.elim h
      | ret u =>
        obtain ⟨v,H',os,bare,un,hok',r',q⟩:=h;have q':v=.bl true:=q;subst q';obtain rfl:u=Value.bool true:=r';refine ⟨rfl,OldK.of_keep fun b o e=>?_,os,bare⟩;cases q:H b with
        | none=>exact un.keep b o e q (by intro z;exact absurd (show b∈([]:List Addr) from z) (by simp)) (by simp)
        | some u =>
          rcases hO b with z | ⟨ob,xs,z⟩
          · rw [q] at z;cases z
          · have z2:=un.frzs b ob _ z;obtain ⟨e1,_⟩:=hok b _ z;obtain ⟨e2,_⟩:=hok' b _ z2;rw [e] at e1;cases e1;exact e2
  cases hk:K.lookup a with
  | some o =>
    -- the script is one of the module's own objects
    have e:=KX a o hk;rw [ha] at e;cases e;refine core (fun _=>none) (fun _=>.inl rfl) (.inr ⟨_,vs.toArray,_,hk,rfl,rfl,rfl,by rw [List.size_toArray,lenV];exact hl,by simpa using rv⟩) (fun b u z=>by have z':(none:Option HO)=some u:=z;cases z') (fun b z=>absurd rfl z) fun z=>absurd rfl z
  | none =>
    refine core (fun b=>if b=a then some (.frz { cls:=.type "list",data:=.seq vs.toArray } (.lst (ns.map V.int))) else none) (fun b=>?_) (.inl (.inr ⟨{ cls:=.type "list",data:=.seq vs.toArray },if_pos rfl⟩)) (fun b u z=>?_) (fun b z=>?_) fun _=>hk
    · by_cases hb:b=a
      · exact .inr ⟨_,_,if_pos hb⟩
      · exact .inl (if_neg hb)
    · by_cases hb:b=a
      · have z':=(if_pos hb).symm.trans z;cases z';subst hb;exact ⟨ha,by rw [List.length_map];exact hl,vs,_,rv,ha⟩
      · have z':=(if_neg hb).symm.trans z;cases z'
    · by_cases hb:b=a
      · exact hb
      · exact absurd (if_neg hb) z
noncomputable def eG (s:Stmt):Arguments:=match s with
  | .FunctionDef _ a _ _ _ _ _ _ _ _=>a
  | _=>{ posonlyargs:=[],args:=[],vararg:=none,kwonlyargs:=[],kw_defaults:=[],kwarg:=none,defaults:=[] }
noncomputable def cV (s:Stmt):List Stmt:=match s with
  | .FunctionDef _ _ b _ _ _ _ _ _ _=>b
  | _=>[]
noncomputable def ak (s:Stmt):Scope:=match s with
  | .FunctionDef _ _ _ _ _ _ sc _ _ _=>sc
  | _=>{ kind:=.function,names:=[],isGenerator:=false,isCoroutine:=false }
noncomputable abbrev Es:vQ:=fun _ _ _ _ _ _=>False
structure gi (K:PySem.W.Frag) (x qual:Str) (st:Stmt) (f:Addr) (fd:FuncData):Prop where
  ex:∃ (oc:Value) (od:Option Addr) (kV doc pm:Value) (an:Option Addr) (cdv ct:Value) (osl:Array (Option Value)),
    fd=PySem.W.fnOf x qual (eG st) (cV st) (ak st) .none kV doc pm an cdv ct/\K.lookup f=some ⟨oc,od,.func fd,osl⟩/\PySem.W.codeIn K cdv qual=true
  kp:PySem.W.keepIn K (.ref f)=true
section
variable {P:Program} {w:World} {K:PySem.W.Frag} {mg:Str->Option Value} {base:Heap}
theorem gi.ok {x qual:Str} {st:Stmt} {f:Addr} {fd:FuncData} {N ps:List Str} {k:Nat} {sp:Sp} (F:gi K x qual st f fd) (S:aL N ps (ak st)) (len:∀ vs H Q E,sp vs H Q E->vs.length=ps.length)
    (hbody:∀ (cdv:Value) (A:Around) (outer:List Env) (s:Shared) (H:Hp) (vs:List V) (Q:VK) (E:XK),fq k (A.deeper (envOfC qual (ak st) s.heap.objs.size f cdv))->sp vs H Q E ->
      ∃ t,o8 (eW Es P w K mg base N qual (ak st) f cdv A outer s H E).nox (cV st) t/\t { nx:=fun _ H'=>Q .non H',rt:=Q } (il N vs) H):aW P w K mg base Es (k+1) f fd ps sp:=by
  obtain ⟨oc,od,kV,doc,pm,an,cdv,ct,osl,rfl,lk,hcd⟩:=F.ex;refine Af lk hcd S len fun A outer s H vs Q E hr hsp=>?_
  obtain ⟨t,h,q⟩:=hbody cdv A outer s H vs Q E hr hsp;exact ⟨t,h.nox,q⟩
theorem gi.binds {x qual:Str} {st:Stmt} {f:Addr} {fd:FuncData} {ps:List Str} (F:gi K x qual st f fd)
    (h:∀ (kV doc pm:Value) (an:Option Addr) (cdv ct:Value) (us:List Value),us.length=ps.length->bindArgs (PySem.W.fnOf x qual (eG st) (cV st) (ak st) .none kV doc pm an cdv ct) ⟨us,[]⟩=pure (ps.zip us)):bH K fd ps []:=by
  obtain ⟨oc,od,kV,doc,pm,an,cdv,ct,osl,rfl,lk,hcd⟩:=F.ex;exact .all (h kV doc pm an cdv ct)
theorem wE {x qual:Str} {st:Stmt} {f:Addr} {oc:Value} {od an:Option Addr} {osl:Array (Option Value)} {kV doc pm cdv ct:Value} (l:K.lookup f=some ⟨oc,od,.func (PySem.W.fnOf x qual (eG st) (cV st) (ak st) .none kV doc pm an cdv ct),osl⟩)
    (c:PySem.W.codeIn K cdv qual=true) (k:PySem.W.keepIn K (.ref f)=true):gi K x qual st f (PySem.W.fnOf x qual (eG st) (cV st) (ak st) .none kV doc pm an cdv ct):=⟨⟨oc,od,kV,doc,pm,an,cdv,ct,osl,rfl,l,c⟩,k⟩
end
section
variable {X:Cx}
theorem pv (i:Nat) {x:Str} {pos:Pos} (hN:X.N[i]?=some x:=by rfl) (hv:B5 X.env.scope x:=by first | exact Or.inl rfl | exact Or.inr (Or.inl rfl) | exact Or.inr (Or.inr rfl)) (hd:(x==("__debug__" : Str))=false:=by decide)
    (hcd:(x==("__classdict__" : Str))=false:=by decide):PE X (.Name x pos) (zW i):=hR hN hv hd hcd
end
noncomputable def ar (H H':Hp):Prop:=∀ b o,H b=some o->H' b=some o
theorem ar.refl (H:Hp):ar H H:=fun _ _ h=>h
theorem ar.trans {H H1 H2:Hp} (a:ar H H1) (b:ar H1 H2):ar H H2:=fun c o h=>b c o (a c o h)
theorem ar.free {H H':Hp} (e:ar H H') {l:Addr} (h:H' l=Option.none):H l=Option.none:=by
  cases q:H l with
  | none=>rfl
  | some o =>
    rw [e l o q] at h;cases h
section
variable {κ:Type} [DecidableEq κ]
noncomputable def jg (kvs:List (κ×V)) (k:κ):Option V:=(kvs.find? fun kv=>decide (kv.1=k)).map (·.2)
noncomputable def kn (kvs:List (κ×V)) (k:κ) (v:V):List (κ×V) :=
  if (kvs.any fun kv=>decide (kv.1=k))=true then kvs.map (fun kv=>if kv.1=k then (kv.1,v) else kv) else kvs++[(k,v)]
theorem nv {p:κ×V} {r:List (κ×V)} {k:κ} (e:p.1=k):jg (p::r) k=some p.2:=by simp [jg,List.find?_cons,e]
theorem nu {p:κ×V} {r:List (κ×V)} {k:κ} (e:¬ p.1=k):jg (p::r) k=jg r k:=by simp [jg,List.find?_cons,e]
theorem rM (k:κ):∀ kvs:List (κ×V),(kvs.any fun kv=>decide (kv.1=k))=(jg kvs k).isSome
  | []=>rfl
  | p::r=>by
    rw [List.any_cons];by_cases e:p.1=k
    · simp only [nv e,decide_eq_true e,Bool.true_or,Option.isSome_some]
    · rw [nu e,decide_eq_false e,Bool.false_or];exact rM k r
theorem la (kvs:List (κ×V)) (k:κ) (v:V):(kn kvs k v).length<=kvs.length+1:=by
  unfold kn;split
  · rw [List.length_map];omega
  · rw [List.length_append,List.length_cons,List.length_nil];omega
theorem kD.isSome_eq {o:Option V} {u:Option Value} (r:kD o u):o.isSome=u.isSome:=by
  cases o with
  | none=>cases u with
    | none=>rfl
    | some _=>exact (show False from r).elim
  | some _=>cases u with
    | none=>exact (show False from r).elim
    | some _=>rfl
theorem kD.getD {o:Option V} {u:Option Value} {d:V} {d':Value} (r:kD o u) (rd:bE d d'):bE (o.getD d) (u.getD d'):=by
  cases o with
  | none=>cases u with
    | none=>exact rd
    | some _=>exact (show False from r).elim
  | some _=>cases u with
    | none=>exact (show False from r).elim
    | some _=>exact r
theorem KV.val {kvs:List (κ×V)} {vs:List (κ×Value)} (r:KV kvs vs) (k:κ):kD (jg kvs k) (valueAt vs k):=by
  unfold KV at r;induction r with
  | nil=>exact True.intro
  | @cons p q ps qs h t ih =>
    obtain ⟨h1,h2⟩:=h;by_cases e:p.1=k
    · have e':q.1=k:=h1.symm.trans e;have b:valueAt (q::qs) k=some q.2:=by simp [valueAt,List.find?_cons,e']
      rw [nv e,b];exact h2
    · have e':¬ q.1=k:=fun z=>e (h1.trans z)
      have b:valueAt (q::qs) k=valueAt qs k:=by simp [valueAt,List.find?_cons,e']
      rw [nu e,b];exact ih
theorem KV.any {kvs:List (κ×V)} {vs:List (κ×Value)} (r:KV kvs vs) (k:κ):(kvs.any fun kv=>decide (kv.1=k))=vs.any fun kv=>decide (kv.1=k):=by
  unfold KV at r;induction r with
  | nil=>rfl
  | cons h t ih=>rw [List.any_cons,List.any_cons,ih,h.1]
theorem KV.repl {kvs:List (κ×V)} {vs:List (κ×Value)} (r:KV kvs vs) (k:κ) {y:V} {u:Value} (ry:bE y u) :
    KV (kvs.map fun kv=>if kv.1=k then (kv.1,y) else kv) (vs.map fun kv=>if kv.1=k then (kv.1,u) else kv):=by
  unfold KV at r ⊢;induction r with
  | nil=>exact .nil
  | @cons p q ps qs h t ih =>
    rw [List.map_cons,List.map_cons];refine .cons ?_ ih;obtain ⟨h1,h2⟩:=h;by_cases e:p.1=k
    · rw [if_pos e,if_pos (h1.symm.trans e)];exact ⟨h1,ry⟩
    · rw [if_neg e,if_neg (fun z=>e (h1.trans z))];exact ⟨h1,h2⟩
theorem KV.put {kvs:List (κ×V)} {vs:List (κ×Value)} (r:KV kvs vs) (k:κ) {y:V} {u:Value} (ry:bE y u):KV (kn kvs k y) (stored vs k u):=by
  unfold kn stored;rw [r.any k];by_cases e:(vs.any fun kv=>decide (kv.1=k))=true
  · rw [if_pos e,if_pos e];exact r.repl k ry
  · rw [if_neg e,if_neg e];exact Paired.snoc r ⟨rfl,ry⟩
theorem KV.keys {kvs:List (κ×V)} {vs:List (κ×Value)} (r:KV kvs vs):kvs.map (·.1)=vs.map (·.1):=by
  unfold KV at r;induction r with
  | nil=>rfl
  | cons h t ih=>rw [List.map_cons,List.map_cons,ih,h.1]
theorem KV.length {kvs:List (κ×V)} {vs:List (κ×Value)} (r:KV kvs vs):kvs.length=vs.length:=Paired.length r
end
theorem ou {P:Program} {w:World} {k:cN} {u:Value} (r:bE (kV k) u):(cq P w).is k u=true:=by
  cases k with
  | inl i=>obtain ⟨t,e⟩:=(show ∃ t,u=Value.int i t from r);subst e;exact rc P w i t
  | inr x=>obtain ⟨t,e⟩:=(show ∃ t,u=Value.str x t from r);subst e;exact re P w x t
theorem oq {P:Program} {w:World}:∀ {ks:List cN} {us:List Value},bn (ks.map kV) us->ItemsAre (cq P w) ks us
  | [],_,r=>by rw [List.map_nil] at r;cases r;exact .nil
  | k::ks,_,r=>by
    rw [List.map_cons] at r;cases r with
    | cons h t=>exact .cons (ou h) (oq t)
noncomputable abbrev KT (H:Hp):List (List cN×V)->List (List cN×Addr×Value)->Prop:=Paired fun p q=>p.1=q.1/\H q.2.1=some (.tup (p.1.map kV))/\bE p.2 q.2.2
theorem KT.val {H:Hp} {kvs:List (List cN×V)} {xs:List (List cN×Addr×Value)} (r:KT H kvs xs) (k:List cN):kD (jg kvs k) ((atKey xs k).map (·.2)):=by
  induction r with
  | nil=>exact True.intro
  | @cons p q ps qs h t ih =>
    obtain ⟨h1,_,h2⟩:=h;by_cases e:p.1=k
    · have e':q.1=k:=h1.symm.trans e;have b:atKey (q::qs) k=some q.2:=by simp [atKey,List.find?_cons,e']
      rw [nv e,b];exact h2
    · have e':¬ q.1=k:=fun z=>e (h1.trans z)
      have b:atKey (q::qs) k=atKey qs k:=by simp [atKey,List.find?_cons,e']
      rw [nu e,b];exact ih
theorem KT.repl {H:Hp} {kvs:List (List cN×V)} {xs:List (List cN×Addr×Value)} (r:KT H kvs xs) (k:List cN) {y:V} {u:Value} (ry:bE y u) :
    KT H (kvs.map fun kv=>if kv.1=k then (kv.1,y) else kv) (xs.map (putAt k u)):=by
  induction r with
  | nil=>exact .nil
  | @cons p q ps qs h t ih =>
    rw [List.map_cons,List.map_cons];refine .cons ?_ ih;obtain ⟨h1,h2,h3⟩:=h;unfold putAt;by_cases e:p.1=k
    · rw [if_pos e,if_pos (h1.symm.trans e)];exact ⟨h1,h2,ry⟩
    · rw [if_neg e,if_neg (fun z=>e (h1.trans z))];exact ⟨h1,h2,h3⟩
theorem KT.put {H:Hp} {kvs:List (List cN×V)} {xs:List (List cN×Addr×Value)} (r:KT H kvs xs) (k:List cN) {b:Addr} {y:V} {u:Value} (hb:H b=some (.tup (k.map kV))) (ry:bE y u) :
    KT H (kn kvs k y) (storedH xs k b u):=by
  have e:(kvs.any fun kv=>decide (kv.1=k))=(atKey xs k).isSome:=by
    rw [rM,(r.val k).isSome_eq,Option.isSome_map]
  unfold kn storedH;rw [e];by_cases q:(atKey xs k).isSome=true
  · rw [if_pos q,if_pos q];exact r.repl k ry
  · rw [if_neg q,if_neg q];exact Paired.snoc r ⟨rfl,hb,ry⟩
theorem KT.keeps {H H':Hp} {kvs:List (List cN×V)} {xs:List (List cN×Addr×Value)} (r:KT H kvs xs) (ht:∀ b ys,H b=some (.tup ys)->H' b=some (.tup ys)):KT H' kvs xs :=
  Paired.mapP r fun _ _ z=>⟨z.1,ht _ _ z.2.1,z.2.2⟩
section
variable {P:Program} {w:World} {H:Hp} {h:Heap} {a:Addr}
theorem At {u:HO} (ok:gj P w H h) (e:Rd H a u):bV P w H h a u:=e.ok ok
theorem kf {kvs:List (cN×V)} (ok:gj P w H h) (e:Rd H a (.dK kvs)):kvs.length<=sizeLine/\(a==sysModules)=false/\∃ vs,KV kvs vs/\h.DictOf (cq P w) a vs :=
  show bV P w H h a (.dK kvs) from At ok e
theorem Co {kvs:List (cN×V)} (ok:gj P w H h) (e:H a=some (.dK kvs)):kvs.length<=sizeLine/\(a==sysModules)=false/\∃ vs,KV kvs vs/\h.DictOf (cq P w) a vs:=kf ok (.inl e)
theorem kL {ks:List cN} (ok:gj P w H h) (e:H a=some (.tup (ks.map kV))):(tupleKind (cq P w)).is h ks a:=by
  obtain ⟨_,its,r,o,h1,h2,⟨n,h3⟩,_⟩:=(show bV P w H h a (.tup (ks.map kV)) from ok a _ e)
  exact ⟨o,its.toArray,n,h1,h2,h3,by simpa using oq r⟩
theorem mB {kvs:List (List cN×V)} (ok:gj P w H h) (e:Rd H a (.dT kvs)):kvs.length<=sizeLine/\(a==sysModules)=false /\
    ∃ xs,KT H kvs xs/\h.DictOfH (tupleKind (cq P w)) a xs:=by
  obtain ⟨z,y,xs,r,o,es,ep,h1,h2,h3,h4,h5⟩:=(show bV P w H h a (.dT kvs) from At ok e)
  refine ⟨z,y,xs,r,o,es,ep,h1,h2,h3,h4,fun x hx=>?_,h5⟩;have all:∀ {l:List (List cN×V)} {m:List (List cN×Addr×Value)},KT H l m->∀ x∈m,(tupleKind (cq P w)).is h x.1 x.2.1:=by
    intro l m q;induction q with
    | nil=>intro x hx;exact nomatch hx
    | @cons p q ps qs hq t ih =>
      intro x hx;rcases List.mem_cons.mp hx with e | hx
      · subst e;exact kL ok (by rw [<- hq.1];exact hq.2.1)
      · exact ih x hx
  exact all r x hx
theorem Cp {kvs:List (List cN×V)} (ok:gj P w H h) (e:H a=some (.dT kvs)):kvs.length<=sizeLine/\(a==sysModules)=false /\
    ∃ xs,KT H kvs xs/\h.DictOfH (tupleKind (cq P w)) a xs:=mB ok (.inl e)
end
noncomputable def jm (H:Hp) (a:Addr) (y:V) (r:Option V):Prop :=
  (∃ kvs k,Rd H a (.dK kvs)/\y=kV k/\r=jg kvs k)\/∃ kvs k b,Rd H a (.dT kvs)/\y=.ref b/\H b=some (.tup (k.map kV))/\r=jg kvs k
noncomputable def rP (H:Hp) (a:Addr) (y v:V) (H':Hp):Prop :=
  (∃ kvs k,H a=some (.dK kvs)/\y=kV k/\kvs.length < sizeLine/\H'=du H a (.dK (kn kvs k v))) \/
  ∃ kvs k b,H a=some (.dT kvs)/\y=.ref b/\H b=some (.tup (k.map kV))/\kvs.length < sizeLine/\H'=du H a (.dT (kn kvs k v))
theorem jm.k {H:Hp} {a:Addr} {kvs:List (cN×V)} {k:cN} (e:H a=some (.dK kvs)):jm H a (kV k) (jg kvs k):=.inl ⟨kvs,k,.inl e,rfl,rfl⟩
theorem jm.t {H:Hp} {a b:Addr} {kvs:List (List cN×V)} {k:List cN} (e:H a=some (.dT kvs)) (eb:H b=some (.tup (k.map kV))):jm H a (.ref b) (jg kvs k):=.inr ⟨kvs,k,b,.inl e,rfl,eb,rfl⟩
theorem rP.k {H:Hp} {a:Addr} {kvs:List (cN×V)} {k:cN} {v:V} (e:H a=some (.dK kvs)) (hl:kvs.length < sizeLine):rP H a (kV k) v (du H a (.dK (kn kvs k v))):=.inl ⟨kvs,k,e,rfl,hl,rfl⟩
theorem rP.t {H:Hp} {a b:Addr} {kvs:List (List cN×V)} {k:List cN} {v:V} (e:H a=some (.dT kvs)) (eb:H b=some (.tup (k.map kV))) (hl:kvs.length < sizeLine) :
    rP H a (.ref b) v (du H a (.dT (kn kvs k v))):=.inr ⟨kvs,k,b,e,rfl,eb,hl,rfl⟩
section
variable {X:Cx} {pins:List (Addr×Obj)} {σ:St} {H:Hp} {s:Shared} {a:Addr} {y v:V} {u r:Value} {o:Option V} {A:Around} {E:Value->Shared->Prop}
theorem aC.big (I:aC X pins σ H s):sysModules < s.heap.objs.size:=by
  have h:mainGlobals < s.heap.objs.size:=(I.mod.glob.keeps I.bk).lt;exact Nat.lt_trans (by decide) h
theorem uO {Q:Value->Shared->Prop} (hu:A.units+1 < cLine) (I:aC X pins σ H s) (g:jm H a y (some v)) (ry:bE y u) (h:∀ w' s',aC X pins σ H s'->bE v w'->Q w' s') :
    wpAny (model X.prog X.w) A (getItem (.ref a) u) Q E s:=by
  rcases g with ⟨kvs,k,e,ey,l⟩ | ⟨kvs,k,b,e,ey,eb,l⟩
  · subst ey;obtain ⟨z,hd,vs,rel,dd⟩:=kf I.hok e;obtain ⟨w',hw,rw'⟩:=kD.some_of (v:=v) (o:=valueAt vs k) (by rw [l];exact rel.val k);exact wpAny_getItem_of (ou ry) dd.mapOf hw (h w' _ (I.tok _) rw')
  · subst ey;cases (show u=Value.ref b from ry);obtain ⟨z,hd,xs,rel,dd⟩:=mB I.hok e;obtain ⟨w',hw,rw'⟩:=kD.some_of (v:=v) (o:=(atKey xs k).map (·.2)) (by rw [l];exact rel.val k);obtain ⟨p,hp,hp2⟩:=Option.map_eq_some_iff.mp hw;refine wpAny_getItem_heap (tupleKind_room_in1 hu) (kL I.hok eb) dd hp ?_;rw [hp2];exact h w' _ (I.tok _) rw'
theorem DZ {Q:Value->Shared->Prop} (hu:A.units+1 < cLine) (I:aC X pins σ H s) (g:jm H a y o) (ry:bE y u) (h:∀ s',aC X pins σ H s'->Q (.bool o.isSome) s') :
    wpAny (model X.prog X.w) A (compareOp .In u (.ref a)) Q E s:=by
  rcases g with ⟨kvs,k,e,ey,l⟩ | ⟨kvs,k,b,e,ey,eb,l⟩
  · subst ey;obtain ⟨z,hd,vs,rel,dd⟩:=kf I.hok e;refine wpAny_in_of (ou ry) hd dd.mapOf ?_;rw [<- (rel.val k).isSome_eq,<- l];exact h _ (I.tok _)
  · subst ey;cases (show u=Value.ref b from ry);obtain ⟨z,hd,xs,rel,dd⟩:=mB I.hok e;refine wpAny_in_heap (tupleKind_room_in1 hu) (kL I.hok eb) hd dd ?_;have q:=(rel.val k).isSome_eq;rw [Option.isSome_map] at q;rw [<- q,<- l];exact h _ (I.tok _)
theorem tR {h':Heap} {t':Nat} {ob:HO} (I:aC X pins σ H s) (mu:Cb (H a)) (hs:Heap.SameBut a s.heap h') (he:∃ q,h'.get? a=some q) (new:bV X.prog X.w (du H a ob) h' a ob) :
    aC X pins σ (du H a ob) { s with heap:=h',toks:=t' } :=
  I.write (x:=a) (e:=a) mu (.inl rfl) (fun b q hb z=>(hs.2 b hb).trans z) he new
theorem A0 {P:Program} {w:World} {H':Hp} {h':Heap} {kvs:List (cN×V)} {vs:List (cN×Value)} (z:kvs.length<=sizeLine) (hd:(a==sysModules)=false) (rel:KV kvs vs) (dd:h'.DictOf (cq P w) a vs) :
    bV P w H' h' a (.dK kvs):=⟨z,hd,vs,rel,dd⟩
theorem uP {H':Hp} {Q:Unit->Shared->Prop} (hu:A.units+1 < cLine) (I:aC X pins σ H s) (g:rP H a y v H') (ry:bE y u) (rv:bE v r) (h:∀ s',aC X pins σ H' s'->Q () s') :
    wpAny (model X.prog X.w) A (setItem (.ref a) u r) Q E s:=by
  rcases g with ⟨kvs,k,e,ey,l,eH⟩ | ⟨kvs,k,b,e,ey,eb,l,eH⟩
  · subst ey eH;obtain ⟨z,hd,vs,rel,dd⟩:=Co I.hok e;have hz:vs.length<=sizeLine:=by rw [<- rel.length];exact z
    have hl:(kn kvs k v).length<=sizeLine:=by have:=la kvs k v;omega
    refine wpAny_setItem_pairs (hsz:=hz) (ou ry) dd fun h' dd' hs=>h _ ?_
    have he:∃ q,h'.get? a=some q:=let ⟨q,_,_,hq,_⟩:=dd';⟨q,hq⟩
    exact tR I (by rw [e];exact True.intro) hs he (A0 hl hd (rel.put k rv) dd')
  · subst ey eH;cases (show u=Value.ref b from ry);obtain ⟨z,hd,xs,rel,dd⟩:=Cp I.hok e;have hz:xs.length<=sizeLine:=by rw [<- Paired.length rel];exact z
    have hl:(kn kvs k v).length<=sizeLine:=by have:=la kvs k v;omega
    refine wpAny_setItem_heap (hsz:=hz) (tupleKind_room_in1 hu) (kL I.hok eb) dd fun h' dd' hs=>h _ ?_
    obtain ⟨q,es,ep,hq,h2,h3,h4,_,h5⟩:=dd';refine tR I (by rw [e];exact True.intro) hs ⟨q,hq⟩ ⟨hl,hd,_,(rel.put k eb rv).keeps fun c ys ec=>?_,q,es,ep,hq,h2,h3,h4,h5⟩;rw [aJ (Cy ec e (fun z=>nomatch z))];exact ec
end
section
variable {X:Cx} {pins:List (Addr×Obj)} {σ:St} {H:Hp} {s:Shared} {a:Addr} {kvs:List (cN×V)} {k:cN} {u:Value} {A:Around} {E:Value->Shared->Prop}
theorem Cn {Q:Value->Shared->Prop} (I:aC X pins σ H s) (e:Rd H a (.dK kvs)) (h:∀ t s',aC X pins σ H s'->Q (.int kvs.length t) s'):wpAny (model X.prog X.w) A (call (.builtin "len") [.ref a]) Q E s:=by
  obtain ⟨z,hd,vs,rel,dd⟩:=kf I.hok e;refine call_len_dict hd dd (by rw [<- rel.length];rw [sizeLine_eq] at z;omega) ?_;rw [<- rel.length];exact h _ _ (I.tok _)
end
theorem qR {X:Cx} {pins:List (Addr×Obj)} {σ:St} {H:Hp} {s:Shared} {a:Addr} {y:V} {o:Option V} (I:aC X pins σ H s) (g:jm H a y o):s.TypeIs (.ref a) "dict" := by
  rcases g with ⟨kvs,k,e,_,_⟩ | ⟨kvs,k,b,e,_,_,_⟩
  · obtain ⟨_,_,vs,_,dd⟩:=kf I.hok e;exact dd.typeIs
  · obtain ⟨_,_,xs,_,dd⟩:=mB I.hok e;exact dd.typeIs
noncomputable def CV (td ty tv:TE):TS:=fun D σ H=>tv σ H fun v H1=>td σ H1 fun x H2=>ty σ H2 fun y H3=>∃ a H4,x=.ref a/\rP H3 a y v H4/\D.nx σ H4
section
variable {X:Cx} {o i e value:Expr} {pos pos' tpos:Pos} {td ty tv:TE}
theorem zB (hu:X.A.units+1 < cLine) (ho:PE X o td) (hi:PE X i ty) (hv:PE X value tv) (hs:swapsWith value (some (.Subscript o i pos')) pos.line X.env=pure false) :
    PS X (.Assign [.Subscript o i pos'] value pos) (CV td ty tv):=by
  intro pins s σ H D I h;refine wpAny_Assign_Subscript (cS (hv pins s σ H _ I h) fun r s1 ⟨v,H1,I1,rv,q1⟩=>cS (ho pins s1 σ H1 _ I1 q1) fun u s2 ⟨x,H2,I2,rx,q2⟩=>cS (hi pins s2 σ H2 _ I2 q2) fun iv s3 ⟨y,H3,I3,ry,a,H4,ex,g,q3⟩=>?_) hs;subst ex;obtain rfl:u=Value.ref a:=rx;exact uP hu I3 g ry rv fun s4 I4=>⟨σ,H4,I4,q3⟩
end
theorem wx {P:Program} {w:World} {H:Hp} (h:Heap) (hb:sysModules < h.objs.size):bV P w H (h.push { cls:=.type "dict",data:=.dict #[] }) h.objs.size (.dK []) :=
  ⟨Nat.zero_le _,beq_eq_false_iff_ne.mpr (Ne.symm (Nat.ne_of_lt hb)),[],.nil,Heap.DictOf.new h⟩
noncomputable def BT:TE:=fun _ H Q=>∀ p,H p=none->Q (.ref p) (du H p (.dK []))
section
variable {X:Cx} {pos:Pos}
theorem xn:PE X (.Dict [] [] pos) BT:=fun pins s σ H Q I h =>
  wpAny_Dict_empty ⟨.ref s.heap.objs.size,_,I.laid (a:=s.heap.objs.size) (o:=.dK []) (t':=s.toks) (fun _ _ q=>Heap.get?_push_of_some _ q) (Nat.le_refl _) (wx s.heap I.big),rfl,h _ (I.hok.fresh (Nat.le_refl _))⟩
end
structure M1 (X:Cx) (o:Expr) (m:Str) (apos:Pos) (e:Expr) (cpos:Pos):Prop where
  base:attributeBase o m X.env (eval o X.env)=eval o X.env
  few:((backTo cpos (starEach [e] X.env)).all (fun x=>!x.1)&&(backToKw cpos (keywordEach [] X.env)).all (fun x=>x.1.isSome)
    && decide (([e]:List Expr).length+([]:List Keyword).length+(if ([]:List Keyword).isEmpty then 0 else 1) < 30))=true
  line:(apos.endLine==cpos.line)=true
  trees:backTo cpos (starEach [e] X.env)=[(false,eval e X.env)]
structure M2 (X:Cx) (o:Expr) (m:Str) (apos:Pos) (e f:Expr) (cpos:Pos):Prop where
  base:attributeBase o m X.env (eval o X.env)=eval o X.env
  few:((backTo cpos (starEach [e,f] X.env)).all (fun x=>!x.1)&&(backToKw cpos (keywordEach [] X.env)).all (fun x=>x.1.isSome)
    && decide (([e,f]:List Expr).length+([]:List Keyword).length+(if ([]:List Keyword).isEmpty then 0 else 1) < 30))=true
  line:(apos.endLine==cpos.line)=true
  trees:backTo cpos (starEach [e,f] X.env)=[(false,eval e X.env),(false,eval f X.env)]
noncomputable def DM (H:Hp) (a:Addr):Prop:=(∃ kvs,Rd H a (.dK kvs))\/∃ kvs,Rd H a (.dT kvs)
theorem wK {X:Cx} {pins:List (Addr×Obj)} {σ:St} {H:Hp} {s:Shared} {a:Addr} (I:aC X pins σ H s) (d:DM H a) :
    s.TypeIs (.ref a) "dict" /\ (∀ b,Value.ref a=.ref b->∃ ob,s.heap.get? b=some ob/\ob.dict=none)/\(a==sysModules)=false:=by
  rcases d with ⟨kvs,e⟩ | ⟨kvs,e⟩
  · obtain ⟨_,hd,vs,_,dd⟩:=kf I.hok e;refine ⟨dd.typeIs,fun b q=>?_,hd⟩;cases q;obtain ⟨ob,_,_,h1,h2,_⟩:=dd;exact ⟨ob,h1,h2.2.1⟩
  · obtain ⟨_,hd,xs,_,dd⟩:=mB I.hok e;refine ⟨dd.typeIs,fun b q=>?_,hd⟩;cases q;obtain ⟨ob,_,_,h1,h2,_⟩:=dd;exact ⟨ob,h1,h2.2.1⟩
section
variable {X:Cx} {pins:List (Addr×Obj)} {σ:St} {H:Hp} {s:Shared} {a:Addr} {y d:V} {u r:Value} {o:Option V} {A:Around} {E:Value->Shared->Prop}
theorem AW {Q:Value->Shared->Prop} (hu:A.units+1 < cLine) (I:aC X pins σ H s) (g:jm H a y o) (ry:bE y u) (h:∀ w' s',aC X pins σ H s'->bE (o.getD .non) w'->Q w' s') :
    wpAny (model X.prog X.w) A (call (.builtin "dict.get") [.ref a,u]) Q E s:=by
  rcases g with ⟨kvs,k,e,ey,l⟩ | ⟨kvs,k,b,e,ey,eb,l⟩
  · subst ey;obtain ⟨z,hd,vs,rel,dd⟩:=kf I.hok e;refine call_meetsIn PySem.F.slot_dict_get dd.typeIs PySem.F.entry_dict_get (PySem.F.args_dict_get_2 _ _) (meets_dict_get (cq X.prog X.w) a (ou ry) hd) ⟨_,dd.mapOf,h _ _ (I.tok _) ?_⟩;rw [l];exact (rel.val k).getD rfl
  · subst ey;cases (show u=Value.ref b from ry);obtain ⟨z,hd,xs,rel,dd⟩:=mB I.hok e;refine call_meetsIn PySem.F.slot_dict_get dd.typeIs PySem.F.entry_dict_get (PySem.F.args_dict_get_2 _ _) (meetsH_dict_get (tupleKind (cq X.prog X.w)) a b hd) ⟨tupleKind_room_in1 hu,k,xs,kL I.hok eb,dd,h _ _ (I.tok _) ?_⟩;rw [l];exact (rel.val k).getD rfl
theorem AX {Q:Value->Shared->Prop} (hu:A.units+1 < cLine) (I:aC X pins σ H s) (g:jm H a y o) (ry:bE y u) (rd:bE d r) (h:∀ w' s',aC X pins σ H s'->bE (o.getD d) w'->Q w' s') :
    wpAny (model X.prog X.w) A (call (.builtin "dict.get") [.ref a,u,r]) Q E s:=by
  rcases g with ⟨kvs,k,e,ey,l⟩ | ⟨kvs,k,b,e,ey,eb,l⟩
  · subst ey;obtain ⟨z,hd,vs,rel,dd⟩:=kf I.hok e;refine call_meetsIn PySem.F.slot_dict_get dd.typeIs PySem.F.entry_dict_get (PySem.F.args_dict_get_3 _ _ _) (meets_dict_get_default (cq X.prog X.w) a (ou ry) hd r) ⟨_,dd.mapOf,h _ _ (I.tok _) ?_⟩;rw [l];exact (rel.val k).getD rd
  · subst ey;cases (show u=Value.ref b from ry);obtain ⟨z,hd,xs,rel,dd⟩:=mB I.hok e;refine call_meetsIn PySem.F.slot_dict_get dd.typeIs PySem.F.entry_dict_get (PySem.F.args_dict_get_3 _ _ _) (meetsH_dict_get_default (tupleKind (cq X.prog X.w)) a b hd r) ⟨tupleKind_room_in1 hu,k,xs,kL I.hok eb,dd,h _ _ (I.tok _) ?_⟩;rw [l];exact (rel.val k).getD rd
end
noncomputable def BR (td ty:TE):TE:=fun σ H Q=>td σ H fun x H1=>∃ a,x=.ref a/\DM H1 a/\ty σ H1 fun y H2=>∃ o,jm H2 a y o/\Q (o.getD .non) H2
noncomputable def BS (td ty tx:TE):TE:=fun σ H Q=>td σ H fun x H1=>∃ a,x=.ref a/\DM H1 a/\ty σ H1 fun y H2=>tx σ H2 fun z H3=>∃ o,jm H3 a y o/\Q (o.getD z) H3
section
variable {X:Cx} {o e f:Expr} {apos cpos:Pos} {td ty tx:TE}
theorem xl (hu:X.A.units+1 < cLine) (ho:PE X o td) (he:PE X e ty) (m:M1 X o "get" apos e cpos):PE X (.Call (.Attribute o "get" apos) [e] [] cpos) (BR td ty):=by
  intro pins s σ H Q I h;refine wpAny_Call_method m.base m.few m.line PySem.F.plainAttrs_dict PySem.F.slot_dict_get PySem.F.type_dict_get (cS (ho pins s σ H _ I h) fun u s1 ⟨x,H1,I1,rx,a,ex,d,q1⟩=>?_);subst ex;obtain rfl:u=Value.ref a:=rx;obtain ⟨t1,t2,_⟩:=wK I1 d;refine ⟨t1,t2,?_⟩;rw [m.trees];refine Calls.callWith_builtin rfl (Calls.evalArgs_plain (Calls.spliced_cons (cS (he pins s1 σ H1 _ I1 q1) fun iv s2 ⟨y,H2,I2,ry,ov,g,q2⟩=>Calls.spliced_nil ?_)));exact AW hu I2 g ry fun w' s3 I3 rw'=>⟨_,H2,I3,rw',q2⟩
theorem xm (hu:X.A.units+1 < cLine) (ho:PE X o td) (he:PE X e ty) (hf:PE X f tx) (m:M2 X o "get" apos e f cpos):PE X (.Call (.Attribute o "get" apos) [e,f] [] cpos) (BS td ty tx):=by
  intro pins s σ H Q I h;refine wpAny_Call_method m.base m.few m.line PySem.F.plainAttrs_dict PySem.F.slot_dict_get PySem.F.type_dict_get (cS (ho pins s σ H _ I h) fun u s1 ⟨x,H1,I1,rx,a,ex,d,q1⟩=>?_);subst ex;obtain rfl:u=Value.ref a:=rx;obtain ⟨t1,t2,_⟩:=wK I1 d;refine ⟨t1,t2,?_⟩;rw [m.trees];refine Calls.callWith_builtin rfl (Calls.evalArgs_plain (Calls.spliced_cons (cS (he pins s1 σ H1 _ I1 q1) fun iv s2 ⟨y,H2,I2,ry,q2⟩ =>
    Calls.spliced_cons (cS (hf pins s2 σ H2 _ I2 q2) fun fv s3 ⟨z,H3,I3,rz,ov,g,q3⟩=>Calls.spliced_nil ?_))))
  exact AX hu I3 g ry rz fun w' s4 I4 rw'=>⟨_,H3,I4,rw',q3⟩
end
end L2
set_option maxHeartbeats 4000000
namespace D2
open PySem PySem.Spec PyProof.Rows L2
noncomputable def qw (base:Heap) (l:List Env) (e:Addr) (cls a0:Value) (h:Heap):Prop:=base.StaysIn h/\base.get? e=none/\h.FunFrames base l/\∃ fl,h.TracedAtW base e cls a0 fl
theorem qw.of {base h:Heap} {l:List Env} {e:Addr} {cls a0:Value} (x:Heap.FlyingW base l e cls a0 h):qw base l e cls a0 h:=⟨x.1,x.2.1,x.2.2.1,.none,x.2.2.2⟩
section
variable {M:Model} {A:Around} {E:Value->Shared->Prop} {s:Shared} {base:Heap} {l:List Env} {env:Env} {outer:List Env} {L e:Addr} {cls a0:Value} {Q:Unit->Shared->Prop}
theorem zY {h:Heap}:h.UpToSlots h:=fun b o hb _=>⟨o.slots,hb⟩
theorem rK (hfr:A.frames=some (env::outer)) (hf:env.frame=some L) (t:qw base (env::outer) e cls a0 s.heap)
    (hQ:∀ h',qw base (env::outer) e cls a0 h'->s.heap.UpToSlots h'->Q () { s with heap:=h' }):wpAny M A (noteFrame (.ref e) env) Q E s:=by
  have t':=t;obtain ⟨hkb,hen,hl,fl,oe,vs,T,oT,ts,he,⟨hcls,h0⟩,hd,h1,hnT,hTe,hT,hdT,h3⟩:=t;subst hcls;unfold noteFrame;simp only [hf];refine wpAny_bind (wpAny_field he hd h1 ?_);rw [if_pos (show (Value.ref T != Value.none)=true from by simp)];refine wpAny_bind (wpAny_field hT hdT h3 ?_);by_cases hfl:(fl==rawInt L)=true
  · rw [if_pos hfl];exact wpAny_pure (hQ s.heap t' zY)
  · rw [if_neg hfl];refine wpAny_bind (wpAny_setField hT hdT (Array.getElem?_eq_some_iff.mp h3).1 ?_);have other:∀ b,b≠T->(s.heap.update T (Obj.mapFields (·.setIfInBounds 3 Value.none))).get? b=s.heap.get? b:=fun b hb=>Heap.get?_update_other _ _ (Ne.symm hb)
    have noRecord:∀ b o,s.heap.get? b=some o->(∀ vs,o.data≠.fields vs)->b≠T:=fun b o hb hnf q=>by
      rw [q,hT] at hb;injection hb with hb;subst hb;exact hnf ts hdT
    refine wpAny_entryW hfr (hl.of_keeps fun b o hb hnf=>⟨o,(other b (noRecord b o hb hnf)).trans hb,rfl⟩) hf ((other e (Ne.symm hTe)).trans he)
      (fun b o hbo=>(other b fun q=>by rw [q,hnT] at hbo;cases hbo).trans (hkb b o hbo)) hen hd (Array.getElem?_eq_some_iff.mp h1).1 h0
      fun h' ⟨x1,x2,x3,x4⟩=>hQ h' ⟨x1,hen,x2,_,x3⟩ fun b o hb hnf=>x4 b o ((other b (noRecord b o hb hnf)).trans hb) hnf
theorem tq (f:Option Addr) (t:qw base l e cls a0 s.heap) (hQ:∀ h',qw base l e cls a0 h'->s.heap.UpToSlots h'->Q () { s with heap:=h' }):wpAny M A (setFlight (.ref e) f) Q E s:=by
  obtain ⟨hkb,hen,hl,fl,oe,vs,T,oT,ts,he,hcls,hd,h1,hnT,hTe,hT,hdT,h3⟩:=t;have hsz3:3 < ts.size:=(Array.getElem?_eq_some_iff.mp h3).1;have other:∀ b,b≠T->(s.heap.update T (Obj.mapFields (·.setIfInBounds 3 (f.elim Value.none fun f=>rawInt f)))).get? b=s.heap.get? b :=
    fun b hb=>Heap.get?_update_other _ _ (Ne.symm hb)
  have noRecord:∀ b o,s.heap.get? b=some o->(∀ vs,o.data≠.fields vs)->b≠T:=fun b o hb hnf q=>by
    rw [q,hT] at hb;injection hb with hb;subst hb;exact hnf ts hdT
  unfold setFlight;refine wpAny_bind (wpAny_field he hd h1 ?_);rw [if_pos (show (Value.ref T != Value.none)=true from by simp)];refine wpAny_setField hT hdT hsz3 (hQ _ ⟨fun b o hbo=>(other b fun q=>by rw [q,hnT] at hbo;cases hbo).trans (hkb b o hbo),hen,
    hl.of_keeps fun b o hb hnf=>⟨o,(other b (noRecord b o hb hnf)).trans hb,rfl⟩,(f.elim Value.none fun f=>rawInt f),?_⟩ fun b o hb hnf=>⟨o.slots,(other b (noRecord b o hb hnf)).trans hb⟩)
  exact ⟨oe,vs,T,_,_,(other e (Ne.symm hTe)).trans he,hcls,hd,h1,hnT,hTe,Heap.get?_update_self _ hT (Obj.isFreed_of_fields (Obj.data_mapFields hdT _)),Obj.data_mapFields hdT _,by simp [hsz3]⟩
theorem xZ (t:qw base l e cls a0 s.heap) (hQ:∀ h',Heap.FlyingW base l e cls a0 h'->s.heap.UpToSlots h'->Q () { s with heap:=h' }):wpAny M A (setFlight (.ref e) none) Q E s:=by
  obtain ⟨hkb,hen,hl,fl,ht⟩:=t;exact wpAny_setFlight_noneW hkb hl ht fun h' k1 k2 k3 k4=>hQ h' ⟨k1,hen,k2,k3⟩ fun b o hb hn=>⟨o.slots,k4 b o hb hn⟩
theorem vH (hfr:A.frames=some (env::outer)) (hf:env.frame=some L) (t:qw base (env::outer) e cls a0 s.heap)
    (hQ:∀ h',Heap.FlyingW base outer e cls a0 h'->s.heap.UpToSlots h'->Q () { s with heap:=h' }):wpAny M A (leaving env (.ref e)) Q E s:=by
  unfold leaving;refine wpAny_bind (rK hfr hf t fun h1 t1 u1=>?_);refine xZ (s:={ s with heap:=h1 }) t1 fun h2 t2 u2=>?_
  obtain ⟨k1,k2,⟨_,_,k3⟩,k4⟩:=t2;exact hQ h2 ⟨k1,k2,k3,k4⟩ (u1.trans u2)
theorem xY {α:Type} {k:Value->Sem α} {Q:α->Shared->Prop} (t:qw base l e cls a0 s.heap) (hQ:∀ T,wpAny M A (k (.ref T)) Q E s):wpAny M A (field (.ref e) 1>>=k) Q E s:=by
  obtain ⟨hkb,hen,hl,fl,oe,vs,T,oT,ts,he,hcls,hd,h1,r⟩:=t;exact wpAny_bind (wpAny_field he hd h1 (hQ T))
theorem x0 {α:Type} {what:String} {Q:α->Shared->Prop} (t:qw base l e cls a0 s.heap) (hQ:∀ h',qw base l e cls a0 h'->s.heap.UpToSlots h'->E (.ref e) { s with heap:=h' }):wpAny M A (PySem.passOn what (.ref e) env:Sem α) Q E s:=by
  unfold PySem.passOn;refine xY t fun T=>?_
  rw [if_neg (show ¬ ((Value.ref T==Value.none)=true) from by simp)];refine wpAny_bind (tq _ t fun h' t' u=>?_);exact wpAny_throw (hQ h' t' u)
theorem qw.first {h:Heap} (x:qw base l e cls a0 h):∃ oe vs,h.get? e=some oe/\oe.cls=cls/\oe.data=.fields vs/\vs[0]?=some a0 :=
  let ⟨_,_,_,_,oe,vs,_,_,_,he,hc,hd,_⟩:=x;⟨oe,vs,he,hc.1,hd,hc.2⟩
end
noncomputable abbrev St:=L2.St
noncomputable abbrev aC:=@L2.aC
noncomputable def fx:cN->PyData
  | .inl i=>.int i
  | .inr x=>.str x
mutual
noncomputable def Rp (H:Hp):PyData->V->Prop
  | .none,v=>v=.non
  | .bool b,v=>v=.bl b
  | .int i,v=>v=.int i
  | .str x,v=>v=.str x
  | .tuple ds,v=>∃ a vs,v=.ref a/\H a=some (.tup vs)/\bF H ds vs
  | .list ds,v=>∃ a o vs,v=.ref a/\H a=some (.frz o (.lst vs))/\bF H ds vs
  | .dict kvs,v=>(∃ a o ks,v=.ref a/\H a=some (.frz o (.dK ks))/\dQ H kvs ks)\/∃ a o C dx fs,v=.ref a/\H a=some (.frz o (.ins C dx fs))/\ye H C fs kvs
noncomputable def bF (H:Hp):List PyData->List V->Prop
  | [],vs=>vs=[]
  | d::ds,vs=>∃ v r,vs=v::r/\Rp H d v/\bF H ds r
noncomputable def dQ (H:Hp):List (PyData×PyData)->List (cN×V)->Prop
  | [],ks=>ks=[]
  | kd::kvs,ks=>∃ x v r,ks=(x,v)::r/\yw H kd x v/\dQ H kvs r
noncomputable def yw (H:Hp):PyData×PyData->cN->V->Prop
  | (k,d),x,v=>k=fx x/\Rp H d v
noncomputable def ye (H:Hp) (C:Addr) (fs:List (Str×V)):List (PyData×PyData)->Prop
  | []=>False
  | kd::kvs=>kd=(.none,.int C)/\yu H kvs fs
noncomputable def yu (H:Hp):List (PyData×PyData)->List (Str×V)->Prop
  | [],fs=>fs=[]
  | kd::kvs,fs=>∃ x v r,fs=(x,v)::r/\B4 H kd x v/\yu H kvs r
noncomputable def B4 (H:Hp):PyData×PyData->Str->V->Prop
  | (k,d),x,v=>k=.str x/\Rp H d v
end
noncomputable def gc:List (PyData×PyData)->Bool
  | (.none,_)::_=>true
  | _=>false
noncomputable def Kp (H H':Hp):Prop:=(∀ b xs,H b=some (.tup xs)->H' b=some (.tup xs))/\∀ b o u,H b=some (.frz o u)->H' b=some (.frz o u)
theorem Kp.trans {H H1 H2:Hp} (a:Kp H H1) (b:Kp H1 H2):Kp H H2:=⟨fun c xs h=>b.1 c xs (a.1 c xs h),fun c o u h=>b.2 c o u (a.2 c o u h)⟩
theorem Kp.of {H H':Hp} (s:ar H H'):Kp H H':=⟨fun b xs h=>s b _ h,fun b o u h=>s b _ h⟩
mutual
theorem Rp.kp {H H':Hp} (k:Kp H H'):∀ (d:PyData) (v:V),Rp H d v->Rp H' d v
  | .none,v,h=>by simpa only [Rp] using h
  | .bool b,v,h=>by simpa only [Rp] using h
  | .int i,v,h=>by simpa only [Rp] using h
  | .str x,v,h=>by simpa only [Rp] using h
  | .tuple ds,v,h=>by
    simp only [Rp] at h ⊢;obtain ⟨a,vs,e,ha,r⟩:=h;exact ⟨a,vs,e,k.1 _ _ ha,bF.kp k ds vs r⟩
  | .list ds,v,h=>by
    simp only [Rp] at h ⊢;obtain ⟨a,o,vs,e,ha,r⟩:=h;exact ⟨a,o,vs,e,k.2 _ _ _ ha,bF.kp k ds vs r⟩
  | .dict kvs,v,h=>by
    simp only [Rp] at h ⊢;rcases h with ⟨a,o,ks,e,ha,r⟩ | ⟨a,o,C,dx,fs,e,ha,r⟩
    · exact .inl ⟨a,o,ks,e,k.2 _ _ _ ha,dQ.kp k kvs ks r⟩
    · exact .inr ⟨a,o,C,dx,fs,e,k.2 _ _ _ ha,ye.kp k C fs kvs r⟩
theorem bF.kp {H H':Hp} (k:Kp H H'):∀ (ds:List PyData) (vs:List V),bF H ds vs->bF H' ds vs
  | [],vs,h=>by simpa only [bF] using h
  | d::ds,vs,h=>by
    simp only [bF] at h ⊢;obtain ⟨v,r,e,h1,h2⟩:=h;exact ⟨v,r,e,Rp.kp k d v h1,bF.kp k ds r h2⟩
theorem dQ.kp {H H':Hp} (k:Kp H H'):∀ (kvs:List (PyData×PyData)) (ks:List (cN×V)),dQ H kvs ks->dQ H' kvs ks
  | [],ks,h=>by simpa only [dQ] using h
  | kd::kvs,ks,h=>by
    simp only [dQ] at h ⊢;obtain ⟨x,v,r,e,h1,h2⟩:=h;exact ⟨x,v,r,e,yw.kp k kd x v h1,dQ.kp k kvs r h2⟩
theorem yw.kp {H H':Hp} (k:Kp H H'):∀ (kd:PyData×PyData) (x:cN) (v:V),yw H kd x v->yw H' kd x v
  | (c,d),x,v,h=>by
    simp only [yw] at h ⊢;exact ⟨h.1,Rp.kp k d v h.2⟩
theorem ye.kp {H H':Hp} (k:Kp H H') (C:Addr) (fs:List (Str×V)):∀ (kvs:List (PyData×PyData)),ye H C fs kvs->ye H' C fs kvs
  | [],h=>by simpa only [ye] using h
  | kd::kvs,h=>by
    simp only [ye] at h ⊢;exact ⟨h.1,yu.kp k kvs fs h.2⟩
theorem yu.kp {H H':Hp} (k:Kp H H'):∀ (kvs:List (PyData×PyData)) (fs:List (Str×V)),yu H kvs fs->yu H' kvs fs
  | [],fs,h=>by simpa only [yu] using h
  | kd::kvs,fs,h=>by
    simp only [yu] at h ⊢;obtain ⟨x,v,r,e,h1,h2⟩:=h;exact ⟨x,v,r,e,B4.kp k kd x v h1,yu.kp k kvs r h2⟩
theorem B4.kp {H H':Hp} (k:Kp H H'):∀ (kd:PyData×PyData) (x:Str) (v:V),B4 H kd x v->B4 H' kd x v
  | (c,d),x,v,h=>by
    simp only [B4] at h ⊢;exact ⟨h.1,Rp.kp k d v h.2⟩
end
theorem Rp.mono {H H':Hp} {d:PyData} {v:V} (h:Rp H d v) (s:ar H H'):Rp H' d v:=Rp.kp (Kp.of s) d v h
theorem bF.mono {H H':Hp} {ds:List PyData} {vs:List V} (h:bF H ds vs) (s:ar H H'):bF H' ds vs:=bF.kp (Kp.of s) ds vs h
noncomputable def jb (H:Hp):PyData->V->Prop
  | .list ds,v=>∃ a vs,v=.ref a/\H a=some (.lst vs)/\bF H ds vs
  | .dict kvs,v=>∃ a ks,v=.ref a/\H a=some (.dK ks)/\dQ H kvs ks
  | _,_=>False
theorem jb.mono {H H':Hp} {d:PyData} {v:V} (h:jb H d v) (s:ar H H'):jb H' d v:=by
  cases d <;> simp only [jb] at h ⊢
  · obtain ⟨a,vs,e,ha,r⟩:=h;exact ⟨a,vs,e,s _ _ ha,bF.mono r s⟩
  · obtain ⟨a,vs,e,ha,r⟩:=h;exact ⟨a,vs,e,s _ _ ha,dQ.kp (Kp.of s) _ _ r⟩
noncomputable def fT (H:Hp) (d:PyData) (v:V):Prop:=Rp H d v\/jb H d v
theorem fT.mono {H H':Hp} {d:PyData} {v:V} (h:fT H d v) (s:ar H H'):fT H' d v:=h.elim (fun h=>.inl (h.mono s)) fun h=>.inr (h.mono s)
noncomputable def AD (H H':Hp) (d:PyData) (v:V):Prop:=jb H' d v/\∃ a,v=.ref a/\H a=none
inductive bi where
  | non
  | val (d:PyData)
  | own (d:PyData)
  | exc (p:Addr)
noncomputable abbrev aE:=List bi
noncomputable def iq (H:Hp):bi->Option V->Prop
  | .non,_=>True
  | .val d,o=>∃ v,o=some v/\Rp H d v
  | .own d,o=>∃ v,o=some v/\jb H d v
  | .exc p,o=>o=some (.ref p)
noncomputable def Sl (H:Hp) (σ:St) (ρ:aE):Prop:=σ.length=ρ.length/\∀ (i:Nat) (c:bi) (o:Option V),ρ[i]?=some c->σ[i]?=some o->iq H c o
theorem iq.mono {H H':Hp} {c:bi} {o:Option V} (h:iq H c o) (s:ar H H'):iq H' c o:=by
  cases c <;> simp only [iq] at h ⊢
  · obtain ⟨v,e,h⟩:=h;exact ⟨v,e,h.mono s⟩
  · obtain ⟨v,e,h⟩:=h;exact ⟨v,e,h.mono s⟩
  · exact h
theorem Sl.mono {H H':Hp} {σ:St} {ρ:aE} (h:Sl H σ ρ) (s:ar H H'):Sl H' σ ρ:=⟨h.1,fun i c o h1 h2=>(h.2 i c o h1 h2).mono s⟩
inductive R (α:Type) where
  | ok (a:α)
  | ex (c:Str)
  | no
noncomputable def R.bind {α β:Type}:R α->(α->R β)->R β
  | .ok a,f=>f a
  | .ex c,_=>.ex c
  | .no,_=>.no
noncomputable instance:Monad R where
  pure:=.ok
  bind:=R.bind
@[simp] theorem R.ok_bind {α β:Type} (a:α) (f:α->R β):(R.ok a>>=f)=f a:=(rfl)
structure kW (P:Program) (w:World) (outer:List Env) (H:Hp) (s:Shared) (C:Addr) (H':Hp) (e:Value) (s':Shared):Prop where
  os:s'.os=s.os
  bare:AllBare s'.gens
  same:ar H H'
  ex:∃ (p:Addr) (a0:Value) (B:Heap),e=.ref p/\Heap.FlyingW B outer p (.ref C) a0 s'.heap/\gj P w H' B/\H' p=none/\∀ b o,s.heap.get? b=some o->H b=none->b∉jR outer->B.get? b=some o/\H' b=none
  slot:∀ b o,s.heap.get? b=some o->H b=none->b∈jR outer->(∃ sl,s'.heap.get? b=some { o with slots:=sl })/\H' b=none
structure o5 (P:Program) (w:World) (outer:List Env) (H:Hp) (s:Shared) (C:Addr) (H':Hp) (e:Value) (s':Shared):Prop where
  os:s'.os=s.os
  bare:AllBare s'.gens
  same:ar H H'
  ex:∃ (p:Addr) (a0:Value) (B:Heap),e=.ref p/\qw B outer p (.ref C) a0 s'.heap/\gj P w H' B/\H' p=none/\∀ b o,s.heap.get? b=some o->H b=none->b∉jR outer->B.get? b=some o/\H' b=none
  slot:∀ b o,s.heap.get? b=some o->H b=none->b∈jR outer->(∃ sl,s'.heap.get? b=some { o with slots:=sl })/\H' b=none
theorem kW.hld {P:Program} {w:World} {outer:List Env} {H:Hp} {s:Shared} {C:Addr} {H':Hp} {e:Value} {s':Shared} (f:kW P w outer H s C H' e s'):o5 P w outer H s C H' e s' :=
  ⟨f.os,f.bare,f.same,let ⟨p,a0,B,h1,h2,h3⟩:=f.ex;⟨p,a0,B,h1,qw.of h2,h3⟩,f.slot⟩
noncomputable def cM (P:Program) (w:World) (mg:Str->Option Value):vQ:=fun outer H s E e s'=>∃ n C H',mg n=some (.ref C)/\kW P w outer H s C H' e s'/\E (.str n 0) none H'
noncomputable def EX (X:Cx):XK:=fun v _ H'=>∀ (n:Str) (C:Addr),v=.str n 0->X.mg n=some (.ref C)->∀ (pins:List (Addr×Obj)) (σ:St) (H:Hp) (s:Shared) (e:Value) (s':Shared),aC X pins σ H s->kW X.prog X.w X.stack H s C H' e s'->X.xe e s'
theorem zr {X:Cx}:rY (cM X.prog X.w X.mg) X (EX X):=fun pins σ H s e s' I ⟨n,C,H',hm,f,q⟩=>q n C rfl hm pins σ H s e s' I f
noncomputable def Xw (X:Cx) (c:Str) (H:Hp):Prop:=∀ H1,ar H H1->∀ (C:Addr),X.mg c=some (.ref C)->∀ (pins:List (Addr×Obj)) (σ:St) (Hc:Hp) (s:Shared) (e:Value) (s':Shared),aC X pins σ Hc s->o5 X.prog X.w X.stack Hc s C H1 e s'->X.xe e s'
theorem Xw.mono {X:Cx} {c:Str} {H H':Hp} (h:Xw X c H) (s:ar H H'):Xw X c H':=fun H1 s1=>h H1 (s.trans s1)
theorem Xw.ex {X:Cx} {c:Str} {H:Hp} (h:Xw X c H):∀ H1,ar H H1->EX X (.str c 0) none H1:=fun H1 s1 n C en hm pins σ Hc s e s' I f=>by
  have en':c=n:=by injection en
  subst en';exact h H1 s1 C hm pins σ Hc s e s' I f.hld
noncomputable def Ch (X:Cx) (c:Str) (Fm:Hp):Prop:=∀ C,X.mg c=some (.ref C)->∀ (pins:List (Addr×Obj)) (σ:St) (H:Hp) (s:Shared),ar Fm H->aC X pins σ H s->∀ (h':Heap) (p:Addr) (vs:List Value),Heap.MadeExcOf s.heap h' p (.ref C) vs->X.xe (.ref p) { s with heap:=h' }
theorem Ch.mono {X:Cx} {c:Str} {H H':Hp} (h:Ch X c H) (s:ar H H'):Ch X c H':=fun C hm pins σ H1 s1 e=>h C hm pins σ H1 s1 (s.trans e)
noncomputable def ud (X:Cx) (P:Hp->Hp->PyData->V->Prop) (r:R PyData) (H:Hp) (Q:VK):Prop :=
  match r with
  | .ok d=>∀ v H',ar H H'->P H H' d v->Q v H'
  | .ex c=>Xw X c H
  | .no=>False
noncomputable abbrev fU:Hp->Hp->PyData->V->Prop:=fun _ H' d v=>Rp H' d v
noncomputable abbrev o7:Hp->Hp->PyData->V->Prop:=fun _ H' d v=>fT H' d v
noncomputable abbrev Dv:Hp->Hp->PyData->V->Prop:=fun H H' d v=>Rp H' d v\/AD H H' d v
noncomputable abbrev Fe:=aE->R PyData
noncomputable def ik (X:Cx) (P:Hp->Hp->PyData->V->Prop) (f:Fe):TE:=fun σ H Q=>∃ ρ,Sl H σ ρ/\ud X P (f ρ) H Q
noncomputable def cE (X:Cx) (e:Expr) (f:Fe):Prop:=PE X e (ik X fU f)
structure Z.cE (X:Cx) (e:Expr) (f:Fe):Prop where
  un:D2.cE X e f
noncomputable def cT (X:Cx) (e:Expr) (f:Fe):Prop:=PE X e (ik X o7 f)
structure Z.cT (X:Cx) (e:Expr) (f:Fe):Prop where
  un:D2.cT X e f
noncomputable def yr (X:Cx) (e:Expr) (f:Fe):Prop:=PE X e (ik X Dv f)
structure Z.yr (X:Cx) (e:Expr) (f:Fe):Prop where
  un:D2.yr X e f
noncomputable def ky (X:Cx) (e:Expr) (f:Fe):Prop:=PE X e (ik X AD f)
structure Z.ky (X:Cx) (e:Expr) (f:Fe):Prop where
  un:D2.ky X e f
noncomputable def RA (I:Hp->PyData->V->Prop) (H:Hp):List PyData->List V->Prop
  | [],vs=>vs=[]
  | d::ds,vs=>∃ v r,vs=v::r/\I H d v/\RA I H ds r
theorem nc {H:Hp}:∀ {ds:List PyData} {vs:List V},RA Rp H ds vs<->bF H ds vs
  | [],vs=>by simp only [RA,bF]
  | d::ds,vs=>by simp only [RA,bF,nc (ds:=ds)]
noncomputable def xJ (X:Cx) (I:Hp->PyData->V->Prop) (f:aE->R (List PyData)):TA:=fun σ H Q=>∃ ρ,Sl H σ ρ/\match f ρ with
  | .ok ds=>∀ vs H',ar H H'->RA I H' ds vs->Q vs H'
  | .ex c=>Xw X c H
  | .no=>False
noncomputable def rW (X:Cx) (es:List Expr) (f:aE->R (List PyData)):Prop:=PA X es (xJ X Rp f)
structure Z.rW (X:Cx) (es:List Expr) (f:aE->R (List PyData)):Prop where
  un:D2.rW X es f
noncomputable def AB (X:Cx) (es:List Expr) (f:aE->R (List PyData)):Prop:=PA X es (xJ X fT f)
noncomputable def zJ (X:Cx) (f:aE->R Bool):TT:=fun σ H Q=>∃ ρ,Sl H σ ρ/\match f ρ with
  | .ok b=>∀ H',ar H H'->Q b H'
  | .ex c=>Xw X c H
  | .no=>False
noncomputable def nC (X:Cx) (e:Expr) (f:aE->R Bool):Prop:=PT X e (zJ X f)
structure Z.nC (X:Cx) (e:Expr) (f:aE->R Bool):Prop where
  un:D2.nC X e f
noncomputable def vP (X:Cx) (e:Expr) (f:aE->R Bool):Prop:=PW X e (zJ X f)
structure Z.vP (X:Cx) (e:Expr) (f:aE->R Bool):Prop where
  un:D2.vP X e f
theorem PE.imp {X:Cx} {e:Expr} {t t':TE} (h:PE X e t) (i:∀ σ H Q,t' σ H Q->t σ H Q):PE X e t':=fun pins s σ H Q I q=>h pins s σ H Q I (i σ H Q q)
theorem PT.imp {X:Cx} {e:Expr} {t t':TT} (h:PT X e t) (i:∀ σ H Q,t' σ H Q->t σ H Q):PT X e t':=fun pins s σ H Q I q=>h pins s σ H Q I (i σ H Q q)
theorem PW.imp {X:Cx} {e:Expr} {t t':TT} (h:PW X e t) (i:∀ σ H Q,t' σ H Q->t σ H Q):PW X e t':=fun wh pins s σ H Q I q=>h wh pins s σ H Q I (i σ H Q q)
theorem PA.imp {X:Cx} {e:List Expr} {t t':TA} (h:PA X e t) (i:∀ σ H Q,t' σ H Q->t σ H Q):PA X e t':=fun pos pins s σ H Q I q=>h pos pins s σ H Q I (i σ H Q q)
theorem ik.post {X:Cx} {P:Hp->Hp->PyData->V->Prop} {f:Fe} {σ:St} {H:Hp} {Q Q':VK} (h:ik X P f σ H Q) (i:∀ v H',Q v H'->Q' v H'):ik X P f σ H Q':=by
  obtain ⟨ρ,sl,q⟩:=h;refine ⟨ρ,sl,?_⟩;cases e:f ρ with
  | ok d=>rw [e] at q;exact fun v H' s p=>i _ _ (q v H' s p)
  | ex c=>rw [e] at q;exact q
  | no=>rw [e] at q;exact q
theorem zJ.post {X:Cx} {f:aE->R Bool} {σ:St} {H:Hp} {Q Q':Bool->Hp->Prop} (h:zJ X f σ H Q) (i:∀ b H',Q b H'->Q' b H'):zJ X f σ H Q':=by
  obtain ⟨ρ,sl,q⟩:=h;refine ⟨ρ,sl,?_⟩;cases e:f ρ with
  | ok d=>rw [e] at q;exact fun H' s=>i _ _ (q H' s)
  | ex c=>rw [e] at q;exact q
  | no=>rw [e] at q;exact q
theorem xJ.post {X:Cx} {I:Hp->PyData->V->Prop} {f:aE->R (List PyData)} {σ:St} {H:Hp} {Q Q':List V->Hp->Prop} (h:xJ X I f σ H Q) (i:∀ vs H',Q vs H'->Q' vs H'):xJ X I f σ H Q':=by
  obtain ⟨ρ,sl,q⟩:=h;refine ⟨ρ,sl,?_⟩;cases e:f ρ with
  | ok d=>rw [e] at q;exact fun vs H' s p=>i _ _ (q vs H' s p)
  | ex c=>rw [e] at q;exact q
  | no=>rw [e] at q;exact q
theorem ik.weaken {X:Cx} {P P':Hp->Hp->PyData->V->Prop} {f:Fe} (h:∀ H H' d v,P H H' d v->P' H H' d v) (σ:St) (H:Hp) (Q:VK) (q:ik X P' f σ H Q):ik X P f σ H Q:=by
  obtain ⟨ρ,sl,q⟩:=q;refine ⟨ρ,sl,?_⟩;cases e:f ρ with
  | ok d=>rw [e] at q;exact fun v H' s p=>q v H' s (h _ _ _ _ p)
  | ex c=>rw [e] at q;exact q
  | no=>rw [e] at q;exact q
section
variable {X:Cx} {e:Expr} {f:Fe}
theorem cE.b (h:cE X e f):cT X e f:=PE.imp h (ik.weaken fun _ _ _ _ p=>Or.inl p)
theorem aa (h:Z.cE X e f):Z.cT X e f :=
  ⟨D2.cE.b h.un⟩
theorem ky.b (h:ky X e f):cT X e f:=PE.imp h (ik.weaken fun _ _ _ _ p=>Or.inr p.1)
theorem cO (h:Z.ky X e f):Z.cT X e f :=
  ⟨D2.ky.b h.un⟩
theorem ky.toF (h:ky X e f):yr X e f:=PE.imp h (ik.weaken fun _ _ _ _ p=>Or.inr p)
end
section
variable {X:Cx} {pins:List (Addr×Obj)} {σ:St} {H:Hp} {s:Shared} {a:Addr} {u:HO}
theorem jG (I:aC X pins σ H s) (h:H a=some u) (hm:(∃ xs,u=.lst xs)\/∃ ks,u=.dK ks):∃ o,aC X pins σ (du H a (.frz o u)) s:=by
  have ob:=I.hok a u h;have hg:∃ o,s.heap.get? a=some o:=by
    rcases hm with ⟨xs,rfl⟩ | ⟨ks,rfl⟩
    · obtain ⟨_,_,_,_,e⟩:=ob;exact ⟨_,e⟩
    · obtain ⟨_,_,_,_,o,_,_,e,_⟩:=ob;exact ⟨_,e⟩
  obtain ⟨o,hg⟩:=hg;have nt:∀ b xs,H b=some (.tup xs)->b≠a:=fun b xs q z=>by subst z;rw [h] at q;rcases hm with ⟨_,rfl⟩ | ⟨_,rfl⟩ <;> cases q
  have nf:∀ b o' u',H b=some (.frz o' u')->b≠a:=fun b o' u' q z=>by subst z;rw [h] at q;rcases hm with ⟨_,rfl⟩ | ⟨_,rfl⟩ <;> cases q
  have nb:∀ b ps,H b=some (.tbl ps)->b≠a:=fun b ps q z=>by subst z;rw [h] at q;rcases hm with ⟨_,rfl⟩ | ⟨_,rfl⟩ <;> cases q
  have nw:∀ b y,H b=some (.own y)->b≠a:=fun b y q z=>by subst z;rw [h] at q;rcases hm with ⟨_,rfl⟩ | ⟨_,rfl⟩ <;> cases q
  have nn:∀ b,H b=none->b≠a:=fun b q z=>by subst z;rw [h] at q;cases q
  have st:∀ b x,bV X.prog X.w H s.heap b x->bV X.prog X.w (du H a (.frz o u)) s.heap b x:=fun b x q =>
    q.stay (fun c v _ e=>e) (fun c e=>by rw [aJ (nw _ _ e)];exact e) fun c xs e=>by rw [aJ (nt _ _ e)];exact e
  refine ⟨o,⟨I.ok,I.os,I.bare,⟨I.base.keep,I.base.slot,fun b ob' e n hx=>?_,I.base.there,fun b xs e=>?_,fun b ob' v e=>?_,fun b ps e=>?_⟩,I.loc,I.cell,?_,fun x c e=>?_,fun p hp=>?_,fun b x e=>?_,I.len⟩⟩
  · have:=I.base.free b ob' e n hx;rw [aJ (nn _ this)];exact this
  · have:=I.base.tups b xs e;rw [aJ (nt _ _ this)];exact this
  · have:=I.base.frzs b ob' v e;rw [aJ (nf _ _ _ this)];exact this
  · obtain ⟨m,q⟩:=I.base.tbls b ps e;exact ⟨m,by rw [aJ (nb _ _ q)];exact q⟩
  · rw [aJ (nn _ I.free)];exact I.free
  · rw [aJ (nn _ (I.freeC x c e))];exact I.freeC x c e
  · obtain ⟨p1,p2,p3⟩:=I.pin p hp;exact ⟨p1,by rw [aJ (nn _ p2)];exact p2,p3⟩
  · by_cases hb:b=a
    · subst hb;rw [cj] at e;cases e;exact ⟨hg,st b u ob⟩
    · rw [aJ hb] at e;exact st b x (I.hok b x e)
theorem iJ {o':HO} (h:H a=some u) (hm:(∃ xs,u=.lst xs)\/∃ ks,u=.dK ks):Kp H (du H a o'):=by
  refine ⟨fun b xs e=>?_,fun b o v e=>?_⟩
  · rw [aJ];exact e;rintro rfl;rw [h] at e;rcases hm with ⟨_,rfl⟩ | ⟨_,rfl⟩ <;> cases e
  · rw [aJ];exact e;rintro rfl;rw [h] at e;rcases hm with ⟨_,rfl⟩ | ⟨_,rfl⟩ <;> cases e
theorem A7 {H0:Hp} {d:PyData} {v:V} (I:aC X pins σ H s) (hs:ar H0 H) (n:AD H0 H d v):∃ H',aC X pins σ H' s/\ar H0 H'/\Rp H' d v:=by
  obtain ⟨n,a,rfl,h0⟩:=n;have go:∀ u:HO,H a=some u->((∃ xs,u=.lst xs)\/∃ ks,u=.dK ks)->∃ o,aC X pins σ (du H a (.frz o u)) s/\ar H0 (du H a (.frz o u))/\Kp H (du H a (.frz o u)):=fun u hu hm=>by
    obtain ⟨o,J⟩:=jG I hu hm;refine ⟨o,J,fun b x e=>?_,iJ hu hm⟩;rw [aJ (bh e h0)];exact hs b x e
  cases d <;> simp only [jb] at n
  · obtain ⟨a',vs,e,ha,r⟩:=n;cases e;obtain ⟨o,J,S,K⟩:=go _ ha (.inl ⟨_,rfl⟩);refine ⟨_,J,S,?_⟩;simp only [Rp];exact ⟨a,o,vs,rfl,cj,bF.kp K _ _ r⟩
  · obtain ⟨a',vs,e,ha,r⟩:=n;cases e;obtain ⟨o,J,S,K⟩:=go _ ha (.inr ⟨_,rfl⟩);refine ⟨_,J,S,?_⟩;simp only [Rp];exact .inl ⟨a,o,vs,rfl,cj,dQ.kp K _ _ r⟩
end
theorem yr.e {X:Cx} {e:Expr} {f:Fe} (h:yr X e f):cE X e f:=by
  intro pins s σ H Q I q;obtain ⟨ρ,sl,q⟩:=q;cases ef:f ρ with
  | ok d =>
    rw [ef] at q;refine cS (h pins s σ H (fun v H'=>ar H H'/\Dv H H' d v) I ⟨ρ,sl,by rw [ef];exact fun v H' hs p=>⟨hs,p⟩⟩) fun u s' ⟨v,H',I',r,hs,p⟩=>?_
    rcases p with p | p
    · exact ⟨v,H',I',r,q v H' hs p⟩
    · obtain ⟨H2,I2,S2,p2⟩:=A7 I' hs p;exact ⟨v,H2,I2,r,q v H2 S2 p2⟩
  | ex c=>rw [ef] at q;exact cS (h pins s σ H (fun _ _=>False) I ⟨ρ,sl,by rw [ef];exact q⟩) fun u s' ⟨v,H',I',r,z⟩=>z.elim
  | no=>rw [ef] at q;exact q.elim
theorem Dy {X:Cx} {e:Expr} {f:Fe} (h:Z.yr X e f):Z.cE X e f :=
  ⟨D2.yr.e h.un⟩
theorem ky.e {X:Cx} {e:Expr} {f:Fe} (h:ky X e f):cE X e f:=(ky.toF h).e
theorem gU {X:Cx} {e:Expr} {f:Fe} (h:Z.ky X e f):Z.cE X e f :=
  ⟨D2.ky.e h.un⟩
structure yz {β:Type} (X:Cx) (T:R β->Hp->Prop):Prop where
  mono:∀ r H H',T r H->ar H H'->T r H'
  ex:∀ c H,T (.ex c) H->Xw X c H
  no:∀ H,¬ T .no H
noncomputable def Dn (P:Hp->Hp->PyData->V->Prop):Prop:=∀ H H1 H' d v,ar H H1->P H1 H' d v->P H H' d v
theorem dO:Dn fU:=fun _ _ _ _ _ _ p=>p
theorem wy:Dn AD:=fun _ _ _ _ _ s p=>⟨p.1,let ⟨a,e,h⟩:=p.2;⟨a,e,s.free h⟩⟩
theorem yL:Dn Dv:=fun _ _ _ _ _ s p=>p.elim .inl fun p=>.inr (wy _ _ _ _ _ s p)
section
variable {X:Cx} {σ:St} {H:Hp}
theorem dI {P:Hp->Hp->PyData->V->Prop} (hP:Dn P) (Q:VK):yz X (fun r H=>ud X P r H Q) where
  mono:=fun r H H' h s=>by
    cases r with
    | ok d=>exact fun v H2 s2 p=>h v H2 (s.trans s2) (hP _ _ _ _ _ s p)
    | ex c=>exact Xw.mono h s
    | no=>exact h
  ex:=fun c H h=>h
  no:=fun H h=>h
theorem uh (Q:Bool->Hp->Prop):yz X (fun (r:R Bool) H=>match r with | .ok b=>∀ H',ar H H'->Q b H' | .ex c=>Xw X c H | .no=>False) where
  mono:=fun r H H' h s=>by
    cases r with
    | ok d=>exact fun H2 s2=>h H2 (s.trans s2)
    | ex c=>exact Xw.mono h s
    | no=>exact h
  ex:=fun c H h=>h
  no:=fun H h=>h
theorem Az (I:Hp->PyData->V->Prop) (Q:List V->Hp->Prop):yz X (fun (r:R (List PyData)) H=>match r with | .ok ds=>∀ vs H',ar H H'->RA I H' ds vs->Q vs H' | .ex c=>Xw X c H | .no=>False) where
  mono:=fun r H H' h s=>by
    cases r with
    | ok d=>exact fun vs H2 s2=>h vs H2 (s.trans s2)
    | ex c=>exact Xw.mono h s
    | no=>exact h
  ex:=fun c H h=>h
  no:=fun H h=>h
theorem cQ {β:Type} {T:R β->Hp->Prop} (t:yz X T) {P:Hp->Hp->PyData->V->Prop} {f:Fe} {k:aE->PyData->R β} (h:∃ ρ,Sl H σ ρ/\T (f ρ>>=k ρ) H) :
    ik X P f σ H (fun v H1=>∃ ρ d,Sl H1 σ ρ/\ar H H1/\P H H1 d v/\T (k ρ d) H1):=by
  obtain ⟨ρ,sl,q⟩:=h;refine ⟨ρ,sl,?_⟩;cases e:f ρ with
  | ok d=>rw [e] at q;exact fun v H1 s p=>⟨ρ,d,sl.mono s,s,p,t.mono _ _ _ q s⟩
  | ex c=>rw [e] at q;exact t.ex _ _ q
  | no=>rw [e] at q;exact (t.no _ q).elim
theorem su {β:Type} {T:R β->Hp->Prop} (t:yz X T) {f:aE->R Bool} {k:aE->Bool->R β} (h:∃ ρ,Sl H σ ρ/\T (f ρ>>=k ρ) H) :
    zJ X f σ H (fun b H1=>∃ ρ,Sl H1 σ ρ/\ar H H1/\T (k ρ b) H1):=by
  obtain ⟨ρ,sl,q⟩:=h;refine ⟨ρ,sl,?_⟩;cases e:f ρ with
  | ok d=>rw [e] at q;exact fun H1 s=>⟨ρ,sl.mono s,s,t.mono _ _ _ q s⟩
  | ex c=>rw [e] at q;exact t.ex _ _ q
  | no=>rw [e] at q;exact (t.no _ q).elim
theorem mh {β:Type} {T:R β->Hp->Prop} (t:yz X T) {I:Hp->PyData->V->Prop} {f:aE->R (List PyData)} {k:aE->List PyData->R β} (h:∃ ρ,Sl H σ ρ/\T (f ρ>>=k ρ) H) :
    xJ X I f σ H (fun vs H1=>∃ ρ ds,Sl H1 σ ρ/\ar H H1/\RA I H1 ds vs/\T (k ρ ds) H1):=by
  obtain ⟨ρ,sl,q⟩:=h;refine ⟨ρ,sl,?_⟩;cases e:f ρ with
  | ok d=>rw [e] at q;exact fun vs H1 s p=>⟨ρ,d,sl.mono s,s,p,t.mono _ _ _ q s⟩
  | ex c=>rw [e] at q;exact t.ex _ _ q
  | no=>rw [e] at q;exact (t.no _ q).elim
end
noncomputable def af (i:Nat):Fe:=fun ρ=>match ρ[i]? with
  | some (.val d)=>.ok d
  | _=>.no
noncomputable def dD (i:Nat):Fe:=fun ρ=>match ρ[i]? with
  | some (.val d)=>.ok d
  | some (.own d)=>.ok d
  | _=>.no
noncomputable def eC (d:PyData):Fe:=fun _=>.ok d
structure Tb (X:Cx) (nl:Nat) (G:List Str):Prop where
  hu:X.A.units+64 < cLine
  calm:X.calm=true
  nd:X.N.Nodup
  vis:∀ x∈X.N,B5 X.env.scope x/\(x==("__debug__" : Str))=false/\(x==("__classdict__" : Str))=false
  loc:∀ x∈X.N.take nl,AC X.env.scope x/\(X.fn x=true\/X.env.scope.names.lookup x=some .local)
  gl:∀ x∈G,Gl X x/\(x==("__debug__" : Str))=false/\x≠("__name__" : Str)
section
variable {X:Cx} {nl:Nat} {G:List Str} {x:Str} {pos:Pos}
theorem Sl.at {H:Hp} {σ:St} {ρ:aE} {i:Nat} {c:bi} (h:Sl H σ ρ) (e:ρ[i]?=some c):∃ o,σ[i]?=some o/\iq H c o:=by
  have hi:i < σ.length:=by rw [h.1];exact (List.getElem?_eq_some_iff.mp e).1
  exact ⟨σ[i],List.getElem?_eq_getElem hi,h.2 i c _ e (List.getElem?_eq_getElem hi)⟩
theorem ad (T:Tb X nl G) (i:Nat) (hN:X.N[i]?=some x):Z.cE X (.Name x pos) (af i):=⟨by
  have hm:=T.vis x (List.mem_of_getElem? hN);refine PE.imp (hR hN hm.1 hm.2.1 hm.2.2) fun σ H Q ⟨ρ,sl,q⟩=>?_
  unfold af at q;split at q
  · rename_i d e;obtain ⟨o,h1,v,rfl,h2⟩:=sl.at e;exact ⟨v,h1,q v H (ar.refl H) h2⟩
  · exact q.elim⟩
theorem cA (T:Tb X nl G) (i:Nat) (hN:X.N[i]?=some x):Z.cT X (.Name x pos) (dD i):=⟨by
  have hm:=T.vis x (List.mem_of_getElem? hN);refine PE.imp (hR hN hm.1 hm.2.1 hm.2.2) fun σ H Q ⟨ρ,sl,q⟩=>?_
  unfold dD at q;split at q
  · rename_i d e;obtain ⟨o,h1,v,rfl,h2⟩:=sl.at e;exact ⟨v,h1,q v H (ar.refl H) (.inl h2)⟩
  · rename_i d e;obtain ⟨o,h1,v,rfl,h2⟩:=sl.at e;exact ⟨v,h1,q v H (ar.refl H) (.inr h2)⟩
  · exact q.elim⟩
theorem pN {e:Expr} {d:PyData} {v:V} (h:PE X e (tC v)) (r:∀ H,Rp H d v):cE X e (eC d) :=
  PE.imp h fun σ H Q ⟨ρ,sl,q⟩=>q v H (ar.refl H) (r H)
theorem ah {i j}:Z.cE X (.Constant (.int i) j pos) (eC (.int i)):=⟨pN Bs fun H=>by simp only [Rp]⟩
theorem aZ {b j}:Z.cE X (.Constant (.bool b) j pos) (eC (.bool b)):=⟨pN CC fun H=>by simp only [Rp]⟩
theorem dc {y j}:Z.cE X (.Constant (.str y) j pos) (eC (.str y)):=⟨pN Bw fun H=>by simp only [Rp]⟩
theorem bJ {i:Int} {t:Tok} (T:Tb X nl G) (j:Nat) (hG:G[j]?=some x) (hm:X.mg x=some (.int i t)):Z.cE X (.Name x pos) (eC (.int i)):=⟨by
  have g:=T.gl x (List.mem_of_getElem? hG);exact pN (lV g.1 hm (v:=.int i) ⟨t,rfl⟩ g.2.1) fun H=>by simp only [Rp]⟩
end
section
variable {X:Cx} {a b c:Expr} {fa fb fc:Fe} {pos:Pos}
noncomputable def e2 (g:PyData->PyData->R PyData) (fa fb:Fe):Fe:=fun ρ=>fa ρ>>=fun x=>fb ρ>>=fun y=>g x y
noncomputable def e1 (g:PyData->R PyData) (fa:Fe):Fe:=fun ρ=>fa ρ>>=fun x=>g x
noncomputable def bU (X:Cx) (P:Hp->Hp->PyData->V->Prop) (r:R2) (g:PyData->PyData->R PyData):Prop :=
  ∀ H x y dx dy Q,fT H dx x->fT H dy y->ud X P (g dx dy) H Q->r x y H Q
theorem DJ {P:Hp->Hp->PyData->V->Prop} {r:R2} {g:PyData->PyData->R PyData} (hP:Dn P) (hg:bU X P r g) (σ:St) (H:Hp) (Q:VK) (h:ik X P (e2 g fa fb) σ H Q) :
    Dh r (ik X o7 fa) (ik X o7 fb) σ H Q :=
  (cQ (P:=o7) (dI (X:=X) hP Q) h).post fun v H1 ⟨ρ1,d1,sl1,_,p1,q1⟩ =>
    (cQ (P:=o7) (f:=fb) (k:=fun _ y=>g d1 y) (dI (X:=X) hP Q) ⟨ρ1,sl1,q1⟩).post fun u H2 ⟨_,d2,_,s2,p2,q2⟩=>hg H2 v u d1 d2 Q (fT.mono p1 s2) p2 q2
theorem jC {op:Operator} {P:Hp->Hp->PyData->V->Prop} {r:R2} {g:PyData->PyData->R PyData} (hP:Dn P) (ho:gS X (binaryOp op) r) (hg:bU X P r g) (ha:cT X a fa) (hb:cT X b fb) :
    PE X (.BinOp a op b pos) (ik X P (e2 g fa fb)):=PE.imp (CF ho ha hb) (DJ hP hg)
theorem sD {op:CmpOp} {r:R2} {g:PyData->PyData->R PyData} (ho:gS X (compareOp op) r) (hg:bU X fU r g) (ha:cT X a fa) (hb:cT X b fb) (hm:behindInMarks op b=false) :
    cE X (.Compare a [op] [b] pos) (e2 g fa fb):=PE.imp (zv ho ha hb hm) (DJ dO hg)
end
noncomputable def sr:PyData->R Bool
  | .bool b=>.ok b
  | _=>.no
noncomputable def tE (f:Fe):aE->R Bool:=fun ρ=>f ρ>>=sr
theorem pZ {X:Cx} {f:Fe} {σ:St} {H:Hp} {Q:Bool->Hp->Prop} (h:zJ X (tE f) σ H Q):ik X fU f σ H (fun x H'=>∃ k,x=.bl k/\Q k H') :=
  (cQ (P:=fU) (f:=f) (k:=fun _=>sr) (uh (X:=X) Q) h).post fun v H1 ⟨ρ1,d1,_,_,p1,q1⟩=>by
    cases d1 with
    | bool b =>
      have p2:v=.bl b:=by simpa only [Rp] using p1
      exact ⟨b,p2,q1 H1 (ar.refl _)⟩
    | _=>exact q1.elim
section
variable {X:Cx} {a b c:Expr} {fa fb fc:Fe} {pos:Pos}
theorem ki {op:CmpOp} {r:R2} {g:PyData->PyData->R PyData} (ho:gS X (compareOp op) r) (hg:bU X fU r g) (ha:cT X a fa) (hb:cT X b fb) (hm:behindInMarks op b=false) :
    nC X (.Compare a [op] [b] pos) (tE (e2 g fa fb)) :=
  PT.imp (zF ho ha hb hm) fun σ H Q h=>DJ dO hg σ H _ (pZ h)
theorem bj {e:Expr} {f:Fe} (h:Z.cE X e f) (he:∀ whole,isTrue e X.env whole=(do let v <- whole;standAt e.pos;holding [v] (truthy v)):=by intro _;rfl):Z.nC X e (tE f):=⟨have h:=h.un;PT.imp (BB h he) fun σ H Q h=>pZ h⟩
noncomputable def xX (f g:aE->R Bool):aE->R Bool:=fun ρ=>f ρ>>=fun b=>if b=true then g ρ else .ok false
noncomputable def ip (f g:aE->R Bool):aE->R Bool:=fun ρ=>f ρ>>=fun b=>if b=true then .ok true else g ρ
noncomputable def dq (f:aE->R Bool):aE->R Bool:=fun ρ=>f ρ>>=fun b=>.ok (!b)
variable {ga gb:aE->R Bool} {dS:List Expr}
theorem si (ha:Z.nC X a ga):Z.vP X (.BoolOp .And [a] pos) ga:=⟨have ha:=ha.un;pw_and1 ha⟩
theorem dj (ha:Z.nC X a ga):Z.vP X (.BoolOp .Or [a] pos) ga:=⟨have ha:=ha.un;pw_or1 ha⟩
theorem uE (ha:Z.nC X a ga) (hb:Z.vP X (.BoolOp .And (b::dS) pos) gb):Z.vP X (.BoolOp .And (a::b::dS) pos) (xX ga gb):=⟨have ha:=ha.un;have hb:=hb.un;PW.imp (pw_and ha hb) fun σ H Q h=>(su (f:=ga) (k:=fun ρ b=>if b=true then gb ρ else .ok false) (uh (X:=X) Q) h).post fun d H1 ⟨ρ1,sl1,_,q1⟩=>by
    cases d with
    | true=>exact ⟨ρ1,sl1,q1⟩
    | false=>exact q1 H1 (ar.refl _)⟩
theorem df (ha:Z.nC X a ga) (hb:Z.vP X (.BoolOp .Or (b::dS) pos) gb):Z.vP X (.BoolOp .Or (a::b::dS) pos) (ip ga gb):=⟨have ha:=ha.un;have hb:=hb.un;PW.imp (pw_or ha hb) fun σ H Q h=>(su (f:=ga) (k:=fun ρ b=>if b=true then .ok true else gb ρ) (uh (X:=X) Q) h).post fun d H1 ⟨ρ1,sl1,_,q1⟩=>by
    cases d with
    | false=>exact ⟨ρ1,sl1,q1⟩
    | true=>exact q1 H1 (ar.refl _)⟩
theorem vP.t {e:Expr} (h:vP X e ga):nC X e ga:=PW.pt h
theorem eD {e:Expr} (h:Z.vP X e ga):Z.nC X e ga :=
  ⟨D2.vP.t h.un⟩
theorem bq (ha:Z.nC X a ga):Z.nC X (.UnaryOp .Not a pos) (dq ga):=⟨have ha:=ha.un;PT.imp (BA ha) fun σ H Q h=>(su (f:=ga) (k:=fun _ b=>.ok (!b)) (uh (X:=X) Q) h).post fun d H1 ⟨ρ1,sl1,_,q1⟩=>q1 H1 (ar.refl _)⟩
noncomputable def jc (f g:Fe):Fe:=fun ρ=>f ρ>>=fun d=>sr d>>=fun b=>if b=true then g ρ else .ok (.bool false)
noncomputable def mC (f:Fe):Fe:=fun ρ=>f ρ>>=fun d=>sr d>>=fun b=>.ok (.bool (!b))
theorem ue {k:aE->Bool->R PyData} {f:Fe} {σ:St} {H:Hp} {Q:VK} (h:ik X fU (fun ρ=>f ρ>>=fun d=>sr d>>=fun b=>k ρ b) σ H Q) :
    ik X fU f σ H (fun x H'=>∃ c,x=.bl c/\ik X fU (fun ρ=>k ρ c) σ H' Q) :=
  (cQ (P:=fU) (f:=f) (k:=fun ρ d=>sr d>>=fun b=>k ρ b) (dI (X:=X) dO Q) h).post fun v H1 ⟨ρ1,d1,sl1,_,p1,q1⟩=>by
    cases d1 with
    | bool b =>
      have p2:v=.bl b:=by simpa only [Rp] using p1
      exact ⟨b,p2,ρ1,sl1,q1⟩
    | _=>exact q1.elim
theorem eV {op} (h:Z.cE X a fa):Z.cE X (.BoolOp op [a] pos) fa:=⟨have h:=h.un;Bv h⟩
theorem dR (ha:Z.cE X a fa) (hb:Z.cE X (.BoolOp .And (b::dS) pos) fb):Z.cE X (.BoolOp .And (a::b::dS) pos) (jc fa fb):=⟨have ha:=ha.un;have hb:=hb.un;PE.imp (Br ha hb) fun σ H Q h=>(ue (k:=fun ρ b=>if b=true then fb ρ else .ok (.bool false)) h).post fun v H1 ⟨c,e1,q1⟩=>by
    refine ⟨c,e1,?_⟩;cases c with
    | true=>exact q1
    | false =>
      obtain ⟨_,_,q2⟩:=q1;exact q2 _ H1 (ar.refl _) (by simp only [Rp])⟩
theorem iB (ha:Z.cE X a fa):Z.cE X (.UnaryOp .Not a pos) (mC fa):=⟨have ha:=ha.un;PE.imp (Bu ha) fun σ H Q h=>(ue (k:=fun ρ b=>.ok (.bool (!b))) h).post fun v H1 ⟨c,e1,_,_,q2⟩=>⟨c,e1,q2 _ H1 (ar.refl _) (by simp only [Rp])⟩⟩
end
noncomputable def aH:Expr->Bool
  | .Starred ..=>false
  | _=>true
theorem aS {e:Expr} {es:List Expr} {env:Env} (h:aH e=true):starEach (e::es) env=(false,eval e env)::starEach es env:=by
  cases e <;> first | rfl | (cases h)
theorem nr {es:List Expr} {env:Env} {pos:Pos} (h:es.all aH=true):(backTo pos (starEach es env)).any (·.1)=false:=by
  induction es with
  | nil=>rfl
  | cons e es ih =>
    rw [List.all_cons,Bool.and_eq_true] at h;rw [aS h.1];have:=ih h.2;simpa [backTo] using this
noncomputable def aD:aE->R (List PyData):=fun _=>.ok []
noncomputable def ai (f:Fe) (g:aE->R (List PyData)):aE->R (List PyData):=fun ρ=>f ρ>>=fun d=>g ρ>>=fun ds=>.ok (d::ds)
section
variable {X:Cx} {e:Expr} {es:List Expr} {f:Fe} {g:aE->R (List PyData)}
theorem tU {I:Hp->PyData->V->Prop}:PA X [] (xJ X I aD):=PA.imp mW fun σ H Q ⟨ρ,sl,q⟩=>q [] H (ar.refl _) (by simp only [RA])
theorem mD:rW X [] aD:=tU
theorem al  : Z.rW X [] aD :=
  ⟨D2.mD⟩
theorem mE:AB X [] aD:=tU
theorem qT {I:Hp->PyData->V->Prop} (hI:∀ H H' d v,I H d v->ar H H'->I H' d v) (ha:PE X e (ik X (fun _ H' d v=>I H' d v) f)) (hr:PA X es (xJ X I g))
    (hs:starEach (e::es) X.env=(false,eval e X.env)::starEach es X.env:=by rfl):PA X (e::es) (xJ X I (ai f g)) :=
  PA.imp (fF ha hr hs) fun σ H Q h =>
    (cQ (P:=fun _ H' d v=>I H' d v) (f:=f) (k:=fun ρ d=>g ρ>>=fun ds=>.ok (d::ds)) (Az (X:=X) I Q) h).post fun v H1 ⟨ρ1,d1,sl1,_,p1,q1⟩ =>
      (mh (I:=I) (f:=g) (k:=fun _ ds=>.ok (d1::ds)) (Az (X:=X) I Q) ⟨ρ1,sl1,q1⟩).post fun vs H2 ⟨_,ds1,_,s2,p3,q3⟩ =>
        q3 (v::vs) H2 (ar.refl _) (by simp only [RA];exact ⟨v,vs,rfl,hI _ _ _ _ p1 s2,p3⟩)
theorem iR (ha:cE X e f) (hr:rW X es g) (hs:aH e=true:=by rfl):rW X (e::es) (ai f g):=qT (fun _ _ _ _ h s=>h.mono s) ha hr (aS hs)
theorem ae (ha:Z.cE X e f) (hr:Z.rW X es g) (hs:aH e=true:=by rfl):Z.rW X (e::es) (ai f g) :=
  ⟨D2.iR ha.un hr.un hs⟩
theorem iS (ha:cT X e f) (hr:AB X es g) (hs:aH e=true:=by rfl):AB X (e::es) (ai f g):=qT (fun _ _ _ _ h s=>h.mono s) ha hr (aS hs)
end
section
variable {K:PySem.W.Frag} {H:Hp} {x:V}
theorem wf (h:fT H .none x):x=.non:=by
  rcases h with h | h
  · simpa only [Rp] using h
  · simp only [jb] at h
theorem ml {b:Bool} (h:fT H (.bool b) x):x=.bl b:=by
  rcases h with h | h
  · simpa only [Rp] using h
  · simp only [jb] at h
theorem bd {i:Int} (h:fT H (.int i) x):x=.int i:=by
  rcases h with h | h
  · simpa only [Rp] using h
  · simp only [jb] at h
theorem fW {y:Str} (h:fT H (.str y) x):x=.str y:=by
  rcases h with h | h
  · simpa only [Rp] using h
  · simp only [jb] at h
theorem cb {ds:List PyData} (h:fT H (.tuple ds) x):∃ a vs,x=.ref a/\H a=some (.tup vs)/\bF H ds vs:=by
  rcases h with h | h
  · simpa only [Rp] using h
  · simp only [jb] at h
theorem eF {ds:List PyData} (h:fT H (.list ds) x):∃ a vs,x=.ref a/\lD K H a vs/\bF H ds vs:=by
  rcases h with h | h
  · simp only [Rp] at h;obtain ⟨a,o,vs,e,ha,r⟩:=h;exact ⟨a,vs,e,.inl (.inr ⟨o,ha⟩),r⟩
  · simp only [jb] at h;obtain ⟨a,vs,e,ha,r⟩:=h;exact ⟨a,vs,e,.inl (.inl ha),r⟩
theorem zL {C:Addr} {fs:List (Str×V)} {kvs:List (PyData×PyData)} (h:ye H C fs kvs):gc kvs=true:=by
  cases kvs with
  | nil=>simp only [ye] at h
  | cons kd kvs=>simp only [ye] at h;rw [h.1];rfl
theorem fL {kvs:List (PyData×PyData)} (hi:gc kvs=false) (h:fT H (.dict kvs) x):∃ a ks,x=.ref a/\Rd H a (.dK ks)/\dQ H kvs ks:=by
  rcases h with h | h
  · simp only [Rp] at h;rcases h with ⟨a,o,vs,e,ha,r⟩ | ⟨a,o,C,dx,fs,e,ha,r⟩
    · exact ⟨a,vs,e,.inr ⟨o,ha⟩,r⟩
    · rw [zL r] at hi;cases hi
  · simp only [jb] at h;obtain ⟨a,vs,e,ha,r⟩:=h;exact ⟨a,vs,e,.inl ha,r⟩
end
theorem bF.nil {H:Hp}:bF H [] []:=by simp only [bF]
theorem bF.cons {H:Hp} {d:PyData} {ds:List PyData} {v:V} {vs:List V} (h:Rp H d v) (t:bF H ds vs):bF H (d::ds) (v::vs):=by simp only [bF];exact ⟨v,vs,rfl,h,t⟩
theorem bF.nil_inv {H:Hp} {vs:List V} (h:bF H [] vs):vs=[]:=by simpa only [bF] using h
theorem bF.cons_inv {H:Hp} {d:PyData} {ds:List PyData} {vs:List V} (h:bF H (d::ds) vs):∃ v r,vs=v::r/\Rp H d v/\bF H ds r:=by simpa only [bF] using h
theorem bF.length {H:Hp}:∀ {ds:List PyData} {vs:List V},bF H ds vs->vs.length=ds.length
  | [],vs,h=>by rw [h.nil_inv];rfl
  | d::ds,vs,h=>by
    obtain ⟨v,r,rfl,_,t⟩:=h.cons_inv;rw [List.length_cons,List.length_cons,bF.length t]
theorem bF.get {H:Hp}:∀ {ds:List PyData} {vs:List V} {i:Nat} {d:PyData},bF H ds vs->ds[i]?=some d->∃ v,vs[i]?=some v/\Rp H d v
  | [],vs,i,d,h,e=>by simp at e
  | d0::ds,vs,0,d,h,e=>by
    obtain ⟨v,r,rfl,p,_⟩:=h.cons_inv;simp at e;subst e;exact ⟨v,rfl,p⟩
  | d0::ds,vs,i+1,d,h,e=>by
    obtain ⟨v,r,rfl,_,t⟩:=h.cons_inv;obtain ⟨u,e1,p⟩:=bF.get (i:=i) t (by simpa using e);exact ⟨u,by simpa using e1,p⟩
theorem bF.append {H:Hp}:∀ {ds es:List PyData} {vs us:List V},bF H ds vs->bF H es us->bF H (ds++es) (vs++us)
  | [],es,vs,us,h,g=>by rw [h.nil_inv];exact g
  | d::ds,es,vs,us,h,g=>by
    obtain ⟨v,r,rfl,p,t⟩:=h.cons_inv;exact bF.cons p (bF.append t g)
theorem bF.take {H:Hp}:∀ {ds:List PyData} {vs:List V} (n:Nat),bF H ds vs->bF H (ds.take n) (vs.take n)
  | ds,vs,0,h=>by simp only [List.take_zero];exact bF.nil
  | [],vs,n+1,h=>by rw [h.nil_inv];exact bF.nil
  | d::ds,vs,n+1,h=>by
    obtain ⟨v,r,rfl,p,t⟩:=h.cons_inv;exact bF.cons p (bF.take n t)
theorem bF.drop {H:Hp}:∀ {ds:List PyData} {vs:List V} (n:Nat),bF H ds vs->bF H (ds.drop n) (vs.drop n)
  | ds,vs,0,h=>h
  | [],vs,n+1,h=>by rw [h.nil_inv];exact bF.nil
  | d::ds,vs,n+1,h=>by
    obtain ⟨v,r,rfl,p,t⟩:=h.cons_inv;exact bF.drop n t
theorem bF.reverse {H:Hp}:∀ {ds:List PyData} {vs:List V},bF H ds vs->bF H ds.reverse vs.reverse
  | [],vs,h=>by rw [h.nil_inv];exact bF.nil
  | d::ds,vs,h=>by
    obtain ⟨v,r,rfl,p,t⟩:=h.cons_inv;rw [List.reverse_cons,List.reverse_cons];exact bF.append (bF.reverse t) (bF.cons p bF.nil)
theorem bF.rep {H:Hp} {ds:List PyData} {vs:List V} (h:bF H ds vs):∀ k:Nat,bF H (List.replicate k ds).flatten (List.replicate k vs).flatten
  | 0=>bF.nil
  | k+1=>by rw [List.replicate_succ,List.replicate_succ,List.flatten_cons,List.flatten_cons];exact bF.append h (bF.rep h k)
theorem bF.ints {H:Hp}:∀ ns:List Int,bF H (ns.map PyData.int) (ns.map V.int)
  | []=>bF.nil
  | n::ns=>bF.cons (by simp only [Rp]) (bF.ints ns)
theorem bT {H:Hp} {p:Addr} (h:H p=none) (o:HO):ar H (du H p o):=fun b u q=>by rw [aJ (bh q h)];exact q
theorem dF {H:Hp} {p:Addr} {ds:List PyData} {vs:List V} (h:H p=none) (r:bF H ds vs):Rp (du H p (.tup vs)) (.tuple ds) (.ref p):=by
  simp only [Rp];exact ⟨p,vs,rfl,cj,r.mono (bT h _)⟩
theorem cJ {H:Hp} {p:Addr} {ds:List PyData} {vs:List V} (h:H p=none) (r:bF H ds vs):AD H (du H p (.lst vs)) (.list ds) (.ref p):=by
  refine ⟨?_,p,rfl,h⟩;simp only [jb];exact ⟨p,vs,rfl,cj,r.mono (bT h _)⟩
section
variable {P:Program} {w:World} {H:Hp} {h:Heap}
mutual
theorem ro (ok:gj P w H h):∀ (d:PyData) (v:V) (u:Value),d.canLay0=true->Rp H d v->bE v u->∃ as,Reads h u d as
  | .none,v,u,_,r,e=>by simp only [Rp] at r;subst r;cases e;exact ⟨_,.none⟩
  | .bool b,v,u,_,r,e=>by simp only [Rp] at r;subst r;cases e;exact ⟨_,.bool b⟩
  | .int i,v,u,_,r,e=>by simp only [Rp] at r;subst r;obtain ⟨t,rfl⟩:=e;exact ⟨_,.int i t⟩
  | .str x,v,u,_,r,e=>by simp only [Rp] at r;subst r;obtain ⟨t,rfl⟩:=e;exact ⟨_,.str x t⟩
  | .tuple ds,v,u,c,r,e=>by
    simp only [Rp] at r;obtain ⟨a,vs,rfl,ha,r⟩:=r;cases e;obtain ⟨_,its,rv,o,h1,h2,⟨n,h3⟩,_⟩:=(show bV P w H h a (.tup vs) from ok a _ ha)
    obtain ⟨as,q⟩:=ge ok ds vs its (by simpa only [PyData.canLay0] using c) r rv;exact ⟨as,.tuple h1 h2 h3 (by simpa using q)⟩
  | .list ds,v,u,c,r,e=>by
    simp only [Rp] at r;obtain ⟨a,ob,vs,rfl,ha,r⟩:=r;cases e;obtain ⟨_,_,its,n,rv,h1⟩:=(show bV P w H h a (.frz ob (.lst vs)) from ok a _ ha)
    obtain ⟨as,q⟩:=ge ok ds vs its (by simpa only [PyData.canLay0] using c) r rv;exact ⟨a::as,.list h1 rfl rfl (by simpa using q)⟩
  | .dict kvs,v,u,c,r,e=>by simp [PyData.canLay0] at c
theorem ge (ok:gj P w H h):∀ (ds:List PyData) (vs:List V) (us:List Value),PyData.canLayAll0 ds=true->bF H ds vs->bn vs us->∃ as,ReadsAll h us ds as
  | [],vs,us,_,r,e=>by rw [r.nil_inv] at e;cases e;exact ⟨_,.nil⟩
  | d::ds,vs,us,c,r,e=>by
    obtain ⟨v,r',rfl,p,t⟩:=r.cons_inv;have c':d.canLay0=true/\PyData.canLayAll0 ds=true:=by simpa [PyData.canLayAll0] using c
    cases e with
    | cons e1 e2 =>
      obtain ⟨as,q1⟩:=ro ok d v _ c'.1 p e1;obtain ⟨bs,q2⟩:=ge ok ds r' _ c'.2 t e2;exact ⟨as++bs,.cons q1 q2⟩
end
theorem eR (ok:gj P w H h) {d:PyData} {v:V} {u:Value} (c:d.canLay0=true) (r:fT H d v) (e:bE v u):∃ as,Reads h u d as:=by
  rcases r with r | r
  · exact ro ok d v u c r e
  · cases d <;> simp only [jb] at r
    · rename_i ds;obtain ⟨a,vs,rfl,ha,r⟩:=r;cases e;obtain ⟨_,its,n,rv,h1⟩:=(show bV P w H h a (.lst vs) from ok a _ ha)
      obtain ⟨as,q⟩:=ge ok ds vs its (by simpa only [PyData.canLay0] using c) r rv;exact ⟨a::as,.list h1 rfl rfl (by simpa using q)⟩
    · simp [PyData.canLay0] at c
end
noncomputable def dE:PyData->Option cN
  | .int i=>some (.inl i)
  | .str y=>some (.inr y)
  | _=>none
noncomputable def eX:PyData->PyData->Bool
  | .int i,.int j=>decide (i=j)
  | .str i,.str j=>decide (i=j)
  | _,_=>false
noncomputable def lI (kvs:List (PyData×PyData)) (k v:PyData):List (PyData×PyData) :=
  if (kvs.any fun kv=>eX kv.1 k)=true then kvs.map (fun kv=>if eX kv.1 k=true then (kv.1,v) else kv) else kvs++[(k,v)]
theorem iV (κ κ':cN):eX (fx κ) (fx κ')=decide (κ=κ'):=by
  cases κ with
  | inl i =>
    cases κ' with
    | inl j=>simp [fx,eX]
    | inr j=>simp [fx,eX]
  | inr i =>
    cases κ' with
    | inl j=>simp [fx,eX]
    | inr j=>simp [fx,eX]
theorem dQ.cons {H:Hp} {k d:PyData} {kvs:List (PyData×PyData)} {κ:cN} {v:V} {ks:List (cN×V)} (e:k=fx κ) (h:Rp H d v) (t:dQ H kvs ks):dQ H ((k,d)::kvs) ((κ,v)::ks):=by
  simp only [dQ,yw];exact ⟨κ,v,ks,rfl,⟨e,h⟩,t⟩
theorem dQ.cons_inv {H:Hp} {k d:PyData} {kvs:List (PyData×PyData)} {ks:List (cN×V)} (h:dQ H ((k,d)::kvs) ks):∃ κ v r,ks=(κ,v)::r/\k=fx κ/\Rp H d v/\dQ H kvs r:=by
  simp only [dQ,yw] at h;obtain ⟨κ,v,r,e,⟨e1,p⟩,t⟩:=h;exact ⟨κ,v,r,e,e1,p,t⟩
theorem dQ.nil_inv {H:Hp} {ks:List (cN×V)} (h:dQ H [] ks):ks=[]:=by simpa only [dQ] using h
theorem dQ.any {H:Hp} (κ:cN):∀ {kvs:List (PyData×PyData)} {ks:List (cN×V)},dQ H kvs ks->(kvs.any fun kv=>eX kv.1 (fx κ))=ks.any fun kv=>decide (kv.1=κ)
  | [],ks,h=>by rw [h.nil_inv];rfl
  | (k,d)::kvs,ks,h=>by
    obtain ⟨κ',v,r,rfl,rfl,p,t⟩:=h.cons_inv;rw [List.any_cons,List.any_cons,dQ.any κ t,iV]
theorem dQ.repl {H:Hp} (κ:cN) {d:PyData} {v:V} (hv:Rp H d v):∀ {kvs:List (PyData×PyData)} {ks:List (cN×V)},dQ H kvs ks ->
    dQ H (kvs.map fun kv=>if eX kv.1 (fx κ)=true then (kv.1,d) else kv) (ks.map fun kv=>if kv.1=κ then (kv.1,v) else kv)
  | [],ks,h=>by rw [h.nil_inv];simp only [List.map_nil,dQ]
  | (k,d')::kvs,ks,h=>by
    obtain ⟨κ',v',r,rfl,rfl,p,t⟩:=h.cons_inv;rw [List.map_cons,List.map_cons];dsimp only;rw [iV];by_cases e:κ'=κ
    · rw [if_pos (decide_eq_true e),if_pos e];exact dQ.cons rfl hv (dQ.repl κ hv t)
    · rw [if_neg (by rw [decide_eq_false e];exact Bool.false_ne_true),if_neg e];exact dQ.cons rfl p (dQ.repl κ hv t)
theorem dQ.snoc {H:Hp} {κ:cN} {d:PyData} {v:V} (hv:Rp H d v):∀ {kvs:List (PyData×PyData)} {ks:List (cN×V)},dQ H kvs ks->dQ H (kvs++[(fx κ,d)]) (ks++[(κ,v)])
  | [],ks,h=>by rw [h.nil_inv];exact dQ.cons rfl hv (by simp only [dQ])
  | (k,d')::kvs,ks,h=>by
    obtain ⟨κ',v',r,rfl,rfl,p,t⟩:=h.cons_inv;exact dQ.cons rfl p (dQ.snoc hv t)
theorem dQ.put {H:Hp} (κ:cN) {d:PyData} {v:V} (hv:Rp H d v) {kvs:List (PyData×PyData)} {ks:List (cN×V)} (h:dQ H kvs ks):dQ H (lI kvs (fx κ) d) (kn ks κ v):=by
  unfold lI kn;rw [h.any κ];split
  · exact h.repl κ hv
  · exact h.snoc hv
noncomputable def eY (kvs:List (PyData×PyData)) (k:PyData):Option PyData:=(kvs.find? fun kv=>eX kv.1 k).map (·.2)
theorem dQ.look {H:Hp} (κ:cN):∀ {kvs:List (PyData×PyData)} {ks:List (cN×V)},dQ H kvs ks->(eY kvs (fx κ)=none/\jg ks κ=none)\/∃ d v,eY kvs (fx κ)=some d/\jg ks κ=some v/\Rp H d v
  | [],ks,h=>.inl (by rw [h.nil_inv];exact ⟨rfl,rfl⟩)
  | (k,d)::kvs,ks,h=>by
    obtain ⟨κ',v,r,rfl,rfl,p,t⟩:=h.cons_inv;unfold eY jg;by_cases e:κ'=κ
    · rw [List.find?_cons_of_pos (by rw [iV];exact decide_eq_true e),List.find?_cons_of_pos (by exact decide_eq_true e)];exact .inr ⟨d,v,rfl,rfl,p⟩
    · rw [List.find?_cons_of_neg (by rw [iV,decide_eq_false e];exact Bool.false_ne_true),List.find?_cons_of_neg (by rw [decide_eq_false e];exact Bool.false_ne_true)];exact dQ.look κ t
theorem mO {d:PyData} {κ:cN} (h:dE d=some κ):d=fx κ:=by
  cases d <;> simp only [dE] at h <;> cases h <;> rfl
theorem pG {H:Hp} {d:PyData} {x:V} {κ:cN} (h:fT H d x) (e:dE d=some κ):x=kV κ:=by
  cases d <;> simp only [dE] at e <;> cases e
  · exact bd h
  · exact fW h
theorem pL {H:Hp} {a:Addr} {kvs:List (PyData×PyData)} {ks:List (cN×V)} {κ:cN} (h:Rd H a (.dK ks)) (r:dQ H kvs ks):∃ o,jm H a (kV κ) o/\o.isSome=(eY kvs (fx κ)).isSome/\∀ d,eY kvs (fx κ)=some d->∃ v,o=some v/\Rp H d v:=by
  refine ⟨jg ks κ,.inl ⟨ks,κ,h,rfl,rfl⟩,?_⟩;rcases r.look κ with ⟨e1,e2⟩ | ⟨d,v,e1,e2,p⟩
  · rw [e1,e2];exact ⟨rfl,fun d z=>by cases z⟩
  · rw [e1,e2];exact ⟨rfl,fun d z=>by cases z;exact ⟨v,rfl,p⟩⟩
noncomputable def ke:PyData->PyData->R PyData
  | .int i,.int j=>.ok (.int (i-j))
  | _,_=>.no
noncomputable def eL:PyData->PyData->R PyData
  | .int i,.int j=>if 0 < j then .ok (.int (i%j)) else .no
  | _,_=>.no
noncomputable def nG:PyData->PyData->R PyData
  | .int i,.int j=>if 0 < j/\j < 1073741824 then .ok (.int (i / j)) else .no
  | _,_=>.no
noncomputable def fM (p:Int->Int->Bool):PyData->PyData->R PyData
  | .int i,.int j=>.ok (.bool (p i j))
  | _,_=>.no
noncomputable def jA (x y:PyData):Bool:=x.canLay0&&y.canLay0&&decide (min x.depth y.depth<=60)
noncomputable def lM (x y:PyData):R PyData:=if jA x y=true then .ok (.bool (PyData.eqv x y)) else .no
noncomputable def gY (x y:PyData):R PyData:=if jA x y=true then .ok (.bool (!PyData.eqv x y)) else .no
noncomputable def pQ (xs:List PyData) (d:PyData):Bool:=PyData.canLayAll0 xs&&d.canLay0&&decide (min (PyData.depthAll xs) d.depth<=60)
noncomputable def sA (neg:Bool) (d:PyData):PyData->R PyData
  | .list xs=>if pQ xs d=true then .ok (.bool (if neg then !(xs.any fun y=>PyData.eqv y d) else xs.any fun y=>PyData.eqv y d)) else .no
  | .tuple xs=>if pQ xs d=true then .ok (.bool (if neg then !(xs.any fun y=>PyData.eqv y d) else xs.any fun y=>PyData.eqv y d)) else .no
  | .dict kvs=>if gc kvs=true then .no else match dE d with
    | some _=>.ok (.bool (if neg then !(eY kvs d).isSome else (eY kvs d).isSome))
    | none=>.no
  | _=>.no
section
variable {X:Cx} {a b c:Expr} {fa fb fc:Fe} {pos:Pos}
theorem cY {H:Hp} {i:Int}:Rp H (.int i) (.int i):=by simp only [Rp]
theorem eK {H:Hp} {i:Bool}:Rp H (.bool i) (.bl i):=by simp only [Rp]
theorem s9 {H:Hp} {i:Str}:Rp H (.str i) (.str i):=by simp only [Rp]
theorem zM {H:Hp}:Rp H .none .non:=by simp only [Rp]
theorem BP:bU X fU (yk fun i j=>.int (i-j)) ke:=fun H x y dx dy Q hx hy q=>by
  unfold ke at q;split at q
  · exact ⟨_,_,bd hx,bd hy,q _ H (ar.refl _) cY⟩
  · exact q.elim
theorem BM:bU X fU (rI (fun _ j=>0 < j) fun i j=>.int (i%j)) eL:=fun H x y dx dy Q hx hy q=>by
  unfold eL at q;split at q
  · split at q
    · rename_i h;exact ⟨_,_,bd hx,bd hy,h,q _ H (ar.refl _) cY⟩
    · exact q.elim
  · exact q.elim
theorem BL:bU X fU (rI B9 fun i j=>.int (i / j)) nG:=fun H x y dx dy Q hx hy q=>by
  unfold nG at q;split at q
  · split at q
    · rename_i h;exact ⟨_,_,bd hx,bd hy,h,q _ H (ar.refl _) cY⟩
    · exact q.elim
  · exact q.elim
theorem fR {p:Int->Int->Bool}:bU X fU (yk fun i j=>.bl (p i j)) (fM p):=fun H x y dx dy Q hx hy q=>by
  unfold fM at q;split at q
  · exact ⟨_,_,bd hx,bd hy,q _ H (ar.refl _) eK⟩
  · exact q.elim
theorem gz (ha:Z.cT X a fa) (hb:Z.cT X b fb):Z.cE X (.BinOp a .Sub b pos) (e2 ke fa fb):=⟨have ha:=ha.un;have hb:=hb.un;jC dO Bq BP ha hb⟩
theorem bP (ha:Z.cT X a fa) (hb:Z.cT X b fb):Z.cE X (.BinOp a .Mod b pos) (e2 eL fa fb):=⟨have ha:=ha.un;have hb:=hb.un;jC dO Bo BM ha hb⟩
theorem gy (ha:Z.cT X a fa) (hb:Z.cT X b fb):Z.cE X (.BinOp a .FloorDiv b pos) (e2 nG fa fb):=⟨have ha:=ha.un;have hb:=hb.un;jC dO zo BL ha hb⟩
noncomputable abbrev yj:Int->Int->Bool:=fun i j=>decide (i < j)
noncomputable abbrev DE:Int->Int->Bool:=fun i j=>decide (i<=j)
noncomputable abbrev yh:Int->Int->Bool:=fun i j=>decide (j < i)
theorem yA (ha:Z.cT X a fa) (hb:Z.cT X b fb):Z.cE X (.Compare a [.Gt] [b] pos) (e2 (fM yh) fa fb):=⟨have ha:=ha.un;have hb:=hb.un;sD An fR ha hb (jI _)⟩
theorem qE (ha:Z.cT X a fa) (hb:Z.cT X b fb):Z.nC X (.Compare a [.Lt] [b] pos) (tE (e2 (fM yj) fa fb)):=⟨have ha:=ha.un;have hb:=hb.un;ki ri fR ha hb (jI _)⟩
theorem qD (ha:Z.cT X a fa) (hb:Z.cT X b fb):Z.nC X (.Compare a [.Gt] [b] pos) (tE (e2 (fM yh) fa fb)):=⟨have ha:=ha.un;have hb:=hb.un;ki An fR ha hb (jI _)⟩
noncomputable def zI (X:Cx) (neg:Bool):R2:=fun x y H Q=>∃ dx dy,fT H dx x/\fT H dy y/\jA dx dy=true/\Q (.bl (if neg then !PyData.eqv dx dy else PyData.eqv dx dy)) H
theorem mG {x y:PyData} (h:jA x y=true):x.canLay0=true/\y.canLay0=true/\min x.depth y.depth<=60:=by
  unfold jA at h;rw [Bool.and_eq_true,Bool.and_eq_true,decide_eq_true_eq] at h;exact ⟨h.1.1,h.1.2,h.2⟩
theorem xh (hu:X.A.units+64 < cLine):gS X (compareOp .Eq) (zI X false):=by
  intro pins s σ H x y v u Q I rx ry h;obtain ⟨dx,dy,hx,hy,ho,q⟩:=h;obtain ⟨c1,c2,c3⟩:=mG ho;obtain ⟨as,r1⟩:=eR I.hok c1 hx rx;obtain ⟨bs,r2⟩:=eR I.hok c2 hy ry;exact PySem.SeqAt.compareEq_reads r1 r2 c1 c2 (by omega) ⟨.bl _,H,I,rfl,q⟩
theorem xi (hu:X.A.units+64 < cLine):gS X (compareOp .NotEq) (zI X true):=by
  intro pins s σ H x y v u Q I rx ry h;obtain ⟨dx,dy,hx,hy,ho,q⟩:=h;obtain ⟨c1,c2,c3⟩:=mG ho;obtain ⟨as,r1⟩:=eR I.hok c1 hx rx;obtain ⟨bs,r2⟩:=eR I.hok c2 hy ry;exact PySem.SeqAt.compareNe_reads r1 r2 c1 c2 (by omega) ⟨.bl _,H,I,rfl,q⟩
theorem Aw:bU X fU (zI X false) lM:=fun H x y dx dy Q hx hy q=>by
  unfold lM at q;split at q
  · rename_i h;exact ⟨dx,dy,hx,hy,h,q _ H (ar.refl _) eK⟩
  · exact q.elim
theorem Ax:bU X fU (zI X true) gY:=fun H x y dx dy Q hx hy q=>by
  unfold gY at q;split at q
  · rename_i h;exact ⟨dx,dy,hx,hy,h,q _ H (ar.refl _) eK⟩
  · exact q.elim
theorem lL (hu:X.A.units+64 < cLine) (ha:Z.cT X a fa) (hb:Z.cT X b fb):Z.cE X (.Compare a [.Eq] [b] pos) (e2 lM fa fb):=⟨have ha:=ha.un;have hb:=hb.un;sD (xh hu) Aw ha hb (jI _)⟩
theorem pC (hu:X.A.units+64 < cLine) (ha:Z.cT X a fa) (hb:Z.cT X b fb):Z.cE X (.Compare a [.NotEq] [b] pos) (e2 gY fa fb):=⟨have ha:=ha.un;have hb:=hb.un;sD (xi hu) Ax ha hb (jI _)⟩
theorem iE (hu:X.A.units+64 < cLine) (ha:Z.cT X a fa) (hb:Z.cT X b fb):Z.nC X (.Compare a [.Eq] [b] pos) (tE (e2 lM fa fb)):=⟨have ha:=ha.un;have hb:=hb.un;ki (xh hu) Aw ha hb (jI _)⟩
theorem dA (hu:X.A.units+64 < cLine) (ha:Z.cT X a fa) (hb:Z.cT X b fb):Z.nC X (.Compare a [.NotEq] [b] pos) (tE (e2 gY fa fb)):=⟨have ha:=ha.un;have hb:=hb.un;ki (xi hu) Ax ha hb (jI _)⟩
noncomputable def Eb (X:Cx) (neg:Bool):R2:=fun x y H Q=>∃ d xs,fT H d x/\(fT H (.list xs) y\/fT H (.tuple xs) y)/\pQ xs d=true/\Q (.bl (if neg then !(xs.any fun z=>PyData.eqv z d) else xs.any fun z=>PyData.eqv z d)) H
noncomputable def CN (X:Cx) (neg:Bool):R2:=fun x y H Q=>Eb X neg x y H Q\/∃ a o,y=.ref a/\jm H a x o/\Q (.bl (if neg then !o.isSome else o.isSome)) H
theorem sI {xs:List PyData} {d:PyData} (h:pQ xs d=true):PyData.canLayAll0 xs=true/\d.canLay0=true/\min (PyData.depthAll xs) d.depth<=60:=by
  unfold pQ at h;rw [Bool.and_eq_true,Bool.and_eq_true,decide_eq_true_eq] at h;exact ⟨h.1.1,h.1.2,h.2⟩
theorem Bn (hu:X.A.units+64 < cLine):gS X (compareOp .In) (CN X false):=by
  intro pins s σ H x y v u Q I rx ry h;rcases h with h | ⟨a,o,rfl,g,q⟩
  case inr =>
    cases ry;exact DZ (by omega) I g rx fun s' I'=>⟨.bl _,H,I',rfl,q⟩
  obtain ⟨d,xs,hx,hy,ho,q⟩:=h;obtain ⟨c1,c2,c3⟩:=sI ho;obtain ⟨as,r1⟩:=eR I.hok c2 hx rx;rcases hy with hy | hy
  · obtain ⟨bs,r2⟩:=eR I.hok (d:=.list xs) (by simpa only [PyData.canLay0] using c1) hy ry;exact PySem.SeqAt.in_list_reads r2 r1 c1 c2 (by omega) ⟨.bl _,H,I,rfl,q⟩
  · obtain ⟨bs,r2⟩:=eR I.hok (d:=.tuple xs) (by simpa only [PyData.canLay0] using c1) hy ry;exact PySem.SeqAt.in_tuple_reads r2 r1 c1 c2 (by omega) ⟨.bl _,H,I,rfl,q⟩
theorem CY {neg:Bool}:bU X fU (CN X neg) (sA neg):=fun H x y dx dy Q hx hy q=>by
  unfold sA at q;split at q
  · split at q
    · rename_i h;exact .inl ⟨dx,_,hx,.inl hy,h,q _ H (ar.refl _) eK⟩
    · exact q.elim
  · split at q
    · rename_i h;exact .inl ⟨dx,_,hx,.inr hy,h,q _ H (ar.refl _) eK⟩
    · exact q.elim
  · split at q
    · exact q.elim
    rename_i hi;split at q
    · rename_i κ e;obtain ⟨a,ks,rfl,h,r⟩:=fL (Bool.not_eq_true _ ▸ hi) hy;obtain ⟨o,g,e1,_⟩:=pL (κ:=κ) h r;rw [<- pG hx e] at g;rw [<- mO e] at e1;exact .inr ⟨a,o,rfl,g,by rw [e1];exact q _ H (ar.refl _) eK⟩
    · exact q.elim
  · exact q.elim
theorem jX (hu:X.A.units+64 < cLine) (ha:Z.cT X a fa) (hb:Z.cT X b fb) (hm:behindInMarks .In b=false):Z.nC X (.Compare a [.In] [b] pos) (tE (e2 (sA false) fa fb)):=⟨have ha:=ha.un;have hb:=hb.un;ki (Bn hu) CY ha hb hm⟩
end
inductive qd where
  | nx (ρ:aE)
  | rt (d:PyData)
  | bk (ρ:aE)
  | ct (ρ:aE)
noncomputable abbrev Fs:=aE->R qd
structure gv (Fm H:Hp) (σ:St) (ρ:aE):Prop where
  fm:ar Fm H
  sl:Sl H σ ρ
  own:∀ (i:Nat) (d:PyData) (a:Addr),ρ[i]?=some (.own d)->σ[i]?=some (some (.ref a))->Fm a=none
  apart:∀ (i j:Nat) (d e:PyData) (a:Addr),ρ[i]?=some (.own d)->ρ[j]?=some (.own e)->σ[i]?=some (some (.ref a))->σ[j]?=some (some (.ref a))->i=j
theorem gv.mono {Fm H H':Hp} {σ:St} {ρ:aE} (h:gv Fm H σ ρ) (s:ar H H'):gv Fm H' σ ρ:=⟨h.fm.trans s,h.sl.mono s,h.own,h.apart⟩
noncomputable def ym (X:Cx) (Fm:Hp) (r:R qd) (D:o4):Prop :=
  match r with
  | .ok (.nx ρ)=>∀ σ H,gv Fm H σ ρ->D.nx σ H
  | .ok (.rt d)=>∀ v H,ar Fm H->Rp H d v->D.rt v H
  | .ok (.bk ρ)=>∀ σ H,gv Fm H σ ρ->D.bk σ H
  | .ok (.ct ρ)=>∀ σ H,gv Fm H σ ρ->D.ct σ H
  | .ex c=>Xw X c Fm/\Ch X c Fm
  | .no=>False
noncomputable def As (X:Cx) (Fm:Hp) (g:Fs):TS:=fun D σ H=>∃ ρ,gv Fm H σ ρ/\ym X Fm (g ρ) D
noncomputable def kU (X:Cx) (st:Stmt) (g:Fs):Prop:=∀ Fm,PS X st (As X Fm g)
structure Z.kU (X:Cx) (st:Stmt) (g:Fs):Prop where
  un:D2.kU X st g
noncomputable def kz (X:Cx) (st:List Stmt) (g:Fs):Prop:=∀ Fm,o8 X st (As X Fm g)
structure Z.kz (X:Cx) (st:List Stmt) (g:Fs):Prop where
  un:D2.kz X st g
theorem PS.imp {X:Cx} {e:Stmt} {t t':TS} (h:PS X e t) (i:∀ D σ H,t' D σ H->t D σ H):PS X e t':=fun pins s σ H D I q=>h pins s σ H D I (i D σ H q)
theorem o8.imp {X:Cx} {e:List Stmt} {t t':TS} (h:o8 X e t) (i:∀ D σ H,t' D σ H->t D σ H):o8 X e t':=fun pins s σ H D I q=>h pins s σ H D I (i D σ H q)
section
variable {X:Cx} {Fm:Hp} {σ:St} {H:Hp} {D:o4}
theorem ss {P:Hp->Hp->PyData->V->Prop} {f:Fe} {k:aE->PyData->R qd} (h:As X Fm (fun ρ=>f ρ>>=k ρ) D σ H) :
    ik X P f σ H (fun v H1=>∃ ρ d,gv Fm H1 σ ρ/\ar H H1/\P H H1 d v/\ym X Fm (k ρ d) D):=by
  obtain ⟨ρ,sl,q⟩:=h;refine ⟨ρ,sl.sl,?_⟩;dsimp only at q;cases e:f ρ with
  | ok d=>rw [e] at q;exact fun v H1 s p=>⟨ρ,d,sl.mono s,s,p,q⟩
  | ex c=>rw [e] at q;exact q.1.mono sl.fm
  | no=>rw [e] at q;exact q
theorem tN {f:aE->R Bool} {k:aE->Bool->R qd} (h:As X Fm (fun ρ=>f ρ>>=k ρ) D σ H):zJ X f σ H (fun b H1=>∃ ρ,gv Fm H1 σ ρ/\ar H H1/\ym X Fm (k ρ b) D):=by
  obtain ⟨ρ,sl,q⟩:=h;refine ⟨ρ,sl.sl,?_⟩;dsimp only at q;cases e:f ρ with
  | ok d=>rw [e] at q;exact fun H1 s=>⟨ρ,sl.mono s,s,q⟩
  | ex c=>rw [e] at q;exact q.1.mono sl.fm
  | no=>rw [e] at q;exact q
end
noncomputable def cD:Fs:=fun ρ=>.ok (.nx ρ)
noncomputable def uk (h:Fs):qd->R qd
  | .nx ρ=>h ρ
  | o=>.ok o
noncomputable def aX (g h:Fs):Fs:=fun ρ=>g ρ>>=uk h
noncomputable def jk (t:aE->R Bool) (g h:Fs):Fs:=fun ρ=>t ρ>>=fun b=>if b=true then g ρ else h ρ
noncomputable def bZ (f:Fe):Fs:=fun ρ=>f ρ>>=fun d=>.ok (.rt d)
noncomputable def ci (i:Nat) (f:Fe):Fs:=fun ρ=>f ρ>>=fun d=>.ok (.nx (ρ.set i (.val d)))
noncomputable def jf (i:Nat) (f:Fe):Fs:=fun ρ=>f ρ>>=fun d=>.ok (.nx (ρ.set i (.own d)))
section
variable {X:Cx} {nl:Nat} {G:List Str} {st:Stmt} {sts:List Stmt} {g h:Fs} {f:Fe} {e:Expr} {pos pos':Pos} {x:Str}
theorem bg  : Z.kz X [] cD:=⟨fun Fm=>o8.imp zD fun D σ H ⟨ρ,sl,q⟩=>q σ H sl⟩
theorem aj (h1:Z.kU X st g) (h2:Z.kz X sts h):Z.kz X (st::sts) (aX g h):=⟨have h1:=h1.un;have h2:=h2.un;fun Fm=>by
  refine o8.imp (xB (h1 Fm) (h2 Fm)) fun D σ H ⟨ρ,sl,q⟩=>⟨ρ,sl,?_⟩
  unfold aX at q;cases e:g ρ with
  | ex c=>rw [e] at q;exact q
  | no=>rw [e] at q;exact q
  | ok o =>
    rw [e] at q;cases o with
    | nx ρ'=>exact fun σ' H' s'=>⟨ρ',s',q⟩
    | rt d=>exact q
    | bk ρ'=>exact q
    | ct ρ'=>exact q⟩
theorem am (h1:Z.kU X st g):Z.kz X [st] g:=⟨have h1:=h1.un;fun Fm=>zE (h1 Fm)⟩
theorem aw (he:Z.cE X e f):Z.kU X (.Return (some e) pos) (bZ f):=⟨have he:=he.un;fun Fm =>
  PS.imp (sZ he) fun D σ H h=>(ss (P:=fU) (f:=f) (k:=fun _ d=>.ok (.rt d)) h).post fun v H1 ⟨ρ,d,sl,_,p,q⟩=>q v H1 sl.fm p⟩
theorem bG {c:Expr} {a b:List Stmt} {t:aE->R Bool} (hc:Z.nC X c t) (ha:Z.kz X a g) (hb:Z.kz X b h):Z.kU X (.If c a b pos) (jk t g h):=⟨have hc:=hc.un;have ha:=ha.un;have hb:=hb.un;fun Fm =>
  PS.imp (CL hc (ha Fm) (hb Fm)) fun D σ H q=>(tN (f:=t) (k:=fun ρ b=>if b=true then g ρ else h ρ) q).post fun b H1 ⟨ρ,sl,_,q⟩=>by
    cases b with
    | true=>exact ⟨ρ,sl,q⟩
    | false=>exact ⟨ρ,sl,q⟩⟩
theorem Sl.set {H:Hp} {σ:St} {ρ:aE} {c:bi} {o:Option V} (h:Sl H σ ρ) (i:Nat) (hc:iq H c o):Sl H (σ.set i o) (ρ.set i c):=by
  refine ⟨by rw [List.length_set,List.length_set];exact h.1,fun j c' o' h1 h2=>?_⟩;rw [List.getElem?_set] at h1 h2;by_cases hij:i=j
  · rw [if_pos hij] at h1 h2;by_cases hi:i < ρ.length
    · rw [if_pos hi] at h1;rw [if_pos (by rw [h.1];exact hi)] at h2;cases h1;cases h2;exact hc
    · rw [if_neg hi] at h1;cases h1
  · rw [if_neg hij] at h1 h2;exact h.2 j c' o' h1 h2
theorem cH {ρ:aE} {i j:Nat} {c:bi} {d:PyData} (hc:∀ e,c≠.own e) (h:(ρ.set i c)[j]?=some (.own d)):i≠j/\ρ[j]?=some (.own d):=by
  rw [List.getElem?_set] at h;by_cases hij:i=j
  · rw [if_pos hij] at h;split at h
    · exact absurd (Option.some.inj h) (hc d)
    · cases h
  · rw [if_neg hij] at h;exact ⟨hij,h⟩
theorem gv.set {Fm H:Hp} {σ:St} {ρ:aE} {c:bi} {o:Option V} (h:gv Fm H σ ρ) (i:Nat) (hn:∀ e,c≠.own e) (hc:iq H c o):gv Fm H (σ.set i o) (ρ.set i c):=by
  refine ⟨h.fm,h.sl.set i hc,fun j d a h1 h2=>?_,fun j k d e a h1 h2 h3 h4=>?_⟩
  · obtain ⟨ne,h1⟩:=cH hn h1;rw [List.getElem?_set,if_neg ne] at h2;exact h.own j d a h1 h2
  · obtain ⟨ne,h1⟩:=cH hn h1;obtain ⟨ne',h2⟩:=cH hn h2;rw [List.getElem?_set,if_neg ne] at h3;rw [List.getElem?_set,if_neg ne'] at h4;exact h.apart j k d e a h1 h2 h3 h4
theorem pX {H:Hp} {d:PyData} {v:V} (h:jb H d v):∃ a o,v=.ref a/\H a=some o:=by
  cases d <;> simp only [jb] at h
  · obtain ⟨a,vs,e,ha,_⟩:=h;exact ⟨a,_,e,ha⟩
  · obtain ⟨a,vs,e,ha,_⟩:=h;exact ⟨a,_,e,ha⟩
theorem gv.setOwn {Fm H0 H:Hp} {σ:St} {ρ:aE} {d:PyData} {v:V} (h0:gv Fm H0 σ ρ) (h:gv Fm H σ ρ) (hs:ar H0 H) (i:Nat) (hn:AD H0 H d v):gv Fm H (σ.set i (some v)) (ρ.set i (.own d)):=by
  obtain ⟨p,a,rfl,ha⟩:=hn;have old:∀ (j:Nat) (e:PyData) (b:Addr),i≠j->(ρ.set i (.own d))[j]?=some (.own e)->(σ.set i (some (.ref a)))[j]?=some (some (.ref b))->ρ[j]?=some (.own e)/\σ[j]?=some (some (.ref b)):=fun j e b ne h1 h2=>by
    rw [List.getElem?_set,if_neg ne] at h1 h2;exact ⟨h1,h2⟩
  have notA:∀ (j:Nat) (e:PyData),ρ[j]?=some (.own e)->σ[j]?=some (some (.ref a))->False:=fun j e h1 h2=>by
    obtain ⟨u,e1,q⟩:=h0.sl.2 j _ _ h1 h2;cases e1;obtain ⟨b,o,e2,hb⟩:=pX q;cases e2;rw [ha] at hb;cases hb
  have here:∀ (b:Addr),(σ.set i (some (.ref a)))[i]?=some (some (.ref b))->b=a:=fun b h2=>by
    rw [List.getElem?_set,if_pos rfl] at h2;split at h2
    · cases h2;rfl
    · cases h2
  refine ⟨h.fm,h.sl.set i ⟨_,rfl,p⟩,fun j e b h1 h2=>?_,fun j k e f b h1 h2 h3 h4=>?_⟩
  · by_cases hij:i=j
    · subst hij;rw [here b h2];exact (h0.fm).free ha
    · obtain ⟨h1,h2⟩:=old j e b hij h1 h2;exact h.own j e b h1 h2
  · by_cases hij:i=j
    · subst hij;have eb:=here b h3;by_cases hik:i=k
      · exact hik
      · obtain ⟨h2,h4⟩:=old k f b hik h2 h4;rw [eb] at h4;exact (notA k f h2 h4).elim
    · obtain ⟨h1,h3⟩:=old j e b hij h1 h3;by_cases hik:i=k
      · subst hik;have eb:=here b h4;rw [eb] at h3;exact (notA j e h1 h3).elim
      · obtain ⟨h2,h4⟩:=old k f b hik h2 h4;exact h.apart j k e f b h1 h2 h3 h4
theorem aF (T:Tb X nl G) (i:Nat) (hN:(X.N.take nl)[i]?=some x) (he:Z.cE X e f) (hs:swapsWith e (some (.Name x pos')) pos.line X.env=pure false:=by rfl):Z.kU X (.Assign [.Name x pos'] e pos) (ci i f):=⟨have he:=he.un;fun Fm=>by
  have hm:=T.loc x (List.mem_of_getElem? hN);have hi:X.N[i]?=some x:=by
    rw [List.getElem?_take] at hN;split at hN
    · exact hN
    · cases hN
  exact PS.imp (xz T.nd hi hm.1 he hs hm.2) fun D σ H h=>(ss (P:=fU) (f:=f) (k:=fun ρ d=>.ok (.nx (ρ.set i (.val d)))) h).post fun v H1 ⟨ρ,d,sl,_,p,q⟩ =>
    q _ H1 (sl.set i (fun e z=>by cases z) ⟨v,rfl,p⟩)⟩
theorem jV (T:Tb X nl G) (i:Nat) (hN:(X.N.take nl)[i]?=some x) (he:Z.ky X e f) (hs:swapsWith e (some (.Name x pos')) pos.line X.env=pure false:=by rfl):Z.kU X (.Assign [.Name x pos'] e pos) (jf i f):=⟨have he:=he.un;fun Fm=>by
  have hm:=T.loc x (List.mem_of_getElem? hN);have hi:X.N[i]?=some x:=by
    rw [List.getElem?_take] at hN;split at hN
    · exact hN
    · cases hN
  refine PS.imp (xz T.nd hi hm.1 he hs hm.2) fun D σ H h=>?_
  obtain ⟨ρ0,sl0,q0⟩:=h;refine ⟨ρ0,sl0.sl,?_⟩;unfold jf at q0;cases ef:f ρ0 with
  | ex c=>rw [ef] at q0;exact q0.1.mono sl0.fm
  | no=>rw [ef] at q0;exact q0
  | ok d =>
    rw [ef] at q0;exact fun v H1 s p=>q0 _ H1 (gv.setOwn sl0 (sl0.mono s) s i p)⟩
end
structure Aa (J:It) (Gd:Hp->Prop) (ds:List PyData):Prop where
  go:∀ i H,Gd H->i < ds.length->J.go i H
  yld:∀ i H x H' d,Gd H->ds[i]?=some d->J.yld i H x H'->ar H H'/\Rp H' d x
  stop:∀ i H,Gd H->ds.length<=i->J.stop i H
noncomputable def Dx (H0:Hp) (B:Addr->Prop) (Gd:Hp->Prop):Prop:=∀ H,Kp H0 H->(∀ b o,B b->H0 b=some o->H b=some o)->Gd H
noncomputable def Ez (X:Cx) (f:aE->R (List PyData)):TI:=fun σ H Rk=>∃ ρ,Sl H σ ρ/\match f ρ with
  | .ok ds=>∀ J H',ar H H'->(∃ Gd,Aa J Gd ds/\Dx H' (fun _=>False) Gd)->Rk J H'
  | .ex c=>Xw X c H
  | .no=>False
noncomputable def qb (X:Cx) (tg iter:Expr) (f:aE->R (List PyData)):Prop:=PI X tg iter (Ez X f)
structure Z.qb (X:Cx) (tg iter:Expr) (f:aE->R (List PyData)):Prop where
  un:D2.qb X tg iter f
noncomputable def Ey (X:Cx) (b:PyData->aE->Option aE):TG:=fun v σ H Q=>∃ ρ d,Sl H σ ρ/\Rp H d v/\match b d ρ with
  | some ρ'=>∀ σ',Sl H σ' ρ'->(∀ (i:Nat) (e:PyData),ρ'[i]?=some (.own e)->ρ[i]?=some (.own e)/\σ'[i]?=σ[i]?)->Q σ' H
  | none=>False
noncomputable def qa (X:Cx) (tg:Expr) (b:PyData->aE->Option aE):Prop:=PG X tg (Ey X b)
structure Z.qa (X:Cx) (tg:Expr) (b:PyData->aE->Option aE):Prop where
  un:D2.qa X tg b
noncomputable def aP (i:Nat):PyData->aE->Option aE:=fun d ρ=>some (ρ.set i (.val d))
theorem PG.imp {X:Cx} {e:Expr} {t t':TG} (h:PG X e t) (i:∀ v σ H Q,t' v σ H Q->t v σ H Q):PG X e t':=fun pins s σ H v u Q I r q=>h pins s σ H v u Q I r (i v σ H Q q)
theorem PI.imp {X:Cx} {tg e:Expr} {t t':TI} (h:PI X tg e t) (i:∀ σ H Q,t' σ H Q->t σ H Q):PI X tg e t':=fun pins s σ H Q I q=>h pins s σ H Q I (i σ H Q q)
section
variable {X:Cx} {nl:Nat} {G:List Str} {x:Str} {pos:Pos}
theorem Tb.nm (T:Tb X nl G) {i:Nat} (hN:(X.N.take nl)[i]?=some x):X.N[i]?=some x/\AC X.env.scope x/\(X.fn x=true\/X.env.scope.names.lookup x=some .local):=by
  have hm:=T.loc x (List.mem_of_getElem? hN);have hi:X.N[i]?=some x:=by
    rw [List.getElem?_take] at hN;split at hN
    · exact hN
    · cases hN
  exact ⟨hi,hm⟩
theorem aO (T:Tb X nl G) (i:Nat) (hN:(X.N.take nl)[i]?=some x):Z.qa X (.Name x pos) (aP i):=⟨by
  obtain ⟨hi,h1,h2⟩:=T.nm hN;refine PG.imp (pY T.nd hi h1 h2) fun v σ H Q ⟨ρ,d,sl,p,q⟩=>?_
  refine q _ (sl.set i ⟨v,rfl,p⟩) fun j e h=>?_
  obtain ⟨ne,h⟩:=cH (fun e z=>by cases z) h;exact ⟨h,by rw [List.getElem?_set,if_neg ne]⟩⟩
end
noncomputable def fw (b:PyData->aE->Option aE) (g:Fs):List PyData->Fs
  | [],ρ=>.ok (.nx ρ)
  | d::ds,ρ=>match b d ρ with
    | none=>.no
    | some ρ1=>g ρ1>>=fun o=>match o with
      | .nx ρ2=>fw b g ds ρ2
      | .ct ρ2=>fw b g ds ρ2
      | .bk ρ2=>.ok (.nx ρ2)
      | .rt r=>.ok (.rt r)
noncomputable def nh (it:aE->R (List PyData)) (b:PyData->aE->Option aE) (g:Fs):Fs:=fun ρ=>it ρ>>=fun ds=>fw b g ds ρ
noncomputable def stab (Fm H:Hp):Hp:=fun b=>match H b with
  | some (.tup xs)=>some (.tup xs)
  | some (.frz o u)=>some (.frz o u)
  | _=>Fm b
theorem vF {Fm H:Hp} (h:ar Fm H):ar (stab Fm H) H:=fun b o e=>by
  unfold stab at e;split at e
  · rename_i q;rw [q];exact e
  · rename_i q;rw [q];exact e
  · exact h b o e
theorem zR {Fm H:Hp}:Kp H (stab Fm H):=⟨fun b xs e=>by unfold stab;rw [e],fun b o u e=>by unfold stab;rw [e]⟩
theorem zQ {Fm H:Hp} (h:ar Fm H):ar Fm (stab Fm H):=fun b o e=>by
  have:=h b o e;unfold stab;split
  · rename_i q;rw [this] at q;exact q.symm
  · rename_i q;rw [this] at q;exact q.symm
  · exact e
theorem gv.stab {Fm H:Hp} {σ:St} {ρ:aE} (h:gv Fm H σ ρ):gv (stab Fm H) H σ ρ:=by
  refine ⟨vF h.fm,h.sl,fun i d a h1 h2=>?_,h.apart⟩;have f:=h.own i d a h1 h2;obtain ⟨u,e1,q⟩:=h.sl.2 i _ _ h1 h2;cases e1;unfold D2.stab;cases d <;> simp only [jb] at q
  · obtain ⟨b,vs,e,hb,_⟩:=q;cases e;rw [hb];exact f
  · obtain ⟨b,vs,e,hb,_⟩:=q;cases e;rw [hb];exact f
theorem gv.unstab {Fm F H:Hp} {σ:St} {ρ:aE} (hF:ar Fm F) (h:gv F H σ ρ):gv Fm H σ ρ:=⟨hF.trans h.fm,h.sl,fun i d a h1 h2=>hF.free (h.own i d a h1 h2),h.apart⟩
theorem eU {X:Cx} {tg iter:Expr} {body:List Stmt} {it:aE->R (List PyData)} {b:PyData->aE->Option aE} {g:Fs} {pos:Pos} (hp:PassesOwn (model X.prog X.w) X.A X.env X.xe) (hc:X.calm=true) (hi:Z.qb X tg iter it) (hg:Z.qa X tg b) (hb:Z.kz X body g) (hs:∀ x,foldedSetIterable iter X.env x=pure x:=by intro _;rfl):Z.kU X (.For tg iter body [] pos) (nh it b g):=⟨have hi:=hi.un;have hg:=hg.un;have hb:=hb.un;fun Fm=>by
  intro pins s σ H D I h;obtain ⟨ρ,sl,q⟩:=h;unfold nh at q
  -- the frame: what is stable at the loop's il is only known behind the iterator's making: the body is taken at every frame
  refine Bz (wi:=Ez X it) (g:=Ey X b) (tb:=fun D' σ' H'=>∃ F,As X F g D' σ' H') hp hc hi hg (fun pins' s' σ' H' D' I' ⟨F,q'⟩=>hb F pins' s' σ' H' D' I' q') hs pins s σ H D I ?_;refine ⟨ρ,sl.sl,?_⟩;cases ei:it ρ with
  | ex c=>rw [ei] at q;exact q.1.mono sl.fm
  | no=>rw [ei] at q;exact q
  | ok ds =>
    rw [ei] at q;intro J H1 s1 ⟨Gd,idt,sta⟩;have sl1:=sl.mono s1;let F:=stab Fm H1
    have hF:ar Fm F:=zQ sl1.fm
    -- the word: so many items are taken,and the dS gives what the whole gives
    refine ⟨fun i m σ' H'=>m=ds.length-i/\i<=ds.length/\∃ ρ',gv F H' σ' ρ'/\ym X Fm (fw b g (ds.drop i) ρ') D,⟨ds.length,by simp,Nat.zero_le _,ρ,sl1.stab,by simpa using q⟩,?_⟩;rintro i m σ2 H2 ⟨rfl,hi',ρ2,sl2,q2⟩;have gd:Gd H2:=sta H2 (Kp.trans zR (Kp.of sl2.fm)) fun _ _ z=>z.elim
    by_cases hlt:i < ds.length
    · refine .inr ⟨idt.go i H2 gd hlt,fun σ' H'=>i+1<=ds.length/\∃ ρ',gv F H' σ' ρ'/\ym X Fm (fw b g (ds.drop (i+1)) ρ') D,fun σ' H' ⟨z,p⟩=>⟨ds.length-(i+1),by omega,rfl,z,p⟩,fun x H3 y=>?_⟩;obtain ⟨d,hd⟩:∃ d,ds[i]?=some d:=⟨ds[i],List.getElem?_eq_getElem hlt⟩
      obtain ⟨s3,p3⟩:=idt.yld i H2 x H3 d gd hd y;have hdrop:ds.drop i=d::ds.drop (i+1):=by
        rw [List.drop_eq_getElem_cons hlt];congr 1;exact Option.some.inj ((List.getElem?_eq_getElem hlt).symm.trans hd)
      rw [hdrop] at q2;unfold fw at q2;have sl3:=sl2.mono s3;refine ⟨ρ2,d,sl3.sl,p3,?_⟩;cases eb:b d ρ2 with
      | none=>rw [eb] at q2;exact q2
      | some ρ3 =>
        rw [eb] at q2;intro σ4 sl4 hown;refine ⟨F,ρ3,⟨sl3.fm,sl4,fun j e a h1 h2=>?_,fun j k e f a h1 h2 h3 h4=>?_⟩,?_⟩
        · obtain ⟨z1,z2⟩:=hown j e h1;exact sl3.own j e a z1 (by rw [<- z2];exact h2)
        · obtain ⟨z1,z2⟩:=hown j e h1;obtain ⟨z3,z4⟩:=hown k f h2;exact sl3.apart j k e f a z1 z3 (by rw [<- z2];exact h3) (by rw [<- z4];exact h4)
        · have q3:ym X Fm (g ρ3>>=fun o=>match o with
            | .nx ρ2=>fw b g (ds.drop (i+1)) ρ2
            | .ct ρ2=>fw b g (ds.drop (i+1)) ρ2
            | .bk ρ2=>.ok (.nx ρ2)
            | .rt r=>.ok (.rt r)) D:=q2
          cases eg:g ρ3 with
          | ex c=>rw [eg] at q3;exact ⟨q3.1.mono hF,q3.2.mono hF⟩
          | no=>rw [eg] at q3;exact q3
          | ok o =>
            rw [eg] at q3;cases o with
            | nx ρ4=>exact fun σ' H' s'=>⟨hlt,ρ4,s',q3⟩
            | ct ρ4=>exact fun σ' H' s'=>⟨hlt,ρ4,s',q3⟩
            | bk ρ4=>exact fun σ' H' s'=>q3 σ' H' (s'.unstab hF)
            | rt r=>exact fun v H' s' p'=>q3 v H' (hF.trans s') p'
    · have e:i=ds.length:=by omega
      subst e;refine .inl ⟨idt.stop _ H2 gd (Nat.le_refl _),?_⟩;rw [List.drop_length] at q2;exact q2 σ2 H2 (sl2.unstab hF)⟩
noncomputable def dM (n:Nat) (g:Fs):List PyData->R PyData:=fun ds=>g (ds.map bi.val++List.replicate (n-ds.length) .non)>>=fun o=>match o with
  | .rt d=>.ok d
  | .nx _=>.ok .none
  | _=>.no
noncomputable def dt (F:List PyData->R PyData) (n:Nat):Sp:=fun vs H Q E=>∃ ds,bF H ds vs/\ds.length=n/\match F ds with
  | .ok d=>∀ v H',ar H H'->Rp H' d v->Q v H'
  | .ex c=>∀ H',ar H H'->E (.str c 0) none H'
  | .no=>False
theorem xV {H:Hp} {N:List Str}:∀ {ds:List PyData} {vs:List V},bF H ds vs->Sl H (L2.il N vs) (ds.map bi.val++List.replicate (N.length-ds.length) .non):=fun {ds vs} r=>by
  have hl:=r.length;refine ⟨by unfold L2.il;rw [List.length_append,List.length_append,List.length_map,List.length_map,List.length_replicate,List.length_replicate,hl],fun i c o h1 h2=>?_⟩;by_cases hi:i < ds.length
  · rw [List.getElem?_append_left (by simpa using hi),List.getElem?_map] at h1;cases e:ds[i]? with
    | none=>rw [e] at h1;cases h1
    | some d =>
      rw [e] at h1;cases h1;obtain ⟨v,e1,p⟩:=r.get e;unfold L2.il at h2;rw [List.getElem?_append_left (by rw [List.length_map,hl];exact hi),List.getElem?_map,e1] at h2;cases h2;exact ⟨v,rfl,p⟩
  · rw [List.getElem?_append_right (by simpa using hi),List.getElem?_replicate] at h1;split at h1
    · cases h1;exact True.intro
    · cases h1
section
variable {P:Program} {w:World} {H:Hp} {h:Heap} {a:Addr}
theorem sS:∀ {o:HO},bV P w H h a o->∃ u,h.get? a=some u
  | .lst xs,x=>by obtain ⟨_,_,_,_,e⟩:=x;exact ⟨_,e⟩
  | .tup xs,x=>by obtain ⟨_,_,_,o,e,_⟩:=x;exact ⟨_,e⟩
  | .dK kvs,x=>by obtain ⟨_,_,_,_,o,_,_,e,_⟩:=x;exact ⟨_,e⟩
  | .dT kvs,x=>by obtain ⟨_,_,_,_,o,_,_,e,_⟩:=x;exact ⟨_,e⟩
  | .set S n,x=>by obtain ⟨o,_,_,_,e,_⟩:=x;exact ⟨_,e⟩
  | .ins C dx fs,x=>by obtain ⟨_,_,_,e,_⟩:=x;exact ⟨_,e⟩
  | .own y,x=>by obtain ⟨_,e⟩:=x;exact ⟨_,e⟩
  | .xd fs,x=>by obtain ⟨_,⟨_,_,_,e,_⟩,_⟩:=x;exact ⟨_,e⟩
  | .rng lo hi,x=>by obtain ⟨_,_,_,e⟩:=x;exact ⟨_,e⟩
  | .frz ob u,x=>by obtain ⟨e,_⟩:=x;exact ⟨_,e⟩
  | .tbl ps,x=>⟨_,(show h.get? a=some _ from x)⟩
  | .met f y,x=>⟨_,(show h.get? a=some _ from x)⟩
  | .ext φ,x=>by obtain ⟨_,⟨_,e⟩,_⟩:=x;exact ⟨_,e⟩
end
theorem o5.un {P:Program} {w:World} {outer:List Env} {H H':Hp} {s s':Shared} {C:Addr} {e:Value} (f:o5 P w outer H s C H' e s'):Un (jR outer) [] H H' s.heap s'.heap:=by
  obtain ⟨p,a0,B,_,fl,ok,_,cov⟩:=f.ex;refine ⟨fun b o q n hb _=>fl.1 _ _ (cov b o q n hb).1,fun b o q n hb _=>(f.slot b o q n hb).1,fun b o q n _=>?_,fun b o q _=>?_,fun b xs q=>f.same _ _ q,fun b o u q=>f.same _ _ q,fun b ps q=>⟨#[],by rw [f.same _ _ q];simp⟩⟩
  · by_cases hb:b∈jR outer
    · exact (f.slot b o q n hb).2
    · exact (cov b o q n hb).2
  · cases n:H b with
    | none =>
      by_cases hb:b∈jR outer
      · obtain ⟨sl,z⟩:=(f.slot b o q n hb).1;exact ⟨_,z⟩
      · exact ⟨o,fl.1 _ _ (cov b o q n hb).1⟩
    | some u =>
      obtain ⟨o',z⟩:=sS (ok b u (f.same _ _ n));exact ⟨o',fl.1 _ _ z⟩
theorem o5.hok {P:Program} {w:World} {outer:List Env} {H H':Hp} {s s':Shared} {C:Addr} {e:Value} (f:o5 P w outer H s C H' e s'):gj P w H' s'.heap:=by
  obtain ⟨p,a0,B,_,fl,ok,_,_⟩:=f.ex;exact ok.kept fun b u q=>fl.1 b u q
theorem kW.un {P:Program} {w:World} {outer:List Env} {H H':Hp} {s s':Shared} {C:Addr} {e:Value} (f:kW P w outer H s C H' e s'):Un (jR outer) [] H H' s.heap s'.heap:=f.hld.un
theorem kW.hok {P:Program} {w:World} {outer:List Env} {H H':Hp} {s s':Shared} {C:Addr} {e:Value} (f:kW P w outer H s C H' e s'):gj P w H' s'.heap:=f.hld.hok
theorem o5.inv {X:Cx} {pins:List (Addr×Obj)} {σ:St} {Hc H1:Hp} {sc s':Shared} {C:Addr} {e:Value} (f:o5 X.prog X.w X.stack Hc sc C H1 e s') (I:aC X pins σ Hc sc):aC X pins σ H1 s' :=
  I.call' f.os f.un f.hok f.bare fun b z=>absurd z (by simp)
section
variable {P:Program} {w:World} {l:List Env} {H H':Hp} {s s':Shared} {C p:Addr} {e:Value}
theorem o5.again {a0:Value} {B h':Heap} (f:o5 P w l H s C H' e s') (t:qw B l p (.ref C) a0 s'.heap) (t':qw B l p (.ref C) a0 h') (up:s'.heap.UpToSlots h') (okB:gj P w H' B) (hp:H' p=none)
    (cov:∀ b o,s.heap.get? b=some o->H b=none->b∉jR l->B.get? b=some o/\H' b=none):o5 P w l H s C H' (.ref p) { s' with heap:=h' }:=by
  refine ⟨f.os,f.bare,f.same,⟨p,a0,B,rfl,t',okB,hp,cov⟩,fun b o q n hb=>?_⟩;obtain ⟨⟨sl,q2⟩,n2⟩:=f.slot b o q n hb;obtain ⟨_,o3,q3,nf⟩:=t.2.2.1.mem hb;rw [q2] at q3;cases q3;obtain ⟨sl3,q4⟩:=up b _ q2 nf;exact ⟨⟨sl3,q4⟩,n2⟩
theorem w9 {x:Value} {env env0:Env} (h:env.frame=env0.frame):noteFrame x env=noteFrame x env0:=by
  unfold noteFrame PySem.frameOf;rw [h]
theorem o5.note {M:Model} {A:Around} {E:Value->Shared->Prop} {Q:Unit->Shared->Prop} {env env0:Env} {outer:List Env} {L:Addr} (f:o5 P w l H s C H' e s') (hl:l=env0::outer) (hfr:A.frames=some l) (h0:env0.frame=some L) (h1:env.frame=some L)
    (k:∀ h',o5 P w l H s C H' e { s' with heap:=h' }->s'.heap.UpToSlots h'->Q () { s' with heap:=h' }):wpAny M A (noteFrame e env) Q E s':=by
  subst hl;obtain ⟨p,a0,B,rfl,t,okB,hp,cov⟩:=f.ex;rw [w9 (h1.trans h0.symm)];exact rK hfr h0 t fun h' t' up=>k h' (f.again t t' up okB hp cov) up
theorem o5.pass {α:Type} {M:Model} {A:Around} {E:Value->Shared->Prop} {Q:α->Shared->Prop} {env:Env} {what:String} (f:o5 P w l H s C H' e s') (k:∀ h',o5 P w l H s C H' e { s' with heap:=h' }->E e { s' with heap:=h' }):wpAny M A (PySem.passOn what e env:Sem α) Q E s':=by
  obtain ⟨p,a0,B,rfl,t,okB,hp,cov⟩:=f.ex;exact x0 t fun h' t' up=>k h' (f.again t t' up okB hp cov)
end
section
variable {P:Program} {w:World} {K:PySem.W.Frag} {mg:Str->Option Value} {base:Heap} {N:List Str} {qual:Str} {sc:Scope} {f:Addr} {cdv:Value} {A:Around} {outer:List Env} {s:Shared} {H:Hp} {E:XK} {c:Str}
theorem B1 (h:∀ H',ar H H'->E (.str c 0) none H'):Xw (eW (cM P w mg) P w K mg base N qual sc f cdv A outer s H E) c H:=by
  intro H1 s1 C hm pins σ Hc sc' e s' I fl;obtain ⟨p,a0,B,rfl,fly,okB,hp,cov⟩:=fl.ex;have old:∀ b o,s.heap.get? b=some o->b≠s.heap.objs.size:=fun b o q=>Nat.ne_of_lt (Heap.lt_size q)
  refine vH I.ok.frames rfl fly fun h' fl' up=>⟨c,C,H1,hm,⟨fl.os.trans I.os,fl.bare,s1,⟨p,a0,B,rfl,fl',okB,hp,fun b o q n hb=>?_⟩,fun b o q n hb=>?_⟩,h H1 s1⟩
  · have q1:=I.base.keep b o q n hb (by simp [eW]);have n1:=I.base.free b o q n (by simp [eW]);refine cov b o q1 n1 fun z=>?_
    have z':b∈(s.heap.objs.size::jR outer):=z;rcases List.mem_cons.mp z' with z2 | z2
    · exact old b o q z2
    · exact hb z2
  · obtain ⟨sl,q1⟩:=I.base.slot b o q n hb (by simp [eW]);have n1:=I.base.free b o q n (by simp [eW]);have hb':b∈jR (eW (cM P w mg) P w K mg base N qual sc f cdv A outer s H E).stack:=List.mem_cons_of_mem _ hb;obtain ⟨⟨sl',q2⟩,n2⟩:=fl.slot b _ q1 n1 hb';obtain ⟨_,o3,q3,nf⟩:=fly.2.2.1.mem hb';rw [q2] at q3;cases q3;obtain ⟨sl3,q4⟩:=up b _ q2 nf;exact ⟨⟨sl3,q4⟩,n2⟩
theorem zZ (h:∀ H',ar H H'->E (.str c 0) none H'):Ch (eW (cM P w mg) P w K mg base N qual sc f cdv A outer s H E) c H:=by
  intro C hm pins σ Hm sm sH I h' p vs hx;have hin:∀ env∈(eW (cM P w mg) P w K mg base N qual sc f cdv A outer s H E).stack,∀ b,env.frame=some b->b∈jR (eW (cM P w mg) P w K mg base N qual sc f cdv A outer s H E).stack:=fun env he b hb=>List.mem_filterMap.mpr ⟨env,he,hb⟩
  have old:∀ b o,s.heap.get? b=some o->b≠s.heap.objs.size:=fun b o q=>Nat.ne_of_lt (Heap.lt_size q)
  refine wpAny_leaves_madeW (s:={ sm with heap:=h' }) (base:=PySem.W.hideAll sm.heap (jR (eW (cM P w mg) P w K mg base N qual sc f cdv A outer s H E).stack)) I.ok.frames rfl (fun b o q=>PySem.W.of_hideAll _ q) (PySem.W.funFrames_hide I.stack hin) hx fun h'' t fl' _ _ up =>
    ⟨c,C,Hm,hm,⟨I.os,I.bare,sH,⟨p,.ref t,_,rfl,fl',fun b u q=>?_,?_,fun b o q n hb=>?_⟩,fun b o q n hb=>?_⟩,h Hm sH⟩
  · refine (I.hok b u q).stay (fun c' v hc z=>PySem.W.hideAll_get _ z fun m=>?_) (fun _ z=>z) fun _ _ z=>z
    have hn:=I.stkFree c' m;rcases hc with rfl | hc
    · rw [hn] at q;cases q
    · rw [hn] at hc;cases hc
  · cases q:Hm p with
    | none=>rfl
    | some u =>
      obtain ⟨o',z⟩:=sS (I.hok p u q);rw [hx.new] at z;cases z
  · have q1:=I.base.keep b o q n hb (by simp [eW]);have n1:=I.base.free b o q n (by simp [eW]);refine ⟨PySem.W.hideAll_get _ q1 fun z=>?_,n1⟩;have z':b∈(s.heap.objs.size::jR outer):=z;rcases List.mem_cons.mp z' with z2 | z2
    · exact old b o q z2
    · exact hb z2
  · obtain ⟨sl,q1⟩:=I.base.slot b o q n hb (by simp [eW]);have n1:=I.base.free b o q n (by simp [eW]);have hb':b∈jR (eW (cM P w mg) P w K mg base N qual sc f cdv A outer s H E).stack:=List.mem_cons_of_mem _ hb;obtain ⟨_,o3,q3,nf⟩:=I.stack.mem hb';rw [q1] at q3;cases q3;obtain ⟨sl3,q4⟩:=up b _ (hx.keeps _ _ q1) nf;exact ⟨⟨sl3,q4⟩,n1⟩
end
theorem yT {P:Program} {w:World} {K:PySem.W.Frag} {mg:Str->Option Value} {base:Heap} {x qual:Str} {st:Stmt} {f:Addr} {fd:FuncData} {N ps:List Str} {k:Nat} {g:Fs} (F:gi K x qual st f fd) (S:aL N ps (ak st))
    (body:∀ (cdv:Value) (A:Around) (outer:List Env) (s:Shared) (H:Hp) (E:XK),fq k (A.deeper (envOfC qual (ak st) s.heap.objs.size f cdv)) ->
      kz (eW (cM P w mg) P w K mg base N qual (ak st) f cdv A outer s H E) (cV st) g):aW P w K mg base (cM P w mg) (k+1) f fd ps (dt (dM N.length g) ps.length):=by
  obtain ⟨oc,od,kV,doc,pm,an,cdv,ct,osl,rfl,lk,hcd⟩:=F.ex;refine Af lk hcd S (fun vs H Q E ⟨ds,r,hl,_⟩=>by rw [r.length];exact hl) fun A outer s H vs Q E hr h=>?_
  obtain ⟨ds,r,hl,q⟩:=h;have noOwn:∀ (i:Nat) (d:PyData),(ds.map bi.val++List.replicate (N.length-ds.length) bi.non)[i]?=some (.own d)->False:=fun i d h1=>by
    by_cases hi:i < ds.length
    · rw [List.getElem?_append_left (by simpa using hi),List.getElem?_map] at h1;cases e:ds[i]? with
      | none=>rw [e] at h1;cases h1
      | some d=>rw [e] at h1;cases h1
    · rw [List.getElem?_append_right (by simpa using hi),List.getElem?_replicate] at h1;split at h1
      · cases h1
      · cases h1
  refine ⟨_,body cdv A outer s H E hr H,_,⟨ar.refl _,xV r,fun i d a h1 h2=>(noOwn i d h1).elim,fun i j d e a h1 h2 h3 h4=>(noOwn i d h1).elim⟩,?_⟩;unfold dM at q;cases eg:g (ds.map bi.val++List.replicate (N.length-ds.length) .non) with
  | ex c=>rw [eg] at q;exact ⟨B1 q,zZ q⟩
  | no=>rw [eg] at q;exact q.elim
  | ok o =>
    rw [eg] at q;cases o with
    | rt d=>exact fun v H' s' p=>q v H' s' p
    | nx ρ=>exact fun σ' H' s'=>q .non H' s'.fm (by simp only [Rp])
    | bk ρ=>exact q.elim
    | ct ρ=>exact q.elim
noncomputable def aI (F:List PyData->R PyData) (fs:aE->R (List PyData)):Fe:=fun ρ=>fs ρ>>=F
theorem yR {X:Cx} {k n:Nat} {f:Addr} {fd:FuncData} {ps:List Str} {F:List PyData->R PyData} {x:Str} {p pos:Pos} {e:Expr} {es:List Expr} {fs:aE->R (List PyData)} {nl:Nat} {G:List Str}
    (C:aW X.prog X.w X.K X.mg X.base (cM X.prog X.w X.mg) k f fd ps (dt F n)) (hr:fq k X.A) (T:Tb X nl G) (j:Nat) (hG:G[j]?=some x) (hm:X.mg x=some (.ref f)) (hk:PySem.W.keepIn X.K (.ref f)=true) (hb:bH X.K fd ps []) (ha:rW X (e::es) fs)
    (hlen:(e::es).length=n) (hfs:∀ ρ ds,fs ρ=.ok ds->ds.length=n)
    (he:(e::es).all aH=true:=by rfl):cE X (.Call (.Name x p) (e::es) [] pos) (aI F fs):=by
  rw [List.all_cons,Bool.and_eq_true] at he;have g:=T.gl x (List.mem_of_getElem? hG);refine PE.imp (zu C hr g.1 hm hk hb .nil zr ha g.2.1 (aS he.1) (nr he.2)) fun σ H Q ⟨ρ,sl,q⟩=>?_
  refine ⟨ρ,sl,?_⟩;unfold aI at q;cases e1:fs ρ with
  | ex c=>rw [e1] at q;exact q
  | no=>rw [e1] at q;exact q
  | ok ds =>
    rw [e1] at q;intro vs H1 s1 r1;rw [List.append_nil];refine ⟨ds,nc.mp r1,hfs ρ ds e1,?_⟩;have q':ud X fU (F ds) H Q:=q;cases e2:F ds with
    | ok d=>rw [e2] at q';exact fun v H' s' p'=>q' v H' (s1.trans s') p'
    | ex c=>rw [e2] at q';exact fun H' s'=>Xw.ex q' H' (s1.trans s')
    | no=>rw [e2] at q';exact q'
theorem ao:∀ ρ ds,aD ρ=.ok ds->ds.length=0:=fun ρ ds e=>by cases e;rfl
theorem ag {f:Fe} {g:aE->R (List PyData)} {n:Nat} (h:∀ ρ ds,g ρ=.ok ds->ds.length=n):∀ ρ ds,ai f g ρ=.ok ds->ds.length=n+1:=fun ρ ds e=>by
  unfold ai at e;cases e1:f ρ with
  | ex c=>rw [e1] at e;cases e
  | no=>rw [e1] at e;cases e
  | ok d =>
    rw [e1] at e;cases e2:g ρ with
    | ex c=>rw [e2] at e;cases e
    | no=>rw [e2] at e;cases e
    | ok ds'=>rw [e2] at e;cases e;rw [List.length_cons,h ρ ds' e2]
theorem sx {scope:Scope} {env:Env} (h:∀ x∈scope.names,x.2=.free->∃ c,env.cells.lookup x.1=some c) :
    ∃ cl,closureFor scope env=pure cl/\(∀ x c,cl.lookup x=some c->env.cells.lookup x=some c)/\∀ x∈scope.names,x.2=.free->∃ c,cl.lookup x.1=some c:=by
  suffices gen:∀ (names:List (Str×NameKind)) (acc:List (Str×Addr)),(∀ x∈names,x.2=.free->∃ c,env.cells.lookup x.1=some c)->(∀ x c,acc.lookup x=some c->env.cells.lookup x=some c) ->
      ∃ cl,(forIn names acc fun x r=>if (x.snd==NameKind.free)=true then do let a <- cellOf env x.fst;pure (ForInStep.yield ((x.fst,a)::r)) else pure (ForInStep.yield r):Sem (List (Str×Addr)))=pure cl /\
        (∀ x c,cl.lookup x=some c->env.cells.lookup x=some c)/\(∀ x c,acc.lookup x=some c->∃ c',cl.lookup x=some c')/\∀ x∈names,x.2=.free->∃ c,cl.lookup x.1=some c by
    obtain ⟨cl,h1,h2,_,h4⟩:=gen scope.names [] h fun x c e=>by simp at e
    refine ⟨cl,?_,h2,h4⟩;simp only [closureFor];rw [h1];rfl
  intro names;induction names with
  | nil=>intro acc _ ha;exact ⟨acc,rfl,ha,fun x c e=>⟨c,e⟩,fun x hx=>by cases hx⟩
  | cons y r ih =>
    intro acc hn ha;obtain ⟨n,k⟩:=y;by_cases hk:k=.free
    · subst hk;obtain ⟨c,hc⟩:=hn (n,.free) List.mem_cons_self rfl;obtain ⟨cl,e1,e2,e3,e4⟩:=ih ((n,c)::acc) (fun x hx=>hn x (List.mem_cons_of_mem _ hx)) (fun x c' e=>by
        rw [List.lookup_cons] at e;split at e
        · rename_i q;have:x=n:=by simpa using q
          subst this;cases e;exact hc
        · exact ha x c' e)
      refine ⟨cl,?_,e2,fun x c' e=>?_,fun x hx hf=>?_⟩
      · rw [List.forIn_cons];have:cellOf env n=pure c:=by unfold cellOf;rw [hc]
        simp only [beq_self_eq_true,if_true,this,pure_bind];exact e1
      · by_cases hx:x=n
        · subst hx;exact e3 x c (by rw [List.lookup_cons];simp)
        · have hb:(x==n)=false:=by simpa using hx
          exact e3 x c' (by rw [List.lookup_cons,hb];exact e)
      · rcases List.mem_cons.mp hx with rfl | hx
        · exact e3 n c (by rw [List.lookup_cons];simp)
        · exact e4 x hx hf
    · obtain ⟨cl,e1,e2,e3,e4⟩:=ih acc (fun x hx=>hn x (List.mem_cons_of_mem _ hx)) ha;refine ⟨cl,?_,e2,e3,fun x hx hf=>?_⟩
      · rw [List.forIn_cons];have:(k==NameKind.free)=false:=by simpa using hk
        simp only [this,Bool.false_eq_true,if_false,pure_bind];exact e1
      · rcases List.mem_cons.mp hx with rfl | hx
        · exact absurd hf hk
        · exact e4 x hx hf
noncomputable def CT (env:Env) (p:Str×NameKind):NameKind:=if (p.2==.free&&env.scope.kind==.function&&env.kindOf p.1==some .cell)=true then .cell else p.2
theorem nJ (scope:Scope) (env:Env):(relabel scope env).names=scope.names.map fun p=>(p.1,CT env p):=by
  unfold relabel;refine List.map_congr_left fun p _=>?_
  obtain ⟨n,k⟩:=p;unfold CT;dsimp only;split <;> rfl
theorem lb (g:Str×NameKind->NameKind) (x:Str):∀ l:List (Str×NameKind),(l.map fun p=>(p.1,g p)).lookup x=(l.lookup x).map fun k=>g (x,k)
  | []=>rfl
  | (n,k)::r=>by
    rw [List.map_cons];cases hx:x==n with
    | true =>
      have e:x=n:=by simpa using hx
      subst e;simp
    | false =>
      have ne:¬ x=n:=by simpa using hx
      simp only [List.lookup_cons,hx];exact lb g x r
theorem jL (scope:Scope) (env:Env) (x:Str):(relabel scope env).names.lookup x=(scope.names.lookup x).map fun k=>CT env (x,k):=by
  rw [nJ];exact lb _ _ _
theorem eJ {scope:Scope} {env:Env} {x:Str} {k:NameKind} (h:scope.names.lookup x=some k) (hk:k≠.free):(relabel scope env).names.lookup x=some k:=by
  rw [jL,h];have:(k==NameKind.free)=false:=by simpa using hk
  simp only [CT,this,Bool.false_and,Bool.false_eq_true,if_false,Option.map_some]
theorem hV {scope:Scope} {env:Env} {x:Str} (h:scope.names.lookup x=some .free):(relabel scope env).names.lookup x=some .free\/(relabel scope env).names.lookup x=some .cell:=by
  rw [jL,h];unfold CT;dsimp only [Option.map_some];split
  · exact .inr rfl
  · exact .inl rfl
theorem rq {scope:Scope} {env:Env} {x:Str} (hc:∀ y∈scope.names,y.2≠.cell) (h:(relabel scope env).names.lookup x=some .free\/(relabel scope env).names.lookup x=some .cell):(x,NameKind.free)∈scope.names:=by
  cases e:scope.names.lookup x with
  | none =>
    rw [jL,e] at h;rcases h with h | h <;> cases h
  | some k =>
    by_cases hk:k=.free
    · subst hk;exact PySem.mem_of_lookup e
    · exfalso;have:=eJ (env:=env) e hk;rw [this] at h;rcases h with h | h
      · cases h;exact hk rfl
      · cases h;exact hc _ (PySem.mem_of_lookup e) rfl
noncomputable def ay (X:Cx) (N:List Str) (scope:Scope) (cl:List (Str×Addr)) (C:Addr) (s:Shared) (H:Hp) (fp:List Addr) (E:Value->Shared->Prop:=fun _ _=>False):Cx :=
  { X with N:=N,s₀:=s,H₀:=H,env:=compEnvC scope cl C X.env,outer:=X.stack,stack:=X.stack,ex:=fp,fn:=fun _=>false,pn:=[],xe:=E }
noncomputable def dk (sc:Scope) (N:List Str) (own:Nat) (G:List Str) (oN:List Str) (fr:List Nat):Prop :=
  sc.kind=.function/\(∀ y∈sc.names,y.2≠.cell)/\(∀ y∈sc.names,y.2=.local->sc.names.lookup y.1=some .local)/\N.Nodup/\(∀ x∈N.take own,sc.names.lookup x=some .local)/\(∀ x∈N.drop own,sc.names.lookup x=some .free) /\
  (∀ x∈N,(x==("__debug__" : Str))=false/\(x==("__classdict__" : Str))=false)/\(∀ x∈G,sc.names.lookup x=some .globalImplicit/\(x==("__debug__" : Str))=false/\x≠("__name__" : Str)) /\
  own<=N.length/\(N.drop own).map some=fr.map fun i=>oN[i]?
noncomputable instance {sc:Scope} {N:List Str} {own:Nat} {G oN:List Str} {fr:List Nat}:Decidable (dk sc N own G oN fr):=by unfold dk;infer_instance
theorem yG {X:Cx} {nl:Nat} {G0:List Str} (T:Tb X nl G0) {sc:Scope} {N:List Str} {own:Nat} {G oN:List Str} {fr:List Nat} (ck:dk sc N own G oN fr) (cl:List (Str×Addr)) (C:Addr) (s:Shared) (H:Hp) (fp:List Addr) :
    Tb (ay X N sc cl C s H fp) own G:=by
  obtain ⟨_,_,_,nd,l,f,db,g,_,_⟩:=ck;refine ⟨T.hu,T.calm,nd,fun x hx=>?_,fun x hx=>?_,fun x hx=>?_⟩
  · refine ⟨?_,db x hx⟩;have hx':x∈N.take own++N.drop own:=by rw [List.take_append_drop];exact hx
    rcases List.mem_append.mp hx' with z | z
    · exact .inl (eJ (l x z) (by decide))
    · rcases hV (env:=X.env) (f x z) with q | q
      · exact .inr (.inr q)
      · exact .inr (.inl q)
  · have q:=eJ (env:=X.env) (l x hx) (by decide);exact ⟨.inl q,.inr q⟩
  · obtain ⟨g1,g2,g3⟩:=g x hx;exact ⟨eJ (env:=X.env) g1 (by decide),g2,g3⟩
theorem wn {X:Cx} {nl:Nat} {G0:List Str} (T:Tb X nl G0) {sc:Scope} {N:List Str} {own:Nat} {G oN:List Str} {fr:List Nat} (ck:dk sc N own G oN fr) (cl:List (Str×Addr)) (C:Addr) (s:Shared) (H:Hp) (fp:List Addr) (E:Value->Shared->Prop) :
    Tb (ay X N sc cl C s H fp E) own G:=let T1:=yG T ck cl C s H fp;⟨T1.hu,T1.calm,T1.nd,T1.vis,T1.loc,T1.gl⟩
noncomputable def ED (X:Cx) (ifs:List Expr) (t:TT):Prop :=
  ∀ (pins:List (Addr×Obj)) (s:Shared) (σ:St) (H:Hp) (Q:Bool->Hp->Prop),aC X pins σ H s->t σ H Q->wpAny (model X.prog X.w) X.A (forIn ifs true fun c r=>if r=true then do let ok <- isTrue c X.env (eval c X.env);pure (ForInStep.yield ok) else pure (ForInStep.yield r))
    (TP X pins σ Q) X.xe s
noncomputable def qm (X:Cx) (ifs:List Expr) (t:aE->R Bool):Prop:=ED X ifs (zJ X t)
structure Z.qm (X:Cx) (ifs:List Expr) (t:aE->R Bool):Prop where
  un:D2.qm X ifs t
theorem da {X:Cx}:Z.qm X [] (fun _=>.ok true):=⟨fun pins s σ H Q I ⟨ρ,sl,q⟩=>wpAny_tests_nil ⟨H,I,q H (ar.refl _)⟩⟩
theorem gx {X:Cx} {c:Expr} {t:aE->R Bool} (h:Z.nC X c t):Z.qm X [c] t:=⟨have h:=h.un;fun pins s σ H Q I q=>wpAny_tests_one (h pins s σ H Q I q)⟩
noncomputable def cC (b:PyData->aE->Option aE) (t:aE->R Bool) (f:Fe) (ρ:aE):List PyData->R (List PyData)
  | []=>.ok []
  | d::ds=>match b d ρ with
    | none=>.no
    | some ρ1=>t ρ1>>=fun k=>if k=true then f ρ1>>=fun x=>cC b t f ρ ds>>=fun xs=>.ok (x::xs) else cC b t f ρ ds
noncomputable def aq (own:Nat) (fr:List Nat) (ρ:aE):aE:=List.replicate own .non++fr.map fun i=>ρ.getD i .non
noncomputable def oF {α:Type}:R α->R α
  | .ex _=>.no
  | r=>r
noncomputable def bR (it:aE->R (List PyData)) (own:Nat) (fr:List Nat) (b:PyData->aE->Option aE) (t:aE->R Bool) (f:Fe):Fe:=fun ρ =>
  oF (it ρ)>>=fun ds=>if ds.length<=sizeLine then match cC b t f (aq own fr ρ) ds with
    | .ok xs=>.ok (.list xs)
    | .ex c=>.ex c
    | .no=>.no
  else .no
noncomputable def gn (own:Nat) (fr:List Nat) (σ:St):St:=List.replicate own none++fr.map fun i=>(σ[i]?).join
theorem yF {H:Hp} {σ:St} {ρ:aE} (h:Sl H σ ρ) (own:Nat) (fr:List Nat) (hin:∀ i∈fr,i < ρ.length):Sl H (gn own fr σ) (aq own fr ρ):=by
  refine ⟨by simp [gn,aq],fun i c o h1 h2=>?_⟩;unfold aq at h1;unfold gn at h2;by_cases hi:i < own
  · rw [List.getElem?_append_left (by simpa using hi),List.getElem?_replicate,if_pos hi] at h1;cases h1;exact True.intro
  · rw [List.getElem?_append_right (by simpa using hi),List.getElem?_map,List.length_replicate] at h1 h2;cases e:fr[i-own]? with
    | none=>rw [e] at h1;cases h1
    | some j =>
      rw [e] at h1 h2;have hj:=hin j (List.mem_of_getElem? e);have hj':j < σ.length:=by rw [h.1];exact hj
      cases h1;cases h2;refine h.2 j _ _ ?_ ?_
      · show ρ[j]?=some (ρ.getD j .non);rw [List.getD_eq_getElem?_getD,List.getElem?_eq_getElem hj];rfl
      · show σ[j]?=some ((σ[j]?).join);rw [List.getElem?_eq_getElem hj'];rfl
section
variable {X:Cx} {pins:List (Addr×Obj)} {σ:St} {H:Hp} {s:Shared} {nl:Nat} {G0:List Str} {sc:Scope} {N:List Str} {own:Nat} {G:List Str} {fr:List Nat} {cl:List (Str×Addr)} {fp:List Addr} {a C:Addr} {h4:Heap} {t4:Nat} {m:Str->Option Value}
theorem wI (I:aC X pins σ H s) (ck:dk sc N own G X.N fr) (hf:∀ b∈fp,lw X pins H b) (hob:∀ b∈fp,b < s.heap.objs.size) (hcl1:∀ x c,cl.lookup x=some c->X.env.cells.lookup x=some c) (hcl2:∀ x∈sc.names,x.2=.free->∃ c,cl.lookup x.1=some c)
    (vis:∀ x∈X.N,B5 X.env.scope x) (hout:∀ y∈sc.names,y.2=.free->X.env.kindOf y.1=some .cell\/X.env.kindOf y.1=some .free)
    (ha:s.heap.objs.size<=a) (hC:s.heap.objs.size<=C) (hac:a≠C) (keep:∀ b o,s.heap.get? b=some o->h4.get? b=some o) (hl:h4.get? a=some { cls:=.type "list",data:=.seq #[] 0 }) (hn:h4.Ns C m) :
    aC (ay X N sc cl C s H fp) [] (gn own fr σ) (du H a (.lst [])) { s with heap:=h4,toks:=t4 }:=by
  obtain ⟨ck1,ck2,ck3,nd,l,f,db,g,ol,ofr⟩:=ck;have hHa:H a=none:=I.hok.fresh ha;have hHC:H C=none:=I.hok.fresh hC;have lt:∀ {b:Addr} {o:Obj},s.heap.get? b=some o->b < s.heap.objs.size:=fun e=>Heap.lt_size e
  have cellLt:∀ x c,cl.lookup x=some c->c < s.heap.objs.size:=fun x c e=>by
    obtain ⟨v,q⟩:=I.cell x c (hcl1 x c e);exact q.lt
  refine ⟨⟨I.ok.mod,ck1,I.ok.glob,I.ok.blt,hC,fun x y c h1 h2=>I.ok.inj x y c (hcl1 x c h1) (hcl1 y c h2),fun x hx=>?_,fun x c hx=>(Bool.false_ne_true hx).elim,I.ok.hd,I.ok.frames,.inl rfl,fun b hb=>⟨?_,fun x c e=>?_⟩,I.bs,Nat.le_trans I.ok.bsz I.sz,fun b o e hb=>?_,fun b hb hs=>?_,I.stack,I.stkFree⟩,
    rfl,I.bare,Un.laid keep ha hHa,⟨m,hn,fun i x v h1 h2 h3=>?_⟩,fun x c e=>?_,?_,fun x c e=>?_,fun p hp=>?_,?_,?_⟩
  · have q:=rq (env:=X.env) ck2 (show (relabel sc X.env).names.lookup x=some .free\/(relabel sc X.env).names.lookup x=some .cell from hx.elim .inr .inl);exact hcl2 _ q rfl
  · exact Nat.ne_of_lt (Nat.lt_of_lt_of_le (hob b hb) hC)
  · exact (hf b hb).2.2.2.2.1 x c (hcl1 x c e)
  · rcases (hf b hb).2.2.2.1 with z | z
    · exact I.ok.noex b o e z
    · exact absurd (Nat.lt_of_lt_of_le (Heap.lt_size e) I.ok.bsz) (Nat.not_lt.mpr z)
  · rcases List.mem_cons.mp (I.stkSub b hs) with z | z
    · exact (hf b hb).2.1 z
    · exact (hf b hb).2.2.1 z
  · -- a captured name
    have hi:¬ i < own:=fun hi=>by
      unfold gn at h2;rw [List.getElem?_append_left (by simpa using hi),List.getElem?_replicate,if_pos hi] at h2;cases h2
    unfold gn at h2;rw [List.getElem?_append_right (by simpa using hi),List.getElem?_map,List.length_replicate] at h2;cases e:fr[i-own]? with
    | none=>rw [e] at h2;cases h2
    | some j =>
      rw [e] at h2;have h2':(σ[j]?).join=some v:=Option.some.inj h2;have hσ:σ[j]?=some (some v):=by
        cases q:σ[j]? with
        | none=>rw [q] at h2';cases h2'
        | some o=>rw [q] at h2';exact congrArg some h2'
      have hx:(N.drop own)[i-own]?=some x:=by
        rw [List.getElem?_drop];have:own+(i-own)=i:=by omega
        rw [this];exact h1
      have hj:X.N[j]?=some x:=by
        have q:=congrArg (fun l=>l[i-own]?) ofr;simp only [List.getElem?_map,hx,e,Option.map_some] at q;exact (Option.some.inj q).symm
      have hfree:=f x (List.mem_of_getElem? hx);obtain ⟨c,hc⟩:=hcl2 _ (PySem.mem_of_lookup hfree) rfl;have hXc:=hcl1 x c hc;obtain ⟨m0,hn0,hl0⟩:=I.loc;obtain ⟨u,ru,lk⟩:=hl0 j x v hj hσ (vis x (List.mem_of_getElem? hj));have ko:=hout _ (PySem.mem_of_lookup hfree) rfl;refine ⟨u,ru,.inr ⟨(hV (env:=X.env) hfree).symm,c,hc,?_⟩⟩;rcases lk with ⟨k1,_⟩ | ⟨_,c',e1,ob,q1,q2⟩
      · exfalso;rcases ko with k | k <;> (rw [k] at k1;cases k1)
      · rw [hXc] at e1;cases e1;exact ⟨ob,keep _ _ q1,q2⟩
  · obtain ⟨v,o,q,d⟩:=I.cell x c (hcl1 x c e);exact ⟨v,o,keep _ _ q,d⟩
  · show du H a (.lst []) C=none;rw [aJ (Ne.symm hac)];exact hHC
  · have q:=I.freeC x c (hcl1 x c e);show du H a (.lst []) c=none;rw [aJ (Nat.ne_of_lt (Nat.lt_of_lt_of_le (cellLt x c e) ha))];exact q
  · exact absurd (show p∈([]:List (Addr×Obj)) from hp) (by simp)
  · exact I.hok.laid keep ha ⟨Nat.zero_le _,[],0,.nil,hl⟩
  · show (gn own fr σ).length=N.length;have q:=congrArg List.length ofr;rw [List.length_map,List.length_map,List.length_drop] at q;unfold gn;rw [List.length_append,List.length_replicate,List.length_map];omega
end
noncomputable def jp (ρ0 ρ1:aE):Prop:=ρ1.length=ρ0.length/\∀ (i:Nat) (c:bi),ρ0[i]?=some c->c=.non\/ρ1[i]?=some c
theorem Sl.unfit {H:Hp} {σ:St} {ρ0 ρ1:aE} (h:Sl H σ ρ1) (f:jp ρ0 ρ1):Sl H σ ρ0:=by
  refine ⟨h.1.trans f.1,fun i c o h1 h2=>?_⟩;rcases f.2 i c h1 with rfl | q
  · exact True.intro
  · exact h.2 i c o q h2
noncomputable def vV (H0:Hp) (σ:St) (ρ:aE):Prop:=∀ (i:Nat) (e:PyData),ρ[i]?=some (.own e)->∃ v,σ[i]?=some (some v)/\jb H0 e v
theorem uN {X:Cx} {J:It} {tn:Nat->Heap->Prop} {it a:Addr} {fp:List Addr} {tg iter elt:Expr} {ifs:List Expr} {scope:Scope} {pos:Pos} {b:PyData->aE->Option aE} {t:aE->R Bool} {f:Fe} {ds:List PyData} {r:R (List PyData)} {Gd:Hp->Prop} {H0:Hp} {ρ0:aE}
    {Rk:Result->Shared->Prop} (T:uw X.prog X.w X.K tg J fp it tn) (calm:X.calm=true) (hfp:∀ H:Hp,(∀ b∈fp,H b=none)->∀ b∈fp,lw X [] H b) (hxe:∀ e s',X.xe e s'->notedBy (model X.prog X.w) X.A X.env (fun x s'=>Rk (.error x) s') e s') (hX:∀ c,r=.ex c->Xw X c H0) (hno:r≠.no) (hg:qa X tg b) (ht:qm X ifs t) (hf:cE X elt f)
    (idt:Aa J Gd ds) (sta:Dx H0 (fun _=>False) Gd) (hsz:ds.length<=sizeLine) (ha0:H0 a=none) (hb0:∀ d ρ1,b d ρ0=some ρ1->jp ρ0 ρ1)
    (fin:∀ xs s' σ' H' vs,r=.ok xs->aC X [] σ' H' s'->ar H0 H'->H' a=some (.lst vs)->bF H' xs vs->Rk (.ok .next) s') :
    ∀ {s:Shared} {σ:St} {H:Hp},aC X [] σ H s->tn 0 s.heap->(∀ b∈fp,H b=none)->ar H0 H->H a=some (.lst [])->cC b t f ρ0 ds=r->Sl H σ ρ0->vV H0 σ ρ0 ->
      codeAny (model X.prog X.w) X.A (.compLoop (.ListComp elt [⟨tg,iter,ifs,0⟩] scope pos) 0 (.ref it) (.ref a) X.env) Rk s:=by
  intro s σ H I st fr s0 hla hc sl ow;refine codeAny_loop rfl (fun n s=>∃ i acc σ H vs,n=ds.length-i/\i<=ds.length/\acc.length<=i/\aC X [] σ H s/\tn i s.heap/\(∀ b∈fp,H b=none)/\ar H0 H/\H a=some (.lst vs)/\bF H acc vs/\(cC b t f ρ0 (ds.drop i)>>=fun dS=>.ok (acc++dS))=r /\
    Sl H σ ρ0/\vV H0 σ ρ0) (fun n s hI=>?_) ds.length ⟨0,[],σ,H,[],by simp,Nat.zero_le _,Nat.le_refl _,I,st,fr,s0,hla,bF.nil,by rw [List.drop_zero,hc];cases r <;> rfl,sl,ow⟩
  clear I st fr s0 hla hc sl ow;obtain ⟨i,acc,σ,H,vs,rfl,hi,hal,I,st,fr,s0,hla,ra,hc,sl,ow⟩:=hI;show wpAny _ X.A ((compTurn (.ListComp elt [⟨tg,iter,ifs,0⟩] scope pos) 0 (.ref it) (.ref a) X.env).onRaise (fun x=>do noteFrame x X.env;theTreesLotGoes x)) _ _ s;refine wpAny_noted ?_;rw [compTurn_list];have gd:Gd H:=sta H (Kp.of s0) fun _ _ z=>z.elim
  have noex:∀ {α:Type} {m:Sem α} {Q Q':α->Shared->Prop} {s:Shared},wpAny (model X.prog X.w) X.A m Q X.xe s->(∀ v s,Q v s->Q' v s)->wpAny (model X.prog X.w) X.A m Q' (notedBy (model X.prog X.w) X.A X.env (fun x s'=>Rk (.error x) s')) s:=fun h k =>
    wpAny_mono h k hxe
  by_cases hlt:i < ds.length
  · obtain ⟨d,hd⟩:∃ d,ds[i]?=some d:=⟨ds[i],List.getElem?_eq_getElem hlt⟩
    have hdrop:ds.drop i=d::ds.drop (i+1):=by
      rw [List.drop_eq_getElem_cons hlt];congr 1;exact Option.some.inj ((List.getElem?_eq_getElem hlt).symm.trans hd)
    rw [hdrop] at hc;unfold cC at hc;refine wpAny_bind (wpAny_standAt (wpAny_bind (cS (T.item X rfl rfl rfl calm i [] s σ H _ I (hfp H fr) st (idt.go i H gd hlt)) fun r s1 ⟨u,hr,h1⟩=>?_)));subst hr;refine wpAny_bind (cS h1 fun _ s2 ⟨x,H2,I2,r2,y2,st2,fr2⟩=>?_);obtain ⟨s02,p2⟩:=idt.yld i H x H2 d gd hd y2;have I2':=I2.pinned (hfp H2 fr2) (T.obj _ _ st2);have back:∀ {σ':St} {H':Hp} {s':Shared},aC X ([]++mZ fp s2.heap) σ' H' s'->aC X [] σ' H' s'/\tn (i+1) s'.heap/\∀ b∈fp,H' b=none:=fun {σ' H' s'} J' =>
      ⟨J'.unpinned,T.keep _ _ _ st2 fun b hb o e=>(J'.pin (b,o) (List.mem_append_right _ (List.mem_append_right _ (g9 hb e)))).1,fun b hb=>by
        obtain ⟨o,e,_⟩:=T.obj _ _ st2 b hb;exact (J'.pin (b,o) (List.mem_append_right _ (List.mem_append_right _ (g9 hb e)))).2.1⟩
    cases eb:b d ρ0 with
    | none=>rw [eb] at hc;exact absurd hc.symm hno
    | some ρ1 =>
      rw [eb] at hc;dsimp only at hc;have hfit:=hb0 d ρ1 eb;refine wpAny_bind (noex (hg _ s2 σ H2 x u (fun σ' H'=>H'=H2/\Sl H2 σ' ρ1/\∀ (i:Nat) (e:PyData),ρ1[i]?=some (.own e)->ρ0[i]?=some (.own e)/\σ'[i]?=σ[i]?) I2' r2 ⟨ρ0,d,sl.mono s02,p2,by rw [eb];exact fun σ' sl' w'=>⟨rfl,sl',w'⟩⟩) fun _ s3 ⟨σ3,H3,I3,e3,sl3,w3⟩=>?_);subst e3;have ow3:vV H0 σ3 ρ0:=fun j e h=>by
        obtain ⟨v,z1,z2⟩:=ow j e h;rcases hfit.2 j _ h with z | z
        · cases z
        · exact ⟨v,by rw [(w3 j e z).2];exact z1,z2⟩
      cases et:t ρ1 with
      | no=>rw [et] at hc;exact absurd hc.symm hno
      | ex c =>
        rw [et] at hc;exact wpAny_bind (noex (ht _ s3 σ3 H3 (fun _ _=>False) I3 ⟨ρ1,sl3,by rw [et];exact (hX c hc.symm).mono (s0.trans s02)⟩) fun ok s4 ⟨H4,I4,z⟩=>z.elim)
      | ok k =>
        rw [et] at hc;refine wpAny_bind (noex (ht _ s3 σ3 H3 (fun b' H'=>b'=k/\ar H3 H') I3 ⟨ρ1,sl3,by rw [et];exact fun H' s'=>⟨rfl,s'⟩⟩) fun ok s4 ⟨H4,I4,e4,s34⟩=>?_);subst e4;have s04:=(s0.trans s02).trans s34;have hla4:H4 a=some (.lst vs):=s34 _ _ (s02 _ _ hla);have ra4:bF H4 acc vs:=(ra.mono s02).mono s34;cases ok with
        | false =>
          obtain ⟨J1,J2,J3⟩:=back I4;have hc':(cC b t f ρ0 (ds.drop (i+1))>>=fun dS=>.ok (acc++dS))=r:=hc;exact wpAny_pure ⟨rfl,ds.length-(i+1),by omega,i+1,acc,σ3,H4,vs,rfl,hlt,by omega,J1,J2,J3,s04,hla4,ra4,hc',(sl3.unfit hfit).mono s34,ow3⟩
        | true =>
          have hc':((f ρ1>>=fun x=>cC b t f ρ0 (ds.drop (i+1))>>=fun xs=>.ok (x::xs))>>=fun dS=>.ok (acc++dS))=r:=hc;cases ef:f ρ1 with
          | no=>rw [ef] at hc';exact absurd hc'.symm hno
          | ex c =>
            rw [ef] at hc';exact wpAny_bind (wpAny_bind (noex (hf _ s4 σ3 H4 (fun _ _=>False) I4 ⟨ρ1,sl3.mono s34,by rw [ef];exact (hX c hc'.symm).mono s04⟩) fun yv s5 ⟨v5,H5,I5,r5,z⟩=>z.elim))
          | ok y =>
              rw [ef,R.ok_bind] at hc';have hc2:(cC b t f ρ0 (ds.drop (i+1))>>=fun dS=>.ok ((acc++[y])++dS))=r:=by
                rw [<- hc'];cases cC b t f ρ0 (ds.drop (i+1)) with
                | ok dS=>simp only [R.ok_bind,List.append_assoc,List.singleton_append]
                | ex c=>rfl
                | no=>rfl
              refine wpAny_bind (wpAny_bind (noex (hf _ s4 σ3 H4 (fun v H'=>ar H4 H'/\Rp H' y v) I4 ⟨ρ1,sl3.mono s34,by rw [ef];exact fun v H' s' p'=>⟨s',p'⟩⟩) fun yv s5 ⟨v5,H5,I5,r5,s45,p5⟩=>?_));have hla5:H5 a=some (.lst vs):=s45 _ _ hla4;have hlen:vs.length < sizeLine:=by
                rw [ra.length];omega
              refine wpAny_bind (noex (oA _ s5 σ3 H5 (.ref a) [v5] (.ref a) [yv] (fun _ H'=>H'=du H5 a (.lst (vs++[v5]))) I5 rfl (.cons r5 .nil) ⟨a,vs,v5,rfl,rfl,hla5,hlen,rfl⟩) fun _ s6 ⟨v6,H6,I6,r6,e6⟩=>?_);subst e6;obtain ⟨J1,J2,J3⟩:=back I6;have kp:Kp H5 (du H5 a (.lst (vs++[v5]))):=iJ hla5 (.inl ⟨_,rfl⟩);have s06:ar H0 (du H5 a (.lst (vs++[v5]))):=fun b o e=>by
                rw [aJ (bh e ha0)];exact (s04.trans s45) b o e
              refine wpAny_pure (wpAny_pure ⟨rfl,ds.length-(i+1),by omega,i+1,acc++[y],σ3,_,vs++[v5],rfl,hlt,by rw [List.length_append,List.length_singleton];omega,J1,J2,J3,s06,cj,?_,hc2,?_,ow3⟩)
              · exact bF.append (bF.kp kp _ _ (ra4.mono s45)) (bF.cons (Rp.kp kp _ _ p5) bF.nil)
              · have sl5:Sl H5 σ3 ρ0:=((sl3.unfit hfit).mono s34).mono s45;refine ⟨sl5.1,fun j c o h1 h2=>?_⟩;cases c with
                | exc p=>exact sl5.2 j _ o h1 h2
                | non=>exact True.intro
                | val d' =>
                  obtain ⟨v',z1,z2⟩:=sl5.2 j _ o h1 h2;exact ⟨v',z1,Rp.kp kp _ _ z2⟩
                | own e' =>
                  obtain ⟨v',z1,z2⟩:=ow3 j e' h1;rw [z1] at h2;cases h2;exact ⟨v',rfl,z2.mono s06⟩
  · have e:i=ds.length:=by omega
    subst e;rw [List.drop_length] at hc;have hr':r=.ok acc:=by rw [<- hc];simp only [cC,R.ok_bind,List.append_nil]
    refine wpAny_bind (wpAny_standAt (wpAny_bind (cS (T.done X rfl rfl rfl calm _ [] s σ H _ I (hfp H fr) st (idt.stop _ H gd (Nat.le_refl _))) fun r s1 ⟨hr,I1⟩=>?_)));subst hr;exact wpAny_pure (fin acc s1 σ H vs hr' I1 s0 hla ra)
theorem gj.but {P:Program} {w:World} {H:Hp} {h1 h2:Heap} {C:Addr} (ok:gj P w H h1) (hC:H C=none) (sb:∀ b o,b≠C->h1.get? b=some o->h2.get? b=some o):gj P w H h2:=fun a o e =>
  (ok a o e).stay (fun b u hb q=>sb b u (by
    rcases hb with rfl | hb
    · exact bh e hC
    · exact bh hb hC) q) (fun _ q=>q) fun _ _ q=>q
theorem ji {h h' base:Heap} {C:Addr} (tp:∀ b o,b≠C->h.get? b=some o->h'.get? b=some o):∀ {l:List Env},C∉jR l->h.FunFrames base l->h'.FunFrames base l
  | [],_,_=>trivial
  | env::l,hC,⟨hk,⟨L,o,hf,hn,ho,hd⟩,hr⟩=>⟨hk,⟨L,o,hf,hn,tp L o (fun z=>hC (List.mem_filterMap.mpr ⟨env,List.mem_cons_self,by rw [hf,z]⟩)) ho,hd⟩,ji tp (fun z=>hC (by
    obtain ⟨e,he,hz⟩:=List.mem_filterMap.mp z;exact List.mem_filterMap.mpr ⟨e,List.mem_cons_of_mem _ he,hz⟩)) hr⟩
theorem j7 {X:Cx} {tg iter elt:Expr} {ifs:List Expr} {sc:Scope} {pos pos':Pos} {it:aE->R (List PyData)} {b:PyData->aE->Option aE} {t:aE->R Bool} {f:Fe} {N:List Str} {own:Nat} {G G0:List Str} {fr:List Nat} {nl:Nat}
    (T:Tb X nl G0) (ck:dk sc N own G X.N fr) (hout:∀ y∈sc.names,y.2=.free->X.env.kindOf y.1=some .cell\/X.env.kindOf y.1=some .free) (hi:qb X tg iter it)
    (hb0:∀ ρ d ρ1,b d (aq own fr ρ)=some ρ1->jp (aq own fr ρ) ρ1)
    (hbody:∀ cl C s H fp E,Tb (ay X N sc cl C s H fp E) own G->qa (ay X N sc cl C s H fp E) tg b/\qm (ay X N sc cl C s H fp E) ifs t/\cE (ay X N sc cl C s H fp E) elt f)
    (hs:∀ x,foldedSetIterable iter X.env x=pure x) {use:Option (Value->Sem Unit)} {Qc:Value->Shared->Prop} {pins:List (Addr×Obj)} {s:Shared} {σ:St} {H:Hp} (I:aC X pins σ H s) {ρ:aE} {ds:List PyData} {r:R (List PyData)} (sl:Sl H σ ρ) (ei:it ρ=.ok ds)
    (hsz:ds.length<=sizeLine) (ec:cC b t f (aq own fr ρ) ds=r) (hX:∀ c,r=.ex c->Xw X c H) (hno:r≠.no) (hstk:∃ env0 outer0 L,X.stack=env0::outer0/\env0.frame=some L/\X.env.frame=some L)
    (fin:∀ (xs:List PyData) (a C:Addr) (H':Hp) (s':Shared) (m:Str->Option Value) (vs:List V),r=.ok xs->aC X pins σ H' s'->lw X pins H' C->s'.heap.Ns C m->ar H H'->H a=none->H' a=some (.lst vs)->bF H' xs vs->compPost (model X.prog X.w) X.A X.xe use Qc (.ref a) C (.ok .next) s') :
    wpAny (model X.prog X.w) X.A (comprehension (.ListComp elt [⟨tg,iter,ifs,0⟩] sc pos) sc X.env pos' (newList []) false (eval iter X.env) use) Qc X.xe s:=by
  obtain ⟨cl,hcl,hcl1,hcl2⟩:=sx (scope:=sc) (env:=X.env) fun x hx hf=>I.ok.has _ (hout x hx hf)
  have ck':=ck;obtain ⟨ck1,ck2,ck3,_,_,_,_,_,_,ofr⟩:=ck';have hin:∀ i∈fr,i < ρ.length:=fun i hi=>by
    have e1:ρ.length=X.N.length:=by rw [<- sl.1];exact I.len
    rw [e1];obtain ⟨k,hk⟩:=List.getElem?_of_mem hi;have q:=congrArg (fun l=>l[k]?) ofr;simp only [List.getElem?_map,hk,Option.map_some] at q;cases z:(N.drop own)[k]? with
    | none=>rw [z] at q;cases q
    | some y =>
      rw [z] at q;have q':some y=X.N[i]?:=Option.some.inj q;exact (List.getElem?_eq_some_iff.mp q'.symm).1
  refine wpAny_comprehension_free (use:=use) rfl hs hcl ck1 ck3 ?_;refine cS (hi pins s σ H (fun J H1=>ar H H1/\∃ Gd,Aa J Gd ds/\Dx H1 (fun _=>False) Gd) I ⟨ρ,sl,by rw [ei];exact fun J H1 s1 z=>⟨s1,z⟩⟩) fun xv s1 h1=>cS h1 fun itv s2 h2=>?_
  obtain ⟨itA,fp,tn,J,H2,e,I2,T2,st2,f2,s02,Gd,idt,sta⟩:=h2;subst e;refine wpAny_newObj_type (wpAny_newFunctionEnv ck2 (by intro y hy;simp at hy) (fun h₁ hns₁ hsb₁=>?_) ck1);dsimp only at hns₁ hsb₁ ⊢;generalize hHp:s2.heap.push { cls:=.type "list",dict:=none,data:=.seq ([]:List Value).toArray }=Hp2 at hns₁ hsb₁ ⊢;have hC:Hp2.objs.size=s2.heap.objs.size+1:=by rw [<- hHp,Heap.size_push]
  have hDC:s2.heap.objs.size≠Hp2.objs.size:=by rw [hC];exact Nat.ne_of_lt (Nat.lt_succ_self _)
  have hCle:s2.heap.objs.size<=Hp2.objs.size:=by rw [hC];exact Nat.le_succ _
  have below:∀ b,b < s2.heap.objs.size->b≠Hp2.objs.size:=fun b hb=>by rw [hC];exact Nat.ne_of_lt (Nat.lt_succ_of_lt hb)
  have old:∀ b o,s2.heap.get? b=some o->h₁.get? b=some o:=fun b o e=>hsb₁.extBut b o (below b (Heap.lt_size e)) (Heap.get?_push_of_some _ (hHp ▸ Heap.get?_push_of_some _ e))
  have hacc:h₁.get? s2.heap.objs.size=some { cls:=.type "list",dict:=none,data:=.seq ([]:List Value).toArray }:=hsb₁.extBut _ _ hDC (Heap.get?_push_of_some _ (hHp ▸ Heap.get?_push_size _ rfl));have hob:∀ b∈fp,b < s2.heap.objs.size:=fun b hb=>by
    obtain ⟨o,e,_⟩:=T2.obj _ _ st2 b hb;exact Heap.lt_size e
  have sl2:Sl H2 σ ρ:=sl.mono s02;have IC:aC (ay X N sc cl Hp2.objs.size s2 H2 fp) [] (gn own fr σ) (du H2 s2.heap.objs.size (.lst [])) { s2 with heap:=h₁,toks:=s2.toks+([]:List (Str×Value)).length } :=
    wI I2 ck f2 hob hcl1 hcl2 (fun x hx=>(T.vis x hx).1) hout (Nat.le_refl _) hCle hDC old hacc hns₁
  let E:Value->Shared->Prop:=fun e s'=>∃ c Ce pins' σ' H' s1 H1,r=.ex c/\X.mg c=some (.ref Ce)/\aC (ay X N sc cl Hp2.objs.size s2 H2 fp) pins' σ' H' s1/\ar H2 H1/\o5 X.prog X.w X.stack H' s1 Ce H1 e s'
  obtain ⟨hg,ht,hf⟩:=hbody cl Hp2.objs.size s2 H2 fp E (wn T ck cl Hp2.objs.size s2 H2 fp E);have ha0:H2 s2.heap.objs.size=none:=I2.hok.fresh (Nat.le_refl _);have hfp:∀ H':Hp,(∀ b∈fp,H' b=none)->∀ b∈fp,lw (ay X N sc cl Hp2.objs.size s2 H2 fp E) [] H' b:=fun H' hn b hb =>
    ⟨hn b hb,below b (hob b hb),fun z=>by
      rcases List.mem_cons.mp (I2.stkSub b z) with y | y
      · exact (f2 b hb).2.1 y
      · exact (f2 b hb).2.2.1 y,.inl hb,fun x c e=>(f2 b hb).2.2.2.2.1 x c (hcl1 x c e),fun p hp=>absurd (show p∈([]:List (Addr×Obj)) from hp) (by simp)⟩
  have st3:tn 0 h₁:=T2.keep _ _ _ st2 fun b _ o e=>old b o e
  have slC:Sl H2 (gn own fr σ) (aq own fr ρ):=yF sl2 own fr hin;have fin':∀ xs s' σ' H' vs,r=.ok xs->aC (ay X N sc cl Hp2.objs.size s2 H2 fp E) [] σ' H' s'->ar H2 H'->H' s2.heap.objs.size=some (.lst vs)->bF H' xs vs ->
      compPost (model X.prog X.w) X.A X.xe use Qc (.ref s2.heap.objs.size) Hp2.objs.size (.ok .next) s':=fun xs s' σ' H' vs hr J' s2' hv rv=>by
    obtain ⟨m,hn,_⟩:=J'.loc;exact fin xs _ _ H' s' m vs hr (I2.call' (s':=s') (ch:=fp) J'.os J'.base J'.hok J'.bare (fun b hb=>⟨(f2 b hb).2.2.2.1,(f2 b hb).2.1,(f2 b hb).2.2.2.2.1,(f2 b hb).2.2.2.2.2⟩)) (I2.fpOk hCle J'.free) hn (s02.trans s2') (s02.free ha0) hv rv
  have hXc:∀ c,r=.ex c->Xw (ay X N sc cl Hp2.objs.size s2 H2 fp E) c H2:=fun c hr H1 s1 Ce hm pins' σ' H' s1' e s' J f =>
    ⟨c,Ce,pins',σ',H',s1',H1,hr,hm,J.unwish,s1,f⟩
  have hxe:∀ e s',E e s'->notedBy (model X.prog X.w) X.A (compEnvC sc cl Hp2.objs.size X.env) (fun x s'=>compPost (model X.prog X.w) X.A X.xe use Qc (.ref s2.heap.objs.size) Hp2.objs.size (.error x) s') e s':=fun e s' hE=>by
    obtain ⟨c,Ce,pins',σ',H',s1,H1,hr,hm,J,same1,f⟩:=hE;obtain ⟨env0,outer0,L,k1,k2,k3⟩:=hstk;refine f.note k1 I.ok.frames k2 k3 fun h4 f4 up=>?_
    obtain ⟨m,hn,_⟩:=(f4.inv (X:=ay X N sc cl Hp2.objs.size s2 H2 fp) J).loc;refine ⟨m,hn,fun h5 sb cenv _=>?_⟩;have fC:=I2.fpOk hCle J.free;have fC1:H1 Hp2.objs.size=none:=(f4.inv (X:=ay X N sc cl Hp2.objs.size s2 H2 fp) J).free;have nfr:Hp2.objs.size∉jR X.stack:=fun z=>by
      rcases List.mem_cons.mp (I2.stkSub _ z) with y | y
      · exact fC.2.1 y
      · exact fC.2.2.1 y
    have Io:=I2.call' (s':=s1) (ch:=fp) J.os J.base J.hok J.bare (fun b hb=>⟨(f2 b hb).2.2.2.1,(f2 b hb).2.1,(f2 b hb).2.2.2.2.1,(f2 b hb).2.2.2.2.2⟩);have Io2:aC X pins σ H' { s1 with heap:=PySem.W.hideAll s1.heap [Hp2.objs.size],toks:=s1.toks }:=by
      obtain ⟨g0,g1,g2,g3,g4,g5⟩:=fC;exact Io.turned (t':=s1.toks) (fun b o hb q=>PySem.W.hideAll_get _ q (by simpa using hb)) g0 g1 g3 g4 g5
    obtain ⟨p,a0,B,rfl,t,okB,hp,cov⟩:=f4.ex;have stB:(PySem.W.hideAll B [Hp2.objs.size]).StaysIn B:=fun b o q=>PySem.W.of_hideAll _ q
    have hid:∀ {h:Heap} {b:Addr} {o:Obj},(PySem.W.hideAll h [Hp2.objs.size]).get? b=some o->b≠Hp2.objs.size:=fun {h b o} q z=>by
      rw [PySem.W.hideAll_none _ (by rw [z];exact List.mem_singleton.mpr rfl)] at q;cases q
    have tp:∀ b o,b≠Hp2.objs.size->h4.get? b=some o->h5.get? b=some o:=fun b o hb q=>(sb.2 b hb).trans q
    have ne_e:p≠Hp2.objs.size:=fun z=>by
      obtain ⟨oe,vs,q1,_,q2,_⟩:=t.first;obtain ⟨o,es,ep,q3,q4,_⟩:=hn;have q3':h4.get? Hp2.objs.size=some o:=q3;rw [<- z,q1] at q3';cases q3';rw [q2] at q4;cases q4
    have f5:o5 X.prog X.w X.stack H' { s1 with heap:=PySem.W.hideAll s1.heap [Hp2.objs.size],toks:=s1.toks } Ce H1 (.ref p) { s' with heap:=h5 }:=by
      refine ⟨f4.os,f4.bare,f4.same,⟨p,a0,PySem.W.hideAll B [Hp2.objs.size],rfl,?_,?_,hp,fun b o q n hb=>?_⟩,fun b o q n hb=>?_⟩
      · obtain ⟨t1,t2,t3,fl,oe,vs,T',oT,ts,a1,a2,a3,a4,a5,a6,a7,a8,a9⟩:=t;refine ⟨fun b o q=>tp b o (hid q) (t1 b o (stB b o q)),PySem.W.fresh_of_stays stB t2,ji tp nfr (PySem.W.funFrames_base stB t3),fl,oe,vs,T',oT,ts,tp _ _ ne_e a1,a2,a3,a4,PySem.W.fresh_of_stays stB a5,a6,tp _ _ ?_ a7,a8,a9⟩;intro z;obtain ⟨o,es,ep,q3,q4,_⟩:=hn;have q3':h4.get? Hp2.objs.size=some o:=q3;have a7':h4.get? T'=some oT:=a7;rw [<- z,a7'] at q3';cases q3';rw [a8] at q4;cases q4
      · exact gj.but okB fC1 fun b o hb q=>PySem.W.hideAll_get _ q (by simpa using hb)
      · obtain ⟨z1,z2⟩:=cov b o (PySem.W.of_hideAll _ q) n hb;exact ⟨PySem.W.hideAll_get _ z1 (by simpa using hid q),z2⟩
      · obtain ⟨⟨sl',z1⟩,z2⟩:=f4.slot b o (PySem.W.of_hideAll _ q) n hb;exact ⟨⟨sl',tp b _ (hid q) z1⟩,z2⟩
    refine f5.pass fun h6 f6=>?_
    exact hX c hr H1 (s02.trans same1) Ce hm pins σ H' _ _ _ Io2 f6
  have loop:=uN (X:=ay X N sc cl Hp2.objs.size s2 H2 fp E) (iter:=iter) (scope:=sc) (pos:=pos) T2 T.calm hfp hxe hXc hno hg ht hf idt sta hsz ha0 (fun d ρ1 e=>hb0 ρ d ρ1 e) fin' (IC.wish E) st3 (fun b hb=>by
      show du H2 s2.heap.objs.size (.lst []) b=none;rw [aJ (Nat.ne_of_lt (hob b hb))];exact (f2 b hb).1) (bT ha0 _) cj ec (slC.mono (bT ha0 _)) (fun i e h=>by
      obtain ⟨o,z1,v,rfl,z2⟩:=slC.at h;exact ⟨v,z1,z2⟩)
  exact codeAny_compStart_list loop (T2.self _ 0 _ _ _ st3 loop)
theorem mH {X:Cx} {tg iter elt:Expr} {ifs:List Expr} {sc:Scope} {pos:Pos} {it:aE->R (List PyData)} {b:PyData->aE->Option aE} {t:aE->R Bool} {f:Fe} {N:List Str} {own:Nat} {G G0:List Str} {fr:List Nat} {nl:Nat}
    (T:Tb X nl G0) (ck:dk sc N own G X.N fr) (hout:∀ y∈sc.names,y.2=.free->X.env.kindOf y.1=some .cell\/X.env.kindOf y.1=some .free) (hi:qb X tg iter it)
    (hb0:∀ ρ d ρ1,b d (aq own fr ρ)=some ρ1->jp (aq own fr ρ) ρ1)
    (hbody:∀ cl C s H fp E,Tb (ay X N sc cl C s H fp E) own G->qa (ay X N sc cl C s H fp E) tg b/\qm (ay X N sc cl C s H fp E) ifs t/\cE (ay X N sc cl C s H fp E) elt f)
    (hs:∀ x,foldedSetIterable iter X.env x=pure x:=by intro _;rfl) (hstk:∃ env0 outer0 L,X.stack=env0::outer0/\env0.frame=some L/\X.env.frame=some L:=by exact ⟨_,_,_,rfl,rfl,rfl⟩):ky X (.ListComp elt [⟨tg,iter,ifs,0⟩] sc pos) (bR it own fr b t f):=by
  intro pins s σ H Q I h;obtain ⟨ρ,sl,q⟩:=h;unfold bR at q;rw [eval_ListComp];cases ei:it ρ with
  | ex c=>rw [ei] at q;exact q.elim
  | no=>rw [ei] at q;exact q.elim
  | ok ds =>
    rw [ei] at q;simp only [oF,R.ok_bind] at q;split at q
    · rename_i hsz;cases ec:cC b t f (aq own fr ρ) ds with
      | no=>rw [ec] at q;exact q.elim
      | ex c =>
        rw [ec] at q;exact j7 (use:=none) T ck hout hi hb0 hbody hs I sl ei hsz ec (fun c' hr=>by cases hr;exact q) (fun z=>nomatch z) hstk fun xs a C H' s' m vs hr=>by cases hr
      | ok xs =>
        rw [ec] at q;refine j7 (use:=none) T ck hout hi hb0 hbody hs I sl ei hsz ec (fun c' hr=>by cases hr) (fun z=>nomatch z) hstk fun xs' a C H' s' m vs hr I' fC hn s2' ha hv rv=>?_
        cases hr;obtain ⟨f0,f1,f2,f3,f4,f5⟩:=fC;refine ⟨m,hn,fun h' sb=>⟨.ref a,H',I'.turned (t':=s'.toks) (fun b o hb e=>sb.extBut b o hb e) f0 f1 f3 f4 f5,rfl,?_⟩⟩;refine q _ H' s2' ⟨?_,_,rfl,ha⟩;simp only [jb];exact ⟨_,vs,rfl,hv,rv⟩
    · exact q.elim
theorem AG {X:Cx} {tg iter elt:Expr} {ifs:List Expr} {sc:Scope} {pos:Pos} {it:aE->R (List PyData)} {b:PyData->aE->Option aE} {t:aE->R Bool} {f:Fe} {N:List Str} {own:Nat} {G G0:List Str} {fr:List Nat} {nl:Nat} (T:Tb X nl G0) (ck:dk sc N own G X.N fr) (hout:∀ y∈sc.names,y.2=.free->X.env.kindOf y.1=some .cell\/X.env.kindOf y.1=some .free) (hi:Z.qb X tg iter it) (hb0:∀ ρ d ρ1,b d (aq own fr ρ)=some ρ1->jp (aq own fr ρ) ρ1) (hbody:∀ cl C s H fp E,Tb (ay X N sc cl C s H fp E) own G->Z.qa (ay X N sc cl C s H fp E) tg b/\Z.qm (ay X N sc cl C s H fp E) ifs t/\Z.cE (ay X N sc cl C s H fp E) elt f) (hs:∀ x,foldedSetIterable iter X.env x=pure x:=by intro _;rfl) (hstk:∃ env0 outer0 L,X.stack=env0::outer0/\env0.frame=some L/\X.env.frame=some L:=by exact ⟨_,_,_,rfl,rfl,rfl⟩):Z.ky X (.ListComp elt [⟨tg,iter,ifs,0⟩] sc pos) (bR it own fr b t f) :=
  ⟨D2.mH T ck hout hi.un hb0 (fun cl C s H fp E T=>let ⟨q1,q2,q3⟩:=hbody cl C s H fp E T;⟨q1.un,q2.un,q3.un⟩) hs hstk⟩
theorem yP {X:Cx} {tg iter elt:Expr} {ifs:List Expr} {sc:Scope} {pos py spos:Pos} {it:aE->R (List PyData)} {b:PyData->aE->Option aE} {t:aE->R Bool} {f:Fe} {N:List Str} {own:Nat} {G G0:List Str} {fr:List Nat} {nl:Nat} {y:Str} {i:Nat}
    (T:Tb X nl G0) (ck:dk sc N own G X.N fr) (hout:∀ y∈sc.names,y.2=.free->X.env.kindOf y.1=some .cell\/X.env.kindOf y.1=some .free) (hi:qb X tg iter it)
    (hb0:∀ ρ d ρ1,b d (aq own fr ρ)=some ρ1->jp (aq own fr ρ) ρ1)
    (hbody:∀ cl C s H fp E,Tb (ay X N sc cl C s H fp E) own G->qa (ay X N sc cl C s H fp E) tg b/\qm (ay X N sc cl C s H fp E) ifs t/\cE (ay X N sc cl C s H fp E) elt f)
    (hN:(X.N.take nl)[i]?=some y) (hsw:swapsWith (.ListComp elt [⟨tg,iter,ifs,0⟩] sc pos) (some (.Name y py)) spos.line X.env=pure true)
    (hs:∀ x,foldedSetIterable iter X.env x=pure x:=by intro _;rfl) (hstk:∃ env0 outer0 L,X.stack=env0::outer0/\env0.frame=some L/\X.env.frame=some L:=by exact ⟨_,_,_,rfl,rfl,rfl⟩):kU X (.Assign [.Name y py] (.ListComp elt [⟨tg,iter,ifs,0⟩] sc pos) spos) (jf i (bR it own fr b t f)):=fun Fm=>by
  intro pins s σ H D I h;obtain ⟨ρ,sl,q⟩:=h;unfold jf bR at q;obtain ⟨hNi,hl,hf⟩:=T.nm hN;cases ei:it ρ with
  | ex c=>rw [ei] at q;exact q.elim
  | no=>rw [ei] at q;exact q.elim
  | ok ds =>
    rw [ei] at q;simp only [oF,R.ok_bind] at q;by_cases hsz:ds.length<=sizeLine
    · rw [if_pos hsz] at q;cases ec:cC b t f (aq own fr ρ) ds with
      | no=>rw [ec] at q;exact q.elim
      | ex c =>
        rw [ec] at q;rw [exec_Assign_Name_used _ _ _ _ hsw];refine wpAny_bind (wpAny_standAt (wpAny_bind ?_));show wpAny _ X.A (do let _ <- comprehension (.ListComp elt [⟨tg,iter,ifs,0⟩] sc pos) sc X.env _ (newList []) false (eval iter X.env) (some (assign (.Name y py) X.env))) _ _ s;exact wpAny_bind (cS (j7 (use:=some (assign (.Name y py) X.env)) (Qc:=fun _ s'=>False) T ck hout hi hb0 hbody hs I sl.sl ei hsz ec (fun c' hr=>by cases hr;exact q.1.mono sl.fm) (fun z=>nomatch z) hstk fun xs a C H' s' m vs hr=>by cases hr) fun _ s' hq=>hq.elim)
      | ok xs =>
        rw [ec] at q;rw [exec_Assign_Name_used _ _ _ _ hsw];refine wpAny_bind (wpAny_standAt (wpAny_bind ?_));show wpAny _ X.A (do let _ <- comprehension (.ListComp elt [⟨tg,iter,ifs,0⟩] sc pos) sc X.env _ (newList []) false (eval iter X.env) (some (assign (.Name y py) X.env))) _ _ s;refine wpAny_bind (cS (j7 (use:=some (assign (.Name y py) X.env)) (Qc:=fun _ s'=>SP X pins D .next s') T ck hout hi hb0 hbody hs I sl.sl ei hsz ec (fun c' hr=>by cases hr) (fun z=>nomatch z) hstk fun xs' a C H' s' m vs hr I' fC hn s2' ha hv rv=>?_) fun _ s' hq=>wpAny_pure (wpAny_pure hq));cases hr;obtain ⟨f0,f1,f2,f3,f4,f5⟩:=fC;show wpAny _ X.A (assign (.Name y py) X.env (.ref a)) _ _ _;refine wpAny_assign_Name (oQ I' T.nd hNi hl (v:=.ref a) rfl (fun s'' I'' k=>?_) hf);have sls:gv Fm H' (σ.set i (some (.ref a))) (ρ.set i (.own (.list xs))):=gv.setOwn sl (sl.mono s2') s2' i ⟨by simp only [jb];exact ⟨a,vs,rfl,hv,rv⟩,a,rfl,ha⟩;refine ⟨m,?_,fun h' sb=>⟨_,H',I''.turned (t':=s''.toks) (fun b o hb e=>sb.extBut b o hb e) f0 f1 f3 f4 f5,q _ H' sls⟩⟩;obtain ⟨a',sb',ha'⟩:=k;refine hn.sameBut sb' ?_;rcases ha' with rfl | ha'
        · exact f1
        · exact Ne.symm (f4 y a' ha')
    · rw [if_neg hsz] at q;exact q.elim
theorem gv.freeze {Fm H:Hp} {σ:St} {ρ:aE} {i:Nat} {d:PyData} {a:Addr} {u:HO} {o:Obj} (h:gv Fm H σ ρ) (h1:ρ[i]?=some (.own d)) (h2:σ[i]?=some (some (.ref a))) (hu:H a=some u) (hm:(∃ xs,u=.lst xs)\/∃ ks,u=.dK ks)
    (hr:Rp (du H a (.frz o u)) d (.ref a)):gv Fm (du H a (.frz o u)) σ (ρ.set i (.val d)):=by
  have hFa:=h.own i d a h1 h2;have kp:Kp H (du H a (.frz o u)):=iJ hu hm;refine ⟨fun b x e=>?_,⟨by rw [List.length_set];exact h.sl.1,fun j c w' e1 e2=>?_⟩,fun j e b e1 e2=>?_,fun j k e f b e1 e2 e3 e4=>?_⟩
  · rw [aJ (bh e hFa)];exact h.fm b x e
  · rw [List.getElem?_set] at e1;by_cases hij:i=j
    · subst hij;rw [if_pos rfl] at e1;split at e1
      · cases e1;rw [h2] at e2;cases e2;exact ⟨_,rfl,hr⟩
      · cases e1
    · rw [if_neg hij] at e1;have q:=h.sl.2 j c w' e1 e2;cases c with
      | exc p=>exact q
      | non=>exact True.intro
      | val d'=>obtain ⟨v,z1,z2⟩:=q;exact ⟨v,z1,Rp.kp kp _ _ z2⟩
      | own d' =>
        obtain ⟨v,z1,z2⟩:=q;subst z1;obtain ⟨b,ob,rfl,hb⟩:=pX z2;have nb:b≠a:=fun z=>hij (by subst z;exact h.apart i j d d' b h1 e1 h2 e2)
        refine ⟨_,rfl,?_⟩;cases d' <;> simp only [jb] at z2 ⊢
        · obtain ⟨b',vs,e,hb',r⟩:=z2;cases e;exact ⟨b,vs,rfl,by rw [aJ nb];exact hb',bF.kp kp _ _ r⟩
        · obtain ⟨b',vs,e,hb',r⟩:=z2;cases e;exact ⟨b,vs,rfl,by rw [aJ nb];exact hb',dQ.kp kp _ _ r⟩
  · obtain ⟨ne,e1⟩:=cH (fun e z=>by cases z) e1;exact h.own j e b e1 e2
  · obtain ⟨ne,e1⟩:=cH (fun e z=>by cases z) e1;obtain ⟨ne',e2⟩:=cH (fun e z=>by cases z) e2;exact h.apart j k e f b e1 e2 e3 e4
theorem Ag {X:Cx} {pins:List (Addr×Obj)} {s:Shared} {Fm H:Hp} {σ:St} {ρ:aE} {i:Nat} {d:PyData} (I:aC X pins σ H s) (h:gv Fm H σ ρ) (h1:ρ[i]?=some (.own d)) :
    ∃ H' v,aC X pins σ H' s/\gv Fm H' σ (ρ.set i (.val d))/\σ[i]?=some (some v)/\Rp H' d v:=by
  obtain ⟨w',h2,v,rfl,q⟩:=h.sl.at h1;cases d <;> simp only [jb] at q
  · rename_i ds;obtain ⟨a,vs,rfl,ha,r⟩:=q;obtain ⟨o,J⟩:=jG I ha (.inl ⟨_,rfl⟩);have hr:Rp (du H a (.frz o (.lst vs))) (.list ds) (.ref a):=by
      simp only [Rp];exact ⟨a,o,vs,rfl,cj,bF.kp (iJ ha (.inl ⟨_,rfl⟩)) _ _ r⟩
    exact ⟨_,_,J,h.freeze h1 h2 ha (.inl ⟨_,rfl⟩) hr,h2,hr⟩
  · rename_i ds;obtain ⟨a,vs,rfl,ha,r⟩:=q;obtain ⟨o,J⟩:=jG I ha (.inr ⟨_,rfl⟩);have hr:Rp (du H a (.frz o (.dK vs))) (.dict ds) (.ref a):=by
      simp only [Rp];exact .inl ⟨a,o,vs,rfl,cj,dQ.kp (iJ ha (.inr ⟨_,rfl⟩)) _ _ r⟩
    exact ⟨_,_,J,h.freeze h1 h2 ha (.inr ⟨_,rfl⟩) hr,h2,hr⟩
theorem kU.fz {X:Cx} {st:Stmt} {i:Nat} {f:Fe} (h:kU X st (jf i f)) (hi:i < X.N.length):kU X st (ci i f):=fun Fm=>by
  intro pins s σ H D I ⟨ρ,sl,q⟩;unfold ci at q;cases ef:f ρ with
  | ex c=>rw [ef] at q;exact h Fm pins s σ H D I ⟨ρ,sl,by unfold jf;rw [ef];exact q⟩
  | no=>rw [ef] at q;exact q.elim
  | ok d =>
    rw [ef] at q;have hr:As X Fm (jf i f) { nx:=fun σ' H'=>gv Fm H' σ' (ρ.set i (.own d)),rt:=fun _ _=>False } σ H:=⟨ρ,sl,by unfold jf;rw [ef];exact fun σ' H' s'=>s'⟩
    refine cS (h Fm pins s σ H _ I hr) fun fl s' z=>?_
    cases fl with
    | next =>
      obtain ⟨σ',H',I',sls⟩:=z;have hi':i < ρ.length:=by rw [<- sl.sl.1,I.len];exact hi
      obtain ⟨H2,v,I2,sl2,_,_⟩:=Ag I' sls (i:=i) (d:=d) (by rw [List.getElem?_set,if_pos rfl,if_pos hi']);rw [List.set_set] at sl2;exact ⟨σ',H2,I2,q σ' H2 sl2⟩
    | brk=>obtain ⟨_,_,_,z⟩:=z;exact z.elim
    | cont=>obtain ⟨_,_,_,z⟩:=z;exact z.elim
    | ret u=>obtain ⟨_,_,_,_,_,z⟩:=z;exact z.elim
theorem qx {X:Cx} {st:Stmt} {i:Nat} {f:Fe} (h:Z.kU X st (jf i f)) (hi:i < X.N.length):Z.kU X st (ci i f) :=
  ⟨D2.kU.fz h.un hi⟩
noncomputable def xN (i:Nat):Fs:=fun ρ=>match ρ[i]? with
  | some (.own d)=>.ok (.rt d)
  | some (.val d)=>.ok (.rt d)
  | _=>.no
theorem uA {X:Cx} {nl:Nat} {G:List Str} {x:Str} {p pos:Pos} (T:Tb X nl G) (i:Nat) (hN:X.N[i]?=some x):Z.kU X (.Return (some (.Name x p)) pos) (xN i):=⟨fun Fm=>by
  intro pins s σ H D I ⟨ρ,sl,q⟩;have hm:=T.vis x (List.mem_of_getElem? hN);unfold xN at q;split at q
  · rename_i d e;obtain ⟨H2,v,I2,sl2,h2,r⟩:=Ag I sl e;exact sZ (hR hN hm.1 hm.2.1 hm.2.2) pins s σ H2 D I2 ⟨v,h2,q v H2 sl2.fm r⟩
  · rename_i d e;obtain ⟨o,h1,v,rfl,h2⟩:=sl.sl.at e;exact sZ (hR hN hm.1 hm.2.1 hm.2.2) pins s σ H D I ⟨v,h1,q v H sl.fm h2⟩
  · exact q.elim⟩
theorem n9 {X:Cx} {tg iter elt:Expr} {ifs:List Expr} {sc:Scope} {pos:Pos} {it:aE->R (List PyData)} {b:PyData->aE->Option aE} {t:aE->R Bool} {f:Fe} {N:List Str} {own:Nat} {G G0:List Str} {fr:List Nat} {nl:Nat}
    (T:Tb X nl G0) {oN:List Str} {on:List (Str×NameKind)} (hoN:X.N=oN) (hon:X.env.scope.names=on)
    (ck:dk sc N own G oN fr/\∀ y∈sc.names,y.2=.free->on.lookup y.1=some .cell\/on.lookup y.1=some .free) (hi:qb X tg iter it)
    (hb0:∀ ρ d ρ1,b d (aq own fr ρ)=some ρ1->jp (aq own fr ρ) ρ1)
    (hbody:∀ cl C s H fp E,Tb (ay X N sc cl C s H fp E) own G->qa (ay X N sc cl C s H fp E) tg b/\qm (ay X N sc cl C s H fp E) ifs t/\cE (ay X N sc cl C s H fp E) elt f)
    (hs:∀ x,foldedSetIterable iter X.env x=pure x:=by intro _;rfl) (hstk:∃ env0 outer0 L,X.stack=env0::outer0/\env0.frame=some L/\X.env.frame=some L:=by exact ⟨_,_,_,rfl,rfl,rfl⟩):ky X (.ListComp elt [⟨tg,iter,ifs,0⟩] sc pos) (bR it own fr b t f) :=
  mH T (by rw [hoN];exact ck.1) (fun y hy hf=>by unfold Env.kindOf;rw [hon];exact ck.2 y hy hf) hi hb0 hbody hs hstk
theorem bp {X:Cx} {tg iter elt:Expr} {ifs:List Expr} {sc:Scope} {pos:Pos} {it:aE->R (List PyData)} {b:PyData->aE->Option aE} {t:aE->R Bool} {f:Fe} {N:List Str} {own:Nat} {G G0:List Str} {fr:List Nat} {nl:Nat} (T:Tb X nl G0) {oN:List Str} {on:List (Str×NameKind)} (hoN:X.N=oN) (hon:X.env.scope.names=on) (ck:dk sc N own G oN fr/\∀ y∈sc.names,y.2=.free->on.lookup y.1=some .cell\/on.lookup y.1=some .free) (hi:Z.qb X tg iter it) (hb0:∀ ρ d ρ1,b d (aq own fr ρ)=some ρ1->jp (aq own fr ρ) ρ1) (hbody:∀ cl C s H fp E,Tb (ay X N sc cl C s H fp E) own G->Z.qa (ay X N sc cl C s H fp E) tg b/\Z.qm (ay X N sc cl C s H fp E) ifs t/\Z.cE (ay X N sc cl C s H fp E) elt f) (hs:∀ x,foldedSetIterable iter X.env x=pure x:=by intro _;rfl) (hstk:∃ env0 outer0 L,X.stack=env0::outer0/\env0.frame=some L/\X.env.frame=some L:=by exact ⟨_,_,_,rfl,rfl,rfl⟩):Z.ky X (.ListComp elt [⟨tg,iter,ifs,0⟩] sc pos) (bR it own fr b t f) :=
  ⟨D2.n9 T hoN hon ck hi.un hb0 (fun cl C s H fp E T=>let ⟨q1,q2,q3⟩:=hbody cl C s H fp E T;⟨q1.un,q2.un,q3.un⟩) hs hstk⟩
theorem yQ {X:Cx} {tg iter elt:Expr} {ifs:List Expr} {sc:Scope} {pos py spos:Pos} {it:aE->R (List PyData)} {b:PyData->aE->Option aE} {t:aE->R Bool} {f:Fe} {N:List Str} {own:Nat} {G G0:List Str} {fr:List Nat} {nl:Nat} {y:Str} (i:Nat)
    (hN:(X.N.take nl)[i]?=some y) (T:Tb X nl G0) {oN:List Str} {on:List (Str×NameKind)} (hoN:X.N=oN) (hon:X.env.scope.names=on)
    (ck:dk sc N own G oN fr/\∀ y∈sc.names,y.2=.free->on.lookup y.1=some .cell\/on.lookup y.1=some .free) (hi:qb X tg iter it)
    (hb0:∀ ρ d ρ1,b d (aq own fr ρ)=some ρ1->jp (aq own fr ρ) ρ1)
    (hbody:∀ cl C s H fp E,Tb (ay X N sc cl C s H fp E) own G->qa (ay X N sc cl C s H fp E) tg b/\qm (ay X N sc cl C s H fp E) ifs t/\cE (ay X N sc cl C s H fp E) elt f)
    (hsw:swapsWith (.ListComp elt [⟨tg,iter,ifs,0⟩] sc pos) (some (.Name y py)) spos.line X.env=pure true:=by rfl)
    (hs:∀ x,foldedSetIterable iter X.env x=pure x:=by intro _;rfl) (hstk:∃ env0 outer0 L,X.stack=env0::outer0/\env0.frame=some L/\X.env.frame=some L:=by exact ⟨_,_,_,rfl,rfl,rfl⟩):kU X (.Assign [.Name y py] (.ListComp elt [⟨tg,iter,ifs,0⟩] sc pos) spos) (jf i (bR it own fr b t f)) :=
  yP T (by rw [hoN];exact ck.1) (fun y hy hf=>by unfold Env.kindOf;rw [hon];exact ck.2 y hy hf) hi hb0 hbody hN hsw hs hstk
theorem nQ {X:Cx} {tg iter elt:Expr} {ifs:List Expr} {sc:Scope} {pos py spos:Pos} {it:aE->R (List PyData)} {b:PyData->aE->Option aE} {t:aE->R Bool} {f:Fe} {N:List Str} {own:Nat} {G G0:List Str} {fr:List Nat} {nl:Nat} {y:Str} (i:Nat) (hN:(X.N.take nl)[i]?=some y) (T:Tb X nl G0) {oN:List Str} {on:List (Str×NameKind)} (hoN:X.N=oN) (hon:X.env.scope.names=on) (ck:dk sc N own G oN fr/\∀ y∈sc.names,y.2=.free->on.lookup y.1=some .cell\/on.lookup y.1=some .free) (hi:Z.qb X tg iter it) (hb0:∀ ρ d ρ1,b d (aq own fr ρ)=some ρ1->jp (aq own fr ρ) ρ1) (hbody:∀ cl C s H fp E,Tb (ay X N sc cl C s H fp E) own G->Z.qa (ay X N sc cl C s H fp E) tg b/\Z.qm (ay X N sc cl C s H fp E) ifs t/\Z.cE (ay X N sc cl C s H fp E) elt f) (hsw:swapsWith (.ListComp elt [⟨tg,iter,ifs,0⟩] sc pos) (some (.Name y py)) spos.line X.env=pure true:=by rfl) (hs:∀ x,foldedSetIterable iter X.env x=pure x:=by intro _;rfl) (hstk:∃ env0 outer0 L,X.stack=env0::outer0/\env0.frame=some L/\X.env.frame=some L:=by exact ⟨_,_,_,rfl,rfl,rfl⟩):Z.kU X (.Assign [.Name y py] (.ListComp elt [⟨tg,iter,ifs,0⟩] sc pos) spos) (jf i (bR it own fr b t f)) :=
  ⟨D2.yQ i hN T hoN hon ck hi.un hb0 (fun cl C s H fp E T=>let ⟨q1,q2,q3⟩:=hbody cl C s H fp E T;⟨q1.un,q2.un,q3.un⟩) hsw hs hstk⟩
theorem bu {own:Nat} {fr:List Nat} {i:Nat} (h:i < own):∀ ρ d ρ1,aP i d (aq own fr ρ)=some ρ1->jp (aq own fr ρ) ρ1:=fun ρ d ρ1 e=>by
  have e':ρ1=(aq own fr ρ).set i (.val d):=(Option.some.inj e).symm;subst e';refine ⟨by rw [List.length_set],fun j c hj=>?_⟩;by_cases hij:i=j
  · subst hij;left;unfold aq at hj;rw [List.getElem?_append_left (by simpa using h),List.getElem?_replicate,if_pos h] at hj;exact (Option.some.inj hj).symm
  · right;rw [List.getElem?_set,if_neg hij];exact hj
noncomputable def tK (sc:Scope) (N G:List Str):Prop :=
  N.Nodup/\(∀ x∈N,(sc.names.lookup x=some .local\/sc.names.lookup x=some .cell)/\(x==("__debug__" : Str))=false/\(x==("__classdict__" : Str))=false)/\∀ x∈G,sc.names.lookup x=some .globalImplicit/\(x==("__debug__" : Str))=false/\x≠("__name__" : Str)
noncomputable instance {sc:Scope} {N G:List Str}:Decidable (tK sc N G):=by unfold tK;infer_instance
theorem AY {P:Program} {w:World} {K:PySem.W.Frag} {mg:Str->Option Value} {base:Heap} {N:List Str} {qual:Str} {sc:Scope} {f:Addr} {cdv:Value} {A:Around} {outer:List Env} {s:Shared} {H:Hp} {E:XK} {G:List Str} {k:Nat}
    (hr:fq k (A.deeper (envOfC qual sc s.heap.objs.size f cdv))) (ck:tK sc N G):Tb (eW (cM P w mg) P w K mg base N qual sc f cdv A outer s H E) N.length G:=by
  obtain ⟨nd,l,g⟩:=ck;refine ⟨hr.units,rfl,nd,fun x hx=>⟨?_,(l x hx).2⟩,fun x hx=>⟨?_,.inl rfl⟩,fun x hx=>?_⟩
  · rcases (l x hx).1 with q | q
    · exact .inl q
    · exact .inr (.inl q)
  · exact (l x (List.mem_of_mem_take hx)).1
  · exact g x hx
section
variable {X:Cx} {a b c:Expr} {fa fb fc:Fe} {pos:Pos}
noncomputable def tM (X:Cx) (P:Hp->Hp->PyData->V->Prop) (r:V->Hp->VK->Prop) (g:PyData->R PyData):Prop:=∀ H x dx Q,fT H dx x->ud X P (g dx) H Q->r x H Q
theorem D8 {P:Hp->Hp->PyData->V->Prop} {r:V->Hp->VK->Prop} {g:PyData->R PyData} (hP:Dn P) (hg:tM X P r g) (σ:St) (H:Hp) (Q:VK) (h:ik X P (e1 g fa) σ H Q):EA r (ik X o7 fa) σ H Q :=
  (cQ (P:=o7) (k:=fun _ x=>g x) (dI (X:=X) hP Q) h).post fun v H1 ⟨_,d1,_,_,p1,q1⟩=>hg H1 v d1 Q p1 q1
noncomputable def mo:PyData->R PyData
  | .int i=>.ok (.int (-i))
  | _=>.no
theorem BO:tM X fU (rU fun i=>.int (-i)) mo:=fun H x dx Q hx q=>by
  unfold mo at q;split at q
  · exact ⟨_,bd hx,q _ H (ar.refl _) cY⟩
  · exact q.elim
theorem iA (ha:Z.cT X a fa):Z.cE X (.UnaryOp .USub a pos) (e1 mo fa):=⟨have ha:=ha.un;PE.imp (CH BZ ha) (D8 dO BO)⟩
noncomputable def g6 (g g':PyData->PyData->R PyData) (fa fb fc:Fe):Fe:=fun ρ=>fa ρ>>=fun x=>fb ρ>>=fun y=>g x y>>=fun d=>sr d>>=fun k=>if k=true then fc ρ>>=fun z=>g' y z else .ok (.bool false)
theorem qM {r r':R2} {g g':PyData->PyData->R PyData} (hg:bU X fU r g) (hg':bU X fU r' g') (σ:St) (H:Hp) (Q:VK) (h:ik X fU (g6 g g' fa fb fc) σ H Q) :
    tm r r' (ik X o7 fa) (ik X o7 fb) (ik X o7 fc) σ H Q :=
  (cQ (P:=o7) (k:=fun ρ x=>fb ρ>>=fun y=>g x y>>=fun d=>sr d>>=fun k=>if k=true then fc ρ>>=fun z=>g' y z else .ok (.bool false)) (dI (X:=X) dO Q) h).post fun v H1 ⟨ρ1,d1,sl1,_,p1,q1⟩ =>
    (cQ (P:=o7) (f:=fb) (k:=fun ρ y=>g d1 y>>=fun d=>sr d>>=fun k=>if k=true then fc ρ>>=fun z=>g' y z else .ok (.bool false)) (dI (X:=X) dO Q) ⟨ρ1,sl1,q1⟩).post fun u H2 ⟨ρ2,d2,sl2,s2,p2,q2⟩=>by
      refine hg H2 v u d1 d2 _ (fT.mono p1 s2) p2 ?_;cases e:g d1 d2 with
      | ex c=>rw [e] at q2;exact q2
      | no=>rw [e] at q2;exact q2
      | ok d =>
        rw [e] at q2;intro w' H3 s3 p3;have q3:ud X fU (sr d>>=fun k=>if k=true then fc ρ2>>=fun z=>g' d2 z else .ok (.bool false)) H2 Q:=q2;cases d with
        | bool k =>
          have e3:w'=.bl k:=by simpa only [Rp] using p3
          refine ⟨k,e3,?_⟩;cases k with
          | false=>exact q3 _ H3 s3 eK
          | true =>
            have q4:ud X fU (fc ρ2>>=fun z=>g' d2 z) H2 Q:=q3;exact (cQ (P:=o7) (f:=fc) (k:=fun _ z=>g' d2 z) (dI (X:=X) dO Q) ⟨ρ2,sl2.mono s3,(dI (X:=X) dO Q).mono _ _ _ q4 s3⟩).post fun z H4 ⟨_,d4,_,s4,p4,q5⟩=>hg' H4 u z d2 d4 Q (fT.mono p2 (s3.trans s4)) p4 q5
        | none=>exact q3.elim
        | int i=>exact q3.elim
        | str i=>exact q3.elim
        | list i=>exact q3.elim
        | tuple i=>exact q3.elim
        | dict i=>exact q3.elim
theorem l7 {op op':CmpOp} {r r':R2} {g g':PyData->PyData->R PyData} (ho:gS X (compareOp op) r) (hg:bU X fU r g) (ho':gS X (compareOp op') r') (hg':bU X fU r' g') (ha:Z.cT X a fa) (hb:Z.cT X b fb) (hc:Z.cT X c fc) (hm:lastMarks [op,op'] [b,c]=false:=by with_unfolding_all rfl):Z.cE X (.Compare a [op,op'] [b,c] pos) (g6 g g' fa fb fc):=⟨have ha:=ha.un;have hb:=hb.un;have hc:=hc.un;PE.imp (xk ho ho' ha hb hc hm) (qM hg hg')⟩
theorem kX {op op':CmpOp} {r r':R2} {g g':PyData->PyData->R PyData} (ho:gS X (compareOp op) r) (hg:bU X fU r g) (ho':gS X (compareOp op') r') (hg':bU X fU r' g') (ha:Z.cT X a fa) (hb:Z.cT X b fb) (hc:Z.cT X c fc) (hm:lastMarks [op,op'] [b,c]=false:=by with_unfolding_all rfl):Z.nC X (.Compare a [op,op'] [b,c] pos) (tE (g6 g g' fa fb fc)):=⟨have ha:=ha.un;have hb:=hb.un;have hc:=hc.un;PT.imp (xC ho ho' ha hb hc hm) fun σ H Q h=>qM hg hg' σ H _ (pZ h)⟩
variable {es:List Expr} {fs:aE->R (List PyData)}
noncomputable def gp (fs:aE->R (List PyData)):Fe:=fun ρ=>fs ρ>>=fun ds=>if ds.length<=sizeLine then .ok (.tuple ds) else .no
noncomputable def qS (fs:aE->R (List PyData)):Fe:=fun ρ=>fs ρ>>=fun ds=>if ds.length<=sizeLine then .ok (.list ds) else .no
theorem de {x1} (h:Z.rW X es fs):Z.cE X (.Tuple es x1 pos) (gp fs):=⟨have h:=h.un;PE.imp (xp h) fun σ H Q q=>(mh (I:=Rp) (f:=fs) (k:=fun _ ds=>if ds.length<=sizeLine then .ok (.tuple ds) else .no) (dI (X:=X) dO Q) q).post fun vs H1 ⟨_,ds,_,_,p,q1⟩=>by
    have p:=nc.mp p;split at q1
    · rename_i hz;exact ⟨by rw [p.length];exact hz,fun a ha=>q1 _ _ (bT ha _) (dF ha p)⟩
    · exact q1.elim⟩
theorem iQ (h:Z.rW X es fs):Z.ky X (.List es pos) (qS fs):=⟨have h:=h.un;PE.imp (Bt h) fun σ H Q q=>(mh (I:=Rp) (f:=fs) (k:=fun _ ds=>if ds.length<=sizeLine then .ok (.list ds) else .no) (dI (X:=X) wy Q) q).post fun vs H1 ⟨_,ds,_,_,p,q1⟩=>by
    have p:=nc.mp p;split at q1
    · rename_i hz;exact ⟨by rw [p.length];exact hz,fun a ha=>q1 _ _ (bT ha _) (cJ ha p)⟩
    · exact q1.elim⟩
theorem iC  : Z.ky X (.Dict [] [] pos) (eC (.dict [])):=⟨PE.imp xn fun σ H Q ⟨ρ,sl,q⟩ p hp=>q _ _ (bT hp _) ⟨by simp only [jb];exact ⟨p,[],rfl,cj,by simp only [dQ]⟩,p,rfl,hp⟩⟩
noncomputable def br:PyData->PyData->R PyData
  | .list ds,.int i=>match atI ds i with
    | some d=>.ok d
    | none=>.no
  | .tuple ds,.int i=>match atI ds i with
    | some d=>.ok d
    | none=>.no
  | .str z,.int i=>if z.length<=sizeLine then match atI z.cps.toList i with
    | some c=>.ok (.str ⟨#[c]⟩)
    | none=>.no else .no
  | .dict kvs,k=>if gc kvs=true then .no else match dE k with
    | some _=>match eY kvs k with
      | some d=>.ok d
      | none=>.no
    | none=>.no
  | _,_=>.no
theorem bF.atI {H:Hp} {ds:List PyData} {vs:List V} {i:Int} {d:PyData} (r:bF H ds vs) (e:L2.atI ds i=some d):∃ v,L2.atI vs i=some v/\Rp H d v:=by
  unfold L2.atI at e ⊢;rw [r.length];cases h:Ai ds.length i with
  | none=>rw [h] at e;cases e
  | some j =>
    rw [h] at e;obtain ⟨v,e1,p⟩:=r.get (show ds[j]?=some d from e);exact ⟨v,e1,p⟩
noncomputable def CO:R2:=fun x y H Q=>∃ a v,x=.ref a/\jm H a y (some v)/\Q v H
theorem zf (hu:X.A.units+1 < cLine):yt X CO:=by
  intro value slice pins s σ H x y v u Q I rx ry h hs;obtain ⟨a,z,rfl,g,q⟩:=h;cases rx;exact tail_any (qR I g) PySem.F.slot_dict_getitem.lookup (uO hu I g ry fun w' s3 I3 rw'=>⟨z,H,I3,rw',q⟩) hs
theorem CZ:bU X fU (fun x y H Q=>CP X.K x y H Q\/CS X.K x y H Q\/CQ x y H Q\/CO x y H Q) br:=fun H x y dx dy Q hx hy q=>by
  unfold br at q;split at q
  · rename_i ds i;split at q
    · rename_i d e;obtain ⟨a,vs,rfl,hq,r⟩:=eF (K:=X.K) hx;obtain ⟨v,e1,p⟩:=r.atI e;exact .inl ⟨a,vs,i,v,rfl,bd hy,hq,e1,q v H (ar.refl _) p⟩
    · exact q.elim
  · rename_i ds i;split at q
    · rename_i d e;obtain ⟨a,vs,rfl,hq,r⟩:=cb hx;obtain ⟨v,e1,p⟩:=r.atI e;exact .inr (.inl ⟨a,vs,i,v,rfl,bd hy,gm.of hq,e1,q v H (ar.refl _) p⟩)
    · exact q.elim
  · rename_i z i;split at q
    · rename_i hz;split at q
      · rename_i c e;exact .inr (.inr (.inl ⟨z,i,c,fW hx,bd hy,hz,e,q _ H (ar.refl _) s9⟩))
      · exact q.elim
    · exact q.elim
  · rename_i kvs k;split at q
    · exact q.elim
    rename_i hi;split at q
    · rename_i κ e;split at q
      · rename_i d e1;obtain ⟨a,ks,rfl,h,r⟩:=fL (Bool.not_eq_true _ ▸ hi) hx;obtain ⟨o,g,_,e2⟩:=pL (κ:=κ) h r;rw [mO e] at e1;obtain ⟨v,rfl,p⟩:=e2 d e1;rw [<- pG hy e] at g;exact .inr (.inr (.inr ⟨a,v,rfl,g,q v H (ar.refl _) p⟩))
      · exact q.elim
    · exact q.elim
  · exact q.elim
theorem ap (hu:X.A.units+64 < cLine) (ha:Z.cT X a fa) (hb:Z.cT X b fb) (hs:tL b):Z.cE X (.Subscript a b pos) (e2 br fa fb):=⟨have ha:=ha.un;have hb:=hb.un;PE.imp (CD (zg.or (Bc.or (Bb.or (zf (by omega))))) ha hb hs) (DJ dO CZ)⟩
variable {nl:Nat} {G:List Str} {x:Str} {p:Pos}
noncomputable def pB (X:Cx) (P:Hp->Hp->PyData->V->Prop) (r:List V->Hp->VK->Prop) (g:List PyData->R PyData):Prop:=∀ H xs ds Q,RA fT H ds xs->ud X P (g ds) H Q->r xs H Q
theorem qJ {P:Hp->Hp->PyData->V->Prop} {r:List V->Hp->VK->Prop} {g:List PyData->R PyData} (hP:Dn P) (hg:pB X P r g) (σ:St) (H:Hp) (Q:VK) (h:ik X P (fun ρ=>fs ρ>>=g) σ H Q):DH r (xJ X fT fs) σ H Q :=
  (mh (I:=fT) (k:=fun _=>g) (dI (X:=X) hP Q) h).post fun vs H1 ⟨_,ds,_,_,p1,q1⟩=>hg H1 vs ds Q p1 q1
noncomputable def one (g:PyData->R PyData):List PyData->R PyData
  | [d]=>g d
  | _=>.no
noncomputable def BV (g:PyData->PyData->R PyData):List PyData->R PyData
  | [d,e]=>g d e
  | _=>.no
theorem pW (g:PyData->R PyData) (fa:Fe):(fun ρ=>ai fa aD ρ>>=one g)=e1 g fa:=by
  funext ρ;unfold ai aD e1;cases fa ρ <;> rfl
theorem BW (g:PyData->PyData->R PyData) (fa fb:Fe):(fun ρ=>ai fa (ai fb aD) ρ>>=BV g)=e2 g fa fb:=by
  funext ρ;unfold ai aD e2;cases fa ρ with
  | ok a=>cases fb ρ <;> rfl
  | ex c=>rfl
  | no=>rfl
theorem p9 {P:Hp->Hp->PyData->V->Prop} {r:List V->Hp->VK->Prop} {g:PyData->R PyData} (h:∀ H x d Q,fT H d x->ud X P (g d) H Q->r [x] H Q):pB X P r (one g):=fun H xs ds Q ra q=>by
  unfold one at q;split at q
  · rename_i d;simp only [RA] at ra;obtain ⟨v,r',e,p,e2⟩:=ra;subst e2;subst e;exact h H v d Q p q
  · exact q.elim
theorem BQ {P:Hp->Hp->PyData->V->Prop} {r:List V->Hp->VK->Prop} {g:PyData->PyData->R PyData} (h:∀ H x y d e Q,fT H d x->fT H e y->ud X P (g d e) H Q->r [x,y] H Q):pB X P r (BV g):=fun H xs ds Q ra q=>by
  unfold BV at q;split at q
  · rename_i d e;simp only [RA] at ra;obtain ⟨v,r',e1,p,v',r'',e2,p',e3⟩:=ra;subst e3;subst e2;subst e1;exact h H v v' d e Q p p' q
  · exact q.elim
section
variable {P:Hp->Hp->PyData->V->Prop} {r:List V->Hp->VK->Prop} {g:PyData->R PyData} {g2:PyData->PyData->R PyData} {id ty:String}
theorem yC (T:Tb X nl G) (j:Nat) (hG:G[j]?=some x) (hm:X.mg x=none) (hP:Dn P) (hv:bootBuiltins x=some (.builtin id)) (hc:c9 X (.builtin id) r) (hg:∀ H x d Q,fT H d x->ud X P (g d) H Q->r [x] H Q) (ha:cT X a fa)
    (he:aH a=true:=by rfl):PE X (.Call (.Name x p) [a] [] pos) (ik X P (e1 g fa)):=by
  have q:=T.gl x (List.mem_of_getElem? hG);rw [<- pW];exact PE.imp (iK hc q.1 hm hv (iS ha mE he) q.2.2 q.2.1 (aS he)) (qJ hP (p9 hg))
theorem BY (T:Tb X nl G) (j:Nat) (hG:G[j]?=some x) (hm:X.mg x=none) (hP:Dn P) (hv:bootBuiltins x=some (.type ty)) (hc:c9 X (.type ty) r) (hg:∀ H x d Q,fT H d x->ud X P (g d) H Q->r [x] H Q) (ha:cT X a fa)
    (he:aH a=true:=by rfl):PE X (.Call (.Name x p) [a] [] pos) (ik X P (e1 g fa)):=by
  have q:=T.gl x (List.mem_of_getElem? hG);rw [<- pW];exact PE.imp (oH hc q.1 hm hv (iS ha mE he) q.2.2 q.2.1 (aS he)) (qJ hP (p9 hg))
theorem Ck (T:Tb X nl G) (j:Nat) (hG:G[j]?=some x) (hm:X.mg x=none) (hP:Dn P) (hv:bootBuiltins x=some (.builtin id)) (hc:c9 X (.builtin id) r) (hg:∀ H x y d e Q,fT H d x->fT H e y->ud X P (g2 d e) H Q->r [x,y] H Q) (ha:cT X a fa) (hb:cT X b fb)
    (he:aH a=true:=by rfl) (he2:aH b=true:=by rfl):PE X (.Call (.Name x p) [a,b] [] pos) (ik X P (e2 g2 fa fb)):=by
  have q:=T.gl x (List.mem_of_getElem? hG);rw [<- BW];exact PE.imp (iK hc q.1 hm hv (iS ha (iS hb mE he2) he) q.2.2 q.2.1 (aS he) (nr (by rw [List.all_cons,he2];rfl))) (qJ hP (BQ hg))
end
end
theorem gA:fillsNumberSlot (.type "tuple") "mul" = pure false :=
  PySem.fillsNumberSlot_seq (id := "tuple.__mul__") (r:=some (.builtin "tuple.__rmul__")) F.slot_tuple_mul.lookup (by decide +kernel) F.slot_tuple_rmul.lookup (by decide +kernel)
theorem kq:seqRepeat? (.type "tuple")=pure (some (.builtin "tuple.__mul__")):=by
  unfold seqRepeat?;rw [PySem.seqSlot_of (T := "tuple") (name := "__mul__") (id := "tuple.__mul__") F.slot_tuple_mul.lookup (by decide +kernel),PySem.seqSlot_of (T := "tuple") (name := "__rmul__") (id := "tuple.__rmul__") F.slot_tuple_rmul.lookup (by decide +kernel)];rfl
theorem iI (a:Int) (t:Tok) (l:Addr) (items:Array Value) (n:Nat) (dd:Option Addr) (sl:Array (Option Value)) :
    Meets (Builtin.«int.__rmul__» ⟨[.int a t,.ref l],[]⟩) (fun _ R s=>s.heap.get? l=some { cls:=.type "tuple",dict:=dd,data:=.seq items n,slots:=sl }/\R (.ok (.ret Value.notImplemented)) s) :=
  .of_wp fun prog w A R s h=>by obtain ⟨hp,g,d,tk,os⟩:=s;obtain ⟨hl,h⟩:=h;wp_walk;exact ⟨_,rfl,h⟩
theorem tD (l:Addr) (items:Array Value) (n:Nat) (dd:Option Addr) (sl:Array (Option Value)) (x:Int) (u:Tok) (h1:2<=x) (h2:x < 2 ^ 63) (h0:¬ items.isEmpty=true) (hc1:¬ (items.size:Int)*x > (2 ^ 63-1) / 8) (hbig:Builtin.Tuple.tupleTooMany ((items.size:Int)*x)=false) (hsz:¬ (List.foldl (fun x1 x2=>x1++x2) #[] (List.replicate x.toNat items)).size > sizeLine) :
    Meets (Builtin.«tuple.__mul__» ⟨[.ref l,.int x u],[]⟩) (fun _ R s=>s.heap.get? l=some { cls:=.type "tuple",dict:=dd,data:=.seq items n,slots:=sl }/\R (.ok (.ret (Value.ref s.heap.objs.size))) { s with heap:=s.heap.push { cls:=Value.type "tuple",data:=Data.seq (List.foldl (fun x1 x2=>x1++x2) #[] (List.replicate x.toNat items)) },toks:=s.toks }) :=
  .of_wp fun prog w A R s h=>by
    obtain ⟨hp,g,d,tk,os⟩:=s;obtain ⟨hl,h⟩:=h;have f1:=AutoSeq1.idx_int;have f2:=AutoSeq1.sub_tuple_tuple;have f3:=AutoSeq1.sub_list_list;have f4:=AutoSeq1.sub_tuple_list;have f5:=AutoSeq1.sub_list_tuple;have e0:(decide (x < -2 ^ 63)||decide (x>=2 ^ 63))=false:=by
      rw [decide_eq_false (by omega),decide_eq_false (by omega)];rfl
    have e1:(items.isEmpty||x==1)=false:=by
      have:(x==1)=false:=by simp;omega
      rw [this,Bool.or_false];exact Bool.eq_false_iff.mpr h0
    have e2:(decide (x<=0)||items.isEmpty)=false:=by
      rw [decide_eq_false (by omega),Bool.false_or];exact Bool.eq_false_iff.mpr h0
    have e3:decide ((items.size:Int)*x > (2 ^ 63-1) / 8)=false:=decide_eq_false hc1;have e4:Builtin.Tuple.tupleTooMany ((items.size:Int)*x)=false:=hbig
    wp_walk using wpAny_loadPart' hl
    refine wpAny_ite_false (decide_eq_false (by rw [e0];exact Bool.false_ne_true)) ?_
    wp_walk using wpAny_loadPart' hl
    refine wpAny_ite_false (decide_eq_false (by rw [e1];exact Bool.false_ne_true)) ?_
    wp_walk using wpAny_loadPart' hl
    refine wpAny_ite_false (decide_eq_false (by rw [e2];exact Bool.false_ne_true)) ?_
    wp_walk using wpAny_loadPart' hl
    refine wpAny_ite_false e3 ?_
    wp_walk using wpAny_loadPart' hl
    exact ⟨_,rfl,h⟩
section
variable {X:Cx} {a b c:Expr} {fa fb fc:Fe} {pos:Pos} {nl:Nat} {G:List Str} {x:Str} {p:Pos}
noncomputable def xG (K:PySem.W.Frag):R2:=fun x y H Q=>∃ l k xs,x=.ref l/\y=.int k/\gm K H l xs/\xs≠[]/\2<=k/\k < 2 ^ 63/\xs.length*k.toNat<=sizeLine/\∀ p,H p=none->Q (.ref p) (du H p (.tup (List.replicate k.toNat xs).flatten))
theorem t7:gS X (binaryOp .Mult) (xG X.K):=by
  intro pins s σ H x y v u Q I rx ry h;obtain ⟨l,k,xs,rfl,rfl,hH,hne,h1,h2,hz,q⟩:=h;cases rx;obtain ⟨t,rfl⟩:=ry;obtain ⟨its,r,pl,hz0⟩:=I.tuple hH;obtain ⟨⟨cls,dd,data,sl⟩,e,hc,n,hd⟩:=id pl;simp only at hc hd;subst hc hd;have hl:=r.length;have hnew:List.foldl (fun x1 x2=>x1++x2) #[] (List.replicate k.toNat its.toArray)=(List.replicate k.toNat its).flatten.toArray:=by
    have:=oh its k.toNat [];rw [List.nil_append] at this;exact this
  have hlen:(List.replicate k.toNat its).flatten.length<=sizeLine:=by rw [tY,<- hl,Nat.mul_comm];exact hz
  have hprod:(its.length:Int)*k<=(sizeLine:Int):=by
    have h3:((its.length*k.toNat:Nat):Int)<=(sizeLine:Int):=by rw [<- hl];exact Int.ofNat_le.mpr hz
    have h4:((k.toNat:Nat):Int)=k:=Int.toNat_of_nonneg (by omega);rw [Int.natCast_mul,h4] at h3;exact h3
  have hcap:¬ (its.toArray.size:Int)*k > (2 ^ 63-1) / 8:=by
    rw [List.size_toArray];have hs:sizeLine=16777216:=sizeLine_eq;omega
  have hbig:Builtin.Tuple.tupleTooMany ((its.toArray.size:Int)*k)=false:=by
    unfold Builtin.Tuple.tupleTooMany;rw [List.size_toArray];exact decide_eq_false (by omega)
  refine wpAny_binaryOp_repeat_ref (T := "tuple") (U := "int") (by decide) ⟨_,e,rfl⟩ (fun s'=>typeIs_int s' k t) gA F.fills_int_mul F.slot_int_rmul kq F.slot_int_index.lookup
    (call_meets F.slot_int_rmul (typeIs_int s k t) F.entry_int_rmul (F.args_int_rmul_2 _ _) (iI k t l its.toArray n dd sl)
      ⟨e,rfl,⟨_,e,rfl⟩,call_meets F.slot_tuple_mul ⟨_,e,rfl⟩ F.entry_tuple_mul (F.args_tuple_mul_2 _ _) (tD l its.toArray n dd sl k t h1 h2 (by
        intro z;apply hne;have:its=[]:=by simpa using z
        rw [this] at hl;exact List.length_eq_zero_iff.mp hl) hcap hbig (by rw [hnew,List.size_toArray];omega)) ⟨e,?_⟩⟩)
  rw [hnew];refine ⟨.ref s.heap.objs.size,_,I.laid (t':=s.toks) (o:=.tup (List.replicate k.toNat xs).flatten) (fun b ob q=>Heap.get?_push_of_some _ q) (Nat.le_refl _) ?_,rfl,q _ (I.hok.fresh (Nat.le_refl _))⟩;exact ⟨by rw [tY,Nat.mul_comm];exact hz,_,r.rep k.toNat,e7.new _ _⟩
noncomputable def fD:PyData->PyData->R PyData
  | .int i,.int j=>if (-(2 ^ 64) < i/\i < 2 ^ 64)\/(-(2 ^ 64) < j/\j < 2 ^ 64) then .ok (.int (i*j)) else .no
  | .tuple xs,.int k=>if xs≠[]/\2<=k/\k < 2 ^ 63/\xs.length*k.toNat<=sizeLine then .ok (.tuple (List.replicate k.toNat xs).flatten) else .no
  | _,_=>.no
theorem BN:bU X fU (fun x y H Q=>rI yo (fun i j=>.int (i*j)) x y H Q\/xG X.K x y H Q) fD:=fun H x y dx dy Q hx hy q=>by
  cases dx with
  | int i =>
    cases dy with
    | int j =>
      simp only [fD] at q;split at q
      · rename_i h;exact .inl ⟨_,_,bd hx,bd hy,h,q _ H (ar.refl _) cY⟩
      · exact q.elim
    | _=>exact q.elim
  | tuple xs =>
    cases dy with
    | int k =>
      simp only [fD] at q;split at q
      · rename_i h;obtain ⟨a,vs,rfl,ha,r⟩:=cb hx;have hl:=r.length;refine .inr ⟨a,k,vs,rfl,bd hy,gm.of ha,fun z=>h.1 ?_,h.2.1,h.2.2.1,by rw [hl];exact h.2.2.2,fun p hp=>q _ _ (bT hp _) (dF hp (r.rep _))⟩;rw [z] at hl;exact List.length_eq_zero_iff.mp hl.symm
      · exact q.elim
    | _=>exact q.elim
  | _=>exact q.elim
theorem eE (ha:Z.cT X a fa) (hb:Z.cT X b fb):Z.cE X (.BinOp a .Mult b pos) (e2 fD fa fb):=⟨have ha:=ha.un;have hb:=hb.un;jC dO (Bp.or t7) BN ha hb⟩
theorem zl:gS X (binaryOp .Add) (fun x y H Q=>∃ i j,x=.str i/\y=.str j/\i.length+j.length<=sizeLine/\Q (.str (i++j)) H):=by
  intro pins s σ H x y v u Q I rx ry h;obtain ⟨i,j,rfl,rfl,hz,q⟩:=h;obtain ⟨t,rfl⟩:=rx;obtain ⟨t',rfl⟩:=ry;exact PyProof.Rows.add_str (fun t' tk=>⟨.str (i++j),H,I.tok _,⟨_,rfl⟩,q⟩) hz
noncomputable def xF (K:PySem.W.Frag):R2:=fun x y H Q=>∃ a b ys,x=.ref a/\y=.ref b/\gm K H a []/\gm K H b ys/\Q (.ref b) H
theorem xg:gS X (binaryOp .Add) (xF X.K):=by
  intro pins s σ H x y v u Q I rx ry h;obtain ⟨a,b,ys,rfl,rfl,ha,hb,q⟩:=h;cases rx;cases ry;obtain ⟨its,r1,p1,_⟩:=I.tuple ha;obtain ⟨its2,r2,p2,_⟩:=I.tuple hb;cases r1;obtain ⟨⟨cls,dd,data,sl⟩,ho,hc,n,hd⟩:=id p1;obtain ⟨⟨cls2,dd2,data2,sl2⟩,ho2,hc2,n2,hd2⟩:=id p2;simp only at hc hd hc2 hd2;subst hc hd hc2 hd2;exact concat_meets ⟨_,ho,rfl⟩ ⟨_,ho2,rfl⟩ noFill_tuple_add seq_tuple_add PySem.F.slot_tuple_add PySem.F.entry_tuple_add (PySem.F.args_tuple_add_2 _ _)
    (tuple_addW0 a b _ its2.toArray n n2 dd dd2 sl sl2 (by rfl)) ⟨ho,ho2,⟨.ref b,H,I,rfl,q⟩⟩
noncomputable def Ap (K:PySem.W.Frag):R2:=fun x y H Q=>∃ l b xs zs,x=.ref l/\y=.ref b/\Rd H l (.lst xs)/\Rd H b (.lst zs)/\xs.length+zs.length<=sizeLine/\∀ p,H p=none->Q (.ref p) (du H p (.lst (xs++zs)))
theorem zm:gS X (binaryOp .Add) (Ap X.K):=by
  intro pins s σ H x y v u Q I rx ry h;obtain ⟨l,b,xs,zs,rfl,rfl,hH,hB,hz,q⟩:=h;cases rx;cases ry;obtain ⟨z,its,n,r,e⟩:=hH.ok I.hok;obtain ⟨z2,its2,n2,r2,e2⟩:=hB.ok I.hok;have hl:=r.length;have hl2:=r2.length;refine PySem.P.add_list e e2 ?_ (by rw [List.size_toArray,List.size_toArray];omega);have ea:its.toArray++its2.toArray=(its++its2).toArray:=by simp
  rw [ea];exact ⟨.ref _,_,I.lnew (t':=s.toks) (r.append r2) (by rw [List.length_append];omega),rfl,q _ I.fresh⟩
noncomputable def cw:PyData->PyData->R PyData
  | .int i,.int j=>.ok (.int (i+j))
  | .str x,.str y=>if x.length+y.length<=sizeLine then .ok (.str (x++y)) else .no
  | .tuple xs,.tuple ys=>if xs.length+ys.length<=sizeLine then .ok (.tuple (xs++ys)) else .no
  | .list xs,.list ys=>if xs.length+ys.length<=sizeLine then .ok (.list (xs++ys)) else .no
  | _,_=>.no
theorem pH {H:Hp} {ds:List PyData} {x:V} (h:fT H (.list ds) x):∃ a vs,x=.ref a/\Rd H a (.lst vs)/\bF H ds vs:=by
  rcases h with h | h
  · simp only [Rp] at h;obtain ⟨a,o,vs,e,ha,r⟩:=h;exact ⟨a,vs,e,.inr ⟨o,ha⟩,r⟩
  · simp only [jb] at h;obtain ⟨a,vs,e,ha,r⟩:=h;exact ⟨a,vs,e,.inl ha,r⟩
theorem BK:bU X Dv (fun x y H Q=>yk (fun i j=>.int (i+j)) x y H Q\/(∃ i j,x=.str i/\y=.str j/\i.length+j.length<=sizeLine/\Q (.str (i++j)) H)\/Aq X.K x y H Q\/xF X.K x y H Q\/Ap X.K x y H Q) cw:=fun H x y dx dy Q hx hy q=>by
  cases dx with
  | int i =>
    cases dy with
    | int j=>exact .inl ⟨_,_,bd hx,bd hy,q _ H (ar.refl _) (.inl cY)⟩
    | _=>exact q.elim
  | str i =>
    cases dy with
    | str j =>
      simp only [cw] at q;split at q
      · rename_i h;exact .inr (.inl ⟨_,_,fW hx,fW hy,h,q _ H (ar.refl _) (.inl s9)⟩)
      · exact q.elim
    | _=>exact q.elim
  | tuple xs =>
    cases dy with
    | tuple ys =>
      simp only [cw] at q;split at q
      · rename_i h;have hx':=hx;obtain ⟨a,vs,rfl,ha,r⟩:=cb hx;obtain ⟨b,us,rfl,hb,r2⟩:=cb hy;cases xs with
        | nil =>
          have:=r.nil_inv;subst this;refine .inr (.inr (.inr (.inl ⟨a,b,us,rfl,rfl,gm.of ha,gm.of hb,q _ H (ar.refl _) (.inl ?_)⟩)));simp only [Rp,List.nil_append];exact ⟨b,us,rfl,hb,r2⟩
        | cons d ds =>
          refine .inr (.inr (.inl ⟨a,b,vs,us,rfl,rfl,gm.of ha,gm.of hb,fun z=>?_,by rw [r.length,r2.length];exact h,fun z=>?_,fun _ p hp=>q _ _ (bT hp _) (.inl (dF hp (r.append r2)))⟩))
          · rw [z] at r;obtain ⟨_,_,e,_⟩:=r.cons_inv;cases e
          · have hy0:ys=[]:=by
              have:=r2.length;rw [z] at this;exact List.length_eq_zero_iff.mp this.symm
            refine q _ H (ar.refl _) (.inl ?_);rw [hy0,List.append_nil];simp only [Rp];exact ⟨a,vs,rfl,ha,r⟩
      · exact q.elim
    | _=>exact q.elim
  | list xs =>
    cases dy with
    | list ys =>
      simp only [cw] at q;split at q
      · rename_i h;obtain ⟨a,vs,rfl,ha,r⟩:=pH hx;obtain ⟨b,us,rfl,hb,r2⟩:=pH hy;exact .inr (.inr (.inr (.inr ⟨a,b,vs,us,rfl,rfl,ha,hb,by rw [r.length,r2.length];exact h,fun p hp=>q _ _ (bT hp _) (.inr (cJ hp (r.append r2)))⟩)))
      · exact q.elim
    | _=>exact q.elim
  | _=>exact q.elim
theorem aR (ha:Z.cT X a fa) (hb:Z.cT X b fb):Z.cE X (.BinOp a .Add b pos) (e2 cw fa fb):=⟨have ha:=ha.un;have hb:=hb.un;yr.e (jC yL (Bm.or (zl.or (zn.or (xg.or zm)))) BK ha hb)⟩
end
section
variable {prog:Program} {w:World} {A:Around} {E:Value->Shared->Prop} {s:Shared}
theorem jd {t sl:Addr} {items:Array Value} {vl vu:Value} {lo hi:Option Int} {Q:Value->Shared->Prop} (ht:IsTup s.heap t items) (hs:s.heap.IsSliceOf sl vl vu .none) (pl:IsPart vl lo) (pu:IsPart vu hi)
    (hw:HT.sIx items.size 0 lo=0/\HT.sIx items.size items.size hi=items.size) (h:Q (.ref t) s):wpAny (model prog w) A (getItem (.ref t) (.ref sl)) Q E s:=by
  obtain ⟨os,hos,hcs,hds⟩:=id hs;have hTs:s.TypeIs (.ref sl) "slice" := ⟨os,hos,hcs⟩
  unfold getItem
  try with_reducible refine wpAny_holding ?_
  first | refine wpAny_bind (wpAny_pure ?_) | skip
  refine wpAny_bind (wpAny_sequenceKey ht.typeIs (by decide) ?_);refine wpAny_bind (wpAny_callSpecial?_slot (name:=Str.ofString "__getitem__") ht.typeIs PyProof.Rows.slot_tuple_getitem
    (wpAny_call_entry PyProof.Rows.slot_tuple_getitem ht.typeIs entry_tuple_getitem ?_ (args_tuple_getitem _ _)))
  show wpAny _ _ (Builtin.Tuple.tupleItemsOf (.ref t)>>=_) _ _ s;refine wpAny_bind (tupleItemsOf_ ht ?_);refine wpAny_bind (wpAny_typeOf hTs ?_);rw [if_pos (by decide)];refine wpAny_bind (HT.sliceApplied_gen hs pl pu ?_);have hyes:(((HT.sIx items.size 0 lo:Nat):Int)==0&&(1:Int)==1&&(HT.sIx items.size items.size hi-HT.sIx items.size 0 lo)==items.size)=true:=by
    rw [hw.1,hw.2];simp
  show wpAny _ _ (if (((HT.sIx items.size 0 lo:Nat):Int)==0&&(1:Int)==1&&(HT.sIx items.size items.size hi-HT.sIx items.size 0 lo)==items.size)=true then _ else _) _ _ s;rw [if_pos hyes];refine wpAny_bind (m:=Builtin.Tuple.tupleIsExact _) ?_;unfold Builtin.Tuple.tupleIsExact;refine wpAny_bind (wpAny_typeOf ht.typeIs (wpAny_pure ?_));show wpAny _ _ (if (Value.type "tuple" == Value.type "tuple")=true then _ else _) _ _ s;rw [if_pos (by decide)];refine wpAny_bind (wpAny_rule ?_)
  first
    | exact wpAny_pure ⟨_,rfl,wpAny_pure h⟩
    | exact wpAny_bind (wpAny_pure (wpAny_pure ⟨_,rfl,wpAny_pure h⟩))
theorem sX (n:Nat):Builtin.Slice.slicePlaces ((n:Int)-1) (-1) (-1)=n:=by
  unfold Builtin.Slice.slicePlaces;simp only [show ¬ (-1:Int) > 0 by decide,if_false,Int.neg_neg,Int.ediv_one];split <;> omega
theorem kS {sl:Addr} {n:Nat} {t:Tok} {Q:Int×Int×Nat->Shared->Prop} (hs:s.heap.IsSliceOf sl .none .none (.int (-1) t)) (h:Q ((n:Int)-1,-1,n) s) :
    wpAny (model prog w) A (Builtin.Slice.sliceApplied (.ref sl) (pure (n:Int))) Q E s:=by
  obtain ⟨os,hos,hcs,hds⟩:=id hs;unfold Builtin.Slice.sliceApplied Builtin.Slice.sliceFields;refine wpAny_bind (wpAny_bind (wpAny_field hos hds (x:=.none) rfl (wpAny_bind (wpAny_field hos hds (x:=.none) rfl (wpAny_bind (wpAny_field hos hds (x:=.int (-1) t) rfl (wpAny_pure ?_)))))));refine wpAny_bind (slicePart_int ?_);show wpAny _ _ (if ((-1:Int)==0)=true then _ else _) _ _ s;rw [if_neg (by decide)];refine wpAny_bind (slicePart_none (wpAny_bind (slicePart_none (wpAny_bind (wpAny_pure ?_)))));show wpAny _ _ (match Builtin.Slice.sliceAdjust none none (-1) (n:Int) with | (lo,hi)=>pure (lo,(-1:Int),Builtin.Slice.slicePlaces lo hi (-1))) _ _ s;have e:Builtin.Slice.sliceAdjust none none (-1) (n:Int)=((n:Int)-1,-1):=by
    unfold Builtin.Slice.sliceAdjust;simp
  rw [e];show wpAny _ _ (pure ((n:Int)-1,(-1:Int),Builtin.Slice.slicePlaces ((n:Int)-1) (-1) (-1))) _ _ s;rw [sX];exact wpAny_pure h
theorem xr (xs:Array Value):((List.range xs.size).filterMap fun (m:Nat)=>xs[((xs.size:Int)-1+(m:Int)*(-1)).toNat]?).toArray=xs.toList.reverse.toArray:=by
  congr 1;apply List.ext_getElem?;intro i;have key:∀ k,k<=xs.size->(List.range k).filterMap (fun (m:Nat)=>xs[((xs.size:Int)-1+(m:Int)*(-1)).toNat]?)=(xs.toList.reverse).take k:=by
    intro k;induction k with
    | zero=>intro _;simp
    | succ k ih =>
      intro hk;rw [List.range_succ,List.filterMap_append,ih (by omega),List.take_add_one];congr 1;have e1:((xs.size:Int)-1+(k:Int)*(-1)).toNat=xs.size-1-k:=by omega
      have h1:xs.size-1-k < xs.size:=by omega
      have h2:k < xs.toList.length:=by rw [Array.length_toList];omega
      rw [List.filterMap_cons,e1,Array.getElem?_eq_getElem h1,List.filterMap_nil,List.getElem?_reverse h2,Array.length_toList,Array.getElem?_toList,Array.getElem?_eq_getElem h1];rfl
  rw [key xs.size (Nat.le_refl _),List.take_of_length_le (by simp)]
theorem kl {t sl:Addr} {items:Array Value} {tk:Tok} {Q:Value->Shared->Prop} (ht:IsTup s.heap t items) (hs:s.heap.IsSliceOf sl .none .none (.int (-1) tk))
    (h:Q (.ref s.heap.objs.size) { s with heap:=s.heap.push { cls:=.type "tuple",data:=.seq items.toList.reverse.toArray } }) (hsz:items.size<=sizeLine):wpAny (model prog w) A (getItem (.ref t) (.ref sl)) Q E s:=by
  have hok:sizeOk (.seq items.toList.reverse.toArray):=by
    show items.toList.reverse.toArray.size<=sizeLine;simpa using hsz
  obtain ⟨os,hos,hcs,hds⟩:=id hs;have hTs:s.TypeIs (.ref sl) "slice" := ⟨os,hos,hcs⟩
  unfold getItem
  try with_reducible refine wpAny_holding ?_
  first | refine wpAny_bind (wpAny_pure ?_) | skip
  refine wpAny_bind (wpAny_sequenceKey ht.typeIs (by decide) ?_);refine wpAny_bind (wpAny_callSpecial?_slot (name:=Str.ofString "__getitem__") ht.typeIs PyProof.Rows.slot_tuple_getitem
    (wpAny_call_entry PyProof.Rows.slot_tuple_getitem ht.typeIs entry_tuple_getitem ?_ (args_tuple_getitem _ _)))
  show wpAny _ _ (Builtin.Tuple.tupleItemsOf (.ref t)>>=_) _ _ s;refine wpAny_bind (tupleItemsOf_ ht ?_);refine wpAny_bind (wpAny_typeOf hTs ?_);rw [if_pos (by decide)];refine wpAny_bind (kS hs ?_);show wpAny _ _ (if (((items.size:Int)-1)==0&&(-1:Int)==1&&items.size==items.size)=true then _ else _) _ _ s;rw [if_neg (by simp),xr]
  first
    | exact wpAny_bind (m:=Builtin.Tuple.tupleExact _) (wpAny_newObj_type (wpAny_pure ⟨_,rfl,wpAny_pure h⟩) hok)
    | exact wpAny_bind (m:=Builtin.Tuple.tupleExact _) (wpAny_newObj_type (wpAny_bind (wpAny_pure (wpAny_pure ⟨_,rfl,wpAny_pure h⟩))) hok)
    | exact wpAny_bind (wpAny_bind (m:=Builtin.Tuple.tupleExact _) (wpAny_newObj_type (wpAny_pure (wpAny_pure ⟨_,rfl,wpAny_pure h⟩)) hok))
    | exact wpAny_bind (wpAny_bind (m:=Builtin.Tuple.tupleExact _) (wpAny_newObj_type (wpAny_pure ⟨_,rfl,wpAny_pure h⟩) hok))
end
section
variable {X:Cx} {a b c:Expr} {fa fb fc:Fe} {pos p2:Pos} {nl:Nat} {G:List Str} {x:Str} {p:Pos}
noncomputable def nF (xs:List PyData) (lo hi:Option Int):List PyData:=(xs.drop (HT.sIx xs.length 0 lo)).take (HT.sIx xs.length xs.length hi-HT.sIx xs.length 0 lo)
theorem bF.cut {H:Hp} {ds:List PyData} {vs:List V} (r:bF H ds vs) (lo hi:Option Int):bF H (nF ds lo hi) (qP vs lo hi):=by
  unfold nF qP;rw [r.length];exact (r.drop _).take _
noncomputable def Ee (K:PySem.W.Frag):V->Option Int->Option Int->Hp->VK->Prop:=fun x lo hi H Q=>∃ a xs,x=.ref a/\gm K H a xs/\(HT.sIx xs.length 0 lo=0/\HT.sIx xs.length xs.length hi=xs.length)/\Q (.ref a) H
theorem xR:yy X (Ee X.K):=by
  intro pins s σ H x v vl vu lo hi sl Q I rx hs pl pu h;obtain ⟨a,xs,rfl,hx,hw,q⟩:=h;cases rx;obtain ⟨its,r,ht,hz⟩:=I.tuple hx;have hlen:its.toArray.size=xs.length:=by rw [List.size_toArray];exact r.length.symm
  refine ⟨"tuple",_,PyProof.Rows.slot_tuple_getitem.lookup,ht.typeIs,?_⟩;exact jd ht hs pl pu (by rw [hlen];exact hw) ⟨.ref a,H,I,rfl,q⟩
theorem BI:yy X (fun x lo hi H Q=>∃ xx,x=.str xx/\xx.length<=sizeLine/\Q (.str (Txt.slice xx lo hi)) H):=by
  intro pins s σ H x v vl vu lo hi sl Q I rx hs pl pu h;obtain ⟨xx,rfl,hz,q⟩:=h;obtain ⟨t,rfl⟩:=rx;refine ⟨"str",_,PySem.F.slot_str_getitem.lookup,typeIs_str _ _ _,?_⟩;have fin:∀ t' k,EP X pins σ Q (.str (Txt.slice xx lo hi) t') { s with toks:=k }:=fun t' k=>⟨.str _,H,I.tok k,⟨t',rfl⟩,q⟩
  cases pl with
  | none =>
    cases pu with
    | none=>exact wpAny_getItem_str_slice (l:=none) (u:=none) (st:=none) hs rfl (post_val_or_str ⟨Nat.le_trans (Txt.slice_le xx _ _) hz,fin⟩)
    | int j uj=>exact wpAny_getItem_str_slice (l:=none) (u:=some (j,uj)) (st:=none) hs rfl (post_val_or_str ⟨Nat.le_trans (Txt.slice_le xx _ _) hz,fin⟩)
  | int i ui =>
    cases pu with
    | none=>exact wpAny_getItem_str_slice (l:=some (i,ui)) (u:=none) (st:=none) hs rfl (post_val_or_str ⟨Nat.le_trans (Txt.slice_le xx _ _) hz,fin⟩)
    | int j uj=>exact wpAny_getItem_str_slice (l:=some (i,ui)) (u:=some (j,uj)) (st:=none) hs rfl (post_val_or_str ⟨Nat.le_trans (Txt.slice_le xx _ _) hz,fin⟩)
noncomputable def AV:PyData->Option Int->Option Int->R PyData
  | .str x,lo,hi=>if x.length<=sizeLine then .ok (.str (Txt.slice x lo hi)) else .no
  | .tuple xs,lo,hi=>.ok (.tuple (nF xs lo hi))
  | .list xs,lo,hi=>.ok (.list (nF xs lo hi))
  | _,_,_=>.no
noncomputable abbrev Fo:=aE->R (Option Int)
noncomputable def xa:Fo:=fun _=>.ok none
noncomputable def Dz:PyData->R Int
  | .int i=>.ok i
  | _=>.no
noncomputable def xc (f:Fe):Fo:=fun ρ=>f ρ>>=fun d=>Dz d>>=fun i=>.ok (some i)
noncomputable def xK (X:Cx) (f:Fo):TO:=fun σ H Q=>∃ ρ,Sl H σ ρ/\match f ρ with
  | .ok o=>∀ H',ar H H'->Q o H'
  | .ex c=>Xw X c H
  | .no=>False
noncomputable def B3 (X:Cx) (e:Option Expr) (f:Fo):Prop:=PO X e (xK X f)
structure Z.B3 (X:Cx) (e:Option Expr) (f:Fo):Prop where
  un:D2.B3 X e f
theorem uy  : Z.B3 X none xa:=⟨fun pins s σ H Q I ⟨ρ,sl,q⟩=>zy pins s σ H Q I (q H (ar.refl _))⟩
theorem Dk (Q:Option Int->Hp->Prop):yz X (fun (r:R (Option Int)) H=>match r with | .ok b=>∀ H',ar H H'->Q b H' | .ex c=>Xw X c H | .no=>False) where
  mono:=fun r H H' h s=>by
    cases r with
    | ok d=>exact fun H2 s2=>h H2 (s.trans s2)
    | ex c=>exact Xw.mono h s
    | no=>exact h
  ex:=fun c H h=>h
  no:=fun H h=>h
theorem uz {e:Expr} {f:Fe} (h:Z.cE X e f):Z.B3 X (some e) (xc f):=⟨have h:=h.un;fun pins s σ H Q I q =>
  zA h pins s σ H Q I ((cQ (P:=fU) (f:=f) (k:=fun _ d=>Dz d>>=fun i=>.ok (some i)) (Dk (X:=X) Q) q).post fun v H1 ⟨_,d,_,_,p,q1⟩=>by
    cases d with
    | int i =>
      have e1:v=.int i:=by simpa only [Rp] using p
      exact ⟨i,e1,q1 H1 (ar.refl _)⟩
    | _=>exact q1.elim)⟩
noncomputable def D0 (f:Fe) (lo hi:Fo):Fe:=fun ρ=>f ρ>>=fun d=>lo ρ>>=fun l=>hi ρ>>=fun u=>AV d l u
theorem we {β:Type} {Tg:R β->Hp->Prop} {σ:St} {H:Hp} (t:yz X Tg) {f:Fo} {k:aE->Option Int->R β} (h:∃ ρ,Sl H σ ρ/\Tg (f ρ>>=k ρ) H):xK X f σ H (fun o H1=>∃ ρ,Sl H1 σ ρ/\ar H H1/\Tg (k ρ o) H1):=by
  obtain ⟨ρ,sl,q⟩:=h;refine ⟨ρ,sl,?_⟩;cases e:f ρ with
  | ok d=>rw [e] at q;exact fun H1 s=>⟨ρ,sl.mono s,s,t.mono _ _ _ q s⟩
  | ex c=>rw [e] at q;exact t.ex _ _ q
  | no=>rw [e] at q;exact (t.no _ q).elim
theorem xK.post {f:Fo} {σ:St} {H:Hp} {Q Q':Option Int->Hp->Prop} (h:xK X f σ H Q) (i:∀ b H',Q b H'->Q' b H'):xK X f σ H Q':=by
  obtain ⟨ρ,sl,q⟩:=h;refine ⟨ρ,sl,?_⟩;cases e:f ρ with
  | ok d=>rw [e] at q;exact fun H' s=>i _ _ (q H' s)
  | ex c=>rw [e] at q;exact q
  | no=>rw [e] at q;exact q
theorem sg {lo hi:Option Expr} {fl fh:Fo} (ha:Z.cT X a fa) (hl:Z.B3 X lo fl) (hu:Z.B3 X hi fh):Z.cE X (.Subscript a (.Slice lo hi none p2) pos) (D0 fa fl fh):=⟨have ha:=ha.un;have hl:=hl.un;have hu:=hu.un;by
  refine yr.e (PE.imp (xo (xR.or (BJ.or (zO.or BI))) ha hl hu) fun σ H Q h=>?_);refine (cQ (P:=o7) (f:=fa) (k:=fun ρ d=>fl ρ>>=fun l=>fh ρ>>=fun u=>AV d l u) (dI (X:=X) yL Q) h).post fun v H1 ⟨ρ1,d1,sl1,_,p1,q1⟩=>?_
  refine (we (f:=fl) (k:=fun ρ l=>fh ρ>>=fun u=>AV d1 l u) (dI (X:=X) yL Q) ⟨ρ1,sl1,q1⟩).post fun l H2 ⟨ρ2,sl2,s2,q2⟩=>?_
  refine (we (f:=fh) (k:=fun ρ u=>AV d1 l u) (dI (X:=X) yL Q) ⟨ρ2,sl2,q2⟩).post fun u H3 ⟨ρ3,sl3,s3,q3⟩=>?_
  have p3:fT H3 d1 v:=fT.mono (fT.mono p1 s2) s3;cases d1 with
  | tuple xs =>
    obtain ⟨a',vs,rfl,ha',r⟩:=cb p3;have hlen:=r.length;by_cases hw:HT.sIx vs.length 0 l=0/\HT.sIx vs.length vs.length u=vs.length
    · refine .inl ⟨a',vs,rfl,gm.of ha',hw,q3 _ H3 (ar.refl _) (.inl ?_)⟩;have e:nF xs l u=xs:=by
        unfold nF;rw [<- hlen,hw.1,hw.2];simp [hlen]
      rw [e];simp only [Rp];exact ⟨a',vs,rfl,ha',r⟩
    · exact .inr (.inl ⟨a',vs,rfl,gm.of ha',hw,fun p hp=>q3 _ _ (bT hp _) (.inl (dF hp (r.cut l u)))⟩)
  | list xs =>
    obtain ⟨a',vs,rfl,ha',r⟩:=eF (K:=X.K) p3;exact .inr (.inr (.inl ⟨a',vs,rfl,ha',fun p hp=>q3 _ _ (bT hp _) (.inr (cJ hp (r.cut l u)))⟩))
  | str xx =>
    simp only [AV] at q3;split at q3
    · rename_i hz;exact .inr (.inr (.inr ⟨xx,fW p3,hz,q3 _ H3 (ar.refl _) (.inl (by simp only [Rp]))⟩))
    · exact q3.elim
  | _=>exact q3.elim⟩
noncomputable def yK:PyData->R PyData
  | .tuple xs=>.ok (.tuple xs.reverse)
  | _=>.no
theorem v8 {j:Nat} {q1 q2:Pos} (ha:Z.cT X a fa):Z.cE X (.Subscript a (.Slice none none (some (.UnaryOp .USub (.Constant (.int 1) j q1) q2)) p2) pos) (e1 yK fa):=⟨have ha:=ha.un;by
  intro pins s σ H Q I h;refine Subscript_ (cS (ha pins s σ H _ I (cQ (P:=o7) (f:=fa) (k:=fun _ d=>yK d) (dI (X:=X) dO Q) h)) fun v s1 ⟨x,H1,I1,r1,ρ1,d1,sl1,_,p1,q1'⟩=>?_);refine wpAny_Slice ?_;rw [evalPart_none];refine wpAny_pure (wpAny_pure ?_);rw [evalPart_some];refine UnaryOp_ (wpAny_Constant_int (neg_int ?_));cases d1 with
  | tuple xs =>
    obtain ⟨a',vs,rfl,ha',r⟩:=cb p1;cases r1;have I2:aC X pins σ H1 { s1 with heap:=s1.heap.push { cls:=.type "slice",data:=.fields #[.none,.none,.int (-1) (s1.toks+1)] },toks:=s1.toks+1+1 }:=I1.kept fun b ob q=>Heap.get?_push_of_some _ q
    obtain ⟨its,rv,ht,hz⟩:=I2.tuple (gm.of (K:=X.K) ha');have hlen:its.toArray.size=vs.length:=by rw [List.size_toArray];exact rv.length.symm
    refine tail_any (ops:=[.ref a',.ref s1.heap.objs.size]) ht.typeIs PyProof.Rows.slot_tuple_getitem.lookup ?_ (by with_unfolding_all rfl);refine kl ht ⟨_,Heap.get?_push_size _ rfl,rfl,rfl⟩ ?_ (by rw [hlen];exact hz);refine ⟨.ref _,_,I2.laid (t':=s1.toks+1+1) (o:=.tup vs.reverse) (fun b ob q=>Heap.get?_push_of_some _ q) (Nat.le_refl _) ?_,rfl,q1' _ _ (bT (I2.hok.fresh (Nat.le_refl _)) _) (dF (I2.hok.fresh (Nat.le_refl _)) r.reverse)⟩;exact ⟨by rw [List.length_reverse];exact hz,_,rv.reverse,e7.new _ _⟩
  | _=>exact q1'.elim⟩
end
section
variable {X:Cx} {a b c:Expr} {fa fb fc:Fe} {pos p2:Pos} {nl:Nat} {G:List Str} {x:Str} {p:Pos}
theorem uJ:c9 X (.builtin "len") (fun xs H Q=>∃ a kvs,xs=[V.ref a]/\Rd H a (.dK kvs)/\Q (.int kvs.length) H):=by
  intro pins s σ H xs us Q I r h;obtain ⟨a,kvs,rfl,ha,q⟩:=h;obtain ⟨u,rfl,ru⟩:=gh r;cases ru;exact Cn I ha fun t s' I'=>⟨.int kvs.length,H,I',⟨t,rfl⟩,q⟩
theorem dQ.length {H:Hp}:∀ {kvs:List (PyData×PyData)} {ks:List (cN×V)},dQ H kvs ks->ks.length=kvs.length
  | [],ks,h=>by simp only [dQ] at h;rw [h];rfl
  | kd::kvs,ks,h=>by
    simp only [dQ] at h;obtain ⟨x,v,r,rfl,_,t⟩:=h;rw [List.length_cons,List.length_cons,dQ.length t]
noncomputable def dn:PyData->R PyData
  | .list ds=>.ok (.int ds.length)
  | .tuple ds=>.ok (.int ds.length)
  | .dict kvs=>if gc kvs=true then .no else .ok (.int kvs.length)
  | .str y=>if y.length<=sizeLine then .ok (.int y.length) else .no
  | _=>.no
theorem cg (T:Tb X nl G) (j:Nat) (hG:G[j]?=some ("len" : Str)) (hm:X.mg "len" = none) (ha:Z.cT X a fa) (he:aH a=true:=by rfl):Z.cE X (.Call (.Name "len" p) [a] [] pos) (e1 dn fa):=⟨have ha:=ha.un;by
  refine yC T j hG hm dO PySem.boot_len (pI.or (pJ.or uJ)) (fun H x d Q hx q=>?_) ha he;cases d with
  | list ds =>
    obtain ⟨a',vs,rfl,h,r⟩:=eF (K:=X.K) hx;exact .inl ⟨a',vs,rfl,.inl h,by rw [r.length];exact q _ H (ar.refl _) cY⟩
  | tuple ds =>
    obtain ⟨a',vs,rfl,h,r⟩:=cb hx;exact .inl ⟨a',vs,rfl,.inr (gm.of h),by rw [r.length];exact q _ H (ar.refl _) cY⟩
  | dict kvs =>
    simp only [dn] at q;split at q
    · exact q.elim
    rename_i hi;obtain ⟨a',vs,rfl,h,r⟩:=fL (Bool.not_eq_true _ ▸ hi) hx;exact .inr (.inr ⟨a',vs,rfl,h,by rw [r.length];exact q _ H (ar.refl _) cY⟩)
  | str y =>
    simp only [dn] at q;split at q
    · rename_i hz;exact .inr (.inl ⟨y,by rw [fW hx],hz,q _ H (ar.refl _) cY⟩)
    · exact q.elim
  | _=>exact q.elim⟩
noncomputable def j9:PyData->R PyData
  | .int i=>.ok (.int i)
  | .bool k=>.ok (.int (if k then 1 else 0))
  | _=>.no
theorem nR (T:Tb X nl G) (j:Nat) (hG:G[j]?=some ("int" : Str)) (hm:X.mg "int" = none) (ha:Z.cT X a fa) (he:aH a=true:=by rfl):Z.cE X (.Call (.Name "int" p) [a] [] pos) (e1 j9 fa):=⟨have ha:=ha.un;by
  refine BY T j hG hm dO PyProof.Rows.boot_int nZ (fun H x d Q hx q=>?_) ha he;cases d with
  | int i=>exact .inl ⟨i,by rw [bd hx],q _ H (ar.refl _) cY⟩
  | bool k=>exact .inr ⟨k,by rw [ml hx],q _ H (ar.refl _) cY⟩
  | _=>exact q.elim⟩
noncomputable def EF:PyData->R PyData
  | .int i=>if i.natAbs.log2 < 1920 then .ok (.str (toString i)) else .no
  | _=>.no
noncomputable def AS:PyData->PyData->R PyData
  | .int i,.int j=>.ok (.int (if j < i then j else i))
  | _,_=>.no
noncomputable def AR:PyData->PyData->R PyData
  | .int i,.int j=>.ok (.int (if j > i then j else i))
  | _,_=>.no
theorem v7 (T:Tb X nl G) (j:Nat) (hG:G[j]?=some ("min" : Str)) (hm:X.mg "min" = none) (ha:Z.cT X a fa) (hb:Z.cT X b fb) (he:aH a=true:=by rfl) (he2:aH b=true:=by rfl):Z.cE X (.Call (.Name "min" p) [a,b] [] pos) (e2 AS fa fb):=⟨have ha:=ha.un;have hb:=hb.un;by
  refine Ck T j hG hm dO PyProof.Rows.boot_min (uM T.calm) (fun H x y d e Q hx hy q=>?_) ha hb he he2;cases d with
  | int i =>
    cases e with
    | int j=>exact ⟨i,j,by rw [bd hx,bd hy],q _ H (ar.refl _) cY⟩
    | _=>exact q.elim
  | _=>exact q.elim⟩
theorem v4 (T:Tb X nl G) (j:Nat) (hG:G[j]?=some ("max" : Str)) (hm:X.mg "max" = none) (ha:Z.cT X a fa) (hb:Z.cT X b fb) (he:aH a=true:=by rfl) (he2:aH b=true:=by rfl):Z.cE X (.Call (.Name "max" p) [a,b] [] pos) (e2 AR fa fb):=⟨have ha:=ha.un;have hb:=hb.un;by
  refine Ck T j hG hm dO PyProof.Rows.boot_max (uL T.calm) (fun H x y d e Q hx hy q=>?_) ha hb he he2;cases d with
  | int i =>
    cases e with
    | int j=>exact ⟨i,j,by rw [bd hx,bd hy],q _ H (ar.refl _) cY⟩
    | _=>exact q.elim
  | _=>exact q.elim⟩
noncomputable def cR:PyData->R PyData
  | .list ds=>.ok (.tuple ds)
  | .tuple ds=>.ok (.tuple ds)
  | _=>.no
theorem bQ (T:Tb X nl G) (j:Nat) (hG:G[j]?=some ("tuple" : Str)) (hm:X.mg "tuple" = none) (ha:Z.cT X a fa) (he:aH a=true:=by rfl):Z.cE X (.Call (.Name "tuple" p) [a] [] pos) (e1 cR fa):=⟨have ha:=ha.un;by
  refine BY T j hG hm dO PyProof.Rows.boot_tuple nE (fun H x d Q hx q=>?_) ha he;cases d with
  | list ds =>
    obtain ⟨a',vs,rfl,h,r⟩:=eF (K:=X.K) hx;exact ⟨a',vs,rfl,.inl ⟨h,fun l hl=>q _ _ (bT hl _) (dF hl r)⟩⟩
  | tuple ds =>
    obtain ⟨a',vs,rfl,h,r⟩:=cb hx;exact ⟨a',vs,rfl,.inr ⟨gm.of h,q _ H (ar.refl _) (by simp only [Rp];exact ⟨a',vs,rfl,h,r⟩)⟩⟩
  | _=>exact q.elim⟩
noncomputable def wq:PyData->R PyData
  | .list ds=>.ok (.list ds)
  | .tuple ds=>.ok (.list ds)
  | _=>.no
theorem sh (T:Tb X nl G) (j:Nat) (hG:G[j]?=some ("list" : Str)) (hm:X.mg "list" = none) (ha:Z.cT X a fa) (he:aH a=true:=by rfl):Z.ky X (.Call (.Name "list" p) [a] [] pos) (e1 wq fa):=⟨have ha:=ha.un;by
  refine BY T j hG hm wy PyProof.Rows.boot_list pK (fun H x d Q hx q=>?_) ha he;cases d with
  | list ds =>
    obtain ⟨a',vs,rfl,h,r⟩:=eF (K:=X.K) hx;exact ⟨a',vs,rfl,.inl h,fun l hl=>q _ _ (bT hl _) (cJ hl r)⟩
  | tuple ds =>
    obtain ⟨a',vs,rfl,h,r⟩:=cb hx;exact ⟨a',vs,rfl,.inr (gm.of h),fun l hl=>q _ _ (bT hl _) (cJ hl r)⟩
  | _=>exact q.elim⟩
inductive Ty where
  | int | bool | str | list | tuple
noncomputable def Ty.nm:Ty->String
  | .int => "int"
  | .bool => "bool"
  | .str => "str"
  | .list => "list"
  | .tuple => "tuple"
noncomputable def lQ:Ty->PyData->Bool
  | .int,.int _=>true
  | .int,.bool _=>true
  | .bool,.bool _=>true
  | .str,.str _=>true
  | .list,.list _=>true
  | .tuple,.tuple _=>true
  | _,_=>false
noncomputable def cL (T:Ty):PyData->R PyData
  | .dict _=>.no
  | d=>.ok (.bool (lQ T d))
theorem wj:c9 X (.builtin "isinstance") (fun xs H Q=>∃ x t T k,xs=[x,.ty T]/\jU X.K H x t/\PySem.W.kitOne X.K t (.type T)=some k/\Q (.bl k) H):=by
  intro pins s σ H xs us Q I r h;obtain ⟨x,t,T,k,rfl,ty,e,q⟩:=h;obtain ⟨u,w',rfl,rx,ry⟩:=oS r;cases ry;exact u8 I rx ty e fun tk=>⟨.bl k,H,I.tok tk,rfl,q⟩
theorem Do {K:PySem.W.Frag} {H:Hp} {d:PyData} {v:V} (h:fT H d v):(∃ kvs,d=.dict kvs)\/∃ t,jU K H v t/\∀ T:Ty,PySem.W.kitOne K t (.type T.nm)=some (lQ T d):=by
  cases d with
  | none=>rw [wf h];exact .inr ⟨_,.non,fun T=>by cases T <;> rfl⟩
  | bool k=>rw [ml h];exact .inr ⟨_,.bl k,fun T=>by cases T <;> rfl⟩
  | int i=>rw [bd h];exact .inr ⟨_,.int i,fun T=>by cases T <;> rfl⟩
  | str y=>rw [fW h];exact .inr ⟨_,.str y,fun T=>by cases T <;> rfl⟩
  | tuple ds=>obtain ⟨a,vs,rfl,ha,_⟩:=cb h;exact .inr ⟨_,.tup ha,fun T=>by cases T <;> rfl⟩
  | list ds =>
    obtain ⟨a,vs,rfl,ha,_⟩:=pH h;rcases ha with ha | ⟨o,ha⟩
    · exact .inr ⟨_,.lst ha,fun T=>by cases T <;> rfl⟩
    · exact .inr ⟨_,.frz ha,fun T=>by cases T <;> rfl⟩
  | dict kvs=>exact .inl ⟨kvs,rfl⟩
theorem sE (ty:Ty) {y:Str} {py:Pos} (T:Tb X nl G) (j:Nat) (hG:G[j]?=some ("isinstance" : Str)) (hm:X.mg "isinstance" = none) (hy:bootBuiltins y=some (.type ty.nm)) (T':Tb X nl G) (j':Nat) (hG':G[j']?=some y) (hm':X.mg y=none) (ha:cT X a fa)
    (he:aH a=true:=by rfl):cE X (.Call (.Name "isinstance" p) [a,.Name y py] [] pos) (e1 (cL ty) fa):=by
  have g:=T.gl _ (List.mem_of_getElem? hG);have g':=T.gl _ (List.mem_of_getElem? hG');have hp:PE X (.Name y py) (tC (.ty ty.nm)):=zt g'.1 hm' hy rfl g'.2.2 g'.2.1;refine PE.imp (iK wj g.1 hm PyProof.Rows.boot_isinstance (fF ha (fF hp mW) (aS he)) g.2.2 g.2.1 (aS he)) fun σ H Q h=>?_
  refine (cQ (P:=o7) (f:=fa) (k:=fun _ d=>cL ty d) (dI (X:=X) dO Q) h).post fun v H1 ⟨_,d,_,_,p1,q1⟩=>?_
  show ∃ x t T k,_/\_/\_/\_;rcases Do (K:=X.K) p1 with ⟨kvs,rfl⟩ | ⟨t,ht,hk⟩
  · exact q1.elim
  · refine ⟨v,t,ty.nm,lQ ty d,rfl,ht,hk ty,?_⟩;cases d with
    | dict kvs=>exact q1.elim
    | _=>exact q1 _ H1 (ar.refl _) eK
theorem gW {py:Pos} (T:Tb X nl G) (j:Nat) (hG:G[j]?=some ("isinstance" : Str)) (hm:X.mg "isinstance" = none) (T':Tb X nl G) (j':Nat) (hG':G[j']?=some ("int" : Str)) (hm':X.mg "int" = none) (ha:Z.cT X a fa) (he:aH a=true:=by rfl):Z.cE X (.Call (.Name "isinstance" p) [a,.Name "int" py] [] pos) (e1 (cL .int) fa):=⟨have ha:=ha.un;sE .int T j hG hm PyProof.Rows.boot_int T' j' hG' hm' ha he⟩
theorem eT {py:Pos} (T:Tb X nl G) (j:Nat) (hG:G[j]?=some ("isinstance" : Str)) (hm:X.mg "isinstance" = none) (T':Tb X nl G) (j':Nat) (hG':G[j']?=some ("bool" : Str)) (hm':X.mg "bool" = none) (ha:Z.cT X a fa) (he:aH a=true:=by rfl):Z.cE X (.Call (.Name "isinstance" p) [a,.Name "bool" py] [] pos) (e1 (cL .bool) fa):=⟨have ha:=ha.un;sE .bool T j hG hm PyProof.Rows.boot_bool T' j' hG' hm' ha he⟩
theorem dz {py:Pos} (T:Tb X nl G) (j:Nat) (hG:G[j]?=some ("isinstance" : Str)) (hm:X.mg "isinstance" = none) (T':Tb X nl G) (j':Nat) (hG':G[j']?=some ("tuple" : Str)) (hm':X.mg "tuple" = none) (ha:Z.cT X a fa) (he:aH a=true:=by rfl):Z.cE X (.Call (.Name "isinstance" p) [a,.Name "tuple" py] [] pos) (e1 (cL .tuple) fa):=⟨have ha:=ha.un;sE .tuple T j hG hm PyProof.Rows.boot_tuple T' j' hG' hm' ha he⟩
noncomputable def qF:List PyData->Option Bool
  | []=>some true
  | .bool k::ds=>(qF ds).map fun r=>k&&r
  | _=>none
noncomputable def yH:PyData->R PyData
  | .list ds=>match qF ds with
    | some k=>.ok (.bool k)
    | none=>.no
  | _=>.no
end
section
variable {X:Cx} {tg a b c:Expr} {fa fb fc:Fe} {pos p2:Pos} {nl:Nat} {G:List Str} {x:Str} {p:Pos} {fs:aE->R (List PyData)} {es:List Expr}
noncomputable def jQ:PyData->R (List PyData)
  | .list ds=>.ok ds
  | .tuple ds=>.ok ds
  | _=>.no
noncomputable def eM (f:Fe):aE->R (List PyData):=fun ρ=>f ρ>>=jQ
theorem wL {K:PySem.W.Frag} {a:Addr} {ds:List PyData}:Aa (DO K a) (fun H=>∃ o vs,H a=some (.frz o (.lst vs))/\bF H ds vs) ds where
  go:=fun i H ⟨o,vs,h,r⟩ hi=>by
    have hl:=r.length;exact ⟨vs,vs[i],.inl (.inr ⟨o,h⟩),List.getElem?_eq_getElem (by omega)⟩
  yld:=fun i H x H' d ⟨o,vs,h,r⟩ hd ⟨e,y⟩=>by
    subst e;obtain ⟨v,e1,p⟩:=r.get hd;have:=y vs (.inl (.inr ⟨o,h⟩));rw [e1] at this;cases this;exact ⟨ar.refl _,p⟩
  stop:=fun i H ⟨o,vs,h,r⟩ hi=>⟨vs,.inl (.inr ⟨o,h⟩),by rw [r.length];exact hi⟩
theorem zc {K:PySem.W.Frag} {a:Addr} {ds:List PyData}:Aa (DP K a) (fun H=>∃ vs,H a=some (.tup vs)/\bF H ds vs) ds where
  go:=fun i H ⟨vs,h,r⟩ hi=>by
    have hl:=r.length;exact ⟨vs,vs[i],gm.of h,List.getElem?_eq_getElem (by omega)⟩
  yld:=fun i H x H' d ⟨vs,h,r⟩ hd ⟨e,y⟩=>by
    subst e;obtain ⟨v,e1,p⟩:=r.get hd;have:=y vs (gm.of h);rw [e1] at this;cases this;exact ⟨ar.refl _,p⟩
  stop:=fun i H ⟨vs,h,r⟩ hi=>⟨vs,gm.of h,by rw [r.length];exact hi⟩
noncomputable def EG (K:PySem.W.Frag) (tl:TE):TI:=fun σ H R=>tl σ H fun x H1=>∃ a,x=.ref a/\((∃ xs,lD K H1 a xs/\R (DO K a) H1)\/∃ xs,gm K H1 a xs/\R (DP K a) H1)
theorem CI {l:Expr} {tl:TE} (hl:PE X l tl):PI X tg l (EG X.K tl):=by
  intro pins s σ H R I h;refine cS (hl pins s σ H _ I h) fun v s1 ⟨x,H1,I1,r1,q1⟩=>?_
  obtain ⟨a,e,q⟩:=q1;subst e;cases r1;rcases q with ⟨xs,hq,q⟩ | ⟨xs,hq,q⟩
  · obtain ⟨its,rv,p,hz⟩:=I1.list hq;refine wpAny_pyIter_list p.isList ?_;refine ⟨s1.heap.objs.size,[s1.heap.objs.size],_,_,H1,rfl,I1.kept (t':=s1.toks) fun b o e=>Heap.get?_push_of_some _ e,vI a _,⟨_,Heap.get?_push_size _ rfl,rfl,rfl⟩,fun b hb=>?_,q⟩;have e:b=s1.heap.objs.size:=by simpa using hb
    subst e;exact I1.fpOk (Nat.le_refl _) (I1.hok.fresh (Nat.le_refl _))
  · obtain ⟨its,rv,p,hz⟩:=I1.tuple hq;refine wpAny_pyIter_tuple (show s1.heap.IsTuple a its.toArray from p) ?_;refine ⟨s1.heap.objs.size,[s1.heap.objs.size],_,_,H1,rfl,I1.kept (t':=s1.toks) fun b o e=>Heap.get?_push_of_some _ e,tH a _,⟨_,Heap.get?_push_size _ rfl,rfl,rfl⟩,fun b hb=>?_,q⟩;have e:b=s1.heap.objs.size:=by simpa using hb
    subst e;exact I1.fpOk (Nat.le_refl _) (I1.hok.fresh (Nat.le_refl _))
theorem Dj (Rk:It->Hp->Prop):yz X (fun (r:R (List PyData)) H=>match r with | .ok ds=>∀ J H',ar H H'->(∃ Gd,Aa J Gd ds/\Dx H' (fun _=>False) Gd)->Rk J H' | .ex c=>Xw X c H | .no=>False) where
  mono:=fun r H H' h s=>by
    cases r with
    | ok d=>exact fun J H2 s2=>h J H2 (s.trans s2)
    | ex c=>exact Xw.mono h s
    | no=>exact h
  ex:=fun c H h=>h
  no:=fun H h=>h
theorem bz (ha:Z.cE X a fa):Z.qb X tg a (eM fa):=⟨have ha:=ha.un;PI.imp (CI ha) fun σ H Rk h=>(cQ (P:=fU) (f:=fa) (k:=fun _=>jQ) (Dj (X:=X) Rk) h).post fun v H1 ⟨_,d,_,_,p1,q1⟩=>by
    cases d with
    | list ds =>
      simp only [Rp] at p1;obtain ⟨a',o,vs,rfl,h,r⟩:=p1;exact ⟨a',rfl,.inl ⟨vs,.inl (.inr ⟨o,h⟩),q1 _ H1 (ar.refl _) ⟨_,wL,fun H2 k _=>⟨o,vs,k.2 _ _ _ h,bF.kp k _ _ r⟩⟩⟩⟩
    | tuple ds =>
      simp only [Rp] at p1;obtain ⟨a',vs,rfl,h,r⟩:=p1;exact ⟨a',rfl,.inr ⟨vs,gm.of h,q1 _ H1 (ar.refl _) ⟨_,zc,fun H2 k _=>⟨vs,k.1 _ _ h,bF.kp k _ _ r⟩⟩⟩⟩
    | _=>exact q1.elim⟩
noncomputable def ce (lo:Int) (n:Nat):List PyData:=(List.range n).map fun (k:Nat)=>.int (lo+k)
noncomputable def p0:List PyData->R (List PyData)
  | [.int j]=>if -(2 ^ 62)<=j/\j < 2 ^ 62 then .ok (ce 0 j.toNat) else .no
  | [.int i,.int j]=>if -(2 ^ 62)<=i/\i < 2 ^ 62/\-(2 ^ 62)<=j/\j < 2 ^ 62 then .ok (ce i (j-i).toNat) else .no
  | _=>.no
noncomputable def iH (fs:aE->R (List PyData)):aE->R (List PyData):=fun ρ=>fs ρ>>=p0
theorem va {lo:Int} {n:Nat}:Aa (Du lo n) (fun _=>True) (ce lo n) where
  go:=fun i H _ hi=>by
    show i < n;simpa [ce] using hi
  yld:=fun i H x H' d _ hd ⟨e,y⟩=>by
    subst e;subst y;refine ⟨ar.refl _,?_⟩;unfold ce at hd;rw [List.getElem?_map] at hd;cases h:(List.range n)[i]? with
    | none=>rw [h] at hd;cases hd
    | some k =>
      rw [h] at hd;have hk:k=i:=by
        rw [List.getElem?_range] at h
        · exact (Option.some.inj h).symm
        · have:=(List.getElem?_eq_some_iff.mp h).1;simpa using this
      subst hk;cases hd;exact cY
  stop:=fun i H _ hi=>by
    show n<=i;simpa [ce] using hi
theorem fV (T:Tb X nl G) (j:Nat) (hG:G[j]?=some ("range" : Str)) (hm:X.mg "range" = none) (ha:Z.rW X [a] fs) (hl:∀ ρ ds,fs ρ=.ok ds->ds.length=1) (hs:aH a=true:=by rfl):Z.qb X tg (.Call (.Name "range" p) [a] [] pos) (iH fs):=⟨have ha:=ha.un;PI.imp (vt (T.gl _ (List.mem_of_getElem? hG)).1 hm ha (aS hs)) fun σ H Rk ⟨ρ,sl,q⟩=>by
    refine ⟨ρ,sl,?_⟩;dsimp only [iH] at q;cases e:fs ρ with
    | ex c=>rw [e] at q;exact q
    | no=>rw [e] at q;exact q
    | ok ds =>
      rw [e] at q;have hlen:=hl ρ ds e;intro vs H1 s1 r1
      match ds,hlen with
      | [d],_ =>
        simp only [RA] at r1;obtain ⟨v,r',rfl,p1,rfl⟩:=r1;cases d with
        | int j =>
          have ev:v=.int j:=by simpa only [Rp] using p1
          subst ev;by_cases hz:-(2 ^ 62)<=j/\j < 2 ^ 62
          · have e2:p0 [.int j]=.ok (ce 0 j.toNat):=if_pos hz;rw [R.ok_bind,e2] at q;exact ⟨j,rfl,hz.1,hz.2,q _ H1 s1 ⟨_,va,fun _ _ _=>True.intro⟩⟩
          · have e2:p0 [.int j]=.no:=if_neg hz;rw [R.ok_bind,e2] at q;exact q.elim
        | _=>exact q.elim⟩
end
noncomputable def sJ (x:Int):List Int->List Int
  | []=>[x]
  | y::r=>if x<=y then x::y::r else y::sJ x r
noncomputable def dh:List Int->List Int
  | []=>[]
  | x::r=>sJ x (dh r)
theorem kJ (x:Int):∀ l,(sJ x l).Perm (x::l)
  | []=>List.Perm.refl _
  | y::r=>by
    unfold sJ;split
    · exact List.Perm.refl _
    · exact ((kJ x r).cons y).trans (List.Perm.swap x y r)
theorem dH:∀ l,(dh l).Perm l
  | []=>List.Perm.refl _
  | x::r=>(kJ x (dh r)).trans ((dH r).cons x)
theorem k8 (x:Int):∀ l,l.Pairwise (·<=·)->(sJ x l).Pairwise (·<=·)
  | [],_=>by unfold sJ;exact List.pairwise_singleton _ _
  | y::r,h=>by
    have h':=List.pairwise_cons.mp h;unfold sJ;split
    · rename_i hxy;refine List.pairwise_cons.mpr ⟨fun z hz=>?_,h⟩;rcases List.mem_cons.mp hz with rfl | hz
      · exact hxy
      · exact Int.le_trans hxy (h'.1 z hz)
    · rename_i hxy;refine List.pairwise_cons.mpr ⟨fun z hz=>?_,k8 x r h'.2⟩;rcases List.mem_cons.mp ((kJ x r).mem_iff.mp hz) with rfl | hz
      · omega
      · exact h'.1 z hz
theorem fJ:∀ l,(dh l).Pairwise (·<=·)
  | []=>List.Pairwise.nil
  | x::r=>k8 x _ (fJ r)
theorem iP {a b:List Int} (hp:a.Perm b) (hs:a.Pairwise (·<=·)):a=dh b:=PySem.W.ksm_same (hp.trans (dH b).symm) hs (fJ b)
section
variable {prog:Program} {w:World} {A:Around} {E:Value->Shared->Prop} {s:Shared}
theorem rF {d:Addr} {kvs:List (cN×Value)} {ns:List Int} {Q:Value->Shared->Prop} (hh:A.handled=none) (lo:(d==sysModules)=false) (hd:s.heap.DictOf (cq prog w) d kvs) (hk:kvs.map (·.1)=ns.map Sum.inl) (h64:ns.length < 64)
    (h:∀ (D:Addr) (h':Heap) (tk:Nat) (vs:List Value) (e:Nat),s.heap.get? D=none->(∀ b o,s.heap.get? b=some o->h'.get? b=some o)->h'.get? D=some (seqObj "list" vs.toArray e)->IntsAre vs (dh ns)->Q (.ref D) { s with heap:=h',toks:=tk }) :
    wpAny (model prog w) A (call (.builtin "sorted") [.ref d]) Q E s:=by
  obtain ⟨ep,hat⟩:=hd.dictAt;have hlen:kvs.length=ns.length:=by have:=congrArg List.length hk;simpa using this
  have hn:kvs.length<=sizeLine:=by rw [sizeLine_eq];omega
  refine Calls.call_function_entry kind_sorted plain_sorted entry_sorted (args_sorted1 _) ?_;unfold Builtin.«sorted»;refine wpAny_bind (m:=checkCount "sorted" 1 1 _) (wpAny_pure ?_);refine wpAny_bind (PySem.W.kdu_collect (A:=A.in1) (PySem.W.kdl_dict (knd:=cq prog w) (kvs:=kvs) (ep:=ep) lo) hh hat hn fun h1 tk acc hk1 hacc=>?_);have hl:acc.toList.length=kvs.length:=by rw [Array.length_toList];exact hacc.1
  have hI:IntsAre acc.toList ns:=by
    have key:∀ (l:List Value) (ms:List Int) (k:Nat),l.length=ms.length->(∀ (j:Nat) (v:Value),l[j]?=some v->∃ n:Int,ms[j]?=some n/\∃ t,v=Value.int n t)->IntsAre l ms:=by
      intro l;induction l with
      | nil=>intro ms k e _;have:ms=[]:=List.length_eq_zero_iff.mp e.symm;subst this;exact .nil
      | cons v r ih =>
        intro ms k e hv;cases ms with
        | nil=>cases e
        | cons n ms =>
          obtain ⟨n',e1,t,rfl⟩:=hv 0 v rfl;have:n=n':=Option.some.inj e1;subst this;exact .cons n t (ih ms (k+1) (by simpa using e) fun j u hu=>hv (j+1) u (by simpa using hu))
    refine key acc.toList ns 0 (by rw [hl,hlen]) fun j v hv=>?_
    obtain ⟨κ,x,hx,his⟩:=hacc.2 j v (by rw [<- Array.getElem?_toList];exact hv);have e1:(kvs.map (·.1))[j]?=some κ:=by rw [List.getElem?_map,hx];rfl
    rw [hk,List.getElem?_map] at e1;cases e2:ns[j]? with
    | none=>rw [e2] at e1;cases e1
    | some n =>
      rw [e2] at e1;have e3:Sum.inl n=κ:=Option.some.inj e1;subst e3;rcases cu (show mM (Sum.inl n) v=true from his) with ⟨i,t,e4,e5⟩ | ⟨y,t,e4,_⟩
      · cases e4;exact ⟨n,rfl,t,e5⟩
      · cases e4
  refine wpAny_bind (wpAny_newList ?_ (by rw [hl];exact hn));have hoL:(h1.push (seqObj "list" acc.toList.toArray 0)).get? h1.objs.size=some (seqObj "list" acc.toList.toArray 0):=Heap.get?_push_size _ rfl;show wpAny _ _ _ _ _ { s with heap:=h1.push (seqObj "list" acc.toList.toArray 0),toks:=tk };refine wpAny_bind (wpAny_holding (wpAny_call_entry slot_list_sort ⟨_,hoL,rfl⟩ entry_list_sort (list_sort_tree hoL hI (by rw [hl,hlen];exact h64) fun out ns' a1 a2 a3=>⟨_,rfl,?_⟩) (args_list_sort _)));refine wpAny_pure ⟨_,rfl,?_⟩;obtain ⟨e,he⟩:=sortedHeap_at (out:=out) hoL;have hsz:s.heap.get? h1.objs.size=none:=by
    cases q:s.heap.get? h1.objs.size with
    | none=>rfl
    | some o=>exact absurd (Heap.lt_size (hk1 _ _ q)) (Nat.lt_irrefl _)
  refine h h1.objs.size _ tk out.toList e hsz (fun b o q=>?_) he (by rw [iP a2 a3] at a1;exact a1);have q1:=hk1 b o q;have hlt:b < h1.objs.size:=Heap.lt_size q1;show (sortedHeap (h1.push (seqObj "list" acc.toList.toArray 0)) h1.objs.size acc.toList out).get? b=some o;rw [sortedHeap_old (Nat.ne_of_lt hlt) (by rw [size_push'];exact Nat.lt_succ_of_lt hlt)];exact Heap.get?_push_of_some _ q1
end
theorem zX {fs ex:List Addr} {H:Hp} {h h':Heap} {a:Addr} {o:HO} (k:∀ b u,h.get? b=some u->h'.get? b=some u) (hg:h.get? a=none) (hn:H a=none):Un fs ex H (du H a o) h h':=by
  have ne:∀ {b:Addr} {u:Obj},h.get? b=some u->b≠a:=fun e z=>by subst z;rw [hg] at e;cases e
  exact ⟨fun b u q _ _ _=>k b u q,fun b u q _ _ _=>⟨u.slots,k b u q⟩,fun b u q n _=>by rw [aJ (ne q)];exact n,fun b u q _=>⟨u,k b u q⟩,fun b xs q=>by rw [aJ (bh q hn)];exact q,fun b u xs q=>by rw [aJ (bh q hn)];exact q,
    fun b ps q=>⟨#[],by rw [aJ (bh q hn),q];simp⟩⟩
theorem qW {X:Cx} {pins:List (Addr×Obj)} {σ:St} {H:Hp} {s:Shared} {h':Heap} {a:Addr} {o:HO} {t':Nat} (I:aC X pins σ H s) (k:∀ b u,s.heap.get? b=some u->h'.get? b=some u) (hg:s.heap.get? a=none) (hn:H a=none)
    (new:bV X.prog X.w (du H a o) h' a o):aC X pins σ (du H a o) { s with heap:=h',toks:=t' }:=by
  refine I.un (zX k hg hn) fun b u e=>?_
  by_cases hb:b=a
  · subst hb;rw [cj] at e;cases e;exact new
  · rw [aJ hb] at e;exact (I.hok b u e).stay (fun c v _ q=>k c v q) (fun c q=>by rw [aJ (bh q hn)];exact q) fun c xs q=>by rw [aJ (bh q hn)];exact q
theorem qX {X:Cx} {pins:List (Addr×Obj)} {σ:St} {H:Hp} {s:Shared} {a:Addr} (I:aC X pins σ H s) (hg:s.heap.get? a=none):H a=none:=by
  cases q:H a with
  | none=>rfl
  | some o=>obtain ⟨u,e⟩:=sS (I.hok a o q);rw [hg] at e;cases e
section
variable {X:Cx} {a b c:Expr} {fa fb fc:Fe} {pos p2:Pos} {nl:Nat} {G:List Str} {x:Str} {p:Pos}
noncomputable def bS:List PyData->Option (List Int)
  | []=>some []
  | .int i::ds=>(bS ds).map fun r=>i::r
  | _=>none
theorem eu:∀ {ds:List PyData} {ns:List Int},bS ds=some ns->ds=ns.map PyData.int
  | [],ns,h=>by cases h;rfl
  | d::ds,ns,h=>by
    cases d with
    | int i =>
      simp only [bS] at h;cases e:bS ds with
      | none=>rw [e] at h;cases h
      | some r =>
        rw [e] at h;cases h;rw [List.map_cons,eu e]
    | _=>cases h
theorem bK:∀ ns:List Int,bS (ns.map PyData.int)=some ns
  | []=>rfl
  | n::ns=>by simp only [List.map_cons,bS,bK ns,Option.map_some]
noncomputable def gZ:PyData->R PyData
  | .list ds=>match bS ds with
    | some ns=>if ns.length < 64 then .ok (.list ((dh ns).map PyData.int)) else .no
    | none=>.no
  | .dict kvs=>match bS (kvs.map (·.1)) with
    | some ns=>if ns.length < 64 then .ok (.list ((dh ns).map PyData.int)) else .no
    | none=>.no
  | _=>.no
noncomputable def BD (K:PySem.W.Frag):List V->Hp->VK->Prop:=fun xs H Q=>∃ p ns,xs=[.ref p]/\lD K H p (ns.map V.int)/\ns.length < 64/\∀ l,H l=none->Q (.ref l) (du H l (.lst ((dh ns).map V.int)))
noncomputable def BC:List V->Hp->VK->Prop:=fun xs H Q=>∃ p ks ns,xs=[.ref p]/\Rd H p (.dK ks)/\ks.map (·.1)=ns.map Sum.inl/\ns.length < 64/\∀ l,H l=none->Q (.ref l) (du H l (.lst ((dh ns).map V.int)))
theorem i9 (ns:List Int):(dh ns).length=ns.length:=(dH ns).length_eq
theorem sw:c9 X (.builtin "sorted") (BD X.K):=by
  intro pins s σ H xs us Q I r h;obtain ⟨p,ns,rfl,hq,h64,q⟩:=h;obtain ⟨u,rfl,rx⟩:=gh r;cases rx;obtain ⟨its,rv,pl,hz⟩:=I.list hq;have hI:IntsAre its ns:=eO rv;have hl:=IntsAre.length hI;refine sorted_ints pl.isList hI (by omega) fun out ns' a1 a2 a3=>?_
  rw [iP a2 a3] at a1;obtain ⟨e,he⟩:=sortedAll_at s.heap its out;refine ⟨.ref (s.heap.objs.size+1),_,I.laid (t':=s.toks) (o:=.lst ((dh ns).map V.int)) (fun b o e=>sortedAll_old e) (Nat.le_succ _) ⟨?_,out.toList,e,gG a1,by simpa [seqObj] using he⟩,rfl,q _ (I.hok.fresh (Nat.le_succ _))⟩;rw [List.length_map,i9,sizeLine_eq];omega
theorem sv (hc:X.calm=true):c9 X (.builtin "sorted") BC:=by
  intro pins s σ H xs us Q I r h;obtain ⟨p,ks,ns,rfl,hq,hk,h64,q⟩:=h;obtain ⟨u,rfl,rx⟩:=gh r;cases rx;obtain ⟨hz,hlo,vs,kv,hd⟩:=kf I.hok hq;refine rF (I.ok.hd hc) hlo hd (by rw [<- kv.keys];exact hk) h64 fun D h' tk vs' e hg kp hD hI=>?_
  have hn:=qX I hg;refine ⟨.ref D,_,qW (t':=tk) (o:=.lst ((dh ns).map V.int)) I kp hg hn ⟨?_,vs',e,gG hI,by simpa [seqObj] using hD⟩,rfl,q _ hn⟩;rw [List.length_map,i9,sizeLine_eq];omega
theorem gC:∀ {H:Hp} {ns:List Int} {vs:List V},bF H (ns.map PyData.int) vs->vs=ns.map V.int
  | H,[],vs,r=>by rw [List.map_nil] at r;rw [r.nil_inv];rfl
  | H,n::ns,vs,r=>by
    rw [List.map_cons] at r;obtain ⟨v,r',rfl,p,t⟩:=r.cons_inv;have:v=.int n:=by simpa only [Rp] using p
    rw [this,gC t];rfl
theorem rA:∀ {H:Hp} {kvs:List (PyData×PyData)} {ks:List (cN×V)},dQ H kvs ks->kvs.map (·.1)=ks.map fun k=>fx k.1
  | H,[],ks,r=>by simp only [dQ] at r;rw [r];rfl
  | H,(k,d)::kvs,ks,r=>by
    simp only [dQ,yw] at r;obtain ⟨x,v,r',rfl,⟨e,_⟩,t⟩:=r;rw [List.map_cons,List.map_cons,rA t,e]
theorem oy:∀ {ks:List (cN×V)} {ns:List Int},(ks.map fun k=>fx k.1)=ns.map PyData.int->ks.map (·.1)=ns.map Sum.inl
  | [],[],_=>rfl
  | [],_::_,h=>by cases h
  | _::_,[],h=>by cases h
  | (k,v)::ks,n::ns,h=>by
    rw [List.map_cons,List.map_cons] at h;injection h with h1 h2
    rw [List.map_cons,List.map_cons,oy h2];cases k with
    | inl i=>simp only [fx] at h1;cases h1;rfl
    | inr y=>simp only [fx] at h1;cases h1
theorem jW (T:Tb X nl G) (j:Nat) (hG:G[j]?=some ("sorted" : Str)) (hm:X.mg "sorted" = none) (ha:Z.cT X a fa) (he:aH a=true:=by rfl):Z.ky X (.Call (.Name "sorted" p) [a] [] pos) (e1 gZ fa):=⟨have ha:=ha.un;by
  refine yC T j hG hm wy PyProof.Rows.boot_sorted (sw.or (sv T.calm)) (fun H x d Q hx q=>?_) ha he;cases d with
  | list ds =>
    simp only [gZ] at q;cases ei:bS ds with
    | none=>rw [ei] at q;exact q.elim
    | some ns =>
      rw [ei] at q;dsimp only at q;by_cases h64:ns.length < 64
      · rw [if_pos h64] at q;obtain ⟨a',vs,rfl,h,r⟩:=eF (K:=X.K) hx;rw [eu ei] at r;rw [gC r] at h;exact .inl ⟨a',ns,rfl,h,h64,fun l hl=>q _ _ (bT hl _) (cJ hl (bF.ints _))⟩
      · rw [if_neg h64] at q;exact q.elim
  | dict kvs =>
    simp only [gZ] at q;cases ei:bS (kvs.map (·.1)) with
    | none=>rw [ei] at q;exact q.elim
    | some ns =>
      rw [ei] at q;dsimp only at q;by_cases h64:ns.length < 64
      · rw [if_pos h64] at q;have hi:gc kvs=false:=by
          cases kvs with
          | nil=>rfl
          | cons kd kvs =>
            obtain ⟨k,d⟩:=kd;cases k <;> first | rfl | (simp [bS] at ei)
        obtain ⟨a',ks,rfl,h,r⟩:=fL hi hx;have hk:=oy ((rA r).symm.trans (eu ei));exact .inr ⟨a',ks,ns,rfl,h,hk,h64,fun l hl=>q _ _ (bT hl _) (cJ hl (bF.ints _))⟩
      · rw [if_neg h64] at q;exact q.elim
  | _=>exact q.elim⟩
theorem uH (hc:X.calm=true):c9 X (.builtin "all") (fun xs H Q=>∃ (p:Addr) (bs:List Bool),xs=[.ref p]/\lD X.K H p (bs.map V.bl)/\Q (.bl (bs.all id)) H):=by
  intro pins s σ H xs us Q I r h;obtain ⟨p,bs,rfl,hq,q⟩:=h;obtain ⟨u,rfl,rx⟩:=gh r;cases rx;obtain ⟨its,rv,pl,hz⟩:=I.list hq;have hh:X.A.in1.handled=none:=I.ok.hd hc;have hlt:p≠s.heap.objs.size:=by obtain ⟨o,e,_⟩:=pl.isList;exact Nat.ne_of_lt (Heap.lt_size e)
  have hits:its=bs.map Value.bool:=by
    have key:∀ (bs:List Bool) (us:List Value),bn (bs.map V.bl) us->us=bs.map Value.bool:=by
      intro bs;induction bs with
      | nil=>intro us r;cases r;rfl
      | cons k bs ih=>intro us r;rw [List.map_cons] at r;cases r with | cons r1 r2=>rw [ih _ r2];cases r1;rfl
    exact key bs its rv
  refine call_all_walk (wpAny_pyIter_list pl.isList ?_);refine ⟨s.heap.objs.size,_,_,its.toArray.size,_,_,fun i=>(bs[i]?).getD true,rfl,Walks.list hh s.heap.objs.size p hlt its.toArray,⟨⟨_,Heap.get?_push_size _ rfl,rfl,rfl⟩,?_⟩,fun i v s' Q' E' hv hQ'=>?_,fun h' tk kp=>?_⟩
  · obtain ⟨o,e,r'⟩:=pl.isList;exact ⟨o,Heap.get?_push_of_some _ e,r'⟩
  · have hv':its[i]?=some v:=by simpa using hv
    rw [hits,List.getElem?_map] at hv';cases e:bs[i]? with
    | none=>rw [e] at hv';cases hv'
    | some k =>
      rw [e] at hv';cases hv';dsimp only at hQ';rw [e] at hQ';exact wpAny_truthy_bool hQ'
  · have e:((List.range its.toArray.size).all fun i=>(bs[i]?).getD true)=bs.all id:=by
      rw [List.size_toArray,hits,List.length_map];have key:∀ (l:List Bool),((List.range l.length).all fun i=>(l[i]?).getD true)=l.all id:=by
        intro l;induction l with
        | nil=>rfl
        | cons k l ih =>
          rw [List.length_cons,List.range_succ_eq_map,List.all_cons,List.all_map,List.all_cons,<- ih];rfl
      exact key bs
    rw [e];refine ⟨.bl (bs.all id),H,I.kept (t':=tk) fun b o g=>kp b o (fun z=>?_) (Heap.get?_push_of_some _ g),rfl,q⟩;rw [List.mem_singleton.mp z] at g;exact absurd (Heap.lt_size g) (Nat.lt_irrefl _)
theorem qG:∀ {ds:List PyData} {k:Bool},qF ds=some k->∃ bs:List Bool,ds=bs.map PyData.bool/\k=bs.all id
  | [],k,h=>by cases h;exact ⟨[],rfl,rfl⟩
  | d::ds,k,h=>by
    cases d with
    | bool j =>
      simp only [qF] at h;cases e:qF ds with
      | none=>rw [e] at h;cases h
      | some r =>
        rw [e] at h;cases h;obtain ⟨bs,e1,e2⟩:=qG e;exact ⟨j::bs,by rw [e1];rfl,by rw [e2];rfl⟩
    | _=>cases h
theorem oK:∀ {H:Hp} {ns:List Bool} {vs:List V},bF H (ns.map PyData.bool) vs->vs=ns.map V.bl
  | H,[],vs,r=>by rw [List.map_nil] at r;rw [r.nil_inv];rfl
  | H,n::ns,vs,r=>by
    rw [List.map_cons] at r;obtain ⟨v,r',rfl,p,t⟩:=r.cons_inv;have:v=.bl n:=by simpa only [Rp] using p
    rw [this,oK t];rfl
theorem v3 (T:Tb X nl G) (j:Nat) (hG:G[j]?=some ("all" : Str)) (hm:X.mg "all" = none) (ha:Z.cT X a fa) (he:aH a=true:=by rfl):Z.cE X (.Call (.Name "all" p) [a] [] pos) (e1 yH fa):=⟨have ha:=ha.un;by
  refine yC T j hG hm dO PyProof.Rows.boot_all (uH T.calm) (fun H x d Q hx q=>?_) ha he;cases d with
  | list ds =>
    simp only [yH] at q;cases ei:qF ds with
    | none=>rw [ei] at q;exact q.elim
    | some k =>
      rw [ei] at q;obtain ⟨bs,e1,e2⟩:=qG ei;obtain ⟨a',vs,rfl,h,r⟩:=eF (K:=X.K) hx;rw [e1] at r;rw [oK r] at h;refine ⟨a',bs,rfl,h,?_⟩;rw [<- e2];exact q _ H (ar.refl _) eK
  | _=>exact q.elim⟩
end
section
variable {X:Cx} {a b c:Expr} {fa fb fc:Fe} {pos p2:Pos} {nl:Nat} {G:List Str} {x:Str} {p:Pos}
theorem gv.change {Fm H:Hp} {σ:St} {ρ:aE} {i:Nat} {d d':PyData} {a:Addr} {u u':HO} (h:gv Fm H σ ρ) (h1:ρ[i]?=some (.own d)) (h2:σ[i]?=some (some (.ref a))) (hu:H a=some u) (hm:(∃ xs,u=.lst xs)\/∃ ks,u=.dK ks)
    (hr:jb (du H a u') d' (.ref a)):gv Fm (du H a u') σ (ρ.set i (.own d')):=by
  have hFa:=h.own i d a h1 h2;have kp:Kp H (du H a u'):=iJ hu hm;have at_i:∀ (j:Nat) (e:PyData),(ρ.set i (.own d'))[j]?=some (.own e)->∃ e0,ρ[j]?=some (.own e0):=fun j e q=>by
    rw [List.getElem?_set] at q;by_cases hij:i=j
    · subst hij;exact ⟨d,h1⟩
    · rw [if_neg hij] at q;exact ⟨e,q⟩
  refine ⟨fun b x e=>?_,⟨by rw [List.length_set];exact h.sl.1,fun j c w' e1 e2=>?_⟩,fun j e b e1 e2=>?_,fun j k e f b e1 e2 e3 e4=>?_⟩
  · rw [aJ (bh e hFa)];exact h.fm b x e
  · rw [List.getElem?_set] at e1;by_cases hij:i=j
    · subst hij;rw [if_pos rfl] at e1;split at e1
      · cases e1;rw [h2] at e2;cases e2;exact ⟨_,rfl,hr⟩
      · cases e1
    · rw [if_neg hij] at e1;have q:=h.sl.2 j c w' e1 e2;cases c with
      | exc p=>exact q
      | non=>exact True.intro
      | val d1=>obtain ⟨v,z1,z2⟩:=q;exact ⟨v,z1,Rp.kp kp _ _ z2⟩
      | own d1 =>
        obtain ⟨v,z1,z2⟩:=q;subst z1;obtain ⟨b,ob,rfl,hb⟩:=pX z2;have nb:b≠a:=fun z=>hij (by subst z;exact h.apart i j d d1 b h1 e1 h2 e2)
        refine ⟨_,rfl,?_⟩;cases d1 <;> simp only [jb] at z2 ⊢
        · obtain ⟨b',vs,e,hb',r⟩:=z2;cases e;exact ⟨b,vs,rfl,by rw [aJ nb];exact hb',bF.kp kp _ _ r⟩
        · obtain ⟨b',vs,e,hb',r⟩:=z2;cases e;exact ⟨b,vs,rfl,by rw [aJ nb];exact hb',dQ.kp kp _ _ r⟩
  · obtain ⟨e0,q⟩:=at_i j e e1;exact h.own j e0 b q e2
  · obtain ⟨e0,q⟩:=at_i j e e1;obtain ⟨f0,q'⟩:=at_i k f e2;exact h.apart j k e0 f0 b q q' e3 e4
noncomputable def nK (i:Nat) (fk fv:Fe):Fs:=fun ρ=>fv ρ>>=fun v=>oF (fk ρ)>>=fun k=>match ρ[i]? with
  | some (.own (.dict kvs))=>match dE k with
    | some _=>if kvs.length < sizeLine then .ok (.nx (ρ.set i (.own (.dict (lI kvs k v))))) else .no
    | none=>.no
  | _=>.no
theorem ve {k:PyData} {κ:cN} (h:dE k=some κ):k=fx κ:=by
  cases k <;> simp only [dE] at h <;> cases h <;> rfl
theorem BE {H:Hp} {κ:cN} {y:V} (h:Rp H (fx κ) y):y=kV κ:=by
  cases κ <;> simp only [fx,Rp] at h <;> exact h
theorem l6 {k v:Expr} {fk fv:Fe} {q1 q2 q3:Pos} (T:Tb X nl G) (n:Nat) (hN:X.N[n]?=some x) (hk:Z.cE X k fk) (hv:Z.cE X v fv) (hs:swapsWith v (some (.Subscript (.Name x q1) k q2)) q3.line X.env=pure false:=by rfl):Z.kU X (.Assign [.Subscript (.Name x q1) k q2] v q3) (nK n fk fv):=⟨have hk:=hk.un;have hv:=hv.un;fun Fm=>by
  have hm:=T.vis x (List.mem_of_getElem? hN);refine PS.imp (zB (by have:=T.hu;omega) (hR hN hm.1 hm.2.1 hm.2.2) hk hv hs) fun D σ H h=>?_
  refine (ss (P:=fU) (f:=fv) (k:=fun ρ v=>oF (fk ρ)>>=fun k=>match ρ[n]? with
    | some (.own (.dict kvs))=>match dE k with
      | some _=>if kvs.length < sizeLine then .ok (.nx (ρ.set n (.own (.dict (lI kvs k v))))) else .no
      | none=>.no
    | _=>.no) h).post fun vv H1 ⟨ρ1,dv,sl1,_,p1,q1⟩=>?_
  have sl0:As X Fm (fun ρ=>oF (fk ρ)>>=fun k=>match ρ[n]? with
    | some (.own (.dict kvs))=>match dE k with
      | some _=>if kvs.length < sizeLine then .ok (.nx (ρ.set n (.own (.dict (lI kvs k dv))))) else .no
      | none=>.no
    | _=>.no) D σ H1:=⟨ρ1,sl1,q1⟩
  cases e:ρ1[n]? with
  | none =>
    exfalso;rw [e] at q1;cases e2:fk ρ1 with
    | ok _=>rw [e2] at q1;exact q1
    | ex _=>rw [e2] at q1;exact q1
    | no=>rw [e2] at q1;exact q1
  | some c =>
    rw [e] at q1;cases c with
    | own d =>
      cases d with
      | dict kvs =>
        obtain ⟨o,h2,w',rfl,p2⟩:=sl1.sl.at e;simp only [jb] at p2;obtain ⟨a',ks,rfl,ha,r⟩:=p2;refine ⟨.ref a',h2,?_⟩;refine ⟨ρ1,sl1.sl,?_⟩;cases e2:fk ρ1 with
        | ex _=>rw [e2] at q1;exact q1.elim
        | no=>rw [e2] at q1;exact q1
        | ok kd =>
          rw [e2] at q1;simp only [oF,R.ok_bind] at q1;intro yv H3 s3 p3;cases e3:dE kd with
          | none=>rw [e3] at q1;exact q1.elim
          | some κ =>
            rw [e3] at q1;dsimp only at q1;by_cases hz:kvs.length < sizeLine
            · rw [if_pos hz] at q1;have ek:=ve e3;subst ek;have ey:=BE p3;subst ey;have ha3:=s3 _ _ ha;have r3:dQ H3 kvs ks:=dQ.kp (Kp.of s3) _ _ r;refine ⟨a',_,rfl,rP.k ha3 (by rw [r3.length];exact hz),q1 _ _ ((sl1.mono s3).change e h2 ha3 (.inr ⟨_,rfl⟩) ?_)⟩;simp only [jb];exact ⟨a',_,rfl,cj,dQ.kp (iJ ha3 (.inr ⟨_,rfl⟩)) _ _ (dQ.put κ (p1.mono s3) r3)⟩
            · rw [if_neg hz] at q1;exact q1.elim
      | _ =>
        exfalso;cases e2:fk ρ1 with
        | ok _=>rw [e2] at q1;exact q1
        | ex _=>rw [e2] at q1;exact q1
        | no=>rw [e2] at q1;exact q1
    | _ =>
      exfalso;cases e2:fk ρ1 with
      | ok _=>rw [e2] at q1;exact q1
      | ex _=>rw [e2] at q1;exact q1
      | no=>rw [e2] at q1;exact q1⟩
noncomputable def iZ (i:Nat) (f:Fe):Fs:=fun ρ=>oF (f ρ)>>=fun d=>match ρ[i]? with
  | some (.own (.list ds))=>if ds.length < sizeLine then .ok (.nx (ρ.set i (.own (.list (ds++[d]))))) else .no
  | _=>.no
end
section
variable {prog:Program} {w:World} {A:Around} {E:Value->Shared->Prop} {s:Shared}
theorem sQ {it t:Addr} {i:Nat} {items:Array Value} {x:Value} {Q:Value->Shared->Prop} (hit:s.heap.IsTupleIter it t i) (ht:s.heap.IsTuple t items) (hx:items[i]?=some x)
    (hQ:∀ h',h'.IsTupleIter it t (i+1)->Heap.SameBut it s.heap h'->Q x { s with heap:=h' }):wpAny (model prog w) A (Builtin.SmallTypes.nextOf (.ref it)) Q E s:=by
  obtain ⟨ob,hob,hcl,hdt⟩:=id hit;obtain ⟨ot,hot,_,nt,hdtt⟩:=ht;unfold Builtin.SmallTypes.nextOf;refine wpAny_bind (wpAny_callSpecial?_slot (name:=Str.ofString "__next__") hit.typeIs F.slot_tuple_iterator_next (wpAny_call_entry F.slot_tuple_iterator_next hit.typeIs F.entry_tuple_iterator_next ?_ (F.args_tuple_iterator_next_1 _)));show wpAny _ _ (field (Value.ref it) 0>>=_) _ _ s;refine wpAny_bind (wpAny_field hob hdt (x:=Value.ref t) rfl ?_);show wpAny _ _ (if (Value.ref t==Value.none)=true then _ else _) _ _ s;rw [if_neg (by intro z;cases z)];show wpAny _ _ (field (Value.ref it) 1>>=_) _ _ s;refine wpAny_bind (wpAny_field hob hdt (x:=Value.int i 0) rfl ?_);show wpAny _ _ (seqItems? (Value.ref t)>>=_) _ _ s;refine wpAny_bind (wpAny_seqItems hot hdtt ?_);simp only [hx,Int.toNat_natCast];refine wpAny_bind (wpAny_setField hob hdt (by simp) (wpAny_pure ⟨x,rfl,wpAny_pure (hQ _ ⟨_,Heap.get?_update_self _ hob (Obj.isFreed_of_fields (Obj.data_mapFields hdt _)),(Obj.cls_mapFields ..).trans hcl,?_⟩ (Heap.SameBut.update ..))⟩));rw [Obj.data_mapFields hdt];simp [rawInt]
theorem mT {it t:Addr} {i:Nat} {items:Array Value} {Q:Value->Shared->Prop} (hh:A.handled=none) (hit:s.heap.IsTupleIter it t i) (ht:s.heap.IsTuple t items) (hx:items[i]?=none)
    (hE:∀ h' e,Heap.ExtBut it s.heap h'->(∃ o,h'.get? e=some o/\o.cls=.type "StopIteration")->E (.ref e) { s with heap:=h' }):wpAny (model prog w) A (Builtin.SmallTypes.nextOf (.ref it)) Q E s:=by
  obtain ⟨ob,hob,hcl,hdt⟩:=id hit;obtain ⟨ot,hot,_,nt,hdtt⟩:=ht;unfold Builtin.SmallTypes.nextOf;refine wpAny_bind (wpAny_callSpecial?_slot (name:=Str.ofString "__next__") hit.typeIs F.slot_tuple_iterator_next (wpAny_call_entry F.slot_tuple_iterator_next hit.typeIs F.entry_tuple_iterator_next ?_ (F.args_tuple_iterator_next_1 _)));show wpAny _ _ (field (Value.ref it) 0>>=_) _ _ s;refine wpAny_bind (wpAny_field hob hdt (x:=Value.ref t) rfl ?_);show wpAny _ _ (if (Value.ref t==Value.none)=true then _ else _) _ _ s;rw [if_neg (by intro z;cases z)];show wpAny _ _ (field (Value.ref it) 1>>=_) _ _ s;refine wpAny_bind (wpAny_field hob hdt (x:=Value.int i 0) rfl ?_);show wpAny _ _ (seqItems? (Value.ref t)>>=_) _ _ s;refine wpAny_bind (wpAny_seqItems hot hdtt ?_);simp only [hx,Int.toNat_natCast];refine wpAny_bind (wpAny_rule (wpAny_bind (wpAny_setField hob hdt (by simp) ?_)));show wpAny _ _ (newExc (Value.type "StopIteration") []>>=_) _ _ _;refine wpAny_bind ?_;simp only [newTuple,newExc];refine wpAny_bind (wpAny_newObj_type ?_ (by size_fits));refine wpAny_bind (m:=firstArgMember _ _) (wpAny_of_eq (a:=Value.none) (by first | rfl | (simp only [firstArgMember];rfl)) ?_);refine wpAny_newObj_type ?_ (by size_fits);simp only [raiseNew];refine wpAny_bind (wpAny_handled ?_)
  first | rw [show A.in1.handled=none from hh] | rw [hh]
  exact wpAny_bind (wpAny_pure (wpAny_throw (hE _ _ (((Heap.SameBut.update ..).extBut.push _).push _) ⟨_,Heap.get?_push_size _ rfl,rfl⟩)))
end
noncomputable def o6 (h:Heap) (i l:Addr) (k:Nat) (xs:Array Value):Prop:=(h.IsListIter i l k/\h.IsList l xs)\/(h.IsTupleIter i l k/\h.IsTuple l xs)
section
variable {h h':Heap} {i l:Addr} {k:Nat} {xs:Array Value}
theorem o6.keep (x:o6 h i l k xs) (hi:∀ o,h.get? i=some o->h'.get? i=some o) (hl:∀ o,h.get? l=some o->h'.get? l=some o):o6 h' i l k xs:=by
  rcases x with ⟨⟨o,e,r⟩,⟨o',e',r'⟩⟩ | ⟨⟨o,e,r⟩,⟨o',e',r'⟩⟩
  · exact .inl ⟨⟨o,hi _ e,r⟩,⟨o',hl _ e',r'⟩⟩
  · exact .inr ⟨⟨o,hi _ e,r⟩,⟨o',hl _ e',r'⟩⟩
end
section
variable {prog:Program} {w:World} {A:Around} {E:Value->Shared->Prop} {s:Shared} {i l:Addr} {k:Nat} {xs:Array Value}
theorem w6 {x:Value} {Q:Value->Shared->Prop} (it:o6 s.heap i l k xs) (hne:l≠i) (hx:xs[k]?=some x) (hQ:∀ h',o6 h' i l (k+1) xs->Heap.SameBut i s.heap h'->Q x { s with heap:=h' }) :
    wpAny (model prog w) A (Builtin.SmallTypes.nextOf (.ref i)) Q E s:=by
  rcases it with ⟨h1,h2⟩ | ⟨h1,h2⟩
  · exact wpAny_nextOf_list_item h1 h2 hx fun h' a b=>hQ h' (.inl ⟨a,h2.extBut b.extBut hne⟩) b
  · exact sQ h1 h2 hx fun h' a b=>hQ h' (.inr ⟨a,h2.extBut b.extBut hne⟩) b
theorem oB {Q:Value->Shared->Prop} (hh:A.handled=none) (it:o6 s.heap i l k xs) (hx:xs[k]?=none)
    (hE:∀ h' e,Heap.ExtBut i s.heap h'->(∃ o,h'.get? e=some o/\o.cls=.type "StopIteration")->E (.ref e) { s with heap:=h' }):wpAny (model prog w) A (Builtin.SmallTypes.nextOf (.ref i)) Q E s:=by
  rcases it with ⟨h1,h2⟩ | ⟨h1,h2⟩
  · exact wpAny_nextOf_list_end hh h1 h2 hx hE
  · exact mT hh h1 h2 hx hE
noncomputable def vY (h:Heap) (l:Addr) (xs:Array Value):Prop:=h.IsList l xs\/h.IsTuple l xs
end
structure ZA (z p q i j l m:Addr):Prop where
  pz:p≠z
  qz:q≠z
  iz:i≠z
  jz:j≠z
  pq:p≠q
  pi:p≠i
  pj:p≠j
  qi:q≠i
  qj:q≠j
  ij:i≠j
  lz:l≠z
  lq:l≠q
  li:l≠i
  lj:l≠j
  mz:m≠z
  mq:m≠q
  mi:m≠i
  mj:m≠j
structure yf (h:Heap) (z p q i j l m:Addr) (f0:Value) (k:Nat) (xs ys:Array Value):Prop where
  zz:IsZip h z p q f0
  pp:IsPair h p (.ref i) (.ref j)
  qq:∃ a b,IsPair h q a b
  ii:o6 h i l k xs
  jj:o6 h j m k ys
section
variable {prog:Program} {w:World} {A:Around} {E:Value->Shared->Prop} {s:Shared} {z p q i j l m:Addr} {k:Nat} {xs ys:Array Value}
theorem yd {x y:Value} {Q:Value->Shared->Prop} (D:ZA z p q i j l m) (S:yf s.heap z p q i j l m .none k xs ys) (hx:xs[k]?=some x) (hy:ys[k]?=some y)
    (hQ:∀ h',yf h' z p q i j l m (rawInt s.heap.objs.size) (k+1) xs ys->IsPair h' s.heap.objs.size x y->(∀ c o,c≠z->c≠q->c≠i->c≠j->s.heap.get? c=some o->h'.get? c=some o)->Q (.ref s.heap.objs.size) { s with heap:=h' }) :
    wpAny (model prog w) A (Builtin.«zip.__next__» ⟨[.ref z],[]⟩) (fun fin s'=>∃ v,fin=.done (.ret v)/\Q v s') E s:=by
  obtain ⟨hz,hp,⟨a,b,hq⟩,hi,hj⟩:=S;show wpAny _ _ (field (Value.ref z) 2>>=_) _ _ _;refine wpAny_bind (wpAny_field hz rfl (x:=Value.bool false) rfl ?_);show wpAny _ _ (field (Value.ref z) 3>>=_) _ _ _;refine wpAny_bind (wpAny_field hz rfl (x:=Value.ref p) rfl ?_);refine wpAny_bind (wpAny_seqItems hp rfl ?_);show wpAny _ _ (Builtin.SmallTypes.ownedTupleIsFree (Value.ref z)>>=_) _ _ _;refine wpAny_bind ?_;unfold Builtin.SmallTypes.ownedTupleIsFree;refine wpAny_bind (wpAny_field hz rfl (x:=Value.none) rfl (wpAny_pure ?_));simp only [if_true];refine wpAny_bind (wpAny_rule ?_);refine wpAny_bind (wpAny_field hz rfl (x:=Value.ref q) rfl ?_);refine wpAny_bind (wpAny_setField_rec hz (by simp) fun g1 z1 s1=>?_);replace z1:IsZip g1 z p q .ellipsis:=z1;refine wpAny_bind ?_;simp only [List.zipIdx_cons,List.zipIdx_nil,List.forIn_cons,List.forIn_nil];refine wpAny_bind (wpAny_bind (wpAny_onRaise ?_));show wpAny _ _ (Builtin.SmallTypes.nextOf (Value.ref i)>>=_) _ _ _;have hi1:o6 g1 i l k xs:=hi.keep (fun o e=>s1.extBut _ _ D.iz e) fun o e=>s1.extBut _ _ D.lz e
  refine wpAny_bind (w6 hi1 D.li hx fun g2 i2 s2=>wpAny_pure ?_);have q2:IsPair g2 q a b:=s2.extBut _ _ D.qi (s1.extBut _ _ D.qz hq);refine wpAny_bind (wpAny_seqItems q2 rfl ?_);refine wpAny_bind (wpAny_updateSeq_pair q2 fun g3 q3 s3=>?_);replace q3:IsPair g3 q x b:=q3;refine wpAny_bind (wpAny_letGo (wpAny_pure ?_));refine wpAny_bind (wpAny_bind (wpAny_onRaise ?_));show wpAny _ _ (Builtin.SmallTypes.nextOf (Value.ref j)>>=_) _ _ _;have hj3:o6 g3 j m k ys:=hj.keep (fun o e=>s3.extBut _ _ D.qj.symm (s2.extBut _ _ D.ij.symm (s1.extBut _ _ D.jz e))) fun o e=>s3.extBut _ _ D.mq (s2.extBut _ _ D.mi (s1.extBut _ _ D.mz e))
  refine wpAny_bind (w6 hj3 D.mj hy fun g4 j4 s4=>wpAny_pure ?_);have q4:IsPair g4 q x b:=s4.extBut _ _ D.qj q3;refine wpAny_bind (wpAny_seqItems q4 rfl ?_);refine wpAny_bind (wpAny_updateSeq_pair q4 fun g5 q5 s5=>?_);replace q5:IsPair g5 q x y:=q5;refine wpAny_bind (wpAny_letGo (wpAny_pure (wpAny_pure ?_)));refine wpAny_bind (wpAny_seqItems q5 rfl ?_);refine wpAny_bind (wpAny_newTuple ?_);have hsz:g5.objs.size=s.heap.objs.size:=by rw [s5.1,s4.1,s3.1,s2.1,s1.1]
  have z5:IsZip g5 z p q .ellipsis:=s5.extBut _ _ D.qz.symm (s4.extBut _ _ D.jz.symm (s3.extBut _ _ D.qz.symm (s2.extBut _ _ D.iz.symm z1)));have k5:∀ c o,c≠z->c≠q->c≠i->c≠j->s.heap.get? c=some o->g5.get? c=some o:=fun c o c1 c2 c3 c4 e=>s5.extBut _ _ c2 (s4.extBut _ _ c4 (s3.extBut _ _ c2 (s2.extBut _ _ c3 (s1.extBut _ _ c1 e))))
  have i5:o6 g5 i l (k+1) xs:=i2.keep (fun o e=>s5.extBut _ _ D.qi.symm (s4.extBut _ _ D.ij (s3.extBut _ _ D.qi.symm e))) fun o e=>s5.extBut _ _ D.lq (s4.extBut _ _ D.lj (s3.extBut _ _ D.lq e))
  have j5:o6 g5 j m (k+1) ys:=j4.keep (fun o e=>s5.extBut _ _ D.qj.symm e) fun o e=>s5.extBut _ _ D.mq e
  have zlt:z < g5.objs.size:=Heap.lt_size z5;show wpAny _ _ (Builtin.SmallTypes.ownedTupleHandOut (Value.ref z) (Value.ref g5.objs.size)>>=_) _ _ _;refine wpAny_bind ?_;unfold Builtin.SmallTypes.ownedTupleHandOut;have z6:IsZip (g5.push { cls:=.type "tuple",data:=.seq #[x,y] }) z p q .ellipsis:=Heap.get?_push_of_some _ z5;refine wpAny_bind (wpAny_setField_rec z6 (by simp) fun g7 z7 s7=>?_);replace z7:IsZip g7 z p q (rawInt g5.objs.size):=z7;refine wpAny_setField_rec z7 (by simp) fun g8 z8 s8=>?_
  replace z8:IsZip g8 z p q (rawInt g5.objs.size):=z8;have up:∀ c o,c≠z->g5.get? c=some o->g8.get? c=some o:=fun c o c1 e=>s8.extBut _ _ c1 (s7.extBut _ _ c1 (Heap.get?_push_of_some _ e))
  have t8:IsPair g8 g5.objs.size x y:=s8.extBut _ _ (Nat.ne_of_gt zlt) (s7.extBut _ _ (Nat.ne_of_gt zlt) (Heap.get?_push_size _ rfl));rw [hsz] at z8 t8;refine wpAny_pure ⟨_,rfl,?_⟩;show Q (.ref g5.objs.size) _;rw [hsz];exact hQ g8 ⟨z8,up _ _ D.pz (k5 _ _ D.pz D.pq D.pi D.pj hp),⟨x,y,up _ _ D.qz q5⟩,i5.keep (fun o e=>up _ _ D.iz e) fun o e=>up _ _ D.lz e,j5.keep (fun o e=>up _ _ D.jz e) fun o e=>up _ _ D.mz e⟩ t8 fun c o c1 c2 c3 c4 e=>up c o c1 (k5 c o c1 c2 c3 c4 e)
theorem z0 {Q:PySem.Fin->Shared->Prop} (hh:A.handled=none) (D:ZA z p q i j l m) (S:yf s.heap z p q i j l m .none k xs ys) (hend:xs[k]?=none\/ys[k]?=none)
    (hE:∀ h' e,(∀ c o,c≠z->c≠q->c≠i->c≠j->s.heap.get? c=some o->h'.get? c=some o)->(∃ o,h'.get? e=some o/\o.cls=.type "StopIteration")->E (.ref e) { s with heap:=h' }) :
    wpAny (model prog w) A (Builtin.«zip.__next__» ⟨[.ref z],[]⟩) Q E s:=by
  obtain ⟨hz,hp,⟨a,b,hq⟩,hi,hj⟩:=S;show wpAny _ _ (field (Value.ref z) 2>>=_) _ _ _;refine wpAny_bind (wpAny_field hz rfl (x:=Value.bool false) rfl ?_);show wpAny _ _ (field (Value.ref z) 3>>=_) _ _ _;refine wpAny_bind (wpAny_field hz rfl (x:=Value.ref p) rfl ?_);refine wpAny_bind (wpAny_seqItems hp rfl ?_);show wpAny _ _ (Builtin.SmallTypes.ownedTupleIsFree (Value.ref z)>>=_) _ _ _;refine wpAny_bind ?_;unfold Builtin.SmallTypes.ownedTupleIsFree;refine wpAny_bind (wpAny_field hz rfl (x:=Value.none) rfl (wpAny_pure ?_));simp only [if_true];refine wpAny_bind (wpAny_rule ?_);refine wpAny_bind (wpAny_field hz rfl (x:=Value.ref q) rfl ?_);refine wpAny_bind (wpAny_setField_rec hz (by simp) fun g1 z1 s1=>?_);replace z1:IsZip g1 z p q .ellipsis:=z1;refine wpAny_bind ?_;simp only [List.zipIdx_cons,List.zipIdx_nil,List.forIn_cons,List.forIn_nil];refine wpAny_bind (wpAny_bind (wpAny_onRaise ?_));show wpAny _ _ (Builtin.SmallTypes.nextOf (Value.ref i)>>=_) _ _ _;have hi1:o6 g1 i l k xs:=hi.keep (fun o e=>s1.extBut _ _ D.iz e) fun o e=>s1.extBut _ _ D.lz e
  cases hx:xs[k]? with
  | none =>
    refine wpAny_bind (oB hh hi1 hx fun g2 e s2 he=>?_);obtain ⟨oe,hoe,hce⟩:=he;have z2:IsZip g2 z p q .ellipsis:=s2 _ _ D.iz.symm z1;have hez:e≠z:=fun t=>by subst t;rw [z2] at hoe;cases hoe;simp at hce
    exact wpAny_setField_rec z2 (by simp) fun g3 _ s3=>hE g3 e (fun c o c1 _ c3 _ t=>s3.extBut _ _ c1 (s2 _ _ c3 (s1.extBut _ _ c1 t))) ⟨oe,s3.extBut _ _ hez hoe,hce⟩
  | some x =>
    have hy:ys[k]?=none:=by rcases hend with t | t;rw [hx] at t;cases t;exact t
    refine wpAny_bind (w6 hi1 D.li hx fun g2 i2 s2=>wpAny_pure ?_);have q2:IsPair g2 q a b:=s2.extBut _ _ D.qi (s1.extBut _ _ D.qz hq);refine wpAny_bind (wpAny_seqItems q2 rfl ?_);refine wpAny_bind (wpAny_updateSeq_pair q2 fun g3 q3 s3=>?_);refine wpAny_bind (wpAny_letGo (wpAny_pure ?_));refine wpAny_bind (wpAny_bind (wpAny_onRaise ?_));show wpAny _ _ (Builtin.SmallTypes.nextOf (Value.ref j)>>=_) _ _ _;have hj3:o6 g3 j m k ys:=hj.keep (fun o e=>s3.extBut _ _ D.qj.symm (s2.extBut _ _ D.ij.symm (s1.extBut _ _ D.jz e))) fun o e=>s3.extBut _ _ D.mq (s2.extBut _ _ D.mi (s1.extBut _ _ D.mz e))
    refine wpAny_bind (oB hh hj3 hy fun g4 e s4 he=>?_);obtain ⟨oe,hoe,hce⟩:=he;have z4:IsZip g4 z p q .ellipsis:=s4 _ _ D.jz.symm (s3.extBut _ _ D.qz.symm (s2.extBut _ _ D.iz.symm z1));have hez:e≠z:=fun t=>by subst t;rw [z4] at hoe;cases hoe;simp at hce
    exact wpAny_setField_rec z4 (by simp) fun g5 _ s5=>hE g5 e (fun c o c1 c2 c3 c4 t=>s5.extBut _ _ c1 (s4 _ _ c4 (s3.extBut _ _ c2 (s2.extBut _ _ c3 (s1.extBut _ _ c1 t))))) ⟨oe,s5.extBut _ _ hez hoe,hce⟩
theorem tJ {x y:Value} {Q:Option Value->Shared->Prop} (D:ZA z p q i j l m) (S:yf s.heap z p q i j l m .none k xs ys) (hx:xs[k]?=some x) (hy:ys[k]?=some y)
    (hQ:∀ h',yf h' z p q i j l m (rawInt s.heap.objs.size) (k+1) xs ys->IsPair h' s.heap.objs.size x y->(∀ c o,c≠z->c≠q->c≠i->c≠j->s.heap.get? c=some o->h'.get? c=some o)->Q (some (.ref s.heap.objs.size)) { s with heap:=h' }) :
    wpAny (model prog w) A (pyNext (.ref z)) Q E s:=by
  have hT:s.TypeIs (.ref z) "zip" := ⟨_,S.zz,rfl⟩
  unfold pyNext;exact wpAny_bind (wpAny_attempt (wpAny_callSpecial?_slot (name:=Str.ofString "__next__") hT F.slot_zip_next (wpAny_call_entry F.slot_zip_next hT F.entry_zip_next (yd D S hx hy fun h' a b c=>wpAny_pure (hQ h' a b c)) (F.args_zip_next_1 _))))
theorem vO {Q:Option Value->Shared->Prop} (hh:A.handled=none) (D:ZA z p q i j l m) (S:yf s.heap z p q i j l m .none k xs ys) (hend:xs[k]?=none\/ys[k]?=none)
    (hQ:∀ h',(∀ c o,c≠z->c≠q->c≠i->c≠j->s.heap.get? c=some o->h'.get? c=some o)->Q none { s with heap:=h' }):wpAny (model prog w) A (pyNext (.ref z)) Q E s:=by
  have hT:s.TypeIs (.ref z) "zip" := ⟨_,S.zz,rfl⟩
  unfold pyNext;refine wpAny_bind (wpAny_attempt (wpAny_callSpecial?_slot (name:=Str.ofString "__next__") hT F.slot_zip_next (wpAny_call_entry F.slot_zip_next hT F.entry_zip_next (z0 hh D S hend fun h' e hk he=>?_) (F.args_zip_next_1 _))));obtain ⟨o,ho,hc⟩:=he;exact wpAny_bind (wpAny_isInstance (T := "StopIteration") (b:=true) ⟨o,ho,hc⟩ isSubtype_stop (wpAny_pure (hQ _ hk)))
theorem z9 (l m:Addr) (xs ys:Array Value):Meets (Builtin.«zip.__new__» ⟨[.type "zip",.ref l,.ref m],[]⟩) (fun _ R s=>vY s.heap l xs/\vY s.heap m ys /\
    ∀ h',h'.objs.size=s.heap.objs.size+5->yf h' (s.heap.objs.size+4) (s.heap.objs.size+2) (s.heap.objs.size+3) s.heap.objs.size (s.heap.objs.size+1) l m .none 0 xs ys->(∀ c o,s.heap.get? c=some o->h'.get? c=some o) ->
      R (.ok (.ret (.ref (s.heap.objs.size+4)))) { s with heap:=h' }) :=
  .of_wp fun prog w A R s h=>by
    obtain ⟨hp,g,d,tk,os⟩:=s;obtain ⟨h1,h2,h⟩:=h;have hsub:=sub_zip;have fin:∀ (oi oj:Obj),o6 (hp.push oi) hp.objs.size l 0 xs->o6 ((hp.push oi).push oj) (hp.push oi).objs.size m 0 ys ->
        R (.ok (.ret (.ref ((((hp.push oi).push oj).push { cls:=.type "tuple",data:=.seq #[.ref hp.objs.size,.ref (hp.push oi).objs.size] }).push { cls:=.type "tuple",data:=.seq #[.none,.none] }).objs.size)))
          ⟨((((hp.push oi).push oj).push { cls:=.type "tuple",data:=.seq #[.ref hp.objs.size,.ref (hp.push oi).objs.size] }).push { cls:=.type "tuple",data:=.seq #[.none,.none] }).push { cls:=.type "zip",data:=.fields #[.none,.bool false,.bool false,.ref ((hp.push oi).push oj).objs.size,.ref (((hp.push oi).push oj).push { cls:=.type "tuple",data:=.seq #[.ref hp.objs.size,.ref (hp.push oi).objs.size] }).objs.size] },g,d,tk,os⟩:=fun oi oj hi hj=>by
      have e1:(hp.push oi).objs.size=hp.objs.size+1:=Heap.size_push ..;have e2:((hp.push oi).push oj).objs.size=hp.objs.size+2:=by rw [Heap.size_push,e1]
      have e3:(((hp.push oi).push oj).push { cls:=.type "tuple",data:=.seq #[.ref hp.objs.size,.ref (hp.push oi).objs.size] }).objs.size=hp.objs.size+3:=by rw [Heap.size_push,e2]
      have e4:((((hp.push oi).push oj).push { cls:=.type "tuple",data:=.seq #[.ref hp.objs.size,.ref (hp.push oi).objs.size] }).push { cls:=.type "tuple",data:=.seq #[.none,.none] }).objs.size=hp.objs.size+4:=by rw [Heap.size_push,e3]
      rw [e4,e3,e2];rw [e1] at hj ⊢;have kk:∀ (c:Addr) (o a b c':Obj),((hp.push oi).push oj).get? c=some o->(((((hp.push oi).push oj).push a).push b).push c').get? c=some o:=fun c o a b c' e=>Heap.get?_push_of_some _ (Heap.get?_push_of_some _ (Heap.get?_push_of_some _ e))
      refine h _ (by rw [Heap.size_push,Heap.size_push,Heap.size_push,e2]) ⟨?_,?_,⟨.none,.none,?_⟩,?_,?_⟩ fun c o e=>kk _ _ _ _ _ (Heap.get?_push_of_some _ (Heap.get?_push_of_some _ e))
      · have:hp.objs.size+4=((((hp.push oi).push oj).push { cls:=.type "tuple",data:=.seq #[.ref hp.objs.size,.ref (hp.objs.size+1)] }).push { cls:=.type "tuple",data:=.seq #[.none,.none] }).objs.size:=by rw [Heap.size_push,Heap.size_push,e2]
        show Heap.get? _ (hp.objs.size+4)=_;rw [this];exact Heap.get?_push_size _ rfl
      · refine Heap.get?_push_of_some _ (Heap.get?_push_of_some _ ?_);show Heap.get? _ (hp.objs.size+2)=_;rw [<- e2];exact Heap.get?_push_size _ rfl
      · refine Heap.get?_push_of_some _ ?_;have:hp.objs.size+3=(((hp.push oi).push oj).push { cls:=.type "tuple",data:=.seq #[.ref hp.objs.size,.ref (hp.objs.size+1)] }).objs.size:=by rw [Heap.size_push,e2]
        show Heap.get? _ (hp.objs.size+3)=_;rw [this];exact Heap.get?_push_size _ rfl
      · exact hi.keep (fun o e=>kk _ _ _ _ _ (Heap.get?_push_of_some _ e)) fun o e=>kk _ _ _ _ _ (Heap.get?_push_of_some _ e)
      · exact hj.keep (fun o e=>kk _ _ _ _ _ e) fun o e=>kk _ _ _ _ _ e
    rcases h1 with h1 | h1 <;> rcases h2 with h2 | h2
    · have l1:Heap.IsList (Shared.heap ⟨hp,g,d,tk,os⟩) l xs:=h1;have l2:Heap.IsList (Shared.heap ⟨hp.push { cls:=.type "list_iterator",data:=.fields #[.ref l,.int 0 0] },g,d,tk,os⟩) m ys:=Heap.IsList.push h2 _
      wp_walk using wpAny_pyIter_list l1,wpAny_pyIter_list l2
      exact ⟨_,rfl,fin _ _ (.inl ⟨⟨_,Heap.get?_push_size _ rfl,rfl,rfl⟩,Heap.IsList.push h1 _⟩) (.inl ⟨⟨_,Heap.get?_push_size _ rfl,rfl,rfl⟩,Heap.IsList.push l2 _⟩)⟩
    · have l1:Heap.IsList (Shared.heap ⟨hp,g,d,tk,os⟩) l xs:=h1;have l2:Heap.IsTuple (Shared.heap ⟨hp.push { cls:=.type "list_iterator",data:=.fields #[.ref l,.int 0 0] },g,d,tk,os⟩) m ys:=Heap.IsTuple.push h2 _
      wp_walk using wpAny_pyIter_list l1,wpAny_pyIter_tuple l2
      exact ⟨_,rfl,fin _ _ (.inl ⟨⟨_,Heap.get?_push_size _ rfl,rfl,rfl⟩,Heap.IsList.push h1 _⟩) (.inr ⟨⟨_,Heap.get?_push_size _ rfl,rfl,rfl⟩,Heap.IsTuple.push l2 _⟩)⟩
    · have l1:Heap.IsTuple (Shared.heap ⟨hp,g,d,tk,os⟩) l xs:=h1;have l2:Heap.IsList (Shared.heap ⟨hp.push { cls:=.type "tuple_iterator",data:=.fields #[.ref l,.int 0 0] },g,d,tk,os⟩) m ys:=Heap.IsList.push h2 _
      wp_walk using wpAny_pyIter_tuple l1,wpAny_pyIter_list l2
      exact ⟨_,rfl,fin _ _ (.inr ⟨⟨_,Heap.get?_push_size _ rfl,rfl,rfl⟩,Heap.IsTuple.push h1 _⟩) (.inl ⟨⟨_,Heap.get?_push_size _ rfl,rfl,rfl⟩,Heap.IsList.push l2 _⟩)⟩
    · have l1:Heap.IsTuple (Shared.heap ⟨hp,g,d,tk,os⟩) l xs:=h1;have l2:Heap.IsTuple (Shared.heap ⟨hp.push { cls:=.type "tuple_iterator",data:=.fields #[.ref l,.int 0 0] },g,d,tk,os⟩) m ys:=Heap.IsTuple.push h2 _
      wp_walk using wpAny_pyIter_tuple l1,wpAny_pyIter_tuple l2
      exact ⟨_,rfl,fin _ _ (.inr ⟨⟨_,Heap.get?_push_size _ rfl,rfl,rfl⟩,Heap.IsTuple.push h1 _⟩) (.inr ⟨⟨_,Heap.get?_push_size _ rfl,rfl,rfl⟩,Heap.IsTuple.push l2 _⟩)⟩
theorem wl {Q:Value->Shared->Prop} {l m:Addr} (h1:vY s.heap l xs) (h2:vY s.heap m ys)
    (h:∀ h',h'.objs.size=s.heap.objs.size+5->yf h' (s.heap.objs.size+4) (s.heap.objs.size+2) (s.heap.objs.size+3) s.heap.objs.size (s.heap.objs.size+1) l m .none 0 xs ys->(∀ c o,s.heap.get? c=some o->h'.get? c=some o) ->
      Q (.ref (s.heap.objs.size+4)) { s with heap:=h' }):wpAny (model prog w) A (call (.type "zip") [.ref l,.ref m]) Q E s:=by
  refine callType_new F.called_zip (by decide) (F.typeCall_zip_2 _ _) (F.newCall_zip_2 _ _) (fun obj=>F.args_object_init_3 obj _ _) F.entry_zip_new (z9 l m xs ys) ⟨h1,h2,fun h' e S k=>?_⟩;exact ⟨⟨_,S.zz,rfl⟩,h h' e S k⟩
end
section
variable {X:Cx} {pins:List (Addr×Obj)} {σ:St} {H:Hp} {s:Shared} {h':Heap}
theorem k9 {t':Nat} {fp:List Addr} (I:aC X pins σ H s) (k:∀ b o,b∉fp->s.heap.get? b=some o->h'.get? b=some o) (hf:∀ b∈fp,lw X pins H b):aC X pins σ H { s with heap:=h',toks:=t' }:=by
  have away:∀ b u,H b=some u->b∉fp:=fun b u e z=>by rw [(hf b z).1] at e;cases e
  have frame:X.env.locals∉fp:=fun z=>(hf _ z).2.1 rfl
  refine I.step (g':=s.gens) (d':=s.drawn) (ch:=fp) (fun b hb=>⟨(hf b hb).2.2.2.1,(hf b hb).2.1,(hf b hb).2.2.2.2.1,(hf b hb).2.2.2.2.2⟩) (fun b o _ _ hc e _=>k b o hc e) (fun b o _ _ hc e _=>⟨o.slots,k b o hc e⟩) (fun _ _ _ _ n=>n)
    (fun b o hc e=>⟨o,k b o hc e⟩) (fun _ _ e=>e) (fun _ _ _ e=>e) (fun b ps e=>⟨#[],by rw [e];simp⟩) (fun m ⟨o,es,ep,ho,r⟩=>⟨o,es,ep,k _ o frame ho,r⟩) (fun b u e=>?_) I.bare
  refine (I.hok b u e).stay (fun c v hc q=>k c v ?_ q) (fun _ q=>q) fun _ _ q=>q
  rcases hc with z | z
  · rw [z];exact away b u e
  · exact away c _ z
theorem xD {h:Heap} {o o':Obj} {b:Addr} (hb:b≠h.objs.size) (e:(h.push o).get? b=some o'):h.get? b=some o':=by
  unfold Heap.get? Heap.push at e;unfold Heap.get?;simp only [Array.getElem?_push] at e;rw [if_neg hb] at e;exact e
theorem yZ {t':Nat} {fp:List Addr} {u1 u2:Value} {v1 v2:V} (I:aC X pins σ H s) (hf:∀ b∈fp,lw X pins H b) (hob:∀ b∈fp,b < s.heap.objs.size) (ht:IsPair h' s.heap.objs.size u1 u2) (k:∀ b o,b∉fp->s.heap.get? b=some o->h'.get? b=some o)
    (r1:bE v1 u1) (r2:bE v2 u2):aC X pins σ (du H s.heap.objs.size (.tup [v1,v2])) { s with heap:=h',toks:=t' }:=by
  have I1:aC X pins σ (du H s.heap.objs.size (.tup [v1,v2])) { s with heap:=s.heap.push { cls:=.type "tuple",data:=.seq #[u1,u2] },toks:=s.toks } :=
    I.laid (fun b u e=>Heap.get?_push_of_some _ e) (Nat.le_refl _) ⟨by show 2<=sizeLine;decide,[u1,u2],.cons r1 (.cons r2 .nil),_,Heap.get?_push_size _ rfl,rfl,⟨_,rfl⟩,rfl⟩
  refine k9 (fp:=fp) (s:={ s with heap:=s.heap.push { cls:=.type "tuple",data:=.seq #[u1,u2] },toks:=s.toks }) I1 (fun b o hb e=>?_) fun b hb=>?_
  · by_cases hz:b=s.heap.objs.size
    · subst hz;have e':(s.heap.push { cls:=.type "tuple",data:=.seq #[u1,u2] }).get? s.heap.objs.size=some o:=e;rw [Heap.get?_push_size _ rfl] at e';cases e';exact ht
    · exact k b o hb (xD hz e)
  · obtain ⟨f0,f1,f2,f3,f4,f5⟩:=hf b hb;exact ⟨by rw [aJ (Nat.ne_of_lt (hob b hb))];exact f0,f1,f2,f3,f4,f5⟩
end
noncomputable def uu (K:PySem.W.Frag) (H:Hp) (a:Addr) (xs:List V):Bool->Prop
  | true=>gm K H a xs
  | false=>lD K H a xs
noncomputable def gu (h:Heap) (i l:Addr) (k:Nat):Bool->Prop
  | true=>h.IsTupleIter i l k
  | false=>h.IsListIter i l k
theorem gu.keep {h h':Heap} {i l:Addr} {k:Nat} {b:Bool} (x:gu h i l k b) (hi:∀ o,h.get? i=some o->h'.get? i=some o):gu h' i l k b:=by
  cases b
  · obtain ⟨o,e,r⟩:=x;exact ⟨o,hi _ e,r⟩
  · obtain ⟨o,e,r⟩:=x;exact ⟨o,hi _ e,r⟩
theorem gu.there {h:Heap} {i l:Addr} {k:Nat} {b:Bool} (x:gu h i l k b):∃ o,h.get? i=some o/\∀ v,o.data≠.cell v:=by
  cases b
  · obtain ⟨o,e,c,d⟩:=x;exact ⟨o,e,fun v z=>by rw [d] at z;cases z⟩
  · obtain ⟨o,e,c,d⟩:=x;exact ⟨o,e,fun v z=>by rw [d] at z;cases z⟩
section
variable {X:Cx} {pins:List (Addr×Obj)} {σ:St} {H:Hp} {s:Shared}
theorem kK {a:Addr} {xs:List V} {b:Bool} (I:aC X pins σ H s) (h:uu X.K H a xs b):∃ its:List Value,bn xs its/\vY s.heap a its.toArray/\∀ (i:Addr) (k:Nat),gu s.heap i a k b->o6 s.heap i a k its.toArray:=by
  cases b
  · obtain ⟨its,rv,p,_⟩:=I.list h;exact ⟨its,rv,.inl p.isList,fun i k z=>.inl ⟨z,p.isList⟩⟩
  · obtain ⟨its,rv,p,_⟩:=I.tuple h;exact ⟨its,rv,.inr p,fun i k z=>.inr ⟨z,p⟩⟩
theorem mK {a:Addr} {xs ys:List V} {b:Bool} (I:aC X pins σ H s) (h:uu X.K H a xs b) (h':uu X.K H a ys b):ys=xs:=by
  cases b
  · exact I.list_inj h' h
  · exact I.tuple_inj h' h
theorem o6.toB {h:Heap} {i l:Addr} {k:Nat} {xs:Array Value} {b:Bool} (hl:∀ ys,(b=true->¬ h.IsList l ys)/\(b=false->¬ h.IsTuple l ys)) (x:o6 h i l k xs):gu h i l k b:=by
  cases b
  · rcases x with ⟨z,w⟩ | ⟨z,w⟩
    · exact z
    · exact absurd w ((hl xs).2 rfl)
  · rcases x with ⟨z,w⟩ | ⟨z,w⟩
    · exact absurd w ((hl xs).1 rfl)
    · exact z
theorem eP {h:Heap} {l:Addr} {xs ys:Array Value} (a:h.IsList l xs) (b:h.IsTuple l ys):False:=by
  obtain ⟨o,e,c,_⟩:=a;obtain ⟨o',e',c',_⟩:=b;rw [e] at e';cases e';rw [c] at c';injection c' with z
  exact absurd z (by decide)
theorem qV {a:Addr} {xs:List V} {b:Bool} (I:aC X pins σ H s) (h:uu X.K H a xs b) {h':Heap} (kp:∀ c o,s.heap.get? c=some o->h'.get? c=some o):∀ ys,(b=true->¬ h'.IsList a ys)/\(b=false->¬ h'.IsTuple a ys):=fun ys=>by
  cases b
  · obtain ⟨its,rv,p,_⟩:=I.list h;refine ⟨fun z=>(by cases z),fun _ w=>?_⟩;obtain ⟨o,e,r⟩:=p.isList;exact eP (h:=h') (xs:=its.toArray) ⟨o,kp _ _ e,r⟩ w
  · obtain ⟨its,rv,p,_⟩:=I.tuple h;refine ⟨fun _ w=>?_,fun z=>by cases z⟩;obtain ⟨o,e,r⟩:=p;exact eP (h:=h') w ⟨o,kp _ _ e,r⟩
end
noncomputable def DN (K:PySem.W.Frag) (l m:Addr) (b c:Bool):It :=
  ⟨fun i H=>∃ xs ys x y,uu K H l xs b/\uu K H m ys c/\xs[i]?=some x/\ys[i]?=some y,
   fun i H v H'=>∃ a x y,H a=none/\v=.ref a/\H'=du H a (.tup [x,y])/\(∀ xs,uu K H l xs b->xs[i]?=some x)/\∀ ys,uu K H m ys c->ys[i]?=some y,
   fun i H=>∃ xs ys,uu K H l xs b/\uu K H m ys c/\(xs.length<=i\/ys.length<=i)⟩
structure EE (z p q i j l m:Addr) (b c:Bool) (k:Nat) (h:Heap):Prop where
  zz:IsZip h z p q .none
  pp:IsPair h p (.ref i) (.ref j)
  qq:∃ a b,IsPair h q a b
  ii:gu h i l k b
  jj:gu h j m k c
theorem x8 {P:Program} {w:World} {K:PySem.W.Frag} {elts:List Expr} {x1} {pos:Pos} {z p q i j l m:Addr} {b c:Bool} (D:ZA z p q i j l m):uw P w K (.Tuple elts x1 pos) (DN K l m b c) [z,p,q,i,j] z (EE z p q i j l m b c) where
  mem:=by simp
  obj:=fun k h st a ha=>by
    simp only [List.mem_cons,List.not_mem_nil,or_false] at ha;rcases ha with rfl | rfl | rfl | rfl | rfl
    · exact ⟨_,st.zz,fun v e=>by cases e⟩
    · exact ⟨_,st.pp,fun v e=>by cases e⟩
    · obtain ⟨_,_,e⟩:=st.qq;exact ⟨_,e,fun v e=>by cases e⟩
    · exact st.ii.there
    · exact st.jj.there
  keep:=fun k h h' st kp=>⟨kp z (by simp) _ st.zz,kp p (by simp) _ st.pp,let ⟨a,b,e⟩:=st.qq;⟨a,b,kp q (by simp) _ e⟩,st.ii.keep fun o e=>kp i (by simp) o e,st.jj.keep fun o e=>kp j (by simp) o e⟩
  item:=by
    intro X hP hw hK hc k pins s σ H E I hf st hg;subst hP hw hK;obtain ⟨xs,ys,x,y,h1,h2,hx,hy⟩:=hg;obtain ⟨its,rv,_,p1⟩:=kK I h1;obtain ⟨jts,rw',_,p2⟩:=kK I h2;obtain ⟨u,hu,ru⟩:=rv.get hx;obtain ⟨v,hv,ry⟩:=rw'.get hy;have S:yf s.heap z p q i j l m .none k its.toArray jts.toArray:=⟨st.zz,st.pp,st.qq,p1 _ _ st.ii,p2 _ _ st.jj⟩
    refine tJ D S (x:=u) (y:=v) (by simpa using hu) (by simpa using hv) fun h' S' hp kp=>⟨_,rfl,?_⟩
    have zlt:z < s.heap.objs.size:=Heap.lt_size st.zz;refine wpAny_letOwnedTupleGo_zip (s:={ s with heap:=h' }) S'.zz fun h2' hz2 sb=>?_
    have up:∀ a o,a≠z->h'.get? a=some o->h2'.get? a=some o:=fun a o ha e=>sb.extBut a o ha e
    have hob:∀ a∈[z,p,q,i,j],a < s.heap.objs.size:=fun a ha=>by
      simp only [List.mem_cons,List.not_mem_nil,or_false] at ha;rcases ha with rfl | rfl | rfl | rfl | rfl
      · exact Heap.lt_size st.zz
      · exact Heap.lt_size st.pp
      · obtain ⟨_,_,e⟩:=st.qq;exact Heap.lt_size e
      · obtain ⟨o,e,_⟩:=st.ii.there;exact Heap.lt_size e
      · obtain ⟨o,e,_⟩:=st.jj.there;exact Heap.lt_size e
    have hn:H s.heap.objs.size=none:=I.hok.fresh (Nat.le_refl _);refine ⟨.ref s.heap.objs.size,_,yZ (s:=s) (t':=s.toks) (fp:=[z,p,q,i,j]) (h':=h2') (u1:=u) (u2:=v) (v1:=x) (v2:=y) I hf hob (up _ _ (Nat.ne_of_gt zlt) hp) (fun a o ha e=>?_) ru ry,rfl,⟨_,x,y,hn,rfl,rfl,fun zs hz=>by rw [mK I h1 hz];exact hx,fun zs hz=>by rw [mK I h2 hz];exact hy⟩,?_,fun a ha=>?_⟩
    · simp only [List.mem_cons,List.not_mem_nil,or_false,not_or] at ha;exact up a o ha.1 (kp a o ha.1 ha.2.2.1 ha.2.2.2.1 ha.2.2.2.2 e)
    · have i2:gu h' i l (k+1) b:=by
        refine S'.ii.toB fun ys=>?_
        cases hb:b
        · subst hb;refine ⟨fun z=>(by cases z),fun _ w=>?_⟩;obtain ⟨_,_,pl,_⟩:=I.list h1;obtain ⟨o,e,r⟩:=pl.isList;exact eP (h:=h') (xs:=_) ⟨o,kp _ _ D.lz D.lq D.li D.lj e,r⟩ w
        · subst hb;refine ⟨fun _ w=>?_,fun z=>by cases z⟩;obtain ⟨_,_,pl,_⟩:=I.tuple h1;obtain ⟨o,e,r⟩:=pl;exact eP (h:=h') w ⟨o,kp _ _ D.lz D.lq D.li D.lj e,r⟩
      have j2:gu h' j m (k+1) c:=by
        refine S'.jj.toB fun ys=>?_
        cases hb:c
        · subst hb;refine ⟨fun z=>(by cases z),fun _ w=>?_⟩;obtain ⟨_,_,pl,_⟩:=I.list h2;obtain ⟨o,e,r⟩:=pl.isList;exact eP (h:=h') (xs:=_) ⟨o,kp _ _ D.mz D.mq D.mi D.mj e,r⟩ w
        · subst hb;refine ⟨fun _ w=>?_,fun z=>by cases z⟩;obtain ⟨_,_,pl,_⟩:=I.tuple h2;obtain ⟨o,e,r⟩:=pl;exact eP (h:=h') w ⟨o,kp _ _ D.mz D.mq D.mi D.mj e,r⟩
      exact ⟨hz2,up _ _ D.pz S'.pp,let ⟨a,b,e⟩:=S'.qq;⟨a,b,up _ _ D.qz e⟩,i2.keep fun o e=>up _ _ D.iz e,j2.keep fun o e=>up _ _ D.jz e⟩
    · rw [aJ (Nat.ne_of_lt (hob a ha))];exact (hf a ha).1
  done:=by
    intro X hP hw hK hc k pins s σ H E I hf st hg;subst hP hw hK;obtain ⟨xs,ys,h1,h2,hl⟩:=hg;obtain ⟨its,rv,_,p1⟩:=kK I h1;obtain ⟨jts,rw',_,p2⟩:=kK I h2;have S:yf s.heap z p q i j l m .none k its.toArray jts.toArray:=⟨st.zz,st.pp,st.qq,p1 _ _ st.ii,p2 _ _ st.jj⟩
    have e1:=rv.length;have e2:=rw'.length;refine vO (I.ok.hd hc) D S ?_ fun h' kp=>⟨rfl,k9 (t':=s.toks) (fp:=[z,p,q,i,j]) I (fun a o ha e=>?_) hf⟩
    · rcases hl with hl | hl
      · left;simp;omega
      · right;simp;omega
    · simp only [List.mem_cons,List.not_mem_nil,or_false,not_or] at ha;exact kp a o ha.1 ha.2.2.1 ha.2.2.2.1 ha.2.2.2.2 e
  self:=fun _ _ _ _ _ st h=>wpAny_pyIter_zip st.zz h
noncomputable def Ab (H:Hp) (a:Addr) (ds:List PyData):Bool->Prop
  | true=>∃ vs,H a=some (.tup vs)/\bF H ds vs
  | false=>∃ o vs,H a=some (.frz o (.lst vs))/\bF H ds vs
theorem Ab.sq {K:PySem.W.Frag} {H:Hp} {a:Addr} {ds:List PyData} {b:Bool} (h:Ab H a ds b):∃ vs,uu K H a vs b/\bF H ds vs:=by
  cases b
  · obtain ⟨o,vs,e,r⟩:=h;exact ⟨vs,.inl (.inr ⟨o,e⟩),r⟩
  · obtain ⟨vs,e,r⟩:=h;exact ⟨vs,gm.of e,r⟩
theorem Ab.kp {H H':Hp} {a:Addr} {ds:List PyData} {b:Bool} (h:Ab H a ds b) (k:Kp H H'):Ab H' a ds b:=by
  cases b
  · obtain ⟨o,vs,e,r⟩:=h;exact ⟨o,vs,k.2 _ _ _ e,bF.kp k _ _ r⟩
  · obtain ⟨vs,e,r⟩:=h;exact ⟨vs,k.1 _ _ e,bF.kp k _ _ r⟩
noncomputable def CB (p:PyData×PyData):PyData:=.tuple [p.1,p.2]
noncomputable def nO (xs ys:List PyData):List PyData:=(xs.zip ys).map CB
theorem yc {xs ys:List PyData} {i:Nat} {d:PyData} (h:(nO xs ys)[i]?=some d):∃ x y,xs[i]?=some x/\ys[i]?=some y/\d=.tuple [x,y]:=by
  unfold nO at h;rw [List.getElem?_map] at h;cases e:(xs.zip ys)[i]? with
  | none=>rw [e] at h;cases h
  | some p =>
    rw [e] at h;obtain ⟨h1,h2⟩:=List.getElem?_zip_eq_some.mp e;exact ⟨p.1,p.2,h1,h2,(Option.some.inj h).symm⟩
theorem rO (xs ys:List PyData):(nO xs ys).length=min xs.length ys.length:=by unfold nO;simp
theorem zd {K:PySem.W.Frag} {l m:Addr} {b c:Bool} {xs ys:List PyData}:Aa (DN K l m b c) (fun H=>Ab H l xs b/\Ab H m ys c) (nO xs ys) where
  go:=fun i H ⟨h1,h2⟩ hi=>by
    rw [rO] at hi;obtain ⟨vs,s1,r1⟩:=h1.sq (K:=K);obtain ⟨us,s2,r2⟩:=h2.sq (K:=K);obtain ⟨x,hx,_⟩:=r1.get (List.getElem?_eq_getElem (show i < xs.length by omega));obtain ⟨y,hy,_⟩:=r2.get (List.getElem?_eq_getElem (show i < ys.length by omega));exact ⟨vs,us,x,y,s1,s2,hx,hy⟩
  yld:=fun i H v H' d ⟨h1,h2⟩ hd h=>by
    obtain ⟨a,x,y,ha,rfl,rfl,k1,k2⟩:=h;obtain ⟨vs,s1,r1⟩:=h1.sq (K:=K);obtain ⟨us,s2,r2⟩:=h2.sq (K:=K);obtain ⟨dx,dy,e1,e2,rfl⟩:=yc hd;obtain ⟨x',hx,px⟩:=r1.get e1;obtain ⟨y',hy,py⟩:=r2.get e2;have q1:=k1 vs s1;have q2:=k2 us s2;rw [hx] at q1;rw [hy] at q2;cases q1;cases q2;exact ⟨bT ha _,dF ha (bF.cons px (bF.cons py bF.nil))⟩
  stop:=fun i H ⟨h1,h2⟩ hi=>by
    rw [rO] at hi;obtain ⟨vs,s1,r1⟩:=h1.sq (K:=K);obtain ⟨us,s2,r2⟩:=h2.sq (K:=K);have l1:=r1.length;have l2:=r2.length;exact ⟨vs,us,s1,s2,by omega⟩
theorem B2 {n l m:Nat} (hl:l < n) (hm:m < n):ZA (n+4) (n+2) (n+3) n (n+1) l m:=by
  refine ⟨?_,?_,?_,?_,?_,?_,?_,?_,?_,?_,?_,?_,?_,?_,?_,?_,?_,?_⟩ <;> (intro z;have z':(_:Nat)=_:=z;omega)
section
variable {X:Cx} {elts:List Expr} {x1:Nat} {tp:Pos} {a b:Expr} {fa fb:Fe} {pos p:Pos} {nl:Nat} {G:List Str} {fs:aE->R (List PyData)}
noncomputable def EH (K:PySem.W.Frag) (ta:TA):TI:=fun σ H R=>ta σ H fun vs H1=>∃ l m xs ys b c,vs=[.ref l,.ref m]/\uu K H1 l xs b/\uu K H1 m ys c/\R (DN K l m b c) H1
theorem By {ta:TA} (hg:Gl X "zip") (hm:X.mg "zip" = none) (ha:PA X [a,b] ta) (hs:starEach [a,b] X.env=[(false,eval a X.env),(false,eval b X.env)]) (hs2:starEach [b] X.env=[(false,eval b X.env)]) :
    PI X (.Tuple elts x1 tp) (.Call (.Name "zip" p) [a,b] [] pos) (EH X.K ta):=by
  intro pins s σ H R I h;refine Call_ (jH I hg hm boot_zip (PyProof.Rows.callWith_type1 (cS (ha pos pins s σ H _ I h) fun us s1 ⟨vs,H1,I1,r1,q1⟩=>?_) (by rw [hs,hs2]) (by rw [hs2];rfl)));obtain ⟨l,m,xs,ys,b,c,e,h1,h2,q⟩:=q1;subst e;obtain ⟨u,v,rfl,ru,rv⟩:=oS r1;cases ru;cases rv;obtain ⟨its,w1,p1,g1⟩:=kK I1 h1;obtain ⟨jts,w2,p2,g2⟩:=kK I1 h2;have ll:l < s1.heap.objs.size:=by rcases p1 with ⟨o,e,_⟩ | ⟨o,e,_⟩ <;> exact Heap.lt_size e
  have lm:m < s1.heap.objs.size:=by rcases p2 with ⟨o,e,_⟩ | ⟨o,e,_⟩ <;> exact Heap.lt_size e
  refine wl p1 p2 fun h' hz S kp=>wpAny_pyIter_zip S.zz ?_
  have D:=B2 ll lm;have I2:aC X pins σ H1 { s1 with heap:=h' }:=I1.kept (t':=s1.toks) kp;have i2:gu h' s1.heap.objs.size l 0 b:=S.ii.toB (qV I1 h1 kp);have j2:gu h' (s1.heap.objs.size+1) m 0 c:=S.jj.toB (qV I1 h2 kp);refine ⟨_,[s1.heap.objs.size+4,s1.heap.objs.size+2,s1.heap.objs.size+3,s1.heap.objs.size,s1.heap.objs.size+1],_,_,H1,rfl,I2,x8 (b:=b) (c:=c) D,⟨S.zz,S.pp,S.qq,i2,j2⟩,fun a ha=>?_,q⟩;have hle:s1.heap.objs.size<=a:=by
    simp only [List.mem_cons,List.not_mem_nil,or_false] at ha;rcases ha with rfl | rfl | rfl | rfl | rfl
    · exact Nat.le_add_right _ 4
    · exact Nat.le_add_right _ 2
    · exact Nat.le_add_right _ 3
    · exact Nat.le_refl _
    · exact Nat.le_add_right _ 1
  exact I1.fpOk hle (I1.hok.fresh hle)
noncomputable def yV (fa fb:Fe):aE->R (List PyData):=fun ρ=>fa ρ>>=fun x=>fb ρ>>=fun y=>jQ x>>=fun xs=>jQ y>>=fun ys=>.ok (nO xs ys)
theorem xM {H:Hp} {d:PyData} {v:V} {ds:List PyData} (h:Rp H d v) (e:jQ d=.ok ds):∃ a b,v=.ref a/\Ab H a ds b:=by
  cases d with
  | list xs =>
    cases e;simp only [Rp] at h;obtain ⟨a,o,vs,rfl,h,r⟩:=h;exact ⟨a,false,rfl,o,vs,h,r⟩
  | tuple xs =>
    cases e;simp only [Rp] at h;obtain ⟨a,vs,rfl,h,r⟩:=h;exact ⟨a,true,rfl,vs,h,r⟩
  | _=>cases e
theorem vZ (T:Tb X nl G) (j:Nat) (hG:G[j]?=some ("zip" : Str)) (hm:X.mg "zip" = none) (ha:Z.cE X a fa) (hb:Z.cE X b fb) (h1:aH a=true:=by rfl) (h2:aH b=true:=by rfl):Z.qb X (.Tuple elts x1 tp) (.Call (.Name "zip" p) [a,b] [] pos) (yV fa fb):=⟨have ha:=ha.un;have hb:=hb.un;by
  have g:=T.gl _ (List.mem_of_getElem? hG);refine PI.imp (By g.1 hm (iR ha (iR hb mD h2) h1) (by rw [aS h1,aS h2];rfl) (by rw [aS h2];rfl)) fun σ H Rk h=>?_
  obtain ⟨ρ,sl,q⟩:=h;unfold yV at q;refine ⟨ρ,sl,?_⟩;unfold ai aD;cases e1:fa ρ with
  | ex c=>rw [e1] at q;exact q
  | no=>rw [e1] at q;exact q
  | ok x =>
    rw [e1] at q;simp only [R.ok_bind] at q ⊢;cases e2:fb ρ with
    | ex c=>rw [e2] at q;exact q
    | no=>rw [e2] at q;exact q
    | ok y =>
      rw [e2] at q;simp only [R.ok_bind] at q ⊢;cases e3:jQ x with
      | ex c=>exact absurd e3 (by cases x <;> simp [jQ])
      | no=>rw [e3] at q;exact q.elim
      | ok xs =>
        rw [e3] at q;simp only [R.ok_bind] at q;cases e4:jQ y with
        | ex c=>exact absurd e4 (by cases y <;> simp [jQ])
        | no=>rw [e4] at q;exact q.elim
        | ok ys =>
          rw [e4] at q;simp only [R.ok_bind] at q;intro vs H1 s1 ra;simp only [RA] at ra;obtain ⟨v,r',rfl,p1,v',r'',rfl,p2,rfl⟩:=ra;obtain ⟨l,b1,rfl,d1⟩:=xM p1 e3;obtain ⟨m,b2,rfl,d2⟩:=xM p2 e4;obtain ⟨us,u1,_⟩:=d1.sq (K:=X.K);obtain ⟨ws,u2,_⟩:=d2.sq (K:=X.K);exact ⟨l,m,us,ws,b1,b2,rfl,u1,u2,q _ H1 s1 ⟨_,zd,fun H2 k _=>⟨d1.kp k,d2.kp k⟩⟩⟩⟩
end
noncomputable def nT (i j:Nat):PyData->aE->Option aE
  | .tuple [x,y],ρ=>some ((ρ.set i (.val x)).set j (.val y))
  | _,_=>none
section
variable {X:Cx} {nl:Nat} {G:List Str} {x y:Str} {k:Nat} {p1 p2 pos:Pos}
theorem ux (T:Tb X nl G) (i j:Nat) (hi:(X.N.take nl)[i]?=some x) (hj:(X.N.take nl)[j]?=some y):Z.qa X (.Tuple [.Name x p1,.Name y p2] k pos) (nT i j):=⟨by
  obtain ⟨i1,i2,i3⟩:=T.nm hi;obtain ⟨j1,j2,j3⟩:=T.nm hj;refine PG.imp (Bx T.calm (rl (pY T.nd i1 i2 i3) (rl (pY T.nd j1 j2 j3) zw))) fun v σ H Q ⟨ρ,d,sl,p,q⟩=>?_
  unfold nT at q;split at q
  · rename_i e;split at e
    · rename_i ρ0 dx dy;cases e;simp only [Rp] at p;obtain ⟨a,vs,rfl,ha,r⟩:=p;obtain ⟨u,r1,rfl,pu,r⟩:=r.cons_inv;obtain ⟨w,r2,rfl,pw,r⟩:=r.cons_inv;rw [r.nil_inv] at ha;refine ⟨a,[u,w],rfl,gm.of ha,rfl,u,[w],rfl,w,[],rfl,rfl,?_⟩;refine q _ (Sl.set (c:=.val dy) (o:=some w) (Sl.set (c:=.val dx) (o:=some u) sl i ⟨u,rfl,pu⟩) j ⟨w,rfl,pw⟩) fun n e h=>?_
      obtain ⟨n1,h⟩:=cH (fun e z=>by cases z) h;obtain ⟨n2,h⟩:=cH (fun e z=>by cases z) h;exact ⟨h,by rw [List.getElem?_set,if_neg n1,List.getElem?_set,if_neg n2]⟩
    · cases e
  · exact q.elim⟩
end
open AutoSeq1 (wpAny_loadPart')
end D2
namespace D2
open PySem PySem.Spec PyProof.Rows L2
section
variable {X:Cx} {nl:Nat} {G:List Str} {x:Str} {e:Expr} {f:Fe} {q1 q2 q3 q4:Pos}
theorem qy (T:Tb X nl G) (n:Nat) (hN:X.N[n]?=some x) (he:Z.cE X e f) (hst:aH e=true:=by rfl) (hline:(q2.endLine==q3.line)=true:=by rfl) (hs:swapsWith (.Call (.Attribute (.Name x q1) "append" q2) [e] [] q3) none q4.line X.env=pure false:=by rfl) (hbase:attributeBase (.Name x q1) "append" X.env (eval (.Name x q1) X.env)=eval (.Name x q1) X.env:=by rfl):Z.kU X (.Expr (.Call (.Attribute (.Name x q1) "append" q2) [e] [] q3) q4) (iZ n f):=⟨have he:=he.un;fun Fm=>by
  have hm:=T.vis x (List.mem_of_getElem? hN);have sc:starEach [e] X.env=(false,eval e X.env)::starEach [] X.env:=aS hst;refine PS.imp (zC (Ao PySem.F.plainAttrs_list PySem.F.slot_list_append PySem.F.type_list_append oA (hR hN hm.1 hm.2.1 hm.2.2) (iR he mD hst) hbase (by rw [sc];rfl) hline sc rfl) hs) fun D σ H h=>?_
  obtain ⟨ρ,sl,q⟩:=h;unfold iZ at q;cases ef:f ρ with
  | ex c=>rw [ef] at q;exact q.elim
  | no=>rw [ef] at q;exact q.elim
  | ok d =>
    rw [ef] at q;simp only [oF,R.ok_bind] at q;cases er:ρ[n]? with
    | none=>rw [er] at q;exact q.elim
    | some c =>
      rw [er] at q;cases c with
      | non=>exact q.elim
      | exc p=>exact q.elim
      | val d'=>exact q.elim
      | own d' =>
        cases d' with
        | list ds =>
          dsimp only at q;by_cases hz:ds.length < sizeLine
          · rw [if_pos hz] at q;obtain ⟨o,h2,w',rfl,p2⟩:=sl.sl.at er;simp only [jb] at p2;obtain ⟨a',vs,rfl,ha,r⟩:=p2;refine ⟨.ref a',h2,.inl ⟨rfl,_,lD.of ha⟩,ρ,sl.sl,?_⟩;unfold ai aD;rw [ef];intro us H1 s1 ra;simp only [RA] at ra;obtain ⟨v,r',rfl,p1,rfl⟩:=ra;have ha1:=s1 _ _ ha;refine ⟨a',vs,v,rfl,rfl,ha1,by rw [r.length];exact hz,q _ _ ((sl.mono s1).change er h2 ha1 (.inl ⟨_,rfl⟩) ?_)⟩;simp only [jb];exact ⟨a',_,rfl,cj,bF.kp (iJ ha1 (.inl ⟨_,rfl⟩)) _ _ (bF.append (r.mono s1) (bF.cons p1 bF.nil))⟩
          · rw [if_neg hz] at q;exact q.elim
        | _=>exact q.elim⟩
end
noncomputable def lJ (g:Fs):Fs:=fun ρ=>oF (g ρ)
theorem Tb.nox {X:Cx} {nl:Nat} {G:List Str} (T:Tb X nl G):Tb X.nox nl G:=⟨T.hu,T.calm,T.nd,T.vis,T.loc,T.gl⟩
section
variable {X:Cx} {nl:Nat} {G:List Str} {st:Stmt} {g:Fs} {pos:Pos}
theorem dL (h:Z.kU X.nox st g):Z.kU X st (lJ g):=⟨have h:=h.un;fun Fm=>by
  intro pins s σ H D I ⟨ρ,sl,q⟩;refine wpAny_mono (h Fm pins s σ H D (I.wish _) ⟨ρ,sl,?_⟩) (fun _ _ q=>q.unwish) fun _ _ z=>False.elim z
  unfold lJ at q;cases e:g ρ with
  | ok o =>
    rw [e] at q;cases o <;> exact q
  | ex c=>rw [e] at q;exact q.elim
  | no=>rw [e] at q;exact q.elim⟩
noncomputable def dP (t:aE->R Bool) (g:Fs):Nat->Fs
  | 0,_=>.no
  | n+1,ρ=>t ρ>>=fun b=>if b=true then g ρ>>=fun o=>(match o with
      | .nx ρ2=>dP t g n ρ2
      | .ct ρ2=>dP t g n ρ2
      | .bk ρ2=>.ok (.nx ρ2)
      | .rt r=>.ok (.rt r)) else .ok (.nx ρ)
noncomputable def xO (n:Nat) (t:aE->R Bool) (g:Fs):Fs:=dP t g n
theorem sf {c:Expr} {body:List Stmt} {t:aE->R Bool} (n:Nat) (hp:PassesOwn (model X.prog X.w) X.A X.env X.xe) (ht:Z.nC X c t) (hb:Z.kz X body g):Z.kU X (.While c body [] pos) (xO n t g):=⟨have ht:=ht.un;have hb:=hb.un;fun Fm=>by
  refine PS.imp (xA hp ht (hb Fm)) fun D σ H ⟨ρ,sl,q⟩=>⟨fun m σ' H'=>∃ ρ',gv Fm H' σ' ρ'/\ym X Fm (dP t g m ρ') D,⟨n,ρ,sl,q⟩,fun m σ1 H1 ⟨ρ1,sl1,q1⟩=>?_⟩
  cases m with
  | zero=>exact q1.elim
  | succ k =>
    have q2:As X Fm (fun ρ=>t ρ>>=fun b=>if b=true then g ρ>>=fun o=>(match o with
      | .nx ρ2=>dP t g k ρ2
      | .ct ρ2=>dP t g k ρ2
      | .bk ρ2=>.ok (.nx ρ2)
      | .rt r=>.ok (.rt r)) else .ok (.nx ρ)) D σ1 H1:=⟨ρ1,sl1,q1⟩
    refine (tN (f:=t) (k:=fun ρ b=>if b=true then g ρ>>=fun o=>(match o with
      | .nx ρ2=>dP t g k ρ2
      | .ct ρ2=>dP t g k ρ2
      | .bk ρ2=>.ok (.nx ρ2)
      | .rt r=>.ok (.rt r)) else .ok (.nx ρ)) q2).post fun b H2 ⟨ρ2,sl2,_,q3⟩=>?_
    cases b with
    | false=>exact q3 σ1 H2 sl2
    | true =>
      have q4:ym X Fm (g ρ2>>=fun o=>(match o with
      | .nx ρ2=>dP t g k ρ2
      | .ct ρ2=>dP t g k ρ2
      | .bk ρ2=>.ok (.nx ρ2)
      | .rt r=>.ok (.rt r))) D:=q3
      show if true=true then _ else _
      rw [if_pos rfl];refine ⟨fun σ' H'=>∃ ρ',gv Fm H' σ' ρ'/\ym X Fm (dP t g k ρ') D,fun σ' H' z=>⟨k,Nat.lt_succ_self k,z⟩,ρ2,sl2,?_⟩;cases eg:g ρ2 with
      | ex c=>rw [eg] at q4;exact q4
      | no=>rw [eg] at q4;exact q4
      | ok o =>
        rw [eg] at q4;cases o with
        | nx ρ4=>exact fun σ' H' s'=>⟨ρ4,s',q4⟩
        | ct ρ4=>exact fun σ' H' s'=>⟨ρ4,s',q4⟩
        | bk ρ4=>exact q4
        | rt r=>exact q4⟩
end
abbrev kZ:List Value:=[.type "ValueError",.type "Exception",.type "BaseException",.type "object"]
abbrev kI:String := "ValueError.__new__"
section
variable {K:PySem.W.Frag} {h:Heap} {C:Addr}
noncomputable def nP (h:Heap) (C:Addr) (bm:List Value):Prop:=∃ N nm q bs hdct sn sub ab col dd k0 k1 k2 k3 k5 mN,h.get? C=some (excClassObj nm q C N bs bm hdct sn sub ab col dd k0 k1 k2 k3 k5 kI)/\h.Ns N mN/\mN "__init__" = none/\OwnTail h kZ bm
theorem nP.keep {h':Heap} {bm:List Value} (c:nP h C bm) (k:∀ b o,h.get? b=some o->h'.get? b=some o):nP h' C bm :=
  let ⟨N,nm,q,bs,hdct,sn,sub,ab,col,dd,k0,k1,k2,k3,k5,mN,hC,hN,hni,T⟩:=c
  ⟨N,nm,q,bs,hdct,sn,sub,ab,col,dd,k0,k1,k2,k3,k5,mN,k _ _ hC,hN.keeps k,hni,T.keeps k⟩
noncomputable def fu (K:PySem.W.Frag) (C:Addr):List Value:=match K.lookup C with
  | some ⟨_,_,.cls cd,_⟩=>cd.mro.drop 1
  | _=>[]
theorem mm (X:K.In h) (q:PySem.W.excIn K C kZ kI=true):nP h C (fu K C):=by
  unfold PySem.W.excIn at q;unfold fu;cases hk:K.lookup C with
  | none=>rw [hk] at q;cases q
  | some ob =>
    rw [hk] at q;split at q
    · rename_i dd cd sl ho;cases ho;split at q
      · rename_i C' bm k0 k1 k2 k3 n k5 hm hs;simp only [Bool.not_eq_true',beq_iff_eq,Bool.and_eq_true] at q;obtain ⟨⟨⟨⟨⟨e1,e2⟩,hdel⟩,ht⟩,hok⟩,hni⟩:=q;subst e1;subst e2;obtain ⟨nm,bs,mro,ns,qn,hd,sn,sub,ab,col,del⟩:=cd;dsimp only at hm hdel hok hni ⊢;subst hm;subst hdel;have hsl:sl=#[k0,k1,k2,k3,some (.builtin kI),k5]:=by
          obtain ⟨l⟩:=sl;simp only at hs;rw [hs]
        subst hsl;exact ⟨ns,nm,qn,bs,hd,sn,sub,ab,col,dd,k0,k1,k2,k3,k5,_,X _ _ hk,.of_isNs (PySem.W.isNs_of_in X hok),PySem.W.nsMap_none_of_in X hok hni,PySem.W.tail_of_in X ht⟩
      · cases q
    · cases q
end
noncomputable def kR (x:Str) (f:Fe):Fs:=fun ρ=>oF (f ρ)>>=fun _=>.ex x
section
variable {X:Cx} {nl:Nat} {G:List Str} {x:Str} {e:Expr} {f:Fe} {np cp pos:Pos} {C:Addr}
theorem gV (T:Tb X nl G) (j:Nat) (hG:G[j]?=some x) (hm:X.mg x=some (.ref C)) (hq:PySem.W.excIn X.K C kZ kI=true) (he:Z.cE X.nox e f) (hst:aH e=true:=by rfl):Z.kU X (.Raise (some (.Call (.Name x np) [e] [] cp)) none pos) (kR x f):=⟨have he:=he.un;fun Fm=>by
  intro pins s σ H D I ⟨ρ,sl,q⟩;have hg:=T.gl x (List.mem_of_getElem? hG);have sc:starEach [e] X.env=(false,eval e X.env)::starEach [] X.env:=aS hst;obtain ⟨N,nm,qn,bs,hdct,sn,sub,ab,col,dd,k0,k1,k2,k3,k5,mN,hC,hN,hni,TL⟩:=mm (I.ok.mod.kin) hq;unfold kR at q;cases ef:f ρ with
  | ex c=>rw [ef] at q;exact q.elim
  | no=>rw [ef] at q;exact q.elim
  | ok d =>
    rw [ef] at q;simp only [oF,R.ok_bind] at q;refine wpAny_Raise_call_subT (C:=C) (nm:=nm) (q:=qn) (N:=N) (bs:=bs) (bm:=fu X.K C) (hdct:=hdct) (sn:=sn) (sub:=sub) (ab:=ab) (col:=col) (dd:=dd) (k0:=k0) (k1:=k1) (k2:=k2) (k3:=k3) (k5:=k5) PySem.F.excBase_ValueError (mN:=mN) (TL.hasType rfl) (I.ok.hd T.calm) (by rw [sc];rfl) hni (lR I hg.1 hm ⟨rfl,?_⟩ hg.2.1);rw [sc];refine Calls.evalArgs_plain (wpAny_mono ?_ (fun vs s2 z=>⟨rfl,z⟩) fun _ _ y=>y);have ha:PA X.nox [e] (xJ X.nox Rp (ai f aD)):=iR he mD hst;have hw:=ha cp pins s σ H (fun vs H'=>vs.length=1/\ar H H') (I.wish _) ⟨ρ,sl.sl,by
      unfold ai aD;rw [ef];intro vs H' s' ra;simp only [RA] at ra;obtain ⟨v,r,rfl,_,rfl⟩:=ra;exact ⟨rfl,s'⟩⟩
    rw [show (X.nox.env)=X.env from rfl,sc] at hw;refine wpAny_mono hw (fun us s2 ⟨vs,H2,I2,r2,hl,s12⟩=>?_) fun _ _ z=>False.elim z
    have I2:=I2.unwish;have hlen:us.length=1:=by rw [<- r2.length];exact hl
    exact ⟨by rw [hlen];decide,I2.bk _ _ hC,hN.keeps I2.bk,TL.keeps I2.bk,fun h' p mk=>q.2 C hm pins σ H2 s2 (sl.fm.trans s12) I2 h' p us mk⟩⟩
end
section
variable {P:Program} {w:World} {l:List Env} {H H':Hp} {s s':Shared} {C p:Addr} {e:Value}
theorem kW.again {a0:Value} {B h':Heap} (f:kW P w l H s C H' e s') (fly:Heap.FlyingW B l p (.ref C) a0 s'.heap) (fly':Heap.FlyingW B l p (.ref C) a0 h') (up:s'.heap.UpToSlots h') (okB:gj P w H' B) (hp:H' p=none)
    (cov:∀ b o,s.heap.get? b=some o->H b=none->b∉jR l->B.get? b=some o/\H' b=none):kW P w l H s C H' (.ref p) { s' with heap:=h' }:=by
  refine ⟨f.os,f.bare,f.same,⟨p,a0,B,rfl,fly',okB,hp,cov⟩,fun b o q n hb=>?_⟩;obtain ⟨⟨sl,q2⟩,n2⟩:=f.slot b o q n hb;obtain ⟨_,o3,q3,nf⟩:=fly.2.2.1.mem hb;rw [q2] at q3;cases q3;obtain ⟨sl3,q4⟩:=up b _ q2 nf;exact ⟨⟨sl3,q4⟩,n2⟩
theorem kW.land {M:Model} {A:Around} {E:Value->Shared->Prop} {Q:Unit->Shared->Prop} (f:kW P w l H s C H' (.ref p) s') (k:∀ h',kW P w l H s C H' (.ref p) { s' with heap:=h' }->Q () { s' with heap:=h' }):wpAny M A (setFlight (.ref p) none) Q E s':=by
  obtain ⟨p',a0,B,ep,fly,okB,hp,cov⟩:=f.ex;cases ep;exact lands_againW fly fun h' fly' up=>k h' (f.again fly fly' up okB hp cov)
theorem kW.look {M:Model} {A:Around} {E:Value->Shared->Prop} {Q:Unit->Shared->Prop} {env:Env} {outer:List Env} {L:Addr} (f:kW P w (env::outer) H s C H' e s') (hfr:A.frames=some (env::outer)) (hf:env.frame=some L)
    (k:∀ p h',e=.ref p->kW P w (env::outer) H s C H' (.ref p) { s' with heap:=h' }->Q () { s' with heap:=h' }):wpAny M A (noteFrame e env) (fun _ s2=>wpAny M A (setFlight e none) Q E s2) E s':=by
  obtain ⟨p,a0,B,rfl,fly,okB,hp,cov⟩:=f.ex;refine wpAny_looks_onW hfr hf fly fun h4 held up4=>?_
  exact wpAny_landsW (s:={ s' with heap:=h4 }) held fun h5 fly5 up5=>k p h5 rfl (f.again fly fly5 (up4.trans up5) okB hp cov)
theorem kW.obj (f:kW P w l H s C H' (.ref p) s'):∃ ob vs,s'.heap.get? p=some ob/\ob.cls=.ref C/\ob.data=.fields vs/\H' p=none/\p∉jR l:=by
  obtain ⟨p',a0,B,ep,fly,okB,hp,cov⟩:=f.ex;cases ep;obtain ⟨oe,ws,h1,h2,h3,_⟩:=fly.first;refine ⟨oe,ws,h1,h2,h3,hp,fun hm=>?_⟩;obtain ⟨_,o,ho,hnf⟩:=fly.2.2.1.mem hm;rw [h1] at ho;cases ho;exact hnf ws h3
end
theorem kW.inv {X:Cx} {pins:List (Addr×Obj)} {σ:St} {Hc H1:Hp} {sc s':Shared} {C:Addr} {e:Value} (f:kW X.prog X.w X.stack Hc sc C H1 e s') (I:aC X pins σ Hc sc):aC X pins σ H1 s' :=
  I.call' f.os f.un f.hok f.bare fun b z=>absurd z (by simp)
noncomputable def Xh (X:Cx) (p:Addr) (ob:Obj):Cx:={ X with A:=X.A.mark (some (.ref p)),calm:=false,xe:=fun _ _=>False,pn:=(p,ob)::X.pn }
section
variable {X:Cx} {pins:List (Addr×Obj)} {σ:St} {H:Hp} {s:Shared} {p:Addr} {ob:Obj}
theorem wJ (I:aC X pins σ H s) (hp:s.heap.get? p=some ob) (hn:H p=none) (hl:p≠X.env.locals) (hf:p∉X.fs) (hc:∀ v,ob.data≠.cell v):aC (Xh X p ob) pins σ H s:=by
  refine ⟨⟨I.ok.mod,I.ok.kind,I.ok.glob,I.ok.blt,I.ok.above,I.ok.inj,I.ok.has,I.ok.cab,fun z=>(by cases z),I.ok.frames,I.ok.stk,I.ok.exf,I.ok.bs,I.ok.bsz,I.ok.noex,I.ok.exfs,I.ok.funs,I.ok.frf⟩,I.os,I.bare,I.base,I.loc,I.cell,I.free,I.freeC,fun q hq=>?_,I.hok,I.len⟩;have hq':q∈(p,ob)::(X.pn++pins):=hq;rcases List.mem_cons.mp hq' with rfl | z
  · exact ⟨hp,hn,hl,hf,hc⟩
  · exact I.pin q z
theorem sK (ok:X.Ok) (I:aC (Xh X p ob) pins σ H s):aC X pins σ H s :=
  ⟨ok,I.os,I.bare,I.base,I.loc,I.cell,I.free,I.freeC,fun q hq=>I.pin q (List.mem_cons_of_mem _ hq),I.hok,I.len⟩
end
structure Cf (X:Cx) (nl:Nat) (G:List Str):Prop where
  hu:X.A.units+64 < cLine
  nd:X.N.Nodup
  vis:∀ x∈X.N,B5 X.env.scope x/\(x==("__debug__" : Str))=false/\(x==("__classdict__" : Str))=false
  loc:∀ x∈X.N.take nl,AC X.env.scope x/\(X.fn x=true\/X.env.scope.names.lookup x=some .local)
  gl:∀ x∈G,Gl X x/\(x==("__debug__" : Str))=false/\x≠("__name__" : Str)
theorem Tb.h {X:Cx} {nl:Nat} {G:List Str} (T:Tb X nl G) (p:Addr) (ob:Obj):Cf (Xh X p ob) nl G:=⟨T.hu,T.nd,T.vis,T.loc,T.gl⟩
section
variable {M:Model} {A:Around} {E:Value->Shared->Prop} {s:Shared} {C C2 p:Addr} {bm bm2:List Value} {ob:Obj} {Q:Bool->Shared->Prop}
theorem uT (hC:nP s.heap C bm) (hC2:nP s.heap C2 bm2) (he:s.heap.get? p=some ob) (hc:ob.cls=.ref C) (h:Q ((Value.ref C::bm).contains (.ref C2)) s):wpAny M A (excMatches (.ref p) (.ref C2)) Q E s:=by
  obtain ⟨N,nm,qn,bs,hdct,sn,sub,ab,col,dd,k0,k1,k2,k3,k5,mN,hC,hN,hni,TL⟩:=hC;obtain ⟨N',nm',qn',bs',hdct',sn',sub',ab',col',dd',k0',k1',k2',k3',k5',mN',hC2,hN',hni',TL'⟩:=hC2;obtain ⟨hp,g,d,tk,os⟩:=s;have hb2:(Value.ref C2::bm2).contains (.type "BaseException")=true:=by rw [List.contains_cons,show bm2.contains (.type "BaseException")=true from TL'.hasType (by decide),Bool.or_true]
  have f:=tc_notTuple;unfold excMatches
  repeat (first | (with_reducible refine wpAny_loadPart_at he ?_;rw [hc]) | with_reducible refine wpAny_loadPart_at hC2 ?_ | (with_reducible refine wpAny_isSubtype_exc hC2 ?_;rw [hb2]) | with_reducible refine wpAny_isSubtype_exc hC ?_ | wp_step)
  cases hb:(Value.ref C::bm).contains (.ref C2) with
  | true=>rw [hb] at h;wp_walk;exact h
  | false=>rw [hb] at h;wp_walk;exact h
end
section
variable {K:PySem.W.Frag} {x t:Value} {Hh:Heap->Prop}
theorem za {c:Value} (ty:∀ (M:Model) (h:Heap),K.In h->Hh h->PySem.W.Looks M h (typeOf x) t) (e:PySem.W.kitOne K t c=some true):Answers (fun s=>K.In s.heap/\Hh s.heap) x c true:=by
  intro dep tk prog w A R s hs;obtain ⟨h0,g,d,tt,os⟩:=s;obtain ⟨⟨X,p⟩,hq⟩:=hs;have look:=ty (model prog w) h0 X p;unfold PySem.W.kitOne at e;unfold Builtin.«isinstance.nested»;refine wpAny_bind (look.at ?_);by_cases q:(t==c)=true
  · rw [if_pos q];exact wpAny_bind (wpAny_rule (wpAny_pure (hq tt)))
  · rw [if_neg q] at e;rw [if_neg q];obtain ⟨hty,his,hsub⟩:=PySem.W.kit_cls (M:=model prog w) X e;have both:PySem.W.Looks (model prog w) h0 (isInstance x c) true:=look.andThen hsub;refine wpAny_bind (hty.at ?_);rw [if_pos (by decide)]
    k_delta "plainIsInstance"
    refine wpAny_bind (wpAny_bind (his.at ?_));simp only [if_false,Bool.false_eq_true,Bool.not_true];refine wpAny_bind (both.at ?_)
    first | exact wpAny_pure (wpAny_pure (hq tt)) | (simp only [if_true];exact wpAny_pure (wpAny_pure (hq tt))) | (simp only [if_true];exact wpAny_pure (hq tt)) | exact wpAny_bind (wpAny_pure (wpAny_pure (hq tt)))
end
noncomputable def lE (i:Nat) (p:Addr):Fe:=fun ρ=>match ρ[i]? with
  | some (.exc q)=>if q=p then .ok (.bool true) else .no
  | _=>.no
section
variable {X:Cx} {nl:Nat} {G:List Str} {p C C2:Addr} {ob:Obj} {n cx:Str} {pi pe pc pos:Pos}
theorem wk (hp:(p,ob)∈X.pn) (hc:ob.cls=.ref C):c9 X (.builtin "isinstance") (fun xs H Q=>∃ cv,xs=[.ref p,cv]/\(∀ u,bE cv u->PySem.W.kitOne X.K (.ref C) u=some true)/\Q (.bl true) H):=by
  intro pins s σ H xs us Q I r h;obtain ⟨cv,rfl,hk,q⟩:=h;obtain ⟨u,v,rfl,rx,ry⟩:=oS r;cases rx;have pin:=(I.pin (p,ob) (List.mem_append_left _ hp)).1;refine call_isinstance (S:=fun _ R s=>(X.K.In s.heap/\s.heap.get? p=some ob)/\∀ tk,R (.ok (.ret (.bool true))) { s with toks:=tk })
    (fun prog w A R s hs=>isinstance_outer (za (K:=X.K) (x:=.ref p) (t:=.ref C) (Hh:=fun h=>h.get? p=some ob) (fun M h _ hp=>hc ▸ (PySem.W.Looks.ld hp).andThen .now) (hk _ ry) 0 _ prog w A R s hs) (fun z=>nomatch z)) ⟨⟨I.kIn,pin⟩,fun tk=>⟨.bl true,H,I.tok tk,rfl,q⟩⟩
theorem Ba {i:Nat} {σ:St} {H:Hp} {Q:VK} (h:ik X fU (lE i p) σ H Q):σ[i]?=some (some (.ref p))/\Q (.bl true) H:=by
  obtain ⟨ρ,sl,q⟩:=h;unfold lE at q;split at q
  · rename_i q' e;split at q
    · rename_i e';subst e';obtain ⟨o,h1,h2⟩:=sl.at e;have h2':o=some (.ref q'):=h2;subst h2';exact ⟨h1,q _ H (ar.refl _) eK⟩
    · exact q.elim
  · exact q.elim
theorem l8 (T:Cf X nl G) (hp:(p,ob)∈X.pn) (hc:ob.cls=.ref C) (i:Nat) (hN:X.N[i]?=some n) (j:Nat) (hG:G[j]?=some ("isinstance" : Str)) (hm:X.mg "isinstance" = none) (j':Nat) (hG':G[j']?=some cx) (hm':X.mg cx=some (.ref C2)) (hk:PySem.W.kitOne X.K (.ref C) (.ref C2)=some true):Z.cE X (.Call (.Name "isinstance" pi) [.Name n pe,.Name cx pc] [] pos) (lE i p):=⟨by
  have g:=T.gl _ (List.mem_of_getElem? hG);have g':=T.gl _ (List.mem_of_getElem? hG');have v:=T.vis n (List.mem_of_getElem? hN);have h1:PE X (.Name n pe) (zW i):=hR hN v.1 v.2.1 v.2.2;have h2:PE X (.Name cx pc) (tC (.ref C2)):=lV g'.1 hm' rfl g'.2.1;refine PE.imp (iK (wk hp hc) g.1 hm PyProof.Rows.boot_isinstance (fF h1 (fF h2 mW)) g.2.2 g.2.1) fun σ H Q h=>?_
  obtain ⟨a,b⟩:=Ba h;exact ⟨_,a,.ref C2,rfl,fun u r=>by cases r;exact hk,b⟩⟩
end
noncomputable def DL (X:Cx) (C:Addr) (hs:List ExceptHandler) (F:Addr->aE->R PyData):Prop :=
  ∀ (pins:List (Addr×Obj)) (σ:St) (Hc H:Hp) (sc s:Shared) (p:Addr) (Fm:Hp) (ρ:aE) (D:o4),aC X pins σ Hc sc->kW X.prog X.w X.stack Hc sc C H (.ref p) s->gv Fm H σ ρ ->
    (match F p ρ with
      | .ok d=>∀ v H',ar Fm H'->Rp H' d v->D.rt v H'
      | _=>False)->wpAny (model X.prog X.w) X.A (handleBy (.ref p) X.env hs) (SP X pins D) X.xe s
section
variable {X:Cx} {nl:Nat} {G:List Str} {C C2:Addr} {n cx:Str} {np rp hp:Pos} {e:Expr} {dS:List ExceptHandler} {F:Addr->aE->R PyData} {f:Addr->Fe} {name:Option Str} {body:List Stmt}
theorem AM {pins:List (Addr×Obj)} {σ:St} {Hc H:Hp} {sc s:Shared} {p:Addr} {Q:Flow->Shared->Prop} {E:Value->Shared->Prop} (T:Tb X nl G) (j:Nat) (hG:G[j]?=some cx) (hm:X.mg cx=some (.ref C2)) (hq:PySem.W.excIn X.K C kZ kI=true) (hq2:PySem.W.excIn X.K C2 kZ kI=true)
    (I:aC X pins σ Hc sc) (fl:kW X.prog X.w X.stack Hc sc C H (.ref p) s)
    (h:if (Value.ref C::fu X.K C).contains (.ref C2)=true then codeAny (model X.prog X.w) (X.A.mark (some (.ref p))) (.handlers (.ref p) [.ExceptHandler none name body hp] X.env) (fun r s₂=>match r with
          | .ok f=>(match name with
            | none=>Q f s₂
            | some n=>wpAny (model X.prog X.w) X.A (do bindName X.env n .none;unbindBehindTheSuite X.env n hp) (fun _ s₃=>Q f s₃) E s₂)
          | .error x=>cameBackBy (model X.prog X.w) X.A X.env E x s₂) s
      else wpAny (model X.prog X.w) X.A (handleBy (.ref p) X.env dS) Q E s) :
    wpAny (model X.prog X.w) X.A (handleBy (.ref p) X.env (.ExceptHandler (some (.Name cx np)) name body hp::dS)) Q E s:=by
  have I1:=fl.inv I;obtain ⟨ob,vs,ho,hcls,hd,hn,hfr⟩:=fl.obj;have g:=T.gl cx (List.mem_of_getElem? hG);have hl:X.A.frames=some X.stack:=I.ok.frames;refine wpAny_handleBy_cons (codeAny_handlers_test ?_) (by intro z;cases z);refine Calls.Name_function_global I1.ok.kind g.1 (Calls.loadGlobal_global (by rw [I1.ok.glob];exact I1.mod.glob.keeps I1.bk) hm ?_) g.2.1;refine uT ((mm I1.ok.mod.kin hq).keep I1.bk) ((mm I1.ok.mod.kin hq2).keep I1.bk) ho hcls ?_;cases hb:(Value.ref C::fu X.K C).contains (.ref C2) with
  | true=>rw [hb] at h;exact h
  | false=>rw [hb] at h;exact h
end
theorem AZ {X:Cx} {pins:List (Addr×Obj)} {σ:St} {H:Hp} {s:Shared} {M:Model} {A:Around} {E:Value->Shared->Prop} {i:Nat} {x:Str} {v:V} {Q:Unit->Shared->Prop} (I:aC X pins σ H s) (hN:X.N.Nodup) (hi:X.N[i]?=some x) (hk:X.env.scope.names.lookup x=some .local)
    (hv:σ[i]?=some (some v)) (h:∀ s',aC X pins (σ.set i none) H s'->Q () s'):wpAny M A (unbindName X.env x) Q E s:=by
  obtain ⟨m,hn,hl⟩:=id I.loc;obtain ⟨u,ru,lk⟩:=hl i x v hi hv (.inl hk);have hm:m x=some u:=by
    rcases lk with ⟨_,z⟩ | ⟨k,_⟩
    · exact z
    · rcases k with k | k <;> (have k':X.env.scope.names.lookup x=_:=k;rw [hk] at k';cases k')
  have plain:(X.env.scope.kind==.class||(X.env.scope.kind==.module&&X.env.locals != X.env.globals))=false:=by rw [I.ok.kind];rfl
  refine wpAny_unbindName_local hk hn hm plain fun h' w' hn' sb=>h _ ?_
  obtain ⟨oL,_,_,hoL,_⟩:=id hn;have young:∀ b o,X.s₀.heap.get? b=some o->b≠X.env.locals:=fun b o q=>Nat.ne_of_lt (Nat.lt_of_lt_of_le (Heap.lt_size q) I.ok.above)
  refine ⟨I.ok,I.os,I.bare,⟨fun b o q n hb hx=>(sb.2 b (young b o q)).trans (I.base.keep b o q n hb hx),fun b o q n hb hx=>?_,I.base.free,fun b o q hx=>?_,I.base.tups,I.base.frzs,I.base.tbls⟩,⟨_,hn',fun j y v' q1 q2 q3=>?_⟩,fun y c q=>?_,I.free,I.freeC,fun p hp=>?_,fun b ob q=>?_,by simpa using I.len⟩
  · obtain ⟨sl,q1⟩:=I.base.slot b o q n hb hx;exact ⟨sl,(sb.2 b (young b o q)).trans q1⟩
  · obtain ⟨o',q1⟩:=I.base.there b o q hx;exact ⟨o',(sb.2 b (young b o q)).trans q1⟩
  · by_cases hj:i=j
    · subst hj;rw [List.getElem?_set,if_pos rfl] at q2;split at q2 <;> cases q2
    · rw [List.getElem?_set,if_neg hj] at q2;obtain ⟨u',r',z⟩:=hl j y v' q1 q2 q3;refine ⟨u',r',?_⟩;rcases z with ⟨k,z⟩ | ⟨k,c,z1,z2⟩
      · refine .inl ⟨k,?_⟩;have ne:y≠x:=fun t=>hj (mU hN hi (t ▸ q1))
        simp [ne,z]
      · exact .inr ⟨k,c,z1,z2.sameBut sb (I.cne y c z1)⟩
  · obtain ⟨w2,z⟩:=I.cell y c q;exact ⟨w2,z.sameBut sb (I.cne y c q)⟩
  · obtain ⟨q,n,ne,nf,d⟩:=I.pin p hp;exact ⟨(sb.2 p.1 ne).trans q,n,ne,nf,d⟩
  · refine (I.hok b ob q).stay (fun c w2 hc z=>(sb.2 c ?_).trans z) (fun _ z=>z) fun _ _ z=>z
    rintro rfl;rcases hc with rfl | hc
    · rw [I.free] at q;cases q
    · rw [I.free] at hc;cases hc
section
variable {X:Cx} {nl:Nat} {G:List Str} {C C2:Addr} {n cx:Str} {np rp hp:Pos} {e:Expr} {dS:List ExceptHandler} {f:Addr->Fe}
theorem uV {pins:List (Addr×Obj)} {σ:St} {Hc H:Hp} {sc s:Shared} {p:Addr} (I:aC X pins σ Hc sc) (fl:kW X.prog X.w X.stack Hc sc C H (.ref p) s):∃ ob,s.heap.get? p=some ob/\ob.cls=.ref C/\aC (Xh X p ob) pins σ H s:=by
  have I1:=fl.inv I;obtain ⟨ob,vs,ho,hcls,hd,hn,hfr⟩:=fl.obj;refine ⟨ob,ho,hcls,wJ I1 ho hn (fun z=>?_) (fun z=>?_) (fun v z=>by rw [hd] at z;cases z)⟩
  · obtain ⟨m,⟨o,es,ep,q1,q2,_⟩,_⟩:=I1.loc;rw [<- z,ho] at q1;cases q1;rw [hd] at q2;cases q2
  · apply hfr;rcases I.ok.stk with e | ⟨e,_⟩
    · rw [e];exact z
    · rw [e];obtain ⟨env,he,hf⟩:=List.mem_filterMap.mp (show p∈X.outer.filterMap (·.frame) from z);exact List.mem_filterMap.mpr ⟨env,List.mem_cons_of_mem _ he,hf⟩
theorem mF (T:Tb X nl G) (j:Nat) (hG:G[j]?=some cx) (hm:X.mg cx=some (.ref C2)) (hq:PySem.W.excIn X.K C kZ kI=true) (hq2:PySem.W.excIn X.K C2 kZ kI=true) (hb:(Value.ref C::fu X.K C).contains (.ref C2)=true)
    (i:Nat) (hN:(X.N.take nl)[i]?=some n) (hk:X.env.scope.names.lookup n=some .local)
    (he:∀ p ob,ob.cls=.ref C->Cf (Xh X p ob) nl G->cE (Xh X p ob) e (f p)):DL X C (.ExceptHandler (some (.Name cx np)) (some n) [.Return (some e) rp] hp::dS) (fun p ρ=>f p (ρ.set i (.exc p))):=fun pins σ Hc H sc s p Fm ρ D I fl sl q=>by
  obtain ⟨hi,hl,hf⟩:=T.nm hN;refine AM T j hG hm hq hq2 I fl ?_;rw [hb];refine codeAny_handlers_suite_as (fl.land fun h' fl'=>?_);obtain ⟨ob,ho,hcls,Ih⟩:=uV I fl';refine kx (X:=Xh X p ob) (v:=.ref p) Ih T.nd hi hl rfl (fun s2 I2=>?_) hf;dsimp only at q;have hi':i < σ.length:=by rw [I.len];exact (List.getElem?_eq_some_iff.mp hi).1
  cases ef:f p (ρ.set i (.exc p)) with
  | ex c=>rw [ef] at q;exact q.elim
  | no=>rw [ef] at q;exact q.elim
  | ok d =>
    rw [ef] at q;have sl2:Sl H (σ.set i (some (.ref p))) (ρ.set i (.exc p)):=Sl.set (c:=.exc p) (o:=some (.ref p)) sl.sl i rfl;have hw:=he p ob hcls (T.h p ob) pins _ (σ.set i (some (.ref p))) H (fun v H'=>ar H H'/\Rp H' d v) I2 ⟨_,sl2,by rw [ef];exact fun v H' s' r=>⟨s',r⟩⟩;refine wpAny_execs_cons (wpAny_Return_some (wpAny_mono hw (fun u s3 ⟨v,H3,I3,r3,s13,rp⟩=>?_) fun _ _ z=>False.elim z));have I4:=sK I.ok I3;show wpAny _ X.A (do bindName X.env n .none;unbindBehindTheSuite X.env n hp) _ _ s3;refine wpAny_bind (wpAny_bindName (kx (v:=.non) I4 T.nd hi hl rfl (fun s5 I5=>?_) hf));unfold unbindBehindTheSuite;refine wpAny_onRaise (AZ (v:=.non) I5 T.nd hi hk (by rw [List.getElem?_set,if_pos rfl,if_pos (by simpa using hi')]) fun s6 I6=>?_);exact ⟨v,_,H3,I6,r3,q v H3 (sl.fm.trans s13) rp⟩
end
open Classical in
noncomputable def vw (F:Addr->R PyData):R PyData:=if h:∃ r,∀ p,F p=r then h.choose else .no
theorem sV (r:R PyData):vw (fun _=>r)=r:=by
  have h:∃ r',∀ p:Addr,(fun _=>r) p=r':=⟨r,fun _=>rfl⟩
  unfold vw;rw [dif_pos h];exact (h.choose_spec 0).symm
theorem zx {F:Addr->R PyData} {d:PyData} (h:vw F=.ok d) (p:Addr):F p=.ok d:=by
  unfold vw at h;split at h
  · rename_i q;rw [q.choose_spec p];exact h
  · cases h
noncomputable abbrev Hs:=List (Str×(Addr->aE->R PyData))
noncomputable def x5 (hs:Hs) (ρ:aE) (k:PyData->qd):R PyData->R qd
  | .ok d=>.ok (k d)
  | .no=>.no
  | .ex c=>match hs.lookup c with
    | some h=>oF (vw (fun p=>h p ρ))>>=fun d=>.ok (.rt d)
    | none=>.no
inductive jT (X:Cx) (src:List ExceptHandler):Hs->Prop
  | nil:jT X src []
  | cons {c:Str} {C:Addr} {h:Addr->aE->R PyData} {hs:Hs} (hm:X.mg c=some (.ref C)) (he:DL X C src h) (r:jT X src hs):jT X src ((c,h)::hs)
theorem jT.at {X:Cx} {src:List ExceptHandler} {c:Str} {h:Addr->aE->R PyData}:∀ {hs:Hs},jT X src hs->hs.lookup c=some h->∃ C,X.mg c=some (.ref C)/\DL X C src h
  | _,.nil,e=>by cases e
  | _,.cons (c:=c') hm he r,e=>by
    rw [List.lookup_cons] at e;split at e
    · rename_i q;have:c=c':=by simpa using q
      subst this;cases e;exact ⟨_,hm,he⟩
    · exact jT.at r e
section
variable {X:Cx} {k n:Nat} {f:Addr} {fd:FuncData} {ps:List Str} {F:List PyData->R PyData} {x:Str} {p pos sp tp:Pos} {e:Expr} {es:List Expr} {fs:aE->R (List PyData)} {nl:Nat} {G:List Str}
theorem x6 {pins:List (Addr×Obj)} {σ:St} {H:Hp} {s:Shared} {ρ:aE} {ds:List PyData} {Qv:Value->Shared->Prop} {Ev:Value->Shared->Prop}
    (C:aW X.prog X.w X.K X.mg X.base (cM X.prog X.w X.mg) k f fd ps (dt F n)) (hr:fq k X.A) (T:Tb X nl G) (j:Nat) (hG:G[j]?=some x) (hm:X.mg x=some (.ref f)) (hk:PySem.W.keepIn X.K (.ref f)=true) (hb:bH X.K fd ps []) (ha:rW X.nox (e::es) fs)
    (hfs:∀ ρ ds,fs ρ=.ok ds->ds.length=n) (he:(e::es).all aH=true) (I:aC X pins σ H s) (sl:Sl H σ ρ) (efs:fs ρ=.ok ds) (hno:F ds≠.no)
    (hok:∀ d,F ds=.ok d->∀ v u H' s',aC X pins σ H' s'->ar H H'->Rp H' d v->bE v u->Qv u s')
    (hex:∀ c,F ds=.ex c->∀ C Hc sc H1 e s',X.mg c=some (.ref C)->aC X pins σ Hc sc->ar H Hc->kW X.prog X.w X.stack Hc sc C H1 e s'->Ev e s') :
    wpAny (model X.prog X.w) X.A (eval (.Call (.Name x p) (e::es) [] pos) X.env) Qv Ev s:=by
  rw [List.all_cons,Bool.and_eq_true] at he;have g:=T.gl x (List.mem_of_getElem? hG);refine wpAny_Call_Name_kw (lR I g.1 hm ?_ g.2.1);have hw:=ha pos pins s σ H (fun vs H'=>ar H H'/\RA Rp H' ds vs) (I.wish _) ⟨ρ,sl,by rw [efs];exact fun vs H' s' r=>⟨s',r⟩⟩;refine PySem.W.callWith_K (h₀:=X.base) I.ok.mod.kin hk (wpAny_mono hw (fun us s1 ⟨vs,H1,I1,r,s1',ra⟩=>⟨I1.unwish.kIn,?_⟩) fun _ _ z=>False.elim z) (aS he.1) (nr he.2);have I1:=I1.unwish;have ra':=nc.mp ra;have hsp:dt F n vs H1 (fun v H'=>ar H1 H'/\∃ d,F ds=.ok d/\Rp H' d v) (fun v _ H'=>∃ c,F ds=.ex c/\v=.str c 0):=by
    refine ⟨ds,ra',hfs ρ ds efs,?_⟩;cases ef:F ds with
    | ok d=>exact fun v H' s' r=>⟨s',d,rfl,r⟩
    | ex c=>exact fun H' s'=>⟨c,rfl,rfl⟩
    | no=>exact absurd ef hno
  have hl:(us++[]).length=ps.length:=by rw [List.append_nil,<- r.length];exact C.len _ _ _ _ hsp
  refine wpAny_call (codeAny_mono (C.run X.A X.stack s1 H1 ⟨us,[]⟩ (us++[]) vs _ _ hr I1.env0 (hb s1 us I1.kIn hl) (by rw [List.append_nil];exact r) hsp) fun r' s' hq=>?_);cases r' with
  | error e' =>
    obtain ⟨c',C',H',hm',fl,c,ef,ev⟩:=hq;have:c'=c:=by injection ev
    subst this;exact hex c' ef C' H1 s1 H' e' s' hm' I1 s1' fl
  | ok fl =>
    cases fl with
    | ret u =>
      obtain ⟨v,H',I',rv,s2,d,ef,rp⟩:=I1.after hq;exact hok d ef v u H' s' I' (s1'.trans s2) rp rv
    | next=>exact False.elim hq
    | brk=>exact False.elim hq
    | cont=>exact False.elim hq
theorem tu {pins:List (Addr×Obj)} {σ:St} {H Fm:Hp} {ρ:aE} {D:o4} {h0:ExceptHandler} {src:List ExceptHandler} {hs:Hs} {kk:PyData->qd} {c:Str} {r:R PyData} (hstk:X.stack=X.env::X.outer/\X.env.frame=some X.env.locals) (hH:jT X (h0::src) hs) (ec:r=.ex c) (sl:gv Fm H σ ρ) (q:ym X Fm (x5 hs ρ kk r) D)
    {C:Addr} {Hc H1:Hp} {sc s':Shared} {ev:Value} (hm:X.mg c=some (.ref C)) (I:aC X pins σ Hc sc) (sH:ar H Hc) (fl:kW X.prog X.w X.stack Hc sc C H1 ev s') :
    wpAny (model X.prog X.w) X.A (noteFrame ev X.env) (fun _ s₂=>wpAny (model X.prog X.w) X.A (setFlight ev none) (fun _ s₃=>wpAny (model X.prog X.w) X.A (handleBy ev X.env (h0::src)) (SP X pins D) X.xe s₃) X.xe s₂) X.xe s':=by
  subst ec;simp only [x5] at q;cases el:hs.lookup c with
  | none=>rw [el] at q;exact q.elim
  | some h =>
    rw [el] at q;dsimp only at q;obtain ⟨C',hm',hE⟩:=hH.at el;rw [hm] at hm';cases hm';have fl':=fl;rw [hstk.1] at fl';refine fl'.look (by rw [I.ok.frames,hstk.1]) hstk.2 fun p h' ep fl2=>?_
    subst ep;rw [<- hstk.1] at fl2;have sl1:gv Fm H1 σ ρ:=sl.mono (sH.trans fl.same);refine hE pins σ Hc H1 sc _ p Fm ρ D I fl2 sl1 ?_;cases ep:vw (fun p=>h p ρ) with
    | ex c=>rw [ep] at q;exact q.elim
    | no=>rw [ep] at q;exact q.elim
    | ok d =>
      rw [ep] at q;rw [zx ep p];exact q
noncomputable def kr (F:List PyData->R PyData) (fs:aE->R (List PyData)) (hs:Hs):Fs:=fun ρ=>oF (fs ρ)>>=fun ds=>x5 hs ρ (fun d=>.rt d) (F ds)
variable {h0:ExceptHandler} {src:List ExceptHandler} {hs:Hs}
theorem kE (C:aW X.prog X.w X.K X.mg X.base (cM X.prog X.w X.mg) k f fd ps (dt F n)) (hr:fq k X.A) (T:Tb X nl G) (hstk:X.stack=X.env::X.outer/\X.env.frame=some X.env.locals) (j:Nat) (hG:G[j]?=some x) (hm:X.mg x=some (.ref f)) (hk:PySem.W.keepIn X.K (.ref f)=true) (hb:bH X.K fd ps []) (ha:Z.rW X.nox (e::es) fs) (hfs:∀ ρ ds,fs ρ=.ok ds->ds.length=n) (hH:jT X (h0::src) hs) (he:(e::es).all aH=true:=by rfl):Z.kU X (.Try [.Return (some (.Call (.Name x p) (e::es) [] pos)) sp] (h0::src) [] [] tp) (kr F fs hs):=⟨have ha:=ha.un;fun Fm=>by
  intro pins s σ H D I ⟨ρ,sl,q⟩;unfold kr at q;cases efs:fs ρ with
  | ex c=>rw [efs] at q;exact q.elim
  | no=>rw [efs] at q;exact q.elim
  | ok ds =>
    rw [efs] at q;simp only [oF,R.ok_bind] at q;refine wpAny_Try_except (wpAny_execs_cons (wpAny_Return_some (x6 C hr T j hG hm hk hb ha hfs he I sl.sl efs (fun z=>by rw [z] at q;exact q) (fun d ed v u H' s' I' sH rp rv=>?_) fun c ec C' Hc sc H1 ev s' hm' I' sH fl=>tu hstk hH ec sl q hm' I' sH fl)));rw [ed] at q;exact ⟨v,σ,H',I',rv,q v H' (sl.fm.trans sH) rp⟩⟩
end
noncomputable def tP:PyData->PyData->R PyData
  | .dict kvs,k=>match dE k with
    | some _=>.ok ((eY kvs k).getD .none)
    | none=>.no
  | _,_=>.no
noncomputable def j8:PyData->PyData->PyData->R PyData
  | .dict kvs,k,d=>match dE k with
    | some _=>.ok ((eY kvs k).getD d)
    | none=>.no
  | _,_,_=>.no
noncomputable def nI:PyData->R Unit
  | .dict kvs=>if gc kvs=true then .no else .ok ()
  | _=>.no
noncomputable def Cq (fo fe:Fe):Fe:=fun ρ=>fo ρ>>=fun x=>nI x>>=fun _=>fe ρ>>=fun y=>tP x y
noncomputable def tT (fo fe ff:Fe):Fe:=fun ρ=>fo ρ>>=fun x=>nI x>>=fun _=>fe ρ>>=fun y=>ff ρ>>=fun z=>j8 x y z
section
variable {X:Cx} {o e f:Expr} {apos cpos:Pos} {fo fe ff:Fe}
theorem qQ {H:Hp} {kvs:List (PyData×PyData)} {k d:PyData} {a:Addr} {y z:V} {κ:cN} (hi:gc kvs=false) (h:fT H (.dict kvs) (.ref a)) (hy:fT H k y) (e:dE k=some κ) (hz:Rp H d z):∃ o,jm H a y o/\Rp H ((eY kvs k).getD d) (o.getD z):=by
  obtain ⟨a',ks,ea,h,r⟩:=fL hi h;cases ea;obtain ⟨o,g,e1,e2⟩:=pL (κ:=κ) h r;rw [<- pG hy e] at g;rw [<- mO e] at e1 e2;refine ⟨o,g,?_⟩;cases el:eY kvs k with
  | none =>
    rw [el] at e1;cases o with
    | none=>exact hz
    | some v=>cases e1
  | some d' =>
    obtain ⟨v,rfl,p⟩:=e2 d' el;exact p
theorem DD (hu:X.A.units+64 < cLine) (ho:cT X o fo) (he:cE X e fe) (hb:attributeBase o "get" X.env (eval o X.env)=eval o X.env:=by rfl) (hst:aH e=true:=by rfl) (hline:(apos.endLine==cpos.line)=true:=by rfl) :
    cE X (.Call (.Attribute o "get" apos) [e] [] cpos) (Cq fo fe):=by
  have sc:starEach [e] X.env=(false,eval e X.env)::starEach [] X.env:=aS hst;refine PE.imp (xl (by omega) ho he ⟨hb,by rw [sc];rfl,hline,by rw [sc];rfl⟩) fun σ H Q h=>?_
  refine (cQ (P:=o7) (f:=fo) (k:=fun ρ x=>nI x>>=fun _=>fe ρ>>=fun y=>tP x y) (dI (X:=X) dO Q) h).post fun v H1 ⟨ρ1,d1,sl1,_,p1,q1⟩=>?_
  cases d1 with
  | dict kvs =>
    by_cases hi:gc kvs=true
    · simp only [nI,if_pos hi] at q1;exact q1.elim
    simp only [nI,if_neg hi,R.ok_bind] at q1;have hi:=Bool.not_eq_true _ ▸ hi;obtain ⟨a,ks,rfl,h1,r1⟩:=fL hi p1;refine ⟨a,rfl,.inl ⟨ks,h1⟩,?_⟩;refine (cQ (P:=fU) (f:=fe) (k:=fun _ y=>tP (.dict kvs) y) (dI (X:=X) dO Q) ⟨ρ1,sl1,q1⟩).post fun u H2 ⟨_,d2,_,s2,p2,q2⟩=>?_
    unfold tP at q2;dsimp only at q2;cases ek:dE d2 with
    | none=>rw [ek] at q2;exact q2.elim
    | some κ =>
      rw [ek] at q2;obtain ⟨o',g,p3⟩:=qQ hi (fT.mono p1 s2) (.inl p2) ek (d:=.none) (z:=.non) zM;exact ⟨o',g,q2 _ H2 (ar.refl _) p3⟩
  | _=>exact q1.elim
theorem uB (hu:X.A.units+64 < cLine) (ho:Z.cT X o fo) (he:Z.cE X e fe) (hf:Z.cE X f ff) (hb:attributeBase o "get" X.env (eval o X.env)=eval o X.env:=by rfl) (hst:aH e=true:=by rfl) (hst2:aH f=true:=by rfl) (hline:(apos.endLine==cpos.line)=true:=by rfl):Z.cE X (.Call (.Attribute o "get" apos) [e,f] [] cpos) (tT fo fe ff):=⟨have ho:=ho.un;have he:=he.un;have hf:=hf.un;by
  have sc:starEach [e,f] X.env=(false,eval e X.env)::starEach [f] X.env:=aS hst;have sc2:starEach [f] X.env=(false,eval f X.env)::starEach [] X.env:=aS hst2;refine PE.imp (xm (by omega) ho he hf ⟨hb,by rw [sc,sc2];rfl,hline,by rw [sc,sc2];rfl⟩) fun σ H Q h=>?_
  refine (cQ (P:=o7) (f:=fo) (k:=fun ρ x=>nI x>>=fun _=>fe ρ>>=fun y=>ff ρ>>=fun z=>j8 x y z) (dI (X:=X) dO Q) h).post fun v H1 ⟨ρ1,d1,sl1,_,p1,q1⟩=>?_
  cases d1 with
  | dict kvs =>
    by_cases hi:gc kvs=true
    · simp only [nI,if_pos hi] at q1;exact q1.elim
    simp only [nI,if_neg hi,R.ok_bind] at q1;have hi:=Bool.not_eq_true _ ▸ hi;obtain ⟨a,ks,rfl,h1,r1⟩:=fL hi p1;refine ⟨a,rfl,.inl ⟨ks,h1⟩,?_⟩;refine (cQ (P:=fU) (f:=fe) (k:=fun ρ y=>ff ρ>>=fun z=>j8 (.dict kvs) y z) (dI (X:=X) dO Q) ⟨ρ1,sl1,q1⟩).post fun u H2 ⟨ρ2,d2,sl2,s2,p2,q2⟩=>?_
    refine (cQ (P:=fU) (f:=ff) (k:=fun _ z=>j8 (.dict kvs) d2 z) (dI (X:=X) dO Q) ⟨ρ2,sl2,q2⟩).post fun u' H3 ⟨_,d3,_,s3,p3,q3⟩=>?_
    unfold j8 at q3;dsimp only at q3;cases ek:dE d2 with
    | none=>rw [ek] at q3;exact q3.elim
    | some κ =>
      rw [ek] at q3;obtain ⟨o',g,p4⟩:=qQ hi (fT.mono (fT.mono p1 s2) s3) (.inl (p2.mono s3)) ek p3;exact ⟨o',g,q3 _ H3 (ar.refl _) p4⟩
  | _=>exact q1.elim⟩
end
noncomputable def md (p:Int->Int->Bool) (n:Int) (ns:List Int):Int:=ns.foldl (fun a b=>if p b a=true then b else a) n
theorem jx {p:Int->Int->Bool} {le:Int->Int->Prop} (h1:∀ a b,p b a=true->le b a) (h2:∀ a b,¬ p b a=true->le a b) (tr:∀ a b c,le a b->le b c->le a c) (rf:∀ a,le a a):∀ (ns:List Int) (n:Int),md p n ns∈n::ns/\∀ a∈n::ns,le (md p n ns) a
  | [],n=>⟨by simp [md],fun a ha=>by simp at ha;subst ha;exact rf _⟩
  | m::ns,n=>by
    obtain ⟨g1,g2⟩:=jx h1 h2 tr rf ns (if p m n=true then m else n);have e:md p n (m::ns)=md p (if p m n=true then m else n) ns:=rfl;rw [e];refine ⟨?_,fun a ha=>?_⟩
    · rcases List.mem_cons.mp g1 with z | z
      · rw [z];split <;> simp
      · exact List.mem_cons_of_mem _ (List.mem_cons_of_mem _ z)
    · have k:=g2 _ List.mem_cons_self;rcases List.mem_cons.mp ha with rfl | ha
      · refine tr _ _ _ k ?_;split
        · rename_i z;exact h1 _ _ z
        · exact rf _
      · rcases List.mem_cons.mp ha with rfl | ha
        · refine tr _ _ _ k ?_;split
          · exact rf _
          · rename_i z;exact h2 _ _ z
        · exact g2 a (List.mem_cons_of_mem _ ha)
noncomputable def wW (n:Int) (ns:List Int):Int:=md (fun b a=>decide (b < a)) n ns
noncomputable def sO (n:Int) (ns:List Int):Int:=md (fun b a=>decide (a < b)) n ns
theorem vn (n:Int) (ns:List Int):wW n ns∈n::ns/\∀ a∈n::ns,wW n ns<=a :=
  jx (le:=(·<=·)) (fun a b h=>by simp at h;omega) (fun a b h=>by simp at h;omega) (fun a b c=>Int.le_trans) Int.le_refl ns n
theorem oz (n:Int) (ns:List Int):sO n ns∈n::ns/\∀ a∈n::ns,a<=sO n ns :=
  jx (le:=fun a b=>b<=a) (fun a b h=>by simp at h;omega) (fun a b h=>by simp at h;omega) (fun a b c h1 h2=>Int.le_trans h2 h1) Int.le_refl ns n
section
variable {X:Cx} {a b c:Expr} {fa fb fc:Fe} {pos p2:Pos} {nl:Nat} {G:List Str} {x:Str} {p:Pos}
theorem jF:∀ {its:List Value} {ns:List Int},IntsAre its ns->∃ ys:List (Int×Tok),its=ys.map (fun p=>Value.int p.1 p.2)/\ys.map (·.1)=ns
  | _,_,.nil=>⟨[],rfl,rfl⟩
  | _,_,.cons n t h=>by
    obtain ⟨ys,e1,e2⟩:=jF h;exact ⟨(n,t)::ys,by rw [List.map_cons,e1],by rw [List.map_cons,e2]⟩
theorem B6 (hc:X.calm=true):c9 X (.builtin "min") (fun xs H Q=>∃ p n ns,xs=[.ref p]/\lD X.K H p ((n::ns).map V.int)/\Q (.int (wW n ns)) H):=by
  intro pins s σ H xs us Q I r h;obtain ⟨p,n,ns,rfl,hq,q⟩:=h;obtain ⟨u,rfl,rx⟩:=gh r;cases rx;obtain ⟨its,rv,pl,hz⟩:=I.list hq;obtain ⟨ys,e1,e2⟩:=jF (eO rv);have hl:s.heap.IsList p (intItems ys.toArray):=by
    have:intItems ys.toArray=its.toArray:=by rw [e1];simp [intItems]
    rw [this];exact pl.isList
  have hlen:ys.length=ns.length+1:=by have:=congrArg List.length e2;simpa using this
  refine min_intList (I.ok.hd hc) hl (by simp;omega) fun v h' tk hv hk=>?_
  obtain ⟨t,rfl⟩:=intItems_at hv;obtain ⟨g1,g2⟩:=argBest_lt (numAt ys.toArray) (ys.toArray.size-1);generalize argBest (fun i j=>decide (numAt ys.toArray i < numAt ys.toArray j)) (ys.toArray.size-1)=w at g1 g2 hv ⊢;have el:ys.toArray.toList.map (·.1)=n::ns:=e2;have m1:numAt ys.toArray w∈n::ns:=by
    rw [numAt_eq,el];refine getD_mem ?_;simp at g1 ⊢;omega
  obtain ⟨k1,k2⟩:=vn n ns;have e3:numAt ys.toArray w=wW n ns:=by
    refine Int.le_antisymm ?_ (k2 _ m1);obtain ⟨j,hj,e⟩:=mem_getD k1;have:=g2 j (by simp at hj ⊢;omega);rw [numAt_eq ys.toArray j,el,e] at this;exact this
  rw [e3];exact ⟨.int _,H,I.kept hk,⟨_,rfl⟩,q⟩
theorem uK (hc:X.calm=true):c9 X (.builtin "max") (fun xs H Q=>∃ p n ns,xs=[.ref p]/\lD X.K H p ((n::ns).map V.int)/\Q (.int (sO n ns)) H):=by
  intro pins s σ H xs us Q I r h;obtain ⟨p,n,ns,rfl,hq,q⟩:=h;obtain ⟨u,rfl,rx⟩:=gh r;cases rx;obtain ⟨its,rv,pl,hz⟩:=I.list hq;obtain ⟨ys,e1,e2⟩:=jF (eO rv);have hl:s.heap.IsList p (intItems ys.toArray):=by
    have:intItems ys.toArray=its.toArray:=by rw [e1];simp [intItems]
    rw [this];exact pl.isList
  have hlen:ys.length=ns.length+1:=by have:=congrArg List.length e2;simpa using this
  refine max_intList (I.ok.hd hc) hl (by simp;omega) fun v h' tk hv hk=>?_
  obtain ⟨t,rfl⟩:=intItems_at hv;obtain ⟨g1,g2⟩:=argBest_gt (numAt ys.toArray) (ys.toArray.size-1);generalize argBest (fun i j=>decide (numAt ys.toArray i > numAt ys.toArray j)) (ys.toArray.size-1)=w at g1 g2 hv ⊢;have el:ys.toArray.toList.map (·.1)=n::ns:=e2;have m1:numAt ys.toArray w∈n::ns:=by
    rw [numAt_eq,el];refine getD_mem ?_;simp at g1 ⊢;omega
  obtain ⟨k1,k2⟩:=oz n ns;have e3:numAt ys.toArray w=sO n ns:=by
    refine Int.le_antisymm (k2 _ m1) ?_;obtain ⟨j,hj,e⟩:=mem_getD k1;have:=g2 j (by simp at hj ⊢;omega);rw [numAt_eq ys.toArray j,el,e] at this;exact this
  rw [e3];exact ⟨.int _,H,I.kept hk,⟨_,rfl⟩,q⟩
noncomputable def Ew:PyData->R PyData
  | .list ds=>match bS ds with
    | some (n::ns)=>.ok (.int (wW n ns))
    | _=>.no
  | _=>.no
noncomputable def tQ:PyData->R PyData
  | .list ds=>match bS ds with
    | some (n::ns)=>.ok (.int (sO n ns))
    | _=>.no
  | _=>.no
theorem uC (T:Tb X nl G) (j:Nat) (hG:G[j]?=some ("max" : Str)) (hm:X.mg "max" = none) (ha:Z.cT X a fa) (he:aH a=true:=by rfl):Z.cE X (.Call (.Name "max" p) [a] [] pos) (e1 tQ fa):=⟨have ha:=ha.un;by
  refine yC T j hG hm dO PyProof.Rows.boot_max (uK T.calm) (fun H x d Q hx q=>?_) ha he;cases d with
  | list ds =>
    simp only [tQ] at q;split at q
    · rename_i n ns ei;rw [eu ei] at hx;obtain ⟨a',vs,rfl,h,r⟩:=eF (K:=X.K) hx;rw [gC r] at h;exact ⟨a',n,ns,rfl,h,q _ H (ar.refl _) cY⟩
    · exact q.elim
  | _=>exact q.elim⟩
end
section
variable {X:Cx} {a b:Expr} {fa fb:Fe} {pos p:Pos} {nl:Nat} {G:List Str}
noncomputable def jh:PyData->PyData->R PyData
  | .str z,.int k=>if k=0\/k=1 then .ok (.str (if k=1 then z else Str.empty)) else .no
  | _,_=>.no
theorem zp:gS X (binaryOp .Mult) (fun x y H Q=>∃ z k,x=.str z/\y=.int k/\(k=0\/k=1)/\Q (.str (if k=1 then z else Str.empty)) H):=by
  intro pins s σ H x y v u Q I rx ry h;obtain ⟨z,k,rfl,rfl,hk,q⟩:=h;obtain ⟨t,rfl⟩:=rx;obtain ⟨t',rfl⟩:=ry;rcases hk with rfl | rfl
  · exact PySem.P.mul_str_none (by decide) (by decide) ⟨.str Str.empty,H,I.tok _,⟨_,rfl⟩,by simpa using q⟩
  · exact PySem.P.mul_str (by decide) (fun _ h=>by simp at h) (fun _ h=>by simp at h) (by
      rw [if_neg (by decide),if_pos (by simp)];exact ⟨.str z,H,I,⟨_,rfl⟩,by simpa using q⟩)
theorem zS:bU X fU (fun x y H Q=>∃ z k,x=.str z/\y=.int k/\(k=0\/k=1)/\Q (.str (if k=1 then z else Str.empty)) H) jh:=fun H x y dx dy Q hx hy q=>by
  cases dx with
  | str z =>
    cases dy with
    | int k =>
      simp only [jh] at q;split at q
      · rename_i h;exact ⟨z,k,fW hx,bd hy,h,q _ H (ar.refl _) s9⟩
      · exact q.elim
    | _=>exact q.elim
  | _=>exact q.elim
theorem kG (ha:Z.cT X a fa) (hb:Z.cT X b fb):Z.cE X (.BinOp a .Mult b pos) (e2 jh fa fb):=⟨have ha:=ha.un;have hb:=hb.un;jC dO zp zS ha hb⟩
theorem jw (T:Cf X nl G) (j:Nat) (hG:G[j]?=some ("int" : Str)) (hm:X.mg "int" = none) (ha:Z.cT X a fa) (he:aH a=true:=by rfl):Z.cE X (.Call (.Name "int" p) [a] [] pos) (e1 j9 fa):=⟨have ha:=ha.un;by
  have q:=T.gl ("int" : Str) (List.mem_of_getElem? hG);have key:PE X (.Call (.Name "int" p) [a] [] pos) (ik X fU (fun ρ=>ai fa aD ρ>>=one j9)) :=
    PE.imp (oH nZ q.1 hm PyProof.Rows.boot_int (iS ha mE he) q.2.2 q.2.1 (aS he)) (qJ dO (p9 fun H x d Q hx q=>by
      cases d with
      | int i=>exact .inl ⟨i,by rw [bd hx],q _ H (ar.refl _) cY⟩
      | bool k=>exact .inr ⟨k,by rw [ml hx],q _ H (ar.refl _) cY⟩
      | _=>exact q.elim))
  rw [pW] at key;exact key⟩
end
noncomputable abbrev gH:=List PyData->R PyData
structure gI (P:Program) (w:World) (K:PySem.W.Frag) (mg:Str->Option Value) (base:Heap) (k:Nat) (x:Str) (ps:List Str) (F:gH) (f:Addr) (fd:FuncData):Prop where
  ok:aW P w K mg base (cM P w mg) k f fd ps (dt F ps.length)
  m:mg x=some (.ref f)
  kp:PySem.W.keepIn K (.ref f)=true
  b:bH K fd ps []
theorem au {X:Cx} {k:Nat} {f:Addr} {fd:FuncData} {ps:List Str} {F:gH} {x:Str} {p pos:Pos} {e:Expr} {es:List Expr} {fs:aE->R (List PyData)} {nl:Nat} {G:List Str} (C:gI X.prog X.w X.K X.mg X.base k x ps F f fd) (hr:fq k X.A) (T:Tb X nl G) (j:Nat) (hG:G[j]?=some x) (ha:Z.rW X (e::es) fs) (hlen:(e::es).length=ps.length) (hfs:∀ ρ ds,fs ρ=.ok ds->ds.length=ps.length) (he:(e::es).all aH=true:=by rfl):Z.cE X (.Call (.Name x p) (e::es) [] pos) (aI F fs):=⟨have ha:=ha.un;yR C.ok hr T j hG C.m C.kp C.b ha hlen hfs he⟩
structure cy (K:PySem.W.Frag) (x:Str) (st:Stmt) (f:Addr) (fd:FuncData):Prop where
  ns:PySem.W.nsIn K mainGlobals x=some (some (.ref f))
  fn:gi K x x st f fd
theorem aN {K:PySem.W.Frag} {x:Str} {st:Stmt} {f:Addr} {oc:Value} {od an:Option Addr} {osl:Array (Option Value)} {kV doc pm cdv ct:Value} (a:PySem.W.nsIn K mainGlobals x=some (some (.ref f))) (l:K.lookup f=some ⟨oc,od,.func (PySem.W.fnOf x x (eG st) (cV st) (ak st) .none kV doc pm an cdv ct),osl⟩) (c:PySem.W.codeIn K cdv x=true) (k:PySem.W.keepIn K (.ref f)=true) :
    cy K x st f (PySem.W.fnOf x x (eG st) (cV st) (ak st) .none kV doc pm an cdv ct):=⟨a,wE l c k⟩
end D2
namespace D2
open PySem PySem.Spec PySem.Calls PySem.W PyProof.Rows L2 Builtin Builtin.ObjectAttr Builtin.Getset_descriptor
structure jS (K:PySem.W.Frag) (C:Addr):Prop where
  ga:PySem.W.findIn K (.ref C) "__getattribute__" = some (some (.builtin "BaseException.__getattribute__"))
  gt:PySem.W.findIn K (.ref C) "__getattr__" = some none
  cl:PySem.W.findIn K (.ref C) "__class__" = some (some (.builtin "object.__class__"))
  ob:PySem.W.mroIn K C (.type "object")=some true
  bx:PySem.W.mroIn K C (.type "BaseException")=some true
  gs:PySem.W.specialIn K (.builtin "object.__class__") "__get__" = some (some (.builtin "getset_descriptor.__get__"))
  tk:PySem.W.takesIn K (.builtin "object.__class__")=some true
section
variable {prog:Program} {w:World} {A:Around} {E:Value->Shared->Prop} {s:Shared} {K:PySem.W.Frag} {x C:Addr} {ox:Obj}
theorem wD {M:Model} {h:Heap} (Z:jS K C) (X:K.In h):PySem.W.Looks M h (find (.ref x) (.ref C) "__class__") (.bind (.builtin "getset_descriptor.__get__") (.builtin "object.__class__")):=by
  refine (PySem.W.looks_findIn X Z.cl).andThen ((PySem.W.looks_specialIn X Z.gs).andThen ?_);exact (show PySem.W.Looks M h (dataDescriptor? (some (.builtin "object.__class__")) (some (.builtin "getset_descriptor.__get__"))) (some (.builtin "getset_descriptor.__get__",.builtin "object.__class__")) from (PySem.W.looks_takesIn X Z.tk).andThen .now).andThen (PySem.W.Looks.tag .now)
theorem yS {tp:Value} {R:Result->Shared->Prop} (Z:jS K C) (X:K.In s.heap) (L:PySem.W.Looks (model prog w) s.heap (typeOf (.ref x)) (.ref C)) (h:R (.ok (.ret (.ref C))) s) :
    codeAny (model prog w) A (.call (.builtin "getset_descriptor.__get__") ⟨[.builtin "object.__class__",.ref x,tp],[]⟩) R s:=by
  obtain ⟨hh,g,dr,t,os⟩:=s;have L0:=L;have L1:=PySem.W.looks_mroIn (M:=model prog w) X Z.ob;refine codeAny_call_builtin PySem.W.KF.slot_gs.plain PySem.W.KF.entry_gs (PySem.W.KF.slot_gs.check _ _ _ _ _ _ _ _ PySem.W.KF.type_class (PySem.W.KF.args_gs _ _ _) ?_);unfold Builtin.«getset_descriptor.__get__» descrGet;rw [PySem.W.dga_obj];refine wpAny_bind (wpAny_pure ?_);unfold descrGetter descrCheckInstance descrNameAndClass isInstance;simp only [PySem.W.KF.owner_class]
  repeat lk
  refine ⟨Code.quiet_builtin _ (by decide +kernel),codeAny_builtin PySem.W.KF.entry_class ?_⟩;unfold Builtin.«object.__class__» shownTypeOf
  repeat lk
  exact h
theorem oa {tk:Tok} {Q:Fin->Shared->Prop} (Z:jS K C) (X:K.In s.heap) (L:PySem.W.Looks (model prog w) s.heap (typeOf (.ref x)) (.ref C)) (h:Q (.done (.ret (.ref C))) s) :
    wpAny (model prog w) A (Builtin.«object.__getattribute__» ⟨[.ref x,.str "__class__" tk],[]⟩) Q E s:=by
  obtain ⟨hh,g,d,t,os⟩:=s;have L1:=wD (M:=model prog w) (x:=x) Z X;refine wpAny_bind (wpAny_pure (wpAny_bind ?_));show wpAny _ _ (pure _) _ _ _;refine wpAny_pure (wpAny_bind (L.at (wpAny_bind (L1.at ?_))));show wpAny _ _ (holding [Value.builtin "object.__class__"] (call (.builtin "getset_descriptor.__get__") [.builtin "object.__class__",.ref x,.ref C])>>=ret) _ _ _;exact wpAny_bind (wpAny_holding (wpAny_call (yS (s:=⟨hh,g,d,t,os⟩) Z X L (wpAny_pure h))))
theorem wC {tk:Tok} {R:Result->Shared->Prop} (Z:jS K C) (X:K.In s.heap) (L:PySem.W.Looks (model prog w) s.heap (typeOf (.ref x)) (.ref C)) (h:R (.ok (.ret (.ref C))) s) :
    codeAny (model prog w) A (.call (.builtin "BaseException.__getattribute__") ⟨[.ref x,.str "__class__" tk],[]⟩) R s:=by
  obtain ⟨hh,g,d,t,os⟩:=s;have L1:=PySem.W.looks_mroIn (M:=model prog w) X Z.bx;refine codeAny_call_builtin F.excAttr_ValueError.ga.plain F.entry_bexc_ga ?_;have hk:builtinKind "BaseException.__getattribute__" = some .slot:=by decide +kernel
  have hsplit:splitId "BaseException.__getattribute__" = some ("BaseException","__getattribute__"):=by decide +kernel
  have ha:=F.args_bexc_ga (.ref x) (.str "__class__" tk);simp only [checkBuiltinCall,hk,hsplit];refine wpAny_bind ?_;unfold isInstance;refine wpAny_bind (L.at (L1.at ?_));rw [if_neg (by decide)];unfold argsOk at ha;cases hsg:Manifest.signature? "BaseException.__getattribute__" with
  | none=>exact wpAny_pure (oa (s:=⟨hh,g,d,t,os⟩) Z X L h)
  | some sig =>
    rw [hsg] at ha;dsimp only at ha ⊢;rw [ha];exact wpAny_pure (oa (s:=⟨hh,g,d,t,os⟩) Z X L h)
theorem uS {Q:Option Value->Shared->Prop} (Z:jS K C) (X:K.In s.heap) (L:PySem.W.Looks (model prog w) s.heap (typeOf (.ref x)) (.ref C)) (h:Q (some (.ref C)) { s with toks:=s.toks+1 }) :
    wpAny (model prog w) A (getAttr? (.ref x) "__class__") Q E s:=by
  obtain ⟨hh,g,d,t,os⟩:=s;have L1:=PySem.W.looks_findIn (M:=model prog w) X Z.ga;have L2:=PySem.W.looks_findIn (M:=model prog w) X Z.gt;have f3:=F.excAttr_ValueError.ga.bind (.ref x);unfold getAttr? getAttrBy? getAttrBy;refine wpAny_bind (wpAny_mkText (wpAny_bind (wpAny_attempt (wpAny_holding (wpAny_bind (L.at (wpAny_bind (L1.at ?_))))))));show wpAny _ _ (getAttrByItsOwn _ _ _ _ _ _) _ _ _;unfold getAttrByItsOwn;refine wpAny_bind (show wpAny _ _ (typeLookup (.ref C) "__getattr__") _ _ _ from L2.at ?_);refine wpAny_bind (wpAny_attempt (wpAny_holding ?_));show wpAny _ _ (boundAndCalled _ _ _) _ _ _;unfold boundAndCalled;rw [f3];refine wpAny_bind (wpAny_pure ?_);show wpAny _ _ (call (.builtin "BaseException.__getattribute__") [.ref x,.str "__class__" _]) _ _ _;refine wpAny_call (wC (s:=⟨hh,g,d,t+1,os⟩) Z X L ?_);exact PySem.W.handed_on rfl (wpAny_pure h)
theorem wQ (Z:jS K C) (hc:ox.cls=.ref C):PySem.W.KitX K (.ref x) (.ref C) (fun h=>h.get? x=some ox):=by
  have ty:∀ (M:Model) (h:Heap),K.In h->h.get? x=some ox->PySem.W.Looks M h (typeOf (.ref x)) (.ref C):=fun M h _ hp=>hc ▸ (PySem.W.Looks.ld hp).andThen .now
  obtain ⟨cd,hcd,_⟩:=Option.bind_eq_some_iff.mp Z.ob;unfold PySem.W.clsIn at hcd;split at hcd
  · rename_i c' d' cd' sl' ho;refine ⟨ty,fun M h X _=>?_,fun h tp dd its n sl X htp=>?_,fun X p k=>uS Z X (ty _ _ X p) k⟩
    · intro A' Q' E' s' k q;unfold isType loadHead;exact wpAny_bind (wpAny_loadPart (k _ _ (X _ _ ho)) (wpAny_pure q))
    · refine Bool.eq_false_iff.mpr fun q=>?_
      have e:C=tp:=Value.ref.inj (beq_iff_eq.mp q);subst e;have z:=(X _ _ ho).symm.trans htp;cases z
  · cases hcd
end
noncomputable def ig (i:Nat) (p:Addr):Fe:=fun ρ=>match ρ[i]? with
  | some (.exc q)=>if q=p then .ok (.bool false) else .no
  | _=>.no
end D2
namespace D2
open PySem PySem.Spec PyProof.Rows L2 PySem.Builtin PySem.Builtin.Str
end D2
set_option maxHeartbeats 400000
namespace D2
open PySem PySem.Spec PyProof.Rows L2 PySem.Builtin
end D2
namespace D2
open PySem PySem.Spec PyProof.Rows L2
end D2
namespace HT
open PySem PySem.Spec PyProof.Rows L2
section
open PySem.SeqAt
open PySem.AutoSeq1 (wpAny_loadPart')
open PySem.MeetsSeq PySem.MeetsSeq2 PySem.MeetsSeq3
end
end HT
namespace D2
open PySem PySem.Spec PyProof.Rows L2
noncomputable def gT (H:Hp):List V->List (List Int)->Prop
  | [],rs=>rs=[]
  | v::vs,rs=>∃ a r rs',v=.ref a/\rs=r::rs'/\H a=some (.tup (r.map V.int))/\gT H vs rs'
theorem gT.len {H:Hp}:∀ {vs:List V} {rs:List (List Int)},gT H vs rs->vs.length=rs.length
  | [],rs,h=>by simp only [gT] at h;rw [h];rfl
  | v::vs,rs,h=>by
    simp only [gT] at h;obtain ⟨a,r,rs',_,rfl,_,t⟩:=h;rw [List.length_cons,List.length_cons,t.len]
theorem gT.get {H:Hp}:∀ {vs:List V} {rs:List (List Int)} {i:Nat},gT H vs rs->i < rs.length->∃ a,vs[i]?=some (.ref a)/\H a=some (.tup ((rs.getD i []).map V.int))
  | [],rs,i,h,hi=>by simp only [gT] at h;rw [h] at hi;simp at hi
  | v::vs,rs,i,h,hi=>by
    simp only [gT] at h;obtain ⟨a,r,rs',rfl,rfl,ha,t⟩:=h;cases i with
    | zero=>exact ⟨a,rfl,ha⟩
    | succ i =>
      obtain ⟨b,h1,h2⟩:=t.get (i:=i) (by simpa using hi);exact ⟨b,by simpa using h1,by simpa using h2⟩
end D2
namespace D2
open PySem PySem.Spec PyProof.Rows
noncomputable def Rs (xs:Array Nat):Prop:=∀ i j:Nat,i < j->j < xs.size->xs.getD i 0 < xs.getD j 0
theorem l9 {xs:Array Nat} (hr:Rs xs) (j:Nat):∀ (fuel lo hi:Nat),hi-lo<=fuel->lo<=hi->hi<=xs.size->(∀ i,i < lo->xs.getD i 0 < j)->(∀ i,hi<=i->i < xs.size->j<=xs.getD i 0) ->
    lo<=SetTable.below.go xs j fuel lo hi/\SetTable.below.go xs j fuel lo hi<=hi/\(∀ i,i < SetTable.below.go xs j fuel lo hi->xs.getD i 0 < j)/\(∀ i,SetTable.below.go xs j fuel lo hi<=i->i < xs.size->j<=xs.getD i 0)
  | 0,lo,hi,h,h1,h2,h3,h4=>by
    have:lo=hi:=by omega
    subst this;exact ⟨Nat.le_refl _,Nat.le_refl _,h3,h4⟩
  | fuel+1,lo,hi,h,h1,h2,h3,h4=>by
    unfold SetTable.below.go;by_cases hl:lo < hi
    · rw [if_pos hl];dsimp only;have hm:(lo+hi) / 2 < hi:=by omega
      have hm0:lo<=(lo+hi) / 2:=by omega
      have e:xs.getD ((lo+hi) / 2) j=xs.getD ((lo+hi) / 2) 0:=by
        have:(lo+hi) / 2 < xs.size:=by omega
        simp [Array.getD,this]
      rw [e];by_cases hx:xs.getD ((lo+hi) / 2) 0 < j
      · rw [if_pos hx];obtain ⟨a,b,c,d⟩:=l9 hr j fuel ((lo+hi) / 2+1) hi (by omega) (by omega) h2 (fun i hi'=>by
          by_cases z:i=(lo+hi) / 2
          · rw [z];exact hx
          · exact Nat.lt_trans (hr i ((lo+hi) / 2) (by omega) (by omega)) hx) h4
        exact ⟨by omega,b,c,d⟩
      · rw [if_neg hx];obtain ⟨a,b,c,d⟩:=l9 hr j fuel lo ((lo+hi) / 2) (by omega) hm0 (by omega) h3 (fun i hi' hs=>by
          by_cases z:i=(lo+hi) / 2
          · rw [z];omega
          · have:=hr ((lo+hi) / 2) i (by omega) hs;omega)
        exact ⟨a,by omega,c,d⟩
    · rw [if_neg hl];have:lo=hi:=by omega
      subst this;exact ⟨Nat.le_refl _,Nat.le_refl _,h3,h4⟩
theorem ma {xs:Array Nat} (hr:Rs xs) (j:Nat):SetTable.below xs j<=xs.size/\(∀ i,i < SetTable.below xs j->xs.getD i 0 < j)/\(∀ i,SetTable.below xs j<=i->i < xs.size->j<=xs.getD i 0):=by
  obtain ⟨_,b,c,d⟩:=l9 hr j xs.size 0 xs.size (by omega) (by omega) (Nat.le_refl _) (fun i h=>by omega) (fun i h1 h2=>by omega);exact ⟨b,c,d⟩
theorem wc {xs:Array Nat} (hr:Rs xs) {j p:Nat} (hp:p<=xs.size) (h1:∀ i,i < p->xs.getD i 0 < j) (h2:∀ i,p<=i->i < xs.size->j<=xs.getD i 0):SetTable.below xs j=p:=by
  obtain ⟨a,b,c⟩:=ma hr j;by_cases z:SetTable.below xs j < p
  · have q1:=h1 _ z;have q2:=c _ (Nat.le_refl _) (by omega);omega
  · by_cases z2:p < SetTable.below xs j
    · have q1:=b p z2;have q2:=h2 p (Nat.le_refl _) (by omega);omega
    · omega
theorem getD_some {xs:Array Nat} {i j:Nat} (h:xs[i]?=some j):i < xs.size/\xs.getD i 0=j:=by
  obtain ⟨h1,h2⟩:=Array.getElem?_eq_some_iff.mp h;exact ⟨h1,by simp [Array.getD,h1,h2]⟩
theorem oO {xs:Array Nat} {i:Nat} (h:i < xs.size):xs[i]?=some (xs.getD i 0):=by simp [Array.getD,h]
theorem u5 {xs:Array Nat} (hr:Rs xs) {j:Nat} (hn:xs[SetTable.below xs j]?≠some j):Rs (SetTable.insertAt xs (SetTable.below xs j) j):=by
  obtain ⟨a,b,c⟩:=ma hr j;generalize hp:SetTable.below xs j=p at *;have c':∀ i,p<=i->i < xs.size->j < xs.getD i 0:=fun i h1 h2=>by
    have h3:=c i h1 h2;by_cases z:i=p
    · have:=oO h2;rw [z] at this h3 ⊢;rw [this] at hn;have:xs.getD p 0≠j:=fun q=>hn (by rw [q])
      omega
    · have:=hr p i (by omega) h2;have:=c p (Nat.le_refl _) (by omega);omega
  have sz:(SetTable.insertAt xs p j).size=xs.size+1:=by
    unfold SetTable.insertAt;simp;omega
  have at':∀ i,i < xs.size+1->(SetTable.insertAt xs p j).getD i 0=if i < p then xs.getD i 0 else if i=p then j else xs.getD (i-1) 0:=fun i hi=>by
    have e:(SetTable.insertAt xs p j)[i]?=some (if i < p then xs.getD i 0 else if i=p then j else xs.getD (i-1) 0):=by
      unfold SetTable.insertAt;by_cases h1:i < p
      · rw [if_pos h1,Array.getElem?_append_left (by simp;omega),Array.getElem?_push_lt (by simp;omega)];simp [Array.getD,show i < xs.size by omega]
      · by_cases h2:i=p
        · rw [if_neg h1,if_pos h2,Array.getElem?_append_left (by simp;omega)];have:((xs.extract 0 p).push j)[i]?=some j:=by
            have hsz:(xs.extract 0 p).size=i:=by rw [h2];simp;omega
            rw [Array.getElem?_push,if_pos hsz.symm]
          exact this
        · rw [if_neg h1,if_neg h2,Array.getElem?_append_right (by simp;omega)];simp only [Array.size_push,Array.size_extract];rw [Array.getElem?_extract];simp [Array.getD,show i-1 < xs.size by omega];refine ⟨by omega,?_⟩;rw [show p+(i-(min p xs.size+1))=i-1 by omega];simp [show i-1 < xs.size by omega]
    exact (getD_some e).2
  intro i k hik hk;rw [sz] at hk;rw [at' i (by omega),at' k hk];by_cases h1:i < p
  · rw [if_pos h1];by_cases h2:k < p
    · rw [if_pos h2];exact hr i k hik (by omega)
    · rw [if_neg h2];by_cases h3:k=p
      · rw [if_pos h3];exact b i h1
      · rw [if_neg h3];exact Nat.lt_trans (b i h1) (c' (k-1) (by omega) (by omega))
  · rw [if_neg h1,if_neg (show ¬ k < p by omega),if_neg (show ¬ k=p by omega)];by_cases h3:i=p
    · rw [if_pos h3];exact c' (k-1) (by omega) (by omega)
    · rw [if_neg h3];exact hr (i-1) (k-1) (by omega) (by omega)
theorem xI (n:Nat):Rs (Array.range n):=fun i j h1 h2=>by
  simp at h2;simp [Array.getD,show i < n by omega,h2,h1]
theorem rk {l:List Nat} (h:l.Pairwise (· < ·)):Rs l.toArray:=fun i j h1 h2=>by
  simp at h2;have:=List.pairwise_iff_getElem.mp h i j (by omega) h2 h1;simpa [Array.getD,show i < l.length by omega,h2] using this
theorem oM {t:SetTable} {j:Nat} (h:t.slot j=.empty\/t.slot j=.dummy):t.place[SetTable.below t.place j]?≠some j:=by
  intro z;unfold SetTable.slot at h;dsimp only at h;rw [z] at h;simp at h
theorem jK (t:SetTable) (hashAt:Nat->Int) (hh:Int):∀ (fuel:Nat) (p:SetTable.Probe) (j:Nat) (dm:Option Nat),(∀ d,p.dummy=some d->t.slot d=.dummy)->SetTable.probe.go t hashAt hh fuel p=some (.empty j dm)->t.slot j=.empty/\∀ d,dm=some d->t.slot d=.dummy
  | 0,p,j,dm,_,e=>by cases e
  | fuel+1,p,j,dm,h,e=>by
    have adv:∀ q:SetTable.Probe,(t.advance q).dummy=q.dummy:=fun q=>by
      unfold SetTable.advance;split <;> rfl
    unfold SetTable.probe.go at e;cases hs:t.slot p.j with
    | empty =>
      rw [hs] at e;dsimp only at e;injection e with e
      injection e with e1 e2
      subst e1 e2;exact ⟨hs,h⟩
    | dummy =>
      rw [hs] at e;dsimp only at e;refine jK t hashAt hh fuel _ j dm (fun d hd=>?_) e;rw [adv] at hd;injection hd with hd
      rw [<- hd];exact hs
    | live i =>
      rw [hs] at e;dsimp only at e;split at e
      · cases e
      · exact jK t hashAt hh fuel _ j dm (fun d hd=>h d (by rw [adv] at hd;exact hd)) e
theorem uX {t:SetTable} {h:Int} {slot:Nat} {wd:Bool} (e:t.freeSlot h=some (slot,wd)):t.place[SetTable.below t.place slot]?≠some slot:=by
  unfold SetTable.freeSlot at e;split at e
  · rename_i j dm hp;injection e with e
    injection e with e1 e2
    obtain ⟨h1,h2⟩:=jK t _ _ _ _ j dm (fun d hd=>by cases hd) hp;cases dm with
    | none =>
      have:j=slot:=e1;rw [<- this];exact oM (.inl h1)
    | some d =>
      have:d=slot:=e1;rw [<- this];exact oM (.inr (h2 d rfl))
  · cases e
noncomputable def uv (b:Bool) (t:SetTable):Prop:=t.led=b/\Rs t.place
theorem ic {b:Bool} {t:SetTable} (h:uv b t) (n:Nat):uv b (t.standIn n):=⟨h.1,xI n⟩
theorem vf {b:Bool} {t:SetTable} (h:uv b t) (es:Array (Int×Value)) (hh:Int) (x:Value):uv b (layNew t es hh x).2.1:=by
  unfold layNew;split
  · rename_i slot wd e;have hp:uv b (t.put slot).1:=⟨h.1,u5 h.2 (uX e)⟩
    dsimp only;unfold SetTable.orStandIn;split
    · exact hp
    · exact ic hp _
  · exact ic h _
theorem xL {b:Bool} {t:SetTable} (h:uv b t) (es:Array (Int×Value)) (wanted:Nat):uv b (relayAll t es wanted).2.1:=by
  unfold relayAll;split
  · rename_i t' order e;dsimp only;split
    · unfold SetTable.relaid SetTable.laid at e;simp only [Option.bind_eq_bind,Option.bind_eq_some_iff,Option.pure_def,Option.some.injEq] at e;obtain ⟨owner,_,e⟩:=e;injection e with e1 e2
      subst e1;refine ⟨h.1,?_⟩;dsimp only;refine rk ?_;rw [List.pairwise_map,List.pairwise_filterMap];refine List.pairwise_lt_range.imp fun {a c} hac x hx y hy=>?_
      simp only [Option.map_eq_some_iff] at hx hy;obtain ⟨_,_,rfl⟩:=hx;obtain ⟨_,_,rfl⟩:=hy;exact hac
    · exact ic h _
  · exact ic h _
theorem xu {b p:Bool} {t:SetTable} (h:uv b t):uv b { t with plain:=p }:=h
noncomputable def vb:Value->Int
  | .int n _=>n
  | _=>0
noncomputable def im (es:Array (Int×Value)):List Int:=es.toList.map fun e=>vb e.2
theorem vG (es:Array (Int×Value)):(im es).length=es.size:=by unfold im;simp
theorem tj {xs ys:Array (Int×Value)} (p:xs.toList.Perm ys.toList):(im xs).Perm (im ys):=p.map _
section
variable (prog:Program) (w:World)
structure qc (h:Heap) (S:Addr) (led:Bool) (es:Array (Int×Value)) (t:SetTable):Prop where
  obj:∃ u ep,h.get? S=some u/\u.ExactSet/\u.data=.set es ep t
  elm:ElemsOf (intKind prog w) es.toList
  few:es.size < scanBound
  fit:t.fits es.size=true
  tab:uv led t
noncomputable def lC (h:Heap) (S:Addr) (led:Bool) (l:List Int):Prop:=∃ es t,qc prog w h S led es t/\(im es).Perm l
end
section
variable {prog:Program} {w:World} {A:Around} {E:Value->Shared->Prop} {s:Shared} {S:Addr} {led:Bool}
theorem pS {k:Int} {v:Value} (q:(intKind prog w).is k v=true):vb v=k:=by
  obtain ⟨_,rfl⟩:=Value.isInt_shape (k:=k) (v:=v) q;rfl
theorem qc.mem {h:Heap} {es:Array (Int×Value)} {t:SetTable} (I:qc prog w h S led es t) (k:Int):k∈im es<->(es.toList.findIdx? fun e=>(intKind prog w).is k e.2).isSome=true:=by
  rw [List.findIdx?_isSome,List.any_eq_true];unfold im;rw [List.mem_map];constructor
  · rintro ⟨e,me,rfl⟩;obtain ⟨⟨j,isj,_⟩,_⟩:=I.elm e me;exact ⟨e,me,by rw [pS isj];exact isj⟩
  · rintro ⟨e,me,isk⟩;exact ⟨e,me,pS isk⟩
theorem qc.put {es ys:Array (Int×Value)} {t r:SetTable} {Q:Unit->Shared->Prop} (I:qc prog w s.heap S led es t) (hi:ElemsOf (intKind prog w) ys.toList) (hs:ys.size < scanBound) (hf:r.fits ys.size=true) (ht:uv led r)
    (q:∀ g:Heap,Heap.SameBut S s.heap g->qc prog w g S led ys r->Q () { s with heap:=g }):wpAny (model prog w) A (storeSet S ys r) Q E s:=by
  obtain ⟨u,ep,hu,hx,hd⟩:=I.obj;refine wpAny_storeSet_of hu hd (q _ (Heap.SameBut.update _ S _) ⟨⟨{ u with data:=.set ys (ep+1) r },ep+1,?_,hx,rfl⟩,hi,hs,hf,ht⟩) (fits_of_scanBound hs);have z:=Heap.get?_update_self (Obj.putSet ys r) hu (by rw [putSet_of ys r hd];rfl)
  rwa [putSet_of ys r hd] at z
theorem qc.grow {gw:Bool->Sem Unit} (hgw:∀ (b:Bool) (s₁:Shared) (Q':Unit->Shared->Prop),Q' () s₁->wpAny (model prog w) A (gw b) Q' E s₁)
    {es ys:Array (Int×Value)} {t r:SetTable} (I:qc prog w s.heap S led es t) (hi:ElemsOf (intKind prog w) ys.toList) (hs:ys.size < scanBound) (hf:r.fits ys.size=true) (ht:uv led r) {d:Bool} {R:Option Bool->Shared->Prop}
    (q:∀ (g:Heap) (zs:Array (Int×Value)) (v:SetTable),Heap.SameBut S s.heap g->qc prog w g S led zs v->(im zs).Perm (im ys)->R (some true) { s with heap:=g }) :
    wpAny (model prog w) A (storeSet S ys r>>=fun _=>if (!d&&r.tooFull)=true then (gw (relayAll r ys (SetTable.grown ys.size)).2.2>>=fun _=>storeSet S (relayAll r ys (SetTable.grown ys.size)).1 (relayAll r ys (SetTable.grown ys.size)).2.1>>=fun _=>pure (some true)) else pure (some true)) R E s:=by
  refine wpAny_bind (I.put hi hs hf ht fun g1 k1 I1=>?_);by_cases full:(!d&&r.tooFull)=true
  · rw [if_pos full];have pm:=relayAll_perm r ys (SetTable.grown ys.size);have ft:=relayAll_fits r ys (SetTable.grown ys.size);have tb:=xL ht ys (SetTable.grown ys.size);have ln:(relayAll r ys (SetTable.grown ys.size)).1.size=ys.size:=by simpa using pm.length_eq
    exact wpAny_bind (hgw _ _ _ (wpAny_bind (I1.put (hi.perm pm) (by rw [ln];exact hs) ft tb fun g2 k2 I2=>wpAny_pure (q g2 _ _ (k1.trans k2) I2 (tj pm)))))
  · rw [if_neg full];exact wpAny_pure (q g1 ys r k1 I1 (List.Perm.refl _))
theorem sj {l:List Int} {k:Int} {x:Value} {Q:Bool->Shared->Prop} (isx:(intKind prog w).is k x=true) (sc:x.scannable=true) (X:lC prog w s.heap S led l) (room:l.length+1 < scanBound)
    (q:∀ (b:Bool) (g:Heap),Heap.SameBut S s.heap g->lC prog w g S led (step_dedup l k)->Q b { s with heap:=g }):wpAny (model prog w) A (setAddHashed S x ((intKind prog w).hash k)) Q E s:=by
  obtain ⟨es,t,I,pm⟩:=X;have ln:es.size=l.length:=by rw [<- vG];exact pm.length_eq
  obtain ⟨u,ep,hu,hx,hd⟩:=I.obj;have hin:l.any (·==k)=(es.toList.findIdx? fun e=>(intKind prog w).is k e.2).isSome:=by
    rw [Bool.eq_iff_iff,<- I.mem k,pm.mem_iff,List.any_eq_true];exact ⟨fun ⟨y,my,e⟩=>by rw [<- of_decide_eq_true e];exact my,fun m=>⟨k,m,by simp⟩⟩
  unfold setAddHashed setAddHashedIn setAddByScan;apply wpAny_holding;apply wpAny_bind;apply wpAny_setState_of hu hd I.fit;dsimp only;rw [if_pos (byScan_of sc I.few I.elm)];apply wpAny_bind;apply wpAny_bind;apply wpAny_rule;apply wpAny_bind;apply wpAny_setScan_of isx hu hd I.fit I.elm;cases fi:es.toList.findIdx? fun e=>(intKind prog w).is k e.2 with
  | some j =>
    rw [fi,Option.isSome_some] at hin;refine wpAny_pure (wpAny_pure ?_);exact q false s.heap (Heap.SameBut.refl S _) ⟨es,t,I,by unfold step_dedup;rw [if_pos hin];exact pm⟩
  | none =>
    rw [fi] at hin;have sd:step_dedup l k=l++[k]:=by unfold step_dedup;rw [if_neg (by rw [hin];simp)]
    have lp:=layNew_perm t es ((intKind prog w).hash k) x;have lf:=layNew_fits t es ((intKind prog w).hash k) x;have lt:=vf I.tab es ((intKind prog w).hash k) x;revert lp lf lt;generalize layNew t es ((intKind prog w).hash k) x=N;obtain ⟨ys,r,d,gave⟩:=N;intro lp lf lt;dsimp only at lp lf lt ⊢;rw [Array.toList_push] at lp;have yi:ElemsOf (intKind prog w) ys.toList:=ElemsOf.perm (ElemsOf.push I.elm isx sc) lp;have yl:ys.size=es.size+1:=by simpa using lp.length_eq
    have ys':ys.size < scanBound:=by omega
    have yp:(im ys).Perm (step_dedup l k):=by
      rw [sd];refine (lp.map fun e=>vb e.2).trans ?_;rw [List.map_append,List.map_singleton,pS isx];exact pm.append_right [k]
    have gw:∀ (b:Bool) (s₁:Shared) (Q':Unit->Shared->Prop),Q' () s₁->wpAny (model prog w) A (match b with | true=>rule "set.scan.the-table-gave-way" | false=>pure ()) Q' E s₁:=fun b s₁ Q' h=>by
      cases b
      · exact wpAny_pure h
      · exact wpAny_rule h
    have fin:∀ (g:Heap) (zs:Array (Int×Value)) (v:SetTable),Heap.SameBut S s.heap g->qc prog w g S led zs v->(im zs).Perm (im ys)->Q true { s with heap:=g }:=fun g zs v k1 J p=>q true g k1 ⟨zs,v,J,p.trans yp⟩
    apply wpAny_bind;apply gw;have done:∀ r':SetTable,r'.fits ys.size=true->uv led r'->wpAny (model prog w) A (storeSet S ys r'>>=fun _=>if (!d&&r'.tooFull)=true then ((match (relayAll r' ys (SetTable.grown ys.size)).2.2 with | true=>rule "set.scan.the-table-gave-way" | false=>pure ())>>=fun _=>storeSet S (relayAll r' ys (SetTable.grown ys.size)).1 (relayAll r' ys (SetTable.grown ys.size)).2.1>>=fun _=>pure (some true)) else pure (some true))
        (fun o s'=>wpAny (model prog w) A (match o with | some added=>pure added | none=>setAddHashedIn S x ((intKind prog w).hash k) 99999) Q E s') E s:=fun r' f' t' =>
      qc.grow (gw:=fun b=>match b with | true=>rule "set.scan.the-table-gave-way" | false=>pure ()) gw I yi ys' f' t' fun g zs v k1 J p=>wpAny_pure (fin g zs v k1 J p)
    cases pl:r.plain with
    | true =>
      rw [hashByValue_scannable 8 sc];apply wpAny_bind;apply wpAny_pure;cases plainKind x with
      | true=>exact done r lf lt
      | false=>exact done { r with plain:=false } (SetTable.fits_plain_off lf) (xu lt)
    | false =>
      apply wpAny_bind;apply wpAny_pure;exact done r lf lt
end
section
variable {prog:Program} {w:World} {A:Around} {E:Value->Shared->Prop} {s:Shared} {R:Result->Shared->Prop} {I S:Addr} {fp wr:List Addr} {G:Array GenState->Array GenState->Prop} {n:Nat} {P:Nat->Value->Prop} {St:Nat->Shared->Prop} {led:Bool}
theorem lC.moved {s s':Shared} {wr:List Addr} {l:List Int} (X:lC prog w s.heap S led l) (hS:S∉wr) (m:Moved wr G s s'):lC prog w s'.heap S led l:=by
  obtain ⟨es,t,J,pm⟩:=X;obtain ⟨u,ep,hu,r⟩:=J.obj;exact ⟨es,t,⟨⟨u,ep,m.heap S u hS hu,r⟩,J.elm,J.few,J.fit,J.tab⟩,pm⟩
theorem uU (W:WalksS prog w A.in1 I fp wr G n P St) (out:S∉fp) (f:Nat->Int) (hf:∀ i v,P i v->∃ tk,v=.int (f i) tk) (room:n+1 < scanBound):∀ (m i:Nat) (s:Shared),n-i=m->i<=n->St i s->lC prog w s.heap S led (firstMet f i) ->
    (∀ s',Moved (S::wr) G s s'->lC prog w s'.heap S led (firstMet f n)->R (.ok (.ret .none)) s')->codeAny (model prog w) A (.builtin "set.update.loop" ⟨[.ref S,.ref I],[]⟩) R s:=by
  have outw:S∉wr:=fun z=>out (W.sub _ z)
  have wid:∀ {a b:Shared},Moved wr G a b->Moved (S::wr) G a b:=fun m=>m.mono fun b hb=>List.mem_cons_of_mem _ hb
  intro m;induction m with
  | zero =>
    intro i s e1 e2 st X fin;obtain rfl:i=n:=by omega
    refine codeAny_builtin PyProof.Rows.F.entry_set_update_loop ?_;rw [Around.under_plainId PyProof.Rows.F.plain_set_update_loop _];show wpAny _ A.in1 (pyNext (.ref I)>>=_) _ _ s;exact wpAny_bind (W.done s _ _ st fun s' mv=>wpAny_pure (fin s' (wid mv) (X.moved outw mv)))
  | succ m ih =>
    intro i s e1 e2 st X fin;have lt:i < n:=by omega
    refine codeAny_builtin PyProof.Rows.F.entry_set_update_loop ?_;rw [Around.under_plainId PyProof.Rows.F.plain_set_update_loop _];show wpAny _ A.in1 (pyNext (.ref I)>>=_) _ _ s;apply wpAny_bind;apply W.item i s _ _ lt st;intro v s1 hv st1 mv;obtain ⟨tk,rfl⟩:=hf i v hv;have X1:=X.moved outw mv;show wpAny _ A.in1 (holding [Value.int (f i) tk] (setAdd S (.int (f i) tk))>>=_) _ _ s1;apply wpAny_bind;apply wpAny_holding;unfold setAdd;apply wpAny_holding;apply wpAny_bind;apply (intKind prog w).pyHash (k:=f i) (intKind_is _ _ _ _);have few:(firstMet f i).length+1 < scanBound:=by have:=firstMet_length_le f i;omega
    refine sj (s:={ s1 with toks:=s1.toks+1 }) (intKind_is _ _ _ _) rfl X1 few fun _ g kp X2=>?_
    rw [<- firstMet_succ] at X2;have kpo:∀ b o,b≠S->s1.heap.get? b=some o->g.get? b=some o:=fun b o ne e=>by rw [kp.2 b ne];exact e
    refine wpAny_pure ⟨plainId_quiet PyProof.Rows.F.plain_set_update_loop _,ih (i+1) _ (by omega) lt (W.frame _ s1 _ _ st1 (Nat.le_succ _) fun b hb o e=>kpo b o (fun z=>out (z ▸ hb)) e) X2 fun s2 mv2 X3=>fin s2 ?_ X3⟩;exact Moved.trans W.gtrans ((wid mv).then_heap (Nat.le_succ _) fun b o hb e=>kpo b o (fun z=>hb (z ▸ List.mem_cons_self)) e) mv2
noncomputable def kH (w:World):Bool:=w.params.followText "set-order"
noncomputable abbrev lG (led:Bool):Obj:={ cls:=.type "set",dict:=none,data:=.set #[] 0 (.fresh 0 0 led) }
theorem Cz {h:Heap} {led:Bool} (e:h.get? S=some (lG led)):lC prog w h S led [] :=
  ⟨#[],.fresh 0 0 led,⟨⟨_,0,e,⟨rfl,rfl,rfl⟩,rfl⟩,fun q hq=>by simp at hq,by decide,by rfl,rfl,fun i j _ h=>by simp [SetTable.fresh] at h⟩,List.Perm.refl _⟩
theorem wm (a:Value) {Q:Value->Shared->Prop} (q:Q (.ref s.heap.objs.size) { s with heap:=s.heap.push (lG (!kH w)) }):codeAny (model prog w) A (.call (.builtin "set.__new__") ⟨[.type "set",a],[]⟩) (wants Q E) s:=by
  refine codeAny_of_tree ?_;show wpAny _ A.in1 (checkBuiltinCall "set.__new__" ⟨[.type "set",a],[]⟩>>=fun _=>again (.builtin "set.__new__" ⟨[.type "set",a],[]⟩)) _ _ s;refine wpAny_bind (wpAny_of_eq (PySem.F.newCall_set_1 a) (wpAny_pure ⟨plainId_quiet PySem.F.plain_set_new _,codeAny_builtin PySem.F.entry_set_new ?_⟩));rw [Around.under_plainId PySem.F.plain_set_new _];unfold Builtin.«set.__new__» Builtin.Frozenset.newClass;have own:=sub_set_self;obtain ⟨h0,g0,d0,t0,o0⟩:=s;dsimp only
  wp_walk
  apply wpAny_askSetting;apply wpAny_pure;dsimp only [newObj];exact wpAny_bind (wpAny_alloc (wpAny_pure (wpAny_pure q)))
end
theorem rh:isSubtype (.type "list") (.type "set")=pure false:=by rw [isSubtype_type];kernel_rfl
theorem rg:isSubtype (.type "list") (.type "frozenset")=pure false:=by rw [isSubtype_type];kernel_rfl
theorem pV:isSubtype (.type "tuple") (.type "set")=pure false:=by rw [isSubtype_type];kernel_rfl
theorem pU:isSubtype (.type "tuple") (.type "frozenset")=pure false:=by rw [isSubtype_type];kernel_rfl
section
variable {prog:Program} {w:World} {A:Around} {E:Value->Shared->Prop} {s:Shared}
structure DR (prog:Program) (w:World) (T:String) (a:Addr) (n:Nat) (f:Nat->Int) (OK:Heap->Prop):Prop where
  type:∀ s:Shared,OK s.heap->s.TypeIs (.ref a) T
  there:∀ h:Heap,OK h->a < h.objs.size
  push:∀ (h:Heap) (o:Obj),OK h->OK (h.push o)
  noS:isSubtype (.type T) (.type "set")=pure false
  noF:isSubtype (.type T) (.type "frozenset")=pure false
  noD:(Value.type T==Value.type "dict")=false
  iter:∀ (A:Around) (s:Shared),A.handled=none->OK s.heap->∃ (oI:Obj) (P:Nat->Value->Prop) (St:Nat->Heap->Prop),
    (∀ (E:Value->Shared->Prop) (Q:Value->Shared->Prop),Q (.ref s.heap.objs.size) { s with heap:=s.heap.push oI }->wpAny (model prog w) A.in1.in1 (pyIter (.ref a)) Q E s) /\
    Walks prog w A.in1.in1.in1 s.heap.objs.size [s.heap.objs.size,a] [s.heap.objs.size] n P St/\(∀ i v,P i v->∃ tk,v=.int (f i) tk)/\St 0 (s.heap.push oI)
theorem xT {a:Addr} {items:Array Value} {ns:List Int} (hi:IntsAre items.toList ns):DR prog w "list" a items.size (fun i=>ns.getD i 0) fun h=>h.IsList a items where
  type:=fun s h=>h.typeIs
  there:=fun h ⟨o,e,_⟩=>Heap.lt_size e
  push:=fun h o x=>x.push o
  noS:=rh
  noF:=rg
  noD:=by decide
  iter:=fun A s hh ok=>by
    have lt:a < s.heap.objs.size:=let ⟨o,e,_⟩:=ok;Heap.lt_size e
    refine ⟨_,_,_,fun E Q q=>wpAny_pyIter_list ok q,Walks.list (by simp [hh]) _ a (Nat.ne_of_lt lt) items,fun i v hv=>hi.int_at i v (by rw [Array.getElem?_toList];exact hv),⟨⟨_,Heap.get?_push_size _ rfl,rfl,rfl⟩,ok.push _⟩⟩
theorem vE {a:Addr} {items:Array Value} {ns:List Int} (hi:IntsAre items.toList ns):DR prog w "tuple" a items.size (fun i=>ns.getD i 0) fun h=>h.IsTuple a items where
  type:=fun s h=>h.typeIs
  there:=fun h ⟨o,e,_⟩=>Heap.lt_size e
  push:=fun h o x=>x.at fun u e=>Heap.get?_push_of_some _ e
  noS:=pV
  noF:=pU
  noD:=by decide
  iter:=fun A s hh ok=>by
    have lt:a < s.heap.objs.size:=let ⟨o,e,_⟩:=ok;Heap.lt_size e
    refine ⟨_,_,_,fun E Q q=>wpAny_pyIter_tuple ok q,Walks.tuple (by simp [hh]) _ a (Nat.ne_of_lt lt) items,fun i v hv=>hi.int_at i v (by rw [Array.getElem?_toList];exact hv),⟨⟨_,Heap.get?_push_size _ rfl,rfl,rfl⟩,ok.at fun u e=>Heap.get?_push_of_some _ e⟩⟩
set_option maxHeartbeats 8000000 in
theorem qK {T:String} {a:Addr} {n:Nat} {f:Nat->Int} {OK:Heap->Prop} {Q:Value->Shared->Prop} (K:DR prog w T a n f OK) (hh:A.handled=none) (ok:OK s.heap) (few:n+1 < scanBound)
    (q:∀ (g:Heap) (tk:Nat),lC prog w g s.heap.objs.size (!kH w) (firstMet f n)->(∀ b o,s.heap.get? b=some o->g.get? b=some o)->Q (.ref s.heap.objs.size) { s with heap:=g,toks:=tk }) :
    wpAny (model prog w) A (call (.type "set") [.ref a]) Q E s:=by
  have C:=PySem.F.called_set;obtain ⟨c0,tl,mro⟩:=C.mro;have made:=C.made;have sub:=C.sub;refine wpAny_call (codeAny_of_tree ?_);show wpAny _ _ (callAny (.type "set") _) _ _ _;refine wpAny_pure ⟨Code.quiet_builtin _ (by decide +kernel),codeAny_builtin PySem.F.entry_type_call ?_⟩;rw [Around.under_plain (weight_type_call_type "set" [.ref a] []) rfl];have n1:=C.notType;have n2:=C.canCreate;have n3:=PySem.F.typeCall_set_1 (.ref a)
  repeat (any_goals (first | assumption | wp_step))
  refine codeAny_mono (wm (.ref a) (E:=E) (Q:=fun v s1=>v=.ref s.heap.objs.size/\s1={ s with heap:=s.heap.push (lG (!kH w)) }) ⟨rfl,rfl⟩) fun r s1 hr=>?_
  cases r with
  | error e=>exact hr
  | ok fl =>
    cases fl with
    | ret v =>
      obtain ⟨rfl,rfl⟩:=hr;have at0:(s.heap.push (lG (!kH w))).get? s.heap.objs.size=some (lG (!kH w)):=Heap.get?_push_size _ rfl;have ty0:Shared.TypeIs { s with heap:=s.heap.push (lG (!kH w)) } (.ref s.heap.objs.size) "set" := ⟨_,at0,rfl⟩
      have l0:=C.init.lookup;have b0:=C.init.bind (.ref s.heap.objs.size)
      repeat (any_goals (first | assumption | wp_step))
      refine codeAny_mono (codeAny_call_builtin (R:=wants (fun r s2=>r=.none/\∃ g tk,s2={ s with heap:=g,toks:=tk }/\lC prog w g s.heap.objs.size (!kH w) (firstMet f n)/\∀ b o,s.heap.get? b=some o->g.get? b=some o) E) C.init.plain PySem.F.entry_set_init (check_set_init_1 ty0 ?_)) fun r2 s2 hr2=>?_
      · have ok1:=K.push _ (lG (!kH w)) ok;have ty1:Shared.TypeIs { s with heap:=s.heap.push (lG (!kH w)) } (.ref a) T:=K.type _ ok1;have noS:=K.noS;have noF:=K.noF;have noD:=K.noD;have lta:=K.there _ ok;unfold Builtin.«set.__init__» noKeywords Builtin.Frozenset.updateFrom;generalize hPI:pyIter=PI
        wp_walk
        subst hPI;obtain ⟨oI,P,St,it,W,hP,st⟩:=K.iter A { s with heap:=s.heap.push (lG (!kH w)) } hh ok1;apply it;refine wpAny_bind (wpAny_runValue ?_);have sz:(s.heap.push (lG (!kH w))).objs.size=s.heap.objs.size+1:=Heap.size_push ..;have out:s.heap.objs.size∉[(s.heap.push (lG (!kH w))).objs.size,a]:=by
          rw [sz];simp only [List.mem_cons,List.not_mem_nil,or_false,not_or];exact ⟨Nat.ne_of_lt (Nat.lt_succ_self _),Nat.ne_of_gt lta⟩
        refine uU W.toS out f hP few (n-0) 0 _ (by omega) (Nat.zero_le _) st (Cz (Heap.get?_push_of_some _ at0)) fun s3 mv X=>?_
        obtain ⟨g3,gn3,dr3,tk3,os3⟩:=s3;obtain rfl:gn3=s.gens:=mv.gens;obtain rfl:dr3=s.drawn:=mv.drawn;obtain rfl:os3=s.os:=mv.os;show wpAny _ _ _ _ _ _;refine wpAny_pure ?_;show wpAny _ _ (ret Value.none) _ _ _;refine wpAny_pure ⟨rfl,g3,tk3,rfl,X,fun b o e=>?_⟩;have ltb:=Heap.lt_size e;refine mv.heap b o ?_ (Heap.get?_push_of_some _ (Heap.get?_push_of_some _ e));show b∉[s.heap.objs.size,(s.heap.push (lG (!kH w))).objs.size];rw [sz];simp only [List.mem_cons,List.not_mem_nil,or_false,not_or];exact ⟨Nat.ne_of_lt ltb,Nat.ne_of_lt (Nat.lt_succ_of_lt ltb)⟩
      · cases r2 with
        | error e=>exact hr2
        | ok fl2 =>
          cases fl2 with
          | ret r =>
            obtain ⟨rfl,g,tk,rfl,X,kp⟩:=hr2
            repeat (any_goals (first | assumption | wp_step))
            exact q _ _ X kp
          | _=>exact hr2.elim
    | _=>exact hr.elim
end
theorem kw:Slot "set_iterator" "__next__" "set_iterator.__next__" :=
  .of (owner := "set_iterator") (n := "__next__") (by rw [typeLookup_type,builtinLookup_eq_fast];kernel_rfl) (by decide +kernel) (by decide +kernel) (by decide +kernel) (by first | exact .inl (by decide +kernel) | exact .inr (by decide +kernel)) (by rw [isSubtype_type];kernel_rfl)
theorem xQ:entryFor table "set_iterator.__next__" = some Builtin.«set_iterator.__next__»:=entryFor_of_tree (by kernel_rfl)
theorem rE:Manifest.owners.lookup (String.ofList ['r','o','t','a','r','e','t','i','_','t','e','s'].reverse)=some Manifest.sig_set_iterator:=by kernel_rfl
theorem zN (a:Value):argsOk "set_iterator.__next__" ⟨[a],[]⟩:=by
  unfold argsOk;rw [signature?_of (id := "set_iterator.__next__") (n:=['_','_','t','x','e','n','_','_']) (o:=['r','o','t','a','r','e','t','i','_','t','e','s']) (by kernel_rfl) rE]
  kernel_rfl
theorem xU:entryFor table "set.__iter__" = some Builtin.«frozenset.__iter__»:=entryFor_alias (id' := "frozenset.__iter__") (by kernel_rfl) rfl (by decide +kernel) (by kernel_rfl)
theorem ug:Slot "set_iterator" "__iter__" "set_iterator.__iter__" :=
  .of (owner := "set_iterator") (n := "__iter__") (by rw [typeLookup_type,builtinLookup_eq_fast];kernel_rfl) (by decide +kernel) (by decide +kernel) (by decide +kernel) (by first | exact .inl (by decide +kernel) | exact .inr (by decide +kernel)) (by rw [isSubtype_type];kernel_rfl)
theorem zU (a:Value):argsOk "set_iterator.__iter__" ⟨[a],[]⟩:=by
  unfold argsOk;rw [signature?_of (id := "set_iterator.__iter__") (n:=['_','_','r','e','t','i','_','_']) (o:=['r','o','t','a','r','e','t','i','_','t','e','s']) (by kernel_rfl) rE]
  kernel_rfl
theorem xW:entryFor table "set_iterator.__iter__" = some Builtin.«dict_keyiterator.__iter__»:=entryFor_alias (id' := "dict_keyiterator.__iter__") (by kernel_rfl) rfl (by decide +kernel) (by kernel_rfl)
theorem xP {prog:Program} {w:World} {A:Around} {E:Value->Shared->Prop} {s:Shared} {r:Addr} {Q:Bool->Shared->Prop} (ty:s.TypeIs (.ref r) "set") (q:Q false s):wpAny (model prog w) A (Builtin.List.listLengthHint (.ref r)) Q E s:=by
  unfold Builtin.List.listLengthHint;apply wpAny_bind;apply wpAny_specialOf ty PySem.F.slot_set_len.lookup;generalize hi:("set.__len__" : String)=i0
  wp_delta
  rw [show splitId i0=some ("set","__len__") from by subst hi;decide +kernel];subst hi;apply wpAny_bind;apply wpAny_isInstance (T := "set") (b:=true) ty (by rw [isSubtype_type];kernel_rfl);refine wpAny_ite_split (fun z=>absurd z (by decide)) fun _=>?_
  refine wpAny_ite_split (fun _=>?_) fun z=>absurd (by decide +kernel) z
  exact wpAny_bind (wpAny_typeOf ty (wpAny_pure q))
section
variable {prog:Program} {w:World} {A:Around} {E:Value->Shared->Prop} {s:Shared} {S it:Addr} {es:Array (Int×Value)} {ep:Nat} {t:SetTable}
structure Si (h:Heap) (S:Addr) (es:Array (Int×Value)) (ep:Nat) (t:SetTable):Prop where
  obj:∃ u,h.get? S=some u/\u.ExactSet/\u.data=.set es ep t
  fit:t.fits es.size=true
theorem Si.keep {h g:Heap} (I:Si h S es ep t) (k:∀ u,h.get? S=some u->g.get? S=some u):Si g S es ep t:=by
  obtain ⟨u,hu,r⟩:=I.obj;exact ⟨⟨u,k u hu,r⟩,I.fit⟩
theorem Si.ty (I:Si s.heap S es ep t):s.TypeIs (.ref S) "set" := by
  obtain ⟨u,hu,x,_⟩:=I.obj;exact ⟨u,hu,x.1⟩
theorem Si.lt {h:Heap} (I:Si h S es ep t):S < h.objs.size:=by
  obtain ⟨u,hu,_⟩:=I.obj;exact Heap.lt_size hu
theorem Si.state {Q:(Array (Int×Value)×Nat×SetTable)->Shared->Prop} (I:Si s.heap S es ep t) (q:Q (es,ep,t) s):wpAny (model prog w) A (setState S) Q E s:=by
  obtain ⟨u,hu,_,hd⟩:=I.obj;exact wpAny_setState_of hu hd I.fit q
theorem jZ {Q:Bool->Shared->Prop} (q:Q (kH w) s):wpAny (model prog w) A setsByText Q E s:=by
  unfold setsByText;exact wpAny_bind (wpAny_askSetting (wpAny_pure q))
noncomputable def mV (w:World) (S:Addr) (ep:Nat) (es:Array (Int×Value)):Array (Int×Value):=pickOrder (w.params.setOrder S ep) es
theorem oE {Q:Option (Value×Nat)->Shared->Prop} {slot i:Nat} (hb:kH w=true) (I:Si s.heap S es ep t) (q:Q (((mV w S ep es)[i]?).map fun e=>(e.2,slot)) s):wpAny (model prog w) A (setNext S slot i ep) Q E s:=by
  unfold setNext;apply wpAny_bind;apply I.state;dsimp only;apply wpAny_bind;apply jZ;rw [if_pos hb];refine wpAny_ite_split (fun z=>absurd z (by simp)) fun _=>?_
  apply wpAny_bind;unfold setWalk;apply wpAny_bind;apply I.state;dsimp only;apply wpAny_bind;apply jZ;rw [if_pos hb];exact wpAny_bind (wpAny_askSetting (wpAny_pure (wpAny_pure q)))
theorem oC {Q:Option (Value×Nat)->Shared->Prop} {slot i:Nat} (hb:kH w=false) (hl:t.led=true) (hd:¬ ((!t.plain&&decide (es.size > 1))=true)) (I:Si s.heap S es ep t)
    (q:Q (match es[SetTable.below t.place slot]?,t.place[SetTable.below t.place slot]? with | some (_,x),some j=>some (x,j+1) | _,_=>none) s):wpAny (model prog w) A (setNext S slot i ep) Q E s:=by
  unfold setNext;apply wpAny_bind;apply I.state;dsimp only;apply wpAny_bind;apply jZ;rw [hb];refine wpAny_ite_split (fun z=>absurd z (by simp)) fun _=>?_
  refine wpAny_ite_split (fun z=>absurd z hd) fun _=>?_
  apply wpAny_bind;show wpAny _ _ (if (!t.led&&!es.isEmpty)=true then unsupported "set:maker-not-led" else pure ()) _ _ _;rw [hl];refine wpAny_ite_split (fun z=>absurd z (by simp)) fun _=>?_
  exact wpAny_pure (wpAny_pure q)
end
section
variable {prog:Program} {w:World} {A:Around} {E:Value->Shared->Prop} {s:Shared} {S it:Addr} {es:Array (Int×Value)} {ep:Nat} {t:SetTable}
noncomputable abbrev u9 (first:Value) (i n ep:Nat) (S:Addr):Obj:={ cls:=.type "set_iterator",data:=.fields #[first,.int i 0,.ref S,.int n 0,.int ep 0] }
theorem Si.count {Q:Array (Int×Value)->Shared->Prop} (I:Si s.heap S es ep t) (q:Q es s):wpAny (model prog w) A (setEntries S) Q E s:=by
  unfold setEntries;exact wpAny_bind (I.state (wpAny_pure q))
theorem lW {Q:Option Value->Shared->Prop} {o:Obj} (hit:s.heap.get? it=some o) (hc:o.cls=.type "set_iterator")
    (q:wpAny (model prog w) A.in1 (Builtin.«set_iterator.__next__» ⟨[.ref it],[]⟩) (fun fin s'=>∃ r,fin=.done (.ret r)/\Q (some r) s') (fun e s'=>wpAny (model prog w) A (isInstance e (.type "StopIteration")>>=fun b=>if b=true then pure none else throw e) Q E s') s) :
    wpAny (model prog w) A (pyNext (.ref it)) Q E s:=by
  have ty:s.TypeIs (.ref it) "set_iterator" := ⟨_,hit,hc⟩
  unfold pyNext;refine wpAny_bind (wpAny_attempt (wpAny_callSpecial?_slot (name:=Str.ofString "__next__") ty kw (wpAny_call_entry kw ty xQ ?_ (zN _))));refine wpAny_mono q (fun fin s' h=>?_) fun e s' h=>?_
  · obtain ⟨r,e,z⟩:=h;exact ⟨r,e,wpAny_pure z⟩
  · exact h
end
section
variable {prog:Program} {w:World} {A:Around} {E:Value->Shared->Prop} {s:Shared} {S it:Addr} {es:Array (Int×Value)} {ep:Nat} {t:SetTable}
theorem iY {o:Obj} {vs:Array Value} {k:Nat} {v:Value} {h:Heap} (ho:h.get? it=some o) (hd:o.data=.fields vs):(h.update it (Obj.mapFields (·.setIfInBounds k v))).get? it=some (Obj.mapFields (·.setIfInBounds k v) o) :=
  Heap.get?_update_self _ ho (Obj.isFreed_of_fields (Obj.data_mapFields hd _))
theorem uc {slot i nx:Nat} {x:Value} {Q:Option Value->Shared->Prop} (hit:s.heap.get? it=some (u9 (.int slot 0) i es.size ep S)) (I:Si s.heap S es ep t)
    (hx:∀ (A':Around) (E':Value->Shared->Prop) (Q':Option (Value×Nat)->Shared->Prop),Q' (some (x,nx)) s->wpAny (model prog w) A' (setNext S slot i ep) Q' E' s)
    (q:∀ g,Heap.SameBut it s.heap g->g.get? it=some (u9 (.int nx 0) (i+1) es.size ep S)->Q (some x) { s with heap:=g }):wpAny (model prog w) A (pyNext (.ref it)) Q E s:=by
  refine lW hit rfl ?_;unfold Builtin.«set_iterator.__next__»;refine wpAny_bind (wpAny_pure ?_);refine wpAny_bind (wpAny_fieldsOf hit rfl ?_);dsimp only;apply wpAny_bind;apply I.count;refine wpAny_ite_split (fun z=>absurd z (by simp)) fun _=>?_
  apply wpAny_bind;rw [show ((slot:Nat):Int).toNat=slot from rfl,show ((i:Nat):Int).toNat=i from rfl,show ((ep:Nat):Int).toNat=ep from rfl];apply hx;dsimp only;refine wpAny_bind (wpAny_setField hit rfl (by simp) ?_);have e1:=iY (k:=0) (v:=rawInt nx) hit rfl;refine wpAny_bind (wpAny_setField e1 rfl (by simp) ?_);have e2:=iY (k:=1) (v:=rawInt ((i:Int)+1)) e1 rfl;exact wpAny_pure ⟨x,rfl,q _ ((Heap.SameBut.update ..).trans (Heap.SameBut.update ..)) e2⟩
theorem rG {k:Nat} {v:Value} {vs:Array Value} {o:Obj} {Q:Option Value->Shared->Prop} (hh:A.handled=none) (hit:s.heap.get? it=some o) (hd:o.data=.fields vs) (hk:k < vs.size) (q:∀ g,Heap.ExtBut it s.heap g->Q none { s with heap:=g }) :
    wpAny (model prog w) A.in1 (setField (.ref it) k v>>=fun _=>newExc (.type "StopIteration") []>>=fun e=>(raiseNew e:Sem PySem.Fin)) (fun fin s'=>∃ r,fin=.done (.ret r)/\Q (some r) s')
      (fun e s'=>wpAny (model prog w) A (isInstance e (.type "StopIteration")>>=fun b=>if b=true then pure none else throw e) Q E s') s:=by
  refine wpAny_bind (wpAny_setField hit hd hk ?_);have k1:Heap.ExtBut it s.heap (s.heap.update it (Obj.mapFields (·.setIfInBounds k v))):=(Heap.SameBut.update ..).extBut;simp only [newExc,newTuple];refine wpAny_bind (wpAny_bind (wpAny_newObj_type ?_ (by size_fits)));refine wpAny_bind (m:=firstArgMember _ _) (wpAny_of_eq (a:=Value.none) (by first | rfl | (simp only [firstArgMember];rfl)) ?_);refine wpAny_newObj_type ?_ (by size_fits);simp only [raiseNew];refine wpAny_bind (wpAny_handled ?_);rw [show A.in1.handled=none from hh];refine wpAny_bind (wpAny_pure (wpAny_throw ?_));refine wpAny_bind (wpAny_isInstance (T := "StopIteration") (b:=true) ⟨_,Heap.get?_push_size _ rfl,rfl⟩ isSubtype_stop ?_);exact wpAny_pure (q _ ((k1.push _).push _))
theorem xy {slot i:Nat} {Q:Option Value->Shared->Prop} (hh:A.handled=none) (hit:s.heap.get? it=some (u9 (.int slot 0) i es.size ep S)) (I:Si s.heap S es ep t)
    (hx:∀ (A':Around) (E':Value->Shared->Prop) (Q':Option (Value×Nat)->Shared->Prop),Q' none s->wpAny (model prog w) A' (setNext S slot i ep) Q' E' s)
    (q:∀ g,Heap.ExtBut it s.heap g->Q none { s with heap:=g }):wpAny (model prog w) A (pyNext (.ref it)) Q E s:=by
  refine lW hit rfl ?_;unfold Builtin.«set_iterator.__next__»;refine wpAny_bind (wpAny_pure ?_);refine wpAny_bind (wpAny_fieldsOf hit rfl ?_);dsimp only;apply wpAny_bind;apply I.count;refine wpAny_ite_split (fun z=>absurd z (by simp)) fun _=>?_
  apply wpAny_bind;rw [show ((slot:Nat):Int).toNat=slot from rfl,show ((i:Nat):Int).toNat=i from rfl,show ((ep:Nat):Int).toNat=ep from rfl];apply hx;dsimp only;exact rG (k:=2) (v:=.none) hh hit rfl (by simp) q
end
section
variable {prog:Program} {w:World} {A:Around} {E:Value->Shared->Prop} {s:Shared} {S it T:Addr} {es:Array (Int×Value)} {ep:Nat} {t:SetTable}
noncomputable abbrev yn (pl:List Nat):Obj:={ cls:=.type "tuple",data:=.seq (pl.map fun (p:Nat)=>rawInt p).toArray }
theorem yM {i p:Nat} {pl:List Nat} {e:Int×Value} {Q:Option Value->Shared->Prop} (hit:s.heap.get? it=some (u9 (.ref T) i es.size ep S)) (hT:s.heap.get? T=some (yn pl)) (I:Si s.heap S es ep t) (hp:pl[i]?=some p) (he:es[p]?=some e)
    (q:∀ g,Heap.SameBut it s.heap g->g.get? it=some (u9 (.ref T) (i+1) es.size ep S)->Q (some e.2) { s with heap:=g }):wpAny (model prog w) A (pyNext (.ref it)) Q E s:=by
  refine lW hit rfl ?_;unfold Builtin.«set_iterator.__next__»;refine wpAny_bind (wpAny_pure ?_);refine wpAny_bind (wpAny_fieldsOf hit rfl ?_);dsimp only;apply wpAny_bind;apply I.count;refine wpAny_ite_split (fun z=>absurd z (by simp)) fun _=>?_
  refine wpAny_bind (wpAny_seqItems hT rfl ?_);dsimp only;have e0:((pl.map fun (p:Nat)=>rawInt p).toArray)[((i:Nat):Int).toNat]?=some (rawInt p):=by
    rw [Int.toNat_natCast];simp [hp]
  rw [e0];dsimp only [rawInt];apply wpAny_bind;unfold setNextDrawn;apply wpAny_bind;apply I.state;dsimp only;refine wpAny_ite_split (fun z=>absurd z (by simp)) fun _=>?_
  rw [Int.toNat_natCast,he];obtain ⟨hh0,x⟩:=e;dsimp only;refine wpAny_pure ?_;refine wpAny_bind (wpAny_setField hit rfl (by simp) ?_);have e2:=iY (k:=1) (v:=rawInt ((i:Int)+1)) hit rfl;exact wpAny_pure ⟨x,rfl,q _ (Heap.SameBut.update ..) e2⟩
theorem A1 {i:Nat} {pl:List Nat} {Q:Option Value->Shared->Prop} (hh:A.handled=none) (hit:s.heap.get? it=some (u9 (.ref T) i es.size ep S)) (hT:s.heap.get? T=some (yn pl)) (I:Si s.heap S es ep t) (hp:pl[i]?=none)
    (q:∀ g,Heap.ExtBut it s.heap g->Q none { s with heap:=g }):wpAny (model prog w) A (pyNext (.ref it)) Q E s:=by
  refine lW hit rfl ?_;unfold Builtin.«set_iterator.__next__»;refine wpAny_bind (wpAny_pure ?_);refine wpAny_bind (wpAny_fieldsOf hit rfl ?_);dsimp only;apply wpAny_bind;apply I.count;refine wpAny_ite_split (fun z=>absurd z (by simp)) fun _=>?_
  refine wpAny_bind (wpAny_seqItems hT rfl ?_);dsimp only;have e0:((pl.map fun (p:Nat)=>rawInt p).toArray)[((i:Nat):Int).toNat]?=none:=by
    rw [Int.toNat_natCast];simp at hp ⊢;omega
  rw [e0];dsimp only;refine wpAny_bind (wpAny_setField hit rfl (by simp) ?_);have e1:=iY (k:=0) (v:=rawInt 0) hit rfl;refine rG (s:={ s with heap:=_ }) (k:=2) (v:=.none) hh e1 rfl (by simp) fun g k=>q g fun b o ne e=>k b o ne ((Heap.SameBut.update s.heap it _).extBut b o ne e)
theorem jB {β:Type}:∀ (l:List β) (i:Nat) (h:i < l.length),(l[i]::l.eraseIdx i).Perm l
  | x::l,0,_=>List.Perm.refl _
  | x::l,i+1,h=>(List.Perm.swap x _ _).trans ((jB l i (by simpa using h)).cons x)
theorem mr {β:Type}:∀ (n:Nat) (xs:List β) (s:Shared) (Q:List β->Shared->Prop),xs.length=n->(∀ (ys:List β) (d:_),ys.Perm xs->Q ys { s with drawn:=d })->wpAny (model prog w) A (drawOrder n xs) Q E s
  | 0,xs,s,Q,hl,q=>by
    have:xs=[]:=List.length_eq_zero_iff.mp hl;subst this;exact wpAny_pure (q [] s.drawn (List.Perm.refl _))
  | n+1,[],s,Q,hl,q=>by cases hl
  | n+1,x::xs,s,Q,hl,q=>by
    unfold drawOrder;have key:∀ (i:Nat) (d:_),i < (x::xs).length->wpAny (model prog w) A (match (x::xs)[i]? with | some y=>(drawOrder n ((x::xs).eraseIdx i)>>=fun r=>pure (y::r)) | none=>unsupported "internal:drawOrder") Q E { s with drawn:=d }:=fun i d lt=>by
      rw [List.getElem?_eq_getElem lt];dsimp only;refine wpAny_bind (mr n ((x::xs).eraseIdx i) { s with drawn:=d } _ ?_ fun ys d' pm=>wpAny_pure (q _ d' ?_))
      · rw [List.length_eraseIdx_of_lt lt,hl];rfl
      · refine (pm.cons _).trans ?_;exact jB _ _ lt
    refine wpAny_bind (m:=choose .order (x::xs).length) ?_;intro Γ p hΓ;show Sem.wp _ Γ (.choose .order (x::xs).length .pure) _ _ p s;rw [Sem.wp_choose];refine ⟨by simp,?_⟩;exact (show wpAny (model prog w) A _ Q E _ from key _ _ (Nat.mod_lt _ (by simp)))
end
theorem ua {β:Type} (next:Nat->Nat):∀ (fuel k:Nat) (left:List β) (out:Array β),left.length=fuel->((pickOrder.go next fuel k left out).toList).Perm (out.toList++left)
  | 0,k,left,out,h=>by
    have:left=[]:=List.length_eq_zero_iff.mp h;subst this;unfold pickOrder.go;rw [List.append_nil]
  | fuel+1,k,left,out,h=>by
    unfold pickOrder.go;have lt:next k%left.length < left.length:=Nat.mod_lt _ (by omega)
    rw [List.getElem?_eq_getElem lt];dsimp only;refine (ua next fuel (k+1) _ _ (by rw [List.length_eraseIdx_of_lt lt,h];rfl)).trans ?_;rw [Array.toList_push,List.append_assoc];exact List.Perm.append_left _ (jB left _ lt)
theorem vx {β:Type} (next:Nat->Nat) (xs:Array β):(pickOrder next xs).toList.Perm xs.toList:=by
  unfold pickOrder;have:=ua next xs.size 0 xs.toList #[] (by simp)
  simpa using this
theorem km (w:World) (S:Addr) (ep:Nat) (es:Array (Int×Value)):(mV w S ep es).toList.Perm es.toList:=vx _ es
section
variable {prog:Program} {w:World} {A:Around} {E:Value->Shared->Prop} {s:Shared} {S I T:Addr} {es:Array (Int×Value)} {ep:Nat} {t:SetTable}
theorem pR {first:Value} {i n:Nat} {Q:Value->Shared->Prop} (hit:s.heap.get? I=some (u9 first i n ep S)) (q:Q (.ref I) s):wpAny (model prog w) A (pyIter (.ref I)) Q E s:=by
  have ty:s.TypeIs (.ref I) "set_iterator" := ⟨_,hit,rfl⟩
  refine wpAny_pyIter_slot ty ug (wpAny_call_entry ug ty xW ?_ (zU _));show wpAny _ _ (ret (.ref I)) _ _ s;exact wpAny_pure ⟨_,rfl,"set_iterator",_,ty,kw.lookup,q⟩
theorem vK (hh:A.handled=none) (hb:kH w=true) (ne:S≠I):Walks prog w A I [I,S] [I] es.size (fun i v=>((mV w S ep es).toList.map (·.2))[i]?=some v) (fun i h=>h.get? I=some (u9 (.int (0:Nat) 0) i es.size ep S)/\Si h S es ep t) where
  sub:=fun b hb=>by simp at hb;simp [hb]
  frame:=fun i h g st k=>⟨k I (by simp) _ st.1,st.2.keep fun u e=>k S (by simp) u e⟩
  item:=fun i s Q E lt st q=>by
    have ln:(mV w S ep es).toList.length=es.size:=by rw [(km w S ep es).length_eq];simp
    have lt':i < (mV w S ep es).toList.length:=by rw [ln];exact lt
    have e0:(mV w S ep es)[i]?=some ((mV w S ep es).toList[i]):=by rw [<- Array.getElem?_toList];exact List.getElem?_eq_getElem lt'
    refine uc (nx:=0) (x:=((mV w S ep es).toList[i]).2) st.1 st.2 (fun A' E' Q' z=>oE hb st.2 (by rw [e0];exact z)) fun g k e=>?_
    exact q _ g s.toks (by rw [List.getElem?_map,List.getElem?_eq_getElem lt'];rfl) ⟨e,st.2.keep fun u hu=>by rw [k.2 S ne];exact hu⟩ fun b o nb hb'=>by rw [k.2 b (by simpa using nb)];exact hb'
  done:=fun s Q E st q=>by
    have ln:(mV w S ep es).size=es.size:=by have:=(km w S ep es).length_eq;simpa using this
    refine xy hh st.1 st.2 (fun A' E' Q' z=>oE hb st.2 (by rw [Array.getElem?_eq_none (by rw [ln];exact Nat.le_refl _)];exact z)) fun g k=>q g s.toks fun b o nb hb'=>k b o (by simpa using nb) hb'
  self:=fun i s Q E st q=>pR st.1 q
noncomputable def nk (t:SetTable) (i:Nat):Nat:=if i=0 then 0 else t.place.getD (i-1) 0+1
theorem nq (hr:Rs t.place) {i:Nat} (hi:i<=t.place.size):SetTable.below t.place (nk t i)=i:=by
  refine wc hr hi (fun k hk=>?_) fun k h1 h2=>?_
  · unfold nk;rw [if_neg (by omega)];by_cases z:k=i-1
    · rw [z];omega
    · have:=hr k (i-1) (by omega) (by omega);omega
  · unfold nk;by_cases z:i=0
    · rw [if_pos z];exact Nat.zero_le _
    · rw [if_neg z];exact hr (i-1) k (by omega) h2
theorem vJ (hh:A.handled=none) (hb:kH w=false) (ne:S≠I) (hl:t.led=true) (hr:Rs t.place) (hf:t.fits es.size=true) (hd:¬ ((!t.plain&&decide (es.size > 1))=true)) :
    Walks prog w A I [I,S] [I] es.size (fun i v=>(es.toList.map (·.2))[i]?=some v) (fun i h=>h.get? I=some (u9 (.int (nk t i:Nat) 0) i es.size ep S)/\Si h S es ep t) where
  sub:=fun b hb=>by simp at hb;simp [hb]
  frame:=fun i h g st k=>⟨k I (by simp) _ st.1,st.2.keep fun u e=>k S (by simp) u e⟩
  item:=fun i s Q E lt st q=>by
    have ps:t.place.size=es.size:=by unfold SetTable.fits at hf;simp at hf;exact hf.1
    have bl:=nq hr (i:=i) (by omega);have e0:es[i]?=some es[i]:=Array.getElem?_eq_getElem lt;have e1:t.place[i]?=some (t.place.getD i 0):=oO (by omega);refine uc (nx:=t.place.getD i 0+1) (x:=es[i].2) st.1 st.2 (fun A' E' Q' z=>oC hb hl hd st.2 (by rw [bl,e0,e1];exact z)) fun g k e=>?_
    exact q _ g s.toks (by rw [List.getElem?_map,List.getElem?_eq_getElem (by simpa using lt)];simp) ⟨e,st.2.keep fun u hu=>by rw [k.2 S ne];exact hu⟩ fun b o nb hb'=>by rw [k.2 b (by simpa using nb)];exact hb'
  done:=fun s Q E st q=>by
    have ps:t.place.size=es.size:=by unfold SetTable.fits at hf;simp at hf;exact hf.1
    have bl:=nq hr (i:=es.size) (by omega);refine xy hh st.1 st.2 (fun A' E' Q' z=>oC hb hl hd st.2 (by rw [bl,Array.getElem?_eq_none (Nat.le_refl _)];exact z)) fun g k=>q g s.toks fun b o nb hb'=>k b o (by simpa using nb) hb'
  self:=fun i s Q E st q=>pR st.1 q
theorem tI (hh:A.handled=none) (ne:S≠I) (neT:T≠I) {pl:List Nat} (hp:pl.Perm (List.range es.size)) :
    Walks prog w A I [I,S,T] [I] es.size (fun i v=>(pl.map fun p=>(es.getD p (0,.none)).2)[i]?=some v) (fun i h=>h.get? I=some (u9 (.ref T) i es.size ep S)/\h.get? T=some (yn pl)/\Si h S es ep t) where
  sub:=fun b hb=>by simp at hb;simp [hb]
  frame:=fun i h g st k=>⟨k I (by simp) _ st.1,k T (by simp) _ st.2.1,st.2.2.keep fun u e=>k S (by simp) u e⟩
  item:=fun i s Q E lt st q=>by
    have ln:pl.length=es.size:=by rw [hp.length_eq];simp
    have lt':i < pl.length:=by omega
    have mp:pl[i] < es.size:=List.mem_range.mp (hp.mem_iff.mp (List.getElem_mem lt'));have e0:es[pl[i]]?=some es[pl[i]]:=Array.getElem?_eq_getElem mp;refine yM st.1 st.2.1 st.2.2 (List.getElem?_eq_getElem lt') e0 fun g k e=>?_
    exact q _ g s.toks (by rw [List.getElem?_map,List.getElem?_eq_getElem lt'];simp [Array.getD,mp]) ⟨e,by rw [k.2 T neT];exact st.2.1,st.2.2.keep fun u hu=>by rw [k.2 S ne];exact hu⟩ fun b o nb hb'=>by rw [k.2 b (by simpa using nb)];exact hb'
  done:=fun s Q E st q=>by
    have ln:pl.length=es.size:=by rw [hp.length_eq];simp
    exact A1 hh st.1 st.2.1 st.2.2 (List.getElem?_eq_none (by omega)) fun g k=>q g s.toks fun b o nb hb'=>k b o (by simpa using nb) hb'
  self:=fun i s Q E st q=>pR st.1 q
end
noncomputable def Wk (prog:Program) (w:World) (A:Around) (h0:Heap) (S I:Addr) (g:Heap) (ord:List Value):Prop :=
  ∃ fp St,Walks prog w A I fp [I] ord.length (fun i v=>ord[i]?=some v) St/\St 0 g/\∀ b∈fp,b=S\/h0.objs.size<=b
section
variable {prog:Program} {w:World} {A B:Around} {E:Value->Shared->Prop} {s:Shared} {S:Addr} {es:Array (Int×Value)} {t:SetTable}
theorem vq {pl:List Nat} (hp:pl.Perm (List.range es.size)):(pl.map fun p=>(es.getD p (0,.none)).2).Perm (es.toList.map (·.2)):=by
  refine (hp.map _).trans ?_;refine List.Perm.of_eq (List.ext_getElem (by simp) fun k h1 h2=>?_);simp at h1;simp [Array.getD,h1]
theorem wM {Q:Value->Shared->Prop} (hh:B.handled=none) (L:qc prog w s.heap S (!kH w) es t)
    (q:∀ (I:Addr) (g:Heap) (d:_) (ord:List Value),(∀ b o,s.heap.get? b=some o->g.get? b=some o)->s.heap.objs.size<=I->Wk prog w B s.heap S I g ord->ord.Perm (es.toList.map (·.2))->Q (.ref I) { s with heap:=g,drawn:=d }) :
    wpAny (model prog w) A (pyIter (.ref S)) Q E s:=by
  obtain ⟨u,ep,hu,hx,hd⟩:=L.obj;have I0:Si s.heap S es ep t:=⟨⟨u,hu,hx,hd⟩,L.fit⟩
  have ltS:=I0.lt;refine wpAny_pyIter_slot I0.ty PySem.F.slot_set_iter (wpAny_call_entry PySem.F.slot_set_iter I0.ty xU ?_ (PySem.F.args_set_iter_1 _));unfold Builtin.«frozenset.__iter__»;refine wpAny_bind (wpAny_pure ?_);apply wpAny_bind;unfold Builtin.Frozenset.sizeOf;apply wpAny_bind;apply I0.count;apply wpAny_pure;apply wpAny_bind;unfold setDrawn;apply wpAny_bind;apply I0.state;dsimp only;apply wpAny_bind;apply jZ;apply wpAny_pure;refine wpAny_ite_split (fun z=>?_) fun z=>?_
  · have hb:(!kH w&&(!t.plain&&decide (es.size > 1)))=true:=z;apply wpAny_bind;refine mr es.size (List.range es.size) s _ (by simp) fun ys d pm=>?_
    apply wpAny_bind;have ln:ys.length=es.size:=by rw [pm.length_eq];simp
    refine wpAny_newTuple ?_ (by rw [List.length_map,ln];exact fits_of_scanBound L.few);apply wpAny_bind;unfold setEpoch;apply wpAny_bind;have I1:Si (s.heap.push (yn ys)) S es ep t:=I0.keep fun u e=>Heap.get?_push_of_some _ e
    refine Si.state (s:={ s with heap:=s.heap.push (yn ys),drawn:=d }) I1 ?_;apply wpAny_pure;refine wpAny_bind (wpAny_newObj_type ?_);have sz:(s.heap.push (yn ys)).objs.size=s.heap.objs.size+1:=Heap.size_push ..;refine wpAny_pure ⟨_,rfl,"set_iterator",_,⟨_,Heap.get?_push_size _ rfl,rfl⟩,kw.lookup,?_⟩;refine q (s.heap.push (yn ys)).objs.size _ d (ys.map fun p=>(es.getD p (0,.none)).2) (fun b o e=>Heap.get?_push_of_some _ (Heap.get?_push_of_some _ e)) (by rw [sz];exact Nat.le_succ _) ?_ (vq pm);refine ⟨[(s.heap.push (yn ys)).objs.size,S,s.heap.objs.size],(fun i h=>h.get? (s.heap.push (yn ys)).objs.size=some (u9 (.ref s.heap.objs.size) i es.size ep S)/\h.get? s.heap.objs.size=some (yn ys)/\Si h S es ep t),?_,⟨Heap.get?_push_size _ rfl,Heap.get?_push_of_some _ (Heap.get?_push_size _ rfl),I1.keep fun u e=>Heap.get?_push_of_some _ e⟩,fun b hb=>?_⟩
    · rw [List.length_map,ln];exact tI (S:=S) (T:=s.heap.objs.size) hh (by rw [sz];exact Nat.ne_of_lt (Nat.lt_succ_of_lt ltS)) (by rw [sz];exact Nat.ne_of_lt (Nat.lt_succ_self _)) pm
    · simp only [List.mem_cons,List.not_mem_nil,or_false] at hb;rcases hb with rfl | rfl | rfl
      · exact .inr (by rw [sz];exact Nat.le_succ _)
      · exact .inl rfl
      · exact .inr (Nat.le_refl _)
  · have hb:¬ (!kH w&&(!t.plain&&decide (es.size > 1)))=true:=z;refine wpAny_bind (wpAny_pure ?_);apply wpAny_bind;unfold setEpoch;apply wpAny_bind;apply I0.state;apply wpAny_pure;refine wpAny_bind (wpAny_newObj_type ?_);refine wpAny_pure ⟨_,rfl,"set_iterator",_,⟨_,Heap.get?_push_size _ rfl,rfl⟩,kw.lookup,?_⟩;have ne:S≠s.heap.objs.size:=Nat.ne_of_lt ltS;have fpo:∀ b∈[s.heap.objs.size,S],b=S\/s.heap.objs.size<=b:=fun b hb=>by
      simp only [List.mem_cons,List.not_mem_nil,or_false] at hb;rcases hb with rfl | rfl
      · exact .inr (Nat.le_refl _)
      · exact .inl rfl
    cases bt:kH w with
    | true =>
      have ln:((mV w S ep es).toList.map (·.2)).length=es.size:=by rw [List.length_map,(km w S ep es).length_eq];simp
      refine q s.heap.objs.size _ s.drawn ((mV w S ep es).toList.map (·.2)) (fun b o e=>Heap.get?_push_of_some _ e) (Nat.le_refl _) ⟨[s.heap.objs.size,S],(fun i h=>h.get? s.heap.objs.size=some (u9 (.int (0:Nat) 0) i es.size ep S)/\Si h S es ep t),?_,⟨Heap.get?_push_size _ rfl,I0.keep fun u e=>Heap.get?_push_of_some _ e⟩,fpo⟩ ((km w S ep es).map _);rw [ln];exact vK (t:=t) hh bt ne
    | false =>
      have nd:¬ ((!t.plain&&decide (es.size > 1))=true):=fun y=>hb (by rw [bt,y];rfl)
      have hl:t.led=true:=by rw [L.tab.1,bt];rfl
      have ln:(es.toList.map (·.2)).length=es.size:=by simp
      refine q s.heap.objs.size _ s.drawn (es.toList.map (·.2)) (fun b o e=>Heap.get?_push_of_some _ e) (Nat.le_refl _) ⟨[s.heap.objs.size,S],(fun i h=>h.get? s.heap.objs.size=some (u9 (.int (nk t i:Nat) 0) i es.size ep S)/\Si h S es ep t),?_,⟨Heap.get?_push_size _ rfl,I0.keep fun u e=>Heap.get?_push_of_some _ e⟩,fpo⟩ (List.Perm.refl _);rw [ln];exact vJ (t:=t) hh bt ne hl L.tab.2 L.fit nd
end
section
variable {prog:Program} {w:World} {A:Around} {E:Value->Shared->Prop} {s:Shared} {S:Addr} {es:Array (Int×Value)} {t:SetTable}
theorem qc.keep {h g:Heap} {b:Bool} (L:qc prog w h S b es t) (k:∀ u,h.get? S=some u->g.get? S=some u):qc prog w g S b es t:=by
  obtain ⟨u,ep,hu,r⟩:=L.obj;exact ⟨⟨u,ep,k u hu,r⟩,L.elm,L.few,L.fit,L.tab⟩
noncomputable abbrev Ak (acc:Array Value) (c:Nat):Obj:={ cls:=.type "list",dict:=none,data:=.seq acc c,slots:=#[] }
theorem sF {R:Result->Shared->Prop} {D:Addr} {res:Value} (hh:A.handled=none) (L:qc prog w s.heap S (!kH w) es t) (ne:D≠S) (hD:s.heap.get? D=some (Ak #[] 0))
    (q:∀ (g:Heap) (tk:Nat) (d:_) (acc:Array Value) (c:Nat),(∀ b o,b≠D->s.heap.get? b=some o->g.get? b=some o)->g.get? D=some (Ak acc c)->acc.toList.Perm (es.toList.map (·.2))->R (.ok (.ret res)) { s with heap:=g,toks:=tk,drawn:=d }) :
    wpAny (model prog w) A.in1 (Builtin.List.listExtendWith (.ref D) (.ref S) res) (fun fin s'=>match fin with | .done f=>R (.ok f) s' | .again c'=>c'.quiet=true/\codeAny (model prog w) A c' R s') (fun e s'=>R (.error e) s') s:=by
  obtain ⟨u,ep,hu,hx,hd⟩:=L.obj;have ty:s.TypeIs (.ref S) "set" := ⟨u,hu,hx.1⟩
  have ltD:=Heap.lt_size hD;unfold Builtin.List.listExtendWith;refine wpAny_bind (wpAny_typeOf ty ?_);have e1:Builtin.List.listSameRef (.ref D) (.ref S)=false:=by simp [Builtin.List.listSameRef,ne]
  have e2:(Value.type "set" == Value.type "list")=false:=by decide
  have e3:(Value.type "set" == Value.type "tuple")=false:=by decide
  simp only [e1,e2,e3,Bool.or_false,Bool.false_eq_true,if_false];apply wpAny_bind;refine wM (B:=A.in1) hh L fun I g d ord kp hI W pm=>?_
  obtain ⟨fp,St,W,st,hfp⟩:=W;have Df:D∉fp:=fun z=>by
    rcases hfp D z with y | y
    · exact ne y
    · exact absurd ltD (Nat.not_lt.mpr y)
  have hD1:=kp D _ hD;have ty1:Shared.TypeIs { s with heap:=g,drawn:=d } (.ref S) "set" := ⟨u,kp S u hu,hx.1⟩
  refine wpAny_bind (wpAny_holding (xP ty1 ?_));have ln:ord.length<=sizeLine:=by
    rw [pm.length_eq,List.length_map,Array.length_toList];exact fits_of_scanBound L.few
  have key:∀ (g2:Heap) (c tk:Nat),St 0 g2->(∀ b o,b≠D->s.heap.get? b=some o->g2.get? b=some o)->g2.get? D=some (Ak #[] c)->codeAny (model prog w) A (.builtin "list.extend.loop" ⟨[.ref D,.ref I,res],[]⟩) R { s with heap:=g2,toks:=tk,drawn:=d }:=fun g2 c tk st2 k2 hD2=>by
    refine codeAny_extend_loopS W.toS ln D Df res ord.length 0 _ #[] c rfl (Nat.zero_le _) st2 hD2 (ItemsOf.nil _) fun s3 acc c3 mv hD3 hacc=>?_
    have ea:acc.toList=ord:=by
      refine List.ext_getElem (by rw [Array.length_toList];exact hacc.1) fun k h1 h2=>?_
      have:=hacc.2 k acc[k] (Array.getElem?_eq_getElem (by simpa using h1));dsimp only at this;rw [List.getElem?_eq_getElem h2] at this;simpa using (Option.some.inj this).symm
    rw [Moved.eq_with mv];refine q s3.heap s3.toks d acc c3 (fun b o nb e=>mv.heap b o (fun z=>?_) (k2 b o nb e)) hD3 (by rw [ea];exact pm);rcases List.mem_cons.mp z with y | y
    · exact nb y
    · rw [List.mem_singleton.mp y] at e;exact absurd (Heap.lt_size e) (Nat.not_lt.mpr hI)
  refine wpAny_ite_split (fun _=>?_) fun _=>wpAny_pure ⟨plainId_quiet PySem.F.plain_extend_loop _,key g 0 _ st (fun b o _ e=>kp b o e) hD1⟩
  refine wpAny_bind (wpAny_rule ?_);apply wpAny_bind;show wpAny _ _ (updateSeq D (·.push .none)>>=fun _=>updateSeq D (·.pop)) _ _ _;refine wpAny_bind (wpAny_updateSeq hD1 rfl ?_);have hD2:=Heap.get?_update_self (Obj.mapSeq (·.push Value.none)) hD1 rfl;refine wpAny_updateSeq (hz:=by seq_fits) hD2 rfl ?_;have hD3:=Heap.get?_update_self (Obj.mapSeq (·.pop)) hD2 rfl;have oth:∀ b o,b≠D->g.get? b=some o->((g.update D (Obj.mapSeq (·.push Value.none))).update D (Obj.mapSeq (·.pop))).get? b=some o:=fun b o nb e=>(Heap.get?_update_other _ _ (Ne.symm nb)).trans ((Heap.get?_update_other _ _ (Ne.symm nb)).trans e)
  exact wpAny_pure ⟨plainId_quiet PySem.F.plain_extend_loop _,key _ _ _ (W.frame 0 _ _ st fun b hb o e=>oth b o (fun z=>Df (z ▸ hb)) e) (fun b o nb e=>oth b o nb (kp b o e)) hD3⟩
theorem qN {R:List Value->Shared->Prop} (hh:A.handled=none) (L:qc prog w s.heap S (!kH w) es t)
    (q:∀ (g:Heap) (tk:Nat) (d:_) (vs:List Value),(∀ b o,s.heap.get? b=some o->g.get? b=some o)->vs.Perm (es.toList.map (·.2))->R vs { s with heap:=g,toks:=tk,drawn:=d }):wpAny (model prog w) A (collect (.ref S)) R E s:=by
  have ltS:S < s.heap.objs.size:=let ⟨_,_,hu,_⟩:=L.obj;Heap.lt_size hu
  unfold collect;refine wpAny_bind (wpAny_runValue (codeAny_builtin entry_proto_collect' ?_));rw [Around.under_plainId PySem.F.plain_proto_collect _];show wpAny _ A.in1 (newList []>>=fun l=>again (.builtin "list.__iadd__" ⟨[l,.ref S],[]⟩)) _ _ s;refine wpAny_bind (wpAny_newObj_type ?_);refine wpAny_pure ⟨plainId_quiet PySem.F.plain_list_iadd _,codeAny_builtin entry_list_iadd' ?_⟩;rw [Around.under_plainId PySem.F.plain_list_iadd _];have at0:(s.heap.push (Ak ([]:List Value).toArray 0)).get? s.heap.objs.size=some (Ak #[] 0):=Heap.get?_push_size _ rfl;show wpAny _ A.in1 (Builtin.List.listExtendWith (.ref s.heap.objs.size) (.ref S) (.ref s.heap.objs.size)) _ _ _;have L1:qc prog w (s.heap.push (Ak ([]:List Value).toArray 0)) S (!kH w) es t:=L.keep fun u e=>Heap.get?_push_of_some _ e
  have main:=sF (A:=A) (s:={ s with heap:=s.heap.push (Ak ([]:List Value).toArray 0) }) (res:=.ref s.heap.objs.size)
    (R:=fun r s'=>∃ (g:Heap) (tk:Nat) (d:Drawn) (acc:Array Value) (c:Nat),r=.ok (.ret (.ref s.heap.objs.size))/\s'={ s with heap:=g,toks:=tk,drawn:=d }/\(∀ b o,s.heap.get? b=some o->g.get? b=some o)/\g.get? s.heap.objs.size=some (Ak acc c)/\acc.toList.Perm (es.toList.map (·.2)))
    hh L1 (Nat.ne_of_gt ltS) at0 fun g tk d acc c kp hg pm=>⟨g,tk,d,acc,c,rfl,rfl,fun b o e=>kp b o (Nat.ne_of_lt (Heap.lt_size e)) (Heap.get?_push_of_some _ e),hg,pm⟩
  refine wpAny_mono main (fun fin s' x=>?_) fun e s' x=>?_
  · cases fin with
    | done f =>
      obtain ⟨g,tk,d,acc,c,e,rfl,kp,hg,pm⟩:=x;cases e;show wpAny _ A (load s.heap.objs.size>>=_) _ _ _;exact wpAny_bind (wpAny_load hg (wpAny_pure (q g tk d acc.toList kp pm)))
    | again c₁ =>
      refine ⟨x.1,codeAny_mono x.2 fun r s₂ y=>?_⟩;obtain ⟨g,tk,d,acc,c,rfl,rfl,kp,hg,pm⟩:=y;show wpAny _ A (load s.heap.objs.size>>=_) _ _ _;exact wpAny_bind (wpAny_load hg (wpAny_pure (q g tk d acc.toList kp pm)))
  · obtain ⟨_,_,_,_,_,e',_⟩:=x;cases e'
end
end D2
namespace D2
open PySem PySem.Spec PyProof.Rows L2
noncomputable def n8 (ns:List Int):List Int:=ns.foldl step_dedup []
theorem sP (ns:List Int):firstMet (fun i=>ns.getD i 0) ns.length=n8 ns:=by
  unfold firstMet n8;congr 1;refine List.ext_getElem (by simp) fun k h1 h2=>?_
  simp [List.getD,List.getElem?_eq_getElem h2]
theorem sC (ns:List Int):(n8 ns).length<=ns.length:=by
  rw [<- sP];exact firstMet_length_le _ _
theorem oo:∀ (vs:List Value),(∀ v∈vs,∃ n tk,v=.int n tk)->IntsAre vs (vs.map vb)
  | [],_=>.nil
  | v::vs,h=>by
    obtain ⟨n,tk,rfl⟩:=h v List.mem_cons_self;exact .cons n tk (oo vs fun u hu=>h u (List.mem_cons_of_mem _ hu))
section
variable {prog:Program} {w:World} {A:Around} {E:Value->Shared->Prop} {s:Shared} {S:Addr}
theorem ti {l:List Int} {Q:Value->Shared->Prop} (hh:A.handled=none) (X:lC prog w s.heap S (!kH w) l) (h64:l.length < 64)
    (q:∀ (D:Addr) (g:Heap) (tk:Nat) (d:_) (vs:List Value) (e:Nat),s.heap.get? D=none->(∀ b o,s.heap.get? b=some o->g.get? b=some o)->g.get? D=some (seqObj "list" vs.toArray e)->IntsAre vs (dh l)->Q (.ref D) { s with heap:=g,toks:=tk,drawn:=d }) :
    wpAny (model prog w) A (call (.builtin "sorted") [.ref S]) Q E s:=by
  obtain ⟨es,t,L,pm⟩:=X;refine Calls.call_function_entry kind_sorted plain_sorted entry_sorted (args_sorted1 _) ?_;unfold Builtin.«sorted»;refine wpAny_bind (m:=checkCount "sorted" 1 1 _) (wpAny_pure ?_);refine wpAny_bind (qN (A:=A.in1) hh L fun g tk d vs kp pv=>?_);have hv:∀ v∈vs,∃ n tk,v=.int n tk:=fun v hv=>by
    obtain ⟨e,he,rfl⟩:=List.mem_map.mp (pv.mem_iff.mp hv);obtain ⟨⟨k,hk,_⟩,_⟩:=L.elm e he;obtain ⟨tk,z⟩:=Value.isInt_shape (k:=k) (v:=e.2) hk;exact ⟨k,tk,z⟩
  have hI:=oo vs hv;have pl:(vs.map vb).Perm l:=by
    refine (pv.map vb).trans ?_;rw [List.map_map];exact pm
  have ln:vs.length=l.length:=by have:=pl.length_eq;rwa [List.length_map] at this
  refine wpAny_bind (wpAny_newList ?_ (by rw [ln,sizeLine_eq];omega));have at0:(g.push (seqObj "list" vs.toArray 0)).get? g.objs.size=some (seqObj "list" vs.toArray 0):=Heap.get?_push_size _ rfl;show wpAny _ _ _ _ _ { s with heap:=g.push (seqObj "list" vs.toArray 0),toks:=tk,drawn:=d };refine wpAny_bind (wpAny_holding (wpAny_call_entry slot_list_sort ⟨_,at0,rfl⟩ entry_list_sort (list_sort_tree at0 hI (by rw [ln];exact h64) fun out ns' a1 a2 a3=>⟨_,rfl,?_⟩) (args_list_sort _)));refine wpAny_pure ⟨_,rfl,?_⟩;obtain ⟨e,he⟩:=sortedHeap_at (out:=out) at0;have fr:s.heap.get? g.objs.size=none:=by
    cases z:s.heap.get? g.objs.size with
    | none=>rfl
    | some o=>exact absurd (Heap.lt_size (kp _ _ z)) (Nat.lt_irrefl _)
  refine q g.objs.size _ tk d out.toList e fr (fun b o z=>?_) he (by rw [iP (a2.trans pl) a3] at a1;exact a1);have z1:=kp b o z;have lt:b < g.objs.size:=Heap.lt_size z1;show (sortedHeap (g.push (seqObj "list" vs.toArray 0)) g.objs.size vs out).get? b=some o;rw [sortedHeap_old (Nat.ne_of_lt lt) (by rw [size_push'];exact Nat.lt_succ_of_lt lt)];exact Heap.get?_push_of_some _ z1
end
theorem u6 {X:Cx} {pins:List (Addr×Obj)} {σ:St} {H:Hp} {s:Shared} {h':Heap} {a:Addr} {o:HO} {t':Nat} {d':Drawn} (I:aC X pins σ H s) (k:∀ b u,s.heap.get? b=some u->h'.get? b=some u) (hg:s.heap.get? a=none) (hn:H a=none)
    (new:bV X.prog X.w (du H a o) h' a o):aC X pins σ (du H a o) { s with heap:=h',toks:=t',drawn:=d' }:=by
  have J:=qW (t':=t') I k hg hn new;exact ⟨J.ok,J.os,J.bare,J.base,J.loc,J.cell,J.free,J.freeC,J.pin,J.hok,J.len⟩
section
variable {X:Cx} {a b c:Expr} {fa fb fc:Fe} {pos p2:Pos} {nl:Nat} {G:List Str} {x:Str} {p p1:Pos} {pos1:Pos} {t:TA}
noncomputable def Ex (K:PySem.W.Frag):List V->Hp->VK->Prop:=fun xs H Q=>∃ p ns,xs=[.ref p]/\(lD K H p (ns.map V.int)\/gm K H p (ns.map V.int))/\ns.length < 64/\∀ l,H l=none->Q (.ref l) (du H l (.lst ((dh (n8 ns)).map V.int)))
theorem yD (hc:X.calm=true) {pins:List (Addr×Obj)} {s:Shared} {σ:St} {H:Hp} {vs:List V} {us:List Value} {Q:VK} (I:aC X pins σ H s) (r:bn vs us) (h:Ex X.K vs H Q) :
    wpAny (model X.prog X.w) X.A (call (.type "set") us) (fun v s1=>wpAny (model X.prog X.w) X.A (call (.builtin "sorted") [v]) (EP X pins σ Q) X.xe s1) X.xe s:=by
  obtain ⟨p,ns,rfl,hq,h64,q⟩:=h;obtain ⟨u,rfl,rx⟩:=gh r;cases rx;have hh:=I.ok.hd hc;have few:ns.length+1 < scanBound:=by have:scanBound=4096:=rfl;omega
  have fin:∀ (g:Heap) (tk:Nat) (S:Addr),lC X.prog X.w g S (!kH X.w) (n8 ns)->(∀ b o,s.heap.get? b=some o->g.get? b=some o)->wpAny (model X.prog X.w) X.A (call (.builtin "sorted") [.ref S]) (EP X pins σ Q) X.xe { s with heap:=g,toks:=tk }:=fun g tk S Y kp=>by
    have dl:=sC ns;refine ti (s:={ s with heap:=g,toks:=tk }) hh Y (by omega) fun D g2 tk2 d vs e hg kp2 hD hI=>?_
    have hg0:s.heap.get? D=none:=by
      cases z:s.heap.get? D with
      | none=>rfl
      | some o=>rw [kp D o z] at hg;cases hg
    have hn:=qX I hg0;refine ⟨.ref D,_,u6 (s:=s) (t':=tk2) (d':=d) (o:=.lst ((dh (n8 ns)).map V.int)) I (fun b o z=>kp2 b o (kp b o z)) hg0 hn ⟨?_,vs,e,gG hI,by simpa [seqObj] using hD⟩,rfl,q _ hn⟩;rw [List.length_map,i9,sizeLine_eq];omega
  rcases hq with hq | hq
  · obtain ⟨its,rv,pl,hz⟩:=I.list hq;have hI:IntsAre its ns:=eO rv;have ln:=IntsAre.length hI;refine qK (xT (prog:=X.prog) (w:=X.w) (a:=p) (items:=its.toArray) (ns:=ns) (by simpa using hI)) hh pl.isList (by simp;omega) fun g tk Y kp=>?_
    rw [show its.toArray.size=ns.length by simp [ln],sP] at Y;exact fin g tk _ Y kp
  · obtain ⟨its,rv,pl,hz⟩:=I.tuple hq;have hI:IntsAre its ns:=eO rv;have ln:=IntsAre.length hI;refine qK (vE (prog:=X.prog) (w:=X.w) (a:=p) (items:=its.toArray) (ns:=ns) (by simpa using hI)) hh pl (by simp;omega) fun g tk Y kp=>?_
    rw [show its.toArray.size=ns.length by simp [ln],sP] at Y;exact fin g tk _ Y kp
theorem CG (hc:X.calm=true) (hg1:Gl X "sorted") (hm1:X.mg "sorted" = none) (hg2:Gl X "set") (hm2:X.mg "set" = none) (ha:PA X [a] t) (he:starEach [a] X.env=[(false,eval a X.env)]) :
    PE X (.Call (.Name "sorted" p) [.Call (.Name "set" p1) [a] [] pos1] [] pos) (DH (Ex X.K) t):=by
  intro pins s σ H Q I h;refine wpAny_Call_Name_kw (jH I hg1 hm1 PyProof.Rows.boot_sorted ?_);refine PyProof.Rows.callWith_builtin1 ?_ rfl rfl;refine Calls.spliced_cons (wpAny_Call_Name_kw (jH I hg2 hm2 PyProof.Rows.boot_set ?_));refine PyProof.Rows.callWith_type1 (cS (ha pos1 pins s σ H _ I h) fun us s1 ⟨vs,H1,I1,r1,q1⟩=>?_) he rfl;exact cS (yD hc I1 r1 q1) fun v s2 z=>Calls.spliced_nil z
noncomputable def B7:PyData->R PyData
  | .list ds=>match bS ds with
    | some ns=>if ns.length < 64 then .ok (.list ((dh (n8 ns)).map PyData.int)) else .no
    | none=>.no
  | .tuple ds=>match bS ds with
    | some ns=>if ns.length < 64 then .ok (.list ((dh (n8 ns)).map PyData.int)) else .no
    | none=>.no
  | _=>.no
theorem v9 (T:Tb X nl G) (j k:Nat) (hG:G[j]?=some ("sorted" : Str)) (hm:X.mg "sorted" = none) (hG2:G[k]?=some ("set" : Str)) (hm2:X.mg "set" = none) (ha:Z.cT X a fa) (he:aH a=true:=by rfl):Z.ky X (.Call (.Name "sorted" p) [.Call (.Name "set" p1) [a] [] pos1] [] pos) (e1 B7 fa):=⟨have ha:=ha.un;by
  have q1:=T.gl "sorted" (List.mem_of_getElem? hG);have q2:=T.gl "set" (List.mem_of_getElem? hG2);have sa:starEach [a] X.env=[(false,eval a X.env)]:=aS he;show PE X _ (ik X AD (e1 B7 fa));rw [<- pW];refine PE.imp (CG T.calm q1.1 hm q2.1 hm2 (iS ha mE he) sa) (qJ wy (p9 fun H x d Q hx q=>?_));cases d with
  | list ds =>
    simp only [B7] at q;cases ei:bS ds with
    | none=>rw [ei] at q;exact q.elim
    | some ns =>
      rw [ei] at q;dsimp only at q;by_cases h64:ns.length < 64
      · rw [if_pos h64] at q;obtain ⟨a',vs,rfl,h,r⟩:=eF (K:=X.K) hx;rw [eu ei] at r;rw [gC r] at h;exact ⟨a',ns,rfl,.inl h,h64,fun l hl=>q _ _ (bT hl _) (cJ hl (bF.ints _))⟩
      · rw [if_neg h64] at q;exact q.elim
  | tuple ds =>
    simp only [B7] at q;cases ei:bS ds with
    | none=>rw [ei] at q;exact q.elim
    | some ns =>
      rw [ei] at q;dsimp only at q;by_cases h64:ns.length < 64
      · rw [if_pos h64] at q;obtain ⟨a',vs,rfl,h,r⟩:=cb hx;rw [eu ei] at r;rw [gC r] at h;exact ⟨a',ns,rfl,.inr (.inl (.inl h)),h64,fun l hl=>q _ _ (bT hl _) (cJ hl (bF.ints _))⟩
      · rw [if_neg h64] at q;exact q.elim
  | _=>exact q.elim⟩
end
noncomputable def qe (X:Cx) (k:Nat):Prop:=∀ x∈X.N.drop k,X.env.kindOf x=some .cell\/X.env.kindOf x=some .free
theorem AL {X:Cx} {sc:Scope} {N:List Str} {own:Nat} {G oN:List Str} {fr:List Nat} (ck:dk sc N own G oN fr) (cl:List (Str×Addr)) (C:Addr) (s:Shared) (H:Hp) (fp:List Addr) (E:Value->Shared->Prop):qe (ay X N sc cl C s H fp E) own:=by
  obtain ⟨_,_,_,_,_,f,_,_,_,_⟩:=ck;intro x hx;rcases hV (env:=X.env) (f x hx) with q | q
  · exact .inr q
  · exact .inl q
theorem uR {X:Cx} {tg iter elt:Expr} {ifs:List Expr} {sc:Scope} {pos:Pos} {it:aE->R (List PyData)} {b:PyData->aE->Option aE} {t:aE->R Bool} {f:Fe} {N:List Str} {own:Nat} {G G0:List Str} {fr:List Nat} {nl:Nat}
    (T:Tb X nl G0) {oN:List Str} {on:List (Str×NameKind)} (hoN:X.N=oN) (hon:X.env.scope.names=on)
    (ck:dk sc N own G oN fr/\∀ y∈sc.names,y.2=.free->on.lookup y.1=some .cell\/on.lookup y.1=some .free) (hi:qb X tg iter it)
    (hb0:∀ ρ d ρ1,b d (aq own fr ρ)=some ρ1->jp (aq own fr ρ) ρ1)
    (hbodyO:∀ cl C s H fp E,Tb (ay X N sc cl C s H fp E) own G->qe (ay X N sc cl C s H fp E) own->qa (ay X N sc cl C s H fp E) tg b/\qm (ay X N sc cl C s H fp E) ifs t/\cE (ay X N sc cl C s H fp E) elt f)
    (hs:∀ x,foldedSetIterable iter X.env x=pure x:=by intro _;rfl) (hstk:∃ env0 outer0 L,X.stack=env0::outer0/\env0.frame=some L/\X.env.frame=some L:=by exact ⟨_,_,_,rfl,rfl,rfl⟩):ky X (.ListComp elt [⟨tg,iter,ifs,0⟩] sc pos) (bR it own fr b t f) :=
  n9 T hoN hon ck hi hb0 (fun cl C s H fp E T'=>hbodyO cl C s H fp E T' (AL ck.1 cl C s H fp E)) hs hstk
theorem qC {X:Cx} {tg iter elt:Expr} {ifs:List Expr} {sc:Scope} {pos:Pos} {it:aE->R (List PyData)} {b:PyData->aE->Option aE} {t:aE->R Bool} {f:Fe} {N:List Str} {own:Nat} {G G0:List Str} {fr:List Nat} {nl:Nat} (T:Tb X nl G0) {oN:List Str} {on:List (Str×NameKind)} (hoN:X.N=oN) (hon:X.env.scope.names=on) (ck:dk sc N own G oN fr/\∀ y∈sc.names,y.2=.free->on.lookup y.1=some .cell\/on.lookup y.1=some .free) (hi:Z.qb X tg iter it) (hb0:∀ ρ d ρ1,b d (aq own fr ρ)=some ρ1->jp (aq own fr ρ) ρ1) (hbodyO:∀ cl C s H fp E,Tb (ay X N sc cl C s H fp E) own G->qe (ay X N sc cl C s H fp E) own->Z.qa (ay X N sc cl C s H fp E) tg b/\Z.qm (ay X N sc cl C s H fp E) ifs t/\Z.cE (ay X N sc cl C s H fp E) elt f) (hs:∀ x,foldedSetIterable iter X.env x=pure x:=by intro _;rfl) (hstk:∃ env0 outer0 L,X.stack=env0::outer0/\env0.frame=some L/\X.env.frame=some L:=by exact ⟨_,_,_,rfl,rfl,rfl⟩):Z.ky X (.ListComp elt [⟨tg,iter,ifs,0⟩] sc pos) (bR it own fr b t f) :=
  ⟨D2.uR T hoN hon ck hi.un hb0 (fun cl C s H fp E T cap=>let ⟨q1,q2,q3⟩:=hbodyO cl C s H fp E T cap;⟨q1.un,q2.un,q3.un⟩) hs hstk⟩
theorem uQ {X:Cx} {tg iter elt:Expr} {ifs:List Expr} {sc:Scope} {pos:Pos} {it:aE->R (List PyData)} {b:PyData->aE->Option aE} {t:aE->R Bool} {f:Fe} {N:List Str} {own:Nat} {G G0:List Str} {fr:List Nat} {nl k:Nat}
    (T:Tb X nl G0) {oN:List Str} (hoN:X.N=oN) (cap:qe X k)
    (ck:dk sc N own G oN fr/\∀ y∈sc.names,y.2=.free->y.1∈oN.drop k) (hi:qb X tg iter it)
    (hb0:∀ ρ d ρ1,b d (aq own fr ρ)=some ρ1->jp (aq own fr ρ) ρ1)
    (hbody:∀ cl C s H fp E,Tb (ay X N sc cl C s H fp E) own G->qa (ay X N sc cl C s H fp E) tg b/\qm (ay X N sc cl C s H fp E) ifs t/\cE (ay X N sc cl C s H fp E) elt f)
    (hs:∀ x,foldedSetIterable iter X.env x=pure x:=by intro _;rfl) (hstk:∃ env0 outer0 L,X.stack=env0::outer0/\env0.frame=some L/\X.env.frame=some L:=by exact ⟨_,_,_,rfl,rfl,rfl⟩):ky X (.ListComp elt [⟨tg,iter,ifs,0⟩] sc pos) (bR it own fr b t f) :=
  mH T (by rw [hoN];exact ck.1) (fun y hy hf=>cap y.1 (by rw [hoN];exact ck.2 y hy hf)) hi hb0 hbody hs hstk
theorem qB {X:Cx} {tg iter elt:Expr} {ifs:List Expr} {sc:Scope} {pos:Pos} {it:aE->R (List PyData)} {b:PyData->aE->Option aE} {t:aE->R Bool} {f:Fe} {N:List Str} {own:Nat} {G G0:List Str} {fr:List Nat} {nl k:Nat} (T:Tb X nl G0) {oN:List Str} (hoN:X.N=oN) (cap:qe X k) (ck:dk sc N own G oN fr/\∀ y∈sc.names,y.2=.free->y.1∈oN.drop k) (hi:Z.qb X tg iter it) (hb0:∀ ρ d ρ1,b d (aq own fr ρ)=some ρ1->jp (aq own fr ρ) ρ1) (hbody:∀ cl C s H fp E,Tb (ay X N sc cl C s H fp E) own G->Z.qa (ay X N sc cl C s H fp E) tg b/\Z.qm (ay X N sc cl C s H fp E) ifs t/\Z.cE (ay X N sc cl C s H fp E) elt f) (hs:∀ x,foldedSetIterable iter X.env x=pure x:=by intro _;rfl) (hstk:∃ env0 outer0 L,X.stack=env0::outer0/\env0.frame=some L/\X.env.frame=some L:=by exact ⟨_,_,_,rfl,rfl,rfl⟩):Z.ky X (.ListComp elt [⟨tg,iter,ifs,0⟩] sc pos) (bR it own fr b t f) :=
  ⟨D2.uQ T hoN cap ck hi.un hb0 (fun cl C s H fp E T=>let ⟨q1,q2,q3⟩:=hbody cl C s H fp E T;⟨q1.un,q2.un,q3.un⟩) hs hstk⟩
section
variable {X:Cx} {nl:Nat} {G:List Str} {p C C1 C2:Addr} {ob:Obj} {n c1 c2:Str} {pi pe p1 p2 pos:Pos}
theorem uI (Z:jS X.K C) (hp:(p,ob)∈X.pn) (hc:ob.cls=.ref C):c9 X (.builtin "isinstance") (fun xs H Q=>∃ (q:Addr) (cs:List Addr),xs=[.ref p,.ref q]/\H q=some (.tup (cs.map V.ref))/\PySem.W.kitAny X.K (.ref C) (cs.map Value.ref)=some false/\Q (.bl false) H):=by
  intro pins s σ H xs us Q I r h;obtain ⟨q,cs,rfl,hq,hk,z⟩:=h;obtain ⟨u,v,rfl,rx,ry⟩:=oS r;cases rx;cases ry;have pin:=(I.pin (p,ob) (List.mem_append_left _ hp)).1;obtain ⟨its,rv,tp,hz⟩:=I.tuple (a:=q) (xs:=cs.map V.ref) (.inl (.inl hq));have ei:its=cs.map Value.ref:=by
    have go:∀ (l:List Addr) (vs:List Value),bn (l.map V.ref) vs->vs=l.map Value.ref:=by
      intro l;induction l with
      | nil=>intro vs h;cases h;rfl
      | cons a l ih =>
        intro vs h;cases h with
        | cons h1 h2 =>
          cases h1;rw [ih _ h2];rfl
    exact go cs its rv
  subst ei;obtain ⟨o,ho,hcl,m,hd⟩:=tp;obtain ⟨ocl,odi,oda,osl⟩:=o;have e1:ocl=.type "tuple" := hcl;have e2:oda=.seq (cs.map Value.ref).toArray m:=hd;subst e1 e2;refine call_isinstance (S:=fun _ R s=>(X.K.In s.heap/\s.heap.get? p=some ob/\s.heap.get? q=some ⟨.type "tuple",odi,.seq (cs.map Value.ref).toArray m,osl⟩)/\∀ tk,R (.ok (.ret (.bool false))) { s with toks:=tk })
    (fun prog w A R s hs=>isinstance_outer (PySem.W.kit_tuple (wQ Z hc) hk _ prog w A R s hs) (fun z=>nomatch z)) ⟨⟨I.kIn,pin,ho⟩,fun tk=>⟨.bl false,H,I.tok tk,rfl,z⟩⟩
theorem zb {i:Nat} {σ:St} {H:Hp} {Q:VK} (h:ik X fU (ig i p) σ H Q):σ[i]?=some (some (.ref p))/\∀ H',ar H H'->Q (.bl false) H':=by
  obtain ⟨ρ,sl,q⟩:=h;unfold ig at q;split at q
  · rename_i q' e;split at q
    · rename_i e';subst e';obtain ⟨o,h1,h2⟩:=sl.at e;have h2':o=some (.ref q'):=h2;subst h2';exact ⟨h1,fun H' s=>q _ H' s eK⟩
    · exact q.elim
  · exact q.elim
theorem kF {x1} {tp:Pos} (T:Cf X nl G) (hp:(p,ob)∈X.pn) (hc:ob.cls=.ref C) (i:Nat) (hN:X.N[i]?=some n) (j:Nat) (hG:G[j]?=some ("isinstance" : Str)) (hm:X.mg "isinstance" = none) (j1:Nat) (hG1:G[j1]?=some c1) (hm1:X.mg c1=some (.ref C1)) (j2:Nat) (hG2:G[j2]?=some c2) (hm2:X.mg c2=some (.ref C2)) (hz:jS X.K C) (hk1:PySem.W.kitOne X.K (.ref C) (.ref C1)=some false) (hk2:PySem.W.kitOne X.K (.ref C) (.ref C2)=some false):Z.cE X (.Call (.Name "isinstance" pi) [.Name n pe,.Tuple [.Name c1 p1,.Name c2 p2] x1 tp] [] pos) (ig i p):=⟨by
  have g:=T.gl _ (List.mem_of_getElem? hG);have g1:=T.gl _ (List.mem_of_getElem? hG1);have g2:=T.gl _ (List.mem_of_getElem? hG2);have v:=T.vis n (List.mem_of_getElem? hN);have h1:PE X (.Name n pe) (zW i):=hR hN v.1 v.2.1 v.2.2;have h2:PE X (.Name c1 p1) (tC (.ref C1)):=lV g1.1 hm1 rfl g1.2.1;have h3:PE X (.Name c2 p2) (tC (.ref C2)):=lV g2.1 hm2 rfl g2.2.1;refine PE.imp (iK (uI hz hp hc) g.1 hm PyProof.Rows.boot_isinstance (fF h1 (fF (xp (fF h2 (fF h3 mW))) mW)) g.2.2 g.2.1) fun σ H Q h=>?_
  obtain ⟨a,b⟩:=zb h;refine ⟨_,a,by show 2<=sizeLine;decide,fun q hq=>⟨q,[C1,C2],rfl,cj ..,?_,b _ (bT hq _)⟩⟩;show PySem.W.kitAny X.K (.ref C) [.ref C1,.ref C2]=some false;simp only [PySem.W.kitAny,hk1,hk2]⟩
end
theorem tF (l:Addr) (items:Array Value) (n:Nat) (dd:Option Addr) (sl:Array (Option Value)) (x:Int) (u:Tok) (h1:-(2 ^ 63)<=x) (h2:x < 2 ^ 63) (h0:(items.isEmpty||x==1)=true) :
    Meets (Builtin.«tuple.__mul__» ⟨[.ref l,.int x u],[]⟩) (fun _ R s=>s.heap.get? l=some { cls:=.type "tuple",dict:=dd,data:=.seq items n,slots:=sl }/\R (.ok (.ret (.ref l))) s) :=
  .of_wp fun prog w A R s h=>by
    obtain ⟨hp,g,d,tk,os⟩:=s;obtain ⟨hl,h⟩:=h;have f1:=AutoSeq1.idx_int;have f2:=AutoSeq1.sub_tuple_tuple;have e0:(decide (x < -2 ^ 63)||decide (x>=2 ^ 63))=false:=by
      rw [decide_eq_false (by omega),decide_eq_false (by omega)];rfl
    wp_walk using wpAny_loadPart' hl
    refine wpAny_ite_false (decide_eq_false (by rw [e0];exact Bool.false_ne_true)) ?_
    wp_walk using wpAny_loadPart' hl
    exact ⟨_,rfl,h⟩
section
variable {X:Cx} {a b c:Expr} {fa fb fc:Fe} {pos:Pos} {nl:Nat} {G:List Str} {x:Str} {p:Pos}
noncomputable def Ar (K:PySem.W.Frag):R2:=fun x y H Q=>∃ l k xs,x=.ref l/\y=.int k/\gm K H l xs/\(xs=[]\/k=1)/\0<=k/\k < 2 ^ 63/\Q (.ref l) H
theorem zq:gS X (binaryOp .Mult) (Ar X.K):=by
  intro pins s σ H x y v u Q I rx ry h;obtain ⟨l,k,xs,rfl,rfl,hH,hor,h1,h2,q⟩:=h;cases rx;obtain ⟨t,rfl⟩:=ry;obtain ⟨its,r,pl,hz0⟩:=I.tuple hH;obtain ⟨⟨cls,dd,data,sl⟩,e,hc,n,hd⟩:=id pl;simp only at hc hd;subst hc hd;have hl:=r.length;have h0:(its.toArray.isEmpty||k==1)=true:=by
    rcases hor with z | z
    · rw [z] at hl;have:its=[]:=List.length_eq_zero_iff.mp hl.symm;rw [this];rfl
    · rw [z];simp
  refine wpAny_binaryOp_repeat_ref (T := "tuple") (U := "int") (by decide) ⟨_,e,rfl⟩ (fun s'=>typeIs_int s' k t) gA F.fills_int_mul F.slot_int_rmul kq F.slot_int_index.lookup
    (call_meets F.slot_int_rmul (typeIs_int s k t) F.entry_int_rmul (F.args_int_rmul_2 _ _) (iI k t l its.toArray n dd sl)
      ⟨e,rfl,⟨_,e,rfl⟩,call_meets F.slot_tuple_mul ⟨_,e,rfl⟩ F.entry_tuple_mul (F.args_tuple_mul_2 _ _) (tF l its.toArray n dd sl k t (by omega) h2 h0) ⟨e,?_⟩⟩)
  exact ⟨.ref l,H,I,rfl,q⟩
noncomputable def ka:PyData->PyData->R PyData
  | .tuple xs,.int k=>if (xs=[]\/k=1)/\0<=k/\k < 2 ^ 63 then .ok (.tuple xs) else if xs≠[]/\2<=k/\k < 2 ^ 63/\xs.length*k.toNat<=sizeLine then .ok (.tuple (List.replicate k.toNat xs).flatten) else .no
  | _,_=>.no
theorem zT:bU X fU (fun x y H Q=>Ar X.K x y H Q\/xG X.K x y H Q) ka:=fun H x y dx dy Q hx hy q=>by
  cases dx with
  | tuple ds =>
    cases dy with
    | int k =>
      simp only [ka] at q;obtain ⟨a',vs,rfl,h,r⟩:=cb hx;have hlen:=r.length;by_cases hz:(ds=[]\/k=1)/\0<=k/\k < 2 ^ 63
      · rw [if_pos hz] at q;refine .inl ⟨a',k,vs,rfl,bd hy,.inl (.inl h),?_,hz.2.1,hz.2.2,q _ H (ar.refl _) ?_⟩
        · rcases hz.1 with z | z
          · left;rw [z] at hlen;exact List.length_eq_zero_iff.mp (hlen.trans rfl)
          · exact .inr z
        · simp only [Rp];exact ⟨a',vs,rfl,h,r⟩
      · rw [if_neg hz] at q;split at q
        · rename_i hy';obtain ⟨q1,q2,q3,q4⟩:=hy';exact .inr ⟨a',k,vs,rfl,bd hy,.inl (.inl h),fun z=>q1 (List.length_eq_zero_iff.mp (by rw [<- hlen,z];rfl)),q2,q3,by rw [hlen];exact q4,fun p hp=>q _ _ (bT hp _) (dF hp (r.rep k.toNat))⟩
        · exact q.elim
    | _=>exact q.elim
  | _=>exact q.elim
theorem uD (ha:Z.cT X a fa) (hb:Z.cT X b fb):Z.cE X (.BinOp a .Mult b pos) (e2 ka fa fb):=⟨have ha:=ha.un;have hb:=hb.un;jC dO (zq.or t7) zT ha hb⟩
end
section
variable {prog:Program} {w:World} {A:Around} {E:Value->Shared->Prop} {s:Shared}
noncomputable abbrev sL (vs:Array Value) (x:Value):Nat->Option PySem.Fin×Unit->Sem (ForInStep (Option PySem.Fin×Unit)):=fun i _ =>
  match vs[i]? with
  | some y=>do
    let b <- eqBool y x
    if b=true then do
      let r <- retInt (i:Int)
      pure (ForInStep.done (some r,()))
    else pure (ForInStep.yield (none,()))
  | _=>pure (ForInStep.yield (none,()))
theorem wH {k:Int}:∀ (ns:List Int) (i:Nat),ns[i]?=some k->ns.idxOf k<=i
  | [],i,h=>by simp at h
  | n::ns,0,h=>by
    simp at h;subst h;simp [List.idxOf_cons]
  | n::ns,i+1,h=>by
    have:=wH ns i (by simpa using h);rw [List.idxOf_cons];cases n==k <;> simp <;> omega
theorem tX {vs:List Value} {ns:List Int} {k:Int} {t:Tok} (hi:IntsAre vs ns) {Q:Option PySem.Fin×Unit->Shared->Prop}:∀ (m i:Nat) (s:Shared),i+m=vs.length->(∀ j,j < i->ns[j]?≠some k)->k∈ns ->
    (∀ tk tk',Q (some (.done (.ret (.int (ns.idxOf k:Nat) tk))),()) { s with toks:=tk' })->wpAny (model prog w) A (forIn (List.range' i m) ((none:Option PySem.Fin),()) (sL vs.toArray (.int k t))) Q E s
  | 0,i,s,h,hno,hk,q=>by
    exfalso;obtain ⟨j,hj,e⟩:=List.mem_iff_getElem.mp hk;have hl:=IntsAre.length hi;exact hno j (by omega) (by rw [List.getElem?_eq_getElem hj,e])
  | m+1,i,s,h,hno,hk,q=>by
    have hl:=IntsAre.length hi;have lt:i < vs.length:=by omega
    have ltn:i < ns.length:=by omega
    obtain ⟨tv,ev⟩:=hi.int_at i vs[i] (List.getElem?_eq_getElem lt);have en:ns.getD i 0=ns[i]:=by simp [List.getD,List.getElem?_eq_getElem ltn]
    rw [en] at ev;rw [List.range'_succ,List.forIn_cons];have e0:vs.toArray[i]?=some (.int ns[i] tv):=by simp [lt,ev]
    unfold sL;rw [e0];dsimp only;apply wpAny_bind;apply wpAny_bind;refine (intKind prog w).eqBool (a:=ns[i]) (b:=k) (intKind_is _ _ _ _) (intKind_is _ _ _ _) ?_;by_cases z:ns[i]=k
    · rw [if_pos (by simpa using z)];have ei:ns.idxOf k=i:=by
        have h1:ns.idxOf k<=i:=wH ns i (by rw [List.getElem?_eq_getElem ltn,z]);rcases Nat.lt_or_eq_of_le h1 with y | y
        · exfalso;have hlt:ns.idxOf k < ns.length:=List.idxOf_lt_length_iff.mpr hk;exact hno _ y (by rw [List.getElem?_eq_getElem hlt,List.getElem_idxOf hlt])
        · exact y
      rw [ei] at q;obtain ⟨hp,g,d,tk,os⟩:=s;unfold retInt
      wp_walk
      exact q _ _
    · rw [if_neg (by simpa using z)];refine wpAny_pure ?_;exact tX hi m (i+1) s (by omega) (fun j hj=>by
        by_cases y:j=i
        · subst y;rw [List.getElem?_eq_getElem ltn];intro e;exact z (Option.some.inj e)
        · exact hno j (by omega)) hk q
theorem kT {l:Addr} {vs:List Value} {ns:List Int} {k:Int} {t:Tok} {Q:Value->Shared->Prop} (hl:s.heap.IsTuple l vs.toArray) (hi:IntsAre vs ns) (hk:k∈ns) (q:∀ tk tk',Q (.int (ns.idxOf k:Nat) tk) { s with toks:=tk' }) :
    wpAny (model prog w) A (call (.builtin "tuple.index") [.ref l,.int k t]) Q E s:=by
  refine wpAny_call_entry PySem.F.slot_tuple_index hl.typeIs PySem.F.entry_tuple_index ?_ (PySem.F.args_tuple_index_2 _ _);obtain ⟨o,ho,hc,n,hd⟩:=hl;obtain ⟨oc,od,oda,os⟩:=o;simp only at hc hd;subst hc hd;obtain ⟨hp,g,d,tk,os'⟩:=s;unfold Builtin.«tuple.index»
  wp_walk using wpAny_loadPart' ho
  show wpAny (model prog w) A.in1 (forIn [:min vs.toArray.size vs.toArray.size] ((none:Option PySem.Fin),()) (sL vs.toArray (.int k t))) _ _ _;rw [Std.Legacy.Range.forIn_eq_forIn_range'];refine tX hi _ 0 _ ?_ (fun j hj=>by omega) hk fun tk1 tk2=>?_
  · simp [Std.Legacy.Range.size]
  · exact wpAny_pure ⟨_,rfl,q tk1 tk2⟩
end
section
variable {X:Cx} {o e:Expr} {fo fe:Fe} {apos cpos:Pos}
theorem vo:Et X "tuple.index" (fun x xs H Q=>∃ (l:Addr) (ns:List Int) (k:Int),x=.ref l/\xs=[.int k]/\gm X.K H l (ns.map V.int)/\k∈ns/\Q (.int (ns.idxOf k:Nat)) H):=by
  intro pins s σ H x xs v us Q I rx rs h;obtain ⟨l,ns,k,rfl,rfl,hq,hk,q⟩:=h;cases rx;obtain ⟨u,rfl,t,rfl⟩:=gh rs;obtain ⟨its,rv,pl,hz⟩:=I.tuple hq;exact kT pl (eO rv) hk fun tk tk'=>⟨.int _,H,I.tok _,⟨_,rfl⟩,q⟩
noncomputable def A9:PyData->R Unit
  | .tuple _=>.ok ()
  | _=>.no
noncomputable def fX:PyData->PyData->R PyData
  | .tuple ds,.int k=>match bS ds with
    | some ns=>if k∈ns then .ok (.int (ns.idxOf k:Nat)) else .no
    | none=>.no
  | _,_=>.no
noncomputable def lN (fo fe:Fe):Fe:=fun ρ=>fo ρ>>=fun x=>A9 x>>=fun _=>fe ρ>>=fun y=>fX x y
theorem qA (ho:Z.cT X o fo) (he:Z.cE X e fe) (hb:attributeBase o "index" X.env (eval o X.env)=eval o X.env:=by rfl) (hst:aH e=true:=by rfl) (hline:(apos.endLine==cpos.line)=true:=by rfl):Z.cE X (.Call (.Attribute o "index" apos) [e] [] cpos) (lN fo fe):=⟨have ho:=ho.un;have he:=he.un;by
  have sc:starEach [e] X.env=(false,eval e X.env)::starEach [] X.env:=aS hst;refine PE.imp (Ao PySem.F.plainAttrs_tuple PySem.F.slot_tuple_index PySem.F.type_tuple_index vo ho (iR he mD hst) hb (by rw [sc];rfl) hline sc rfl) fun σ H Q h=>?_
  refine (cQ (P:=o7) (f:=fo) (k:=fun ρ x=>A9 x>>=fun _=>fe ρ>>=fun y=>fX x y) (dI (X:=X) dO Q) h).post fun v H1 ⟨ρ1,d1,sl1,_,p1,q1⟩=>?_
  cases d1 with
  | tuple ds =>
    obtain ⟨a,vs,rfl,h1,r1⟩:=cb p1;refine ⟨.inr (.inl ⟨rfl,.inr ⟨_,h1⟩⟩),?_⟩;have q1:ud X fU (ai fe aD ρ1>>=one (fX (.tuple ds))) H1 Q:=by
      have e0:(ai fe aD ρ1>>=one (fX (.tuple ds)))=(fe ρ1>>=fun y=>fX (.tuple ds) y):=by
        unfold ai aD;cases fe ρ1 <;> rfl
      rw [e0];exact q1
    refine (mh (I:=Rp) (f:=ai fe aD) (k:=fun _=>one (fX (.tuple ds))) (dI (X:=X) dO Q) ⟨ρ1,sl1,q1⟩).post fun us H2 ⟨_,ds2,_,s2,p2,q2⟩=>?_
    unfold one at q2;split at q2
    · rename_i d2;simp only [RA] at p2;obtain ⟨w,r',rfl,p2,rfl⟩:=p2;cases d2 with
      | int k =>
        have ew:w=.int k:=by simpa only [Rp] using p2
        subst ew;simp only [fX] at q2;cases ei:bS ds with
        | none=>rw [ei] at q2;exact q2.elim
        | some ns =>
          rw [ei] at q2;dsimp only at q2;split at q2
          · rename_i hz;have p3:=fT.mono p1 s2;rw [eu ei] at p3;obtain ⟨a',vs',ea,h3,r3⟩:=cb p3;cases ea;rw [gC r3] at h3;exact ⟨a,ns,k,rfl,rfl,.inl (.inl h3),hz,q2 _ H2 (ar.refl _) cY⟩
          · exact q2.elim
      | _=>exact q2.elim
    · exact q2.elim
  | _=>exact q1.elim⟩
end
theorem uF {P:Program} {w:World} {K:PySem.W.Frag} {mg:Str->Option Value} {base:Heap} {x qual:Str} {st:Stmt} {f:Addr} {fd:FuncData} {N ps:List Str} {k:Nat} {g:Fs} (F:gi K x qual st f fd) (S:aL N ps (ak st))
    (body:∀ (cdv:Value) (A:Around) (outer:List Env) (s:Shared) (H:Hp) (E:XK),fq k (A.deeper (envOfC qual (ak st) s.heap.objs.size f cdv)) ->
      Z.kz (eW (cM P w mg) P w K mg base N qual (ak st) f cdv A outer s H E) (cV st) g):aW P w K mg base (cM P w mg) (k+1) f fd ps (dt (dM N.length g) ps.length) :=
  D2.yT F S fun cdv A outer s H E hr=>(body cdv A outer s H E hr).un
theorem ax {P:Program} {w:World} {K:PySem.W.Frag} {mg:Str->Option Value} {base:Heap} {x qual:Str} {st:Stmt} {f:Addr} {fd:FuncData} {N ps:List Str} {k:Nat} {g:Fs} {G:List Str} (F:gi K x qual st f fd) (S:aL N ps (ak st)) (ck:tK (ak st) N G)
    (body:∀ (cdv:Value) (A:Around) (outer:List Env) (s:Shared) (H:Hp) (E:XK),fq k (A.deeper (envOfC qual (ak st) s.heap.objs.size f cdv))->Tb (eW (cM P w mg) P w K mg base N qual (ak st) f cdv A outer s H E) N.length G ->
      Z.kz (eW (cM P w mg) P w K mg base N qual (ak st) f cdv A outer s H E) (cV st) g):aW P w K mg base (cM P w mg) (k+1) f fd ps (dt (dM N.length g) ps.length) :=
  uF F S fun cdv A outer s H E hr=>body cdv A outer s H E hr (AY hr ck)
noncomputable def lU (K:PySem.W.Frag):Bool:=K.all fun p=>match p.2.cls with
  | .type n=>!(n == "list")
  | _=>true
theorem mR {α β:Type} [BEq α] {a:α} {o:β}:∀ {K:List (α×β)},K.lookup a=some o->∃ p∈K,p.2=o
  | [],e=>by cases e
  | (b,x)::r,e=>by
    rw [List.lookup_cons] at e;split at e
    · cases e;exact ⟨_,List.mem_cons_self,rfl⟩
    · obtain ⟨p,h1,h2⟩:=mR e;exact ⟨p,List.mem_cons_of_mem _ h1,h2⟩
theorem sR {K:PySem.W.Frag} (h:lU K=true) {a:Addr} {o:Obj} (e:K.lookup a=some o) (c:o.cls=.type "list"):False:=by
  obtain ⟨p,m,rfl⟩:=mR e;have q:=List.all_eq_true.mp h _ m;simp only [c] at q;simp at q
noncomputable def Aj (F:List PyData->R PyData):Prop:=∀ ns:List Int,ns.length<=63->F [.list (ns.map .int)]=.ok (.bool true)
theorem Er {l:PySem.W.OpenLaw} {q:Program} {loose:List Str} {XP:(Str->Option Value)->Heap->Prop} {YP:World->Heap->Prop} {d:DefRec} {K:Params->PySem.W.Frag} {k:Nat} {x:Str} {F:List PyData->R PyData} (hn:l.most=some 63) (hdf:d.params.defaults=[])
    (hr:fq k callerA) (hY:∀ (w:World) (h:Heap),YP w h->(K w.params).In h) (hF:Aj F)
    (G:∀ (w:World) (mg:Str->Option Value) (fa:Addr) (h:Heap),(K w.params).In h->h.Ns mainGlobals mg->mg d.name=some (.ref fa) ->
      lU (K w.params)=true/\∃ fd:FuncData,(∀ (s:Shared) (u:Value),BindsTo s fd ⟨[u],[]⟩ [(x,u)])/\∀ base:Heap,(K w.params).In base->base.Ns mainGlobals mg->aW l.prog w (K w.params) mg base (cM l.prog w mg) k fa fd [x] (dt F 1)) :
    PySem.W.WalkO q loose XP YP l.row.toRowW d [] (fun f vs=>PySem.call f vs):=by
  refine Att.attach_call hn hdf fun w s₀ s₁ mg mb fa o pm cd doc a vs ns G0 Y ho hd hcd hmg hobj hints hlen hg=>?_
  have KX:=hY w _ Y;obtain ⟨nl,fd,hb,hG⟩:=G w mg fa _ KX G0.T.g hmg;refine L2.wR (sp:=dt F 1) KX G0.T.g G0.T.b G0.T.builtins G0.T.nolimit hg hobj hints (Nat.le_trans hlen (by decide)) hr hG hb (fun H hO hS=>?_) fun H e s' ⟨_,_,_,_,_,z⟩=>z
  refine ⟨[.list (ns.map .int)],bF.cons ?_ bF.nil,rfl,?_⟩
  · rcases hS with (h | ⟨o,h⟩) | ⟨o,its,n,h,c,_⟩
    · rcases hO a with z | ⟨o,xs,z⟩
      · rw [z] at h;cases h
      · rw [z] at h;cases h
    · simp only [Rp];exact ⟨a,o,_,rfl,h,bF.ints ns⟩
    · exact (sR nl h c).elim
  · rw [hF ns hlen];intro v H' _ r;simpa only [Rp] using r
section
variable {K:PySem.W.Frag} {x qual:Str} {st:Stmt} {f:Addr} {fd:FuncData} {p1 p2 p3 p4 p5 p6 p7:Str}
theorem AK (F:gi K x qual st f fd) (h:∀ (kV doc pm:Value) (an:Option Addr) (cdv ct:Value) (a1:Value),bindArgs (PySem.W.fnOf x qual (eG st) (cV st) (ak st) .none kV doc pm an cdv ct) ⟨[a1],[]⟩=pure [(p1,a1)]):bH K fd [p1] []:=F.binds fun kV doc pm an cdv ct us hl=>match us,hl with | [a1],_=>h kV doc pm an cdv ct a1
theorem pF (F:gi K x qual st f fd) (h:∀ (kV doc pm:Value) (an:Option Addr) (cdv ct:Value) (a1 a2:Value),bindArgs (PySem.W.fnOf x qual (eG st) (cV st) (ak st) .none kV doc pm an cdv ct) ⟨[a1,a2],[]⟩=pure [(p1,a1),(p2,a2)]):bH K fd [p1,p2] []:=F.binds fun kV doc pm an cdv ct us hl=>match us,hl with | [a1,a2],_=>h kV doc pm an cdv ct a1 a2
theorem DA (F:gi K x qual st f fd) (h:∀ (kV doc pm:Value) (an:Option Addr) (cdv ct:Value) (a1 a2 a3:Value),bindArgs (PySem.W.fnOf x qual (eG st) (cV st) (ak st) .none kV doc pm an cdv ct) ⟨[a1,a2,a3],[]⟩=pure [(p1,a1),(p2,a2),(p3,a3)]):bH K fd [p1,p2,p3] []:=F.binds fun kV doc pm an cdv ct us hl=>match us,hl with | [a1,a2,a3],_=>h kV doc pm an cdv ct a1 a2 a3
end
@[simp] theorem R.ite_bind {α β:Type} {c:Prop} [Decidable c] (x y:R α) (k:α->R β):((if c then x else y)>>=k)=if c then x>>=k else y>>=k:=by
  by_cases h:c
  · rw [if_pos h,if_pos h]
  · rw [if_neg h,if_neg h]
@[simp] theorem cX {α:Type} (a:α):oF (R.ok a)=.ok a:=(rfl)
noncomputable def zK:qd->R PyData
  | .rt d=>.ok d
  | .nx _=>.ok .none
  | _=>.no
theorem cW (n:Nat) (g:Fs) (ds:List PyData):dM n g ds=(g (ds.map bi.val++List.replicate (n-ds.length) .non)>>=zK):=by
  unfold dM;congr 1
@[simp] theorem DF (d:PyData):zK (.rt d)=.ok d:=(rfl)
section
variable (f g h:Fe) (ρ:aE) (i j:Nat) (t u:aE->R Bool) (a b:Fs) (fs:aE->R (List PyData)) (F:List PyData->R PyData) (d e:PyData)
@[simp] theorem cB:eC d ρ=.ok d:=(rfl)
@[simp] theorem az:af 0 (.val d::ρ)=.ok d:=(rfl)
@[simp] theorem aK (c:bi):af (i+1) (c::ρ)=af i ρ:=(rfl)
@[simp] theorem lO:dD 0 (.val d::ρ)=.ok d:=(rfl)
@[simp] theorem kg:dD 0 (.own d::ρ)=.ok d:=(rfl)
@[simp] theorem fE (c:bi):dD (i+1) (c::ρ)=dD i ρ:=(rfl)
@[simp] theorem cG (k:PyData->R PyData):e1 k f ρ=(f ρ>>=fun x=>k x):=(rfl)
@[simp] theorem bL (k:PyData->PyData->R PyData):e2 k f g ρ=(f ρ>>=fun x=>g ρ>>=fun y=>k x y):=(rfl)
@[simp] theorem dW:tE f ρ=(f ρ>>=sr):=(rfl)
@[simp] theorem dC (k:Bool):sr (.bool k)=.ok k:=(rfl)
@[simp] theorem rH:xX t u ρ=(t ρ>>=fun k=>if k=true then u ρ else .ok false):=(rfl)
@[simp] theorem ie:ip t u ρ=(t ρ>>=fun k=>if k=true then .ok true else u ρ):=(rfl)
@[simp] theorem fS:dq t ρ=(t ρ>>=fun k=>.ok (!k)):=(rfl)
@[simp] theorem tS:jc f g ρ=(f ρ>>=fun d=>sr d>>=fun k=>if k=true then g ρ else .ok (.bool false)):=(rfl)
@[simp] theorem yN:mC f ρ=(f ρ>>=fun d=>sr d>>=fun k=>.ok (.bool (!k))):=(rfl)
@[simp] theorem aY:aD ρ=.ok []:=(rfl)
@[simp] theorem aM:ai f fs ρ=(f ρ>>=fun d=>fs ρ>>=fun ds=>.ok (d::ds)):=(rfl)
@[simp] theorem bo:aI F fs ρ=(fs ρ>>=F):=(rfl)
@[simp] theorem B8 (p q:PyData->PyData->R PyData):g6 p q f g h ρ=(f ρ>>=fun x=>g ρ>>=fun y=>p x y>>=fun d=>sr d>>=fun k=>if k=true then h ρ>>=fun z=>q y z else .ok (.bool false)):=(rfl)
@[simp] theorem fZ:gp fs ρ=(fs ρ>>=fun ds=>if ds.length<=sizeLine then .ok (.tuple ds) else .no):=(rfl)
@[simp] theorem DC:qS fs ρ=(fs ρ>>=fun ds=>if ds.length<=sizeLine then .ok (.list ds) else .no):=(rfl)
@[simp] theorem xb:xa ρ=.ok none:=(rfl)
@[simp] theorem xf:xc f ρ=(f ρ>>=fun d=>Dz d>>=fun i=>.ok (some i)):=(rfl)
@[simp] theorem Cj (k:Int):Dz (.int k)=.ok k:=(rfl)
@[simp] theorem A2 (lo hi:Fo):D0 f lo hi ρ=(f ρ>>=fun d=>lo ρ>>=fun l=>hi ρ>>=fun u=>AV d l u):=(rfl)
@[simp] theorem rD:cD ρ=.ok (.nx ρ):=(rfl)
@[simp] theorem i6:aX a b ρ=(a ρ>>=uk b):=(rfl)
@[simp] theorem rJ:uk b (.nx ρ)=b ρ:=(rfl)
@[simp] theorem Dl:uk b (.rt d)=.ok (.rt d):=(rfl)
@[simp] theorem dG:jk t a b ρ=(t ρ>>=fun k=>if k=true then a ρ else b ρ):=(rfl)
@[simp] theorem dX:bZ f ρ=(f ρ>>=fun d=>.ok (.rt d)):=(rfl)
@[simp] theorem cZ:ci i f ρ=(f ρ>>=fun d=>.ok (.nx (ρ.set i (.val d)))):=(rfl)
@[simp] theorem DG:jf i f ρ=(f ρ>>=fun d=>.ok (.nx (ρ.set i (.own d)))):=(rfl)
@[simp] theorem cI:eM f ρ=(f ρ>>=jQ):=(rfl)
@[simp] theorem u4:iH fs ρ=(fs ρ>>=p0):=(rfl)
@[simp] theorem eS (ds:List PyData):jQ (.tuple ds)=.ok ds:=(rfl)
@[simp] theorem tf (ds:List PyData):jQ (.list ds)=.ok ds:=(rfl)
@[simp] theorem i4:lJ a ρ=oF (a ρ):=(rfl)
theorem gf (it:aE->R (List PyData)) (bb:PyData->aE->Option aE):nh it bb a ρ=(it ρ>>=fun ds=>fw bb a ds ρ):=rfl
@[simp] theorem fO (bb:PyData->aE->Option aE):fw bb a [] ρ=.ok (.nx ρ):=by unfold fw;rfl
noncomputable def rL (k:aE->R qd):qd->R qd
  | .nx ρ=>k ρ
  | .ct ρ=>k ρ
  | .bk ρ=>.ok (.nx ρ)
  | .rt r=>.ok (.rt r)
@[simp] theorem gF (k:aE->R qd):rL k (.nx ρ)=k ρ:=(rfl)
@[simp] theorem Dm (k:aE->R qd):rL k (.rt d)=.ok (.rt d):=(rfl)
theorem dN (i:Nat) (ds:List PyData):fw (aP i) a (d::ds) ρ=(a (ρ.set i (.val d))>>=rL (fw (aP i) a ds)):=by
  rw [fw];show (a (ρ.set i (.val d))>>=_)=_;congr 1
theorem uW (i j:Nat) (x y:PyData) (ds:List PyData):fw (nT i j) a (.tuple [x,y]::ds) ρ=(a ((ρ.set i (.val x)).set j (.val y))>>=rL (fw (nT i j) a ds)):=by
  rw [fw];show (a ((ρ.set i (.val x)).set j (.val y))>>=_)=_;congr 1
theorem ba {a b:Fs} {ρ ρ':aE} (h:a ρ=.ok (.nx ρ')):aX a b ρ=b ρ':=by rw [i6,h];rfl
theorem BH {a b:Fs} {ρ:aE} {d:PyData} (h:a ρ=.ok (.rt d)):aX a b ρ=.ok (.rt d):=by rw [i6,h];rfl
theorem fN {n:Nat} {g:Fs} {ds:List PyData} {d:PyData} (h:g (ds.map bi.val++List.replicate (n-ds.length) .non)=.ok (.rt d)):dM n g ds=.ok d:=by rw [cW,h];rfl
theorem eN (bb:PyData->aE->Option aE):cC bb t f ρ []=.ok []:=by unfold cC;rfl
theorem ej (i:Nat) (ds:List PyData):cC (aP i) t f ρ (d::ds)=(t (ρ.set i (.val d))>>=fun k=>if k=true then f (ρ.set i (.val d))>>=fun x=>cC (aP i) t f ρ ds>>=fun xs=>.ok (x::xs) else cC (aP i) t f ρ ds):=by
  rw [cC];rfl
theorem wz:tT f g h ρ=(f ρ>>=fun x=>nI x>>=fun _=>g ρ>>=fun y=>h ρ>>=fun z=>j8 x y z):=(rfl)
theorem A8 {kvs:List (PyData×PyData)} (hi:gc kvs=false):nI (.dict kvs)=.ok ():=by
  show (if gc kvs=true then R.no else R.ok ())=_;rw [hi];rfl
theorem yI (kvs:List (PyData×PyData)) (n:Int):j8 (.dict kvs) (.int n) d=.ok ((eY kvs (.int n)).getD d):=(rfl)
@[simp] theorem yW:yV f g ρ=(f ρ>>=fun x=>g ρ>>=fun y=>jQ x>>=fun xs=>jQ y>>=fun ys=>.ok (nO xs ys)):=(rfl)
theorem vB {ρ:aE} {i:Nat} {ds:List PyData} (f:Fe) (h:ρ[i]?=some (.own (.list ds))) (hz:ds.length < sizeLine):iZ i f ρ=(oF (f ρ)>>=fun d=>.ok (.nx (ρ.set i (.own (.list (ds++[d])))))):=by
  unfold iZ;congr 1;funext d;rw [h];exact if_pos hz
noncomputable def Cw:R (List PyData)->R PyData
  | .ok xs=>.ok (.list xs)
  | .ex c=>.ex c
  | .no=>.no
@[simp] theorem lS (xs:List PyData):Cw (.ok xs)=.ok (.list xs):=(rfl)
theorem ca (it:aE->R (List PyData)) (own:Nat) (fr:List Nat) (bb:PyData->aE->Option aE):bR it own fr bb t f ρ=(oF (it ρ)>>=fun ds=>if ds.length<=sizeLine then Cw (cC bb t f (aq own fr ρ) ds) else .no):=by
  unfold bR;congr 1
theorem n5 (i:Nat) (G:PyData->PyData):∀ (ds:List PyData),(∀ d∈ds,f (ρ.set i (.val d))=.ok (G d))->cC (aP i) (fun _=>.ok true) f ρ ds=.ok (ds.map G)
  | [],_=>eN ..
  | d::ds,hh=>by
    rw [ej,hh d List.mem_cons_self,n5 i G ds fun x hx=>hh x (List.mem_cons_of_mem _ hx)];rfl
theorem j6 (i:Nat) (p:PyData->Bool) (G:PyData->PyData):∀ (ds:List PyData),(∀ d∈ds,t (ρ.set i (.val d))=.ok (p d))->(∀ d∈ds,p d=true->f (ρ.set i (.val d))=.ok (G d))->cC (aP i) t f ρ ds=.ok ((ds.filter p).map G)
  | [],_,_=>eN ..
  | d::ds,hh,hg=>by
    rw [ej,hh d List.mem_cons_self,j6 i p G ds (fun x hx=>hh x (List.mem_cons_of_mem _ hx)) fun x hx=>hg x (List.mem_cons_of_mem _ hx)];cases hp:p d with
    | true=>rw [List.filter_cons_of_pos hp,R.ok_bind,if_pos rfl,hg d List.mem_cons_self hp];rfl
    | false=>rw [List.filter_cons_of_neg (by rw [hp];simp)];rfl
end
section
variable (i j:Int) (xs ys:List PyData)
@[simp] theorem AU:mo (.int i)=.ok (.int (-i)):=(rfl)
@[simp] theorem jy:cw (.int i) (.int j)=.ok (.int (i+j)):=(rfl)
@[simp] theorem wo:cw (.tuple xs) (.tuple ys)=if xs.length+ys.length<=sizeLine then .ok (.tuple (xs++ys)) else .no:=(rfl)
@[simp] theorem wv:ke (.int i) (.int j)=.ok (.int (i-j)):=(rfl)
@[simp] theorem wt:eL (.int i) (.int j)=if 0 < j then .ok (.int (i%j)) else .no:=(rfl)
@[simp] theorem DV:nG (.int i) (.int j)=if 0 < j/\j < 1073741824 then .ok (.int (i / j)) else .no:=(rfl)
theorem AT:fD (.int i) (.int j)=if (-(2 ^ 64) < i/\i < 2 ^ 64)\/(-(2 ^ 64) < j/\j < 2 ^ 64) then .ok (.int (i*j)) else .no:=rfl
@[simp] theorem sy (p:Int->Int->Bool):fM p (.int i) (.int j)=.ok (.bool (p i j)):=(rfl)
@[simp] theorem DY:AS (.int i) (.int j)=.ok (.int (if j < i then j else i)):=(rfl)
@[simp] theorem DX:AR (.int i) (.int j)=.ok (.int (if j > i then j else i)):=(rfl)
@[simp] theorem AQ:dn (.tuple xs)=.ok (.int xs.length):=(rfl)
@[simp] theorem DW:dn (.list xs)=.ok (.int xs.length):=(rfl)
@[simp] theorem iF:cR (.list xs)=.ok (.tuple xs):=(rfl)
@[simp] theorem DB:wq (.tuple xs)=.ok (.list xs):=(rfl)
@[simp] theorem AO (k:Bool):j9 (.bool k)=.ok (.int (if k then 1 else 0)):=(rfl)
@[simp] theorem Cm (lo hi:Option Int):AV (.list xs) lo hi=.ok (.list (nF xs lo hi)):=(rfl)
@[simp] theorem wu:yK (.tuple xs)=.ok (.tuple xs.reverse):=(rfl)
theorem pE {α:Type} {xs:List α} {i:Int} (h0:0<=i) (h1:i < xs.length):L2.atI xs i=some (xs[i.toNat]'(by omega)):=by
  unfold L2.atI Ai;rw [if_pos h0,if_pos h1];exact List.getElem?_eq_getElem (by omega)
theorem Ae {xs:List PyData} {i:Int} (h0:0<=i) (h1:i < xs.length):br (.tuple xs) (.int i)=.ok (xs[i.toNat]'(by omega)):=by
  show (match L2.atI xs i with | some d=>R.ok d | none=>.no)=_;rw [pE h0 h1]
theorem Ad {xs:List PyData} {i:Int} (h0:0<=i) (h1:i < xs.length):br (.list xs) (.int i)=.ok (xs[i.toNat]'(by omega)):=by
  show (match L2.atI xs i with | some d=>R.ok d | none=>.no)=_;rw [pE h0 h1]
theorem pM:PyData.eqv (.int i) (.int j)=decide (i=j):=by
  simp only [PyData.eqv];by_cases h:i=j
  · subst h;simp
  · simp [h]
theorem n6:lM (.int i) (.int j)=.ok (.bool (decide (i=j))):=by
  unfold lM;rw [if_pos (by rfl),pM]
theorem kb:gY (.int i) (.int j)=.ok (.bool (!decide (i=j))):=by
  unfold gY;rw [if_pos (by rfl),pM]
end
end D2
namespace G
open PySem PySem.Spec PyProof.Rows L2 D2
noncomputable def D6:PyData->Bool
  | .int _=>true
  | _=>false
noncomputable def noD:PyData->Prop
  | .dict _=>False
  | _=>True
noncomputable def nz (d:PyData) (lo hi:Int):Bool:=match d with
  | .int i=>decide (lo<=i)&&decide (i<=hi)
  | _=>false
noncomputable def dU (c:Int):Int->List PyData->Bool
  | _,[]=>true
  | l,d::r=>match d with
    | .int i=>(decide (l<=i)&&decide (i < c))&&dU c (i+1) r
    | _=>false
@[simp] noncomputable def xS (c:Int):PyData->Bool
  | .tuple ds=>dU c 0 ds
  | _=>false
noncomputable abbrev dJ (d:PyData):Prop:=d.canLay0=true
theorem dJ.noD {d:PyData} (h:dJ d):noD d:=by
  cases d <;> first | trivial | (simp [dJ,PyData.canLay0] at h)
theorem pO:∀ {ds:List PyData},PyData.canLayAll0 ds=true->∀ x∈ds,dJ x
  | [],_,x,hx=>by cases hx
  | d::ds,h,x,hx=>by
    have h':d.canLay0=true/\PyData.canLayAll0 ds=true:=by simpa [PyData.canLayAll0] using h
    rcases List.mem_cons.mp hx with rfl | hx
    · exact h'.1
    · exact pO h'.2 x hx
theorem jY:∀ {ds:List PyData},(∀ x∈ds,dJ x)->PyData.canLayAll0 ds=true
  | [],_=>by simp [PyData.canLayAll0]
  | d::ds,h=>by
    have h1:=h d List.mem_cons_self;have h2:=jY fun x hx=>h x (List.mem_cons_of_mem _ hx)
    simp only [PyData.canLayAll0,Bool.and_eq_true];exact ⟨h1,h2⟩
theorem eo {ds:List PyData}:dJ (.tuple ds)<->∀ x∈ds,dJ x:=by
  constructor
  · intro h;exact pO (by simpa [dJ,PyData.canLay0] using h)
  · intro h;simp only [dJ,PyData.canLay0];exact jY h
theorem uY {ds:List PyData}:dJ (.list ds)<->∀ x∈ds,dJ x:=by
  constructor
  · intro h;exact pO (by simpa [dJ,PyData.canLay0] using h)
  · intro h;simp only [dJ,PyData.canLay0];exact jY h
theorem iG (i:Int):dJ (.int i):=by simp [dJ,PyData.canLay0]
theorem uZ:dJ .none:=by simp [dJ,PyData.canLay0]
noncomputable def jD (c:Int):PyData->Bool
  | .tuple ds=>dU c 0 ds&&!ds.isEmpty
  | _=>false
noncomputable def eI (c:Int):PyData->Bool
  | .tuple [w,m,g,s]=>nz w 0 1&&(nz m 0 12&&(nz g (-20) 20&&jD c s))
  | _=>false
noncomputable def iT:PyData->Bool
  | .tuple ds=>(decide (1<=ds.length)&&decide (ds.length<=24))&&ds.all (eI ds.length)
  | _=>false
theorem cc {n:Nat} (h:n<=1000):n<=sizeLine:=Nat.le_trans h (by decide)
theorem wA {xs:List PyData} (hg:∀ x∈xs,dJ x):lM (.list xs) (.list [])=.ok (.bool xs.isEmpty):=by
  unfold lM;have ho:jA (.list xs) (.list [])=true:=by
    unfold jA;have h1:(PyData.list xs).canLay0=true:=uY.mpr hg;rw [h1];simp [PyData.canLay0,PyData.canLayAll0,PyData.depth,PyData.depthAll]
  rw [if_pos ho];cases xs <;> simp [PyData.eqv,PyData.eqvAll]
theorem k7 {α:Type} (p:α->Bool):∀ xs:List α,(xs.filter fun x=>!p x).isEmpty=xs.all p
  | []=>rfl
  | x::xs=>by
    cases hp:p x with
    | true=>rw [List.filter_cons_of_neg (by rw [hp];simp),List.all_cons,hp,k7 p xs];rfl
    | false=>rw [List.filter_cons_of_pos (by rw [hp];rfl),List.all_cons,hp];rfl
noncomputable abbrev lK (ns:List Int):PyData:=.list (ns.map .int)
theorem gX {i j:Int} (h:(-(2 ^ 64) < i/\i < 2 ^ 64)\/(-(2 ^ 64) < j/\j < 2 ^ 64)):fD (.int i) (.int j)=.ok (.int (i*j)):=by rw [AT,if_pos h]
structure rX (c:Int) (n:Nat) (kvs:List (PyData×PyData)):Prop where
  ex:∃ ns:List Int,kvs.map (·.1)=ns.map PyData.int/\(∀ x∈ns,0<=x/\x < c)/\ns.length<=n/\(n=0\/ns≠[])/\ns.Nodup
theorem mL (i j:Int):eX (.int i) (.int j)=decide (i=j):=rfl
theorem rX.put {c:Int} {n:Nat} {kvs:List (PyData×PyData)} (h:rX c n kvs) {k:Int} (h0:0<=k) (h1:k < c) (v:PyData):rX c (n+1) (lI kvs (.int k) v):=by
  obtain ⟨ns,e,hb,hl,hn,nd⟩:=h.ex;have hany:(kvs.any fun kv=>eX kv.1 (.int k))=ns.any fun i=>decide (i=k):=by
    have:(kvs.any fun kv=>eX kv.1 (.int k))=(kvs.map (·.1)).any fun d=>eX d (.int k):=by rw [List.any_map];rfl
    rw [this,e,List.any_map];rfl
  unfold lI;rw [hany];by_cases hm:k∈ns
  · have ha:(ns.any fun i=>decide (i=k))=true:=by simp;exact hm
    rw [if_pos ha];refine ⟨ns,?_,hb,by omega,.inr (by intro z;rw [z] at hm;cases hm),nd⟩;rw [<- e,List.map_map];apply List.map_congr_left;intro kv _;show (if eX kv.1 (.int k)=true then (kv.1,v) else kv).1=kv.1;split <;> rfl
  · have ha:¬ (ns.any fun i=>decide (i=k))=true:=by simp;exact hm
    rw [if_neg ha];refine ⟨ns++[k],by rw [List.map_append,List.map_append,e];rfl,fun x hx=>?_,by simp;omega,.inr (by simp),?_⟩
    · rcases List.mem_append.mp hx with z | z
      · exact hb x z
      · simp at z;subst z;exact ⟨h0,h1⟩
    · rw [List.nodup_append];refine ⟨nd,by simp,fun a hma b hb'=>?_⟩;simp at hb';subst hb';rintro rfl;exact hm hma
theorem rX.len {c:Int} {n:Nat} {kvs:List (PyData×PyData)} (h:rX c n kvs):kvs.length<=n:=by
  obtain ⟨ns,e,_,hl,_⟩:=h.ex;have:=congrArg List.length e;simp at this;omega
theorem rn (lo:Int) (n:Nat):∀ d∈ce lo n,∃ k,d=.int k:=fun d hd=>by
  unfold ce at hd;obtain ⟨k,_,rfl⟩:=List.mem_map.mp hd;exact ⟨_,rfl⟩
theorem eQ (lo:Int) (n:Nat):(ce lo n).length=n:=by unfold ce;simp
theorem yJ {xs:List PyData} {i:Int} (h0:0<=i) (h1:i < xs.length):∃ x∈xs,br (.list xs) (.int i)=.ok x:=⟨_,List.getElem_mem _,Ad h0 h1⟩
theorem w5 {x:PyData} (hg:dJ x):gY x (.tuple [])=.ok (.bool (match x with | .tuple []=>false | _=>true)):=by
  unfold gY;have ho:jA x (.tuple [])=true:=by
    unfold jA;have h1:x.canLay0=true:=hg;rw [h1];simp [PyData.canLay0,PyData.canLayAll0,PyData.depth,PyData.depthAll];omega
  rw [if_pos ho];cases x with
  | tuple ds=>cases ds <;> simp [PyData.eqv,PyData.eqvAll]
  | dict k=>exact hg.noD.elim
  | _=>simp [PyData.eqv]
structure P4 where
  w:Int
  m:Int
  g:Int
  ns:List Int
noncomputable def P4.d (p:P4):PyData:=.tuple [.int p.w,.int p.m,.int p.g,.tuple (p.ns.map .int)]
structure Pl (c hi:Int) (p:P4):Prop where
  w0:0<=p.w
  w1:p.w<=1
  m0:0<=p.m
  m1:p.m<=hi
  g0:-20<=p.g
  g1:p.g<=20
  ne:p.ns≠[]
  so:p.ns.Pairwise (· < ·)
  inn:∀ x∈p.ns,0<=x/\x < c
theorem jM:∀ (ns:List Int) (l c:Int),ns.Pairwise (· < ·)->(∀ x∈ns,l<=x/\x < c)->ns=[]\/l+(ns.length:Int)<=c
  | [],_,_,_,_=>.inl rfl
  | x::r,l,c,hp,hb=>by
    right;obtain ⟨h1,h2⟩:=List.pairwise_cons.mp hp;have hx:=hb x List.mem_cons_self;rcases jM r (x+1) c h2 (fun y hy=>⟨by have:=h1 y hy;omega,(hb y (List.mem_cons_of_mem _ hy)).2⟩) with rfl | z
    · simp;omega
    · rw [List.length_cons];omega
theorem Pl.len {c hi:Int} {p:P4} (h:Pl c hi p):(p.ns.length:Int)<=c:=by
  rcases jM p.ns 0 c h.so h.inn with z | z
  · exact absurd z h.ne
  · omega
noncomputable abbrev gD (ps:List P4):PyData:=.tuple (ps.map P4.d)
theorem oR {ns:List Int} (h:ns.Pairwise (·<=·)) (nd:ns.Nodup):ns.Pairwise (· < ·):=by
  have:=h.and nd;exact this.imp fun ⟨a,b⟩=>by omega
theorem lX (c:Int):∀ (ns:List Int) (l:Int),ns.Pairwise (· < ·)->(∀ x∈ns,l<=x/\x < c)->dU c l (ns.map .int)=true
  | [],_,_,_=>rfl
  | x::r,l,hp,hb=>by
    obtain ⟨h1,h2⟩:=List.pairwise_cons.mp hp;have hx:=hb x List.mem_cons_self;simp only [List.map_cons,dU,Bool.and_eq_true,decide_eq_true_eq];exact ⟨⟨hx.1,hx.2⟩,lX c r (x+1) h2 fun y hy=>⟨by have:=h1 y hy;omega,(hb y (List.mem_cons_of_mem _ hy)).2⟩⟩
end G
noncomputable section
namespace G
open PySem PySem.Spec PyProof.Rows L2 D2
noncomputable def gR:Fs :=
  (bZ (gp (ai (e2 br (af 0) (eC (.int 0))) (ai (e2 br (af 0) (eC (.int 1))) (ai (e2 br (af 0) (eC (.int 2))) (ai (e1 cR (af 1)) aD))))))
noncomputable def aG:List PyData->R PyData:=dM 2 (gR)
noncomputable def lZ (aG:List PyData->R PyData):Fs :=
  (aX (ci 2 (e1 dn (af 0))) (aX (jk (tE (e2 (fM yh) (e2 cw (af 2) (e1 dn (af 1))) (eC (.int 24)))) (kR (PySem.Str.ofString "NoRoom") (eC (.str (PySem.Str.ofString "these are more places than a ground has")))) cD) (bZ (e2 cw (af 0) (e1 cR (bR (eM (af 1)) 1 [2] (aP 0) (fun _=>.ok true) (aI aG (ai (af 0) (ai (bR (eM (e2 br (af 0) (eC (.int 3)))) 1 [1] (aP 0) (fun _=>.ok true) (e2 cw (af 0) (af 1))) aD)))))))))
noncomputable def cz:List PyData->R PyData:=dM 3 (lZ aG)
noncomputable def gL (cz:List PyData->R PyData):Fs :=
  (kr cz (ai (af 0) (ai (af 1) aD)) ((PySem.Str.ofString "NoRoom",(fun p ρ=>(e2 jh (eC (.str (PySem.Str.ofString "room"))) (e1 j9 (jc (lE 2 p) (mC (ig 2 p))))) (ρ.set 2 (.exc p))))::[]))
noncomputable def cm:List PyData->R PyData:=dM 3 (gL cz)
noncomputable def jt:Fs :=
  (bZ (bR (eM (af 0)) 1 [] (aP 0) (fun _=>.ok true) (e2 br (af 0) (eC (.int 1)))))
noncomputable def bI:List PyData->R PyData:=dM 1 (jt)
noncomputable def ir (bI:List PyData->R PyData):Fs :=
  (aX (jk (tE (e2 (sA false) (eC (.int 12)) (aI bI (ai (af 0) aD)))) (kR (PySem.Str.ofString "NoMark") (eC (.str (PySem.Str.ofString "no mark is 1 more than the greatest one")))) cD) (bZ (e1 cR (bR (eM (af 0)) 1 [] (aP 0) (fun _=>.ok true) (gp (ai (e2 ke (eC (.int 1)) (e2 br (af 0) (eC (.int 0)))) (ai (e2 cw (e2 br (af 0) (eC (.int 1))) (eC (.int 1))) (ai (e1 mo (e2 br (af 0) (eC (.int 2)))) (ai (e2 br (af 0) (eC (.int 3))) aD)))))))))
noncomputable def bf:List PyData->R PyData:=dM 1 (ir bI)
noncomputable def e9 (bf:List PyData->R PyData):Fs :=
  (kr bf (ai (af 0) aD) ((PySem.Str.ofString "NoMark",(fun p ρ=>(e2 jh (eC (.str (PySem.Str.ofString "mark"))) (e1 j9 (jc (lE 1 p) (mC (ig 1 p))))) (ρ.set 1 (.exc p))))::[]))
noncomputable def bC:List PyData->R PyData:=dM 2 (e9 bf)
noncomputable def gk:Fs :=
  (aX (jk (tE (e2 (fM yj) (af 1) (e1 dn (af 0)))) (bZ (e2 br (af 0) (af 1))) cD) (bZ (eC (.int 0))))
noncomputable def bX:List PyData->R PyData:=dM 2 (gk)
noncomputable def ix (bX:List PyData->R PyData):Fs :=
  (aX (ci 2 (e2 eL (e2 fD (e2 cw (e2 cw (aI bX (ai (af 0) (ai (af 1) aD))) (e2 fD (eC (.int 7919)) (af 1))) (eC (.int 1))) (eC (.int 48271))) (eC (.int 2147483647)))) (bZ (e2 eL (e2 cw (e2 cw (e2 fD (af 2) (af 2)) (e2 fD (eC (.int 7)) (af 2))) (af 1)) (eC (.int 2147483629)))))
noncomputable def aQ:List PyData->R PyData:=dM 3 (ix bX)
noncomputable def iu:Fs :=
  (aX (ci 2 (e2 eL (e2 fD (e2 cw (e2 cw (af 0) (e2 fD (eC (.int 104729)) (af 1))) (eC (.int 17))) (eC (.int 69621))) (eC (.int 2147483647)))) (bZ (e2 eL (e2 cw (e2 cw (e2 fD (af 2) (af 2)) (e2 fD (eC (.int 3)) (af 2))) (af 1)) (eC (.int 2147483629)))))
noncomputable def aA:List PyData->R PyData:=dM 3 (iu)
noncomputable def iw (aA:List PyData->R PyData):Fs :=
  (aX (jf 2 (eC (.dict []))) (aX (lJ (nh (iH (ai (e2 cw (e2 cw (eC (.int 1)) (e2 eL (af 0) (eC (.int 3)))) (e2 fD (eC (.int 20)) (e1 j9 (e2 (lM) (e2 eL (e2 nG (af 0) (eC (.int 3))) (eC (.int 29))) (eC (.int 7)))))) aD)) (aP 3) (nK 2 (e2 eL (aI aA (ai (af 0) (ai (af 3) aD))) (af 1)) (eC (.bool true))))) (bZ (e1 cR (e1 gZ (dD 2))))))
noncomputable def cF:List PyData->R PyData:=dM 4 (iw aA)
noncomputable def iy (aA:List PyData->R PyData) (cF:List PyData->R PyData):Fs :=
  (aX (ci 3 (e2 ke (e2 eL (e2 nG (af 0) (eC (.int 26))) (eC (.int 9))) (eC (.int 4)))) (aX (jk (tE (e2 (lM) (e2 eL (e2 nG (af 0) (eC (.int 234))) (eC (.int 11))) (eC (.int 3)))) (ci 3 (e2 ke (e2 eL (e2 nG (af 0) (eC (.int 26))) (eC (.int 41))) (eC (.int 20)))) cD) (bZ (gp (ai (e2 eL (af 0) (eC (.int 2))) (ai (e2 eL (e2 nG (af 0) (eC (.int 2))) (e2 cw (af 2) (eC (.int 1)))) (ai (af 3) (ai (aI cF (ai (aI aA (ai (af 0) (ai (eC (.int 9)) aD))) (ai (af 1) aD))) aD))))))))
noncomputable def cr:List PyData->R PyData:=dM 4 (iy aA cF)
noncomputable def gM (aQ:List PyData->R PyData) (cr:List PyData->R PyData):Fs :=
  (aX (ci 2 (aI aQ (ai (af 0) (ai (eC (.int 0)) aD)))) (aX (ci 3 (e2 cw (eC (.int 1)) (e2 eL (af 2) (e2 AS (af 1) (e2 AR (eC (.int 4)) (e1 dn (af 0))))))) (aX (ci 4 (e2 br (qS (ai (eC (.int 1)) (ai (eC (.int 2)) (ai (eC (.int 3)) (ai (eC (.int 5)) (ai (eC (.int 12)) (ai (eC (.int 12)) aD))))))) (e2 eL (e2 nG (af 2) (eC (.int 24))) (eC (.int 6))))) (bZ (e1 cR (bR (iH (ai (af 3) aD)) 1 [0,3,4] (aP 0) (fun _=>.ok true) (aI cr (ai (aI aQ (ai (af 1) (ai (e2 cw (eC (.int 3)) (af 0)) aD))) (ai (af 2) (ai (af 3) aD))))))))))
noncomputable def bY:List PyData->R PyData:=dM 5 (gM aQ cr)
noncomputable def gN:Fs :=
  (bZ (jc (e1 (cL .int) (af 0)) (jc (mC (e1 (cL .bool) (af 0))) (g6 (fM DE) (fM DE) (af 1) (af 0) (af 2)))))
noncomputable def bN:List PyData->R PyData:=dM 3 (gN)
noncomputable def gP:Fs :=
  (aX (jk (dq (tE (e1 (cL .tuple) (af 0)))) (bZ (eC (.bool false))) cD) (aX (ci 2 (e1 mo (eC (.int 1)))) (aX (lJ (nh (eM (af 0)) (aP 3) (aX (jk (ip (dq (tE (e1 (cL .int) (af 3)))) (ip (tE (e1 (cL .bool) (af 3))) (dq (tE (g6 (fM yj) (fM yj) (af 2) (af 3) (af 1)))))) (bZ (eC (.bool false))) cD) (ci 2 (af 3))))) (bZ (eC (.bool true))))))
noncomputable def cn:List PyData->R PyData:=dM 4 (gP)
noncomputable def fK (bN:List PyData->R PyData) (cn:List PyData->R PyData):Fs :=
  (aX (jk (ip (dq (tE (e1 (cL .tuple) (af 0)))) (ip (tE (e2 (gY) (e1 dn (af 0)) (eC (.int 4)))) (dq (tE (aI bN (ai (e2 br (af 0) (eC (.int 0))) (ai (eC (.int 0)) (ai (eC (.int 1)) aD)))))))) (bZ (eC (.bool false))) cD) (aX (jk (ip (dq (tE (aI bN (ai (e2 br (af 0) (eC (.int 1))) (ai (eC (.int 0)) (ai (eC (.int 12)) aD)))))) (dq (tE (aI bN (ai (e2 br (af 0) (eC (.int 2))) (ai (e1 mo (eC (.int 20))) (ai (eC (.int 20)) aD))))))) (bZ (eC (.bool false))) cD) (bZ (jc (aI cn (ai (e2 br (af 0) (eC (.int 3))) (ai (af 1) aD))) (e2 (gY) (e2 br (af 0) (eC (.int 3))) (gp aD))))))
noncomputable def bw:List PyData->R PyData:=dM 2 (fK bN cn)
noncomputable def fg (bw:List PyData->R PyData):Fs :=
  (aX (jk (ip (dq (tE (e1 (cL .tuple) (af 0)))) (dq (tE (g6 (fM yj) (fM yj) (eC (.int 0)) (e1 dn (af 0)) (eC (.int 25)))))) (bZ (eC (.bool false))) cD) (bZ (e2 (lM) (bR (eM (af 0)) 1 [0] (aP 0) (dq (tE (aI bw (ai (af 0) (ai (e1 dn (af 1)) aD))))) (af 0)) (qS aD))))
noncomputable def aB:List PyData->R PyData:=dM 1 (fg bw)
noncomputable def l4:Fs :=
  (bZ (jc (e1 (cL .int) (af 0)) (mC (e1 (cL .bool) (af 0)))))
noncomputable def dw:List PyData->R PyData:=dM 1 (l4)
noncomputable def gK (dw:List PyData->R PyData):Fs :=
  (bZ (jc (aI dw (ai (af 0) aD)) (g6 (fM DE) (fM DE) (af 1) (af 0) (af 2))))
noncomputable def bW:List PyData->R PyData:=dM 3 (gK dw)
noncomputable def jq (bW:List PyData->R PyData):Fs :=
  (aX (jk (dq (tE (e1 (cL .tuple) (af 0)))) (bZ (eC (.bool false))) cD) (aX (ci 2 (eC (.int 0))) (aX (lJ (nh (eM (af 0)) (aP 3) (aX (jk (dq (tE (aI bW (ai (af 3) (ai (af 2) (ai (e2 ke (af 1) (eC (.int 1))) aD)))))) (bZ (eC (.bool false))) cD) (ci 2 (e2 cw (af 3) (eC (.int 1))))))) (bZ (eC (.bool true))))))
noncomputable def cK:List PyData->R PyData:=dM 4 (jq bW)
noncomputable def l3:Fs :=
  (bZ (e1 cR (bR (eM (af 0)) 1 [1] (aP 0) (tE (e2 (sA false) (af 0) (af 1))) (af 0))))
noncomputable def cf:List PyData->R PyData:=dM 2 (l3)
noncomputable def gJ (cf:List PyData->R PyData):Fs :=
  (bZ (bR (eM (aI cf (ai (e2 br (af 0) (eC (.int 3))) (ai (af 1) aD)))) 1 [1] (aP 0) (fun _=>.ok true) (lN (af 1) (af 0))))
noncomputable def bM:List PyData->R PyData:=dM 2 (gJ cf)
noncomputable def e8 (cf:List PyData->R PyData):Fs :=
  (bZ (e1 yH (bR (eM (af 1)) 1 [0,1] (aP 0) (fun _=>.ok true) (e2 (fM yh) (e1 dn (aI cf (ai (e2 br (e2 br (af 1) (af 0)) (eC (.int 3))) (ai (af 2) aD)))) (eC (.int 0))))))
noncomputable def bA:List PyData->R PyData:=dM 2 (e8 cf)
noncomputable def kA (cK:List PyData->R PyData) (bM:List PyData->R PyData) (bA:List PyData->R PyData) (aG:List PyData->R PyData):Fs :=
  (aX (jk (ip (dq (tE (aI cK (ai (af 1) (ai (e1 dn (af 0)) aD))))) (tE (e2 (lM) (e1 dn (af 1)) (eC (.int 0))))) (kR (PySem.Str.ofString "NoPart") (eC (.str (PySem.Str.ofString "inside is not some places, one at least")))) cD) (aX (jk (dq (tE (aI bA (ai (af 0) (ai (af 1) aD))))) (kR (PySem.Str.ofString "NoPart") (eC (.str (PySem.Str.ofString "inside is not whole")))) cD) (bZ (e1 cR (bR (eM (af 1)) 1 [0,1] (aP 0) (fun _=>.ok true) (aI aG (ai (e2 br (af 1) (af 0)) (ai (aI bM (ai (e2 br (af 1) (af 0)) (ai (af 2) aD))) aD))))))))
noncomputable def cP:List PyData->R PyData:=dM 2 (kA cK bM bA aG)
noncomputable def gO (cP:List PyData->R PyData):Fs :=
  (kr cP (ai (af 0) (ai (af 1) aD)) ((PySem.Str.ofString "NoPart",(fun p ρ=>(e2 jh (eC (.str (PySem.Str.ofString "part"))) (e1 j9 (jc (lE 2 p) (mC (ig 2 p))))) (ρ.set 2 (.exc p))))::[]))
noncomputable def aT:List PyData->R PyData:=dM 3 (gO cP)
noncomputable def ee:Fs :=
  (aX (jk (ip (dq (tE (e1 (cL .tuple) (af 1)))) (tE (e2 (gY) (e1 dn (af 1)) (e1 dn (af 0))))) (bZ (eC (.bool false))) cD) (aX (jf 2 (eC (.dict []))) (aX (lJ (nh (yV (af 0) (af 1)) (nT 3 4) (aX (jk (ip (tE (e2 (gY) (af 4) (gp (ai (e2 br (af 3) (eC (.int 0))) (ai (e2 br (af 4) (eC (.int 1))) (ai (e2 br (af 3) (eC (.int 2))) (ai (e2 br (af 3) (eC (.int 3))) aD))))))) (tE (e1 (cL .bool) (e2 br (af 4) (eC (.int 1)))))) (bZ (eC (.bool false))) cD) (aX (jk (tE (e2 (gY) (tT (dD 2) (e2 br (af 3) (eC (.int 1))) (e2 br (af 4) (eC (.int 1)))) (e2 br (af 4) (eC (.int 1))))) (bZ (eC (.bool false))) cD) (nK 2 (e2 br (af 3) (eC (.int 1))) (e2 br (af 4) (eC (.int 1)))))))) (aX (ci 5 (e1 mo (eC (.int 1)))) (aX (lJ (nh (eM (e1 gZ (dD 2))) (aP 6) (aX (jk (tE (e2 (gY) (e2 br (dD 2) (af 6)) (e2 cw (e2 cw (af 5) (eC (.int 1))) (e1 j9 (e2 (gY) (e2 eL (e2 cw (af 5) (eC (.int 1))) (eC (.int 2))) (e2 eL (af 6) (eC (.int 2)))))))) (bZ (eC (.bool false))) cD) (ci 5 (e2 br (dD 2) (af 6)))))) (bZ (eC (.bool true))))))))
noncomputable def aU:List PyData->R PyData:=dM 7 (ee)
noncomputable def jr (aA:List PyData->R PyData):Fs :=
  (aX (ci 2 (e2 eL (af 0) (eC (.int 5)))) (bZ (e1 cR (bR (iH (ai (af 1) aD)) 1 [2,0] (aP 0) (ip (tE (e2 (lM) (af 1) (eC (.int 4)))) (tE (e2 (fM yj) (e2 eL (aI aA (ai (af 2) (ai (af 0) aD))) (eC (.int 4))) (af 1)))) (af 0)))))
noncomputable def cU:List PyData->R PyData:=dM 3 (jr aA)
noncomputable def gQ:Fs :=
  (bZ (bR (eM (e2 br (e2 br (af 0) (af 1)) (eC (.int 3)))) 1 [2] (aP 0) (tE (e2 (sA false) (af 0) (af 1))) (af 0)))
noncomputable def bO:List PyData->R PyData:=dM 3 (gQ)
noncomputable def eh (bO:List PyData->R PyData):Fs :=
  (aX (ci 2 (e1 wq (af 1))) (aX (ci 3 (eC (.bool true))) (aX (lJ (xO 1000000 (tE (af 3)) (aX (ci 4 (bR (eM (af 2)) 1 [0,2] (aP 0) (tE (e2 (gY) (aI bO (ai (af 1) (ai (af 0) (ai (af 2) aD)))) (qS aD))) (af 0))) (aX (ci 3 (e2 (gY) (af 4) (af 2))) (ci 2 (af 4)))))) (bZ (e1 cR (af 2))))))
noncomputable def aV:List PyData->R PyData:=dM 5 (eh bO)
noncomputable def fj:Fs :=
  (aX (jf 1 (eC (.dict []))) (aX (ci 2 (eC (.int 0))) (aX (lJ (nh (eM (e1 B7 (af 0))) (aP 3) (aX (nK 1 (af 3) (e2 cw (af 2) (e2 eL (e2 ke (af 3) (af 2)) (eC (.int 2))))) (ci 2 (e2 cw (e2 br (dD 1) (af 3)) (eC (.int 1))))))) (xN 1))))
noncomputable def bD:List PyData->R PyData:=dM 4 (fj)
noncomputable def kB (bI:List PyData->R PyData) (bD:List PyData->R PyData):Fs :=
  (aX (ci 1 (aI bD (ai (aI bI (ai (af 0) aD)) aD))) (bZ (e1 cR (bR (eM (af 0)) 1 [1] (aP 0) (fun _=>.ok true) (gp (ai (e2 br (af 0) (eC (.int 0))) (ai (e2 br (af 1) (e2 br (af 0) (eC (.int 1)))) (ai (e2 br (af 0) (eC (.int 2))) (ai (e2 br (af 0) (eC (.int 3))) aD)))))))))
noncomputable def di:List PyData->R PyData:=dM 2 (kB bI bD)
noncomputable def vU (cm:List PyData->R PyData) (bC:List PyData->R PyData) (bY:List PyData->R PyData) (aB:List PyData->R PyData) (aQ:List PyData->R PyData) (aT:List PyData->R PyData) (aU:List PyData->R PyData) (cU:List PyData->R PyData) (aV:List PyData->R PyData) (cz:List PyData->R PyData) (bf:List PyData->R PyData) (di:List PyData->R PyData):Fs :=
  (aX (ci 1 (aI bY (ai (af 0) (ai (eC (.int 24)) aD)))) (aX (ci 2 (aI bY (ai (D0 (af 0) (xc (eC (.int 1))) xa) (ai (eC (.int 24)) aD)))) (aX (ci 3 (e1 cR (bR (eM (af 1)) 1 [] (aP 0) (fun _=>.ok true) (gp (ai (e2 ke (eC (.int 1)) (e2 br (af 0) (eC (.int 0)))) (ai (e2 cw (e2 br (af 0) (eC (.int 1))) (eC (.int 1))) (ai (e1 mo (e2 br (af 0) (eC (.int 2)))) (ai (e2 br (af 0) (eC (.int 3))) aD)))))))) (aX (jk (tE (e2 (lM) (e1 tQ (bR (eM (af 1)) 1 [] (aP 0) (fun _=>.ok true) (e2 br (af 0) (eC (.int 1))))) (eC (.int 12)))) (ci 3 (eC (.str (PySem.Str.ofString "mark")))) (jk (dq (tE (aI aB (ai (aI bf (ai (af 1) aD)) aD)))) (bZ (eC (.bool false))) cD)) (aX (jk (ip (tE (e2 (gY) (aI bC (ai (af 1) aD)) (dD 3))) (dq (tE (aI aU (ai (af 1) (ai (aI di (ai (af 1) aD)) aD)))))) (bZ (eC (.bool false))) cD) (aX (ci 3 (af 1)) (aX (lJ (nh (eM (af 2)) (aP 4) (aX (ci 5 (e1 cR (bR (eM (e2 br (af 4) (eC (.int 3)))) 1 [1] (aP 0) (fun _=>.ok true) (e2 cw (af 0) (e1 dn (af 1)))))) (ci 3 (e2 cw (dD 3) (gp (ai (gp (ai (e2 br (af 4) (eC (.int 0))) (ai (e2 br (af 4) (eC (.int 1))) (ai (e2 br (af 4) (eC (.int 2))) (ai (af 5) aD))))) aD))))))) (aX (jk (tE (e2 (fM yh) (e1 dn (dD 3)) (eC (.int 24)))) (ci 3 (eC (.str (PySem.Str.ofString "room")))) (jk (dq (tE (aI aB (ai (aI cz (ai (af 1) (ai (af 2) aD))) aD)))) (bZ (eC (.bool false))) cD)) (aX (jk (tE (e2 (gY) (aI cm (ai (af 1) (ai (af 2) aD))) (dD 3))) (bZ (eC (.bool false))) cD) (aX (ci 6 (aI cU (ai (aI aQ (ai (af 0) (ai (eC (.int 1)) aD))) (ai (e1 dn (af 1)) aD)))) (aX (ci 7 (aI aV (ai (af 1) (ai (af 6) aD)))) (aX (jk (ip (xX (tE (e2 (gY) (af 7) (af 6))) (tE (e2 (gY) (aI aT (ai (af 1) (ai (af 6) aD))) (eC (.str (PySem.Str.ofString "part")))))) (tE (e2 (gY) (aI aT (ai (af 1) (ai (e2 ka (e1 yK (af 6)) (eC (.int 2))) aD))) (eC (.str (PySem.Str.ofString "part")))))) (bZ (eC (.bool false))) cD) (aX (jk (tE (e2 (lM) (af 7) (gp aD))) (bZ (e2 (lM) (aI aT (ai (af 1) (ai (gp aD) aD))) (eC (.str (PySem.Str.ofString "part"))))) cD) (aX (jf 3 (qS aD)) (aX (lJ (nh (eM (af 7)) (aP 4) (aX (ci 8 (bR (iH (ai (e1 dn (af 7)) aD)) 1 [7,1,4] (aP 0) (tE (e2 (sA false) (e2 br (af 1) (af 0)) (e2 br (e2 br (af 2) (af 3)) (eC (.int 3))))) (af 0))) (iZ 3 (gp (ai (e2 br (e2 br (af 1) (af 4)) (eC (.int 0))) (ai (e2 br (e2 br (af 1) (af 4)) (eC (.int 1))) (ai (e2 br (e2 br (af 1) (af 4)) (eC (.int 2))) (ai (e1 cR (af 8)) aD))))))))) (aX (ci 9 (aI aT (ai (af 1) (ai (af 7) aD)))) (bZ (jc (e2 (lM) (af 9) (e1 cR (dD 3))) (jc (aI aB (ai (af 9) aD)) (aI aB (ai (aI di (ai (af 1) aD)) aD)))))))))))))))))))))
noncomputable def qo:List PyData->R PyData:=dM 10 (vU cm bC bY aB aQ aT aU cU aV cz bf di)
end G
end
namespace G
open PySem PySem.Spec PyProof.Rows L2 D2
theorem yE (ns:List Int) {k:Int} (hk:0<=k):∃ v,bX [lK ns,.int k]=.ok (.int v):=by
  unfold bX gk;by_cases h:k < ns.length
  · refine ⟨ns[k.toNat]'(by omega),?_⟩;have hx:=Ad (xs:=ns.map PyData.int) (i:=k) hk (by simpa using h);rw [cW];simp [h,hx]
  · refine ⟨0,?_⟩;rw [cW];simp [h]
theorem mS (ns:List Int) {k:Int} (hk:0<=k):∃ v,aQ [lK ns,.int k]=.ok (.int v)/\0<=v/\v < 2147483629:=by
  obtain ⟨c,hc⟩:=yE ns hk;unfold aQ ix;have m1:fD (.int 7919) (.int k)=.ok (.int (7919*k)):=gX (.inl (by omega));have m2:fD (.int (c+7919*k+1)) (.int 48271)=.ok (.int ((c+7919*k+1)*48271)):=gX (.inr (by omega));generalize hd:(c+7919*k+1)*48271%2147483647=d;have hd0:0<=d:=by omega
  have hd1:d < 2147483647:=by omega
  have m3:fD (.int d) (.int d)=.ok (.int (d*d)):=gX (.inl (by omega));have m4:fD (.int 7) (.int d)=.ok (.int (7*d)):=gX (.inl (by omega));refine ⟨(d*d+7*d+k)%2147483629,?_,by omega,by omega⟩;rw [cW];simp [hc,m1,m2,hd,m3,m4,List.replicate]
theorem mw (n k:Int):∃ v,aA [.int n,.int k]=.ok (.int v)/\0<=v/\v < 2147483629:=by
  unfold aA iu;have m1:fD (.int 104729) (.int k)=.ok (.int (104729*k)):=gX (.inl (by omega));have m2:fD (.int (n+104729*k+17)) (.int 69621)=.ok (.int ((n+104729*k+17)*69621)):=gX (.inr (by omega));generalize hd:(n+104729*k+17)*69621%2147483647=d;have hd0:0<=d:=by omega
  have hd1:d < 2147483647:=by omega
  have m3:fD (.int d) (.int d)=.ok (.int (d*d)):=gX (.inl (by omega));have m4:fD (.int 3) (.int d)=.ok (.int (3*d)):=gX (.inl (by omega));refine ⟨(d*d+3*d+k)%2147483629,?_,by omega,by omega⟩;rw [cW];simp [m1,m2,hd,m3,m4,List.replicate]
theorem mJ (n c:Int) (hc:1<=c):∀ (ds:List PyData) (m:Nat) (kvs:List (PyData×PyData)) (x:bi),rX c m kvs->(∀ d∈ds,∃ k,d=.int k)->m+ds.length<=1000 ->
    ∃ kvs' x',rX c (m+ds.length) kvs'/\fw (aP 3) (nK 2 (e2 eL (aI aA (ai (af 0) (ai (af 3) aD))) (af 1)) (eC (.bool true))) ds [.val (.int n),.val (.int c),.own (.dict kvs),x]
      = .ok (.nx [.val (.int n),.val (.int c),.own (.dict kvs'),x'])
  | [],m,kvs,x,hk,_,_=>⟨kvs,x,hk,by rw [fO]⟩
  | d::ds,m,kvs,x,hk,hi,hl=>by
    obtain ⟨k,rfl⟩:=hi d List.mem_cons_self;obtain ⟨v,hv,v0,v1⟩:=mw n k;have hk':=hk.put (k:=v%c) (Int.emod_nonneg _ (by omega)) (Int.emod_lt_of_pos _ (by omega)) (.bool true);obtain ⟨kvs',x',h1,h2⟩:=mJ n c hc ds (m+1) _ (.val (.int k)) hk' (fun d hd=>hi d (List.mem_cons_of_mem _ hd)) (by simp at hl;omega);refine ⟨kvs',x',by rw [List.length_cons];simpa [Nat.add_comm,Nat.add_left_comm,Nat.add_assoc] using h1,?_⟩;have hlen:=hk.len;have hsz:kvs.length < sizeLine:=Nat.lt_of_le_of_lt (show kvs.length<=1000 by simp at hl;omega) (by decide);have hc':0 < c:=by omega
    rw [dN,<- h2];simp [nK,hv,hc',dE,hsz]
theorem vg {n c:Int} (hn:0<=n) (hc:1<=c):∃ ns:List Int,cF [.int n,.int c]=.ok (.tuple (ns.map .int))/\(∀ x∈ns,0<=x/\x < c)/\ns≠[]/\ns.Pairwise (· < ·):=by
  unfold cF iw;have m1:∀ k:Int,fD (.int 20) (.int k)=.ok (.int (20*k)):=fun k=>gX (.inl (by omega))
  generalize hN:(1+n%3+20*(if n / 3%29=7 then 1 else 0):Int)=N;have hN0:1<=N:=by split at hN <;> omega
  have hN1:N<=23:=by split at hN <;> omega
  obtain ⟨kvs,x,hk,hf⟩:=mJ n c hc (ce 0 N.toNat) 0 [] .non ⟨[],rfl,by simp,by simp,.inl rfl,by simp⟩ (rn _ _) (by rw [eQ];omega);obtain ⟨ns,e,hb,hl,hz,nd⟩:=hk.ex;rw [eQ] at hl hz;have hi:bS (kvs.map (·.1))=some ns:=by rw [e,bK]
  have hs:gZ (.dict kvs)=.ok (.list ((dh ns).map PyData.int)):=by
    show (match bS (kvs.map (·.1)) with | some ns=>if ns.length < 64 then R.ok (PyData.list ((dh ns).map PyData.int)) else .no | none=>.no)=_;rw [hi];exact if_pos (by omega)
  have hr:-(2 ^ 62)<=N/\N < 2 ^ 62:=by omega
  refine ⟨dh ns,?_,fun x hx=>hb x ((dH ns).mem_iff.mp hx),?_,oR (fJ ns) ((dH ns).nodup_iff.mpr nd)⟩
  · rw [cW];have hg:p0 [.int N]=.ok (ce 0 N.toNat):=by
      show (if -(2 ^ 62)<=N/\N < 2 ^ 62 then R.ok (ce 0 N.toNat) else .no)=_;rw [if_pos hr]
    simp [gf,n6,m1,List.replicate,hN,hg,hf,hs]
  · intro z;have:=(dH ns).length_eq;rw [z] at this;rcases hz with q | q
    · omega
    · exact q (List.eq_nil_of_length_eq_zero this.symm)
theorem vk {n c h:Int} (hn:0<=n) (hc:1<=c) (h0:0<=h):∃ p:P4,cr [.int n,.int c,.int h]=.ok p.d/\Pl c h p:=by
  obtain ⟨v,hv,v0,v1⟩:=mw n 9;obtain ⟨ns,hg,hb,hne,hso⟩:=vg (n:=v) (c:=c) v0 hc;unfold cr iy;have hh:0 < h+1:=by omega
  have s4:4<=sizeLine:=by decide
  have a1:=Int.emod_nonneg (n / 2) (show h+1≠0 by omega);have a2:=Int.emod_lt_of_pos (n / 2) hh;by_cases hq:n / 234%11=3
  · refine ⟨⟨n%2,n / 2%(h+1),n / 26%41-20,ns⟩,?_,⟨by dsimp only;omega,by dsimp only;omega,a1,by dsimp only;omega,by dsimp only;omega,by dsimp only;omega,hne,hso,hb⟩⟩;rw [cW];simp [hh,n6,hq,hv,hg,s4,P4.d]
  · refine ⟨⟨n%2,n / 2%(h+1),n / 26%9-4,ns⟩,?_,⟨by dsimp only;omega,by dsimp only;omega,a1,by dsimp only;omega,by dsimp only;omega,by dsimp only;omega,hne,hso,hb⟩⟩;rw [cW];simp [hh,n6,hq,hv,hg,s4,P4.d]
theorem qO (f:Fe) (ρ:aE) (i:Nat) (P:P4->Prop):∀ ds:List PyData,(∀ d∈ds,∃ p:P4,f (ρ.set i (.val d))=.ok p.d/\P p)->∃ ps:List P4,cC (aP i) (fun _=>.ok true) f ρ ds=.ok (ps.map P4.d)/\ps.length=ds.length/\∀ p∈ps,P p
  | [],_=>⟨[],eN ..,rfl,by simp⟩
  | d::ds,h=>by
    obtain ⟨x,h1,h2⟩:=h d List.mem_cons_self;obtain ⟨xs,h3,h4,h5⟩:=qO f ρ i P ds fun d hd=>h d (List.mem_cons_of_mem _ hd)
    refine ⟨x::xs,?_,by simp [h4],fun y hy=>?_⟩
    · rw [ej,h1,h3];rfl
    · rcases List.mem_cons.mp hy with rfl | hy
      · exact h2
      · exact h5 y hy
theorem mP (ns:List Int) {most:Int} (hm0:1<=most) (hm1:most<=24):∃ (ps:List P4) (hi:Int),bY [lK ns,.int most]=.ok (gD ps)/\(∀ p∈ps,Pl ps.length hi p)/\1<=ps.length/\(ps.length:Int)<=most/\0<=hi/\hi<=12:=by
  obtain ⟨v,hv,v0,v1⟩:=mS ns (k:=0) (by omega);unfold bY gM;generalize hm:(if (if (ns.length:Int) > 4 then (ns.length:Int) else 4) < most then (if (ns.length:Int) > 4 then (ns.length:Int) else 4) else most)=m;have m0:0 < m:=by split at hm <;> split at hm <;> omega
  have m1:m<=most:=by split at hm <;> split at hm <;> omega
  generalize hc:1+v%m=c;have c0:1<=c:=by have:=Int.emod_nonneg v (show m≠0 by omega);omega
  have c1:c<=most:=by have:=Int.emod_lt_of_pos v m0;omega
  have hix:∃ h,br (.list [.int 1,.int 2,.int 3,.int 5,.int 12,.int 12]) (.int (v / 24%6))=.ok (.int h)/\0<=h/\h<=12:=by
    obtain ⟨x,hx,e⟩:=yJ (xs:=[.int 1,.int 2,.int 3,.int 5,.int 12,.int 12]) (i:=v / 24%6) (by omega) (by simp;omega);rw [e];simp at hx;rcases hx with rfl | rfl | rfl | rfl | rfl <;> exact ⟨_,rfl,by decide,by decide⟩
  obtain ⟨h,hh,h0,h1⟩:=hix;have s6:6<=sizeLine:=by decide
  have hr:p0 [.int c]=.ok (ce 0 c.toNat):=by
    show (if -(2 ^ 62)<=c/\c < 2 ^ 62 then R.ok (ce 0 c.toNat) else .no)=_;rw [if_pos (by omega)]
  obtain ⟨xs,e1,e2,e3⟩:=qO (aI cr (ai (aI aQ (ai (af 1) (ai (e2 cw (eC (.int 3)) (af 0)) aD))) (ai (af 2) (ai (af 3) aD)))) (aq 1 [0,3,4] [.val (lK ns),.val (.int most),.val (.int v),.val (.int c),.val (.int h)]) 0 (Pl c h) (ce 0 c.toNat) fun d hd=>by
    unfold ce at hd;obtain ⟨k,_,rfl⟩:=List.mem_map.mp hd;obtain ⟨w,hw,w0,w1⟩:=mS ns (k:=3+(0+(k:Int))) (by omega);obtain ⟨d,hd1,hd2⟩:=vk (n:=w) (c:=c) (h:=h) w0 c0 h0;refine ⟨d,?_,hd2⟩;simp at hw;simp [aq,List.replicate,hw,hd1]
  rw [eQ] at e2;have ec:(xs.length:Int)=c:=by omega
  refine ⟨xs,h,?_,by rw [ec];exact e3,by omega,by omega,h0,h1⟩;rw [cW];simp [hv,hm,m0,hc,s6,hh,List.replicate,ca,hr,eQ,cc (show c.toNat<=1000 by omega),e1]
noncomputable def ez (ns:List Int) (i:Int):Bool:=ns.any fun j=>decide (j=i)
theorem dg {ns:List Int} {i:Int}:ez ns i=true<->i∈ns:=by
  unfold ez;rw [List.any_eq_true];constructor
  · rintro ⟨j,hj,e⟩;have:=of_decide_eq_true e;exact this ▸ hj
  · exact fun h=>⟨i,h,decide_eq_true rfl⟩
theorem fY:∀ ns:List Int,PyData.depthAll (ns.map .int)=0
  | []=>by simp [PyData.depthAll]
  | n::ns=>by simp [PyData.depthAll,PyData.depth,fY ns]
theorem jE (ns:List Int):PyData.canLayAll0 (ns.map .int)=true:=jY fun x hx=>by
  obtain ⟨i,_,rfl⟩:=List.mem_map.mp hx;exact iG i
theorem om (ns:List Int) (i:Int):pQ (ns.map .int) (.int i)=true:=by
  unfold pQ;rw [jE,fY];simp [PyData.canLay0]
theorem qI (ns:List Int) (i:Int):((ns.map PyData.int).any fun y=>PyData.eqv y (.int i))=ez ns i:=by
  rw [List.any_map];congr 1
theorem A6 (ns:List Int) (i:Int) (neg:Bool):sA neg (.int i) (.tuple (ns.map .int))=.ok (.bool (if neg then !ez ns i else ez ns i)):=by
  show (if pQ (ns.map .int) (.int i)=true then R.ok (PyData.bool _) else .no)=_;rw [if_pos (om ns i),qI]
theorem A5 (ns:List Int) (i:Int) (neg:Bool):sA neg (.int i) (.list (ns.map .int))=.ok (.bool (if neg then !ez ns i else ez ns i)):=by
  show (if pQ (ns.map .int) (.int i)=true then R.ok (PyData.bool _) else .no)=_;rw [if_pos (om ns i),qI]
theorem kh:∀ ns ms:List Int,PyData.eqvAll (ns.map .int) (ms.map .int)=decide (ns=ms)
  | [],[]=>by simp [PyData.eqvAll]
  | [],_::_=>by simp [PyData.eqvAll]
  | _::_,[]=>by simp [PyData.eqvAll]
  | n::ns,m::ms=>by
    simp only [List.map_cons,PyData.eqvAll,kh ns ms,pM];by_cases h:n=m <;> by_cases h2:ns=ms <;> simp [h,h2]
theorem yO (ns ms:List Int):jA (.list (ns.map .int)) (.list (ms.map .int))=true:=by
  unfold jA;simp [PyData.canLay0,jE,PyData.depth,fY]
theorem Al (ns ms:List Int):gY (.list (ns.map .int)) (.list (ms.map .int))=.ok (.bool (!decide (ns=ms))):=by
  unfold gY;rw [if_pos (yO ns ms)];simp only [PyData.eqv,kh]
theorem tV (ns ms:List Int):jA (.tuple (ns.map .int)) (.tuple (ms.map .int))=true:=by
  unfold jA;simp [PyData.canLay0,jE,PyData.depth,fY]
theorem Am (ns ms:List Int):gY (.tuple (ns.map .int)) (.tuple (ms.map .int))=.ok (.bool (!decide (ns=ms))):=by
  unfold gY;rw [if_pos (tV ns ms)];simp only [PyData.eqv,kh]
theorem eB {t:aE->R Bool} {ρ:aE} {p:Int->Bool}:∀ ns:List Int,(∀ x∈ns,t ((bi.non::ρ).set 0 (.val (.int x)))=.ok (p x))->cC (aP 0) t (af 0) (.non::ρ) (ns.map .int)=.ok ((ns.filter p).map .int)
  | [],_=>eN ..
  | x::ns,h=>by
    rw [List.map_cons,ej,h x List.mem_cons_self,eB ns fun y hy=>h y (List.mem_cons_of_mem _ hy)];cases hp:p x with
    | true=>rw [List.filter_cons_of_pos hp];rfl
    | false=>rw [List.filter_cons_of_neg (by rw [hp];simp)];rfl
theorem ng (c:Nat):ce 0 c=((List.range c).map fun (k:Nat)=>(k:Int)).map .int:=by
  unfold ce;rw [List.map_map];apply List.map_congr_left;intro k _;simp
noncomputable def bc (ps:List P4) (i:Int):List Int:=(ps[i.toNat]?.map (·.ns)).getD []
theorem wN {ps:List P4} {i:Int} (h0:0<=i) (h1:i < ps.length):br (gD ps) (.int i)=.ok (ps[i.toNat]'(by omega)).d:=by
  rw [Ae h0 (by simpa using h1)];simp
theorem mI {ps:List P4} {i:Int} (h0:0<=i) (h1:i < ps.length):bc ps i=(ps[i.toNat]'(by omega)).ns:=by
  unfold bc;rw [List.getElem?_eq_getElem (by omega)];rfl
theorem hJ (p:P4):br p.d (.int 3)=.ok (.tuple (p.ns.map .int)):=rfl
theorem kN (p:P4):br p.d (.int 0)=.ok (.int p.w):=rfl
theorem zP {n c:Int} (hc0:0<=c) (hc1:c<=24):∃ ns:List Int,cU [.int n,.int c]=.ok (.tuple (ns.map .int))/\ns.Pairwise (· < ·)/\∀ x∈ns,0<=x/\x < c:=by
  have hr:p0 [.int c]=.ok (ce 0 c.toNat):=by
    show (if -(2 ^ 62)<=c/\c < 2 ^ 62 then R.ok (ce 0 c.toNat) else .no)=_;rw [if_pos (by omega)]
  have hx:∀ k:Int,∃ v,aA [.int n,.int k]=.ok (.int v):=fun k=>let ⟨v,h,_⟩:=mw n k;⟨v,h⟩
  obtain ⟨dr,hdr⟩:∃ dr:Int->Int,∀ k,aA [.int n,.int k]=.ok (.int (dr k)):=⟨fun k=>(hx k).choose,fun k=>(hx k).choose_spec⟩
  have hcmp:=eB (t:=ip (tE (e2 (lM) (af 1) (eC (.int 4)))) (tE (e2 (fM yj) (e2 eL (aI aA (ai (af 2) (ai (af 0) aD))) (eC (.int 4))) (af 1)))) (ρ:=[.val (.int (n%5)),.val (.int n)])
    (p:=fun k=>decide (n%5=4)||decide (dr k%4 < n%5)) ((List.range c.toNat).map fun (k:Nat)=>(k:Int)) fun k hk=>by
      by_cases h4:n%5=4 <;> simp [n6,hdr,h4]
  rw [<- ng] at hcmp;refine ⟨((List.range c.toNat).map fun (k:Nat)=>(k:Int)).filter fun k=>decide (n%5=4)||decide (dr k%4 < n%5),?_,?_,?_⟩
  · unfold cU jr;rw [cW];have e:aq 1 [2,0] [.val (.int n),.val (.int c),.val (.int (n%5))]=[.non,.val (.int (n%5)),.val (.int n)]:=rfl;simp [List.replicate,ca,hr,eQ,cc (show c.toNat<=1000 by omega),e,hcmp]
  · refine List.Pairwise.filter _ ?_;rw [List.pairwise_map];exact (List.pairwise_lt_range).imp fun h=>by omega
  · intro x hx;have:=(List.mem_filter.mp hx).1;obtain ⟨k,hk,rfl⟩:=List.mem_map.mp this;have:=List.mem_range.mp hk;omega
theorem vN {ps:List P4} {i:Int} (h0:0<=i) (h1:i < ps.length) (hl:∀ p∈ps,p.ns.length<=100) {s:PyData} {js:List Int} (hs:s=.tuple (js.map .int)\/s=.list (js.map .int)):bO [gD ps,.int i,s]=.ok (.list (((bc ps i).filter (ez js)).map .int)):=by
  have hg:=mI h0 h1;have hlen:(bc ps i).length<=100:=by rw [hg];exact hl _ (List.getElem_mem _)
  have hin:∀ k:Int,sA false (.int k) s=.ok (.bool (ez js k)):=fun k=>by
    rcases hs with rfl | rfl
    · rw [A6];rfl
    · rw [A5];rfl
  have hcmp:=eB (t:=tE (e2 (sA false) (af 0) (af 1))) (ρ:=[.val s]) (p:=ez js) (bc ps i) fun k hk=>by simp [hin]
  unfold bO gQ;refine fN ?_;have e:aq 1 [2] [.val (gD ps),.val (.int i),.val s]=[.non,.val s]:=rfl;rw [show ([gD ps,.int i,s].map bi.val++List.replicate (3 - [gD ps,.int i,s].length) bi.non)=[.val (gD ps),.val (.int i),.val s] from rfl];rw [dX,ca,e];simp only [cI,bL,az,aK,cB,R.ok_bind,wN h0 h1,hJ,eS,cX];rw [<- hg,if_pos (by rw [List.length_map];exact cc (by omega)),hcmp];rfl
noncomputable def fQ (ps:List P4) (left:List Int):List Int:=left.filter fun i=>!decide ((bc ps i).filter (ez left)=[])
theorem lh (t:aE->R Bool) (g:Fs) (n:Nat) (ρ:aE):dP t g (n+1) ρ=(t ρ>>=fun b=>if b=true then g ρ>>=rL (dP t g n) else .ok (.nx ρ)):=by
  rw [dP];congr 1
noncomputable def ul:Fs:=(aX (ci 4 (bR (eM (af 2)) 1 [0,2] (aP 0) (tE (e2 (gY) (aI bO (ai (af 1) (ai (af 0) (ai (af 2) aD)))) (qS aD))) (af 0))) (aX (ci 3 (e2 (gY) (af 4) (af 2))) (ci 2 (af 4))))
theorem ya {ps:List P4} (hl:∀ p∈ps,p.ns.length<=100) {left:List Int} (hb:∀ x∈left,0<=x/\x < ps.length) (hlen:left.length<=100) (d:PyData) (x y:bi) :
    ul [.val (gD ps),.val d,.val (.list (left.map .int)),x,y]=.ok (.nx [.val (gD ps),.val d,.val (.list ((fQ ps left).map .int)),.val (.bool (!decide (fQ ps left=left))),.val (.list ((fQ ps left).map .int))]):=by
  have hcmp:=eB (t:=tE (e2 (gY) (aI bO (ai (af 1) (ai (af 0) (ai (af 2) aD)))) (qS aD))) (ρ:=[.val (gD ps),.val (.list (left.map .int))])
    (p:=fun i=>!decide ((bc ps i).filter (ez left)=[])) left fun k hk=>by
      have hw:=vN (hb k hk).1 (hb k hk).2 hl (s:=.list (left.map .int)) (js:=left) (.inr rfl);have hn:=Al ((bc ps k).filter (ez left)) [];simp only [List.map_nil] at hn;simp [hw,hn]
  unfold ul;rw [ba (ρ':=[.val (gD ps),.val d,.val (.list (left.map .int)),x,.val (.list ((fQ ps left).map .int))]) (by
    rw [cZ,ca];simp only [cI,aK,az,R.ok_bind,tf,cX];rw [if_pos (by rw [List.length_map];exact cc (by omega))];rw [show aq 1 [0,2] [.val (gD ps),.val d,.val (.list (left.map .int)),x,y]=[.non,.val (gD ps),.val (.list (left.map .int))] from rfl,hcmp];rfl)]
  rw [ba (ρ':=[.val (gD ps),.val d,.val (.list (left.map .int)),.val (.bool (!decide (fQ ps left=left))),.val (.list ((fQ ps left).map .int))]) (by
    simp only [cZ,bL,aK,az,R.ok_bind,Al];rfl)]
  rfl
theorem ny {ps:List P4} (hl:∀ p∈ps,p.ns.length<=100) (d:PyData):∀ (k n:Nat) (left:List Int) (y:bi),left.length<=k->k+2<=n->k<=100->(∀ x∈left,0<=x/\x < ps.length) ->
    ∃ (ks:List Int) (y':bi),(ks.Sublist left/\(fQ ps left=left->ks=left))/\fQ ps ks=ks/\dP (tE (af 3)) ul n [.val (gD ps),.val d,.val (.list (left.map .int)),.val (.bool true),y]=.ok (.nx [.val (gD ps),.val d,.val (.list (ks.map .int)),.val (.bool false),y'])
  | k,0,left,y,_,h2,_,_=>by omega
  | k,n+1,left,y,h1,h2,h3,hb=>by
    have hs:(fQ ps left).Sublist left:=List.filter_sublist;rw [lh];simp only [dW,aK,az,R.ok_bind,dC,if_true,ya hl hb (by omega),gF];by_cases he:fQ ps left=left
    · refine ⟨left,.val (.list ((fQ ps left).map .int)),⟨List.Sublist.refl _,fun _=>rfl⟩,he,?_⟩;rw [he];cases n with
      | zero=>omega
      | succ n=>rw [lh];simp
    · have hlt:(fQ ps left).length < left.length:=by
        refine Nat.lt_of_le_of_ne hs.length_le fun z=>he (hs.eq_of_length z)
      obtain ⟨ks,y',g1,g2,g3⟩:=ny hl d (k-1) n (fQ ps left) (.val (.list ((fQ ps left).map .int))) (by omega) (by omega) (by omega) fun x hx=>hb x (hs.subset hx)
      refine ⟨ks,y',⟨g1.1.trans hs,fun z=>(he z).elim⟩,g2,?_⟩;rw [decide_eq_false he];exact g3
theorem vL {ps:List P4} (hl:∀ p∈ps,p.ns.length<=100) {js:List Int} (hlen:js.length<=100) (hb:∀ x∈js,0<=x/\x < ps.length):∃ ks:List Int,aV [gD ps,.tuple (js.map .int)]=.ok (.tuple (ks.map .int))/\(ks.Sublist js/\(fQ ps js=js->ks=js))/\∀ i∈ks,∃ g∈bc ps i,g∈ks:=by
  obtain ⟨ks,y',g1,g2,g3⟩:=ny hl (.tuple (js.map .int)) js.length 1000000 js .non (Nat.le_refl _) (by omega) hlen hb;refine ⟨ks,?_,g1,fun i hi=>?_⟩
  · unfold aV eh;refine fN ?_;rw [show ([gD ps,.tuple (js.map .int)].map bi.val++List.replicate (5 - [gD ps,.tuple (js.map .int)].length) bi.non)=[.val (gD ps),.val (.tuple (js.map .int)),.non,.non,.non] from rfl];rw [ba (ρ':=[.val (gD ps),.val (.tuple (js.map .int)),.val (.list (js.map .int)),.non,.non]) (by simp)];rw [ba (ρ':=[.val (gD ps),.val (.tuple (js.map .int)),.val (.list (js.map .int)),.val (.bool true),.non]) (by simp)];rw [ba (ρ':=[.val (gD ps),.val (.tuple (js.map .int)),.val (.list (ks.map .int)),.val (.bool false),y']) (by
      rw [i4];show oF (dP (tE (af 3)) ul 1000000 _)=_;rw [g3];rfl)]
    simp
  · rw [<- g2] at hi;have:=(List.mem_filter.mp hi).2;simp only [Bool.not_eq_true',decide_eq_false_iff_not] at this;obtain ⟨g,hg⟩:=List.exists_mem_of_ne_nil _ this;obtain ⟨h1,h2⟩:=List.mem_filter.mp hg;exact ⟨g,h1,dg.mp h2⟩
noncomputable def lg (ps:List P4) (js:List Int) (i:Int):List Int:=(bc ps i).filter (ez js)
theorem oG:∀ {l m:List Int},l.Nodup->(∀ x∈l,x∈m)->l.length<=m.length
  | [],m,_,_=>Nat.zero_le _
  | x::l,m,nd,h=>by
    obtain ⟨n1,n2⟩:=List.nodup_cons.mp nd;have hx:=h x List.mem_cons_self;have:=oG (m:=m.erase x) n2 fun y hy=>(List.mem_erase_of_ne (by rintro rfl;exact n1 hy)).mpr (h y (List.mem_cons_of_mem _ hy))
    rw [List.length_erase_of_mem hx] at this;have hp:=List.length_pos_of_mem hx;rw [List.length_cons];omega
structure vT (js:List Int) (kvs:List (Int×Int)):Prop where
  nd:(kvs.map (·.1)).Nodup
  sub:∀ x∈kvs.map (·.1),x∈js
theorem vT.len {js:List Int} {kvs:List (Int×Int)} (h:vT js kvs) (nj:js.Nodup):kvs.length<=js.length:=by
  have:=oG h.nd h.sub;simpa using this
noncomputable def look (kvs:List (Int×Int)) (i:Int):Option Int:=(kvs.find? fun q=>decide (q.1=i)).map (·.2)
noncomputable abbrev Cv (n:Nat):List Int:=(List.range n).map fun (k:Nat)=>(k:Int)
theorem tZ {n:Nat} {i:Int}:i∈Cv n<->0<=i/\i < n:=by
  constructor
  · intro h;obtain ⟨k,hk,rfl⟩:=List.mem_map.mp h;have:=List.mem_range.mp hk;omega
  · rintro ⟨h0,h1⟩;exact List.mem_map.mpr ⟨i.toNat,List.mem_range.mpr (by omega),by omega⟩
theorem A4 (n:Nat):(Cv n).Pairwise (· < ·):=by
  rw [List.pairwise_map];exact (List.pairwise_lt_range).imp fun h=>by omega
theorem eZ {l:List Int} (h:l.Pairwise (· < ·)):l.Nodup:=h.imp fun h=>by omega
noncomputable def tab (f:Int->PyData) (n:Nat):List PyData:=(Cv n).map f
noncomputable def oD:Option Int->PyData
  | none=>.none
  | some k=>.int k
noncomputable def yx (s:PyData) (js:List Int):Prop:=s=.tuple (js.map .int)\/s=.list (js.map .int)
theorem yx.inn {s:PyData} {js:List Int} (h:yx s js) (neg:Bool) (k:Int):sA neg (.int k) s=.ok (.bool (if neg then !ez js k else ez js k)):=by
  rcases h with rfl | rfl
  · exact A6 ..
  · exact A5 ..
theorem yx.seq {s:PyData} {js:List Int} (h:yx s js):jQ s=.ok (js.map .int):=by
  rcases h with rfl | rfl <;> rfl
theorem yx.len {s:PyData} {js:List Int} (h:yx s js):dn s=.ok (.int js.length):=by
  rcases h with rfl | rfl <;> simp
structure kC (n:Nat) (js:List Int):Prop where
  lt:js.Pairwise (· < ·)
  inn:∀ x∈js,0<=x/\x < n
theorem kC.nd {n:Nat} {js:List Int} (h:kC n js):js.Nodup:=eZ h.lt
theorem kC.len {n:Nat} {js:List Int} (h:kC n js):js.length<=n:=by
  have:=jM js 0 n h.lt h.inn;rcases this with z | z
  · rw [z];simp
  · omega
theorem kC.filter {n:Nat} {js:List Int} (h:kC n js) (p:Int->Bool):kC n (js.filter p):=⟨h.lt.filter _,fun x hx=>h.inn x (List.mem_filter.mp hx).1⟩
noncomputable def Cg (ps:List P4) (js:List Int):Prop:=∀ i∈js,∃ g,g∈lg ps js i
noncomputable abbrev oT (f:Int->Option Int) (n:Nat):PyData:=.tuple (tab (fun i=>oD (f i)) n)
structure Gr (ps:List P4):Prop where
  hl:∀ p∈ps,p.ns.length<=100
  hgo:∀ p∈ps,∀ x∈p.ns,0<=x/\x < ps.length
  hp:ps.length<=24
  lt:∀ p∈ps,p.ns.Pairwise (· < ·)
  ne:∀ p∈ps,p.ns≠[]
theorem Gr.glt {ps:List P4} (G:Gr ps) (i:Int):(bc ps i).Pairwise (· < ·):=by
  unfold bc;cases e:ps[i.toNat]? with
  | none=>exact .nil
  | some p=>exact G.lt p (List.mem_of_getElem? e)
theorem gq (p:P4):br p.d (.int 1)=.ok (.int p.m):=rfl
theorem n4 {s t:PyData} {ns js:List Int} (hs:yx s ns) (ht:yx t js) (hl:ns.length<=1000):cf [s,t]=.ok (.tuple ((ns.filter (ez js)).map .int)):=by
  have hcmp:=eB (t:=tE (e2 (sA false) (af 0) (af 1))) (ρ:=[.val t]) (p:=ez js) ns fun k hk=>by simp [ht.inn]
  unfold cf l3;refine fN ?_;rw [show ([s,t].map bi.val++List.replicate (2 - [s,t].length) bi.non)=[.val s,.val t] from rfl];rw [dX,cG,ca,show aq 1 [1] [.val s,.val t]=[.non,.val t] from rfl];simp only [cI,az,R.ok_bind,hs.seq,cX];rw [if_pos (by rw [List.length_map];exact cc hl),hcmp];rfl
theorem rN {d:PyData} (h:noD d):dw [d]=.ok (.bool (D6 d)):=by
  cases d <;> first | rfl | cases h
theorem mf {d:PyData} (h:noD d) (lo hi:Int):bW [d,.int lo,.int hi]=.ok (.bool (nz d lo hi)):=by
  unfold bW gK;rw [cW];cases d with
  | int i =>
    by_cases h1:lo<=i <;> by_cases h2:i<=hi <;> simp [rN h,D6,h1,h2,nz]
  | dict k=>cases h
  | _=>simp [rN h,D6,nz]
theorem oP (t:PyData) (c:Int):∀ (ds:List PyData) (l:Int) (x:bi),(∀ d∈ds,noD d) ->
    ∃ ρ,fw (aP 3) (aX (jk (dq (tE (aI bW (ai (af 3) (ai (af 2) (ai (e2 ke (af 1) (eC (.int 1))) aD)))))) (bZ (eC (.bool false))) cD) (ci 2 (e2 cw (af 3) (eC (.int 1))))) ds
      [.val t,.val (.int c),.val (.int l),x]=if dU c l ds=true then .ok (.nx ρ) else .ok (.rt (.bool false))
  | [],l,x,_=>⟨_,by rw [fO];rfl⟩
  | d::ds,l,x,h=>by
    have hd:=h d List.mem_cons_self;cases hb:nz d l (c-1) with
    | false =>
      refine ⟨[],?_⟩;have hr:dU c l (d::ds)=false:=by
        cases d with
        | int i =>
          simp only [nz] at hb;simp only [dU];rcases (Bool.and_eq_false_iff.mp hb) with z | z
          · rw [z];rfl
          · have:decide (i < c)=false:=by simp at z ⊢;omega
            rw [this];simp
        | _=>rfl
      rw [dN,hr];simp [mf hd,hb]
    | true =>
      cases d with
      | int i =>
        simp only [nz,Bool.and_eq_true,decide_eq_true_eq] at hb;obtain ⟨ρ,e⟩:=oP t c ds (i+1) (.val (.int i)) fun d hd=>h d (List.mem_cons_of_mem _ hd)
        refine ⟨ρ,?_⟩;have hr:dU c l (.int i::ds)=dU c (i+1) ds:=by
          simp only [dU];rw [decide_eq_true hb.1,decide_eq_true (show i < c by omega)];simp
        have hb':nz (.int i) l (c-1)=true:=by simp [nz];omega
        rw [dN,hr,<- e];simp [mf hd,hb']
      | _=>cases hb
theorem kY {d:PyData} (c:Int) (h:∀ ds,d=.tuple ds->∀ x∈ds,noD x) (hd:noD d):cK [d,.int c]=.ok (.bool (xS c d)):=by
  unfold cK jq;rw [cW];cases d with
  | tuple ds =>
    obtain ⟨ρ,e⟩:=oP (.tuple ds) c ds 0 .non (h ds rfl);simp [cL,lQ,gf,List.replicate];rw [e];cases dU c 0 ds <;> simp
  | dict k=>cases hd
  | _=>simp [cL,lQ,List.replicate]
theorem kC.some {n:Nat} {js:List Int} (h:kC n js):cK [.tuple (js.map .int),.int n]=.ok (.bool true):=by
  rw [kY (d:=.tuple (js.map .int)) n (fun ds e x hx=>by
    cases e;obtain ⟨i,_,rfl⟩:=List.mem_map.mp hx;exact True.intro) True.intro]
  show R.ok (PyData.bool (dU n 0 (js.map .int)))=_;rw [lX n js 0 h.lt fun x hx=>h.inn x hx]
theorem qH {f:Fe} {ρ:aE} {p:Int->Bool}:∀ ns:List Int,(∀ x∈ns,f ((bi.non::ρ).set 0 (.val (.int x)))=.ok (.bool (p x)))->cC (aP 0) (fun _=>.ok true) f (.non::ρ) (ns.map .int)=.ok (ns.map fun i=>.bool (p i))
  | [],_=>eN ..
  | x::ns,h=>by
    rw [List.map_cons,ej,h x List.mem_cons_self,qH ns fun y hy=>h y (List.mem_cons_of_mem _ hy)];rfl
theorem nS (p:Int->Bool):∀ ns:List Int,D2.qF (ns.map fun i=>.bool (p i))=some (ns.all p)
  | []=>rfl
  | a::l=>by simp only [List.map_cons,D2.qF,nS p l,List.all_cons,Option.map_some]
theorem nN {ps:List P4} (hl:∀ p∈ps,p.ns.length<=100) {s:PyData} {js:List Int} (hs:yx s js) (hj:∀ x∈js,0<=x/\x < ps.length) (hlen:js.length<=1000) :
    bA [gD ps,s]=.ok (.bool (js.all fun i=>decide (0 < (lg ps js i).length))):=by
  have hcmp:=qH (f:=e2 (fM yh) (e1 dn (aI cf (ai (e2 br (e2 br (af 1) (af 0)) (eC (.int 3))) (ai (af 2) aD)))) (eC (.int 0))) (ρ:=[.val (gD ps),.val s]) (p:=fun i=>decide (0 < (lg ps js i).length)) js fun k hk=>by
    have h:=hj k hk;have hg:=mI h.1 h.2;have hc:=n4 (s:=.tuple ((bc ps k).map .int)) (ns:=bc ps k) (.inl rfl) hs (by rw [hg];have:=hl _ (List.getElem_mem (show k.toNat < ps.length by omega));omega);simp only [List.set_cons_zero,bL,cG,bo,aM,aY,az,aK,cB,R.ok_bind,wN h.1 h.2,hJ];rw [<- hg,hc,R.ok_bind,AQ,R.ok_bind,sy,List.length_map];unfold lg;congr 2;simp
  unfold bA e8;refine fN ?_;rw [show ([gD ps,s].map bi.val++List.replicate (2 - [gD ps,s].length) bi.non)=[.val (gD ps),.val s] from rfl];rw [dX,cG,ca,show aq 1 [0,1] [.val (gD ps),.val s]=[.non,.val (gD ps),.val s] from rfl];simp only [cI,az,aK,R.ok_bind,hs.seq,cX];rw [if_pos (by rw [List.length_map];exact cc hlen),hcmp,lS,R.ok_bind];unfold yH;simp only [nS];rfl
theorem vM {ps:List P4} {js:List Int} (h:Cg ps js):(js.all fun i=>decide (0 < (lg ps js i).length))=true:=by
  rw [List.all_eq_true];intro i hi;obtain ⟨g,hg⟩:=h i hi;exact decide_eq_true (List.length_pos_of_mem hg)
theorem oJ (t:PyData) (c:Int):∀ (ds:List PyData) (l:Int) (x:bi),(∀ d∈ds,noD d) ->
    ∃ ρ,fw (aP 3) (aX (jk (ip (dq (tE (e1 (cL .int) (af 3)))) (ip (tE (e1 (cL .bool) (af 3))) (dq (tE (g6 (fM yj) (fM yj) (af 2) (af 3) (af 1)))))) (bZ (eC (.bool false))) cD) (ci 2 (af 3))) ds
      [.val t,.val (.int c),.val (.int l),x]=if dU c (l+1) ds=true then .ok (.nx ρ) else .ok (.rt (.bool false))
  | [],l,x,_=>⟨_,by rw [fO];rfl⟩
  | d::ds,l,x,h=>by
    have hd:=h d List.mem_cons_self;cases d with
    | int i =>
      obtain ⟨ρ,e⟩:=oJ t c ds i (.val (.int i)) fun d hd=>h d (List.mem_cons_of_mem _ hd)
      refine ⟨ρ,?_⟩;rw [dN];by_cases h1:l < i
      · by_cases h2:i < c
        · have hr:dU c (l+1) (.int i::ds)=dU c (i+1) ds:=by
            simp only [dU];rw [decide_eq_true (show l+1<=i by omega),decide_eq_true h2];simp
          rw [hr,<- e];simp [cL,lQ,h1,h2]
        · have hr:dU c (l+1) (.int i::ds)=false:=by
            simp only [dU];rw [decide_eq_false h2];simp
          rw [hr];simp [cL,lQ,h1,h2]
      · have hr:dU c (l+1) (.int i::ds)=false:=by
          simp only [dU];rw [decide_eq_false (show ¬ l+1<=i by omega)];simp
        rw [hr];simp [cL,lQ,h1]
    | dict k=>exact hd.elim
    | _=>exact ⟨[],by rw [dN];simp [cL,lQ,dU]⟩
theorem vA {d:PyData} (c:Int) (hg:dJ d):cn [d,.int c]=.ok (.bool (xS c d)):=by
  unfold cn gP;rw [cW];cases d with
  | tuple ds =>
    obtain ⟨ρ,e⟩:=oJ (.tuple ds) c ds (-1) .non fun x hx=>(eo.mp hg x hx).noD
    simp [cL,lQ,gf,List.replicate];rw [e];have e0:dU c (-1+1) ds=dU c 0 ds:=rfl;rw [e0];cases dU c 0 ds <;> simp
  | dict k=>exact hg.noD.elim
  | _=>simp [cL,lQ,List.replicate]
theorem kM {d:PyData} (h:noD d) (lo hi:Int):bN [d,.int lo,.int hi]=.ok (.bool (nz d lo hi)):=by
  unfold bN gN;rw [cW];cases d with
  | int i =>
    by_cases h1:lo<=i <;> by_cases h2:i<=hi <;> simp [cL,lQ,h1,h2,nz]
  | dict k=>cases h
  | _=>simp [cL,lQ,nz]
theorem vj {d:PyData} {c:Int} (hg:dJ d):bw [d,.int c]=.ok (.bool (eI c d)):=by
  unfold bw fK;rw [cW];cases d with
  | tuple ds =>
    match ds,hg with
    | [w,m,g,s],hg =>
      have h:=eo.mp hg;have hw:=(h w (by simp)).noD;have hm:=(h m (by simp)).noD;have hgn:=(h g (by simp)).noD;have hs:=h s (by simp);have i0:br (.tuple [w,m,g,s]) (.int 0)=.ok w:=rfl;have i1:br (.tuple [w,m,g,s]) (.int 1)=.ok m:=rfl;have i2:br (.tuple [w,m,g,s]) (.int 2)=.ok g:=rfl;have i3:br (.tuple [w,m,g,s]) (.int 3)=.ok s:=rfl;simp [cL,lQ,kb,i0,i1,i2,i3,kM hw,kM hm,kM hgn,vA c hs,w5 hs,eI];cases nz w 0 1 <;> cases nz m 0 12 <;> cases nz g (-20) 20 <;> simp;cases s with
      | tuple ds =>
        cases ds with
        | nil=>simp [jD,dU]
        | cons a r =>
          simp [jD];cases dU c 0 (a::r) <;> simp
      | _=>simp [jD]
    | [],_=>simp [cL,lQ,kb,eI]
    | [a],_=>simp [cL,lQ,kb,eI]
    | [a,b],_=>simp [cL,lQ,kb,eI]
    | [a,b,c],_=>simp [cL,lQ,kb,eI]
    | a::b::c::d::e::r,_ =>
      have:¬ ((r.length:Int)+1+1+1+1+1=4):=by omega
      simp [cL,lQ,kb,eI,this]
  | dict k=>exact hg.noD.elim
  | _=>simp [cL,lQ,eI]
theorem sM {d:PyData} (hg:dJ d):aB [d]=.ok (.bool (iT d)):=by
  unfold aB fg;rw [cW];cases d with
  | tuple ds =>
    have h:=eo.mp hg;by_cases h1:1<=ds.length
    · by_cases h2:ds.length<=24
      · have h1':(0:Int) < ds.length:=by omega
        have h2':(ds.length:Int) < 25:=by omega
        have hc:cC (aP 0) (dq (tE (aI bw (ai (af 0) (ai (e1 dn (af 1)) aD))))) (af 0) (aq 1 [0] [.val (.tuple ds)]) ds=.ok ((ds.filter fun d=>!eI ds.length d).map id) :=
          j6 _ _ _ _ (fun d=>!eI ds.length d) id _ (fun d hd=>by simp [aq,List.replicate,vj (c:=(ds.length:Int)) (h d hd)]) fun d hd _=>by simp [aq,List.replicate]
        rw [List.map_id] at hc;have he:=wA (xs:=ds.filter fun d=>!eI ds.length d) fun x hx=>h x ((List.mem_filter.mp hx).1)
        rw [k7] at he;simp [cL,lQ,ca,cc (show ds.length<=1000 by omega),hc,iT,h1,h2,h2',he];intro e;rw [e] at h1;simp at h1
      · have h2':¬ (ds.length:Int) < 25:=by omega
        have h1':(0:Int) < ds.length:=by omega
        simp [cL,lQ,h1',h2',iT,h2]
    · have h1':¬ (0:Int) < ds.length:=by omega
      have h0:ds=[]:=List.eq_nil_of_length_eq_zero (by omega);subst h0;simp [cL,lQ,iT]
  | dict k=>exact hg.noD.elim
  | _=>simp [cL,lQ,iT]
theorem mn {d:PyData} (hg:dJ d) (hd:d.depth<=60):lM d d=.ok (.bool true):=by
  unfold lM;rw [if_pos (by unfold jA;rw [hg];simp;exact hd),PySem.SeqAt.eqv_refl d hg]
theorem kc {d:PyData} (hg:dJ d) (hd:d.depth<=60):gY d d=.ok (.bool false):=by
  unfold gY;rw [if_pos (by unfold jA;rw [hg];simp;exact hd),PySem.SeqAt.eqv_refl d hg];rfl
noncomputable def uq:List PyData->Prop:=fun ds=>∀ x∈ds,dJ x/\x.depth=0
theorem uq.dep:∀ {ds:List PyData},uq ds->PyData.depthAll ds=0
  | [],_=>by simp [PyData.depthAll]
  | d::ds,h=>by simp [PyData.depthAll,(h d List.mem_cons_self).2,uq.dep fun x hx=>h x (List.mem_cons_of_mem _ hx)]
theorem uq.good {ds:List PyData} (h:uq ds):dJ (.tuple ds):=eo.mpr fun x hx=>(h x hx).1
theorem zj (o:Option Int):dJ (oD o)/\(oD o).depth=0:=by
  cases o
  · exact ⟨uZ,by simp [oD,PyData.depth]⟩
  · exact ⟨iG _,by simp [oD,PyData.depth]⟩
theorem og (ns:List Int):uq (ns.map .int):=fun x hx=>by
  obtain ⟨i,_,rfl⟩:=List.mem_map.mp hx;exact zj (some i)
theorem ja (ns:List Int):dJ (.tuple (ns.map .int)):=(og ns).good
theorem Ct {ps:List P4} {hi:Int} (hp:∀ p∈ps,Pl ps.length hi p) (h24:(ps.length:Int)<=24):Gr ps :=
  ⟨fun p h=>by have:=(hp p h).len;omega,fun p h=>(hp p h).inn,by omega,fun p h=>(hp p h).so,fun p h=>(hp p h).ne⟩
theorem mY:∀ {l m:List Int},l.Nodup->m.Nodup->(∀ x,x∈l<->x∈m)->l.Perm m
  | [],m,_,_,h=>by
    cases m with
    | nil=>exact .nil
    | cons y m=>exact absurd ((h y).mpr List.mem_cons_self) (by simp)
  | x::l,m,n1,n2,h=>by
    obtain ⟨a,b⟩:=List.nodup_cons.mp n1;have hx:=(h x).mp List.mem_cons_self;have p:=List.perm_cons_erase hx;refine List.Perm.trans (List.Perm.cons x (mY b (n2.erase x) fun y=>?_)) p.symm;by_cases e:y=x
    · subst e;exact ⟨fun z=>(a z).elim,fun z=>(by rw [List.Nodup.mem_erase_iff n2] at z;exact (z.1 rfl).elim)⟩
    · rw [List.mem_erase_of_ne e,<- h y];exact ⟨List.mem_cons_of_mem _,fun z=>(List.mem_cons.mp z).resolve_left e⟩
noncomputable def iD (f:Int->PyData) (qs:List Int):List (PyData×PyData):=qs.map fun i=>(.int i,f i)
theorem qY (f:Int->PyData) (qs:List Int):gc (iD f qs)=false:=by cases qs <;> rfl
theorem pT (f:Int->PyData) (j:Int):∀ qs:List Int,eY (iD f qs) (.int j)=if j∈qs then some (f j) else none
  | []=>rfl
  | i::qs=>by
    unfold eY iD;rw [List.map_cons];by_cases h:i=j
    · subst h;rw [List.find?_cons_of_pos (by exact decide_eq_true rfl),if_pos List.mem_cons_self];rfl
    · rw [List.find?_cons_of_neg (by show ¬ decide (i=j)=true;rw [decide_eq_false h];exact Bool.false_ne_true)];have:=pT f j qs;unfold eY iD at this;rw [this];by_cases hj:j∈qs
      · rw [if_pos hj,if_pos (List.mem_cons_of_mem _ hj)]
      · rw [if_neg hj,if_neg fun z=>(List.mem_cons.mp z).elim (fun e=>h e.symm) hj]
theorem wO {f:Int->PyData} {qs:List Int} {j:Int} (h:j∈qs):br (.dict (iD f qs)) (.int j)=.ok (f j):=by
  show (if gc (iD f qs)=true then R.no else match dE (.int j) with | some _=>(match eY (iD f qs) (.int j) with | some d=>R.ok d | none=>.no) | none=>.no)=_;rw [qY,if_neg (by simp),pT,if_pos h];rfl
theorem xE {f:Int->PyData} {qs:List Int} {j:Int} (h:j∉qs):lI (iD f qs) (.int j) (f j)=iD f (qs++[j]):=by
  unfold lI;rw [if_neg (by
    rw [List.any_eq_true];rintro ⟨kv,hkv,e⟩;obtain ⟨i,hi,rfl⟩:=List.mem_map.mp hkv;have:i=j:=of_decide_eq_true e;rw [this] at hi;exact h hi)]
  unfold iD;rw [List.map_append];rfl
theorem iU {f:Fe} {ρ:aE} {h:Int->Int}:∀ ns:List Int,(∀ x∈ns,f (.val (.int x)::ρ)=.ok (.int (h x)))->cC (aP 0) (fun _=>.ok true) f (.non::ρ) (ns.map .int)=.ok ((ns.map h).map .int)
  | [],_=>eN ..
  | x::ns,hh=>by
    rw [List.map_cons,ej,iU ns fun y hy=>hh y (List.mem_cons_of_mem _ hy)];show (R.ok true>>=fun k=>if k=true then f (.val (.int x)::ρ)>>=fun x=>R.ok ((ns.map h).map .int)>>=fun xs=>.ok (x::xs) else _)=_;rw [hh x List.mem_cons_self];rfl
theorem iX {f:Fe} {ρ:aE} {h:P4->PyData}:∀ qs:List P4,(∀ q∈qs,f (.val q.d::ρ)=.ok (h q))->cC (aP 0) (fun _=>.ok true) f (.non::ρ) (qs.map P4.d)=.ok (qs.map h)
  | [],_=>eN ..
  | q::qs,hh=>by
    rw [List.map_cons,ej,iX qs fun y hy=>hh y (List.mem_cons_of_mem _ hy)];show (R.ok true>>=fun k=>if k=true then f (.val q.d::ρ)>>=fun x=>R.ok (qs.map h)>>=fun xs=>.ok (x::xs) else _)=_;rw [hh q List.mem_cons_self];rfl
theorem kO (p:P4):br p.d (.int 2)=.ok (.int p.g):=rfl
noncomputable def yb (p:P4) (L:List Int):P4:=⟨p.w,p.m,p.g,L⟩
theorem jl (p:P4) (L:List Int):aG [p.d,.list (L.map .int)]=.ok (yb p L).d:=by
  have s4:4<=sizeLine:=by decide
  unfold aG gR;refine fN ?_;rw [show ([p.d,PyData.list (L.map .int)].map bi.val++List.replicate (2 - [p.d,PyData.list (L.map .int)].length) bi.non)=[.val p.d,.val (.list (L.map .int))] from rfl];simp only [dX,fZ,aM,aY,bL,cG,az,aK,cB,R.ok_bind,kN,gq,kO,iF,List.length_cons,List.length_nil,Nat.zero_add,Nat.reduceAdd,if_pos s4];rfl
noncomputable abbrev av (ps:List P4):List Int:=ps.map (·.m)
theorem lc {ps:List P4} (hp:ps.length<=1000):bI [gD ps]=.ok (.list ((av ps).map .int)):=by
  have hc:=iX (f:=e2 br (af 0) (eC (.int 1))) (ρ:=[]) (h:=fun p=>.int p.m) ps fun q _=>by simp only [bL,az,cB,R.ok_bind,gq]
  unfold bI jt;refine fN ?_;rw [show ([gD ps].map bi.val++List.replicate (1 - [gD ps].length) bi.non)=[.val (gD ps)] from rfl];rw [dX,ca,show aq 1 [] [.val (gD ps)]=[.non] from rfl];simp only [cI,az,R.ok_bind,eS,cX];rw [if_pos (cc (by rw [List.length_map];exact hp)),hc,List.map_map];rfl
noncomputable def wB (p:P4):P4:=⟨1-p.w,p.m+1,-p.g,p.ns⟩
noncomputable abbrev Ds:Str:=PySem.Str.ofString "NoMark"
theorem A3 (p:P4):gp (ai (e2 ke (eC (.int 1)) (e2 br (af 0) (eC (.int 0)))) (ai (e2 cw (e2 br (af 0) (eC (.int 1))) (eC (.int 1))) (ai (e1 mo (e2 br (af 0) (eC (.int 2)))) (ai (e2 br (af 0) (eC (.int 3))) aD)))) [.val p.d]=.ok (wB p).d:=by
  have s4:4<=sizeLine:=by decide
  simp only [fZ,aM,aY,bL,cG,az,cB,R.ok_bind,kN,gq,kO,hJ,wv,jy,AU,List.length_cons,List.length_nil,Nat.zero_add,Nat.reduceAdd,if_pos s4];rfl
theorem tW {ps:List P4} (hp:ps.length<=1000) {ρ:aE} {i:Nat} (hi:af i ρ=.ok (gD ps)):e1 cR (bR (eM (af i)) 1 [] (aP 0) (fun _=>.ok true) (gp (ai (e2 ke (eC (.int 1)) (e2 br (af 0) (eC (.int 0)))) (ai (e2 cw (e2 br (af 0) (eC (.int 1))) (eC (.int 1))) (ai (e1 mo (e2 br (af 0) (eC (.int 2)))) (ai (e2 br (af 0) (eC (.int 3))) aD)))))) ρ=.ok (gD (ps.map wB)):=by
  have hc:=iX (ρ:=[]) (h:=fun p=>(wB p).d) ps fun q _=>A3 q
  rw [cG,ca,show aq 1 [] ρ=[.non] from rfl];simp only [cI,hi,R.ok_bind,eS,cX];rw [if_pos (cc (by rw [List.length_map];exact hp)),hc];show R.ok (PyData.tuple (ps.map fun p=>(wB p).d))=.ok (.tuple ((ps.map wB).map P4.d));rw [List.map_map];rfl
theorem kj {ps:List P4} (hp:ps.length<=1000):bf [gD ps]=if ez (av ps) 12=true then .ex Ds else .ok (gD (ps.map wB)):=by
  have h1:=lc hp;have h2:=tW hp (ρ:=[.val (gD ps)]) (i:=0) rfl;unfold bf ir;rw [cW,show ([gD ps].map bi.val++List.replicate (1 - [gD ps].length) bi.non)=[.val (gD ps)] from rfl];rw [i6,dG];simp only [dW,bL,cB,bo,aM,aY,az,R.ok_bind,h1,A5,dC];cases ez (av ps) 12 with
  | true=>rfl
  | false =>
    show (bZ _ _>>=zK)=_;rw [dX,h2];rfl
noncomputable def nL (n:Int) (q:P4):P4:=yb q (q.ns.map (·+n))
noncomputable abbrev Dt:Str:=PySem.Str.ofString "NoRoom"
theorem nU {ps qs:List P4} (hp:ps.length<=100) (hq:qs.length<=100) (hl:∀ q∈qs,q.ns.length<=100):cz [gD ps,gD qs]=if ps.length+qs.length<=24 then .ok (gD (ps++qs.map (nL ps.length))) else .ex Dt:=by
  have l1:dn (gD ps)=.ok (.int ps.length):=by simp
  have l2:dn (gD qs)=.ok (.int qs.length):=by simp
  have hc:=iX (f:=aI aG (ai (af 0) (ai (bR (eM (e2 br (af 0) (eC (.int 3)))) 1 [1] (aP 0) (fun _=>.ok true) (e2 cw (af 0) (af 1))) aD))) (ρ:=[.val (.int ps.length)]) (h:=fun q=>(nL ps.length q).d) qs fun q hq'=>by
    have h1:=iU (f:=e2 cw (af 0) (af 1)) (ρ:=[.val (.int ps.length)]) (h:=fun g=>g+ps.length) q.ns fun g _=>by simp only [bL,az,aK,R.ok_bind,jy]
    have h2:=jl q (q.ns.map (·+(ps.length:Int)));rw [bo,aM,az,R.ok_bind,aM,ca,show aq 1 [1] [.val q.d,.val (.int ps.length)]=[.non,.val (.int ps.length)] from rfl];simp only [cI,bL,az,cB,R.ok_bind,hJ,eS,cX];rw [if_pos (cc (by rw [List.length_map];have:=hl q hq';omega)),h1];simp only [lS,R.ok_bind,aY,h2];rfl
  unfold cz lZ;rw [cW,show ([gD ps,gD qs].map bi.val++List.replicate (3 - [gD ps,gD qs].length) bi.non)=[.val (gD ps),.val (gD qs),.non] from rfl];rw [ba (ρ':=[.val (gD ps),.val (gD qs),.val (.int ps.length)]) (by simp only [cZ,cG,az,R.ok_bind,l1];rfl)];rw [i6,dG];simp only [dW,bL,cG,az,aK,cB,R.ok_bind,l2,jy,sy,dC];by_cases h:ps.length+qs.length<=24
  · have hb:yh ((ps.length:Int)+qs.length) 24=false:=by simp;omega
    rw [hb,if_pos h];show (bZ _ _>>=zK)=_;rw [dX,bL,az,R.ok_bind,cG,ca,show aq 1 [2] [.val (gD ps),.val (gD qs),.val (.int ps.length)]=[.non,.val (.int ps.length)] from rfl];simp only [cI,az,aK,R.ok_bind,eS,cX];rw [if_pos (cc (by rw [List.length_map];omega)),hc];simp only [lS,R.ok_bind,iF,wo];rw [if_pos (cc (by rw [List.length_map,List.length_map];omega)),R.ok_bind];show R.ok (PyData.tuple (ps.map P4.d++qs.map fun q=>(nL ps.length q).d))=.ok (.tuple ((ps++qs.map (nL ps.length)).map P4.d));rw [List.map_append,List.map_map];rfl
  · have hb:yh ((ps.length:Int)+qs.length) 24=true:=by simp;omega
    rw [hb,if_neg h];rfl
noncomputable def yg (ps:List P4) (i:Int):P4:=(ps[i.toNat]?).getD ⟨0,0,0,[]⟩
theorem sU {ps:List P4} {i:Int} (h0:0<=i) (h1:i < ps.length):yg ps i=ps[i.toNat]'(by omega):=by
  unfold yg;rw [List.getElem?_eq_getElem (by omega)];rfl
theorem wP {ps:List P4} {i:Int} (h0:0<=i) (h1:i < ps.length):br (gD ps) (.int i)=.ok (yg ps i).d:=by rw [wN h0 h1,sU h0 h1]
theorem xj (ps:List P4) (i:Int):(yg ps i).ns=bc ps i:=by
  unfold yg bc;cases ps[i.toNat]? <;> rfl
noncomputable def uG (js ns:List Int):List Int:=(ns.filter (ez js)).map fun g=>((js.idxOf g:Nat):Int)
theorem yX {js:List Int} {g:Int} (h:g∈js):fX (.tuple (js.map .int)) (.int g)=.ok (.int (js.idxOf g:Nat)):=by
  show (match bS (js.map .int) with | some ns=>if g∈ns then R.ok (PyData.int (ns.idxOf g:Nat)) else .no | none=>.no)=_;rw [bK];exact if_pos h
theorem nH {p:P4} {js:List Int} (hl:p.ns.length<=100):bM [p.d,.tuple (js.map .int)]=.ok (.list ((uG js p.ns).map .int)):=by
  have hc:=n4 (s:=.tuple (p.ns.map .int)) (t:=.tuple (js.map .int)) (.inl rfl) (.inl rfl) (by omega);have hm:=iU (f:=lN (af 1) (af 0)) (ρ:=[.val (.tuple (js.map .int))]) (h:=fun g=>((js.idxOf g:Nat):Int)) (p.ns.filter (ez js)) fun g hg=>by
    have:=dg.mp (List.mem_filter.mp hg).2;unfold lN;simp only [aK,az,R.ok_bind,A9,yX this]
  unfold bM gJ;refine fN ?_;rw [show ([p.d,PyData.tuple (js.map .int)].map bi.val++List.replicate (2 - [p.d,PyData.tuple (js.map .int)].length) bi.non)=[.val p.d,.val (.tuple (js.map .int))] from rfl];rw [dX,ca,show aq 1 [1] [.val p.d,.val (.tuple (js.map .int))]=[.non,.val (.tuple (js.map .int))] from rfl];simp only [cI,bo,aM,aY,bL,az,aK,cB,R.ok_bind,hJ,hc,eS,cX];rw [if_pos (cc (by rw [List.length_map];exact Nat.le_trans (List.length_filter_le ..) (by omega))),hm];rfl
noncomputable def nA (ps:List P4) (js:List Int) (i:Int):P4:=yb (yg ps i) (uG js (bc ps i))
noncomputable abbrev AA:Str:=PySem.Str.ofString "NoPart"
noncomputable def gB (ps:List P4):PyData->Bool
  | .tuple ds=>(dU ps.length 0 ds&&!ds.isEmpty)&&(match bS ds with | some js=>js.all fun i=>decide (0 < (lg ps js i).length) | none=>false)
  | _=>false
theorem kQ (c:Int):∀ (ds:List PyData) (l:Int),dU c l ds=true->0<=l->∃ js:List Int,ds=js.map .int/\js.Pairwise (· < ·)/\∀ x∈js,l<=x/\x < c
  | [],_,_,_=>⟨[],rfl,.nil,by simp⟩
  | d::ds,l,h,hl=>by
    cases d with
    | int i =>
      simp only [dU,Bool.and_eq_true,decide_eq_true_eq] at h;obtain ⟨⟨h1,h2⟩,h3⟩:=h;obtain ⟨js,e,p,b⟩:=kQ c ds (i+1) h3 (by omega);refine ⟨i::js,by rw [e];rfl,List.pairwise_cons.mpr ⟨fun y hy=>by have:=b y hy;omega,p⟩,fun x hx=>?_⟩;rcases List.mem_cons.mp hx with rfl | z
      · exact ⟨h1,h2⟩
      · have:=b x z;omega
    | _=>cases h
theorem mX {ps:List P4} (hl:∀ p∈ps,p.ns.length<=100) (hp:ps.length<=100) {d:PyData} (hg:dJ d):cP [gD ps,d]=if gB ps d=true then (match d with | .tuple ds=>.ok (gD (((bS ds).getD []).map (nA ps ((bS ds).getD [])))) | _=>.no) else .ex AA:=by
  have hs:=kY ps.length (d:=d) (fun ds e x hx=>((eo.mp (e ▸ hg)) x hx).noD) hg.noD;have l1:dn (gD ps)=.ok (.int ps.length):=by simp
  unfold cP kA;rw [cW,show ([gD ps,d].map bi.val++List.replicate (2 - [gD ps,d].length) bi.non)=[.val (gD ps),.val d] from rfl];rw [i6,dG];cases hsb:xS ps.length d with
  | false =>
    rw [hsb] at hs;have hpb:gB ps d=false:=by
      cases d with
      | tuple ds =>
        have:dU ps.length 0 ds=false:=hsb;simp [gB,this]
      | _=>rfl
    simp only [ie,fS,dW,bo,aM,aY,cG,az,aK,R.ok_bind,l1,hs,dC];rw [hpb];rfl
  | true =>
    rw [hsb] at hs;cases d with
    | tuple ds =>
      have hr:dU ps.length 0 ds=true:=hsb;obtain ⟨js,rfl,hj1,hj2⟩:=kQ ps.length ds 0 hr (by omega);have l2:dn (.tuple (js.map .int))=.ok (.int js.length):=by simp
      have hjl:js.length<=ps.length:=(kC.mk hj1 hj2:kC ps.length js).len;simp only [ie,fS,dW,bo,aM,aY,bL,cG,cB,az,aK,R.ok_bind,l1,l2,hs,dC,n6,Bool.not_true,Bool.false_eq_true,if_false];cases js with
      | nil=>rfl
      | cons j0 js0 =>
        generalize hjs:j0::js0=js at *;have hne:js≠[]:=by rw [<- hjs];simp
        have hlen:¬ ((js.length:Int)=0):=by have:=List.length_pos_iff.mpr hne;omega
        rw [decide_eq_false hlen];simp only [Bool.false_eq_true,if_false,rD,R.ok_bind,rJ];have hw:=nN hl (s:=.tuple (js.map .int)) (js:=js) (.inl rfl) hj2 (by omega);have hpb:gB ps (.tuple (js.map .int))=js.all fun i=>decide (0 < (lg ps js i).length):=by
          have he:(js.map PyData.int).isEmpty=false:=by cases js with | nil=>exact absurd rfl hne | cons _ _=>rfl
          simp only [gB,hr,he,bK];simp
        rw [i6,dG];simp only [fS,dW,bo,aM,aY,az,aK,R.ok_bind,hw,dC];rw [hpb];cases hall:js.all fun i=>decide (0 < (lg ps js i).length) with
        | false=>rfl
        | true =>
          simp only [Bool.not_true,Bool.false_eq_true,if_false,rD,R.ok_bind,rJ];have hcm:cC (aP 0) (fun _=>.ok true) (aI aG (ai (e2 br (af 1) (af 0)) (ai (aI bM (ai (e2 br (af 1) (af 0)) (ai (af 2) aD))) aD))) [.non,.val (gD ps),.val (.tuple (js.map .int))] (js.map .int)=.ok (js.map fun i=>(nA ps js i).d):=by
            have:=n5 (aI aG (ai (e2 br (af 1) (af 0)) (ai (aI bM (ai (e2 br (af 1) (af 0)) (ai (af 2) aD))) aD))) [.non,.val (gD ps),.val (.tuple (js.map .int))] 0 (fun d=>match d with | .int i=>(nA ps js i).d | d=>d) (js.map .int) fun d hd=>by
              obtain ⟨i,hi,rfl⟩:=List.mem_map.mp hd;obtain ⟨i0,i1⟩:=hj2 i hi;have e1':=wP i0 i1;have e2':=nH (p:=yg ps i) (js:=js) (by rw [sU i0 i1];exact hl _ (List.getElem_mem _));rw [xj] at e2';have e3':=jl (yg ps i) (uG js (bc ps i));show aI aG _ [.val (.int i),.val (gD ps),.val (.tuple (js.map .int))]=_;simp only [bo,aM,aY,bL,az,aK,R.ok_bind,e1',e2',e3'];rfl
            rw [this,List.map_map];rfl
          rw [dX,cG,ca,show aq 1 [0,1] [.val (gD ps),.val (.tuple (js.map .int))]=[.non,.val (gD ps),.val (.tuple (js.map .int))] from rfl];simp only [cI,az,aK,R.ok_bind,eS,cX];rw [if_pos (cc (by rw [List.length_map];omega)),hcm];simp only [lS,R.ok_bind,iF,if_true,bK,Option.getD_some];show R.ok (PyData.tuple (js.map fun i=>(nA ps js i).d))=.ok (.tuple ((js.map (nA ps js)).map P4.d));rw [List.map_map];rfl
    | _=>cases hsb
noncomputable def hU:Int->List Int->List (Int×Int)
  | _,[]=>[]
  | l,m::r=>(m,l+(m-l)%2)::hU (l+(m-l)%2+1) r
noncomputable abbrev je (ms:List Int):List Int:=dh (n8 ms)
theorem wV {l:List Int} {k x:Int}:x∈step_dedup l k<->x∈l\/x=k:=by
  unfold step_dedup;by_cases h:l.any (·==k)=true
  · rw [if_pos h];refine ⟨.inl,fun z=>z.elim id fun e=>?_⟩;obtain ⟨y,hy,e2⟩:=List.any_eq_true.mp h;have:y=k:=by simpa using e2
    rw [e,<- this];exact hy
  · rw [if_neg h];simp
theorem zh {l:List Int} (h:l.Nodup) (k:Int):(step_dedup l k).Nodup:=by
  unfold step_dedup;by_cases hk:l.any (·==k)=true
  · rw [if_pos hk];exact h
  · rw [if_neg hk,List.nodup_append];refine ⟨h,by simp,fun a ha b hb e=>?_⟩;simp at hb;subst hb;subst e;exact hk (List.any_eq_true.mpr ⟨a,ha,by simp⟩)
theorem sB:∀ (ms acc:List Int),acc.Nodup->(ms.foldl step_dedup acc).Nodup/\∀ x,x∈ms.foldl step_dedup acc<->x∈acc\/x∈ms
  | [],acc,h=>⟨h,fun x=>by simp⟩
  | m::ms,acc,h=>by
    obtain ⟨h1,h2⟩:=sB ms (step_dedup acc m) (zh h m);refine ⟨h1,fun x=>?_⟩;rw [List.foldl_cons,h2,wV,List.mem_cons];constructor
    · rintro ((z | z) | z)
      · exact .inl z
      · exact .inr (.inl z)
      · exact .inr (.inr z)
    · rintro (z | z | z)
      · exact .inl (.inl z)
      · exact .inl (.inr z)
      · exact .inr z
theorem wU {ms:List Int} {x:Int}:x∈n8 ms<->x∈ms:=by
  have:=(sB ms [] .nil).2 x;unfold n8;rw [this];simp
theorem lT {ms:List Int} {x:Int}:x∈je ms<->x∈ms:=by rw [(dH _).mem_iff,wU]
theorem sT (ms:List Int):(je ms).Pairwise (· < ·):=oR (fJ _) ((dH _).nodup_iff.mpr (sB ms [] .nil).1)
theorem jJ:∀ (l:Int) (L:List Int),(hU l L).map (·.1)=L
  | _,[]=>rfl
  | l,m::r=>by rw [hU,List.map_cons,jJ]
noncomputable def vy (ms:List Int) (m:Int):Int:=((hU 0 (je ms)).lookup m).getD 0
theorem vi {L:List (Int×Int)} (nd:(L.map (·.1)).Nodup):∀ {k v:Int},(k,v)∈L->L.lookup k=some v:=by
  induction L with
  | nil=>intro k v h;cases h
  | cons q r ih =>
    intro k v h;obtain ⟨a,b⟩:=q;rw [List.map_cons,List.nodup_cons] at nd;rcases List.mem_cons.mp h with e | e
    · cases e;simp
    · have hne:k≠a:=fun z=>nd.1 (List.mem_map.mpr ⟨(k,v),e,z⟩)
      have hb:(k==a)=false:=by simpa using hne
      rw [List.lookup_cons,hb];exact ih nd.2 e
theorem xw {ms:List Int} {k v:Int} (h:(k,v)∈hU 0 (je ms)):vy ms k=v:=by
  unfold vy;rw [vi (by rw [jJ];exact eZ (sT ms)) h];rfl
theorem rm:∀ (L:List Int) (l:Int),0<=l->L.Pairwise (· < ·)->(∀ x∈L,l<=x)->∀ k v,(k,v)∈hU l L->0<=v/\v<=k
  | [],_,_,_,_,k,v,h=>by cases h
  | m::r,l,h0,hp,hl,k,v,h=>by
    obtain ⟨p1,p2⟩:=List.pairwise_cons.mp hp;have hm:=hl m List.mem_cons_self;have e0:=Int.emod_nonneg (m-l) (show (2:Int)≠0 by omega);have e1':(m-l)%2<=m-l:=by omega
    rcases List.mem_cons.mp h with e | e
    · cases e;omega
    · exact rm r (l+(m-l)%2+1) (by omega) p2 (fun x hx=>by have:=p1 x hx;omega) k v e
theorem CJ {ms:List Int} (h0:∀ x∈ms,0<=x) {m:Int} (hm:m∈ms):0<=vy ms m/\vy ms m<=m:=by
  have hk:m∈(hU 0 (je ms)).map (·.1):=by rw [jJ];exact lT.mpr hm
  obtain ⟨q,hq,e⟩:=List.mem_map.mp hk;obtain ⟨k,v⟩:=q;have e':k=m:=e;subst e';rw [xw hq];exact rm _ 0 (by omega) (sT ms) (fun x hx=>h0 x (lT.mp hx)) k v hq
noncomputable abbrev fB (ms:List Int):Int->PyData:=fun k=>.int (vy ms k)
noncomputable def na:Fs:=(aX (nK 1 (af 3) (e2 cw (af 2) (e2 eL (e2 ke (af 3) (af 2)) (eC (.int 2))))) (ci 2 (e2 cw (e2 br (dD 1) (af 3)) (eC (.int 1)))))
theorem ub {ms:List Int} {a:PyData}:∀ (L acc:List Int) (l:Int) (c:bi),(∀ k v,(k,v)∈hU l L->vy ms k=v)->L.Nodup->(∀ x∈L,x∉acc)->acc.length+L.length<=1000 ->
    ∃ l' c',fw (aP 3) na (L.map .int) [.val a,.own (.dict (iD (fB ms) acc)),.val (.int l),c]=.ok (.nx [.val a,.own (.dict (iD (fB ms) (acc++L))),.val (.int l'),c'])
  | [],acc,l,c,_,_,_,_=>⟨l,c,by rw [List.map_nil,fO,List.append_nil]⟩
  | m::r,acc,l,c,hv,nd,hn,hl=>by
    obtain ⟨nd1,nd2⟩:=List.nodup_cons.mp nd;have e0:=hv m (l+(m-l)%2) List.mem_cons_self;rw [List.length_cons] at hl;obtain ⟨l',c',e⟩:=ub (a:=a) r (acc++[m]) (l+(m-l)%2+1) (.val (.int m)) (fun k v h=>hv k v (List.mem_cons_of_mem _ h)) nd2 (fun x hx z=>by
      rcases List.mem_append.mp z with y | y
      · exact hn x (List.mem_cons_of_mem _ hx) y
      · simp at y;subst y;exact nd1 hx) (by simp;omega)
    refine ⟨l',c',?_⟩;rw [List.append_assoc] at e;rw [List.map_cons,dN,show acc++m::r=acc++([m]++r) from rfl,<- e];show (na [.val a,.own (.dict (iD (fB ms) acc)),.val (.int l),.val (.int m)]>>=_)=_;have hz:(iD (fB ms) acc).length < sizeLine:=Nat.lt_of_lt_of_le (show _ < 1001 by unfold iD;rw [List.length_map];omega) (by decide);have hput:=xE (f:=fB ms) (qs:=acc) (j:=m) (hn m List.mem_cons_self);have hix:=wO (f:=fB ms) (qs:=acc++[m]) (j:=m) (by simp);have hb:na [.val a,.own (.dict (iD (fB ms) acc)),.val (.int l),.val (.int m)]=.ok (.nx [.val a,.own (.dict (iD (fB ms) (acc++[m]))),.val (.int (l+(m-l)%2+1)),.val (.int m)]):=by
      unfold na;rw [ba (ρ':=[.val a,.own (.dict (iD (fB ms) (acc++[m]))),.val (.int l),.val (.int m)]) (by
        unfold nK;simp only [bL,az,aK,cB,R.ok_bind,wv,wt,if_pos (show (0:Int) < 2 by omega),jy,cX];show (match dE (.int m) with | some _=>if (iD (fB ms) acc).length < sizeLine then R.ok (qd.nx _) else .no | none=>.no)=_;rw [show dE (.int m)=some (.inl m) from rfl];dsimp only;rw [if_pos hz,<- e0];rw [hput];rfl)]
      simp only [cZ,bL,fE,kg,aK,az,cB,R.ok_bind,hix,jy];rw [e0];rfl
    rw [hb,R.ok_bind,gF]
theorem Ef {ms:List Int} (h:ms.length < 64):B7 (.list (ms.map .int))=.ok (.list ((je ms).map .int)):=by
  show (match bS (ms.map .int) with | some ns=>if ns.length < 64 then R.ok (PyData.list ((dh (n8 ns)).map PyData.int)) else .no | none=>.no)=_;rw [bK];exact if_pos h
theorem kP {ms:List Int} (h:ms.length < 64):bD [.list (ms.map .int)]=.ok (.dict (iD (fB ms) (je ms))):=by
  have hol:(je ms).length<=63:=by
    have:=sC ms;rw [i9];omega
  obtain ⟨l',c',e⟩:=ub (ms:=ms) (a:=.list (ms.map .int)) (je ms) [] 0 .non (fun k v=>xw) (eZ (sT ms)) (by simp) (by simp;omega);unfold bD fj;refine fN ?_;rw [show ([PyData.list (ms.map .int)].map bi.val++List.replicate (4 - [PyData.list (ms.map .int)].length) bi.non)=[.val (.list (ms.map .int)),.non,.non,.non] from rfl];rw [ba (ρ':=[.val (.list (ms.map .int)),.own (.dict []),.non,.non]) (by rfl)];rw [ba (ρ':=[.val (.list (ms.map .int)),.own (.dict []),.val (.int 0),.non]) (by rfl)];rw [ba (ρ':=[.val (.list (ms.map .int)),.own (.dict (iD (fB ms) ([]++je ms))),.val (.int l'),c']) (by
    rw [i4,gf,cI,cG,az,R.ok_bind,Ef h,R.ok_bind,tf,R.ok_bind];unfold na at e;rw [show iD (fB ms) []=[] from rfl] at e;rw [e];rfl)]
  rfl
noncomputable def io (ms:List Int) (p:P4):P4:=⟨p.w,vy ms p.m,p.g,p.ns⟩
theorem sY {ps:List P4} (hp:ps.length < 64):di [gD ps]=.ok (gD (ps.map (io (av ps)))):=by
  have s4:4<=sizeLine:=by decide
  have h1:=lc (ps:=ps) (by omega);have h2:=kP (ms:=av ps) (by rw [List.length_map];exact hp);have hc:=iX (f:=gp (ai (e2 br (af 0) (eC (.int 0))) (ai (e2 br (af 1) (e2 br (af 0) (eC (.int 1)))) (ai (e2 br (af 0) (eC (.int 2))) (ai (e2 br (af 0) (eC (.int 3))) aD))))) (ρ:=[.val (.dict (iD (fB (av ps)) (je (av ps))))]) (h:=fun p=>(io (av ps) p).d) ps fun q hq=>by
    have hix:=wO (f:=fB (av ps)) (qs:=je (av ps)) (j:=q.m) (lT.mpr (List.mem_map.mpr ⟨q,hq,rfl⟩));simp only [fZ,aM,aY,bL,az,aK,cB,R.ok_bind,kN,gq,kO,hJ,hix,List.length_cons,List.length_nil,Nat.zero_add,Nat.reduceAdd,if_pos s4];rfl
  unfold di kB;refine fN ?_;rw [show ([gD ps].map bi.val++List.replicate (2 - [gD ps].length) bi.non)=[.val (gD ps),.non] from rfl];rw [ba (ρ':=[.val (gD ps),.val (.dict (iD (fB (av ps)) (je (av ps))))]) (by
    simp only [cZ,bo,aM,aY,az,R.ok_bind,h1,h2];rfl)]
  rw [dX,cG,ca,show aq 1 [1] [.val (gD ps),.val (.dict (iD (fB (av ps)) (je (av ps))))]=[.non,.val (.dict (iD (fB (av ps)) (je (av ps))))] from rfl];simp only [cI,az,R.ok_bind,eS,cX];rw [if_pos (cc (by rw [List.length_map];omega)),hc];show R.ok (qd.rt (PyData.tuple (ps.map fun p=>(io (av ps) p).d)))=.ok (.rt (.tuple ((ps.map (io (av ps))).map P4.d)));rw [List.map_map];rfl
theorem t9 (p:P4):dJ p.d:=by
  refine eo.mpr fun x hx=>?_
  simp only [List.mem_cons,List.not_mem_nil,or_false] at hx;rcases hx with rfl | rfl | rfl | rfl
  · exact iG _
  · exact iG _
  · exact iG _
  · exact ja _
theorem lP (ps:List P4):dJ (gD ps):=eo.mpr fun d hd=>by
  obtain ⟨p,_,rfl⟩:=List.mem_map.mp hd;exact t9 p
theorem rj (p:P4):p.d.depth<=2:=by simp [P4.d,PyData.depth,PyData.depthAll,(og p.ns).dep]
theorem qU:∀ ps:List P4,PyData.depthAll (ps.map P4.d)<=2
  | []=>by simp [PyData.depthAll]
  | p::ps=>by
    have ih:=qU ps;have h:=rj p;rw [List.map_cons,PyData.depthAll];omega
theorem sG (ps:List P4):(gD ps).depth<=60:=by
  have:=qU ps;simp only [PyData.depth];omega
theorem wg {i lo hi:Int} (h0:lo<=i) (h1:i<=hi):nz (.int i) lo hi=true:=by simp [nz,h0,h1]
theorem xt {c:Int} {p:P4} (h:Pl c 12 p):eI c p.d=true:=by
  have h4:jD c (.tuple (p.ns.map .int))=true:=by
    have e:(p.ns.map PyData.int).isEmpty=false:=by
      cases hn:p.ns with
      | nil=>exact absurd hn h.ne
      | cons _ _=>rfl
    simp only [jD,lX c p.ns 0 h.so h.inn,e];rfl
  show (nz (.int p.w) 0 1&&(nz (.int p.m) 0 12&&(nz (.int p.g) (-20) 20&&jD c (.tuple (p.ns.map .int)))))=true;rw [wg h.w0 h.w1,wg h.m0 h.m1,wg h.g0 h.g1,h4];rfl
theorem u0 {ps:List P4} (h1:1<=ps.length) (h24:ps.length<=24) (hP:∀ p∈ps,Pl ps.length 12 p):iT (gD ps)=true:=by
  show ((decide (1<=(ps.map P4.d).length)&&decide ((ps.map P4.d).length<=24))&&(ps.map P4.d).all (eI ((ps.map P4.d).length:Int)))=true;rw [List.length_map,decide_eq_true h1,decide_eq_true h24,List.all_map];rw [show (true&&true)=true from rfl,Bool.true_and,List.all_eq_true];exact fun p hp=>xt (hP p hp)
theorem iW {ps:List P4} (h1:1<=ps.length) (h24:ps.length<=24) (hP:∀ p∈ps,Pl ps.length 12 p):aB [gD ps]=.ok (.bool true):=by rw [sM (lP ps),u0 h1 h24 hP]
theorem Bk (z:Str) {p:Addr} {ρ:aE} {i:Nat} (h:ρ[i]?=some (.exc p)):(e2 jh (eC (.str z)) (e1 j9 (jc (lE i p) (mC (ig i p))))) ρ=.ok (.str z):=by
  have a:lE i p ρ=.ok (.bool true):=by
    unfold lE;rw [h];exact if_pos rfl
  have b:ig i p ρ=.ok (.bool false):=by
    unfold ig;rw [h];exact if_pos rfl
  simp only [bL,cG,cB,tS,yN,a,b,R.ok_bind,dC,if_true];rfl
theorem tz {F:List PyData->R PyData} {fs:aE->R (List PyData)} {hs:Hs} {ρ:aE} {ds:List PyData} {d:PyData} (h1:fs ρ=.ok ds) (h2:F ds=.ok d):kr F fs hs ρ=.ok (.rt d):=by
  unfold kr;simp only [h1,cX,R.ok_bind,h2,x5]
theorem tw {F:List PyData->R PyData} {fs:aE->R (List PyData)} {ρ:aE} {ds:List PyData} {c:Str} {h:Addr->aE->R PyData} {z:PyData} (h1:fs ρ=.ok ds) (h2:F ds=.ex c) (h3:∀ p,h p ρ=.ok z):kr F fs ((c,h)::[]) ρ=.ok (.rt z):=by
  unfold kr;simp only [h1,cX,R.ok_bind,h2,x5,List.lookup_cons,beq_self_eq_true];rw [show (fun p=>h p ρ)=fun _=>R.ok z from funext h3,sV];rfl
noncomputable abbrev Au:PyData:=.str (PySem.Str.ofString "mark")
noncomputable abbrev Av:PyData:=.str (PySem.Str.ofString "room")
noncomputable abbrev rC:PyData:=.str (PySem.Str.ofString "part")
theorem Bi {ps:List P4} (hp:ps.length<=1000):bC [gD ps]=.ok (if ez (av ps) 12=true then Au else gD (ps.map wB)):=by
  have h:=kj hp;unfold bC e9;refine fN ?_;rw [show ([gD ps].map bi.val++List.replicate (2 - [gD ps].length) bi.non)=[.val (gD ps),.non] from rfl];cases hm:ez (av ps) 12 with
  | true =>
    rw [hm,if_pos rfl] at h;rw [if_pos rfl];exact tw (ds:=[gD ps]) rfl h fun p=>Bk _ rfl
  | false =>
    rw [hm,if_neg Bool.false_ne_true] at h;rw [if_neg Bool.false_ne_true];exact tz (ds:=[gD ps]) rfl h
theorem Bh {ps qs:List P4} (hp:ps.length<=100) (hq:qs.length<=100) (hl:∀ q∈qs,q.ns.length<=100):cm [gD ps,gD qs]=.ok (if ps.length+qs.length<=24 then gD (ps++qs.map (nL ps.length)) else Av):=by
  have h:=nU hp hq hl;unfold cm gL;refine fN ?_;rw [show ([gD ps,gD qs].map bi.val++List.replicate (3 - [gD ps,gD qs].length) bi.non)=[.val (gD ps),.val (gD qs),.non] from rfl];by_cases hm:ps.length+qs.length<=24
  · rw [if_pos hm] at h ⊢;exact tz (ds:=[gD ps,gD qs]) rfl h
  · rw [if_neg hm] at h ⊢;exact tw (ds:=[gD ps,gD qs]) rfl h fun p=>Bk _ rfl
theorem qZ {ps:List P4} {d:PyData} (h:cP [gD ps,d]=.ex AA):aT [gD ps,d]=.ok rC:=by
  unfold aT gO;refine fN ?_;rw [show ([gD ps,d].map bi.val++List.replicate (3 - [gD ps,d].length) bi.non)=[.val (gD ps),.val d,.non] from rfl];exact tw (ds:=[gD ps,d]) rfl h fun p=>Bk _ rfl
theorem rb {ps:List P4} {d e:PyData} (h:cP [gD ps,d]=.ok e):aT [gD ps,d]=.ok e:=by
  unfold aT gO;refine fN ?_;rw [show ([gD ps,d].map bi.val++List.replicate (3 - [gD ps,d].length) bi.non)=[.val (gD ps),.val d,.non] from rfl];exact tz (ds:=[gD ps,d]) rfl h
theorem zG (f:Int->PyData) (acc:List Int) (j:Int):lI (iD f acc) (.int j) (f j)=iD f (step_dedup acc j):=by
  unfold step_dedup;by_cases h:j∈acc
  · rw [if_pos (List.any_eq_true.mpr ⟨j,h,by simp⟩)];have ha:((iD f acc).any fun kv=>eX kv.1 (.int j))=true:=List.any_eq_true.mpr ⟨(.int j,f j),List.mem_map.mpr ⟨j,h,rfl⟩,by simp [mL]⟩;unfold lI;rw [if_pos ha];unfold iD;rw [List.map_map];refine List.map_congr_left fun i hi=>?_
    show (if eX (.int i) (.int j)=true then (PyData.int i,f j) else (.int i,f i))=(.int i,f i)
    by_cases e:i=j
    · subst e;simp [mL]
    · rw [mL,decide_eq_false e];rfl
  · rw [if_neg (by
      intro z;obtain ⟨y,hy,e⟩:=List.any_eq_true.mp z;have:y=j:=by simpa using e
      exact h (this ▸ hy))]
    exact xE h
theorem yU (f:Int->PyData) (acc:List Int) (j:Int):j8 (.dict (iD f acc)) (.int j) (f j)=.ok (f j):=by
  rw [yI,pT];by_cases h:j∈acc
  · rw [if_pos h];rfl
  · rw [if_neg h];rfl
noncomputable def Dq:Fs:=(aX (jk (ip (tE (e2 (gY) (af 4) (gp (ai (e2 br (af 3) (eC (.int 0))) (ai (e2 br (af 4) (eC (.int 1))) (ai (e2 br (af 3) (eC (.int 2))) (ai (e2 br (af 3) (eC (.int 3))) aD))))))) (tE (e1 (cL .bool) (e2 br (af 4) (eC (.int 1)))))) (bZ (eC (.bool false))) cD) (aX (jk (tE (e2 (gY) (tT (dD 2) (e2 br (af 3) (eC (.int 1))) (e2 br (af 4) (eC (.int 1)))) (e2 br (af 4) (eC (.int 1))))) (bZ (eC (.bool false))) cD) (nK 2 (e2 br (af 3) (eC (.int 1))) (e2 br (af 4) (eC (.int 1))))))
theorem wT (l:List Int) (k:Int):(step_dedup l k).length<=l.length+1:=by
  unfold step_dedup;split
  · omega
  · simp
theorem B0 {ms:List Int} {a b:PyData} {acc:List Int} (q:P4) (hl:acc.length < 1000):Dq [.val a,.val b,.own (.dict (iD (fB ms) acc)),.val q.d,.val (io ms q).d,.non,.non]=.ok (.nx [.val a,.val b,.own (.dict (iD (fB ms) (step_dedup acc q.m))),.val q.d,.val (io ms q).d,.non,.non]):=by
  have s4:4<=sizeLine:=by decide
  have hne:gY (io ms q).d (.tuple [.int q.w,.int (io ms q).m,.int q.g,.tuple (q.ns.map .int)])=.ok (.bool false):=kc (d:=(io ms q).d) (t9 _) (Nat.le_trans (rj _) (by omega));have hib:cL .bool (.int (io ms q).m)=.ok (.bool false):=rfl;have hg:j8 (.dict (iD (fB ms) acc)) (.int q.m) (.int (io ms q).m)=.ok (.int (io ms q).m):=yU (fB ms) acc q.m;have hz:(iD (fB ms) acc).length < sizeLine:=Nat.lt_of_lt_of_le (show _ < 1001 by unfold iD;rw [List.length_map];omega) (by decide);have hput:lI (iD (fB ms) acc) (.int q.m) (.int (io ms q).m)=iD (fB ms) (step_dedup acc q.m):=zG (fB ms) acc q.m;unfold Dq;rw [ba (ρ':=[.val a,.val b,.own (.dict (iD (fB ms) acc)),.val q.d,.val (io ms q).d,.non,.non]) (by
    rw [dG];simp only [ie,dW,bL,cG,fZ,aM,aY,az,aK,cB,R.ok_bind,kN,gq,kO,hJ,List.length_cons,List.length_nil,Nat.zero_add,Nat.reduceAdd,if_pos s4,hne,hib,dC];rfl)]
  rw [ba (ρ':=[.val a,.val b,.own (.dict (iD (fB ms) acc)),.val q.d,.val (io ms q).d,.non,.non]) (by
    rw [dG,dW,bL,wz];simp only [A8 (qY (fB ms) acc),fE,kg,bL,az,aK,cB,R.ok_bind,gq,hg,kb,dC,decide_true,Bool.not_true];rfl)]
  unfold nK;simp only [bL,az,aK,cB,R.ok_bind,gq,cX];show (match dE (.int q.m) with | some _=>if (iD (fB ms) acc).length < sizeLine then R.ok (qd.nx _) else .no | none=>.no)=_;rw [show dE (.int q.m)=some (.inl q.m) from rfl];dsimp only;rw [if_pos hz,hput];rfl
theorem w1 {ms:List Int} {a b:PyData}:∀ (qs:List P4) (acc:List Int) (c3 c4:bi),acc.length+qs.length<=1000 ->
    ∃ c3' c4',fw (nT 3 4) Dq (nO (qs.map P4.d) ((qs.map (io ms)).map P4.d)) [.val a,.val b,.own (.dict (iD (fB ms) acc)),c3,c4,.non,.non]=.ok (.nx [.val a,.val b,.own (.dict (iD (fB ms) ((av qs).foldl step_dedup acc))),c3',c4',.non,.non])
  | [],acc,c3,c4,_=>⟨c3,c4,rfl⟩
  | q::qs,acc,c3,c4,h=>by
    rw [List.length_cons] at h;have hs:=wT acc q.m;obtain ⟨c3',c4',e⟩:=w1 (ms:=ms) (a:=a) (b:=b) qs (step_dedup acc q.m) (.val q.d) (.val (io ms q).d) (by omega);refine ⟨c3',c4',?_⟩;rw [show nO ((q::qs).map P4.d) (((q::qs).map (io ms)).map P4.d)=.tuple [q.d,(io ms q).d]::nO (qs.map P4.d) ((qs.map (io ms)).map P4.d) from rfl,uW];show (Dq [.val a,.val b,.own (.dict (iD (fB ms) acc)),.val q.d,.val (io ms q).d,.non,.non]>>=_)=_;rw [B0 q (by omega),R.ok_bind,gF,e];rfl
noncomputable def Dr:Fs:=(aX (jk (tE (e2 (gY) (e2 br (dD 2) (af 6)) (e2 cw (e2 cw (af 5) (eC (.int 1))) (e1 j9 (e2 (gY) (e2 eL (e2 cw (af 5) (eC (.int 1))) (eC (.int 2))) (e2 eL (af 6) (eC (.int 2)))))))) (bZ (eC (.bool false))) cD) (ci 5 (e2 br (dD 2) (af 6))))
theorem w2 {ms qs:List Int} {a b:PyData} {c3 c4:bi}:∀ (L:List Int) (l:Int) (c6:bi),(∀ k v,(k,v)∈hU (l+1) L->vy ms k=v)->(∀ x∈L,x∈qs) ->
    ∃ l' c6',fw (aP 6) Dr (L.map .int) [.val a,.val b,.own (.dict (iD (fB ms) qs)),c3,c4,.val (.int l),c6]=.ok (.nx [.val a,.val b,.own (.dict (iD (fB ms) qs)),c3,c4,.val (.int l'),c6'])
  | [],l,c6,_,_=>⟨l,c6,by rw [List.map_nil,fO]⟩
  | m::r,l,c6,hv,hq=>by
    have e0:=hv m (l+1+(m-(l+1))%2) List.mem_cons_self;obtain ⟨l',c6',e⟩:=w2 (ms:=ms) (qs:=qs) (a:=a) (b:=b) (c3:=c3) (c4:=c4) r (vy ms m) (.val (.int m)) (fun k v h=>hv k v (List.mem_cons_of_mem _ (by rw [<- e0];exact h))) (fun x hx=>hq x (List.mem_cons_of_mem _ hx));refine ⟨l',c6',?_⟩;have hix:br (.dict (iD (fB ms) qs)) (.int m)=.ok (.int (vy ms m)):=wO (f:=fB ms) (hq m List.mem_cons_self);have hpar:vy ms m=l+1+(if (!decide ((l+1)%2=m%2))=true then 1 else 0):=by
      rw [e0];by_cases h:(l+1)%2=m%2
      · rw [decide_eq_true h];simp;omega
      · rw [decide_eq_false h];simp;omega
    rw [List.map_cons,dN,<- e];show (Dr [.val a,.val b,.own (.dict (iD (fB ms) qs)),c3,c4,.val (.int l),.val (.int m)]>>=_)=_;have hb:Dr [.val a,.val b,.own (.dict (iD (fB ms) qs)),c3,c4,.val (.int l),.val (.int m)]=.ok (.nx [.val a,.val b,.own (.dict (iD (fB ms) qs)),c3,c4,.val (.int (vy ms m)),.val (.int m)]):=by
      unfold Dr;rw [ba (ρ':=[.val a,.val b,.own (.dict (iD (fB ms) qs)),c3,c4,.val (.int l),.val (.int m)]) (by
        rw [dG];simp only [dW,bL,cG,fE,kg,az,aK,cB,R.ok_bind,hix,jy,wt,if_pos (show (0:Int) < 2 by omega),kb,AO,dC];rw [decide_eq_true hpar];rfl)]
      simp only [cZ,bL,fE,kg,az,aK,R.ok_bind,hix];rfl
    rw [hb,R.ok_bind,gF]
theorem vD {ms L:List Int} (h:L.length < 64):gZ (.dict (iD (fB ms) L))=.ok (.list ((dh L).map .int)):=by
  have e:(iD (fB ms) L).map (·.1)=L.map .int:=by
    unfold iD;rw [List.map_map];rfl
  show (match bS ((iD (fB ms) L).map (·.1)) with | some ns=>if ns.length < 64 then R.ok (PyData.list ((dh ns).map PyData.int)) else .no | none=>.no)=_;rw [e,bK];exact if_pos h
theorem lH {ps:List P4} (hp:ps.length < 64):aU [gD ps,gD (ps.map (io (av ps)))]=.ok (.bool true):=by
  have l1:dn (gD ps)=.ok (.int ps.length):=by simp
  have l2:dn (gD (ps.map (io (av ps))))=.ok (.int ps.length):=by simp
  have hit:cL .tuple (gD (ps.map (io (av ps))))=.ok (.bool true):=rfl;obtain ⟨c3,c4,e⟩:=w1 (ms:=av ps) (a:=gD ps) (b:=gD (ps.map (io (av ps)))) ps [] .non .non (by simp;omega);rw [show (av ps).foldl step_dedup []=n8 (av ps) from rfl] at e;obtain ⟨l',c6,e2⟩:=w2 (ms:=av ps) (qs:=n8 (av ps)) (a:=gD ps) (b:=gD (ps.map (io (av ps)))) (c3:=c3) (c4:=c4) (je (av ps)) (-1) .non (fun k v h=>xw (by rw [show (-1:Int)+1=0 from rfl] at h;exact h)) (fun x hx=>wU.mpr (lT.mp hx));have hs:=vD (ms:=av ps) (L:=n8 (av ps)) (by have:=sC (av ps);rw [List.length_map] at this;omega);unfold aU ee;refine fN ?_;rw [show ([gD ps,gD (ps.map (io (av ps)))].map bi.val++List.replicate (7 - [gD ps,gD (ps.map (io (av ps)))].length) bi.non)=[.val (gD ps),.val (gD (ps.map (io (av ps)))),.non,.non,.non,.non,.non] from rfl];rw [ba (ρ':=[.val (gD ps),.val (gD (ps.map (io (av ps)))),.non,.non,.non,.non,.non]) (by
    rw [dG];simp only [ie,fS,dW,bL,cG,az,aK,R.ok_bind,hit,l1,l2,kb,dC,decide_true,Bool.not_true];rfl)]
  rw [ba (ρ':=[.val (gD ps),.val (gD (ps.map (io (av ps)))),.own (.dict []),.non,.non,.non,.non]) (by rfl)];rw [ba (ρ':=[.val (gD ps),.val (gD (ps.map (io (av ps)))),.own (.dict (iD (fB (av ps)) (n8 (av ps)))),c3,c4,.non,.non]) (by
    rw [i4,gf,yW];simp only [az,aK,R.ok_bind,eS];unfold Dq at e;rw [show iD (fB (av ps)) []=[] from rfl] at e;rw [e];rfl)]
  rw [ba (ρ':=[.val (gD ps),.val (gD (ps.map (io (av ps)))),.own (.dict (iD (fB (av ps)) (n8 (av ps)))),c3,c4,.val (.int (-1)),.non]) (by rfl)];rw [ba (ρ':=[.val (gD ps),.val (gD (ps.map (io (av ps)))),.own (.dict (iD (fB (av ps)) (n8 (av ps)))),c3,c4,.val (.int l'),c6]) (by
    rw [i4,gf,cI,cG,show dD 2 [.val (gD ps),.val (gD (ps.map (io (av ps)))),.own (.dict (iD (fB (av ps)) (n8 (av ps)))),c3,c4,.val (.int (-1)),.non]=.ok (.dict (iD (fB (av ps)) (n8 (av ps)))) from rfl,R.ok_bind,hs,R.ok_bind,tf,R.ok_bind];unfold Dr at e2;rw [e2];rfl)]
  rfl
theorem Bj {l m:List Int} (h1:l.Pairwise (· < ·)) (h2:m.Pairwise (· < ·)) (h:∀ x,x∈l<->x∈m):l=m:=by
  have p:=mY (eZ h1) (eZ h2) h;have a:=iP p (h1.imp fun z=>by omega);have b:=iP (List.Perm.refl m) (h2.imp fun z=>by omega);rw [a,<- b]
noncomputable abbrev AI (ks:List Int) (k:Int):Int:=(ks[k.toNat]?).getD 0
theorem Ac {ks ns:List Int} (hk:ks.Pairwise (· < ·)) (hn:ns.Pairwise (· < ·)):(uG ks ns).Pairwise (· < ·):=by
  unfold uG;refine List.pairwise_map.mpr (List.Pairwise.imp_of_mem (fun {g g'} hg hg' hlt=>?_) (hn.filter (ez ks)));have i1:=List.idxOf_lt_length_of_mem (dg.mp (List.mem_filter.mp hg).2);have i2:=List.idxOf_lt_length_of_mem (dg.mp (List.mem_filter.mp hg').2);have f1:=List.getElem_idxOf i1;have f2:=List.getElem_idxOf i2;rcases Nat.lt_trichotomy (ks.idxOf g) (ks.idxOf g') with z | z | z
  · exact Int.ofNat_lt.mpr z
  · have t:ks[ks.idxOf g]?=ks[ks.idxOf g']?:=by rw [z]
    rw [List.getElem?_eq_getElem i1,List.getElem?_eq_getElem i2,f1,f2] at t;cases t;omega
  · have t:=List.pairwise_iff_getElem.mp hk _ _ i2 i1 z;rw [f1,f2] at t;omega
theorem wa {ks ns:List Int} (hk:ks.Nodup) (x:Int):x∈uG ks ns<->(0<=x/\x < ks.length)/\ez ns (AI ks x)=true:=by
  unfold uG;rw [List.mem_map];constructor
  · rintro ⟨g,hg,rfl⟩;obtain ⟨h1,h2⟩:=List.mem_filter.mp hg;have i1:=List.idxOf_lt_length_of_mem (dg.mp h2);refine ⟨⟨by omega,by omega⟩,?_⟩;unfold AI;rw [Int.toNat_natCast,List.getElem?_eq_getElem i1,Option.getD_some,List.getElem_idxOf i1];exact dg.mpr h1
  · rintro ⟨⟨h0,h1⟩,h2⟩;have hx:x.toNat < ks.length:=by omega
    unfold AI at h2;rw [List.getElem?_eq_getElem hx,Option.getD_some] at h2;refine ⟨ks[x.toNat],List.mem_filter.mpr ⟨dg.mp h2,dg.mpr (List.getElem_mem _)⟩,?_⟩;show ((ks.idxOf ks[x.toNat]:Nat):Int)=x;rw [hk.idxOf_getElem];omega
theorem Ci {ks ns:List Int} (hk:ks.Pairwise (· < ·)) (hn:ns.Pairwise (· < ·)):(Cv ks.length).filter (fun k=>ez ns (AI ks k))=uG ks ns :=
  Bj ((A4 _).filter _) (Ac hk hn) fun x=>by rw [List.mem_filter,tZ,wa (eZ hk)]
theorem CU {c:Int} (h0:0<=c) (h1:c<=1000):p0 [.int c]=.ok (ce 0 c.toNat):=by
  show (if -(2 ^ 62)<=c/\c < 2 ^ 62 then R.ok (ce 0 c.toNat) else .no)=_;rw [if_pos (by omega)]
theorem uf {n d e:Nat} (h:e<=n):HT.sIx n d (some (e:Int))=e:=by
  unfold HT.sIx;have h0:¬ ((e:Nat):Int) < 0:=by omega
  simp only [h0,if_false];simp;omega
theorem rB (n d:Nat):HT.sIx n d none=d:=by
  unfold HT.sIx;rfl
theorem AN {ds:List PyData} {e:Nat} (h:e<=ds.length):D2.nF ds (some (e:Int)) none=ds.drop e:=by
  unfold D2.nF;rw [uf h,rB];rw [List.take_of_length_le (by rw [List.length_drop];omega)]
theorem DU:∀ ds:List PyData,D2.nF ds (some 1) none=ds.drop 1
  | []=>rfl
  | d::ds=>by rw [show (some (1:Int))=some ((1:Nat):Int) from rfl,AN (by simp)]
noncomputable def bB:Fs:=(aX (ci 5 (e1 cR (bR (eM (e2 br (af 4) (eC (.int 3)))) 1 [1] (aP 0) (fun _=>.ok true) (e2 cw (af 0) (e1 dn (af 1)))))) (ci 3 (e2 cw (dD 3) (gp (ai (gp (ai (e2 br (af 4) (eC (.int 0))) (ai (e2 br (af 4) (eC (.int 1))) (ai (e2 br (af 4) (eC (.int 2))) (ai (af 5) aD))))) aD)))))
theorem wb {S O:PyData} {ps:List P4}:∀ (qs acc:List P4) (c4 c5:bi),acc.length+qs.length<=1000->(∀ q∈qs,q.ns.length<=100) ->
    ∃ c4' c5',fw (aP 4) bB (qs.map P4.d) [.val S,.val (gD ps),.val O,.val (gD acc),c4,c5,.non,.non,.non,.non]=.ok (.nx [.val S,.val (gD ps),.val O,.val (gD (acc++qs.map (nL ps.length))),c4',c5',.non,.non,.non,.non])
  | [],acc,c4,c5,_,_=>⟨c4,c5,by rw [List.map_nil,fO,List.map_nil,List.append_nil]⟩
  | q::qs,acc,c4,c5,h,hl=>by
    rw [List.length_cons] at h;have s4:4<=sizeLine:=by decide
    have s1:1<=sizeLine:=by decide
    obtain ⟨c4',c5',e⟩:=wb (S:=S) (O:=O) (ps:=ps) qs (acc++[nL ps.length q]) (.val q.d) (.val (.tuple ((q.ns.map (·+(ps.length:Int))).map .int))) (by simp;omega) fun x hx=>hl x (List.mem_cons_of_mem _ hx)
    refine ⟨c4',c5',?_⟩;rw [List.append_assoc] at e;rw [List.map_cons,dN,show acc++(q::qs).map (nL ps.length)=acc++([nL ps.length q]++qs.map (nL ps.length)) from rfl,<- e];show (bB [.val S,.val (gD ps),.val O,.val (gD acc),.val q.d,c5,.non,.non,.non,.non]>>=_)=_;have l1:dn (gD ps)=.ok (.int ps.length):=by simp
    have hm:=iU (f:=e2 cw (af 0) (e1 dn (af 1))) (ρ:=[.val (gD ps)]) (h:=fun g=>g+ps.length) q.ns fun g _=>by simp only [bL,cG,az,aK,R.ok_bind,l1,jy]
    have ha:cw (gD acc) (.tuple [(nL ps.length q).d])=.ok (gD (acc++[nL ps.length q])):=by
      rw [wo,if_pos (cc (by rw [List.length_map];simp;omega))];show R.ok (PyData.tuple (acc.map P4.d++[(nL ps.length q).d]))=.ok (.tuple ((acc++[nL ps.length q]).map P4.d));rw [List.map_append];rfl
    have hb:bB [.val S,.val (gD ps),.val O,.val (gD acc),.val q.d,c5,.non,.non,.non,.non]=.ok (.nx [.val S,.val (gD ps),.val O,.val (gD (acc++[nL ps.length q])),.val q.d,.val (.tuple ((q.ns.map (·+(ps.length:Int))).map .int)),.non,.non,.non,.non]):=by
      unfold bB;rw [ba (ρ':=[.val S,.val (gD ps),.val O,.val (gD acc),.val q.d,.val (.tuple ((q.ns.map (·+(ps.length:Int))).map .int)),.non,.non,.non,.non]) (by
        rw [cZ,cG,ca,show aq 1 [1] [.val S,.val (gD ps),.val O,.val (gD acc),.val q.d,c5,.non,.non,.non,.non]=[.non,.val (gD ps)] from rfl];simp only [cI,bL,az,aK,cB,R.ok_bind,hJ,eS,cX];rw [if_pos (cc (by rw [List.length_map];have:=hl q List.mem_cons_self;omega)),hm];rfl)]
      simp only [cZ,bL,fZ,aM,aY,fE,lO,az,aK,cB,R.ok_bind,kN,gq,kO,List.length_cons,List.length_nil,Nat.zero_add,Nat.reduceAdd,if_pos s4,if_pos s1];rw [show PyData.tuple [.int q.w,.int q.m,.int q.g,.tuple ((q.ns.map (·+(ps.length:Int))).map .int)]=(nL ps.length q).d from rfl,ha];rfl
    rw [hb,R.ok_bind,gF]
noncomputable def dB:Fs:=(aX (ci 8 (bR (iH (ai (e1 dn (af 7)) aD)) 1 [7,1,4] (aP 0) (tE (e2 (sA false) (e2 br (af 1) (af 0)) (e2 br (e2 br (af 2) (af 3)) (eC (.int 3))))) (af 0))) (iZ 3 (gp (ai (e2 br (e2 br (af 1) (af 4)) (eC (.int 0))) (ai (e2 br (e2 br (af 1) (af 4)) (eC (.int 1))) (ai (e2 br (e2 br (af 1) (af 4)) (eC (.int 2))) (ai (e1 cR (af 8)) aD)))))))
theorem ww {S O A:PyData} {c5:bi} {ps:List P4} {ks:List Int} (hk:ks.Pairwise (· < ·)) (hkl:ks.length<=100) (hns:∀ i:Int,0<=i->i < ps.length->(bc ps i).Pairwise (· < ·)):∀ (is:List Int) (acc:List PyData) (c4 c8:bi),acc.length+is.length<=1000->(∀ x∈is,0<=x/\x < ps.length) ->
    ∃ c4' c8',fw (aP 4) dB (is.map .int) [.val S,.val (gD ps),.val O,.own (.list acc),c4,c5,.val A,.val (.tuple (ks.map .int)),c8,.non]=.ok (.nx [.val S,.val (gD ps),.val O,.own (.list (acc++is.map fun i=>(nA ps ks i).d)),c4',c5,.val A,.val (.tuple (ks.map .int)),c8',.non])
  | [],acc,c4,c8,_,_=>⟨c4,c8,by rw [List.map_nil,fO,List.map_nil,List.append_nil]⟩
  | i::is,acc,c4,c8,h,hi=>by
    rw [List.length_cons] at h;have s4:4<=sizeLine:=by decide
    obtain ⟨i0,i1⟩:=hi i List.mem_cons_self;obtain ⟨c4',c8',e⟩:=ww (S:=S) (O:=O) (A:=A) (c5:=c5) hk hkl hns is (acc++[(nA ps ks i).d]) (.val (.int i)) (.val (.list ((uG ks (bc ps i)).map .int))) (by simp;omega) fun x hx=>hi x (List.mem_cons_of_mem _ hx)
    refine ⟨c4',c8',?_⟩;rw [List.append_assoc] at e;rw [List.map_cons,dN,show acc++(i::is).map (fun i=>(nA ps ks i).d)=acc++([(nA ps ks i).d]++is.map fun i=>(nA ps ks i).d) from rfl,<- e];show (dB [.val S,.val (gD ps),.val O,.own (.list acc),.val (.int i),c5,.val A,.val (.tuple (ks.map .int)),c8,.non]>>=_)=_;have l1:dn (.tuple (ks.map .int))=.ok (.int ks.length):=by simp
    have hr1:p0 [.int (ks.length:Int)]=.ok (ce 0 ks.length):=by rw [CU (by omega) (by omega),Int.toNat_natCast]
    have hix:=wP i0 i1;have hg:br (yg ps i).d (.int 3)=.ok (.tuple ((bc ps i).map .int)):=by rw [hJ,xj]
    have hm:=eB (t:=tE (e2 (sA false) (e2 br (af 1) (af 0)) (e2 br (e2 br (af 2) (af 3)) (eC (.int 3))))) (ρ:=[.val (.tuple (ks.map .int)),.val (gD ps),.val (.int i)]) (p:=fun k=>ez (bc ps i) (AI ks k)) (Cv ks.length) fun k hk'=>by
      obtain ⟨k0,k1⟩:=tZ.mp hk';have hx:k.toNat < ks.length:=by omega
      have hk2:br (.tuple (ks.map .int)) (.int k)=.ok (.int (AI ks k)):=by
        rw [Ae k0 (by rw [List.length_map];exact k1),List.getElem_map];unfold AI;rw [List.getElem?_eq_getElem hx];rfl
      show tE _ [.val (.int k),.val (.tuple (ks.map .int)),.val (gD ps),.val (.int i)]=_;simp only [dW,bL,az,aK,cB,R.ok_bind,hk2,hix,hg,A6,dC];rfl
    rw [Ci hk (hns i i0 i1)] at hm;have hb:dB [.val S,.val (gD ps),.val O,.own (.list acc),.val (.int i),c5,.val A,.val (.tuple (ks.map .int)),c8,.non]=.ok (.nx [.val S,.val (gD ps),.val O,.own (.list (acc++[(nA ps ks i).d])),.val (.int i),c5,.val A,.val (.tuple (ks.map .int)),.val (.list ((uG ks (bc ps i)).map .int)),.non]):=by
      unfold dB;rw [ba (ρ':=[.val S,.val (gD ps),.val O,.own (.list acc),.val (.int i),c5,.val A,.val (.tuple (ks.map .int)),.val (.list ((uG ks (bc ps i)).map .int)),.non]) (by
        rw [cZ,ca,show aq 1 [7,1,4] [.val S,.val (gD ps),.val O,.own (.list acc),.val (.int i),c5,.val A,.val (.tuple (ks.map .int)),c8,.non]=[.non,.val (.tuple (ks.map .int)),.val (gD ps),.val (.int i)] from rfl];simp only [u4,aM,aY,cG,az,aK,R.ok_bind,l1,hr1,cX];rw [if_pos (cc (by rw [eQ];omega)),ng,hm];rfl)]
      rw [vB (ds:=acc) _ rfl (Nat.lt_of_lt_of_le (show _ < 1001 by omega) (by decide))];simp only [fZ,aM,aY,bL,cG,az,aK,cB,R.ok_bind,hix,kN,gq,kO,iF,List.length_cons,List.length_nil,Nat.zero_add,Nat.reduceAdd,if_pos s4,cX];rfl
    rw [hb,R.ok_bind,gF]
theorem Cr {c hi:Int} {p:P4} (h:Pl c hi p) (hm:p.m+1<=12):Pl c 12 (wB p):=⟨by show 0<=1-p.w;have:=h.w1;omega,by show 1-p.w<=1;have:=h.w0;omega,by show 0<=p.m+1;have:=h.m0;omega,hm,by show -20<=-p.g;have:=h.g1;omega,by show -p.g<=20;have:=h.g0;omega,h.ne,h.so,h.inn⟩
theorem CW {c n hi m:Int} {q:P4} (h:Pl n hi q) (h12:hi<=12) (hm:0<=m) (hc:m+n<=c):Pl c 12 (nL m q) :=
  ⟨h.w0,h.w1,h.m0,by have:=h.m1;show q.m<=12;omega,h.g0,h.g1,by show q.ns.map (·+m)≠[];simpa using h.ne,List.pairwise_map.mpr (h.so.imp fun z=>by omega),fun x hx=>by
    obtain ⟨g,hg,rfl⟩:=List.mem_map.mp hx;have:=h.inn g hg;exact ⟨by omega,by omega⟩⟩
theorem Dp {c c' hi:Int} {p:P4} (h:Pl c hi p) (h2:c<=c') (h12:hi<=12):Pl c' 12 p:=⟨h.w0,h.w1,h.m0,by have:=h.m1;omega,h.g0,h.g1,h.ne,h.so,fun x hx=>by have:=h.inn x hx;omega⟩
theorem CK {c hi:Int} {p:P4} {ps:List P4} (h:Pl c hi p) (h12:hi<=12) (hp:p∈ps) (h0:∀ x∈av ps,0<=x):Pl c 12 (io (av ps) p):=by
  have:=CJ h0 (m:=p.m) (List.mem_map.mpr ⟨p,hp,rfl⟩);exact ⟨h.w0,h.w1,this.1,by have:=h.m1;show vy (av ps) p.m<=12;omega,h.g0,h.g1,h.ne,h.so,h.inn⟩
theorem CM {hi i:Int} {ps:List P4} {ks:List Int} (hpl:∀ p∈ps,Pl ps.length hi p) (h12:hi<=12) (i0:0<=i) (i1:i < ps.length) (hk:ks.Pairwise (· < ·)) (hw:∃ g∈bc ps i,g∈ks) (hns:(bc ps i).Pairwise (· < ·)):Pl ks.length 12 (nA ps ks i):=by
  have h:=hpl _ (List.getElem_mem (show i.toNat < ps.length by omega));rw [<- sU i0 i1] at h;refine ⟨h.w0,h.w1,h.m0,by have:=h.m1;show (yg ps i).m<=12;omega,h.g0,h.g1,fun z=>?_,Ac hk hns,fun x hx=>((wa (eZ hk) x).mp hx).1⟩;obtain ⟨g,h1,h2⟩:=hw;have m:((ks.idxOf g:Nat):Int)∈uG ks (bc ps i):=List.mem_map.mpr ⟨g,List.mem_filter.mpr ⟨h1,dg.mpr h2⟩,rfl⟩;rw [show uG ks (bc ps i)=[] from z] at m;cases m
theorem vm {ps:List P4} (hne:ps≠[]):∃ h,tQ (.list ((av ps).map .int))=.ok (.int h)/\h∈av ps/\∀ x∈av ps,x<=h:=by
  cases ps with
  | nil=>exact (hne rfl).elim
  | cons p ps =>
    obtain ⟨s1,s2⟩:=oz p.m (av ps);refine ⟨sO p.m (av ps),?_,s1,s2⟩;show (match bS ((av (p::ps)).map .int) with | some (n::ns)=>R.ok (PyData.int (sO n ns)) | _=>.no)=_;rw [bK];rfl
theorem sN {ps:List P4} (hp:ps.length<=1000) {ρ:aE} {i:Nat} (hi:af i ρ=.ok (gD ps)):bR (eM (af i)) 1 [] (aP 0) (fun _=>.ok true) (e2 br (af 0) (eC (.int 1))) ρ=.ok (.list ((av ps).map .int)):=by
  have hc:=iX (f:=e2 br (af 0) (eC (.int 1))) (ρ:=[]) (h:=fun p=>.int p.m) ps fun q _=>by simp only [bL,az,cB,R.ok_bind,gq]
  rw [ca,show aq 1 [] ρ=[.non] from rfl];simp only [cI,hi,R.ok_bind,eS,cX];rw [if_pos (cc (by rw [List.length_map];exact hp)),hc,List.map_map];rfl
theorem zi (z:String) (h:PyData.strOk (PySem.Str.ofString z)=true):gY (.str (PySem.Str.ofString z)) (.str (PySem.Str.ofString z))=.ok (.bool false):=kc (by simp [dJ,PyData.canLay0,h]) (by simp [PyData.depth])
theorem D3 (z:String) (h:PyData.strOk (PySem.Str.ofString z)=true):lM (.str (PySem.Str.ofString z)) (.str (PySem.Str.ofString z))=.ok (.bool true):=mn (by simp [dJ,PyData.canLay0,h]) (by simp [PyData.depth])
theorem x9 {ps:List P4} {js:List Int}:gB ps (.tuple ((js.reverse++js.reverse).map .int))=false:=by
  cases hb:gB ps (.tuple ((js.reverse++js.reverse).map .int)) with
  | false=>rfl
  | true =>
    simp only [gB,Bool.and_eq_true] at hb;obtain ⟨⟨h1,h2⟩,_⟩:=hb;obtain ⟨is,e,hlt,_⟩:=kQ ps.length _ 0 h1 (by omega);have hinj:∀ {a b:List Int},a.map PyData.int=b.map PyData.int->a=b:=fun {a b} h=>by
      have:=congrArg bS h;rw [bK,bK] at this;exact Option.some.inj this
    have e':=hinj e;rw [<- e'] at hlt;have nd:=eZ hlt;rw [List.nodup_append] at nd;cases hr:js.reverse with
    | nil=>rw [hr] at h2;simp at h2
    | cons a r =>
      rw [hr] at nd;exact absurd rfl (nd.2.2 a List.mem_cons_self a List.mem_cons_self)
theorem wX (xs:List PyData) (k:Int):ka (.tuple xs) (.int k)=if (xs=[]\/k=1)/\0<=k/\k < 2 ^ 63 then .ok (.tuple xs) else if xs≠[]/\2<=k/\k < 2 ^ 63/\xs.length*k.toNat<=sizeLine then .ok (.tuple (List.replicate k.toNat xs).flatten) else .no:=by simp only [ka]
theorem wZ {xs:List PyData} {k:Int} (h0:¬ (xs=[]\/k=1)) (h:xs≠[]/\2<=k/\k < 2 ^ 63/\xs.length*k.toNat<=sizeLine):ka (.tuple xs) (.int k)=.ok (.tuple (List.replicate k.toNat xs).flatten):=by
  rw [wX,if_neg fun z=>h0 z.1,if_pos h]
theorem wY {k:Int} (h:0<=k/\k < 2 ^ 63):ka (.tuple []) (.int k)=.ok (.tuple []):=by
  rw [wX,if_pos ⟨.inl rfl,h⟩]
theorem w4 {js:List Int} (hl:js.length<=100):ka (.tuple (js.map .int).reverse) (.int 2)=.ok (.tuple ((if js=[] then [] else js.reverse++js.reverse).map .int)):=by
  by_cases he:js=[]
  · subst he;exact wY ⟨by omega,by omega⟩
  · have hl0:(js.map PyData.int).reverse≠[]:=by simpa using he
    rw [wZ (by rintro (z | z);exact hl0 z;omega) ⟨hl0,by omega,by omega,cc (by simp;omega)⟩,if_neg he,List.map_append,List.map_reverse];have e:(List.replicate (2:Int).toNat (js.map PyData.int).reverse).flatten=(js.map PyData.int).reverse++(js.map PyData.int).reverse:=by
      show [(js.map PyData.int).reverse,(js.map PyData.int).reverse].flatten=_;rw [List.flatten_cons,List.flatten_cons,List.flatten_nil,List.append_nil]
    rw [e]
theorem wS:Aj qo:=by
  intro ns hns;obtain ⟨ps,hi,hgr,hpl,hp1,hp24,hi0,hi12⟩:=mP ns (most:=24) (by omega) (by omega);obtain ⟨qs,hj,hgq,hql,hq1,hq24,hj0,hj12⟩:=mP (ns.drop 1) (most:=24) (by omega) (by omega);obtain ⟨v1,hv1,v10,v11⟩:=mS ns (k:=1) (by omega);obtain ⟨js,hs1,jlt,jin⟩:=zP (n:=v1) (c:=ps.length) (by omega) (by omega);have Gp:=Ct hpl hp24;have hlp:∀ p∈ps,p.ns.length<=100:=fun p hp=>by have:=(hpl p hp).len;omega
  have hlq:∀ p∈qs,p.ns.length<=100:=fun p hp=>by have:=(hql p hp).len;omega
  have hjl:js.length<=ps.length:=(kC.mk jlt jin:kC ps.length js).len;obtain ⟨ks,hw,⟨hsub,hfix⟩,hkw⟩:=vL hlp (js:=js) (by omega) jin;have klt:ks.Pairwise (· < ·):=jlt.sublist hsub;have kin:∀ x∈ks,0<=x/\x < ps.length:=fun x hx=>jin x (hsub.subset hx)
  have kle:=hsub.length_le;obtain ⟨mx,hmx,mx1,mx2⟩:=vm (ps:=ps) (by intro z;rw [z] at hp1;simp at hp1);have hm0:∀ x∈av ps,0<=x/\x<=12:=fun x hx=>by
    obtain ⟨p,hp,rfl⟩:=List.mem_map.mp hx;have a:=(hpl p hp).m0;have b:=(hpl p hp).m1;exact ⟨a,by omega⟩
  have h12:ez (av ps) 12=decide (mx=12):=by
    by_cases h:mx=12
    · rw [decide_eq_true h];exact dg.mpr (h ▸ mx1)
    · rw [decide_eq_false h];cases hb:ez (av ps) 12 with
      | false=>rfl
      | true=>exact absurd (by have a:=mx2 12 (dg.mp hb);have b:=(hm0 mx mx1).2;omega) h
  have k1:PyData.strOk (PySem.Str.ofString "mark")=true:=by decide +kernel
  have k2:PyData.strOk (PySem.Str.ofString "room")=true:=by decide +kernel
  have k3:PyData.strOk (PySem.Str.ofString "part")=true:=by decide +kernel
  have l1:dn (gD ps)=.ok (.int ps.length):=by simp
  have hex:=kj (ps:=ps) (by omega);have hlx:=Bi (ps:=ps) (by omega);rw [h12] at hex hlx;obtain ⟨D1,hD1⟩:∃ D1,D1=(if decide (mx=12)=true then Au else gD (ps.map wB)):=⟨_,rfl⟩
  rw [<- hD1] at hlx;have n1:gY D1 D1=.ok (.bool false):=by
    rw [hD1];by_cases h:mx=12
    · rw [decide_eq_true h,if_pos rfl];exact zi "mark" k1
    · rw [decide_eq_false h,if_neg Bool.false_ne_true];exact kc (lP _) (sG _)
  have hpr:=sY (ps:=ps) (by omega);have hpw:=lH (ps:=ps) (by omega);have hpg:aB [gD (ps.map (io (av ps)))]=.ok (.bool true):=by
    refine iW (by rw [List.length_map];exact hp1) (by rw [List.length_map];omega) fun p hp=>?_
    obtain ⟨q,hq,rfl⟩:=List.mem_map.mp hp;rw [List.length_map];exact CK (hpl q hq) hi12 hq fun x hx=>(hm0 x hx).1
  have hbe:=nU (ps:=ps) (qs:=qs) (by omega) (by omega) hlq;have hlb:=Bh (ps:=ps) (qs:=qs) (by omega) (by omega) hlq;obtain ⟨D2',hD2⟩:∃ D,D=(if ps.length+qs.length<=24 then gD (ps++qs.map (nL ps.length)) else Av):=⟨_,rfl⟩
  rw [<- hD2] at hlb;have n2:gY D2' D2'=.ok (.bool false):=by
    rw [hD2];by_cases h:ps.length+qs.length<=24
    · rw [if_pos h];exact kc (lP _) (sG _)
    · rw [if_neg h];exact zi "room" k2
  obtain ⟨c4,c5,hbl⟩:=wb (S:=lK ns) (O:=gD qs) (ps:=ps) qs ps .non .non (by omega) hlq;unfold qo vU;refine fN ?_;rw [show ([lK ns].map bi.val++List.replicate (10 - [lK ns].length) bi.non)=[.val (lK ns),.non,.non,.non,.non,.non,.non,.non,.non,.non] from rfl];rw [ba (ρ':=[.val (lK ns),.val (gD ps),.non,.non,.non,.non,.non,.non,.non,.non]) (by
    simp only [cZ,bo,aM,aY,az,cB,R.ok_bind,hgr];rfl)]
  rw [ba (ρ':=[.val (lK ns),.val (gD ps),.val (gD qs),.non,.non,.non,.non,.non,.non,.non]) (by
    simp only [cZ,bo,aM,aY,A2,xf,xb,az,cB,R.ok_bind,Cj,Cm,DU,<- List.map_drop,hgq];rfl)]
  rw [ba (ρ':=[.val (lK ns),.val (gD ps),.val (gD qs),.val (gD (ps.map wB)),.non,.non,.non,.non,.non,.non]) (by
    rw [cZ,tW (ps:=ps) (by omega) (i:=1) rfl];rfl)]
  rw [ba (ρ':=[.val (lK ns),.val (gD ps),.val (gD qs),.val D1,.non,.non,.non,.non,.non,.non]) (by
    rw [dG,dW,bL,cG,sN (ps:=ps) (by omega) (i:=1) rfl];simp only [R.ok_bind,hmx,cB,n6,dC];by_cases h:mx=12
    · rw [hD1,decide_eq_true h];rfl
    · have hxg:aB [gD (ps.map wB)]=.ok (.bool true):=by
        refine iW (by rw [List.length_map];exact hp1) (by rw [List.length_map];omega) fun p hp=>?_
        obtain ⟨q,hq,rfl⟩:=List.mem_map.mp hp;rw [List.length_map];refine Cr (hpl q hq) ?_;have a:=mx2 q.m (List.mem_map.mpr ⟨q,hq,rfl⟩);have b:=(hm0 mx mx1).2;omega
      rw [decide_eq_false h,if_neg Bool.false_ne_true] at hex;rw [hD1,decide_eq_false h,if_neg Bool.false_ne_true,if_neg Bool.false_ne_true,dG];simp only [fS,dW,bo,aM,aY,az,aK,R.ok_bind,hex,hxg,dC];rfl)]
  rw [ba (ρ':=[.val (lK ns),.val (gD ps),.val (gD qs),.val D1,.non,.non,.non,.non,.non,.non]) (by
    rw [dG];simp only [ie,fS,dW,bL,bo,aM,aY,fE,lO,az,aK,R.ok_bind,hlx,n1,hpr,hpw,dC];rfl)]
  rw [ba (ρ':=[.val (lK ns),.val (gD ps),.val (gD qs),.val (gD ps),.non,.non,.non,.non,.non,.non]) (by rfl)];rw [ba (ρ':=[.val (lK ns),.val (gD ps),.val (gD qs),.val (gD (ps++qs.map (nL ps.length))),c4,c5,.non,.non,.non,.non]) (by
    rw [i4,gf,cI];simp only [az,aK,R.ok_bind,eS];unfold bB at hbl;rw [hbl];rfl)]
  rw [ba (ρ':=[.val (lK ns),.val (gD ps),.val (gD qs),.val D2',c4,c5,.non,.non,.non,.non]) (by
    have l2:dn (gD (ps++qs.map (nL ps.length)))=.ok (.int (ps.length+qs.length:Nat)):=by simp
    rw [dG,dW,bL,cG];simp only [fE,lO,R.ok_bind,l2,cB,sy,dC];by_cases h:ps.length+qs.length<=24
    · have hb:yh ((ps.length+qs.length:Nat):Int) 24=false:=by simp;omega
      have hxg:aB [gD (ps++qs.map (nL ps.length))]=.ok (.bool true):=by
        refine iW (by rw [List.length_append];omega) (by rw [List.length_append,List.length_map];exact h) fun p hp=>?_
        rw [List.length_append,List.length_map];rcases List.mem_append.mp hp with z | z
        · exact Dp (hpl p z) (by omega) hi12
        · obtain ⟨q,hq,rfl⟩:=List.mem_map.mp z;exact CW (hql q hq) hj12 (by omega) (by omega)
      rw [if_pos h] at hbe;rw [hb,hD2,if_pos h,if_neg Bool.false_ne_true,dG];simp only [fS,dW,bo,aM,aY,az,aK,R.ok_bind,hbe,hxg,dC];rfl
    · have hb:yh ((ps.length+qs.length:Nat):Int) 24=true:=by simp;omega
      rw [hb,hD2,if_neg h];rfl)]
  rw [ba (ρ':=[.val (lK ns),.val (gD ps),.val (gD qs),.val D2',c4,c5,.non,.non,.non,.non]) (by
    rw [dG];simp only [dW,bL,bo,aM,aY,fE,lO,az,aK,R.ok_bind,hlb,n2,dC];rfl)]
  rw [ba (ρ':=[.val (lK ns),.val (gD ps),.val (gD qs),.val D2',c4,c5,.val (.tuple (js.map .int)),.non,.non,.non]) (by
    simp only [cZ,bo,aM,aY,cG,az,aK,cB,R.ok_bind,hv1,l1,hs1];rfl)]
  rw [ba (ρ':=[.val (lK ns),.val (gD ps),.val (gD qs),.val D2',c4,c5,.val (.tuple (js.map .int)),.val (.tuple (ks.map .int)),.non,.non]) (by
    simp only [cZ,bo,aM,aY,az,aK,R.ok_bind,hw];rfl)]
  have hno:∀ d:PyData,dJ d->gB ps d=false->aT [gD ps,d]=.ok rC:=fun d hg hb=>qZ (by rw [mX hlp (by omega) hg,hb];rfl)
  have hnj:ks≠js->aT [gD ps,.tuple (js.map .int)]=.ok rC:=fun hne=>by
    refine hno _ (ja _) ?_;cases hb:gB ps (.tuple (js.map .int)) with
    | false=>rfl
    | true =>
      simp only [gB,Bool.and_eq_true,bK] at hb;refine absurd (hfix (List.filter_eq_self.mpr fun i hi'=>?_)) hne;have hx:=of_decide_eq_true (List.all_eq_true.mp hb.2 i hi');have hne2:(bc ps i).filter (ez js)≠[]:=List.length_pos_iff.mp hx;rw [decide_eq_false hne2];rfl
  have htw:=w4 (js:=js) (by omega);have hp2:aT [gD ps,.tuple ((if js=[] then [] else js.reverse++js.reverse).map .int)]=.ok rC:=by
    refine hno _ (ja _) ?_;by_cases he:js=[]
    · rw [if_pos he];rfl
    · rw [if_neg he];exact x9
  rw [ba (ρ':=[.val (lK ns),.val (gD ps),.val (gD qs),.val D2',c4,c5,.val (.tuple (js.map .int)),.val (.tuple (ks.map .int)),.non,.non]) (by
    rw [dG];by_cases he:ks=js
    · simp only [ie,rH,dW,bL,cG,bo,aM,aY,az,aK,cB,R.ok_bind,Am,he,decide_true,Bool.not_true,dC,wu,htw,hp2,zi "part" k3];rfl
    · simp only [ie,rH,dW,bL,cG,bo,aM,aY,az,aK,cB,R.ok_bind,Am,decide_eq_false he,Bool.not_false,if_true,dC,hnj he,wu,htw,hp2,zi "part" k3];rfl)]
  by_cases hke:ks=[]
  · refine BH ?_;have hem:aT [gD ps,.tuple []]=.ok rC:=hno _ (ja []) rfl;have heq:lM (.tuple (ks.map .int)) (.tuple [])=.ok (.bool true):=by rw [hke];exact mn (ja []) (by simp [PyData.depth,PyData.depthAll])
    rw [dG];simp only [dW,bL,fZ,aY,az,aK,R.ok_bind,List.length_nil,Nat.zero_le,if_true,heq,dC,dX,bo,aM,hem,cB,D3 "part" k3]
  have hkl:1<=ks.length:=List.length_pos_iff.mpr hke;have heq:lM (.tuple (ks.map .int)) (.tuple [])=.ok (.bool false):=by
    have:=tV ks [];unfold lM;rw [show (.tuple []:PyData)=.tuple (([]:List Int).map .int) from rfl,this,if_pos rfl];show R.ok (PyData.bool (PyData.eqvAll (ks.map .int) (([]:List Int).map .int)))=_;rw [kh,decide_eq_false hke]
  rw [ba (ρ':=[.val (lK ns),.val (gD ps),.val (gD qs),.val D2',c4,c5,.val (.tuple (js.map .int)),.val (.tuple (ks.map .int)),.non,.non]) (by
    rw [dG];simp only [dW,bL,fZ,aY,az,aK,R.ok_bind,List.length_nil,Nat.zero_le,if_true,heq,dC];rfl)]
  rw [ba (ρ':=[.val (lK ns),.val (gD ps),.val (gD qs),.own (.list []),c4,c5,.val (.tuple (js.map .int)),.val (.tuple (ks.map .int)),.non,.non]) (by rfl)];obtain ⟨d4,d8,hdl⟩:=ww (S:=lK ns) (O:=gD qs) (A:=.tuple (js.map .int)) (c5:=c5) (ps:=ps) klt (by omega) (fun i _ _=>Gp.glt i) ks [] c4 .non (by simp;omega) kin;rw [ba (ρ':=[.val (lK ns),.val (gD ps),.val (gD qs),.own (.list ([]++ks.map fun i=>(nA ps ks i).d)),d4,c5,.val (.tuple (js.map .int)),.val (.tuple (ks.map .int)),d8,.non]) (by
    rw [i4,gf,cI];simp only [az,aK,R.ok_bind,eS];unfold dB at hdl;rw [hdl];rfl)]
  have hpb:gB ps (.tuple (ks.map .int))=true:=by
    have he:(ks.map PyData.int).isEmpty=false:=by
      cases ks with
      | nil=>exact absurd rfl hke
      | cons _ _=>rfl
    have hal:=vM (ps:=ps) (js:=ks) fun i hi'=>by
      obtain ⟨g,g1,g2⟩:=hkw i hi';exact ⟨g,List.mem_filter.mpr ⟨g1,dg.mpr g2⟩⟩
    simp only [gB,lX ps.length ks 0 klt kin,he,bK,hal];rfl
  have hfo:aT [gD ps,.tuple (ks.map .int)]=.ok (gD (ks.map (nA ps ks))):=rb (by
    rw [mX hlp (by omega) (ja ks),hpb,if_pos rfl];simp only [bK,Option.getD_some])
  have hfg:aB [gD (ks.map (nA ps ks))]=.ok (.bool true):=by
    refine iW (by rw [List.length_map];exact hkl) (by rw [List.length_map];omega) fun p hp=>?_
    obtain ⟨i,hi',rfl⟩:=List.mem_map.mp hp;rw [List.length_map];exact CM hpl hi12 (kin i hi').1 (kin i hi').2 klt (hkw i hi') (Gp.glt i)
  have hdt:cR (.list ([]++ks.map fun i=>(nA ps ks i).d))=.ok (gD (ks.map (nA ps ks))):=by
    rw [List.nil_append,iF];show R.ok (PyData.tuple (ks.map fun i=>(nA ps ks i).d))=.ok (.tuple ((ks.map (nA ps ks)).map P4.d));rw [List.map_map];rfl
  have hsm:=mn (lP (ks.map (nA ps ks))) (sG _);rw [ba (ρ':=[.val (lK ns),.val (gD ps),.val (gD qs),.own (.list ([]++ks.map fun i=>(nA ps ks i).d)),d4,c5,.val (.tuple (js.map .int)),.val (.tuple (ks.map .int)),d8,.val (gD (ks.map (nA ps ks)))]) (by
    simp only [cZ,bo,aM,aY,az,aK,R.ok_bind,hfo];rfl)]
  rw [dX];simp only [tS,bo,aM,aY,bL,cG,fE,kg,az,aK,R.ok_bind,hdt,hsm,hfg,hpr,hpg,dC,if_true]
noncomputable def Cl:List Stmt:=PySem.Challenge.pw_duelground_k70_changes.main.body
noncomputable abbrev top (i:Nat):Stmt:=Cl.getD i (.Pass ⟨0,0,0,0⟩)
noncomputable abbrev ib:Stmt:=top 19
noncomputable abbrev kt:Stmt:=top 24
noncomputable abbrev hZ:Stmt:=top 42
noncomputable abbrev ia:Stmt:=top 20
noncomputable abbrev gg:Stmt:=top 21
noncomputable abbrev fy:Stmt:=top 41
noncomputable abbrev gr:Stmt:=top 28
noncomputable abbrev iN:Stmt:=top 29
noncomputable abbrev iL:Stmt:=top 30
noncomputable abbrev iM:Stmt:=top 31
noncomputable abbrev iO:Stmt:=top 32
noncomputable abbrev fH:Stmt:=top 33
noncomputable abbrev h7:Stmt:=top 38
noncomputable abbrev h8:Stmt:=top 37
noncomputable abbrev fP:Stmt:=top 39
noncomputable abbrev dZ:Stmt:=top 40
noncomputable abbrev jO:Stmt:=top 12
noncomputable abbrev hW:Stmt:=top 13
noncomputable abbrev jN:Stmt:=top 14
noncomputable abbrev ku:Stmt:=top 16
noncomputable abbrev fG:Stmt:=top 25
noncomputable abbrev dY:Stmt:=top 17
noncomputable abbrev i7:Stmt:=top 26
noncomputable abbrev jP:Stmt:=top 43
noncomputable abbrev eA:Stmt:=top 44
noncomputable abbrev h9:Stmt:=top 34
noncomputable abbrev fI:Stmt:=top 35
noncomputable abbrev c7:Stmt:=top 36
noncomputable abbrev fA:Stmt:=top 22
noncomputable abbrev i8:Stmt:=top 23
noncomputable abbrev gE:Stmt:=top 45
section
variable {P:Program} {w:World} {K:PySem.W.Frag} {mg:Str->Option Value} {base:Heap} {f:Addr} {fd:FuncData} {k:Nat}
theorem pA:aL ["place","goals"] ["place","goals"] (ak ib):=⟨rfl,rfl,rfl,by decide +kernel,rfl,by decide +kernel,by decide +kernel⟩
theorem o2 (W:gi K "with_goals" "with_goals" ib f fd) {t_GAIN:Tok} (g_GAIN:mg "GAIN" = some (.int 2 t_GAIN)) {t_MARK:Tok} (g_MARK:mg "MARK" = some (.int 1 t_MARK)) {t_WHO:Tok} (g_WHO:mg "WHO" = some (.int 0 t_WHO)) (b_tuple:mg "tuple" = none) :
    aW P w K mg base (cM P w mg) (k+1) f fd ["place","goals"] (dt (dM 2 (gR)) 2):=by
  refine ax W pA (G:=["WHO","MARK","GAIN","tuple"]) (by decide +kernel) fun cdv A outer s H E hr T=>?_
  exact (am (aw (de (ae (ap T.hu (aa (ad T 0 rfl)) (aa (bJ T 0 rfl g_WHO)) (fun _ _=>rfl)) (ae (ap T.hu (aa (ad T 0 rfl)) (aa (bJ T 1 rfl g_MARK)) (fun _ _=>rfl)) (ae (ap T.hu (aa (ad T 0 rfl)) (aa (bJ T 2 rfl g_GAIN)) (fun _ _=>rfl)) (ae (bQ T 3 rfl b_tuple (aa (ad T 1 rfl))) al)))))))
theorem vW:aL ["one","other","count"] ["one","other"] (ak kt):=⟨rfl,rfl,rfl,by decide +kernel,rfl,by decide +kernel,by decide +kernel⟩
theorem vR (W:gi K "beside" "beside" kt f fd) {f5:Addr} {d5:FuncData} {aG:gH} (C5:gI P w K mg base k "with_goals" ["place","goals"] aG f5 d5) {t_GOALS:Tok} (g_GOALS:mg "GOALS" = some (.int 3 t_GOALS)) {t_MOST_PLACES:Tok} (g_MOST_PLACES:mg "MOST_PLACES" = some (.int 24 t_MOST_PLACES)) (b_len:mg "len" = none) (b_tuple:mg "tuple" = none) {c_NoRoom:Addr} (m_NoRoom:mg "NoRoom" = some (.ref c_NoRoom)) (q_NoRoom:PySem.W.excIn K c_NoRoom kZ kI=true) :
    aW P w K mg base (cM P w mg) (k+1) f fd ["one","other"] (dt (dM 3 (lZ aG)) 2):=by
  refine ax W vW (G:=["len","MOST_PLACES","NoRoom","tuple"]) (by decide +kernel) fun cdv A outer s H E hr T=>?_
  exact (aj (aF T 2 rfl (cg T 0 rfl b_len (aa (ad T 0 rfl))))
      (aj (bG (qD (aa (aR (aa (ad T 2 rfl)) (aa (cg T 0 rfl b_len (aa (ad T 1 rfl)))))) (aa (bJ T 1 rfl g_MOST_PLACES))) (am (gV T 2 rfl m_NoRoom q_NoRoom (have T:=T.nox;dc))) bg)
      (am (aw (aR (aa (ad T 0 rfl)) (aa (bQ T 3 rfl b_tuple (cO (qC (N:=["place","count"]) (own:=1) (G:=["with_goals","GOALS"]) (fr:=[2]) T rfl rfl (oN:=["one","other","count"]) (on:=(ak kt).names) (by decide +kernel) (bz (ad T 1 rfl)) (bu (by decide)) (fun cl C s' H' fp E' T cap=>⟨(aO T 0 rfl),da,(au C5 hr T 0 rfl (ae (ad T 0 rfl) (ae (gU (qB (N:=["goal","count"]) (own:=1) (G:=[]) (fr:=[1]) T rfl cap (oN:=["place","count"]) (k:=1) (by decide +kernel) (bz (ap T.hu (aa (ad T 0 rfl)) (aa (bJ T 1 rfl g_GOALS)) (fun _ _=>rfl))) (bu (by decide)) (fun cl C s' H' fp E' T=>⟨(aO T 0 rfl),da,(aR (aa (ad T 0 rfl)) (aa (ad T 1 rfl)))⟩))) al)) rfl (ag (ag ao)))⟩))))))))))
theorem pd:aL ["_law_one","_law_other","e"] ["_law_one","_law_other"] (ak hZ):=⟨rfl,rfl,rfl,by decide +kernel,rfl,by decide +kernel,by decide +kernel⟩
theorem oW (W:gi K "_law_beside" "_law_beside" hZ f fd) {f10:Addr} {d10:FuncData} {cz:gH} (C10:gI P w K mg base k "beside" ["one","other"] cz f10 d10) (b_int:mg "int" = none) (b_isinstance:mg "isinstance" = none) {c_GroundError:Addr} (m_GroundError:mg "GroundError" = some (.ref c_GroundError)) (q_GroundError:PySem.W.excIn K c_GroundError kZ kI=true) {c_NoMark:Addr} (m_NoMark:mg "NoMark" = some (.ref c_NoMark)) (q_NoMark:PySem.W.excIn K c_NoMark kZ kI=true) {c_NoPart:Addr} (m_NoPart:mg "NoPart" = some (.ref c_NoPart)) (q_NoPart:PySem.W.excIn K c_NoPart kZ kI=true) {c_NoRoom:Addr} (m_NoRoom:mg "NoRoom" = some (.ref c_NoRoom)) (q_NoRoom:PySem.W.excIn K c_NoRoom kZ kI=true) (b_NoRoom_NoRoom:(Value.ref c_NoRoom::fu K c_NoRoom).contains (.ref c_NoRoom)=true) (k_NoRoom_GroundError:PySem.W.kitOne K (.ref c_NoRoom) (.ref c_GroundError)=some true) (k_NoRoom_NoMark:PySem.W.kitOne K (.ref c_NoRoom) (.ref c_NoMark)=some false) (k_NoRoom_NoPart:PySem.W.kitOne K (.ref c_NoRoom) (.ref c_NoPart)=some false) (x_NoRoom:jS K c_NoRoom) :
    aW P w K mg base (cM P w mg) (k+1) f fd ["_law_one","_law_other"] (dt (dM 3 (gL cz)) 2):=by
  refine ax W pd (G:=["beside","NoRoom","int","isinstance","GroundError","NoPart","NoMark"]) (by decide +kernel) fun cdv A outer s H E hr T=>?_
  exact (am (kE C10.ok hr T ⟨rfl,rfl⟩ 0 rfl C10.m C10.kp C10.b (have T:=T.nox;(ae (ad T 0 rfl) (ae (ad T 1 rfl) al))) (ag (ag ao)) (jT.cons m_NoRoom (mF T 1 rfl m_NoRoom q_NoRoom q_NoRoom b_NoRoom_NoRoom 2 rfl rfl (f:=fun p=>(e2 jh (eC (.str (PySem.Str.ofString "room"))) (e1 j9 (jc (lE 2 p) (mC (ig 2 p)))))) (fun p ob hc T=>((kG (aa dc) (aa (jw T 2 rfl b_int (aa (dR (l8 T List.mem_cons_self hc 2 rfl 3 rfl b_isinstance 4 rfl m_GroundError k_NoRoom_GroundError) (eV (iB (kF T List.mem_cons_self hc 2 rfl 3 rfl b_isinstance 5 rfl m_NoPart 6 rfl m_NoMark x_NoRoom k_NoRoom_NoPart k_NoRoom_NoMark))))))))).un)) jT.nil)))
theorem se:aL ["ground"] ["ground"] (ak ia):=⟨rfl,rfl,rfl,by decide +kernel,rfl,by decide +kernel,by decide +kernel⟩
theorem rV (W:gi K "marks_of" "marks_of" ia f fd) {t_MARK:Tok} (g_MARK:mg "MARK" = some (.int 1 t_MARK)) :
    aW P w K mg base (cM P w mg) (k+1) f fd ["ground"] (dt (dM 1 (jt)) 1):=by
  refine ax W se (G:=[]) (by decide +kernel) fun cdv A outer s H E hr T=>?_
  exact (am (aw (gU (bp (N:=["place"]) (own:=1) (G:=["MARK"]) (fr:=[]) T rfl rfl (oN:=["ground"]) (on:=(ak ia).names) (by decide +kernel) (bz (ad T 0 rfl)) (bu (by decide)) (fun cl C s' H' fp E' T=>⟨(aO T 0 rfl),da,(ap T.hu (aa (ad T 0 rfl)) (aa (bJ T 0 rfl g_MARK)) (fun _ _=>rfl))⟩)))))
theorem qp:aL ["ground"] ["ground"] (ak gg):=⟨rfl,rfl,rfl,by decide +kernel,rfl,by decide +kernel,by decide +kernel⟩
theorem qf (W:gi K "exchanged" "exchanged" gg f fd) {f6:Addr} {d6:FuncData} {bI:gH} (C6:gI P w K mg base k "marks_of" ["ground"] bI f6 d6) {t_GAIN:Tok} (g_GAIN:mg "GAIN" = some (.int 2 t_GAIN)) {t_GOALS:Tok} (g_GOALS:mg "GOALS" = some (.int 3 t_GOALS)) {t_MARK:Tok} (g_MARK:mg "MARK" = some (.int 1 t_MARK)) {t_MOST_MARK:Tok} (g_MOST_MARK:mg "MOST_MARK" = some (.int 12 t_MOST_MARK)) {t_WHO:Tok} (g_WHO:mg "WHO" = some (.int 0 t_WHO)) (b_tuple:mg "tuple" = none) {c_NoMark:Addr} (m_NoMark:mg "NoMark" = some (.ref c_NoMark)) (q_NoMark:PySem.W.excIn K c_NoMark kZ kI=true) :
    aW P w K mg base (cM P w mg) (k+1) f fd ["ground"] (dt (dM 1 (ir bI)) 1):=by
  refine ax W qp (G:=["MOST_MARK","marks_of","NoMark","tuple"]) (by decide +kernel) fun cdv A outer s H E hr T=>?_
  exact (aj (bG (jX T.hu (aa (bJ T 0 rfl g_MOST_MARK)) (aa (au C6 hr T 1 rfl (ae (ad T 0 rfl) al) rfl (ag ao))) (by with_unfolding_all rfl)) (am (gV T 2 rfl m_NoMark q_NoMark (have T:=T.nox;dc))) bg)
      (am (aw (bQ T 3 rfl b_tuple (cO (bp (N:=["place"]) (own:=1) (G:=["WHO","MARK","GAIN","GOALS"]) (fr:=[]) T rfl rfl (oN:=["ground"]) (on:=(ak gg).names) (by decide +kernel) (bz (ad T 0 rfl)) (bu (by decide)) (fun cl C s' H' fp E' T=>⟨(aO T 0 rfl),da,(de (ae (gz (aa ah) (aa (ap T.hu (aa (ad T 0 rfl)) (aa (bJ T 0 rfl g_WHO)) (fun _ _=>rfl)))) (ae (aR (aa (ap T.hu (aa (ad T 0 rfl)) (aa (bJ T 1 rfl g_MARK)) (fun _ _=>rfl))) (aa ah)) (ae (iA (aa (ap T.hu (aa (ad T 0 rfl)) (aa (bJ T 2 rfl g_GAIN)) (fun _ _=>rfl)))) (ae (ap T.hu (aa (ad T 0 rfl)) (aa (bJ T 3 rfl g_GOALS)) (fun _ _=>rfl)) al)))))⟩)))))))
theorem ly:aL ["_law_ground_here","e"] ["_law_ground_here"] (ak fy):=⟨rfl,rfl,rfl,by decide +kernel,rfl,by decide +kernel,by decide +kernel⟩
theorem ls (W:gi K "_law_exchanged" "_law_exchanged" fy f fd) {f7:Addr} {d7:FuncData} {bf:gH} (C7:gI P w K mg base k "exchanged" ["ground"] bf f7 d7) (b_int:mg "int" = none) (b_isinstance:mg "isinstance" = none) {c_GroundError:Addr} (m_GroundError:mg "GroundError" = some (.ref c_GroundError)) (q_GroundError:PySem.W.excIn K c_GroundError kZ kI=true) {c_NoMark:Addr} (m_NoMark:mg "NoMark" = some (.ref c_NoMark)) (q_NoMark:PySem.W.excIn K c_NoMark kZ kI=true) {c_NoPart:Addr} (m_NoPart:mg "NoPart" = some (.ref c_NoPart)) (q_NoPart:PySem.W.excIn K c_NoPart kZ kI=true) {c_NoRoom:Addr} (m_NoRoom:mg "NoRoom" = some (.ref c_NoRoom)) (q_NoRoom:PySem.W.excIn K c_NoRoom kZ kI=true) (b_NoMark_NoMark:(Value.ref c_NoMark::fu K c_NoMark).contains (.ref c_NoMark)=true) (k_NoMark_GroundError:PySem.W.kitOne K (.ref c_NoMark) (.ref c_GroundError)=some true) (k_NoMark_NoPart:PySem.W.kitOne K (.ref c_NoMark) (.ref c_NoPart)=some false) (k_NoMark_NoRoom:PySem.W.kitOne K (.ref c_NoMark) (.ref c_NoRoom)=some false) (x_NoMark:jS K c_NoMark) :
    aW P w K mg base (cM P w mg) (k+1) f fd ["_law_ground_here"] (dt (dM 2 (e9 bf)) 1):=by
  refine ax W ly (G:=["exchanged","NoMark","int","isinstance","GroundError","NoPart","NoRoom"]) (by decide +kernel) fun cdv A outer s H E hr T=>?_
  exact (am (kE C7.ok hr T ⟨rfl,rfl⟩ 0 rfl C7.m C7.kp C7.b (have T:=T.nox;(ae (ad T 0 rfl) al)) (ag ao) (jT.cons m_NoMark (mF T 1 rfl m_NoMark q_NoMark q_NoMark b_NoMark_NoMark 1 rfl rfl (f:=fun p=>(e2 jh (eC (.str (PySem.Str.ofString "mark"))) (e1 j9 (jc (lE 1 p) (mC (ig 1 p)))))) (fun p ob hc T=>((kG (aa dc) (aa (jw T 2 rfl b_int (aa (dR (l8 T List.mem_cons_self hc 1 rfl 3 rfl b_isinstance 4 rfl m_GroundError k_NoMark_GroundError) (eV (iB (kF T List.mem_cons_self hc 1 rfl 3 rfl b_isinstance 5 rfl m_NoPart 6 rfl m_NoRoom x_NoMark k_NoMark_NoPart k_NoMark_NoRoom))))))))).un)) jT.nil)))
theorem nD:aL ["_law_script","_law_k"] ["_law_script","_law_k"] (ak gr):=⟨rfl,rfl,rfl,by decide +kernel,rfl,by decide +kernel,by decide +kernel⟩
theorem nB (W:gi K "_law_cell_at" "_law_cell_at" gr f fd) (b_len:mg "len" = none) :
    aW P w K mg base (cM P w mg) (k+1) f fd ["_law_script","_law_k"] (dt (dM 2 (gk)) 2):=by
  refine ax W nD (G:=["len"]) (by decide +kernel) fun cdv A outer s H E hr T=>?_
  exact (aj (bG (qE (aa (ad T 1 rfl)) (aa (cg T 0 rfl b_len (aa (ad T 0 rfl))))) (am (aw (ap T.hu (aa (ad T 0 rfl)) (aa (ad T 1 rfl)) (fun _ _=>rfl)))) bg)
      (am (aw ah)))
theorem qu:aL ["_law_script","_law_k","_law_drawn_here"] ["_law_script","_law_k"] (ak iN):=⟨rfl,rfl,rfl,by decide +kernel,rfl,by decide +kernel,by decide +kernel⟩
theorem qk (W:gi K "_law_mixed" "_law_mixed" iN f fd) {f13:Addr} {d13:FuncData} {bX:gH} (C13:gI P w K mg base k "_law_cell_at" ["_law_script","_law_k"] bX f13 d13) :
    aW P w K mg base (cM P w mg) (k+1) f fd ["_law_script","_law_k"] (dt (dM 3 (ix bX)) 2):=by
  refine ax W qu (G:=["_law_cell_at"]) (by decide +kernel) fun cdv A outer s H E hr T=>?_
  exact (aj (aF T 2 rfl (bP (aa (eE (aa (aR (aa (aR (aa (au C13 hr T 0 rfl (ae (ad T 0 rfl) (ae (ad T 1 rfl) al)) rfl (ag (ag ao)))) (aa (eE (aa ah) (aa (ad T 1 rfl)))))) (aa ah))) (aa ah))) (aa ah)))
      (am (aw (bP (aa (aR (aa (aR (aa (eE (aa (ad T 2 rfl)) (aa (ad T 2 rfl)))) (aa (eE (aa ah) (aa (ad T 2 rfl)))))) (aa (ad T 1 rfl)))) (aa ah)))))
theorem qr:aL ["_law_number_here","_law_k","_law_drawn_here"] ["_law_number_here","_law_k"] (ak iL):=⟨rfl,rfl,rfl,by decide +kernel,rfl,by decide +kernel,by decide +kernel⟩
theorem qg (W:gi K "_law_drawn" "_law_drawn" iL f fd) :
    aW P w K mg base (cM P w mg) (k+1) f fd ["_law_number_here","_law_k"] (dt (dM 3 (iu)) 2):=by
  refine ax W qr (G:=[]) (by decide +kernel) fun cdv A outer s H E hr T=>?_
  exact (aj (aF T 2 rfl (bP (aa (eE (aa (aR (aa (aR (aa (ad T 0 rfl)) (aa (eE (aa ah) (aa (ad T 1 rfl)))))) (aa ah))) (aa ah))) (aa ah)))
      (am (aw (bP (aa (aR (aa (aR (aa (eE (aa (ad T 2 rfl)) (aa (ad T 2 rfl)))) (aa (eE (aa ah) (aa (ad T 2 rfl)))))) (aa (ad T 1 rfl)))) (aa ah)))))
theorem qt:aL ["_law_number_here","_law_count","_law_found","_law_k"] ["_law_number_here","_law_count"] (ak iM):=⟨rfl,rfl,rfl,by decide +kernel,rfl,by decide +kernel,by decide +kernel⟩
theorem qh (W:gi K "_law_goals" "_law_goals" iM f fd) {f15:Addr} {d15:FuncData} {aA:gH} (C15:gI P w K mg base k "_law_drawn" ["_law_number_here","_law_k"] aA f15 d15) (b_int:mg "int" = none) (b_range:mg "range" = none) (b_sorted:mg "sorted" = none) (b_tuple:mg "tuple" = none) :
    aW P w K mg base (cM P w mg) (k+1) f fd ["_law_number_here","_law_count"] (dt (dM 4 (iw aA)) 2):=by
  refine ax W qt (G:=["range","int","_law_drawn","tuple","sorted"]) (by decide +kernel) fun cdv A outer s H E hr T=>?_
  exact (aj (jV T 2 rfl iC)
      (aj (dL (have T:=T.nox;eU PassesOwn.never T.calm (fV T 0 rfl b_range (ae (aR (aa (aR (aa ah) (aa (bP (aa (ad T 0 rfl)) (aa ah))))) (aa (eE (aa ah) (aa (nR T 1 rfl b_int (aa (lL T.hu (aa (bP (aa (gy (aa (ad T 0 rfl)) (aa ah))) (aa ah))) (aa ah)))))))) al) (ag ao)) (aO T 3 rfl) (am (l6 T 2 rfl (bP (aa (au C15 hr T 2 rfl (ae (ad T 0 rfl) (ae (ad T 3 rfl) al)) rfl (ag (ag ao)))) (aa (ad T 1 rfl))) aZ))))
      (am (aw (bQ T 3 rfl b_tuple (cO (jW T 4 rfl b_sorted (cA T 2 rfl))))))))
theorem qv:aL ["_law_number_here","_law_count","_law_high","_law_gain"] ["_law_number_here","_law_count","_law_high"] (ak iO):=⟨rfl,rfl,rfl,by decide +kernel,rfl,by decide +kernel,by decide +kernel⟩
theorem ql (W:gi K "_law_place" "_law_place" iO f fd) {f15:Addr} {d15:FuncData} {aA:gH} (C15:gI P w K mg base k "_law_drawn" ["_law_number_here","_law_k"] aA f15 d15) {f16:Addr} {d16:FuncData} {cF:gH} (C16:gI P w K mg base k "_law_goals" ["_law_number_here","_law_count"] cF f16 d16) :
    aW P w K mg base (cM P w mg) (k+1) f fd ["_law_number_here","_law_count","_law_high"] (dt (dM 4 (iy aA cF)) 3):=by
  refine ax W qv (G:=["_law_goals","_law_drawn"]) (by decide +kernel) fun cdv A outer s H E hr T=>?_
  exact (aj (aF T 3 rfl (gz (aa (bP (aa (gy (aa (ad T 0 rfl)) (aa ah))) (aa ah))) (aa ah)))
      (aj (bG (iE T.hu (aa (bP (aa (gy (aa (ad T 0 rfl)) (aa ah))) (aa ah))) (aa ah)) (am (aF T 3 rfl (gz (aa (bP (aa (gy (aa (ad T 0 rfl)) (aa ah))) (aa ah))) (aa ah)))) bg)
      (am (aw (de (ae (bP (aa (ad T 0 rfl)) (aa ah)) (ae (bP (aa (gy (aa (ad T 0 rfl)) (aa ah))) (aa (aR (aa (ad T 2 rfl)) (aa ah)))) (ae (ad T 3 rfl) (ae (au C16 hr T 0 rfl (ae (au C15 hr T 1 rfl (ae (ad T 0 rfl) (ae ah al)) rfl (ag (ag ao))) (ae (ad T 1 rfl) al)) rfl (ag (ag ao))) al)))))))))
theorem pf:aL ["_law_script","_law_most","_law_number_here","_law_count","_law_high"] ["_law_script","_law_most"] (ak fH):=⟨rfl,rfl,rfl,by decide +kernel,rfl,by decide +kernel,by decide +kernel⟩
theorem oX (W:gi K "_law_ground" "_law_ground" fH f fd) {f14:Addr} {d14:FuncData} {aQ:gH} (C14:gI P w K mg base k "_law_mixed" ["_law_script","_law_k"] aQ f14 d14) {f17:Addr} {d17:FuncData} {cr:gH} (C17:gI P w K mg base k "_law_place" ["_law_number_here","_law_count","_law_high"] cr f17 d17) (b_len:mg "len" = none) (b_max:mg "max" = none) (b_min:mg "min" = none) (b_range:mg "range" = none) (b_tuple:mg "tuple" = none) :
    aW P w K mg base (cM P w mg) (k+1) f fd ["_law_script","_law_most"] (dt (dM 5 (gM aQ cr)) 2):=by
  refine ax W pf (G:=["_law_mixed","min","max","len","tuple","range"]) (by decide +kernel) fun cdv A outer s H E hr T=>?_
  exact (aj (aF T 2 rfl (au C14 hr T 0 rfl (ae (ad T 0 rfl) (ae ah al)) rfl (ag (ag ao))))
      (aj (aF T 3 rfl (aR (aa ah) (aa (bP (aa (ad T 2 rfl)) (aa (v7 T 1 rfl b_min (aa (ad T 1 rfl)) (aa (v4 T 2 rfl b_max (aa ah) (aa (cg T 3 rfl b_len (aa (ad T 0 rfl))))))))))))
      (aj (aF T 4 rfl (ap T.hu (cO (iQ (ae ah (ae ah (ae ah (ae ah (ae ah (ae ah al)))))))) (aa (bP (aa (gy (aa (ad T 2 rfl)) (aa ah))) (aa ah))) (fun _ _=>rfl)))
      (am (aw (bQ T 4 rfl b_tuple (cO (bp (N:=["_law_k","_law_script","_law_count","_law_high"]) (own:=1) (G:=["_law_place","_law_mixed"]) (fr:=[0,3,4]) T rfl rfl (oN:=["_law_script","_law_most","_law_number_here","_law_count","_law_high"]) (on:=(ak fH).names) (by decide +kernel) (fV T 5 rfl b_range (ae (ad T 3 rfl) al) (ag ao)) (bu (by decide)) (fun cl C s' H' fp E' T=>⟨(aO T 0 rfl),da,(au C17 hr T 0 rfl (ae (au C14 hr T 1 rfl (ae (ad T 1 rfl) (ae (aR (aa ah) (aa (ad T 0 rfl))) al)) rfl (ag (ag ao))) (ae (ad T 2 rfl) (ae (ad T 3 rfl) al))) rfl (ag (ag (ag ao))))⟩)))))))))
theorem ph:aL ["_law_thing","_law_low","_law_high"] ["_law_thing","_law_low","_law_high"] (ak h7):=⟨rfl,rfl,rfl,by decide +kernel,rfl,by decide +kernel,by decide +kernel⟩
theorem oY (W:gi K "_law_number" "_law_number" h7 f fd) (b_bool:mg "bool" = none) (b_int:mg "int" = none) (b_isinstance:mg "isinstance" = none) :
    aW P w K mg base (cM P w mg) (k+1) f fd ["_law_thing","_law_low","_law_high"] (dt (dM 3 (gN)) 3):=by
  refine ax W ph (G:=["isinstance","int","bool"]) (by decide +kernel) fun cdv A outer s H E hr T=>?_
  exact (am (aw (dR (gW T 0 rfl b_isinstance T 1 rfl b_int (aa (ad T 0 rfl))) (dR (iB (eT T 0 rfl b_isinstance T 2 rfl b_bool (aa (ad T 0 rfl)))) (eV (l7 t6 fR t6 fR (aa (ad T 1 rfl)) (aa (ad T 0 rfl)) (aa (ad T 2 rfl))))))))
theorem pk:aL ["_law_found","_law_count","_law_last","_law_part_here"] ["_law_found","_law_count"] (ak h8):=⟨rfl,rfl,rfl,by decide +kernel,rfl,by decide +kernel,by decide +kernel⟩
theorem oZ (W:gi K "_law_rising" "_law_rising" h8 f fd) (b_bool:mg "bool" = none) (b_int:mg "int" = none) (b_isinstance:mg "isinstance" = none) (b_tuple:mg "tuple" = none) :
    aW P w K mg base (cM P w mg) (k+1) f fd ["_law_found","_law_count"] (dt (dM 4 (gP)) 2):=by
  refine ax W pk (G:=["isinstance","tuple","int","bool"]) (by decide +kernel) fun cdv A outer s H E hr T=>?_
  exact (aj (bG (bq (bj (dz T 0 rfl b_isinstance T 1 rfl b_tuple (aa (ad T 0 rfl))))) (am (aw aZ)) bg)
      (aj (aF T 2 rfl (iA (aa ah)))
      (aj (dL (have T:=T.nox;eU PassesOwn.never T.calm (bz (ad T 0 rfl)) (aO T 3 rfl) (aj (bG (eD (df (bq (bj (gW T 0 rfl b_isinstance T 2 rfl b_int (aa (ad T 3 rfl))))) (df (bj (eT T 0 rfl b_isinstance T 3 rfl b_bool (aa (ad T 3 rfl)))) (dj (bq (kX ri fR ri fR (aa (ad T 2 rfl)) (aa (ad T 3 rfl)) (aa (ad T 1 rfl)))))))) (am (aw aZ)) bg)
      (am (aF T 2 rfl (ad T 3 rfl))))))
      (am (aw aZ)))))
theorem l5:aL ["_law_thing","_law_count"] ["_law_thing","_law_count"] (ak fP):=⟨rfl,rfl,rfl,by decide +kernel,rfl,by decide +kernel,by decide +kernel⟩
theorem lY (W:gi K "_law_is_place" "_law_is_place" fP f fd) {f23:Addr} {d23:FuncData} {bN:gH} (C23:gI P w K mg base k "_law_number" ["_law_thing","_law_low","_law_high"] bN f23 d23) {f22:Addr} {d22:FuncData} {cn:gH} (C22:gI P w K mg base k "_law_rising" ["_law_found","_law_count"] cn f22 d22) (b_isinstance:mg "isinstance" = none) (b_len:mg "len" = none) (b_tuple:mg "tuple" = none) :
    aW P w K mg base (cM P w mg) (k+1) f fd ["_law_thing","_law_count"] (dt (dM 2 (fK bN cn)) 2):=by
  refine ax W l5 (G:=["isinstance","tuple","len","_law_number","_law_rising"]) (by decide +kernel) fun cdv A outer s H E hr T=>?_
  exact (aj (bG (eD (df (bq (bj (dz T 0 rfl b_isinstance T 1 rfl b_tuple (aa (ad T 0 rfl))))) (df (dA T.hu (aa (cg T 2 rfl b_len (aa (ad T 0 rfl)))) (aa ah)) (dj (bq (bj (au C23 hr T 3 rfl (ae (ap T.hu (aa (ad T 0 rfl)) (aa ah) (fun _ _=>rfl)) (ae ah (ae ah al))) rfl (ag (ag (ag ao)))))))))) (am (aw aZ)) bg)
      (aj (bG (eD (df (bq (bj (au C23 hr T 3 rfl (ae (ap T.hu (aa (ad T 0 rfl)) (aa ah) (fun _ _=>rfl)) (ae ah (ae ah al))) rfl (ag (ag (ag ao)))))) (dj (bq (bj (au C23 hr T 3 rfl (ae (ap T.hu (aa (ad T 0 rfl)) (aa ah) (fun _ _=>rfl)) (ae (iA (aa ah)) (ae ah al))) rfl (ag (ag (ag ao))))))))) (am (aw aZ)) bg)
      (am (aw (dR (au C22 hr T 4 rfl (ae (ap T.hu (aa (ad T 0 rfl)) (aa ah) (fun _ _=>rfl)) (ae (ad T 1 rfl) al)) rfl (ag (ag ao))) (eV (pC T.hu (aa (ap T.hu (aa (ad T 0 rfl)) (aa ah) (fun _ _=>rfl))) (aa (de al)))))))))
theorem lA:aL ["_law_thing"] ["_law_thing"] (ak dZ):=⟨rfl,rfl,rfl,by decide +kernel,rfl,by decide +kernel,by decide +kernel⟩
theorem lu (W:gi K "_law_is_ground" "_law_is_ground" dZ f fd) {f24:Addr} {d24:FuncData} {bw:gH} (C24:gI P w K mg base k "_law_is_place" ["_law_thing","_law_count"] bw f24 d24) (b_isinstance:mg "isinstance" = none) (b_len:mg "len" = none) (b_tuple:mg "tuple" = none) :
    aW P w K mg base (cM P w mg) (k+1) f fd ["_law_thing"] (dt (dM 1 (fg bw)) 1):=by
  refine ax W lA (G:=["isinstance","tuple","len"]) (by decide +kernel) fun cdv A outer s H E hr T=>?_
  exact (aj (bG (eD (df (bq (bj (dz T 0 rfl b_isinstance T 1 rfl b_tuple (aa (ad T 0 rfl))))) (dj (bq (kX ri fR ri fR (aa ah) (aa (cg T 2 rfl b_len (aa (ad T 0 rfl)))) (aa ah)))))) (am (aw aZ)) bg)
      (am (aw (lL T.hu (cO (bp (N:=["_law_part_here","_law_thing"]) (own:=1) (G:=["_law_is_place","len"]) (fr:=[0]) T rfl rfl (oN:=["_law_thing"]) (on:=(ak dZ).names) (by decide +kernel) (bz (ad T 0 rfl)) (bu (by decide)) (fun cl C s' H' fp E' T=>⟨(aO T 0 rfl),(gx (bq (bj (au C24 hr T 0 rfl (ae (ad T 0 rfl) (ae (cg T 1 rfl b_len (aa (ad T 1 rfl))) al)) rfl (ag (ag ao)))))),(ad T 0 rfl)⟩))) (cO (iQ al))))))
theorem r0:aL ["thing"] ["thing"] (ak jO):=⟨rfl,rfl,rfl,by decide +kernel,rfl,by decide +kernel,by decide +kernel⟩
theorem rR (W:gi K "is_whole" "is_whole" jO f fd) (b_bool:mg "bool" = none) (b_int:mg "int" = none) (b_isinstance:mg "isinstance" = none) :
    aW P w K mg base (cM P w mg) (k+1) f fd ["thing"] (dt (dM 1 (l4)) 1):=by
  refine ax W r0 (G:=["isinstance","int","bool"]) (by decide +kernel) fun cdv A outer s H E hr T=>?_
  exact (am (aw (dR (gW T 0 rfl b_isinstance T 1 rfl b_int (aa (ad T 0 rfl))) (eV (iB (eT T 0 rfl b_isinstance T 2 rfl b_bool (aa (ad T 0 rfl))))))))
theorem pb:aL ["thing","low","high"] ["thing","low","high"] (ak hW):=⟨rfl,rfl,rfl,by decide +kernel,rfl,by decide +kernel,by decide +kernel⟩
theorem oV (W:gi K "is_between" "is_between" hW f fd) {f0:Addr} {d0:FuncData} {dw:gH} (C0:gI P w K mg base k "is_whole" ["thing"] dw f0 d0) :
    aW P w K mg base (cM P w mg) (k+1) f fd ["thing","low","high"] (dt (dM 3 (gK dw)) 3):=by
  refine ax W pb (G:=["is_whole"]) (by decide +kernel) fun cdv A outer s H E hr T=>?_
  exact (am (aw (dR (au C0 hr T 0 rfl (ae (ad T 0 rfl) al) rfl (ag ao)) (eV (l7 t6 fR t6 fR (aa (ad T 1 rfl)) (aa (ad T 0 rfl)) (aa (ad T 2 rfl)))))))
theorem rZ:aL ["thing","count","least","number"] ["thing","count"] (ak jN):=⟨rfl,rfl,rfl,by decide +kernel,rfl,by decide +kernel,by decide +kernel⟩
theorem rQ (W:gi K "are_some" "are_some" jN f fd) {f1:Addr} {d1:FuncData} {bW:gH} (C1:gI P w K mg base k "is_between" ["thing","low","high"] bW f1 d1) (b_isinstance:mg "isinstance" = none) (b_tuple:mg "tuple" = none) :
    aW P w K mg base (cM P w mg) (k+1) f fd ["thing","count"] (dt (dM 4 (jq bW)) 2):=by
  refine ax W rZ (G:=["isinstance","tuple","is_between"]) (by decide +kernel) fun cdv A outer s H E hr T=>?_
  exact (aj (bG (bq (bj (dz T 0 rfl b_isinstance T 1 rfl b_tuple (aa (ad T 0 rfl))))) (am (aw aZ)) bg)
      (aj (aF T 2 rfl ah)
      (aj (dL (have T:=T.nox;eU PassesOwn.never T.calm (bz (ad T 0 rfl)) (aO T 3 rfl) (aj (bG (bq (bj (au C1 hr T 2 rfl (ae (ad T 3 rfl) (ae (ad T 2 rfl) (ae (gz (aa (ad T 1 rfl)) (aa ah)) al))) rfl (ag (ag (ag ao)))))) (am (aw aZ)) bg)
      (am (aF T 2 rfl (aR (aa (ad T 3 rfl)) (aa ah)))))))
      (am (aw aZ)))))
theorem vX:aL ["some","others"] ["some","others"] (ak ku):=⟨rfl,rfl,rfl,by decide +kernel,rfl,by decide +kernel,by decide +kernel⟩
theorem vS (W:gi K "common" "common" ku f fd) (b_tuple:mg "tuple" = none) :
    aW P w K mg base (cM P w mg) (k+1) f fd ["some","others"] (dt (dM 2 (l3)) 2):=by
  refine ax W vX (G:=["tuple"]) (by decide +kernel) fun cdv A outer s H E hr T=>?_
  exact (am (aw (bQ T 0 rfl b_tuple (cO (bp (N:=["number","others"]) (own:=1) (G:=[]) (fr:=[1]) T rfl rfl (oN:=["some","others"]) (on:=(ak ku).names) (by decide +kernel) (bz (ad T 0 rfl)) (bu (by decide)) (fun cl C s' H' fp E' T=>⟨(aO T 0 rfl),(gx (jX T.hu (aa (ad T 0 rfl)) (aa (ad T 1 rfl)) (by with_unfolding_all rfl))),(ad T 0 rfl)⟩))))))
theorem o9:aL ["place","inside"] ["place","inside"] (ak fG):=⟨rfl,rfl,rfl,by decide +kernel,rfl,by decide +kernel,by decide +kernel⟩
theorem oU (W:gi K "goals_anew" "goals_anew" fG f fd) {f3:Addr} {d3:FuncData} {cf:gH} (C3:gI P w K mg base k "common" ["some","others"] cf f3 d3) {t_GOALS:Tok} (g_GOALS:mg "GOALS" = some (.int 3 t_GOALS)) :
    aW P w K mg base (cM P w mg) (k+1) f fd ["place","inside"] (dt (dM 2 (gJ cf)) 2):=by
  refine ax W o9 (G:=["common","GOALS"]) (by decide +kernel) fun cdv A outer s H E hr T=>?_
  exact (am (aw (gU (bp (N:=["goal","inside"]) (own:=1) (G:=[]) (fr:=[1]) T rfl rfl (oN:=["place","inside"]) (on:=(ak fG).names) (by decide +kernel) (bz (au C3 hr T 0 rfl (ae (ap T.hu (aa (ad T 0 rfl)) (aa (bJ T 1 rfl g_GOALS)) (fun _ _=>rfl)) (ae (ad T 1 rfl) al)) rfl (ag (ag ao)))) (bu (by decide)) (fun cl C s' H' fp E' T=>⟨(aO T 0 rfl),da,(qA (aa (ad T 1 rfl)) (ad T 0 rfl))⟩)))))
theorem lx:aL ["ground","inside"] ["ground","inside"] (ak dY):=⟨rfl,rfl,rfl,by decide +kernel,rfl,by decide +kernel,by decide +kernel⟩
theorem lr (W:gi K "is_whole_part" "is_whole_part" dY f fd) {f3:Addr} {d3:FuncData} {cf:gH} (C3:gI P w K mg base k "common" ["some","others"] cf f3 d3) {t_GOALS:Tok} (g_GOALS:mg "GOALS" = some (.int 3 t_GOALS)) (b_all:mg "all" = none) (b_len:mg "len" = none) :
    aW P w K mg base (cM P w mg) (k+1) f fd ["ground","inside"] (dt (dM 2 (e8 cf)) 2):=by
  refine ax W lx (G:=["all"]) (by decide +kernel) fun cdv A outer s H E hr T=>?_
  exact (am (aw (v3 T 0 rfl b_all (cO (bp (N:=["number","ground","inside"]) (own:=1) (G:=["len","common","GOALS"]) (fr:=[0,1]) T rfl rfl (oN:=["ground","inside"]) (on:=(ak dY).names) (by decide +kernel) (bz (ad T 1 rfl)) (bu (by decide)) (fun cl C s' H' fp E' T=>⟨(aO T 0 rfl),da,(yA (aa (cg T 0 rfl b_len (aa (au C3 hr T 1 rfl (ae (ap T.hu (aa (ap T.hu (aa (ad T 1 rfl)) (aa (ad T 0 rfl)) (fun _ _=>rfl))) (aa (bJ T 2 rfl g_GOALS)) (fun _ _=>rfl)) (ae (ad T 2 rfl) al)) rfl (ag (ag ao)))))) (aa ah))⟩))))))
theorem ur:aL ["ground","inside"] ["ground","inside"] (ak i7):=⟨rfl,rfl,rfl,by decide +kernel,rfl,by decide +kernel,by decide +kernel⟩
theorem um (W:gi K "part_of" "part_of" i7 f fd) {f2:Addr} {d2:FuncData} {cK:gH} (C2:gI P w K mg base k "are_some" ["thing","count"] cK f2 d2) {f11:Addr} {d11:FuncData} {bM:gH} (C11:gI P w K mg base k "goals_anew" ["place","inside"] bM f11 d11) {f4:Addr} {d4:FuncData} {bA:gH} (C4:gI P w K mg base k "is_whole_part" ["ground","inside"] bA f4 d4) {f5:Addr} {d5:FuncData} {aG:gH} (C5:gI P w K mg base k "with_goals" ["place","goals"] aG f5 d5) (b_len:mg "len" = none) (b_tuple:mg "tuple" = none) {c_NoPart:Addr} (m_NoPart:mg "NoPart" = some (.ref c_NoPart)) (q_NoPart:PySem.W.excIn K c_NoPart kZ kI=true) :
    aW P w K mg base (cM P w mg) (k+1) f fd ["ground","inside"] (dt (dM 2 (kA cK bM bA aG)) 2):=by
  refine ax W ur (G:=["are_some","len","NoPart","is_whole_part","tuple"]) (by decide +kernel) fun cdv A outer s H E hr T=>?_
  exact (aj (bG (eD (df (bq (bj (au C2 hr T 0 rfl (ae (ad T 1 rfl) (ae (cg T 1 rfl b_len (aa (ad T 0 rfl))) al)) rfl (ag (ag ao))))) (dj (iE T.hu (aa (cg T 1 rfl b_len (aa (ad T 1 rfl)))) (aa ah))))) (am (gV T 2 rfl m_NoPart q_NoPart (have T:=T.nox;dc))) bg)
      (aj (bG (bq (bj (au C4 hr T 3 rfl (ae (ad T 0 rfl) (ae (ad T 1 rfl) al)) rfl (ag (ag ao))))) (am (gV T 2 rfl m_NoPart q_NoPart (have T:=T.nox;dc))) bg)
      (am (aw (bQ T 4 rfl b_tuple (cO (bp (N:=["number","ground","inside"]) (own:=1) (G:=["with_goals","goals_anew"]) (fr:=[0,1]) T rfl rfl (oN:=["ground","inside"]) (on:=(ak i7).names) (by decide +kernel) (bz (ad T 1 rfl)) (bu (by decide)) (fun cl C s' H' fp E' T=>⟨(aO T 0 rfl),da,(au C5 hr T 0 rfl (ae (ap T.hu (aa (ad T 1 rfl)) (aa (ad T 0 rfl)) (fun _ _=>rfl)) (ae (au C11 hr T 1 rfl (ae (ap T.hu (aa (ad T 1 rfl)) (aa (ad T 0 rfl)) (fun _ _=>rfl)) (ae (ad T 2 rfl) al)) rfl (ag (ag ao))) al)) rfl (ag (ag ao)))⟩))))))))
theorem r8:aL ["_law_ground_here","_law_inside","e"] ["_law_ground_here","_law_inside"] (ak jP):=⟨rfl,rfl,rfl,by decide +kernel,rfl,by decide +kernel,by decide +kernel⟩
theorem rS (W:gi K "_law_part" "_law_part" jP f fd) {f12:Addr} {d12:FuncData} {cP:gH} (C12:gI P w K mg base k "part_of" ["ground","inside"] cP f12 d12) (b_int:mg "int" = none) (b_isinstance:mg "isinstance" = none) {c_GroundError:Addr} (m_GroundError:mg "GroundError" = some (.ref c_GroundError)) (q_GroundError:PySem.W.excIn K c_GroundError kZ kI=true) {c_NoMark:Addr} (m_NoMark:mg "NoMark" = some (.ref c_NoMark)) (q_NoMark:PySem.W.excIn K c_NoMark kZ kI=true) {c_NoPart:Addr} (m_NoPart:mg "NoPart" = some (.ref c_NoPart)) (q_NoPart:PySem.W.excIn K c_NoPart kZ kI=true) {c_NoRoom:Addr} (m_NoRoom:mg "NoRoom" = some (.ref c_NoRoom)) (q_NoRoom:PySem.W.excIn K c_NoRoom kZ kI=true) (b_NoPart_NoPart:(Value.ref c_NoPart::fu K c_NoPart).contains (.ref c_NoPart)=true) (k_NoPart_GroundError:PySem.W.kitOne K (.ref c_NoPart) (.ref c_GroundError)=some true) (k_NoPart_NoMark:PySem.W.kitOne K (.ref c_NoPart) (.ref c_NoMark)=some false) (k_NoPart_NoRoom:PySem.W.kitOne K (.ref c_NoPart) (.ref c_NoRoom)=some false) (x_NoPart:jS K c_NoPart) :
    aW P w K mg base (cM P w mg) (k+1) f fd ["_law_ground_here","_law_inside"] (dt (dM 3 (gO cP)) 2):=by
  refine ax W r8 (G:=["part_of","NoPart","int","isinstance","GroundError","NoMark","NoRoom"]) (by decide +kernel) fun cdv A outer s H E hr T=>?_
  exact (am (kE C12.ok hr T ⟨rfl,rfl⟩ 0 rfl C12.m C12.kp C12.b (have T:=T.nox;(ae (ad T 0 rfl) (ae (ad T 1 rfl) al))) (ag (ag ao)) (jT.cons m_NoPart (mF T 1 rfl m_NoPart q_NoPart q_NoPart b_NoPart_NoPart 2 rfl rfl (f:=fun p=>(e2 jh (eC (.str (PySem.Str.ofString "part"))) (e1 j9 (jc (lE 2 p) (mC (ig 2 p)))))) (fun p ob hc T=>((kG (aa dc) (aa (jw T 2 rfl b_int (aa (dR (l8 T List.mem_cons_self hc 2 rfl 3 rfl b_isinstance 4 rfl m_GroundError k_NoPart_GroundError) (eV (iB (kF T List.mem_cons_self hc 2 rfl 3 rfl b_isinstance 5 rfl m_NoMark 6 rfl m_NoRoom x_NoPart k_NoPart_NoMark k_NoPart_NoRoom))))))))).un)) jT.nil)))
theorem ju:aL ["_law_ground_here","_law_found","_law_new","_law_old","_law_place_here","_law_last","_law_mark"] ["_law_ground_here","_law_found"] (ak eA):=⟨rfl,rfl,rfl,by decide +kernel,rfl,by decide +kernel,by decide +kernel⟩
theorem jn (W:gi K "_law_pressed_well" "_law_pressed_well" eA f fd) (b_bool:mg "bool" = none) (b_int:mg "int" = none) (b_isinstance:mg "isinstance" = none) (b_len:mg "len" = none) (b_sorted:mg "sorted" = none) (b_tuple:mg "tuple" = none) (b_zip:mg "zip" = none) :
    aW P w K mg base (cM P w mg) (k+1) f fd ["_law_ground_here","_law_found"] (dt (dM 7 (ee)) 2):=by
  refine ax W ju (G:=["isinstance","tuple","len","zip","bool","sorted","int"]) (by decide +kernel) fun cdv A outer s H E hr T=>?_
  exact (aj (bG (eD (df (bq (bj (dz T 0 rfl b_isinstance T 1 rfl b_tuple (aa (ad T 1 rfl))))) (dj (dA T.hu (aa (cg T 2 rfl b_len (aa (ad T 1 rfl)))) (aa (cg T 2 rfl b_len (aa (ad T 0 rfl)))))))) (am (aw aZ)) bg)
      (aj (jV T 2 rfl iC)
      (aj (dL (have T:=T.nox;eU PassesOwn.never T.calm (vZ T 3 rfl b_zip (ad T 0 rfl) (ad T 1 rfl)) (ux T 3 4 rfl rfl) (aj (bG (eD (df (dA T.hu (aa (ad T 4 rfl)) (aa (de (ae (ap T.hu (aa (ad T 3 rfl)) (aa ah) (fun _ _=>rfl)) (ae (ap T.hu (aa (ad T 4 rfl)) (aa ah) (fun _ _=>rfl)) (ae (ap T.hu (aa (ad T 3 rfl)) (aa ah) (fun _ _=>rfl)) (ae (ap T.hu (aa (ad T 3 rfl)) (aa ah) (fun _ _=>rfl)) al))))))) (dj (bj (eT T 0 rfl b_isinstance T 4 rfl b_bool (aa (ap T.hu (aa (ad T 4 rfl)) (aa ah) (fun _ _=>rfl)))))))) (am (aw aZ)) bg)
      (aj (bG (dA T.hu (aa (uB T.hu (cA T 2 rfl) (ap T.hu (aa (ad T 3 rfl)) (aa ah) (fun _ _=>rfl)) (ap T.hu (aa (ad T 4 rfl)) (aa ah) (fun _ _=>rfl)))) (aa (ap T.hu (aa (ad T 4 rfl)) (aa ah) (fun _ _=>rfl)))) (am (aw aZ)) bg)
      (am (l6 T 2 rfl (ap T.hu (aa (ad T 3 rfl)) (aa ah) (fun _ _=>rfl)) (ap T.hu (aa (ad T 4 rfl)) (aa ah) (fun _ _=>rfl))))))))
      (aj (aF T 5 rfl (iA (aa ah)))
      (aj (dL (have T:=T.nox;eU PassesOwn.never T.calm (bz (gU (jW T 5 rfl b_sorted (cA T 2 rfl)))) (aO T 6 rfl) (aj (bG (dA T.hu (aa (ap T.hu (cA T 2 rfl) (aa (ad T 6 rfl)) (fun _ _=>rfl))) (aa (aR (aa (aR (aa (ad T 5 rfl)) (aa ah))) (aa (nR T 6 rfl b_int (aa (pC T.hu (aa (bP (aa (aR (aa (ad T 5 rfl)) (aa ah))) (aa ah))) (aa (bP (aa (ad T 6 rfl)) (aa ah)))))))))) (am (aw aZ)) bg)
      (am (aF T 5 rfl (ap T.hu (cA T 2 rfl) (aa (ad T 6 rfl)) (fun _ _=>rfl)))))))
      (am (aw aZ)))))))
theorem r9:aL ["_law_number_here","_law_count","_law_kind"] ["_law_number_here","_law_count"] (ak h9):=⟨rfl,rfl,rfl,by decide +kernel,rfl,by decide +kernel,by decide +kernel⟩
theorem rT (W:gi K "_law_some" "_law_some" h9 f fd) {f15:Addr} {d15:FuncData} {aA:gH} (C15:gI P w K mg base k "_law_drawn" ["_law_number_here","_law_k"] aA f15 d15) (b_range:mg "range" = none) (b_tuple:mg "tuple" = none) :
    aW P w K mg base (cM P w mg) (k+1) f fd ["_law_number_here","_law_count"] (dt (dM 3 (jr aA)) 2):=by
  refine ax W r9 (G:=["tuple","range"]) (by decide +kernel) fun cdv A outer s H E hr T=>?_
  exact (aj (aF T 2 rfl (bP (aa (ad T 0 rfl)) (aa ah)))
      (am (aw (bQ T 0 rfl b_tuple (cO (bp (N:=["_law_k","_law_kind","_law_number_here"]) (own:=1) (G:=["_law_drawn"]) (fr:=[2,0]) T rfl rfl (oN:=["_law_number_here","_law_count","_law_kind"]) (on:=(ak h9).names) (by decide +kernel) (fV T 1 rfl b_range (ae (ad T 1 rfl) al) (ag ao)) (bu (by decide)) (fun cl C s' H' fp E' T=>⟨(aO T 0 rfl),(gx (eD (df (iE T.hu (aa (ad T 1 rfl)) (aa ah)) (dj (qE (aa (bP (aa (au C15 hr T 0 rfl (ae (ad T 2 rfl) (ae (ad T 0 rfl) al)) rfl (ag (ag ao)))) (aa ah))) (aa (ad T 1 rfl))))))),(ad T 0 rfl)⟩)))))))
theorem pr:aL ["_law_ground_here","_law_place_here","_law_inside"] ["_law_ground_here","_law_place_here","_law_inside"] (ak fI):=⟨rfl,rfl,rfl,by decide +kernel,rfl,by decide +kernel,by decide +kernel⟩
theorem o1 (W:gi K "_law_within" "_law_within" fI f fd) :
    aW P w K mg base (cM P w mg) (k+1) f fd ["_law_ground_here","_law_place_here","_law_inside"] (dt (dM 3 (gQ)) 3):=by
  refine ax W pr (G:=[]) (by decide +kernel) fun cdv A outer s H E hr T=>?_
  exact (am (aw (gU (bp (N:=["_law_goal","_law_inside"]) (own:=1) (G:=[]) (fr:=[2]) T rfl rfl (oN:=["_law_ground_here","_law_place_here","_law_inside"]) (on:=(ak fI).names) (by decide +kernel) (bz (ap T.hu (aa (ap T.hu (aa (ad T 0 rfl)) (aa (ad T 1 rfl)) (fun _ _=>rfl))) (aa ah) (fun _ _=>rfl))) (bu (by decide)) (fun cl C s' H' fp E' T=>⟨(aO T 0 rfl),(gx (jX T.hu (aa (ad T 0 rfl)) (aa (ad T 1 rfl)) (by with_unfolding_all rfl))),(ad T 0 rfl)⟩)))))
theorem jv:aL ["_law_ground_here","_law_inside","_law_left","_law_more","_law_found"] ["_law_ground_here","_law_inside"] (ak c7):=⟨rfl,rfl,rfl,by decide +kernel,rfl,by decide +kernel,by decide +kernel⟩
theorem jo (W:gi K "_law_whole_inside" "_law_whole_inside" c7 f fd) {f20:Addr} {d20:FuncData} {bO:gH} (C20:gI P w K mg base k "_law_within" ["_law_ground_here","_law_place_here","_law_inside"] bO f20 d20) (b_list:mg "list" = none) (b_tuple:mg "tuple" = none) :
    aW P w K mg base (cM P w mg) (k+1) f fd ["_law_ground_here","_law_inside"] (dt (dM 5 (eh bO)) 2):=by
  refine ax W jv (G:=["list","tuple"]) (by decide +kernel) fun cdv A outer s H E hr T=>?_
  exact (aj (aF T 2 rfl (gU (sh T 0 rfl b_list (aa (ad T 1 rfl)))))
      (aj (aF T 3 rfl aZ)
      (aj (dL (have T:=T.nox;sf 1000000 PassesOwn.never (bj (ad T 3 rfl)) (aj (qx (nQ 4 rfl (N:=["_law_place_here","_law_ground_here","_law_left"]) (own:=1) (G:=["_law_within"]) (fr:=[0,2]) T rfl rfl (oN:=["_law_ground_here","_law_inside","_law_left","_law_more","_law_found"]) (on:=(ak c7).names) (by decide +kernel) (bz (ad T 2 rfl)) (bu (by decide)) (fun cl C s' H' fp E' T=>⟨(aO T 0 rfl),(gx (dA T.hu (aa (au C20 hr T 0 rfl (ae (ad T 1 rfl) (ae (ad T 0 rfl) (ae (ad T 2 rfl) al))) rfl (ag (ag (ag ao))))) (cO (iQ al)))),(ad T 0 rfl)⟩)) (show 4 < 5 by decide))
      (aj (aF T 3 rfl (pC T.hu (aa (ad T 4 rfl)) (aa (ad T 2 rfl))))
      (am (aF T 2 rfl (ad T 4 rfl)))))))
      (am (aw (bQ T 1 rfl b_tuple (aa (ad T 2 rfl))))))))
theorem lB:aL ["marks","stands","least","mark"] ["marks"] (ak fA):=⟨rfl,rfl,rfl,by decide +kernel,rfl,by decide +kernel,by decide +kernel⟩
theorem lv (W:gi K "pressed_marks" "pressed_marks" fA f fd) (b_set:mg "set" = none) (b_sorted:mg "sorted" = none) :
    aW P w K mg base (cM P w mg) (k+1) f fd ["marks"] (dt (dM 4 (fj)) 1):=by
  refine ax W lB (G:=["sorted","set"]) (by decide +kernel) fun cdv A outer s H E hr T=>?_
  exact (aj (jV T 1 rfl iC)
      (aj (aF T 2 rfl ah)
      (aj (dL (have T:=T.nox;eU PassesOwn.never T.calm (bz (gU (v9 T 0 1 rfl b_sorted rfl b_set (aa (ad T 0 rfl))))) (aO T 3 rfl) (aj (l6 T 1 rfl (ad T 3 rfl) (aR (aa (ad T 2 rfl)) (aa (bP (aa (gz (aa (ad T 3 rfl)) (aa (ad T 2 rfl)))) (aa ah)))))
      (am (aF T 2 rfl (aR (aa (ap T.hu (cA T 1 rfl) (aa (ad T 3 rfl)) (fun _ _=>rfl))) (aa ah)))))))
      (am (uA T 1 rfl)))))
theorem ut:aL ["ground","stands"] ["ground"] (ak i8):=⟨rfl,rfl,rfl,by decide +kernel,rfl,by decide +kernel,by decide +kernel⟩
theorem uo (W:gi K "pressed" "pressed" i8 f fd) {f6:Addr} {d6:FuncData} {bI:gH} (C6:gI P w K mg base k "marks_of" ["ground"] bI f6 d6) {f8:Addr} {d8:FuncData} {bD:gH} (C8:gI P w K mg base k "pressed_marks" ["marks"] bD f8 d8) {t_GAIN:Tok} (g_GAIN:mg "GAIN" = some (.int 2 t_GAIN)) {t_GOALS:Tok} (g_GOALS:mg "GOALS" = some (.int 3 t_GOALS)) {t_MARK:Tok} (g_MARK:mg "MARK" = some (.int 1 t_MARK)) {t_WHO:Tok} (g_WHO:mg "WHO" = some (.int 0 t_WHO)) (b_tuple:mg "tuple" = none) :
    aW P w K mg base (cM P w mg) (k+1) f fd ["ground"] (dt (dM 2 (kB bI bD)) 1):=by
  refine ax W ut (G:=["pressed_marks","marks_of","tuple"]) (by decide +kernel) fun cdv A outer s H E hr T=>?_
  exact (aj (aF T 1 rfl (au C8 hr T 0 rfl (ae (au C6 hr T 1 rfl (ae (ad T 0 rfl) al) rfl (ag ao)) al) rfl (ag ao)))
      (am (aw (bQ T 2 rfl b_tuple (cO (bp (N:=["place","stands"]) (own:=1) (G:=["WHO","MARK","GAIN","GOALS"]) (fr:=[1]) T rfl rfl (oN:=["ground","stands"]) (on:=(ak i8).names) (by decide +kernel) (bz (ad T 0 rfl)) (bu (by decide)) (fun cl C s' H' fp E' T=>⟨(aO T 0 rfl),da,(de (ae (ap T.hu (aa (ad T 0 rfl)) (aa (bJ T 0 rfl g_WHO)) (fun _ _=>rfl)) (ae (ap T.hu (aa (ad T 1 rfl)) (aa (ap T.hu (aa (ad T 0 rfl)) (aa (bJ T 1 rfl g_MARK)) (fun _ _=>rfl))) (fun _ _=>rfl)) (ae (ap T.hu (aa (ad T 0 rfl)) (aa (bJ T 2 rfl g_GAIN)) (fun _ _=>rfl)) (ae (ap T.hu (aa (ad T 0 rfl)) (aa (bJ T 3 rfl g_GOALS)) (fun _ _=>rfl)) al)))))⟩)))))))
theorem Cd:aL ["_law_script","_law_ground_here","_law_other","_law_due","_law_place_here","_law_moved","_law_some_here","_law_inside","_law_goals_here","_law_found"] ["_law_script"] (ak gE):=⟨rfl,rfl,rfl,by decide +kernel,rfl,by decide +kernel,by decide +kernel⟩
theorem Ca (W:gi K "law" "law" gE f fd) {f27:Addr} {d27:FuncData} {cm:gH} (C27:gI P w K mg base k "_law_beside" ["_law_one","_law_other"] cm f27 d27) {f26:Addr} {d26:FuncData} {bC:gH} (C26:gI P w K mg base k "_law_exchanged" ["_law_ground_here"] bC f26 d26) {f18:Addr} {d18:FuncData} {bY:gH} (C18:gI P w K mg base k "_law_ground" ["_law_script","_law_most"] bY f18 d18) {f25:Addr} {d25:FuncData} {aB:gH} (C25:gI P w K mg base k "_law_is_ground" ["_law_thing"] aB f25 d25) {f14:Addr} {d14:FuncData} {aQ:gH} (C14:gI P w K mg base k "_law_mixed" ["_law_script","_law_k"] aQ f14 d14) {f28:Addr} {d28:FuncData} {aT:gH} (C28:gI P w K mg base k "_law_part" ["_law_ground_here","_law_inside"] aT f28 d28) {f29:Addr} {d29:FuncData} {aU:gH} (C29:gI P w K mg base k "_law_pressed_well" ["_law_ground_here","_law_found"] aU f29 d29) {f19:Addr} {d19:FuncData} {cU:gH} (C19:gI P w K mg base k "_law_some" ["_law_number_here","_law_count"] cU f19 d19) {f21:Addr} {d21:FuncData} {aV:gH} (C21:gI P w K mg base k "_law_whole_inside" ["_law_ground_here","_law_inside"] aV f21 d21) {f10:Addr} {d10:FuncData} {cz:gH} (C10:gI P w K mg base k "beside" ["one","other"] cz f10 d10) {f7:Addr} {d7:FuncData} {bf:gH} (C7:gI P w K mg base k "exchanged" ["ground"] bf f7 d7) {f9:Addr} {d9:FuncData} {di:gH} (C9:gI P w K mg base k "pressed" ["ground"] di f9 d9) (b_len:mg "len" = none) (b_max:mg "max" = none) (b_range:mg "range" = none) (b_tuple:mg "tuple" = none) :
    aW P w K mg base (cM P w mg) (k+1) f fd ["_law_script"] (dt (dM 10 (vU cm bC bY aB aQ aT aU cU aV cz bf di)) 1):=by
  refine ax W Cd (G:=["_law_ground","tuple","max","_law_is_ground","exchanged","_law_exchanged","_law_pressed_well","pressed","len","beside","_law_beside","_law_some","_law_mixed","_law_whole_inside","_law_part","range"]) (by decide +kernel) fun cdv A outer s H E hr T=>?_
  exact (aj (aF T 1 rfl (au C18 hr T 0 rfl (ae (ad T 0 rfl) (ae ah al)) rfl (ag (ag ao))))
      (aj (aF T 2 rfl (au C18 hr T 0 rfl (ae (sg (aa (ad T 0 rfl)) (uz ah) uy) (ae ah al)) rfl (ag (ag ao))))
      (aj (aF T 3 rfl (bQ T 1 rfl b_tuple (cO (bp (N:=["_law_place_here"]) (own:=1) (G:=[]) (fr:=[]) T rfl rfl (oN:=["_law_script","_law_ground_here","_law_other","_law_due","_law_place_here","_law_moved","_law_some_here","_law_inside","_law_goals_here","_law_found"]) (on:=(ak gE).names) (by decide +kernel) (bz (ad T 1 rfl)) (bu (by decide)) (fun cl C s' H' fp E' T=>⟨(aO T 0 rfl),da,(de (ae (gz (aa ah) (aa (ap T.hu (aa (ad T 0 rfl)) (aa ah) (fun _ _=>rfl)))) (ae (aR (aa (ap T.hu (aa (ad T 0 rfl)) (aa ah) (fun _ _=>rfl))) (aa ah)) (ae (iA (aa (ap T.hu (aa (ad T 0 rfl)) (aa ah) (fun _ _=>rfl)))) (ae (ap T.hu (aa (ad T 0 rfl)) (aa ah) (fun _ _=>rfl)) al)))))⟩)))))
      (aj (bG (iE T.hu (aa (uC T 2 rfl b_max (cO (bp (N:=["_law_place_here"]) (own:=1) (G:=[]) (fr:=[]) T rfl rfl (oN:=["_law_script","_law_ground_here","_law_other","_law_due","_law_place_here","_law_moved","_law_some_here","_law_inside","_law_goals_here","_law_found"]) (on:=(ak gE).names) (by decide +kernel) (bz (ad T 1 rfl)) (bu (by decide)) (fun cl C s' H' fp E' T=>⟨(aO T 0 rfl),da,(ap T.hu (aa (ad T 0 rfl)) (aa ah) (fun _ _=>rfl))⟩))))) (aa ah)) (am (aF T 3 rfl dc)) (am (bG (bq (bj (au C25 hr T 3 rfl (ae (au C7 hr T 4 rfl (ae (ad T 1 rfl) al) rfl (ag ao)) al) rfl (ag ao)))) (am (aw aZ)) bg)))
      (aj (bG (eD (df (dA T.hu (aa (au C26 hr T 5 rfl (ae (ad T 1 rfl) al) rfl (ag ao))) (cA T 3 rfl)) (dj (bq (bj (au C29 hr T 6 rfl (ae (ad T 1 rfl) (ae (au C9 hr T 7 rfl (ae (ad T 1 rfl) al) rfl (ag ao)) al)) rfl (ag (ag ao)))))))) (am (aw aZ)) bg)
      (aj (aF T 3 rfl (ad T 1 rfl))
      (aj (dL (have T:=T.nox;eU PassesOwn.never T.calm (bz (ad T 2 rfl)) (aO T 4 rfl) (aj (aF T 5 rfl (bQ T 1 rfl b_tuple (cO (bp (N:=["_law_goal","_law_ground_here"]) (own:=1) (G:=["len"]) (fr:=[1]) T rfl rfl (oN:=["_law_script","_law_ground_here","_law_other","_law_due","_law_place_here","_law_moved","_law_some_here","_law_inside","_law_goals_here","_law_found"]) (on:=(ak gE).names) (by decide +kernel) (bz (ap T.hu (aa (ad T 4 rfl)) (aa ah) (fun _ _=>rfl))) (bu (by decide)) (fun cl C s' H' fp E' T=>⟨(aO T 0 rfl),da,(aR (aa (ad T 0 rfl)) (aa (cg T 0 rfl b_len (aa (ad T 1 rfl)))))⟩)))))
      (am (aF T 3 rfl (aR (cA T 3 rfl) (aa (de (ae (de (ae (ap T.hu (aa (ad T 4 rfl)) (aa ah) (fun _ _=>rfl)) (ae (ap T.hu (aa (ad T 4 rfl)) (aa ah) (fun _ _=>rfl)) (ae (ap T.hu (aa (ad T 4 rfl)) (aa ah) (fun _ _=>rfl)) (ae (ad T 5 rfl) al))))) al)))))))))
      (aj (bG (qD (aa (cg T 8 rfl b_len (cA T 3 rfl))) (aa ah)) (am (aF T 3 rfl dc)) (am (bG (bq (bj (au C25 hr T 3 rfl (ae (au C10 hr T 9 rfl (ae (ad T 1 rfl) (ae (ad T 2 rfl) al)) rfl (ag (ag ao))) al) rfl (ag ao)))) (am (aw aZ)) bg)))
      (aj (bG (dA T.hu (aa (au C27 hr T 10 rfl (ae (ad T 1 rfl) (ae (ad T 2 rfl) al)) rfl (ag (ag ao)))) (cA T 3 rfl)) (am (aw aZ)) bg)
      (aj (aF T 6 rfl (au C19 hr T 11 rfl (ae (au C14 hr T 12 rfl (ae (ad T 0 rfl) (ae ah al)) rfl (ag (ag ao))) (ae (cg T 8 rfl b_len (aa (ad T 1 rfl))) al)) rfl (ag (ag ao))))
      (aj (aF T 7 rfl (au C21 hr T 13 rfl (ae (ad T 1 rfl) (ae (ad T 6 rfl) al)) rfl (ag (ag ao))))
      (aj (bG (eD (df (eD (uE (dA T.hu (aa (ad T 7 rfl)) (aa (ad T 6 rfl))) (si (dA T.hu (aa (au C28 hr T 14 rfl (ae (ad T 1 rfl) (ae (ad T 6 rfl) al)) rfl (ag (ag ao)))) (aa dc))))) (dj (dA T.hu (aa (au C28 hr T 14 rfl (ae (ad T 1 rfl) (ae (uD (aa (v8 (aa (ad T 6 rfl)))) (aa ah)) al)) rfl (ag (ag ao)))) (aa dc))))) (am (aw aZ)) bg)
      (aj (bG (iE T.hu (aa (ad T 7 rfl)) (aa (de al))) (am (aw (lL T.hu (aa (au C28 hr T 14 rfl (ae (ad T 1 rfl) (ae (de al) al)) rfl (ag (ag ao)))) (aa dc)))) bg)
      (aj (jV T 3 rfl (iQ al))
      (aj (dL (have T:=T.nox;eU PassesOwn.never T.calm (bz (ad T 7 rfl)) (aO T 4 rfl) (aj (qx (nQ 8 rfl (N:=["_law_k","_law_inside","_law_ground_here","_law_place_here"]) (own:=1) (G:=[]) (fr:=[7,1,4]) T rfl rfl (oN:=["_law_script","_law_ground_here","_law_other","_law_due","_law_place_here","_law_moved","_law_some_here","_law_inside","_law_goals_here","_law_found"]) (on:=(ak gE).names) (by decide +kernel) (fV T 15 rfl b_range (ae (cg T 8 rfl b_len (aa (ad T 7 rfl))) al) (ag ao)) (bu (by decide)) (fun cl C s' H' fp E' T=>⟨(aO T 0 rfl),(gx (jX T.hu (aa (ap T.hu (aa (ad T 1 rfl)) (aa (ad T 0 rfl)) (fun _ _=>rfl))) (aa (ap T.hu (aa (ap T.hu (aa (ad T 2 rfl)) (aa (ad T 3 rfl)) (fun _ _=>rfl))) (aa ah) (fun _ _=>rfl))) (by with_unfolding_all rfl))),(ad T 0 rfl)⟩)) (show 8 < 10 by decide))
      (am (qy T 3 rfl (de (ae (ap T.hu (aa (ap T.hu (aa (ad T 1 rfl)) (aa (ad T 4 rfl)) (fun _ _=>rfl))) (aa ah) (fun _ _=>rfl)) (ae (ap T.hu (aa (ap T.hu (aa (ad T 1 rfl)) (aa (ad T 4 rfl)) (fun _ _=>rfl))) (aa ah) (fun _ _=>rfl)) (ae (ap T.hu (aa (ap T.hu (aa (ad T 1 rfl)) (aa (ad T 4 rfl)) (fun _ _=>rfl))) (aa ah) (fun _ _=>rfl)) (ae (bQ T 1 rfl b_tuple (aa (ad T 8 rfl))) al))))))))))
      (aj (aF T 9 rfl (au C28 hr T 14 rfl (ae (ad T 1 rfl) (ae (ad T 7 rfl) al)) rfl (ag (ag ao))))
      (am (aw (dR (lL T.hu (aa (ad T 9 rfl)) (aa (bQ T 1 rfl b_tuple (cA T 3 rfl)))) (dR (au C25 hr T 3 rfl (ae (ad T 9 rfl) al) rfl (ag ao)) (eV (au C25 hr T 3 rfl (ae (au C9 hr T 7 rfl (ae (ad T 1 rfl) al) rfl (ag ao)) al) rfl (ag ao)))))))))))))))))))))))
end
theorem AH {l:PySem.W.OpenLaw} {w:World} {K:PySem.W.Frag} {h:Heap} {mg:Str->Option Value} {fa:Addr} (X:K.In h) (G:h.Ns mainGlobals mg) (hfa:mg "law" = some (.ref fa))
    {f30:Addr} {od30 an30:Option Addr} {sl30:Array (Option Value)} {oc30 kV30 dc30 pm30 cd30 ct30:Value}
    {f0:Addr} {d0:FuncData} (q0:cy K "with_goals" ib f0 d0)
    {f1:Addr} {d1:FuncData} (q1:cy K "beside" kt f1 d1)
    {f2:Addr} {d2:FuncData} (q2:cy K "_law_beside" hZ f2 d2)
    {f3:Addr} {d3:FuncData} (q3:cy K "marks_of" ia f3 d3)
    {f4:Addr} {d4:FuncData} (q4:cy K "exchanged" gg f4 d4)
    {f5:Addr} {d5:FuncData} (q5:cy K "_law_exchanged" fy f5 d5)
    {f6:Addr} {d6:FuncData} (q6:cy K "_law_cell_at" gr f6 d6)
    {f7:Addr} {d7:FuncData} (q7:cy K "_law_mixed" iN f7 d7)
    {f8:Addr} {d8:FuncData} (q8:cy K "_law_drawn" iL f8 d8)
    {f9:Addr} {d9:FuncData} (q9:cy K "_law_goals" iM f9 d9)
    {f10:Addr} {d10:FuncData} (q10:cy K "_law_place" iO f10 d10)
    {f11:Addr} {d11:FuncData} (q11:cy K "_law_ground" fH f11 d11)
    {f12:Addr} {d12:FuncData} (q12:cy K "_law_number" h7 f12 d12)
    {f13:Addr} {d13:FuncData} (q13:cy K "_law_rising" h8 f13 d13)
    {f14:Addr} {d14:FuncData} (q14:cy K "_law_is_place" fP f14 d14)
    {f15:Addr} {d15:FuncData} (q15:cy K "_law_is_ground" dZ f15 d15)
    {f16:Addr} {d16:FuncData} (q16:cy K "is_whole" jO f16 d16)
    {f17:Addr} {d17:FuncData} (q17:cy K "is_between" hW f17 d17)
    {f18:Addr} {d18:FuncData} (q18:cy K "are_some" jN f18 d18)
    {f19:Addr} {d19:FuncData} (q19:cy K "common" ku f19 d19)
    {f20:Addr} {d20:FuncData} (q20:cy K "goals_anew" fG f20 d20)
    {f21:Addr} {d21:FuncData} (q21:cy K "is_whole_part" dY f21 d21)
    {f22:Addr} {d22:FuncData} (q22:cy K "part_of" i7 f22 d22)
    {f23:Addr} {d23:FuncData} (q23:cy K "_law_part" jP f23 d23)
    {f24:Addr} {d24:FuncData} (q24:cy K "_law_pressed_well" eA f24 d24)
    {f25:Addr} {d25:FuncData} (q25:cy K "_law_some" h9 f25 d25)
    {f26:Addr} {d26:FuncData} (q26:cy K "_law_within" fI f26 d26)
    {f27:Addr} {d27:FuncData} (q27:cy K "_law_whole_inside" c7 f27 d27)
    {f28:Addr} {d28:FuncData} (q28:cy K "pressed_marks" fA f28 d28)
    {f29:Addr} {d29:FuncData} (q29:cy K "pressed" i8 f29 d29)
    (a30:PySem.W.nsIn K mainGlobals "law" = some (some (.ref f30))) (l30:K.lookup f30=some ⟨oc30,od30,.func (PySem.W.fnOf "law" "law" (eG gE) (cV gE) (ak gE) .none kV30 dc30 pm30 an30 cd30 ct30),sl30⟩) (c30:PySem.W.codeIn K cd30 "law" = true) (k30:PySem.W.keepIn K (.ref f30)=true)
    {t0:Tok} (qg0:PySem.W.nsIn K mainGlobals "GAIN" = some (some (.int 2 t0)))
    {t1:Tok} (qg1:PySem.W.nsIn K mainGlobals "GOALS" = some (some (.int 3 t1)))
    {t2:Tok} (qg2:PySem.W.nsIn K mainGlobals "MARK" = some (some (.int 1 t2)))
    {t3:Tok} (qg3:PySem.W.nsIn K mainGlobals "MOST_MARK" = some (some (.int 12 t3)))
    {t4:Tok} (qg4:PySem.W.nsIn K mainGlobals "MOST_PLACES" = some (some (.int 24 t4)))
    {t5:Tok} (qg5:PySem.W.nsIn K mainGlobals "WHO" = some (some (.int 0 t5)))
    (qz0:PySem.W.nsIn K mainGlobals "all" = some none)
    (qz1:PySem.W.nsIn K mainGlobals "bool" = some none)
    (qz2:PySem.W.nsIn K mainGlobals "int" = some none)
    (qz3:PySem.W.nsIn K mainGlobals "isinstance" = some none)
    (qz4:PySem.W.nsIn K mainGlobals "len" = some none)
    (qz5:PySem.W.nsIn K mainGlobals "list" = some none)
    (qz6:PySem.W.nsIn K mainGlobals "max" = some none)
    (qz7:PySem.W.nsIn K mainGlobals "min" = some none)
    (qz8:PySem.W.nsIn K mainGlobals "range" = some none)
    (qz9:PySem.W.nsIn K mainGlobals "set" = some none)
    (qz10:PySem.W.nsIn K mainGlobals "sorted" = some none)
    (qz11:PySem.W.nsIn K mainGlobals "tuple" = some none)
    (qz12:PySem.W.nsIn K mainGlobals "zip" = some none)
    {cc0:Addr} (qm0:PySem.W.nsIn K mainGlobals "GroundError" = some (some (.ref cc0))) (qq0:PySem.W.excIn K cc0 kZ kI=true)
    {cc1:Addr} (qm1:PySem.W.nsIn K mainGlobals "NoMark" = some (some (.ref cc1))) (qq1:PySem.W.excIn K cc1 kZ kI=true)
    {cc2:Addr} (qm2:PySem.W.nsIn K mainGlobals "NoPart" = some (some (.ref cc2))) (qq2:PySem.W.excIn K cc2 kZ kI=true)
    {cc3:Addr} (qm3:PySem.W.nsIn K mainGlobals "NoRoom" = some (some (.ref cc3))) (qq3:PySem.W.excIn K cc3 kZ kI=true)
    (qs0:(Value.ref cc1::fu K cc1).contains (.ref cc1)=true)
    (qs1:(Value.ref cc2::fu K cc2).contains (.ref cc2)=true)
    (qs2:(Value.ref cc3::fu K cc3).contains (.ref cc3)=true)
    (qk0:PySem.W.kitOne K (.ref cc1) (.ref cc0)=some true)
    (qk1:PySem.W.kitOne K (.ref cc1) (.ref cc2)=some false)
    (qk2:PySem.W.kitOne K (.ref cc1) (.ref cc3)=some false)
    (qk3:PySem.W.kitOne K (.ref cc2) (.ref cc0)=some true)
    (qk4:PySem.W.kitOne K (.ref cc2) (.ref cc1)=some false)
    (qk5:PySem.W.kitOne K (.ref cc2) (.ref cc3)=some false)
    (qk6:PySem.W.kitOne K (.ref cc3) (.ref cc0)=some true)
    (qk7:PySem.W.kitOne K (.ref cc3) (.ref cc1)=some false)
    (qk8:PySem.W.kitOne K (.ref cc3) (.ref cc2)=some false)
    (qx0:jS K cc1)
    (qx1:jS K cc2)
    (qx2:jS K cc3)
    (nl:lU K=true) :
    lU K=true/\∃ fd:FuncData,(∀ (s:Shared) (v:Value),BindsTo s fd ⟨[v],[]⟩ [("_law_script",v)])/\∀ base:Heap,K.In base->base.Ns mainGlobals mg->aW l.prog w K mg base (cM l.prog w mg) 6 fa fd ["_law_script"] (dt qo 1):=by
  have e:=hfa.symm.trans (PySem.W.mg_of X G a30);cases e;have b0:bH K d0 ["place","goals"] []:=pF q0.fn fun _ _ _ _ _ _ _ _=>rfl
  have m0:=PySem.W.mg_of X G q0.ns;have b1:bH K d1 ["one","other"] []:=pF q1.fn fun _ _ _ _ _ _ _ _=>rfl
  have m1:=PySem.W.mg_of X G q1.ns;have b2:bH K d2 ["_law_one","_law_other"] []:=pF q2.fn fun _ _ _ _ _ _ _ _=>rfl
  have m2:=PySem.W.mg_of X G q2.ns;have b3:bH K d3 ["ground"] []:=AK q3.fn fun _ _ _ _ _ _ _=>rfl
  have m3:=PySem.W.mg_of X G q3.ns;have b4:bH K d4 ["ground"] []:=AK q4.fn fun _ _ _ _ _ _ _=>rfl
  have m4:=PySem.W.mg_of X G q4.ns;have b5:bH K d5 ["_law_ground_here"] []:=AK q5.fn fun _ _ _ _ _ _ _=>rfl
  have m5:=PySem.W.mg_of X G q5.ns;have b6:bH K d6 ["_law_script","_law_k"] []:=pF q6.fn fun _ _ _ _ _ _ _ _=>rfl
  have m6:=PySem.W.mg_of X G q6.ns;have b7:bH K d7 ["_law_script","_law_k"] []:=pF q7.fn fun _ _ _ _ _ _ _ _=>rfl
  have m7:=PySem.W.mg_of X G q7.ns;have b8:bH K d8 ["_law_number_here","_law_k"] []:=pF q8.fn fun _ _ _ _ _ _ _ _=>rfl
  have m8:=PySem.W.mg_of X G q8.ns;have b9:bH K d9 ["_law_number_here","_law_count"] []:=pF q9.fn fun _ _ _ _ _ _ _ _=>rfl
  have m9:=PySem.W.mg_of X G q9.ns;have b10:bH K d10 ["_law_number_here","_law_count","_law_high"] []:=DA q10.fn fun _ _ _ _ _ _ _ _ _=>rfl
  have m10:=PySem.W.mg_of X G q10.ns;have b11:bH K d11 ["_law_script","_law_most"] []:=pF q11.fn fun _ _ _ _ _ _ _ _=>rfl
  have m11:=PySem.W.mg_of X G q11.ns;have b12:bH K d12 ["_law_thing","_law_low","_law_high"] []:=DA q12.fn fun _ _ _ _ _ _ _ _ _=>rfl
  have m12:=PySem.W.mg_of X G q12.ns;have b13:bH K d13 ["_law_found","_law_count"] []:=pF q13.fn fun _ _ _ _ _ _ _ _=>rfl
  have m13:=PySem.W.mg_of X G q13.ns;have b14:bH K d14 ["_law_thing","_law_count"] []:=pF q14.fn fun _ _ _ _ _ _ _ _=>rfl
  have m14:=PySem.W.mg_of X G q14.ns;have b15:bH K d15 ["_law_thing"] []:=AK q15.fn fun _ _ _ _ _ _ _=>rfl
  have m15:=PySem.W.mg_of X G q15.ns;have b16:bH K d16 ["thing"] []:=AK q16.fn fun _ _ _ _ _ _ _=>rfl
  have m16:=PySem.W.mg_of X G q16.ns;have b17:bH K d17 ["thing","low","high"] []:=DA q17.fn fun _ _ _ _ _ _ _ _ _=>rfl
  have m17:=PySem.W.mg_of X G q17.ns;have b18:bH K d18 ["thing","count"] []:=pF q18.fn fun _ _ _ _ _ _ _ _=>rfl
  have m18:=PySem.W.mg_of X G q18.ns;have b19:bH K d19 ["some","others"] []:=pF q19.fn fun _ _ _ _ _ _ _ _=>rfl
  have m19:=PySem.W.mg_of X G q19.ns;have b20:bH K d20 ["place","inside"] []:=pF q20.fn fun _ _ _ _ _ _ _ _=>rfl
  have m20:=PySem.W.mg_of X G q20.ns;have b21:bH K d21 ["ground","inside"] []:=pF q21.fn fun _ _ _ _ _ _ _ _=>rfl
  have m21:=PySem.W.mg_of X G q21.ns;have b22:bH K d22 ["ground","inside"] []:=pF q22.fn fun _ _ _ _ _ _ _ _=>rfl
  have m22:=PySem.W.mg_of X G q22.ns;have b23:bH K d23 ["_law_ground_here","_law_inside"] []:=pF q23.fn fun _ _ _ _ _ _ _ _=>rfl
  have m23:=PySem.W.mg_of X G q23.ns;have b24:bH K d24 ["_law_ground_here","_law_found"] []:=pF q24.fn fun _ _ _ _ _ _ _ _=>rfl
  have m24:=PySem.W.mg_of X G q24.ns;have b25:bH K d25 ["_law_number_here","_law_count"] []:=pF q25.fn fun _ _ _ _ _ _ _ _=>rfl
  have m25:=PySem.W.mg_of X G q25.ns;have b26:bH K d26 ["_law_ground_here","_law_place_here","_law_inside"] []:=DA q26.fn fun _ _ _ _ _ _ _ _ _=>rfl
  have m26:=PySem.W.mg_of X G q26.ns;have b27:bH K d27 ["_law_ground_here","_law_inside"] []:=pF q27.fn fun _ _ _ _ _ _ _ _=>rfl
  have m27:=PySem.W.mg_of X G q27.ns;have b28:bH K d28 ["marks"] []:=AK q28.fn fun _ _ _ _ _ _ _=>rfl
  have m28:=PySem.W.mg_of X G q28.ns;have b29:bH K d29 ["ground"] []:=AK q29.fn fun _ _ _ _ _ _ _=>rfl
  have m29:=PySem.W.mg_of X G q29.ns;have F30:=wE (st:=gE) l30 c30 k30;have h0:=PySem.W.mg_of X G qg0;have h1:=PySem.W.mg_of X G qg1;have h2:=PySem.W.mg_of X G qg2;have h3:=PySem.W.mg_of X G qg3;have h4:=PySem.W.mg_of X G qg4;have h5:=PySem.W.mg_of X G qg5;have n0:=PySem.W.mg_of X G qm0;have n1:=PySem.W.mg_of X G qm1;have n2:=PySem.W.mg_of X G qm2;have n3:=PySem.W.mg_of X G qm3;have y0:=PySem.W.mg_none_of X G qz0;have y1:=PySem.W.mg_none_of X G qz1;have y2:=PySem.W.mg_none_of X G qz2;have y3:=PySem.W.mg_none_of X G qz3;have y4:=PySem.W.mg_none_of X G qz4;have y5:=PySem.W.mg_none_of X G qz5;have y6:=PySem.W.mg_none_of X G qz6;have y7:=PySem.W.mg_none_of X G qz7;have y8:=PySem.W.mg_none_of X G qz8;have y9:=PySem.W.mg_none_of X G qz9;have y10:=PySem.W.mg_none_of X G qz10;have y11:=PySem.W.mg_none_of X G qz11;have y12:=PySem.W.mg_none_of X G qz12;refine ⟨nl,PySem.W.fnOf "law" "law" (eG gE) (cV gE) (ak gE) .none kV30 dc30 pm30 an30 cd30 ct30,fun s v=>.of_eq rfl,fun base _ _=>?_⟩;have Q0:aW l.prog w K mg base (cM l.prog w mg) 1 f0 _ ["place","goals"] (dt aG 2):=o2 (k:=0) (W:=q0.fn) (g_GAIN:=h0) (g_MARK:=h2) (g_WHO:=h5) (b_tuple:=y11);have Q1:aW l.prog w K mg base (cM l.prog w mg) 2 f1 _ ["one","other"] (dt cz 2):=vR (k:=1) (W:=q1.fn) (C5:=⟨Q0.mono (by decide),m0,q0.fn.kp,b0⟩) (g_GOALS:=h1) (g_MOST_PLACES:=h4) (b_len:=y4) (b_tuple:=y11) (m_NoRoom:=n3) (q_NoRoom:=qq3);have Q2:aW l.prog w K mg base (cM l.prog w mg) 3 f2 _ ["_law_one","_law_other"] (dt cm 2):=oW (k:=2) (W:=q2.fn) (C10:=⟨Q1.mono (by decide),m1,q1.fn.kp,b1⟩) (b_int:=y2) (b_isinstance:=y3) (m_GroundError:=n0) (q_GroundError:=qq0) (m_NoMark:=n1) (q_NoMark:=qq1) (m_NoPart:=n2) (q_NoPart:=qq2) (m_NoRoom:=n3) (q_NoRoom:=qq3) (b_NoRoom_NoRoom:=qs2) (k_NoRoom_GroundError:=qk6) (k_NoRoom_NoMark:=qk7) (k_NoRoom_NoPart:=qk8) (x_NoRoom:=qx2);have Q3:aW l.prog w K mg base (cM l.prog w mg) 1 f3 _ ["ground"] (dt bI 1):=rV (k:=0) (W:=q3.fn) (g_MARK:=h2);have Q4:aW l.prog w K mg base (cM l.prog w mg) 2 f4 _ ["ground"] (dt bf 1):=qf (k:=1) (W:=q4.fn) (C6:=⟨Q3.mono (by decide),m3,q3.fn.kp,b3⟩) (g_GAIN:=h0) (g_GOALS:=h1) (g_MARK:=h2) (g_MOST_MARK:=h3) (g_WHO:=h5) (b_tuple:=y11) (m_NoMark:=n1) (q_NoMark:=qq1);have Q5:aW l.prog w K mg base (cM l.prog w mg) 3 f5 _ ["_law_ground_here"] (dt bC 1):=ls (k:=2) (W:=q5.fn) (C7:=⟨Q4.mono (by decide),m4,q4.fn.kp,b4⟩) (b_int:=y2) (b_isinstance:=y3) (m_GroundError:=n0) (q_GroundError:=qq0) (m_NoMark:=n1) (q_NoMark:=qq1) (m_NoPart:=n2) (q_NoPart:=qq2) (m_NoRoom:=n3) (q_NoRoom:=qq3) (b_NoMark_NoMark:=qs0) (k_NoMark_GroundError:=qk0) (k_NoMark_NoPart:=qk1) (k_NoMark_NoRoom:=qk2) (x_NoMark:=qx0);have Q6:aW l.prog w K mg base (cM l.prog w mg) 1 f6 _ ["_law_script","_law_k"] (dt bX 2):=nB (k:=0) (W:=q6.fn) (b_len:=y4);have Q7:aW l.prog w K mg base (cM l.prog w mg) 2 f7 _ ["_law_script","_law_k"] (dt aQ 2):=qk (k:=1) (W:=q7.fn) (C13:=⟨Q6.mono (by decide),m6,q6.fn.kp,b6⟩);have Q8:aW l.prog w K mg base (cM l.prog w mg) 1 f8 _ ["_law_number_here","_law_k"] (dt aA 2):=qg (k:=0) (W:=q8.fn);have Q9:aW l.prog w K mg base (cM l.prog w mg) 2 f9 _ ["_law_number_here","_law_count"] (dt cF 2):=qh (k:=1) (W:=q9.fn) (C15:=⟨Q8.mono (by decide),m8,q8.fn.kp,b8⟩) (b_int:=y2) (b_range:=y8) (b_sorted:=y10) (b_tuple:=y11);have Q10:aW l.prog w K mg base (cM l.prog w mg) 3 f10 _ ["_law_number_here","_law_count","_law_high"] (dt cr 3):=ql (k:=2) (W:=q10.fn) (C15:=⟨Q8.mono (by decide),m8,q8.fn.kp,b8⟩) (C16:=⟨Q9.mono (by decide),m9,q9.fn.kp,b9⟩);have Q11:aW l.prog w K mg base (cM l.prog w mg) 4 f11 _ ["_law_script","_law_most"] (dt bY 2):=oX (k:=3) (W:=q11.fn) (C14:=⟨Q7.mono (by decide),m7,q7.fn.kp,b7⟩) (C17:=⟨Q10.mono (by decide),m10,q10.fn.kp,b10⟩) (b_len:=y4) (b_max:=y6) (b_min:=y7) (b_range:=y8) (b_tuple:=y11);have Q12:aW l.prog w K mg base (cM l.prog w mg) 1 f12 _ ["_law_thing","_law_low","_law_high"] (dt bN 3):=oY (k:=0) (W:=q12.fn) (b_bool:=y1) (b_int:=y2) (b_isinstance:=y3);have Q13:aW l.prog w K mg base (cM l.prog w mg) 1 f13 _ ["_law_found","_law_count"] (dt cn 2):=oZ (k:=0) (W:=q13.fn) (b_bool:=y1) (b_int:=y2) (b_isinstance:=y3) (b_tuple:=y11);have Q14:aW l.prog w K mg base (cM l.prog w mg) 2 f14 _ ["_law_thing","_law_count"] (dt bw 2):=lY (k:=1) (W:=q14.fn) (C23:=⟨Q12.mono (by decide),m12,q12.fn.kp,b12⟩) (C22:=⟨Q13.mono (by decide),m13,q13.fn.kp,b13⟩) (b_isinstance:=y3) (b_len:=y4) (b_tuple:=y11);have Q15:aW l.prog w K mg base (cM l.prog w mg) 3 f15 _ ["_law_thing"] (dt aB 1):=lu (k:=2) (W:=q15.fn) (C24:=⟨Q14.mono (by decide),m14,q14.fn.kp,b14⟩) (b_isinstance:=y3) (b_len:=y4) (b_tuple:=y11);have Q16:aW l.prog w K mg base (cM l.prog w mg) 1 f16 _ ["thing"] (dt dw 1):=rR (k:=0) (W:=q16.fn) (b_bool:=y1) (b_int:=y2) (b_isinstance:=y3);have Q17:aW l.prog w K mg base (cM l.prog w mg) 2 f17 _ ["thing","low","high"] (dt bW 3):=oV (k:=1) (W:=q17.fn) (C0:=⟨Q16.mono (by decide),m16,q16.fn.kp,b16⟩);have Q18:aW l.prog w K mg base (cM l.prog w mg) 3 f18 _ ["thing","count"] (dt cK 2):=rQ (k:=2) (W:=q18.fn) (C1:=⟨Q17.mono (by decide),m17,q17.fn.kp,b17⟩) (b_isinstance:=y3) (b_tuple:=y11);have Q19:aW l.prog w K mg base (cM l.prog w mg) 1 f19 _ ["some","others"] (dt cf 2):=vS (k:=0) (W:=q19.fn) (b_tuple:=y11);have Q20:aW l.prog w K mg base (cM l.prog w mg) 2 f20 _ ["place","inside"] (dt bM 2):=oU (k:=1) (W:=q20.fn) (C3:=⟨Q19.mono (by decide),m19,q19.fn.kp,b19⟩) (g_GOALS:=h1);have Q21:aW l.prog w K mg base (cM l.prog w mg) 2 f21 _ ["ground","inside"] (dt bA 2):=lr (k:=1) (W:=q21.fn) (C3:=⟨Q19.mono (by decide),m19,q19.fn.kp,b19⟩) (g_GOALS:=h1) (b_all:=y0) (b_len:=y4);have Q22:aW l.prog w K mg base (cM l.prog w mg) 4 f22 _ ["ground","inside"] (dt cP 2):=um (k:=3) (W:=q22.fn) (C2:=⟨Q18.mono (by decide),m18,q18.fn.kp,b18⟩) (C11:=⟨Q20.mono (by decide),m20,q20.fn.kp,b20⟩) (C4:=⟨Q21.mono (by decide),m21,q21.fn.kp,b21⟩) (C5:=⟨Q0.mono (by decide),m0,q0.fn.kp,b0⟩) (b_len:=y4) (b_tuple:=y11) (m_NoPart:=n2) (q_NoPart:=qq2);have Q23:aW l.prog w K mg base (cM l.prog w mg) 5 f23 _ ["_law_ground_here","_law_inside"] (dt aT 2):=rS (k:=4) (W:=q23.fn) (C12:=⟨Q22.mono (by decide),m22,q22.fn.kp,b22⟩) (b_int:=y2) (b_isinstance:=y3) (m_GroundError:=n0) (q_GroundError:=qq0) (m_NoMark:=n1) (q_NoMark:=qq1) (m_NoPart:=n2) (q_NoPart:=qq2) (m_NoRoom:=n3) (q_NoRoom:=qq3) (b_NoPart_NoPart:=qs1) (k_NoPart_GroundError:=qk3) (k_NoPart_NoMark:=qk4) (k_NoPart_NoRoom:=qk5) (x_NoPart:=qx1);have Q24:aW l.prog w K mg base (cM l.prog w mg) 1 f24 _ ["_law_ground_here","_law_found"] (dt aU 2):=jn (k:=0) (W:=q24.fn) (b_bool:=y1) (b_int:=y2) (b_isinstance:=y3) (b_len:=y4) (b_sorted:=y10) (b_tuple:=y11) (b_zip:=y12);have Q25:aW l.prog w K mg base (cM l.prog w mg) 2 f25 _ ["_law_number_here","_law_count"] (dt cU 2):=rT (k:=1) (W:=q25.fn) (C15:=⟨Q8.mono (by decide),m8,q8.fn.kp,b8⟩) (b_range:=y8) (b_tuple:=y11);have Q26:aW l.prog w K mg base (cM l.prog w mg) 1 f26 _ ["_law_ground_here","_law_place_here","_law_inside"] (dt bO 3):=o1 (k:=0) (W:=q26.fn);have Q27:aW l.prog w K mg base (cM l.prog w mg) 2 f27 _ ["_law_ground_here","_law_inside"] (dt aV 2):=jo (k:=1) (W:=q27.fn) (C20:=⟨Q26.mono (by decide),m26,q26.fn.kp,b26⟩) (b_list:=y5) (b_tuple:=y11);have Q28:aW l.prog w K mg base (cM l.prog w mg) 1 f28 _ ["marks"] (dt bD 1):=lv (k:=0) (W:=q28.fn) (b_set:=y9) (b_sorted:=y10);have Q29:aW l.prog w K mg base (cM l.prog w mg) 2 f29 _ ["ground"] (dt di 1):=uo (k:=1) (W:=q29.fn) (C6:=⟨Q3.mono (by decide),m3,q3.fn.kp,b3⟩) (C8:=⟨Q28.mono (by decide),m28,q28.fn.kp,b28⟩) (g_GAIN:=h0) (g_GOALS:=h1) (g_MARK:=h2) (g_WHO:=h5) (b_tuple:=y11);have Q30:aW l.prog w K mg base (cM l.prog w mg) 6 fa _ ["_law_script"] (dt qo 1):=Ca (k:=5) (W:=F30) (C27:=⟨Q2.mono (by decide),m2,q2.fn.kp,b2⟩) (C26:=⟨Q5.mono (by decide),m5,q5.fn.kp,b5⟩) (C18:=⟨Q11.mono (by decide),m11,q11.fn.kp,b11⟩) (C25:=⟨Q15.mono (by decide),m15,q15.fn.kp,b15⟩) (C14:=⟨Q7.mono (by decide),m7,q7.fn.kp,b7⟩) (C28:=⟨Q23.mono (by decide),m23,q23.fn.kp,b23⟩) (C29:=⟨Q24.mono (by decide),m24,q24.fn.kp,b24⟩) (C19:=⟨Q25.mono (by decide),m25,q25.fn.kp,b25⟩) (C21:=⟨Q27.mono (by decide),m27,q27.fn.kp,b27⟩) (C10:=⟨Q1.mono (by decide),m1,q1.fn.kp,b1⟩) (C7:=⟨Q4.mono (by decide),m4,q4.fn.kp,b4⟩) (C9:=⟨Q29.mono (by decide),m29,q29.fn.kp,b29⟩) (b_len:=y4) (b_max:=y6) (b_range:=y8) (b_tuple:=y11);exact Q30
end G
open PySem PySem.W PyProof.Rows
set_option maxRecDepth 100000 in
set_option maxHeartbeats 0 in
theorem PySem.Challenge.cw_duelground_k70_changes_holds : PySem.Challenge.rw_duelground_k70_changes.Holds := by
  w_on;o_law;k_head;(case hw=>w_witness2)
  k_fill
  refine D2.Er (l:=PySem.Challenge.rw_duelground_k70_changes) (k:=6) (x := "_law_script") (F:=G.qo) rfl rfl ⟨rfl,by decide,by decide⟩ (fun w h Y=>PySem.W.kIn_of Y) G.wS ?F
  case F =>
    intro w mg fa h KX GG hmg;refine' G.AH KX GG hmg ?q0 ?q1 ?q2 ?q3 ?q4 ?q5 ?q6 ?q7 ?q8 ?q9 ?q10 ?q11 ?q12 ?q13 ?q14 ?q15 ?q16 ?q17 ?q18 ?q19 ?q20 ?q21 ?q22 ?q23 ?q24 ?q25 ?q26 ?q27 ?q28 ?q29 ?a30 ?l30 ?c30 ?k30 ?qg0 ?qg1 ?qg2 ?qg3 ?qg4 ?qg5 ?qz0 ?qz1 ?qz2 ?qz3 ?qz4 ?qz5 ?qz6 ?qz7 ?qz8 ?qz9 ?qz10 ?qz11 ?qz12 ?qm0 ?qq0 ?qm1 ?qq1 ?qm2 ?qq2 ?qm3 ?qq3 ?qs0 ?qs1 ?qs2 ?qk0 ?qk1 ?qk2 ?qk3 ?qk4 ?qk5 ?qk6 ?qk7 ?qk8 ?qx0 ?qx1 ?qx2 ?nl
    (case q0=>refine' D2.aN ?a ?l ?c ?k;(case a=>k_is);(case l=>k_is);(case c=>k_is);(case k=>k_is))
    (case q1=>refine' D2.aN ?a ?l ?c ?k;(case a=>k_is);(case l=>k_is);(case c=>k_is);(case k=>k_is))
    (case q2=>refine' D2.aN ?a ?l ?c ?k;(case a=>k_is);(case l=>k_is);(case c=>k_is);(case k=>k_is))
    (case q3=>refine' D2.aN ?a ?l ?c ?k;(case a=>k_is);(case l=>k_is);(case c=>k_is);(case k=>k_is))
    (case q4=>refine' D2.aN ?a ?l ?c ?k;(case a=>k_is);(case l=>k_is);(case c=>k_is);(case k=>k_is))
    (case q5=>refine' D2.aN ?a ?l ?c ?k;(case a=>k_is);(case l=>k_is);(case c=>k_is);(case k=>k_is))
    (case q6=>refine' D2.aN ?a ?l ?c ?k;(case a=>k_is);(case l=>k_is);(case c=>k_is);(case k=>k_is))
    (case q7=>refine' D2.aN ?a ?l ?c ?k;(case a=>k_is);(case l=>k_is);(case c=>k_is);(case k=>k_is))
    (case q8=>refine' D2.aN ?a ?l ?c ?k;(case a=>k_is);(case l=>k_is);(case c=>k_is);(case k=>k_is))
    (case q9=>refine' D2.aN ?a ?l ?c ?k;(case a=>k_is);(case l=>k_is);(case c=>k_is);(case k=>k_is))
    (case q10=>refine' D2.aN ?a ?l ?c ?k;(case a=>k_is);(case l=>k_is);(case c=>k_is);(case k=>k_is))
    (case q11=>refine' D2.aN ?a ?l ?c ?k;(case a=>k_is);(case l=>k_is);(case c=>k_is);(case k=>k_is))
    (case q12=>refine' D2.aN ?a ?l ?c ?k;(case a=>k_is);(case l=>k_is);(case c=>k_is);(case k=>k_is))
    (case q13=>refine' D2.aN ?a ?l ?c ?k;(case a=>k_is);(case l=>k_is);(case c=>k_is);(case k=>k_is))
    (case q14=>refine' D2.aN ?a ?l ?c ?k;(case a=>k_is);(case l=>k_is);(case c=>k_is);(case k=>k_is))
    (case q15=>refine' D2.aN ?a ?l ?c ?k;(case a=>k_is);(case l=>k_is);(case c=>k_is);(case k=>k_is))
    (case q16=>refine' D2.aN ?a ?l ?c ?k;(case a=>k_is);(case l=>k_is);(case c=>k_is);(case k=>k_is))
    (case q17=>refine' D2.aN ?a ?l ?c ?k;(case a=>k_is);(case l=>k_is);(case c=>k_is);(case k=>k_is))
    (case q18=>refine' D2.aN ?a ?l ?c ?k;(case a=>k_is);(case l=>k_is);(case c=>k_is);(case k=>k_is))
    (case q19=>refine' D2.aN ?a ?l ?c ?k;(case a=>k_is);(case l=>k_is);(case c=>k_is);(case k=>k_is))
    (case q20=>refine' D2.aN ?a ?l ?c ?k;(case a=>k_is);(case l=>k_is);(case c=>k_is);(case k=>k_is))
    (case q21=>refine' D2.aN ?a ?l ?c ?k;(case a=>k_is);(case l=>k_is);(case c=>k_is);(case k=>k_is))
    (case q22=>refine' D2.aN ?a ?l ?c ?k;(case a=>k_is);(case l=>k_is);(case c=>k_is);(case k=>k_is))
    (case q23=>refine' D2.aN ?a ?l ?c ?k;(case a=>k_is);(case l=>k_is);(case c=>k_is);(case k=>k_is))
    (case q24=>refine' D2.aN ?a ?l ?c ?k;(case a=>k_is);(case l=>k_is);(case c=>k_is);(case k=>k_is))
    (case q25=>refine' D2.aN ?a ?l ?c ?k;(case a=>k_is);(case l=>k_is);(case c=>k_is);(case k=>k_is))
    (case q26=>refine' D2.aN ?a ?l ?c ?k;(case a=>k_is);(case l=>k_is);(case c=>k_is);(case k=>k_is))
    (case q27=>refine' D2.aN ?a ?l ?c ?k;(case a=>k_is);(case l=>k_is);(case c=>k_is);(case k=>k_is))
    (case q28=>refine' D2.aN ?a ?l ?c ?k;(case a=>k_is);(case l=>k_is);(case c=>k_is);(case k=>k_is))
    (case q29=>refine' D2.aN ?a ?l ?c ?k;(case a=>k_is);(case l=>k_is);(case c=>k_is);(case k=>k_is))
    (case a30=>k_is)
    (case l30=>k_is)
    (case c30=>k_is)
    (case k30=>k_is)
    (case qg0=>k_is)
    (case qg1=>k_is)
    (case qg2=>k_is)
    (case qg3=>k_is)
    (case qg4=>k_is)
    (case qg5=>k_is)
    (case qz0=>k_is)
    (case qz1=>k_is)
    (case qz2=>k_is)
    (case qz3=>k_is)
    (case qz4=>k_is)
    (case qz5=>k_is)
    (case qz6=>k_is)
    (case qz7=>k_is)
    (case qz8=>k_is)
    (case qz9=>k_is)
    (case qz10=>k_is)
    (case qz11=>k_is)
    (case qz12=>k_is)
    (case qm0=>k_is)
    (case qq0=>k_exc)
    (case qm1=>k_is)
    (case qq1=>k_exc)
    (case qm2=>k_is)
    (case qq2=>k_exc)
    (case qm3=>k_is)
    (case qq3=>k_exc)
    (case qs0=>first | rfl | k_is | decide)
    (case qs1=>first | rfl | k_is | decide)
    (case qs2=>first | rfl | k_is | decide)
    (case qk0=>first | rfl | k_is | decide)
    (case qk1=>first | rfl | k_is | decide)
    (case qk2=>first | rfl | k_is | decide)
    (case qk3=>first | rfl | k_is | decide)
    (case qk4=>first | rfl | k_is | decide)
    (case qk5=>first | rfl | k_is | decide)
    (case qk6=>first | rfl | k_is | decide)
    (case qk7=>first | rfl | k_is | decide)
    (case qk8=>first | rfl | k_is | decide)
    (case qx0=>refine' ⟨?_,?_,?_,?_,?_,?_,?_⟩ <;> first | rfl | k_is | decide)
    (case qx1=>refine' ⟨?_,?_,?_,?_,?_,?_,?_⟩ <;> first | rfl | k_is | decide)
    (case qx2=>refine' ⟨?_,?_,?_,?_,?_,?_,?_⟩ <;> first | rfl | k_is | decide)
    (case nl=>first | rfl | k_is | decide)

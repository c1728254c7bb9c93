import PyProof.Rows.All
import Wide.All
import OpenK.AllK
import Wide.FinOn
import Lean
import PyProof.EqAt
import PyProof.EqKinds
import PyProof.TupleCall
import PySem.Challenge.RW_duelground_k32_whole_measures
set_option Elab.async false
set_option linter.all false
set_option maxRecDepth 100000
namespace L2
open PySem PySem.Spec PyProof.Rows
noncomputable abbrev cC:=Sum Int Str
noncomputable def kJ:cC->Value->Bool
  | .inl k,v=>Value.isInt k v
  | .inr x,v=>Value.isStrOf x v
noncomputable def B0 (w:World):cC->Int
  | .inl k=>hashInt k
  | .inr x=>hashStr w x
theorem bQ:∀ {k:cC} {v:Value},kJ k v=true->(∃ i t,k=Sum.inl i/\v=Value.int i t)\/(∃ x t,k=Sum.inr x/\v=Value.str x t)
  | .inl i,v,h=>by
    obtain ⟨t,e⟩:=Value.isInt_shape (k:=i) (v:=v) h;exact .inl ⟨i,t,rfl,e⟩
  | .inr x,v,h=>by
    obtain ⟨t,e⟩:=Value.isStrOf_shape (x:=x) (v:=v) h;exact .inr ⟨x,t,rfl,e⟩
theorem sX (i:Int) (t:Tok):kJ (.inl i) (.int i t)=true:=by simp [kJ,Value.isInt]
theorem su (x:Str) (t:Tok):kJ (.inr x) (.str x t)=true:=by simp [kJ,Value.isStrOf]
theorem yI (a b:Int):decide ((Sum.inl a:cC)=Sum.inl b)=(a==b):=by
  by_cases e:a=b
  · subst e;simp
  · have h:¬ (Sum.inl a:cC)=Sum.inl b:=fun q=>e (Sum.inl.inj q)
    rw [decide_eq_false h];exact (beq_eq_false_iff_ne.mpr e).symm
theorem zq (a b:Str):decide ((Sum.inr a:cC)=Sum.inr b)=decide (a=b):=by
  by_cases e:a=b
  · subst e;simp
  · have h:¬ (Sum.inr a:cC)=Sum.inr b:=fun q=>e (Sum.inr.inj q)
    rw [decide_eq_false h,decide_eq_false e]
theorem yu (a:Int) (b:Str):decide ((Sum.inl a:cC)=Sum.inr b)=false:=decide_eq_false (fun q=>nomatch q)
theorem zM (a:Str) (b:Int):decide ((Sum.inr a:cC)=Sum.inl b)=false:=decide_eq_false (fun q=>nomatch q)
noncomputable def cE (prog:Program) (w:World):PySem.KeyKind prog w cC where
  is:=kJ
  hash:=B0 w
  inj:=fun v a b ha hb=>by
    rcases bQ ha with ⟨i,t,rfl,rfl⟩ | ⟨x,t,rfl,rfl⟩
    · rcases bQ hb with ⟨j,u,rfl,e⟩ | ⟨y,u,rfl,e⟩
      · injection e with e1 _;rw [e1]
      · exact nomatch e
    · rcases bQ hb with ⟨j,u,rfl,e⟩ | ⟨y,u,rfl,e⟩
      · exact nomatch e
      · injection e with e1 _;rw [e1]
  byValue:=fun k v h=>by
    rcases bQ h with ⟨i,t,rfl,rfl⟩ | ⟨x,t,rfl,rfl⟩ <;> rfl
  pyHash:=fun hv h=>by
    rcases bQ hv with ⟨i,t,rfl,rfl⟩ | ⟨x,t,rfl,rfl⟩
    · exact wpAny_pyHash_int h
    · exact wpAny_pyHash_str h
  eqBool:=fun hu hv h=>by
    rcases bQ hu with ⟨i,t,rfl,rfl⟩ | ⟨x,t,rfl,rfl⟩
    · rcases bQ hv with ⟨j,u,rfl,rfl⟩ | ⟨y,u,rfl,rfl⟩
      · rw [yI] at h;exact wpAny_eqBool_int h
      · rw [yu] at h;exact SeqAt.EqAt.int_str i t y u _ _ _ _ h
    · rcases bQ hv with ⟨j,u,rfl,rfl⟩ | ⟨y,u,rfl,rfl⟩
      · rw [zM] at h;exact SeqAt.EqAt.str_int x t j u _ _ _ _ h
      · rw [zq] at h;exact wpAny_eqBool_str h
  «strs»:=fun k x t v h=>by
    rcases bQ h with ⟨i,u,rfl,e⟩ | ⟨y,u,rfl,e⟩
    · exact nomatch e
    · injection e with e1 _
      subst e1;cases v <;> rfl
theorem oX (prog:Program) (w:World) (i:Int) (t:Tok):(cE prog w).is (.inl i) (.int i t)=true:=sX i t
theorem oV (prog:Program) (w:World) (x:Str) (t:Tok):(cE prog w).is (.inr x) (.str x t)=true:=su x t
inductive V where
  | non | bl (b:Bool) | int (i:Int) | str (x:Str) | byt (b:Array UInt8) | flt (b:UInt64) | ref (a:Addr) | ty (n:String)
  deriving DecidableEq
noncomputable def bw:V->Value->Prop
  | .non,u=>u=Value.none
  | .bl b,u=>u=Value.bool b
  | .int i,u=>∃ t,u=Value.int i t
  | .str x,u=>∃ t,u=Value.str x t
  | .byt b,u=>∃ t,u=Value.bytes b t
  | .flt b,u=>∃ t,u=Value.float b t
  | .ref a,u=>u=Value.ref a
  | .ty n,u=>u=Value.type n
noncomputable abbrev bi:List V->List Value->Prop:=Paired bw
theorem bi.length {xs:List V} {us:List Value} (r:bi xs us):xs.length=us.length:=Paired.length r
theorem bi.get:∀ {xs:List V} {us:List Value} {i:Nat} {x:V},bi xs us->xs[i]?=some x->∃ u,us[i]?=some u/\bw x u
  | _,_,_,_,.nil,e=>by simp at e
  | _,_,0,_,.cons r _,e=>by simp at e;subst e;exact ⟨_,rfl,r⟩
  | _,_,i+1,x,.cons _ t,e=>by
    obtain ⟨u,h1,h2⟩:=bi.get (i:=i) (x:=x) t (by simpa using e);exact ⟨u,by simpa using h1,h2⟩
theorem bi.set {x:V} {u:Value} (r:bw x u):∀ {xs:List V} {us:List Value} (i:Nat),bi xs us->bi (xs.set i x) (us.set i u)
  | _,_,_,.nil=>.nil
  | _,_,0,.cons _ t=>.cons r t
  | _,_,i+1,.cons q t=>.cons q (bi.set r i t)
theorem bi.append:∀ {xs ys:List V} {us ws:List Value},bi xs us->bi ys ws->bi (xs++ys) (us++ws)
  | _,_,_,_,.nil,s=>s
  | _,_,_,_,.cons r t,s=>.cons r (bi.append t s)
theorem bi.take:∀ {xs:List V} {us:List Value} (n:Nat),bi xs us->bi (xs.take n) (us.take n)
  | _,_,0,_=>.nil
  | _,_,_+1,.nil=>.nil
  | _,_,n+1,.cons r t=>.cons r (bi.take n t)
theorem bi.drop:∀ {xs:List V} {us:List Value} (n:Nat),bi xs us->bi (xs.drop n) (us.drop n)
  | _,_,0,r=>r
  | _,_,_+1,.nil=>.nil
  | _,_,n+1,.cons _ t=>bi.drop n t
noncomputable def lr:Option V->Option Value->Prop
  | some v,some u=>bw v u
  | none,none=>True
  | _,_=>False
noncomputable def KV {κ:Type}:List (κ×V)->List (κ×Value)->Prop:=Paired fun (p:κ×V) (q:κ×Value)=>p.1=q.1/\bw p.2 q.2
noncomputable def kV:cC->V
  | .inl i=>.int i
  | .inr x=>.str x
inductive HO where
  /-- a list -/
  | lst (xs:List V)
  /-- a tuple (never changes) -/
  | tup (xs:List V)
  /-- a dict whose keys are ints and texts;one whose keys are tuples of ints and texts (the empty one is both) -/
  | dK (kvs:List (cC×V)) | dT (kvs:List (List cC×V))
  /-- a set of ints: its members,its size -/
  | set (S:Int->Bool) (n:Nat)
  /-- an instance of the class at C,its dict at dx,its attributes -/
  | ins (C dx:Addr) (fs:List (Str×V))
  /-- the dict of the instance at x -/
  | own (x:Addr)
  /-- the dict of an exception -/
  | xd (fs:List (Str×V))
  /-- a bound method,f of x -/
  | met (f x:Addr)
  /-- a range object lo,lo+1,.. below hi -/
  | rng (lo hi:Int)
  /-- a thing that is known to the object (the script;a dict while a loop walks it): read,never written while it is so -/
  | frz (o:Obj) (u:HO)
  /-- a code object's table -/
  | tbl (ps:Array Value)
  /-- any other thing,by what is true of its one object (a def of one's own: SetO a S n:=HO.ext fun h=>..) -/
  | ext (φ:Heap->Prop)
noncomputable abbrev Hp:=Addr->Option HO
noncomputable def cr (H:Hp) (a:Addr) (o:HO):Hp:=fun b=>if b=a then some o else H b
theorem bc {H:Hp} {a:Addr} {o:HO}:cr H a o a=some o:=by unfold cr;rw [if_pos rfl]
theorem ay {H:Hp} {a b:Addr} {o:HO} (h:b≠a):cr H a o b=H b:=by unfold cr;rw [if_neg h]
theorem z9 {H:Hp} {a b:Addr} {o u:HO} (h:H a=some o) (h':H b=some u) (d:o≠u):a≠b:=by
  intro e;subst e;rw [h] at h';exact d (Option.some.inj h')
theorem ba {H:Hp} {a b:Addr} {o:HO} (h:H a=some o) (h':H b=none):a≠b:=by
  intro e;subst e;rw [h] at h';cases h'
section
variable (P:Program) (w:World)
noncomputable def bS (H:Hp) (h:Heap) (a:Addr):HO->Prop
  | .lst xs=>xs.length<=sizeLine/\∃ (its:List Value) (n:Nat),bi xs its/\h.get? a=some { cls:=.type "list",data:=.seq its.toArray n }
  | .tup xs=>xs.length<=sizeLine/\∃ its:List Value,bi xs its/\IsTup h a its.toArray
  | .dK kvs=>kvs.length<=sizeLine/\(a==sysModules)=false/\∃ vs,KV kvs vs/\h.DictOf (cE P w) a vs
  | .dT kvs=>kvs.length<=sizeLine/\(a==sysModules)=false/\∃ xs:List (List cC×Addr×Value),
      Paired (fun (p:List cC×V) (q:List cC×Addr×Value)=>p.1=q.1/\H q.2.1=some (.tup (p.1.map kV))/\bw p.2 q.2.2) kvs xs /\
      ∃ o es ep,h.get? a=some o/\o.ExactDict/\o.data=.dict es ep/\es.toList=xs.map (entryOfKey (tupleKind (cE P w)))/\(xs.map (·.1)).Nodup
  | .set S n=>h.SetOf (intKind P w) a S n
  | .ins C dx fs=>H dx=some (.own a)/\fs.length<=1000/\dx≠a/\h.get? a=some (PySem.W.instObj C dx) /\
      ∃ mA,h.Ns1 dx mA/\(∀ f,lr (fs.lookup f) (mA f))/\PySem.Within mA (fs.map (·.1))
  | .own _=>∃ o,h.get? a=some o
  | .xd fs=>∃ mA,h.Ns1 a mA/\∀ f,lr (fs.lookup f) (mA f)
  | .rng lo hi=>∃ t u v,h.get? a=some { cls:=.type "range",data:=.fields #[.int lo t,.int hi u,.int 1 v] }
  | .frz o u=>h.get? a=some o/\bS H h a u
  | .tbl ps=>h.get? a=some { cls:=.none,data:=.fields ps }
  | .met f x=>h.get? a=some (PySem.W.methodObj (.ref f) (.ref x))
  | .ext φ=>φ h/\(∃ o,h.get? a=some o)/\∀ h1 h2:Heap,φ h1->(∀ o,h1.get? a=some o->h2.get? a=some o)->φ h2
noncomputable def fZ (H:Hp) (h:Heap):Prop:=∀ a o,H a=some o->bS P w H h a o
end
section
variable {P:Program} {w:World} {H H':Hp} {h h':Heap} {a:Addr} {o:HO}
theorem bS.lt (x:bS P w H h a o):a < h.objs.size:=by
  cases o with
  | lst xs=>obtain ⟨_,_,_,_,e⟩:=x;exact Heap.lt_size e
  | tup xs=>obtain ⟨_,_,_,p⟩:=x;exact p.lt
  | dK kvs=>obtain ⟨_,_,_,_,o,_,_,e,_⟩:=x;exact Heap.lt_size e
  | dT kvs=>obtain ⟨_,_,_,_,o,_,_,e,_⟩:=x;exact Heap.lt_size e
  | set S n=>obtain ⟨o,_,_,_,e,_⟩:=x;exact Heap.lt_size e
  | ins C dx fs=>obtain ⟨_,_,_,e,_⟩:=x;exact Heap.lt_size e
  | own y=>obtain ⟨_,e⟩:=x;exact Heap.lt_size e
  | xd fs=>obtain ⟨_,⟨_,_,_,e,_⟩,_⟩:=x;exact Heap.lt_size e
  | rng lo hi=>obtain ⟨_,_,_,e⟩:=x;exact Heap.lt_size e
  | frz ob u=>obtain ⟨e,_⟩:=x;exact Heap.lt_size e
  | tbl ps=>exact Heap.lt_size (show h.get? a=some _ from x)
  | met f y=>exact Heap.lt_size (show h.get? a=some _ from x)
  | ext φ=>obtain ⟨_,⟨_,e⟩,_⟩:=x;exact Heap.lt_size e
theorem Paired.mapP {α β:Type} {F G:α->β->Prop}:∀ {l₁:List α} {l₂:List β},Paired F l₁ l₂->(∀ a b,F a b->G a b)->Paired G l₁ l₂
  | _,_,.nil,_=>.nil
  | _,_,.cons r t,f=>.cons (f _ _ r) (Paired.mapP t f)
theorem bS.stay (x:bS P w H h a o) (k:∀ b u,(b=a\/H b=some (.own a))->h.get? b=some u->h'.get? b=some u)
    (ho:∀ b,H b=some (.own a)->H' b=some (.own a)) (ht:∀ b xs,H b=some (.tup xs)->H' b=some (.tup xs)):bS P w H' h' a o:=by
  induction o with
  | lst xs=>obtain ⟨z,its,n,r,e⟩:=x;exact ⟨z,its,n,r,k _ _ (.inl rfl) e⟩
  | tup xs=>obtain ⟨z,its,r,ob,e,c⟩:=x;exact ⟨z,its,r,ob,k _ _ (.inl rfl) e,c⟩
  | dK kvs=>obtain ⟨z,y,vs,r,ob,es,ep,e,c⟩:=x;exact ⟨z,y,vs,r,ob,es,ep,k _ _ (.inl rfl) e,c⟩
  | dT kvs =>
    obtain ⟨z,y,xs,r,ob,es,ep,e,c⟩:=x;exact ⟨z,y,xs,Paired.mapP r fun p q z=>⟨z.1,ht _ _ z.2.1,z.2.2⟩,ob,es,ep,k _ _ (.inl rfl) e,c⟩
  | set S n=>obtain ⟨ob,es,ep,t,e,c⟩:=x;exact ⟨ob,es,ep,t,k _ _ (.inl rfl) e,c⟩
  | ins C dx fs =>
    obtain ⟨d,z,ne,e,mA,⟨od,es,ep,e2,c⟩,r⟩:=x;exact ⟨ho _ d,z,ne,k _ _ (.inl rfl) e,mA,⟨od,es,ep,k _ _ (.inr d) e2,c⟩,r⟩
  | own y=>obtain ⟨ob,e⟩:=x;exact ⟨ob,k _ _ (.inl rfl) e⟩
  | xd fs=>obtain ⟨mA,⟨od,es,ep,e,c⟩,r⟩:=x;exact ⟨mA,⟨od,es,ep,k _ _ (.inl rfl) e,c⟩,r⟩
  | rng lo hi=>obtain ⟨t,u,v,e⟩:=x;exact ⟨t,u,v,k _ _ (.inl rfl) e⟩
  | frz ob u ih=>obtain ⟨e,q⟩:=x;exact ⟨k _ _ (.inl rfl) e,ih q⟩
  | tbl ps =>
    have e:h.get? a=some { cls:=.none,data:=.fields ps }:=x;show h'.get? a=some { cls:=.none,data:=.fields ps };exact k a _ (.inl rfl) e
  | met f y =>
    have e:h.get? a=some (PySem.W.methodObj (.ref f) (.ref y)):=x;show h'.get? a=some (PySem.W.methodObj (.ref f) (.ref y));exact k a _ (.inl rfl) e
  | ext φ=>obtain ⟨p,⟨o,e⟩,st⟩:=x;exact ⟨st _ _ p fun o q=>k _ _ (.inl rfl) q,⟨o,k _ _ (.inl rfl) e⟩,st⟩
theorem fZ.lt (x:fZ P w H h) (e:H a=some o):a < h.objs.size:=(x a o e).lt
theorem fZ.fresh (x:fZ P w H h) (e:h.objs.size<=a):H a=none:=by
  cases q:H a with
  | none=>rfl
  | some u=>exact absurd (Nat.lt_of_lt_of_le (x.lt q) e) (Nat.lt_irrefl _)
theorem fZ.kept (x:fZ P w H h) (k:∀ b u,h.get? b=some u->h'.get? b=some u):fZ P w H h':=fun a o e =>
  (x a o e).stay (fun b u _ q=>k b u q) (fun _ q=>q) fun _ _ q=>q
theorem fZ.laid (x:fZ P w H h) (k:∀ b u,h.get? b=some u->h'.get? b=some u) (hp:h.objs.size<=a) (new:bS P w (cr H a o) h' a o):fZ P w (cr H a o) h':=fun b u e=>by
  have hn:=x.fresh hp;by_cases hb:b=a
  · subst hb;rw [bc] at e;cases e;exact new
  · rw [ay hb] at e;exact (x b u e).stay (fun c v _ q=>k c v q) (fun c q=>by rw [ay (ba q hn)];exact q) fun c xs q=>by rw [ay (ba q hn)];exact q
end
noncomputable def Rd (H:Hp) (a:Addr) (u:HO):Prop:=H a=some u\/∃ o,H a=some (.frz o u)
theorem Rd.ok {P:Program} {w:World} {H:Hp} {h:Heap} {a:Addr} {u:HO} (r:Rd H a u) (x:fZ P w H h):bS P w H h a u:=by
  rcases r with r | ⟨o,r⟩
  · exact x a u r
  · obtain ⟨_,q⟩:=x a _ r;exact q
noncomputable def Ak:Option HO->Prop
  | some (.lst _)=>True
  | some (.dK _)=>True
  | some (.dT _)=>True
  | some (.set _ _)=>True
  | some (.ins _ _ _)=>True
  | some (.ext _)=>True
  | _=>False
section
variable {P:Program} {w:World} {H:Hp} {h h':Heap} {x e:Addr} {o':HO}
theorem fZ.write (ok:fZ P w H h) (mu:Ak (H x)) (he:e=x\/H e=some (.own x)) (k:∀ b u,b≠e->h.get? b=some u->h'.get? b=some u) (heo:∃ u,h'.get? e=some u)
    (new:bS P w (cr H x o') h' x o'):fZ P w (cr H x o') h':=fun b u q=>by
  have nown:∀ c y,H c=some (.own y)->c≠x:=fun c y r z=>by subst z;rw [r] at mu;exact mu
  have ntup:∀ c xs,H c=some (.tup xs)->c≠x:=fun c xs r z=>by subst z;rw [r] at mu;exact mu
  by_cases hb:b=x
  · subst hb;rw [bc] at q;cases q;exact new
  · rw [ay hb] at q;by_cases hbe:b=e
    · have q':H b=some (.own x):=by
        rcases he with z | z
        · exact absurd (hbe.trans z) hb
        · rw [hbe];exact z
      rw [q] at q';cases q';obtain ⟨v,hv⟩:=heo;exact ⟨v,by rw [hbe];exact hv⟩
    · refine (ok b u q).stay (fun c v hc r=>k c v ?_ r) (fun c r=>by rw [ay (nown c b r)];exact r) fun c xs r=>by rw [ay (ntup c xs r)];exact r
      rcases hc with rfl | hc
      · exact hbe
      · rintro rfl;rcases he with z | z
        · exact nown c b hc z
        · rw [hc] at z;cases z;exact hb rfl
end
structure Un (fs ex:List Addr) (H H':Hp) (h h':Heap):Prop where
  keep:∀ b o,h.get? b=some o->H b=none->b∉fs->b∉ex->h'.get? b=some o
  slot:∀ b o,h.get? b=some o->H b=none->b∈fs->b∉ex->∃ sl,h'.get? b=some { o with slots:=sl }
  free:∀ b o,h.get? b=some o->H b=none->b∉ex->H' b=none
  there:∀ b o,h.get? b=some o->b∉ex->∃ o',h'.get? b=some o'
  tups:∀ b xs,H b=some (.tup xs)->H' b=some (.tup xs)
  frzs:∀ b o u,H b=some (.frz o u)->H' b=some (.frz o u)
  tbls:∀ b ps,H b=some (.tbl ps)->∃ more,H' b=some (.tbl (ps++more))
section
variable {fs fs' ex ex':List Addr} {H H1 H2:Hp} {h h1 h2 h':Heap} {a x e:Addr} {o:HO}
theorem Un.any (u:Un fs ex H H1 h h1) {b:Addr} {ob:Obj} (q:h.get? b=some ob) (n:H b=none) (hx:b∉ex):∃ sl,h1.get? b=some { ob with slots:=sl }:=by
  by_cases hb:b∈fs
  · exact u.slot b ob q n hb hx
  · exact ⟨ob.slots,u.keep b ob q n hb hx⟩
theorem Un.kept (k:∀ b u,h.get? b=some u->h'.get? b=some u):Un fs ex H H h h' :=
  ⟨fun b ob q _ _ _=>k b ob q,fun b ob q _ _ _=>⟨ob.slots,k b ob q⟩,fun _ _ _ n _=>n,fun b ob q _=>⟨ob,k b ob q⟩,fun _ _ q=>q,fun _ _ _ q=>q,fun _ ps q=>⟨#[],by rw [q];simp⟩⟩
theorem Un.refl:Un fs ex H H h h:=Un.kept fun _ _ q=>q
theorem Un.laid (k:∀ b u,h.get? b=some u->h'.get? b=some u) (hp:h.objs.size<=a) (hn:H a=none):Un fs ex H (cr H a o) h h' where
  keep:=fun b u q _ _ _=>k b u q
  slot:=fun b u q _ _ _=>⟨u.slots,k b u q⟩
  free:=fun b u q n _=>by rw [ay (Nat.ne_of_lt (Nat.lt_of_lt_of_le (Heap.lt_size q) hp))];exact n
  there:=fun b u q _=>⟨u,k b u q⟩
  tups:=fun b xs q=>by rw [ay (ba q hn)];exact q
  frzs:=fun b u xs q=>by rw [ay (ba q hn)];exact q
  tbls:=fun b ps q=>⟨#[],by rw [ay (ba q hn),q];simp⟩
theorem Un.write (mu:Ak (H x)) (he:e=x\/H e=some (.own x)) (k:∀ b u,b≠e->h.get? b=some u->h'.get? b=some u) (heo:∃ u,h'.get? e=some u):Un fs ex H (cr H x o) h h':=by
  have hx:∀ b,H b=none->b≠x:=fun b n z=>by subst z;rw [n] at mu;exact mu
  have hb:∀ b,H b=none->b≠e:=fun b n z=>by
    subst z;rcases he with r | r
    · exact hx b n r
    · rw [n] at r;cases r
  have hm:∀ b u,H b=some u->¬ Ak (some u)->b≠x:=fun b u q nm z=>by subst z;rw [q] at mu;exact nm mu
  refine ⟨fun b u q n _ _=>k b u (hb b n) q,fun b u q n _ _=>⟨u.slots,k b u (hb b n) q⟩,fun b u q n _=>by rw [ay (hx b n)];exact n,fun b u q _=>?_,
    fun b xs q=>by rw [ay (hm b _ q fun z=>z)];exact q,fun b u xs q=>by rw [ay (hm b _ q fun z=>z)];exact q,fun b ps q=>⟨#[],by rw [ay (hm b _ q fun z=>z),q];simp⟩⟩
  by_cases hbe:b=e
  · subst hbe;exact heo
  · exact ⟨u,k b u hbe q⟩
end
noncomputable def Bc (h:Heap) (H:Hp):List Addr:=(List.range h.objs.size).filter fun a=>(H a).isSome
noncomputable def mO (h:Heap) (H:Hp):Heap:=PySem.W.hideAll h (Bc h H)
theorem sy (h:Heap) (H:Hp):(mO h H).objs.size=h.objs.size:=PySem.W.hideAll_size _ _
theorem tx {h:Heap} {H:Hp} {b:Addr} {o:Obj} (e:h.get? b=some o) (n:H b=none):(mO h H).get? b=some o :=
  PySem.W.hideAll_get _ e fun hm=>by
    have q:(H b).isSome=true:=(List.mem_filter.mp hm).2;rw [n] at q;simp at q
theorem wp {h:Heap} {H:Hp} {b:Addr} {o:Obj} (e:(mO h H).get? b=some o):h.get? b=some o/\H b=none:=by
  have e':h.get? b=some o:=PySem.W.of_hideAll (Bc h H) e;refine ⟨e',?_⟩;cases q:H b with
  | none=>rfl
  | some x =>
    have hm:b∈Bc h H:=List.mem_filter.mpr ⟨List.mem_range.mpr (Heap.lt_size e'),by simp [q]⟩;have z:(mO h H).get? b=none:=PySem.W.hideAll_none (Bc h H) hm;rw [z] at e;cases e
noncomputable def wj (g h:Heap) (L:Addr):List (Addr×Obj):=(List.range h.objs.size).filterMap fun a=>if a=L\/(g.get? a).isSome=true then none else (h.get? a).map fun o=>(a,o)
noncomputable def c8 (g h:Heap) (L d:Addr):List (Addr×Obj):=(wj g h L).filter fun p=>decide (p.1≠d)
structure Mod (K:PySem.W.Frag) (mg:Str->Option Value) (base:Heap):Prop where
  kin:K.In base
  glob:base.Ns mainGlobals mg
  blt:∃ mb,base.Ns builtinsNs mb/\∀ x:Str,x ≠ "__name__" -> mb x=bootBuiltins x
  nolimit:base.NoLimit
structure Cx where
  prog:Program
  w:World
  K:PySem.W.Frag
  mg:Str->Option Value
  base:Heap
  A:Around
  N:List Str
  s₀:Shared
  H₀:Hp
  env:Env
  outer:List Env
  stack:List Env
  ex:List Addr
  fn:Str->Bool
  calm:Bool
  pn:List (Addr×Obj)
  xe:Value->Shared->Prop
noncomputable def jq (l:List Env):List Addr:=l.filterMap (·.frame)
noncomputable abbrev Cx.fs (X:Cx):List Addr:=jq X.outer
noncomputable def zQ (sc:Scope) (x:Str):Prop:=sc.names.lookup x=some .local\/sc.names.lookup x=some .cell\/sc.names.lookup x=some .free
noncomputable def zK (sc:Scope) (x:Str):Prop:=sc.names.lookup x=some .local\/sc.names.lookup x=some .cell
noncomputable def BN (env:Env) (h:Heap) (m:Str->Option Value) (x:Str) (u:Value):Prop :=
  (env.kindOf x=some .local/\m x=some u)\/((env.kindOf x=some .cell\/env.kindOf x=some .free)/\∃ c,env.cells.lookup x=some c/\h.IsCell c (some u))
structure Cx.Ok (X:Cx):Prop where
  mod:Mod X.K X.mg X.base
  kind:X.env.scope.kind=.function
  glob:X.env.globals=mainGlobals
  blt:X.env.builtins=builtinsNs
  above:X.s₀.heap.objs.size<=X.env.locals
  inj:∀ x y c,X.env.cells.lookup x=some c->X.env.cells.lookup y=some c->x=y
  has:∀ x,(X.env.kindOf x=some .cell\/X.env.kindOf x=some .free)->∃ c,X.env.cells.lookup x=some c
  cab:∀ x c,X.fn x=true->X.env.cells.lookup x=some c->X.s₀.heap.objs.size<=c
  hd:X.calm=true->X.A.handled=none
  frames:X.A.frames=some X.stack
  stk:X.stack=X.outer\/(X.stack=X.env::X.outer/\X.env.frame=some X.env.locals)
  exf:∀ b∈X.ex,b≠X.env.locals/\∀ x c,X.env.cells.lookup x=some c->c≠b
  bs:∀ b o,X.base.get? b=some o->X.s₀.heap.get? b=some o/\X.H₀ b=none
  bsz:X.base.objs.size<=X.s₀.heap.objs.size
  noex:∀ b o,X.base.get? b=some o->b∉X.ex
  exfs:∀ b∈X.ex,b∉X.fs
  funs:X.s₀.heap.FunFrames X.base X.outer
  frf:∀ b∈X.fs,X.H₀ b=none
structure az (X:Cx) (pins:List (Addr×Obj)) (σ:List (Option V)) (H:Hp) (s:Shared):Prop where
  ok:X.Ok
  os:s.os=X.s₀.os
  bare:AllBare s.gens
  base:Un X.fs X.ex X.H₀ H X.s₀.heap s.heap
  loc:∃ m,s.heap.Ns X.env.locals m/\∀ (i:Nat) (x:Str) (v:V),X.N[i]?=some x->σ[i]?=some (some v)->zQ X.env.scope x->∃ u,bw v u/\BN X.env s.heap m x u
  cell:∀ x c,X.env.cells.lookup x=some c->∃ v,s.heap.IsCell c v
  free:H X.env.locals=none
  freeC:∀ x c,X.env.cells.lookup x=some c->H c=none
  pin:∀ p∈X.pn++pins,s.heap.get? p.1=some p.2/\H p.1=none/\p.1≠X.env.locals/\p.1∉X.fs/\∀ v,p.2.data≠.cell v
  hok:fZ X.prog X.w H s.heap
  len:σ.length=X.N.length
section
variable {X:Cx} {pins:List (Addr×Obj)} {σ:List (Option V)} {H H':Hp} {s:Shared} {h':Heap}
theorem Cx.Ok.nofr (ok:X.Ok) {b:Addr} {o:Obj} (e:X.base.get? b=some o):b∉X.fs:=fun hb=>by
  have:=(ok.funs.mem hb).1;rw [e] at this;cases this
theorem az.bs (I:az X pins σ H s):∀ b o,X.base.get? b=some o->s.heap.get? b=some o/\H b=none:=fun b o e =>
  ⟨I.base.keep b o (I.ok.bs b o e).1 (I.ok.bs b o e).2 (I.ok.nofr e) (I.ok.noex b o e),I.base.free b o (I.ok.bs b o e).1 (I.ok.bs b o e).2 (I.ok.noex b o e)⟩
theorem az.bk (I:az X pins σ H s):∀ b o,X.base.get? b=some o->s.heap.get? b=some o:=fun b o e=>(I.bs b o e).1
theorem az.mod (I:az X pins σ H s):Mod X.K X.mg X.base:=I.ok.mod
theorem az.kIn (I:az X pins σ H s):X.K.In s.heap:=I.ok.mod.kin.keeps I.bk
theorem az.lt (I:az X pins σ H s):X.env.locals < s.heap.objs.size:=let ⟨_,hn,_⟩:=I.loc;hn.lt
theorem az.sz (I:az X pins σ H s):X.s₀.heap.objs.size<=s.heap.objs.size:=Nat.le_trans I.ok.above (Nat.le_of_lt I.lt)
theorem az.nofs (I:az X pins σ H s) {a:Addr} (h:s.heap.objs.size<=a):a∉X.fs:=fun hb=>by
  obtain ⟨_,o,ho,_⟩:=I.ok.funs.mem hb;exact absurd (Nat.lt_of_lt_of_le (Heap.lt_size ho) (Nat.le_trans I.sz h)) (Nat.lt_irrefl _)
theorem az.cne (I:az X pins σ H s):∀ x c,X.env.cells.lookup x=some c->c≠X.env.locals:=fun x c e z=>by
  obtain ⟨v,o,ho,hd⟩:=I.cell x c e;obtain ⟨m,⟨o',es,ep,ho',hd',_⟩,_⟩:=I.loc;rw [z,ho'] at ho;cases ho;rw [hd'] at hd;cases hd
theorem az.funs (I:az X pins σ H s):s.heap.FunFrames X.base X.outer:=by
  have all:∀ (l:List Env),(∀ b∈jq l,b∈X.fs)->X.s₀.heap.FunFrames X.base l->s.heap.FunFrames X.base l:=by
    intro l;induction l with
    | nil=>intro _ _;trivial
    | cons env r ih =>
      intro hs hl;obtain ⟨hk,⟨L,o,hf,hn,ho,hd⟩,hr⟩:=hl;have hL:L∈X.fs:=hs L (by unfold jq;rw [List.filterMap_cons,hf];exact List.mem_cons_self);obtain ⟨sl,e⟩:=I.base.slot L o ho (I.ok.frf L hL) hL fun z=>I.ok.exfs L z hL
      exact ⟨hk,⟨L,_,hf,hn,e,hd⟩,ih (fun b hb=>hs b (by unfold jq;rw [List.filterMap_cons,hf];exact List.mem_cons_of_mem _ hb)) hr⟩
  exact all X.outer (fun _ hb=>hb) I.ok.funs
theorem az.stack (I:az X pins σ H s):s.heap.FunFrames X.base X.stack:=by
  rcases I.ok.stk with e | ⟨e,hf⟩
  · rw [e];exact I.funs
  · rw [e];obtain ⟨m,hn,_⟩:=I.loc;refine .cons (by rw [I.ok.kind];decide) hf hn ?_ I.funs;exact Heap.get?_none_of_le (Nat.le_trans I.ok.bsz I.ok.above)
theorem az.stkSub (I:az X pins σ H s):∀ b∈jq X.stack,b∈X.env.locals::X.fs:=fun b hb=>by
  rcases I.ok.stk with e | ⟨e,hf⟩
  · rw [e] at hb;exact List.mem_cons_of_mem _ hb
  · rw [e] at hb;unfold jq at hb;rw [List.filterMap_cons,hf] at hb;exact hb
theorem az.stkFree (I:az X pins σ H s):∀ b∈jq X.stack,H b=none:=fun b hb=>by
  rcases List.mem_cons.mp (I.stkSub b hb) with e | hb
  · rw [e];exact I.free
  · obtain ⟨_,o,ho,_⟩:=I.ok.funs.mem hb;exact I.base.free b o ho (I.ok.frf b hb) fun z=>I.ok.exfs b z hb
theorem az.step {g':Array GenState} {t':Nat} {d':Drawn} {ch:List Addr} (I:az X pins σ H s)
    (hch:∀ b∈ch,(b∈X.ex\/X.s₀.heap.objs.size<=b)/\b≠X.env.locals/\(∀ x c,X.env.cells.lookup x=some c->c≠b)/\∀ p∈X.pn++pins,p.1≠b)
    (keep:∀ b o,b≠X.env.locals->b∉X.fs->b∉ch->s.heap.get? b=some o->H b=none->h'.get? b=some o)
    (slot:∀ b o,b≠X.env.locals->b∈X.fs->b∉ch->s.heap.get? b=some o->H b=none->∃ sl,h'.get? b=some { o with slots:=sl }) (free:∀ b o,b∉ch->s.heap.get? b=some o->H b=none->H' b=none)
    (there:∀ b o,b∉ch->s.heap.get? b=some o->∃ o',h'.get? b=some o')
    (tups:∀ b xs,H b=some (.tup xs)->H' b=some (.tup xs)) (frzs:∀ b o u,H b=some (.frz o u)->H' b=some (.frz o u)) (tbls:∀ b ps,H b=some (.tbl ps)->∃ more,H' b=some (.tbl (ps++more)))
    (ns:∀ m,s.heap.Ns X.env.locals m->h'.Ns X.env.locals m) (hok:fZ X.prog X.w H' h') (hg:AllBare g') :
    az X pins σ H' { s with heap:=h',gens:=g',drawn:=d',toks:=t' }:=by
  have neL:∀ b o,X.s₀.heap.get? b=some o->b≠X.env.locals:=fun b o e=>Nat.ne_of_lt (Nat.lt_of_lt_of_le (Heap.lt_size e) I.ok.above)
  have neC:∀ b o,X.s₀.heap.get? b=some o->b∉X.ex->b∉ch:=fun b o e hx hb=>by
    rcases (hch b hb).1 with z | z
    · exact hx z
    · exact absurd (Nat.lt_of_lt_of_le (Heap.lt_size e) z) (Nat.lt_irrefl _)
  have cellK:∀ x c,X.env.cells.lookup x=some c->∀ v,s.heap.IsCell c v->h'.IsCell c v:=fun x c e v ⟨o,ho,hd⟩=>by
    have nch:c∉ch:=fun z=>(hch c z).2.2.1 x c e rfl
    by_cases hc:c∈X.fs
    · obtain ⟨sl,q⟩:=slot c o (I.cne x c e) hc nch ho (I.freeC x c e);exact ⟨_,q,hd⟩
    · exact ⟨o,keep c o (I.cne x c e) hc nch ho (I.freeC x c e),hd⟩
  refine ⟨I.ok,I.os,hg,⟨fun b o e n hb hx=>?_,fun b o e n hb hx=>?_,fun b o e n hx=>?_,fun b o e hx=>?_,fun b xs e=>tups b xs (I.base.tups b xs e),fun b o xs e=>frzs b o xs (I.base.frzs b o xs e),fun b ps e=>?_⟩,?_,fun x c e=>?_,?_,fun x c e=>?_,fun p hp=>?_,hok,I.len⟩
  · exact keep b o (neL b o e) hb (neC b o e hx) (I.base.keep b o e n hb hx) (I.base.free b o e n hx)
  · obtain ⟨sl,e1⟩:=I.base.slot b o e n hb hx;obtain ⟨sl',e2⟩:=slot b _ (neL b o e) hb (neC b o e hx) e1 (I.base.free b o e n hx);exact ⟨sl',e2⟩
  · obtain ⟨o',e1⟩:=I.base.there b o e hx;exact free b o' (neC b o e hx) e1 (I.base.free b o e n hx)
  · obtain ⟨o',e1⟩:=I.base.there b o e hx;exact there b o' (neC b o e hx) e1
  · obtain ⟨m1,e1⟩:=I.base.tbls b ps e;obtain ⟨m2,e2⟩:=tbls b _ e1;exact ⟨m1++m2,by rw [e2,Array.append_assoc]⟩
  · obtain ⟨m,hn,hl⟩:=I.loc;refine ⟨m,ns m hn,fun i x v e1 e2 e3=>?_⟩;obtain ⟨u,r,l⟩:=hl i x v e1 e2 e3;refine ⟨u,r,?_⟩;rcases l with l | ⟨k,c,e,z⟩
    · exact .inl l
    · exact .inr ⟨k,c,e,cellK x c e _ z⟩
  · obtain ⟨v,z⟩:=I.cell x c e;exact ⟨v,cellK x c e v z⟩
  · obtain ⟨m,⟨o,_,_,ho,_⟩,_⟩:=I.loc;exact free _ o (fun z=>(hch _ z).2.1 rfl) ho I.free
  · obtain ⟨v,o,ho,hd⟩:=I.cell x c e;exact free c o (fun z=>(hch c z).2.2.1 x c e rfl) ho (I.freeC x c e)
  · obtain ⟨e,n,ne,nf,d⟩:=I.pin p hp;have nch:p.1∉ch:=fun z=>(hch p.1 z).2.2.2 p hp rfl
    exact ⟨keep p.1 p.2 ne nf nch e n,free p.1 p.2 nch e n,ne,nf,d⟩
theorem az.un {t':Nat} (I:az X pins σ H s) (u:Un X.fs [] H H' s.heap h') (hok:fZ X.prog X.w H' h'):az X pins σ H' { s with heap:=h',toks:=t' }:=by
  obtain ⟨m,⟨o,es,ep,ho,r⟩,_⟩:=id I.loc;obtain ⟨sl,hL⟩:=u.any ho I.free (by simp);exact I.step (g':=s.gens) (d':=s.drawn) (ch:=[]) (fun _ z=>nomatch z) (fun b o _ hb _ e n=>u.keep b o e n hb (by simp)) (fun b o _ hb _ e n=>u.slot b o e n hb (by simp)) (fun b o _ e n=>u.free b o e n (by simp)) (fun b o _ e=>u.there b o e (by simp)) u.tups u.frzs u.tbls (fun m' hm=>by
    obtain ⟨o',es',ep',ho',r'⟩:=hm;rw [ho] at ho';cases ho';exact ⟨_,es',ep',hL,r'⟩) hok I.bare
theorem az.call {g':Array GenState} {t':Nat} {d':Drawn} {ch:List Addr} (I:az X pins σ H s) (u:Un (jq X.stack) ch H H' s.heap h') (hok:fZ X.prog X.w H' h') (hg:AllBare g')
    (hch:∀ b∈ch,(b∈X.ex\/X.s₀.heap.objs.size<=b)/\b≠X.env.locals/\(∀ x c,X.env.cells.lookup x=some c->c≠b)/\∀ p∈X.pn++pins,p.1≠b) :
    az X pins σ H' { s with heap:=h',gens:=g',drawn:=d',toks:=t' }:=by
  obtain ⟨m,⟨o,es,ep,ho,r⟩,_⟩:=id I.loc;obtain ⟨sl,hL⟩:=u.any ho I.free fun z=>(hch _ z).2.1 rfl
  exact I.step (ch:=ch) hch (fun b o hL hb hc e n=>u.keep b o e n (fun z=>(List.mem_cons.mp (I.stkSub b z)).elim hL hb) hc) (fun b o _ _ hc e n=>u.any e n hc) (fun b o hc e n=>u.free b o e n hc) (fun b o hc e=>u.there b o e hc) u.tups u.frzs u.tbls (fun m' hm=>by
    obtain ⟨o',es',ep',ho',r'⟩:=hm;rw [ho] at ho';cases ho';exact ⟨_,es',ep',hL,r'⟩) hok hg
theorem az.turned {t':Nat} {it:Addr} (I:az X pins σ H s) (k:∀ b o,b≠it->s.heap.get? b=some o->h'.get? b=some o) (hn:H it=none) (hL:it≠X.env.locals)
    (h1:it∈X.ex\/X.s₀.heap.objs.size<=it) (h2:∀ x c,X.env.cells.lookup x=some c->c≠it) (h3:∀ p∈X.pn++pins,p.1≠it):az X pins σ H { s with heap:=h',toks:=t' }:=by
  have nit:∀ b u,H b=some u->b≠it:=fun b u e z=>by rw [z,hn] at e;cases e
  refine I.step (g':=s.gens) (d':=s.drawn) (ch:=[it]) (fun b hb=>?_) (fun b o _ _ hc e _=>k b o (fun z=>hc (by simp [z])) e) (fun b o _ _ hc e _=>⟨o.slots,k b o (fun z=>hc (by simp [z])) e⟩) (fun _ _ _ _ n=>n)
    (fun b o hc e=>⟨o,k b o (fun z=>hc (by simp [z])) e⟩) (fun _ _ e=>e) (fun _ _ _ e=>e) (fun b ps e=>⟨#[],by rw [e];simp⟩) (fun m hm=>?_) (fun b u e=>?_) I.bare
  · have e:b=it:=by simpa using hb
    subst e;exact ⟨h1,hL,h2,h3⟩
  · obtain ⟨o,es,ep,ho,r⟩:=hm;exact ⟨o,es,ep,k _ o (Ne.symm hL) ho,r⟩
  · refine (I.hok b u e).stay (fun c v hc q=>k c v ?_ q) (fun _ q=>q) fun _ _ q=>q
    rcases hc with z | z
    · rw [z];exact nit b u e
    · exact nit c _ z
theorem az.tok (I:az X pins σ H s) (t:Nat):az X pins σ H { s with toks:=t }:=I.un (h':=s.heap) (t':=t) Un.refl I.hok
theorem az.kept {t':Nat} (I:az X pins σ H s) (k:∀ b u,s.heap.get? b=some u->h'.get? b=some u):az X pins σ H { s with heap:=h',toks:=t' }:=I.un (Un.kept k) (I.hok.kept k)
theorem az.laid {a:Addr} {o:HO} {t':Nat} (I:az X pins σ H s) (k:∀ b u,s.heap.get? b=some u->h'.get? b=some u) (hp:s.heap.objs.size<=a) (new:bS X.prog X.w (cr H a o) h' a o) :
    az X pins σ (cr H a o) { s with heap:=h',toks:=t' }:=I.un (Un.laid k hp (I.hok.fresh hp)) (I.hok.laid k hp new)
theorem az.write {x e:Addr} {o:HO} {t':Nat} (I:az X pins σ H s) (mu:Ak (H x)) (he:e=x\/H e=some (.own x)) (k:∀ b u,b≠e->s.heap.get? b=some u->h'.get? b=some u) (heo:∃ u,h'.get? e=some u)
    (new:bS X.prog X.w (cr H x o) h' x o):az X pins σ (cr H x o) { s with heap:=h',toks:=t' }:=I.un (Un.write mu he k heo) (I.hok.write mu he k heo new)
theorem az.pins_of {pins':List (Addr×Obj)} (I:az X pins σ H s) (h:∀ p∈pins',s.heap.get? p.1=some p.2/\H p.1=none/\p.1≠X.env.locals/\p.1∉X.fs/\∀ v,p.2.data≠.cell v):az X pins' σ H s :=
  ⟨I.ok,I.os,I.bare,I.base,I.loc,I.cell,I.free,I.freeC,fun p hp=>(List.mem_append.mp hp).elim (fun z=>I.pin p (List.mem_append_left _ z)) (h p),I.hok,I.len⟩
theorem oq {N:List Str} (hN:N.Nodup) {i j:Nat} {x:Str} (a:N[i]?=some x) (b:N[j]?=some x):i=j:=by
  obtain ⟨h1,e1⟩:=List.getElem?_eq_some_iff.mp a;obtain ⟨h2,e2⟩:=List.getElem?_eq_some_iff.mp b;exact (List.getElem_inj hN).mp (e1.trans e2.symm)
theorem lF {M:Model} {A:Around} {E:Value->Shared->Prop} {i:Nat} {x:Str} {v:V} {u:Value} {Q:Unit->Shared->Prop} (I:az X pins σ H s) (hN:X.N.Nodup) (hi:X.N[i]?=some x) (hx:zK X.env.scope x) (r:bw v u)
    (h:∀ s',az X pins (σ.set i (some v)) H s'->(∃ a,Heap.SameBut a s.heap s'.heap/\(a=X.env.locals\/X.env.cells.lookup x=some a))->Q () s') (hf:X.fn x=true\/X.env.scope.names.lookup x=some .local:=by first | exact .inl rfl | exact .inr rfl | assumption):wpAny M A (storeName X.env x u) Q E s:=by
  obtain ⟨m,hn,hl⟩:=id I.loc;have hcls:(X.env.scope.kind==.class||(X.env.scope.kind==.module&&X.env.locals != X.env.globals))=false:=by rw [I.ok.kind];rfl
  have hiσ:i < σ.length:=by rw [I.len];exact (List.getElem?_eq_some_iff.mp hi).1
  have cne:=I.cne;have tracked:∀ {a:Addr} {h':Heap},(∃ o,s.heap.get? a=some o/\H a=none)->Heap.SameBut a s.heap h'->fZ X.prog X.w H h':=fun {a h'} ha hs b ob e=>by
    obtain ⟨_,_,hfree⟩:=ha;refine (I.hok b ob e).stay (fun c w' hc q=>(hs.2 c ?_).trans q) (fun _ q=>q) fun _ _ q=>q
    rintro rfl;rcases hc with rfl | hc
    · rw [hfree] at e;cases e
    · rw [hfree] at hc;cases hc
  rcases hx with hk | hk
  · refine wpAny_storeName_local hk hn (fun h' hn' hs=>?_) hcls;obtain ⟨oL,_,_,hoL,_⟩:=id hn;refine h _ ⟨I.ok,I.os,I.bare,⟨fun b o e n hb hx=>?_,fun b o e n hb hx=>?_,I.base.free,fun b o e hx=>?_,I.base.tups,I.base.frzs,I.base.tbls⟩,⟨_,hn',fun j y v' e1 e2 e3=>?_⟩,fun y c e=>?_,I.free,I.freeC,fun p hp=>?_,tracked ⟨oL,hoL,I.free⟩ hs,by simpa using I.len⟩ ⟨_,hs,.inl rfl⟩
    · exact (hs.2 b (Nat.ne_of_lt (Nat.lt_of_lt_of_le (Heap.lt_size e) I.ok.above))).trans (I.base.keep b o e n hb hx)
    · obtain ⟨sl,e1⟩:=I.base.slot b o e n hb hx;exact ⟨sl,(hs.2 b (Nat.ne_of_lt (Nat.lt_of_lt_of_le (Heap.lt_size e) I.ok.above))).trans e1⟩
    · obtain ⟨o',e1⟩:=I.base.there b o e hx;exact ⟨o',(hs.2 b (Nat.ne_of_lt (Nat.lt_of_lt_of_le (Heap.lt_size e) I.ok.above))).trans e1⟩
    · by_cases hj:j=i
      · subst hj;rw [hi] at e1;cases e1;rw [List.getElem?_set_self hiσ] at e2;cases e2;exact ⟨u,r,.inl ⟨hk,by simp⟩⟩
      · rw [List.getElem?_set_ne (Ne.symm hj)] at e2;obtain ⟨u',r',q⟩:=hl j y v' e1 e2 e3;refine ⟨u',r',?_⟩;rcases q with ⟨k,e⟩ | ⟨k,c,e,z⟩
        · refine .inl ⟨k,?_⟩;have:y≠x:=fun e=>hj (oq hN e1 (e ▸ hi))
          simp [this,e]
        · exact .inr ⟨k,c,e,z.sameBut hs (cne y c e)⟩
    · obtain ⟨w',z⟩:=I.cell y c e;exact ⟨w',z.sameBut hs (cne y c e)⟩
    · obtain ⟨e,n,ne,nf,d⟩:=I.pin p hp;exact ⟨(hs.2 p.1 ne).trans e,n,ne,nf,d⟩
  · have hfn:X.fn x=true:=by
      rcases hf with z | z
      · exact z
      · rw [z] at hk;cases hk
    obtain ⟨c,hc⟩:=I.ok.has x (.inl hk);obtain ⟨w',z⟩:=I.cell x c hc;refine wpAny_storeName_cell I.ok.kind hk hc z (fun h' hc' hs=>?_);obtain ⟨oc,hoc,hocd⟩:=id z;refine h { s with heap:=h' } ⟨I.ok,I.os,I.bare,⟨fun b o e n hb hx=>?_,fun b o e n hb hx=>?_,I.base.free,fun b o e hx=>?_,I.base.tups,I.base.frzs,I.base.tbls⟩,⟨m,hn.sameBut hs (Ne.symm (cne x c hc)),fun j y v' e1 e2 e3=>?_⟩,fun y c' e=>?_,I.free,I.freeC,fun p hp=>?_,tracked ⟨oc,hoc,I.freeC x c hc⟩ hs,by simpa using I.len⟩ ⟨c,hs,.inr hc⟩
    · exact (hs.2 b (Nat.ne_of_lt (Nat.lt_of_lt_of_le (Heap.lt_size e) (I.ok.cab x c hfn hc)))).trans (I.base.keep b o e n hb hx)
    · obtain ⟨sl,e1⟩:=I.base.slot b o e n hb hx;exact ⟨sl,(hs.2 b (Nat.ne_of_lt (Nat.lt_of_lt_of_le (Heap.lt_size e) (I.ok.cab x c hfn hc)))).trans e1⟩
    · obtain ⟨o',e1⟩:=I.base.there b o e hx;exact ⟨o',(hs.2 b (Nat.ne_of_lt (Nat.lt_of_lt_of_le (Heap.lt_size e) (I.ok.cab x c hfn hc)))).trans e1⟩
    · by_cases hj:j=i
      · subst hj;rw [hi] at e1;cases e1;rw [List.getElem?_set_self hiσ] at e2;cases e2;exact ⟨u,r,.inr ⟨.inl hk,c,hc,hc'⟩⟩
      · rw [List.getElem?_set_ne (Ne.symm hj)] at e2;obtain ⟨u',r',q⟩:=hl j y v' e1 e2 e3;refine ⟨u',r',?_⟩;rcases q with q | ⟨k,c',e,z'⟩
        · exact .inl q
        · refine .inr ⟨k,c',e,z'.sameBut hs ?_⟩;rintro rfl;exact hj (oq hN e1 (I.ok.inj _ _ _ e hc ▸ hi))
    · by_cases hcc:c'=c
      · subst hcc;exact ⟨_,hc'⟩
      · obtain ⟨w2,z2⟩:=I.cell y c' e;exact ⟨w2,z2.sameBut hs hcc⟩
    · obtain ⟨e,n,ne,nf,d⟩:=I.pin p hp;refine ⟨(hs.2 p.1 ?_).trans e,n,ne,nf,d⟩;intro q;rw [q,hoc] at e;have q':oc=p.2:=Option.some.inj e;exact d w' (by rw [<- q'];exact hocd)
theorem o7 {M:Model} {A:Around} {E:Value->Shared->Prop} {i:Nat} {x:Str} {v:V} {u:Value} {Q:Unit->Shared->Prop} (I:az X pins σ H s) (hN:X.N.Nodup) (hi:X.N[i]?=some x) (hx:zK X.env.scope x) (r:bw v u)
    (h:∀ s',az X pins (σ.set i (some v)) H s'->Q () s') (hf:X.fn x=true\/X.env.scope.names.lookup x=some .local:=by first | exact .inl rfl | exact .inr rfl | assumption):wpAny M A (storeName X.env x u) Q E s :=
  lF I hN hi hx r (fun s' I' _=>h s' I') hf
theorem az.call' {s':Shared} {ch:List Addr} (I:az X pins σ H s) (ho:s'.os=s.os) (u:Un (jq X.stack) ch H H' s.heap s'.heap) (hok:fZ X.prog X.w H' s'.heap) (hg:AllBare s'.gens)
    (hch:∀ b∈ch,(b∈X.ex\/X.s₀.heap.objs.size<=b)/\b≠X.env.locals/\(∀ x c,X.env.cells.lookup x=some c->c≠b)/\∀ p∈X.pn++pins,p.1≠b):az X pins σ H' s':=by
  obtain ⟨h',g',d',t',o'⟩:=s';have e:o'=s.os:=ho;subst e;exact I.call (g':=g') (t':=t') (d':=d') u hok hg hch
end
noncomputable abbrev XK:=Value->Option Addr->Hp->Prop
noncomputable abbrev St:=List (Option V)
noncomputable abbrev VK:=V->Hp->Prop
noncomputable abbrev TE:=St->Hp->VK->Prop
noncomputable abbrev TT:=St->Hp->(Bool->Hp->Prop)->Prop
noncomputable abbrev TA:=St->Hp->(List V->Hp->Prop)->Prop
structure qk where
  nx:St->Hp->Prop
  rt:VK
  bk:St->Hp->Prop:=fun _ _=>False
  ct:St->Hp->Prop:=fun _ _=>False
noncomputable abbrev TS:=qk->St->Hp->Prop
noncomputable def EP (X:Cx) (pins:List (Addr×Obj)) (σ:St) (Q:VK) (u:Value) (s':Shared):Prop:=∃ v H',az X pins σ H' s'/\bw v u/\Q v H'
noncomputable def TP (X:Cx) (pins:List (Addr×Obj)) (σ:St) (Q:Bool->Hp->Prop) (b:Bool) (s':Shared):Prop:=∃ H',az X pins σ H' s'/\Q b H'
noncomputable def AP (X:Cx) (pins:List (Addr×Obj)) (σ:St) (Q:List V->Hp->Prop) (us:List Value) (s':Shared):Prop:=∃ vs H',az X pins σ H' s'/\bi vs us/\Q vs H'
noncomputable def SP (X:Cx) (pins:List (Addr×Obj)) (D:qk) (f:Flow) (s':Shared):Prop :=
  match f with
  | .next=>∃ σ' H',az X pins σ' H' s'/\D.nx σ' H'
  | .brk=>∃ σ' H',az X pins σ' H' s'/\D.bk σ' H'
  | .cont=>∃ σ' H',az X pins σ' H' s'/\D.ct σ' H'
  | .ret u=>∃ v σ' H',az X pins σ' H' s'/\bw v u/\D.rt v H'
noncomputable def PE (X:Cx) (e:Expr) (t:TE):Prop :=
  ∀ (pins:List (Addr×Obj)) (s:Shared) (σ:St) (H:Hp) (Q:VK),az X pins σ H s->t σ H Q->wpAny (model X.prog X.w) X.A (eval e X.env) (EP X pins σ Q) X.xe s
noncomputable def PT (X:Cx) (e:Expr) (t:TT):Prop :=
  ∀ (pins:List (Addr×Obj)) (s:Shared) (σ:St) (H:Hp) (Q:Bool->Hp->Prop),az X pins σ H s->t σ H Q->wpAny (model X.prog X.w) X.A (isTrue e X.env (eval e X.env)) (TP X pins σ Q) X.xe s
noncomputable def PW (X:Cx) (e:Expr) (t:TT):Prop :=
  ∀ (whole:Sem Value) (pins:List (Addr×Obj)) (s:Shared) (σ:St) (H:Hp) (Q:Bool->Hp->Prop),az X pins σ H s->t σ H Q->wpAny (model X.prog X.w) X.A (isTrue e X.env whole) (TP X pins σ Q) X.xe s
theorem PW.pt {X:Cx} {e:Expr} {t:TT} (h:PW X e t):PT X e t:=h _
noncomputable def PA (X:Cx) (es:List Expr) (t:TA):Prop :=
  ∀ (pos:Pos) (pins:List (Addr×Obj)) (s:Shared) (σ:St) (H:Hp) (Q:List V->Hp->Prop),az X pins σ H s->t σ H Q->wpAny (model X.prog X.w) X.A (spliced (backTo pos (starEach es X.env))) (AP X pins σ Q) X.xe s
noncomputable def PS (X:Cx) (st:Stmt) (t:TS):Prop :=
  ∀ (pins:List (Addr×Obj)) (s:Shared) (σ:St) (H:Hp) (D:qk),az X pins σ H s->t D σ H->wpAny (model X.prog X.w) X.A (exec st X.env) (SP X pins D) X.xe s
noncomputable def nc (X:Cx) (st:List Stmt) (t:TS):Prop :=
  ∀ (pins:List (Addr×Obj)) (s:Shared) (σ:St) (H:Hp) (D:qk),az X pins σ H s->t D σ H->wpAny (model X.prog X.w) X.A (execs st X.env) (SP X pins D) X.xe s
theorem cS {α:Type} {t:Sem α} {Q Q':α->Shared->Prop} {M:Model} {A:Around} {E:Value->Shared->Prop} {s:Shared} (h:wpAny M A t Q E s) (hQ:∀ a s,Q a s->Q' a s):wpAny M A t Q' E s:=wpAny_mono h hQ fun _ _ x=>x
section
variable {X:Cx}
theorem Cp {a b:Expr} {ta tb:TE} (ha:PE X a ta) (hb:PE X b tb) {pins:List (Addr×Obj)} {s:Shared} {σ:St} {H:Hp} {R:V->V->Hp->Prop} (I:az X pins σ H s) (h:ta σ H fun x H1=>tb σ H1 fun y H2=>R x y H2)
    {α:Type} {Q:α->Shared->Prop} {f:Value->Value->Sem α}
    (hf:∀ v u s2 x y H2,az X pins σ H2 s2->bw x v->bw y u->R x y H2->wpAny (model X.prog X.w) X.A (f v u) Q X.xe s2) :
    wpAny (model X.prog X.w) X.A (eval a X.env) (fun v s₁=>wpAny (model X.prog X.w) X.A (eval b X.env) (fun u s₂=>wpAny (model X.prog X.w) X.A (f v u) Q X.xe s₂) X.xe s₁) X.xe s:=by
  refine cS (ha pins s σ H _ I h) fun v s1 ⟨x,H1,I1,r1,q1⟩=>?_
  refine cS (hb pins s1 σ H1 _ I1 q1) fun u s2 ⟨y,H2,I2,r2,q2⟩=>?_
  exact hf v u s2 x y H2 I2 r1 r2 q2
noncomputable def Ap (i:Nat):TE:=fun σ H Q=>∃ v,σ[i]?=some (some v)/\Q v H
noncomputable def tC (v:V):TE:=fun _ H Q=>Q v H
theorem gP {i:Nat} {x:Str} {pos:Pos} (hN:X.N[i]?=some x) (hv:zQ X.env.scope x) (hd:(x==("__debug__" : Str))=false:=by decide) (hcd:(x==("__classdict__" : Str))=false:=by decide):PE X (.Name x pos) (Ap i):=by
  intro pins s σ H Q I h;obtain ⟨v,e,h⟩:=h;obtain ⟨m,hn,hl⟩:=I.loc;obtain ⟨u,r,l⟩:=hl i x v hN e hv;have fin:EP X pins σ Q u s:=⟨v,H,I,r,h⟩
  rcases l with ⟨hk,hm⟩ | ⟨hk,c,hc,hcell⟩
  · exact wpAny_Name (wpAny_loadName_local I.ok.kind hk hn hm fin) hd
  · rcases hk with hk | hk
    · exact wpAny_Name (wpAny_loadName_cell I.ok.kind hk hc hcell fin) hd
    · exact wpAny_Name (wpAny_loadName_free I.ok.kind hk hc hcell fin hcd) hd
theorem zD {i j pos}:PE X (.Constant (.int i) j pos) (tC (.int i)):=fun _ _ _ H _ I h=>wpAny_Constant_int ⟨.int i,H,I.tok _,⟨_,rfl⟩,h⟩
theorem AO {b j pos}:PE X (.Constant (.bool b) j pos) (tC (.bl b)):=fun _ _ _ H _ I h=>Constant_bool ⟨.bl b,H,I,rfl,h⟩
theorem zd {j pos}:PE X (.Constant .none j pos) (tC .non):=fun _ _ _ H _ I h=>Constant_none ⟨.non,H,I,rfl,h⟩
noncomputable def Gl (X:Cx) (x:Str):Prop:=X.env.kindOf x=some .globalImplicit
theorem rc {E:Value->Shared->Prop} {pins:List (Addr×Obj)} {s:Shared} {σ:St} {H:Hp} {x:Str} {u:Value} {pos:Pos} {Q:Value->Shared->Prop} (I:az X pins σ H s) (hg:Gl X x) (hm:X.mg x=some u) (h:Q u s)
    (hd:(x==("__debug__" : Str))=false:=by decide):wpAny (model X.prog X.w) X.A (eval (.Name x pos) X.env) Q E s :=
  Calls.Name_function_global I.ok.kind hg (Calls.loadGlobal_global (by rw [I.ok.glob];exact I.mod.glob.keeps I.bk) hm h) hd
theorem k8 {E:Value->Shared->Prop} {pins:List (Addr×Obj)} {s:Shared} {σ:St} {H:Hp} {x:Str} {u:Value} {pos:Pos} {Q:Value->Shared->Prop} (I:az X pins σ H s) (hg:Gl X x) (hm:X.mg x=none) (hv:bootBuiltins x=some u) (h:Q u s)
    (hn:x ≠ "__name__" := by decide) (hd:(x==("__debug__" : Str))=false:=by decide):wpAny (model X.prog X.w) X.A (eval (.Name x pos) X.env) Q E s:=by
  obtain ⟨mb,h1,h2⟩:=I.mod.blt;exact Calls.Name_function_global I.ok.kind hg (Calls.loadGlobal_builtin (by rw [I.ok.glob];exact I.mod.glob.keeps I.bk) hm (by rw [I.ok.blt];exact h1.keeps I.bk) ((h2 x hn).trans hv) h) hd
theorem wd {x:Str} {v:V} {u:Value} {pos:Pos} (hg:Gl X x) (hm:X.mg x=some u) (r:bw v u) (hd:(x==("__debug__" : Str))=false:=by decide):PE X (.Name x pos) (tC v) :=
  fun _ _ _ H _ I h=>rc I hg hm ⟨v,H,I,r,h⟩ hd
variable {a b:Expr} {ta tb:TE} {pos:Pos}
noncomputable def PC (X:Cx) (op:CmpOp) (a b:Expr) (t:TE):Prop :=
  ∀ (pins:List (Addr×Obj)) (s:Shared) (σ:St) (H:Hp) (Q:VK),az X pins σ H s->t σ H Q ->
    wpAny (model X.prog X.w) X.A (eval a X.env) (fun v s₁=>wpAny (model X.prog X.w) X.A (eval b X.env) (fun u s₂=>wpAny (model X.prog X.w) X.A (compareOp op v u) (EP X pins σ Q) X.xe s₂) X.xe s₁) X.xe s
theorem vq (b:Expr) {op:CmpOp} (h:op≠.In) (h2:op≠.NotIn):behindInMarks op b=false:=by
  have e1:(op==CmpOp.In)=false:=by cases op <;> first | rfl | exact absurd rfl h
  have e2:(op==CmpOp.NotIn)=false:=by cases op <;> first | rfl | exact absurd rfl h2
  cases b <;> simp [behindInMarks,e1,e2]
noncomputable def tB (t:TE):TT:=fun σ H Q=>t σ H fun x H1=>∃ c,x=.bl c/\Q c H1
theorem BC {op:CmpOp} {t:TE} (h:PC X op a b t) (h1:behindInMarks op b=false:=by first | exact vq _ (by decide) (by decide) | rfl):PT X (.Compare a [op] [b] pos) (tB t):=by
  intro pins s σ H Q I hw;refine wpAny_isTrue_Compare1 (cS (h pins s σ H _ I hw) fun v s1 h1=>cS h1 fun u s2 h2=>cS h2 fun c s3 ⟨x,H1,I1,r1,q1⟩=>?_) h1;obtain ⟨d,rfl,q⟩:=q1;cases r1;exact wpAny_truthy_bool ⟨H1,I1,q⟩
theorem yk {e:Expr} {t:TE} (h:PE X e t) (he:∀ whole,isTrue e X.env whole=(do let v <- whole;standAt e.pos;holding [v] (truthy v)):=by intro _;rfl):PT X e (tB t):=by
  intro pins s σ H Q I hw;refine isTrue_plain (cS (h pins s σ H _ I hw) fun v s1 ⟨x,H1,I1,r1,q1⟩=>?_) (he _);obtain ⟨d,rfl,q⟩:=q1;cases r1;exact wpAny_truthy_bool ⟨H1,I1,q⟩
variable {tA tB':TT} {c8:List Expr}
noncomputable def BE (t u:TT):TT:=fun σ H Q=>t σ H fun c H1=>if c=true then u σ H1 Q else Q false H1
noncomputable def Cm (t u:TT):TT:=fun σ H Q=>t σ H fun c H1=>if c=true then Q true H1 else u σ H1 Q
noncomputable def By (t:TT):TT:=fun σ H Q=>t σ H fun c H1=>Q (!c) H1
theorem pw_and1 (ha:PT X a tA):PW X (.BoolOp .And [a] pos) tA:=by
  intro wh pins s σ H Q I h;refine isTrue_and (cS (ha pins s σ H Q I h) fun c s1 e=>?_);cases c with
  | true=>exact isTrue_and_nil e
  | false=>exact e
theorem pw_or1 (ha:PT X a tA):PW X (.BoolOp .Or [a] pos) tA:=by
  intro wh pins s σ H Q I h;refine isTrue_or (cS (ha pins s σ H Q I h) fun c s1 e=>?_);cases c with
  | false=>exact isTrue_or_nil e
  | true=>exact e
theorem pw_and (ha:PT X a tA) (hb:PW X (.BoolOp .And (b::c8) pos) tB'):PW X (.BoolOp .And (a::b::c8) pos) (BE tA tB'):=by
  intro wh pins s σ H Q I h;refine isTrue_and (cS (ha pins s σ H _ I h) fun c s1 ⟨H1,I1,q1⟩=>?_);cases c with
  | true=>exact hb wh pins s1 σ H1 Q I1 q1
  | false=>exact ⟨H1,I1,q1⟩
theorem pw_or (ha:PT X a tA) (hb:PW X (.BoolOp .Or (b::c8) pos) tB'):PW X (.BoolOp .Or (a::b::c8) pos) (Cm tA tB'):=by
  intro wh pins s σ H Q I h;refine isTrue_or (cS (ha pins s σ H _ I h) fun c s1 ⟨H1,I1,q1⟩=>?_);cases c with
  | true=>exact ⟨H1,I1,q1⟩
  | false=>exact hb wh pins s1 σ H1 Q I1 q1
theorem yQ (ha:PT X a tA):PT X (.UnaryOp .Not a pos) (By tA):=by
  intro pins s σ H Q I h;exact isTrue_not (ha pins s σ H (fun c H1=>Q (!c) H1) I h)
noncomputable def Bx (ta tb:TE):TE:=fun σ H Q=>ta σ H fun x H1=>∃ c,x=.bl c/\if c=true then Q (.bl true) H1 else tb σ H1 Q
theorem yX {op} {t:TE} (h:PE X a t):PE X (.BoolOp op [a] pos) t:=fun pins s σ H Q I hw=>BoolOp_one (h pins s σ H Q I hw)
theorem z0 (ha:PE X a ta) (hb:PE X (.BoolOp .Or (b::c8) pos) tb):PE X (.BoolOp .Or (a::b::c8) pos) (Bx ta tb):=by
  intro pins s σ H Q I h;refine BoolOp_or (cS (ha pins s σ H _ I h) fun v s1 ⟨x,H1,I1,r1,q1⟩=>?_);obtain ⟨c,rfl,q1⟩:=q1;cases r1;refine wpAny_truthy_bool ?_;cases c with
  | false=>exact hb pins s1 σ H1 Q I1 q1
  | true=>exact ⟨.bl true,H1,I1,rfl,q1⟩
noncomputable def Ck (t:TT) (ta tb:TE):TE:=fun σ H Q=>t σ H fun c H1=>if c=true then ta σ H1 Q else tb σ H1 Q
theorem tz {c:Expr} (hc:PT X c tA) (ha:PE X a ta) (hb:PE X b tb):PE X (.IfExp c a b pos) (Ck tA ta tb):=by
  intro pins s σ H Q I h;refine wpAny_IfExp (cS (hc pins s σ H _ I h) fun d s1 ⟨H1,I1,q1⟩=>?_);cases d with
  | true=>exact ha pins s1 σ H1 Q I1 q1
  | false=>exact hb pins s1 σ H1 Q I1 q1
end
noncomputable def jr (K:PySem.W.Frag) (H:Hp) (a:Addr) (xs:List V):Prop :=
  Rd H a (.lst xs) \/
    ∃ (o:Obj) (its:Array Value) (n:Nat),K.lookup a=some o/\o.cls=.type "list" /\ o.dict=none/\o.data=.seq its n/\its.size<=sizeLine/\bi xs its.toList
noncomputable def eV (K:PySem.W.Frag) (H:Hp) (a:Addr) (xs:List V):Prop :=
  Rd H a (.tup xs) \/
    ∃ (o:Obj) (its:Array Value) (n:Nat),K.lookup a=some o/\o.cls=.type "tuple" /\ o.data=.seq its n/\its.size<=sizeLine/\bi xs its.toList
noncomputable def BU:Value->Option V
  | .none=>some .non
  | .bool b=>some (.bl b)
  | .int i _=>some (.int i)
  | .str x _=>some (.str x)
  | .bytes b _=>some (.byt b)
  | .float b _=>some (.flt b)
  | .ref a=>some (.ref a)
  | .type n=>some (.ty n)
  | _=>none
theorem bw.abs {x:V} {u:Value} (r:bw x u):BU u=some x:=by
  cases x with
  | non=>cases r;rfl
  | bl _=>cases r;rfl
  | int _=>obtain ⟨t,rfl⟩:=r;rfl
  | str _=>obtain ⟨t,rfl⟩:=r;rfl
  | byt _=>obtain ⟨t,rfl⟩:=r;rfl
  | flt _=>obtain ⟨t,rfl⟩:=r;rfl
  | ref _=>cases r;rfl
  | ty _=>cases r;rfl
theorem bw.inj {x y:V} {u:Value} (r:bw x u) (q:bw y u):x=y:=Option.some.inj (r.abs.symm.trans q.abs)
theorem bi.inj:∀ {xs ys:List V} {us:List Value},bi xs us->bi ys us->xs=ys
  | _,_,_,.nil,.nil=>rfl
  | _,_,_,.cons r t,.cons r' t'=>by rw [r.inj r',bi.inj t t']
section
variable {X:Cx} {pins:List (Addr×Obj)} {σ:St} {H:Hp} {s:Shared} {a:Addr} {xs ys:List V}
theorem jr.of {K:PySem.W.Frag} (h:H a=some (.lst xs)):jr K H a xs:=.inl (.inl h)
theorem eV.of {K:PySem.W.Frag} (h:H a=some (.tup xs)):eV K H a xs:=.inl (.inl h)
theorem az.list (I:az X pins σ H s) (h:jr X.K H a xs):∃ its:List Value,bi xs its/\PlainL s.heap a its.toArray/\xs.length<=sizeLine:=by
  rcases h with h | ⟨o,its,n,hk,hc,hd,hs,hz,r⟩
  · obtain ⟨z,its,n,r,e⟩:=h.ok I.hok;exact ⟨its,r,⟨_,n,e,rfl,rfl,rfl⟩,z⟩
  · refine ⟨its.toList,r,⟨o,n,I.kIn a o hk,hc,hd,by simpa using hs⟩,?_⟩;have e:=r.length;simp only [Array.length_toList] at e;omega
theorem az.tuple (I:az X pins σ H s) (h:eV X.K H a xs):∃ its:List Value,bi xs its/\IsTup s.heap a its.toArray/\xs.length<=sizeLine:=by
  rcases h with h | ⟨o,its,n,hk,hc,hs,hz,r⟩
  · obtain ⟨z,its,r,p⟩:=h.ok I.hok;exact ⟨its,r,p,z⟩
  · refine ⟨its.toList,r,⟨o,I.kIn a o hk,hc,n,by simpa using hs⟩,?_⟩;have e:=r.length;simp only [Array.length_toList] at e;omega
theorem az.list_inj (I:az X pins σ H s) (h:jr X.K H a xs) (h':jr X.K H a ys):xs=ys:=by
  obtain ⟨its,r,⟨o,n,e,_,_,d⟩,_⟩:=I.list h;obtain ⟨its',r',⟨o',n',e',_,_,d'⟩,_⟩:=I.list h';rw [e] at e';cases e';rw [d] at d';injection d' with d1 _
  have:its=its':=by simpa using congrArg Array.toList d1
  subst this;exact r.inj r'
theorem az.tuple_inj (I:az X pins σ H s) (h:eV X.K H a xs) (h':eV X.K H a ys):xs=ys:=by
  obtain ⟨its,r,⟨o,e,_,n,d⟩,_⟩:=I.tuple h;obtain ⟨its',r',⟨o',e',_,n',d'⟩,_⟩:=I.tuple h';rw [e] at e';cases e';rw [d] at d';injection d' with d1 _
  have:its=its':=by simpa using congrArg Array.toList d1
  subst this;exact r.inj r'
end
noncomputable abbrev Cx.wish (X:Cx) (E:Value->Shared->Prop):Cx:={ X with xe:=E }
noncomputable abbrev Cx.nox (X:Cx):Cx:=X.wish fun _ _=>False
theorem Cx.Ok.wish {X:Cx} (ok:X.Ok) (E:Value->Shared->Prop):(X.wish E).Ok :=
  ⟨ok.mod,ok.kind,ok.glob,ok.blt,ok.above,ok.inj,ok.has,ok.cab,ok.hd,ok.frames,ok.stk,ok.exf,ok.bs,ok.bsz,ok.noex,ok.exfs,ok.funs,ok.frf⟩
theorem Cx.Ok.unwish {X:Cx} {E:Value->Shared->Prop} (ok:(X.wish E).Ok):X.Ok :=
  ⟨ok.mod,ok.kind,ok.glob,ok.blt,ok.above,ok.inj,ok.has,ok.cab,ok.hd,ok.frames,ok.stk,ok.exf,ok.bs,ok.bsz,ok.noex,ok.exfs,ok.funs,ok.frf⟩
section
variable {X:Cx} {pins:List (Addr×Obj)} {σ:St} {H:Hp} {s:Shared} {E:Value->Shared->Prop}
theorem az.wish (I:az X pins σ H s) (E:Value->Shared->Prop):az (X.wish E) pins σ H s:=⟨I.ok.wish E,I.os,I.bare,I.base,I.loc,I.cell,I.free,I.freeC,I.pin,I.hok,I.len⟩
theorem az.unwish (I:az (X.wish E) pins σ H s):az X pins σ H s:=⟨I.ok.unwish,I.os,I.bare,I.base,I.loc,I.cell,I.free,I.freeC,I.pin,I.hok,I.len⟩
theorem SP.unwish {D:qk} {f:Flow} {s':Shared} (h:SP (X.wish E) pins D f s'):SP X pins D f s':=by
  cases f with
  | next=>obtain ⟨σ',H',I,q⟩:=h;exact ⟨σ',H',I.unwish,q⟩
  | brk=>obtain ⟨σ',H',I,q⟩:=h;exact ⟨σ',H',I.unwish,q⟩
  | cont=>obtain ⟨σ',H',I,q⟩:=h;exact ⟨σ',H',I.unwish,q⟩
  | ret u=>obtain ⟨v,σ',H',I,r,q⟩:=h;exact ⟨v,σ',H',I.unwish,r,q⟩
theorem PE.nox {e:Expr} {t:TE} (h:PE X.nox e t):PE X e t:=fun pins s σ H Q I hw =>
  wpAny_mono (h pins s σ H Q (I.wish _) hw) (fun _ _ ⟨v,H',I',r,q⟩=>⟨v,H',I'.unwish,r,q⟩) fun _ _ z=>False.elim z
theorem PT.nox {e:Expr} {t:TT} (h:PT X.nox e t):PT X e t:=fun pins s σ H Q I hw =>
  wpAny_mono (h pins s σ H Q (I.wish _) hw) (fun _ _ ⟨H',I',q⟩=>⟨H',I'.unwish,q⟩) fun _ _ z=>False.elim z
theorem nc.nox {st:List Stmt} {t:TS} (h:nc X.nox st t):nc X st t:=fun pins s σ H D I hw =>
  wpAny_mono (h pins s σ H D (I.wish _) hw) (fun _ _ q=>q.unwish) fun _ _ z=>False.elim z
end
section
variable {X:Cx} {st:Stmt} {c8:List Stmt} {t u:TS} {e:Expr} {te:TE} {pos:Pos}
noncomputable def AZ:TS:=fun D σ H=>D.nx σ H
noncomputable def BW (t u:TS):TS:=fun D σ H=>t { D with nx:=u D } σ H
theorem wz:nc X [] AZ:=fun _ _ σ H _ I h=>wpAny_execs_nil ⟨σ,H,I,h⟩
theorem tw (h1:PS X st t) (h2:nc X c8 u):nc X (st::c8) (BW t u):=by
  intro pins s σ H D I h;refine wpAny_execs_cons (cS (h1 pins s σ H { D with nx:=u D } I h) fun f s1 q=>?_);cases f with
  | next =>
    obtain ⟨σ',H',I',q⟩:=q;exact h2 pins s1 σ' H' D I' q
  | ret v=>exact q
  | brk=>exact q
  | cont=>exact q
theorem wI (h1:PS X st t):nc X [st] t:=by
  intro pins s σ H D I h;refine wpAny_execs_cons (cS (h1 pins s σ H D I h) fun f s1 q=>?_);cases f with
  | next=>exact wpAny_execs_nil q
  | ret v=>exact q
  | brk=>exact q
  | cont=>exact q
theorem az.quiet {pins:List (Addr×Obj)} {σ:St} {H:Hp} {s:Shared} (I:az X pins σ H s):interactive X.env=false:=by simp [interactive,I.ok.kind]
noncomputable def AX (te:TE):TS:=fun D σ H=>te σ H fun _ H1=>D.nx σ H1
theorem we (he:PE X e te) (hs:swapsWith e none pos.line X.env=pure false:=by rfl):PS X (.Expr e pos) (AX te):=by
  intro pins s σ H D I h;exact wpAny_Expr_any (cS (he pins s σ H _ I h) fun v s1 ⟨x,H1,I1,r1,q1⟩=>⟨σ,H1,I1,q1⟩) I.quiet hs
noncomputable def Bt (te:TE):TS:=fun D σ H=>te σ H D.rt
theorem qm (he:PE X e te):PS X (.Return (some e) pos) (Bt te):=by
  intro pins s σ H D I h;exact wpAny_Return_some (cS (he pins s σ H _ I h) fun v s1 ⟨x,H1,I1,r1,q1⟩=>⟨x,σ,H1,I1,r1,q1⟩)
noncomputable def BQ (c:TT) (t u:TS):TS:=fun D σ H=>c σ H fun b H1=>if b=true then t D σ H1 else u D σ H1
theorem At {c:Expr} {a b:List Stmt} {tc:TT} (hc:PT X c tc) (ha:nc X a t) (hb:nc X b u):PS X (.If c a b pos) (BQ tc t u):=by
  intro pins s σ H D I h;refine wpAny_If (cS (hc pins s σ H _ I h) fun d s1 ⟨H1,I1,q1⟩=>?_);cases d with
  | true=>exact ha pins s1 σ H1 D I1 q1
  | false=>exact hb pins s1 σ H1 D I1 q1
end
noncomputable abbrev TG:=V->St->Hp->(St->Hp->Prop)->Prop
noncomputable abbrev yA:=List V->St->Hp->(St->Hp->Prop)->Prop
noncomputable def PG (X:Cx) (target:Expr) (t:TG):Prop :=
  ∀ (pins:List (Addr×Obj)) (s:Shared) (σ:St) (H:Hp) (v:V) (u:Value) (Q:St->Hp->Prop),az X pins σ H s->bw v u->t v σ H Q ->
    wpAny (model X.prog X.w) X.A (assign target X.env u) (fun _ s'=>∃ σ' H',az X pins σ' H' s'/\Q σ' H') X.xe s
noncomputable def Bo (X:Cx) (ts:List Expr) (t:yA):Prop :=
  ∀ (pins:List (Addr×Obj)) (s:Shared) (σ:St) (H:Hp) (vs:List V) (us:List Value) (Q:St->Hp->Prop),az X pins σ H s->bi vs us->t vs σ H Q ->
    wpAny (model X.prog X.w) X.A (assignInOrder ((assignEach ts X.env).map (·.2)) us) (fun _ s'=>∃ σ' H',az X pins σ' H' s'/\Q σ' H') X.xe s
noncomputable abbrev zv:=V->V->V->Hp->(Hp->Prop)->Prop
noncomputable def Am (X:Cx) (t:zv):Prop :=
  ∀ (pins:List (Addr×Obj)) (s:Shared) (σ:St) (H:Hp) (o i v:V) (ov iv u:Value) (Q:Hp->Prop),az X pins σ H s->bw o ov->bw i iv->bw v u->t o i v H Q ->
    wpAny (model X.prog X.w) X.A (setItem ov iv u) (fun _ s'=>∃ H',az X pins σ H' s'/\Q H') X.xe s
section
variable {X:Cx} {pos:Pos}
noncomputable def xW (i:Nat):TG:=fun v σ H Q=>Q (σ.set i (some v)) H
theorem mn {i:Nat} {x:Str} (hN:X.N.Nodup) (hi:X.N[i]?=some x) (hx:zK X.env.scope x) (hf:X.fn x=true\/X.env.scope.names.lookup x=some .local:=by first | exact .inl rfl | exact .inr rfl | assumption):PG X (.Name x pos) (xW i):=by
  intro pins s σ H v u Q I r h;exact wpAny_assign_Name (o7 I hN hi hx r (fun s' I'=>⟨_,H,I',h⟩) hf)
noncomputable def BD:yA:=fun vs σ H Q=>vs=[]/\Q σ H
noncomputable def AM (t:TG) (u:yA):yA:=fun vs σ H Q=>∃ v r,vs=v::r/\t v σ H fun σ' H'=>u r σ' H' Q
theorem xm:Bo X [] BD:=by
  intro pins s σ H vs us Q I r h;obtain ⟨e,h⟩:=h;subst e;cases r;exact assignInOrder_nil ⟨σ,H,I,h⟩
theorem oR {e:Expr} {es:List Expr} {t:TG} {u:yA} (h1:PG X e t) (h2:Bo X es u)
    (hs:(assignEach (e::es) X.env).map (·.2)=assign e X.env::(assignEach es X.env).map (·.2):=by rfl):Bo X (e::es) (AM t u):=by
  intro pins s σ H vs us Q I r h;obtain ⟨v,vr,e1,h⟩:=h;subst e1;cases r with
  | cons r rr =>
    rw [hs];refine assignInOrder_cons (cS (h1 pins s σ H _ _ _ I r h) fun _ s1 ⟨σ1,H1,I1,q1⟩=>?_);exact h2 pins s1 σ1 H1 _ _ Q I1 rr q1
noncomputable def BY (K:PySem.W.Frag) (n:Nat) (t:yA):TG:=fun v σ H Q=>∃ a xs,v=.ref a/\eV K H a xs/\xs.length=n/\t xs σ H Q
theorem zb {es:List Expr} {k:Nat} {t:yA} {n:Nat} (hc:X.calm=true) (h:Bo X es t)
    (hn:(assignEach es X.env).length=n:=by rfl) (hst:(assignEach es X.env).findIdx? (·.1)=none:=by rfl):PG X (.Tuple es k pos) (BY X.K n t):=by
  intro pins s σ H v u Q I r hw;obtain ⟨a,xs,e1,hq,hl,hw⟩:=hw;subst e1;cases r;obtain ⟨its,rv,ht,hz⟩:=I.tuple hq;refine assign_Tuple_tuple (I.ok.hd hc) ht (by simp [hn,<- hl,rv.length]) hst fun h' hx=>?_
  have I1:az X pins σ H { s with heap:=h' }:=I.kept (t':=s.toks) fun b o e=>hx b o (Nat.ne_of_lt (Heap.lt_size e)) e
  exact h pins _ σ H xs _ Q I1 (by simpa using rv) hw
noncomputable def BJ (to ti:TE) (t:zv):TG:=fun v σ H Q=>to σ H fun o H1=>ti σ H1 fun i H2=>t o i v H2 fun H3=>Q σ H3
theorem zB {o i:Expr} {to ti:TE} {t:zv} (ho:PE X o to) (hi:PE X i ti) (hs:Am X t)
    (ha:∀ v,assign (.Subscript o i pos) X.env v=(do
      let ov <- holding [v] (eval o X.env)
      let iv <- holding [v,ov] (eval i X.env)
      standAt pos
      holding [v,ov,iv] (setItem ov iv v)
      release [v,ov,iv] []):=by intro _;rfl):PG X (.Subscript o i pos) (BJ to ti t):=by
  intro pins s σ H v u Q I r h;rw [ha];refine wpAny_bind (wpAny_holding (cS (ho pins s σ H _ I h) fun ov s1 ⟨x,H1,I1,r1,q1⟩=>?_));refine wpAny_bind (wpAny_holding (cS (hi pins s1 σ H1 _ I1 q1) fun iv s2 ⟨y,H2,I2,r2,q2⟩=>?_));refine wpAny_bind (wpAny_standAt (wpAny_bind (wpAny_holding (cS (hs pins s2 σ H2 x y v ov iv u _ I2 r1 r2 r q2) fun _ s3 ⟨H3,I3,q3⟩=>?_))));exact wpAny_release ⟨σ,H3,I3,q3⟩
noncomputable def Ax (te:TE) (g:TG):TS:=fun D σ H=>te σ H fun x H1=>g x σ H1 D.nx
theorem yj {tg e:Expr} {te:TE} {g:TG} (he:PE X e te) (hg:PG X tg g) (hs:swapsWithSole [tg] e pos.line X.env=pure false:=by rfl) (hw:swappedStores [tg] e X.env=pure none:=by rfl)
    (h1:(assignEach [tg] X.env).map (·.2)=[assign tg X.env]:=by rfl):PS X (.Assign [tg] e pos) (Ax te g):=by
  intro pins s σ H D I h;refine wpAny_Assign_stores (cS (he pins s σ H _ I h) fun v s1 ⟨x,H1,I1,r1,q1⟩=>?_) hs hw;rw [h1];exact cS (hg pins s1 σ H1 x v _ I1 r1 q1) fun _ s2 q=>q
theorem tX {i:Nat} {x:Str} {e:Expr} {te:TE} {pos':Pos} (hN:X.N.Nodup) (hi:X.N[i]?=some x) (hx:zK X.env.scope x) (he:PE X e te) (hs:swapsWith e (some (.Name x pos')) pos.line X.env=pure false:=by rfl) (hf:X.fn x=true\/X.env.scope.names.lookup x=some .local:=by first | exact .inl rfl | exact .inr rfl | assumption) :
    PS X (.Assign [.Name x pos'] e pos) (Ax te (xW i)):=by
  intro pins s σ H D I h;refine wpAny_Assign_Name (cS (he pins s σ H _ I h) fun v s1 ⟨y,H1,I1,r1,q1⟩=>?_) hs;exact o7 I1 hN hi hx r1 (fun s2 I2=>⟨_,H1,I2,q1⟩) hf
end
section
variable {X:Cx} {pos:Pos}
noncomputable def yg (c:TT) (tb:TS):TS:=fun D σ H=>∃ W:Nat->St->Hp->Prop,(∃ m,W m σ H)/\∀ m σ H,W m σ H ->
  c σ H fun b H1=>if b=true then ∃ N:St->Hp->Prop,(∀ σ' H',N σ' H'->∃ m',m' < m/\W m' σ' H')/\tb { D with nx:=N,ct:=N,bk:=D.nx } σ H1 else D.nx σ H1
theorem u4 {c:Expr} {body:List Stmt} {tc:TT} {tb:TS} (hp:PassesOwn (model X.prog X.w) X.A X.env X.xe) (hc:PT X c tc) (hb:nc X body tb):PS X (.While c body [] pos) (yg tc tb):=by
  intro pins s σ H D I h;obtain ⟨W,⟨m0,w0⟩,turn⟩:=h;refine wpAny_While (codeAny_whileLoop (fun n s'=>∃ σ' H',az X pins σ' H' s'/\W n σ' H') ?_ m0 ⟨σ,H,I,w0⟩);rintro n s1 ⟨σ1,H1,I1,w1⟩;refine wpAny_passesOwn hp (cS (hc pins s1 σ1 H1 _ I1 (turn n σ1 H1 w1)) fun b s2 ⟨H2,I2,q2⟩=>?_);cases b with
  | true =>
    obtain ⟨N,hN,q2⟩:=q2;rw [if_pos rfl];refine wpAny_passesOwn hp (cS (hb pins s2 σ1 H2 _ I2 q2) fun f s3 q3=>?_);cases f with
    | next =>
      obtain ⟨σ3,H3,I3,n3⟩:=q3;obtain ⟨m',hm,w3⟩:=hN σ3 H3 n3;exact ⟨m',hm,σ3,H3,I3,w3⟩
    | cont =>
      obtain ⟨σ3,H3,I3,n3⟩:=q3;obtain ⟨m',hm,w3⟩:=hN σ3 H3 n3;exact ⟨m',hm,σ3,H3,I3,w3⟩
    | brk=>exact q3
    | ret v=>exact q3
  | false =>
    rw [if_neg Bool.false_ne_true];exact wpAny_execs_nil ⟨σ1,H2,I2,q2⟩
end
structure It where
  go:Nat->Hp->Prop
  yld:Nat->Hp->V->Hp->Prop
  stop:Nat->Hp->Prop
noncomputable def jU (X:Cx) (pins:List (Addr×Obj)) (H:Hp) (b:Addr):Prop :=
  H b=none/\b≠X.env.locals/\b∉X.fs/\(b∈X.ex\/X.s₀.heap.objs.size<=b)/\(∀ x c,X.env.cells.lookup x=some c->c≠b)/\∀ p∈X.pn++pins,p.1≠b
theorem az.fpOk {X:Cx} {pins:List (Addr×Obj)} {σ:St} {H H':Hp} {s:Shared} {b:Addr} (I:az X pins σ H s) (hb:s.heap.objs.size<=b) (hn:H' b=none):jU X pins H' b:=by
  refine ⟨hn,Nat.ne_of_gt (Nat.lt_of_lt_of_le I.lt hb),I.nofs hb,.inr (Nat.le_trans I.sz hb),fun x c e z=>?_,fun p hp z=>?_⟩
  · obtain ⟨v,q⟩:=I.cell x c e;exact absurd (Nat.lt_of_lt_of_le q.lt (by rw [z];exact hb)) (Nat.lt_irrefl _)
  · exact absurd (Nat.lt_of_lt_of_le (Heap.lt_size (I.pin p hp).1) (by rw [z];exact hb)) (Nat.lt_irrefl _)
structure qg (P:Program) (w:World) (K:PySem.W.Frag) (tg:Expr) (J:It) (fp:List Addr) (it:Addr) (tn:Nat->Heap->Prop):Prop where
  mem:it∈fp
  obj:∀ i h,tn i h->∀ b∈fp,∃ o,h.get? b=some o/\∀ v,o.data≠.cell v
  keep:∀ i h h',tn i h->(∀ b∈fp,∀ o,h.get? b=some o->h'.get? b=some o)->tn i h'
  item:∀ (X:Cx),X.prog=P->X.w=w->X.K=K->X.calm=true->∀ (i:Nat) (pins:List (Addr×Obj)) (s:Shared) (σ:St) (H:Hp) (E:Value->Shared->Prop),az X pins σ H s->(∀ b∈fp,jU X pins H b)->tn i s.heap->J.go i H ->
    wpAny (model P w) X.A (pyNext (.ref it)) (fun r s1=>∃ u,r=some u /\
      wpAny (model P w) X.A (letOwnedTupleGo tg (.ref it) u) (fun _ s2=>∃ x H',az X pins σ H' s2/\bw x u/\J.yld i H x H'/\tn (i+1) s2.heap/\∀ b∈fp,H' b=none) E s1) E s
  done:∀ (X:Cx),X.prog=P->X.w=w->X.K=K->X.calm=true->∀ (i:Nat) (pins:List (Addr×Obj)) (s:Shared) (σ:St) (H:Hp) (E:Value->Shared->Prop),az X pins σ H s->(∀ b∈fp,jU X pins H b)->tn i s.heap->J.stop i H ->
    wpAny (model P w) X.A (pyNext (.ref it)) (fun r s1=>r=none/\az X pins σ H s1) E s
  self:∀ (A:Around) (i:Nat) (s:Shared) (Q:Value->Shared->Prop) (E:Value->Shared->Prop),tn i s.heap->Q (.ref it) s->wpAny (model P w) A (pyIter (.ref it)) Q E s
noncomputable abbrev TI:=St->Hp->(It->Hp->Prop)->Prop
noncomputable def B1 (X:Cx) (pins:List (Addr×Obj)) (σ:St) (tg:Expr) (R:It->Hp->Prop) (itv:Value) (s2:Shared):Prop :=
  ∃ (it:Addr) (fp:List Addr) (tn:Nat->Heap->Prop) (J:It) (H':Hp),itv=.ref it/\az X pins σ H' s2/\qg X.prog X.w X.K tg J fp it tn/\tn 0 s2.heap/\(∀ b∈fp,jU X pins H' b)/\R J H'
noncomputable def PI (X:Cx) (tg iter:Expr) (wi:TI):Prop :=
  ∀ (pins:List (Addr×Obj)) (s:Shared) (σ:St) (H:Hp) (R:It->Hp->Prop),az X pins σ H s->wi σ H R ->
    wpAny (model X.prog X.w) X.A (eval iter X.env) (fun v s1=>wpAny (model X.prog X.w) X.A (pyIter v) (B1 X pins σ tg R) X.xe s1) X.xe s
theorem qC {M:Model} {A:Around} {E:Value->Shared->Prop} {s:Shared} {tg:Expr} {it:Addr} {u:Value} {o:Obj} {n:String} {vs:Array Value} {Q:Unit->Shared->Prop} (ho:s.heap.get? it=some o) (hc:o.cls=.type n) (hd:o.data=.fields vs)
    (hn:["enumerate","zip","dict_itemiterator","dict_reverseitemiterator","odict_iterator","itertools.zip_longest","itertools.pairwise"].contains n=false) (hQ:Q () s):wpAny M A (letOwnedTupleGo tg (.ref it) u) Q E s:=by
  unfold letOwnedTupleGo;cases tg <;> first
    | exact wpAny_pure hQ
    | (cases u <;> first
        | exact wpAny_pure hQ
        | (refine wpAny_bind (wpAny_load ho ?_)
           rw [hc,hd];show wpAny M A (if (["enumerate","zip","dict_itemiterator","dict_reverseitemiterator","odict_iterator","itertools.zip_longest","itertools.pairwise"].contains n&&vs[0]?==some (rawInt _))=true then _ else _) Q E s;rw [if_neg (by intro h;rw [hn,Bool.false_and] at h;cases h)];exact wpAny_pure hQ))
noncomputable def Bv (K:PySem.W.Frag) (a:Addr):It :=
  ⟨fun i H=>∃ xs x,jr K H a xs/\xs[i]?=some x,fun i H x H'=>H'=H/\∀ xs,jr K H a xs->xs[i]?=some x,fun i H=>∃ xs,jr K H a xs/\xs.length<=i⟩
noncomputable def BI (K:PySem.W.Frag) (a:Addr):It :=
  ⟨fun i H=>∃ xs x,eV K H a xs/\xs[i]?=some x,fun i H x H'=>H'=H/\∀ xs,eV K H a xs->xs[i]?=some x,fun i H=>∃ xs,eV K H a xs/\xs.length<=i⟩
noncomputable def Bj (lo:Int) (n:Nat):It:=⟨fun i _=>i < n,fun i H x H'=>H'=H/\x=.int (lo+i),fun i _=>n<=i⟩
theorem rV {P:Program} {w:World} {K:PySem.W.Frag} {tg:Expr} (a it:Addr):qg P w K tg (Bv K a) [it] it (fun i h=>h.IsListIter it a i) where
  mem:=by simp
  obj:=fun i h st b hb=>by
    have e:b=it:=by simpa using hb
    subst e;obtain ⟨o,e,c,d⟩:=st;exact ⟨o,e,fun v z=>by rw [d] at z;cases z⟩
  keep:=fun i h h' st k=>st.at fun o e=>k it (by simp) o e
  item:=by
    intro X hP hw hK hc i pins s σ H E I hf st hg;subst hP hw hK;obtain ⟨xs,x,hq,hx⟩:=hg;obtain ⟨its,rv,p,hz⟩:=I.list hq;obtain ⟨u,hu,ru⟩:=rv.get hx;obtain ⟨f0,f1,f2,f3,f4,f5⟩:=hf it (by simp);refine wpAny_pyNext_list_item st p.isList (x:=u) (by simpa using hu) fun h' st' sb=>?_
    have I1:az X pins σ H { s with heap:=h' }:=I.turned (t':=s.toks) (fun b o hb e=>(sb.2 b hb).trans e) f0 f1 f3 f4 f5;obtain ⟨o,e,c,d⟩:=id st';exact ⟨u,rfl,qC (s:={ s with heap:=h' }) e c d (by decide) ⟨x,H,I1,ru,⟨rfl,fun ys hy=>by rw [I.list_inj hy hq];exact hx⟩,st',fun b hb=>(hf b hb).1⟩⟩
  done:=by
    intro X hP hw hK hc i pins s σ H E I hf st hg;subst hP hw hK;obtain ⟨xs,hq,hx⟩:=hg;obtain ⟨its,rv,p,hz⟩:=I.list hq;obtain ⟨f0,f1,f2,f3,f4,f5⟩:=hf it (by simp);have hl:=rv.length;exact wpAny_pyNext_list_end (I.ok.hd hc) st p.isList (by simp;omega) fun h' eb=>⟨rfl,I.turned (t':=s.toks) (fun b o hb e=>eb b o hb e) f0 f1 f3 f4 f5⟩
  self:=fun _ _ _ _ _ st h=>wpAny_pyIter_listiter st h
theorem qi {P:Program} {w:World} {K:PySem.W.Frag} {tg:Expr} (a it:Addr):qg P w K tg (BI K a) [it] it (fun i h=>h.IsTupleIter it a i) where
  mem:=by simp
  obj:=fun i h st b hb=>by
    have e:b=it:=by simpa using hb
    subst e;obtain ⟨o,e,c,d⟩:=st;exact ⟨o,e,fun v z=>by rw [d] at z;cases z⟩
  keep:=fun i h h' st k=>st.at fun o e=>k it (by simp) o e
  item:=by
    intro X hP hw hK hc i pins s σ H E I hf st hg;subst hP hw hK;obtain ⟨xs,x,hq,hx⟩:=hg;obtain ⟨its,rv,p,hz⟩:=I.tuple hq;obtain ⟨u,hu,ru⟩:=rv.get hx;obtain ⟨f0,f1,f2,f3,f4,f5⟩:=hf it (by simp);refine wpAny_pyNext_tuple_item st (show s.heap.IsTuple a its.toArray from p) (x:=u) (by simpa using hu) fun h' st' sb=>?_
    have I1:az X pins σ H { s with heap:=h' }:=I.turned (t':=s.toks) (fun b o hb e=>(sb.2 b hb).trans e) f0 f1 f3 f4 f5;obtain ⟨o,e,c,d⟩:=id st';exact ⟨u,rfl,qC (s:={ s with heap:=h' }) e c d (by decide) ⟨x,H,I1,ru,⟨rfl,fun ys hy=>by rw [I.tuple_inj hy hq];exact hx⟩,st',fun b hb=>(hf b hb).1⟩⟩
  done:=by
    intro X hP hw hK hc i pins s σ H E I hf st hg;subst hP hw hK;obtain ⟨xs,hq,hx⟩:=hg;obtain ⟨its,rv,p,hz⟩:=I.tuple hq;obtain ⟨f0,f1,f2,f3,f4,f5⟩:=hf it (by simp);have hl:=rv.length;exact wpAny_pyNext_tuple_end (I.ok.hd hc) st (show s.heap.IsTuple a its.toArray from p) (by simp;omega) fun h' eb=>⟨rfl,I.turned (t':=s.toks) (fun b o hb e=>eb b o hb e) f0 f1 f3 f4 f5⟩
  self:=fun _ _ _ _ _ st h=>wpAny_pyIter_tupleiter st h
theorem pk {P:Program} {w:World} {K:PySem.W.Frag} {tg:Expr} (it:Addr) (lo:Int) (n:Nat):qg P w K tg (Bj lo n) [it] it (fun i h=>IsRangeIter h it (lo+(i:Nat)*1) ((n:Int)-(i:Nat)) 1) where
  mem:=by simp
  obj:=fun i h st b hb=>by
    have e:b=it:=by simpa using hb
    subst e;exact ⟨_,st,fun v z=>by
      have z':Data.fields _=Data.cell v:=z;cases z'⟩
  keep:=fun i h h' st k=>k it (by simp) _ st
  item:=by
    intro X hP hw hK hc i pins s σ H E I hf st hg;subst hP hw hK;obtain ⟨f0,f1,f2,f3,f4,f5⟩:=hf it (by simp);have W:=Walks.range (prog:=X.prog) (w:=X.w) (I.ok.hd hc) it lo 1 n;refine W.item i s _ _ hg st fun v h' tk hv st' kk=>?_
    obtain ⟨t,rfl⟩:=hv;have I1:az X pins σ H { s with heap:=h',toks:=tk }:=I.turned (fun b o hb e=>kk b o (by simpa using hb) e) f0 f1 f3 f4 f5;refine ⟨_,rfl,qC (s:={ s with heap:=h',toks:=tk }) (n := "range_iterator") st' rfl rfl (by decide) ⟨.int (lo+i),H,I1,⟨t,?_⟩,⟨rfl,rfl⟩,st',fun b hb=>(hf b hb).1⟩⟩;rw [Int.mul_one]
  done:=by
    intro X hP hw hK hc i pins s σ H E I hf st hg;subst hP hw hK;obtain ⟨f0,f1,f2,f3,f4,f5⟩:=hf it (by simp);exact wpAny_pyNext_range_end (I.ok.hd hc) st (by have:n<=i:=hg;omega) fun h' eb=>⟨rfl,I.turned (t':=s.toks) (fun b o hb e=>eb b o hb e) f0 f1 f3 f4 f5⟩
  self:=fun _ _ _ _ _ st h=>wpAny_pyIter_rangeiter st h
section
variable {X:Cx} {tg:Expr}
theorem t9 {pins:List (Addr×Obj)} {σ:St} {H:Hp} {s:Shared} {R:It->Hp->Prop} {E:Value->Shared->Prop} {lo hi:Int} {t u v:Tok} {tk:Nat} (I:az X pins σ H s) (h1:-(2 ^ 62)<=lo) (h2:lo < 2 ^ 62) (h3:-(2 ^ 62)<=hi) (h4:hi < 2 ^ 62)
    (q:R (Bj lo (hi-lo).toNat) H):wpAny (model X.prog X.w) X.A (pyIter (.ref s.heap.objs.size)) (B1 X pins σ tg R) E { s with heap:=s.heap.push { cls:=.type "range",data:=.fields #[.int lo t,.int hi u,.int 1 v] },toks:=tk }:=by
  refine wpAny_pyIter_range (IsRange.new ..) (small_one h1 h2 h3 h4) ?_;have I1:az X pins σ H { s with heap:=s.heap.push { cls:=.type "range",data:=.fields #[.int lo t,.int hi u,.int 1 v] },toks:=tk }:=I.kept fun b o e=>Heap.get?_push_of_some _ e
  refine ⟨(s.heap.push { cls:=.type "range",data:=.fields #[.int lo t,.int hi u,.int 1 v] }).objs.size,[(s.heap.push { cls:=.type "range",data:=.fields #[.int lo t,.int hi u,.int 1 v] }).objs.size],_,_,H,rfl,
    I1.kept (t':=tk) fun b o e=>Heap.get?_push_of_some _ e,pk _ lo (hi-lo).toNat,?_,fun b hb=>?_,q⟩
  · have e1:lo+((0:Nat):Int)*1=lo:=by simp
    have e2:(((hi-lo).toNat:Nat):Int)-((0:Nat):Int)=Builtin.Range.rangeSize lo hi 1:=by rw [rangeSize_one];split <;> omega
    show IsRangeIter _ _ (lo+((0:Nat):Int)*1) ((((hi-lo).toNat:Nat):Int)-((0:Nat):Int)) 1;rw [e1,e2];exact Heap.get?_push_size _ rfl
  · have e:b=(s.heap.push { cls:=.type "range",data:=.fields #[.int lo t,.int hi u,.int 1 v] }).objs.size:=by simpa using hb
    subst e;exact I1.fpOk (Nat.le_refl _) (I1.hok.fresh (Nat.le_refl _))
noncomputable def Al (ta:TA):TI:=fun σ H R=>ta σ H fun vs H1=>∃ j:Int,vs=[.int j]/\-(2 ^ 62)<=j/\j < 2 ^ 62/\R (Bj 0 j.toNat) H1
theorem sC {a:Expr} {ta:TA} {p pos:Pos} (hg:Gl X "range") (hm:X.mg "range" = none) (ha:PA X [a] ta) (hs:starEach [a] X.env=[(false,eval a X.env)]:=by rfl):PI X tg (.Call (.Name "range" p) [a] [] pos) (Al ta):=by
  intro pins s σ H R I h;refine Call_ (k8 I hg hm boot_range (PyProof.Rows.callWith_type1 (cS (ha pos pins s σ H _ I h) fun us s1 ⟨vs,H1,I1,r1,q1⟩=>?_) hs rfl));obtain ⟨j,e,q1,q2,q⟩:=q1;subst e;cases r1 with
  | cons r rr =>
    cases rr;obtain ⟨t,rfl⟩:=r;exact call_range_1 (t9 I1 (by omega) (by omega) q1 q2 (by simpa using q))
noncomputable def BG (wi:TI) (g:TG) (tb:TS):TS:=fun D σ H=>wi σ H fun J H1=>∃ W:Nat->Nat->St->Hp->Prop,(∃ m,W 0 m σ H1)/\∀ i m σ H,W i m σ H ->
  (J.stop i H/\D.nx σ H)\/(J.go i H/\∃ N:St->Hp->Prop,(∀ σ' H',N σ' H'->∃ m',m' < m/\W (i+1) m' σ' H')/\∀ x H',J.yld i H x H'->g x σ H' fun σ2 H2=>tb { D with nx:=N,ct:=N,bk:=D.nx } σ2 H2)
noncomputable def kr (fp:List Addr) (h:Heap):List (Addr×Obj):=fp.filterMap fun b=>(h.get? b).map fun o=>(b,o)
theorem gc {fp:List Addr} {h:Heap} {b:Addr} {o:Obj} (hb:b∈fp) (e:h.get? b=some o):(b,o)∈kr fp h:=List.mem_filterMap.mpr ⟨b,hb,by rw [e];rfl⟩
theorem sZ {fp:List Addr} {h:Heap} {p:Addr×Obj} (hp:p∈kr fp h):p.1∈fp/\h.get? p.1=some p.2:=by
  obtain ⟨b,hb,e⟩:=List.mem_filterMap.mp hp;cases q:h.get? b with
  | none=>rw [q] at e;cases e
  | some o =>
    rw [q] at e;have e':(b,o)=p:=Option.some.inj e;subst e';exact ⟨hb,q⟩
theorem az.pinned {pins:List (Addr×Obj)} {σ:St} {H:Hp} {s:Shared} {fp:List Addr} (I:az X pins σ H s) (hf:∀ b∈fp,jU X pins H b) (ho:∀ b∈fp,∃ o,s.heap.get? b=some o/\∀ v,o.data≠.cell v):az X (pins++kr fp s.heap) σ H s :=
  I.pins_of fun p hp=>(List.mem_append.mp hp).elim (fun z=>I.pin p (List.mem_append_right _ z)) fun z=>by
    obtain ⟨hb,e⟩:=sZ z;obtain ⟨f0,f1,f2,_⟩:=hf p.1 hb;obtain ⟨o,e',d⟩:=ho p.1 hb;rw [e] at e';cases e';exact ⟨e,f0,f1,f2,d⟩
theorem az.unpinned {pins pl:List (Addr×Obj)} {σ:St} {H:Hp} {s:Shared} (I:az X (pins++pl) σ H s):az X pins σ H s:=I.pins_of fun p hp=>I.pin p (List.mem_append_right _ (List.mem_append_left _ hp))
theorem yZ {iter:Expr} {body:List Stmt} {wi:TI} {g:TG} {tb:TS} {pos:Pos} (hp:PassesOwn (model X.prog X.w) X.A X.env X.xe) (hc:X.calm=true) (hi:PI X tg iter wi) (hg:PG X tg g) (hb:nc X body tb)
    (hs:∀ x,foldedSetIterable iter X.env x=pure x:=by intro _;rfl):PS X (.For tg iter body [] pos) (BG wi g tb):=by
  intro pins s σ H D I h;refine wpAny_For (cS (hi pins s σ H _ I h) fun v s1 h1=>cS h1 fun itv s2 h2=>?_) hs;obtain ⟨it,fp,tn,J,H2,e,I2,T,st2,f2,W,⟨m0,w0⟩,turn⟩:=h2;subst e
  -- what stays true of the iterator's objects through the loop
  have stat:∀ {H':Hp},(∀ b∈fp,H' b=none)->∀ b∈fp,jU X pins H' b:=fun hn b hb=>⟨hn b hb,(f2 b hb).2⟩
  refine codeAny_forLoop_any (fun n s'=>∃ i σ' H',az X pins σ' H' s'/\tn i s'.heap/\(∀ b∈fp,H' b=none)/\W i n σ' H') ?_ m0 ⟨0,σ,H2,I2,st2,fun b hb=>(f2 b hb).1,w0⟩;rintro n s3 ⟨i,σ3,H3,I3,st3,fr3,w3⟩;rcases turn i n σ3 H3 w3 with ⟨stop,qn⟩ | ⟨go,N,hN,step⟩
  · refine wpAny_passesOwn hp (cS (T.done X rfl rfl rfl hc i pins s3 σ3 H3 X.xe I3 (stat fr3) st3 stop) fun r s4 ⟨hr,I4⟩=>?_);subst hr;exact wpAny_execs_nil ⟨σ3,H3,I4,qn⟩
  · refine wpAny_passesOwn hp (cS (T.item X rfl rfl rfl hc i pins s3 σ3 H3 X.xe I3 (stat fr3) st3 go) fun r s4 ⟨u,hr,h4⟩=>?_);subst hr;refine wpAny_passesOwn hp (cS h4 fun _ s5 ⟨x,H5,I5,r5,y5,st5,fr5⟩=>?_);have I5':=I5.pinned (stat fr5) (T.obj _ _ st5);refine wpAny_passesOwn hp (cS (hg _ s5 σ3 H5 x u _ I5' r5 (step x H5 y5)) fun _ s6 ⟨σ6,H6,I6,q6⟩=>?_);refine wpAny_passesOwn hp (cS (hb _ s6 σ6 H6 _ I6 q6) fun f s7 q7=>?_);have again:∀ {σ7:St} {H7:Hp},az X (pins++kr fp s5.heap) σ7 H7 s7->N σ7 H7->∃ m,m < n/\∃ i σ' H',az X pins σ' H' s7/\tn i s7.heap/\(∀ b∈fp,H' b=none)/\W i m σ' H':=fun {σ7 H7} I7 n7=>by
      obtain ⟨m',hm,w7⟩:=hN σ7 H7 n7;refine ⟨m',hm,i+1,σ7,H7,I7.unpinned,T.keep _ _ _ st5 fun b hb o e=>(I7.pin (b,o) (List.mem_append_right _ (List.mem_append_right _ (gc hb e)))).1,fun b hb=>?_,w7⟩;obtain ⟨o,e,d⟩:=T.obj _ _ st5 b hb;exact (I7.pin (b,o) (List.mem_append_right _ (List.mem_append_right _ (gc hb e)))).2.1
    cases f with
    | next=>obtain ⟨σ7,H7,I7,n7⟩:=q7;exact again I7 n7
    | cont=>obtain ⟨σ7,H7,I7,n7⟩:=q7;exact again I7 n7
    | brk=>obtain ⟨σ7,H7,I7,q7⟩:=q7;exact ⟨σ7,H7,I7.unpinned,q7⟩
    | ret v=>obtain ⟨x7,σ7,H7,I7,r7,q7⟩:=q7;exact ⟨x7,σ7,H7,I7.unpinned,r7,q7⟩
end
noncomputable abbrev R2:=V->V->Hp->VK->Prop
noncomputable def iT (X:Cx) (f:Value->Value->Sem Value) (r:R2):Prop :=
  ∀ (pins:List (Addr×Obj)) (s:Shared) (σ:St) (H:Hp) (x y:V) (v u:Value) (Q:VK),az X pins σ H s->bw x v->bw y u->r x y H Q ->
    wpAny (model X.prog X.w) X.A (f v u) (EP X pins σ Q) X.xe s
noncomputable def BF (X:Cx) (f:Value->Sem Value) (r:V->Hp->VK->Prop):Prop :=
  ∀ (pins:List (Addr×Obj)) (s:Shared) (σ:St) (H:Hp) (x:V) (v:Value) (Q:VK),az X pins σ H s->bw x v->r x H Q ->
    wpAny (model X.prog X.w) X.A (f v) (EP X pins σ Q) X.xe s
noncomputable def cL (X:Cx) (f:Value) (r:List V->Hp->VK->Prop):Prop :=
  ∀ (pins:List (Addr×Obj)) (s:Shared) (σ:St) (H:Hp) (xs:List V) (us:List Value) (Q:VK),az X pins σ H s->bi xs us->r xs H Q ->
    wpAny (model X.prog X.w) X.A (call f us) (EP X pins σ Q) X.xe s
noncomputable def AD (r:R2) (ta tb:TE):TE:=fun σ H Q=>ta σ H fun x H1=>tb σ H1 fun y H2=>r x y H2 Q
noncomputable def B6 (r:V->Hp->VK->Prop) (ta:TE):TE:=fun σ H Q=>ta σ H fun x H1=>r x H1 Q
noncomputable def rI (C:Int->Int->Prop) (g:Int->Int->V):R2:=fun x y H Q=>∃ i j,x=.int i/\y=.int j/\C i j/\Q (g i j) H
noncomputable def xt (g:Int->Int->V):R2:=fun x y H Q=>∃ i j,x=.int i/\y=.int j/\Q (g i j) H
noncomputable def rU (g:Int->V):V->Hp->VK->Prop:=fun x H Q=>∃ i,x=.int i/\Q (g i) H
section
variable {X:Cx} {a b c:Expr} {ta tb tc:TE} {pos:Pos}
theorem zi (ha:PE X a ta) (hb:PE X b tb) {pins:List (Addr×Obj)} {s:Shared} {σ:St} {H:Hp} {R:V->V->Hp->Prop} (I:az X pins σ H s)
    (h:ta σ H fun x H1=>tb σ H1 fun y H2=>R x y H2) {Q:Value->Shared->Prop} {f:Value->Value->Sem Value}
    (hf:∀ v u s2 x y H2,az X pins σ H2 s2->bw x v->bw y u->R x y H2->wpAny (model X.prog X.w) X.A (f v u) Q X.xe s2) :
    wpAny (model X.prog X.w) X.A (eval a X.env) (fun v s₁=>wpAny (model X.prog X.w) X.A (eval b X.env) (fun u s₂=>wpAny (model X.prog X.w) X.A (f v u) Q X.xe s₂) X.xe s₁) X.xe s:=by
  refine cS (ha pins s σ H _ I h) fun v s1 ⟨x,H1,I1,r1,q1⟩=>?_
  refine cS (hb pins s1 σ H1 _ I1 q1) fun u s2 ⟨y,H2,I2,r2,q2⟩=>?_
  exact hf v u s2 x y H2 I2 r1 r2 q2
theorem AG {op:Operator} {r:R2} (ho:iT X (binaryOp op) r) (ha:PE X a ta) (hb:PE X b tb):PE X (.BinOp a op b pos) (AD r ta tb):=by
  intro pins s σ H Q I h;exact wpAny_BinOp (zi ha hb I h fun v u s2 x y H2 I2 rx ry q=>ho pins s2 σ H2 x y v u Q I2 rx ry q)
theorem AU {op:UnaryOp} {r:V->Hp->VK->Prop} (ho:BF X (unaryOp op) r) (ha:PE X a ta):PE X (.UnaryOp op a pos) (B6 r ta):=by
  intro pins s σ H Q I h;exact UnaryOp_ (cS (ha pins s σ H _ I h) fun v s1 ⟨x,H1,I1,r1,q1⟩=>ho pins s1 σ H1 x v Q I1 r1 q1)
theorem Bz {f:Value->Value->Sem Value} {C:Int->Int->Prop} {g:Int->Int->Int}
    (rule:∀ (i j:Int) (t u:Tok) (s:Shared) (Q:Value->Shared->Prop) (E:Value->Shared->Prop),C i j->Q (.int (g i j) s.toks) { s with toks:=s.toks+1 }->wpAny (model X.prog X.w) X.A (f (.int i t) (.int j u)) Q E s) :
    iT X f (rI C fun i j=>.int (g i j)):=by
  intro pins s σ H x y v u Q I rx ry h;obtain ⟨i,j,rfl,rfl,hc,q⟩:=h;obtain ⟨t,rfl⟩:=rx;obtain ⟨t',rfl⟩:=ry;exact rule i j t t' s _ _ hc ⟨.int (g i j),H,I.tok _,⟨_,rfl⟩,q⟩
theorem AL {f:Value->Value->Sem Value} {g:Int->Int->Int}
    (rule:∀ (i j:Int) (t u:Tok) (s:Shared) (Q:Value->Shared->Prop) (E:Value->Shared->Prop),Q (.int (g i j) s.toks) { s with toks:=s.toks+1 }->wpAny (model X.prog X.w) X.A (f (.int i t) (.int j u)) Q E s) :
    iT X f (xt fun i j=>.int (g i j)):=by
  intro pins s σ H x y v u Q I rx ry h;obtain ⟨i,j,rfl,rfl,q⟩:=h;obtain ⟨t,rfl⟩:=rx;obtain ⟨t',rfl⟩:=ry;exact rule i j t t' s _ _ ⟨.int (g i j),H,I.tok _,⟨_,rfl⟩,q⟩
theorem Ab {f:Value->Value->Sem Value} {g:Int->Int->Bool}
    (rule:∀ (i j:Int) (t u:Tok) (s:Shared) (Q:Value->Shared->Prop) (E:Value->Shared->Prop),Q (.bool (g i j)) s->wpAny (model X.prog X.w) X.A (f (.int i t) (.int j u)) Q E s) :
    iT X f (xt fun i j=>.bl (g i j)):=by
  intro pins s σ H x y v u Q I rx ry h;obtain ⟨i,j,rfl,rfl,q⟩:=h;obtain ⟨t,rfl⟩:=rx;obtain ⟨t',rfl⟩:=ry;exact rule i j t t' s _ _ ⟨.bl (g i j),H,I,rfl,q⟩
noncomputable def Ag (i j:Int):Prop:=0 < j/\j < 1073741824
noncomputable def v9 (i j:Int):Prop:=(-(2 ^ 64) < i/\i < 2 ^ 64)\/(-(2 ^ 64) < j/\j < 2 ^ 64)
theorem v9.ok {i j:Int} (h:v9 i j):IntMulOk i j:=by
  rcases h with ⟨h1,h2⟩ | ⟨h1,h2⟩
  · exact .of_left (intBits_le_64 h1 h2)
  · exact .of_right (intBits_le_64 h1 h2)
theorem yh:iT X (binaryOp .Add) (xt fun i j=>.int (i+j)):=AL fun _ _ _ _ _ _ _ q=>add_int q
theorem zL:iT X (binaryOp .Sub) (xt fun i j=>.int (i-j)):=AL fun _ _ _ _ _ _ _ q=>sub_int q
theorem zN:iT X (binaryOp .Mult) (rI v9 fun i j=>.int (i*j)):=Bz fun _ _ _ _ _ _ _ hc q=>mul_int q hc.ok
theorem xg:iT X (binaryOp .FloorDiv) (rI Ag fun i j=>.int (i / j)):=Bz fun i j _ _ _ _ _ hc q=>by
  have h1:(0:Int) < j:=hc.1;have h2:j < 1073741824:=hc.2;exact floordiv_int (by omega) (by rw [Int.fdiv_eq_ediv_of_nonneg i (by omega)];exact q) (.inl (PyProof.noPylong_small (by omega)))
theorem yx:iT X (binaryOp .Mod) (rI (fun _ j=>0 < j) fun i j=>.int (i%j)):=Bz fun i j _ _ _ _ _ hc q=>by
  have h1:(0:Int) < j:=hc;exact mod_int' (by omega) (by rw [Int.fmod_eq_emod_of_nonneg i (by omega)];exact q)
theorem Cc {f:Value->Sem Value} {g:Int->Int}
    (rule:∀ (i:Int) (t:Tok) (s:Shared) (Q:Value->Shared->Prop) (E:Value->Shared->Prop),Q (.int (g i) s.toks) { s with toks:=s.toks+1 }->wpAny (model X.prog X.w) X.A (f (.int i t)) Q E s) :
    BF X f (rU fun i=>.int (g i)):=by
  intro pins s σ H x v Q I rx h;obtain ⟨i,rfl,q⟩:=h;obtain ⟨t,rfl⟩:=rx;exact rule i t s _ _ ⟨.int (g i),H,I.tok _,⟨_,rfl⟩,q⟩
theorem yP:BF X (unaryOp .USub) (rU fun i=>.int (-i)):=Cc fun _ _ _ _ _ q=>neg_int q
end
section
variable {X:Cx} {a b c:Expr} {ta tb tc:TE} {pos:Pos}
theorem yz {pins:List (Addr×Obj)} {σ:St} {H:Hp} {s:Shared} {Q:VK} {k k':Bool} (I:az X pins σ H s) (q:Q (.bl k) H) (e:k=k'):EP X pins σ Q (.bool k') s:=by
  subst e;exact ⟨.bl k,H,I,rfl,q⟩
theorem z5:iT X (compareOp .Lt) (xt fun i j=>.bl (decide (i < j))):=Ab fun _ _ _ _ _ _ _ q=>lt_int q
theorem Ar:iT X (compareOp .LtE) (xt fun i j=>.bl (decide (i<=j))):=Ab fun _ _ _ _ _ _ _ q=>le_int q
theorem vP:iT X (compareOp .IsNot) (fun x y H Q=>y=.non/\Q (.bl (!decide (x=.non))) H):=by
  intro pins s σ H x y v u Q I rx ry h;obtain ⟨rfl,q⟩:=h;cases ry;refine isnot_none_gen (yz I q ?_);cases x <;> first
    | (cases rx;rfl)
    | (obtain ⟨t,rfl⟩:=rx;rfl)
theorem iT.or {f:Value->Value->Sem Value} {r r':R2} (h:iT X f r) (h':iT X f r'):iT X f (fun x y H Q=>r x y H Q\/r' x y H Q):=by
  intro pins s σ H x y v u Q I rx ry q;rcases q with q | q
  · exact h pins s σ H x y v u Q I rx ry q
  · exact h' pins s σ H x y v u Q I rx ry q
theorem iI (b:Expr) {op:CmpOp} (h:op≠.In:=by decide) (h2:op≠.NotIn:=by decide):behindInMarks op b=false:=by
  have e1:(op==CmpOp.In)=false:=by cases op <;> first | rfl | exact absurd rfl h
  have e2:(op==CmpOp.NotIn)=false:=by cases op <;> first | rfl | exact absurd rfl h2
  cases b <;> simp [behindInMarks,e1,e2]
theorem wQ {op:CmpOp} {r:R2} (ho:iT X (compareOp op) r) (ha:PE X a ta) (hb:PE X b tb) (hm:behindInMarks op b=false):PE X (.Compare a [op] [b] pos) (AD r ta tb):=by
  intro pins s σ H Q I h;exact wpAny_Compare1 (zi ha hb I h fun v u s2 x y H2 I2 rx ry q=>ho pins s2 σ H2 x y v u Q I2 rx ry q) hm
noncomputable def A4 (t:TE):TT:=fun σ H Q=>t σ H fun x H'=>∃ k,x=.bl k/\Q k H'
theorem xf {op:CmpOp} {r:R2} (ho:iT X (compareOp op) r) (ha:PE X a ta) (hb:PE X b tb) (hm:behindInMarks op b=false):PT X (.Compare a [op] [b] pos) (A4 (AD r ta tb)):=by
  intro pins s σ H Q I h;refine wpAny_isTrue_Compare1 (cS (ha pins s σ H _ I h) fun v s1 ⟨x,H1,I1,r1,q1⟩=>cS (hb pins s1 σ H1 _ I1 q1) fun u s2 ⟨y,H2,I2,r2,q2⟩ =>
    cS (ho pins s2 σ H2 x y v u _ I2 r1 r2 q2) fun c s3 ⟨z,H3,I3,r3,k,e,q3⟩=>?_) hm
  subst e;cases r3;exact wpAny_truthy_bool ⟨H3,I3,q3⟩
theorem jH:(sizeLine:Nat) < 2 ^ 63:=by rw [sizeLine_eq];decide
theorem e8 {x:V} {us:List Value} (r:bi [x] us):∃ u,us=[u]/\bw x u:=by
  cases r with
  | cons r1 r2=>cases r2;exact ⟨_,rfl,r1⟩
theorem xX {x y:V} {us:List Value} (r:bi [x,y] us):∃ u w',us=[u,w']/\bw x u/\bw y w':=by
  cases r with
  | cons r1 r2 =>
    cases r2 with
    | cons r3 r4=>cases r4;exact ⟨_,_,rfl,r1,r3⟩
theorem sN (hc:X.calm=true):cL X (.builtin "max") (fun xs H Q=>∃ i j,xs=[.int i,.int j]/\Q (.int (if j > i then j else i)) H):=by
  intro pins s σ H xs us Q I r h;obtain ⟨i,j,rfl,q⟩:=h;obtain ⟨u,w',rfl,⟨t,rfl⟩,⟨t',rfl⟩⟩:=xX r;refine max_two_ints (I.ok.hd hc) fun h' tk k=>⟨_,H,I.kept k,?_,q⟩
  by_cases hj:j > i
  · rw [if_pos hj,if_pos hj];exact ⟨_,rfl⟩
  · rw [if_neg hj,if_neg hj];exact ⟨_,rfl⟩
theorem sd (hc:X.calm=true):cL X (.builtin "min") (fun xs H Q=>∃ i j,xs=[.int i,.int j]/\Q (.int (if j < i then j else i)) H):=by
  intro pins s σ H xs us Q I r h;obtain ⟨i,j,rfl,q⟩:=h;obtain ⟨u,w',rfl,⟨t,rfl⟩,⟨t',rfl⟩⟩:=xX r;refine min_two_ints (I.ok.hd hc) fun h' tk k=>⟨_,H,I.kept k,?_,q⟩
  by_cases hj:j < i
  · rw [if_pos hj,if_pos hj];exact ⟨_,rfl⟩
  · rw [if_neg hj,if_neg hj];exact ⟨_,rfl⟩
theorem sO:cL X (.type "int") (fun xs H Q=>(∃ i,xs=[.int i]/\Q (.int i) H)\/∃ k,xs=[.bl k]/\Q (.int (if k then 1 else 0)) H):=by
  intro pins s σ H xs us Q I r h;rcases h with ⟨i,rfl,q⟩ | ⟨k,rfl,q⟩
  · obtain ⟨u,rfl,t,rfl⟩:=e8 r;exact call_int_int ⟨.int i,H,I,⟨_,rfl⟩,q⟩
  · obtain ⟨u,rfl,r1⟩:=e8 r;cases r1;exact call_int_bool ⟨.int (if k then 1 else 0),H,I.tok _,⟨_,rfl⟩,q⟩
end
theorem lr.some_of {v:V} {o:Option Value} (r:lr (some v) o):∃ u,o=some u/\bw v u:=by
  cases o with
  | none=>exact (show False from r).elim
  | some u=>exact ⟨u,rfl,r⟩
structure eS (k:Nat) (A:Around):Prop where
  hd:A.handled=none
  dp:A.depth+3*k+5 < recursionLimit
  un:A.units+16*k+200 < cLine
theorem eS.mono {j k:Nat} {A:Around} (r:eS k A) (h:j<=k):eS j A:=⟨r.hd,by have:=r.dp;omega,by have:=r.un;omega⟩
theorem eS.deeper {k:Nat} {A:Around} (r:eS (k+1) A) (env:Env):eS k (A.deeper env) :=
  ⟨r.hd,by have:=r.dp;show A.depth+1+3*k+5 < _;omega,by have:=r.un;show A.units+3+16*k+200 < _;omega⟩
theorem eS.depth {k:Nat} {A:Around} (r:eS k A):A.depth < recursionLimit:=by have:=r.dp;omega
theorem eS.units {k:Nat} {A:Around} (r:eS k A):A.units+64 < cLine:=by have:=r.un;omega
noncomputable def BS:TA:=fun _ H Q=>Q [] H
noncomputable def Aq (ta:TE) (tr:TA):TA:=fun σ H Q=>ta σ H fun x H1=>tr σ H1 fun xs H2=>Q (x::xs) H2
section
variable {X:Cx} {e:Expr} {es:List Expr} {te:TE} {t:TA} {pos:Pos}
theorem zC:PA X [] BS:=fun _ _ _ _ H Q I h=>Calls.spliced_nil ⟨[],H,I,.nil,h⟩
theorem wc (ha:PE X e te) (hr:PA X es t) (hs:starEach (e::es) X.env=(false,eval e X.env)::starEach es X.env:=by rfl):PA X (e::es) (Aq te t):=by
  intro pos pins s σ H Q I h;rw [hs];show wpAny _ _ (spliced ((false,eval e X.env)::backTo pos (starEach es X.env))) _ _ s;refine Calls.spliced_cons (cS (ha pins s σ H _ I h) fun u s1 ⟨x,H1,I1,r1,q1⟩=>?_);exact cS (hr pos pins s1 σ H1 _ I1 q1) fun us s2 ⟨xs,H2,I2,r2,q2⟩=>⟨x::xs,H2,I2,.cons r1 r2,q2⟩
noncomputable def Bu (t:TA):TE:=fun σ H Q=>t σ H fun xs H1=>xs.length<=sizeLine/\∀ p,H1 p=none->Q (.ref p) (cr H1 p (.tup xs))
noncomputable def BV (t:TA):TE:=fun σ H Q=>t σ H fun xs H1=>xs.length<=sizeLine/\∀ p,H1 p=none->Q (.ref p) (cr H1 p (.lst xs))
theorem zw {x1} (h:PA X es t):PE X (.Tuple es x1 pos) (Bu t):=by
  intro pins s σ H Q I hq;refine wpAny_Tuple_spliced (cS (h pos pins s σ H _ I hq) fun us s1 ⟨xs,H1,I1,r,z,q⟩=>⟨by rw [<- r.length];exact z,?_⟩);have hf:H1 s1.heap.objs.size=none:=I1.hok.fresh (Nat.le_refl _);refine ⟨.ref s1.heap.objs.size,cr H1 s1.heap.objs.size (.tup xs),I1.laid (t':=s1.toks) (fun b u e=>Heap.get?_push_of_some _ e) (Nat.le_refl _) ?_,rfl,q _ hf⟩;exact ⟨z,us,r,⟨_,Heap.get?_push_size _ rfl,rfl,_,rfl⟩⟩
theorem yr (h:PA X es t):PE X (.List es pos) (BV t):=by
  intro pins s σ H Q I hq;refine wpAny_List_spliced (cS (h pos pins s σ H _ I hq) fun us s1 ⟨xs,H1,I1,r,z,q⟩=>⟨by rw [<- r.length];exact z,?_⟩);have hf:H1 s1.heap.objs.size=none:=I1.hok.fresh (Nat.le_refl _);refine ⟨.ref s1.heap.objs.size,cr H1 s1.heap.objs.size (.lst xs),I1.laid (t':=s1.toks) (fun b u e=>Heap.get?_push_of_some _ e) (Nat.le_refl _) ?_,rfl,q _ hf⟩;exact ⟨z,us,0,r,Heap.get?_push_size _ rfl⟩
end
noncomputable abbrev Sp:=List V->Hp->VK->XK->Prop
noncomputable abbrev vj:=List Env->Hp->Shared->XK->Value->Shared->Prop
structure xD (P:Program) (w:World) (K:PySem.W.Frag) (mg:Str->Option Value) (base:Heap) (A:Around) (outer:List Env) (s:Shared) (H:Hp):Prop where
  frames:A.frames=some outer
  mod:Mod K mg base
  bs:∀ b o,base.get? b=some o->s.heap.get? b=some o/\H b=none
  bsz:base.objs.size<=s.heap.objs.size
  funs:s.heap.FunFrames base outer
  frf:∀ b∈jq outer,H b=none
  hok:fZ P w H s.heap
  bare:AllBare s.gens
noncomputable def CE (outer:List Env) (P:Program) (w:World) (H:Hp) (s:Shared) (Q:VK) (u:Value) (s':Shared):Prop :=
  ∃ v H',s'.os=s.os/\AllBare s'.gens/\Un (jq outer) [] H H' s.heap s'.heap/\fZ P w H' s'.heap/\bw v u/\Q v H'
noncomputable def CR (CX:vj) (outer:List Env) (P:Program) (w:World) (H:Hp) (s:Shared) (Q:VK) (E:XK) (r:Result) (s':Shared):Prop :=
  match r with
  | .ok (.ret u)=>CE outer P w H s Q u s'
  | .ok _=>False
  | .error e=>CX outer H s E e s'
structure bC (P:Program) (w:World) (K:PySem.W.Frag) (mg:Str->Option Value) (base:Heap) (CX:vj) (k:Nat) (f:Addr) (fd:FuncData) (ps:List Str) (sp:Sp):Prop where
  len:∀ vs H Q E,sp vs H Q E->vs.length=ps.length
  run:∀ (A:Around) (outer:List Env) (s:Shared) (H:Hp) (args:Args) (us:List Value) (vs:List V) (Q:VK) (E:XK),eS k A->xD P w K mg base A outer s H->BindsTo s fd args (ps.zip us)->bi vs us->sp vs H Q E ->
    codeAny (model P w) A (.call (.ref f) args) (CR CX outer P w H s Q E) s
theorem bC.mono {P:Program} {w:World} {K:PySem.W.Frag} {mg:Str->Option Value} {base:Heap} {CX:vj} {j k:Nat} {f:Addr} {fd:FuncData} {ps:List Str} {sp:Sp} (F:bC P w K mg base CX j f fd ps sp) (h:j<=k) :
    bC P w K mg base CX k f fd ps sp:=⟨F.len,fun A outer s H args us vs Q E hr=>F.run A outer s H args us vs Q E (hr.mono h)⟩
section
variable {X:Cx} {pins:List (Addr×Obj)} {σ:St} {H:Hp} {s s':Shared}
theorem az.env0 (I:az X pins σ H s):xD X.prog X.w X.K X.mg X.base X.A X.stack s H :=
  ⟨I.ok.frames,I.ok.mod,I.bs,Nat.le_trans I.ok.bsz I.sz,I.stack,I.stkFree,I.hok,I.bare⟩
theorem az.after {Q:VK} {u:Value} (I:az X pins σ H s) (h:CE X.stack X.prog X.w H s Q u s'):EP X pins σ Q u s':=by
  obtain ⟨v,H',os,bare,un,hok,r,q⟩:=h;obtain ⟨hh,g,d,t,os'⟩:=s';obtain rfl:os'=s.os:=os;exact ⟨v,H',I.call (h':=hh) (g':=g) (d':=d) (t':=t) (ch:=[]) un hok bare (fun b z=>absurd z (by simp)),r,q⟩
end
noncomputable def AA (sp:Sp) (dvs:List V) (E:XK) (t:TA):TE:=fun σ H Q=>t σ H fun vs H1=>sp (vs++dvs) H1 Q E
noncomputable def bV (K:PySem.W.Frag) (fd:FuncData) (ps:List Str) (ds:List Value):Prop :=
  ∀ (s:Shared) (us:List Value),K.In s.heap->(us++ds).length=ps.length->BindsTo s fd ⟨us,[]⟩ (ps.zip (us++ds))
theorem bV.all {K:PySem.W.Frag} {fd:FuncData} {ps:List Str} (h:∀ us:List Value,us.length=ps.length->bindArgs fd ⟨us,[]⟩=pure (ps.zip us)):bV K fd ps []:=fun s us _ hl=>by
  rw [List.append_nil] at hl ⊢;exact .of_eq (h us hl)
noncomputable def qe (CX:vj) (X:Cx) (E:XK):Prop:=∀ (pins:List (Addr×Obj)) (σ:St) (H:Hp) (s:Shared) (e:Value) (s':Shared),az X pins σ H s->CX X.stack H s E e s'->X.xe e s'
section
variable {X:Cx} {CX:vj} {k:Nat} {f C:Addr} {fd:FuncData} {ps:List Str} {sp:Sp} {dvs:List V} {ds:List Value} {E:XK} {x m:Str} {p pos apos:Pos} {e o:Expr} {es:List Expr} {ta:TE} {t:TA}
theorem yN {pins:List (Addr×Obj)} {σ:St} {H:Hp} {s:Shared} {Q:VK} {us:List Value} {vs:List V} (F:bC X.prog X.w X.K X.mg X.base CX k f fd ps sp) (hr:eS k X.A) (hb:bV X.K fd ps ds) (hd:bi dvs ds) (hx:qe CX X E)
    (I:az X pins σ H s) (r:bi vs us) (h:sp (vs++dvs) H Q E):wpAny (model X.prog X.w) X.A (call (.ref f) us) (EP X pins σ Q) X.xe s:=by
  have r2:bi (vs++dvs) (us++ds):=r.append hd;have hl:(us++ds).length=ps.length:=by rw [<- r2.length];exact F.len _ _ _ _ h
  refine wpAny_call (codeAny_mono (F.run X.A X.stack s H ⟨us,[]⟩ (us++ds) (vs++dvs) Q E hr I.env0 (hb s us I.kIn hl) r2 h) fun r s' hq=>?_);cases r with
  | error e=>exact hx pins σ H s e s' I hq
  | ok fl =>
    cases fl with
    | ret u=>exact I.after hq
    | next=>exact False.elim hq
    | brk=>exact False.elim hq
    | cont=>exact False.elim hq
theorem wg (F:bC X.prog X.w X.K X.mg X.base CX k f fd ps sp) (hr:eS k X.A) (hg:Gl X x) (hm:X.mg x=some (.ref f)) (hk:PySem.W.keepIn X.K (.ref f)=true) (hb:bV X.K fd ps ds) (hd:bi dvs ds) (hx:qe CX X E)
    (ha:PA X (e::es) t) (hdb:(x==("__debug__" : Str))=false:=by decide) (he:starEach (e::es) X.env=(false,eval e X.env)::starEach es X.env:=by rfl) (hpl:(backTo pos (starEach es X.env)).any (·.1)=false:=by rfl) :
    PE X (.Call (.Name x p) (e::es) [] pos) (AA sp dvs E t):=by
  intro pins s σ H Q I h;refine wpAny_Call_Name_kw (rc I hg hm ?_ hdb);refine PySem.W.callWith_K (h₀:=X.base) I.ok.mod.kin hk (cS (ha pos pins s σ H _ I h) fun us s1 ⟨vs,H1,I1,r,q⟩=>⟨I1.kIn,?_⟩) he hpl;exact yN F hr hb hd hx I1 r q
end
structure bn (N P:List Str) (sc:Scope):Prop where
  kind:sc.kind=.function
  co:sc.isCoroutine=false
  gen:sc.isGenerator=false
  nd:N.Nodup
  pre:N.take P.length=P
  par:∀ x∈P,sc.names.lookup x=some .local\/sc.names.lookup x=some .cell
  nofree:∀ y∈sc.names,y.2≠.free
theorem lR {kindOf:Str->Option NameKind} {x:Str}:∀ {binds:List (Str×Value)} {m:Str->Option Value},(∀ v,(x,v)∉binds)->bindL kindOf binds m x=m x
  | [],_,_=>rfl
  | (n,v)::r,m,h=>by
    unfold bindL;rw [lR fun w hw=>h w (List.mem_cons_of_mem _ hw)];split
    · have:x≠n:=by rintro rfl;exact h v List.mem_cons_self
      simp [this]
    · rfl
theorem lN {kindOf:Str->Option NameKind} {x:Str}:∀ {binds:List (Str×Value)} {m:Str->Option Value},(∀ v,(x,v)∉binds)->bindC kindOf binds m x=m x
  | [],_,_=>rfl
  | (n,v)::r,m,h=>by
    unfold bindC;rw [lN fun w hw=>h w (List.mem_cons_of_mem _ hw)];split
    · rfl
    · have:x≠n:=by rintro rfl;exact h v List.mem_cons_self
      simp [this]
theorem lX {kindOf:Str->Option NameKind} {x:Str} {v:Value}:∀ {P:List Str} {vs:List Value} {i:Nat} {m:Str->Option Value},P.Nodup->P[i]?=some x->vs[i]?=some v->kindOf x=some .local ->
    bindL kindOf (P.zip vs) m x=some v
  | [],_,_,_,_,h,_,_=>by simp at h
  | _::_,[],_,_,_,_,h,_=>by simp at h
  | p::P,w::vs,0,m,nd,h1,h2,hk=>by
    simp at h1 h2;subst h1;subst h2;show bindL kindOf ((p,w)::P.zip vs) m p=_;unfold bindL;rw [lR fun v hv=>(List.nodup_cons.mp nd).1 (List.of_mem_zip hv).1,if_pos hk];simp
  | p::P,w::vs,i+1,m,nd,h1,h2,hk=>by
    show bindL kindOf ((p,w)::P.zip vs) m x=_;unfold bindL;exact lX (i:=i) (List.nodup_cons.mp nd).2 (by simpa using h1) (by simpa using h2) hk
theorem lE {kindOf:Str->Option NameKind} {x:Str} {v:Value}:∀ {P:List Str} {vs:List Value} {i:Nat} {m:Str->Option Value},P.Nodup->P[i]?=some x->vs[i]?=some v->kindOf x≠some .local ->
    bindC kindOf (P.zip vs) m x=some v
  | [],_,_,_,_,h,_,_=>by simp at h
  | _::_,[],_,_,_,_,h,_=>by simp at h
  | p::P,w::vs,0,m,nd,h1,h2,hk=>by
    simp at h1 h2;subst h1;subst h2;show bindC kindOf ((p,w)::P.zip vs) m p=_;unfold bindC;rw [lN fun v hv=>(List.nodup_cons.mp nd).1 (List.of_mem_zip hv).1,if_neg hk];simp
  | p::P,w::vs,i+1,m,nd,h1,h2,hk=>by
    show bindC kindOf ((p,w)::P.zip vs) m x=_;unfold bindC;exact lE (i:=i) (List.nodup_cons.mp nd).2 (by simpa using h1) (by simpa using h2) hk
noncomputable def gA (N:List Str) (vs:List V):St:=vs.map some++List.replicate (N.length-vs.length) none
noncomputable def dS (CX:vj) (P:Program) (w:World) (K:PySem.W.Frag) (mg:Str->Option Value) (base:Heap) (N:List Str) (qual:Str) (scope:Scope) (f:Addr) (cd:Value) (A:Around) (outer:List Env) (s:Shared) (H:Hp) (E:XK):Cx where
  prog:=P
  w:=w
  K:=K
  mg:=mg
  base:=base
  A:=A.deeper (envOfC qual scope s.heap.objs.size f cd)
  N:=N
  s₀:=s
  H₀:=H
  env:=envOfC qual scope s.heap.objs.size f cd
  outer:=outer
  stack:=envOfC qual scope s.heap.objs.size f cd::outer
  ex:=[]
  calm:=true
  fn:=fun _=>true
  pn:=[]
  xe:=fun e s'=>wpAny (model P w) (A.deeper (envOfC qual scope s.heap.objs.size f cd)) (leaving (envOfC qual scope s.heap.objs.size f cd) e) (fun _ s''=>CX outer H s E e s'') (fun e' s''=>CX outer H s E e' s'') s'
theorem oC {sc:Scope} {n:Nat} {x:Str} (h:sc.names.lookup x=some .cell):∃ c,(cellsFrom n sc.names []).lookup x=some c:=by
  have q:=PySem.W.cellsFrom_some sc.names n [] (.inl h);exact Option.isSome_iff_exists.mp q
theorem sk {CX:vj} {P:Program} {w:World} {K:PySem.W.Frag} {mg:Str->Option Value} {base:Heap} {N ps:List Str} {qual:Str} {scope:Scope} {f:Addr} {cd:Value} {A:Around} {outer:List Env} {s s1:Shared} {H:Hp} {E:XK} {us:List Value} {vs:List V}
    (S:bn N ps scope) (hd:A.handled=none) (e0:xD P w K mg base A outer s H) (hl:vs.length=ps.length) (r:bi vs us)
    (x:InCallC s s.heap.objs.size (bindL (envOfC qual scope s.heap.objs.size f cd).kindOf (ps.zip us) fun _=>none) (cellsFrom (s.heap.objs.size+1) scope.names []) (bindC (envOfC qual scope s.heap.objs.size f cd).kindOf (ps.zip us) fun _=>none) s1) :
    az (dS CX P w K mg base N qual scope f cd A outer s H E) [] (gA N vs) H s1:=by
  have hpl:ps.length<=N.length:=by have:=congrArg List.length S.pre;rw [List.length_take] at this;omega
  obtain ⟨h1,tk,rfl,hk⟩:=x.done;have noA:∀ b:Addr,b∉(dS CX P w K mg base N qual scope f cd A outer s H E).ex:=fun b z=>absurd (show b∈([]:List Addr) from z) (by simp)
  refine ⟨⟨e0.mod,S.kind,rfl,rfl,Nat.le_refl _,fun y z c h1 h2=>?_,fun y hy=>?_,fun y c _ h=>?_,fun _=>hd,Around.frames_deeper e0.frames,.inr ⟨rfl,rfl⟩,fun b z=>absurd z (noA b),e0.bs,e0.bsz,fun b _ _=>noA b,fun b z=>absurd z (noA b),e0.funs,e0.frf⟩,
    rfl,e0.bare,Un.kept hk,⟨_,x.toInCall.ns,fun i y v h1 h2 h3=>?_⟩,fun y c h=>⟨_,x.cell y c h⟩,e0.hok.fresh (Nat.le_refl _),fun y c h=>?_,fun p hp=>absurd (show p∈([]:List (Addr×Obj)) from hp) (by simp),e0.hok.kept hk,?_⟩
  · exact name_of_addr x.apart (PySem.mem_of_lookup h1) (PySem.mem_of_lookup h2)
  · have hy:scope.names.lookup y=some .cell\/scope.names.lookup y=some .free:=hy;rcases hy with hy | hy
    · exact oC hy
    · exact absurd rfl (S.nofree _ (PySem.mem_of_lookup hy))
  · exact Nat.le_of_lt (x.above y c (PySem.mem_of_lookup h))
  · have hi:i < vs.length:=by
      unfold gA at h2;by_cases hi:i < vs.length
      · exact hi
      · rw [List.getElem?_append_right (by simpa using hi)] at h2;rw [List.getElem?_replicate] at h2;split at h2 <;> cases h2
    have ha:vs[i]?=some v:=by
      unfold gA at h2;rw [List.getElem?_append_left (by simpa using hi),List.getElem?_map] at h2;cases e:vs[i]? with
      | none=>rw [e] at h2;cases h2
      | some a=>rw [e] at h2;cases h2;rfl
    obtain ⟨u,hu,rv⟩:=r.get ha;have hp:ps[i]?=some y:=by
      rw [<- S.pre,List.getElem?_take_of_lt (by omega)];exact h1
    have ndP:ps.Nodup:=by rw [<- S.pre];exact S.nd.sublist (List.take_sublist _ _)
    refine ⟨u,rv,?_⟩;rcases S.par y (List.mem_of_getElem? hp) with k | k
    · exact .inl ⟨k,lX ndP hp hu k⟩
    · obtain ⟨c,e⟩:=oC (n:=s.heap.objs.size+1) k;refine .inr ⟨.inl k,c,e,?_⟩;have q:=x.cell y c e;rw [lE ndP hp hu (by show scope.names.lookup y≠_;rw [k];decide)] at q;exact q
  · exact e0.hok.fresh (Nat.le_of_lt (x.above y c (PySem.mem_of_lookup h)))
  · unfold gA;show _=N.length;rw [List.length_append,List.length_map,List.length_replicate];omega
theorem xN {CX:vj} {P:Program} {w:World} {K:PySem.W.Frag} {mg:Str->Option Value} {base:Heap} {k:Nat} {f:Addr} {name qual:Str} {params:Arguments} {body:List Stmt} {scope:Scope} {dV kV doc pm cdv ct oc:Value} {an od:Option Addr}
    {osl:Array (Option Value)} {N ps:List Str} {sp:Sp} (lk:K.lookup f=some ⟨oc,od,.func (PySem.W.fnOf name qual params body scope dV kV doc pm an cdv ct),osl⟩) (hcd:PySem.W.codeIn K cdv qual=true) (S:bn N ps scope)
    (len:∀ vs H Q E,sp vs H Q E->vs.length=ps.length)
    (hbody:∀ (A:Around) (outer:List Env) (s:Shared) (H:Hp) (vs:List V) (Q:VK) (E:XK),eS k (A.deeper (envOfC qual scope s.heap.objs.size f cdv))->sp vs H Q E ->
      ∃ t,nc (dS CX P w K mg base N qual scope f cdv A outer s H E) body t/\t { nx:=fun _ H'=>Q .non H',rt:=Q } (gA N vs) H) :
    bC P w K mg base CX (k+1) f (PySem.W.fnOf name qual params body scope dV kV doc pm an cdv ct) ps sp:=by
  refine ⟨len,fun A outer s H args us vs Q E hr e0 hb r hsp=>?_⟩;have hl:=len _ _ _ _ hsp;have KX:K.In s.heap:=e0.mod.kin.keeps fun b o e=>(e0.bs b o e).1
  have lim:s.heap.NoLimit:=e0.mod.nolimit.keeps fun b o e=>(e0.bs b o e).1
  have hkind:∀ y∈ps.zip us,scope.names.lookup y.1=some .local\/(scope.names.lookup y.1=some .cell/\((cellsFrom (s.heap.objs.size+1) scope.names []).lookup y.1).isSome=true):=fun ⟨n,v⟩ hy=>by
    rcases S.par n (List.of_mem_zip hy).1 with q | q
    · exact .inl q
    · exact .inr ⟨q,PySem.W.cellsFrom_some _ _ _ (.inl q)⟩
  refine codeAny_call_function hr.depth (KX _ _ lk) rfl S.co S.gen rfl (PySem.W.codeRec_of KX hcd) (hb _ _ _ _ ?_);refine wpAny_newFunctionEnv_cells S.kind hkind fun env he s1 x=>?_
  subst he;refine ⟨lim.keeps x.toInCall.keep,codeAny_func ?_⟩;obtain ⟨t,ht,hq⟩:=hbody A outer s H vs Q E (hr.deeper _) hsp;have I:az (dS CX P w K mg base N qual scope f cdv A outer s H E) [] (gA N vs) H s1:=sk S hr.hd e0 hl r x;refine wpAny_mono (ht [] s1 (gA N vs) H _ I hq) (fun fl s' hs=>?_) fun e s' hs=>hs
  have fin:∀ {σ':St} {H':Hp} {v:V} {u:Value},az (dS CX P w K mg base N qual scope f cdv A outer s H E) [] σ' H' s'->bw v u->Q v H'->CE outer P w H s Q u s' :=
    fun {σ' H' v u} J rv q=>⟨v,H',J.os,J.bare,J.base,J.hok,rv,q⟩
  cases fl with
  | ret u =>
    obtain ⟨v,σ',H',J,rv,q⟩:=hs;exact fin J rv q
  | next =>
    obtain ⟨σ',H',J,q⟩:=hs;exact fin (v:=V.non) (u:=Value.none) J rfl q
  | brk =>
    obtain ⟨_,_,_,q⟩:=hs;exact False.elim q
  | cont =>
    obtain ⟨_,_,_,q⟩:=hs;exact False.elim q
section
variable {X:Cx} {x:Str} {p pos:Pos} {e:Expr} {es:List Expr} {t:TA} {id T:String} {r:List V->Hp->VK->Prop}
noncomputable def BT (r:List V->Hp->VK->Prop) (t:TA):TE:=fun σ H Q=>t σ H fun vs H1=>r vs H1 Q
theorem oO (hc:cL X (.builtin id) r) (hg:Gl X x) (hm:X.mg x=none) (hv:bootBuiltins x=some (.builtin id)) (ha:PA X (e::es) t) (hn:x ≠ "__name__" := by decide) (hdb:(x==("__debug__" : Str))=false:=by decide)
    (he:starEach (e::es) X.env=(false,eval e X.env)::starEach es X.env:=by rfl) (hpl:(backTo pos (starEach es X.env)).any (·.1)=false:=by rfl):PE X (.Call (.Name x p) (e::es) [] pos) (BT r t):=by
  intro pins s σ H Q I h;refine wpAny_Call_Name_kw (k8 I hg hm hv ?_ hn hdb);exact PyProof.Rows.callWith_builtin1 (cS (ha pos pins s σ H _ I h) fun us s1 ⟨vs,H1,I1,r1,q1⟩=>hc pins s1 σ H1 vs us Q I1 r1 q1) he hpl
theorem sT (hc:cL X (.type T) r) (hg:Gl X x) (hm:X.mg x=none) (hv:bootBuiltins x=some (.type T)) (ha:PA X (e::es) t) (hn:x ≠ "__name__" := by decide) (hdb:(x==("__debug__" : Str))=false:=by decide)
    (he:starEach (e::es) X.env=(false,eval e X.env)::starEach es X.env:=by rfl) (hpl:(backTo pos (starEach es X.env)).any (·.1)=false:=by rfl):PE X (.Call (.Name x p) (e::es) [] pos) (BT r t):=by
  intro pins s σ H Q I h;refine wpAny_Call_Name_kw (k8 I hg hm hv ?_ hn hdb);exact PyProof.Rows.callWith_type1 (cS (ha pos pins s σ H _ I h) fun us s1 ⟨vs,H1,I1,r1,q1⟩=>hc pins s1 σ H1 vs us Q I1 r1 q1) he hpl
end
end L2
namespace HT
open PySem PyProof.Rows
noncomputable def lexLt:List Int->List Int->Bool
  | [],[]=>false
  | [],_::_=>true
  | _::_,[]=>false
  | x::xs,y::ys=>if x=y then lexLt xs ys else decide (x < y)
theorem lexLt_cons (x y:Int) (xs ys:List Int):lexLt (x::xs) (y::ys)=if x=y then lexLt xs ys else decide (x < y):=rfl
theorem iA:lexLt [] []=false:=rfl
theorem gZ (y:Int) (ys:List Int):lexLt [] (y::ys)=true:=rfl
theorem h7 (x:Int) (xs:List Int):lexLt (x::xs) []=false:=rfl
theorem oF (A:Around) (s:Shared) (a:Int) (t:Tok) (c:Int) (u:Tok):∃ e,SeqAt.EqAt A s (.int a t) (.int c u) e/\(e=true<->a=c) :=
  ⟨(a==c),SeqAt.EqAt.int_int a t c u,by simp⟩
theorem tU (A:Around) (s:Shared) (a:Int) (t:Tok) (c:Int) (u:Tok) (prog:Program) (w:World) (E:Value->Shared->Prop) (Q:Value->Shared->Prop) (h:Q (.bool (decide (a < c))) s) :
    wpAny (model prog w) A (richCompare .Lt (.int a t) (.int c u)) Q E s :=
  (PyProof.Rows.lt_int h:wpAny (model prog w) A (compareOp .Lt (.int a t) (.int c u)) Q E s)
section
open PySem.SeqAt
open PySem.AutoSeq1 (wpAny_loadPart')
open PySem.MeetsSeq PySem.MeetsSeq2 PySem.MeetsSeq3
theorem li (l b:Addr) (items items2:Array Value) (n n2:Nat) (dd dd2:Option Addr) (sl sl2:Array (Option Value)) (ns ms:List Int) (hi:IntsAre items.toList ns) (hj:IntsAre items2.toList ms) :
    Meets (Builtin.«tuple.__lt__» ⟨[.ref l,.ref b],[]⟩)
      (fun _ R s=>s.heap.get? l=some { cls:=.type "tuple",dict:=dd,data:=.seq items n,slots:=sl }/\s.heap.get? b=some { cls:=.type "tuple",dict:=dd2,data:=.seq items2 n2,slots:=sl2 } /\
        R (.ok (.ret (.bool (lexLt ns ms)))) s) :=
  .of_wp fun prog w A R s h=>by
    obtain ⟨hp,g,d,tk,os⟩:=s;obtain ⟨hl,hb,h⟩:=h;have f2:=AutoSeq1.sub_tuple_tuple;have z1:items.size=ns.length:=by rw [<- hi.length];simp
    have z2:items2.size=ms.length:=by rw [<- hj.length];simp
    wp_walk using wpAny_loadPart' hl,wpAny_loadPart' hb,wpAny_forIn_list _ (fun c8 b s'=>b.1=none/\s'=⟨hp,g,d,tk,os⟩/\∃ (vs ws:List Value) (ns' ms':List Int),c8=vs.zip ws /\
      IntsAre vs ns'/\IntsAre ws ms'/\ns'.length+items2.size=ms'.length+items.size/\R (.ok (.ret (.bool (lexLt ns' ms')))) ⟨hp,g,d,tk,os⟩) _
    case turn =>
      rintro ⟨y,x⟩ c8 b s' ⟨hb',rfl,vs,ws,ns',ms',hz,hvi,hwi,hlen,hR⟩;cases hvi with
      | nil=>rw [List.zip_nil_left] at hz;cases hz
      | cons a t hvi' =>
        cases hwi with
        | nil=>rw [List.zip_nil_right] at hz;cases hz
        | cons c u hwi' =>
          rw [List.zip_cons_cons] at hz;injection hz with hyx hrest
          injection hyx with hy hx
          subst hy hx;rw [lexLt_cons] at hR;simp only [List.length_cons] at hlen;obtain ⟨e,he,hiff⟩:=oF A.in1 ⟨hp,g,d,tk,os⟩ a t c u;refine wpAny_bind (he prog w _ _ ?_);cases e with
          | true =>
            rw [if_pos (hiff.mp rfl)] at hR
            wp_walk
            exact ⟨rfl,rfl,_,_,_,_,hrest,hvi',hwi',by omega,hR⟩
          | false =>
            rw [if_neg (fun q=>absurd (hiff.mpr q) Bool.false_ne_true)] at hR;have hri:=tU A.in1 ⟨hp,g,d,tk,os⟩ a t c u prog w
            wp_walk using hri
            exact ⟨_,rfl,by simpa using hR⟩
    case fin =>
      rintro ⟨b1,b2⟩ s' ⟨hb',rfl,vs,ws,ns',ms',hz,hvi,hwi,hlen,hR⟩;simp only at hb';subst hb';have hv:lexLt ns' ms'=decide (items.size < items2.size):=by
        cases hvi with
        | nil =>
          cases hwi with
          | nil =>
            simp only [List.length_nil] at hlen;rw [iA];exact (decide_eq_false (by omega)).symm
          | cons c u hw =>
            simp only [List.length_nil,List.length_cons] at hlen;rw [gZ];exact (decide_eq_true (by omega)).symm
        | cons a t hv =>
          cases hwi with
          | nil =>
            simp only [List.length_nil,List.length_cons] at hlen;rw [h7];exact (decide_eq_false (by omega)).symm
          | cons c u hw =>
            rw [List.zip_cons_cons] at hz;cases hz
      rw [hv] at hR
      wp_walk
      exact ⟨_,rfl,by simpa [Builtin.Tuple.tupleCompareSizes] using hR⟩
    case h =>
      exact ⟨rfl,rfl,items.toList,items2.toList,ns,ms,rfl,hi,hj,by omega,h⟩
end
section
variable {prog:Program} {w:World} {A:Around} {E:Value->Shared->Prop} {s:Shared}
theorem lt_tupInts {l b:Addr} {items items2:Array Value} {ns ms:List Int} {Q:Value->Shared->Prop} (hl:IsTup s.heap l items) (hb:IsTup s.heap b items2) (hi:IntsAre items.toList ns) (hj:IntsAre items2.toList ms)
    (hu:A.units < cLine) (h:Q (.bool (lexLt ns ms)) s):wpAny (model prog w) A (compareOp .Lt (.ref l) (.ref b)) Q E s:=by
  obtain ⟨⟨cls,dd,data,sl⟩,ho,hc,n,hd⟩:=id hl;obtain ⟨⟨cls2,dd2,data2,sl2⟩,ho2,hc2,n2,hd2⟩:=id hb;simp only at hc hd hc2 hd2;subst hc hd hc2 hd2;exact richCompare_meets_room (op:=.Lt) ⟨_,ho,rfl⟩ ⟨_,ho2,rfl⟩ PySem.F.slot_tuple_lt PySem.F.entry_tuple_lt (PySem.F.args_tuple_lt_2 _ _) (li l b items items2 n n2 dd dd2 sl sl2 ns ms hi hj)
    ⟨ho,ho2,show Value.bool (lexLt ns ms)≠Value.notImplemented/\Q (.bool (lexLt ns ms)) s from ⟨(fun x=>nomatch x),h⟩⟩ hu
theorem cat_tup {t b:Addr} {vs ws:List Value} {Q:Value->Shared->Prop} (ht:IsTup s.heap t vs.toArray) (hb:IsTup s.heap b ws.toArray) (hv:vs≠[])
    (h1:ws=[]->Q (.ref t) s) (h2:ws≠[]->Q (.ref s.heap.objs.size) { s with heap:=s.heap.push { cls:=.type "tuple",data:=.seq (vs++ws).toArray } })
    (hsz:vs.length+ws.length<=sizeLine):wpAny (model prog w) A (binaryOp .Add (.ref t) (.ref b)) Q E s:=by
  obtain ⟨⟨cls,dd,data,sl⟩,ho,hc,n,hd⟩:=id ht;obtain ⟨⟨cls2,dd2,data2,sl2⟩,ho2,hc2,n2,hd2⟩:=id hb;simp only at hc hd hc2 hd2;subst hc hd hc2 hd2;have e:vs.toArray++ws.toArray=(vs++ws).toArray:=by simp
  by_cases hw:ws=[]
  · exact concat_meets ⟨_,ho,rfl⟩ ⟨_,ho2,rfl⟩ noFill_tuple_add seq_tuple_add PySem.F.slot_tuple_add PySem.F.entry_tuple_add (PySem.F.args_tuple_add_2 _ _)
      (tuple_addW1 t b vs.toArray ws.toArray n n2 dd dd2 sl sl2 (by simpa using hv) (by simp [hw])) ⟨ho,ho2,h1 hw⟩
  · refine concat_meets ⟨_,ho,rfl⟩ ⟨_,ho2,rfl⟩ noFill_tuple_add seq_tuple_add PySem.F.slot_tuple_add PySem.F.entry_tuple_add (PySem.F.args_tuple_add_2 _ _)
      (tuple_addW2 t b vs.toArray ws.toArray n n2 dd dd2 sl sl2 (by simpa using hv) (by simpa using hw) (by rw [List.size_toArray,List.size_toArray];exact hsz)) ⟨ho,ho2,?_⟩
    rw [e];exact h2 hw
noncomputable def sIx (n d:Nat):Option Int->Nat
  | none=>d
  | some v=>if v < 0 then (v+(n:Int)).toNat else min v.toNat n
theorem kw (n d:Nat):sIx n d none=d:=rfl
theorem nh (n d k:Nat):sIx n d (some (k:Int))=min k n:=by
  show (if (k:Int) < 0 then ((k:Int)+(n:Int)).toNat else min (k:Int).toNat n)=min k n;rw [if_neg (by omega),Int.toNat_natCast]
theorem zA (n d:Nat) (hd:d<=n) (o:Option Int):sIx n d o<=n:=by
  cases o with
  | none=>exact hd
  | some v =>
    show (if v < 0 then (v+(n:Int)).toNat else min v.toNat n)<=n;by_cases hv:v < 0
    · rw [if_pos hv];omega
    · rw [if_neg hv];exact Nat.min_le_right _ _
theorem rg (v:Int) (n d:Nat):(if v < 0 then max (v+(n:Int)) 0 else min v (n:Int))=((sIx n d (some v):Nat):Int):=by
  show (if v < 0 then max (v+(n:Int)) 0 else min v (n:Int))=(((if v < 0 then (v+(n:Int)).toNat else min v.toNat n):Nat):Int)
  by_cases hv:v < 0
  · simp only [if_pos hv];omega
  · simp only [if_neg hv];omega
theorem p0 (lo hi:Option Int) (n:Nat):Builtin.Slice.sliceAdjust lo hi 1 (n:Int)=(((sIx n 0 lo:Nat):Int),((sIx n n hi:Nat):Int)):=by
  have h1:¬ ((1:Int) < 0):=by omega
  unfold Builtin.Slice.sliceAdjust;simp only [h1,if_false];refine Prod.ext ?_ ?_
  · cases lo with
    | none=>rfl
    | some v=>exact rg v n 0
  · cases hi with
    | none=>rfl
    | some v=>exact rg v n n
theorem qh (i j:Nat):Builtin.Slice.slicePlaces (i:Int) (j:Int) 1=j-i:=by
  unfold Builtin.Slice.slicePlaces;have h1:(1:Int) > 0:=by omega
  simp only [h1,if_true,Int.ediv_one];split <;> omega
theorem kx {v:Value} {o:Option Int} {Q:Option Int->Shared->Prop} (p:IsPart v o) (h:Q o s):wpAny (model prog w) A (Builtin.Slice.slicePartIndex v) Q E s:=by
  cases p with
  | none=>exact slicePart_none h
  | int i t=>exact slicePart_int h
theorem sliceApplied_gen {sl:Addr} {vl vu:Value} {lo hi:Option Int} {n:Nat} {Q:Int×Int×Nat->Shared->Prop} (hs:s.heap.IsSliceOf sl vl vu .none) (pl:IsPart vl lo) (pu:IsPart vu hi)
    (h:Q (((sIx n 0 lo:Nat):Int),1,sIx n n hi-sIx n 0 lo) s):wpAny (model prog w) A (Builtin.Slice.sliceApplied (.ref sl) (pure (n:Int))) Q E s:=by
  obtain ⟨os,hos,hcs,hds⟩:=id hs;unfold Builtin.Slice.sliceApplied Builtin.Slice.sliceFields;refine wpAny_bind (wpAny_bind (wpAny_field hos hds (x:=vl) rfl (wpAny_bind (wpAny_field hos hds (x:=vu) rfl (wpAny_bind (wpAny_field hos hds (x:=.none) rfl (wpAny_pure ?_)))))));refine wpAny_bind (slicePart_none ?_);show wpAny _ _ (if ((1:Int)==0)=true then _ else _) _ _ s;rw [if_neg (by decide)];refine wpAny_bind (kx pl (wpAny_bind (kx pu (wpAny_bind (wpAny_pure ?_)))));show wpAny _ _ (match Builtin.Slice.sliceAdjust lo hi 1 (n:Int) with | (lo,hi)=>pure (lo,(1:Int),Builtin.Slice.slicePlaces lo hi 1)) _ _ s;rw [p0 lo hi n];show wpAny _ _ (pure (((sIx n 0 lo:Nat):Int),(1:Int),Builtin.Slice.slicePlaces ((sIx n 0 lo:Nat):Int) ((sIx n n hi:Nat):Int) 1)) _ _ s;rw [qh];exact wpAny_pure h
theorem uq (xs:Array Value) (i k:Nat):((List.range k).filterMap fun (m:Nat)=>xs[((i:Int)+(m:Int)*1).toNat]?).toArray=((xs.toList.drop i).take k).toArray:=by
  have e:(fun (m:Nat)=>xs[((i:Int)+(m:Int)*1).toNat]?)=fun m=>xs[i+m]?:=by
    funext m;have:((i:Int)+(m:Int)*1).toNat=i+m:=by omega
    rw [this]
  rw [e];have:=pick_run xs i k;rw [List.filterMap_map] at this;have e2:((fun x=>xs[x]?)∘fun x=>i+x)=fun m=>xs[i+m]?:=rfl
  rw [e2] at this;rw [this]
theorem getItem_tuple_cut {t sl:Addr} {items:Array Value} {vl vu:Value} {lo hi:Option Int} {Q:Value->Shared->Prop} (ht:IsTup s.heap t items) (hs:s.heap.IsSliceOf sl vl vu .none) (pl:IsPart vl lo) (pu:IsPart vu hi)
    (hw:¬ (sIx items.size 0 lo=0/\sIx items.size items.size hi=items.size))
    (h:Q (.ref s.heap.objs.size) { s with heap:=s.heap.push { cls:=.type "tuple",data:=.seq ((items.toList.drop (sIx items.size 0 lo)).take (sIx items.size items.size hi-sIx items.size 0 lo)).toArray } })
    (hsz:items.size<=sizeLine):wpAny (model prog w) A (getItem (.ref t) (.ref sl)) Q E s:=by
  have htake:sizeOk (.seq ((items.toList.drop (sIx items.size 0 lo)).take (sIx items.size items.size hi-sIx items.size 0 lo)).toArray):=by
    show ((items.toList.drop (sIx items.size 0 lo)).take (sIx items.size items.size hi-sIx items.size 0 lo)).toArray.size<=sizeLine;rw [List.size_toArray,List.length_take,List.length_drop,Array.length_toList];omega
  have hj:sIx items.size items.size hi<=items.size:=zA _ _ (Nat.le_refl _) hi;obtain ⟨os,hos,hcs,hds⟩:=id hs;have hTs:s.TypeIs (.ref sl) "slice" := ⟨os,hos,hcs⟩
  unfold getItem
  try with_reducible refine wpAny_holding ?_
  first | refine wpAny_bind (wpAny_pure ?_) | skip
  refine wpAny_bind (wpAny_sequenceKey ht.typeIs (by decide) ?_);refine wpAny_bind (wpAny_callSpecial?_slot (name:=Str.ofString "__getitem__") ht.typeIs PyProof.Rows.slot_tuple_getitem
    (wpAny_call_entry PyProof.Rows.slot_tuple_getitem ht.typeIs entry_tuple_getitem ?_ (args_tuple_getitem _ _)))
  show wpAny _ _ (Builtin.Tuple.tupleItemsOf (.ref t)>>=_) _ _ s;refine wpAny_bind (tupleItemsOf_ ht ?_);refine wpAny_bind (wpAny_typeOf hTs ?_);rw [if_pos (by decide)];refine wpAny_bind (sliceApplied_gen hs pl pu ?_);have hno:¬ ((((sIx items.size 0 lo:Nat):Int)==0&&(1:Int)==1&&(sIx items.size items.size hi-sIx items.size 0 lo)==items.size)=true):=by
    intro q;rw [Bool.and_eq_true,Bool.and_eq_true] at q;have q1:((sIx items.size 0 lo:Nat):Int)=0:=eq_of_beq q.1.1;have q2:sIx items.size items.size hi-sIx items.size 0 lo=items.size:=eq_of_beq q.2;exact hw ⟨by omega,by omega⟩
  show wpAny _ _ (if (((sIx items.size 0 lo:Nat):Int)==0&&(1:Int)==1&&(sIx items.size items.size hi-sIx items.size 0 lo)==items.size)=true then _ else _) _ _ s;rw [if_neg hno,uq]
  first
    | exact wpAny_bind (m:=Builtin.Tuple.tupleExact _) (wpAny_newObj_type (wpAny_pure ⟨_,rfl,wpAny_pure h⟩) htake)
    | exact wpAny_bind (m:=Builtin.Tuple.tupleExact _) (wpAny_newObj_type (wpAny_bind (wpAny_pure (wpAny_pure ⟨_,rfl,wpAny_pure h⟩))) htake)
    | exact wpAny_bind (wpAny_bind (m:=Builtin.Tuple.tupleExact _) (wpAny_newObj_type (wpAny_pure (wpAny_pure ⟨_,rfl,wpAny_pure h⟩)) htake))
    | exact wpAny_bind (wpAny_bind (m:=Builtin.Tuple.tupleExact _) (wpAny_newObj_type (wpAny_pure ⟨_,rfl,wpAny_pure h⟩) htake))
end
end HT
namespace L2
open PySem PySem.Spec PyProof.Rows
noncomputable abbrev TO:=St->Hp->(Option Int->Hp->Prop)->Prop
noncomputable def PO (X:Cx) (e:Option Expr) (t:TO):Prop :=
  ∀ (pins:List (Addr×Obj)) (s:Shared) (σ:St) (H:Hp) (Q:Option Int->Hp->Prop),az X pins σ H s->t σ H Q ->
    wpAny (model X.prog X.w) X.A (evalPart e X.env) (fun u s'=>∃ o H',az X pins σ H' s'/\IsPart u o/\Q o H') X.xe s
noncomputable def wH:TO:=fun _ H Q=>Q none H
noncomputable def A0 (t:TE):TO:=fun σ H Q=>t σ H fun x H1=>∃ i,x=.int i/\Q (some i) H1
theorem dl {ns:List Int}:∀ {us:List Value},bi (ns.map V.int) us->IntsAre us ns:=by
  induction ns with
  | nil=>intro us r;rw [List.map_nil] at r;cases r;exact .nil
  | cons n ns ih =>
    intro us r;rw [List.map_cons] at r;cases r with
    | cons r1 r2 =>
      obtain ⟨t,e⟩:=r1;subst e;exact .cons n t (ih r2)
section
variable {X:Cx} {e:Expr} {te:TE} {lo hi:Option Expr} {tl th:TO} {pos p2:Pos}
theorem wF:PO X none wH:=by
  intro pins s σ H Q I h;rw [evalPart_none];exact wpAny_pure ⟨none,H,I,.none,h⟩
theorem xw (h:PE X e te):PO X (some e) (A0 te):=by
  intro pins s σ H Q I hw;rw [evalPart_some];refine cS (h pins s σ H _ I hw) fun u s1 ⟨x,H1,I1,r1,q1⟩=>?_
  obtain ⟨i,rfl,q⟩:=q1;obtain ⟨t,rfl⟩:=r1;exact ⟨some i,H1,I1,.int i t,q⟩
noncomputable def w5 (X:Cx) (r:V->Option Int->Option Int->Hp->VK->Prop):Prop :=
  ∀ (pins:List (Addr×Obj)) (s:Shared) (σ:St) (H:Hp) (x:V) (v vl vu:Value) (lo hi:Option Int) (sl:Addr) (Q:VK),az X pins σ H s->bw x v->s.heap.IsSliceOf sl vl vu .none->IsPart vl lo->IsPart vu hi->r x lo hi H Q ->
    ∃ T id,typeLookup (.type T) "__getitem__" = pure (some (.builtin id))/\s.TypeIs v T/\wpAny (model X.prog X.w) X.A (getItem v (.ref sl)) (EP X pins σ Q) X.xe s
theorem w5.or {r r':V->Option Int->Option Int->Hp->VK->Prop} (h:w5 X r) (h':w5 X r'):w5 X (fun x lo hi H Q=>r x lo hi H Q\/r' x lo hi H Q):=by
  intro pins s σ H x v vl vu lo hi sl Q I rx hs pl pu q;rcases q with q | q
  · exact h pins s σ H x v vl vu lo hi sl Q I rx hs pl pu q
  · exact h' pins s σ H x v vl vu lo hi sl Q I rx hs pl pu q
noncomputable def Cl (r:V->Option Int->Option Int->Hp->VK->Prop) (te:TE) (tl th:TO):TE:=fun σ H Q=>te σ H fun x H1=>tl σ H1 fun l H2=>th σ H2 fun u H3=>r x l u H3 Q
theorem ua {r:V->Option Int->Option Int->Hp->VK->Prop} (hr:w5 X r) (he:PE X e te) (hl:PO X lo tl) (hu:PO X hi th):PE X (.Subscript e (.Slice lo hi none p2) pos) (Cl r te tl th):=by
  intro pins s σ H Q I h;refine Subscript_ (cS (he pins s σ H _ I h) fun v s1 ⟨x,H1,I1,r1,q1⟩=>?_);refine wpAny_Slice (cS (hl pins s1 σ H1 _ I1 q1) fun vl s2 ⟨l,H2,I2,pl,q2⟩=>cS (hu pins s2 σ H2 _ I2 q2) fun vu s3 ⟨u,H3,I3,pu,q3⟩=>?_);rw [evalPart_none];refine wpAny_pure ?_;have I4:az X pins σ H3 { s3 with heap:=s3.heap.push { cls:=.type "slice",data:=.fields #[vl,vu,.none] } }:=I3.kept (t':=s3.toks) fun b ob q=>Heap.get?_push_of_some _ q
  obtain ⟨T,id,hT,ht,hg⟩:=hr pins { s3 with heap:=s3.heap.push { cls:=.type "slice",data:=.fields #[vl,vu,.none] } } σ H3 x v vl vu l u s3.heap.objs.size Q I4 r1 (Heap.IsSliceOf.new ..) pl pu q3;show wpAny (model X.prog X.w) X.A (subscriptTail e (.Slice lo hi none p2) v (.ref s3.heap.objs.size)) (EP X pins σ Q) X.xe { s3 with heap:=s3.heap.push { cls:=.type "slice",data:=.fields #[vl,vu,.none] } };exact tail_any (ops:=[.ref s3.heap.objs.size,v]) ht hT hg (by with_unfolding_all rfl)
noncomputable def nV (xs:List V) (lo hi:Option Int):List V:=(xs.drop (HT.sIx xs.length 0 lo)).take (HT.sIx xs.length xs.length hi-HT.sIx xs.length 0 lo)
theorem jL (xs:List V) (lo hi:Option Int):(nV xs lo hi).length<=xs.length:=by
  unfold nV;rw [List.length_take,List.length_drop];omega
noncomputable def BP (K:PySem.W.Frag):V->Option Int->Option Int->Hp->VK->Prop:=fun x lo hi H Q=>∃ a xs,x=.ref a/\eV K H a xs /\
  ¬ (HT.sIx xs.length 0 lo=0/\HT.sIx xs.length xs.length hi=xs.length)/\∀ p,H p=none->Q (.ref p) (cr H p (.tup (nV xs lo hi)))
theorem yt:w5 X (BP X.K):=by
  intro pins s σ H x v vl vu lo hi sl Q I rx hs pl pu h;obtain ⟨a,xs,rfl,hx,hw,q⟩:=h;cases rx;obtain ⟨its,r,ht,hz⟩:=I.tuple hx;have hlen:its.toArray.size=xs.length:=by rw [List.size_toArray];exact r.length.symm
  refine ⟨"tuple",_,PyProof.Rows.slot_tuple_getitem.lookup,ht.typeIs,?_⟩;refine HT.getItem_tuple_cut ht hs pl pu (by rw [hlen];exact hw) ?_ (by rw [hlen];exact hz);rw [hlen];refine ⟨.ref s.heap.objs.size,_,I.laid (t':=s.toks) (o:=.tup (nV xs lo hi)) (fun b ob q=>Heap.get?_push_of_some _ q) (Nat.le_refl _) ?_,rfl,q _ (I.hok.fresh (Nat.le_refl _))⟩;exact ⟨Nat.le_trans (jL xs lo hi) hz,_,(r.drop (HT.sIx xs.length 0 lo)).take (HT.sIx xs.length xs.length hi-HT.sIx xs.length 0 lo),IsTup.new _ _⟩
noncomputable def xR (K:PySem.W.Frag):R2:=fun x y H Q=>∃ a b xs ys,x=.ref a/\y=.ref b/\eV K H a xs/\eV K H b ys/\xs≠[]/\xs.length+ys.length<=sizeLine /\
  (ys=[]->Q (.ref a) H)/\(ys≠[]->∀ p,H p=none->Q (.ref p) (cr H p (.tup (xs++ys))))
theorem bi.nil_iff {xs:List V} {us:List Value} (r:bi xs us):us=[]<->xs=[]:=by
  cases r with
  | nil=>simp
  | cons _ _=>simp
theorem vY:iT X (binaryOp .Add) (xR X.K):=by
  intro pins s σ H x y v u Q I rx ry h;obtain ⟨a,b,xs,ys,rfl,rfl,ha,hb,hx,hz,q1,q2⟩:=h;cases rx;cases ry;obtain ⟨its,r1,p1,_⟩:=I.tuple ha;obtain ⟨its2,r2,p2,_⟩:=I.tuple hb;refine HT.cat_tup p1 p2 (fun z=>hx (r1.nil_iff.mp z)) (fun z=>⟨.ref a,H,I,rfl,q1 (r2.nil_iff.mp z)⟩) (fun z=>?_) (by rw [<- r1.length,<- r2.length];exact hz);refine ⟨.ref s.heap.objs.size,_,I.laid (t':=s.toks) (o:=.tup (xs++ys)) (fun b ob q=>Heap.get?_push_of_some _ q) (Nat.le_refl _) ?_,rfl,q2 (fun w=>z (r2.nil_iff.mpr w)) _ (I.hok.fresh (Nat.le_refl _))⟩;exact ⟨by rw [List.length_append];exact hz,_,r1.append r2,IsTup.new _ _⟩
end
noncomputable def qQ (n:Nat) (i:Int):Option Nat:=if 0<=i then (if i < n then some i.toNat else none) else if -(n:Int)<=i then some (i+n).toNat else none
noncomputable def atI {α:Type} (xs:List α) (i:Int):Option α:=(qQ xs.length i).bind fun j=>xs[j]?
theorem qR {n:Nat} {i:Int} {j:Nat} (h:qQ n i=some j):seqIndex? i n=some j/\j < n/\-(n:Int)<=i/\i < n:=by
  unfold qQ at h;by_cases h0:0<=i
  · rw [if_pos h0] at h;by_cases h1:i < n
    · rw [if_pos h1] at h;have e:i.toNat=j:=Option.some.inj h;exact ⟨by rw [seqIndex_of h0 h1,e],by omega,by omega,h1⟩
    · rw [if_neg h1] at h;cases h
  · rw [if_neg h0] at h;by_cases h1:-(n:Int)<=i
    · rw [if_pos h1] at h;have e:(i+n).toNat=j:=Option.some.inj h;exact ⟨by rw [seqIndex_neg (by omega) h1,e],by omega,h1,by omega⟩
    · rw [if_neg h1] at h;cases h
theorem nk {α:Type} {xs:List α} {i:Int} {v:α} (h:atI xs i=some v):∃ j,seqIndex? i xs.length=some j/\xs[j]?=some v/\j < xs.length/\-(xs.length:Int)<=i/\i < xs.length:=by
  unfold atI at h;cases e:qQ xs.length i with
  | none=>rw [e] at h;cases h
  | some j =>
    rw [e] at h;obtain ⟨h1,h2,h3,h4⟩:=qR e;exact ⟨j,h1,h,h2,h3,h4⟩
theorem mQ {α:Type} {xs:List α} {j:Nat} {v:α} (h:xs[j]?=some v):atI xs (j:Int)=some v:=by
  have hj:j < xs.length:=(List.getElem?_eq_some_iff.mp h).1;have e:qQ xs.length (j:Int)=some j:=by
    unfold qQ;rw [if_pos (by omega),if_pos (by omega)];simp
  unfold atI;rw [e];exact h
noncomputable def rh (b:Expr):Prop:=∀ o i,subscripted b false o i=operate [o,i] (getItem o i)
noncomputable def wa (X:Cx) (r:R2):Prop :=
  ∀ (value slice:Expr) (pins:List (Addr×Obj)) (s:Shared) (σ:St) (H:Hp) (x y:V) (v u:Value) (Q:VK),az X pins σ H s->bw x v->bw y u->r x y H Q ->
    subscripted slice false v u=operate [v,u] (getItem v u)->wpAny (model X.prog X.w) X.A (subscriptTail value slice v u) (EP X pins σ Q) X.xe s
noncomputable def B8 (X:Cx) (id:String) (r:V->List V->Hp->VK->Prop):Prop :=
  ∀ (pins:List (Addr×Obj)) (s:Shared) (σ:St) (H:Hp) (x:V) (xs:List V) (v:Value) (us:List Value) (Q:VK),az X pins σ H s->bw x v->bi xs us->r x xs H Q ->
    wpAny (model X.prog X.w) X.A (call (.builtin id) (v::us)) (EP X pins σ Q) X.xe s
section
variable {X:Cx} {a b:Expr} {ta tb:TE} {pos:Pos}
theorem wa.or {r r':R2} (h:wa X r) (h':wa X r'):wa X (fun x y H Q=>r x y H Q\/r' x y H Q):=by
  intro value slice pins s σ H x y v u Q I rx ry q hs;rcases q with q | q
  · exact h value slice pins s σ H x y v u Q I rx ry q hs
  · exact h' value slice pins s σ H x y v u Q I rx ry q hs
theorem A7 {r:R2} (hr:wa X r) (ha:PE X a ta) (hb:PE X b tb) (hs:rh b):PE X (.Subscript a b pos) (AD r ta tb):=by
  intro pins s σ H Q I h;exact Subscript_ (zi ha hb I h fun v u s2 x y H2 I2 rx ry q=>hr a b pins s2 σ H2 x y v u Q I2 rx ry q (hs _ _))
noncomputable def Az (K:PySem.W.Frag):R2:=fun x y H Q=>∃ p xs i v,x=.ref p/\y=.int i/\jr K H p xs/\atI xs i=some v/\Q v H
noncomputable def AW (K:PySem.W.Frag):R2:=fun x y H Q=>∃ p xs i v,x=.ref p/\y=.int i/\eV K H p xs/\atI xs i=some v/\Q v H
noncomputable def zZ:R2:=fun x y H Q=>∃ z i c,x=.str z/\y=.int i/\z.length<=sizeLine/\atI z.cps.toList i=some c/\Q (.str ⟨#[c]⟩) H
theorem vV:wa X (Az X.K):=by
  intro value slice pins s σ H x y v u Q I rx ry h hs;obtain ⟨p,xs,i,z,rfl,rfl,hq,he,q⟩:=h;cases rx;obtain ⟨t,rfl⟩:=ry;obtain ⟨its,r,pl,hz⟩:=I.list hq;obtain ⟨j,h1,h2,h3,h4,h5⟩:=nk he;obtain ⟨w,ew,rw'⟩:=r.get h2;have hl:=r.length;have hn:=jH;have fin:EP X pins σ Q w s:=⟨z,H,I,rw',q⟩
  by_cases h0:0<=i
  · have hj:i.toNat=j:=by
      rw [seqIndex_of h0 h5] at h1;exact Option.some.inj h1
    exact item_listR pl.isList h0 (by omega) (by rw [hj];simpa using ew) fin hs
  · have hj:(i+(its.toArray.size:Int)).toNat=j:=by
      rw [seqIndex_neg (by omega) h4] at h1;rw [List.size_toArray,<- hl];exact Option.some.inj h1
    exact subscriptTail_builtinR (x:=w) pl.isList.typeIs slot_list_getitem.lookup
      (wpAny_getItem_list_neg (Q:=fun r s'=>r=w/\EP X pins σ Q r s') pl.isList (by omega) (by rw [List.size_toArray] <;> omega) (by omega) (by rw [hj];simpa using ew) ⟨rfl,fin⟩) hs
theorem zo:wa X (AW X.K):=by
  intro value slice pins s σ H x y v u Q I rx ry h hs;obtain ⟨p,xs,i,z,rfl,rfl,hq,he,q⟩:=h;cases rx;obtain ⟨t,rfl⟩:=ry;obtain ⟨its,r,pl,hz⟩:=I.tuple hq;obtain ⟨j,h1,h2,h3,h4,h5⟩:=nk he;obtain ⟨w,ew,rw'⟩:=r.get h2;have hl:=r.length;have hn:=jH;have fin:EP X pins σ Q w s:=⟨z,H,I,rw',q⟩
  exact subscriptTail_builtinR (x:=w) pl.typeIs slot_tuple_getitem.lookup
    (getItem_tuple (j:=j) (Q:=fun r s'=>r=w/\EP X pins σ Q r s') pl (by omega) (by omega) (by rw [List.size_toArray,<- hl];exact h1) (by simpa using ew) ⟨rfl,fin⟩) hs
theorem zu:wa X zZ:=by
  intro value slice pins s σ H x y v u Q I rx ry h hs;obtain ⟨z,i,c,rfl,rfl,hz,he,q⟩:=h;obtain ⟨t,rfl⟩:=rx;obtain ⟨t',rfl⟩:=ry;obtain ⟨j,h1,h2,h3,h4,h5⟩:=nk he;have hl:z.cps.toList.length=z.length:=by simp [Str.length]
  rw [hl] at h1 h4 h5;have hn:=jH;exact tail_any (typeIs_str s z t) slot_str_getitem.lookup (getItem_str (c:=c) (by
    have e1:decide (i < -(2 ^ 63:Int))=false:=decide_eq_false (by omega);have e2:decide (i>=2 ^ 63)=false:=decide_eq_false (by omega);rw [e1,e2,Bool.or_false]) (by rw [h1];simpa using h2) ⟨.str ⟨#[c]⟩,H,I.tok _,⟨_,rfl⟩,q⟩) hs
theorem pL (its:List Value) (n j:Nat) (u:Value):Obj.mapSeq (·.setIfInBounds j u) { cls:=.type "list",data:=.seq its.toArray n }={ cls:=.type "list",data:=.seq (its.set j u).toArray n }:=by
  simp [Obj.mapSeq]
theorem az.lst {pins:List (Addr×Obj)} {σ:St} {H:Hp} {s:Shared} {p:Addr} {xs:List V} (I:az X pins σ H s) (h:H p=some (.lst xs)) :
    ∃ (its:List Value) (n:Nat),bi xs its/\s.heap.get? p=some { cls:=.type "list",data:=.seq its.toArray n }/\xs.length<=sizeLine:=by
  obtain ⟨z,its,n,r,e⟩:=I.hok p _ h;exact ⟨its,n,r,e,z⟩
theorem az.lstUpd {pins:List (Addr×Obj)} {σ:St} {H:Hp} {s:Shared} {p:Addr} {xs ys:List V} {its its':List Value} {n n':Nat} {f:Obj->Obj} (I:az X pins σ H s) (h:H p=some (.lst xs))
    (ho:s.heap.get? p=some { cls:=.type "list",data:=.seq its.toArray n }) (hf:f { cls:=.type "list",data:=.seq its.toArray n }={ cls:=.type "list",data:=.seq its'.toArray n' }) (r:bi ys its') (hz:ys.length<=sizeLine) (t:Nat) :
    az X pins σ (cr H p (.lst ys)) { s with heap:=s.heap.update p f,toks:=t }:=by
  have e:(s.heap.update p f).get? p=some { cls:=.type "list",data:=.seq its'.toArray n' }:=by
    rw [Heap.get?_update_self f ho (by rw [hf] <;> rfl),hf]
  refine I.write (x:=p) (e:=p) (by rw [h];trivial) (.inl rfl) (fun b u hb q=>(Heap.get?_update_other _ _ (Ne.symm hb)).trans q) ⟨_,e⟩ ?_;exact ⟨hz,its',n',r,e⟩
noncomputable def AE:V->V->V->Hp->(Hp->Prop)->Prop:=fun o i v H Q=>∃ p xs k j,o=.ref p/\i=.int k/\H p=some (.lst xs)/\qQ xs.length k=some j/\Q (cr H p (.lst (xs.set j v)))
theorem vt:Am X AE:=by
  intro pins s σ H o i v ov iv u Q I ro ri rv h;obtain ⟨p,xs,k,j,rfl,rfl,hp,hj,q⟩:=h;cases ro;obtain ⟨t,rfl⟩:=ri;obtain ⟨its,n,r,ho,hz⟩:=I.lst hp;obtain ⟨h1,h2,h3,h4⟩:=qR hj;have hl:=r.length;have hn:=jH;have I':az X pins σ (cr H p (.lst (xs.set j v))) { s with heap:=s.heap.update p (Obj.mapSeq (·.setIfInBounds j u)) } :=
    I.lstUpd hp ho (pL its n j u) (r.set rv j) (by rw [List.length_set];exact hz) s.toks
  by_cases h0:0<=k
  · have hk:k.toNat=j:=by
      rw [seqIndex_of h0 h4] at h1;exact Option.some.inj h1
    exact PySem.W.ki_setAt ho h0 (by omega) (by rw [List.size_toArray,<- hl];exact h4) (by rw [hk];exact ⟨_,I',q⟩)
  · have hk:(k+(its.toArray.size:Int)).toNat=j:=by
      rw [seqIndex_neg (by omega) h3] at h1;rw [List.size_toArray,<- hl];exact Option.some.inj h1
    exact PySem.W.ki_setBack ho (by omega) (by rw [List.size_toArray,<- hl];exact h3) (by omega) (by rw [hk];exact ⟨_,I',q⟩)
theorem mS (lo hi:Option Int) (n:Nat):(sliceBounds lo hi none n).1=((HT.sIx n 0 lo:Nat):Int)/\(sliceBounds lo hi none n).2.1=((HT.sIx n n hi:Nat):Int)/\(sliceBounds lo hi none n).2.2=1:=by
  refine ⟨?_,?_,rfl⟩
  · cases lo with
    | none=>simp [sliceBounds,HT.sIx]
    | some i =>
      simp only [sliceBounds,HT.sIx,Option.getD_none,show (1:Int) > 0 by decide,if_true];by_cases h:i < 0
      · simp only [h,if_true] <;> omega
      · simp only [h,if_false] <;> omega
  · cases hi with
    | none=>simp [sliceBounds,HT.sIx]
    | some i =>
      simp only [sliceBounds,HT.sIx,Option.getD_none,show (1:Int) > 0 by decide,if_true];by_cases h:i < 0
      · simp only [h,if_true] <;> omega
      · simp only [h,if_false] <;> omega
theorem lw (its:List Value) (lo hi:Option Int):slicePick its.toArray lo hi none=((its.drop (HT.sIx its.length 0 lo)).take (HT.sIx its.length its.length hi-HT.sIx its.length 0 lo)).toArray:=by
  obtain ⟨h1,h2,h3⟩:=mS lo hi its.toArray.size;unfold slicePick;rw [h1,h2,h3];simp only [sliceRange_one,pick_run,List.size_toArray] <;> rfl
noncomputable def BZ (K:PySem.W.Frag):V->Option Int->Option Int->Hp->VK->Prop:=fun x lo hi H Q=>∃ a xs,x=.ref a/\jr K H a xs/\∀ p,H p=none->Q (.ref p) (cr H p (.lst (nV xs lo hi)))
theorem xy:w5 X (BZ X.K):=by
  intro pins s σ H x v vl vu lo hi sl Q I rx hs pl pu h;obtain ⟨a,xs,rfl,hx,q⟩:=h;cases rx;obtain ⟨its,r,ht,hz⟩:=I.list hx;have hlen:=r.length;refine ⟨"list",_,slot_list_getitem.lookup,ht.isList.typeIs,?_⟩;refine wpAny_getItem_list_slice ht.isList hs pl pu .none (by simp) ?_ (by rw [List.size_toArray] <;> omega);rw [lw,<- hlen];refine ⟨.ref s.heap.objs.size,_,I.laid (t':=s.toks) (o:=.lst (nV xs lo hi)) (fun b ob q=>Heap.get?_push_of_some _ q) (Nat.le_refl _) ?_,rfl,q _ (I.hok.fresh (Nat.le_refl _))⟩;exact ⟨Nat.le_trans (jL xs lo hi) hz,_,0,(r.drop (HT.sIx xs.length 0 lo)).take (HT.sIx xs.length xs.length hi-HT.sIx xs.length 0 lo),Heap.get?_push_size _ rfl⟩
theorem md:cL X (.builtin "len") (fun xs H Q=>∃ p ys,xs=[.ref p]/\(jr X.K H p ys\/eV X.K H p ys)/\Q (.int ys.length) H):=by
  intro pins s σ H xs us Q I r h;obtain ⟨p,ys,rfl,hq,q⟩:=h;obtain ⟨u,rfl,rx⟩:=e8 r;cases rx;have hn:=jH;rcases hq with hq | hq
  · obtain ⟨its,r',pl,hz⟩:=I.list hq;have hlen:=r'.length;exact Calls.call_len_list pl.isList (by simp only [List.size_toArray] <;> omega) ⟨.int ys.length,H,I.tok _,⟨s.toks+1,by rw [List.size_toArray,hlen]⟩,q⟩
  · obtain ⟨its,r',pl,hz⟩:=I.tuple hq;have hlen:=r'.length;exact len_tuple pl (by simp only [List.size_toArray] <;> omega) ⟨.int ys.length,H,I.tok _,⟨s.toks+1,by rw [List.size_toArray,hlen]⟩,q⟩
theorem mm:cL X (.builtin "len") (fun xs H Q=>∃ z,xs=[.str z]/\z.length<=sizeLine/\Q (.int z.length) H):=by
  intro pins s σ H xs us Q I r h;obtain ⟨z,rfl,hz,q⟩:=h;obtain ⟨u,rfl,t,rfl⟩:=e8 r;have hn:=jH;exact len_str (by omega) ⟨.int z.length,H,I.tok _,⟨_,rfl⟩,q⟩
theorem cL.or {f:Value} {r r':List V->Hp->VK->Prop} (h:cL X f r) (h':cL X f r'):cL X f (fun xs H Q=>r xs H Q\/r' xs H Q):=by
  intro pins s σ H xs us Q I rs q;rcases q with q | q
  · exact h pins s σ H xs us Q I rs q
  · exact h' pins s σ H xs us Q I rs q
theorem mK:cL X (.type "list") (fun xs H Q=>∃ p ys,xs=[.ref p]/\(jr X.K H p ys\/eV X.K H p ys)/\∀ l,H l=none->Q (.ref l) (cr H l (.lst ys))):=by
  intro pins s σ H xs us Q I r h;obtain ⟨p,ys,rfl,hq,q⟩:=h;obtain ⟨u,rfl,rx⟩:=e8 r;cases rx;have fin:∀ (its:List Value),bi ys its->ys.length<=sizeLine->∀ (h':Heap) (c':Nat),(∀ b o',s.heap.get? b=some o'->h'.get? b=some o') ->
      h'.get? s.heap.objs.size=some { cls:=.type "list",dict:=none,data:=.seq its.toArray c',slots:=#[] }->EP X pins σ Q (.ref s.heap.objs.size) { s with heap:=h' }:=fun its r' hz h' c' kp e =>
    ⟨.ref s.heap.objs.size,_,I.laid (t':=s.toks) kp (Nat.le_refl _) (show bS X.prog X.w _ h' _ (.lst ys) from ⟨hz,its,c',r',e⟩),rfl,q _ (I.hok.fresh (Nat.le_refl _))⟩
  rcases hq with hq | hq
  · obtain ⟨its,r',pl,hz⟩:=I.list hq;have hlen:=r'.length;obtain ⟨o,ho,hc,n,hd⟩:=pl.isList;exact call_list_seq p (.inl rfl) ho hc hd (fun h' c' kp e=>fin its r' hz h' c' kp e) (by simp only [List.size_toArray] <;> omega)
  · obtain ⟨its,r',pl,hz⟩:=I.tuple hq;have hlen:=r'.length;obtain ⟨o,ho,hc,n,hd⟩:=pl;exact call_list_seq p (.inr rfl) ho hc hd (fun h' c' kp e=>fin its r' hz h' c' kp e) (by simp only [List.size_toArray] <;> omega)
theorem lx:cL X (.type "tuple") (fun xs H Q=>∃ p ys,xs=[.ref p]/\((jr X.K H p ys/\∀ l,H l=none->Q (.ref l) (cr H l (.tup ys)))\/(eV X.K H p ys/\Q (.ref p) H))):=by
  intro pins s σ H xs us Q I r h;obtain ⟨p,ys,rfl,h⟩:=h;obtain ⟨u,rfl,rx⟩:=e8 r;cases rx;rcases h with ⟨hq,q⟩ | ⟨hq,q⟩
  · obtain ⟨its,r',pl,hz⟩:=I.list hq;have hlen:=r'.length;refine call_tuple_list pl.isList (fun h' kp=>?_) (by simp only [List.size_toArray] <;> omega);have I1:az X pins σ H { s with heap:=h' }:=I.kept (t':=s.toks) kp;have I2:az X pins σ (cr H h'.objs.size (.tup ys)) { s with heap:=h'.push { cls:=.type "tuple",data:=.seq its.toArray } } :=
      I1.laid (t':=s.toks) (fun b o e=>Heap.get?_push_of_some _ e) (Nat.le_refl _) (show bS X.prog X.w _ _ _ (.tup ys) from ⟨hz,its,r',IsTup.new _ _⟩)
    exact ⟨.ref h'.objs.size,_,I2,rfl,q _ (I1.hok.fresh (Nat.le_refl _))⟩
  · obtain ⟨its,r',pl,hz⟩:=I.tuple hq;exact call_tuple_same pl ⟨.ref p,H,I,rfl,q⟩
noncomputable def Ca (K:PySem.W.Frag) (T:String) (x:V) (H:Hp):Prop:=match x with
  | .str _=>T = "str"
  | .int _=>T = "int"
  | .ref p=>(T = "list" /\ ∃ xs,jr K H p xs)\/(T = "tuple" /\ ∃ o,K.lookup p=some o/\o.cls=.type "tuple" /\ o.dict=none) \/
      (T = "dict" /\ ((∃ kvs,H p=some (.dK kvs))\/∃ kvs,H p=some (.dT kvs)))\/(T = "set" /\ ∃ S n,H p=some (.set S n))
  | _=>False
theorem yo {pins:List (Addr×Obj)} {σ:St} {H:Hp} {s:Shared} {T:String} {x:V} {v:Value} (I:az X pins σ H s) (r:bw x v) (ty:Ca X.K T x H) :
    s.TypeIs v T/\∀ a,v=.ref a->∃ ob,s.heap.get? a=some ob/\ob.dict=none:=by
  cases x with
  | str z =>
    obtain ⟨t,rfl⟩:=r;cases (show T = "str" from ty);exact ⟨typeIs_str s z t,fun _ e=>nomatch e⟩
  | int i =>
    obtain ⟨t,rfl⟩:=r;cases (show T = "int" from ty);exact ⟨typeIs_int s i t,fun _ e=>nomatch e⟩
  | ref p =>
    cases r;rcases ty with ⟨rfl,xs,hq⟩ | ⟨rfl,o,hk,hc,hd⟩ | ⟨rfl,hk⟩ | ⟨rfl,S,n,hk⟩
    · obtain ⟨its,_,pl,_⟩:=I.list hq;refine ⟨pl.isList.typeIs,fun a e=>?_⟩;cases e;obtain ⟨o,n,e,c,hd,_⟩:=pl;exact ⟨o,e,hd⟩
    · refine ⟨⟨o,I.kIn p o hk,hc⟩,fun a e=>?_⟩;cases e;exact ⟨o,I.kIn _ o hk,hd⟩
    · have z:∃ o,s.heap.get? p=some o/\o.ExactDict:=by
        rcases hk with ⟨kvs,hk⟩ | ⟨kvs,hk⟩
        · obtain ⟨_,_,_,_,o,_,_,e,ex,_⟩:=I.hok p _ hk;exact ⟨o,e,ex⟩
        · obtain ⟨_,_,_,_,o,_,_,e,ex,_⟩:=I.hok p _ hk;exact ⟨o,e,ex⟩
      obtain ⟨o,e,ex⟩:=z;refine ⟨⟨o,e,ex.1⟩,fun a e2=>?_⟩;cases e2;exact ⟨o,e,ex.2.1⟩
    · obtain ⟨o,_,_,_,e,ex,_⟩:=I.hok p _ hk;refine ⟨⟨o,e,ex.1⟩,fun a e2=>?_⟩;cases e2;exact ⟨o,e,ex.2.1⟩
  | _=>exact False.elim ty
noncomputable def Cg (K:PySem.W.Frag) (T:String) (r:V->List V->Hp->VK->Prop) (to:TE) (t:TA):TE:=fun σ H Q=>to σ H fun x H1=>Ca K T x H1/\t σ H1 fun xs H2=>r x xs H2 Q
variable {o e:Expr} {es:List Expr} {to:TE} {t:TA} {name:Str} {apos cpos:Pos} {T id:String} {r:V->List V->Hp->VK->Prop}
theorem xV (pa:PlainAttrs T) (slot:Slot T name id) (hty:typeOf (.builtin id)=pure (.type "method_descriptor")) (hm:B8 X id r) (ho:PE X o to) (ha:PA X (e::es) t)
    (hbase:attributeBase o name X.env (eval o X.env)=eval o X.env:=by rfl)
    (hfew:((backTo cpos (starEach (e::es) X.env)).all (fun x=>!x.1)&&(backToKw cpos (keywordEach [] X.env)).all (fun x=>x.1.isSome)
      && decide ((e::es).length+([]:List Keyword).length+(if ([]:List Keyword).isEmpty then 0 else 1) < 30))=true:=by rfl)
    (hline:(apos.endLine==cpos.line)=true:=by rfl) (hs:starEach (e::es) X.env=(false,eval e X.env)::starEach es X.env:=by rfl) (hplain:(backTo cpos (starEach es X.env)).any (·.1)=false:=by rfl) :
    PE X (.Call (.Attribute o name apos) (e::es) [] cpos) (Cg X.K T r to t):=by
  intro pins s σ H Q I h;refine wpAny_Call_method_late hbase hfew hline rfl (cS (ho pins s σ H _ I h) fun v s1 ⟨x,H1,I1,r1,ty,q1⟩=>?_);obtain ⟨h1,h2⟩:=yo I1 r1 ty;refine ⟨T,id,pa,slot,hty,h1,h2,?_⟩;have hA:=ha cpos pins s1 σ H1 _ I1 q1;rw [hs] at hA ⊢;refine Calls.callWith_builtin (by show (false||(backTo cpos (starEach es X.env)).any (·.1))=false;rw [hplain] <;> rfl) (Calls.evalArgs_plain ?_);exact cS hA fun us s2 ⟨vs,H2,I2,r2,q2⟩=>hm pins s2 σ H2 x vs v us Q I2 r1 r2 q2
end
noncomputable def Cb (X:Cx) (id:String) (r:V->List V->Hp->VK->Prop):Prop :=
  ∀ (pins:List (Addr×Obj)) (s:Shared) (σ:St) (H:Hp) (x:V) (xs:List V) (v:Value) (us:List Value) (Q:VK),az X pins σ H s->bw x v->bi xs us->r x xs H Q ->
    wpAny (model X.prog X.w) X.A (call (.builtin id) (v::us)) (EP X pins σ Q) X.xe s
theorem bi.one:∀ {x:V} {us:List Value},bi [x] us->∃ u,us=[u]/\bw x u
  | _,_,.cons r .nil=>⟨_,rfl,r⟩
theorem bi.rep {xs:List V} {us:List Value} (h:bi xs us):∀ k:Nat,bi (List.replicate k xs).flatten (List.replicate k us).flatten
  | 0=>.nil
  | k+1=>by
    rw [List.replicate_succ,List.replicate_succ,List.flatten_cons,List.flatten_cons];exact bi.append h (bi.rep h k)
theorem lJ (its:List Value):∀ (k:Nat) (acc:List Value),
    List.foldl (fun x1 x2=>x1++x2) acc.toArray (List.replicate k its.toArray)=(acc++(List.replicate k its).flatten).toArray
  | 0,acc=>by simp
  | k+1,acc=>by
    have e:acc.toArray++its.toArray=(acc++its).toArray:=by simp
    have e2:(acc++its)++(List.replicate k its).flatten=acc++(List.replicate (k+1) its).flatten:=by
      rw [List.replicate_succ,List.flatten_cons,List.append_assoc]
    rw [<- e2,<- lJ its k (acc++its),<- e,List.replicate_succ,List.foldl_cons]
section
variable {X:Cx} {pins:List (Addr×Obj)} {σ:St} {H:Hp} {s:Shared} {l b:Addr} {xs ys zs:List V}
theorem az.lset {its its':List Value} {n:Nat} {f:Array Value->Array Value} {t':Nat} (I:az X pins σ H s) (hH:H l=some (.lst xs))
    (e:s.heap.get? l=some { cls:=.type "list",data:=.seq its.toArray n }) (hf:f its.toArray=its'.toArray) (hv:bi ys its') (hz:ys.length<=sizeLine) :
    az X pins σ (cr H l (.lst ys)) { s with heap:=s.heap.update l (Obj.mapSeq f),toks:=t' }:=by
  have q:=PySem.IsL.update e f;rw [hf] at q;refine I.write (x:=l) (e:=l) (by rw [hH];exact trivial) (.inl rfl) (fun b' u hb hu=>(Heap.get?_update_other s.heap (Obj.mapSeq f) (Ne.symm hb)).trans hu) ⟨_,q⟩ ?_;exact ⟨hz,its',_,hv,q⟩
theorem az.lnew {its:List Value} {t':Nat} (I:az X pins σ H s) (hv:bi ys its) (hz:ys.length<=sizeLine) :
    az X pins σ (cr H s.heap.objs.size (.lst ys)) { s with heap:=s.heap.push { cls:=.type "list",data:=.seq its.toArray },toks:=t' } :=
  I.laid (fun _ _ q=>Heap.get?_push_of_some _ q) (Nat.le_refl _) ⟨hz,its,0,hv,Heap.get?_push_size _ rfl⟩
theorem az.fresh (I:az X pins σ H s):H s.heap.objs.size=none:=I.hok.fresh (Nat.le_refl _)
theorem az.lstM (I:az X pins σ H s) (hH:H l=some (.lst xs)):xs.length<=sizeLine/\∃ (its:List Value) (n:Nat),bi xs its/\xs.length=its.length/\s.heap.get? l=some { cls:=.type "list",data:=.seq its.toArray n }:=by
  obtain ⟨z,its,n,r,e⟩:=I.hok l _ hH;exact ⟨z,its,n,r,r.length,e⟩
end
section
variable {X:Cx}
noncomputable def xj:V->List V->Hp->VK->Prop:=fun x vs H Q=>∃ l xs y,x=.ref l/\vs=[y]/\H l=some (.lst xs)/\xs.length < sizeLine/\Q .non (cr H l (.lst (xs++[y])))
theorem lL:Cb X "list.append" xj:=by
  intro pins s σ H x vs v us Q I rx rv h;obtain ⟨l,xs,y,rfl,rfl,hH,hz,q⟩:=h;cases rx;obtain ⟨u,rfl,ru⟩:=rv.one;obtain ⟨z,its,n,r,hl,e⟩:=I.lstM hH;refine call_meets F.slot_list_append ⟨_,e,rfl⟩ F.entry_list_append (F.args_list_append_2 _ _) (PySem.list_append l its.toArray n u (by rw [List.size_toArray];omega)) ⟨e,?_⟩;refine ⟨.non,_,I.lset (its':=its++[u]) hH e (by simp) (r.append (.cons ru .nil)) ?_,rfl,q⟩;rw [List.length_append,List.length_singleton];omega
theorem qG {α:Type} (xs:List α) (k:Nat):(List.replicate k xs).flatten.length=k*xs.length:=by
  induction k with
  | zero=>simp
  | succ k ih=>rw [List.replicate_succ,List.flatten_cons,List.length_append,ih,Nat.succ_mul,Nat.add_comm]
end
end L2
namespace Att
open PySem PySem.W PySem.Calls PyProof.Rows
theorem jS {P:Params} {h:Heap}:∀ (ns:List Int) (vs:List Value),WellAll P h vs (ns.map WData.int)->IntsAre vs ns:=by
  intro ns;induction ns with
  | nil =>
    intro vs w;rw [List.map_nil] at w;cases w;exact .nil
  | cons n ns ih =>
    intro vs w;rw [List.map_cons] at w;cases w with
    | cons a b =>
      cases a;exact .cons _ _ (ih _ b)
theorem sx {l:OpenLaw} {n:Nat} (hn:l.most=some n) {P:Params} {h:Heap} {args:List WData} {vals:List Value}
    (hpre:l.row.toRowW.claim.pre args=true) (hwl:WellAll P h vals args) :
    ∃ a vs ns,vals=[Value.ref a]/\args=[WData.list (ns.map WData.int)]/\h.get? a=some { cls:=.type "list",data:=.seq vs.toArray }/\IntsAre vs ns/\ns.length<=n:=by
  have hsh:WShape.hasAll [] args [.list .int]=true:=(pre_splitW hpre).1;have hc:l.pre.holds [] { args:=args }=true:=(pre_splitW hpre).2;obtain ⟨d,r,rfl,h1,h2⟩:=hasAllW_cons hsh;obtain rfl:=hasAllW_nil h2;obtain ⟨xs,rfl,h3⟩:=hasW_list h1;obtain ⟨ns,rfl⟩:=items_int h3;have hlen:ns.length<=n:=by
    unfold OpenLaw.pre at hc;have h4:(WTm.not (.lt (.lit (.int (n:Int))) (.len (.arg 0)))).holds [] { args:=[.list (ns.map .int)] }=true:=by
      have h4:=(holds_andW hc).1;rw [hn] at h4;exact h4
    have h5:=condW_of h4 (w_not (w_lt w_lit (w_len_list (w_arg rfl))));rw [List.length_map] at h5;refine Nat.le_of_not_lt fun q=>?_
    have q':(n:Int) < ((ns.length:Nat):Int):=by omega
    first
      | (rw [decide_eq_true q'] at h5;exact absurd h5 (by decide))
      | (simp at h5;omega)
  cases hwl with
  | cons w1 w2 =>
    cases w2;cases w1 with
    | list ho hall=>exact ⟨_,_,ns,rfl,rfl,ho,jS ns _ hall,hlen⟩
theorem s8 (l:OpenLaw) (args:List WData):l.row.toRowW.claim.post args (.bool true) args=true :=
  postW_of (r:=l.row.toRowW) (X:=(true==true))
    (show WShape.has [] (.bool true) .bool=true by first | rfl | decide | simp [WShape.has,WShape.arms,WShape.armsAll])
    (show (WTm.eq .res (.lit (.bool true))).value [] { args:=args,res:=some (.bool true),after:=args }=some (.bool (true==true)) from w_eq_bool (w_res rfl) w_lit) rfl
theorem attach_call {l:OpenLaw} {n:Nat} {q:Program} {loose:List Str} {XP:(Str->Option Value)->Heap->Prop} {YP:World->Heap->Prop} {d:DefRec}
    (hn:l.most=some n) (hdf:d.params.defaults=[])
    (call:∀ (w:World) (s₀ s₁:Shared) (mg mb:Str->Option Value) (fa:Addr) (o:Obj) (pm cd doc:Value) (a:Addr) (vs:List Value) (ns:List Int),
      Ground q loose [] XP w s₀ mg mb s₁.heap->YP w s₁.heap ->
      s₁.heap.get? fa=some o->o.data=.func (docDef d.name d.params d.body d.scope pm cd doc)->s₁.heap.CodeRec cd d.name->mg d.name=some (.ref fa) ->
      s₁.heap.get? a=some { cls:=.type "list",data:=.seq vs.toArray }->IntsAre vs ns->ns.length<=n->s₁.gens=#[] ->
      codeAny (model l.prog w) callerA (.call (.ref fa) ⟨[.ref a],[]⟩) (fun r s'=>r=.ok (.ret (.bool true))/\OldK s₁.heap s'.heap/\s'.os=s₁.os/\AllBare s'.gens) s₁) :
    WalkO q loose XP YP l.row.toRowW d [] (fun f vs=>PySem.call f vs):=by
  intro w s₀ s₁ mg mb G Y fa o pm cd doc dV kV ho hd hcd hD hmg hg args vals as hpre hlay hrd hwl hlo;obtain rfl:dV=.none:=Dflts.none hD hdf;obtain rfl:kV=.none:=Dflts.noKw hD;obtain ⟨a,vs,ns,rfl,rfl,hobj,hints,hlen⟩:=sx hn hpre hwl;refine enter_call (codeAny_mono (call w s₀ s₁ mg mb fa o pm cd doc a vs ns G Y ho (fd_plain hd) hcd hmg hobj hints hlen hg) fun r s' hq=>?_);obtain ⟨rfl,h2,h3,h4⟩:=hq;exact ⟨.inl ⟨.bool true,.bool true,[],rfl,fun _=>rfl,.bool true,s8 l _,fun _=>⟨List.Pairwise.nil,fun _ hm=>(nomatch hm)⟩⟩,h2,h3,h4⟩
end Att
namespace L2
open PySem PySem.Spec PyProof.Rows
theorem il:∀ {vs:List Value} {ns:List Int},IntsAre vs ns->bi (ns.map V.int) vs
  | _,_,.nil=>.nil
  | _,_,.cons n t h=>.cons ⟨t,rfl⟩ (il h)
noncomputable def Ay (H:Hp):Prop:=∀ b,H b=none\/∃ o xs,H b=some (.frz o (.lst xs))
theorem uC {P:Program} {w:World} {K:PySem.W.Frag} {mg mb:Str->Option Value} {CX:vj} {k:Nat} {fa a:Addr} {fd:FuncData} {x:Str} {sp:Sp} {s₁:Shared} {vs:List Value} {ns:List Int}
    (KX:K.In s₁.heap) (hns:s₁.heap.Ns mainGlobals mg) (hb:s₁.heap.Ns builtinsNs mb) (hbb:∀ x:Str,x ≠ "__name__" -> mb x=bootBuiltins x) (hlim:s₁.heap.NoLimit) (hg:s₁.gens=#[])
    (ha:s₁.heap.get? a=some { cls:=.type "list",data:=.seq vs.toArray }) (hi:IntsAre vs ns) (hl:ns.length<=sizeLine) (hr:eS k callerA)
    (F:∀ base:Heap,K.In base->base.Ns mainGlobals mg->bC P w K mg base CX k fa fd [x] sp) (hbind:∀ (s:Shared) (u:Value),BindsTo s fd ⟨[u],[]⟩ [(x,u)])
    (hsp:∀ H:Hp,Ay H->jr K H a (ns.map V.int)->sp [.ref a] H (fun v _=>v=.bl true) fun _ _ _=>False)
    (hCX:∀ H e s',CX [] H s₁ (fun _ _ _=>False) e s'->False) :
    codeAny (model P w) callerA (.call (.ref fa) ⟨[.ref a],[]⟩) (fun r s'=>r=.ok (.ret (.bool true))/\OldK s₁.heap s'.heap/\s'.os=s₁.os/\AllBare s'.gens) s₁:=by
  have rv:=il hi;have lenV:=hi.length
  -- from an abstract heap in which nothing but the script may be tracked
  have core:∀ H:Hp,Ay H->jr K H a (ns.map V.int)->fZ P w H s₁.heap->(∀ b,H b≠none->b=a)->(H a≠none->K.lookup a=none) ->
      codeAny (model P w) callerA (.call (.ref fa) ⟨[.ref a],[]⟩) (fun r s'=>r=.ok (.ret (.bool true))/\OldK s₁.heap s'.heap/\s'.os=s₁.os/\AllBare s'.gens) s₁:=by
    intro H hO hS hok hA hK;have base_of:∀ {b:Addr} {o:Obj},s₁.heap.get? b=some o->H b=none->(mO s₁.heap H).get? b=some o:=fun e n=>tx e n
    have noA:∀ {b:Addr} {o:Obj} {es:Array DictEntry} {ep:Nat},s₁.heap.get? b=some o->o.data=.dict es ep->H b=none:=fun {b o es ep} e d=>by
      cases q:H b with
      | none=>rfl
      | some u =>
        have e':b=a:=hA b (by rw [q];simp);subst e';rw [ha] at e;cases e;have d':Data.seq vs.toArray _=Data.dict es ep:=d;cases d'
    have nsK:∀ {b:Addr} {m:Str->Option Value},s₁.heap.Ns b m->(mO s₁.heap H).Ns b m:=fun {b m} ⟨o,es,ep,e,d,r⟩=>⟨o,es,ep,base_of e (noA e d),d,r⟩
    have hKb:K.In (mO s₁.heap H):=fun b o e=>base_of (KX b o e) (by
      cases q:H b with
      | none=>rfl
      | some u =>
        have e':b=a:=hA b (by rw [q];simp);subst e';rw [hK (by rw [q];simp)] at e;cases e)
    have hM:Mod K mg (mO s₁.heap H):=⟨hKb,nsK hns,⟨mb,nsK hb,hbb⟩,let ⟨mc,h1,h2⟩:=hlim;⟨mc,nsK h1,h2⟩⟩
    have e0:xD P w K mg (mO s₁.heap H) callerA [] s₁ H:=⟨rfl,hM,fun b o e=>wp e,Nat.le_of_eq (sy _ _),trivial,fun b hb=>absurd (show b∈([]:List Addr) from hb) (by simp),hok,.of_eq hg⟩
    refine codeAny_mono ((F _ hKb (nsK hns)).run callerA [] s₁ H ⟨[.ref a],[]⟩ [.ref a] [.ref a] _ _ hr e0 (hbind s₁ (.ref a)) (.cons rfl .nil) (hsp H hO hS)) fun r s' h=>?_
    cases r with
    | error e=>exact (hCX H e s' h).elim
    | ok fl =>
      cases fl with
      | next=>exact False.elim h
      | brk=>exact False.elim h
      | cont=>exact False.elim h
      | ret u =>
        obtain ⟨v,H',os,bare,un,hok',r',q⟩:=h;have q':v=.bl true:=q;subst q';obtain rfl:u=Value.bool true:=r';refine ⟨rfl,OldK.of_keep fun b o e=>?_,os,bare⟩;cases q:H b with
        | none=>exact un.keep b o e q (by intro z;exact absurd (show b∈([]:List Addr) from z) (by simp)) (by simp)
        | some u =>
          rcases hO b with z | ⟨ob,xs,z⟩
          · rw [q] at z;cases z
          · have z2:=un.frzs b ob _ z;obtain ⟨e1,_⟩:=hok b _ z;obtain ⟨e2,_⟩:=hok' b _ z2;rw [e] at e1;cases e1;exact e2
  cases hk:K.lookup a with
  | some o =>
    -- the script is one of the module's own objects
    have e:=KX a o hk;rw [ha] at e;cases e;refine core (fun _=>none) (fun _=>.inl rfl) (.inr ⟨_,vs.toArray,_,hk,rfl,rfl,rfl,by rw [List.size_toArray,lenV];exact hl,by simpa using rv⟩) (fun b u z=>by have z':(none:Option HO)=some u:=z;cases z') (fun b z=>absurd rfl z) fun z=>absurd rfl z
  | none =>
    refine core (fun b=>if b=a then some (.frz { cls:=.type "list",data:=.seq vs.toArray } (.lst (ns.map V.int))) else none) (fun b=>?_) (.inl (.inr ⟨{ cls:=.type "list",data:=.seq vs.toArray },if_pos rfl⟩)) (fun b u z=>?_) (fun b z=>?_) fun _=>hk
    · by_cases hb:b=a
      · exact .inr ⟨_,_,if_pos hb⟩
      · exact .inl (if_neg hb)
    · by_cases hb:b=a
      · have z':=(if_pos hb).symm.trans z;cases z';subst hb;exact ⟨ha,by rw [List.length_map];exact hl,vs,_,rv,ha⟩
      · have z':=(if_neg hb).symm.trans z;cases z'
    · by_cases hb:b=a
      · exact hb
      · exact absurd (if_neg hb) z
noncomputable def cU (s:Stmt):Arguments:=match s with
  | .FunctionDef _ a _ _ _ _ _ _ _ _=>a
  | _=>{ posonlyargs:=[],args:=[],vararg:=none,kwonlyargs:=[],kw_defaults:=[],kwarg:=none,defaults:=[] }
noncomputable def bZ (s:Stmt):List Stmt:=match s with
  | .FunctionDef _ _ b _ _ _ _ _ _ _=>b
  | _=>[]
noncomputable def am (s:Stmt):Scope:=match s with
  | .FunctionDef _ _ _ _ _ _ sc _ _ _=>sc
  | _=>{ kind:=.function,names:=[],isGenerator:=false,isCoroutine:=false }
noncomputable abbrev B7:vj:=fun _ _ _ _ _ _=>False
structure ip (K:PySem.W.Frag) (x qual:Str) (st:Stmt) (f:Addr) (fd:FuncData):Prop where
  ex:∃ (oc:Value) (od:Option Addr) (kV doc pm:Value) (an:Option Addr) (cdv ct:Value) (osl:Array (Option Value)),
    fd=PySem.W.fnOf x qual (cU st) (bZ st) (am st) .none kV doc pm an cdv ct/\K.lookup f=some ⟨oc,od,.func fd,osl⟩/\PySem.W.codeIn K cdv qual=true
  kp:PySem.W.keepIn K (.ref f)=true
section
variable {P:Program} {w:World} {K:PySem.W.Frag} {mg:Str->Option Value} {base:Heap}
theorem ip.ok {x qual:Str} {st:Stmt} {f:Addr} {fd:FuncData} {N ps:List Str} {k:Nat} {sp:Sp} (F:ip K x qual st f fd) (S:bn N ps (am st)) (len:∀ vs H Q E,sp vs H Q E->vs.length=ps.length)
    (hbody:∀ (cdv:Value) (A:Around) (outer:List Env) (s:Shared) (H:Hp) (vs:List V) (Q:VK) (E:XK),eS k (A.deeper (envOfC qual (am st) s.heap.objs.size f cdv))->sp vs H Q E ->
      ∃ t,nc (dS B7 P w K mg base N qual (am st) f cdv A outer s H E).nox (bZ st) t/\t { nx:=fun _ H'=>Q .non H',rt:=Q } (gA N vs) H):bC P w K mg base B7 (k+1) f fd ps sp:=by
  obtain ⟨oc,od,kV,doc,pm,an,cdv,ct,osl,rfl,lk,hcd⟩:=F.ex;refine xN lk hcd S len fun A outer s H vs Q E hr hsp=>?_
  obtain ⟨t,h,q⟩:=hbody cdv A outer s H vs Q E hr hsp;exact ⟨t,h.nox,q⟩
theorem ip.binds {x qual:Str} {st:Stmt} {f:Addr} {fd:FuncData} {ps:List Str} (F:ip K x qual st f fd)
    (h:∀ (kV doc pm:Value) (an:Option Addr) (cdv ct:Value) (us:List Value),us.length=ps.length->bindArgs (PySem.W.fnOf x qual (cU st) (bZ st) (am st) .none kV doc pm an cdv ct) ⟨us,[]⟩=pure (ps.zip us)):bV K fd ps []:=by
  obtain ⟨oc,od,kV,doc,pm,an,cdv,ct,osl,rfl,lk,hcd⟩:=F.ex;exact .all (h kV doc pm an cdv ct)
theorem tF {x qual:Str} {st:Stmt} {f:Addr} {oc:Value} {od an:Option Addr} {osl:Array (Option Value)} {kV doc pm cdv ct:Value} (l:K.lookup f=some ⟨oc,od,.func (PySem.W.fnOf x qual (cU st) (bZ st) (am st) .none kV doc pm an cdv ct),osl⟩)
    (c:PySem.W.codeIn K cdv qual=true) (k:PySem.W.keepIn K (.ref f)=true):ip K x qual st f (PySem.W.fnOf x qual (cU st) (bZ st) (am st) .none kV doc pm an cdv ct):=⟨⟨oc,od,kV,doc,pm,an,cdv,ct,osl,rfl,l,c⟩,k⟩
end
section
variable {X:Cx}
theorem pv (i:Nat) {x:Str} {pos:Pos} (hN:X.N[i]?=some x:=by rfl) (hv:zQ X.env.scope x:=by first | exact Or.inl rfl | exact Or.inr (Or.inl rfl) | exact Or.inr (Or.inr rfl)) (hd:(x==("__debug__" : Str))=false:=by decide)
    (hcd:(x==("__classdict__" : Str))=false:=by decide):PE X (.Name x pos) (Ap i):=gP hN hv hd hcd
end
noncomputable def ar (H H':Hp):Prop:=∀ b o,H b=some o->H' b=some o
theorem ar.refl (H:Hp):ar H H:=fun _ _ h=>h
theorem ar.trans {H H1 H2:Hp} (a:ar H H1) (b:ar H1 H2):ar H H2:=fun c o h=>b c o (a c o h)
theorem ar.free {H H':Hp} (e:ar H H') {l:Addr} (h:H' l=Option.none):H l=Option.none:=by
  cases q:H l with
  | none=>rfl
  | some o =>
    rw [e l o q] at h;cases h
section
variable {κ:Type} [DecidableEq κ]
noncomputable def ir (kvs:List (κ×V)) (k:κ):Option V:=(kvs.find? fun kv=>decide (kv.1=k)).map (·.2)
noncomputable def i9 (kvs:List (κ×V)) (k:κ) (v:V):List (κ×V) :=
  if (kvs.any fun kv=>decide (kv.1=k))=true then kvs.map (fun kv=>if kv.1=k then (kv.1,v) else kv) else kvs++[(k,v)]
theorem kg {p:κ×V} {r:List (κ×V)} {k:κ} (e:p.1=k):ir (p::r) k=some p.2:=by simp [ir,List.find?_cons,e]
theorem kG {p:κ×V} {r:List (κ×V)} {k:κ} (e:¬ p.1=k):ir (p::r) k=ir r k:=by simp [ir,List.find?_cons,e]
theorem o0 (k:κ):∀ kvs:List (κ×V),(kvs.any fun kv=>decide (kv.1=k))=(ir kvs k).isSome
  | []=>rfl
  | p::r=>by
    rw [List.any_cons];by_cases e:p.1=k
    · simp only [kg e,decide_eq_true e,Bool.true_or,Option.isSome_some]
    · rw [kG e,decide_eq_false e,Bool.false_or];exact o0 k r
theorem jR (kvs:List (κ×V)) (k:κ) (v:V):(i9 kvs k v).length<=kvs.length+1:=by
  unfold i9;split
  · rw [List.length_map];omega
  · rw [List.length_append,List.length_cons,List.length_nil];omega
theorem lr.isSome_eq {o:Option V} {u:Option Value} (r:lr o u):o.isSome=u.isSome:=by
  cases o with
  | none=>cases u with
    | none=>rfl
    | some _=>exact (show False from r).elim
  | some _=>cases u with
    | none=>exact (show False from r).elim
    | some _=>rfl
theorem KV.val {kvs:List (κ×V)} {vs:List (κ×Value)} (r:KV kvs vs) (k:κ):lr (ir kvs k) (valueAt vs k):=by
  unfold KV at r;induction r with
  | nil=>exact True.intro
  | @cons p q ps qs h t ih =>
    obtain ⟨h1,h2⟩:=h;by_cases e:p.1=k
    · have e':q.1=k:=h1.symm.trans e;have b:valueAt (q::qs) k=some q.2:=by simp [valueAt,List.find?_cons,e']
      rw [kg e,b];exact h2
    · have e':¬ q.1=k:=fun z=>e (h1.trans z)
      have b:valueAt (q::qs) k=valueAt qs k:=by simp [valueAt,List.find?_cons,e']
      rw [kG e,b];exact ih
theorem KV.any {kvs:List (κ×V)} {vs:List (κ×Value)} (r:KV kvs vs) (k:κ):(kvs.any fun kv=>decide (kv.1=k))=vs.any fun kv=>decide (kv.1=k):=by
  unfold KV at r;induction r with
  | nil=>rfl
  | cons h t ih=>rw [List.any_cons,List.any_cons,ih,h.1]
theorem KV.repl {kvs:List (κ×V)} {vs:List (κ×Value)} (r:KV kvs vs) (k:κ) {y:V} {u:Value} (ry:bw y u) :
    KV (kvs.map fun kv=>if kv.1=k then (kv.1,y) else kv) (vs.map fun kv=>if kv.1=k then (kv.1,u) else kv):=by
  unfold KV at r ⊢;induction r with
  | nil=>exact .nil
  | @cons p q ps qs h t ih =>
    rw [List.map_cons,List.map_cons];refine .cons ?_ ih;obtain ⟨h1,h2⟩:=h;by_cases e:p.1=k
    · rw [if_pos e,if_pos (h1.symm.trans e)];exact ⟨h1,ry⟩
    · rw [if_neg e,if_neg (fun z=>e (h1.trans z))];exact ⟨h1,h2⟩
theorem KV.put {kvs:List (κ×V)} {vs:List (κ×Value)} (r:KV kvs vs) (k:κ) {y:V} {u:Value} (ry:bw y u):KV (i9 kvs k y) (stored vs k u):=by
  unfold i9 stored;rw [r.any k];by_cases e:(vs.any fun kv=>decide (kv.1=k))=true
  · rw [if_pos e,if_pos e];exact r.repl k ry
  · rw [if_neg e,if_neg e];exact Paired.snoc r ⟨rfl,ry⟩
theorem KV.keys {kvs:List (κ×V)} {vs:List (κ×Value)} (r:KV kvs vs):kvs.map (·.1)=vs.map (·.1):=by
  unfold KV at r;induction r with
  | nil=>rfl
  | cons h t ih=>rw [List.map_cons,List.map_cons,ih,h.1]
theorem KV.length {kvs:List (κ×V)} {vs:List (κ×Value)} (r:KV kvs vs):kvs.length=vs.length:=Paired.length r
end
theorem nK {P:Program} {w:World} {k:cC} {u:Value} (r:bw (kV k) u):(cE P w).is k u=true:=by
  cases k with
  | inl i=>obtain ⟨t,e⟩:=(show ∃ t,u=Value.int i t from r);subst e;exact oX P w i t
  | inr x=>obtain ⟨t,e⟩:=(show ∃ t,u=Value.str x t from r);subst e;exact oV P w x t
theorem lW {P:Program} {w:World}:∀ {ks:List cC} {us:List Value},bi (ks.map kV) us->ItemsAre (cE P w) ks us
  | [],_,r=>by rw [List.map_nil] at r;cases r;exact .nil
  | k::ks,_,r=>by
    rw [List.map_cons] at r;cases r with
    | cons h t=>exact .cons (nK h) (lW t)
noncomputable abbrev KT (H:Hp):List (List cC×V)->List (List cC×Addr×Value)->Prop:=Paired fun p q=>p.1=q.1/\H q.2.1=some (.tup (p.1.map kV))/\bw p.2 q.2.2
theorem KT.val {H:Hp} {kvs:List (List cC×V)} {xs:List (List cC×Addr×Value)} (r:KT H kvs xs) (k:List cC):lr (ir kvs k) ((atKey xs k).map (·.2)):=by
  induction r with
  | nil=>exact True.intro
  | @cons p q ps qs h t ih =>
    obtain ⟨h1,_,h2⟩:=h;by_cases e:p.1=k
    · have e':q.1=k:=h1.symm.trans e;have b:atKey (q::qs) k=some q.2:=by simp [atKey,List.find?_cons,e']
      rw [kg e,b];exact h2
    · have e':¬ q.1=k:=fun z=>e (h1.trans z)
      have b:atKey (q::qs) k=atKey qs k:=by simp [atKey,List.find?_cons,e']
      rw [kG e,b];exact ih
theorem KT.repl {H:Hp} {kvs:List (List cC×V)} {xs:List (List cC×Addr×Value)} (r:KT H kvs xs) (k:List cC) {y:V} {u:Value} (ry:bw y u) :
    KT H (kvs.map fun kv=>if kv.1=k then (kv.1,y) else kv) (xs.map (putAt k u)):=by
  induction r with
  | nil=>exact .nil
  | @cons p q ps qs h t ih =>
    rw [List.map_cons,List.map_cons];refine .cons ?_ ih;obtain ⟨h1,h2,h3⟩:=h;unfold putAt;by_cases e:p.1=k
    · rw [if_pos e,if_pos (h1.symm.trans e)];exact ⟨h1,h2,ry⟩
    · rw [if_neg e,if_neg (fun z=>e (h1.trans z))];exact ⟨h1,h2,h3⟩
theorem KT.put {H:Hp} {kvs:List (List cC×V)} {xs:List (List cC×Addr×Value)} (r:KT H kvs xs) (k:List cC) {b:Addr} {y:V} {u:Value} (hb:H b=some (.tup (k.map kV))) (ry:bw y u) :
    KT H (i9 kvs k y) (storedH xs k b u):=by
  have e:(kvs.any fun kv=>decide (kv.1=k))=(atKey xs k).isSome:=by
    rw [o0,(r.val k).isSome_eq,Option.isSome_map]
  unfold i9 storedH;rw [e];by_cases q:(atKey xs k).isSome=true
  · rw [if_pos q,if_pos q];exact r.repl k ry
  · rw [if_neg q,if_neg q];exact Paired.snoc r ⟨rfl,hb,ry⟩
theorem KT.keeps {H H':Hp} {kvs:List (List cC×V)} {xs:List (List cC×Addr×Value)} (r:KT H kvs xs) (ht:∀ b ys,H b=some (.tup ys)->H' b=some (.tup ys)):KT H' kvs xs :=
  Paired.mapP r fun _ _ z=>⟨z.1,ht _ _ z.2.1,z.2.2⟩
section
variable {P:Program} {w:World} {H:Hp} {h:Heap} {a:Addr}
theorem x5 {u:HO} (ok:fZ P w H h) (e:Rd H a u):bS P w H h a u:=e.ok ok
theorem ky {kvs:List (cC×V)} (ok:fZ P w H h) (e:Rd H a (.dK kvs)):kvs.length<=sizeLine/\(a==sysModules)=false/\∃ vs,KV kvs vs/\h.DictOf (cE P w) a vs :=
  show bS P w H h a (.dK kvs) from x5 ok e
theorem AT {kvs:List (cC×V)} (ok:fZ P w H h) (e:H a=some (.dK kvs)):kvs.length<=sizeLine/\(a==sysModules)=false/\∃ vs,KV kvs vs/\h.DictOf (cE P w) a vs:=ky ok (.inl e)
theorem ku {ks:List cC} (ok:fZ P w H h) (e:H a=some (.tup (ks.map kV))):(tupleKind (cE P w)).is h ks a:=by
  obtain ⟨_,its,r,o,h1,h2,n,h3⟩:=(show bS P w H h a (.tup (ks.map kV)) from ok a _ e)
  exact ⟨o,its.toArray,n,h1,h2,h3,by simpa using lW r⟩
theorem oY {kvs:List (List cC×V)} (ok:fZ P w H h) (e:Rd H a (.dT kvs)):kvs.length<=sizeLine/\(a==sysModules)=false /\
    ∃ xs,KT H kvs xs/\h.DictOfH (tupleKind (cE P w)) a xs:=by
  obtain ⟨z,y,xs,r,o,es,ep,h1,h2,h3,h4,h5⟩:=(show bS P w H h a (.dT kvs) from x5 ok e)
  refine ⟨z,y,xs,r,o,es,ep,h1,h2,h3,h4,fun x hx=>?_,h5⟩;have all:∀ {l:List (List cC×V)} {m:List (List cC×Addr×Value)},KT H l m->∀ x∈m,(tupleKind (cE P w)).is h x.1 x.2.1:=by
    intro l m q;induction q with
    | nil=>intro x hx;exact nomatch hx
    | @cons p q ps qs hq t ih =>
      intro x hx;rcases List.mem_cons.mp hx with e | hx
      · subst e;exact ku ok (by rw [<- hq.1];exact hq.2.1)
      · exact ih x hx
  exact all r x hx
theorem z7 {kvs:List (List cC×V)} (ok:fZ P w H h) (e:H a=some (.dT kvs)):kvs.length<=sizeLine/\(a==sysModules)=false /\
    ∃ xs,KT H kvs xs/\h.DictOfH (tupleKind (cE P w)) a xs:=oY ok (.inl e)
end
noncomputable def kL (H:Hp) (a:Addr) (y:V) (r:Option V):Prop :=
  (∃ kvs k,Rd H a (.dK kvs)/\y=kV k/\r=ir kvs k)\/∃ kvs k b,Rd H a (.dT kvs)/\y=.ref b/\H b=some (.tup (k.map kV))/\r=ir kvs k
noncomputable def po (H:Hp) (a:Addr) (y v:V) (H':Hp):Prop :=
  (∃ kvs k,H a=some (.dK kvs)/\y=kV k/\kvs.length < sizeLine/\H'=cr H a (.dK (i9 kvs k v))) \/
  ∃ kvs k b,H a=some (.dT kvs)/\y=.ref b/\H b=some (.tup (k.map kV))/\kvs.length < sizeLine/\H'=cr H a (.dT (i9 kvs k v))
theorem kL.k {H:Hp} {a:Addr} {kvs:List (cC×V)} {k:cC} (e:H a=some (.dK kvs)):kL H a (kV k) (ir kvs k):=.inl ⟨kvs,k,.inl e,rfl,rfl⟩
theorem kL.t {H:Hp} {a b:Addr} {kvs:List (List cC×V)} {k:List cC} (e:H a=some (.dT kvs)) (eb:H b=some (.tup (k.map kV))):kL H a (.ref b) (ir kvs k):=.inr ⟨kvs,k,b,.inl e,rfl,eb,rfl⟩
theorem po.k {H:Hp} {a:Addr} {kvs:List (cC×V)} {k:cC} {v:V} (e:H a=some (.dK kvs)) (hl:kvs.length < sizeLine):po H a (kV k) v (cr H a (.dK (i9 kvs k v))):=.inl ⟨kvs,k,e,rfl,hl,rfl⟩
theorem po.t {H:Hp} {a b:Addr} {kvs:List (List cC×V)} {k:List cC} {v:V} (e:H a=some (.dT kvs)) (eb:H b=some (.tup (k.map kV))) (hl:kvs.length < sizeLine) :
    po H a (.ref b) v (cr H a (.dT (i9 kvs k v))):=.inr ⟨kvs,k,b,e,rfl,eb,hl,rfl⟩
section
variable {X:Cx} {pins:List (Addr×Obj)} {σ:St} {H:Hp} {s:Shared} {a:Addr} {y v:V} {u r:Value} {o:Option V} {A:Around} {E:Value->Shared->Prop}
theorem az.big (I:az X pins σ H s):sysModules < s.heap.objs.size:=by
  have h:mainGlobals < s.heap.objs.size:=(I.mod.glob.keeps I.bk).lt;exact Nat.lt_trans (by decide) h
theorem rN {Q:Value->Shared->Prop} (hu:A.units+1 < cLine) (I:az X pins σ H s) (g:kL H a y (some v)) (ry:bw y u) (h:∀ w' s',az X pins σ H s'->bw v w'->Q w' s') :
    wpAny (model X.prog X.w) A (getItem (.ref a) u) Q E s:=by
  rcases g with ⟨kvs,k,e,ey,l⟩ | ⟨kvs,k,b,e,ey,eb,l⟩
  · subst ey;obtain ⟨z,hd,vs,rel,dd⟩:=ky I.hok e;obtain ⟨w',hw,rw'⟩:=lr.some_of (v:=v) (o:=valueAt vs k) (by rw [l];exact rel.val k);exact wpAny_getItem_of (nK ry) dd.mapOf hw (h w' _ (I.tok _) rw')
  · subst ey;cases (show u=Value.ref b from ry);obtain ⟨z,hd,xs,rel,dd⟩:=oY I.hok e;obtain ⟨w',hw,rw'⟩:=lr.some_of (v:=v) (o:=(atKey xs k).map (·.2)) (by rw [l];exact rel.val k);obtain ⟨p,hp,hp2⟩:=Option.map_eq_some_iff.mp hw;refine wpAny_getItem_heap (tupleKind_room_in1 hu) (ku I.hok eb) dd hp ?_;rw [hp2];exact h w' _ (I.tok _) rw'
theorem BM {Q:Value->Shared->Prop} (hu:A.units+1 < cLine) (I:az X pins σ H s) (g:kL H a y o) (ry:bw y u) (h:∀ s',az X pins σ H s'->Q (.bool o.isSome) s') :
    wpAny (model X.prog X.w) A (compareOp .In u (.ref a)) Q E s:=by
  rcases g with ⟨kvs,k,e,ey,l⟩ | ⟨kvs,k,b,e,ey,eb,l⟩
  · subst ey;obtain ⟨z,hd,vs,rel,dd⟩:=ky I.hok e;refine wpAny_in_of (nK ry) hd dd.mapOf ?_;rw [<- (rel.val k).isSome_eq,<- l];exact h _ (I.tok _)
  · subst ey;cases (show u=Value.ref b from ry);obtain ⟨z,hd,xs,rel,dd⟩:=oY I.hok e;refine wpAny_in_heap (tupleKind_room_in1 hu) (ku I.hok eb) hd dd ?_;have q:=(rel.val k).isSome_eq;rw [Option.isSome_map] at q;rw [<- q,<- l];exact h _ (I.tok _)
theorem wX {Q:Value->Shared->Prop} (hu:A.units+1 < cLine) (I:az X pins σ H s) (g:kL H a y o) (ry:bw y u) (h:∀ s',az X pins σ H s'->Q (.bool (!o.isSome)) s') :
    wpAny (model X.prog X.w) A (compareOp .NotIn u (.ref a)) Q E s:=by
  rcases g with ⟨kvs,k,e,ey,l⟩ | ⟨kvs,k,b,e,ey,eb,l⟩
  · subst ey;obtain ⟨z,hd,vs,rel,dd⟩:=ky I.hok e;refine wpAny_notIn_of (nK ry) hd dd.mapOf ?_;rw [<- (rel.val k).isSome_eq,<- l];exact h _ (I.tok _)
  · subst ey;cases (show u=Value.ref b from ry);obtain ⟨z,hd,xs,rel,dd⟩:=oY I.hok e;refine wpAny_notIn_heap (tupleKind_room_in1 hu) (ku I.hok eb) hd dd ?_;have q:=(rel.val k).isSome_eq;rw [Option.isSome_map] at q;rw [<- q,<- l];exact h _ (I.tok _)
theorem qx {h':Heap} {t':Nat} {ob:HO} (I:az X pins σ H s) (mu:Ak (H a)) (hs:Heap.SameBut a s.heap h') (he:∃ q,h'.get? a=some q) (new:bS X.prog X.w (cr H a ob) h' a ob) :
    az X pins σ (cr H a ob) { s with heap:=h',toks:=t' } :=
  I.write (x:=a) (e:=a) mu (.inl rfl) (fun b q hb z=>(hs.2 b hb).trans z) he new
theorem za {P:Program} {w:World} {H':Hp} {h':Heap} {kvs:List (cC×V)} {vs:List (cC×Value)} (z:kvs.length<=sizeLine) (hd:(a==sysModules)=false) (rel:KV kvs vs) (dd:h'.DictOf (cE P w) a vs) :
    bS P w H' h' a (.dK kvs):=⟨z,hd,vs,rel,dd⟩
theorem sg {H':Hp} {Q:Unit->Shared->Prop} (hu:A.units+1 < cLine) (I:az X pins σ H s) (g:po H a y v H') (ry:bw y u) (rv:bw v r) (h:∀ s',az X pins σ H' s'->Q () s') :
    wpAny (model X.prog X.w) A (setItem (.ref a) u r) Q E s:=by
  rcases g with ⟨kvs,k,e,ey,l,eH⟩ | ⟨kvs,k,b,e,ey,eb,l,eH⟩
  · subst ey eH;obtain ⟨z,hd,vs,rel,dd⟩:=AT I.hok e;have hz:vs.length<=sizeLine:=by rw [<- rel.length];exact z
    have hl:(i9 kvs k v).length<=sizeLine:=by have:=jR kvs k v;omega
    refine wpAny_setItem_pairs (hsz:=hz) (nK ry) dd fun h' dd' hs=>h _ ?_
    have he:∃ q,h'.get? a=some q:=let ⟨q,_,_,hq,_⟩:=dd';⟨q,hq⟩
    exact qx I (by rw [e];exact True.intro) hs he (za hl hd (rel.put k rv) dd')
  · subst ey eH;cases (show u=Value.ref b from ry);obtain ⟨z,hd,xs,rel,dd⟩:=z7 I.hok e;have hz:xs.length<=sizeLine:=by rw [<- Paired.length rel];exact z
    have hl:(i9 kvs k v).length<=sizeLine:=by have:=jR kvs k v;omega
    refine wpAny_setItem_heap (hsz:=hz) (tupleKind_room_in1 hu) (ku I.hok eb) dd fun h' dd' hs=>h _ ?_
    obtain ⟨q,es,ep,hq,h2,h3,h4,_,h5⟩:=dd';refine qx I (by rw [e];exact True.intro) hs ⟨q,hq⟩ ⟨hl,hd,_,(rel.put k eb rv).keeps fun c ys ec=>?_,q,es,ep,hq,h2,h3,h4,h5⟩;rw [ay (z9 ec e (fun z=>nomatch z))];exact ec
end
section
variable {X:Cx} {pins:List (Addr×Obj)} {σ:St} {H:Hp} {s:Shared} {a:Addr} {kvs:List (cC×V)} {k:cC} {u:Value} {A:Around} {E:Value->Shared->Prop}
theorem An {Q:Value->Shared->Prop} (I:az X pins σ H s) (e:Rd H a (.dK kvs)) (h:∀ t s',az X pins σ H s'->Q (.int kvs.length t) s'):wpAny (model X.prog X.w) A (call (.builtin "len") [.ref a]) Q E s:=by
  obtain ⟨z,hd,vs,rel,dd⟩:=ky I.hok e;refine call_len_dict hd dd (by rw [<- rel.length];rw [sizeLine_eq] at z;omega) ?_;rw [<- rel.length];exact h _ _ (I.tok _)
end
theorem nJ {X:Cx} {pins:List (Addr×Obj)} {σ:St} {H:Hp} {s:Shared} {a:Addr} {y:V} {o:Option V} (I:az X pins σ H s) (g:kL H a y o):s.TypeIs (.ref a) "dict" := by
  rcases g with ⟨kvs,k,e,_,_⟩ | ⟨kvs,k,b,e,_,_,_⟩
  · obtain ⟨_,_,vs,_,dd⟩:=ky I.hok e;exact dd.typeIs
  · obtain ⟨_,_,xs,_,dd⟩:=oY I.hok e;exact dd.typeIs
noncomputable def Af (td ty tv:TE):TS:=fun D σ H=>tv σ H fun v H1=>td σ H1 fun x H2=>ty σ H2 fun y H3=>∃ a H4,x=.ref a/\po H3 a y v H4/\D.nx σ H4
section
variable {X:Cx} {o i e value:Expr} {pos pos' tpos:Pos} {td ty tv:TE}
theorem vU (hu:X.A.units+1 < cLine) (ho:PE X o td) (hi:PE X i ty) (hv:PE X value tv) (hs:swapsWith value (some (.Subscript o i pos')) pos.line X.env=pure false) :
    PS X (.Assign [.Subscript o i pos'] value pos) (Af td ty tv):=by
  intro pins s σ H D I h;refine wpAny_Assign_Subscript (cS (hv pins s σ H _ I h) fun r s1 ⟨v,H1,I1,rv,q1⟩=>cS (ho pins s1 σ H1 _ I1 q1) fun u s2 ⟨x,H2,I2,rx,q2⟩=>cS (hi pins s2 σ H2 _ I2 q2) fun iv s3 ⟨y,H3,I3,ry,a,H4,ex,g,q3⟩=>?_) hs;subst ex;obtain rfl:u=Value.ref a:=rx;exact sg hu I3 g ry rv fun s4 I4=>⟨σ,H4,I4,q3⟩
end
theorem tG {P:Program} {w:World} {H:Hp} (h:Heap) (hb:sysModules < h.objs.size):bS P w H (h.push { cls:=.type "dict",data:=.dict #[] }) h.objs.size (.dK []) :=
  ⟨Nat.zero_le _,beq_eq_false_iff_ne.mpr (Ne.symm (Nat.ne_of_lt hb)),[],.nil,Heap.DictOf.new h⟩
noncomputable def zI:TE:=fun _ H Q=>∀ p,H p=none->Q (.ref p) (cr H p (.dK []))
section
variable {X:Cx} {pos:Pos}
theorem uw:PE X (.Dict [] [] pos) zI:=fun pins s σ H Q I h =>
  wpAny_Dict_empty ⟨.ref s.heap.objs.size,_,I.laid (a:=s.heap.objs.size) (o:=.dK []) (t':=s.toks) (fun _ _ q=>Heap.get?_push_of_some _ q) (Nat.le_refl _) (tG s.heap I.big),rfl,h _ (I.hok.fresh (Nat.le_refl _))⟩
end
end L2
set_option maxHeartbeats 4000000
namespace D2
open PySem PySem.Spec PyProof.Rows L2
noncomputable def oj (base:Heap) (l:List Env) (e:Addr) (cls a0:Value) (h:Heap):Prop:=base.StaysIn h/\base.get? e=none/\h.FunFrames base l/\∃ fl,h.TracedAtW base e cls a0 fl
theorem oj.of {base h:Heap} {l:List Env} {e:Addr} {cls a0:Value} (x:Heap.FlyingW base l e cls a0 h):oj base l e cls a0 h:=⟨x.1,x.2.1,x.2.2.1,.none,x.2.2.2⟩
section
variable {M:Model} {A:Around} {E:Value->Shared->Prop} {s:Shared} {base:Heap} {l:List Env} {env:Env} {outer:List Env} {L e:Addr} {cls a0:Value} {Q:Unit->Shared->Prop}
theorem wL {h:Heap}:h.UpToSlots h:=fun b o hb _=>⟨o.slots,hb⟩
theorem oP (hfr:A.frames=some (env::outer)) (hf:env.frame=some L) (t:oj base (env::outer) e cls a0 s.heap)
    (hQ:∀ h',oj base (env::outer) e cls a0 h'->s.heap.UpToSlots h'->Q () { s with heap:=h' }):wpAny M A (noteFrame (.ref e) env) Q E s:=by
  have t':=t;obtain ⟨hkb,hen,hl,fl,oe,vs,T,oT,ts,he,⟨hcls,h0⟩,hd,h1,hnT,hTe,hT,hdT,h3⟩:=t;subst hcls;unfold noteFrame;simp only [hf];refine wpAny_bind (wpAny_field he hd h1 ?_);rw [if_pos (show (Value.ref T != Value.none)=true from by simp)];refine wpAny_bind (wpAny_field hT hdT h3 ?_);by_cases hfl:(fl==rawInt L)=true
  · rw [if_pos hfl];exact wpAny_pure (hQ s.heap t' wL)
  · rw [if_neg hfl];refine wpAny_bind (wpAny_setField hT hdT (Array.getElem?_eq_some_iff.mp h3).1 ?_);have other:∀ b,b≠T->(s.heap.update T (Obj.mapFields (·.setIfInBounds 3 Value.none))).get? b=s.heap.get? b:=fun b hb=>Heap.get?_update_other _ _ (Ne.symm hb)
    have noRecord:∀ b o,s.heap.get? b=some o->(∀ vs,o.data≠.fields vs)->b≠T:=fun b o hb hnf q=>by
      rw [q,hT] at hb;injection hb with hb;subst hb;exact hnf ts hdT
    refine wpAny_entryW hfr (hl.of_keeps fun b o hb hnf=>⟨o,(other b (noRecord b o hb hnf)).trans hb,rfl⟩) hf ((other e (Ne.symm hTe)).trans he)
      (fun b o hbo=>(other b fun q=>by rw [q,hnT] at hbo;cases hbo).trans (hkb b o hbo)) hen hd (Array.getElem?_eq_some_iff.mp h1).1 h0
      fun h' ⟨x1,x2,x3,x4⟩=>hQ h' ⟨x1,hen,x2,_,x3⟩ fun b o hb hnf=>x4 b o ((other b (noRecord b o hb hnf)).trans hb) hnf
theorem qj (f:Option Addr) (t:oj base l e cls a0 s.heap) (hQ:∀ h',oj base l e cls a0 h'->s.heap.UpToSlots h'->Q () { s with heap:=h' }):wpAny M A (setFlight (.ref e) f) Q E s:=by
  obtain ⟨hkb,hen,hl,fl,oe,vs,T,oT,ts,he,hcls,hd,h1,hnT,hTe,hT,hdT,h3⟩:=t;have hsz3:3 < ts.size:=(Array.getElem?_eq_some_iff.mp h3).1;have other:∀ b,b≠T->(s.heap.update T (Obj.mapFields (·.setIfInBounds 3 (f.elim Value.none fun f=>rawInt f)))).get? b=s.heap.get? b :=
    fun b hb=>Heap.get?_update_other _ _ (Ne.symm hb)
  have noRecord:∀ b o,s.heap.get? b=some o->(∀ vs,o.data≠.fields vs)->b≠T:=fun b o hb hnf q=>by
    rw [q,hT] at hb;injection hb with hb;subst hb;exact hnf ts hdT
  unfold setFlight;refine wpAny_bind (wpAny_field he hd h1 ?_);rw [if_pos (show (Value.ref T != Value.none)=true from by simp)];refine wpAny_setField hT hdT hsz3 (hQ _ ⟨fun b o hbo=>(other b fun q=>by rw [q,hnT] at hbo;cases hbo).trans (hkb b o hbo),hen,
    hl.of_keeps fun b o hb hnf=>⟨o,(other b (noRecord b o hb hnf)).trans hb,rfl⟩,(f.elim Value.none fun f=>rawInt f),?_⟩ fun b o hb hnf=>⟨o.slots,(other b (noRecord b o hb hnf)).trans hb⟩)
  exact ⟨oe,vs,T,_,_,(other e (Ne.symm hTe)).trans he,hcls,hd,h1,hnT,hTe,Heap.get?_update_self _ hT (Obj.isFreed_of_fields (Obj.data_mapFields hdT _)),Obj.data_mapFields hdT _,by simp [hsz3]⟩
theorem vn (t:oj base l e cls a0 s.heap) (hQ:∀ h',Heap.FlyingW base l e cls a0 h'->s.heap.UpToSlots h'->Q () { s with heap:=h' }):wpAny M A (setFlight (.ref e) none) Q E s:=by
  obtain ⟨hkb,hen,hl,fl,ht⟩:=t;exact wpAny_setFlight_noneW hkb hl ht fun h' k1 k2 k3 k4=>hQ h' ⟨k1,hen,k2,k3⟩ fun b o hb hn=>⟨o.slots,k4 b o hb hn⟩
theorem sG (hfr:A.frames=some (env::outer)) (hf:env.frame=some L) (t:oj base (env::outer) e cls a0 s.heap)
    (hQ:∀ h',Heap.FlyingW base outer e cls a0 h'->s.heap.UpToSlots h'->Q () { s with heap:=h' }):wpAny M A (leaving env (.ref e)) Q E s:=by
  unfold leaving;refine wpAny_bind (oP hfr hf t fun h1 t1 u1=>?_);refine vn (s:={ s with heap:=h1 }) t1 fun h2 t2 u2=>?_
  obtain ⟨k1,k2,⟨_,_,k3⟩,k4⟩:=t2;exact hQ h2 ⟨k1,k2,k3,k4⟩ (u1.trans u2)
theorem u5 {α:Type} {k:Value->Sem α} {Q:α->Shared->Prop} (t:oj base l e cls a0 s.heap) (hQ:∀ T,wpAny M A (k (.ref T)) Q E s):wpAny M A (field (.ref e) 1>>=k) Q E s:=by
  obtain ⟨hkb,hen,hl,fl,oe,vs,T,oT,ts,he,hcls,hd,h1,r⟩:=t;exact wpAny_bind (wpAny_field he hd h1 (hQ T))
theorem uk {α:Type} {what:String} {Q:α->Shared->Prop} (t:oj base l e cls a0 s.heap) (hQ:∀ h',oj base l e cls a0 h'->s.heap.UpToSlots h'->E (.ref e) { s with heap:=h' }):wpAny M A (PySem.passOn what (.ref e) env:Sem α) Q E s:=by
  unfold PySem.passOn;refine u5 t fun T=>?_
  rw [if_neg (show ¬ ((Value.ref T==Value.none)=true) from by simp)];refine wpAny_bind (qj _ t fun h' t' u=>?_);exact wpAny_throw (hQ h' t' u)
theorem oj.first {h:Heap} (x:oj base l e cls a0 h):∃ oe vs,h.get? e=some oe/\oe.cls=cls/\oe.data=.fields vs/\vs[0]?=some a0 :=
  let ⟨_,_,_,_,oe,vs,_,_,_,he,hc,hd,_⟩:=x;⟨oe,vs,he,hc.1,hd,hc.2⟩
end
noncomputable abbrev St:=L2.St
noncomputable abbrev az:=@L2.az
noncomputable def eh:cC->PyData
  | .inl i=>.int i
  | .inr x=>.str x
mutual
noncomputable def Rp (H:Hp):PyData->V->Prop
  | .none,v=>v=.non
  | .bool b,v=>v=.bl b
  | .int i,v=>v=.int i
  | .str x,v=>v=.str x
  | .tuple ds,v=>∃ a vs,v=.ref a/\H a=some (.tup vs)/\bd H ds vs
  | .list ds,v=>∃ a o vs,v=.ref a/\H a=some (.frz o (.lst vs))/\bd H ds vs
  | .dict kvs,v=>(∃ a o ks,v=.ref a/\H a=some (.frz o (.dK ks))/\da H kvs ks)\/∃ a o C dx fs,v=.ref a/\H a=some (.frz o (.ins C dx fs))/\vK H C fs kvs
noncomputable def bd (H:Hp):List PyData->List V->Prop
  | [],vs=>vs=[]
  | d::ds,vs=>∃ v r,vs=v::r/\Rp H d v/\bd H ds r
noncomputable def da (H:Hp):List (PyData×PyData)->List (cC×V)->Prop
  | [],ks=>ks=[]
  | kd::kvs,ks=>∃ x v r,ks=(x,v)::r/\wl H kd x v/\da H kvs r
noncomputable def wl (H:Hp):PyData×PyData->cC->V->Prop
  | (k,d),x,v=>k=eh x/\Rp H d v
noncomputable def vK (H:Hp) (C:Addr) (fs:List (Str×V)):List (PyData×PyData)->Prop
  | []=>False
  | kd::kvs=>kd=(.none,.int C)/\xl H kvs fs
noncomputable def xl (H:Hp):List (PyData×PyData)->List (Str×V)->Prop
  | [],fs=>fs=[]
  | kd::kvs,fs=>∃ x v r,fs=(x,v)::r/\zO H kd x v/\xl H kvs r
noncomputable def zO (H:Hp):PyData×PyData->Str->V->Prop
  | (k,d),x,v=>k=.str x/\Rp H d v
end
noncomputable def lP:List (PyData×PyData)->Bool
  | (.none,_)::_=>true
  | _=>false
noncomputable def Kp (H H':Hp):Prop:=(∀ b xs,H b=some (.tup xs)->H' b=some (.tup xs))/\∀ b o u,H b=some (.frz o u)->H' b=some (.frz o u)
theorem Kp.trans {H H1 H2:Hp} (a:Kp H H1) (b:Kp H1 H2):Kp H H2:=⟨fun c xs h=>b.1 c xs (a.1 c xs h),fun c o u h=>b.2 c o u (a.2 c o u h)⟩
theorem Kp.of {H H':Hp} (s:ar H H'):Kp H H':=⟨fun b xs h=>s b _ h,fun b o u h=>s b _ h⟩
mutual
theorem Rp.kp {H H':Hp} (k:Kp H H'):∀ (d:PyData) (v:V),Rp H d v->Rp H' d v
  | .none,v,h=>by simpa only [Rp] using h
  | .bool b,v,h=>by simpa only [Rp] using h
  | .int i,v,h=>by simpa only [Rp] using h
  | .str x,v,h=>by simpa only [Rp] using h
  | .tuple ds,v,h=>by
    simp only [Rp] at h ⊢;obtain ⟨a,vs,e,ha,r⟩:=h;exact ⟨a,vs,e,k.1 _ _ ha,bd.kp k ds vs r⟩
  | .list ds,v,h=>by
    simp only [Rp] at h ⊢;obtain ⟨a,o,vs,e,ha,r⟩:=h;exact ⟨a,o,vs,e,k.2 _ _ _ ha,bd.kp k ds vs r⟩
  | .dict kvs,v,h=>by
    simp only [Rp] at h ⊢;rcases h with ⟨a,o,ks,e,ha,r⟩ | ⟨a,o,C,dx,fs,e,ha,r⟩
    · exact .inl ⟨a,o,ks,e,k.2 _ _ _ ha,da.kp k kvs ks r⟩
    · exact .inr ⟨a,o,C,dx,fs,e,k.2 _ _ _ ha,vK.kp k C fs kvs r⟩
theorem bd.kp {H H':Hp} (k:Kp H H'):∀ (ds:List PyData) (vs:List V),bd H ds vs->bd H' ds vs
  | [],vs,h=>by simpa only [bd] using h
  | d::ds,vs,h=>by
    simp only [bd] at h ⊢;obtain ⟨v,r,e,h1,h2⟩:=h;exact ⟨v,r,e,Rp.kp k d v h1,bd.kp k ds r h2⟩
theorem da.kp {H H':Hp} (k:Kp H H'):∀ (kvs:List (PyData×PyData)) (ks:List (cC×V)),da H kvs ks->da H' kvs ks
  | [],ks,h=>by simpa only [da] using h
  | kd::kvs,ks,h=>by
    simp only [da] at h ⊢;obtain ⟨x,v,r,e,h1,h2⟩:=h;exact ⟨x,v,r,e,wl.kp k kd x v h1,da.kp k kvs r h2⟩
theorem wl.kp {H H':Hp} (k:Kp H H'):∀ (kd:PyData×PyData) (x:cC) (v:V),wl H kd x v->wl H' kd x v
  | (c,d),x,v,h=>by
    simp only [wl] at h ⊢;exact ⟨h.1,Rp.kp k d v h.2⟩
theorem vK.kp {H H':Hp} (k:Kp H H') (C:Addr) (fs:List (Str×V)):∀ (kvs:List (PyData×PyData)),vK H C fs kvs->vK H' C fs kvs
  | [],h=>by simpa only [vK] using h
  | kd::kvs,h=>by
    simp only [vK] at h ⊢;exact ⟨h.1,xl.kp k kvs fs h.2⟩
theorem xl.kp {H H':Hp} (k:Kp H H'):∀ (kvs:List (PyData×PyData)) (fs:List (Str×V)),xl H kvs fs->xl H' kvs fs
  | [],fs,h=>by simpa only [xl] using h
  | kd::kvs,fs,h=>by
    simp only [xl] at h ⊢;obtain ⟨x,v,r,e,h1,h2⟩:=h;exact ⟨x,v,r,e,zO.kp k kd x v h1,xl.kp k kvs r h2⟩
theorem zO.kp {H H':Hp} (k:Kp H H'):∀ (kd:PyData×PyData) (x:Str) (v:V),zO H kd x v->zO H' kd x v
  | (c,d),x,v,h=>by
    simp only [zO] at h ⊢;exact ⟨h.1,Rp.kp k d v h.2⟩
end
theorem Rp.mono {H H':Hp} {d:PyData} {v:V} (h:Rp H d v) (s:ar H H'):Rp H' d v:=Rp.kp (Kp.of s) d v h
theorem bd.mono {H H':Hp} {ds:List PyData} {vs:List V} (h:bd H ds vs) (s:ar H H'):bd H' ds vs:=bd.kp (Kp.of s) ds vs h
noncomputable def gF (H:Hp):PyData->V->Prop
  | .list ds,v=>∃ a vs,v=.ref a/\H a=some (.lst vs)/\bd H ds vs
  | .dict kvs,v=>∃ a ks,v=.ref a/\H a=some (.dK ks)/\da H kvs ks
  | _,_=>False
theorem gF.mono {H H':Hp} {d:PyData} {v:V} (h:gF H d v) (s:ar H H'):gF H' d v:=by
  cases d <;> simp only [gF] at h ⊢
  · obtain ⟨a,vs,e,ha,r⟩:=h;exact ⟨a,vs,e,s _ _ ha,bd.mono r s⟩
  · obtain ⟨a,vs,e,ha,r⟩:=h;exact ⟨a,vs,e,s _ _ ha,da.kp (Kp.of s) _ _ r⟩
noncomputable def fY (H:Hp) (d:PyData) (v:V):Prop:=Rp H d v\/gF H d v
theorem fY.mono {H H':Hp} {d:PyData} {v:V} (h:fY H d v) (s:ar H H'):fY H' d v:=h.elim (fun h=>.inl (h.mono s)) fun h=>.inr (h.mono s)
noncomputable def zU (H H':Hp) (d:PyData) (v:V):Prop:=gF H' d v/\∃ a,v=.ref a/\H a=none
inductive bm where
  | non
  | val (d:PyData)
  | own (d:PyData)
  | exc (p:Addr)
noncomputable abbrev aD:=List bm
noncomputable def g9 (H:Hp):bm->Option V->Prop
  | .non,_=>True
  | .val d,o=>∃ v,o=some v/\Rp H d v
  | .own d,o=>∃ v,o=some v/\gF H d v
  | .exc p,o=>o=some (.ref p)
noncomputable def Sl (H:Hp) (σ:St) (ρ:aD):Prop:=σ.length=ρ.length/\∀ (i:Nat) (c:bm) (o:Option V),ρ[i]?=some c->σ[i]?=some o->g9 H c o
theorem g9.mono {H H':Hp} {c:bm} {o:Option V} (h:g9 H c o) (s:ar H H'):g9 H' c o:=by
  cases c <;> simp only [g9] at h ⊢
  · obtain ⟨v,e,h⟩:=h;exact ⟨v,e,h.mono s⟩
  · obtain ⟨v,e,h⟩:=h;exact ⟨v,e,h.mono s⟩
  · exact h
theorem Sl.mono {H H':Hp} {σ:St} {ρ:aD} (h:Sl H σ ρ) (s:ar H H'):Sl H' σ ρ:=⟨h.1,fun i c o h1 h2=>(h.2 i c o h1 h2).mono s⟩
inductive R (α:Type) where
  | ok (a:α)
  | ex (c:Str)
  | no
noncomputable def R.bind {α β:Type}:R α->(α->R β)->R β
  | .ok a,f=>f a
  | .ex c,_=>.ex c
  | .no,_=>.no
noncomputable instance:Monad R where
  pure:=.ok
  bind:=R.bind
@[simp] theorem R.ok_bind {α β:Type} (a:α) (f:α->R β):(R.ok a>>=f)=f a:=(rfl)
structure zS (P:Program) (w:World) (outer:List Env) (H:Hp) (s:Shared) (C:Addr) (H':Hp) (e:Value) (s':Shared):Prop where
  os:s'.os=s.os
  bare:AllBare s'.gens
  same:ar H H'
  ex:∃ (p:Addr) (a0:Value) (B:Heap),e=.ref p/\Heap.FlyingW B outer p (.ref C) a0 s'.heap/\fZ P w H' B/\H' p=none/\∀ b o,s.heap.get? b=some o->H b=none->b∉jq outer->B.get? b=some o/\H' b=none
  slot:∀ b o,s.heap.get? b=some o->H b=none->b∈jq outer->(∃ sl,s'.heap.get? b=some { o with slots:=sl })/\H' b=none
structure mZ (P:Program) (w:World) (outer:List Env) (H:Hp) (s:Shared) (C:Addr) (H':Hp) (e:Value) (s':Shared):Prop where
  os:s'.os=s.os
  bare:AllBare s'.gens
  same:ar H H'
  ex:∃ (p:Addr) (a0:Value) (B:Heap),e=.ref p/\oj B outer p (.ref C) a0 s'.heap/\fZ P w H' B/\H' p=none/\∀ b o,s.heap.get? b=some o->H b=none->b∉jq outer->B.get? b=some o/\H' b=none
  slot:∀ b o,s.heap.get? b=some o->H b=none->b∈jq outer->(∃ sl,s'.heap.get? b=some { o with slots:=sl })/\H' b=none
theorem zS.hld {P:Program} {w:World} {outer:List Env} {H:Hp} {s:Shared} {C:Addr} {H':Hp} {e:Value} {s':Shared} (f:zS P w outer H s C H' e s'):mZ P w outer H s C H' e s' :=
  ⟨f.os,f.bare,f.same,let ⟨p,a0,B,h1,h2,h3⟩:=f.ex;⟨p,a0,B,h1,oj.of h2,h3⟩,f.slot⟩
noncomputable def dE (P:Program) (w:World) (mg:Str->Option Value):vj:=fun outer H s E e s'=>∃ n C H',mg n=some (.ref C)/\zS P w outer H s C H' e s'/\E (.str n 0) none H'
noncomputable def EX (X:Cx):XK:=fun v _ H'=>∀ (n:Str) (C:Addr),v=.str n 0->X.mg n=some (.ref C)->∀ (pins:List (Addr×Obj)) (σ:St) (H:Hp) (s:Shared) (e:Value) (s':Shared),az X pins σ H s->zS X.prog X.w X.stack H s C H' e s'->X.xe e s'
theorem xa {X:Cx}:qe (dE X.prog X.w X.mg) X (EX X):=fun pins σ H s e s' I ⟨n,C,H',hm,f,q⟩=>q n C rfl hm pins σ H s e s' I f
noncomputable def Xw (X:Cx) (c:Str) (H:Hp):Prop:=∀ H1,ar H H1->∀ (C:Addr),X.mg c=some (.ref C)->∀ (pins:List (Addr×Obj)) (σ:St) (Hc:Hp) (s:Shared) (e:Value) (s':Shared),az X pins σ Hc s->mZ X.prog X.w X.stack Hc s C H1 e s'->X.xe e s'
theorem Xw.mono {X:Cx} {c:Str} {H H':Hp} (h:Xw X c H) (s:ar H H'):Xw X c H':=fun H1 s1=>h H1 (s.trans s1)
theorem Xw.ex {X:Cx} {c:Str} {H:Hp} (h:Xw X c H):∀ H1,ar H H1->EX X (.str c 0) none H1:=fun H1 s1 n C en hm pins σ Hc s e s' I f=>by
  have en':c=n:=by injection en
  subst en';exact h H1 s1 C hm pins σ Hc s e s' I f.hld
noncomputable def A3 (X:Cx) (c:Str) (Fm:Hp):Prop:=∀ C,X.mg c=some (.ref C)->∀ (pins:List (Addr×Obj)) (σ:St) (H:Hp) (s:Shared),ar Fm H->az X pins σ H s->∀ (h':Heap) (p:Addr) (vs:List Value),Heap.MadeExcOf s.heap h' p (.ref C) vs->X.xe (.ref p) { s with heap:=h' }
theorem A3.mono {X:Cx} {c:Str} {H H':Hp} (h:A3 X c H) (s:ar H H'):A3 X c H':=fun C hm pins σ H1 s1 e=>h C hm pins σ H1 s1 (s.trans e)
noncomputable def rQ (X:Cx) (P:Hp->Hp->PyData->V->Prop) (r:R PyData) (H:Hp) (Q:VK):Prop :=
  match r with
  | .ok d=>∀ v H',ar H H'->P H H' d v->Q v H'
  | .ex c=>Xw X c H
  | .no=>False
noncomputable abbrev iF:Hp->Hp->PyData->V->Prop:=fun _ H' d v=>Rp H' d v
noncomputable abbrev vO:Hp->Hp->PyData->V->Prop:=fun _ H' d v=>fY H' d v
noncomputable abbrev Ba:Hp->Hp->PyData->V->Prop:=fun H H' d v=>Rp H' d v\/zU H H' d v
noncomputable abbrev Fe:=aD->R PyData
noncomputable def iV (X:Cx) (P:Hp->Hp->PyData->V->Prop) (f:Fe):TE:=fun σ H Q=>∃ ρ,Sl H σ ρ/\rQ X P (f ρ) H Q
noncomputable def cJ (X:Cx) (e:Expr) (f:Fe):Prop:=PE X e (iV X iF f)
structure Z.cJ (X:Cx) (e:Expr) (f:Fe):Prop where
  un:D2.cJ X e f
noncomputable def di (X:Cx) (e:Expr) (f:Fe):Prop:=PE X e (iV X vO f)
structure Z.di (X:Cx) (e:Expr) (f:Fe):Prop where
  un:D2.di X e f
noncomputable def w9 (X:Cx) (e:Expr) (f:Fe):Prop:=PE X e (iV X Ba f)
structure Z.w9 (X:Cx) (e:Expr) (f:Fe):Prop where
  un:D2.w9 X e f
noncomputable def la (X:Cx) (e:Expr) (f:Fe):Prop:=PE X e (iV X zU f)
structure Z.la (X:Cx) (e:Expr) (f:Fe):Prop where
  un:D2.la X e f
noncomputable def RA (I:Hp->PyData->V->Prop) (H:Hp):List PyData->List V->Prop
  | [],vs=>vs=[]
  | d::ds,vs=>∃ v r,vs=v::r/\I H d v/\RA I H ds r
theorem na {H:Hp}:∀ {ds:List PyData} {vs:List V},RA Rp H ds vs<->bd H ds vs
  | [],vs=>by simp only [RA,bd]
  | d::ds,vs=>by simp only [RA,bd,na (ds:=ds)]
noncomputable def vM (X:Cx) (I:Hp->PyData->V->Prop) (f:aD->R (List PyData)):TA:=fun σ H Q=>∃ ρ,Sl H σ ρ/\match f ρ with
  | .ok ds=>∀ vs H',ar H H'->RA I H' ds vs->Q vs H'
  | .ex c=>Xw X c H
  | .no=>False
noncomputable def qv (X:Cx) (es:List Expr) (f:aD->R (List PyData)):Prop:=PA X es (vM X Rp f)
structure Z.qv (X:Cx) (es:List Expr) (f:aD->R (List PyData)):Prop where
  un:D2.qv X es f
noncomputable def zH (X:Cx) (es:List Expr) (f:aD->R (List PyData)):Prop:=PA X es (vM X fY f)
noncomputable def wx (X:Cx) (f:aD->R Bool):TT:=fun σ H Q=>∃ ρ,Sl H σ ρ/\match f ρ with
  | .ok b=>∀ H',ar H H'->Q b H'
  | .ex c=>Xw X c H
  | .no=>False
noncomputable def jY (X:Cx) (e:Expr) (f:aD->R Bool):Prop:=PT X e (wx X f)
structure Z.jY (X:Cx) (e:Expr) (f:aD->R Bool):Prop where
  un:D2.jY X e f
noncomputable def tt (X:Cx) (e:Expr) (f:aD->R Bool):Prop:=PW X e (wx X f)
structure Z.tt (X:Cx) (e:Expr) (f:aD->R Bool):Prop where
  un:D2.tt X e f
theorem PE.imp {X:Cx} {e:Expr} {t t':TE} (h:PE X e t) (i:∀ σ H Q,t' σ H Q->t σ H Q):PE X e t':=fun pins s σ H Q I q=>h pins s σ H Q I (i σ H Q q)
theorem PT.imp {X:Cx} {e:Expr} {t t':TT} (h:PT X e t) (i:∀ σ H Q,t' σ H Q->t σ H Q):PT X e t':=fun pins s σ H Q I q=>h pins s σ H Q I (i σ H Q q)
theorem PW.imp {X:Cx} {e:Expr} {t t':TT} (h:PW X e t) (i:∀ σ H Q,t' σ H Q->t σ H Q):PW X e t':=fun wh pins s σ H Q I q=>h wh pins s σ H Q I (i σ H Q q)
theorem PA.imp {X:Cx} {e:List Expr} {t t':TA} (h:PA X e t) (i:∀ σ H Q,t' σ H Q->t σ H Q):PA X e t':=fun pos pins s σ H Q I q=>h pos pins s σ H Q I (i σ H Q q)
theorem iV.post {X:Cx} {P:Hp->Hp->PyData->V->Prop} {f:Fe} {σ:St} {H:Hp} {Q Q':VK} (h:iV X P f σ H Q) (i:∀ v H',Q v H'->Q' v H'):iV X P f σ H Q':=by
  obtain ⟨ρ,sl,q⟩:=h;refine ⟨ρ,sl,?_⟩;cases e:f ρ with
  | ok d=>rw [e] at q;exact fun v H' s p=>i _ _ (q v H' s p)
  | ex c=>rw [e] at q;exact q
  | no=>rw [e] at q;exact q
theorem wx.post {X:Cx} {f:aD->R Bool} {σ:St} {H:Hp} {Q Q':Bool->Hp->Prop} (h:wx X f σ H Q) (i:∀ b H',Q b H'->Q' b H'):wx X f σ H Q':=by
  obtain ⟨ρ,sl,q⟩:=h;refine ⟨ρ,sl,?_⟩;cases e:f ρ with
  | ok d=>rw [e] at q;exact fun H' s=>i _ _ (q H' s)
  | ex c=>rw [e] at q;exact q
  | no=>rw [e] at q;exact q
theorem vM.post {X:Cx} {I:Hp->PyData->V->Prop} {f:aD->R (List PyData)} {σ:St} {H:Hp} {Q Q':List V->Hp->Prop} (h:vM X I f σ H Q) (i:∀ vs H',Q vs H'->Q' vs H'):vM X I f σ H Q':=by
  obtain ⟨ρ,sl,q⟩:=h;refine ⟨ρ,sl,?_⟩;cases e:f ρ with
  | ok d=>rw [e] at q;exact fun vs H' s p=>i _ _ (q vs H' s p)
  | ex c=>rw [e] at q;exact q
  | no=>rw [e] at q;exact q
theorem iV.weaken {X:Cx} {P P':Hp->Hp->PyData->V->Prop} {f:Fe} (h:∀ H H' d v,P H H' d v->P' H H' d v) (σ:St) (H:Hp) (Q:VK) (q:iV X P' f σ H Q):iV X P f σ H Q:=by
  obtain ⟨ρ,sl,q⟩:=q;refine ⟨ρ,sl,?_⟩;cases e:f ρ with
  | ok d=>rw [e] at q;exact fun v H' s p=>q v H' s (h _ _ _ _ p)
  | ex c=>rw [e] at q;exact q
  | no=>rw [e] at q;exact q
section
variable {X:Cx} {e:Expr} {f:Fe}
theorem cJ.b (h:cJ X e f):di X e f:=PE.imp h (iV.weaken fun _ _ _ _ p=>Or.inl p)
theorem ad (h:Z.cJ X e f):Z.di X e f :=
  ⟨D2.cJ.b h.un⟩
theorem la.b (h:la X e f):di X e f:=PE.imp h (iV.weaken fun _ _ _ _ p=>Or.inr p.1)
theorem dh (h:Z.la X e f):Z.di X e f :=
  ⟨D2.la.b h.un⟩
theorem la.toF (h:la X e f):w9 X e f:=PE.imp h (iV.weaken fun _ _ _ _ p=>Or.inr p)
end
section
variable {X:Cx} {pins:List (Addr×Obj)} {σ:St} {H:Hp} {s:Shared} {a:Addr} {u:HO}
theorem eP (I:az X pins σ H s) (h:H a=some u) (hm:(∃ xs,u=.lst xs)\/∃ ks,u=.dK ks):∃ o,az X pins σ (cr H a (.frz o u)) s:=by
  have ob:=I.hok a u h;have hg:∃ o,s.heap.get? a=some o:=by
    rcases hm with ⟨xs,rfl⟩ | ⟨ks,rfl⟩
    · obtain ⟨_,_,_,_,e⟩:=ob;exact ⟨_,e⟩
    · obtain ⟨_,_,_,_,o,_,_,e,_⟩:=ob;exact ⟨_,e⟩
  obtain ⟨o,hg⟩:=hg;have nt:∀ b xs,H b=some (.tup xs)->b≠a:=fun b xs q z=>by subst z;rw [h] at q;rcases hm with ⟨_,rfl⟩ | ⟨_,rfl⟩ <;> cases q
  have nf:∀ b o' u',H b=some (.frz o' u')->b≠a:=fun b o' u' q z=>by subst z;rw [h] at q;rcases hm with ⟨_,rfl⟩ | ⟨_,rfl⟩ <;> cases q
  have nb:∀ b ps,H b=some (.tbl ps)->b≠a:=fun b ps q z=>by subst z;rw [h] at q;rcases hm with ⟨_,rfl⟩ | ⟨_,rfl⟩ <;> cases q
  have nw:∀ b y,H b=some (.own y)->b≠a:=fun b y q z=>by subst z;rw [h] at q;rcases hm with ⟨_,rfl⟩ | ⟨_,rfl⟩ <;> cases q
  have nn:∀ b,H b=none->b≠a:=fun b q z=>by subst z;rw [h] at q;cases q
  have st:∀ b x,bS X.prog X.w H s.heap b x->bS X.prog X.w (cr H a (.frz o u)) s.heap b x:=fun b x q =>
    q.stay (fun c v _ e=>e) (fun c e=>by rw [ay (nw _ _ e)];exact e) fun c xs e=>by rw [ay (nt _ _ e)];exact e
  refine ⟨o,⟨I.ok,I.os,I.bare,⟨I.base.keep,I.base.slot,fun b ob' e n hx=>?_,I.base.there,fun b xs e=>?_,fun b ob' v e=>?_,fun b ps e=>?_⟩,I.loc,I.cell,?_,fun x c e=>?_,fun p hp=>?_,fun b x e=>?_,I.len⟩⟩
  · have:=I.base.free b ob' e n hx;rw [ay (nn _ this)];exact this
  · have:=I.base.tups b xs e;rw [ay (nt _ _ this)];exact this
  · have:=I.base.frzs b ob' v e;rw [ay (nf _ _ _ this)];exact this
  · obtain ⟨m,q⟩:=I.base.tbls b ps e;exact ⟨m,by rw [ay (nb _ _ q)];exact q⟩
  · rw [ay (nn _ I.free)];exact I.free
  · rw [ay (nn _ (I.freeC x c e))];exact I.freeC x c e
  · obtain ⟨p1,p2,p3⟩:=I.pin p hp;exact ⟨p1,by rw [ay (nn _ p2)];exact p2,p3⟩
  · by_cases hb:b=a
    · subst hb;rw [bc] at e;cases e;exact ⟨hg,st b u ob⟩
    · rw [ay hb] at e;exact st b x (I.hok b x e)
theorem eR {o':HO} (h:H a=some u) (hm:(∃ xs,u=.lst xs)\/∃ ks,u=.dK ks):Kp H (cr H a o'):=by
  refine ⟨fun b xs e=>?_,fun b o v e=>?_⟩
  · rw [ay];exact e;rintro rfl;rw [h] at e;rcases hm with ⟨_,rfl⟩ | ⟨_,rfl⟩ <;> cases e
  · rw [ay];exact e;rintro rfl;rw [h] at e;rcases hm with ⟨_,rfl⟩ | ⟨_,rfl⟩ <;> cases e
theorem zk {H0:Hp} {d:PyData} {v:V} (I:az X pins σ H s) (hs:ar H0 H) (n:zU H0 H d v):∃ H',az X pins σ H' s/\ar H0 H'/\Rp H' d v:=by
  obtain ⟨n,a,rfl,h0⟩:=n;have go:∀ u:HO,H a=some u->((∃ xs,u=.lst xs)\/∃ ks,u=.dK ks)->∃ o,az X pins σ (cr H a (.frz o u)) s/\ar H0 (cr H a (.frz o u))/\Kp H (cr H a (.frz o u)):=fun u hu hm=>by
    obtain ⟨o,J⟩:=eP I hu hm;refine ⟨o,J,fun b x e=>?_,eR hu hm⟩;rw [ay (ba e h0)];exact hs b x e
  cases d <;> simp only [gF] at n
  · obtain ⟨a',vs,e,ha,r⟩:=n;cases e;obtain ⟨o,J,S,K⟩:=go _ ha (.inl ⟨_,rfl⟩);refine ⟨_,J,S,?_⟩;simp only [Rp];exact ⟨a,o,vs,rfl,bc,bd.kp K _ _ r⟩
  · obtain ⟨a',vs,e,ha,r⟩:=n;cases e;obtain ⟨o,J,S,K⟩:=go _ ha (.inr ⟨_,rfl⟩);refine ⟨_,J,S,?_⟩;simp only [Rp];exact .inl ⟨a,o,vs,rfl,bc,da.kp K _ _ r⟩
end
theorem w9.e {X:Cx} {e:Expr} {f:Fe} (h:w9 X e f):cJ X e f:=by
  intro pins s σ H Q I q;obtain ⟨ρ,sl,q⟩:=q;cases ef:f ρ with
  | ok d =>
    rw [ef] at q;refine cS (h pins s σ H (fun v H'=>ar H H'/\Ba H H' d v) I ⟨ρ,sl,by rw [ef];exact fun v H' hs p=>⟨hs,p⟩⟩) fun u s' ⟨v,H',I',r,hs,p⟩=>?_
    rcases p with p | p
    · exact ⟨v,H',I',r,q v H' hs p⟩
    · obtain ⟨H2,I2,S2,p2⟩:=zk I' hs p;exact ⟨v,H2,I2,r,q v H2 S2 p2⟩
  | ex c=>rw [ef] at q;exact cS (h pins s σ H (fun _ _=>False) I ⟨ρ,sl,by rw [ef];exact q⟩) fun u s' ⟨v,H',I',r,z⟩=>z.elim
  | no=>rw [ef] at q;exact q.elim
theorem Be {X:Cx} {e:Expr} {f:Fe} (h:Z.w9 X e f):Z.cJ X e f :=
  ⟨D2.w9.e h.un⟩
theorem la.e {X:Cx} {e:Expr} {f:Fe} (h:la X e f):cJ X e f:=(la.toF h).e
theorem gv {X:Cx} {e:Expr} {f:Fe} (h:Z.la X e f):Z.cJ X e f :=
  ⟨D2.la.e h.un⟩
structure xn {β:Type} (X:Cx) (T:R β->Hp->Prop):Prop where
  mono:∀ r H H',T r H->ar H H'->T r H'
  ex:∀ c H,T (.ex c) H->Xw X c H
  no:∀ H,¬ T .no H
noncomputable def Dn (P:Hp->Hp->PyData->V->Prop):Prop:=∀ H H1 H' d v,ar H H1->P H1 H' d v->P H H' d v
theorem fD:Dn iF:=fun _ _ _ _ _ _ p=>p
theorem xh:Dn zU:=fun _ _ _ _ _ s p=>⟨p.1,let ⟨a,e,h⟩:=p.2;⟨a,e,s.free h⟩⟩
theorem wB:Dn Ba:=fun _ _ _ _ _ s p=>p.elim .inl fun p=>.inr (xh _ _ _ _ _ s p)
section
variable {X:Cx} {σ:St} {H:Hp}
theorem fR {P:Hp->Hp->PyData->V->Prop} (hP:Dn P) (Q:VK):xn X (fun r H=>rQ X P r H Q) where
  mono:=fun r H H' h s=>by
    cases r with
    | ok d=>exact fun v H2 s2 p=>h v H2 (s.trans s2) (hP _ _ _ _ _ s p)
    | ex c=>exact Xw.mono h s
    | no=>exact h
  ex:=fun c H h=>h
  no:=fun H h=>h
theorem qD (Q:Bool->Hp->Prop):xn X (fun (r:R Bool) H=>match r with | .ok b=>∀ H',ar H H'->Q b H' | .ex c=>Xw X c H | .no=>False) where
  mono:=fun r H H' h s=>by
    cases r with
    | ok d=>exact fun H2 s2=>h H2 (s.trans s2)
    | ex c=>exact Xw.mono h s
    | no=>exact h
  ex:=fun c H h=>h
  no:=fun H h=>h
theorem xT (I:Hp->PyData->V->Prop) (Q:List V->Hp->Prop):xn X (fun (r:R (List PyData)) H=>match r with | .ok ds=>∀ vs H',ar H H'->RA I H' ds vs->Q vs H' | .ex c=>Xw X c H | .no=>False) where
  mono:=fun r H H' h s=>by
    cases r with
    | ok d=>exact fun vs H2 s2=>h vs H2 (s.trans s2)
    | ex c=>exact Xw.mono h s
    | no=>exact h
  ex:=fun c H h=>h
  no:=fun H h=>h
theorem fF {β:Type} {T:R β->Hp->Prop} (t:xn X T) {P:Hp->Hp->PyData->V->Prop} {f:Fe} {k:aD->PyData->R β} (h:∃ ρ,Sl H σ ρ/\T (f ρ>>=k ρ) H) :
    iV X P f σ H (fun v H1=>∃ ρ d,Sl H1 σ ρ/\ar H H1/\P H H1 d v/\T (k ρ d) H1):=by
  obtain ⟨ρ,sl,q⟩:=h;refine ⟨ρ,sl,?_⟩;cases e:f ρ with
  | ok d=>rw [e] at q;exact fun v H1 s p=>⟨ρ,d,sl.mono s,s,p,t.mono _ _ _ q s⟩
  | ex c=>rw [e] at q;exact t.ex _ _ q
  | no=>rw [e] at q;exact (t.no _ q).elim
theorem np {β:Type} {T:R β->Hp->Prop} (t:xn X T) {f:aD->R Bool} {k:aD->Bool->R β} (h:∃ ρ,Sl H σ ρ/\T (f ρ>>=k ρ) H) :
    wx X f σ H (fun b H1=>∃ ρ,Sl H1 σ ρ/\ar H H1/\T (k ρ b) H1):=by
  obtain ⟨ρ,sl,q⟩:=h;refine ⟨ρ,sl,?_⟩;cases e:f ρ with
  | ok d=>rw [e] at q;exact fun H1 s=>⟨ρ,sl.mono s,s,t.mono _ _ _ q s⟩
  | ex c=>rw [e] at q;exact t.ex _ _ q
  | no=>rw [e] at q;exact (t.no _ q).elim
theorem kh {β:Type} {T:R β->Hp->Prop} (t:xn X T) {I:Hp->PyData->V->Prop} {f:aD->R (List PyData)} {k:aD->List PyData->R β} (h:∃ ρ,Sl H σ ρ/\T (f ρ>>=k ρ) H) :
    vM X I f σ H (fun vs H1=>∃ ρ ds,Sl H1 σ ρ/\ar H H1/\RA I H1 ds vs/\T (k ρ ds) H1):=by
  obtain ⟨ρ,sl,q⟩:=h;refine ⟨ρ,sl,?_⟩;cases e:f ρ with
  | ok d=>rw [e] at q;exact fun vs H1 s p=>⟨ρ,d,sl.mono s,s,p,t.mono _ _ _ q s⟩
  | ex c=>rw [e] at q;exact t.ex _ _ q
  | no=>rw [e] at q;exact (t.no _ q).elim
end
noncomputable def ae (i:Nat):Fe:=fun ρ=>match ρ[i]? with
  | some (.val d)=>.ok d
  | _=>.no
noncomputable def fP (i:Nat):Fe:=fun ρ=>match ρ[i]? with
  | some (.val d)=>.ok d
  | some (.own d)=>.ok d
  | _=>.no
noncomputable def eC (d:PyData):Fe:=fun _=>.ok d
structure Tb (X:Cx) (nl:Nat) (G:List Str):Prop where
  hu:X.A.units+64 < cLine
  calm:X.calm=true
  nd:X.N.Nodup
  vis:∀ x∈X.N,zQ X.env.scope x/\(x==("__debug__" : Str))=false/\(x==("__classdict__" : Str))=false
  loc:∀ x∈X.N.take nl,zK X.env.scope x/\(X.fn x=true\/X.env.scope.names.lookup x=some .local)
  gl:∀ x∈G,Gl X x/\(x==("__debug__" : Str))=false/\x≠("__name__" : Str)
section
variable {X:Cx} {nl:Nat} {G:List Str} {x:Str} {pos:Pos}
theorem Sl.at {H:Hp} {σ:St} {ρ:aD} {i:Nat} {c:bm} (h:Sl H σ ρ) (e:ρ[i]?=some c):∃ o,σ[i]?=some o/\g9 H c o:=by
  have hi:i < σ.length:=by rw [h.1];exact (List.getElem?_eq_some_iff.mp e).1
  exact ⟨σ[i],List.getElem?_eq_getElem hi,h.2 i c _ e (List.getElem?_eq_getElem hi)⟩
theorem aa (T:Tb X nl G) (i:Nat) (hN:X.N[i]?=some x):Z.cJ X (.Name x pos) (ae i):=⟨by
  have hm:=T.vis x (List.mem_of_getElem? hN);refine PE.imp (gP hN hm.1 hm.2.1 hm.2.2) fun σ H Q ⟨ρ,sl,q⟩=>?_
  unfold ae at q;split at q
  · rename_i d e;obtain ⟨o,h1,v,rfl,h2⟩:=sl.at e;exact ⟨v,h1,q v H (ar.refl H) h2⟩
  · exact q.elim⟩
theorem gu (T:Tb X nl G) (i:Nat) (hN:X.N[i]?=some x):Z.di X (.Name x pos) (fP i):=⟨by
  have hm:=T.vis x (List.mem_of_getElem? hN);refine PE.imp (gP hN hm.1 hm.2.1 hm.2.2) fun σ H Q ⟨ρ,sl,q⟩=>?_
  unfold fP at q;split at q
  · rename_i d e;obtain ⟨o,h1,v,rfl,h2⟩:=sl.at e;exact ⟨v,h1,q v H (ar.refl H) (.inl h2)⟩
  · rename_i d e;obtain ⟨o,h1,v,rfl,h2⟩:=sl.at e;exact ⟨v,h1,q v H (ar.refl H) (.inr h2)⟩
  · exact q.elim⟩
theorem mr {e:Expr} {d:PyData} {v:V} (h:PE X e (tC v)) (r:∀ H,Rp H d v):cJ X e (eC d) :=
  PE.imp h fun σ H Q ⟨ρ,sl,q⟩=>q v H (ar.refl H) (r H)
theorem aj {i j}:Z.cJ X (.Constant (.int i) j pos) (eC (.int i)):=⟨mr zD fun H=>by simp only [Rp]⟩
theorem bY {b j}:Z.cJ X (.Constant (.bool b) j pos) (eC (.bool b)):=⟨mr AO fun H=>by simp only [Rp]⟩
theorem lK {j}:Z.cJ X (.Constant .none j pos) (eC .none):=⟨mr zd fun H=>by simp only [Rp]⟩
theorem fO {i:Int} {t:Tok} (T:Tb X nl G) (j:Nat) (hG:G[j]?=some x) (hm:X.mg x=some (.int i t)):Z.cJ X (.Name x pos) (eC (.int i)):=⟨by
  have g:=T.gl x (List.mem_of_getElem? hG);exact mr (wd g.1 hm (v:=.int i) ⟨t,rfl⟩ g.2.1) fun H=>by simp only [Rp]⟩
end
section
variable {X:Cx} {a b c:Expr} {fa fb fc:Fe} {pos:Pos}
noncomputable def e2 (g:PyData->PyData->R PyData) (fa fb:Fe):Fe:=fun ρ=>fa ρ>>=fun x=>fb ρ>>=fun y=>g x y
noncomputable def e1 (g:PyData->R PyData) (fa:Fe):Fe:=fun ρ=>fa ρ>>=fun x=>g x
noncomputable def cj (X:Cx) (P:Hp->Hp->PyData->V->Prop) (r:R2) (g:PyData->PyData->R PyData):Prop :=
  ∀ H x y dx dy Q,fY H dx x->fY H dy y->rQ X P (g dx dy) H Q->r x y H Q
theorem two {P:Hp->Hp->PyData->V->Prop} {r:R2} {g:PyData->PyData->R PyData} (hP:Dn P) (hg:cj X P r g) (σ:St) (H:Hp) (Q:VK) (h:iV X P (e2 g fa fb) σ H Q) :
    AD r (iV X vO fa) (iV X vO fb) σ H Q :=
  (fF (P:=vO) (fR (X:=X) hP Q) h).post fun v H1 ⟨ρ1,d1,sl1,_,p1,q1⟩ =>
    (fF (P:=vO) (f:=fb) (k:=fun _ y=>g d1 y) (fR (X:=X) hP Q) ⟨ρ1,sl1,q1⟩).post fun u H2 ⟨_,d2,_,s2,p2,q2⟩=>hg H2 v u d1 d2 Q (fY.mono p1 s2) p2 q2
theorem kQ {op:Operator} {P:Hp->Hp->PyData->V->Prop} {r:R2} {g:PyData->PyData->R PyData} (hP:Dn P) (ho:iT X (binaryOp op) r) (hg:cj X P r g) (ha:di X a fa) (hb:di X b fb) :
    PE X (.BinOp a op b pos) (iV X P (e2 g fa fb)):=PE.imp (AG ho ha hb) (two hP hg)
theorem yH {op:CmpOp} {r:R2} {g:PyData->PyData->R PyData} (ho:iT X (compareOp op) r) (hg:cj X iF r g) (ha:di X a fa) (hb:di X b fb) (hm:behindInMarks op b=false) :
    cJ X (.Compare a [op] [b] pos) (e2 g fa fb):=PE.imp (wQ ho ha hb hm) (two fD hg)
end
noncomputable def xZ:PyData->R Bool
  | .bool b=>.ok b
  | _=>.no
noncomputable def tE (f:Fe):aD->R Bool:=fun ρ=>f ρ>>=xZ
theorem rH {X:Cx} {f:Fe} {σ:St} {H:Hp} {Q:Bool->Hp->Prop} (h:wx X (tE f) σ H Q):iV X iF f σ H (fun x H'=>∃ k,x=.bl k/\Q k H') :=
  (fF (P:=iF) (f:=f) (k:=fun _=>xZ) (qD (X:=X) Q) h).post fun v H1 ⟨ρ1,d1,_,_,p1,q1⟩=>by
    cases d1 with
    | bool b =>
      have p2:v=.bl b:=by simpa only [Rp] using p1
      exact ⟨b,p2,q1 H1 (ar.refl _)⟩
    | _=>exact q1.elim
section
variable {X:Cx} {a b c:Expr} {fa fb fc:Fe} {pos:Pos}
theorem fg {op:CmpOp} {r:R2} {g:PyData->PyData->R PyData} (ho:iT X (compareOp op) r) (hg:cj X iF r g) (ha:di X a fa) (hb:di X b fb) (hm:behindInMarks op b=false) :
    jY X (.Compare a [op] [b] pos) (tE (e2 g fa fb)) :=
  PT.imp (xf ho ha hb hm) fun σ H Q h=>two fD hg σ H _ (rH h)
theorem jD {e:Expr} {f:Fe} (h:Z.cJ X e f) (he:∀ whole,isTrue e X.env whole=(do let v <- whole;standAt e.pos;holding [v] (truthy v)):=by intro _;rfl):Z.jY X e (tE f):=⟨have h:=h.un;PT.imp (yk h he) fun σ H Q h=>rH h⟩
noncomputable def gT (f g:aD->R Bool):aD->R Bool:=fun ρ=>f ρ>>=fun b=>if b=true then g ρ else .ok false
noncomputable def vx (f g:aD->R Bool):aD->R Bool:=fun ρ=>f ρ>>=fun b=>if b=true then .ok true else g ρ
noncomputable def nM (f:aD->R Bool):aD->R Bool:=fun ρ=>f ρ>>=fun b=>.ok (!b)
variable {ga gb:aD->R Bool} {c8:List Expr}
theorem iS (ha:Z.jY X a ga):Z.tt X (.BoolOp .And [a] pos) ga:=⟨have ha:=ha.un;pw_and1 ha⟩
theorem se (ha:Z.jY X a ga):Z.tt X (.BoolOp .Or [a] pos) ga:=⟨have ha:=ha.un;pw_or1 ha⟩
theorem jx (ha:Z.jY X a ga) (hb:Z.tt X (.BoolOp .And (b::c8) pos) gb):Z.tt X (.BoolOp .And (a::b::c8) pos) (gT ga gb):=⟨have ha:=ha.un;have hb:=hb.un;PW.imp (pw_and ha hb) fun σ H Q h=>(np (f:=ga) (k:=fun ρ b=>if b=true then gb ρ else .ok false) (qD (X:=X) Q) h).post fun d H1 ⟨ρ1,sl1,_,q1⟩=>by
    cases d with
    | true=>exact ⟨ρ1,sl1,q1⟩
    | false=>exact q1 H1 (ar.refl _)⟩
theorem t6 (ha:Z.jY X a ga) (hb:Z.tt X (.BoolOp .Or (b::c8) pos) gb):Z.tt X (.BoolOp .Or (a::b::c8) pos) (vx ga gb):=⟨have ha:=ha.un;have hb:=hb.un;PW.imp (pw_or ha hb) fun σ H Q h=>(np (f:=ga) (k:=fun ρ b=>if b=true then .ok true else gb ρ) (qD (X:=X) Q) h).post fun d H1 ⟨ρ1,sl1,_,q1⟩=>by
    cases d with
    | false=>exact ⟨ρ1,sl1,q1⟩
    | true=>exact q1 H1 (ar.refl _)⟩
theorem tt.t {e:Expr} (h:tt X e ga):jY X e ga:=PW.pt h
theorem jW {e:Expr} (h:Z.tt X e ga):Z.jY X e ga :=
  ⟨D2.tt.t h.un⟩
theorem lY (ha:Z.jY X a ga):Z.jY X (.UnaryOp .Not a pos) (nM ga):=⟨have ha:=ha.un;PT.imp (yQ ha) fun σ H Q h=>(np (f:=ga) (k:=fun _ b=>.ok (!b)) (qD (X:=X) Q) h).post fun d H1 ⟨ρ1,sl1,_,q1⟩=>q1 H1 (ar.refl _)⟩
noncomputable def Bl (f g:Fe):Fe:=fun ρ=>f ρ>>=fun d=>xZ d>>=fun b=>if b=true then .ok (.bool true) else g ρ
theorem xo {k:aD->Bool->R PyData} {f:Fe} {σ:St} {H:Hp} {Q:VK} (h:iV X iF (fun ρ=>f ρ>>=fun d=>xZ d>>=fun b=>k ρ b) σ H Q) :
    iV X iF f σ H (fun x H'=>∃ c,x=.bl c/\iV X iF (fun ρ=>k ρ c) σ H' Q) :=
  (fF (P:=iF) (f:=f) (k:=fun ρ d=>xZ d>>=fun b=>k ρ b) (fR (X:=X) fD Q) h).post fun v H1 ⟨ρ1,d1,sl1,_,p1,q1⟩=>by
    cases d1 with
    | bool b =>
      have p2:v=.bl b:=by simpa only [Rp] using p1
      exact ⟨b,p2,ρ1,sl1,q1⟩
    | _=>exact q1.elim
theorem tQ {op} (h:Z.cJ X a fa):Z.cJ X (.BoolOp op [a] pos) fa:=⟨have h:=h.un;yX h⟩
theorem xH (ha:Z.cJ X a fa) (hb:Z.cJ X (.BoolOp .Or (b::c8) pos) fb):Z.cJ X (.BoolOp .Or (a::b::c8) pos) (Bl fa fb):=⟨have ha:=ha.un;have hb:=hb.un;PE.imp (z0 ha hb) fun σ H Q h=>(xo (k:=fun ρ b=>if b=true then .ok (.bool true) else fb ρ) h).post fun v H1 ⟨c,e1,q1⟩=>by
    refine ⟨c,e1,?_⟩;cases c with
    | false=>exact q1
    | true =>
      obtain ⟨_,_,q2⟩:=q1;exact q2 _ H1 (ar.refl _) (by simp only [Rp])⟩
noncomputable def zV (t:aD->R Bool) (f g:Fe):Fe:=fun ρ=>t ρ>>=fun b=>if b=true then f ρ else g ρ
theorem kK {e:Expr} (hc:Z.jY X e ga) (ha:Z.cJ X a fa) (hb:Z.cJ X b fb):Z.cJ X (.IfExp e a b pos) (zV ga fa fb):=⟨have hc:=hc.un;have ha:=ha.un;have hb:=hb.un;PE.imp (tz hc ha hb) fun σ H Q h=>(np (f:=ga) (k:=fun ρ b=>if b=true then fa ρ else fb ρ) (fR (X:=X) fD Q) h).post fun d H1 ⟨ρ1,sl1,_,q1⟩=>by
    cases d with
    | true=>exact ⟨ρ1,sl1,q1⟩
    | false=>exact ⟨ρ1,sl1,q1⟩⟩
end
noncomputable def aV:Expr->Bool
  | .Starred ..=>false
  | _=>true
theorem bI {e:Expr} {es:List Expr} {env:Env} (h:aV e=true):starEach (e::es) env=(false,eval e env)::starEach es env:=by
  cases e <;> first | rfl | (cases h)
theorem o1 {es:List Expr} {env:Env} {pos:Pos} (h:es.all aV=true):(backTo pos (starEach es env)).any (·.1)=false:=by
  induction es with
  | nil=>rfl
  | cons e es ih =>
    rw [List.all_cons,Bool.and_eq_true] at h;rw [bI h.1];have:=ih h.2;simpa [backTo] using this
noncomputable def aC:aD->R (List PyData):=fun _=>.ok []
noncomputable def ag (f:Fe) (g:aD->R (List PyData)):aD->R (List PyData):=fun ρ=>f ρ>>=fun d=>g ρ>>=fun ds=>.ok (d::ds)
section
variable {X:Cx} {e:Expr} {es:List Expr} {f:Fe} {g:aD->R (List PyData)}
theorem qw {I:Hp->PyData->V->Prop}:PA X [] (vM X I aC):=PA.imp zC fun σ H Q ⟨ρ,sl,q⟩=>q [] H (ar.refl _) (by simp only [RA])
theorem mM:qv X [] aC:=qw
theorem ap  : Z.qv X [] aC :=
  ⟨D2.mM⟩
theorem pO:zH X [] aC:=qw
theorem nF {I:Hp->PyData->V->Prop} (hI:∀ H H' d v,I H d v->ar H H'->I H' d v) (ha:PE X e (iV X (fun _ H' d v=>I H' d v) f)) (hr:PA X es (vM X I g))
    (hs:starEach (e::es) X.env=(false,eval e X.env)::starEach es X.env:=by rfl):PA X (e::es) (vM X I (ag f g)) :=
  PA.imp (wc ha hr hs) fun σ H Q h =>
    (fF (P:=fun _ H' d v=>I H' d v) (f:=f) (k:=fun ρ d=>g ρ>>=fun ds=>.ok (d::ds)) (xT (X:=X) I Q) h).post fun v H1 ⟨ρ1,d1,sl1,_,p1,q1⟩ =>
      (kh (I:=I) (f:=g) (k:=fun _ ds=>.ok (d1::ds)) (xT (X:=X) I Q) ⟨ρ1,sl1,q1⟩).post fun vs H2 ⟨_,ds1,_,s2,p3,q3⟩ =>
        q3 (v::vs) H2 (ar.refl _) (by simp only [RA];exact ⟨v,vs,rfl,hI _ _ _ _ p1 s2,p3⟩)
theorem j6 (ha:cJ X e f) (hr:qv X es g) (hs:aV e=true:=by rfl):qv X (e::es) (ag f g):=nF (fun _ _ _ _ h s=>h.mono s) ha hr (bI hs)
theorem af (ha:Z.cJ X e f) (hr:Z.qv X es g) (hs:aV e=true:=by rfl):Z.qv X (e::es) (ag f g) :=
  ⟨D2.j6 ha.un hr.un hs⟩
theorem j4 (ha:di X e f) (hr:zH X es g) (hs:aV e=true:=by rfl):zH X (e::es) (ag f g):=nF (fun _ _ _ _ h s=>h.mono s) ha hr (bI hs)
end
section
variable {K:PySem.W.Frag} {H:Hp} {x:V}
theorem nX (h:fY H .none x):x=.non:=by
  rcases h with h | h
  · simpa only [Rp] using h
  · simp only [gF] at h
theorem oo {b:Bool} (h:fY H (.bool b) x):x=.bl b:=by
  rcases h with h | h
  · simpa only [Rp] using h
  · simp only [gF] at h
theorem bp {i:Int} (h:fY H (.int i) x):x=.int i:=by
  rcases h with h | h
  · simpa only [Rp] using h
  · simp only [gF] at h
theorem gy {y:Str} (h:fY H (.str y) x):x=.str y:=by
  rcases h with h | h
  · simpa only [Rp] using h
  · simp only [gF] at h
theorem cv {ds:List PyData} (h:fY H (.tuple ds) x):∃ a vs,x=.ref a/\H a=some (.tup vs)/\bd H ds vs:=by
  rcases h with h | h
  · simpa only [Rp] using h
  · simp only [gF] at h
theorem cH {ds:List PyData} (h:fY H (.list ds) x):∃ a vs,x=.ref a/\jr K H a vs/\bd H ds vs:=by
  rcases h with h | h
  · simp only [Rp] at h;obtain ⟨a,o,vs,e,ha,r⟩:=h;exact ⟨a,vs,e,.inl (.inr ⟨o,ha⟩),r⟩
  · simp only [gF] at h;obtain ⟨a,vs,e,ha,r⟩:=h;exact ⟨a,vs,e,.inl (.inl ha),r⟩
theorem wV {C:Addr} {fs:List (Str×V)} {kvs:List (PyData×PyData)} (h:vK H C fs kvs):lP kvs=true:=by
  cases kvs with
  | nil=>simp only [vK] at h
  | cons kd kvs=>simp only [vK] at h;rw [h.1];rfl
theorem vc {kvs:List (PyData×PyData)} (h:fY H (.dict kvs) x):∃ a,x=.ref a:=by
  rcases h with h | h
  · simp only [Rp] at h;rcases h with ⟨a,o,vs,e,_⟩ | ⟨a,o,C,dx,fs,e,_⟩
    · exact ⟨a,e⟩
    · exact ⟨a,e⟩
  · simp only [gF] at h;obtain ⟨a,vs,e,_⟩:=h;exact ⟨a,e⟩
theorem jg {kvs:List (PyData×PyData)} (hi:lP kvs=false) (h:fY H (.dict kvs) x):∃ a ks,x=.ref a/\Rd H a (.dK ks)/\da H kvs ks:=by
  rcases h with h | h
  · simp only [Rp] at h;rcases h with ⟨a,o,vs,e,ha,r⟩ | ⟨a,o,C,dx,fs,e,ha,r⟩
    · exact ⟨a,vs,e,.inr ⟨o,ha⟩,r⟩
    · rw [wV r] at hi;cases hi
  · simp only [gF] at h;obtain ⟨a,vs,e,ha,r⟩:=h;exact ⟨a,vs,e,.inl ha,r⟩
end
theorem bd.nil {H:Hp}:bd H [] []:=by simp only [bd]
theorem bd.cons {H:Hp} {d:PyData} {ds:List PyData} {v:V} {vs:List V} (h:Rp H d v) (t:bd H ds vs):bd H (d::ds) (v::vs):=by simp only [bd];exact ⟨v,vs,rfl,h,t⟩
theorem bd.nil_inv {H:Hp} {vs:List V} (h:bd H [] vs):vs=[]:=by simpa only [bd] using h
theorem bd.cons_inv {H:Hp} {d:PyData} {ds:List PyData} {vs:List V} (h:bd H (d::ds) vs):∃ v r,vs=v::r/\Rp H d v/\bd H ds r:=by simpa only [bd] using h
theorem bd.length {H:Hp}:∀ {ds:List PyData} {vs:List V},bd H ds vs->vs.length=ds.length
  | [],vs,h=>by rw [h.nil_inv];rfl
  | d::ds,vs,h=>by
    obtain ⟨v,r,rfl,_,t⟩:=h.cons_inv;rw [List.length_cons,List.length_cons,bd.length t]
theorem bd.get {H:Hp}:∀ {ds:List PyData} {vs:List V} {i:Nat} {d:PyData},bd H ds vs->ds[i]?=some d->∃ v,vs[i]?=some v/\Rp H d v
  | [],vs,i,d,h,e=>by simp at e
  | d0::ds,vs,0,d,h,e=>by
    obtain ⟨v,r,rfl,p,_⟩:=h.cons_inv;simp at e;subst e;exact ⟨v,rfl,p⟩
  | d0::ds,vs,i+1,d,h,e=>by
    obtain ⟨v,r,rfl,_,t⟩:=h.cons_inv;obtain ⟨u,e1,p⟩:=bd.get (i:=i) t (by simpa using e);exact ⟨u,by simpa using e1,p⟩
theorem bd.append {H:Hp}:∀ {ds es:List PyData} {vs us:List V},bd H ds vs->bd H es us->bd H (ds++es) (vs++us)
  | [],es,vs,us,h,g=>by rw [h.nil_inv];exact g
  | d::ds,es,vs,us,h,g=>by
    obtain ⟨v,r,rfl,p,t⟩:=h.cons_inv;exact bd.cons p (bd.append t g)
theorem bd.take {H:Hp}:∀ {ds:List PyData} {vs:List V} (n:Nat),bd H ds vs->bd H (ds.take n) (vs.take n)
  | ds,vs,0,h=>by simp only [List.take_zero];exact bd.nil
  | [],vs,n+1,h=>by rw [h.nil_inv];exact bd.nil
  | d::ds,vs,n+1,h=>by
    obtain ⟨v,r,rfl,p,t⟩:=h.cons_inv;exact bd.cons p (bd.take n t)
theorem bd.drop {H:Hp}:∀ {ds:List PyData} {vs:List V} (n:Nat),bd H ds vs->bd H (ds.drop n) (vs.drop n)
  | ds,vs,0,h=>h
  | [],vs,n+1,h=>by rw [h.nil_inv];exact bd.nil
  | d::ds,vs,n+1,h=>by
    obtain ⟨v,r,rfl,p,t⟩:=h.cons_inv;exact bd.drop n t
theorem bd.rep {H:Hp} {ds:List PyData} {vs:List V} (h:bd H ds vs):∀ k:Nat,bd H (List.replicate k ds).flatten (List.replicate k vs).flatten
  | 0=>bd.nil
  | k+1=>by rw [List.replicate_succ,List.replicate_succ,List.flatten_cons,List.flatten_cons];exact bd.append h (bd.rep h k)
theorem bd.ints {H:Hp}:∀ ns:List Int,bd H (ns.map PyData.int) (ns.map V.int)
  | []=>bd.nil
  | n::ns=>bd.cons (by simp only [Rp]) (bd.ints ns)
theorem bT {H:Hp} {p:Addr} (h:H p=none) (o:HO):ar H (cr H p o):=fun b u q=>by rw [ay (ba q h)];exact q
theorem dG {H:Hp} {p:Addr} {ds:List PyData} {vs:List V} (h:H p=none) (r:bd H ds vs):Rp (cr H p (.tup vs)) (.tuple ds) (.ref p):=by
  simp only [Rp];exact ⟨p,vs,rfl,bc,r.mono (bT h _)⟩
theorem cN {H:Hp} {p:Addr} {ds:List PyData} {vs:List V} (h:H p=none) (r:bd H ds vs):zU H (cr H p (.lst vs)) (.list ds) (.ref p):=by
  refine ⟨?_,p,rfl,h⟩;simp only [gF];exact ⟨p,vs,rfl,bc,r.mono (bT h _)⟩
section
variable {P:Program} {w:World} {H:Hp} {h:Heap}
mutual
theorem oA (ok:fZ P w H h):∀ (d:PyData) (v:V) (u:Value),d.canLay0=true->Rp H d v->bw v u->∃ as,Reads h u d as
  | .none,v,u,_,r,e=>by simp only [Rp] at r;subst r;cases e;exact ⟨_,.none⟩
  | .bool b,v,u,_,r,e=>by simp only [Rp] at r;subst r;cases e;exact ⟨_,.bool b⟩
  | .int i,v,u,_,r,e=>by simp only [Rp] at r;subst r;obtain ⟨t,rfl⟩:=e;exact ⟨_,.int i t⟩
  | .str x,v,u,_,r,e=>by simp only [Rp] at r;subst r;obtain ⟨t,rfl⟩:=e;exact ⟨_,.str x t⟩
  | .tuple ds,v,u,c,r,e=>by
    simp only [Rp] at r;obtain ⟨a,vs,rfl,ha,r⟩:=r;cases e;obtain ⟨_,its,rv,o,h1,h2,n,h3⟩:=(show bS P w H h a (.tup vs) from ok a _ ha)
    obtain ⟨as,q⟩:=eY ok ds vs its (by simpa only [PyData.canLay0] using c) r rv;exact ⟨as,.tuple h1 h2 h3 (by simpa using q)⟩
  | .list ds,v,u,c,r,e=>by
    simp only [Rp] at r;obtain ⟨a,ob,vs,rfl,ha,r⟩:=r;cases e;obtain ⟨_,_,its,n,rv,h1⟩:=(show bS P w H h a (.frz ob (.lst vs)) from ok a _ ha)
    obtain ⟨as,q⟩:=eY ok ds vs its (by simpa only [PyData.canLay0] using c) r rv;exact ⟨a::as,.list h1 rfl rfl (by simpa using q)⟩
  | .dict kvs,v,u,c,r,e=>by simp [PyData.canLay0] at c
theorem eY (ok:fZ P w H h):∀ (ds:List PyData) (vs:List V) (us:List Value),PyData.canLayAll0 ds=true->bd H ds vs->bi vs us->∃ as,ReadsAll h us ds as
  | [],vs,us,_,r,e=>by rw [r.nil_inv] at e;cases e;exact ⟨_,.nil⟩
  | d::ds,vs,us,c,r,e=>by
    obtain ⟨v,r',rfl,p,t⟩:=r.cons_inv;have c':d.canLay0=true/\PyData.canLayAll0 ds=true:=by simpa [PyData.canLayAll0] using c
    cases e with
    | cons e1 e2 =>
      obtain ⟨as,q1⟩:=oA ok d v _ c'.1 p e1;obtain ⟨bs,q2⟩:=eY ok ds r' _ c'.2 t e2;exact ⟨as++bs,.cons q1 q2⟩
end
theorem cI (ok:fZ P w H h) {d:PyData} {v:V} {u:Value} (c:d.canLay0=true) (r:fY H d v) (e:bw v u):∃ as,Reads h u d as:=by
  rcases r with r | r
  · exact oA ok d v u c r e
  · cases d <;> simp only [gF] at r
    · rename_i ds;obtain ⟨a,vs,rfl,ha,r⟩:=r;cases e;obtain ⟨_,its,n,rv,h1⟩:=(show bS P w H h a (.lst vs) from ok a _ ha)
      obtain ⟨as,q⟩:=eY ok ds vs its (by simpa only [PyData.canLay0] using c) r rv;exact ⟨a::as,.list h1 rfl rfl (by simpa using q)⟩
    · simp [PyData.canLay0] at c
end
noncomputable def fN:PyData->Option cC
  | .int i=>some (.inl i)
  | .str y=>some (.inr y)
  | _=>none
noncomputable def fj:PyData->PyData->Bool
  | .int i,.int j=>decide (i=j)
  | .str i,.str j=>decide (i=j)
  | _,_=>false
noncomputable def pM (kvs:List (PyData×PyData)) (k v:PyData):List (PyData×PyData) :=
  if (kvs.any fun kv=>fj kv.1 k)=true then kvs.map (fun kv=>if fj kv.1 k=true then (kv.1,v) else kv) else kvs++[(k,v)]
theorem im (κ κ':cC):fj (eh κ) (eh κ')=decide (κ=κ'):=by
  cases κ with
  | inl i =>
    cases κ' with
    | inl j=>simp [eh,fj]
    | inr j=>simp [eh,fj]
  | inr i =>
    cases κ' with
    | inl j=>simp [eh,fj]
    | inr j=>simp [eh,fj]
theorem da.cons {H:Hp} {k d:PyData} {kvs:List (PyData×PyData)} {κ:cC} {v:V} {ks:List (cC×V)} (e:k=eh κ) (h:Rp H d v) (t:da H kvs ks):da H ((k,d)::kvs) ((κ,v)::ks):=by
  simp only [da,wl];exact ⟨κ,v,ks,rfl,⟨e,h⟩,t⟩
theorem da.cons_inv {H:Hp} {k d:PyData} {kvs:List (PyData×PyData)} {ks:List (cC×V)} (h:da H ((k,d)::kvs) ks):∃ κ v r,ks=(κ,v)::r/\k=eh κ/\Rp H d v/\da H kvs r:=by
  simp only [da,wl] at h;obtain ⟨κ,v,r,e,⟨e1,p⟩,t⟩:=h;exact ⟨κ,v,r,e,e1,p,t⟩
theorem da.nil_inv {H:Hp} {ks:List (cC×V)} (h:da H [] ks):ks=[]:=by simpa only [da] using h
theorem da.any {H:Hp} (κ:cC):∀ {kvs:List (PyData×PyData)} {ks:List (cC×V)},da H kvs ks->(kvs.any fun kv=>fj kv.1 (eh κ))=ks.any fun kv=>decide (kv.1=κ)
  | [],ks,h=>by rw [h.nil_inv];rfl
  | (k,d)::kvs,ks,h=>by
    obtain ⟨κ',v,r,rfl,rfl,p,t⟩:=h.cons_inv;rw [List.any_cons,List.any_cons,da.any κ t,im]
theorem da.repl {H:Hp} (κ:cC) {d:PyData} {v:V} (hv:Rp H d v):∀ {kvs:List (PyData×PyData)} {ks:List (cC×V)},da H kvs ks ->
    da H (kvs.map fun kv=>if fj kv.1 (eh κ)=true then (kv.1,d) else kv) (ks.map fun kv=>if kv.1=κ then (kv.1,v) else kv)
  | [],ks,h=>by rw [h.nil_inv];simp only [List.map_nil,da]
  | (k,d')::kvs,ks,h=>by
    obtain ⟨κ',v',r,rfl,rfl,p,t⟩:=h.cons_inv;rw [List.map_cons,List.map_cons];dsimp only;rw [im];by_cases e:κ'=κ
    · rw [if_pos (decide_eq_true e),if_pos e];exact da.cons rfl hv (da.repl κ hv t)
    · rw [if_neg (by rw [decide_eq_false e];exact Bool.false_ne_true),if_neg e];exact da.cons rfl p (da.repl κ hv t)
theorem da.snoc {H:Hp} {κ:cC} {d:PyData} {v:V} (hv:Rp H d v):∀ {kvs:List (PyData×PyData)} {ks:List (cC×V)},da H kvs ks->da H (kvs++[(eh κ,d)]) (ks++[(κ,v)])
  | [],ks,h=>by rw [h.nil_inv];exact da.cons rfl hv (by simp only [da])
  | (k,d')::kvs,ks,h=>by
    obtain ⟨κ',v',r,rfl,rfl,p,t⟩:=h.cons_inv;exact da.cons rfl p (da.snoc hv t)
theorem da.put {H:Hp} (κ:cC) {d:PyData} {v:V} (hv:Rp H d v) {kvs:List (PyData×PyData)} {ks:List (cC×V)} (h:da H kvs ks):da H (pM kvs (eh κ) d) (i9 ks κ v):=by
  unfold pM i9;rw [h.any κ];split
  · exact h.repl κ hv
  · exact h.snoc hv
noncomputable def jI (kvs:List (PyData×PyData)) (k:PyData):Option PyData:=(kvs.find? fun kv=>fj kv.1 k).map (·.2)
theorem da.look {H:Hp} (κ:cC):∀ {kvs:List (PyData×PyData)} {ks:List (cC×V)},da H kvs ks->(jI kvs (eh κ)=none/\ir ks κ=none)\/∃ d v,jI kvs (eh κ)=some d/\ir ks κ=some v/\Rp H d v
  | [],ks,h=>.inl (by rw [h.nil_inv];exact ⟨rfl,rfl⟩)
  | (k,d)::kvs,ks,h=>by
    obtain ⟨κ',v,r,rfl,rfl,p,t⟩:=h.cons_inv;unfold jI ir;by_cases e:κ'=κ
    · rw [List.find?_cons_of_pos (by rw [im];exact decide_eq_true e),List.find?_cons_of_pos (by exact decide_eq_true e)];exact .inr ⟨d,v,rfl,rfl,p⟩
    · rw [List.find?_cons_of_neg (by rw [im,decide_eq_false e];exact Bool.false_ne_true),List.find?_cons_of_neg (by rw [decide_eq_false e];exact Bool.false_ne_true)];exact da.look κ t
theorem nT {d:PyData} {κ:cC} (h:fN d=some κ):d=eh κ:=by
  cases d <;> simp only [fN] at h <;> cases h <;> rfl
theorem qJ {H:Hp} {d:PyData} {x:V} {κ:cC} (h:fY H d x) (e:fN d=some κ):x=kV κ:=by
  cases d <;> simp only [fN] at e <;> cases e
  · exact bp h
  · exact gy h
theorem rJ {H:Hp} {a:Addr} {kvs:List (PyData×PyData)} {ks:List (cC×V)} {κ:cC} (h:Rd H a (.dK ks)) (r:da H kvs ks):∃ o,kL H a (kV κ) o/\o.isSome=(jI kvs (eh κ)).isSome/\∀ d,jI kvs (eh κ)=some d->∃ v,o=some v/\Rp H d v:=by
  refine ⟨ir ks κ,.inl ⟨ks,κ,h,rfl,rfl⟩,?_⟩;rcases r.look κ with ⟨e1,e2⟩ | ⟨d,v,e1,e2,p⟩
  · rw [e1,e2];exact ⟨rfl,fun d z=>by cases z⟩
  · rw [e1,e2];exact ⟨rfl,fun d z=>by cases z;exact ⟨v,rfl,p⟩⟩
noncomputable def mo:PyData->PyData->R PyData
  | .int i,.int j=>.ok (.int (i-j))
  | _,_=>.no
noncomputable def ej:PyData->PyData->R PyData
  | .int i,.int j=>if 0 < j then .ok (.int (i%j)) else .no
  | _,_=>.no
noncomputable def kA:PyData->PyData->R PyData
  | .int i,.int j=>if 0 < j/\j < 1073741824 then .ok (.int (i / j)) else .no
  | _,_=>.no
noncomputable def kB (p:Int->Int->Bool):PyData->PyData->R PyData
  | .int i,.int j=>.ok (.bool (p i j))
  | _,_=>.no
noncomputable def mG (x y:PyData):Bool:=x.canLay0&&y.canLay0&&decide (min x.depth y.depth<=60)
noncomputable def iy (x y:PyData):R PyData:=if mG x y=true then .ok (.bool (PyData.eqv x y)) else .no
noncomputable def pT (x y:PyData):R PyData:=if mG x y=true then .ok (.bool (!PyData.eqv x y)) else .no
noncomputable def j7:PyData->Bool
  | .none=>true
  | _=>false
noncomputable def rF (x y:PyData):R PyData:=if j7 y=true then .ok (.bool (!j7 x)) else .no
noncomputable def mY (xs:List PyData) (d:PyData):Bool:=PyData.canLayAll0 xs&&d.canLay0&&decide (min (PyData.depthAll xs) d.depth<=60)
noncomputable def jp (neg:Bool) (d:PyData):PyData->R PyData
  | .list xs=>if mY xs d=true then .ok (.bool (if neg then !(xs.any fun y=>PyData.eqv y d) else xs.any fun y=>PyData.eqv y d)) else .no
  | .tuple xs=>if mY xs d=true then .ok (.bool (if neg then !(xs.any fun y=>PyData.eqv y d) else xs.any fun y=>PyData.eqv y d)) else .no
  | .dict kvs=>if lP kvs=true then .no else match fN d with
    | some _=>.ok (.bool (if neg then !(jI kvs d).isSome else (jI kvs d).isSome))
    | none=>.no
  | _=>.no
section
variable {X:Cx} {a b c:Expr} {fa fb fc:Fe} {pos:Pos}
theorem cy {H:Hp} {i:Int}:Rp H (.int i) (.int i):=by simp only [Rp]
theorem ff {H:Hp} {i:Bool}:Rp H (.bool i) (.bl i):=by simp only [Rp]
theorem vG {H:Hp} {i:Str}:Rp H (.str i) (.str i):=by simp only [Rp]
theorem zz:cj X iF (xt fun i j=>.int (i-j)) mo:=fun H x y dx dy Q hx hy q=>by
  unfold mo at q;split at q
  · exact ⟨_,_,bp hx,bp hy,q _ H (ar.refl _) cy⟩
  · exact q.elim
theorem zf:cj X iF (rI (fun _ j=>0 < j) fun i j=>.int (i%j)) ej:=fun H x y dx dy Q hx hy q=>by
  unfold ej at q;split at q
  · split at q
    · rename_i h;exact ⟨_,_,bp hx,bp hy,h,q _ H (ar.refl _) cy⟩
    · exact q.elim
  · exact q.elim
theorem yS:cj X iF (rI Ag fun i j=>.int (i / j)) kA:=fun H x y dx dy Q hx hy q=>by
  unfold kA at q;split at q
  · split at q
    · rename_i h;exact ⟨_,_,bp hx,bp hy,h,q _ H (ar.refl _) cy⟩
    · exact q.elim
  · exact q.elim
theorem tV {p:Int->Int->Bool}:cj X iF (xt fun i j=>.bl (p i j)) (kB p):=fun H x y dx dy Q hx hy q=>by
  unfold kB at q;split at q
  · exact ⟨_,_,bp hx,bp hy,q _ H (ar.refl _) ff⟩
  · exact q.elim
theorem je (ha:Z.di X a fa) (hb:Z.di X b fb):Z.cJ X (.BinOp a .Sub b pos) (e2 mo fa fb):=⟨have ha:=ha.un;have hb:=hb.un;kQ fD zL zz ha hb⟩
theorem bF (ha:Z.di X a fa) (hb:Z.di X b fb):Z.cJ X (.BinOp a .Mod b pos) (e2 ej fa fb):=⟨have ha:=ha.un;have hb:=hb.un;kQ fD yx zf ha hb⟩
theorem eK (ha:Z.di X a fa) (hb:Z.di X b fb):Z.cJ X (.BinOp a .FloorDiv b pos) (e2 kA fa fb):=⟨have ha:=ha.un;have hb:=hb.un;kQ fD xg yS ha hb⟩
noncomputable abbrev AS:Int->Int->Bool:=fun i j=>decide (i < j)
noncomputable abbrev Bg:Int->Int->Bool:=fun i j=>decide (i<=j)
theorem oy (ha:Z.di X a fa) (hb:Z.di X b fb):Z.jY X (.Compare a [.Lt] [b] pos) (tE (e2 (kB AS) fa fb)):=⟨have ha:=ha.un;have hb:=hb.un;fg z5 tV ha hb (iI _)⟩
theorem uO (ha:Z.di X a fa) (hb:Z.di X b fb):Z.jY X (.Compare a [.LtE] [b] pos) (tE (e2 (kB Bg) fa fb)):=⟨have ha:=ha.un;have hb:=hb.un;fg Ar tV ha hb (iI _)⟩
noncomputable def wW (X:Cx) (neg:Bool):R2:=fun x y H Q=>∃ dx dy,fY H dx x/\fY H dy y/\mG dx dy=true/\Q (.bl (if neg then !PyData.eqv dx dy else PyData.eqv dx dy)) H
theorem kS {x y:PyData} (h:mG x y=true):x.canLay0=true/\y.canLay0=true/\min x.depth y.depth<=60:=by
  unfold mG at h;rw [Bool.and_eq_true,Bool.and_eq_true,decide_eq_true_eq] at h;exact ⟨h.1.1,h.1.2,h.2⟩
theorem tI (hu:X.A.units+64 < cLine):iT X (compareOp .Eq) (wW X false):=by
  intro pins s σ H x y v u Q I rx ry h;obtain ⟨dx,dy,hx,hy,ho,q⟩:=h;obtain ⟨c1,c2,c3⟩:=kS ho;obtain ⟨as,r1⟩:=cI I.hok c1 hx rx;obtain ⟨bs,r2⟩:=cI I.hok c2 hy ry;exact PySem.SeqAt.compareEq_reads r1 r2 c1 c2 (by omega) ⟨.bl _,H,I,rfl,q⟩
theorem yV (hu:X.A.units+64 < cLine):iT X (compareOp .NotEq) (wW X true):=by
  intro pins s σ H x y v u Q I rx ry h;obtain ⟨dx,dy,hx,hy,ho,q⟩:=h;obtain ⟨c1,c2,c3⟩:=kS ho;obtain ⟨as,r1⟩:=cI I.hok c1 hx rx;obtain ⟨bs,r2⟩:=cI I.hok c2 hy ry;exact PySem.SeqAt.compareNe_reads r1 r2 c1 c2 (by omega) ⟨.bl _,H,I,rfl,q⟩
theorem yc:cj X iF (wW X false) iy:=fun H x y dx dy Q hx hy q=>by
  unfold iy at q;split at q
  · rename_i h;exact ⟨dx,dy,hx,hy,h,q _ H (ar.refl _) ff⟩
  · exact q.elim
theorem AJ:cj X iF (wW X true) pT:=fun H x y dx dy Q hx hy q=>by
  unfold pT at q;split at q
  · rename_i h;exact ⟨dx,dy,hx,hy,h,q _ H (ar.refl _) ff⟩
  · exact q.elim
theorem wS (hu:X.A.units+64 < cLine) (ha:Z.di X a fa) (hb:Z.di X b fb):Z.cJ X (.Compare a [.Eq] [b] pos) (e2 iy fa fb):=⟨have ha:=ha.un;have hb:=hb.un;yH (tI hu) yc ha hb (iI _)⟩
theorem df (hu:X.A.units+64 < cLine) (ha:Z.di X a fa) (hb:Z.di X b fb):Z.jY X (.Compare a [.Eq] [b] pos) (tE (e2 iy fa fb)):=⟨have ha:=ha.un;have hb:=hb.un;fg (tI hu) yc ha hb (iI _)⟩
theorem kU (hu:X.A.units+64 < cLine) (ha:Z.di X a fa) (hb:Z.di X b fb):Z.jY X (.Compare a [.NotEq] [b] pos) (tE (e2 pT fa fb)):=⟨have ha:=ha.un;have hb:=hb.un;fg (yV hu) AJ ha hb (iI _)⟩
theorem wD {H:Hp} {d:PyData} {x:V} (h:fY H d x):decide (x=.non)=j7 d:=by
  cases d with
  | none=>rw [nX h];rfl
  | bool b=>rw [oo h];rfl
  | int i=>rw [bp h];rfl
  | str y=>rw [gy h];rfl
  | tuple ds=>obtain ⟨a,vs,rfl,_⟩:=cv h;rfl
  | list ds=>obtain ⟨a,vs,rfl,_⟩:=cH (K:=default) h;rfl
  | dict kvs=>obtain ⟨a,rfl⟩:=vc h;rfl
theorem wu:cj X iF (fun x y H Q=>y=.non/\Q (.bl (!decide (x=.non))) H) rF:=fun H x y dx dy Q hx hy q=>by
  unfold rF at q;split at q
  · rename_i h;cases dy <;> simp only [j7,Bool.false_eq_true] at h;exact ⟨nX hy,by rw [wD hx];exact q _ H (ar.refl _) ff⟩
  · exact q.elim
theorem pY (ha:Z.di X a fa) (hb:Z.di X b fb):Z.jY X (.Compare a [.IsNot] [b] pos) (tE (e2 rF fa fb)):=⟨have ha:=ha.un;have hb:=hb.un;fg vP wu ha hb (iI _)⟩
noncomputable def Br (X:Cx) (neg:Bool):R2:=fun x y H Q=>∃ d xs,fY H d x/\(fY H (.list xs) y\/fY H (.tuple xs) y)/\mY xs d=true/\Q (.bl (if neg then !(xs.any fun z=>PyData.eqv z d) else xs.any fun z=>PyData.eqv z d)) H
noncomputable def zn (X:Cx) (neg:Bool):R2:=fun x y H Q=>Br X neg x y H Q\/∃ a o,y=.ref a/\kL H a x o/\Q (.bl (if neg then !o.isSome else o.isSome)) H
theorem kF {xs:List PyData} {d:PyData} (h:mY xs d=true):PyData.canLayAll0 xs=true/\d.canLay0=true/\min (PyData.depthAll xs) d.depth<=60:=by
  unfold mY at h;rw [Bool.and_eq_true,Bool.and_eq_true,decide_eq_true_eq] at h;exact ⟨h.1.1,h.1.2,h.2⟩
theorem yR (hu:X.A.units+64 < cLine):iT X (compareOp .In) (zn X false):=by
  intro pins s σ H x y v u Q I rx ry h;rcases h with h | ⟨a,o,rfl,g,q⟩
  case inr =>
    cases ry;exact BM (by omega) I g rx fun s' I'=>⟨.bl _,H,I',rfl,q⟩
  obtain ⟨d,xs,hx,hy,ho,q⟩:=h;obtain ⟨c1,c2,c3⟩:=kF ho;obtain ⟨as,r1⟩:=cI I.hok c2 hx rx;rcases hy with hy | hy
  · obtain ⟨bs,r2⟩:=cI I.hok (d:=.list xs) (by simpa only [PyData.canLay0] using c1) hy ry;exact PySem.SeqAt.in_list_reads r2 r1 c1 c2 (by omega) ⟨.bl _,H,I,rfl,q⟩
  · obtain ⟨bs,r2⟩:=cI I.hok (d:=.tuple xs) (by simpa only [PyData.canLay0] using c1) hy ry;exact PySem.SeqAt.in_tuple_reads r2 r1 c1 c2 (by omega) ⟨.bl _,H,I,rfl,q⟩
theorem rR (hu:X.A.units+64 < cLine):iT X (compareOp .NotIn) (zn X true):=by
  intro pins s σ H x y v u Q I rx ry h;rcases h with h | ⟨a,o,rfl,g,q⟩
  case inr =>
    cases ry;exact wX (by omega) I g rx fun s' I'=>⟨.bl _,H,I',rfl,q⟩
  obtain ⟨d,xs,hx,hy,ho,q⟩:=h;obtain ⟨c1,c2,c3⟩:=kF ho;obtain ⟨as,r1⟩:=cI I.hok c2 hx rx;rcases hy with hy | hy
  · obtain ⟨bs,r2⟩:=cI I.hok (d:=.list xs) (by simpa only [PyData.canLay0] using c1) hy ry;exact PySem.SeqAt.notIn_list_reads r2 r1 c1 c2 (by omega) ⟨.bl _,H,I,rfl,q⟩
  · obtain ⟨bs,r2⟩:=cI I.hok (d:=.tuple xs) (by simpa only [PyData.canLay0] using c1) hy ry;exact PySem.SeqAt.notIn_tuple_reads r2 r1 c1 c2 (by omega) ⟨.bl _,H,I,rfl,q⟩
theorem xU {neg:Bool}:cj X iF (zn X neg) (jp neg):=fun H x y dx dy Q hx hy q=>by
  unfold jp at q;split at q
  · split at q
    · rename_i h;exact .inl ⟨dx,_,hx,.inl hy,h,q _ H (ar.refl _) ff⟩
    · exact q.elim
  · split at q
    · rename_i h;exact .inl ⟨dx,_,hx,.inr hy,h,q _ H (ar.refl _) ff⟩
    · exact q.elim
  · split at q
    · exact q.elim
    rename_i hi;split at q
    · rename_i κ e;obtain ⟨a,ks,rfl,h,r⟩:=jg (Bool.not_eq_true _ ▸ hi) hy;obtain ⟨o,g,e1,_⟩:=rJ (κ:=κ) h r;rw [<- qJ hx e] at g;rw [<- nT e] at e1;exact .inr ⟨a,o,rfl,g,by rw [e1];exact q _ H (ar.refl _) ff⟩
    · exact q.elim
  · exact q.elim
theorem jd (hu:X.A.units+64 < cLine) (ha:Z.di X a fa) (hb:Z.di X b fb) (hm:behindInMarks .In b=false):Z.jY X (.Compare a [.In] [b] pos) (tE (e2 (jp false) fa fb)):=⟨have ha:=ha.un;have hb:=hb.un;fg (yR hu) xU ha hb hm⟩
theorem jJ (hu:X.A.units+64 < cLine) (ha:Z.di X a fa) (hb:Z.di X b fb) (hm:behindInMarks .NotIn b=false):Z.jY X (.Compare a [.NotIn] [b] pos) (tE (e2 (jp true) fa fb)):=⟨have ha:=ha.un;have hb:=hb.un;fg (rR hu) xU ha hb hm⟩
end
inductive uV where
  | nx (ρ:aD)
  | rt (d:PyData)
  | bk (ρ:aD)
  | ct (ρ:aD)
noncomputable abbrev Fs:=aD->R uV
structure gC (Fm H:Hp) (σ:St) (ρ:aD):Prop where
  fm:ar Fm H
  sl:Sl H σ ρ
  own:∀ (i:Nat) (d:PyData) (a:Addr),ρ[i]?=some (.own d)->σ[i]?=some (some (.ref a))->Fm a=none
  apart:∀ (i j:Nat) (d e:PyData) (a:Addr),ρ[i]?=some (.own d)->ρ[j]?=some (.own e)->σ[i]?=some (some (.ref a))->σ[j]?=some (some (.ref a))->i=j
theorem gC.mono {Fm H H':Hp} {σ:St} {ρ:aD} (h:gC Fm H σ ρ) (s:ar H H'):gC Fm H' σ ρ:=⟨h.fm.trans s,h.sl.mono s,h.own,h.apart⟩
noncomputable def wm (X:Cx) (Fm:Hp) (r:R uV) (D:qk):Prop :=
  match r with
  | .ok (.nx ρ)=>∀ σ H,gC Fm H σ ρ->D.nx σ H
  | .ok (.rt d)=>∀ v H,ar Fm H->Rp H d v->D.rt v H
  | .ok (.bk ρ)=>∀ σ H,gC Fm H σ ρ->D.bk σ H
  | .ok (.ct ρ)=>∀ σ H,gC Fm H σ ρ->D.ct σ H
  | .ex c=>Xw X c Fm/\A3 X c Fm
  | .no=>False
noncomputable def xP (X:Cx) (Fm:Hp) (g:Fs):TS:=fun D σ H=>∃ ρ,gC Fm H σ ρ/\wm X Fm (g ρ) D
noncomputable def jT (X:Cx) (st:Stmt) (g:Fs):Prop:=∀ Fm,PS X st (xP X Fm g)
structure Z.jT (X:Cx) (st:Stmt) (g:Fs):Prop where
  un:D2.jT X st g
noncomputable def jC (X:Cx) (st:List Stmt) (g:Fs):Prop:=∀ Fm,nc X st (xP X Fm g)
structure Z.jC (X:Cx) (st:List Stmt) (g:Fs):Prop where
  un:D2.jC X st g
theorem PS.imp {X:Cx} {e:Stmt} {t t':TS} (h:PS X e t) (i:∀ D σ H,t' D σ H->t D σ H):PS X e t':=fun pins s σ H D I q=>h pins s σ H D I (i D σ H q)
theorem nc.imp {X:Cx} {e:List Stmt} {t t':TS} (h:nc X e t) (i:∀ D σ H,t' D σ H->t D σ H):nc X e t':=fun pins s σ H D I q=>h pins s σ H D I (i D σ H q)
section
variable {X:Cx} {Fm:Hp} {σ:St} {H:Hp} {D:qk}
theorem mq {P:Hp->Hp->PyData->V->Prop} {f:Fe} {k:aD->PyData->R uV} (h:xP X Fm (fun ρ=>f ρ>>=k ρ) D σ H) :
    iV X P f σ H (fun v H1=>∃ ρ d,gC Fm H1 σ ρ/\ar H H1/\P H H1 d v/\wm X Fm (k ρ d) D):=by
  obtain ⟨ρ,sl,q⟩:=h;refine ⟨ρ,sl.sl,?_⟩;dsimp only at q;cases e:f ρ with
  | ok d=>rw [e] at q;exact fun v H1 s p=>⟨ρ,d,sl.mono s,s,p,q⟩
  | ex c=>rw [e] at q;exact q.1.mono sl.fm
  | no=>rw [e] at q;exact q
theorem qN {f:aD->R Bool} {k:aD->Bool->R uV} (h:xP X Fm (fun ρ=>f ρ>>=k ρ) D σ H):wx X f σ H (fun b H1=>∃ ρ,gC Fm H1 σ ρ/\ar H H1/\wm X Fm (k ρ b) D):=by
  obtain ⟨ρ,sl,q⟩:=h;refine ⟨ρ,sl.sl,?_⟩;dsimp only at q;cases e:f ρ with
  | ok d=>rw [e] at q;exact fun H1 s=>⟨ρ,sl.mono s,s,q⟩
  | ex c=>rw [e] at q;exact q.1.mono sl.fm
  | no=>rw [e] at q;exact q
end
noncomputable def cK:Fs:=fun ρ=>.ok (.nx ρ)
noncomputable def qI (h:Fs):uV->R uV
  | .nx ρ=>h ρ
  | o=>.ok o
noncomputable def aY (g h:Fs):Fs:=fun ρ=>g ρ>>=qI h
noncomputable def j8 (t:aD->R Bool) (g h:Fs):Fs:=fun ρ=>t ρ>>=fun b=>if b=true then g ρ else h ρ
noncomputable def cW (f:Fe):Fs:=fun ρ=>f ρ>>=fun d=>.ok (.rt d)
noncomputable def bo (i:Nat) (f:Fe):Fs:=fun ρ=>f ρ>>=fun d=>.ok (.nx (ρ.set i (.val d)))
noncomputable def iO (i:Nat) (f:Fe):Fs:=fun ρ=>f ρ>>=fun d=>.ok (.nx (ρ.set i (.own d)))
section
variable {X:Cx} {nl:Nat} {G:List Str} {st:Stmt} {sts:List Stmt} {g h:Fs} {f:Fe} {e:Expr} {pos pos':Pos} {x:Str}
theorem cw  : Z.jC X [] cK:=⟨fun Fm=>nc.imp wz fun D σ H ⟨ρ,sl,q⟩=>q σ H sl⟩
theorem ao (h1:Z.jT X st g) (h2:Z.jC X sts h):Z.jC X (st::sts) (aY g h):=⟨have h1:=h1.un;have h2:=h2.un;fun Fm=>by
  refine nc.imp (tw (h1 Fm) (h2 Fm)) fun D σ H ⟨ρ,sl,q⟩=>⟨ρ,sl,?_⟩
  unfold aY at q;cases e:g ρ with
  | ex c=>rw [e] at q;exact q
  | no=>rw [e] at q;exact q
  | ok o =>
    rw [e] at q;cases o with
    | nx ρ'=>exact fun σ' H' s'=>⟨ρ',s',q⟩
    | rt d=>exact q
    | bk ρ'=>exact q
    | ct ρ'=>exact q⟩
theorem av (h1:Z.jT X st g):Z.jC X [st] g:=⟨have h1:=h1.un;fun Fm=>wI (h1 Fm)⟩
theorem aM (he:Z.cJ X e f):Z.jT X (.Return (some e) pos) (cW f):=⟨have he:=he.un;fun Fm =>
  PS.imp (qm he) fun D σ H h=>(mq (P:=iF) (f:=f) (k:=fun _ d=>.ok (.rt d)) h).post fun v H1 ⟨ρ,d,sl,_,p,q⟩=>q v H1 sl.fm p⟩
theorem cX {c:Expr} {a b:List Stmt} {t:aD->R Bool} (hc:Z.jY X c t) (ha:Z.jC X a g) (hb:Z.jC X b h):Z.jT X (.If c a b pos) (j8 t g h):=⟨have hc:=hc.un;have ha:=ha.un;have hb:=hb.un;fun Fm =>
  PS.imp (At hc (ha Fm) (hb Fm)) fun D σ H q=>(qN (f:=t) (k:=fun ρ b=>if b=true then g ρ else h ρ) q).post fun b H1 ⟨ρ,sl,_,q⟩=>by
    cases b with
    | true=>exact ⟨ρ,sl,q⟩
    | false=>exact ⟨ρ,sl,q⟩⟩
theorem Sl.set {H:Hp} {σ:St} {ρ:aD} {c:bm} {o:Option V} (h:Sl H σ ρ) (i:Nat) (hc:g9 H c o):Sl H (σ.set i o) (ρ.set i c):=by
  refine ⟨by rw [List.length_set,List.length_set];exact h.1,fun j c' o' h1 h2=>?_⟩;rw [List.getElem?_set] at h1 h2;by_cases hij:i=j
  · rw [if_pos hij] at h1 h2;by_cases hi:i < ρ.length
    · rw [if_pos hi] at h1;rw [if_pos (by rw [h.1];exact hi)] at h2;cases h1;cases h2;exact hc
    · rw [if_neg hi] at h1;cases h1
  · rw [if_neg hij] at h1 h2;exact h.2 j c' o' h1 h2
theorem ce {ρ:aD} {i j:Nat} {c:bm} {d:PyData} (hc:∀ e,c≠.own e) (h:(ρ.set i c)[j]?=some (.own d)):i≠j/\ρ[j]?=some (.own d):=by
  rw [List.getElem?_set] at h;by_cases hij:i=j
  · rw [if_pos hij] at h;split at h
    · exact absurd (Option.some.inj h) (hc d)
    · cases h
  · rw [if_neg hij] at h;exact ⟨hij,h⟩
theorem gC.set {Fm H:Hp} {σ:St} {ρ:aD} {c:bm} {o:Option V} (h:gC Fm H σ ρ) (i:Nat) (hn:∀ e,c≠.own e) (hc:g9 H c o):gC Fm H (σ.set i o) (ρ.set i c):=by
  refine ⟨h.fm,h.sl.set i hc,fun j d a h1 h2=>?_,fun j k d e a h1 h2 h3 h4=>?_⟩
  · obtain ⟨ne,h1⟩:=ce hn h1;rw [List.getElem?_set,if_neg ne] at h2;exact h.own j d a h1 h2
  · obtain ⟨ne,h1⟩:=ce hn h1;obtain ⟨ne',h2⟩:=ce hn h2;rw [List.getElem?_set,if_neg ne] at h3;rw [List.getElem?_set,if_neg ne'] at h4;exact h.apart j k d e a h1 h2 h3 h4
theorem mC {H:Hp} {d:PyData} {v:V} (h:gF H d v):∃ a o,v=.ref a/\H a=some o:=by
  cases d <;> simp only [gF] at h
  · obtain ⟨a,vs,e,ha,_⟩:=h;exact ⟨a,_,e,ha⟩
  · obtain ⟨a,vs,e,ha,_⟩:=h;exact ⟨a,_,e,ha⟩
theorem gC.setOwn {Fm H0 H:Hp} {σ:St} {ρ:aD} {d:PyData} {v:V} (h0:gC Fm H0 σ ρ) (h:gC Fm H σ ρ) (hs:ar H0 H) (i:Nat) (hn:zU H0 H d v):gC Fm H (σ.set i (some v)) (ρ.set i (.own d)):=by
  obtain ⟨p,a,rfl,ha⟩:=hn;have old:∀ (j:Nat) (e:PyData) (b:Addr),i≠j->(ρ.set i (.own d))[j]?=some (.own e)->(σ.set i (some (.ref a)))[j]?=some (some (.ref b))->ρ[j]?=some (.own e)/\σ[j]?=some (some (.ref b)):=fun j e b ne h1 h2=>by
    rw [List.getElem?_set,if_neg ne] at h1 h2;exact ⟨h1,h2⟩
  have notA:∀ (j:Nat) (e:PyData),ρ[j]?=some (.own e)->σ[j]?=some (some (.ref a))->False:=fun j e h1 h2=>by
    obtain ⟨u,e1,q⟩:=h0.sl.2 j _ _ h1 h2;cases e1;obtain ⟨b,o,e2,hb⟩:=mC q;cases e2;rw [ha] at hb;cases hb
  have here:∀ (b:Addr),(σ.set i (some (.ref a)))[i]?=some (some (.ref b))->b=a:=fun b h2=>by
    rw [List.getElem?_set,if_pos rfl] at h2;split at h2
    · cases h2;rfl
    · cases h2
  refine ⟨h.fm,h.sl.set i ⟨_,rfl,p⟩,fun j e b h1 h2=>?_,fun j k e f b h1 h2 h3 h4=>?_⟩
  · by_cases hij:i=j
    · subst hij;rw [here b h2];exact (h0.fm).free ha
    · obtain ⟨h1,h2⟩:=old j e b hij h1 h2;exact h.own j e b h1 h2
  · by_cases hij:i=j
    · subst hij;have eb:=here b h3;by_cases hik:i=k
      · exact hik
      · obtain ⟨h2,h4⟩:=old k f b hik h2 h4;rw [eb] at h4;exact (notA k f h2 h4).elim
    · obtain ⟨h1,h3⟩:=old j e b hij h1 h3;by_cases hik:i=k
      · subst hik;have eb:=here b h4;rw [eb] at h3;exact (notA j e h1 h3).elim
      · obtain ⟨h2,h4⟩:=old k f b hik h2 h4;exact h.apart j k e f b h1 h2 h3 h4
theorem aB (T:Tb X nl G) (i:Nat) (hN:(X.N.take nl)[i]?=some x) (he:Z.cJ X e f) (hs:swapsWith e (some (.Name x pos')) pos.line X.env=pure false:=by rfl):Z.jT X (.Assign [.Name x pos'] e pos) (bo i f):=⟨have he:=he.un;fun Fm=>by
  have hm:=T.loc x (List.mem_of_getElem? hN);have hi:X.N[i]?=some x:=by
    rw [List.getElem?_take] at hN;split at hN
    · exact hN
    · cases hN
  exact PS.imp (tX T.nd hi hm.1 he hs hm.2) fun D σ H h=>(mq (P:=iF) (f:=f) (k:=fun ρ d=>.ok (.nx (ρ.set i (.val d)))) h).post fun v H1 ⟨ρ,d,sl,_,p,q⟩ =>
    q _ H1 (sl.set i (fun e z=>by cases z) ⟨v,rfl,p⟩)⟩
theorem nI (T:Tb X nl G) (i:Nat) (hN:(X.N.take nl)[i]?=some x) (he:Z.la X e f) (hs:swapsWith e (some (.Name x pos')) pos.line X.env=pure false:=by rfl):Z.jT X (.Assign [.Name x pos'] e pos) (iO i f):=⟨have he:=he.un;fun Fm=>by
  have hm:=T.loc x (List.mem_of_getElem? hN);have hi:X.N[i]?=some x:=by
    rw [List.getElem?_take] at hN;split at hN
    · exact hN
    · cases hN
  refine PS.imp (tX T.nd hi hm.1 he hs hm.2) fun D σ H h=>?_
  obtain ⟨ρ0,sl0,q0⟩:=h;refine ⟨ρ0,sl0.sl,?_⟩;unfold iO at q0;cases ef:f ρ0 with
  | ex c=>rw [ef] at q0;exact q0.1.mono sl0.fm
  | no=>rw [ef] at q0;exact q0
  | ok d =>
    rw [ef] at q0;exact fun v H1 s p=>q0 _ H1 (gC.setOwn sl0 (sl0.mono s) s i p)⟩
end
structure vQ (J:It) (Gd:Hp->Prop) (ds:List PyData):Prop where
  go:∀ i H,Gd H->i < ds.length->J.go i H
  yld:∀ i H x H' d,Gd H->ds[i]?=some d->J.yld i H x H'->ar H H'/\Rp H' d x
  stop:∀ i H,Gd H->ds.length<=i->J.stop i H
noncomputable def Bk (H0:Hp) (B:Addr->Prop) (Gd:Hp->Prop):Prop:=∀ H,Kp H0 H->(∀ b o,B b->H0 b=some o->H b=some o)->Gd H
noncomputable def B9 (X:Cx) (f:aD->R (List PyData)):TI:=fun σ H Rk=>∃ ρ,Sl H σ ρ/\match f ρ with
  | .ok ds=>∀ J H',ar H H'->(∃ Gd,vQ J Gd ds/\Bk H' (fun _=>False) Gd)->Rk J H'
  | .ex c=>Xw X c H
  | .no=>False
noncomputable def pd (X:Cx) (tg iter:Expr) (f:aD->R (List PyData)):Prop:=PI X tg iter (B9 X f)
structure Z.pd (X:Cx) (tg iter:Expr) (f:aD->R (List PyData)):Prop where
  un:D2.pd X tg iter f
noncomputable def B5 (X:Cx) (b:PyData->aD->Option aD):TG:=fun v σ H Q=>∃ ρ d,Sl H σ ρ/\Rp H d v/\match b d ρ with
  | some ρ'=>∀ σ',Sl H σ' ρ'->(∀ (i:Nat) (e:PyData),ρ'[i]?=some (.own e)->ρ[i]?=some (.own e)/\σ'[i]?=σ[i]?)->Q σ' H
  | none=>False
noncomputable def rA (X:Cx) (tg:Expr) (b:PyData->aD->Option aD):Prop:=PG X tg (B5 X b)
structure Z.rA (X:Cx) (tg:Expr) (b:PyData->aD->Option aD):Prop where
  un:D2.rA X tg b
noncomputable def aG (i:Nat):PyData->aD->Option aD:=fun d ρ=>some (ρ.set i (.val d))
theorem PG.imp {X:Cx} {e:Expr} {t t':TG} (h:PG X e t) (i:∀ v σ H Q,t' v σ H Q->t v σ H Q):PG X e t':=fun pins s σ H v u Q I r q=>h pins s σ H v u Q I r (i v σ H Q q)
theorem PI.imp {X:Cx} {tg e:Expr} {t t':TI} (h:PI X tg e t) (i:∀ σ H Q,t' σ H Q->t σ H Q):PI X tg e t':=fun pins s σ H Q I q=>h pins s σ H Q I (i σ H Q q)
section
variable {X:Cx} {nl:Nat} {G:List Str} {x:Str} {pos:Pos}
theorem Tb.nm (T:Tb X nl G) {i:Nat} (hN:(X.N.take nl)[i]?=some x):X.N[i]?=some x/\zK X.env.scope x/\(X.fn x=true\/X.env.scope.names.lookup x=some .local):=by
  have hm:=T.loc x (List.mem_of_getElem? hN);have hi:X.N[i]?=some x:=by
    rw [List.getElem?_take] at hN;split at hN
    · exact hN
    · cases hN
  exact ⟨hi,hm⟩
theorem aO (T:Tb X nl G) (i:Nat) (hN:(X.N.take nl)[i]?=some x):Z.rA X (.Name x pos) (aG i):=⟨by
  obtain ⟨hi,h1,h2⟩:=T.nm hN;refine PG.imp (mn T.nd hi h1 h2) fun v σ H Q ⟨ρ,d,sl,p,q⟩=>?_
  refine q _ (sl.set i ⟨v,rfl,p⟩) fun j e h=>?_
  obtain ⟨ne,h⟩:=ce (fun e z=>by cases z) h;exact ⟨h,by rw [List.getElem?_set,if_neg ne]⟩⟩
end
noncomputable def dA (b:PyData->aD->Option aD) (g:Fs):List PyData->Fs
  | [],ρ=>.ok (.nx ρ)
  | d::ds,ρ=>match b d ρ with
    | none=>.no
    | some ρ1=>g ρ1>>=fun o=>match o with
      | .nx ρ2=>dA b g ds ρ2
      | .ct ρ2=>dA b g ds ρ2
      | .bk ρ2=>.ok (.nx ρ2)
      | .rt r=>.ok (.rt r)
noncomputable def gG (it:aD->R (List PyData)) (b:PyData->aD->Option aD) (g:Fs):Fs:=fun ρ=>it ρ>>=fun ds=>dA b g ds ρ
noncomputable def stab (Fm H:Hp):Hp:=fun b=>match H b with
  | some (.tup xs)=>some (.tup xs)
  | some (.frz o u)=>some (.frz o u)
  | _=>Fm b
theorem sB {Fm H:Hp} (h:ar Fm H):ar (stab Fm H) H:=fun b o e=>by
  unfold stab at e;split at e
  · rename_i q;rw [q];exact e
  · rename_i q;rw [q];exact e
  · exact h b o e
theorem w8 {Fm H:Hp}:Kp H (stab Fm H):=⟨fun b xs e=>by unfold stab;rw [e],fun b o u e=>by unfold stab;rw [e]⟩
theorem wC {Fm H:Hp} (h:ar Fm H):ar Fm (stab Fm H):=fun b o e=>by
  have:=h b o e;unfold stab;split
  · rename_i q;rw [this] at q;exact q.symm
  · rename_i q;rw [this] at q;exact q.symm
  · exact e
theorem gC.stab {Fm H:Hp} {σ:St} {ρ:aD} (h:gC Fm H σ ρ):gC (stab Fm H) H σ ρ:=by
  refine ⟨sB h.fm,h.sl,fun i d a h1 h2=>?_,h.apart⟩;have f:=h.own i d a h1 h2;obtain ⟨u,e1,q⟩:=h.sl.2 i _ _ h1 h2;cases e1;unfold D2.stab;cases d <;> simp only [gF] at q
  · obtain ⟨b,vs,e,hb,_⟩:=q;cases e;rw [hb];exact f
  · obtain ⟨b,vs,e,hb,_⟩:=q;cases e;rw [hb];exact f
theorem gC.unstab {Fm F H:Hp} {σ:St} {ρ:aD} (hF:ar Fm F) (h:gC F H σ ρ):gC Fm H σ ρ:=⟨hF.trans h.fm,h.sl,fun i d a h1 h2=>hF.free (h.own i d a h1 h2),h.apart⟩
theorem dB {X:Cx} {tg iter:Expr} {body:List Stmt} {it:aD->R (List PyData)} {b:PyData->aD->Option aD} {g:Fs} {pos:Pos} (hp:PassesOwn (model X.prog X.w) X.A X.env X.xe) (hc:X.calm=true) (hi:Z.pd X tg iter it) (hg:Z.rA X tg b) (hb:Z.jC X body g) (hs:∀ x,foldedSetIterable iter X.env x=pure x:=by intro _;rfl):Z.jT X (.For tg iter body [] pos) (gG it b g):=⟨have hi:=hi.un;have hg:=hg.un;have hb:=hb.un;fun Fm=>by
  intro pins s σ H D I h;obtain ⟨ρ,sl,q⟩:=h;unfold gG at q
  -- the frame: what is stable at the loop's gA is only known behind the iterator's making: the body is taken at every frame
  refine yZ (wi:=B9 X it) (g:=B5 X b) (tb:=fun D' σ' H'=>∃ F,xP X F g D' σ' H') hp hc hi hg (fun pins' s' σ' H' D' I' ⟨F,q'⟩=>hb F pins' s' σ' H' D' I' q') hs pins s σ H D I ?_;refine ⟨ρ,sl.sl,?_⟩;cases ei:it ρ with
  | ex c=>rw [ei] at q;exact q.1.mono sl.fm
  | no=>rw [ei] at q;exact q
  | ok ds =>
    rw [ei] at q;intro J H1 s1 ⟨Gd,idt,sta⟩;have sl1:=sl.mono s1;let F:=stab Fm H1
    have hF:ar Fm F:=wC sl1.fm
    -- the word: so many items are taken,and the c8 gives what the whole gives
    refine ⟨fun i m σ' H'=>m=ds.length-i/\i<=ds.length/\∃ ρ',gC F H' σ' ρ'/\wm X Fm (dA b g (ds.drop i) ρ') D,⟨ds.length,by simp,Nat.zero_le _,ρ,sl1.stab,by simpa using q⟩,?_⟩;rintro i m σ2 H2 ⟨rfl,hi',ρ2,sl2,q2⟩;have gd:Gd H2:=sta H2 (Kp.trans w8 (Kp.of sl2.fm)) fun _ _ z=>z.elim
    by_cases hlt:i < ds.length
    · refine .inr ⟨idt.go i H2 gd hlt,fun σ' H'=>i+1<=ds.length/\∃ ρ',gC F H' σ' ρ'/\wm X Fm (dA b g (ds.drop (i+1)) ρ') D,fun σ' H' ⟨z,p⟩=>⟨ds.length-(i+1),by omega,rfl,z,p⟩,fun x H3 y=>?_⟩;obtain ⟨d,hd⟩:∃ d,ds[i]?=some d:=⟨ds[i],List.getElem?_eq_getElem hlt⟩
      obtain ⟨s3,p3⟩:=idt.yld i H2 x H3 d gd hd y;have hdrop:ds.drop i=d::ds.drop (i+1):=by
        rw [List.drop_eq_getElem_cons hlt];congr 1;exact Option.some.inj ((List.getElem?_eq_getElem hlt).symm.trans hd)
      rw [hdrop] at q2;unfold dA at q2;have sl3:=sl2.mono s3;refine ⟨ρ2,d,sl3.sl,p3,?_⟩;cases eb:b d ρ2 with
      | none=>rw [eb] at q2;exact q2
      | some ρ3 =>
        rw [eb] at q2;intro σ4 sl4 hown;refine ⟨F,ρ3,⟨sl3.fm,sl4,fun j e a h1 h2=>?_,fun j k e f a h1 h2 h3 h4=>?_⟩,?_⟩
        · obtain ⟨z1,z2⟩:=hown j e h1;exact sl3.own j e a z1 (by rw [<- z2];exact h2)
        · obtain ⟨z1,z2⟩:=hown j e h1;obtain ⟨z3,z4⟩:=hown k f h2;exact sl3.apart j k e f a z1 z3 (by rw [<- z2];exact h3) (by rw [<- z4];exact h4)
        · have q3:wm X Fm (g ρ3>>=fun o=>match o with
            | .nx ρ2=>dA b g (ds.drop (i+1)) ρ2
            | .ct ρ2=>dA b g (ds.drop (i+1)) ρ2
            | .bk ρ2=>.ok (.nx ρ2)
            | .rt r=>.ok (.rt r)) D:=q2
          cases eg:g ρ3 with
          | ex c=>rw [eg] at q3;exact ⟨q3.1.mono hF,q3.2.mono hF⟩
          | no=>rw [eg] at q3;exact q3
          | ok o =>
            rw [eg] at q3;cases o with
            | nx ρ4=>exact fun σ' H' s'=>⟨hlt,ρ4,s',q3⟩
            | ct ρ4=>exact fun σ' H' s'=>⟨hlt,ρ4,s',q3⟩
            | bk ρ4=>exact fun σ' H' s'=>q3 σ' H' (s'.unstab hF)
            | rt r=>exact fun v H' s' p'=>q3 v H' (hF.trans s') p'
    · have e:i=ds.length:=by omega
      subst e;refine .inl ⟨idt.stop _ H2 gd (Nat.le_refl _),?_⟩;rw [List.drop_length] at q2;exact q2 σ2 H2 (sl2.unstab hF)⟩
noncomputable def eX (n:Nat) (g:Fs):List PyData->R PyData:=fun ds=>g (ds.map bm.val++List.replicate (n-ds.length) .non)>>=fun o=>match o with
  | .rt d=>.ok d
  | .nx _=>.ok .none
  | _=>.no
noncomputable def eU (F:List PyData->R PyData) (n:Nat):Sp:=fun vs H Q E=>∃ ds,bd H ds vs/\ds.length=n/\match F ds with
  | .ok d=>∀ v H',ar H H'->Rp H' d v->Q v H'
  | .ex c=>∀ H',ar H H'->E (.str c 0) none H'
  | .no=>False
theorem u7 {H:Hp} {N:List Str}:∀ {ds:List PyData} {vs:List V},bd H ds vs->Sl H (L2.gA N vs) (ds.map bm.val++List.replicate (N.length-ds.length) .non):=fun {ds vs} r=>by
  have hl:=r.length;refine ⟨by unfold L2.gA;rw [List.length_append,List.length_append,List.length_map,List.length_map,List.length_replicate,List.length_replicate,hl],fun i c o h1 h2=>?_⟩;by_cases hi:i < ds.length
  · rw [List.getElem?_append_left (by simpa using hi),List.getElem?_map] at h1;cases e:ds[i]? with
    | none=>rw [e] at h1;cases h1
    | some d =>
      rw [e] at h1;cases h1;obtain ⟨v,e1,p⟩:=r.get e;unfold L2.gA at h2;rw [List.getElem?_append_left (by rw [List.length_map,hl];exact hi),List.getElem?_map,e1] at h2;cases h2;exact ⟨v,rfl,p⟩
  · rw [List.getElem?_append_right (by simpa using hi),List.getElem?_replicate] at h1;split at h1
    · cases h1;exact True.intro
    · cases h1
section
variable {P:Program} {w:World} {H:Hp} {h:Heap} {a:Addr}
theorem pU:∀ {o:HO},bS P w H h a o->∃ u,h.get? a=some u
  | .lst xs,x=>by obtain ⟨_,_,_,_,e⟩:=x;exact ⟨_,e⟩
  | .tup xs,x=>by obtain ⟨_,_,_,o,e,_⟩:=x;exact ⟨_,e⟩
  | .dK kvs,x=>by obtain ⟨_,_,_,_,o,_,_,e,_⟩:=x;exact ⟨_,e⟩
  | .dT kvs,x=>by obtain ⟨_,_,_,_,o,_,_,e,_⟩:=x;exact ⟨_,e⟩
  | .set S n,x=>by obtain ⟨o,_,_,_,e,_⟩:=x;exact ⟨_,e⟩
  | .ins C dx fs,x=>by obtain ⟨_,_,_,e,_⟩:=x;exact ⟨_,e⟩
  | .own y,x=>by obtain ⟨_,e⟩:=x;exact ⟨_,e⟩
  | .xd fs,x=>by obtain ⟨_,⟨_,_,_,e,_⟩,_⟩:=x;exact ⟨_,e⟩
  | .rng lo hi,x=>by obtain ⟨_,_,_,e⟩:=x;exact ⟨_,e⟩
  | .frz ob u,x=>by obtain ⟨e,_⟩:=x;exact ⟨_,e⟩
  | .tbl ps,x=>⟨_,(show h.get? a=some _ from x)⟩
  | .met f y,x=>⟨_,(show h.get? a=some _ from x)⟩
  | .ext φ,x=>by obtain ⟨_,⟨_,e⟩,_⟩:=x;exact ⟨_,e⟩
end
theorem mZ.un {P:Program} {w:World} {outer:List Env} {H H':Hp} {s s':Shared} {C:Addr} {e:Value} (f:mZ P w outer H s C H' e s'):Un (jq outer) [] H H' s.heap s'.heap:=by
  obtain ⟨p,a0,B,_,fl,ok,_,cov⟩:=f.ex;refine ⟨fun b o q n hb _=>fl.1 _ _ (cov b o q n hb).1,fun b o q n hb _=>(f.slot b o q n hb).1,fun b o q n _=>?_,fun b o q _=>?_,fun b xs q=>f.same _ _ q,fun b o u q=>f.same _ _ q,fun b ps q=>⟨#[],by rw [f.same _ _ q];simp⟩⟩
  · by_cases hb:b∈jq outer
    · exact (f.slot b o q n hb).2
    · exact (cov b o q n hb).2
  · cases n:H b with
    | none =>
      by_cases hb:b∈jq outer
      · obtain ⟨sl,z⟩:=(f.slot b o q n hb).1;exact ⟨_,z⟩
      · exact ⟨o,fl.1 _ _ (cov b o q n hb).1⟩
    | some u =>
      obtain ⟨o',z⟩:=pU (ok b u (f.same _ _ n));exact ⟨o',fl.1 _ _ z⟩
theorem mZ.hok {P:Program} {w:World} {outer:List Env} {H H':Hp} {s s':Shared} {C:Addr} {e:Value} (f:mZ P w outer H s C H' e s'):fZ P w H' s'.heap:=by
  obtain ⟨p,a0,B,_,fl,ok,_,_⟩:=f.ex;exact ok.kept fun b u q=>fl.1 b u q
theorem zS.un {P:Program} {w:World} {outer:List Env} {H H':Hp} {s s':Shared} {C:Addr} {e:Value} (f:zS P w outer H s C H' e s'):Un (jq outer) [] H H' s.heap s'.heap:=f.hld.un
theorem mZ.inv {X:Cx} {pins:List (Addr×Obj)} {σ:St} {Hc H1:Hp} {sc s':Shared} {C:Addr} {e:Value} (f:mZ X.prog X.w X.stack Hc sc C H1 e s') (I:az X pins σ Hc sc):az X pins σ H1 s' :=
  I.call' f.os f.un f.hok f.bare fun b z=>absurd z (by simp)
section
variable {P:Program} {w:World} {l:List Env} {H H':Hp} {s s':Shared} {C p:Addr} {e:Value}
theorem mZ.again {a0:Value} {B h':Heap} (f:mZ P w l H s C H' e s') (t:oj B l p (.ref C) a0 s'.heap) (t':oj B l p (.ref C) a0 h') (up:s'.heap.UpToSlots h') (okB:fZ P w H' B) (hp:H' p=none)
    (cov:∀ b o,s.heap.get? b=some o->H b=none->b∉jq l->B.get? b=some o/\H' b=none):mZ P w l H s C H' (.ref p) { s' with heap:=h' }:=by
  refine ⟨f.os,f.bare,f.same,⟨p,a0,B,rfl,t',okB,hp,cov⟩,fun b o q n hb=>?_⟩;obtain ⟨⟨sl,q2⟩,n2⟩:=f.slot b o q n hb;obtain ⟨_,o3,q3,nf⟩:=t.2.2.1.mem hb;rw [q2] at q3;cases q3;obtain ⟨sl3,q4⟩:=up b _ q2 nf;exact ⟨⟨sl3,q4⟩,n2⟩
theorem t5 {x:Value} {env env0:Env} (h:env.frame=env0.frame):noteFrame x env=noteFrame x env0:=by
  unfold noteFrame PySem.frameOf;rw [h]
theorem mZ.note {M:Model} {A:Around} {E:Value->Shared->Prop} {Q:Unit->Shared->Prop} {env env0:Env} {outer:List Env} {L:Addr} (f:mZ P w l H s C H' e s') (hl:l=env0::outer) (hfr:A.frames=some l) (h0:env0.frame=some L) (h1:env.frame=some L)
    (k:∀ h',mZ P w l H s C H' e { s' with heap:=h' }->s'.heap.UpToSlots h'->Q () { s' with heap:=h' }):wpAny M A (noteFrame e env) Q E s':=by
  subst hl;obtain ⟨p,a0,B,rfl,t,okB,hp,cov⟩:=f.ex;rw [t5 (h1.trans h0.symm)];exact oP hfr h0 t fun h' t' up=>k h' (f.again t t' up okB hp cov) up
theorem mZ.pass {α:Type} {M:Model} {A:Around} {E:Value->Shared->Prop} {Q:α->Shared->Prop} {env:Env} {what:String} (f:mZ P w l H s C H' e s') (k:∀ h',mZ P w l H s C H' e { s' with heap:=h' }->E e { s' with heap:=h' }):wpAny M A (PySem.passOn what e env:Sem α) Q E s':=by
  obtain ⟨p,a0,B,rfl,t,okB,hp,cov⟩:=f.ex;exact uk t fun h' t' up=>k h' (f.again t t' up okB hp cov)
end
section
variable {P:Program} {w:World} {K:PySem.W.Frag} {mg:Str->Option Value} {base:Heap} {N:List Str} {qual:Str} {sc:Scope} {f:Addr} {cdv:Value} {A:Around} {outer:List Env} {s:Shared} {H:Hp} {E:XK} {c:Str}
theorem yC (h:∀ H',ar H H'->E (.str c 0) none H'):Xw (dS (dE P w mg) P w K mg base N qual sc f cdv A outer s H E) c H:=by
  intro H1 s1 C hm pins σ Hc sc' e s' I fl;obtain ⟨p,a0,B,rfl,fly,okB,hp,cov⟩:=fl.ex;have old:∀ b o,s.heap.get? b=some o->b≠s.heap.objs.size:=fun b o q=>Nat.ne_of_lt (Heap.lt_size q)
  refine sG I.ok.frames rfl fly fun h' fl' up=>⟨c,C,H1,hm,⟨fl.os.trans I.os,fl.bare,s1,⟨p,a0,B,rfl,fl',okB,hp,fun b o q n hb=>?_⟩,fun b o q n hb=>?_⟩,h H1 s1⟩
  · have q1:=I.base.keep b o q n hb (by simp [dS]);have n1:=I.base.free b o q n (by simp [dS]);refine cov b o q1 n1 fun z=>?_
    have z':b∈(s.heap.objs.size::jq outer):=z;rcases List.mem_cons.mp z' with z2 | z2
    · exact old b o q z2
    · exact hb z2
  · obtain ⟨sl,q1⟩:=I.base.slot b o q n hb (by simp [dS]);have n1:=I.base.free b o q n (by simp [dS]);have hb':b∈jq (dS (dE P w mg) P w K mg base N qual sc f cdv A outer s H E).stack:=List.mem_cons_of_mem _ hb;obtain ⟨⟨sl',q2⟩,n2⟩:=fl.slot b _ q1 n1 hb';obtain ⟨_,o3,q3,nf⟩:=fly.2.2.1.mem hb';rw [q2] at q3;cases q3;obtain ⟨sl3,q4⟩:=up b _ q2 nf;exact ⟨⟨sl3,q4⟩,n2⟩
theorem w6 (h:∀ H',ar H H'->E (.str c 0) none H'):A3 (dS (dE P w mg) P w K mg base N qual sc f cdv A outer s H E) c H:=by
  intro C hm pins σ Hm sm sH I h' p vs hx;have hin:∀ env∈(dS (dE P w mg) P w K mg base N qual sc f cdv A outer s H E).stack,∀ b,env.frame=some b->b∈jq (dS (dE P w mg) P w K mg base N qual sc f cdv A outer s H E).stack:=fun env he b hb=>List.mem_filterMap.mpr ⟨env,he,hb⟩
  have old:∀ b o,s.heap.get? b=some o->b≠s.heap.objs.size:=fun b o q=>Nat.ne_of_lt (Heap.lt_size q)
  refine wpAny_leaves_madeW (s:={ sm with heap:=h' }) (base:=PySem.W.hideAll sm.heap (jq (dS (dE P w mg) P w K mg base N qual sc f cdv A outer s H E).stack)) I.ok.frames rfl (fun b o q=>PySem.W.of_hideAll _ q) (PySem.W.funFrames_hide I.stack hin) hx fun h'' t fl' _ _ up =>
    ⟨c,C,Hm,hm,⟨I.os,I.bare,sH,⟨p,.ref t,_,rfl,fl',fun b u q=>?_,?_,fun b o q n hb=>?_⟩,fun b o q n hb=>?_⟩,h Hm sH⟩
  · refine (I.hok b u q).stay (fun c' v hc z=>PySem.W.hideAll_get _ z fun m=>?_) (fun _ z=>z) fun _ _ z=>z
    have hn:=I.stkFree c' m;rcases hc with rfl | hc
    · rw [hn] at q;cases q
    · rw [hn] at hc;cases hc
  · cases q:Hm p with
    | none=>rfl
    | some u =>
      obtain ⟨o',z⟩:=pU (I.hok p u q);rw [hx.new] at z;cases z
  · have q1:=I.base.keep b o q n hb (by simp [dS]);have n1:=I.base.free b o q n (by simp [dS]);refine ⟨PySem.W.hideAll_get _ q1 fun z=>?_,n1⟩;have z':b∈(s.heap.objs.size::jq outer):=z;rcases List.mem_cons.mp z' with z2 | z2
    · exact old b o q z2
    · exact hb z2
  · obtain ⟨sl,q1⟩:=I.base.slot b o q n hb (by simp [dS]);have n1:=I.base.free b o q n (by simp [dS]);have hb':b∈jq (dS (dE P w mg) P w K mg base N qual sc f cdv A outer s H E).stack:=List.mem_cons_of_mem _ hb;obtain ⟨_,o3,q3,nf⟩:=I.stack.mem hb';rw [q1] at q3;cases q3;obtain ⟨sl3,q4⟩:=up b _ (hx.keeps _ _ q1) nf;exact ⟨⟨sl3,q4⟩,n1⟩
end
theorem vW {P:Program} {w:World} {K:PySem.W.Frag} {mg:Str->Option Value} {base:Heap} {x qual:Str} {st:Stmt} {f:Addr} {fd:FuncData} {N ps:List Str} {k:Nat} {g:Fs} (F:ip K x qual st f fd) (S:bn N ps (am st))
    (body:∀ (cdv:Value) (A:Around) (outer:List Env) (s:Shared) (H:Hp) (E:XK),eS k (A.deeper (envOfC qual (am st) s.heap.objs.size f cdv)) ->
      jC (dS (dE P w mg) P w K mg base N qual (am st) f cdv A outer s H E) (bZ st) g):bC P w K mg base (dE P w mg) (k+1) f fd ps (eU (eX N.length g) ps.length):=by
  obtain ⟨oc,od,kV,doc,pm,an,cdv,ct,osl,rfl,lk,hcd⟩:=F.ex;refine xN lk hcd S (fun vs H Q E ⟨ds,r,hl,_⟩=>by rw [r.length];exact hl) fun A outer s H vs Q E hr h=>?_
  obtain ⟨ds,r,hl,q⟩:=h;have noOwn:∀ (i:Nat) (d:PyData),(ds.map bm.val++List.replicate (N.length-ds.length) bm.non)[i]?=some (.own d)->False:=fun i d h1=>by
    by_cases hi:i < ds.length
    · rw [List.getElem?_append_left (by simpa using hi),List.getElem?_map] at h1;cases e:ds[i]? with
      | none=>rw [e] at h1;cases h1
      | some d=>rw [e] at h1;cases h1
    · rw [List.getElem?_append_right (by simpa using hi),List.getElem?_replicate] at h1;split at h1
      · cases h1
      · cases h1
  refine ⟨_,body cdv A outer s H E hr H,_,⟨ar.refl _,u7 r,fun i d a h1 h2=>(noOwn i d h1).elim,fun i j d e a h1 h2 h3 h4=>(noOwn i d h1).elim⟩,?_⟩;unfold eX at q;cases eg:g (ds.map bm.val++List.replicate (N.length-ds.length) .non) with
  | ex c=>rw [eg] at q;exact ⟨yC q,w6 q⟩
  | no=>rw [eg] at q;exact q.elim
  | ok o =>
    rw [eg] at q;cases o with
    | rt d=>exact fun v H' s' p=>q v H' s' p
    | nx ρ=>exact fun σ' H' s'=>q .non H' s'.fm (by simp only [Rp])
    | bk ρ=>exact q.elim
    | ct ρ=>exact q.elim
noncomputable def bf (F:List PyData->R PyData) (fs:aD->R (List PyData)):Fe:=fun ρ=>fs ρ>>=F
theorem wE {X:Cx} {k n:Nat} {f:Addr} {fd:FuncData} {ps:List Str} {F:List PyData->R PyData} {x:Str} {p pos:Pos} {e:Expr} {es:List Expr} {fs:aD->R (List PyData)} {nl:Nat} {G:List Str}
    (C:bC X.prog X.w X.K X.mg X.base (dE X.prog X.w X.mg) k f fd ps (eU F n)) (hr:eS k X.A) (T:Tb X nl G) (j:Nat) (hG:G[j]?=some x) (hm:X.mg x=some (.ref f)) (hk:PySem.W.keepIn X.K (.ref f)=true) (hb:bV X.K fd ps []) (ha:qv X (e::es) fs)
    (hlen:(e::es).length=n) (hfs:∀ ρ ds,fs ρ=.ok ds->ds.length=n)
    (he:(e::es).all aV=true:=by rfl):cJ X (.Call (.Name x p) (e::es) [] pos) (bf F fs):=by
  rw [List.all_cons,Bool.and_eq_true] at he;have g:=T.gl x (List.mem_of_getElem? hG);refine PE.imp (wg C hr g.1 hm hk hb .nil xa ha g.2.1 (bI he.1) (o1 he.2)) fun σ H Q ⟨ρ,sl,q⟩=>?_
  refine ⟨ρ,sl,?_⟩;unfold bf at q;cases e1:fs ρ with
  | ex c=>rw [e1] at q;exact q
  | no=>rw [e1] at q;exact q
  | ok ds =>
    rw [e1] at q;intro vs H1 s1 r1;rw [List.append_nil];refine ⟨ds,na.mp r1,hfs ρ ds e1,?_⟩;have q':rQ X iF (F ds) H Q:=q;cases e2:F ds with
    | ok d=>rw [e2] at q';exact fun v H' s' p'=>q' v H' (s1.trans s') p'
    | ex c=>rw [e2] at q';exact fun H' s'=>Xw.ex q' H' (s1.trans s')
    | no=>rw [e2] at q';exact q'
theorem aE:∀ ρ ds,aC ρ=.ok ds->ds.length=0:=fun ρ ds e=>by cases e;rfl
theorem ah {f:Fe} {g:aD->R (List PyData)} {n:Nat} (h:∀ ρ ds,g ρ=.ok ds->ds.length=n):∀ ρ ds,ag f g ρ=.ok ds->ds.length=n+1:=fun ρ ds e=>by
  unfold ag at e;cases e1:f ρ with
  | ex c=>rw [e1] at e;cases e
  | no=>rw [e1] at e;cases e
  | ok d =>
    rw [e1] at e;cases e2:g ρ with
    | ex c=>rw [e2] at e;cases e
    | no=>rw [e2] at e;cases e
    | ok ds'=>rw [e2] at e;cases e;rw [List.length_cons,h ρ ds' e2]
theorem pQ {scope:Scope} {env:Env} (h:∀ x∈scope.names,x.2=.free->∃ c,env.cells.lookup x.1=some c) :
    ∃ cl,closureFor scope env=pure cl/\(∀ x c,cl.lookup x=some c->env.cells.lookup x=some c)/\∀ x∈scope.names,x.2=.free->∃ c,cl.lookup x.1=some c:=by
  suffices gen:∀ (names:List (Str×NameKind)) (acc:List (Str×Addr)),(∀ x∈names,x.2=.free->∃ c,env.cells.lookup x.1=some c)->(∀ x c,acc.lookup x=some c->env.cells.lookup x=some c) ->
      ∃ cl,(forIn names acc fun x r=>if (x.snd==NameKind.free)=true then do let a <- cellOf env x.fst;pure (ForInStep.yield ((x.fst,a)::r)) else pure (ForInStep.yield r):Sem (List (Str×Addr)))=pure cl /\
        (∀ x c,cl.lookup x=some c->env.cells.lookup x=some c)/\(∀ x c,acc.lookup x=some c->∃ c',cl.lookup x=some c')/\∀ x∈names,x.2=.free->∃ c,cl.lookup x.1=some c by
    obtain ⟨cl,h1,h2,_,h4⟩:=gen scope.names [] h fun x c e=>by simp at e
    refine ⟨cl,?_,h2,h4⟩;simp only [closureFor];rw [h1];rfl
  intro names;induction names with
  | nil=>intro acc _ ha;exact ⟨acc,rfl,ha,fun x c e=>⟨c,e⟩,fun x hx=>by cases hx⟩
  | cons y r ih =>
    intro acc hn ha;obtain ⟨n,k⟩:=y;by_cases hk:k=.free
    · subst hk;obtain ⟨c,hc⟩:=hn (n,.free) List.mem_cons_self rfl;obtain ⟨cl,e1,e2,e3,e4⟩:=ih ((n,c)::acc) (fun x hx=>hn x (List.mem_cons_of_mem _ hx)) (fun x c' e=>by
        rw [List.lookup_cons] at e;split at e
        · rename_i q;have:x=n:=by simpa using q
          subst this;cases e;exact hc
        · exact ha x c' e)
      refine ⟨cl,?_,e2,fun x c' e=>?_,fun x hx hf=>?_⟩
      · rw [List.forIn_cons];have:cellOf env n=pure c:=by unfold cellOf;rw [hc]
        simp only [beq_self_eq_true,if_true,this,pure_bind];exact e1
      · by_cases hx:x=n
        · subst hx;exact e3 x c (by rw [List.lookup_cons];simp)
        · have hb:(x==n)=false:=by simpa using hx
          exact e3 x c' (by rw [List.lookup_cons,hb];exact e)
      · rcases List.mem_cons.mp hx with rfl | hx
        · exact e3 n c (by rw [List.lookup_cons];simp)
        · exact e4 x hx hf
    · obtain ⟨cl,e1,e2,e3,e4⟩:=ih acc (fun x hx=>hn x (List.mem_cons_of_mem _ hx)) ha;refine ⟨cl,?_,e2,e3,fun x hx hf=>?_⟩
      · rw [List.forIn_cons];have:(k==NameKind.free)=false:=by simpa using hk
        simp only [this,Bool.false_eq_true,if_false,pure_bind];exact e1
      · rcases List.mem_cons.mp hx with rfl | hx
        · exact absurd hf hk
        · exact e4 x hx hf
noncomputable def AN (env:Env) (p:Str×NameKind):NameKind:=if (p.2==.free&&env.scope.kind==.function&&env.kindOf p.1==some .cell)=true then .cell else p.2
theorem lg (scope:Scope) (env:Env):(relabel scope env).names=scope.names.map fun p=>(p.1,AN env p):=by
  unfold relabel;refine List.map_congr_left fun p _=>?_
  obtain ⟨n,k⟩:=p;unfold AN;dsimp only;split <;> rfl
theorem jO (g:Str×NameKind->NameKind) (x:Str):∀ l:List (Str×NameKind),(l.map fun p=>(p.1,g p)).lookup x=(l.lookup x).map fun k=>g (x,k)
  | []=>rfl
  | (n,k)::r=>by
    rw [List.map_cons];cases hx:x==n with
    | true =>
      have e:x=n:=by simpa using hx
      subst e;simp
    | false =>
      have ne:¬ x=n:=by simpa using hx
      simp only [List.lookup_cons,hx];exact jO g x r
theorem iU (scope:Scope) (env:Env) (x:Str):(relabel scope env).names.lookup x=(scope.names.lookup x).map fun k=>AN env (x,k):=by
  rw [lg];exact jO _ _ _
theorem du {scope:Scope} {env:Env} {x:Str} {k:NameKind} (h:scope.names.lookup x=some k) (hk:k≠.free):(relabel scope env).names.lookup x=some k:=by
  rw [iU,h];have:(k==NameKind.free)=false:=by simpa using hk
  simp only [AN,this,Bool.false_and,Bool.false_eq_true,if_false,Option.map_some]
theorem jh {scope:Scope} {env:Env} {x:Str} (h:scope.names.lookup x=some .free):(relabel scope env).names.lookup x=some .free\/(relabel scope env).names.lookup x=some .cell:=by
  rw [iU,h];unfold AN;dsimp only [Option.map_some];split
  · exact .inr rfl
  · exact .inl rfl
theorem oK {scope:Scope} {env:Env} {x:Str} (hc:∀ y∈scope.names,y.2≠.cell) (h:(relabel scope env).names.lookup x=some .free\/(relabel scope env).names.lookup x=some .cell):(x,NameKind.free)∈scope.names:=by
  cases e:scope.names.lookup x with
  | none =>
    rw [iU,e] at h;rcases h with h | h <;> cases h
  | some k =>
    by_cases hk:k=.free
    · subst hk;exact PySem.mem_of_lookup e
    · exfalso;have:=du (env:=env) e hk;rw [this] at h;rcases h with h | h
      · cases h;exact hk rfl
      · cases h;exact hc _ (PySem.mem_of_lookup e) rfl
noncomputable def aI (X:Cx) (N:List Str) (scope:Scope) (cl:List (Str×Addr)) (C:Addr) (s:Shared) (H:Hp) (fp:List Addr) (E:Value->Shared->Prop:=fun _ _=>False):Cx :=
  { X with N:=N,s₀:=s,H₀:=H,env:=compEnvC scope cl C X.env,outer:=X.stack,stack:=X.stack,ex:=fp,fn:=fun _=>false,pn:=[],xe:=E }
noncomputable def dJ (sc:Scope) (N:List Str) (own:Nat) (G:List Str) (oN:List Str) (fr:List Nat):Prop :=
  sc.kind=.function/\(∀ y∈sc.names,y.2≠.cell)/\(∀ y∈sc.names,y.2=.local->sc.names.lookup y.1=some .local)/\N.Nodup/\(∀ x∈N.take own,sc.names.lookup x=some .local)/\(∀ x∈N.drop own,sc.names.lookup x=some .free) /\
  (∀ x∈N,(x==("__debug__" : Str))=false/\(x==("__classdict__" : Str))=false)/\(∀ x∈G,sc.names.lookup x=some .globalImplicit/\(x==("__debug__" : Str))=false/\x≠("__name__" : Str)) /\
  own<=N.length/\(N.drop own).map some=fr.map fun i=>oN[i]?
noncomputable instance {sc:Scope} {N:List Str} {own:Nat} {G oN:List Str} {fr:List Nat}:Decidable (dJ sc N own G oN fr):=by unfold dJ;infer_instance
theorem vX {X:Cx} {nl:Nat} {G0:List Str} (T:Tb X nl G0) {sc:Scope} {N:List Str} {own:Nat} {G oN:List Str} {fr:List Nat} (ck:dJ sc N own G oN fr) (cl:List (Str×Addr)) (C:Addr) (s:Shared) (H:Hp) (fp:List Addr) :
    Tb (aI X N sc cl C s H fp) own G:=by
  obtain ⟨_,_,_,nd,l,f,db,g,_,_⟩:=ck;refine ⟨T.hu,T.calm,nd,fun x hx=>?_,fun x hx=>?_,fun x hx=>?_⟩
  · refine ⟨?_,db x hx⟩;have hx':x∈N.take own++N.drop own:=by rw [List.take_append_drop];exact hx
    rcases List.mem_append.mp hx' with z | z
    · exact .inl (du (l x z) (by decide))
    · rcases jh (env:=X.env) (f x z) with q | q
      · exact .inr (.inr q)
      · exact .inr (.inl q)
  · have q:=du (env:=X.env) (l x hx) (by decide);exact ⟨.inl q,.inr q⟩
  · obtain ⟨g1,g2,g3⟩:=g x hx;exact ⟨du (env:=X.env) g1 (by decide),g2,g3⟩
theorem ug {X:Cx} {nl:Nat} {G0:List Str} (T:Tb X nl G0) {sc:Scope} {N:List Str} {own:Nat} {G oN:List Str} {fr:List Nat} (ck:dJ sc N own G oN fr) (cl:List (Str×Addr)) (C:Addr) (s:Shared) (H:Hp) (fp:List Addr) (E:Value->Shared->Prop) :
    Tb (aI X N sc cl C s H fp E) own G:=let T1:=vX T ck cl C s H fp;⟨T1.hu,T1.calm,T1.nd,T1.vis,T1.loc,T1.gl⟩
noncomputable def Cd (X:Cx) (ifs:List Expr) (t:TT):Prop :=
  ∀ (pins:List (Addr×Obj)) (s:Shared) (σ:St) (H:Hp) (Q:Bool->Hp->Prop),az X pins σ H s->t σ H Q->wpAny (model X.prog X.w) X.A (forIn ifs true fun c r=>if r=true then do let ok <- isTrue c X.env (eval c X.env);pure (ForInStep.yield ok) else pure (ForInStep.yield r))
    (TP X pins σ Q) X.xe s
noncomputable def r9 (X:Cx) (ifs:List Expr) (t:aD->R Bool):Prop:=Cd X ifs (wx X t)
structure Z.r9 (X:Cx) (ifs:List Expr) (t:aD->R Bool):Prop where
  un:D2.r9 X ifs t
theorem dY {X:Cx}:Z.r9 X [] (fun _=>.ok true):=⟨fun pins s σ H Q I ⟨ρ,sl,q⟩=>wpAny_tests_nil ⟨H,I,q H (ar.refl _)⟩⟩
theorem fQ {X:Cx} {c:Expr} {t:aD->R Bool} (h:Z.jY X c t):Z.r9 X [c] t:=⟨have h:=h.un;fun pins s σ H Q I q=>wpAny_tests_one (h pins s σ H Q I q)⟩
noncomputable def bW (b:PyData->aD->Option aD) (t:aD->R Bool) (f:Fe) (ρ:aD):List PyData->R (List PyData)
  | []=>.ok []
  | d::ds=>match b d ρ with
    | none=>.no
    | some ρ1=>t ρ1>>=fun k=>if k=true then f ρ1>>=fun x=>bW b t f ρ ds>>=fun xs=>.ok (x::xs) else bW b t f ρ ds
noncomputable def aA (own:Nat) (fr:List Nat) (ρ:aD):aD:=List.replicate own .non++fr.map fun i=>ρ.getD i .non
noncomputable def lb {α:Type}:R α->R α
  | .ex _=>.no
  | r=>r
noncomputable def bK (it:aD->R (List PyData)) (own:Nat) (fr:List Nat) (b:PyData->aD->Option aD) (t:aD->R Bool) (f:Fe):Fe:=fun ρ =>
  lb (it ρ)>>=fun ds=>if ds.length<=sizeLine then match bW b t f (aA own fr ρ) ds with
    | .ok xs=>.ok (.list xs)
    | .ex c=>.ex c
    | .no=>.no
  else .no
noncomputable def fx (own:Nat) (fr:List Nat) (σ:St):St:=List.replicate own none++fr.map fun i=>(σ[i]?).join
theorem wn {H:Hp} {σ:St} {ρ:aD} (h:Sl H σ ρ) (own:Nat) (fr:List Nat) (hin:∀ i∈fr,i < ρ.length):Sl H (fx own fr σ) (aA own fr ρ):=by
  refine ⟨by simp [fx,aA],fun i c o h1 h2=>?_⟩;unfold aA at h1;unfold fx at h2;by_cases hi:i < own
  · rw [List.getElem?_append_left (by simpa using hi),List.getElem?_replicate,if_pos hi] at h1;cases h1;exact True.intro
  · rw [List.getElem?_append_right (by simpa using hi),List.getElem?_map,List.length_replicate] at h1 h2;cases e:fr[i-own]? with
    | none=>rw [e] at h1;cases h1
    | some j =>
      rw [e] at h1 h2;have hj:=hin j (List.mem_of_getElem? e);have hj':j < σ.length:=by rw [h.1];exact hj
      cases h1;cases h2;refine h.2 j _ _ ?_ ?_
      · show ρ[j]?=some (ρ.getD j .non);rw [List.getD_eq_getElem?_getD,List.getElem?_eq_getElem hj];rfl
      · show σ[j]?=some ((σ[j]?).join);rw [List.getElem?_eq_getElem hj'];rfl
section
variable {X:Cx} {pins:List (Addr×Obj)} {σ:St} {H:Hp} {s:Shared} {nl:Nat} {G0:List Str} {sc:Scope} {N:List Str} {own:Nat} {G:List Str} {fr:List Nat} {cl:List (Str×Addr)} {fp:List Addr} {a C:Addr} {h4:Heap} {t4:Nat} {m:Str->Option Value}
theorem vd (I:az X pins σ H s) (ck:dJ sc N own G X.N fr) (hf:∀ b∈fp,jU X pins H b) (hob:∀ b∈fp,b < s.heap.objs.size) (hcl1:∀ x c,cl.lookup x=some c->X.env.cells.lookup x=some c) (hcl2:∀ x∈sc.names,x.2=.free->∃ c,cl.lookup x.1=some c)
    (vis:∀ x∈X.N,zQ X.env.scope x) (hout:∀ y∈sc.names,y.2=.free->X.env.kindOf y.1=some .cell\/X.env.kindOf y.1=some .free)
    (ha:s.heap.objs.size<=a) (hC:s.heap.objs.size<=C) (hac:a≠C) (keep:∀ b o,s.heap.get? b=some o->h4.get? b=some o) (hl:h4.get? a=some { cls:=.type "list",data:=.seq #[] 0 }) (hn:h4.Ns C m) :
    az (aI X N sc cl C s H fp) [] (fx own fr σ) (cr H a (.lst [])) { s with heap:=h4,toks:=t4 }:=by
  obtain ⟨ck1,ck2,ck3,nd,l,f,db,g,ol,ofr⟩:=ck;have hHa:H a=none:=I.hok.fresh ha;have hHC:H C=none:=I.hok.fresh hC;have lt:∀ {b:Addr} {o:Obj},s.heap.get? b=some o->b < s.heap.objs.size:=fun e=>Heap.lt_size e
  have cellLt:∀ x c,cl.lookup x=some c->c < s.heap.objs.size:=fun x c e=>by
    obtain ⟨v,q⟩:=I.cell x c (hcl1 x c e);exact q.lt
  refine ⟨⟨I.ok.mod,ck1,I.ok.glob,I.ok.blt,hC,fun x y c h1 h2=>I.ok.inj x y c (hcl1 x c h1) (hcl1 y c h2),fun x hx=>?_,fun x c hx=>(Bool.false_ne_true hx).elim,I.ok.hd,I.ok.frames,.inl rfl,fun b hb=>⟨?_,fun x c e=>?_⟩,I.bs,Nat.le_trans I.ok.bsz I.sz,fun b o e hb=>?_,fun b hb hs=>?_,I.stack,I.stkFree⟩,
    rfl,I.bare,Un.laid keep ha hHa,⟨m,hn,fun i x v h1 h2 h3=>?_⟩,fun x c e=>?_,?_,fun x c e=>?_,fun p hp=>?_,?_,?_⟩
  · have q:=oK (env:=X.env) ck2 (show (relabel sc X.env).names.lookup x=some .free\/(relabel sc X.env).names.lookup x=some .cell from hx.elim .inr .inl);exact hcl2 _ q rfl
  · exact Nat.ne_of_lt (Nat.lt_of_lt_of_le (hob b hb) hC)
  · exact (hf b hb).2.2.2.2.1 x c (hcl1 x c e)
  · rcases (hf b hb).2.2.2.1 with z | z
    · exact I.ok.noex b o e z
    · exact absurd (Nat.lt_of_lt_of_le (Heap.lt_size e) I.ok.bsz) (Nat.not_lt.mpr z)
  · rcases List.mem_cons.mp (I.stkSub b hs) with z | z
    · exact (hf b hb).2.1 z
    · exact (hf b hb).2.2.1 z
  · -- a captured name
    have hi:¬ i < own:=fun hi=>by
      unfold fx at h2;rw [List.getElem?_append_left (by simpa using hi),List.getElem?_replicate,if_pos hi] at h2;cases h2
    unfold fx at h2;rw [List.getElem?_append_right (by simpa using hi),List.getElem?_map,List.length_replicate] at h2;cases e:fr[i-own]? with
    | none=>rw [e] at h2;cases h2
    | some j =>
      rw [e] at h2;have h2':(σ[j]?).join=some v:=Option.some.inj h2;have hσ:σ[j]?=some (some v):=by
        cases q:σ[j]? with
        | none=>rw [q] at h2';cases h2'
        | some o=>rw [q] at h2';exact congrArg some h2'
      have hx:(N.drop own)[i-own]?=some x:=by
        rw [List.getElem?_drop];have:own+(i-own)=i:=by omega
        rw [this];exact h1
      have hj:X.N[j]?=some x:=by
        have q:=congrArg (fun l=>l[i-own]?) ofr;simp only [List.getElem?_map,hx,e,Option.map_some] at q;exact (Option.some.inj q).symm
      have hfree:=f x (List.mem_of_getElem? hx);obtain ⟨c,hc⟩:=hcl2 _ (PySem.mem_of_lookup hfree) rfl;have hXc:=hcl1 x c hc;obtain ⟨m0,hn0,hl0⟩:=I.loc;obtain ⟨u,ru,lk⟩:=hl0 j x v hj hσ (vis x (List.mem_of_getElem? hj));have ko:=hout _ (PySem.mem_of_lookup hfree) rfl;refine ⟨u,ru,.inr ⟨(jh (env:=X.env) hfree).symm,c,hc,?_⟩⟩;rcases lk with ⟨k1,_⟩ | ⟨_,c',e1,ob,q1,q2⟩
      · exfalso;rcases ko with k | k <;> (rw [k] at k1;cases k1)
      · rw [hXc] at e1;cases e1;exact ⟨ob,keep _ _ q1,q2⟩
  · obtain ⟨v,o,q,d⟩:=I.cell x c (hcl1 x c e);exact ⟨v,o,keep _ _ q,d⟩
  · show cr H a (.lst []) C=none;rw [ay (Ne.symm hac)];exact hHC
  · have q:=I.freeC x c (hcl1 x c e);show cr H a (.lst []) c=none;rw [ay (Nat.ne_of_lt (Nat.lt_of_lt_of_le (cellLt x c e) ha))];exact q
  · exact absurd (show p∈([]:List (Addr×Obj)) from hp) (by simp)
  · exact I.hok.laid keep ha ⟨Nat.zero_le _,[],0,.nil,hl⟩
  · show (fx own fr σ).length=N.length;have q:=congrArg List.length ofr;rw [List.length_map,List.length_map,List.length_drop] at q;unfold fx;rw [List.length_append,List.length_replicate,List.length_map];omega
end
noncomputable def kf (ρ0 ρ1:aD):Prop:=ρ1.length=ρ0.length/\∀ (i:Nat) (c:bm),ρ0[i]?=some c->c=.non\/ρ1[i]?=some c
theorem Sl.unfit {H:Hp} {σ:St} {ρ0 ρ1:aD} (h:Sl H σ ρ1) (f:kf ρ0 ρ1):Sl H σ ρ0:=by
  refine ⟨h.1.trans f.1,fun i c o h1 h2=>?_⟩;rcases f.2 i c h1 with rfl | q
  · exact True.intro
  · exact h.2 i c o q h2
noncomputable def tL (H0:Hp) (σ:St) (ρ:aD):Prop:=∀ (i:Nat) (e:PyData),ρ[i]?=some (.own e)->∃ v,σ[i]?=some (some v)/\gF H0 e v
theorem sn {X:Cx} {J:It} {tn:Nat->Heap->Prop} {it a:Addr} {fp:List Addr} {tg iter elt:Expr} {ifs:List Expr} {scope:Scope} {pos:Pos} {b:PyData->aD->Option aD} {t:aD->R Bool} {f:Fe} {ds:List PyData} {r:R (List PyData)} {Gd:Hp->Prop} {H0:Hp} {ρ0:aD}
    {Rk:Result->Shared->Prop} (T:qg X.prog X.w X.K tg J fp it tn) (calm:X.calm=true) (hfp:∀ H:Hp,(∀ b∈fp,H b=none)->∀ b∈fp,jU X [] H b) (hxe:∀ e s',X.xe e s'->notedBy (model X.prog X.w) X.A X.env (fun x s'=>Rk (.error x) s') e s') (hX:∀ c,r=.ex c->Xw X c H0) (hno:r≠.no) (hg:rA X tg b) (ht:r9 X ifs t) (hf:cJ X elt f)
    (idt:vQ J Gd ds) (sta:Bk H0 (fun _=>False) Gd) (hsz:ds.length<=sizeLine) (ha0:H0 a=none) (hb0:∀ d ρ1,b d ρ0=some ρ1->kf ρ0 ρ1)
    (fin:∀ xs s' σ' H' vs,r=.ok xs->az X [] σ' H' s'->ar H0 H'->H' a=some (.lst vs)->bd H' xs vs->Rk (.ok .next) s') :
    ∀ {s:Shared} {σ:St} {H:Hp},az X [] σ H s->tn 0 s.heap->(∀ b∈fp,H b=none)->ar H0 H->H a=some (.lst [])->bW b t f ρ0 ds=r->Sl H σ ρ0->tL H0 σ ρ0 ->
      codeAny (model X.prog X.w) X.A (.compLoop (.ListComp elt [⟨tg,iter,ifs,0⟩] scope pos) 0 (.ref it) (.ref a) X.env) Rk s:=by
  intro s σ H I st fr s0 hla hc sl ow;refine codeAny_loop rfl (fun n s=>∃ i acc σ H vs,n=ds.length-i/\i<=ds.length/\acc.length<=i/\az X [] σ H s/\tn i s.heap/\(∀ b∈fp,H b=none)/\ar H0 H/\H a=some (.lst vs)/\bd H acc vs/\(bW b t f ρ0 (ds.drop i)>>=fun c8=>.ok (acc++c8))=r /\
    Sl H σ ρ0/\tL H0 σ ρ0) (fun n s hI=>?_) ds.length ⟨0,[],σ,H,[],by simp,Nat.zero_le _,Nat.le_refl _,I,st,fr,s0,hla,bd.nil,by rw [List.drop_zero,hc];cases r <;> rfl,sl,ow⟩
  clear I st fr s0 hla hc sl ow;obtain ⟨i,acc,σ,H,vs,rfl,hi,hal,I,st,fr,s0,hla,ra,hc,sl,ow⟩:=hI;show wpAny _ X.A ((compTurn (.ListComp elt [⟨tg,iter,ifs,0⟩] scope pos) 0 (.ref it) (.ref a) X.env).onRaise (fun x=>do noteFrame x X.env;theTreesLotGoes x)) _ _ s;refine wpAny_noted ?_;rw [compTurn_list];have gd:Gd H:=sta H (Kp.of s0) fun _ _ z=>z.elim
  have noex:∀ {α:Type} {m:Sem α} {Q Q':α->Shared->Prop} {s:Shared},wpAny (model X.prog X.w) X.A m Q X.xe s->(∀ v s,Q v s->Q' v s)->wpAny (model X.prog X.w) X.A m Q' (notedBy (model X.prog X.w) X.A X.env (fun x s'=>Rk (.error x) s')) s:=fun h k =>
    wpAny_mono h k hxe
  by_cases hlt:i < ds.length
  · obtain ⟨d,hd⟩:∃ d,ds[i]?=some d:=⟨ds[i],List.getElem?_eq_getElem hlt⟩
    have hdrop:ds.drop i=d::ds.drop (i+1):=by
      rw [List.drop_eq_getElem_cons hlt];congr 1;exact Option.some.inj ((List.getElem?_eq_getElem hlt).symm.trans hd)
    rw [hdrop] at hc;unfold bW at hc;refine wpAny_bind (wpAny_standAt (wpAny_bind (cS (T.item X rfl rfl rfl calm i [] s σ H _ I (hfp H fr) st (idt.go i H gd hlt)) fun r s1 ⟨u,hr,h1⟩=>?_)));subst hr;refine wpAny_bind (cS h1 fun _ s2 ⟨x,H2,I2,r2,y2,st2,fr2⟩=>?_);obtain ⟨s02,p2⟩:=idt.yld i H x H2 d gd hd y2;have I2':=I2.pinned (hfp H2 fr2) (T.obj _ _ st2);have back:∀ {σ':St} {H':Hp} {s':Shared},az X ([]++kr fp s2.heap) σ' H' s'->az X [] σ' H' s'/\tn (i+1) s'.heap/\∀ b∈fp,H' b=none:=fun {σ' H' s'} J' =>
      ⟨J'.unpinned,T.keep _ _ _ st2 fun b hb o e=>(J'.pin (b,o) (List.mem_append_right _ (List.mem_append_right _ (gc hb e)))).1,fun b hb=>by
        obtain ⟨o,e,_⟩:=T.obj _ _ st2 b hb;exact (J'.pin (b,o) (List.mem_append_right _ (List.mem_append_right _ (gc hb e)))).2.1⟩
    cases eb:b d ρ0 with
    | none=>rw [eb] at hc;exact absurd hc.symm hno
    | some ρ1 =>
      rw [eb] at hc;dsimp only at hc;have hfit:=hb0 d ρ1 eb;refine wpAny_bind (noex (hg _ s2 σ H2 x u (fun σ' H'=>H'=H2/\Sl H2 σ' ρ1/\∀ (i:Nat) (e:PyData),ρ1[i]?=some (.own e)->ρ0[i]?=some (.own e)/\σ'[i]?=σ[i]?) I2' r2 ⟨ρ0,d,sl.mono s02,p2,by rw [eb];exact fun σ' sl' w'=>⟨rfl,sl',w'⟩⟩) fun _ s3 ⟨σ3,H3,I3,e3,sl3,w3⟩=>?_);subst e3;have ow3:tL H0 σ3 ρ0:=fun j e h=>by
        obtain ⟨v,z1,z2⟩:=ow j e h;rcases hfit.2 j _ h with z | z
        · cases z
        · exact ⟨v,by rw [(w3 j e z).2];exact z1,z2⟩
      cases et:t ρ1 with
      | no=>rw [et] at hc;exact absurd hc.symm hno
      | ex c =>
        rw [et] at hc;exact wpAny_bind (noex (ht _ s3 σ3 H3 (fun _ _=>False) I3 ⟨ρ1,sl3,by rw [et];exact (hX c hc.symm).mono (s0.trans s02)⟩) fun ok s4 ⟨H4,I4,z⟩=>z.elim)
      | ok k =>
        rw [et] at hc;refine wpAny_bind (noex (ht _ s3 σ3 H3 (fun b' H'=>b'=k/\ar H3 H') I3 ⟨ρ1,sl3,by rw [et];exact fun H' s'=>⟨rfl,s'⟩⟩) fun ok s4 ⟨H4,I4,e4,s34⟩=>?_);subst e4;have s04:=(s0.trans s02).trans s34;have hla4:H4 a=some (.lst vs):=s34 _ _ (s02 _ _ hla);have ra4:bd H4 acc vs:=(ra.mono s02).mono s34;cases ok with
        | false =>
          obtain ⟨J1,J2,J3⟩:=back I4;have hc':(bW b t f ρ0 (ds.drop (i+1))>>=fun c8=>.ok (acc++c8))=r:=hc;exact wpAny_pure ⟨rfl,ds.length-(i+1),by omega,i+1,acc,σ3,H4,vs,rfl,hlt,by omega,J1,J2,J3,s04,hla4,ra4,hc',(sl3.unfit hfit).mono s34,ow3⟩
        | true =>
          have hc':((f ρ1>>=fun x=>bW b t f ρ0 (ds.drop (i+1))>>=fun xs=>.ok (x::xs))>>=fun c8=>.ok (acc++c8))=r:=hc;cases ef:f ρ1 with
          | no=>rw [ef] at hc';exact absurd hc'.symm hno
          | ex c =>
            rw [ef] at hc';exact wpAny_bind (wpAny_bind (noex (hf _ s4 σ3 H4 (fun _ _=>False) I4 ⟨ρ1,sl3.mono s34,by rw [ef];exact (hX c hc'.symm).mono s04⟩) fun yv s5 ⟨v5,H5,I5,r5,z⟩=>z.elim))
          | ok y =>
              rw [ef,R.ok_bind] at hc';have hc2:(bW b t f ρ0 (ds.drop (i+1))>>=fun c8=>.ok ((acc++[y])++c8))=r:=by
                rw [<- hc'];cases bW b t f ρ0 (ds.drop (i+1)) with
                | ok c8=>simp only [R.ok_bind,List.append_assoc,List.singleton_append]
                | ex c=>rfl
                | no=>rfl
              refine wpAny_bind (wpAny_bind (noex (hf _ s4 σ3 H4 (fun v H'=>ar H4 H'/\Rp H' y v) I4 ⟨ρ1,sl3.mono s34,by rw [ef];exact fun v H' s' p'=>⟨s',p'⟩⟩) fun yv s5 ⟨v5,H5,I5,r5,s45,p5⟩=>?_));have hla5:H5 a=some (.lst vs):=s45 _ _ hla4;have hlen:vs.length < sizeLine:=by
                rw [ra.length];omega
              refine wpAny_bind (noex (lL _ s5 σ3 H5 (.ref a) [v5] (.ref a) [yv] (fun _ H'=>H'=cr H5 a (.lst (vs++[v5]))) I5 rfl (.cons r5 .nil) ⟨a,vs,v5,rfl,rfl,hla5,hlen,rfl⟩) fun _ s6 ⟨v6,H6,I6,r6,e6⟩=>?_);subst e6;obtain ⟨J1,J2,J3⟩:=back I6;have kp:Kp H5 (cr H5 a (.lst (vs++[v5]))):=eR hla5 (.inl ⟨_,rfl⟩);have s06:ar H0 (cr H5 a (.lst (vs++[v5]))):=fun b o e=>by
                rw [ay (ba e ha0)];exact (s04.trans s45) b o e
              refine wpAny_pure (wpAny_pure ⟨rfl,ds.length-(i+1),by omega,i+1,acc++[y],σ3,_,vs++[v5],rfl,hlt,by rw [List.length_append,List.length_singleton];omega,J1,J2,J3,s06,bc,?_,hc2,?_,ow3⟩)
              · exact bd.append (bd.kp kp _ _ (ra4.mono s45)) (bd.cons (Rp.kp kp _ _ p5) bd.nil)
              · have sl5:Sl H5 σ3 ρ0:=((sl3.unfit hfit).mono s34).mono s45;refine ⟨sl5.1,fun j c o h1 h2=>?_⟩;cases c with
                | exc p=>exact sl5.2 j _ o h1 h2
                | non=>exact True.intro
                | val d' =>
                  obtain ⟨v',z1,z2⟩:=sl5.2 j _ o h1 h2;exact ⟨v',z1,Rp.kp kp _ _ z2⟩
                | own e' =>
                  obtain ⟨v',z1,z2⟩:=ow3 j e' h1;rw [z1] at h2;cases h2;exact ⟨v',rfl,z2.mono s06⟩
  · have e:i=ds.length:=by omega
    subst e;rw [List.drop_length] at hc;have hr':r=.ok acc:=by rw [<- hc];simp only [bW,R.ok_bind,List.append_nil]
    refine wpAny_bind (wpAny_standAt (wpAny_bind (cS (T.done X rfl rfl rfl calm _ [] s σ H _ I (hfp H fr) st (idt.stop _ H gd (Nat.le_refl _))) fun r s1 ⟨hr,I1⟩=>?_)));subst hr;exact wpAny_pure (fin acc s1 σ H vs hr' I1 s0 hla ra)
theorem fZ.but {P:Program} {w:World} {H:Hp} {h1 h2:Heap} {C:Addr} (ok:fZ P w H h1) (hC:H C=none) (sb:∀ b o,b≠C->h1.get? b=some o->h2.get? b=some o):fZ P w H h2:=fun a o e =>
  (ok a o e).stay (fun b u hb q=>sb b u (by
    rcases hb with rfl | hb
    · exact ba e hC
    · exact ba hb hC) q) (fun _ q=>q) fun _ _ q=>q
theorem iG {h h' base:Heap} {C:Addr} (tp:∀ b o,b≠C->h.get? b=some o->h'.get? b=some o):∀ {l:List Env},C∉jq l->h.FunFrames base l->h'.FunFrames base l
  | [],_,_=>trivial
  | env::l,hC,⟨hk,⟨L,o,hf,hn,ho,hd⟩,hr⟩=>⟨hk,⟨L,o,hf,hn,tp L o (fun z=>hC (List.mem_filterMap.mpr ⟨env,List.mem_cons_self,by rw [hf,z]⟩)) ho,hd⟩,iG tp (fun z=>hC (by
    obtain ⟨e,he,hz⟩:=List.mem_filterMap.mp z;exact List.mem_filterMap.mpr ⟨e,List.mem_cons_of_mem _ he,hz⟩)) hr⟩
theorem i6 {X:Cx} {tg iter elt:Expr} {ifs:List Expr} {sc:Scope} {pos pos':Pos} {it:aD->R (List PyData)} {b:PyData->aD->Option aD} {t:aD->R Bool} {f:Fe} {N:List Str} {own:Nat} {G G0:List Str} {fr:List Nat} {nl:Nat}
    (T:Tb X nl G0) (ck:dJ sc N own G X.N fr) (hout:∀ y∈sc.names,y.2=.free->X.env.kindOf y.1=some .cell\/X.env.kindOf y.1=some .free) (hi:pd X tg iter it)
    (hb0:∀ ρ d ρ1,b d (aA own fr ρ)=some ρ1->kf (aA own fr ρ) ρ1)
    (hbody:∀ cl C s H fp E,Tb (aI X N sc cl C s H fp E) own G->rA (aI X N sc cl C s H fp E) tg b/\r9 (aI X N sc cl C s H fp E) ifs t/\cJ (aI X N sc cl C s H fp E) elt f)
    (hs:∀ x,foldedSetIterable iter X.env x=pure x) {use:Option (Value->Sem Unit)} {Qc:Value->Shared->Prop} {pins:List (Addr×Obj)} {s:Shared} {σ:St} {H:Hp} (I:az X pins σ H s) {ρ:aD} {ds:List PyData} {r:R (List PyData)} (sl:Sl H σ ρ) (ei:it ρ=.ok ds)
    (hsz:ds.length<=sizeLine) (ec:bW b t f (aA own fr ρ) ds=r) (hX:∀ c,r=.ex c->Xw X c H) (hno:r≠.no) (hstk:∃ env0 outer0 L,X.stack=env0::outer0/\env0.frame=some L/\X.env.frame=some L)
    (fin:∀ (xs:List PyData) (a C:Addr) (H':Hp) (s':Shared) (m:Str->Option Value) (vs:List V),r=.ok xs->az X pins σ H' s'->jU X pins H' C->s'.heap.Ns C m->ar H H'->H a=none->H' a=some (.lst vs)->bd H' xs vs->compPost (model X.prog X.w) X.A X.xe use Qc (.ref a) C (.ok .next) s') :
    wpAny (model X.prog X.w) X.A (comprehension (.ListComp elt [⟨tg,iter,ifs,0⟩] sc pos) sc X.env pos' (newList []) false (eval iter X.env) use) Qc X.xe s:=by
  obtain ⟨cl,hcl,hcl1,hcl2⟩:=pQ (scope:=sc) (env:=X.env) fun x hx hf=>I.ok.has _ (hout x hx hf)
  have ck':=ck;obtain ⟨ck1,ck2,ck3,_,_,_,_,_,_,ofr⟩:=ck';have hin:∀ i∈fr,i < ρ.length:=fun i hi=>by
    have e1:ρ.length=X.N.length:=by rw [<- sl.1];exact I.len
    rw [e1];obtain ⟨k,hk⟩:=List.getElem?_of_mem hi;have q:=congrArg (fun l=>l[k]?) ofr;simp only [List.getElem?_map,hk,Option.map_some] at q;cases z:(N.drop own)[k]? with
    | none=>rw [z] at q;cases q
    | some y =>
      rw [z] at q;have q':some y=X.N[i]?:=Option.some.inj q;exact (List.getElem?_eq_some_iff.mp q'.symm).1
  refine wpAny_comprehension_free (use:=use) rfl hs hcl ck1 ck3 ?_;refine cS (hi pins s σ H (fun J H1=>ar H H1/\∃ Gd,vQ J Gd ds/\Bk H1 (fun _=>False) Gd) I ⟨ρ,sl,by rw [ei];exact fun J H1 s1 z=>⟨s1,z⟩⟩) fun xv s1 h1=>cS h1 fun itv s2 h2=>?_
  obtain ⟨itA,fp,tn,J,H2,e,I2,T2,st2,f2,s02,Gd,idt,sta⟩:=h2;subst e;refine wpAny_newObj_type (wpAny_newFunctionEnv ck2 (by intro y hy;simp at hy) (fun h₁ hns₁ hsb₁=>?_) ck1);dsimp only at hns₁ hsb₁ ⊢;generalize hHp:s2.heap.push { cls:=.type "list",dict:=none,data:=.seq ([]:List Value).toArray }=Hp2 at hns₁ hsb₁ ⊢;have hC:Hp2.objs.size=s2.heap.objs.size+1:=by rw [<- hHp,Heap.size_push]
  have hDC:s2.heap.objs.size≠Hp2.objs.size:=by rw [hC];exact Nat.ne_of_lt (Nat.lt_succ_self _)
  have hCle:s2.heap.objs.size<=Hp2.objs.size:=by rw [hC];exact Nat.le_succ _
  have below:∀ b,b < s2.heap.objs.size->b≠Hp2.objs.size:=fun b hb=>by rw [hC];exact Nat.ne_of_lt (Nat.lt_succ_of_lt hb)
  have old:∀ b o,s2.heap.get? b=some o->h₁.get? b=some o:=fun b o e=>hsb₁.extBut b o (below b (Heap.lt_size e)) (Heap.get?_push_of_some _ (hHp ▸ Heap.get?_push_of_some _ e))
  have hacc:h₁.get? s2.heap.objs.size=some { cls:=.type "list",dict:=none,data:=.seq ([]:List Value).toArray }:=hsb₁.extBut _ _ hDC (Heap.get?_push_of_some _ (hHp ▸ Heap.get?_push_size _ rfl));have hob:∀ b∈fp,b < s2.heap.objs.size:=fun b hb=>by
    obtain ⟨o,e,_⟩:=T2.obj _ _ st2 b hb;exact Heap.lt_size e
  have sl2:Sl H2 σ ρ:=sl.mono s02;have IC:az (aI X N sc cl Hp2.objs.size s2 H2 fp) [] (fx own fr σ) (cr H2 s2.heap.objs.size (.lst [])) { s2 with heap:=h₁,toks:=s2.toks+([]:List (Str×Value)).length } :=
    vd I2 ck f2 hob hcl1 hcl2 (fun x hx=>(T.vis x hx).1) hout (Nat.le_refl _) hCle hDC old hacc hns₁
  let E:Value->Shared->Prop:=fun e s'=>∃ c Ce pins' σ' H' s1 H1,r=.ex c/\X.mg c=some (.ref Ce)/\az (aI X N sc cl Hp2.objs.size s2 H2 fp) pins' σ' H' s1/\ar H2 H1/\mZ X.prog X.w X.stack H' s1 Ce H1 e s'
  obtain ⟨hg,ht,hf⟩:=hbody cl Hp2.objs.size s2 H2 fp E (ug T ck cl Hp2.objs.size s2 H2 fp E);have ha0:H2 s2.heap.objs.size=none:=I2.hok.fresh (Nat.le_refl _);have hfp:∀ H':Hp,(∀ b∈fp,H' b=none)->∀ b∈fp,jU (aI X N sc cl Hp2.objs.size s2 H2 fp E) [] H' b:=fun H' hn b hb =>
    ⟨hn b hb,below b (hob b hb),fun z=>by
      rcases List.mem_cons.mp (I2.stkSub b z) with y | y
      · exact (f2 b hb).2.1 y
      · exact (f2 b hb).2.2.1 y,.inl hb,fun x c e=>(f2 b hb).2.2.2.2.1 x c (hcl1 x c e),fun p hp=>absurd (show p∈([]:List (Addr×Obj)) from hp) (by simp)⟩
  have st3:tn 0 h₁:=T2.keep _ _ _ st2 fun b _ o e=>old b o e
  have slC:Sl H2 (fx own fr σ) (aA own fr ρ):=wn sl2 own fr hin;have fin':∀ xs s' σ' H' vs,r=.ok xs->az (aI X N sc cl Hp2.objs.size s2 H2 fp E) [] σ' H' s'->ar H2 H'->H' s2.heap.objs.size=some (.lst vs)->bd H' xs vs ->
      compPost (model X.prog X.w) X.A X.xe use Qc (.ref s2.heap.objs.size) Hp2.objs.size (.ok .next) s':=fun xs s' σ' H' vs hr J' s2' hv rv=>by
    obtain ⟨m,hn,_⟩:=J'.loc;exact fin xs _ _ H' s' m vs hr (I2.call' (s':=s') (ch:=fp) J'.os J'.base J'.hok J'.bare (fun b hb=>⟨(f2 b hb).2.2.2.1,(f2 b hb).2.1,(f2 b hb).2.2.2.2.1,(f2 b hb).2.2.2.2.2⟩)) (I2.fpOk hCle J'.free) hn (s02.trans s2') (s02.free ha0) hv rv
  have hXc:∀ c,r=.ex c->Xw (aI X N sc cl Hp2.objs.size s2 H2 fp E) c H2:=fun c hr H1 s1 Ce hm pins' σ' H' s1' e s' J f =>
    ⟨c,Ce,pins',σ',H',s1',H1,hr,hm,J.unwish,s1,f⟩
  have hxe:∀ e s',E e s'->notedBy (model X.prog X.w) X.A (compEnvC sc cl Hp2.objs.size X.env) (fun x s'=>compPost (model X.prog X.w) X.A X.xe use Qc (.ref s2.heap.objs.size) Hp2.objs.size (.error x) s') e s':=fun e s' hE=>by
    obtain ⟨c,Ce,pins',σ',H',s1,H1,hr,hm,J,same1,f⟩:=hE;obtain ⟨env0,outer0,L,k1,k2,k3⟩:=hstk;refine f.note k1 I.ok.frames k2 k3 fun h4 f4 up=>?_
    obtain ⟨m,hn,_⟩:=(f4.inv (X:=aI X N sc cl Hp2.objs.size s2 H2 fp) J).loc;refine ⟨m,hn,fun h5 sb cenv _=>?_⟩;have fC:=I2.fpOk hCle J.free;have fC1:H1 Hp2.objs.size=none:=(f4.inv (X:=aI X N sc cl Hp2.objs.size s2 H2 fp) J).free;have nfr:Hp2.objs.size∉jq X.stack:=fun z=>by
      rcases List.mem_cons.mp (I2.stkSub _ z) with y | y
      · exact fC.2.1 y
      · exact fC.2.2.1 y
    have Io:=I2.call' (s':=s1) (ch:=fp) J.os J.base J.hok J.bare (fun b hb=>⟨(f2 b hb).2.2.2.1,(f2 b hb).2.1,(f2 b hb).2.2.2.2.1,(f2 b hb).2.2.2.2.2⟩);have Io2:az X pins σ H' { s1 with heap:=PySem.W.hideAll s1.heap [Hp2.objs.size],toks:=s1.toks }:=by
      obtain ⟨g0,g1,g2,g3,g4,g5⟩:=fC;exact Io.turned (t':=s1.toks) (fun b o hb q=>PySem.W.hideAll_get _ q (by simpa using hb)) g0 g1 g3 g4 g5
    obtain ⟨p,a0,B,rfl,t,okB,hp,cov⟩:=f4.ex;have stB:(PySem.W.hideAll B [Hp2.objs.size]).StaysIn B:=fun b o q=>PySem.W.of_hideAll _ q
    have hid:∀ {h:Heap} {b:Addr} {o:Obj},(PySem.W.hideAll h [Hp2.objs.size]).get? b=some o->b≠Hp2.objs.size:=fun {h b o} q z=>by
      rw [PySem.W.hideAll_none _ (by rw [z];exact List.mem_singleton.mpr rfl)] at q;cases q
    have tp:∀ b o,b≠Hp2.objs.size->h4.get? b=some o->h5.get? b=some o:=fun b o hb q=>(sb.2 b hb).trans q
    have ne_e:p≠Hp2.objs.size:=fun z=>by
      obtain ⟨oe,vs,q1,_,q2,_⟩:=t.first;obtain ⟨o,es,ep,q3,q4,_⟩:=hn;have q3':h4.get? Hp2.objs.size=some o:=q3;rw [<- z,q1] at q3';cases q3';rw [q2] at q4;cases q4
    have f5:mZ X.prog X.w X.stack H' { s1 with heap:=PySem.W.hideAll s1.heap [Hp2.objs.size],toks:=s1.toks } Ce H1 (.ref p) { s' with heap:=h5 }:=by
      refine ⟨f4.os,f4.bare,f4.same,⟨p,a0,PySem.W.hideAll B [Hp2.objs.size],rfl,?_,?_,hp,fun b o q n hb=>?_⟩,fun b o q n hb=>?_⟩
      · obtain ⟨t1,t2,t3,fl,oe,vs,T',oT,ts,a1,a2,a3,a4,a5,a6,a7,a8,a9⟩:=t;refine ⟨fun b o q=>tp b o (hid q) (t1 b o (stB b o q)),PySem.W.fresh_of_stays stB t2,iG tp nfr (PySem.W.funFrames_base stB t3),fl,oe,vs,T',oT,ts,tp _ _ ne_e a1,a2,a3,a4,PySem.W.fresh_of_stays stB a5,a6,tp _ _ ?_ a7,a8,a9⟩;intro z;obtain ⟨o,es,ep,q3,q4,_⟩:=hn;have q3':h4.get? Hp2.objs.size=some o:=q3;have a7':h4.get? T'=some oT:=a7;rw [<- z,a7'] at q3';cases q3';rw [a8] at q4;cases q4
      · exact fZ.but okB fC1 fun b o hb q=>PySem.W.hideAll_get _ q (by simpa using hb)
      · obtain ⟨z1,z2⟩:=cov b o (PySem.W.of_hideAll _ q) n hb;exact ⟨PySem.W.hideAll_get _ z1 (by simpa using hid q),z2⟩
      · obtain ⟨⟨sl',z1⟩,z2⟩:=f4.slot b o (PySem.W.of_hideAll _ q) n hb;exact ⟨⟨sl',tp b _ (hid q) z1⟩,z2⟩
    refine f5.pass fun h6 f6=>?_
    exact hX c hr H1 (s02.trans same1) Ce hm pins σ H' _ _ _ Io2 f6
  have loop:=sn (X:=aI X N sc cl Hp2.objs.size s2 H2 fp E) (iter:=iter) (scope:=sc) (pos:=pos) T2 T.calm hfp hxe hXc hno hg ht hf idt sta hsz ha0 (fun d ρ1 e=>hb0 ρ d ρ1 e) fin' (IC.wish E) st3 (fun b hb=>by
      show cr H2 s2.heap.objs.size (.lst []) b=none;rw [ay (Nat.ne_of_lt (hob b hb))];exact (f2 b hb).1) (bT ha0 _) bc ec (slC.mono (bT ha0 _)) (fun i e h=>by
      obtain ⟨o,z1,v,rfl,z2⟩:=slC.at h;exact ⟨v,z1,z2⟩)
  exact codeAny_compStart_list loop (T2.self _ 0 _ _ _ st3 loop)
theorem oI {X:Cx} {tg iter elt:Expr} {ifs:List Expr} {sc:Scope} {pos:Pos} {it:aD->R (List PyData)} {b:PyData->aD->Option aD} {t:aD->R Bool} {f:Fe} {N:List Str} {own:Nat} {G G0:List Str} {fr:List Nat} {nl:Nat}
    (T:Tb X nl G0) (ck:dJ sc N own G X.N fr) (hout:∀ y∈sc.names,y.2=.free->X.env.kindOf y.1=some .cell\/X.env.kindOf y.1=some .free) (hi:pd X tg iter it)
    (hb0:∀ ρ d ρ1,b d (aA own fr ρ)=some ρ1->kf (aA own fr ρ) ρ1)
    (hbody:∀ cl C s H fp E,Tb (aI X N sc cl C s H fp E) own G->rA (aI X N sc cl C s H fp E) tg b/\r9 (aI X N sc cl C s H fp E) ifs t/\cJ (aI X N sc cl C s H fp E) elt f)
    (hs:∀ x,foldedSetIterable iter X.env x=pure x:=by intro _;rfl) (hstk:∃ env0 outer0 L,X.stack=env0::outer0/\env0.frame=some L/\X.env.frame=some L:=by exact ⟨_,_,_,rfl,rfl,rfl⟩):la X (.ListComp elt [⟨tg,iter,ifs,0⟩] sc pos) (bK it own fr b t f):=by
  intro pins s σ H Q I h;obtain ⟨ρ,sl,q⟩:=h;unfold bK at q;rw [eval_ListComp];cases ei:it ρ with
  | ex c=>rw [ei] at q;exact q.elim
  | no=>rw [ei] at q;exact q.elim
  | ok ds =>
    rw [ei] at q;simp only [lb,R.ok_bind] at q;split at q
    · rename_i hsz;cases ec:bW b t f (aA own fr ρ) ds with
      | no=>rw [ec] at q;exact q.elim
      | ex c =>
        rw [ec] at q;exact i6 (use:=none) T ck hout hi hb0 hbody hs I sl ei hsz ec (fun c' hr=>by cases hr;exact q) (fun z=>nomatch z) hstk fun xs a C H' s' m vs hr=>by cases hr
      | ok xs =>
        rw [ec] at q;refine i6 (use:=none) T ck hout hi hb0 hbody hs I sl ei hsz ec (fun c' hr=>by cases hr) (fun z=>nomatch z) hstk fun xs' a C H' s' m vs hr I' fC hn s2' ha hv rv=>?_
        cases hr;obtain ⟨f0,f1,f2,f3,f4,f5⟩:=fC;refine ⟨m,hn,fun h' sb=>⟨.ref a,H',I'.turned (t':=s'.toks) (fun b o hb e=>sb.extBut b o hb e) f0 f1 f3 f4 f5,rfl,?_⟩⟩;refine q _ H' s2' ⟨?_,_,rfl,ha⟩;simp only [gF];exact ⟨_,vs,rfl,hv,rv⟩
    · exact q.elim
theorem yl {X:Cx} {tg iter elt:Expr} {ifs:List Expr} {sc:Scope} {pos:Pos} {it:aD->R (List PyData)} {b:PyData->aD->Option aD} {t:aD->R Bool} {f:Fe} {N:List Str} {own:Nat} {G G0:List Str} {fr:List Nat} {nl:Nat} (T:Tb X nl G0) (ck:dJ sc N own G X.N fr) (hout:∀ y∈sc.names,y.2=.free->X.env.kindOf y.1=some .cell\/X.env.kindOf y.1=some .free) (hi:Z.pd X tg iter it) (hb0:∀ ρ d ρ1,b d (aA own fr ρ)=some ρ1->kf (aA own fr ρ) ρ1) (hbody:∀ cl C s H fp E,Tb (aI X N sc cl C s H fp E) own G->Z.rA (aI X N sc cl C s H fp E) tg b/\Z.r9 (aI X N sc cl C s H fp E) ifs t/\Z.cJ (aI X N sc cl C s H fp E) elt f) (hs:∀ x,foldedSetIterable iter X.env x=pure x:=by intro _;rfl) (hstk:∃ env0 outer0 L,X.stack=env0::outer0/\env0.frame=some L/\X.env.frame=some L:=by exact ⟨_,_,_,rfl,rfl,rfl⟩):Z.la X (.ListComp elt [⟨tg,iter,ifs,0⟩] sc pos) (bK it own fr b t f) :=
  ⟨D2.oI T ck hout hi.un hb0 (fun cl C s H fp E T=>let ⟨q1,q2,q3⟩:=hbody cl C s H fp E T;⟨q1.un,q2.un,q3.un⟩) hs hstk⟩
theorem vZ {X:Cx} {tg iter elt:Expr} {ifs:List Expr} {sc:Scope} {pos py spos:Pos} {it:aD->R (List PyData)} {b:PyData->aD->Option aD} {t:aD->R Bool} {f:Fe} {N:List Str} {own:Nat} {G G0:List Str} {fr:List Nat} {nl:Nat} {y:Str} {i:Nat}
    (T:Tb X nl G0) (ck:dJ sc N own G X.N fr) (hout:∀ y∈sc.names,y.2=.free->X.env.kindOf y.1=some .cell\/X.env.kindOf y.1=some .free) (hi:pd X tg iter it)
    (hb0:∀ ρ d ρ1,b d (aA own fr ρ)=some ρ1->kf (aA own fr ρ) ρ1)
    (hbody:∀ cl C s H fp E,Tb (aI X N sc cl C s H fp E) own G->rA (aI X N sc cl C s H fp E) tg b/\r9 (aI X N sc cl C s H fp E) ifs t/\cJ (aI X N sc cl C s H fp E) elt f)
    (hN:(X.N.take nl)[i]?=some y) (hsw:swapsWith (.ListComp elt [⟨tg,iter,ifs,0⟩] sc pos) (some (.Name y py)) spos.line X.env=pure true)
    (hs:∀ x,foldedSetIterable iter X.env x=pure x:=by intro _;rfl) (hstk:∃ env0 outer0 L,X.stack=env0::outer0/\env0.frame=some L/\X.env.frame=some L:=by exact ⟨_,_,_,rfl,rfl,rfl⟩):jT X (.Assign [.Name y py] (.ListComp elt [⟨tg,iter,ifs,0⟩] sc pos) spos) (iO i (bK it own fr b t f)):=fun Fm=>by
  intro pins s σ H D I h;obtain ⟨ρ,sl,q⟩:=h;unfold iO bK at q;obtain ⟨hNi,hl,hf⟩:=T.nm hN;cases ei:it ρ with
  | ex c=>rw [ei] at q;exact q.elim
  | no=>rw [ei] at q;exact q.elim
  | ok ds =>
    rw [ei] at q;simp only [lb,R.ok_bind] at q;by_cases hsz:ds.length<=sizeLine
    · rw [if_pos hsz] at q;cases ec:bW b t f (aA own fr ρ) ds with
      | no=>rw [ec] at q;exact q.elim
      | ex c =>
        rw [ec] at q;rw [exec_Assign_Name_used _ _ _ _ hsw];refine wpAny_bind (wpAny_standAt (wpAny_bind ?_));show wpAny _ X.A (do let _ <- comprehension (.ListComp elt [⟨tg,iter,ifs,0⟩] sc pos) sc X.env _ (newList []) false (eval iter X.env) (some (assign (.Name y py) X.env))) _ _ s;exact wpAny_bind (cS (i6 (use:=some (assign (.Name y py) X.env)) (Qc:=fun _ s'=>False) T ck hout hi hb0 hbody hs I sl.sl ei hsz ec (fun c' hr=>by cases hr;exact q.1.mono sl.fm) (fun z=>nomatch z) hstk fun xs a C H' s' m vs hr=>by cases hr) fun _ s' hq=>hq.elim)
      | ok xs =>
        rw [ec] at q;rw [exec_Assign_Name_used _ _ _ _ hsw];refine wpAny_bind (wpAny_standAt (wpAny_bind ?_));show wpAny _ X.A (do let _ <- comprehension (.ListComp elt [⟨tg,iter,ifs,0⟩] sc pos) sc X.env _ (newList []) false (eval iter X.env) (some (assign (.Name y py) X.env))) _ _ s;refine wpAny_bind (cS (i6 (use:=some (assign (.Name y py) X.env)) (Qc:=fun _ s'=>SP X pins D .next s') T ck hout hi hb0 hbody hs I sl.sl ei hsz ec (fun c' hr=>by cases hr) (fun z=>nomatch z) hstk fun xs' a C H' s' m vs hr I' fC hn s2' ha hv rv=>?_) fun _ s' hq=>wpAny_pure (wpAny_pure hq));cases hr;obtain ⟨f0,f1,f2,f3,f4,f5⟩:=fC;show wpAny _ X.A (assign (.Name y py) X.env (.ref a)) _ _ _;refine wpAny_assign_Name (lF I' T.nd hNi hl (v:=.ref a) rfl (fun s'' I'' k=>?_) hf);have sls:gC Fm H' (σ.set i (some (.ref a))) (ρ.set i (.own (.list xs))):=gC.setOwn sl (sl.mono s2') s2' i ⟨by simp only [gF];exact ⟨a,vs,rfl,hv,rv⟩,a,rfl,ha⟩;refine ⟨m,?_,fun h' sb=>⟨_,H',I''.turned (t':=s''.toks) (fun b o hb e=>sb.extBut b o hb e) f0 f1 f3 f4 f5,q _ H' sls⟩⟩;obtain ⟨a',sb',ha'⟩:=k;refine hn.sameBut sb' ?_;rcases ha' with rfl | ha'
        · exact f1
        · exact Ne.symm (f4 y a' ha')
    · rw [if_neg hsz] at q;exact q.elim
theorem gC.freeze {Fm H:Hp} {σ:St} {ρ:aD} {i:Nat} {d:PyData} {a:Addr} {u:HO} {o:Obj} (h:gC Fm H σ ρ) (h1:ρ[i]?=some (.own d)) (h2:σ[i]?=some (some (.ref a))) (hu:H a=some u) (hm:(∃ xs,u=.lst xs)\/∃ ks,u=.dK ks)
    (hr:Rp (cr H a (.frz o u)) d (.ref a)):gC Fm (cr H a (.frz o u)) σ (ρ.set i (.val d)):=by
  have hFa:=h.own i d a h1 h2;have kp:Kp H (cr H a (.frz o u)):=eR hu hm;refine ⟨fun b x e=>?_,⟨by rw [List.length_set];exact h.sl.1,fun j c w' e1 e2=>?_⟩,fun j e b e1 e2=>?_,fun j k e f b e1 e2 e3 e4=>?_⟩
  · rw [ay (ba e hFa)];exact h.fm b x e
  · rw [List.getElem?_set] at e1;by_cases hij:i=j
    · subst hij;rw [if_pos rfl] at e1;split at e1
      · cases e1;rw [h2] at e2;cases e2;exact ⟨_,rfl,hr⟩
      · cases e1
    · rw [if_neg hij] at e1;have q:=h.sl.2 j c w' e1 e2;cases c with
      | exc p=>exact q
      | non=>exact True.intro
      | val d'=>obtain ⟨v,z1,z2⟩:=q;exact ⟨v,z1,Rp.kp kp _ _ z2⟩
      | own d' =>
        obtain ⟨v,z1,z2⟩:=q;subst z1;obtain ⟨b,ob,rfl,hb⟩:=mC z2;have nb:b≠a:=fun z=>hij (by subst z;exact h.apart i j d d' b h1 e1 h2 e2)
        refine ⟨_,rfl,?_⟩;cases d' <;> simp only [gF] at z2 ⊢
        · obtain ⟨b',vs,e,hb',r⟩:=z2;cases e;exact ⟨b,vs,rfl,by rw [ay nb];exact hb',bd.kp kp _ _ r⟩
        · obtain ⟨b',vs,e,hb',r⟩:=z2;cases e;exact ⟨b,vs,rfl,by rw [ay nb];exact hb',da.kp kp _ _ r⟩
  · obtain ⟨ne,e1⟩:=ce (fun e z=>by cases z) e1;exact h.own j e b e1 e2
  · obtain ⟨ne,e1⟩:=ce (fun e z=>by cases z) e1;obtain ⟨ne',e2⟩:=ce (fun e z=>by cases z) e2;exact h.apart j k e f b e1 e2 e3 e4
theorem ya {X:Cx} {pins:List (Addr×Obj)} {s:Shared} {Fm H:Hp} {σ:St} {ρ:aD} {i:Nat} {d:PyData} (I:az X pins σ H s) (h:gC Fm H σ ρ) (h1:ρ[i]?=some (.own d)) :
    ∃ H' v,az X pins σ H' s/\gC Fm H' σ (ρ.set i (.val d))/\σ[i]?=some (some v)/\Rp H' d v:=by
  obtain ⟨w',h2,v,rfl,q⟩:=h.sl.at h1;cases d <;> simp only [gF] at q
  · rename_i ds;obtain ⟨a,vs,rfl,ha,r⟩:=q;obtain ⟨o,J⟩:=eP I ha (.inl ⟨_,rfl⟩);have hr:Rp (cr H a (.frz o (.lst vs))) (.list ds) (.ref a):=by
      simp only [Rp];exact ⟨a,o,vs,rfl,bc,bd.kp (eR ha (.inl ⟨_,rfl⟩)) _ _ r⟩
    exact ⟨_,_,J,h.freeze h1 h2 ha (.inl ⟨_,rfl⟩) hr,h2,hr⟩
  · rename_i ds;obtain ⟨a,vs,rfl,ha,r⟩:=q;obtain ⟨o,J⟩:=eP I ha (.inr ⟨_,rfl⟩);have hr:Rp (cr H a (.frz o (.dK vs))) (.dict ds) (.ref a):=by
      simp only [Rp];exact .inl ⟨a,o,vs,rfl,bc,da.kp (eR ha (.inr ⟨_,rfl⟩)) _ _ r⟩
    exact ⟨_,_,J,h.freeze h1 h2 ha (.inr ⟨_,rfl⟩) hr,h2,hr⟩
theorem jT.fz {X:Cx} {st:Stmt} {i:Nat} {f:Fe} (h:jT X st (iO i f)) (hi:i < X.N.length):jT X st (bo i f):=fun Fm=>by
  intro pins s σ H D I ⟨ρ,sl,q⟩;unfold bo at q;cases ef:f ρ with
  | ex c=>rw [ef] at q;exact h Fm pins s σ H D I ⟨ρ,sl,by unfold iO;rw [ef];exact q⟩
  | no=>rw [ef] at q;exact q.elim
  | ok d =>
    rw [ef] at q;have hr:xP X Fm (iO i f) { nx:=fun σ' H'=>gC Fm H' σ' (ρ.set i (.own d)),rt:=fun _ _=>False } σ H:=⟨ρ,sl,by unfold iO;rw [ef];exact fun σ' H' s'=>s'⟩
    refine cS (h Fm pins s σ H _ I hr) fun fl s' z=>?_
    cases fl with
    | next =>
      obtain ⟨σ',H',I',sls⟩:=z;have hi':i < ρ.length:=by rw [<- sl.sl.1,I.len];exact hi
      obtain ⟨H2,v,I2,sl2,_,_⟩:=ya I' sls (i:=i) (d:=d) (by rw [List.getElem?_set,if_pos rfl,if_pos hi']);rw [List.set_set] at sl2;exact ⟨σ',H2,I2,q σ' H2 sl2⟩
    | brk=>obtain ⟨_,_,_,z⟩:=z;exact z.elim
    | cont=>obtain ⟨_,_,_,z⟩:=z;exact z.elim
    | ret u=>obtain ⟨_,_,_,_,_,z⟩:=z;exact z.elim
theorem jl {X:Cx} {st:Stmt} {i:Nat} {f:Fe} (h:Z.jT X st (iO i f)) (hi:i < X.N.length):Z.jT X st (bo i f) :=
  ⟨D2.jT.fz h.un hi⟩
noncomputable def ux (i:Nat):Fs:=fun ρ=>match ρ[i]? with
  | some (.own d)=>.ok (.rt d)
  | some (.val d)=>.ok (.rt d)
  | _=>.no
theorem sA {X:Cx} {nl:Nat} {G:List Str} {x:Str} {p pos:Pos} (T:Tb X nl G) (i:Nat) (hN:X.N[i]?=some x):Z.jT X (.Return (some (.Name x p)) pos) (ux i):=⟨fun Fm=>by
  intro pins s σ H D I ⟨ρ,sl,q⟩;have hm:=T.vis x (List.mem_of_getElem? hN);unfold ux at q;split at q
  · rename_i d e;obtain ⟨H2,v,I2,sl2,h2,r⟩:=ya I sl e;exact qm (gP hN hm.1 hm.2.1 hm.2.2) pins s σ H2 D I2 ⟨v,h2,q v H2 sl2.fm r⟩
  · rename_i d e;obtain ⟨o,h1,v,rfl,h2⟩:=sl.sl.at e;exact qm (gP hN hm.1 hm.2.1 hm.2.2) pins s σ H D I ⟨v,h1,q v H sl.fm h2⟩
  · exact q.elim⟩
theorem sM {X:Cx} {tg iter elt:Expr} {ifs:List Expr} {sc:Scope} {pos:Pos} {it:aD->R (List PyData)} {b:PyData->aD->Option aD} {t:aD->R Bool} {f:Fe} {N:List Str} {own:Nat} {G G0:List Str} {fr:List Nat} {nl:Nat}
    (T:Tb X nl G0) {oN:List Str} {on:List (Str×NameKind)} (hoN:X.N=oN) (hon:X.env.scope.names=on)
    (ck:dJ sc N own G oN fr/\∀ y∈sc.names,y.2=.free->on.lookup y.1=some .cell\/on.lookup y.1=some .free) (hi:pd X tg iter it)
    (hb0:∀ ρ d ρ1,b d (aA own fr ρ)=some ρ1->kf (aA own fr ρ) ρ1)
    (hbody:∀ cl C s H fp E,Tb (aI X N sc cl C s H fp E) own G->rA (aI X N sc cl C s H fp E) tg b/\r9 (aI X N sc cl C s H fp E) ifs t/\cJ (aI X N sc cl C s H fp E) elt f)
    (hs:∀ x,foldedSetIterable iter X.env x=pure x:=by intro _;rfl) (hstk:∃ env0 outer0 L,X.stack=env0::outer0/\env0.frame=some L/\X.env.frame=some L:=by exact ⟨_,_,_,rfl,rfl,rfl⟩):la X (.ListComp elt [⟨tg,iter,ifs,0⟩] sc pos) (bK it own fr b t f) :=
  oI T (by rw [hoN];exact ck.1) (fun y hy hf=>by unfold Env.kindOf;rw [hon];exact ck.2 y hy hf) hi hb0 hbody hs hstk
theorem cc {X:Cx} {tg iter elt:Expr} {ifs:List Expr} {sc:Scope} {pos:Pos} {it:aD->R (List PyData)} {b:PyData->aD->Option aD} {t:aD->R Bool} {f:Fe} {N:List Str} {own:Nat} {G G0:List Str} {fr:List Nat} {nl:Nat} (T:Tb X nl G0) {oN:List Str} {on:List (Str×NameKind)} (hoN:X.N=oN) (hon:X.env.scope.names=on) (ck:dJ sc N own G oN fr/\∀ y∈sc.names,y.2=.free->on.lookup y.1=some .cell\/on.lookup y.1=some .free) (hi:Z.pd X tg iter it) (hb0:∀ ρ d ρ1,b d (aA own fr ρ)=some ρ1->kf (aA own fr ρ) ρ1) (hbody:∀ cl C s H fp E,Tb (aI X N sc cl C s H fp E) own G->Z.rA (aI X N sc cl C s H fp E) tg b/\Z.r9 (aI X N sc cl C s H fp E) ifs t/\Z.cJ (aI X N sc cl C s H fp E) elt f) (hs:∀ x,foldedSetIterable iter X.env x=pure x:=by intro _;rfl) (hstk:∃ env0 outer0 L,X.stack=env0::outer0/\env0.frame=some L/\X.env.frame=some L:=by exact ⟨_,_,_,rfl,rfl,rfl⟩):Z.la X (.ListComp elt [⟨tg,iter,ifs,0⟩] sc pos) (bK it own fr b t f) :=
  ⟨D2.sM T hoN hon ck hi.un hb0 (fun cl C s H fp E T=>let ⟨q1,q2,q3⟩:=hbody cl C s H fp E T;⟨q1.un,q2.un,q3.un⟩) hs hstk⟩
theorem xA {X:Cx} {tg iter elt:Expr} {ifs:List Expr} {sc:Scope} {pos py spos:Pos} {it:aD->R (List PyData)} {b:PyData->aD->Option aD} {t:aD->R Bool} {f:Fe} {N:List Str} {own:Nat} {G G0:List Str} {fr:List Nat} {nl:Nat} {y:Str} (i:Nat)
    (hN:(X.N.take nl)[i]?=some y) (T:Tb X nl G0) {oN:List Str} {on:List (Str×NameKind)} (hoN:X.N=oN) (hon:X.env.scope.names=on)
    (ck:dJ sc N own G oN fr/\∀ y∈sc.names,y.2=.free->on.lookup y.1=some .cell\/on.lookup y.1=some .free) (hi:pd X tg iter it)
    (hb0:∀ ρ d ρ1,b d (aA own fr ρ)=some ρ1->kf (aA own fr ρ) ρ1)
    (hbody:∀ cl C s H fp E,Tb (aI X N sc cl C s H fp E) own G->rA (aI X N sc cl C s H fp E) tg b/\r9 (aI X N sc cl C s H fp E) ifs t/\cJ (aI X N sc cl C s H fp E) elt f)
    (hsw:swapsWith (.ListComp elt [⟨tg,iter,ifs,0⟩] sc pos) (some (.Name y py)) spos.line X.env=pure true:=by rfl)
    (hs:∀ x,foldedSetIterable iter X.env x=pure x:=by intro _;rfl) (hstk:∃ env0 outer0 L,X.stack=env0::outer0/\env0.frame=some L/\X.env.frame=some L:=by exact ⟨_,_,_,rfl,rfl,rfl⟩):jT X (.Assign [.Name y py] (.ListComp elt [⟨tg,iter,ifs,0⟩] sc pos) spos) (iO i (bK it own fr b t f)) :=
  vZ T (by rw [hoN];exact ck.1) (fun y hy hf=>by unfold Env.kindOf;rw [hon];exact ck.2 y hy hf) hi hb0 hbody hN hsw hs hstk
theorem fL {X:Cx} {tg iter elt:Expr} {ifs:List Expr} {sc:Scope} {pos py spos:Pos} {it:aD->R (List PyData)} {b:PyData->aD->Option aD} {t:aD->R Bool} {f:Fe} {N:List Str} {own:Nat} {G G0:List Str} {fr:List Nat} {nl:Nat} {y:Str} (i:Nat) (hN:(X.N.take nl)[i]?=some y) (T:Tb X nl G0) {oN:List Str} {on:List (Str×NameKind)} (hoN:X.N=oN) (hon:X.env.scope.names=on) (ck:dJ sc N own G oN fr/\∀ y∈sc.names,y.2=.free->on.lookup y.1=some .cell\/on.lookup y.1=some .free) (hi:Z.pd X tg iter it) (hb0:∀ ρ d ρ1,b d (aA own fr ρ)=some ρ1->kf (aA own fr ρ) ρ1) (hbody:∀ cl C s H fp E,Tb (aI X N sc cl C s H fp E) own G->Z.rA (aI X N sc cl C s H fp E) tg b/\Z.r9 (aI X N sc cl C s H fp E) ifs t/\Z.cJ (aI X N sc cl C s H fp E) elt f) (hsw:swapsWith (.ListComp elt [⟨tg,iter,ifs,0⟩] sc pos) (some (.Name y py)) spos.line X.env=pure true:=by rfl) (hs:∀ x,foldedSetIterable iter X.env x=pure x:=by intro _;rfl) (hstk:∃ env0 outer0 L,X.stack=env0::outer0/\env0.frame=some L/\X.env.frame=some L:=by exact ⟨_,_,_,rfl,rfl,rfl⟩):Z.jT X (.Assign [.Name y py] (.ListComp elt [⟨tg,iter,ifs,0⟩] sc pos) spos) (iO i (bK it own fr b t f)) :=
  ⟨D2.xA i hN T hoN hon ck hi.un hb0 (fun cl C s H fp E T=>let ⟨q1,q2,q3⟩:=hbody cl C s H fp E T;⟨q1.un,q2.un,q3.un⟩) hsw hs hstk⟩
theorem bH {own:Nat} {fr:List Nat} {i:Nat} (h:i < own):∀ ρ d ρ1,aG i d (aA own fr ρ)=some ρ1->kf (aA own fr ρ) ρ1:=fun ρ d ρ1 e=>by
  have e':ρ1=(aA own fr ρ).set i (.val d):=(Option.some.inj e).symm;subst e';refine ⟨by rw [List.length_set],fun j c hj=>?_⟩;by_cases hij:i=j
  · subst hij;left;unfold aA at hj;rw [List.getElem?_append_left (by simpa using h),List.getElem?_replicate,if_pos h] at hj;exact (Option.some.inj hj).symm
  · right;rw [List.getElem?_set,if_neg hij];exact hj
noncomputable def qu (sc:Scope) (N G:List Str):Prop :=
  N.Nodup/\(∀ x∈N,(sc.names.lookup x=some .local\/sc.names.lookup x=some .cell)/\(x==("__debug__" : Str))=false/\(x==("__classdict__" : Str))=false)/\∀ x∈G,sc.names.lookup x=some .globalImplicit/\(x==("__debug__" : Str))=false/\x≠("__name__" : Str)
noncomputable instance {sc:Scope} {N G:List Str}:Decidable (qu sc N G):=by unfold qu;infer_instance
theorem zg {P:Program} {w:World} {K:PySem.W.Frag} {mg:Str->Option Value} {base:Heap} {N:List Str} {qual:Str} {sc:Scope} {f:Addr} {cdv:Value} {A:Around} {outer:List Env} {s:Shared} {H:Hp} {E:XK} {G:List Str} {k:Nat}
    (hr:eS k (A.deeper (envOfC qual sc s.heap.objs.size f cdv))) (ck:qu sc N G):Tb (dS (dE P w mg) P w K mg base N qual sc f cdv A outer s H E) N.length G:=by
  obtain ⟨nd,l,g⟩:=ck;refine ⟨hr.units,rfl,nd,fun x hx=>⟨?_,(l x hx).2⟩,fun x hx=>⟨?_,.inl rfl⟩,fun x hx=>?_⟩
  · rcases (l x hx).1 with q | q
    · exact .inl q
    · exact .inr (.inl q)
  · exact (l x (List.mem_of_mem_take hx)).1
  · exact g x hx
section
variable {X:Cx} {a b c:Expr} {fa fb fc:Fe} {pos:Pos}
noncomputable def re (X:Cx) (P:Hp->Hp->PyData->V->Prop) (r:V->Hp->VK->Prop) (g:PyData->R PyData):Prop:=∀ H x dx Q,fY H dx x->rQ X P (g dx) H Q->r x H Q
theorem BH {P:Hp->Hp->PyData->V->Prop} {r:V->Hp->VK->Prop} {g:PyData->R PyData} (hP:Dn P) (hg:re X P r g) (σ:St) (H:Hp) (Q:VK) (h:iV X P (e1 g fa) σ H Q):B6 r (iV X vO fa) σ H Q :=
  (fF (P:=vO) (k:=fun _ x=>g x) (fR (X:=X) hP Q) h).post fun v H1 ⟨_,d1,_,_,p1,q1⟩=>hg H1 v d1 Q p1 q1
noncomputable def mW:PyData->R PyData
  | .int i=>.ok (.int (-i))
  | _=>.no
theorem yL:re X iF (rU fun i=>.int (-i)) mW:=fun H x dx Q hx q=>by
  unfold mW at q;split at q
  · exact ⟨_,bp hx,q _ H (ar.refl _) cy⟩
  · exact q.elim
theorem kC (ha:Z.di X a fa):Z.cJ X (.UnaryOp .USub a pos) (e1 mW fa):=⟨have ha:=ha.un;PE.imp (AU yP ha) (BH fD yL)⟩
variable {es:List Expr} {fs:aD->R (List PyData)}
noncomputable def gX (fs:aD->R (List PyData)):Fe:=fun ρ=>fs ρ>>=fun ds=>if ds.length<=sizeLine then .ok (.tuple ds) else .no
noncomputable def fU (fs:aD->R (List PyData)):Fe:=fun ρ=>fs ρ>>=fun ds=>if ds.length<=sizeLine then .ok (.list ds) else .no
theorem dU {x1} (h:Z.qv X es fs):Z.cJ X (.Tuple es x1 pos) (gX fs):=⟨have h:=h.un;PE.imp (zw h) fun σ H Q q=>(kh (I:=Rp) (f:=fs) (k:=fun _ ds=>if ds.length<=sizeLine then .ok (.tuple ds) else .no) (fR (X:=X) fD Q) q).post fun vs H1 ⟨_,ds,_,_,p,q1⟩=>by
    have p:=na.mp p;split at q1
    · rename_i hz;exact ⟨by rw [p.length];exact hz,fun a ha=>q1 _ _ (bT ha _) (dG ha p)⟩
    · exact q1.elim⟩
theorem cY (h:Z.qv X es fs):Z.la X (.List es pos) (fU fs):=⟨have h:=h.un;PE.imp (yr h) fun σ H Q q=>(kh (I:=Rp) (f:=fs) (k:=fun _ ds=>if ds.length<=sizeLine then .ok (.list ds) else .no) (fR (X:=X) xh Q) q).post fun vs H1 ⟨_,ds,_,_,p,q1⟩=>by
    have p:=na.mp p;split at q1
    · rename_i hz;exact ⟨by rw [p.length];exact hz,fun a ha=>q1 _ _ (bT ha _) (cN ha p)⟩
    · exact q1.elim⟩
theorem oM  : Z.la X (.Dict [] [] pos) (eC (.dict [])):=⟨PE.imp uw fun σ H Q ⟨ρ,sl,q⟩ p hp=>q _ _ (bT hp _) ⟨by simp only [gF];exact ⟨p,[],rfl,bc,by simp only [da]⟩,p,rfl,hp⟩⟩
noncomputable def cu:PyData->PyData->R PyData
  | .list ds,.int i=>match atI ds i with
    | some d=>.ok d
    | none=>.no
  | .tuple ds,.int i=>match atI ds i with
    | some d=>.ok d
    | none=>.no
  | .str z,.int i=>if z.length<=sizeLine then match atI z.cps.toList i with
    | some c=>.ok (.str ⟨#[c]⟩)
    | none=>.no else .no
  | .dict kvs,k=>if lP kvs=true then .no else match fN k with
    | some _=>match jI kvs k with
      | some d=>.ok d
      | none=>.no
    | none=>.no
  | _,_=>.no
theorem bd.atI {H:Hp} {ds:List PyData} {vs:List V} {i:Int} {d:PyData} (r:bd H ds vs) (e:L2.atI ds i=some d):∃ v,L2.atI vs i=some v/\Rp H d v:=by
  unfold L2.atI at e ⊢;rw [r.length];cases h:qQ ds.length i with
  | none=>rw [h] at e;cases e
  | some j =>
    rw [h] at e;obtain ⟨v,e1,p⟩:=r.get (show ds[j]?=some d from e);exact ⟨v,e1,p⟩
noncomputable def Aj:R2:=fun x y H Q=>∃ a v,x=.ref a/\kL H a y (some v)/\Q v H
theorem xG (hu:X.A.units+1 < cLine):wa X Aj:=by
  intro value slice pins s σ H x y v u Q I rx ry h hs;obtain ⟨a,z,rfl,g,q⟩:=h;cases rx;exact tail_any (nJ I g) PySem.F.slot_dict_getitem.lookup (rN hu I g ry fun w' s3 I3 rw'=>⟨z,H,I3,rw',q⟩) hs
theorem AV:cj X iF (fun x y H Q=>Az X.K x y H Q\/AW X.K x y H Q\/zZ x y H Q\/Aj x y H Q) cu:=fun H x y dx dy Q hx hy q=>by
  unfold cu at q;split at q
  · rename_i ds i;split at q
    · rename_i d e;obtain ⟨a,vs,rfl,hq,r⟩:=cH (K:=X.K) hx;obtain ⟨v,e1,p⟩:=r.atI e;exact .inl ⟨a,vs,i,v,rfl,bp hy,hq,e1,q v H (ar.refl _) p⟩
    · exact q.elim
  · rename_i ds i;split at q
    · rename_i d e;obtain ⟨a,vs,rfl,hq,r⟩:=cv hx;obtain ⟨v,e1,p⟩:=r.atI e;exact .inr (.inl ⟨a,vs,i,v,rfl,bp hy,eV.of hq,e1,q v H (ar.refl _) p⟩)
    · exact q.elim
  · rename_i z i;split at q
    · rename_i hz;split at q
      · rename_i c e;exact .inr (.inr (.inl ⟨z,i,c,gy hx,bp hy,hz,e,q _ H (ar.refl _) vG⟩))
      · exact q.elim
    · exact q.elim
  · rename_i kvs k;split at q
    · exact q.elim
    rename_i hi;split at q
    · rename_i κ e;split at q
      · rename_i d e1;obtain ⟨a,ks,rfl,h,r⟩:=jg (Bool.not_eq_true _ ▸ hi) hx;obtain ⟨o,g,_,e2⟩:=rJ (κ:=κ) h r;rw [nT e] at e1;obtain ⟨v,rfl,p⟩:=e2 d e1;rw [<- qJ hy e] at g;exact .inr (.inr (.inr ⟨a,v,rfl,g,q v H (ar.refl _) p⟩))
      · exact q.elim
    · exact q.elim
  · exact q.elim
theorem aT (hu:X.A.units+64 < cLine) (ha:Z.di X a fa) (hb:Z.di X b fb) (hs:rh b):Z.cJ X (.Subscript a b pos) (e2 cu fa fb):=⟨have ha:=ha.un;have hb:=hb.un;PE.imp (A7 (vV.or (zo.or (zu.or (xG (by omega))))) ha hb hs) (two fD AV)⟩
variable {nl:Nat} {G:List Str} {x:Str} {p:Pos}
noncomputable def mE (X:Cx) (P:Hp->Hp->PyData->V->Prop) (r:List V->Hp->VK->Prop) (g:List PyData->R PyData):Prop:=∀ H xs ds Q,RA fY H ds xs->rQ X P (g ds) H Q->r xs H Q
theorem tH {P:Hp->Hp->PyData->V->Prop} {r:List V->Hp->VK->Prop} {g:List PyData->R PyData} (hP:Dn P) (hg:mE X P r g) (σ:St) (H:Hp) (Q:VK) (h:iV X P (fun ρ=>fs ρ>>=g) σ H Q):BT r (vM X fY fs) σ H Q :=
  (kh (I:=fY) (k:=fun _=>g) (fR (X:=X) hP Q) h).post fun vs H1 ⟨_,ds,_,_,p1,q1⟩=>hg H1 vs ds Q p1 q1
noncomputable def one (g:PyData->R PyData):List PyData->R PyData
  | [d]=>g d
  | _=>.no
noncomputable def zt (g:PyData->PyData->R PyData):List PyData->R PyData
  | [d,e]=>g d e
  | _=>.no
theorem uy (g:PyData->R PyData) (fa:Fe):(fun ρ=>ag fa aC ρ>>=one g)=e1 g fa:=by
  funext ρ;unfold ag aC e1;cases fa ρ <;> rfl
theorem yJ (g:PyData->PyData->R PyData) (fa fb:Fe):(fun ρ=>ag fa (ag fb aC) ρ>>=zt g)=e2 g fa fb:=by
  funext ρ;unfold ag aC e2;cases fa ρ with
  | ok a=>cases fb ρ <;> rfl
  | ex c=>rfl
  | no=>rfl
theorem vw {P:Hp->Hp->PyData->V->Prop} {r:List V->Hp->VK->Prop} {g:PyData->R PyData} (h:∀ H x d Q,fY H d x->rQ X P (g d) H Q->r [x] H Q):mE X P r (one g):=fun H xs ds Q ra q=>by
  unfold one at q;split at q
  · rename_i d;simp only [RA] at ra;obtain ⟨v,r',e,p,e2⟩:=ra;subst e2;subst e;exact h H v d Q p q
  · exact q.elim
theorem zJ {P:Hp->Hp->PyData->V->Prop} {r:List V->Hp->VK->Prop} {g:PyData->PyData->R PyData} (h:∀ H x y d e Q,fY H d x->fY H e y->rQ X P (g d e) H Q->r [x,y] H Q):mE X P r (zt g):=fun H xs ds Q ra q=>by
  unfold zt at q;split at q
  · rename_i d e;simp only [RA] at ra;obtain ⟨v,r',e1,p,v',r'',e2,p',e3⟩:=ra;subst e3;subst e2;subst e1;exact h H v v' d e Q p p' q
  · exact q.elim
section
variable {P:Hp->Hp->PyData->V->Prop} {r:List V->Hp->VK->Prop} {g:PyData->R PyData} {g2:PyData->PyData->R PyData} {id ty:String}
theorem uK (T:Tb X nl G) (j:Nat) (hG:G[j]?=some x) (hm:X.mg x=none) (hP:Dn P) (hv:bootBuiltins x=some (.builtin id)) (hc:cL X (.builtin id) r) (hg:∀ H x d Q,fY H d x->rQ X P (g d) H Q->r [x] H Q) (ha:di X a fa)
    (he:aV a=true:=by rfl):PE X (.Call (.Name x p) [a] [] pos) (iV X P (e1 g fa)):=by
  have q:=T.gl x (List.mem_of_getElem? hG);rw [<- uy];exact PE.imp (oO hc q.1 hm hv (j4 ha pO he) q.2.2 q.2.1 (bI he)) (tH hP (vw hg))
theorem yf (T:Tb X nl G) (j:Nat) (hG:G[j]?=some x) (hm:X.mg x=none) (hP:Dn P) (hv:bootBuiltins x=some (.type ty)) (hc:cL X (.type ty) r) (hg:∀ H x d Q,fY H d x->rQ X P (g d) H Q->r [x] H Q) (ha:di X a fa)
    (he:aV a=true:=by rfl):PE X (.Call (.Name x p) [a] [] pos) (iV X P (e1 g fa)):=by
  have q:=T.gl x (List.mem_of_getElem? hG);rw [<- uy];exact PE.imp (sT hc q.1 hm hv (j4 ha pO he) q.2.2 q.2.1 (bI he)) (tH hP (vw hg))
theorem z6 (T:Tb X nl G) (j:Nat) (hG:G[j]?=some x) (hm:X.mg x=none) (hP:Dn P) (hv:bootBuiltins x=some (.builtin id)) (hc:cL X (.builtin id) r) (hg:∀ H x y d e Q,fY H d x->fY H e y->rQ X P (g2 d e) H Q->r [x,y] H Q) (ha:di X a fa) (hb:di X b fb)
    (he:aV a=true:=by rfl) (he2:aV b=true:=by rfl):PE X (.Call (.Name x p) [a,b] [] pos) (iV X P (e2 g2 fa fb)):=by
  have q:=T.gl x (List.mem_of_getElem? hG);rw [<- yJ];exact PE.imp (oO hc q.1 hm hv (j4 ha (j4 hb pO he2) he) q.2.2 q.2.1 (bI he) (o1 (by rw [List.all_cons,he2];rfl))) (tH hP (zJ hg))
end
end
theorem jz:fillsNumberSlot (.type "tuple") "mul" = pure false :=
  PySem.fillsNumberSlot_seq (id := "tuple.__mul__") (r:=some (.builtin "tuple.__rmul__")) F.slot_tuple_mul.lookup (by decide +kernel) F.slot_tuple_rmul.lookup (by decide +kernel)
theorem mT:seqRepeat? (.type "tuple")=pure (some (.builtin "tuple.__mul__")):=by
  unfold seqRepeat?;rw [PySem.seqSlot_of (T := "tuple") (name := "__mul__") (id := "tuple.__mul__") F.slot_tuple_mul.lookup (by decide +kernel),PySem.seqSlot_of (T := "tuple") (name := "__rmul__") (id := "tuple.__rmul__") F.slot_tuple_rmul.lookup (by decide +kernel)];rfl
theorem kE (a:Int) (t:Tok) (l:Addr) (items:Array Value) (n:Nat) (dd:Option Addr) (sl:Array (Option Value)) :
    Meets (Builtin.«int.__rmul__» ⟨[.int a t,.ref l],[]⟩) (fun _ R s=>s.heap.get? l=some { cls:=.type "tuple",dict:=dd,data:=.seq items n,slots:=sl }/\R (.ok (.ret Value.notImplemented)) s) :=
  .of_wp fun prog w A R s h=>by obtain ⟨hp,g,d,tk,os⟩:=s;obtain ⟨hl,h⟩:=h;wp_walk;exact ⟨_,rfl,h⟩
theorem pG (l:Addr) (items:Array Value) (n:Nat) (dd:Option Addr) (sl:Array (Option Value)) (x:Int) (u:Tok) (h1:2<=x) (h2:x < 2 ^ 63) (h0:¬ items.isEmpty=true) (hc1:¬ (items.size:Int)*x > (2 ^ 63-1) / 8) (hbig:Builtin.Tuple.tupleTooMany ((items.size:Int)*x)=false) (hsz:¬ (List.foldl (fun x1 x2=>x1++x2) #[] (List.replicate x.toNat items)).size > sizeLine) :
    Meets (Builtin.«tuple.__mul__» ⟨[.ref l,.int x u],[]⟩) (fun _ R s=>s.heap.get? l=some { cls:=.type "tuple",dict:=dd,data:=.seq items n,slots:=sl }/\R (.ok (.ret (Value.ref s.heap.objs.size))) { s with heap:=s.heap.push { cls:=Value.type "tuple",data:=Data.seq (List.foldl (fun x1 x2=>x1++x2) #[] (List.replicate x.toNat items)) },toks:=s.toks }) :=
  .of_wp fun prog w A R s h=>by
    obtain ⟨hp,g,d,tk,os⟩:=s;obtain ⟨hl,h⟩:=h;have f1:=AutoSeq1.idx_int;have f2:=AutoSeq1.sub_tuple_tuple;have f3:=AutoSeq1.sub_list_list;have f4:=AutoSeq1.sub_tuple_list;have f5:=AutoSeq1.sub_list_tuple;have e0:(decide (x < -2 ^ 63)||decide (x>=2 ^ 63))=false:=by
      rw [decide_eq_false (by omega),decide_eq_false (by omega)];rfl
    have e1:(items.isEmpty||x==1)=false:=by
      have:(x==1)=false:=by simp;omega
      rw [this,Bool.or_false];exact Bool.eq_false_iff.mpr h0
    have e2:(decide (x<=0)||items.isEmpty)=false:=by
      rw [decide_eq_false (by omega),Bool.false_or];exact Bool.eq_false_iff.mpr h0
    have e3:decide ((items.size:Int)*x > (2 ^ 63-1) / 8)=false:=decide_eq_false hc1;have e4:Builtin.Tuple.tupleTooMany ((items.size:Int)*x)=false:=hbig
    wp_walk using wpAny_loadPart' hl
    refine wpAny_ite_false (decide_eq_false (by rw [e0];exact Bool.false_ne_true)) ?_
    wp_walk using wpAny_loadPart' hl
    refine wpAny_ite_false (decide_eq_false (by rw [e1];exact Bool.false_ne_true)) ?_
    wp_walk using wpAny_loadPart' hl
    refine wpAny_ite_false (decide_eq_false (by rw [e2];exact Bool.false_ne_true)) ?_
    wp_walk using wpAny_loadPart' hl
    refine wpAny_ite_false e3 ?_
    wp_walk using wpAny_loadPart' hl
    exact ⟨_,rfl,h⟩
section
variable {X:Cx} {a b c:Expr} {fa fb fc:Fe} {pos:Pos} {nl:Nat} {G:List Str} {x:Str} {p:Pos}
noncomputable def xO (K:PySem.W.Frag):R2:=fun x y H Q=>∃ l k xs,x=.ref l/\y=.int k/\eV K H l xs/\xs≠[]/\2<=k/\k < 2 ^ 63/\xs.length*k.toNat<=sizeLine/\∀ p,H p=none->Q (.ref p) (cr H p (.tup (List.replicate k.toNat xs).flatten))
theorem xK:iT X (binaryOp .Mult) (xO X.K):=by
  intro pins s σ H x y v u Q I rx ry h;obtain ⟨l,k,xs,rfl,rfl,hH,hne,h1,h2,hz,q⟩:=h;cases rx;obtain ⟨t,rfl⟩:=ry;obtain ⟨its,r,pl,hz0⟩:=I.tuple hH;obtain ⟨⟨cls,dd,data,sl⟩,e,hc,n,hd⟩:=id pl;simp only at hc hd;subst hc hd;have hl:=r.length;have hnew:List.foldl (fun x1 x2=>x1++x2) #[] (List.replicate k.toNat its.toArray)=(List.replicate k.toNat its).flatten.toArray:=by
    have:=lJ its k.toNat [];rw [List.nil_append] at this;exact this
  have hlen:(List.replicate k.toNat its).flatten.length<=sizeLine:=by rw [qG,<- hl,Nat.mul_comm];exact hz
  have hprod:(its.length:Int)*k<=(sizeLine:Int):=by
    have h3:((its.length*k.toNat:Nat):Int)<=(sizeLine:Int):=by rw [<- hl];exact Int.ofNat_le.mpr hz
    have h4:((k.toNat:Nat):Int)=k:=Int.toNat_of_nonneg (by omega);rw [Int.natCast_mul,h4] at h3;exact h3
  have hcap:¬ (its.toArray.size:Int)*k > (2 ^ 63-1) / 8:=by
    rw [List.size_toArray];have hs:sizeLine=16777216:=sizeLine_eq;omega
  have hbig:Builtin.Tuple.tupleTooMany ((its.toArray.size:Int)*k)=false:=by
    unfold Builtin.Tuple.tupleTooMany;rw [List.size_toArray];exact decide_eq_false (by omega)
  refine wpAny_binaryOp_repeat_ref (T := "tuple") (U := "int") (by decide) ⟨_,e,rfl⟩ (fun s'=>typeIs_int s' k t) jz F.fills_int_mul F.slot_int_rmul mT F.slot_int_index.lookup
    (call_meets F.slot_int_rmul (typeIs_int s k t) F.entry_int_rmul (F.args_int_rmul_2 _ _) (kE k t l its.toArray n dd sl)
      ⟨e,rfl,⟨_,e,rfl⟩,call_meets F.slot_tuple_mul ⟨_,e,rfl⟩ F.entry_tuple_mul (F.args_tuple_mul_2 _ _) (pG l its.toArray n dd sl k t h1 h2 (by
        intro z;apply hne;have:its=[]:=by simpa using z
        rw [this] at hl;exact List.length_eq_zero_iff.mp hl) hcap hbig (by rw [hnew,List.size_toArray];omega)) ⟨e,?_⟩⟩)
  rw [hnew];refine ⟨.ref s.heap.objs.size,_,I.laid (t':=s.toks) (o:=.tup (List.replicate k.toNat xs).flatten) (fun b ob q=>Heap.get?_push_of_some _ q) (Nat.le_refl _) ?_,rfl,q _ (I.hok.fresh (Nat.le_refl _))⟩;exact ⟨by rw [qG,Nat.mul_comm];exact hz,_,r.rep k.toNat,IsTup.new _ _⟩
noncomputable def eF:PyData->PyData->R PyData
  | .int i,.int j=>if (-(2 ^ 64) < i/\i < 2 ^ 64)\/(-(2 ^ 64) < j/\j < 2 ^ 64) then .ok (.int (i*j)) else .no
  | .tuple xs,.int k=>if xs≠[]/\2<=k/\k < 2 ^ 63/\xs.length*k.toNat<=sizeLine then .ok (.tuple (List.replicate k.toNat xs).flatten) else .no
  | _,_=>.no
theorem yn:cj X iF (fun x y H Q=>rI v9 (fun i j=>.int (i*j)) x y H Q\/xO X.K x y H Q) eF:=fun H x y dx dy Q hx hy q=>by
  cases dx with
  | int i =>
    cases dy with
    | int j =>
      simp only [eF] at q;split at q
      · rename_i h;exact .inl ⟨_,_,bp hx,bp hy,h,q _ H (ar.refl _) cy⟩
      · exact q.elim
    | _=>exact q.elim
  | tuple xs =>
    cases dy with
    | int k =>
      simp only [eF] at q;split at q
      · rename_i h;obtain ⟨a,vs,rfl,ha,r⟩:=cv hx;have hl:=r.length;refine .inr ⟨a,k,vs,rfl,bp hy,eV.of ha,fun z=>h.1 ?_,h.2.1,h.2.2.1,by rw [hl];exact h.2.2.2,fun p hp=>q _ _ (bT hp _) (dG hp (r.rep _))⟩;rw [z] at hl;exact List.length_eq_zero_iff.mp hl.symm
      · exact q.elim
    | _=>exact q.elim
  | _=>exact q.elim
theorem dr (ha:Z.di X a fa) (hb:Z.di X b fb):Z.cJ X (.BinOp a .Mult b pos) (e2 eF fa fb):=⟨have ha:=ha.un;have hb:=hb.un;kQ fD (zN.or xK) yn ha hb⟩
theorem xI:iT X (binaryOp .Add) (fun x y H Q=>∃ i j,x=.str i/\y=.str j/\i.length+j.length<=sizeLine/\Q (.str (i++j)) H):=by
  intro pins s σ H x y v u Q I rx ry h;obtain ⟨i,j,rfl,rfl,hz,q⟩:=h;obtain ⟨t,rfl⟩:=rx;obtain ⟨t',rfl⟩:=ry;exact PyProof.Rows.add_str (fun t' tk=>⟨.str (i++j),H,I.tok _,⟨_,rfl⟩,q⟩) hz
noncomputable def ud (K:PySem.W.Frag):R2:=fun x y H Q=>∃ a b ys,x=.ref a/\y=.ref b/\eV K H a []/\eV K H b ys/\Q (.ref b) H
theorem uW:iT X (binaryOp .Add) (ud X.K):=by
  intro pins s σ H x y v u Q I rx ry h;obtain ⟨a,b,ys,rfl,rfl,ha,hb,q⟩:=h;cases rx;cases ry;obtain ⟨its,r1,p1,_⟩:=I.tuple ha;obtain ⟨its2,r2,p2,_⟩:=I.tuple hb;cases r1;obtain ⟨⟨cls,dd,data,sl⟩,ho,hc,n,hd⟩:=id p1;obtain ⟨⟨cls2,dd2,data2,sl2⟩,ho2,hc2,n2,hd2⟩:=id p2;simp only at hc hd hc2 hd2;subst hc hd hc2 hd2;exact concat_meets ⟨_,ho,rfl⟩ ⟨_,ho2,rfl⟩ noFill_tuple_add seq_tuple_add PySem.F.slot_tuple_add PySem.F.entry_tuple_add (PySem.F.args_tuple_add_2 _ _)
    (tuple_addW0 a b _ its2.toArray n n2 dd dd2 sl sl2 (by rfl)) ⟨ho,ho2,⟨.ref b,H,I,rfl,q⟩⟩
noncomputable def x9 (K:PySem.W.Frag):R2:=fun x y H Q=>∃ l b xs zs,x=.ref l/\y=.ref b/\Rd H l (.lst xs)/\Rd H b (.lst zs)/\xs.length+zs.length<=sizeLine/\∀ p,H p=none->Q (.ref p) (cr H p (.lst (xs++zs)))
theorem wT:iT X (binaryOp .Add) (x9 X.K):=by
  intro pins s σ H x y v u Q I rx ry h;obtain ⟨l,b,xs,zs,rfl,rfl,hH,hB,hz,q⟩:=h;cases rx;cases ry;obtain ⟨z,its,n,r,e⟩:=hH.ok I.hok;obtain ⟨z2,its2,n2,r2,e2⟩:=hB.ok I.hok;have hl:=r.length;have hl2:=r2.length;refine PySem.P.add_list e e2 ?_ (by rw [List.size_toArray,List.size_toArray];omega);have ea:its.toArray++its2.toArray=(its++its2).toArray:=by simp
  rw [ea];exact ⟨.ref _,_,I.lnew (t':=s.toks) (r.append r2) (by rw [List.length_append];omega),rfl,q _ I.fresh⟩
noncomputable def cA:PyData->PyData->R PyData
  | .int i,.int j=>.ok (.int (i+j))
  | .str x,.str y=>if x.length+y.length<=sizeLine then .ok (.str (x++y)) else .no
  | .tuple xs,.tuple ys=>if xs.length+ys.length<=sizeLine then .ok (.tuple (xs++ys)) else .no
  | .list xs,.list ys=>if xs.length+ys.length<=sizeLine then .ok (.list (xs++ys)) else .no
  | _,_=>.no
theorem rD {H:Hp} {ds:List PyData} {x:V} (h:fY H (.list ds) x):∃ a vs,x=.ref a/\Rd H a (.lst vs)/\bd H ds vs:=by
  rcases h with h | h
  · simp only [Rp] at h;obtain ⟨a,o,vs,e,ha,r⟩:=h;exact ⟨a,vs,e,.inr ⟨o,ha⟩,r⟩
  · simp only [gF] at h;obtain ⟨a,vs,e,ha,r⟩:=h;exact ⟨a,vs,e,.inl ha,r⟩
theorem yK:cj X Ba (fun x y H Q=>xt (fun i j=>.int (i+j)) x y H Q\/(∃ i j,x=.str i/\y=.str j/\i.length+j.length<=sizeLine/\Q (.str (i++j)) H)\/xR X.K x y H Q\/ud X.K x y H Q\/x9 X.K x y H Q) cA:=fun H x y dx dy Q hx hy q=>by
  cases dx with
  | int i =>
    cases dy with
    | int j=>exact .inl ⟨_,_,bp hx,bp hy,q _ H (ar.refl _) (.inl cy)⟩
    | _=>exact q.elim
  | str i =>
    cases dy with
    | str j =>
      simp only [cA] at q;split at q
      · rename_i h;exact .inr (.inl ⟨_,_,gy hx,gy hy,h,q _ H (ar.refl _) (.inl vG)⟩)
      · exact q.elim
    | _=>exact q.elim
  | tuple xs =>
    cases dy with
    | tuple ys =>
      simp only [cA] at q;split at q
      · rename_i h;have hx':=hx;obtain ⟨a,vs,rfl,ha,r⟩:=cv hx;obtain ⟨b,us,rfl,hb,r2⟩:=cv hy;cases xs with
        | nil =>
          have:=r.nil_inv;subst this;refine .inr (.inr (.inr (.inl ⟨a,b,us,rfl,rfl,eV.of ha,eV.of hb,q _ H (ar.refl _) (.inl ?_)⟩)));simp only [Rp,List.nil_append];exact ⟨b,us,rfl,hb,r2⟩
        | cons d ds =>
          refine .inr (.inr (.inl ⟨a,b,vs,us,rfl,rfl,eV.of ha,eV.of hb,fun z=>?_,by rw [r.length,r2.length];exact h,fun z=>?_,fun _ p hp=>q _ _ (bT hp _) (.inl (dG hp (r.append r2)))⟩))
          · rw [z] at r;obtain ⟨_,_,e,_⟩:=r.cons_inv;cases e
          · have hy0:ys=[]:=by
              have:=r2.length;rw [z] at this;exact List.length_eq_zero_iff.mp this.symm
            refine q _ H (ar.refl _) (.inl ?_);rw [hy0,List.append_nil];simp only [Rp];exact ⟨a,vs,rfl,ha,r⟩
      · exact q.elim
    | _=>exact q.elim
  | list xs =>
    cases dy with
    | list ys =>
      simp only [cA] at q;split at q
      · rename_i h;obtain ⟨a,vs,rfl,ha,r⟩:=rD hx;obtain ⟨b,us,rfl,hb,r2⟩:=rD hy;exact .inr (.inr (.inr (.inr ⟨a,b,vs,us,rfl,rfl,ha,hb,by rw [r.length,r2.length];exact h,fun p hp=>q _ _ (bT hp _) (.inr (cN hp (r.append r2)))⟩)))
      · exact q.elim
    | _=>exact q.elim
  | _=>exact q.elim
theorem bj (ha:Z.di X a fa) (hb:Z.di X b fb):Z.cJ X (.BinOp a .Add b pos) (e2 cA fa fb):=⟨have ha:=ha.un;have hb:=hb.un;w9.e (kQ wB (yh.or (xI.or (vY.or (uW.or wT)))) yK ha hb)⟩
end
section
variable {prog:Program} {w:World} {A:Around} {E:Value->Shared->Prop} {s:Shared}
theorem iz {t sl:Addr} {items:Array Value} {vl vu:Value} {lo hi:Option Int} {Q:Value->Shared->Prop} (ht:IsTup s.heap t items) (hs:s.heap.IsSliceOf sl vl vu .none) (pl:IsPart vl lo) (pu:IsPart vu hi)
    (hw:HT.sIx items.size 0 lo=0/\HT.sIx items.size items.size hi=items.size) (h:Q (.ref t) s):wpAny (model prog w) A (getItem (.ref t) (.ref sl)) Q E s:=by
  obtain ⟨os,hos,hcs,hds⟩:=id hs;have hTs:s.TypeIs (.ref sl) "slice" := ⟨os,hos,hcs⟩
  unfold getItem
  try with_reducible refine wpAny_holding ?_
  first | refine wpAny_bind (wpAny_pure ?_) | skip
  refine wpAny_bind (wpAny_sequenceKey ht.typeIs (by decide) ?_);refine wpAny_bind (wpAny_callSpecial?_slot (name:=Str.ofString "__getitem__") ht.typeIs PyProof.Rows.slot_tuple_getitem
    (wpAny_call_entry PyProof.Rows.slot_tuple_getitem ht.typeIs entry_tuple_getitem ?_ (args_tuple_getitem _ _)))
  show wpAny _ _ (Builtin.Tuple.tupleItemsOf (.ref t)>>=_) _ _ s;refine wpAny_bind (tupleItemsOf_ ht ?_);refine wpAny_bind (wpAny_typeOf hTs ?_);rw [if_pos (by decide)];refine wpAny_bind (HT.sliceApplied_gen hs pl pu ?_);have hyes:(((HT.sIx items.size 0 lo:Nat):Int)==0&&(1:Int)==1&&(HT.sIx items.size items.size hi-HT.sIx items.size 0 lo)==items.size)=true:=by
    rw [hw.1,hw.2];simp
  show wpAny _ _ (if (((HT.sIx items.size 0 lo:Nat):Int)==0&&(1:Int)==1&&(HT.sIx items.size items.size hi-HT.sIx items.size 0 lo)==items.size)=true then _ else _) _ _ s;rw [if_pos hyes];refine wpAny_bind (m:=Builtin.Tuple.tupleIsExact _) ?_;unfold Builtin.Tuple.tupleIsExact;refine wpAny_bind (wpAny_typeOf ht.typeIs (wpAny_pure ?_));show wpAny _ _ (if (Value.type "tuple" == Value.type "tuple")=true then _ else _) _ _ s;rw [if_pos (by decide)];refine wpAny_bind (wpAny_rule ?_)
  first
    | exact wpAny_pure ⟨_,rfl,wpAny_pure h⟩
    | exact wpAny_bind (wpAny_pure (wpAny_pure ⟨_,rfl,wpAny_pure h⟩))
end
section
variable {X:Cx} {a b c:Expr} {fa fb fc:Fe} {pos p2:Pos} {nl:Nat} {G:List Str} {x:Str} {p:Pos}
noncomputable def iH (xs:List PyData) (lo hi:Option Int):List PyData:=(xs.drop (HT.sIx xs.length 0 lo)).take (HT.sIx xs.length xs.length hi-HT.sIx xs.length 0 lo)
theorem bd.cut {H:Hp} {ds:List PyData} {vs:List V} (r:bd H ds vs) (lo hi:Option Int):bd H (iH ds lo hi) (nV vs lo hi):=by
  unfold iH nV;rw [r.length];exact (r.drop _).take _
noncomputable def BA (K:PySem.W.Frag):V->Option Int->Option Int->Hp->VK->Prop:=fun x lo hi H Q=>∃ a xs,x=.ref a/\eV K H a xs/\(HT.sIx xs.length 0 lo=0/\HT.sIx xs.length xs.length hi=xs.length)/\Q (.ref a) H
theorem t8:w5 X (BA X.K):=by
  intro pins s σ H x v vl vu lo hi sl Q I rx hs pl pu h;obtain ⟨a,xs,rfl,hx,hw,q⟩:=h;cases rx;obtain ⟨its,r,ht,hz⟩:=I.tuple hx;have hlen:its.toArray.size=xs.length:=by rw [List.size_toArray];exact r.length.symm
  refine ⟨"tuple",_,PyProof.Rows.slot_tuple_getitem.lookup,ht.typeIs,?_⟩;exact iz ht hs pl pu (by rw [hlen];exact hw) ⟨.ref a,H,I,rfl,q⟩
theorem zc:w5 X (fun x lo hi H Q=>∃ xx,x=.str xx/\xx.length<=sizeLine/\Q (.str (Txt.slice xx lo hi)) H):=by
  intro pins s σ H x v vl vu lo hi sl Q I rx hs pl pu h;obtain ⟨xx,rfl,hz,q⟩:=h;obtain ⟨t,rfl⟩:=rx;refine ⟨"str",_,PySem.F.slot_str_getitem.lookup,typeIs_str _ _ _,?_⟩;have fin:∀ t' k,EP X pins σ Q (.str (Txt.slice xx lo hi) t') { s with toks:=k }:=fun t' k=>⟨.str _,H,I.tok k,⟨t',rfl⟩,q⟩
  cases pl with
  | none =>
    cases pu with
    | none=>exact wpAny_getItem_str_slice (l:=none) (u:=none) (st:=none) hs rfl (post_val_or_str ⟨Nat.le_trans (Txt.slice_le xx _ _) hz,fin⟩)
    | int j uj=>exact wpAny_getItem_str_slice (l:=none) (u:=some (j,uj)) (st:=none) hs rfl (post_val_or_str ⟨Nat.le_trans (Txt.slice_le xx _ _) hz,fin⟩)
  | int i ui =>
    cases pu with
    | none=>exact wpAny_getItem_str_slice (l:=some (i,ui)) (u:=none) (st:=none) hs rfl (post_val_or_str ⟨Nat.le_trans (Txt.slice_le xx _ _) hz,fin⟩)
    | int j uj=>exact wpAny_getItem_str_slice (l:=some (i,ui)) (u:=some (j,uj)) (st:=none) hs rfl (post_val_or_str ⟨Nat.le_trans (Txt.slice_le xx _ _) hz,fin⟩)
noncomputable def vT:PyData->Option Int->Option Int->R PyData
  | .str x,lo,hi=>if x.length<=sizeLine then .ok (.str (Txt.slice x lo hi)) else .no
  | .tuple xs,lo,hi=>.ok (.tuple (iH xs lo hi))
  | .list xs,lo,hi=>.ok (.list (iH xs lo hi))
  | _,_,_=>.no
noncomputable abbrev Fo:=aD->R (Option Int)
noncomputable def fq:Fo:=fun _=>.ok none
noncomputable def Bn:PyData->R Int
  | .int i=>.ok i
  | _=>.no
noncomputable def e9 (f:Fe):Fo:=fun ρ=>f ρ>>=fun d=>Bn d>>=fun i=>.ok (some i)
noncomputable def uT (X:Cx) (f:Fo):TO:=fun σ H Q=>∃ ρ,Sl H σ ρ/\match f ρ with
  | .ok o=>∀ H',ar H H'->Q o H'
  | .ex c=>Xw X c H
  | .no=>False
noncomputable def zW (X:Cx) (e:Option Expr) (f:Fo):Prop:=PO X e (uT X f)
structure Z.zW (X:Cx) (e:Option Expr) (f:Fo):Prop where
  un:D2.zW X e f
theorem eI  : Z.zW X none fq:=⟨fun pins s σ H Q I ⟨ρ,sl,q⟩=>wF pins s σ H Q I (q H (ar.refl _))⟩
theorem As (Q:Option Int->Hp->Prop):xn X (fun (r:R (Option Int)) H=>match r with | .ok b=>∀ H',ar H H'->Q b H' | .ex c=>Xw X c H | .no=>False) where
  mono:=fun r H H' h s=>by
    cases r with
    | ok d=>exact fun H2 s2=>h H2 (s.trans s2)
    | ex c=>exact Xw.mono h s
    | no=>exact h
  ex:=fun c H h=>h
  no:=fun H h=>h
theorem eG {e:Expr} {f:Fe} (h:Z.cJ X e f):Z.zW X (some e) (e9 f):=⟨have h:=h.un;fun pins s σ H Q I q =>
  xw h pins s σ H Q I ((fF (P:=iF) (f:=f) (k:=fun _ d=>Bn d>>=fun i=>.ok (some i)) (As (X:=X) Q) q).post fun v H1 ⟨_,d,_,_,p,q1⟩=>by
    cases d with
    | int i =>
      have e1:v=.int i:=by simpa only [Rp] using p
      exact ⟨i,e1,q1 H1 (ar.refl _)⟩
    | _=>exact q1.elim)⟩
noncomputable def qq (f:Fe) (lo hi:Fo):Fe:=fun ρ=>f ρ>>=fun d=>lo ρ>>=fun l=>hi ρ>>=fun u=>vT d l u
theorem uB {β:Type} {Tg:R β->Hp->Prop} {σ:St} {H:Hp} (t:xn X Tg) {f:Fo} {k:aD->Option Int->R β} (h:∃ ρ,Sl H σ ρ/\Tg (f ρ>>=k ρ) H):uT X f σ H (fun o H1=>∃ ρ,Sl H1 σ ρ/\ar H H1/\Tg (k ρ o) H1):=by
  obtain ⟨ρ,sl,q⟩:=h;refine ⟨ρ,sl,?_⟩;cases e:f ρ with
  | ok d=>rw [e] at q;exact fun H1 s=>⟨ρ,sl.mono s,s,t.mono _ _ _ q s⟩
  | ex c=>rw [e] at q;exact t.ex _ _ q
  | no=>rw [e] at q;exact (t.no _ q).elim
theorem uT.post {f:Fo} {σ:St} {H:Hp} {Q Q':Option Int->Hp->Prop} (h:uT X f σ H Q) (i:∀ b H',Q b H'->Q' b H'):uT X f σ H Q':=by
  obtain ⟨ρ,sl,q⟩:=h;refine ⟨ρ,sl,?_⟩;cases e:f ρ with
  | ok d=>rw [e] at q;exact fun H' s=>i _ _ (q H' s)
  | ex c=>rw [e] at q;exact q
  | no=>rw [e] at q;exact q
theorem dI {lo hi:Option Expr} {fl fh:Fo} (ha:Z.di X a fa) (hl:Z.zW X lo fl) (hu:Z.zW X hi fh):Z.cJ X (.Subscript a (.Slice lo hi none p2) pos) (qq fa fl fh):=⟨have ha:=ha.un;have hl:=hl.un;have hu:=hu.un;by
  refine w9.e (PE.imp (ua (t8.or (yt.or (xy.or zc))) ha hl hu) fun σ H Q h=>?_);refine (fF (P:=vO) (f:=fa) (k:=fun ρ d=>fl ρ>>=fun l=>fh ρ>>=fun u=>vT d l u) (fR (X:=X) wB Q) h).post fun v H1 ⟨ρ1,d1,sl1,_,p1,q1⟩=>?_
  refine (uB (f:=fl) (k:=fun ρ l=>fh ρ>>=fun u=>vT d1 l u) (fR (X:=X) wB Q) ⟨ρ1,sl1,q1⟩).post fun l H2 ⟨ρ2,sl2,s2,q2⟩=>?_
  refine (uB (f:=fh) (k:=fun ρ u=>vT d1 l u) (fR (X:=X) wB Q) ⟨ρ2,sl2,q2⟩).post fun u H3 ⟨ρ3,sl3,s3,q3⟩=>?_
  have p3:fY H3 d1 v:=fY.mono (fY.mono p1 s2) s3;cases d1 with
  | tuple xs =>
    obtain ⟨a',vs,rfl,ha',r⟩:=cv p3;have hlen:=r.length;by_cases hw:HT.sIx vs.length 0 l=0/\HT.sIx vs.length vs.length u=vs.length
    · refine .inl ⟨a',vs,rfl,eV.of ha',hw,q3 _ H3 (ar.refl _) (.inl ?_)⟩;have e:iH xs l u=xs:=by
        unfold iH;rw [<- hlen,hw.1,hw.2];simp [hlen]
      rw [e];simp only [Rp];exact ⟨a',vs,rfl,ha',r⟩
    · exact .inr (.inl ⟨a',vs,rfl,eV.of ha',hw,fun p hp=>q3 _ _ (bT hp _) (.inl (dG hp (r.cut l u)))⟩)
  | list xs =>
    obtain ⟨a',vs,rfl,ha',r⟩:=cH (K:=X.K) p3;exact .inr (.inr (.inl ⟨a',vs,rfl,ha',fun p hp=>q3 _ _ (bT hp _) (.inr (cN hp (r.cut l u)))⟩))
  | str xx =>
    simp only [vT] at q3;split at q3
    · rename_i hz;exact .inr (.inr (.inr ⟨xx,gy p3,hz,q3 _ H3 (ar.refl _) (.inl (by simp only [Rp]))⟩))
    · exact q3.elim
  | _=>exact q3.elim⟩
end
section
variable {X:Cx} {a b c:Expr} {fa fb fc:Fe} {pos p2:Pos} {nl:Nat} {G:List Str} {x:Str} {p:Pos}
theorem rM:cL X (.builtin "len") (fun xs H Q=>∃ a kvs,xs=[V.ref a]/\Rd H a (.dK kvs)/\Q (.int kvs.length) H):=by
  intro pins s σ H xs us Q I r h;obtain ⟨a,kvs,rfl,ha,q⟩:=h;obtain ⟨u,rfl,ru⟩:=e8 r;cases ru;exact An I ha fun t s' I'=>⟨.int kvs.length,H,I',⟨t,rfl⟩,q⟩
theorem da.length {H:Hp}:∀ {kvs:List (PyData×PyData)} {ks:List (cC×V)},da H kvs ks->ks.length=kvs.length
  | [],ks,h=>by simp only [da] at h;rw [h];rfl
  | kd::kvs,ks,h=>by
    simp only [da] at h;obtain ⟨x,v,r,rfl,_,t⟩:=h;rw [List.length_cons,List.length_cons,da.length t]
noncomputable def gt:PyData->R PyData
  | .list ds=>.ok (.int ds.length)
  | .tuple ds=>.ok (.int ds.length)
  | .dict kvs=>if lP kvs=true then .no else .ok (.int kvs.length)
  | .str y=>if y.length<=sizeLine then .ok (.int y.length) else .no
  | _=>.no
theorem dR (T:Tb X nl G) (j:Nat) (hG:G[j]?=some ("len" : Str)) (hm:X.mg "len" = none) (ha:Z.di X a fa) (he:aV a=true:=by rfl):Z.cJ X (.Call (.Name "len" p) [a] [] pos) (e1 gt fa):=⟨have ha:=ha.un;by
  refine uK T j hG hm fD PySem.boot_len (md.or (mm.or rM)) (fun H x d Q hx q=>?_) ha he;cases d with
  | list ds =>
    obtain ⟨a',vs,rfl,h,r⟩:=cH (K:=X.K) hx;exact .inl ⟨a',vs,rfl,.inl h,by rw [r.length];exact q _ H (ar.refl _) cy⟩
  | tuple ds =>
    obtain ⟨a',vs,rfl,h,r⟩:=cv hx;exact .inl ⟨a',vs,rfl,.inr (eV.of h),by rw [r.length];exact q _ H (ar.refl _) cy⟩
  | dict kvs =>
    simp only [gt] at q;split at q
    · exact q.elim
    rename_i hi;obtain ⟨a',vs,rfl,h,r⟩:=jg (Bool.not_eq_true _ ▸ hi) hx;exact .inr (.inr ⟨a',vs,rfl,h,by rw [r.length];exact q _ H (ar.refl _) cy⟩)
  | str y =>
    simp only [gt] at q;split at q
    · rename_i hz;exact .inr (.inl ⟨y,by rw [gy hx],hz,q _ H (ar.refl _) cy⟩)
    · exact q.elim
  | _=>exact q.elim⟩
noncomputable def zp:PyData->R PyData
  | .int i=>.ok (.int i)
  | .bool k=>.ok (.int (if k then 1 else 0))
  | _=>.no
theorem sP (T:Tb X nl G) (j:Nat) (hG:G[j]?=some ("int" : Str)) (hm:X.mg "int" = none) (ha:Z.di X a fa) (he:aV a=true:=by rfl):Z.cJ X (.Call (.Name "int" p) [a] [] pos) (e1 zp fa):=⟨have ha:=ha.un;by
  refine yf T j hG hm fD PyProof.Rows.boot_int sO (fun H x d Q hx q=>?_) ha he;cases d with
  | int i=>exact .inl ⟨i,by rw [bp hx],q _ H (ar.refl _) cy⟩
  | bool k=>exact .inr ⟨k,by rw [oo hx],q _ H (ar.refl _) cy⟩
  | _=>exact q.elim⟩
noncomputable def Cf:PyData->R PyData
  | .int i=>if i.natAbs.log2 < 1920 then .ok (.str (toString i)) else .no
  | _=>.no
noncomputable def yp:PyData->PyData->R PyData
  | .int i,.int j=>.ok (.int (if j < i then j else i))
  | _,_=>.no
noncomputable def yG:PyData->PyData->R PyData
  | .int i,.int j=>.ok (.int (if j > i then j else i))
  | _,_=>.no
theorem uv (T:Tb X nl G) (j:Nat) (hG:G[j]?=some ("min" : Str)) (hm:X.mg "min" = none) (ha:Z.di X a fa) (hb:Z.di X b fb) (he:aV a=true:=by rfl) (he2:aV b=true:=by rfl):Z.cJ X (.Call (.Name "min" p) [a,b] [] pos) (e2 yp fa fb):=⟨have ha:=ha.un;have hb:=hb.un;by
  refine z6 T j hG hm fD PyProof.Rows.boot_min (sd T.calm) (fun H x y d e Q hx hy q=>?_) ha hb he he2;cases d with
  | int i =>
    cases e with
    | int j=>exact ⟨i,j,by rw [bp hx,bp hy],q _ H (ar.refl _) cy⟩
    | _=>exact q.elim
  | _=>exact q.elim⟩
theorem vF (T:Tb X nl G) (j:Nat) (hG:G[j]?=some ("max" : Str)) (hm:X.mg "max" = none) (ha:Z.di X a fa) (hb:Z.di X b fb) (he:aV a=true:=by rfl) (he2:aV b=true:=by rfl):Z.cJ X (.Call (.Name "max" p) [a,b] [] pos) (e2 yG fa fb):=⟨have ha:=ha.un;have hb:=hb.un;by
  refine z6 T j hG hm fD PyProof.Rows.boot_max (sN T.calm) (fun H x y d e Q hx hy q=>?_) ha hb he he2;cases d with
  | int i =>
    cases e with
    | int j=>exact ⟨i,j,by rw [bp hx,bp hy],q _ H (ar.refl _) cy⟩
    | _=>exact q.elim
  | _=>exact q.elim⟩
noncomputable def gf:PyData->R PyData
  | .list ds=>.ok (.tuple ds)
  | .tuple ds=>.ok (.tuple ds)
  | _=>.no
theorem dk (T:Tb X nl G) (j:Nat) (hG:G[j]?=some ("tuple" : Str)) (hm:X.mg "tuple" = none) (ha:Z.di X a fa) (he:aV a=true:=by rfl):Z.cJ X (.Call (.Name "tuple" p) [a] [] pos) (e1 gf fa):=⟨have ha:=ha.un;by
  refine yf T j hG hm fD PyProof.Rows.boot_tuple lx (fun H x d Q hx q=>?_) ha he;cases d with
  | list ds =>
    obtain ⟨a',vs,rfl,h,r⟩:=cH (K:=X.K) hx;exact ⟨a',vs,rfl,.inl ⟨h,fun l hl=>q _ _ (bT hl _) (dG hl r)⟩⟩
  | tuple ds =>
    obtain ⟨a',vs,rfl,h,r⟩:=cv hx;exact ⟨a',vs,rfl,.inr ⟨eV.of h,q _ H (ar.refl _) (by simp only [Rp];exact ⟨a',vs,rfl,h,r⟩)⟩⟩
  | _=>exact q.elim⟩
noncomputable def xS:PyData->R PyData
  | .list ds=>.ok (.list ds)
  | .tuple ds=>.ok (.list ds)
  | _=>.no
theorem qd (T:Tb X nl G) (j:Nat) (hG:G[j]?=some ("list" : Str)) (hm:X.mg "list" = none) (ha:Z.di X a fa) (he:aV a=true:=by rfl):Z.la X (.Call (.Name "list" p) [a] [] pos) (e1 xS fa):=⟨have ha:=ha.un;by
  refine yf T j hG hm xh PyProof.Rows.boot_list mK (fun H x d Q hx q=>?_) ha he;cases d with
  | list ds =>
    obtain ⟨a',vs,rfl,h,r⟩:=cH (K:=X.K) hx;exact ⟨a',vs,rfl,.inl h,fun l hl=>q _ _ (bT hl _) (cN hl r)⟩
  | tuple ds =>
    obtain ⟨a',vs,rfl,h,r⟩:=cv hx;exact ⟨a',vs,rfl,.inr (eV.of h),fun l hl=>q _ _ (bT hl _) (cN hl r)⟩
  | _=>exact q.elim⟩
end
section
variable {X:Cx} {tg a b c:Expr} {fa fb fc:Fe} {pos p2:Pos} {nl:Nat} {G:List Str} {x:Str} {p:Pos} {fs:aD->R (List PyData)} {es:List Expr}
noncomputable def jy:PyData->R (List PyData)
  | .list ds=>.ok ds
  | .tuple ds=>.ok ds
  | _=>.no
noncomputable def dw (f:Fe):aD->R (List PyData):=fun ρ=>f ρ>>=jy
theorem ut {K:PySem.W.Frag} {a:Addr} {ds:List PyData}:vQ (Bv K a) (fun H=>∃ o vs,H a=some (.frz o (.lst vs))/\bd H ds vs) ds where
  go:=fun i H ⟨o,vs,h,r⟩ hi=>by
    have hl:=r.length;exact ⟨vs,vs[i],.inl (.inr ⟨o,h⟩),List.getElem?_eq_getElem (by omega)⟩
  yld:=fun i H x H' d ⟨o,vs,h,r⟩ hd ⟨e,y⟩=>by
    subst e;obtain ⟨v,e1,p⟩:=r.get hd;have:=y vs (.inl (.inr ⟨o,h⟩));rw [e1] at this;cases this;exact ⟨ar.refl _,p⟩
  stop:=fun i H ⟨o,vs,h,r⟩ hi=>⟨vs,.inl (.inr ⟨o,h⟩),by rw [r.length];exact hi⟩
theorem xJ {K:PySem.W.Frag} {a:Addr} {ds:List PyData}:vQ (BI K a) (fun H=>∃ vs,H a=some (.tup vs)/\bd H ds vs) ds where
  go:=fun i H ⟨vs,h,r⟩ hi=>by
    have hl:=r.length;exact ⟨vs,vs[i],eV.of h,List.getElem?_eq_getElem (by omega)⟩
  yld:=fun i H x H' d ⟨vs,h,r⟩ hd ⟨e,y⟩=>by
    subst e;obtain ⟨v,e1,p⟩:=r.get hd;have:=y vs (eV.of h);rw [e1] at this;cases this;exact ⟨ar.refl _,p⟩
  stop:=fun i H ⟨vs,h,r⟩ hi=>⟨vs,eV.of h,by rw [r.length];exact hi⟩
noncomputable def Cn (K:PySem.W.Frag) (tl:TE):TI:=fun σ H R=>tl σ H fun x H1=>∃ a,x=.ref a/\((∃ xs,jr K H1 a xs/\R (Bv K a) H1)\/∃ xs,eV K H1 a xs/\R (BI K a) H1)
theorem z8 {l:Expr} {tl:TE} (hl:PE X l tl):PI X tg l (Cn X.K tl):=by
  intro pins s σ H R I h;refine cS (hl pins s σ H _ I h) fun v s1 ⟨x,H1,I1,r1,q1⟩=>?_
  obtain ⟨a,e,q⟩:=q1;subst e;cases r1;rcases q with ⟨xs,hq,q⟩ | ⟨xs,hq,q⟩
  · obtain ⟨its,rv,p,hz⟩:=I1.list hq;refine wpAny_pyIter_list p.isList ?_;refine ⟨s1.heap.objs.size,[s1.heap.objs.size],_,_,H1,rfl,I1.kept (t':=s1.toks) fun b o e=>Heap.get?_push_of_some _ e,rV a _,⟨_,Heap.get?_push_size _ rfl,rfl,rfl⟩,fun b hb=>?_,q⟩;have e:b=s1.heap.objs.size:=by simpa using hb
    subst e;exact I1.fpOk (Nat.le_refl _) (I1.hok.fresh (Nat.le_refl _))
  · obtain ⟨its,rv,p,hz⟩:=I1.tuple hq;refine wpAny_pyIter_tuple (show s1.heap.IsTuple a its.toArray from p) ?_;refine ⟨s1.heap.objs.size,[s1.heap.objs.size],_,_,H1,rfl,I1.kept (t':=s1.toks) fun b o e=>Heap.get?_push_of_some _ e,qi a _,⟨_,Heap.get?_push_size _ rfl,rfl,rfl⟩,fun b hb=>?_,q⟩;have e:b=s1.heap.objs.size:=by simpa using hb
    subst e;exact I1.fpOk (Nat.le_refl _) (I1.hok.fresh (Nat.le_refl _))
theorem A2 (Rk:It->Hp->Prop):xn X (fun (r:R (List PyData)) H=>match r with | .ok ds=>∀ J H',ar H H'->(∃ Gd,vQ J Gd ds/\Bk H' (fun _=>False) Gd)->Rk J H' | .ex c=>Xw X c H | .no=>False) where
  mono:=fun r H H' h s=>by
    cases r with
    | ok d=>exact fun J H2 s2=>h J H2 (s.trans s2)
    | ex c=>exact Xw.mono h s
    | no=>exact h
  ex:=fun c H h=>h
  no:=fun H h=>h
theorem bJ (ha:Z.cJ X a fa):Z.pd X tg a (dw fa):=⟨have ha:=ha.un;PI.imp (z8 ha) fun σ H Rk h=>(fF (P:=iF) (f:=fa) (k:=fun _=>jy) (A2 (X:=X) Rk) h).post fun v H1 ⟨_,d,_,_,p1,q1⟩=>by
    cases d with
    | list ds =>
      simp only [Rp] at p1;obtain ⟨a',o,vs,rfl,h,r⟩:=p1;exact ⟨a',rfl,.inl ⟨vs,.inl (.inr ⟨o,h⟩),q1 _ H1 (ar.refl _) ⟨_,ut,fun H2 k _=>⟨o,vs,k.2 _ _ _ h,bd.kp k _ _ r⟩⟩⟩⟩
    | tuple ds =>
      simp only [Rp] at p1;obtain ⟨a',vs,rfl,h,r⟩:=p1;exact ⟨a',rfl,.inr ⟨vs,eV.of h,q1 _ H1 (ar.refl _) ⟨_,xJ,fun H2 k _=>⟨vs,k.1 _ _ h,bd.kp k _ _ r⟩⟩⟩⟩
    | _=>exact q1.elim⟩
noncomputable def bL (lo:Int) (n:Nat):List PyData:=(List.range n).map fun (k:Nat)=>.int (lo+k)
noncomputable def kP:List PyData->R (List PyData)
  | [.int j]=>if -(2 ^ 62)<=j/\j < 2 ^ 62 then .ok (bL 0 j.toNat) else .no
  | [.int i,.int j]=>if -(2 ^ 62)<=i/\i < 2 ^ 62/\-(2 ^ 62)<=j/\j < 2 ^ 62 then .ok (bL i (j-i).toNat) else .no
  | _=>.no
noncomputable def gY (fs:aD->R (List PyData)):aD->R (List PyData):=fun ρ=>fs ρ>>=kP
theorem sK {lo:Int} {n:Nat}:vQ (Bj lo n) (fun _=>True) (bL lo n) where
  go:=fun i H _ hi=>by
    show i < n;simpa [bL] using hi
  yld:=fun i H x H' d _ hd ⟨e,y⟩=>by
    subst e;subst y;refine ⟨ar.refl _,?_⟩;unfold bL at hd;rw [List.getElem?_map] at hd;cases h:(List.range n)[i]? with
    | none=>rw [h] at hd;cases hd
    | some k =>
      rw [h] at hd;have hk:k=i:=by
        rw [List.getElem?_range] at h
        · exact (Option.some.inj h).symm
        · have:=(List.getElem?_eq_some_iff.mp h).1;simpa using this
      subst hk;cases hd;exact cy
  stop:=fun i H _ hi=>by
    show n<=i;simpa [bL] using hi
theorem fi (T:Tb X nl G) (j:Nat) (hG:G[j]?=some ("range" : Str)) (hm:X.mg "range" = none) (ha:Z.qv X [a] fs) (hl:∀ ρ ds,fs ρ=.ok ds->ds.length=1) (hs:aV a=true:=by rfl):Z.pd X tg (.Call (.Name "range" p) [a] [] pos) (gY fs):=⟨have ha:=ha.un;PI.imp (sC (T.gl _ (List.mem_of_getElem? hG)).1 hm ha (bI hs)) fun σ H Rk ⟨ρ,sl,q⟩=>by
    refine ⟨ρ,sl,?_⟩;dsimp only [gY] at q;cases e:fs ρ with
    | ex c=>rw [e] at q;exact q
    | no=>rw [e] at q;exact q
    | ok ds =>
      rw [e] at q;have hlen:=hl ρ ds e;intro vs H1 s1 r1
      match ds,hlen with
      | [d],_ =>
        simp only [RA] at r1;obtain ⟨v,r',rfl,p1,rfl⟩:=r1;cases d with
        | int j =>
          have ev:v=.int j:=by simpa only [Rp] using p1
          subst ev;by_cases hz:-(2 ^ 62)<=j/\j < 2 ^ 62
          · have e2:kP [.int j]=.ok (bL 0 j.toNat):=if_pos hz;rw [R.ok_bind,e2] at q;exact ⟨j,rfl,hz.1,hz.2,q _ H1 s1 ⟨_,sK,fun _ _ _=>True.intro⟩⟩
          · have e2:kP [.int j]=.no:=if_neg hz;rw [R.ok_bind,e2] at q;exact q.elim
        | _=>exact q.elim⟩
end
noncomputable def p8 (x:Int):List Int->List Int
  | []=>[x]
  | y::r=>if x<=y then x::y::r else y::p8 x r
noncomputable def eu:List Int->List Int
  | []=>[]
  | x::r=>p8 x (eu r)
theorem jG (x:Int):∀ l,(p8 x l).Perm (x::l)
  | []=>List.Perm.refl _
  | y::r=>by
    unfold p8;split
    · exact List.Perm.refl _
    · exact ((jG x r).cons y).trans (List.Perm.swap x y r)
theorem dH:∀ l,(eu l).Perm l
  | []=>List.Perm.refl _
  | x::r=>(jG x (eu r)).trans ((dH r).cons x)
theorem jQ (x:Int):∀ l,l.Pairwise (·<=·)->(p8 x l).Pairwise (·<=·)
  | [],_=>by unfold p8;exact List.pairwise_singleton _ _
  | y::r,h=>by
    have h':=List.pairwise_cons.mp h;unfold p8;split
    · rename_i hxy;refine List.pairwise_cons.mpr ⟨fun z hz=>?_,h⟩;rcases List.mem_cons.mp hz with rfl | hz
      · exact hxy
      · exact Int.le_trans hxy (h'.1 z hz)
    · rename_i hxy;refine List.pairwise_cons.mpr ⟨fun z hz=>?_,jQ x r h'.2⟩;rcases List.mem_cons.mp ((jG x r).mem_iff.mp hz) with rfl | hz
      · omega
      · exact h'.1 z hz
theorem gw:∀ l,(eu l).Pairwise (·<=·)
  | []=>List.Pairwise.nil
  | x::r=>jQ x _ (gw r)
theorem oZ {a b:List Int} (hp:a.Perm b) (hs:a.Pairwise (·<=·)):a=eu b:=PySem.W.ksm_same (hp.trans (dH b).symm) hs (gw b)
section
variable {prog:Program} {w:World} {A:Around} {E:Value->Shared->Prop} {s:Shared}
theorem o2 {d:Addr} {kvs:List (cC×Value)} {ns:List Int} {Q:Value->Shared->Prop} (hh:A.handled=none) (lo:(d==sysModules)=false) (hd:s.heap.DictOf (cE prog w) d kvs) (hk:kvs.map (·.1)=ns.map Sum.inl) (h64:ns.length < 64)
    (h:∀ (D:Addr) (h':Heap) (tk:Nat) (vs:List Value) (e:Nat),s.heap.get? D=none->(∀ b o,s.heap.get? b=some o->h'.get? b=some o)->h'.get? D=some (seqObj "list" vs.toArray e)->IntsAre vs (eu ns)->Q (.ref D) { s with heap:=h',toks:=tk }) :
    wpAny (model prog w) A (call (.builtin "sorted") [.ref d]) Q E s:=by
  obtain ⟨ep,hat⟩:=hd.dictAt;have hlen:kvs.length=ns.length:=by have:=congrArg List.length hk;simpa using this
  have hn:kvs.length<=sizeLine:=by rw [sizeLine_eq];omega
  refine Calls.call_function_entry kind_sorted plain_sorted entry_sorted (args_sorted1 _) ?_;unfold Builtin.«sorted»;refine wpAny_bind (m:=checkCount "sorted" 1 1 _) (wpAny_pure ?_);refine wpAny_bind (PySem.W.kdu_collect (A:=A.in1) (PySem.W.kdl_dict (knd:=cE prog w) (kvs:=kvs) (ep:=ep) lo) hh hat hn fun h1 tk acc hk1 hacc=>?_);have hl:acc.toList.length=kvs.length:=by rw [Array.length_toList];exact hacc.1
  have hI:IntsAre acc.toList ns:=by
    have key:∀ (l:List Value) (ms:List Int) (k:Nat),l.length=ms.length->(∀ (j:Nat) (v:Value),l[j]?=some v->∃ n:Int,ms[j]?=some n/\∃ t,v=Value.int n t)->IntsAre l ms:=by
      intro l;induction l with
      | nil=>intro ms k e _;have:ms=[]:=List.length_eq_zero_iff.mp e.symm;subst this;exact .nil
      | cons v r ih =>
        intro ms k e hv;cases ms with
        | nil=>cases e
        | cons n ms =>
          obtain ⟨n',e1,t,rfl⟩:=hv 0 v rfl;have:n=n':=Option.some.inj e1;subst this;exact .cons n t (ih ms (k+1) (by simpa using e) fun j u hu=>hv (j+1) u (by simpa using hu))
    refine key acc.toList ns 0 (by rw [hl,hlen]) fun j v hv=>?_
    obtain ⟨κ,x,hx,his⟩:=hacc.2 j v (by rw [<- Array.getElem?_toList];exact hv);have e1:(kvs.map (·.1))[j]?=some κ:=by rw [List.getElem?_map,hx];rfl
    rw [hk,List.getElem?_map] at e1;cases e2:ns[j]? with
    | none=>rw [e2] at e1;cases e1
    | some n =>
      rw [e2] at e1;have e3:Sum.inl n=κ:=Option.some.inj e1;subst e3;rcases bQ (show kJ (Sum.inl n) v=true from his) with ⟨i,t,e4,e5⟩ | ⟨y,t,e4,_⟩
      · cases e4;exact ⟨n,rfl,t,e5⟩
      · cases e4
  refine wpAny_bind (wpAny_newList ?_ (by rw [hl];exact hn));have hoL:(h1.push (seqObj "list" acc.toList.toArray 0)).get? h1.objs.size=some (seqObj "list" acc.toList.toArray 0):=Heap.get?_push_size _ rfl;show wpAny _ _ _ _ _ { s with heap:=h1.push (seqObj "list" acc.toList.toArray 0),toks:=tk };refine wpAny_bind (wpAny_holding (wpAny_call_entry slot_list_sort ⟨_,hoL,rfl⟩ entry_list_sort (list_sort_tree hoL hI (by rw [hl,hlen];exact h64) fun out ns' a1 a2 a3=>⟨_,rfl,?_⟩) (args_list_sort _)));refine wpAny_pure ⟨_,rfl,?_⟩;obtain ⟨e,he⟩:=sortedHeap_at (out:=out) hoL;have hsz:s.heap.get? h1.objs.size=none:=by
    cases q:s.heap.get? h1.objs.size with
    | none=>rfl
    | some o=>exact absurd (Heap.lt_size (hk1 _ _ q)) (Nat.lt_irrefl _)
  refine h h1.objs.size _ tk out.toList e hsz (fun b o q=>?_) he (by rw [oZ a2 a3] at a1;exact a1);have q1:=hk1 b o q;have hlt:b < h1.objs.size:=Heap.lt_size q1;show (sortedHeap (h1.push (seqObj "list" acc.toList.toArray 0)) h1.objs.size acc.toList out).get? b=some o;rw [sortedHeap_old (Nat.ne_of_lt hlt) (by rw [size_push'];exact Nat.lt_succ_of_lt hlt)];exact Heap.get?_push_of_some _ q1
end
theorem wZ {fs ex:List Addr} {H:Hp} {h h':Heap} {a:Addr} {o:HO} (k:∀ b u,h.get? b=some u->h'.get? b=some u) (hg:h.get? a=none) (hn:H a=none):Un fs ex H (cr H a o) h h':=by
  have ne:∀ {b:Addr} {u:Obj},h.get? b=some u->b≠a:=fun e z=>by subst z;rw [hg] at e;cases e
  exact ⟨fun b u q _ _ _=>k b u q,fun b u q _ _ _=>⟨u.slots,k b u q⟩,fun b u q n _=>by rw [ay (ne q)];exact n,fun b u q _=>⟨u,k b u q⟩,fun b xs q=>by rw [ay (ba q hn)];exact q,fun b u xs q=>by rw [ay (ba q hn)];exact q,
    fun b ps q=>⟨#[],by rw [ay (ba q hn),q];simp⟩⟩
theorem tO {X:Cx} {pins:List (Addr×Obj)} {σ:St} {H:Hp} {s:Shared} {h':Heap} {a:Addr} {o:HO} {t':Nat} (I:az X pins σ H s) (k:∀ b u,s.heap.get? b=some u->h'.get? b=some u) (hg:s.heap.get? a=none) (hn:H a=none)
    (new:bS X.prog X.w (cr H a o) h' a o):az X pins σ (cr H a o) { s with heap:=h',toks:=t' }:=by
  refine I.un (wZ k hg hn) fun b u e=>?_
  by_cases hb:b=a
  · subst hb;rw [bc] at e;cases e;exact new
  · rw [ay hb] at e;exact (I.hok b u e).stay (fun c v _ q=>k c v q) (fun c q=>by rw [ay (ba q hn)];exact q) fun c xs q=>by rw [ay (ba q hn)];exact q
theorem uF {X:Cx} {pins:List (Addr×Obj)} {σ:St} {H:Hp} {s:Shared} {a:Addr} (I:az X pins σ H s) (hg:s.heap.get? a=none):H a=none:=by
  cases q:H a with
  | none=>rfl
  | some o=>obtain ⟨u,e⟩:=pU (I.hok a o q);rw [hg] at e;cases e
section
variable {X:Cx} {a b c:Expr} {fa fb fc:Fe} {pos p2:Pos} {nl:Nat} {G:List Str} {x:Str} {p:Pos}
noncomputable def aN:List PyData->Option (List Int)
  | []=>some []
  | .int i::ds=>(aN ds).map fun r=>i::r
  | _=>none
theorem cF:∀ {ds:List PyData} {ns:List Int},aN ds=some ns->ds=ns.map PyData.int
  | [],ns,h=>by cases h;rfl
  | d::ds,ns,h=>by
    cases d with
    | int i =>
      simp only [aN] at h;cases e:aN ds with
      | none=>rw [e] at h;cases h
      | some r =>
        rw [e] at h;cases h;rw [List.map_cons,cF e]
    | _=>cases h
theorem cD:∀ ns:List Int,aN (ns.map PyData.int)=some ns
  | []=>rfl
  | n::ns=>by simp only [List.map_cons,aN,cD ns,Option.map_some]
noncomputable def ja:PyData->R PyData
  | .list ds=>match aN ds with
    | some ns=>if ns.length < 64 then .ok (.list ((eu ns).map PyData.int)) else .no
    | none=>.no
  | .dict kvs=>match aN (kvs.map (·.1)) with
    | some ns=>if ns.length < 64 then .ok (.list ((eu ns).map PyData.int)) else .no
    | none=>.no
  | _=>.no
noncomputable def yY (K:PySem.W.Frag):List V->Hp->VK->Prop:=fun xs H Q=>∃ p ns,xs=[.ref p]/\jr K H p (ns.map V.int)/\ns.length < 64/\∀ l,H l=none->Q (.ref l) (cr H l (.lst ((eu ns).map V.int)))
noncomputable def yO:List V->Hp->VK->Prop:=fun xs H Q=>∃ p ks ns,xs=[.ref p]/\Rd H p (.dK ks)/\ks.map (·.1)=ns.map Sum.inl/\ns.length < 64/\∀ l,H l=none->Q (.ref l) (cr H l (.lst ((eu ns).map V.int)))
theorem l7 (ns:List Int):(eu ns).length=ns.length:=(dH ns).length_eq
theorem pj:cL X (.builtin "sorted") (yY X.K):=by
  intro pins s σ H xs us Q I r h;obtain ⟨p,ns,rfl,hq,h64,q⟩:=h;obtain ⟨u,rfl,rx⟩:=e8 r;cases rx;obtain ⟨its,rv,pl,hz⟩:=I.list hq;have hI:IntsAre its ns:=dl rv;have hl:=IntsAre.length hI;refine sorted_ints pl.isList hI (by omega) fun out ns' a1 a2 a3=>?_
  rw [oZ a2 a3] at a1;obtain ⟨e,he⟩:=sortedAll_at s.heap its out;refine ⟨.ref (s.heap.objs.size+1),_,I.laid (t':=s.toks) (o:=.lst ((eu ns).map V.int)) (fun b o e=>sortedAll_old e) (Nat.le_succ _) ⟨?_,out.toList,e,il a1,by simpa [seqObj] using he⟩,rfl,q _ (I.hok.fresh (Nat.le_succ _))⟩;rw [List.length_map,l7,sizeLine_eq];omega
theorem qc (hc:X.calm=true):cL X (.builtin "sorted") yO:=by
  intro pins s σ H xs us Q I r h;obtain ⟨p,ks,ns,rfl,hq,hk,h64,q⟩:=h;obtain ⟨u,rfl,rx⟩:=e8 r;cases rx;obtain ⟨hz,hlo,vs,kv,hd⟩:=ky I.hok hq;refine o2 (I.ok.hd hc) hlo hd (by rw [<- kv.keys];exact hk) h64 fun D h' tk vs' e hg kp hD hI=>?_
  have hn:=uF I hg;refine ⟨.ref D,_,tO (t':=tk) (o:=.lst ((eu ns).map V.int)) I kp hg hn ⟨?_,vs',e,il hI,by simpa [seqObj] using hD⟩,rfl,q _ hn⟩;rw [List.length_map,l7,sizeLine_eq];omega
theorem eJ:∀ {H:Hp} {ns:List Int} {vs:List V},bd H (ns.map PyData.int) vs->vs=ns.map V.int
  | H,[],vs,r=>by rw [List.map_nil] at r;rw [r.nil_inv];rfl
  | H,n::ns,vs,r=>by
    rw [List.map_cons] at r;obtain ⟨v,r',rfl,p,t⟩:=r.cons_inv;have:v=.int n:=by simpa only [Rp] using p
    rw [this,eJ t];rfl
theorem oW:∀ {H:Hp} {kvs:List (PyData×PyData)} {ks:List (cC×V)},da H kvs ks->kvs.map (·.1)=ks.map fun k=>eh k.1
  | H,[],ks,r=>by simp only [da] at r;rw [r];rfl
  | H,(k,d)::kvs,ks,r=>by
    simp only [da,wl] at r;obtain ⟨x,v,r',rfl,⟨e,_⟩,t⟩:=r;rw [List.map_cons,List.map_cons,oW t,e]
theorem lQ:∀ {ks:List (cC×V)} {ns:List Int},(ks.map fun k=>eh k.1)=ns.map PyData.int->ks.map (·.1)=ns.map Sum.inl
  | [],[],_=>rfl
  | [],_::_,h=>by cases h
  | _::_,[],h=>by cases h
  | (k,v)::ks,n::ns,h=>by
    rw [List.map_cons,List.map_cons] at h;injection h with h1 h2
    rw [List.map_cons,List.map_cons,lQ h2];cases k with
    | inl i=>simp only [eh] at h1;cases h1;rfl
    | inr y=>simp only [eh] at h1;cases h1
theorem mL (T:Tb X nl G) (j:Nat) (hG:G[j]?=some ("sorted" : Str)) (hm:X.mg "sorted" = none) (ha:Z.di X a fa) (he:aV a=true:=by rfl):Z.la X (.Call (.Name "sorted" p) [a] [] pos) (e1 ja fa):=⟨have ha:=ha.un;by
  refine uK T j hG hm xh PyProof.Rows.boot_sorted (pj.or (qc T.calm)) (fun H x d Q hx q=>?_) ha he;cases d with
  | list ds =>
    simp only [ja] at q;cases ei:aN ds with
    | none=>rw [ei] at q;exact q.elim
    | some ns =>
      rw [ei] at q;dsimp only at q;by_cases h64:ns.length < 64
      · rw [if_pos h64] at q;obtain ⟨a',vs,rfl,h,r⟩:=cH (K:=X.K) hx;rw [cF ei] at r;rw [eJ r] at h;exact .inl ⟨a',ns,rfl,h,h64,fun l hl=>q _ _ (bT hl _) (cN hl (bd.ints _))⟩
      · rw [if_neg h64] at q;exact q.elim
  | dict kvs =>
    simp only [ja] at q;cases ei:aN (kvs.map (·.1)) with
    | none=>rw [ei] at q;exact q.elim
    | some ns =>
      rw [ei] at q;dsimp only at q;by_cases h64:ns.length < 64
      · rw [if_pos h64] at q;have hi:lP kvs=false:=by
          cases kvs with
          | nil=>rfl
          | cons kd kvs =>
            obtain ⟨k,d⟩:=kd;cases k <;> first | rfl | (simp [aN] at ei)
        obtain ⟨a',ks,rfl,h,r⟩:=jg hi hx;have hk:=lQ ((oW r).symm.trans (cF ei));exact .inr ⟨a',ks,ns,rfl,h,hk,h64,fun l hl=>q _ _ (bT hl _) (cN hl (bd.ints _))⟩
      · rw [if_neg h64] at q;exact q.elim
  | _=>exact q.elim⟩
end
section
variable {X:Cx} {a b c:Expr} {fa fb fc:Fe} {pos p2:Pos} {nl:Nat} {G:List Str} {x:Str} {p:Pos}
theorem gC.change {Fm H:Hp} {σ:St} {ρ:aD} {i:Nat} {d d':PyData} {a:Addr} {u u':HO} (h:gC Fm H σ ρ) (h1:ρ[i]?=some (.own d)) (h2:σ[i]?=some (some (.ref a))) (hu:H a=some u) (hm:(∃ xs,u=.lst xs)\/∃ ks,u=.dK ks)
    (hr:gF (cr H a u') d' (.ref a)):gC Fm (cr H a u') σ (ρ.set i (.own d')):=by
  have hFa:=h.own i d a h1 h2;have kp:Kp H (cr H a u'):=eR hu hm;have at_i:∀ (j:Nat) (e:PyData),(ρ.set i (.own d'))[j]?=some (.own e)->∃ e0,ρ[j]?=some (.own e0):=fun j e q=>by
    rw [List.getElem?_set] at q;by_cases hij:i=j
    · subst hij;exact ⟨d,h1⟩
    · rw [if_neg hij] at q;exact ⟨e,q⟩
  refine ⟨fun b x e=>?_,⟨by rw [List.length_set];exact h.sl.1,fun j c w' e1 e2=>?_⟩,fun j e b e1 e2=>?_,fun j k e f b e1 e2 e3 e4=>?_⟩
  · rw [ay (ba e hFa)];exact h.fm b x e
  · rw [List.getElem?_set] at e1;by_cases hij:i=j
    · subst hij;rw [if_pos rfl] at e1;split at e1
      · cases e1;rw [h2] at e2;cases e2;exact ⟨_,rfl,hr⟩
      · cases e1
    · rw [if_neg hij] at e1;have q:=h.sl.2 j c w' e1 e2;cases c with
      | exc p=>exact q
      | non=>exact True.intro
      | val d1=>obtain ⟨v,z1,z2⟩:=q;exact ⟨v,z1,Rp.kp kp _ _ z2⟩
      | own d1 =>
        obtain ⟨v,z1,z2⟩:=q;subst z1;obtain ⟨b,ob,rfl,hb⟩:=mC z2;have nb:b≠a:=fun z=>hij (by subst z;exact h.apart i j d d1 b h1 e1 h2 e2)
        refine ⟨_,rfl,?_⟩;cases d1 <;> simp only [gF] at z2 ⊢
        · obtain ⟨b',vs,e,hb',r⟩:=z2;cases e;exact ⟨b,vs,rfl,by rw [ay nb];exact hb',bd.kp kp _ _ r⟩
        · obtain ⟨b',vs,e,hb',r⟩:=z2;cases e;exact ⟨b,vs,rfl,by rw [ay nb];exact hb',da.kp kp _ _ r⟩
  · obtain ⟨e0,q⟩:=at_i j e e1;exact h.own j e0 b q e2
  · obtain ⟨e0,q⟩:=at_i j e e1;obtain ⟨f0,q'⟩:=at_i k f e2;exact h.apart j k e0 f0 b q q' e3 e4
noncomputable def wt (i:Nat) (fk fv:Fe):Fs:=fun ρ=>fv ρ>>=fun v=>lb (fk ρ)>>=fun k=>match ρ[i]? with
  | some (.own (.dict kvs))=>match fN k with
    | some _=>if kvs.length < sizeLine then .ok (.nx (ρ.set i (.own (.dict (pM kvs k v))))) else .no
    | none=>.no
  | _=>.no
theorem sf {k:PyData} {κ:cC} (h:fN k=some κ):k=eh κ:=by
  cases k <;> simp only [fN] at h <;> cases h <;> rfl
theorem zl {H:Hp} {κ:cC} {y:V} (h:Rp H (eh κ) y):y=kV κ:=by
  cases κ <;> simp only [eh,Rp] at h <;> exact h
theorem vp {k v:Expr} {fk fv:Fe} {q1 q2 q3:Pos} (T:Tb X nl G) (n:Nat) (hN:X.N[n]?=some x) (hk:Z.cJ X k fk) (hv:Z.cJ X v fv) (hs:swapsWith v (some (.Subscript (.Name x q1) k q2)) q3.line X.env=pure false:=by rfl):Z.jT X (.Assign [.Subscript (.Name x q1) k q2] v q3) (wt n fk fv):=⟨have hk:=hk.un;have hv:=hv.un;fun Fm=>by
  have hm:=T.vis x (List.mem_of_getElem? hN);refine PS.imp (vU (by have:=T.hu;omega) (gP hN hm.1 hm.2.1 hm.2.2) hk hv hs) fun D σ H h=>?_
  refine (mq (P:=iF) (f:=fv) (k:=fun ρ v=>lb (fk ρ)>>=fun k=>match ρ[n]? with
    | some (.own (.dict kvs))=>match fN k with
      | some _=>if kvs.length < sizeLine then .ok (.nx (ρ.set n (.own (.dict (pM kvs k v))))) else .no
      | none=>.no
    | _=>.no) h).post fun vv H1 ⟨ρ1,dv,sl1,_,p1,q1⟩=>?_
  have sl0:xP X Fm (fun ρ=>lb (fk ρ)>>=fun k=>match ρ[n]? with
    | some (.own (.dict kvs))=>match fN k with
      | some _=>if kvs.length < sizeLine then .ok (.nx (ρ.set n (.own (.dict (pM kvs k dv))))) else .no
      | none=>.no
    | _=>.no) D σ H1:=⟨ρ1,sl1,q1⟩
  cases e:ρ1[n]? with
  | none =>
    exfalso;rw [e] at q1;cases e2:fk ρ1 with
    | ok _=>rw [e2] at q1;exact q1
    | ex _=>rw [e2] at q1;exact q1
    | no=>rw [e2] at q1;exact q1
  | some c =>
    rw [e] at q1;cases c with
    | own d =>
      cases d with
      | dict kvs =>
        obtain ⟨o,h2,w',rfl,p2⟩:=sl1.sl.at e;simp only [gF] at p2;obtain ⟨a',ks,rfl,ha,r⟩:=p2;refine ⟨.ref a',h2,?_⟩;refine ⟨ρ1,sl1.sl,?_⟩;cases e2:fk ρ1 with
        | ex _=>rw [e2] at q1;exact q1.elim
        | no=>rw [e2] at q1;exact q1
        | ok kd =>
          rw [e2] at q1;simp only [lb,R.ok_bind] at q1;intro yv H3 s3 p3;cases e3:fN kd with
          | none=>rw [e3] at q1;exact q1.elim
          | some κ =>
            rw [e3] at q1;dsimp only at q1;by_cases hz:kvs.length < sizeLine
            · rw [if_pos hz] at q1;have ek:=sf e3;subst ek;have ey:=zl p3;subst ey;have ha3:=s3 _ _ ha;have r3:da H3 kvs ks:=da.kp (Kp.of s3) _ _ r;refine ⟨a',_,rfl,po.k ha3 (by rw [r3.length];exact hz),q1 _ _ ((sl1.mono s3).change e h2 ha3 (.inr ⟨_,rfl⟩) ?_)⟩;simp only [gF];exact ⟨a',_,rfl,bc,da.kp (eR ha3 (.inr ⟨_,rfl⟩)) _ _ (da.put κ (p1.mono s3) r3)⟩
            · rw [if_neg hz] at q1;exact q1.elim
      | _ =>
        exfalso;cases e2:fk ρ1 with
        | ok _=>rw [e2] at q1;exact q1
        | ex _=>rw [e2] at q1;exact q1
        | no=>rw [e2] at q1;exact q1
    | _ =>
      exfalso;cases e2:fk ρ1 with
      | ok _=>rw [e2] at q1;exact q1
      | ex _=>rw [e2] at q1;exact q1
      | no=>rw [e2] at q1;exact q1⟩
noncomputable def ij (i:Nat) (f:Fe):Fs:=fun ρ=>lb (f ρ)>>=fun d=>match ρ[i]? with
  | some (.own (.list ds))=>if ds.length < sizeLine then .ok (.nx (ρ.set i (.own (.list (ds++[d]))))) else .no
  | _=>.no
end
section
variable {prog:Program} {w:World} {A:Around} {E:Value->Shared->Prop} {s:Shared}
theorem pV {it t:Addr} {i:Nat} {items:Array Value} {x:Value} {Q:Value->Shared->Prop} (hit:s.heap.IsTupleIter it t i) (ht:s.heap.IsTuple t items) (hx:items[i]?=some x)
    (hQ:∀ h',h'.IsTupleIter it t (i+1)->Heap.SameBut it s.heap h'->Q x { s with heap:=h' }):wpAny (model prog w) A (Builtin.SmallTypes.nextOf (.ref it)) Q E s:=by
  obtain ⟨ob,hob,hcl,hdt⟩:=id hit;obtain ⟨ot,hot,_,nt,hdtt⟩:=ht;unfold Builtin.SmallTypes.nextOf;refine wpAny_bind (wpAny_callSpecial?_slot (name:=Str.ofString "__next__") hit.typeIs F.slot_tuple_iterator_next (wpAny_call_entry F.slot_tuple_iterator_next hit.typeIs F.entry_tuple_iterator_next ?_ (F.args_tuple_iterator_next_1 _)));show wpAny _ _ (field (Value.ref it) 0>>=_) _ _ s;refine wpAny_bind (wpAny_field hob hdt (x:=Value.ref t) rfl ?_);show wpAny _ _ (if (Value.ref t==Value.none)=true then _ else _) _ _ s;rw [if_neg (by intro z;cases z)];show wpAny _ _ (field (Value.ref it) 1>>=_) _ _ s;refine wpAny_bind (wpAny_field hob hdt (x:=Value.int i 0) rfl ?_);show wpAny _ _ (seqItems? (Value.ref t)>>=_) _ _ s;refine wpAny_bind (wpAny_seqItems hot hdtt ?_);simp only [hx,Int.toNat_natCast];refine wpAny_bind (wpAny_setField hob hdt (by simp) (wpAny_pure ⟨x,rfl,wpAny_pure (hQ _ ⟨_,Heap.get?_update_self _ hob (Obj.isFreed_of_fields (Obj.data_mapFields hdt _)),(Obj.cls_mapFields ..).trans hcl,?_⟩ (Heap.SameBut.update ..))⟩));rw [Obj.data_mapFields hdt];simp [rawInt]
theorem kj {it t:Addr} {i:Nat} {items:Array Value} {Q:Value->Shared->Prop} (hh:A.handled=none) (hit:s.heap.IsTupleIter it t i) (ht:s.heap.IsTuple t items) (hx:items[i]?=none)
    (hE:∀ h' e,Heap.ExtBut it s.heap h'->(∃ o,h'.get? e=some o/\o.cls=.type "StopIteration")->E (.ref e) { s with heap:=h' }):wpAny (model prog w) A (Builtin.SmallTypes.nextOf (.ref it)) Q E s:=by
  obtain ⟨ob,hob,hcl,hdt⟩:=id hit;obtain ⟨ot,hot,_,nt,hdtt⟩:=ht;unfold Builtin.SmallTypes.nextOf;refine wpAny_bind (wpAny_callSpecial?_slot (name:=Str.ofString "__next__") hit.typeIs F.slot_tuple_iterator_next (wpAny_call_entry F.slot_tuple_iterator_next hit.typeIs F.entry_tuple_iterator_next ?_ (F.args_tuple_iterator_next_1 _)));show wpAny _ _ (field (Value.ref it) 0>>=_) _ _ s;refine wpAny_bind (wpAny_field hob hdt (x:=Value.ref t) rfl ?_);show wpAny _ _ (if (Value.ref t==Value.none)=true then _ else _) _ _ s;rw [if_neg (by intro z;cases z)];show wpAny _ _ (field (Value.ref it) 1>>=_) _ _ s;refine wpAny_bind (wpAny_field hob hdt (x:=Value.int i 0) rfl ?_);show wpAny _ _ (seqItems? (Value.ref t)>>=_) _ _ s;refine wpAny_bind (wpAny_seqItems hot hdtt ?_);simp only [hx,Int.toNat_natCast];refine wpAny_bind (wpAny_rule (wpAny_bind (wpAny_setField hob hdt (by simp) ?_)));show wpAny _ _ (newExc (Value.type "StopIteration") []>>=_) _ _ _;refine wpAny_bind ?_;simp only [newTuple,newExc];refine wpAny_bind (wpAny_newObj_type ?_ (by size_fits));refine wpAny_bind (m:=firstArgMember _ _) (wpAny_of_eq (a:=Value.none) (by first | rfl | (simp only [firstArgMember];rfl)) ?_);refine wpAny_newObj_type ?_ (by size_fits);simp only [raiseNew];refine wpAny_bind (wpAny_handled ?_)
  first | rw [show A.in1.handled=none from hh] | rw [hh]
  exact wpAny_bind (wpAny_pure (wpAny_throw (hE _ _ (((Heap.SameBut.update ..).extBut.push _).push _) ⟨_,Heap.get?_push_size _ rfl,rfl⟩)))
end
noncomputable def ny (h:Heap) (i l:Addr) (k:Nat) (xs:Array Value):Prop:=(h.IsListIter i l k/\h.IsList l xs)\/(h.IsTupleIter i l k/\h.IsTuple l xs)
section
variable {h h':Heap} {i l:Addr} {k:Nat} {xs:Array Value}
theorem ny.keep (x:ny h i l k xs) (hi:∀ o,h.get? i=some o->h'.get? i=some o) (hl:∀ o,h.get? l=some o->h'.get? l=some o):ny h' i l k xs:=by
  rcases x with ⟨⟨o,e,r⟩,⟨o',e',r'⟩⟩ | ⟨⟨o,e,r⟩,⟨o',e',r'⟩⟩
  · exact .inl ⟨⟨o,hi _ e,r⟩,⟨o',hl _ e',r'⟩⟩
  · exact .inr ⟨⟨o,hi _ e,r⟩,⟨o',hl _ e',r'⟩⟩
end
section
variable {prog:Program} {w:World} {A:Around} {E:Value->Shared->Prop} {s:Shared} {i l:Addr} {k:Nat} {xs:Array Value}
theorem AK {x:Value} {Q:Value->Shared->Prop} (it:ny s.heap i l k xs) (hne:l≠i) (hx:xs[k]?=some x) (hQ:∀ h',ny h' i l (k+1) xs->Heap.SameBut i s.heap h'->Q x { s with heap:=h' }) :
    wpAny (model prog w) A (Builtin.SmallTypes.nextOf (.ref i)) Q E s:=by
  rcases it with ⟨h1,h2⟩ | ⟨h1,h2⟩
  · exact wpAny_nextOf_list_item h1 h2 hx fun h' a b=>hQ h' (.inl ⟨a,h2.extBut b.extBut hne⟩) b
  · exact pV h1 h2 hx fun h' a b=>hQ h' (.inr ⟨a,h2.extBut b.extBut hne⟩) b
theorem rZ {Q:Value->Shared->Prop} (hh:A.handled=none) (it:ny s.heap i l k xs) (hx:xs[k]?=none)
    (hE:∀ h' e,Heap.ExtBut i s.heap h'->(∃ o,h'.get? e=some o/\o.cls=.type "StopIteration")->E (.ref e) { s with heap:=h' }):wpAny (model prog w) A (Builtin.SmallTypes.nextOf (.ref i)) Q E s:=by
  rcases it with ⟨h1,h2⟩ | ⟨h1,h2⟩
  · exact wpAny_nextOf_list_end hh h1 h2 hx hE
  · exact kj hh h1 h2 hx hE
noncomputable def zE (h:Heap) (l:Addr) (xs:Array Value):Prop:=h.IsList l xs\/h.IsTuple l xs
end
section
variable {X:Cx} {pins:List (Addr×Obj)} {σ:St} {H:Hp} {s:Shared} {h':Heap}
theorem jM {t':Nat} {fp:List Addr} (I:az X pins σ H s) (k:∀ b o,b∉fp->s.heap.get? b=some o->h'.get? b=some o) (hf:∀ b∈fp,jU X pins H b):az X pins σ H { s with heap:=h',toks:=t' }:=by
  have away:∀ b u,H b=some u->b∉fp:=fun b u e z=>by rw [(hf b z).1] at e;cases e
  have frame:X.env.locals∉fp:=fun z=>(hf _ z).2.1 rfl
  refine I.step (g':=s.gens) (d':=s.drawn) (ch:=fp) (fun b hb=>⟨(hf b hb).2.2.2.1,(hf b hb).2.1,(hf b hb).2.2.2.2.1,(hf b hb).2.2.2.2.2⟩) (fun b o _ _ hc e _=>k b o hc e) (fun b o _ _ hc e _=>⟨o.slots,k b o hc e⟩) (fun _ _ _ _ n=>n)
    (fun b o hc e=>⟨o,k b o hc e⟩) (fun _ _ e=>e) (fun _ _ _ e=>e) (fun b ps e=>⟨#[],by rw [e];simp⟩) (fun m ⟨o,es,ep,ho,r⟩=>⟨o,es,ep,k _ o frame ho,r⟩) (fun b u e=>?_) I.bare
  refine (I.hok b u e).stay (fun c v hc q=>k c v ?_ q) (fun _ q=>q) fun _ _ q=>q
  rcases hc with z | z
  · rw [z];exact away b u e
  · exact away c _ z
theorem ub {h:Heap} {o o':Obj} {b:Addr} (hb:b≠h.objs.size) (e:(h.push o).get? b=some o'):h.get? b=some o':=by
  unfold Heap.get? Heap.push at e;unfold Heap.get?;simp only [Array.getElem?_push] at e;rw [if_neg hb] at e;exact e
theorem vS {t':Nat} {fp:List Addr} {u1 u2:Value} {v1 v2:V} (I:az X pins σ H s) (hf:∀ b∈fp,jU X pins H b) (hob:∀ b∈fp,b < s.heap.objs.size) (ht:IsPair h' s.heap.objs.size u1 u2) (k:∀ b o,b∉fp->s.heap.get? b=some o->h'.get? b=some o)
    (r1:bw v1 u1) (r2:bw v2 u2):az X pins σ (cr H s.heap.objs.size (.tup [v1,v2])) { s with heap:=h',toks:=t' }:=by
  have I1:az X pins σ (cr H s.heap.objs.size (.tup [v1,v2])) { s with heap:=s.heap.push { cls:=.type "tuple",data:=.seq #[u1,u2] },toks:=s.toks } :=
    I.laid (fun b u e=>Heap.get?_push_of_some _ e) (Nat.le_refl _) ⟨by show 2<=sizeLine;decide,[u1,u2],.cons r1 (.cons r2 .nil),_,Heap.get?_push_size _ rfl,rfl,_,rfl⟩
  refine jM (fp:=fp) (s:={ s with heap:=s.heap.push { cls:=.type "tuple",data:=.seq #[u1,u2] },toks:=s.toks }) I1 (fun b o hb e=>?_) fun b hb=>?_
  · by_cases hz:b=s.heap.objs.size
    · subst hz;have e':(s.heap.push { cls:=.type "tuple",data:=.seq #[u1,u2] }).get? s.heap.objs.size=some o:=e;rw [Heap.get?_push_size _ rfl] at e';cases e';exact ht
    · exact k b o hb (ub hz e)
  · obtain ⟨f0,f1,f2,f3,f4,f5⟩:=hf b hb;exact ⟨by rw [ay (Nat.ne_of_lt (hob b hb))];exact f0,f1,f2,f3,f4,f5⟩
end
noncomputable def wM (K:PySem.W.Frag) (H:Hp) (a:Addr) (xs:List V):Bool->Prop
  | true=>eV K H a xs
  | false=>jr K H a xs
noncomputable def iD (h:Heap) (i l:Addr) (k:Nat):Bool->Prop
  | true=>h.IsTupleIter i l k
  | false=>h.IsListIter i l k
theorem iD.keep {h h':Heap} {i l:Addr} {k:Nat} {b:Bool} (x:iD h i l k b) (hi:∀ o,h.get? i=some o->h'.get? i=some o):iD h' i l k b:=by
  cases b
  · obtain ⟨o,e,r⟩:=x;exact ⟨o,hi _ e,r⟩
  · obtain ⟨o,e,r⟩:=x;exact ⟨o,hi _ e,r⟩
theorem iD.there {h:Heap} {i l:Addr} {k:Nat} {b:Bool} (x:iD h i l k b):∃ o,h.get? i=some o/\∀ v,o.data≠.cell v:=by
  cases b
  · obtain ⟨o,e,c,d⟩:=x;exact ⟨o,e,fun v z=>by rw [d] at z;cases z⟩
  · obtain ⟨o,e,c,d⟩:=x;exact ⟨o,e,fun v z=>by rw [d] at z;cases z⟩
section
variable {X:Cx} {pins:List (Addr×Obj)} {σ:St} {H:Hp} {s:Shared}
theorem pr {a:Addr} {xs:List V} {b:Bool} (I:az X pins σ H s) (h:wM X.K H a xs b):∃ its:List Value,bi xs its/\zE s.heap a its.toArray/\∀ (i:Addr) (k:Nat),iD s.heap i a k b->ny s.heap i a k its.toArray:=by
  cases b
  · obtain ⟨its,rv,p,_⟩:=I.list h;exact ⟨its,rv,.inl p.isList,fun i k z=>.inl ⟨z,p.isList⟩⟩
  · obtain ⟨its,rv,p,_⟩:=I.tuple h;exact ⟨its,rv,.inr p,fun i k z=>.inr ⟨z,p⟩⟩
theorem pc {a:Addr} {xs ys:List V} {b:Bool} (I:az X pins σ H s) (h:wM X.K H a xs b) (h':wM X.K H a ys b):ys=xs:=by
  cases b
  · exact I.list_inj h' h
  · exact I.tuple_inj h' h
theorem ny.toB {h:Heap} {i l:Addr} {k:Nat} {xs:Array Value} {b:Bool} (hl:∀ ys,(b=true->¬ h.IsList l ys)/\(b=false->¬ h.IsTuple l ys)) (x:ny h i l k xs):iD h i l k b:=by
  cases b
  · rcases x with ⟨z,w⟩ | ⟨z,w⟩
    · exact z
    · exact absurd w ((hl xs).2 rfl)
  · rcases x with ⟨z,w⟩ | ⟨z,w⟩
    · exact absurd w ((hl xs).1 rfl)
    · exact z
theorem gm {h:Heap} {l:Addr} {xs ys:Array Value} (a:h.IsList l xs) (b:h.IsTuple l ys):False:=by
  obtain ⟨o,e,c,_⟩:=a;obtain ⟨o',e',c',_⟩:=b;rw [e] at e';cases e';rw [c] at c';injection c' with z
  exact absurd z (by decide)
theorem vC {a:Addr} {xs:List V} {b:Bool} (I:az X pins σ H s) (h:wM X.K H a xs b) {h':Heap} (kp:∀ c o,s.heap.get? c=some o->h'.get? c=some o):∀ ys,(b=true->¬ h'.IsList a ys)/\(b=false->¬ h'.IsTuple a ys):=fun ys=>by
  cases b
  · obtain ⟨its,rv,p,_⟩:=I.list h;refine ⟨fun z=>(by cases z),fun _ w=>?_⟩;obtain ⟨o,e,r⟩:=p.isList;exact gm (h:=h') (xs:=its.toArray) ⟨o,kp _ _ e,r⟩ w
  · obtain ⟨its,rv,p,_⟩:=I.tuple h;refine ⟨fun _ w=>?_,fun z=>by cases z⟩;obtain ⟨o,e,r⟩:=p;exact gm (h:=h') w ⟨o,kp _ _ e,r⟩
end
noncomputable def yy (H:Hp) (a:Addr) (ds:List PyData):Bool->Prop
  | true=>∃ vs,H a=some (.tup vs)/\bd H ds vs
  | false=>∃ o vs,H a=some (.frz o (.lst vs))/\bd H ds vs
theorem yy.sq {K:PySem.W.Frag} {H:Hp} {a:Addr} {ds:List PyData} {b:Bool} (h:yy H a ds b):∃ vs,wM K H a vs b/\bd H ds vs:=by
  cases b
  · obtain ⟨o,vs,e,r⟩:=h;exact ⟨vs,.inl (.inr ⟨o,e⟩),r⟩
  · obtain ⟨vs,e,r⟩:=h;exact ⟨vs,eV.of e,r⟩
theorem yy.kp {H H':Hp} {a:Addr} {ds:List PyData} {b:Bool} (h:yy H a ds b) (k:Kp H H'):yy H' a ds b:=by
  cases b
  · obtain ⟨o,vs,e,r⟩:=h;exact ⟨o,vs,k.2 _ _ _ e,bd.kp k _ _ r⟩
  · obtain ⟨vs,e,r⟩:=h;exact ⟨vs,k.1 _ _ e,bd.kp k _ _ r⟩
section
variable {X:Cx} {elts:List Expr} {x1:Nat} {tp:Pos} {a b:Expr} {fa fb:Fe} {pos p:Pos} {nl:Nat} {G:List Str} {fs:aD->R (List PyData)}
theorem yM {H:Hp} {d:PyData} {v:V} {ds:List PyData} (h:Rp H d v) (e:jy d=.ok ds):∃ a b,v=.ref a/\yy H a ds b:=by
  cases d with
  | list xs =>
    cases e;simp only [Rp] at h;obtain ⟨a,o,vs,rfl,h,r⟩:=h;exact ⟨a,false,rfl,o,vs,h,r⟩
  | tuple xs =>
    cases e;simp only [Rp] at h;obtain ⟨a,vs,rfl,h,r⟩:=h;exact ⟨a,true,rfl,vs,h,r⟩
  | _=>cases e
end
noncomputable def k6 (i j:Nat):PyData->aD->Option aD
  | .tuple [x,y],ρ=>some ((ρ.set i (.val x)).set j (.val y))
  | _,_=>none
section
variable {X:Cx} {nl:Nat} {G:List Str} {x y:Str} {k:Nat} {p1 p2 pos:Pos}
theorem sQ (T:Tb X nl G) (i j:Nat) (hi:(X.N.take nl)[i]?=some x) (hj:(X.N.take nl)[j]?=some y):Z.rA X (.Tuple [.Name x p1,.Name y p2] k pos) (k6 i j):=⟨by
  obtain ⟨i1,i2,i3⟩:=T.nm hi;obtain ⟨j1,j2,j3⟩:=T.nm hj;refine PG.imp (zb T.calm (oR (mn T.nd i1 i2 i3) (oR (mn T.nd j1 j2 j3) xm))) fun v σ H Q ⟨ρ,d,sl,p,q⟩=>?_
  unfold k6 at q;split at q
  · rename_i e;split at e
    · rename_i ρ0 dx dy;cases e;simp only [Rp] at p;obtain ⟨a,vs,rfl,ha,r⟩:=p;obtain ⟨u,r1,rfl,pu,r⟩:=r.cons_inv;obtain ⟨w,r2,rfl,pw,r⟩:=r.cons_inv;rw [r.nil_inv] at ha;refine ⟨a,[u,w],rfl,eV.of ha,rfl,u,[w],rfl,w,[],rfl,rfl,?_⟩;refine q _ (Sl.set (c:=.val dy) (o:=some w) (Sl.set (c:=.val dx) (o:=some u) sl i ⟨u,rfl,pu⟩) j ⟨w,rfl,pw⟩) fun n e h=>?_
      obtain ⟨n1,h⟩:=ce (fun e z=>by cases z) h;obtain ⟨n2,h⟩:=ce (fun e z=>by cases z) h;exact ⟨h,by rw [List.getElem?_set,if_neg n1,List.getElem?_set,if_neg n2]⟩
    · cases e
  · exact q.elim⟩
end
open AutoSeq1 (wpAny_loadPart')
noncomputable abbrev ix (h:Heap) (e i:Addr) (k:Int) (f0 old:Value):Prop:=h.get? e=some { cls:=.type "enumerate",dict:=none,data:=.fields #[f0,.bool false,.ref i,rawInt k,.none,old],slots:=#[] }
section
variable {prog:Program} {w:World} {A:Around} {E:Value->Shared->Prop} {s:Shared} {e i l:Addr} {k:Nat} {xs:Array Value}
theorem tf {x old:Value} {Q:Value->Shared->Prop} (he:ix s.heap e i k .none old) (it:ny s.heap i l k xs) (hli:l≠i) (hle:l≠e) (hei:e≠i) (hx:xs[k]?=some x)
    (hQ:∀ h' old',ix h' e i ((k:Int)+1) (rawInt s.heap.objs.size) old'->ny h' i l (k+1) xs->IsPair h' s.heap.objs.size (.int k s.toks) x->(∀ c o,c≠e->c≠i->s.heap.get? c=some o->h'.get? c=some o)->Q (.ref s.heap.objs.size) { s with heap:=h',toks:=s.toks+1 }) :
    wpAny (model prog w) A (Builtin.«enumerate.__next__» ⟨[.ref e],[]⟩) (fun fin s'=>∃ v,fin=.done (.ret v)/\Q v s') E s:=by
  obtain ⟨hp,g,d,tk,os⟩:=s;show wpAny _ _ (field (Value.ref e) 2>>=_) _ _ _;refine wpAny_bind (wpAny_field he rfl (x:=Value.ref i) rfl ?_);refine wpAny_bind (AK it hli hx fun g1 i1 s1=>?_);replace s1:Heap.SameBut i hp g1:=s1;have e1:ix g1 e i k .none old:=(s1.2 e hei).trans he;show wpAny _ _ (field (Value.ref e) 3>>=_) _ _ (Shared.mk g1 g d tk os);refine wpAny_bind (wpAny_field e1 rfl (x:=rawInt (k:Int)) rfl ?_);show wpAny _ _ (field (Value.ref e) 4>>=_) _ _ (Shared.mk g1 g d tk os);refine wpAny_bind (wpAny_field e1 rfl (x:=Value.none) rfl ?_);show wpAny _ _ (mkInt (k:Int)>>=_) _ _ (Shared.mk g1 g d tk os);refine wpAny_bind (wpAny_mkInt ?_);show wpAny _ _ (setField (Value.ref e) 3 (rawInt ((k:Int)+1))>>=_) _ _ (Shared.mk g1 g d (tk+1) os);refine wpAny_bind (wpAny_setField_rec e1 (by simp) fun g2 e2 s2=>?_);replace s2:Heap.SameBut e g1 g2:=s2;replace e2:ix g2 e i ((k:Int)+1) .none old:=e2;show wpAny _ _ (setField (Value.ref e) 4 Value.none>>=_) _ _ (Shared.mk g2 g d (tk+1) os);refine wpAny_bind (wpAny_setField_rec e2 (by simp) fun g3 e3 s3=>?_);replace s3:Heap.SameBut e g2 g3:=s3;replace e3:ix g3 e i ((k:Int)+1) .none old:=e3;show wpAny _ _ (newTuple [Value.int k tk,x]>>=_) _ _ (Shared.mk g3 g d (tk+1) os);refine wpAny_bind (wpAny_newTuple ?_);have hsz:g3.objs.size=hp.objs.size:=by rw [s3.1,s2.1,s1.1]
  have elt:e < g3.objs.size:=Heap.lt_size e3;have e4:ix (g3.push { cls:=.type "tuple",data:=.seq #[.int k tk,x] }) e i ((k:Int)+1) .none old:=Heap.get?_push_of_some _ e3;have t4:IsPair (g3.push { cls:=.type "tuple",data:=.seq #[.int k tk,x] }) g3.objs.size (.int k tk) x:=Heap.get?_push_size _ rfl;have i3:ny g3 i l (k+1) xs:=i1.keep (fun o q=>s3.extBut _ _ hei.symm (s2.extBut _ _ hei.symm q)) fun o q=>s3.extBut _ _ hle (s2.extBut _ _ hle q)
  have k3:∀ c o,c≠e->c≠i->hp.get? c=some o->g3.get? c=some o:=fun c o c1 c2 q=>s3.extBut _ _ c1 (s2.extBut _ _ c1 (s1.extBut _ _ c2 q))
  show wpAny _ _ (Builtin.SmallTypes.ownedTupleIsFree (Value.ref e)>>=_) _ _ (Shared.mk (g3.push { cls:=.type "tuple",data:=.seq #[.int k tk,x] }) g d (tk+1) os);refine wpAny_bind ?_;unfold Builtin.SmallTypes.ownedTupleIsFree;refine wpAny_bind (wpAny_field e4 rfl (x:=Value.none) rfl (wpAny_pure ?_));simp only [if_true];refine wpAny_bind (wpAny_rule ?_);refine wpAny_bind (wpAny_field e4 rfl (x:=old) rfl ?_);refine wpAny_bind (wpAny_setField_rec e4 (by simp) fun g5 e5 s5=>?_);replace s5:Heap.SameBut e (g3.push { cls:=.type "tuple",data:=.seq #[.int k tk,x] }) g5:=s5;replace e5:ix g5 e i ((k:Int)+1) .none x:=e5;show wpAny _ _ (Builtin.SmallTypes.ownedTupleHandOut (Value.ref e) (Value.ref g3.objs.size)>>=_) _ _ (Shared.mk g5 g d (tk+1) os);refine wpAny_bind ?_;unfold Builtin.SmallTypes.ownedTupleHandOut;refine wpAny_bind (wpAny_setField_rec e5 (by simp) fun g6 e6 s6=>?_);replace s6:Heap.SameBut e g5 g6:=s6;replace e6:ix g6 e i ((k:Int)+1) (rawInt g3.objs.size) x:=e6;refine wpAny_setField_rec e6 (by simp) fun g7 e7 s7=>?_
  replace s7:Heap.SameBut e g6 g7:=s7;replace e7:ix g7 e i ((k:Int)+1) (rawInt g3.objs.size) x:=e7;have up:∀ c o,c≠e->g3.get? c=some o->g7.get? c=some o:=fun c o c1 q=>s7.extBut _ _ c1 (s6.extBut _ _ c1 (s5.extBut _ _ c1 (Heap.get?_push_of_some _ q)))
  have t7:IsPair g7 g3.objs.size (.int k tk) x:=s7.extBut _ _ (Nat.ne_of_gt elt) (s6.extBut _ _ (Nat.ne_of_gt elt) (s5.extBut _ _ (Nat.ne_of_gt elt) t4));rw [hsz] at e7 t7;refine wpAny_bind (wpAny_letGo (wpAny_pure ⟨_,rfl,?_⟩));show Q (.ref g3.objs.size) _;rw [hsz];exact hQ g7 x e7 (i3.keep (fun o q=>up _ _ hei.symm q) fun o q=>up _ _ hle q) t7 fun c o c1 c2 q=>up c o c1 (k3 c o c1 c2 q)
theorem sE {x old:Value} {Q:Option Value->Shared->Prop} (he:ix s.heap e i k .none old) (it:ny s.heap i l k xs) (hli:l≠i) (hle:l≠e) (hei:e≠i) (hx:xs[k]?=some x)
    (hQ:∀ h' old',ix h' e i ((k:Int)+1) (rawInt s.heap.objs.size) old'->ny h' i l (k+1) xs->IsPair h' s.heap.objs.size (.int k s.toks) x->(∀ c o,c≠e->c≠i->s.heap.get? c=some o->h'.get? c=some o)->Q (some (.ref s.heap.objs.size)) { s with heap:=h',toks:=s.toks+1 }) :
    wpAny (model prog w) A (pyNext (.ref e)) Q E s:=by
  have hT:s.TypeIs (.ref e) "enumerate" := ⟨_,he,rfl⟩
  unfold pyNext;exact wpAny_bind (wpAny_attempt (wpAny_callSpecial?_slot (name:=Str.ofString "__next__") hT F.slot_enumerate_next (wpAny_call_entry F.slot_enumerate_next hT F.entry_enumerate_next (tf he it hli hle hei hx fun h' o a b c d=>wpAny_pure (hQ h' o a b c d)) (F.args_enumerate_next_1 _))))
theorem uE {old:Value} {Q:Option Value->Shared->Prop} (hh:A.handled=none) (he:ix s.heap e i k .none old) (it:ny s.heap i l k xs) (hx:xs[k]?=none) (hQ:∀ h',(∀ c o,c≠i->s.heap.get? c=some o->h'.get? c=some o)->Q none { s with heap:=h' }) :
    wpAny (model prog w) A (pyNext (.ref e)) Q E s:=by
  have hT:s.TypeIs (.ref e) "enumerate" := ⟨_,he,rfl⟩
  unfold pyNext;refine wpAny_bind (wpAny_attempt (wpAny_callSpecial?_slot (name:=Str.ofString "__next__") hT F.slot_enumerate_next (wpAny_call_entry F.slot_enumerate_next hT F.entry_enumerate_next ?_ (F.args_enumerate_next_1 _))));show wpAny _ _ (field (Value.ref e) 2>>=_) _ _ _;refine wpAny_bind (wpAny_field he rfl (x:=Value.ref i) rfl ?_);refine wpAny_bind (rZ hh it hx fun h' x k1 ⟨o,ho,hc⟩=>?_);exact wpAny_bind (wpAny_isInstance (T := "StopIteration") (b:=true) ⟨o,ho,hc⟩ isSubtype_stop (wpAny_pure (hQ _ fun c o c1 q=>k1 c o c1 q)))
theorem tD (l:Addr) (xs:Array Value):Meets (Builtin.«enumerate.__new__» ⟨[.type "enumerate",.ref l],[]⟩) (fun _ R s=>zE s.heap l xs /\
    ∀ h',ix h' (s.heap.objs.size+1) s.heap.objs.size 0 .none .none->ny h' s.heap.objs.size l 0 xs->(∀ c o,s.heap.get? c=some o->h'.get? c=some o)->R (.ok (.ret (.ref (s.heap.objs.size+1)))) { s with heap:=h' }) :=
  .of_wp fun prog w A R s h=>by
    obtain ⟨hp,g,d,tk,os⟩:=s;obtain ⟨h1,h⟩:=h;have hsub:=sub_enumerate;have fin:∀ oi:Obj,ny (hp.push oi) hp.objs.size l 0 xs->R (.ok (.ret (.ref (hp.push oi).objs.size))) ⟨(hp.push oi).push { cls:=.type "enumerate",data:=.fields #[.none,.bool false,.ref hp.objs.size,rawInt 0,.none,.none] },g,d,tk,os⟩:=fun oi hi=>by
      have e1:(hp.push oi).objs.size=hp.objs.size+1:=Heap.size_push ..;rw [e1];refine h _ ?_ (hi.keep (fun o q=>Heap.get?_push_of_some _ q) fun o q=>Heap.get?_push_of_some _ q) fun c o q=>Heap.get?_push_of_some _ (Heap.get?_push_of_some _ q)
      show Heap.get? _ (hp.objs.size+1)=_;rw [<- e1];exact Heap.get?_push_size _ rfl
    rcases h1 with h1 | h1
    · have l1:Heap.IsList (Shared.heap ⟨hp,g,d,tk,os⟩) l xs:=h1;obtain ⟨o,ho,_,_,_⟩:=id h1;have ho':(Shared.heap ⟨hp,g,d,tk,os⟩).get? l=some o:=ho
      wp_walk using wpAny_loadPart' ho'
      refine wpAny_stack_any fun st=>wpAny_pure ?_
      split
      · rename_i c _ _ _ _ _;cases (c==Value.type "enumerate")
        · wp_walk using wpAny_loadPart' ho',wpAny_pyIter_list l1
          exact ⟨_,rfl,fin _ (.inl ⟨⟨_,Heap.get?_push_size _ rfl,rfl,rfl⟩,Heap.IsList.push h1 _⟩)⟩
        · wp_walk using wpAny_loadPart' ho',wpAny_pyIter_list l1
          exact ⟨_,rfl,fin _ (.inl ⟨⟨_,Heap.get?_push_size _ rfl,rfl,rfl⟩,Heap.IsList.push h1 _⟩)⟩
      · wp_walk using wpAny_loadPart' ho',wpAny_pyIter_list l1
        exact ⟨_,rfl,fin _ (.inl ⟨⟨_,Heap.get?_push_size _ rfl,rfl,rfl⟩,Heap.IsList.push h1 _⟩)⟩
    · have l1:Heap.IsTuple (Shared.heap ⟨hp,g,d,tk,os⟩) l xs:=h1;obtain ⟨o,ho,_,_,_⟩:=id h1;have ho':(Shared.heap ⟨hp,g,d,tk,os⟩).get? l=some o:=ho
      wp_walk using wpAny_loadPart' ho'
      refine wpAny_stack_any fun st=>wpAny_pure ?_
      split
      · rename_i c _ _ _ _ _;cases (c==Value.type "enumerate")
        · wp_walk using wpAny_loadPart' ho',wpAny_pyIter_tuple l1
          exact ⟨_,rfl,fin _ (.inr ⟨⟨_,Heap.get?_push_size _ rfl,rfl,rfl⟩,Heap.IsTuple.push h1 _⟩)⟩
        · wp_walk using wpAny_loadPart' ho',wpAny_pyIter_tuple l1
          exact ⟨_,rfl,fin _ (.inr ⟨⟨_,Heap.get?_push_size _ rfl,rfl,rfl⟩,Heap.IsTuple.push h1 _⟩)⟩
      · wp_walk using wpAny_loadPart' ho',wpAny_pyIter_tuple l1
        exact ⟨_,rfl,fin _ (.inr ⟨⟨_,Heap.get?_push_size _ rfl,rfl,rfl⟩,Heap.IsTuple.push h1 _⟩)⟩
theorem sR {Q:Value->Shared->Prop} {l:Addr} (h1:zE s.heap l xs)
    (h:∀ h',ix h' (s.heap.objs.size+1) s.heap.objs.size 0 .none .none->ny h' s.heap.objs.size l 0 xs->(∀ c o,s.heap.get? c=some o->h'.get? c=some o)->Q (.ref (s.heap.objs.size+1)) { s with heap:=h' }) :
    wpAny (model prog w) A (call (.type "enumerate") [.ref l]) Q E s:=by
  refine callType_new F.called_enumerate (by decide) (F.typeCall_enumerate_1 _) (F.newCall_enumerate_1 _) (fun obj=>F.args_object_init_2 obj _) F.entry_enumerate_new (tD l xs) ⟨h1,fun h' e S k=>?_⟩;exact ⟨⟨_,e,rfl⟩,h h' e S k⟩
end
end D2
namespace D2
open PySem PySem.Spec PyProof.Rows L2
noncomputable def BX (K:PySem.W.Frag) (l:Addr) (b:Bool):It :=
  ⟨fun i H=>∃ xs x,wM K H l xs b/\xs[i]?=some x,fun i H v H'=>∃ a x,H a=none/\v=.ref a/\H'=cr H a (.tup [.int i,x])/\∀ xs,wM K H l xs b->xs[i]?=some x,fun i H=>∃ xs,wM K H l xs b/\xs.length<=i⟩
structure Ch (e i l:Addr) (b:Bool) (k:Nat) (h:Heap):Prop where
  ee:∃ old,ix h e i k .none old
  ii:iD h i l k b
theorem r8 {P:Program} {w:World} {K:PySem.W.Frag} {elts:List Expr} {x1} {pos:Pos} {e i l:Addr} {b:Bool} (hei:e≠i) (hle:l≠e) (hli:l≠i):qg P w K (.Tuple elts x1 pos) (BX K l b) [e,i] e (Ch e i l b) where
  mem:=by simp
  obj:=fun k h st a ha=>by
    simp only [List.mem_cons,List.not_mem_nil,or_false] at ha;rcases ha with rfl | rfl
    · obtain ⟨_,q⟩:=st.ee;exact ⟨_,q,fun v e=>by cases e⟩
    · exact st.ii.there
  keep:=fun k h h' st kp=>⟨let ⟨o,q⟩:=st.ee;⟨o,kp e (by simp) _ q⟩,st.ii.keep fun o q=>kp i (by simp) o q⟩
  item:=by
    intro X hP hw hK hc k pins s σ H E I hf st hg;subst hP hw hK;obtain ⟨xs,x,h1,hx⟩:=hg;obtain ⟨its,rv,_,p1⟩:=pr I h1;obtain ⟨u,hu,ru⟩:=rv.get hx;obtain ⟨old,he⟩:=st.ee;refine sE he (p1 _ _ st.ii) hli hle hei (x:=u) (by simpa using hu) fun h' old' e' i' hp kp=>⟨_,rfl,?_⟩
    have elt:e < s.heap.objs.size:=Heap.lt_size he;have hob:∀ a∈[e,i],a < s.heap.objs.size:=fun a ha=>by
      simp only [List.mem_cons,List.not_mem_nil,or_false] at ha;rcases ha with rfl | rfl
      · exact elt
      · obtain ⟨o,q,_⟩:=st.ii.there;exact Heap.lt_size q
    have hn:H s.heap.objs.size=none:=I.hok.fresh (Nat.le_refl _);refine wpAny_letOwnedTupleGo_enum (s:={ s with heap:=h',toks:=s.toks+1 }) e' fun h2' e2 sb=>?_
    have up:∀ a o,a≠e->h'.get? a=some o->h2'.get? a=some o:=fun a o ha q=>sb.extBut a o ha q
    refine ⟨.ref s.heap.objs.size,_,vS (s:=s) (t':=s.toks+1) (fp:=[e,i]) (h':=h2') (u1:=.int k s.toks) (u2:=u) (v1:=.int k) (v2:=x) I hf hob (up _ _ (Nat.ne_of_gt elt) hp) (fun a o ha q=>?_) ⟨_,rfl⟩ ru,rfl,⟨_,x,hn,rfl,rfl,fun zs hz=>by rw [pc I h1 hz];exact hx⟩,?_,fun a ha=>?_⟩
    · simp only [List.mem_cons,List.not_mem_nil,or_false,not_or] at ha;exact up a o ha.1 (kp a o ha.1 ha.2 q)
    · have i2:iD h' i l (k+1) b:=by
        refine i'.toB fun ys=>?_
        cases hb:b
        · subst hb;refine ⟨fun z=>(by cases z),fun _ w=>?_⟩;obtain ⟨_,_,pl,_⟩:=I.list h1;obtain ⟨o,q,r⟩:=pl.isList;exact gm (h:=h') (xs:=_) ⟨o,kp _ _ hle hli q,r⟩ w
        · subst hb;refine ⟨fun _ w=>?_,fun z=>by cases z⟩;obtain ⟨_,_,pl,_⟩:=I.tuple h1;obtain ⟨o,q,r⟩:=pl;exact gm (h:=h') w ⟨o,kp _ _ hle hli q,r⟩
      exact ⟨⟨_,by have q:ix h2' e i ((k:Int)+1) .none old':=e2;simpa using q⟩,i2.keep fun o q=>up _ _ hei.symm q⟩
    · rw [ay (Nat.ne_of_lt (hob a ha))];exact (hf a ha).1
  done:=by
    intro X hP hw hK hc k pins s σ H E I hf st hg;subst hP hw hK;obtain ⟨xs,h1,hl⟩:=hg;obtain ⟨its,rv,_,p1⟩:=pr I h1;obtain ⟨old,he⟩:=st.ee;have e1:=rv.length;refine uE (I.ok.hd hc) he (p1 _ _ st.ii) (by simp;omega) fun h' kp=>⟨rfl,jM (t':=s.toks) (fp:=[e,i]) I (fun a o ha q=>?_) hf⟩
    simp only [List.mem_cons,List.not_mem_nil,or_false,not_or] at ha;exact kp a o ha.2 q
  self:=fun _ _ _ _ _ st h=>let ⟨_,q⟩:=st.ee;wpAny_pyIter_enum q h
noncomputable def fM:Nat->List PyData->List PyData
  | _,[]=>[]
  | k,d::ds=>.tuple [.int k,d]::fM (k+1) ds
theorem jA:∀ (k:Nat) (ds:List PyData),(fM k ds).length=ds.length
  | _,[]=>rfl
  | k,d::ds=>by unfold fM;rw [List.length_cons,List.length_cons,jA]
theorem lU:∀ {k:Nat} {ds:List PyData} {i:Nat} {d:PyData},(fM k ds)[i]?=some d->∃ x,ds[i]?=some x/\d=.tuple [.int ((k+i:Nat):Int),x]
  | k,[],i,d,h=>by unfold fM at h;simp at h
  | k,x::ds,0,d,h=>by
    unfold fM at h;simp at h;exact ⟨x,rfl,by rw [<- h];simp⟩
  | k,x::ds,i+1,d,h=>by
    unfold fM at h;rw [List.getElem?_cons_succ] at h;obtain ⟨y,h1,h2⟩:=lU h;refine ⟨y,by simpa using h1,?_⟩;rw [h2];have:k+1+i=k+(i+1):=by omega
    rw [this]
theorem um {K:PySem.W.Frag} {l:Addr} {b:Bool} {xs:List PyData}:vQ (BX K l b) (fun H=>yy H l xs b) (fM 0 xs) where
  go:=fun i H h1 hi=>by
    rw [jA] at hi;obtain ⟨vs,s1,r1⟩:=h1.sq (K:=K);obtain ⟨x,hx,_⟩:=r1.get (List.getElem?_eq_getElem hi);exact ⟨vs,x,s1,hx⟩
  yld:=fun i H v H' d h1 hd h=>by
    obtain ⟨a,x,ha,rfl,rfl,k1⟩:=h;obtain ⟨vs,s1,r1⟩:=h1.sq (K:=K);obtain ⟨dx,e1,rfl⟩:=lU hd;obtain ⟨x',hx,px⟩:=r1.get e1;have q1:=k1 vs s1;rw [hx] at q1;cases q1;refine ⟨bT ha _,dG ha (bd.cons ?_ (bd.cons px bd.nil))⟩;rw [Nat.zero_add];exact cy
  stop:=fun i H h1 hi=>by
    rw [jA] at hi;obtain ⟨vs,s1,r1⟩:=h1.sq (K:=K);have l1:=r1.length;exact ⟨vs,s1,by omega⟩
section
variable {X:Cx} {elts:List Expr} {x1:Nat} {tp:Pos} {a b:Expr} {fa fb:Fe} {pos p:Pos} {nl:Nat} {G:List Str} {fs:aD->R (List PyData)}
noncomputable def Cj (K:PySem.W.Frag) (ta:TA):TI:=fun σ H R=>ta σ H fun vs H1=>∃ l xs b,vs=[.ref l]/\wM K H1 l xs b/\R (BX K l b) H1
theorem wU {ta:TA} (hg:Gl X "enumerate") (hm:X.mg "enumerate" = none) (ha:PA X [a] ta) (hs:starEach [a] X.env=[(false,eval a X.env)]):PI X (.Tuple elts x1 tp) (.Call (.Name "enumerate" p) [a] [] pos) (Cj X.K ta):=by
  intro pins s σ H R I h;refine Call_ (k8 I hg hm boot_enumerate (PyProof.Rows.callWith_type1 (cS (ha pos pins s σ H _ I h) fun us s1 ⟨vs,H1,I1,r1,q1⟩=>?_) hs rfl));obtain ⟨l,xs,b,e,h1,q⟩:=q1;subst e;obtain ⟨u,rfl,ru⟩:=e8 r1;cases ru;obtain ⟨its,w1,p1,g1⟩:=pr I1 h1;have ll:l < s1.heap.objs.size:=by rcases p1 with ⟨o,e,_⟩ | ⟨o,e,_⟩ <;> exact Heap.lt_size e
  refine sR p1 fun h' hz S kp=>wpAny_pyIter_enum hz ?_
  have I2:az X pins σ H1 { s1 with heap:=h' }:=I1.kept (t':=s1.toks) kp;have i2:iD h' s1.heap.objs.size l 0 b:=S.toB (vC I1 h1 kp);refine ⟨_,[s1.heap.objs.size+1,s1.heap.objs.size],_,_,H1,rfl,I2,r8 (b:=b) (Nat.ne_of_gt (Nat.lt_succ_self _)) (Nat.ne_of_lt (Nat.lt_succ_of_lt ll)) (Nat.ne_of_lt ll),⟨⟨_,hz⟩,i2⟩,fun a ha=>?_,q⟩;have hle:s1.heap.objs.size<=a:=by
    simp only [List.mem_cons,List.not_mem_nil,or_false] at ha;rcases ha with rfl | rfl
    · exact Nat.le_add_right _ 1
    · exact Nat.le_refl _
  exact I1.fpOk hle (I1.hok.fresh hle)
noncomputable def om (fa:Fe):aD->R (List PyData):=fun ρ=>fa ρ>>=fun x=>jy x>>=fun xs=>.ok (fM 0 xs)
theorem sI (T:Tb X nl G) (j:Nat) (hG:G[j]?=some ("enumerate" : Str)) (hm:X.mg "enumerate" = none) (ha:Z.cJ X a fa) (h1:aV a=true:=by rfl):Z.pd X (.Tuple elts x1 tp) (.Call (.Name "enumerate" p) [a] [] pos) (om fa):=⟨have ha:=ha.un;by
  have g:=T.gl _ (List.mem_of_getElem? hG);refine PI.imp (wU g.1 hm (j6 ha mM h1) (by rw [bI h1];rfl)) fun σ H Rk h=>?_
  obtain ⟨ρ,sl,q⟩:=h;unfold om at q;refine ⟨ρ,sl,?_⟩;unfold ag aC;cases e1:fa ρ with
  | ex c=>rw [e1] at q;exact q
  | no=>rw [e1] at q;exact q
  | ok x =>
    rw [e1] at q;simp only [R.ok_bind] at q ⊢;cases e3:jy x with
    | ex c=>exact absurd e3 (by cases x <;> simp [jy])
    | no=>rw [e3] at q;exact q.elim
    | ok xs =>
      rw [e3] at q;simp only [R.ok_bind] at q;intro vs H1 s1 ra;simp only [RA] at ra;obtain ⟨v,r',rfl,p1,rfl⟩:=ra;obtain ⟨l,b1,rfl,d1⟩:=yM p1 e3;obtain ⟨us,u1,_⟩:=d1.sq (K:=X.K);exact ⟨l,us,b1,rfl,u1,q _ H1 s1 ⟨_,um,fun H2 k _=>d1.kp k⟩⟩⟩
end
section
variable {X:Cx} {nl:Nat} {G:List Str} {x:Str} {e:Expr} {f:Fe} {q1 q2 q3 q4:Pos}
theorem o6 (T:Tb X nl G) (n:Nat) (hN:X.N[n]?=some x) (he:Z.cJ X e f) (hst:aV e=true:=by rfl) (hline:(q2.endLine==q3.line)=true:=by rfl) (hs:swapsWith (.Call (.Attribute (.Name x q1) "append" q2) [e] [] q3) none q4.line X.env=pure false:=by rfl) (hbase:attributeBase (.Name x q1) "append" X.env (eval (.Name x q1) X.env)=eval (.Name x q1) X.env:=by rfl):Z.jT X (.Expr (.Call (.Attribute (.Name x q1) "append" q2) [e] [] q3) q4) (ij n f):=⟨have he:=he.un;fun Fm=>by
  have hm:=T.vis x (List.mem_of_getElem? hN);have sc:starEach [e] X.env=(false,eval e X.env)::starEach [] X.env:=bI hst;refine PS.imp (we (xV PySem.F.plainAttrs_list PySem.F.slot_list_append PySem.F.type_list_append lL (gP hN hm.1 hm.2.1 hm.2.2) (j6 he mM hst) hbase (by rw [sc];rfl) hline sc rfl) hs) fun D σ H h=>?_
  obtain ⟨ρ,sl,q⟩:=h;unfold ij at q;cases ef:f ρ with
  | ex c=>rw [ef] at q;exact q.elim
  | no=>rw [ef] at q;exact q.elim
  | ok d =>
    rw [ef] at q;simp only [lb,R.ok_bind] at q;cases er:ρ[n]? with
    | none=>rw [er] at q;exact q.elim
    | some c =>
      rw [er] at q;cases c with
      | non=>exact q.elim
      | exc p=>exact q.elim
      | val d'=>exact q.elim
      | own d' =>
        cases d' with
        | list ds =>
          dsimp only at q;by_cases hz:ds.length < sizeLine
          · rw [if_pos hz] at q;obtain ⟨o,h2,w',rfl,p2⟩:=sl.sl.at er;simp only [gF] at p2;obtain ⟨a',vs,rfl,ha,r⟩:=p2;refine ⟨.ref a',h2,.inl ⟨rfl,_,jr.of ha⟩,ρ,sl.sl,?_⟩;unfold ag aC;rw [ef];intro us H1 s1 ra;simp only [RA] at ra;obtain ⟨v,r',rfl,p1,rfl⟩:=ra;have ha1:=s1 _ _ ha;refine ⟨a',vs,v,rfl,rfl,ha1,by rw [r.length];exact hz,q _ _ ((sl.mono s1).change er h2 ha1 (.inl ⟨_,rfl⟩) ?_)⟩;simp only [gF];exact ⟨a',_,rfl,bc,bd.kp (eR ha1 (.inl ⟨_,rfl⟩)) _ _ (bd.append (r.mono s1) (bd.cons p1 bd.nil))⟩
          · rw [if_neg hz] at q;exact q.elim
        | _=>exact q.elim⟩
end
noncomputable def fX (g:Fs):Fs:=fun ρ=>lb (g ρ)
theorem Tb.nox {X:Cx} {nl:Nat} {G:List Str} (T:Tb X nl G):Tb X.nox nl G:=⟨T.hu,T.calm,T.nd,T.vis,T.loc,T.gl⟩
section
variable {X:Cx} {nl:Nat} {G:List Str} {st:Stmt} {g:Fs} {pos:Pos}
theorem cz (h:Z.jT X.nox st g):Z.jT X st (fX g):=⟨have h:=h.un;fun Fm=>by
  intro pins s σ H D I ⟨ρ,sl,q⟩;refine wpAny_mono (h Fm pins s σ H D (I.wish _) ⟨ρ,sl,?_⟩) (fun _ _ q=>q.unwish) fun _ _ z=>False.elim z
  unfold fX at q;cases e:g ρ with
  | ok o =>
    rw [e] at q;cases o <;> exact q
  | ex c=>rw [e] at q;exact q.elim
  | no=>rw [e] at q;exact q.elim⟩
noncomputable def cx (t:aD->R Bool) (g:Fs):Nat->Fs
  | 0,_=>.no
  | n+1,ρ=>t ρ>>=fun b=>if b=true then g ρ>>=fun o=>(match o with
      | .nx ρ2=>cx t g n ρ2
      | .ct ρ2=>cx t g n ρ2
      | .bk ρ2=>.ok (.nx ρ2)
      | .rt r=>.ok (.rt r)) else .ok (.nx ρ)
noncomputable def mi (n:Nat) (t:aD->R Bool) (g:Fs):Fs:=cx t g n
theorem k9 {c:Expr} {body:List Stmt} {t:aD->R Bool} (n:Nat) (hp:PassesOwn (model X.prog X.w) X.A X.env X.xe) (ht:Z.jY X c t) (hb:Z.jC X body g):Z.jT X (.While c body [] pos) (mi n t g):=⟨have ht:=ht.un;have hb:=hb.un;fun Fm=>by
  refine PS.imp (u4 hp ht (hb Fm)) fun D σ H ⟨ρ,sl,q⟩=>⟨fun m σ' H'=>∃ ρ',gC Fm H' σ' ρ'/\wm X Fm (cx t g m ρ') D,⟨n,ρ,sl,q⟩,fun m σ1 H1 ⟨ρ1,sl1,q1⟩=>?_⟩
  cases m with
  | zero=>exact q1.elim
  | succ k =>
    have q2:xP X Fm (fun ρ=>t ρ>>=fun b=>if b=true then g ρ>>=fun o=>(match o with
      | .nx ρ2=>cx t g k ρ2
      | .ct ρ2=>cx t g k ρ2
      | .bk ρ2=>.ok (.nx ρ2)
      | .rt r=>.ok (.rt r)) else .ok (.nx ρ)) D σ1 H1:=⟨ρ1,sl1,q1⟩
    refine (qN (f:=t) (k:=fun ρ b=>if b=true then g ρ>>=fun o=>(match o with
      | .nx ρ2=>cx t g k ρ2
      | .ct ρ2=>cx t g k ρ2
      | .bk ρ2=>.ok (.nx ρ2)
      | .rt r=>.ok (.rt r)) else .ok (.nx ρ)) q2).post fun b H2 ⟨ρ2,sl2,_,q3⟩=>?_
    cases b with
    | false=>exact q3 σ1 H2 sl2
    | true =>
      have q4:wm X Fm (g ρ2>>=fun o=>(match o with
      | .nx ρ2=>cx t g k ρ2
      | .ct ρ2=>cx t g k ρ2
      | .bk ρ2=>.ok (.nx ρ2)
      | .rt r=>.ok (.rt r))) D:=q3
      show if true=true then _ else _
      rw [if_pos rfl];refine ⟨fun σ' H'=>∃ ρ',gC Fm H' σ' ρ'/\wm X Fm (cx t g k ρ') D,fun σ' H' z=>⟨k,Nat.lt_succ_self k,z⟩,ρ2,sl2,?_⟩;cases eg:g ρ2 with
      | ex c=>rw [eg] at q4;exact q4
      | no=>rw [eg] at q4;exact q4
      | ok o =>
        rw [eg] at q4;cases o with
        | nx ρ4=>exact fun σ' H' s'=>⟨ρ4,s',q4⟩
        | ct ρ4=>exact fun σ' H' s'=>⟨ρ4,s',q4⟩
        | bk ρ4=>exact q4
        | rt r=>exact q4⟩
end
noncomputable def Xh (X:Cx) (p:Addr) (ob:Obj):Cx:={ X with A:=X.A.mark (some (.ref p)),calm:=false,xe:=fun _ _=>False,pn:=(p,ob)::X.pn }
structure Co (X:Cx) (nl:Nat) (G:List Str):Prop where
  hu:X.A.units+64 < cLine
  nd:X.N.Nodup
  vis:∀ x∈X.N,zQ X.env.scope x/\(x==("__debug__" : Str))=false/\(x==("__classdict__" : Str))=false
  loc:∀ x∈X.N.take nl,zK X.env.scope x/\(X.fn x=true\/X.env.scope.names.lookup x=some .local)
  gl:∀ x∈G,Gl X x/\(x==("__debug__" : Str))=false/\x≠("__name__" : Str)
theorem Tb.h {X:Cx} {nl:Nat} {G:List Str} (T:Tb X nl G) (p:Addr) (ob:Obj):Co (Xh X p ob) nl G:=⟨T.hu,T.nd,T.vis,T.loc,T.gl⟩
noncomputable def i5 (p:Int->Int->Bool) (n:Int) (ns:List Int):Int:=ns.foldl (fun a b=>if p b a=true then b else a) n
theorem iP {p:Int->Int->Bool} {le:Int->Int->Prop} (h1:∀ a b,p b a=true->le b a) (h2:∀ a b,¬ p b a=true->le a b) (tr:∀ a b c,le a b->le b c->le a c) (rf:∀ a,le a a):∀ (ns:List Int) (n:Int),i5 p n ns∈n::ns/\∀ a∈n::ns,le (i5 p n ns) a
  | [],n=>⟨by simp [i5],fun a ha=>by simp at ha;subst ha;exact rf _⟩
  | m::ns,n=>by
    obtain ⟨g1,g2⟩:=iP h1 h2 tr rf ns (if p m n=true then m else n);have e:i5 p n (m::ns)=i5 p (if p m n=true then m else n) ns:=rfl;rw [e];refine ⟨?_,fun a ha=>?_⟩
    · rcases List.mem_cons.mp g1 with z | z
      · rw [z];split <;> simp
      · exact List.mem_cons_of_mem _ (List.mem_cons_of_mem _ z)
    · have k:=g2 _ List.mem_cons_self;rcases List.mem_cons.mp ha with rfl | ha
      · refine tr _ _ _ k ?_;split
        · rename_i z;exact h1 _ _ z
        · exact rf _
      · rcases List.mem_cons.mp ha with rfl | ha
        · refine tr _ _ _ k ?_;split
          · exact rf _
          · rename_i z;exact h2 _ _ z
        · exact g2 a (List.mem_cons_of_mem _ ha)
noncomputable def o8 (n:Int) (ns:List Int):Int:=i5 (fun b a=>decide (b < a)) n ns
noncomputable def lm (n:Int) (ns:List Int):Int:=i5 (fun b a=>decide (a < b)) n ns
theorem ju (n:Int) (ns:List Int):o8 n ns∈n::ns/\∀ a∈n::ns,o8 n ns<=a :=
  iP (le:=(·<=·)) (fun a b h=>by simp at h;omega) (fun a b h=>by simp at h;omega) (fun a b c=>Int.le_trans) Int.le_refl ns n
theorem ie (n:Int) (ns:List Int):lm n ns∈n::ns/\∀ a∈n::ns,a<=lm n ns :=
  iP (le:=fun a b=>b<=a) (fun a b h=>by simp at h;omega) (fun a b h=>by simp at h;omega) (fun a b c h1 h2=>Int.le_trans h2 h1) Int.le_refl ns n
section
variable {X:Cx} {a b c:Expr} {fa fb fc:Fe} {pos p2:Pos} {nl:Nat} {G:List Str} {x:Str} {p:Pos}
theorem iJ:∀ {its:List Value} {ns:List Int},IntsAre its ns->∃ ys:List (Int×Tok),its=ys.map (fun p=>Value.int p.1 p.2)/\ys.map (·.1)=ns
  | _,_,.nil=>⟨[],rfl,rfl⟩
  | _,_,.cons n t h=>by
    obtain ⟨ys,e1,e2⟩:=iJ h;exact ⟨(n,t)::ys,by rw [List.map_cons,e1],by rw [List.map_cons,e2]⟩
theorem zR (hc:X.calm=true):cL X (.builtin "min") (fun xs H Q=>∃ p n ns,xs=[.ref p]/\jr X.K H p ((n::ns).map V.int)/\Q (.int (o8 n ns)) H):=by
  intro pins s σ H xs us Q I r h;obtain ⟨p,n,ns,rfl,hq,q⟩:=h;obtain ⟨u,rfl,rx⟩:=e8 r;cases rx;obtain ⟨its,rv,pl,hz⟩:=I.list hq;obtain ⟨ys,e1,e2⟩:=iJ (dl rv);have hl:s.heap.IsList p (intItems ys.toArray):=by
    have:intItems ys.toArray=its.toArray:=by rw [e1];simp [intItems]
    rw [this];exact pl.isList
  have hlen:ys.length=ns.length+1:=by have:=congrArg List.length e2;simpa using this
  refine min_intList (I.ok.hd hc) hl (by simp;omega) fun v h' tk hv hk=>?_
  obtain ⟨t,rfl⟩:=intItems_at hv;obtain ⟨g1,g2⟩:=argBest_lt (numAt ys.toArray) (ys.toArray.size-1);generalize argBest (fun i j=>decide (numAt ys.toArray i < numAt ys.toArray j)) (ys.toArray.size-1)=w at g1 g2 hv ⊢;have el:ys.toArray.toList.map (·.1)=n::ns:=e2;have m1:numAt ys.toArray w∈n::ns:=by
    rw [numAt_eq,el];refine getD_mem ?_;simp at g1 ⊢;omega
  obtain ⟨k1,k2⟩:=ju n ns;have e3:numAt ys.toArray w=o8 n ns:=by
    refine Int.le_antisymm ?_ (k2 _ m1);obtain ⟨j,hj,e⟩:=mem_getD k1;have:=g2 j (by simp at hj ⊢;omega);rw [numAt_eq ys.toArray j,el,e] at this;exact this
  rw [e3];exact ⟨.int _,H,I.kept hk,⟨_,rfl⟩,q⟩
theorem sY (hc:X.calm=true):cL X (.builtin "max") (fun xs H Q=>∃ p n ns,xs=[.ref p]/\jr X.K H p ((n::ns).map V.int)/\Q (.int (lm n ns)) H):=by
  intro pins s σ H xs us Q I r h;obtain ⟨p,n,ns,rfl,hq,q⟩:=h;obtain ⟨u,rfl,rx⟩:=e8 r;cases rx;obtain ⟨its,rv,pl,hz⟩:=I.list hq;obtain ⟨ys,e1,e2⟩:=iJ (dl rv);have hl:s.heap.IsList p (intItems ys.toArray):=by
    have:intItems ys.toArray=its.toArray:=by rw [e1];simp [intItems]
    rw [this];exact pl.isList
  have hlen:ys.length=ns.length+1:=by have:=congrArg List.length e2;simpa using this
  refine max_intList (I.ok.hd hc) hl (by simp;omega) fun v h' tk hv hk=>?_
  obtain ⟨t,rfl⟩:=intItems_at hv;obtain ⟨g1,g2⟩:=argBest_gt (numAt ys.toArray) (ys.toArray.size-1);generalize argBest (fun i j=>decide (numAt ys.toArray i > numAt ys.toArray j)) (ys.toArray.size-1)=w at g1 g2 hv ⊢;have el:ys.toArray.toList.map (·.1)=n::ns:=e2;have m1:numAt ys.toArray w∈n::ns:=by
    rw [numAt_eq,el];refine getD_mem ?_;simp at g1 ⊢;omega
  obtain ⟨k1,k2⟩:=ie n ns;have e3:numAt ys.toArray w=lm n ns:=by
    refine Int.le_antisymm (k2 _ m1) ?_;obtain ⟨j,hj,e⟩:=mem_getD k1;have:=g2 j (by simp at hj ⊢;omega);rw [numAt_eq ys.toArray j,el,e] at this;exact this
  rw [e3];exact ⟨.int _,H,I.kept hk,⟨_,rfl⟩,q⟩
noncomputable def B3:PyData->R PyData
  | .list ds=>match aN ds with
    | some (n::ns)=>.ok (.int (o8 n ns))
    | _=>.no
  | _=>.no
noncomputable def oG:PyData->R PyData
  | .list ds=>match aN ds with
    | some (n::ns)=>.ok (.int (lm n ns))
    | _=>.no
  | _=>.no
theorem sD (T:Tb X nl G) (j:Nat) (hG:G[j]?=some ("max" : Str)) (hm:X.mg "max" = none) (ha:Z.di X a fa) (he:aV a=true:=by rfl):Z.cJ X (.Call (.Name "max" p) [a] [] pos) (e1 oG fa):=⟨have ha:=ha.un;by
  refine uK T j hG hm fD PyProof.Rows.boot_max (sY T.calm) (fun H x d Q hx q=>?_) ha he;cases d with
  | list ds =>
    simp only [oG] at q;split at q
    · rename_i n ns ei;rw [cF ei] at hx;obtain ⟨a',vs,rfl,h,r⟩:=cH (K:=X.K) hx;rw [eJ r] at h;exact ⟨a',n,ns,rfl,h,q _ H (ar.refl _) cy⟩
    · exact q.elim
  | _=>exact q.elim⟩
end
section
variable {X:Cx} {a b:Expr} {fa fb:Fe} {pos p2:Pos}
noncomputable def B4:PyData->PyData->R PyData
  | .list xs,.int k=>if -(2 ^ 63)<=k/\k < 2 ^ 63/\xs.length*k.toNat<=sizeLine then .ok (.list (List.replicate k.toNat xs).flatten) else .no
  | _,_=>.no
end
theorem bd.set {H:Hp} {d:PyData} {v:V} (p:Rp H d v):∀ {ds:List PyData} {vs:List V} (j:Nat),bd H ds vs->bd H (ds.set j d) (vs.set j v)
  | [],vs,j,r=>by rw [r.nil_inv];exact bd.nil
  | d'::ds,vs,j,r=>by
    obtain ⟨v',r',rfl,p',t⟩:=r.cons_inv;cases j with
    | zero=>exact bd.cons p t
    | succ j=>exact bd.cons p' (bd.set p j t)
noncomputable def og (i:Nat) (fk fv:Fe):Fs:=fun ρ=>fv ρ>>=fun v=>lb (fk ρ)>>=fun k=>match ρ[i]?,k with
  | some (.own (.list ds)),.int n=>match qQ ds.length n with
    | some j=>.ok (.nx (ρ.set i (.own (.list (ds.set j v)))))
    | none=>.no
  | _,_=>.no
section
variable {X:Cx} {nl:Nat} {G:List Str} {x:Str} {f:Fe} {e:Expr}
theorem rX {k v:Expr} {fk fv:Fe} {q1 q2 q3:Pos} (T:Tb X nl G) (n:Nat) (hN:X.N[n]?=some x) (hk:Z.cJ X.nox k fk) (hv:Z.cJ X v fv) (hs:swapsWithSole [.Subscript (.Name x q1) k q2] v q3.line X.env=pure false:=by rfl) (hw:swappedStores [.Subscript (.Name x q1) k q2] v X.env=pure none:=by rfl) (h1:(assignEach [.Subscript (.Name x q1) k q2] X.env).map (·.2)=[assign (.Subscript (.Name x q1) k q2) X.env]:=by rfl) (ha:∀ v,assign (.Subscript (.Name x q1) k q2) X.env v=(do
      let ov <- holding [v] (eval (.Name x q1) X.env)
      let iv <- holding [v,ov] (eval k X.env)
      standAt q2
      holding [v,ov,iv] (setItem ov iv v)
      release [v,ov,iv] []):=by intro _;rfl):Z.jT X (.Assign [.Subscript (.Name x q1) k q2] v q3) (og n fk fv):=⟨have hk:=hk.un;have hv:=hv.un;fun Fm=>by
  have hm:=T.vis x (List.mem_of_getElem? hN);have hkX:PE X k (fun σ H Q=>iV X.nox iF fk σ H Q):=fun pins s σ H Q I h=>wpAny_mono (hk pins s σ H Q (I.wish _) h) (fun v s' ⟨y,H',I',r,q⟩=>⟨y,H',I'.unwish,r,q⟩) fun _ _ z=>False.elim z
  refine PS.imp (yj hv (zB (gP hN hm.1 hm.2.1 hm.2.2) hkX vt ha) hs hw h1) fun D σ H h=>?_
  refine (mq (P:=iF) (f:=fv) (k:=fun ρ v=>lb (fk ρ)>>=fun k=>match ρ[n]?,k with
    | some (.own (.list ds)),.int m=>match qQ ds.length m with
      | some j=>.ok (.nx (ρ.set n (.own (.list (ds.set j v)))))
      | none=>.no
    | _,_=>.no) h).post fun vv H1 ⟨ρ1,dv,sl1,_,p1,q1⟩=>?_
  cases ef:fk ρ1 with
  | ex c=>rw [ef] at q1;exact q1.elim
  | no=>rw [ef] at q1;exact q1.elim
  | ok kd =>
    rw [ef] at q1;simp only [lb,R.ok_bind] at q1;cases er:ρ1[n]? with
    | none=>rw [er] at q1;exact q1.elim
    | some c =>
      rw [er] at q1;cases c with
      | non=>exact q1.elim
      | exc p=>exact q1.elim
      | val d'=>exact q1.elim
      | own d' =>
        cases d' with
        | list ds =>
          cases kd with
          | int m =>
            dsimp only at q1;cases ei:qQ ds.length m with
            | none=>rw [ei] at q1;exact q1.elim
            | some j =>
              rw [ei] at q1;obtain ⟨o,h2,w',rfl,p2⟩:=sl1.sl.at er;simp only [gF] at p2;obtain ⟨a',vs,rfl,ha',r⟩:=p2;refine ⟨.ref a',h2,ρ1,sl1.sl,?_⟩;rw [ef];intro yv H3 s3 p3;have ev:yv=.int m:=by simpa only [Rp] using p3
              have ha3:=s3 _ _ ha';have r3:=r.mono s3;refine ⟨a',vs,m,j,rfl,ev,ha3,by rw [r.length];exact ei,q1 _ _ ((sl1.mono s3).change er h2 ha3 (.inl ⟨_,rfl⟩) ?_)⟩;simp only [gF];exact ⟨a',_,rfl,bc,bd.kp (eR ha3 (.inl ⟨_,rfl⟩)) _ _ (bd.set (p1.mono s3) j r3)⟩
          | _=>exact q1.elim
        | _=>exact q1.elim⟩
end
section
variable {X:Cx} {o e:Expr} {fo fe:Fe} {apos cpos:Pos}
noncomputable def Ai:PyData->R Unit
  | .list _=>.ok ()
  | _=>.no
end
noncomputable def ue:bm->bm
  | .own _=>.non
  | c=>c
noncomputable def gk (i:Nat) (d:PyData) (ρ:aD):aD:=(ρ.map ue).set i (.val d)
noncomputable def i7:PyData->R PyData
  | .none=>.ok .none
  | .bool b=>.ok (.bool b)
  | .int k=>.ok (.int k)
  | .str x=>.ok (.str x)
  | .tuple ds=>match aN ds with
    | some _=>.ok (.tuple ds)
    | none=>.no
  | _=>.no
theorem uG {d:PyData} {c:Str}:i7 d≠.ex c:=by
  cases d with
  | tuple ds =>
    show (match aN ds with | some _=>R.ok (PyData.tuple ds) | none=>.no)≠_;cases aN ds <;> exact fun z=>nomatch z
  | _=>exact fun z=>nomatch z
noncomputable def iB (i:Nat) (f:Fe):Fe:=fun ρ=>match ρ[i]? with
  | some (.own d)=>lb (f (gk i d ρ))>>=i7
  | _=>f ρ
section
variable {X:Cx} {pins:List (Addr×Obj)} {σ:St} {H H1:Hp} {s s':Shared} {a:Addr} {u:HO} {o:Obj}
theorem s9 (h:H a=some u) (S:ar (cr H a (.frz o u)) H1):ar H (cr H1 a u):=fun b x e=>by
  by_cases hb:b=a
  · subst hb;rw [bc];rw [h] at e;exact e
  · rw [ay hb];exact S b x (by rw [ay hb];exact e)
theorem tP (I:az X pins σ H s) (h:H a=some u) (hm:(∃ xs,u=.lst xs)\/∃ ks,u=.dK ks) (S:ar (cr H a (.frz o u)) H1) (J:az X pins σ H1 s'):az X pins σ (cr H1 a u) s':=by
  have ha:H1 a=some (.frz o u):=S a _ bc;have nt:∀ b xs,H1 b=some (.tup xs)->b≠a:=fun b xs q z=>by subst z;rw [ha] at q;cases q
  have nb:∀ b ps,H1 b=some (.tbl ps)->b≠a:=fun b ps q z=>by subst z;rw [ha] at q;cases q
  have nw:∀ b y,H1 b=some (.own y)->b≠a:=fun b y q z=>by subst z;rw [ha] at q;cases q
  have nn:∀ b,H1 b=none->b≠a:=fun b q z=>by subst z;rw [ha] at q;cases q
  have st:∀ b x,bS X.prog X.w H1 s'.heap b x->bS X.prog X.w (cr H1 a u) s'.heap b x:=fun b x q =>
    q.stay (fun c v _ e=>e) (fun c e=>by rw [ay (nw _ _ e)];exact e) fun c xs e=>by rw [ay (nt _ _ e)];exact e
  refine ⟨J.ok,J.os,J.bare,⟨J.base.keep,J.base.slot,fun b ob' e n hx=>?_,J.base.there,fun b xs e=>?_,fun b ob' v e=>?_,fun b ps e=>?_⟩,J.loc,J.cell,?_,fun x c e=>?_,fun p hp=>?_,fun b x e=>?_,J.len⟩
  · have:=J.base.free b ob' e n hx;rw [ay (nn _ this)];exact this
  · have:=J.base.tups b xs e;rw [ay (nt _ _ this)];exact this
  · have q:=I.base.frzs b ob' v e;have hb:b≠a:=fun z=>by subst z;rw [h] at q;rcases hm with ⟨_,rfl⟩ | ⟨_,rfl⟩ <;> cases q
    rw [ay hb];exact J.base.frzs b ob' v e
  · obtain ⟨m,q⟩:=J.base.tbls b ps e;exact ⟨m,by rw [ay (nb _ _ q)];exact q⟩
  · rw [ay (nn _ J.free)];exact J.free
  · rw [ay (nn _ (J.freeC x c e))];exact J.freeC x c e
  · obtain ⟨p1,p2,p3⟩:=J.pin p hp;exact ⟨p1,by rw [ay (nn _ p2)];exact p2,p3⟩
  · by_cases hb:b=a
    · subst hb;rw [bc] at e;cases e;obtain ⟨_,q⟩:=(show bS X.prog X.w H1 s'.heap b (.frz o u) from J.hok b _ ha)
      exact st b u q
    · rw [ay hb] at e;exact st b x (J.hok b x e)
theorem rn {ρ:aD} {i:Nat} {d:PyData} {v:V} (sl:Sl H σ ρ) (k:Kp H H1) (hv:σ[i]?=some (some v)) (hr:Rp H1 d v):Sl H1 σ (gk i d ρ):=by
  unfold gk;refine ⟨by rw [List.length_set,List.length_map];exact sl.1,fun j c w' e1 e2=>?_⟩;rw [List.getElem?_set] at e1;by_cases hij:i=j
  · subst hij;rw [if_pos rfl] at e1;split at e1
    · cases e1;rw [hv] at e2;cases e2;exact ⟨_,rfl,hr⟩
    · cases e1
  · rw [if_neg hij,List.getElem?_map] at e1;cases ec:ρ[j]? with
    | none=>rw [ec] at e1;cases e1
    | some c' =>
      rw [ec] at e1;have e1':ue c'=c:=Option.some.inj e1;subst e1';have q:=sl.2 j c' w' ec e2;cases c' with
      | exc p=>exact q
      | non=>exact True.intro
      | val d'=>obtain ⟨v,z1,z2⟩:=q;exact ⟨v,z1,Rp.kp k _ _ z2⟩
      | own d'=>exact True.intro
end
theorem lH {H H':Hp}:∀ {ns:List Int} {vs:List V},bd H (ns.map .int) vs->bd H' (ns.map .int) vs
  | [],vs,r=>by rw [r.nil_inv];exact bd.nil
  | n::ns,vs,r=>by
    rw [List.map_cons] at r;obtain ⟨v,r',rfl,p,t⟩:=r.cons_inv;exact bd.cons (by simp only [Rp] at p ⊢;exact p) (lH t)
theorem w4 {H H':Hp} {d d':PyData} {v:V} (kt:∀ b xs,H b=some (.tup xs)->H' b=some (.tup xs)) (h:i7 d=.ok d') (r:Rp H d v):Rp H' d' v:=by
  cases d with
  | tuple ds =>
    cases ei:aN ds with
    | none =>
      rw [show i7 (.tuple ds)=(match aN ds with | some _=>R.ok (PyData.tuple ds) | none=>.no) from rfl,ei] at h;cases h
    | some ns =>
      rw [show i7 (.tuple ds)=(match aN ds with | some _=>R.ok (PyData.tuple ds) | none=>.no) from rfl,ei] at h;cases h;simp only [Rp] at r ⊢;obtain ⟨a,vs,e,ha,q⟩:=r;rw [cF ei] at q ⊢;exact ⟨a,vs,e,kt a vs ha,lH q⟩
  | none=>cases h;simp only [Rp] at r ⊢;exact r
  | bool b=>cases h;simp only [Rp] at r ⊢;exact r
  | int i=>cases h;simp only [Rp] at r ⊢;exact r
  | str x=>cases h;simp only [Rp] at r ⊢;exact r
  | list ds=>cases h
  | dict kvs=>cases h
theorem cJ.lent {X:Cx} {e:Expr} {f:Fe} (i:Nat) (h:cJ X e f):cJ X e (iB i f):=by
  intro pins s σ H Q I q;obtain ⟨ρ,sl,q⟩:=q;by_cases ho:∃ d,ρ[i]?=some (.own d)
  · obtain ⟨d,ho⟩:=ho;have el:iB i f ρ=(lb (f (gk i d ρ))>>=i7):=by unfold iB;rw [ho]
    rw [el] at q;have go:∀ (a:Addr) (u:HO) (hu:H a=some u) (hm:(∃ xs,u=.lst xs)\/∃ ks,u=.dK ks) (o:Obj) (J:az X pins σ (cr H a (.frz o u)) s) (sl1:Sl (cr H a (.frz o u)) σ (gk i d ρ)),wpAny (model X.prog X.w) X.A (eval e X.env) (EP X pins σ Q) X.xe s:=fun a u hu hm o J sl1=>by
      cases ef:f (gk i d ρ) with
      | no=>rw [ef] at q;exact q.elim
      | ex c=>rw [ef] at q;exact q.elim
      | ok d1 =>
        rw [ef] at q;change rQ X iF (i7 d1) H Q at q;cases ea:i7 d1 with
        | no=>rw [ea] at q;exact q.elim
        | ex c=>exact (uG ea).elim
        | ok d2 =>
          rw [ea] at q;refine cS (h pins s σ (cr H a (.frz o u)) (fun v H'=>ar (cr H a (.frz o u)) H'/\Rp H' d1 v) J ⟨gk i d ρ,sl1,by rw [ef];exact fun v H' hs p=>⟨hs,p⟩⟩) fun w s' ⟨v,H',J',r,hs,p⟩=>?_
          exact ⟨v,cr H' a u,tP I hu hm hs J',r,q v _ (s9 hu hs) (w4 (fun b xs e=>by
            have hb:b≠a:=fun z=>by subst z;rw [hs b _ bc] at e;cases e
            rw [ay hb];exact e) ea p)⟩
    obtain ⟨w',h2,v,rfl,qo⟩:=sl.at ho;cases d <;> simp only [gF] at qo
    · rename_i ds;obtain ⟨a,vs,rfl,ha,r⟩:=qo;obtain ⟨o,J⟩:=eP I ha (.inl ⟨_,rfl⟩);have kp:=eR (o':=.frz o (.lst vs)) ha (.inl ⟨_,rfl⟩);have hr:Rp (cr H a (.frz o (.lst vs))) (.list ds) (.ref a):=by
        simp only [Rp];exact ⟨a,o,vs,rfl,bc,bd.kp kp _ _ r⟩
      exact go a _ ha (.inl ⟨_,rfl⟩) o J (rn sl kp h2 hr)
    · rename_i ds;obtain ⟨a,vs,rfl,ha,r⟩:=qo;obtain ⟨o,J⟩:=eP I ha (.inr ⟨_,rfl⟩);have kp:=eR (o':=.frz o (.dK vs)) ha (.inr ⟨_,rfl⟩);have hr:Rp (cr H a (.frz o (.dK vs))) (.dict ds) (.ref a):=by
        simp only [Rp];exact .inl ⟨a,o,vs,rfl,bc,da.kp kp _ _ r⟩
      exact go a _ ha (.inr ⟨_,rfl⟩) o J (rn sl kp h2 hr)
  · have el:iB i f ρ=f ρ:=by
      unfold iB;split
      · rename_i d e1;exact (ho ⟨d,e1⟩).elim
      · rfl
    rw [el] at q;exact h pins s σ H Q I ⟨ρ,sl,q⟩
theorem pI {X:Cx} {e:Expr} {f:Fe} (i:Nat) (h:Z.cJ X e f):Z.cJ X e (iB i f) :=
  ⟨D2.cJ.lent i h.un⟩
noncomputable abbrev jV:=List PyData->R PyData
structure kc (P:Program) (w:World) (K:PySem.W.Frag) (mg:Str->Option Value) (base:Heap) (k:Nat) (x:Str) (ps:List Str) (F:jV) (f:Addr) (fd:FuncData):Prop where
  ok:bC P w K mg base (dE P w mg) k f fd ps (eU F ps.length)
  m:mg x=some (.ref f)
  kp:PySem.W.keepIn K (.ref f)=true
  b:bV K fd ps []
theorem aS {X:Cx} {k:Nat} {f:Addr} {fd:FuncData} {ps:List Str} {F:jV} {x:Str} {p pos:Pos} {e:Expr} {es:List Expr} {fs:aD->R (List PyData)} {nl:Nat} {G:List Str} (C:kc X.prog X.w X.K X.mg X.base k x ps F f fd) (hr:eS k X.A) (T:Tb X nl G) (j:Nat) (hG:G[j]?=some x) (ha:Z.qv X (e::es) fs) (hlen:(e::es).length=ps.length) (hfs:∀ ρ ds,fs ρ=.ok ds->ds.length=ps.length) (he:(e::es).all aV=true:=by rfl):Z.cJ X (.Call (.Name x p) (e::es) [] pos) (bf F fs):=⟨have ha:=ha.un;wE C.ok hr T j hG C.m C.kp C.b ha hlen hfs he⟩
structure dz (K:PySem.W.Frag) (x:Str) (st:Stmt) (f:Addr) (fd:FuncData):Prop where
  ns:PySem.W.nsIn K mainGlobals x=some (some (.ref f))
  fn:ip K x x st f fd
theorem bA {K:PySem.W.Frag} {x:Str} {st:Stmt} {f:Addr} {oc:Value} {od an:Option Addr} {osl:Array (Option Value)} {kV doc pm cdv ct:Value} (a:PySem.W.nsIn K mainGlobals x=some (some (.ref f))) (l:K.lookup f=some ⟨oc,od,.func (PySem.W.fnOf x x (cU st) (bZ st) (am st) .none kV doc pm an cdv ct),osl⟩) (c:PySem.W.codeIn K cdv x=true) (k:PySem.W.keepIn K (.ref f)=true) :
    dz K x st f (PySem.W.fnOf x x (cU st) (bZ st) (am st) .none kV doc pm an cdv ct):=⟨a,tF l c k⟩
end D2
namespace D2
open PySem PySem.Spec PyProof.Rows L2 PySem.Builtin PySem.Builtin.Str
end D2
set_option maxHeartbeats 400000
namespace D2
open PySem PySem.Spec PyProof.Rows L2 PySem.Builtin
end D2
namespace D2
open PySem PySem.Spec PyProof.Rows L2
end D2
namespace HT
open PySem PySem.Spec PyProof.Rows L2
theorem vE (A:Around) (s:Shared) (a:Int) (t:Tok) (c:Int) (u:Tok) (prog:Program) (w:World) (E:Value->Shared->Prop) (Q:Value->Shared->Prop) (h:Q (.bool (decide (c < a))) s) :
    wpAny (model prog w) A (richCompare .Gt (.int a t) (.int c u)) Q E s :=
  (PyProof.Rows.gt_int h:wpAny (model prog w) A (compareOp .Gt (.int a t) (.int c u)) Q E s)
theorem pS (x y:Int) (xs ys:List Int):lexLt (y::ys) (x::xs)=if x=y then lexLt ys xs else decide (y < x):=by
  rw [lexLt_cons];by_cases h:x=y
  · rw [if_pos h,if_pos h.symm]
  · rw [if_neg h,if_neg fun z=>h z.symm]
section
open PySem.SeqAt
open PySem.AutoSeq1 (wpAny_loadPart')
open PySem.MeetsSeq PySem.MeetsSeq2 PySem.MeetsSeq3
theorem ls (l b:Addr) (items items2:Array Value) (n n2:Nat) (dd dd2:Option Addr) (sl sl2:Array (Option Value)) (ns ms:List Int) (hi:IntsAre items.toList ns) (hj:IntsAre items2.toList ms) :
    Meets (Builtin.«tuple.__gt__» ⟨[.ref l,.ref b],[]⟩)
      (fun _ R s=>s.heap.get? l=some { cls:=.type "tuple",dict:=dd,data:=.seq items n,slots:=sl }/\s.heap.get? b=some { cls:=.type "tuple",dict:=dd2,data:=.seq items2 n2,slots:=sl2 } /\
        R (.ok (.ret (.bool (lexLt ms ns)))) s) :=
  .of_wp fun prog w A R s h=>by
    obtain ⟨hp,g,d,tk,os⟩:=s;obtain ⟨hl,hb,h⟩:=h;have f2:=AutoSeq1.sub_tuple_tuple;have z1:items.size=ns.length:=by rw [<- hi.length];simp
    have z2:items2.size=ms.length:=by rw [<- hj.length];simp
    wp_walk using wpAny_loadPart' hl,wpAny_loadPart' hb,wpAny_forIn_list _ (fun c8 b s'=>b.1=none/\s'=⟨hp,g,d,tk,os⟩/\∃ (vs ws:List Value) (ns' ms':List Int),c8=vs.zip ws /\
      IntsAre vs ns'/\IntsAre ws ms'/\ns'.length+items2.size=ms'.length+items.size/\R (.ok (.ret (.bool (lexLt ms' ns')))) ⟨hp,g,d,tk,os⟩) _
    case turn =>
      rintro ⟨y,x⟩ c8 b s' ⟨hb',rfl,vs,ws,ns',ms',hz,hvi,hwi,hlen,hR⟩;cases hvi with
      | nil=>rw [List.zip_nil_left] at hz;cases hz
      | cons a t hvi' =>
        cases hwi with
        | nil=>rw [List.zip_nil_right] at hz;cases hz
        | cons c u hwi' =>
          rw [List.zip_cons_cons] at hz;injection hz with hyx hrest
          injection hyx with hy hx
          subst hy hx;rw [pS] at hR;simp only [List.length_cons] at hlen;obtain ⟨e,he,hiff⟩:=oF A.in1 ⟨hp,g,d,tk,os⟩ a t c u;refine wpAny_bind (he prog w _ _ ?_);cases e with
          | true =>
            rw [if_pos (hiff.mp rfl)] at hR
            wp_walk
            exact ⟨rfl,rfl,_,_,_,_,hrest,hvi',hwi',by omega,hR⟩
          | false =>
            rw [if_neg (fun q=>absurd (hiff.mpr q) Bool.false_ne_true)] at hR;have hri:=vE A.in1 ⟨hp,g,d,tk,os⟩ a t c u prog w
            wp_walk using hri
            exact ⟨_,rfl,by simpa using hR⟩
    case fin =>
      rintro ⟨b1,b2⟩ s' ⟨hb',rfl,vs,ws,ns',ms',hz,hvi,hwi,hlen,hR⟩;simp only at hb';subst hb';have hv:lexLt ms' ns'=decide (items2.size < items.size):=by
        cases hvi with
        | nil =>
          cases hwi with
          | nil =>
            simp only [List.length_nil] at hlen;rw [iA];exact (decide_eq_false (by omega)).symm
          | cons c u hw =>
            simp only [List.length_nil,List.length_cons] at hlen;rw [h7];exact (decide_eq_false (by omega)).symm
        | cons a t hv =>
          cases hwi with
          | nil =>
            simp only [List.length_nil,List.length_cons] at hlen;rw [gZ];exact (decide_eq_true (by omega)).symm
          | cons c u hw =>
            rw [List.zip_cons_cons] at hz;cases hz
      rw [hv] at hR
      wp_walk
      exact ⟨_,rfl,by simpa [Builtin.Tuple.tupleCompareSizes] using hR⟩
    case h =>
      exact ⟨rfl,rfl,items.toList,items2.toList,ns,ms,rfl,hi,hj,by omega,h⟩
end
section
variable {prog:Program} {w:World} {A:Around} {E:Value->Shared->Prop} {s:Shared}
theorem gt_tupInts {l b:Addr} {items items2:Array Value} {ns ms:List Int} {Q:Value->Shared->Prop} (hl:IsTup s.heap l items) (hb:IsTup s.heap b items2) (hi:IntsAre items.toList ns) (hj:IntsAre items2.toList ms)
    (hu:A.units < cLine) (h:Q (.bool (lexLt ms ns)) s):wpAny (model prog w) A (compareOp .Gt (.ref l) (.ref b)) Q E s:=by
  obtain ⟨⟨cls,dd,data,sl⟩,ho,hc,n,hd⟩:=id hl;obtain ⟨⟨cls2,dd2,data2,sl2⟩,ho2,hc2,n2,hd2⟩:=id hb;simp only at hc hd hc2 hd2;subst hc hd hc2 hd2;exact richCompare_meets_room (op:=.Gt) ⟨_,ho,rfl⟩ ⟨_,ho2,rfl⟩ PySem.F.slot_tuple_gt PySem.F.entry_tuple_gt (PySem.F.args_tuple_gt_2 _ _) (ls l b items items2 n n2 dd dd2 sl sl2 ns ms hi hj)
    ⟨ho,ho2,show Value.bool (lexLt ms ns)≠Value.notImplemented/\Q (.bool (lexLt ms ns)) s from ⟨(fun x=>nomatch x),h⟩⟩ hu
end
end HT
namespace D2
open PySem PySem.Spec PyProof.Rows L2
section
variable {X:Cx} {a b c:Expr} {fa fb fc:Fe} {pos p2:Pos} {nl:Nat} {G:List Str} {x:Str} {p:Pos}
theorem yU (hu:X.A.units < cLine):iT X (compareOp .Gt) (fun x y H Q=>∃ a b ns ms,x=.ref a/\y=.ref b/\eV X.K H a (ns.map V.int)/\eV X.K H b (ms.map V.int)/\Q (.bl (HT.lexLt ms ns)) H):=by
  intro pins s σ H x y v u Q I rx ry h;obtain ⟨a,b,ns,ms,rfl,rfl,ha,hb,q⟩:=h;cases rx;cases ry;obtain ⟨its,r1,p1,_⟩:=I.tuple ha;obtain ⟨its2,r2,p2,_⟩:=I.tuple hb;exact HT.gt_tupInts p1 p2 (dl r1) (dl r2) hu ⟨.bl (HT.lexLt ms ns),H,I,rfl,q⟩
noncomputable def ln:PyData->PyData->R PyData
  | .tuple ds,.tuple es=>match aN ds,aN es with
    | some ns,some ms=>.ok (.bool (HT.lexLt ms ns))
    | _,_=>.no
  | _,_=>.no
theorem yF (ns ms:List Int):ln (.tuple (ns.map .int)) (.tuple (ms.map .int))=.ok (.bool (HT.lexLt ms ns)):=by
  show (match aN (ns.map .int),aN (ms.map .int) with | some ns,some ms=>R.ok (PyData.bool (HT.lexLt ms ns)) | _,_=>.no)=_;rw [cD,cD]
theorem yB:cj X iF (fun x y H Q=>∃ a b ns ms,x=.ref a/\y=.ref b/\eV X.K H a (ns.map V.int)/\eV X.K H b (ms.map V.int)/\Q (.bl (HT.lexLt ms ns)) H) ln:=fun H x y dx dy Q hx hy q=>by
  cases dx with
  | tuple ds =>
    cases dy with
    | tuple es =>
      cases e1:aN ds with
      | none=>rw [show ln (.tuple ds) (.tuple es)=(match aN ds,aN es with | some ns,some ms=>R.ok (PyData.bool (HT.lexLt ms ns)) | _,_=>.no) from rfl,e1] at q;exact q.elim
      | some ns =>
        cases e2:aN es with
        | none=>rw [show ln (.tuple ds) (.tuple es)=(match aN ds,aN es with | some ns,some ms=>R.ok (PyData.bool (HT.lexLt ms ns)) | _,_=>.no) from rfl,e1,e2] at q;exact q.elim
        | some ms =>
          rw [show ln (.tuple ds) (.tuple es)=(match aN ds,aN es with | some ns,some ms=>R.ok (PyData.bool (HT.lexLt ms ns)) | _,_=>.no) from rfl,e1,e2] at q;obtain ⟨a1,v1,rfl,h1,r1⟩:=cv hx;obtain ⟨a2,v2,rfl,h2,r2⟩:=cv hy;rw [cF e1] at r1;rw [cF e2] at r2;rw [eJ r1] at h1;rw [eJ r2] at h2;exact ⟨a1,a2,ns,ms,rfl,rfl,eV.of h1,eV.of h2,q _ H (ar.refl _) ff⟩
    | _=>exact q.elim
  | _=>exact q.elim
theorem sr (hu:X.A.units+64 < cLine) (ha:Z.di X a fa) (hb:Z.di X b fb):Z.jY X (.Compare a [.Gt] [b] pos) (tE (e2 ln fa fb)):=⟨have ha:=ha.un;have hb:=hb.un;fg (yU (by omega)) yB ha hb (iI _)⟩
end
section
variable {X:Cx} {o e:Expr} {fo fe:Fe} {apos cpos:Pos}
theorem uu:B8 X "list.count" (fun x xs H Q=>∃ (l:Addr) (ns:List Int) (k:Int),x=.ref l/\xs=[.int k]/\jr X.K H l (ns.map V.int)/\Q (.int (ns.count k:Nat)) H):=by
  intro pins s σ H x xs v us Q I rx rs h;obtain ⟨l,ns,k,rfl,rfl,hq,q⟩:=h;cases rx;obtain ⟨u,rfl,t,rfl⟩:=e8 rs;obtain ⟨its,rv,pl,hz⟩:=I.list hq;exact count_list_ints pl.isList (dl rv) ⟨.int _,H,I.tok _,⟨_,rfl⟩,q⟩
noncomputable def gR:PyData->PyData->R PyData
  | .list ds,.int k=>match aN ds with
    | some ns=>.ok (.int (ns.count k:Nat))
    | none=>.no
  | _,_=>.no
noncomputable def ml (fo fe:Fe):Fe:=fun ρ=>fo ρ>>=fun x=>Ai x>>=fun _=>fe ρ>>=fun y=>gR x y
theorem pD (ho:Z.di X o fo) (he:Z.cJ X e fe) (hb:attributeBase o "count" X.env (eval o X.env)=eval o X.env:=by rfl) (hst:aV e=true:=by rfl) (hline:(apos.endLine==cpos.line)=true:=by rfl):Z.cJ X (.Call (.Attribute o "count" apos) [e] [] cpos) (ml fo fe):=⟨have ho:=ho.un;have he:=he.un;by
  have sc:starEach [e] X.env=(false,eval e X.env)::starEach [] X.env:=bI hst;refine PE.imp (xV PySem.F.plainAttrs_list PySem.F.slot_list_count PySem.F.type_list_count uu ho (j6 he mM hst) hb (by rw [sc];rfl) hline sc rfl) fun σ H Q h=>?_
  refine (fF (P:=vO) (f:=fo) (k:=fun ρ x=>Ai x>>=fun _=>fe ρ>>=fun y=>gR x y) (fR (X:=X) fD Q) h).post fun v H1 ⟨ρ1,d1,sl1,_,p1,q1⟩=>?_
  cases d1 with
  | list ds =>
    obtain ⟨a,vs,rfl,h1,r1⟩:=cH (K:=X.K) p1;refine ⟨.inl ⟨rfl,_,h1⟩,?_⟩;have q1:rQ X iF (ag fe aC ρ1>>=one (gR (.list ds))) H1 Q:=by
      have e0:(ag fe aC ρ1>>=one (gR (.list ds)))=(fe ρ1>>=fun y=>gR (.list ds) y):=by
        unfold ag aC;cases fe ρ1 <;> rfl
      rw [e0];exact q1
    refine (kh (I:=Rp) (f:=ag fe aC) (k:=fun _=>one (gR (.list ds))) (fR (X:=X) fD Q) ⟨ρ1,sl1,q1⟩).post fun us H2 ⟨_,ds2,_,s2,p2,q2⟩=>?_
    unfold one at q2;split at q2
    · rename_i d2;simp only [RA] at p2;obtain ⟨w,r',rfl,p2,rfl⟩:=p2;cases d2 with
      | int k =>
        have ew:w=.int k:=by simpa only [Rp] using p2
        subst ew;simp only [gR] at q2;cases ei:aN ds with
        | none=>rw [ei] at q2;exact q2.elim
        | some ns =>
          rw [ei] at q2;have p3:=fY.mono p1 s2;rw [cF ei] at p3;obtain ⟨a',vs',ea,h3,r3⟩:=cH (K:=X.K) p3;cases ea;rw [eJ r3] at h3;exact ⟨a,ns,k,rfl,rfl,h3,q2 _ H2 (ar.refl _) cy⟩
      | _=>exact q2.elim
    · exact q2.elim
  | _=>exact q1.elim⟩
end
noncomputable def ze (lo:Int) (n:Nat):It:=⟨fun i _=>i < n,fun i H x H'=>H'=H/\x=.int (lo-i),fun i _=>n<=i⟩
theorem rO {P:Program} {w:World} {K:PySem.W.Frag} {tg:Expr} (it:Addr) (lo:Int) (n:Nat):qg P w K tg (ze lo n) [it] it (fun i h=>IsRangeIter h it (lo+(i:Nat)*(-1)) ((n:Int)-(i:Nat)) (-1)) where
  mem:=by simp
  obj:=fun i h st b hb=>by
    have e:b=it:=by simpa using hb
    subst e;exact ⟨_,st,fun v z=>by
      have z':Data.fields _=Data.cell v:=z;cases z'⟩
  keep:=fun i h h' st k=>k it (by simp) _ st
  item:=by
    intro X hP hw hK hc i pins s σ H E I hf st hg;subst hP hw hK;obtain ⟨f0,f1,f2,f3,f4,f5⟩:=hf it (by simp);have W:=Walks.range (prog:=X.prog) (w:=X.w) (I.ok.hd hc) it lo (-1) n;refine W.item i s _ _ hg st fun v h' tk hv st' kk=>?_
    obtain ⟨t,rfl⟩:=hv;have I1:az X pins σ H { s with heap:=h',toks:=tk }:=I.turned (fun b o hb e=>kk b o (by simpa using hb) e) f0 f1 f3 f4 f5;refine ⟨_,rfl,qC (s:={ s with heap:=h',toks:=tk }) (n := "range_iterator") st' rfl rfl (by decide) ⟨.int (lo-i),H,I1,⟨t,?_⟩,⟨rfl,rfl⟩,st',fun b hb=>(hf b hb).1⟩⟩;congr 1;omega
  done:=by
    intro X hP hw hK hc i pins s σ H E I hf st hg;subst hP hw hK;obtain ⟨f0,f1,f2,f3,f4,f5⟩:=hf it (by simp);exact wpAny_pyNext_range_end (I.ok.hd hc) st (by have:n<=i:=hg;omega) fun h' eb=>⟨rfl,I.turned (t':=s.toks) (fun b o hb e=>eb b o hb e) f0 f1 f3 f4 f5⟩
  self:=fun _ _ _ _ _ st h=>wpAny_pyIter_rangeiter st h
theorem lT (a b:Int):Builtin.Range.rangeSize a b (-1)=if b < a then a-b else 0:=by
  unfold Builtin.Range.rangeSize;rw [if_neg (by decide)];by_cases h:a > b
  · rw [if_pos h,if_pos h];show (a-b-1) / 1+1=_;rw [Int.ediv_one];omega
  · rw [if_neg h,if_neg h]
theorem pz {a b:Int} (ha:-(2 ^ 62)<=a) (ha':a < 2 ^ 62) (hb:-(2 ^ 62)<=b) (hb':b < 2 ^ 62):Builtin.Range.small a b (-1)=true:=by
  unfold Builtin.Range.small;rw [lT];simp only [Builtin.Range.rangeFitsLong,Bool.and_eq_true,Bool.or_eq_true,decide_eq_true_eq,beq_iff_eq,show ¬ ((-1:Int) > 0) by decide,if_false];split <;> omega
section
variable {X:Cx} {tg a b c:Expr} {fa fb fc:Fe} {pos p2:Pos} {nl:Nat} {G:List Str} {x:Str} {p:Pos} {fs:aD->R (List PyData)}
noncomputable def A5 (ta:TA):TI:=fun σ H R=>ta σ H fun vs H1=>∃ i j:Int,vs=[.int i,.int j,.int (-1)]/\(-(2 ^ 62)<=i/\i < 2 ^ 62/\-(2 ^ 62)<=j/\j < 2 ^ 62)/\R (ze i (i-j).toNat) H1
theorem si {ta:TA} (hg:Gl X "range") (hm:X.mg "range" = none) (ha:PA X [a,b,c] ta) (hs:starEach [a,b,c] X.env=[(false,eval a X.env),(false,eval b X.env),(false,eval c X.env)]) (hs2:starEach [b,c] X.env=[(false,eval b X.env),(false,eval c X.env)]) :
    PI X tg (.Call (.Name "range" p) [a,b,c] [] pos) (A5 ta):=by
  intro pins s σ H R I h;refine Call_ (k8 I hg hm boot_range (PyProof.Rows.callWith_type1 (cS (ha pos pins s σ H _ I h) fun us s1 ⟨vs,H1,I1,r1,q1⟩=>?_) (by rw [hs,hs2]) (by rw [hs2];rfl)));obtain ⟨i,j,e,⟨q1,q2,q3,q4⟩,q⟩:=q1;subst e;cases r1 with
  | cons r rr =>
    cases rr with
    | cons r' rr =>
      cases rr with
      | cons r'' rr =>
        cases rr;obtain ⟨t,rfl⟩:=r;obtain ⟨t',rfl⟩:=r';obtain ⟨t'',rfl⟩:=r'';refine call_range_3 (by decide) ?_ (.inl (PyProof.noPylong_small (by omega)));refine wpAny_pyIter_range (IsRange.new ..) (pz q1 q2 q3 q4) ?_;have I2:az X pins σ H1 { s1 with heap:=s1.heap.push { cls:=.type "range",data:=.fields #[.int i t,.int j t',.int (-1) t''] },toks:=s1.toks }:=I1.kept fun b o e=>Heap.get?_push_of_some _ e
        refine ⟨_,[_],_,_,H1,rfl,I2.kept (t':=s1.toks) fun b o e=>Heap.get?_push_of_some _ e,rO _ i (i-j).toNat,?_,fun b hb=>?_,q⟩
        · have e1:i+((0:Nat):Int)*(-1)=i:=by simp
          have e2:(((i-j).toNat:Nat):Int)-((0:Nat):Int)=Builtin.Range.rangeSize i j (-1):=by rw [lT];split <;> omega
          rw [e1,e2];exact Heap.get?_push_size _ rfl
        · have e:=List.mem_singleton.mp hb;subst e;exact I2.fpOk (Nat.le_refl _) (I2.hok.fresh (Nat.le_refl _))
noncomputable def fV (lo:Int) (n:Nat):List PyData:=(List.range n).map fun (k:Nat)=>.int (lo-k)
noncomputable def pB:List PyData->R (List PyData)
  | [.int i,.int j,.int k]=>if k=-1/\-(2 ^ 62)<=i/\i < 2 ^ 62/\-(2 ^ 62)<=j/\j < 2 ^ 62 then .ok (fV i (i-j).toNat) else .no
  | _=>.no
noncomputable def lB (fs:aD->R (List PyData)):aD->R (List PyData):=fun ρ=>fs ρ>>=pB
theorem vH {lo:Int} {n:Nat}:vQ (ze lo n) (fun _=>True) (fV lo n) where
  go:=fun i H _ hi=>by
    show i < n;simpa [fV] using hi
  yld:=fun i H x H' d _ hd ⟨e,y⟩=>by
    subst e;subst y;refine ⟨ar.refl _,?_⟩;unfold fV at hd;rw [List.getElem?_map] at hd;cases h:(List.range n)[i]? with
    | none=>rw [h] at hd;cases hd
    | some k =>
      rw [h] at hd;have hk:k=i:=by
        rw [List.getElem?_range] at h
        · exact (Option.some.inj h).symm
        · have:=(List.getElem?_eq_some_iff.mp h).1;simpa using this
      subst hk;cases hd;exact cy
  stop:=fun i H _ hi=>by
    show n<=i;simpa [fV] using hi
theorem jP (T:Tb X nl G) (j:Nat) (hG:G[j]?=some ("range" : Str)) (hm:X.mg "range" = none) (ha:Z.qv X [a,b,c] fs) (hl:∀ ρ ds,fs ρ=.ok ds->ds.length=3) (hs:aV a=true:=by rfl) (hs2:aV b=true:=by rfl) (hs3:aV c=true:=by rfl):Z.pd X tg (.Call (.Name "range" p) [a,b,c] [] pos) (lB fs):=⟨have ha:=ha.un;by
  have sc:starEach [c] X.env=[(false,eval c X.env)]:=bI hs3;have sb:starEach [b,c] X.env=[(false,eval b X.env),(false,eval c X.env)]:=(bI hs2).trans (by rw [sc]);have sa:starEach [a,b,c] X.env=[(false,eval a X.env),(false,eval b X.env),(false,eval c X.env)]:=(bI hs).trans (by rw [sb]);refine PI.imp (si (T.gl _ (List.mem_of_getElem? hG)).1 hm ha sa sb) fun σ H Rk ⟨ρ,sl,q⟩=>?_
  refine ⟨ρ,sl,?_⟩;dsimp only [lB] at q;cases e:fs ρ with
  | ex c=>rw [e] at q;exact q
  | no=>rw [e] at q;exact q
  | ok ds =>
    rw [e] at q;have hlen:=hl ρ ds e;intro vs H1 s1 r1
    match ds,hlen with
    | [d1,d2,d3],_ =>
      simp only [RA] at r1;obtain ⟨v1,r',rfl,p1,v2,r'',rfl,p2,v3,r''',rfl,p3,rfl⟩:=r1;cases d1 with
      | int i =>
        cases d2 with
        | int j =>
          cases d3 with
          | int k =>
            have e1:v1=.int i:=by simpa only [Rp] using p1
            have e2:v2=.int j:=by simpa only [Rp] using p2
            have e3:v3=.int k:=by simpa only [Rp] using p3
            subst e1 e2 e3;by_cases hz:k=-1/\-(2 ^ 62)<=i/\i < 2 ^ 62/\-(2 ^ 62)<=j/\j < 2 ^ 62
            · rw [R.ok_bind,show pB [.int i,.int j,.int k]=.ok (fV i (i-j).toNat) from if_pos hz] at q;exact ⟨i,j,by rw [hz.1],hz.2,q _ H1 s1 ⟨_,vH,fun _ _ _=>True.intro⟩⟩
            · rw [R.ok_bind,show pB [.int i,.int j,.int k]=.no from if_neg hz] at q;exact q.elim
          | _=>exact q.elim
        | _=>exact q.elim
      | _=>exact q.elim⟩
end
noncomputable def xr (prog:Program) (w:World) (A:Around) (op:CmpOp) (P:Nat->Value->Prop) (bt:Nat->Nat->Bool) (Gd:Heap->Prop):Prop :=
  ∀ (i j:Nat) (u v:Value) (s:Shared) (Q E:Value->Shared->Prop),Gd s.heap->P i u->P j v->Q (.bool (bt i j)) s->wpAny (model prog w) A (richCompare op u v) Q E s
section
variable {prog:Program} {w:World} {A:Around} {R:Result->Shared->Prop} {I:Addr} {fp wr:List Addr} {n:Nat} {P:Nat->Value->Prop} {St:Nat->Heap->Prop} {Gd:Heap->Prop}
theorem wK (W:Walks prog w A.in1 I fp wr n P St) (bt:Nat->Nat->Bool) (cm:xr prog w A.in1 .Gt P bt Gd) (S:Addr) (nS:S∉fp) (hG:∀ h h',Gd h->(∀ b o,b∉wr->b≠S->h.get? b=some o->h'.get? b=some o)->Gd h') :
    ∀ (left at_:Nat) (s:Shared) (bst:Value) (c:Nat),n-(at_+1)=left->at_+1<=n->Gd s.heap->St (at_+1) s.heap->P (argBest bt at_) bst ->
    s.heap.get? S=some { cls:=.type "list",dict:=none,data:=.seq #[bst,bst] c,slots:=#[] } ->
    (∀ v h' tk,P (argBest bt (n-1)) v->(∀ b o,b∉wr->b≠S->s.heap.get? b=some o->h'.get? b=some o)->R (.ok (.ret v)) { s with heap:=h',toks:=tk }) ->
    codeAny (model prog w) A (.builtin "max.loop" ⟨[.ref I,.none,.ref S],[]⟩) R s:=by
  have nW:S∉wr:=fun z=>nS (W.sub _ z)
  have nm:(toString "max" ++ toString ".loop" : String) = "max.loop" := by decide
  intro left;induction left with
  | zero =>
    intro at_ s bst c e1 e2 g st pb hS fin;have en:at_+1=n:=by omega
    refine codeAny_builtin PySem.F.entry_max_loop ?_;rw [Around.under_plainId PySem.F.plain_max_loop _];show wpAny _ A.in1 (seqItems? (.ref S)>>=_) _ _ s;refine wpAny_bind (wpAny_seqItems hS rfl ?_);show wpAny _ A.in1 (tryCatch (pyNext (.ref I)) _>>=_) _ _ s;refine wpAny_bind (wpAny_tryCatch (W.done s _ _ (en ▸ st) fun h' tk kp=>?_));have hS2:=kp S _ nW hS;show wpAny _ A.in1 (updateSeq S (fun _=>#[])>>=_) _ _ _;exact wpAny_bind (wpAny_updateSeq hS2 rfl (wpAny_bind (wpAny_letGo (wpAny_pure (fin bst _ tk (by rw [<- en];exact pb) fun b o nb ns e=>(Heap.get?_update_other _ _ (Ne.symm ns)).trans (kp b o nb e))))))
  | succ left ih =>
    intro at_ s bst c e1 e2 g st pb hS fin;have lt:at_+1 < n:=by omega
    refine codeAny_builtin PySem.F.entry_max_loop ?_;rw [Around.under_plainId PySem.F.plain_max_loop _];show wpAny _ A.in1 (seqItems? (.ref S)>>=_) _ _ s;refine wpAny_bind (wpAny_seqItems hS rfl ?_);show wpAny _ A.in1 (tryCatch (pyNext (.ref I)) _>>=_) _ _ s;refine wpAny_bind (wpAny_tryCatch (W.item (at_+1) s _ _ lt st fun v h' tk pv st2 kp=>?_));have hS2:=kp S _ nW hS;have g2:Gd h':=hG _ _ g fun b o nb _ e=>kp b o nb e
    show wpAny _ A.in1 (tryCatch (holding [v,v] (richCompare .Gt v bst>>=_)) _>>=_) _ _ _;refine wpAny_bind (wpAny_tryCatch (wpAny_holding (wpAny_bind (cm (at_+1) (argBest bt at_) v bst _ _ _ g2 pv pb ?_))));refine wpAny_bind (wpAny_holding (wpAny_truthy_bool (wpAny_bind (wpAny_letGo (wpAny_pure ?_)))));cases hb:bt (at_+1) (argBest bt at_) with
    | true =>
      simp only [if_true];refine wpAny_bind (wpAny_updateSeq hS2 rfl (wpAny_bind (wpAny_letGo ?_)));rw [nm];refine wpAny_pure ⟨plainId_quiet PySem.F.plain_max_loop _,ih (at_+1) _ v _ (by omega) lt (hG _ _ g2 fun b o _ ns e=>(Heap.get?_update_other _ _ (Ne.symm ns)).trans e) (W.frame _ _ _ st2 fun b hf o e=>(Heap.get?_update_other _ _ (fun z:S=b=>nS (by rw [z];exact hf))).trans e) (by simp only [argBest,hb,if_true];exact pv) (Heap.get?_update_self _ hS2 rfl)
        fun v' h2 tk2 pv' kp2=>fin v' h2 tk2 pv' fun b o nb ns e=>kp2 b o nb ns ((Heap.get?_update_other _ _ (Ne.symm ns)).trans (kp b o nb e))⟩
    | false =>
      simp only [Bool.false_eq_true,if_false];refine wpAny_bind (wpAny_letGo ?_);rw [nm];exact wpAny_pure ⟨plainId_quiet PySem.F.plain_max_loop _,ih (at_+1) _ bst c (by omega) lt g2 st2 (by simp only [argBest,hb,Bool.false_eq_true,if_false];exact pb) hS2 fun v' h2 tk2 pv' kp2=>fin v' h2 tk2 pv' fun b o nb ns e=>kp2 b o nb ns (kp b o nb e)⟩
theorem xc {x:Value} {Q:Value->Shared->Prop} {E:Value->Shared->Prop} {s:Shared}
    (h:wpAny (model prog w) A.in1 (pyIter x) (fun it s₂=>∃ I fp wr n P St bt Gd,it=.ref I/\Walks prog w A.in1 I fp wr n P St/\St 0 s₂.heap/\(∀ b∈fp,b < s₂.heap.objs.size)/\0 < n/\xr prog w A.in1 .Gt P bt Gd/\Gd s₂.heap /\
      (∀ h h',Gd h->(∀ b o,b∉wr->b≠s₂.heap.objs.size->h.get? b=some o->h'.get? b=some o)->Gd h') /\
      ∀ v h' tk,P (argBest bt (n-1)) v->(∀ b o,b∉wr->s₂.heap.get? b=some o->h'.get? b=some o)->Q v { s₂ with heap:=h',toks:=tk }) E s) :
    wpAny (model prog w) A (call (.builtin "max") [x]) Q E s:=by
  have nm:(toString "max" ++ toString ".loop" : String) = "max.loop" := by decide
  refine call_function_tree PySem.F.kind_max PySem.F.plain_max PySem.F.entry_max (PySem.F.args_max1 _) ?_;show wpAny _ A.in1 (Builtin.Builtins.bindParams "max" ["key","default"] 0 ⟨[],[]⟩>>=_) _ _ s;refine wpAny_bind (wpAny_of_eq (show Builtin.Builtins.bindParams "max" ["key","default"] 0 ⟨[],[]⟩=pure [none,none] from rfl) ?_);refine wpAny_bind (wpAny_pure ?_);refine wpAny_bind (wpAny_mono h (fun it s₂ q=>?_) fun _ _ e=>e);obtain ⟨I,fp,wr,n,P,St,bt,Gd,rfl,W,st,hfp,hn,cm,g,hG,fin⟩:=q;refine wpAny_bind (wpAny_newObj_type ?_);have nS:s₂.heap.objs.size∉fp:=fun z=>Nat.lt_irrefl _ (hfp _ z)
  have nW:s₂.heap.objs.size∉wr:=fun z=>nS (W.sub _ z)
  rw [nm];refine wpAny_pure ⟨plainId_quiet PySem.F.plain_max_loop _,?_⟩;have gp:Gd (s₂.heap.push { cls:=.type "list",data:=.seq #[] }):=hG _ _ g fun b o _ _ e=>Heap.get?_push_of_some _ e
  have stp:=W.frame 0 _ (s₂.heap.push { cls:=.type "list",data:=.seq #[] }) st fun b _ o e=>Heap.get?_push_of_some _ e
  have hS:(s₂.heap.push { cls:=.type "list",data:=.seq #[] }).get? s₂.heap.objs.size=some { cls:=.type "list",dict:=none,data:=.seq #[] 0,slots:=#[] }:=Heap.get?_push_size _ rfl;refine codeAny_builtin PySem.F.entry_max_loop ?_;rw [Around.under_plainId PySem.F.plain_max_loop _];show wpAny _ A.in1 (seqItems? (.ref s₂.heap.objs.size)>>=_) _ _ _;refine wpAny_bind (wpAny_seqItems hS rfl ?_);show wpAny _ A.in1 (tryCatch (pyNext (.ref I)) _>>=_) _ _ _;refine wpAny_bind (wpAny_tryCatch (W.item 0 _ _ _ hn stp fun v h' tk pv st2 kp=>?_));have hS2:=kp _ _ nW hS;show wpAny _ A.in1 (updateSeq s₂.heap.objs.size (fun _=>#[v,v])>>=_) _ _ _;refine wpAny_bind (wpAny_updateSeq hS2 rfl ?_);rw [nm];refine wpAny_pure ⟨plainId_quiet PySem.F.plain_max_loop _,wK W bt cm s₂.heap.objs.size nS hG _ 0 _ v _ rfl hn (hG _ _ gp fun b o nb ns e=>(Heap.get?_update_other _ _ (Ne.symm ns)).trans (kp b o nb e)) (W.frame _ _ _ st2 fun b hf o e=>(Heap.get?_update_other _ _ (fun z:s₂.heap.objs.size=b=>nS (by rw [z];exact hf))).trans e) pv (Heap.get?_update_self _ hS2 rfl) fun v' h2 tk2 pv' kp2=>?_⟩;exact fin v' h2 tk2 pv' fun b o nb e=>kp2 b o nb (Nat.ne_of_lt (Heap.lt_size e)) ((Heap.get?_update_other _ _ (Nat.ne_of_gt (Heap.lt_size e))).trans (kp b o nb (Heap.get?_push_of_some _ e)))
theorem xp (W:Walks prog w A.in1 I fp wr n P St) (bt:Nat->Nat->Bool) (cm:xr prog w A.in1 .Lt P bt Gd) (S:Addr) (nS:S∉fp) (hG:∀ h h',Gd h->(∀ b o,b∉wr->b≠S->h.get? b=some o->h'.get? b=some o)->Gd h') :
    ∀ (left at_:Nat) (s:Shared) (bst:Value) (c:Nat),n-(at_+1)=left->at_+1<=n->Gd s.heap->St (at_+1) s.heap->P (argBest bt at_) bst ->
    s.heap.get? S=some { cls:=.type "list",dict:=none,data:=.seq #[bst,bst] c,slots:=#[] } ->
    (∀ v h' tk,P (argBest bt (n-1)) v->(∀ b o,b∉wr->b≠S->s.heap.get? b=some o->h'.get? b=some o)->R (.ok (.ret v)) { s with heap:=h',toks:=tk }) ->
    codeAny (model prog w) A (.builtin "min.loop" ⟨[.ref I,.none,.ref S],[]⟩) R s:=by
  have nW:S∉wr:=fun z=>nS (W.sub _ z)
  have nm:(toString "min" ++ toString ".loop" : String) = "min.loop" := by decide
  intro left;induction left with
  | zero =>
    intro at_ s bst c e1 e2 g st pb hS fin;have en:at_+1=n:=by omega
    refine codeAny_builtin PySem.F.entry_min_loop ?_;rw [Around.under_plainId PySem.F.plain_min_loop _];show wpAny _ A.in1 (seqItems? (.ref S)>>=_) _ _ s;refine wpAny_bind (wpAny_seqItems hS rfl ?_);show wpAny _ A.in1 (tryCatch (pyNext (.ref I)) _>>=_) _ _ s;refine wpAny_bind (wpAny_tryCatch (W.done s _ _ (en ▸ st) fun h' tk kp=>?_));have hS2:=kp S _ nW hS;show wpAny _ A.in1 (updateSeq S (fun _=>#[])>>=_) _ _ _;exact wpAny_bind (wpAny_updateSeq hS2 rfl (wpAny_bind (wpAny_letGo (wpAny_pure (fin bst _ tk (by rw [<- en];exact pb) fun b o nb ns e=>(Heap.get?_update_other _ _ (Ne.symm ns)).trans (kp b o nb e))))))
  | succ left ih =>
    intro at_ s bst c e1 e2 g st pb hS fin;have lt:at_+1 < n:=by omega
    refine codeAny_builtin PySem.F.entry_min_loop ?_;rw [Around.under_plainId PySem.F.plain_min_loop _];show wpAny _ A.in1 (seqItems? (.ref S)>>=_) _ _ s;refine wpAny_bind (wpAny_seqItems hS rfl ?_);show wpAny _ A.in1 (tryCatch (pyNext (.ref I)) _>>=_) _ _ s;refine wpAny_bind (wpAny_tryCatch (W.item (at_+1) s _ _ lt st fun v h' tk pv st2 kp=>?_));have hS2:=kp S _ nW hS;have g2:Gd h':=hG _ _ g fun b o nb _ e=>kp b o nb e
    show wpAny _ A.in1 (tryCatch (holding [v,v] (richCompare .Lt v bst>>=_)) _>>=_) _ _ _;refine wpAny_bind (wpAny_tryCatch (wpAny_holding (wpAny_bind (cm (at_+1) (argBest bt at_) v bst _ _ _ g2 pv pb ?_))));refine wpAny_bind (wpAny_holding (wpAny_truthy_bool (wpAny_bind (wpAny_letGo (wpAny_pure ?_)))));cases hb:bt (at_+1) (argBest bt at_) with
    | true =>
      simp only [if_true];refine wpAny_bind (wpAny_updateSeq hS2 rfl (wpAny_bind (wpAny_letGo ?_)));rw [nm];refine wpAny_pure ⟨plainId_quiet PySem.F.plain_min_loop _,ih (at_+1) _ v _ (by omega) lt (hG _ _ g2 fun b o _ ns e=>(Heap.get?_update_other _ _ (Ne.symm ns)).trans e) (W.frame _ _ _ st2 fun b hf o e=>(Heap.get?_update_other _ _ (fun z:S=b=>nS (by rw [z];exact hf))).trans e) (by simp only [argBest,hb,if_true];exact pv) (Heap.get?_update_self _ hS2 rfl)
        fun v' h2 tk2 pv' kp2=>fin v' h2 tk2 pv' fun b o nb ns e=>kp2 b o nb ns ((Heap.get?_update_other _ _ (Ne.symm ns)).trans (kp b o nb e))⟩
    | false =>
      simp only [Bool.false_eq_true,if_false];refine wpAny_bind (wpAny_letGo ?_);rw [nm];exact wpAny_pure ⟨plainId_quiet PySem.F.plain_min_loop _,ih (at_+1) _ bst c (by omega) lt g2 st2 (by simp only [argBest,hb,Bool.false_eq_true,if_false];exact pb) hS2 fun v' h2 tk2 pv' kp2=>fin v' h2 tk2 pv' fun b o nb ns e=>kp2 b o nb ns (kp b o nb e)⟩
theorem wv {x:Value} {Q:Value->Shared->Prop} {E:Value->Shared->Prop} {s:Shared}
    (h:wpAny (model prog w) A.in1 (pyIter x) (fun it s₂=>∃ I fp wr n P St bt Gd,it=.ref I/\Walks prog w A.in1 I fp wr n P St/\St 0 s₂.heap/\(∀ b∈fp,b < s₂.heap.objs.size)/\0 < n/\xr prog w A.in1 .Lt P bt Gd/\Gd s₂.heap /\
      (∀ h h',Gd h->(∀ b o,b∉wr->b≠s₂.heap.objs.size->h.get? b=some o->h'.get? b=some o)->Gd h') /\
      ∀ v h' tk,P (argBest bt (n-1)) v->(∀ b o,b∉wr->s₂.heap.get? b=some o->h'.get? b=some o)->Q v { s₂ with heap:=h',toks:=tk }) E s) :
    wpAny (model prog w) A (call (.builtin "min") [x]) Q E s:=by
  have nm:(toString "min" ++ toString ".loop" : String) = "min.loop" := by decide
  refine call_function_tree PySem.F.kind_min PySem.F.plain_min PySem.F.entry_min (PySem.F.args_min1 _) ?_;show wpAny _ A.in1 (Builtin.Builtins.bindParams "min" ["key","default"] 0 ⟨[],[]⟩>>=_) _ _ s;refine wpAny_bind (wpAny_of_eq (show Builtin.Builtins.bindParams "min" ["key","default"] 0 ⟨[],[]⟩=pure [none,none] from rfl) ?_);refine wpAny_bind (wpAny_pure ?_);refine wpAny_bind (wpAny_mono h (fun it s₂ q=>?_) fun _ _ e=>e);obtain ⟨I,fp,wr,n,P,St,bt,Gd,rfl,W,st,hfp,hn,cm,g,hG,fin⟩:=q;refine wpAny_bind (wpAny_newObj_type ?_);have nS:s₂.heap.objs.size∉fp:=fun z=>Nat.lt_irrefl _ (hfp _ z)
  have nW:s₂.heap.objs.size∉wr:=fun z=>nS (W.sub _ z)
  rw [nm];refine wpAny_pure ⟨plainId_quiet PySem.F.plain_min_loop _,?_⟩;have gp:Gd (s₂.heap.push { cls:=.type "list",data:=.seq #[] }):=hG _ _ g fun b o _ _ e=>Heap.get?_push_of_some _ e
  have stp:=W.frame 0 _ (s₂.heap.push { cls:=.type "list",data:=.seq #[] }) st fun b _ o e=>Heap.get?_push_of_some _ e
  have hS:(s₂.heap.push { cls:=.type "list",data:=.seq #[] }).get? s₂.heap.objs.size=some { cls:=.type "list",dict:=none,data:=.seq #[] 0,slots:=#[] }:=Heap.get?_push_size _ rfl;refine codeAny_builtin PySem.F.entry_min_loop ?_;rw [Around.under_plainId PySem.F.plain_min_loop _];show wpAny _ A.in1 (seqItems? (.ref s₂.heap.objs.size)>>=_) _ _ _;refine wpAny_bind (wpAny_seqItems hS rfl ?_);show wpAny _ A.in1 (tryCatch (pyNext (.ref I)) _>>=_) _ _ _;refine wpAny_bind (wpAny_tryCatch (W.item 0 _ _ _ hn stp fun v h' tk pv st2 kp=>?_));have hS2:=kp _ _ nW hS;show wpAny _ A.in1 (updateSeq s₂.heap.objs.size (fun _=>#[v,v])>>=_) _ _ _;refine wpAny_bind (wpAny_updateSeq hS2 rfl ?_);rw [nm];refine wpAny_pure ⟨plainId_quiet PySem.F.plain_min_loop _,xp W bt cm s₂.heap.objs.size nS hG _ 0 _ v _ rfl hn (hG _ _ gp fun b o nb ns e=>(Heap.get?_update_other _ _ (Ne.symm ns)).trans (kp b o nb e)) (W.frame _ _ _ st2 fun b hf o e=>(Heap.get?_update_other _ _ (fun z:s₂.heap.objs.size=b=>nS (by rw [z];exact hf))).trans e) pv (Heap.get?_update_self _ hS2 rfl) fun v' h2 tk2 pv' kp2=>?_⟩;exact fin v' h2 tk2 pv' fun b o nb e=>kp2 b o nb (Nat.ne_of_lt (Heap.lt_size e)) ((Heap.get?_update_other _ _ (Nat.ne_of_gt (Heap.lt_size e))).trans (kp b o nb (Heap.get?_push_of_some _ e)))
end
noncomputable def ez (p:List Int->List Int->Bool) (r:List Int) (rs:List (List Int)):List Int:=rs.foldl (fun a b=>if p b a=true then b else a) r
theorem rp {p:List Int->List Int->Bool} {rows:List (List Int)}:∀ k:Nat,k < rows.length->argBest (fun i j=>p (rows.getD i []) (rows.getD j [])) k<=k/\rows.getD (argBest (fun i j=>p (rows.getD i []) (rows.getD j [])) k) []=ez p (rows.getD 0 []) ((rows.drop 1).take k)
  | 0,_=>⟨Nat.le_refl _,rfl⟩
  | k+1,h=>by
    obtain ⟨h1,h2⟩:=rp (p:=p) (rows:=rows) k (by omega);have e:(rows.drop 1).take (k+1)=(rows.drop 1).take k++[rows.getD (k+1) []]:=by
      rw [List.take_succ,List.getElem?_drop,List.getElem?_eq_getElem (show 1+k < rows.length by omega)];have e0:rows.getD (k+1) []=rows[1+k]'(by omega):=by
        rw [List.getD_eq_getElem?_getD,List.getElem?_eq_getElem h];simp [Nat.add_comm]
      rw [e0];rfl
    have e2:ez p (rows.getD 0 []) ((rows.drop 1).take (k+1))=if p (rows.getD (k+1) []) (ez p (rows.getD 0 []) ((rows.drop 1).take k))=true then rows.getD (k+1) [] else ez p (rows.getD 0 []) ((rows.drop 1).take k):=by
      rw [e];unfold ez;rw [List.foldl_append];rfl
    rw [e2,<- h2];generalize hb:(fun i j=>p (rows.getD i []) (rows.getD j []))=bt at h1 ⊢;have hc:bt (k+1) (argBest bt k)=p (rows.getD (k+1) []) (rows.getD (argBest bt k) []):=by rw [<- hb]
    rw [show argBest bt (k+1)=if bt (k+1) (argBest bt k)=true then k+1 else argBest bt k from rfl,hc];split
    · exact ⟨Nat.le_refl _,rfl⟩
    · exact ⟨Nat.le_succ_of_le h1,rfl⟩
noncomputable def dm (H:Hp):List V->List (List Int)->Prop
  | [],rs=>rs=[]
  | v::vs,rs=>∃ a r rs',v=.ref a/\rs=r::rs'/\H a=some (.tup (r.map V.int))/\dm H vs rs'
theorem dm.len {H:Hp}:∀ {vs:List V} {rs:List (List Int)},dm H vs rs->vs.length=rs.length
  | [],rs,h=>by simp only [dm] at h;rw [h];rfl
  | v::vs,rs,h=>by
    simp only [dm] at h;obtain ⟨a,r,rs',_,rfl,_,t⟩:=h;rw [List.length_cons,List.length_cons,t.len]
theorem dm.get {H:Hp}:∀ {vs:List V} {rs:List (List Int)} {i:Nat},dm H vs rs->i < rs.length->∃ a,vs[i]?=some (.ref a)/\H a=some (.tup ((rs.getD i []).map V.int))
  | [],rs,i,h,hi=>by simp only [dm] at h;rw [h] at hi;simp at hi
  | v::vs,rs,i,h,hi=>by
    simp only [dm] at h;obtain ⟨a,r,rs',rfl,rfl,ha,t⟩:=h;cases i with
    | zero=>exact ⟨a,rfl,ha⟩
    | succ i =>
      obtain ⟨b,h1,h2⟩:=t.get (i:=i) (by simpa using hi);exact ⟨b,by simpa using h1,by simpa using h2⟩
section
variable {X:Cx}
theorem rY {pins:List (Addr×Obj)} {σ:L2.St} {H:Hp} {s:Shared} (I:az X pins σ H s) {a:Addr} {r:List Int} (ha:H a=some (.tup (r.map V.int))):∃ items,IsTup s.heap a items/\IntsAre items.toList r:=by
  obtain ⟨its,r1,p1,_⟩:=I.tuple (eV.of ha);exact ⟨its.toArray,p1,dl r1⟩
theorem IsTup.kept {h h':Heap} {a:Addr} {items:Array Value} (t:IsTup h a items) (k:∀ o,h.get? a=some o->h'.get? a=some o):IsTup h' a items:=by
  obtain ⟨o,e,q⟩:=t;exact ⟨o,k o e,q⟩
theorem lI {m:String} {p:List Int->List Int->Bool} (hc:X.calm=true)
    (wk:∀ {x:Value} {Q E:Value->Shared->Prop} {s:Shared},wpAny (model X.prog X.w) X.A.in1 (pyIter x) (fun it s₂=>∃ (I:Addr) (fp wr:List Addr) (n:Nat) (P:Nat->Value->Prop) (St:Nat->Heap->Prop) (bt:Nat->Nat->Bool) (Gd:Heap->Prop),it=.ref I/\Walks X.prog X.w X.A.in1 I fp wr n P St/\St 0 s₂.heap/\(∀ b∈fp,b < s₂.heap.objs.size)/\0 < n/\(∀ (i j:Nat) (u v:Value) (s:Shared) (Q E:Value->Shared->Prop),Gd s.heap->P i u->P j v->Q (.bool (bt i j)) s->(∃ a b r1 r2 items items2,u=.ref a/\v=.ref b/\bt i j=p r1 r2/\IsTup s.heap a items/\IsTup s.heap b items2/\IntsAre items.toList r1/\IntsAre items2.toList r2))/\Gd s₂.heap /\
      (∀ h h':Heap,Gd h->(∀ b o,b∉wr->b≠s₂.heap.objs.size->h.get? b=some o->h'.get? b=some o)->Gd h') /\
      ∀ v h' tk,P (argBest bt (n-1)) v->(∀ b o,b∉wr->s₂.heap.get? b=some o->h'.get? b=some o)->Q v { s₂ with heap:=h',toks:=tk }) E s->wpAny (model X.prog X.w) X.A (call (.builtin m) [x]) Q E s) :
    cL X (.builtin m) (fun xs H Q=>∃ l vs r rs,xs=[.ref l]/\jr X.K H l vs/\dm H vs (r::rs)/\∀ a,H a=some (.tup ((ez p r rs).map V.int))->Q (.ref a) H):=by
  intro pins s σ H xs us Q I r0 h;obtain ⟨l,vs,r,rs,rfl,hq,hr,q⟩:=h;obtain ⟨u,rfl,rx⟩:=e8 r0;cases rx;obtain ⟨its,rv,pl,hz⟩:=I.list hq;have hh:X.A.in1.handled=none:=I.ok.hd hc;have hlt:l < s.heap.objs.size:=by obtain ⟨o,e,_⟩:=pl.isList;exact Heap.lt_size e
  have hlen:its.length=(r::rs).length:=by rw [<- rv.length,hr.len]
  have at_:∀ (i:Nat) (v:Value),its.toArray[i]?=some v->i < (r::rs).length/\∃ a,v=.ref a/\H a=some (.tup (((r::rs).getD i []).map V.int)):=fun i v e=>by
    have e':its[i]?=some v:=by simpa using e
    have hi:i < its.length:=(List.getElem?_eq_some_iff.mp e').1;rw [hlen] at hi;obtain ⟨a,e1,e2⟩:=hr.get hi;obtain ⟨w,e3,e4⟩:=rv.get e1;rw [e'] at e3;cases e3;cases e4;exact ⟨hi,a,rfl,e2⟩
  have old:∀ {a r'},H a=some (.tup r')->a < s.heap.objs.size:=fun {a r'} e=>Nat.lt_of_not_le fun z=>by
    rw [I.hok.fresh z] at e;cases e
  refine wk (wpAny_pyIter_list pl.isList ?_);refine ⟨s.heap.objs.size,_,_,its.toArray.size,_,_,fun i j=>p ((r::rs).getD i []) ((r::rs).getD j []),fun h=>∀ a r',H a=some (.tup (r'.map V.int))->∃ items,IsTup h a items/\IntsAre items.toList r',rfl,Walks.list hh s.heap.objs.size l (Nat.ne_of_lt hlt) its.toArray,⟨⟨_,Heap.get?_push_size _ rfl,rfl,rfl⟩,?_⟩,fun b hb=>?_,by rw [List.size_toArray,hlen];simp,fun i j u v s' Q' E' g pu pv _=>?_,fun a r' ha=>?_,fun h h' g k a r' ha=>?_,fun v h' tk pv kp=>?_⟩
  · obtain ⟨o,e,r'⟩:=pl.isList;exact ⟨o,Heap.get?_push_of_some _ e,r'⟩
  · have hs:(s.heap.push { cls:=.type "list_iterator",data:=.fields #[.ref l,rawInt 0] }).objs.size=s.heap.objs.size+1:=Heap.size_push ..;show b < (s.heap.push { cls:=.type "list_iterator",data:=.fields #[.ref l,rawInt 0] }).objs.size;rw [hs];simp at hb;rcases hb with rfl | rfl
    · exact Nat.lt_succ_self _
    · exact Nat.lt_succ_of_lt hlt
  · obtain ⟨_,a,rfl,ha⟩:=at_ i u pu;obtain ⟨_,b,rfl,hb⟩:=at_ j v pv;obtain ⟨i1,t1,n1⟩:=g a _ ha;obtain ⟨i2,t2,n2⟩:=g b _ hb;exact ⟨a,b,_,_,i1,i2,rfl,rfl,rfl,t1,t2,n1,n2⟩
  · obtain ⟨items,t,n⟩:=rY I ha;exact ⟨items,IsTup.kept t fun o e=>Heap.get?_push_of_some _ e,n⟩
  · obtain ⟨items,t,n⟩:=g a r' ha;have hs:(s.heap.push { cls:=.type "list_iterator",data:=.fields #[.ref l,rawInt 0] }).objs.size=s.heap.objs.size+1:=Heap.size_push ..;have hlo:=old ha;refine ⟨items,IsTup.kept t fun o e=>k a o (fun z=>Nat.lt_irrefl _ (by have z':=List.mem_singleton.mp z;rw [z'] at hlo;exact hlo)) (fun z=>?_) e,n⟩;have z':a=(s.heap.push { cls:=.type "list_iterator",data:=.fields #[.ref l,rawInt 0] }).objs.size:=z;rw [hs] at z';rw [z'] at hlo;exact Nat.lt_irrefl _ (Nat.lt_of_succ_lt hlo)
  · obtain ⟨b1,b2⟩:=rp (p:=p) (rows:=r::rs) rs.length (by simp);have hn:its.toArray.size-1=rs.length:=by rw [List.size_toArray,hlen];simp
    rw [hn] at pv;obtain ⟨_,a,rfl,ha⟩:=at_ _ v pv;rw [b2] at ha;have e3:((r::rs).drop 1).take rs.length=rs:=by simp
    rw [e3] at ha;refine ⟨.ref a,H,I.kept (t':=tk) fun b o e=>kp b o (fun z=>?_) (Heap.get?_push_of_some _ e),rfl,q a ha⟩;rw [List.mem_singleton.mp z] at e;exact absurd (Heap.lt_size e) (Nat.lt_irrefl _)
theorem sU (hc:X.calm=true) (hu:X.A.units+64 < cLine):cL X (.builtin "max") (fun xs H Q=>∃ l vs r rs,xs=[.ref l]/\jr X.K H l vs/\dm H vs (r::rs)/\∀ a,H a=some (.tup ((ez (fun b a=>HT.lexLt a b) r rs).map V.int))->Q (.ref a) H) :=
  lI hc fun {x Q E s} h=>xc (wpAny_mono h (fun it s₂ ⟨I,fp,wr,n,P,St,bt,Gd,e,W,st,hfp,hn,cm,g,hG,fin⟩=>⟨I,fp,wr,n,P,St,bt,Gd,e,W,st,hfp,hn,fun i j u v s Q E g' pu pv hQ=>by
    obtain ⟨a,b,r1,r2,i1,i2,rfl,rfl,eb,t1,t2,n1,n2⟩:=cm i j u v s Q E g' pu pv hQ;exact HT.gt_tupInts (A:=X.A.in1) t1 t2 n1 n2 (show X.A.units+1 < cLine by omega) (by rw [<- eb];exact hQ),g,hG,fin⟩) fun _ _ e=>e)
theorem sW (hc:X.calm=true) (hu:X.A.units+64 < cLine):cL X (.builtin "min") (fun xs H Q=>∃ l vs r rs,xs=[.ref l]/\jr X.K H l vs/\dm H vs (r::rs)/\∀ a,H a=some (.tup ((ez (fun b a=>HT.lexLt b a) r rs).map V.int))->Q (.ref a) H) :=
  lI hc fun {x Q E s} h=>wv (wpAny_mono h (fun it s₂ ⟨I,fp,wr,n,P,St,bt,Gd,e,W,st,hfp,hn,cm,g,hG,fin⟩=>⟨I,fp,wr,n,P,St,bt,Gd,e,W,st,hfp,hn,fun i j u v s Q E g' pu pv hQ=>by
    obtain ⟨a,b,r1,r2,i1,i2,rfl,rfl,eb,t1,t2,n1,n2⟩:=cm i j u v s Q E g' pu pv hQ;exact HT.lt_tupInts (A:=X.A.in1) t1 t2 n1 n2 (show X.A.units+1 < cLine by omega) (by rw [<- eb];exact hQ),g,hG,fin⟩) fun _ _ e=>e)
end
noncomputable def fy:List PyData->Option (List (List Int))
  | []=>some []
  | .tuple ds::r=>match aN ds,fy r with
    | some ns,some rs=>some (ns::rs)
    | _,_=>none
  | _=>none
noncomputable def rz:PyData->R PyData
  | .list ds=>match fy ds with
    | some (r::rs)=>.ok (.tuple ((ez (fun b a=>HT.lexLt a b) r rs).map .int))
    | _=>.no
  | _=>.no
noncomputable def qF:PyData->R PyData
  | .list ds=>match fy ds with
    | some (r::rs)=>.ok (.tuple ((ez (fun b a=>HT.lexLt b a) r rs).map .int))
    | _=>.no
  | _=>.no
theorem mH {H:Hp}:∀ {ds:List PyData} {vs:List V} {rs:List (List Int)},bd H ds vs->fy ds=some rs->dm H vs rs
  | [],vs,rs,r,e=>by
    cases e;rw [r.nil_inv];simp only [dm]
  | d::ds,vs,rs,r,e=>by
    obtain ⟨v,r',rfl,p,t⟩:=r.cons_inv;cases d with
    | tuple es =>
      simp only [fy] at e;cases e1:aN es with
      | none=>rw [e1] at e;cases e
      | some ns =>
        cases e2:fy ds with
        | none=>rw [e1,e2] at e;cases e
        | some rs' =>
          rw [e1,e2] at e;cases e;simp only [Rp] at p;obtain ⟨a,ws,rfl,ha,q⟩:=p;rw [cF e1] at q;rw [eJ q] at ha;simp only [dm];exact ⟨a,ns,rs',rfl,rfl,ha,mH t e2⟩
    | _=>cases e
section
variable {X:Cx} {a b c:Expr} {fa fb fc:Fe} {pos p2:Pos} {nl:Nat} {G:List Str} {x:Str} {p:Pos}
theorem iQ {H:Hp}:∀ ns:List Int,bd H (ns.map .int) (ns.map V.int)
  | []=>bd.nil
  | n::ns=>bd.cons cy (iQ ns)
theorem ss (T:Tb X nl G) (j:Nat) (hG:G[j]?=some ("max" : Str)) (hm:X.mg "max" = none) (ha:Z.di X a fa) (he:aV a=true:=by rfl):Z.cJ X (.Call (.Name "max" p) [a] [] pos) (e1 rz fa):=⟨have ha:=ha.un;by
  refine uK T j hG hm fD PyProof.Rows.boot_max (sU T.calm T.hu) (fun H x d Q hx q=>?_) ha he;cases d with
  | list ds =>
    simp only [rz] at q;split at q
    · rename_i r rs er;obtain ⟨a',vs,rfl,h,r'⟩:=cH (K:=X.K) hx;refine ⟨a',vs,r,rs,rfl,h,mH r' er,fun b hb=>q _ H (ar.refl _) ?_⟩;simp only [Rp];exact ⟨b,_,rfl,hb,iQ _⟩
    · exact q.elim
  | _=>exact q.elim⟩
theorem sS (T:Tb X nl G) (j:Nat) (hG:G[j]?=some ("min" : Str)) (hm:X.mg "min" = none) (ha:Z.di X a fa) (he:aV a=true:=by rfl):Z.cJ X (.Call (.Name "min" p) [a] [] pos) (e1 qF fa):=⟨have ha:=ha.un;by
  refine uK T j hG hm fD PyProof.Rows.boot_min (sW T.calm T.hu) (fun H x d Q hx q=>?_) ha he;cases d with
  | list ds =>
    simp only [qF] at q;split at q
    · rename_i r rs er;obtain ⟨a',vs,rfl,h,r'⟩:=cH (K:=X.K) hx;refine ⟨a',vs,r,rs,rfl,h,mH r' er,fun b hb=>q _ H (ar.refl _) ?_⟩;simp only [Rp];exact ⟨b,_,rfl,hb,iQ _⟩
    · exact q.elim
  | _=>exact q.elim⟩
end
theorem sv {P:Program} {w:World} {K:PySem.W.Frag} {mg:Str->Option Value} {base:Heap} {x qual:Str} {st:Stmt} {f:Addr} {fd:FuncData} {N ps:List Str} {k:Nat} {g:Fs} (F:ip K x qual st f fd) (S:bn N ps (am st))
    (body:∀ (cdv:Value) (A:Around) (outer:List Env) (s:Shared) (H:Hp) (E:XK),eS k (A.deeper (envOfC qual (am st) s.heap.objs.size f cdv)) ->
      Z.jC (dS (dE P w mg) P w K mg base N qual (am st) f cdv A outer s H E) (bZ st) g):bC P w K mg base (dE P w mg) (k+1) f fd ps (eU (eX N.length g) ps.length) :=
  D2.vW F S fun cdv A outer s H E hr=>(body cdv A outer s H E hr).un
theorem aR {P:Program} {w:World} {K:PySem.W.Frag} {mg:Str->Option Value} {base:Heap} {x qual:Str} {st:Stmt} {f:Addr} {fd:FuncData} {N ps:List Str} {k:Nat} {g:Fs} {G:List Str} (F:ip K x qual st f fd) (S:bn N ps (am st)) (ck:qu (am st) N G)
    (body:∀ (cdv:Value) (A:Around) (outer:List Env) (s:Shared) (H:Hp) (E:XK),eS k (A.deeper (envOfC qual (am st) s.heap.objs.size f cdv))->Tb (dS (dE P w mg) P w K mg base N qual (am st) f cdv A outer s H E) N.length G ->
      Z.jC (dS (dE P w mg) P w K mg base N qual (am st) f cdv A outer s H E) (bZ st) g):bC P w K mg base (dE P w mg) (k+1) f fd ps (eU (eX N.length g) ps.length) :=
  sv F S fun cdv A outer s H E hr=>body cdv A outer s H E hr (zg hr ck)
noncomputable def j9 (K:PySem.W.Frag):Bool:=K.all fun p=>match p.2.cls with
  | .type n=>!(n == "list")
  | _=>true
theorem kT {α β:Type} [BEq α] {a:α} {o:β}:∀ {K:List (α×β)},K.lookup a=some o->∃ p∈K,p.2=o
  | [],e=>by cases e
  | (b,x)::r,e=>by
    rw [List.lookup_cons] at e;split at e
    · cases e;exact ⟨_,List.mem_cons_self,rfl⟩
    · obtain ⟨p,h1,h2⟩:=kT e;exact ⟨p,List.mem_cons_of_mem _ h1,h2⟩
theorem p9 {K:PySem.W.Frag} (h:j9 K=true) {a:Addr} {o:Obj} (e:K.lookup a=some o) (c:o.cls=.type "list"):False:=by
  obtain ⟨p,m,rfl⟩:=kT e;have q:=List.all_eq_true.mp h _ m;simp only [c] at q;simp at q
noncomputable def x6 (F:List PyData->R PyData):Prop:=∀ ns:List Int,ns.length<=63->F [.list (ns.map .int)]=.ok (.bool true)
theorem BR {l:PySem.W.OpenLaw} {q:Program} {loose:List Str} {XP:(Str->Option Value)->Heap->Prop} {YP:World->Heap->Prop} {d:DefRec} {K:Params->PySem.W.Frag} {k:Nat} {x:Str} {F:List PyData->R PyData} (hn:l.most=some 63) (hdf:d.params.defaults=[])
    (hr:eS k callerA) (hY:∀ (w:World) (h:Heap),YP w h->(K w.params).In h) (hF:x6 F)
    (G:∀ (w:World) (mg:Str->Option Value) (fa:Addr) (h:Heap),(K w.params).In h->h.Ns mainGlobals mg->mg d.name=some (.ref fa) ->
      j9 (K w.params)=true/\∃ fd:FuncData,(∀ (s:Shared) (u:Value),BindsTo s fd ⟨[u],[]⟩ [(x,u)])/\∀ base:Heap,(K w.params).In base->base.Ns mainGlobals mg->bC l.prog w (K w.params) mg base (dE l.prog w mg) k fa fd [x] (eU F 1)) :
    PySem.W.WalkO q loose XP YP l.row.toRowW d [] (fun f vs=>PySem.call f vs):=by
  refine Att.attach_call hn hdf fun w s₀ s₁ mg mb fa o pm cd doc a vs ns G0 Y ho hd hcd hmg hobj hints hlen hg=>?_
  have KX:=hY w _ Y;obtain ⟨nl,fd,hb,hG⟩:=G w mg fa _ KX G0.T.g hmg;refine L2.uC (sp:=eU F 1) KX G0.T.g G0.T.b G0.T.builtins G0.T.nolimit hg hobj hints (Nat.le_trans hlen (by decide)) hr hG hb (fun H hO hS=>?_) fun H e s' ⟨_,_,_,_,_,z⟩=>z
  refine ⟨[.list (ns.map .int)],bd.cons ?_ bd.nil,rfl,?_⟩
  · rcases hS with (h | ⟨o,h⟩) | ⟨o,its,n,h,c,_⟩
    · rcases hO a with z | ⟨o,xs,z⟩
      · rw [z] at h;cases h
      · rw [z] at h;cases h
    · simp only [Rp];exact ⟨a,o,_,rfl,h,bd.ints ns⟩
    · exact (p9 nl h c).elim
  · rw [hF ns hlen];intro v H' _ r;simpa only [Rp] using r
section
variable {K:PySem.W.Frag} {x qual:Str} {st:Stmt} {f:Addr} {fd:FuncData} {p1 p2 p3 p4 p5 p6 p7:Str}
theorem Bd (F:ip K x qual st f fd) (h:∀ (kV doc pm:Value) (an:Option Addr) (cdv ct:Value) (a1:Value),bindArgs (PySem.W.fnOf x qual (cU st) (bZ st) (am st) .none kV doc pm an cdv ct) ⟨[a1],[]⟩=pure [(p1,a1)]):bV K fd [p1] []:=F.binds fun kV doc pm an cdv ct us hl=>match us,hl with | [a1],_=>h kV doc pm an cdv ct a1
theorem zT (F:ip K x qual st f fd) (h:∀ (kV doc pm:Value) (an:Option Addr) (cdv ct:Value) (a1 a2:Value),bindArgs (PySem.W.fnOf x qual (cU st) (bZ st) (am st) .none kV doc pm an cdv ct) ⟨[a1,a2],[]⟩=pure [(p1,a1),(p2,a2)]):bV K fd [p1,p2] []:=F.binds fun kV doc pm an cdv ct us hl=>match us,hl with | [a1,a2],_=>h kV doc pm an cdv ct a1 a2
theorem BL (F:ip K x qual st f fd) (h:∀ (kV doc pm:Value) (an:Option Addr) (cdv ct:Value) (a1 a2 a3:Value),bindArgs (PySem.W.fnOf x qual (cU st) (bZ st) (am st) .none kV doc pm an cdv ct) ⟨[a1,a2,a3],[]⟩=pure [(p1,a1),(p2,a2),(p3,a3)]):bV K fd [p1,p2,p3] []:=F.binds fun kV doc pm an cdv ct us hl=>match us,hl with | [a1,a2,a3],_=>h kV doc pm an cdv ct a1 a2 a3
theorem Bm (F:ip K x qual st f fd) (h:∀ (kV doc pm:Value) (an:Option Addr) (cdv ct:Value) (a1 a2 a3 a4:Value),bindArgs (PySem.W.fnOf x qual (cU st) (bZ st) (am st) .none kV doc pm an cdv ct) ⟨[a1,a2,a3,a4],[]⟩=pure [(p1,a1),(p2,a2),(p3,a3),(p4,a4)]):bV K fd [p1,p2,p3,p4] []:=F.binds fun kV doc pm an cdv ct us hl=>match us,hl with | [a1,a2,a3,a4],_=>h kV doc pm an cdv ct a1 a2 a3 a4
theorem Ci (F:ip K x qual st f fd) (h:∀ (kV doc pm:Value) (an:Option Addr) (cdv ct:Value) (a1 a2 a3 a4 a5:Value),bindArgs (PySem.W.fnOf x qual (cU st) (bZ st) (am st) .none kV doc pm an cdv ct) ⟨[a1,a2,a3,a4,a5],[]⟩=pure [(p1,a1),(p2,a2),(p3,a3),(p4,a4),(p5,a5)]):bV K fd [p1,p2,p3,p4,p5] []:=F.binds fun kV doc pm an cdv ct us hl=>match us,hl with | [a1,a2,a3,a4,a5],_=>h kV doc pm an cdv ct a1 a2 a3 a4 a5
end
@[simp] theorem dj {α:Type} (a:α):lb (R.ok a)=.ok a:=(rfl)
noncomputable def Ah:uV->R PyData
  | .rt d=>.ok d
  | .nx _=>.ok .none
  | _=>.no
theorem ge (n:Nat) (g:Fs) (ds:List PyData):eX n g ds=(g (ds.map bm.val++List.replicate (n-ds.length) .non)>>=Ah):=by
  unfold eX;congr 1
@[simp] theorem Bq (d:PyData):Ah (.rt d)=.ok d:=(rfl)
section
variable (f g h:Fe) (ρ:aD) (i j:Nat) (t u:aD->R Bool) (a b:Fs) (fs:aD->R (List PyData)) (F:List PyData->R PyData) (d e:PyData)
@[simp] theorem cQ:eC d ρ=.ok d:=(rfl)
@[simp] theorem aw:ae 0 (.val d::ρ)=.ok d:=(rfl)
@[simp] theorem aq (c:bm):ae (i+1) (c::ρ)=ae i ρ:=(rfl)
@[simp] theorem rb:fP 0 (.own d::ρ)=.ok d:=(rfl)
@[simp] theorem rj (c:bm):fP (i+1) (c::ρ)=fP i ρ:=(rfl)
@[simp] theorem fT (k:PyData->R PyData):e1 k f ρ=(f ρ>>=fun x=>k x):=(rfl)
@[simp] theorem bE (k:PyData->PyData->R PyData):e2 k f g ρ=(f ρ>>=fun x=>g ρ>>=fun y=>k x y):=(rfl)
@[simp] theorem cP:tE f ρ=(f ρ>>=xZ):=(rfl)
@[simp] theorem cR (k:Bool):xZ (.bool k)=.ok k:=(rfl)
@[simp] theorem k0:gT t u ρ=(t ρ>>=fun k=>if k=true then u ρ else .ok false):=(rfl)
@[simp] theorem wo:vx t u ρ=(t ρ>>=fun k=>if k=true then .ok true else u ρ):=(rfl)
@[simp] theorem n6:nM t ρ=(t ρ>>=fun k=>.ok (!k)):=(rfl)
@[simp] theorem zr:Bl f g ρ=(f ρ>>=fun d=>xZ d>>=fun k=>if k=true then .ok (.bool true) else g ρ):=(rfl)
@[simp] theorem vD:zV t f g ρ=(t ρ>>=fun k=>if k=true then f ρ else g ρ):=(rfl)
@[simp] theorem aU:aC ρ=.ok []:=(rfl)
@[simp] theorem aL:ag f fs ρ=(f ρ>>=fun d=>fs ρ>>=fun ds=>.ok (d::ds)):=(rfl)
@[simp] theorem bz:bf F fs ρ=(fs ρ>>=F):=(rfl)
@[simp] theorem ib:gX fs ρ=(fs ρ>>=fun ds=>if ds.length<=sizeLine then .ok (.tuple ds) else .no):=(rfl)
@[simp] theorem jZ:fU fs ρ=(fs ρ>>=fun ds=>if ds.length<=sizeLine then .ok (.list ds) else .no):=(rfl)
@[simp] theorem gU:fq ρ=.ok none:=(rfl)
@[simp] theorem hJ:e9 f ρ=(f ρ>>=fun d=>Bn d>>=fun i=>.ok (some i)):=(rfl)
@[simp] theorem nC (k:Int):Bn (.int k)=.ok k:=(rfl)
@[simp] theorem kX (lo hi:Fo):qq f lo hi ρ=(f ρ>>=fun d=>lo ρ>>=fun l=>hi ρ>>=fun u=>vT d l u):=(rfl)
@[simp] theorem AF:cK ρ=.ok (.nx ρ):=(rfl)
@[simp] theorem qU:aY a b ρ=(a ρ>>=qI b):=(rfl)
@[simp] theorem Av:qI b (.nx ρ)=b ρ:=(rfl)
@[simp] theorem A1:qI b (.rt d)=.ok (.rt d):=(rfl)
@[simp] theorem c9:j8 t a b ρ=(t ρ>>=fun k=>if k=true then a ρ else b ρ):=(rfl)
@[simp] theorem dD:cW f ρ=(f ρ>>=fun d=>.ok (.rt d)):=(rfl)
@[simp] theorem bG:bo i f ρ=(f ρ>>=fun d=>.ok (.nx (ρ.set i (.val d)))):=(rfl)
@[simp] theorem qT:iO i f ρ=(f ρ>>=fun d=>.ok (.nx (ρ.set i (.own d)))):=(rfl)
@[simp] theorem cq:dw f ρ=(f ρ>>=jy):=(rfl)
@[simp] theorem lC:gY fs ρ=(fs ρ>>=kP):=(rfl)
@[simp] theorem nR:lB fs ρ=(fs ρ>>=pB):=(rfl)
@[simp] theorem gx (ds:List PyData):jy (.tuple ds)=.ok ds:=(rfl)
@[simp] theorem o9 (ds:List PyData):jy (.list ds)=.ok ds:=(rfl)
@[simp] theorem dQ:fX a ρ=lb (a ρ):=(rfl)
theorem eE (it:aD->R (List PyData)) (bb:PyData->aD->Option aD):gG it bb a ρ=(it ρ>>=fun ds=>dA bb a ds ρ):=rfl
@[simp] theorem dt (bb:PyData->aD->Option aD):dA bb a [] ρ=.ok (.nx ρ):=by unfold dA;rfl
noncomputable def nH (k:aD->R uV):uV->R uV
  | .nx ρ=>k ρ
  | .ct ρ=>k ρ
  | .bk ρ=>.ok (.nx ρ)
  | .rt r=>.ok (.rt r)
@[simp] theorem cO (k:aD->R uV):nH k (.nx ρ)=k ρ:=(rfl)
theorem dn (i:Nat) (ds:List PyData):dA (aG i) a (d::ds) ρ=(a (ρ.set i (.val d))>>=nH (dA (aG i) a ds)):=by
  rw [dA];show (a (ρ.set i (.val d))>>=_)=_;congr 1
theorem sj (i j:Nat) (x y:PyData) (ds:List PyData):dA (k6 i j) a (.tuple [x,y]::ds) ρ=(a ((ρ.set i (.val x)).set j (.val y))>>=nH (dA (k6 i j) a ds)):=by
  rw [dA];show (a ((ρ.set i (.val x)).set j (.val y))>>=_)=_;congr 1
theorem aJ {a b:Fs} {ρ ρ':aD} (h:a ρ=.ok (.nx ρ')):aY a b ρ=b ρ':=by rw [qU,h];rfl
theorem iL {a b:Fs} {ρ:aD} {d:PyData} (h:a ρ=.ok (.rt d)):aY a b ρ=.ok (.rt d):=by rw [qU,h];rfl
theorem fW {n:Nat} {g:Fs} {ds:List PyData} {d:PyData} (h:g (ds.map bm.val++List.replicate (n-ds.length) .non)=.ok (.rt d)):eX n g ds=.ok d:=by rw [ge,h];rfl
theorem h9 (bb:PyData->aD->Option aD):bW bb t f ρ []=.ok []:=by unfold bW;rfl
theorem cG (i:Nat) (ds:List PyData):bW (aG i) t f ρ (d::ds)=(t (ρ.set i (.val d))>>=fun k=>if k=true then f (ρ.set i (.val d))>>=fun x=>bW (aG i) t f ρ ds>>=fun xs=>.ok (x::xs) else bW (aG i) t f ρ ds):=by
  rw [bW];rfl
theorem xF {ρ:aD} {i:Nat} {ds:List PyData} {fk fv:Fe} {n:Int} {v:PyData} (h:ρ[i]?=some (.own (.list ds))) (hk:fk ρ=.ok (.int n)) (hv:fv ρ=.ok v) (h0:0<=n) (h1:n < ds.length):og i fk fv ρ=.ok (.nx (ρ.set i (.own (.list (ds.set n.toNat v))))):=by
  unfold og;rw [hv,hk,h];simp only [lb,R.ok_bind];have:L2.qQ ds.length n=some n.toNat:=by unfold L2.qQ;rw [if_pos h0,if_pos h1]
  rw [this]
@[simp] theorem ul:om f ρ=(f ρ>>=fun x=>jy x>>=fun xs=>.ok (fM 0 xs)):=(rfl)
theorem rW {ρ:aD} {i:Nat} {ds:List PyData} (f:Fe) (h:ρ[i]?=some (.own (.list ds))) (hz:ds.length < sizeLine):ij i f ρ=(lb (f ρ)>>=fun d=>.ok (.nx (ρ.set i (.own (.list (ds++[d])))))):=by
  unfold ij;congr 1;funext d;rw [h];exact if_pos hz
noncomputable def Aw:R (List PyData)->R PyData
  | .ok xs=>.ok (.list xs)
  | .ex c=>.ex c
  | .no=>.no
@[simp] theorem qZ (xs:List PyData):Aw (.ok xs)=.ok (.list xs):=(rfl)
theorem cf (it:aD->R (List PyData)) (own:Nat) (fr:List Nat) (bb:PyData->aD->Option aD):bK it own fr bb t f ρ=(lb (it ρ)>>=fun ds=>if ds.length<=sizeLine then Aw (bW bb t f (aA own fr ρ) ds) else .no):=by
  unfold bK;congr 1
theorem ia (i:Nat) (G:PyData->PyData):∀ (ds:List PyData),(∀ d∈ds,f (ρ.set i (.val d))=.ok (G d))->bW (aG i) (fun _=>.ok true) f ρ ds=.ok (ds.map G)
  | [],_=>h9 ..
  | d::ds,hh=>by
    rw [cG,hh d List.mem_cons_self,ia i G ds fun x hx=>hh x (List.mem_cons_of_mem _ hx)];rfl
end
section
variable (i j:Int) (xs ys:List PyData)
@[simp] theorem uf:mW (.int i)=.ok (.int (-i)):=(rfl)
@[simp] theorem uN:cA (.int i) (.int j)=.ok (.int (i+j)):=(rfl)
@[simp] theorem mU:cA (.tuple xs) (.tuple ys)=if xs.length+ys.length<=sizeLine then .ok (.tuple (xs++ys)) else .no:=(rfl)
@[simp] theorem zm:cA (.list xs) (.list ys)=if xs.length+ys.length<=sizeLine then .ok (.list (xs++ys)) else .no:=(rfl)
@[simp] theorem uo:mo (.int i) (.int j)=.ok (.int (i-j)):=(rfl)
@[simp] theorem pX:ej (.int i) (.int j)=if 0 < j then .ok (.int (i%j)) else .no:=(rfl)
@[simp] theorem yE:kA (.int i) (.int j)=if 0 < j/\j < 1073741824 then .ok (.int (i / j)) else .no:=(rfl)
theorem zj:eF (.int i) (.int j)=if (-(2 ^ 64) < i/\i < 2 ^ 64)\/(-(2 ^ 64) < j/\j < 2 ^ 64) then .ok (.int (i*j)) else .no:=rfl
@[simp] theorem pF (p:Int->Int->Bool):kB p (.int i) (.int j)=.ok (.bool (p i j)):=(rfl)
@[simp] theorem BK:yp (.int i) (.int j)=.ok (.int (if j < i then j else i)):=(rfl)
@[simp] theorem BB:yG (.int i) (.int j)=.ok (.int (if j > i then j else i)):=(rfl)
@[simp] theorem pJ:gt (.tuple xs)=.ok (.int xs.length):=(rfl)
@[simp] theorem Bs:gt (.list xs)=.ok (.int xs.length):=(rfl)
@[simp] theorem uI:gf (.list xs)=.ok (.tuple xs):=(rfl)
@[simp] theorem Bw (k:Bool):zp (.bool k)=.ok (.int (if k then 1 else 0)):=(rfl)
@[simp] theorem rq (lo hi:Option Int):vT (.tuple xs) lo hi=.ok (.tuple (iH xs lo hi)):=(rfl)
theorem mQ {α:Type} {xs:List α} {i:Int} (h0:0<=i) (h1:i < xs.length):L2.atI xs i=some (xs[i.toNat]'(by omega)):=by
  unfold L2.atI qQ;rw [if_pos h0,if_pos h1];exact List.getElem?_eq_getElem (by omega)
theorem oU {xs:List PyData} {i:Int} (h0:0<=i) (h1:i < xs.length):cu (.tuple xs) (.int i)=.ok (xs[i.toNat]'(by omega)):=by
  show (match L2.atI xs i with | some d=>R.ok d | none=>.no)=_;rw [mQ h0 h1]
theorem qP {xs:List PyData} {i:Int} (h0:0<=i) (h1:i < xs.length):cu (.list xs) (.int i)=.ok (xs[i.toNat]'(by omega)):=by
  show (match L2.atI xs i with | some d=>R.ok d | none=>.no)=_;rw [mQ h0 h1]
theorem mF:PyData.eqv (.int i) (.int j)=decide (i=j):=by
  simp only [PyData.eqv];by_cases h:i=j
  · subst h;simp
  · simp [h]
theorem hW:iy (.int i) (.int j)=.ok (.bool (decide (i=j))):=by
  unfold iy;rw [if_pos (by rfl),mF]
theorem Ae:pT (.int i) (.int j)=.ok (.bool (!decide (i=j))):=by
  unfold pT;rw [if_pos (by rfl),mF]
end
end D2
namespace G
open PySem PySem.Spec PyProof.Rows L2 D2
noncomputable abbrev yT (d:PyData):Prop:=d.canLay0=true
theorem oH:∀ {ds:List PyData},(∀ x∈ds,yT x)->PyData.canLayAll0 ds=true
  | [],_=>by simp [PyData.canLayAll0]
  | d::ds,h=>by
    have h1:=h d List.mem_cons_self;have h2:=oH fun x hx=>h x (List.mem_cons_of_mem _ hx)
    simp only [PyData.canLayAll0,Bool.and_eq_true];exact ⟨h1,h2⟩
theorem vm (i:Int):yT (.int i):=by simp [yT,PyData.canLay0]
theorem ca {n:Nat} (h:n<=1000):n<=sizeLine:=Nat.le_trans h (by decide)
noncomputable abbrev tu (ns:List Int):PyData:=.list (ns.map .int)
theorem gj {i j:Int} (h:(-(2 ^ 64) < i/\i < 2 ^ 64)\/(-(2 ^ 64) < j/\j < 2 ^ 64)):eF (.int i) (.int j)=.ok (.int (i*j)):=by rw [zj,if_pos h]
structure pg (c:Int) (n:Nat) (kvs:List (PyData×PyData)):Prop where
  ex:∃ ns:List Int,kvs.map (·.1)=ns.map PyData.int/\(∀ x∈ns,0<=x/\x < c)/\ns.length<=n/\(n=0\/ns≠[])/\ns.Nodup
theorem pg.put {c:Int} {n:Nat} {kvs:List (PyData×PyData)} (h:pg c n kvs) {k:Int} (h0:0<=k) (h1:k < c) (v:PyData):pg c (n+1) (pM kvs (.int k) v):=by
  obtain ⟨ns,e,hb,hl,hn,nd⟩:=h.ex;have hany:(kvs.any fun kv=>fj kv.1 (.int k))=ns.any fun i=>decide (i=k):=by
    have:(kvs.any fun kv=>fj kv.1 (.int k))=(kvs.map (·.1)).any fun d=>fj d (.int k):=by rw [List.any_map];rfl
    rw [this,e,List.any_map];rfl
  unfold pM;rw [hany];by_cases hm:k∈ns
  · have ha:(ns.any fun i=>decide (i=k))=true:=by simp;exact hm
    rw [if_pos ha];refine ⟨ns,?_,hb,by omega,.inr (by intro z;rw [z] at hm;cases hm),nd⟩;rw [<- e,List.map_map];apply List.map_congr_left;intro kv _;show (if fj kv.1 (.int k)=true then (kv.1,v) else kv).1=kv.1;split <;> rfl
  · have ha:¬ (ns.any fun i=>decide (i=k))=true:=by simp;exact hm
    rw [if_neg ha];refine ⟨ns++[k],by rw [List.map_append,List.map_append,e];rfl,fun x hx=>?_,by simp;omega,.inr (by simp),?_⟩
    · rcases List.mem_append.mp hx with z | z
      · exact hb x z
      · simp at z;subst z;exact ⟨h0,h1⟩
    · rw [List.nodup_append];refine ⟨nd,by simp,fun a hma b hb'=>?_⟩;simp at hb';subst hb';rintro rfl;exact hm hma
theorem pg.len {c:Int} {n:Nat} {kvs:List (PyData×PyData)} (h:pg c n kvs):kvs.length<=n:=by
  obtain ⟨ns,e,_,hl,_⟩:=h.ex;have:=congrArg List.length e;simp at this;omega
theorem oQ (lo:Int) (n:Nat):∀ d∈bL lo n,∃ k,d=.int k:=fun d hd=>by
  unfold bL at hd;obtain ⟨k,_,rfl⟩:=List.mem_map.mp hd;exact ⟨_,rfl⟩
theorem eT (lo:Int) (n:Nat):(bL lo n).length=n:=by unfold bL;simp
theorem wY {xs:List PyData} {i:Int} (h0:0<=i) (h1:i < xs.length):∃ x∈xs,cu (.list xs) (.int i)=.ok x:=⟨_,List.getElem_mem _,qP h0 h1⟩
structure P4 where
  w:Int
  m:Int
  g:Int
  ns:List Int
noncomputable def P4.d (p:P4):PyData:=.tuple [.int p.w,.int p.m,.int p.g,.tuple (p.ns.map .int)]
structure Pl (c hi:Int) (p:P4):Prop where
  w0:0<=p.w
  w1:p.w<=1
  m0:0<=p.m
  m1:p.m<=hi
  g0:-20<=p.g
  g1:p.g<=20
  ne:p.ns≠[]
  so:p.ns.Pairwise (· < ·)
  inn:∀ x∈p.ns,0<=x/\x < c
theorem iY:∀ (ns:List Int) (l c:Int),ns.Pairwise (· < ·)->(∀ x∈ns,l<=x/\x < c)->ns=[]\/l+(ns.length:Int)<=c
  | [],_,_,_,_=>.inl rfl
  | x::r,l,c,hp,hb=>by
    right;obtain ⟨h1,h2⟩:=List.pairwise_cons.mp hp;have hx:=hb x List.mem_cons_self;rcases iY r (x+1) c h2 (fun y hy=>⟨by have:=h1 y hy;omega,(hb y (List.mem_cons_of_mem _ hy)).2⟩) with rfl | z
    · simp;omega
    · rw [List.length_cons];omega
theorem Pl.len {c hi:Int} {p:P4} (h:Pl c hi p):(p.ns.length:Int)<=c:=by
  rcases iY p.ns 0 c h.so h.inn with z | z
  · exact absurd z h.ne
  · omega
noncomputable abbrev gD (ps:List P4):PyData:=.tuple (ps.map P4.d)
theorem rS {ns:List Int} (h:ns.Pairwise (·<=·)) (nd:ns.Nodup):ns.Pairwise (· < ·):=by
  have:=h.and nd;exact this.imp fun ⟨a,b⟩=>by omega
end G
noncomputable section
namespace G
open PySem PySem.Spec PyProof.Rows L2 D2
noncomputable def fG:Fs :=
  (aY (bo 3 (fU (ag (gX aC) aC))) (aY (fX (gG (gY (ag (e1 gt (ae 0)) aC)) (aG 4) (aY (bo 5 (fU (ag (eC .none) aC))) (aY (j8 (gT (tE (e2 (jp false) (ae 4) (ae 2))) (tE (e2 (iy) (e2 cu (e2 cu (ae 0) (ae 4)) (eC (.int 0))) (ae 1)))) (bo 5 (bK (dw (e2 cu (e2 cu (ae 0) (ae 4)) (eC (.int 3)))) 1 [2] (aG 0) (tE (e2 (jp false) (ae 0) (ae 1))) (ae 0))) cK) (aY (bo 6 (fU aC)) (aY (fX (gG (dw (ae 3)) (aG 7) (bo 6 (e2 cA (ae 6) (bK (dw (ae 5)) 1 [7] (aG 0) (fun _=>.ok true) (e2 cA (ae 1) (gX (ag (ae 0) aC)))))))) (bo 3 (ae 6)))))))) (cW (ae 3))))
noncomputable def bu:List PyData->R PyData:=eX 8 (fG)
noncomputable def fJ:Fs :=
  (aY (j8 (tE (e2 (kB AS) (ae 1) (e1 gt (ae 0)))) (cW (e2 cu (ae 0) (ae 1))) cK) (cW (eC (.int 0))))
noncomputable def bB:List PyData->R PyData:=eX 2 (fJ)
noncomputable def gW (bB:List PyData->R PyData):Fs :=
  (aY (bo 2 (e2 ej (e2 eF (e2 cA (e2 cA (bf bB (ag (ae 0) (ag (ae 1) aC))) (e2 eF (eC (.int 7919)) (ae 1))) (eC (.int 1))) (eC (.int 48271))) (eC (.int 2147483647)))) (cW (e2 ej (e2 cA (e2 cA (e2 eF (ae 2) (ae 2)) (e2 eF (eC (.int 7)) (ae 2))) (ae 1)) (eC (.int 2147483629)))))
noncomputable def bD:List PyData->R PyData:=eX 3 (gW bB)
noncomputable def gV:Fs :=
  (aY (bo 2 (e2 ej (e2 eF (e2 cA (e2 cA (ae 0) (e2 eF (eC (.int 104729)) (ae 1))) (eC (.int 17))) (eC (.int 69621))) (eC (.int 2147483647)))) (cW (e2 ej (e2 cA (e2 cA (e2 eF (ae 2) (ae 2)) (e2 eF (eC (.int 3)) (ae 2))) (ae 1)) (eC (.int 2147483629)))))
noncomputable def aX:List PyData->R PyData:=eX 3 (gV)
noncomputable def g8 (aX:List PyData->R PyData):Fs :=
  (aY (iO 2 (eC (.dict []))) (aY (fX (gG (gY (ag (e2 cA (e2 cA (eC (.int 1)) (e2 ej (ae 0) (eC (.int 3)))) (e2 eF (eC (.int 20)) (e1 zp (e2 (iy) (e2 ej (e2 kA (ae 0) (eC (.int 3))) (eC (.int 29))) (eC (.int 7)))))) aC)) (aG 3) (wt 2 (e2 ej (bf aX (ag (ae 0) (ag (ae 3) aC))) (ae 1)) (eC (.bool true))))) (cW (e1 gf (e1 ja (fP 2))))))
noncomputable def ci:List PyData->R PyData:=eX 4 (g8 aX)
noncomputable def gO (aX:List PyData->R PyData) (ci:List PyData->R PyData):Fs :=
  (aY (bo 3 (e2 mo (e2 ej (e2 kA (ae 0) (eC (.int 26))) (eC (.int 9))) (eC (.int 4)))) (aY (j8 (tE (e2 (iy) (e2 ej (e2 kA (ae 0) (eC (.int 234))) (eC (.int 11))) (eC (.int 3)))) (bo 3 (e2 mo (e2 ej (e2 kA (ae 0) (eC (.int 26))) (eC (.int 41))) (eC (.int 20)))) cK) (cW (gX (ag (e2 ej (ae 0) (eC (.int 2))) (ag (e2 ej (e2 kA (ae 0) (eC (.int 2))) (e2 cA (ae 2) (eC (.int 1)))) (ag (ae 3) (ag (bf ci (ag (bf aX (ag (ae 0) (ag (eC (.int 9)) aC))) (ag (ae 1) aC))) aC))))))))
noncomputable def bO:List PyData->R PyData:=eX 4 (gO aX ci)
noncomputable def gg (bD:List PyData->R PyData) (bO:List PyData->R PyData):Fs :=
  (aY (bo 2 (bf bD (ag (ae 0) (ag (eC (.int 0)) aC)))) (aY (bo 3 (e2 cA (eC (.int 1)) (e2 ej (ae 2) (e2 yp (ae 1) (e2 yG (eC (.int 4)) (e1 gt (ae 0))))))) (aY (bo 4 (e2 cu (fU (ag (eC (.int 1)) (ag (eC (.int 2)) (ag (eC (.int 3)) (ag (eC (.int 5)) (ag (eC (.int 12)) (ag (eC (.int 12)) aC))))))) (e2 ej (e2 kA (ae 2) (eC (.int 24))) (eC (.int 6))))) (cW (e1 gf (bK (gY (ag (ae 3) aC)) 1 [0,3,4] (aG 0) (fun _=>.ok true) (bf bO (ag (bf bD (ag (ae 1) (ag (e2 cA (eC (.int 3)) (ae 0)) aC))) (ag (ae 2) (ag (ae 3) aC))))))))))
noncomputable def bN:List PyData->R PyData:=eX 5 (gg bD bO)
noncomputable def iK:Fs :=
  (aY (j8 (tE (e2 (iy) (e2 cu (e2 cu (ae 0) (ae 3)) (eC (.int 0))) (ae 1))) (cW (bK (dw (fU (ag (e2 cu (ae 2) (ae 3)) aC))) 1 [] (aG 0) (tE (e2 (rF) (ae 0) (eC .none))) (ae 0))) cK) (cW (e1 xS (e2 cu (e2 cu (ae 0) (ae 3)) (eC (.int 3))))))
noncomputable def aP:List PyData->R PyData:=eX 4 (iK)
noncomputable def gr (aP:List PyData->R PyData):Fs :=
  (aY (fX (gG (dw (ae 3)) (aG 4) (aY (bo 5 (bf aP (ag (ae 0) (ag (ae 1) (ag (ae 2) (ag (ae 4) aC)))))) (j8 (vx (tE (e2 (iy) (ae 5) (fU aC))) (tE (e2 (pT) (bK (dw (ae 5)) 1 [3] (aG 0) (tE (e2 (jp true) (ae 0) (ae 1))) (ae 0)) (fU aC)))) (cW (eC (.bool false))) cK)))) (cW (eC (.bool true))))
noncomputable def bM:List PyData->R PyData:=eX 6 (gr aP)
noncomputable def fw (aP:List PyData->R PyData):Fs :=
  (aY (iO 5 (fU aC)) (aY (bo 6 (bf aP (ag (ae 0) (ag (ae 1) (ag (ae 2) (ag (ae 3) aC)))))) (aY (fX (mi 1000000 (tE (e2 (pT) (ae 6) (fU aC))) (aY (bo 7 (e2 cu (ae 6) (eC (.int 0)))) (aY (bo 6 (qq (ae 6) (e9 (eC (.int 1))) fq)) (j8 (gT (tE (e2 (jp false) (ae 7) (ae 4))) (tE (e2 (jp true) (ae 7) (fP 5)))) (aY (ij 5 (ae 7)) (bo 6 (e2 cA (ae 6) (bf aP (ag (ae 0) (ag (ae 1) (ag (ae 2) (ag (ae 7) aC)))))))) cK))))) (ux 5))))
noncomputable def br:List PyData->R PyData:=eX 8 (fw aP)
noncomputable def cZ (bM:List PyData->R PyData) (br:List PyData->R PyData):Fs :=
  (aY (j8 (nM (tE (bf bM (ag (ae 0) (ag (ae 1) (ag (ae 2) (ag (ae 3) aC))))))) (cW (eC (.bool false))) cK) (aY (fX (gG (dw (ae 3)) (aG 4) (aY (bo 5 (bK (dw (ae 3)) 1 [0,4] (aG 0) (tE (e2 (kB Bg) (e2 cu (e2 cu (ae 1) (ae 0)) (eC (.int 1))) (e2 cu (e2 cu (ae 1) (ae 2)) (eC (.int 1))))) (ae 0))) (aY (bo 6 (bf br (ag (ae 0) (ag (ae 1) (ag (ae 2) (ag (ae 4) (ag (ae 5) aC))))))) (j8 (gT (tE (e2 (pT) (e2 ej (e2 cu (e2 cu (ae 0) (ae 4)) (eC (.int 1))) (eC (.int 2))) (ae 1))) (tE (e2 (jp false) (ae 4) (ae 6)))) (cW (eC (.bool false))) cK))))) (cW (eC (.bool true)))))
noncomputable def aF:List PyData->R PyData:=eX 7 (cZ bM br)
noncomputable def gq:Fs :=
  (cW (gX (ag (e2 cA (e1 gt (ae 0)) (eC (.int 1))) aC)))
noncomputable def aQ:List PyData->R PyData:=eX 1 (gq)
noncomputable def kY:Fs :=
  (cW (e2 cA (ae 0) (e1 gf (bK (dw (qq (ae 1) (e9 (e1 gt (ae 0))) fq)) 1 [] (aG 0) (fun _=>.ok true) (eC (.int 0))))))
noncomputable def aZ:List PyData->R PyData:=eX 2 (kY)
noncomputable def fI:Fs :=
  (aY (bo 1 (bK (dw (ae 0)) 1 [] (aG 0) (fun _=>.ok true) (e2 cu (ae 0) (eC (.int 1))))) (cW (e1 gf (bK (lB (ag (e1 oG (ae 1)) (ag (eC (.int 0)) (ag (e1 mW (eC (.int 1))) aC)))) 1 [1] (aG 0) (tE (e2 (iy) (e2 ej (ae 0) (eC (.int 2))) (eC (.int 1)))) (ml (ae 1) (ae 0))))))
noncomputable def bh:List PyData->R PyData:=eX 2 (fI)
noncomputable def hV (aZ:List PyData->R PyData):Fs :=
  (aY (fX (gG (lB (ag (e2 mo (e1 gt (ae 0)) (eC (.int 1))) (ag (e1 mW (eC (.int 1))) (ag (e1 mW (eC (.int 1))) aC)))) (aG 3) (j8 (tE (e2 (kB AS) (e2 cu (ae 0) (ae 3)) (e2 cu (ae 1) (ae 3)))) (cW (bf aZ (ag (e2 cA (qq (ae 0) fq (e9 (ae 3))) (gX (ag (e2 cA (e2 cu (ae 0) (ae 3)) (eC (.int 1))) aC))) (ag (ae 1) aC)))) cK))) (cW (ae 2)))
noncomputable def cg:List PyData->R PyData:=eX 4 (hV aZ)
noncomputable def gM (aZ:List PyData->R PyData) (cg:List PyData->R PyData):Fs :=
  (aY (bo 4 (bK (dw (e2 cu (ae 0) (eC (.int 3)))) 1 [1] (aG 0) (fun _=>.ok true) (e2 cu (ae 1) (ae 0)))) (aY (bo 5 (zV (tE (e2 (iy) (e2 cu (ae 0) (eC (.int 0))) (eC (.int 0)))) (e1 qF (ae 4)) (e1 rz (ae 4)))) (aY (j8 (tE (e2 (iy) (ae 5) (ae 3))) (cW (ae 3)) cK) (aY (bo 6 (qq (ae 5) fq (e9 (e2 mo (e1 gt (ae 2)) (e2 kA (e2 cu (ae 0) (eC (.int 1))) (eC (.int 2))))))) (aY (j8 (tE (e2 (iy) (e2 ej (e2 cu (ae 0) (eC (.int 1))) (eC (.int 2))) (eC (.int 1)))) (cW (bf cg (ag (ae 6) (ag (ae 2) (ag (ae 3) aC))))) cK) (cW (bf aZ (ag (ae 6) (ag (ae 2) aC)))))))))
noncomputable def bg:List PyData->R PyData:=eX 7 (gM aZ cg)
noncomputable def mt (aQ:List PyData->R PyData) (aZ:List PyData->R PyData) (bh:List PyData->R PyData) (bg:List PyData->R PyData):Fs :=
  (aY (bo 1 (bf bh (ag (ae 0) aC))) (aY (bo 2 (bf aQ (ag (ae 0) aC))) (aY (iO 3 (bK (dw (ae 0)) 1 [1] (aG 0) (fun _=>.ok true) (bf aZ (ag (gX aC) (ag (ae 1) aC))))) (aY (bo 4 (eC (.bool true))) (aY (fX (mi 1000000 (tE (ae 4)) (aY (bo 4 (eC (.bool false))) (fX (gG (om (ae 0)) (k6 5 6) (aY (bo 7 (iB 3 (bf bg (ag (ae 6) (ag (ae 3) (ag (ae 1) (ag (ae 2) aC))))))) (j8 (tE (e2 ln (ae 7) (e2 cu (fP 3) (ae 5)))) (aY (og 3 (ae 5) (ae 7)) (bo 4 (eC (.bool true)))) cK))))))) (cW (e1 gf (fP 3))))))))
noncomputable def eB:List PyData->R PyData:=eX 8 (mt aQ aZ bh bg)
noncomputable def fK (aQ:List PyData->R PyData) (eB:List PyData->R PyData):Fs :=
  (aY (bo 1 (bf aQ (ag (ae 0) aC))) (cW (e1 gf (bK (dw (bf eB (ag (ae 0) aC))) 1 [1] (aG 0) (fun _=>.ok true) (zV (tE (e2 (iy) (ae 0) (ae 1))) (eC (.int 1)) (eC (.int 0)))))))
noncomputable def bq:List PyData->R PyData:=eX 2 (fK aQ eB)
noncomputable def ve (bu:List PyData->R PyData) (bN:List PyData->R PyData) (aF:List PyData->R PyData) (bq:List PyData->R PyData):Fs :=
  (aY (bo 1 (e1 gf (bK (dw (bf bN (ag (ae 0) (ag (eC (.int 5)) aC)))) 1 [] (aG 0) (fun _=>.ok true) (e2 cA (qq (ae 0) fq (e9 (eC (.int 3)))) (gX (ag (qq (e2 cu (ae 0) (eC (.int 3))) fq (e9 (eC (.int 3)))) aC)))))) (aY (bo 2 (bf bq (ag (ae 1) aC))) (aY (fX (gG (dw (gX (ag (eC (.int 0)) (ag (eC (.int 1)) aC)))) (aG 3) (aY (bo 4 (bK (gY (ag (e1 gt (ae 1)) aC)) 1 [2,3] (aG 0) (tE (e2 (iy) (e2 cu (ae 1) (ae 0)) (ae 2))) (ae 0))) (aY (bo 5 (eC (.bool false))) (aY (fX (gG (dw (bf bu (ag (ae 1) (ag (ae 3) (ag (ae 4) aC))))) (aG 6) (bo 5 (Bl (ae 5) (bf aF (ag (ae 1) (ag (ae 3) (ag (ae 6) (ag (ae 4) aC))))))))) (j8 (nM (tE (ae 5))) (cW (eC (.bool false))) cK)))))) (cW (eC (.bool true))))))
noncomputable def n4:List PyData->R PyData:=eX 7 (ve bu bN aF bq)
end G
end
namespace G
open PySem PySem.Spec PyProof.Rows L2 D2
theorem xC (ns:List Int) {k:Int} (hk:0<=k):∃ v,bB [tu ns,.int k]=.ok (.int v):=by
  unfold bB fJ;by_cases h:k < ns.length
  · refine ⟨ns[k.toNat]'(by omega),?_⟩;have hx:=qP (xs:=ns.map PyData.int) (i:=k) hk (by simpa using h);rw [ge];simp [h,hx]
  · refine ⟨0,?_⟩;rw [ge];simp [h]
theorem oS (ns:List Int) {k:Int} (hk:0<=k):∃ v,bD [tu ns,.int k]=.ok (.int v)/\0<=v/\v < 2147483629:=by
  obtain ⟨c,hc⟩:=xC ns hk;unfold bD gW;have m1:eF (.int 7919) (.int k)=.ok (.int (7919*k)):=gj (.inl (by omega));have m2:eF (.int (c+7919*k+1)) (.int 48271)=.ok (.int ((c+7919*k+1)*48271)):=gj (.inr (by omega));generalize hd:(c+7919*k+1)*48271%2147483647=d;have hd0:0<=d:=by omega
  have hd1:d < 2147483647:=by omega
  have m3:eF (.int d) (.int d)=.ok (.int (d*d)):=gj (.inl (by omega));have m4:eF (.int 7) (.int d)=.ok (.int (7*d)):=gj (.inl (by omega));refine ⟨(d*d+7*d+k)%2147483629,?_,by omega,by omega⟩;rw [ge];simp [hc,m1,m2,hd,m3,m4,List.replicate]
theorem nL (n k:Int):∃ v,aX [.int n,.int k]=.ok (.int v)/\0<=v/\v < 2147483629:=by
  unfold aX gV;have m1:eF (.int 104729) (.int k)=.ok (.int (104729*k)):=gj (.inl (by omega));have m2:eF (.int (n+104729*k+17)) (.int 69621)=.ok (.int ((n+104729*k+17)*69621)):=gj (.inr (by omega));generalize hd:(n+104729*k+17)*69621%2147483647=d;have hd0:0<=d:=by omega
  have hd1:d < 2147483647:=by omega
  have m3:eF (.int d) (.int d)=.ok (.int (d*d)):=gj (.inl (by omega));have m4:eF (.int 3) (.int d)=.ok (.int (3*d)):=gj (.inl (by omega));refine ⟨(d*d+3*d+k)%2147483629,?_,by omega,by omega⟩;rw [ge];simp [m1,m2,hd,m3,m4,List.replicate]
theorem ke (n c:Int) (hc:1<=c):∀ (ds:List PyData) (m:Nat) (kvs:List (PyData×PyData)) (x:bm),pg c m kvs->(∀ d∈ds,∃ k,d=.int k)->m+ds.length<=1000 ->
    ∃ kvs' x',pg c (m+ds.length) kvs'/\dA (aG 3) (wt 2 (e2 ej (bf aX (ag (ae 0) (ag (ae 3) aC))) (ae 1)) (eC (.bool true))) ds [.val (.int n),.val (.int c),.own (.dict kvs),x]
      = .ok (.nx [.val (.int n),.val (.int c),.own (.dict kvs'),x'])
  | [],m,kvs,x,hk,_,_=>⟨kvs,x,hk,by rw [dt]⟩
  | d::ds,m,kvs,x,hk,hi,hl=>by
    obtain ⟨k,rfl⟩:=hi d List.mem_cons_self;obtain ⟨v,hv,v0,v1⟩:=nL n k;have hk':=hk.put (k:=v%c) (Int.emod_nonneg _ (by omega)) (Int.emod_lt_of_pos _ (by omega)) (.bool true);obtain ⟨kvs',x',h1,h2⟩:=ke n c hc ds (m+1) _ (.val (.int k)) hk' (fun d hd=>hi d (List.mem_cons_of_mem _ hd)) (by simp at hl;omega);refine ⟨kvs',x',by rw [List.length_cons];simpa [Nat.add_comm,Nat.add_left_comm,Nat.add_assoc] using h1,?_⟩;have hlen:=hk.len;have hsz:kvs.length < sizeLine:=Nat.lt_of_le_of_lt (show kvs.length<=1000 by simp at hl;omega) (by decide);have hc':0 < c:=by omega
    rw [dn,<- h2];simp [wt,hv,hc',fN,hsz]
theorem sF {n c:Int} (hn:0<=n) (hc:1<=c):∃ ns:List Int,ci [.int n,.int c]=.ok (.tuple (ns.map .int))/\(∀ x∈ns,0<=x/\x < c)/\ns≠[]/\ns.Pairwise (· < ·):=by
  unfold ci g8;have m1:∀ k:Int,eF (.int 20) (.int k)=.ok (.int (20*k)):=fun k=>gj (.inl (by omega))
  generalize hN:(1+n%3+20*(if n / 3%29=7 then 1 else 0):Int)=N;have hN0:1<=N:=by split at hN <;> omega
  have hN1:N<=23:=by split at hN <;> omega
  obtain ⟨kvs,x,hk,hf⟩:=ke n c hc (bL 0 N.toNat) 0 [] .non ⟨[],rfl,by simp,by simp,.inl rfl,by simp⟩ (oQ _ _) (by rw [eT];omega);obtain ⟨ns,e,hb,hl,hz,nd⟩:=hk.ex;rw [eT] at hl hz;have hi:aN (kvs.map (·.1))=some ns:=by rw [e,cD]
  have hs:ja (.dict kvs)=.ok (.list ((eu ns).map PyData.int)):=by
    show (match aN (kvs.map (·.1)) with | some ns=>if ns.length < 64 then R.ok (PyData.list ((eu ns).map PyData.int)) else .no | none=>.no)=_;rw [hi];exact if_pos (by omega)
  have hr:-(2 ^ 62)<=N/\N < 2 ^ 62:=by omega
  refine ⟨eu ns,?_,fun x hx=>hb x ((dH ns).mem_iff.mp hx),?_,rS (gw ns) ((dH ns).nodup_iff.mpr nd)⟩
  · rw [ge];have hg:kP [.int N]=.ok (bL 0 N.toNat):=by
      show (if -(2 ^ 62)<=N/\N < 2 ^ 62 then R.ok (bL 0 N.toNat) else .no)=_;rw [if_pos hr]
    simp [eE,hW,m1,List.replicate,hN,hg,hf,hs]
  · intro z;have:=(dH ns).length_eq;rw [z] at this;rcases hz with q | q
    · omega
    · exact q (List.eq_nil_of_length_eq_zero this.symm)
theorem tj {n c h:Int} (hn:0<=n) (hc:1<=c) (h0:0<=h):∃ p:P4,bO [.int n,.int c,.int h]=.ok p.d/\Pl c h p:=by
  obtain ⟨v,hv,v0,v1⟩:=nL n 9;obtain ⟨ns,hg,hb,hne,hso⟩:=sF (n:=v) (c:=c) v0 hc;unfold bO gO;have hh:0 < h+1:=by omega
  have s4:4<=sizeLine:=by decide
  have a1:=Int.emod_nonneg (n / 2) (show h+1≠0 by omega);have a2:=Int.emod_lt_of_pos (n / 2) hh;by_cases hq:n / 234%11=3
  · refine ⟨⟨n%2,n / 2%(h+1),n / 26%41-20,ns⟩,?_,⟨by dsimp only;omega,by dsimp only;omega,a1,by dsimp only;omega,by dsimp only;omega,by dsimp only;omega,hne,hso,hb⟩⟩;rw [ge];simp [hh,hW,hq,hv,hg,s4,P4.d]
  · refine ⟨⟨n%2,n / 2%(h+1),n / 26%9-4,ns⟩,?_,⟨by dsimp only;omega,by dsimp only;omega,a1,by dsimp only;omega,by dsimp only;omega,by dsimp only;omega,hne,hso,hb⟩⟩;rw [ge];simp [hh,hW,hq,hv,hg,s4,P4.d]
theorem oh (f:Fe) (ρ:aD) (i:Nat) (P:P4->Prop):∀ ds:List PyData,(∀ d∈ds,∃ p:P4,f (ρ.set i (.val d))=.ok p.d/\P p)->∃ ps:List P4,bW (aG i) (fun _=>.ok true) f ρ ds=.ok (ps.map P4.d)/\ps.length=ds.length/\∀ p∈ps,P p
  | [],_=>⟨[],h9 ..,rfl,by simp⟩
  | d::ds,h=>by
    obtain ⟨x,h1,h2⟩:=h d List.mem_cons_self;obtain ⟨xs,h3,h4,h5⟩:=oh f ρ i P ds fun d hd=>h d (List.mem_cons_of_mem _ hd)
    refine ⟨x::xs,?_,by simp [h4],fun y hy=>?_⟩
    · rw [cG,h1,h3];rfl
    · rcases List.mem_cons.mp hy with rfl | hy
      · exact h2
      · exact h5 y hy
theorem pf (ns:List Int) {most:Int} (hm0:1<=most) (hm1:most<=24):∃ (ps:List P4) (hi:Int),bN [tu ns,.int most]=.ok (gD ps)/\(∀ p∈ps,Pl ps.length hi p)/\1<=ps.length/\(ps.length:Int)<=most/\0<=hi/\hi<=12:=by
  obtain ⟨v,hv,v0,v1⟩:=oS ns (k:=0) (by omega);unfold bN gg;generalize hm:(if (if (ns.length:Int) > 4 then (ns.length:Int) else 4) < most then (if (ns.length:Int) > 4 then (ns.length:Int) else 4) else most)=m;have m0:0 < m:=by split at hm <;> split at hm <;> omega
  have m1:m<=most:=by split at hm <;> split at hm <;> omega
  generalize hc:1+v%m=c;have c0:1<=c:=by have:=Int.emod_nonneg v (show m≠0 by omega);omega
  have c1:c<=most:=by have:=Int.emod_lt_of_pos v m0;omega
  have hix:∃ h,cu (.list [.int 1,.int 2,.int 3,.int 5,.int 12,.int 12]) (.int (v / 24%6))=.ok (.int h)/\0<=h/\h<=12:=by
    obtain ⟨x,hx,e⟩:=wY (xs:=[.int 1,.int 2,.int 3,.int 5,.int 12,.int 12]) (i:=v / 24%6) (by omega) (by simp;omega);rw [e];simp at hx;rcases hx with rfl | rfl | rfl | rfl | rfl <;> exact ⟨_,rfl,by decide,by decide⟩
  obtain ⟨h,hh,h0,h1⟩:=hix;have s6:6<=sizeLine:=by decide
  have hr:kP [.int c]=.ok (bL 0 c.toNat):=by
    show (if -(2 ^ 62)<=c/\c < 2 ^ 62 then R.ok (bL 0 c.toNat) else .no)=_;rw [if_pos (by omega)]
  obtain ⟨xs,e1,e2,e3⟩:=oh (bf bO (ag (bf bD (ag (ae 1) (ag (e2 cA (eC (.int 3)) (ae 0)) aC))) (ag (ae 2) (ag (ae 3) aC)))) (aA 1 [0,3,4] [.val (tu ns),.val (.int most),.val (.int v),.val (.int c),.val (.int h)]) 0 (Pl c h) (bL 0 c.toNat) fun d hd=>by
    unfold bL at hd;obtain ⟨k,_,rfl⟩:=List.mem_map.mp hd;obtain ⟨w,hw,w0,w1⟩:=oS ns (k:=3+(0+(k:Int))) (by omega);obtain ⟨d,hd1,hd2⟩:=tj (n:=w) (c:=c) (h:=h) w0 c0 h0;refine ⟨d,?_,hd2⟩;simp at hw;simp [aA,List.replicate,hw,hd1]
  rw [eT] at e2;have ec:(xs.length:Int)=c:=by omega
  refine ⟨xs,h,?_,by rw [ec];exact e3,by omega,by omega,h0,h1⟩;rw [ge];simp [hv,hm,m0,hc,s6,hh,List.replicate,cf,hr,eT,ca (show c.toNat<=1000 by omega),e1]
noncomputable def cM (ns:List Int) (i:Int):Bool:=ns.any fun j=>decide (j=i)
theorem bx {ns:List Int} {i:Int}:cM ns i=true<->i∈ns:=by
  unfold cM;rw [List.any_eq_true];constructor
  · rintro ⟨j,hj,e⟩;have:=of_decide_eq_true e;exact this ▸ hj
  · exact fun h=>⟨i,h,decide_eq_true rfl⟩
theorem eZ:∀ ns:List Int,PyData.depthAll (ns.map .int)=0
  | []=>by simp [PyData.depthAll]
  | n::ns=>by simp [PyData.depthAll,PyData.depth,eZ ns]
theorem iN (ns:List Int):PyData.canLayAll0 (ns.map .int)=true:=oH fun x hx=>by
  obtain ⟨i,_,rfl⟩:=List.mem_map.mp hx;exact vm i
theorem lS (ns:List Int) (i:Int):mY (ns.map .int) (.int i)=true:=by
  unfold mY;rw [iN,eZ];simp [PyData.canLay0]
theorem n8 (ns:List Int) (i:Int):((ns.map PyData.int).any fun y=>PyData.eqv y (.int i))=cM ns i:=by
  rw [List.any_map];congr 1
theorem BO (ns:List Int) (i:Int) (neg:Bool):jp neg (.int i) (.tuple (ns.map .int))=.ok (.bool (if neg then !cM ns i else cM ns i)):=by
  show (if mY (ns.map .int) (.int i)=true then R.ok (PyData.bool _) else .no)=_;rw [if_pos (lS ns i),n8]
theorem tS (ns:List Int) (i:Int) (neg:Bool):jp neg (.int i) (.list (ns.map .int))=.ok (.bool (if neg then !cM ns i else cM ns i)):=by
  show (if mY (ns.map .int) (.int i)=true then R.ok (PyData.bool _) else .no)=_;rw [if_pos (lS ns i),n8]
theorem ji:∀ ns ms:List Int,PyData.eqvAll (ns.map .int) (ms.map .int)=decide (ns=ms)
  | [],[]=>by simp [PyData.eqvAll]
  | [],_::_=>by simp [PyData.eqvAll]
  | _::_,[]=>by simp [PyData.eqvAll]
  | n::ns,m::ms=>by
    simp only [List.map_cons,PyData.eqvAll,ji ns ms,mF];by_cases h:n=m <;> by_cases h2:ns=ms <;> simp [h,h2]
theorem rm (ns ms:List Int):mG (.list (ns.map .int)) (.list (ms.map .int))=true:=by
  unfold mG;simp [PyData.canLay0,iN,PyData.depth,eZ]
theorem uh (ns ms:List Int):pT (.list (ns.map .int)) (.list (ms.map .int))=.ok (.bool (!decide (ns=ms))):=by
  unfold pT;rw [if_pos (rm ns ms)];simp only [PyData.eqv,ji]
theorem A9 (ns ms:List Int):iy (.list (ns.map .int)) (.list (ms.map .int))=.ok (.bool (decide (ns=ms))):=by
  unfold iy;rw [if_pos (rm ns ms)];simp only [PyData.eqv,ji]
theorem wO (ns ms:List Int):mG (.tuple (ns.map .int)) (.tuple (ms.map .int))=true:=by
  unfold mG;simp [PyData.canLay0,iN,PyData.depth,eZ]
theorem dW {t:aD->R Bool} {ρ:aD} {p:Int->Bool}:∀ ns:List Int,(∀ x∈ns,t ((bm.non::ρ).set 0 (.val (.int x)))=.ok (p x))->bW (aG 0) t (ae 0) (.non::ρ) (ns.map .int)=.ok ((ns.filter p).map .int)
  | [],_=>h9 ..
  | x::ns,h=>by
    rw [List.map_cons,cG,h x List.mem_cons_self,dW ns fun y hy=>h y (List.mem_cons_of_mem _ hy)];cases hp:p x with
    | true=>rw [List.filter_cons_of_pos hp];rfl
    | false=>rw [List.filter_cons_of_neg (by rw [hp];simp)];rfl
theorem kq (c:Nat):bL 0 c=((List.range c).map fun (k:Nat)=>(k:Int)).map .int:=by
  unfold bL;rw [List.map_map];apply List.map_congr_left;intro k _;simp
noncomputable def aH (ps:List P4) (i:Int):List Int:=(ps[i.toNat]?.map (·.ns)).getD []
theorem lV {ps:List P4} {i:Int} (h0:0<=i) (h1:i < ps.length):cu (gD ps) (.int i)=.ok (ps[i.toNat]'(by omega)).d:=by
  rw [oU h0 (by simpa using h1)];simp
theorem eO {ps:List P4} {i:Int} (h0:0<=i) (h1:i < ps.length):aH ps i=(ps[i.toNat]'(by omega)).ns:=by
  unfold aH;rw [List.getElem?_eq_getElem (by omega)];rfl
theorem nr (p:P4):cu p.d (.int 3)=.ok (.tuple (p.ns.map .int)):=rfl
theorem mN (p:P4):cu p.d (.int 0)=.ok (.int p.w):=rfl
noncomputable def ak (ps:List P4) (i:Int):Int:=(ps[i.toNat]?.map (·.w)).getD 0
theorem eN {ps:List P4} {i:Int} (h0:0<=i) (h1:i < ps.length):ak ps i=(ps[i.toNat]'(by omega)).w:=by
  unfold ak;rw [List.getElem?_eq_getElem (by omega)];rfl
noncomputable def bU (ps:List P4) (js:List Int) (i:Int):List Int:=(aH ps i).filter (cM js)
noncomputable def uR (ps:List P4) (js kn:List Int) (i:Int):List Int:=(bU ps js i).filter (cM kn)
noncomputable def lO (ps:List P4) (js:List Int) (who:Int) (kn:List Int) (i:Int):Bool :=
  !cM kn i&&(decide (0 < (uR ps js kn i).length)&&(decide (ak ps i=who)||decide ((uR ps js kn i).length=(bU ps js i).length)))
noncomputable def iu (ps:List P4) (js:List Int) (who:Int) (kn is:List Int):List Int:=is.filter (lO ps js who kn)
noncomputable def eo (ps:List P4) (js:List Int) (who r:Int) (kvs:List (Int×Int)):List (Int×Int):=kvs++(iu ps js who (kvs.map (·.1)) js).map fun i=>(i,r)
noncomputable def i8 (ps:List P4) (js:List Int) (who:Int):Int->Nat->List (Int×Int)->List (Int×Int)
  | _,0,kvs=>kvs
  | r,n+1,kvs=>i8 ps js who (r+1) n (eo ps js who r kvs)
theorem ig:∀ {l m:List Int},l.Nodup->(∀ x∈l,x∈m)->l.length<=m.length
  | [],m,_,_=>Nat.zero_le _
  | x::l,m,nd,h=>by
    obtain ⟨n1,n2⟩:=List.nodup_cons.mp nd;have hx:=h x List.mem_cons_self;have:=ig (m:=m.erase x) n2 fun y hy=>(List.mem_erase_of_ne (by rintro rfl;exact n1 hy)).mpr (h y (List.mem_cons_of_mem _ hy))
    rw [List.length_erase_of_mem hx] at this;have hp:=List.length_pos_of_mem hx;rw [List.length_cons];omega
structure jt (js:List Int) (kvs:List (Int×Int)):Prop where
  nd:(kvs.map (·.1)).Nodup
  sub:∀ x∈kvs.map (·.1),x∈js
theorem jt.len {js:List Int} {kvs:List (Int×Int)} (h:jt js kvs) (nj:js.Nodup):kvs.length<=js.length:=by
  have:=ig h.nd h.sub;simpa using this
theorem i4 (ps:List P4) (js:List Int) (who r:Int) (kvs:List (Int×Int)):(eo ps js who r kvs).map (·.1)=kvs.map (·.1)++iu ps js who (kvs.map (·.1)) js:=by
  unfold eo;rw [List.map_append,List.map_map];congr 1;exact List.map_id _
theorem nB {ps:List P4} {js:List Int} {who:Int} {kn is:List Int} {x:Int} (h:x∈iu ps js who kn is):x∈is/\x∉kn:=by
  obtain ⟨h1,h2⟩:=List.mem_filter.mp h;refine ⟨h1,fun z=>?_⟩;unfold lO at h2;rw [bx.mpr z] at h2;simp at h2
theorem jt.round {ps:List P4} {js:List Int} {who r:Int} {kvs:List (Int×Int)} (h:jt js kvs) (nj:js.Nodup):jt js (eo ps js who r kvs):=by
  refine ⟨?_,fun x hx=>?_⟩
  · rw [i4,List.nodup_append];refine ⟨h.nd,List.Pairwise.filter _ nj,fun a ha b hb e=>?_⟩;subst e;exact (nB hb).2 ha
  · rw [i4,List.mem_append] at hx;rcases hx with z | z
    · exact h.sub x z
    · exact (nB z).1
theorem jk (ps:List P4) (js:List Int) (who:Int):∀ (n:Nat) (r:Int) (kvs:List (Int×Int)),i8 ps js who r (n+1) kvs=eo ps js who (r+n) (i8 ps js who r n kvs)
  | 0,r,kvs=>by
    show eo ps js who r kvs=eo ps js who (r+((0:Nat):Int)) kvs;simp
  | n+1,r,kvs=>by
    show i8 ps js who (r+1) (n+1) (eo ps js who r kvs)=_;rw [jk ps js who n (r+1)];show eo ps js who (r+1+n) _=eo ps js who (r+((n+1:Nat):Int)) _;rw [show r+1+(n:Int)=r+((n+1:Nat):Int) by omega];rfl
noncomputable def aK (ps:List P4) (js:List Int) (who:Int) (gs:List Int):Nat->List Int
  | 0=>gs
  | m+1=>aK ps js who gs m++iu ps js who (aK ps js who gs m) js
noncomputable def u6 (ps:List P4) (js:List Int) (who:Int) (gs:List Int) (m:Nat):List (Int×Int):=i8 ps js who 1 m (gs.map fun i=>(i,0))
theorem kN (ps:List P4) (js:List Int) (who:Int) (gs:List Int) (m:Nat):u6 ps js who gs (m+1)=eo ps js who (m+1) (u6 ps js who gs m):=by
  unfold u6;rw [jk];congr 1;omega
theorem dq (ps:List P4) (js:List Int) (who:Int) (gs:List Int):∀ m,(u6 ps js who gs m).map (·.1)=aK ps js who gs m
  | 0=>by
    show (gs.map fun i=>((i,0):Int×Int)).map (·.1)=gs;rw [List.map_map];exact List.map_id _
  | m+1=>by
    rw [kN,i4,dq ps js who gs m];rfl
noncomputable def look (kvs:List (Int×Int)) (i:Int):Option Int:=(kvs.find? fun q=>decide (q.1=i)).map (·.2)
theorem n9 (a b:List (Int×Int)) (i:Int):look (a++b) i=(look a i).or (look b i):=by
  unfold look;rw [List.find?_append];cases a.find? _ <;> rfl
theorem jE {kvs:List (Int×Int)} {i:Int}:look kvs i=none<->i∉kvs.map (·.1):=by
  unfold look;rw [Option.map_eq_none_iff,List.find?_eq_none];constructor
  · intro h z;obtain ⟨q,hq,e⟩:=List.mem_map.mp z;exact h q hq (decide_eq_true e)
  · intro h q hq e;exact h (List.mem_map.mpr ⟨q,hq,of_decide_eq_true e⟩)
theorem iW (r:Int) (i:Int):∀ l:List Int,look (l.map fun j=>(j,r)) i=if i∈l then some r else none
  | []=>rfl
  | j::l=>by
    have ih:=iW r i l;unfold look at ih ⊢;by_cases h:j=i
    · subst h;rw [List.map_cons,List.find?_cons_of_pos (by simp)];simp
    · rw [List.map_cons,List.find?_cons_of_neg (by simpa using h),ih];by_cases h2:i∈l
      · simp [h2]
      · have:¬ (i=j):=fun z=>h z.symm
        simp [h2,this]
section
variable {ps:List P4} {js:List Int} {who:Int} {gs:List Int}
theorem ic {i:Int} {k:Nat} (h:i∈aK ps js who gs k):∀ {m:Nat},k<=m->i∈aK ps js who gs m
  | 0,hm=>by
    have:k=0:=by omega
    subst this;exact h
  | m+1,hm=>by
    by_cases e:k=m+1
    · subst e;exact h
    · show i∈aK ps js who gs m++_;exact List.mem_append_left _ (ic h (by omega))
theorem dM {i:Int}:∀ {m:Nat} {q:Int},look (u6 ps js who gs m) i=some q<->∃ k:Nat,q=k/\k<=m/\i∈aK ps js who gs k/\(k=0\/i∉aK ps js who gs (k-1))
  | 0,q=>by
    show look (gs.map fun j=>(j,0)) i=some q<->_;rw [iW];constructor
    · intro h;split at h
      · rename_i hi;cases h;exact ⟨0,rfl,Nat.le_refl _,hi,.inl rfl⟩
      · cases h
    · rintro ⟨k,rfl,hk,hi,_⟩;have:k=0:=by omega
      subst this;rw [if_pos (show i∈gs from hi)];rfl
  | m+1,q=>by
    have ih:=fun q=>dM (i:=i) (m:=m) (q:=q)
    have e:u6 ps js who gs (m+1)=u6 ps js who gs m++(iu ps js who (aK ps js who gs m) js).map fun j=>(j,((m+1:Nat):Int)):=by
      rw [kN];unfold eo;rw [dq];rfl
    rw [e,n9,iW];by_cases hi:i∈aK ps js who gs m
    · cases h0:look (u6 ps js who gs m) i with
      | none=>rw [jE,dq] at h0;exact (h0 hi).elim
      | some q0 =>
        rw [Option.some_or,<- h0,ih q];constructor
        · rintro ⟨k,a,b,c,d⟩;exact ⟨k,a,by omega,c,d⟩
        · rintro ⟨k,a,b,c,d⟩;refine ⟨k,a,?_,c,d⟩;by_cases hk:k=m+1
          · subst hk;rcases d with d | d
            · omega
            · exact (d hi).elim
          · omega
    · have h0:look (u6 ps js who gs m) i=none:=by rw [jE,dq];exact hi
      rw [h0,Option.none_or];constructor
      · intro h;split at h
        · rename_i hn;cases h;exact ⟨m+1,rfl,Nat.le_refl _,List.mem_append_right _ hn,.inr hi⟩
        · cases h
      · rintro ⟨k,rfl,b,c,d⟩;have hk:k=m+1:=by
          by_cases hk:k=m+1
          · exact hk
          · exact (hi (ic c (by omega))).elim
        subst hk;have c':i∈aK ps js who gs m++iu ps js who (aK ps js who gs m) js:=c;rw [if_pos ((List.mem_append.mp c').elim (fun z=>(hi z).elim) id)]
theorem qW {k:Nat} (h:iu ps js who (aK ps js who gs k) js=[]):∀ d,aK ps js who gs (k+d)=aK ps js who gs k
  | 0=>rfl
  | d+1=>by
    show aK ps js who gs (k+d)++iu ps js who (aK ps js who gs (k+d)) js=_;rw [qW h d,h,List.append_nil]
theorem mX (ng:gs.Nodup) (hg:∀ x∈gs,x∈js) (nj:js.Nodup):∀ m,jt js (u6 ps js who gs m)
  | 0=>⟨by rw [dq];exact ng,fun x hx=>by rw [dq] at hx;exact hg x hx⟩
  | m+1=>by rw [kN];exact (mX ng hg nj m).round nj
theorem qf (ng:gs.Nodup) (hg:∀ x∈gs,x∈js) (nj:js.Nodup) {m:Nat} {i:Int} (h:i∈aK ps js who gs m):i∈js:=by
  have:=(mX (ps:=ps) (who:=who) ng hg nj m).sub;rw [dq] at this;exact this i h
theorem zx (ng:gs.Nodup) (hg:∀ x∈gs,x∈js) (nj:js.Nodup) (m:Nat):(aK ps js who gs m).length<=js.length:=by
  have:=(mX (ps:=ps) (who:=who) ng hg nj m).len nj;rw [<- dq,List.length_map];exact this
theorem rC:∀ m,(∀ k,k < m->iu ps js who (aK ps js who gs k) js≠[])->m+gs.length<=(aK ps js who gs m).length
  | 0,_=>by show 0+gs.length<=gs.length;omega
  | m+1,h=>by
    have:=rC m fun k hk=>h k (by omega)
    have h1:=h m (by omega);have h2:=List.length_pos_iff.mpr h1;show _<=(aK ps js who gs m++iu ps js who (aK ps js who gs m) js).length;rw [List.length_append];omega
theorem yq (ng:gs.Nodup) (hg:∀ x∈gs,x∈js) (nj:js.Nodup) {n:Nat} (hn:js.length<=n):iu ps js who (aK ps js who gs n) js=[]:=by
  by_cases h:iu ps js who (aK ps js who gs n) js=[]
  · exact h
  · have:=rC (ps:=ps) (js:=js) (who:=who) (gs:=gs) (n+1) fun k hk e=>h (by
      have s:=qW e (n-k);rw [show k+(n-k)=n by omega] at s;rw [s];exact e)
    have:=zx (ps:=ps) (who:=who) ng hg nj (n+1);omega
theorem fH {α:Type} (p:α->Bool):∀ l:List α,(l.filter p).length=l.length<->∀ x∈l,p x=true
  | []=>by simp
  | x::l=>by
    have ih:=fH p l;have le:=List.length_filter_le p l;cases h:p x with
    | true=>rw [List.filter_cons_of_pos h];simp [ih,h]
    | false=>rw [List.filter_cons_of_neg (by rw [h];simp)];simp [h];omega
theorem kD {α:Type} (p:α->Bool) (l:List α):0 < (l.filter p).length<->∃ x∈l,p x=true:=by
  rw [List.length_pos_iff_exists_mem];simp [List.mem_filter]
theorem fS {kn:List Int} {i:Int}:lO ps js who kn i=true<->i∉kn/\(∃ g∈bU ps js i,g∈kn)/\(ak ps i=who\/∀ g∈bU ps js i,g∈kn):=by
  unfold lO uR;rw [Bool.and_eq_true,Bool.and_eq_true,Bool.or_eq_true,decide_eq_true_iff,decide_eq_true_iff,decide_eq_true_iff,kD,fH,Bool.not_eq_true',<- Bool.not_eq_true,bx];simp only [bx]
noncomputable def rK (ps:List P4) (js:List Int) (who:Int) (gs:List Int) (i:Int):Option Int:=look (u6 ps js who gs ps.length) i
structure ph (ps:List P4) (js:List Int) (who:Int) (gs:List Int) (rk:Int->Option Int):Prop where
  nneg:∀ i q,rk i=some q->0<=q
  sub:∀ i q,rk i=some q->i∈js
  zero:∀ i,rk i=some 0<->i∈gs
  own:∀ i q,rk i=some q->0 < q->ak ps i=who->∃ g∈bU ps js i,rk g=some (q-1)
  low:∀ i q g t,rk i=some q->0 < q->ak ps i=who->g∈bU ps js i->rk g=some t->q-1<=t
  oth:∀ i q,rk i=some q->0 < q->ak ps i≠who->(∃ g,g∈bU ps js i)/\∀ g∈bU ps js i,∃ t,rk g=some t/\t < q
  outO:∀ i,i∈js->rk i=none->ak ps i=who->∀ g∈bU ps js i,rk g=none
  outX:∀ i,i∈js->rk i=none->ak ps i≠who->(∃ g,g∈bU ps js i)->∃ g∈bU ps js i,rk g=none
theorem qz (ng:gs.Nodup) (hg:∀ x∈gs,x∈js) (nj:js.Nodup) (hn:js.length<=ps.length):ph ps js who gs (rK ps js who gs):=by
  have ex:∀ {i k},i∈aK ps js who gs k->k<=ps.length->∃ t:Nat,t<=k/\rK ps js who gs i=some (t:Int):=fun {i}=>by
    intro k;induction k with
    | zero=>exact fun h _=>⟨0,Nat.le_refl _,dM.mpr ⟨0,rfl,by omega,h,.inl rfl⟩⟩
    | succ k ih =>
      intro h hk;by_cases h1:i∈aK ps js who gs k
      · obtain ⟨t,a,b⟩:=ih h1 (by omega);exact ⟨t,by omega,b⟩
      · exact ⟨k+1,Nat.le_refl _,dM.mpr ⟨k+1,rfl,hk,h,.inr h1⟩⟩
  have nm:∀ {i},rK ps js who gs i=none<->i∉aK ps js who gs ps.length:=fun {i}=>by
    unfold rK;rw [jE,dq]
  have fix:=yq (ps:=ps) (who:=who) ng hg nj hn;have new:∀ {i k},i∈aK ps js who gs (k+1)->i∉aK ps js who gs k->lO ps js who (aK ps js who gs k) i=true:=fun {i k} h1 h2=>by
    have h1':i∈aK ps js who gs k++iu ps js who (aK ps js who gs k) js:=h1;rcases List.mem_append.mp h1' with z | z
    · exact (h2 z).elim
    · exact (List.mem_filter.mp z).2
  have not:∀ {i k},i∈js->i∉aK ps js who gs (k+1)->¬ lO ps js who (aK ps js who gs k) i=true:=fun {i k} h1 h2 h3 =>
    h2 (show i∈aK ps js who gs k++iu ps js who (aK ps js who gs k) js from List.mem_append_right _ (List.mem_filter.mpr ⟨h1,h3⟩))
  have pos:∀ {i q},rK ps js who gs i=some q->0 < q->∃ k:Nat,q=((k+1:Nat):Int)/\k+1<=ps.length/\i∈aK ps js who gs (k+1)/\i∉aK ps js who gs k:=fun {i q} h hq=>by
    obtain ⟨k,rfl,b,c,d⟩:=dM.mp h;cases k with
    | zero=>omega
    | succ k =>
      rcases d with d | d
      · omega
      · exact ⟨k,rfl,b,c,d⟩
  refine ⟨fun i q h=>?_,fun i q h=>?_,fun i=>?_,fun i q h hq ho=>?_,fun i q g t h hq ho hg' ht=>?_,fun i q h hq ho=>?_,fun i hi h ho g hg'=>?_,fun i hi h ho hw=>?_⟩
  · obtain ⟨k,rfl,_⟩:=dM.mp h;omega
  · obtain ⟨k,rfl,_,c,_⟩:=dM.mp h;exact qf ng hg nj c
  · constructor
    · intro h;obtain ⟨k,e,_,c,_⟩:=dM.mp h;have:k=0:=by omega
      subst this;exact c
    · exact fun h=>dM.mpr ⟨0,rfl,by omega,h,.inl rfl⟩
  · obtain ⟨k,rfl,b,c,d⟩:=pos h hq;obtain ⟨_,⟨g,hg1,hg2⟩,_⟩:=fS.mp (new c d);obtain ⟨t,ht,hr⟩:=ex hg2 (by omega);refine ⟨g,hg1,?_⟩;by_cases e:t=k
    · subst e;rw [hr];congr 1;omega
    · exfalso;cases k with
      | zero=>omega
      | succ k =>
        obtain ⟨t',e',_,c',_⟩:=dM.mp hr;have e'':t=t':=by omega
        subst e'';exact not (qf ng hg nj c) d (fS.mpr ⟨fun z=>d (ic z (by omega)),⟨g,hg1,ic c' (by omega)⟩,.inl ho⟩)
  · obtain ⟨k,rfl,b,c,d⟩:=pos h hq;obtain ⟨t',rfl,_,c',_⟩:=dM.mp ht;by_cases e:k<=t'
    · omega
    · exfalso;cases k with
      | zero=>omega
      | succ k=>exact not (qf ng hg nj c) d (fS.mpr ⟨fun z=>d (ic z (by omega)),⟨g,hg',ic c' (by omega)⟩,.inl ho⟩)
  · obtain ⟨k,rfl,b,c,d⟩:=pos h hq;obtain ⟨_,⟨g,hg1,_⟩,o⟩:=fS.mp (new c d);refine ⟨⟨g,hg1⟩,fun g' hg'=>?_⟩;obtain ⟨t,ht,hr⟩:=ex ((o.resolve_left ho) g' hg') (by omega);exact ⟨t,hr,by omega⟩
  · rw [nm] at h ⊢;intro hz;have:i∈iu ps js who (aK ps js who gs ps.length) js:=List.mem_filter.mpr ⟨hi,fS.mpr ⟨h,⟨g,hg',hz⟩,.inl ho⟩⟩;rw [fix] at this;cases this
  · rw [nm] at h;by_cases hz:∃ g∈bU ps js i,rK ps js who gs g=none
    · exact hz
    · exfalso;have all:∀ g∈bU ps js i,g∈aK ps js who gs ps.length:=fun g hg'=>by
        by_cases z:g∈aK ps js who gs ps.length
        · exact z
        · exact (hz ⟨g,hg',nm.mpr z⟩).elim
      obtain ⟨g,hg'⟩:=hw;have:i∈iu ps js who (aK ps js who gs ps.length) js:=List.mem_filter.mpr ⟨hi,fS.mpr ⟨h,⟨g,hg',all g hg'⟩,.inr all⟩⟩;rw [fix] at this;cases this
end
noncomputable abbrev ids (n:Nat):List Int:=(List.range n).map fun (k:Nat)=>(k:Int)
theorem cb {n:Nat} {i:Int}:i∈ids n<->0<=i/\i < n:=by
  constructor
  · intro h;obtain ⟨k,hk,rfl⟩:=List.mem_map.mp h;have:=List.mem_range.mp hk;omega
  · rintro ⟨h0,h1⟩;exact List.mem_map.mpr ⟨i.toNat,List.mem_range.mpr (by omega),by omega⟩
theorem dN (n:Nat):(ids n).length=n:=by simp
theorem mV {n k:Nat} (h:k < n):(ids n)[k]?=some (k:Int):=by
  rw [List.getElem?_map,List.getElem?_range h];rfl
theorem zy (n:Nat):(ids n).Pairwise (· < ·):=by
  rw [List.pairwise_map];exact (List.pairwise_lt_range).imp fun h=>by omega
theorem tY {l:List Int} (h:l.Pairwise (· < ·)):l.Nodup:=h.imp fun h=>by omega
noncomputable def gH (f:Int->PyData) (n:Nat):List PyData:=(ids n).map f
theorem dO (f:Int->PyData) (n:Nat):(gH f n).length=n:=by unfold gH;rw [List.length_map,dN]
theorem jc {f:Int->PyData} {n:Nat} {i:Int} (h0:0<=i) (h1:i < n):(gH f n)[i.toNat]'(by rw [dO];omega)=f i:=by
  have h:=mV (n:=n) (k:=i.toNat) (by omega);have:(gH f n)[i.toNat]?=some (f i):=by
    unfold gH;rw [List.getElem?_map,h,Option.map_some];congr 2;omega
  exact Option.some.inj ((List.getElem?_eq_getElem _).symm.trans this)
theorem zX {f:Int->PyData} {n:Nat} {i:Int} (h0:0<=i) (h1:i < n):cu (.tuple (gH f n)) (.int i)=.ok (f i):=by
  rw [oU h0 (by rw [dO];exact h1),jc h0 h1]
theorem yb {f:Int->PyData} {n:Nat} {i:Int} (h0:0<=i) (h1:i < n):cu (.list (gH f n)) (.int i)=.ok (f i):=by
  rw [qP h0 (by rw [dO];exact h1),jc h0 h1]
theorem v7 {f:Int->PyData} {n:Nat} {i:Int} {v:PyData} (h0:0<=i) (h1:i < n):(gH f n).set i.toNat v=gH (fun j=>if j=i then v else f j) n:=by
  refine List.ext_getElem (by rw [List.length_set,dO,dO]) fun k hk1 hk2=>?_
  rw [dO] at hk2;have e:=jc (f:=fun j=>if j=i then v else f j) (n:=n) (i:=(k:Int)) (by omega) (by omega);have e2:=jc (f:=f) (n:=n) (i:=(k:Int)) (by omega) (by omega);simp only [Int.toNat_natCast] at e e2;rw [e,List.getElem_set];by_cases h:i.toNat=k
  · rw [if_pos h,if_pos (by omega)]
  · rw [if_neg h,if_neg (by omega),e2]
noncomputable def oD:Option Int->PyData
  | none=>.none
  | some k=>.int k
noncomputable def tR (k m:Nat):List Int:=(List.range m).map fun (j:Nat)=>((k+j:Nat):Int)
theorem nU (k m:Nat):tR k (m+1)=(k:Int)::tR (k+1) m:=by
  unfold tR;rw [List.range_succ_eq_map,List.map_cons,List.map_map];congr 1;apply List.map_congr_left;intro j _;show ((k+(j+1):Nat):Int)=((k+1+j:Nat):Int)
  omega
theorem qM (n:Nat):tR 0 n=ids n:=by
  unfold tR;apply List.map_congr_left;intro j _;simp
theorem oE (t:aD->R Bool) (g:Fs) (n:Nat) (ρ:aD):cx t g (n+1) ρ=(t ρ>>=fun b=>if b=true then g ρ>>=nH (cx t g n) else .ok (.nx ρ)):=by
  rw [cx];congr 1
noncomputable def vJ (s:PyData) (js:List Int):Prop:=s=.tuple (js.map .int)\/s=.list (js.map .int)
theorem vJ.inn {s:PyData} {js:List Int} (h:vJ s js) (neg:Bool) (k:Int):jp neg (.int k) s=.ok (.bool (if neg then !cM js k else cM js k)):=by
  rcases h with rfl | rfl
  · exact BO ..
  · exact tS ..
theorem vJ.seq {s:PyData} {js:List Int} (h:vJ s js):jy s=.ok (js.map .int):=by
  rcases h with rfl | rfl <;> rfl
theorem vJ.len {s:PyData} {js:List Int} (h:vJ s js):gt s=.ok (.int js.length):=by
  rcases h with rfl | rfl <;> simp
structure dF (n:Nat) (js:List Int):Prop where
  lt:js.Pairwise (· < ·)
  inn:∀ x∈js,0<=x/\x < n
theorem dF.nd {n:Nat} {js:List Int} (h:dF n js):js.Nodup:=tY h.lt
theorem dF.len {n:Nat} {js:List Int} (h:dF n js):js.length<=n:=by
  have:=iY js 0 n h.lt h.inn;rcases this with z | z
  · rw [z];simp
  · omega
theorem dF.filter {n:Nat} {js:List Int} (h:dF n js) (p:Int->Bool):dF n (js.filter p):=⟨h.lt.filter _,fun x hx=>h.inn x (List.mem_filter.mp hx).1⟩
theorem dF.ids (n:Nat):dF n (ids n):=⟨zy n,fun x hx=>cb.mp hx⟩
noncomputable def gE (ps:List P4) (js:List Int):Prop:=∀ i∈js,∃ g,g∈bU ps js i
noncomputable abbrev oT (f:Int->Option Int) (n:Nat):PyData:=.tuple (gH (fun i=>oD (f i)) n)
structure Gr (ps:List P4):Prop where
  hl:∀ p∈ps,p.ns.length<=100
  hgo:∀ p∈ps,∀ x∈p.ns,0<=x/\x < ps.length
  hp:ps.length<=24
  lt:∀ p∈ps,p.ns.Pairwise (· < ·)
  ne:∀ p∈ps,p.ns≠[]
theorem Gr.goals {ps:List P4} (G:Gr ps) {i x:Int} (h:x∈aH ps i):0<=x/\x < ps.length:=by
  unfold aH at h;cases e:ps[i.toNat]? with
  | none=>rw [e] at h;cases h
  | some p=>rw [e] at h;exact G.hgo p (List.mem_of_getElem? e) x h
noncomputable def ai (ps:List P4) (i:Int):Int:=(ps[i.toNat]?.map (·.m)).getD 0
theorem k7 (p:P4):cu p.d (.int 1)=.ok (.int p.m):=rfl
theorem cT {ps:List P4} {i:Int} (h0:0<=i) (h1:i < ps.length):ai ps i=(ps[i.toNat]'(by omega)).m:=by
  unfold ai;rw [List.getElem?_eq_getElem (by omega)];rfl
theorem lZ {ps:List P4} {js:List Int} (hne:js≠[]):∃ h,oG (.list ((js.map (ai ps)).map .int))=.ok (.int h)/\(∃ i∈js,ai ps i=h)/\∀ i∈js,ai ps i<=h:=by
  cases js with
  | nil=>exact (hne rfl).elim
  | cons j js =>
    obtain ⟨s1,s2⟩:=ie (ai ps j) (js.map (ai ps));refine ⟨lm (ai ps j) (js.map (ai ps)),?_,?_,fun i hi=>?_⟩
    · show (match aN (((j::js).map (ai ps)).map .int) with | some (n::ns)=>R.ok (PyData.int (lm n ns)) | _=>.no)=_;rw [cD];rfl
    · rw [<- List.map_cons (f:=ai ps)] at s1;obtain ⟨i,hi,e⟩:=List.mem_map.mp s1;exact ⟨i,hi,e⟩
    · exact s2 _ (by rw [<- List.map_cons (f:=ai ps)];exact List.mem_map.mpr ⟨i,hi,rfl⟩)
noncomputable def oB (f:Int->Option Int) (n:Nat):List Int:=(ids n).filter fun i=>(f i).isSome
theorem qb (f:Int->Option Int) (n:Nat):dF n (oB f n):=(dF.ids n).filter _
theorem l5 {f:Int->Option Int} {n:Nat} {i:Int}:i∈oB f n<->(0<=i/\i < n)/\∃ q,f i=some q:=by
  unfold oB;rw [List.mem_filter,cb,Option.isSome_iff_exists]
noncomputable def xk (ps:List P4) (who:Int) (f:Int->Option Int) (i:Int):Option Int:=match f i with
  | some q=>if ak ps i=who/\0 < q then ((aH ps i).filter fun g=>decide (f g=some (q-1))).head? else none
  | none=>none
theorem pK {ps:List P4} {js:List Int} {who:Int} {gs:List Int} {rk:Int->Option Int} (A:ph ps js who gs rk):∀ i q,rk i=some q->0 < q->ak ps i=who->∃ g∈aH ps i,rk g=some (q-1):=fun i q h1 h2 h3=>by
  obtain ⟨g,hg,e⟩:=A.own i q h1 h2 h3;exact ⟨g,(List.mem_filter.mp hg).1,e⟩
noncomputable def gz (js:List Int) (some:List Int):List Int:=js.filter fun i=>!cM some i
theorem bR {js some:List Int} {i:Int}:i∈gz js some<->i∈js/\i∉some:=by
  unfold gz;rw [List.mem_filter,Bool.not_eq_true',<- Bool.not_eq_true,bx]
noncomputable def oa (ps:List P4) (who:Int) (part:List Int) (i:Int):Option Int:=if i∈part/\ak ps i=who then (bU ps part i).head? else none
structure Sh where
  w:Int
  pl:List Int
  mv:Int->Option Int
noncomputable def iE (f g:Int->Option Int) (i:Int):Option Int:=(f i).or (g i)
theorem x8 {ps:List P4} {hi:Int} (hp:∀ p∈ps,Pl ps.length hi p) (h24:(ps.length:Int)<=24):Gr ps :=
  ⟨fun p h=>by have:=(hp p h).len;omega,fun p h=>(hp p h).inn,by omega,fun p h=>(hp p h).so,fun p h=>(hp p h).ne⟩
theorem Gr.gne {ps:List P4} (G:Gr ps) {i:Int} (h0:0<=i) (h1:i < ps.length):∃ g,g∈aH ps i:=by
  have:=G.ne _ (List.getElem_mem (show i.toNat < ps.length by omega));rw [<- eO h0 h1] at this;exact List.exists_mem_of_ne_nil _ this
theorem sJ {ps:List P4} (G:Gr ps):gE ps (ids ps.length):=fun i hi=>by
  obtain ⟨h0,h1⟩:=cb.mp hi;obtain ⟨g,hg⟩:=G.gne h0 h1;exact ⟨g,List.mem_filter.mpr ⟨hg,bx.mpr (cb.mpr (G.goals hg))⟩⟩
noncomputable def Wy (ps:List P4) (js:List Int) (w:Int) (mv:Int->Option Int) (i g:Int):Prop:=(ak ps i=w/\mv i=some g)\/(ak ps i≠w/\g∈bU ps js i)
theorem dX {ps:List P4} {js:List Int} {i g:Int} (h:g∈bU ps js i):g∈js:=bx.mp (List.mem_filter.mp h).2
theorem cV {ps:List P4} {js:List Int} {i g:Int} (h:g∈bU ps js i):g∈aH ps i:=(List.mem_filter.mp h).1
theorem dL {ps:List P4} {js:List Int} {i g:Int} (h:g∈aH ps i) (h2:g∈js):g∈bU ps js i:=List.mem_filter.mpr ⟨h,bx.mpr h2⟩
theorem qV {ps:List P4} {js gs:List Int} {who:Int} {rk:Int->Option Int} (A:ph ps js who gs rk) {i q:Int} (h:rk i=some q) (hq:0 < q) (ho:ak ps i=who):∃ g,xk ps who rk i=some g/\g∈bU ps js i/\rk g=some (q-1):=by
  obtain ⟨g,g1,g2⟩:=pK A i q h hq ho;have hm:xk ps who rk i=((aH ps i).filter fun g=>decide (rk g=some (q-1))).head?:=by
    unfold xk;rw [h];exact if_pos ⟨ho,hq⟩
  have hmem:g∈(aH ps i).filter fun g=>decide (rk g=some (q-1)):=List.mem_filter.mpr ⟨g1,decide_eq_true g2⟩
  cases hL:(aH ps i).filter fun g=>decide (rk g=some (q-1)) with
  | nil=>rw [hL] at hmem;cases hmem
  | cons v r =>
    rw [hL] at hm;have hv:v∈(aH ps i).filter fun g=>decide (rk g=some (q-1)):=by rw [hL];exact List.mem_cons_self
    have h2:=of_decide_eq_true (List.mem_filter.mp hv).2;exact ⟨v,hm,dL (List.mem_filter.mp hv).1 (A.sub v _ h2),h2⟩
theorem eQ {ps:List P4} {who:Int} {rk:Int->Option Int} {i:Int} (h:ak ps i≠who\/rk i=none\/rk i=some 0):xk ps who rk i=none:=by
  unfold xk;rcases h with h | h | h
  · cases rk i with
    | none=>rfl
    | some q=>exact if_neg fun z=>h z.1
  · rw [h]
  · rw [h];exact if_neg fun z=>by omega
theorem sV {ps:List P4} {who:Int} {part:List Int} {i:Int} (hi:i∈part) (ho:ak ps i=who) (hw:∃ g,g∈bU ps part i):∃ g,oa ps who part i=some g/\g∈bU ps part i:=by
  have hm:oa ps who part i=(bU ps part i).head?:=if_pos ⟨hi,ho⟩;obtain ⟨g,hg⟩:=hw;cases hL:bU ps part i with
  | nil=>rw [hL] at hg;cases hg
  | cons v r =>
    rw [hL] at hm;exact ⟨v,hm,List.mem_cons_self⟩
theorem pC {ps:List P4} {who:Int} {part:List Int} {i:Int} (h:i∉part\/ak ps i≠who):oa ps who part i=none:=if_neg fun z=>h.elim (fun y=>y z.1) fun y=>y z.2
inductive gI (E:Int->Int->Prop) (al:Int->Prop) (s:Int):Int->Prop
  | one {x:Int}:E s x->al x->gI E al s x
  | more {x y:Int}:gI E al s x->E x y->al y->gI E al s y
theorem gI.al {E:Int->Int->Prop} {al:Int->Prop} {s x:Int} (h:gI E al s x):al x:=by cases h <;> assumption
theorem gI.imp {E E':Int->Int->Prop} {al al':Int->Prop} {s t:Int} (h:gI E al s t) (h1:∀ y,E s y->al y->E' s y/\al' y) (h2:∀ x y,al x->E x y->al y->E' x y/\al' y):gI E' al' s t:=by
  induction h with
  | one a b=>exact .one (h1 _ a b).1 (h1 _ a b).2
  | more r a b ih=>exact .more ih (h2 _ _ r.al a b).1 (h2 _ _ r.al a b).2
theorem gI.inn {E:Int->Int->Prop} {al:Int->Prop} {s t:Int} {P:Int->Prop} (h:gI E al s t) (hs:P s) (hP:∀ x y,P x->E x y->al y->P y):gI E (fun x=>al x/\P x) s t:=by
  induction h with
  | one a b=>exact .one a ⟨b,hP _ _ hs a b⟩
  | more r a b ih=>exact .more ih a ⟨b,hP _ _ ih.al.2 a b⟩
theorem gI.out {E:Int->Int->Prop} {al:Int->Prop} {s t:Int} {P:Int->Prop} (h:gI E al s t) (ht:¬ P t) (hP:∀ x y,al x->P x->E x y->al y->P y):gI E (fun x=>al x/\¬ P x) s t:=by
  induction h with
  | one a b=>exact .one a ⟨b,ht⟩
  | more r a b ih =>
    have hx:=fun z=>ht (hP _ _ r.al z a b)
    exact .more (ih hx) a ⟨b,ht⟩
theorem gI.less {E:Int->Int->Prop} {al:Int->Prop} {s t:Int} {φ:Int->Int} (h:gI E al s t) (h1:∀ y,E s y->al y->φ y < φ s) (h2:∀ x y,al x->E x y->al y->φ y<=φ x):φ t < φ s:=by
  induction h with
  | one a b=>exact h1 _ a b
  | more r a b ih =>
    have:=h2 _ _ r.al a b;omega
structure l6 (ps:List P4) (js:List Int) (win:Int->Int) (mv:Int->Option Int):Prop where
  two:∀ i∈js,win i=0\/win i=1
  has:∀ i∈js,ak ps i=win i->∃ g,mv i=some g/\g∈aH ps i
  non:∀ i∈js,ak ps i≠win i->mv i=none
  stay:∀ i∈js,∀ g,Wy ps js (win i) mv i g->g∈js/\win g=win i
  good:∀ i∈js,ai ps i%2≠win i->¬ gI (Wy ps js (win i) mv) (fun x=>x∈js/\win x=win i/\ai ps x<=ai ps i) i i
structure fu (ps:List P4) (js:List Int) (s:Sh):Prop where
  two:s.w=0\/s.w=1
  sub:∀ i∈s.pl,i∈js
  ne:s.pl≠[]
  has:∀ i∈s.pl,ak ps i=s.w->∃ g,s.mv i=some g/\g∈aH ps i
  non:∀ i,(i∉s.pl\/ak ps i≠s.w)->s.mv i=none
  stay:∀ i∈s.pl,∀ g,Wy ps js s.w s.mv i g->g∈s.pl
  outO:∀ i∈js,i∉s.pl->ak ps i=s.w->∀ g∈bU ps js i,g∉s.pl
  outX:∀ i∈js,i∉s.pl->ak ps i≠s.w->∃ g∈bU ps js i,g∉s.pl
  good:∀ i∈s.pl,ai ps i%2≠s.w->¬ gI (Wy ps js s.w s.mv) (fun x=>x∈s.pl/\ai ps x<=ai ps i) i i
theorem iC {ps:List P4} {K:List Int} {w:Int} {m1 m2:Int->Option Int} {i g:Int} (e:m1 i=m2 i) (h:Wy ps K w m1 i g):Wy ps K w m2 i g:=by
  rcases h with ⟨a,b⟩ | h
  · exact .inl ⟨a,by rw [<- e];exact b⟩
  · exact .inr h
theorem fu.whole {ps:List P4} {js:List Int} {s:Sh} (S:fu ps js s) (hw:gE ps js):gE ps (gz js s.pl):=by
  intro i hi;obtain ⟨h1,h2⟩:=bR.mp hi;have fin:∀ g∈bU ps js i,g∉s.pl->∃ g,g∈bU ps (gz js s.pl) i:=fun g g1 g2=>⟨g,dL (cV g1) (bR.mpr ⟨dX g1,g2⟩)⟩
  by_cases ho:ak ps i=s.w
  · obtain ⟨g,hg⟩:=hw i h1;exact fin g hg (S.outO i h1 h2 ho g hg)
  · obtain ⟨g,g1,g2⟩:=S.outX i h1 h2 ho;exact fin g g1 g2
theorem vo {ps:List P4} {js:List Int} (hown:∀ i∈js,ak ps i=0\/ak ps i=1) {s:Sh} (S:fu ps js s) {win:Int->Int} {mv:Int->Option Int} (I:l6 ps (gz js s.pl) win mv) :
    l6 ps js (fun i=>if i∈s.pl then s.w else win i) (fun i=>if i∈s.pl then s.mv i else mv i):=by
  have wP:∀ {i},i∈s.pl->(if i∈s.pl then s.w else win i)=s.w:=fun h=>if_pos h
  have wR:∀ {i},i∉s.pl->(if i∈s.pl then s.w else win i)=win i:=fun h=>if_neg h
  have mP:∀ {i},i∈s.pl->(if i∈s.pl then s.mv i else mv i)=s.mv i:=fun h=>if_pos h
  have mR:∀ {i},i∉s.pl->(if i∈s.pl then s.mv i else mv i)=mv i:=fun h=>if_neg h
  have goR:∀ i g,i∈js->i∉s.pl->Wy ps js (win i) mv i g->(g∈js/\g∉s.pl/\Wy ps (gz js s.pl) (win i) mv i g)\/(win i=s.w/\g∈s.pl):=fun i g hi hn h=>by
    have hi':=bR.mpr ⟨hi,hn⟩;rcases h with ⟨ho,hm⟩ | ⟨ho,hm⟩
    · have w:Wy ps (gz js s.pl) (win i) mv i g:=.inl ⟨ho,hm⟩;obtain ⟨z1,z2⟩:=bR.mp (I.stay i hi' g w).1;exact .inl ⟨z1,z2,w⟩
    · by_cases hg:g∈s.pl
      · right;refine ⟨?_,hg⟩;have h1:ak ps i≠s.w:=fun z=>S.outO i hi hn z g hm hg
        have:=hown i hi;have:=I.two i hi';have:=S.two;omega
      · exact .inl ⟨dX hm,hg,.inr ⟨ho,dL (cV hm) (bR.mpr ⟨dX hm,hg⟩)⟩⟩
  refine ⟨fun i hi=>?_,fun i hi ho=>?_,fun i hi ho=>?_,fun i hi g hg=>?_,fun i hi hm hp=>?_⟩
  · by_cases h:i∈s.pl
    · rw [wP h];exact S.two
    · rw [wR h];exact I.two i (bR.mpr ⟨hi,h⟩)
  · by_cases h:i∈s.pl
    · rw [mP h];exact S.has i h (ho.trans (wP h))
    · rw [mR h];exact I.has i (bR.mpr ⟨hi,h⟩) (ho.trans (wR h))
  · by_cases h:i∈s.pl
    · rw [mP h];exact S.non i (.inr fun z=>ho (z.trans (wP h).symm))
    · rw [mR h];exact I.non i (bR.mpr ⟨hi,h⟩) fun z=>ho (z.trans (wR h).symm)
  · by_cases h:i∈s.pl
    · rw [wP h] at hg ⊢;have:=S.stay i h g (iC (mP h) hg);exact ⟨S.sub g this,wP this⟩
    · rw [wR h] at hg ⊢;rcases goR i g hi h (iC (mR h) hg) with ⟨z1,z2,z3⟩ | ⟨z1,z2⟩
      · refine ⟨z1,?_⟩;rw [wR z2];exact (I.stay i (bR.mpr ⟨hi,h⟩) g z3).2
      · refine ⟨S.sub g z2,?_⟩;rw [wP z2];exact z1.symm
  · by_cases h:i∈s.pl
    · rw [wP h] at hm hp;refine S.good i h hm ?_;refine (hp.inn (P:=fun x=>x∈s.pl) h fun x y hx e _=>S.stay x hx y (iC (mP hx) e)).imp (fun y e a=>⟨iC (mP h) e,a.2,a.1.2.2⟩) fun x y ax e a=>⟨iC (mP ax.2) e,a.2,a.1.2.2⟩
    · rw [wR h] at hm hp;refine I.good i (bR.mpr ⟨hi,h⟩) hm ?_;have hp2:=hp.out (P:=fun x=>x∈s.pl) h fun x y ax hx e a=>by
        have hw:s.w=win i:=(wP hx).symm.trans ax.2.1;exact S.stay x hx y (iC (mP hx) (by rw [hw];exact e))
      have st:∀ x y,x∈js->x∉s.pl->win x=win i->Wy ps js (win i) (fun i=>if i∈s.pl then s.mv i else mv i) x y->(y∈js/\(if y∈s.pl then s.w else win y)=win i/\ai ps y<=ai ps i)/\y∉s.pl->Wy ps (gz js s.pl) (win i) mv x y/\(y∈gz js s.pl/\win y=win i/\ai ps y<=ai ps i):=fun x y hx hxn hwx e a=>by
        refine ⟨?_,bR.mpr ⟨a.1.1,a.2⟩,(wR a.2).symm.trans a.1.2.1,a.1.2.2⟩;rcases goR x y hx hxn (by rw [hwx];exact iC (mR hxn) e) with ⟨_,_,z⟩ | ⟨_,z⟩
        · rw [hwx] at z;exact z
        · exact (a.2 z).elim
      exact hp2.imp (fun y e a=>st i y hi h rfl e a) fun x y ax e a=>st x y ax.1.1 ax.2 ((wR ax.2).symm.trans ax.1.2.1) e a
theorem v4 {ps:List P4} (win:Int->Int) (mv:Int->Option Int):l6 ps [] win mv:=by
  refine ⟨?_,?_,?_,?_,?_⟩ <;> intro i hi <;> cases hi
section
variable {ps:List P4} {js:List Int} (hj:dF ps.length js) (hw:gE ps js) (hown:∀ i∈js,ak ps i=0\/ak ps i=1) {h w:Int} (ew:w=h%2) (hmax:∀ i∈js,ai ps i<=h)
  {tops:List Int} (htop:∀ i,i∈tops<->i∈js/\ai ps i=h) {rk:Int->Option Int} (A:ph ps js w tops rk) {sub:List Int} (hsub:∀ i,i∈sub<->i∈js/\rk i=none) {win:Int->Int} {mv:Int->Option Int} (I:l6 ps sub win mv) (hmv:∀ i,i∉sub->mv i=none)
include hj hw hown ew hmax htop A hsub I hmv
theorem rL (hne:js≠[]) (hl:∀ i∈sub,win i=w):fu ps js ⟨w,js,iE (iE (xk ps w rk) mv) (oa ps w js)⟩:=by
  have w01:w=0\/w=1:=by omega
  obtain ⟨M,eM⟩:∃ M,M=iE (iE (xk ps w rk) mv) (oa ps w js):=⟨_,rfl⟩
  rw [<- eM]
  -- the move at a place of w
  have own:∀ i∈js,ak ps i=w->∃ g,M i=some g/\g∈aH ps i/\g∈js/\(∀ q,rk i=some q->0 < q->rk g=some (q-1))/\(rk i=none->mv i=some g):=fun i hi ho=>by
    rw [eM];unfold iE;cases hr:rk i with
    | none =>
      have his:=(hsub i).mpr ⟨hi,hr⟩;obtain ⟨g,g1,g2⟩:=I.has i his (by rw [hl i his];exact ho);have gs:=(I.stay i his g (by rw [hl i his];exact .inl ⟨ho,g1⟩)).1;exact ⟨g,by rw [eQ (.inr (.inl hr)),g1];rfl,g2,((hsub g).mp gs).1,(fun q z=>nomatch z),fun _=>g1⟩
    | some q =>
      by_cases hq:0 < q
      · obtain ⟨g,g1,g2,g3⟩:=qV A hr hq ho;exact ⟨g,by rw [g1];rfl,cV g2,dX g2,fun q' z _=>by cases z;exact g3,fun z=>by cases z⟩
      · obtain ⟨g,g1,g2⟩:=sV hi ho (hw i hi);have h0:q=0:=by have:=A.nneg i q hr;omega
        have hn:mv i=none:=hmv i fun z=>by have:=((hsub i).mp z).2;rw [hr] at this;cases this
        refine ⟨g,by rw [eQ (.inr (.inr (by rw [hr,h0]))),hn,g1];rfl,cV g2,dX g2,fun q' z y=>by cases z;omega,fun z=>by cases z⟩
  refine ⟨w01,fun i hi=>hi,hne,fun i hi ho=>?_,fun i hi=>?_,fun i hi g hg=>?_,fun i hi hn=>(hn hi).elim,fun i hi hn=>(hn hi).elim,fun i hi hm hp=>?_⟩
  · obtain ⟨g,g1,g2,_⟩:=own i hi ho;exact ⟨g,g1,g2⟩
  · show M i=none;rw [eM];unfold iE;rw [pC hi];rcases hi with hi | hi
    · have hr:rk i=none:=by
        cases hr:rk i with
        | none=>rfl
        | some q=>exact (hi (A.sub i q hr)).elim
      rw [eQ (.inr (.inl hr)),hmv i fun z=>hi ((hsub i).mp z).1];rfl
    · rw [eQ (.inl hi)];by_cases his:i∈sub
      · rw [I.non i his (by rw [hl i his];exact hi)];rfl
      · rw [hmv i his];rfl
  · show g∈js;rcases hg with ⟨ho,hm⟩ | ⟨_,hm⟩
    · obtain ⟨g',g1,_,g3,_⟩:=own i hi ho;rw [show M i=some g from hm] at g1;cases g1;exact g3
    · exact dX hm
  · -- a bad ring
    have hm':ai ps i%2≠w:=hm;have hlt:ai ps i < h:=by
      have:=hmax i hi;by_cases z:ai ps i=h
      · rw [z] at hm';exact (hm' ew.symm).elim
      · omega
    have dec:∀ x y q,x∈js->ai ps x<=ai ps i->rk x=some q->Wy ps js w M x y->∃ t,rk y=some t/\t < q:=fun x y q hx hmx hq e=>by
      have hpos:0 < q:=by
        have:=A.nneg x q hq;by_cases z:q=0
        · subst z;have:=((htop x).mp ((A.zero x).mp hq)).2;omega
        · omega
      rcases e with ⟨ho,hmv'⟩ | ⟨ho,hmv'⟩
      · obtain ⟨g,g1,_,_,g4,_⟩:=own x hx ho;rw [hmv'] at g1;cases g1;exact ⟨q-1,g4 q hq hpos,by omega⟩
      · exact (A.oth x q hq hpos ho).2 y hmv'
    by_cases hri:rk i=none
    · -- all of it lies in what is left
      have his:=(hsub i).mpr ⟨hi,hri⟩;have hp2:=hp.out (P:=fun x=>∃ q,rk x=some q) (by rintro ⟨q,hq⟩;rw [hri] at hq;cases hq) fun x y ax ⟨q,hq⟩ e _=>by
        obtain ⟨t,ht,_⟩:=dec x y q ax.1 ax.2 hq e;exact ⟨t,ht⟩
      have non:∀ {x},¬ (∃ q,rk x=some q)->rk x=none:=fun {x} z=>by
        cases hr:rk x with
        | none=>rfl
        | some q=>exact (z ⟨q,hr⟩).elim
      refine I.good i his (by rw [hl i his];exact hm') ?_;rw [hl i his];have st:∀ x y,x∈js->rk x=none->Wy ps js w M x y->(y∈js/\ai ps y<=ai ps i)/\¬ (∃ q,rk y=some q)->Wy ps sub w mv x y/\(y∈sub/\win y=w/\ai ps y<=ai ps i):=fun x y hx hrx e a=>by
        have hys:=(hsub y).mpr ⟨a.1.1,non a.2⟩;refine ⟨?_,hys,hl y hys,a.1.2⟩;rcases e with ⟨ho,hmv'⟩ | ⟨ho,hmv'⟩
        · obtain ⟨g,g1,_,_,_,g5⟩:=own x hx ho;rw [hmv'] at g1;cases g1;exact .inl ⟨ho,g5 hrx⟩
        · exact .inr ⟨ho,dL (cV hmv') hys⟩
      exact hp2.imp (fun y e a=>st i y hi hri e a) fun x y ax e a=>st x y ax.1.1 (non ax.2) e a
    · -- ranks fall
      obtain ⟨q0,hq0⟩:∃ q,rk i=some q:=by
        cases hr:rk i with
        | none=>exact (hri hr).elim
        | some q=>exact ⟨q,rfl⟩
      have hp2:=hp.inn (P:=fun x=>x∈js/\ai ps x<=ai ps i/\∃ q,rk x=some q) ⟨hi,Int.le_refl _,q0,hq0⟩ fun x y ⟨hx,hmx,q,hq⟩ e a=>by
        obtain ⟨t,ht,_⟩:=dec x y q hx hmx hq e;exact ⟨a.1,a.2,t,ht⟩
      have fall:∀ x y,x∈js->ai ps x<=ai ps i->(∃ q,rk x=some q)->Wy ps js w M x y->(rk y).getD 0 < (rk x).getD 0:=fun x y hx hmx ⟨q,hq⟩ e=>by
        obtain ⟨t,ht,hlt'⟩:=dec x y q hx hmx hq e;rw [ht,hq];exact hlt'
      have:=hp2.less (φ:=fun x=>(rk x).getD 0) (fun y e _=>fall i y hi (Int.le_refl _) ⟨q0,hq0⟩ e) fun x y ax e _=>by
        have:=fall x y ax.2.1 ax.2.2.1 ax.2.2.2 e;omega
      exact absurd this (Int.lt_irrefl _)
theorem pR {lost:List Int} (hlost:∀ i,i∈lost<->i∈sub/\win i=1-w) (hne:lost≠[]) {rk2:Int->Option Int} (B:ph ps js (1-w) lost rk2) {pl:List Int} (hpl:∀ i,i∈pl<->∃ q,rk2 i=some q) :
    fu ps js ⟨1-w,pl,iE (xk ps (1-w) rk2) (fun i=>if i∈lost then mv i else none)⟩:=by
  have w01:w=0\/w=1:=by omega
  obtain ⟨M,eM⟩:∃ M,M=iE (xk ps (1-w) rk2) (fun i=>if i∈lost then mv i else none):=⟨_,rfl⟩
  rw [<- eM];have l0:∀ {i},i∈lost->rk2 i=some 0:=fun {i} hi=>(B.zero i).mpr hi
  have own:∀ i q,rk2 i=some q->ak ps i=1-w->∃ g,M i=some g/\g∈aH ps i/\((0 < q/\rk2 g=some (q-1))\/(q=0/\g∈lost/\mv i=some g)):=fun i q hq ho=>by
    rw [eM];unfold iE;by_cases hp:0 < q
    · obtain ⟨g,g1,g2,g3⟩:=qV B hq hp ho;exact ⟨g,by rw [g1];rfl,cV g2,.inl ⟨hp,g3⟩⟩
    · have h0:q=0:=by have:=B.nneg i q hq;omega
      have hi:i∈lost:=(B.zero i).mp (by rw [hq,h0]);obtain ⟨hs,hwi⟩:=(hlost i).mp hi;obtain ⟨g,g1,g2⟩:=I.has i hs (by rw [hwi];exact ho);obtain ⟨s1,s2⟩:=I.stay i hs g (by rw [hwi];exact .inl ⟨ho,g1⟩);refine ⟨g,?_,g2,.inr ⟨h0,(hlost g).mpr ⟨s1,s2.trans hwi⟩,g1⟩⟩;rw [eQ (.inr (.inr (by rw [hq,h0])))];show (if i∈lost then mv i else none)=_;rw [if_pos hi,g1]
  have go:∀ i q g,rk2 i=some q->Wy ps js (1-w) M i g->∃ t,rk2 g=some t/\((t < q)\/(q=0/\t=0/\Wy ps sub (1-w) mv i g)):=fun i q g hq e=>by
    rcases e with ⟨ho,hm⟩ | ⟨ho,hm⟩
    · obtain ⟨g',g1,_,g3⟩:=own i q hq ho;rw [hm] at g1;cases g1;rcases g3 with ⟨z1,z2⟩ | ⟨z1,z2,z3⟩
      · exact ⟨q-1,z2,.inl (by omega)⟩
      · exact ⟨0,l0 z2,.inr ⟨z1,rfl,.inl ⟨ho,z3⟩⟩⟩
    · by_cases hp:0 < q
      · obtain ⟨t,t1,t2⟩:=(B.oth i q hq hp ho).2 g hm;exact ⟨t,t1,.inl t2⟩
      · have h0:q=0:=by have:=B.nneg i q hq;omega
        have hi:i∈lost:=(B.zero i).mp (by rw [hq,h0]);obtain ⟨hs,hwi⟩:=(hlost i).mp hi;obtain ⟨hij,hin⟩:=(hsub i).mp hs;have how:ak ps i=w:=by have:=hown i hij;omega
        have hgs:g∈sub:=(hsub g).mpr ⟨dX hm,A.outO i hij hin how g hm⟩;have wy:Wy ps sub (1-w) mv i g:=.inr ⟨ho,dL (cV hm) hgs⟩;obtain ⟨s1,s2⟩:=I.stay i hs g (by rw [hwi];exact wy);exact ⟨0,l0 ((hlost g).mpr ⟨s1,s2.trans hwi⟩),.inr ⟨h0,rfl,wy⟩⟩
  refine ⟨by show 1-w=0\/1-w=1;omega,fun i hi=>?_,?_,fun i hi ho=>?_,fun i hi=>?_,fun i hi g hg=>?_,fun i hi hn ho g hg hgp=>?_,fun i hi hn ho=>?_,fun i hi hm hp=>?_⟩
  · obtain ⟨q,hq⟩:=(hpl i).mp hi;exact B.sub i q hq
  · obtain ⟨i,hi⟩:=List.exists_mem_of_ne_nil _ hne;exact List.ne_nil_of_mem ((hpl i).mpr ⟨0,l0 hi⟩)
  · obtain ⟨q,hq⟩:=(hpl i).mp hi;obtain ⟨g,g1,g2,_⟩:=own i q hq ho;exact ⟨g,g1,g2⟩
  · show M i=none;rw [eM];unfold iE;rcases hi with hi | hi
    · have hr:rk2 i=none:=by
        cases hr:rk2 i with
        | none=>rfl
        | some q=>exact (hi ((hpl i).mpr ⟨q,hr⟩)).elim
      rw [eQ (.inr (.inl hr))];show (if i∈lost then mv i else none)=_;rw [if_neg fun z=>by rw [l0 z] at hr;cases hr]
    · rw [eQ (.inl hi)];show (if i∈lost then mv i else none)=_;by_cases z:i∈lost
      · obtain ⟨hs,hwi⟩:=(hlost i).mp z;rw [if_pos z,I.non i hs (by rw [hwi];exact hi)]
      · rw [if_neg z]
  · obtain ⟨q,hq⟩:=(hpl i).mp hi;obtain ⟨t,ht,_⟩:=go i q g hq hg;exact (hpl g).mpr ⟨t,ht⟩
  · have hr:rk2 i=none:=by
      cases hr:rk2 i with
      | none=>rfl
      | some q=>exact (hn ((hpl i).mpr ⟨q,hr⟩)).elim
    obtain ⟨q,hq⟩:=(hpl g).mp hgp;rw [B.outO i hi hr ho g hg] at hq;cases hq
  · have hr:rk2 i=none:=by
      cases hr:rk2 i with
      | none=>rfl
      | some q=>exact (hn ((hpl i).mpr ⟨q,hr⟩)).elim
    obtain ⟨g,g1,g2⟩:=B.outX i hi hr ho (hw i hi);refine ⟨g,g1,fun z=>?_⟩;obtain ⟨q,hq⟩:=(hpl g).mp z;rw [g2] at hq;cases hq
  · -- a bad ring
    have hi':i∈pl:=hi;have hm':ai ps i%2≠1-w:=hm;obtain ⟨q0,hq0⟩:=(hpl i).mp hi';have le:∀ x y,x∈pl->Wy ps js (1-w) M x y->(rk2 y).getD 0<=(rk2 x).getD 0:=fun x y hx e=>by
      obtain ⟨q,hq⟩:=(hpl x).mp hx;obtain ⟨t,ht,z⟩:=go x q y hq e;rw [hq,ht];show t<=q;omega
    by_cases hz:q0=0
    · subst hz;have hil:i∈lost:=(B.zero i).mp hq0;obtain ⟨his,hwi⟩:=(hlost i).mp hil;have hp2:=hp.inn (P:=fun x=>x∈lost) hil fun x y hx e _=>by
        obtain ⟨t,ht,z⟩:=go x 0 y (l0 hx) e;have:=B.nneg y t ht;have t0:t=0:=by omega
        exact (B.zero y).mp (by rw [ht,t0])
      refine I.good i his (by rw [hwi];exact hm') ?_;rw [hwi];have st:∀ x y,x∈lost->Wy ps js (1-w) M x y->(y∈pl/\ai ps y<=ai ps i)/\y∈lost->Wy ps sub (1-w) mv x y/\(y∈sub/\win y=1-w/\ai ps y<=ai ps i):=fun x y hx e a=>by
        obtain ⟨s1,s2⟩:=(hlost y).mp a.2;refine ⟨?_,s1,s2,a.1.2⟩;obtain ⟨t,ht,z⟩:=go x 0 y (l0 hx) e;have:=B.nneg y t ht;rcases z with z | ⟨_,_,z⟩
        · omega
        · exact z
      exact hp2.imp (fun y e a=>st i y hil e a) fun x y ax e a=>st x y ax.2 e a
    · have:=hp.less (φ:=fun x=>(rk2 x).getD 0) (fun y e _=>by
        obtain ⟨t,ht,z⟩:=go i q0 y hq0 e;show (rk2 y).getD 0 < (rk2 i).getD 0;rw [ht,hq0];show t < q0;omega) fun x y ax e _=>le x y ax.1 e
      exact absurd this (Int.lt_irrefl _)
end
theorem l6.congr {ps:List P4} {js:List Int} {win:Int->Int} {mv mv':Int->Option Int} (h:l6 ps js win mv) (e:∀ i∈js,mv' i=mv i):l6 ps js win mv':=by
  refine ⟨h.two,fun i hi ho=>by rw [e i hi];exact h.has i hi ho,fun i hi ho=>by rw [e i hi];exact h.non i hi ho,fun i hi g hg=>h.stay i hi g (iC (e i hi) hg),fun i hi hm hp=>h.good i hi hm ?_⟩;exact hp.imp (fun y a b=>⟨iC (e i hi) a,b⟩) fun x y ax a b=>⟨iC (e x ax.1) a,b⟩
theorem ww (ps:List P4):∀ {js:List Int},js≠[]->∃ h,(∃ i∈js,ai ps i=h)/\∀ i∈js,ai ps i<=h:=fun {js} hne=>by
  obtain ⟨h,_,a,b⟩:=lZ (ps:=ps) hne;exact ⟨h,a,b⟩
section
variable {ps:List P4} {js:List Int} (hj:dF ps.length js) (hw:gE ps js) (hne:js≠[]) (hown:∀ i∈js,ak ps i=0\/ak ps i=1)
include hj hw hne hown
theorem tN (ih:∀ (h:Int) (sub:List Int),dF ps.length sub->gE ps sub->(∀ i∈sub,i∈js/\ai ps i < h)->(∃ i∈js,ai ps i=h)->∃ win mv,l6 ps sub win mv/\∀ i,i∉sub->mv i=none) :
    ∃ s,fu ps js s/\dF ps.length s.pl:=by
  obtain ⟨h,htopx,hmax⟩:=ww ps hne;obtain ⟨w,ew⟩:∃ w,w=h%2:=⟨_,rfl⟩
  have w01:w=0\/w=1:=by omega
  obtain ⟨tops,etops⟩:∃ tops,tops=js.filter fun i=>decide (ai ps i=h):=⟨_,rfl⟩
  have htop:∀ i,i∈tops<->i∈js/\ai ps i=h:=fun i=>by rw [etops,List.mem_filter,decide_eq_true_iff]
  have tp:dF ps.length tops:=by rw [etops];exact hj.filter _
  obtain ⟨rk,erk⟩:∃ rk,rk=rK ps js w tops:=⟨_,rfl⟩
  have A:ph ps js w tops rk:=by rw [erk];exact qz tp.nd (fun x hx=>((htop x).mp hx).1) hj.nd hj.len
  obtain ⟨sub,esub⟩:∃ sub,sub=gz js (oB rk ps.length):=⟨_,rfl⟩
  have hsub:∀ i,i∈sub<->i∈js/\rk i=none:=fun i=>by
    rw [esub,bR,l5];constructor
    · rintro ⟨a,b⟩;refine ⟨a,?_⟩;cases hr:rk i with
      | none=>rfl
      | some q=>exact (b ⟨hj.inn i a,q,hr⟩).elim
    · rintro ⟨a,b⟩;exact ⟨a,fun ⟨_,q,hq⟩=>by rw [b] at hq;cases hq⟩
  have sp:dF ps.length sub:=by rw [esub];exact hj.filter _
  have sw:gE ps sub:=by
    intro i hi;obtain ⟨a,b⟩:=(hsub i).mp hi;have fin:∀ g∈bU ps js i,rk g=none->∃ g,g∈bU ps sub i:=fun g g1 g2=>⟨g,dL (cV g1) ((hsub g).mpr ⟨dX g1,g2⟩)⟩
    by_cases ho:ak ps i=w
    · obtain ⟨g,hg⟩:=hw i a;exact fin g hg (A.outO i a b ho g hg)
    · obtain ⟨g,g1,g2⟩:=A.outX i a b ho (hw i a);exact fin g g1 g2
  obtain ⟨win,mv,I,hmv⟩:=ih h sub sp sw (fun i hi=>by
    obtain ⟨a,b⟩:=(hsub i).mp hi;refine ⟨a,?_⟩;have:=hmax i a;by_cases z:ai ps i=h
    · have:=(A.zero i).mpr ((htop i).mpr ⟨a,z⟩);rw [b] at this;cases this
    · omega) htopx
  obtain ⟨lost,elost⟩:∃ lost,lost=sub.filter fun i=>decide (win i=1-w):=⟨_,rfl⟩
  have hlost:∀ i,i∈lost<->i∈sub/\win i=1-w:=fun i=>by rw [elost,List.mem_filter,decide_eq_true_iff]
  have lp:dF ps.length lost:=by rw [elost];exact sp.filter _
  by_cases hl:lost=[]
  · have hall:∀ i∈sub,win i=w:=fun i hi=>by
      by_cases z:win i=1-w
      · have:=(hlost i).mpr ⟨hi,z⟩;rw [hl] at this;cases this
      · have:=I.two i hi;omega
    exact ⟨_,rL hj hw hown ew hmax htop A hsub I hmv hne hall,hj⟩
  · obtain ⟨rk2,erk2⟩:∃ rk2,rk2=rK ps js (1-w) lost:=⟨_,rfl⟩
    have lsub:∀ x∈lost,x∈js:=fun x hx=>((hsub x).mp ((hlost x).mp hx).1).1
    have B2:ph ps js (1-w) lost rk2:=by rw [erk2];exact qz lp.nd lsub hj.nd hj.len
    refine ⟨_,pR hj hw hown ew hmax htop A hsub I hmv hlost hl B2 (pl:=oB rk2 ps.length) fun i=>?_,qb _ _⟩;rw [l5];exact ⟨fun z=>z.2,fun ⟨q,hq⟩=>⟨hj.inn i (B2.sub i q hq),q,hq⟩⟩
end
theorem tM {ps:List P4} {Pm:Int->Prop} (hown:∀ i,Pm i->ak ps i=0\/ak ps i=1) (hS:∀ js,dF ps.length js->gE ps js->js≠[]->(∀ i∈js,Pm i)->∃ s,fu ps js s/\dF ps.length s.pl) :
    ∀ (n:Nat) (js:List Int),dF ps.length js->gE ps js->(∀ i∈js,Pm i)->js.length<=n->∃ win mv,l6 ps js win mv
  | n,js,hj,hw,hm,hn=>by
    by_cases h0:js=[]
    · subst h0;exact ⟨fun _=>0,fun _=>none,v4 _ _⟩
    · cases n with
      | zero=>exact (h0 (List.eq_nil_of_length_eq_zero (by omega))).elim
      | succ n =>
        obtain ⟨s,S,sp⟩:=hS js hj hw h0 hm;have hl:(gz js s.pl).length < js.length:=by
          obtain ⟨i,hi⟩:=List.exists_mem_of_ne_nil _ S.ne;refine Nat.lt_of_le_of_ne (List.length_filter_le ..) fun z=>?_
          have:=(fH _ js).mp z i (S.sub i hi);rw [bx.mpr hi] at this;cases this
        obtain ⟨win,mv,I⟩:=tM hown hS n (gz js s.pl) (hj.filter _) (S.whole hw) (fun i hi=>hm i (bR.mp hi).1) (by omega);exact ⟨_,_,vo (fun i hi=>hown i (hm i hi)) S I⟩
theorem vB {ps:List P4} {Pm:Int->Prop} (hown:∀ i,Pm i->ak ps i=0\/ak ps i=1) (hS:∀ js,dF ps.length js->gE ps js->js≠[]->(∀ i∈js,Pm i)->∃ s,fu ps js s/\dF ps.length s.pl) {js:List Int} (hj:dF ps.length js) (hw:gE ps js) (hm:∀ i∈js,Pm i) :
    ∃ win mv,l6 ps js win mv/\∀ i,i∉js->mv i=none:=by
  obtain ⟨win,mv,I⟩:=tM hown hS js.length js hj hw hm (Nat.le_refl _);exact ⟨win,fun i=>if i∈js then mv i else none,I.congr fun i hi=>if_pos hi,fun i hi=>if_neg hi⟩
theorem vf {ps:List P4}:∀ (k:Nat) (js:List Int),dF ps.length js->gE ps js->(∀ i∈js,(ak ps i=0\/ak ps i=1)/\0<=ai ps i/\ai ps i < k) ->
    ∃ win mv,l6 ps js win mv/\∀ i,i∉js->mv i=none
  | 0,js,hj,hw,hm=>vB (Pm:=fun i=>(ak ps i=0\/ak ps i=1)/\0<=ai ps i/\ai ps i < (0:Nat)) (fun i h=>h.1) (fun js' _ _ hne h=>by
      obtain ⟨i,hi⟩:=List.exists_mem_of_ne_nil _ hne;have:=(h i hi).2;omega) hj hw hm
  | k+1,js,hj,hw,hm=>vB (Pm:=fun i=>(ak ps i=0\/ak ps i=1)/\0<=ai ps i/\ai ps i < ((k+1:Nat):Int)) (fun i h=>h.1) (fun js' hj' hw' hne h=>tN hj' hw' hne (fun i hi=>(h i hi).1) fun hh sub sp sw hs ⟨i0,hi0,e0⟩=>vf k sub sp sw fun i hi=>by
      obtain ⟨a,b⟩:=hs i hi;have h1:=h i a;have h2:=(h i0 hi0).2.2;exact ⟨h1.1,h1.2.1,by omega⟩) hj hw hm
noncomputable def jB (ps:List P4) (i:Int):PyData:=(ps[i.toNat]?.map P4.d).getD .none
theorem y9 (ps:List P4):ps.map P4.d=gH (jB ps) ps.length:=by
  refine List.ext_getElem (by rw [List.length_map,dO]) fun k h1 h2=>?_
  rw [dO] at h2;have e:=jc (f:=jB ps) (n:=ps.length) (i:=(k:Int)) (by omega) (by omega);simp only [Int.toNat_natCast] at e;rw [e,List.getElem_map];unfold jB;rw [List.getElem?_eq_getElem (by omega)];simp
theorem nh {n d e:Nat} (h:e<=n):HT.sIx n d (some (e:Int))=e:=by
  unfold HT.sIx;have h0:¬ ((e:Nat):Int) < 0:=by omega
  simp only [h0,if_false];simp;omega
theorem kw (n d:Nat):HT.sIx n d none=d:=by
  unfold HT.sIx;rfl
theorem pZ {ds:List PyData} {e:Nat} (h:e<=ds.length):D2.iH ds none (some (e:Int))=ds.take e:=by
  unfold D2.iH;rw [nh h,kw];simp
theorem yW {ds:List PyData} {e:Nat} (h:e<=ds.length):D2.iH ds (some (e:Int)) none=ds.drop e:=by
  unfold D2.iH;rw [nh h,kw];rw [List.take_of_length_le (by rw [List.length_drop];omega)]
noncomputable def ym (nx:Int->Int) (s:Int):Nat->Int
  | 0=>s
  | k+1=>nx (ym nx s k)
theorem zY {n:Nat} {S:Int->Prop} {nx:Int->Int} (hS:∀ x,S x->x∈ids n) (hn:∀ x,S x->S (nx x)) {s:Int} (hs:S s):∃ x,S x/\gI (fun a b=>b=nx a) S x x:=by
  have all:∀ k,S (ym nx s k):=fun k=>by
    induction k with
    | zero=>exact hs
    | succ k ih=>exact hn _ ih
  have path:∀ p d,gI (fun a b=>b=nx a) S (ym nx s p) (ym nx s (p+d+1)):=fun p d=>by
    induction d with
    | zero=>exact .one rfl (all (p+1))
    | succ d ih=>exact .more ih rfl (all (p+d+1+1))
  by_cases h:∃ p q,p < q/\q<=n/\ym nx s p=ym nx s q
  · obtain ⟨p,q,hpq,_,e⟩:=h;have:=path p (q-p-1);rw [show p+(q-p-1)+1=q by omega,<- e] at this;exact ⟨_,all p,this⟩
  · exfalso;have nd:((List.range (n+1)).map (ym nx s)).Nodup:=by
      unfold List.Nodup;rw [List.pairwise_map];exact List.Pairwise.imp_of_mem (fun {a b} _ hb hab e=>h ⟨a,b,hab,by have:=List.mem_range.mp hb;omega,e⟩) List.pairwise_lt_range
    have:=ig nd (m:=ids n) fun x hx=>by
      obtain ⟨k,_,rfl⟩:=List.mem_map.mp hx;exact hS _ (all k)
    rw [List.length_map,List.length_range,dN] at this;omega
theorem gI.trans {E:Int->Int->Prop} {al:Int->Prop} {s x t:Int} (h1:gI E al s x) (h2:gI E al x t):gI E al s t:=by
  induction h2 with
  | one a b=>exact .more h1 a b
  | more _ a b ih=>exact .more ih a b
theorem uU {E:Int->Int->Prop} {al:Int->Prop} {μ:Int->Int} (b:Int) {s t:Int} (h:gI E al s t):gI E (fun x=>al x/\μ x<=b) s t\/∃ y,b < μ y/\gI E al s y/\(y=t\/gI E al y t):=by
  induction h with
  | one a c =>
    rename_i x;by_cases z:μ x<=b
    · exact .inl (.one a ⟨c,z⟩)
    · exact .inr ⟨x,by omega,.one a c,.inl rfl⟩
  | more r a c ih =>
    rename_i x y;rcases ih with z | ⟨u,u1,u2,u3⟩
    · by_cases q:μ y<=b
      · exact .inl (.more z a ⟨c,q⟩)
      · exact .inr ⟨y,by omega,.more r a c,.inl rfl⟩
    · refine .inr ⟨u,u1,u2,.inr ?_⟩;rcases u3 with rfl | u3
      · exact .one a c
      · exact .more u3 a c
theorem n5 {E:Int->Int->Prop} {al:Int->Prop} {μ:Int->Int} {B:Int} (hB:∀ x,al x->μ x<=B):∀ (k:Nat) (x:Int),(B - μ x).toNat<=k->gI E al x x->∃ y,al y/\gI E (fun z=>al z/\μ z<=μ y) y y
  | k,x,hk,h=>by
    rcases uU (μ:=μ) (μ x) h with z | ⟨y,y1,y2,y3⟩
    · exact ⟨x,h.al,z⟩
    · have hy:=hB y y2.al;cases k with
      | zero=>omega
      | succ k =>
        refine n5 hB k y (by omega) ?_;rcases y3 with rfl | y3
        · exact y2
        · exact y3.trans y2
theorem vh {ps:List P4} {B:Int} (hB:∀ i∈ids ps.length,ai ps i<=B) (hown:∀ i∈ids ps.length,ak ps i=0\/ak ps i=1) (hgo:∀ i∈ids ps.length,∀ g∈aH ps i,g∈ids ps.length) {win:Int->Int} {mv:Int->Option Int} (I:l6 ps (ids ps.length) win mv) {F:Int->Prop} (hF:∀ i,F i->i∈ids ps.length) {φ:Int->Int->Int}
    (h0:∀ i,F i->ak ps i=0->∃ g∈aH ps i,F g/\∀ m,m%2=1->ai ps i<=m->φ m g<=φ m i/\(ai ps i=m->φ m g < φ m i))
    (h1:∀ i,F i->ak ps i=1->∀ g∈aH ps i,F g/\∀ m,m%2=1->ai ps i<=m->φ m g<=φ m i/\(ai ps i=m->φ m g < φ m i)):∀ i,F i->win i=0:=fun i hi=>by
  by_cases he:win i=0
  · exact he
  exfalso;have hwi:win i=1:=(I.two i (hF i hi)).resolve_left he;have step:∀ x,F x/\win x=1->∃ g,Wy ps (ids ps.length) 1 mv x g/\F g/\∀ m,m%2=1->ai ps x<=m->φ m g<=φ m x/\(ai ps x=m->φ m g < φ m x):=fun x ⟨hx,hwx⟩=>by
    have hxi:=hF x hx;by_cases z:ak ps x=1
    · obtain ⟨g,g1,g2⟩:=I.has x hxi (by rw [z,hwx]);obtain ⟨f1,f2⟩:=h1 x hx z g g2;exact ⟨g,.inl ⟨z,g1⟩,f1,f2⟩
    · obtain ⟨g,g1,g2,g3⟩:=h0 x hx ((hown x hxi).resolve_right z);exact ⟨g,.inr ⟨z,dL g1 (hgo x hxi g g1)⟩,g2,g3⟩
  obtain ⟨nx,hnx⟩:∃ nx:Int->Int,∀ x,F x/\win x=1->Wy ps (ids ps.length) 1 mv x (nx x)/\F (nx x)/\∀ m,m%2=1->ai ps x<=m->φ m (nx x)<=φ m x/\(ai ps x=m->φ m (nx x) < φ m x) :=
    ⟨fun x=>open Classical in if h:F x/\win x=1 then (step x h).choose else 0,fun x h=>by
      dsimp only;rw [dif_pos h];exact (step x h).choose_spec⟩
  have stay:∀ x,F x/\win x=1->F (nx x)/\win (nx x)=1:=fun x h=>by
    obtain ⟨a,b,_⟩:=hnx x h;exact ⟨b,(I.stay x (hF x h.1) (nx x) (by rw [h.2];exact a)).2.trans h.2⟩
  obtain ⟨x,hx,hp⟩:=zY (n:=ps.length) (S:=fun x=>F x/\win x=1) (nx:=nx) (fun x h=>hF x h.1) stay ⟨hi,hwi⟩;obtain ⟨y,hy,hq⟩:=n5 (μ:=ai ps) (B:=B) (fun x h=>hB x (hF x h.1)) (B-ai ps x).toNat x (Nat.le_refl _) hp;by_cases hpar:ai ps y%2=1
  · have:=hq.less (φ:=φ (ai ps y)) (fun z e _=>by subst e;exact ((hnx y hy).2.2 _ hpar (Int.le_refl _)).2 rfl) fun u z au e _=>by subst e;exact ((hnx u au.1).2.2 _ hpar au.2).1
    omega
  · refine I.good y (hF y hy.1) (by rw [hy.2];exact hpar) ?_;rw [hy.2];exact hq.imp (fun z e a=>⟨by subst e;exact (hnx y hy).1,hF z a.1.1,a.1.2,a.2⟩) fun u z au e a=>⟨by subst e;exact (hnx u au.1).1,hF z a.1.1,a.1.2,a.2⟩
inductive rT (ps:List P4) (E:Int->Int->Prop) (S:Int->Prop) (p:Int):Int->Nat->Prop
  | zero (i:Int):rT ps E S p i 0
  | pass {i g:Int} {k:Nat}:S i->ai ps i < p->E i g->rT ps E S p g k->rT ps E S p i k
  | hit {i g:Int} {k:Nat}:S i->ai ps i=p->E i g->rT ps E S p g k->rT ps E S p i (k+1)
theorem rT.here {ps:List P4} {E:Int->Int->Prop} {S:Int->Prop} {p i:Int} {k:Nat} (h:rT ps E S p i k) (hk:0 < k):S i/\ai ps i<=p:=by
  cases h with
  | zero=>omega
  | pass a b _ _=>exact ⟨a,by omega⟩
  | hit a b _ _=>exact ⟨a,by omega⟩
theorem rT.row {ps:List P4} {E:Int->Int->Prop} {S:Int->Prop} {p i:Int} {k:Nat} (h:rT ps E S p i k):∃ l:List Int,l.length=k/\(∀ x∈l,S x/\ai ps x=p)/\(∀ x∈l,x=i\/gI E (fun z=>S z/\ai ps z<=p) i x)/\l.Pairwise (gI E fun z=>S z/\ai ps z<=p):=by
  induction h with
  | zero i=>exact ⟨[],rfl,by simp,by simp,.nil⟩
  | pass a b e c ih =>
    rename_i i g k;obtain ⟨l,l1,l2,l3,l4⟩:=ih;refine ⟨l,l1,l2,fun x hx=>.inr ?_,l4⟩;have hg:=c.here (by rw [<- l1];exact List.length_pos_of_mem hx);rcases l3 x hx with rfl | z
    · exact .one e hg
    · exact (gI.one e hg).trans z
  | hit a b e c ih =>
    rename_i i g k;obtain ⟨l,l1,l2,l3,l4⟩:=ih;have to:∀ x∈l,gI E (fun z=>S z/\ai ps z<=p) i x:=fun x hx=>by
      have hg:=c.here (by rw [<- l1];exact List.length_pos_of_mem hx);rcases l3 x hx with rfl | z
      · exact .one e hg
      · exact (gI.one e hg).trans z
    refine ⟨i::l,by rw [List.length_cons,l1],fun x hx=>?_,fun x hx=>?_,List.pairwise_cons.mpr ⟨to,l4⟩⟩
    · rcases List.mem_cons.mp hx with rfl | z
      · exact ⟨a,b⟩
      · exact l2 x z
    · rcases List.mem_cons.mp hx with rfl | z
      · exact .inl rfl
      · exact .inr (to x z)
noncomputable def yD (ps:List P4) (js:List Int) (mv:Int->Option Int):Int->Int->Prop:=Wy ps js 0 mv
noncomputable def gB (ps:List P4) (js:List Int) (p:Int):Nat:=(js.filter fun i=>decide (ai ps i=p)).length
theorem tZ {ps:List P4} {js:List Int} {win:Int->Int} {mv:Int->Option Int} (I:l6 ps js win mv) {p i:Int} (hp:p%2=1) {k:Nat} (h:rT ps (yD ps js mv) (fun x=>x∈js/\win x=0) p i k):k<=gB ps js p:=by
  obtain ⟨l,l1,l2,_,l4⟩:=h.row;rw [<- l1];refine ig ?_ fun x hx=>List.mem_filter.mpr ⟨(l2 x hx).1.1,decide_eq_true (l2 x hx).2⟩
  refine List.Pairwise.imp_of_mem (fun {x y} hx hy hxy e=>?_) l4;subst e;obtain ⟨⟨a1,a2⟩,a3⟩:=l2 x hx;refine I.good x a1 (by rw [a2,a3];omega) ?_;rw [a2];exact hxy.imp (fun z e a=>⟨e,a.1.1,a.1.2,by rw [a3];exact a.2⟩) fun u z _ e a=>⟨e,a.1.1,a.1.2,by rw [a3];exact a.2⟩
theorem zF {ps:List P4} {js:List Int} {win:Int->Int} {mv:Int->Option Int} (I:l6 ps js win mv):∃ K:Int->Int->Nat,(∀ p i,p%2=1->K p i<=gB ps js p) /\
    ∀ p i g,p%2=1->i∈js->win i=0->Wy ps js 0 mv i g->ai ps i<=p->K p g<=K p i/\(ai ps i=p->K p g+1<=K p i):=by
  have mx:∀ (P:Nat->Prop) (b:Nat),P 0->(∀ k,P k->k<=b)->∃ k,P k/\∀ k',P k'->k'<=k:=fun P b=>by
    induction b with
    | zero=>exact fun h0 hb=>⟨0,h0,hb⟩
    | succ b ih =>
      intro h0 hb;by_cases h:P (b+1)
      · exact ⟨b+1,h,hb⟩
      · exact ih h0 fun k hk=>by
          have:=hb k hk;by_cases e:k=b+1
          · subst e;exact (h hk).elim
          · omega
  have ex:∀ p i,∃ k,p%2=1->rT ps (yD ps js mv) (fun x=>x∈js/\win x=0) p i k/\∀ k',rT ps (yD ps js mv) (fun x=>x∈js/\win x=0) p i k'->k'<=k:=fun p i=>by
    by_cases hp:p%2=1
    · obtain ⟨k,a,b⟩:=mx _ (gB ps js p) (rT.zero i) fun k hk=>tZ I hp hk
      exact ⟨k,fun _=>⟨a,b⟩⟩
    · exact ⟨0,fun z=>(hp z).elim⟩
  refine ⟨fun p i=>(ex p i).choose,fun p i hp=>tZ I hp ((ex p i).choose_spec hp).1,fun p i g hp hi hwi hg hm=>?_⟩;have Sg:=(ex p g).choose_spec hp;have Si:=(ex p i).choose_spec hp;show (ex p g).choose<=(ex p i).choose/\(ai ps i=p->(ex p g).choose+1<=(ex p i).choose)
  by_cases e:ai ps i=p
  · have:=Si.2 _ (.hit ⟨hi,hwi⟩ e hg Sg.1);exact ⟨by omega,fun _=>this⟩
  · have:=Si.2 _ (.pass ⟨hi,hwi⟩ (by omega) hg Sg.1);exact ⟨this,fun z=>(e z).elim⟩
noncomputable def sz:List Int->Int
  | []=>1
  | m::ms=>(m+1)*sz ms
noncomputable def dg:List Int->Int->List Int
  | [],_=>[]
  | _::ms,v=>(v / sz ms)::dg ms (v%sz ms)
noncomputable def NN (ms:List Int):Prop:=∀ m∈ms,0<=m
theorem NN.tail {m:Int} {ms:List Int} (h:NN (m::ms)):NN ms:=fun x hx=>h x (List.mem_cons_of_mem _ hx)
theorem NN.head {m:Int} {ms:List Int} (h:NN (m::ms)):0<=m:=h m List.mem_cons_self
theorem dC:∀ {ms:List Int},NN ms->0 < sz ms
  | [],_=>by decide
  | m::ms,h=>Int.mul_pos (by have:=h.head;omega) (dC h.tail)
theorem NN.drop {ms:List Int} (h:NN ms) (k:Nat):NN (ms.drop k):=fun x hx=>h x (List.mem_of_mem_drop hx)
theorem NN.take {ms:List Int} (h:NN ms) (k:Nat):NN (ms.take k):=fun x hx=>h x (List.mem_of_mem_take hx)
theorem l8:∀ (a b:List Int),sz (a++b)=sz a*sz b
  | [],b=>by show sz b=1*sz b;rw [Int.one_mul]
  | m::a,b=>by
    show (m+1)*sz (a++b)=(m+1)*sz a*sz b;rw [l8 a b,Int.mul_assoc]
theorem bX:∀ (ms:List Int) (v:Int),(dg ms v).length=ms.length
  | [],_=>rfl
  | m::ms,v=>by
    show (dg ms (v%sz ms)).length+1=ms.length+1;rw [bX]
theorem qr {B v:Int} (hB:0 < B):v=v / B*B+v%B/\0<=v%B/\v%B < B:=by
  have h1:=Int.emod_add_mul_ediv v B;have h2:=Int.emod_nonneg v (show B≠0 by omega);have h3:=Int.emod_lt_of_pos v hB;rw [Int.mul_comm (v / B) B];exact ⟨by omega,h2,h3⟩
theorem dZ {a b B:Int} (hB:0 < B) (h:a < b):a*B+B<=b*B:=by
  have:=Int.mul_le_mul_of_nonneg_right (show a+1<=b by omega) (Int.le_of_lt hB);rw [Int.add_mul,Int.one_mul] at this;exact this
theorem vA:∀ {ms:List Int},NN ms->∀ {v u:Int},0<=v->v < sz ms->0<=u->u < sz ms->HT.lexLt (dg ms v) (dg ms u)=decide (v < u)
  | [],_,v,u,v0,v1,u0,u1=>by
    have e:sz []=1:=rfl;rw [e] at v1 u1;have:¬ v < u:=by omega
    rw [decide_eq_false this];rfl
  | m::ms,h,v,u,v0,v1,u0,u1=>by
    have hB:=dC h.tail;obtain ⟨a1,a2,a3⟩:=qr (v:=v) hB;obtain ⟨b1,b2,b3⟩:=qr (v:=u) hB;show HT.lexLt (v / sz ms::dg ms (v%sz ms)) (u / sz ms::dg ms (u%sz ms))=_;rw [HT.lexLt_cons];by_cases e:v / sz ms=u / sz ms
    · rw [if_pos e,vA h.tail a2 a3 b2 b3];rw [e] at a1;by_cases z:v%sz ms < u%sz ms
      · rw [decide_eq_true z,decide_eq_true (by omega)]
      · rw [decide_eq_false z,decide_eq_false (by omega)]
    · rw [if_neg e];by_cases z:v / sz ms < u / sz ms
      · have:=dZ hB z;rw [decide_eq_true z,decide_eq_true (by omega)]
      · have:=dZ hB (show u / sz ms < v / sz ms by omega);rw [decide_eq_false z,decide_eq_false (by omega)]
theorem qE:∀ r:List Int,HT.lexLt r r=false
  | []=>rfl
  | x::r=>by rw [HT.lexLt_cons,if_pos rfl];exact qE r
theorem jb:∀ {ms:List Int},NN ms->∀ {v:Int},0<=v->v < sz ms->∀ k (hk:k < ms.length),0<=(dg ms v)[k]'(by rw [bX];exact hk)/\(dg ms v)[k]'(by rw [bX];exact hk)<=ms[k]
  | [],_,v,_,_,k,hk=>by simp at hk
  | m::ms,h,v,v0,v1,k,hk=>by
    have hB:=dC h.tail;obtain ⟨a1,a2,a3⟩:=qr (v:=v) hB;cases k with
    | zero =>
      show 0<=v / sz ms/\v / sz ms<=m;have q0:0<=v / sz ms:=Int.ediv_nonneg v0 (Int.le_of_lt hB);refine ⟨q0,?_⟩;have e:sz (m::ms)=(m+1)*sz ms:=rfl;by_cases z:v / sz ms<=m
      · exact z
      · have:=dZ hB (show m < v / sz ms by omega);rw [e,Int.add_mul,Int.one_mul] at v1;omega
    | succ k=>exact jb h.tail a2 a3 k (by simpa using hk)
noncomputable def fl (S v:Int):Int:=v / S*S
theorem uS {S v:Int} (hS:0 < S):fl S v<=v/\v < fl S v+S:=by
  obtain ⟨a,b,c⟩:=qr (v:=v) hS;unfold fl;omega
theorem kH {S T q r:Int} (hS:0 < S):fl S (q*(T*S)+r)=q*(T*S)+fl S r:=by
  unfold fl;rw [show q*(T*S)+r=r+q*T*S by rw [Int.mul_assoc];omega,Int.add_mul_ediv_right _ _ (by omega),Int.add_mul,Int.mul_assoc];omega
theorem xQ {S T r:Int} (hS:0 < S) (hT:0 < T) (h0:0<=r) (h1:r < T*S):0<=fl S r/\fl S r < T*S:=by
  have:=uS (v:=r) hS;refine ⟨?_,by omega⟩;unfold fl;exact Int.mul_nonneg (Int.ediv_nonneg h0 (Int.le_of_lt hS)) (Int.le_of_lt hS)
theorem uX {m:Int} {ms:List Int} (h:NN (m::ms)) {q r:Int} (r0:0<=r) (r1:r < sz ms):dg (m::ms) (q*sz ms+r)=q::dg ms r:=by
  have hB:=dC h.tail;show (q*sz ms+r) / sz ms::dg ms ((q*sz ms+r)%sz ms)=_;rw [show q*sz ms+r=r+q*sz ms by omega,Int.add_mul_ediv_right _ _ (by omega),Int.add_mul_emod_self_right,Int.ediv_eq_zero_of_lt r0 r1,Int.emod_eq_of_lt r0 r1,Int.zero_add]
theorem ka:∀ {ms:List Int},NN ms->dg ms 0=List.replicate ms.length 0
  | [],_=>rfl
  | m::ms,h=>by
    show 0 / sz ms::dg ms (0%sz ms)=0::List.replicate ms.length 0;rw [Int.zero_ediv,Int.zero_emod,ka h.tail]
theorem pE (ms:List Int) (k:Nat):sz ms=sz (ms.take k)*sz (ms.drop k):=by
  rw [<- l8,List.take_append_drop]
theorem qO:∀ {ms:List Int},NN ms->∀ {v:Int},0<=v->v < sz ms->∀ L,L<=ms.length->(dg ms v).take L++List.replicate (ms.length-L) 0=dg ms (fl (sz (ms.drop L)) v)
  | ms,h,v,v0,v1,0,_=>by
    have e:fl (sz (ms.drop 0)) v=0:=by
      unfold fl;rw [List.drop_zero,Int.ediv_eq_zero_of_lt v0 v1,Int.zero_mul]
    rw [e,ka h];simp
  | [],h,v,v0,v1,L+1,hL=>by simp at hL
  | m::ms,h,v,v0,v1,L+1,hL=>by
    have hB:=dC h.tail;obtain ⟨a1,a2,a3⟩:=qr (v:=v) hB;have hL':L<=ms.length:=by simpa using hL
    have ih:=qO h.tail a2 a3 L hL';have hS:=dC (h.tail.drop L);have hT:=dC (h.tail.take L);have hc:=pE ms L;have e1:fl (sz (ms.drop L)) v=v / sz ms*sz ms+fl (sz (ms.drop L)) (v%sz ms):=by
      conv=>lhs;rw [a1]
      rw [hc];exact kH hS
    obtain ⟨f0,f1⟩:=xQ hS hT a2 (by rw [<- hc];exact a3);show v / sz ms::((dg ms (v%sz ms)).take L++List.replicate (ms.length+1-(L+1)) 0)=dg (m::ms) (fl (sz (ms.drop L)) v);rw [<- hc] at f1;rw [e1,uX h f0 f1,<- ih,show ms.length+1-(L+1)=ms.length-L by omega]
theorem xM:∀ {ms:List Int},NN ms->∀ {v:Int},0<=v->v < sz ms->∀ k (hk:k < ms.length),(dg ms v)[k]'(by rw [bX];exact hk) < ms[k] ->
    fl (sz (ms.drop (k+1))) v+sz (ms.drop (k+1)) < sz ms/\(dg ms v).take k++[(dg ms v)[k]'(by rw [bX];exact hk)+1]++List.replicate (ms.length-(k+1)) 0=dg ms (fl (sz (ms.drop (k+1))) v+sz (ms.drop (k+1)))
  | [],_,v,_,_,k,hk,_=>by simp at hk
  | m::ms,h,v,v0,v1,0,hk,hd=>by
    have hB:=dC h.tail;have hd':v / sz ms < m:=hd;have e:sz (m::ms)=(m+1)*sz ms:=rfl;have e0:fl (sz ((m::ms).drop (0+1))) v+sz ((m::ms).drop (0+1))=(v / sz ms+1)*sz ms+0:=by
      show v / sz ms*sz ms+sz ms=_;rw [Int.add_mul,Int.one_mul];omega
    rw [e0];refine ⟨?_,?_⟩
    · have:=dZ hB (show v / sz ms+1 < m+1 by omega);rw [e];omega
    · rw [uX h (Int.le_refl _) hB,ka h.tail];rfl
  | m::ms,h,v,v0,v1,k+1,hk,hd=>by
    have hB:=dC h.tail;obtain ⟨a1,a2,a3⟩:=qr (v:=v) hB;have hk':k < ms.length:=by simpa using hk
    obtain ⟨i1,i2⟩:=xM h.tail a2 a3 k hk' hd;have hS:=dC (h.tail.drop (k+1));have hT:=dC (h.tail.take (k+1));have hc:=pE ms (k+1);have e1:fl (sz (ms.drop (k+1))) v=v / sz ms*sz ms+fl (sz (ms.drop (k+1))) (v%sz ms):=by
      conv=>lhs;rw [a1]
      rw [hc];exact kH hS
    obtain ⟨f0,f1⟩:=xQ hS hT a2 (by rw [<- hc];exact a3);have e2:fl (sz ((m::ms).drop (k+1+1))) v+sz ((m::ms).drop (k+1+1))=v / sz ms*sz ms+(fl (sz (ms.drop (k+1))) (v%sz ms)+sz (ms.drop (k+1))):=by
      show fl (sz (ms.drop (k+1))) v+sz (ms.drop (k+1))=_;rw [e1];omega
    rw [e2];refine ⟨?_,?_⟩
    · have b:=jb h v0 v1 0 (by simp);have b2:v / sz ms<=m:=b.2;have:=dZ hB (show v / sz ms < m+1 by omega);show _ < (m+1)*sz ms;omega
    · rw [uX h (by omega) i1,<- i2];show v / sz ms::((dg ms (v%sz ms)).take k)++_++List.replicate (ms.length+1-(k+1+1)) 0=_;rw [show ms.length+1-(k+1+1)=ms.length-(k+1) by omega];rfl
noncomputable def qY (ms:List Int) (v:Int) (k:Nat):Int:=fl (sz (ms.drop k)) v+sz (ms.drop k)
theorem qy:∀ {ms:List Int},NN ms->∀ {v:Int},0<=v->v < sz ms->∀ k (hk:k < ms.length),(dg ms v)[k]'(by rw [bX];exact hk)=ms[k]->qY ms v (k+1)=qY ms v k
  | [],_,v,_,_,k,hk,_=>by simp at hk
  | m::ms,h,v,v0,v1,0,hk,hd=>by
    have hd':v / sz ms=m:=hd;have e:sz (m::ms)=(m+1)*sz ms:=rfl;show v / sz ms*sz ms+sz ms=v / sz (m::ms)*sz (m::ms)+sz (m::ms);rw [Int.ediv_eq_zero_of_lt v0 v1,Int.zero_mul,hd',e,Int.add_mul,Int.one_mul];omega
  | m::ms,h,v,v0,v1,k+1,hk,hd=>by
    have hB:=dC h.tail;obtain ⟨a1,a2,a3⟩:=qr (v:=v) hB;have hk':k < ms.length:=by simpa using hk
    have ih:=qy h.tail a2 a3 k hk' hd;have go:∀ j,fl (sz (ms.drop j)) v=v / sz ms*sz ms+fl (sz (ms.drop j)) (v%sz ms):=fun j=>by
      conv=>lhs;rw [a1]
      rw [pE ms j];exact kH (dC (h.tail.drop j))
    show fl (sz (ms.drop (k+1))) v+sz (ms.drop (k+1))=fl (sz (ms.drop k)) v+sz (ms.drop k);unfold qY at ih;rw [go (k+1),go k];omega
theorem wA {ms:List Int} {v:Int} (v0:0<=v) (v1:v < sz ms):qY ms v 0=sz ms:=by
  unfold qY fl;rw [List.drop_zero,Int.ediv_eq_zero_of_lt v0 v1,Int.zero_mul,Int.zero_add]
noncomputable def iw (ms:List Int) (b v:Int):List Int:=if v=sz ms then [b] else dg ms v
structure zP (ms:List Int) (b:Int):Prop where
  nn:NN ms
  lt:∀ m∈ms,m < b
theorem nu {ms:List Int} {b:Int} (h:zP ms b) {v:Int} (v0:0<=v) (v1:v < sz ms):HT.lexLt (dg ms v) [b]=true/\HT.lexLt [b] (dg ms v)=false/\dg ms v≠[b]:=by
  cases ms with
  | nil=>exact ⟨rfl,rfl,fun z=>nomatch z⟩
  | cons m ms =>
    have hb:=jb h.nn v0 v1 0 (by simp);have b2:v / sz ms<=m:=hb.2;have:=h.lt m List.mem_cons_self;show HT.lexLt (v / sz ms::dg ms (v%sz ms)) [b]=true/\HT.lexLt [b] (v / sz ms::dg ms (v%sz ms))=false/\v / sz ms::dg ms (v%sz ms)≠[b];refine ⟨?_,?_,fun z=>?_⟩
    · rw [HT.lexLt_cons,if_neg (by omega),decide_eq_true (by omega)]
    · rw [HT.lexLt_cons,if_neg (by omega),decide_eq_false (by omega)]
    · injection z with z1 _
      omega
theorem mJ {ms:List Int} {b:Int} (h:zP ms b) {v u:Int} (v0:0<=v) (v1:v<=sz ms) (u0:0<=u) (u1:u<=sz ms):HT.lexLt (iw ms b v) (iw ms b u)=decide (v < u):=by
  unfold iw;by_cases a:v=sz ms
  · rw [if_pos a];by_cases c:u=sz ms
    · rw [if_pos c,qE,decide_eq_false (by omega)]
    · rw [if_neg c,(nu h u0 (by omega)).2.1,decide_eq_false (by omega)]
  · rw [if_neg a];by_cases c:u=sz ms
    · rw [if_pos c,(nu h v0 (by omega)).1,decide_eq_true (by omega)]
    · rw [if_neg c,vA h.nn v0 (by omega) u0 (by omega)]
theorem qA {ms:List Int} {b:Int} (h:zP ms b) {v:Int} (v0:0<=v) (v1:v<=sz ms):iw ms b v=[b]<->v=sz ms:=by
  unfold iw;by_cases a:v=sz ms
  · rw [if_pos a];exact ⟨fun _=>a,fun _=>rfl⟩
  · rw [if_neg a];exact ⟨fun z=>((nu h v0 (by omega)).2.2 z).elim,fun z=>(a z).elim⟩
theorem jm {ms:List Int} {b:Int} {p:List Int->List Int->Bool} {pv:Int->Int->Bool}:∀ (vs:List Int) (v:Int),(∀ x∈v::vs,∀ y∈v::vs,p (iw ms b x) (iw ms b y)=pv x y)->ez p (iw ms b v) (vs.map (iw ms b))=iw ms b (i5 pv v vs)
  | [],v,_=>rfl
  | x::vs,v,h=>by
    show ez p (if p (iw ms b x) (iw ms b v)=true then iw ms b x else iw ms b v) (vs.map (iw ms b))=iw ms b (i5 pv (if pv x v=true then x else v) vs);rw [h x (by simp) v (by simp)];by_cases z:pv x v=true
    · rw [if_pos z,if_pos z];exact jm vs x fun a ha c hc=>h a (List.mem_cons_of_mem _ ha) c (List.mem_cons_of_mem _ hc)
    · rw [if_neg z,if_neg z];refine jm vs v fun a ha c hc=>h a ?_ c ?_
      · rcases List.mem_cons.mp ha with rfl | q
        · simp
        · exact List.mem_cons_of_mem _ (List.mem_cons_of_mem _ q)
      · rcases List.mem_cons.mp hc with rfl | q
        · simp
        · exact List.mem_cons_of_mem _ (List.mem_cons_of_mem _ q)
theorem jw {h ms:List Int} (hl:h.length<=ms.length) (hm:ms.length<=1000):aZ [.tuple (h.map .int),.tuple (ms.map .int)]=.ok (.tuple ((h++List.replicate (ms.length-h.length) 0).map .int)):=by
  have hc:=ia (eC (.int 0)) [.non] 0 (fun _=>.int 0) ((ms.map PyData.int).drop h.length) fun d _=>rfl
  unfold aZ kY;refine fW ?_;rw [show ([.tuple (h.map .int),.tuple (ms.map .int)].map bm.val++List.replicate (2 - [PyData.tuple (h.map .int),PyData.tuple (ms.map .int)].length) bm.non)=[.val (.tuple (h.map .int)),.val (.tuple (ms.map .int))] from rfl];rw [dD,bE,fT,cf,show aA 1 [] [.val (.tuple (h.map .int)),.val (.tuple (ms.map .int))]=[.non] from rfl];simp only [cq,kX,hJ,gU,fT,aq,aw,R.ok_bind,pJ,List.length_map,nC,rq];rw [yW (by rw [List.length_map];exact hl)];simp only [R.ok_bind,gx,dj];rw [if_pos (by rw [List.length_drop,List.length_map];exact ca (by omega)),hc,qZ,R.ok_bind,uI,R.ok_bind,mU];rw [if_pos (by simp only [List.length_map,List.length_drop];exact ca (by omega))];have e:((ms.map PyData.int).drop h.length).map (fun _=>PyData.int 0)=(List.replicate (ms.length-h.length) 0).map .int:=by
    rw [List.map_const',List.length_drop,List.length_map,List.map_replicate]
  rw [e,<- List.map_append];rfl
noncomputable def aW (ms:List Int) (b v:Int):PyData:=.tuple ((iw ms b v).map .int)
noncomputable def vL:Nat->List Int
  | 0=>[]
  | k+1=>(k:Int)::vL k
theorem oz:∀ k:Nat,fV ((k:Int)-1) k=(vL k).map .int
  | 0=>rfl
  | k+1=>by
    have ih:=oz k;unfold fV at ih ⊢;rw [List.range_succ_eq_map,List.map_cons,List.map_map];show _::_=PyData.int k::(vL k).map .int;rw [<- ih];congr 1
    · congr 1;omega
    · refine List.map_congr_left fun j _=>?_
      show PyData.int _=PyData.int _;congr 1;simp;omega
noncomputable def uY:Fs:=(j8 (tE (e2 (kB AS) (e2 cu (ae 0) (ae 3)) (e2 cu (ae 1) (ae 3)))) (cW (bf aZ (ag (e2 cA (qq (ae 0) fq (e9 (ae 3))) (gX (ag (e2 cA (e2 cu (ae 0) (ae 3)) (eC (.int 1))) aC))) (ag (ae 1) aC)))) cK)
section
variable {ms:List Int} {b:Int} (B:zP ms b) (hm:ms.length<=100) {v:Int} (v0:0<=v) (v1:v < sz ms) {L:Nat} (hL:L<=ms.length)
include B hm v0 v1 hL
theorem qK:∀ (k:Nat) (c3:bm),k<=L->qY ms v k=qY ms v L ->
    dA (aG 3) uY ((vL k).map .int) [.val (.tuple (((dg ms v).take L).map .int)),.val (.tuple (ms.map .int)),.val (.tuple [.int b]),c3]=.ok (.rt (aW ms b (qY ms v L))) \/
    ∃ c3',dA (aG 3) uY ((vL k).map .int) [.val (.tuple (((dg ms v).take L).map .int)),.val (.tuple (ms.map .int)),.val (.tuple [.int b]),c3]=.ok (.nx [.val (.tuple (((dg ms v).take L).map .int)),.val (.tuple (ms.map .int)),.val (.tuple [.int b]),c3'])/\qY ms v L=sz ms
  | 0,c3,_,e=>.inr ⟨c3,by rw [show vL 0=[] from rfl,List.map_nil,dt],by rw [<- e,wA v0 v1]⟩
  | k+1,c3,hk,e=>by
    have hkm:k < ms.length:=by omega
    have hx:cu (.tuple (((dg ms v).take L).map .int)) (.int k)=.ok (.int ((dg ms v)[k]'(by rw [bX];exact hkm))):=by
      rw [oU (by omega) (by rw [List.length_map,List.length_take,bX];omega)];simp
    have hy:cu (.tuple (ms.map .int)) (.int k)=.ok (.int ms[k]):=by
      rw [oU (by omega) (by rw [List.length_map];omega)];simp
    rw [show vL (k+1)=(k:Int)::vL k from rfl,List.map_cons,dn];rw [show (([.val (.tuple (((dg ms v).take L).map .int)),.val (.tuple (ms.map .int)),.val (.tuple [.int b]),c3]:aD).set 3 (.val (.int k)))=[.val (.tuple (((dg ms v).take L).map .int)),.val (.tuple (ms.map .int)),.val (.tuple [.int b]),.val (.int k)] from rfl];have hbnd:=(jb B.nn v0 v1 k hkm).2;have htk:((dg ms v).take k).length=k:=by rw [List.length_take,bX];omega
    by_cases hd:(dg ms v)[k]'(by rw [bX];exact hkm) < ms[k]
    · left;obtain ⟨u1,u2⟩:=xM B.nn v0 v1 k hkm hd;have hf:=jw (h:=(dg ms v).take k++[(dg ms v)[k]'(by rw [bX];exact hkm)+1]) (ms:=ms) (by rw [List.length_append,htk];exact hkm) (by omega);rw [show ((dg ms v).take k++[(dg ms v)[k]'(by rw [bX];exact hkm)+1]).length=k+1 by rw [List.length_append,htk];rfl,u2] at hf;have hb:uY [.val (.tuple (((dg ms v).take L).map .int)),.val (.tuple (ms.map .int)),.val (.tuple [.int b]),.val (.int k)]=.ok (.rt (aW ms b (qY ms v L))):=by
        unfold uY;simp only [c9,cP,bE,aq,aw,R.ok_bind,hx,hy,pF,cR];rw [if_pos (decide_eq_true hd)];simp only [dD,bz,aL,aU,bE,kX,ib,gU,hJ,aq,aw,cQ,R.ok_bind,nC,rq,hx,uN,List.length_cons,List.length_nil];rw [pZ (by rw [List.length_map,List.length_take,bX];omega),if_pos (by show 1<=_;decide),R.ok_bind,mU,if_pos (by simp only [List.length_take,List.length_map,bX,List.length_cons,List.length_nil];exact ca (by omega)),R.ok_bind];have e3:(((dg ms v).take L).map PyData.int).take k++[PyData.int ((dg ms v)[k]'(by rw [bX];exact hkm)+1)]=((dg ms v).take k++[(dg ms v)[k]'(by rw [bX];exact hkm)+1]).map .int:=by
          rw [<- List.map_take,List.take_take,Nat.min_eq_left (by omega),List.map_append];rfl
        rw [e3];simp only [R.ok_bind,hf];rw [<- e];unfold aW iw qY;rw [if_neg (by omega)]
      rw [hb];rfl
    · have heq:(dg ms v)[k]'(by rw [bX];exact hkm)=ms[k]:=by omega
      have hu:=qy B.nn v0 v1 k hkm heq;have hb:uY [.val (.tuple (((dg ms v).take L).map .int)),.val (.tuple (ms.map .int)),.val (.tuple [.int b]),.val (.int k)]=.ok (.nx [.val (.tuple (((dg ms v).take L).map .int)),.val (.tuple (ms.map .int)),.val (.tuple [.int b]),.val (.int k)]):=by
        unfold uY;simp only [c9,cP,bE,aq,aw,R.ok_bind,hx,hy,pF,cR];rw [if_neg (by rw [show AS ((dg ms v)[k]'(by rw [bX];exact hkm)) ms[k]=false from decide_eq_false hd];simp)];rfl
      rw [hb,R.ok_bind,cO];exact qK k (.val (.int k)) (by omega) (by rw [<- hu];exact e)
theorem ma:cg [.tuple (((dg ms v).take L).map .int),.tuple (ms.map .int),.tuple [.int b]]=.ok (aW ms b (qY ms v L)):=by
  have ht:=qK B hm v0 v1 hL L .non (Nat.le_refl _) rfl;have hr:pB [.int ((L:Int)-1),.int (-1),.int (-1)]=.ok ((vL L).map .int):=by
    show (if (-1:Int)=-1/\-(2 ^ 62)<=(L:Int)-1/\(L:Int)-1 < 2 ^ 62/\-(2 ^ 62)<=(-1:Int)/\(-1:Int) < 2 ^ 62 then R.ok (fV ((L:Int)-1) ((L:Int)-1-(-1)).toNat) else .no)=_;rw [if_pos (by omega),show ((L:Int)-1-(-1)).toNat=L by omega,oz]
  unfold cg hV;refine fW ?_;rw [show ([.tuple (((dg ms v).take L).map .int),.tuple (ms.map .int),.tuple [.int b]].map bm.val++List.replicate (4 - [PyData.tuple (((dg ms v).take L).map .int),PyData.tuple (ms.map .int),PyData.tuple [.int b]].length) bm.non)=[.val (.tuple (((dg ms v).take L).map .int)),.val (.tuple (ms.map .int)),.val (.tuple [.int b]),.non] from rfl];have hlen:(((dg ms v).take L).map PyData.int).length=L:=by rw [List.length_map,List.length_take,bX];omega
  have hfor:∀ o,dA (aG 3) uY ((vL L).map .int) [.val (.tuple (((dg ms v).take L).map .int)),.val (.tuple (ms.map .int)),.val (.tuple [.int b]),.non]=.ok o->(fX (gG (lB (ag (e2 mo (e1 gt (ae 0)) (eC (.int 1))) (ag (e1 mW (eC (.int 1))) (ag (e1 mW (eC (.int 1))) aC)))) (aG 3) uY)) [.val (.tuple (((dg ms v).take L).map .int)),.val (.tuple (ms.map .int)),.val (.tuple [.int b]),.non]=.ok o:=fun o ho=>by
    rw [dQ,eE,nR];simp only [aL,aU,fT,bE,aw,cQ,R.ok_bind,pJ,hlen,uo,uf,hr,ho];rfl
  unfold uY at hfor;rcases ht with h | ⟨c3,h,hz⟩
  · exact iL (hfor _ (by unfold uY at h;exact h))
  · rw [aJ (hfor _ (by unfold uY at h;exact h))];simp only [dD,aq,aw,R.ok_bind];unfold aW iw;rw [if_pos hz];rfl
end
noncomputable def xu (ms:List Int) (p v:Int):Int:=if v=sz ms then v else if p%2=1 then qY ms v (ms.length-(p / 2).toNat) else fl (sz (ms.drop (ms.length-(p / 2).toNat))) v
noncomputable def h8 (w:Int) (μ:Int->Int):List Int->Int
  | []=>0
  | g::gs=>if w=0 then o8 (μ g) (gs.map μ) else lm (μ g) (gs.map μ)
theorem iX {ms:List Int} {b:Int}:∀ vs:List Int,fy (vs.map (aW ms b))=some (vs.map (iw ms b))
  | []=>rfl
  | v::vs=>by
    show (match aN ((iw ms b v).map .int),fy (vs.map (aW ms b)) with | some ns,some rs=>some (ns::rs) | _,_=>none)=_;rw [cD,iX vs];rfl
theorem vg (ns ms:List Int):iy (.tuple (ns.map .int)) (.tuple (ms.map .int))=.ok (.bool (decide (ns=ms))):=by
  unfold iy;rw [if_pos (wO ns ms)];simp only [PyData.eqv,ji]
theorem my {ms:List Int} {b:Int} (B:zP ms b) (hm:ms.length<=100) {n:Nat} {μ:Int->Int} (hμ:∀ i:Int,0<=i->i < n->0<=μ i/\μ i<=sz ms) {p:P4} (hg:∀ g∈p.ns,0<=g/\g < n) (hne:p.ns≠[]) (hgl:p.ns.length<=1000) (hp0:0<=p.m) (hp1:(p.m / 2).toNat<=ms.length) :
    bg [p.d,.list (gH (fun i=>aW ms b (μ i)) n),.tuple (ms.map .int),.tuple [.int b]]=.ok (aW ms b (xu ms p.m (h8 p.w μ p.ns))):=by
  have hc:bW (aG 0) (fun _=>.ok true) (e2 cu (ae 1) (ae 0)) [.non,.val (.list (gH (fun i=>aW ms b (μ i)) n))] (p.ns.map .int)=.ok ((p.ns.map μ).map (aW ms b)):=by
    have:=ia (e2 cu (ae 1) (ae 0)) [.non,.val (.list (gH (fun i=>aW ms b (μ i)) n))] 0 (fun d=>match d with | .int i=>aW ms b (μ i) | d=>d) (p.ns.map .int) fun d hd=>by
      obtain ⟨g,h1,rfl⟩:=List.mem_map.mp hd;simp only [List.set_cons_zero,bE,aq,aw,R.ok_bind,yb (hg g h1).1 (hg g h1).2]
    rw [this,List.map_map,List.map_map];rfl
  obtain ⟨g,gs,egs⟩:∃ g gs,p.ns=g::gs:=by
    cases h:p.ns with
    | nil=>exact (hne h).elim
    | cons g gs=>exact ⟨g,gs,rfl⟩
  have hall:∀ x∈μ g::gs.map μ,0<=x/\x<=sz ms:=fun x hx=>by
    have:x∈p.ns.map μ:=by rw [egs];exact hx
    obtain ⟨i,hi,rfl⟩:=List.mem_map.mp this;exact hμ i (hg i hi).1 (hg i hi).2
  obtain ⟨v,ev⟩:∃ v,v=h8 p.w μ p.ns:=⟨_,rfl⟩
  have hv:0<=v/\v<=sz ms:=by
    rw [ev,egs,show h8 p.w μ (g::gs)=if p.w=0 then o8 (μ g) (gs.map μ) else lm (μ g) (gs.map μ) from rfl];split
    · exact hall _ (ju _ _).1
    · exact hall _ (ie _ _).1
  have hbest:(zV (tE (e2 (iy) (e2 cu (ae 0) (eC (.int 0))) (eC (.int 0)))) (e1 qF (ae 4)) (e1 rz (ae 4))) [.val p.d,.val (.list (gH (fun i=>aW ms b (μ i)) n)),.val (.tuple (ms.map .int)),.val (.tuple [.int b]),.val (.list ((p.ns.map μ).map (aW ms b))),.non,.non]=.ok (aW ms b v):=by
    simp only [vD,cP,fT,bE,aq,aw,cQ,R.ok_bind,mN,hW,cR];rw [ev,egs,show h8 p.w μ (g::gs)=if p.w=0 then o8 (μ g) (gs.map μ) else lm (μ g) (gs.map μ) from rfl];by_cases q:p.w=0
    · rw [decide_eq_true q,if_pos rfl,if_pos q];show (match fy (((g::gs).map μ).map (aW ms b)) with | some (r::rs)=>R.ok (PyData.tuple ((ez (fun b a=>HT.lexLt b a) r rs).map .int)) | _=>.no)=_;rw [iX];show R.ok (PyData.tuple ((ez (fun b a=>HT.lexLt b a) (iw ms b (μ g)) ((gs.map μ).map (iw ms b))).map .int))=_;rw [jm (pv:=fun b a=>decide (b < a)) (gs.map μ) (μ g) fun x hx y hy=>mJ B (hall x hx).1 (hall x hx).2 (hall y hy).1 (hall y hy).2];rfl
    · rw [decide_eq_false q,if_neg (by simp),if_neg q];show (match fy (((g::gs).map μ).map (aW ms b)) with | some (r::rs)=>R.ok (PyData.tuple ((ez (fun b a=>HT.lexLt a b) r rs).map .int)) | _=>.no)=_;rw [iX];show R.ok (PyData.tuple ((ez (fun b a=>HT.lexLt a b) (iw ms b (μ g)) ((gs.map μ).map (iw ms b))).map .int))=_;rw [jm (pv:=fun b a=>decide (a < b)) (gs.map μ) (μ g) fun x hx y hy=>mJ B (hall y hy).1 (hall y hy).2 (hall x hx).1 (hall x hx).2];rfl
  rw [<- ev];unfold bg gM;refine fW ?_;rw [show ([p.d,.list (gH (fun i=>aW ms b (μ i)) n),.tuple (ms.map .int),.tuple [.int b]].map bm.val++List.replicate (7 - [p.d,.list (gH (fun i=>aW ms b (μ i)) n),.tuple (ms.map .int),.tuple [.int b]].length) bm.non)=[.val p.d,.val (.list (gH (fun i=>aW ms b (μ i)) n)),.val (.tuple (ms.map .int)),.val (.tuple [.int b]),.non,.non,.non] from rfl];rw [aJ (ρ':=[.val p.d,.val (.list (gH (fun i=>aW ms b (μ i)) n)),.val (.tuple (ms.map .int)),.val (.tuple [.int b]),.val (.list ((p.ns.map μ).map (aW ms b))),.non,.non]) (by
    rw [bG,cf,show aA 1 [1] [.val p.d,.val (.list (gH (fun i=>aW ms b (μ i)) n)),.val (.tuple (ms.map .int)),.val (.tuple [.int b]),.non,.non,.non]=[.non,.val (.list (gH (fun i=>aW ms b (μ i)) n))] from rfl];simp only [cq,bE,aw,cQ,R.ok_bind,nr,gx,dj];rw [if_pos (by rw [List.length_map];exact ca hgl),hc];rfl)]
  rw [aJ (ρ':=[.val p.d,.val (.list (gH (fun i=>aW ms b (μ i)) n)),.val (.tuple (ms.map .int)),.val (.tuple [.int b]),.val (.list ((p.ns.map μ).map (aW ms b))),.val (aW ms b v),.non]) (by
    rw [bG,hbest];rfl)]
  have hq:iy (aW ms b v) (.tuple [.int b])=.ok (.bool (decide (v=sz ms))):=by
    have:=vg (iw ms b v) [b];rw [show ([b].map PyData.int)=[.int b] from rfl] at this;unfold aW;rw [this];congr 2;exact decide_eq_decide.mpr (qA B hv.1 hv.2)
  unfold xu;by_cases z:v=sz ms
  · rw [if_pos z];refine iL ?_;simp only [c9,cP,bE,aq,aw,R.ok_bind,hq,cR,decide_eq_true z,if_true,dD];unfold aW iw;rw [if_pos z];rfl
  · have hlt:v < sz ms:=by omega
    rw [if_neg z,aJ (ρ':=[.val p.d,.val (.list (gH (fun i=>aW ms b (μ i)) n)),.val (.tuple (ms.map .int)),.val (.tuple [.int b]),.val (.list ((p.ns.map μ).map (aW ms b))),.val (aW ms b v),.non]) (by
      simp only [c9,cP,bE,aq,aw,R.ok_bind,hq,cR,decide_eq_false z];rfl)]
    obtain ⟨L,eL⟩:∃ L,L=ms.length-(p.m / 2).toNat:=⟨_,rfl⟩
    have hL:L<=ms.length:=by omega
    have hrow:aW ms b v=.tuple ((dg ms v).map .int):=by unfold aW iw;rw [if_neg z]
    rw [aJ (ρ':=[.val p.d,.val (.list (gH (fun i=>aW ms b (μ i)) n)),.val (.tuple (ms.map .int)),.val (.tuple [.int b]),.val (.list ((p.ns.map μ).map (aW ms b))),.val (aW ms b v),.val (.tuple (((dg ms v).take L).map .int))]) (by
      simp only [bG,kX,gU,hJ,fT,bE,aq,aw,cQ,R.ok_bind,pJ,List.length_map,k7,yE];rw [if_pos (by decide),R.ok_bind,uo,R.ok_bind,nC,R.ok_bind,hrow,R.ok_bind,rq,R.ok_bind];rw [show (ms.length:Int)-p.m / 2=((L:Nat):Int) by omega,pZ (by rw [List.length_map,bX];exact hL),List.map_take];rfl)]
    rw [<- eL];have hmod:ej (.int p.m) (.int 2)=.ok (.int (p.m%2)):=by rw [pX,if_pos (by decide)]
    by_cases o:p.m%2=1
    · rw [if_pos o];refine iL ?_;simp only [c9,cP,bE,aq,aw,cQ,R.ok_bind,k7,hmod,hW,cR,decide_eq_true o,if_true,dD,bz,aL,aU,ma B hm hv.1 hlt hL]
    · rw [if_neg o,aJ (ρ':=[.val p.d,.val (.list (gH (fun i=>aW ms b (μ i)) n)),.val (.tuple (ms.map .int)),.val (.tuple [.int b]),.val (.list ((p.ns.map μ).map (aW ms b))),.val (aW ms b v),.val (.tuple (((dg ms v).take L).map .int))]) (by
        simp only [c9,cP,bE,aq,aw,cQ,R.ok_bind,k7,hmod,hW,cR,decide_eq_false o];rfl)]
      have hf:=jw (h:=(dg ms v).take L) (ms:=ms) (by rw [List.length_take,bX];omega) (by omega);rw [show ((dg ms v).take L).length=L by rw [List.length_take,bX];omega,qO B.nn hv.1 hlt L hL] at hf;simp only [dD,bz,aL,aU,aq,aw,R.ok_bind,hf];unfold aW iw;rw [if_neg (by
        have:=(uS (v:=v) (dC (B.nn.drop L))).1;omega)]
noncomputable def Tz (c:Int->Int):Nat->Int
  | 0=>1
  | j+1=>(c (2*(j:Int)+1)+1)*Tz c j
noncomputable def eW:Nat->List Int
  | 0=>[]
  | k+1=>(2*(k:Int)+1)::eW k
theorem jj:∀ k,(eW k).length=k
  | 0=>rfl
  | k+1=>congrArg (·+1) (jj k)
theorem nP:∀ {k j:Nat},j<=k->(eW k).drop (k-j)=eW j
  | 0,j,h=>by
    have:j=0:=by omega
    subst this;rfl
  | k+1,j,h=>by
    by_cases e:j=k+1
    · subst e;rw [Nat.sub_self,List.drop_zero]
    · rw [show k+1-j=(k-j)+1 by omega];exact nP (by omega)
theorem kI (c:Int->Int):∀ k,sz ((eW k).map c)=Tz c k
  | 0=>rfl
  | k+1=>by
    show (c (2*(k:Int)+1)+1)*sz ((eW k).map c)=_;rw [kI c k];rfl
theorem wN (c:Int->Int) {k j:Nat} (h:j<=k):sz (((eW k).map c).drop (k-j))=Tz c j:=by
  rw [<- List.map_drop,nP h,kI]
section
variable {c:Int->Int} (hc:∀ p,0<=c p)
include hc
theorem em:∀ j,0 < Tz c j
  | 0=>Int.zero_lt_one
  | j+1=>Int.mul_pos (by have:=hc (2*(j:Int)+1);omega) (em j)
end
theorem mj {c:Int->Int} {i:Nat}:∀ {j:Nat},i<=j->∃ q,Tz c j=q*Tz c i
  | 0,h=>⟨1,by rw [show i=0 by omega,Int.one_mul]⟩
  | j+1,h=>by
    by_cases e:i=j+1
    · exact ⟨1,by rw [e,Int.one_mul]⟩
    · obtain ⟨q,hq⟩:=mj (c:=c) (i:=i) (j:=j) (by omega);exact ⟨(c (2*(j:Int)+1)+1)*q,by
        show (c (2*(j:Int)+1)+1)*Tz c j=_;rw [hq,Int.mul_assoc]⟩
theorem rd {S v u:Int} (hS:0 < S) (h:v<=u):fl S v<=fl S u:=by
  unfold fl;exact Int.mul_le_mul_of_nonneg_right (Int.ediv_le_ediv hS h) (Int.le_of_lt hS)
theorem AC {S v q:Int} (hS:0 < S) (h:v < q*S):fl S v+S<=q*S:=by
  have:v / S < q:=Int.ediv_lt_of_lt_mul hS h;unfold fl;exact dZ hS this
theorem AH {S v:Int} (hS:0 < S) (h:0<=v):0<=fl S v:=Int.mul_nonneg (Int.ediv_nonneg h (Int.le_of_lt hS)) (Int.le_of_lt hS)
theorem wG {S B q v:Int} (hS:0 < S) (hB:0 < B) (e:B=q*S):fl B v<=fl S v:=by
  have h1:=(uS (v:=v) hB).1;have h2:=rd hS h1;have h3:fl S (fl B v)=fl B v:=by
    unfold fl;rw [e,show v / (q*S)*(q*S)=v / (q*S)*q*S by rw [Int.mul_assoc],Int.mul_ediv_cancel _ (by omega)]
  omega
noncomputable def iZ (T:Nat->Int) (k:Nat) (p v:Int):Int:=if v=T k then v else if p%2=1 then fl (T (p / 2).toNat) v+T (p / 2).toNat else fl (T (p / 2).toNat) v
theorem zG {c:Int->Int} {k:Nat} {p v:Int} (h:(p / 2).toNat<=k):xu ((eW k).map c) p v=iZ (Tz c) k p v:=by
  unfold xu iZ qY;rw [kI,List.length_map,jj,wN c h]
section
variable {c:Int->Int} (hc:∀ p,0<=c p) {k:Nat} {p:Int} (hp:(p / 2).toNat<=k)
include hc hp
theorem u9 {v:Int} (v0:0<=v) (v1:v<=Tz c k):0<=iZ (Tz c) k p v/\iZ (Tz c) k p v<=Tz c k:=by
  have hS:=em hc (p / 2).toNat;obtain ⟨q,hq⟩:=mj (c:=c) hp;unfold iZ;split
  · exact ⟨v0,v1⟩
  · rename_i z;have a:=AH (S:=Tz c (p / 2).toNat) hS v0;have b:=AC (q:=q) (v:=v) hS (by rw [<- hq];omega);rw [<- hq] at b;split
    · exact ⟨by omega,b⟩
    · exact ⟨a,by omega⟩
theorem jF {v u:Int} (v0:0<=v) (h:v<=u) (u1:u<=Tz c k):iZ (Tz c) k p v<=iZ (Tz c) k p u:=by
  by_cases e:u=Tz c k
  · have:iZ (Tz c) k p u=Tz c k:=by unfold iZ;rw [if_pos e,e]
    rw [this];exact (u9 hc hp v0 (by omega)).2
  · have:=rd (em hc (p / 2).toNat) h;unfold iZ;rw [if_neg e,if_neg (by omega)];split <;> omega
end
theorem km {μ:Int->Int} {gs:List Int} (hne:gs≠[]):∃ g∈gs,h8 0 μ gs=μ g/\∀ x∈gs,μ g<=μ x:=by
  cases gs with
  | nil=>exact (hne rfl).elim
  | cons g gs =>
    have h:=ju (μ g) (gs.map μ);rw [<- List.map_cons (f:=μ)] at h;obtain ⟨y,y1,y2⟩:=List.mem_map.mp h.1;refine ⟨y,y1,by rw [y2];rfl,fun x hx=>?_⟩;rw [y2];exact h.2 _ (List.mem_map.mpr ⟨x,hx,rfl⟩)
theorem kM {w:Int} (hw:w≠0) {μ:Int->Int} {gs:List Int} (hne:gs≠[]):∃ g∈gs,h8 w μ gs=μ g/\∀ x∈gs,μ x<=μ g:=by
  cases gs with
  | nil=>exact (hne rfl).elim
  | cons g gs =>
    have h:=ie (μ g) (gs.map μ);rw [<- List.map_cons (f:=μ)] at h;obtain ⟨y,y1,y2⟩:=List.mem_map.mp h.1;refine ⟨y,y1,by rw [y2];show (if w=0 then _ else _)=_;rw [if_neg hw],fun x hx=>?_⟩;rw [y2];exact h.2 _ (List.mem_map.mpr ⟨x,hx,rfl⟩)
theorem rP {w:Int} {μ U:Int->Int} {gs:List Int} (hne:gs≠[]) (h:∀ g∈gs,μ g<=U g):h8 w μ gs<=h8 w U gs:=by
  by_cases z:w=0
  · subst z;obtain ⟨g,_,e,m⟩:=km (μ:=μ) hne;obtain ⟨g',a',e',_⟩:=km (μ:=U) hne;have:=m g' a';have:=h g' a';omega
  · obtain ⟨g,a,e,_⟩:=kM z (μ:=μ) hne;obtain ⟨g',_,e',m⟩:=kM z (μ:=U) hne;have:=m g a;have:=h g a;omega
noncomputable def tq (ps:List P4) (T:Nat->Int) (k:Nat) (μ:Int->Int) (i:Int):Int:=iZ T k (ai ps i) (h8 (ak ps i) μ (aH ps i))
structure Ms (ps:List P4) (c:Int->Int) (k:Nat):Prop where
  hc:∀ p,0<=c p
  own:∀ i∈ids ps.length,ak ps i=0\/ak ps i=1
  go:∀ i∈ids ps.length,∀ g∈aH ps i,g∈ids ps.length
  ne:∀ i∈ids ps.length,aH ps i≠[]
  lo:∀ i∈ids ps.length,0<=ai ps i
  hi:∀ i∈ids ps.length,((ai ps i) / 2).toNat<=k
  od:∀ i∈ids ps.length,ai ps i%2=1->((ai ps i) / 2).toNat < k
structure yw (ps:List P4) (c:Int->Int) (k:Nat) (μ:Int->Int):Prop where
  b:∀ i∈ids ps.length,0<=μ i/\μ i<=Tz c k
  le:∀ i∈ids ps.length,tq ps (Tz c) k μ i<=μ i
section
variable {ps:List P4} {c:Int->Int} {k:Nat} (M:Ms ps c k)
include M
theorem yd {μ:Int->Int} (hb:∀ i∈ids ps.length,0<=μ i/\μ i<=Tz c k) {i:Int} (hi:i∈ids ps.length):0<=tq ps (Tz c) k μ i/\tq ps (Tz c) k μ i<=Tz c k:=by
  have:0<=h8 (ak ps i) μ (aH ps i)/\h8 (ak ps i) μ (aH ps i)<=Tz c k:=by
    by_cases z:ak ps i=0
    · rw [z];obtain ⟨g,a,e,_⟩:=km (μ:=μ) (M.ne i hi);rw [e];exact hb g (M.go i hi g a)
    · obtain ⟨g,a,e,_⟩:=kM z (μ:=μ) (M.ne i hi);rw [e];exact hb g (M.go i hi g a)
  exact u9 M.hc (M.hi i hi) this.1 this.2
theorem tW {μ U:Int->Int} (hb:∀ i∈ids ps.length,0<=μ i/\μ i<=U i) (hU:∀ i∈ids ps.length,U i<=Tz c k) {i:Int} (hi:i∈ids ps.length):tq ps (Tz c) k μ i<=tq ps (Tz c) k U i:=by
  refine jF M.hc (M.hi i hi) ?_ (rP (M.ne i hi) fun g hg=>(hb g (M.go i hi g hg)).2) ?_
  · by_cases z:ak ps i=0
    · rw [z];obtain ⟨g,a,e,_⟩:=km (μ:=μ) (M.ne i hi);rw [e];exact (hb g (M.go i hi g a)).1
    · obtain ⟨g,a,e,_⟩:=kM z (μ:=μ) (M.ne i hi);rw [e];exact (hb g (M.go i hi g a)).1
  · by_cases z:ak ps i=0
    · rw [z];obtain ⟨g,a,e,_⟩:=km (μ:=U) (M.ne i hi);rw [e];exact hU g (M.go i hi g a)
    · obtain ⟨g,a,e,_⟩:=kM z (μ:=U) (M.ne i hi);rw [e];exact hU g (M.go i hi g a)
theorem o4 {i v u:Int} (hi:i∈ids ps.length) (hv:0<=v/\v<=Tz c k) (hu:u < Tz c k) (h:iZ (Tz c) k (ai ps i) v<=u):v < Tz c k/\∀ m,m%2=1->ai ps i<=m->v / Tz c (m / 2).toNat<=u / Tz c (m / 2).toNat/\(ai ps i=m->v / Tz c (m / 2).toNat < u / Tz c (m / 2).toNat):=by
  unfold iZ at h;by_cases z:v=Tz c k
  · rw [if_pos z] at h;omega
  · rw [if_neg z] at h;refine ⟨by omega,fun m hm hle=>?_⟩;have hlo:=M.lo i hi;have hS:=em M.hc (ai ps i / 2).toNat;have hB:=em M.hc (m / 2).toNat;obtain ⟨q,hq⟩:=mj (c:=c) (i:=(ai ps i / 2).toNat) (j:=(m / 2).toNat) (by omega);have hf:=wG (v:=v) hS hB hq;have h1:fl (Tz c (ai ps i / 2).toNat) v<=u:=by
      split at h <;> omega
    refine ⟨?_,fun e=>?_⟩
    · refine (Int.le_ediv_iff_mul_le hB).mpr ?_;unfold fl at hf h1;omega
    · subst e;rw [if_pos hm] at h;have:v / Tz c (ai ps i / 2).toNat+1<=u / Tz c (ai ps i / 2).toNat:=by
        refine (Int.le_ediv_iff_mul_le hB).mpr ?_;rw [Int.add_mul,Int.one_mul];exact h
      omega
theorem uP {μ:Int->Int} (H:yw ps c k μ) {win:Int->Int} {mv:Int->Option Int} (I:l6 ps (ids ps.length) win mv) {i:Int} (hi:i∈ids ps.length) (hf:μ i < Tz c k):win i=0:=by
  refine vh (B:=2*(k:Int)+1) (fun i hi=>?_) M.own M.go I (F:=fun i=>i∈ids ps.length/\μ i < Tz c k) (fun i h=>h.1) (φ:=fun m i=>μ i / Tz c (m / 2).toNat) (fun i h ho=>?_) (fun i h ho g hg=>?_) i ⟨hi,hf⟩
  · have:=M.hi i hi;have:=M.lo i hi;omega
  · obtain ⟨g,a,e,_⟩:=km (μ:=μ) (M.ne i h.1);have hgi:=M.go i h.1 g a;have hl:=H.le i h.1;unfold tq at hl;rw [ho,e] at hl;obtain ⟨f1,f2⟩:=o4 M h.1 (H.b g hgi) h.2 hl;exact ⟨g,a,⟨hgi,f1⟩,f2⟩
  · obtain ⟨g',a,e,mx⟩:=kM (w:=ak ps i) (by omega) (μ:=μ) (M.ne i h.1);have hgi:=M.go i h.1 g hg;have hl:=H.le i h.1;unfold tq at hl;rw [e] at hl;have hl2:=jF M.hc (M.hi i h.1) (H.b g hgi).1 (mx g hg) (H.b g' (M.go i h.1 g' a)).2;obtain ⟨f1,f2⟩:=o4 M h.1 (H.b g hgi) h.2 (Int.le_trans hl2 hl);exact ⟨⟨hgi,f1⟩,f2⟩
end
noncomputable def Vz (c:Int->Int) (K:Int->Int):Nat->Int
  | 0=>0
  | j+1=>K (2*(j:Int)+1)*Tz c j+Vz c K j
theorem xz {c K:Int->Int} (hc:∀ p,0<=c p) (h:∀ p,p%2=1->0<=K p/\K p<=c p):∀ j,0<=Vz c K j/\Vz c K j < Tz c j
  | 0=>⟨Int.le_refl _,Int.zero_lt_one⟩
  | j+1=>by
    obtain ⟨a,b⟩:=xz hc h j;have hk:=h (2*(j:Int)+1) (by omega);have hT:=em hc j;show 0<=K (2*(j:Int)+1)*Tz c j+Vz c K j/\K (2*(j:Int)+1)*Tz c j+Vz c K j < (c (2*(j:Int)+1)+1)*Tz c j;have h1:=dZ hT (show K (2*(j:Int)+1) < c (2*(j:Int)+1)+1 by omega);have h0:=Int.mul_nonneg hk.1 (Int.le_of_lt hT);omega
theorem uA {c K:Int->Int} {j0:Nat}:∀ {j:Nat},j0<=j->∃ q,Vz c K j=q*Tz c j0+Vz c K j0
  | 0,h=>⟨0,by rw [show j0=0 by omega];simp⟩
  | j+1,h=>by
    by_cases e:j0=j+1
    · exact ⟨0,by rw [e];simp⟩
    · obtain ⟨q,hq⟩:=uA (c:=c) (K:=K) (j0:=j0) (j:=j) (by omega);obtain ⟨r,hr⟩:=mj (c:=c) (i:=j0) (j:=j) (by omega);refine ⟨K (2*(j:Int)+1)*r+q,?_⟩;show K (2*(j:Int)+1)*Tz c j+Vz c K j=_;rw [hq,hr,Int.add_mul,Int.mul_assoc];omega
theorem ur {c K L:Int->Int} (hc:∀ p,0<=c p) {j0:Nat} (h:∀ j:Nat,j0<=j->K (2*(j:Int)+1)<=L (2*(j:Int)+1)):∀ {j:Nat},j0<=j->Vz c K j-Vz c K j0<=Vz c L j-Vz c L j0
  | 0,hj=>by rw [show j0=0 by omega];omega
  | j+1,hj=>by
    by_cases e:j0=j+1
    · rw [e];omega
    · have ih:=ur hc h (j:=j) (by omega);have:=Int.mul_le_mul_of_nonneg_right (h j (by omega)) (Int.le_of_lt (em hc j));show K (2*(j:Int)+1)*Tz c j+Vz c K j-Vz c K j0<=L (2*(j:Int)+1)*Tz c j+Vz c L j-Vz c L j0;omega
theorem Ao {c K L:Int->Int} (hc:∀ p,0<=c p) {j0:Nat} (h:∀ j:Nat,j0<=j->K (2*(j:Int)+1)<=L (2*(j:Int)+1)) (h1:K (2*(j0:Int)+1)+1<=L (2*(j0:Int)+1)) {j:Nat} (hj:j0 < j):Vz c K j-Vz c K j0+Tz c j0<=Vz c L j-Vz c L j0:=by
  have a:=ur hc (j0:=j0+1) (fun j h'=>h j (by omega)) (j:=j) (by omega);have b:=dZ (em hc j0) (show K (2*(j0:Int)+1) < L (2*(j0:Int)+1) by omega);have e1:Vz c K (j0+1)=K (2*(j0:Int)+1)*Tz c j0+Vz c K j0:=rfl;have e2:Vz c L (j0+1)=L (2*(j0:Int)+1)*Tz c j0+Vz c L j0:=rfl;omega
theorem AB {c K:Int->Int} (hc:∀ p,0<=c p) (h:∀ p,p%2=1->0<=K p/\K p<=c p) {j0 j:Nat} (hj:j0<=j):fl (Tz c j0) (Vz c K j)=Vz c K j-Vz c K j0:=by
  obtain ⟨q,hq⟩:=uA (c:=c) (K:=K) hj;obtain ⟨a,b⟩:=xz hc h j0;have hT:=em hc j0;unfold fl;rw [hq,show q*Tz c j0+Vz c K j0=Vz c K j0+q*Tz c j0 by omega,Int.add_mul_ediv_right _ _ (by omega),Int.ediv_eq_zero_of_lt a b,Int.zero_add];omega
section
variable {ps:List P4} {c:Int->Int} {k:Nat} (M:Ms ps c k) (hcn:∀ p,c p=(gB ps (ids ps.length) p:Int))
include M hcn
theorem vz {win:Int->Int} {mv:Int->Option Int} (I:l6 ps (ids ps.length) win mv):∃ U,yw ps c k U/\∀ i∈ids ps.length,win i=0->U i < Tz c k:=by
  obtain ⟨K,k1,k2⟩:=zF I;have kb:∀ i p,p%2=1->0<=(K p i:Int)/\(K p i:Int)<=c p:=fun i p hp=>by
    have:=k1 p i hp;rw [hcn];omega
  have hT:=em M.hc k;have vb:∀ i,0<=Vz c (fun p=>(K p i:Int)) k/\Vz c (fun p=>(K p i:Int)) k < Tz c k:=fun i=>xz M.hc (kb i) k
  obtain ⟨U,hU⟩:∃ U:Int->Int,U=fun i=>if win i=0 then Vz c (fun p=>(K p i:Int)) k else Tz c k:=⟨_,rfl⟩
  have U0:∀ i,win i=0->U i=Vz c (fun p=>(K p i:Int)) k:=fun i h=>by rw [hU];exact if_pos h
  have U1:∀ i,win i≠0->U i=Tz c k:=fun i h=>by rw [hU];exact if_neg h
  have Ub:∀ i∈ids ps.length,0<=U i/\U i<=Tz c k:=fun i _=>by
    by_cases z:win i=0
    · rw [U0 i z];have:=vb i;omega
    · rw [U1 i z];omega
  have key:∀ i∈ids ps.length,win i=0->∀ g,Wy ps (ids ps.length) 0 mv i g->iZ (Tz c) k (ai ps i) (U g)<=U i:=fun i hi hw g hg=>by
    have hs:=I.stay i hi g (by rw [hw];exact hg);have hwg:win g=0:=hs.2.trans hw;rw [U0 i hw,U0 g hwg];have hb:=vb g;have hlo:=M.lo i hi;have step:∀ j:Nat,(ai ps i / 2).toNat<=j->(K (2*(j:Int)+1) g:Int)<=(K (2*(j:Int)+1) i:Int):=fun j hj=>by
      have:=(k2 (2*(j:Int)+1) i g (by omega) hi hw hg (by omega)).1;omega
    have f:=AB M.hc (kb g) (M.hi i hi);have vi:=xz M.hc (kb i) (ai ps i / 2).toNat;unfold iZ;rw [if_neg (by omega)];by_cases o:ai ps i%2=1
    · rw [if_pos o,f];have:=Ao M.hc (K:=fun p=>(K p g:Int)) (L:=fun p=>(K p i:Int)) step (by
        have e:2*(((ai ps i / 2).toNat:Nat):Int)+1=ai ps i:=by omega
        have:=(k2 (ai ps i) i g o hi hw hg (Int.le_refl _)).2 rfl;rw [e];omega) (M.od i hi o)
      omega
    · rw [if_neg o,f];have:=ur M.hc (K:=fun p=>(K p g:Int)) (L:=fun p=>(K p i:Int)) step (M.hi i hi);omega
  refine ⟨U,⟨Ub,fun i hi=>?_⟩,fun i hi h=>by rw [U0 i h];exact (vb i).2⟩;by_cases hw:win i=0
  · unfold tq;by_cases ho:ak ps i=0
    · obtain ⟨g,g1,g2⟩:=I.has i hi (ho.trans hw.symm);obtain ⟨g',a',e',m'⟩:=km (μ:=U) (M.ne i hi);rw [ho,e'];refine Int.le_trans (jF M.hc (M.hi i hi) (Ub g' (M.go i hi g' a')).1 (m' g g2) (Ub g (M.go i hi g g2)).2) ?_;exact key i hi hw g (.inl ⟨ho,g1⟩)
    · obtain ⟨g,a,e,_⟩:=kM ho (μ:=U) (M.ne i hi);rw [e];exact key i hi hw g (.inr ⟨ho,dL a (M.go i hi g a)⟩)
  · rw [U1 i hw];exact (yd M Ub hi).2
end
theorem lM (ps:List P4):ps.map (·.m)=(ids ps.length).map (ai ps):=by
  refine List.ext_getElem (by rw [List.length_map,List.length_map,dN]) fun k h1 h2=>?_
  rw [List.length_map] at h1;have e:(ids ps.length)[k]'(by rw [dN];exact h1)=(k:Int):=by
    have:=mV (n:=ps.length) h1;rw [List.getElem?_eq_getElem (by rw [dN];exact h1)] at this;exact Option.some.inj this
  rw [List.getElem_map,List.getElem_map,e,cT (by omega) (by omega)];simp
noncomputable def cn (ps:List P4) (p:Int):Int:=(gB ps (ids ps.length) p:Int)
theorem tT (ps:List P4) (p:Int):(((ps.map (·.m)).count p:Nat):Int)=cn ps p:=by
  unfold cn gB;rw [lM,List.count_eq_countP,List.countP_map,List.countP_eq_length_filter];rfl
theorem xL (ps:List P4) (p:Int):0<=cn ps p/\cn ps p<=ps.length:=by
  unfold cn gB;have:=List.length_filter_le (fun i=>decide (ai ps i=p)) (ids ps.length);rw [dN] at this;omega
noncomputable def xY:Nat->List Int
  | 0=>[]
  | k+1=>((k:Int)+1)::xY k
theorem kZ:∀ k:Nat,fV (k:Int) k=(xY k).map .int
  | 0=>rfl
  | k+1=>by
    have ih:=kZ k;unfold fV at ih ⊢;rw [List.range_succ_eq_map,List.map_cons,List.map_map];show _::_=PyData.int ((k:Int)+1)::(xY k).map .int;rw [<- ih];congr 1;refine List.map_congr_left fun j _=>?_
    show PyData.int _=PyData.int _;congr 1;simp;omega
theorem ye (i j:Int):pB [.int i,.int j,.int (-1)]=if (-1:Int)=-1/\-(2 ^ 62)<=i/\i < 2 ^ 62/\-(2 ^ 62)<=j/\j < 2 ^ 62 then .ok (fV i (i-j).toNat) else .no:=rfl
noncomputable def Bb:aD->R Bool:=tE (e2 (iy) (e2 ej (ae 0) (eC (.int 2))) (eC (.int 1)))
theorem jK {ps:List P4}:∀ m:Nat,bW (aG 0) Bb (ml (ae 1) (ae 0)) [.non,.val (.list ((ps.map (·.m)).map .int))] ((xY m).map .int)=.ok (((eW ((m+1) / 2)).map (cn ps)).map .int)
  | 0=>rfl
  | m+1=>by
    have ih:=jK (ps:=ps) m;have ht:Bb [.val (.int ((m:Int)+1)),.val (.list ((ps.map (·.m)).map .int))]=.ok (decide (((m:Int)+1)%2=1)):=by
      unfold Bb;simp only [cP,bE,aw,cQ,R.ok_bind,pX];rw [if_pos (by decide),R.ok_bind,hW,R.ok_bind,cR]
    have he:ml (ae 1) (ae 0) [.val (.int ((m:Int)+1)),.val (.list ((ps.map (·.m)).map .int))]=.ok (.int (cn ps ((m:Int)+1))):=by
      show (gR (.list ((ps.map (·.m)).map .int)) (.int ((m:Int)+1)))=_;show (match aN ((ps.map (·.m)).map .int) with | some ns=>R.ok (PyData.int (ns.count ((m:Int)+1):Nat)) | none=>.no)=_;rw [cD,<- tT]
    rw [show xY (m+1)=((m:Int)+1)::xY m from rfl,List.map_cons,cG];rw [show (([.non,.val (.list ((ps.map (·.m)).map .int))]:aD).set 0 (.val (.int ((m:Int)+1))))=[.val (.int ((m:Int)+1)),.val (.list ((ps.map (·.m)).map .int))] from rfl,ht,R.ok_bind,ih];by_cases o:((m:Int)+1)%2=1
    · rw [decide_eq_true o,if_pos rfl,he];obtain ⟨q,hq⟩:∃ q:Nat,q=(m+1) / 2:=⟨_,rfl⟩
      rw [<- hq,show (m+1+1) / 2=q+1 by omega,show eW (q+1)=(2*(q:Int)+1)::eW q from rfl,List.map_cons,List.map_cons,show 2*(q:Int)+1=(m:Int)+1 by omega];rfl
    · rw [decide_eq_false o,if_neg (by simp),show (m+1+1) / 2=(m+1) / 2 by omega]
theorem v8 {ps:List P4} {mx:Nat} (hp:ps.length<=24) (hx:oG (.list ((ps.map (·.m)).map .int))=.ok (.int mx)) (hm:mx<=12):bh [gD ps]=.ok (.tuple (((eW ((mx+1) / 2)).map (cn ps)).map .int)):=by
  have hc:bW (aG 0) (fun _=>.ok true) (e2 cu (ae 0) (eC (.int 1))) [.non] (ps.map P4.d)=.ok ((ps.map (·.m)).map .int):=by
    clear hx hp;induction ps with
    | nil=>rfl
    | cons p ps ih =>
      rw [List.map_cons,cG,ih];rfl
  have hr:pB [.int (mx:Int),.int 0,.int (-1)]=.ok ((xY mx).map .int):=by
    rw [ye,if_pos (by omega),show ((mx:Int)-0).toNat=mx by omega,kZ]
  have hd:=jK (ps:=ps) mx;have hlen:((xY mx).map PyData.int).length<=1000:=by
    have:=kZ mx;rw [<- this];unfold fV;simp;omega
  unfold bh fI;refine fW ?_;rw [show ([gD ps].map bm.val++List.replicate (2 - [gD ps].length) bm.non)=[.val (gD ps),.non] from rfl];rw [aJ (ρ':=[.val (gD ps),.val (.list ((ps.map (·.m)).map .int))]) (by
    rw [bG,cf,show aA 1 [] [.val (gD ps),.non]=[.non] from rfl];simp only [cq,aw,R.ok_bind,gx,dj];rw [if_pos (by rw [List.length_map];exact ca (by omega)),hc];rfl)]
  rw [dD,fT,cf,show aA 1 [1] [.val (gD ps),.val (.list ((ps.map (·.m)).map .int))]=[.non,.val (.list ((ps.map (·.m)).map .int))] from rfl];simp only [nR,aL,aU,fT,aq,aw,cQ,R.ok_bind,hx,uf,hr,dj];unfold Bb at hd;rw [if_pos (ca hlen),hd];rfl
theorem lG {ps:List P4} (hp:ps.length<=24):aQ [gD ps]=.ok (.tuple [.int ((ps.length:Int)+1)]):=by
  have hlen:gt (gD ps)=.ok (.int ps.length):=by simp
  unfold aQ gq;refine fW ?_;rw [show ([gD ps].map bm.val++List.replicate (1 - [gD ps].length) bm.non)=[.val (gD ps)] from rfl];simp only [dD,ib,aL,aU,fT,bE,aw,cQ,R.ok_bind,hlen,uN];rw [if_pos (by show 1<=_;decide)];rfl
noncomputable def Sm (n:Nat) (μ:Int->Int):Int:=((ids n).map μ).sum
theorem pA {μ U:Int->Int}:∀ {l:List Int},(∀ x∈l,μ x<=U x)->(l.map μ).sum<=(l.map U).sum
  | [],_=>by simp
  | x::l,h=>by
    have:=pA (l:=l) fun y hy=>h y (List.mem_cons_of_mem _ hy)
    have:=h x List.mem_cons_self;simp only [List.map_cons,List.sum_cons];omega
theorem vk {μ U:Int->Int}:∀ {l:List Int},(∀ x∈l,μ x<=U x)->(∃ x∈l,μ x < U x)->(l.map μ).sum < (l.map U).sum
  | [],_,⟨_,h,_⟩=>by simp at h
  | x::l,h,⟨y,hy,hl⟩=>by
    have a:=h x List.mem_cons_self;simp only [List.map_cons,List.sum_cons];rcases List.mem_cons.mp hy with rfl | z
    · have:=pA (l:=l) fun y hy=>h y (List.mem_cons_of_mem _ hy)
      omega
    · have:=vk (l:=l) (fun y hy=>h y (List.mem_cons_of_mem _ hy)) ⟨y,z,hl⟩;omega
theorem jv (t:Int):∀ l:List Int,(l.map fun _=>t).sum=l.length*t
  | []=>by simp
  | x::l=>by
    simp only [List.map_cons,List.sum_cons,jv t l,List.length_cons];rw [show ((l.length+1:Nat):Int)=(l.length:Int)+1 by omega,Int.add_mul,Int.one_mul];omega
theorem ki {p q r:Int->Bool}:∀ l:List Int,(∀ x∈l,(p x=true->r x=true/\q x=false)/\(q x=true->r x=true))->(l.filter p).length+(l.filter q).length<=(l.filter r).length
  | [],_=>by simp
  | x::l,h=>by
    have ih:=ki l fun y hy=>h y (List.mem_cons_of_mem _ hy)
    obtain ⟨h1,h2⟩:=h x List.mem_cons_self;cases hp:p x with
    | true =>
      obtain ⟨a,b⟩:=h1 hp;rw [List.filter_cons_of_pos hp,List.filter_cons_of_pos a,List.filter_cons_of_neg (by rw [b];simp),List.length_cons,List.length_cons];omega
    | false =>
      rw [List.filter_cons_of_neg (by rw [hp];simp)];cases hq:q x with
      | true =>
        rw [List.filter_cons_of_pos hq,List.filter_cons_of_pos (h2 hq),List.length_cons,List.length_cons];omega
      | false =>
        rw [List.filter_cons_of_neg (by rw [hq];simp)];cases hr:r x with
        | true=>rw [List.filter_cons_of_pos hr,List.length_cons];omega
        | false=>rw [List.filter_cons_of_neg (by rw [hr];simp)];exact ih
noncomputable def kl (ps:List P4) (j:Nat):Nat:=((ids ps.length).filter fun i=>decide (ai ps i < 2*(j:Int))).length
theorem tJ (ps:List P4) (j:Nat):kl ps j+gB ps (ids ps.length) (2*(j:Int)+1)<=kl ps (j+1):=by
  unfold kl gB;refine ki _ fun x _=>⟨fun h=>?_,fun h=>?_⟩
  · have:=of_decide_eq_true h;exact ⟨decide_eq_true (by omega),decide_eq_false (by omega)⟩
  · have:=of_decide_eq_true h;exact decide_eq_true (by omega)
theorem qB (c:Nat):(c:Int)+1<=2 ^ c:=by
  induction c with
  | zero=>decide
  | succ c ih=>rw [Int.pow_succ];omega
theorem o5 (ps:List P4):∀ j:Nat,Tz (cn ps) j<=2 ^ kl ps j
  | 0=>by
    show (1:Int)<=_;have:=qB (kl ps 0);omega
  | j+1=>by
    have ih:=o5 ps j;have h1:=qB (gB ps (ids ps.length) (2*(j:Int)+1));have h2:(0:Int)<=Tz (cn ps) j:=Int.le_of_lt (em (fun p=>(xL ps p).1) j);show (cn ps (2*(j:Int)+1)+1)*Tz (cn ps) j<=_;have h3:(cn ps (2*(j:Int)+1)+1)*Tz (cn ps) j<=2 ^ gB ps (ids ps.length) (2*(j:Int)+1)*2 ^ kl ps j :=
      Int.mul_le_mul h1 ih h2 (by omega)
    rw [<- Int.pow_add] at h3;refine Int.le_trans h3 ?_;have h4:=Nat.pow_le_pow_right (n:=2) (by decide) (tJ ps j);rw [Nat.add_comm] at h4;have h5:((2 ^ (gB ps (ids ps.length) (2*(j:Int)+1)+kl ps j):Nat):Int)<=((2 ^ kl ps (j+1):Nat):Int):=by omega
    simpa using h5
theorem xB {ps:List P4} (hp:ps.length<=10) (j:Nat):Tz (cn ps) j<=1024:=by
  refine Int.le_trans (o5 ps j) ?_;have h:kl ps j<=10:=by
    unfold kl;have:=List.length_filter_le (fun i=>decide (ai ps i < 2*(j:Int))) (ids ps.length);rw [dN] at this;omega
  have h4:=Nat.pow_le_pow_right (n:=2) (by decide) h;have h5:((2 ^ kl ps j:Nat):Int)<=((2 ^ 10:Nat):Int):=by omega
  simpa using h5
noncomputable def kW (ps:List P4) (ms:List Int) (b:Int) (μ:Int->Int) (r:Bool) (c5 c6 c7:bm):aD:=[.val (gD ps),.val (.tuple (ms.map .int)),.val (.tuple [.int b]),.own (.list (gH (fun i=>aW ms b (μ i)) ps.length)),.val (.bool r),c5,c6,c7]
noncomputable def yi:Fs:=(aY (bo 7 (iB 3 (bf bg (ag (ae 6) (ag (ae 3) (ag (ae 1) (ag (ae 2) aC))))))) (j8 (tE (e2 ln (ae 7) (e2 cu (fP 3) (ae 5)))) (aY (og 3 (ae 5) (ae 7)) (bo 4 (eC (.bool true)))) cK))
noncomputable def Bi:Fs:=(aY (bo 4 (eC (.bool false))) (fX (gG (om (ae 0)) (k6 5 6) yi)))
structure Rs (ps:List P4) (c:Int->Int) (k:Nat) (μ:Int->Int):Prop where
  b:∀ i∈ids ps.length,0<=μ i/\μ i<=Tz c k
  le:∀ U,yw ps c k U->∀ i∈ids ps.length,μ i<=U i
section
variable {ps:List P4} {k:Nat} (G:Gr ps) (hk:k<=100) (M:Ms ps (cn ps) k)
include G hk M
theorem Bf:zP ((eW k).map (cn ps)) ((ps.length:Int)+1):=by
  refine ⟨fun m hm=>?_,fun m hm=>?_⟩
  · obtain ⟨p,_,rfl⟩:=List.mem_map.mp hm;exact (xL ps p).1
  · obtain ⟨p,_,rfl⟩:=List.mem_map.mp hm;have:=(xL ps p).2;omega
theorem A6 {μ:Int->Int} (hb:∀ i∈ids ps.length,0<=μ i/\μ i<=Tz (cn ps) k) {i:Int} (hi:i∈ids ps.length):bg [jB ps i,.list (gH (fun i=>aW ((eW k).map (cn ps)) ((ps.length:Int)+1) (μ i)) ps.length),.tuple (((eW k).map (cn ps)).map .int),.tuple [.int ((ps.length:Int)+1)]]=.ok (aW ((eW k).map (cn ps)) ((ps.length:Int)+1) (tq ps (Tz (cn ps)) k μ i)):=by
  obtain ⟨h0,h1⟩:=cb.mp hi;have hd:jB ps i=(ps[i.toNat]'(by omega)).d:=by
    unfold jB;rw [List.getElem?_eq_getElem (show i.toNat < ps.length by omega)];rfl
  have hmem:=List.getElem_mem (show i.toNat < ps.length by omega);have hl:=M.lo i hi;have hh:=M.hi i hi;have h:=my (Bf G hk M) (by rw [List.length_map,jj];exact hk) (n:=ps.length) (μ:=μ) (fun j j0 j1=>by rw [kI];exact hb j (cb.mpr ⟨j0,j1⟩)) (p:=ps[i.toNat]'(by omega)) (G.hgo _ hmem) (G.ne _ hmem) (Nat.le_trans (G.hl _ hmem) (by decide)) (by rw [<- cT h0 h1];exact hl) (by rw [<- cT h0 h1,List.length_map,jj];exact hh);rw [hd,h];unfold tq;rw [<- cT h0 h1,<- eN h0 h1,<- eO h0 h1,zG hh]
theorem mw:∀ (m s:Nat) (μ:Int->Int) (r:Bool) (c5 c6 c7:bm),s+m=ps.length->Rs ps (cn ps) k μ ->
    ∃ μ' r' c5' c6' c7',dA (k6 5 6) yi (fM s ((tR s m).map (jB ps))) (kW ps ((eW k).map (cn ps)) ((ps.length:Int)+1) μ r c5 c6 c7)=.ok (.nx (kW ps ((eW k).map (cn ps)) ((ps.length:Int)+1) μ' r' c5' c6' c7'))/\Rs ps (cn ps) k μ'/\(∀ i,μ i<=μ' i) /\
      (r'=false->r=false/\μ'=μ/\∀ j:Nat,s<=j->j < s+m->tq ps (Tz (cn ps)) k μ j<=μ j)/\(r'=true->r=true\/∃ i∈ids ps.length,μ i < μ' i)
  | 0,s,μ,r,c5,c6,c7,_,I=>⟨μ,r,c5,c6,c7,by show dA _ _ [] _=_;rw [dt],I,fun _=>Int.le_refl _,fun h=>⟨h,rfl,fun j h1 h2=>by omega⟩,fun h=>.inl h⟩
  | m+1,s,μ,r,c5,c6,c7,hs,I=>by
    have hi:((s:Nat):Int)∈ids ps.length:=cb.mpr ⟨by omega,by omega⟩;have B:=Bf G hk M;have ha:=A6 G hk M I.b hi;have ab:=yd M I.b hi;obtain ⟨a,ea⟩:∃ a,a=tq ps (Tz (cn ps)) k μ s:=⟨_,rfl⟩
    rw [<- ea] at ha ab;obtain ⟨ms,ems⟩:∃ ms,ms=(eW k).map (cn ps):=⟨_,rfl⟩
    have hsz:sz ms=Tz (cn ps) k:=by rw [ems,kI]
    obtain ⟨b,eb⟩:∃ b,b=(ps.length:Int)+1:=⟨_,rfl⟩
    rw [<- ems,<- eb] at ha B;simp only [<- ems,<- eb];rw [nU,List.map_cons];rw [show fM s (jB ps s::(tR (s+1) m).map (jB ps))=.tuple [.int s,jB ps s]::fM (s+1) ((tR (s+1) m).map (jB ps)) from rfl,sj];rw [show ((kW ps ms b μ r c5 c6 c7).set 5 (.val (.int s))).set 6 (.val (jB ps s))=kW ps ms b μ r (.val (.int s)) (.val (jB ps s)) c7 from rfl];have hset:bo 7 (iB 3 (bf bg (ag (ae 6) (ag (ae 3) (ag (ae 1) (ag (ae 2) aC)))))) (kW ps ms b μ r (.val (.int s)) (.val (jB ps s)) c7)=.ok (.nx (kW ps ms b μ r (.val (.int s)) (.val (jB ps s)) (.val (aW ms b a)))):=by
      rw [bG];have e:iB 3 (bf bg (ag (ae 6) (ag (ae 3) (ag (ae 1) (ag (ae 2) aC))))) (kW ps ms b μ r (.val (.int s)) (.val (jB ps s)) c7)=.ok (aW ms b a):=by
        show (lb (bf bg (ag (ae 6) (ag (ae 3) (ag (ae 1) (ag (ae 2) aC)))) [.val (gD ps),.val (.tuple (ms.map .int)),.val (.tuple [.int b]),.val (.list (gH (fun i=>aW ms b (μ i)) ps.length)),.val (.bool r),.val (.int s),.val (jB ps s),ue c7])>>=i7)=_;simp only [bz,aL,aU,aq,aw,R.ok_bind,ha,dj];show (match aN ((iw ms b a).map .int) with | some _=>R.ok (PyData.tuple ((iw ms b a).map .int)) | none=>.no)=_;rw [cD];rfl
      rw [e];rfl
    have hgt:ln (aW ms b a) (aW ms b (μ s))=.ok (.bool (decide (μ s < a))):=by
      unfold aW;rw [yF,mJ B (I.b _ hi).1 (by rw [hsz];exact (I.b _ hi).2) ab.1 (by rw [hsz];exact ab.2)]
    have hix:cu (.list (gH (fun i=>aW ms b (μ i)) ps.length)) (.int s)=.ok (aW ms b (μ s)):=yb (f:=fun i=>aW ms b (μ i)) (by omega) (by omega);have htest:(tE (e2 ln (ae 7) (e2 cu (fP 3) (ae 5)))) (kW ps ms b μ r (.val (.int s)) (.val (jB ps s)) (.val (aW ms b a)))=.ok (decide (μ s < a)):=by
      unfold kW;simp only [cP,bE,aq,aw,rj,rb,R.ok_bind,hix,hgt,cR]
    by_cases z:μ s < a
    · obtain ⟨μ1,e1⟩:∃ μ1:Int->Int,μ1=fun j=>if j=(s:Int) then a else μ j:=⟨_,rfl⟩
      have m1s:μ1 s=a:=by rw [e1];exact if_pos rfl
      have m1o:∀ j:Int,j≠s->μ1 j=μ j:=fun j h=>by rw [e1];exact if_neg h
      have up:∀ j,μ j<=μ1 j:=fun j=>by
        by_cases q:j=(s:Int)
        · subst q;omega
        · rw [m1o j q];omega
      have I1:Rs ps (cn ps) k μ1:=⟨fun j hj=>by
        by_cases q:j=(s:Int)
        · subst q;rw [m1s];exact ab
        · rw [m1o j q];exact I.b j hj,fun U hU j hj=>by
        by_cases q:j=(s:Int)
        · subst q;rw [m1s,ea];exact Int.le_trans (tW M (fun i hi=>⟨(I.b i hi).1,I.le U hU i hi⟩) (fun i hi=>(hU.b i hi).2) hi) (hU.le _ hi)
        · rw [m1o j q];exact I.le U hU j hj⟩
      obtain ⟨μ',r',c5',c6',c7',f1,f2,f3,f4,f5⟩:=mw m (s+1) μ1 true (.val (.int s)) (.val (jB ps s)) (.val (aW ms b a)) (by omega) I1;rw [<- ems,<- eb] at f1;have hbody:yi (kW ps ms b μ r (.val (.int s)) (.val (jB ps s)) c7)=.ok (.nx (kW ps ms b μ1 true (.val (.int s)) (.val (jB ps s)) (.val (aW ms b a)))):=by
        unfold yi;rw [aJ hset,c9,htest,R.ok_bind,if_pos (decide_eq_true z)];rw [aJ (ρ':=kW ps ms b μ1 r (.val (.int s)) (.val (jB ps s)) (.val (aW ms b a))) (by
          rw [xF (ds:=gH (fun i=>aW ms b (μ i)) ps.length) (n:=s) (v:=aW ms b a) rfl rfl rfl (by omega) (by rw [dO];omega),v7 (by omega) (by omega)];rw [show (fun j=>if j=(s:Int) then aW ms b a else aW ms b (μ j))=fun j=>aW ms b (μ1 j) by
            funext j;rw [e1];dsimp only;split <;> rfl]
          rfl)]
        rfl
      refine ⟨μ',r',c5',c6',c7',?_,f2,fun i=>Int.le_trans (up i) (f3 i),fun h=>?_,fun h=>.inr ⟨s,hi,?_⟩⟩
      · rw [hbody,R.ok_bind,cO,f1]
      · exact nomatch (f4 h).1
      · have:=f3 s;omega
    · obtain ⟨μ',r',c5',c6',c7',f1,f2,f3,f4,f5⟩:=mw m (s+1) μ r (.val (.int s)) (.val (jB ps s)) (.val (aW ms b a)) (by omega) I;rw [<- ems,<- eb] at f1;have hbody:yi (kW ps ms b μ r (.val (.int s)) (.val (jB ps s)) c7)=.ok (.nx (kW ps ms b μ r (.val (.int s)) (.val (jB ps s)) (.val (aW ms b a)))):=by
        unfold yi;rw [aJ hset,c9,htest,R.ok_bind,if_neg (by rw [decide_eq_false z];simp)];rfl
      refine ⟨μ',r',c5',c6',c7',?_,f2,f3,fun h=>?_,f5⟩
      · rw [hbody,R.ok_bind,cO,f1]
      · obtain ⟨g1,g2,g3⟩:=f4 h;refine ⟨g1,g2,fun j h1 h2=>?_⟩;by_cases q:j=s
        · subst q;omega
        · exact g3 j (by omega) (by omega)
theorem rE:∀ (N:Nat) (μ:Int->Int) (c5 c6 c7:bm),Rs ps (cn ps) k μ->((ps.length:Int)*Tz (cn ps) k-Sm ps.length μ).toNat+2<=N ->
    ∃ μ' c5' c6' c7',cx (tE (ae 4)) Bi N (kW ps ((eW k).map (cn ps)) ((ps.length:Int)+1) μ true c5 c6 c7)=.ok (.nx (kW ps ((eW k).map (cn ps)) ((ps.length:Int)+1) μ' false c5' c6' c7'))/\Rs ps (cn ps) k μ'/\yw ps (cn ps) k μ'
  | 0,μ,c5,c6,c7,I,h=>by omega
  | N+1,μ,c5,c6,c7,I,h=>by
    obtain ⟨μ1,r1,d5,d6,d7,f1,f2,f3,f4,f5⟩:=mw G hk M ps.length 0 μ false c5 c6 c7 (by omega) I;have hbody:Bi (kW ps ((eW k).map (cn ps)) ((ps.length:Int)+1) μ true c5 c6 c7)=.ok (.nx (kW ps ((eW k).map (cn ps)) ((ps.length:Int)+1) μ1 r1 d5 d6 d7)):=by
      unfold Bi;rw [aJ (ρ':=kW ps ((eW k).map (cn ps)) ((ps.length:Int)+1) μ false c5 c6 c7) (by rfl)];rw [dQ,eE,ul];rw [show ae 0 (kW ps ((eW k).map (cn ps)) ((ps.length:Int)+1) μ false c5 c6 c7)=.ok (gD ps) from rfl];simp only [R.ok_bind,gx];rw [y9,show gH (jB ps) ps.length=(tR 0 ps.length).map (jB ps) by rw [qM];rfl,f1];rfl
    rw [oE,show tE (ae 4) (kW ps ((eW k).map (cn ps)) ((ps.length:Int)+1) μ true c5 c6 c7)=.ok true from rfl,R.ok_bind,if_pos rfl,hbody,R.ok_bind,cO];cases hr:r1 with
    | true =>
      have hs:Sm ps.length μ < Sm ps.length μ1:=by
        rcases f5 hr with q | q
        · exact nomatch q
        · exact vk (fun x _=>f3 x) q
      have hu:Sm ps.length μ1<=(ps.length:Int)*Tz (cn ps) k:=by
        have:=pA (l:=ids ps.length) (μ:=μ1) (U:=fun _=>Tz (cn ps) k) fun x hx=>(f2.b x hx).2
        rw [jv,dN] at this;exact this
      exact rE N μ1 d5 d6 d7 f2 (by omega)
    | false =>
      obtain ⟨_,g2,g3⟩:=f4 hr;subst g2;obtain ⟨N',rfl⟩:∃ N',N=N'+1:=⟨N-1,by omega⟩
      refine ⟨μ1,d5,d6,d7,?_,f2,⟨f2.b,fun i hi=>?_⟩⟩
      · rw [oE];rfl
      · obtain ⟨h0,h1⟩:=cb.mp hi;have:=g3 i.toNat (by omega) (by omega);rw [show ((i.toNat:Nat):Int)=i by omega] at this;exact this
theorem uJ (h10:ps.length<=10) (hmo:bh [gD ps]=.ok (.tuple (((eW k).map (cn ps)).map .int))):∃ μ,eB [gD ps]=.ok (.tuple (gH (fun i=>aW ((eW k).map (cn ps)) ((ps.length:Int)+1) (μ i)) ps.length))/\Rs ps (cn ps) k μ/\yw ps (cn ps) k μ:=by
  have hT:=em M.hc k;have hT2:=xB h10 k;have hbe:=lG (ps:=ps) G.hp;have I0:Rs ps (cn ps) k fun _=>0:=⟨fun i _=>⟨Int.le_refl _,by omega⟩,fun U hU i hi=>(hU.b i hi).1⟩
  have hS0:Sm ps.length (fun _=>0)=0:=by unfold Sm;rw [jv];omega
  have hn:(ps.length:Int)*Tz (cn ps) k<=10*1024:=Int.mul_le_mul (by omega) hT2 (by omega) (by omega);obtain ⟨μ,c5,c6,c7,e,I,P⟩:=rE G hk M 1000000 (fun _=>0) .non .non .non I0 (by omega);refine ⟨μ,?_,I,P⟩;have hfil:=jw (h:=[]) (ms:=(eW k).map (cn ps)) (by simp) (by rw [List.length_map,jj];omega);have hrow:PyData.tuple ((([]:List Int)++List.replicate (((eW k).map (cn ps)).length-([]:List Int).length) 0).map .int)=aW ((eW k).map (cn ps)) ((ps.length:Int)+1) 0:=by
    unfold aW iw;rw [if_neg (by rw [kI];omega),ka (Bf G hk M).nn];rfl
  rw [hrow] at hfil;have hc:=ia (bf aZ (ag (gX aC) (ag (ae 1) aC))) [.non,.val (.tuple (((eW k).map (cn ps)).map .int))] 0 (fun _=>aW ((eW k).map (cn ps)) ((ps.length:Int)+1) 0) (ps.map P4.d) fun d _=>by
    simp only [List.set_cons_zero,bz,ib,aL,aU,aq,aw,R.ok_bind];rw [if_pos (by show 0<=_;decide),R.ok_bind];exact hfil
  have htab:(ps.map P4.d).map (fun _=>aW ((eW k).map (cn ps)) ((ps.length:Int)+1) 0)=gH (fun _=>aW ((eW k).map (cn ps)) ((ps.length:Int)+1) 0) ps.length:=by
    unfold gH;rw [List.map_const',List.map_const',List.length_map,dN]
  rw [htab] at hc;unfold eB mt;refine fW ?_;rw [show ([gD ps].map bm.val++List.replicate (8 - [gD ps].length) bm.non)=[.val (gD ps),.non,.non,.non,.non,.non,.non,.non] from rfl];rw [aJ (ρ':=[.val (gD ps),.val (.tuple (((eW k).map (cn ps)).map .int)),.non,.non,.non,.non,.non,.non]) (by
    simp only [bG,bz,aL,aU,aw,R.ok_bind,hmo];rfl)]
  rw [aJ (ρ':=[.val (gD ps),.val (.tuple (((eW k).map (cn ps)).map .int)),.val (.tuple [.int ((ps.length:Int)+1)]),.non,.non,.non,.non,.non]) (by
    simp only [bG,bz,aL,aU,aw,R.ok_bind,hbe];rfl)]
  rw [aJ (ρ':=[.val (gD ps),.val (.tuple (((eW k).map (cn ps)).map .int)),.val (.tuple [.int ((ps.length:Int)+1)]),.own (.list (gH (fun _=>aW ((eW k).map (cn ps)) ((ps.length:Int)+1) 0) ps.length)),.non,.non,.non,.non]) (by
    rw [qT,cf,show aA 1 [1] [.val (gD ps),.val (.tuple (((eW k).map (cn ps)).map .int)),.val (.tuple [.int ((ps.length:Int)+1)]),.non,.non,.non,.non,.non]=[.non,.val (.tuple (((eW k).map (cn ps)).map .int))] from rfl];simp only [cq,aw,R.ok_bind,gx,dj];rw [if_pos (by rw [List.length_map];exact ca (by omega)),hc];rfl)]
  rw [aJ (ρ':=kW ps ((eW k).map (cn ps)) ((ps.length:Int)+1) (fun _=>0) true .non .non .non) (by rfl)];rw [aJ (ρ':=kW ps ((eW k).map (cn ps)) ((ps.length:Int)+1) μ false c5 c6 c7) (by
    rw [dQ];unfold Bi yi at e;unfold mi;rw [e];rfl)]
  rfl
theorem Aa (h10:ps.length<=10) (hmo:bh [gD ps]=.ok (.tuple (((eW k).map (cn ps)).map .int))):∃ μ,bq [gD ps]=.ok (.tuple (gH (fun i=>.int (if μ i=Tz (cn ps) k then 1 else 0)) ps.length))/\Rs ps (cn ps) k μ/\yw ps (cn ps) k μ:=by
  obtain ⟨μ,e,I,P⟩:=uJ G hk M h10 hmo;have hbe:=lG (ps:=ps) G.hp;have hp:=G.hp;refine ⟨μ,?_,I,P⟩;obtain ⟨ms,ems⟩:∃ ms,ms=(eW k).map (cn ps):=⟨_,rfl⟩
  obtain ⟨b,eb⟩:∃ b,b=(ps.length:Int)+1:=⟨_,rfl⟩
  have B:=Bf G hk M;rw [<- ems,<- eb] at e B;rw [<- eb] at hbe;have hsz:sz ms=Tz (cn ps) k:=by rw [ems,kI]
  have hc:∀ is:List Int,(∀ i∈is,i∈ids ps.length)->bW (aG 0) (fun _=>.ok true) (zV (tE (e2 (iy) (ae 0) (ae 1))) (eC (.int 1)) (eC (.int 0))) [.non,.val (.tuple [.int b])] (is.map fun i=>aW ms b (μ i))=.ok (is.map fun i=>.int (if μ i=Tz (cn ps) k then 1 else 0)):=by
    intro is;induction is with
    | nil=>intro _;rfl
    | cons i is ih =>
      intro h;have hi:=I.b i (h i List.mem_cons_self);have hq:iy (aW ms b (μ i)) (.tuple [.int b])=.ok (.bool (decide (μ i=Tz (cn ps) k))):=by
        have:=vg (iw ms b (μ i)) [b];rw [show ([b].map PyData.int)=[.int b] from rfl] at this;unfold aW;rw [this];congr 2;rw [<- hsz] at hi ⊢;exact decide_eq_decide.mpr (qA B hi.1 hi.2)
      rw [List.map_cons,cG,ih fun x hx=>h x (List.mem_cons_of_mem _ hx)];simp only [List.set_cons_zero,vD,cP,bE,aw,aq,cQ,R.ok_bind,hq,cR,if_true,List.map_cons];by_cases z:μ i=Tz (cn ps) k
      · rw [decide_eq_true z,if_pos rfl,if_pos z];rfl
      · rw [decide_eq_false z,if_neg (by simp),if_neg z];rfl
  unfold bq fK;refine fW ?_;rw [show ([gD ps].map bm.val++List.replicate (2 - [gD ps].length) bm.non)=[.val (gD ps),.non] from rfl];rw [aJ (ρ':=[.val (gD ps),.val (.tuple [.int b])]) (by
    simp only [bG,bz,aL,aU,aw,R.ok_bind,hbe];rfl)]
  rw [dD,fT,cf,show aA 1 [1] [.val (gD ps),.val (.tuple [.int b])]=[.non,.val (.tuple [.int b])] from rfl];simp only [cq,bz,aL,aU,aw,R.ok_bind,e,gx,dj];rw [if_pos (by rw [dO];exact ca (by omega))];have h:=hc (ids ps.length) fun i h=>h
  unfold gH;rw [h];rfl
end
theorem xq {ps:List P4} {k:Nat} (M:Ms ps (cn ps) k) {μ:Int->Int} (I:Rs ps (cn ps) k μ) (P:yw ps (cn ps) k μ) {win:Int->Int} {mv:Int->Option Int} (W:l6 ps (ids ps.length) win mv) {i:Int} (hi:i∈ids ps.length):(if μ i=Tz (cn ps) k then (1:Int) else 0)=win i:=by
  obtain ⟨U,hU,hf⟩:=vz M (fun _=>rfl) W;by_cases z:μ i=Tz (cn ps) k
  · rw [if_pos z];rcases W.two i hi with q | q
    · have:=hf i hi q;have:=I.le U hU i hi;omega
    · exact q.symm
  · rw [if_neg z];have:=(I.b i hi).2;exact (uP M P W hi (by omega)).symm
theorem vy {ps:List P4} {hi:Int} (hpl:∀ p∈ps,Pl ps.length hi p) (h1:1<=ps.length) (h10:ps.length<=10) (hi12:hi<=12):∃ w:Int->Int,bq [gD ps]=.ok (.tuple (((ids ps.length).map w).map .int))/\∀ {win:Int->Int} {mv:Int->Option Int},l6 ps (ids ps.length) win mv->∀ i∈ids ps.length,w i=win i:=by
  have G:Gr ps:=x8 hpl (by omega);have P:∀ i∈ids ps.length,(ak ps i=0\/ak ps i=1)/\0<=ai ps i/\ai ps i<=12:=fun i hi'=>by
    obtain ⟨a0,a1⟩:=cb.mp hi';have P:=hpl _ (List.getElem_mem (show i.toNat < ps.length by omega));rw [eN a0 a1,cT a0 a1];have:=P.w0;have:=P.w1;have:=P.m0;have:=P.m1;omega
  obtain ⟨h,hx,⟨i0,hi0,e0⟩,hm⟩:=lZ (ps:=ps) (js:=ids ps.length) (fun z=>by have:=dN ps.length;rw [z] at this;simp at this;omega);rw [<- lM] at hx;have hb:=(P i0 hi0).2;obtain ⟨mx,emx⟩:∃ mx:Nat,h=mx:=⟨h.toNat,by omega⟩
  rw [emx] at hx;have M:Ms ps (cn ps) ((mx+1) / 2):=by
    refine ⟨fun p=>(xL ps p).1,fun i hi=>(P i hi).1,fun i hi g hg=>cb.mpr (G.goals hg),fun i hi z=>?_,fun i hi=>(P i hi).2.1,fun i hi=>?_,fun i hi o=>?_⟩
    · obtain ⟨a0,a1⟩:=cb.mp hi;obtain ⟨g,hg⟩:=G.gne a0 a1;rw [z] at hg;exact nomatch hg
    · have:=hm i hi;omega
    · have:=hm i hi;have:=(P i hi).2;omega
  obtain ⟨μ,e,I,Q⟩:=Aa G (by omega) M h10 (v8 G.hp hx (by omega));refine ⟨fun i=>if μ i=Tz (cn ps) ((mx+1) / 2) then 1 else 0,?_,fun W i hi=>xq M I Q W hi⟩;rw [e,List.map_map];rfl
noncomputable def gn:Option Int->PyData
  | some i=>.int i
  | none=>.none
noncomputable abbrev mD (mv:List (Option Int)):PyData:=.tuple (mv.map gn)
noncomputable def iR (mv:List (Option Int)) (i:Int):Option Int:=(mv[i.toNat]?).getD none
theorem Ad {mv:List (Option Int)} {i:Int} (h0:0<=i) (h1:i < mv.length):cu (mD mv) (.int i)=.ok (gn (iR mv i)):=by
  rw [oU h0 (by simpa using h1)];unfold iR;rw [List.getElem?_eq_getElem (by omega)];simp
noncomputable def bP (ps:List P4) (who:Int) (mv:List (Option Int)) (i:Int):List Int:=if ak ps i=who then (iR mv i).toList else aH ps i
theorem mf {ps:List P4} {mv:List (Option Int)} {who i:Int} (h0:0<=i) (h1:i < ps.length) (hm:mv.length=ps.length):aP [gD ps,.int who,mD mv,.int i]=.ok (.list ((bP ps who mv i).map .int)):=by
  have ho:=eN h0 h1;have hg:=eO h0 h1;have hix:=lV h0 h1;have hmx:=Ad (mv:=mv) h0 (by omega);unfold aP iK;refine fW ?_;rw [show ([gD ps,.int who,mD mv,.int i].map bm.val++List.replicate (4 - [gD ps,.int who,mD mv,.int i].length) bm.non)=[.val (gD ps),.val (.int who),.val (mD mv),.val (.int i)] from rfl];unfold bP;have s1:(1:Nat)<=sizeLine:=by decide
  by_cases hw:ak ps i=who
  · rw [if_pos hw];refine iL ?_;rw [c9];simp only [cP,bE,aw,aq,cQ,R.ok_bind,hix,mN,hW,cR];rw [<- ho,if_pos (decide_eq_true hw),dD,cf];simp only [cq,jZ,aL,aU,bE,aw,aq,R.ok_bind,hmx,List.length_cons,List.length_nil];rw [if_pos s1];simp only [R.ok_bind,o9,dj,List.length_cons,List.length_nil];rw [if_pos s1,cG,h9];cases hq:iR mv i with
    | none=>rfl
    | some j=>rfl
  · rw [if_neg hw];rw [aJ (ρ':=[.val (gD ps),.val (.int who),.val (mD mv),.val (.int i)]) (by
      rw [c9];simp only [cP,bE,aw,aq,cQ,R.ok_bind,hix,mN,hW,cR];rw [<- ho,if_neg (by simpa using hw)];rfl)]
    simp only [dD,fT,bE,aw,aq,cQ,R.ok_bind,hix,nr,hg];rfl
noncomputable def gQ (ps:List P4) (who:Int) (mv:List (Option Int)) (qs:List Int) (i:Int):Bool:=!decide (bP ps who mv i=[])&&decide ((bP ps who mv i).filter (fun j=>!cM qs j)=[])
noncomputable def rG:Fs:=(aY (bo 5 (bf aP (ag (ae 0) (ag (ae 1) (ag (ae 2) (ag (ae 4) aC)))))) (j8 (vx (tE (e2 (iy) (ae 5) (fU aC))) (tE (e2 (pT) (bK (dw (ae 5)) 1 [3] (aG 0) (tE (e2 (jp true) (ae 0) (ae 1))) (ae 0)) (fU aC)))) (cW (eC (.bool false))) cK))
theorem ik {ps:List P4} (hl:∀ p∈ps,p.ns.length<=100) {mv:List (Option Int)} {who i:Int} (h0:0<=i) (h1:i < ps.length):(bP ps who mv i).length<=100:=by
  unfold bP;split
  · cases iR mv i <;> simp
  · rw [eO h0 h1];exact hl _ (List.getElem_mem _)
theorem uM {ps:List P4} (hl:∀ p∈ps,p.ns.length<=100) {mv:List (Option Int)} {who i:Int} (h0:0<=i) (h1:i < ps.length) (hm:mv.length=ps.length) {s:PyData} {qs:List Int} (hs:vJ s qs) (c5:bm) :
    rG [.val (gD ps),.val (.int who),.val (mD mv),.val s,.val (.int i),c5]=if gQ ps who mv qs i=true then .ok (.nx [.val (gD ps),.val (.int who),.val (mD mv),.val s,.val (.int i),.val (.list ((bP ps who mv i).map .int))]) else .ok (.rt (.bool false)):=by
  have hw:=mf (who:=who) h0 h1 hm;have hwl:=ik hl (mv:=mv) (who:=who) h0 h1;have hcmp:=dW (t:=tE (e2 (jp true) (ae 0) (ae 1))) (ρ:=[.val s]) (p:=fun j=>!cM qs j) (bP ps who mv i) fun k hk=>by simp [hs.inn]
  have n0:=A9 (bP ps who mv i) [];have n1:=uh ((bP ps who mv i).filter fun j=>!cM qs j) [];simp only [List.map_nil] at n0 n1;have s0:([]:List PyData).length<=sizeLine:=Nat.zero_le _;unfold rG;rw [aJ (ρ':=[.val (gD ps),.val (.int who),.val (mD mv),.val s,.val (.int i),.val (.list ((bP ps who mv i).map .int))]) (by simp [hw])];have ec:bK (dw (ae 5)) 1 [3] (aG 0) (tE (e2 (jp true) (ae 0) (ae 1))) (ae 0) [.val (gD ps),.val (.int who),.val (mD mv),.val s,.val (.int i),.val (.list ((bP ps who mv i).map .int))]=.ok (.list (((bP ps who mv i).filter fun j=>!cM qs j).map .int)):=by
    rw [cf];simp only [cq,aq,aw,R.ok_bind,o9,dj];rw [if_pos (by rw [List.length_map];exact ca (by omega))];rw [show aA 1 [3] [.val (gD ps),.val (.int who),.val (mD mv),.val s,.val (.int i),.val (.list ((bP ps who mv i).map .int))]=[.non,.val s] from rfl,hcmp];rfl
  rw [c9,wo];simp only [cP,bE,aq,aw,jZ,aU,R.ok_bind,ec,List.length_nil];rw [if_pos (Nat.zero_le _)];simp only [R.ok_bind,n0,n1,cR];unfold gQ;by_cases ha:bP ps who mv i=[]
  · rw [decide_eq_true ha];rfl
  · rw [decide_eq_false ha];by_cases hb:((bP ps who mv i).filter fun j=>!cM qs j)=[]
    · rw [decide_eq_true hb];rfl
    · rw [decide_eq_false hb];rfl
theorem uD {ps:List P4} (hl:∀ p∈ps,p.ns.length<=100) {mv:List (Option Int)} {who:Int} (hm:mv.length=ps.length) {s:PyData} {qs:List Int} (hs:vJ s qs):∀ (is:List Int) (c4 c5:bm),(∀ x∈is,0<=x/\x < ps.length) ->
    ∃ ρ,dA (aG 4) rG (is.map .int) [.val (gD ps),.val (.int who),.val (mD mv),.val s,c4,c5]=if is.all (gQ ps who mv qs)=true then .ok (.nx ρ) else .ok (.rt (.bool false))
  | [],c4,c5,_=>⟨_,by rw [List.map_nil,dt];rfl⟩
  | i::is,c4,c5,hb=>by
    have hi:=hb i List.mem_cons_self;obtain ⟨ρ,e⟩:=uD hl hm (who:=who) hs is (.val (.int i)) (.val (.list ((bP ps who mv i).map .int))) fun x hx=>hb x (List.mem_cons_of_mem _ hx)
    refine ⟨ρ,?_⟩;rw [List.map_cons,dn];rw [show (([.val (gD ps),.val (.int who),.val (mD mv),.val s,c4,c5]:aD).set 4 (.val (.int i)))=[.val (gD ps),.val (.int who),.val (mD mv),.val s,.val (.int i),c5] from rfl,uM hl hi.1 hi.2 hm hs];rw [List.all_cons];cases hk:gQ ps who mv qs i with
    | true =>
      rw [if_pos rfl,R.ok_bind,cO,e];rfl
    | false=>rfl
theorem pP {ps:List P4} (hl:∀ p∈ps,p.ns.length<=100) {mv:List (Option Int)} {who:Int} (hm:mv.length=ps.length) {s:PyData} {qs:List Int} (hs:vJ s qs) (hq:∀ x∈qs,0<=x/\x < ps.length):bM [gD ps,.int who,mD mv,s]=.ok (.bool (qs.all (gQ ps who mv qs))):=by
  obtain ⟨ρ,e⟩:=uD hl hm (who:=who) hs qs .non .non hq;unfold bM gr;refine fW ?_;rw [show ([gD ps,.int who,mD mv,s].map bm.val++List.replicate (6 - [gD ps,.int who,mD mv,s].length) bm.non)=[.val (gD ps),.val (.int who),.val (mD mv),.val s,.non,.non] from rfl];unfold rG at e;have e':(fX (gG (dw (ae 3)) (aG 4) (aY (bo 5 (bf aP (ag (ae 0) (ag (ae 1) (ag (ae 2) (ag (ae 4) aC)))))) (j8 (vx (tE (e2 (iy) (ae 5) (fU aC))) (tE (e2 (pT) (bK (dw (ae 5)) 1 [3] (aG 0) (tE (e2 (jp true) (ae 0) (ae 1))) (ae 0)) (fU aC)))) (cW (eC (.bool false))) cK)))) [.val (gD ps),.val (.int who),.val (mD mv),.val s,.non,.non]=if qs.all (gQ ps who mv qs)=true then .ok (.nx ρ) else .ok (.rt (.bool false)):=by
    rw [dQ,eE,cq,aq,aq,aq,aw,R.ok_bind,hs.seq,R.ok_bind,e];split <;> rfl
  cases hk:qs.all (gQ ps who mv qs) with
  | true =>
    rw [hk,if_pos rfl] at e';rw [aJ e'];rfl
  | false =>
    rw [hk,if_neg (by simp)] at e';exact iL e'
noncomputable abbrev vN (f:Int->Option Int) (n:Nat):List (Option Int):=(ids n).map f
theorem qa {f:Int->Option Int} {n:Nat} {i:Int} (h0:0<=i) (h1:i < n):iR (vN f n) i=f i:=by
  unfold iR;rw [List.getElem?_map,mV (show i.toNat < n by omega)];show f _=f i;congr 1;omega
theorem sh {ps:List P4} {who:Int} {f:Int->Option Int} {i:Int} (h0:0<=i) (h1:i < ps.length):bP ps who (vN f ps.length) i=if ak ps i=who then (f i).toList else aH ps i:=by
  unfold bP;rw [qa h0 h1]
theorem xE (x:PyData) (xs:List PyData):vT (.list (x::xs)) (some 1) none=.ok (.list xs):=by
  show R.ok (PyData.list (D2.iH (x::xs) (some 1) none))=_;unfold D2.iH;have h1:HT.sIx (x::xs).length 0 (some 1)=1:=by
    unfold HT.sIx;simp
  have h2:HT.sIx (x::xs).length (x::xs).length none=(x::xs).length:=by
    unfold HT.sIx;simp
  rw [h1,h2];simp
inductive tm (W:Int->List Int) (al:List Int) (s:Int):Int->Prop
  | one {x:Int}:x∈W s->x∈al->tm W al s x
  | more {x y:Int}:tm W al s x->y∈W x->y∈al->tm W al s y
noncomputable def qS:Fs:=(aY (bo 7 (e2 cu (ae 6) (eC (.int 0)))) (aY (bo 6 (qq (ae 6) (e9 (eC (.int 1))) fq)) (j8 (gT (tE (e2 (jp false) (ae 7) (ae 4))) (tE (e2 (jp true) (ae 7) (fP 5)))) (aY (ij 5 (ae 7)) (bo 6 (e2 cA (ae 6) (bf aP (ag (ae 0) (ag (ae 1) (ag (ae 2) (ag (ae 7) aC)))))))) cK)))
noncomputable abbrev mR (ps:List P4) (who:Int) (mv:List (Option Int)) (st:Int) (al found todo:List Int) (c7:bm):aD :=
  [.val (gD ps),.val (.int who),.val (mD mv),.val (.int st),.val (.list (al.map .int)),.own (.list (found.map .int)),.val (.list (todo.map .int)),c7]
theorem vR (x:Int) (xs:List Int):cu (.list ((x::xs).map .int)) (.int 0)=.ok (.int x):=by
  rw [qP (by omega) (by simp)];rfl
theorem uL {ps:List P4} (hl:∀ p∈ps,p.ns.length<=100) {mv:List (Option Int)} {who:Int} (hm:mv.length=ps.length) {st:Int} {al found todo:List Int} {x:Int} (h0:x∈al->0<=x/\x < ps.length) (hf:found.length<=1000) (ht:todo.length<=1000000) (c7:bm) :
    qS (mR ps who mv st al found (x::todo) c7)=.ok (.nx (if x∈al/\x∉found then mR ps who mv st al (found++[x]) (todo++bP ps who mv x) (.val (.int x)) else mR ps who mv st al found todo (.val (.int x)))):=by
  unfold qS;rw [aJ (ρ':=mR ps who mv st al found (x::todo) (.val (.int x))) (by
    rw [bG,bE,aq,aq,aq,aq,aq,aq,aw,R.ok_bind,cQ,R.ok_bind,vR];rfl)]
  rw [aJ (ρ':=mR ps who mv st al found todo (.val (.int x))) (by
    rw [bG,kX,aq,aq,aq,aq,aq,aq,aw,R.ok_bind,hJ,cQ,R.ok_bind,nC,R.ok_bind,R.ok_bind,gU,R.ok_bind,List.map_cons,xE];rfl)]
  have htest:(gT (tE (e2 (jp false) (ae 7) (ae 4))) (tE (e2 (jp true) (ae 7) (fP 5)))) (mR ps who mv st al found todo (.val (.int x)))=.ok (cM al x&&!cM found x):=by
    simp only [k0,cP,bE,aq,aw,rj,rb,R.ok_bind,tS,cR];cases cM al x <;> rfl
  rw [c9,htest,R.ok_bind];by_cases hx:x∈al/\x∉found
  · have hb:(cM al x&&!cM found x)=true:=by
      rw [bx.mpr hx.1];cases hq:cM found x with
      | true=>exact absurd (bx.mp hq) hx.2
      | false=>rfl
    obtain ⟨b0,b1⟩:=h0 hx.1;have hwl:=ik hl (mv:=mv) (who:=who) b0 b1;rw [hb,if_pos rfl,if_pos hx];rw [aJ (ρ':=mR ps who mv st al (found++[x]) todo (.val (.int x))) (by
      rw [rW (ds:=found.map .int) _ rfl (by rw [List.length_map];exact Nat.lt_of_le_of_lt hf (by decide))];rw [aq,aq,aq,aq,aq,aq,aq,aw,dj,R.ok_bind];rw [show found.map PyData.int++[.int x]=(found++[x]).map .int by simp];rfl)]
    have hadd:cA (.list (todo.map .int)) (.list ((bP ps who mv x).map .int))=.ok (.list ((todo++bP ps who mv x).map .int)):=by
      show (if (todo.map PyData.int).length+((bP ps who mv x).map PyData.int).length<=sizeLine then R.ok (PyData.list _) else .no)=_;rw [if_pos (by rw [List.length_map,List.length_map];exact Nat.le_trans (show _<=1000100 by omega) (by decide)),List.map_append]
    rw [bG,bE,bz];simp only [aL,aU,aq,aw,R.ok_bind,mf b0 b1 hm,hadd];rfl
  · have hb:(cM al x&&!cM found x)=false:=by
      cases hq:cM al x with
      | false=>rfl
      | true =>
        cases hr:cM found x with
        | true=>rfl
        | false=>exact absurd ⟨bx.mp hq,fun z=>by rw [bx.mpr z] at hr;cases hr⟩ hx
    rw [hb,if_neg hx];rfl
structure nq (W:Int->List Int) (al:List Int) (st:Int) (found todo:List Int):Prop where
  nd:found.Nodup
  sub:∀ x∈found,x∈al
  rch:∀ x∈found,tm W al st x
  cand:∀ x∈todo,x∈al->tm W al st x
  first:∀ y∈W st,y∈al->y∈found\/y∈todo
  closed:∀ x∈found,∀ y∈W x,y∈al->y∈found\/y∈todo
theorem nq.skip {W:Int->List Int} {al:List Int} {st:Int} {found todo:List Int} {x:Int} (h:nq W al st found (x::todo)) (hx:¬ (x∈al/\x∉found)):nq W al st found todo:=by
  have drop:∀ y,y∈al->(y∈found\/y∈x::todo)->y∈found\/y∈todo:=fun y hy hq=>by
    rcases hq with z | z
    · exact .inl z
    · rcases List.mem_cons.mp z with rfl | z
      · left;exact Classical.byContradiction fun w=>hx ⟨hy,w⟩
      · exact .inr z
  exact ⟨h.nd,h.sub,h.rch,fun y hy=>h.cand y (List.mem_cons_of_mem _ hy),fun y h1 h2=>drop y h2 (h.first y h1 h2),fun z hz y h1 h2=>drop y h2 (h.closed z hz y h1 h2)⟩
theorem nq.take {W:Int->List Int} {al:List Int} {st:Int} {found todo:List Int} {x:Int} (h:nq W al st found (x::todo)) (hx:x∈al/\x∉found):nq W al st (found++[x]) (todo++W x):=by
  have hr:tm W al st x:=h.cand x List.mem_cons_self hx.1;have up:∀ y,(y∈found\/y∈x::todo)->y∈found++[x]\/y∈todo++W x:=fun y hq=>by
    rcases hq with z | z
    · exact .inl (List.mem_append_left _ z)
    · rcases List.mem_cons.mp z with rfl | z
      · exact .inl (List.mem_append_right _ List.mem_cons_self)
      · exact .inr (List.mem_append_left _ z)
  refine ⟨?_,fun y hy=>?_,fun y hy=>?_,fun y hy ha=>?_,fun y h1 h2=>up y (h.first y h1 h2),fun z hz y h1 h2=>?_⟩
  · rw [List.nodup_append];refine ⟨h.nd,by simp,fun a ha b hb e=>?_⟩;simp at hb;subst hb;subst e;exact hx.2 ha
  · rcases List.mem_append.mp hy with z | z
    · exact h.sub y z
    · simp at z;subst z;exact hx.1
  · rcases List.mem_append.mp hy with z | z
    · exact h.rch y z
    · simp at z;subst z;exact hr
  · rcases List.mem_append.mp hy with z | z
    · exact h.cand y (List.mem_cons_of_mem _ z) ha
    · exact .more hr z ha
  · rcases List.mem_append.mp hz with w | w
    · exact up y (h.closed z w y h1 h2)
    · simp at w;subst w;exact .inr (List.mem_append_right _ h1)
theorem nq.done {W:Int->List Int} {al:List Int} {st:Int} {found:List Int} (h:nq W al st found []) (x:Int):x∈found<->tm W al st x:=by
  refine ⟨h.rch x,fun hr=>?_⟩;induction hr with
  | one h1 h2 =>
    rcases h.first _ h1 h2 with z | z
    · exact z
    · cases z
  | more _ h1 h2 ih =>
    rcases h.closed _ ih _ h1 h2 with z | z
    · exact z
    · cases z
theorem iM:∀ {l m:List Int},l.Nodup->(∀ x∈l,x∈m)->l.length<=m.length
  | [],m,_,_=>Nat.zero_le _
  | x::l,m,nd,h=>by
    obtain ⟨n1,n2⟩:=List.nodup_cons.mp nd;have hx:=h x List.mem_cons_self;have:=iM (m:=m.erase x) n2 fun y hy=>(List.mem_erase_of_ne (by rintro rfl;exact n1 hy)).mpr (h y (List.mem_cons_of_mem _ hy))
    rw [List.length_erase_of_mem hx] at this;have hp:=List.length_pos_of_mem hx;rw [List.length_cons];omega
theorem jN (t:aD->R Bool) (g:Fs) (n:Nat) (ρ:aD):cx t g (n+1) ρ=(t ρ>>=fun b=>if b=true then g ρ>>=nH (cx t g n) else .ok (.nx ρ)):=by
  rw [cx];congr 1
theorem uQ {ps:List P4} (hl:∀ p∈ps,p.ns.length<=100) {mv:List (Option Int)} {who:Int} (hm:mv.length=ps.length) {st:Int} {al:List Int} (ha:∀ x∈al,0<=x/\x < ps.length) (hal:al.length<=100):∀ (n:Nat) (found todo:List Int) (c7:bm),nq (bP ps who mv) al st found todo->todo.length+(al.length-found.length)*101+1<=n->n<=1000000 ->
    ∃ (rs:List Int) (c7':bm),(∀ x,x∈rs<->tm (bP ps who mv) al st x)/\cx (tE (e2 (pT) (ae 6) (fU aC))) qS n (mR ps who mv st al found todo c7)=.ok (.nx (mR ps who mv st al rs [] c7'))
  | 0,found,todo,c7,_,h,_=>by omega
  | n+1,found,[],c7,I,h,hn=>by
    refine ⟨found,c7,fun x=>I.done x,?_⟩;rw [jN];have n0:=uh ([]:List Int) [];simp only [List.map_nil] at n0;simp [n0]
  | n+1,found,x::todo,c7,I,h,hn=>by
    have hfl:=iM I.nd I.sub;rw [List.length_cons] at h;have n0:=uh (x::todo) [];simp only [List.map_nil] at n0;have htest:tE (e2 (pT) (ae 6) (fU aC)) (mR ps who mv st al found (x::todo) c7)=.ok true:=by
      simp only [cP,bE,aq,aw,jZ,aU,R.ok_bind,List.length_nil];rw [if_pos (Nat.zero_le _),R.ok_bind,n0,R.ok_bind];rfl
    rw [jN,htest,R.ok_bind,if_pos rfl,uL hl hm (ha x) (by omega) (by omega),R.ok_bind,cO];by_cases hx:x∈al/\x∉found
    · rw [if_pos hx];have hwl:=ik hl (mv:=mv) (who:=who) (ha x hx.1).1 (ha x hx.1).2;have I':=I.take hx;have hfl':=iM I'.nd I'.sub;rw [List.length_append] at hfl';simp only [List.length_cons,List.length_nil] at hfl';exact uQ hl hm ha hal n (found++[x]) (todo++bP ps who mv x) (.val (.int x)) I' (by
        rw [List.length_append,List.length_append];simp only [List.length_cons,List.length_nil];have e:(al.length-found.length)=(al.length-(found.length+1))+1:=by omega
        rw [e,Nat.add_mul] at h;simp only [Nat.zero_add];omega) (by omega)
    · rw [if_neg hx];exact uQ hl hm ha hal n found todo (.val (.int x)) (I.skip hx) (by omega) (by omega)
theorem pN {ps:List P4} (hl:∀ p∈ps,p.ns.length<=100) {mv:List (Option Int)} {who:Int} (hm:mv.length=ps.length) {st:Int} (s0:0<=st) (s1:st < ps.length) {al:List Int} (ha:∀ x∈al,0<=x/\x < ps.length) (hal:al.length<=100) :
    ∃ rs:List Int,br [gD ps,.int who,mD mv,.int st,.list (al.map .int)]=.ok (.list (rs.map .int))/\∀ x,x∈rs<->tm (bP ps who mv) al st x:=by
  have hwl:=ik hl (mv:=mv) (who:=who) s0 s1;obtain ⟨rs,c7,h1,h2⟩:=uQ hl hm (who:=who) (st:=st) ha hal 1000000 [] (bP ps who mv st) .non ⟨by simp,by simp,by simp,fun x hx hy=>.one hx hy,fun y hy _=>.inr hy,by simp⟩ (by simp;omega) (Nat.le_refl _);refine ⟨rs,?_,h1⟩;unfold br fw;refine fW ?_;rw [show ([gD ps,.int who,mD mv,.int st,.list (al.map .int)].map bm.val++List.replicate (8 - [gD ps,.int who,mD mv,.int st,.list (al.map .int)].length) bm.non)=[.val (gD ps),.val (.int who),.val (mD mv),.val (.int st),.val (.list (al.map .int)),.non,.non,.non] from rfl];rw [aJ (ρ':=[.val (gD ps),.val (.int who),.val (mD mv),.val (.int st),.val (.list (al.map .int)),.own (.list []),.non,.non]) (by
    rw [qT,jZ,aU,R.ok_bind,if_pos (show ([]:List PyData).length<=sizeLine from Nat.zero_le _)];rfl)]
  rw [aJ (ρ':=mR ps who mv st al [] (bP ps who mv st) .non) (by
    rw [bG,bz];simp only [aL,aU,aq,aw,R.ok_bind,mf s0 s1 hm];rfl)]
  rw [aJ (ρ':=mR ps who mv st al rs [] c7) (by
    rw [dQ];unfold qS at h2;show lb (cx _ _ 1000000 _)=_;rw [h2];rfl)]
  rfl
theorem jX {ps:List P4} (G:Gr ps) {w:Int} {mv:Int->Option Int} {i g:Int} (h0:0<=i) (h1:i < ps.length):g∈bP ps w (vN mv ps.length) i<->Wy ps (ids ps.length) w mv i g:=by
  rw [sh h0 h1];unfold Wy;by_cases ho:ak ps i=w
  · rw [if_pos ho];simp [ho,Option.mem_toList]
  · rw [if_neg ho];constructor
    · exact fun h=>.inr ⟨ho,dL h (cb.mpr (G.goals h))⟩
    · rintro (⟨z,_⟩ | ⟨_,z⟩)
      · exact (ho z).elim
      · exact cV z
theorem uZ {ps:List P4} (G:Gr ps) {w:Int} {mv:Int->Option Int} {qs:List Int} (hq:∀ x∈qs,0<=x/\x < ps.length) (hs:∀ i∈qs,∀ g,Wy ps (ids ps.length) w mv i g->g∈qs) (hx:∀ i∈qs,ak ps i=w->∃ g,mv i=some g):qs.all (gQ ps w (vN mv ps.length) qs)=true:=by
  rw [List.all_eq_true];intro i hi;obtain ⟨h0,h1⟩:=hq i hi;unfold gQ;rw [Bool.and_eq_true];constructor
  · rw [Bool.not_eq_true',decide_eq_false_iff_not];intro z;by_cases ho:ak ps i=w
    · obtain ⟨g,hg⟩:=hx i hi ho;have:=(jX G h0 h1).mpr (show Wy ps (ids ps.length) w mv i g from .inl ⟨ho,hg⟩);rw [z] at this;cases this
    · obtain ⟨g,hg⟩:=G.gne h0 h1;have:=(jX G h0 h1).mpr (show Wy ps (ids ps.length) w mv i g from .inr ⟨ho,dL hg (cb.mpr (G.goals hg))⟩);rw [z] at this;cases this
  · rw [decide_eq_true_iff,List.filter_eq_nil_iff];intro g hg;rw [bx.mpr (hs i hi g ((jX G h0 h1).mp hg))];simp
theorem uz {W:Int->List Int} {al:List Int} {s x:Int} (h:tm W al s x):x∈al:=by cases h <;> assumption
noncomputable def cB (p:Prop):Bool:=@decide p (Classical.propDecidable p)
theorem qt {p:Prop} (h:p):cB p=true:=@decide_eq_true p (Classical.propDecidable p) h
theorem jf {p:Prop} (h:¬ p):cB p=false:=@decide_eq_false p (Classical.propDecidable p) h
noncomputable def lj (ps:List P4) (qs:List Int) (i:Int):List Int:=qs.filter fun j=>decide (ai ps j<=ai ps i)
noncomputable def pe (ps:List P4) (w:Int) (mv:List (Option Int)) (qs:List Int) (i:Int):Prop:=ai ps i%2≠w/\tm (bP ps w mv) (lj ps qs i) i i
noncomputable def jo (ps:List P4) (w:Int) (mv:List (Option Int)) (qs:List Int):Bool:=qs.all (gQ ps w mv qs)&&qs.all fun i=>!cB (pe ps w mv qs i)
noncomputable def kz:Fs:=(aY (bo 5 (bK (dw (ae 3)) 1 [0,4] (aG 0) (tE (e2 (kB Bg) (e2 cu (e2 cu (ae 1) (ae 0)) (eC (.int 1))) (e2 cu (e2 cu (ae 1) (ae 2)) (eC (.int 1))))) (ae 0))) (aY (bo 6 (bf br (ag (ae 0) (ag (ae 1) (ag (ae 2) (ag (ae 4) (ag (ae 5) aC))))))) (j8 (gT (tE (e2 (pT) (e2 ej (e2 cu (e2 cu (ae 0) (ae 4)) (eC (.int 1))) (eC (.int 2))) (ae 1))) (tE (e2 (jp false) (ae 4) (ae 6)))) (cW (eC (.bool false))) cK)))
section
variable {ps:List P4} (G:Gr ps) {mv:List (Option Int)} (hm:mv.length=ps.length) {w:Int} {s:PyData} {qs:List Int} (hs:vJ s qs) (hq:∀ x∈qs,0<=x/\x < ps.length) (hql:qs.length<=100)
include G hm hs hq hql
theorem qp:∀ (is:List Int) (c4 c5 c6:bm),(∀ x∈is,x∈qs) ->
    ∃ ρ,dA (aG 4) kz (is.map .int) [.val (gD ps),.val (.int w),.val (mD mv),.val s,c4,c5,c6]=if (is.all fun i=>!cB (pe ps w mv qs i))=true then .ok (.nx ρ) else .ok (.rt (.bool false))
  | [],c4,c5,c6,_=>⟨_,by rw [List.map_nil,dt];rfl⟩
  | i::is,c4,c5,c6,hb=>by
    have hi:=hb i List.mem_cons_self;obtain ⟨h0,h1⟩:=hq i hi;have hp:=G.hp;have hlow:=dW (t:=tE (e2 (kB Bg) (e2 cu (e2 cu (ae 1) (ae 0)) (eC (.int 1))) (e2 cu (e2 cu (ae 1) (ae 2)) (eC (.int 1))))) (ρ:=[.val (gD ps),.val (.int i)]) (p:=fun j=>decide (ai ps j<=ai ps i)) qs fun j hj=>by
      obtain ⟨j0,j1⟩:=hq j hj;simp only [List.set_cons_zero,cP,bE,aw,aq,cQ,R.ok_bind,lV j0 j1,lV h0 h1,k7,pF,cR];rw [<- cT j0 j1,<- cT h0 h1]
    rw [show (qs.filter fun j=>decide (ai ps j<=ai ps i))=lj ps qs i from rfl] at hlow;have lin:∀ x∈lj ps qs i,0<=x/\x < ps.length:=fun x hx=>hq x (List.mem_filter.mp hx).1
    have ll:(lj ps qs i).length<=100:=Nat.le_trans (List.length_filter_le ..) hql;obtain ⟨rs,r1,r2⟩:=pN G.hl (who:=w) (mv:=mv) hm h0 h1 (al:=lj ps qs i) lin ll;obtain ⟨ρ,e⟩:=qp is (.val (.int i)) (.val (.list ((lj ps qs i).map .int))) (.val (.list (rs.map .int))) fun x hx=>hb x (List.mem_cons_of_mem _ hx)
    refine ⟨ρ,?_⟩;rw [List.map_cons,dn];rw [show (([.val (gD ps),.val (.int w),.val (mD mv),.val s,c4,c5,c6]:aD).set 4 (.val (.int i)))=[.val (gD ps),.val (.int w),.val (mD mv),.val s,.val (.int i),c5,c6] from rfl];have hb1:∀ k:Bool,k=cB (pe ps w mv qs i)->kz [.val (gD ps),.val (.int w),.val (mD mv),.val s,.val (.int i),c5,c6]=if k=true then .ok (.rt (.bool false)) else .ok (.nx [.val (gD ps),.val (.int w),.val (mD mv),.val s,.val (.int i),.val (.list ((lj ps qs i).map .int)),.val (.list (rs.map .int))]):=fun k hk=>by
      unfold kz;rw [aJ (ρ':=[.val (gD ps),.val (.int w),.val (mD mv),.val s,.val (.int i),.val (.list ((lj ps qs i).map .int)),c6]) (by
        rw [bG,cf,show aA 1 [0,4] [.val (gD ps),.val (.int w),.val (mD mv),.val s,.val (.int i),c5,c6]=[.non,.val (gD ps),.val (.int i)] from rfl];simp only [cq,aw,aq,R.ok_bind,hs.seq,dj];rw [if_pos (by rw [List.length_map];exact ca (by omega)),hlow];rfl)]
      rw [aJ (ρ':=[.val (gD ps),.val (.int w),.val (mD mv),.val s,.val (.int i),.val (.list ((lj ps qs i).map .int)),.val (.list (rs.map .int))]) (by
        simp only [bG,bz,aL,aU,aw,aq,R.ok_bind,r1];rfl)]
      simp only [c9,k0,cP,bE,aw,aq,cQ,R.ok_bind,lV h0 h1,k7,pX];rw [if_pos (by decide),R.ok_bind,Ae,R.ok_bind,cR,R.ok_bind,<- cT h0 h1];by_cases hne:ai ps i%2=w
      · have:k=false:=by rw [hk];exact jf fun z=>z.1 hne
        rw [decide_eq_true hne,this];rfl
      · rw [decide_eq_false hne];simp only [Bool.not_false,if_true,tS,R.ok_bind,cR];by_cases hr:i∈rs
        · have:k=true:=by rw [hk];exact qt ⟨hne,(r2 i).mp hr⟩
          rw [bx.mpr hr,this];rfl
        · have:k=false:=by rw [hk];exact jf fun z=>hr ((r2 i).mpr z.2)
          have hmf:cM rs i=false:=by
            cases h:cM rs i with
            | false=>rfl
            | true=>exact (hr (bx.mp h)).elim
          rw [hmf,this];rfl
    rw [hb1 _ rfl,List.all_cons];by_cases hz:pe ps w mv qs i
    · rw [qt hz];rfl
    · rw [jf hz];simp only [Bool.false_eq_true,if_false,R.ok_bind,cO,Bool.not_false,Bool.true_and];exact e
theorem uc:aF [gD ps,.int w,mD mv,s]=.ok (.bool (jo ps w mv qs)):=by
  obtain ⟨ρ,e⟩:=qp G hm hs hq hql (w:=w) qs .non .non .non fun x hx=>hx
  have hin:=pP G.hl (mv:=mv) (who:=w) hm hs hq;unfold aF cZ;refine fW ?_;rw [show ([gD ps,.int w,mD mv,s].map bm.val++List.replicate (7 - [gD ps,.int w,mD mv,s].length) bm.non)=[.val (gD ps),.val (.int w),.val (mD mv),.val s,.non,.non,.non] from rfl];unfold jo;cases hk:qs.all (gQ ps w mv qs) with
  | false =>
    rw [hk] at hin;refine iL ?_;simp only [c9,n6,cP,bz,aL,aU,aw,aq,R.ok_bind,hin,cR];rfl
  | true =>
    rw [hk] at hin;rw [aJ (ρ':=[.val (gD ps),.val (.int w),.val (mD mv),.val s,.non,.non,.non]) (by
      simp only [c9,n6,cP,bz,aL,aU,aw,aq,R.ok_bind,hin,cR];rfl)]
    have e':(fX (gG (dw (ae 3)) (aG 4) kz)) [.val (gD ps),.val (.int w),.val (mD mv),.val s,.non,.non,.non]=if (qs.all fun i=>!cB (pe ps w mv qs i))=true then .ok (.nx ρ) else .ok (.rt (.bool false)):=by
      rw [dQ,eE,cq];simp only [aw,aq,R.ok_bind,hs.seq,e];split <;> rfl
    unfold kz at e';cases hz:qs.all fun i=>!cB (pe ps w mv qs i) with
    | true =>
      rw [hz,if_pos rfl] at e';rw [aJ e'];rfl
    | false =>
      rw [hz,if_neg (by simp)] at e';rw [iL e'];rfl
end
theorem AY:∀ ds:List PyData,D2.iH ds none (some 3)=ds.take 3
  | []=>rfl
  | [a]=>rfl
  | [a,b]=>rfl
  | a::b::c::ds=>pZ (e:=3) (by simp)
noncomputable def xi (p:P4):P4:=⟨p.w,p.m,p.g,p.ns.take 3⟩
theorem xb {c hi:Int} {p:P4} (h:Pl c hi p):Pl c hi (xi p):=by
  refine ⟨h.w0,h.w1,h.m0,h.m1,h.g0,h.g1,fun z=>?_,h.so.sublist (List.take_sublist ..),fun x hx=>h.inn x (List.mem_of_mem_take hx)⟩;have:p.ns.take 3=[]:=z;rcases List.take_eq_nil_iff.mp this with q | q
  · omega
  · exact h.ne q
theorem kO:∀ ps:List P4,bW (aG 0) (fun _=>.ok true) (e2 cA (qq (ae 0) fq (e9 (eC (.int 3)))) (gX (ag (qq (e2 cu (ae 0) (eC (.int 3))) fq (e9 (eC (.int 3)))) aC))) [.non] (ps.map P4.d)=.ok ((ps.map xi).map P4.d)
  | []=>rfl
  | p::ps=>by
    have h:(e2 cA (qq (ae 0) fq (e9 (eC (.int 3)))) (gX (ag (qq (e2 cu (ae 0) (eC (.int 3))) fq (e9 (eC (.int 3)))) aC))) [.val p.d]=.ok (xi p).d:=by
      have h1:vT p.d none (some 3)=.ok (.tuple [.int p.w,.int p.m,.int p.g]):=by
        show R.ok (PyData.tuple (D2.iH _ none (some 3)))=_;rw [AY];rfl
      simp only [bE,kX,ib,aL,aU,gU,hJ,aw,cQ,R.ok_bind,nC,nr,h1,rq,AY,List.length_cons,List.length_nil];rw [if_pos (by show 1<=_;decide),R.ok_bind,mU,if_pos (by show 4<=_;decide),<- List.map_take];rfl
    rw [List.map_cons,cG,kO ps];rw [show (([.non]:aD).set 0 (.val p.d))=[.val p.d] from rfl,h];rfl
noncomputable def nv (ps:List P4) (w:Int) (qs:List Int) (i:Int):List (Option Int):=if i∈qs/\ak ps i=w then ((aH ps i).filter (cM qs)).map some else [none]
noncomputable def k5 (c:List (Option Int)) (ws:List (Option Int)):List (List (Option Int)):=ws.map fun x=>c++[x]
noncomputable def fB (ps:List P4) (w:Int) (qs:List Int):Nat->List (List (Option Int))
  | 0=>[[]]
  | k+1=>(fB ps w qs k).flatMap fun c=>k5 c (nv ps w qs k)
theorem mz {ps:List P4} {w:Int} {qs:List Int}:∀ k,∀ c∈fB ps w qs k,c.length=k
  | 0,c,h=>by
    have:c=[]:=by simpa [fB] using h
    rw [this];rfl
  | k+1,c,h=>by
    obtain ⟨d,hd,hc⟩:=List.mem_flatMap.mp h;obtain ⟨x,_,rfl⟩:=List.mem_map.mp hc;rw [List.length_append,mz k d hd];rfl
theorem nO {α β:Type} {f:α->List β} {b:Nat} (hb:∀ a,(f a).length<=b):∀ l:List α,(l.flatMap f).length<=l.length*b
  | []=>by simp
  | a::l=>by
    rw [List.flatMap_cons,List.length_append,List.length_cons,Nat.succ_mul];have:=nO hb l;have:=hb a;omega
theorem kR {ps:List P4} {w:Int} {qs:List Int} (h3:∀ i,(aH ps i).length<=3):∀ k,(fB ps w qs k).length<=3 ^ k
  | 0=>Nat.le_refl 1
  | k+1=>by
    have ih:=kR (w:=w) (qs:=qs) h3 k;have hw:∀ c:List (Option Int),(k5 c (nv ps w qs k)).length<=3:=fun c=>by
      unfold k5 nv;rw [List.length_map];split
      · rw [List.length_map];exact Nat.le_trans (List.length_filter_le ..) (h3 _)
      · decide
    have:=nO hw (fB ps w qs k);show ((fB ps w qs k).flatMap _).length<=_;rw [Nat.pow_succ];have:=Nat.mul_le_mul_right 3 ih;omega
theorem uH (k:Nat):ids (k+1)=ids k++[(k:Int)]:=by
  unfold ids;rw [List.range_succ,List.map_append];rfl
theorem qH {ps:List P4} {w:Int} {qs:List Int} {f:Int->Option Int} {n:Nat} (hf:∀ i:Int,0<=i->i < n->f i∈nv ps w qs i):∀ k,k<=n->vN f k∈fB ps w qs k
  | 0,_=>by simp [fB,ids]
  | k+1,h=>by
    refine List.mem_flatMap.mpr ⟨vN f k,qH hf k (by omega),List.mem_map.mpr ⟨f k,hf k (by omega) (by omega),?_⟩⟩;show _=(ids (k+1)).map f;rw [uH,List.map_append];rfl
theorem AI {n:Nat} (h:n<=1000):kP [.int (n:Int)]=.ok (bL 0 n):=by
  have e:kP [.int (n:Int)]=if -(2 ^ 62)<=(n:Int)/\(n:Int) < 2 ^ 62 then .ok (bL 0 (n:Int).toNat) else .no:=rfl
  rw [e,if_pos (by omega),Int.toNat_natCast]
noncomputable def A8:Fs:=(bo 6 (e2 cA (ae 6) (bK (dw (ae 5)) 1 [7] (aG 0) (fun _=>.ok true) (e2 cA (ae 1) (gX (ag (ae 0) aC))))))
noncomputable def lD (cs:List (List (Option Int))):PyData:=.list (cs.map mD)
section
variable {ps:List P4} {w:Int} {s:PyData}
theorem qL {ws:List (Option Int)} {c3 c4:bm}:∀ (cs acc:List (List (Option Int))) (c7:bm),(∀ c∈cs,c.length<=100)->ws.length<=100->acc.length+(cs.flatMap fun c=>k5 c ws).length<=1000 ->
    ∃ c7',dA (aG 7) A8 (cs.map mD) [.val (gD ps),.val (.int w),.val s,c3,c4,.val (.list (ws.map gn)),.val (lD acc),c7]=.ok (.nx [.val (gD ps),.val (.int w),.val s,c3,c4,.val (.list (ws.map gn)),.val (lD (acc++cs.flatMap fun c=>k5 c ws)),c7'])
  | [],acc,c7,_,_,_=>⟨c7,by rw [List.map_nil,dt];simp⟩
  | c::cs,acc,c7,hl,hw,hn=>by
    rw [List.flatMap_cons,List.length_append] at hn;have hal:(k5 c ws).length=ws.length:=List.length_map ..;have hcl:=hl c List.mem_cons_self;obtain ⟨c7',e⟩:=qL (ws:=ws) (c3:=c3) (c4:=c4) cs (acc++k5 c ws) (.val (mD c)) (fun d hd=>hl d (List.mem_cons_of_mem _ hd)) hw (by rw [List.length_append];omega);refine ⟨c7',?_⟩;have hc:∀ xs:List (Option Int),bW (aG 0) (fun _=>.ok true) (e2 cA (ae 1) (gX (ag (ae 0) aC))) [.non,.val (mD c)] (xs.map gn)=.ok ((k5 c xs).map mD):=by
      intro xs;induction xs with
      | nil=>rfl
      | cons x xs ih =>
        rw [List.map_cons,cG,ih];have h1:(e2 cA (ae 1) (gX (ag (ae 0) aC))) [.val (gn x),.val (mD c)]=.ok (mD (c++[x])):=by
          simp only [bE,ib,aL,aU,aw,aq,R.ok_bind,List.length_cons,List.length_nil];rw [if_pos (by show 1<=_;decide),R.ok_bind,mU,if_pos (by rw [List.length_map];exact ca (by simp;omega))];show R.ok (PyData.tuple _)=R.ok (PyData.tuple _);rw [List.map_append];rfl
        rw [show (([.non,.val (mD c)]:aD).set 0 (.val (gn x)))=[.val (gn x),.val (mD c)] from rfl,h1];rfl
    rw [List.map_cons,dn];rw [show (([.val (gD ps),.val (.int w),.val s,c3,c4,.val (.list (ws.map gn)),.val (lD acc),c7]:aD).set 7 (.val (mD c)))=[.val (gD ps),.val (.int w),.val s,c3,c4,.val (.list (ws.map gn)),.val (lD acc),.val (mD c)] from rfl];have hb:A8 [.val (gD ps),.val (.int w),.val s,c3,c4,.val (.list (ws.map gn)),.val (lD acc),.val (mD c)]=.ok (.nx [.val (gD ps),.val (.int w),.val s,c3,c4,.val (.list (ws.map gn)),.val (lD (acc++k5 c ws)),.val (mD c)]):=by
      unfold A8;rw [bG,bE,cf,show aA 1 [7] [.val (gD ps),.val (.int w),.val s,c3,c4,.val (.list (ws.map gn)),.val (lD acc),.val (mD c)]=[.non,.val (mD c)] from rfl];simp only [cq,aq,aw,R.ok_bind,o9,dj];rw [if_pos (by rw [List.length_map];exact ca (by omega)),hc,qZ,R.ok_bind];unfold lD;rw [zm,if_pos (by rw [List.length_map,List.length_map,hal];exact ca (by omega)),R.ok_bind,<- List.map_append];rfl
    rw [hb,R.ok_bind,cO,e,List.append_assoc,List.flatMap_cons]
end
noncomputable def Bh:Fs:=(aY (bo 5 (fU (ag (eC .none) aC))) (aY (j8 (gT (tE (e2 (jp false) (ae 4) (ae 2))) (tE (e2 (iy) (e2 cu (e2 cu (ae 0) (ae 4)) (eC (.int 0))) (ae 1)))) (bo 5 (bK (dw (e2 cu (e2 cu (ae 0) (ae 4)) (eC (.int 3)))) 1 [2] (aG 0) (tE (e2 (jp false) (ae 0) (ae 1))) (ae 0))) cK) (aY (bo 6 (fU aC)) (aY (fX (gG (dw (ae 3)) (aG 7) A8)) (bo 3 (ae 6))))))
section
variable {ps:List P4} (G:Gr ps) (h3:∀ i,(aH ps i).length<=3) (hp5:ps.length<=5) {w:Int} {qs:List Int}
include G h3 hp5
theorem rl:∀ (m k:Nat) (c4 c5 c6 c7:bm),k+m=ps.length ->
    ∃ c4' c5' c6' c7',dA (aG 4) Bh ((tR k m).map .int) [.val (gD ps),.val (.int w),.val (.list (qs.map .int)),.val (lD (fB ps w qs k)),c4,c5,c6,c7]=.ok (.nx [.val (gD ps),.val (.int w),.val (.list (qs.map .int)),.val (lD (fB ps w qs ps.length)),c4',c5',c6',c7'])
  | 0,k,c4,c5,c6,c7,h=>⟨c4,c5,c6,c7,by rw [show (tR k 0).map PyData.int=[] from rfl,dt,show k=ps.length by omega]⟩
  | m+1,k,c4,c5,c6,c7,h=>by
    have h0:(0:Int)<=k:=by omega
    have h1:((k:Nat):Int) < ps.length:=by omega
    have hsz:=kR (w:=w) (qs:=qs) h3 (k+1);have hpw:3 ^ (k+1)<=3 ^ 5:=Nat.pow_le_pow_right (by decide) (by omega);have hsz0:=kR (w:=w) (qs:=qs) h3 k;have hpw0:3 ^ k<=3 ^ 5:=Nat.pow_le_pow_right (by decide) (by omega);have e35:(3:Nat) ^ 5=243:=by decide
    have hwl:(nv ps w qs k).length<=100:=by
      unfold nv;split
      · rw [List.length_map];have:=List.length_filter_le (cM qs) (aH ps k);have:=h3 k;omega
      · decide
    obtain ⟨d7,e⟩:=qL (ps:=ps) (w:=w) (s:=.list (qs.map .int)) (ws:=nv ps w qs k) (c3:=.val (lD (fB ps w qs k))) (c4:=.val (.int k)) (fB ps w qs k) [] c7 (fun c hc=>by rw [mz k c hc];omega) hwl (by
      have:((fB ps w qs k).flatMap fun c=>k5 c (nv ps w qs k)).length=(fB ps w qs (k+1)).length:=rfl;rw [this];simp;omega)
    rw [List.nil_append,show ((fB ps w qs k).flatMap fun c=>k5 c (nv ps w qs k))=fB ps w qs (k+1) from rfl] at e;obtain ⟨c4',c5',c6',c7',f⟩:=rl m (k+1) (.val (.int k)) (.val (.list ((nv ps w qs k).map gn))) (.val (lD (fB ps w qs (k+1)))) d7 (by omega);refine ⟨c4',c5',c6',c7',?_⟩;rw [nU,List.map_cons,dn];rw [show (([.val (gD ps),.val (.int w),.val (.list (qs.map .int)),.val (lD (fB ps w qs k)),c4,c5,c6,c7]:aD).set 4 (.val (.int k)))=[.val (gD ps),.val (.int w),.val (.list (qs.map .int)),.val (lD (fB ps w qs k)),.val (.int k),c5,c6,c7] from rfl];have hws:∃ c5'',(bo 5 (fU (ag (eC .none) aC)) [.val (gD ps),.val (.int w),.val (.list (qs.map .int)),.val (lD (fB ps w qs k)),.val (.int k),c5,c6,c7]=.ok (.nx [.val (gD ps),.val (.int w),.val (.list (qs.map .int)),.val (lD (fB ps w qs k)),.val (.int k),c5'',c6,c7]))/\(j8 (gT (tE (e2 (jp false) (ae 4) (ae 2))) (tE (e2 (iy) (e2 cu (e2 cu (ae 0) (ae 4)) (eC (.int 0))) (ae 1)))) (bo 5 (bK (dw (e2 cu (e2 cu (ae 0) (ae 4)) (eC (.int 3)))) 1 [2] (aG 0) (tE (e2 (jp false) (ae 0) (ae 1))) (ae 0))) cK) [.val (gD ps),.val (.int w),.val (.list (qs.map .int)),.val (lD (fB ps w qs k)),.val (.int k),c5'',c6,c7]=.ok (.nx [.val (gD ps),.val (.int w),.val (.list (qs.map .int)),.val (lD (fB ps w qs k)),.val (.int k),.val (.list ((nv ps w qs k).map gn)),c6,c7]):=by
      refine ⟨.val (.list [.none]),rfl,?_⟩;have htest:(gT (tE (e2 (jp false) (ae 4) (ae 2))) (tE (e2 (iy) (e2 cu (e2 cu (ae 0) (ae 4)) (eC (.int 0))) (ae 1)))) [.val (gD ps),.val (.int w),.val (.list (qs.map .int)),.val (lD (fB ps w qs k)),.val (.int k),.val (.list [.none]),c6,c7]=.ok (decide ((k:Int)∈qs/\ak ps k=w)):=by
        rw [k0,cP,cP];simp only [bE,aq,aw,cQ,R.ok_bind,tS,cR,lV h0 h1,mN,hW];rw [<- eN h0 h1];by_cases a:(k:Int)∈qs
        · have hm:cM qs (k:Int)=true:=bx.mpr a;rw [hm];simp [a]
        · have hm:cM qs (k:Int)=false:=by
            cases hm:cM qs (k:Int) with
            | false=>rfl
            | true=>exact (a (bx.mp hm)).elim
          rw [hm];simp [a]
      rw [c9,htest,R.ok_bind];by_cases z:(k:Int)∈qs/\ak ps k=w
      · have hfl:=dW (t:=tE (e2 (jp false) (ae 0) (ae 1))) (ρ:=[.val (.list (qs.map .int))]) (p:=fun j=>cM qs j) (aH ps k) fun j hj=>by
          simp only [List.set_cons_zero,cP,bE,aw,aq,R.ok_bind,tS,cR];rfl
        rw [if_pos (decide_eq_true z),bG,cf,show aA 1 [2] [.val (gD ps),.val (.int w),.val (.list (qs.map .int)),.val (lD (fB ps w qs k)),.val (.int k),.val (.list [.none]),c6,c7]=[.non,.val (.list (qs.map .int))] from rfl];simp only [cq,bE,aq,aw,cQ,R.ok_bind,lV h0 h1,nr,gx,dj];rw [<- eO h0 h1,if_pos (by rw [List.length_map];exact ca (by have:=h3 k;omega)),hfl];unfold nv;rw [if_pos z,List.map_map];rfl
      · rw [if_neg (by rw [decide_eq_false z];simp)];unfold nv;rw [if_neg z];rfl
    obtain ⟨c5'',s1,s2⟩:=hws;have hb:Bh [.val (gD ps),.val (.int w),.val (.list (qs.map .int)),.val (lD (fB ps w qs k)),.val (.int k),c5,c6,c7]=.ok (.nx [.val (gD ps),.val (.int w),.val (.list (qs.map .int)),.val (lD (fB ps w qs (k+1))),.val (.int k),.val (.list ((nv ps w qs k).map gn)),.val (lD (fB ps w qs (k+1))),d7]):=by
      unfold Bh;rw [aJ s1,aJ s2];rw [aJ (ρ':=[.val (gD ps),.val (.int w),.val (.list (qs.map .int)),.val (lD (fB ps w qs k)),.val (.int k),.val (.list ((nv ps w qs k).map gn)),.val (lD []),c7]) (by rfl)];rw [aJ (ρ':=[.val (gD ps),.val (.int w),.val (.list (qs.map .int)),.val (lD (fB ps w qs k)),.val (.int k),.val (.list ((nv ps w qs k).map gn)),.val (lD (fB ps w qs (k+1))),d7]) (by
        rw [dQ,eE,cq];rw [show ae 3 [.val (gD ps),.val (.int w),.val (.list (qs.map .int)),.val (lD (fB ps w qs k)),.val (.int k),.val (.list ((nv ps w qs k).map gn)),.val (lD []),c7]=.ok (lD (fB ps w qs k)) from rfl,R.ok_bind];rw [show jy (lD (fB ps w qs k))=.ok ((fB ps w qs k).map mD) from rfl,R.ok_bind,e];rfl)]
      rfl
    rw [hb,R.ok_bind,cO,f]
theorem pH:bu [gD ps,.int w,.list (qs.map .int)]=.ok (lD (fB ps w qs ps.length)):=by
  obtain ⟨c4,c5,c6,c7,e⟩:=rl G h3 hp5 (w:=w) (qs:=qs) ps.length 0 .non .non .non .non (by omega);have hlen:gt (gD ps)=.ok (.int ps.length):=by simp
  have hr1:kP [.int (ps.length:Int)]=.ok (bL 0 ps.length):=by
    show kP [.int ((ps.length:Nat):Int)]=_;rw [AI (by omega)]
  rw [qM] at e;unfold bu fG;refine fW ?_;rw [show ([gD ps,.int w,.list (qs.map .int)].map bm.val++List.replicate (8 - [gD ps,.int w,.list (qs.map .int)].length) bm.non)=[.val (gD ps),.val (.int w),.val (.list (qs.map .int)),.non,.non,.non,.non,.non] from rfl];rw [aJ (ρ':=[.val (gD ps),.val (.int w),.val (.list (qs.map .int)),.val (lD (fB ps w qs 0)),.non,.non,.non,.non]) (by rfl)];rw [aJ (ρ':=[.val (gD ps),.val (.int w),.val (.list (qs.map .int)),.val (lD (fB ps w qs ps.length)),c4,c5,c6,c7]) (by
    rw [dQ,eE,lC];simp only [aL,aU,fT,aw,R.ok_bind,hlen,hr1];rw [kq];unfold Bh A8 at e;rw [e];rfl)]
  rfl
end
theorem wb {W:Int->List Int} {al:List Int} {s x:Int} {E:Int->Int->Prop} {A:Int->Prop} (h:tm W al s x) (hs:∀ y,y∈W s->y∈al->E s y/\A y) (hx:∀ x,x∈al->∀ y,y∈W x->y∈al->E x y/\A y):gI E A s x:=by
  induction h with
  | one a b=>exact .one (hs _ a b).1 (hs _ a b).2
  | more r a b ih=>exact .more ih (hx _ (uz r) _ a b).1 (hx _ (uz r) _ a b).2
section
variable {ps:List P4} (G:Gr ps) {win:Int->Int} {mv:Int->Option Int} (I:l6 ps (ids ps.length) win mv) {w:Int} {qs:List Int} (hq:∀ i,i∈qs<->i∈ids ps.length/\win i=w)
include G I hq
theorem sL {f:Int->Option Int} (hf:∀ i∈qs,ak ps i=w->f i=mv i):jo ps w (vN f ps.length) qs=true:=by
  have wf:∀ i∈qs,∀ g,Wy ps (ids ps.length) w f i g->Wy ps (ids ps.length) w mv i g:=fun i hi g h=>by
    rcases h with ⟨ho,e⟩ | h
    · exact .inl ⟨ho,by rw [<- hf i hi ho];exact e⟩
    · exact .inr h
  unfold jo;rw [Bool.and_eq_true];constructor
  · refine uZ G (fun x hx=>cb.mp ((hq x).mp hx).1) (fun i hi g hg=>?_) fun i hi ho=>?_
    · obtain ⟨a,b⟩:=(hq i).mp hi;obtain ⟨s1,s2⟩:=I.stay i a g (by rw [b];exact wf i hi g hg);exact (hq g).mpr ⟨s1,s2.trans b⟩
    · obtain ⟨a,b⟩:=(hq i).mp hi;obtain ⟨g,g1,_⟩:=I.has i a (ho.trans b.symm);exact ⟨g,by rw [hf i hi ho];exact g1⟩
  · rw [List.all_eq_true];intro i hi;obtain ⟨a,b⟩:=(hq i).mp hi;rw [jf (p:=pe ps w (vN f ps.length) qs i) ?_]
    · rfl
    · rintro ⟨hne,hr⟩;refine I.good i a (by rw [b];exact hne) ?_;rw [b];have st:∀ x,x∈qs->∀ y,y∈bP ps w (vN f ps.length) x->y∈lj ps qs i->Wy ps (ids ps.length) w mv x y/\(y∈ids ps.length/\win y=w/\ai ps y<=ai ps i):=fun x hx y hy hyl=>by
        obtain ⟨y1,y2⟩:=List.mem_filter.mp hyl;obtain ⟨a1,a2⟩:=(hq y).mp y1;obtain ⟨x0,x1⟩:=cb.mp ((hq x).mp hx).1;exact ⟨wf x hx y ((jX G x0 x1).mp hy),a1,a2,of_decide_eq_true y2⟩
      exact wb hr (fun y hy hyl=>st i hi y hy hyl) fun x hx y hy hyl=>st x (List.mem_filter.mp hx).1 y hy hyl
theorem tK:∃ c∈fB ps w qs ps.length,jo ps w c qs=true:=by
  obtain ⟨f,ef⟩:∃ f:Int->Option Int,f=fun i=>if i∈qs/\ak ps i=w then mv i else none:=⟨_,rfl⟩
  refine ⟨vN f ps.length,qH (fun i h0 h1=>?_) _ (Nat.le_refl _),sL G I hq fun i hi ho=>by rw [ef];exact if_pos ⟨hi,ho⟩⟩;unfold nv;by_cases z:i∈qs/\ak ps i=w
  · rw [if_pos z];obtain ⟨a,b⟩:=(hq i).mp z.1;obtain ⟨g,g1,g2⟩:=I.has i a (z.2.trans b.symm);obtain ⟨s1,s2⟩:=I.stay i a g (.inl ⟨z.2.trans b.symm,g1⟩);rw [show f i=some g by rw [ef];dsimp only;rw [if_pos z];exact g1];exact List.mem_map.mpr ⟨g,List.mem_filter.mpr ⟨g2,bx.mpr ((hq g).mpr ⟨s1,s2.trans b⟩)⟩,rfl⟩
  · rw [if_neg z,show f i=none by rw [ef];exact if_neg z];exact List.mem_singleton.mpr rfl
end
noncomputable def AQ:Fs:=(bo 5 (Bl (ae 5) (bf aF (ag (ae 1) (ag (ae 3) (ag (ae 6) (ag (ae 4) aC)))))))
theorem qX {ps:List P4} (G:Gr ps) {a d:PyData} {w:Int} {qs:List Int} (hq:∀ x∈qs,0<=x/\x < ps.length) (hql:qs.length<=100):∀ (cs:List (List (Option Int))) (g:Bool) (c6:bm),(∀ c∈cs,c.length=ps.length) ->
    ∃ c6',dA (aG 6) AQ (cs.map mD) [.val a,.val (gD ps),.val d,.val (.int w),.val (.list (qs.map .int)),.val (.bool g),c6]=.ok (.nx [.val a,.val (gD ps),.val d,.val (.int w),.val (.list (qs.map .int)),.val (.bool (g||cs.any fun c=>jo ps w c qs)),c6'])
  | [],g,c6,_=>⟨c6,by rw [List.map_nil,dt];simp⟩
  | c::cs,g,c6,h=>by
    have hw:=uc G (h c List.mem_cons_self) (w:=w) (s:=.list (qs.map .int)) (.inr rfl) hq hql;obtain ⟨c6',e⟩:=qX G (a:=a) (d:=d) (w:=w) hq hql cs (g||jo ps w c qs) (.val (mD c)) fun x hx=>h x (List.mem_cons_of_mem _ hx)
    refine ⟨c6',?_⟩;rw [List.map_cons,dn];rw [show (([.val a,.val (gD ps),.val d,.val (.int w),.val (.list (qs.map .int)),.val (.bool g),c6]:aD).set 6 (.val (mD c)))=[.val a,.val (gD ps),.val d,.val (.int w),.val (.list (qs.map .int)),.val (.bool g),.val (mD c)] from rfl];have hb:AQ [.val a,.val (gD ps),.val d,.val (.int w),.val (.list (qs.map .int)),.val (.bool g),.val (mD c)]=.ok (.nx [.val a,.val (gD ps),.val d,.val (.int w),.val (.list (qs.map .int)),.val (.bool (g||jo ps w c qs)),.val (mD c)]):=by
      unfold AQ;rw [bG,zr];simp only [aq,aw,R.ok_bind,cR,bz,aL,aU,hw];cases g <;> rfl
    rw [hb,R.ok_bind,cO,e,List.any_cons,Bool.or_assoc]
noncomputable def Bp:Fs:=(aY (bo 4 (bK (gY (ag (e1 gt (ae 1)) aC)) 1 [2,3] (aG 0) (tE (e2 (iy) (e2 cu (ae 1) (ae 0)) (ae 2))) (ae 0))) (aY (bo 5 (eC (.bool false))) (aY (fX (gG (dw (bf bu (ag (ae 1) (ag (ae 3) (ag (ae 4) aC))))) (aG 6) AQ)) (j8 (nM (tE (ae 5))) (cW (eC (.bool false))) cK))))
theorem rB {ps:List P4} (G:Gr ps) (h3:∀ i,(aH ps i).length<=3) (hp5:ps.length<=5) {a:PyData} {v win:Int->Int} {mv:Int->Option Int} (I:l6 ps (ids ps.length) win mv) (hv:∀ i∈ids ps.length,v i=win i):∀ (ws:List Int) (c3 c4 c5 c6:bm),
    ∃ c3' c4' c5' c6',dA (aG 3) Bp (ws.map .int) [.val a,.val (gD ps),.val (.tuple (((ids ps.length).map v).map .int)),c3,c4,c5,c6]=.ok (.nx [.val a,.val (gD ps),.val (.tuple (((ids ps.length).map v).map .int)),c3',c4',c5',c6'])
  | [],c3,c4,c5,c6=>⟨c3,c4,c5,c6,by rw [List.map_nil,dt]⟩
  | w::ws,c3,c4,c5,c6=>by
    obtain ⟨d,ed⟩:∃ d,d=PyData.tuple (((ids ps.length).map v).map .int):=⟨_,rfl⟩
    have hd:∀ i:Int,0<=i->i < ps.length->cu d (.int i)=.ok (.int (v i)):=fun i h0 h1=>by
      rw [ed,List.map_map];exact zX (f:=fun i=>.int (v i)) h0 h1
    obtain ⟨qs,eqs⟩:∃ qs,qs=(ids ps.length).filter fun i=>decide (v i=w):=⟨_,rfl⟩
    have hq:∀ i,i∈qs<->i∈ids ps.length/\win i=w:=fun i=>by
      rw [eqs,List.mem_filter,decide_eq_true_iff];constructor
      · rintro ⟨x,y⟩;exact ⟨x,by rw [<- hv i x];exact y⟩
      · rintro ⟨x,y⟩;exact ⟨x,by rw [hv i x];exact y⟩
    have pq:dF ps.length qs:=by rw [eqs];exact (dF.ids _).filter _
    have hql:qs.length<=100:=by have:=pq.len;omega
    have hmi:=dW (t:=tE (e2 (iy) (e2 cu (ae 1) (ae 0)) (ae 2))) (ρ:=[.val d,.val (.int w)]) (p:=fun i=>decide (v i=w)) (ids ps.length) fun i hi=>by
      obtain ⟨h0,h1⟩:=cb.mp hi;simp only [List.set_cons_zero,cP,bE,aw,aq,R.ok_bind,hd i h0 h1,hW,cR]
    rw [<- eqs] at hmi;have hlen:gt (gD ps)=.ok (.int ps.length):=by simp
    have hr1:kP [.int (ps.length:Int)]=.ok (bL 0 ps.length):=AI (by omega);have hch:=pH G h3 hp5 (w:=w) (qs:=qs);obtain ⟨d6,e⟩:=qX G (a:=a) (d:=d) (w:=w) pq.inn hql (fB ps w qs ps.length) false c6 fun c hc=>mz _ c hc
    have hany:((fB ps w qs ps.length).any fun c=>jo ps w c qs)=true:=List.any_eq_true.mpr (tK G I hq);rw [hany,Bool.or_true] at e;obtain ⟨c3',c4',c5',c6',f⟩:=rB G h3 hp5 (a:=a) I hv ws (.val (.int w)) (.val (.list (qs.map .int))) (.val (.bool true)) d6;rw [<- ed] at f ⊢;refine ⟨c3',c4',c5',c6',?_⟩;rw [List.map_cons,dn];rw [show (([.val a,.val (gD ps),.val d,c3,c4,c5,c6]:aD).set 3 (.val (.int w)))=[.val a,.val (gD ps),.val d,.val (.int w),c4,c5,c6] from rfl];have hb:Bp [.val a,.val (gD ps),.val d,.val (.int w),c4,c5,c6]=.ok (.nx [.val a,.val (gD ps),.val d,.val (.int w),.val (.list (qs.map .int)),.val (.bool true),d6]):=by
      unfold Bp;rw [aJ (ρ':=[.val a,.val (gD ps),.val d,.val (.int w),.val (.list (qs.map .int)),c5,c6]) (by
        rw [bG,cf,show aA 1 [2,3] [.val a,.val (gD ps),.val d,.val (.int w),c4,c5,c6]=[.non,.val d,.val (.int w)] from rfl];simp only [lC,aL,aU,fT,aq,aw,R.ok_bind,hlen,hr1,dj];rw [if_pos (by rw [eT];exact ca (by omega)),kq,hmi];rfl)]
      rw [aJ (ρ':=[.val a,.val (gD ps),.val d,.val (.int w),.val (.list (qs.map .int)),.val (.bool false),c6]) (by rfl)];rw [aJ (ρ':=[.val a,.val (gD ps),.val d,.val (.int w),.val (.list (qs.map .int)),.val (.bool true),d6]) (by
        rw [dQ,eE,cq];simp only [bz,aL,aU,aq,aw,R.ok_bind,hch];rw [show jy (lD (fB ps w qs ps.length))=.ok ((fB ps w qs ps.length).map mD) from rfl,R.ok_bind,e];rfl)]
      rfl
    rw [hb,R.ok_bind,cO,f]
theorem va:x6 n4:=by
  intro ns hns;obtain ⟨ps0,hi,hgr,hpl0,hp1,hp5,hi0,hi12⟩:=pf ns (most:=5) (by omega) (by omega);obtain ⟨ps,eps⟩:∃ ps,ps=ps0.map xi:=⟨_,rfl⟩
  have hlen:ps.length=ps0.length:=by rw [eps,List.length_map]
  have hpl:∀ p∈ps,Pl ps.length hi p:=fun p hp=>by
    rw [eps] at hp;obtain ⟨q,hq,rfl⟩:=List.mem_map.mp hp;rw [hlen];exact xb (hpl0 q hq)
  have G:Gr ps:=x8 hpl (by omega);have h3:∀ i,(aH ps i).length<=3:=fun i=>by
    unfold aH;cases e:ps[i.toNat]? with
    | none=>decide
    | some p =>
      have hm:=List.mem_of_getElem? e;rw [eps] at hm;obtain ⟨q,_,rfl⟩:=List.mem_map.mp hm;show (q.ns.take 3).length<=3;rw [List.length_take];omega
  obtain ⟨win,mv,I,_⟩:=vf 13 (ids ps.length) (dF.ids _) (sJ G) fun i hi'=>by
    obtain ⟨h0,h1⟩:=cb.mp hi';have P:=hpl _ (List.getElem_mem (show i.toNat < ps.length by omega));rw [eN h0 h1,cT h0 h1];have:=P.w0;have:=P.w1;have:=P.m0;have:=P.m1;omega
  obtain ⟨v,hm,hv⟩:=vy hpl (by omega) (by omega) hi12;have hv':=hv I;obtain ⟨c3,c4,c5,c6,hloop⟩:=rB G h3 (by omega) (a:=tu ns) I hv' [0,1] .non .non .non .non;have hcut:=kO ps0;rw [<- eps] at hcut;unfold n4 ve;refine fW ?_;rw [show ([tu ns].map bm.val++List.replicate (7 - [tu ns].length) bm.non)=[.val (tu ns),.non,.non,.non,.non,.non,.non] from rfl];rw [aJ (ρ':=[.val (tu ns),.val (gD ps),.non,.non,.non,.non,.non]) (by
    rw [bG,fT,cf,show aA 1 [] [.val (tu ns),.non,.non,.non,.non,.non,.non]=[.non] from rfl];simp only [cq,bz,aL,aU,aw,cQ,R.ok_bind,hgr,gx,dj];rw [if_pos (by rw [List.length_map];exact ca (by omega)),hcut];rfl)]
  rw [aJ (ρ':=[.val (tu ns),.val (gD ps),.val (.tuple (((ids ps.length).map v).map .int)),.non,.non,.non,.non]) (by
    simp only [bG,bz,aL,aU,aw,aq,R.ok_bind,hm];rfl)]
  rw [aJ (ρ':=[.val (tu ns),.val (gD ps),.val (.tuple (((ids ps.length).map v).map .int)),c3,c4,c5,c6]) (by
    rw [dQ,eE,cq,ib];simp only [aL,aU,cQ,R.ok_bind];rw [if_pos (by show 2<=_;decide),R.ok_bind,gx,R.ok_bind];unfold Bp AQ at hloop;rw [show ([.int 0,.int 1]:List PyData)=[(0:Int),1].map .int from rfl,hloop];rfl)]
  rfl
noncomputable def AR:List Stmt:=PySem.Challenge.pw_duelground_k32_whole_measures.main.body
noncomputable abbrev top (i:Nat):Stmt:=AR.getD i (.Pass ⟨0,0,0,0⟩)
noncomputable abbrev dc:Stmt:=top 23
noncomputable abbrev fA:Stmt:=top 12
noncomputable abbrev gK:Stmt:=top 13
noncomputable abbrev gJ:Stmt:=top 14
noncomputable abbrev gL:Stmt:=top 15
noncomputable abbrev gS:Stmt:=top 16
noncomputable abbrev eA:Stmt:=top 17
noncomputable abbrev gi:Stmt:=top 19
noncomputable abbrev eD:Stmt:=top 21
noncomputable abbrev fE:Stmt:=top 20
noncomputable abbrev cp:Stmt:=top 22
noncomputable abbrev gh:Stmt:=top 5
noncomputable abbrev jn:Stmt:=top 6
noncomputable abbrev de:Stmt:=top 4
noncomputable abbrev hZ:Stmt:=top 7
noncomputable abbrev ft:Stmt:=top 8
noncomputable abbrev j5:Stmt:=top 9
noncomputable abbrev dP:Stmt:=top 10
noncomputable abbrev gN:Stmt:=top 24
section
variable {P:Program} {w:World} {K:PySem.W.Frag} {mg:Str->Option Value} {base:Heap} {f:Addr} {fd:FuncData} {k:Nat}
theorem lv:bn ["_law_ground_here","_law_who","_law_places","_law_choices_here","_law_place_here","_law_ways_here","_law_more","_law_choice"] ["_law_ground_here","_law_who","_law_places"] (am dc):=⟨rfl,rfl,rfl,by decide +kernel,rfl,by decide +kernel,by decide +kernel⟩
theorem ld (W:ip K "_law_choices" "_law_choices" dc f fd) (b_len:mg "len" = none) (b_range:mg "range" = none) :
    bC P w K mg base (dE P w mg) (k+1) f fd ["_law_ground_here","_law_who","_law_places"] (eU (eX 8 (fG)) 3):=by
  refine aR W lv (G:=["range","len"]) (by decide +kernel) fun cdv A outer s H E hr T=>?_
  exact (ao (aB T 3 rfl (gv (cY (af (dU ap) ap))))
      (ao (cz (have T:=T.nox;dB PassesOwn.never T.calm (fi T 0 rfl b_range (af (dR T 1 rfl b_len (ad (aa T 0 rfl))) ap) (ah aE)) (aO T 4 rfl) (ao (aB T 5 rfl (gv (cY (af lK ap))))
      (ao (cX (jW (jx (jd T.hu (ad (aa T 4 rfl)) (ad (aa T 2 rfl)) (by with_unfolding_all rfl)) (iS (df T.hu (ad (aT T.hu (ad (aT T.hu (ad (aa T 0 rfl)) (ad (aa T 4 rfl)) (fun _ _=>rfl))) (ad aj) (fun _ _=>rfl))) (ad (aa T 1 rfl)))))) (av (jl (fL 5 rfl (N:=["_law_goal","_law_places"]) (own:=1) (G:=[]) (fr:=[2]) T rfl rfl (oN:=["_law_ground_here","_law_who","_law_places","_law_choices_here","_law_place_here","_law_ways_here","_law_more","_law_choice"]) (on:=(am dc).names) (by decide +kernel) (bJ (aT T.hu (ad (aT T.hu (ad (aa T 0 rfl)) (ad (aa T 4 rfl)) (fun _ _=>rfl))) (ad aj) (fun _ _=>rfl))) (bH (by decide)) (fun cl C s' H' fp E' T=>⟨(aO T 0 rfl),(fQ (jd T.hu (ad (aa T 0 rfl)) (ad (aa T 1 rfl)) (by with_unfolding_all rfl))),(aa T 0 rfl)⟩)) (show 5 < 8 by decide))) cw)
      (ao (aB T 6 rfl (gv (cY ap)))
      (ao (cz (have T:=T.nox;dB PassesOwn.never T.calm (bJ (aa T 3 rfl)) (aO T 7 rfl) (av (aB T 6 rfl (bj (ad (aa T 6 rfl)) (dh (cc (N:=["_law_way","_law_choice"]) (own:=1) (G:=[]) (fr:=[7]) T rfl rfl (oN:=["_law_ground_here","_law_who","_law_places","_law_choices_here","_law_place_here","_law_ways_here","_law_more","_law_choice"]) (on:=(am dc).names) (by decide +kernel) (bJ (aa T 5 rfl)) (bH (by decide)) (fun cl C s' H' fp E' T=>⟨(aO T 0 rfl),dY,(bj (ad (aa T 1 rfl)) (ad (dU (af (aa T 0 rfl) ap))))⟩))))))))
      (av (aB T 3 rfl (aa T 6 rfl)))))))))
      (av (aM (aa T 3 rfl)))))
theorem lu:bn ["_law_script","_law_k"] ["_law_script","_law_k"] (am fA):=⟨rfl,rfl,rfl,by decide +kernel,rfl,by decide +kernel,by decide +kernel⟩
theorem lA (W:ip K "_law_cell_at" "_law_cell_at" fA f fd) (b_len:mg "len" = none) :
    bC P w K mg base (dE P w mg) (k+1) f fd ["_law_script","_law_k"] (eU (eX 2 (fJ)) 2):=by
  refine aR W lu (G:=["len"]) (by decide +kernel) fun cdv A outer s H E hr T=>?_
  exact (ao (cX (oy (ad (aa T 1 rfl)) (ad (dR T 0 rfl b_len (ad (aa T 0 rfl))))) (av (aM (aT T.hu (ad (aa T 0 rfl)) (ad (aa T 1 rfl)) (fun _ _=>rfl)))) cw)
      (av (aM aj)))
theorem nN:bn ["_law_script","_law_k","_law_drawn_here"] ["_law_script","_law_k"] (am gK):=⟨rfl,rfl,rfl,by decide +kernel,rfl,by decide +kernel,by decide +kernel⟩
theorem ox (W:ip K "_law_mixed" "_law_mixed" gK f fd) {f7:Addr} {d7:FuncData} {bB:jV} (C7:kc P w K mg base k "_law_cell_at" ["_law_script","_law_k"] bB f7 d7) :
    bC P w K mg base (dE P w mg) (k+1) f fd ["_law_script","_law_k"] (eU (eX 3 (gW bB)) 2):=by
  refine aR W nN (G:=["_law_cell_at"]) (by decide +kernel) fun cdv A outer s H E hr T=>?_
  exact (ao (aB T 2 rfl (bF (ad (dr (ad (bj (ad (bj (ad (aS C7 hr T 0 rfl (af (aa T 0 rfl) (af (aa T 1 rfl) ap)) rfl (ah (ah aE)))) (ad (dr (ad aj) (ad (aa T 1 rfl)))))) (ad aj))) (ad aj))) (ad aj)))
      (av (aM (bF (ad (bj (ad (bj (ad (dr (ad (aa T 2 rfl)) (ad (aa T 2 rfl)))) (ad (dr (ad aj) (ad (aa T 2 rfl)))))) (ad (aa T 1 rfl)))) (ad aj)))))
theorem nZ:bn ["_law_number","_law_k","_law_drawn_here"] ["_law_number","_law_k"] (am gJ):=⟨rfl,rfl,rfl,by decide +kernel,rfl,by decide +kernel,by decide +kernel⟩
theorem nY (W:ip K "_law_drawn" "_law_drawn" gJ f fd) :
    bC P w K mg base (dE P w mg) (k+1) f fd ["_law_number","_law_k"] (eU (eX 3 (gV)) 2):=by
  refine aR W nZ (G:=[]) (by decide +kernel) fun cdv A outer s H E hr T=>?_
  exact (ao (aB T 2 rfl (bF (ad (dr (ad (bj (ad (bj (ad (aa T 0 rfl)) (ad (dr (ad aj) (ad (aa T 1 rfl)))))) (ad aj))) (ad aj))) (ad aj)))
      (av (aM (bF (ad (bj (ad (bj (ad (dr (ad (aa T 2 rfl)) (ad (aa T 2 rfl)))) (ad (dr (ad aj) (ad (aa T 2 rfl)))))) (ad (aa T 1 rfl)))) (ad aj)))))
theorem nG:bn ["_law_number","_law_count","_law_found","_law_k"] ["_law_number","_law_count"] (am gL):=⟨rfl,rfl,rfl,by decide +kernel,rfl,by decide +kernel,by decide +kernel⟩
theorem nQ (W:ip K "_law_goals" "_law_goals" gL f fd) {f9:Addr} {d9:FuncData} {aX:jV} (C9:kc P w K mg base k "_law_drawn" ["_law_number","_law_k"] aX f9 d9) (b_int:mg "int" = none) (b_range:mg "range" = none) (b_sorted:mg "sorted" = none) (b_tuple:mg "tuple" = none) :
    bC P w K mg base (dE P w mg) (k+1) f fd ["_law_number","_law_count"] (eU (eX 4 (g8 aX)) 2):=by
  refine aR W nG (G:=["range","int","_law_drawn","tuple","sorted"]) (by decide +kernel) fun cdv A outer s H E hr T=>?_
  exact (ao (nI T 2 rfl oM)
      (ao (cz (have T:=T.nox;dB PassesOwn.never T.calm (fi T 0 rfl b_range (af (bj (ad (bj (ad aj) (ad (bF (ad (aa T 0 rfl)) (ad aj))))) (ad (dr (ad aj) (ad (sP T 1 rfl b_int (ad (wS T.hu (ad (bF (ad (eK (ad (aa T 0 rfl)) (ad aj))) (ad aj))) (ad aj)))))))) ap) (ah aE)) (aO T 3 rfl) (av (vp T 2 rfl (bF (ad (aS C9 hr T 2 rfl (af (aa T 0 rfl) (af (aa T 3 rfl) ap)) rfl (ah (ah aE)))) (ad (aa T 1 rfl))) bY))))
      (av (aM (dk T 3 rfl b_tuple (dh (mL T 4 rfl b_sorted (gu T 2 rfl))))))))
theorem oJ:bn ["_law_number","_law_count","_law_high","_law_gain"] ["_law_number","_law_count","_law_high"] (am gS):=⟨rfl,rfl,rfl,by decide +kernel,rfl,by decide +kernel,by decide +kernel⟩
theorem nD (W:ip K "_law_place" "_law_place" gS f fd) {f9:Addr} {d9:FuncData} {aX:jV} (C9:kc P w K mg base k "_law_drawn" ["_law_number","_law_k"] aX f9 d9) {f10:Addr} {d10:FuncData} {ci:jV} (C10:kc P w K mg base k "_law_goals" ["_law_number","_law_count"] ci f10 d10) :
    bC P w K mg base (dE P w mg) (k+1) f fd ["_law_number","_law_count","_law_high"] (eU (eX 4 (gO aX ci)) 3):=by
  refine aR W oJ (G:=["_law_goals","_law_drawn"]) (by decide +kernel) fun cdv A outer s H E hr T=>?_
  exact (ao (aB T 3 rfl (je (ad (bF (ad (eK (ad (aa T 0 rfl)) (ad aj))) (ad aj))) (ad aj)))
      (ao (cX (df T.hu (ad (bF (ad (eK (ad (aa T 0 rfl)) (ad aj))) (ad aj))) (ad aj)) (av (aB T 3 rfl (je (ad (bF (ad (eK (ad (aa T 0 rfl)) (ad aj))) (ad aj))) (ad aj)))) cw)
      (av (aM (dU (af (bF (ad (aa T 0 rfl)) (ad aj)) (af (bF (ad (eK (ad (aa T 0 rfl)) (ad aj))) (ad (bj (ad (aa T 2 rfl)) (ad aj)))) (af (aa T 3 rfl) (af (aS C10 hr T 0 rfl (af (aS C9 hr T 1 rfl (af (aa T 0 rfl) (af aj ap)) rfl (ah (ah aE))) (af (aa T 1 rfl) ap)) rfl (ah (ah aE))) ap)))))))))
theorem me:bn ["_law_script","_law_most","_law_number","_law_count","_law_high"] ["_law_script","_law_most"] (am eA):=⟨rfl,rfl,rfl,by decide +kernel,rfl,by decide +kernel,by decide +kernel⟩
theorem l9 (W:ip K "_law_ground" "_law_ground" eA f fd) {f8:Addr} {d8:FuncData} {bD:jV} (C8:kc P w K mg base k "_law_mixed" ["_law_script","_law_k"] bD f8 d8) {f11:Addr} {d11:FuncData} {bO:jV} (C11:kc P w K mg base k "_law_place" ["_law_number","_law_count","_law_high"] bO f11 d11) (b_len:mg "len" = none) (b_max:mg "max" = none) (b_min:mg "min" = none) (b_range:mg "range" = none) (b_tuple:mg "tuple" = none) :
    bC P w K mg base (dE P w mg) (k+1) f fd ["_law_script","_law_most"] (eU (eX 5 (gg bD bO)) 2):=by
  refine aR W me (G:=["_law_mixed","min","max","len","tuple","range"]) (by decide +kernel) fun cdv A outer s H E hr T=>?_
  exact (ao (aB T 2 rfl (aS C8 hr T 0 rfl (af (aa T 0 rfl) (af aj ap)) rfl (ah (ah aE))))
      (ao (aB T 3 rfl (bj (ad aj) (ad (bF (ad (aa T 2 rfl)) (ad (uv T 1 rfl b_min (ad (aa T 1 rfl)) (ad (vF T 2 rfl b_max (ad aj) (ad (dR T 3 rfl b_len (ad (aa T 0 rfl))))))))))))
      (ao (aB T 4 rfl (aT T.hu (dh (cY (af aj (af aj (af aj (af aj (af aj (af aj ap)))))))) (ad (bF (ad (eK (ad (aa T 2 rfl)) (ad aj))) (ad aj))) (fun _ _=>rfl)))
      (av (aM (dk T 4 rfl b_tuple (dh (cc (N:=["_law_k","_law_script","_law_count","_law_high"]) (own:=1) (G:=["_law_place","_law_mixed"]) (fr:=[0,3,4]) T rfl rfl (oN:=["_law_script","_law_most","_law_number","_law_count","_law_high"]) (on:=(am eA).names) (by decide +kernel) (fi T 5 rfl b_range (af (aa T 3 rfl) ap) (ah aE)) (bH (by decide)) (fun cl C s' H' fp E' T=>⟨(aO T 0 rfl),dY,(aS C11 hr T 0 rfl (af (aS C8 hr T 1 rfl (af (aa T 1 rfl) (af (bj (ad aj) (ad (aa T 0 rfl))) ap)) rfl (ah (ah aE))) (af (aa T 2 rfl) (af (aa T 3 rfl) ap))) rfl (ah (ah (ah aE))))⟩)))))))))
theorem pW:bn ["_law_ground_here","_law_who","_law_moves","_law_place_here"] ["_law_ground_here","_law_who","_law_moves","_law_place_here"] (am gi):=⟨rfl,rfl,rfl,by decide +kernel,rfl,by decide +kernel,by decide +kernel⟩
theorem ql (W:ip K "_law_ways" "_law_ways" gi f fd) (b_list:mg "list" = none) :
    bC P w K mg base (dE P w mg) (k+1) f fd ["_law_ground_here","_law_who","_law_moves","_law_place_here"] (eU (eX 4 (iK)) 4):=by
  refine aR W pW (G:=["list"]) (by decide +kernel) fun cdv A outer s H E hr T=>?_
  exact (ao (cX (df T.hu (ad (aT T.hu (ad (aT T.hu (ad (aa T 0 rfl)) (ad (aa T 3 rfl)) (fun _ _=>rfl))) (ad aj) (fun _ _=>rfl))) (ad (aa T 1 rfl))) (av (aM (gv (cc (N:=["_law_move"]) (own:=1) (G:=[]) (fr:=[]) T rfl rfl (oN:=["_law_ground_here","_law_who","_law_moves","_law_place_here"]) (on:=(am gi).names) (by decide +kernel) (bJ (gv (cY (af (aT T.hu (ad (aa T 2 rfl)) (ad (aa T 3 rfl)) (fun _ _=>rfl)) ap)))) (bH (by decide)) (fun cl C s' H' fp E' T=>⟨(aO T 0 rfl),(fQ (pY (ad (aa T 0 rfl)) (ad lK))),(aa T 0 rfl)⟩))))) cw)
      (av (aM (gv (qd T 0 rfl b_list (ad (aT T.hu (ad (aT T.hu (ad (aa T 0 rfl)) (ad (aa T 3 rfl)) (fun _ _=>rfl))) (ad aj) (fun _ _=>rfl))))))))
theorem mB:bn ["_law_ground_here","_law_who","_law_moves","_law_places","_law_place_here","_law_ways_here"] ["_law_ground_here","_law_who","_law_moves","_law_places"] (am eD):=⟨rfl,rfl,rfl,by decide +kernel,rfl,by decide +kernel,by decide +kernel⟩
theorem mh (W:ip K "_law_inside" "_law_inside" eD f fd) {f14:Addr} {d14:FuncData} {aP:jV} (C14:kc P w K mg base k "_law_ways" ["_law_ground_here","_law_who","_law_moves","_law_place_here"] aP f14 d14) :
    bC P w K mg base (dE P w mg) (k+1) f fd ["_law_ground_here","_law_who","_law_moves","_law_places"] (eU (eX 6 (gr aP)) 4):=by
  refine aR W mB (G:=["_law_ways"]) (by decide +kernel) fun cdv A outer s H E hr T=>?_
  exact (ao (cz (have T:=T.nox;dB PassesOwn.never T.calm (bJ (aa T 3 rfl)) (aO T 4 rfl) (ao (aB T 5 rfl (aS C14 hr T 0 rfl (af (aa T 0 rfl) (af (aa T 1 rfl) (af (aa T 2 rfl) (af (aa T 4 rfl) ap)))) rfl (ah (ah (ah (ah aE))))))
      (av (cX (jW (t6 (df T.hu (ad (aa T 5 rfl)) (dh (cY ap))) (se (kU T.hu (dh (cc (N:=["_law_way","_law_places"]) (own:=1) (G:=[]) (fr:=[3]) T rfl rfl (oN:=["_law_ground_here","_law_who","_law_moves","_law_places","_law_place_here","_law_ways_here"]) (on:=(am eD).names) (by decide +kernel) (bJ (aa T 5 rfl)) (bH (by decide)) (fun cl C s' H' fp E' T=>⟨(aO T 0 rfl),(fQ (jJ T.hu (ad (aa T 0 rfl)) (ad (aa T 1 rfl)) (by with_unfolding_all rfl))),(aa T 0 rfl)⟩))) (dh (cY ap)))))) (av (aM bY)) cw)))))
      (av (aM bY)))
theorem ly:bn ["_law_ground_here","_law_who","_law_moves","_law_start","_law_allowed","_law_found","_law_todo","_law_place_here"] ["_law_ground_here","_law_who","_law_moves","_law_start","_law_allowed"] (am fE):=⟨rfl,rfl,rfl,by decide +kernel,rfl,by decide +kernel,by decide +kernel⟩
theorem lz (W:ip K "_law_reached" "_law_reached" fE f fd) {f14:Addr} {d14:FuncData} {aP:jV} (C14:kc P w K mg base k "_law_ways" ["_law_ground_here","_law_who","_law_moves","_law_place_here"] aP f14 d14) :
    bC P w K mg base (dE P w mg) (k+1) f fd ["_law_ground_here","_law_who","_law_moves","_law_start","_law_allowed"] (eU (eX 8 (fw aP)) 5):=by
  refine aR W ly (G:=["_law_ways"]) (by decide +kernel) fun cdv A outer s H E hr T=>?_
  exact (ao (nI T 5 rfl (cY ap))
      (ao (aB T 6 rfl (aS C14 hr T 0 rfl (af (aa T 0 rfl) (af (aa T 1 rfl) (af (aa T 2 rfl) (af (aa T 3 rfl) ap)))) rfl (ah (ah (ah (ah aE))))))
      (ao (cz (have T:=T.nox;k9 1000000 PassesOwn.never (kU T.hu (ad (aa T 6 rfl)) (dh (cY ap))) (ao (aB T 7 rfl (aT T.hu (ad (aa T 6 rfl)) (ad aj) (fun _ _=>rfl)))
      (ao (aB T 6 rfl (dI (ad (aa T 6 rfl)) (eG aj) eI))
      (av (cX (jW (jx (jd T.hu (ad (aa T 7 rfl)) (ad (aa T 4 rfl)) (by with_unfolding_all rfl)) (iS (jJ T.hu (ad (aa T 7 rfl)) (gu T 5 rfl) (by with_unfolding_all rfl))))) (ao (o6 T 5 rfl (aa T 7 rfl))
      (av (aB T 6 rfl (bj (ad (aa T 6 rfl)) (ad (aS C14 hr T 0 rfl (af (aa T 0 rfl) (af (aa T 1 rfl) (af (aa T 2 rfl) (af (aa T 7 rfl) ap)))) rfl (ah (ah (ah (ah aE)))))))))) cw))))))
      (av (sA T 5 rfl)))))
theorem io:bn ["_law_ground_here","_law_who","_law_moves","_law_places","_law_place_here","_law_low","_law_back"] ["_law_ground_here","_law_who","_law_moves","_law_places"] (am cp):=⟨rfl,rfl,rfl,by decide +kernel,rfl,by decide +kernel,by decide +kernel⟩
theorem iq (W:ip K "_law_wins_by_marks" "_law_wins_by_marks" cp f fd) {f16:Addr} {d16:FuncData} {bM:jV} (C16:kc P w K mg base k "_law_inside" ["_law_ground_here","_law_who","_law_moves","_law_places"] bM f16 d16) {f15:Addr} {d15:FuncData} {br:jV} (C15:kc P w K mg base k "_law_reached" ["_law_ground_here","_law_who","_law_moves","_law_start","_law_allowed"] br f15 d15) :
    bC P w K mg base (dE P w mg) (k+1) f fd ["_law_ground_here","_law_who","_law_moves","_law_places"] (eU (eX 7 (cZ bM br)) 4):=by
  refine aR W io (G:=["_law_inside","_law_reached"]) (by decide +kernel) fun cdv A outer s H E hr T=>?_
  exact (ao (cX (lY (jD (aS C16 hr T 0 rfl (af (aa T 0 rfl) (af (aa T 1 rfl) (af (aa T 2 rfl) (af (aa T 3 rfl) ap)))) rfl (ah (ah (ah (ah aE))))))) (av (aM bY)) cw)
      (ao (cz (have T:=T.nox;dB PassesOwn.never T.calm (bJ (aa T 3 rfl)) (aO T 4 rfl) (ao (jl (fL 5 rfl (N:=["_law_other","_law_ground_here","_law_place_here"]) (own:=1) (G:=[]) (fr:=[0,4]) T rfl rfl (oN:=["_law_ground_here","_law_who","_law_moves","_law_places","_law_place_here","_law_low","_law_back"]) (on:=(am cp).names) (by decide +kernel) (bJ (aa T 3 rfl)) (bH (by decide)) (fun cl C s' H' fp E' T=>⟨(aO T 0 rfl),(fQ (uO (ad (aT T.hu (ad (aT T.hu (ad (aa T 1 rfl)) (ad (aa T 0 rfl)) (fun _ _=>rfl))) (ad aj) (fun _ _=>rfl))) (ad (aT T.hu (ad (aT T.hu (ad (aa T 1 rfl)) (ad (aa T 2 rfl)) (fun _ _=>rfl))) (ad aj) (fun _ _=>rfl))))),(aa T 0 rfl)⟩)) (show 5 < 7 by decide))
      (ao (aB T 6 rfl (aS C15 hr T 1 rfl (af (aa T 0 rfl) (af (aa T 1 rfl) (af (aa T 2 rfl) (af (aa T 4 rfl) (af (aa T 5 rfl) ap))))) rfl (ah (ah (ah (ah (ah aE)))))))
      (av (cX (jW (jx (kU T.hu (ad (bF (ad (aT T.hu (ad (aT T.hu (ad (aa T 0 rfl)) (ad (aa T 4 rfl)) (fun _ _=>rfl))) (ad aj) (fun _ _=>rfl))) (ad aj))) (ad (aa T 1 rfl))) (iS (jd T.hu (ad (aa T 4 rfl)) (ad (aa T 6 rfl)) (by with_unfolding_all rfl))))) (av (aM bY)) cw))))))
      (av (aM bY))))
theorem ni:bn ["ground"] ["ground"] (am gh):=⟨rfl,rfl,rfl,by decide +kernel,rfl,by decide +kernel,by decide +kernel⟩
theorem mI (W:ip K "beyond_all" "beyond_all" gh f fd) (b_len:mg "len" = none) :
    bC P w K mg base (dE P w mg) (k+1) f fd ["ground"] (eU (eX 1 (gq)) 1):=by
  refine aR W ni (G:=["len"]) (by decide +kernel) fun cdv A outer s H E hr T=>?_
  exact (av (aM (dU (af (bj (ad (dR T 0 rfl b_len (ad (aa T 0 rfl)))) (ad aj)) ap))))
theorem u8:bn ["head","most"] ["head","most"] (am jn):=⟨rfl,rfl,rfl,by decide +kernel,rfl,by decide +kernel,by decide +kernel⟩
theorem vI (W:ip K "filled" "filled" jn f fd) (b_len:mg "len" = none) (b_tuple:mg "tuple" = none) :
    bC P w K mg base (dE P w mg) (k+1) f fd ["head","most"] (eU (eX 2 (kY)) 2):=by
  refine aR W u8 (G:=["tuple","len"]) (by decide +kernel) fun cdv A outer s H E hr T=>?_
  exact (av (aM (bj (ad (aa T 0 rfl)) (ad (dk T 0 rfl b_tuple (dh (cc (N:=["count"]) (own:=1) (G:=[]) (fr:=[]) T rfl rfl (oN:=["head","most"]) (on:=(am jn).names) (by decide +kernel) (bJ (dI (ad (aa T 1 rfl)) (eG (dR T 1 rfl b_len (ad (aa T 0 rfl)))) eI)) (bH (by decide)) (fun cl C s' H' fp E' T=>⟨(aO T 0 rfl),dY,aj⟩))))))))
theorem lc:bn ["ground","marks"] ["ground"] (am de):=⟨rfl,rfl,rfl,by decide +kernel,rfl,by decide +kernel,by decide +kernel⟩
theorem lq (W:ip K "most_counts" "most_counts" de f fd) {t_MARK:Tok} (g_MARK:mg "MARK" = some (.int 1 t_MARK)) (b_max:mg "max" = none) (b_range:mg "range" = none) (b_tuple:mg "tuple" = none) :
    bC P w K mg base (dE P w mg) (k+1) f fd ["ground"] (eU (eX 2 (fI)) 1):=by
  refine aR W lc (G:=["tuple","range","max"]) (by decide +kernel) fun cdv A outer s H E hr T=>?_
  exact (ao (aB T 1 rfl (gv (cc (N:=["place"]) (own:=1) (G:=["MARK"]) (fr:=[]) T rfl rfl (oN:=["ground","marks"]) (on:=(am de).names) (by decide +kernel) (bJ (aa T 0 rfl)) (bH (by decide)) (fun cl C s' H' fp E' T=>⟨(aO T 0 rfl),dY,(aT T.hu (ad (aa T 0 rfl)) (ad (fO T 0 rfl g_MARK)) (fun _ _=>rfl))⟩))))
      (av (aM (dk T 0 rfl b_tuple (dh (cc (N:=["mark","marks"]) (own:=1) (G:=[]) (fr:=[1]) T rfl rfl (oN:=["ground","marks"]) (on:=(am de).names) (by decide +kernel) (jP T 1 rfl b_range (af (sD T 2 rfl b_max (ad (aa T 1 rfl))) (af aj (af (kC (ad aj)) ap))) (ah (ah (ah aE)))) (bH (by decide)) (fun cl C s' H' fp E' T=>⟨(aO T 0 rfl),(fQ (df T.hu (ad (bF (ad (aa T 0 rfl)) (ad aj))) (ad aj))),(pD (ad (aa T 1 rfl)) (aa T 0 rfl))⟩)))))))
theorem ou:bn ["head","most","beyond","where"] ["head","most","beyond"] (am hZ):=⟨rfl,rfl,rfl,by decide +kernel,rfl,by decide +kernel,by decide +kernel⟩
theorem nz (W:ip K "row_above" "row_above" hZ f fd) {f2:Addr} {d2:FuncData} {aZ:jV} (C2:kc P w K mg base k "filled" ["head","most"] aZ f2 d2) (b_len:mg "len" = none) (b_range:mg "range" = none) :
    bC P w K mg base (dE P w mg) (k+1) f fd ["head","most","beyond"] (eU (eX 4 (hV aZ)) 3):=by
  refine aR W ou (G:=["range","len","filled"]) (by decide +kernel) fun cdv A outer s H E hr T=>?_
  exact (ao (cz (have T:=T.nox;dB PassesOwn.never T.calm (jP T 0 rfl b_range (af (je (ad (dR T 1 rfl b_len (ad (aa T 0 rfl)))) (ad aj)) (af (kC (ad aj)) (af (kC (ad aj)) ap))) (ah (ah (ah aE)))) (aO T 3 rfl) (av (cX (oy (ad (aT T.hu (ad (aa T 0 rfl)) (ad (aa T 3 rfl)) (fun _ _=>rfl))) (ad (aT T.hu (ad (aa T 1 rfl)) (ad (aa T 3 rfl)) (fun _ _=>rfl)))) (av (aM (aS C2 hr T 2 rfl (af (bj (ad (dI (ad (aa T 0 rfl)) eI (eG (aa T 3 rfl)))) (ad (dU (af (bj (ad (aT T.hu (ad (aa T 0 rfl)) (ad (aa T 3 rfl)) (fun _ _=>rfl))) (ad aj)) ap)))) (af (aa T 1 rfl) ap)) rfl (ah (ah aE))))) cw))))
      (av (aM (aa T 2 rfl))))
theorem nE:bn ["place","measures","most","beyond","rows","row","head"] ["place","measures","most","beyond"] (am ft):=⟨rfl,rfl,rfl,by decide +kernel,rfl,by decide +kernel,by decide +kernel⟩
theorem nA (W:ip K "row_asked" "row_asked" ft f fd) {f2:Addr} {d2:FuncData} {aZ:jV} (C2:kc P w K mg base k "filled" ["head","most"] aZ f2 d2) {f3:Addr} {d3:FuncData} {cg:jV} (C3:kc P w K mg base k "row_above" ["head","most","beyond"] cg f3 d3) {t_GOALS:Tok} (g_GOALS:mg "GOALS" = some (.int 3 t_GOALS)) {t_MARK:Tok} (g_MARK:mg "MARK" = some (.int 1 t_MARK)) {t_WHO:Tok} (g_WHO:mg "WHO" = some (.int 0 t_WHO)) (b_len:mg "len" = none) (b_max:mg "max" = none) (b_min:mg "min" = none) :
    bC P w K mg base (dE P w mg) (k+1) f fd ["place","measures","most","beyond"] (eU (eX 7 (gM aZ cg)) 4):=by
  refine aR W nE (G:=["GOALS","WHO","min","max","len","MARK","row_above","filled"]) (by decide +kernel) fun cdv A outer s H E hr T=>?_
  exact (ao (jl (fL 4 rfl (N:=["goal","measures"]) (own:=1) (G:=[]) (fr:=[1]) T rfl rfl (oN:=["place","measures","most","beyond","rows","row","head"]) (on:=(am ft).names) (by decide +kernel) (bJ (aT T.hu (ad (aa T 0 rfl)) (ad (fO T 0 rfl g_GOALS)) (fun _ _=>rfl))) (bH (by decide)) (fun cl C s' H' fp E' T=>⟨(aO T 0 rfl),dY,(aT T.hu (ad (aa T 1 rfl)) (ad (aa T 0 rfl)) (fun _ _=>rfl))⟩)) (show 4 < 7 by decide))
      (ao (aB T 5 rfl (kK (df T.hu (ad (aT T.hu (ad (aa T 0 rfl)) (ad (fO T 1 rfl g_WHO)) (fun _ _=>rfl))) (ad aj)) (sS T 2 rfl b_min (ad (aa T 4 rfl))) (ss T 3 rfl b_max (ad (aa T 4 rfl)))))
      (ao (cX (df T.hu (ad (aa T 5 rfl)) (ad (aa T 3 rfl))) (av (aM (aa T 3 rfl))) cw)
      (ao (aB T 6 rfl (dI (ad (aa T 5 rfl)) eI (eG (je (ad (dR T 4 rfl b_len (ad (aa T 2 rfl)))) (ad (eK (ad (aT T.hu (ad (aa T 0 rfl)) (ad (fO T 5 rfl g_MARK)) (fun _ _=>rfl))) (ad aj)))))))
      (ao (cX (df T.hu (ad (bF (ad (aT T.hu (ad (aa T 0 rfl)) (ad (fO T 5 rfl g_MARK)) (fun _ _=>rfl))) (ad aj))) (ad aj)) (av (aM (aS C3 hr T 6 rfl (af (aa T 6 rfl) (af (aa T 2 rfl) (af (aa T 3 rfl) ap))) rfl (ah (ah (ah aE)))))) cw)
      (av (aM (aS C2 hr T 7 rfl (af (aa T 6 rfl) (af (aa T 2 rfl) ap)) rfl (ah (ah aE))))))))))
theorem wJ:bn ["ground","most","beyond","measures","is_rising","number","place","row"] ["ground"] (am j5):=⟨rfl,rfl,rfl,by decide +kernel,rfl,by decide +kernel,by decide +kernel⟩
theorem wq (W:ip K "risen" "risen" j5 f fd) {f1:Addr} {d1:FuncData} {aQ:jV} (C1:kc P w K mg base k "beyond_all" ["ground"] aQ f1 d1) {f2:Addr} {d2:FuncData} {aZ:jV} (C2:kc P w K mg base k "filled" ["head","most"] aZ f2 d2) {f0:Addr} {d0:FuncData} {bh:jV} (C0:kc P w K mg base k "most_counts" ["ground"] bh f0 d0) {f4:Addr} {d4:FuncData} {bg:jV} (C4:kc P w K mg base k "row_asked" ["place","measures","most","beyond"] bg f4 d4) (b_enumerate:mg "enumerate" = none) (b_tuple:mg "tuple" = none) :
    bC P w K mg base (dE P w mg) (k+1) f fd ["ground"] (eU (eX 8 (mt aQ aZ bh bg)) 1):=by
  refine aR W wJ (G:=["most_counts","beyond_all","enumerate","row_asked","tuple"]) (by decide +kernel) fun cdv A outer s H E hr T=>?_
  exact (ao (aB T 1 rfl (aS C0 hr T 0 rfl (af (aa T 0 rfl) ap) rfl (ah aE)))
      (ao (aB T 2 rfl (aS C1 hr T 1 rfl (af (aa T 0 rfl) ap) rfl (ah aE)))
      (ao (fL 3 rfl (N:=["place","most"]) (own:=1) (G:=["filled"]) (fr:=[1]) T rfl rfl (oN:=["ground","most","beyond","measures","is_rising","number","place","row"]) (on:=(am j5).names) (by decide +kernel) (bJ (aa T 0 rfl)) (bH (by decide)) (fun cl C s' H' fp E' T=>⟨(aO T 0 rfl),dY,(aS C2 hr T 0 rfl (af (dU ap) (af (aa T 1 rfl) ap)) rfl (ah (ah aE)))⟩))
      (ao (aB T 4 rfl bY)
      (ao (cz (have T:=T.nox;k9 1000000 PassesOwn.never (jD (aa T 4 rfl)) (ao (aB T 4 rfl bY)
      (av (cz (have T:=T.nox;dB PassesOwn.never T.calm (sI T 2 rfl b_enumerate (aa T 0 rfl)) (sQ T 5 6 rfl rfl) (ao (aB T 7 rfl (pI 3 (aS C4 hr T 3 rfl (af (aa T 6 rfl) (af (aa T 3 rfl) (af (aa T 1 rfl) (af (aa T 2 rfl) ap)))) rfl (ah (ah (ah (ah aE)))))))
      (av (cX (sr T.hu (ad (aa T 7 rfl)) (ad (aT T.hu (gu T 3 rfl) (ad (aa T 5 rfl)) (fun _ _=>rfl)))) (ao (rX T 3 rfl (have T:=T.nox;(aa T 5 rfl)) (aa T 7 rfl))
      (av (aB T 4 rfl bY))) cw)))))))))
      (av (aM (dk T 4 rfl b_tuple (gu T 3 rfl)))))))))
theorem lf:bn ["ground","beyond"] ["ground"] (am dP):=⟨rfl,rfl,rfl,by decide +kernel,rfl,by decide +kernel,by decide +kernel⟩
theorem lh (W:ip K "by_measures" "by_measures" dP f fd) {f1:Addr} {d1:FuncData} {aQ:jV} (C1:kc P w K mg base k "beyond_all" ["ground"] aQ f1 d1) {f5:Addr} {d5:FuncData} {eB:jV} (C5:kc P w K mg base k "risen" ["ground"] eB f5 d5) (b_tuple:mg "tuple" = none) :
    bC P w K mg base (dE P w mg) (k+1) f fd ["ground"] (eU (eX 2 (fK aQ eB)) 1):=by
  refine aR W lf (G:=["beyond_all","tuple","risen"]) (by decide +kernel) fun cdv A outer s H E hr T=>?_
  exact (ao (aB T 1 rfl (aS C1 hr T 0 rfl (af (aa T 0 rfl) ap) rfl (ah aE)))
      (av (aM (dk T 1 rfl b_tuple (dh (cc (N:=["row","beyond"]) (own:=1) (G:=[]) (fr:=[1]) T rfl rfl (oN:=["ground","beyond"]) (on:=(am dP).names) (by decide +kernel) (bJ (aS C5 hr T 2 rfl (af (aa T 0 rfl) ap) rfl (ah aE))) (bH (by decide)) (fun cl C s' H' fp E' T=>⟨(aO T 0 rfl),dY,(kK (df T.hu (ad (aa T 0 rfl)) (ad (aa T 1 rfl))) aj aj)⟩)))))))
theorem Au:bn ["_law_script","_law_ground_here","_law_found","_law_who","_law_places","_law_good","_law_moves"] ["_law_script"] (am gN):=⟨rfl,rfl,rfl,by decide +kernel,rfl,by decide +kernel,by decide +kernel⟩
theorem Ac (W:ip K "law" "law" gN f fd) {f18:Addr} {d18:FuncData} {bu:jV} (C18:kc P w K mg base k "_law_choices" ["_law_ground_here","_law_who","_law_places"] bu f18 d18) {f12:Addr} {d12:FuncData} {bN:jV} (C12:kc P w K mg base k "_law_ground" ["_law_script","_law_most"] bN f12 d12) {f17:Addr} {d17:FuncData} {aF:jV} (C17:kc P w K mg base k "_law_wins_by_marks" ["_law_ground_here","_law_who","_law_moves","_law_places"] aF f17 d17) {f6:Addr} {d6:FuncData} {bq:jV} (C6:kc P w K mg base k "by_measures" ["ground"] bq f6 d6) (b_len:mg "len" = none) (b_range:mg "range" = none) (b_tuple:mg "tuple" = none) :
    bC P w K mg base (dE P w mg) (k+1) f fd ["_law_script"] (eU (eX 7 (ve bu bN aF bq)) 1):=by
  refine aR W Au (G:=["tuple","_law_ground","by_measures","range","len","_law_choices","_law_wins_by_marks"]) (by decide +kernel) fun cdv A outer s H E hr T=>?_
  exact (ao (aB T 1 rfl (dk T 0 rfl b_tuple (dh (cc (N:=["_law_place_here"]) (own:=1) (G:=[]) (fr:=[]) T rfl rfl (oN:=["_law_script","_law_ground_here","_law_found","_law_who","_law_places","_law_good","_law_moves"]) (on:=(am gN).names) (by decide +kernel) (bJ (aS C12 hr T 1 rfl (af (aa T 0 rfl) (af aj ap)) rfl (ah (ah aE)))) (bH (by decide)) (fun cl C s' H' fp E' T=>⟨(aO T 0 rfl),dY,(bj (ad (dI (ad (aa T 0 rfl)) eI (eG aj))) (ad (dU (af (dI (ad (aT T.hu (ad (aa T 0 rfl)) (ad aj) (fun _ _=>rfl))) eI (eG aj)) ap))))⟩)))))
      (ao (aB T 2 rfl (aS C6 hr T 2 rfl (af (aa T 1 rfl) ap) rfl (ah aE)))
      (ao (cz (have T:=T.nox;dB PassesOwn.never T.calm (bJ (dU (af aj (af aj ap)))) (aO T 3 rfl) (ao (jl (fL 4 rfl (N:=["_law_place_here","_law_found","_law_who"]) (own:=1) (G:=[]) (fr:=[2,3]) T rfl rfl (oN:=["_law_script","_law_ground_here","_law_found","_law_who","_law_places","_law_good","_law_moves"]) (on:=(am gN).names) (by decide +kernel) (fi T 3 rfl b_range (af (dR T 4 rfl b_len (ad (aa T 1 rfl))) ap) (ah aE)) (bH (by decide)) (fun cl C s' H' fp E' T=>⟨(aO T 0 rfl),(fQ (df T.hu (ad (aT T.hu (ad (aa T 1 rfl)) (ad (aa T 0 rfl)) (fun _ _=>rfl))) (ad (aa T 2 rfl)))),(aa T 0 rfl)⟩)) (show 4 < 7 by decide))
      (ao (aB T 5 rfl bY)
      (ao (cz (have T:=T.nox;dB PassesOwn.never T.calm (bJ (aS C18 hr T 5 rfl (af (aa T 1 rfl) (af (aa T 3 rfl) (af (aa T 4 rfl) ap))) rfl (ah (ah (ah aE))))) (aO T 6 rfl) (av (aB T 5 rfl (xH (aa T 5 rfl) (tQ (aS C17 hr T 6 rfl (af (aa T 1 rfl) (af (aa T 3 rfl) (af (aa T 6 rfl) (af (aa T 4 rfl) ap)))) rfl (ah (ah (ah (ah aE)))))))))))
      (av (cX (lY (jD (aa T 5 rfl))) (av (aM bY)) cw)))))))
      (av (aM bY)))))
end
theorem zh {l:PySem.W.OpenLaw} {w:World} {K:PySem.W.Frag} {h:Heap} {mg:Str->Option Value} {fa:Addr} (X:K.In h) (G:h.Ns mainGlobals mg) (hfa:mg "law" = some (.ref fa))
    {f18:Addr} {od18 an18:Option Addr} {sl18:Array (Option Value)} {oc18 kV18 dc18 pm18 cd18 ct18:Value}
    {f0:Addr} {d0:FuncData} (q0:dz K "_law_choices" dc f0 d0)
    {f1:Addr} {d1:FuncData} (q1:dz K "_law_cell_at" fA f1 d1)
    {f2:Addr} {d2:FuncData} (q2:dz K "_law_mixed" gK f2 d2)
    {f3:Addr} {d3:FuncData} (q3:dz K "_law_drawn" gJ f3 d3)
    {f4:Addr} {d4:FuncData} (q4:dz K "_law_goals" gL f4 d4)
    {f5:Addr} {d5:FuncData} (q5:dz K "_law_place" gS f5 d5)
    {f6:Addr} {d6:FuncData} (q6:dz K "_law_ground" eA f6 d6)
    {f7:Addr} {d7:FuncData} (q7:dz K "_law_ways" gi f7 d7)
    {f8:Addr} {d8:FuncData} (q8:dz K "_law_inside" eD f8 d8)
    {f9:Addr} {d9:FuncData} (q9:dz K "_law_reached" fE f9 d9)
    {f10:Addr} {d10:FuncData} (q10:dz K "_law_wins_by_marks" cp f10 d10)
    {f11:Addr} {d11:FuncData} (q11:dz K "beyond_all" gh f11 d11)
    {f12:Addr} {d12:FuncData} (q12:dz K "filled" jn f12 d12)
    {f13:Addr} {d13:FuncData} (q13:dz K "most_counts" de f13 d13)
    {f14:Addr} {d14:FuncData} (q14:dz K "row_above" hZ f14 d14)
    {f15:Addr} {d15:FuncData} (q15:dz K "row_asked" ft f15 d15)
    {f16:Addr} {d16:FuncData} (q16:dz K "risen" j5 f16 d16)
    {f17:Addr} {d17:FuncData} (q17:dz K "by_measures" dP f17 d17)
    (a18:PySem.W.nsIn K mainGlobals "law" = some (some (.ref f18))) (l18:K.lookup f18=some ⟨oc18,od18,.func (PySem.W.fnOf "law" "law" (cU gN) (bZ gN) (am gN) .none kV18 dc18 pm18 an18 cd18 ct18),sl18⟩) (c18:PySem.W.codeIn K cd18 "law" = true) (k18:PySem.W.keepIn K (.ref f18)=true)
    {t0:Tok} (qg0:PySem.W.nsIn K mainGlobals "GOALS" = some (some (.int 3 t0)))
    {t1:Tok} (qg1:PySem.W.nsIn K mainGlobals "MARK" = some (some (.int 1 t1)))
    {t2:Tok} (qg2:PySem.W.nsIn K mainGlobals "WHO" = some (some (.int 0 t2)))
    (qz0:PySem.W.nsIn K mainGlobals "enumerate" = some none)
    (qz1:PySem.W.nsIn K mainGlobals "int" = some none)
    (qz2:PySem.W.nsIn K mainGlobals "len" = some none)
    (qz3:PySem.W.nsIn K mainGlobals "list" = some none)
    (qz4:PySem.W.nsIn K mainGlobals "max" = some none)
    (qz5:PySem.W.nsIn K mainGlobals "min" = some none)
    (qz6:PySem.W.nsIn K mainGlobals "range" = some none)
    (qz7:PySem.W.nsIn K mainGlobals "sorted" = some none)
    (qz8:PySem.W.nsIn K mainGlobals "tuple" = some none)
    (nl:j9 K=true) :
    j9 K=true/\∃ fd:FuncData,(∀ (s:Shared) (v:Value),BindsTo s fd ⟨[v],[]⟩ [("_law_script",v)])/\∀ base:Heap,K.In base->base.Ns mainGlobals mg->bC l.prog w K mg base (dE l.prog w mg) 6 fa fd ["_law_script"] (eU n4 1):=by
  have e:=hfa.symm.trans (PySem.W.mg_of X G a18);cases e;have b0:bV K d0 ["_law_ground_here","_law_who","_law_places"] []:=BL q0.fn fun _ _ _ _ _ _ _ _ _=>rfl
  have m0:=PySem.W.mg_of X G q0.ns;have b1:bV K d1 ["_law_script","_law_k"] []:=zT q1.fn fun _ _ _ _ _ _ _ _=>rfl
  have m1:=PySem.W.mg_of X G q1.ns;have b2:bV K d2 ["_law_script","_law_k"] []:=zT q2.fn fun _ _ _ _ _ _ _ _=>rfl
  have m2:=PySem.W.mg_of X G q2.ns;have b3:bV K d3 ["_law_number","_law_k"] []:=zT q3.fn fun _ _ _ _ _ _ _ _=>rfl
  have m3:=PySem.W.mg_of X G q3.ns;have b4:bV K d4 ["_law_number","_law_count"] []:=zT q4.fn fun _ _ _ _ _ _ _ _=>rfl
  have m4:=PySem.W.mg_of X G q4.ns;have b5:bV K d5 ["_law_number","_law_count","_law_high"] []:=BL q5.fn fun _ _ _ _ _ _ _ _ _=>rfl
  have m5:=PySem.W.mg_of X G q5.ns;have b6:bV K d6 ["_law_script","_law_most"] []:=zT q6.fn fun _ _ _ _ _ _ _ _=>rfl
  have m6:=PySem.W.mg_of X G q6.ns;have b7:bV K d7 ["_law_ground_here","_law_who","_law_moves","_law_place_here"] []:=Bm q7.fn fun _ _ _ _ _ _ _ _ _ _=>rfl
  have m7:=PySem.W.mg_of X G q7.ns;have b8:bV K d8 ["_law_ground_here","_law_who","_law_moves","_law_places"] []:=Bm q8.fn fun _ _ _ _ _ _ _ _ _ _=>rfl
  have m8:=PySem.W.mg_of X G q8.ns;have b9:bV K d9 ["_law_ground_here","_law_who","_law_moves","_law_start","_law_allowed"] []:=Ci q9.fn fun _ _ _ _ _ _ _ _ _ _ _=>rfl
  have m9:=PySem.W.mg_of X G q9.ns;have b10:bV K d10 ["_law_ground_here","_law_who","_law_moves","_law_places"] []:=Bm q10.fn fun _ _ _ _ _ _ _ _ _ _=>rfl
  have m10:=PySem.W.mg_of X G q10.ns;have b11:bV K d11 ["ground"] []:=Bd q11.fn fun _ _ _ _ _ _ _=>rfl
  have m11:=PySem.W.mg_of X G q11.ns;have b12:bV K d12 ["head","most"] []:=zT q12.fn fun _ _ _ _ _ _ _ _=>rfl
  have m12:=PySem.W.mg_of X G q12.ns;have b13:bV K d13 ["ground"] []:=Bd q13.fn fun _ _ _ _ _ _ _=>rfl
  have m13:=PySem.W.mg_of X G q13.ns;have b14:bV K d14 ["head","most","beyond"] []:=BL q14.fn fun _ _ _ _ _ _ _ _ _=>rfl
  have m14:=PySem.W.mg_of X G q14.ns;have b15:bV K d15 ["place","measures","most","beyond"] []:=Bm q15.fn fun _ _ _ _ _ _ _ _ _ _=>rfl
  have m15:=PySem.W.mg_of X G q15.ns;have b16:bV K d16 ["ground"] []:=Bd q16.fn fun _ _ _ _ _ _ _=>rfl
  have m16:=PySem.W.mg_of X G q16.ns;have b17:bV K d17 ["ground"] []:=Bd q17.fn fun _ _ _ _ _ _ _=>rfl
  have m17:=PySem.W.mg_of X G q17.ns;have F18:=tF (st:=gN) l18 c18 k18;have h0:=PySem.W.mg_of X G qg0;have h1:=PySem.W.mg_of X G qg1;have h2:=PySem.W.mg_of X G qg2;have y0:=PySem.W.mg_none_of X G qz0;have y1:=PySem.W.mg_none_of X G qz1;have y2:=PySem.W.mg_none_of X G qz2;have y3:=PySem.W.mg_none_of X G qz3;have y4:=PySem.W.mg_none_of X G qz4;have y5:=PySem.W.mg_none_of X G qz5;have y6:=PySem.W.mg_none_of X G qz6;have y7:=PySem.W.mg_none_of X G qz7;have y8:=PySem.W.mg_none_of X G qz8;refine ⟨nl,PySem.W.fnOf "law" "law" (cU gN) (bZ gN) (am gN) .none kV18 dc18 pm18 an18 cd18 ct18,fun s v=>.of_eq rfl,fun base _ _=>?_⟩;have Q0:bC l.prog w K mg base (dE l.prog w mg) 1 f0 _ ["_law_ground_here","_law_who","_law_places"] (eU bu 3):=ld (k:=0) (W:=q0.fn) (b_len:=y2) (b_range:=y6);have Q1:bC l.prog w K mg base (dE l.prog w mg) 1 f1 _ ["_law_script","_law_k"] (eU bB 2):=lA (k:=0) (W:=q1.fn) (b_len:=y2);have Q2:bC l.prog w K mg base (dE l.prog w mg) 2 f2 _ ["_law_script","_law_k"] (eU bD 2):=ox (k:=1) (W:=q2.fn) (C7:=⟨Q1.mono (by decide),m1,q1.fn.kp,b1⟩);have Q3:bC l.prog w K mg base (dE l.prog w mg) 1 f3 _ ["_law_number","_law_k"] (eU aX 2):=nY (k:=0) (W:=q3.fn);have Q4:bC l.prog w K mg base (dE l.prog w mg) 2 f4 _ ["_law_number","_law_count"] (eU ci 2):=nQ (k:=1) (W:=q4.fn) (C9:=⟨Q3.mono (by decide),m3,q3.fn.kp,b3⟩) (b_int:=y1) (b_range:=y6) (b_sorted:=y7) (b_tuple:=y8);have Q5:bC l.prog w K mg base (dE l.prog w mg) 3 f5 _ ["_law_number","_law_count","_law_high"] (eU bO 3):=nD (k:=2) (W:=q5.fn) (C9:=⟨Q3.mono (by decide),m3,q3.fn.kp,b3⟩) (C10:=⟨Q4.mono (by decide),m4,q4.fn.kp,b4⟩);have Q6:bC l.prog w K mg base (dE l.prog w mg) 4 f6 _ ["_law_script","_law_most"] (eU bN 2):=l9 (k:=3) (W:=q6.fn) (C8:=⟨Q2.mono (by decide),m2,q2.fn.kp,b2⟩) (C11:=⟨Q5.mono (by decide),m5,q5.fn.kp,b5⟩) (b_len:=y2) (b_max:=y4) (b_min:=y5) (b_range:=y6) (b_tuple:=y8);have Q7:bC l.prog w K mg base (dE l.prog w mg) 1 f7 _ ["_law_ground_here","_law_who","_law_moves","_law_place_here"] (eU aP 4):=ql (k:=0) (W:=q7.fn) (b_list:=y3);have Q8:bC l.prog w K mg base (dE l.prog w mg) 2 f8 _ ["_law_ground_here","_law_who","_law_moves","_law_places"] (eU bM 4):=mh (k:=1) (W:=q8.fn) (C14:=⟨Q7.mono (by decide),m7,q7.fn.kp,b7⟩);have Q9:bC l.prog w K mg base (dE l.prog w mg) 2 f9 _ ["_law_ground_here","_law_who","_law_moves","_law_start","_law_allowed"] (eU br 5):=lz (k:=1) (W:=q9.fn) (C14:=⟨Q7.mono (by decide),m7,q7.fn.kp,b7⟩);have Q10:bC l.prog w K mg base (dE l.prog w mg) 3 f10 _ ["_law_ground_here","_law_who","_law_moves","_law_places"] (eU aF 4):=iq (k:=2) (W:=q10.fn) (C16:=⟨Q8.mono (by decide),m8,q8.fn.kp,b8⟩) (C15:=⟨Q9.mono (by decide),m9,q9.fn.kp,b9⟩);have Q11:bC l.prog w K mg base (dE l.prog w mg) 1 f11 _ ["ground"] (eU aQ 1):=mI (k:=0) (W:=q11.fn) (b_len:=y2);have Q12:bC l.prog w K mg base (dE l.prog w mg) 1 f12 _ ["head","most"] (eU aZ 2):=vI (k:=0) (W:=q12.fn) (b_len:=y2) (b_tuple:=y8);have Q13:bC l.prog w K mg base (dE l.prog w mg) 1 f13 _ ["ground"] (eU bh 1):=lq (k:=0) (W:=q13.fn) (g_MARK:=h1) (b_max:=y4) (b_range:=y6) (b_tuple:=y8);have Q14:bC l.prog w K mg base (dE l.prog w mg) 2 f14 _ ["head","most","beyond"] (eU cg 3):=nz (k:=1) (W:=q14.fn) (C2:=⟨Q12.mono (by decide),m12,q12.fn.kp,b12⟩) (b_len:=y2) (b_range:=y6);have Q15:bC l.prog w K mg base (dE l.prog w mg) 3 f15 _ ["place","measures","most","beyond"] (eU bg 4):=nA (k:=2) (W:=q15.fn) (C2:=⟨Q12.mono (by decide),m12,q12.fn.kp,b12⟩) (C3:=⟨Q14.mono (by decide),m14,q14.fn.kp,b14⟩) (g_GOALS:=h0) (g_MARK:=h1) (g_WHO:=h2) (b_len:=y2) (b_max:=y4) (b_min:=y5);have Q16:bC l.prog w K mg base (dE l.prog w mg) 4 f16 _ ["ground"] (eU eB 1):=wq (k:=3) (W:=q16.fn) (C1:=⟨Q11.mono (by decide),m11,q11.fn.kp,b11⟩) (C2:=⟨Q12.mono (by decide),m12,q12.fn.kp,b12⟩) (C0:=⟨Q13.mono (by decide),m13,q13.fn.kp,b13⟩) (C4:=⟨Q15.mono (by decide),m15,q15.fn.kp,b15⟩) (b_enumerate:=y0) (b_tuple:=y8);have Q17:bC l.prog w K mg base (dE l.prog w mg) 5 f17 _ ["ground"] (eU bq 1):=lh (k:=4) (W:=q17.fn) (C1:=⟨Q11.mono (by decide),m11,q11.fn.kp,b11⟩) (C5:=⟨Q16.mono (by decide),m16,q16.fn.kp,b16⟩) (b_tuple:=y8);have Q18:bC l.prog w K mg base (dE l.prog w mg) 6 fa _ ["_law_script"] (eU n4 1):=Ac (k:=5) (W:=F18) (C18:=⟨Q0.mono (by decide),m0,q0.fn.kp,b0⟩) (C12:=⟨Q6.mono (by decide),m6,q6.fn.kp,b6⟩) (C17:=⟨Q10.mono (by decide),m10,q10.fn.kp,b10⟩) (C6:=⟨Q17.mono (by decide),m17,q17.fn.kp,b17⟩) (b_len:=y2) (b_range:=y6) (b_tuple:=y8);exact Q18
end G
open PySem PySem.W PyProof.Rows
set_option maxRecDepth 100000 in
set_option maxHeartbeats 0 in
theorem PySem.Challenge.cw_duelground_k32_whole_measures_holds : PySem.Challenge.rw_duelground_k32_whole_measures.Holds := by
  w_on;o_law;k_head;(case hw=>w_witness2)
  k_fill
  refine D2.BR (l:=PySem.Challenge.rw_duelground_k32_whole_measures) (k:=6) (x := "_law_script") (F:=G.n4) rfl rfl ⟨rfl,by decide,by decide⟩ (fun w h Y=>PySem.W.kIn_of Y) G.va ?F
  case F =>
    intro w mg fa h KX GG hmg;refine' G.zh KX GG hmg ?q0 ?q1 ?q2 ?q3 ?q4 ?q5 ?q6 ?q7 ?q8 ?q9 ?q10 ?q11 ?q12 ?q13 ?q14 ?q15 ?q16 ?q17 ?a18 ?l18 ?c18 ?k18 ?qg0 ?qg1 ?qg2 ?qz0 ?qz1 ?qz2 ?qz3 ?qz4 ?qz5 ?qz6 ?qz7 ?qz8 ?nl
    (case q0=>refine' D2.bA ?a ?l ?c ?k;(case a=>k_is);(case l=>k_is);(case c=>k_is);(case k=>k_is))
    (case q1=>refine' D2.bA ?a ?l ?c ?k;(case a=>k_is);(case l=>k_is);(case c=>k_is);(case k=>k_is))
    (case q2=>refine' D2.bA ?a ?l ?c ?k;(case a=>k_is);(case l=>k_is);(case c=>k_is);(case k=>k_is))
    (case q3=>refine' D2.bA ?a ?l ?c ?k;(case a=>k_is);(case l=>k_is);(case c=>k_is);(case k=>k_is))
    (case q4=>refine' D2.bA ?a ?l ?c ?k;(case a=>k_is);(case l=>k_is);(case c=>k_is);(case k=>k_is))
    (case q5=>refine' D2.bA ?a ?l ?c ?k;(case a=>k_is);(case l=>k_is);(case c=>k_is);(case k=>k_is))
    (case q6=>refine' D2.bA ?a ?l ?c ?k;(case a=>k_is);(case l=>k_is);(case c=>k_is);(case k=>k_is))
    (case q7=>refine' D2.bA ?a ?l ?c ?k;(case a=>k_is);(case l=>k_is);(case c=>k_is);(case k=>k_is))
    (case q8=>refine' D2.bA ?a ?l ?c ?k;(case a=>k_is);(case l=>k_is);(case c=>k_is);(case k=>k_is))
    (case q9=>refine' D2.bA ?a ?l ?c ?k;(case a=>k_is);(case l=>k_is);(case c=>k_is);(case k=>k_is))
    (case q10=>refine' D2.bA ?a ?l ?c ?k;(case a=>k_is);(case l=>k_is);(case c=>k_is);(case k=>k_is))
    (case q11=>refine' D2.bA ?a ?l ?c ?k;(case a=>k_is);(case l=>k_is);(case c=>k_is);(case k=>k_is))
    (case q12=>refine' D2.bA ?a ?l ?c ?k;(case a=>k_is);(case l=>k_is);(case c=>k_is);(case k=>k_is))
    (case q13=>refine' D2.bA ?a ?l ?c ?k;(case a=>k_is);(case l=>k_is);(case c=>k_is);(case k=>k_is))
    (case q14=>refine' D2.bA ?a ?l ?c ?k;(case a=>k_is);(case l=>k_is);(case c=>k_is);(case k=>k_is))
    (case q15=>refine' D2.bA ?a ?l ?c ?k;(case a=>k_is);(case l=>k_is);(case c=>k_is);(case k=>k_is))
    (case q16=>refine' D2.bA ?a ?l ?c ?k;(case a=>k_is);(case l=>k_is);(case c=>k_is);(case k=>k_is))
    (case q17=>refine' D2.bA ?a ?l ?c ?k;(case a=>k_is);(case l=>k_is);(case c=>k_is);(case k=>k_is))
    (case a18=>k_is)
    (case l18=>k_is)
    (case c18=>k_is)
    (case k18=>k_is)
    (case qg0=>k_is)
    (case qg1=>k_is)
    (case qg2=>k_is)
    (case qz0=>k_is)
    (case qz1=>k_is)
    (case qz2=>k_is)
    (case qz3=>k_is)
    (case qz4=>k_is)
    (case qz5=>k_is)
    (case qz6=>k_is)
    (case qz7=>k_is)
    (case qz8=>k_is)
    (case nl=>first | rfl | k_is | decide)

import PyProof.Rows.All
import Wide.All
import OpenK.AllK
import Wide.FinOn
import Lean
import PyProof.EqAt
import PyProof.EqKinds
import PyProof.TupleCall
import PySem.Challenge.RW_duelground_k82_watchers
set_option Elab.async false
set_option linter.all false
set_option maxRecDepth 100000
namespace L2
open PySem PySem.Spec PyProof.Rows
noncomputable abbrev cZ:=Sum Int Str
noncomputable def kx:cZ->Value->Bool
  | .inl k,v=>Value.isInt k v
  | .inr x,v=>Value.isStrOf x v
noncomputable def wx (w:World):cZ->Int
  | .inl k=>hashInt k
  | .inr x=>hashStr w x
theorem bV:∀ {k:cZ} {v:Value},kx k v=true->(∃ i t,k=Sum.inl i/\v=Value.int i t)\/(∃ x t,k=Sum.inr x/\v=Value.str x t)
  | .inl i,v,h=>by
    obtain ⟨t,e⟩:=Value.isInt_shape (k:=i) (v:=v) h;exact .inl ⟨i,t,rfl,e⟩
  | .inr x,v,h=>by
    obtain ⟨t,e⟩:=Value.isStrOf_shape (x:=x) (v:=v) h;exact .inr ⟨x,t,rfl,e⟩
theorem oM (i:Int) (t:Tok):kx (.inl i) (.int i t)=true:=by simp [kx,Value.isInt]
theorem oA (x:Str) (t:Tok):kx (.inr x) (.str x t)=true:=by simp [kx,Value.isStrOf]
theorem uR (a b:Int):decide ((Sum.inl a:cZ)=Sum.inl b)=(a==b):=by
  by_cases e:a=b
  · subst e;simp
  · have h:¬ (Sum.inl a:cZ)=Sum.inl b:=fun q=>e (Sum.inl.inj q)
    rw [decide_eq_false h];exact (beq_eq_false_iff_ne.mpr e).symm
theorem tL (a b:Str):decide ((Sum.inr a:cZ)=Sum.inr b)=decide (a=b):=by
  by_cases e:a=b
  · subst e;simp
  · have h:¬ (Sum.inr a:cZ)=Sum.inr b:=fun q=>e (Sum.inr.inj q)
    rw [decide_eq_false h,decide_eq_false e]
theorem ue (a:Int) (b:Str):decide ((Sum.inl a:cZ)=Sum.inr b)=false:=decide_eq_false (fun q=>nomatch q)
theorem u3 (a:Str) (b:Int):decide ((Sum.inr a:cZ)=Sum.inl b)=false:=decide_eq_false (fun q=>nomatch q)
noncomputable def dl (prog:Program) (w:World):PySem.KeyKind prog w cZ where
  is:=kx
  hash:=wx w
  inj:=fun v a b ha hb=>by
    rcases bV ha with ⟨i,t,rfl,rfl⟩ | ⟨x,t,rfl,rfl⟩
    · rcases bV hb with ⟨j,u,rfl,e⟩ | ⟨y,u,rfl,e⟩
      · injection e with e1 _;rw [e1]
      · exact nomatch e
    · rcases bV hb with ⟨j,u,rfl,e⟩ | ⟨y,u,rfl,e⟩
      · exact nomatch e
      · injection e with e1 _;rw [e1]
  byValue:=fun k v h=>by
    rcases bV h with ⟨i,t,rfl,rfl⟩ | ⟨x,t,rfl,rfl⟩ <;> rfl
  pyHash:=fun hv h=>by
    rcases bV hv with ⟨i,t,rfl,rfl⟩ | ⟨x,t,rfl,rfl⟩
    · exact wpAny_pyHash_int h
    · exact wpAny_pyHash_str h
  eqBool:=fun hu hv h=>by
    rcases bV hu with ⟨i,t,rfl,rfl⟩ | ⟨x,t,rfl,rfl⟩
    · rcases bV hv with ⟨j,u,rfl,rfl⟩ | ⟨y,u,rfl,rfl⟩
      · rw [uR] at h;exact wpAny_eqBool_int h
      · rw [ue] at h;exact SeqAt.EqAt.int_str i t y u _ _ _ _ h
    · rcases bV hv with ⟨j,u,rfl,rfl⟩ | ⟨y,u,rfl,rfl⟩
      · rw [u3] at h;exact SeqAt.EqAt.str_int x t j u _ _ _ _ h
      · rw [tL] at h;exact wpAny_eqBool_str h
  «strs»:=fun k x t v h=>by
    rcases bV h with ⟨i,u,rfl,e⟩ | ⟨y,u,rfl,e⟩
    · exact nomatch e
    · injection e with e1 _
      subst e1;cases v <;> rfl
theorem lQ (prog:Program) (w:World) (i:Int) (t:Tok):(dl prog w).is (.inl i) (.int i t)=true:=oM i t
theorem md (prog:Program) (w:World) (x:Str) (t:Tok):(dl prog w).is (.inr x) (.str x t)=true:=oA x t
inductive V where
  | non | bl (b:Bool) | int (i:Int) | str (x:Str) | byt (b:Array UInt8) | flt (b:UInt64) | ref (a:Addr) | ty (n:String)
  deriving DecidableEq
noncomputable def bC:V->Value->Prop
  | .non,u=>u=Value.none
  | .bl b,u=>u=Value.bool b
  | .int i,u=>∃ t,u=Value.int i t
  | .str x,u=>∃ t,u=Value.str x t
  | .byt b,u=>∃ t,u=Value.bytes b t
  | .flt b,u=>∃ t,u=Value.float b t
  | .ref a,u=>u=Value.ref a
  | .ty n,u=>u=Value.type n
noncomputable abbrev aV:List V->List Value->Prop:=Paired bC
theorem aV.length {xs:List V} {us:List Value} (r:aV xs us):xs.length=us.length:=Paired.length r
theorem aV.get:∀ {xs:List V} {us:List Value} {i:Nat} {x:V},aV xs us->xs[i]?=some x->∃ u,us[i]?=some u/\bC x u
  | _,_,_,_,.nil,e=>by simp at e
  | _,_,0,_,.cons r _,e=>by simp at e;subst e;exact ⟨_,rfl,r⟩
  | _,_,i+1,x,.cons _ t,e=>by
    obtain ⟨u,h1,h2⟩:=aV.get (i:=i) (x:=x) t (by simpa using e);exact ⟨u,by simpa using h1,h2⟩
theorem aV.append:∀ {xs ys:List V} {us ws:List Value},aV xs us->aV ys ws->aV (xs++ys) (us++ws)
  | _,_,_,_,.nil,s=>s
  | _,_,_,_,.cons r t,s=>.cons r (aV.append t s)
theorem aV.take:∀ {xs:List V} {us:List Value} (n:Nat),aV xs us->aV (xs.take n) (us.take n)
  | _,_,0,_=>.nil
  | _,_,_+1,.nil=>.nil
  | _,_,n+1,.cons r t=>.cons r (aV.take n t)
theorem aV.drop:∀ {xs:List V} {us:List Value} (n:Nat),aV xs us->aV (xs.drop n) (us.drop n)
  | _,_,0,r=>r
  | _,_,_+1,.nil=>.nil
  | _,_,n+1,.cons _ t=>aV.drop n t
noncomputable def jE:Option V->Option Value->Prop
  | some v,some u=>bC v u
  | none,none=>True
  | _,_=>False
noncomputable def KV {κ:Type}:List (κ×V)->List (κ×Value)->Prop:=Paired fun (p:κ×V) (q:κ×Value)=>p.1=q.1/\bC p.2 q.2
noncomputable def kV:cZ->V
  | .inl i=>.int i
  | .inr x=>.str x
inductive HO where
  /-- a list -/
  | lst (xs:List V)
  /-- a tuple (never changes) -/
  | tup (xs:List V)
  /-- a dict whose keys are ints and texts;one whose keys are tuples of ints and texts (the empty one is both) -/
  | dK (kvs:List (cZ×V)) | dT (kvs:List (List cZ×V))
  /-- a set of ints: its members,its size -/
  | set (S:Int->Bool) (n:Nat)
  /-- an instance of the class at C,its dict at dx,its attributes -/
  | ins (C dx:Addr) (fs:List (Str×V))
  /-- the dict of the instance at x -/
  | own (x:Addr)
  /-- the dict of an exception -/
  | xd (fs:List (Str×V))
  /-- a bound method,f of x -/
  | met (f x:Addr)
  /-- a range object lo,lo+1,.. below hi -/
  | rng (lo hi:Int)
  /-- a thing that is known to the object (the script;a dict while a loop walks it): read,never written while it is so -/
  | frz (o:Obj) (u:HO)
  /-- a code object's table -/
  | tbl (ps:Array Value)
  /-- any other thing,by what is true of its one object (a def of one's own: SetO a S n:=HO.ext fun h=>..) -/
  | ext (φ:Heap->Prop)
noncomputable abbrev Hp:=Addr->Option HO
noncomputable def cU (H:Hp) (a:Addr) (o:HO):Hp:=fun b=>if b=a then some o else H b
theorem cr {H:Hp} {a:Addr} {o:HO}:cU H a o a=some o:=by unfold cU;rw [if_pos rfl]
theorem aJ {H:Hp} {a b:Addr} {o:HO} (h:b≠a):cU H a o b=H b:=by unfold cU;rw [if_neg h]
theorem bE {H:Hp} {a b:Addr} {o:HO} (h:H a=some o) (h':H b=none):a≠b:=by
  intro e;subst e;rw [h] at h';cases h'
section
variable (P:Program) (w:World)
noncomputable def bP (H:Hp) (h:Heap) (a:Addr):HO->Prop
  | .lst xs=>xs.length<=sizeLine/\∃ (its:List Value) (n:Nat),aV xs its/\h.get? a=some { cls:=.type "list",data:=.seq its.toArray n }
  | .tup xs=>xs.length<=sizeLine/\∃ its:List Value,aV xs its/\IsTup h a its.toArray
  | .dK kvs=>kvs.length<=sizeLine/\(a==sysModules)=false/\∃ vs,KV kvs vs/\h.DictOf (dl P w) a vs
  | .dT kvs=>kvs.length<=sizeLine/\(a==sysModules)=false/\∃ xs:List (List cZ×Addr×Value),
      Paired (fun (p:List cZ×V) (q:List cZ×Addr×Value)=>p.1=q.1/\H q.2.1=some (.tup (p.1.map kV))/\bC p.2 q.2.2) kvs xs /\
      ∃ o es ep,h.get? a=some o/\o.ExactDict/\o.data=.dict es ep/\es.toList=xs.map (entryOfKey (tupleKind (dl P w)))/\(xs.map (·.1)).Nodup
  | .set S n=>h.SetOf (intKind P w) a S n
  | .ins C dx fs=>H dx=some (.own a)/\fs.length<=1000/\dx≠a/\h.get? a=some (PySem.W.instObj C dx) /\
      ∃ mA,h.Ns1 dx mA/\(∀ f,jE (fs.lookup f) (mA f))/\PySem.Within mA (fs.map (·.1))
  | .own _=>∃ o,h.get? a=some o
  | .xd fs=>∃ mA,h.Ns1 a mA/\∀ f,jE (fs.lookup f) (mA f)
  | .rng lo hi=>∃ t u v,h.get? a=some { cls:=.type "range",data:=.fields #[.int lo t,.int hi u,.int 1 v] }
  | .frz o u=>h.get? a=some o/\bP H h a u
  | .tbl ps=>h.get? a=some { cls:=.none,data:=.fields ps }
  | .met f x=>h.get? a=some (PySem.W.methodObj (.ref f) (.ref x))
  | .ext φ=>φ h/\(∃ o,h.get? a=some o)/\∀ h1 h2:Heap,φ h1->(∀ o,h1.get? a=some o->h2.get? a=some o)->φ h2
noncomputable def eS (H:Hp) (h:Heap):Prop:=∀ a o,H a=some o->bP P w H h a o
end
section
variable {P:Program} {w:World} {H H':Hp} {h h':Heap} {a:Addr} {o:HO}
theorem bP.lt (x:bP P w H h a o):a < h.objs.size:=by
  cases o with
  | lst xs=>obtain ⟨_,_,_,_,e⟩:=x;exact Heap.lt_size e
  | tup xs=>obtain ⟨_,_,_,p⟩:=x;exact p.lt
  | dK kvs=>obtain ⟨_,_,_,_,o,_,_,e,_⟩:=x;exact Heap.lt_size e
  | dT kvs=>obtain ⟨_,_,_,_,o,_,_,e,_⟩:=x;exact Heap.lt_size e
  | set S n=>obtain ⟨o,_,_,_,e,_⟩:=x;exact Heap.lt_size e
  | ins C dx fs=>obtain ⟨_,_,_,e,_⟩:=x;exact Heap.lt_size e
  | own y=>obtain ⟨_,e⟩:=x;exact Heap.lt_size e
  | xd fs=>obtain ⟨_,⟨_,_,_,e,_⟩,_⟩:=x;exact Heap.lt_size e
  | rng lo hi=>obtain ⟨_,_,_,e⟩:=x;exact Heap.lt_size e
  | frz ob u=>obtain ⟨e,_⟩:=x;exact Heap.lt_size e
  | tbl ps=>exact Heap.lt_size (show h.get? a=some _ from x)
  | met f y=>exact Heap.lt_size (show h.get? a=some _ from x)
  | ext φ=>obtain ⟨_,⟨_,e⟩,_⟩:=x;exact Heap.lt_size e
theorem Paired.mapP {α β:Type} {F G:α->β->Prop}:∀ {l₁:List α} {l₂:List β},Paired F l₁ l₂->(∀ a b,F a b->G a b)->Paired G l₁ l₂
  | _,_,.nil,_=>.nil
  | _,_,.cons r t,f=>.cons (f _ _ r) (Paired.mapP t f)
theorem bP.stay (x:bP P w H h a o) (k:∀ b u,(b=a\/H b=some (.own a))->h.get? b=some u->h'.get? b=some u)
    (ho:∀ b,H b=some (.own a)->H' b=some (.own a)) (ht:∀ b xs,H b=some (.tup xs)->H' b=some (.tup xs)):bP P w H' h' a o:=by
  induction o with
  | lst xs=>obtain ⟨z,its,n,r,e⟩:=x;exact ⟨z,its,n,r,k _ _ (.inl rfl) e⟩
  | tup xs=>obtain ⟨z,its,r,ob,e,c⟩:=x;exact ⟨z,its,r,ob,k _ _ (.inl rfl) e,c⟩
  | dK kvs=>obtain ⟨z,y,vs,r,ob,es,ep,e,c⟩:=x;exact ⟨z,y,vs,r,ob,es,ep,k _ _ (.inl rfl) e,c⟩
  | dT kvs =>
    obtain ⟨z,y,xs,r,ob,es,ep,e,c⟩:=x;exact ⟨z,y,xs,Paired.mapP r fun p q z=>⟨z.1,ht _ _ z.2.1,z.2.2⟩,ob,es,ep,k _ _ (.inl rfl) e,c⟩
  | set S n=>obtain ⟨ob,es,ep,t,e,c⟩:=x;exact ⟨ob,es,ep,t,k _ _ (.inl rfl) e,c⟩
  | ins C dx fs =>
    obtain ⟨d,z,ne,e,mA,⟨od,es,ep,e2,c⟩,r⟩:=x;exact ⟨ho _ d,z,ne,k _ _ (.inl rfl) e,mA,⟨od,es,ep,k _ _ (.inr d) e2,c⟩,r⟩
  | own y=>obtain ⟨ob,e⟩:=x;exact ⟨ob,k _ _ (.inl rfl) e⟩
  | xd fs=>obtain ⟨mA,⟨od,es,ep,e,c⟩,r⟩:=x;exact ⟨mA,⟨od,es,ep,k _ _ (.inl rfl) e,c⟩,r⟩
  | rng lo hi=>obtain ⟨t,u,v,e⟩:=x;exact ⟨t,u,v,k _ _ (.inl rfl) e⟩
  | frz ob u ih=>obtain ⟨e,q⟩:=x;exact ⟨k _ _ (.inl rfl) e,ih q⟩
  | tbl ps =>
    have e:h.get? a=some { cls:=.none,data:=.fields ps }:=x;show h'.get? a=some { cls:=.none,data:=.fields ps };exact k a _ (.inl rfl) e
  | met f y =>
    have e:h.get? a=some (PySem.W.methodObj (.ref f) (.ref y)):=x;show h'.get? a=some (PySem.W.methodObj (.ref f) (.ref y));exact k a _ (.inl rfl) e
  | ext φ=>obtain ⟨p,⟨o,e⟩,st⟩:=x;exact ⟨st _ _ p fun o q=>k _ _ (.inl rfl) q,⟨o,k _ _ (.inl rfl) e⟩,st⟩
theorem eS.lt (x:eS P w H h) (e:H a=some o):a < h.objs.size:=(x a o e).lt
theorem eS.fresh (x:eS P w H h) (e:h.objs.size<=a):H a=none:=by
  cases q:H a with
  | none=>rfl
  | some u=>exact absurd (Nat.lt_of_lt_of_le (x.lt q) e) (Nat.lt_irrefl _)
theorem eS.kept (x:eS P w H h) (k:∀ b u,h.get? b=some u->h'.get? b=some u):eS P w H h':=fun a o e =>
  (x a o e).stay (fun b u _ q=>k b u q) (fun _ q=>q) fun _ _ q=>q
theorem eS.laid (x:eS P w H h) (k:∀ b u,h.get? b=some u->h'.get? b=some u) (hp:h.objs.size<=a) (new:bP P w (cU H a o) h' a o):eS P w (cU H a o) h':=fun b u e=>by
  have hn:=x.fresh hp;by_cases hb:b=a
  · subst hb;rw [cr] at e;cases e;exact new
  · rw [aJ hb] at e;exact (x b u e).stay (fun c v _ q=>k c v q) (fun c q=>by rw [aJ (bE q hn)];exact q) fun c xs q=>by rw [aJ (bE q hn)];exact q
end
noncomputable def Rd (H:Hp) (a:Addr) (u:HO):Prop:=H a=some u\/∃ o,H a=some (.frz o u)
theorem Rd.ok {P:Program} {w:World} {H:Hp} {h:Heap} {a:Addr} {u:HO} (r:Rd H a u) (x:eS P w H h):bP P w H h a u:=by
  rcases r with r | ⟨o,r⟩
  · exact x a u r
  · obtain ⟨_,q⟩:=x a _ r;exact q
noncomputable def wc:Option HO->Prop
  | some (.lst _)=>True
  | some (.dK _)=>True
  | some (.dT _)=>True
  | some (.set _ _)=>True
  | some (.ins _ _ _)=>True
  | some (.ext _)=>True
  | _=>False
section
variable {P:Program} {w:World} {H:Hp} {h h':Heap} {x e:Addr} {o':HO}
theorem eS.write (ok:eS P w H h) (mu:wc (H x)) (he:e=x\/H e=some (.own x)) (k:∀ b u,b≠e->h.get? b=some u->h'.get? b=some u) (heo:∃ u,h'.get? e=some u)
    (new:bP P w (cU H x o') h' x o'):eS P w (cU H x o') h':=fun b u q=>by
  have nown:∀ c y,H c=some (.own y)->c≠x:=fun c y r z=>by subst z;rw [r] at mu;exact mu
  have ntup:∀ c xs,H c=some (.tup xs)->c≠x:=fun c xs r z=>by subst z;rw [r] at mu;exact mu
  by_cases hb:b=x
  · subst hb;rw [cr] at q;cases q;exact new
  · rw [aJ hb] at q;by_cases hbe:b=e
    · have q':H b=some (.own x):=by
        rcases he with z | z
        · exact absurd (hbe.trans z) hb
        · rw [hbe];exact z
      rw [q] at q';cases q';obtain ⟨v,hv⟩:=heo;exact ⟨v,by rw [hbe];exact hv⟩
    · refine (ok b u q).stay (fun c v hc r=>k c v ?_ r) (fun c r=>by rw [aJ (nown c b r)];exact r) fun c xs r=>by rw [aJ (ntup c xs r)];exact r
      rcases hc with rfl | hc
      · exact hbe
      · rintro rfl;rcases he with z | z
        · exact nown c b hc z
        · rw [hc] at z;cases z;exact hb rfl
end
structure Un (fs ex:List Addr) (H H':Hp) (h h':Heap):Prop where
  keep:∀ b o,h.get? b=some o->H b=none->b∉fs->b∉ex->h'.get? b=some o
  slot:∀ b o,h.get? b=some o->H b=none->b∈fs->b∉ex->∃ sl,h'.get? b=some { o with slots:=sl }
  free:∀ b o,h.get? b=some o->H b=none->b∉ex->H' b=none
  there:∀ b o,h.get? b=some o->b∉ex->∃ o',h'.get? b=some o'
  tups:∀ b xs,H b=some (.tup xs)->H' b=some (.tup xs)
  frzs:∀ b o u,H b=some (.frz o u)->H' b=some (.frz o u)
  tbls:∀ b ps,H b=some (.tbl ps)->∃ more,H' b=some (.tbl (ps++more))
section
variable {fs fs' ex ex':List Addr} {H H1 H2:Hp} {h h1 h2 h':Heap} {a x e:Addr} {o:HO}
theorem Un.any (u:Un fs ex H H1 h h1) {b:Addr} {ob:Obj} (q:h.get? b=some ob) (n:H b=none) (hx:b∉ex):∃ sl,h1.get? b=some { ob with slots:=sl }:=by
  by_cases hb:b∈fs
  · exact u.slot b ob q n hb hx
  · exact ⟨ob.slots,u.keep b ob q n hb hx⟩
theorem Un.kept (k:∀ b u,h.get? b=some u->h'.get? b=some u):Un fs ex H H h h' :=
  ⟨fun b ob q _ _ _=>k b ob q,fun b ob q _ _ _=>⟨ob.slots,k b ob q⟩,fun _ _ _ n _=>n,fun b ob q _=>⟨ob,k b ob q⟩,fun _ _ q=>q,fun _ _ _ q=>q,fun _ ps q=>⟨#[],by rw [q];simp⟩⟩
theorem Un.refl:Un fs ex H H h h:=Un.kept fun _ _ q=>q
theorem Un.laid (k:∀ b u,h.get? b=some u->h'.get? b=some u) (hp:h.objs.size<=a) (hn:H a=none):Un fs ex H (cU H a o) h h' where
  keep:=fun b u q _ _ _=>k b u q
  slot:=fun b u q _ _ _=>⟨u.slots,k b u q⟩
  free:=fun b u q n _=>by rw [aJ (Nat.ne_of_lt (Nat.lt_of_lt_of_le (Heap.lt_size q) hp))];exact n
  there:=fun b u q _=>⟨u,k b u q⟩
  tups:=fun b xs q=>by rw [aJ (bE q hn)];exact q
  frzs:=fun b u xs q=>by rw [aJ (bE q hn)];exact q
  tbls:=fun b ps q=>⟨#[],by rw [aJ (bE q hn),q];simp⟩
theorem Un.write (mu:wc (H x)) (he:e=x\/H e=some (.own x)) (k:∀ b u,b≠e->h.get? b=some u->h'.get? b=some u) (heo:∃ u,h'.get? e=some u):Un fs ex H (cU H x o) h h':=by
  have hx:∀ b,H b=none->b≠x:=fun b n z=>by subst z;rw [n] at mu;exact mu
  have hb:∀ b,H b=none->b≠e:=fun b n z=>by
    subst z;rcases he with r | r
    · exact hx b n r
    · rw [n] at r;cases r
  have hm:∀ b u,H b=some u->¬ wc (some u)->b≠x:=fun b u q nm z=>by subst z;rw [q] at mu;exact nm mu
  refine ⟨fun b u q n _ _=>k b u (hb b n) q,fun b u q n _ _=>⟨u.slots,k b u (hb b n) q⟩,fun b u q n _=>by rw [aJ (hx b n)];exact n,fun b u q _=>?_,
    fun b xs q=>by rw [aJ (hm b _ q fun z=>z)];exact q,fun b u xs q=>by rw [aJ (hm b _ q fun z=>z)];exact q,fun b ps q=>⟨#[],by rw [aJ (hm b _ q fun z=>z),q];simp⟩⟩
  by_cases hbe:b=e
  · subst hbe;exact heo
  · exact ⟨u,k b u hbe q⟩
end
noncomputable def we (h:Heap) (H:Hp):List Addr:=(List.range h.objs.size).filter fun a=>(H a).isSome
noncomputable def lh (h:Heap) (H:Hp):Heap:=PySem.W.hideAll h (we h H)
theorem oZ (h:Heap) (H:Hp):(lh h H).objs.size=h.objs.size:=PySem.W.hideAll_size _ _
theorem qJ {h:Heap} {H:Hp} {b:Addr} {o:Obj} (e:h.get? b=some o) (n:H b=none):(lh h H).get? b=some o :=
  PySem.W.hideAll_get _ e fun hm=>by
    have q:(H b).isSome=true:=(List.mem_filter.mp hm).2;rw [n] at q;simp at q
theorem rq {h:Heap} {H:Hp} {b:Addr} {o:Obj} (e:(lh h H).get? b=some o):h.get? b=some o/\H b=none:=by
  have e':h.get? b=some o:=PySem.W.of_hideAll (we h H) e;refine ⟨e',?_⟩;cases q:H b with
  | none=>rfl
  | some x =>
    have hm:b∈we h H:=List.mem_filter.mpr ⟨List.mem_range.mpr (Heap.lt_size e'),by simp [q]⟩;have z:(lh h H).get? b=none:=PySem.W.hideAll_none (we h H) hm;rw [z] at e;cases e
noncomputable def rQ (g h:Heap) (L:Addr):List (Addr×Obj):=(List.range h.objs.size).filterMap fun a=>if a=L\/(g.get? a).isSome=true then none else (h.get? a).map fun o=>(a,o)
noncomputable def cP (g h:Heap) (L d:Addr):List (Addr×Obj):=(rQ g h L).filter fun p=>decide (p.1≠d)
structure Mod (K:PySem.W.Frag) (mg:Str->Option Value) (base:Heap):Prop where
  kin:K.In base
  glob:base.Ns mainGlobals mg
  blt:∃ mb,base.Ns builtinsNs mb/\∀ x:Str,x ≠ "__name__" -> mb x=bootBuiltins x
  nolimit:base.NoLimit
structure Cx where
  prog:Program
  w:World
  K:PySem.W.Frag
  mg:Str->Option Value
  base:Heap
  A:Around
  N:List Str
  s₀:Shared
  H₀:Hp
  env:Env
  outer:List Env
  stack:List Env
  ex:List Addr
  fn:Str->Bool
  calm:Bool
  pn:List (Addr×Obj)
  xe:Value->Shared->Prop
noncomputable def gM (l:List Env):List Addr:=l.filterMap (·.frame)
noncomputable abbrev Cx.fs (X:Cx):List Addr:=gM X.outer
noncomputable def vt (sc:Scope) (x:Str):Prop:=sc.names.lookup x=some .local\/sc.names.lookup x=some .cell\/sc.names.lookup x=some .free
noncomputable def ur (sc:Scope) (x:Str):Prop:=sc.names.lookup x=some .local\/sc.names.lookup x=some .cell
noncomputable def wT (env:Env) (h:Heap) (m:Str->Option Value) (x:Str) (u:Value):Prop :=
  (env.kindOf x=some .local/\m x=some u)\/((env.kindOf x=some .cell\/env.kindOf x=some .free)/\∃ c,env.cells.lookup x=some c/\h.IsCell c (some u))
structure Cx.Ok (X:Cx):Prop where
  mod:Mod X.K X.mg X.base
  kind:X.env.scope.kind=.function
  glob:X.env.globals=mainGlobals
  blt:X.env.builtins=builtinsNs
  above:X.s₀.heap.objs.size<=X.env.locals
  inj:∀ x y c,X.env.cells.lookup x=some c->X.env.cells.lookup y=some c->x=y
  has:∀ x,(X.env.kindOf x=some .cell\/X.env.kindOf x=some .free)->∃ c,X.env.cells.lookup x=some c
  cab:∀ x c,X.fn x=true->X.env.cells.lookup x=some c->X.s₀.heap.objs.size<=c
  hd:X.calm=true->X.A.handled=none
  frames:X.A.frames=some X.stack
  stk:X.stack=X.outer\/(X.stack=X.env::X.outer/\X.env.frame=some X.env.locals)
  exf:∀ b∈X.ex,b≠X.env.locals/\∀ x c,X.env.cells.lookup x=some c->c≠b
  bs:∀ b o,X.base.get? b=some o->X.s₀.heap.get? b=some o/\X.H₀ b=none
  bsz:X.base.objs.size<=X.s₀.heap.objs.size
  noex:∀ b o,X.base.get? b=some o->b∉X.ex
  exfs:∀ b∈X.ex,b∉X.fs
  funs:X.s₀.heap.FunFrames X.base X.outer
  frf:∀ b∈X.fs,X.H₀ b=none
structure az (X:Cx) (pins:List (Addr×Obj)) (σ:List (Option V)) (H:Hp) (s:Shared):Prop where
  ok:X.Ok
  os:s.os=X.s₀.os
  bare:AllBare s.gens
  base:Un X.fs X.ex X.H₀ H X.s₀.heap s.heap
  loc:∃ m,s.heap.Ns X.env.locals m/\∀ (i:Nat) (x:Str) (v:V),X.N[i]?=some x->σ[i]?=some (some v)->vt X.env.scope x->∃ u,bC v u/\wT X.env s.heap m x u
  cell:∀ x c,X.env.cells.lookup x=some c->∃ v,s.heap.IsCell c v
  free:H X.env.locals=none
  freeC:∀ x c,X.env.cells.lookup x=some c->H c=none
  pin:∀ p∈X.pn++pins,s.heap.get? p.1=some p.2/\H p.1=none/\p.1≠X.env.locals/\p.1∉X.fs/\∀ v,p.2.data≠.cell v
  hok:eS X.prog X.w H s.heap
  len:σ.length=X.N.length
section
variable {X:Cx} {pins:List (Addr×Obj)} {σ:List (Option V)} {H H':Hp} {s:Shared} {h':Heap}
theorem Cx.Ok.nofr (ok:X.Ok) {b:Addr} {o:Obj} (e:X.base.get? b=some o):b∉X.fs:=fun hb=>by
  have:=(ok.funs.mem hb).1;rw [e] at this;cases this
theorem az.bs (I:az X pins σ H s):∀ b o,X.base.get? b=some o->s.heap.get? b=some o/\H b=none:=fun b o e =>
  ⟨I.base.keep b o (I.ok.bs b o e).1 (I.ok.bs b o e).2 (I.ok.nofr e) (I.ok.noex b o e),I.base.free b o (I.ok.bs b o e).1 (I.ok.bs b o e).2 (I.ok.noex b o e)⟩
theorem az.bk (I:az X pins σ H s):∀ b o,X.base.get? b=some o->s.heap.get? b=some o:=fun b o e=>(I.bs b o e).1
theorem az.mod (I:az X pins σ H s):Mod X.K X.mg X.base:=I.ok.mod
theorem az.kIn (I:az X pins σ H s):X.K.In s.heap:=I.ok.mod.kin.keeps I.bk
theorem az.lt (I:az X pins σ H s):X.env.locals < s.heap.objs.size:=let ⟨_,hn,_⟩:=I.loc;hn.lt
theorem az.sz (I:az X pins σ H s):X.s₀.heap.objs.size<=s.heap.objs.size:=Nat.le_trans I.ok.above (Nat.le_of_lt I.lt)
theorem az.nofs (I:az X pins σ H s) {a:Addr} (h:s.heap.objs.size<=a):a∉X.fs:=fun hb=>by
  obtain ⟨_,o,ho,_⟩:=I.ok.funs.mem hb;exact absurd (Nat.lt_of_lt_of_le (Heap.lt_size ho) (Nat.le_trans I.sz h)) (Nat.lt_irrefl _)
theorem az.cne (I:az X pins σ H s):∀ x c,X.env.cells.lookup x=some c->c≠X.env.locals:=fun x c e z=>by
  obtain ⟨v,o,ho,hd⟩:=I.cell x c e;obtain ⟨m,⟨o',es,ep,ho',hd',_⟩,_⟩:=I.loc;rw [z,ho'] at ho;cases ho;rw [hd'] at hd;cases hd
theorem az.funs (I:az X pins σ H s):s.heap.FunFrames X.base X.outer:=by
  have all:∀ (l:List Env),(∀ b∈gM l,b∈X.fs)->X.s₀.heap.FunFrames X.base l->s.heap.FunFrames X.base l:=by
    intro l;induction l with
    | nil=>intro _ _;trivial
    | cons env r ih =>
      intro hs hl;obtain ⟨hk,⟨L,o,hf,hn,ho,hd⟩,hr⟩:=hl;have hL:L∈X.fs:=hs L (by unfold gM;rw [List.filterMap_cons,hf];exact List.mem_cons_self);obtain ⟨sl,e⟩:=I.base.slot L o ho (I.ok.frf L hL) hL fun z=>I.ok.exfs L z hL
      exact ⟨hk,⟨L,_,hf,hn,e,hd⟩,ih (fun b hb=>hs b (by unfold gM;rw [List.filterMap_cons,hf];exact List.mem_cons_of_mem _ hb)) hr⟩
  exact all X.outer (fun _ hb=>hb) I.ok.funs
theorem az.stack (I:az X pins σ H s):s.heap.FunFrames X.base X.stack:=by
  rcases I.ok.stk with e | ⟨e,hf⟩
  · rw [e];exact I.funs
  · rw [e];obtain ⟨m,hn,_⟩:=I.loc;refine .cons (by rw [I.ok.kind];decide) hf hn ?_ I.funs;exact Heap.get?_none_of_le (Nat.le_trans I.ok.bsz I.ok.above)
theorem az.stkSub (I:az X pins σ H s):∀ b∈gM X.stack,b∈X.env.locals::X.fs:=fun b hb=>by
  rcases I.ok.stk with e | ⟨e,hf⟩
  · rw [e] at hb;exact List.mem_cons_of_mem _ hb
  · rw [e] at hb;unfold gM at hb;rw [List.filterMap_cons,hf] at hb;exact hb
theorem az.stkFree (I:az X pins σ H s):∀ b∈gM X.stack,H b=none:=fun b hb=>by
  rcases List.mem_cons.mp (I.stkSub b hb) with e | hb
  · rw [e];exact I.free
  · obtain ⟨_,o,ho,_⟩:=I.ok.funs.mem hb;exact I.base.free b o ho (I.ok.frf b hb) fun z=>I.ok.exfs b z hb
theorem az.step {g':Array GenState} {t':Nat} {d':Drawn} {ch:List Addr} (I:az X pins σ H s)
    (hch:∀ b∈ch,(b∈X.ex\/X.s₀.heap.objs.size<=b)/\b≠X.env.locals/\(∀ x c,X.env.cells.lookup x=some c->c≠b)/\∀ p∈X.pn++pins,p.1≠b)
    (keep:∀ b o,b≠X.env.locals->b∉X.fs->b∉ch->s.heap.get? b=some o->H b=none->h'.get? b=some o)
    (slot:∀ b o,b≠X.env.locals->b∈X.fs->b∉ch->s.heap.get? b=some o->H b=none->∃ sl,h'.get? b=some { o with slots:=sl }) (free:∀ b o,b∉ch->s.heap.get? b=some o->H b=none->H' b=none)
    (there:∀ b o,b∉ch->s.heap.get? b=some o->∃ o',h'.get? b=some o')
    (tups:∀ b xs,H b=some (.tup xs)->H' b=some (.tup xs)) (frzs:∀ b o u,H b=some (.frz o u)->H' b=some (.frz o u)) (tbls:∀ b ps,H b=some (.tbl ps)->∃ more,H' b=some (.tbl (ps++more)))
    (ns:∀ m,s.heap.Ns X.env.locals m->h'.Ns X.env.locals m) (hok:eS X.prog X.w H' h') (hg:AllBare g') :
    az X pins σ H' { s with heap:=h',gens:=g',drawn:=d',toks:=t' }:=by
  have neL:∀ b o,X.s₀.heap.get? b=some o->b≠X.env.locals:=fun b o e=>Nat.ne_of_lt (Nat.lt_of_lt_of_le (Heap.lt_size e) I.ok.above)
  have neC:∀ b o,X.s₀.heap.get? b=some o->b∉X.ex->b∉ch:=fun b o e hx hb=>by
    rcases (hch b hb).1 with z | z
    · exact hx z
    · exact absurd (Nat.lt_of_lt_of_le (Heap.lt_size e) z) (Nat.lt_irrefl _)
  have cellK:∀ x c,X.env.cells.lookup x=some c->∀ v,s.heap.IsCell c v->h'.IsCell c v:=fun x c e v ⟨o,ho,hd⟩=>by
    have nch:c∉ch:=fun z=>(hch c z).2.2.1 x c e rfl
    by_cases hc:c∈X.fs
    · obtain ⟨sl,q⟩:=slot c o (I.cne x c e) hc nch ho (I.freeC x c e);exact ⟨_,q,hd⟩
    · exact ⟨o,keep c o (I.cne x c e) hc nch ho (I.freeC x c e),hd⟩
  refine ⟨I.ok,I.os,hg,⟨fun b o e n hb hx=>?_,fun b o e n hb hx=>?_,fun b o e n hx=>?_,fun b o e hx=>?_,fun b xs e=>tups b xs (I.base.tups b xs e),fun b o xs e=>frzs b o xs (I.base.frzs b o xs e),fun b ps e=>?_⟩,?_,fun x c e=>?_,?_,fun x c e=>?_,fun p hp=>?_,hok,I.len⟩
  · exact keep b o (neL b o e) hb (neC b o e hx) (I.base.keep b o e n hb hx) (I.base.free b o e n hx)
  · obtain ⟨sl,e1⟩:=I.base.slot b o e n hb hx;obtain ⟨sl',e2⟩:=slot b _ (neL b o e) hb (neC b o e hx) e1 (I.base.free b o e n hx);exact ⟨sl',e2⟩
  · obtain ⟨o',e1⟩:=I.base.there b o e hx;exact free b o' (neC b o e hx) e1 (I.base.free b o e n hx)
  · obtain ⟨o',e1⟩:=I.base.there b o e hx;exact there b o' (neC b o e hx) e1
  · obtain ⟨m1,e1⟩:=I.base.tbls b ps e;obtain ⟨m2,e2⟩:=tbls b _ e1;exact ⟨m1++m2,by rw [e2,Array.append_assoc]⟩
  · obtain ⟨m,hn,hl⟩:=I.loc;refine ⟨m,ns m hn,fun i x v e1 e2 e3=>?_⟩;obtain ⟨u,r,l⟩:=hl i x v e1 e2 e3;refine ⟨u,r,?_⟩;rcases l with l | ⟨k,c,e,z⟩
    · exact .inl l
    · exact .inr ⟨k,c,e,cellK x c e _ z⟩
  · obtain ⟨v,z⟩:=I.cell x c e;exact ⟨v,cellK x c e v z⟩
  · obtain ⟨m,⟨o,_,_,ho,_⟩,_⟩:=I.loc;exact free _ o (fun z=>(hch _ z).2.1 rfl) ho I.free
  · obtain ⟨v,o,ho,hd⟩:=I.cell x c e;exact free c o (fun z=>(hch c z).2.2.1 x c e rfl) ho (I.freeC x c e)
  · obtain ⟨e,n,ne,nf,d⟩:=I.pin p hp;have nch:p.1∉ch:=fun z=>(hch p.1 z).2.2.2 p hp rfl
    exact ⟨keep p.1 p.2 ne nf nch e n,free p.1 p.2 nch e n,ne,nf,d⟩
theorem az.un {t':Nat} (I:az X pins σ H s) (u:Un X.fs [] H H' s.heap h') (hok:eS X.prog X.w H' h'):az X pins σ H' { s with heap:=h',toks:=t' }:=by
  obtain ⟨m,⟨o,es,ep,ho,r⟩,_⟩:=id I.loc;obtain ⟨sl,hL⟩:=u.any ho I.free (by simp);exact I.step (g':=s.gens) (d':=s.drawn) (ch:=[]) (fun _ z=>nomatch z) (fun b o _ hb _ e n=>u.keep b o e n hb (by simp)) (fun b o _ hb _ e n=>u.slot b o e n hb (by simp)) (fun b o _ e n=>u.free b o e n (by simp)) (fun b o _ e=>u.there b o e (by simp)) u.tups u.frzs u.tbls (fun m' hm=>by
    obtain ⟨o',es',ep',ho',r'⟩:=hm;rw [ho] at ho';cases ho';exact ⟨_,es',ep',hL,r'⟩) hok I.bare
theorem az.call {g':Array GenState} {t':Nat} {d':Drawn} {ch:List Addr} (I:az X pins σ H s) (u:Un (gM X.stack) ch H H' s.heap h') (hok:eS X.prog X.w H' h') (hg:AllBare g')
    (hch:∀ b∈ch,(b∈X.ex\/X.s₀.heap.objs.size<=b)/\b≠X.env.locals/\(∀ x c,X.env.cells.lookup x=some c->c≠b)/\∀ p∈X.pn++pins,p.1≠b) :
    az X pins σ H' { s with heap:=h',gens:=g',drawn:=d',toks:=t' }:=by
  obtain ⟨m,⟨o,es,ep,ho,r⟩,_⟩:=id I.loc;obtain ⟨sl,hL⟩:=u.any ho I.free fun z=>(hch _ z).2.1 rfl
  exact I.step (ch:=ch) hch (fun b o hL hb hc e n=>u.keep b o e n (fun z=>(List.mem_cons.mp (I.stkSub b z)).elim hL hb) hc) (fun b o _ _ hc e n=>u.any e n hc) (fun b o hc e n=>u.free b o e n hc) (fun b o hc e=>u.there b o e hc) u.tups u.frzs u.tbls (fun m' hm=>by
    obtain ⟨o',es',ep',ho',r'⟩:=hm;rw [ho] at ho';cases ho';exact ⟨_,es',ep',hL,r'⟩) hok hg
theorem az.turned {t':Nat} {it:Addr} (I:az X pins σ H s) (k:∀ b o,b≠it->s.heap.get? b=some o->h'.get? b=some o) (hn:H it=none) (hL:it≠X.env.locals)
    (h1:it∈X.ex\/X.s₀.heap.objs.size<=it) (h2:∀ x c,X.env.cells.lookup x=some c->c≠it) (h3:∀ p∈X.pn++pins,p.1≠it):az X pins σ H { s with heap:=h',toks:=t' }:=by
  have nit:∀ b u,H b=some u->b≠it:=fun b u e z=>by rw [z,hn] at e;cases e
  refine I.step (g':=s.gens) (d':=s.drawn) (ch:=[it]) (fun b hb=>?_) (fun b o _ _ hc e _=>k b o (fun z=>hc (by simp [z])) e) (fun b o _ _ hc e _=>⟨o.slots,k b o (fun z=>hc (by simp [z])) e⟩) (fun _ _ _ _ n=>n)
    (fun b o hc e=>⟨o,k b o (fun z=>hc (by simp [z])) e⟩) (fun _ _ e=>e) (fun _ _ _ e=>e) (fun b ps e=>⟨#[],by rw [e];simp⟩) (fun m hm=>?_) (fun b u e=>?_) I.bare
  · have e:b=it:=by simpa using hb
    subst e;exact ⟨h1,hL,h2,h3⟩
  · obtain ⟨o,es,ep,ho,r⟩:=hm;exact ⟨o,es,ep,k _ o (Ne.symm hL) ho,r⟩
  · refine (I.hok b u e).stay (fun c v hc q=>k c v ?_ q) (fun _ q=>q) fun _ _ q=>q
    rcases hc with z | z
    · rw [z];exact nit b u e
    · exact nit c _ z
theorem az.tok (I:az X pins σ H s) (t:Nat):az X pins σ H { s with toks:=t }:=I.un (h':=s.heap) (t':=t) Un.refl I.hok
theorem az.kept {t':Nat} (I:az X pins σ H s) (k:∀ b u,s.heap.get? b=some u->h'.get? b=some u):az X pins σ H { s with heap:=h',toks:=t' }:=I.un (Un.kept k) (I.hok.kept k)
theorem az.laid {a:Addr} {o:HO} {t':Nat} (I:az X pins σ H s) (k:∀ b u,s.heap.get? b=some u->h'.get? b=some u) (hp:s.heap.objs.size<=a) (new:bP X.prog X.w (cU H a o) h' a o) :
    az X pins σ (cU H a o) { s with heap:=h',toks:=t' }:=I.un (Un.laid k hp (I.hok.fresh hp)) (I.hok.laid k hp new)
theorem az.write {x e:Addr} {o:HO} {t':Nat} (I:az X pins σ H s) (mu:wc (H x)) (he:e=x\/H e=some (.own x)) (k:∀ b u,b≠e->s.heap.get? b=some u->h'.get? b=some u) (heo:∃ u,h'.get? e=some u)
    (new:bP X.prog X.w (cU H x o) h' x o):az X pins σ (cU H x o) { s with heap:=h',toks:=t' }:=I.un (Un.write mu he k heo) (I.hok.write mu he k heo new)
theorem az.pins_of {pins':List (Addr×Obj)} (I:az X pins σ H s) (h:∀ p∈pins',s.heap.get? p.1=some p.2/\H p.1=none/\p.1≠X.env.locals/\p.1∉X.fs/\∀ v,p.2.data≠.cell v):az X pins' σ H s :=
  ⟨I.ok,I.os,I.bare,I.base,I.loc,I.cell,I.free,I.freeC,fun p hp=>(List.mem_append.mp hp).elim (fun z=>I.pin p (List.mem_append_left _ z)) (h p),I.hok,I.len⟩
theorem jb {N:List Str} (hN:N.Nodup) {i j:Nat} {x:Str} (a:N[i]?=some x) (b:N[j]?=some x):i=j:=by
  obtain ⟨h1,e1⟩:=List.getElem?_eq_some_iff.mp a;obtain ⟨h2,e2⟩:=List.getElem?_eq_some_iff.mp b;exact (List.getElem_inj hN).mp (e1.trans e2.symm)
theorem kq {M:Model} {A:Around} {E:Value->Shared->Prop} {i:Nat} {x:Str} {v:V} {u:Value} {Q:Unit->Shared->Prop} (I:az X pins σ H s) (hN:X.N.Nodup) (hi:X.N[i]?=some x) (hx:ur X.env.scope x) (r:bC v u)
    (h:∀ s',az X pins (σ.set i (some v)) H s'->(∃ a,Heap.SameBut a s.heap s'.heap/\(a=X.env.locals\/X.env.cells.lookup x=some a))->Q () s') (hf:X.fn x=true\/X.env.scope.names.lookup x=some .local:=by first | exact .inl rfl | exact .inr rfl | assumption):wpAny M A (storeName X.env x u) Q E s:=by
  obtain ⟨m,hn,hl⟩:=id I.loc;have hcls:(X.env.scope.kind==.class||(X.env.scope.kind==.module&&X.env.locals != X.env.globals))=false:=by rw [I.ok.kind];rfl
  have hiσ:i < σ.length:=by rw [I.len];exact (List.getElem?_eq_some_iff.mp hi).1
  have cne:=I.cne;have tracked:∀ {a:Addr} {h':Heap},(∃ o,s.heap.get? a=some o/\H a=none)->Heap.SameBut a s.heap h'->eS X.prog X.w H h':=fun {a h'} ha hs b ob e=>by
    obtain ⟨_,_,hfree⟩:=ha;refine (I.hok b ob e).stay (fun c w' hc q=>(hs.2 c ?_).trans q) (fun _ q=>q) fun _ _ q=>q
    rintro rfl;rcases hc with rfl | hc
    · rw [hfree] at e;cases e
    · rw [hfree] at hc;cases hc
  rcases hx with hk | hk
  · refine wpAny_storeName_local hk hn (fun h' hn' hs=>?_) hcls;obtain ⟨oL,_,_,hoL,_⟩:=id hn;refine h _ ⟨I.ok,I.os,I.bare,⟨fun b o e n hb hx=>?_,fun b o e n hb hx=>?_,I.base.free,fun b o e hx=>?_,I.base.tups,I.base.frzs,I.base.tbls⟩,⟨_,hn',fun j y v' e1 e2 e3=>?_⟩,fun y c e=>?_,I.free,I.freeC,fun p hp=>?_,tracked ⟨oL,hoL,I.free⟩ hs,by simpa using I.len⟩ ⟨_,hs,.inl rfl⟩
    · exact (hs.2 b (Nat.ne_of_lt (Nat.lt_of_lt_of_le (Heap.lt_size e) I.ok.above))).trans (I.base.keep b o e n hb hx)
    · obtain ⟨sl,e1⟩:=I.base.slot b o e n hb hx;exact ⟨sl,(hs.2 b (Nat.ne_of_lt (Nat.lt_of_lt_of_le (Heap.lt_size e) I.ok.above))).trans e1⟩
    · obtain ⟨o',e1⟩:=I.base.there b o e hx;exact ⟨o',(hs.2 b (Nat.ne_of_lt (Nat.lt_of_lt_of_le (Heap.lt_size e) I.ok.above))).trans e1⟩
    · by_cases hj:j=i
      · subst hj;rw [hi] at e1;cases e1;rw [List.getElem?_set_self hiσ] at e2;cases e2;exact ⟨u,r,.inl ⟨hk,by simp⟩⟩
      · rw [List.getElem?_set_ne (Ne.symm hj)] at e2;obtain ⟨u',r',q⟩:=hl j y v' e1 e2 e3;refine ⟨u',r',?_⟩;rcases q with ⟨k,e⟩ | ⟨k,c,e,z⟩
        · refine .inl ⟨k,?_⟩;have:y≠x:=fun e=>hj (jb hN e1 (e ▸ hi))
          simp [this,e]
        · exact .inr ⟨k,c,e,z.sameBut hs (cne y c e)⟩
    · obtain ⟨w',z⟩:=I.cell y c e;exact ⟨w',z.sameBut hs (cne y c e)⟩
    · obtain ⟨e,n,ne,nf,d⟩:=I.pin p hp;exact ⟨(hs.2 p.1 ne).trans e,n,ne,nf,d⟩
  · have hfn:X.fn x=true:=by
      rcases hf with z | z
      · exact z
      · rw [z] at hk;cases hk
    obtain ⟨c,hc⟩:=I.ok.has x (.inl hk);obtain ⟨w',z⟩:=I.cell x c hc;refine wpAny_storeName_cell I.ok.kind hk hc z (fun h' hc' hs=>?_);obtain ⟨oc,hoc,hocd⟩:=id z;refine h { s with heap:=h' } ⟨I.ok,I.os,I.bare,⟨fun b o e n hb hx=>?_,fun b o e n hb hx=>?_,I.base.free,fun b o e hx=>?_,I.base.tups,I.base.frzs,I.base.tbls⟩,⟨m,hn.sameBut hs (Ne.symm (cne x c hc)),fun j y v' e1 e2 e3=>?_⟩,fun y c' e=>?_,I.free,I.freeC,fun p hp=>?_,tracked ⟨oc,hoc,I.freeC x c hc⟩ hs,by simpa using I.len⟩ ⟨c,hs,.inr hc⟩
    · exact (hs.2 b (Nat.ne_of_lt (Nat.lt_of_lt_of_le (Heap.lt_size e) (I.ok.cab x c hfn hc)))).trans (I.base.keep b o e n hb hx)
    · obtain ⟨sl,e1⟩:=I.base.slot b o e n hb hx;exact ⟨sl,(hs.2 b (Nat.ne_of_lt (Nat.lt_of_lt_of_le (Heap.lt_size e) (I.ok.cab x c hfn hc)))).trans e1⟩
    · obtain ⟨o',e1⟩:=I.base.there b o e hx;exact ⟨o',(hs.2 b (Nat.ne_of_lt (Nat.lt_of_lt_of_le (Heap.lt_size e) (I.ok.cab x c hfn hc)))).trans e1⟩
    · by_cases hj:j=i
      · subst hj;rw [hi] at e1;cases e1;rw [List.getElem?_set_self hiσ] at e2;cases e2;exact ⟨u,r,.inr ⟨.inl hk,c,hc,hc'⟩⟩
      · rw [List.getElem?_set_ne (Ne.symm hj)] at e2;obtain ⟨u',r',q⟩:=hl j y v' e1 e2 e3;refine ⟨u',r',?_⟩;rcases q with q | ⟨k,c',e,z'⟩
        · exact .inl q
        · refine .inr ⟨k,c',e,z'.sameBut hs ?_⟩;rintro rfl;exact hj (jb hN e1 (I.ok.inj _ _ _ e hc ▸ hi))
    · by_cases hcc:c'=c
      · subst hcc;exact ⟨_,hc'⟩
      · obtain ⟨w2,z2⟩:=I.cell y c' e;exact ⟨w2,z2.sameBut hs hcc⟩
    · obtain ⟨e,n,ne,nf,d⟩:=I.pin p hp;refine ⟨(hs.2 p.1 ?_).trans e,n,ne,nf,d⟩;intro q;rw [q,hoc] at e;have q':oc=p.2:=Option.some.inj e;exact d w' (by rw [<- q'];exact hocd)
theorem gW {M:Model} {A:Around} {E:Value->Shared->Prop} {i:Nat} {x:Str} {v:V} {u:Value} {Q:Unit->Shared->Prop} (I:az X pins σ H s) (hN:X.N.Nodup) (hi:X.N[i]?=some x) (hx:ur X.env.scope x) (r:bC v u)
    (h:∀ s',az X pins (σ.set i (some v)) H s'->Q () s') (hf:X.fn x=true\/X.env.scope.names.lookup x=some .local:=by first | exact .inl rfl | exact .inr rfl | assumption):wpAny M A (storeName X.env x u) Q E s :=
  kq I hN hi hx r (fun s' I' _=>h s' I') hf
theorem az.call' {s':Shared} {ch:List Addr} (I:az X pins σ H s) (ho:s'.os=s.os) (u:Un (gM X.stack) ch H H' s.heap s'.heap) (hok:eS X.prog X.w H' s'.heap) (hg:AllBare s'.gens)
    (hch:∀ b∈ch,(b∈X.ex\/X.s₀.heap.objs.size<=b)/\b≠X.env.locals/\(∀ x c,X.env.cells.lookup x=some c->c≠b)/\∀ p∈X.pn++pins,p.1≠b):az X pins σ H' s':=by
  obtain ⟨h',g',d',t',o'⟩:=s';have e:o'=s.os:=ho;subst e;exact I.call (g':=g') (t':=t') (d':=d') u hok hg hch
end
noncomputable abbrev XK:=Value->Option Addr->Hp->Prop
noncomputable abbrev St:=List (Option V)
noncomputable abbrev VK:=V->Hp->Prop
noncomputable abbrev TE:=St->Hp->VK->Prop
noncomputable abbrev TT:=St->Hp->(Bool->Hp->Prop)->Prop
noncomputable abbrev TA:=St->Hp->(List V->Hp->Prop)->Prop
structure k7 where
  nx:St->Hp->Prop
  rt:VK
  bk:St->Hp->Prop:=fun _ _=>False
  ct:St->Hp->Prop:=fun _ _=>False
noncomputable abbrev TS:=k7->St->Hp->Prop
noncomputable def EP (X:Cx) (pins:List (Addr×Obj)) (σ:St) (Q:VK) (u:Value) (s':Shared):Prop:=∃ v H',az X pins σ H' s'/\bC v u/\Q v H'
noncomputable def TP (X:Cx) (pins:List (Addr×Obj)) (σ:St) (Q:Bool->Hp->Prop) (b:Bool) (s':Shared):Prop:=∃ H',az X pins σ H' s'/\Q b H'
noncomputable def AP (X:Cx) (pins:List (Addr×Obj)) (σ:St) (Q:List V->Hp->Prop) (us:List Value) (s':Shared):Prop:=∃ vs H',az X pins σ H' s'/\aV vs us/\Q vs H'
noncomputable def SP (X:Cx) (pins:List (Addr×Obj)) (D:k7) (f:Flow) (s':Shared):Prop :=
  match f with
  | .next=>∃ σ' H',az X pins σ' H' s'/\D.nx σ' H'
  | .brk=>∃ σ' H',az X pins σ' H' s'/\D.bk σ' H'
  | .cont=>∃ σ' H',az X pins σ' H' s'/\D.ct σ' H'
  | .ret u=>∃ v σ' H',az X pins σ' H' s'/\bC v u/\D.rt v H'
noncomputable def PE (X:Cx) (e:Expr) (t:TE):Prop :=
  ∀ (pins:List (Addr×Obj)) (s:Shared) (σ:St) (H:Hp) (Q:VK),az X pins σ H s->t σ H Q->wpAny (model X.prog X.w) X.A (eval e X.env) (EP X pins σ Q) X.xe s
noncomputable def PT (X:Cx) (e:Expr) (t:TT):Prop :=
  ∀ (pins:List (Addr×Obj)) (s:Shared) (σ:St) (H:Hp) (Q:Bool->Hp->Prop),az X pins σ H s->t σ H Q->wpAny (model X.prog X.w) X.A (isTrue e X.env (eval e X.env)) (TP X pins σ Q) X.xe s
noncomputable def PW (X:Cx) (e:Expr) (t:TT):Prop :=
  ∀ (whole:Sem Value) (pins:List (Addr×Obj)) (s:Shared) (σ:St) (H:Hp) (Q:Bool->Hp->Prop),az X pins σ H s->t σ H Q->wpAny (model X.prog X.w) X.A (isTrue e X.env whole) (TP X pins σ Q) X.xe s
theorem PW.pt {X:Cx} {e:Expr} {t:TT} (h:PW X e t):PT X e t:=h _
noncomputable def PA (X:Cx) (es:List Expr) (t:TA):Prop :=
  ∀ (pos:Pos) (pins:List (Addr×Obj)) (s:Shared) (σ:St) (H:Hp) (Q:List V->Hp->Prop),az X pins σ H s->t σ H Q->wpAny (model X.prog X.w) X.A (spliced (backTo pos (starEach es X.env))) (AP X pins σ Q) X.xe s
noncomputable def PS (X:Cx) (st:Stmt) (t:TS):Prop :=
  ∀ (pins:List (Addr×Obj)) (s:Shared) (σ:St) (H:Hp) (D:k7),az X pins σ H s->t D σ H->wpAny (model X.prog X.w) X.A (exec st X.env) (SP X pins D) X.xe s
noncomputable def lF (X:Cx) (st:List Stmt) (t:TS):Prop :=
  ∀ (pins:List (Addr×Obj)) (s:Shared) (σ:St) (H:Hp) (D:k7),az X pins σ H s->t D σ H->wpAny (model X.prog X.w) X.A (execs st X.env) (SP X pins D) X.xe s
theorem cG {α:Type} {t:Sem α} {Q Q':α->Shared->Prop} {M:Model} {A:Around} {E:Value->Shared->Prop} {s:Shared} (h:wpAny M A t Q E s) (hQ:∀ a s,Q a s->Q' a s):wpAny M A t Q' E s:=wpAny_mono h hQ fun _ _ x=>x
section
variable {X:Cx}
theorem xK {a b:Expr} {ta tb:TE} (ha:PE X a ta) (hb:PE X b tb) {pins:List (Addr×Obj)} {s:Shared} {σ:St} {H:Hp} {R:V->V->Hp->Prop} (I:az X pins σ H s) (h:ta σ H fun x H1=>tb σ H1 fun y H2=>R x y H2)
    {α:Type} {Q:α->Shared->Prop} {f:Value->Value->Sem α}
    (hf:∀ v u s2 x y H2,az X pins σ H2 s2->bC x v->bC y u->R x y H2->wpAny (model X.prog X.w) X.A (f v u) Q X.xe s2) :
    wpAny (model X.prog X.w) X.A (eval a X.env) (fun v s₁=>wpAny (model X.prog X.w) X.A (eval b X.env) (fun u s₂=>wpAny (model X.prog X.w) X.A (f v u) Q X.xe s₂) X.xe s₁) X.xe s:=by
  refine cG (ha pins s σ H _ I h) fun v s1 ⟨x,H1,I1,r1,q1⟩=>?_
  refine cG (hb pins s1 σ H1 _ I1 q1) fun u s2 ⟨y,H2,I2,r2,q2⟩=>?_
  exact hf v u s2 x y H2 I2 r1 r2 q2
noncomputable def vw (i:Nat):TE:=fun σ H Q=>∃ v,σ[i]?=some (some v)/\Q v H
noncomputable def tC (v:V):TE:=fun _ H Q=>Q v H
theorem kN {i:Nat} {x:Str} {pos:Pos} (hN:X.N[i]?=some x) (hv:vt X.env.scope x) (hd:(x==("__debug__" : Str))=false:=by decide) (hcd:(x==("__classdict__" : Str))=false:=by decide):PE X (.Name x pos) (vw i):=by
  intro pins s σ H Q I h;obtain ⟨v,e,h⟩:=h;obtain ⟨m,hn,hl⟩:=I.loc;obtain ⟨u,r,l⟩:=hl i x v hN e hv;have fin:EP X pins σ Q u s:=⟨v,H,I,r,h⟩
  rcases l with ⟨hk,hm⟩ | ⟨hk,c,hc,hcell⟩
  · exact wpAny_Name (wpAny_loadName_local I.ok.kind hk hn hm fin) hd
  · rcases hk with hk | hk
    · exact wpAny_Name (wpAny_loadName_cell I.ok.kind hk hc hcell fin) hd
    · exact wpAny_Name (wpAny_loadName_free I.ok.kind hk hc hcell fin hcd) hd
theorem uZ {i j pos}:PE X (.Constant (.int i) j pos) (tC (.int i)):=fun _ _ _ H _ I h=>wpAny_Constant_int ⟨.int i,H,I.tok _,⟨_,rfl⟩,h⟩
theorem vL {b j pos}:PE X (.Constant (.bool b) j pos) (tC (.bl b)):=fun _ _ _ H _ I h=>Constant_bool ⟨.bl b,H,I,rfl,h⟩
theorem uV {j pos}:PE X (.Constant .none j pos) (tC .non):=fun _ _ _ H _ I h=>Constant_none ⟨.non,H,I,rfl,h⟩
theorem uf {x j pos}:PE X (.Constant (.str x) j pos) (tC (.str x)):=fun _ _ _ H _ I h=>Calls.Constant_str ⟨.str x,H,I.tok _,⟨_,rfl⟩,h⟩
noncomputable def Gl (X:Cx) (x:Str):Prop:=X.env.kindOf x=some .globalImplicit
theorem i8 {E:Value->Shared->Prop} {pins:List (Addr×Obj)} {s:Shared} {σ:St} {H:Hp} {x:Str} {u:Value} {pos:Pos} {Q:Value->Shared->Prop} (I:az X pins σ H s) (hg:Gl X x) (hm:X.mg x=some u) (h:Q u s)
    (hd:(x==("__debug__" : Str))=false:=by decide):wpAny (model X.prog X.w) X.A (eval (.Name x pos) X.env) Q E s :=
  Calls.Name_function_global I.ok.kind hg (Calls.loadGlobal_global (by rw [I.ok.glob];exact I.mod.glob.keeps I.bk) hm h) hd
theorem jA {E:Value->Shared->Prop} {pins:List (Addr×Obj)} {s:Shared} {σ:St} {H:Hp} {x:Str} {u:Value} {pos:Pos} {Q:Value->Shared->Prop} (I:az X pins σ H s) (hg:Gl X x) (hm:X.mg x=none) (hv:bootBuiltins x=some u) (h:Q u s)
    (hn:x ≠ "__name__" := by decide) (hd:(x==("__debug__" : Str))=false:=by decide):wpAny (model X.prog X.w) X.A (eval (.Name x pos) X.env) Q E s:=by
  obtain ⟨mb,h1,h2⟩:=I.mod.blt;exact Calls.Name_function_global I.ok.kind hg (Calls.loadGlobal_builtin (by rw [I.ok.glob];exact I.mod.glob.keeps I.bk) hm (by rw [I.ok.blt];exact h1.keeps I.bk) ((h2 x hn).trans hv) h) hd
theorem om {x:Str} {v:V} {u:Value} {pos:Pos} (hg:Gl X x) (hm:X.mg x=some u) (r:bC v u) (hd:(x==("__debug__" : Str))=false:=by decide):PE X (.Name x pos) (tC v) :=
  fun _ _ _ H _ I h=>i8 I hg hm ⟨v,H,I,r,h⟩ hd
theorem rE {x:Str} {v:V} {u:Value} {pos:Pos} (hg:Gl X x) (hm:X.mg x=none) (hv:bootBuiltins x=some u) (r:bC v u) (hn:x ≠ "__name__" := by decide) (hd:(x==("__debug__" : Str))=false:=by decide):PE X (.Name x pos) (tC v) :=
  fun _ _ _ H _ I h=>jA I hg hm hv ⟨v,H,I,r,h⟩ hn hd
variable {a b:Expr} {ta tb:TE} {pos:Pos}
noncomputable def PC (X:Cx) (op:CmpOp) (a b:Expr) (t:TE):Prop :=
  ∀ (pins:List (Addr×Obj)) (s:Shared) (σ:St) (H:Hp) (Q:VK),az X pins σ H s->t σ H Q ->
    wpAny (model X.prog X.w) X.A (eval a X.env) (fun v s₁=>wpAny (model X.prog X.w) X.A (eval b X.env) (fun u s₂=>wpAny (model X.prog X.w) X.A (compareOp op v u) (EP X pins σ Q) X.xe s₂) X.xe s₁) X.xe s
theorem qv (b:Expr) {op:CmpOp} (h:op≠.In) (h2:op≠.NotIn):behindInMarks op b=false:=by
  have e1:(op==CmpOp.In)=false:=by cases op <;> first | rfl | exact absurd rfl h
  have e2:(op==CmpOp.NotIn)=false:=by cases op <;> first | rfl | exact absurd rfl h2
  cases b <;> simp [behindInMarks,e1,e2]
noncomputable def tB (t:TE):TT:=fun σ H Q=>t σ H fun x H1=>∃ c,x=.bl c/\Q c H1
theorem wG {op:CmpOp} {t:TE} (h:PC X op a b t) (h1:behindInMarks op b=false:=by first | exact qv _ (by decide) (by decide) | rfl):PT X (.Compare a [op] [b] pos) (tB t):=by
  intro pins s σ H Q I hw;refine wpAny_isTrue_Compare1 (cG (h pins s σ H _ I hw) fun v s1 h1=>cG h1 fun u s2 h2=>cG h2 fun c s3 ⟨x,H1,I1,r1,q1⟩=>?_) h1;obtain ⟨d,rfl,q⟩:=q1;cases r1;exact wpAny_truthy_bool ⟨H1,I1,q⟩
theorem t6 {e:Expr} {t:TE} (h:PE X e t) (he:∀ whole,isTrue e X.env whole=(do let v <- whole;standAt e.pos;holding [v] (truthy v)):=by intro _;rfl):PT X e (tB t):=by
  intro pins s σ H Q I hw;refine isTrue_plain (cG (h pins s σ H _ I hw) fun v s1 ⟨x,H1,I1,r1,q1⟩=>?_) (he _);obtain ⟨d,rfl,q⟩:=q1;cases r1;exact wpAny_truthy_bool ⟨H1,I1,q⟩
variable {tA tB':TT} {cP:List Expr}
noncomputable def wN (t u:TT):TT:=fun σ H Q=>t σ H fun c H1=>if c=true then u σ H1 Q else Q false H1
noncomputable def xE (t u:TT):TT:=fun σ H Q=>t σ H fun c H1=>if c=true then Q true H1 else u σ H1 Q
noncomputable def wz (t:TT):TT:=fun σ H Q=>t σ H fun c H1=>Q (!c) H1
theorem pw_and1 (ha:PT X a tA):PW X (.BoolOp .And [a] pos) tA:=by
  intro wh pins s σ H Q I h;refine isTrue_and (cG (ha pins s σ H Q I h) fun c s1 e=>?_);cases c with
  | true=>exact isTrue_and_nil e
  | false=>exact e
theorem pw_or1 (ha:PT X a tA):PW X (.BoolOp .Or [a] pos) tA:=by
  intro wh pins s σ H Q I h;refine isTrue_or (cG (ha pins s σ H Q I h) fun c s1 e=>?_);cases c with
  | false=>exact isTrue_or_nil e
  | true=>exact e
theorem pw_and (ha:PT X a tA) (hb:PW X (.BoolOp .And (b::cP) pos) tB'):PW X (.BoolOp .And (a::b::cP) pos) (wN tA tB'):=by
  intro wh pins s σ H Q I h;refine isTrue_and (cG (ha pins s σ H _ I h) fun c s1 ⟨H1,I1,q1⟩=>?_);cases c with
  | true=>exact hb wh pins s1 σ H1 Q I1 q1
  | false=>exact ⟨H1,I1,q1⟩
theorem pw_or (ha:PT X a tA) (hb:PW X (.BoolOp .Or (b::cP) pos) tB'):PW X (.BoolOp .Or (a::b::cP) pos) (xE tA tB'):=by
  intro wh pins s σ H Q I h;refine isTrue_or (cG (ha pins s σ H _ I h) fun c s1 ⟨H1,I1,q1⟩=>?_);cases c with
  | true=>exact ⟨H1,I1,q1⟩
  | false=>exact hb wh pins s1 σ H1 Q I1 q1
theorem uP (ha:PT X a tA):PT X (.UnaryOp .Not a pos) (wz tA):=by
  intro pins s σ H Q I h;exact isTrue_not (ha pins s σ H (fun c H1=>Q (!c) H1) I h)
noncomputable def vv (ta tb:TE):TE:=fun σ H Q=>ta σ H fun x H1=>∃ c,x=.bl c/\if c=true then tb σ H1 Q else Q (.bl false) H1
noncomputable def vZ (ta:TE):TE:=fun σ H Q=>ta σ H fun x H1=>∃ c,x=.bl c/\Q (.bl (!c)) H1
theorem uy {op} {t:TE} (h:PE X a t):PE X (.BoolOp op [a] pos) t:=fun pins s σ H Q I hw=>BoolOp_one (h pins s σ H Q I hw)
theorem uG (ha:PE X a ta) (hb:PE X (.BoolOp .And (b::cP) pos) tb):PE X (.BoolOp .And (a::b::cP) pos) (vv ta tb):=by
  intro pins s σ H Q I h;refine BoolOp_and (cG (ha pins s σ H _ I h) fun v s1 ⟨x,H1,I1,r1,q1⟩=>?_);obtain ⟨c,rfl,q1⟩:=q1;cases r1;refine wpAny_truthy_bool ?_;cases c with
  | true=>exact hb pins s1 σ H1 Q I1 q1
  | false=>exact ⟨.bl false,H1,I1,rfl,q1⟩
theorem u0 (ha:PE X a ta):PE X (.UnaryOp .Not a pos) (vZ ta):=by
  intro pins s σ H Q I h;refine UnaryOp_ (cG (ha pins s σ H _ I h) fun v s1 ⟨x,H1,I1,r1,q1⟩=>?_);obtain ⟨c,rfl,q1⟩:=q1;cases r1;exact not_of (wpAny_truthy_bool ⟨.bl (!c),H1,I1,rfl,q1⟩)
noncomputable def xG (t:TT) (ta tb:TE):TE:=fun σ H Q=>t σ H fun c H1=>if c=true then ta σ H1 Q else tb σ H1 Q
theorem qW {c:Expr} (hc:PT X c tA) (ha:PE X a ta) (hb:PE X b tb):PE X (.IfExp c a b pos) (xG tA ta tb):=by
  intro pins s σ H Q I h;refine wpAny_IfExp (cG (hc pins s σ H _ I h) fun d s1 ⟨H1,I1,q1⟩=>?_);cases d with
  | true=>exact ha pins s1 σ H1 Q I1 q1
  | false=>exact hb pins s1 σ H1 Q I1 q1
end
noncomputable def ke (K:PySem.W.Frag) (H:Hp) (a:Addr) (xs:List V):Prop :=
  Rd H a (.lst xs) \/
    ∃ (o:Obj) (its:Array Value) (n:Nat),K.lookup a=some o/\o.cls=.type "list" /\ o.dict=none/\o.data=.seq its n/\its.size<=sizeLine/\aV xs its.toList
noncomputable def eU (K:PySem.W.Frag) (H:Hp) (a:Addr) (xs:List V):Prop :=
  Rd H a (.tup xs) \/
    ∃ (o:Obj) (its:Array Value) (n:Nat),K.lookup a=some o/\o.cls=.type "tuple" /\ o.data=.seq its n/\its.size<=sizeLine/\aV xs its.toList
noncomputable def wy:Value->Option V
  | .none=>some .non
  | .bool b=>some (.bl b)
  | .int i _=>some (.int i)
  | .str x _=>some (.str x)
  | .bytes b _=>some (.byt b)
  | .float b _=>some (.flt b)
  | .ref a=>some (.ref a)
  | .type n=>some (.ty n)
  | _=>none
theorem bC.abs {x:V} {u:Value} (r:bC x u):wy u=some x:=by
  cases x with
  | non=>cases r;rfl
  | bl _=>cases r;rfl
  | int _=>obtain ⟨t,rfl⟩:=r;rfl
  | str _=>obtain ⟨t,rfl⟩:=r;rfl
  | byt _=>obtain ⟨t,rfl⟩:=r;rfl
  | flt _=>obtain ⟨t,rfl⟩:=r;rfl
  | ref _=>cases r;rfl
  | ty _=>cases r;rfl
theorem bC.inj {x y:V} {u:Value} (r:bC x u) (q:bC y u):x=y:=Option.some.inj (r.abs.symm.trans q.abs)
theorem aV.inj:∀ {xs ys:List V} {us:List Value},aV xs us->aV ys us->xs=ys
  | _,_,_,.nil,.nil=>rfl
  | _,_,_,.cons r t,.cons r' t'=>by rw [r.inj r',aV.inj t t']
section
variable {X:Cx} {pins:List (Addr×Obj)} {σ:St} {H:Hp} {s:Shared} {a:Addr} {xs ys:List V}
theorem ke.of {K:PySem.W.Frag} (h:H a=some (.lst xs)):ke K H a xs:=.inl (.inl h)
theorem eU.of {K:PySem.W.Frag} (h:H a=some (.tup xs)):eU K H a xs:=.inl (.inl h)
theorem az.list (I:az X pins σ H s) (h:ke X.K H a xs):∃ its:List Value,aV xs its/\PlainL s.heap a its.toArray/\xs.length<=sizeLine:=by
  rcases h with h | ⟨o,its,n,hk,hc,hd,hs,hz,r⟩
  · obtain ⟨z,its,n,r,e⟩:=h.ok I.hok;exact ⟨its,r,⟨_,n,e,rfl,rfl,rfl⟩,z⟩
  · refine ⟨its.toList,r,⟨o,n,I.kIn a o hk,hc,hd,by simpa using hs⟩,?_⟩;have e:=r.length;simp only [Array.length_toList] at e;omega
theorem az.tuple (I:az X pins σ H s) (h:eU X.K H a xs):∃ its:List Value,aV xs its/\IsTup s.heap a its.toArray/\xs.length<=sizeLine:=by
  rcases h with h | ⟨o,its,n,hk,hc,hs,hz,r⟩
  · obtain ⟨z,its,r,p⟩:=h.ok I.hok;exact ⟨its,r,p,z⟩
  · refine ⟨its.toList,r,⟨o,I.kIn a o hk,hc,n,by simpa using hs⟩,?_⟩;have e:=r.length;simp only [Array.length_toList] at e;omega
theorem az.list_inj (I:az X pins σ H s) (h:ke X.K H a xs) (h':ke X.K H a ys):xs=ys:=by
  obtain ⟨its,r,⟨o,n,e,_,_,d⟩,_⟩:=I.list h;obtain ⟨its',r',⟨o',n',e',_,_,d'⟩,_⟩:=I.list h';rw [e] at e';cases e';rw [d] at d';injection d' with d1 _
  have:its=its':=by simpa using congrArg Array.toList d1
  subst this;exact r.inj r'
theorem az.tuple_inj (I:az X pins σ H s) (h:eU X.K H a xs) (h':eU X.K H a ys):xs=ys:=by
  obtain ⟨its,r,⟨o,e,_,n,d⟩,_⟩:=I.tuple h;obtain ⟨its',r',⟨o',e',_,n',d'⟩,_⟩:=I.tuple h';rw [e] at e';cases e';rw [d] at d';injection d' with d1 _
  have:its=its':=by simpa using congrArg Array.toList d1
  subst this;exact r.inj r'
end
noncomputable abbrev Cx.wish (X:Cx) (E:Value->Shared->Prop):Cx:={ X with xe:=E }
noncomputable abbrev Cx.nox (X:Cx):Cx:=X.wish fun _ _=>False
theorem Cx.Ok.wish {X:Cx} (ok:X.Ok) (E:Value->Shared->Prop):(X.wish E).Ok :=
  ⟨ok.mod,ok.kind,ok.glob,ok.blt,ok.above,ok.inj,ok.has,ok.cab,ok.hd,ok.frames,ok.stk,ok.exf,ok.bs,ok.bsz,ok.noex,ok.exfs,ok.funs,ok.frf⟩
theorem Cx.Ok.unwish {X:Cx} {E:Value->Shared->Prop} (ok:(X.wish E).Ok):X.Ok :=
  ⟨ok.mod,ok.kind,ok.glob,ok.blt,ok.above,ok.inj,ok.has,ok.cab,ok.hd,ok.frames,ok.stk,ok.exf,ok.bs,ok.bsz,ok.noex,ok.exfs,ok.funs,ok.frf⟩
section
variable {X:Cx} {pins:List (Addr×Obj)} {σ:St} {H:Hp} {s:Shared} {E:Value->Shared->Prop}
theorem az.wish (I:az X pins σ H s) (E:Value->Shared->Prop):az (X.wish E) pins σ H s:=⟨I.ok.wish E,I.os,I.bare,I.base,I.loc,I.cell,I.free,I.freeC,I.pin,I.hok,I.len⟩
theorem az.unwish (I:az (X.wish E) pins σ H s):az X pins σ H s:=⟨I.ok.unwish,I.os,I.bare,I.base,I.loc,I.cell,I.free,I.freeC,I.pin,I.hok,I.len⟩
theorem SP.unwish {D:k7} {f:Flow} {s':Shared} (h:SP (X.wish E) pins D f s'):SP X pins D f s':=by
  cases f with
  | next=>obtain ⟨σ',H',I,q⟩:=h;exact ⟨σ',H',I.unwish,q⟩
  | brk=>obtain ⟨σ',H',I,q⟩:=h;exact ⟨σ',H',I.unwish,q⟩
  | cont=>obtain ⟨σ',H',I,q⟩:=h;exact ⟨σ',H',I.unwish,q⟩
  | ret u=>obtain ⟨v,σ',H',I,r,q⟩:=h;exact ⟨v,σ',H',I.unwish,r,q⟩
theorem PE.nox {e:Expr} {t:TE} (h:PE X.nox e t):PE X e t:=fun pins s σ H Q I hw =>
  wpAny_mono (h pins s σ H Q (I.wish _) hw) (fun _ _ ⟨v,H',I',r,q⟩=>⟨v,H',I'.unwish,r,q⟩) fun _ _ z=>False.elim z
theorem PT.nox {e:Expr} {t:TT} (h:PT X.nox e t):PT X e t:=fun pins s σ H Q I hw =>
  wpAny_mono (h pins s σ H Q (I.wish _) hw) (fun _ _ ⟨H',I',q⟩=>⟨H',I'.unwish,q⟩) fun _ _ z=>False.elim z
theorem lF.nox {st:List Stmt} {t:TS} (h:lF X.nox st t):lF X st t:=fun pins s σ H D I hw =>
  wpAny_mono (h pins s σ H D (I.wish _) hw) (fun _ _ q=>q.unwish) fun _ _ z=>False.elim z
end
section
variable {X:Cx} {st:Stmt} {cP:List Stmt} {t u:TS} {e:Expr} {te:TE} {pos:Pos}
noncomputable def vO:TS:=fun D σ H=>D.nx σ H
noncomputable def wR (t u:TS):TS:=fun D σ H=>t { D with nx:=u D } σ H
theorem r8:lF X [] vO:=fun _ _ σ H _ I h=>wpAny_execs_nil ⟨σ,H,I,h⟩
theorem pL (h1:PS X st t) (h2:lF X cP u):lF X (st::cP) (wR t u):=by
  intro pins s σ H D I h;refine wpAny_execs_cons (cG (h1 pins s σ H { D with nx:=u D } I h) fun f s1 q=>?_);cases f with
  | next =>
    obtain ⟨σ',H',I',q⟩:=q;exact h2 pins s1 σ' H' D I' q
  | ret v=>exact q
  | brk=>exact q
  | cont=>exact q
theorem rD (h1:PS X st t):lF X [st] t:=by
  intro pins s σ H D I h;refine wpAny_execs_cons (cG (h1 pins s σ H D I h) fun f s1 q=>?_);cases f with
  | next=>exact wpAny_execs_nil q
  | ret v=>exact q
  | brk=>exact q
  | cont=>exact q
theorem az.quiet {pins:List (Addr×Obj)} {σ:St} {H:Hp} {s:Shared} (I:az X pins σ H s):interactive X.env=false:=by simp [interactive,I.ok.kind]
noncomputable def vP (te:TE):TS:=fun D σ H=>te σ H fun _ H1=>D.nx σ H1
theorem rg (he:PE X e te) (hs:swapsWith e none pos.line X.env=pure false:=by rfl):PS X (.Expr e pos) (vP te):=by
  intro pins s σ H D I h;exact wpAny_Expr_any (cG (he pins s σ H _ I h) fun v s1 ⟨x,H1,I1,r1,q1⟩=>⟨σ,H1,I1,q1⟩) I.quiet hs
noncomputable def wJ (te:TE):TS:=fun D σ H=>te σ H D.rt
theorem ug (he:PE X e te):PS X (.Return (some e) pos) (wJ te):=by
  intro pins s σ H D I h;exact wpAny_Return_some (cG (he pins s σ H _ I h) fun v s1 ⟨x,H1,I1,r1,q1⟩=>⟨x,σ,H1,I1,r1,q1⟩)
noncomputable def wV (c:TT) (t u:TS):TS:=fun D σ H=>c σ H fun b H1=>if b=true then t D σ H1 else u D σ H1
theorem vp {c:Expr} {a b:List Stmt} {tc:TT} (hc:PT X c tc) (ha:lF X a t) (hb:lF X b u):PS X (.If c a b pos) (wV tc t u):=by
  intro pins s σ H D I h;refine wpAny_If (cG (hc pins s σ H _ I h) fun d s1 ⟨H1,I1,q1⟩=>?_);cases d with
  | true=>exact ha pins s1 σ H1 D I1 q1
  | false=>exact hb pins s1 σ H1 D I1 q1
end
noncomputable abbrev TG:=V->St->Hp->(St->Hp->Prop)->Prop
noncomputable abbrev tN:=List V->St->Hp->(St->Hp->Prop)->Prop
noncomputable def PG (X:Cx) (target:Expr) (t:TG):Prop :=
  ∀ (pins:List (Addr×Obj)) (s:Shared) (σ:St) (H:Hp) (v:V) (u:Value) (Q:St->Hp->Prop),az X pins σ H s->bC v u->t v σ H Q ->
    wpAny (model X.prog X.w) X.A (assign target X.env u) (fun _ s'=>∃ σ' H',az X pins σ' H' s'/\Q σ' H') X.xe s
noncomputable def wr (X:Cx) (ts:List Expr) (t:tN):Prop :=
  ∀ (pins:List (Addr×Obj)) (s:Shared) (σ:St) (H:Hp) (vs:List V) (us:List Value) (Q:St->Hp->Prop),az X pins σ H s->aV vs us->t vs σ H Q ->
    wpAny (model X.prog X.w) X.A (assignInOrder ((assignEach ts X.env).map (·.2)) us) (fun _ s'=>∃ σ' H',az X pins σ' H' s'/\Q σ' H') X.xe s
section
variable {X:Cx} {pos:Pos}
noncomputable def tv (i:Nat):TG:=fun v σ H Q=>Q (σ.set i (some v)) H
theorem lg {i:Nat} {x:Str} (hN:X.N.Nodup) (hi:X.N[i]?=some x) (hx:ur X.env.scope x) (hf:X.fn x=true\/X.env.scope.names.lookup x=some .local:=by first | exact .inl rfl | exact .inr rfl | assumption):PG X (.Name x pos) (tv i):=by
  intro pins s σ H v u Q I r h;exact wpAny_assign_Name (gW I hN hi hx r (fun s' I'=>⟨_,H,I',h⟩) hf)
noncomputable def wY:tN:=fun vs σ H Q=>vs=[]/\Q σ H
noncomputable def vU (t:TG) (u:tN):tN:=fun vs σ H Q=>∃ v r,vs=v::r/\t v σ H fun σ' H'=>u r σ' H' Q
theorem rT:wr X [] wY:=by
  intro pins s σ H vs us Q I r h;obtain ⟨e,h⟩:=h;subst e;cases r;exact assignInOrder_nil ⟨σ,H,I,h⟩
theorem l5 {e:Expr} {es:List Expr} {t:TG} {u:tN} (h1:PG X e t) (h2:wr X es u)
    (hs:(assignEach (e::es) X.env).map (·.2)=assign e X.env::(assignEach es X.env).map (·.2):=by rfl):wr X (e::es) (vU t u):=by
  intro pins s σ H vs us Q I r h;obtain ⟨v,vr,e1,h⟩:=h;subst e1;cases r with
  | cons r rr =>
    rw [hs];refine assignInOrder_cons (cG (h1 pins s σ H _ _ _ I r h) fun _ s1 ⟨σ1,H1,I1,q1⟩=>?_);exact h2 pins s1 σ1 H1 _ _ Q I1 rr q1
noncomputable def xg (K:PySem.W.Frag) (n:Nat) (t:tN):TG:=fun v σ H Q=>∃ a xs,v=.ref a/\eU K H a xs/\xs.length=n/\t xs σ H Q
theorem uA {es:List Expr} {k:Nat} {t:tN} {n:Nat} (hc:X.calm=true) (h:wr X es t)
    (hn:(assignEach es X.env).length=n:=by rfl) (hst:(assignEach es X.env).findIdx? (·.1)=none:=by rfl):PG X (.Tuple es k pos) (xg X.K n t):=by
  intro pins s σ H v u Q I r hw;obtain ⟨a,xs,e1,hq,hl,hw⟩:=hw;subst e1;cases r;obtain ⟨its,rv,ht,hz⟩:=I.tuple hq;refine assign_Tuple_tuple (I.ok.hd hc) ht (by simp [hn,<- hl,rv.length]) hst fun h' hx=>?_
  have I1:az X pins σ H { s with heap:=h' }:=I.kept (t':=s.toks) fun b o e=>hx b o (Nat.ne_of_lt (Heap.lt_size e)) e
  exact h pins _ σ H xs _ Q I1 (by simpa using rv) hw
noncomputable def wM (te:TE) (g:TG):TS:=fun D σ H=>te σ H fun x H1=>g x σ H1 D.nx
theorem pH {i:Nat} {x:Str} {e:Expr} {te:TE} {pos':Pos} (hN:X.N.Nodup) (hi:X.N[i]?=some x) (hx:ur X.env.scope x) (he:PE X e te) (hs:swapsWith e (some (.Name x pos')) pos.line X.env=pure false:=by rfl) (hf:X.fn x=true\/X.env.scope.names.lookup x=some .local:=by first | exact .inl rfl | exact .inr rfl | assumption) :
    PS X (.Assign [.Name x pos'] e pos) (wM te (tv i)):=by
  intro pins s σ H D I h;refine wpAny_Assign_Name (cG (he pins s σ H _ I h) fun v s1 ⟨y,H1,I1,r1,q1⟩=>?_) hs;exact gW I1 hN hi hx r1 (fun s2 I2=>⟨_,H1,I2,q1⟩) hf
end
structure It where
  go:Nat->Hp->Prop
  yld:Nat->Hp->V->Hp->Prop
  stop:Nat->Hp->Prop
noncomputable def iT (X:Cx) (pins:List (Addr×Obj)) (H:Hp) (b:Addr):Prop :=
  H b=none/\b≠X.env.locals/\b∉X.fs/\(b∈X.ex\/X.s₀.heap.objs.size<=b)/\(∀ x c,X.env.cells.lookup x=some c->c≠b)/\∀ p∈X.pn++pins,p.1≠b
theorem az.fpOk {X:Cx} {pins:List (Addr×Obj)} {σ:St} {H H':Hp} {s:Shared} {b:Addr} (I:az X pins σ H s) (hb:s.heap.objs.size<=b) (hn:H' b=none):iT X pins H' b:=by
  refine ⟨hn,Nat.ne_of_gt (Nat.lt_of_lt_of_le I.lt hb),I.nofs hb,.inr (Nat.le_trans I.sz hb),fun x c e z=>?_,fun p hp z=>?_⟩
  · obtain ⟨v,q⟩:=I.cell x c e;exact absurd (Nat.lt_of_lt_of_le q.lt (by rw [z];exact hb)) (Nat.lt_irrefl _)
  · exact absurd (Nat.lt_of_lt_of_le (Heap.lt_size (I.pin p hp).1) (by rw [z];exact hb)) (Nat.lt_irrefl _)
structure oy (P:Program) (w:World) (K:PySem.W.Frag) (tg:Expr) (J:It) (fp:List Addr) (it:Addr) (tn:Nat->Heap->Prop):Prop where
  mem:it∈fp
  obj:∀ i h,tn i h->∀ b∈fp,∃ o,h.get? b=some o/\∀ v,o.data≠.cell v
  keep:∀ i h h',tn i h->(∀ b∈fp,∀ o,h.get? b=some o->h'.get? b=some o)->tn i h'
  item:∀ (X:Cx),X.prog=P->X.w=w->X.K=K->X.calm=true->∀ (i:Nat) (pins:List (Addr×Obj)) (s:Shared) (σ:St) (H:Hp) (E:Value->Shared->Prop),az X pins σ H s->(∀ b∈fp,iT X pins H b)->tn i s.heap->J.go i H ->
    wpAny (model P w) X.A (pyNext (.ref it)) (fun r s1=>∃ u,r=some u /\
      wpAny (model P w) X.A (letOwnedTupleGo tg (.ref it) u) (fun _ s2=>∃ x H',az X pins σ H' s2/\bC x u/\J.yld i H x H'/\tn (i+1) s2.heap/\∀ b∈fp,H' b=none) E s1) E s
  done:∀ (X:Cx),X.prog=P->X.w=w->X.K=K->X.calm=true->∀ (i:Nat) (pins:List (Addr×Obj)) (s:Shared) (σ:St) (H:Hp) (E:Value->Shared->Prop),az X pins σ H s->(∀ b∈fp,iT X pins H b)->tn i s.heap->J.stop i H ->
    wpAny (model P w) X.A (pyNext (.ref it)) (fun r s1=>r=none/\az X pins σ H s1) E s
  self:∀ (A:Around) (i:Nat) (s:Shared) (Q:Value->Shared->Prop) (E:Value->Shared->Prop),tn i s.heap->Q (.ref it) s->wpAny (model P w) A (pyIter (.ref it)) Q E s
noncomputable abbrev TI:=St->Hp->(It->Hp->Prop)->Prop
noncomputable def xo (X:Cx) (pins:List (Addr×Obj)) (σ:St) (tg:Expr) (R:It->Hp->Prop) (itv:Value) (s2:Shared):Prop :=
  ∃ (it:Addr) (fp:List Addr) (tn:Nat->Heap->Prop) (J:It) (H':Hp),itv=.ref it/\az X pins σ H' s2/\oy X.prog X.w X.K tg J fp it tn/\tn 0 s2.heap/\(∀ b∈fp,iT X pins H' b)/\R J H'
noncomputable def PI (X:Cx) (tg iter:Expr) (wi:TI):Prop :=
  ∀ (pins:List (Addr×Obj)) (s:Shared) (σ:St) (H:Hp) (R:It->Hp->Prop),az X pins σ H s->wi σ H R ->
    wpAny (model X.prog X.w) X.A (eval iter X.env) (fun v s1=>wpAny (model X.prog X.w) X.A (pyIter v) (xo X pins σ tg R) X.xe s1) X.xe s
theorem qi {M:Model} {A:Around} {E:Value->Shared->Prop} {s:Shared} {tg:Expr} {it:Addr} {u:Value} {o:Obj} {n:String} {vs:Array Value} {Q:Unit->Shared->Prop} (ho:s.heap.get? it=some o) (hc:o.cls=.type n) (hd:o.data=.fields vs)
    (hn:["enumerate","zip","dict_itemiterator","dict_reverseitemiterator","odict_iterator","itertools.zip_longest","itertools.pairwise"].contains n=false) (hQ:Q () s):wpAny M A (letOwnedTupleGo tg (.ref it) u) Q E s:=by
  unfold letOwnedTupleGo;cases tg <;> first
    | exact wpAny_pure hQ
    | (cases u <;> first
        | exact wpAny_pure hQ
        | (refine wpAny_bind (wpAny_load ho ?_)
           rw [hc,hd];show wpAny M A (if (["enumerate","zip","dict_itemiterator","dict_reverseitemiterator","odict_iterator","itertools.zip_longest","itertools.pairwise"].contains n&&vs[0]?==some (rawInt _))=true then _ else _) Q E s;rw [if_neg (by intro h;rw [hn,Bool.false_and] at h;cases h)];exact wpAny_pure hQ))
noncomputable def xh (K:PySem.W.Frag) (a:Addr):It :=
  ⟨fun i H=>∃ xs x,ke K H a xs/\xs[i]?=some x,fun i H x H'=>H'=H/\∀ xs,ke K H a xs->xs[i]?=some x,fun i H=>∃ xs,ke K H a xs/\xs.length<=i⟩
noncomputable def wU (K:PySem.W.Frag) (a:Addr):It :=
  ⟨fun i H=>∃ xs x,eU K H a xs/\xs[i]?=some x,fun i H x H'=>H'=H/\∀ xs,eU K H a xs->xs[i]?=some x,fun i H=>∃ xs,eU K H a xs/\xs.length<=i⟩
noncomputable def wp (lo:Int) (n:Nat):It:=⟨fun i _=>i < n,fun i H x H'=>H'=H/\x=.int (lo+i),fun i _=>n<=i⟩
theorem pB {P:Program} {w:World} {K:PySem.W.Frag} {tg:Expr} (a it:Addr):oy P w K tg (xh K a) [it] it (fun i h=>h.IsListIter it a i) where
  mem:=by simp
  obj:=fun i h st b hb=>by
    have e:b=it:=by simpa using hb
    subst e;obtain ⟨o,e,c,d⟩:=st;exact ⟨o,e,fun v z=>by rw [d] at z;cases z⟩
  keep:=fun i h h' st k=>st.at fun o e=>k it (by simp) o e
  item:=by
    intro X hP hw hK hc i pins s σ H E I hf st hg;subst hP hw hK;obtain ⟨xs,x,hq,hx⟩:=hg;obtain ⟨its,rv,p,hz⟩:=I.list hq;obtain ⟨u,hu,ru⟩:=rv.get hx;obtain ⟨f0,f1,f2,f3,f4,f5⟩:=hf it (by simp);refine wpAny_pyNext_list_item st p.isList (x:=u) (by simpa using hu) fun h' st' sb=>?_
    have I1:az X pins σ H { s with heap:=h' }:=I.turned (t':=s.toks) (fun b o hb e=>(sb.2 b hb).trans e) f0 f1 f3 f4 f5;obtain ⟨o,e,c,d⟩:=id st';exact ⟨u,rfl,qi (s:={ s with heap:=h' }) e c d (by decide) ⟨x,H,I1,ru,⟨rfl,fun ys hy=>by rw [I.list_inj hy hq];exact hx⟩,st',fun b hb=>(hf b hb).1⟩⟩
  done:=by
    intro X hP hw hK hc i pins s σ H E I hf st hg;subst hP hw hK;obtain ⟨xs,hq,hx⟩:=hg;obtain ⟨its,rv,p,hz⟩:=I.list hq;obtain ⟨f0,f1,f2,f3,f4,f5⟩:=hf it (by simp);have hl:=rv.length;exact wpAny_pyNext_list_end (I.ok.hd hc) st p.isList (by simp;omega) fun h' eb=>⟨rfl,I.turned (t':=s.toks) (fun b o hb e=>eb b o hb e) f0 f1 f3 f4 f5⟩
  self:=fun _ _ _ _ _ st h=>wpAny_pyIter_listiter st h
theorem my {P:Program} {w:World} {K:PySem.W.Frag} {tg:Expr} (a it:Addr):oy P w K tg (wU K a) [it] it (fun i h=>h.IsTupleIter it a i) where
  mem:=by simp
  obj:=fun i h st b hb=>by
    have e:b=it:=by simpa using hb
    subst e;obtain ⟨o,e,c,d⟩:=st;exact ⟨o,e,fun v z=>by rw [d] at z;cases z⟩
  keep:=fun i h h' st k=>st.at fun o e=>k it (by simp) o e
  item:=by
    intro X hP hw hK hc i pins s σ H E I hf st hg;subst hP hw hK;obtain ⟨xs,x,hq,hx⟩:=hg;obtain ⟨its,rv,p,hz⟩:=I.tuple hq;obtain ⟨u,hu,ru⟩:=rv.get hx;obtain ⟨f0,f1,f2,f3,f4,f5⟩:=hf it (by simp);refine wpAny_pyNext_tuple_item st (show s.heap.IsTuple a its.toArray from p) (x:=u) (by simpa using hu) fun h' st' sb=>?_
    have I1:az X pins σ H { s with heap:=h' }:=I.turned (t':=s.toks) (fun b o hb e=>(sb.2 b hb).trans e) f0 f1 f3 f4 f5;obtain ⟨o,e,c,d⟩:=id st';exact ⟨u,rfl,qi (s:={ s with heap:=h' }) e c d (by decide) ⟨x,H,I1,ru,⟨rfl,fun ys hy=>by rw [I.tuple_inj hy hq];exact hx⟩,st',fun b hb=>(hf b hb).1⟩⟩
  done:=by
    intro X hP hw hK hc i pins s σ H E I hf st hg;subst hP hw hK;obtain ⟨xs,hq,hx⟩:=hg;obtain ⟨its,rv,p,hz⟩:=I.tuple hq;obtain ⟨f0,f1,f2,f3,f4,f5⟩:=hf it (by simp);have hl:=rv.length;exact wpAny_pyNext_tuple_end (I.ok.hd hc) st (show s.heap.IsTuple a its.toArray from p) (by simp;omega) fun h' eb=>⟨rfl,I.turned (t':=s.toks) (fun b o hb e=>eb b o hb e) f0 f1 f3 f4 f5⟩
  self:=fun _ _ _ _ _ st h=>wpAny_pyIter_tupleiter st h
theorem mW {P:Program} {w:World} {K:PySem.W.Frag} {tg:Expr} (it:Addr) (lo:Int) (n:Nat):oy P w K tg (wp lo n) [it] it (fun i h=>IsRangeIter h it (lo+(i:Nat)*1) ((n:Int)-(i:Nat)) 1) where
  mem:=by simp
  obj:=fun i h st b hb=>by
    have e:b=it:=by simpa using hb
    subst e;exact ⟨_,st,fun v z=>by
      have z':Data.fields _=Data.cell v:=z;cases z'⟩
  keep:=fun i h h' st k=>k it (by simp) _ st
  item:=by
    intro X hP hw hK hc i pins s σ H E I hf st hg;subst hP hw hK;obtain ⟨f0,f1,f2,f3,f4,f5⟩:=hf it (by simp);have W:=Walks.range (prog:=X.prog) (w:=X.w) (I.ok.hd hc) it lo 1 n;refine W.item i s _ _ hg st fun v h' tk hv st' kk=>?_
    obtain ⟨t,rfl⟩:=hv;have I1:az X pins σ H { s with heap:=h',toks:=tk }:=I.turned (fun b o hb e=>kk b o (by simpa using hb) e) f0 f1 f3 f4 f5;refine ⟨_,rfl,qi (s:={ s with heap:=h',toks:=tk }) (n := "range_iterator") st' rfl rfl (by decide) ⟨.int (lo+i),H,I1,⟨t,?_⟩,⟨rfl,rfl⟩,st',fun b hb=>(hf b hb).1⟩⟩;rw [Int.mul_one]
  done:=by
    intro X hP hw hK hc i pins s σ H E I hf st hg;subst hP hw hK;obtain ⟨f0,f1,f2,f3,f4,f5⟩:=hf it (by simp);exact wpAny_pyNext_range_end (I.ok.hd hc) st (by have:n<=i:=hg;omega) fun h' eb=>⟨rfl,I.turned (t':=s.toks) (fun b o hb e=>eb b o hb e) f0 f1 f3 f4 f5⟩
  self:=fun _ _ _ _ _ st h=>wpAny_pyIter_rangeiter st h
section
variable {X:Cx} {tg:Expr}
theorem qt {pins:List (Addr×Obj)} {σ:St} {H:Hp} {s:Shared} {R:It->Hp->Prop} {E:Value->Shared->Prop} {lo hi:Int} {t u v:Tok} {tk:Nat} (I:az X pins σ H s) (h1:-(2 ^ 62)<=lo) (h2:lo < 2 ^ 62) (h3:-(2 ^ 62)<=hi) (h4:hi < 2 ^ 62)
    (q:R (wp lo (hi-lo).toNat) H):wpAny (model X.prog X.w) X.A (pyIter (.ref s.heap.objs.size)) (xo X pins σ tg R) E { s with heap:=s.heap.push { cls:=.type "range",data:=.fields #[.int lo t,.int hi u,.int 1 v] },toks:=tk }:=by
  refine wpAny_pyIter_range (IsRange.new ..) (small_one h1 h2 h3 h4) ?_;have I1:az X pins σ H { s with heap:=s.heap.push { cls:=.type "range",data:=.fields #[.int lo t,.int hi u,.int 1 v] },toks:=tk }:=I.kept fun b o e=>Heap.get?_push_of_some _ e
  refine ⟨(s.heap.push { cls:=.type "range",data:=.fields #[.int lo t,.int hi u,.int 1 v] }).objs.size,[(s.heap.push { cls:=.type "range",data:=.fields #[.int lo t,.int hi u,.int 1 v] }).objs.size],_,_,H,rfl,
    I1.kept (t':=tk) fun b o e=>Heap.get?_push_of_some _ e,mW _ lo (hi-lo).toNat,?_,fun b hb=>?_,q⟩
  · have e1:lo+((0:Nat):Int)*1=lo:=by simp
    have e2:(((hi-lo).toNat:Nat):Int)-((0:Nat):Int)=Builtin.Range.rangeSize lo hi 1:=by rw [rangeSize_one];split <;> omega
    show IsRangeIter _ _ (lo+((0:Nat):Int)*1) ((((hi-lo).toNat:Nat):Int)-((0:Nat):Int)) 1;rw [e1,e2];exact Heap.get?_push_size _ rfl
  · have e:b=(s.heap.push { cls:=.type "range",data:=.fields #[.int lo t,.int hi u,.int 1 v] }).objs.size:=by simpa using hb
    subst e;exact I1.fpOk (Nat.le_refl _) (I1.hok.fresh (Nat.le_refl _))
noncomputable def vf (ta:TA):TI:=fun σ H R=>ta σ H fun vs H1=>∃ j:Int,vs=[.int j]/\-(2 ^ 62)<=j/\j < 2 ^ 62/\R (wp 0 j.toNat) H1
theorem ox {a:Expr} {ta:TA} {p pos:Pos} (hg:Gl X "range") (hm:X.mg "range" = none) (ha:PA X [a] ta) (hs:starEach [a] X.env=[(false,eval a X.env)]:=by rfl):PI X tg (.Call (.Name "range" p) [a] [] pos) (vf ta):=by
  intro pins s σ H R I h;refine Call_ (jA I hg hm boot_range (PyProof.Rows.callWith_type1 (cG (ha pos pins s σ H _ I h) fun us s1 ⟨vs,H1,I1,r1,q1⟩=>?_) hs rfl));obtain ⟨j,e,q1,q2,q⟩:=q1;subst e;cases r1 with
  | cons r rr =>
    cases rr;obtain ⟨t,rfl⟩:=r;exact call_range_1 (qt I1 (by omega) (by omega) q1 q2 (by simpa using q))
noncomputable def xj (wi:TI) (g:TG) (tb:TS):TS:=fun D σ H=>wi σ H fun J H1=>∃ W:Nat->Nat->St->Hp->Prop,(∃ m,W 0 m σ H1)/\∀ i m σ H,W i m σ H ->
  (J.stop i H/\D.nx σ H)\/(J.go i H/\∃ N:St->Hp->Prop,(∀ σ' H',N σ' H'->∃ m',m' < m/\W (i+1) m' σ' H')/\∀ x H',J.yld i H x H'->g x σ H' fun σ2 H2=>tb { D with nx:=N,ct:=N,bk:=D.nx } σ2 H2)
noncomputable def jj (fp:List Addr) (h:Heap):List (Addr×Obj):=fp.filterMap fun b=>(h.get? b).map fun o=>(b,o)
theorem fF {fp:List Addr} {h:Heap} {b:Addr} {o:Obj} (hb:b∈fp) (e:h.get? b=some o):(b,o)∈jj fp h:=List.mem_filterMap.mpr ⟨b,hb,by rw [e];rfl⟩
theorem pb {fp:List Addr} {h:Heap} {p:Addr×Obj} (hp:p∈jj fp h):p.1∈fp/\h.get? p.1=some p.2:=by
  obtain ⟨b,hb,e⟩:=List.mem_filterMap.mp hp;cases q:h.get? b with
  | none=>rw [q] at e;cases e
  | some o =>
    rw [q] at e;have e':(b,o)=p:=Option.some.inj e;subst e';exact ⟨hb,q⟩
theorem az.pinned {pins:List (Addr×Obj)} {σ:St} {H:Hp} {s:Shared} {fp:List Addr} (I:az X pins σ H s) (hf:∀ b∈fp,iT X pins H b) (ho:∀ b∈fp,∃ o,s.heap.get? b=some o/\∀ v,o.data≠.cell v):az X (pins++jj fp s.heap) σ H s :=
  I.pins_of fun p hp=>(List.mem_append.mp hp).elim (fun z=>I.pin p (List.mem_append_right _ z)) fun z=>by
    obtain ⟨hb,e⟩:=pb z;obtain ⟨f0,f1,f2,_⟩:=hf p.1 hb;obtain ⟨o,e',d⟩:=ho p.1 hb;rw [e] at e';cases e';exact ⟨e,f0,f1,f2,d⟩
theorem az.unpinned {pins pl:List (Addr×Obj)} {σ:St} {H:Hp} {s:Shared} (I:az X (pins++pl) σ H s):az X pins σ H s:=I.pins_of fun p hp=>I.pin p (List.mem_append_right _ (List.mem_append_left _ hp))
theorem tQ {iter:Expr} {body:List Stmt} {wi:TI} {g:TG} {tb:TS} {pos:Pos} (hp:PassesOwn (model X.prog X.w) X.A X.env X.xe) (hc:X.calm=true) (hi:PI X tg iter wi) (hg:PG X tg g) (hb:lF X body tb)
    (hs:∀ x,foldedSetIterable iter X.env x=pure x:=by intro _;rfl):PS X (.For tg iter body [] pos) (xj wi g tb):=by
  intro pins s σ H D I h;refine wpAny_For (cG (hi pins s σ H _ I h) fun v s1 h1=>cG h1 fun itv s2 h2=>?_) hs;obtain ⟨it,fp,tn,J,H2,e,I2,T,st2,f2,W,⟨m0,w0⟩,turn⟩:=h2;subst e
  -- what stays true of the iterator's objects through the loop
  have stat:∀ {H':Hp},(∀ b∈fp,H' b=none)->∀ b∈fp,iT X pins H' b:=fun hn b hb=>⟨hn b hb,(f2 b hb).2⟩
  refine codeAny_forLoop_any (fun n s'=>∃ i σ' H',az X pins σ' H' s'/\tn i s'.heap/\(∀ b∈fp,H' b=none)/\W i n σ' H') ?_ m0 ⟨0,σ,H2,I2,st2,fun b hb=>(f2 b hb).1,w0⟩;rintro n s3 ⟨i,σ3,H3,I3,st3,fr3,w3⟩;rcases turn i n σ3 H3 w3 with ⟨stop,qn⟩ | ⟨go,N,hN,step⟩
  · refine wpAny_passesOwn hp (cG (T.done X rfl rfl rfl hc i pins s3 σ3 H3 X.xe I3 (stat fr3) st3 stop) fun r s4 ⟨hr,I4⟩=>?_);subst hr;exact wpAny_execs_nil ⟨σ3,H3,I4,qn⟩
  · refine wpAny_passesOwn hp (cG (T.item X rfl rfl rfl hc i pins s3 σ3 H3 X.xe I3 (stat fr3) st3 go) fun r s4 ⟨u,hr,h4⟩=>?_);subst hr;refine wpAny_passesOwn hp (cG h4 fun _ s5 ⟨x,H5,I5,r5,y5,st5,fr5⟩=>?_);have I5':=I5.pinned (stat fr5) (T.obj _ _ st5);refine wpAny_passesOwn hp (cG (hg _ s5 σ3 H5 x u _ I5' r5 (step x H5 y5)) fun _ s6 ⟨σ6,H6,I6,q6⟩=>?_);refine wpAny_passesOwn hp (cG (hb _ s6 σ6 H6 _ I6 q6) fun f s7 q7=>?_);have again:∀ {σ7:St} {H7:Hp},az X (pins++jj fp s5.heap) σ7 H7 s7->N σ7 H7->∃ m,m < n/\∃ i σ' H',az X pins σ' H' s7/\tn i s7.heap/\(∀ b∈fp,H' b=none)/\W i m σ' H':=fun {σ7 H7} I7 n7=>by
      obtain ⟨m',hm,w7⟩:=hN σ7 H7 n7;refine ⟨m',hm,i+1,σ7,H7,I7.unpinned,T.keep _ _ _ st5 fun b hb o e=>(I7.pin (b,o) (List.mem_append_right _ (List.mem_append_right _ (fF hb e)))).1,fun b hb=>?_,w7⟩;obtain ⟨o,e,d⟩:=T.obj _ _ st5 b hb;exact (I7.pin (b,o) (List.mem_append_right _ (List.mem_append_right _ (fF hb e)))).2.1
    cases f with
    | next=>obtain ⟨σ7,H7,I7,n7⟩:=q7;exact again I7 n7
    | cont=>obtain ⟨σ7,H7,I7,n7⟩:=q7;exact again I7 n7
    | brk=>obtain ⟨σ7,H7,I7,q7⟩:=q7;exact ⟨σ7,H7,I7.unpinned,q7⟩
    | ret v=>obtain ⟨x7,σ7,H7,I7,r7,q7⟩:=q7;exact ⟨x7,σ7,H7,I7.unpinned,r7,q7⟩
end
noncomputable abbrev R2:=V->V->Hp->VK->Prop
noncomputable def fH (X:Cx) (f:Value->Value->Sem Value) (r:R2):Prop :=
  ∀ (pins:List (Addr×Obj)) (s:Shared) (σ:St) (H:Hp) (x y:V) (v u:Value) (Q:VK),az X pins σ H s->bC x v->bC y u->r x y H Q ->
    wpAny (model X.prog X.w) X.A (f v u) (EP X pins σ Q) X.xe s
noncomputable def wI (X:Cx) (f:Value->Sem Value) (r:V->Hp->VK->Prop):Prop :=
  ∀ (pins:List (Addr×Obj)) (s:Shared) (σ:St) (H:Hp) (x:V) (v:Value) (Q:VK),az X pins σ H s->bC x v->r x H Q ->
    wpAny (model X.prog X.w) X.A (f v) (EP X pins σ Q) X.xe s
noncomputable def c4 (X:Cx) (f:Value) (r:List V->Hp->VK->Prop):Prop :=
  ∀ (pins:List (Addr×Obj)) (s:Shared) (σ:St) (H:Hp) (xs:List V) (us:List Value) (Q:VK),az X pins σ H s->aV xs us->r xs H Q ->
    wpAny (model X.prog X.w) X.A (call f us) (EP X pins σ Q) X.xe s
noncomputable def vW (r:R2) (ta tb:TE):TE:=fun σ H Q=>ta σ H fun x H1=>tb σ H1 fun y H2=>r x y H2 Q
noncomputable def xr (r:V->Hp->VK->Prop) (ta:TE):TE:=fun σ H Q=>ta σ H fun x H1=>r x H1 Q
noncomputable def rI (C:Int->Int->Prop) (g:Int->Int->V):R2:=fun x y H Q=>∃ i j,x=.int i/\y=.int j/\C i j/\Q (g i j) H
noncomputable def rb (g:Int->Int->V):R2:=fun x y H Q=>∃ i j,x=.int i/\y=.int j/\Q (g i j) H
noncomputable def rU (g:Int->V):V->Hp->VK->Prop:=fun x H Q=>∃ i,x=.int i/\Q (g i) H
section
variable {X:Cx} {a b c:Expr} {ta tb tc:TE} {pos:Pos}
theorem tZ (ha:PE X a ta) (hb:PE X b tb) {pins:List (Addr×Obj)} {s:Shared} {σ:St} {H:Hp} {R:V->V->Hp->Prop} (I:az X pins σ H s)
    (h:ta σ H fun x H1=>tb σ H1 fun y H2=>R x y H2) {Q:Value->Shared->Prop} {f:Value->Value->Sem Value}
    (hf:∀ v u s2 x y H2,az X pins σ H2 s2->bC x v->bC y u->R x y H2->wpAny (model X.prog X.w) X.A (f v u) Q X.xe s2) :
    wpAny (model X.prog X.w) X.A (eval a X.env) (fun v s₁=>wpAny (model X.prog X.w) X.A (eval b X.env) (fun u s₂=>wpAny (model X.prog X.w) X.A (f v u) Q X.xe s₂) X.xe s₁) X.xe s:=by
  refine cG (ha pins s σ H _ I h) fun v s1 ⟨x,H1,I1,r1,q1⟩=>?_
  refine cG (hb pins s1 σ H1 _ I1 q1) fun u s2 ⟨y,H2,I2,r2,q2⟩=>?_
  exact hf v u s2 x y H2 I2 r1 r2 q2
theorem sZ {op:Operator} {r:R2} (ho:fH X (binaryOp op) r) (ha:PE X a ta) (hb:PE X b tb):PE X (.BinOp a op b pos) (vW r ta tb):=by
  intro pins s σ H Q I h;exact wpAny_BinOp (tZ ha hb I h fun v u s2 x y H2 I2 rx ry q=>ho pins s2 σ H2 x y v u Q I2 rx ry q)
theorem vA {op:UnaryOp} {r:V->Hp->VK->Prop} (ho:wI X (unaryOp op) r) (ha:PE X a ta):PE X (.UnaryOp op a pos) (xr r ta):=by
  intro pins s σ H Q I h;exact UnaryOp_ (cG (ha pins s σ H _ I h) fun v s1 ⟨x,H1,I1,r1,q1⟩=>ho pins s1 σ H1 x v Q I1 r1 q1)
theorem xk {f:Value->Value->Sem Value} {C:Int->Int->Prop} {g:Int->Int->Int}
    (rule:∀ (i j:Int) (t u:Tok) (s:Shared) (Q:Value->Shared->Prop) (E:Value->Shared->Prop),C i j->Q (.int (g i j) s.toks) { s with toks:=s.toks+1 }->wpAny (model X.prog X.w) X.A (f (.int i t) (.int j u)) Q E s) :
    fH X f (rI C fun i j=>.int (g i j)):=by
  intro pins s σ H x y v u Q I rx ry h;obtain ⟨i,j,rfl,rfl,hc,q⟩:=h;obtain ⟨t,rfl⟩:=rx;obtain ⟨t',rfl⟩:=ry;exact rule i j t t' s _ _ hc ⟨.int (g i j),H,I.tok _,⟨_,rfl⟩,q⟩
theorem vN {f:Value->Value->Sem Value} {g:Int->Int->Int}
    (rule:∀ (i j:Int) (t u:Tok) (s:Shared) (Q:Value->Shared->Prop) (E:Value->Shared->Prop),Q (.int (g i j) s.toks) { s with toks:=s.toks+1 }->wpAny (model X.prog X.w) X.A (f (.int i t) (.int j u)) Q E s) :
    fH X f (rb fun i j=>.int (g i j)):=by
  intro pins s σ H x y v u Q I rx ry h;obtain ⟨i,j,rfl,rfl,q⟩:=h;obtain ⟨t,rfl⟩:=rx;obtain ⟨t',rfl⟩:=ry;exact rule i j t t' s _ _ ⟨.int (g i j),H,I.tok _,⟨_,rfl⟩,q⟩
theorem uB {f:Value->Value->Sem Value} {g:Int->Int->Bool}
    (rule:∀ (i j:Int) (t u:Tok) (s:Shared) (Q:Value->Shared->Prop) (E:Value->Shared->Prop),Q (.bool (g i j)) s->wpAny (model X.prog X.w) X.A (f (.int i t) (.int j u)) Q E s) :
    fH X f (rb fun i j=>.bl (g i j)):=by
  intro pins s σ H x y v u Q I rx ry h;obtain ⟨i,j,rfl,rfl,q⟩:=h;obtain ⟨t,rfl⟩:=rx;obtain ⟨t',rfl⟩:=ry;exact rule i j t t' s _ _ ⟨.bl (g i j),H,I,rfl,q⟩
noncomputable def vx (i j:Int):Prop:=0 < j/\j < 1073741824
noncomputable def rN (i j:Int):Prop:=(-(2 ^ 64) < i/\i < 2 ^ 64)\/(-(2 ^ 64) < j/\j < 2 ^ 64)
theorem rN.ok {i j:Int} (h:rN i j):IntMulOk i j:=by
  rcases h with ⟨h1,h2⟩ | ⟨h1,h2⟩
  · exact .of_left (intBits_le_64 h1 h2)
  · exact .of_right (intBits_le_64 h1 h2)
theorem ul:fH X (binaryOp .Add) (rb fun i j=>.int (i+j)):=vN fun _ _ _ _ _ _ _ q=>add_int q
theorem uU:fH X (binaryOp .Sub) (rb fun i j=>.int (i-j)):=vN fun _ _ _ _ _ _ _ q=>sub_int q
theorem tV:fH X (binaryOp .Mult) (rI rN fun i j=>.int (i*j)):=xk fun _ _ _ _ _ _ _ hc q=>mul_int q hc.ok
theorem rX:fH X (binaryOp .FloorDiv) (rI vx fun i j=>.int (i / j)):=xk fun i j _ _ _ _ _ hc q=>by
  have h1:(0:Int) < j:=hc.1;have h2:j < 1073741824:=hc.2;exact floordiv_int (by omega) (by rw [Int.fdiv_eq_ediv_of_nonneg i (by omega)];exact q) (.inl (PyProof.noPylong_small (by omega)))
theorem uH:fH X (binaryOp .Mod) (rI (fun _ j=>0 < j) fun i j=>.int (i%j)):=xk fun i j _ _ _ _ _ hc q=>by
  have h1:(0:Int) < j:=hc;exact mod_int' (by omega) (by rw [Int.fmod_eq_emod_of_nonneg i (by omega)];exact q)
theorem xI {f:Value->Sem Value} {g:Int->Int}
    (rule:∀ (i:Int) (t:Tok) (s:Shared) (Q:Value->Shared->Prop) (E:Value->Shared->Prop),Q (.int (g i) s.toks) { s with toks:=s.toks+1 }->wpAny (model X.prog X.w) X.A (f (.int i t)) Q E s) :
    wI X f (rU fun i=>.int (g i)):=by
  intro pins s σ H x v Q I rx h;obtain ⟨i,rfl,q⟩:=h;obtain ⟨t,rfl⟩:=rx;exact rule i t s _ _ ⟨.int (g i),H,I.tok _,⟨_,rfl⟩,q⟩
theorem uW:wI X (unaryOp .USub) (rU fun i=>.int (-i)):=xI fun _ _ _ _ _ q=>neg_int q
end
section
variable {X:Cx} {a b c:Expr} {ta tb tc:TE} {pos:Pos}
theorem qP:fH X (compareOp .Lt) (rb fun i j=>.bl (decide (i < j))):=uB fun _ _ _ _ _ _ _ q=>lt_int q
theorem km:fH X (compareOp .LtE) (rb fun i j=>.bl (decide (i<=j))):=uB fun _ _ _ _ _ _ _ q=>le_int q
theorem u9:fH X (compareOp .Gt) (rb fun i j=>.bl (decide (j < i))):=uB fun _ _ _ _ _ _ _ q=>gt_int q
theorem fH.or {f:Value->Value->Sem Value} {r r':R2} (h:fH X f r) (h':fH X f r'):fH X f (fun x y H Q=>r x y H Q\/r' x y H Q):=by
  intro pins s σ H x y v u Q I rx ry q;rcases q with q | q
  · exact h pins s σ H x y v u Q I rx ry q
  · exact h' pins s σ H x y v u Q I rx ry q
theorem jN (b:Expr) {op:CmpOp} (h:op≠.In:=by decide) (h2:op≠.NotIn:=by decide):behindInMarks op b=false:=by
  have e1:(op==CmpOp.In)=false:=by cases op <;> first | rfl | exact absurd rfl h
  have e2:(op==CmpOp.NotIn)=false:=by cases op <;> first | rfl | exact absurd rfl h2
  cases b <;> simp [behindInMarks,e1,e2]
theorem sj {op:CmpOp} {r:R2} (ho:fH X (compareOp op) r) (ha:PE X a ta) (hb:PE X b tb) (hm:behindInMarks op b=false):PE X (.Compare a [op] [b] pos) (vW r ta tb):=by
  intro pins s σ H Q I h;exact wpAny_Compare1 (tZ ha hb I h fun v u s2 x y H2 I2 rx ry q=>ho pins s2 σ H2 x y v u Q I2 rx ry q) hm
noncomputable def tq (t:TE):TT:=fun σ H Q=>t σ H fun x H'=>∃ k,x=.bl k/\Q k H'
theorem rh {op:CmpOp} {r:R2} (ho:fH X (compareOp op) r) (ha:PE X a ta) (hb:PE X b tb) (hm:behindInMarks op b=false):PT X (.Compare a [op] [b] pos) (tq (vW r ta tb)):=by
  intro pins s σ H Q I h;refine wpAny_isTrue_Compare1 (cG (ha pins s σ H _ I h) fun v s1 ⟨x,H1,I1,r1,q1⟩=>cG (hb pins s1 σ H1 _ I1 q1) fun u s2 ⟨y,H2,I2,r2,q2⟩ =>
    cG (ho pins s2 σ H2 x y v u _ I2 r1 r2 q2) fun c s3 ⟨z,H3,I3,r3,k,e,q3⟩=>?_) hm
  subst e;cases r3;exact wpAny_truthy_bool ⟨H3,I3,q3⟩
noncomputable def mK (r r':R2) (ta tb tc:TE):TE:=fun σ H Q=>ta σ H fun x H1=>tb σ H1 fun y H2=>r x y H2 fun z H3=>∃ k,z=.bl k /\
  (if k=true then tc σ H3 fun w' H4=>r' y w' H4 Q else Q (.bl false) H3)
theorem pP {op op':CmpOp} {r r':R2} (ho:fH X (compareOp op) r) (ho':fH X (compareOp op') r') (ha:PE X a ta) (hb:PE X b tb) (hc:PE X c tc)
    (hm:lastMarks [op,op'] [b,c]=false:=by with_unfolding_all rfl):PE X (.Compare a [op,op'] [b,c] pos) (mK r r' ta tb tc):=by
  intro pins s σ H Q I h;refine Compare_chain (cG (ha pins s σ H _ I h) fun v s1 ⟨x,H1,I1,r1,q1⟩=>chain_link (cG (hb pins s1 σ H1 _ I1 q1) fun u s2 ⟨y,H2,I2,r2,q2⟩ =>
    cG (ho pins s2 σ H2 x y v u _ I2 r1 r2 q2) fun d s3 ⟨z,H3,I3,r3,k,e,q3⟩=>?_)) hm
  subst e;cases r3;refine wpAny_truthy_bool ?_;cases k with
  | false=>exact ite_ff ⟨.bl false,H3,I3,rfl,q3⟩
  | true=>exact ite_tt (chain_last (cG (hc pins s3 σ H3 _ I3 q3) fun w' s4 ⟨z',H4,I4,r4,q4⟩=>ho' pins s4 σ H4 y z' u w' Q I4 r2 r4 q4))
theorem qV {op op':CmpOp} {r r':R2} (ho:fH X (compareOp op) r) (ho':fH X (compareOp op') r') (ha:PE X a ta) (hb:PE X b tb) (hc:PE X c tc)
    (hm:lastMarks [op,op'] [b,c]=false:=by with_unfolding_all rfl):PT X (.Compare a [op,op'] [b,c] pos) (tq (mK r r' ta tb tc)):=by
  intro pins s σ H Q I h;refine isTrue_chain (cG (ha pins s σ H _ I h) fun v s1 ⟨x,H1,I1,r1,q1⟩=>test_link (cG (hb pins s1 σ H1 _ I1 q1) fun u s2 ⟨y,H2,I2,r2,q2⟩ =>
    cG (ho pins s2 σ H2 x y v u _ I2 r1 r2 q2) fun d s3 ⟨z,H3,I3,r3,k,e,q3⟩=>?_)) hm
  subst e;cases r3;refine wpAny_truthy_bool ?_;cases k with
  | false =>
    obtain ⟨k',e',q'⟩:=q3;cases e';exact ite_ff ⟨H3,I3,q'⟩
  | true =>
    refine ite_tt (test_last (cG (hc pins s3 σ H3 _ I3 q3) fun w' s4 ⟨z',H4,I4,r4,q4⟩=>cG (ho' pins s4 σ H4 y z' u w' _ I4 r2 r4 q4) fun d' s5 ⟨z2,H5,I5,r5,k2,e2,q5⟩=>?_));subst e2;cases r5;exact wpAny_truthy_bool ⟨H5,I5,q5⟩
theorem jJ:(sizeLine:Nat) < 2 ^ 63:=by rw [sizeLine_eq];decide
theorem iA {x:V} {us:List Value} (r:aV [x] us):∃ u,us=[u]/\bC x u:=by
  cases r with
  | cons r1 r2=>cases r2;exact ⟨_,rfl,r1⟩
theorem qM {x y:V} {us:List Value} (r:aV [x,y] us):∃ u w',us=[u,w']/\bC x u/\bC y w':=by
  cases r with
  | cons r1 r2 =>
    cases r2 with
    | cons r3 r4=>cases r4;exact ⟨_,_,rfl,r1,r3⟩
theorem pA (hc:X.calm=true):c4 X (.builtin "min") (fun xs H Q=>∃ i j,xs=[.int i,.int j]/\Q (.int (if j < i then j else i)) H):=by
  intro pins s σ H xs us Q I r h;obtain ⟨i,j,rfl,q⟩:=h;obtain ⟨u,w',rfl,⟨t,rfl⟩,⟨t',rfl⟩⟩:=qM r;refine min_two_ints (I.ok.hd hc) fun h' tk k=>⟨_,H,I.kept k,?_,q⟩
  by_cases hj:j < i
  · rw [if_pos hj,if_pos hj];exact ⟨_,rfl⟩
  · rw [if_neg hj,if_neg hj];exact ⟨_,rfl⟩
theorem kL:c4 X (.type "str") (fun xs H Q=>∃ i,xs=[.int i]/\i.natAbs.log2 < 1920/\Q (.str (toString i)) H):=by
  intro pins s σ H xs us Q I r h;obtain ⟨i,rfl,hz,q⟩:=h;obtain ⟨u,rfl,t,rfl⟩:=iA r;exact PySem.P.str_of_int hz ⟨.str _,H,I.tok _,⟨_,rfl⟩,q⟩
end
structure uk (h:Heap) (x dx C:Addr) (mA:Str->Option Value):Prop where
  obj:h.get? x=some (PySem.W.instObj C dx)
  ns:h.Ns1 dx mA
  ne:dx≠x
theorem oF {h:Heap} {dx:Addr} {mA:Str->Option Value} (n:h.Ns1 dx mA):∃ od,h.get? dx=some od/\∀ name,PySem.W.lookIn name od=some (mA name):=by
  obtain ⟨o,es,ep,ho,hd,hk,_,hm⟩:=n;refine ⟨o,ho,fun name=>?_⟩;have e:=hm name;unfold nsFind findBy at e;rw [<- Array.find?_toList] at e;unfold PySem.W.lookIn;rw [hd];dsimp only;split
  · rename_i y q;rw [q] at e;exact congrArg some e
  · rename_i q;rw [q] at e;have a:es.toList.any (·.refKey)=false:=by
      rw [List.any_eq_false];intro y hy;obtain ⟨z,t,hkey⟩:=hk y (Array.mem_toList_iff.mp hy);simp [DictEntry.refKey,hkey]
    have a':¬ es.toList.any (·.refKey)=true:=by rw [a];exact Bool.false_ne_true
    rw [if_neg a'];exact congrArg some e
theorem uk.look {h:Heap} {x dx C:Addr} {mA:Str->Option Value} (I:uk h x dx C mA):∃ od,PySem.W.InstAt h x (PySem.W.instObj C dx) C (some od)/\∀ name,PySem.W.lookIn name od=some (mA name) :=
  let ⟨od,ho,hl⟩:=oF I.ns
  ⟨od,⟨I.obj,rfl,rfl,ho⟩,hl⟩
theorem jE.some_of {v:V} {o:Option Value} (r:jE (some v) o):∃ u,o=some u/\bC v u:=by
  cases o with
  | none=>exact (show False from r).elim
  | some u=>exact ⟨u,rfl,r⟩
section
variable {P:Program} {w:World} {H H':Hp} {h h':Heap} {a C dx:Addr} {fs fs':List (Str×V)}
theorem sF (hok:eS P w H h) (e:H a=some (.ins C dx fs)):∃ mA,uk h a dx C mA/\(∀ f,jE (fs.lookup f) (mA f))/\PySem.Within mA (fs.map (·.1))/\fs.length<=1000/\H dx=some (.own a):=by
  obtain ⟨d,z,ne,ob,mA,n,r,q⟩:=(show bP P w H h a (.ins C dx fs) from hok a _ e)
  exact ⟨mA,⟨ob,n,ne⟩,r,q,z,d⟩
end
structure xb (K:PySem.W.Frag) (C:Addr):Prop where
  pg:PySem.W.plainGet K C Str.empty=true
  hd:PySem.W.hasDictIn K C=true
  po:PySem.W.plainOver K C=true
  sa:PySem.W.findIn K (.ref C) "__setattr__" = some (some (.builtin "object.__setattr__"))
theorem xb.get {K:PySem.W.Frag} {C:Addr} (c:xb K C) (f:Str):PySem.W.plainGet K C f=true:=c.pg
section
variable {X:Cx} {pins:List (Addr×Obj)} {σ:St} {H:Hp} {s:Shared} {A:Around} {E:Value->Shared->Prop} {Q:Value->Shared->Prop} {c:Value} {b:Bool}
inductive gU (K:PySem.W.Frag) (H:Hp):V->Value->Prop where
  | non:gU K H .non (.type "NoneType")
  | bl (x:Bool):gU K H (.bl x) (.type "bool")
  | int (i:Int):gU K H (.int i) (.type "int")
  | str (x:Str):gU K H (.str x) (.type "str")
  | flt (x:UInt64):gU K H (.flt x) (.type "float")
  | lst {a:Addr} {xs:List V} (e:H a=some (.lst xs)):gU K H (.ref a) (.type "list")
  | frz {a:Addr} {o:Obj} {xs:List V} (e:H a=some (.frz o (.lst xs))):gU K H (.ref a) (.type "list")
  | tup {a:Addr} {xs:List V} (e:H a=some (.tup xs)):gU K H (.ref a) (.type "tuple")
  | dK {a:Addr} {kvs:List (cZ×V)} (e:H a=some (.dK kvs)):gU K H (.ref a) (.type "dict")
  | dT {a:Addr} {kvs:List (List cZ×V)} (e:H a=some (.dT kvs)):gU K H (.ref a) (.type "dict")
  | ins {a C dx:Addr} {fs:List (Str×V)} (e:H a=some (.ins C dx fs)) (cl:xb K C) (ha:PySem.W.findIn K (.ref C) "__class__" = some (some (.builtin "object.__class__")))
      (hn:PySem.W.specialIn K (.builtin "object.__class__") "__get__" = some (some (.builtin "getset_descriptor.__get__"))) (htk:PySem.W.takesIn K (.builtin "object.__class__")=some true)
      (hm:PySem.W.mroIn K C (.type "object")=some true):gU K H (.ref a) (.ref C)
theorem oW {x:V} {u t:Value} (I:az X pins σ H s) (rx:bC x u) (ty:gU X.K H x t) (e:PySem.W.kitOne X.K t c=some b) (h:∀ tk,Q (.bool b) { s with toks:=tk }) :
    wpAny (model X.prog X.w) A (call (.builtin "isinstance") [u,c]) Q E s:=by
  cases ty with
  | non=>cases (show u=Value.none from rx);exact PySem.W.kia_one PySem.W.kitx_none I.kIn True.intro e (fun z=>nomatch z) h
  | bl y=>cases (show u=Value.bool y from rx);exact PySem.W.kia_one PySem.W.kitx_bool I.kIn True.intro e (fun z=>nomatch z) h
  | int i=>obtain ⟨t,q⟩:=(show ∃ t,u=Value.int i t from rx);cases q;exact PySem.W.kia_one PySem.W.kitx_int I.kIn True.intro e (fun z=>nomatch z) h
  | str y=>obtain ⟨t,q⟩:=(show ∃ t,u=Value.str y t from rx);cases q;exact PySem.W.kia_one PySem.W.kitx_str I.kIn True.intro e (fun z=>nomatch z) h
  | flt y=>obtain ⟨t,q⟩:=(show ∃ t,u=Value.float y t from rx);cases q;exact PySem.W.kia_one PySem.W.kitx_float I.kIn True.intro e (fun z=>nomatch z) h
  | @lst a xs ea =>
    cases (show u=Value.ref a from rx);obtain ⟨_,_,n,_,h1⟩:=(show bP X.prog X.w H s.heap a (.lst xs) from I.hok a _ ea)
    exact PySem.W.kia_one PySem.W.kitx_list I.kIn ⟨_,h1,rfl⟩ e (fun z=>nomatch z) h
  | @frz a ob xs ea =>
    cases (show u=Value.ref a from rx);obtain ⟨_,_,_,n,_,h1⟩:=(show bP X.prog X.w H s.heap a (.frz ob (.lst xs)) from I.hok a _ ea)
    exact PySem.W.kia_one PySem.W.kitx_list I.kIn ⟨_,h1,rfl⟩ e (fun z=>nomatch z) h
  | @tup a xs ea =>
    cases (show u=Value.ref a from rx);obtain ⟨_,_,_,p⟩:=(show bP X.prog X.w H s.heap a (.tup xs) from I.hok a _ ea)
    obtain ⟨o,h1,h2,_⟩:=p;exact PySem.W.kia_one PySem.W.kitx_tuple I.kIn ⟨o,h1,h2⟩ e (fun z=>nomatch z) h
  | @dK a kvs ea =>
    cases (show u=Value.ref a from rx);obtain ⟨_,_,vs,_,p⟩:=(show bP X.prog X.w H s.heap a (.dK kvs) from I.hok a _ ea)
    obtain ⟨o,es,ep,h1,h2,_⟩:=p;exact PySem.W.kia_one PySem.W.kitx_dict I.kIn ⟨o,h1,h2.1⟩ e (fun z=>nomatch z) h
  | @dT a kvs ea =>
    cases (show u=Value.ref a from rx);obtain ⟨_,_,xs,_,o,es,ep,h1,h2,_⟩:=(show bP X.prog X.w H s.heap a (.dT kvs) from I.hok a _ ea)
    exact PySem.W.kia_one PySem.W.kitx_dict I.kIn ⟨o,h1,h2.1⟩ e (fun z=>nomatch z) h
  | @ins a C dx fs ea cl ha hn htk hm =>
    cases (show u=Value.ref a from rx);obtain ⟨mA,O,_⟩:=sF I.hok ea;obtain ⟨od,J,_⟩:=O.look;exact PySem.W.kia_one (PySem.W.kitx_own (cl.get _) cl.hd ha hn htk hm) I.kIn J e (fun z=>nomatch z) h
end
structure dB (k:Nat) (A:Around):Prop where
  hd:A.handled=none
  dp:A.depth+3*k+5 < recursionLimit
  un:A.units+16*k+200 < cLine
theorem dB.mono {j k:Nat} {A:Around} (r:dB k A) (h:j<=k):dB j A:=⟨r.hd,by have:=r.dp;omega,by have:=r.un;omega⟩
theorem dB.deeper {k:Nat} {A:Around} (r:dB (k+1) A) (env:Env):dB k (A.deeper env) :=
  ⟨r.hd,by have:=r.dp;show A.depth+1+3*k+5 < _;omega,by have:=r.un;show A.units+3+16*k+200 < _;omega⟩
theorem dB.depth {k:Nat} {A:Around} (r:dB k A):A.depth < recursionLimit:=by have:=r.dp;omega
theorem dB.units {k:Nat} {A:Around} (r:dB k A):A.units+64 < cLine:=by have:=r.un;omega
noncomputable def wF:TA:=fun _ H Q=>Q [] H
noncomputable def wb (ta:TE) (tr:TA):TA:=fun σ H Q=>ta σ H fun x H1=>tr σ H1 fun xs H2=>Q (x::xs) H2
section
variable {X:Cx} {e:Expr} {es:List Expr} {te:TE} {t:TA} {pos:Pos}
theorem nE:PA X [] wF:=fun _ _ _ _ H Q I h=>Calls.spliced_nil ⟨[],H,I,.nil,h⟩
theorem gP (ha:PE X e te) (hr:PA X es t) (hs:starEach (e::es) X.env=(false,eval e X.env)::starEach es X.env:=by rfl):PA X (e::es) (wb te t):=by
  intro pos pins s σ H Q I h;rw [hs];show wpAny _ _ (spliced ((false,eval e X.env)::backTo pos (starEach es X.env))) _ _ s;refine Calls.spliced_cons (cG (ha pins s σ H _ I h) fun u s1 ⟨x,H1,I1,r1,q1⟩=>?_);exact cG (hr pos pins s1 σ H1 _ I1 q1) fun us s2 ⟨xs,H2,I2,r2,q2⟩=>⟨x::xs,H2,I2,.cons r1 r2,q2⟩
noncomputable def wS (t:TA):TE:=fun σ H Q=>t σ H fun xs H1=>xs.length<=sizeLine/\∀ p,H1 p=none->Q (.ref p) (cU H1 p (.tup xs))
noncomputable def wA (t:TA):TE:=fun σ H Q=>t σ H fun xs H1=>xs.length<=sizeLine/\∀ p,H1 p=none->Q (.ref p) (cU H1 p (.lst xs))
theorem um {x1} (h:PA X es t):PE X (.Tuple es x1 pos) (wS t):=by
  intro pins s σ H Q I hq;refine wpAny_Tuple_spliced (cG (h pos pins s σ H _ I hq) fun us s1 ⟨xs,H1,I1,r,z,q⟩=>⟨by rw [<- r.length];exact z,?_⟩);have hf:H1 s1.heap.objs.size=none:=I1.hok.fresh (Nat.le_refl _);refine ⟨.ref s1.heap.objs.size,cU H1 s1.heap.objs.size (.tup xs),I1.laid (t':=s1.toks) (fun b u e=>Heap.get?_push_of_some _ e) (Nat.le_refl _) ?_,rfl,q _ hf⟩;exact ⟨z,us,r,⟨_,Heap.get?_push_size _ rfl,rfl,_,rfl⟩⟩
theorem tT (h:PA X es t):PE X (.List es pos) (wA t):=by
  intro pins s σ H Q I hq;refine wpAny_List_spliced (cG (h pos pins s σ H _ I hq) fun us s1 ⟨xs,H1,I1,r,z,q⟩=>⟨by rw [<- r.length];exact z,?_⟩);have hf:H1 s1.heap.objs.size=none:=I1.hok.fresh (Nat.le_refl _);refine ⟨.ref s1.heap.objs.size,cU H1 s1.heap.objs.size (.lst xs),I1.laid (t':=s1.toks) (fun b u e=>Heap.get?_push_of_some _ e) (Nat.le_refl _) ?_,rfl,q _ hf⟩;exact ⟨z,us,0,r,Heap.get?_push_size _ rfl⟩
end
noncomputable abbrev Sp:=List V->Hp->VK->XK->Prop
noncomputable abbrev pD:=List Env->Hp->Shared->XK->Value->Shared->Prop
structure sM (P:Program) (w:World) (K:PySem.W.Frag) (mg:Str->Option Value) (base:Heap) (A:Around) (outer:List Env) (s:Shared) (H:Hp):Prop where
  frames:A.frames=some outer
  mod:Mod K mg base
  bs:∀ b o,base.get? b=some o->s.heap.get? b=some o/\H b=none
  bsz:base.objs.size<=s.heap.objs.size
  funs:s.heap.FunFrames base outer
  frf:∀ b∈gM outer,H b=none
  hok:eS P w H s.heap
  bare:AllBare s.gens
noncomputable def CE (outer:List Env) (P:Program) (w:World) (H:Hp) (s:Shared) (Q:VK) (u:Value) (s':Shared):Prop :=
  ∃ v H',s'.os=s.os/\AllBare s'.gens/\Un (gM outer) [] H H' s.heap s'.heap/\eS P w H' s'.heap/\bC v u/\Q v H'
noncomputable def CR (CX:pD) (outer:List Env) (P:Program) (w:World) (H:Hp) (s:Shared) (Q:VK) (E:XK) (r:Result) (s':Shared):Prop :=
  match r with
  | .ok (.ret u)=>CE outer P w H s Q u s'
  | .ok _=>False
  | .error e=>CX outer H s E e s'
structure aU (P:Program) (w:World) (K:PySem.W.Frag) (mg:Str->Option Value) (base:Heap) (CX:pD) (k:Nat) (f:Addr) (fd:FuncData) (ps:List Str) (sp:Sp):Prop where
  len:∀ vs H Q E,sp vs H Q E->vs.length=ps.length
  run:∀ (A:Around) (outer:List Env) (s:Shared) (H:Hp) (args:Args) (us:List Value) (vs:List V) (Q:VK) (E:XK),dB k A->sM P w K mg base A outer s H->BindsTo s fd args (ps.zip us)->aV vs us->sp vs H Q E ->
    codeAny (model P w) A (.call (.ref f) args) (CR CX outer P w H s Q E) s
theorem aU.mono {P:Program} {w:World} {K:PySem.W.Frag} {mg:Str->Option Value} {base:Heap} {CX:pD} {j k:Nat} {f:Addr} {fd:FuncData} {ps:List Str} {sp:Sp} (F:aU P w K mg base CX j f fd ps sp) (h:j<=k) :
    aU P w K mg base CX k f fd ps sp:=⟨F.len,fun A outer s H args us vs Q E hr=>F.run A outer s H args us vs Q E (hr.mono h)⟩
theorem aU.imp {P:Program} {w:World} {K:PySem.W.Frag} {mg:Str->Option Value} {base:Heap} {CX:pD} {k:Nat} {f:Addr} {fd:FuncData} {ps:List Str} {sp sp':Sp} (F:aU P w K mg base CX k f fd ps sp)
    (h:∀ vs H Q E,sp' vs H Q E->sp vs H Q E):aU P w K mg base CX k f fd ps sp' :=
  ⟨fun vs H Q E q=>F.len vs H Q E (h _ _ _ _ q),fun A outer s H args us vs Q E hr he hb hv hs=>F.run A outer s H args us vs Q E hr he hb hv (h _ _ _ _ hs)⟩
section
variable {X:Cx} {pins:List (Addr×Obj)} {σ:St} {H:Hp} {s s':Shared}
theorem az.env0 (I:az X pins σ H s):sM X.prog X.w X.K X.mg X.base X.A X.stack s H :=
  ⟨I.ok.frames,I.ok.mod,I.bs,Nat.le_trans I.ok.bsz I.sz,I.stack,I.stkFree,I.hok,I.bare⟩
theorem az.after {Q:VK} {u:Value} (I:az X pins σ H s) (h:CE X.stack X.prog X.w H s Q u s'):EP X pins σ Q u s':=by
  obtain ⟨v,H',os,bare,un,hok,r,q⟩:=h;obtain ⟨hh,g,d,t,os'⟩:=s';obtain rfl:os'=s.os:=os;exact ⟨v,H',I.call (h':=hh) (g':=g) (d':=d) (t':=t) (ch:=[]) un hok bare (fun b z=>absurd z (by simp)),r,q⟩
end
noncomputable def vJ (sp:Sp) (dvs:List V) (E:XK) (t:TA):TE:=fun σ H Q=>t σ H fun vs H1=>sp (vs++dvs) H1 Q E
noncomputable def bH (K:PySem.W.Frag) (fd:FuncData) (ps:List Str) (ds:List Value):Prop :=
  ∀ (s:Shared) (us:List Value),K.In s.heap->(us++ds).length=ps.length->BindsTo s fd ⟨us,[]⟩ (ps.zip (us++ds))
theorem bH.all {K:PySem.W.Frag} {fd:FuncData} {ps:List Str} (h:∀ us:List Value,us.length=ps.length->bindArgs fd ⟨us,[]⟩=pure (ps.zip us)):bH K fd ps []:=fun s us _ hl=>by
  rw [List.append_nil] at hl ⊢;exact .of_eq (h us hl)
noncomputable def mH (CX:pD) (X:Cx) (E:XK):Prop:=∀ (pins:List (Addr×Obj)) (σ:St) (H:Hp) (s:Shared) (e:Value) (s':Shared),az X pins σ H s->CX X.stack H s E e s'->X.xe e s'
section
variable {X:Cx} {CX:pD} {k:Nat} {f C:Addr} {fd:FuncData} {ps:List Str} {sp:Sp} {dvs:List V} {ds:List Value} {E:XK} {x m:Str} {p pos apos:Pos} {e o:Expr} {es:List Expr} {ta:TE} {t:TA}
theorem uD {pins:List (Addr×Obj)} {σ:St} {H:Hp} {s:Shared} {Q:VK} {us:List Value} {vs:List V} (F:aU X.prog X.w X.K X.mg X.base CX k f fd ps sp) (hr:dB k X.A) (hb:bH X.K fd ps ds) (hd:aV dvs ds) (hx:mH CX X E)
    (I:az X pins σ H s) (r:aV vs us) (h:sp (vs++dvs) H Q E):wpAny (model X.prog X.w) X.A (call (.ref f) us) (EP X pins σ Q) X.xe s:=by
  have r2:aV (vs++dvs) (us++ds):=r.append hd;have hl:(us++ds).length=ps.length:=by rw [<- r2.length];exact F.len _ _ _ _ h
  refine wpAny_call (codeAny_mono (F.run X.A X.stack s H ⟨us,[]⟩ (us++ds) (vs++dvs) Q E hr I.env0 (hb s us I.kIn hl) r2 h) fun r s' hq=>?_);cases r with
  | error e=>exact hx pins σ H s e s' I hq
  | ok fl =>
    cases fl with
    | ret u=>exact I.after hq
    | next=>exact False.elim hq
    | brk=>exact False.elim hq
    | cont=>exact False.elim hq
theorem sv (F:aU X.prog X.w X.K X.mg X.base CX k f fd ps sp) (hr:dB k X.A) (hg:Gl X x) (hm:X.mg x=some (.ref f)) (hk:PySem.W.keepIn X.K (.ref f)=true) (hb:bH X.K fd ps ds) (hd:aV dvs ds) (hx:mH CX X E)
    (ha:PA X (e::es) t) (hdb:(x==("__debug__" : Str))=false:=by decide) (he:starEach (e::es) X.env=(false,eval e X.env)::starEach es X.env:=by rfl) (hpl:(backTo pos (starEach es X.env)).any (·.1)=false:=by rfl) :
    PE X (.Call (.Name x p) (e::es) [] pos) (vJ sp dvs E t):=by
  intro pins s σ H Q I h;refine wpAny_Call_Name_kw (i8 I hg hm ?_ hdb);refine PySem.W.callWith_K (h₀:=X.base) I.ok.mod.kin hk (cG (ha pos pins s σ H _ I h) fun us s1 ⟨vs,H1,I1,r,q⟩=>⟨I1.kIn,?_⟩) he hpl;exact uD F hr hb hd hx I1 r q
end
structure aO (N P:List Str) (sc:Scope):Prop where
  kind:sc.kind=.function
  co:sc.isCoroutine=false
  gen:sc.isGenerator=false
  nd:N.Nodup
  pre:N.take P.length=P
  par:∀ x∈P,sc.names.lookup x=some .local\/sc.names.lookup x=some .cell
  nofree:∀ y∈sc.names,y.2≠.free
theorem kA {kindOf:Str->Option NameKind} {x:Str}:∀ {binds:List (Str×Value)} {m:Str->Option Value},(∀ v,(x,v)∉binds)->bindL kindOf binds m x=m x
  | [],_,_=>rfl
  | (n,v)::r,m,h=>by
    unfold bindL;rw [kA fun w hw=>h w (List.mem_cons_of_mem _ hw)];split
    · have:x≠n:=by rintro rfl;exact h v List.mem_cons_self
      simp [this]
    · rfl
theorem kg {kindOf:Str->Option NameKind} {x:Str}:∀ {binds:List (Str×Value)} {m:Str->Option Value},(∀ v,(x,v)∉binds)->bindC kindOf binds m x=m x
  | [],_,_=>rfl
  | (n,v)::r,m,h=>by
    unfold bindC;rw [kg fun w hw=>h w (List.mem_cons_of_mem _ hw)];split
    · rfl
    · have:x≠n:=by rintro rfl;exact h v List.mem_cons_self
      simp [this]
theorem ku {kindOf:Str->Option NameKind} {x:Str} {v:Value}:∀ {P:List Str} {vs:List Value} {i:Nat} {m:Str->Option Value},P.Nodup->P[i]?=some x->vs[i]?=some v->kindOf x=some .local ->
    bindL kindOf (P.zip vs) m x=some v
  | [],_,_,_,_,h,_,_=>by simp at h
  | _::_,[],_,_,_,_,h,_=>by simp at h
  | p::P,w::vs,0,m,nd,h1,h2,hk=>by
    simp at h1 h2;subst h1;subst h2;show bindL kindOf ((p,w)::P.zip vs) m p=_;unfold bindL;rw [kA fun v hv=>(List.nodup_cons.mp nd).1 (List.of_mem_zip hv).1,if_pos hk];simp
  | p::P,w::vs,i+1,m,nd,h1,h2,hk=>by
    show bindL kindOf ((p,w)::P.zip vs) m x=_;unfold bindL;exact ku (i:=i) (List.nodup_cons.mp nd).2 (by simpa using h1) (by simpa using h2) hk
theorem kh {kindOf:Str->Option NameKind} {x:Str} {v:Value}:∀ {P:List Str} {vs:List Value} {i:Nat} {m:Str->Option Value},P.Nodup->P[i]?=some x->vs[i]?=some v->kindOf x≠some .local ->
    bindC kindOf (P.zip vs) m x=some v
  | [],_,_,_,_,h,_,_=>by simp at h
  | _::_,[],_,_,_,_,h,_=>by simp at h
  | p::P,w::vs,0,m,nd,h1,h2,hk=>by
    simp at h1 h2;subst h1;subst h2;show bindC kindOf ((p,w)::P.zip vs) m p=_;unfold bindC;rw [kg fun v hv=>(List.nodup_cons.mp nd).1 (List.of_mem_zip hv).1,if_neg hk];simp
  | p::P,w::vs,i+1,m,nd,h1,h2,hk=>by
    show bindC kindOf ((p,w)::P.zip vs) m x=_;unfold bindC;exact kh (i:=i) (List.nodup_cons.mp nd).2 (by simpa using h1) (by simpa using h2) hk
noncomputable def fG (N:List Str) (vs:List V):St:=vs.map some++List.replicate (N.length-vs.length) none
noncomputable def dv (CX:pD) (P:Program) (w:World) (K:PySem.W.Frag) (mg:Str->Option Value) (base:Heap) (N:List Str) (qual:Str) (scope:Scope) (f:Addr) (cd:Value) (A:Around) (outer:List Env) (s:Shared) (H:Hp) (E:XK):Cx where
  prog:=P
  w:=w
  K:=K
  mg:=mg
  base:=base
  A:=A.deeper (envOfC qual scope s.heap.objs.size f cd)
  N:=N
  s₀:=s
  H₀:=H
  env:=envOfC qual scope s.heap.objs.size f cd
  outer:=outer
  stack:=envOfC qual scope s.heap.objs.size f cd::outer
  ex:=[]
  calm:=true
  fn:=fun _=>true
  pn:=[]
  xe:=fun e s'=>wpAny (model P w) (A.deeper (envOfC qual scope s.heap.objs.size f cd)) (leaving (envOfC qual scope s.heap.objs.size f cd) e) (fun _ s''=>CX outer H s E e s'') (fun e' s''=>CX outer H s E e' s'') s'
theorem lX {sc:Scope} {n:Nat} {x:Str} (h:sc.names.lookup x=some .cell):∃ c,(cellsFrom n sc.names []).lookup x=some c:=by
  have q:=PySem.W.cellsFrom_some sc.names n [] (.inl h);exact Option.isSome_iff_exists.mp q
theorem oV {CX:pD} {P:Program} {w:World} {K:PySem.W.Frag} {mg:Str->Option Value} {base:Heap} {N ps:List Str} {qual:Str} {scope:Scope} {f:Addr} {cd:Value} {A:Around} {outer:List Env} {s s1:Shared} {H:Hp} {E:XK} {us:List Value} {vs:List V}
    (S:aO N ps scope) (hd:A.handled=none) (e0:sM P w K mg base A outer s H) (hl:vs.length=ps.length) (r:aV vs us)
    (x:InCallC s s.heap.objs.size (bindL (envOfC qual scope s.heap.objs.size f cd).kindOf (ps.zip us) fun _=>none) (cellsFrom (s.heap.objs.size+1) scope.names []) (bindC (envOfC qual scope s.heap.objs.size f cd).kindOf (ps.zip us) fun _=>none) s1) :
    az (dv CX P w K mg base N qual scope f cd A outer s H E) [] (fG N vs) H s1:=by
  have hpl:ps.length<=N.length:=by have:=congrArg List.length S.pre;rw [List.length_take] at this;omega
  obtain ⟨h1,tk,rfl,hk⟩:=x.done;have noA:∀ b:Addr,b∉(dv CX P w K mg base N qual scope f cd A outer s H E).ex:=fun b z=>absurd (show b∈([]:List Addr) from z) (by simp)
  refine ⟨⟨e0.mod,S.kind,rfl,rfl,Nat.le_refl _,fun y z c h1 h2=>?_,fun y hy=>?_,fun y c _ h=>?_,fun _=>hd,Around.frames_deeper e0.frames,.inr ⟨rfl,rfl⟩,fun b z=>absurd z (noA b),e0.bs,e0.bsz,fun b _ _=>noA b,fun b z=>absurd z (noA b),e0.funs,e0.frf⟩,
    rfl,e0.bare,Un.kept hk,⟨_,x.toInCall.ns,fun i y v h1 h2 h3=>?_⟩,fun y c h=>⟨_,x.cell y c h⟩,e0.hok.fresh (Nat.le_refl _),fun y c h=>?_,fun p hp=>absurd (show p∈([]:List (Addr×Obj)) from hp) (by simp),e0.hok.kept hk,?_⟩
  · exact name_of_addr x.apart (PySem.mem_of_lookup h1) (PySem.mem_of_lookup h2)
  · have hy:scope.names.lookup y=some .cell\/scope.names.lookup y=some .free:=hy;rcases hy with hy | hy
    · exact lX hy
    · exact absurd rfl (S.nofree _ (PySem.mem_of_lookup hy))
  · exact Nat.le_of_lt (x.above y c (PySem.mem_of_lookup h))
  · have hi:i < vs.length:=by
      unfold fG at h2;by_cases hi:i < vs.length
      · exact hi
      · rw [List.getElem?_append_right (by simpa using hi)] at h2;rw [List.getElem?_replicate] at h2;split at h2 <;> cases h2
    have ha:vs[i]?=some v:=by
      unfold fG at h2;rw [List.getElem?_append_left (by simpa using hi),List.getElem?_map] at h2;cases e:vs[i]? with
      | none=>rw [e] at h2;cases h2
      | some a=>rw [e] at h2;cases h2;rfl
    obtain ⟨u,hu,rv⟩:=r.get ha;have hp:ps[i]?=some y:=by
      rw [<- S.pre,List.getElem?_take_of_lt (by omega)];exact h1
    have ndP:ps.Nodup:=by rw [<- S.pre];exact S.nd.sublist (List.take_sublist _ _)
    refine ⟨u,rv,?_⟩;rcases S.par y (List.mem_of_getElem? hp) with k | k
    · exact .inl ⟨k,ku ndP hp hu k⟩
    · obtain ⟨c,e⟩:=lX (n:=s.heap.objs.size+1) k;refine .inr ⟨.inl k,c,e,?_⟩;have q:=x.cell y c e;rw [kh ndP hp hu (by show scope.names.lookup y≠_;rw [k];decide)] at q;exact q
  · exact e0.hok.fresh (Nat.le_of_lt (x.above y c (PySem.mem_of_lookup h)))
  · unfold fG;show _=N.length;rw [List.length_append,List.length_map,List.length_replicate];omega
theorem sX {CX:pD} {P:Program} {w:World} {K:PySem.W.Frag} {mg:Str->Option Value} {base:Heap} {k:Nat} {f:Addr} {name qual:Str} {params:Arguments} {body:List Stmt} {scope:Scope} {dV kV doc pm cdv ct oc:Value} {an od:Option Addr}
    {osl:Array (Option Value)} {N ps:List Str} {sp:Sp} (lk:K.lookup f=some ⟨oc,od,.func (PySem.W.fnOf name qual params body scope dV kV doc pm an cdv ct),osl⟩) (hcd:PySem.W.codeIn K cdv qual=true) (S:aO N ps scope)
    (len:∀ vs H Q E,sp vs H Q E->vs.length=ps.length)
    (hbody:∀ (A:Around) (outer:List Env) (s:Shared) (H:Hp) (vs:List V) (Q:VK) (E:XK),dB k (A.deeper (envOfC qual scope s.heap.objs.size f cdv))->sp vs H Q E ->
      ∃ t,lF (dv CX P w K mg base N qual scope f cdv A outer s H E) body t/\t { nx:=fun _ H'=>Q .non H',rt:=Q } (fG N vs) H) :
    aU P w K mg base CX (k+1) f (PySem.W.fnOf name qual params body scope dV kV doc pm an cdv ct) ps sp:=by
  refine ⟨len,fun A outer s H args us vs Q E hr e0 hb r hsp=>?_⟩;have hl:=len _ _ _ _ hsp;have KX:K.In s.heap:=e0.mod.kin.keeps fun b o e=>(e0.bs b o e).1
  have lim:s.heap.NoLimit:=e0.mod.nolimit.keeps fun b o e=>(e0.bs b o e).1
  have hkind:∀ y∈ps.zip us,scope.names.lookup y.1=some .local\/(scope.names.lookup y.1=some .cell/\((cellsFrom (s.heap.objs.size+1) scope.names []).lookup y.1).isSome=true):=fun ⟨n,v⟩ hy=>by
    rcases S.par n (List.of_mem_zip hy).1 with q | q
    · exact .inl q
    · exact .inr ⟨q,PySem.W.cellsFrom_some _ _ _ (.inl q)⟩
  refine codeAny_call_function hr.depth (KX _ _ lk) rfl S.co S.gen rfl (PySem.W.codeRec_of KX hcd) (hb _ _ _ _ ?_);refine wpAny_newFunctionEnv_cells S.kind hkind fun env he s1 x=>?_
  subst he;refine ⟨lim.keeps x.toInCall.keep,codeAny_func ?_⟩;obtain ⟨t,ht,hq⟩:=hbody A outer s H vs Q E (hr.deeper _) hsp;have I:az (dv CX P w K mg base N qual scope f cdv A outer s H E) [] (fG N vs) H s1:=oV S hr.hd e0 hl r x;refine wpAny_mono (ht [] s1 (fG N vs) H _ I hq) (fun fl s' hs=>?_) fun e s' hs=>hs
  have fin:∀ {σ':St} {H':Hp} {v:V} {u:Value},az (dv CX P w K mg base N qual scope f cdv A outer s H E) [] σ' H' s'->bC v u->Q v H'->CE outer P w H s Q u s' :=
    fun {σ' H' v u} J rv q=>⟨v,H',J.os,J.bare,J.base,J.hok,rv,q⟩
  cases fl with
  | ret u =>
    obtain ⟨v,σ',H',J,rv,q⟩:=hs;exact fin J rv q
  | next =>
    obtain ⟨σ',H',J,q⟩:=hs;exact fin (v:=V.non) (u:=Value.none) J rfl q
  | brk =>
    obtain ⟨_,_,_,q⟩:=hs;exact False.elim q
  | cont =>
    obtain ⟨_,_,_,q⟩:=hs;exact False.elim q
section
variable {X:Cx} {x:Str} {p pos:Pos} {e:Expr} {es:List Expr} {t:TA} {id T:String} {r:List V->Hp->VK->Prop}
noncomputable def wP (r:List V->Hp->VK->Prop) (t:TA):TE:=fun σ H Q=>t σ H fun vs H1=>r vs H1 Q
theorem ia (hc:c4 X (.builtin id) r) (hg:Gl X x) (hm:X.mg x=none) (hv:bootBuiltins x=some (.builtin id)) (ha:PA X (e::es) t) (hn:x ≠ "__name__" := by decide) (hdb:(x==("__debug__" : Str))=false:=by decide)
    (he:starEach (e::es) X.env=(false,eval e X.env)::starEach es X.env:=by rfl) (hpl:(backTo pos (starEach es X.env)).any (·.1)=false:=by rfl):PE X (.Call (.Name x p) (e::es) [] pos) (wP r t):=by
  intro pins s σ H Q I h;refine wpAny_Call_Name_kw (jA I hg hm hv ?_ hn hdb);exact PyProof.Rows.callWith_builtin1 (cG (ha pos pins s σ H _ I h) fun us s1 ⟨vs,H1,I1,r1,q1⟩=>hc pins s1 σ H1 vs us Q I1 r1 q1) he hpl
theorem pf (hc:c4 X (.type T) r) (hg:Gl X x) (hm:X.mg x=none) (hv:bootBuiltins x=some (.type T)) (ha:PA X (e::es) t) (hn:x ≠ "__name__" := by decide) (hdb:(x==("__debug__" : Str))=false:=by decide)
    (he:starEach (e::es) X.env=(false,eval e X.env)::starEach es X.env:=by rfl) (hpl:(backTo pos (starEach es X.env)).any (·.1)=false:=by rfl):PE X (.Call (.Name x p) (e::es) [] pos) (wP r t):=by
  intro pins s σ H Q I h;refine wpAny_Call_Name_kw (jA I hg hm hv ?_ hn hdb);exact PyProof.Rows.callWith_type1 (cG (ha pos pins s σ H _ I h) fun us s1 ⟨vs,H1,I1,r1,q1⟩=>hc pins s1 σ H1 vs us Q I1 r1 q1) he hpl
end
end L2
namespace HT
open PySem PyProof.Rows
section
open PySem.SeqAt
open PySem.AutoSeq1 (wpAny_loadPart')
open PySem.MeetsSeq PySem.MeetsSeq2 PySem.MeetsSeq3
end
section
variable {prog:Program} {w:World} {A:Around} {E:Value->Shared->Prop} {s:Shared}
theorem cat_tup {t b:Addr} {vs ws:List Value} {Q:Value->Shared->Prop} (ht:IsTup s.heap t vs.toArray) (hb:IsTup s.heap b ws.toArray) (hv:vs≠[])
    (h1:ws=[]->Q (.ref t) s) (h2:ws≠[]->Q (.ref s.heap.objs.size) { s with heap:=s.heap.push { cls:=.type "tuple",data:=.seq (vs++ws).toArray } })
    (hsz:vs.length+ws.length<=sizeLine):wpAny (model prog w) A (binaryOp .Add (.ref t) (.ref b)) Q E s:=by
  obtain ⟨⟨cls,dd,data,sl⟩,ho,hc,n,hd⟩:=id ht;obtain ⟨⟨cls2,dd2,data2,sl2⟩,ho2,hc2,n2,hd2⟩:=id hb;simp only at hc hd hc2 hd2;subst hc hd hc2 hd2;have e:vs.toArray++ws.toArray=(vs++ws).toArray:=by simp
  by_cases hw:ws=[]
  · exact concat_meets ⟨_,ho,rfl⟩ ⟨_,ho2,rfl⟩ noFill_tuple_add seq_tuple_add PySem.F.slot_tuple_add PySem.F.entry_tuple_add (PySem.F.args_tuple_add_2 _ _)
      (tuple_addW1 t b vs.toArray ws.toArray n n2 dd dd2 sl sl2 (by simpa using hv) (by simp [hw])) ⟨ho,ho2,h1 hw⟩
  · refine concat_meets ⟨_,ho,rfl⟩ ⟨_,ho2,rfl⟩ noFill_tuple_add seq_tuple_add PySem.F.slot_tuple_add PySem.F.entry_tuple_add (PySem.F.args_tuple_add_2 _ _)
      (tuple_addW2 t b vs.toArray ws.toArray n n2 dd dd2 sl sl2 (by simpa using hv) (by simpa using hw) (by rw [List.size_toArray,List.size_toArray];exact hsz)) ⟨ho,ho2,?_⟩
    rw [e];exact h2 hw
noncomputable def sIx (n d:Nat):Option Int->Nat
  | none=>d
  | some v=>if v < 0 then (v+(n:Int)).toNat else min v.toNat n
theorem uq (n d:Nat) (hd:d<=n) (o:Option Int):sIx n d o<=n:=by
  cases o with
  | none=>exact hd
  | some v =>
    show (if v < 0 then (v+(n:Int)).toNat else min v.toNat n)<=n;by_cases hv:v < 0
    · rw [if_pos hv];omega
    · rw [if_neg hv];exact Nat.min_le_right _ _
theorem ou (v:Int) (n d:Nat):(if v < 0 then max (v+(n:Int)) 0 else min v (n:Int))=((sIx n d (some v):Nat):Int):=by
  show (if v < 0 then max (v+(n:Int)) 0 else min v (n:Int))=(((if v < 0 then (v+(n:Int)).toNat else min v.toNat n):Nat):Int)
  by_cases hv:v < 0
  · simp only [if_pos hv];omega
  · simp only [if_neg hv];omega
theorem nu (lo hi:Option Int) (n:Nat):Builtin.Slice.sliceAdjust lo hi 1 (n:Int)=(((sIx n 0 lo:Nat):Int),((sIx n n hi:Nat):Int)):=by
  have h1:¬ ((1:Int) < 0):=by omega
  unfold Builtin.Slice.sliceAdjust;simp only [h1,if_false];refine Prod.ext ?_ ?_
  · cases lo with
    | none=>rfl
    | some v=>exact ou v n 0
  · cases hi with
    | none=>rfl
    | some v=>exact ou v n n
theorem nB (i j:Nat):Builtin.Slice.slicePlaces (i:Int) (j:Int) 1=j-i:=by
  unfold Builtin.Slice.slicePlaces;have h1:(1:Int) > 0:=by omega
  simp only [h1,if_true,Int.ediv_one];split <;> omega
theorem jF {v:Value} {o:Option Int} {Q:Option Int->Shared->Prop} (p:IsPart v o) (h:Q o s):wpAny (model prog w) A (Builtin.Slice.slicePartIndex v) Q E s:=by
  cases p with
  | none=>exact slicePart_none h
  | int i t=>exact slicePart_int h
theorem sliceApplied_gen {sl:Addr} {vl vu:Value} {lo hi:Option Int} {n:Nat} {Q:Int×Int×Nat->Shared->Prop} (hs:s.heap.IsSliceOf sl vl vu .none) (pl:IsPart vl lo) (pu:IsPart vu hi)
    (h:Q (((sIx n 0 lo:Nat):Int),1,sIx n n hi-sIx n 0 lo) s):wpAny (model prog w) A (Builtin.Slice.sliceApplied (.ref sl) (pure (n:Int))) Q E s:=by
  obtain ⟨os,hos,hcs,hds⟩:=id hs;unfold Builtin.Slice.sliceApplied Builtin.Slice.sliceFields;refine wpAny_bind (wpAny_bind (wpAny_field hos hds (x:=vl) rfl (wpAny_bind (wpAny_field hos hds (x:=vu) rfl (wpAny_bind (wpAny_field hos hds (x:=.none) rfl (wpAny_pure ?_)))))));refine wpAny_bind (slicePart_none ?_);show wpAny _ _ (if ((1:Int)==0)=true then _ else _) _ _ s;rw [if_neg (by decide)];refine wpAny_bind (jF pl (wpAny_bind (jF pu (wpAny_bind (wpAny_pure ?_)))));show wpAny _ _ (match Builtin.Slice.sliceAdjust lo hi 1 (n:Int) with | (lo,hi)=>pure (lo,(1:Int),Builtin.Slice.slicePlaces lo hi 1)) _ _ s;rw [nu lo hi n];show wpAny _ _ (pure (((sIx n 0 lo:Nat):Int),(1:Int),Builtin.Slice.slicePlaces ((sIx n 0 lo:Nat):Int) ((sIx n n hi:Nat):Int) 1)) _ _ s;rw [nB];exact wpAny_pure h
theorem qj (xs:Array Value) (i k:Nat):((List.range k).filterMap fun (m:Nat)=>xs[((i:Int)+(m:Int)*1).toNat]?).toArray=((xs.toList.drop i).take k).toArray:=by
  have e:(fun (m:Nat)=>xs[((i:Int)+(m:Int)*1).toNat]?)=fun m=>xs[i+m]?:=by
    funext m;have:((i:Int)+(m:Int)*1).toNat=i+m:=by omega
    rw [this]
  rw [e];have:=pick_run xs i k;rw [List.filterMap_map] at this;have e2:((fun x=>xs[x]?)∘fun x=>i+x)=fun m=>xs[i+m]?:=rfl
  rw [e2] at this;rw [this]
theorem getItem_tuple_cut {t sl:Addr} {items:Array Value} {vl vu:Value} {lo hi:Option Int} {Q:Value->Shared->Prop} (ht:IsTup s.heap t items) (hs:s.heap.IsSliceOf sl vl vu .none) (pl:IsPart vl lo) (pu:IsPart vu hi)
    (hw:¬ (sIx items.size 0 lo=0/\sIx items.size items.size hi=items.size))
    (h:Q (.ref s.heap.objs.size) { s with heap:=s.heap.push { cls:=.type "tuple",data:=.seq ((items.toList.drop (sIx items.size 0 lo)).take (sIx items.size items.size hi-sIx items.size 0 lo)).toArray } })
    (hsz:items.size<=sizeLine):wpAny (model prog w) A (getItem (.ref t) (.ref sl)) Q E s:=by
  have htake:sizeOk (.seq ((items.toList.drop (sIx items.size 0 lo)).take (sIx items.size items.size hi-sIx items.size 0 lo)).toArray):=by
    show ((items.toList.drop (sIx items.size 0 lo)).take (sIx items.size items.size hi-sIx items.size 0 lo)).toArray.size<=sizeLine;rw [List.size_toArray,List.length_take,List.length_drop,Array.length_toList];omega
  have hj:sIx items.size items.size hi<=items.size:=uq _ _ (Nat.le_refl _) hi;obtain ⟨os,hos,hcs,hds⟩:=id hs;have hTs:s.TypeIs (.ref sl) "slice" := ⟨os,hos,hcs⟩
  unfold getItem
  try with_reducible refine wpAny_holding ?_
  first | refine wpAny_bind (wpAny_pure ?_) | skip
  refine wpAny_bind (wpAny_sequenceKey ht.typeIs (by decide) ?_);refine wpAny_bind (wpAny_callSpecial?_slot (name:=Str.ofString "__getitem__") ht.typeIs PyProof.Rows.slot_tuple_getitem
    (wpAny_call_entry PyProof.Rows.slot_tuple_getitem ht.typeIs entry_tuple_getitem ?_ (args_tuple_getitem _ _)))
  show wpAny _ _ (Builtin.Tuple.tupleItemsOf (.ref t)>>=_) _ _ s;refine wpAny_bind (tupleItemsOf_ ht ?_);refine wpAny_bind (wpAny_typeOf hTs ?_);rw [if_pos (by decide)];refine wpAny_bind (sliceApplied_gen hs pl pu ?_);have hno:¬ ((((sIx items.size 0 lo:Nat):Int)==0&&(1:Int)==1&&(sIx items.size items.size hi-sIx items.size 0 lo)==items.size)=true):=by
    intro q;rw [Bool.and_eq_true,Bool.and_eq_true] at q;have q1:((sIx items.size 0 lo:Nat):Int)=0:=eq_of_beq q.1.1;have q2:sIx items.size items.size hi-sIx items.size 0 lo=items.size:=eq_of_beq q.2;exact hw ⟨by omega,by omega⟩
  show wpAny _ _ (if (((sIx items.size 0 lo:Nat):Int)==0&&(1:Int)==1&&(sIx items.size items.size hi-sIx items.size 0 lo)==items.size)=true then _ else _) _ _ s;rw [if_neg hno,qj]
  first
    | exact wpAny_bind (m:=Builtin.Tuple.tupleExact _) (wpAny_newObj_type (wpAny_pure ⟨_,rfl,wpAny_pure h⟩) htake)
    | exact wpAny_bind (m:=Builtin.Tuple.tupleExact _) (wpAny_newObj_type (wpAny_bind (wpAny_pure (wpAny_pure ⟨_,rfl,wpAny_pure h⟩))) htake)
    | exact wpAny_bind (wpAny_bind (m:=Builtin.Tuple.tupleExact _) (wpAny_newObj_type (wpAny_pure (wpAny_pure ⟨_,rfl,wpAny_pure h⟩)) htake))
    | exact wpAny_bind (wpAny_bind (m:=Builtin.Tuple.tupleExact _) (wpAny_newObj_type (wpAny_pure ⟨_,rfl,wpAny_pure h⟩) htake))
end
end HT
namespace L2
open PySem PySem.Spec PyProof.Rows
noncomputable abbrev TO:=St->Hp->(Option Int->Hp->Prop)->Prop
noncomputable def PO (X:Cx) (e:Option Expr) (t:TO):Prop :=
  ∀ (pins:List (Addr×Obj)) (s:Shared) (σ:St) (H:Hp) (Q:Option Int->Hp->Prop),az X pins σ H s->t σ H Q ->
    wpAny (model X.prog X.w) X.A (evalPart e X.env) (fun u s'=>∃ o H',az X pins σ H' s'/\IsPart u o/\Q o H') X.xe s
noncomputable def sx:TO:=fun _ H Q=>Q none H
noncomputable def vI (t:TE):TO:=fun σ H Q=>t σ H fun x H1=>∃ i,x=.int i/\Q (some i) H1
section
variable {X:Cx} {e:Expr} {te:TE} {lo hi:Option Expr} {tl th:TO} {pos p2:Pos}
theorem sy:PO X none sx:=by
  intro pins s σ H Q I h;rw [evalPart_none];exact wpAny_pure ⟨none,H,I,.none,h⟩
theorem ri (h:PE X e te):PO X (some e) (vI te):=by
  intro pins s σ H Q I hw;rw [evalPart_some];refine cG (h pins s σ H _ I hw) fun u s1 ⟨x,H1,I1,r1,q1⟩=>?_
  obtain ⟨i,rfl,q⟩:=q1;obtain ⟨t,rfl⟩:=r1;exact ⟨some i,H1,I1,.int i t,q⟩
noncomputable def sf (X:Cx) (r:V->Option Int->Option Int->Hp->VK->Prop):Prop :=
  ∀ (pins:List (Addr×Obj)) (s:Shared) (σ:St) (H:Hp) (x:V) (v vl vu:Value) (lo hi:Option Int) (sl:Addr) (Q:VK),az X pins σ H s->bC x v->s.heap.IsSliceOf sl vl vu .none->IsPart vl lo->IsPart vu hi->r x lo hi H Q ->
    ∃ T id,typeLookup (.type T) "__getitem__" = pure (some (.builtin id))/\s.TypeIs v T/\wpAny (model X.prog X.w) X.A (getItem v (.ref sl)) (EP X pins σ Q) X.xe s
theorem sf.or {r r':V->Option Int->Option Int->Hp->VK->Prop} (h:sf X r) (h':sf X r'):sf X (fun x lo hi H Q=>r x lo hi H Q\/r' x lo hi H Q):=by
  intro pins s σ H x v vl vu lo hi sl Q I rx hs pl pu q;rcases q with q | q
  · exact h pins s σ H x v vl vu lo hi sl Q I rx hs pl pu q
  · exact h' pins s σ H x v vl vu lo hi sl Q I rx hs pl pu q
noncomputable def xJ (r:V->Option Int->Option Int->Hp->VK->Prop) (te:TE) (tl th:TO):TE:=fun σ H Q=>te σ H fun x H1=>tl σ H1 fun l H2=>th σ H2 fun u H3=>r x l u H3 Q
theorem pO {r:V->Option Int->Option Int->Hp->VK->Prop} (hr:sf X r) (he:PE X e te) (hl:PO X lo tl) (hu:PO X hi th):PE X (.Subscript e (.Slice lo hi none p2) pos) (xJ r te tl th):=by
  intro pins s σ H Q I h;refine Subscript_ (cG (he pins s σ H _ I h) fun v s1 ⟨x,H1,I1,r1,q1⟩=>?_);refine wpAny_Slice (cG (hl pins s1 σ H1 _ I1 q1) fun vl s2 ⟨l,H2,I2,pl,q2⟩=>cG (hu pins s2 σ H2 _ I2 q2) fun vu s3 ⟨u,H3,I3,pu,q3⟩=>?_);rw [evalPart_none];refine wpAny_pure ?_;have I4:az X pins σ H3 { s3 with heap:=s3.heap.push { cls:=.type "slice",data:=.fields #[vl,vu,.none] } }:=I3.kept (t':=s3.toks) fun b ob q=>Heap.get?_push_of_some _ q
  obtain ⟨T,id,hT,ht,hg⟩:=hr pins { s3 with heap:=s3.heap.push { cls:=.type "slice",data:=.fields #[vl,vu,.none] } } σ H3 x v vl vu l u s3.heap.objs.size Q I4 r1 (Heap.IsSliceOf.new ..) pl pu q3;show wpAny (model X.prog X.w) X.A (subscriptTail e (.Slice lo hi none p2) v (.ref s3.heap.objs.size)) (EP X pins σ Q) X.xe { s3 with heap:=s3.heap.push { cls:=.type "slice",data:=.fields #[vl,vu,.none] } };exact tail_any (ops:=[.ref s3.heap.objs.size,v]) ht hT hg (by with_unfolding_all rfl)
noncomputable def lH (xs:List V) (lo hi:Option Int):List V:=(xs.drop (HT.sIx xs.length 0 lo)).take (HT.sIx xs.length xs.length hi-HT.sIx xs.length 0 lo)
theorem iH (xs:List V) (lo hi:Option Int):(lH xs lo hi).length<=xs.length:=by
  unfold lH;rw [List.length_take,List.length_drop];omega
noncomputable def xi (K:PySem.W.Frag):V->Option Int->Option Int->Hp->VK->Prop:=fun x lo hi H Q=>∃ a xs,x=.ref a/\eU K H a xs /\
  ¬ (HT.sIx xs.length 0 lo=0/\HT.sIx xs.length xs.length hi=xs.length)/\∀ p,H p=none->Q (.ref p) (cU H p (.tup (lH xs lo hi)))
theorem uN:sf X (xi X.K):=by
  intro pins s σ H x v vl vu lo hi sl Q I rx hs pl pu h;obtain ⟨a,xs,rfl,hx,hw,q⟩:=h;cases rx;obtain ⟨its,r,ht,hz⟩:=I.tuple hx;have hlen:its.toArray.size=xs.length:=by rw [List.size_toArray];exact r.length.symm
  refine ⟨"tuple",_,PyProof.Rows.slot_tuple_getitem.lookup,ht.typeIs,?_⟩;refine HT.getItem_tuple_cut ht hs pl pu (by rw [hlen];exact hw) ?_ (by rw [hlen];exact hz);rw [hlen];refine ⟨.ref s.heap.objs.size,_,I.laid (t':=s.toks) (o:=.tup (lH xs lo hi)) (fun b ob q=>Heap.get?_push_of_some _ q) (Nat.le_refl _) ?_,rfl,q _ (I.hok.fresh (Nat.le_refl _))⟩;exact ⟨Nat.le_trans (iH xs lo hi) hz,_,(r.drop (HT.sIx xs.length 0 lo)).take (HT.sIx xs.length xs.length hi-HT.sIx xs.length 0 lo),IsTup.new _ _⟩
noncomputable def tf (K:PySem.W.Frag):R2:=fun x y H Q=>∃ a b xs ys,x=.ref a/\y=.ref b/\eU K H a xs/\eU K H b ys/\xs≠[]/\xs.length+ys.length<=sizeLine /\
  (ys=[]->Q (.ref a) H)/\(ys≠[]->∀ p,H p=none->Q (.ref p) (cU H p (.tup (xs++ys))))
theorem aV.nil_iff {xs:List V} {us:List Value} (r:aV xs us):us=[]<->xs=[]:=by
  cases r with
  | nil=>simp
  | cons _ _=>simp
theorem r9:fH X (binaryOp .Add) (tf X.K):=by
  intro pins s σ H x y v u Q I rx ry h;obtain ⟨a,b,xs,ys,rfl,rfl,ha,hb,hx,hz,q1,q2⟩:=h;cases rx;cases ry;obtain ⟨its,r1,p1,_⟩:=I.tuple ha;obtain ⟨its2,r2,p2,_⟩:=I.tuple hb;refine HT.cat_tup p1 p2 (fun z=>hx (r1.nil_iff.mp z)) (fun z=>⟨.ref a,H,I,rfl,q1 (r2.nil_iff.mp z)⟩) (fun z=>?_) (by rw [<- r1.length,<- r2.length];exact hz);refine ⟨.ref s.heap.objs.size,_,I.laid (t':=s.toks) (o:=.tup (xs++ys)) (fun b ob q=>Heap.get?_push_of_some _ q) (Nat.le_refl _) ?_,rfl,q2 (fun w=>z (r2.nil_iff.mpr w)) _ (I.hok.fresh (Nat.le_refl _))⟩;exact ⟨by rw [List.length_append];exact hz,_,r1.append r2,IsTup.new _ _⟩
end
noncomputable def tx (n:Nat) (i:Int):Option Nat:=if 0<=i then (if i < n then some i.toNat else none) else if -(n:Int)<=i then some (i+n).toNat else none
noncomputable def atI {α:Type} (xs:List α) (i:Int):Option α:=(tx xs.length i).bind fun j=>xs[j]?
theorem rA {n:Nat} {i:Int} {j:Nat} (h:tx n i=some j):seqIndex? i n=some j/\j < n/\-(n:Int)<=i/\i < n:=by
  unfold tx at h;by_cases h0:0<=i
  · rw [if_pos h0] at h;by_cases h1:i < n
    · rw [if_pos h1] at h;have e:i.toNat=j:=Option.some.inj h;exact ⟨by rw [seqIndex_of h0 h1,e],by omega,by omega,h1⟩
    · rw [if_neg h1] at h;cases h
  · rw [if_neg h0] at h;by_cases h1:-(n:Int)<=i
    · rw [if_pos h1] at h;have e:(i+n).toNat=j:=Option.some.inj h;exact ⟨by rw [seqIndex_neg (by omega) h1,e],by omega,h1,by omega⟩
    · rw [if_neg h1] at h;cases h
theorem lB {α:Type} {xs:List α} {i:Int} {v:α} (h:atI xs i=some v):∃ j,seqIndex? i xs.length=some j/\xs[j]?=some v/\j < xs.length/\-(xs.length:Int)<=i/\i < xs.length:=by
  unfold atI at h;cases e:tx xs.length i with
  | none=>rw [e] at h;cases h
  | some j =>
    rw [e] at h;obtain ⟨h1,h2,h3,h4⟩:=rA e;exact ⟨j,h1,h,h2,h3,h4⟩
theorem kO {α:Type} {xs:List α} {j:Nat} {v:α} (h:xs[j]?=some v):atI xs (j:Int)=some v:=by
  have hj:j < xs.length:=(List.getElem?_eq_some_iff.mp h).1;have e:tx xs.length (j:Int)=some j:=by
    unfold tx;rw [if_pos (by omega),if_pos (by omega)];simp
  unfold atI;rw [e];exact h
noncomputable def og (b:Expr):Prop:=∀ o i,subscripted b false o i=operate [o,i] (getItem o i)
noncomputable def rS (X:Cx) (r:R2):Prop :=
  ∀ (value slice:Expr) (pins:List (Addr×Obj)) (s:Shared) (σ:St) (H:Hp) (x y:V) (v u:Value) (Q:VK),az X pins σ H s->bC x v->bC y u->r x y H Q ->
    subscripted slice false v u=operate [v,u] (getItem v u)->wpAny (model X.prog X.w) X.A (subscriptTail value slice v u) (EP X pins σ Q) X.xe s
noncomputable def xB (X:Cx) (id:String) (r:V->List V->Hp->VK->Prop):Prop :=
  ∀ (pins:List (Addr×Obj)) (s:Shared) (σ:St) (H:Hp) (x:V) (xs:List V) (v:Value) (us:List Value) (Q:VK),az X pins σ H s->bC x v->aV xs us->r x xs H Q ->
    wpAny (model X.prog X.w) X.A (call (.builtin id) (v::us)) (EP X pins σ Q) X.xe s
section
variable {X:Cx} {a b:Expr} {ta tb:TE} {pos:Pos}
theorem rS.or {r r':R2} (h:rS X r) (h':rS X r'):rS X (fun x y H Q=>r x y H Q\/r' x y H Q):=by
  intro value slice pins s σ H x y v u Q I rx ry q hs;rcases q with q | q
  · exact h value slice pins s σ H x y v u Q I rx ry q hs
  · exact h' value slice pins s σ H x y v u Q I rx ry q hs
theorem vX {r:R2} (hr:rS X r) (ha:PE X a ta) (hb:PE X b tb) (hs:og b):PE X (.Subscript a b pos) (vW r ta tb):=by
  intro pins s σ H Q I h;exact Subscript_ (tZ ha hb I h fun v u s2 x y H2 I2 rx ry q=>hr a b pins s2 σ H2 x y v u Q I2 rx ry q (hs _ _))
noncomputable def v7 (K:PySem.W.Frag):R2:=fun x y H Q=>∃ p xs i v,x=.ref p/\y=.int i/\ke K H p xs/\atI xs i=some v/\Q v H
noncomputable def vF (K:PySem.W.Frag):R2:=fun x y H Q=>∃ p xs i v,x=.ref p/\y=.int i/\eU K H p xs/\atI xs i=some v/\Q v H
noncomputable def vc:R2:=fun x y H Q=>∃ z i c,x=.str z/\y=.int i/\z.length<=sizeLine/\atI z.cps.toList i=some c/\Q (.str ⟨#[c]⟩) H
theorem rW:rS X (v7 X.K):=by
  intro value slice pins s σ H x y v u Q I rx ry h hs;obtain ⟨p,xs,i,z,rfl,rfl,hq,he,q⟩:=h;cases rx;obtain ⟨t,rfl⟩:=ry;obtain ⟨its,r,pl,hz⟩:=I.list hq;obtain ⟨j,h1,h2,h3,h4,h5⟩:=lB he;obtain ⟨w,ew,rw'⟩:=r.get h2;have hl:=r.length;have hn:=jJ;have fin:EP X pins σ Q w s:=⟨z,H,I,rw',q⟩
  by_cases h0:0<=i
  · have hj:i.toNat=j:=by
      rw [seqIndex_of h0 h5] at h1;exact Option.some.inj h1
    exact item_listR pl.isList h0 (by omega) (by rw [hj];simpa using ew) fin hs
  · have hj:(i+(its.toArray.size:Int)).toNat=j:=by
      rw [seqIndex_neg (by omega) h4] at h1;rw [List.size_toArray,<- hl];exact Option.some.inj h1
    exact subscriptTail_builtinR (x:=w) pl.isList.typeIs slot_list_getitem.lookup
      (wpAny_getItem_list_neg (Q:=fun r s'=>r=w/\EP X pins σ Q r s') pl.isList (by omega) (by rw [List.size_toArray] <;> omega) (by omega) (by rw [hj];simpa using ew) ⟨rfl,fin⟩) hs
theorem uw:rS X (vF X.K):=by
  intro value slice pins s σ H x y v u Q I rx ry h hs;obtain ⟨p,xs,i,z,rfl,rfl,hq,he,q⟩:=h;cases rx;obtain ⟨t,rfl⟩:=ry;obtain ⟨its,r,pl,hz⟩:=I.tuple hq;obtain ⟨j,h1,h2,h3,h4,h5⟩:=lB he;obtain ⟨w,ew,rw'⟩:=r.get h2;have hl:=r.length;have hn:=jJ;have fin:EP X pins σ Q w s:=⟨z,H,I,rw',q⟩
  exact subscriptTail_builtinR (x:=w) pl.typeIs slot_tuple_getitem.lookup
    (getItem_tuple (j:=j) (Q:=fun r s'=>r=w/\EP X pins σ Q r s') pl (by omega) (by omega) (by rw [List.size_toArray,<- hl];exact h1) (by simpa using ew) ⟨rfl,fin⟩) hs
theorem tY:rS X vc:=by
  intro value slice pins s σ H x y v u Q I rx ry h hs;obtain ⟨z,i,c,rfl,rfl,hz,he,q⟩:=h;obtain ⟨t,rfl⟩:=rx;obtain ⟨t',rfl⟩:=ry;obtain ⟨j,h1,h2,h3,h4,h5⟩:=lB he;have hl:z.cps.toList.length=z.length:=by simp [Str.length]
  rw [hl] at h1 h4 h5;have hn:=jJ;exact tail_any (typeIs_str s z t) slot_str_getitem.lookup (getItem_str (c:=c) (by
    have e1:decide (i < -(2 ^ 63:Int))=false:=decide_eq_false (by omega);have e2:decide (i>=2 ^ 63)=false:=decide_eq_false (by omega);rw [e1,e2,Bool.or_false]) (by rw [h1];simpa using h2) ⟨.str ⟨#[c]⟩,H,I.tok _,⟨_,rfl⟩,q⟩) hs
theorem kG (lo hi:Option Int) (n:Nat):(sliceBounds lo hi none n).1=((HT.sIx n 0 lo:Nat):Int)/\(sliceBounds lo hi none n).2.1=((HT.sIx n n hi:Nat):Int)/\(sliceBounds lo hi none n).2.2=1:=by
  refine ⟨?_,?_,rfl⟩
  · cases lo with
    | none=>simp [sliceBounds,HT.sIx]
    | some i =>
      simp only [sliceBounds,HT.sIx,Option.getD_none,show (1:Int) > 0 by decide,if_true];by_cases h:i < 0
      · simp only [h,if_true] <;> omega
      · simp only [h,if_false] <;> omega
  · cases hi with
    | none=>simp [sliceBounds,HT.sIx]
    | some i =>
      simp only [sliceBounds,HT.sIx,Option.getD_none,show (1:Int) > 0 by decide,if_true];by_cases h:i < 0
      · simp only [h,if_true] <;> omega
      · simp only [h,if_false] <;> omega
theorem ka (its:List Value) (lo hi:Option Int):slicePick its.toArray lo hi none=((its.drop (HT.sIx its.length 0 lo)).take (HT.sIx its.length its.length hi-HT.sIx its.length 0 lo)).toArray:=by
  obtain ⟨h1,h2,h3⟩:=kG lo hi its.toArray.size;unfold slicePick;rw [h1,h2,h3];simp only [sliceRange_one,pick_run,List.size_toArray] <;> rfl
noncomputable def wO (K:PySem.W.Frag):V->Option Int->Option Int->Hp->VK->Prop:=fun x lo hi H Q=>∃ a xs,x=.ref a/\ke K H a xs/\∀ p,H p=none->Q (.ref p) (cU H p (.lst (lH xs lo hi)))
theorem sV:sf X (wO X.K):=by
  intro pins s σ H x v vl vu lo hi sl Q I rx hs pl pu h;obtain ⟨a,xs,rfl,hx,q⟩:=h;cases rx;obtain ⟨its,r,ht,hz⟩:=I.list hx;have hlen:=r.length;refine ⟨"list",_,slot_list_getitem.lookup,ht.isList.typeIs,?_⟩;refine wpAny_getItem_list_slice ht.isList hs pl pu .none (by simp) ?_ (by rw [List.size_toArray] <;> omega);rw [ka,<- hlen];refine ⟨.ref s.heap.objs.size,_,I.laid (t':=s.toks) (o:=.lst (lH xs lo hi)) (fun b ob q=>Heap.get?_push_of_some _ q) (Nat.le_refl _) ?_,rfl,q _ (I.hok.fresh (Nat.le_refl _))⟩;exact ⟨Nat.le_trans (iH xs lo hi) hz,_,0,(r.drop (HT.sIx xs.length 0 lo)).take (HT.sIx xs.length xs.length hi-HT.sIx xs.length 0 lo),Heap.get?_push_size _ rfl⟩
theorem lx:c4 X (.builtin "len") (fun xs H Q=>∃ p ys,xs=[.ref p]/\(ke X.K H p ys\/eU X.K H p ys)/\Q (.int ys.length) H):=by
  intro pins s σ H xs us Q I r h;obtain ⟨p,ys,rfl,hq,q⟩:=h;obtain ⟨u,rfl,rx⟩:=iA r;cases rx;have hn:=jJ;rcases hq with hq | hq
  · obtain ⟨its,r',pl,hz⟩:=I.list hq;have hlen:=r'.length;exact Calls.call_len_list pl.isList (by simp only [List.size_toArray] <;> omega) ⟨.int ys.length,H,I.tok _,⟨s.toks+1,by rw [List.size_toArray,hlen]⟩,q⟩
  · obtain ⟨its,r',pl,hz⟩:=I.tuple hq;have hlen:=r'.length;exact len_tuple pl (by simp only [List.size_toArray] <;> omega) ⟨.int ys.length,H,I.tok _,⟨s.toks+1,by rw [List.size_toArray,hlen]⟩,q⟩
theorem kI:c4 X (.builtin "len") (fun xs H Q=>∃ z,xs=[.str z]/\z.length<=sizeLine/\Q (.int z.length) H):=by
  intro pins s σ H xs us Q I r h;obtain ⟨z,rfl,hz,q⟩:=h;obtain ⟨u,rfl,t,rfl⟩:=iA r;have hn:=jJ;exact len_str (by omega) ⟨.int z.length,H,I.tok _,⟨_,rfl⟩,q⟩
theorem c4.or {f:Value} {r r':List V->Hp->VK->Prop} (h:c4 X f r) (h':c4 X f r'):c4 X f (fun xs H Q=>r xs H Q\/r' xs H Q):=by
  intro pins s σ H xs us Q I rs q;rcases q with q | q
  · exact h pins s σ H xs us Q I rs q
  · exact h' pins s σ H xs us Q I rs q
theorem kJ:c4 X (.type "list") (fun xs H Q=>∃ p ys,xs=[.ref p]/\(ke X.K H p ys\/eU X.K H p ys)/\∀ l,H l=none->Q (.ref l) (cU H l (.lst ys))):=by
  intro pins s σ H xs us Q I r h;obtain ⟨p,ys,rfl,hq,q⟩:=h;obtain ⟨u,rfl,rx⟩:=iA r;cases rx;have fin:∀ (its:List Value),aV ys its->ys.length<=sizeLine->∀ (h':Heap) (c':Nat),(∀ b o',s.heap.get? b=some o'->h'.get? b=some o') ->
      h'.get? s.heap.objs.size=some { cls:=.type "list",dict:=none,data:=.seq its.toArray c',slots:=#[] }->EP X pins σ Q (.ref s.heap.objs.size) { s with heap:=h' }:=fun its r' hz h' c' kp e =>
    ⟨.ref s.heap.objs.size,_,I.laid (t':=s.toks) kp (Nat.le_refl _) (show bP X.prog X.w _ h' _ (.lst ys) from ⟨hz,its,c',r',e⟩),rfl,q _ (I.hok.fresh (Nat.le_refl _))⟩
  rcases hq with hq | hq
  · obtain ⟨its,r',pl,hz⟩:=I.list hq;have hlen:=r'.length;obtain ⟨o,ho,hc,n,hd⟩:=pl.isList;exact call_list_seq p (.inl rfl) ho hc hd (fun h' c' kp e=>fin its r' hz h' c' kp e) (by simp only [List.size_toArray] <;> omega)
  · obtain ⟨its,r',pl,hz⟩:=I.tuple hq;have hlen:=r'.length;obtain ⟨o,ho,hc,n,hd⟩:=pl;exact call_list_seq p (.inr rfl) ho hc hd (fun h' c' kp e=>fin its r' hz h' c' kp e) (by simp only [List.size_toArray] <;> omega)
theorem kc:c4 X (.type "tuple") (fun xs H Q=>∃ p ys,xs=[.ref p]/\((ke X.K H p ys/\∀ l,H l=none->Q (.ref l) (cU H l (.tup ys)))\/(eU X.K H p ys/\Q (.ref p) H))):=by
  intro pins s σ H xs us Q I r h;obtain ⟨p,ys,rfl,h⟩:=h;obtain ⟨u,rfl,rx⟩:=iA r;cases rx;rcases h with ⟨hq,q⟩ | ⟨hq,q⟩
  · obtain ⟨its,r',pl,hz⟩:=I.list hq;have hlen:=r'.length;refine call_tuple_list pl.isList (fun h' kp=>?_) (by simp only [List.size_toArray] <;> omega);have I1:az X pins σ H { s with heap:=h' }:=I.kept (t':=s.toks) kp;have I2:az X pins σ (cU H h'.objs.size (.tup ys)) { s with heap:=h'.push { cls:=.type "tuple",data:=.seq its.toArray } } :=
      I1.laid (t':=s.toks) (fun b o e=>Heap.get?_push_of_some _ e) (Nat.le_refl _) (show bP X.prog X.w _ _ _ (.tup ys) from ⟨hz,its,r',IsTup.new _ _⟩)
    exact ⟨.ref h'.objs.size,_,I2,rfl,q _ (I1.hok.fresh (Nat.le_refl _))⟩
  · obtain ⟨its,r',pl,hz⟩:=I.tuple hq;exact call_tuple_same pl ⟨.ref p,H,I,rfl,q⟩
noncomputable def xq (K:PySem.W.Frag) (T:String) (x:V) (H:Hp):Prop:=match x with
  | .str _=>T = "str"
  | .int _=>T = "int"
  | .ref p=>(T = "list" /\ ∃ xs,ke K H p xs)\/(T = "tuple" /\ ∃ o,K.lookup p=some o/\o.cls=.type "tuple" /\ o.dict=none) \/
      (T = "dict" /\ ((∃ kvs,H p=some (.dK kvs))\/∃ kvs,H p=some (.dT kvs)))\/(T = "set" /\ ∃ S n,H p=some (.set S n))
  | _=>False
theorem t8 {pins:List (Addr×Obj)} {σ:St} {H:Hp} {s:Shared} {T:String} {x:V} {v:Value} (I:az X pins σ H s) (r:bC x v) (ty:xq X.K T x H) :
    s.TypeIs v T/\∀ a,v=.ref a->∃ ob,s.heap.get? a=some ob/\ob.dict=none:=by
  cases x with
  | str z =>
    obtain ⟨t,rfl⟩:=r;cases (show T = "str" from ty);exact ⟨typeIs_str s z t,fun _ e=>nomatch e⟩
  | int i =>
    obtain ⟨t,rfl⟩:=r;cases (show T = "int" from ty);exact ⟨typeIs_int s i t,fun _ e=>nomatch e⟩
  | ref p =>
    cases r;rcases ty with ⟨rfl,xs,hq⟩ | ⟨rfl,o,hk,hc,hd⟩ | ⟨rfl,hk⟩ | ⟨rfl,S,n,hk⟩
    · obtain ⟨its,_,pl,_⟩:=I.list hq;refine ⟨pl.isList.typeIs,fun a e=>?_⟩;cases e;obtain ⟨o,n,e,c,hd,_⟩:=pl;exact ⟨o,e,hd⟩
    · refine ⟨⟨o,I.kIn p o hk,hc⟩,fun a e=>?_⟩;cases e;exact ⟨o,I.kIn _ o hk,hd⟩
    · have z:∃ o,s.heap.get? p=some o/\o.ExactDict:=by
        rcases hk with ⟨kvs,hk⟩ | ⟨kvs,hk⟩
        · obtain ⟨_,_,_,_,o,_,_,e,ex,_⟩:=I.hok p _ hk;exact ⟨o,e,ex⟩
        · obtain ⟨_,_,_,_,o,_,_,e,ex,_⟩:=I.hok p _ hk;exact ⟨o,e,ex⟩
      obtain ⟨o,e,ex⟩:=z;refine ⟨⟨o,e,ex.1⟩,fun a e2=>?_⟩;cases e2;exact ⟨o,e,ex.2.1⟩
    · obtain ⟨o,_,_,_,e,ex,_⟩:=I.hok p _ hk;refine ⟨⟨o,e,ex.1⟩,fun a e2=>?_⟩;cases e2;exact ⟨o,e,ex.2.1⟩
  | _=>exact False.elim ty
noncomputable def xD (K:PySem.W.Frag) (T:String) (r:V->List V->Hp->VK->Prop) (to:TE) (t:TA):TE:=fun σ H Q=>to σ H fun x H1=>xq K T x H1/\t σ H1 fun xs H2=>r x xs H2 Q
variable {o e:Expr} {es:List Expr} {to:TE} {t:TA} {name:Str} {apos cpos:Pos} {T id:String} {r:V->List V->Hp->VK->Prop}
theorem v9 (pa:PlainAttrs T) (slot:Slot T name id) (hty:typeOf (.builtin id)=pure (.type "method_descriptor")) (hm:xB X id r) (ho:PE X o to) (ha:PA X (e::es) t)
    (hbase:attributeBase o name X.env (eval o X.env)=eval o X.env:=by rfl)
    (hfew:((backTo cpos (starEach (e::es) X.env)).all (fun x=>!x.1)&&(backToKw cpos (keywordEach [] X.env)).all (fun x=>x.1.isSome)
      && decide ((e::es).length+([]:List Keyword).length+(if ([]:List Keyword).isEmpty then 0 else 1) < 30))=true:=by rfl)
    (hline:(apos.endLine==cpos.line)=true:=by rfl) (hs:starEach (e::es) X.env=(false,eval e X.env)::starEach es X.env:=by rfl) (hplain:(backTo cpos (starEach es X.env)).any (·.1)=false:=by rfl) :
    PE X (.Call (.Attribute o name apos) (e::es) [] cpos) (xD X.K T r to t):=by
  intro pins s σ H Q I h;refine wpAny_Call_method_late hbase hfew hline rfl (cG (ho pins s σ H _ I h) fun v s1 ⟨x,H1,I1,r1,ty,q1⟩=>?_);obtain ⟨h1,h2⟩:=t8 I1 r1 ty;refine ⟨T,id,pa,slot,hty,h1,h2,?_⟩;have hA:=ha cpos pins s1 σ H1 _ I1 q1;rw [hs] at hA ⊢;refine Calls.callWith_builtin (by show (false||(backTo cpos (starEach es X.env)).any (·.1))=false;rw [hplain] <;> rfl) (Calls.evalArgs_plain ?_);exact cG hA fun us s2 ⟨vs,H2,I2,r2,q2⟩=>hm pins s2 σ H2 x vs v us Q I2 r1 r2 q2
end
noncomputable def xC (X:Cx) (id:String) (r:V->List V->Hp->VK->Prop):Prop :=
  ∀ (pins:List (Addr×Obj)) (s:Shared) (σ:St) (H:Hp) (x:V) (xs:List V) (v:Value) (us:List Value) (Q:VK),az X pins σ H s->bC x v->aV xs us->r x xs H Q ->
    wpAny (model X.prog X.w) X.A (call (.builtin id) (v::us)) (EP X pins σ Q) X.xe s
theorem aV.one:∀ {x:V} {us:List Value},aV [x] us->∃ u,us=[u]/\bC x u
  | _,_,.cons r .nil=>⟨_,rfl,r⟩
theorem aV.reverse {xs:List V} {us:List Value} (h:aV xs us):aV xs.reverse us.reverse:=by
  induction h with
  | nil=>exact .nil
  | cons r t ih=>rw [List.reverse_cons,List.reverse_cons];exact aV.append ih (.cons r .nil)
theorem aV.rep {xs:List V} {us:List Value} (h:aV xs us):∀ k:Nat,aV (List.replicate k xs).flatten (List.replicate k us).flatten
  | 0=>.nil
  | k+1=>by
    rw [List.replicate_succ,List.replicate_succ,List.flatten_cons,List.flatten_cons];exact aV.append h (aV.rep h k)
theorem iw (its:List Value):∀ (k:Nat) (acc:List Value),
    List.foldl (fun x1 x2=>x1++x2) acc.toArray (List.replicate k its.toArray)=(acc++(List.replicate k its).flatten).toArray
  | 0,acc=>by simp
  | k+1,acc=>by
    have e:acc.toArray++its.toArray=(acc++its).toArray:=by simp
    have e2:(acc++its)++(List.replicate k its).flatten=acc++(List.replicate (k+1) its).flatten:=by
      rw [List.replicate_succ,List.flatten_cons,List.append_assoc]
    rw [<- e2,<- iw its k (acc++its),<- e,List.replicate_succ,List.foldl_cons]
section
variable {X:Cx} {pins:List (Addr×Obj)} {σ:St} {H:Hp} {s:Shared} {l b:Addr} {xs ys zs:List V}
theorem az.lset {its its':List Value} {n:Nat} {f:Array Value->Array Value} {t':Nat} (I:az X pins σ H s) (hH:H l=some (.lst xs))
    (e:s.heap.get? l=some { cls:=.type "list",data:=.seq its.toArray n }) (hf:f its.toArray=its'.toArray) (hv:aV ys its') (hz:ys.length<=sizeLine) :
    az X pins σ (cU H l (.lst ys)) { s with heap:=s.heap.update l (Obj.mapSeq f),toks:=t' }:=by
  have q:=PySem.IsL.update e f;rw [hf] at q;refine I.write (x:=l) (e:=l) (by rw [hH];exact trivial) (.inl rfl) (fun b' u hb hu=>(Heap.get?_update_other s.heap (Obj.mapSeq f) (Ne.symm hb)).trans hu) ⟨_,q⟩ ?_;exact ⟨hz,its',_,hv,q⟩
theorem az.lnew {its:List Value} {t':Nat} (I:az X pins σ H s) (hv:aV ys its) (hz:ys.length<=sizeLine) :
    az X pins σ (cU H s.heap.objs.size (.lst ys)) { s with heap:=s.heap.push { cls:=.type "list",data:=.seq its.toArray },toks:=t' } :=
  I.laid (fun _ _ q=>Heap.get?_push_of_some _ q) (Nat.le_refl _) ⟨hz,its,0,hv,Heap.get?_push_size _ rfl⟩
theorem az.fresh (I:az X pins σ H s):H s.heap.objs.size=none:=I.hok.fresh (Nat.le_refl _)
theorem az.lstM (I:az X pins σ H s) (hH:H l=some (.lst xs)):xs.length<=sizeLine/\∃ (its:List Value) (n:Nat),aV xs its/\xs.length=its.length/\s.heap.get? l=some { cls:=.type "list",data:=.seq its.toArray n }:=by
  obtain ⟨z,its,n,r,e⟩:=I.hok l _ hH;exact ⟨z,its,n,r,r.length,e⟩
theorem pQ {n:Nat} (h:n<=sizeLine):Builtin.List.listTooLong n=false:=by
  unfold Builtin.List.listTooLong;exact decide_eq_false (by omega)
end
section
variable {X:Cx}
noncomputable def sU:V->List V->Hp->VK->Prop:=fun x vs H Q=>∃ l xs y,x=.ref l/\vs=[y]/\H l=some (.lst xs)/\xs.length < sizeLine/\Q .non (cU H l (.lst (xs++[y])))
theorem ky:xC X "list.append" sU:=by
  intro pins s σ H x vs v us Q I rx rv h;obtain ⟨l,xs,y,rfl,rfl,hH,hz,q⟩:=h;cases rx;obtain ⟨u,rfl,ru⟩:=rv.one;obtain ⟨z,its,n,r,hl,e⟩:=I.lstM hH;refine call_meets F.slot_list_append ⟨_,e,rfl⟩ F.entry_list_append (F.args_list_append_2 _ _) (PySem.list_append l its.toArray n u (by rw [List.size_toArray];omega)) ⟨e,?_⟩;refine ⟨.non,_,I.lset (its':=its++[u]) hH e (by simp) (r.append (.cons ru .nil)) ?_,rfl,q⟩;rw [List.length_append,List.length_singleton];omega
noncomputable def w4:R2:=fun x y H Q=>∃ l k xs,x=.ref l/\y=.int k/\H l=some (.lst xs)/\-(2 ^ 63)<=k/\k < 2 ^ 63/\xs.length*k.toNat<=sizeLine /\
  ∀ p,H p=none->Q (.ref p) (cU H p (.lst (List.replicate k.toNat xs).flatten))
theorem k6 {α:Type} (xs:List α) (k:Nat):(List.replicate k xs).flatten.length=k*xs.length:=by
  induction k with
  | zero=>simp
  | succ k ih=>rw [List.replicate_succ,List.flatten_cons,List.length_append,ih,Nat.succ_mul,Nat.add_comm]
theorem uo:fH X (binaryOp .Mult) w4:=by
  intro pins s σ H x y v u Q I rx ry h;obtain ⟨l,k,xs,rfl,rfl,hH,h1,h2,hz,q⟩:=h;cases rx;obtain ⟨t,rfl⟩:=ry;obtain ⟨z,its,n,r,hl,e⟩:=I.lstM hH;have hlen:its.toArray.size*k.toNat<=sizeLine:=by rw [List.size_toArray,<- hl];exact hz
  have hcap:¬ its.toArray.size*k.toNat > (2 ^ 63-1) / 8:=by
    have:(sizeLine:Nat)<=(2 ^ 63-1) / 8:=by decide
    omega
  have hfit:¬ (!Builtin.List.listFitsIndex k)=true:=by
    rw [fitsIndex_both h1 h2];exact Bool.false_ne_true
  have hlong:¬ Builtin.List.listTooLong (its.toArray.size*k.toNat)=true:=by
    rw [pQ hlen];exact Bool.false_ne_true
  have hnew:List.foldl (fun x1 x2=>x1++x2) #[] (List.replicate (if its.toArray.isEmpty=true then 0 else k.toNat) its.toArray)=(List.replicate k.toNat its).flatten.toArray:=by
    have f0:∀ m:Nat,List.foldl (fun x1 x2=>x1++x2) #[] (List.replicate m its.toArray)=(List.replicate m its).flatten.toArray:=fun m=>by
      have:=iw its m [];rw [List.nil_append] at this;exact this
    rw [f0];cases its with
    | nil=>simp
    | cons a r'=>rw [if_neg (by simp)]
  refine wpAny_binaryOp_repeat_ref (T := "list") (U := "int") (by decide) ⟨_,e,rfl⟩ (fun s'=>typeIs_int s' k t) noFill_list_mul F.fills_int_mul F.slot_int_rmul repeat_list F.slot_int_index.lookup
    (call_meets F.slot_int_rmul (typeIs_int s k t) F.entry_int_rmul (F.args_int_rmul_2 _ _) (int___rmul___int_list k t l its.toArray n)
      ⟨e,rfl,⟨_,e,rfl⟩,call_meets F.slot_list_mul ⟨_,e,rfl⟩ F.entry_list_mul (F.args_list_mul_2 _ _) (AutoListH.list___mul___list_int_3 l its.toArray n k t hfit hcap hlong) ⟨e,?_⟩⟩)
  rw [hnew];exact ⟨.ref _,_,I.lnew (t':=s.toks) (r.rep k.toNat) (by rw [k6,Nat.mul_comm];exact hz),rfl,q _ I.fresh⟩
end
end L2
namespace Att
open PySem PySem.W PySem.Calls PyProof.Rows
theorem iR {P:Params} {h:Heap}:∀ (ns:List Int) (vs:List Value),WellAll P h vs (ns.map WData.int)->IntsAre vs ns:=by
  intro ns;induction ns with
  | nil =>
    intro vs w;rw [List.map_nil] at w;cases w;exact .nil
  | cons n ns ih =>
    intro vs w;rw [List.map_cons] at w;cases w with
    | cons a b =>
      cases a;exact .cons _ _ (ih _ b)
theorem pd {l:OpenLaw} {n:Nat} (hn:l.most=some n) {P:Params} {h:Heap} {args:List WData} {vals:List Value}
    (hpre:l.row.toRowW.claim.pre args=true) (hwl:WellAll P h vals args) :
    ∃ a vs ns,vals=[Value.ref a]/\args=[WData.list (ns.map WData.int)]/\h.get? a=some { cls:=.type "list",data:=.seq vs.toArray }/\IntsAre vs ns/\ns.length<=n:=by
  have hsh:WShape.hasAll [] args [.list .int]=true:=(pre_splitW hpre).1;have hc:l.pre.holds [] { args:=args }=true:=(pre_splitW hpre).2;obtain ⟨d,r,rfl,h1,h2⟩:=hasAllW_cons hsh;obtain rfl:=hasAllW_nil h2;obtain ⟨xs,rfl,h3⟩:=hasW_list h1;obtain ⟨ns,rfl⟩:=items_int h3;have hlen:ns.length<=n:=by
    unfold OpenLaw.pre at hc;have h4:(WTm.not (.lt (.lit (.int (n:Int))) (.len (.arg 0)))).holds [] { args:=[.list (ns.map .int)] }=true:=by
      have h4:=(holds_andW hc).1;rw [hn] at h4;exact h4
    have h5:=condW_of h4 (w_not (w_lt w_lit (w_len_list (w_arg rfl))));rw [List.length_map] at h5;refine Nat.le_of_not_lt fun q=>?_
    have q':(n:Int) < ((ns.length:Nat):Int):=by omega
    first
      | (rw [decide_eq_true q'] at h5;exact absurd h5 (by decide))
      | (simp at h5;omega)
  cases hwl with
  | cons w1 w2 =>
    cases w2;cases w1 with
    | list ho hall=>exact ⟨_,_,ns,rfl,rfl,ho,iR ns _ hall,hlen⟩
theorem oK (l:OpenLaw) (args:List WData):l.row.toRowW.claim.post args (.bool true) args=true :=
  postW_of (r:=l.row.toRowW) (X:=(true==true))
    (show WShape.has [] (.bool true) .bool=true by first | rfl | decide | simp [WShape.has,WShape.arms,WShape.armsAll])
    (show (WTm.eq .res (.lit (.bool true))).value [] { args:=args,res:=some (.bool true),after:=args }=some (.bool (true==true)) from w_eq_bool (w_res rfl) w_lit) rfl
theorem attach_call {l:OpenLaw} {n:Nat} {q:Program} {loose:List Str} {XP:(Str->Option Value)->Heap->Prop} {YP:World->Heap->Prop} {d:DefRec}
    (hn:l.most=some n) (hdf:d.params.defaults=[])
    (call:∀ (w:World) (s₀ s₁:Shared) (mg mb:Str->Option Value) (fa:Addr) (o:Obj) (pm cd doc:Value) (a:Addr) (vs:List Value) (ns:List Int),
      Ground q loose [] XP w s₀ mg mb s₁.heap->YP w s₁.heap ->
      s₁.heap.get? fa=some o->o.data=.func (docDef d.name d.params d.body d.scope pm cd doc)->s₁.heap.CodeRec cd d.name->mg d.name=some (.ref fa) ->
      s₁.heap.get? a=some { cls:=.type "list",data:=.seq vs.toArray }->IntsAre vs ns->ns.length<=n->s₁.gens=#[] ->
      codeAny (model l.prog w) callerA (.call (.ref fa) ⟨[.ref a],[]⟩) (fun r s'=>r=.ok (.ret (.bool true))/\OldK s₁.heap s'.heap/\s'.os=s₁.os/\AllBare s'.gens) s₁) :
    WalkO q loose XP YP l.row.toRowW d [] (fun f vs=>PySem.call f vs):=by
  intro w s₀ s₁ mg mb G Y fa o pm cd doc dV kV ho hd hcd hD hmg hg args vals as hpre hlay hrd hwl hlo;obtain rfl:dV=.none:=Dflts.none hD hdf;obtain rfl:kV=.none:=Dflts.noKw hD;obtain ⟨a,vs,ns,rfl,rfl,hobj,hints,hlen⟩:=pd hn hpre hwl;refine enter_call (codeAny_mono (call w s₀ s₁ mg mb fa o pm cd doc a vs ns G Y ho (fd_plain hd) hcd hmg hobj hints hlen hg) fun r s' hq=>?_);obtain ⟨rfl,h2,h3,h4⟩:=hq;exact ⟨.inl ⟨.bool true,.bool true,[],rfl,fun _=>rfl,.bool true,oK l _,fun _=>⟨List.Pairwise.nil,fun _ hm=>(nomatch hm)⟩⟩,h2,h3,h4⟩
end Att
namespace L2
open PySem PySem.Spec PyProof.Rows
theorem kz:∀ {vs:List Value} {ns:List Int},IntsAre vs ns->aV (ns.map V.int) vs
  | _,_,.nil=>.nil
  | _,_,.cons n t h=>.cons ⟨t,rfl⟩ (kz h)
noncomputable def vo (H:Hp):Prop:=∀ b,H b=none\/∃ o xs,H b=some (.frz o (.lst xs))
theorem qO {P:Program} {w:World} {K:PySem.W.Frag} {mg mb:Str->Option Value} {CX:pD} {k:Nat} {fa a:Addr} {fd:FuncData} {x:Str} {sp:Sp} {s₁:Shared} {vs:List Value} {ns:List Int}
    (KX:K.In s₁.heap) (hns:s₁.heap.Ns mainGlobals mg) (hb:s₁.heap.Ns builtinsNs mb) (hbb:∀ x:Str,x ≠ "__name__" -> mb x=bootBuiltins x) (hlim:s₁.heap.NoLimit) (hg:s₁.gens=#[])
    (ha:s₁.heap.get? a=some { cls:=.type "list",data:=.seq vs.toArray }) (hi:IntsAre vs ns) (hl:ns.length<=sizeLine) (hr:dB k callerA)
    (F:∀ base:Heap,K.In base->base.Ns mainGlobals mg->aU P w K mg base CX k fa fd [x] sp) (hbind:∀ (s:Shared) (u:Value),BindsTo s fd ⟨[u],[]⟩ [(x,u)])
    (hsp:∀ H:Hp,vo H->ke K H a (ns.map V.int)->sp [.ref a] H (fun v _=>v=.bl true) fun _ _ _=>False)
    (hCX:∀ H e s',CX [] H s₁ (fun _ _ _=>False) e s'->False) :
    codeAny (model P w) callerA (.call (.ref fa) ⟨[.ref a],[]⟩) (fun r s'=>r=.ok (.ret (.bool true))/\OldK s₁.heap s'.heap/\s'.os=s₁.os/\AllBare s'.gens) s₁:=by
  have rv:=kz hi;have lenV:=hi.length
  -- from an abstract heap in which nothing but the script may be tracked
  have core:∀ H:Hp,vo H->ke K H a (ns.map V.int)->eS P w H s₁.heap->(∀ b,H b≠none->b=a)->(H a≠none->K.lookup a=none) ->
      codeAny (model P w) callerA (.call (.ref fa) ⟨[.ref a],[]⟩) (fun r s'=>r=.ok (.ret (.bool true))/\OldK s₁.heap s'.heap/\s'.os=s₁.os/\AllBare s'.gens) s₁:=by
    intro H hO hS hok hA hK;have base_of:∀ {b:Addr} {o:Obj},s₁.heap.get? b=some o->H b=none->(lh s₁.heap H).get? b=some o:=fun e n=>qJ e n
    have noA:∀ {b:Addr} {o:Obj} {es:Array DictEntry} {ep:Nat},s₁.heap.get? b=some o->o.data=.dict es ep->H b=none:=fun {b o es ep} e d=>by
      cases q:H b with
      | none=>rfl
      | some u =>
        have e':b=a:=hA b (by rw [q];simp);subst e';rw [ha] at e;cases e;have d':Data.seq vs.toArray _=Data.dict es ep:=d;cases d'
    have nsK:∀ {b:Addr} {m:Str->Option Value},s₁.heap.Ns b m->(lh s₁.heap H).Ns b m:=fun {b m} ⟨o,es,ep,e,d,r⟩=>⟨o,es,ep,base_of e (noA e d),d,r⟩
    have hKb:K.In (lh s₁.heap H):=fun b o e=>base_of (KX b o e) (by
      cases q:H b with
      | none=>rfl
      | some u =>
        have e':b=a:=hA b (by rw [q];simp);subst e';rw [hK (by rw [q];simp)] at e;cases e)
    have hM:Mod K mg (lh s₁.heap H):=⟨hKb,nsK hns,⟨mb,nsK hb,hbb⟩,let ⟨mc,h1,h2⟩:=hlim;⟨mc,nsK h1,h2⟩⟩
    have e0:sM P w K mg (lh s₁.heap H) callerA [] s₁ H:=⟨rfl,hM,fun b o e=>rq e,Nat.le_of_eq (oZ _ _),trivial,fun b hb=>absurd (show b∈([]:List Addr) from hb) (by simp),hok,.of_eq hg⟩
    refine codeAny_mono ((F _ hKb (nsK hns)).run callerA [] s₁ H ⟨[.ref a],[]⟩ [.ref a] [.ref a] _ _ hr e0 (hbind s₁ (.ref a)) (.cons rfl .nil) (hsp H hO hS)) fun r s' h=>?_
    cases r with
    | error e=>exact (hCX H e s' h).elim
    | ok fl =>
      cases fl with
      | next=>exact False.elim h
      | brk=>exact False.elim h
      | cont=>exact False.elim h
      | ret u =>
        obtain ⟨v,H',os,bare,un,hok',r',q⟩:=h;have q':v=.bl true:=q;subst q';obtain rfl:u=Value.bool true:=r';refine ⟨rfl,OldK.of_keep fun b o e=>?_,os,bare⟩;cases q:H b with
        | none=>exact un.keep b o e q (by intro z;exact absurd (show b∈([]:List Addr) from z) (by simp)) (by simp)
        | some u =>
          rcases hO b with z | ⟨ob,xs,z⟩
          · rw [q] at z;cases z
          · have z2:=un.frzs b ob _ z;obtain ⟨e1,_⟩:=hok b _ z;obtain ⟨e2,_⟩:=hok' b _ z2;rw [e] at e1;cases e1;exact e2
  cases hk:K.lookup a with
  | some o =>
    -- the script is one of the module's own objects
    have e:=KX a o hk;rw [ha] at e;cases e;refine core (fun _=>none) (fun _=>.inl rfl) (.inr ⟨_,vs.toArray,_,hk,rfl,rfl,rfl,by rw [List.size_toArray,lenV];exact hl,by simpa using rv⟩) (fun b u z=>by have z':(none:Option HO)=some u:=z;cases z') (fun b z=>absurd rfl z) fun z=>absurd rfl z
  | none =>
    refine core (fun b=>if b=a then some (.frz { cls:=.type "list",data:=.seq vs.toArray } (.lst (ns.map V.int))) else none) (fun b=>?_) (.inl (.inr ⟨{ cls:=.type "list",data:=.seq vs.toArray },if_pos rfl⟩)) (fun b u z=>?_) (fun b z=>?_) fun _=>hk
    · by_cases hb:b=a
      · exact .inr ⟨_,_,if_pos hb⟩
      · exact .inl (if_neg hb)
    · by_cases hb:b=a
      · have z':=(if_pos hb).symm.trans z;cases z';subst hb;exact ⟨ha,by rw [List.length_map];exact hl,vs,_,rv,ha⟩
      · have z':=(if_neg hb).symm.trans z;cases z'
    · by_cases hb:b=a
      · exact hb
      · exact absurd (if_neg hb) z
noncomputable def c0 (s:Stmt):Arguments:=match s with
  | .FunctionDef _ a _ _ _ _ _ _ _ _=>a
  | _=>{ posonlyargs:=[],args:=[],vararg:=none,kwonlyargs:=[],kw_defaults:=[],kwarg:=none,defaults:=[] }
noncomputable def cg (s:Stmt):List Stmt:=match s with
  | .FunctionDef _ _ b _ _ _ _ _ _ _=>b
  | _=>[]
noncomputable def al (s:Stmt):Scope:=match s with
  | .FunctionDef _ _ _ _ _ _ sc _ _ _=>sc
  | _=>{ kind:=.function,names:=[],isGenerator:=false,isCoroutine:=false }
noncomputable abbrev xt:pD:=fun _ _ _ _ _ _=>False
structure gf (K:PySem.W.Frag) (x qual:Str) (st:Stmt) (f:Addr) (fd:FuncData):Prop where
  ex:∃ (oc:Value) (od:Option Addr) (kV doc pm:Value) (an:Option Addr) (cdv ct:Value) (osl:Array (Option Value)),
    fd=PySem.W.fnOf x qual (c0 st) (cg st) (al st) .none kV doc pm an cdv ct/\K.lookup f=some ⟨oc,od,.func fd,osl⟩/\PySem.W.codeIn K cdv qual=true
  kp:PySem.W.keepIn K (.ref f)=true
section
variable {P:Program} {w:World} {K:PySem.W.Frag} {mg:Str->Option Value} {base:Heap}
theorem gf.ok {x qual:Str} {st:Stmt} {f:Addr} {fd:FuncData} {N ps:List Str} {k:Nat} {sp:Sp} (F:gf K x qual st f fd) (S:aO N ps (al st)) (len:∀ vs H Q E,sp vs H Q E->vs.length=ps.length)
    (hbody:∀ (cdv:Value) (A:Around) (outer:List Env) (s:Shared) (H:Hp) (vs:List V) (Q:VK) (E:XK),dB k (A.deeper (envOfC qual (al st) s.heap.objs.size f cdv))->sp vs H Q E ->
      ∃ t,lF (dv xt P w K mg base N qual (al st) f cdv A outer s H E).nox (cg st) t/\t { nx:=fun _ H'=>Q .non H',rt:=Q } (fG N vs) H):aU P w K mg base xt (k+1) f fd ps sp:=by
  obtain ⟨oc,od,kV,doc,pm,an,cdv,ct,osl,rfl,lk,hcd⟩:=F.ex;refine sX lk hcd S len fun A outer s H vs Q E hr hsp=>?_
  obtain ⟨t,h,q⟩:=hbody cdv A outer s H vs Q E hr hsp;exact ⟨t,h.nox,q⟩
theorem gf.binds {x qual:Str} {st:Stmt} {f:Addr} {fd:FuncData} {ps:List Str} (F:gf K x qual st f fd)
    (h:∀ (kV doc pm:Value) (an:Option Addr) (cdv ct:Value) (us:List Value),us.length=ps.length->bindArgs (PySem.W.fnOf x qual (c0 st) (cg st) (al st) .none kV doc pm an cdv ct) ⟨us,[]⟩=pure (ps.zip us)):bH K fd ps []:=by
  obtain ⟨oc,od,kV,doc,pm,an,cdv,ct,osl,rfl,lk,hcd⟩:=F.ex;exact .all (h kV doc pm an cdv ct)
theorem qN {x qual:Str} {st:Stmt} {f:Addr} {oc:Value} {od an:Option Addr} {osl:Array (Option Value)} {kV doc pm cdv ct:Value} (l:K.lookup f=some ⟨oc,od,.func (PySem.W.fnOf x qual (c0 st) (cg st) (al st) .none kV doc pm an cdv ct),osl⟩)
    (c:PySem.W.codeIn K cdv qual=true) (k:PySem.W.keepIn K (.ref f)=true):gf K x qual st f (PySem.W.fnOf x qual (c0 st) (cg st) (al st) .none kV doc pm an cdv ct):=⟨⟨oc,od,kV,doc,pm,an,cdv,ct,osl,rfl,l,c⟩,k⟩
end
noncomputable def ar (H H':Hp):Prop:=∀ b o,H b=some o->H' b=some o
theorem ar.refl (H:Hp):ar H H:=fun _ _ h=>h
theorem ar.trans {H H1 H2:Hp} (a:ar H H1) (b:ar H1 H2):ar H H2:=fun c o h=>b c o (a c o h)
theorem ar.free {H H':Hp} (e:ar H H') {l:Addr} (h:H' l=Option.none):H l=Option.none:=by
  cases q:H l with
  | none=>rfl
  | some o =>
    rw [e l o q] at h;cases h
section
variable {κ:Type} [DecidableEq κ]
noncomputable def gE (kvs:List (κ×V)) (k:κ):Option V:=(kvs.find? fun kv=>decide (kv.1=k)).map (·.2)
noncomputable def rj (kvs:List (κ×V)) (k:κ) (v:V):List (κ×V) :=
  if (kvs.any fun kv=>decide (kv.1=k))=true then kvs.map (fun kv=>if kv.1=k then (kv.1,v) else kv) else kvs++[(k,v)]
theorem ma {p:κ×V} {r:List (κ×V)} {k:κ} (e:p.1=k):gE (p::r) k=some p.2:=by simp [gE,List.find?_cons,e]
theorem lI {p:κ×V} {r:List (κ×V)} {k:κ} (e:¬ p.1=k):gE (p::r) k=gE r k:=by simp [gE,List.find?_cons,e]
theorem jE.isSome_eq {o:Option V} {u:Option Value} (r:jE o u):o.isSome=u.isSome:=by
  cases o with
  | none=>cases u with
    | none=>rfl
    | some _=>exact (show False from r).elim
  | some _=>cases u with
    | none=>exact (show False from r).elim
    | some _=>rfl
theorem KV.val {kvs:List (κ×V)} {vs:List (κ×Value)} (r:KV kvs vs) (k:κ):jE (gE kvs k) (valueAt vs k):=by
  unfold KV at r;induction r with
  | nil=>exact True.intro
  | @cons p q ps qs h t ih =>
    obtain ⟨h1,h2⟩:=h;by_cases e:p.1=k
    · have e':q.1=k:=h1.symm.trans e;have b:valueAt (q::qs) k=some q.2:=by simp [valueAt,List.find?_cons,e']
      rw [ma e,b];exact h2
    · have e':¬ q.1=k:=fun z=>e (h1.trans z)
      have b:valueAt (q::qs) k=valueAt qs k:=by simp [valueAt,List.find?_cons,e']
      rw [lI e,b];exact ih
theorem KV.any {kvs:List (κ×V)} {vs:List (κ×Value)} (r:KV kvs vs) (k:κ):(kvs.any fun kv=>decide (kv.1=k))=vs.any fun kv=>decide (kv.1=k):=by
  unfold KV at r;induction r with
  | nil=>rfl
  | cons h t ih=>rw [List.any_cons,List.any_cons,ih,h.1]
theorem KV.length {kvs:List (κ×V)} {vs:List (κ×Value)} (r:KV kvs vs):kvs.length=vs.length:=Paired.length r
end
theorem pX {P:Program} {w:World} {k:cZ} {u:Value} (r:bC (kV k) u):(dl P w).is k u=true:=by
  cases k with
  | inl i=>obtain ⟨t,e⟩:=(show ∃ t,u=Value.int i t from r);subst e;exact lQ P w i t
  | inr x=>obtain ⟨t,e⟩:=(show ∃ t,u=Value.str x t from r);subst e;exact md P w x t
theorem kj {P:Program} {w:World}:∀ {ks:List cZ} {us:List Value},aV (ks.map kV) us->ItemsAre (dl P w) ks us
  | [],_,r=>by rw [List.map_nil] at r;cases r;exact .nil
  | k::ks,_,r=>by
    rw [List.map_cons] at r;cases r with
    | cons h t=>exact .cons (pX h) (kj t)
noncomputable abbrev KT (H:Hp):List (List cZ×V)->List (List cZ×Addr×Value)->Prop:=Paired fun p q=>p.1=q.1/\H q.2.1=some (.tup (p.1.map kV))/\bC p.2 q.2.2
theorem KT.val {H:Hp} {kvs:List (List cZ×V)} {xs:List (List cZ×Addr×Value)} (r:KT H kvs xs) (k:List cZ):jE (gE kvs k) ((atKey xs k).map (·.2)):=by
  induction r with
  | nil=>exact True.intro
  | @cons p q ps qs h t ih =>
    obtain ⟨h1,_,h2⟩:=h;by_cases e:p.1=k
    · have e':q.1=k:=h1.symm.trans e;have b:atKey (q::qs) k=some q.2:=by simp [atKey,List.find?_cons,e']
      rw [ma e,b];exact h2
    · have e':¬ q.1=k:=fun z=>e (h1.trans z)
      have b:atKey (q::qs) k=atKey qs k:=by simp [atKey,List.find?_cons,e']
      rw [lI e,b];exact ih
section
variable {P:Program} {w:World} {H:Hp} {h:Heap} {a:Addr}
theorem tD {u:HO} (ok:eS P w H h) (e:Rd H a u):bP P w H h a u:=e.ok ok
theorem n4 {kvs:List (cZ×V)} (ok:eS P w H h) (e:Rd H a (.dK kvs)):kvs.length<=sizeLine/\(a==sysModules)=false/\∃ vs,KV kvs vs/\h.DictOf (dl P w) a vs :=
  show bP P w H h a (.dK kvs) from tD ok e
theorem nA {ks:List cZ} (ok:eS P w H h) (e:H a=some (.tup (ks.map kV))):(tupleKind (dl P w)).is h ks a:=by
  obtain ⟨_,its,r,o,h1,h2,n,h3⟩:=(show bP P w H h a (.tup (ks.map kV)) from ok a _ e)
  exact ⟨o,its.toArray,n,h1,h2,h3,by simpa using kj r⟩
theorem qy {kvs:List (List cZ×V)} (ok:eS P w H h) (e:Rd H a (.dT kvs)):kvs.length<=sizeLine/\(a==sysModules)=false /\
    ∃ xs,KT H kvs xs/\h.DictOfH (tupleKind (dl P w)) a xs:=by
  obtain ⟨z,y,xs,r,o,es,ep,h1,h2,h3,h4,h5⟩:=(show bP P w H h a (.dT kvs) from tD ok e)
  refine ⟨z,y,xs,r,o,es,ep,h1,h2,h3,h4,fun x hx=>?_,h5⟩;have all:∀ {l:List (List cZ×V)} {m:List (List cZ×Addr×Value)},KT H l m->∀ x∈m,(tupleKind (dl P w)).is h x.1 x.2.1:=by
    intro l m q;induction q with
    | nil=>intro x hx;exact nomatch hx
    | @cons p q ps qs hq t ih =>
      intro x hx;rcases List.mem_cons.mp hx with e | hx
      · subst e;exact nA ok (by rw [<- hq.1];exact hq.2.1)
      · exact ih x hx
  exact all r x hx
end
noncomputable def kb (H:Hp) (a:Addr) (y:V) (r:Option V):Prop :=
  (∃ kvs k,Rd H a (.dK kvs)/\y=kV k/\r=gE kvs k)\/∃ kvs k b,Rd H a (.dT kvs)/\y=.ref b/\H b=some (.tup (k.map kV))/\r=gE kvs k
noncomputable def rZ (H:Hp) (a:Addr) (y v:V) (H':Hp):Prop :=
  (∃ kvs k,H a=some (.dK kvs)/\y=kV k/\kvs.length < sizeLine/\H'=cU H a (.dK (rj kvs k v))) \/
  ∃ kvs k b,H a=some (.dT kvs)/\y=.ref b/\H b=some (.tup (k.map kV))/\kvs.length < sizeLine/\H'=cU H a (.dT (rj kvs k v))
theorem kb.k {H:Hp} {a:Addr} {kvs:List (cZ×V)} {k:cZ} (e:H a=some (.dK kvs)):kb H a (kV k) (gE kvs k):=.inl ⟨kvs,k,.inl e,rfl,rfl⟩
theorem kb.t {H:Hp} {a b:Addr} {kvs:List (List cZ×V)} {k:List cZ} (e:H a=some (.dT kvs)) (eb:H b=some (.tup (k.map kV))):kb H a (.ref b) (gE kvs k):=.inr ⟨kvs,k,b,.inl e,rfl,eb,rfl⟩
theorem rZ.k {H:Hp} {a:Addr} {kvs:List (cZ×V)} {k:cZ} {v:V} (e:H a=some (.dK kvs)) (hl:kvs.length < sizeLine):rZ H a (kV k) v (cU H a (.dK (rj kvs k v))):=.inl ⟨kvs,k,e,rfl,hl,rfl⟩
theorem rZ.t {H:Hp} {a b:Addr} {kvs:List (List cZ×V)} {k:List cZ} {v:V} (e:H a=some (.dT kvs)) (eb:H b=some (.tup (k.map kV))) (hl:kvs.length < sizeLine) :
    rZ H a (.ref b) v (cU H a (.dT (rj kvs k v))):=.inr ⟨kvs,k,b,e,rfl,eb,hl,rfl⟩
section
variable {X:Cx} {pins:List (Addr×Obj)} {σ:St} {H:Hp} {s:Shared} {a:Addr} {y v:V} {u r:Value} {o:Option V} {A:Around} {E:Value->Shared->Prop}
theorem o7 {Q:Value->Shared->Prop} (hu:A.units+1 < cLine) (I:az X pins σ H s) (g:kb H a y (some v)) (ry:bC y u) (h:∀ w' s',az X pins σ H s'->bC v w'->Q w' s') :
    wpAny (model X.prog X.w) A (getItem (.ref a) u) Q E s:=by
  rcases g with ⟨kvs,k,e,ey,l⟩ | ⟨kvs,k,b,e,ey,eb,l⟩
  · subst ey;obtain ⟨z,hd,vs,rel,dd⟩:=n4 I.hok e;obtain ⟨w',hw,rw'⟩:=jE.some_of (v:=v) (o:=valueAt vs k) (by rw [l];exact rel.val k);exact wpAny_getItem_of (pX ry) dd.mapOf hw (h w' _ (I.tok _) rw')
  · subst ey;cases (show u=Value.ref b from ry);obtain ⟨z,hd,xs,rel,dd⟩:=qy I.hok e;obtain ⟨w',hw,rw'⟩:=jE.some_of (v:=v) (o:=(atKey xs k).map (·.2)) (by rw [l];exact rel.val k);obtain ⟨p,hp,hp2⟩:=Option.map_eq_some_iff.mp hw;refine wpAny_getItem_heap (tupleKind_room_in1 hu) (nA I.hok eb) dd hp ?_;rw [hp2];exact h w' _ (I.tok _) rw'
theorem w8 {Q:Value->Shared->Prop} (hu:A.units+1 < cLine) (I:az X pins σ H s) (g:kb H a y o) (ry:bC y u) (h:∀ s',az X pins σ H s'->Q (.bool o.isSome) s') :
    wpAny (model X.prog X.w) A (compareOp .In u (.ref a)) Q E s:=by
  rcases g with ⟨kvs,k,e,ey,l⟩ | ⟨kvs,k,b,e,ey,eb,l⟩
  · subst ey;obtain ⟨z,hd,vs,rel,dd⟩:=n4 I.hok e;refine wpAny_in_of (pX ry) hd dd.mapOf ?_;rw [<- (rel.val k).isSome_eq,<- l];exact h _ (I.tok _)
  · subst ey;cases (show u=Value.ref b from ry);obtain ⟨z,hd,xs,rel,dd⟩:=qy I.hok e;refine wpAny_in_heap (tupleKind_room_in1 hu) (nA I.hok eb) hd dd ?_;have q:=(rel.val k).isSome_eq;rw [Option.isSome_map] at q;rw [<- q,<- l];exact h _ (I.tok _)
end
section
variable {X:Cx} {pins:List (Addr×Obj)} {σ:St} {H:Hp} {s:Shared} {a:Addr} {kvs:List (cZ×V)} {k:cZ} {u:Value} {A:Around} {E:Value->Shared->Prop}
theorem v4 {Q:Value->Shared->Prop} (I:az X pins σ H s) (e:Rd H a (.dK kvs)) (h:∀ t s',az X pins σ H s'->Q (.int kvs.length t) s'):wpAny (model X.prog X.w) A (call (.builtin "len") [.ref a]) Q E s:=by
  obtain ⟨z,hd,vs,rel,dd⟩:=n4 I.hok e;refine call_len_dict hd dd (by rw [<- rel.length];rw [sizeLine_eq] at z;omega) ?_;rw [<- rel.length];exact h _ _ (I.tok _)
end
theorem l8 {X:Cx} {pins:List (Addr×Obj)} {σ:St} {H:Hp} {s:Shared} {a:Addr} {y:V} {o:Option V} (I:az X pins σ H s) (g:kb H a y o):s.TypeIs (.ref a) "dict" := by
  rcases g with ⟨kvs,k,e,_,_⟩ | ⟨kvs,k,b,e,_,_,_⟩
  · obtain ⟨_,_,vs,_,dd⟩:=n4 I.hok e;exact dd.typeIs
  · obtain ⟨_,_,xs,_,dd⟩:=qy I.hok e;exact dd.typeIs
end L2
set_option maxHeartbeats 4000000
namespace D2
open PySem PySem.Spec PyProof.Rows L2
noncomputable def lZ (base:Heap) (l:List Env) (e:Addr) (cls a0:Value) (h:Heap):Prop:=base.StaysIn h/\base.get? e=none/\h.FunFrames base l/\∃ fl,h.TracedAtW base e cls a0 fl
theorem lZ.of {base h:Heap} {l:List Env} {e:Addr} {cls a0:Value} (x:Heap.FlyingW base l e cls a0 h):lZ base l e cls a0 h:=⟨x.1,x.2.1,x.2.2.1,.none,x.2.2.2⟩
section
variable {M:Model} {A:Around} {E:Value->Shared->Prop} {s:Shared} {base:Heap} {l:List Env} {env:Env} {outer:List Env} {L e:Addr} {cls a0:Value} {Q:Unit->Shared->Prop}
theorem rP {h:Heap}:h.UpToSlots h:=fun b o hb _=>⟨o.slots,hb⟩
theorem lV (hfr:A.frames=some (env::outer)) (hf:env.frame=some L) (t:lZ base (env::outer) e cls a0 s.heap)
    (hQ:∀ h',lZ base (env::outer) e cls a0 h'->s.heap.UpToSlots h'->Q () { s with heap:=h' }):wpAny M A (noteFrame (.ref e) env) Q E s:=by
  have t':=t;obtain ⟨hkb,hen,hl,fl,oe,vs,T,oT,ts,he,⟨hcls,h0⟩,hd,h1,hnT,hTe,hT,hdT,h3⟩:=t;subst hcls;unfold noteFrame;simp only [hf];refine wpAny_bind (wpAny_field he hd h1 ?_);rw [if_pos (show (Value.ref T != Value.none)=true from by simp)];refine wpAny_bind (wpAny_field hT hdT h3 ?_);by_cases hfl:(fl==rawInt L)=true
  · rw [if_pos hfl];exact wpAny_pure (hQ s.heap t' rP)
  · rw [if_neg hfl];refine wpAny_bind (wpAny_setField hT hdT (Array.getElem?_eq_some_iff.mp h3).1 ?_);have other:∀ b,b≠T->(s.heap.update T (Obj.mapFields (·.setIfInBounds 3 Value.none))).get? b=s.heap.get? b:=fun b hb=>Heap.get?_update_other _ _ (Ne.symm hb)
    have noRecord:∀ b o,s.heap.get? b=some o->(∀ vs,o.data≠.fields vs)->b≠T:=fun b o hb hnf q=>by
      rw [q,hT] at hb;injection hb with hb;subst hb;exact hnf ts hdT
    refine wpAny_entryW hfr (hl.of_keeps fun b o hb hnf=>⟨o,(other b (noRecord b o hb hnf)).trans hb,rfl⟩) hf ((other e (Ne.symm hTe)).trans he)
      (fun b o hbo=>(other b fun q=>by rw [q,hnT] at hbo;cases hbo).trans (hkb b o hbo)) hen hd (Array.getElem?_eq_some_iff.mp h1).1 h0
      fun h' ⟨x1,x2,x3,x4⟩=>hQ h' ⟨x1,hen,x2,_,x3⟩ fun b o hb hnf=>x4 b o ((other b (noRecord b o hb hnf)).trans hb) hnf
theorem nG (f:Option Addr) (t:lZ base l e cls a0 s.heap) (hQ:∀ h',lZ base l e cls a0 h'->s.heap.UpToSlots h'->Q () { s with heap:=h' }):wpAny M A (setFlight (.ref e) f) Q E s:=by
  obtain ⟨hkb,hen,hl,fl,oe,vs,T,oT,ts,he,hcls,hd,h1,hnT,hTe,hT,hdT,h3⟩:=t;have hsz3:3 < ts.size:=(Array.getElem?_eq_some_iff.mp h3).1;have other:∀ b,b≠T->(s.heap.update T (Obj.mapFields (·.setIfInBounds 3 (f.elim Value.none fun f=>rawInt f)))).get? b=s.heap.get? b :=
    fun b hb=>Heap.get?_update_other _ _ (Ne.symm hb)
  have noRecord:∀ b o,s.heap.get? b=some o->(∀ vs,o.data≠.fields vs)->b≠T:=fun b o hb hnf q=>by
    rw [q,hT] at hb;injection hb with hb;subst hb;exact hnf ts hdT
  unfold setFlight;refine wpAny_bind (wpAny_field he hd h1 ?_);rw [if_pos (show (Value.ref T != Value.none)=true from by simp)];refine wpAny_setField hT hdT hsz3 (hQ _ ⟨fun b o hbo=>(other b fun q=>by rw [q,hnT] at hbo;cases hbo).trans (hkb b o hbo),hen,
    hl.of_keeps fun b o hb hnf=>⟨o,(other b (noRecord b o hb hnf)).trans hb,rfl⟩,(f.elim Value.none fun f=>rawInt f),?_⟩ fun b o hb hnf=>⟨o.slots,(other b (noRecord b o hb hnf)).trans hb⟩)
  exact ⟨oe,vs,T,_,_,(other e (Ne.symm hTe)).trans he,hcls,hd,h1,hnT,hTe,Heap.get?_update_self _ hT (Obj.isFreed_of_fields (Obj.data_mapFields hdT _)),Obj.data_mapFields hdT _,by simp [hsz3]⟩
theorem qA (t:lZ base l e cls a0 s.heap) (hQ:∀ h',Heap.FlyingW base l e cls a0 h'->s.heap.UpToSlots h'->Q () { s with heap:=h' }):wpAny M A (setFlight (.ref e) none) Q E s:=by
  obtain ⟨hkb,hen,hl,fl,ht⟩:=t;exact wpAny_setFlight_noneW hkb hl ht fun h' k1 k2 k3 k4=>hQ h' ⟨k1,hen,k2,k3⟩ fun b o hb hn=>⟨o.slots,k4 b o hb hn⟩
theorem pC (hfr:A.frames=some (env::outer)) (hf:env.frame=some L) (t:lZ base (env::outer) e cls a0 s.heap)
    (hQ:∀ h',Heap.FlyingW base outer e cls a0 h'->s.heap.UpToSlots h'->Q () { s with heap:=h' }):wpAny M A (leaving env (.ref e)) Q E s:=by
  unfold leaving;refine wpAny_bind (lV hfr hf t fun h1 t1 u1=>?_);refine qA (s:={ s with heap:=h1 }) t1 fun h2 t2 u2=>?_
  obtain ⟨k1,k2,⟨_,_,k3⟩,k4⟩:=t2;exact hQ h2 ⟨k1,k2,k3,k4⟩ (u1.trans u2)
theorem pI {α:Type} {k:Value->Sem α} {Q:α->Shared->Prop} (t:lZ base l e cls a0 s.heap) (hQ:∀ T,wpAny M A (k (.ref T)) Q E s):wpAny M A (field (.ref e) 1>>=k) Q E s:=by
  obtain ⟨hkb,hen,hl,fl,oe,vs,T,oT,ts,he,hcls,hd,h1,r⟩:=t;exact wpAny_bind (wpAny_field he hd h1 (hQ T))
theorem ql {α:Type} {what:String} {Q:α->Shared->Prop} (t:lZ base l e cls a0 s.heap) (hQ:∀ h',lZ base l e cls a0 h'->s.heap.UpToSlots h'->E (.ref e) { s with heap:=h' }):wpAny M A (PySem.passOn what (.ref e) env:Sem α) Q E s:=by
  unfold PySem.passOn;refine pI t fun T=>?_
  rw [if_neg (show ¬ ((Value.ref T==Value.none)=true) from by simp)];refine wpAny_bind (nG _ t fun h' t' u=>?_);exact wpAny_throw (hQ h' t' u)
theorem lZ.first {h:Heap} (x:lZ base l e cls a0 h):∃ oe vs,h.get? e=some oe/\oe.cls=cls/\oe.data=.fields vs/\vs[0]?=some a0 :=
  let ⟨_,_,_,_,oe,vs,_,_,_,he,hc,hd,_⟩:=x;⟨oe,vs,he,hc.1,hd,hc.2⟩
end
noncomputable abbrev St:=L2.St
noncomputable abbrev az:=@L2.az
noncomputable def gz:cZ->PyData
  | .inl i=>.int i
  | .inr x=>.str x
mutual
noncomputable def Rp (H:Hp):PyData->V->Prop
  | .none,v=>v=.non
  | .bool b,v=>v=.bl b
  | .int i,v=>v=.int i
  | .str x,v=>v=.str x
  | .tuple ds,v=>∃ a vs,v=.ref a/\H a=some (.tup vs)/\aY H ds vs
  | .list ds,v=>∃ a o vs,v=.ref a/\H a=some (.frz o (.lst vs))/\aY H ds vs
  | .dict kvs,v=>(∃ a o ks,v=.ref a/\H a=some (.frz o (.dK ks))/\ft H kvs ks)\/∃ a o C dx fs,v=.ref a/\H a=some (.frz o (.ins C dx fs))/\rc H C fs kvs
noncomputable def aY (H:Hp):List PyData->List V->Prop
  | [],vs=>vs=[]
  | d::ds,vs=>∃ v r,vs=v::r/\Rp H d v/\aY H ds r
noncomputable def ft (H:Hp):List (PyData×PyData)->List (cZ×V)->Prop
  | [],ks=>ks=[]
  | kd::kvs,ks=>∃ x v r,ks=(x,v)::r/\tz H kd x v/\ft H kvs r
noncomputable def tz (H:Hp):PyData×PyData->cZ->V->Prop
  | (k,d),x,v=>k=gz x/\Rp H d v
noncomputable def rc (H:Hp) (C:Addr) (fs:List (Str×V)):List (PyData×PyData)->Prop
  | []=>False
  | kd::kvs=>kd=(.none,.int C)/\rV H kvs fs
noncomputable def rV (H:Hp):List (PyData×PyData)->List (Str×V)->Prop
  | [],fs=>fs=[]
  | kd::kvs,fs=>∃ x v r,fs=(x,v)::r/\u4 H kd x v/\rV H kvs r
noncomputable def u4 (H:Hp):PyData×PyData->Str->V->Prop
  | (k,d),x,v=>k=.str x/\Rp H d v
end
noncomputable def lK:List (PyData×PyData)->Bool
  | (.none,_)::_=>true
  | _=>false
noncomputable def Kp (H H':Hp):Prop:=(∀ b xs,H b=some (.tup xs)->H' b=some (.tup xs))/\∀ b o u,H b=some (.frz o u)->H' b=some (.frz o u)
theorem Kp.trans {H H1 H2:Hp} (a:Kp H H1) (b:Kp H1 H2):Kp H H2:=⟨fun c xs h=>b.1 c xs (a.1 c xs h),fun c o u h=>b.2 c o u (a.2 c o u h)⟩
theorem Kp.of {H H':Hp} (s:ar H H'):Kp H H':=⟨fun b xs h=>s b _ h,fun b o u h=>s b _ h⟩
mutual
theorem Rp.kp {H H':Hp} (k:Kp H H'):∀ (d:PyData) (v:V),Rp H d v->Rp H' d v
  | .none,v,h=>by simpa only [Rp] using h
  | .bool b,v,h=>by simpa only [Rp] using h
  | .int i,v,h=>by simpa only [Rp] using h
  | .str x,v,h=>by simpa only [Rp] using h
  | .tuple ds,v,h=>by
    simp only [Rp] at h ⊢;obtain ⟨a,vs,e,ha,r⟩:=h;exact ⟨a,vs,e,k.1 _ _ ha,aY.kp k ds vs r⟩
  | .list ds,v,h=>by
    simp only [Rp] at h ⊢;obtain ⟨a,o,vs,e,ha,r⟩:=h;exact ⟨a,o,vs,e,k.2 _ _ _ ha,aY.kp k ds vs r⟩
  | .dict kvs,v,h=>by
    simp only [Rp] at h ⊢;rcases h with ⟨a,o,ks,e,ha,r⟩ | ⟨a,o,C,dx,fs,e,ha,r⟩
    · exact .inl ⟨a,o,ks,e,k.2 _ _ _ ha,ft.kp k kvs ks r⟩
    · exact .inr ⟨a,o,C,dx,fs,e,k.2 _ _ _ ha,rc.kp k C fs kvs r⟩
theorem aY.kp {H H':Hp} (k:Kp H H'):∀ (ds:List PyData) (vs:List V),aY H ds vs->aY H' ds vs
  | [],vs,h=>by simpa only [aY] using h
  | d::ds,vs,h=>by
    simp only [aY] at h ⊢;obtain ⟨v,r,e,h1,h2⟩:=h;exact ⟨v,r,e,Rp.kp k d v h1,aY.kp k ds r h2⟩
theorem ft.kp {H H':Hp} (k:Kp H H'):∀ (kvs:List (PyData×PyData)) (ks:List (cZ×V)),ft H kvs ks->ft H' kvs ks
  | [],ks,h=>by simpa only [ft] using h
  | kd::kvs,ks,h=>by
    simp only [ft] at h ⊢;obtain ⟨x,v,r,e,h1,h2⟩:=h;exact ⟨x,v,r,e,tz.kp k kd x v h1,ft.kp k kvs r h2⟩
theorem tz.kp {H H':Hp} (k:Kp H H'):∀ (kd:PyData×PyData) (x:cZ) (v:V),tz H kd x v->tz H' kd x v
  | (c,d),x,v,h=>by
    simp only [tz] at h ⊢;exact ⟨h.1,Rp.kp k d v h.2⟩
theorem rc.kp {H H':Hp} (k:Kp H H') (C:Addr) (fs:List (Str×V)):∀ (kvs:List (PyData×PyData)),rc H C fs kvs->rc H' C fs kvs
  | [],h=>by simpa only [rc] using h
  | kd::kvs,h=>by
    simp only [rc] at h ⊢;exact ⟨h.1,rV.kp k kvs fs h.2⟩
theorem rV.kp {H H':Hp} (k:Kp H H'):∀ (kvs:List (PyData×PyData)) (fs:List (Str×V)),rV H kvs fs->rV H' kvs fs
  | [],fs,h=>by simpa only [rV] using h
  | kd::kvs,fs,h=>by
    simp only [rV] at h ⊢;obtain ⟨x,v,r,e,h1,h2⟩:=h;exact ⟨x,v,r,e,u4.kp k kd x v h1,rV.kp k kvs r h2⟩
theorem u4.kp {H H':Hp} (k:Kp H H'):∀ (kd:PyData×PyData) (x:Str) (v:V),u4 H kd x v->u4 H' kd x v
  | (c,d),x,v,h=>by
    simp only [u4] at h ⊢;exact ⟨h.1,Rp.kp k d v h.2⟩
end
theorem Rp.mono {H H':Hp} {d:PyData} {v:V} (h:Rp H d v) (s:ar H H'):Rp H' d v:=Rp.kp (Kp.of s) d v h
theorem aY.mono {H H':Hp} {ds:List PyData} {vs:List V} (h:aY H ds vs) (s:ar H H'):aY H' ds vs:=aY.kp (Kp.of s) ds vs h
noncomputable def gC (H:Hp):PyData->V->Prop
  | .list ds,v=>∃ a vs,v=.ref a/\H a=some (.lst vs)/\aY H ds vs
  | .dict kvs,v=>∃ a ks,v=.ref a/\H a=some (.dK ks)/\ft H kvs ks
  | _,_=>False
theorem gC.mono {H H':Hp} {d:PyData} {v:V} (h:gC H d v) (s:ar H H'):gC H' d v:=by
  cases d <;> simp only [gC] at h ⊢
  · obtain ⟨a,vs,e,ha,r⟩:=h;exact ⟨a,vs,e,s _ _ ha,aY.mono r s⟩
  · obtain ⟨a,vs,e,ha,r⟩:=h;exact ⟨a,vs,e,s _ _ ha,ft.kp (Kp.of s) _ _ r⟩
noncomputable def eV (H:Hp) (d:PyData) (v:V):Prop:=Rp H d v\/gC H d v
theorem eV.mono {H H':Hp} {d:PyData} {v:V} (h:eV H d v) (s:ar H H'):eV H' d v:=h.elim (fun h=>.inl (h.mono s)) fun h=>.inr (h.mono s)
noncomputable def uY (H H':Hp) (d:PyData) (v:V):Prop:=gC H' d v/\∃ a,v=.ref a/\H a=none
inductive bX where
  | non
  | val (d:PyData)
  | own (d:PyData)
  | exc (p:Addr)
noncomputable abbrev aD:=List bX
noncomputable def fL (H:Hp):bX->Option V->Prop
  | .non,_=>True
  | .val d,o=>∃ v,o=some v/\Rp H d v
  | .own d,o=>∃ v,o=some v/\gC H d v
  | .exc p,o=>o=some (.ref p)
noncomputable def Sl (H:Hp) (σ:St) (ρ:aD):Prop:=σ.length=ρ.length/\∀ (i:Nat) (c:bX) (o:Option V),ρ[i]?=some c->σ[i]?=some o->fL H c o
theorem fL.mono {H H':Hp} {c:bX} {o:Option V} (h:fL H c o) (s:ar H H'):fL H' c o:=by
  cases c <;> simp only [fL] at h ⊢
  · obtain ⟨v,e,h⟩:=h;exact ⟨v,e,h.mono s⟩
  · obtain ⟨v,e,h⟩:=h;exact ⟨v,e,h.mono s⟩
  · exact h
theorem Sl.mono {H H':Hp} {σ:St} {ρ:aD} (h:Sl H σ ρ) (s:ar H H'):Sl H' σ ρ:=⟨h.1,fun i c o h1 h2=>(h.2 i c o h1 h2).mono s⟩
inductive R (α:Type) where
  | ok (a:α)
  | ex (c:Str)
  | no
noncomputable def R.bind {α β:Type}:R α->(α->R β)->R β
  | .ok a,f=>f a
  | .ex c,_=>.ex c
  | .no,_=>.no
noncomputable instance:Monad R where
  pure:=.ok
  bind:=R.bind
@[simp] theorem R.ok_bind {α β:Type} (a:α) (f:α->R β):(R.ok a>>=f)=f a:=(rfl)
@[simp] theorem R.no_bind {α β:Type} (f:α->R β):((R.no:R α)>>=f)=.no:=(rfl)
structure iL (P:Program) (w:World) (outer:List Env) (H:Hp) (s:Shared) (C:Addr) (H':Hp) (e:Value) (s':Shared):Prop where
  os:s'.os=s.os
  bare:AllBare s'.gens
  same:ar H H'
  ex:∃ (p:Addr) (a0:Value) (B:Heap),e=.ref p/\Heap.FlyingW B outer p (.ref C) a0 s'.heap/\eS P w H' B/\H' p=none/\∀ b o,s.heap.get? b=some o->H b=none->b∉gM outer->B.get? b=some o/\H' b=none
  slot:∀ b o,s.heap.get? b=some o->H b=none->b∈gM outer->(∃ sl,s'.heap.get? b=some { o with slots:=sl })/\H' b=none
structure kZ (P:Program) (w:World) (outer:List Env) (H:Hp) (s:Shared) (C:Addr) (H':Hp) (e:Value) (s':Shared):Prop where
  os:s'.os=s.os
  bare:AllBare s'.gens
  same:ar H H'
  ex:∃ (p:Addr) (a0:Value) (B:Heap),e=.ref p/\lZ B outer p (.ref C) a0 s'.heap/\eS P w H' B/\H' p=none/\∀ b o,s.heap.get? b=some o->H b=none->b∉gM outer->B.get? b=some o/\H' b=none
  slot:∀ b o,s.heap.get? b=some o->H b=none->b∈gM outer->(∃ sl,s'.heap.get? b=some { o with slots:=sl })/\H' b=none
theorem iL.hld {P:Program} {w:World} {outer:List Env} {H:Hp} {s:Shared} {C:Addr} {H':Hp} {e:Value} {s':Shared} (f:iL P w outer H s C H' e s'):kZ P w outer H s C H' e s' :=
  ⟨f.os,f.bare,f.same,let ⟨p,a0,B,h1,h2,h3⟩:=f.ex;⟨p,a0,B,h1,lZ.of h2,h3⟩,f.slot⟩
noncomputable def cM (P:Program) (w:World) (mg:Str->Option Value):pD:=fun outer H s E e s'=>∃ n C H',mg n=some (.ref C)/\iL P w outer H s C H' e s'/\E (.str n 0) none H'
noncomputable def EX (X:Cx):XK:=fun v _ H'=>∀ (n:Str) (C:Addr),v=.str n 0->X.mg n=some (.ref C)->∀ (pins:List (Addr×Obj)) (σ:St) (H:Hp) (s:Shared) (e:Value) (s':Shared),az X pins σ H s->iL X.prog X.w X.stack H s C H' e s'->X.xe e s'
theorem sg {X:Cx}:mH (cM X.prog X.w X.mg) X (EX X):=fun pins σ H s e s' I ⟨n,C,H',hm,f,q⟩=>q n C rfl hm pins σ H s e s' I f
noncomputable def Xw (X:Cx) (c:Str) (H:Hp):Prop:=∀ H1,ar H H1->∀ (C:Addr),X.mg c=some (.ref C)->∀ (pins:List (Addr×Obj)) (σ:St) (Hc:Hp) (s:Shared) (e:Value) (s':Shared),az X pins σ Hc s->kZ X.prog X.w X.stack Hc s C H1 e s'->X.xe e s'
theorem Xw.mono {X:Cx} {c:Str} {H H':Hp} (h:Xw X c H) (s:ar H H'):Xw X c H':=fun H1 s1=>h H1 (s.trans s1)
theorem Xw.ex {X:Cx} {c:Str} {H:Hp} (h:Xw X c H):∀ H1,ar H H1->EX X (.str c 0) none H1:=fun H1 s1 n C en hm pins σ Hc s e s' I f=>by
  have en':c=n:=by injection en
  subst en';exact h H1 s1 C hm pins σ Hc s e s' I f.hld
noncomputable def vb (X:Cx) (c:Str) (Fm:Hp):Prop:=∀ C,X.mg c=some (.ref C)->∀ (pins:List (Addr×Obj)) (σ:St) (H:Hp) (s:Shared),ar Fm H->az X pins σ H s->∀ (h':Heap) (p:Addr) (vs:List Value),Heap.MadeExcOf s.heap h' p (.ref C) vs->X.xe (.ref p) { s with heap:=h' }
theorem vb.mono {X:Cx} {c:Str} {H H':Hp} (h:vb X c H) (s:ar H H'):vb X c H':=fun C hm pins σ H1 s1 e=>h C hm pins σ H1 s1 (s.trans e)
noncomputable def o6 (X:Cx) (P:Hp->Hp->PyData->V->Prop) (r:R PyData) (H:Hp) (Q:VK):Prop :=
  match r with
  | .ok d=>∀ v H',ar H H'->P H H' d v->Q v H'
  | .ex c=>Xw X c H
  | .no=>False
noncomputable abbrev fJ:Hp->Hp->PyData->V->Prop:=fun _ H' d v=>Rp H' d v
noncomputable abbrev mx:Hp->Hp->PyData->V->Prop:=fun _ H' d v=>eV H' d v
noncomputable abbrev wt:Hp->Hp->PyData->V->Prop:=fun H H' d v=>Rp H' d v\/uY H H' d v
noncomputable abbrev Fe:=aD->R PyData
noncomputable def fU (X:Cx) (P:Hp->Hp->PyData->V->Prop) (f:Fe):TE:=fun σ H Q=>∃ ρ,Sl H σ ρ/\o6 X P (f ρ) H Q
noncomputable def cw (X:Cx) (e:Expr) (f:Fe):Prop:=PE X e (fU X fJ f)
structure Z.cw (X:Cx) (e:Expr) (f:Fe):Prop where
  un:D2.cw X e f
noncomputable def cX (X:Cx) (e:Expr) (f:Fe):Prop:=PE X e (fU X mx f)
structure Z.cX (X:Cx) (e:Expr) (f:Fe):Prop where
  un:D2.cX X e f
noncomputable def rR (X:Cx) (e:Expr) (f:Fe):Prop:=PE X e (fU X wt f)
structure Z.rR (X:Cx) (e:Expr) (f:Fe):Prop where
  un:D2.rR X e f
noncomputable def jO (X:Cx) (e:Expr) (f:Fe):Prop:=PE X e (fU X uY f)
structure Z.jO (X:Cx) (e:Expr) (f:Fe):Prop where
  un:D2.jO X e f
noncomputable def RA (I:Hp->PyData->V->Prop) (H:Hp):List PyData->List V->Prop
  | [],vs=>vs=[]
  | d::ds,vs=>∃ v r,vs=v::r/\I H d v/\RA I H ds r
theorem jh {H:Hp}:∀ {ds:List PyData} {vs:List V},RA Rp H ds vs<->aY H ds vs
  | [],vs=>by simp only [RA,aY]
  | d::ds,vs=>by simp only [RA,aY,jh (ds:=ds)]
noncomputable def qU (X:Cx) (I:Hp->PyData->V->Prop) (f:aD->R (List PyData)):TA:=fun σ H Q=>∃ ρ,Sl H σ ρ/\match f ρ with
  | .ok ds=>∀ vs H',ar H H'->RA I H' ds vs->Q vs H'
  | .ex c=>Xw X c H
  | .no=>False
noncomputable def mJ (X:Cx) (es:List Expr) (f:aD->R (List PyData)):Prop:=PA X es (qU X Rp f)
structure Z.mJ (X:Cx) (es:List Expr) (f:aD->R (List PyData)):Prop where
  un:D2.mJ X es f
noncomputable def tF (X:Cx) (es:List Expr) (f:aD->R (List PyData)):Prop:=PA X es (qU X eV f)
noncomputable def rL (X:Cx) (f:aD->R Bool):TT:=fun σ H Q=>∃ ρ,Sl H σ ρ/\match f ρ with
  | .ok b=>∀ H',ar H H'->Q b H'
  | .ex c=>Xw X c H
  | .no=>False
noncomputable def j4 (X:Cx) (e:Expr) (f:aD->R Bool):Prop:=PT X e (rL X f)
structure Z.j4 (X:Cx) (e:Expr) (f:aD->R Bool):Prop where
  un:D2.j4 X e f
noncomputable def pE (X:Cx) (e:Expr) (f:aD->R Bool):Prop:=PW X e (rL X f)
structure Z.pE (X:Cx) (e:Expr) (f:aD->R Bool):Prop where
  un:D2.pE X e f
theorem PE.imp {X:Cx} {e:Expr} {t t':TE} (h:PE X e t) (i:∀ σ H Q,t' σ H Q->t σ H Q):PE X e t':=fun pins s σ H Q I q=>h pins s σ H Q I (i σ H Q q)
theorem PT.imp {X:Cx} {e:Expr} {t t':TT} (h:PT X e t) (i:∀ σ H Q,t' σ H Q->t σ H Q):PT X e t':=fun pins s σ H Q I q=>h pins s σ H Q I (i σ H Q q)
theorem PW.imp {X:Cx} {e:Expr} {t t':TT} (h:PW X e t) (i:∀ σ H Q,t' σ H Q->t σ H Q):PW X e t':=fun wh pins s σ H Q I q=>h wh pins s σ H Q I (i σ H Q q)
theorem PA.imp {X:Cx} {e:List Expr} {t t':TA} (h:PA X e t) (i:∀ σ H Q,t' σ H Q->t σ H Q):PA X e t':=fun pos pins s σ H Q I q=>h pos pins s σ H Q I (i σ H Q q)
theorem fU.post {X:Cx} {P:Hp->Hp->PyData->V->Prop} {f:Fe} {σ:St} {H:Hp} {Q Q':VK} (h:fU X P f σ H Q) (i:∀ v H',Q v H'->Q' v H'):fU X P f σ H Q':=by
  obtain ⟨ρ,sl,q⟩:=h;refine ⟨ρ,sl,?_⟩;cases e:f ρ with
  | ok d=>rw [e] at q;exact fun v H' s p=>i _ _ (q v H' s p)
  | ex c=>rw [e] at q;exact q
  | no=>rw [e] at q;exact q
theorem rL.post {X:Cx} {f:aD->R Bool} {σ:St} {H:Hp} {Q Q':Bool->Hp->Prop} (h:rL X f σ H Q) (i:∀ b H',Q b H'->Q' b H'):rL X f σ H Q':=by
  obtain ⟨ρ,sl,q⟩:=h;refine ⟨ρ,sl,?_⟩;cases e:f ρ with
  | ok d=>rw [e] at q;exact fun H' s=>i _ _ (q H' s)
  | ex c=>rw [e] at q;exact q
  | no=>rw [e] at q;exact q
theorem qU.post {X:Cx} {I:Hp->PyData->V->Prop} {f:aD->R (List PyData)} {σ:St} {H:Hp} {Q Q':List V->Hp->Prop} (h:qU X I f σ H Q) (i:∀ vs H',Q vs H'->Q' vs H'):qU X I f σ H Q':=by
  obtain ⟨ρ,sl,q⟩:=h;refine ⟨ρ,sl,?_⟩;cases e:f ρ with
  | ok d=>rw [e] at q;exact fun vs H' s p=>i _ _ (q vs H' s p)
  | ex c=>rw [e] at q;exact q
  | no=>rw [e] at q;exact q
theorem fU.weaken {X:Cx} {P P':Hp->Hp->PyData->V->Prop} {f:Fe} (h:∀ H H' d v,P H H' d v->P' H H' d v) (σ:St) (H:Hp) (Q:VK) (q:fU X P' f σ H Q):fU X P f σ H Q:=by
  obtain ⟨ρ,sl,q⟩:=q;refine ⟨ρ,sl,?_⟩;cases e:f ρ with
  | ok d=>rw [e] at q;exact fun v H' s p=>q v H' s (h _ _ _ _ p)
  | ex c=>rw [e] at q;exact q
  | no=>rw [e] at q;exact q
section
variable {X:Cx} {e:Expr} {f:Fe}
theorem cw.b (h:cw X e f):cX X e f:=PE.imp h (fU.weaken fun _ _ _ _ p=>Or.inl p)
theorem aa (h:Z.cw X e f):Z.cX X e f :=
  ⟨D2.cw.b h.un⟩
theorem jO.b (h:jO X e f):cX X e f:=PE.imp h (fU.weaken fun _ _ _ _ p=>Or.inr p.1)
theorem cI (h:Z.jO X e f):Z.cX X e f :=
  ⟨D2.jO.b h.un⟩
theorem jO.toF (h:jO X e f):rR X e f:=PE.imp h (fU.weaken fun _ _ _ _ p=>Or.inr p)
end
section
variable {X:Cx} {pins:List (Addr×Obj)} {σ:St} {H:Hp} {s:Shared} {a:Addr} {u:HO}
theorem gH (I:az X pins σ H s) (h:H a=some u) (hm:(∃ xs,u=.lst xs)\/∃ ks,u=.dK ks):∃ o,az X pins σ (cU H a (.frz o u)) s:=by
  have ob:=I.hok a u h;have hg:∃ o,s.heap.get? a=some o:=by
    rcases hm with ⟨xs,rfl⟩ | ⟨ks,rfl⟩
    · obtain ⟨_,_,_,_,e⟩:=ob;exact ⟨_,e⟩
    · obtain ⟨_,_,_,_,o,_,_,e,_⟩:=ob;exact ⟨_,e⟩
  obtain ⟨o,hg⟩:=hg;have nt:∀ b xs,H b=some (.tup xs)->b≠a:=fun b xs q z=>by subst z;rw [h] at q;rcases hm with ⟨_,rfl⟩ | ⟨_,rfl⟩ <;> cases q
  have nf:∀ b o' u',H b=some (.frz o' u')->b≠a:=fun b o' u' q z=>by subst z;rw [h] at q;rcases hm with ⟨_,rfl⟩ | ⟨_,rfl⟩ <;> cases q
  have nb:∀ b ps,H b=some (.tbl ps)->b≠a:=fun b ps q z=>by subst z;rw [h] at q;rcases hm with ⟨_,rfl⟩ | ⟨_,rfl⟩ <;> cases q
  have nw:∀ b y,H b=some (.own y)->b≠a:=fun b y q z=>by subst z;rw [h] at q;rcases hm with ⟨_,rfl⟩ | ⟨_,rfl⟩ <;> cases q
  have nn:∀ b,H b=none->b≠a:=fun b q z=>by subst z;rw [h] at q;cases q
  have st:∀ b x,bP X.prog X.w H s.heap b x->bP X.prog X.w (cU H a (.frz o u)) s.heap b x:=fun b x q =>
    q.stay (fun c v _ e=>e) (fun c e=>by rw [aJ (nw _ _ e)];exact e) fun c xs e=>by rw [aJ (nt _ _ e)];exact e
  refine ⟨o,⟨I.ok,I.os,I.bare,⟨I.base.keep,I.base.slot,fun b ob' e n hx=>?_,I.base.there,fun b xs e=>?_,fun b ob' v e=>?_,fun b ps e=>?_⟩,I.loc,I.cell,?_,fun x c e=>?_,fun p hp=>?_,fun b x e=>?_,I.len⟩⟩
  · have:=I.base.free b ob' e n hx;rw [aJ (nn _ this)];exact this
  · have:=I.base.tups b xs e;rw [aJ (nt _ _ this)];exact this
  · have:=I.base.frzs b ob' v e;rw [aJ (nf _ _ _ this)];exact this
  · obtain ⟨m,q⟩:=I.base.tbls b ps e;exact ⟨m,by rw [aJ (nb _ _ q)];exact q⟩
  · rw [aJ (nn _ I.free)];exact I.free
  · rw [aJ (nn _ (I.freeC x c e))];exact I.freeC x c e
  · obtain ⟨p1,p2,p3⟩:=I.pin p hp;exact ⟨p1,by rw [aJ (nn _ p2)];exact p2,p3⟩
  · by_cases hb:b=a
    · subst hb;rw [cr] at e;cases e;exact ⟨hg,st b u ob⟩
    · rw [aJ hb] at e;exact st b x (I.hok b x e)
theorem gw {o':HO} (h:H a=some u) (hm:(∃ xs,u=.lst xs)\/∃ ks,u=.dK ks):Kp H (cU H a o'):=by
  refine ⟨fun b xs e=>?_,fun b o v e=>?_⟩
  · rw [aJ];exact e;rintro rfl;rw [h] at e;rcases hm with ⟨_,rfl⟩ | ⟨_,rfl⟩ <;> cases e
  · rw [aJ];exact e;rintro rfl;rw [h] at e;rcases hm with ⟨_,rfl⟩ | ⟨_,rfl⟩ <;> cases e
theorem uv {H0:Hp} {d:PyData} {v:V} (I:az X pins σ H s) (hs:ar H0 H) (n:uY H0 H d v):∃ H',az X pins σ H' s/\ar H0 H'/\Rp H' d v:=by
  obtain ⟨n,a,rfl,h0⟩:=n;have go:∀ u:HO,H a=some u->((∃ xs,u=.lst xs)\/∃ ks,u=.dK ks)->∃ o,az X pins σ (cU H a (.frz o u)) s/\ar H0 (cU H a (.frz o u))/\Kp H (cU H a (.frz o u)):=fun u hu hm=>by
    obtain ⟨o,J⟩:=gH I hu hm;refine ⟨o,J,fun b x e=>?_,gw hu hm⟩;rw [aJ (bE e h0)];exact hs b x e
  cases d <;> simp only [gC] at n
  · obtain ⟨a',vs,e,ha,r⟩:=n;cases e;obtain ⟨o,J,S,K⟩:=go _ ha (.inl ⟨_,rfl⟩);refine ⟨_,J,S,?_⟩;simp only [Rp];exact ⟨a,o,vs,rfl,cr,aY.kp K _ _ r⟩
  · obtain ⟨a',vs,e,ha,r⟩:=n;cases e;obtain ⟨o,J,S,K⟩:=go _ ha (.inr ⟨_,rfl⟩);refine ⟨_,J,S,?_⟩;simp only [Rp];exact .inl ⟨a,o,vs,rfl,cr,ft.kp K _ _ r⟩
end
theorem rR.e {X:Cx} {e:Expr} {f:Fe} (h:rR X e f):cw X e f:=by
  intro pins s σ H Q I q;obtain ⟨ρ,sl,q⟩:=q;cases ef:f ρ with
  | ok d =>
    rw [ef] at q;refine cG (h pins s σ H (fun v H'=>ar H H'/\wt H H' d v) I ⟨ρ,sl,by rw [ef];exact fun v H' hs p=>⟨hs,p⟩⟩) fun u s' ⟨v,H',I',r,hs,p⟩=>?_
    rcases p with p | p
    · exact ⟨v,H',I',r,q v H' hs p⟩
    · obtain ⟨H2,I2,S2,p2⟩:=uv I' hs p;exact ⟨v,H2,I2,r,q v H2 S2 p2⟩
  | ex c=>rw [ef] at q;exact cG (h pins s σ H (fun _ _=>False) I ⟨ρ,sl,by rw [ef];exact q⟩) fun u s' ⟨v,H',I',r,z⟩=>z.elim
  | no=>rw [ef] at q;exact q.elim
theorem wf {X:Cx} {e:Expr} {f:Fe} (h:Z.rR X e f):Z.cw X e f :=
  ⟨D2.rR.e h.un⟩
theorem jO.e {X:Cx} {e:Expr} {f:Fe} (h:jO X e f):cw X e f:=(jO.toF h).e
theorem iX {X:Cx} {e:Expr} {f:Fe} (h:Z.jO X e f):Z.cw X e f :=
  ⟨D2.jO.e h.un⟩
structure r0 {β:Type} (X:Cx) (T:R β->Hp->Prop):Prop where
  mono:∀ r H H',T r H->ar H H'->T r H'
  ex:∀ c H,T (.ex c) H->Xw X c H
  no:∀ H,¬ T .no H
noncomputable def Dn (P:Hp->Hp->PyData->V->Prop):Prop:=∀ H H1 H' d v,ar H H1->P H1 H' d v->P H H' d v
theorem dX:Dn fJ:=fun _ _ _ _ _ _ p=>p
theorem pN:Dn uY:=fun _ _ _ _ _ s p=>⟨p.1,let ⟨a,e,h⟩:=p.2;⟨a,e,s.free h⟩⟩
theorem rB:Dn wt:=fun _ _ _ _ _ s p=>p.elim .inl fun p=>.inr (pN _ _ _ _ _ s p)
section
variable {X:Cx} {σ:St} {H:Hp}
theorem c9 {P:Hp->Hp->PyData->V->Prop} (hP:Dn P) (Q:VK):r0 X (fun r H=>o6 X P r H Q) where
  mono:=fun r H H' h s=>by
    cases r with
    | ok d=>exact fun v H2 s2 p=>h v H2 (s.trans s2) (hP _ _ _ _ _ s p)
    | ex c=>exact Xw.mono h s
    | no=>exact h
  ex:=fun c H h=>h
  no:=fun H h=>h
theorem nT (Q:Bool->Hp->Prop):r0 X (fun (r:R Bool) H=>match r with | .ok b=>∀ H',ar H H'->Q b H' | .ex c=>Xw X c H | .no=>False) where
  mono:=fun r H H' h s=>by
    cases r with
    | ok d=>exact fun H2 s2=>h H2 (s.trans s2)
    | ex c=>exact Xw.mono h s
    | no=>exact h
  ex:=fun c H h=>h
  no:=fun H h=>h
theorem sW (I:Hp->PyData->V->Prop) (Q:List V->Hp->Prop):r0 X (fun (r:R (List PyData)) H=>match r with | .ok ds=>∀ vs H',ar H H'->RA I H' ds vs->Q vs H' | .ex c=>Xw X c H | .no=>False) where
  mono:=fun r H H' h s=>by
    cases r with
    | ok d=>exact fun vs H2 s2=>h vs H2 (s.trans s2)
    | ex c=>exact Xw.mono h s
    | no=>exact h
  ex:=fun c H h=>h
  no:=fun H h=>h
theorem cL {β:Type} {T:R β->Hp->Prop} (t:r0 X T) {P:Hp->Hp->PyData->V->Prop} {f:Fe} {k:aD->PyData->R β} (h:∃ ρ,Sl H σ ρ/\T (f ρ>>=k ρ) H) :
    fU X P f σ H (fun v H1=>∃ ρ d,Sl H1 σ ρ/\ar H H1/\P H H1 d v/\T (k ρ d) H1):=by
  obtain ⟨ρ,sl,q⟩:=h;refine ⟨ρ,sl,?_⟩;cases e:f ρ with
  | ok d=>rw [e] at q;exact fun v H1 s p=>⟨ρ,d,sl.mono s,s,p,t.mono _ _ _ q s⟩
  | ex c=>rw [e] at q;exact t.ex _ _ q
  | no=>rw [e] at q;exact (t.no _ q).elim
theorem lE {β:Type} {T:R β->Hp->Prop} (t:r0 X T) {f:aD->R Bool} {k:aD->Bool->R β} (h:∃ ρ,Sl H σ ρ/\T (f ρ>>=k ρ) H) :
    rL X f σ H (fun b H1=>∃ ρ,Sl H1 σ ρ/\ar H H1/\T (k ρ b) H1):=by
  obtain ⟨ρ,sl,q⟩:=h;refine ⟨ρ,sl,?_⟩;cases e:f ρ with
  | ok d=>rw [e] at q;exact fun H1 s=>⟨ρ,sl.mono s,s,t.mono _ _ _ q s⟩
  | ex c=>rw [e] at q;exact t.ex _ _ q
  | no=>rw [e] at q;exact (t.no _ q).elim
theorem lm {β:Type} {T:R β->Hp->Prop} (t:r0 X T) {I:Hp->PyData->V->Prop} {f:aD->R (List PyData)} {k:aD->List PyData->R β} (h:∃ ρ,Sl H σ ρ/\T (f ρ>>=k ρ) H) :
    qU X I f σ H (fun vs H1=>∃ ρ ds,Sl H1 σ ρ/\ar H H1/\RA I H1 ds vs/\T (k ρ ds) H1):=by
  obtain ⟨ρ,sl,q⟩:=h;refine ⟨ρ,sl,?_⟩;cases e:f ρ with
  | ok d=>rw [e] at q;exact fun vs H1 s p=>⟨ρ,d,sl.mono s,s,p,t.mono _ _ _ q s⟩
  | ex c=>rw [e] at q;exact t.ex _ _ q
  | no=>rw [e] at q;exact (t.no _ q).elim
end
noncomputable def ai (i:Nat):Fe:=fun ρ=>match ρ[i]? with
  | some (.val d)=>.ok d
  | _=>.no
noncomputable def gm (i:Nat):Fe:=fun ρ=>match ρ[i]? with
  | some (.val d)=>.ok d
  | some (.own d)=>.ok d
  | _=>.no
noncomputable def eC (d:PyData):Fe:=fun _=>.ok d
structure Tb (X:Cx) (nl:Nat) (G:List Str):Prop where
  hu:X.A.units+64 < cLine
  calm:X.calm=true
  nd:X.N.Nodup
  vis:∀ x∈X.N,vt X.env.scope x/\(x==("__debug__" : Str))=false/\(x==("__classdict__" : Str))=false
  loc:∀ x∈X.N.take nl,ur X.env.scope x/\(X.fn x=true\/X.env.scope.names.lookup x=some .local)
  gl:∀ x∈G,Gl X x/\(x==("__debug__" : Str))=false/\x≠("__name__" : Str)
section
variable {X:Cx} {nl:Nat} {G:List Str} {x:Str} {pos:Pos}
theorem Sl.at {H:Hp} {σ:St} {ρ:aD} {i:Nat} {c:bX} (h:Sl H σ ρ) (e:ρ[i]?=some c):∃ o,σ[i]?=some o/\fL H c o:=by
  have hi:i < σ.length:=by rw [h.1];exact (List.getElem?_eq_some_iff.mp e).1
  exact ⟨σ[i],List.getElem?_eq_getElem hi,h.2 i c _ e (List.getElem?_eq_getElem hi)⟩
theorem ad (T:Tb X nl G) (i:Nat) (hN:X.N[i]?=some x):Z.cw X (.Name x pos) (ai i):=⟨by
  have hm:=T.vis x (List.mem_of_getElem? hN);refine PE.imp (kN hN hm.1 hm.2.1 hm.2.2) fun σ H Q ⟨ρ,sl,q⟩=>?_
  unfold ai at q;split at q
  · rename_i d e;obtain ⟨o,h1,v,rfl,h2⟩:=sl.at e;exact ⟨v,h1,q v H (ar.refl H) h2⟩
  · exact q.elim⟩
theorem dW (T:Tb X nl G) (i:Nat) (hN:X.N[i]?=some x):Z.cX X (.Name x pos) (gm i):=⟨by
  have hm:=T.vis x (List.mem_of_getElem? hN);refine PE.imp (kN hN hm.1 hm.2.1 hm.2.2) fun σ H Q ⟨ρ,sl,q⟩=>?_
  unfold gm at q;split at q
  · rename_i d e;obtain ⟨o,h1,v,rfl,h2⟩:=sl.at e;exact ⟨v,h1,q v H (ar.refl H) (.inl h2)⟩
  · rename_i d e;obtain ⟨o,h1,v,rfl,h2⟩:=sl.at e;exact ⟨v,h1,q v H (ar.refl H) (.inr h2)⟩
  · exact q.elim⟩
theorem jo {e:Expr} {d:PyData} {v:V} (h:PE X e (tC v)) (r:∀ H,Rp H d v):cw X e (eC d) :=
  PE.imp h fun σ H Q ⟨ρ,sl,q⟩=>q v H (ar.refl H) (r H)
theorem af {i j}:Z.cw X (.Constant (.int i) j pos) (eC (.int i)):=⟨jo uZ fun H=>by simp only [Rp]⟩
theorem bd {b j}:Z.cw X (.Constant (.bool b) j pos) (eC (.bool b)):=⟨jo vL fun H=>by simp only [Rp]⟩
theorem ij {j}:Z.cw X (.Constant .none j pos) (eC .none):=⟨jo uV fun H=>by simp only [Rp]⟩
theorem jC {y j}:Z.cw X (.Constant (.str y) j pos) (eC (.str y)):=⟨jo uf fun H=>by simp only [Rp]⟩
theorem bR {i:Int} {t:Tok} (T:Tb X nl G) (j:Nat) (hG:G[j]?=some x) (hm:X.mg x=some (.int i t)):Z.cw X (.Name x pos) (eC (.int i)):=⟨by
  have g:=T.gl x (List.mem_of_getElem? hG);exact jo (om g.1 hm (v:=.int i) ⟨t,rfl⟩ g.2.1) fun H=>by simp only [Rp]⟩
end
section
variable {X:Cx} {a b c:Expr} {fa fb fc:Fe} {pos:Pos}
noncomputable def e2 (g:PyData->PyData->R PyData) (fa fb:Fe):Fe:=fun ρ=>fa ρ>>=fun x=>fb ρ>>=fun y=>g x y
noncomputable def e1 (g:PyData->R PyData) (fa:Fe):Fe:=fun ρ=>fa ρ>>=fun x=>g x
noncomputable def bA (X:Cx) (P:Hp->Hp->PyData->V->Prop) (r:R2) (g:PyData->PyData->R PyData):Prop :=
  ∀ H x y dx dy Q,eV H dx x->eV H dy y->o6 X P (g dx dy) H Q->r x y H Q
theorem wm {P:Hp->Hp->PyData->V->Prop} {r:R2} {g:PyData->PyData->R PyData} (hP:Dn P) (hg:bA X P r g) (σ:St) (H:Hp) (Q:VK) (h:fU X P (e2 g fa fb) σ H Q) :
    vW r (fU X mx fa) (fU X mx fb) σ H Q :=
  (cL (P:=mx) (c9 (X:=X) hP Q) h).post fun v H1 ⟨ρ1,d1,sl1,_,p1,q1⟩ =>
    (cL (P:=mx) (f:=fb) (k:=fun _ y=>g d1 y) (c9 (X:=X) hP Q) ⟨ρ1,sl1,q1⟩).post fun u H2 ⟨_,d2,_,s2,p2,q2⟩=>hg H2 v u d1 d2 Q (eV.mono p1 s2) p2 q2
theorem jz {op:Operator} {P:Hp->Hp->PyData->V->Prop} {r:R2} {g:PyData->PyData->R PyData} (hP:Dn P) (ho:fH X (binaryOp op) r) (hg:bA X P r g) (ha:cX X a fa) (hb:cX X b fb) :
    PE X (.BinOp a op b pos) (fU X P (e2 g fa fb)):=PE.imp (sZ ho ha hb) (wm hP hg)
theorem uC {op:CmpOp} {r:R2} {g:PyData->PyData->R PyData} (ho:fH X (compareOp op) r) (hg:bA X fJ r g) (ha:cX X a fa) (hb:cX X b fb) (hm:behindInMarks op b=false) :
    cw X (.Compare a [op] [b] pos) (e2 g fa fb):=PE.imp (sj ho ha hb hm) (wm dX hg)
end
noncomputable def ni:PyData->R Bool
  | .bool b=>.ok b
  | _=>.no
noncomputable def tE (f:Fe):aD->R Bool:=fun ρ=>f ρ>>=ni
theorem lc {X:Cx} {f:Fe} {σ:St} {H:Hp} {Q:Bool->Hp->Prop} (h:rL X (tE f) σ H Q):fU X fJ f σ H (fun x H'=>∃ k,x=.bl k/\Q k H') :=
  (cL (P:=fJ) (f:=f) (k:=fun _=>ni) (nT (X:=X) Q) h).post fun v H1 ⟨ρ1,d1,_,_,p1,q1⟩=>by
    cases d1 with
    | bool b =>
      have p2:v=.bl b:=by simpa only [Rp] using p1
      exact ⟨b,p2,q1 H1 (ar.refl _)⟩
    | _=>exact q1.elim
section
variable {X:Cx} {a b c:Expr} {fa fb fc:Fe} {pos:Pos}
theorem ic {op:CmpOp} {r:R2} {g:PyData->PyData->R PyData} (ho:fH X (compareOp op) r) (hg:bA X fJ r g) (ha:cX X a fa) (hb:cX X b fb) (hm:behindInMarks op b=false) :
    j4 X (.Compare a [op] [b] pos) (tE (e2 g fa fb)) :=
  PT.imp (rh ho ha hb hm) fun σ H Q h=>wm dX hg σ H _ (lc h)
theorem aW {e:Expr} {f:Fe} (h:Z.cw X e f) (he:∀ whole,isTrue e X.env whole=(do let v <- whole;standAt e.pos;holding [v] (truthy v)):=by intro _;rfl):Z.j4 X e (tE f):=⟨have h:=h.un;PT.imp (t6 h he) fun σ H Q h=>lc h⟩
noncomputable def iC (f g:aD->R Bool):aD->R Bool:=fun ρ=>f ρ>>=fun b=>if b=true then g ρ else .ok false
noncomputable def hJ (f g:aD->R Bool):aD->R Bool:=fun ρ=>f ρ>>=fun b=>if b=true then .ok true else g ρ
noncomputable def cn (f:aD->R Bool):aD->R Bool:=fun ρ=>f ρ>>=fun b=>.ok (!b)
variable {ga gb:aD->R Bool} {cP:List Expr}
theorem gA (ha:Z.j4 X a ga):Z.pE X (.BoolOp .And [a] pos) ga:=⟨have ha:=ha.un;pw_and1 ha⟩
theorem dJ (ha:Z.j4 X a ga):Z.pE X (.BoolOp .Or [a] pos) ga:=⟨have ha:=ha.un;pw_or1 ha⟩
theorem dL (ha:Z.j4 X a ga) (hb:Z.pE X (.BoolOp .And (b::cP) pos) gb):Z.pE X (.BoolOp .And (a::b::cP) pos) (iC ga gb):=⟨have ha:=ha.un;have hb:=hb.un;PW.imp (pw_and ha hb) fun σ H Q h=>(lE (f:=ga) (k:=fun ρ b=>if b=true then gb ρ else .ok false) (nT (X:=X) Q) h).post fun d H1 ⟨ρ1,sl1,_,q1⟩=>by
    cases d with
    | true=>exact ⟨ρ1,sl1,q1⟩
    | false=>exact q1 H1 (ar.refl _)⟩
theorem dq (ha:Z.j4 X a ga) (hb:Z.pE X (.BoolOp .Or (b::cP) pos) gb):Z.pE X (.BoolOp .Or (a::b::cP) pos) (hJ ga gb):=⟨have ha:=ha.un;have hb:=hb.un;PW.imp (pw_or ha hb) fun σ H Q h=>(lE (f:=ga) (k:=fun ρ b=>if b=true then .ok true else gb ρ) (nT (X:=X) Q) h).post fun d H1 ⟨ρ1,sl1,_,q1⟩=>by
    cases d with
    | false=>exact ⟨ρ1,sl1,q1⟩
    | true=>exact q1 H1 (ar.refl _)⟩
theorem pE.t {e:Expr} (h:pE X e ga):j4 X e ga:=PW.pt h
theorem dG {e:Expr} (h:Z.pE X e ga):Z.j4 X e ga :=
  ⟨D2.pE.t h.un⟩
theorem bp (ha:Z.j4 X a ga):Z.j4 X (.UnaryOp .Not a pos) (cn ga):=⟨have ha:=ha.un;PT.imp (uP ha) fun σ H Q h=>(lE (f:=ga) (k:=fun _ b=>.ok (!b)) (nT (X:=X) Q) h).post fun d H1 ⟨ρ1,sl1,_,q1⟩=>q1 H1 (ar.refl _)⟩
noncomputable def jP (f g:Fe):Fe:=fun ρ=>f ρ>>=fun d=>ni d>>=fun b=>if b=true then g ρ else .ok (.bool false)
noncomputable def sR (f:Fe):Fe:=fun ρ=>f ρ>>=fun d=>ni d>>=fun b=>.ok (.bool (!b))
theorem oa {k:aD->Bool->R PyData} {f:Fe} {σ:St} {H:Hp} {Q:VK} (h:fU X fJ (fun ρ=>f ρ>>=fun d=>ni d>>=fun b=>k ρ b) σ H Q) :
    fU X fJ f σ H (fun x H'=>∃ c,x=.bl c/\fU X fJ (fun ρ=>k ρ c) σ H' Q) :=
  (cL (P:=fJ) (f:=f) (k:=fun ρ d=>ni d>>=fun b=>k ρ b) (c9 (X:=X) dX Q) h).post fun v H1 ⟨ρ1,d1,sl1,_,p1,q1⟩=>by
    cases d1 with
    | bool b =>
      have p2:v=.bl b:=by simpa only [Rp] using p1
      exact ⟨b,p2,ρ1,sl1,q1⟩
    | _=>exact q1.elim
theorem dP {op} (h:Z.cw X a fa):Z.cw X (.BoolOp op [a] pos) fa:=⟨have h:=h.un;uy h⟩
theorem dn (ha:Z.cw X a fa) (hb:Z.cw X (.BoolOp .And (b::cP) pos) fb):Z.cw X (.BoolOp .And (a::b::cP) pos) (jP fa fb):=⟨have ha:=ha.un;have hb:=hb.un;PE.imp (uG ha hb) fun σ H Q h=>(oa (k:=fun ρ b=>if b=true then fb ρ else .ok (.bool false)) h).post fun v H1 ⟨c,e1,q1⟩=>by
    refine ⟨c,e1,?_⟩;cases c with
    | true=>exact q1
    | false =>
      obtain ⟨_,_,q2⟩:=q1;exact q2 _ H1 (ar.refl _) (by simp only [Rp])⟩
theorem lM (ha:Z.cw X a fa):Z.cw X (.UnaryOp .Not a pos) (sR fa):=⟨have ha:=ha.un;PE.imp (u0 ha) fun σ H Q h=>(oa (k:=fun ρ b=>.ok (.bool (!b))) h).post fun v H1 ⟨c,e1,_,_,q2⟩=>⟨c,e1,q2 _ H1 (ar.refl _) (by simp only [Rp])⟩⟩
noncomputable def wq (t:aD->R Bool) (f g:Fe):Fe:=fun ρ=>t ρ>>=fun b=>if b=true then f ρ else g ρ
theorem mM {e:Expr} (hc:Z.j4 X e ga) (ha:Z.cw X a fa) (hb:Z.cw X b fb):Z.cw X (.IfExp e a b pos) (wq ga fa fb):=⟨have hc:=hc.un;have ha:=ha.un;have hb:=hb.un;PE.imp (qW hc ha hb) fun σ H Q h=>(lE (f:=ga) (k:=fun ρ b=>if b=true then fa ρ else fb ρ) (c9 (X:=X) dX Q) h).post fun d H1 ⟨ρ1,sl1,_,q1⟩=>by
    cases d with
    | true=>exact ⟨ρ1,sl1,q1⟩
    | false=>exact ⟨ρ1,sl1,q1⟩⟩
end
noncomputable def aN:Expr->Bool
  | .Starred ..=>false
  | _=>true
theorem bz {e:Expr} {es:List Expr} {env:Env} (h:aN e=true):starEach (e::es) env=(false,eval e env)::starEach es env:=by
  cases e <;> first | rfl | (cases h)
theorem jH {es:List Expr} {env:Env} {pos:Pos} (h:es.all aN=true):(backTo pos (starEach es env)).any (·.1)=false:=by
  induction es with
  | nil=>rfl
  | cons e es ih =>
    rw [List.all_cons,Bool.and_eq_true] at h;rw [bz h.1];have:=ih h.2;simpa [backTo] using this
noncomputable def aq:aD->R (List PyData):=fun _=>.ok []
noncomputable def ag (f:Fe) (g:aD->R (List PyData)):aD->R (List PyData):=fun ρ=>f ρ>>=fun d=>g ρ>>=fun ds=>.ok (d::ds)
section
variable {X:Cx} {e:Expr} {es:List Expr} {f:Fe} {g:aD->R (List PyData)}
theorem nW {I:Hp->PyData->V->Prop}:PA X [] (qU X I aq):=PA.imp nE fun σ H Q ⟨ρ,sl,q⟩=>q [] H (ar.refl _) (by simp only [RA])
theorem lz:mJ X [] aq:=nW
theorem aj  : Z.mJ X [] aq :=
  ⟨D2.lz⟩
theorem mz:tF X [] aq:=nW
theorem me {I:Hp->PyData->V->Prop} (hI:∀ H H' d v,I H d v->ar H H'->I H' d v) (ha:PE X e (fU X (fun _ H' d v=>I H' d v) f)) (hr:PA X es (qU X I g))
    (hs:starEach (e::es) X.env=(false,eval e X.env)::starEach es X.env:=by rfl):PA X (e::es) (qU X I (ag f g)) :=
  PA.imp (gP ha hr hs) fun σ H Q h =>
    (cL (P:=fun _ H' d v=>I H' d v) (f:=f) (k:=fun ρ d=>g ρ>>=fun ds=>.ok (d::ds)) (sW (X:=X) I Q) h).post fun v H1 ⟨ρ1,d1,sl1,_,p1,q1⟩ =>
      (lm (I:=I) (f:=g) (k:=fun _ ds=>.ok (d1::ds)) (sW (X:=X) I Q) ⟨ρ1,sl1,q1⟩).post fun vs H2 ⟨_,ds1,_,s2,p3,q3⟩ =>
        q3 (v::vs) H2 (ar.refl _) (by simp only [RA];exact ⟨v,vs,rfl,hI _ _ _ _ p1 s2,p3⟩)
theorem iZ (ha:cw X e f) (hr:mJ X es g) (hs:aN e=true:=by rfl):mJ X (e::es) (ag f g):=me (fun _ _ _ _ h s=>h.mono s) ha hr (bz hs)
theorem ae (ha:Z.cw X e f) (hr:Z.mJ X es g) (hs:aN e=true:=by rfl):Z.mJ X (e::es) (ag f g) :=
  ⟨D2.iZ ha.un hr.un hs⟩
theorem i6 (ha:cX X e f) (hr:tF X es g) (hs:aN e=true:=by rfl):tF X (e::es) (ag f g):=me (fun _ _ _ _ h s=>h.mono s) ha hr (bz hs)
end
section
variable {K:PySem.W.Frag} {H:Hp} {x:V}
theorem qT (h:eV H .none x):x=.non:=by
  rcases h with h | h
  · simpa only [Rp] using h
  · simp only [gC] at h
theorem qp {b:Bool} (h:eV H (.bool b) x):x=.bl b:=by
  rcases h with h | h
  · simpa only [Rp] using h
  · simp only [gC] at h
theorem bh {i:Int} (h:eV H (.int i) x):x=.int i:=by
  rcases h with h | h
  · simpa only [Rp] using h
  · simp only [gC] at h
theorem fg {y:Str} (h:eV H (.str y) x):x=.str y:=by
  rcases h with h | h
  · simpa only [Rp] using h
  · simp only [gC] at h
theorem cs {ds:List PyData} (h:eV H (.tuple ds) x):∃ a vs,x=.ref a/\H a=some (.tup vs)/\aY H ds vs:=by
  rcases h with h | h
  · simpa only [Rp] using h
  · simp only [gC] at h
theorem eN {ds:List PyData} (h:eV H (.list ds) x):∃ a vs,x=.ref a/\ke K H a vs/\aY H ds vs:=by
  rcases h with h | h
  · simp only [Rp] at h;obtain ⟨a,o,vs,e,ha,r⟩:=h;exact ⟨a,vs,e,.inl (.inr ⟨o,ha⟩),r⟩
  · simp only [gC] at h;obtain ⟨a,vs,e,ha,r⟩:=h;exact ⟨a,vs,e,.inl (.inl ha),r⟩
theorem rM {C:Addr} {fs:List (Str×V)} {kvs:List (PyData×PyData)} (h:rc H C fs kvs):lK kvs=true:=by
  cases kvs with
  | nil=>simp only [rc] at h
  | cons kd kvs=>simp only [rc] at h;rw [h.1];rfl
theorem jl {kvs:List (PyData×PyData)} (hi:lK kvs=false) (h:eV H (.dict kvs) x):∃ a ks,x=.ref a/\Rd H a (.dK ks)/\ft H kvs ks:=by
  rcases h with h | h
  · simp only [Rp] at h;rcases h with ⟨a,o,vs,e,ha,r⟩ | ⟨a,o,C,dx,fs,e,ha,r⟩
    · exact ⟨a,vs,e,.inr ⟨o,ha⟩,r⟩
    · rw [rM r] at hi;cases hi
  · simp only [gC] at h;obtain ⟨a,vs,e,ha,r⟩:=h;exact ⟨a,vs,e,.inl ha,r⟩
end
theorem aY.nil {H:Hp}:aY H [] []:=by simp only [aY]
theorem aY.cons {H:Hp} {d:PyData} {ds:List PyData} {v:V} {vs:List V} (h:Rp H d v) (t:aY H ds vs):aY H (d::ds) (v::vs):=by simp only [aY];exact ⟨v,vs,rfl,h,t⟩
theorem aY.nil_inv {H:Hp} {vs:List V} (h:aY H [] vs):vs=[]:=by simpa only [aY] using h
theorem aY.cons_inv {H:Hp} {d:PyData} {ds:List PyData} {vs:List V} (h:aY H (d::ds) vs):∃ v r,vs=v::r/\Rp H d v/\aY H ds r:=by simpa only [aY] using h
theorem aY.length {H:Hp}:∀ {ds:List PyData} {vs:List V},aY H ds vs->vs.length=ds.length
  | [],vs,h=>by rw [h.nil_inv];rfl
  | d::ds,vs,h=>by
    obtain ⟨v,r,rfl,_,t⟩:=h.cons_inv;rw [List.length_cons,List.length_cons,aY.length t]
theorem aY.get {H:Hp}:∀ {ds:List PyData} {vs:List V} {i:Nat} {d:PyData},aY H ds vs->ds[i]?=some d->∃ v,vs[i]?=some v/\Rp H d v
  | [],vs,i,d,h,e=>by simp at e
  | d0::ds,vs,0,d,h,e=>by
    obtain ⟨v,r,rfl,p,_⟩:=h.cons_inv;simp at e;subst e;exact ⟨v,rfl,p⟩
  | d0::ds,vs,i+1,d,h,e=>by
    obtain ⟨v,r,rfl,_,t⟩:=h.cons_inv;obtain ⟨u,e1,p⟩:=aY.get (i:=i) t (by simpa using e);exact ⟨u,by simpa using e1,p⟩
theorem aY.append {H:Hp}:∀ {ds es:List PyData} {vs us:List V},aY H ds vs->aY H es us->aY H (ds++es) (vs++us)
  | [],es,vs,us,h,g=>by rw [h.nil_inv];exact g
  | d::ds,es,vs,us,h,g=>by
    obtain ⟨v,r,rfl,p,t⟩:=h.cons_inv;exact aY.cons p (aY.append t g)
theorem aY.take {H:Hp}:∀ {ds:List PyData} {vs:List V} (n:Nat),aY H ds vs->aY H (ds.take n) (vs.take n)
  | ds,vs,0,h=>by simp only [List.take_zero];exact aY.nil
  | [],vs,n+1,h=>by rw [h.nil_inv];exact aY.nil
  | d::ds,vs,n+1,h=>by
    obtain ⟨v,r,rfl,p,t⟩:=h.cons_inv;exact aY.cons p (aY.take n t)
theorem aY.drop {H:Hp}:∀ {ds:List PyData} {vs:List V} (n:Nat),aY H ds vs->aY H (ds.drop n) (vs.drop n)
  | ds,vs,0,h=>h
  | [],vs,n+1,h=>by rw [h.nil_inv];exact aY.nil
  | d::ds,vs,n+1,h=>by
    obtain ⟨v,r,rfl,p,t⟩:=h.cons_inv;exact aY.drop n t
theorem aY.reverse {H:Hp}:∀ {ds:List PyData} {vs:List V},aY H ds vs->aY H ds.reverse vs.reverse
  | [],vs,h=>by rw [h.nil_inv];exact aY.nil
  | d::ds,vs,h=>by
    obtain ⟨v,r,rfl,p,t⟩:=h.cons_inv;rw [List.reverse_cons,List.reverse_cons];exact aY.append (aY.reverse t) (aY.cons p aY.nil)
theorem aY.rep {H:Hp} {ds:List PyData} {vs:List V} (h:aY H ds vs):∀ k:Nat,aY H (List.replicate k ds).flatten (List.replicate k vs).flatten
  | 0=>aY.nil
  | k+1=>by rw [List.replicate_succ,List.replicate_succ,List.flatten_cons,List.flatten_cons];exact aY.append h (aY.rep h k)
theorem aY.ints {H:Hp}:∀ ns:List Int,aY H (ns.map PyData.int) (ns.map V.int)
  | []=>aY.nil
  | n::ns=>aY.cons (by simp only [Rp]) (aY.ints ns)
theorem bT {H:Hp} {p:Addr} (h:H p=none) (o:HO):ar H (cU H p o):=fun b u q=>by rw [aJ (bE q h)];exact q
theorem cS {H:Hp} {p:Addr} {ds:List PyData} {vs:List V} (h:H p=none) (r:aY H ds vs):Rp (cU H p (.tup vs)) (.tuple ds) (.ref p):=by
  simp only [Rp];exact ⟨p,vs,rfl,cr,r.mono (bT h _)⟩
theorem cW {H:Hp} {p:Addr} {ds:List PyData} {vs:List V} (h:H p=none) (r:aY H ds vs):uY H (cU H p (.lst vs)) (.list ds) (.ref p):=by
  refine ⟨?_,p,rfl,h⟩;simp only [gC];exact ⟨p,vs,rfl,cr,r.mono (bT h _)⟩
section
variable {P:Program} {w:World} {H:Hp} {h:Heap}
mutual
theorem lP (ok:eS P w H h):∀ (d:PyData) (v:V) (u:Value),d.canLay0=true->Rp H d v->bC v u->∃ as,Reads h u d as
  | .none,v,u,_,r,e=>by simp only [Rp] at r;subst r;cases e;exact ⟨_,.none⟩
  | .bool b,v,u,_,r,e=>by simp only [Rp] at r;subst r;cases e;exact ⟨_,.bool b⟩
  | .int i,v,u,_,r,e=>by simp only [Rp] at r;subst r;obtain ⟨t,rfl⟩:=e;exact ⟨_,.int i t⟩
  | .str x,v,u,_,r,e=>by simp only [Rp] at r;subst r;obtain ⟨t,rfl⟩:=e;exact ⟨_,.str x t⟩
  | .tuple ds,v,u,c,r,e=>by
    simp only [Rp] at r;obtain ⟨a,vs,rfl,ha,r⟩:=r;cases e;obtain ⟨_,its,rv,o,h1,h2,n,h3⟩:=(show bP P w H h a (.tup vs) from ok a _ ha)
    obtain ⟨as,q⟩:=ej ok ds vs its (by simpa only [PyData.canLay0] using c) r rv;exact ⟨as,.tuple h1 h2 h3 (by simpa using q)⟩
  | .list ds,v,u,c,r,e=>by
    simp only [Rp] at r;obtain ⟨a,ob,vs,rfl,ha,r⟩:=r;cases e;obtain ⟨_,_,its,n,rv,h1⟩:=(show bP P w H h a (.frz ob (.lst vs)) from ok a _ ha)
    obtain ⟨as,q⟩:=ej ok ds vs its (by simpa only [PyData.canLay0] using c) r rv;exact ⟨a::as,.list h1 rfl rfl (by simpa using q)⟩
  | .dict kvs,v,u,c,r,e=>by simp [PyData.canLay0] at c
theorem ej (ok:eS P w H h):∀ (ds:List PyData) (vs:List V) (us:List Value),PyData.canLayAll0 ds=true->aY H ds vs->aV vs us->∃ as,ReadsAll h us ds as
  | [],vs,us,_,r,e=>by rw [r.nil_inv] at e;cases e;exact ⟨_,.nil⟩
  | d::ds,vs,us,c,r,e=>by
    obtain ⟨v,r',rfl,p,t⟩:=r.cons_inv;have c':d.canLay0=true/\PyData.canLayAll0 ds=true:=by simpa [PyData.canLayAll0] using c
    cases e with
    | cons e1 e2 =>
      obtain ⟨as,q1⟩:=lP ok d v _ c'.1 p e1;obtain ⟨bs,q2⟩:=ej ok ds r' _ c'.2 t e2;exact ⟨as++bs,.cons q1 q2⟩
end
theorem dh (ok:eS P w H h) {d:PyData} {v:V} {u:Value} (c:d.canLay0=true) (r:eV H d v) (e:bC v u):∃ as,Reads h u d as:=by
  rcases r with r | r
  · exact lP ok d v u c r e
  · cases d <;> simp only [gC] at r
    · rename_i ds;obtain ⟨a,vs,rfl,ha,r⟩:=r;cases e;obtain ⟨_,its,n,rv,h1⟩:=(show bP P w H h a (.lst vs) from ok a _ ha)
      obtain ⟨as,q⟩:=ej ok ds vs its (by simpa only [PyData.canLay0] using c) r rv;exact ⟨a::as,.list h1 rfl rfl (by simpa using q)⟩
    · simp [PyData.canLay0] at c
end
noncomputable def jm:PyData->Option cZ
  | .int i=>some (.inl i)
  | .str y=>some (.inr y)
  | _=>none
noncomputable def h8:PyData->PyData->Bool
  | .int i,.int j=>decide (i=j)
  | .str i,.str j=>decide (i=j)
  | _,_=>false
noncomputable def ww (kvs:List (PyData×PyData)) (k v:PyData):List (PyData×PyData) :=
  if (kvs.any fun kv=>h8 kv.1 k)=true then kvs.map (fun kv=>if h8 kv.1 k=true then (kv.1,v) else kv) else kvs++[(k,v)]
theorem ir (κ κ':cZ):h8 (gz κ) (gz κ')=decide (κ=κ'):=by
  cases κ with
  | inl i =>
    cases κ' with
    | inl j=>simp [gz,h8]
    | inr j=>simp [gz,h8]
  | inr i =>
    cases κ' with
    | inl j=>simp [gz,h8]
    | inr j=>simp [gz,h8]
theorem ft.cons {H:Hp} {k d:PyData} {kvs:List (PyData×PyData)} {κ:cZ} {v:V} {ks:List (cZ×V)} (e:k=gz κ) (h:Rp H d v) (t:ft H kvs ks):ft H ((k,d)::kvs) ((κ,v)::ks):=by
  simp only [ft,tz];exact ⟨κ,v,ks,rfl,⟨e,h⟩,t⟩
theorem ft.cons_inv {H:Hp} {k d:PyData} {kvs:List (PyData×PyData)} {ks:List (cZ×V)} (h:ft H ((k,d)::kvs) ks):∃ κ v r,ks=(κ,v)::r/\k=gz κ/\Rp H d v/\ft H kvs r:=by
  simp only [ft,tz] at h;obtain ⟨κ,v,r,e,⟨e1,p⟩,t⟩:=h;exact ⟨κ,v,r,e,e1,p,t⟩
theorem ft.nil_inv {H:Hp} {ks:List (cZ×V)} (h:ft H [] ks):ks=[]:=by simpa only [ft] using h
theorem ft.any {H:Hp} (κ:cZ):∀ {kvs:List (PyData×PyData)} {ks:List (cZ×V)},ft H kvs ks->(kvs.any fun kv=>h8 kv.1 (gz κ))=ks.any fun kv=>decide (kv.1=κ)
  | [],ks,h=>by rw [h.nil_inv];rfl
  | (k,d)::kvs,ks,h=>by
    obtain ⟨κ',v,r,rfl,rfl,p,t⟩:=h.cons_inv;rw [List.any_cons,List.any_cons,ft.any κ t,ir]
noncomputable def iQ (kvs:List (PyData×PyData)) (k:PyData):Option PyData:=(kvs.find? fun kv=>h8 kv.1 k).map (·.2)
theorem ft.look {H:Hp} (κ:cZ):∀ {kvs:List (PyData×PyData)} {ks:List (cZ×V)},ft H kvs ks->(iQ kvs (gz κ)=none/\gE ks κ=none)\/∃ d v,iQ kvs (gz κ)=some d/\gE ks κ=some v/\Rp H d v
  | [],ks,h=>.inl (by rw [h.nil_inv];exact ⟨rfl,rfl⟩)
  | (k,d)::kvs,ks,h=>by
    obtain ⟨κ',v,r,rfl,rfl,p,t⟩:=h.cons_inv;unfold iQ gE;by_cases e:κ'=κ
    · rw [List.find?_cons_of_pos (by rw [ir];exact decide_eq_true e),List.find?_cons_of_pos (by exact decide_eq_true e)];exact .inr ⟨d,v,rfl,rfl,p⟩
    · rw [List.find?_cons_of_neg (by rw [ir,decide_eq_false e];exact Bool.false_ne_true),List.find?_cons_of_neg (by rw [decide_eq_false e];exact Bool.false_ne_true)];exact ft.look κ t
theorem lL {d:PyData} {κ:cZ} (h:jm d=some κ):d=gz κ:=by
  cases d <;> simp only [jm] at h <;> cases h <;> rfl
theorem nN {H:Hp} {d:PyData} {x:V} {κ:cZ} (h:eV H d x) (e:jm d=some κ):x=kV κ:=by
  cases d <;> simp only [jm] at e <;> cases e
  · exact bh h
  · exact fg h
theorem nK {H:Hp} {a:Addr} {kvs:List (PyData×PyData)} {ks:List (cZ×V)} {κ:cZ} (h:Rd H a (.dK ks)) (r:ft H kvs ks):∃ o,kb H a (kV κ) o/\o.isSome=(iQ kvs (gz κ)).isSome/\∀ d,iQ kvs (gz κ)=some d->∃ v,o=some v/\Rp H d v:=by
  refine ⟨gE ks κ,.inl ⟨ks,κ,h,rfl,rfl⟩,?_⟩;rcases r.look κ with ⟨e1,e2⟩ | ⟨d,v,e1,e2,p⟩
  · rw [e1,e2];exact ⟨rfl,fun d z=>by cases z⟩
  · rw [e1,e2];exact ⟨rfl,fun d z=>by cases z;exact ⟨v,rfl,p⟩⟩
noncomputable def gS:PyData->PyData->R PyData
  | .int i,.int j=>.ok (.int (i-j))
  | _,_=>.no
noncomputable def cj:PyData->PyData->R PyData
  | .int i,.int j=>if 0 < j then .ok (.int (i%j)) else .no
  | _,_=>.no
noncomputable def iu:PyData->PyData->R PyData
  | .int i,.int j=>if 0 < j/\j < 1073741824 then .ok (.int (i / j)) else .no
  | _,_=>.no
noncomputable def fI (p:Int->Int->Bool):PyData->PyData->R PyData
  | .int i,.int j=>.ok (.bool (p i j))
  | _,_=>.no
noncomputable def ig (x y:PyData):Bool:=x.canLay0&&y.canLay0&&decide (min x.depth y.depth<=60)
noncomputable def kF (x y:PyData):R PyData:=if ig x y=true then .ok (.bool (PyData.eqv x y)) else .no
noncomputable def kB (x y:PyData):R PyData:=if ig x y=true then .ok (.bool (!PyData.eqv x y)) else .no
noncomputable def kU (xs:List PyData) (d:PyData):Bool:=PyData.canLayAll0 xs&&d.canLay0&&decide (min (PyData.depthAll xs) d.depth<=60)
noncomputable def re (neg:Bool) (d:PyData):PyData->R PyData
  | .list xs=>if kU xs d=true then .ok (.bool (if neg then !(xs.any fun y=>PyData.eqv y d) else xs.any fun y=>PyData.eqv y d)) else .no
  | .tuple xs=>if kU xs d=true then .ok (.bool (if neg then !(xs.any fun y=>PyData.eqv y d) else xs.any fun y=>PyData.eqv y d)) else .no
  | .dict kvs=>if lK kvs=true then .no else match jm d with
    | some _=>.ok (.bool (if neg then !(iQ kvs d).isSome else (iQ kvs d).isSome))
    | none=>.no
  | _=>.no
section
variable {X:Cx} {a b c:Expr} {fa fb fc:Fe} {pos:Pos}
theorem dj {H:Hp} {i:Int}:Rp H (.int i) (.int i):=by simp only [Rp]
theorem dm {H:Hp} {i:Bool}:Rp H (.bool i) (.bl i):=by simp only [Rp]
theorem mV {H:Hp} {i:Str}:Rp H (.str i) (.str i):=by simp only [Rp]
theorem tU:bA X fJ (rb fun i j=>.int (i-j)) gS:=fun H x y dx dy Q hx hy q=>by
  unfold gS at q;split at q
  · exact ⟨_,_,bh hx,bh hy,q _ H (ar.refl _) dj⟩
  · exact q.elim
theorem tO:bA X fJ (rI (fun _ j=>0 < j) fun i j=>.int (i%j)) cj:=fun H x y dx dy Q hx hy q=>by
  unfold cj at q;split at q
  · split at q
    · rename_i h;exact ⟨_,_,bh hx,bh hy,h,q _ H (ar.refl _) dj⟩
    · exact q.elim
  · exact q.elim
theorem uz:bA X fJ (rI vx fun i j=>.int (i / j)) iu:=fun H x y dx dy Q hx hy q=>by
  unfold iu at q;split at q
  · split at q
    · rename_i h;exact ⟨_,_,bh hx,bh hy,h,q _ H (ar.refl _) dj⟩
    · exact q.elim
  · exact q.elim
theorem em {p:Int->Int->Bool}:bA X fJ (rb fun i j=>.bl (p i j)) (fI p):=fun H x y dx dy Q hx hy q=>by
  unfold fI at q;split at q
  · exact ⟨_,_,bh hx,bh hy,q _ H (ar.refl _) dm⟩
  · exact q.elim
theorem gc (ha:Z.cX X a fa) (hb:Z.cX X b fb):Z.cw X (.BinOp a .Sub b pos) (e2 gS fa fb):=⟨have ha:=ha.un;have hb:=hb.un;jz dX uU tU ha hb⟩
theorem aR (ha:Z.cX X a fa) (hb:Z.cX X b fb):Z.cw X (.BinOp a .Mod b pos) (e2 cj fa fb):=⟨have ha:=ha.un;have hb:=hb.un;jz dX uH tO ha hb⟩
theorem c5 (ha:Z.cX X a fa) (hb:Z.cX X b fb):Z.cw X (.BinOp a .FloorDiv b pos) (e2 iu fa fb):=⟨have ha:=ha.un;have hb:=hb.un;jz dX rX uz ha hb⟩
noncomputable abbrev wd:Int->Int->Bool:=fun i j=>decide (i < j)
noncomputable abbrev u7:Int->Int->Bool:=fun i j=>decide (i<=j)
noncomputable abbrev vi:Int->Int->Bool:=fun i j=>decide (j < i)
theorem qu (ha:Z.cX X a fa) (hb:Z.cX X b fb):Z.j4 X (.Compare a [.Lt] [b] pos) (tE (e2 (fI wd) fa fb)):=⟨have ha:=ha.un;have hb:=hb.un;ic qP em ha hb (jN _)⟩
theorem ie (ha:Z.cX X a fa) (hb:Z.cX X b fb):Z.j4 X (.Compare a [.Gt] [b] pos) (tE (e2 (fI vi) fa fb)):=⟨have ha:=ha.un;have hb:=hb.un;ic u9 em ha hb (jN _)⟩
noncomputable def rm (X:Cx) (neg:Bool):R2:=fun x y H Q=>∃ dx dy,eV H dx x/\eV H dy y/\ig dx dy=true/\Q (.bl (if neg then !PyData.eqv dx dy else PyData.eqv dx dy)) H
theorem jd {x y:PyData} (h:ig x y=true):x.canLay0=true/\y.canLay0=true/\min x.depth y.depth<=60:=by
  unfold ig at h;rw [Bool.and_eq_true,Bool.and_eq_true,decide_eq_true_eq] at h;exact ⟨h.1.1,h.1.2,h.2⟩
theorem pJ (hu:X.A.units+64 < cLine):fH X (compareOp .Eq) (rm X false):=by
  intro pins s σ H x y v u Q I rx ry h;obtain ⟨dx,dy,hx,hy,ho,q⟩:=h;obtain ⟨c1,c2,c3⟩:=jd ho;obtain ⟨as,r1⟩:=dh I.hok c1 hx rx;obtain ⟨bs,r2⟩:=dh I.hok c2 hy ry;exact PySem.SeqAt.compareEq_reads r1 r2 c1 c2 (by omega) ⟨.bl _,H,I,rfl,q⟩
theorem uL (hu:X.A.units+64 < cLine):fH X (compareOp .NotEq) (rm X true):=by
  intro pins s σ H x y v u Q I rx ry h;obtain ⟨dx,dy,hx,hy,ho,q⟩:=h;obtain ⟨c1,c2,c3⟩:=jd ho;obtain ⟨as,r1⟩:=dh I.hok c1 hx rx;obtain ⟨bs,r2⟩:=dh I.hok c2 hy ry;exact PySem.SeqAt.compareNe_reads r1 r2 c1 c2 (by omega) ⟨.bl _,H,I,rfl,q⟩
theorem td:bA X fJ (rm X false) kF:=fun H x y dx dy Q hx hy q=>by
  unfold kF at q;split at q
  · rename_i h;exact ⟨dx,dy,hx,hy,h,q _ H (ar.refl _) dm⟩
  · exact q.elim
theorem vz:bA X fJ (rm X true) kB:=fun H x y dx dy Q hx hy q=>by
  unfold kB at q;split at q
  · rename_i h;exact ⟨dx,dy,hx,hy,h,q _ H (ar.refl _) dm⟩
  · exact q.elim
theorem kS (hu:X.A.units+64 < cLine) (ha:Z.cX X a fa) (hb:Z.cX X b fb):Z.cw X (.Compare a [.Eq] [b] pos) (e2 kF fa fb):=⟨have ha:=ha.un;have hb:=hb.un;uC (pJ hu) td ha hb (jN _)⟩
theorem gV (hu:X.A.units+64 < cLine) (ha:Z.cX X a fa) (hb:Z.cX X b fb):Z.j4 X (.Compare a [.Eq] [b] pos) (tE (e2 kF fa fb)):=⟨have ha:=ha.un;have hb:=hb.un;ic (pJ hu) td ha hb (jN _)⟩
theorem eK (hu:X.A.units+64 < cLine) (ha:Z.cX X a fa) (hb:Z.cX X b fb):Z.j4 X (.Compare a [.NotEq] [b] pos) (tE (e2 kB fa fb)):=⟨have ha:=ha.un;have hb:=hb.un;ic (uL hu) vz ha hb (jN _)⟩
noncomputable def wu (X:Cx) (neg:Bool):R2:=fun x y H Q=>∃ d xs,eV H d x/\(eV H (.list xs) y\/eV H (.tuple xs) y)/\kU xs d=true/\Q (.bl (if neg then !(xs.any fun z=>PyData.eqv z d) else xs.any fun z=>PyData.eqv z d)) H
noncomputable def vG (X:Cx) (neg:Bool):R2:=fun x y H Q=>wu X neg x y H Q\/∃ a o,y=.ref a/\kb H a x o/\Q (.bl (if neg then !o.isSome else o.isSome)) H
theorem nv {xs:List PyData} {d:PyData} (h:kU xs d=true):PyData.canLayAll0 xs=true/\d.canLay0=true/\min (PyData.depthAll xs) d.depth<=60:=by
  unfold kU at h;rw [Bool.and_eq_true,Bool.and_eq_true,decide_eq_true_eq] at h;exact ⟨h.1.1,h.1.2,h.2⟩
theorem tG (hu:X.A.units+64 < cLine):fH X (compareOp .In) (vG X false):=by
  intro pins s σ H x y v u Q I rx ry h;rcases h with h | ⟨a,o,rfl,g,q⟩
  case inr =>
    cases ry;exact w8 (by omega) I g rx fun s' I'=>⟨.bl _,H,I',rfl,q⟩
  obtain ⟨d,xs,hx,hy,ho,q⟩:=h;obtain ⟨c1,c2,c3⟩:=nv ho;obtain ⟨as,r1⟩:=dh I.hok c2 hx rx;rcases hy with hy | hy
  · obtain ⟨bs,r2⟩:=dh I.hok (d:=.list xs) (by simpa only [PyData.canLay0] using c1) hy ry;exact PySem.SeqAt.in_list_reads r2 r1 c1 c2 (by omega) ⟨.bl _,H,I,rfl,q⟩
  · obtain ⟨bs,r2⟩:=dh I.hok (d:=.tuple xs) (by simpa only [PyData.canLay0] using c1) hy ry;exact PySem.SeqAt.in_tuple_reads r2 r1 c1 c2 (by omega) ⟨.bl _,H,I,rfl,q⟩
theorem vH {neg:Bool}:bA X fJ (vG X neg) (re neg):=fun H x y dx dy Q hx hy q=>by
  unfold re at q;split at q
  · split at q
    · rename_i h;exact .inl ⟨dx,_,hx,.inl hy,h,q _ H (ar.refl _) dm⟩
    · exact q.elim
  · split at q
    · rename_i h;exact .inl ⟨dx,_,hx,.inr hy,h,q _ H (ar.refl _) dm⟩
    · exact q.elim
  · split at q
    · exact q.elim
    rename_i hi;split at q
    · rename_i κ e;obtain ⟨a,ks,rfl,h,r⟩:=jl (Bool.not_eq_true _ ▸ hi) hy;obtain ⟨o,g,e1,_⟩:=nK (κ:=κ) h r;rw [<- nN hx e] at g;rw [<- lL e] at e1;exact .inr ⟨a,o,rfl,g,by rw [e1];exact q _ H (ar.refl _) dm⟩
    · exact q.elim
  · exact q.elim
theorem mn (hu:X.A.units+64 < cLine) (ha:Z.cX X a fa) (hb:Z.cX X b fb) (hm:behindInMarks .In b=false):Z.j4 X (.Compare a [.In] [b] pos) (tE (e2 (re false) fa fb)):=⟨have ha:=ha.un;have hb:=hb.un;ic (tG hu) vH ha hb hm⟩
end
inductive nC where
  | nx (ρ:aD)
  | rt (d:PyData)
  | bk (ρ:aD)
  | ct (ρ:aD)
noncomputable abbrev Fs:=aD->R nC
structure fj (Fm H:Hp) (σ:St) (ρ:aD):Prop where
  fm:ar Fm H
  sl:Sl H σ ρ
  own:∀ (i:Nat) (d:PyData) (a:Addr),ρ[i]?=some (.own d)->σ[i]?=some (some (.ref a))->Fm a=none
  apart:∀ (i j:Nat) (d e:PyData) (a:Addr),ρ[i]?=some (.own d)->ρ[j]?=some (.own e)->σ[i]?=some (some (.ref a))->σ[j]?=some (some (.ref a))->i=j
theorem fj.mono {Fm H H':Hp} {σ:St} {ρ:aD} (h:fj Fm H σ ρ) (s:ar H H'):fj Fm H' σ ρ:=⟨h.fm.trans s,h.sl.mono s,h.own,h.apart⟩
noncomputable def uF (X:Cx) (Fm:Hp) (r:R nC) (D:k7):Prop :=
  match r with
  | .ok (.nx ρ)=>∀ σ H,fj Fm H σ ρ->D.nx σ H
  | .ok (.rt d)=>∀ v H,ar Fm H->Rp H d v->D.rt v H
  | .ok (.bk ρ)=>∀ σ H,fj Fm H σ ρ->D.bk σ H
  | .ok (.ct ρ)=>∀ σ H,fj Fm H σ ρ->D.ct σ H
  | .ex c=>Xw X c Fm/\vb X c Fm
  | .no=>False
noncomputable def u6 (X:Cx) (Fm:Hp) (g:Fs):TS:=fun D σ H=>∃ ρ,fj Fm H σ ρ/\uF X Fm (g ρ) D
noncomputable def jg (X:Cx) (st:Stmt) (g:Fs):Prop:=∀ Fm,PS X st (u6 X Fm g)
structure Z.jg (X:Cx) (st:Stmt) (g:Fs):Prop where
  un:D2.jg X st g
noncomputable def iW (X:Cx) (st:List Stmt) (g:Fs):Prop:=∀ Fm,lF X st (u6 X Fm g)
structure Z.iW (X:Cx) (st:List Stmt) (g:Fs):Prop where
  un:D2.iW X st g
theorem PS.imp {X:Cx} {e:Stmt} {t t':TS} (h:PS X e t) (i:∀ D σ H,t' D σ H->t D σ H):PS X e t':=fun pins s σ H D I q=>h pins s σ H D I (i D σ H q)
theorem lF.imp {X:Cx} {e:List Stmt} {t t':TS} (h:lF X e t) (i:∀ D σ H,t' D σ H->t D σ H):lF X e t':=fun pins s σ H D I q=>h pins s σ H D I (i D σ H q)
section
variable {X:Cx} {Fm:Hp} {σ:St} {H:Hp} {D:k7}
theorem qm {P:Hp->Hp->PyData->V->Prop} {f:Fe} {k:aD->PyData->R nC} (h:u6 X Fm (fun ρ=>f ρ>>=k ρ) D σ H) :
    fU X P f σ H (fun v H1=>∃ ρ d,fj Fm H1 σ ρ/\ar H H1/\P H H1 d v/\uF X Fm (k ρ d) D):=by
  obtain ⟨ρ,sl,q⟩:=h;refine ⟨ρ,sl.sl,?_⟩;dsimp only at q;cases e:f ρ with
  | ok d=>rw [e] at q;exact fun v H1 s p=>⟨ρ,d,sl.mono s,s,p,q⟩
  | ex c=>rw [e] at q;exact q.1.mono sl.fm
  | no=>rw [e] at q;exact q
theorem su {f:aD->R Bool} {k:aD->Bool->R nC} (h:u6 X Fm (fun ρ=>f ρ>>=k ρ) D σ H):rL X f σ H (fun b H1=>∃ ρ,fj Fm H1 σ ρ/\ar H H1/\uF X Fm (k ρ b) D):=by
  obtain ⟨ρ,sl,q⟩:=h;refine ⟨ρ,sl.sl,?_⟩;dsimp only at q;cases e:f ρ with
  | ok d=>rw [e] at q;exact fun H1 s=>⟨ρ,sl.mono s,s,q⟩
  | ex c=>rw [e] at q;exact q.1.mono sl.fm
  | no=>rw [e] at q;exact q
end
noncomputable def cq:Fs:=fun ρ=>.ok (.nx ρ)
noncomputable def n9 (h:Fs):nC->R nC
  | .nx ρ=>h ρ
  | o=>.ok o
noncomputable def aS (g h:Fs):Fs:=fun ρ=>g ρ>>=n9 h
noncomputable def iV (t:aD->R Bool) (g h:Fs):Fs:=fun ρ=>t ρ>>=fun b=>if b=true then g ρ else h ρ
noncomputable def bW (f:Fe):Fs:=fun ρ=>f ρ>>=fun d=>.ok (.rt d)
noncomputable def cf (i:Nat) (f:Fe):Fs:=fun ρ=>f ρ>>=fun d=>.ok (.nx (ρ.set i (.val d)))
noncomputable def gj (i:Nat) (f:Fe):Fs:=fun ρ=>f ρ>>=fun d=>.ok (.nx (ρ.set i (.own d)))
section
variable {X:Cx} {nl:Nat} {G:List Str} {st:Stmt} {sts:List Stmt} {g h:Fs} {f:Fe} {e:Expr} {pos pos':Pos} {x:Str}
theorem bi  : Z.iW X [] cq:=⟨fun Fm=>lF.imp r8 fun D σ H ⟨ρ,sl,q⟩=>q σ H sl⟩
theorem ak (h1:Z.jg X st g) (h2:Z.iW X sts h):Z.iW X (st::sts) (aS g h):=⟨have h1:=h1.un;have h2:=h2.un;fun Fm=>by
  refine lF.imp (pL (h1 Fm) (h2 Fm)) fun D σ H ⟨ρ,sl,q⟩=>⟨ρ,sl,?_⟩
  unfold aS at q;cases e:g ρ with
  | ex c=>rw [e] at q;exact q
  | no=>rw [e] at q;exact q
  | ok o =>
    rw [e] at q;cases o with
    | nx ρ'=>exact fun σ' H' s'=>⟨ρ',s',q⟩
    | rt d=>exact q
    | bk ρ'=>exact q
    | ct ρ'=>exact q⟩
theorem ao (h1:Z.jg X st g):Z.iW X [st] g:=⟨have h1:=h1.un;fun Fm=>rD (h1 Fm)⟩
theorem ax (he:Z.cw X e f):Z.jg X (.Return (some e) pos) (bW f):=⟨have he:=he.un;fun Fm =>
  PS.imp (ug he) fun D σ H h=>(qm (P:=fJ) (f:=f) (k:=fun _ d=>.ok (.rt d)) h).post fun v H1 ⟨ρ,d,sl,_,p,q⟩=>q v H1 sl.fm p⟩
theorem bM {c:Expr} {a b:List Stmt} {t:aD->R Bool} (hc:Z.j4 X c t) (ha:Z.iW X a g) (hb:Z.iW X b h):Z.jg X (.If c a b pos) (iV t g h):=⟨have hc:=hc.un;have ha:=ha.un;have hb:=hb.un;fun Fm =>
  PS.imp (vp hc (ha Fm) (hb Fm)) fun D σ H q=>(su (f:=t) (k:=fun ρ b=>if b=true then g ρ else h ρ) q).post fun b H1 ⟨ρ,sl,_,q⟩=>by
    cases b with
    | true=>exact ⟨ρ,sl,q⟩
    | false=>exact ⟨ρ,sl,q⟩⟩
theorem Sl.set {H:Hp} {σ:St} {ρ:aD} {c:bX} {o:Option V} (h:Sl H σ ρ) (i:Nat) (hc:fL H c o):Sl H (σ.set i o) (ρ.set i c):=by
  refine ⟨by rw [List.length_set,List.length_set];exact h.1,fun j c' o' h1 h2=>?_⟩;rw [List.getElem?_set] at h1 h2;by_cases hij:i=j
  · rw [if_pos hij] at h1 h2;by_cases hi:i < ρ.length
    · rw [if_pos hi] at h1;rw [if_pos (by rw [h.1];exact hi)] at h2;cases h1;cases h2;exact hc
    · rw [if_neg hi] at h1;cases h1
  · rw [if_neg hij] at h1 h2;exact h.2 j c' o' h1 h2
theorem bU {ρ:aD} {i j:Nat} {c:bX} {d:PyData} (hc:∀ e,c≠.own e) (h:(ρ.set i c)[j]?=some (.own d)):i≠j/\ρ[j]?=some (.own d):=by
  rw [List.getElem?_set] at h;by_cases hij:i=j
  · rw [if_pos hij] at h;split at h
    · exact absurd (Option.some.inj h) (hc d)
    · cases h
  · rw [if_neg hij] at h;exact ⟨hij,h⟩
theorem fj.set {Fm H:Hp} {σ:St} {ρ:aD} {c:bX} {o:Option V} (h:fj Fm H σ ρ) (i:Nat) (hn:∀ e,c≠.own e) (hc:fL H c o):fj Fm H (σ.set i o) (ρ.set i c):=by
  refine ⟨h.fm,h.sl.set i hc,fun j d a h1 h2=>?_,fun j k d e a h1 h2 h3 h4=>?_⟩
  · obtain ⟨ne,h1⟩:=bU hn h1;rw [List.getElem?_set,if_neg ne] at h2;exact h.own j d a h1 h2
  · obtain ⟨ne,h1⟩:=bU hn h1;obtain ⟨ne',h2⟩:=bU hn h2;rw [List.getElem?_set,if_neg ne] at h3;rw [List.getElem?_set,if_neg ne'] at h4;exact h.apart j k d e a h1 h2 h3 h4
theorem lC {H:Hp} {d:PyData} {v:V} (h:gC H d v):∃ a o,v=.ref a/\H a=some o:=by
  cases d <;> simp only [gC] at h
  · obtain ⟨a,vs,e,ha,_⟩:=h;exact ⟨a,_,e,ha⟩
  · obtain ⟨a,vs,e,ha,_⟩:=h;exact ⟨a,_,e,ha⟩
theorem fj.setOwn {Fm H0 H:Hp} {σ:St} {ρ:aD} {d:PyData} {v:V} (h0:fj Fm H0 σ ρ) (h:fj Fm H σ ρ) (hs:ar H0 H) (i:Nat) (hn:uY H0 H d v):fj Fm H (σ.set i (some v)) (ρ.set i (.own d)):=by
  obtain ⟨p,a,rfl,ha⟩:=hn;have old:∀ (j:Nat) (e:PyData) (b:Addr),i≠j->(ρ.set i (.own d))[j]?=some (.own e)->(σ.set i (some (.ref a)))[j]?=some (some (.ref b))->ρ[j]?=some (.own e)/\σ[j]?=some (some (.ref b)):=fun j e b ne h1 h2=>by
    rw [List.getElem?_set,if_neg ne] at h1 h2;exact ⟨h1,h2⟩
  have notA:∀ (j:Nat) (e:PyData),ρ[j]?=some (.own e)->σ[j]?=some (some (.ref a))->False:=fun j e h1 h2=>by
    obtain ⟨u,e1,q⟩:=h0.sl.2 j _ _ h1 h2;cases e1;obtain ⟨b,o,e2,hb⟩:=lC q;cases e2;rw [ha] at hb;cases hb
  have here:∀ (b:Addr),(σ.set i (some (.ref a)))[i]?=some (some (.ref b))->b=a:=fun b h2=>by
    rw [List.getElem?_set,if_pos rfl] at h2;split at h2
    · cases h2;rfl
    · cases h2
  refine ⟨h.fm,h.sl.set i ⟨_,rfl,p⟩,fun j e b h1 h2=>?_,fun j k e f b h1 h2 h3 h4=>?_⟩
  · by_cases hij:i=j
    · subst hij;rw [here b h2];exact (h0.fm).free ha
    · obtain ⟨h1,h2⟩:=old j e b hij h1 h2;exact h.own j e b h1 h2
  · by_cases hij:i=j
    · subst hij;have eb:=here b h3;by_cases hik:i=k
      · exact hik
      · obtain ⟨h2,h4⟩:=old k f b hik h2 h4;rw [eb] at h4;exact (notA k f h2 h4).elim
    · obtain ⟨h1,h3⟩:=old j e b hij h1 h3;by_cases hik:i=k
      · subst hik;have eb:=here b h4;rw [eb] at h3;exact (notA j e h1 h3).elim
      · obtain ⟨h2,h4⟩:=old k f b hik h2 h4;exact h.apart j k e f b h1 h2 h3 h4
theorem aP (T:Tb X nl G) (i:Nat) (hN:(X.N.take nl)[i]?=some x) (he:Z.cw X e f) (hs:swapsWith e (some (.Name x pos')) pos.line X.env=pure false:=by rfl):Z.jg X (.Assign [.Name x pos'] e pos) (cf i f):=⟨have he:=he.un;fun Fm=>by
  have hm:=T.loc x (List.mem_of_getElem? hN);have hi:X.N[i]?=some x:=by
    rw [List.getElem?_take] at hN;split at hN
    · exact hN
    · cases hN
  exact PS.imp (pH T.nd hi hm.1 he hs hm.2) fun D σ H h=>(qm (P:=fJ) (f:=f) (k:=fun ρ d=>.ok (.nx (ρ.set i (.val d)))) h).post fun v H1 ⟨ρ,d,sl,_,p,q⟩ =>
    q _ H1 (sl.set i (fun e z=>by cases z) ⟨v,rfl,p⟩)⟩
theorem fW (T:Tb X nl G) (i:Nat) (hN:(X.N.take nl)[i]?=some x) (he:Z.jO X e f) (hs:swapsWith e (some (.Name x pos')) pos.line X.env=pure false:=by rfl):Z.jg X (.Assign [.Name x pos'] e pos) (gj i f):=⟨have he:=he.un;fun Fm=>by
  have hm:=T.loc x (List.mem_of_getElem? hN);have hi:X.N[i]?=some x:=by
    rw [List.getElem?_take] at hN;split at hN
    · exact hN
    · cases hN
  refine PS.imp (pH T.nd hi hm.1 he hs hm.2) fun D σ H h=>?_
  obtain ⟨ρ0,sl0,q0⟩:=h;refine ⟨ρ0,sl0.sl,?_⟩;unfold gj at q0;cases ef:f ρ0 with
  | ex c=>rw [ef] at q0;exact q0.1.mono sl0.fm
  | no=>rw [ef] at q0;exact q0
  | ok d =>
    rw [ef] at q0;exact fun v H1 s p=>q0 _ H1 (fj.setOwn sl0 (sl0.mono s) s i p)⟩
end
structure tm (J:It) (Gd:Hp->Prop) (ds:List PyData):Prop where
  go:∀ i H,Gd H->i < ds.length->J.go i H
  yld:∀ i H x H' d,Gd H->ds[i]?=some d->J.yld i H x H'->ar H H'/\Rp H' d x
  stop:∀ i H,Gd H->ds.length<=i->J.stop i H
noncomputable def wl (H0:Hp) (B:Addr->Prop) (Gd:Hp->Prop):Prop:=∀ H,Kp H0 H->(∀ b o,B b->H0 b=some o->H b=some o)->Gd H
noncomputable def xn (X:Cx) (f:aD->R (List PyData)):TI:=fun σ H Rk=>∃ ρ,Sl H σ ρ/\match f ρ with
  | .ok ds=>∀ J H',ar H H'->(∃ Gd,tm J Gd ds/\wl H' (fun _=>False) Gd)->Rk J H'
  | .ex c=>Xw X c H
  | .no=>False
noncomputable def oq (X:Cx) (tg iter:Expr) (f:aD->R (List PyData)):Prop:=PI X tg iter (xn X f)
structure Z.oq (X:Cx) (tg iter:Expr) (f:aD->R (List PyData)):Prop where
  un:D2.oq X tg iter f
noncomputable def xu (X:Cx) (b:PyData->aD->Option aD):TG:=fun v σ H Q=>∃ ρ d,Sl H σ ρ/\Rp H d v/\match b d ρ with
  | some ρ'=>∀ σ',Sl H σ' ρ'->(∀ (i:Nat) (e:PyData),ρ'[i]?=some (.own e)->ρ[i]?=some (.own e)/\σ'[i]?=σ[i]?)->Q σ' H
  | none=>False
noncomputable def n5 (X:Cx) (tg:Expr) (b:PyData->aD->Option aD):Prop:=PG X tg (xu X b)
structure Z.n5 (X:Cx) (tg:Expr) (b:PyData->aD->Option aD):Prop where
  un:D2.n5 X tg b
noncomputable def aM (i:Nat):PyData->aD->Option aD:=fun d ρ=>some (ρ.set i (.val d))
theorem PG.imp {X:Cx} {e:Expr} {t t':TG} (h:PG X e t) (i:∀ v σ H Q,t' v σ H Q->t v σ H Q):PG X e t':=fun pins s σ H v u Q I r q=>h pins s σ H v u Q I r (i v σ H Q q)
theorem PI.imp {X:Cx} {tg e:Expr} {t t':TI} (h:PI X tg e t) (i:∀ σ H Q,t' σ H Q->t σ H Q):PI X tg e t':=fun pins s σ H Q I q=>h pins s σ H Q I (i σ H Q q)
section
variable {X:Cx} {nl:Nat} {G:List Str} {x:Str} {pos:Pos}
theorem Tb.nm (T:Tb X nl G) {i:Nat} (hN:(X.N.take nl)[i]?=some x):X.N[i]?=some x/\ur X.env.scope x/\(X.fn x=true\/X.env.scope.names.lookup x=some .local):=by
  have hm:=T.loc x (List.mem_of_getElem? hN);have hi:X.N[i]?=some x:=by
    rw [List.getElem?_take] at hN;split at hN
    · exact hN
    · cases hN
  exact ⟨hi,hm⟩
theorem bc (T:Tb X nl G) (i:Nat) (hN:(X.N.take nl)[i]?=some x):Z.n5 X (.Name x pos) (aM i):=⟨by
  obtain ⟨hi,h1,h2⟩:=T.nm hN;refine PG.imp (lg T.nd hi h1 h2) fun v σ H Q ⟨ρ,d,sl,p,q⟩=>?_
  refine q _ (sl.set i ⟨v,rfl,p⟩) fun j e h=>?_
  obtain ⟨ne,h⟩:=bU (fun e z=>by cases z) h;exact ⟨h,by rw [List.getElem?_set,if_neg ne]⟩⟩
end
noncomputable def eF (b:PyData->aD->Option aD) (g:Fs):List PyData->Fs
  | [],ρ=>.ok (.nx ρ)
  | d::ds,ρ=>match b d ρ with
    | none=>.no
    | some ρ1=>g ρ1>>=fun o=>match o with
      | .nx ρ2=>eF b g ds ρ2
      | .ct ρ2=>eF b g ds ρ2
      | .bk ρ2=>.ok (.nx ρ2)
      | .rt r=>.ok (.rt r)
noncomputable def jV (it:aD->R (List PyData)) (b:PyData->aD->Option aD) (g:Fs):Fs:=fun ρ=>it ρ>>=fun ds=>eF b g ds ρ
noncomputable def stab (Fm H:Hp):Hp:=fun b=>match H b with
  | some (.tup xs)=>some (.tup xs)
  | some (.frz o u)=>some (.frz o u)
  | _=>Fm b
theorem oJ {Fm H:Hp} (h:ar Fm H):ar (stab Fm H) H:=fun b o e=>by
  unfold stab at e;split at e
  · rename_i q;rw [q];exact e
  · rename_i q;rw [q];exact e
  · exact h b o e
theorem sL {Fm H:Hp}:Kp H (stab Fm H):=⟨fun b xs e=>by unfold stab;rw [e],fun b o u e=>by unfold stab;rw [e]⟩
theorem sQ {Fm H:Hp} (h:ar Fm H):ar Fm (stab Fm H):=fun b o e=>by
  have:=h b o e;unfold stab;split
  · rename_i q;rw [this] at q;exact q.symm
  · rename_i q;rw [this] at q;exact q.symm
  · exact e
theorem fj.stab {Fm H:Hp} {σ:St} {ρ:aD} (h:fj Fm H σ ρ):fj (stab Fm H) H σ ρ:=by
  refine ⟨oJ h.fm,h.sl,fun i d a h1 h2=>?_,h.apart⟩;have f:=h.own i d a h1 h2;obtain ⟨u,e1,q⟩:=h.sl.2 i _ _ h1 h2;cases e1;unfold D2.stab;cases d <;> simp only [gC] at q
  · obtain ⟨b,vs,e,hb,_⟩:=q;cases e;rw [hb];exact f
  · obtain ⟨b,vs,e,hb,_⟩:=q;cases e;rw [hb];exact f
theorem fj.unstab {Fm F H:Hp} {σ:St} {ρ:aD} (hF:ar Fm F) (h:fj F H σ ρ):fj Fm H σ ρ:=⟨hF.trans h.fm,h.sl,fun i d a h1 h2=>hF.free (h.own i d a h1 h2),h.apart⟩
theorem dS {X:Cx} {tg iter:Expr} {body:List Stmt} {it:aD->R (List PyData)} {b:PyData->aD->Option aD} {g:Fs} {pos:Pos} (hp:PassesOwn (model X.prog X.w) X.A X.env X.xe) (hc:X.calm=true) (hi:Z.oq X tg iter it) (hg:Z.n5 X tg b) (hb:Z.iW X body g) (hs:∀ x,foldedSetIterable iter X.env x=pure x:=by intro _;rfl):Z.jg X (.For tg iter body [] pos) (jV it b g):=⟨have hi:=hi.un;have hg:=hg.un;have hb:=hb.un;fun Fm=>by
  intro pins s σ H D I h;obtain ⟨ρ,sl,q⟩:=h;unfold jV at q
  -- the frame: what is stable at the loop's fG is only known behind the iterator's making: the body is taken at every frame
  refine tQ (wi:=xn X it) (g:=xu X b) (tb:=fun D' σ' H'=>∃ F,u6 X F g D' σ' H') hp hc hi hg (fun pins' s' σ' H' D' I' ⟨F,q'⟩=>hb F pins' s' σ' H' D' I' q') hs pins s σ H D I ?_;refine ⟨ρ,sl.sl,?_⟩;cases ei:it ρ with
  | ex c=>rw [ei] at q;exact q.1.mono sl.fm
  | no=>rw [ei] at q;exact q
  | ok ds =>
    rw [ei] at q;intro J H1 s1 ⟨Gd,idt,sta⟩;have sl1:=sl.mono s1;let F:=stab Fm H1
    have hF:ar Fm F:=sQ sl1.fm
    -- the word: so many items are taken,and the cP gives what the whole gives
    refine ⟨fun i m σ' H'=>m=ds.length-i/\i<=ds.length/\∃ ρ',fj F H' σ' ρ'/\uF X Fm (eF b g (ds.drop i) ρ') D,⟨ds.length,by simp,Nat.zero_le _,ρ,sl1.stab,by simpa using q⟩,?_⟩;rintro i m σ2 H2 ⟨rfl,hi',ρ2,sl2,q2⟩;have gd:Gd H2:=sta H2 (Kp.trans sL (Kp.of sl2.fm)) fun _ _ z=>z.elim
    by_cases hlt:i < ds.length
    · refine .inr ⟨idt.go i H2 gd hlt,fun σ' H'=>i+1<=ds.length/\∃ ρ',fj F H' σ' ρ'/\uF X Fm (eF b g (ds.drop (i+1)) ρ') D,fun σ' H' ⟨z,p⟩=>⟨ds.length-(i+1),by omega,rfl,z,p⟩,fun x H3 y=>?_⟩;obtain ⟨d,hd⟩:∃ d,ds[i]?=some d:=⟨ds[i],List.getElem?_eq_getElem hlt⟩
      obtain ⟨s3,p3⟩:=idt.yld i H2 x H3 d gd hd y;have hdrop:ds.drop i=d::ds.drop (i+1):=by
        rw [List.drop_eq_getElem_cons hlt];congr 1;exact Option.some.inj ((List.getElem?_eq_getElem hlt).symm.trans hd)
      rw [hdrop] at q2;unfold eF at q2;have sl3:=sl2.mono s3;refine ⟨ρ2,d,sl3.sl,p3,?_⟩;cases eb:b d ρ2 with
      | none=>rw [eb] at q2;exact q2
      | some ρ3 =>
        rw [eb] at q2;intro σ4 sl4 hown;refine ⟨F,ρ3,⟨sl3.fm,sl4,fun j e a h1 h2=>?_,fun j k e f a h1 h2 h3 h4=>?_⟩,?_⟩
        · obtain ⟨z1,z2⟩:=hown j e h1;exact sl3.own j e a z1 (by rw [<- z2];exact h2)
        · obtain ⟨z1,z2⟩:=hown j e h1;obtain ⟨z3,z4⟩:=hown k f h2;exact sl3.apart j k e f a z1 z3 (by rw [<- z2];exact h3) (by rw [<- z4];exact h4)
        · have q3:uF X Fm (g ρ3>>=fun o=>match o with
            | .nx ρ2=>eF b g (ds.drop (i+1)) ρ2
            | .ct ρ2=>eF b g (ds.drop (i+1)) ρ2
            | .bk ρ2=>.ok (.nx ρ2)
            | .rt r=>.ok (.rt r)) D:=q2
          cases eg:g ρ3 with
          | ex c=>rw [eg] at q3;exact ⟨q3.1.mono hF,q3.2.mono hF⟩
          | no=>rw [eg] at q3;exact q3
          | ok o =>
            rw [eg] at q3;cases o with
            | nx ρ4=>exact fun σ' H' s'=>⟨hlt,ρ4,s',q3⟩
            | ct ρ4=>exact fun σ' H' s'=>⟨hlt,ρ4,s',q3⟩
            | bk ρ4=>exact fun σ' H' s'=>q3 σ' H' (s'.unstab hF)
            | rt r=>exact fun v H' s' p'=>q3 v H' (hF.trans s') p'
    · have e:i=ds.length:=by omega
      subst e;refine .inl ⟨idt.stop _ H2 gd (Nat.le_refl _),?_⟩;rw [List.drop_length] at q2;exact q2 σ2 H2 (sl2.unstab hF)⟩
noncomputable def df (n:Nat) (g:Fs):List PyData->R PyData:=fun ds=>g (ds.map bX.val++List.replicate (n-ds.length) .non)>>=fun o=>match o with
  | .rt d=>.ok d
  | .nx _=>.ok .none
  | _=>.no
noncomputable def da (F:List PyData->R PyData) (n:Nat):Sp:=fun vs H Q E=>∃ ds,aY H ds vs/\ds.length=n/\match F ds with
  | .ok d=>∀ v H',ar H H'->Rp H' d v->Q v H'
  | .ex c=>∀ H',ar H H'->E (.str c 0) none H'
  | .no=>False
theorem qZ {H:Hp} {N:List Str}:∀ {ds:List PyData} {vs:List V},aY H ds vs->Sl H (L2.fG N vs) (ds.map bX.val++List.replicate (N.length-ds.length) .non):=fun {ds vs} r=>by
  have hl:=r.length;refine ⟨by unfold L2.fG;rw [List.length_append,List.length_append,List.length_map,List.length_map,List.length_replicate,List.length_replicate,hl],fun i c o h1 h2=>?_⟩;by_cases hi:i < ds.length
  · rw [List.getElem?_append_left (by simpa using hi),List.getElem?_map] at h1;cases e:ds[i]? with
    | none=>rw [e] at h1;cases h1
    | some d =>
      rw [e] at h1;cases h1;obtain ⟨v,e1,p⟩:=r.get e;unfold L2.fG at h2;rw [List.getElem?_append_left (by rw [List.length_map,hl];exact hi),List.getElem?_map,e1] at h2;cases h2;exact ⟨v,rfl,p⟩
  · rw [List.getElem?_append_right (by simpa using hi),List.getElem?_replicate] at h1;split at h1
    · cases h1;exact True.intro
    · cases h1
section
variable {P:Program} {w:World} {H:Hp} {h:Heap} {a:Addr}
theorem pV:∀ {o:HO},bP P w H h a o->∃ u,h.get? a=some u
  | .lst xs,x=>by obtain ⟨_,_,_,_,e⟩:=x;exact ⟨_,e⟩
  | .tup xs,x=>by obtain ⟨_,_,_,o,e,_⟩:=x;exact ⟨_,e⟩
  | .dK kvs,x=>by obtain ⟨_,_,_,_,o,_,_,e,_⟩:=x;exact ⟨_,e⟩
  | .dT kvs,x=>by obtain ⟨_,_,_,_,o,_,_,e,_⟩:=x;exact ⟨_,e⟩
  | .set S n,x=>by obtain ⟨o,_,_,_,e,_⟩:=x;exact ⟨_,e⟩
  | .ins C dx fs,x=>by obtain ⟨_,_,_,e,_⟩:=x;exact ⟨_,e⟩
  | .own y,x=>by obtain ⟨_,e⟩:=x;exact ⟨_,e⟩
  | .xd fs,x=>by obtain ⟨_,⟨_,_,_,e,_⟩,_⟩:=x;exact ⟨_,e⟩
  | .rng lo hi,x=>by obtain ⟨_,_,_,e⟩:=x;exact ⟨_,e⟩
  | .frz ob u,x=>by obtain ⟨e,_⟩:=x;exact ⟨_,e⟩
  | .tbl ps,x=>⟨_,(show h.get? a=some _ from x)⟩
  | .met f y,x=>⟨_,(show h.get? a=some _ from x)⟩
  | .ext φ,x=>by obtain ⟨_,⟨_,e⟩,_⟩:=x;exact ⟨_,e⟩
end
theorem kZ.un {P:Program} {w:World} {outer:List Env} {H H':Hp} {s s':Shared} {C:Addr} {e:Value} (f:kZ P w outer H s C H' e s'):Un (gM outer) [] H H' s.heap s'.heap:=by
  obtain ⟨p,a0,B,_,fl,ok,_,cov⟩:=f.ex;refine ⟨fun b o q n hb _=>fl.1 _ _ (cov b o q n hb).1,fun b o q n hb _=>(f.slot b o q n hb).1,fun b o q n _=>?_,fun b o q _=>?_,fun b xs q=>f.same _ _ q,fun b o u q=>f.same _ _ q,fun b ps q=>⟨#[],by rw [f.same _ _ q];simp⟩⟩
  · by_cases hb:b∈gM outer
    · exact (f.slot b o q n hb).2
    · exact (cov b o q n hb).2
  · cases n:H b with
    | none =>
      by_cases hb:b∈gM outer
      · obtain ⟨sl,z⟩:=(f.slot b o q n hb).1;exact ⟨_,z⟩
      · exact ⟨o,fl.1 _ _ (cov b o q n hb).1⟩
    | some u =>
      obtain ⟨o',z⟩:=pV (ok b u (f.same _ _ n));exact ⟨o',fl.1 _ _ z⟩
theorem kZ.hok {P:Program} {w:World} {outer:List Env} {H H':Hp} {s s':Shared} {C:Addr} {e:Value} (f:kZ P w outer H s C H' e s'):eS P w H' s'.heap:=by
  obtain ⟨p,a0,B,_,fl,ok,_,_⟩:=f.ex;exact ok.kept fun b u q=>fl.1 b u q
theorem iL.un {P:Program} {w:World} {outer:List Env} {H H':Hp} {s s':Shared} {C:Addr} {e:Value} (f:iL P w outer H s C H' e s'):Un (gM outer) [] H H' s.heap s'.heap:=f.hld.un
theorem iL.hok {P:Program} {w:World} {outer:List Env} {H H':Hp} {s s':Shared} {C:Addr} {e:Value} (f:iL P w outer H s C H' e s'):eS P w H' s'.heap:=f.hld.hok
theorem kZ.inv {X:Cx} {pins:List (Addr×Obj)} {σ:St} {Hc H1:Hp} {sc s':Shared} {C:Addr} {e:Value} (f:kZ X.prog X.w X.stack Hc sc C H1 e s') (I:az X pins σ Hc sc):az X pins σ H1 s' :=
  I.call' f.os f.un f.hok f.bare fun b z=>absurd z (by simp)
section
variable {P:Program} {w:World} {l:List Env} {H H':Hp} {s s':Shared} {C p:Addr} {e:Value}
theorem kZ.again {a0:Value} {B h':Heap} (f:kZ P w l H s C H' e s') (t:lZ B l p (.ref C) a0 s'.heap) (t':lZ B l p (.ref C) a0 h') (up:s'.heap.UpToSlots h') (okB:eS P w H' B) (hp:H' p=none)
    (cov:∀ b o,s.heap.get? b=some o->H b=none->b∉gM l->B.get? b=some o/\H' b=none):kZ P w l H s C H' (.ref p) { s' with heap:=h' }:=by
  refine ⟨f.os,f.bare,f.same,⟨p,a0,B,rfl,t',okB,hp,cov⟩,fun b o q n hb=>?_⟩;obtain ⟨⟨sl,q2⟩,n2⟩:=f.slot b o q n hb;obtain ⟨_,o3,q3,nf⟩:=t.2.2.1.mem hb;rw [q2] at q3;cases q3;obtain ⟨sl3,q4⟩:=up b _ q2 nf;exact ⟨⟨sl3,q4⟩,n2⟩
theorem p9 {x:Value} {env env0:Env} (h:env.frame=env0.frame):noteFrame x env=noteFrame x env0:=by
  unfold noteFrame PySem.frameOf;rw [h]
theorem kZ.note {M:Model} {A:Around} {E:Value->Shared->Prop} {Q:Unit->Shared->Prop} {env env0:Env} {outer:List Env} {L:Addr} (f:kZ P w l H s C H' e s') (hl:l=env0::outer) (hfr:A.frames=some l) (h0:env0.frame=some L) (h1:env.frame=some L)
    (k:∀ h',kZ P w l H s C H' e { s' with heap:=h' }->s'.heap.UpToSlots h'->Q () { s' with heap:=h' }):wpAny M A (noteFrame e env) Q E s':=by
  subst hl;obtain ⟨p,a0,B,rfl,t,okB,hp,cov⟩:=f.ex;rw [p9 (h1.trans h0.symm)];exact lV hfr h0 t fun h' t' up=>k h' (f.again t t' up okB hp cov) up
theorem kZ.pass {α:Type} {M:Model} {A:Around} {E:Value->Shared->Prop} {Q:α->Shared->Prop} {env:Env} {what:String} (f:kZ P w l H s C H' e s') (k:∀ h',kZ P w l H s C H' e { s' with heap:=h' }->E e { s' with heap:=h' }):wpAny M A (PySem.passOn what e env:Sem α) Q E s':=by
  obtain ⟨p,a0,B,rfl,t,okB,hp,cov⟩:=f.ex;exact ql t fun h' t' up=>k h' (f.again t t' up okB hp cov)
end
section
variable {P:Program} {w:World} {K:PySem.W.Frag} {mg:Str->Option Value} {base:Heap} {N:List Str} {qual:Str} {sc:Scope} {f:Addr} {cdv:Value} {A:Around} {outer:List Env} {s:Shared} {H:Hp} {E:XK} {c:Str}
theorem tK (h:∀ H',ar H H'->E (.str c 0) none H'):Xw (dv (cM P w mg) P w K mg base N qual sc f cdv A outer s H E) c H:=by
  intro H1 s1 C hm pins σ Hc sc' e s' I fl;obtain ⟨p,a0,B,rfl,fly,okB,hp,cov⟩:=fl.ex;have old:∀ b o,s.heap.get? b=some o->b≠s.heap.objs.size:=fun b o q=>Nat.ne_of_lt (Heap.lt_size q)
  refine pC I.ok.frames rfl fly fun h' fl' up=>⟨c,C,H1,hm,⟨fl.os.trans I.os,fl.bare,s1,⟨p,a0,B,rfl,fl',okB,hp,fun b o q n hb=>?_⟩,fun b o q n hb=>?_⟩,h H1 s1⟩
  · have q1:=I.base.keep b o q n hb (by simp [dv]);have n1:=I.base.free b o q n (by simp [dv]);refine cov b o q1 n1 fun z=>?_
    have z':b∈(s.heap.objs.size::gM outer):=z;rcases List.mem_cons.mp z' with z2 | z2
    · exact old b o q z2
    · exact hb z2
  · obtain ⟨sl,q1⟩:=I.base.slot b o q n hb (by simp [dv]);have n1:=I.base.free b o q n (by simp [dv]);have hb':b∈gM (dv (cM P w mg) P w K mg base N qual sc f cdv A outer s H E).stack:=List.mem_cons_of_mem _ hb;obtain ⟨⟨sl',q2⟩,n2⟩:=fl.slot b _ q1 n1 hb';obtain ⟨_,o3,q3,nf⟩:=fly.2.2.1.mem hb';rw [q2] at q3;cases q3;obtain ⟨sl3,q4⟩:=up b _ q2 nf;exact ⟨⟨sl3,q4⟩,n2⟩
theorem sC (h:∀ H',ar H H'->E (.str c 0) none H'):vb (dv (cM P w mg) P w K mg base N qual sc f cdv A outer s H E) c H:=by
  intro C hm pins σ Hm sm sH I h' p vs hx;have hin:∀ env∈(dv (cM P w mg) P w K mg base N qual sc f cdv A outer s H E).stack,∀ b,env.frame=some b->b∈gM (dv (cM P w mg) P w K mg base N qual sc f cdv A outer s H E).stack:=fun env he b hb=>List.mem_filterMap.mpr ⟨env,he,hb⟩
  have old:∀ b o,s.heap.get? b=some o->b≠s.heap.objs.size:=fun b o q=>Nat.ne_of_lt (Heap.lt_size q)
  refine wpAny_leaves_madeW (s:={ sm with heap:=h' }) (base:=PySem.W.hideAll sm.heap (gM (dv (cM P w mg) P w K mg base N qual sc f cdv A outer s H E).stack)) I.ok.frames rfl (fun b o q=>PySem.W.of_hideAll _ q) (PySem.W.funFrames_hide I.stack hin) hx fun h'' t fl' _ _ up =>
    ⟨c,C,Hm,hm,⟨I.os,I.bare,sH,⟨p,.ref t,_,rfl,fl',fun b u q=>?_,?_,fun b o q n hb=>?_⟩,fun b o q n hb=>?_⟩,h Hm sH⟩
  · refine (I.hok b u q).stay (fun c' v hc z=>PySem.W.hideAll_get _ z fun m=>?_) (fun _ z=>z) fun _ _ z=>z
    have hn:=I.stkFree c' m;rcases hc with rfl | hc
    · rw [hn] at q;cases q
    · rw [hn] at hc;cases hc
  · cases q:Hm p with
    | none=>rfl
    | some u =>
      obtain ⟨o',z⟩:=pV (I.hok p u q);rw [hx.new] at z;cases z
  · have q1:=I.base.keep b o q n hb (by simp [dv]);have n1:=I.base.free b o q n (by simp [dv]);refine ⟨PySem.W.hideAll_get _ q1 fun z=>?_,n1⟩;have z':b∈(s.heap.objs.size::gM outer):=z;rcases List.mem_cons.mp z' with z2 | z2
    · exact old b o q z2
    · exact hb z2
  · obtain ⟨sl,q1⟩:=I.base.slot b o q n hb (by simp [dv]);have n1:=I.base.free b o q n (by simp [dv]);have hb':b∈gM (dv (cM P w mg) P w K mg base N qual sc f cdv A outer s H E).stack:=List.mem_cons_of_mem _ hb;obtain ⟨_,o3,q3,nf⟩:=I.stack.mem hb';rw [q1] at q3;cases q3;obtain ⟨sl3,q4⟩:=up b _ (hx.keeps _ _ q1) nf;exact ⟨⟨sl3,q4⟩,n1⟩
end
theorem sN {P:Program} {w:World} {K:PySem.W.Frag} {mg:Str->Option Value} {base:Heap} {x qual:Str} {st:Stmt} {f:Addr} {fd:FuncData} {N ps:List Str} {k:Nat} {g:Fs} (F:gf K x qual st f fd) (S:aO N ps (al st))
    (body:∀ (cdv:Value) (A:Around) (outer:List Env) (s:Shared) (H:Hp) (E:XK),dB k (A.deeper (envOfC qual (al st) s.heap.objs.size f cdv)) ->
      iW (dv (cM P w mg) P w K mg base N qual (al st) f cdv A outer s H E) (cg st) g):aU P w K mg base (cM P w mg) (k+1) f fd ps (da (df N.length g) ps.length):=by
  obtain ⟨oc,od,kV,doc,pm,an,cdv,ct,osl,rfl,lk,hcd⟩:=F.ex;refine sX lk hcd S (fun vs H Q E ⟨ds,r,hl,_⟩=>by rw [r.length];exact hl) fun A outer s H vs Q E hr h=>?_
  obtain ⟨ds,r,hl,q⟩:=h;have noOwn:∀ (i:Nat) (d:PyData),(ds.map bX.val++List.replicate (N.length-ds.length) bX.non)[i]?=some (.own d)->False:=fun i d h1=>by
    by_cases hi:i < ds.length
    · rw [List.getElem?_append_left (by simpa using hi),List.getElem?_map] at h1;cases e:ds[i]? with
      | none=>rw [e] at h1;cases h1
      | some d=>rw [e] at h1;cases h1
    · rw [List.getElem?_append_right (by simpa using hi),List.getElem?_replicate] at h1;split at h1
      · cases h1
      · cases h1
  refine ⟨_,body cdv A outer s H E hr H,_,⟨ar.refl _,qZ r,fun i d a h1 h2=>(noOwn i d h1).elim,fun i j d e a h1 h2 h3 h4=>(noOwn i d h1).elim⟩,?_⟩;unfold df at q;cases eg:g (ds.map bX.val++List.replicate (N.length-ds.length) .non) with
  | ex c=>rw [eg] at q;exact ⟨tK q,sC q⟩
  | no=>rw [eg] at q;exact q.elim
  | ok o =>
    rw [eg] at q;cases o with
    | rt d=>exact fun v H' s' p=>q v H' s' p
    | nx ρ=>exact fun σ' H' s'=>q .non H' s'.fm (by simp only [Rp])
    | bk ρ=>exact q.elim
    | ct ρ=>exact q.elim
noncomputable def aA (F:List PyData->R PyData) (fs:aD->R (List PyData)):Fe:=fun ρ=>fs ρ>>=F
theorem sE {X:Cx} {k n:Nat} {f:Addr} {fd:FuncData} {ps:List Str} {F:List PyData->R PyData} {x:Str} {p pos:Pos} {e:Expr} {es:List Expr} {fs:aD->R (List PyData)} {nl:Nat} {G:List Str}
    (C:aU X.prog X.w X.K X.mg X.base (cM X.prog X.w X.mg) k f fd ps (da F n)) (hr:dB k X.A) (T:Tb X nl G) (j:Nat) (hG:G[j]?=some x) (hm:X.mg x=some (.ref f)) (hk:PySem.W.keepIn X.K (.ref f)=true) (hb:bH X.K fd ps []) (ha:mJ X (e::es) fs)
    (hlen:(e::es).length=n) (hfs:∀ ρ ds,fs ρ=.ok ds->ds.length=n)
    (he:(e::es).all aN=true:=by rfl):cw X (.Call (.Name x p) (e::es) [] pos) (aA F fs):=by
  rw [List.all_cons,Bool.and_eq_true] at he;have g:=T.gl x (List.mem_of_getElem? hG);refine PE.imp (sv C hr g.1 hm hk hb .nil sg ha g.2.1 (bz he.1) (jH he.2)) fun σ H Q ⟨ρ,sl,q⟩=>?_
  refine ⟨ρ,sl,?_⟩;unfold aA at q;cases e1:fs ρ with
  | ex c=>rw [e1] at q;exact q
  | no=>rw [e1] at q;exact q
  | ok ds =>
    rw [e1] at q;intro vs H1 s1 r1;rw [List.append_nil];refine ⟨ds,jh.mp r1,hfs ρ ds e1,?_⟩;have q':o6 X fJ (F ds) H Q:=q;cases e2:F ds with
    | ok d=>rw [e2] at q';exact fun v H' s' p'=>q' v H' (s1.trans s') p'
    | ex c=>rw [e2] at q';exact fun H' s'=>Xw.ex q' H' (s1.trans s')
    | no=>rw [e2] at q';exact q'
theorem ap:∀ ρ ds,aq ρ=.ok ds->ds.length=0:=fun ρ ds e=>by cases e;rfl
theorem ah {f:Fe} {g:aD->R (List PyData)} {n:Nat} (h:∀ ρ ds,g ρ=.ok ds->ds.length=n):∀ ρ ds,ag f g ρ=.ok ds->ds.length=n+1:=fun ρ ds e=>by
  unfold ag at e;cases e1:f ρ with
  | ex c=>rw [e1] at e;cases e
  | no=>rw [e1] at e;cases e
  | ok d =>
    rw [e1] at e;cases e2:g ρ with
    | ex c=>rw [e2] at e;cases e
    | no=>rw [e2] at e;cases e
    | ok ds'=>rw [e2] at e;cases e;rw [List.length_cons,h ρ ds' e2]
theorem nq {scope:Scope} {env:Env} (h:∀ x∈scope.names,x.2=.free->∃ c,env.cells.lookup x.1=some c) :
    ∃ cl,closureFor scope env=pure cl/\(∀ x c,cl.lookup x=some c->env.cells.lookup x=some c)/\∀ x∈scope.names,x.2=.free->∃ c,cl.lookup x.1=some c:=by
  suffices gen:∀ (names:List (Str×NameKind)) (acc:List (Str×Addr)),(∀ x∈names,x.2=.free->∃ c,env.cells.lookup x.1=some c)->(∀ x c,acc.lookup x=some c->env.cells.lookup x=some c) ->
      ∃ cl,(forIn names acc fun x r=>if (x.snd==NameKind.free)=true then do let a <- cellOf env x.fst;pure (ForInStep.yield ((x.fst,a)::r)) else pure (ForInStep.yield r):Sem (List (Str×Addr)))=pure cl /\
        (∀ x c,cl.lookup x=some c->env.cells.lookup x=some c)/\(∀ x c,acc.lookup x=some c->∃ c',cl.lookup x=some c')/\∀ x∈names,x.2=.free->∃ c,cl.lookup x.1=some c by
    obtain ⟨cl,h1,h2,_,h4⟩:=gen scope.names [] h fun x c e=>by simp at e
    refine ⟨cl,?_,h2,h4⟩;simp only [closureFor];rw [h1];rfl
  intro names;induction names with
  | nil=>intro acc _ ha;exact ⟨acc,rfl,ha,fun x c e=>⟨c,e⟩,fun x hx=>by cases hx⟩
  | cons y r ih =>
    intro acc hn ha;obtain ⟨n,k⟩:=y;by_cases hk:k=.free
    · subst hk;obtain ⟨c,hc⟩:=hn (n,.free) List.mem_cons_self rfl;obtain ⟨cl,e1,e2,e3,e4⟩:=ih ((n,c)::acc) (fun x hx=>hn x (List.mem_cons_of_mem _ hx)) (fun x c' e=>by
        rw [List.lookup_cons] at e;split at e
        · rename_i q;have:x=n:=by simpa using q
          subst this;cases e;exact hc
        · exact ha x c' e)
      refine ⟨cl,?_,e2,fun x c' e=>?_,fun x hx hf=>?_⟩
      · rw [List.forIn_cons];have:cellOf env n=pure c:=by unfold cellOf;rw [hc]
        simp only [beq_self_eq_true,if_true,this,pure_bind];exact e1
      · by_cases hx:x=n
        · subst hx;exact e3 x c (by rw [List.lookup_cons];simp)
        · have hb:(x==n)=false:=by simpa using hx
          exact e3 x c' (by rw [List.lookup_cons,hb];exact e)
      · rcases List.mem_cons.mp hx with rfl | hx
        · exact e3 n c (by rw [List.lookup_cons];simp)
        · exact e4 x hx hf
    · obtain ⟨cl,e1,e2,e3,e4⟩:=ih acc (fun x hx=>hn x (List.mem_cons_of_mem _ hx)) ha;refine ⟨cl,?_,e2,e3,fun x hx hf=>?_⟩
      · rw [List.forIn_cons];have:(k==NameKind.free)=false:=by simpa using hk
        simp only [this,Bool.false_eq_true,if_false,pure_bind];exact e1
      · rcases List.mem_cons.mp hx with rfl | hx
        · exact absurd hf hk
        · exact e4 x hx hf
noncomputable def vR (env:Env) (p:Str×NameKind):NameKind:=if (p.2==.free&&env.scope.kind==.function&&env.kindOf p.1==some .cell)=true then .cell else p.2
theorem jU (scope:Scope) (env:Env):(relabel scope env).names=scope.names.map fun p=>(p.1,vR env p):=by
  unfold relabel;refine List.map_congr_left fun p _=>?_
  obtain ⟨n,k⟩:=p;unfold vR;dsimp only;split <;> rfl
theorem iB (g:Str×NameKind->NameKind) (x:Str):∀ l:List (Str×NameKind),(l.map fun p=>(p.1,g p)).lookup x=(l.lookup x).map fun k=>g (x,k)
  | []=>rfl
  | (n,k)::r=>by
    rw [List.map_cons];cases hx:x==n with
    | true =>
      have e:x=n:=by simpa using hx
      subst e;simp
    | false =>
      have ne:¬ x=n:=by simpa using hx
      simp only [List.lookup_cons,hx];exact iB g x r
theorem gx (scope:Scope) (env:Env) (x:Str):(relabel scope env).names.lookup x=(scope.names.lookup x).map fun k=>vR env (x,k):=by
  rw [jU];exact iB _ _ _
theorem c6 {scope:Scope} {env:Env} {x:Str} {k:NameKind} (h:scope.names.lookup x=some k) (hk:k≠.free):(relabel scope env).names.lookup x=some k:=by
  rw [gx,h];have:(k==NameKind.free)=false:=by simpa using hk
  simp only [vR,this,Bool.false_and,Bool.false_eq_true,if_false,Option.map_some]
theorem hR {scope:Scope} {env:Env} {x:Str} (h:scope.names.lookup x=some .free):(relabel scope env).names.lookup x=some .free\/(relabel scope env).names.lookup x=some .cell:=by
  rw [gx,h];unfold vR;dsimp only [Option.map_some];split
  · exact .inr rfl
  · exact .inl rfl
theorem lO {scope:Scope} {env:Env} {x:Str} (hc:∀ y∈scope.names,y.2≠.cell) (h:(relabel scope env).names.lookup x=some .free\/(relabel scope env).names.lookup x=some .cell):(x,NameKind.free)∈scope.names:=by
  cases e:scope.names.lookup x with
  | none =>
    rw [gx,e] at h;rcases h with h | h <;> cases h
  | some k =>
    by_cases hk:k=.free
    · subst hk;exact PySem.mem_of_lookup e
    · exfalso;have:=c6 (env:=env) e hk;rw [this] at h;rcases h with h | h
      · cases h;exact hk rfl
      · cases h;exact hc _ (PySem.mem_of_lookup e) rfl
noncomputable def aF (X:Cx) (N:List Str) (scope:Scope) (cl:List (Str×Addr)) (C:Addr) (s:Shared) (H:Hp) (fp:List Addr) (E:Value->Shared->Prop:=fun _ _=>False):Cx :=
  { X with N:=N,s₀:=s,H₀:=H,env:=compEnvC scope cl C X.env,outer:=X.stack,stack:=X.stack,ex:=fp,fn:=fun _=>false,pn:=[],xe:=E }
noncomputable def de (sc:Scope) (N:List Str) (own:Nat) (G:List Str) (oN:List Str) (fr:List Nat):Prop :=
  sc.kind=.function/\(∀ y∈sc.names,y.2≠.cell)/\(∀ y∈sc.names,y.2=.local->sc.names.lookup y.1=some .local)/\N.Nodup/\(∀ x∈N.take own,sc.names.lookup x=some .local)/\(∀ x∈N.drop own,sc.names.lookup x=some .free) /\
  (∀ x∈N,(x==("__debug__" : Str))=false/\(x==("__classdict__" : Str))=false)/\(∀ x∈G,sc.names.lookup x=some .globalImplicit/\(x==("__debug__" : Str))=false/\x≠("__name__" : Str)) /\
  own<=N.length/\(N.drop own).map some=fr.map fun i=>oN[i]?
noncomputable instance {sc:Scope} {N:List Str} {own:Nat} {G oN:List Str} {fr:List Nat}:Decidable (de sc N own G oN fr):=by unfold de;infer_instance
theorem sd {X:Cx} {nl:Nat} {G0:List Str} (T:Tb X nl G0) {sc:Scope} {N:List Str} {own:Nat} {G oN:List Str} {fr:List Nat} (ck:de sc N own G oN fr) (cl:List (Str×Addr)) (C:Addr) (s:Shared) (H:Hp) (fp:List Addr) :
    Tb (aF X N sc cl C s H fp) own G:=by
  obtain ⟨_,_,_,nd,l,f,db,g,_,_⟩:=ck;refine ⟨T.hu,T.calm,nd,fun x hx=>?_,fun x hx=>?_,fun x hx=>?_⟩
  · refine ⟨?_,db x hx⟩;have hx':x∈N.take own++N.drop own:=by rw [List.take_append_drop];exact hx
    rcases List.mem_append.mp hx' with z | z
    · exact .inl (c6 (l x z) (by decide))
    · rcases hR (env:=X.env) (f x z) with q | q
      · exact .inr (.inr q)
      · exact .inr (.inl q)
  · have q:=c6 (env:=X.env) (l x hx) (by decide);exact ⟨.inl q,.inr q⟩
  · obtain ⟨g1,g2,g3⟩:=g x hx;exact ⟨c6 (env:=X.env) g1 (by decide),g2,g3⟩
theorem pK {X:Cx} {nl:Nat} {G0:List Str} (T:Tb X nl G0) {sc:Scope} {N:List Str} {own:Nat} {G oN:List Str} {fr:List Nat} (ck:de sc N own G oN fr) (cl:List (Str×Addr)) (C:Addr) (s:Shared) (H:Hp) (fp:List Addr) (E:Value->Shared->Prop) :
    Tb (aF X N sc cl C s H fp E) own G:=let T1:=sd T ck cl C s H fp;⟨T1.hu,T1.calm,T1.nd,T1.vis,T1.loc,T1.gl⟩
noncomputable def xF (X:Cx) (ifs:List Expr) (t:TT):Prop :=
  ∀ (pins:List (Addr×Obj)) (s:Shared) (σ:St) (H:Hp) (Q:Bool->Hp->Prop),az X pins σ H s->t σ H Q->wpAny (model X.prog X.w) X.A (forIn ifs true fun c r=>if r=true then do let ok <- isTrue c X.env (eval c X.env);pure (ForInStep.yield ok) else pure (ForInStep.yield r))
    (TP X pins σ Q) X.xe s
noncomputable def pq (X:Cx) (ifs:List Expr) (t:aD->R Bool):Prop:=xF X ifs (rL X t)
structure Z.pq (X:Cx) (ifs:List Expr) (t:aD->R Bool):Prop where
  un:D2.pq X ifs t
theorem dA {X:Cx}:Z.pq X [] (fun _=>.ok true):=⟨fun pins s σ H Q I ⟨ρ,sl,q⟩=>wpAny_tests_nil ⟨H,I,q H (ar.refl _)⟩⟩
theorem mt {X:Cx} {c:Expr} {t:aD->R Bool} (h:Z.j4 X c t):Z.pq X [c] t:=⟨have h:=h.un;fun pins s σ H Q I q=>wpAny_tests_one (h pins s σ H Q I q)⟩
noncomputable def bf (b:PyData->aD->Option aD) (t:aD->R Bool) (f:Fe) (ρ:aD):List PyData->R (List PyData)
  | []=>.ok []
  | d::ds=>match b d ρ with
    | none=>.no
    | some ρ1=>t ρ1>>=fun k=>if k=true then f ρ1>>=fun x=>bf b t f ρ ds>>=fun xs=>.ok (x::xs) else bf b t f ρ ds
noncomputable def au (own:Nat) (fr:List Nat) (ρ:aD):aD:=List.replicate own .non++fr.map fun i=>ρ.getD i .non
noncomputable def mw {α:Type}:R α->R α
  | .ex _=>.no
  | r=>r
noncomputable def ce (it:aD->R (List PyData)) (own:Nat) (fr:List Nat) (b:PyData->aD->Option aD) (t:aD->R Bool) (f:Fe):Fe:=fun ρ =>
  mw (it ρ)>>=fun ds=>if ds.length<=sizeLine then match bf b t f (au own fr ρ) ds with
    | .ok xs=>.ok (.list xs)
    | .ex c=>.ex c
    | .no=>.no
  else .no
noncomputable def eA (own:Nat) (fr:List Nat) (σ:St):St:=List.replicate own none++fr.map fun i=>(σ[i]?).join
theorem sG {H:Hp} {σ:St} {ρ:aD} (h:Sl H σ ρ) (own:Nat) (fr:List Nat) (hin:∀ i∈fr,i < ρ.length):Sl H (eA own fr σ) (au own fr ρ):=by
  refine ⟨by simp [eA,au],fun i c o h1 h2=>?_⟩;unfold au at h1;unfold eA at h2;by_cases hi:i < own
  · rw [List.getElem?_append_left (by simpa using hi),List.getElem?_replicate,if_pos hi] at h1;cases h1;exact True.intro
  · rw [List.getElem?_append_right (by simpa using hi),List.getElem?_map,List.length_replicate] at h1 h2;cases e:fr[i-own]? with
    | none=>rw [e] at h1;cases h1
    | some j =>
      rw [e] at h1 h2;have hj:=hin j (List.mem_of_getElem? e);have hj':j < σ.length:=by rw [h.1];exact hj
      cases h1;cases h2;refine h.2 j _ _ ?_ ?_
      · show ρ[j]?=some (ρ.getD j .non);rw [List.getD_eq_getElem?_getD,List.getElem?_eq_getElem hj];rfl
      · show σ[j]?=some ((σ[j]?).join);rw [List.getElem?_eq_getElem hj'];rfl
section
variable {X:Cx} {pins:List (Addr×Obj)} {σ:St} {H:Hp} {s:Shared} {nl:Nat} {G0:List Str} {sc:Scope} {N:List Str} {own:Nat} {G:List Str} {fr:List Nat} {cl:List (Str×Addr)} {fp:List Addr} {a C:Addr} {h4:Heap} {t4:Nat} {m:Str->Option Value}
theorem pT (I:az X pins σ H s) (ck:de sc N own G X.N fr) (hf:∀ b∈fp,iT X pins H b) (hob:∀ b∈fp,b < s.heap.objs.size) (hcl1:∀ x c,cl.lookup x=some c->X.env.cells.lookup x=some c) (hcl2:∀ x∈sc.names,x.2=.free->∃ c,cl.lookup x.1=some c)
    (vis:∀ x∈X.N,vt X.env.scope x) (hout:∀ y∈sc.names,y.2=.free->X.env.kindOf y.1=some .cell\/X.env.kindOf y.1=some .free)
    (ha:s.heap.objs.size<=a) (hC:s.heap.objs.size<=C) (hac:a≠C) (keep:∀ b o,s.heap.get? b=some o->h4.get? b=some o) (hl:h4.get? a=some { cls:=.type "list",data:=.seq #[] 0 }) (hn:h4.Ns C m) :
    az (aF X N sc cl C s H fp) [] (eA own fr σ) (cU H a (.lst [])) { s with heap:=h4,toks:=t4 }:=by
  obtain ⟨ck1,ck2,ck3,nd,l,f,db,g,ol,ofr⟩:=ck;have hHa:H a=none:=I.hok.fresh ha;have hHC:H C=none:=I.hok.fresh hC;have lt:∀ {b:Addr} {o:Obj},s.heap.get? b=some o->b < s.heap.objs.size:=fun e=>Heap.lt_size e
  have cellLt:∀ x c,cl.lookup x=some c->c < s.heap.objs.size:=fun x c e=>by
    obtain ⟨v,q⟩:=I.cell x c (hcl1 x c e);exact q.lt
  refine ⟨⟨I.ok.mod,ck1,I.ok.glob,I.ok.blt,hC,fun x y c h1 h2=>I.ok.inj x y c (hcl1 x c h1) (hcl1 y c h2),fun x hx=>?_,fun x c hx=>(Bool.false_ne_true hx).elim,I.ok.hd,I.ok.frames,.inl rfl,fun b hb=>⟨?_,fun x c e=>?_⟩,I.bs,Nat.le_trans I.ok.bsz I.sz,fun b o e hb=>?_,fun b hb hs=>?_,I.stack,I.stkFree⟩,
    rfl,I.bare,Un.laid keep ha hHa,⟨m,hn,fun i x v h1 h2 h3=>?_⟩,fun x c e=>?_,?_,fun x c e=>?_,fun p hp=>?_,?_,?_⟩
  · have q:=lO (env:=X.env) ck2 (show (relabel sc X.env).names.lookup x=some .free\/(relabel sc X.env).names.lookup x=some .cell from hx.elim .inr .inl);exact hcl2 _ q rfl
  · exact Nat.ne_of_lt (Nat.lt_of_lt_of_le (hob b hb) hC)
  · exact (hf b hb).2.2.2.2.1 x c (hcl1 x c e)
  · rcases (hf b hb).2.2.2.1 with z | z
    · exact I.ok.noex b o e z
    · exact absurd (Nat.lt_of_lt_of_le (Heap.lt_size e) I.ok.bsz) (Nat.not_lt.mpr z)
  · rcases List.mem_cons.mp (I.stkSub b hs) with z | z
    · exact (hf b hb).2.1 z
    · exact (hf b hb).2.2.1 z
  · -- a captured name
    have hi:¬ i < own:=fun hi=>by
      unfold eA at h2;rw [List.getElem?_append_left (by simpa using hi),List.getElem?_replicate,if_pos hi] at h2;cases h2
    unfold eA at h2;rw [List.getElem?_append_right (by simpa using hi),List.getElem?_map,List.length_replicate] at h2;cases e:fr[i-own]? with
    | none=>rw [e] at h2;cases h2
    | some j =>
      rw [e] at h2;have h2':(σ[j]?).join=some v:=Option.some.inj h2;have hσ:σ[j]?=some (some v):=by
        cases q:σ[j]? with
        | none=>rw [q] at h2';cases h2'
        | some o=>rw [q] at h2';exact congrArg some h2'
      have hx:(N.drop own)[i-own]?=some x:=by
        rw [List.getElem?_drop];have:own+(i-own)=i:=by omega
        rw [this];exact h1
      have hj:X.N[j]?=some x:=by
        have q:=congrArg (fun l=>l[i-own]?) ofr;simp only [List.getElem?_map,hx,e,Option.map_some] at q;exact (Option.some.inj q).symm
      have hfree:=f x (List.mem_of_getElem? hx);obtain ⟨c,hc⟩:=hcl2 _ (PySem.mem_of_lookup hfree) rfl;have hXc:=hcl1 x c hc;obtain ⟨m0,hn0,hl0⟩:=I.loc;obtain ⟨u,ru,lk⟩:=hl0 j x v hj hσ (vis x (List.mem_of_getElem? hj));have ko:=hout _ (PySem.mem_of_lookup hfree) rfl;refine ⟨u,ru,.inr ⟨(hR (env:=X.env) hfree).symm,c,hc,?_⟩⟩;rcases lk with ⟨k1,_⟩ | ⟨_,c',e1,ob,q1,q2⟩
      · exfalso;rcases ko with k | k <;> (rw [k] at k1;cases k1)
      · rw [hXc] at e1;cases e1;exact ⟨ob,keep _ _ q1,q2⟩
  · obtain ⟨v,o,q,d⟩:=I.cell x c (hcl1 x c e);exact ⟨v,o,keep _ _ q,d⟩
  · show cU H a (.lst []) C=none;rw [aJ (Ne.symm hac)];exact hHC
  · have q:=I.freeC x c (hcl1 x c e);show cU H a (.lst []) c=none;rw [aJ (Nat.ne_of_lt (Nat.lt_of_lt_of_le (cellLt x c e) ha))];exact q
  · exact absurd (show p∈([]:List (Addr×Obj)) from hp) (by simp)
  · exact I.hok.laid keep ha ⟨Nat.zero_le _,[],0,.nil,hl⟩
  · show (eA own fr σ).length=N.length;have q:=congrArg List.length ofr;rw [List.length_map,List.length_map,List.length_drop] at q;unfold eA;rw [List.length_append,List.length_replicate,List.length_map];omega
end
noncomputable def iS (ρ0 ρ1:aD):Prop:=ρ1.length=ρ0.length/\∀ (i:Nat) (c:bX),ρ0[i]?=some c->c=.non\/ρ1[i]?=some c
theorem Sl.unfit {H:Hp} {σ:St} {ρ0 ρ1:aD} (h:Sl H σ ρ1) (f:iS ρ0 ρ1):Sl H σ ρ0:=by
  refine ⟨h.1.trans f.1,fun i c o h1 h2=>?_⟩;rcases f.2 i c h1 with rfl | q
  · exact True.intro
  · exact h.2 i c o q h2
noncomputable def qH (H0:Hp) (σ:St) (ρ:aD):Prop:=∀ (i:Nat) (e:PyData),ρ[i]?=some (.own e)->∃ v,σ[i]?=some (some v)/\gC H0 e v
theorem oQ {X:Cx} {J:It} {tn:Nat->Heap->Prop} {it a:Addr} {fp:List Addr} {tg iter elt:Expr} {ifs:List Expr} {scope:Scope} {pos:Pos} {b:PyData->aD->Option aD} {t:aD->R Bool} {f:Fe} {ds:List PyData} {r:R (List PyData)} {Gd:Hp->Prop} {H0:Hp} {ρ0:aD}
    {Rk:Result->Shared->Prop} (T:oy X.prog X.w X.K tg J fp it tn) (calm:X.calm=true) (hfp:∀ H:Hp,(∀ b∈fp,H b=none)->∀ b∈fp,iT X [] H b) (hxe:∀ e s',X.xe e s'->notedBy (model X.prog X.w) X.A X.env (fun x s'=>Rk (.error x) s') e s') (hX:∀ c,r=.ex c->Xw X c H0) (hno:r≠.no) (hg:n5 X tg b) (ht:pq X ifs t) (hf:cw X elt f)
    (idt:tm J Gd ds) (sta:wl H0 (fun _=>False) Gd) (hsz:ds.length<=sizeLine) (ha0:H0 a=none) (hb0:∀ d ρ1,b d ρ0=some ρ1->iS ρ0 ρ1)
    (fin:∀ xs s' σ' H' vs,r=.ok xs->az X [] σ' H' s'->ar H0 H'->H' a=some (.lst vs)->aY H' xs vs->Rk (.ok .next) s') :
    ∀ {s:Shared} {σ:St} {H:Hp},az X [] σ H s->tn 0 s.heap->(∀ b∈fp,H b=none)->ar H0 H->H a=some (.lst [])->bf b t f ρ0 ds=r->Sl H σ ρ0->qH H0 σ ρ0 ->
      codeAny (model X.prog X.w) X.A (.compLoop (.ListComp elt [⟨tg,iter,ifs,0⟩] scope pos) 0 (.ref it) (.ref a) X.env) Rk s:=by
  intro s σ H I st fr s0 hla hc sl ow;refine codeAny_loop rfl (fun n s=>∃ i acc σ H vs,n=ds.length-i/\i<=ds.length/\acc.length<=i/\az X [] σ H s/\tn i s.heap/\(∀ b∈fp,H b=none)/\ar H0 H/\H a=some (.lst vs)/\aY H acc vs/\(bf b t f ρ0 (ds.drop i)>>=fun cP=>.ok (acc++cP))=r /\
    Sl H σ ρ0/\qH H0 σ ρ0) (fun n s hI=>?_) ds.length ⟨0,[],σ,H,[],by simp,Nat.zero_le _,Nat.le_refl _,I,st,fr,s0,hla,aY.nil,by rw [List.drop_zero,hc];cases r <;> rfl,sl,ow⟩
  clear I st fr s0 hla hc sl ow;obtain ⟨i,acc,σ,H,vs,rfl,hi,hal,I,st,fr,s0,hla,ra,hc,sl,ow⟩:=hI;show wpAny _ X.A ((compTurn (.ListComp elt [⟨tg,iter,ifs,0⟩] scope pos) 0 (.ref it) (.ref a) X.env).onRaise (fun x=>do noteFrame x X.env;theTreesLotGoes x)) _ _ s;refine wpAny_noted ?_;rw [compTurn_list];have gd:Gd H:=sta H (Kp.of s0) fun _ _ z=>z.elim
  have noex:∀ {α:Type} {m:Sem α} {Q Q':α->Shared->Prop} {s:Shared},wpAny (model X.prog X.w) X.A m Q X.xe s->(∀ v s,Q v s->Q' v s)->wpAny (model X.prog X.w) X.A m Q' (notedBy (model X.prog X.w) X.A X.env (fun x s'=>Rk (.error x) s')) s:=fun h k =>
    wpAny_mono h k hxe
  by_cases hlt:i < ds.length
  · obtain ⟨d,hd⟩:∃ d,ds[i]?=some d:=⟨ds[i],List.getElem?_eq_getElem hlt⟩
    have hdrop:ds.drop i=d::ds.drop (i+1):=by
      rw [List.drop_eq_getElem_cons hlt];congr 1;exact Option.some.inj ((List.getElem?_eq_getElem hlt).symm.trans hd)
    rw [hdrop] at hc;unfold bf at hc;refine wpAny_bind (wpAny_standAt (wpAny_bind (cG (T.item X rfl rfl rfl calm i [] s σ H _ I (hfp H fr) st (idt.go i H gd hlt)) fun r s1 ⟨u,hr,h1⟩=>?_)));subst hr;refine wpAny_bind (cG h1 fun _ s2 ⟨x,H2,I2,r2,y2,st2,fr2⟩=>?_);obtain ⟨s02,p2⟩:=idt.yld i H x H2 d gd hd y2;have I2':=I2.pinned (hfp H2 fr2) (T.obj _ _ st2);have back:∀ {σ':St} {H':Hp} {s':Shared},az X ([]++jj fp s2.heap) σ' H' s'->az X [] σ' H' s'/\tn (i+1) s'.heap/\∀ b∈fp,H' b=none:=fun {σ' H' s'} J' =>
      ⟨J'.unpinned,T.keep _ _ _ st2 fun b hb o e=>(J'.pin (b,o) (List.mem_append_right _ (List.mem_append_right _ (fF hb e)))).1,fun b hb=>by
        obtain ⟨o,e,_⟩:=T.obj _ _ st2 b hb;exact (J'.pin (b,o) (List.mem_append_right _ (List.mem_append_right _ (fF hb e)))).2.1⟩
    cases eb:b d ρ0 with
    | none=>rw [eb] at hc;exact absurd hc.symm hno
    | some ρ1 =>
      rw [eb] at hc;dsimp only at hc;have hfit:=hb0 d ρ1 eb;refine wpAny_bind (noex (hg _ s2 σ H2 x u (fun σ' H'=>H'=H2/\Sl H2 σ' ρ1/\∀ (i:Nat) (e:PyData),ρ1[i]?=some (.own e)->ρ0[i]?=some (.own e)/\σ'[i]?=σ[i]?) I2' r2 ⟨ρ0,d,sl.mono s02,p2,by rw [eb];exact fun σ' sl' w'=>⟨rfl,sl',w'⟩⟩) fun _ s3 ⟨σ3,H3,I3,e3,sl3,w3⟩=>?_);subst e3;have ow3:qH H0 σ3 ρ0:=fun j e h=>by
        obtain ⟨v,z1,z2⟩:=ow j e h;rcases hfit.2 j _ h with z | z
        · cases z
        · exact ⟨v,by rw [(w3 j e z).2];exact z1,z2⟩
      cases et:t ρ1 with
      | no=>rw [et] at hc;exact absurd hc.symm hno
      | ex c =>
        rw [et] at hc;exact wpAny_bind (noex (ht _ s3 σ3 H3 (fun _ _=>False) I3 ⟨ρ1,sl3,by rw [et];exact (hX c hc.symm).mono (s0.trans s02)⟩) fun ok s4 ⟨H4,I4,z⟩=>z.elim)
      | ok k =>
        rw [et] at hc;refine wpAny_bind (noex (ht _ s3 σ3 H3 (fun b' H'=>b'=k/\ar H3 H') I3 ⟨ρ1,sl3,by rw [et];exact fun H' s'=>⟨rfl,s'⟩⟩) fun ok s4 ⟨H4,I4,e4,s34⟩=>?_);subst e4;have s04:=(s0.trans s02).trans s34;have hla4:H4 a=some (.lst vs):=s34 _ _ (s02 _ _ hla);have ra4:aY H4 acc vs:=(ra.mono s02).mono s34;cases ok with
        | false =>
          obtain ⟨J1,J2,J3⟩:=back I4;have hc':(bf b t f ρ0 (ds.drop (i+1))>>=fun cP=>.ok (acc++cP))=r:=hc;exact wpAny_pure ⟨rfl,ds.length-(i+1),by omega,i+1,acc,σ3,H4,vs,rfl,hlt,by omega,J1,J2,J3,s04,hla4,ra4,hc',(sl3.unfit hfit).mono s34,ow3⟩
        | true =>
          have hc':((f ρ1>>=fun x=>bf b t f ρ0 (ds.drop (i+1))>>=fun xs=>.ok (x::xs))>>=fun cP=>.ok (acc++cP))=r:=hc;cases ef:f ρ1 with
          | no=>rw [ef] at hc';exact absurd hc'.symm hno
          | ex c =>
            rw [ef] at hc';exact wpAny_bind (wpAny_bind (noex (hf _ s4 σ3 H4 (fun _ _=>False) I4 ⟨ρ1,sl3.mono s34,by rw [ef];exact (hX c hc'.symm).mono s04⟩) fun yv s5 ⟨v5,H5,I5,r5,z⟩=>z.elim))
          | ok y =>
              rw [ef,R.ok_bind] at hc';have hc2:(bf b t f ρ0 (ds.drop (i+1))>>=fun cP=>.ok ((acc++[y])++cP))=r:=by
                rw [<- hc'];cases bf b t f ρ0 (ds.drop (i+1)) with
                | ok cP=>simp only [R.ok_bind,List.append_assoc,List.singleton_append]
                | ex c=>rfl
                | no=>rfl
              refine wpAny_bind (wpAny_bind (noex (hf _ s4 σ3 H4 (fun v H'=>ar H4 H'/\Rp H' y v) I4 ⟨ρ1,sl3.mono s34,by rw [ef];exact fun v H' s' p'=>⟨s',p'⟩⟩) fun yv s5 ⟨v5,H5,I5,r5,s45,p5⟩=>?_));have hla5:H5 a=some (.lst vs):=s45 _ _ hla4;have hlen:vs.length < sizeLine:=by
                rw [ra.length];omega
              refine wpAny_bind (noex (ky _ s5 σ3 H5 (.ref a) [v5] (.ref a) [yv] (fun _ H'=>H'=cU H5 a (.lst (vs++[v5]))) I5 rfl (.cons r5 .nil) ⟨a,vs,v5,rfl,rfl,hla5,hlen,rfl⟩) fun _ s6 ⟨v6,H6,I6,r6,e6⟩=>?_);subst e6;obtain ⟨J1,J2,J3⟩:=back I6;have kp:Kp H5 (cU H5 a (.lst (vs++[v5]))):=gw hla5 (.inl ⟨_,rfl⟩);have s06:ar H0 (cU H5 a (.lst (vs++[v5]))):=fun b o e=>by
                rw [aJ (bE e ha0)];exact (s04.trans s45) b o e
              refine wpAny_pure (wpAny_pure ⟨rfl,ds.length-(i+1),by omega,i+1,acc++[y],σ3,_,vs++[v5],rfl,hlt,by rw [List.length_append,List.length_singleton];omega,J1,J2,J3,s06,cr,?_,hc2,?_,ow3⟩)
              · exact aY.append (aY.kp kp _ _ (ra4.mono s45)) (aY.cons (Rp.kp kp _ _ p5) aY.nil)
              · have sl5:Sl H5 σ3 ρ0:=((sl3.unfit hfit).mono s34).mono s45;refine ⟨sl5.1,fun j c o h1 h2=>?_⟩;cases c with
                | exc p=>exact sl5.2 j _ o h1 h2
                | non=>exact True.intro
                | val d' =>
                  obtain ⟨v',z1,z2⟩:=sl5.2 j _ o h1 h2;exact ⟨v',z1,Rp.kp kp _ _ z2⟩
                | own e' =>
                  obtain ⟨v',z1,z2⟩:=ow3 j e' h1;rw [z1] at h2;cases h2;exact ⟨v',rfl,z2.mono s06⟩
  · have e:i=ds.length:=by omega
    subst e;rw [List.drop_length] at hc;have hr':r=.ok acc:=by rw [<- hc];simp only [bf,R.ok_bind,List.append_nil]
    refine wpAny_bind (wpAny_standAt (wpAny_bind (cG (T.done X rfl rfl rfl calm _ [] s σ H _ I (hfp H fr) st (idt.stop _ H gd (Nat.le_refl _))) fun r s1 ⟨hr,I1⟩=>?_)));subst hr;exact wpAny_pure (fin acc s1 σ H vs hr' I1 s0 hla ra)
theorem eS.but {P:Program} {w:World} {H:Hp} {h1 h2:Heap} {C:Addr} (ok:eS P w H h1) (hC:H C=none) (sb:∀ b o,b≠C->h1.get? b=some o->h2.get? b=some o):eS P w H h2:=fun a o e =>
  (ok a o e).stay (fun b u hb q=>sb b u (by
    rcases hb with rfl | hb
    · exact bE e hC
    · exact bE hb hC) q) (fun _ q=>q) fun _ _ q=>q
theorem gr {h h' base:Heap} {C:Addr} (tp:∀ b o,b≠C->h.get? b=some o->h'.get? b=some o):∀ {l:List Env},C∉gM l->h.FunFrames base l->h'.FunFrames base l
  | [],_,_=>trivial
  | env::l,hC,⟨hk,⟨L,o,hf,hn,ho,hd⟩,hr⟩=>⟨hk,⟨L,o,hf,hn,tp L o (fun z=>hC (List.mem_filterMap.mpr ⟨env,List.mem_cons_self,by rw [hf,z]⟩)) ho,hd⟩,gr tp (fun z=>hC (by
    obtain ⟨e,he,hz⟩:=List.mem_filterMap.mp z;exact List.mem_filterMap.mpr ⟨e,List.mem_cons_of_mem _ he,hz⟩)) hr⟩
theorem gX {X:Cx} {tg iter elt:Expr} {ifs:List Expr} {sc:Scope} {pos pos':Pos} {it:aD->R (List PyData)} {b:PyData->aD->Option aD} {t:aD->R Bool} {f:Fe} {N:List Str} {own:Nat} {G G0:List Str} {fr:List Nat} {nl:Nat}
    (T:Tb X nl G0) (ck:de sc N own G X.N fr) (hout:∀ y∈sc.names,y.2=.free->X.env.kindOf y.1=some .cell\/X.env.kindOf y.1=some .free) (hi:oq X tg iter it)
    (hb0:∀ ρ d ρ1,b d (au own fr ρ)=some ρ1->iS (au own fr ρ) ρ1)
    (hbody:∀ cl C s H fp E,Tb (aF X N sc cl C s H fp E) own G->n5 (aF X N sc cl C s H fp E) tg b/\pq (aF X N sc cl C s H fp E) ifs t/\cw (aF X N sc cl C s H fp E) elt f)
    (hs:∀ x,foldedSetIterable iter X.env x=pure x) {use:Option (Value->Sem Unit)} {Qc:Value->Shared->Prop} {pins:List (Addr×Obj)} {s:Shared} {σ:St} {H:Hp} (I:az X pins σ H s) {ρ:aD} {ds:List PyData} {r:R (List PyData)} (sl:Sl H σ ρ) (ei:it ρ=.ok ds)
    (hsz:ds.length<=sizeLine) (ec:bf b t f (au own fr ρ) ds=r) (hX:∀ c,r=.ex c->Xw X c H) (hno:r≠.no) (hstk:∃ env0 outer0 L,X.stack=env0::outer0/\env0.frame=some L/\X.env.frame=some L)
    (fin:∀ (xs:List PyData) (a C:Addr) (H':Hp) (s':Shared) (m:Str->Option Value) (vs:List V),r=.ok xs->az X pins σ H' s'->iT X pins H' C->s'.heap.Ns C m->ar H H'->H a=none->H' a=some (.lst vs)->aY H' xs vs->compPost (model X.prog X.w) X.A X.xe use Qc (.ref a) C (.ok .next) s') :
    wpAny (model X.prog X.w) X.A (comprehension (.ListComp elt [⟨tg,iter,ifs,0⟩] sc pos) sc X.env pos' (newList []) false (eval iter X.env) use) Qc X.xe s:=by
  obtain ⟨cl,hcl,hcl1,hcl2⟩:=nq (scope:=sc) (env:=X.env) fun x hx hf=>I.ok.has _ (hout x hx hf)
  have ck':=ck;obtain ⟨ck1,ck2,ck3,_,_,_,_,_,_,ofr⟩:=ck';have hin:∀ i∈fr,i < ρ.length:=fun i hi=>by
    have e1:ρ.length=X.N.length:=by rw [<- sl.1];exact I.len
    rw [e1];obtain ⟨k,hk⟩:=List.getElem?_of_mem hi;have q:=congrArg (fun l=>l[k]?) ofr;simp only [List.getElem?_map,hk,Option.map_some] at q;cases z:(N.drop own)[k]? with
    | none=>rw [z] at q;cases q
    | some y =>
      rw [z] at q;have q':some y=X.N[i]?:=Option.some.inj q;exact (List.getElem?_eq_some_iff.mp q'.symm).1
  refine wpAny_comprehension_free (use:=use) rfl hs hcl ck1 ck3 ?_;refine cG (hi pins s σ H (fun J H1=>ar H H1/\∃ Gd,tm J Gd ds/\wl H1 (fun _=>False) Gd) I ⟨ρ,sl,by rw [ei];exact fun J H1 s1 z=>⟨s1,z⟩⟩) fun xv s1 h1=>cG h1 fun itv s2 h2=>?_
  obtain ⟨itA,fp,tn,J,H2,e,I2,T2,st2,f2,s02,Gd,idt,sta⟩:=h2;subst e;refine wpAny_newObj_type (wpAny_newFunctionEnv ck2 (by intro y hy;simp at hy) (fun h₁ hns₁ hsb₁=>?_) ck1);dsimp only at hns₁ hsb₁ ⊢;generalize hHp:s2.heap.push { cls:=.type "list",dict:=none,data:=.seq ([]:List Value).toArray }=Hp2 at hns₁ hsb₁ ⊢;have hC:Hp2.objs.size=s2.heap.objs.size+1:=by rw [<- hHp,Heap.size_push]
  have hDC:s2.heap.objs.size≠Hp2.objs.size:=by rw [hC];exact Nat.ne_of_lt (Nat.lt_succ_self _)
  have hCle:s2.heap.objs.size<=Hp2.objs.size:=by rw [hC];exact Nat.le_succ _
  have below:∀ b,b < s2.heap.objs.size->b≠Hp2.objs.size:=fun b hb=>by rw [hC];exact Nat.ne_of_lt (Nat.lt_succ_of_lt hb)
  have old:∀ b o,s2.heap.get? b=some o->h₁.get? b=some o:=fun b o e=>hsb₁.extBut b o (below b (Heap.lt_size e)) (Heap.get?_push_of_some _ (hHp ▸ Heap.get?_push_of_some _ e))
  have hacc:h₁.get? s2.heap.objs.size=some { cls:=.type "list",dict:=none,data:=.seq ([]:List Value).toArray }:=hsb₁.extBut _ _ hDC (Heap.get?_push_of_some _ (hHp ▸ Heap.get?_push_size _ rfl));have hob:∀ b∈fp,b < s2.heap.objs.size:=fun b hb=>by
    obtain ⟨o,e,_⟩:=T2.obj _ _ st2 b hb;exact Heap.lt_size e
  have sl2:Sl H2 σ ρ:=sl.mono s02;have IC:az (aF X N sc cl Hp2.objs.size s2 H2 fp) [] (eA own fr σ) (cU H2 s2.heap.objs.size (.lst [])) { s2 with heap:=h₁,toks:=s2.toks+([]:List (Str×Value)).length } :=
    pT I2 ck f2 hob hcl1 hcl2 (fun x hx=>(T.vis x hx).1) hout (Nat.le_refl _) hCle hDC old hacc hns₁
  let E:Value->Shared->Prop:=fun e s'=>∃ c Ce pins' σ' H' s1 H1,r=.ex c/\X.mg c=some (.ref Ce)/\az (aF X N sc cl Hp2.objs.size s2 H2 fp) pins' σ' H' s1/\ar H2 H1/\kZ X.prog X.w X.stack H' s1 Ce H1 e s'
  obtain ⟨hg,ht,hf⟩:=hbody cl Hp2.objs.size s2 H2 fp E (pK T ck cl Hp2.objs.size s2 H2 fp E);have ha0:H2 s2.heap.objs.size=none:=I2.hok.fresh (Nat.le_refl _);have hfp:∀ H':Hp,(∀ b∈fp,H' b=none)->∀ b∈fp,iT (aF X N sc cl Hp2.objs.size s2 H2 fp E) [] H' b:=fun H' hn b hb =>
    ⟨hn b hb,below b (hob b hb),fun z=>by
      rcases List.mem_cons.mp (I2.stkSub b z) with y | y
      · exact (f2 b hb).2.1 y
      · exact (f2 b hb).2.2.1 y,.inl hb,fun x c e=>(f2 b hb).2.2.2.2.1 x c (hcl1 x c e),fun p hp=>absurd (show p∈([]:List (Addr×Obj)) from hp) (by simp)⟩
  have st3:tn 0 h₁:=T2.keep _ _ _ st2 fun b _ o e=>old b o e
  have slC:Sl H2 (eA own fr σ) (au own fr ρ):=sG sl2 own fr hin;have fin':∀ xs s' σ' H' vs,r=.ok xs->az (aF X N sc cl Hp2.objs.size s2 H2 fp E) [] σ' H' s'->ar H2 H'->H' s2.heap.objs.size=some (.lst vs)->aY H' xs vs ->
      compPost (model X.prog X.w) X.A X.xe use Qc (.ref s2.heap.objs.size) Hp2.objs.size (.ok .next) s':=fun xs s' σ' H' vs hr J' s2' hv rv=>by
    obtain ⟨m,hn,_⟩:=J'.loc;exact fin xs _ _ H' s' m vs hr (I2.call' (s':=s') (ch:=fp) J'.os J'.base J'.hok J'.bare (fun b hb=>⟨(f2 b hb).2.2.2.1,(f2 b hb).2.1,(f2 b hb).2.2.2.2.1,(f2 b hb).2.2.2.2.2⟩)) (I2.fpOk hCle J'.free) hn (s02.trans s2') (s02.free ha0) hv rv
  have hXc:∀ c,r=.ex c->Xw (aF X N sc cl Hp2.objs.size s2 H2 fp E) c H2:=fun c hr H1 s1 Ce hm pins' σ' H' s1' e s' J f =>
    ⟨c,Ce,pins',σ',H',s1',H1,hr,hm,J.unwish,s1,f⟩
  have hxe:∀ e s',E e s'->notedBy (model X.prog X.w) X.A (compEnvC sc cl Hp2.objs.size X.env) (fun x s'=>compPost (model X.prog X.w) X.A X.xe use Qc (.ref s2.heap.objs.size) Hp2.objs.size (.error x) s') e s':=fun e s' hE=>by
    obtain ⟨c,Ce,pins',σ',H',s1,H1,hr,hm,J,same1,f⟩:=hE;obtain ⟨env0,outer0,L,k1,k2,k3⟩:=hstk;refine f.note k1 I.ok.frames k2 k3 fun h4 f4 up=>?_
    obtain ⟨m,hn,_⟩:=(f4.inv (X:=aF X N sc cl Hp2.objs.size s2 H2 fp) J).loc;refine ⟨m,hn,fun h5 sb cenv _=>?_⟩;have fC:=I2.fpOk hCle J.free;have fC1:H1 Hp2.objs.size=none:=(f4.inv (X:=aF X N sc cl Hp2.objs.size s2 H2 fp) J).free;have nfr:Hp2.objs.size∉gM X.stack:=fun z=>by
      rcases List.mem_cons.mp (I2.stkSub _ z) with y | y
      · exact fC.2.1 y
      · exact fC.2.2.1 y
    have Io:=I2.call' (s':=s1) (ch:=fp) J.os J.base J.hok J.bare (fun b hb=>⟨(f2 b hb).2.2.2.1,(f2 b hb).2.1,(f2 b hb).2.2.2.2.1,(f2 b hb).2.2.2.2.2⟩);have Io2:az X pins σ H' { s1 with heap:=PySem.W.hideAll s1.heap [Hp2.objs.size],toks:=s1.toks }:=by
      obtain ⟨g0,g1,g2,g3,g4,g5⟩:=fC;exact Io.turned (t':=s1.toks) (fun b o hb q=>PySem.W.hideAll_get _ q (by simpa using hb)) g0 g1 g3 g4 g5
    obtain ⟨p,a0,B,rfl,t,okB,hp,cov⟩:=f4.ex;have stB:(PySem.W.hideAll B [Hp2.objs.size]).StaysIn B:=fun b o q=>PySem.W.of_hideAll _ q
    have hid:∀ {h:Heap} {b:Addr} {o:Obj},(PySem.W.hideAll h [Hp2.objs.size]).get? b=some o->b≠Hp2.objs.size:=fun {h b o} q z=>by
      rw [PySem.W.hideAll_none _ (by rw [z];exact List.mem_singleton.mpr rfl)] at q;cases q
    have tp:∀ b o,b≠Hp2.objs.size->h4.get? b=some o->h5.get? b=some o:=fun b o hb q=>(sb.2 b hb).trans q
    have ne_e:p≠Hp2.objs.size:=fun z=>by
      obtain ⟨oe,vs,q1,_,q2,_⟩:=t.first;obtain ⟨o,es,ep,q3,q4,_⟩:=hn;have q3':h4.get? Hp2.objs.size=some o:=q3;rw [<- z,q1] at q3';cases q3';rw [q2] at q4;cases q4
    have f5:kZ X.prog X.w X.stack H' { s1 with heap:=PySem.W.hideAll s1.heap [Hp2.objs.size],toks:=s1.toks } Ce H1 (.ref p) { s' with heap:=h5 }:=by
      refine ⟨f4.os,f4.bare,f4.same,⟨p,a0,PySem.W.hideAll B [Hp2.objs.size],rfl,?_,?_,hp,fun b o q n hb=>?_⟩,fun b o q n hb=>?_⟩
      · obtain ⟨t1,t2,t3,fl,oe,vs,T',oT,ts,a1,a2,a3,a4,a5,a6,a7,a8,a9⟩:=t;refine ⟨fun b o q=>tp b o (hid q) (t1 b o (stB b o q)),PySem.W.fresh_of_stays stB t2,gr tp nfr (PySem.W.funFrames_base stB t3),fl,oe,vs,T',oT,ts,tp _ _ ne_e a1,a2,a3,a4,PySem.W.fresh_of_stays stB a5,a6,tp _ _ ?_ a7,a8,a9⟩;intro z;obtain ⟨o,es,ep,q3,q4,_⟩:=hn;have q3':h4.get? Hp2.objs.size=some o:=q3;have a7':h4.get? T'=some oT:=a7;rw [<- z,a7'] at q3';cases q3';rw [a8] at q4;cases q4
      · exact eS.but okB fC1 fun b o hb q=>PySem.W.hideAll_get _ q (by simpa using hb)
      · obtain ⟨z1,z2⟩:=cov b o (PySem.W.of_hideAll _ q) n hb;exact ⟨PySem.W.hideAll_get _ z1 (by simpa using hid q),z2⟩
      · obtain ⟨⟨sl',z1⟩,z2⟩:=f4.slot b o (PySem.W.of_hideAll _ q) n hb;exact ⟨⟨sl',tp b _ (hid q) z1⟩,z2⟩
    refine f5.pass fun h6 f6=>?_
    exact hX c hr H1 (s02.trans same1) Ce hm pins σ H' _ _ _ Io2 f6
  have loop:=oQ (X:=aF X N sc cl Hp2.objs.size s2 H2 fp E) (iter:=iter) (scope:=sc) (pos:=pos) T2 T.calm hfp hxe hXc hno hg ht hf idt sta hsz ha0 (fun d ρ1 e=>hb0 ρ d ρ1 e) fin' (IC.wish E) st3 (fun b hb=>by
      show cU H2 s2.heap.objs.size (.lst []) b=none;rw [aJ (Nat.ne_of_lt (hob b hb))];exact (f2 b hb).1) (bT ha0 _) cr ec (slC.mono (bT ha0 _)) (fun i e h=>by
      obtain ⟨o,z1,v,rfl,z2⟩:=slC.at h;exact ⟨v,z1,z2⟩)
  exact codeAny_compStart_list loop (T2.self _ 0 _ _ _ st3 loop)
theorem lT {X:Cx} {tg iter elt:Expr} {ifs:List Expr} {sc:Scope} {pos:Pos} {it:aD->R (List PyData)} {b:PyData->aD->Option aD} {t:aD->R Bool} {f:Fe} {N:List Str} {own:Nat} {G G0:List Str} {fr:List Nat} {nl:Nat}
    (T:Tb X nl G0) (ck:de sc N own G X.N fr) (hout:∀ y∈sc.names,y.2=.free->X.env.kindOf y.1=some .cell\/X.env.kindOf y.1=some .free) (hi:oq X tg iter it)
    (hb0:∀ ρ d ρ1,b d (au own fr ρ)=some ρ1->iS (au own fr ρ) ρ1)
    (hbody:∀ cl C s H fp E,Tb (aF X N sc cl C s H fp E) own G->n5 (aF X N sc cl C s H fp E) tg b/\pq (aF X N sc cl C s H fp E) ifs t/\cw (aF X N sc cl C s H fp E) elt f)
    (hs:∀ x,foldedSetIterable iter X.env x=pure x:=by intro _;rfl) (hstk:∃ env0 outer0 L,X.stack=env0::outer0/\env0.frame=some L/\X.env.frame=some L:=by exact ⟨_,_,_,rfl,rfl,rfl⟩):jO X (.ListComp elt [⟨tg,iter,ifs,0⟩] sc pos) (ce it own fr b t f):=by
  intro pins s σ H Q I h;obtain ⟨ρ,sl,q⟩:=h;unfold ce at q;rw [eval_ListComp];cases ei:it ρ with
  | ex c=>rw [ei] at q;exact q.elim
  | no=>rw [ei] at q;exact q.elim
  | ok ds =>
    rw [ei] at q;simp only [mw,R.ok_bind] at q;split at q
    · rename_i hsz;cases ec:bf b t f (au own fr ρ) ds with
      | no=>rw [ec] at q;exact q.elim
      | ex c =>
        rw [ec] at q;exact gX (use:=none) T ck hout hi hb0 hbody hs I sl ei hsz ec (fun c' hr=>by cases hr;exact q) (fun z=>nomatch z) hstk fun xs a C H' s' m vs hr=>by cases hr
      | ok xs =>
        rw [ec] at q;refine gX (use:=none) T ck hout hi hb0 hbody hs I sl ei hsz ec (fun c' hr=>by cases hr) (fun z=>nomatch z) hstk fun xs' a C H' s' m vs hr I' fC hn s2' ha hv rv=>?_
        cases hr;obtain ⟨f0,f1,f2,f3,f4,f5⟩:=fC;refine ⟨m,hn,fun h' sb=>⟨.ref a,H',I'.turned (t':=s'.toks) (fun b o hb e=>sb.extBut b o hb e) f0 f1 f3 f4 f5,rfl,?_⟩⟩;refine q _ H' s2' ⟨?_,_,rfl,ha⟩;simp only [gC];exact ⟨_,vs,rfl,hv,rv⟩
    · exact q.elim
theorem uK {X:Cx} {tg iter elt:Expr} {ifs:List Expr} {sc:Scope} {pos:Pos} {it:aD->R (List PyData)} {b:PyData->aD->Option aD} {t:aD->R Bool} {f:Fe} {N:List Str} {own:Nat} {G G0:List Str} {fr:List Nat} {nl:Nat} (T:Tb X nl G0) (ck:de sc N own G X.N fr) (hout:∀ y∈sc.names,y.2=.free->X.env.kindOf y.1=some .cell\/X.env.kindOf y.1=some .free) (hi:Z.oq X tg iter it) (hb0:∀ ρ d ρ1,b d (au own fr ρ)=some ρ1->iS (au own fr ρ) ρ1) (hbody:∀ cl C s H fp E,Tb (aF X N sc cl C s H fp E) own G->Z.n5 (aF X N sc cl C s H fp E) tg b/\Z.pq (aF X N sc cl C s H fp E) ifs t/\Z.cw (aF X N sc cl C s H fp E) elt f) (hs:∀ x,foldedSetIterable iter X.env x=pure x:=by intro _;rfl) (hstk:∃ env0 outer0 L,X.stack=env0::outer0/\env0.frame=some L/\X.env.frame=some L:=by exact ⟨_,_,_,rfl,rfl,rfl⟩):Z.jO X (.ListComp elt [⟨tg,iter,ifs,0⟩] sc pos) (ce it own fr b t f) :=
  ⟨D2.lT T ck hout hi.un hb0 (fun cl C s H fp E T=>let ⟨q1,q2,q3⟩:=hbody cl C s H fp E T;⟨q1.un,q2.un,q3.un⟩) hs hstk⟩
theorem sr {X:Cx} {tg iter elt:Expr} {ifs:List Expr} {sc:Scope} {pos py spos:Pos} {it:aD->R (List PyData)} {b:PyData->aD->Option aD} {t:aD->R Bool} {f:Fe} {N:List Str} {own:Nat} {G G0:List Str} {fr:List Nat} {nl:Nat} {y:Str} {i:Nat}
    (T:Tb X nl G0) (ck:de sc N own G X.N fr) (hout:∀ y∈sc.names,y.2=.free->X.env.kindOf y.1=some .cell\/X.env.kindOf y.1=some .free) (hi:oq X tg iter it)
    (hb0:∀ ρ d ρ1,b d (au own fr ρ)=some ρ1->iS (au own fr ρ) ρ1)
    (hbody:∀ cl C s H fp E,Tb (aF X N sc cl C s H fp E) own G->n5 (aF X N sc cl C s H fp E) tg b/\pq (aF X N sc cl C s H fp E) ifs t/\cw (aF X N sc cl C s H fp E) elt f)
    (hN:(X.N.take nl)[i]?=some y) (hsw:swapsWith (.ListComp elt [⟨tg,iter,ifs,0⟩] sc pos) (some (.Name y py)) spos.line X.env=pure true)
    (hs:∀ x,foldedSetIterable iter X.env x=pure x:=by intro _;rfl) (hstk:∃ env0 outer0 L,X.stack=env0::outer0/\env0.frame=some L/\X.env.frame=some L:=by exact ⟨_,_,_,rfl,rfl,rfl⟩):jg X (.Assign [.Name y py] (.ListComp elt [⟨tg,iter,ifs,0⟩] sc pos) spos) (gj i (ce it own fr b t f)):=fun Fm=>by
  intro pins s σ H D I h;obtain ⟨ρ,sl,q⟩:=h;unfold gj ce at q;obtain ⟨hNi,hl,hf⟩:=T.nm hN;cases ei:it ρ with
  | ex c=>rw [ei] at q;exact q.elim
  | no=>rw [ei] at q;exact q.elim
  | ok ds =>
    rw [ei] at q;simp only [mw,R.ok_bind] at q;by_cases hsz:ds.length<=sizeLine
    · rw [if_pos hsz] at q;cases ec:bf b t f (au own fr ρ) ds with
      | no=>rw [ec] at q;exact q.elim
      | ex c =>
        rw [ec] at q;rw [exec_Assign_Name_used _ _ _ _ hsw];refine wpAny_bind (wpAny_standAt (wpAny_bind ?_));show wpAny _ X.A (do let _ <- comprehension (.ListComp elt [⟨tg,iter,ifs,0⟩] sc pos) sc X.env _ (newList []) false (eval iter X.env) (some (assign (.Name y py) X.env))) _ _ s;exact wpAny_bind (cG (gX (use:=some (assign (.Name y py) X.env)) (Qc:=fun _ s'=>False) T ck hout hi hb0 hbody hs I sl.sl ei hsz ec (fun c' hr=>by cases hr;exact q.1.mono sl.fm) (fun z=>nomatch z) hstk fun xs a C H' s' m vs hr=>by cases hr) fun _ s' hq=>hq.elim)
      | ok xs =>
        rw [ec] at q;rw [exec_Assign_Name_used _ _ _ _ hsw];refine wpAny_bind (wpAny_standAt (wpAny_bind ?_));show wpAny _ X.A (do let _ <- comprehension (.ListComp elt [⟨tg,iter,ifs,0⟩] sc pos) sc X.env _ (newList []) false (eval iter X.env) (some (assign (.Name y py) X.env))) _ _ s;refine wpAny_bind (cG (gX (use:=some (assign (.Name y py) X.env)) (Qc:=fun _ s'=>SP X pins D .next s') T ck hout hi hb0 hbody hs I sl.sl ei hsz ec (fun c' hr=>by cases hr) (fun z=>nomatch z) hstk fun xs' a C H' s' m vs hr I' fC hn s2' ha hv rv=>?_) fun _ s' hq=>wpAny_pure (wpAny_pure hq));cases hr;obtain ⟨f0,f1,f2,f3,f4,f5⟩:=fC;show wpAny _ X.A (assign (.Name y py) X.env (.ref a)) _ _ _;refine wpAny_assign_Name (kq I' T.nd hNi hl (v:=.ref a) rfl (fun s'' I'' k=>?_) hf);have sls:fj Fm H' (σ.set i (some (.ref a))) (ρ.set i (.own (.list xs))):=fj.setOwn sl (sl.mono s2') s2' i ⟨by simp only [gC];exact ⟨a,vs,rfl,hv,rv⟩,a,rfl,ha⟩;refine ⟨m,?_,fun h' sb=>⟨_,H',I''.turned (t':=s''.toks) (fun b o hb e=>sb.extBut b o hb e) f0 f1 f3 f4 f5,q _ H' sls⟩⟩;obtain ⟨a',sb',ha'⟩:=k;refine hn.sameBut sb' ?_;rcases ha' with rfl | ha'
        · exact f1
        · exact Ne.symm (f4 y a' ha')
    · rw [if_neg hsz] at q;exact q.elim
theorem fj.freeze {Fm H:Hp} {σ:St} {ρ:aD} {i:Nat} {d:PyData} {a:Addr} {u:HO} {o:Obj} (h:fj Fm H σ ρ) (h1:ρ[i]?=some (.own d)) (h2:σ[i]?=some (some (.ref a))) (hu:H a=some u) (hm:(∃ xs,u=.lst xs)\/∃ ks,u=.dK ks)
    (hr:Rp (cU H a (.frz o u)) d (.ref a)):fj Fm (cU H a (.frz o u)) σ (ρ.set i (.val d)):=by
  have hFa:=h.own i d a h1 h2;have kp:Kp H (cU H a (.frz o u)):=gw hu hm;refine ⟨fun b x e=>?_,⟨by rw [List.length_set];exact h.sl.1,fun j c w' e1 e2=>?_⟩,fun j e b e1 e2=>?_,fun j k e f b e1 e2 e3 e4=>?_⟩
  · rw [aJ (bE e hFa)];exact h.fm b x e
  · rw [List.getElem?_set] at e1;by_cases hij:i=j
    · subst hij;rw [if_pos rfl] at e1;split at e1
      · cases e1;rw [h2] at e2;cases e2;exact ⟨_,rfl,hr⟩
      · cases e1
    · rw [if_neg hij] at e1;have q:=h.sl.2 j c w' e1 e2;cases c with
      | exc p=>exact q
      | non=>exact True.intro
      | val d'=>obtain ⟨v,z1,z2⟩:=q;exact ⟨v,z1,Rp.kp kp _ _ z2⟩
      | own d' =>
        obtain ⟨v,z1,z2⟩:=q;subst z1;obtain ⟨b,ob,rfl,hb⟩:=lC z2;have nb:b≠a:=fun z=>hij (by subst z;exact h.apart i j d d' b h1 e1 h2 e2)
        refine ⟨_,rfl,?_⟩;cases d' <;> simp only [gC] at z2 ⊢
        · obtain ⟨b',vs,e,hb',r⟩:=z2;cases e;exact ⟨b,vs,rfl,by rw [aJ nb];exact hb',aY.kp kp _ _ r⟩
        · obtain ⟨b',vs,e,hb',r⟩:=z2;cases e;exact ⟨b,vs,rfl,by rw [aJ nb];exact hb',ft.kp kp _ _ r⟩
  · obtain ⟨ne,e1⟩:=bU (fun e z=>by cases z) e1;exact h.own j e b e1 e2
  · obtain ⟨ne,e1⟩:=bU (fun e z=>by cases z) e1;obtain ⟨ne',e2⟩:=bU (fun e z=>by cases z) e2;exact h.apart j k e f b e1 e2 e3 e4
theorem vM {X:Cx} {pins:List (Addr×Obj)} {s:Shared} {Fm H:Hp} {σ:St} {ρ:aD} {i:Nat} {d:PyData} (I:az X pins σ H s) (h:fj Fm H σ ρ) (h1:ρ[i]?=some (.own d)) :
    ∃ H' v,az X pins σ H' s/\fj Fm H' σ (ρ.set i (.val d))/\σ[i]?=some (some v)/\Rp H' d v:=by
  obtain ⟨w',h2,v,rfl,q⟩:=h.sl.at h1;cases d <;> simp only [gC] at q
  · rename_i ds;obtain ⟨a,vs,rfl,ha,r⟩:=q;obtain ⟨o,J⟩:=gH I ha (.inl ⟨_,rfl⟩);have hr:Rp (cU H a (.frz o (.lst vs))) (.list ds) (.ref a):=by
      simp only [Rp];exact ⟨a,o,vs,rfl,cr,aY.kp (gw ha (.inl ⟨_,rfl⟩)) _ _ r⟩
    exact ⟨_,_,J,h.freeze h1 h2 ha (.inl ⟨_,rfl⟩) hr,h2,hr⟩
  · rename_i ds;obtain ⟨a,vs,rfl,ha,r⟩:=q;obtain ⟨o,J⟩:=gH I ha (.inr ⟨_,rfl⟩);have hr:Rp (cU H a (.frz o (.dK vs))) (.dict ds) (.ref a):=by
      simp only [Rp];exact .inl ⟨a,o,vs,rfl,cr,ft.kp (gw ha (.inr ⟨_,rfl⟩)) _ _ r⟩
    exact ⟨_,_,J,h.freeze h1 h2 ha (.inr ⟨_,rfl⟩) hr,h2,hr⟩
theorem jg.fz {X:Cx} {st:Stmt} {i:Nat} {f:Fe} (h:jg X st (gj i f)) (hi:i < X.N.length):jg X st (cf i f):=fun Fm=>by
  intro pins s σ H D I ⟨ρ,sl,q⟩;unfold cf at q;cases ef:f ρ with
  | ex c=>rw [ef] at q;exact h Fm pins s σ H D I ⟨ρ,sl,by unfold gj;rw [ef];exact q⟩
  | no=>rw [ef] at q;exact q.elim
  | ok d =>
    rw [ef] at q;have hr:u6 X Fm (gj i f) { nx:=fun σ' H'=>fj Fm H' σ' (ρ.set i (.own d)),rt:=fun _ _=>False } σ H:=⟨ρ,sl,by unfold gj;rw [ef];exact fun σ' H' s'=>s'⟩
    refine cG (h Fm pins s σ H _ I hr) fun fl s' z=>?_
    cases fl with
    | next =>
      obtain ⟨σ',H',I',sls⟩:=z;have hi':i < ρ.length:=by rw [<- sl.sl.1,I.len];exact hi
      obtain ⟨H2,v,I2,sl2,_,_⟩:=vM I' sls (i:=i) (d:=d) (by rw [List.getElem?_set,if_pos rfl,if_pos hi']);rw [List.set_set] at sl2;exact ⟨σ',H2,I2,q σ' H2 sl2⟩
    | brk=>obtain ⟨_,_,_,z⟩:=z;exact z.elim
    | cont=>obtain ⟨_,_,_,z⟩:=z;exact z.elim
    | ret u=>obtain ⟨_,_,_,_,_,z⟩:=z;exact z.elim
theorem jI {X:Cx} {st:Stmt} {i:Nat} {f:Fe} (h:Z.jg X st (gj i f)) (hi:i < X.N.length):Z.jg X st (cf i f) :=
  ⟨D2.jg.fz h.un hi⟩
theorem oG {X:Cx} {tg iter elt:Expr} {ifs:List Expr} {sc:Scope} {pos:Pos} {it:aD->R (List PyData)} {b:PyData->aD->Option aD} {t:aD->R Bool} {f:Fe} {N:List Str} {own:Nat} {G G0:List Str} {fr:List Nat} {nl:Nat}
    (T:Tb X nl G0) {oN:List Str} {on:List (Str×NameKind)} (hoN:X.N=oN) (hon:X.env.scope.names=on)
    (ck:de sc N own G oN fr/\∀ y∈sc.names,y.2=.free->on.lookup y.1=some .cell\/on.lookup y.1=some .free) (hi:oq X tg iter it)
    (hb0:∀ ρ d ρ1,b d (au own fr ρ)=some ρ1->iS (au own fr ρ) ρ1)
    (hbody:∀ cl C s H fp E,Tb (aF X N sc cl C s H fp E) own G->n5 (aF X N sc cl C s H fp E) tg b/\pq (aF X N sc cl C s H fp E) ifs t/\cw (aF X N sc cl C s H fp E) elt f)
    (hs:∀ x,foldedSetIterable iter X.env x=pure x:=by intro _;rfl) (hstk:∃ env0 outer0 L,X.stack=env0::outer0/\env0.frame=some L/\X.env.frame=some L:=by exact ⟨_,_,_,rfl,rfl,rfl⟩):jO X (.ListComp elt [⟨tg,iter,ifs,0⟩] sc pos) (ce it own fr b t f) :=
  lT T (by rw [hoN];exact ck.1) (fun y hy hf=>by unfold Env.kindOf;rw [hon];exact ck.2 y hy hf) hi hb0 hbody hs hstk
theorem cy {X:Cx} {tg iter elt:Expr} {ifs:List Expr} {sc:Scope} {pos:Pos} {it:aD->R (List PyData)} {b:PyData->aD->Option aD} {t:aD->R Bool} {f:Fe} {N:List Str} {own:Nat} {G G0:List Str} {fr:List Nat} {nl:Nat} (T:Tb X nl G0) {oN:List Str} {on:List (Str×NameKind)} (hoN:X.N=oN) (hon:X.env.scope.names=on) (ck:de sc N own G oN fr/\∀ y∈sc.names,y.2=.free->on.lookup y.1=some .cell\/on.lookup y.1=some .free) (hi:Z.oq X tg iter it) (hb0:∀ ρ d ρ1,b d (au own fr ρ)=some ρ1->iS (au own fr ρ) ρ1) (hbody:∀ cl C s H fp E,Tb (aF X N sc cl C s H fp E) own G->Z.n5 (aF X N sc cl C s H fp E) tg b/\Z.pq (aF X N sc cl C s H fp E) ifs t/\Z.cw (aF X N sc cl C s H fp E) elt f) (hs:∀ x,foldedSetIterable iter X.env x=pure x:=by intro _;rfl) (hstk:∃ env0 outer0 L,X.stack=env0::outer0/\env0.frame=some L/\X.env.frame=some L:=by exact ⟨_,_,_,rfl,rfl,rfl⟩):Z.jO X (.ListComp elt [⟨tg,iter,ifs,0⟩] sc pos) (ce it own fr b t f) :=
  ⟨D2.oG T hoN hon ck hi.un hb0 (fun cl C s H fp E T=>let ⟨q1,q2,q3⟩:=hbody cl C s H fp E T;⟨q1.un,q2.un,q3.un⟩) hs hstk⟩
theorem rH {X:Cx} {tg iter elt:Expr} {ifs:List Expr} {sc:Scope} {pos py spos:Pos} {it:aD->R (List PyData)} {b:PyData->aD->Option aD} {t:aD->R Bool} {f:Fe} {N:List Str} {own:Nat} {G G0:List Str} {fr:List Nat} {nl:Nat} {y:Str} (i:Nat)
    (hN:(X.N.take nl)[i]?=some y) (T:Tb X nl G0) {oN:List Str} {on:List (Str×NameKind)} (hoN:X.N=oN) (hon:X.env.scope.names=on)
    (ck:de sc N own G oN fr/\∀ y∈sc.names,y.2=.free->on.lookup y.1=some .cell\/on.lookup y.1=some .free) (hi:oq X tg iter it)
    (hb0:∀ ρ d ρ1,b d (au own fr ρ)=some ρ1->iS (au own fr ρ) ρ1)
    (hbody:∀ cl C s H fp E,Tb (aF X N sc cl C s H fp E) own G->n5 (aF X N sc cl C s H fp E) tg b/\pq (aF X N sc cl C s H fp E) ifs t/\cw (aF X N sc cl C s H fp E) elt f)
    (hsw:swapsWith (.ListComp elt [⟨tg,iter,ifs,0⟩] sc pos) (some (.Name y py)) spos.line X.env=pure true:=by rfl)
    (hs:∀ x,foldedSetIterable iter X.env x=pure x:=by intro _;rfl) (hstk:∃ env0 outer0 L,X.stack=env0::outer0/\env0.frame=some L/\X.env.frame=some L:=by exact ⟨_,_,_,rfl,rfl,rfl⟩):jg X (.Assign [.Name y py] (.ListComp elt [⟨tg,iter,ifs,0⟩] sc pos) spos) (gj i (ce it own fr b t f)) :=
  sr T (by rw [hoN];exact ck.1) (fun y hy hf=>by unfold Env.kindOf;rw [hon];exact ck.2 y hy hf) hi hb0 hbody hN hsw hs hstk
theorem iy {X:Cx} {tg iter elt:Expr} {ifs:List Expr} {sc:Scope} {pos py spos:Pos} {it:aD->R (List PyData)} {b:PyData->aD->Option aD} {t:aD->R Bool} {f:Fe} {N:List Str} {own:Nat} {G G0:List Str} {fr:List Nat} {nl:Nat} {y:Str} (i:Nat) (hN:(X.N.take nl)[i]?=some y) (T:Tb X nl G0) {oN:List Str} {on:List (Str×NameKind)} (hoN:X.N=oN) (hon:X.env.scope.names=on) (ck:de sc N own G oN fr/\∀ y∈sc.names,y.2=.free->on.lookup y.1=some .cell\/on.lookup y.1=some .free) (hi:Z.oq X tg iter it) (hb0:∀ ρ d ρ1,b d (au own fr ρ)=some ρ1->iS (au own fr ρ) ρ1) (hbody:∀ cl C s H fp E,Tb (aF X N sc cl C s H fp E) own G->Z.n5 (aF X N sc cl C s H fp E) tg b/\Z.pq (aF X N sc cl C s H fp E) ifs t/\Z.cw (aF X N sc cl C s H fp E) elt f) (hsw:swapsWith (.ListComp elt [⟨tg,iter,ifs,0⟩] sc pos) (some (.Name y py)) spos.line X.env=pure true:=by rfl) (hs:∀ x,foldedSetIterable iter X.env x=pure x:=by intro _;rfl) (hstk:∃ env0 outer0 L,X.stack=env0::outer0/\env0.frame=some L/\X.env.frame=some L:=by exact ⟨_,_,_,rfl,rfl,rfl⟩):Z.jg X (.Assign [.Name y py] (.ListComp elt [⟨tg,iter,ifs,0⟩] sc pos) spos) (gj i (ce it own fr b t f)) :=
  ⟨D2.rH i hN T hoN hon ck hi.un hb0 (fun cl C s H fp E T=>let ⟨q1,q2,q3⟩:=hbody cl C s H fp E T;⟨q1.un,q2.un,q3.un⟩) hsw hs hstk⟩
theorem cF {own:Nat} {fr:List Nat} {i:Nat} (h:i < own):∀ ρ d ρ1,aM i d (au own fr ρ)=some ρ1->iS (au own fr ρ) ρ1:=fun ρ d ρ1 e=>by
  have e':ρ1=(au own fr ρ).set i (.val d):=(Option.some.inj e).symm;subst e';refine ⟨by rw [List.length_set],fun j c hj=>?_⟩;by_cases hij:i=j
  · subst hij;left;unfold au at hj;rw [List.getElem?_append_left (by simpa using h),List.getElem?_replicate,if_pos h] at hj;exact (Option.some.inj hj).symm
  · right;rw [List.getElem?_set,if_neg hij];exact hj
noncomputable def nX (sc:Scope) (N G:List Str):Prop :=
  N.Nodup/\(∀ x∈N,(sc.names.lookup x=some .local\/sc.names.lookup x=some .cell)/\(x==("__debug__" : Str))=false/\(x==("__classdict__" : Str))=false)/\∀ x∈G,sc.names.lookup x=some .globalImplicit/\(x==("__debug__" : Str))=false/\x≠("__name__" : Str)
noncomputable instance {sc:Scope} {N G:List Str}:Decidable (nX sc N G):=by unfold nX;infer_instance
theorem ua {P:Program} {w:World} {K:PySem.W.Frag} {mg:Str->Option Value} {base:Heap} {N:List Str} {qual:Str} {sc:Scope} {f:Addr} {cdv:Value} {A:Around} {outer:List Env} {s:Shared} {H:Hp} {E:XK} {G:List Str} {k:Nat}
    (hr:dB k (A.deeper (envOfC qual sc s.heap.objs.size f cdv))) (ck:nX sc N G):Tb (dv (cM P w mg) P w K mg base N qual sc f cdv A outer s H E) N.length G:=by
  obtain ⟨nd,l,g⟩:=ck;refine ⟨hr.units,rfl,nd,fun x hx=>⟨?_,(l x hx).2⟩,fun x hx=>⟨?_,.inl rfl⟩,fun x hx=>?_⟩
  · rcases (l x hx).1 with q | q
    · exact .inl q
    · exact .inr (.inl q)
  · exact (l x (List.mem_of_mem_take hx)).1
  · exact g x hx
section
variable {X:Cx} {a b c:Expr} {fa fb fc:Fe} {pos:Pos}
noncomputable def nP (X:Cx) (P:Hp->Hp->PyData->V->Prop) (r:V->Hp->VK->Prop) (g:PyData->R PyData):Prop:=∀ H x dx Q,eV H dx x->o6 X P (g dx) H Q->r x H Q
theorem wE {P:Hp->Hp->PyData->V->Prop} {r:V->Hp->VK->Prop} {g:PyData->R PyData} (hP:Dn P) (hg:nP X P r g) (σ:St) (H:Hp) (Q:VK) (h:fU X P (e1 g fa) σ H Q):xr r (fU X mx fa) σ H Q :=
  (cL (P:=mx) (k:=fun _ x=>g x) (c9 (X:=X) hP Q) h).post fun v H1 ⟨_,d1,_,_,p1,q1⟩=>hg H1 v d1 Q p1 q1
noncomputable def iU:PyData->R PyData
  | .int i=>.ok (.int (-i))
  | _=>.no
theorem tH:nP X fJ (rU fun i=>.int (-i)) iU:=fun H x dx Q hx q=>by
  unfold iU at q;split at q
  · exact ⟨_,bh hx,q _ H (ar.refl _) dj⟩
  · exact q.elim
theorem dQ (ha:Z.cX X a fa):Z.cw X (.UnaryOp .USub a pos) (e1 iU fa):=⟨have ha:=ha.un;PE.imp (vA uW ha) (wE dX tH)⟩
noncomputable def ge (g g':PyData->PyData->R PyData) (fa fb fc:Fe):Fe:=fun ρ=>fa ρ>>=fun x=>fb ρ>>=fun y=>g x y>>=fun d=>ni d>>=fun k=>if k=true then fc ρ>>=fun z=>g' y z else .ok (.bool false)
theorem lU {r r':R2} {g g':PyData->PyData->R PyData} (hg:bA X fJ r g) (hg':bA X fJ r' g') (σ:St) (H:Hp) (Q:VK) (h:fU X fJ (ge g g' fa fb fc) σ H Q) :
    mK r r' (fU X mx fa) (fU X mx fb) (fU X mx fc) σ H Q :=
  (cL (P:=mx) (k:=fun ρ x=>fb ρ>>=fun y=>g x y>>=fun d=>ni d>>=fun k=>if k=true then fc ρ>>=fun z=>g' y z else .ok (.bool false)) (c9 (X:=X) dX Q) h).post fun v H1 ⟨ρ1,d1,sl1,_,p1,q1⟩ =>
    (cL (P:=mx) (f:=fb) (k:=fun ρ y=>g d1 y>>=fun d=>ni d>>=fun k=>if k=true then fc ρ>>=fun z=>g' y z else .ok (.bool false)) (c9 (X:=X) dX Q) ⟨ρ1,sl1,q1⟩).post fun u H2 ⟨ρ2,d2,sl2,s2,p2,q2⟩=>by
      refine hg H2 v u d1 d2 _ (eV.mono p1 s2) p2 ?_;cases e:g d1 d2 with
      | ex c=>rw [e] at q2;exact q2
      | no=>rw [e] at q2;exact q2
      | ok d =>
        rw [e] at q2;intro w' H3 s3 p3;have q3:o6 X fJ (ni d>>=fun k=>if k=true then fc ρ2>>=fun z=>g' d2 z else .ok (.bool false)) H2 Q:=q2;cases d with
        | bool k =>
          have e3:w'=.bl k:=by simpa only [Rp] using p3
          refine ⟨k,e3,?_⟩;cases k with
          | false=>exact q3 _ H3 s3 dm
          | true =>
            have q4:o6 X fJ (fc ρ2>>=fun z=>g' d2 z) H2 Q:=q3;exact (cL (P:=mx) (f:=fc) (k:=fun _ z=>g' d2 z) (c9 (X:=X) dX Q) ⟨ρ2,sl2.mono s3,(c9 (X:=X) dX Q).mono _ _ _ q4 s3⟩).post fun z H4 ⟨_,d4,_,s4,p4,q5⟩=>hg' H4 u z d2 d4 Q (eV.mono p2 (s3.trans s4)) p4 q5
        | none=>exact q3.elim
        | int i=>exact q3.elim
        | str i=>exact q3.elim
        | list i=>exact q3.elim
        | tuple i=>exact q3.elim
        | dict i=>exact q3.elim
theorem gu {op op':CmpOp} {r r':R2} {g g':PyData->PyData->R PyData} (ho:fH X (compareOp op) r) (hg:bA X fJ r g) (ho':fH X (compareOp op') r') (hg':bA X fJ r' g') (ha:Z.cX X a fa) (hb:Z.cX X b fb) (hc:Z.cX X c fc) (hm:lastMarks [op,op'] [b,c]=false:=by with_unfolding_all rfl):Z.cw X (.Compare a [op,op'] [b,c] pos) (ge g g' fa fb fc):=⟨have ha:=ha.un;have hb:=hb.un;have hc:=hc.un;PE.imp (pP ho ho' ha hb hc hm) (lU hg hg')⟩
theorem mi {op op':CmpOp} {r r':R2} {g g':PyData->PyData->R PyData} (ho:fH X (compareOp op) r) (hg:bA X fJ r g) (ho':fH X (compareOp op') r') (hg':bA X fJ r' g') (ha:Z.cX X a fa) (hb:Z.cX X b fb) (hc:Z.cX X c fc) (hm:lastMarks [op,op'] [b,c]=false:=by with_unfolding_all rfl):Z.j4 X (.Compare a [op,op'] [b,c] pos) (tE (ge g g' fa fb fc)):=⟨have ha:=ha.un;have hb:=hb.un;have hc:=hc.un;PT.imp (qV ho ho' ha hb hc hm) fun σ H Q h=>lU hg hg' σ H _ (lc h)⟩
variable {es:List Expr} {fs:aD->R (List PyData)}
noncomputable def cN (fs:aD->R (List PyData)):Fe:=fun ρ=>fs ρ>>=fun ds=>if ds.length<=sizeLine then .ok (.tuple ds) else .no
noncomputable def fE (fs:aD->R (List PyData)):Fe:=fun ρ=>fs ρ>>=fun ds=>if ds.length<=sizeLine then .ok (.list ds) else .no
theorem bj {x1} (h:Z.mJ X es fs):Z.cw X (.Tuple es x1 pos) (cN fs):=⟨have h:=h.un;PE.imp (um h) fun σ H Q q=>(lm (I:=Rp) (f:=fs) (k:=fun _ ds=>if ds.length<=sizeLine then .ok (.tuple ds) else .no) (c9 (X:=X) dX Q) q).post fun vs H1 ⟨_,ds,_,_,p,q1⟩=>by
    have p:=jh.mp p;split at q1
    · rename_i hz;exact ⟨by rw [p.length];exact hz,fun a ha=>q1 _ _ (bT ha _) (cS ha p)⟩
    · exact q1.elim⟩
theorem bB (h:Z.mJ X es fs):Z.jO X (.List es pos) (fE fs):=⟨have h:=h.un;PE.imp (tT h) fun σ H Q q=>(lm (I:=Rp) (f:=fs) (k:=fun _ ds=>if ds.length<=sizeLine then .ok (.list ds) else .no) (c9 (X:=X) pN Q) q).post fun vs H1 ⟨_,ds,_,_,p,q1⟩=>by
    have p:=jh.mp p;split at q1
    · rename_i hz;exact ⟨by rw [p.length];exact hz,fun a ha=>q1 _ _ (bT ha _) (cW ha p)⟩
    · exact q1.elim⟩
noncomputable def cQ:PyData->PyData->R PyData
  | .list ds,.int i=>match atI ds i with
    | some d=>.ok d
    | none=>.no
  | .tuple ds,.int i=>match atI ds i with
    | some d=>.ok d
    | none=>.no
  | .str z,.int i=>if z.length<=sizeLine then match atI z.cps.toList i with
    | some c=>.ok (.str ⟨#[c]⟩)
    | none=>.no else .no
  | .dict kvs,k=>if lK kvs=true then .no else match jm k with
    | some _=>match iQ kvs k with
      | some d=>.ok d
      | none=>.no
    | none=>.no
  | _,_=>.no
theorem aY.atI {H:Hp} {ds:List PyData} {vs:List V} {i:Int} {d:PyData} (r:aY H ds vs) (e:L2.atI ds i=some d):∃ v,L2.atI vs i=some v/\Rp H d v:=by
  unfold L2.atI at e ⊢;rw [r.length];cases h:tx ds.length i with
  | none=>rw [h] at e;cases e
  | some j =>
    rw [h] at e;obtain ⟨v,e1,p⟩:=r.get (show ds[j]?=some d from e);exact ⟨v,e1,p⟩
noncomputable def vm:R2:=fun x y H Q=>∃ a v,x=.ref a/\kb H a y (some v)/\Q v H
theorem rO (hu:X.A.units+1 < cLine):rS X vm:=by
  intro value slice pins s σ H x y v u Q I rx ry h hs;obtain ⟨a,z,rfl,g,q⟩:=h;cases rx;exact tail_any (l8 I g) PySem.F.slot_dict_getitem.lookup (o7 hu I g ry fun w' s3 I3 rw'=>⟨z,H,I3,rw',q⟩) hs
theorem v3:bA X fJ (fun x y H Q=>v7 X.K x y H Q\/vF X.K x y H Q\/vc x y H Q\/vm x y H Q) cQ:=fun H x y dx dy Q hx hy q=>by
  unfold cQ at q;split at q
  · rename_i ds i;split at q
    · rename_i d e;obtain ⟨a,vs,rfl,hq,r⟩:=eN (K:=X.K) hx;obtain ⟨v,e1,p⟩:=r.atI e;exact .inl ⟨a,vs,i,v,rfl,bh hy,hq,e1,q v H (ar.refl _) p⟩
    · exact q.elim
  · rename_i ds i;split at q
    · rename_i d e;obtain ⟨a,vs,rfl,hq,r⟩:=cs hx;obtain ⟨v,e1,p⟩:=r.atI e;exact .inr (.inl ⟨a,vs,i,v,rfl,bh hy,eU.of hq,e1,q v H (ar.refl _) p⟩)
    · exact q.elim
  · rename_i z i;split at q
    · rename_i hz;split at q
      · rename_i c e;exact .inr (.inr (.inl ⟨z,i,c,fg hx,bh hy,hz,e,q _ H (ar.refl _) mV⟩))
      · exact q.elim
    · exact q.elim
  · rename_i kvs k;split at q
    · exact q.elim
    rename_i hi;split at q
    · rename_i κ e;split at q
      · rename_i d e1;obtain ⟨a,ks,rfl,h,r⟩:=jl (Bool.not_eq_true _ ▸ hi) hx;obtain ⟨o,g,_,e2⟩:=nK (κ:=κ) h r;rw [lL e] at e1;obtain ⟨v,rfl,p⟩:=e2 d e1;rw [<- nN hy e] at g;exact .inr (.inr (.inr ⟨a,v,rfl,g,q v H (ar.refl _) p⟩))
      · exact q.elim
    · exact q.elim
  · exact q.elim
theorem aX (hu:X.A.units+64 < cLine) (ha:Z.cX X a fa) (hb:Z.cX X b fb) (hs:og b):Z.cw X (.Subscript a b pos) (e2 cQ fa fb):=⟨have ha:=ha.un;have hb:=hb.un;PE.imp (vX (rW.or (uw.or (tY.or (rO (by omega))))) ha hb hs) (wm dX v3)⟩
variable {nl:Nat} {G:List Str} {x:Str} {p:Pos}
noncomputable def ln (X:Cx) (P:Hp->Hp->PyData->V->Prop) (r:List V->Hp->VK->Prop) (g:List PyData->R PyData):Prop:=∀ H xs ds Q,RA eV H ds xs->o6 X P (g ds) H Q->r xs H Q
theorem qY {P:Hp->Hp->PyData->V->Prop} {r:List V->Hp->VK->Prop} {g:List PyData->R PyData} (hP:Dn P) (hg:ln X P r g) (σ:St) (H:Hp) (Q:VK) (h:fU X P (fun ρ=>fs ρ>>=g) σ H Q):wP r (qU X eV fs) σ H Q :=
  (lm (I:=eV) (k:=fun _=>g) (c9 (X:=X) hP Q) h).post fun vs H1 ⟨_,ds,_,_,p1,q1⟩=>hg H1 vs ds Q p1 q1
noncomputable def one (g:PyData->R PyData):List PyData->R PyData
  | [d]=>g d
  | _=>.no
noncomputable def uh (g:PyData->PyData->R PyData):List PyData->R PyData
  | [d,e]=>g d e
  | _=>.no
theorem pM (g:PyData->R PyData) (fa:Fe):(fun ρ=>ag fa aq ρ>>=one g)=e1 g fa:=by
  funext ρ;unfold ag aq e1;cases fa ρ <;> rfl
theorem tR (g:PyData->PyData->R PyData) (fa fb:Fe):(fun ρ=>ag fa (ag fb aq) ρ>>=uh g)=e2 g fa fb:=by
  funext ρ;unfold ag aq e2;cases fa ρ with
  | ok a=>cases fb ρ <;> rfl
  | ex c=>rfl
  | no=>rfl
theorem pS {P:Hp->Hp->PyData->V->Prop} {r:List V->Hp->VK->Prop} {g:PyData->R PyData} (h:∀ H x d Q,eV H d x->o6 X P (g d) H Q->r [x] H Q):ln X P r (one g):=fun H xs ds Q ra q=>by
  unfold one at q;split at q
  · rename_i d;simp only [RA] at ra;obtain ⟨v,r',e,p,e2⟩:=ra;subst e2;subst e;exact h H v d Q p q
  · exact q.elim
theorem t9 {P:Hp->Hp->PyData->V->Prop} {r:List V->Hp->VK->Prop} {g:PyData->PyData->R PyData} (h:∀ H x y d e Q,eV H d x->eV H e y->o6 X P (g d e) H Q->r [x,y] H Q):ln X P r (uh g):=fun H xs ds Q ra q=>by
  unfold uh at q;split at q
  · rename_i d e;simp only [RA] at ra;obtain ⟨v,r',e1,p,v',r'',e2,p',e3⟩:=ra;subst e3;subst e2;subst e1;exact h H v v' d e Q p p' q
  · exact q.elim
section
variable {P:Hp->Hp->PyData->V->Prop} {r:List V->Hp->VK->Prop} {g:PyData->R PyData} {g2:PyData->PyData->R PyData} {id ty:String}
theorem vK (T:Tb X nl G) (j:Nat) (hG:G[j]?=some x) (hm:X.mg x=none) (hP:Dn P) (hv:bootBuiltins x=some (.builtin id)) (hc:c4 X (.builtin id) r) (hg:∀ H x d Q,eV H d x->o6 X P (g d) H Q->r [x] H Q) (ha:cX X a fa)
    (he:aN a=true:=by rfl):PE X (.Call (.Name x p) [a] [] pos) (fU X P (e1 g fa)):=by
  have q:=T.gl x (List.mem_of_getElem? hG);rw [<- pM];exact PE.imp (ia hc q.1 hm hv (i6 ha mz he) q.2.2 q.2.1 (bz he)) (qY hP (pS hg))
theorem uS (T:Tb X nl G) (j:Nat) (hG:G[j]?=some x) (hm:X.mg x=none) (hP:Dn P) (hv:bootBuiltins x=some (.type ty)) (hc:c4 X (.type ty) r) (hg:∀ H x d Q,eV H d x->o6 X P (g d) H Q->r [x] H Q) (ha:cX X a fa)
    (he:aN a=true:=by rfl):PE X (.Call (.Name x p) [a] [] pos) (fU X P (e1 g fa)):=by
  have q:=T.gl x (List.mem_of_getElem? hG);rw [<- pM];exact PE.imp (pf hc q.1 hm hv (i6 ha mz he) q.2.2 q.2.1 (bz he)) (qY hP (pS hg))
theorem w6 (T:Tb X nl G) (j:Nat) (hG:G[j]?=some x) (hm:X.mg x=none) (hP:Dn P) (hv:bootBuiltins x=some (.builtin id)) (hc:c4 X (.builtin id) r) (hg:∀ H x y d e Q,eV H d x->eV H e y->o6 X P (g2 d e) H Q->r [x,y] H Q) (ha:cX X a fa) (hb:cX X b fb)
    (he:aN a=true:=by rfl) (he2:aN b=true:=by rfl):PE X (.Call (.Name x p) [a,b] [] pos) (fU X P (e2 g2 fa fb)):=by
  have q:=T.gl x (List.mem_of_getElem? hG);rw [<- tR];exact PE.imp (ia hc q.1 hm hv (i6 ha (i6 hb mz he2) he) q.2.2 q.2.1 (bz he) (jH (by rw [List.all_cons,he2];rfl))) (qY hP (t9 hg))
end
end
theorem io:fillsNumberSlot (.type "tuple") "mul" = pure false :=
  PySem.fillsNumberSlot_seq (id := "tuple.__mul__") (r:=some (.builtin "tuple.__rmul__")) F.slot_tuple_mul.lookup (by decide +kernel) F.slot_tuple_rmul.lookup (by decide +kernel)
theorem kQ:seqRepeat? (.type "tuple")=pure (some (.builtin "tuple.__mul__")):=by
  unfold seqRepeat?;rw [PySem.seqSlot_of (T := "tuple") (name := "__mul__") (id := "tuple.__mul__") F.slot_tuple_mul.lookup (by decide +kernel),PySem.seqSlot_of (T := "tuple") (name := "__rmul__") (id := "tuple.__rmul__") F.slot_tuple_rmul.lookup (by decide +kernel)];rfl
theorem jy (a:Int) (t:Tok) (l:Addr) (items:Array Value) (n:Nat) (dd:Option Addr) (sl:Array (Option Value)) :
    Meets (Builtin.«int.__rmul__» ⟨[.int a t,.ref l],[]⟩) (fun _ R s=>s.heap.get? l=some { cls:=.type "tuple",dict:=dd,data:=.seq items n,slots:=sl }/\R (.ok (.ret Value.notImplemented)) s) :=
  .of_wp fun prog w A R s h=>by obtain ⟨hp,g,d,tk,os⟩:=s;obtain ⟨hl,h⟩:=h;wp_walk;exact ⟨_,rfl,h⟩
theorem mX (l:Addr) (items:Array Value) (n:Nat) (dd:Option Addr) (sl:Array (Option Value)) (x:Int) (u:Tok) (h1:2<=x) (h2:x < 2 ^ 63) (h0:¬ items.isEmpty=true) (hc1:¬ (items.size:Int)*x > (2 ^ 63-1) / 8) (hbig:Builtin.Tuple.tupleTooMany ((items.size:Int)*x)=false) (hsz:¬ (List.foldl (fun x1 x2=>x1++x2) #[] (List.replicate x.toNat items)).size > sizeLine) :
    Meets (Builtin.«tuple.__mul__» ⟨[.ref l,.int x u],[]⟩) (fun _ R s=>s.heap.get? l=some { cls:=.type "tuple",dict:=dd,data:=.seq items n,slots:=sl }/\R (.ok (.ret (Value.ref s.heap.objs.size))) { s with heap:=s.heap.push { cls:=Value.type "tuple",data:=Data.seq (List.foldl (fun x1 x2=>x1++x2) #[] (List.replicate x.toNat items)) },toks:=s.toks }) :=
  .of_wp fun prog w A R s h=>by
    obtain ⟨hp,g,d,tk,os⟩:=s;obtain ⟨hl,h⟩:=h;have f1:=AutoSeq1.idx_int;have f2:=AutoSeq1.sub_tuple_tuple;have f3:=AutoSeq1.sub_list_list;have f4:=AutoSeq1.sub_tuple_list;have f5:=AutoSeq1.sub_list_tuple;have e0:(decide (x < -2 ^ 63)||decide (x>=2 ^ 63))=false:=by
      rw [decide_eq_false (by omega),decide_eq_false (by omega)];rfl
    have e1:(items.isEmpty||x==1)=false:=by
      have:(x==1)=false:=by simp;omega
      rw [this,Bool.or_false];exact Bool.eq_false_iff.mpr h0
    have e2:(decide (x<=0)||items.isEmpty)=false:=by
      rw [decide_eq_false (by omega),Bool.false_or];exact Bool.eq_false_iff.mpr h0
    have e3:decide ((items.size:Int)*x > (2 ^ 63-1) / 8)=false:=decide_eq_false hc1;have e4:Builtin.Tuple.tupleTooMany ((items.size:Int)*x)=false:=hbig
    wp_walk using wpAny_loadPart' hl
    refine wpAny_ite_false (decide_eq_false (by rw [e0];exact Bool.false_ne_true)) ?_
    wp_walk using wpAny_loadPart' hl
    refine wpAny_ite_false (decide_eq_false (by rw [e1];exact Bool.false_ne_true)) ?_
    wp_walk using wpAny_loadPart' hl
    refine wpAny_ite_false (decide_eq_false (by rw [e2];exact Bool.false_ne_true)) ?_
    wp_walk using wpAny_loadPart' hl
    refine wpAny_ite_false e3 ?_
    wp_walk using wpAny_loadPart' hl
    exact ⟨_,rfl,h⟩
section
variable {X:Cx} {a b c:Expr} {fa fb fc:Fe} {pos:Pos} {nl:Nat} {G:List Str} {x:Str} {p:Pos}
noncomputable def tj (K:PySem.W.Frag):R2:=fun x y H Q=>∃ l k xs,x=.ref l/\y=.int k/\eU K H l xs/\xs≠[]/\2<=k/\k < 2 ^ 63/\xs.length*k.toNat<=sizeLine/\∀ p,H p=none->Q (.ref p) (cU H p (.tup (List.replicate k.toNat xs).flatten))
theorem rY:fH X (binaryOp .Mult) (tj X.K):=by
  intro pins s σ H x y v u Q I rx ry h;obtain ⟨l,k,xs,rfl,rfl,hH,hne,h1,h2,hz,q⟩:=h;cases rx;obtain ⟨t,rfl⟩:=ry;obtain ⟨its,r,pl,hz0⟩:=I.tuple hH;obtain ⟨⟨cls,dd,data,sl⟩,e,hc,n,hd⟩:=id pl;simp only at hc hd;subst hc hd;have hl:=r.length;have hnew:List.foldl (fun x1 x2=>x1++x2) #[] (List.replicate k.toNat its.toArray)=(List.replicate k.toNat its).flatten.toArray:=by
    have:=iw its k.toNat [];rw [List.nil_append] at this;exact this
  have hlen:(List.replicate k.toNat its).flatten.length<=sizeLine:=by rw [k6,<- hl,Nat.mul_comm];exact hz
  have hprod:(its.length:Int)*k<=(sizeLine:Int):=by
    have h3:((its.length*k.toNat:Nat):Int)<=(sizeLine:Int):=by rw [<- hl];exact Int.ofNat_le.mpr hz
    have h4:((k.toNat:Nat):Int)=k:=Int.toNat_of_nonneg (by omega);rw [Int.natCast_mul,h4] at h3;exact h3
  have hcap:¬ (its.toArray.size:Int)*k > (2 ^ 63-1) / 8:=by
    rw [List.size_toArray];have hs:sizeLine=16777216:=sizeLine_eq;omega
  have hbig:Builtin.Tuple.tupleTooMany ((its.toArray.size:Int)*k)=false:=by
    unfold Builtin.Tuple.tupleTooMany;rw [List.size_toArray];exact decide_eq_false (by omega)
  refine wpAny_binaryOp_repeat_ref (T := "tuple") (U := "int") (by decide) ⟨_,e,rfl⟩ (fun s'=>typeIs_int s' k t) io F.fills_int_mul F.slot_int_rmul kQ F.slot_int_index.lookup
    (call_meets F.slot_int_rmul (typeIs_int s k t) F.entry_int_rmul (F.args_int_rmul_2 _ _) (jy k t l its.toArray n dd sl)
      ⟨e,rfl,⟨_,e,rfl⟩,call_meets F.slot_tuple_mul ⟨_,e,rfl⟩ F.entry_tuple_mul (F.args_tuple_mul_2 _ _) (mX l its.toArray n dd sl k t h1 h2 (by
        intro z;apply hne;have:its=[]:=by simpa using z
        rw [this] at hl;exact List.length_eq_zero_iff.mp hl) hcap hbig (by rw [hnew,List.size_toArray];omega)) ⟨e,?_⟩⟩)
  rw [hnew];refine ⟨.ref s.heap.objs.size,_,I.laid (t':=s.toks) (o:=.tup (List.replicate k.toNat xs).flatten) (fun b ob q=>Heap.get?_push_of_some _ q) (Nat.le_refl _) ?_,rfl,q _ (I.hok.fresh (Nat.le_refl _))⟩;exact ⟨by rw [k6,Nat.mul_comm];exact hz,_,r.rep k.toNat,IsTup.new _ _⟩
noncomputable def cm:PyData->PyData->R PyData
  | .int i,.int j=>if (-(2 ^ 64) < i/\i < 2 ^ 64)\/(-(2 ^ 64) < j/\j < 2 ^ 64) then .ok (.int (i*j)) else .no
  | .tuple xs,.int k=>if xs≠[]/\2<=k/\k < 2 ^ 63/\xs.length*k.toNat<=sizeLine then .ok (.tuple (List.replicate k.toNat xs).flatten) else .no
  | _,_=>.no
theorem tS:bA X fJ (fun x y H Q=>rI rN (fun i j=>.int (i*j)) x y H Q\/tj X.K x y H Q) cm:=fun H x y dx dy Q hx hy q=>by
  cases dx with
  | int i =>
    cases dy with
    | int j =>
      simp only [cm] at q;split at q
      · rename_i h;exact .inl ⟨_,_,bh hx,bh hy,h,q _ H (ar.refl _) dj⟩
      · exact q.elim
    | _=>exact q.elim
  | tuple xs =>
    cases dy with
    | int k =>
      simp only [cm] at q;split at q
      · rename_i h;obtain ⟨a,vs,rfl,ha,r⟩:=cs hx;have hl:=r.length;refine .inr ⟨a,k,vs,rfl,bh hy,eU.of ha,fun z=>h.1 ?_,h.2.1,h.2.2.1,by rw [hl];exact h.2.2.2,fun p hp=>q _ _ (bT hp _) (cS hp (r.rep _))⟩;rw [z] at hl;exact List.length_eq_zero_iff.mp hl.symm
      · exact q.elim
    | _=>exact q.elim
  | _=>exact q.elim
theorem cb (ha:Z.cX X a fa) (hb:Z.cX X b fb):Z.cw X (.BinOp a .Mult b pos) (e2 cm fa fb):=⟨have ha:=ha.un;have hb:=hb.un;jz dX (tV.or rY) tS ha hb⟩
theorem rG:fH X (binaryOp .Add) (fun x y H Q=>∃ i j,x=.str i/\y=.str j/\i.length+j.length<=sizeLine/\Q (.str (i++j)) H):=by
  intro pins s σ H x y v u Q I rx ry h;obtain ⟨i,j,rfl,rfl,hz,q⟩:=h;obtain ⟨t,rfl⟩:=rx;obtain ⟨t',rfl⟩:=ry;exact PyProof.Rows.add_str (fun t' tk=>⟨.str (i++j),H,I.tok _,⟨_,rfl⟩,q⟩) hz
noncomputable def qc (K:PySem.W.Frag):R2:=fun x y H Q=>∃ a b ys,x=.ref a/\y=.ref b/\eU K H a []/\eU K H b ys/\Q (.ref b) H
theorem qI:fH X (binaryOp .Add) (qc X.K):=by
  intro pins s σ H x y v u Q I rx ry h;obtain ⟨a,b,ys,rfl,rfl,ha,hb,q⟩:=h;cases rx;cases ry;obtain ⟨its,r1,p1,_⟩:=I.tuple ha;obtain ⟨its2,r2,p2,_⟩:=I.tuple hb;cases r1;obtain ⟨⟨cls,dd,data,sl⟩,ho,hc,n,hd⟩:=id p1;obtain ⟨⟨cls2,dd2,data2,sl2⟩,ho2,hc2,n2,hd2⟩:=id p2;simp only at hc hd hc2 hd2;subst hc hd hc2 hd2;exact concat_meets ⟨_,ho,rfl⟩ ⟨_,ho2,rfl⟩ noFill_tuple_add seq_tuple_add PySem.F.slot_tuple_add PySem.F.entry_tuple_add (PySem.F.args_tuple_add_2 _ _)
    (tuple_addW0 a b _ its2.toArray n n2 dd dd2 sl sl2 (by rfl)) ⟨ho,ho2,⟨.ref b,H,I,rfl,q⟩⟩
noncomputable def tu (K:PySem.W.Frag):R2:=fun x y H Q=>∃ l b xs zs,x=.ref l/\y=.ref b/\Rd H l (.lst xs)/\Rd H b (.lst zs)/\xs.length+zs.length<=sizeLine/\∀ p,H p=none->Q (.ref p) (cU H p (.lst (xs++zs)))
theorem rC:fH X (binaryOp .Add) (tu X.K):=by
  intro pins s σ H x y v u Q I rx ry h;obtain ⟨l,b,xs,zs,rfl,rfl,hH,hB,hz,q⟩:=h;cases rx;cases ry;obtain ⟨z,its,n,r,e⟩:=hH.ok I.hok;obtain ⟨z2,its2,n2,r2,e2⟩:=hB.ok I.hok;have hl:=r.length;have hl2:=r2.length;refine PySem.P.add_list e e2 ?_ (by rw [List.size_toArray,List.size_toArray];omega);have ea:its.toArray++its2.toArray=(its++its2).toArray:=by simp
  rw [ea];exact ⟨.ref _,_,I.lnew (t':=s.toks) (r.append r2) (by rw [List.length_append];omega),rfl,q _ I.fresh⟩
noncomputable def bN:PyData->PyData->R PyData
  | .int i,.int j=>.ok (.int (i+j))
  | .str x,.str y=>if x.length+y.length<=sizeLine then .ok (.str (x++y)) else .no
  | .tuple xs,.tuple ys=>if xs.length+ys.length<=sizeLine then .ok (.tuple (xs++ys)) else .no
  | .list xs,.list ys=>if xs.length+ys.length<=sizeLine then .ok (.list (xs++ys)) else .no
  | _,_=>.no
theorem kH {H:Hp} {ds:List PyData} {x:V} (h:eV H (.list ds) x):∃ a vs,x=.ref a/\Rd H a (.lst vs)/\aY H ds vs:=by
  rcases h with h | h
  · simp only [Rp] at h;obtain ⟨a,o,vs,e,ha,r⟩:=h;exact ⟨a,vs,e,.inr ⟨o,ha⟩,r⟩
  · simp only [gC] at h;obtain ⟨a,vs,e,ha,r⟩:=h;exact ⟨a,vs,e,.inl ha,r⟩
theorem ub:bA X wt (fun x y H Q=>rb (fun i j=>.int (i+j)) x y H Q\/(∃ i j,x=.str i/\y=.str j/\i.length+j.length<=sizeLine/\Q (.str (i++j)) H)\/tf X.K x y H Q\/qc X.K x y H Q\/tu X.K x y H Q) bN:=fun H x y dx dy Q hx hy q=>by
  cases dx with
  | int i =>
    cases dy with
    | int j=>exact .inl ⟨_,_,bh hx,bh hy,q _ H (ar.refl _) (.inl dj)⟩
    | _=>exact q.elim
  | str i =>
    cases dy with
    | str j =>
      simp only [bN] at q;split at q
      · rename_i h;exact .inr (.inl ⟨_,_,fg hx,fg hy,h,q _ H (ar.refl _) (.inl mV)⟩)
      · exact q.elim
    | _=>exact q.elim
  | tuple xs =>
    cases dy with
    | tuple ys =>
      simp only [bN] at q;split at q
      · rename_i h;have hx':=hx;obtain ⟨a,vs,rfl,ha,r⟩:=cs hx;obtain ⟨b,us,rfl,hb,r2⟩:=cs hy;cases xs with
        | nil =>
          have:=r.nil_inv;subst this;refine .inr (.inr (.inr (.inl ⟨a,b,us,rfl,rfl,eU.of ha,eU.of hb,q _ H (ar.refl _) (.inl ?_)⟩)));simp only [Rp,List.nil_append];exact ⟨b,us,rfl,hb,r2⟩
        | cons d ds =>
          refine .inr (.inr (.inl ⟨a,b,vs,us,rfl,rfl,eU.of ha,eU.of hb,fun z=>?_,by rw [r.length,r2.length];exact h,fun z=>?_,fun _ p hp=>q _ _ (bT hp _) (.inl (cS hp (r.append r2)))⟩))
          · rw [z] at r;obtain ⟨_,_,e,_⟩:=r.cons_inv;cases e
          · have hy0:ys=[]:=by
              have:=r2.length;rw [z] at this;exact List.length_eq_zero_iff.mp this.symm
            refine q _ H (ar.refl _) (.inl ?_);rw [hy0,List.append_nil];simp only [Rp];exact ⟨a,vs,rfl,ha,r⟩
      · exact q.elim
    | _=>exact q.elim
  | list xs =>
    cases dy with
    | list ys =>
      simp only [bN] at q;split at q
      · rename_i h;obtain ⟨a,vs,rfl,ha,r⟩:=kH hx;obtain ⟨b,us,rfl,hb,r2⟩:=kH hy;exact .inr (.inr (.inr (.inr ⟨a,b,vs,us,rfl,rfl,ha,hb,by rw [r.length,r2.length];exact h,fun p hp=>q _ _ (bT hp _) (.inr (cW hp (r.append r2)))⟩)))
      · exact q.elim
    | _=>exact q.elim
  | _=>exact q.elim
theorem aK (ha:Z.cX X a fa) (hb:Z.cX X b fb):Z.cw X (.BinOp a .Add b pos) (e2 bN fa fb):=⟨have ha:=ha.un;have hb:=hb.un;rR.e (jz rB (ul.or (rG.or (r9.or (qI.or rC)))) ub ha hb)⟩
end
section
variable {prog:Program} {w:World} {A:Around} {E:Value->Shared->Prop} {s:Shared}
theorem gi {t sl:Addr} {items:Array Value} {vl vu:Value} {lo hi:Option Int} {Q:Value->Shared->Prop} (ht:IsTup s.heap t items) (hs:s.heap.IsSliceOf sl vl vu .none) (pl:IsPart vl lo) (pu:IsPart vu hi)
    (hw:HT.sIx items.size 0 lo=0/\HT.sIx items.size items.size hi=items.size) (h:Q (.ref t) s):wpAny (model prog w) A (getItem (.ref t) (.ref sl)) Q E s:=by
  obtain ⟨os,hos,hcs,hds⟩:=id hs;have hTs:s.TypeIs (.ref sl) "slice" := ⟨os,hos,hcs⟩
  unfold getItem
  try with_reducible refine wpAny_holding ?_
  first | refine wpAny_bind (wpAny_pure ?_) | skip
  refine wpAny_bind (wpAny_sequenceKey ht.typeIs (by decide) ?_);refine wpAny_bind (wpAny_callSpecial?_slot (name:=Str.ofString "__getitem__") ht.typeIs PyProof.Rows.slot_tuple_getitem
    (wpAny_call_entry PyProof.Rows.slot_tuple_getitem ht.typeIs entry_tuple_getitem ?_ (args_tuple_getitem _ _)))
  show wpAny _ _ (Builtin.Tuple.tupleItemsOf (.ref t)>>=_) _ _ s;refine wpAny_bind (tupleItemsOf_ ht ?_);refine wpAny_bind (wpAny_typeOf hTs ?_);rw [if_pos (by decide)];refine wpAny_bind (HT.sliceApplied_gen hs pl pu ?_);have hyes:(((HT.sIx items.size 0 lo:Nat):Int)==0&&(1:Int)==1&&(HT.sIx items.size items.size hi-HT.sIx items.size 0 lo)==items.size)=true:=by
    rw [hw.1,hw.2];simp
  show wpAny _ _ (if (((HT.sIx items.size 0 lo:Nat):Int)==0&&(1:Int)==1&&(HT.sIx items.size items.size hi-HT.sIx items.size 0 lo)==items.size)=true then _ else _) _ _ s;rw [if_pos hyes];refine wpAny_bind (m:=Builtin.Tuple.tupleIsExact _) ?_;unfold Builtin.Tuple.tupleIsExact;refine wpAny_bind (wpAny_typeOf ht.typeIs (wpAny_pure ?_));show wpAny _ _ (if (Value.type "tuple" == Value.type "tuple")=true then _ else _) _ _ s;rw [if_pos (by decide)];refine wpAny_bind (wpAny_rule ?_)
  first
    | exact wpAny_pure ⟨_,rfl,wpAny_pure h⟩
    | exact wpAny_bind (wpAny_pure (wpAny_pure ⟨_,rfl,wpAny_pure h⟩))
theorem nr (n:Nat):Builtin.Slice.slicePlaces ((n:Int)-1) (-1) (-1)=n:=by
  unfold Builtin.Slice.slicePlaces;simp only [show ¬ (-1:Int) > 0 by decide,if_false,Int.neg_neg,Int.ediv_one];split <;> omega
theorem iv {sl:Addr} {n:Nat} {t:Tok} {Q:Int×Int×Nat->Shared->Prop} (hs:s.heap.IsSliceOf sl .none .none (.int (-1) t)) (h:Q ((n:Int)-1,-1,n) s) :
    wpAny (model prog w) A (Builtin.Slice.sliceApplied (.ref sl) (pure (n:Int))) Q E s:=by
  obtain ⟨os,hos,hcs,hds⟩:=id hs;unfold Builtin.Slice.sliceApplied Builtin.Slice.sliceFields;refine wpAny_bind (wpAny_bind (wpAny_field hos hds (x:=.none) rfl (wpAny_bind (wpAny_field hos hds (x:=.none) rfl (wpAny_bind (wpAny_field hos hds (x:=.int (-1) t) rfl (wpAny_pure ?_)))))));refine wpAny_bind (slicePart_int ?_);show wpAny _ _ (if ((-1:Int)==0)=true then _ else _) _ _ s;rw [if_neg (by decide)];refine wpAny_bind (slicePart_none (wpAny_bind (slicePart_none (wpAny_bind (wpAny_pure ?_)))));show wpAny _ _ (match Builtin.Slice.sliceAdjust none none (-1) (n:Int) with | (lo,hi)=>pure (lo,(-1:Int),Builtin.Slice.slicePlaces lo hi (-1))) _ _ s;have e:Builtin.Slice.sliceAdjust none none (-1) (n:Int)=((n:Int)-1,-1):=by
    unfold Builtin.Slice.sliceAdjust;simp
  rw [e];show wpAny _ _ (pure ((n:Int)-1,(-1:Int),Builtin.Slice.slicePlaces ((n:Int)-1) (-1) (-1))) _ _ s;rw [nr];exact wpAny_pure h
theorem qd (xs:Array Value):((List.range xs.size).filterMap fun (m:Nat)=>xs[((xs.size:Int)-1+(m:Int)*(-1)).toNat]?).toArray=xs.toList.reverse.toArray:=by
  congr 1;apply List.ext_getElem?;intro i;have key:∀ k,k<=xs.size->(List.range k).filterMap (fun (m:Nat)=>xs[((xs.size:Int)-1+(m:Int)*(-1)).toNat]?)=(xs.toList.reverse).take k:=by
    intro k;induction k with
    | zero=>intro _;simp
    | succ k ih =>
      intro hk;rw [List.range_succ,List.filterMap_append,ih (by omega),List.take_add_one];congr 1;have e1:((xs.size:Int)-1+(k:Int)*(-1)).toNat=xs.size-1-k:=by omega
      have h1:xs.size-1-k < xs.size:=by omega
      have h2:k < xs.toList.length:=by rw [Array.length_toList];omega
      rw [List.filterMap_cons,e1,Array.getElem?_eq_getElem h1,List.filterMap_nil,List.getElem?_reverse h2,Array.length_toList,Array.getElem?_toList,Array.getElem?_eq_getElem h1];rfl
  rw [key xs.size (Nat.le_refl _),List.take_of_length_le (by simp)]
theorem gR {t sl:Addr} {items:Array Value} {tk:Tok} {Q:Value->Shared->Prop} (ht:IsTup s.heap t items) (hs:s.heap.IsSliceOf sl .none .none (.int (-1) tk))
    (h:Q (.ref s.heap.objs.size) { s with heap:=s.heap.push { cls:=.type "tuple",data:=.seq items.toList.reverse.toArray } }) (hsz:items.size<=sizeLine):wpAny (model prog w) A (getItem (.ref t) (.ref sl)) Q E s:=by
  have hok:sizeOk (.seq items.toList.reverse.toArray):=by
    show items.toList.reverse.toArray.size<=sizeLine;simpa using hsz
  obtain ⟨os,hos,hcs,hds⟩:=id hs;have hTs:s.TypeIs (.ref sl) "slice" := ⟨os,hos,hcs⟩
  unfold getItem
  try with_reducible refine wpAny_holding ?_
  first | refine wpAny_bind (wpAny_pure ?_) | skip
  refine wpAny_bind (wpAny_sequenceKey ht.typeIs (by decide) ?_);refine wpAny_bind (wpAny_callSpecial?_slot (name:=Str.ofString "__getitem__") ht.typeIs PyProof.Rows.slot_tuple_getitem
    (wpAny_call_entry PyProof.Rows.slot_tuple_getitem ht.typeIs entry_tuple_getitem ?_ (args_tuple_getitem _ _)))
  show wpAny _ _ (Builtin.Tuple.tupleItemsOf (.ref t)>>=_) _ _ s;refine wpAny_bind (tupleItemsOf_ ht ?_);refine wpAny_bind (wpAny_typeOf hTs ?_);rw [if_pos (by decide)];refine wpAny_bind (iv hs ?_);show wpAny _ _ (if (((items.size:Int)-1)==0&&(-1:Int)==1&&items.size==items.size)=true then _ else _) _ _ s;rw [if_neg (by simp),qd]
  first
    | exact wpAny_bind (m:=Builtin.Tuple.tupleExact _) (wpAny_newObj_type (wpAny_pure ⟨_,rfl,wpAny_pure h⟩) hok)
    | exact wpAny_bind (m:=Builtin.Tuple.tupleExact _) (wpAny_newObj_type (wpAny_bind (wpAny_pure (wpAny_pure ⟨_,rfl,wpAny_pure h⟩))) hok)
    | exact wpAny_bind (wpAny_bind (m:=Builtin.Tuple.tupleExact _) (wpAny_newObj_type (wpAny_pure (wpAny_pure ⟨_,rfl,wpAny_pure h⟩)) hok))
    | exact wpAny_bind (wpAny_bind (m:=Builtin.Tuple.tupleExact _) (wpAny_newObj_type (wpAny_pure ⟨_,rfl,wpAny_pure h⟩) hok))
end
section
variable {X:Cx} {a b c:Expr} {fa fb fc:Fe} {pos p2:Pos} {nl:Nat} {G:List Str} {x:Str} {p:Pos}
noncomputable def fo (xs:List PyData) (lo hi:Option Int):List PyData:=(xs.drop (HT.sIx xs.length 0 lo)).take (HT.sIx xs.length xs.length hi-HT.sIx xs.length 0 lo)
theorem aY.cut {H:Hp} {ds:List PyData} {vs:List V} (r:aY H ds vs) (lo hi:Option Int):aY H (fo ds lo hi) (lH vs lo hi):=by
  unfold fo lH;rw [r.length];exact (r.drop _).take _
noncomputable def wH (K:PySem.W.Frag):V->Option Int->Option Int->Hp->VK->Prop:=fun x lo hi H Q=>∃ a xs,x=.ref a/\eU K H a xs/\(HT.sIx xs.length 0 lo=0/\HT.sIx xs.length xs.length hi=xs.length)/\Q (.ref a) H
theorem p0:sf X (wH X.K):=by
  intro pins s σ H x v vl vu lo hi sl Q I rx hs pl pu h;obtain ⟨a,xs,rfl,hx,hw,q⟩:=h;cases rx;obtain ⟨its,r,ht,hz⟩:=I.tuple hx;have hlen:its.toArray.size=xs.length:=by rw [List.size_toArray];exact r.length.symm
  refine ⟨"tuple",_,PyProof.Rows.slot_tuple_getitem.lookup,ht.typeIs,?_⟩;exact gi ht hs pl pu (by rw [hlen];exact hw) ⟨.ref a,H,I,rfl,q⟩
theorem t5:sf X (fun x lo hi H Q=>∃ xx,x=.str xx/\xx.length<=sizeLine/\Q (.str (Txt.slice xx lo hi)) H):=by
  intro pins s σ H x v vl vu lo hi sl Q I rx hs pl pu h;obtain ⟨xx,rfl,hz,q⟩:=h;obtain ⟨t,rfl⟩:=rx;refine ⟨"str",_,PySem.F.slot_str_getitem.lookup,typeIs_str _ _ _,?_⟩;have fin:∀ t' k,EP X pins σ Q (.str (Txt.slice xx lo hi) t') { s with toks:=k }:=fun t' k=>⟨.str _,H,I.tok k,⟨t',rfl⟩,q⟩
  cases pl with
  | none =>
    cases pu with
    | none=>exact wpAny_getItem_str_slice (l:=none) (u:=none) (st:=none) hs rfl (post_val_or_str ⟨Nat.le_trans (Txt.slice_le xx _ _) hz,fin⟩)
    | int j uj=>exact wpAny_getItem_str_slice (l:=none) (u:=some (j,uj)) (st:=none) hs rfl (post_val_or_str ⟨Nat.le_trans (Txt.slice_le xx _ _) hz,fin⟩)
  | int i ui =>
    cases pu with
    | none=>exact wpAny_getItem_str_slice (l:=some (i,ui)) (u:=none) (st:=none) hs rfl (post_val_or_str ⟨Nat.le_trans (Txt.slice_le xx _ _) hz,fin⟩)
    | int j uj=>exact wpAny_getItem_str_slice (l:=some (i,ui)) (u:=some (j,uj)) (st:=none) hs rfl (post_val_or_str ⟨Nat.le_trans (Txt.slice_le xx _ _) hz,fin⟩)
noncomputable def tW:PyData->Option Int->Option Int->R PyData
  | .str x,lo,hi=>if x.length<=sizeLine then .ok (.str (Txt.slice x lo hi)) else .no
  | .tuple xs,lo,hi=>.ok (.tuple (fo xs lo hi))
  | .list xs,lo,hi=>.ok (.list (fo xs lo hi))
  | _,_,_=>.no
noncomputable abbrev Fo:=aD->R (Option Int)
noncomputable def jn:Fo:=fun _=>.ok none
noncomputable def wj:PyData->R Int
  | .int i=>.ok i
  | _=>.no
noncomputable def jv (f:Fe):Fo:=fun ρ=>f ρ>>=fun d=>wj d>>=fun i=>.ok (some i)
noncomputable def qa (X:Cx) (f:Fo):TO:=fun σ H Q=>∃ ρ,Sl H σ ρ/\match f ρ with
  | .ok o=>∀ H',ar H H'->Q o H'
  | .ex c=>Xw X c H
  | .no=>False
noncomputable def u8 (X:Cx) (e:Option Expr) (f:Fo):Prop:=PO X e (qa X f)
structure Z.u8 (X:Cx) (e:Option Expr) (f:Fo):Prop where
  un:D2.u8 X e f
theorem eP  : Z.u8 X none jn:=⟨fun pins s σ H Q I ⟨ρ,sl,q⟩=>sy pins s σ H Q I (q H (ar.refl _))⟩
theorem vq (Q:Option Int->Hp->Prop):r0 X (fun (r:R (Option Int)) H=>match r with | .ok b=>∀ H',ar H H'->Q b H' | .ex c=>Xw X c H | .no=>False) where
  mono:=fun r H H' h s=>by
    cases r with
    | ok d=>exact fun H2 s2=>h H2 (s.trans s2)
    | ex c=>exact Xw.mono h s
    | no=>exact h
  ex:=fun c H h=>h
  no:=fun H h=>h
theorem eJ {e:Expr} {f:Fe} (h:Z.cw X e f):Z.u8 X (some e) (jv f):=⟨have h:=h.un;fun pins s σ H Q I q =>
  ri h pins s σ H Q I ((cL (P:=fJ) (f:=f) (k:=fun _ d=>wj d>>=fun i=>.ok (some i)) (vq (X:=X) Q) q).post fun v H1 ⟨_,d,_,_,p,q1⟩=>by
    cases d with
    | int i =>
      have e1:v=.int i:=by simpa only [Rp] using p
      exact ⟨i,e1,q1 H1 (ar.refl _)⟩
    | _=>exact q1.elim)⟩
noncomputable def uQ (f:Fe) (lo hi:Fo):Fe:=fun ρ=>f ρ>>=fun d=>lo ρ>>=fun l=>hi ρ>>=fun u=>tW d l u
theorem pU {β:Type} {Tg:R β->Hp->Prop} {σ:St} {H:Hp} (t:r0 X Tg) {f:Fo} {k:aD->Option Int->R β} (h:∃ ρ,Sl H σ ρ/\Tg (f ρ>>=k ρ) H):qa X f σ H (fun o H1=>∃ ρ,Sl H1 σ ρ/\ar H H1/\Tg (k ρ o) H1):=by
  obtain ⟨ρ,sl,q⟩:=h;refine ⟨ρ,sl,?_⟩;cases e:f ρ with
  | ok d=>rw [e] at q;exact fun H1 s=>⟨ρ,sl.mono s,s,t.mono _ _ _ q s⟩
  | ex c=>rw [e] at q;exact t.ex _ _ q
  | no=>rw [e] at q;exact (t.no _ q).elim
theorem qa.post {f:Fo} {σ:St} {H:Hp} {Q Q':Option Int->Hp->Prop} (h:qa X f σ H Q) (i:∀ b H',Q b H'->Q' b H'):qa X f σ H Q':=by
  obtain ⟨ρ,sl,q⟩:=h;refine ⟨ρ,sl,?_⟩;cases e:f ρ with
  | ok d=>rw [e] at q;exact fun H' s=>i _ _ (q H' s)
  | ex c=>rw [e] at q;exact q
  | no=>rw [e] at q;exact q
theorem dU {lo hi:Option Expr} {fl fh:Fo} (ha:Z.cX X a fa) (hl:Z.u8 X lo fl) (hu:Z.u8 X hi fh):Z.cw X (.Subscript a (.Slice lo hi none p2) pos) (uQ fa fl fh):=⟨have ha:=ha.un;have hl:=hl.un;have hu:=hu.un;by
  refine rR.e (PE.imp (pO (p0.or (uN.or (sV.or t5))) ha hl hu) fun σ H Q h=>?_);refine (cL (P:=mx) (f:=fa) (k:=fun ρ d=>fl ρ>>=fun l=>fh ρ>>=fun u=>tW d l u) (c9 (X:=X) rB Q) h).post fun v H1 ⟨ρ1,d1,sl1,_,p1,q1⟩=>?_
  refine (pU (f:=fl) (k:=fun ρ l=>fh ρ>>=fun u=>tW d1 l u) (c9 (X:=X) rB Q) ⟨ρ1,sl1,q1⟩).post fun l H2 ⟨ρ2,sl2,s2,q2⟩=>?_
  refine (pU (f:=fh) (k:=fun ρ u=>tW d1 l u) (c9 (X:=X) rB Q) ⟨ρ2,sl2,q2⟩).post fun u H3 ⟨ρ3,sl3,s3,q3⟩=>?_
  have p3:eV H3 d1 v:=eV.mono (eV.mono p1 s2) s3;cases d1 with
  | tuple xs =>
    obtain ⟨a',vs,rfl,ha',r⟩:=cs p3;have hlen:=r.length;by_cases hw:HT.sIx vs.length 0 l=0/\HT.sIx vs.length vs.length u=vs.length
    · refine .inl ⟨a',vs,rfl,eU.of ha',hw,q3 _ H3 (ar.refl _) (.inl ?_)⟩;have e:fo xs l u=xs:=by
        unfold fo;rw [<- hlen,hw.1,hw.2];simp [hlen]
      rw [e];simp only [Rp];exact ⟨a',vs,rfl,ha',r⟩
    · exact .inr (.inl ⟨a',vs,rfl,eU.of ha',hw,fun p hp=>q3 _ _ (bT hp _) (.inl (cS hp (r.cut l u)))⟩)
  | list xs =>
    obtain ⟨a',vs,rfl,ha',r⟩:=eN (K:=X.K) p3;exact .inr (.inr (.inl ⟨a',vs,rfl,ha',fun p hp=>q3 _ _ (bT hp _) (.inr (cW hp (r.cut l u)))⟩))
  | str xx =>
    simp only [tW] at q3;split at q3
    · rename_i hz;exact .inr (.inr (.inr ⟨xx,fg p3,hz,q3 _ H3 (ar.refl _) (.inl (by simp only [Rp]))⟩))
    · exact q3.elim
  | _=>exact q3.elim⟩
noncomputable def sS:PyData->R PyData
  | .tuple xs=>.ok (.tuple xs.reverse)
  | _=>.no
theorem pY {j:Nat} {q1 q2:Pos} (ha:Z.cX X a fa):Z.cw X (.Subscript a (.Slice none none (some (.UnaryOp .USub (.Constant (.int 1) j q1) q2)) p2) pos) (e1 sS fa):=⟨have ha:=ha.un;by
  intro pins s σ H Q I h;refine Subscript_ (cG (ha pins s σ H _ I (cL (P:=mx) (f:=fa) (k:=fun _ d=>sS d) (c9 (X:=X) dX Q) h)) fun v s1 ⟨x,H1,I1,r1,ρ1,d1,sl1,_,p1,q1'⟩=>?_);refine wpAny_Slice ?_;rw [evalPart_none];refine wpAny_pure (wpAny_pure ?_);rw [evalPart_some];refine UnaryOp_ (wpAny_Constant_int (neg_int ?_));cases d1 with
  | tuple xs =>
    obtain ⟨a',vs,rfl,ha',r⟩:=cs p1;cases r1;have I2:az X pins σ H1 { s1 with heap:=s1.heap.push { cls:=.type "slice",data:=.fields #[.none,.none,.int (-1) (s1.toks+1)] },toks:=s1.toks+1+1 }:=I1.kept fun b ob q=>Heap.get?_push_of_some _ q
    obtain ⟨its,rv,ht,hz⟩:=I2.tuple (eU.of (K:=X.K) ha');have hlen:its.toArray.size=vs.length:=by rw [List.size_toArray];exact rv.length.symm
    refine tail_any (ops:=[.ref a',.ref s1.heap.objs.size]) ht.typeIs PyProof.Rows.slot_tuple_getitem.lookup ?_ (by with_unfolding_all rfl);refine gR ht ⟨_,Heap.get?_push_size _ rfl,rfl,rfl⟩ ?_ (by rw [hlen];exact hz);refine ⟨.ref _,_,I2.laid (t':=s1.toks+1+1) (o:=.tup vs.reverse) (fun b ob q=>Heap.get?_push_of_some _ q) (Nat.le_refl _) ?_,rfl,q1' _ _ (bT (I2.hok.fresh (Nat.le_refl _)) _) (cS (I2.hok.fresh (Nat.le_refl _)) r.reverse)⟩;exact ⟨by rw [List.length_reverse];exact hz,_,rv.reverse,IsTup.new _ _⟩
  | _=>exact q1'.elim⟩
end
section
variable {X:Cx} {a b c:Expr} {fa fb fc:Fe} {pos p2:Pos} {nl:Nat} {G:List Str} {x:Str} {p:Pos}
theorem oP:c4 X (.builtin "len") (fun xs H Q=>∃ a kvs,xs=[V.ref a]/\Rd H a (.dK kvs)/\Q (.int kvs.length) H):=by
  intro pins s σ H xs us Q I r h;obtain ⟨a,kvs,rfl,ha,q⟩:=h;obtain ⟨u,rfl,ru⟩:=iA r;cases ru;exact v4 I ha fun t s' I'=>⟨.int kvs.length,H,I',⟨t,rfl⟩,q⟩
theorem ft.length {H:Hp}:∀ {kvs:List (PyData×PyData)} {ks:List (cZ×V)},ft H kvs ks->ks.length=kvs.length
  | [],ks,h=>by simp only [ft] at h;rw [h];rfl
  | kd::kvs,ks,h=>by
    simp only [ft] at h;obtain ⟨x,v,r,rfl,_,t⟩:=h;rw [List.length_cons,List.length_cons,ft.length t]
noncomputable def cY:PyData->R PyData
  | .list ds=>.ok (.int ds.length)
  | .tuple ds=>.ok (.int ds.length)
  | .dict kvs=>if lK kvs=true then .no else .ok (.int kvs.length)
  | .str y=>if y.length<=sizeLine then .ok (.int y.length) else .no
  | _=>.no
theorem bG (T:Tb X nl G) (j:Nat) (hG:G[j]?=some ("len" : Str)) (hm:X.mg "len" = none) (ha:Z.cX X a fa) (he:aN a=true:=by rfl):Z.cw X (.Call (.Name "len" p) [a] [] pos) (e1 cY fa):=⟨have ha:=ha.un;by
  refine vK T j hG hm dX PySem.boot_len (lx.or (kI.or oP)) (fun H x d Q hx q=>?_) ha he;cases d with
  | list ds =>
    obtain ⟨a',vs,rfl,h,r⟩:=eN (K:=X.K) hx;exact .inl ⟨a',vs,rfl,.inl h,by rw [r.length];exact q _ H (ar.refl _) dj⟩
  | tuple ds =>
    obtain ⟨a',vs,rfl,h,r⟩:=cs hx;exact .inl ⟨a',vs,rfl,.inr (eU.of h),by rw [r.length];exact q _ H (ar.refl _) dj⟩
  | dict kvs =>
    simp only [cY] at q;split at q
    · exact q.elim
    rename_i hi;obtain ⟨a',vs,rfl,h,r⟩:=jl (Bool.not_eq_true _ ▸ hi) hx;exact .inr (.inr ⟨a',vs,rfl,h,by rw [r.length];exact q _ H (ar.refl _) dj⟩)
  | str y =>
    simp only [cY] at q;split at q
    · rename_i hz;exact .inr (.inl ⟨y,by rw [fg hx],hz,q _ H (ar.refl _) dj⟩)
    · exact q.elim
  | _=>exact q.elim⟩
noncomputable def xz:PyData->R PyData
  | .int i=>.ok (.int i)
  | .bool k=>.ok (.int (if k then 1 else 0))
  | _=>.no
noncomputable def rl:PyData->R PyData
  | .int i=>if i.natAbs.log2 < 1920 then .ok (.str (toString i)) else .no
  | _=>.no
theorem pj (T:Tb X nl G) (j:Nat) (hG:G[j]?=some ("str" : Str)) (hm:X.mg "str" = none) (ha:Z.cX X a fa) (he:aN a=true:=by rfl):Z.cw X (.Call (.Name "str" p) [a] [] pos) (e1 rl fa):=⟨have ha:=ha.un;by
  refine uS T j hG hm dX PyProof.Rows.boot_str kL (fun H x d Q hx q=>?_) ha he;cases d with
  | int i =>
    simp only [rl] at q;split at q
    · rename_i hz;exact ⟨i,by rw [bh hx],hz,q _ H (ar.refl _) mV⟩
    · exact q.elim
  | _=>exact q.elim⟩
noncomputable def sB:PyData->PyData->R PyData
  | .int i,.int j=>.ok (.int (if j < i then j else i))
  | _,_=>.no
theorem qS (T:Tb X nl G) (j:Nat) (hG:G[j]?=some ("min" : Str)) (hm:X.mg "min" = none) (ha:Z.cX X a fa) (hb:Z.cX X b fb) (he:aN a=true:=by rfl) (he2:aN b=true:=by rfl):Z.cw X (.Call (.Name "min" p) [a,b] [] pos) (e2 sB fa fb):=⟨have ha:=ha.un;have hb:=hb.un;by
  refine w6 T j hG hm dX PyProof.Rows.boot_min (pA T.calm) (fun H x y d e Q hx hy q=>?_) ha hb he he2;cases d with
  | int i =>
    cases e with
    | int j=>exact ⟨i,j,by rw [bh hx,bh hy],q _ H (ar.refl _) dj⟩
    | _=>exact q.elim
  | _=>exact q.elim⟩
noncomputable def cB:PyData->R PyData
  | .list ds=>.ok (.tuple ds)
  | .tuple ds=>.ok (.tuple ds)
  | _=>.no
theorem bZ (T:Tb X nl G) (j:Nat) (hG:G[j]?=some ("tuple" : Str)) (hm:X.mg "tuple" = none) (ha:Z.cX X a fa) (he:aN a=true:=by rfl):Z.cw X (.Call (.Name "tuple" p) [a] [] pos) (e1 cB fa):=⟨have ha:=ha.un;by
  refine uS T j hG hm dX PyProof.Rows.boot_tuple kc (fun H x d Q hx q=>?_) ha he;cases d with
  | list ds =>
    obtain ⟨a',vs,rfl,h,r⟩:=eN (K:=X.K) hx;exact ⟨a',vs,rfl,.inl ⟨h,fun l hl=>q _ _ (bT hl _) (cS hl r)⟩⟩
  | tuple ds =>
    obtain ⟨a',vs,rfl,h,r⟩:=cs hx;exact ⟨a',vs,rfl,.inr ⟨eU.of h,q _ H (ar.refl _) (by simp only [Rp];exact ⟨a',vs,rfl,h,r⟩)⟩⟩
  | _=>exact q.elim⟩
noncomputable def qw:PyData->R PyData
  | .list ds=>.ok (.list ds)
  | .tuple ds=>.ok (.list ds)
  | _=>.no
theorem mE (T:Tb X nl G) (j:Nat) (hG:G[j]?=some ("list" : Str)) (hm:X.mg "list" = none) (ha:Z.cX X a fa) (he:aN a=true:=by rfl):Z.jO X (.Call (.Name "list" p) [a] [] pos) (e1 qw fa):=⟨have ha:=ha.un;by
  refine uS T j hG hm pN PyProof.Rows.boot_list kJ (fun H x d Q hx q=>?_) ha he;cases d with
  | list ds =>
    obtain ⟨a',vs,rfl,h,r⟩:=eN (K:=X.K) hx;exact ⟨a',vs,rfl,.inl h,fun l hl=>q _ _ (bT hl _) (cW hl r)⟩
  | tuple ds =>
    obtain ⟨a',vs,rfl,h,r⟩:=cs hx;exact ⟨a',vs,rfl,.inr (eU.of h),fun l hl=>q _ _ (bT hl _) (cW hl r)⟩
  | _=>exact q.elim⟩
inductive Ty where
  | int | bool | str | list | tuple
noncomputable def Ty.nm:Ty->String
  | .int => "int"
  | .bool => "bool"
  | .str => "str"
  | .list => "list"
  | .tuple => "tuple"
noncomputable def gp:Ty->PyData->Bool
  | .int,.int _=>true
  | .int,.bool _=>true
  | .bool,.bool _=>true
  | .str,.str _=>true
  | .list,.list _=>true
  | .tuple,.tuple _=>true
  | _,_=>false
noncomputable def bI (T:Ty):PyData->R PyData
  | .dict _=>.no
  | d=>.ok (.bool (gp T d))
theorem qB:c4 X (.builtin "isinstance") (fun xs H Q=>∃ x t T k,xs=[x,.ty T]/\gU X.K H x t/\PySem.W.kitOne X.K t (.type T)=some k/\Q (.bl k) H):=by
  intro pins s σ H xs us Q I r h;obtain ⟨x,t,T,k,rfl,ty,e,q⟩:=h;obtain ⟨u,w',rfl,rx,ry⟩:=qM r;cases ry;exact oW I rx ty e fun tk=>⟨.bl k,H,I.tok tk,rfl,q⟩
theorem vg {K:PySem.W.Frag} {H:Hp} {d:PyData} {v:V} (h:eV H d v):(∃ kvs,d=.dict kvs)\/∃ t,gU K H v t/\∀ T:Ty,PySem.W.kitOne K t (.type T.nm)=some (gp T d):=by
  cases d with
  | none=>rw [qT h];exact .inr ⟨_,.non,fun T=>by cases T <;> rfl⟩
  | bool k=>rw [qp h];exact .inr ⟨_,.bl k,fun T=>by cases T <;> rfl⟩
  | int i=>rw [bh h];exact .inr ⟨_,.int i,fun T=>by cases T <;> rfl⟩
  | str y=>rw [fg h];exact .inr ⟨_,.str y,fun T=>by cases T <;> rfl⟩
  | tuple ds=>obtain ⟨a,vs,rfl,ha,_⟩:=cs h;exact .inr ⟨_,.tup ha,fun T=>by cases T <;> rfl⟩
  | list ds =>
    obtain ⟨a,vs,rfl,ha,_⟩:=kH h;rcases ha with ha | ⟨o,ha⟩
    · exact .inr ⟨_,.lst ha,fun T=>by cases T <;> rfl⟩
    · exact .inr ⟨_,.frz ha,fun T=>by cases T <;> rfl⟩
  | dict kvs=>exact .inl ⟨kvs,rfl⟩
theorem mY (ty:Ty) {y:Str} {py:Pos} (T:Tb X nl G) (j:Nat) (hG:G[j]?=some ("isinstance" : Str)) (hm:X.mg "isinstance" = none) (hy:bootBuiltins y=some (.type ty.nm)) (T':Tb X nl G) (j':Nat) (hG':G[j']?=some y) (hm':X.mg y=none) (ha:cX X a fa)
    (he:aN a=true:=by rfl):cw X (.Call (.Name "isinstance" p) [a,.Name y py] [] pos) (e1 (bI ty) fa):=by
  have g:=T.gl _ (List.mem_of_getElem? hG);have g':=T.gl _ (List.mem_of_getElem? hG');have hp:PE X (.Name y py) (tC (.ty ty.nm)):=rE g'.1 hm' hy rfl g'.2.2 g'.2.1;refine PE.imp (ia qB g.1 hm PyProof.Rows.boot_isinstance (gP ha (gP hp nE) (bz he)) g.2.2 g.2.1 (bz he)) fun σ H Q h=>?_
  refine (cL (P:=mx) (f:=fa) (k:=fun _ d=>bI ty d) (c9 (X:=X) dX Q) h).post fun v H1 ⟨_,d,_,_,p1,q1⟩=>?_
  show ∃ x t T k,_/\_/\_/\_;rcases vg (K:=X.K) p1 with ⟨kvs,rfl⟩ | ⟨t,ht,hk⟩
  · exact q1.elim
  · refine ⟨v,t,ty.nm,gp ty d,rfl,ht,hk ty,?_⟩;cases d with
    | dict kvs=>exact q1.elim
    | _=>exact q1 _ H1 (ar.refl _) dm
theorem fD {py:Pos} (T:Tb X nl G) (j:Nat) (hG:G[j]?=some ("isinstance" : Str)) (hm:X.mg "isinstance" = none) (T':Tb X nl G) (j':Nat) (hG':G[j']?=some ("int" : Str)) (hm':X.mg "int" = none) (ha:Z.cX X a fa) (he:aN a=true:=by rfl):Z.cw X (.Call (.Name "isinstance" p) [a,.Name "int" py] [] pos) (e1 (bI .int) fa):=⟨have ha:=ha.un;mY .int T j hG hm PyProof.Rows.boot_int T' j' hG' hm' ha he⟩
theorem eH {py:Pos} (T:Tb X nl G) (j:Nat) (hG:G[j]?=some ("isinstance" : Str)) (hm:X.mg "isinstance" = none) (T':Tb X nl G) (j':Nat) (hG':G[j']?=some ("bool" : Str)) (hm':X.mg "bool" = none) (ha:Z.cX X a fa) (he:aN a=true:=by rfl):Z.cw X (.Call (.Name "isinstance" p) [a,.Name "bool" py] [] pos) (e1 (bI .bool) fa):=⟨have ha:=ha.un;mY .bool T j hG hm PyProof.Rows.boot_bool T' j' hG' hm' ha he⟩
theorem bL {py:Pos} (T:Tb X nl G) (j:Nat) (hG:G[j]?=some ("isinstance" : Str)) (hm:X.mg "isinstance" = none) (T':Tb X nl G) (j':Nat) (hG':G[j']?=some ("tuple" : Str)) (hm':X.mg "tuple" = none) (ha:Z.cX X a fa) (he:aN a=true:=by rfl):Z.cw X (.Call (.Name "isinstance" p) [a,.Name "tuple" py] [] pos) (e1 (bI .tuple) fa):=⟨have ha:=ha.un;mY .tuple T j hG hm PyProof.Rows.boot_tuple T' j' hG' hm' ha he⟩
noncomputable def kK:List PyData->Option Bool
  | []=>some true
  | .bool k::ds=>(kK ds).map fun r=>k&&r
  | _=>none
noncomputable def j0:PyData->R PyData
  | .list ds=>match kK ds with
    | some k=>.ok (.bool k)
    | none=>.no
  | _=>.no
end
section
variable {X:Cx} {tg a b c:Expr} {fa fb fc:Fe} {pos p2:Pos} {nl:Nat} {G:List Str} {x:Str} {p:Pos} {fs:aD->R (List PyData)} {es:List Expr}
noncomputable def le:PyData->R (List PyData)
  | .list ds=>.ok ds
  | .tuple ds=>.ok ds
  | _=>.no
noncomputable def gO (f:Fe):aD->R (List PyData):=fun ρ=>f ρ>>=le
theorem qK {K:PySem.W.Frag} {a:Addr} {ds:List PyData}:tm (xh K a) (fun H=>∃ o vs,H a=some (.frz o (.lst vs))/\aY H ds vs) ds where
  go:=fun i H ⟨o,vs,h,r⟩ hi=>by
    have hl:=r.length;exact ⟨vs,vs[i],.inl (.inr ⟨o,h⟩),List.getElem?_eq_getElem (by omega)⟩
  yld:=fun i H x H' d ⟨o,vs,h,r⟩ hd ⟨e,y⟩=>by
    subst e;obtain ⟨v,e1,p⟩:=r.get hd;have:=y vs (.inl (.inr ⟨o,h⟩));rw [e1] at this;cases this;exact ⟨ar.refl _,p⟩
  stop:=fun i H ⟨o,vs,h,r⟩ hi=>⟨vs,.inl (.inr ⟨o,h⟩),by rw [r.length];exact hi⟩
theorem rn {K:PySem.W.Frag} {a:Addr} {ds:List PyData}:tm (wU K a) (fun H=>∃ vs,H a=some (.tup vs)/\aY H ds vs) ds where
  go:=fun i H ⟨vs,h,r⟩ hi=>by
    have hl:=r.length;exact ⟨vs,vs[i],eU.of h,List.getElem?_eq_getElem (by omega)⟩
  yld:=fun i H x H' d ⟨vs,h,r⟩ hd ⟨e,y⟩=>by
    subst e;obtain ⟨v,e1,p⟩:=r.get hd;have:=y vs (eU.of h);rw [e1] at this;cases this;exact ⟨ar.refl _,p⟩
  stop:=fun i H ⟨vs,h,r⟩ hi=>⟨vs,eU.of h,by rw [r.length];exact hi⟩
noncomputable def xw (K:PySem.W.Frag) (tl:TE):TI:=fun σ H R=>tl σ H fun x H1=>∃ a,x=.ref a/\((∃ xs,ke K H1 a xs/\R (xh K a) H1)\/∃ xs,eU K H1 a xs/\R (wU K a) H1)
theorem vy {l:Expr} {tl:TE} (hl:PE X l tl):PI X tg l (xw X.K tl):=by
  intro pins s σ H R I h;refine cG (hl pins s σ H _ I h) fun v s1 ⟨x,H1,I1,r1,q1⟩=>?_
  obtain ⟨a,e,q⟩:=q1;subst e;cases r1;rcases q with ⟨xs,hq,q⟩ | ⟨xs,hq,q⟩
  · obtain ⟨its,rv,p,hz⟩:=I1.list hq;refine wpAny_pyIter_list p.isList ?_;refine ⟨s1.heap.objs.size,[s1.heap.objs.size],_,_,H1,rfl,I1.kept (t':=s1.toks) fun b o e=>Heap.get?_push_of_some _ e,pB a _,⟨_,Heap.get?_push_size _ rfl,rfl,rfl⟩,fun b hb=>?_,q⟩;have e:b=s1.heap.objs.size:=by simpa using hb
    subst e;exact I1.fpOk (Nat.le_refl _) (I1.hok.fresh (Nat.le_refl _))
  · obtain ⟨its,rv,p,hz⟩:=I1.tuple hq;refine wpAny_pyIter_tuple (show s1.heap.IsTuple a its.toArray from p) ?_;refine ⟨s1.heap.objs.size,[s1.heap.objs.size],_,_,H1,rfl,I1.kept (t':=s1.toks) fun b o e=>Heap.get?_push_of_some _ e,my a _,⟨_,Heap.get?_push_size _ rfl,rfl,rfl⟩,fun b hb=>?_,q⟩;have e:b=s1.heap.objs.size:=by simpa using hb
    subst e;exact I1.fpOk (Nat.le_refl _) (I1.hok.fresh (Nat.le_refl _))
theorem vV (Rk:It->Hp->Prop):r0 X (fun (r:R (List PyData)) H=>match r with | .ok ds=>∀ J H',ar H H'->(∃ Gd,tm J Gd ds/\wl H' (fun _=>False) Gd)->Rk J H' | .ex c=>Xw X c H | .no=>False) where
  mono:=fun r H H' h s=>by
    cases r with
    | ok d=>exact fun J H2 s2=>h J H2 (s.trans s2)
    | ex c=>exact Xw.mono h s
    | no=>exact h
  ex:=fun c H h=>h
  no:=fun H h=>h
theorem cO (ha:Z.cw X a fa):Z.oq X tg a (gO fa):=⟨have ha:=ha.un;PI.imp (vy ha) fun σ H Rk h=>(cL (P:=fJ) (f:=fa) (k:=fun _=>le) (vV (X:=X) Rk) h).post fun v H1 ⟨_,d,_,_,p1,q1⟩=>by
    cases d with
    | list ds =>
      simp only [Rp] at p1;obtain ⟨a',o,vs,rfl,h,r⟩:=p1;exact ⟨a',rfl,.inl ⟨vs,.inl (.inr ⟨o,h⟩),q1 _ H1 (ar.refl _) ⟨_,qK,fun H2 k _=>⟨o,vs,k.2 _ _ _ h,aY.kp k _ _ r⟩⟩⟩⟩
    | tuple ds =>
      simp only [Rp] at p1;obtain ⟨a',vs,rfl,h,r⟩:=p1;exact ⟨a',rfl,.inr ⟨vs,eU.of h,q1 _ H1 (ar.refl _) ⟨_,rn,fun H2 k _=>⟨vs,k.1 _ _ h,aY.kp k _ _ r⟩⟩⟩⟩
    | _=>exact q1.elim⟩
noncomputable def bg (lo:Int) (n:Nat):List PyData:=(List.range n).map fun (k:Nat)=>.int (lo+k)
noncomputable def kf:List PyData->R (List PyData)
  | [.int j]=>if -(2 ^ 62)<=j/\j < 2 ^ 62 then .ok (bg 0 j.toNat) else .no
  | [.int i,.int j]=>if -(2 ^ 62)<=i/\i < 2 ^ 62/\-(2 ^ 62)<=j/\j < 2 ^ 62 then .ok (bg i (j-i).toNat) else .no
  | _=>.no
noncomputable def dc (fs:aD->R (List PyData)):aD->R (List PyData):=fun ρ=>fs ρ>>=kf
theorem oz {lo:Int} {n:Nat}:tm (wp lo n) (fun _=>True) (bg lo n) where
  go:=fun i H _ hi=>by
    show i < n;simpa [bg] using hi
  yld:=fun i H x H' d _ hd ⟨e,y⟩=>by
    subst e;subst y;refine ⟨ar.refl _,?_⟩;unfold bg at hd;rw [List.getElem?_map] at hd;cases h:(List.range n)[i]? with
    | none=>rw [h] at hd;cases hd
    | some k =>
      rw [h] at hd;have hk:k=i:=by
        rw [List.getElem?_range] at h
        · exact (Option.some.inj h).symm
        · have:=(List.getElem?_eq_some_iff.mp h).1;simpa using this
      subst hk;cases hd;exact dj
  stop:=fun i H _ hi=>by
    show n<=i;simpa [bg] using hi
theorem cT (T:Tb X nl G) (j:Nat) (hG:G[j]?=some ("range" : Str)) (hm:X.mg "range" = none) (ha:Z.mJ X [a] fs) (hl:∀ ρ ds,fs ρ=.ok ds->ds.length=1) (hs:aN a=true:=by rfl):Z.oq X tg (.Call (.Name "range" p) [a] [] pos) (dc fs):=⟨have ha:=ha.un;PI.imp (ox (T.gl _ (List.mem_of_getElem? hG)).1 hm ha (bz hs)) fun σ H Rk ⟨ρ,sl,q⟩=>by
    refine ⟨ρ,sl,?_⟩;dsimp only [dc] at q;cases e:fs ρ with
    | ex c=>rw [e] at q;exact q
    | no=>rw [e] at q;exact q
    | ok ds =>
      rw [e] at q;have hlen:=hl ρ ds e;intro vs H1 s1 r1
      match ds,hlen with
      | [d],_ =>
        simp only [RA] at r1;obtain ⟨v,r',rfl,p1,rfl⟩:=r1;cases d with
        | int j =>
          have ev:v=.int j:=by simpa only [Rp] using p1
          subst ev;by_cases hz:-(2 ^ 62)<=j/\j < 2 ^ 62
          · have e2:kf [.int j]=.ok (bg 0 j.toNat):=if_pos hz;rw [R.ok_bind,e2] at q;exact ⟨j,rfl,hz.1,hz.2,q _ H1 s1 ⟨_,oz,fun _ _ _=>True.intro⟩⟩
          · have e2:kf [.int j]=.no:=if_neg hz;rw [R.ok_bind,e2] at q;exact q.elim
        | _=>exact q.elim⟩
end
section
variable {X:Cx} {a b c:Expr} {fa fb fc:Fe} {pos p2:Pos} {nl:Nat} {G:List Str} {x:Str} {p:Pos}
theorem oE (hc:X.calm=true):c4 X (.builtin "all") (fun xs H Q=>∃ (p:Addr) (bs:List Bool),xs=[.ref p]/\ke X.K H p (bs.map V.bl)/\Q (.bl (bs.all id)) H):=by
  intro pins s σ H xs us Q I r h;obtain ⟨p,bs,rfl,hq,q⟩:=h;obtain ⟨u,rfl,rx⟩:=iA r;cases rx;obtain ⟨its,rv,pl,hz⟩:=I.list hq;have hh:X.A.in1.handled=none:=I.ok.hd hc;have hlt:p≠s.heap.objs.size:=by obtain ⟨o,e,_⟩:=pl.isList;exact Nat.ne_of_lt (Heap.lt_size e)
  have hits:its=bs.map Value.bool:=by
    have key:∀ (bs:List Bool) (us:List Value),aV (bs.map V.bl) us->us=bs.map Value.bool:=by
      intro bs;induction bs with
      | nil=>intro us r;cases r;rfl
      | cons k bs ih=>intro us r;rw [List.map_cons] at r;cases r with | cons r1 r2=>rw [ih _ r2];cases r1;rfl
    exact key bs its rv
  refine call_all_walk (wpAny_pyIter_list pl.isList ?_);refine ⟨s.heap.objs.size,_,_,its.toArray.size,_,_,fun i=>(bs[i]?).getD true,rfl,Walks.list hh s.heap.objs.size p hlt its.toArray,⟨⟨_,Heap.get?_push_size _ rfl,rfl,rfl⟩,?_⟩,fun i v s' Q' E' hv hQ'=>?_,fun h' tk kp=>?_⟩
  · obtain ⟨o,e,r'⟩:=pl.isList;exact ⟨o,Heap.get?_push_of_some _ e,r'⟩
  · have hv':its[i]?=some v:=by simpa using hv
    rw [hits,List.getElem?_map] at hv';cases e:bs[i]? with
    | none=>rw [e] at hv';cases hv'
    | some k =>
      rw [e] at hv';cases hv';dsimp only at hQ';rw [e] at hQ';exact wpAny_truthy_bool hQ'
  · have e:((List.range its.toArray.size).all fun i=>(bs[i]?).getD true)=bs.all id:=by
      rw [List.size_toArray,hits,List.length_map];have key:∀ (l:List Bool),((List.range l.length).all fun i=>(l[i]?).getD true)=l.all id:=by
        intro l;induction l with
        | nil=>rfl
        | cons k l ih =>
          rw [List.length_cons,List.range_succ_eq_map,List.all_cons,List.all_map,List.all_cons,<- ih];rfl
      exact key bs
    rw [e];refine ⟨.bl (bs.all id),H,I.kept (t':=tk) fun b o g=>kp b o (fun z=>?_) (Heap.get?_push_of_some _ g),rfl,q⟩;rw [List.mem_singleton.mp z] at g;exact absurd (Heap.lt_size g) (Nat.lt_irrefl _)
theorem lW:∀ {ds:List PyData} {k:Bool},kK ds=some k->∃ bs:List Bool,ds=bs.map PyData.bool/\k=bs.all id
  | [],k,h=>by cases h;exact ⟨[],rfl,rfl⟩
  | d::ds,k,h=>by
    cases d with
    | bool j =>
      simp only [kK] at h;cases e:kK ds with
      | none=>rw [e] at h;cases h
      | some r =>
        rw [e] at h;cases h;obtain ⟨bs,e1,e2⟩:=lW e;exact ⟨j::bs,by rw [e1];rfl,by rw [e2];rfl⟩
    | _=>cases h
theorem kC:∀ {H:Hp} {ns:List Bool} {vs:List V},aY H (ns.map PyData.bool) vs->vs=ns.map V.bl
  | H,[],vs,r=>by rw [List.map_nil] at r;rw [r.nil_inv];rfl
  | H,n::ns,vs,r=>by
    rw [List.map_cons] at r;obtain ⟨v,r',rfl,p,t⟩:=r.cons_inv;have:v=.bl n:=by simpa only [Rp] using p
    rw [this,kC t];rfl
theorem jx (T:Tb X nl G) (j:Nat) (hG:G[j]?=some ("all" : Str)) (hm:X.mg "all" = none) (ha:Z.cX X a fa) (he:aN a=true:=by rfl):Z.cw X (.Call (.Name "all" p) [a] [] pos) (e1 j0 fa):=⟨have ha:=ha.un;by
  refine vK T j hG hm dX PyProof.Rows.boot_all (oE T.calm) (fun H x d Q hx q=>?_) ha he;cases d with
  | list ds =>
    simp only [j0] at q;cases ei:kK ds with
    | none=>rw [ei] at q;exact q.elim
    | some k =>
      rw [ei] at q;obtain ⟨bs,e1,e2⟩:=lW ei;obtain ⟨a',vs,rfl,h,r⟩:=eN (K:=X.K) hx;rw [e1] at r;rw [kC r] at h;refine ⟨a',bs,rfl,h,?_⟩;rw [<- e2];exact q _ H (ar.refl _) dm
  | _=>exact q.elim⟩
end
section
variable {X:Cx} {a b c:Expr} {fa fb fc:Fe} {pos p2:Pos} {nl:Nat} {G:List Str} {x:Str} {p:Pos}
theorem fj.change {Fm H:Hp} {σ:St} {ρ:aD} {i:Nat} {d d':PyData} {a:Addr} {u u':HO} (h:fj Fm H σ ρ) (h1:ρ[i]?=some (.own d)) (h2:σ[i]?=some (some (.ref a))) (hu:H a=some u) (hm:(∃ xs,u=.lst xs)\/∃ ks,u=.dK ks)
    (hr:gC (cU H a u') d' (.ref a)):fj Fm (cU H a u') σ (ρ.set i (.own d')):=by
  have hFa:=h.own i d a h1 h2;have kp:Kp H (cU H a u'):=gw hu hm;have at_i:∀ (j:Nat) (e:PyData),(ρ.set i (.own d'))[j]?=some (.own e)->∃ e0,ρ[j]?=some (.own e0):=fun j e q=>by
    rw [List.getElem?_set] at q;by_cases hij:i=j
    · subst hij;exact ⟨d,h1⟩
    · rw [if_neg hij] at q;exact ⟨e,q⟩
  refine ⟨fun b x e=>?_,⟨by rw [List.length_set];exact h.sl.1,fun j c w' e1 e2=>?_⟩,fun j e b e1 e2=>?_,fun j k e f b e1 e2 e3 e4=>?_⟩
  · rw [aJ (bE e hFa)];exact h.fm b x e
  · rw [List.getElem?_set] at e1;by_cases hij:i=j
    · subst hij;rw [if_pos rfl] at e1;split at e1
      · cases e1;rw [h2] at e2;cases e2;exact ⟨_,rfl,hr⟩
      · cases e1
    · rw [if_neg hij] at e1;have q:=h.sl.2 j c w' e1 e2;cases c with
      | exc p=>exact q
      | non=>exact True.intro
      | val d1=>obtain ⟨v,z1,z2⟩:=q;exact ⟨v,z1,Rp.kp kp _ _ z2⟩
      | own d1 =>
        obtain ⟨v,z1,z2⟩:=q;subst z1;obtain ⟨b,ob,rfl,hb⟩:=lC z2;have nb:b≠a:=fun z=>hij (by subst z;exact h.apart i j d d1 b h1 e1 h2 e2)
        refine ⟨_,rfl,?_⟩;cases d1 <;> simp only [gC] at z2 ⊢
        · obtain ⟨b',vs,e,hb',r⟩:=z2;cases e;exact ⟨b,vs,rfl,by rw [aJ nb];exact hb',aY.kp kp _ _ r⟩
        · obtain ⟨b',vs,e,hb',r⟩:=z2;cases e;exact ⟨b,vs,rfl,by rw [aJ nb];exact hb',ft.kp kp _ _ r⟩
  · obtain ⟨e0,q⟩:=at_i j e e1;exact h.own j e0 b q e2
  · obtain ⟨e0,q⟩:=at_i j e e1;obtain ⟨f0,q'⟩:=at_i k f e2;exact h.apart j k e0 f0 b q q' e3 e4
noncomputable def xA (i:Nat) (fk fv:Fe):Fs:=fun ρ=>fv ρ>>=fun v=>mw (fk ρ)>>=fun k=>match ρ[i]? with
  | some (.own (.dict kvs))=>match jm k with
    | some _=>if kvs.length < sizeLine then .ok (.nx (ρ.set i (.own (.dict (ww kvs k v))))) else .no
    | none=>.no
  | _=>.no
noncomputable def cu (i:Nat) (f:Fe):Fs:=fun ρ=>mw (f ρ)>>=fun d=>match ρ[i]? with
  | some (.own (.list ds))=>if ds.length < sizeLine then .ok (.nx (ρ.set i (.own (.list (ds++[d]))))) else .no
  | _=>.no
end
section
variable {prog:Program} {w:World} {A:Around} {E:Value->Shared->Prop} {s:Shared}
theorem mB {it t:Addr} {i:Nat} {items:Array Value} {x:Value} {Q:Value->Shared->Prop} (hit:s.heap.IsTupleIter it t i) (ht:s.heap.IsTuple t items) (hx:items[i]?=some x)
    (hQ:∀ h',h'.IsTupleIter it t (i+1)->Heap.SameBut it s.heap h'->Q x { s with heap:=h' }):wpAny (model prog w) A (Builtin.SmallTypes.nextOf (.ref it)) Q E s:=by
  obtain ⟨ob,hob,hcl,hdt⟩:=id hit;obtain ⟨ot,hot,_,nt,hdtt⟩:=ht;unfold Builtin.SmallTypes.nextOf;refine wpAny_bind (wpAny_callSpecial?_slot (name:=Str.ofString "__next__") hit.typeIs F.slot_tuple_iterator_next (wpAny_call_entry F.slot_tuple_iterator_next hit.typeIs F.entry_tuple_iterator_next ?_ (F.args_tuple_iterator_next_1 _)));show wpAny _ _ (field (Value.ref it) 0>>=_) _ _ s;refine wpAny_bind (wpAny_field hob hdt (x:=Value.ref t) rfl ?_);show wpAny _ _ (if (Value.ref t==Value.none)=true then _ else _) _ _ s;rw [if_neg (by intro z;cases z)];show wpAny _ _ (field (Value.ref it) 1>>=_) _ _ s;refine wpAny_bind (wpAny_field hob hdt (x:=Value.int i 0) rfl ?_);show wpAny _ _ (seqItems? (Value.ref t)>>=_) _ _ s;refine wpAny_bind (wpAny_seqItems hot hdtt ?_);simp only [hx,Int.toNat_natCast];refine wpAny_bind (wpAny_setField hob hdt (by simp) (wpAny_pure ⟨x,rfl,wpAny_pure (hQ _ ⟨_,Heap.get?_update_self _ hob (Obj.isFreed_of_fields (Obj.data_mapFields hdt _)),(Obj.cls_mapFields ..).trans hcl,?_⟩ (Heap.SameBut.update ..))⟩));rw [Obj.data_mapFields hdt];simp [rawInt]
theorem jL {it t:Addr} {i:Nat} {items:Array Value} {Q:Value->Shared->Prop} (hh:A.handled=none) (hit:s.heap.IsTupleIter it t i) (ht:s.heap.IsTuple t items) (hx:items[i]?=none)
    (hE:∀ h' e,Heap.ExtBut it s.heap h'->(∃ o,h'.get? e=some o/\o.cls=.type "StopIteration")->E (.ref e) { s with heap:=h' }):wpAny (model prog w) A (Builtin.SmallTypes.nextOf (.ref it)) Q E s:=by
  obtain ⟨ob,hob,hcl,hdt⟩:=id hit;obtain ⟨ot,hot,_,nt,hdtt⟩:=ht;unfold Builtin.SmallTypes.nextOf;refine wpAny_bind (wpAny_callSpecial?_slot (name:=Str.ofString "__next__") hit.typeIs F.slot_tuple_iterator_next (wpAny_call_entry F.slot_tuple_iterator_next hit.typeIs F.entry_tuple_iterator_next ?_ (F.args_tuple_iterator_next_1 _)));show wpAny _ _ (field (Value.ref it) 0>>=_) _ _ s;refine wpAny_bind (wpAny_field hob hdt (x:=Value.ref t) rfl ?_);show wpAny _ _ (if (Value.ref t==Value.none)=true then _ else _) _ _ s;rw [if_neg (by intro z;cases z)];show wpAny _ _ (field (Value.ref it) 1>>=_) _ _ s;refine wpAny_bind (wpAny_field hob hdt (x:=Value.int i 0) rfl ?_);show wpAny _ _ (seqItems? (Value.ref t)>>=_) _ _ s;refine wpAny_bind (wpAny_seqItems hot hdtt ?_);simp only [hx,Int.toNat_natCast];refine wpAny_bind (wpAny_rule (wpAny_bind (wpAny_setField hob hdt (by simp) ?_)));show wpAny _ _ (newExc (Value.type "StopIteration") []>>=_) _ _ _;refine wpAny_bind ?_;simp only [newTuple,newExc];refine wpAny_bind (wpAny_newObj_type ?_ (by size_fits));refine wpAny_bind (m:=firstArgMember _ _) (wpAny_of_eq (a:=Value.none) (by first | rfl | (simp only [firstArgMember];rfl)) ?_);refine wpAny_newObj_type ?_ (by size_fits);simp only [raiseNew];refine wpAny_bind (wpAny_handled ?_)
  first | rw [show A.in1.handled=none from hh] | rw [hh]
  exact wpAny_bind (wpAny_pure (wpAny_throw (hE _ _ (((Heap.SameBut.update ..).extBut.push _).push _) ⟨_,Heap.get?_push_size _ rfl,rfl⟩)))
end
noncomputable def lG (h:Heap) (i l:Addr) (k:Nat) (xs:Array Value):Prop:=(h.IsListIter i l k/\h.IsList l xs)\/(h.IsTupleIter i l k/\h.IsTuple l xs)
section
variable {h h':Heap} {i l:Addr} {k:Nat} {xs:Array Value}
theorem lG.keep (x:lG h i l k xs) (hi:∀ o,h.get? i=some o->h'.get? i=some o) (hl:∀ o,h.get? l=some o->h'.get? l=some o):lG h' i l k xs:=by
  rcases x with ⟨⟨o,e,r⟩,⟨o',e',r'⟩⟩ | ⟨⟨o,e,r⟩,⟨o',e',r'⟩⟩
  · exact .inl ⟨⟨o,hi _ e,r⟩,⟨o',hl _ e',r'⟩⟩
  · exact .inr ⟨⟨o,hi _ e,r⟩,⟨o',hl _ e',r'⟩⟩
end
section
variable {prog:Program} {w:World} {A:Around} {E:Value->Shared->Prop} {s:Shared} {i l:Addr} {k:Nat} {xs:Array Value}
theorem vB {x:Value} {Q:Value->Shared->Prop} (it:lG s.heap i l k xs) (hne:l≠i) (hx:xs[k]?=some x) (hQ:∀ h',lG h' i l (k+1) xs->Heap.SameBut i s.heap h'->Q x { s with heap:=h' }) :
    wpAny (model prog w) A (Builtin.SmallTypes.nextOf (.ref i)) Q E s:=by
  rcases it with ⟨h1,h2⟩ | ⟨h1,h2⟩
  · exact wpAny_nextOf_list_item h1 h2 hx fun h' a b=>hQ h' (.inl ⟨a,h2.extBut b.extBut hne⟩) b
  · exact mB h1 h2 hx fun h' a b=>hQ h' (.inr ⟨a,h2.extBut b.extBut hne⟩) b
theorem ph {Q:Value->Shared->Prop} (hh:A.handled=none) (it:lG s.heap i l k xs) (hx:xs[k]?=none)
    (hE:∀ h' e,Heap.ExtBut i s.heap h'->(∃ o,h'.get? e=some o/\o.cls=.type "StopIteration")->E (.ref e) { s with heap:=h' }):wpAny (model prog w) A (Builtin.SmallTypes.nextOf (.ref i)) Q E s:=by
  rcases it with ⟨h1,h2⟩ | ⟨h1,h2⟩
  · exact wpAny_nextOf_list_end hh h1 h2 hx hE
  · exact jL hh h1 h2 hx hE
noncomputable def uI (h:Heap) (l:Addr) (xs:Array Value):Prop:=h.IsList l xs\/h.IsTuple l xs
end
section
variable {X:Cx} {pins:List (Addr×Obj)} {σ:St} {H:Hp} {s:Shared} {h':Heap}
theorem iN {t':Nat} {fp:List Addr} (I:az X pins σ H s) (k:∀ b o,b∉fp->s.heap.get? b=some o->h'.get? b=some o) (hf:∀ b∈fp,iT X pins H b):az X pins σ H { s with heap:=h',toks:=t' }:=by
  have away:∀ b u,H b=some u->b∉fp:=fun b u e z=>by rw [(hf b z).1] at e;cases e
  have frame:X.env.locals∉fp:=fun z=>(hf _ z).2.1 rfl
  refine I.step (g':=s.gens) (d':=s.drawn) (ch:=fp) (fun b hb=>⟨(hf b hb).2.2.2.1,(hf b hb).2.1,(hf b hb).2.2.2.2.1,(hf b hb).2.2.2.2.2⟩) (fun b o _ _ hc e _=>k b o hc e) (fun b o _ _ hc e _=>⟨o.slots,k b o hc e⟩) (fun _ _ _ _ n=>n)
    (fun b o hc e=>⟨o,k b o hc e⟩) (fun _ _ e=>e) (fun _ _ _ e=>e) (fun b ps e=>⟨#[],by rw [e];simp⟩) (fun m ⟨o,es,ep,ho,r⟩=>⟨o,es,ep,k _ o frame ho,r⟩) (fun b u e=>?_) I.bare
  refine (I.hok b u e).stay (fun c v hc q=>k c v ?_ q) (fun _ q=>q) fun _ _ q=>q
  rcases hc with z | z
  · rw [z];exact away b u e
  · exact away c _ z
theorem qE {h:Heap} {o o':Obj} {b:Addr} (hb:b≠h.objs.size) (e:(h.push o).get? b=some o'):h.get? b=some o':=by
  unfold Heap.get? Heap.push at e;unfold Heap.get?;simp only [Array.getElem?_push] at e;rw [if_neg hb] at e;exact e
theorem rz {t':Nat} {fp:List Addr} {u1 u2:Value} {v1 v2:V} (I:az X pins σ H s) (hf:∀ b∈fp,iT X pins H b) (hob:∀ b∈fp,b < s.heap.objs.size) (ht:IsPair h' s.heap.objs.size u1 u2) (k:∀ b o,b∉fp->s.heap.get? b=some o->h'.get? b=some o)
    (r1:bC v1 u1) (r2:bC v2 u2):az X pins σ (cU H s.heap.objs.size (.tup [v1,v2])) { s with heap:=h',toks:=t' }:=by
  have I1:az X pins σ (cU H s.heap.objs.size (.tup [v1,v2])) { s with heap:=s.heap.push { cls:=.type "tuple",data:=.seq #[u1,u2] },toks:=s.toks } :=
    I.laid (fun b u e=>Heap.get?_push_of_some _ e) (Nat.le_refl _) ⟨by show 2<=sizeLine;decide,[u1,u2],.cons r1 (.cons r2 .nil),_,Heap.get?_push_size _ rfl,rfl,_,rfl⟩
  refine iN (fp:=fp) (s:={ s with heap:=s.heap.push { cls:=.type "tuple",data:=.seq #[u1,u2] },toks:=s.toks }) I1 (fun b o hb e=>?_) fun b hb=>?_
  · by_cases hz:b=s.heap.objs.size
    · subst hz;have e':(s.heap.push { cls:=.type "tuple",data:=.seq #[u1,u2] }).get? s.heap.objs.size=some o:=e;rw [Heap.get?_push_size _ rfl] at e';cases e';exact ht
    · exact k b o hb (qE hz e)
  · obtain ⟨f0,f1,f2,f3,f4,f5⟩:=hf b hb;exact ⟨by rw [aJ (Nat.ne_of_lt (hob b hb))];exact f0,f1,f2,f3,f4,f5⟩
end
noncomputable def sA (K:PySem.W.Frag) (H:Hp) (a:Addr) (xs:List V):Bool->Prop
  | true=>eU K H a xs
  | false=>ke K H a xs
noncomputable def gq (h:Heap) (i l:Addr) (k:Nat):Bool->Prop
  | true=>h.IsTupleIter i l k
  | false=>h.IsListIter i l k
theorem gq.keep {h h':Heap} {i l:Addr} {k:Nat} {b:Bool} (x:gq h i l k b) (hi:∀ o,h.get? i=some o->h'.get? i=some o):gq h' i l k b:=by
  cases b
  · obtain ⟨o,e,r⟩:=x;exact ⟨o,hi _ e,r⟩
  · obtain ⟨o,e,r⟩:=x;exact ⟨o,hi _ e,r⟩
theorem gq.there {h:Heap} {i l:Addr} {k:Nat} {b:Bool} (x:gq h i l k b):∃ o,h.get? i=some o/\∀ v,o.data≠.cell v:=by
  cases b
  · obtain ⟨o,e,c,d⟩:=x;exact ⟨o,e,fun v z=>by rw [d] at z;cases z⟩
  · obtain ⟨o,e,c,d⟩:=x;exact ⟨o,e,fun v z=>by rw [d] at z;cases z⟩
section
variable {X:Cx} {pins:List (Addr×Obj)} {σ:St} {H:Hp} {s:Shared}
theorem nD {a:Addr} {xs:List V} {b:Bool} (I:az X pins σ H s) (h:sA X.K H a xs b):∃ its:List Value,aV xs its/\uI s.heap a its.toArray/\∀ (i:Addr) (k:Nat),gq s.heap i a k b->lG s.heap i a k its.toArray:=by
  cases b
  · obtain ⟨its,rv,p,_⟩:=I.list h;exact ⟨its,rv,.inl p.isList,fun i k z=>.inl ⟨z,p.isList⟩⟩
  · obtain ⟨its,rv,p,_⟩:=I.tuple h;exact ⟨its,rv,.inr p,fun i k z=>.inr ⟨z,p⟩⟩
theorem mF {a:Addr} {xs ys:List V} {b:Bool} (I:az X pins σ H s) (h:sA X.K H a xs b) (h':sA X.K H a ys b):ys=xs:=by
  cases b
  · exact I.list_inj h' h
  · exact I.tuple_inj h' h
theorem lG.toB {h:Heap} {i l:Addr} {k:Nat} {xs:Array Value} {b:Bool} (hl:∀ ys,(b=true->¬ h.IsList l ys)/\(b=false->¬ h.IsTuple l ys)) (x:lG h i l k xs):gq h i l k b:=by
  cases b
  · rcases x with ⟨z,w⟩ | ⟨z,w⟩
    · exact z
    · exact absurd w ((hl xs).2 rfl)
  · rcases x with ⟨z,w⟩ | ⟨z,w⟩
    · exact absurd w ((hl xs).1 rfl)
    · exact z
theorem fy {h:Heap} {l:Addr} {xs ys:Array Value} (a:h.IsList l xs) (b:h.IsTuple l ys):False:=by
  obtain ⟨o,e,c,_⟩:=a;obtain ⟨o',e',c',_⟩:=b;rw [e] at e';cases e';rw [c] at c';injection c' with z
  exact absurd z (by decide)
theorem qh {a:Addr} {xs:List V} {b:Bool} (I:az X pins σ H s) (h:sA X.K H a xs b) {h':Heap} (kp:∀ c o,s.heap.get? c=some o->h'.get? c=some o):∀ ys,(b=true->¬ h'.IsList a ys)/\(b=false->¬ h'.IsTuple a ys):=fun ys=>by
  cases b
  · obtain ⟨its,rv,p,_⟩:=I.list h;refine ⟨fun z=>(by cases z),fun _ w=>?_⟩;obtain ⟨o,e,r⟩:=p.isList;exact fy (h:=h') (xs:=its.toArray) ⟨o,kp _ _ e,r⟩ w
  · obtain ⟨its,rv,p,_⟩:=I.tuple h;refine ⟨fun _ w=>?_,fun z=>by cases z⟩;obtain ⟨o,e,r⟩:=p;exact fy (h:=h') w ⟨o,kp _ _ e,r⟩
end
noncomputable def uT (H:Hp) (a:Addr) (ds:List PyData):Bool->Prop
  | true=>∃ vs,H a=some (.tup vs)/\aY H ds vs
  | false=>∃ o vs,H a=some (.frz o (.lst vs))/\aY H ds vs
theorem uT.sq {K:PySem.W.Frag} {H:Hp} {a:Addr} {ds:List PyData} {b:Bool} (h:uT H a ds b):∃ vs,sA K H a vs b/\aY H ds vs:=by
  cases b
  · obtain ⟨o,vs,e,r⟩:=h;exact ⟨vs,.inl (.inr ⟨o,e⟩),r⟩
  · obtain ⟨vs,e,r⟩:=h;exact ⟨vs,eU.of e,r⟩
theorem uT.kp {H H':Hp} {a:Addr} {ds:List PyData} {b:Bool} (h:uT H a ds b) (k:Kp H H'):uT H' a ds b:=by
  cases b
  · obtain ⟨o,vs,e,r⟩:=h;exact ⟨o,vs,k.2 _ _ _ e,aY.kp k _ _ r⟩
  · obtain ⟨vs,e,r⟩:=h;exact ⟨vs,k.1 _ _ e,aY.kp k _ _ r⟩
section
variable {X:Cx} {elts:List Expr} {x1:Nat} {tp:Pos} {a b:Expr} {fa fb:Fe} {pos p:Pos} {nl:Nat} {G:List Str} {fs:aD->R (List PyData)}
theorem ud {H:Hp} {d:PyData} {v:V} {ds:List PyData} (h:Rp H d v) (e:le d=.ok ds):∃ a b,v=.ref a/\uT H a ds b:=by
  cases d with
  | list xs =>
    cases e;simp only [Rp] at h;obtain ⟨a,o,vs,rfl,h,r⟩:=h;exact ⟨a,false,rfl,o,vs,h,r⟩
  | tuple xs =>
    cases e;simp only [Rp] at h;obtain ⟨a,vs,rfl,h,r⟩:=h;exact ⟨a,true,rfl,vs,h,r⟩
  | _=>cases e
end
noncomputable def g8 (i j:Nat):PyData->aD->Option aD
  | .tuple [x,y],ρ=>some ((ρ.set i (.val x)).set j (.val y))
  | _,_=>none
section
variable {X:Cx} {nl:Nat} {G:List Str} {x y:Str} {k:Nat} {p1 p2 pos:Pos}
theorem pk (T:Tb X nl G) (i j:Nat) (hi:(X.N.take nl)[i]?=some x) (hj:(X.N.take nl)[j]?=some y):Z.n5 X (.Tuple [.Name x p1,.Name y p2] k pos) (g8 i j):=⟨by
  obtain ⟨i1,i2,i3⟩:=T.nm hi;obtain ⟨j1,j2,j3⟩:=T.nm hj;refine PG.imp (uA T.calm (l5 (lg T.nd i1 i2 i3) (l5 (lg T.nd j1 j2 j3) rT))) fun v σ H Q ⟨ρ,d,sl,p,q⟩=>?_
  unfold g8 at q;split at q
  · rename_i e;split at e
    · rename_i ρ0 dx dy;cases e;simp only [Rp] at p;obtain ⟨a,vs,rfl,ha,r⟩:=p;obtain ⟨u,r1,rfl,pu,r⟩:=r.cons_inv;obtain ⟨w,r2,rfl,pw,r⟩:=r.cons_inv;rw [r.nil_inv] at ha;refine ⟨a,[u,w],rfl,eU.of ha,rfl,u,[w],rfl,w,[],rfl,rfl,?_⟩;refine q _ (Sl.set (c:=.val dy) (o:=some w) (Sl.set (c:=.val dx) (o:=some u) sl i ⟨u,rfl,pu⟩) j ⟨w,rfl,pw⟩) fun n e h=>?_
      obtain ⟨n1,h⟩:=bU (fun e z=>by cases z) h;obtain ⟨n2,h⟩:=bU (fun e z=>by cases z) h;exact ⟨h,by rw [List.getElem?_set,if_neg n1,List.getElem?_set,if_neg n2]⟩
    · cases e
  · exact q.elim⟩
end
theorem oY {own:Nat} {fr:List Nat} {i j:Nat} (hi:i < own) (hj:j < own):∀ ρ d ρ1,g8 i j d (au own fr ρ)=some ρ1->iS (au own fr ρ) ρ1:=fun ρ d ρ1 e=>by
  unfold g8 at e;split at e
  · rename_i x y _;cases e;refine ⟨by rw [List.length_set,List.length_set],fun n c hn=>?_⟩;have at_own:n < own->c=.non:=fun h=>by
      unfold au at hn;rw [List.getElem?_append_left (by simpa using h),List.getElem?_replicate,if_pos h] at hn;exact (Option.some.inj hn).symm
    by_cases h1:j=n
    · exact .inl (at_own (by omega))
    · by_cases h2:i=n
      · exact .inl (at_own (by omega))
      · exact .inr (by rw [List.getElem?_set,if_neg h1,List.getElem?_set,if_neg h2];exact hn)
  · cases e
open AutoSeq1 (wpAny_loadPart')
noncomputable abbrev gk (h:Heap) (e i:Addr) (k:Int) (f0 old:Value):Prop:=h.get? e=some { cls:=.type "enumerate",dict:=none,data:=.fields #[f0,.bool false,.ref i,rawInt k,.none,old],slots:=#[] }
section
variable {prog:Program} {w:World} {A:Around} {E:Value->Shared->Prop} {s:Shared} {e i l:Addr} {k:Nat} {xs:Array Value}
theorem oO {x old:Value} {Q:Value->Shared->Prop} (he:gk s.heap e i k .none old) (it:lG s.heap i l k xs) (hli:l≠i) (hle:l≠e) (hei:e≠i) (hx:xs[k]?=some x)
    (hQ:∀ h' old',gk h' e i ((k:Int)+1) (rawInt s.heap.objs.size) old'->lG h' i l (k+1) xs->IsPair h' s.heap.objs.size (.int k s.toks) x->(∀ c o,c≠e->c≠i->s.heap.get? c=some o->h'.get? c=some o)->Q (.ref s.heap.objs.size) { s with heap:=h',toks:=s.toks+1 }) :
    wpAny (model prog w) A (Builtin.«enumerate.__next__» ⟨[.ref e],[]⟩) (fun fin s'=>∃ v,fin=.done (.ret v)/\Q v s') E s:=by
  obtain ⟨hp,g,d,tk,os⟩:=s;show wpAny _ _ (field (Value.ref e) 2>>=_) _ _ _;refine wpAny_bind (wpAny_field he rfl (x:=Value.ref i) rfl ?_);refine wpAny_bind (vB it hli hx fun g1 i1 s1=>?_);replace s1:Heap.SameBut i hp g1:=s1;have e1:gk g1 e i k .none old:=(s1.2 e hei).trans he;show wpAny _ _ (field (Value.ref e) 3>>=_) _ _ (Shared.mk g1 g d tk os);refine wpAny_bind (wpAny_field e1 rfl (x:=rawInt (k:Int)) rfl ?_);show wpAny _ _ (field (Value.ref e) 4>>=_) _ _ (Shared.mk g1 g d tk os);refine wpAny_bind (wpAny_field e1 rfl (x:=Value.none) rfl ?_);show wpAny _ _ (mkInt (k:Int)>>=_) _ _ (Shared.mk g1 g d tk os);refine wpAny_bind (wpAny_mkInt ?_);show wpAny _ _ (setField (Value.ref e) 3 (rawInt ((k:Int)+1))>>=_) _ _ (Shared.mk g1 g d (tk+1) os);refine wpAny_bind (wpAny_setField_rec e1 (by simp) fun g2 e2 s2=>?_);replace s2:Heap.SameBut e g1 g2:=s2;replace e2:gk g2 e i ((k:Int)+1) .none old:=e2;show wpAny _ _ (setField (Value.ref e) 4 Value.none>>=_) _ _ (Shared.mk g2 g d (tk+1) os);refine wpAny_bind (wpAny_setField_rec e2 (by simp) fun g3 e3 s3=>?_);replace s3:Heap.SameBut e g2 g3:=s3;replace e3:gk g3 e i ((k:Int)+1) .none old:=e3;show wpAny _ _ (newTuple [Value.int k tk,x]>>=_) _ _ (Shared.mk g3 g d (tk+1) os);refine wpAny_bind (wpAny_newTuple ?_);have hsz:g3.objs.size=hp.objs.size:=by rw [s3.1,s2.1,s1.1]
  have elt:e < g3.objs.size:=Heap.lt_size e3;have e4:gk (g3.push { cls:=.type "tuple",data:=.seq #[.int k tk,x] }) e i ((k:Int)+1) .none old:=Heap.get?_push_of_some _ e3;have t4:IsPair (g3.push { cls:=.type "tuple",data:=.seq #[.int k tk,x] }) g3.objs.size (.int k tk) x:=Heap.get?_push_size _ rfl;have i3:lG g3 i l (k+1) xs:=i1.keep (fun o q=>s3.extBut _ _ hei.symm (s2.extBut _ _ hei.symm q)) fun o q=>s3.extBut _ _ hle (s2.extBut _ _ hle q)
  have k3:∀ c o,c≠e->c≠i->hp.get? c=some o->g3.get? c=some o:=fun c o c1 c2 q=>s3.extBut _ _ c1 (s2.extBut _ _ c1 (s1.extBut _ _ c2 q))
  show wpAny _ _ (Builtin.SmallTypes.ownedTupleIsFree (Value.ref e)>>=_) _ _ (Shared.mk (g3.push { cls:=.type "tuple",data:=.seq #[.int k tk,x] }) g d (tk+1) os);refine wpAny_bind ?_;unfold Builtin.SmallTypes.ownedTupleIsFree;refine wpAny_bind (wpAny_field e4 rfl (x:=Value.none) rfl (wpAny_pure ?_));simp only [if_true];refine wpAny_bind (wpAny_rule ?_);refine wpAny_bind (wpAny_field e4 rfl (x:=old) rfl ?_);refine wpAny_bind (wpAny_setField_rec e4 (by simp) fun g5 e5 s5=>?_);replace s5:Heap.SameBut e (g3.push { cls:=.type "tuple",data:=.seq #[.int k tk,x] }) g5:=s5;replace e5:gk g5 e i ((k:Int)+1) .none x:=e5;show wpAny _ _ (Builtin.SmallTypes.ownedTupleHandOut (Value.ref e) (Value.ref g3.objs.size)>>=_) _ _ (Shared.mk g5 g d (tk+1) os);refine wpAny_bind ?_;unfold Builtin.SmallTypes.ownedTupleHandOut;refine wpAny_bind (wpAny_setField_rec e5 (by simp) fun g6 e6 s6=>?_);replace s6:Heap.SameBut e g5 g6:=s6;replace e6:gk g6 e i ((k:Int)+1) (rawInt g3.objs.size) x:=e6;refine wpAny_setField_rec e6 (by simp) fun g7 e7 s7=>?_
  replace s7:Heap.SameBut e g6 g7:=s7;replace e7:gk g7 e i ((k:Int)+1) (rawInt g3.objs.size) x:=e7;have up:∀ c o,c≠e->g3.get? c=some o->g7.get? c=some o:=fun c o c1 q=>s7.extBut _ _ c1 (s6.extBut _ _ c1 (s5.extBut _ _ c1 (Heap.get?_push_of_some _ q)))
  have t7:IsPair g7 g3.objs.size (.int k tk) x:=s7.extBut _ _ (Nat.ne_of_gt elt) (s6.extBut _ _ (Nat.ne_of_gt elt) (s5.extBut _ _ (Nat.ne_of_gt elt) t4));rw [hsz] at e7 t7;refine wpAny_bind (wpAny_letGo (wpAny_pure ⟨_,rfl,?_⟩));show Q (.ref g3.objs.size) _;rw [hsz];exact hQ g7 x e7 (i3.keep (fun o q=>up _ _ hei.symm q) fun o q=>up _ _ hle q) t7 fun c o c1 c2 q=>up c o c1 (k3 c o c1 c2 q)
theorem pz {x old:Value} {Q:Option Value->Shared->Prop} (he:gk s.heap e i k .none old) (it:lG s.heap i l k xs) (hli:l≠i) (hle:l≠e) (hei:e≠i) (hx:xs[k]?=some x)
    (hQ:∀ h' old',gk h' e i ((k:Int)+1) (rawInt s.heap.objs.size) old'->lG h' i l (k+1) xs->IsPair h' s.heap.objs.size (.int k s.toks) x->(∀ c o,c≠e->c≠i->s.heap.get? c=some o->h'.get? c=some o)->Q (some (.ref s.heap.objs.size)) { s with heap:=h',toks:=s.toks+1 }) :
    wpAny (model prog w) A (pyNext (.ref e)) Q E s:=by
  have hT:s.TypeIs (.ref e) "enumerate" := ⟨_,he,rfl⟩
  unfold pyNext;exact wpAny_bind (wpAny_attempt (wpAny_callSpecial?_slot (name:=Str.ofString "__next__") hT F.slot_enumerate_next (wpAny_call_entry F.slot_enumerate_next hT F.entry_enumerate_next (oO he it hli hle hei hx fun h' o a b c d=>wpAny_pure (hQ h' o a b c d)) (F.args_enumerate_next_1 _))))
theorem pZ {old:Value} {Q:Option Value->Shared->Prop} (hh:A.handled=none) (he:gk s.heap e i k .none old) (it:lG s.heap i l k xs) (hx:xs[k]?=none) (hQ:∀ h',(∀ c o,c≠i->s.heap.get? c=some o->h'.get? c=some o)->Q none { s with heap:=h' }) :
    wpAny (model prog w) A (pyNext (.ref e)) Q E s:=by
  have hT:s.TypeIs (.ref e) "enumerate" := ⟨_,he,rfl⟩
  unfold pyNext;refine wpAny_bind (wpAny_attempt (wpAny_callSpecial?_slot (name:=Str.ofString "__next__") hT F.slot_enumerate_next (wpAny_call_entry F.slot_enumerate_next hT F.entry_enumerate_next ?_ (F.args_enumerate_next_1 _))));show wpAny _ _ (field (Value.ref e) 2>>=_) _ _ _;refine wpAny_bind (wpAny_field he rfl (x:=Value.ref i) rfl ?_);refine wpAny_bind (ph hh it hx fun h' x k1 ⟨o,ho,hc⟩=>?_);exact wpAny_bind (wpAny_isInstance (T := "StopIteration") (b:=true) ⟨o,ho,hc⟩ isSubtype_stop (wpAny_pure (hQ _ fun c o c1 q=>k1 c o c1 q)))
theorem qL (l:Addr) (xs:Array Value):Meets (Builtin.«enumerate.__new__» ⟨[.type "enumerate",.ref l],[]⟩) (fun _ R s=>uI s.heap l xs /\
    ∀ h',gk h' (s.heap.objs.size+1) s.heap.objs.size 0 .none .none->lG h' s.heap.objs.size l 0 xs->(∀ c o,s.heap.get? c=some o->h'.get? c=some o)->R (.ok (.ret (.ref (s.heap.objs.size+1)))) { s with heap:=h' }) :=
  .of_wp fun prog w A R s h=>by
    obtain ⟨hp,g,d,tk,os⟩:=s;obtain ⟨h1,h⟩:=h;have hsub:=sub_enumerate;have fin:∀ oi:Obj,lG (hp.push oi) hp.objs.size l 0 xs->R (.ok (.ret (.ref (hp.push oi).objs.size))) ⟨(hp.push oi).push { cls:=.type "enumerate",data:=.fields #[.none,.bool false,.ref hp.objs.size,rawInt 0,.none,.none] },g,d,tk,os⟩:=fun oi hi=>by
      have e1:(hp.push oi).objs.size=hp.objs.size+1:=Heap.size_push ..;rw [e1];refine h _ ?_ (hi.keep (fun o q=>Heap.get?_push_of_some _ q) fun o q=>Heap.get?_push_of_some _ q) fun c o q=>Heap.get?_push_of_some _ (Heap.get?_push_of_some _ q)
      show Heap.get? _ (hp.objs.size+1)=_;rw [<- e1];exact Heap.get?_push_size _ rfl
    rcases h1 with h1 | h1
    · have l1:Heap.IsList (Shared.heap ⟨hp,g,d,tk,os⟩) l xs:=h1;obtain ⟨o,ho,_,_,_⟩:=id h1;have ho':(Shared.heap ⟨hp,g,d,tk,os⟩).get? l=some o:=ho
      wp_walk using wpAny_loadPart' ho'
      refine wpAny_stack_any fun st=>wpAny_pure ?_
      split
      · rename_i c _ _ _ _ _;cases (c==Value.type "enumerate")
        · wp_walk using wpAny_loadPart' ho',wpAny_pyIter_list l1
          exact ⟨_,rfl,fin _ (.inl ⟨⟨_,Heap.get?_push_size _ rfl,rfl,rfl⟩,Heap.IsList.push h1 _⟩)⟩
        · wp_walk using wpAny_loadPart' ho',wpAny_pyIter_list l1
          exact ⟨_,rfl,fin _ (.inl ⟨⟨_,Heap.get?_push_size _ rfl,rfl,rfl⟩,Heap.IsList.push h1 _⟩)⟩
      · wp_walk using wpAny_loadPart' ho',wpAny_pyIter_list l1
        exact ⟨_,rfl,fin _ (.inl ⟨⟨_,Heap.get?_push_size _ rfl,rfl,rfl⟩,Heap.IsList.push h1 _⟩)⟩
    · have l1:Heap.IsTuple (Shared.heap ⟨hp,g,d,tk,os⟩) l xs:=h1;obtain ⟨o,ho,_,_,_⟩:=id h1;have ho':(Shared.heap ⟨hp,g,d,tk,os⟩).get? l=some o:=ho
      wp_walk using wpAny_loadPart' ho'
      refine wpAny_stack_any fun st=>wpAny_pure ?_
      split
      · rename_i c _ _ _ _ _;cases (c==Value.type "enumerate")
        · wp_walk using wpAny_loadPart' ho',wpAny_pyIter_tuple l1
          exact ⟨_,rfl,fin _ (.inr ⟨⟨_,Heap.get?_push_size _ rfl,rfl,rfl⟩,Heap.IsTuple.push h1 _⟩)⟩
        · wp_walk using wpAny_loadPart' ho',wpAny_pyIter_tuple l1
          exact ⟨_,rfl,fin _ (.inr ⟨⟨_,Heap.get?_push_size _ rfl,rfl,rfl⟩,Heap.IsTuple.push h1 _⟩)⟩
      · wp_walk using wpAny_loadPart' ho',wpAny_pyIter_tuple l1
        exact ⟨_,rfl,fin _ (.inr ⟨⟨_,Heap.get?_push_size _ rfl,rfl,rfl⟩,Heap.IsTuple.push h1 _⟩)⟩
theorem oR {Q:Value->Shared->Prop} {l:Addr} (h1:uI s.heap l xs)
    (h:∀ h',gk h' (s.heap.objs.size+1) s.heap.objs.size 0 .none .none->lG h' s.heap.objs.size l 0 xs->(∀ c o,s.heap.get? c=some o->h'.get? c=some o)->Q (.ref (s.heap.objs.size+1)) { s with heap:=h' }) :
    wpAny (model prog w) A (call (.type "enumerate") [.ref l]) Q E s:=by
  refine callType_new F.called_enumerate (by decide) (F.typeCall_enumerate_1 _) (F.newCall_enumerate_1 _) (fun obj=>F.args_object_init_2 obj _) F.entry_enumerate_new (qL l xs) ⟨h1,fun h' e S k=>?_⟩;exact ⟨⟨_,e,rfl⟩,h h' e S k⟩
end
end D2
namespace D2
open PySem PySem.Spec PyProof.Rows L2
noncomputable def wC (K:PySem.W.Frag) (l:Addr) (b:Bool):It :=
  ⟨fun i H=>∃ xs x,sA K H l xs b/\xs[i]?=some x,fun i H v H'=>∃ a x,H a=none/\v=.ref a/\H'=cU H a (.tup [.int i,x])/\∀ xs,sA K H l xs b->xs[i]?=some x,fun i H=>∃ xs,sA K H l xs b/\xs.length<=i⟩
structure xy (e i l:Addr) (b:Bool) (k:Nat) (h:Heap):Prop where
  ee:∃ old,gk h e i k .none old
  ii:gq h i l k b
theorem o0 {P:Program} {w:World} {K:PySem.W.Frag} {elts:List Expr} {x1} {pos:Pos} {e i l:Addr} {b:Bool} (hei:e≠i) (hle:l≠e) (hli:l≠i):oy P w K (.Tuple elts x1 pos) (wC K l b) [e,i] e (xy e i l b) where
  mem:=by simp
  obj:=fun k h st a ha=>by
    simp only [List.mem_cons,List.not_mem_nil,or_false] at ha;rcases ha with rfl | rfl
    · obtain ⟨_,q⟩:=st.ee;exact ⟨_,q,fun v e=>by cases e⟩
    · exact st.ii.there
  keep:=fun k h h' st kp=>⟨let ⟨o,q⟩:=st.ee;⟨o,kp e (by simp) _ q⟩,st.ii.keep fun o q=>kp i (by simp) o q⟩
  item:=by
    intro X hP hw hK hc k pins s σ H E I hf st hg;subst hP hw hK;obtain ⟨xs,x,h1,hx⟩:=hg;obtain ⟨its,rv,_,p1⟩:=nD I h1;obtain ⟨u,hu,ru⟩:=rv.get hx;obtain ⟨old,he⟩:=st.ee;refine pz he (p1 _ _ st.ii) hli hle hei (x:=u) (by simpa using hu) fun h' old' e' i' hp kp=>⟨_,rfl,?_⟩
    have elt:e < s.heap.objs.size:=Heap.lt_size he;have hob:∀ a∈[e,i],a < s.heap.objs.size:=fun a ha=>by
      simp only [List.mem_cons,List.not_mem_nil,or_false] at ha;rcases ha with rfl | rfl
      · exact elt
      · obtain ⟨o,q,_⟩:=st.ii.there;exact Heap.lt_size q
    have hn:H s.heap.objs.size=none:=I.hok.fresh (Nat.le_refl _);refine wpAny_letOwnedTupleGo_enum (s:={ s with heap:=h',toks:=s.toks+1 }) e' fun h2' e2 sb=>?_
    have up:∀ a o,a≠e->h'.get? a=some o->h2'.get? a=some o:=fun a o ha q=>sb.extBut a o ha q
    refine ⟨.ref s.heap.objs.size,_,rz (s:=s) (t':=s.toks+1) (fp:=[e,i]) (h':=h2') (u1:=.int k s.toks) (u2:=u) (v1:=.int k) (v2:=x) I hf hob (up _ _ (Nat.ne_of_gt elt) hp) (fun a o ha q=>?_) ⟨_,rfl⟩ ru,rfl,⟨_,x,hn,rfl,rfl,fun zs hz=>by rw [mF I h1 hz];exact hx⟩,?_,fun a ha=>?_⟩
    · simp only [List.mem_cons,List.not_mem_nil,or_false,not_or] at ha;exact up a o ha.1 (kp a o ha.1 ha.2 q)
    · have i2:gq h' i l (k+1) b:=by
        refine i'.toB fun ys=>?_
        cases hb:b
        · subst hb;refine ⟨fun z=>(by cases z),fun _ w=>?_⟩;obtain ⟨_,_,pl,_⟩:=I.list h1;obtain ⟨o,q,r⟩:=pl.isList;exact fy (h:=h') (xs:=_) ⟨o,kp _ _ hle hli q,r⟩ w
        · subst hb;refine ⟨fun _ w=>?_,fun z=>by cases z⟩;obtain ⟨_,_,pl,_⟩:=I.tuple h1;obtain ⟨o,q,r⟩:=pl;exact fy (h:=h') w ⟨o,kp _ _ hle hli q,r⟩
      exact ⟨⟨_,by have q:gk h2' e i ((k:Int)+1) .none old':=e2;simpa using q⟩,i2.keep fun o q=>up _ _ hei.symm q⟩
    · rw [aJ (Nat.ne_of_lt (hob a ha))];exact (hf a ha).1
  done:=by
    intro X hP hw hK hc k pins s σ H E I hf st hg;subst hP hw hK;obtain ⟨xs,h1,hl⟩:=hg;obtain ⟨its,rv,_,p1⟩:=nD I h1;obtain ⟨old,he⟩:=st.ee;have e1:=rv.length;refine pZ (I.ok.hd hc) he (p1 _ _ st.ii) (by simp;omega) fun h' kp=>⟨rfl,iN (t':=s.toks) (fp:=[e,i]) I (fun a o ha q=>?_) hf⟩
    simp only [List.mem_cons,List.not_mem_nil,or_false,not_or] at ha;exact kp a o ha.2 q
  self:=fun _ _ _ _ _ st h=>let ⟨_,q⟩:=st.ee;wpAny_pyIter_enum q h
noncomputable def dt:Nat->List PyData->List PyData
  | _,[]=>[]
  | k,d::ds=>.tuple [.int k,d]::dt (k+1) ds
theorem eR:∀ (k:Nat) (ds:List PyData),(dt k ds).length=ds.length
  | _,[]=>rfl
  | k,d::ds=>by unfold dt;rw [List.length_cons,List.length_cons,eR]
theorem kD:∀ {k:Nat} {ds:List PyData} {i:Nat} {d:PyData},(dt k ds)[i]?=some d->∃ x,ds[i]?=some x/\d=.tuple [.int ((k+i:Nat):Int),x]
  | k,[],i,d,h=>by unfold dt at h;simp at h
  | k,x::ds,0,d,h=>by
    unfold dt at h;simp at h;exact ⟨x,rfl,by rw [<- h];simp⟩
  | k,x::ds,i+1,d,h=>by
    unfold dt at h;rw [List.getElem?_cons_succ] at h;obtain ⟨y,h1,h2⟩:=kD h;refine ⟨y,by simpa using h1,?_⟩;rw [h2];have:k+1+i=k+(i+1):=by omega
    rw [this]
theorem qQ {K:PySem.W.Frag} {l:Addr} {b:Bool} {xs:List PyData}:tm (wC K l b) (fun H=>uT H l xs b) (dt 0 xs) where
  go:=fun i H h1 hi=>by
    rw [eR] at hi;obtain ⟨vs,s1,r1⟩:=h1.sq (K:=K);obtain ⟨x,hx,_⟩:=r1.get (List.getElem?_eq_getElem hi);exact ⟨vs,x,s1,hx⟩
  yld:=fun i H v H' d h1 hd h=>by
    obtain ⟨a,x,ha,rfl,rfl,k1⟩:=h;obtain ⟨vs,s1,r1⟩:=h1.sq (K:=K);obtain ⟨dx,e1,rfl⟩:=kD hd;obtain ⟨x',hx,px⟩:=r1.get e1;have q1:=k1 vs s1;rw [hx] at q1;cases q1;refine ⟨bT ha _,cS ha (aY.cons ?_ (aY.cons px aY.nil))⟩;rw [Nat.zero_add];exact dj
  stop:=fun i H h1 hi=>by
    rw [eR] at hi;obtain ⟨vs,s1,r1⟩:=h1.sq (K:=K);have l1:=r1.length;exact ⟨vs,s1,by omega⟩
section
variable {X:Cx} {elts:List Expr} {x1:Nat} {tp:Pos} {a b:Expr} {fa fb:Fe} {pos p:Pos} {nl:Nat} {G:List Str} {fs:aD->R (List PyData)}
noncomputable def xH (K:PySem.W.Frag) (ta:TA):TI:=fun σ H R=>ta σ H fun vs H1=>∃ l xs b,vs=[.ref l]/\sA K H1 l xs b/\R (wC K l b) H1
theorem sD {ta:TA} (hg:Gl X "enumerate") (hm:X.mg "enumerate" = none) (ha:PA X [a] ta) (hs:starEach [a] X.env=[(false,eval a X.env)]):PI X (.Tuple elts x1 tp) (.Call (.Name "enumerate" p) [a] [] pos) (xH X.K ta):=by
  intro pins s σ H R I h;refine Call_ (jA I hg hm boot_enumerate (PyProof.Rows.callWith_type1 (cG (ha pos pins s σ H _ I h) fun us s1 ⟨vs,H1,I1,r1,q1⟩=>?_) hs rfl));obtain ⟨l,xs,b,e,h1,q⟩:=q1;subst e;obtain ⟨u,rfl,ru⟩:=iA r1;cases ru;obtain ⟨its,w1,p1,g1⟩:=nD I1 h1;have ll:l < s1.heap.objs.size:=by rcases p1 with ⟨o,e,_⟩ | ⟨o,e,_⟩ <;> exact Heap.lt_size e
  refine oR p1 fun h' hz S kp=>wpAny_pyIter_enum hz ?_
  have I2:az X pins σ H1 { s1 with heap:=h' }:=I1.kept (t':=s1.toks) kp;have i2:gq h' s1.heap.objs.size l 0 b:=S.toB (qh I1 h1 kp);refine ⟨_,[s1.heap.objs.size+1,s1.heap.objs.size],_,_,H1,rfl,I2,o0 (b:=b) (Nat.ne_of_gt (Nat.lt_succ_self _)) (Nat.ne_of_lt (Nat.lt_succ_of_lt ll)) (Nat.ne_of_lt ll),⟨⟨_,hz⟩,i2⟩,fun a ha=>?_,q⟩;have hle:s1.heap.objs.size<=a:=by
    simp only [List.mem_cons,List.not_mem_nil,or_false] at ha;rcases ha with rfl | rfl
    · exact Nat.le_add_right _ 1
    · exact Nat.le_refl _
  exact I1.fpOk hle (I1.hok.fresh hle)
noncomputable def n6 (fa:Fe):aD->R (List PyData):=fun ρ=>fa ρ>>=fun x=>le x>>=fun xs=>.ok (dt 0 xs)
theorem o8 (T:Tb X nl G) (j:Nat) (hG:G[j]?=some ("enumerate" : Str)) (hm:X.mg "enumerate" = none) (ha:Z.cw X a fa) (h1:aN a=true:=by rfl):Z.oq X (.Tuple elts x1 tp) (.Call (.Name "enumerate" p) [a] [] pos) (n6 fa):=⟨have ha:=ha.un;by
  have g:=T.gl _ (List.mem_of_getElem? hG);refine PI.imp (sD g.1 hm (iZ ha lz h1) (by rw [bz h1];rfl)) fun σ H Rk h=>?_
  obtain ⟨ρ,sl,q⟩:=h;unfold n6 at q;refine ⟨ρ,sl,?_⟩;unfold ag aq;cases e1:fa ρ with
  | ex c=>rw [e1] at q;exact q
  | no=>rw [e1] at q;exact q
  | ok x =>
    rw [e1] at q;simp only [R.ok_bind] at q ⊢;cases e3:le x with
    | ex c=>exact absurd e3 (by cases x <;> simp [le])
    | no=>rw [e3] at q;exact q.elim
    | ok xs =>
      rw [e3] at q;simp only [R.ok_bind] at q;intro vs H1 s1 ra;simp only [RA] at ra;obtain ⟨v,r',rfl,p1,rfl⟩:=ra;obtain ⟨l,b1,rfl,d1⟩:=ud p1 e3;obtain ⟨us,u1,_⟩:=d1.sq (K:=X.K);exact ⟨l,us,b1,rfl,u1,q _ H1 s1 ⟨_,qQ,fun H2 k _=>d1.kp k⟩⟩⟩
end
section
variable {X:Cx} {nl:Nat} {G:List Str} {x:Str} {e:Expr} {f:Fe} {q1 q2 q3 q4:Pos}
theorem du (T:Tb X nl G) (n:Nat) (hN:X.N[n]?=some x) (he:Z.cw X e f) (hst:aN e=true:=by rfl) (hline:(q2.endLine==q3.line)=true:=by rfl) (hs:swapsWith (.Call (.Attribute (.Name x q1) "append" q2) [e] [] q3) none q4.line X.env=pure false:=by rfl) (hbase:attributeBase (.Name x q1) "append" X.env (eval (.Name x q1) X.env)=eval (.Name x q1) X.env:=by rfl):Z.jg X (.Expr (.Call (.Attribute (.Name x q1) "append" q2) [e] [] q3) q4) (cu n f):=⟨have he:=he.un;fun Fm=>by
  have hm:=T.vis x (List.mem_of_getElem? hN);have sc:starEach [e] X.env=(false,eval e X.env)::starEach [] X.env:=bz hst;refine PS.imp (rg (v9 PySem.F.plainAttrs_list PySem.F.slot_list_append PySem.F.type_list_append ky (kN hN hm.1 hm.2.1 hm.2.2) (iZ he lz hst) hbase (by rw [sc];rfl) hline sc rfl) hs) fun D σ H h=>?_
  obtain ⟨ρ,sl,q⟩:=h;unfold cu at q;cases ef:f ρ with
  | ex c=>rw [ef] at q;exact q.elim
  | no=>rw [ef] at q;exact q.elim
  | ok d =>
    rw [ef] at q;simp only [mw,R.ok_bind] at q;cases er:ρ[n]? with
    | none=>rw [er] at q;exact q.elim
    | some c =>
      rw [er] at q;cases c with
      | non=>exact q.elim
      | exc p=>exact q.elim
      | val d'=>exact q.elim
      | own d' =>
        cases d' with
        | list ds =>
          dsimp only at q;by_cases hz:ds.length < sizeLine
          · rw [if_pos hz] at q;obtain ⟨o,h2,w',rfl,p2⟩:=sl.sl.at er;simp only [gC] at p2;obtain ⟨a',vs,rfl,ha,r⟩:=p2;refine ⟨.ref a',h2,.inl ⟨rfl,_,ke.of ha⟩,ρ,sl.sl,?_⟩;unfold ag aq;rw [ef];intro us H1 s1 ra;simp only [RA] at ra;obtain ⟨v,r',rfl,p1,rfl⟩:=ra;have ha1:=s1 _ _ ha;refine ⟨a',vs,v,rfl,rfl,ha1,by rw [r.length];exact hz,q _ _ ((sl.mono s1).change er h2 ha1 (.inl ⟨_,rfl⟩) ?_)⟩;simp only [gC];exact ⟨a',_,rfl,cr,aY.kp (gw ha1 (.inl ⟨_,rfl⟩)) _ _ (aY.append (r.mono s1) (aY.cons p1 aY.nil))⟩
          · rw [if_neg hz] at q;exact q.elim
        | _=>exact q.elim⟩
end
noncomputable def jT (g:Fs):Fs:=fun ρ=>mw (g ρ)
theorem Tb.nox {X:Cx} {nl:Nat} {G:List Str} (T:Tb X nl G):Tb X.nox nl G:=⟨T.hu,T.calm,T.nd,T.vis,T.loc,T.gl⟩
section
variable {X:Cx} {nl:Nat} {G:List Str} {st:Stmt} {g:Fs} {pos:Pos}
theorem di (h:Z.jg X.nox st g):Z.jg X st (jT g):=⟨have h:=h.un;fun Fm=>by
  intro pins s σ H D I ⟨ρ,sl,q⟩;refine wpAny_mono (h Fm pins s σ H D (I.wish _) ⟨ρ,sl,?_⟩) (fun _ _ q=>q.unwish) fun _ _ z=>False.elim z
  unfold jT at q;cases e:g ρ with
  | ok o =>
    rw [e] at q;cases o <;> exact q
  | ex c=>rw [e] at q;exact q.elim
  | no=>rw [e] at q;exact q.elim⟩
end
abbrev pF:List Value:=[.type "ValueError",.type "Exception",.type "BaseException",.type "object"]
abbrev oX:String := "ValueError.__new__"
section
variable {K:PySem.W.Frag} {h:Heap} {C:Addr}
noncomputable def kn (h:Heap) (C:Addr) (bm:List Value):Prop:=∃ N nm q bs hdct sn sub ab col dd k0 k1 k2 k3 k5 mN,h.get? C=some (excClassObj nm q C N bs bm hdct sn sub ab col dd k0 k1 k2 k3 k5 oX)/\h.Ns N mN/\mN "__init__" = none/\OwnTail h pF bm
theorem kn.keep {h':Heap} {bm:List Value} (c:kn h C bm) (k:∀ b o,h.get? b=some o->h'.get? b=some o):kn h' C bm :=
  let ⟨N,nm,q,bs,hdct,sn,sub,ab,col,dd,k0,k1,k2,k3,k5,mN,hC,hN,hni,T⟩:=c
  ⟨N,nm,q,bs,hdct,sn,sub,ab,col,dd,k0,k1,k2,k3,k5,mN,k _ _ hC,hN.keeps k,hni,T.keeps k⟩
noncomputable def fY (K:PySem.W.Frag) (C:Addr):List Value:=match K.lookup C with
  | some ⟨_,_,.cls cd,_⟩=>cd.mro.drop 1
  | _=>[]
theorem jr (X:K.In h) (q:PySem.W.excIn K C pF oX=true):kn h C (fY K C):=by
  unfold PySem.W.excIn at q;unfold fY;cases hk:K.lookup C with
  | none=>rw [hk] at q;cases q
  | some ob =>
    rw [hk] at q;split at q
    · rename_i dd cd sl ho;cases ho;split at q
      · rename_i C' bm k0 k1 k2 k3 n k5 hm hs;simp only [Bool.not_eq_true',beq_iff_eq,Bool.and_eq_true] at q;obtain ⟨⟨⟨⟨⟨e1,e2⟩,hdel⟩,ht⟩,hok⟩,hni⟩:=q;subst e1;subst e2;obtain ⟨nm,bs,mro,ns,qn,hd,sn,sub,ab,col,del⟩:=cd;dsimp only at hm hdel hok hni ⊢;subst hm;subst hdel;have hsl:sl=#[k0,k1,k2,k3,some (.builtin oX),k5]:=by
          obtain ⟨l⟩:=sl;simp only at hs;rw [hs]
        subst hsl;exact ⟨ns,nm,qn,bs,hd,sn,sub,ab,col,dd,k0,k1,k2,k3,k5,_,X _ _ hk,.of_isNs (PySem.W.isNs_of_in X hok),PySem.W.nsMap_none_of_in X hok hni,PySem.W.tail_of_in X ht⟩
      · cases q
    · cases q
end
noncomputable def mS (x:Str) (f:Fe):Fs:=fun ρ=>mw (f ρ)>>=fun _=>.ex x
section
variable {X:Cx} {nl:Nat} {G:List Str} {x:Str} {e:Expr} {f:Fe} {np cp pos:Pos} {C:Addr}
theorem mT (T:Tb X nl G) (j:Nat) (hG:G[j]?=some x) (hm:X.mg x=some (.ref C)) (hq:PySem.W.excIn X.K C pF oX=true) (he:Z.cw X.nox e f) (hst:aN e=true:=by rfl):Z.jg X (.Raise (some (.Call (.Name x np) [e] [] cp)) none pos) (mS x f):=⟨have he:=he.un;fun Fm=>by
  intro pins s σ H D I ⟨ρ,sl,q⟩;have hg:=T.gl x (List.mem_of_getElem? hG);have sc:starEach [e] X.env=(false,eval e X.env)::starEach [] X.env:=bz hst;obtain ⟨N,nm,qn,bs,hdct,sn,sub,ab,col,dd,k0,k1,k2,k3,k5,mN,hC,hN,hni,TL⟩:=jr (I.ok.mod.kin) hq;unfold mS at q;cases ef:f ρ with
  | ex c=>rw [ef] at q;exact q.elim
  | no=>rw [ef] at q;exact q.elim
  | ok d =>
    rw [ef] at q;simp only [mw,R.ok_bind] at q;refine wpAny_Raise_call_subT (C:=C) (nm:=nm) (q:=qn) (N:=N) (bs:=bs) (bm:=fY X.K C) (hdct:=hdct) (sn:=sn) (sub:=sub) (ab:=ab) (col:=col) (dd:=dd) (k0:=k0) (k1:=k1) (k2:=k2) (k3:=k3) (k5:=k5) PySem.F.excBase_ValueError (mN:=mN) (TL.hasType rfl) (I.ok.hd T.calm) (by rw [sc];rfl) hni (i8 I hg.1 hm ⟨rfl,?_⟩ hg.2.1);rw [sc];refine Calls.evalArgs_plain (wpAny_mono ?_ (fun vs s2 z=>⟨rfl,z⟩) fun _ _ y=>y);have ha:PA X.nox [e] (qU X.nox Rp (ag f aq)):=iZ he lz hst;have hw:=ha cp pins s σ H (fun vs H'=>vs.length=1/\ar H H') (I.wish _) ⟨ρ,sl.sl,by
      unfold ag aq;rw [ef];intro vs H' s' ra;simp only [RA] at ra;obtain ⟨v,r,rfl,_,rfl⟩:=ra;exact ⟨rfl,s'⟩⟩
    rw [show (X.nox.env)=X.env from rfl,sc] at hw;refine wpAny_mono hw (fun us s2 ⟨vs,H2,I2,r2,hl,s12⟩=>?_) fun _ _ z=>False.elim z
    have I2:=I2.unwish;have hlen:us.length=1:=by rw [<- r2.length];exact hl
    exact ⟨by rw [hlen];decide,I2.bk _ _ hC,hN.keeps I2.bk,TL.keeps I2.bk,fun h' p mk=>q.2 C hm pins σ H2 s2 (sl.fm.trans s12) I2 h' p us mk⟩⟩
end
section
variable {P:Program} {w:World} {l:List Env} {H H':Hp} {s s':Shared} {C p:Addr} {e:Value}
theorem iL.again {a0:Value} {B h':Heap} (f:iL P w l H s C H' e s') (fly:Heap.FlyingW B l p (.ref C) a0 s'.heap) (fly':Heap.FlyingW B l p (.ref C) a0 h') (up:s'.heap.UpToSlots h') (okB:eS P w H' B) (hp:H' p=none)
    (cov:∀ b o,s.heap.get? b=some o->H b=none->b∉gM l->B.get? b=some o/\H' b=none):iL P w l H s C H' (.ref p) { s' with heap:=h' }:=by
  refine ⟨f.os,f.bare,f.same,⟨p,a0,B,rfl,fly',okB,hp,cov⟩,fun b o q n hb=>?_⟩;obtain ⟨⟨sl,q2⟩,n2⟩:=f.slot b o q n hb;obtain ⟨_,o3,q3,nf⟩:=fly.2.2.1.mem hb;rw [q2] at q3;cases q3;obtain ⟨sl3,q4⟩:=up b _ q2 nf;exact ⟨⟨sl3,q4⟩,n2⟩
theorem iL.land {M:Model} {A:Around} {E:Value->Shared->Prop} {Q:Unit->Shared->Prop} (f:iL P w l H s C H' (.ref p) s') (k:∀ h',iL P w l H s C H' (.ref p) { s' with heap:=h' }->Q () { s' with heap:=h' }):wpAny M A (setFlight (.ref p) none) Q E s':=by
  obtain ⟨p',a0,B,ep,fly,okB,hp,cov⟩:=f.ex;cases ep;exact lands_againW fly fun h' fly' up=>k h' (f.again fly fly' up okB hp cov)
theorem iL.look {M:Model} {A:Around} {E:Value->Shared->Prop} {Q:Unit->Shared->Prop} {env:Env} {outer:List Env} {L:Addr} (f:iL P w (env::outer) H s C H' e s') (hfr:A.frames=some (env::outer)) (hf:env.frame=some L)
    (k:∀ p h',e=.ref p->iL P w (env::outer) H s C H' (.ref p) { s' with heap:=h' }->Q () { s' with heap:=h' }):wpAny M A (noteFrame e env) (fun _ s2=>wpAny M A (setFlight e none) Q E s2) E s':=by
  obtain ⟨p,a0,B,rfl,fly,okB,hp,cov⟩:=f.ex;refine wpAny_looks_onW hfr hf fly fun h4 held up4=>?_
  exact wpAny_landsW (s:={ s' with heap:=h4 }) held fun h5 fly5 up5=>k p h5 rfl (f.again fly fly5 (up4.trans up5) okB hp cov)
theorem iL.obj (f:iL P w l H s C H' (.ref p) s'):∃ ob vs,s'.heap.get? p=some ob/\ob.cls=.ref C/\ob.data=.fields vs/\H' p=none/\p∉gM l:=by
  obtain ⟨p',a0,B,ep,fly,okB,hp,cov⟩:=f.ex;cases ep;obtain ⟨oe,ws,h1,h2,h3,_⟩:=fly.first;refine ⟨oe,ws,h1,h2,h3,hp,fun hm=>?_⟩;obtain ⟨_,o,ho,hnf⟩:=fly.2.2.1.mem hm;rw [h1] at ho;cases ho;exact hnf ws h3
end
theorem iL.inv {X:Cx} {pins:List (Addr×Obj)} {σ:St} {Hc H1:Hp} {sc s':Shared} {C:Addr} {e:Value} (f:iL X.prog X.w X.stack Hc sc C H1 e s') (I:az X pins σ Hc sc):az X pins σ H1 s' :=
  I.call' f.os f.un f.hok f.bare fun b z=>absurd z (by simp)
noncomputable def Xh (X:Cx) (p:Addr) (ob:Obj):Cx:={ X with A:=X.A.mark (some (.ref p)),calm:=false,xe:=fun _ _=>False,pn:=(p,ob)::X.pn }
section
variable {X:Cx} {pins:List (Addr×Obj)} {σ:St} {H:Hp} {s:Shared} {p:Addr} {ob:Obj}
theorem qC (I:az X pins σ H s) (hp:s.heap.get? p=some ob) (hn:H p=none) (hl:p≠X.env.locals) (hf:p∉X.fs) (hc:∀ v,ob.data≠.cell v):az (Xh X p ob) pins σ H s:=by
  refine ⟨⟨I.ok.mod,I.ok.kind,I.ok.glob,I.ok.blt,I.ok.above,I.ok.inj,I.ok.has,I.ok.cab,fun z=>(by cases z),I.ok.frames,I.ok.stk,I.ok.exf,I.ok.bs,I.ok.bsz,I.ok.noex,I.ok.exfs,I.ok.funs,I.ok.frf⟩,I.os,I.bare,I.base,I.loc,I.cell,I.free,I.freeC,fun q hq=>?_,I.hok,I.len⟩;have hq':q∈(p,ob)::(X.pn++pins):=hq;rcases List.mem_cons.mp hq' with rfl | z
  · exact ⟨hp,hn,hl,hf,hc⟩
  · exact I.pin q z
theorem nz (ok:X.Ok) (I:az (Xh X p ob) pins σ H s):az X pins σ H s :=
  ⟨ok,I.os,I.bare,I.base,I.loc,I.cell,I.free,I.freeC,fun q hq=>I.pin q (List.mem_cons_of_mem _ hq),I.hok,I.len⟩
end
structure wB (X:Cx) (nl:Nat) (G:List Str):Prop where
  hu:X.A.units+64 < cLine
  nd:X.N.Nodup
  vis:∀ x∈X.N,vt X.env.scope x/\(x==("__debug__" : Str))=false/\(x==("__classdict__" : Str))=false
  loc:∀ x∈X.N.take nl,ur X.env.scope x/\(X.fn x=true\/X.env.scope.names.lookup x=some .local)
  gl:∀ x∈G,Gl X x/\(x==("__debug__" : Str))=false/\x≠("__name__" : Str)
theorem Tb.h {X:Cx} {nl:Nat} {G:List Str} (T:Tb X nl G) (p:Addr) (ob:Obj):wB (Xh X p ob) nl G:=⟨T.hu,T.nd,T.vis,T.loc,T.gl⟩
section
variable {M:Model} {A:Around} {E:Value->Shared->Prop} {s:Shared} {C C2 p:Addr} {bm bm2:List Value} {ob:Obj} {Q:Bool->Shared->Prop}
theorem oS (hC:kn s.heap C bm) (hC2:kn s.heap C2 bm2) (he:s.heap.get? p=some ob) (hc:ob.cls=.ref C) (h:Q ((Value.ref C::bm).contains (.ref C2)) s):wpAny M A (excMatches (.ref p) (.ref C2)) Q E s:=by
  obtain ⟨N,nm,qn,bs,hdct,sn,sub,ab,col,dd,k0,k1,k2,k3,k5,mN,hC,hN,hni,TL⟩:=hC;obtain ⟨N',nm',qn',bs',hdct',sn',sub',ab',col',dd',k0',k1',k2',k3',k5',mN',hC2,hN',hni',TL'⟩:=hC2;obtain ⟨hp,g,d,tk,os⟩:=s;have hb2:(Value.ref C2::bm2).contains (.type "BaseException")=true:=by rw [List.contains_cons,show bm2.contains (.type "BaseException")=true from TL'.hasType (by decide),Bool.or_true]
  have f:=tc_notTuple;unfold excMatches
  repeat (first | (with_reducible refine wpAny_loadPart_at he ?_;rw [hc]) | with_reducible refine wpAny_loadPart_at hC2 ?_ | (with_reducible refine wpAny_isSubtype_exc hC2 ?_;rw [hb2]) | with_reducible refine wpAny_isSubtype_exc hC ?_ | wp_step)
  cases hb:(Value.ref C::bm).contains (.ref C2) with
  | true=>rw [hb] at h;wp_walk;exact h
  | false=>rw [hb] at h;wp_walk;exact h
end
section
variable {K:PySem.W.Frag} {x t:Value} {Hh:Heap->Prop}
theorem sI {c:Value} (ty:∀ (M:Model) (h:Heap),K.In h->Hh h->PySem.W.Looks M h (typeOf x) t) (e:PySem.W.kitOne K t c=some true):Answers (fun s=>K.In s.heap/\Hh s.heap) x c true:=by
  intro dep tk prog w A R s hs;obtain ⟨h0,g,d,tt,os⟩:=s;obtain ⟨⟨X,p⟩,hq⟩:=hs;have look:=ty (model prog w) h0 X p;unfold PySem.W.kitOne at e;unfold Builtin.«isinstance.nested»;refine wpAny_bind (look.at ?_);by_cases q:(t==c)=true
  · rw [if_pos q];exact wpAny_bind (wpAny_rule (wpAny_pure (hq tt)))
  · rw [if_neg q] at e;rw [if_neg q];obtain ⟨hty,his,hsub⟩:=PySem.W.kit_cls (M:=model prog w) X e;have both:PySem.W.Looks (model prog w) h0 (isInstance x c) true:=look.andThen hsub;refine wpAny_bind (hty.at ?_);rw [if_pos (by decide)]
    k_delta "plainIsInstance"
    refine wpAny_bind (wpAny_bind (his.at ?_));simp only [if_false,Bool.false_eq_true,Bool.not_true];refine wpAny_bind (both.at ?_)
    first | exact wpAny_pure (wpAny_pure (hq tt)) | (simp only [if_true];exact wpAny_pure (wpAny_pure (hq tt))) | (simp only [if_true];exact wpAny_pure (hq tt)) | exact wpAny_bind (wpAny_pure (wpAny_pure (hq tt)))
end
noncomputable def lA (i:Nat) (p:Addr):Fe:=fun ρ=>match ρ[i]? with
  | some (.exc q)=>if q=p then .ok (.bool true) else .no
  | _=>.no
section
variable {X:Cx} {nl:Nat} {G:List Str} {p C C2:Addr} {ob:Obj} {n cx:Str} {pi pe pc pos:Pos}
theorem qb (hp:(p,ob)∈X.pn) (hc:ob.cls=.ref C):c4 X (.builtin "isinstance") (fun xs H Q=>∃ cv,xs=[.ref p,cv]/\(∀ u,bC cv u->PySem.W.kitOne X.K (.ref C) u=some true)/\Q (.bl true) H):=by
  intro pins s σ H xs us Q I r h;obtain ⟨cv,rfl,hk,q⟩:=h;obtain ⟨u,v,rfl,rx,ry⟩:=qM r;cases rx;have pin:=(I.pin (p,ob) (List.mem_append_left _ hp)).1;refine call_isinstance (S:=fun _ R s=>(X.K.In s.heap/\s.heap.get? p=some ob)/\∀ tk,R (.ok (.ret (.bool true))) { s with toks:=tk })
    (fun prog w A R s hs=>isinstance_outer (sI (K:=X.K) (x:=.ref p) (t:=.ref C) (Hh:=fun h=>h.get? p=some ob) (fun M h _ hp=>hc ▸ (PySem.W.Looks.ld hp).andThen .now) (hk _ ry) 0 _ prog w A R s hs) (fun z=>nomatch z)) ⟨⟨I.kIn,pin⟩,fun tk=>⟨.bl true,H,I.tok tk,rfl,q⟩⟩
theorem uu {i:Nat} {σ:St} {H:Hp} {Q:VK} (h:fU X fJ (lA i p) σ H Q):σ[i]?=some (some (.ref p))/\Q (.bl true) H:=by
  obtain ⟨ρ,sl,q⟩:=h;unfold lA at q;split at q
  · rename_i q' e;split at q
    · rename_i e';subst e';obtain ⟨o,h1,h2⟩:=sl.at e;have h2':o=some (.ref q'):=h2;subst h2';exact ⟨h1,q _ H (ar.refl _) dm⟩
    · exact q.elim
  · exact q.elim
theorem qk (T:wB X nl G) (hp:(p,ob)∈X.pn) (hc:ob.cls=.ref C) (i:Nat) (hN:X.N[i]?=some n) (j:Nat) (hG:G[j]?=some ("isinstance" : Str)) (hm:X.mg "isinstance" = none) (j':Nat) (hG':G[j']?=some cx) (hm':X.mg cx=some (.ref C2)) (hk:PySem.W.kitOne X.K (.ref C) (.ref C2)=some true):Z.cw X (.Call (.Name "isinstance" pi) [.Name n pe,.Name cx pc] [] pos) (lA i p):=⟨by
  have g:=T.gl _ (List.mem_of_getElem? hG);have g':=T.gl _ (List.mem_of_getElem? hG');have v:=T.vis n (List.mem_of_getElem? hN);have h1:PE X (.Name n pe) (vw i):=kN hN v.1 v.2.1 v.2.2;have h2:PE X (.Name cx pc) (tC (.ref C2)):=om g'.1 hm' rfl g'.2.1;refine PE.imp (ia (qb hp hc) g.1 hm PyProof.Rows.boot_isinstance (gP h1 (gP h2 nE)) g.2.2 g.2.1) fun σ H Q h=>?_
  obtain ⟨a,b⟩:=uu h;exact ⟨_,a,.ref C2,rfl,fun u r=>by cases r;exact hk,b⟩⟩
end
noncomputable def wZ (X:Cx) (C:Addr) (hs:List ExceptHandler) (F:Addr->aD->R PyData):Prop :=
  ∀ (pins:List (Addr×Obj)) (σ:St) (Hc H:Hp) (sc s:Shared) (p:Addr) (Fm:Hp) (ρ:aD) (D:k7),az X pins σ Hc sc->iL X.prog X.w X.stack Hc sc C H (.ref p) s->fj Fm H σ ρ ->
    (match F p ρ with
      | .ok d=>∀ v H',ar Fm H'->Rp H' d v->D.rt v H'
      | _=>False)->wpAny (model X.prog X.w) X.A (handleBy (.ref p) X.env hs) (SP X pins D) X.xe s
section
variable {X:Cx} {nl:Nat} {G:List Str} {C C2:Addr} {n cx:Str} {np rp hp:Pos} {e:Expr} {cP:List ExceptHandler} {F:Addr->aD->R PyData} {f:Addr->Fe} {name:Option Str} {body:List Stmt}
theorem ut {pins:List (Addr×Obj)} {σ:St} {Hc H:Hp} {sc s:Shared} {p:Addr} {Q:Flow->Shared->Prop} {E:Value->Shared->Prop} (T:Tb X nl G) (j:Nat) (hG:G[j]?=some cx) (hm:X.mg cx=some (.ref C2)) (hq:PySem.W.excIn X.K C pF oX=true) (hq2:PySem.W.excIn X.K C2 pF oX=true)
    (I:az X pins σ Hc sc) (fl:iL X.prog X.w X.stack Hc sc C H (.ref p) s)
    (h:if (Value.ref C::fY X.K C).contains (.ref C2)=true then codeAny (model X.prog X.w) (X.A.mark (some (.ref p))) (.handlers (.ref p) [.ExceptHandler none name body hp] X.env) (fun r s₂=>match r with
          | .ok f=>(match name with
            | none=>Q f s₂
            | some n=>wpAny (model X.prog X.w) X.A (do bindName X.env n .none;unbindBehindTheSuite X.env n hp) (fun _ s₃=>Q f s₃) E s₂)
          | .error x=>cameBackBy (model X.prog X.w) X.A X.env E x s₂) s
      else wpAny (model X.prog X.w) X.A (handleBy (.ref p) X.env cP) Q E s) :
    wpAny (model X.prog X.w) X.A (handleBy (.ref p) X.env (.ExceptHandler (some (.Name cx np)) name body hp::cP)) Q E s:=by
  have I1:=fl.inv I;obtain ⟨ob,vs,ho,hcls,hd,hn,hfr⟩:=fl.obj;have g:=T.gl cx (List.mem_of_getElem? hG);have hl:X.A.frames=some X.stack:=I.ok.frames;refine wpAny_handleBy_cons (codeAny_handlers_test ?_) (by intro z;cases z);refine Calls.Name_function_global I1.ok.kind g.1 (Calls.loadGlobal_global (by rw [I1.ok.glob];exact I1.mod.glob.keeps I1.bk) hm ?_) g.2.1;refine oS ((jr I1.ok.mod.kin hq).keep I1.bk) ((jr I1.ok.mod.kin hq2).keep I1.bk) ho hcls ?_;cases hb:(Value.ref C::fY X.K C).contains (.ref C2) with
  | true=>rw [hb] at h;exact h
  | false=>rw [hb] at h;exact h
end
theorem uO {X:Cx} {pins:List (Addr×Obj)} {σ:St} {H:Hp} {s:Shared} {M:Model} {A:Around} {E:Value->Shared->Prop} {i:Nat} {x:Str} {v:V} {Q:Unit->Shared->Prop} (I:az X pins σ H s) (hN:X.N.Nodup) (hi:X.N[i]?=some x) (hk:X.env.scope.names.lookup x=some .local)
    (hv:σ[i]?=some (some v)) (h:∀ s',az X pins (σ.set i none) H s'->Q () s'):wpAny M A (unbindName X.env x) Q E s:=by
  obtain ⟨m,hn,hl⟩:=id I.loc;obtain ⟨u,ru,lk⟩:=hl i x v hi hv (.inl hk);have hm:m x=some u:=by
    rcases lk with ⟨_,z⟩ | ⟨k,_⟩
    · exact z
    · rcases k with k | k <;> (have k':X.env.scope.names.lookup x=_:=k;rw [hk] at k';cases k')
  have plain:(X.env.scope.kind==.class||(X.env.scope.kind==.module&&X.env.locals != X.env.globals))=false:=by rw [I.ok.kind];rfl
  refine wpAny_unbindName_local hk hn hm plain fun h' w' hn' sb=>h _ ?_
  obtain ⟨oL,_,_,hoL,_⟩:=id hn;have young:∀ b o,X.s₀.heap.get? b=some o->b≠X.env.locals:=fun b o q=>Nat.ne_of_lt (Nat.lt_of_lt_of_le (Heap.lt_size q) I.ok.above)
  refine ⟨I.ok,I.os,I.bare,⟨fun b o q n hb hx=>(sb.2 b (young b o q)).trans (I.base.keep b o q n hb hx),fun b o q n hb hx=>?_,I.base.free,fun b o q hx=>?_,I.base.tups,I.base.frzs,I.base.tbls⟩,⟨_,hn',fun j y v' q1 q2 q3=>?_⟩,fun y c q=>?_,I.free,I.freeC,fun p hp=>?_,fun b ob q=>?_,by simpa using I.len⟩
  · obtain ⟨sl,q1⟩:=I.base.slot b o q n hb hx;exact ⟨sl,(sb.2 b (young b o q)).trans q1⟩
  · obtain ⟨o',q1⟩:=I.base.there b o q hx;exact ⟨o',(sb.2 b (young b o q)).trans q1⟩
  · by_cases hj:i=j
    · subst hj;rw [List.getElem?_set,if_pos rfl] at q2;split at q2 <;> cases q2
    · rw [List.getElem?_set,if_neg hj] at q2;obtain ⟨u',r',z⟩:=hl j y v' q1 q2 q3;refine ⟨u',r',?_⟩;rcases z with ⟨k,z⟩ | ⟨k,c,z1,z2⟩
      · refine .inl ⟨k,?_⟩;have ne:y≠x:=fun t=>hj (jb hN hi (t ▸ q1))
        simp [ne,z]
      · exact .inr ⟨k,c,z1,z2.sameBut sb (I.cne y c z1)⟩
  · obtain ⟨w2,z⟩:=I.cell y c q;exact ⟨w2,z.sameBut sb (I.cne y c q)⟩
  · obtain ⟨q,n,ne,nf,d⟩:=I.pin p hp;exact ⟨(sb.2 p.1 ne).trans q,n,ne,nf,d⟩
  · refine (I.hok b ob q).stay (fun c w2 hc z=>(sb.2 c ?_).trans z) (fun _ z=>z) fun _ _ z=>z
    rintro rfl;rcases hc with rfl | hc
    · rw [I.free] at q;cases q
    · rw [I.free] at hc;cases hc
section
variable {X:Cx} {nl:Nat} {G:List Str} {C C2:Addr} {n cx:Str} {np rp hp:Pos} {e:Expr} {cP:List ExceptHandler} {f:Addr->Fe}
theorem oU {pins:List (Addr×Obj)} {σ:St} {Hc H:Hp} {sc s:Shared} {p:Addr} (I:az X pins σ Hc sc) (fl:iL X.prog X.w X.stack Hc sc C H (.ref p) s):∃ ob,s.heap.get? p=some ob/\ob.cls=.ref C/\az (Xh X p ob) pins σ H s:=by
  have I1:=fl.inv I;obtain ⟨ob,vs,ho,hcls,hd,hn,hfr⟩:=fl.obj;refine ⟨ob,ho,hcls,qC I1 ho hn (fun z=>?_) (fun z=>?_) (fun v z=>by rw [hd] at z;cases z)⟩
  · obtain ⟨m,⟨o,es,ep,q1,q2,_⟩,_⟩:=I1.loc;rw [<- z,ho] at q1;cases q1;rw [hd] at q2;cases q2
  · apply hfr;rcases I.ok.stk with e | ⟨e,_⟩
    · rw [e];exact z
    · rw [e];obtain ⟨env,he,hf⟩:=List.mem_filterMap.mp (show p∈X.outer.filterMap (·.frame) from z);exact List.mem_filterMap.mpr ⟨env,List.mem_cons_of_mem _ he,hf⟩
theorem pR (T:Tb X nl G) (j:Nat) (hG:G[j]?=some cx) (hm:X.mg cx=some (.ref C2)) (hq:PySem.W.excIn X.K C pF oX=true) (hq2:PySem.W.excIn X.K C2 pF oX=true) (hb:(Value.ref C::fY X.K C).contains (.ref C2)=true)
    (i:Nat) (hN:(X.N.take nl)[i]?=some n) (hk:X.env.scope.names.lookup n=some .local)
    (he:∀ p ob,ob.cls=.ref C->wB (Xh X p ob) nl G->cw (Xh X p ob) e (f p)):wZ X C (.ExceptHandler (some (.Name cx np)) (some n) [.Return (some e) rp] hp::cP) (fun p ρ=>f p (ρ.set i (.exc p))):=fun pins σ Hc H sc s p Fm ρ D I fl sl q=>by
  obtain ⟨hi,hl,hf⟩:=T.nm hN;refine ut T j hG hm hq hq2 I fl ?_;rw [hb];refine codeAny_handlers_suite_as (fl.land fun h' fl'=>?_);obtain ⟨ob,ho,hcls,Ih⟩:=oU I fl';refine gW (X:=Xh X p ob) (v:=.ref p) Ih T.nd hi hl rfl (fun s2 I2=>?_) hf;dsimp only at q;have hi':i < σ.length:=by rw [I.len];exact (List.getElem?_eq_some_iff.mp hi).1
  cases ef:f p (ρ.set i (.exc p)) with
  | ex c=>rw [ef] at q;exact q.elim
  | no=>rw [ef] at q;exact q.elim
  | ok d =>
    rw [ef] at q;have sl2:Sl H (σ.set i (some (.ref p))) (ρ.set i (.exc p)):=Sl.set (c:=.exc p) (o:=some (.ref p)) sl.sl i rfl;have hw:=he p ob hcls (T.h p ob) pins _ (σ.set i (some (.ref p))) H (fun v H'=>ar H H'/\Rp H' d v) I2 ⟨_,sl2,by rw [ef];exact fun v H' s' r=>⟨s',r⟩⟩;refine wpAny_execs_cons (wpAny_Return_some (wpAny_mono hw (fun u s3 ⟨v,H3,I3,r3,s13,rp⟩=>?_) fun _ _ z=>False.elim z));have I4:=nz I.ok I3;show wpAny _ X.A (do bindName X.env n .none;unbindBehindTheSuite X.env n hp) _ _ s3;refine wpAny_bind (wpAny_bindName (gW (v:=.non) I4 T.nd hi hl rfl (fun s5 I5=>?_) hf));unfold unbindBehindTheSuite;refine wpAny_onRaise (uO (v:=.non) I5 T.nd hi hk (by rw [List.getElem?_set,if_pos rfl,if_pos (by simpa using hi')]) fun s6 I6=>?_);exact ⟨v,_,H3,I6,r3,q v H3 (sl.fm.trans s13) rp⟩
end
open Classical in
noncomputable def o4 (F:Addr->R PyData):R PyData:=if h:∃ r,∀ p,F p=r then h.choose else .no
theorem nk (r:R PyData):o4 (fun _=>r)=r:=by
  have h:∃ r',∀ p:Addr,(fun _=>r) p=r':=⟨r,fun _=>rfl⟩
  unfold o4;rw [dif_pos h];exact (h.choose_spec 0).symm
theorem sK {F:Addr->R PyData} {d:PyData} (h:o4 F=.ok d) (p:Addr):F p=.ok d:=by
  unfold o4 at h;split at h
  · rename_i q;rw [q.choose_spec p];exact h
  · cases h
noncomputable abbrev Hs:=List (Str×(Addr->aD->R PyData))
noncomputable def rk (hs:Hs) (ρ:aD) (k:PyData->nC):R PyData->R nC
  | .ok d=>.ok (k d)
  | .no=>.no
  | .ex c=>match hs.lookup c with
    | some h=>mw (o4 (fun p=>h p ρ))>>=fun d=>.ok (.rt d)
    | none=>.no
inductive jQ (X:Cx) (src:List ExceptHandler):Hs->Prop
  | nil:jQ X src []
  | cons {c:Str} {C:Addr} {h:Addr->aD->R PyData} {hs:Hs} (hm:X.mg c=some (.ref C)) (he:wZ X C src h) (r:jQ X src hs):jQ X src ((c,h)::hs)
theorem jQ.at {X:Cx} {src:List ExceptHandler} {c:Str} {h:Addr->aD->R PyData}:∀ {hs:Hs},jQ X src hs->hs.lookup c=some h->∃ C,X.mg c=some (.ref C)/\wZ X C src h
  | _,.nil,e=>by cases e
  | _,.cons (c:=c') hm he r,e=>by
    rw [List.lookup_cons] at e;split at e
    · rename_i q;have:c=c':=by simpa using q
      subst this;cases e;exact ⟨_,hm,he⟩
    · exact jQ.at r e
section
variable {X:Cx} {k n:Nat} {f:Addr} {fd:FuncData} {ps:List Str} {F:List PyData->R PyData} {x:Str} {p pos sp tp:Pos} {e:Expr} {es:List Expr} {fs:aD->R (List PyData)} {nl:Nat} {G:List Str}
theorem qR {pins:List (Addr×Obj)} {σ:St} {H:Hp} {s:Shared} {ρ:aD} {ds:List PyData} {Qv:Value->Shared->Prop} {Ev:Value->Shared->Prop}
    (C:aU X.prog X.w X.K X.mg X.base (cM X.prog X.w X.mg) k f fd ps (da F n)) (hr:dB k X.A) (T:Tb X nl G) (j:Nat) (hG:G[j]?=some x) (hm:X.mg x=some (.ref f)) (hk:PySem.W.keepIn X.K (.ref f)=true) (hb:bH X.K fd ps []) (ha:mJ X.nox (e::es) fs)
    (hfs:∀ ρ ds,fs ρ=.ok ds->ds.length=n) (he:(e::es).all aN=true) (I:az X pins σ H s) (sl:Sl H σ ρ) (efs:fs ρ=.ok ds) (hno:F ds≠.no)
    (hok:∀ d,F ds=.ok d->∀ v u H' s',az X pins σ H' s'->ar H H'->Rp H' d v->bC v u->Qv u s')
    (hex:∀ c,F ds=.ex c->∀ C Hc sc H1 e s',X.mg c=some (.ref C)->az X pins σ Hc sc->ar H Hc->iL X.prog X.w X.stack Hc sc C H1 e s'->Ev e s') :
    wpAny (model X.prog X.w) X.A (eval (.Call (.Name x p) (e::es) [] pos) X.env) Qv Ev s:=by
  rw [List.all_cons,Bool.and_eq_true] at he;have g:=T.gl x (List.mem_of_getElem? hG);refine wpAny_Call_Name_kw (i8 I g.1 hm ?_ g.2.1);have hw:=ha pos pins s σ H (fun vs H'=>ar H H'/\RA Rp H' ds vs) (I.wish _) ⟨ρ,sl,by rw [efs];exact fun vs H' s' r=>⟨s',r⟩⟩;refine PySem.W.callWith_K (h₀:=X.base) I.ok.mod.kin hk (wpAny_mono hw (fun us s1 ⟨vs,H1,I1,r,s1',ra⟩=>⟨I1.unwish.kIn,?_⟩) fun _ _ z=>False.elim z) (bz he.1) (jH he.2);have I1:=I1.unwish;have ra':=jh.mp ra;have hsp:da F n vs H1 (fun v H'=>ar H1 H'/\∃ d,F ds=.ok d/\Rp H' d v) (fun v _ H'=>∃ c,F ds=.ex c/\v=.str c 0):=by
    refine ⟨ds,ra',hfs ρ ds efs,?_⟩;cases ef:F ds with
    | ok d=>exact fun v H' s' r=>⟨s',d,rfl,r⟩
    | ex c=>exact fun H' s'=>⟨c,rfl,rfl⟩
    | no=>exact absurd ef hno
  have hl:(us++[]).length=ps.length:=by rw [List.append_nil,<- r.length];exact C.len _ _ _ _ hsp
  refine wpAny_call (codeAny_mono (C.run X.A X.stack s1 H1 ⟨us,[]⟩ (us++[]) vs _ _ hr I1.env0 (hb s1 us I1.kIn hl) (by rw [List.append_nil];exact r) hsp) fun r' s' hq=>?_);cases r' with
  | error e' =>
    obtain ⟨c',C',H',hm',fl,c,ef,ev⟩:=hq;have:c'=c:=by injection ev
    subst this;exact hex c' ef C' H1 s1 H' e' s' hm' I1 s1' fl
  | ok fl =>
    cases fl with
    | ret u =>
      obtain ⟨v,H',I',rv,s2,d,ef,rp⟩:=I1.after hq;exact hok d ef v u H' s' I' (s1'.trans s2) rp rv
    | next=>exact False.elim hq
    | brk=>exact False.elim hq
    | cont=>exact False.elim hq
theorem mU {pins:List (Addr×Obj)} {σ:St} {H Fm:Hp} {ρ:aD} {D:k7} {h0:ExceptHandler} {src:List ExceptHandler} {hs:Hs} {kk:PyData->nC} {c:Str} {r:R PyData} (hstk:X.stack=X.env::X.outer/\X.env.frame=some X.env.locals) (hH:jQ X (h0::src) hs) (ec:r=.ex c) (sl:fj Fm H σ ρ) (q:uF X Fm (rk hs ρ kk r) D)
    {C:Addr} {Hc H1:Hp} {sc s':Shared} {ev:Value} (hm:X.mg c=some (.ref C)) (I:az X pins σ Hc sc) (sH:ar H Hc) (fl:iL X.prog X.w X.stack Hc sc C H1 ev s') :
    wpAny (model X.prog X.w) X.A (noteFrame ev X.env) (fun _ s₂=>wpAny (model X.prog X.w) X.A (setFlight ev none) (fun _ s₃=>wpAny (model X.prog X.w) X.A (handleBy ev X.env (h0::src)) (SP X pins D) X.xe s₃) X.xe s₂) X.xe s':=by
  subst ec;simp only [rk] at q;cases el:hs.lookup c with
  | none=>rw [el] at q;exact q.elim
  | some h =>
    rw [el] at q;dsimp only at q;obtain ⟨C',hm',hE⟩:=hH.at el;rw [hm] at hm';cases hm';have fl':=fl;rw [hstk.1] at fl';refine fl'.look (by rw [I.ok.frames,hstk.1]) hstk.2 fun p h' ep fl2=>?_
    subst ep;rw [<- hstk.1] at fl2;have sl1:fj Fm H1 σ ρ:=sl.mono (sH.trans fl.same);refine hE pins σ Hc H1 sc _ p Fm ρ D I fl2 sl1 ?_;cases ep:o4 (fun p=>h p ρ) with
    | ex c=>rw [ep] at q;exact q.elim
    | no=>rw [ep] at q;exact q.elim
    | ok d =>
      rw [ep] at q;rw [sK ep p];exact q
noncomputable def nL (F:List PyData->R PyData) (fs:aD->R (List PyData)) (hs:Hs):Fs:=fun ρ=>mw (fs ρ)>>=fun ds=>rk hs ρ (fun _=>.nx ρ) (F ds)
variable {h0:ExceptHandler} {src:List ExceptHandler} {hs:Hs}
theorem oH (C:aU X.prog X.w X.K X.mg X.base (cM X.prog X.w X.mg) k f fd ps (da F n)) (hr:dB k X.A) (T:Tb X nl G) (hstk:X.stack=X.env::X.outer/\X.env.frame=some X.env.locals) (j:Nat) (hG:G[j]?=some x) (hm:X.mg x=some (.ref f)) (hk:PySem.W.keepIn X.K (.ref f)=true) (hb:bH X.K fd ps []) (ha:Z.mJ X.nox (e::es) fs) (hfs:∀ ρ ds,fs ρ=.ok ds->ds.length=n) (hH:jQ X (h0::src) hs) (he:(e::es).all aN=true:=by rfl) (hsw:swapsWith (.Call (.Name x p) (e::es) [] pos) none sp.line X.env=pure false:=by rfl):Z.jg X (.Try [.Expr (.Call (.Name x p) (e::es) [] pos) sp] (h0::src) [] [] tp) (nL F fs hs):=⟨have ha:=ha.un;fun Fm=>by
  intro pins s σ H D I ⟨ρ,sl,q⟩;unfold nL at q;cases efs:fs ρ with
  | ex c=>rw [efs] at q;exact q.elim
  | no=>rw [efs] at q;exact q.elim
  | ok ds =>
    rw [efs] at q;simp only [mw,R.ok_bind] at q;refine wpAny_Try_except (wpAny_execs_cons (wpAny_Expr_any (qR C hr T j hG hm hk hb ha hfs he I sl.sl efs (fun z=>by rw [z] at q;exact q) (fun d ed v u H' s' I' sH rp rv=>?_) fun c ec C' Hc sc H1 ev s' hm' I' sH fl=>mU hstk hH ec sl q hm' I' sH fl) I.quiet hsw));rw [ed] at q;exact wpAny_execs_nil (wpAny_execs_nil ⟨σ,H',I',q σ H' (sl.mono sH)⟩)⟩
end
section
variable {X:Cx} {a b:Expr} {fa fb:Fe} {pos p2:Pos}
noncomputable def ju:PyData->PyData->R PyData
  | .list xs,.int k=>if -(2 ^ 63)<=k/\k < 2 ^ 63/\xs.length*k.toNat<=sizeLine then .ok (.list (List.replicate k.toNat xs).flatten) else .no
  | _,_=>.no
theorem nH (ha:Z.jO X a fa) (hb:Z.cw X b fb):Z.jO X (.BinOp a .Mult b pos) (e2 ju fa fb):=⟨have ha:=ha.un;have hb:=hb.un;by
  refine PE.imp (sZ uo ha hb) fun σ H Q h=>?_
  refine (cL (P:=uY) (f:=fa) (k:=fun ρ x=>fb ρ>>=fun y=>ju x y) (c9 (X:=X) pN Q) h).post fun v H1 ⟨ρ1,d1,sl1,_,p1,q1⟩=>?_
  refine (cL (P:=fJ) (f:=fb) (k:=fun _ y=>ju d1 y) (c9 (X:=X) pN Q) ⟨ρ1,sl1,q1⟩).post fun u H2 ⟨_,d2,_,s2,p2,q2⟩=>?_
  cases d1 with
  | list xs =>
    cases d2 with
    | int k =>
      simp only [ju] at q2;split at q2
      · rename_i hz;have p1':=p1.1;simp only [gC] at p1';obtain ⟨a',vs,rfl,ha',r⟩:=p1';have ev:u=.int k:=by simpa only [Rp] using p2
        have r2:=r.mono s2;exact ⟨a',k,vs,rfl,ev,s2 _ _ ha',hz.1,hz.2.1,by rw [r.length];exact hz.2.2,fun p hp=>q2 _ _ (bT hp _) (cW hp (r2.rep _))⟩
      · exact q2.elim
    | _=>exact q2.elim
  | _=>exact q2.elim⟩
end
noncomputable abbrev gD:=List PyData->R PyData
structure gN (P:Program) (w:World) (K:PySem.W.Frag) (mg:Str->Option Value) (base:Heap) (k:Nat) (x:Str) (ps:List Str) (F:gD) (f:Addr) (fd:FuncData):Prop where
  ok:aU P w K mg base (cM P w mg) k f fd ps (da F ps.length)
  m:mg x=some (.ref f)
  kp:PySem.W.keepIn K (.ref f)=true
  b:bH K fd ps []
theorem aw {X:Cx} {k:Nat} {f:Addr} {fd:FuncData} {ps:List Str} {F:gD} {x:Str} {p pos:Pos} {e:Expr} {es:List Expr} {fs:aD->R (List PyData)} {nl:Nat} {G:List Str} (C:gN X.prog X.w X.K X.mg X.base k x ps F f fd) (hr:dB k X.A) (T:Tb X nl G) (j:Nat) (hG:G[j]?=some x) (ha:Z.mJ X (e::es) fs) (hlen:(e::es).length=ps.length) (hfs:∀ ρ ds,fs ρ=.ok ds->ds.length=ps.length) (he:(e::es).all aN=true:=by rfl):Z.cw X (.Call (.Name x p) (e::es) [] pos) (aA F fs):=⟨have ha:=ha.un;sE C.ok hr T j hG C.m C.kp C.b ha hlen hfs he⟩
structure cK (K:PySem.W.Frag) (x:Str) (st:Stmt) (f:Addr) (fd:FuncData):Prop where
  ns:PySem.W.nsIn K mainGlobals x=some (some (.ref f))
  fn:gf K x x st f fd
theorem aT {K:PySem.W.Frag} {x:Str} {st:Stmt} {f:Addr} {oc:Value} {od an:Option Addr} {osl:Array (Option Value)} {kV doc pm cdv ct:Value} (a:PySem.W.nsIn K mainGlobals x=some (some (.ref f))) (l:K.lookup f=some ⟨oc,od,.func (PySem.W.fnOf x x (c0 st) (cg st) (al st) .none kV doc pm an cdv ct),osl⟩) (c:PySem.W.codeIn K cdv x=true) (k:PySem.W.keepIn K (.ref f)=true) :
    cK K x st f (PySem.W.fnOf x x (c0 st) (cg st) (al st) .none kV doc pm an cdv ct):=⟨a,qN l c k⟩
end D2
namespace D2
open PySem PySem.Spec PySem.Calls PySem.W PyProof.Rows L2 Builtin Builtin.ObjectAttr Builtin.Getset_descriptor
end D2
namespace D2
open PySem PySem.Spec PyProof.Rows L2 PySem.Builtin PySem.Builtin.Str
end D2
set_option maxHeartbeats 400000
namespace D2
open PySem PySem.Spec PyProof.Rows L2 PySem.Builtin
end D2
namespace D2
open PySem PySem.Spec PyProof.Rows L2
end D2
namespace HT
open PySem PySem.Spec PyProof.Rows L2
section
open PySem.SeqAt
open PySem.AutoSeq1 (wpAny_loadPart')
open PySem.MeetsSeq PySem.MeetsSeq2 PySem.MeetsSeq3
end
end HT
namespace D2
open PySem PySem.Spec PyProof.Rows L2
noncomputable def jD (H:Hp):List V->List (List Int)->Prop
  | [],rs=>rs=[]
  | v::vs,rs=>∃ a r rs',v=.ref a/\rs=r::rs'/\H a=some (.tup (r.map V.int))/\jD H vs rs'
theorem jD.len {H:Hp}:∀ {vs:List V} {rs:List (List Int)},jD H vs rs->vs.length=rs.length
  | [],rs,h=>by simp only [jD] at h;rw [h];rfl
  | v::vs,rs,h=>by
    simp only [jD] at h;obtain ⟨a,r,rs',_,rfl,_,t⟩:=h;rw [List.length_cons,List.length_cons,t.len]
theorem pr {P:Program} {w:World} {K:PySem.W.Frag} {mg:Str->Option Value} {base:Heap} {x qual:Str} {st:Stmt} {f:Addr} {fd:FuncData} {N ps:List Str} {k:Nat} {g:Fs} (F:gf K x qual st f fd) (S:aO N ps (al st))
    (body:∀ (cdv:Value) (A:Around) (outer:List Env) (s:Shared) (H:Hp) (E:XK),dB k (A.deeper (envOfC qual (al st) s.heap.objs.size f cdv)) ->
      Z.iW (dv (cM P w mg) P w K mg base N qual (al st) f cdv A outer s H E) (cg st) g):aU P w K mg base (cM P w mg) (k+1) f fd ps (da (df N.length g) ps.length) :=
  D2.sN F S fun cdv A outer s H E hr=>(body cdv A outer s H E hr).un
theorem aC {P:Program} {w:World} {K:PySem.W.Frag} {mg:Str->Option Value} {base:Heap} {x qual:Str} {st:Stmt} {f:Addr} {fd:FuncData} {N ps:List Str} {k:Nat} {g:Fs} {G:List Str} (F:gf K x qual st f fd) (S:aO N ps (al st)) (ck:nX (al st) N G)
    (body:∀ (cdv:Value) (A:Around) (outer:List Env) (s:Shared) (H:Hp) (E:XK),dB k (A.deeper (envOfC qual (al st) s.heap.objs.size f cdv))->Tb (dv (cM P w mg) P w K mg base N qual (al st) f cdv A outer s H E) N.length G ->
      Z.iW (dv (cM P w mg) P w K mg base N qual (al st) f cdv A outer s H E) (cg st) g):aU P w K mg base (cM P w mg) (k+1) f fd ps (da (df N.length g) ps.length) :=
  pr F S fun cdv A outer s H E hr=>body cdv A outer s H E hr (ua hr ck)
noncomputable def pv {P:Program} {w:World} {K:PySem.W.Frag} {mg:Str->Option Value} {base:Heap} {f:Addr} {fd:FuncData} {ps:List Str} {n k:Nat}:aU P w K mg base (cM P w mg) k f fd ps (da (fun _=>.no) n) :=
  have no:∀ vs H Q E,¬ da (fun _=>.no) n vs H Q E:=fun vs H Q E ⟨ds,_,_,z⟩=>z
  ⟨fun vs H Q E h=>absurd h (no vs H Q E),fun A outer s H args us vs Q E _ _ _ _ h=>absurd h (no vs H Q E)⟩
noncomputable def i5 (K:PySem.W.Frag):Bool:=K.all fun p=>match p.2.cls with
  | .type n=>!(n == "list")
  | _=>true
theorem jt {α β:Type} [BEq α] {a:α} {o:β}:∀ {K:List (α×β)},K.lookup a=some o->∃ p∈K,p.2=o
  | [],e=>by cases e
  | (b,x)::r,e=>by
    rw [List.lookup_cons] at e;split at e
    · cases e;exact ⟨_,List.mem_cons_self,rfl⟩
    · obtain ⟨p,h1,h2⟩:=jt e;exact ⟨p,List.mem_cons_of_mem _ h1,h2⟩
theorem nJ {K:PySem.W.Frag} (h:i5 K=true) {a:Addr} {o:Obj} (e:K.lookup a=some o) (c:o.cls=.type "list"):False:=by
  obtain ⟨p,m,rfl⟩:=jt e;have q:=List.all_eq_true.mp h _ m;simp only [c] at q;simp at q
noncomputable def ti (F:List PyData->R PyData):Prop:=∀ ns:List Int,ns.length<=63->F [.list (ns.map .int)]=.ok (.bool true)
theorem w5 {l:PySem.W.OpenLaw} {q:Program} {loose:List Str} {XP:(Str->Option Value)->Heap->Prop} {YP:World->Heap->Prop} {d:DefRec} {K:Params->PySem.W.Frag} {k:Nat} {x:Str} {F:List PyData->R PyData} (hn:l.most=some 63) (hdf:d.params.defaults=[])
    (hr:dB k callerA) (hY:∀ (w:World) (h:Heap),YP w h->(K w.params).In h) (hF:ti F)
    (G:∀ (w:World) (mg:Str->Option Value) (fa:Addr) (h:Heap),(K w.params).In h->h.Ns mainGlobals mg->mg d.name=some (.ref fa) ->
      i5 (K w.params)=true/\∃ fd:FuncData,(∀ (s:Shared) (u:Value),BindsTo s fd ⟨[u],[]⟩ [(x,u)])/\∀ base:Heap,(K w.params).In base->base.Ns mainGlobals mg->aU l.prog w (K w.params) mg base (cM l.prog w mg) k fa fd [x] (da F 1)) :
    PySem.W.WalkO q loose XP YP l.row.toRowW d [] (fun f vs=>PySem.call f vs):=by
  refine Att.attach_call hn hdf fun w s₀ s₁ mg mb fa o pm cd doc a vs ns G0 Y ho hd hcd hmg hobj hints hlen hg=>?_
  have KX:=hY w _ Y;obtain ⟨nl,fd,hb,hG⟩:=G w mg fa _ KX G0.T.g hmg;refine L2.qO (sp:=da F 1) KX G0.T.g G0.T.b G0.T.builtins G0.T.nolimit hg hobj hints (Nat.le_trans hlen (by decide)) hr hG hb (fun H hO hS=>?_) fun H e s' ⟨_,_,_,_,_,z⟩=>z
  refine ⟨[.list (ns.map .int)],aY.cons ?_ aY.nil,rfl,?_⟩
  · rcases hS with (h | ⟨o,h⟩) | ⟨o,its,n,h,c,_⟩
    · rcases hO a with z | ⟨o,xs,z⟩
      · rw [z] at h;cases h
      · rw [z] at h;cases h
    · simp only [Rp];exact ⟨a,o,_,rfl,h,aY.ints ns⟩
    · exact (nJ nl h c).elim
  · rw [hF ns hlen];intro v H' _ r;simpa only [Rp] using r
section
variable {K:PySem.W.Frag} {x qual:Str} {st:Stmt} {f:Addr} {fd:FuncData} {p1 p2 p3 p4 p5 p6 p7:Str}
theorem s9 (F:gf K x qual st f fd) (h:∀ (kV doc pm:Value) (an:Option Addr) (cdv ct:Value) (a1:Value),bindArgs (PySem.W.fnOf x qual (c0 st) (cg st) (al st) .none kV doc pm an cdv ct) ⟨[a1],[]⟩=pure [(p1,a1)]):bH K fd [p1] []:=F.binds fun kV doc pm an cdv ct us hl=>match us,hl with | [a1],_=>h kV doc pm an cdv ct a1
theorem rd (F:gf K x qual st f fd) (h:∀ (kV doc pm:Value) (an:Option Addr) (cdv ct:Value) (a1 a2:Value),bindArgs (PySem.W.fnOf x qual (c0 st) (cg st) (al st) .none kV doc pm an cdv ct) ⟨[a1,a2],[]⟩=pure [(p1,a1),(p2,a2)]):bH K fd [p1,p2] []:=F.binds fun kV doc pm an cdv ct us hl=>match us,hl with | [a1,a2],_=>h kV doc pm an cdv ct a1 a2
theorem wv (F:gf K x qual st f fd) (h:∀ (kV doc pm:Value) (an:Option Addr) (cdv ct:Value) (a1 a2 a3:Value),bindArgs (PySem.W.fnOf x qual (c0 st) (cg st) (al st) .none kV doc pm an cdv ct) ⟨[a1,a2,a3],[]⟩=pure [(p1,a1),(p2,a2),(p3,a3)]):bH K fd [p1,p2,p3] []:=F.binds fun kV doc pm an cdv ct us hl=>match us,hl with | [a1,a2,a3],_=>h kV doc pm an cdv ct a1 a2 a3
end
@[simp] theorem R.ite_bind {α β:Type} {c:Prop} [Decidable c] (x y:R α) (k:α->R β):((if c then x else y)>>=k)=if c then x>>=k else y>>=k:=by
  by_cases h:c
  · rw [if_pos h,if_pos h]
  · rw [if_neg h,if_neg h]
@[simp] theorem dR {α:Type} (a:α):mw (R.ok a)=.ok a:=(rfl)
noncomputable def vQ:nC->R PyData
  | .rt d=>.ok d
  | .nx _=>.ok .none
  | _=>.no
theorem bQ (n:Nat) (g:Fs) (ds:List PyData):df n g ds=(g (ds.map bX.val++List.replicate (n-ds.length) .non)>>=vQ):=by
  unfold df;congr 1
@[simp] theorem wn (d:PyData):vQ (.rt d)=.ok d:=(rfl)
section
variable (f g h:Fe) (ρ:aD) (i j:Nat) (t u:aD->R Bool) (a b:Fs) (fs:aD->R (List PyData)) (F:List PyData->R PyData) (d e:PyData)
@[simp] theorem dC:eC d ρ=.ok d:=(rfl)
@[simp] theorem bo:ai 0 (.val d::ρ)=.ok d:=(rfl)
@[simp] theorem cc (c:bX):ai (i+1) (c::ρ)=ai i ρ:=(rfl)
@[simp] theorem rJ:gm 0 (.own d::ρ)=.ok d:=(rfl)
@[simp] theorem sw (c:bX):gm (i+1) (c::ρ)=gm i ρ:=(rfl)
@[simp] theorem fT (k:PyData->R PyData):e1 k f ρ=(f ρ>>=fun x=>k x):=(rfl)
@[simp] theorem dD (k:PyData->PyData->R PyData):e2 k f g ρ=(f ρ>>=fun x=>g ρ>>=fun y=>k x y):=(rfl)
@[simp] theorem h9:tE f ρ=(f ρ>>=ni):=(rfl)
@[simp] theorem gn (k:Bool):ni (.bool k)=.ok k:=(rfl)
@[simp] theorem ve:iC t u ρ=(t ρ>>=fun k=>if k=true then u ρ else .ok false):=(rfl)
@[simp] theorem gh:hJ t u ρ=(t ρ>>=fun k=>if k=true then .ok true else u ρ):=(rfl)
@[simp] theorem eO:cn t ρ=(t ρ>>=fun k=>.ok (!k)):=(rfl)
@[simp] theorem ro:jP f g ρ=(f ρ>>=fun d=>ni d>>=fun k=>if k=true then g ρ else .ok (.bool false)):=(rfl)
@[simp] theorem wk:sR f ρ=(f ρ>>=fun d=>ni d>>=fun k=>.ok (.bool (!k))):=(rfl)
@[simp] theorem xf:wq t f g ρ=(t ρ>>=fun k=>if k=true then f ρ else g ρ):=(rfl)
@[simp] theorem bJ:aq ρ=.ok []:=(rfl)
@[simp] theorem bn:ag f fs ρ=(f ρ>>=fun d=>fs ρ>>=fun ds=>.ok (d::ds)):=(rfl)
@[simp] theorem cA:aA F fs ρ=(fs ρ>>=F):=(rfl)
@[simp] theorem u5 (p q:PyData->PyData->R PyData):ge p q f g h ρ=(f ρ>>=fun x=>g ρ>>=fun y=>p x y>>=fun d=>ni d>>=fun k=>if k=true then h ρ>>=fun z=>q y z else .ok (.bool false)):=(rfl)
@[simp] theorem si:cN fs ρ=(fs ρ>>=fun ds=>if ds.length<=sizeLine then .ok (.tuple ds) else .no):=(rfl)
@[simp] theorem nY:fE fs ρ=(fs ρ>>=fun ds=>if ds.length<=sizeLine then .ok (.list ds) else .no):=(rfl)
@[simp] theorem vk:jn ρ=.ok none:=(rfl)
@[simp] theorem vh:jv f ρ=(f ρ>>=fun d=>wj d>>=fun i=>.ok (some i)):=(rfl)
@[simp] theorem xm (k:Int):wj (.int k)=.ok k:=(rfl)
@[simp] theorem wK (lo hi:Fo):uQ f lo hi ρ=(f ρ>>=fun d=>lo ρ>>=fun l=>hi ρ>>=fun u=>tW d l u):=(rfl)
@[simp] theorem vj:cq ρ=.ok (.nx ρ):=(rfl)
@[simp] theorem i4:aS a b ρ=(a ρ>>=n9 b):=(rfl)
@[simp] theorem vC:n9 b (.nx ρ)=b ρ:=(rfl)
@[simp] theorem vE:n9 b (.rt d)=.ok (.rt d):=(rfl)
@[simp] theorem gv:iV t a b ρ=(t ρ>>=fun k=>if k=true then a ρ else b ρ):=(rfl)
@[simp] theorem nM:bW f ρ=(f ρ>>=fun d=>.ok (.rt d)):=(rfl)
@[simp] theorem cR:cf i f ρ=(f ρ>>=fun d=>.ok (.nx (ρ.set i (.val d)))):=(rfl)
@[simp] theorem dY:gO f ρ=(f ρ>>=le):=(rfl)
@[simp] theorem eL:dc fs ρ=(fs ρ>>=kf):=(rfl)
@[simp] theorem eY (ds:List PyData):le (.tuple ds)=.ok ds:=(rfl)
@[simp] theorem gg:jT a ρ=mw (a ρ):=(rfl)
theorem eX (it:aD->R (List PyData)) (bb:PyData->aD->Option aD):jV it bb a ρ=(it ρ>>=fun ds=>eF bb a ds ρ):=rfl
@[simp] theorem qF (bb:PyData->aD->Option aD):eF bb a [] ρ=.ok (.nx ρ):=by unfold eF;rfl
noncomputable def p8 (k:aD->R nC):nC->R nC
  | .nx ρ=>k ρ
  | .ct ρ=>k ρ
  | .bk ρ=>.ok (.nx ρ)
  | .rt r=>.ok (.rt r)
@[simp] theorem qq (k:aD->R nC):p8 k (.nx ρ)=k ρ:=(rfl)
@[simp] theorem qz (k:aD->R nC):p8 k (.rt d)=.ok (.rt d):=(rfl)
theorem cV (i:Nat) (ds:List PyData):eF (aM i) a (d::ds) ρ=(a (ρ.set i (.val d))>>=p8 (eF (aM i) a ds)):=by
  rw [eF];show (a (ρ.set i (.val d))>>=_)=_;congr 1
theorem aL {a b:Fs} {ρ ρ':aD} (h:a ρ=.ok (.nx ρ')):aS a b ρ=b ρ':=by rw [i4,h];rfl
theorem eE {a b:Fs} {ρ:aD} {d:PyData} (h:a ρ=.ok (.rt d)):aS a b ρ=.ok (.rt d):=by rw [i4,h];rfl
theorem iM {n:Nat} {g:Fs} {ds:List PyData} {d:PyData} (h:g (ds.map bX.val++List.replicate (n-ds.length) .non)=.ok (.rt d)):df n g ds=.ok d:=by rw [bQ,h];rfl
theorem dM (bb:PyData->aD->Option aD):bf bb t f ρ []=.ok []:=by unfold bf;rfl
theorem dN (i:Nat) (ds:List PyData):bf (aM i) t f ρ (d::ds)=(t (ρ.set i (.val d))>>=fun k=>if k=true then f (ρ.set i (.val d))>>=fun x=>bf (aM i) t f ρ ds>>=fun xs=>.ok (x::xs) else bf (aM i) t f ρ ds):=by
  rw [bf];rfl
theorem mG (i j:Nat) (x y:PyData) (ds:List PyData):bf (g8 i j) t f ρ (.tuple [x,y]::ds)=(t ((ρ.set i (.val x)).set j (.val y))>>=fun k=>if k=true then f ((ρ.set i (.val x)).set j (.val y))>>=fun x=>bf (g8 i j) t f ρ ds>>=fun xs=>.ok (x::xs) else bf (g8 i j) t f ρ ds):=by
  rw [bf];rfl
@[simp] theorem qX:n6 f ρ=(f ρ>>=fun x=>le x>>=fun xs=>.ok (dt 0 xs)):=(rfl)
theorem eM {ρ:aD} {i:Nat} {ds:List PyData} (f:Fe) (h:ρ[i]?=some (.own (.list ds))) (hz:ds.length < sizeLine):cu i f ρ=(mw (f ρ)>>=fun d=>.ok (.nx (ρ.set i (.own (.list (ds++[d])))))):=by
  unfold cu;congr 1;funext d;rw [h];exact if_pos hz
noncomputable def vD:R (List PyData)->R PyData
  | .ok xs=>.ok (.list xs)
  | .ex c=>.ex c
  | .no=>.no
@[simp] theorem h7 (xs:List PyData):vD (.ok xs)=.ok (.list xs):=(rfl)
theorem cz (it:aD->R (List PyData)) (own:Nat) (fr:List Nat) (bb:PyData->aD->Option aD):ce it own fr bb t f ρ=(mw (it ρ)>>=fun ds=>if ds.length<=sizeLine then vD (bf bb t f (au own fr ρ) ds) else .no):=by
  unfold ce;congr 1
theorem dI (i:Nat) (G:PyData->PyData):∀ (ds:List PyData),(∀ d∈ds,f (ρ.set i (.val d))=.ok (G d))->bf (aM i) (fun _=>.ok true) f ρ ds=.ok (ds.map G)
  | [],_=>dM ..
  | d::ds,hh=>by
    rw [dN,hh d List.mem_cons_self,dI i G ds fun x hx=>hh x (List.mem_cons_of_mem _ hx)];rfl
theorem g9 (i:Nat) (p:PyData->Bool) (G:PyData->PyData):∀ (ds:List PyData),(∀ d∈ds,t (ρ.set i (.val d))=.ok (p d))->(∀ d∈ds,p d=true->f (ρ.set i (.val d))=.ok (G d))->bf (aM i) t f ρ ds=.ok ((ds.filter p).map G)
  | [],_,_=>dM ..
  | d::ds,hh,hg=>by
    rw [dN,hh d List.mem_cons_self,g9 i p G ds (fun x hx=>hh x (List.mem_cons_of_mem _ hx)) fun x hx=>hg x (List.mem_cons_of_mem _ hx)];cases hp:p d with
    | true=>rw [List.filter_cons_of_pos hp,R.ok_bind,if_pos rfl,hg d List.mem_cons_self hp];rfl
    | false=>rw [List.filter_cons_of_neg (by rw [hp];simp)];rfl
end
section
variable (i j:Int) (xs ys:List PyData)
@[simp] theorem wW:iU (.int i)=.ok (.int (-i)):=(rfl)
@[simp] theorem mC:bN (.int i) (.int j)=.ok (.int (i+j)):=(rfl)
@[simp] theorem uE:bN (.tuple xs) (.tuple ys)=if xs.length+ys.length<=sizeLine then .ok (.tuple (xs++ys)) else .no:=(rfl)
@[simp] theorem ux:bN (.list xs) (.list ys)=if xs.length+ys.length<=sizeLine then .ok (.list (xs++ys)) else .no:=(rfl)
@[simp] theorem kW:gS (.int i) (.int j)=.ok (.int (i-j)):=(rfl)
@[simp] theorem qG:cj (.int i) (.int j)=if 0 < j then .ok (.int (i%j)) else .no:=(rfl)
@[simp] theorem wL:iu (.int i) (.int j)=if 0 < j/\j < 1073741824 then .ok (.int (i / j)) else .no:=(rfl)
theorem tM:cm (.int i) (.int j)=if (-(2 ^ 64) < i/\i < 2 ^ 64)\/(-(2 ^ 64) < j/\j < 2 ^ 64) then .ok (.int (i*j)) else .no:=rfl
@[simp] theorem xa (p:Int->Int->Bool):fI p (.int i) (.int j)=.ok (.bool (p i j)):=(rfl)
@[simp] theorem tX:sB (.int i) (.int j)=.ok (.int (if j < i then j else i)):=(rfl)
@[simp] theorem mZ:cY (.tuple xs)=.ok (.int xs.length):=(rfl)
@[simp] theorem xl:cY (.list xs)=.ok (.int xs.length):=(rfl)
@[simp] theorem l7:cB (.list xs)=.ok (.tuple xs):=(rfl)
@[simp] theorem wo:qw (.tuple xs)=.ok (.list xs):=(rfl)
@[simp] theorem xp (lo hi:Option Int):tW (.tuple xs) lo hi=.ok (.tuple (fo xs lo hi)):=(rfl)
@[simp] theorem wX:sS (.tuple xs)=.ok (.tuple xs.reverse):=(rfl)
theorem kO {α:Type} {xs:List α} {i:Int} (h0:0<=i) (h1:i < xs.length):L2.atI xs i=some (xs[i.toNat]'(by omega)):=by
  unfold L2.atI tx;rw [if_pos h0,if_pos h1];exact List.getElem?_eq_getElem (by omega)
theorem nQ {xs:List PyData} {i:Int} (h0:0<=i) (h1:i < xs.length):cQ (.tuple xs) (.int i)=.ok (xs[i.toNat]'(by omega)):=by
  show (match L2.atI xs i with | some d=>R.ok d | none=>.no)=_;rw [kO h0 h1]
theorem qx {xs:List PyData} {i:Int} (h0:0<=i) (h1:i < xs.length):cQ (.list xs) (.int i)=.ok (xs[i.toNat]'(by omega)):=by
  show (match L2.atI xs i with | some d=>R.ok d | none=>.no)=_;rw [kO h0 h1]
theorem lq:PyData.eqv (.int i) (.int j)=decide (i=j):=by
  simp only [PyData.eqv];by_cases h:i=j
  · subst h;simp
  · simp [h]
theorem iG:kF (.int i) (.int j)=.ok (.bool (decide (i=j))):=by
  unfold kF;rw [if_pos (by rfl),lq]
theorem iD:kB (.int i) (.int j)=.ok (.bool (!decide (i=j))):=by
  unfold kB;rw [if_pos (by rfl),lq]
end
end D2
namespace G
open PySem PySem.Spec PyProof.Rows L2 D2
noncomputable def wQ:PyData->Bool
  | .int _=>true
  | _=>false
noncomputable def noD:PyData->Prop
  | .dict _=>False
  | _=>True
noncomputable def iI (d:PyData) (lo hi:Int):Bool:=match d with
  | .int i=>decide (lo<=i)&&decide (i<=hi)
  | _=>false
noncomputable def jq (c:Int):Int->List PyData->Bool
  | _,[]=>true
  | l,d::r=>match d with
    | .int i=>(decide (l<=i)&&decide (i < c))&&jq c (i+1) r
    | _=>false
@[simp] noncomputable def jp (c:Int):PyData->Bool
  | .tuple ds=>jq c 0 ds
  | _=>false
noncomputable abbrev bO (d:PyData):Prop:=d.canLay0=true
theorem bO.noD {d:PyData} (h:bO d):noD d:=by
  cases d <;> first | trivial | (simp [bO,PyData.canLay0] at h)
theorem lb:∀ {ds:List PyData},PyData.canLayAll0 ds=true->∀ x∈ds,bO x
  | [],_,x,hx=>by cases hx
  | d::ds,h,x,hx=>by
    have h':d.canLay0=true/\PyData.canLayAll0 ds=true:=by simpa [PyData.canLayAll0] using h
    rcases List.mem_cons.mp hx with rfl | hx
    · exact h'.1
    · exact lb h'.2 x hx
theorem gY:∀ {ds:List PyData},(∀ x∈ds,bO x)->PyData.canLayAll0 ds=true
  | [],_=>by simp [PyData.canLayAll0]
  | d::ds,h=>by
    have h1:=h d List.mem_cons_self;have h2:=gY fun x hx=>h x (List.mem_cons_of_mem _ hx)
    simp only [PyData.canLayAll0,Bool.and_eq_true];exact ⟨h1,h2⟩
theorem aH {ds:List PyData}:bO (.tuple ds)<->∀ x∈ds,bO x:=by
  constructor
  · intro h;exact lb (by simpa [bO,PyData.canLay0] using h)
  · intro h;simp only [bO,PyData.canLay0];exact gY h
theorem im {ds:List PyData}:bO (.list ds)<->∀ x∈ds,bO x:=by
  constructor
  · intro h;exact lb (by simpa [bO,PyData.canLay0] using h)
  · intro h;simp only [bO,PyData.canLay0];exact gY h
theorem eT (i:Int):bO (.int i):=by simp [bO,PyData.canLay0]
theorem kr:bO .none:=by simp [bO,PyData.canLay0]
theorem kl (b:Bool):bO (.bool b):=by simp [bO,PyData.canLay0]
theorem gT (p:PyData->Bool):∀ ds:List PyData,D2.kK (ds.map fun d=>.bool (p d))=some (ds.all p)
  | []=>rfl
  | d::ds=>by
    simp only [List.map_cons,D2.kK,gT p ds,List.all_cons,Option.map_some]
theorem cH {n:Nat} (h:n<=1000):n<=sizeLine:=Nat.le_trans h (by decide)
theorem iP {α:Type} (p:α->Bool):∀ xs:List α,(xs.filter fun x=>!p x).isEmpty=xs.all p
  | []=>rfl
  | x::xs=>by
    cases hp:p x with
    | true=>rw [List.filter_cons_of_neg (by rw [hp];simp),List.all_cons,hp,iP p xs];rfl
    | false=>rw [List.filter_cons_of_pos (by rw [hp];rfl),List.all_cons,hp];rfl
noncomputable abbrev iF (ns:List Int):PyData:=.list (ns.map .int)
theorem dO {i j:Int} (h:(-(2 ^ 64) < i/\i < 2 ^ 64)\/(-(2 ^ 64) < j/\j < 2 ^ 64)):cm (.int i) (.int j)=.ok (.int (i*j)):=by rw [tM,if_pos h]
structure wa (c:Int) (n:Nat) (kvs:List (PyData×PyData)):Prop where
  ex:∃ ns:List Int,kvs.map (·.1)=ns.map PyData.int/\(∀ x∈ns,0<=x/\x < c)/\ns.length<=n/\(n=0\/ns≠[])/\ns.Nodup
theorem wa.len {c:Int} {n:Nat} {kvs:List (PyData×PyData)} (h:wa c n kvs):kvs.length<=n:=by
  obtain ⟨ns,e,_,hl,_⟩:=h.ex;have:=congrArg List.length e;simp at this;omega
theorem iz (lo:Int) (n:Nat):∀ d∈bg lo n,∃ k,d=.int k:=fun d hd=>by
  unfold bg at hd;obtain ⟨k,_,rfl⟩:=List.mem_map.mp hd;exact ⟨_,rfl⟩
theorem cC (lo:Int) (n:Nat):(bg lo n).length=n:=by unfold bg;simp
theorem ml (f:Fe) (ρ:aD) (i:Nat) (P:PyData->Prop):∀ ds:List PyData,(∀ d∈ds,∃ x,f (ρ.set i (.val d))=.ok x/\P x)->∃ xs,bf (aM i) (fun _=>.ok true) f ρ ds=.ok xs/\xs.length=ds.length/\∀ x∈xs,P x
  | [],_=>⟨[],dM ..,rfl,by simp⟩
  | d::ds,h=>by
    obtain ⟨x,h1,h2⟩:=h d List.mem_cons_self;obtain ⟨xs,h3,h4,h5⟩:=ml f ρ i P ds fun d hd=>h d (List.mem_cons_of_mem _ hd)
    refine ⟨x::xs,?_,by simp [h4],fun y hy=>?_⟩
    · rw [dN,h1,h3];rfl
    · rcases List.mem_cons.mp hy with rfl | hy
      · exact h2
      · exact h5 y hy
theorem iY {xs:List PyData} {i:Int} (h0:0<=i) (h1:i < xs.length):∃ x∈xs,cQ (.list xs) (.int i)=.ok x:=⟨_,List.getElem_mem _,qx h0 h1⟩
theorem hZ {ds:List PyData} {lo hi:Option Int}:∀ x∈D2.fo ds lo hi,x∈ds:=fun x hx=>List.mem_of_mem_drop (List.mem_of_mem_take hx)
theorem hW (ds:List PyData) (lo hi:Option Int):(D2.fo ds lo hi).length<=ds.length:=by
  unfold D2.fo;rw [List.length_take,List.length_drop];omega
theorem pG {i:Int} (h1:-20<=i) (h2:i<=24):bO (.str (toString i)):=by
  have:∀ k:Fin 45,(PyData.str (toString ((k:Int)-20))).canLay0=true:=by decide +kernel
  have q:=this ⟨(i+20).toNat,by omega⟩;have e:(((⟨(i+20).toNat,by omega⟩:Fin 45):Nat):Int)-20=i:=by simp;omega
  rw [e] at q;exact q
inductive jR:PyData->Prop
  | int (i:Int) (h1:-20<=i) (h2:i<=24):jR (.int i)
  | none:jR .none
  | tuple (ds:List PyData) (h:ds.length<=100) (ha:∀ x∈ds,jR x):jR (.tuple ds)
theorem jR.good {d:PyData} (h:jR d):bO d:=by
  induction h with
  | int i=>exact eT i
  | none=>exact kr
  | tuple ds _ _ ih=>exact aH.mpr ih
structure P4 where
  w:Int
  m:Int
  g:Int
  ns:List Int
noncomputable def P4.d (p:P4):PyData:=.tuple [.int p.w,.int p.m,.int p.g,.tuple (p.ns.map .int)]
structure Pl (c hi:Int) (p:P4):Prop where
  w0:0<=p.w
  w1:p.w<=1
  m0:0<=p.m
  m1:p.m<=hi
  g0:-20<=p.g
  g1:p.g<=20
  ne:p.ns≠[]
  so:p.ns.Pairwise (· < ·)
  inn:∀ x∈p.ns,0<=x/\x < c
theorem gF:∀ (ns:List Int) (l c:Int),ns.Pairwise (· < ·)->(∀ x∈ns,l<=x/\x < c)->ns=[]\/l+(ns.length:Int)<=c
  | [],_,_,_,_=>.inl rfl
  | x::r,l,c,hp,hb=>by
    right;obtain ⟨h1,h2⟩:=List.pairwise_cons.mp hp;have hx:=hb x List.mem_cons_self;rcases gF r (x+1) c h2 (fun y hy=>⟨by have:=h1 y hy;omega,(hb y (List.mem_cons_of_mem _ hy)).2⟩) with rfl | z
    · simp;omega
    · rw [List.length_cons];omega
theorem Pl.len {c hi:Int} {p:P4} (h:Pl c hi p):(p.ns.length:Int)<=c:=by
  rcases gF p.ns 0 c h.so h.inn with z | z
  · exact absurd z h.ne
  · omega
theorem oo (c:Int):∀ (ns:List Int) (l:Int),ns.Pairwise (· < ·)->(∀ x∈ns,l<=x/\x < c)->jq c l (ns.map .int)=true
  | [],_,_,_=>rfl
  | x::r,l,hp,hb=>by
    obtain ⟨h1,h2⟩:=List.pairwise_cons.mp hp;have hx:=hb x List.mem_cons_self;simp only [List.map_cons,jq,Bool.and_eq_true,decide_eq_true_eq];exact ⟨⟨hx.1,hx.2⟩,oo c r (x+1) h2 fun y hy=>⟨by have:=h1 y hy;omega,(hb y (List.mem_cons_of_mem _ hy)).2⟩⟩
end G
noncomputable section
namespace G
open PySem PySem.Spec PyProof.Rows L2 D2
noncomputable def fV:Fs :=
  (aS (cf 2 (e2 cj (e2 cm (e2 bN (e2 bN (ai 0) (e2 cm (eC (.int 104729)) (ai 1))) (eC (.int 17))) (eC (.int 69621))) (eC (.int 2147483647)))) (bW (e2 cj (e2 bN (e2 bN (e2 cm (ai 2) (ai 2)) (e2 cm (eC (.int 3)) (ai 2))) (ai 1)) (eC (.int 2147483629)))))
noncomputable def ay:List PyData->R PyData:=df 3 (fV)
noncomputable def eZ (ay:List PyData->R PyData):Fs :=
  (aS (gj 1 (fE aq)) (aS (jT (jV (dc (ag (e2 bN (eC (.int 1)) (e2 cj (ai 0) (eC (.int 5)))) aq)) (aM 2) (cu 1 (e1 cB (ce (dc (ag (eC (.int 13)) aq)) 1 [0,2] (aM 0) (tE (e2 (kF) (e2 cj (aA ay (ag (ai 1) (ag (e2 bN (e2 cm (eC (.int 13)) (ai 2)) (ai 0)) aq))) (eC (.int 3))) (eC (.int 0)))) (ai 0)))))) (bW (e1 cB (gm 1)))))
noncomputable def br:List PyData->R PyData:=df 3 (eZ ay)
noncomputable def fu:Fs :=
  (bW (jP (e1 (bI .int) (ai 0)) (jP (sR (e1 (bI .bool) (ai 0))) (ge (fI u7) (fI u7) (eC (.int 0)) (ai 0) (ai 1)))))
noncomputable def aQ:List PyData->R PyData:=df 2 (fu)
noncomputable def dg (aQ:List PyData->R PyData):Fs :=
  (aS (iV (hJ (cn (tE (e1 (bI .tuple) (ai 0)))) (cn (tE (ge (fI wd) (fI wd) (eC (.int 0)) (e1 cY (ai 0)) (eC (.int 7)))))) (bW (eC (.bool false))) cq) (aS (jT (jV (gO (ai 0)) (aM 1) (aS (iV (hJ (cn (tE (e1 (bI .tuple) (ai 1)))) (hJ (tE (e2 (kB) (e1 cY (ai 1)) (eC (.int 2)))) (cn (tE (aA aQ (ag (e2 cQ (ai 1) (eC (.int 0))) (ag (eC (.int 1)) aq))))))) (bW (eC (.bool false))) cq) (aS (iV (hJ (cn (tE (e1 (bI .tuple) (e2 cQ (ai 1) (eC (.int 1)))))) (tE (e2 (kB) (e1 cY (e2 cQ (ai 1) (eC (.int 1)))) (eC (.int 13))))) (bW (eC (.bool false))) cq) (iV (tE (e2 (kB) (ce (gO (e2 cQ (ai 1) (eC (.int 1)))) 1 [0] (aM 0) (cn (tE (aA aQ (ag (ai 0) (ag (e2 gS (e1 cY (ai 1)) (eC (.int 1))) aq))))) (ai 0)) (fE aq))) (bW (eC (.bool false))) cq))))) (bW (eC (.bool true)))))
noncomputable def aI:List PyData->R PyData:=df 2 (dg aQ)
noncomputable def eo:Fs :=
  (aS (iV (tE (e2 (fI wd) (ai 1) (e1 cY (ai 0)))) (bW (e2 cQ (ai 0) (ai 1))) cq) (bW (eC (.int 0))))
noncomputable def bw:List PyData->R PyData:=df 2 (eo)
noncomputable def fX (bw:List PyData->R PyData):Fs :=
  (aS (cf 2 (e2 cj (e2 cm (e2 bN (e2 bN (aA bw (ag (ai 0) (ag (ai 1) aq))) (e2 cm (eC (.int 7919)) (ai 1))) (eC (.int 1))) (eC (.int 48271))) (eC (.int 2147483647)))) (bW (e2 cj (e2 bN (e2 bN (e2 cm (ai 2) (ai 2)) (e2 cm (eC (.int 7)) (ai 2))) (ai 1)) (eC (.int 2147483629)))))
noncomputable def aE:List PyData->R PyData:=df 3 (fX bw)
noncomputable def jc:Fs :=
  (bW (jP (e1 (bI .int) (ai 0)) (sR (e1 (bI .bool) (ai 0)))))
noncomputable def cD:List PyData->R PyData:=df 1 (jc)
noncomputable def fi (cD:List PyData->R PyData):Fs :=
  (bW (jP (aA cD (ag (ai 0) aq)) (ge (fI u7) (fI u7) (ai 1) (ai 0) (ai 2))))
noncomputable def av:List PyData->R PyData:=df 3 (fi cD)
noncomputable def gJ (av:List PyData->R PyData):Fs :=
  (aS (iV (cn (tE (e1 (bI .tuple) (ai 0)))) (bW (eC (.bool false))) cq) (aS (cf 2 (eC (.int 0))) (aS (jT (jV (gO (ai 0)) (aM 3) (aS (iV (cn (tE (aA av (ag (ai 3) (ag (ai 2) (ag (e2 gS (ai 1) (eC (.int 1))) aq)))))) (bW (eC (.bool false))) cq) (cf 2 (e2 bN (ai 3) (eC (.int 1))))))) (bW (eC (.bool true))))))
noncomputable def bF:List PyData->R PyData:=df 4 (gJ av)
noncomputable def ez:Fs :=
  (bW (jP (e1 (bI .tuple) (ai 0)) (ge (fI u7) (fI u7) (ai 1) (e1 cY (ai 0)) (ai 2))))
noncomputable def am:List PyData->R PyData:=df 3 (ez)
noncomputable def gB:Fs :=
  (bW (e1 cB (ce (dc (ag (eC (.int 13)) aq)) 1 [0,1] (aM 0) (fun _=>.ok true) (wq (tE (e2 (re false) (ai 0) (ai 1))) (e2 bN (ai 2) (eC (.int 1))) (ai 2)))))
noncomputable def ca:List PyData->R PyData:=df 2 (gB)
noncomputable def dH (bF:List PyData->R PyData) (am:List PyData->R PyData) (ca:List PyData->R PyData):Fs :=
  (aS (iV (hJ (cn (tE (aA am (ag (ai 0) (ag (eC (.int 1)) (ag (e2 gS (eC (.int 6)) (eC (.int 1))) aq)))))) (cn (tE (e1 j0 (ce (gO (ai 0)) 1 [] (aM 0) (fun _=>.ok true) (aA bF (ag (ai 0) (ag (eC (.int 13)) aq)))))))) (mS (PySem.Str.ofString "NoWatcher") (eC (.str (PySem.Str.ofString "these are no groups of marks")))) cq) (aS (cf 1 (ce (n6 (ai 0)) 2 [] (g8 0 1) (fun _=>.ok true) (cN (ag (eC (.int 0)) (ag (aA ca (ag (ai 1) (ag (ai 0) aq))) aq))))) (bW (e2 bN (e1 cB (ai 1)) (cN (ag (cN (ag (eC (.int 1)) (ag (e2 cQ (e2 cQ (ai 1) (eC (.int 0))) (eC (.int 1))) aq))) aq))))))
noncomputable def aB:List PyData->R PyData:=df 2 (dH bF am ca)
noncomputable def eG (aB:List PyData->R PyData):Fs :=
  (aS (nL aB (ag (ai 0) aq) ((PySem.Str.ofString "NoWatcher",(fun p ρ=>(lA 1 p) (ρ.set 1 (.exc p))))::[])) (bW (eC (.bool false))))
noncomputable def ba:List PyData->R PyData:=df 2 (eG aB)
noncomputable def fw:Fs :=
  (aS (gj 2 (fE aq)) (aS (cf 3 (eC (.int 0))) (aS (jT (jV (gO (ai 1)) (aM 4) (aS (cf 3 (e2 cj (ai 3) (e1 cY (ai 0)))) (aS (iV (tE (e2 (re false) (ai 4) (e2 cQ (ai 0) (ai 3)))) (cf 3 (e2 bN (ai 3) (eC (.int 1)))) cq) (cu 2 (ai 3)))))) (bW (e1 cB (gm 2))))))
noncomputable def bt:List PyData->R PyData:=df 5 (fw)
noncomputable def ip:Fs :=
  (aS (cf 1 (fE (ag (e1 iU (eC (.int 1))) (ag (eC (.int 0)) (ag (eC (.int 1)) (ag (eC (.int 2)) (ag (eC (.int 12)) (ag (eC (.int 13)) (ag (eC (.int 20)) (ag (eC (.int 21)) (ag (e1 iU (eC (.int 20))) (ag (e1 iU (eC (.int 21))) (ag (eC (.int 24)) (ag (eC (.int 25)) (ag (eC (.bool true)) (ag (eC (.bool false)) (ag (eC .none) (ag (eC (.str (PySem.Str.ofString ""))) (ag (eC (.str (PySem.Str.ofString "a"))) (ag (cN aq) (ag (fE aq) (ag (cN (ag (eC (.int 0)) aq)) (ag (cN (ag (eC (.int 1)) (ag (eC (.int 0)) aq))) (ag (cN (ag (eC (.int 0)) (ag (eC (.int 0)) aq))) aq)))))))))))))))))))))))) (bW (e2 cQ (ai 1) (e2 cj (ai 0) (eC (.int 22))))))
noncomputable def bK:List PyData->R PyData:=df 2 (ip)
noncomputable def bu (bK:List PyData->R PyData) (aG:List PyData->R PyData):Fs :=
  (aS (iV (iC (tE (e2 (fI vi) (ai 2) (eC (.int 0)))) (iC (tE (e1 (bI .tuple) (ai 0))) (iC (tE (e2 (fI vi) (e1 cY (ai 0)) (eC (.int 0)))) (tE (e2 (fI vi) (e2 cj (ai 1) (eC (.int 6))) (eC (.int 0))))))) (aS (cf 3 (e2 cj (e2 iu (ai 1) (eC (.int 6))) (e1 cY (ai 0)))) (aS (cf 4 (aA aG (ag (e2 cQ (ai 0) (ai 3)) (ag (e2 iu (e2 iu (ai 1) (eC (.int 6))) (e1 cY (ai 0))) (ag (e2 gS (ai 2) (eC (.int 1))) aq))))) (bW (e2 bN (e2 bN (uQ (ai 0) jn (jv (ai 3))) (cN (ag (ai 4) aq))) (uQ (ai 0) (jv (e2 bN (ai 3) (eC (.int 1)))) jn))))) cq) (aS (iV (iC (tE (e1 (bI .tuple) (ai 0))) (iC (tE (e2 (fI vi) (e1 cY (ai 0)) (eC (.int 0)))) (tE (e2 (kF) (e2 cj (e2 iu (ai 1) (eC (.int 6))) (eC (.int 2))) (eC (.int 0)))))) (bW (e2 cQ (fE (ag (e1 qw (ai 0)) (ag (uQ (ai 0) jn (jv (e1 iU (eC (.int 1))))) (ag (e2 bN (ai 0) (uQ (ai 0) (jv (e1 iU (eC (.int 1)))) jn)) (ag (uQ (ai 0) (jv (eC (.int 1))) jn) (ag (e1 sS (ai 0)) (ag (e2 cm (ai 0) (eC (.int 2))) aq))))))) (e2 cj (e2 iu (ai 1) (eC (.int 12))) (eC (.int 6))))) cq) (aS (iV (iC (tE (e1 (bI .int) (ai 0))) (tE (e2 (kF) (e2 cj (e2 iu (ai 1) (eC (.int 6))) (eC (.int 2))) (eC (.int 0))))) (bW (e2 cQ (fE (ag (e1 rl (ai 0)) (ag (e1 iU (ai 0)) (ag (e2 cm (ai 0) (eC (.int 1001))) (ag (e2 (kF) (ai 0) (eC (.int 1))) (ag (e2 bN (ai 0) (eC (.int 1))) aq)))))) (e2 cj (e2 iu (ai 1) (eC (.int 12))) (eC (.int 5))))) cq) (bW (aA bK (ag (e2 iu (ai 1) (eC (.int 6))) aq))))))
noncomputable def aG:Nat->List PyData->R PyData
  | 0=>fun _=>.no
  | k+1=>df 5 (bu bK (aG k))
noncomputable def eu (ay:List PyData->R PyData):Fs :=
  (aS (cf 1 (e2 bN (eC (.int 1)) (e2 cj (ai 0) (eC (.int 6))))) (aS (gj 2 (fE aq)) (aS (jT (jV (dc (ag (ai 1) aq)) (aM 3) (aS (cf 4 (ce (dc (ag (eC (.int 13)) aq)) 1 [0,3,1] (aM 0) (fun _=>.ok true) (e2 cj (aA ay (ag (ai 1) (ag (e2 bN (e2 cm (eC (.int 20)) (ai 2)) (ai 0)) aq))) (ai 3)))) (cu 2 (cN (ag (e2 cj (e2 cj (aA ay (ag (ai 0) (ag (e2 bN (eC (.int 99)) (ai 3)) aq))) (eC (.int 3))) (eC (.int 2))) (ag (e1 cB (ai 4)) aq))))))) (bW (e1 cB (gm 2))))))
noncomputable def aZ:List PyData->R PyData:=df 5 (eu ay)
noncomputable def fM (av:List PyData->R PyData) (am:List PyData->R PyData):Fs :=
  (aS (iV (cn (tE (aA am (ag (ai 0) (ag (eC (.int 13)) (ag (eC (.int 13)) aq)))))) (bW (eC (.bool false))) cq) (bW (e1 j0 (ce (gO (ai 0)) 1 [1] (aM 0) (fun _=>.ok true) (aA av (ag (ai 0) (ag (eC (.int 0)) (ag (e2 gS (ai 1) (eC (.int 1))) aq))))))))
noncomputable def bS:List PyData->R PyData:=df 2 (fM av am)
noncomputable def gI (bS:List PyData->R PyData) (av:List PyData->R PyData) (am:List PyData->R PyData):Fs :=
  (aS (iV (cn (tE (aA am (ag (ai 0) (ag (eC (.int 2)) (ag (eC (.int 2)) aq)))))) (bW (eC (.bool false))) cq) (bW (jP (aA av (ag (e2 cQ (ai 0) (eC (.int 0))) (ag (eC (.int 0)) (ag (eC (.int 1)) aq)))) (aA bS (ag (e2 cQ (ai 0) (eC (.int 1))) (ag (ai 1) aq))))))
noncomputable def bY:List PyData->R PyData:=df 2 (gI bS av am)
noncomputable def e9 (bY:List PyData->R PyData) (am:List PyData->R PyData):Fs :=
  (bW (jP (aA am (ag (ai 0) (ag (eC (.int 1)) (ag (eC (.int 6)) aq)))) (e1 j0 (ce (gO (ai 0)) 1 [0] (aM 0) (fun _=>.ok true) (aA bY (ag (ai 0) (ag (e1 cY (ai 1)) aq)))))))
noncomputable def bq:List PyData->R PyData:=df 1 (e9 bY am)
noncomputable def fZ:Fs :=
  (aS (gj 2 (fE aq)) (aS (cf 3 (eC (.int 0))) (aS (jT (jV (gO (ai 1)) (aM 4) (aS (cf 3 (e2 cQ (e2 cQ (e2 cQ (ai 0) (ai 3)) (eC (.int 1))) (ai 4))) (cu 2 (ai 3))))) (bW (e1 cB (gm 2))))))
noncomputable def bx:List PyData->R PyData:=df 5 (fZ)
noncomputable def n3 (br:List PyData->R PyData) (aI:List PyData->R PyData) (aE:List PyData->R PyData) (ba:List PyData->R PyData) (bt:List PyData->R PyData) (aG:List PyData->R PyData) (aZ:List PyData->R PyData) (bq:List PyData->R PyData) (bx:List PyData->R PyData) (aB:List PyData->R PyData):Fs :=
  (aS (cf 1 (aA aZ (ag (aA aE (ag (ai 0) (ag (eC (.int 0)) aq))) aq))) (aS (cf 2 (e1 cB (ce (dc (ag (e2 sB (eC (.int 40)) (e1 cY (ai 0))) aq)) 1 [0] (aM 0) (fun _=>.ok true) (e2 cj (aA aE (ag (ai 1) (ag (e2 bN (eC (.int 3)) (ai 0)) aq))) (eC (.int 13)))))) (aS (cf 3 (eC (.int 0))) (aS (gj 4 (fE aq)) (aS (jT (jV (gO (ai 2)) (aM 5) (aS (cf 3 (e2 cQ (e2 cQ (e2 cQ (ai 1) (ai 3)) (eC (.int 1))) (ai 5))) (cu 4 (ai 3))))) (aS (iV (tE (e2 (kB) (aA bx (ag (ai 1) (ag (ai 2) aq))) (e1 cB (gm 4)))) (bW (eC (.bool false))) cq) (aS (cf 6 (ai 1)) (aS (iV (tE (e2 (kF) (e2 cj (aA aE (ag (ai 0) (ag (eC (.int 1)) aq))) (eC (.int 2))) (eC (.int 1)))) (cf 6 (aA aG (ag (ai 1) (ag (aA aE (ag (ai 0) (ag (eC (.int 2)) aq))) (ag (e2 cj (e2 iu (aA aE (ag (ai 0) (ag (eC (.int 1)) aq))) (eC (.int 2))) (eC (.int 4))) aq))))) cq) (aS (cf 7 (aA bq (ag (ai 6) aq))) (aS (iV (hJ (cn (tE (e1 (bI .bool) (ai 7)))) (tE (e2 (kB) (ai 7) (aA aI (ag (ai 6) aq))))) (bW (eC (.bool false))) cq) (aS (cf 8 (aA br (ag (aA aE (ag (ai 0) (ag (eC (.int 1)) aq))) aq))) (aS (cf 9 (e2 cQ (fE (ag (cN aq) (ag (e2 cm (cN (ag (e2 cQ (ai 8) (eC (.int 0))) aq)) (eC (.int 6))) (ag (fE (ag (e2 cQ (ai 8) (eC (.int 0))) aq)) (ag (cN (ag (cN (ag (eC (.int 13)) aq)) aq)) (ag (cN (ag (cN (ag (e1 iU (eC (.int 1))) aq)) aq)) (ag (cN (ag (cN (ag (eC (.int 1)) (ag (eC (.int 1)) aq))) aq)) (ag (cN (ag (eC .none) aq)) (ag (eC .none) aq))))))))) (e2 cj (aA aE (ag (ai 0) (ag (eC (.int 2)) aq))) (eC (.int 8))))) (aS (cf 10 (aA aB (ag (ai 8) aq))) (aS (iV (hJ (cn (tE (aA ba (ag (ai 9) aq)))) (hJ (cn (tE (aA aI (ag (ai 10) aq)))) (tE (e2 (kB) (e1 cY (ai 10)) (e2 bN (e1 cY (ai 8)) (eC (.int 1))))))) (bW (eC (.bool false))) cq) (aS (cf 11 (ce (gO (ai 10)) 1 [] (aM 0) (fun _=>.ok true) (e2 cQ (ai 0) (eC (.int 0))))) (bW (jP (e2 (kF) (ai 11) (e2 bN (e2 ju (fE (ag (eC (.int 0)) aq)) (e1 cY (ai 8))) (fE (ag (eC (.int 1)) aq)))) (e2 (kF) (aA bx (ag (ai 10) (ag (ai 2) aq))) (aA bt (ag (ai 8) (ag (ai 2) aq)))))))))))))))))))))
noncomputable def nU:List PyData->R PyData:=df 12 (n3 br aI aE ba bt (aG 14) aZ bq bx aB)
end G
end
namespace G
open PySem PySem.Spec PyProof.Rows L2 D2
theorem l0 {d:PyData} (h:noD d):cD [d]=.ok (.bool (wQ d)):=by
  cases d <;> first | rfl | cases h
theorem fA {d:PyData} (h:noD d) (lo hi:Int):av [d,.int lo,.int hi]=.ok (.bool (iI d lo hi)):=by
  unfold av fi;rw [bQ];cases d with
  | int i =>
    by_cases h1:lo<=i <;> by_cases h2:i<=hi <;> simp [l0 h,wQ,h1,h2,iI]
  | dict k=>cases h
  | _=>simp [l0 h,wQ,iI]
theorem kt (t:PyData) (c:Int):∀ (ds:List PyData) (l:Int) (x:bX),(∀ d∈ds,noD d) ->
    ∃ ρ,eF (aM 3) (aS (iV (cn (tE (aA av (ag (ai 3) (ag (ai 2) (ag (e2 gS (ai 1) (eC (.int 1))) aq)))))) (bW (eC (.bool false))) cq) (cf 2 (e2 bN (ai 3) (eC (.int 1))))) ds
      [.val t,.val (.int c),.val (.int l),x]=if jq c l ds=true then .ok (.nx ρ) else .ok (.rt (.bool false))
  | [],l,x,_=>⟨_,by rw [qF];rfl⟩
  | d::ds,l,x,h=>by
    have hd:=h d List.mem_cons_self;cases hb:iI d l (c-1) with
    | false =>
      refine ⟨[],?_⟩;have hr:jq c l (d::ds)=false:=by
        cases d with
        | int i =>
          simp only [iI] at hb;simp only [jq];rcases (Bool.and_eq_false_iff.mp hb) with z | z
          · rw [z];rfl
          · have:decide (i < c)=false:=by simp at z ⊢;omega
            rw [this];simp
        | _=>rfl
      rw [cV,hr];simp [fA hd,hb]
    | true =>
      cases d with
      | int i =>
        simp only [iI,Bool.and_eq_true,decide_eq_true_eq] at hb;obtain ⟨ρ,e⟩:=kt t c ds (i+1) (.val (.int i)) fun d hd=>h d (List.mem_cons_of_mem _ hd)
        refine ⟨ρ,?_⟩;have hr:jq c l (.int i::ds)=jq c (i+1) ds:=by
          simp only [jq];rw [decide_eq_true hb.1,decide_eq_true (show i < c by omega)];simp
        have hb':iI (.int i) l (c-1)=true:=by simp [iI];omega
        rw [cV,hr,<- e];simp [fA hd,hb']
      | _=>cases hb
theorem iK {d:PyData} (c:Int) (h:∀ ds,d=.tuple ds->∀ x∈ds,noD x) (hd:noD d):bF [d,.int c]=.ok (.bool (jp c d)):=by
  unfold bF gJ;rw [bQ];cases d with
  | tuple ds =>
    obtain ⟨ρ,e⟩:=kt (.tuple ds) c ds 0 .non (h ds rfl);simp [bI,gp,eX,List.replicate];rw [e];cases jq c 0 ds <;> simp
  | dict k=>cases hd
  | _=>simp [bI,gp,List.replicate]
theorem sT (ns:List Int) {k:Int} (hk:0<=k):∃ v,bw [iF ns,.int k]=.ok (.int v):=by
  unfold bw eo;by_cases h:k < ns.length
  · refine ⟨ns[k.toNat]'(by omega),?_⟩;have hx:=qx (xs:=ns.map PyData.int) (i:=k) hk (by simpa using h);rw [bQ];simp [h,hx]
  · refine ⟨0,?_⟩;rw [bQ];simp [h]
theorem hU (ns:List Int) {k:Int} (hk:0<=k):∃ v,aE [iF ns,.int k]=.ok (.int v)/\0<=v/\v < 2147483629:=by
  obtain ⟨c,hc⟩:=sT ns hk;unfold aE fX;have m1:cm (.int 7919) (.int k)=.ok (.int (7919*k)):=dO (.inl (by omega));have m2:cm (.int (c+7919*k+1)) (.int 48271)=.ok (.int ((c+7919*k+1)*48271)):=dO (.inr (by omega));generalize hd:(c+7919*k+1)*48271%2147483647=d;have hd0:0<=d:=by omega
  have hd1:d < 2147483647:=by omega
  have m3:cm (.int d) (.int d)=.ok (.int (d*d)):=dO (.inl (by omega));have m4:cm (.int 7) (.int d)=.ok (.int (7*d)):=dO (.inl (by omega));refine ⟨(d*d+7*d+k)%2147483629,?_,by omega,by omega⟩;rw [bQ];simp [hc,m1,m2,hd,m3,m4,List.replicate]
theorem i9 (n k:Int):∃ v,ay [.int n,.int k]=.ok (.int v)/\0<=v/\v < 2147483629:=by
  unfold ay fV;have m1:cm (.int 104729) (.int k)=.ok (.int (104729*k)):=dO (.inl (by omega));have m2:cm (.int (n+104729*k+17)) (.int 69621)=.ok (.int ((n+104729*k+17)*69621)):=dO (.inr (by omega));generalize hd:(n+104729*k+17)*69621%2147483647=d;have hd0:0<=d:=by omega
  have hd1:d < 2147483647:=by omega
  have m3:cm (.int d) (.int d)=.ok (.int (d*d)):=dO (.inl (by omega));have m4:cm (.int 3) (.int d)=.ok (.int (3*d)):=dO (.inl (by omega));refine ⟨(d*d+3*d+k)%2147483629,?_,by omega,by omega⟩;rw [bQ];simp [m1,m2,hd,m3,m4,List.replicate]
noncomputable def fS (ns:List Int) (i:Int):Bool:=ns.any fun j=>decide (j=i)
theorem dZ:∀ ns:List Int,PyData.depthAll (ns.map .int)=0
  | []=>by simp [PyData.depthAll]
  | n::ns=>by simp [PyData.depthAll,PyData.depth,dZ ns]
theorem gt (ns:List Int):PyData.canLayAll0 (ns.map .int)=true:=gY fun x hx=>by
  obtain ⟨i,_,rfl⟩:=List.mem_map.mp hx;exact eT i
theorem kw (ns:List Int) (i:Int):kU (ns.map .int) (.int i)=true:=by
  unfold kU;rw [gt,dZ];simp [PyData.canLay0]
theorem mr (ns:List Int) (i:Int):((ns.map PyData.int).any fun y=>PyData.eqv y (.int i))=fS ns i:=by
  rw [List.any_map];congr 1
theorem uM (ns:List Int) (i:Int) (neg:Bool):re neg (.int i) (.tuple (ns.map .int))=.ok (.bool (if neg then !fS ns i else fS ns i)):=by
  show (if kU (ns.map .int) (.int i)=true then R.ok (PyData.bool _) else .no)=_;rw [if_pos (kw ns i),mr]
theorem w9 (ns:List Int) (i:Int) (neg:Bool):re neg (.int i) (.list (ns.map .int))=.ok (.bool (if neg then !fS ns i else fS ns i)):=by
  show (if kU (ns.map .int) (.int i)=true then R.ok (PyData.bool _) else .no)=_;rw [if_pos (kw ns i),mr]
theorem jf:∀ ns ms:List Int,PyData.eqvAll (ns.map .int) (ms.map .int)=decide (ns=ms)
  | [],[]=>by simp [PyData.eqvAll]
  | [],_::_=>by simp [PyData.eqvAll]
  | _::_,[]=>by simp [PyData.eqvAll]
  | n::ns,m::ms=>by
    simp only [List.map_cons,PyData.eqvAll,jf ns ms,lq];by_cases h:n=m <;> by_cases h2:ns=ms <;> simp [h,h2]
theorem rK (ns ms:List Int):ig (.list (ns.map .int)) (.list (ms.map .int))=true:=by
  unfold ig;simp [PyData.canLay0,gt,PyData.depth,dZ]
theorem vn (ns ms:List Int):kF (.list (ns.map .int)) (.list (ms.map .int))=.ok (.bool (decide (ns=ms))):=by
  unfold kF;rw [if_pos (rK ns ms)];simp only [PyData.eqv,jf]
theorem rf (ns ms:List Int):ig (.tuple (ns.map .int)) (.tuple (ms.map .int))=true:=by
  unfold ig;simp [PyData.canLay0,gt,PyData.depth,dZ]
theorem v8 (ns ms:List Int):kB (.tuple (ns.map .int)) (.tuple (ms.map .int))=.ok (.bool (!decide (ns=ms))):=by
  unfold kB;rw [if_pos (rf ns ms)];simp only [PyData.eqv,jf]
theorem iJ {t:aD->R Bool} {ρ:aD} {p:Int->Bool}:∀ ns:List Int,(∀ x∈ns,t ((bX.non::ρ).set 0 (.val (.int x)))=.ok (p x))->bf (aM 0) t (ai 0) (.non::ρ) (ns.map .int)=.ok ((ns.filter p).map .int)
  | [],_=>dM ..
  | x::ns,h=>by
    rw [List.map_cons,dN,h x List.mem_cons_self,iJ ns fun y hy=>h y (List.mem_cons_of_mem _ hy)];cases hp:p x with
    | true=>rw [List.filter_cons_of_pos hp];rfl
    | false=>rw [List.filter_cons_of_neg (by rw [hp];simp)];rfl
theorem ji (c:Nat):bg 0 c=((List.range c).map fun (k:Nat)=>(k:Int)).map .int:=by
  unfold bg;rw [List.map_map];apply List.map_congr_left;intro k _;simp
theorem ki:∀ {l m:List Int},l.Nodup->(∀ x∈l,x∈m)->l.length<=m.length
  | [],m,_,_=>Nat.zero_le _
  | x::l,m,nd,h=>by
    obtain ⟨n1,n2⟩:=List.nodup_cons.mp nd;have hx:=h x List.mem_cons_self;have:=ki (m:=m.erase x) n2 fun y hy=>(List.mem_erase_of_ne (by rintro rfl;exact n1 hy)).mpr (h y (List.mem_cons_of_mem _ hy))
    rw [List.length_erase_of_mem hx] at this;have hp:=List.length_pos_of_mem hx;rw [List.length_cons];omega
structure qf (js:List Int) (kvs:List (Int×Int)):Prop where
  nd:(kvs.map (·.1)).Nodup
  sub:∀ x∈kvs.map (·.1),x∈js
theorem qf.len {js:List Int} {kvs:List (Int×Int)} (h:qf js kvs) (nj:js.Nodup):kvs.length<=js.length:=by
  have:=ki h.nd h.sub;simpa using this
noncomputable def look (kvs:List (Int×Int)) (i:Int):Option Int:=(kvs.find? fun q=>decide (q.1=i)).map (·.2)
noncomputable abbrev ids (n:Nat):List Int:=(List.range n).map fun (k:Nat)=>(k:Int)
theorem sJ {n:Nat} {i:Int}:i∈ids n<->0<=i/\i < n:=by
  constructor
  · intro h;obtain ⟨k,hk,rfl⟩:=List.mem_map.mp h;have:=List.mem_range.mp hk;omega
  · rintro ⟨h0,h1⟩;exact List.mem_map.mpr ⟨i.toNat,List.mem_range.mpr (by omega),by omega⟩
theorem sh (n:Nat):(ids n).length=n:=by simp
theorem rF {n k:Nat} (h:k < n):(ids n)[k]?=some (k:Int):=by
  rw [List.getElem?_map,List.getElem?_range h];rfl
theorem tI (n:Nat):(ids n).Pairwise (· < ·):=by
  rw [List.pairwise_map];exact (List.pairwise_lt_range).imp fun h=>by omega
theorem qo {l:List Int} (h:l.Pairwise (· < ·)):l.Nodup:=h.imp fun h=>by omega
noncomputable def tP (f:Int->PyData) (n:Nat):List PyData:=(ids n).map f
theorem je (f:Int->PyData) (ρ:aD) (g:Fe) (n:Nat) (h:∀ i:Int,0<=i->i < n->g (ρ.set 0 (.val (.int i)))=.ok (f i)):bf (aM 0) (fun _=>.ok true) g ρ (bg 0 n)=.ok (tP f n):=by
  have:=dI g ρ 0 (fun d=>match d with | .int i=>f i | d=>d) (bg 0 n) fun d hd=>by
    unfold bg at hd;obtain ⟨k,hk,rfl⟩:=List.mem_map.mp hd;have:=List.mem_range.mp hk;exact h _ (by omega) (by omega)
  rw [this];unfold tP;rw [ji,List.map_map];rfl
noncomputable def oD:Option Int->PyData
  | none=>.none
  | some k=>.int k
noncomputable def wg (s:PyData) (js:List Int):Prop:=s=.tuple (js.map .int)\/s=.list (js.map .int)
theorem wg.inn {s:PyData} {js:List Int} (h:wg s js) (neg:Bool) (k:Int):re neg (.int k) s=.ok (.bool (if neg then !fS js k else fS js k)):=by
  rcases h with rfl | rfl
  · exact uM ..
  · exact w9 ..
theorem wg.len {s:PyData} {js:List Int} (h:wg s js):cY s=.ok (.int js.length):=by
  rcases h with rfl | rfl <;> simp
structure gQ (n:Nat) (js:List Int):Prop where
  lt:js.Pairwise (· < ·)
  inn:∀ x∈js,0<=x/\x < n
theorem gQ.nd {n:Nat} {js:List Int} (h:gQ n js):js.Nodup:=qo h.lt
theorem gQ.len {n:Nat} {js:List Int} (h:gQ n js):js.length<=n:=by
  have:=gF js 0 n h.lt h.inn;rcases this with z | z
  · rw [z];simp
  · omega
theorem gQ.filter {n:Nat} {js:List Int} (h:gQ n js) (p:Int->Bool):gQ n (js.filter p):=⟨h.lt.filter _,fun x hx=>h.inn x (List.mem_filter.mp hx).1⟩
theorem gQ.ids (n:Nat):gQ n (ids n):=⟨tI n,fun x hx=>sJ.mp hx⟩
noncomputable abbrev oT (f:Int->Option Int) (n:Nat):PyData:=.tuple (tP (fun i=>oD (f i)) n)
theorem qD {d:PyData} (hg:bO d) (hd:d.depth<=60):kF d d=.ok (.bool true):=by
  unfold kF;rw [if_pos (by unfold ig;rw [hg];simp;exact hd),PySem.SeqAt.eqv_refl d hg]
theorem qg {d:PyData} (hg:bO d) (hd:d.depth<=60):kB d d=.ok (.bool false):=by
  unfold kB;rw [if_pos (by unfold ig;rw [hg];simp;exact hd),PySem.SeqAt.eqv_refl d hg];rfl
noncomputable def o5:List PyData->Prop:=fun ds=>∀ x∈ds,bO x/\x.depth=0
theorem o5.dep:∀ {ds:List PyData},o5 ds->PyData.depthAll ds=0
  | [],_=>by simp [PyData.depthAll]
  | d::ds,h=>by simp [PyData.depthAll,(h d List.mem_cons_self).2,o5.dep fun x hx=>h x (List.mem_cons_of_mem _ hx)]
theorem o5.good {ds:List PyData} (h:o5 ds):bO (.tuple ds):=aH.mpr fun x hx=>(h x hx).1
theorem se (o:Option Int):bO (oD o)/\(oD o).depth=0:=by
  cases o
  · exact ⟨kr,by simp [oD,PyData.depth]⟩
  · exact ⟨eT _,by simp [oD,PyData.depth]⟩
theorem kE (ns:List Int):o5 (ns.map .int):=fun x hx=>by
  obtain ⟨i,_,rfl⟩:=List.mem_map.mp hx;exact se (some i)
theorem i7 (ns:List Int):bO (.tuple (ns.map .int)):=(kE ns).good
theorem qe (ns:List Int):(PyData.tuple (ns.map .int)).depth=1:=by simp [PyData.depth,(kE ns).dep]
structure St where
  g:Int
  st:List Int
noncomputable def St.d (s:St):PyData:=.tuple [.int s.g,.tuple (s.st.map .int)]
noncomputable abbrev wD (ss:List St):PyData:=.tuple (ss.map St.d)
structure Wt (ss:List St):Prop where
  g0:∀ s∈ss,0<=s.g/\s.g<=1
  l:∀ s∈ss,s.st.length=13
  inn:∀ s∈ss,∀ x∈s.st,0<=x/\x < ss.length
  n0:1<=ss.length
  n1:ss.length<=6
noncomputable def fR (c:Int):PyData->Bool
  | .tuple ds=>decide (ds.length=13)&&ds.all fun d=>iI d 0 (c-1)
  | _=>false
noncomputable def bD (c:Int):PyData->Bool
  | .tuple [g,s]=>iI g 0 1&&fR c s
  | _=>false
noncomputable def fB:PyData->Bool
  | .tuple ds=>(decide (1<=ds.length)&&decide (ds.length<=6))&&ds.all (bD ds.length)
  | _=>false
noncomputable def dz (a b:Int):PyData->Bool
  | .tuple ds=>decide (a<=ds.length)&&decide ((ds.length:Int)<=b)
  | _=>false
theorem dw {d:PyData} (h:noD d) (a b:Int):am [d,.int a,.int b]=.ok (.bool (dz a b d)):=by
  unfold am ez;rw [bQ];cases d with
  | tuple ds =>
    by_cases h1:a<=ds.length <;> simp [bI,gp,h1,dz]
  | dict k=>cases h
  | _=>simp [bI,gp,dz]
theorem ls {d:PyData} (hg:bO d) (c:Int):bS [d,.int c]=.ok (.bool (fR c d)):=by
  unfold bS fM;rw [bQ];have ht:=dw hg.noD 13 13;cases d with
  | tuple ds =>
    have h:=aH.mp hg;have s13:13<=sizeLine:=by decide
    by_cases hl:ds.length=13
    · have hb:dz 13 13 (.tuple ds)=true:=by simp [dz];omega
      have hc:bf (aM 0) (fun _=>.ok true) (aA av (ag (ai 0) (ag (eC (.int 0)) (ag (e2 gS (ai 1) (eC (.int 1))) aq)))) (au 1 [1] [.val (.tuple ds),.val (.int c)]) ds=.ok (ds.map fun d=>.bool (iI d 0 (c-1))) :=
        dI _ _ _ _ _ fun d hd=>by simp [au,List.replicate,fA (h d hd).noD]
      simp [ht,hb,cz,s13,hc,j0,gT,fR,hl]
    · have hb:dz 13 13 (.tuple ds)=false:=by simp [dz];omega
      simp [ht,hb,fR,hl]
  | dict k=>exact hg.noD.elim
  | _=>simp [ht,dz,fR]
theorem l4 {d:PyData} (hg:bO d) (c:Int):bY [d,.int c]=.ok (.bool (bD c d)):=by
  unfold bY gI;rw [bQ];have ht:=dw hg.noD 2 2;cases d with
  | tuple ds =>
    match ds,hg,ht with
    | [g,s],hg,ht =>
      have h:=aH.mp hg;have i0:cQ (.tuple [g,s]) (.int 0)=.ok g:=rfl;have i1:cQ (.tuple [g,s]) (.int 1)=.ok s:=rfl;have hb:dz 2 2 (.tuple [g,s])=true:=rfl;simp [ht,hb,i0,i1,fA (h g (by simp)).noD,ls (h s (by simp)),bD];cases iI g 0 1 <;> simp
    | [],_,ht=>simp [ht,dz,bD]
    | [a],_,ht=>simp [ht,dz,bD]
    | a::b::e::r,_,ht =>
      have hb:dz 2 2 (.tuple (a::b::e::r))=false:=by simp [dz];omega
      simp [ht,hb,bD]
  | dict k=>exact hg.noD.elim
  | _=>simp [ht,dz,bD]
theorem jS {d:PyData} (hg:bO d):bq [d]=.ok (.bool (fB d)):=by
  unfold bq e9;rw [bQ];have ht:=dw hg.noD 1 6;cases d with
  | tuple ds =>
    have h:=aH.mp hg;by_cases hl:1<=ds.length/\ds.length<=6
    · have hb:dz 1 6 (.tuple ds)=true:=by simp [dz];omega
      have hc:bf (aM 0) (fun _=>.ok true) (aA bY (ag (ai 0) (ag (e1 cY (ai 1)) aq))) (au 1 [0] [.val (.tuple ds)]) ds=.ok (ds.map fun d=>.bool (bD ds.length d)) :=
        dI _ _ _ _ _ fun d hd=>by simp [au,List.replicate,l4 (h d hd)]
      simp [ht,hb,cz,cH (show ds.length<=1000 by omega),hc,j0,gT,fB,hl.1,hl.2]
    · have hb:dz 1 6 (.tuple ds)=false:=by
        simp [dz];omega
      have hw:fB (.tuple ds)=false:=by
        show ((decide (1<=ds.length)&&decide (ds.length<=6))&&_)=false;by_cases h1:1<=ds.length
        · rw [decide_eq_false (show ¬ ds.length<=6 by omega)];simp
        · rw [decide_eq_false h1];simp
      simp [ht,hb,hw]
  | dict k=>exact hg.noD.elim
  | _=>simp [ht,dz,fB]
theorem nV {i lo hi:Int} (h0:lo<=i) (h1:i<=hi):iI (.int i) lo hi=true:=by simp [iI,h0,h1]
theorem Wt.wat {ss:List St} (W:Wt ss):fB (wD ss)=true:=by
  show ((decide (1<=(ss.map St.d).length)&&decide ((ss.map St.d).length<=6))&&(ss.map St.d).all (bD (ss.map St.d).length))=true;rw [List.length_map,decide_eq_true W.n0,decide_eq_true W.n1,Bool.true_and,Bool.true_and,List.all_map,List.all_eq_true];intro s hs;have hb:=W.g0 s hs;show (iI (.int s.g) 0 1&&(decide ((s.st.map PyData.int).length=13)&&(s.st.map PyData.int).all fun d=>iI d 0 ((ss.length:Int)-1)))=true;rw [nV hb.1 hb.2,List.length_map,decide_eq_true (W.l s hs),Bool.true_and,Bool.true_and,List.all_map,List.all_eq_true];intro x hx;have:=W.inn s hs x hx;exact nV this.1 (by omega)
theorem St.nice {s:St} (h:0<=s.g/\s.g<=1) (hl:s.st.length=13) (hi:∀ x∈s.st,0<=x/\x < 6):jR s.d:=by
  refine .tuple _ (by simp) fun x hx=>?_
  simp at hx;rcases hx with rfl | rfl
  · exact .int _ (by omega) (by omega)
  · refine .tuple _ (by simp;omega) fun x hx=>?_
    obtain ⟨i,hm,rfl⟩:=List.mem_map.mp hx;have:=hi i hm;exact .int _ (by omega) (by omega)
theorem Wt.nice {ss:List St} (W:Wt ss):jR (wD ss):=by
  have:=W.n1;refine .tuple _ (by simp;omega) fun x hx=>?_
  obtain ⟨s,hs,rfl⟩:=List.mem_map.mp hx;exact St.nice (W.g0 s hs) (W.l s hs) fun x hx=>by have:=W.inn s hs x hx;omega
theorem Wt.good {ss:List St} (W:Wt ss):bO (wD ss):=W.nice.good
theorem mD (s:St):cQ s.d (.int 1)=.ok (.tuple (s.st.map .int)):=rfl
theorem uc (s:St):cQ s.d (.int 0)=.ok (.int s.g):=rfl
noncomputable def cE (ss:List St) (i m:Int):Int:=((ss[i.toNat]?.map (·.st)).getD []).getD m.toNat 0
theorem vT {ss:List St} {i:Int} (h0:0<=i) (h1:i < ss.length):cQ (wD ss) (.int i)=.ok (ss[i.toNat]'(by omega)).d:=by
  rw [nQ h0 (by simpa using h1)];simp
theorem lN {ss:List St} {i m:Int} (h0:0<=i) (h1:i < ss.length):cE ss i m=(ss[i.toNat]'(by omega)).st.getD m.toNat 0:=by
  unfold cE;rw [List.getElem?_eq_getElem (by omega)];rfl
theorem sO {xs:List Int} {m:Int} (h0:0<=m) (h1:m < xs.length):cQ (.tuple (xs.map .int)) (.int m)=.ok (.int (xs.getD m.toNat 0)):=by
  rw [nQ h0 (by simpa using h1)];simp [List.getD,List.getElem?_eq_getElem (show m.toNat < xs.length by omega)]
theorem Wt.ix {ss:List St} (W:Wt ss) {i m:Int} (h0:0<=i) (h1:i < ss.length) (m0:0<=m) (m1:m < 13) :
    ∃ s:St,cQ (wD ss) (.int i)=.ok s.d/\cQ (.tuple (s.st.map .int)) (.int m)=.ok (.int (cE ss i m)):=by
  have hl:=W.l _ (List.getElem_mem (show i.toNat < ss.length by omega));exact ⟨_,vT h0 h1,by rw [sO m0 (by omega),lN h0 h1]⟩
theorem Wt.step {ss:List St} (W:Wt ss) {i m:Int} (h0:0<=i) (h1:i < ss.length) (m0:0<=m) (m1:m < 13):0<=cE ss i m/\cE ss i m < ss.length:=by
  have hm:=List.getElem_mem (show i.toNat < ss.length by omega);have hl:=W.l _ hm;rw [lN h0 h1];refine W.inn _ hm _ ?_;rw [List.getD,List.getElem?_eq_getElem (show m.toNat < (ss[i.toNat]'(by omega)).st.length by omega)];exact List.getElem_mem _
noncomputable def ci (g:List Int) (k:Int):List Int:=(ids 13).map fun m=>if fS g m then k+1 else k
theorem l3 (g:List Int) (k:Int):ca [.tuple (g.map .int),.int k]=.ok (.tuple ((ci g k).map .int)):=by
  unfold ca gB;rw [bQ];have hr:kf [.int 13]=.ok (bg 0 13):=rfl;have hc:=je (fun m=>.int (if fS g m then k+1 else k)) (au 1 [0,1] [.val (.tuple (g.map .int)),.val (.int k)]) (wq (tE (e2 (re false) (ai 0) (ai 1))) (e2 bN (ai 2) (eC (.int 1))) (ai 2)) 13 fun i _ _=>by
    cases hm:fS g i <;> simp [au,List.replicate,uM,hm]
  have s13:(13:Nat)<=sizeLine:=by decide
  have e:tP (fun m=>PyData.int (if fS g m then k+1 else k)) 13=(ci g k).map .int:=by
    unfold tP ci;rw [List.map_map];rfl
  rw [e] at hc;simp [cz,hr,cC,s13,hc]
noncomputable abbrev ib (gs:List (List Int)):PyData:=.tuple (gs.map fun g=>.tuple (g.map .int))
structure Gs (gs:List (List Int)):Prop where
  n0:1<=gs.length
  n1:gs.length<=5
  ok:∀ g∈gs,gQ 13 g
noncomputable def fx:Nat->List (List Int)->List St
  | _,[]=>[]
  | k,g::gs=>⟨0,ci g k⟩::fx (k+1) gs
noncomputable def jG (gs:List (List Int)):List St:=fx 0 gs++[⟨1,ci (gs.headD []) 0⟩]
theorem eQ:∀ (k:Nat) (gs:List (List Int)),(fx k gs).length=gs.length
  | _,[]=>rfl
  | k,g::gs=>by simp [fx,eQ (k+1) gs]
theorem hV (gs:List (List Int)):(jG gs).length=gs.length+1:=by simp [jG,eQ]
theorem nF (g:List Int) (k:Int):(ci g k).length=13:=by simp [ci]
theorem mL {g:List Int} {k x:Int} (h:x∈ci g k):x=k\/x=k+1:=by
  obtain ⟨m,_,rfl⟩:=List.mem_map.mp h;split
  · exact .inr rfl
  · exact .inl rfl
theorem lS:∀ (k:Nat) (gs:List (List Int)) (s:St),s∈fx k gs->s.g=0/\∃ j g,k<=j/\j < k+gs.length/\s.st=ci g (j:Nat)
  | k,[],s,h=>by cases h
  | k,g::gs,s,h=>by
    rcases List.mem_cons.mp h with rfl | h
    · exact ⟨rfl,k,g,Nat.le_refl _,by simp,rfl⟩
    · obtain ⟨h1,j,g',h2,h3,h4⟩:=lS (k+1) gs s h;exact ⟨h1,j,g',by omega,by rw [List.length_cons];omega,h4⟩
theorem uJ {gs:List (List Int)} (h:Gs gs):Wt (jG gs):=by
  have h0:=h.n0;have h1:=h.n1;have hm:∀ s∈jG gs,(s.g=0\/s.g=1)/\∃ (j:Nat) (g:List Int),j < gs.length/\s.st=ci g j:=fun s hs=>by
    rcases List.mem_append.mp hs with z | z
    · obtain ⟨a,j,g,b,c,d⟩:=lS 0 gs s z;exact ⟨.inl a,j,g,by omega,d⟩
    · simp at z;subst z;exact ⟨.inr rfl,0,gs.headD [],by omega,by simp⟩
  refine ⟨fun s hs=>?_,fun s hs=>?_,fun s hs x hx=>?_,by rw [hV];omega,by rw [hV];omega⟩
  · rcases (hm s hs).1 with z | z <;> omega
  · obtain ⟨_,j,g,_,e⟩:=hm s hs;rw [e,nF]
  · obtain ⟨_,j,g,hj,e⟩:=hm s hs;rw [e] at hx;rw [hV];rcases mL hx with z | z <;> omega
theorem nO:∀ (gs:List (List Int)) (k:Nat),bf (g8 0 1) (fun _=>.ok true) (cN (ag (eC (.int 0)) (ag (aA ca (ag (ai 1) (ag (ai 0) aq))) aq))) [.non,.non] (dt k (gs.map fun g=>PyData.tuple (g.map .int)))=.ok ((fx k gs).map St.d)
  | [],k=>by simp [dt,dM,fx]
  | g::gs,k=>by
    have e:dt k ((g::gs).map fun g=>PyData.tuple (g.map .int))=.tuple [.int k,.tuple (g.map .int)]::dt (k+1) (gs.map fun g=>PyData.tuple (g.map .int)):=rfl;have s2:2<=sizeLine:=by decide
    rw [e,mG,nO gs (k+1)];simp [l3,s2,fx,St.d]
theorem eR (xs:List PyData):∀ k,(dt k xs).length=xs.length:=by
  induction xs with
  | nil=>intro k;rfl
  | cons x xs ih=>intro k;show (_::dt (k+1) xs).length=_;simp [ih]
theorem oI {n:Nat} {js:List Int} (h:gQ n js):jp n (.tuple (js.map .int))=true:=oo n js 0 h.lt h.inn
theorem j9 {gs:List (List Int)} (h:Gs gs):aB [ib gs]=.ok (wD (jG gs)):=by
  have h0:=h.n0;have h1:=h.n1;have ht:=dw (d:=ib gs) trivial 1 5;have hb:dz 1 5 (ib gs)=true:=by simp [dz];omega
  have hc:bf (aM 0) (fun _=>.ok true) (aA bF (ag (ai 0) (ag (eC (.int 13)) aq))) [.non] (gs.map fun g=>PyData.tuple (g.map .int))=.ok ((gs.map fun g=>PyData.tuple (g.map .int)).map fun d=>.bool (jp 13 d)) :=
    dI _ _ _ _ _ fun d hd=>by
      obtain ⟨g,hg,rfl⟩:=List.mem_map.mp hd;have hs:=iK 13 (d:=.tuple (g.map .int)) (fun ds e x hx=>((aH.mp (e ▸ i7 g)) x hx).noD) (i7 g).noD;simp [hs]
  have ha:D2.kK ((gs.map fun g=>PyData.tuple (g.map .int)).map fun d=>.bool (jp 13 d))=some true:=by
    rw [gT];congr 1;rw [List.all_map,List.all_eq_true];intro g hg;exact oI (n:=13) (h.ok g hg)
  have hsz:(gs.map fun g=>PyData.tuple (g.map .int)).length<=sizeLine:=cH (by simp;omega);have hsz2:(dt 0 (gs.map fun g=>PyData.tuple (g.map .int))).length<=sizeLine:=by rw [eR];exact hsz
  have hm:=nO gs 0;have s1:1<=sizeLine:=by decide
  have s2:2<=sizeLine:=by decide
  unfold aB dH;refine iM ?_;rw [show ([ib gs].map bX.val++List.replicate (2 - [ib gs].length) bX.non)=[.val (ib gs),.non] from rfl];rw [aL (ρ':=[.val (ib gs),.non]) (by
    simp only [gv,gh,eO,h9,cA,bn,bJ,bo,dC,dD,kW,R.ok_bind,show (6-1:Int)=5 from rfl,ht,hb,gn,fT,cz,dY,eY,dR,if_pos hsz,au,List.replicate,List.map_nil,List.append_nil,hc,h7,j0,ha];rfl)]
  rw [aL (ρ':=[.val (ib gs),.val (.list ((fx 0 gs).map St.d))]) (by
    simp only [cR,cz,qX,bo,R.ok_bind,eY,dR,if_pos hsz2,au,List.replicate,List.map_nil,List.append_nil,hm,h7];rfl)]
  cases gs with
  | nil=>simp at h0
  | cons g gs =>
    have hl:(fx 0 (g::gs)).length=gs.length+1:=by rw [eQ];rfl
    have hsum:((fx 0 (g::gs)).map St.d).length+1<=sizeLine:=cH (by rw [List.length_map,hl];simp at h1;omega);have i0:cQ (.list ((fx 0 (g::gs)).map St.d)) (.int 0)=.ok (St.d ⟨0,ci g (0:Nat)⟩):=by
      rw [qx (by omega) (by rw [List.length_map,hl];omega)];rfl
    simp only [nM,dD,fT,bo,cc,R.ok_bind,l7,si,bn,bJ,dC,i0,mD,List.length_cons,List.length_nil,Nat.zero_add,if_pos s1,if_pos s2,uE,if_pos hsum];have e:wD (jG (g::gs))=.tuple ((fx 0 (g::gs)).map St.d++[St.d ⟨1,ci g 0⟩]):=by
      show PyData.tuple ((fx 0 (g::gs)++[_]).map St.d)=_;rw [List.map_append];rfl
    rw [e];rfl
theorem mq:∀ (gs:List (List Int)) (k j:Nat),j < gs.length->(fx k gs)[j]?=some ⟨0,ci (gs.getD j []) ((k+j:Nat):Int)⟩
  | [],_,_,h=>by simp at h
  | g::gs,k,0,_=>by simp [fx]
  | g::gs,k,j+1,h=>by
    simp only [fx,List.getElem?_cons_succ];rw [mq gs (k+1) j (by simpa using h)];simp only [List.getD_cons_succ];rw [show k+1+j=k+(j+1) by omega]
theorem jB {g:List Int} {k m:Int} (h0:0<=m) (h1:m < 13):(ci g k).getD m.toNat 0=if fS g m then k+1 else k:=by
  have h:=rF (n:=13) (k:=m.toNat) (by omega);unfold ci;rw [List.getD,List.getElem?_map,h,Option.map_some,Option.getD_some];rw [show ((m.toNat:Nat):Int)=m by omega]
theorem pW {gs:List (List Int)} {i m:Int} (h0:0<=i) (h1:i<=gs.length) (hn:1<=gs.length) (m0:0<=m) (m1:m < 13):cE (jG gs) i m=if fS (gs.getD (i%gs.length).toNat []) m then i%gs.length+1 else i%gs.length:=by
  unfold cE;by_cases h:i < gs.length
  · have e:(jG gs)[i.toNat]?=some ⟨0,ci (gs.getD i.toNat []) ((0+i.toNat:Nat):Int)⟩:=by
      unfold jG;rw [List.getElem?_append_left (by rw [eQ];omega),mq gs 0 i.toNat (by omega)]
    rw [e,Int.emod_eq_of_lt h0 h];show (ci (gs.getD i.toNat []) _).getD m.toNat 0=_;rw [jB m0 m1];rw [show ((0+i.toNat:Nat):Int)=i by omega]
  · have hi:i=gs.length:=by omega
    have e:(jG gs)[i.toNat]?=some ⟨1,ci (gs.headD []) 0⟩:=by
      unfold jG;rw [List.getElem?_append_right (by rw [eQ];omega),eQ,show i.toNat-gs.length=0 by omega];rfl
    have h00:i%gs.length=0:=by rw [hi];exact Int.emod_self
    rw [e,h00];show (ci (gs.headD []) 0).getD m.toNat 0=_;rw [jB m0 m1];cases gs with
    | nil=>simp at hn
    | cons g gs=>simp
noncomputable def c7 (ss:List St):Int->List Int->List Int
  | _,[]=>[]
  | i,m::ms=>cE ss i m::c7 ss (cE ss i m) ms
noncomputable def kP:Fs:=(aS (cf 3 (e2 cQ (e2 cQ (e2 cQ (ai 0) (ai 3)) (eC (.int 1))) (ai 4))) (cu 2 (ai 3)))
theorem nS {ss:List St} (W:Wt ss) (x:PyData):∀ (ms:List Int) (i:Int) (acc:List PyData) (c:bX),0<=i->i < ss.length->(∀ m∈ms,0<=m/\m < 13)->acc.length+ms.length<=1000 ->
    ∃ y z,eF (aM 4) kP (ms.map .int) [.val (wD ss),.val x,.own (.list acc),.val (.int i),c]=.ok (.nx [.val (wD ss),.val x,.own (.list (acc++(c7 ss i ms).map .int)),y,z])
  | [],i,acc,c,_,_,_,_=>⟨_,_,by simp [c7];exact ⟨rfl,rfl⟩⟩
  | m::ms,i,acc,c,h0,h1,hm,hl=>by
    have hb:=hm m List.mem_cons_self;obtain ⟨q,hx1,hx2⟩:=W.ix h0 h1 hb.1 hb.2;have hs:=W.step h0 h1 hb.1 hb.2;rw [List.length_cons] at hl;have hz:acc.length < sizeLine:=Nat.lt_of_lt_of_le (show acc.length < 1001 by omega) (by decide);obtain ⟨y,z,e⟩:=nS W x ms (cE ss i m) (acc++[.int (cE ss i m)]) (.val (.int m)) hs.1 hs.2 (fun k hk=>hm k (List.mem_cons_of_mem _ hk)) (by simp;omega);refine ⟨y,z,?_⟩;rw [List.map_cons,cV,c7,List.map_cons];rw [List.append_assoc] at e;rw [show acc++PyData.int (cE ss i m)::(c7 ss (cE ss i m) ms).map .int=acc++([.int (cE ss i m)]++(c7 ss (cE ss i m) ms).map .int) from rfl,<- e];have hset:cf 3 (e2 cQ (e2 cQ (e2 cQ (ai 0) (ai 3)) (eC (.int 1))) (ai 4)) [.val (wD ss),.val x,.own (.list acc),.val (.int i),.val (.int m)]=.ok (.nx [.val (wD ss),.val x,.own (.list acc),.val (.int (cE ss i m)),.val (.int m)]):=by
      simp only [cR,dD,bo,cc,dC,R.ok_bind,hx1,mD,hx2];rfl
    show (kP [.val (wD ss),.val x,.own (.list acc),.val (.int i),.val (.int m)]>>=_)=_;unfold kP;rw [aL hset,eM (ds:=acc) _ rfl hz];rfl
theorem gZ {ss:List St} (W:Wt ss) {ms:List Int} (hm:∀ m∈ms,0<=m/\m < 13) (hl:ms.length<=100):bx [wD ss,.tuple (ms.map .int)]=.ok (.tuple ((c7 ss 0 ms).map .int)):=by
  have h0:=W.n0;obtain ⟨y,z,e⟩:=nS W (.tuple (ms.map .int)) ms 0 [] .non (by omega) (by omega) hm (by simp;omega);have s0:0<=sizeLine:=by decide
  unfold bx fZ;refine iM ?_;rw [show ([wD ss,PyData.tuple (ms.map .int)].map bX.val++List.replicate (5 - [wD ss,PyData.tuple (ms.map .int)].length) bX.non)=[.val (wD ss),.val (.tuple (ms.map .int)),.non,.non,.non] from rfl];rw [aL (ρ':=[.val (wD ss),.val (.tuple (ms.map .int)),.own (.list []),.non,.non]) (by rfl)];rw [aL (ρ':=[.val (wD ss),.val (.tuple (ms.map .int)),.own (.list []),.val (.int 0),.non]) (by rfl)];rw [aL (ρ':=[.val (wD ss),.val (.tuple (ms.map .int)),.own (.list ([]++(c7 ss 0 ms).map .int)),y,z]) (by
    rw [gg,eX,dY,cc,bo,R.ok_bind,eY,R.ok_bind];unfold kP at e;rw [e];rfl)]
  simp
noncomputable def ek (gs:List (List Int)):Int->List Int->List Int
  | _,[]=>[]
  | a,m::ms=>(if fS (gs.getD (a%gs.length).toNat []) m then a%gs.length+1 else a%gs.length)::ek gs (if fS (gs.getD (a%gs.length).toNat []) m then a%gs.length+1 else a%gs.length) ms
theorem jM {gs:List (List Int)} (hn:1<=gs.length):∀ (ms:List Int) (i:Int),0<=i->i<=gs.length->(∀ m∈ms,0<=m/\m < 13)->c7 (jG gs) i ms=ek gs i ms
  | [],_,_,_,_=>rfl
  | m::ms,i,h0,h1,hm=>by
    have hb:=hm m List.mem_cons_self;have e:=pW h0 h1 hn hb.1 hb.2;have a0:=Int.emod_nonneg i (show (gs.length:Int)≠0 by omega);have a1:=Int.emod_lt_of_pos i (show (0:Int) < gs.length by omega);rw [c7,ek,e];rw [jM hn ms _ (by split <;> omega) (by split <;> omega) fun k hk=>hm k (List.mem_cons_of_mem _ hk)]
noncomputable def k9:Fs:=(aS (cf 3 (e2 cj (ai 3) (e1 cY (ai 0)))) (aS (iV (tE (e2 (re false) (ai 4) (e2 cQ (ai 0) (ai 3)))) (cf 3 (e2 bN (ai 3) (eC (.int 1)))) cq) (cu 2 (ai 3))))
theorem tw {gs:List (List Int)} {i:Int} (h0:0<=i) (h1:i < gs.length):cQ (ib gs) (.int i)=.ok (.tuple ((gs.getD i.toNat []).map .int)):=by
  rw [nQ h0 (by simpa using h1)];simp [List.getD,List.getElem?_eq_getElem (show i.toNat < gs.length by omega)]
theorem oj {gs:List (List Int)} (hn:1<=gs.length) (x:PyData):∀ (ms:List Int) (i:Int) (acc:List PyData) (c:bX),acc.length+ms.length<=1000 ->
    ∃ y z,eF (aM 4) k9 (ms.map .int) [.val (ib gs),.val x,.own (.list acc),.val (.int i),c]=.ok (.nx [.val (ib gs),.val x,.own (.list (acc++(ek gs i ms).map .int)),y,z])
  | [],i,acc,c,_=>⟨_,_,by simp [ek];exact ⟨rfl,rfl⟩⟩
  | m::ms,i,acc,c,hl=>by
    have hp:(0:Int) < gs.length:=by omega
    have a0:=Int.emod_nonneg i (show (gs.length:Int)≠0 by omega);have a1:=Int.emod_lt_of_pos i hp;rw [List.length_cons] at hl;have hz:acc.length < sizeLine:=Nat.lt_of_lt_of_le (show acc.length < 1001 by omega) (by decide);generalize hk:(if fS (gs.getD (i%gs.length).toNat []) m then i%gs.length+1 else i%gs.length)=k;obtain ⟨y,z,e⟩:=oj hn x ms k (acc++[.int k]) (.val (.int m)) (by simp;omega);refine ⟨y,z,?_⟩;rw [List.map_cons,cV,ek,hk,List.map_cons];rw [List.append_assoc] at e;rw [show acc++PyData.int k::(ek gs k ms).map .int=acc++([.int k]++(ek gs k ms).map .int) from rfl,<- e];show (k9 [.val (ib gs),.val x,.own (.list acc),.val (.int i),.val (.int m)]>>=_)=_;unfold k9;rw [aL (ρ':=[.val (ib gs),.val x,.own (.list acc),.val (.int (i%gs.length)),.val (.int m)]) (by
      simp only [cR,dD,fT,bo,cc,R.ok_bind,mZ,List.length_map,qG,if_pos hp];rfl)]
    rw [aL (ρ':=[.val (ib gs),.val x,.own (.list acc),.val (.int k),.val (.int m)]) (by
      simp only [gv,h9,dD,bo,cc,R.ok_bind,tw a0 a1,uM,gn,cR,dC,mC];rw [<- hk];cases fS (gs.getD (i%gs.length).toNat []) m <;> rfl)]
    rw [eM (ds:=acc) _ rfl hz];rfl
theorem o1 {gs:List (List Int)} (hn:1<=gs.length) {ms:List Int} (hl:ms.length<=100):bt [ib gs,.tuple (ms.map .int)]=.ok (.tuple ((ek gs 0 ms).map .int)):=by
  obtain ⟨y,z,e⟩:=oj hn (.tuple (ms.map .int)) ms 0 [] .non (by simp;omega);unfold bt fw;refine iM ?_;rw [show ([ib gs,PyData.tuple (ms.map .int)].map bX.val++List.replicate (5 - [ib gs,PyData.tuple (ms.map .int)].length) bX.non)=[.val (ib gs),.val (.tuple (ms.map .int)),.non,.non,.non] from rfl];rw [aL (ρ':=[.val (ib gs),.val (.tuple (ms.map .int)),.own (.list []),.non,.non]) (by rfl)];rw [aL (ρ':=[.val (ib gs),.val (.tuple (ms.map .int)),.own (.list []),.val (.int 0),.non]) (by rfl)];rw [aL (ρ':=[.val (ib gs),.val (.tuple (ms.map .int)),.own (.list ([]++(ek gs 0 ms).map .int)),y,z]) (by
    rw [gg,eX,dY,cc,bo,R.ok_bind,eY,R.ok_bind];unfold k9 at e;rw [e];rfl)]
  simp
theorem n8 {P:Int->Prop}:∀ xs:List PyData,(∀ x∈xs,∃ i,x=.int i/\P i)->∃ is:List Int,xs=is.map .int/\∀ i∈is,P i
  | [],_=>⟨[],rfl,by simp⟩
  | x::xs,h=>by
    obtain ⟨i,rfl,hi⟩:=h x List.mem_cons_self;obtain ⟨is,rfl,his⟩:=n8 xs fun y hy=>h y (List.mem_cons_of_mem _ hy)
    exact ⟨i::is,rfl,fun j hj=>(List.mem_cons.mp hj).elim (fun z=>z ▸ hi) fun z=>his j z⟩
theorem mo (n:Int):∃ dr:Int->Int,∀ k,ay [.int n,.int k]=.ok (.int (dr k))/\0<=dr k :=
  ⟨fun k=>(i9 n k).choose,fun k=>⟨(i9 n k).choose_spec.1,(i9 n k).choose_spec.2.1⟩⟩
noncomputable def lr:Fs:=(aS (cf 4 (ce (dc (ag (eC (.int 13)) aq)) 1 [0,3,1] (aM 0) (fun _=>.ok true) (e2 cj (aA ay (ag (ai 1) (ag (e2 bN (e2 cm (eC (.int 20)) (ai 2)) (ai 0)) aq))) (ai 3)))) (cu 2 (cN (ag (e2 cj (e2 cj (aA ay (ag (ai 0) (ag (e2 bN (eC (.int 99)) (ai 3)) aq))) (eC (.int 3))) (eC (.int 2))) (ag (e1 cB (ai 4)) aq)))))
structure vY (c:Int) (s:St):Prop where
  g0:0<=s.g/\s.g<=1
  l:s.st.length=13
  inn:∀ x∈s.st,0<=x/\x < c
theorem ov (v c:Int) (hc:1<=c):∀ (ds:List PyData) (acc:List St) (x y:bX),(∀ d∈ds,∃ k,d=.int k)->acc.length+ds.length<=1000 ->
    ∃ ss x' y',(∀ s∈ss,vY c s)/\ss.length=ds.length/\eF (aM 3) lr ds [.val (.int v),.val (.int c),.own (.list (acc.map St.d)),x,y]=.ok (.nx [.val (.int v),.val (.int c),.own (.list ((acc++ss).map St.d)),x',y'])
  | [],acc,x,y,_,_=>⟨[],x,y,by simp,rfl,by simp⟩
  | d::ds,acc,x,y,hi,hl=>by
    obtain ⟨k,rfl⟩:=hi d List.mem_cons_self;obtain ⟨dr,hdr⟩:=mo v;have hc':0 < c:=by omega
    have m1:cm (.int 20) (.int k)=.ok (.int (20*k)):=dO (.inl (by omega));have hr:kf [.int 13]=.ok (bg 0 13):=rfl;have hcm:=je (fun m=>.int (dr (20*k+m)%c)) (au 1 [0,3,1] [.val (.int v),.val (.int c),.own (.list (acc.map St.d)),.val (.int k),y]) (e2 cj (aA ay (ag (ai 1) (ag (e2 bN (e2 cm (eC (.int 20)) (ai 2)) (ai 0)) aq))) (ai 3)) 13 fun i _ _=>by
      simp [au,List.replicate,m1,(hdr _).1,hc']
    have e0:tP (fun m=>PyData.int (dr (20*k+m)%c)) 13=((ids 13).map fun m=>dr (20*k+m)%c).map .int:=by
      unfold tP;rw [List.map_map];rfl
    rw [e0] at hcm;have s13:(13:Nat)<=sizeLine:=by decide
    have s2:(2:Nat)<=sizeLine:=by decide
    rw [List.length_cons] at hl;have hz:(acc.map St.d).length < sizeLine:=Nat.lt_of_lt_of_le (show (acc.map St.d).length < 1001 by rw [List.length_map];omega) (by decide);generalize hst:(⟨dr (99+k)%3%2,(ids 13).map fun m=>dr (20*k+m)%c⟩:St)=s;have hs:vY c s:=by
      subst hst;refine ⟨⟨by show 0<=dr (99+k)%3%2;omega,by show dr (99+k)%3%2<=1;omega⟩,by simp,fun x hx=>?_⟩;obtain ⟨m,_,rfl⟩:=List.mem_map.mp hx;exact ⟨Int.emod_nonneg _ (by omega),Int.emod_lt_of_pos _ hc'⟩
    obtain ⟨ss,x',y',h1,h2,h3⟩:=ov v c hc ds (acc++[s]) (.val (.int k)) (.val (.list (s.st.map .int))) (fun d hd=>hi d (List.mem_cons_of_mem _ hd)) (by simp;omega);refine ⟨s::ss,x',y',fun t ht=>?_,by simp [h2],?_⟩
    · rcases List.mem_cons.mp ht with rfl | z
      · exact hs
      · exact h1 t z
    · rw [cV];rw [List.append_assoc] at h3;rw [show acc++s::ss=acc++([s]++ss) from rfl,<- h3];show (lr [.val (.int v),.val (.int c),.own (.list (acc.map St.d)),.val (.int k),y]>>=_)=_;unfold lr;rw [aL (ρ':=[.val (.int v),.val (.int c),.own (.list (acc.map St.d)),.val (.int k),.val (.list (s.st.map .int))]) (by
        rw [cR,cz,eL];simp only [bn,bJ,dC,R.ok_bind,hr,dR,cC,if_pos s13,hcm,h7];rw [<- hst];rfl)]
      rw [eM (ds:=acc.map St.d) _ rfl hz];have e2':cN (ag (e2 cj (e2 cj (aA ay (ag (ai 0) (ag (e2 bN (eC (.int 99)) (ai 3)) aq))) (eC (.int 3))) (eC (.int 2))) (ag (e1 cB (ai 4)) aq)) [.val (.int v),.val (.int c),.own (.list (acc.map St.d)),.val (.int k),.val (.list (s.st.map .int))]=.ok s.d:=by
        simp [(hdr _).1,s2];rw [<- hst];rfl
      rw [e2',dR,R.ok_bind,List.map_append];rfl
theorem mh {v:Int} (hv:0<=v):∃ ss,aZ [.int v]=.ok (wD ss)/\Wt ss:=by
  have hc0:1<=1+v%6:=by omega
  have hc1:1+v%6<=6:=by omega
  obtain ⟨ss,x,y,h1,h2,h3⟩:=ov v (1+v%6) hc0 (bg 0 (1+v%6).toNat) [] .non .non (iz _ _) (by rw [cC];simp;omega);rw [cC] at h2;have hr:kf [.int (1+v%6)]=.ok (bg 0 (1+v%6).toNat):=by
    show (if -(2 ^ 62)<=(1+v%6)/\(1+v%6) < 2 ^ 62 then R.ok (bg 0 (1+v%6).toNat) else .no)=_;rw [if_pos (by omega)]
  refine ⟨ss,?_,⟨fun s hs=>(h1 s hs).g0,fun s hs=>(h1 s hs).l,fun s hs x hx=>?_,by omega,by omega⟩⟩
  · unfold aZ eu;refine iM ?_;rw [show ([PyData.int v].map bX.val++List.replicate (5 - [PyData.int v].length) bX.non)=[.val (.int v),.non,.non,.non,.non] from rfl];rw [aL (ρ':=[.val (.int v),.val (.int (1+v%6)),.non,.non,.non]) (by simp)];rw [aL (ρ':=[.val (.int v),.val (.int (1+v%6)),.own (.list []),.non,.non]) (by rfl)];rw [aL (ρ':=[.val (.int v),.val (.int (1+v%6)),.own (.list (([]++ss).map St.d)),x,y]) (by
      rw [gg,eX,eL];simp only [bn,bJ,bo,cc,R.ok_bind,hr];unfold lr at h3;rw [List.map_nil] at h3;rw [h3];rfl)]
    simp
  · have:=(h1 s hs).inn x hx;omega
noncomputable def lj:Fs:=(cu 1 (e1 cB (ce (dc (ag (eC (.int 13)) aq)) 1 [0,2] (aM 0) (tE (e2 (kF) (e2 cj (aA ay (ag (ai 1) (ag (e2 bN (e2 cm (eC (.int 13)) (ai 2)) (ai 0)) aq))) (eC (.int 3))) (eC (.int 0)))) (ai 0))))
theorem oh (v:Int):∀ (ds:List PyData) (acc:List (List Int)) (x:bX),(∀ d∈ds,∃ k,d=.int k)->acc.length+ds.length<=1000 ->
    ∃ gs x',(∀ g∈gs,gQ 13 g)/\gs.length=ds.length/\eF (aM 2) lj ds [.val (.int v),.own (.list (acc.map fun g=>PyData.tuple (g.map .int))),x]=.ok (.nx [.val (.int v),.own (.list ((acc++gs).map fun g=>PyData.tuple (g.map .int))),x'])
  | [],acc,x,_,_=>⟨[],x,by simp,rfl,by simp⟩
  | d::ds,acc,x,hi,hl=>by
    obtain ⟨k,rfl⟩:=hi d List.mem_cons_self;obtain ⟨dr,hdr⟩:=mo v;have m1:cm (.int 13) (.int k)=.ok (.int (13*k)):=dO (.inl (by omega));have hr:kf [.int 13]=.ok ((ids 13).map .int):=by rw [<- ji];rfl
    have hcm:=iJ (t:=tE (e2 (kF) (e2 cj (aA ay (ag (ai 1) (ag (e2 bN (e2 cm (eC (.int 13)) (ai 2)) (ai 0)) aq))) (eC (.int 3))) (eC (.int 0)))) (ρ:=[.val (.int v),.val (.int k)]) (p:=fun m=>decide (dr (13*k+m)%3=0)) (ids 13) fun m _=>by
      simp [m1,(hdr _).1,iG]
    have s13:((ids 13).map PyData.int).length<=sizeLine:=by rw [List.length_map,sh];decide
    rw [List.length_cons] at hl;generalize hL:(acc.map fun g=>PyData.tuple (g.map .int))=L;have hz:L.length < sizeLine:=Nat.lt_of_lt_of_le (show L.length < 1001 by rw [<- hL,List.length_map];omega) (by decide);generalize hg:(ids 13).filter (fun m=>decide (dr (13*k+m)%3=0))=g at hcm;have hp:gQ 13 g:=by rw [<- hg];exact (gQ.ids 13).filter _
    obtain ⟨gs,x',h1,h2,h3⟩:=oh v ds (acc++[g]) (.val (.int k)) (fun d hd=>hi d (List.mem_cons_of_mem _ hd)) (by simp;omega);refine ⟨g::gs,x',fun t ht=>?_,by simp [h2],?_⟩
    · rcases List.mem_cons.mp ht with rfl | z
      · exact hp
      · exact h1 t z
    · rw [cV];rw [List.append_assoc] at h3;rw [show acc++g::gs=acc++([g]++gs) from rfl,<- h3];show (lj [.val (.int v),.own (.list L),.val (.int k)]>>=_)=_;unfold lj;rw [eM (ds:=L) _ rfl hz];have e2':e1 cB (ce (dc (ag (eC (.int 13)) aq)) 1 [0,2] (aM 0) (tE (e2 (kF) (e2 cj (aA ay (ag (ai 1) (ag (e2 bN (e2 cm (eC (.int 13)) (ai 2)) (ai 0)) aq))) (eC (.int 3))) (eC (.int 0)))) (ai 0)) [.val (.int v),.own (.list L),.val (.int k)]=.ok (.tuple (g.map .int)):=by
        rw [fT,cz,eL];simp only [bn,bJ,dC,R.ok_bind,hr,dR,if_pos s13];rw [show au 1 [0,2] [.val (.int v),.own (.list L),.val (.int k)]=[.non,.val (.int v),.val (.int k)] from rfl,hcm];rfl
      rw [e2',dR,R.ok_bind,<- hL,List.map_append];rfl
theorem mP {v:Int} (hv:0<=v):∃ gs,br [.int v]=.ok (ib gs)/\Gs gs:=by
  obtain ⟨gs,x,h1,h2,h3⟩:=oh v (bg 0 (1+v%5).toNat) [] .non (iz _ _) (by rw [cC];simp;omega);rw [cC] at h2;have hr:kf [.int (1+v%5)]=.ok (bg 0 (1+v%5).toNat):=by
    show (if -(2 ^ 62)<=(1+v%5)/\(1+v%5) < 2 ^ 62 then R.ok (bg 0 (1+v%5).toNat) else .no)=_;rw [if_pos (by omega)]
  refine ⟨gs,?_,⟨by omega,by omega,h1⟩⟩;unfold br eZ;refine iM ?_;rw [show ([PyData.int v].map bX.val++List.replicate (3 - [PyData.int v].length) bX.non)=[.val (.int v),.non,.non] from rfl];rw [aL (ρ':=[.val (.int v),.own (.list []),.non]) (by rfl)];rw [aL (ρ':=[.val (.int v),.own (.list (([]++gs).map fun (g:List Int)=>PyData.tuple (g.map .int))),x]) (by
    rw [gg,eX,eL];simp only [bn,bJ,bo,dC,dD,qG,mC,R.ok_bind,if_pos (show (0:Int) < 5 by omega),hr];unfold lj at h3;rw [List.map_nil] at h3;rw [h3];rfl)]
  simp
theorem ja {d:PyData} (h:noD d) (hi:Int):aQ [d,.int hi]=.ok (.bool (iI d 0 hi)):=by
  unfold aQ fu;rw [bQ];cases d with
  | int i =>
    by_cases h1:0<=i <;> by_cases h2:i<=hi <;> simp [bI,gp,h1,h2,iI]
  | dict k=>cases h
  | _=>simp [bI,gp,iI]
theorem oC {xs:List PyData} (hg:∀ x∈xs,bO x):kB (.list xs) (.list [])=.ok (.bool (!xs.isEmpty)):=by
  unfold kB;have ho:ig (.list xs) (.list [])=true:=by
    unfold ig;have h1:(PyData.list xs).canLay0=true:=im.mpr hg;rw [h1];simp [PyData.canLay0,PyData.canLayAll0,PyData.depth,PyData.depthAll]
  rw [if_pos ho];cases xs <;> simp [PyData.eqv,PyData.eqvAll]
noncomputable def jK:Fs:=(aS (iV (hJ (cn (tE (e1 (bI .tuple) (ai 1)))) (hJ (tE (e2 (kB) (e1 cY (ai 1)) (eC (.int 2)))) (cn (tE (aA aQ (ag (e2 cQ (ai 1) (eC (.int 0))) (ag (eC (.int 1)) aq))))))) (bW (eC (.bool false))) cq) (aS (iV (hJ (cn (tE (e1 (bI .tuple) (e2 cQ (ai 1) (eC (.int 1)))))) (tE (e2 (kB) (e1 cY (e2 cQ (ai 1) (eC (.int 1)))) (eC (.int 13))))) (bW (eC (.bool false))) cq) (iV (tE (e2 (kB) (ce (gO (e2 cQ (ai 1) (eC (.int 1)))) 1 [0] (aM 0) (cn (tE (aA aQ (ag (ai 0) (ag (e2 gS (e1 cY (ai 1)) (eC (.int 1))) aq))))) (ai 0)) (fE aq))) (bW (eC (.bool false))) cq)))
theorem sk {ts:List PyData} {d:PyData} (hg:bO d):jK [.val (.tuple ts),.val d]=if bD ts.length d=true then .ok (.nx [.val (.tuple ts),.val d]) else .ok (.rt (.bool false)):=by
  unfold jK;have s0:0<=sizeLine:=by decide
  cases d with
  | tuple ds =>
    match ds,hg with
    | [g,s],hg =>
      have h:=aH.mp hg;have i0:cQ (.tuple [g,s]) (.int 0)=.ok g:=rfl;have i1:cQ (.tuple [g,s]) (.int 1)=.ok s:=rfl;have hs:=h s (by simp);have hn:=ja (h g (by simp)).noD 1;cases hb:iI g 0 1 with
      | false =>
        have hst:bD ts.length (.tuple [g,s])=false:=by simp [bD,hb]
        rw [hst,eE (d:=.bool false) (by simp [bI,gp,iD,i0,hn,hb])];rfl
      | true =>
        rw [aL (ρ':=[.val (.tuple ts),.val (.tuple [g,s])]) (by simp [bI,gp,iD,i0,hn,hb])];cases s with
        | tuple xs =>
          by_cases hl:xs.length=13
          · have hx:=aH.mp hs;rw [aL (ρ':=[.val (.tuple ts),.val (.tuple [g,.tuple xs])]) (by simp [bI,gp,iD,i1,hl])];have hc:bf (aM 0) (cn (tE (aA aQ (ag (ai 0) (ag (e2 gS (e1 cY (ai 1)) (eC (.int 1))) aq))))) (ai 0) (au 1 [0] [.val (.tuple ts),.val (.tuple [g,.tuple xs])]) xs=.ok ((xs.filter fun d=>!iI d 0 ((ts.length:Int)-1)).map id) :=
              g9 _ _ _ _ (fun d=>!iI d 0 ((ts.length:Int)-1)) id _ (fun d hd=>by simp [au,List.replicate,ja (hx d hd).noD]) fun d hd _=>by simp [au,List.replicate]
            rw [List.map_id] at hc;have he:=oC (xs:=xs.filter fun d=>!iI d 0 ((ts.length:Int)-1)) fun x hm=>hx x ((List.mem_filter.mp hm).1)
            rw [iP (fun d=>iI d 0 ((ts.length:Int)-1))] at he;have hst:bD ts.length (.tuple [g,.tuple xs])=xs.all fun d=>iI d 0 ((ts.length:Int)-1):=by simp [bD,fR,hb,hl]
            rw [hst];simp only [gv,h9,dD,cz,dY,cc,bo,dC,R.ok_bind,i1,eY,dR,if_pos (cH (show xs.length<=1000 by omega)),hc,h7,nY,bJ,List.length_nil,if_pos s0,he,gn];cases (xs.all fun d=>iI d 0 ((ts.length:Int)-1)) <;> rfl
          · have hst:bD ts.length (.tuple [g,.tuple xs])=false:=by simp [bD,fR,hl]
            have hl':¬ ((xs.length:Int)=13):=by omega
            rw [hst,eE (d:=.bool false) (by simp [bI,gp,iD,i1,hl'])];rfl
        | dict k=>exact hs.noD.elim
        | _ =>
          rw [eE (d:=.bool false) (by simp [bI,gp,i1])];simp [bD,fR]
    | [],_ =>
      rw [eE (d:=.bool false) (by simp [bI,gp,iD])];simp [bD]
    | [a],_ =>
      rw [eE (d:=.bool false) (by simp [bI,gp,iD])];simp [bD]
    | a::b::e::r,_ =>
      have:¬ ((r.length:Int)+1+1+1=2):=by omega
      rw [eE (d:=.bool false) (by simp [bI,gp,iD,this])];simp [bD]
  | dict k=>exact hg.noD.elim
  | _ =>
    rw [eE (d:=.bool false) (by simp [bI,gp])];simp [bD]
theorem nR (ts:List PyData):∀ (ds:List PyData) (c:bX),(∀ d∈ds,bO d)->∃ c',eF (aM 1) jK ds [.val (.tuple ts),c]=if ds.all (bD ts.length)=true then .ok (.nx [.val (.tuple ts),c']) else .ok (.rt (.bool false))
  | [],c,_=>⟨c,by simp⟩
  | d::ds,c,h=>by
    obtain ⟨c',e⟩:=nR ts ds (.val d) fun x hx=>h x (List.mem_cons_of_mem _ hx)
    refine ⟨c',?_⟩;rw [cV];show (jK [.val (.tuple ts),.val d]>>=_)=_;rw [sk (h d List.mem_cons_self),List.all_cons];cases hb:bD ts.length d with
    | true=>rw [if_pos rfl,R.ok_bind,qq,e,Bool.true_and]
    | false=>rw [if_neg (by simp),R.ok_bind,qz,Bool.false_and];rfl
theorem fP {d:PyData} (hg:bO d):aI [d]=.ok (.bool (fB d)):=by
  unfold aI dg;refine iM ?_;rw [show ([d].map bX.val++List.replicate (2 - [d].length) bX.non)=[.val d,.non] from rfl];cases d with
  | tuple ds =>
    have h:=aH.mp hg;by_cases hl:1<=ds.length/\ds.length<=6
    · have h1:(0:Int) < ds.length:=by omega
      have h2:(ds.length:Int) < 7:=by omega
      have h3:0 < ds.length:=by omega
      rw [aL (ρ':=[.val (.tuple ds),.non]) (by simp [bI,gp,h1,h2,h3])];obtain ⟨c',e⟩:=nR ds ds .non h;have hw:fB (.tuple ds)=ds.all (bD ds.length):=by simp [fB,hl.1,hl.2]
      rw [hw];unfold jK at e;rw [i4,gg,eX,dY,bo,R.ok_bind,eY,R.ok_bind,e];cases (ds.all (bD ds.length)) <;> rfl
    · have hw:fB (.tuple ds)=false:=by
        show ((decide (1<=ds.length)&&decide (ds.length<=6))&&_)=false;by_cases h1:1<=ds.length
        · rw [decide_eq_false (show ¬ ds.length<=6 by omega)];simp
        · rw [decide_eq_false h1];simp
      rw [hw];refine eE ?_;by_cases h1:(0:Int) < ds.length
      · have h3:0 < ds.length:=by omega
        have h2:¬ (ds.length:Int) < 7:=by omega
        simp [bI,gp,h1,h2,h3]
      · have h3:ds=[]:=List.eq_nil_of_length_eq_zero (by omega);subst h3;simp [bI,gp]
  | dict k=>exact hg.noD.elim
  | _=>exact eE (by simp [bI,gp,fB])
noncomputable def sP:PyData->Bool
  | .tuple ds=>(decide (1<=ds.length)&&decide (ds.length<=5))&&ds.all (jp 13)
  | _=>false
noncomputable abbrev xc:Str:=PySem.Str.ofString "NoWatcher"
theorem jk {d:PyData} (hg:bO d) (h:sP d=false):aB [d]=.ex xc:=by
  have ht:=dw hg.noD 1 5;unfold aB dH;rw [bQ,show ([d].map bX.val++List.replicate (2 - [d].length) bX.non)=[.val d,.non] from rfl];rw [i4,gv];have hcond:(hJ (cn (tE (aA am (ag (ai 0) (ag (eC (.int 1)) (ag (e2 gS (eC (.int 6)) (eC (.int 1))) aq)))))) (cn (tE (e1 j0 (ce (gO (ai 0)) 1 [] (aM 0) (fun _=>.ok true) (aA bF (ag (ai 0) (ag (eC (.int 13)) aq)))))))) [.val d,.non]=.ok true:=by
    cases d with
    | tuple ds =>
      by_cases hl:1<=ds.length/\ds.length<=5
      · have hb:dz 1 5 (.tuple ds)=true:=by simp [dz];omega
        have hx:=aH.mp hg;have hc:bf (aM 0) (fun _=>.ok true) (aA bF (ag (ai 0) (ag (eC (.int 13)) aq))) (au 1 [] [.val (.tuple ds),.non]) ds=.ok (ds.map fun d=>.bool (jp 13 d)) :=
          dI _ _ _ _ _ fun d hd=>by
            have hs:=iK 13 (d:=d) (fun ds' e x hx'=>((aH.mp (e ▸ hx d hd)) x hx').noD) (hx d hd).noD;simp [au,List.replicate,hs]
        have ha:ds.all (jp 13)=false:=by simpa [sP,hl.1,hl.2] using h
        simp only [gh,eO,h9,cA,bn,bJ,bo,dC,dD,kW,R.ok_bind,show (6-1:Int)=5 from rfl,ht,hb,gn,fT,cz,dY,eY,dR,if_pos (cH (show ds.length<=1000 by omega)),hc,h7,j0,gT,ha];rfl
      · have hb:dz 1 5 (.tuple ds)=false:=by simp [dz];omega
        simp only [gh,eO,h9,cA,bn,bJ,bo,dC,dD,kW,R.ok_bind,show (6-1:Int)=5 from rfl,ht,hb,gn];rfl
    | dict k=>exact hg.noD.elim
    | _ =>
      simp only [gh,eO,h9,cA,bn,bJ,bo,dC,dD,kW,R.ok_bind,show (6-1:Int)=5 from rfl,ht,dz,gn];rfl
  rw [hcond];rfl
theorem nh {d:PyData} (hg:bO d) (h:sP d=false):ba [d]=.ok (.bool true):=by
  have h1:=jk hg h;unfold ba eG;refine iM ?_;rw [show ([d].map bX.val++List.replicate (2 - [d].length) bX.non)=[.val d,.non] from rfl];refine eE ?_;have hx:∀ p,(fun p (ρ:aD)=>(lA 1 p) (ρ.set 1 (.exc p))) p ([.val d,.non]:aD)=.ok (.bool true):=fun p=>by
    show lA 1 p _=_;unfold lA;simp
  unfold nL;simp only [bn,bJ,bo,cc,R.ok_bind,dR,h1,rk,List.lookup_cons,beq_self_eq_true];rw [show (fun p=>lA 1 p (([.val d,.non]:aD).set 1 (.exc p)))=fun _=>R.ok (PyData.bool true) from funext hx,nk];rfl
theorem nI (n:Int):∃ d,bK [.int n]=.ok d/\bO d:=by
  unfold bK ip;have s22:22<=sizeLine:=by decide
  have s0:0<=sizeLine:=by decide
  have s1:1<=sizeLine:=by decide
  have s2:2<=sizeLine:=by decide
  obtain ⟨x,hx,e⟩:=iY (xs:=[.int (-1),.int 0,.int 1,.int 2,.int 12,.int 13,.int 20,.int 21,.int (-20),.int (-21),.int 24,.int 25,.bool true,.bool false,.none,.str (PySem.Str.ofString ""),.str (PySem.Str.ofString "a"),.tuple [],.list [],.tuple [.int 0],.tuple [.int 1,.int 0],.tuple [.int 0,.int 0]]) (i:=n%22) (by omega) (by simp;omega);refine ⟨x,?_,?_⟩
  · rw [bQ];simp [List.replicate,s22,s0,s1,s2,e]
  · clear e;revert x;intro x hx;have:∀ y∈[PyData.int (-1),.int 0,.int 1,.int 2,.int 12,.int 13,.int 20,.int 21,.int (-20),.int (-21),.int 24,.int 25,.bool true,.bool false,.none,.str (PySem.Str.ofString ""),.str (PySem.Str.ofString "a"),.tuple [],.list [],.tuple [.int 0],.tuple [.int 1,.int 0],.tuple [.int 0,.int 0]],y.canLay0=true:=by
      decide +kernel
    exact this x hx
theorem jw (F:List PyData->R PyData) {i n deep:Int} (h1:-20<=i) (h2:i<=24) (hn:0<=n):∃ d',df 5 (bu bK F) [.int i,.int n,.int deep]=.ok d'/\bO d':=by
  unfold bu;obtain ⟨o,ho,hog⟩:=nI (n / 6);have s5:5<=sizeLine:=by decide
  have hs:rl (.int i)=.ok (.str (toString i)):=by
    show (if i.natAbs.log2 < 1920 then R.ok (PyData.str (toString i)) else .no)=_;rw [if_pos];exact Nat.lt_of_le_of_lt (Nat.log2_le_self _) (by omega)
  have m1:cm (.int i) (.int 1001)=.ok (.int (i*1001)):=dO (.inr (by omega));have hS:=pG h1 h2;generalize PyData.str (toString i)=S at hs hS;by_cases hq:n / 6%2=0
  · obtain ⟨x,hx,e⟩:=iY (xs:=[S,.int (-i),.int (i*1001),.bool (decide (i=1)),.int (i+1)]) (i:=n / 12%5) (by omega) (by simp;omega);refine ⟨x,?_,?_⟩
    · rw [bQ];by_cases hd:0 < deep <;> simp [hd,bI,gp,iG,hq,hs,m1,s5,e]
    · simp at hx;rcases hx with rfl | rfl | rfl | rfl | rfl
      · exact hS
      · exact eT _
      · exact eT _
      · exact kl _
      · exact eT _
  · refine ⟨o,?_,hog⟩;rw [bQ];by_cases hd:0 < deep <;> simp [hd,bI,gp,iG,hq,ho]
theorem iE (F:List PyData->R PyData) {n deep:Int} (hn:0<=n):∃ d',df 5 (bu bK F) [.none,.int n,.int deep]=.ok d'/\bO d':=by
  unfold bu;obtain ⟨o,ho,hog⟩:=nI (n / 6);refine ⟨o,?_,hog⟩;rw [bQ];by_cases hd:0 < deep <;> simp [hd,bI,gp,ho]
theorem iO (F:List PyData->R PyData) {ds:List PyData} {n deep:Int} (hN:jR (.tuple ds)) (hn:0<=n) (hA:¬ (0 < deep/\ds≠[]/\0 < n%6)):∃ d',df 5 (bu bK F) [.tuple ds,.int n,.int deep]=.ok d'/\bO d':=by
  unfold bu;obtain ⟨o,ho,hog⟩:=nI (n / 6);have s6:6<=sizeLine:=by decide
  have hg:=aH.mp hN.good;have hlen:ds.length<=100:=by cases hN;assumption
  by_cases he:ds=[]
  · subst he;refine ⟨o,?_,hog⟩;rw [bQ];by_cases hd:0 < deep <;> simp [hd,bI,gp,ho]
  · have hp:(0:Int) < ds.length:=by
      cases ds with
      | nil=>exact absurd rfl he
      | cons a r=>simp
    have hq0:0 < ds.length:=by omega
    have hA':¬ (0 < deep/\0 < n%6):=fun z=>hA ⟨z.1,he,z.2⟩
    by_cases hq:n / 6%2=0
    · have c1:=hW ds none (some (-1));have c2:=hW ds (some (-1)) none;have c3:=hW ds (some 1) none;have l1:ds.length+(D2.fo ds (some (-1)) none).length<=sizeLine:=cH (by omega);have hm:cm (.tuple ds) (.int 2)=.ok (.tuple (ds++ds)):=by
        show (if ds≠[]/\2<=(2:Int)/\(2:Int) < 2 ^ 63/\ds.length*(2:Int).toNat<=sizeLine then R.ok (PyData.tuple (List.replicate (2:Int).toNat ds).flatten) else .no)=_;rw [if_pos ⟨he,by omega,by omega,cH (by show ds.length*2<=1000;omega)⟩];simp [List.replicate]
      obtain ⟨x,hx,e⟩:=iY (xs:=[.list ds,.tuple (D2.fo ds none (some (-1))),.tuple (ds++D2.fo ds (some (-1)) none),.tuple (D2.fo ds (some 1) none),.tuple ds.reverse,.tuple (ds++ds)]) (i:=n / 12%6) (by omega) (by simp;omega);refine ⟨x,?_,?_⟩
      · rw [bQ];by_cases hd:0 < deep
        · have h6:¬ 0 < n%6:=fun z=>hA' ⟨hd,z⟩
          simp [hd,bI,gp,iG,hp,hq0,h6,hq,l1,hm,s6,e]
        · simp [hd,bI,gp,iG,hp,hq0,hq,l1,hm,s6,e]
      · simp at hx;rcases hx with rfl | rfl | rfl | rfl | rfl | rfl
        · exact im.mpr hg
        · exact aH.mpr fun x hx=>hg x (hZ x hx)
        · refine aH.mpr fun x hx=>?_
          rcases List.mem_append.mp hx with z | z
          · exact hg x z
          · exact hg x (hZ x z)
        · exact aH.mpr fun x hx=>hg x (hZ x hx)
        · exact aH.mpr fun x hx=>hg x (List.mem_reverse.mp hx)
        · refine aH.mpr fun x hx=>?_
          rcases List.mem_append.mp hx with z | z
          · exact hg x z
          · exact hg x z
    · refine ⟨o,?_,hog⟩;rw [bQ];by_cases hd:0 < deep
      · have h6:¬ 0 < n%6:=fun z=>hA' ⟨hd,z⟩
        simp [hd,bI,gp,iG,hp,hq0,h6,hq,ho]
      · simp [hd,bI,gp,iG,hp,hq0,hq,ho]
theorem o9:∀ (k:Nat) (d:PyData) (n deep:Int),jR d->0<=n->deep<=k->∃ d',aG (k+1) [d,.int n,.int deep]=.ok d'/\bO d':=by
  intro k;induction k with
  | zero =>
    intro d n deep hd hn hk;cases hd with
    | int i h1 h2=>exact jw _ h1 h2 hn
    | none=>exact iE _ hn
    | tuple ds hl ha=>exact iO _ (.tuple ds hl ha) hn fun z=>by omega
  | succ k ih =>
    intro d n deep hd hn hk;cases hd with
    | int i h1 h2=>exact jw _ h1 h2 hn
    | none=>exact iE _ hn
    | tuple ds hl ha =>
      by_cases hA:0 < deep/\ds≠[]/\0 < n%6
      · obtain ⟨h1,h2,h3⟩:=hA;have hp:(0:Int) < ds.length:=by
          cases ds with
          | nil=>exact absurd rfl h2
          | cons a r=>simp
        have hq0:0 < ds.length:=by omega
        have hb:(ds.length:Int) < 1073741824:=by omega
        have a0:=Int.emod_nonneg (n / 6) (show (ds.length:Int)≠0 by omega);have a1:=Int.emod_lt_of_pos (n / 6) hp;have hix:=nQ a0 a1;have hmem:ds[(n / 6%(ds.length:Int)).toNat]'(by omega)∈ds:=List.getElem_mem _;obtain ⟨p,hp1,hp2⟩:=ih _ (n / 6 / ds.length) (deep-1) (ha _ hmem) (Int.ediv_nonneg (by omega) (by omega)) (by omega);have hg:∀ x∈ds,bO x:=fun x hx=>(ha x hx).good
        have s1:1<=sizeLine:=by decide
        have c1:=hW ds none (some (n / 6%ds.length));have c2:=hW ds (some (n / 6%ds.length+1)) none;have l1:(D2.fo ds none (some (n / 6%ds.length))).length+1<=sizeLine:=cH (by omega);have l2:(D2.fo ds none (some (n / 6%ds.length))).length+((D2.fo ds (some (n / 6%ds.length+1)) none).length+1)<=sizeLine:=cH (by omega);refine ⟨.tuple (D2.fo ds none (some (n / 6%ds.length))++p::D2.fo ds (some (n / 6%ds.length+1)) none),?_,?_⟩
        · show df 5 (bu bK (aG (k+1))) _=_;unfold bu;rw [bQ];simp [h1,bI,gp,hp,hq0,h3,hb,hix,hp1,s1,l1,l2,List.replicate,Nat.add_comm,Nat.add_left_comm,Nat.add_assoc];rw [if_pos (by omega),if_pos (by omega)]
        · refine aH.mpr fun x hx=>?_
          rcases List.mem_append.mp hx with z | z
          · exact hg x (hZ x z)
          · rcases List.mem_cons.mp z with rfl | z
            · exact hp2
            · exact hg x (hZ x z)
      · exact iO _ (.tuple ds hl ha) hn hA
noncomputable def kX:Fs:=(aS (cf 3 (e2 cQ (e2 cQ (e2 cQ (ai 1) (ai 3)) (eC (.int 1))) (ai 5))) (cu 4 (ai 3)))
noncomputable abbrev sY (a:PyData) (ss:List St) (x:PyData) (i:Int) (acc:List PyData) (c:bX):aD:=[.val a,.val (wD ss),.val x,.val (.int i),.own (.list acc),c,.non,.non,.non,.non,.non,.non]
theorem nZ {ss:List St} (W:Wt ss) (a x:PyData):∀ (ms:List Int) (i:Int) (acc:List PyData) (c:bX),0<=i->i < ss.length->(∀ m∈ms,0<=m/\m < 13)->acc.length+ms.length<=1000 ->
    ∃ y z,eF (aM 5) kX (ms.map .int) (sY a ss x i acc c)=.ok (.nx (sY a ss x y (acc++(c7 ss i ms).map .int) z))
  | [],i,acc,c,_,_,_,_=>⟨_,_,by simp [c7];exact ⟨rfl,rfl⟩⟩
  | m::ms,i,acc,c,h0,h1,hm,hl=>by
    have hb:=hm m List.mem_cons_self;obtain ⟨q,hx1,hx2⟩:=W.ix h0 h1 hb.1 hb.2;have hs:=W.step h0 h1 hb.1 hb.2;rw [List.length_cons] at hl;have hz:acc.length < sizeLine:=Nat.lt_of_lt_of_le (show acc.length < 1001 by omega) (by decide);obtain ⟨y,z,e⟩:=nZ W a x ms (cE ss i m) (acc++[.int (cE ss i m)]) (.val (.int m)) hs.1 hs.2 (fun k hk=>hm k (List.mem_cons_of_mem _ hk)) (by simp;omega);refine ⟨y,z,?_⟩;rw [List.map_cons,cV,c7,List.map_cons];rw [List.append_assoc] at e;rw [show acc++PyData.int (cE ss i m)::(c7 ss (cE ss i m) ms).map .int=acc++([.int (cE ss i m)]++(c7 ss (cE ss i m) ms).map .int) from rfl,<- e];have hset:cf 3 (e2 cQ (e2 cQ (e2 cQ (ai 1) (ai 3)) (eC (.int 1))) (ai 5)) (sY a ss x i acc (.val (.int m)))=.ok (.nx (sY a ss x (cE ss i m) acc (.val (.int m)))):=by
      simp only [cR,dD,bo,cc,dC,R.ok_bind,hx1,mD,hx2];rfl
    show (kX (sY a ss x i acc (.val (.int m)))>>=_)=_;unfold kX;rw [aL hset,eM (ds:=acc) _ rfl hz];rfl
theorem tJ {xs:List PyData} {k:Int} (h0:0<=k) (h1:k<=1000) (h:xs.length*k.toNat<=sizeLine):ju (.list xs) (.int k)=.ok (.list (List.replicate k.toNat xs).flatten):=by
  show (if -(2 ^ 63)<=k/\k < 2 ^ 63/\xs.length*k.toNat<=sizeLine then R.ok (PyData.list (List.replicate k.toNat xs).flatten) else .no)=_;rw [if_pos ⟨by omega,by omega,h⟩]
theorem mv:∀ (k:Nat) (gs:List (List Int)),(fx k gs).map (·.g)=List.replicate gs.length 0
  | _,[]=>rfl
  | k,g::gs=>by simp [fx,mv (k+1) gs,List.replicate_succ]
theorem qr:ti nU:=by
  intro ns hl;obtain ⟨v0,hv0,a0,b0⟩:=hU ns (k:=0) (by omega);obtain ⟨v1,hv1,a1,b1⟩:=hU ns (k:=1) (by omega);obtain ⟨v2,hv2,a2,b2⟩:=hU ns (k:=2) (by omega);obtain ⟨ss,hss,W⟩:=mh a0;obtain ⟨gs,hgs,Hg⟩:=mP a1;have n0:=W.n0;have g0:=Hg.n0;have g1:=Hg.n1
  -- the marks
  obtain ⟨ms,hms,hmb,hml⟩:∃ ms:List Int,e1 cB (ce (dc (ag (e2 sB (eC (.int 40)) (e1 cY (ai 0))) aq)) 1 [0] (aM 0) (fun _=>.ok true) (e2 cj (aA aE (ag (ai 1) (ag (e2 bN (eC (.int 3)) (ai 0)) aq))) (eC (.int 13)))) [.val (iF ns),.val (wD ss),.non,.non,.non,.non,.non,.non,.non,.non,.non,.non]=.ok (.tuple (ms.map .int))/\(∀ m∈ms,0<=m/\m < 13)/\ms.length<=40:=by
    generalize hN:(if (ns.length:Int) < 40 then (ns.length:Int) else 40)=N;have hN0:0<=N/\N<=40:=by split at hN <;> omega
    have hr:kf [.int N]=.ok (bg 0 N.toNat):=by
      show (if -(2 ^ 62)<=N/\N < 2 ^ 62 then R.ok (bg 0 N.toNat) else .no)=_;rw [if_pos (by omega)]
    obtain ⟨xs,c1,c2,c3⟩:=ml (e2 cj (aA aE (ag (ai 1) (ag (e2 bN (eC (.int 3)) (ai 0)) aq))) (eC (.int 13))) [.non,.val (iF ns)] 0 (fun x=>∃ i,x=.int i/\0<=i/\i < 13) (bg 0 N.toNat) fun d hd=>by
      unfold bg at hd;obtain ⟨k,hk,rfl⟩:=List.mem_map.mp hd;obtain ⟨v,hv,q0,q1⟩:=hU ns (k:=3+(k:Int)) (by omega);exact ⟨.int (v%13),by simp [hv],v%13,rfl,by omega,by omega⟩
    obtain ⟨ms,rfl,hb⟩:=n8 xs c3;refine ⟨ms,?_,hb,by rw [List.length_map,cC] at c2;omega⟩;have hlen:cY (iF ns)=.ok (.int ns.length):=by simp
    rw [fT,cz,eL];simp only [bn,bJ,dD,fT,dC,bo,R.ok_bind,hlen,tX,hN,hr,dR,cC,if_pos (cH (show N.toNat<=1000 by omega))];rw [show au 1 [0] [.val (iF ns),.val (wD ss),.non,.non,.non,.non,.non,.non,.non,.non,.non,.non]=[.non,.val (iF ns)] from rfl,c1];rfl
  -- what may be spoilt
  obtain ⟨sp,hsp,gsp⟩:=o9 13 (wD ss) v2 (v1 / 2%4) W.nice a2 (by omega);have hso:=gZ W hmb (by omega);have hwo:=j9 Hg;have Wm:=uJ Hg;have hso2:=gZ Wm hmb (by omega);have hro:=o1 g0 (ms:=ms) (by omega);rw [<- jM g0 ms 0 (by omega) (by omega) hmb] at hro;obtain ⟨y,z,hdu⟩:=nZ W (iF ns) (.tuple (ms.map .int)) ms 0 [] .non (by omega) (by omega) hmb (by simp;omega);refine iM ?_;show n3 br aI aE ba bt (aG 14) aZ bq bx aB [.val (iF ns),.non,.non,.non,.non,.non,.non,.non,.non,.non,.non,.non]=_;unfold n3;rw [aL (ρ':=[.val (iF ns),.val (wD ss),.non,.non,.non,.non,.non,.non,.non,.non,.non,.non]) (by simp [hv0,hss])];rw [aL (ρ':=[.val (iF ns),.val (wD ss),.val (.tuple (ms.map .int)),.non,.non,.non,.non,.non,.non,.non,.non,.non]) (by rw [cR,hms];rfl)];rw [aL (ρ':=[.val (iF ns),.val (wD ss),.val (.tuple (ms.map .int)),.val (.int 0),.non,.non,.non,.non,.non,.non,.non,.non]) (by rfl)];rw [aL (ρ':=sY (iF ns) ss (.tuple (ms.map .int)) 0 [] .non) (by rfl)];rw [aL (ρ':=sY (iF ns) ss (.tuple (ms.map .int)) y ([]++(c7 ss 0 ms).map .int) z) (by
    rw [gg,eX,dY,cc,cc,bo,R.ok_bind,eY,R.ok_bind];unfold kX at hdu;rw [hdu];rfl)]
  rw [List.nil_append];rw [aL (ρ':=sY (iF ns) ss (.tuple (ms.map .int)) y ((c7 ss 0 ms).map .int) z) (by
    simp only [gv,h9,dD,fT,cA,bn,bJ,bo,cc,rJ,sw,R.ok_bind,hso,l7,v8,gn,decide_true];rfl)]
  rw [aL (ρ':=[.val (iF ns),.val (wD ss),.val (.tuple (ms.map .int)),.val (.int y),.own (.list ((c7 ss 0 ms).map .int)),z,.val (wD ss),.non,.non,.non,.non,.non]) (by rfl)];rw [aL (ρ':=[.val (iF ns),.val (wD ss),.val (.tuple (ms.map .int)),.val (.int y),.own (.list ((c7 ss 0 ms).map .int)),z,.val (if v1%2=1 then sp else wD ss),.non,.non,.non,.non,.non]) (by
    by_cases q:v1%2=1 <;> simp [hv1,iG,q,hv2,hsp])]
  have gs':bO (if v1%2=1 then sp else wD ss):=by
    split
    · exact gsp
    · exact W.good
  generalize (if v1%2=1 then sp else wD ss)=th at gs';rw [aL (ρ':=[.val (iF ns),.val (wD ss),.val (.tuple (ms.map .int)),.val (.int y),.own (.list ((c7 ss 0 ms).map .int)),z,.val th,.val (.bool (fB th)),.non,.non,.non,.non]) (by
    simp only [cR,cA,bn,bJ,bo,cc,R.ok_bind,jS gs'];rfl)]
  rw [aL (ρ':=[.val (iF ns),.val (wD ss),.val (.tuple (ms.map .int)),.val (.int y),.own (.list ((c7 ss 0 ms).map .int)),z,.val th,.val (.bool (fB th)),.non,.non,.non,.non]) (by
    simp only [gv,gh,eO,h9,dD,fT,cA,bn,bJ,bo,cc,R.ok_bind,fP gs',bI,gp,gn,qg (kl _) (by simp [PyData.depth])];rfl)]
  rw [aL (ρ':=[.val (iF ns),.val (wD ss),.val (.tuple (ms.map .int)),.val (.int y),.own (.list ((c7 ss 0 ms).map .int)),z,.val th,.val (.bool (fB th)),.val (ib gs),.non,.non,.non]) (by
    simp only [cR,cA,bn,bJ,bo,cc,dC,R.ok_bind,hv1,hgs];rfl)]
  -- what are no groups
  have ix0:=tw (gs:=gs) (i:=0) (by omega) (by omega);rw [show (0:Int).toNat=0 from rfl] at ix0;generalize hG0:PyData.tuple ((gs.getD 0 []).map .int)=g00 at ix0;have gG:bO g00:=by rw [<- hG0];exact i7 _
  obtain ⟨od,hod,god,bad⟩:∃ od,e2 cQ (fE (ag (cN aq) (ag (e2 cm (cN (ag (e2 cQ (ai 8) (eC (.int 0))) aq)) (eC (.int 6))) (ag (fE (ag (e2 cQ (ai 8) (eC (.int 0))) aq)) (ag (cN (ag (cN (ag (eC (.int 13)) aq)) aq)) (ag (cN (ag (cN (ag (e1 iU (eC (.int 1))) aq)) aq)) (ag (cN (ag (cN (ag (eC (.int 1)) (ag (eC (.int 1)) aq))) aq)) (ag (cN (ag (eC .none) aq)) (ag (eC .none) aq))))))))) (e2 cj (aA aE (ag (ai 0) (ag (eC (.int 2)) aq))) (eC (.int 8))) [.val (iF ns),.val (wD ss),.val (.tuple (ms.map .int)),.val (.int y),.own (.list ((c7 ss 0 ms).map .int)),z,.val th,.val (.bool (fB th)),.val (ib gs),.non,.non,.non]=.ok od/\bO od/\sP od=false:=by
    have s0:0<=sizeLine:=by decide
    have s1:1<=sizeLine:=by decide
    have s2:2<=sizeLine:=by decide
    have s8:8<=sizeLine:=by decide
    have s6:1*(6:Int).toNat<=sizeLine:=by decide
    have hm:cm (.tuple [g00]) (.int 6)=.ok (.tuple [g00,g00,g00,g00,g00,g00]):=by
      show (if [g00]≠[]/\2<=(6:Int)/\(6:Int) < 2 ^ 63/\[g00].length*(6:Int).toNat<=sizeLine then R.ok (PyData.tuple (List.replicate (6:Int).toNat [g00]).flatten) else .no)=_;rw [if_pos ⟨by simp,by omega,by omega,s6⟩];rfl
    obtain ⟨x,hx,e⟩:=iY (xs:=[.tuple [],.tuple [g00,g00,g00,g00,g00,g00],.list [g00],.tuple [.tuple [.int 13]],.tuple [.tuple [.int (-1)]],.tuple [.tuple [.int 1,.int 1]],.tuple [.none],.none]) (i:=v2%8) (by omega) (by simp;omega);refine ⟨x,?_,?_⟩
    · simp [ix0,hm,s0,s1,s2,s8,hv2,e]
    · simp only [List.mem_cons,List.not_mem_nil,or_false] at hx;rcases hx with rfl | rfl | rfl | rfl | rfl | rfl | rfl | rfl
      · exact ⟨aH.mpr (by simp),rfl⟩
      · exact ⟨aH.mpr (by simp;exact gG),rfl⟩
      · exact ⟨im.mpr (by simp;exact gG),rfl⟩
      · exact ⟨by decide +kernel,by decide +kernel⟩
      · exact ⟨by decide +kernel,by decide +kernel⟩
      · exact ⟨by decide +kernel,by decide +kernel⟩
      · exact ⟨by decide +kernel,by decide +kernel⟩
      · exact ⟨by decide +kernel,by decide +kernel⟩
  rw [aL (ρ':=[.val (iF ns),.val (wD ss),.val (.tuple (ms.map .int)),.val (.int y),.own (.list ((c7 ss 0 ms).map .int)),z,.val th,.val (.bool (fB th)),.val (ib gs),.val od,.non,.non]) (by rw [cR,hod];rfl)];rw [aL (ρ':=[.val (iF ns),.val (wD ss),.val (.tuple (ms.map .int)),.val (.int y),.own (.list ((c7 ss 0 ms).map .int)),z,.val th,.val (.bool (fB th)),.val (ib gs),.val od,.val (wD (jG gs)),.non]) (by
    simp only [cR,cA,bn,bJ,bo,cc,R.ok_bind,hwo];rfl)]
  rw [aL (ρ':=[.val (iF ns),.val (wD ss),.val (.tuple (ms.map .int)),.val (.int y),.own (.list ((c7 ss 0 ms).map .int)),z,.val th,.val (.bool (fB th)),.val (ib gs),.val od,.val (wD (jG gs)),.non]) (by
    have hlm:((jG gs).length:Int)=(gs.length:Int)+1:=by rw [hV];omega
    simp only [gv,gh,eO,h9,dD,fT,cA,bn,bJ,bo,cc,dC,R.ok_bind,nh god bad,fP Wm.good,Wm.wat,mZ,List.length_map,mC,hlm,iD,gn,decide_true];rfl)]
  have hgc:bf (aM 0) (fun _=>.ok true) (e2 cQ (ai 0) (eC (.int 0))) [.non] ((jG gs).map St.d)=.ok (((jG gs).map (·.g)).map .int):=by
    have:∀ l:List St,bf (aM 0) (fun _=>.ok true) (e2 cQ (ai 0) (eC (.int 0))) [.non] (l.map St.d)=.ok ((l.map (·.g)).map .int):=by
      intro l;induction l with
      | nil=>simp [dM]
      | cons s l ih=>rw [List.map_cons,dN,ih];simp [uc]
    exact this _
  have hgo:(jG gs).map (·.g)=List.replicate gs.length 0++[1]:=by
    unfold jG;rw [List.map_append,mv];rfl
  rw [hgo] at hgc;have hsz:((jG gs).map St.d).length<=sizeLine:=cH (by rw [List.length_map,hV];omega);rw [aL (ρ':=[.val (iF ns),.val (wD ss),.val (.tuple (ms.map .int)),.val (.int y),.own (.list ((c7 ss 0 ms).map .int)),z,.val th,.val (.bool (fB th)),.val (ib gs),.val od,.val (wD (jG gs)),.val (.list ((List.replicate gs.length (0:Int)++[1]).map .int))]) (by
    simp only [cR,cz,dY,bo,cc,R.ok_bind,eY,dR,if_pos hsz];rw [show au 1 [] [.val (iF ns),.val (wD ss),.val (.tuple (ms.map .int)),.val (.int y),.own (.list ((c7 ss 0 ms).map .int)),z,.val th,.val (.bool (fB th)),.val (ib gs),.val od,.val (wD (jG gs)),.non]=[.non] from rfl,hgc];rfl)]
  have hmul:ju (.list [.int 0]) (.int gs.length)=.ok (.list ((List.replicate gs.length (0:Int)).map .int)):=by
    rw [tJ (by omega) (by omega) (cH (by simp;omega)),Int.toNat_natCast,List.map_replicate];congr 2;induction gs.length with
    | zero=>rfl
    | succ n ih=>rw [List.replicate_succ,List.flatten_cons,ih];rfl
  have s1:1<=sizeLine:=by decide
  have hadd:bN (.list ((List.replicate gs.length (0:Int)).map .int)) (.list [.int 1])=.ok (.list ((List.replicate gs.length (0:Int)++[1]).map .int)):=by
    rw [ux,if_pos (cH (by simp;omega)),List.map_append];rfl
  simp only [nM,ro,dD,fT,cA,bn,bJ,nY,dC,bo,cc,R.ok_bind,List.length_cons,List.length_nil,Nat.zero_add,if_pos s1,mZ,List.length_map,hmul,hadd,vn,decide_true,gn,if_true,hso2,hro,qD (i7 _) (show (PyData.tuple (List.map PyData.int (c7 (jG gs) 0 ms))).depth<=60 by rw [qe];omega)]
noncomputable def va:List Stmt:=PySem.Challenge.pw_duelground_k82_watchers.main.body
noncomputable abbrev top (i:Nat):Stmt:=va.getD i (.Pass ⟨0,0,0,0⟩)
noncomputable abbrev fQ:Stmt:=top 23
noncomputable abbrev dE:Stmt:=top 27
noncomputable abbrev e8:Stmt:=top 28
noncomputable abbrev cJ:Stmt:=top 29
noncomputable abbrev eD:Stmt:=top 21
noncomputable abbrev fK:Stmt:=top 22
noncomputable abbrev gy:Stmt:=top 4
noncomputable abbrev ff:Stmt:=top 5
noncomputable abbrev gK:Stmt:=top 6
noncomputable abbrev eI:Stmt:=top 13
noncomputable abbrev fe:Stmt:=top 18
noncomputable abbrev c8:Stmt:=top 19
noncomputable abbrev eB:Stmt:=top 30
noncomputable abbrev eW:Stmt:=top 31
noncomputable abbrev il:Stmt:=top 24
noncomputable abbrev fq:Stmt:=top 25
noncomputable abbrev dk:Stmt:=top 26
noncomputable abbrev eh:Stmt:=top 14
noncomputable abbrev gL:Stmt:=top 15
noncomputable abbrev dF:Stmt:=top 16
noncomputable abbrev fO:Stmt:=top 17
noncomputable abbrev fN:Stmt:=top 32
section
variable {P:Program} {w:World} {K:PySem.W.Frag} {mg:Str->Option Value} {base:Heap} {f:Addr} {fd:FuncData} {k:Nat}
theorem mf:aO ["_law_number_here","_law_k","_law_drawn_here"] ["_law_number_here","_law_k"] (al fQ):=⟨rfl,rfl,rfl,by decide +kernel,rfl,by decide +kernel,by decide +kernel⟩
theorem lJ (W:gf K "_law_drawn" "_law_drawn" fQ f fd) :
    aU P w K mg base (cM P w mg) (k+1) f fd ["_law_number_here","_law_k"] (da (df 3 (fV)) 2):=by
  refine aC W mf (G:=[]) (by decide +kernel) fun cdv A outer s H E hr T=>?_
  exact (ak (aP T 2 rfl (aR (aa (cb (aa (aK (aa (aK (aa (ad T 0 rfl)) (aa (cb (aa af) (aa (ad T 1 rfl)))))) (aa af))) (aa af))) (aa af)))
      (ao (ax (aR (aa (aK (aa (aK (aa (cb (aa (ad T 2 rfl)) (aa (ad T 2 rfl)))) (aa (cb (aa af) (aa (ad T 2 rfl)))))) (aa (ad T 1 rfl)))) (aa af)))))
theorem lf:aO ["_law_number_here","_law_groups_here","_law_k"] ["_law_number_here"] (al dE):=⟨rfl,rfl,rfl,by decide +kernel,rfl,by decide +kernel,by decide +kernel⟩
theorem lp (W:gf K "_law_groups" "_law_groups" dE f fd) {f12:Addr} {d12:FuncData} {ay:gD} (C12:gN P w K mg base k "_law_drawn" ["_law_number_here","_law_k"] ay f12 d12) (b_range:mg "range" = none) (b_tuple:mg "tuple" = none) :
    aU P w K mg base (cM P w mg) (k+1) f fd ["_law_number_here"] (da (df 3 (eZ ay)) 1):=by
  refine aC W lf (G:=["range","tuple"]) (by decide +kernel) fun cdv A outer s H E hr T=>?_
  exact (ak (fW T 1 rfl (bB aj))
      (ak (di (have T:=T.nox;dS PassesOwn.never T.calm (cT T 0 rfl b_range (ae (aK (aa af) (aa (aR (aa (ad T 0 rfl)) (aa af)))) aj) (ah ap)) (bc T 2 rfl) (ao (du T 1 rfl (bZ T 1 rfl b_tuple (cI (cy (N:=["_law_mark","_law_number_here","_law_k"]) (own:=1) (G:=["_law_drawn"]) (fr:=[0,2]) T rfl rfl (oN:=["_law_number_here","_law_groups_here","_law_k"]) (on:=(al dE).names) (by decide +kernel) (cT T 0 rfl b_range (ae af aj) (ah ap)) (cF (by decide)) (fun cl C s' H' fp E' T=>⟨(bc T 0 rfl),(mt (gV T.hu (aa (aR (aa (aw C12 hr T 0 rfl (ae (ad T 1 rfl) (ae (aK (aa (cb (aa af) (aa (ad T 2 rfl)))) (aa (ad T 0 rfl))) aj)) rfl (ah (ah ap)))) (aa af))) (aa af))),(ad T 0 rfl)⟩))))))))
      (ao (ax (bZ T 1 rfl b_tuple (dW T 1 rfl))))))
theorem lv:aO ["_law_thing","_law_high"] ["_law_thing","_law_high"] (al e8):=⟨rfl,rfl,rfl,by decide +kernel,rfl,by decide +kernel,by decide +kernel⟩
theorem k8 (W:gf K "_law_number" "_law_number" e8 f fd) (b_bool:mg "bool" = none) (b_int:mg "int" = none) (b_isinstance:mg "isinstance" = none) :
    aU P w K mg base (cM P w mg) (k+1) f fd ["_law_thing","_law_high"] (da (df 2 (fu)) 2):=by
  refine aC W lv (G:=["isinstance","int","bool"]) (by decide +kernel) fun cdv A outer s H E hr T=>?_
  exact (ao (ax (dn (fD T 0 rfl b_isinstance T 1 rfl b_int (aa (ad T 0 rfl))) (dn (lM (eH T 0 rfl b_isinstance T 2 rfl b_bool (aa (ad T 0 rfl)))) (dP (gu km em km em (aa af) (aa (ad T 0 rfl)) (aa (ad T 1 rfl))))))))
theorem iq:aO ["_law_thing","_law_state"] ["_law_thing"] (al cJ):=⟨rfl,rfl,rfl,by decide +kernel,rfl,by decide +kernel,by decide +kernel⟩
theorem ik (W:gf K "_law_is_watcher" "_law_is_watcher" cJ f fd) {f17:Addr} {d17:FuncData} {aQ:gD} (C17:gN P w K mg base k "_law_number" ["_law_thing","_law_high"] aQ f17 d17) (b_isinstance:mg "isinstance" = none) (b_len:mg "len" = none) (b_tuple:mg "tuple" = none) :
    aU P w K mg base (cM P w mg) (k+1) f fd ["_law_thing"] (da (df 2 (dg aQ)) 1):=by
  refine aC W iq (G:=["isinstance","tuple","len","_law_number"]) (by decide +kernel) fun cdv A outer s H E hr T=>?_
  exact (ak (bM (dG (dq (bp (aW (bL T 0 rfl b_isinstance T 1 rfl b_tuple (aa (ad T 0 rfl))))) (dJ (bp (mi qP em qP em (aa af) (aa (bG T 2 rfl b_len (aa (ad T 0 rfl)))) (aa af)))))) (ao (ax bd)) bi)
      (ak (di (have T:=T.nox;dS PassesOwn.never T.calm (cO (ad T 0 rfl)) (bc T 1 rfl) (ak (bM (dG (dq (bp (aW (bL T 0 rfl b_isinstance T 1 rfl b_tuple (aa (ad T 1 rfl))))) (dq (eK T.hu (aa (bG T 2 rfl b_len (aa (ad T 1 rfl)))) (aa af)) (dJ (bp (aW (aw C17 hr T 3 rfl (ae (aX T.hu (aa (ad T 1 rfl)) (aa af) (fun _ _=>rfl)) (ae af aj)) rfl (ah (ah ap))))))))) (ao (ax bd)) bi)
      (ak (bM (dG (dq (bp (aW (bL T 0 rfl b_isinstance T 1 rfl b_tuple (aa (aX T.hu (aa (ad T 1 rfl)) (aa af) (fun _ _=>rfl)))))) (dJ (eK T.hu (aa (bG T 2 rfl b_len (aa (aX T.hu (aa (ad T 1 rfl)) (aa af) (fun _ _=>rfl))))) (aa af))))) (ao (ax bd)) bi)
      (ao (bM (eK T.hu (cI (cy (N:=["_law_step","_law_thing"]) (own:=1) (G:=["_law_number","len"]) (fr:=[0]) T rfl rfl (oN:=["_law_thing","_law_state"]) (on:=(al cJ).names) (by decide +kernel) (cO (aX T.hu (aa (ad T 1 rfl)) (aa af) (fun _ _=>rfl))) (cF (by decide)) (fun cl C s' H' fp E' T=>⟨(bc T 0 rfl),(mt (bp (aW (aw C17 hr T 0 rfl (ae (ad T 0 rfl) (ae (gc (aa (bG T 1 rfl b_len (aa (ad T 1 rfl)))) (aa af)) aj)) rfl (ah (ah ap)))))),(ad T 0 rfl)⟩))) (cI (bB aj))) (ao (ax bd)) bi))))))
      (ao (ax bd))))
theorem j8:aO ["_law_script","_law_k"] ["_law_script","_law_k"] (al eD):=⟨rfl,rfl,rfl,by decide +kernel,rfl,by decide +kernel,by decide +kernel⟩
theorem j5 (W:gf K "_law_cell_at" "_law_cell_at" eD f fd) (b_len:mg "len" = none) :
    aU P w K mg base (cM P w mg) (k+1) f fd ["_law_script","_law_k"] (da (df 2 (eo)) 2):=by
  refine aC W j8 (G:=["len"]) (by decide +kernel) fun cdv A outer s H E hr T=>?_
  exact (ak (bM (qu (aa (ad T 1 rfl)) (aa (bG T 0 rfl b_len (aa (ad T 0 rfl))))) (ao (ax (aX T.hu (aa (ad T 0 rfl)) (aa (ad T 1 rfl)) (fun _ _=>rfl)))) bi)
      (ao (ax af)))
theorem lY:aO ["_law_script","_law_k","_law_drawn_here"] ["_law_script","_law_k"] (al fK):=⟨rfl,rfl,rfl,by decide +kernel,rfl,by decide +kernel,by decide +kernel⟩
theorem mm (W:gf K "_law_mixed" "_law_mixed" fK f fd) {f10:Addr} {d10:FuncData} {bw:gD} (C10:gN P w K mg base k "_law_cell_at" ["_law_script","_law_k"] bw f10 d10) :
    aU P w K mg base (cM P w mg) (k+1) f fd ["_law_script","_law_k"] (da (df 3 (fX bw)) 2):=by
  refine aC W lY (G:=["_law_cell_at"]) (by decide +kernel) fun cdv A outer s H E hr T=>?_
  exact (ak (aP T 2 rfl (aR (aa (cb (aa (aK (aa (aK (aa (aw C10 hr T 0 rfl (ae (ad T 0 rfl) (ae (ad T 1 rfl) aj)) rfl (ah (ah ap)))) (aa (cb (aa af) (aa (ad T 1 rfl)))))) (aa af))) (aa af))) (aa af)))
      (ao (ax (aR (aa (aK (aa (aK (aa (cb (aa (ad T 2 rfl)) (aa (ad T 2 rfl)))) (aa (cb (aa af) (aa (ad T 2 rfl)))))) (aa (ad T 1 rfl)))) (aa af)))))
theorem ny:aO ["thing"] ["thing"] (al gy):=⟨rfl,rfl,rfl,by decide +kernel,rfl,by decide +kernel,by decide +kernel⟩
theorem mI (W:gf K "is_whole" "is_whole" gy f fd) (b_bool:mg "bool" = none) (b_int:mg "int" = none) (b_isinstance:mg "isinstance" = none) :
    aU P w K mg base (cM P w mg) (k+1) f fd ["thing"] (da (df 1 (jc)) 1):=by
  refine aC W ny (G:=["isinstance","int","bool"]) (by decide +kernel) fun cdv A outer s H E hr T=>?_
  exact (ao (ax (dn (fD T 0 rfl b_isinstance T 1 rfl b_int (aa (ad T 0 rfl))) (dP (lM (eH T 0 rfl b_isinstance T 2 rfl b_bool (aa (ad T 0 rfl))))))))
theorem lu:aO ["thing","low","high"] ["thing","low","high"] (al ff):=⟨rfl,rfl,rfl,by decide +kernel,rfl,by decide +kernel,by decide +kernel⟩
theorem lw (W:gf K "is_between" "is_between" ff f fd) {f0:Addr} {d0:FuncData} {cD:gD} (C0:gN P w K mg base k "is_whole" ["thing"] cD f0 d0) :
    aU P w K mg base (cM P w mg) (k+1) f fd ["thing","low","high"] (da (df 3 (fi cD)) 3):=by
  refine aC W lu (G:=["is_whole"]) (by decide +kernel) fun cdv A outer s H E hr T=>?_
  exact (ao (ax (dn (aw C0 hr T 0 rfl (ae (ad T 0 rfl) aj) rfl (ah ap)) (dP (gu km em km em (aa (ad T 1 rfl)) (aa (ad T 0 rfl)) (aa (ad T 2 rfl)))))))
theorem mO:aO ["thing","count","least","number"] ["thing","count"] (al gK):=⟨rfl,rfl,rfl,by decide +kernel,rfl,by decide +kernel,by decide +kernel⟩
theorem nc (W:gf K "are_some" "are_some" gK f fd) {f1:Addr} {d1:FuncData} {av:gD} (C1:gN P w K mg base k "is_between" ["thing","low","high"] av f1 d1) (b_isinstance:mg "isinstance" = none) (b_tuple:mg "tuple" = none) :
    aU P w K mg base (cM P w mg) (k+1) f fd ["thing","count"] (da (df 4 (gJ av)) 2):=by
  refine aC W mO (G:=["isinstance","tuple","is_between"]) (by decide +kernel) fun cdv A outer s H E hr T=>?_
  exact (ak (bM (bp (aW (bL T 0 rfl b_isinstance T 1 rfl b_tuple (aa (ad T 0 rfl))))) (ao (ax bd)) bi)
      (ak (aP T 2 rfl af)
      (ak (di (have T:=T.nox;dS PassesOwn.never T.calm (cO (ad T 0 rfl)) (bc T 3 rfl) (ak (bM (bp (aW (aw C1 hr T 2 rfl (ae (ad T 3 rfl) (ae (ad T 2 rfl) (ae (gc (aa (ad T 1 rfl)) (aa af)) aj))) rfl (ah (ah (ah ap)))))) (ao (ax bd)) bi)
      (ao (aP T 2 rfl (aK (aa (ad T 3 rfl)) (aa af)))))))
      (ao (ax bd)))))
theorem jW:aO ["thing","least","most"] ["thing","least","most"] (al eI):=⟨rfl,rfl,rfl,by decide +kernel,rfl,by decide +kernel,by decide +kernel⟩
theorem j7 (W:gf K "is_tuple_of" "is_tuple_of" eI f fd) (b_isinstance:mg "isinstance" = none) (b_len:mg "len" = none) (b_tuple:mg "tuple" = none) :
    aU P w K mg base (cM P w mg) (k+1) f fd ["thing","least","most"] (da (df 3 (ez)) 3):=by
  refine aC W jW (G:=["isinstance","tuple","len"]) (by decide +kernel) fun cdv A outer s H E hr T=>?_
  exact (ao (ax (dn (bL T 0 rfl b_isinstance T 1 rfl b_tuple (aa (ad T 0 rfl))) (dP (gu km em km em (aa (ad T 1 rfl)) (aa (bG T 2 rfl b_len (aa (ad T 0 rfl)))) (aa (ad T 2 rfl)))))))
theorem ng:aO ["group","state"] ["group","state"] (al fe):=⟨rfl,rfl,rfl,by decide +kernel,rfl,by decide +kernel,by decide +kernel⟩
theorem mR (W:gf K "steps_by" "steps_by" fe f fd) {t_COUNT_OF_MARKS:Tok} (g_COUNT_OF_MARKS:mg "COUNT_OF_MARKS" = some (.int 13 t_COUNT_OF_MARKS)) (b_range:mg "range" = none) (b_tuple:mg "tuple" = none) :
    aU P w K mg base (cM P w mg) (k+1) f fd ["group","state"] (da (df 2 (gB)) 2):=by
  refine aC W ng (G:=["tuple","range","COUNT_OF_MARKS"]) (by decide +kernel) fun cdv A outer s H E hr T=>?_
  exact (ao (ax (bZ T 0 rfl b_tuple (cI (cy (N:=["mark","group","state"]) (own:=1) (G:=[]) (fr:=[0,1]) T rfl rfl (oN:=["group","state"]) (on:=(al fe).names) (by decide +kernel) (cT T 1 rfl b_range (ae (bR T 2 rfl g_COUNT_OF_MARKS) aj) (ah ap)) (cF (by decide)) (fun cl C s' H' fp E' T=>⟨(bc T 0 rfl),dA,(mM (mn T.hu (aa (ad T 0 rfl)) (aa (ad T 1 rfl)) (by with_unfolding_all rfl)) (aK (aa (ad T 2 rfl)) (aa af)) (ad T 2 rfl))⟩))))))
theorem lD:aO ["groups","states"] ["groups"] (al c8):=⟨rfl,rfl,rfl,by decide +kernel,rfl,by decide +kernel,by decide +kernel⟩
theorem kY (W:gf K "watcher_of" "watcher_of" c8 f fd) {f2:Addr} {d2:FuncData} {bF:gD} (C2:gN P w K mg base k "are_some" ["thing","count"] bF f2 d2) {f3:Addr} {d3:FuncData} {am:gD} (C3:gN P w K mg base k "is_tuple_of" ["thing","least","most"] am f3 d3) {f8:Addr} {d8:FuncData} {ca:gD} (C8:gN P w K mg base k "steps_by" ["group","state"] ca f8 d8) {t_COUNT_OF_MARKS:Tok} (g_COUNT_OF_MARKS:mg "COUNT_OF_MARKS" = some (.int 13 t_COUNT_OF_MARKS)) {t_MOST_STATES:Tok} (g_MOST_STATES:mg "MOST_STATES" = some (.int 6 t_MOST_STATES)) {t_STEPS:Tok} (g_STEPS:mg "STEPS" = some (.int 1 t_STEPS)) (b_all:mg "all" = none) (b_enumerate:mg "enumerate" = none) (b_tuple:mg "tuple" = none) {c_NoWatcher:Addr} (m_NoWatcher:mg "NoWatcher" = some (.ref c_NoWatcher)) (q_NoWatcher:PySem.W.excIn K c_NoWatcher pF oX=true) :
    aU P w K mg base (cM P w mg) (k+1) f fd ["groups"] (da (df 2 (dH bF am ca)) 1):=by
  refine aC W lD (G:=["is_tuple_of","MOST_STATES","all","NoWatcher","enumerate","tuple","STEPS"]) (by decide +kernel) fun cdv A outer s H E hr T=>?_
  exact (ak (bM (dG (dq (bp (aW (aw C3 hr T 0 rfl (ae (ad T 0 rfl) (ae af (ae (gc (aa (bR T 1 rfl g_MOST_STATES)) (aa af)) aj))) rfl (ah (ah (ah ap)))))) (dJ (bp (aW (jx T 2 rfl b_all (cI (cy (N:=["group"]) (own:=1) (G:=["are_some","COUNT_OF_MARKS"]) (fr:=[]) T rfl rfl (oN:=["groups","states"]) (on:=(al c8).names) (by decide +kernel) (cO (ad T 0 rfl)) (cF (by decide)) (fun cl C s' H' fp E' T=>⟨(bc T 0 rfl),dA,(aw C2 hr T 0 rfl (ae (ad T 0 rfl) (ae (bR T 1 rfl g_COUNT_OF_MARKS) aj)) rfl (ah (ah ap)))⟩))))))))) (ao (mT T 3 rfl m_NoWatcher q_NoWatcher (have T:=T.nox;jC))) bi)
      (ak (jI (iy 1 rfl (N:=["state","group"]) (own:=2) (G:=["steps_by"]) (fr:=[]) T rfl rfl (oN:=["groups","states"]) (on:=(al c8).names) (by decide +kernel) (o8 T 4 rfl b_enumerate (ad T 0 rfl)) (oY (by decide) (by decide)) (fun cl C s' H' fp E' T=>⟨(pk T 0 1 rfl rfl),dA,(bj (ae af (ae (aw C8 hr T 0 rfl (ae (ad T 1 rfl) (ae (ad T 0 rfl) aj)) rfl (ah (ah ap))) aj)))⟩)) (show 1 < 2 by decide))
      (ao (ax (aK (aa (bZ T 5 rfl b_tuple (aa (ad T 1 rfl)))) (aa (bj (ae (bj (ae af (ae (aX T.hu (aa (aX T.hu (aa (ad T 1 rfl)) (aa af) (fun _ _=>rfl))) (aa (bR T 6 rfl g_STEPS)) (fun _ _=>rfl)) aj))) aj))))))))
theorem jX:aO ["_law_groups_here","e"] ["_law_groups_here"] (al eB):=⟨rfl,rfl,rfl,by decide +kernel,rfl,by decide +kernel,by decide +kernel⟩
theorem j6 (W:gf K "_law_refused" "_law_refused" eB f fd) {f9:Addr} {d9:FuncData} {aB:gD} (C9:gN P w K mg base k "watcher_of" ["groups"] aB f9 d9) (b_isinstance:mg "isinstance" = none) {c_GroundError:Addr} (m_GroundError:mg "GroundError" = some (.ref c_GroundError)) (q_GroundError:PySem.W.excIn K c_GroundError pF oX=true) {c_NoWatcher:Addr} (m_NoWatcher:mg "NoWatcher" = some (.ref c_NoWatcher)) (q_NoWatcher:PySem.W.excIn K c_NoWatcher pF oX=true) (b_NoWatcher_NoWatcher:(Value.ref c_NoWatcher::fY K c_NoWatcher).contains (.ref c_NoWatcher)=true) (k_NoWatcher_GroundError:PySem.W.kitOne K (.ref c_NoWatcher) (.ref c_GroundError)=some true) :
    aU P w K mg base (cM P w mg) (k+1) f fd ["_law_groups_here"] (da (df 2 (eG aB)) 1):=by
  refine aC W jX (G:=["watcher_of","NoWatcher","isinstance","GroundError"]) (by decide +kernel) fun cdv A outer s H E hr T=>?_
  exact (ak (oH C9.ok hr T ⟨rfl,rfl⟩ 0 rfl C9.m C9.kp C9.b (have T:=T.nox;(ae (ad T 0 rfl) aj)) (ah ap) (jQ.cons m_NoWatcher (pR T 1 rfl m_NoWatcher q_NoWatcher q_NoWatcher b_NoWatcher_NoWatcher 1 rfl rfl (f:=fun p=>(lA 1 p)) (fun p ob hc T=>((qk T List.mem_cons_self hc 1 rfl 2 rfl b_isinstance 3 rfl m_GroundError k_NoWatcher_GroundError)).un)) jQ.nil))
      (ao (ax bd)))
theorem kR:aO ["_law_groups_here","_law_marks","_law_found","_law_at","_law_mark"] ["_law_groups_here","_law_marks"] (al eW):=⟨rfl,rfl,rfl,by decide +kernel,rfl,by decide +kernel,by decide +kernel⟩
theorem li (W:gf K "_law_rounds" "_law_rounds" eW f fd) (b_len:mg "len" = none) (b_tuple:mg "tuple" = none) :
    aU P w K mg base (cM P w mg) (k+1) f fd ["_law_groups_here","_law_marks"] (da (df 5 (fw)) 2):=by
  refine aC W kR (G:=["len","tuple"]) (by decide +kernel) fun cdv A outer s H E hr T=>?_
  exact (ak (fW T 2 rfl (bB aj))
      (ak (aP T 3 rfl af)
      (ak (di (have T:=T.nox;dS PassesOwn.never T.calm (cO (ad T 1 rfl)) (bc T 4 rfl) (ak (aP T 3 rfl (aR (aa (ad T 3 rfl)) (aa (bG T 0 rfl b_len (aa (ad T 0 rfl))))))
      (ak (bM (mn T.hu (aa (ad T 4 rfl)) (aa (aX T.hu (aa (ad T 0 rfl)) (aa (ad T 3 rfl)) (fun _ _=>rfl))) (by with_unfolding_all rfl)) (ao (aP T 3 rfl (aK (aa (ad T 3 rfl)) (aa af)))) bi)
      (ao (du T 2 rfl (ad T 3 rfl)))))))
      (ao (ax (bZ T 1 rfl b_tuple (dW T 2 rfl)))))))
theorem o2:aO ["_law_number_here","_law_some"] ["_law_number_here"] (al il):=⟨rfl,rfl,rfl,by decide +kernel,rfl,by decide +kernel,by decide +kernel⟩
theorem oB (W:gf K "_law_odd" "_law_odd" il f fd) :
    aU P w K mg base (cM P w mg) (k+1) f fd ["_law_number_here"] (da (df 2 (ip)) 1):=by
  refine aC W o2 (G:=[]) (by decide +kernel) fun cdv A outer s H E hr T=>?_
  exact (ak (aP T 1 rfl (iX (bB (ae (dQ (aa af)) (ae af (ae af (ae af (ae af (ae af (ae af (ae af (ae (dQ (aa af)) (ae (dQ (aa af)) (ae af (ae af (ae bd (ae bd (ae ij (ae jC (ae jC (ae (bj aj) (ae (iX (bB aj)) (ae (bj (ae af aj)) (ae (bj (ae af (ae af aj))) (ae (bj (ae af (ae af aj))) aj)))))))))))))))))))))))))
      (ao (ax (aX T.hu (aa (ad T 1 rfl)) (aa (aR (aa (ad T 0 rfl)) (aa af))) (fun _ _=>rfl)))))
theorem kT:aO ["_law_thing","_law_number_here","_law_deep","_law_at","_law_part"] ["_law_thing","_law_number_here","_law_deep"] (al fq):=⟨rfl,rfl,rfl,by decide +kernel,rfl,by decide +kernel,by decide +kernel⟩
theorem kM (W:gf K "_law_spoilt" "_law_spoilt" fq f fd) {f13:Addr} {d13:FuncData} {bK:gD} (C13:gN P w K mg base k "_law_odd" ["_law_number_here"] bK f13 d13) {f14:Addr} {d14:FuncData} {aG:gD} (C14:gN P w K mg base k "_law_spoilt" ["_law_thing","_law_number_here","_law_deep"] aG f14 d14) (b_int:mg "int" = none) (b_isinstance:mg "isinstance" = none) (b_len:mg "len" = none) (b_list:mg "list" = none) (b_str:mg "str" = none) (b_tuple:mg "tuple" = none) :
    aU P w K mg base (cM P w mg) (k+1) f fd ["_law_thing","_law_number_here","_law_deep"] (da (df 5 (bu bK aG)) 3):=by
  refine aC W kT (G:=["isinstance","tuple","len","_law_spoilt","list","int","str","_law_odd"]) (by decide +kernel) fun cdv A outer s H E hr T=>?_
  exact (ak (bM (dG (dL (ie (aa (ad T 2 rfl)) (aa af)) (dL (aW (bL T 0 rfl b_isinstance T 1 rfl b_tuple (aa (ad T 0 rfl)))) (dL (ie (aa (bG T 2 rfl b_len (aa (ad T 0 rfl)))) (aa af)) (gA (ie (aa (aR (aa (ad T 1 rfl)) (aa af))) (aa af))))))) (ak (aP T 3 rfl (aR (aa (c5 (aa (ad T 1 rfl)) (aa af))) (aa (bG T 2 rfl b_len (aa (ad T 0 rfl))))))
      (ak (aP T 4 rfl (aw C14 hr T 3 rfl (ae (aX T.hu (aa (ad T 0 rfl)) (aa (ad T 3 rfl)) (fun _ _=>rfl)) (ae (c5 (aa (c5 (aa (ad T 1 rfl)) (aa af))) (aa (bG T 2 rfl b_len (aa (ad T 0 rfl))))) (ae (gc (aa (ad T 2 rfl)) (aa af)) aj))) rfl (ah (ah (ah ap)))))
      (ao (ax (aK (aa (aK (aa (dU (aa (ad T 0 rfl)) eP (eJ (ad T 3 rfl)))) (aa (bj (ae (ad T 4 rfl) aj))))) (aa (dU (aa (ad T 0 rfl)) (eJ (aK (aa (ad T 3 rfl)) (aa af))) eP))))))) bi)
      (ak (bM (dG (dL (aW (bL T 0 rfl b_isinstance T 1 rfl b_tuple (aa (ad T 0 rfl)))) (dL (ie (aa (bG T 2 rfl b_len (aa (ad T 0 rfl)))) (aa af)) (gA (gV T.hu (aa (aR (aa (c5 (aa (ad T 1 rfl)) (aa af))) (aa af))) (aa af)))))) (ao (ax (aX T.hu (cI (bB (ae (iX (mE T 4 rfl b_list (aa (ad T 0 rfl)))) (ae (dU (aa (ad T 0 rfl)) eP (eJ (dQ (aa af)))) (ae (aK (aa (ad T 0 rfl)) (aa (dU (aa (ad T 0 rfl)) (eJ (dQ (aa af))) eP))) (ae (dU (aa (ad T 0 rfl)) (eJ af) eP) (ae (pY (aa (ad T 0 rfl))) (ae (cb (aa (ad T 0 rfl)) (aa af)) aj)))))))) (aa (aR (aa (c5 (aa (ad T 1 rfl)) (aa af))) (aa af))) (fun _ _=>rfl)))) bi)
      (ak (bM (dG (dL (aW (fD T 0 rfl b_isinstance T 5 rfl b_int (aa (ad T 0 rfl)))) (gA (gV T.hu (aa (aR (aa (c5 (aa (ad T 1 rfl)) (aa af))) (aa af))) (aa af))))) (ao (ax (aX T.hu (cI (bB (ae (pj T 6 rfl b_str (aa (ad T 0 rfl))) (ae (dQ (aa (ad T 0 rfl))) (ae (cb (aa (ad T 0 rfl)) (aa af)) (ae (kS T.hu (aa (ad T 0 rfl)) (aa af)) (ae (aK (aa (ad T 0 rfl)) (aa af)) aj))))))) (aa (aR (aa (c5 (aa (ad T 1 rfl)) (aa af))) (aa af))) (fun _ _=>rfl)))) bi)
      (ao (ax (aw C13 hr T 7 rfl (ae (c5 (aa (ad T 1 rfl)) (aa af)) aj) rfl (ah ap)))))))
theorem jZ:aO ["_law_number_here","_law_count","_law_states","_law_k","_law_steps"] ["_law_number_here"] (al dk):=⟨rfl,rfl,rfl,by decide +kernel,rfl,by decide +kernel,by decide +kernel⟩
theorem jY (W:gf K "_law_watcher" "_law_watcher" dk f fd) {f12:Addr} {d12:FuncData} {ay:gD} (C12:gN P w K mg base k "_law_drawn" ["_law_number_here","_law_k"] ay f12 d12) (b_range:mg "range" = none) (b_tuple:mg "tuple" = none) :
    aU P w K mg base (cM P w mg) (k+1) f fd ["_law_number_here"] (da (df 5 (eu ay)) 1):=by
  refine aC W jZ (G:=["range","_law_drawn","tuple"]) (by decide +kernel) fun cdv A outer s H E hr T=>?_
  exact (ak (aP T 1 rfl (aK (aa af) (aa (aR (aa (ad T 0 rfl)) (aa af)))))
      (ak (fW T 2 rfl (bB aj))
      (ak (di (have T:=T.nox;dS PassesOwn.never T.calm (cT T 0 rfl b_range (ae (ad T 1 rfl) aj) (ah ap)) (bc T 3 rfl) (ak (jI (iy 4 rfl (N:=["_law_mark","_law_number_here","_law_k","_law_count"]) (own:=1) (G:=["_law_drawn"]) (fr:=[0,3,1]) T rfl rfl (oN:=["_law_number_here","_law_count","_law_states","_law_k","_law_steps"]) (on:=(al dk).names) (by decide +kernel) (cT T 0 rfl b_range (ae af aj) (ah ap)) (cF (by decide)) (fun cl C s' H' fp E' T=>⟨(bc T 0 rfl),dA,(aR (aa (aw C12 hr T 0 rfl (ae (ad T 1 rfl) (ae (aK (aa (cb (aa af) (aa (ad T 2 rfl)))) (aa (ad T 0 rfl))) aj)) rfl (ah (ah ap)))) (aa (ad T 3 rfl)))⟩)) (show 4 < 5 by decide))
      (ao (du T 2 rfl (bj (ae (aR (aa (aR (aa (aw C12 hr T 1 rfl (ae (ad T 0 rfl) (ae (aK (aa af) (aa (ad T 3 rfl))) aj)) rfl (ah (ah ap)))) (aa af))) (aa af)) (ae (bZ T 2 rfl b_tuple (aa (ad T 4 rfl))) aj))))))))
      (ao (ax (bZ T 2 rfl b_tuple (dW T 2 rfl)))))))
theorem mj:aO ["thing","count"] ["thing","count"] (al eh):=⟨rfl,rfl,rfl,by decide +kernel,rfl,by decide +kernel,by decide +kernel⟩
theorem l6 (W:gf K "are_steps" "are_steps" eh f fd) {f1:Addr} {d1:FuncData} {av:gD} (C1:gN P w K mg base k "is_between" ["thing","low","high"] av f1 d1) {f3:Addr} {d3:FuncData} {am:gD} (C3:gN P w K mg base k "is_tuple_of" ["thing","least","most"] am f3 d3) {t_COUNT_OF_MARKS:Tok} (g_COUNT_OF_MARKS:mg "COUNT_OF_MARKS" = some (.int 13 t_COUNT_OF_MARKS)) (b_all:mg "all" = none) :
    aU P w K mg base (cM P w mg) (k+1) f fd ["thing","count"] (da (df 2 (fM av am)) 2):=by
  refine aC W mj (G:=["is_tuple_of","COUNT_OF_MARKS","all"]) (by decide +kernel) fun cdv A outer s H E hr T=>?_
  exact (ak (bM (bp (aW (aw C3 hr T 0 rfl (ae (ad T 0 rfl) (ae (bR T 1 rfl g_COUNT_OF_MARKS) (ae (bR T 1 rfl g_COUNT_OF_MARKS) aj))) rfl (ah (ah (ah ap)))))) (ao (ax bd)) bi)
      (ao (ax (jx T 2 rfl b_all (cI (cy (N:=["step","count"]) (own:=1) (G:=["is_between"]) (fr:=[1]) T rfl rfl (oN:=["thing","count"]) (on:=(al eh).names) (by decide +kernel) (cO (ad T 0 rfl)) (cF (by decide)) (fun cl C s' H' fp E' T=>⟨(bc T 0 rfl),dA,(aw C1 hr T 0 rfl (ae (ad T 0 rfl) (ae af (ae (gc (aa (ad T 1 rfl)) (aa af)) aj))) rfl (ah (ah (ah ap))))⟩)))))))
theorem na:aO ["thing","count"] ["thing","count"] (al gL):=⟨rfl,rfl,rfl,by decide +kernel,rfl,by decide +kernel,by decide +kernel⟩
theorem mQ (W:gf K "is_state" "is_state" gL f fd) {f4:Addr} {d4:FuncData} {bS:gD} (C4:gN P w K mg base k "are_steps" ["thing","count"] bS f4 d4) {f1:Addr} {d1:FuncData} {av:gD} (C1:gN P w K mg base k "is_between" ["thing","low","high"] av f1 d1) {f3:Addr} {d3:FuncData} {am:gD} (C3:gN P w K mg base k "is_tuple_of" ["thing","least","most"] am f3 d3) {t_GOOD:Tok} (g_GOOD:mg "GOOD" = some (.int 0 t_GOOD)) {t_PARTS_OF_STATE:Tok} (g_PARTS_OF_STATE:mg "PARTS_OF_STATE" = some (.int 2 t_PARTS_OF_STATE)) {t_STEPS:Tok} (g_STEPS:mg "STEPS" = some (.int 1 t_STEPS)) :
    aU P w K mg base (cM P w mg) (k+1) f fd ["thing","count"] (da (df 2 (gI bS av am)) 2):=by
  refine aC W na (G:=["is_tuple_of","PARTS_OF_STATE","is_between","GOOD","are_steps","STEPS"]) (by decide +kernel) fun cdv A outer s H E hr T=>?_
  exact (ak (bM (bp (aW (aw C3 hr T 0 rfl (ae (ad T 0 rfl) (ae (bR T 1 rfl g_PARTS_OF_STATE) (ae (bR T 1 rfl g_PARTS_OF_STATE) aj))) rfl (ah (ah (ah ap)))))) (ao (ax bd)) bi)
      (ao (ax (dn (aw C1 hr T 2 rfl (ae (aX T.hu (aa (ad T 0 rfl)) (aa (bR T 3 rfl g_GOOD)) (fun _ _=>rfl)) (ae af (ae af aj))) rfl (ah (ah (ah ap)))) (dP (aw C4 hr T 4 rfl (ae (aX T.hu (aa (ad T 0 rfl)) (aa (bR T 5 rfl g_STEPS)) (fun _ _=>rfl)) (ae (ad T 1 rfl) aj)) rfl (ah (ah ap))))))))
theorem la:aO ["thing"] ["thing"] (al dF):=⟨rfl,rfl,rfl,by decide +kernel,rfl,by decide +kernel,by decide +kernel⟩
theorem ly (W:gf K "is_watcher" "is_watcher" dF f fd) {f5:Addr} {d5:FuncData} {bY:gD} (C5:gN P w K mg base k "is_state" ["thing","count"] bY f5 d5) {f3:Addr} {d3:FuncData} {am:gD} (C3:gN P w K mg base k "is_tuple_of" ["thing","least","most"] am f3 d3) {t_MOST_STATES:Tok} (g_MOST_STATES:mg "MOST_STATES" = some (.int 6 t_MOST_STATES)) (b_all:mg "all" = none) (b_len:mg "len" = none) :
    aU P w K mg base (cM P w mg) (k+1) f fd ["thing"] (da (df 1 (e9 bY am)) 1):=by
  refine aC W la (G:=["is_tuple_of","MOST_STATES","all"]) (by decide +kernel) fun cdv A outer s H E hr T=>?_
  exact (ao (ax (dn (aw C3 hr T 0 rfl (ae (ad T 0 rfl) (ae af (ae (bR T 1 rfl g_MOST_STATES) aj))) rfl (ah (ah (ah ap)))) (dP (jx T 2 rfl b_all (cI (cy (N:=["state","thing"]) (own:=1) (G:=["is_state","len"]) (fr:=[0]) T rfl rfl (oN:=["thing"]) (on:=(al dF).names) (by decide +kernel) (cO (ad T 0 rfl)) (cF (by decide)) (fun cl C s' H' fp E' T=>⟨(bc T 0 rfl),dA,(aw C5 hr T 0 rfl (ae (ad T 0 rfl) (ae (bG T 1 rfl b_len (aa (ad T 1 rfl))) aj)) rfl (ah (ah ap)))⟩))))))))
theorem l9:aO ["watcher","marks","states","state","mark"] ["watcher","marks"] (al fO):=⟨rfl,rfl,rfl,by decide +kernel,rfl,by decide +kernel,by decide +kernel⟩
theorem lR (W:gf K "states_of" "states_of" fO f fd) {t_STEPS:Tok} (g_STEPS:mg "STEPS" = some (.int 1 t_STEPS)) (b_tuple:mg "tuple" = none) :
    aU P w K mg base (cM P w mg) (k+1) f fd ["watcher","marks"] (da (df 5 (fZ)) 2):=by
  refine aC W l9 (G:=["STEPS","tuple"]) (by decide +kernel) fun cdv A outer s H E hr T=>?_
  exact (ak (fW T 2 rfl (bB aj))
      (ak (aP T 3 rfl af)
      (ak (di (have T:=T.nox;dS PassesOwn.never T.calm (cO (ad T 1 rfl)) (bc T 4 rfl) (ak (aP T 3 rfl (aX T.hu (aa (aX T.hu (aa (aX T.hu (aa (ad T 0 rfl)) (aa (ad T 3 rfl)) (fun _ _=>rfl))) (aa (bR T 0 rfl g_STEPS)) (fun _ _=>rfl))) (aa (ad T 4 rfl)) (fun _ _=>rfl)))
      (ao (du T 2 rfl (ad T 3 rfl))))))
      (ao (ax (bZ T 1 rfl b_tuple (dW T 2 rfl)))))))
theorem vS:aO ["_law_script","_law_watcher_here","_law_marks","_law_state","_law_due","_law_mark","_law_thing","_law_found","_law_groups_here","_law_odd_here","_law_made","_law_goods"] ["_law_script"] (al fN):=⟨rfl,rfl,rfl,by decide +kernel,rfl,by decide +kernel,by decide +kernel⟩
theorem vd (W:gf K "law" "law" fN f fd) {f16:Addr} {d16:FuncData} {br:gD} (C16:gN P w K mg base k "_law_groups" ["_law_number_here"] br f16 d16) {f18:Addr} {d18:FuncData} {aI:gD} (C18:gN P w K mg base k "_law_is_watcher" ["_law_thing"] aI f18 d18) {f11:Addr} {d11:FuncData} {aE:gD} (C11:gN P w K mg base k "_law_mixed" ["_law_script","_law_k"] aE f11 d11) {f19:Addr} {d19:FuncData} {ba:gD} (C19:gN P w K mg base k "_law_refused" ["_law_groups_here"] ba f19 d19) {f20:Addr} {d20:FuncData} {bt:gD} (C20:gN P w K mg base k "_law_rounds" ["_law_groups_here","_law_marks"] bt f20 d20) {f14:Addr} {d14:FuncData} {aG:gD} (C14:gN P w K mg base k "_law_spoilt" ["_law_thing","_law_number_here","_law_deep"] aG f14 d14) {f15:Addr} {d15:FuncData} {aZ:gD} (C15:gN P w K mg base k "_law_watcher" ["_law_number_here"] aZ f15 d15) {f6:Addr} {d6:FuncData} {bq:gD} (C6:gN P w K mg base k "is_watcher" ["thing"] bq f6 d6) {f7:Addr} {d7:FuncData} {bx:gD} (C7:gN P w K mg base k "states_of" ["watcher","marks"] bx f7 d7) {f9:Addr} {d9:FuncData} {aB:gD} (C9:gN P w K mg base k "watcher_of" ["groups"] aB f9 d9) (b_bool:mg "bool" = none) (b_isinstance:mg "isinstance" = none) (b_len:mg "len" = none) (b_min:mg "min" = none) (b_range:mg "range" = none) (b_tuple:mg "tuple" = none) :
    aU P w K mg base (cM P w mg) (k+1) f fd ["_law_script"] (da (df 12 (n3 br aI aE ba bt aG aZ bq bx aB)) 1):=by
  refine aC W vS (G:=["_law_watcher","_law_mixed","tuple","range","min","len","states_of","_law_spoilt","is_watcher","isinstance","bool","_law_is_watcher","_law_groups","watcher_of","_law_refused","_law_rounds"]) (by decide +kernel) fun cdv A outer s H E hr T=>?_
  exact (ak (aP T 1 rfl (aw C15 hr T 0 rfl (ae (aw C11 hr T 1 rfl (ae (ad T 0 rfl) (ae af aj)) rfl (ah (ah ap))) aj) rfl (ah ap)))
      (ak (aP T 2 rfl (bZ T 2 rfl b_tuple (cI (cy (N:=["_law_k","_law_script"]) (own:=1) (G:=["_law_mixed"]) (fr:=[0]) T rfl rfl (oN:=["_law_script","_law_watcher_here","_law_marks","_law_state","_law_due","_law_mark","_law_thing","_law_found","_law_groups_here","_law_odd_here","_law_made","_law_goods"]) (on:=(al fN).names) (by decide +kernel) (cT T 3 rfl b_range (ae (qS T 4 rfl b_min (aa af) (aa (bG T 5 rfl b_len (aa (ad T 0 rfl))))) aj) (ah ap)) (cF (by decide)) (fun cl C s' H' fp E' T=>⟨(bc T 0 rfl),dA,(aR (aa (aw C11 hr T 0 rfl (ae (ad T 1 rfl) (ae (aK (aa af) (aa (ad T 0 rfl))) aj)) rfl (ah (ah ap)))) (aa af))⟩)))))
      (ak (aP T 3 rfl af)
      (ak (fW T 4 rfl (bB aj))
      (ak (di (have T:=T.nox;dS PassesOwn.never T.calm (cO (ad T 2 rfl)) (bc T 5 rfl) (ak (aP T 3 rfl (aX T.hu (aa (aX T.hu (aa (aX T.hu (aa (ad T 1 rfl)) (aa (ad T 3 rfl)) (fun _ _=>rfl))) (aa af) (fun _ _=>rfl))) (aa (ad T 5 rfl)) (fun _ _=>rfl)))
      (ao (du T 4 rfl (ad T 3 rfl))))))
      (ak (bM (eK T.hu (aa (aw C7 hr T 6 rfl (ae (ad T 1 rfl) (ae (ad T 2 rfl) aj)) rfl (ah (ah ap)))) (aa (bZ T 2 rfl b_tuple (dW T 4 rfl)))) (ao (ax bd)) bi)
      (ak (aP T 6 rfl (ad T 1 rfl))
      (ak (bM (gV T.hu (aa (aR (aa (aw C11 hr T 1 rfl (ae (ad T 0 rfl) (ae af aj)) rfl (ah (ah ap)))) (aa af))) (aa af)) (ao (aP T 6 rfl (aw C14 hr T 7 rfl (ae (ad T 1 rfl) (ae (aw C11 hr T 1 rfl (ae (ad T 0 rfl) (ae af aj)) rfl (ah (ah ap))) (ae (aR (aa (c5 (aa (aw C11 hr T 1 rfl (ae (ad T 0 rfl) (ae af aj)) rfl (ah (ah ap)))) (aa af))) (aa af)) aj))) rfl (ah (ah (ah ap)))))) bi)
      (ak (aP T 7 rfl (aw C6 hr T 8 rfl (ae (ad T 6 rfl) aj) rfl (ah ap)))
      (ak (bM (dG (dq (bp (aW (eH T 9 rfl b_isinstance T 10 rfl b_bool (aa (ad T 7 rfl))))) (dJ (eK T.hu (aa (ad T 7 rfl)) (aa (aw C18 hr T 11 rfl (ae (ad T 6 rfl) aj) rfl (ah ap))))))) (ao (ax bd)) bi)
      (ak (aP T 8 rfl (aw C16 hr T 12 rfl (ae (aw C11 hr T 1 rfl (ae (ad T 0 rfl) (ae af aj)) rfl (ah (ah ap))) aj) rfl (ah ap)))
      (ak (aP T 9 rfl (aX T.hu (cI (bB (ae (bj aj) (ae (cb (aa (bj (ae (aX T.hu (aa (ad T 8 rfl)) (aa af) (fun _ _=>rfl)) aj))) (aa af)) (ae (iX (bB (ae (aX T.hu (aa (ad T 8 rfl)) (aa af) (fun _ _=>rfl)) aj))) (ae (bj (ae (bj (ae af aj)) aj)) (ae (bj (ae (bj (ae (dQ (aa af)) aj)) aj)) (ae (bj (ae (bj (ae af (ae af aj))) aj)) (ae (bj (ae ij aj)) (ae ij aj)))))))))) (aa (aR (aa (aw C11 hr T 1 rfl (ae (ad T 0 rfl) (ae af aj)) rfl (ah (ah ap)))) (aa af))) (fun _ _=>rfl)))
      (ak (aP T 10 rfl (aw C9 hr T 13 rfl (ae (ad T 8 rfl) aj) rfl (ah ap)))
      (ak (bM (dG (dq (bp (aW (aw C19 hr T 14 rfl (ae (ad T 9 rfl) aj) rfl (ah ap)))) (dq (bp (aW (aw C18 hr T 11 rfl (ae (ad T 10 rfl) aj) rfl (ah ap)))) (dJ (eK T.hu (aa (bG T 5 rfl b_len (aa (ad T 10 rfl)))) (aa (aK (aa (bG T 5 rfl b_len (aa (ad T 8 rfl)))) (aa af)))))))) (ao (ax bd)) bi)
      (ak (jI (iy 11 rfl (N:=["_law_state"]) (own:=1) (G:=[]) (fr:=[]) T rfl rfl (oN:=["_law_script","_law_watcher_here","_law_marks","_law_state","_law_due","_law_mark","_law_thing","_law_found","_law_groups_here","_law_odd_here","_law_made","_law_goods"]) (on:=(al fN).names) (by decide +kernel) (cO (ad T 10 rfl)) (cF (by decide)) (fun cl C s' H' fp E' T=>⟨(bc T 0 rfl),dA,(aX T.hu (aa (ad T 0 rfl)) (aa af) (fun _ _=>rfl))⟩)) (show 11 < 12 by decide))
      (ao (ax (dn (kS T.hu (aa (ad T 11 rfl)) (aa (aK (cI (nH (bB (ae af aj)) (bG T 5 rfl b_len (aa (ad T 8 rfl))))) (cI (bB (ae af aj)))))) (dP (kS T.hu (aa (aw C7 hr T 6 rfl (ae (ad T 10 rfl) (ae (ad T 2 rfl) aj)) rfl (ah (ah ap)))) (aa (aw C20 hr T 15 rfl (ae (ad T 8 rfl) (ae (ad T 2 rfl) aj)) rfl (ah (ah ap))))))))))))))))))))))))
end
theorem uX {l:PySem.W.OpenLaw} {w:World} {K:PySem.W.Frag} {h:Heap} {mg:Str->Option Value} {fa:Addr} (X:K.In h) (G:h.Ns mainGlobals mg) (hfa:mg "law" = some (.ref fa))
    {f21:Addr} {od21 an21:Option Addr} {sl21:Array (Option Value)} {oc21 kV21 dc21 pm21 cd21 ct21:Value}
    {f0:Addr} {d0:FuncData} (q0:cK K "_law_drawn" fQ f0 d0)
    {f1:Addr} {d1:FuncData} (q1:cK K "_law_groups" dE f1 d1)
    {f2:Addr} {d2:FuncData} (q2:cK K "_law_number" e8 f2 d2)
    {f3:Addr} {d3:FuncData} (q3:cK K "_law_is_watcher" cJ f3 d3)
    {f4:Addr} {d4:FuncData} (q4:cK K "_law_cell_at" eD f4 d4)
    {f5:Addr} {d5:FuncData} (q5:cK K "_law_mixed" fK f5 d5)
    {f6:Addr} {d6:FuncData} (q6:cK K "is_whole" gy f6 d6)
    {f7:Addr} {d7:FuncData} (q7:cK K "is_between" ff f7 d7)
    {f8:Addr} {d8:FuncData} (q8:cK K "are_some" gK f8 d8)
    {f9:Addr} {d9:FuncData} (q9:cK K "is_tuple_of" eI f9 d9)
    {f10:Addr} {d10:FuncData} (q10:cK K "steps_by" fe f10 d10)
    {f11:Addr} {d11:FuncData} (q11:cK K "watcher_of" c8 f11 d11)
    {f12:Addr} {d12:FuncData} (q12:cK K "_law_refused" eB f12 d12)
    {f13:Addr} {d13:FuncData} (q13:cK K "_law_rounds" eW f13 d13)
    {f14:Addr} {d14:FuncData} (q14:cK K "_law_odd" il f14 d14)
    {f15:Addr} {d15:FuncData} (q15:cK K "_law_spoilt" fq f15 d15)
    {f16:Addr} {d16:FuncData} (q16:cK K "_law_watcher" dk f16 d16)
    {f17:Addr} {d17:FuncData} (q17:cK K "are_steps" eh f17 d17)
    {f18:Addr} {d18:FuncData} (q18:cK K "is_state" gL f18 d18)
    {f19:Addr} {d19:FuncData} (q19:cK K "is_watcher" dF f19 d19)
    {f20:Addr} {d20:FuncData} (q20:cK K "states_of" fO f20 d20)
    (a21:PySem.W.nsIn K mainGlobals "law" = some (some (.ref f21))) (l21:K.lookup f21=some ⟨oc21,od21,.func (PySem.W.fnOf "law" "law" (c0 fN) (cg fN) (al fN) .none kV21 dc21 pm21 an21 cd21 ct21),sl21⟩) (c21:PySem.W.codeIn K cd21 "law" = true) (k21:PySem.W.keepIn K (.ref f21)=true)
    {t0:Tok} (qg0:PySem.W.nsIn K mainGlobals "COUNT_OF_MARKS" = some (some (.int 13 t0)))
    {t1:Tok} (qg1:PySem.W.nsIn K mainGlobals "GOOD" = some (some (.int 0 t1)))
    {t2:Tok} (qg2:PySem.W.nsIn K mainGlobals "MOST_STATES" = some (some (.int 6 t2)))
    {t3:Tok} (qg3:PySem.W.nsIn K mainGlobals "PARTS_OF_STATE" = some (some (.int 2 t3)))
    {t4:Tok} (qg4:PySem.W.nsIn K mainGlobals "STEPS" = some (some (.int 1 t4)))
    (qz0:PySem.W.nsIn K mainGlobals "all" = some none)
    (qz1:PySem.W.nsIn K mainGlobals "bool" = some none)
    (qz2:PySem.W.nsIn K mainGlobals "enumerate" = some none)
    (qz3:PySem.W.nsIn K mainGlobals "int" = some none)
    (qz4:PySem.W.nsIn K mainGlobals "isinstance" = some none)
    (qz5:PySem.W.nsIn K mainGlobals "len" = some none)
    (qz6:PySem.W.nsIn K mainGlobals "list" = some none)
    (qz7:PySem.W.nsIn K mainGlobals "min" = some none)
    (qz8:PySem.W.nsIn K mainGlobals "range" = some none)
    (qz9:PySem.W.nsIn K mainGlobals "str" = some none)
    (qz10:PySem.W.nsIn K mainGlobals "tuple" = some none)
    {cc0:Addr} (qm0:PySem.W.nsIn K mainGlobals "GroundError" = some (some (.ref cc0))) (qq0:PySem.W.excIn K cc0 pF oX=true)
    {cc1:Addr} (qm1:PySem.W.nsIn K mainGlobals "NoWatcher" = some (some (.ref cc1))) (qq1:PySem.W.excIn K cc1 pF oX=true)
    (qs0:(Value.ref cc1::fY K cc1).contains (.ref cc1)=true)
    (qk0:PySem.W.kitOne K (.ref cc1) (.ref cc0)=some true)
    (nl:i5 K=true) :
    i5 K=true/\∃ fd:FuncData,(∀ (s:Shared) (v:Value),BindsTo s fd ⟨[v],[]⟩ [("_law_script",v)])/\∀ base:Heap,K.In base->base.Ns mainGlobals mg->aU l.prog w K mg base (cM l.prog w mg) 17 fa fd ["_law_script"] (da nU 1):=by
  have e:=hfa.symm.trans (PySem.W.mg_of X G a21);cases e;have b0:bH K d0 ["_law_number_here","_law_k"] []:=rd q0.fn fun _ _ _ _ _ _ _ _=>rfl
  have m0:=PySem.W.mg_of X G q0.ns;have b1:bH K d1 ["_law_number_here"] []:=s9 q1.fn fun _ _ _ _ _ _ _=>rfl
  have m1:=PySem.W.mg_of X G q1.ns;have b2:bH K d2 ["_law_thing","_law_high"] []:=rd q2.fn fun _ _ _ _ _ _ _ _=>rfl
  have m2:=PySem.W.mg_of X G q2.ns;have b3:bH K d3 ["_law_thing"] []:=s9 q3.fn fun _ _ _ _ _ _ _=>rfl
  have m3:=PySem.W.mg_of X G q3.ns;have b4:bH K d4 ["_law_script","_law_k"] []:=rd q4.fn fun _ _ _ _ _ _ _ _=>rfl
  have m4:=PySem.W.mg_of X G q4.ns;have b5:bH K d5 ["_law_script","_law_k"] []:=rd q5.fn fun _ _ _ _ _ _ _ _=>rfl
  have m5:=PySem.W.mg_of X G q5.ns;have b6:bH K d6 ["thing"] []:=s9 q6.fn fun _ _ _ _ _ _ _=>rfl
  have m6:=PySem.W.mg_of X G q6.ns;have b7:bH K d7 ["thing","low","high"] []:=wv q7.fn fun _ _ _ _ _ _ _ _ _=>rfl
  have m7:=PySem.W.mg_of X G q7.ns;have b8:bH K d8 ["thing","count"] []:=rd q8.fn fun _ _ _ _ _ _ _ _=>rfl
  have m8:=PySem.W.mg_of X G q8.ns;have b9:bH K d9 ["thing","least","most"] []:=wv q9.fn fun _ _ _ _ _ _ _ _ _=>rfl
  have m9:=PySem.W.mg_of X G q9.ns;have b10:bH K d10 ["group","state"] []:=rd q10.fn fun _ _ _ _ _ _ _ _=>rfl
  have m10:=PySem.W.mg_of X G q10.ns;have b11:bH K d11 ["groups"] []:=s9 q11.fn fun _ _ _ _ _ _ _=>rfl
  have m11:=PySem.W.mg_of X G q11.ns;have b12:bH K d12 ["_law_groups_here"] []:=s9 q12.fn fun _ _ _ _ _ _ _=>rfl
  have m12:=PySem.W.mg_of X G q12.ns;have b13:bH K d13 ["_law_groups_here","_law_marks"] []:=rd q13.fn fun _ _ _ _ _ _ _ _=>rfl
  have m13:=PySem.W.mg_of X G q13.ns;have b14:bH K d14 ["_law_number_here"] []:=s9 q14.fn fun _ _ _ _ _ _ _=>rfl
  have m14:=PySem.W.mg_of X G q14.ns;have b15:bH K d15 ["_law_thing","_law_number_here","_law_deep"] []:=wv q15.fn fun _ _ _ _ _ _ _ _ _=>rfl
  have m15:=PySem.W.mg_of X G q15.ns;have b16:bH K d16 ["_law_number_here"] []:=s9 q16.fn fun _ _ _ _ _ _ _=>rfl
  have m16:=PySem.W.mg_of X G q16.ns;have b17:bH K d17 ["thing","count"] []:=rd q17.fn fun _ _ _ _ _ _ _ _=>rfl
  have m17:=PySem.W.mg_of X G q17.ns;have b18:bH K d18 ["thing","count"] []:=rd q18.fn fun _ _ _ _ _ _ _ _=>rfl
  have m18:=PySem.W.mg_of X G q18.ns;have b19:bH K d19 ["thing"] []:=s9 q19.fn fun _ _ _ _ _ _ _=>rfl
  have m19:=PySem.W.mg_of X G q19.ns;have b20:bH K d20 ["watcher","marks"] []:=rd q20.fn fun _ _ _ _ _ _ _ _=>rfl
  have m20:=PySem.W.mg_of X G q20.ns;have F21:=qN (st:=fN) l21 c21 k21;have h0:=PySem.W.mg_of X G qg0;have h1:=PySem.W.mg_of X G qg1;have h2:=PySem.W.mg_of X G qg2;have h3:=PySem.W.mg_of X G qg3;have h4:=PySem.W.mg_of X G qg4;have n0:=PySem.W.mg_of X G qm0;have n1:=PySem.W.mg_of X G qm1;have y0:=PySem.W.mg_none_of X G qz0;have y1:=PySem.W.mg_none_of X G qz1;have y2:=PySem.W.mg_none_of X G qz2;have y3:=PySem.W.mg_none_of X G qz3;have y4:=PySem.W.mg_none_of X G qz4;have y5:=PySem.W.mg_none_of X G qz5;have y6:=PySem.W.mg_none_of X G qz6;have y7:=PySem.W.mg_none_of X G qz7;have y8:=PySem.W.mg_none_of X G qz8;have y9:=PySem.W.mg_none_of X G qz9;have y10:=PySem.W.mg_none_of X G qz10;refine ⟨nl,PySem.W.fnOf "law" "law" (c0 fN) (cg fN) (al fN) .none kV21 dc21 pm21 an21 cd21 ct21,fun s v=>.of_eq rfl,fun base _ _=>?_⟩;have Q0:aU l.prog w K mg base (cM l.prog w mg) 1 f0 _ ["_law_number_here","_law_k"] (da ay 2):=lJ (k:=0) (W:=q0.fn);have Q1:aU l.prog w K mg base (cM l.prog w mg) 2 f1 _ ["_law_number_here"] (da br 1):=lp (k:=1) (W:=q1.fn) (C12:=⟨Q0.mono (by decide),m0,q0.fn.kp,b0⟩) (b_range:=y8) (b_tuple:=y10);have Q2:aU l.prog w K mg base (cM l.prog w mg) 1 f2 _ ["_law_thing","_law_high"] (da aQ 2):=k8 (k:=0) (W:=q2.fn) (b_bool:=y1) (b_int:=y3) (b_isinstance:=y4);have Q3:aU l.prog w K mg base (cM l.prog w mg) 2 f3 _ ["_law_thing"] (da aI 1):=ik (k:=1) (W:=q3.fn) (C17:=⟨Q2.mono (by decide),m2,q2.fn.kp,b2⟩) (b_isinstance:=y4) (b_len:=y5) (b_tuple:=y10);have Q4:aU l.prog w K mg base (cM l.prog w mg) 1 f4 _ ["_law_script","_law_k"] (da bw 2):=j5 (k:=0) (W:=q4.fn) (b_len:=y5);have Q5:aU l.prog w K mg base (cM l.prog w mg) 2 f5 _ ["_law_script","_law_k"] (da aE 2):=mm (k:=1) (W:=q5.fn) (C10:=⟨Q4.mono (by decide),m4,q4.fn.kp,b4⟩);have Q6:aU l.prog w K mg base (cM l.prog w mg) 1 f6 _ ["thing"] (da cD 1):=mI (k:=0) (W:=q6.fn) (b_bool:=y1) (b_int:=y3) (b_isinstance:=y4);have Q7:aU l.prog w K mg base (cM l.prog w mg) 2 f7 _ ["thing","low","high"] (da av 3):=lw (k:=1) (W:=q7.fn) (C0:=⟨Q6.mono (by decide),m6,q6.fn.kp,b6⟩);have Q8:aU l.prog w K mg base (cM l.prog w mg) 3 f8 _ ["thing","count"] (da bF 2):=nc (k:=2) (W:=q8.fn) (C1:=⟨Q7.mono (by decide),m7,q7.fn.kp,b7⟩) (b_isinstance:=y4) (b_tuple:=y10);have Q9:aU l.prog w K mg base (cM l.prog w mg) 1 f9 _ ["thing","least","most"] (da am 3):=j7 (k:=0) (W:=q9.fn) (b_isinstance:=y4) (b_len:=y5) (b_tuple:=y10);have Q10:aU l.prog w K mg base (cM l.prog w mg) 1 f10 _ ["group","state"] (da ca 2):=mR (k:=0) (W:=q10.fn) (g_COUNT_OF_MARKS:=h0) (b_range:=y8) (b_tuple:=y10);have Q11:aU l.prog w K mg base (cM l.prog w mg) 4 f11 _ ["groups"] (da aB 1):=kY (k:=3) (W:=q11.fn) (C2:=⟨Q8.mono (by decide),m8,q8.fn.kp,b8⟩) (C3:=⟨Q9.mono (by decide),m9,q9.fn.kp,b9⟩) (C8:=⟨Q10.mono (by decide),m10,q10.fn.kp,b10⟩) (g_COUNT_OF_MARKS:=h0) (g_MOST_STATES:=h2) (g_STEPS:=h4) (b_all:=y0) (b_enumerate:=y2) (b_tuple:=y10) (m_NoWatcher:=n1) (q_NoWatcher:=qq1);have Q12:aU l.prog w K mg base (cM l.prog w mg) 5 f12 _ ["_law_groups_here"] (da ba 1):=j6 (k:=4) (W:=q12.fn) (C9:=⟨Q11.mono (by decide),m11,q11.fn.kp,b11⟩) (b_isinstance:=y4) (m_GroundError:=n0) (q_GroundError:=qq0) (m_NoWatcher:=n1) (q_NoWatcher:=qq1) (b_NoWatcher_NoWatcher:=qs0) (k_NoWatcher_GroundError:=qk0);have Q13:aU l.prog w K mg base (cM l.prog w mg) 1 f13 _ ["_law_groups_here","_law_marks"] (da bt 2):=li (k:=0) (W:=q13.fn) (b_len:=y5) (b_tuple:=y10);have Q14:aU l.prog w K mg base (cM l.prog w mg) 1 f14 _ ["_law_number_here"] (da bK 1):=oB (k:=0) (W:=q14.fn);have Q15:∀ n,n<=14->aU l.prog w K mg base (cM l.prog w mg) (2+n) f15 _ ["_law_thing","_law_number_here","_law_deep"] (da (aG n) 3):=fun n=>by
    induction n with
    | zero=>exact fun _=>pv
    | succ n ih=>exact fun hn=>kM (k:=2+n) (W:=q15.fn) (C14:=⟨ih (by omega),m15,q15.fn.kp,b15⟩) (C13:=⟨Q14.mono (by omega),m14,q14.fn.kp,b14⟩) (b_int:=y3) (b_isinstance:=y4) (b_len:=y5) (b_list:=y6) (b_str:=y9) (b_tuple:=y10)
  have Q15:=Q15 14 (Nat.le_refl _);have Q16:aU l.prog w K mg base (cM l.prog w mg) 2 f16 _ ["_law_number_here"] (da aZ 1):=jY (k:=1) (W:=q16.fn) (C12:=⟨Q0.mono (by decide),m0,q0.fn.kp,b0⟩) (b_range:=y8) (b_tuple:=y10);have Q17:aU l.prog w K mg base (cM l.prog w mg) 3 f17 _ ["thing","count"] (da bS 2):=l6 (k:=2) (W:=q17.fn) (C1:=⟨Q7.mono (by decide),m7,q7.fn.kp,b7⟩) (C3:=⟨Q9.mono (by decide),m9,q9.fn.kp,b9⟩) (g_COUNT_OF_MARKS:=h0) (b_all:=y0);have Q18:aU l.prog w K mg base (cM l.prog w mg) 4 f18 _ ["thing","count"] (da bY 2):=mQ (k:=3) (W:=q18.fn) (C4:=⟨Q17.mono (by decide),m17,q17.fn.kp,b17⟩) (C1:=⟨Q7.mono (by decide),m7,q7.fn.kp,b7⟩) (C3:=⟨Q9.mono (by decide),m9,q9.fn.kp,b9⟩) (g_GOOD:=h1) (g_PARTS_OF_STATE:=h3) (g_STEPS:=h4);have Q19:aU l.prog w K mg base (cM l.prog w mg) 5 f19 _ ["thing"] (da bq 1):=ly (k:=4) (W:=q19.fn) (C5:=⟨Q18.mono (by decide),m18,q18.fn.kp,b18⟩) (C3:=⟨Q9.mono (by decide),m9,q9.fn.kp,b9⟩) (g_MOST_STATES:=h2) (b_all:=y0) (b_len:=y5);have Q20:aU l.prog w K mg base (cM l.prog w mg) 1 f20 _ ["watcher","marks"] (da bx 2):=lR (k:=0) (W:=q20.fn) (g_STEPS:=h4) (b_tuple:=y10);have Q21:aU l.prog w K mg base (cM l.prog w mg) 17 fa _ ["_law_script"] (da nU 1):=vd (k:=16) (W:=F21) (C16:=⟨Q1.mono (by decide),m1,q1.fn.kp,b1⟩) (C18:=⟨Q3.mono (by decide),m3,q3.fn.kp,b3⟩) (C11:=⟨Q5.mono (by decide),m5,q5.fn.kp,b5⟩) (C19:=⟨Q12.mono (by decide),m12,q12.fn.kp,b12⟩) (C20:=⟨Q13.mono (by decide),m13,q13.fn.kp,b13⟩) (C14:=⟨Q15.mono (by decide),m15,q15.fn.kp,b15⟩) (C15:=⟨Q16.mono (by decide),m16,q16.fn.kp,b16⟩) (C6:=⟨Q19.mono (by decide),m19,q19.fn.kp,b19⟩) (C7:=⟨Q20.mono (by decide),m20,q20.fn.kp,b20⟩) (C9:=⟨Q11.mono (by decide),m11,q11.fn.kp,b11⟩) (b_bool:=y1) (b_isinstance:=y4) (b_len:=y5) (b_min:=y7) (b_range:=y8) (b_tuple:=y10);exact Q21
end G
open PySem PySem.W PyProof.Rows
set_option maxRecDepth 100000 in
set_option maxHeartbeats 0 in
theorem PySem.Challenge.cw_duelground_k82_watchers_holds : PySem.Challenge.rw_duelground_k82_watchers.Holds := by
  w_on;o_law;k_head;(case hw=>w_witness2)
  k_fill
  refine D2.w5 (l:=PySem.Challenge.rw_duelground_k82_watchers) (k:=17) (x := "_law_script") (F:=G.nU) rfl rfl ⟨rfl,by decide,by decide⟩ (fun w h Y=>PySem.W.kIn_of Y) G.qr ?F
  case F =>
    intro w mg fa h KX GG hmg;refine' G.uX KX GG hmg ?q0 ?q1 ?q2 ?q3 ?q4 ?q5 ?q6 ?q7 ?q8 ?q9 ?q10 ?q11 ?q12 ?q13 ?q14 ?q15 ?q16 ?q17 ?q18 ?q19 ?q20 ?a21 ?l21 ?c21 ?k21 ?qg0 ?qg1 ?qg2 ?qg3 ?qg4 ?qz0 ?qz1 ?qz2 ?qz3 ?qz4 ?qz5 ?qz6 ?qz7 ?qz8 ?qz9 ?qz10 ?qm0 ?qq0 ?qm1 ?qq1 ?qs0 ?qk0 ?nl
    (case q0=>refine' D2.aT ?a ?l ?c ?k;(case a=>k_is);(case l=>k_is);(case c=>k_is);(case k=>k_is))
    (case q1=>refine' D2.aT ?a ?l ?c ?k;(case a=>k_is);(case l=>k_is);(case c=>k_is);(case k=>k_is))
    (case q2=>refine' D2.aT ?a ?l ?c ?k;(case a=>k_is);(case l=>k_is);(case c=>k_is);(case k=>k_is))
    (case q3=>refine' D2.aT ?a ?l ?c ?k;(case a=>k_is);(case l=>k_is);(case c=>k_is);(case k=>k_is))
    (case q4=>refine' D2.aT ?a ?l ?c ?k;(case a=>k_is);(case l=>k_is);(case c=>k_is);(case k=>k_is))
    (case q5=>refine' D2.aT ?a ?l ?c ?k;(case a=>k_is);(case l=>k_is);(case c=>k_is);(case k=>k_is))
    (case q6=>refine' D2.aT ?a ?l ?c ?k;(case a=>k_is);(case l=>k_is);(case c=>k_is);(case k=>k_is))
    (case q7=>refine' D2.aT ?a ?l ?c ?k;(case a=>k_is);(case l=>k_is);(case c=>k_is);(case k=>k_is))
    (case q8=>refine' D2.aT ?a ?l ?c ?k;(case a=>k_is);(case l=>k_is);(case c=>k_is);(case k=>k_is))
    (case q9=>refine' D2.aT ?a ?l ?c ?k;(case a=>k_is);(case l=>k_is);(case c=>k_is);(case k=>k_is))
    (case q10=>refine' D2.aT ?a ?l ?c ?k;(case a=>k_is);(case l=>k_is);(case c=>k_is);(case k=>k_is))
    (case q11=>refine' D2.aT ?a ?l ?c ?k;(case a=>k_is);(case l=>k_is);(case c=>k_is);(case k=>k_is))
    (case q12=>refine' D2.aT ?a ?l ?c ?k;(case a=>k_is);(case l=>k_is);(case c=>k_is);(case k=>k_is))
    (case q13=>refine' D2.aT ?a ?l ?c ?k;(case a=>k_is);(case l=>k_is);(case c=>k_is);(case k=>k_is))
    (case q14=>refine' D2.aT ?a ?l ?c ?k;(case a=>k_is);(case l=>k_is);(case c=>k_is);(case k=>k_is))
    (case q15=>refine' D2.aT ?a ?l ?c ?k;(case a=>k_is);(case l=>k_is);(case c=>k_is);(case k=>k_is))
    (case q16=>refine' D2.aT ?a ?l ?c ?k;(case a=>k_is);(case l=>k_is);(case c=>k_is);(case k=>k_is))
    (case q17=>refine' D2.aT ?a ?l ?c ?k;(case a=>k_is);(case l=>k_is);(case c=>k_is);(case k=>k_is))
    (case q18=>refine' D2.aT ?a ?l ?c ?k;(case a=>k_is);(case l=>k_is);(case c=>k_is);(case k=>k_is))
    (case q19=>refine' D2.aT ?a ?l ?c ?k;(case a=>k_is);(case l=>k_is);(case c=>k_is);(case k=>k_is))
    (case q20=>refine' D2.aT ?a ?l ?c ?k;(case a=>k_is);(case l=>k_is);(case c=>k_is);(case k=>k_is))
    (case a21=>k_is)
    (case l21=>k_is)
    (case c21=>k_is)
    (case k21=>k_is)
    (case qg0=>k_is)
    (case qg1=>k_is)
    (case qg2=>k_is)
    (case qg3=>k_is)
    (case qg4=>k_is)
    (case qz0=>k_is)
    (case qz1=>k_is)
    (case qz2=>k_is)
    (case qz3=>k_is)
    (case qz4=>k_is)
    (case qz5=>k_is)
    (case qz6=>k_is)
    (case qz7=>k_is)
    (case qz8=>k_is)
    (case qz9=>k_is)
    (case qz10=>k_is)
    (case qm0=>k_is)
    (case qq0=>k_exc)
    (case qm1=>k_is)
    (case qq1=>k_exc)
    (case qs0=>first | rfl | k_is | decide)
    (case qk0=>first | rfl | k_is | decide)
    (case nl=>first | rfl | k_is | decide)
